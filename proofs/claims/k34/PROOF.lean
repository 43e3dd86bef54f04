import PyProof.Rows.All
import Wide.All
import OpenK.AllK
import Wide.FinOn
import Lean
import PyProof.EqAt
import PyProof.EqKinds
import PyProof.TupleCall
import KE.KUnpack
import KE.KDictList
import KE.KIntText
import PyProof.ListMulAny
import KE.KEqDict
import PyProof.InstEq
import KE.KRevIter
import PySem.Challenge.RW_grantweave_k34_whole_any_text_read
set_option Elab.async false
set_option linter.all false
set_option maxRecDepth 100000
set_option maxHeartbeats 4000000
local macro_rules | `(tactic| trivial) => `(tactic| first | exact True.intro | exact Or.inl rfl | exact Or.inr rfl | exact Or.inr (Or.inl rfl) | exact Or.inr (Or.inr rfl) | exact ⟨rfl, by decide +kernel, by decide +kernel, by decide +kernel, by decide +kernel⟩ | exact ⟨rfl, rfl, rfl, by decide +kernel, rfl, by decide +kernel, by decide +kernel⟩)
namespace L2
open PySem PySem.Spec PyProof.Rows
abbrev Key:=Sum Int Str
def keyIs:Key->Value->Bool
 | .inl k,v=>Value.isInt k v
 | .inr x,v=>Value.isStrOf x v
def keyH (w:World):Key->Int
 | .inl k=>hashInt k
 | .inr x=>hashStr w x
theorem B0:∀ {k:Key} {v:Value},keyIs k v=true->(∃ i t,k=Sum.inl i/\v=Value.int i t)\/(∃ x t,k=Sum.inr x/\v=Value.str x t)
 | .inl i,v,h=>by
   obtain ⟨t,e⟩:=Value.isInt_shape (k:=i) (v:=v) h
   exact .inl ⟨i,t,rfl,e⟩
 | .inr x,v,h=>by
   obtain ⟨t,e⟩:=Value.isStrOf_shape (x:=x) (v:=v) h
   exact .inr ⟨x,t,rfl,e⟩
theorem keyIs_int (i:Int) (t:Tok):keyIs (.inl i) (.int i t)=true:=by simp [keyIs,Value.isInt]
theorem keyIs_str (x:Str) (t:Tok):keyIs (.inr x) (.str x t)=true:=by simp [keyIs,Value.isStrOf]
theorem key_ll (a b:Int):decide ((Sum.inl a:Key)=Sum.inl b)=(a == b):=by
 by_cases e:a=b
 ·subst e; simp
 ·have h:¬ (Sum.inl a:Key)=Sum.inl b:=fun q=>e (Sum.inl.inj q)
  rw [decide_eq_false h]
  exact (beq_eq_false_iff_ne.mpr e).symm
theorem key_rr (a b:Str):decide ((Sum.inr a:Key)=Sum.inr b)=decide (a=b):=by
 by_cases e:a=b
 ·subst e; simp
 ·have h:¬ (Sum.inr a:Key)=Sum.inr b:=fun q=>e (Sum.inr.inj q)
  rw [decide_eq_false h,decide_eq_false e]
theorem key_lr (a:Int) (b:Str):decide ((Sum.inl a:Key)=Sum.inr b)=false:=decide_eq_false (fun q=>nomatch q)
theorem key_rl (a:Str) (b:Int):decide ((Sum.inr a:Key)=Sum.inl b)=false:=decide_eq_false (fun q=>nomatch q)
def Ax (prog:Program) (w:World):PySem.KeyKind prog w Key where
 is:=keyIs
 hash:=keyH w
 inj:=fun v a b ha hb=>by
  rcases B0 ha with ⟨i,t,rfl,rfl⟩ | ⟨x,t,rfl,rfl⟩
  ·rcases B0 hb with ⟨j,u,rfl,e⟩ | ⟨y,u,rfl,e⟩
   ·injection e with e1 _; rw [e1]
   ·exact nomatch e
  ·rcases B0 hb with ⟨j,u,rfl,e⟩ | ⟨y,u,rfl,e⟩
   ·exact nomatch e
   ·injection e with e1 _; rw [e1]
 byValue:=fun k v h=>by
  rcases B0 h with ⟨i,t,rfl,rfl⟩ | ⟨x,t,rfl,rfl⟩ <;> rfl
 pyHash:=fun hv h=>by
  rcases B0 hv with ⟨i,t,rfl,rfl⟩ | ⟨x,t,rfl,rfl⟩
  ·exact wpAny_pyHash_int h
  ·exact wpAny_pyHash_str h
 eqBool:=fun hu hv h=>by
  rcases B0 hu with ⟨i,t,rfl,rfl⟩ | ⟨x,t,rfl,rfl⟩
  ·rcases B0 hv with ⟨j,u,rfl,rfl⟩ | ⟨y,u,rfl,rfl⟩
   ·rw [key_ll] at h; exact wpAny_eqBool_int h
   ·rw [key_lr] at h; exact SeqAt.EqAt.int_str i t y u _ _ _ _ h
  ·rcases B0 hv with ⟨j,u,rfl,rfl⟩ | ⟨y,u,rfl,rfl⟩
   ·rw [key_rl] at h; exact SeqAt.EqAt.str_int x t j u _ _ _ _ h
   ·rw [key_rr] at h; exact wpAny_eqBool_str h
 «strs»:=fun k x t v h=>by
  rcases B0 h with ⟨i,u,rfl,e⟩ | ⟨y,u,rfl,e⟩
  ·exact nomatch e
  ·injection e with e1 _
   subst e1
   cases v <;> rfl
theorem mixKind_int (prog:Program) (w:World) (i:Int) (t:Tok):(Ax prog w).is (.inl i) (.int i t)=true:=keyIs_int i t
theorem mixKind_str (prog:Program) (w:World) (x:Str) (t:Tok):(Ax prog w).is (.inr x) (.str x t)=true:=keyIs_str x t
end L2
namespace L2
open PySem PySem.Spec PyProof.Rows
inductive V where
 | non | bl (b:Bool) | int (i:Int) | str (x:Str) | byt (b:Array UInt8) | flt (b:UInt64) | ref (a:Addr) | ty (n:String)
 deriving DecidableEq
def RelV:V->Value->Prop
 | .non,u=>u=Value.none
 | .bl b,u=>u=Value.bool b
 | .int i,u=>∃ t,u=Value.int i t
 | .str x,u=>∃ t,u=Value.str x t
 | .byt b,u=>∃ t,u=Value.bytes b t
 | .flt b,u=>∃ t,u=Value.float b t
 | .ref a,u=>u=Value.ref a
 | .ty n,u=>u=Value.type n
abbrev Vals:List V->List Value->Prop:=Paired RelV
theorem Vals.length {xs:List V} {us:List Value} (r:Vals xs us):xs.length=us.length:=Paired.length r
theorem Vals.get:∀ {xs:List V} {us:List Value} {i:Nat} {x:V},Vals xs us->xs[i]?=some x->∃ u,us[i]?=some u/\RelV x u
 | _,_,_,_,.nil,e=>by simp at e
 | _,_,0,_,.cons r _,e=>by simp at e; subst e; exact ⟨_,rfl,r⟩
 | _,_,i + 1,x,.cons _ t,e=>by
   obtain ⟨u,h1,h2⟩:=Vals.get (i:=i) (x:=x) t (by simpa using e)
   exact ⟨u,by simpa using h1,h2⟩
theorem Vals.set {x:V} {u:Value} (r:RelV x u):∀ {xs:List V} {us:List Value} (i:Nat),Vals xs us->Vals (xs.set i x) (us.set i u)
 | _,_,_,.nil=>.nil
 | _,_,0,.cons _ t=>.cons r t
 | _,_,i + 1,.cons q t=>.cons q (Vals.set r i t)
theorem Vals.append:∀ {xs ys:List V} {us ws:List Value},Vals xs us->Vals ys ws->Vals (xs ++ ys) (us ++ ws)
 | _,_,_,_,.nil,s=>s
 | _,_,_,_,.cons r t,s=>.cons r (Vals.append t s)
theorem Vals.take:∀ {xs:List V} {us:List Value} (n:Nat),Vals xs us->Vals (xs.take n) (us.take n)
 | _,_,0,_=>.nil
 | _,_,_ + 1,.nil=>.nil
 | _,_,n + 1,.cons r t=>.cons r (Vals.take n t)
theorem Vals.drop:∀ {xs:List V} {us:List Value} (n:Nat),Vals xs us->Vals (xs.drop n) (us.drop n)
 | _,_,0,r=>r
 | _,_,_ + 1,.nil=>.nil
 | _,_,n + 1,.cons _ t=>Vals.drop n t
def RelO:Option V->Option Value->Prop
 | some v,some u=>RelV v u
 | none,none=>True
 | _,_=>False
def KV {κ:Type}:List (κ × V)->List (κ × Value)->Prop:=Paired fun (p:κ × V) (q:κ × Value)=>p.1=q.1/\RelV p.2 q.2
def kV:Key->V
 | .inl i=>.int i
 | .inr x=>.str x
inductive HO where
 | lst (xs:List V)
 | tup (xs:List V)
 | dK (kvs:List (Key × V)) | dT (kvs:List (List Key × V))
 | set (S:Int->Bool) (n:Nat)
 | ins (C dx:Addr) (fs:List (Str × V))
 | own (x:Addr)
 | xd (fs:List (Str × V))
 | met (f x:Addr)
 | rng (lo hi:Int)
 | frz (o:Obj) (u:HO)
 | tbl (ps:Array Value)
 | ext (φ:Heap->Prop)
abbrev Hp:=Addr->Option HO
def upd (H:Hp) (a:Addr) (o:HO):Hp:=fun b=>if b=a then some o else H b
theorem Ag {H:Hp} {a:Addr} {o:HO}:upd H a o a=some o:=by unfold upd; rw [if_pos rfl]
theorem Aj {H:Hp} {a b:Addr} {o:HO} (h:b≠a):upd H a o b=H b:=by unfold upd; rw [if_neg h]
theorem upd_upd {H:Hp} {a:Addr} {o u:HO}:upd (upd H a o) a u=upd H a u:=by
 funext b; unfold upd; split <;> rfl
theorem ne_of {H:Hp} {a b:Addr} {o u:HO} (h:H a=some o) (h':H b=some u) (d:o≠u):a≠b:=by
 intro e; subst e; rw [h] at h'; exact d (Option.some.inj h')
theorem Ah {H:Hp} {a b:Addr} {o:HO} (h:H a=some o) (h':H b=none):a≠b:=by
 intro e; subst e; rw [h] at h'; cases h'
section
variable (P:Program) (w:World)
def Cm (H:Hp) (h:Heap) (a:Addr):HO->Prop
 | .lst xs=>xs.length<=sizeLine/\∃ (its:List Value) (n:Nat),Vals xs its/\h.get? a=some { cls:=.type "list",data:=.seq its.toArray n }
 | .tup xs=>xs.length<=sizeLine/\∃ its:List Value,Vals xs its/\IsTup h a its.toArray
 | .dK kvs=>kvs.length<=sizeLine/\(a == sysModules)=false/\∃ vs,KV kvs vs/\h.DictOf (Ax P w) a vs
 | .dT kvs=>kvs.length<=sizeLine/\(a == sysModules)=false/\∃ xs:List (List Key × Addr × Value),
  Paired (fun (p:List Key × V) (q:List Key × Addr × Value)=>p.1=q.1/\H q.2.1=some (.tup (p.1.map kV))/\RelV p.2 q.2.2) kvs xs/\
  ∃ o es ep,h.get? a=some o/\o.ExactDict/\o.data=.dict es ep/\es.toList=xs.map (entryOfKey (tupleKind (Ax P w)))/\(xs.map (·.1)).Nodup
 | .set S n=>h.SetOf (intKind P w) a S n
 | .ins C dx fs=>H dx=some (.own a)/\fs.length<=1000/\dx≠a/\h.get? a=some (PySem.W.instObj C dx)/\
  ∃ mA,h.Ns1 dx mA/\(∀ f,RelO (fs.lookup f) (mA f))/\PySem.Within mA (fs.map (·.1))
 | .own _=>∃ o,h.get? a=some o
 | .xd fs=>∃ mA,h.Ns1 a mA/\∀ f,RelO (fs.lookup f) (mA f)
 | .rng lo hi=>∃ t u v,h.get? a=some { cls:=.type "range",data:=.fields #[.int lo t,.int hi u,.int 1 v] }
 | .frz o u=>h.get? a=some o/\Cm H h a u
 | .tbl ps=>h.get? a=some { cls:=.none,data:=.fields ps }
 | .met f x=>h.get? a=some (PySem.W.methodObj (.ref f) (.ref x))
 | .ext φ=>φ h/\(∃ o,h.get? a=some o)/\∀ h1 h2:Heap,φ h1->(∀ o,h1.get? a=some o->h2.get? a=some o)->φ h2
def HOk (H:Hp) (h:Heap):Prop:=∀ a o,H a=some o->Cm P w H h a o
end
section
variable {P:Program} {w:World} {H H':Hp} {h h':Heap} {a:Addr} {o:HO}
theorem Cm.lt (x:Cm P w H h a o):a < h.objs.size:=by
 cases o with
 | lst xs=>obtain ⟨_,_,_,_,e⟩:=x; exact Heap.lt_size e
 | tup xs=>obtain ⟨_,_,_,p⟩:=x; exact p.lt
 | dK kvs=>obtain ⟨_,_,_,_,o,_,_,e,_⟩:=x; exact Heap.lt_size e
 | dT kvs=>obtain ⟨_,_,_,_,o,_,_,e,_⟩:=x; exact Heap.lt_size e
 | set S n=>obtain ⟨o,_,_,_,e,_⟩:=x; exact Heap.lt_size e
 | ins C dx fs=>obtain ⟨_,_,_,e,_⟩:=x; exact Heap.lt_size e
 | own y=>obtain ⟨_,e⟩:=x; exact Heap.lt_size e
 | xd fs=>obtain ⟨_,⟨_,_,_,e,_⟩,_⟩:=x; exact Heap.lt_size e
 | rng lo hi=>obtain ⟨_,_,_,e⟩:=x; exact Heap.lt_size e
 | frz ob u=>obtain ⟨e,_⟩:=x; exact Heap.lt_size e
 | tbl ps=>exact Heap.lt_size (show h.get? a=some _ from x)
 | met f y=>exact Heap.lt_size (show h.get? a=some _ from x)
 | ext φ=>obtain ⟨_,⟨_,e⟩,_⟩:=x; exact Heap.lt_size e
theorem Paired.mapP {α β:Type} {F G:α->β->Prop}:∀ {l₁:List α} {l₂:List β},Paired F l₁ l₂->(∀ a b,F a b->G a b)->Paired G l₁ l₂
 | _,_,.nil,_=>.nil
 | _,_,.cons r t,f=>.cons (f _ _ r) (Paired.mapP t f)
theorem Cm.stay (x:Cm P w H h a o) (k:∀ b u,(b=a\/H b=some (.own a))->h.get? b=some u->h'.get? b=some u)
 (ho:∀ b,H b=some (.own a)->H' b=some (.own a)) (ht:∀ b xs,H b=some (.tup xs)->H' b=some (.tup xs)):Cm P w H' h' a o:=by
 induction o with
 | lst xs=>obtain ⟨z,its,n,r,e⟩:=x; exact ⟨z,its,n,r,k _ _ (.inl rfl) e⟩
 | tup xs=>obtain ⟨z,its,r,ob,e,c⟩:=x; exact ⟨z,its,r,ob,k _ _ (.inl rfl) e,c⟩
 | dK kvs=>obtain ⟨z,y,vs,r,ob,es,ep,e,c⟩:=x; exact ⟨z,y,vs,r,ob,es,ep,k _ _ (.inl rfl) e,c⟩
 | dT kvs=>
   obtain ⟨z,y,xs,r,ob,es,ep,e,c⟩:=x
   exact ⟨z,y,xs,Paired.mapP r fun p q z=>⟨z.1,ht _ _ z.2.1,z.2.2⟩,ob,es,ep,k _ _ (.inl rfl) e,c⟩
 | set S n=>obtain ⟨ob,es,ep,t,e,c⟩:=x; exact ⟨ob,es,ep,t,k _ _ (.inl rfl) e,c⟩
 | ins C dx fs=>
   obtain ⟨d,z,ne,e,mA,⟨od,es,ep,e2,c⟩,r⟩:=x
   exact ⟨ho _ d,z,ne,k _ _ (.inl rfl) e,mA,⟨od,es,ep,k _ _ (.inr d) e2,c⟩,r⟩
 | own y=>obtain ⟨ob,e⟩:=x; exact ⟨ob,k _ _ (.inl rfl) e⟩
 | xd fs=>obtain ⟨mA,⟨od,es,ep,e,c⟩,r⟩:=x; exact ⟨mA,⟨od,es,ep,k _ _ (.inl rfl) e,c⟩,r⟩
 | rng lo hi=>obtain ⟨t,u,v,e⟩:=x; exact ⟨t,u,v,k _ _ (.inl rfl) e⟩
 | frz ob u ih=>obtain ⟨e,q⟩:=x; exact ⟨k _ _ (.inl rfl) e,ih q⟩
 | tbl ps=>
   have e:h.get? a=some { cls:=.none,data:=.fields ps }:=x
   show h'.get? a=some { cls:=.none,data:=.fields ps }
   exact k a _ (.inl rfl) e
 | met f y=>
   have e:h.get? a=some (PySem.W.methodObj (.ref f) (.ref y)):=x
   show h'.get? a=some (PySem.W.methodObj (.ref f) (.ref y))
   exact k a _ (.inl rfl) e
 | ext φ=>obtain ⟨p,⟨o,e⟩,st⟩:=x; exact ⟨st _ _ p fun o q=>k _ _ (.inl rfl) q,⟨o,k _ _ (.inl rfl) e⟩,st⟩
theorem HOk.lt (x:HOk P w H h) (e:H a=some o):a < h.objs.size:=(x a o e).lt
theorem HOk.fresh (x:HOk P w H h) (e:h.objs.size<=a):H a=none:=by
 cases q:H a with
 | none=>rfl
 | some u=>exact absurd (Nat.lt_of_lt_of_le (x.lt q) e) (Nat.lt_irrefl _)
theorem HOk.kept (x:HOk P w H h) (k:∀ b u,h.get? b=some u->h'.get? b=some u):HOk P w H h':=fun a o e=>
 (x a o e).stay (fun b u _ q=>k b u q) (fun _ q=>q) fun _ _ q=>q
theorem HOk.laid (x:HOk P w H h) (k:∀ b u,h.get? b=some u->h'.get? b=some u) (hp:h.objs.size<=a) (new:Cm P w (upd H a o) h' a o):HOk P w (upd H a o) h':=fun b u e=>by
 have hn:=x.fresh hp
 by_cases hb:b=a
 ·subst hb; rw [Ag] at e; cases e; exact new
 ·rw [Aj hb] at e
  exact (x b u e).stay (fun c v _ q=>k c v q) (fun c q=>by rw [Aj (Ah q hn)]; exact q) fun c xs q=>by rw [Aj (Ah q hn)]; exact q
end
def Rd (H:Hp) (a:Addr) (u:HO):Prop:=H a=some u\/∃ o,H a=some (.frz o u)
theorem Rd.ok {P:Program} {w:World} {H:Hp} {h:Heap} {a:Addr} {u:HO} (r:Rd H a u) (x:HOk P w H h):Cm P w H h a u:=by
 rcases r with r | ⟨o,r⟩
 ·exact x a u r
 ·obtain ⟨_,q⟩:=x a _ r
  exact q
def Mut:Option HO->Prop
 | some (.lst _)=>True
 | some (.dK _)=>True
 | some (.dT _)=>True
 | some (.set _ _)=>True
 | some (.ins _ _ _)=>True
 | some (.ext _)=>True
 | _=>False
section
variable {P:Program} {w:World} {H:Hp} {h h':Heap} {x e:Addr} {o':HO}
theorem HOk.write (ok:HOk P w H h) (mu:Mut (H x)) (he:e=x\/H e=some (.own x)) (k:∀ b u,b≠e->h.get? b=some u->h'.get? b=some u) (heo:∃ u,h'.get? e=some u)
 (new:Cm P w (upd H x o') h' x o'):HOk P w (upd H x o') h':=fun b u q=>by
 have nown:∀ c y,H c=some (.own y)->c≠x:=fun c y r z=>by subst z; rw [r] at mu; exact mu
 have ntup:∀ c xs,H c=some (.tup xs)->c≠x:=fun c xs r z=>by subst z; rw [r] at mu; exact mu
 by_cases hb:b=x
 ·subst hb; rw [Ag] at q; cases q; exact new
 ·rw [Aj hb] at q
  by_cases hbe:b=e
  ·have q':H b=some (.own x):=by
      rcases he with z | z
      ·exact absurd (hbe.trans z) hb
      ·rw [hbe]; exact z
   rw [q] at q'; cases q'
   obtain ⟨v,hv⟩:=heo
   exact ⟨v,by rw [hbe]; exact hv⟩
  ·refine (ok b u q).stay (fun c v hc r=>k c v ?_ r) (fun c r=>by rw [Aj (nown c b r)]; exact r) fun c xs r=>by rw [Aj (ntup c xs r)]; exact r
   rcases hc with rfl | hc
   ·exact hbe
   ·rintro rfl
    rcases he with z | z
    ·exact nown c b hc z
    ·rw [hc] at z; cases z; exact hb rfl
end
structure Un (fs ex:List Addr) (H H':Hp) (h h':Heap):Prop where
 keep:∀ b o,h.get? b=some o->H b=none->b ∉ fs->b ∉ ex->h'.get? b=some o
 slot:∀ b o,h.get? b=some o->H b=none->b ∈ fs->b ∉ ex->∃ sl,h'.get? b=some { o with slots:=sl }
 free:∀ b o,h.get? b=some o->H b=none->b ∉ ex->H' b=none
 there:∀ b o,h.get? b=some o->b ∉ ex->∃ o',h'.get? b=some o'
 tups:∀ b xs,H b=some (.tup xs)->H' b=some (.tup xs)
 frzs:∀ b o u,H b=some (.frz o u)->H' b=some (.frz o u)
 tbls:∀ b ps,H b=some (.tbl ps)->∃ more,H' b=some (.tbl (ps ++ more))
section
variable {fs fs' ex ex':List Addr} {H H1 H2:Hp} {h h1 h2 h':Heap} {a x e:Addr} {o:HO}
theorem Un.any (u:Un fs ex H H1 h h1) {b:Addr} {ob:Obj} (q:h.get? b=some ob) (n:H b=none) (hx:b ∉ ex):∃ sl,h1.get? b=some { ob with slots:=sl }:=by
 by_cases hb:b ∈ fs
 ·exact u.slot b ob q n hb hx
 ·exact ⟨ob.slots,u.keep b ob q n hb hx⟩
theorem Un.kept (k:∀ b u,h.get? b=some u->h'.get? b=some u):Un fs ex H H h h':=
 ⟨fun b ob q _ _ _=>k b ob q,fun b ob q _ _ _=>⟨ob.slots,k b ob q⟩,fun _ _ _ n _=>n,fun b ob q _=>⟨ob,k b ob q⟩,fun _ _ q=>q,fun _ _ _ q=>q,fun _ ps q=>⟨#[],by rw [q]; simp⟩⟩
theorem Un.refl:Un fs ex H H h h:=Un.kept fun _ _ q=>q
theorem Un.laid (k:∀ b u,h.get? b=some u->h'.get? b=some u) (hp:h.objs.size<=a) (hn:H a=none):Un fs ex H (upd H a o) h h' where
 keep:=fun b u q _ _ _=>k b u q
 slot:=fun b u q _ _ _=>⟨u.slots,k b u q⟩
 free:=fun b u q n _=>by rw [Aj (Nat.ne_of_lt (Nat.lt_of_lt_of_le (Heap.lt_size q) hp))]; exact n
 there:=fun b u q _=>⟨u,k b u q⟩
 tups:=fun b xs q=>by rw [Aj (Ah q hn)]; exact q
 frzs:=fun b u xs q=>by rw [Aj (Ah q hn)]; exact q
 tbls:=fun b ps q=>⟨#[],by rw [Aj (Ah q hn),q]; simp⟩
theorem Un.write (mu:Mut (H x)) (he:e=x\/H e=some (.own x)) (k:∀ b u,b≠e->h.get? b=some u->h'.get? b=some u) (heo:∃ u,h'.get? e=some u):Un fs ex H (upd H x o) h h':=by
 have hx:∀ b,H b=none->b≠x:=fun b n z=>by subst z; rw [n] at mu; exact mu
 have hb:∀ b,H b=none->b≠e:=fun b n z=>by
  subst z
  rcases he with r | r
  ·exact hx b n r
  ·rw [n] at r; cases r
 have hm:∀ b u,H b=some u->¬ Mut (some u)->b≠x:=fun b u q nm z=>by subst z; rw [q] at mu; exact nm mu
 refine ⟨fun b u q n _ _=>k b u (hb b n) q,fun b u q n _ _=>⟨u.slots,k b u (hb b n) q⟩,fun b u q n _=>by rw [Aj (hx b n)]; exact n,fun b u q _=>?_,
  fun b xs q=>by rw [Aj (hm b _ q fun z=>z)]; exact q,fun b u xs q=>by rw [Aj (hm b _ q fun z=>z)]; exact q,fun b ps q=>⟨#[],by rw [Aj (hm b _ q fun z=>z),q]; simp⟩⟩
 by_cases hbe:b=e
 ·subst hbe; exact heo
 ·exact ⟨u,k b u hbe q⟩
end
def trk (h:Heap) (H:Hp):List Addr:=(List.range h.objs.size).filter fun a=>(H a).isSome
def hidT (h:Heap) (H:Hp):Heap:=PySem.W.hideAll h (trk h H)
theorem hidT_size (h:Heap) (H:Hp):(hidT h H).objs.size=h.objs.size:=PySem.W.hideAll_size _ _
theorem hidT_get {h:Heap} {H:Hp} {b:Addr} {o:Obj} (e:h.get? b=some o) (n:H b=none):(hidT h H).get? b=some o:=
 PySem.W.hideAll_get _ e fun hm=>by
  have q:(H b).isSome=true:=(List.mem_filter.mp hm).2
  rw [n] at q; simp at q
theorem of_hidT {h:Heap} {H:Hp} {b:Addr} {o:Obj} (e:(hidT h H).get? b=some o):h.get? b=some o/\H b=none:=by
 have e':h.get? b=some o:=PySem.W.of_hideAll (trk h H) e
 refine ⟨e',?_⟩
 cases q:H b with
 | none=>rfl
 | some x=>
   have hm:b ∈ trk h H:=List.mem_filter.mpr ⟨List.mem_range.mpr (Heap.lt_size e'),by simp [q]⟩
   have z:(hidT h H).get? b=none:=PySem.W.hideAll_none (trk h H) hm
   rw [z] at e; cases e
def allNews (g h:Heap) (L:Addr):List (Addr × Obj):=(List.range h.objs.size).filterMap fun a=>if a=L\/(g.get? a).isSome=true then none else (h.get? a).map fun o=>(a,o)
def rest (g h:Heap) (L d:Addr):List (Addr × Obj):=(allNews g h L).filter fun p=>decide (p.1≠d)
end L2
namespace L2
open PySem PySem.Spec PyProof.Rows
structure Mod (K:PySem.W.Frag) (mg:Str->Option Value) (base:Heap):Prop where
 kin:K.In base
 glob:base.Ns mainGlobals mg
 blt:∃ mb,base.Ns builtinsNs mb/\∀ x:Str,x≠"__name__"->mb x=bootBuiltins x
 nolimit:base.NoLimit
structure Cx where
 prog:Program
 w:World
 K:PySem.W.Frag
 mg:Str->Option Value
 base:Heap
 A:Around
 N:List Str
 s₀:Shared
 H₀:Hp
 env:Env
 outer:List Env
 stack:List Env
 ex:List Addr
 fn:Str->Bool
 calm:Bool
 pn:List (Addr × Obj)
 xe:Value->Shared->Prop
def frs (l:List Env):List Addr:=l.filterMap (·.frame)
abbrev Cx.fs (X:Cx):List Addr:=frs X.outer
def Vis (sc:Scope) (x:Str):Prop:=sc.names.lookup x=some .local\/sc.names.lookup x=some .cell\/sc.names.lookup x=some .free
def Loc (sc:Scope) (x:Str):Prop:=sc.names.lookup x=some .local\/sc.names.lookup x=some .cell
def Look (env:Env) (h:Heap) (m:Str->Option Value) (x:Str) (u:Value):Prop:=
 (env.kindOf x=some .local/\m x=some u)\/((env.kindOf x=some .cell\/env.kindOf x=some .free)/\∃ c,env.cells.lookup x=some c/\h.IsCell c (some u))
structure Cx.Ok (X:Cx):Prop where
 mod:Mod X.K X.mg X.base
 kind:X.env.scope.kind=.function
 glob:X.env.globals=mainGlobals
 blt:X.env.builtins=builtinsNs
 above:X.s₀.heap.objs.size<=X.env.locals
 inj:∀ x y c,X.env.cells.lookup x=some c->X.env.cells.lookup y=some c->x=y
 has:∀ x,(X.env.kindOf x=some .cell\/X.env.kindOf x=some .free)->∃ c,X.env.cells.lookup x=some c
 cab:∀ x c,X.fn x=true->X.env.cells.lookup x=some c->X.s₀.heap.objs.size<=c
 hd:X.calm=true->X.A.handled=none
 frames:X.A.frames=some X.stack
 stk:X.stack=X.outer\/(X.stack=X.env :: X.outer/\X.env.frame=some X.env.locals)
 exf:∀ b ∈ X.ex,b≠X.env.locals/\∀ x c,X.env.cells.lookup x=some c->c≠b
 bs:∀ b o,X.base.get? b=some o->X.s₀.heap.get? b=some o/\X.H₀ b=none
 bsz:X.base.objs.size<=X.s₀.heap.objs.size
 noex:∀ b o,X.base.get? b=some o->b ∉ X.ex
 exfs:∀ b ∈ X.ex,b ∉ X.fs
 funs:X.s₀.heap.FunFrames X.base X.outer
 frf:∀ b ∈ X.fs,X.H₀ b=none
structure Inv (X:Cx) (pins:List (Addr × Obj)) (σ:List (Option V)) (H:Hp) (s:Shared):Prop where
 ok:X.Ok
 os:s.os=X.s₀.os
 bare:AllBare s.gens
 base:Un X.fs X.ex X.H₀ H X.s₀.heap s.heap
 loc:∃ m,s.heap.Ns X.env.locals m/\∀ (i:Nat) (x:Str) (v:V),X.N[i]?=some x->σ[i]?=some (some v)->Vis X.env.scope x->∃ u,RelV v u/\Look X.env s.heap m x u
 cell:∀ x c,X.env.cells.lookup x=some c->∃ v,s.heap.IsCell c v
 free:H X.env.locals=none
 freeC:∀ x c,X.env.cells.lookup x=some c->H c=none
 pin:∀ p ∈ X.pn ++ pins,s.heap.get? p.1=some p.2/\H p.1=none/\p.1≠X.env.locals/\p.1 ∉ X.fs/\∀ v,p.2.data≠.cell v
 hok:HOk X.prog X.w H s.heap
 len:σ.length=X.N.length
section
variable {X:Cx} {pins:List (Addr × Obj)} {σ:List (Option V)} {H H':Hp} {s:Shared} {h':Heap}
theorem Cx.Ok.nofr (ok:X.Ok) {b:Addr} {o:Obj} (e:X.base.get? b=some o):b ∉ X.fs:=fun hb=>by
 have:=(ok.funs.mem hb).1
 rw [e] at this; cases this
theorem Inv.bs (I:Inv X pins σ H s):∀ b o,X.base.get? b=some o->s.heap.get? b=some o/\H b=none:=fun b o e=>
 ⟨I.base.keep b o (I.ok.bs b o e).1 (I.ok.bs b o e).2 (I.ok.nofr e) (I.ok.noex b o e),I.base.free b o (I.ok.bs b o e).1 (I.ok.bs b o e).2 (I.ok.noex b o e)⟩
theorem Inv.bk (I:Inv X pins σ H s):∀ b o,X.base.get? b=some o->s.heap.get? b=some o:=fun b o e=>(I.bs b o e).1
theorem Inv.mod (I:Inv X pins σ H s):Mod X.K X.mg X.base:=I.ok.mod
theorem Inv.kIn (I:Inv X pins σ H s):X.K.In s.heap:=I.ok.mod.kin.keeps I.bk
theorem Inv.lt (I:Inv X pins σ H s):X.env.locals < s.heap.objs.size:=let ⟨_,hn,_⟩:=I.loc; hn.lt
theorem Inv.sz (I:Inv X pins σ H s):X.s₀.heap.objs.size<=s.heap.objs.size:=Nat.le_trans I.ok.above (Nat.le_of_lt I.lt)
theorem Inv.nofs (I:Inv X pins σ H s) {a:Addr} (h:s.heap.objs.size<=a):a ∉ X.fs:=fun hb=>by
 obtain ⟨_,o,ho,_⟩:=I.ok.funs.mem hb
 exact absurd (Nat.lt_of_lt_of_le (Heap.lt_size ho) (Nat.le_trans I.sz h)) (Nat.lt_irrefl _)
theorem Inv.cne (I:Inv X pins σ H s):∀ x c,X.env.cells.lookup x=some c->c≠X.env.locals:=fun x c e z=>by
 obtain ⟨v,o,ho,hd⟩:=I.cell x c e
 obtain ⟨m,⟨o',es,ep,ho',hd',_⟩,_⟩:=I.loc
 rw [z,ho'] at ho; cases ho; rw [hd'] at hd; cases hd
theorem Inv.funs (I:Inv X pins σ H s):s.heap.FunFrames X.base X.outer:=by
 have all:∀ (l:List Env),(∀ b ∈ frs l,b ∈ X.fs)->X.s₀.heap.FunFrames X.base l->s.heap.FunFrames X.base l:=by
  intro l
  induction l with
  | nil=>intro _ _; trivial
  | cons env r ih=>
    intro hs hl
    obtain ⟨hk,⟨L,o,hf,hn,ho,hd⟩,hr⟩:=hl
    have hL:L ∈ X.fs:=hs L (by unfold frs; rw [List.filterMap_cons,hf]; exact List.mem_cons_self)
    obtain ⟨sl,e⟩:=I.base.slot L o ho (I.ok.frf L hL) hL fun z=>I.ok.exfs L z hL
    exact ⟨hk,⟨L,_,hf,hn,e,hd⟩,ih (fun b hb=>hs b (by unfold frs; rw [List.filterMap_cons,hf]; exact List.mem_cons_of_mem _ hb)) hr⟩
 exact all X.outer (fun _ hb=>hb) I.ok.funs
theorem Inv.stack (I:Inv X pins σ H s):s.heap.FunFrames X.base X.stack:=by
 rcases I.ok.stk with e | ⟨e,hf⟩
 ·rw [e]; exact I.funs
 ·rw [e]
  obtain ⟨m,hn,_⟩:=I.loc
  refine .cons (by rw [I.ok.kind]; decide) hf hn ?_ I.funs
  exact Heap.get?_none_of_le (Nat.le_trans I.ok.bsz I.ok.above)
theorem Inv.stkSub (I:Inv X pins σ H s):∀ b ∈ frs X.stack,b ∈ X.env.locals :: X.fs:=fun b hb=>by
 rcases I.ok.stk with e | ⟨e,hf⟩
 ·rw [e] at hb; exact List.mem_cons_of_mem _ hb
 ·rw [e] at hb
  unfold frs at hb
  rw [List.filterMap_cons,hf] at hb
  exact hb
theorem Inv.stkFree (I:Inv X pins σ H s):∀ b ∈ frs X.stack,H b=none:=fun b hb=>by
 rcases List.mem_cons.mp (I.stkSub b hb) with e | hb
 ·rw [e]; exact I.free
 ·obtain ⟨_,o,ho,_⟩:=I.ok.funs.mem hb
  exact I.base.free b o ho (I.ok.frf b hb) fun z=>I.ok.exfs b z hb
theorem Inv.step {g':Array GenState} {t':Nat} {d':Drawn} {ch:List Addr} (I:Inv X pins σ H s)
 (hch:∀ b ∈ ch,(b ∈ X.ex\/X.s₀.heap.objs.size<=b)/\b≠X.env.locals/\(∀ x c,X.env.cells.lookup x=some c->c≠b)/\∀ p ∈ X.pn ++ pins,p.1≠b)
 (keep:∀ b o,b≠X.env.locals->b ∉ X.fs->b ∉ ch->s.heap.get? b=some o->H b=none->h'.get? b=some o)
 (slot:∀ b o,b≠X.env.locals->b ∈ X.fs->b ∉ ch->s.heap.get? b=some o->H b=none->∃ sl,h'.get? b=some { o with slots:=sl }) (free:∀ b o,b ∉ ch->s.heap.get? b=some o->H b=none->H' b=none)
 (there:∀ b o,b ∉ ch->s.heap.get? b=some o->∃ o',h'.get? b=some o')
 (tups:∀ b xs,H b=some (.tup xs)->H' b=some (.tup xs)) (frzs:∀ b o u,H b=some (.frz o u)->H' b=some (.frz o u)) (tbls:∀ b ps,H b=some (.tbl ps)->∃ more,H' b=some (.tbl (ps ++ more)))
 (ns:∀ m,s.heap.Ns X.env.locals m->h'.Ns X.env.locals m) (hok:HOk X.prog X.w H' h') (hg:AllBare g') :
 Inv X pins σ H' { s with heap:=h',gens:=g',drawn:=d',toks:=t' }:=by
 have neL:∀ b o,X.s₀.heap.get? b=some o->b≠X.env.locals:=fun b o e=>Nat.ne_of_lt (Nat.lt_of_lt_of_le (Heap.lt_size e) I.ok.above)
 have neC:∀ b o,X.s₀.heap.get? b=some o->b ∉ X.ex->b ∉ ch:=fun b o e hx hb=>by
  rcases (hch b hb).1 with z | z
  ·exact hx z
  ·exact absurd (Nat.lt_of_lt_of_le (Heap.lt_size e) z) (Nat.lt_irrefl _)
 have cellK:∀ x c,X.env.cells.lookup x=some c->∀ v,s.heap.IsCell c v->h'.IsCell c v:=fun x c e v ⟨o,ho,hd⟩=>by
  have nch:c ∉ ch:=fun z=>(hch c z).2.2.1 x c e rfl
  by_cases hc:c ∈ X.fs
  ·obtain ⟨sl,q⟩:=slot c o (I.cne x c e) hc nch ho (I.freeC x c e)
   exact ⟨_,q,hd⟩
  ·exact ⟨o,keep c o (I.cne x c e) hc nch ho (I.freeC x c e),hd⟩
 refine ⟨I.ok,I.os,hg,⟨fun b o e n hb hx=>?_,fun b o e n hb hx=>?_,fun b o e n hx=>?_,fun b o e hx=>?_,fun b xs e=>tups b xs (I.base.tups b xs e),fun b o xs e=>frzs b o xs (I.base.frzs b o xs e),fun b ps e=>?_⟩,?_,fun x c e=>?_,?_,fun x c e=>?_,fun p hp=>?_,hok,I.len⟩
 ·exact keep b o (neL b o e) hb (neC b o e hx) (I.base.keep b o e n hb hx) (I.base.free b o e n hx)
 ·obtain ⟨sl,e1⟩:=I.base.slot b o e n hb hx
  obtain ⟨sl',e2⟩:=slot b _ (neL b o e) hb (neC b o e hx) e1 (I.base.free b o e n hx)
  exact ⟨sl',e2⟩
 ·obtain ⟨o',e1⟩:=I.base.there b o e hx
  exact free b o' (neC b o e hx) e1 (I.base.free b o e n hx)
 ·obtain ⟨o',e1⟩:=I.base.there b o e hx
  exact there b o' (neC b o e hx) e1
 ·obtain ⟨m1,e1⟩:=I.base.tbls b ps e
  obtain ⟨m2,e2⟩:=tbls b _ e1
  exact ⟨m1 ++ m2,by rw [e2,Array.append_assoc]⟩
 ·obtain ⟨m,hn,hl⟩:=I.loc
  refine ⟨m,ns m hn,fun i x v e1 e2 e3=>?_⟩
  obtain ⟨u,r,l⟩:=hl i x v e1 e2 e3
  refine ⟨u,r,?_⟩
  rcases l with l | ⟨k,c,e,z⟩
  ·exact .inl l
  ·exact .inr ⟨k,c,e,cellK x c e _ z⟩
 ·obtain ⟨v,z⟩:=I.cell x c e
  exact ⟨v,cellK x c e v z⟩
 ·obtain ⟨m,⟨o,_,_,ho,_⟩,_⟩:=I.loc
  exact free _ o (fun z=>(hch _ z).2.1 rfl) ho I.free
 ·obtain ⟨v,o,ho,hd⟩:=I.cell x c e
  exact free c o (fun z=>(hch c z).2.2.1 x c e rfl) ho (I.freeC x c e)
 ·obtain ⟨e,n,ne,nf,d⟩:=I.pin p hp
  have nch:p.1 ∉ ch:=fun z=>(hch p.1 z).2.2.2 p hp rfl
  exact ⟨keep p.1 p.2 ne nf nch e n,free p.1 p.2 nch e n,ne,nf,d⟩
theorem Inv.un {t':Nat} (I:Inv X pins σ H s) (u:Un X.fs [] H H' s.heap h') (hok:HOk X.prog X.w H' h'):Inv X pins σ H' { s with heap:=h',toks:=t' }:=by
 obtain ⟨m,⟨o,es,ep,ho,r⟩,_⟩:=id I.loc
 obtain ⟨sl,hL⟩:=u.any ho I.free (by simp)
 exact I.step (g':=s.gens) (d':=s.drawn) (ch:=[]) (fun _ z=>nomatch z) (fun b o _ hb _ e n=>u.keep b o e n hb (by simp)) (fun b o _ hb _ e n=>u.slot b o e n hb (by simp)) (fun b o _ e n=>u.free b o e n (by simp)) (fun b o _ e=>u.there b o e (by simp)) u.tups u.frzs u.tbls (fun m' hm=>by
  obtain ⟨o',es',ep',ho',r'⟩:=hm
  rw [ho] at ho'; cases ho'
  exact ⟨_,es',ep',hL,r'⟩) hok I.bare
theorem Inv.call {g':Array GenState} {t':Nat} {d':Drawn} {ch:List Addr} (I:Inv X pins σ H s) (u:Un (frs X.stack) ch H H' s.heap h') (hok:HOk X.prog X.w H' h') (hg:AllBare g')
 (hch:∀ b ∈ ch,(b ∈ X.ex\/X.s₀.heap.objs.size<=b)/\b≠X.env.locals/\(∀ x c,X.env.cells.lookup x=some c->c≠b)/\∀ p ∈ X.pn ++ pins,p.1≠b) :
 Inv X pins σ H' { s with heap:=h',gens:=g',drawn:=d',toks:=t' }:=by
 obtain ⟨m,⟨o,es,ep,ho,r⟩,_⟩:=id I.loc
 obtain ⟨sl,hL⟩:=u.any ho I.free fun z=>(hch _ z).2.1 rfl
 exact I.step (ch:=ch) hch (fun b o hL hb hc e n=>u.keep b o e n (fun z=>(List.mem_cons.mp (I.stkSub b z)).elim hL hb) hc) (fun b o _ _ hc e n=>u.any e n hc) (fun b o hc e n=>u.free b o e n hc) (fun b o hc e=>u.there b o e hc) u.tups u.frzs u.tbls (fun m' hm=>by
  obtain ⟨o',es',ep',ho',r'⟩:=hm
  rw [ho] at ho'; cases ho'
  exact ⟨_,es',ep',hL,r'⟩) hok hg
theorem Inv.turned {t':Nat} {it:Addr} (I:Inv X pins σ H s) (k:∀ b o,b≠it->s.heap.get? b=some o->h'.get? b=some o) (hn:H it=none) (hL:it≠X.env.locals)
 (h1:it ∈ X.ex\/X.s₀.heap.objs.size<=it) (h2:∀ x c,X.env.cells.lookup x=some c->c≠it) (h3:∀ p ∈ X.pn ++ pins,p.1≠it):Inv X pins σ H { s with heap:=h',toks:=t' }:=by
 have nit:∀ b u,H b=some u->b≠it:=fun b u e z=>by rw [z,hn] at e; cases e
 refine I.step (g':=s.gens) (d':=s.drawn) (ch:=[it]) (fun b hb=>?_) (fun b o _ _ hc e _=>k b o (fun z=>hc (by simp [z])) e) (fun b o _ _ hc e _=>⟨o.slots,k b o (fun z=>hc (by simp [z])) e⟩) (fun _ _ _ _ n=>n)
  (fun b o hc e=>⟨o,k b o (fun z=>hc (by simp [z])) e⟩) (fun _ _ e=>e) (fun _ _ _ e=>e) (fun b ps e=>⟨#[],by rw [e]; simp⟩) (fun m hm=>?_) (fun b u e=>?_) I.bare
 ·have e:b=it:=by simpa using hb
  subst e
  exact ⟨h1,hL,h2,h3⟩
 ·obtain ⟨o,es,ep,ho,r⟩:=hm
  exact ⟨o,es,ep,k _ o (Ne.symm hL) ho,r⟩
 ·refine (I.hok b u e).stay (fun c v hc q=>k c v ?_ q) (fun _ q=>q) fun _ _ q=>q
  rcases hc with z | z
  ·rw [z]; exact nit b u e
  ·exact nit c _ z
theorem Inv.tok (I:Inv X pins σ H s) (t:Nat):Inv X pins σ H { s with toks:=t }:=I.un (h':=s.heap) (t':=t) Un.refl I.hok
theorem Inv.kept {t':Nat} (I:Inv X pins σ H s) (k:∀ b u,s.heap.get? b=some u->h'.get? b=some u):Inv X pins σ H { s with heap:=h',toks:=t' }:=I.un (Un.kept k) (I.hok.kept k)
theorem Inv.laid {a:Addr} {o:HO} {t':Nat} (I:Inv X pins σ H s) (k:∀ b u,s.heap.get? b=some u->h'.get? b=some u) (hp:s.heap.objs.size<=a) (new:Cm X.prog X.w (upd H a o) h' a o) :
 Inv X pins σ (upd H a o) { s with heap:=h',toks:=t' }:=I.un (Un.laid k hp (I.hok.fresh hp)) (I.hok.laid k hp new)
theorem Inv.write {x e:Addr} {o:HO} {t':Nat} (I:Inv X pins σ H s) (mu:Mut (H x)) (he:e=x\/H e=some (.own x)) (k:∀ b u,b≠e->s.heap.get? b=some u->h'.get? b=some u) (heo:∃ u,h'.get? e=some u)
 (new:Cm X.prog X.w (upd H x o) h' x o):Inv X pins σ (upd H x o) { s with heap:=h',toks:=t' }:=I.un (Un.write mu he k heo) (I.hok.write mu he k heo new)
theorem Inv.pins_of {pins':List (Addr × Obj)} (I:Inv X pins σ H s) (h:∀ p ∈ pins',s.heap.get? p.1=some p.2/\H p.1=none/\p.1≠X.env.locals/\p.1 ∉ X.fs/\∀ v,p.2.data≠.cell v):Inv X pins' σ H s:=
 ⟨I.ok,I.os,I.bare,I.base,I.loc,I.cell,I.free,I.freeC,fun p hp=>(List.mem_append.mp hp).elim (fun z=>I.pin p (List.mem_append_left _ z)) (h p),I.hok,I.len⟩
theorem nodup_ix {N:List Str} (hN:N.Nodup) {i j:Nat} {x:Str} (a:N[i]?=some x) (b:N[j]?=some x):i=j:=by
 obtain ⟨h1,e1⟩:=List.getElem?_eq_some_iff.mp a
 obtain ⟨h2,e2⟩:=List.getElem?_eq_some_iff.mp b
 exact (List.getElem_inj hN).mp (e1.trans e2.symm)
theorem store_ok2 {M:Model} {A:Around} {E:Value->Shared->Prop} {i:Nat} {x:Str} {v:V} {u:Value} {Q:Unit->Shared->Prop} (I:Inv X pins σ H s) (hN:X.N.Nodup) (hi:X.N[i]?=some x) (hx:Loc X.env.scope x) (r:RelV v u)
 (h:∀ s',Inv X pins (σ.set i (some v)) H s'->(∃ a,Heap.SameBut a s.heap s'.heap/\(a=X.env.locals\/X.env.cells.lookup x=some a))->Q () s') (hf:X.fn x=true\/X.env.scope.names.lookup x=some .local:=by first | exact .inl rfl | exact .inr rfl | assumption):wpAny M A (storeName X.env x u) Q E s:=by
 obtain ⟨m,hn,hl⟩:=id I.loc
 have hcls:(X.env.scope.kind == .class || (X.env.scope.kind == .module && X.env.locals != X.env.globals))=false:=by rw [I.ok.kind]; rfl
 have hiσ:i < σ.length:=by rw [I.len]; exact (List.getElem?_eq_some_iff.mp hi).1
 have cne:=I.cne
 have tracked:∀ {a:Addr} {h':Heap},(∃ o,s.heap.get? a=some o/\H a=none)->Heap.SameBut a s.heap h'->HOk X.prog X.w H h':=fun {a h'} ha hs b ob e=>by
  obtain ⟨_,_,hfree⟩:=ha
  refine (I.hok b ob e).stay (fun c w' hc q=>(hs.2 c ?_).trans q) (fun _ q=>q) fun _ _ q=>q
  rintro rfl
  rcases hc with rfl | hc
  ·rw [hfree] at e; cases e
  ·rw [hfree] at hc; cases hc
 rcases hx with hk | hk
 ·refine wpAny_storeName_local hk hn (fun h' hn' hs=>?_) hcls
  obtain ⟨oL,_,_,hoL,_⟩:=id hn
  refine h _ ⟨I.ok,I.os,I.bare,⟨fun b o e n hb hx=>?_,fun b o e n hb hx=>?_,I.base.free,fun b o e hx=>?_,I.base.tups,I.base.frzs,I.base.tbls⟩,⟨_,hn',fun j y v' e1 e2 e3=>?_⟩,fun y c e=>?_,I.free,I.freeC,fun p hp=>?_,tracked ⟨oL,hoL,I.free⟩ hs,by simpa using I.len⟩ ⟨_,hs,.inl rfl⟩
  ·exact (hs.2 b (Nat.ne_of_lt (Nat.lt_of_lt_of_le (Heap.lt_size e) I.ok.above))).trans (I.base.keep b o e n hb hx)
  ·obtain ⟨sl,e1⟩:=I.base.slot b o e n hb hx
   exact ⟨sl,(hs.2 b (Nat.ne_of_lt (Nat.lt_of_lt_of_le (Heap.lt_size e) I.ok.above))).trans e1⟩
  ·obtain ⟨o',e1⟩:=I.base.there b o e hx
   exact ⟨o',(hs.2 b (Nat.ne_of_lt (Nat.lt_of_lt_of_le (Heap.lt_size e) I.ok.above))).trans e1⟩
  ·by_cases hj:j=i
   ·subst hj
    rw [hi] at e1; cases e1
    rw [List.getElem?_set_self hiσ] at e2
    cases e2
    exact ⟨u,r,.inl ⟨hk,by simp⟩⟩
   ·rw [List.getElem?_set_ne (Ne.symm hj)] at e2
    obtain ⟨u',r',q⟩:=hl j y v' e1 e2 e3
    refine ⟨u',r',?_⟩
    rcases q with ⟨k,e⟩ | ⟨k,c,e,z⟩
    ·refine .inl ⟨k,?_⟩
     have:y≠x:=fun e=>hj (nodup_ix hN e1 (e ▸ hi))
     simp [this,e]
    ·exact .inr ⟨k,c,e,z.sameBut hs (cne y c e)⟩
  ·obtain ⟨w',z⟩:=I.cell y c e
   exact ⟨w',z.sameBut hs (cne y c e)⟩
  ·obtain ⟨e,n,ne,nf,d⟩:=I.pin p hp
   exact ⟨(hs.2 p.1 ne).trans e,n,ne,nf,d⟩
 ·have hfn:X.fn x=true:=by
   rcases hf with z | z
   ·exact z
   ·rw [z] at hk; cases hk
  obtain ⟨c,hc⟩:=I.ok.has x (.inl hk)
  obtain ⟨w',z⟩:=I.cell x c hc
  refine wpAny_storeName_cell I.ok.kind hk hc z (fun h' hc' hs=>?_)
  obtain ⟨oc,hoc,hocd⟩:=id z
  refine h { s with heap:=h' } ⟨I.ok,I.os,I.bare,⟨fun b o e n hb hx=>?_,fun b o e n hb hx=>?_,I.base.free,fun b o e hx=>?_,I.base.tups,I.base.frzs,I.base.tbls⟩,⟨m,hn.sameBut hs (Ne.symm (cne x c hc)),fun j y v' e1 e2 e3=>?_⟩,fun y c' e=>?_,I.free,I.freeC,fun p hp=>?_,tracked ⟨oc,hoc,I.freeC x c hc⟩ hs,by simpa using I.len⟩ ⟨c,hs,.inr hc⟩
  ·exact (hs.2 b (Nat.ne_of_lt (Nat.lt_of_lt_of_le (Heap.lt_size e) (I.ok.cab x c hfn hc)))).trans (I.base.keep b o e n hb hx)
  ·obtain ⟨sl,e1⟩:=I.base.slot b o e n hb hx
   exact ⟨sl,(hs.2 b (Nat.ne_of_lt (Nat.lt_of_lt_of_le (Heap.lt_size e) (I.ok.cab x c hfn hc)))).trans e1⟩
  ·obtain ⟨o',e1⟩:=I.base.there b o e hx
   exact ⟨o',(hs.2 b (Nat.ne_of_lt (Nat.lt_of_lt_of_le (Heap.lt_size e) (I.ok.cab x c hfn hc)))).trans e1⟩
  ·by_cases hj:j=i
   ·subst hj
    rw [hi] at e1; cases e1
    rw [List.getElem?_set_self hiσ] at e2
    cases e2
    exact ⟨u,r,.inr ⟨.inl hk,c,hc,hc'⟩⟩
   ·rw [List.getElem?_set_ne (Ne.symm hj)] at e2
    obtain ⟨u',r',q⟩:=hl j y v' e1 e2 e3
    refine ⟨u',r',?_⟩
    rcases q with q | ⟨k,c',e,z'⟩
    ·exact .inl q
    ·refine .inr ⟨k,c',e,z'.sameBut hs ?_⟩
     rintro rfl
     exact hj (nodup_ix hN e1 (I.ok.inj _ _ _ e hc ▸ hi))
  ·by_cases hcc:c'=c
   ·subst hcc; exact ⟨_,hc'⟩
   ·obtain ⟨w2,z2⟩:=I.cell y c' e
    exact ⟨w2,z2.sameBut hs hcc⟩
  ·obtain ⟨e,n,ne,nf,d⟩:=I.pin p hp
   refine ⟨(hs.2 p.1 ?_).trans e,n,ne,nf,d⟩
   intro q
   rw [q,hoc] at e
   have q':oc=p.2:=Option.some.inj e
   exact d w' (by rw [← q']; exact hocd)
theorem store_ok {M:Model} {A:Around} {E:Value->Shared->Prop} {i:Nat} {x:Str} {v:V} {u:Value} {Q:Unit->Shared->Prop} (I:Inv X pins σ H s) (hN:X.N.Nodup) (hi:X.N[i]?=some x) (hx:Loc X.env.scope x) (r:RelV v u)
 (h:∀ s',Inv X pins (σ.set i (some v)) H s'->Q () s') (hf:X.fn x=true\/X.env.scope.names.lookup x=some .local:=by first | exact .inl rfl | exact .inr rfl | assumption):wpAny M A (storeName X.env x u) Q E s:=
 store_ok2 I hN hi hx r (fun s' I' _=>h s' I') hf
theorem Inv.call' {s':Shared} {ch:List Addr} (I:Inv X pins σ H s) (ho:s'.os=s.os) (u:Un (frs X.stack) ch H H' s.heap s'.heap) (hok:HOk X.prog X.w H' s'.heap) (hg:AllBare s'.gens)
 (hch:∀ b ∈ ch,(b ∈ X.ex\/X.s₀.heap.objs.size<=b)/\b≠X.env.locals/\(∀ x c,X.env.cells.lookup x=some c->c≠b)/\∀ p ∈ X.pn ++ pins,p.1≠b):Inv X pins σ H' s':=by
 obtain ⟨h',g',d',t',o'⟩:=s'
 have e:o'=s.os:=ho
 subst e
 exact I.call (g':=g') (t':=t') (d':=d') u hok hg hch
end
abbrev XK:=Value->Option Addr->Hp->Prop
abbrev St:=List (Option V)
abbrev VK:=V->Hp->Prop
abbrev TE:=St->Hp->VK->Prop
abbrev TT:=St->Hp->(Bool->Hp->Prop)->Prop
abbrev TA:=St->Hp->(List V->Hp->Prop)->Prop
structure Ends where
 nx:St->Hp->Prop
 rt:VK
 bk:St->Hp->Prop:=fun _ _=>False
 ct:St->Hp->Prop:=fun _ _=>False
abbrev TS:=Ends->St->Hp->Prop
def EP (X:Cx) (pins:List (Addr × Obj)) (σ:St) (Q:VK) (u:Value) (s':Shared):Prop:=∃ v H',Inv X pins σ H' s'/\RelV v u/\Q v H'
def TP (X:Cx) (pins:List (Addr × Obj)) (σ:St) (Q:Bool->Hp->Prop) (b:Bool) (s':Shared):Prop:=∃ H',Inv X pins σ H' s'/\Q b H'
def AP (X:Cx) (pins:List (Addr × Obj)) (σ:St) (Q:List V->Hp->Prop) (us:List Value) (s':Shared):Prop:=∃ vs H',Inv X pins σ H' s'/\Vals vs us/\Q vs H'
def SP (X:Cx) (pins:List (Addr × Obj)) (D:Ends) (f:Flow) (s':Shared):Prop:=
 match f with
 | .next=>∃ σ' H',Inv X pins σ' H' s'/\D.nx σ' H'
 | .brk=>∃ σ' H',Inv X pins σ' H' s'/\D.bk σ' H'
 | .cont=>∃ σ' H',Inv X pins σ' H' s'/\D.ct σ' H'
 | .ret u=>∃ v σ' H',Inv X pins σ' H' s'/\RelV v u/\D.rt v H'
def PE (X:Cx) (e:Expr) (t:TE):Prop:=
 ∀ (pins:List (Addr × Obj)) (s:Shared) (σ:St) (H:Hp) (Q:VK),Inv X pins σ H s->t σ H Q->wpAny (model X.prog X.w) X.A (eval e X.env) (EP X pins σ Q) X.xe s
def PT (X:Cx) (e:Expr) (t:TT):Prop:=
 ∀ (pins:List (Addr × Obj)) (s:Shared) (σ:St) (H:Hp) (Q:Bool->Hp->Prop),Inv X pins σ H s->t σ H Q->wpAny (model X.prog X.w) X.A (isTrue e X.env (eval e X.env)) (TP X pins σ Q) X.xe s
def PW (X:Cx) (e:Expr) (t:TT):Prop:=
 ∀ (whole:Sem Value) (pins:List (Addr × Obj)) (s:Shared) (σ:St) (H:Hp) (Q:Bool->Hp->Prop),Inv X pins σ H s->t σ H Q->wpAny (model X.prog X.w) X.A (isTrue e X.env whole) (TP X pins σ Q) X.xe s
theorem PW.pt {X:Cx} {e:Expr} {t:TT} (h:PW X e t):PT X e t:=h _
def PA (X:Cx) (es:List Expr) (t:TA):Prop:=
 ∀ (pos:Pos) (pins:List (Addr × Obj)) (s:Shared) (σ:St) (H:Hp) (Q:List V->Hp->Prop),Inv X pins σ H s->t σ H Q->wpAny (model X.prog X.w) X.A (spliced (backTo pos (starEach es X.env))) (AP X pins σ Q) X.xe s
def PS (X:Cx) (st:Stmt) (t:TS):Prop:=
 ∀ (pins:List (Addr × Obj)) (s:Shared) (σ:St) (H:Hp) (D:Ends),Inv X pins σ H s->t D σ H->wpAny (model X.prog X.w) X.A (exec st X.env) (SP X pins D) X.xe s
def PSs (X:Cx) (st:List Stmt) (t:TS):Prop:=
 ∀ (pins:List (Addr × Obj)) (s:Shared) (σ:St) (H:Hp) (D:Ends),Inv X pins σ H s->t D σ H->wpAny (model X.prog X.w) X.A (execs st X.env) (SP X pins D) X.xe s
theorem thn {α:Type} {t:Sem α} {Q Q':α->Shared->Prop} {M:Model} {A:Around} {E:Value->Shared->Prop} {s:Shared} (h:wpAny M A t Q E s) (hQ:∀ a s,Q a s->Q' a s):wpAny M A t Q' E s:=wpAny_mono h hQ fun _ _ x=>x
end L2
namespace L2
open PySem PySem.Spec PyProof.Rows
section
variable {X:Cx}
def tVar (i:Nat):TE:=fun σ H Q=>∃ v,σ[i]?=some (some v)/\Q v H
def tC (v:V):TE:=fun _ H Q=>Q v H
theorem pe_var {i:Nat} {x:Str} {pos:Pos} (hN:X.N[i]?=some x) (hv:Vis X.env.scope x) (hd:(x == ("__debug__":Str))=false:=by decide) (hcd:(x == ("__classdict__":Str))=false:=by decide):PE X (.Name x pos) (tVar i):=by
 intro pins s σ H Q I h
 obtain ⟨v,e,h⟩:=h
 obtain ⟨m,hn,hl⟩:=I.loc
 obtain ⟨u,r,l⟩:=hl i x v hN e hv
 have fin:EP X pins σ Q u s:=⟨v,H,I,r,h⟩
 rcases l with ⟨hk,hm⟩ | ⟨hk,c,hc,hcell⟩
 ·exact wpAny_Name (wpAny_loadName_local I.ok.kind hk hn hm fin) hd
 ·rcases hk with hk | hk
  ·exact wpAny_Name (wpAny_loadName_cell I.ok.kind hk hc hcell fin) hd
  ·exact wpAny_Name (wpAny_loadName_free I.ok.kind hk hc hcell fin hcd) hd
theorem Ae {i j pos}:PE X (.Constant (.int i) j pos) (tC (.int i)):=fun _ _ _ H _ I h=>wpAny_Constant_int ⟨.int i,H,I.tok _,⟨_,rfl⟩,h⟩
theorem pe_bl {b j pos}:PE X (.Constant (.bool b) j pos) (tC (.bl b)):=fun _ _ _ H _ I h=>Constant_bool ⟨.bl b,H,I,rfl,h⟩
theorem pe_non {j pos}:PE X (.Constant .none j pos) (tC .non):=fun _ _ _ H _ I h=>Constant_none ⟨.non,H,I,rfl,h⟩
theorem Au {x j pos}:PE X (.Constant (.str x) j pos) (tC (.str x)):=fun _ _ _ H _ I h=>Calls.Constant_str ⟨.str x,H,I.tok _,⟨_,rfl⟩,h⟩
def Gl (X:Cx) (x:Str):Prop:=X.env.kindOf x=some .globalImplicit
theorem ld_glob {E:Value->Shared->Prop} {pins:List (Addr × Obj)} {s:Shared} {σ:St} {H:Hp} {x:Str} {u:Value} {pos:Pos} {Q:Value->Shared->Prop} (I:Inv X pins σ H s) (hg:Gl X x) (hm:X.mg x=some u) (h:Q u s)
 (hd:(x == ("__debug__":Str))=false:=by decide):wpAny (model X.prog X.w) X.A (eval (.Name x pos) X.env) Q E s:=
 Calls.Name_function_global I.ok.kind hg (Calls.loadGlobal_global (by rw [I.ok.glob]; exact I.mod.glob.keeps I.bk) hm h) hd
theorem Ex {E:Value->Shared->Prop} {pins:List (Addr × Obj)} {s:Shared} {σ:St} {H:Hp} {x:Str} {u:Value} {pos:Pos} {Q:Value->Shared->Prop} (I:Inv X pins σ H s) (hg:Gl X x) (hm:X.mg x=none) (hv:bootBuiltins x=some u) (h:Q u s)
 (hn:x≠"__name__":=by decide) (hd:(x == ("__debug__":Str))=false:=by decide):wpAny (model X.prog X.w) X.A (eval (.Name x pos) X.env) Q E s:=by
 obtain ⟨mb,h1,h2⟩:=I.mod.blt
 exact Calls.Name_function_global I.ok.kind hg (Calls.loadGlobal_builtin (by rw [I.ok.glob]; exact I.mod.glob.keeps I.bk) hm (by rw [I.ok.blt]; exact h1.keeps I.bk) ((h2 x hn).trans hv) h) hd
theorem pe_glob {x:Str} {v:V} {u:Value} {pos:Pos} (hg:Gl X x) (hm:X.mg x=some u) (r:RelV v u) (hd:(x == ("__debug__":Str))=false:=by decide):PE X (.Name x pos) (tC v):=
 fun _ _ _ H _ I h=>ld_glob I hg hm ⟨v,H,I,r,h⟩ hd
theorem B3 {x:Str} {v:V} {u:Value} {pos:Pos} (hg:Gl X x) (hm:X.mg x=none) (hv:bootBuiltins x=some u) (r:RelV v u) (hn:x≠"__name__":=by decide) (hd:(x == ("__debug__":Str))=false:=by decide):PE X (.Name x pos) (tC v):=
 fun _ _ _ H _ I h=>Ex I hg hm hv ⟨v,H,I,r,h⟩ hn hd
variable {a b:Expr} {ta tb:TE} {pos:Pos}
def PC (X:Cx) (op:CmpOp) (a b:Expr) (t:TE):Prop:=
 ∀ (pins:List (Addr × Obj)) (s:Shared) (σ:St) (H:Hp) (Q:VK),Inv X pins σ H s->t σ H Q->
  wpAny (model X.prog X.w) X.A (eval a X.env) (fun v s₁=>wpAny (model X.prog X.w) X.A (eval b X.env) (fun u s₂=>wpAny (model X.prog X.w) X.A (compareOp op v u) (EP X pins σ Q) X.xe s₂) X.xe s₁) X.xe s
theorem nobehind (b:Expr) {op:CmpOp} (h:op≠.In) (h2:op≠.NotIn):behindInMarks op b=false:=by
 have e1:(op == CmpOp.In)=false:=by cases op <;> first | rfl | exact absurd rfl h
 have e2:(op == CmpOp.NotIn)=false:=by cases op <;> first | rfl | exact absurd rfl h2
 cases b <;> simp [behindInMarks,e1,e2]
def tIsN (ta:TE):TE:=fun σ H Q=>ta σ H fun x H1=>Q (.bl (decide (x=.non))) H1
def tNotN (ta:TE):TE:=fun σ H Q=>ta σ H fun x H1=>Q (.bl (!decide (x=.non))) H1
theorem RelV.none_iff {x:V} {v:Value} (r:RelV x v):(v == Value.none)=decide (x=.non):=by
 cases x with
 | non=>cases r; rfl
 | bl _=>cases r; rfl
 | int _=>obtain ⟨t,rfl⟩:=r; rfl
 | str _=>obtain ⟨t,rfl⟩:=r; rfl
 | byt _=>obtain ⟨t,rfl⟩:=r; rfl
 | flt _=>obtain ⟨t,rfl⟩:=r; rfl
 | ref _=>cases r; rfl
 | ty _=>cases r; rfl
theorem pc_isN {j pos'} (ha:PE X a ta):PC X .Is a (.Constant .none j pos') (tIsN ta):=by
 intro pins s σ H Q I h
 refine thn (ha pins s σ H _ I h) fun v s1 ⟨x,H1,I1,r1,q1⟩=>?_
 exact Constant_none (is_none_gen ⟨.bl _,H1,I1,by rw [r1.none_iff]; rfl,q1⟩)
theorem pc_notN {j pos'} (ha:PE X a ta):PC X .IsNot a (.Constant .none j pos') (tNotN ta):=by
 intro pins s σ H Q I h
 refine thn (ha pins s σ H _ I h) fun v s1 ⟨x,H1,I1,r1,q1⟩=>?_
 exact Constant_none (isnot_none_gen ⟨.bl _,H1,I1,by rw [r1.none_iff]; rfl,q1⟩)
def tB (t:TE):TT:=fun σ H Q=>t σ H fun x H1=>∃ c,x=.bl c/\Q c H1
theorem pt_cmp {op:CmpOp} {t:TE} (h:PC X op a b t) (h1:behindInMarks op b=false:=by first | exact nobehind _ (by decide) (by decide) | rfl):PT X (.Compare a [op] [b] pos) (tB t):=by
 intro pins s σ H Q I hw
 refine wpAny_isTrue_Compare1 (thn (h pins s σ H _ I hw) fun v s1 h1=>thn h1 fun u s2 h2=>thn h2 fun c s3 ⟨x,H1,I1,r1,q1⟩=>?_) h1
 obtain ⟨d,rfl,q⟩:=q1
 cases r1
 exact wpAny_truthy_bool ⟨H1,I1,q⟩
theorem Bw {e:Expr} {t:TE} (h:PE X e t) (he:∀ whole,isTrue e X.env whole=(do let v ← whole; standAt e.pos; holding [v] (truthy v)):=by intro _; rfl):PT X e (tB t):=by
 intro pins s σ H Q I hw
 refine isTrue_plain (thn (h pins s σ H _ I hw) fun v s1 ⟨x,H1,I1,r1,q1⟩=>?_) (he _)
 obtain ⟨d,rfl,q⟩:=q1
 cases r1
 exact wpAny_truthy_bool ⟨H1,I1,q⟩
variable {tA tB':TT} {rest:List Expr}
def tAnd (t u:TT):TT:=fun σ H Q=>t σ H fun c H1=>if c=true then u σ H1 Q else Q false H1
def tOr (t u:TT):TT:=fun σ H Q=>t σ H fun c H1=>if c=true then Q true H1 else u σ H1 Q
def tNot (t:TT):TT:=fun σ H Q=>t σ H fun c H1=>Q (!c) H1
theorem pw_and1 (ha:PT X a tA):PW X (.BoolOp .And [a] pos) tA:=by
 intro wh pins s σ H Q I h
 refine isTrue_and (thn (ha pins s σ H Q I h) fun c s1 e=>?_)
 cases c with
 | true=>exact isTrue_and_nil e
 | false=>exact e
theorem Ei (ha:PT X a tA):PW X (.BoolOp .Or [a] pos) tA:=by
 intro wh pins s σ H Q I h
 refine isTrue_or (thn (ha pins s σ H Q I h) fun c s1 e=>?_)
 cases c with
 | false=>exact isTrue_or_nil e
 | true=>exact e
theorem pw_and (ha:PT X a tA) (hb:PW X (.BoolOp .And (b :: rest) pos) tB'):PW X (.BoolOp .And (a :: b :: rest) pos) (tAnd tA tB'):=by
 intro wh pins s σ H Q I h
 refine isTrue_and (thn (ha pins s σ H _ I h) fun c s1 ⟨H1,I1,q1⟩=>?_)
 cases c with
 | true=>exact hb wh pins s1 σ H1 Q I1 q1
 | false=>exact ⟨H1,I1,q1⟩
theorem pw_or (ha:PT X a tA) (hb:PW X (.BoolOp .Or (b :: rest) pos) tB'):PW X (.BoolOp .Or (a :: b :: rest) pos) (tOr tA tB'):=by
 intro wh pins s σ H Q I h
 refine isTrue_or (thn (ha pins s σ H _ I h) fun c s1 ⟨H1,I1,q1⟩=>?_)
 cases c with
 | true=>exact ⟨H1,I1,q1⟩
 | false=>exact hb wh pins s1 σ H1 Q I1 q1
theorem Bl (ha:PT X a tA):PT X (.UnaryOp .Not a pos) (tNot tA):=by
 intro pins s σ H Q I h
 exact isTrue_not (ha pins s σ H (fun c H1=>Q (!c) H1) I h)
def tAndV (ta tb:TE):TE:=fun σ H Q=>ta σ H fun x H1=>∃ c,x=.bl c/\if c=true then tb σ H1 Q else Q (.bl false) H1
def tNotV (ta:TE):TE:=fun σ H Q=>ta σ H fun x H1=>∃ c,x=.bl c/\Q (.bl (!c)) H1
theorem pe_one {op} {t:TE} (h:PE X a t):PE X (.BoolOp op [a] pos) t:=fun pins s σ H Q I hw=>BoolOp_one (h pins s σ H Q I hw)
theorem D1 (ha:PE X a ta) (hb:PE X (.BoolOp .And (b :: rest) pos) tb):PE X (.BoolOp .And (a :: b :: rest) pos) (tAndV ta tb):=by
 intro pins s σ H Q I h
 refine BoolOp_and (thn (ha pins s σ H _ I h) fun v s1 ⟨x,H1,I1,r1,q1⟩=>?_)
 obtain ⟨c,rfl,q1⟩:=q1
 cases r1
 refine wpAny_truthy_bool ?_
 cases c with
 | true=>exact hb pins s1 σ H1 Q I1 q1
 | false=>exact ⟨.bl false,H1,I1,rfl,q1⟩
theorem pe_not (ha:PE X a ta):PE X (.UnaryOp .Not a pos) (tNotV ta):=by
 intro pins s σ H Q I h
 refine UnaryOp_ (thn (ha pins s σ H _ I h) fun v s1 ⟨x,H1,I1,r1,q1⟩=>?_)
 obtain ⟨c,rfl,q1⟩:=q1
 cases r1
 exact not_of (wpAny_truthy_bool ⟨.bl (!c),H1,I1,rfl,q1⟩)
end
end L2
namespace L2
open PySem PySem.Spec PyProof.Rows
def SqL (K:PySem.W.Frag) (H:Hp) (a:Addr) (xs:List V):Prop:=
 Rd H a (.lst xs)\/
  ∃ (o:Obj) (its:Array Value) (n:Nat),K.lookup a=some o/\o.cls=.type "list"/\o.dict=none/\o.data=.seq its n/\its.size<=sizeLine/\Vals xs its.toList
def SqT (K:PySem.W.Frag) (H:Hp) (a:Addr) (xs:List V):Prop:=
 Rd H a (.tup xs)\/
  ∃ (o:Obj) (its:Array Value) (n:Nat),K.lookup a=some o/\o.cls=.type "tuple"/\o.data=.seq its n/\its.size<=sizeLine/\Vals xs its.toList
def absV:Value->Option V
 | .none=>some .non
 | .bool b=>some (.bl b)
 | .int i _=>some (.int i)
 | .str x _=>some (.str x)
 | .bytes b _=>some (.byt b)
 | .float b _=>some (.flt b)
 | .ref a=>some (.ref a)
 | .type n=>some (.ty n)
 | _=>none
theorem RelV.abs {x:V} {u:Value} (r:RelV x u):absV u=some x:=by
 cases x with
 | non=>cases r; rfl
 | bl _=>cases r; rfl
 | int _=>obtain ⟨t,rfl⟩:=r; rfl
 | str _=>obtain ⟨t,rfl⟩:=r; rfl
 | byt _=>obtain ⟨t,rfl⟩:=r; rfl
 | flt _=>obtain ⟨t,rfl⟩:=r; rfl
 | ref _=>cases r; rfl
 | ty _=>cases r; rfl
theorem RelV.inj {x y:V} {u:Value} (r:RelV x u) (q:RelV y u):x=y:=Option.some.inj (r.abs.symm.trans q.abs)
theorem Vals.inj:∀ {xs ys:List V} {us:List Value},Vals xs us->Vals ys us->xs=ys
 | _,_,_,.nil,.nil=>rfl
 | _,_,_,.cons r t,.cons r' t'=>by rw [r.inj r',Vals.inj t t']
section
variable {X:Cx} {pins:List (Addr × Obj)} {σ:St} {H:Hp} {s:Shared} {a:Addr} {xs ys:List V}
theorem SqL.of {K:PySem.W.Frag} (h:H a=some (.lst xs)):SqL K H a xs:=.inl (.inl h)
theorem SqT.of {K:PySem.W.Frag} (h:H a=some (.tup xs)):SqT K H a xs:=.inl (.inl h)
theorem Inv.list (I:Inv X pins σ H s) (h:SqL X.K H a xs):∃ its:List Value,Vals xs its/\PlainL s.heap a its.toArray/\xs.length<=sizeLine:=by
 rcases h with h | ⟨o,its,n,hk,hc,hd,hs,hz,r⟩
 ·obtain ⟨z,its,n,r,e⟩:=h.ok I.hok
  exact ⟨its,r,⟨_,n,e,rfl,rfl,rfl⟩,z⟩
 ·refine ⟨its.toList,r,⟨o,n,I.kIn a o hk,hc,hd,by simpa using hs⟩,?_⟩
  have e:=r.length
  simp only [Array.length_toList] at e
  omega
theorem Inv.tuple (I:Inv X pins σ H s) (h:SqT X.K H a xs):∃ its:List Value,Vals xs its/\IsTup s.heap a its.toArray/\xs.length<=sizeLine:=by
 rcases h with h | ⟨o,its,n,hk,hc,hs,hz,r⟩
 ·obtain ⟨z,its,r,p⟩:=h.ok I.hok
  exact ⟨its,r,p,z⟩
 ·refine ⟨its.toList,r,⟨o,I.kIn a o hk,hc,n,by simpa using hs⟩,?_⟩
  have e:=r.length
  simp only [Array.length_toList] at e
  omega
theorem Inv.list_inj (I:Inv X pins σ H s) (h:SqL X.K H a xs) (h':SqL X.K H a ys):xs=ys:=by
 obtain ⟨its,r,⟨o,n,e,_,_,d⟩,_⟩:=I.list h
 obtain ⟨its',r',⟨o',n',e',_,_,d'⟩,_⟩:=I.list h'
 rw [e] at e'; cases e'
 rw [d] at d'
 injection d' with d1 _
 have:its=its':=by simpa using congrArg Array.toList d1
 subst this
 exact r.inj r'
theorem Inv.tuple_inj (I:Inv X pins σ H s) (h:SqT X.K H a xs) (h':SqT X.K H a ys):xs=ys:=by
 obtain ⟨its,r,⟨o,e,_,n,d⟩,_⟩:=I.tuple h
 obtain ⟨its',r',⟨o',e',_,n',d'⟩,_⟩:=I.tuple h'
 rw [e] at e'; cases e'
 rw [d] at d'
 injection d' with d1 _
 have:its=its':=by simpa using congrArg Array.toList d1
 subst this
 exact r.inj r'
end
abbrev Cx.wish (X:Cx) (E:Value->Shared->Prop):Cx:={ X with xe:=E }
abbrev Cx.nox (X:Cx):Cx:=X.wish fun _ _=>False
theorem Cx.Ok.wish {X:Cx} (ok:X.Ok) (E:Value->Shared->Prop):(X.wish E).Ok:=
 ⟨ok.mod,ok.kind,ok.glob,ok.blt,ok.above,ok.inj,ok.has,ok.cab,ok.hd,ok.frames,ok.stk,ok.exf,ok.bs,ok.bsz,ok.noex,ok.exfs,ok.funs,ok.frf⟩
theorem Cx.Ok.unwish {X:Cx} {E:Value->Shared->Prop} (ok:(X.wish E).Ok):X.Ok:=
 ⟨ok.mod,ok.kind,ok.glob,ok.blt,ok.above,ok.inj,ok.has,ok.cab,ok.hd,ok.frames,ok.stk,ok.exf,ok.bs,ok.bsz,ok.noex,ok.exfs,ok.funs,ok.frf⟩
section
variable {X:Cx} {pins:List (Addr × Obj)} {σ:St} {H:Hp} {s:Shared} {E:Value->Shared->Prop}
theorem Inv.wish (I:Inv X pins σ H s) (E:Value->Shared->Prop):Inv (X.wish E) pins σ H s:=⟨I.ok.wish E,I.os,I.bare,I.base,I.loc,I.cell,I.free,I.freeC,I.pin,I.hok,I.len⟩
theorem Inv.unwish (I:Inv (X.wish E) pins σ H s):Inv X pins σ H s:=⟨I.ok.unwish,I.os,I.bare,I.base,I.loc,I.cell,I.free,I.freeC,I.pin,I.hok,I.len⟩
theorem SP.unwish {D:Ends} {f:Flow} {s':Shared} (h:SP (X.wish E) pins D f s'):SP X pins D f s':=by
 cases f with
 | next=>obtain ⟨σ',H',I,q⟩:=h; exact ⟨σ',H',I.unwish,q⟩
 | brk=>obtain ⟨σ',H',I,q⟩:=h; exact ⟨σ',H',I.unwish,q⟩
 | cont=>obtain ⟨σ',H',I,q⟩:=h; exact ⟨σ',H',I.unwish,q⟩
 | ret u=>obtain ⟨v,σ',H',I,r,q⟩:=h; exact ⟨v,σ',H',I.unwish,r,q⟩
theorem PSs.nox {st:List Stmt} {t:TS} (h:PSs X.nox st t):PSs X st t:=fun pins s σ H D I hw=>
 wpAny_mono (h pins s σ H D (I.wish _) hw) (fun _ _ q=>q.unwish) fun _ _ z=>False.elim z
end
section
variable {X:Cx} {st:Stmt} {rest:List Stmt} {t u:TS} {e:Expr} {te:TE} {pos:Pos}
def tNext:TS:=fun D σ H=>D.nx σ H
def tSeq (t u:TS):TS:=fun D σ H=>t { D with nx:=u D } σ H
theorem Am:PSs X [] tNext:=fun _ _ σ H _ I h=>wpAny_execs_nil ⟨σ,H,I,h⟩
theorem Ac (h1:PS X st t) (h2:PSs X rest u):PSs X (st :: rest) (tSeq t u):=by
 intro pins s σ H D I h
 refine wpAny_execs_cons (thn (h1 pins s σ H { D with nx:=u D } I h) fun f s1 q=>?_)
 cases f with
 | next=>
   obtain ⟨σ',H',I',q⟩:=q
   exact h2 pins s1 σ' H' D I' q
 | ret v=>exact q
 | brk=>exact q
 | cont=>exact q
theorem Ad (h1:PS X st t):PSs X [st] t:=by
 intro pins s σ H D I h
 refine wpAny_execs_cons (thn (h1 pins s σ H D I h) fun f s1 q=>?_)
 cases f with
 | next=>exact wpAny_execs_nil q
 | ret v=>exact q
 | brk=>exact q
 | cont=>exact q
theorem Inv.quiet {pins:List (Addr × Obj)} {σ:St} {H:Hp} {s:Shared} (I:Inv X pins σ H s):interactive X.env=false:=by simp [interactive,I.ok.kind]
def tDrop (te:TE):TS:=fun D σ H=>te σ H fun _ H1=>D.nx σ H1
theorem Bb (he:PE X e te) (hs:swapsWith e none pos.line X.env=pure false:=by rfl):PS X (.Expr e pos) (tDrop te):=by
 intro pins s σ H D I h
 exact wpAny_Expr_any (thn (he pins s σ H _ I h) fun v s1 ⟨x,H1,I1,r1,q1⟩=>⟨σ,H1,I1,q1⟩) I.quiet hs
def tRet (te:TE):TS:=fun D σ H=>te σ H D.rt
theorem Ap (he:PE X e te):PS X (.Return (some e) pos) (tRet te):=by
 intro pins s σ H D I h
 exact wpAny_Return_some (thn (he pins s σ H _ I h) fun v s1 ⟨x,H1,I1,r1,q1⟩=>⟨x,σ,H1,I1,r1,q1⟩)
def tIfS (c:TT) (t u:TS):TS:=fun D σ H=>c σ H fun b H1=>if b=true then t D σ H1 else u D σ H1
theorem A5 {c:Expr} {a b:List Stmt} {tc:TT} (hc:PT X c tc) (ha:PSs X a t) (hb:PSs X b u):PS X (.If c a b pos) (tIfS tc t u):=by
 intro pins s σ H D I h
 refine wpAny_If (thn (hc pins s σ H _ I h) fun d s1 ⟨H1,I1,q1⟩=>?_)
 cases d with
 | true=>exact ha pins s1 σ H1 D I1 q1
 | false=>exact hb pins s1 σ H1 D I1 q1
def tNever:TS:=fun _ _ _=>False
theorem A4:PS X st tNever:=fun _ _ _ _ _ _ h=>h.elim
end
abbrev TG:=V->St->Hp->(St->Hp->Prop)->Prop
abbrev TGs:=List V->St->Hp->(St->Hp->Prop)->Prop
def PG (X:Cx) (target:Expr) (t:TG):Prop:=
 ∀ (pins:List (Addr × Obj)) (s:Shared) (σ:St) (H:Hp) (v:V) (u:Value) (Q:St->Hp->Prop),Inv X pins σ H s->RelV v u->t v σ H Q->
  wpAny (model X.prog X.w) X.A (assign target X.env u) (fun _ s'=>∃ σ' H',Inv X pins σ' H' s'/\Q σ' H') X.xe s
def PGs (X:Cx) (ts:List Expr) (t:TGs):Prop:=
 ∀ (pins:List (Addr × Obj)) (s:Shared) (σ:St) (H:Hp) (vs:List V) (us:List Value) (Q:St->Hp->Prop),Inv X pins σ H s->Vals vs us->t vs σ H Q->
  wpAny (model X.prog X.w) X.A (assignInOrder ((assignEach ts X.env).map (·.2)) us) (fun _ s'=>∃ σ' H',Inv X pins σ' H' s'/\Q σ' H') X.xe s
abbrev TSet:=V->V->V->Hp->(Hp->Prop)->Prop
def PSet (X:Cx) (t:TSet):Prop:=
 ∀ (pins:List (Addr × Obj)) (s:Shared) (σ:St) (H:Hp) (o i v:V) (ov iv u:Value) (Q:Hp->Prop),Inv X pins σ H s->RelV o ov->RelV i iv->RelV v u->t o i v H Q->
  wpAny (model X.prog X.w) X.A (setItem ov iv u) (fun _ s'=>∃ H',Inv X pins σ H' s'/\Q H') X.xe s
section
variable {X:Cx} {pos:Pos}
def gName (i:Nat):TG:=fun v σ H Q=>Q (σ.set i (some v)) H
theorem Aw {i:Nat} {x:Str} (hN:X.N.Nodup) (hi:X.N[i]?=some x) (hx:Loc X.env.scope x) (hf:X.fn x=true\/X.env.scope.names.lookup x=some .local:=by first | exact .inl rfl | exact .inr rfl | assumption):PG X (.Name x pos) (gName i):=by
 intro pins s σ H v u Q I r h
 exact wpAny_assign_Name (store_ok I hN hi hx r (fun s' I'=>⟨_,H,I',h⟩) hf)
def gNil:TGs:=fun vs σ H Q=>vs=[]/\Q σ H
def gCons (t:TG) (u:TGs):TGs:=fun vs σ H Q=>∃ v r,vs=v :: r/\t v σ H fun σ' H'=>u r σ' H' Q
theorem D0:PGs X [] gNil:=by
 intro pins s σ H vs us Q I r h
 obtain ⟨e,h⟩:=h
 subst e
 cases r
 exact assignInOrder_nil ⟨σ,H,I,h⟩
theorem Be {e:Expr} {es:List Expr} {t:TG} {u:TGs} (h1:PG X e t) (h2:PGs X es u)
 (hs:(assignEach (e :: es) X.env).map (·.2)=assign e X.env :: (assignEach es X.env).map (·.2):=by rfl):PGs X (e :: es) (gCons t u):=by
 intro pins s σ H vs us Q I r h
 obtain ⟨v,vr,e1,h⟩:=h
 subst e1
 cases r with
 | cons r rr=>
   rw [hs]
   refine assignInOrder_cons (thn (h1 pins s σ H _ _ _ I r h) fun _ s1 ⟨σ1,H1,I1,q1⟩=>?_)
   exact h2 pins s1 σ1 H1 _ _ Q I1 rr q1
def gTup (K:PySem.W.Frag) (n:Nat) (t:TGs):TG:=fun v σ H Q=>∃ a xs,v=.ref a/\SqT K H a xs/\xs.length=n/\t xs σ H Q
theorem pg_tup {es:List Expr} {k:Nat} {t:TGs} {n:Nat} (hc:X.calm=true) (h:PGs X es t)
 (hn:(assignEach es X.env).length=n:=by rfl) (hst:(assignEach es X.env).findIdx? (·.1)=none:=by rfl):PG X (.Tuple es k pos) (gTup X.K n t):=by
 intro pins s σ H v u Q I r hw
 obtain ⟨a,xs,e1,hq,hl,hw⟩:=hw
 subst e1
 cases r
 obtain ⟨its,rv,ht,hz⟩:=I.tuple hq
 refine assign_Tuple_tuple (I.ok.hd hc) ht (by simp [hn,← hl,rv.length]) hst fun h' hx=>?_
 have I1:Inv X pins σ H { s with heap:=h' }:=I.kept (t':=s.toks) fun b o e=>hx b o (Nat.ne_of_lt (Heap.lt_size e)) e
 exact h pins _ σ H xs _ Q I1 (by simpa using rv) hw
def gSub (to ti:TE) (t:TSet):TG:=fun v σ H Q=>to σ H fun o H1=>ti σ H1 fun i H2=>t o i v H2 fun H3=>Q σ H3
theorem pg_sub {o i:Expr} {to ti:TE} {t:TSet} (ho:PE X o to) (hi:PE X i ti) (hs:PSet X t)
 (ha:∀ v,assign (.Subscript o i pos) X.env v=(do
   let ov ← holding [v] (eval o X.env)
   let iv ← holding [v,ov] (eval i X.env)
   standAt pos
   holding [v,ov,iv] (setItem ov iv v)
   release [v,ov,iv] []):=by intro _; rfl):PG X (.Subscript o i pos) (gSub to ti t):=by
 intro pins s σ H v u Q I r h
 rw [ha]
 refine wpAny_bind (wpAny_holding (thn (ho pins s σ H _ I h) fun ov s1 ⟨x,H1,I1,r1,q1⟩=>?_))
 refine wpAny_bind (wpAny_holding (thn (hi pins s1 σ H1 _ I1 q1) fun iv s2 ⟨y,H2,I2,r2,q2⟩=>?_))
 refine wpAny_bind (wpAny_standAt (wpAny_bind (wpAny_holding (thn (hs pins s2 σ H2 x y v ov iv u _ I2 r1 r2 r q2) fun _ s3 ⟨H3,I3,q3⟩=>?_))))
 exact wpAny_release ⟨σ,H3,I3,q3⟩
def tAsg (te:TE) (g:TG):TS:=fun D σ H=>te σ H fun x H1=>g x σ H1 D.nx
theorem ps_asg {tg e:Expr} {te:TE} {g:TG} (he:PE X e te) (hg:PG X tg g) (hs:swapsWithSole [tg] e pos.line X.env=pure false:=by rfl) (hw:swappedStores [tg] e X.env=pure none:=by rfl)
 (h1:(assignEach [tg] X.env).map (·.2)=[assign tg X.env]:=by rfl):PS X (.Assign [tg] e pos) (tAsg te g):=by
 intro pins s σ H D I h
 refine wpAny_Assign_stores (thn (he pins s σ H _ I h) fun v s1 ⟨x,H1,I1,r1,q1⟩=>?_) hs hw
 rw [h1]
 exact thn (hg pins s1 σ H1 x v _ I1 r1 q1) fun _ s2 q=>q
theorem As {i:Nat} {x:Str} {e:Expr} {te:TE} {pos':Pos} (hN:X.N.Nodup) (hi:X.N[i]?=some x) (hx:Loc X.env.scope x) (he:PE X e te) (hs:swapsWith e (some (.Name x pos')) pos.line X.env=pure false:=by rfl) (hf:X.fn x=true\/X.env.scope.names.lookup x=some .local:=by first | exact .inl rfl | exact .inr rfl | assumption) :
 PS X (.Assign [.Name x pos'] e pos) (tAsg te (gName i)):=by
 intro pins s σ H D I h
 refine wpAny_Assign_Name (thn (he pins s σ H _ I h) fun v s1 ⟨y,H1,I1,r1,q1⟩=>?_) hs
 exact store_ok I1 hN hi hx r1 (fun s2 I2=>⟨_,H1,I2,q1⟩) hf
end
section
variable {X:Cx} {pos:Pos}
def tWhile (c:TT) (tb:TS):TS:=fun D σ H=>∃ W:Nat->St->Hp->Prop,(∃ m,W m σ H)/\∀ m σ H,W m σ H->
 c σ H fun b H1=>if b=true then ∃ N:St->Hp->Prop,(∀ σ' H',N σ' H'->∃ m',m' < m/\W m' σ' H')/\tb { D with nx:=N,ct:=N,bk:=D.nx } σ H1 else D.nx σ H1
theorem ps_while {c:Expr} {body:List Stmt} {tc:TT} {tb:TS} (hp:PassesOwn (model X.prog X.w) X.A X.env X.xe) (hc:PT X c tc) (hb:PSs X body tb):PS X (.While c body [] pos) (tWhile tc tb):=by
 intro pins s σ H D I h
 obtain ⟨W,⟨m0,w0⟩,turn⟩:=h
 refine wpAny_While (codeAny_whileLoop (fun n s'=>∃ σ' H',Inv X pins σ' H' s'/\W n σ' H') ?_ m0 ⟨σ,H,I,w0⟩)
 rintro n s1 ⟨σ1,H1,I1,w1⟩
 refine wpAny_passesOwn hp (thn (hc pins s1 σ1 H1 _ I1 (turn n σ1 H1 w1)) fun b s2 ⟨H2,I2,q2⟩=>?_)
 cases b with
 | true=>
   obtain ⟨N,hN,q2⟩:=q2
   rw [if_pos rfl]
   refine wpAny_passesOwn hp (thn (hb pins s2 σ1 H2 _ I2 q2) fun f s3 q3=>?_)
   cases f with
   | next=>
     obtain ⟨σ3,H3,I3,n3⟩:=q3
     obtain ⟨m',hm,w3⟩:=hN σ3 H3 n3
     exact ⟨m',hm,σ3,H3,I3,w3⟩
   | cont=>
     obtain ⟨σ3,H3,I3,n3⟩:=q3
     obtain ⟨m',hm,w3⟩:=hN σ3 H3 n3
     exact ⟨m',hm,σ3,H3,I3,w3⟩
   | brk=>exact q3
   | ret v=>exact q3
 | false=>
   rw [if_neg Bool.false_ne_true]
   exact wpAny_execs_nil ⟨σ1,H2,I2,q2⟩
end
structure It where
 go:Nat->Hp->Prop
 yld:Nat->Hp->V->Hp->Prop
 stop:Nat->Hp->Prop
def FpOk (X:Cx) (pins:List (Addr × Obj)) (H:Hp) (b:Addr):Prop:=
 H b=none/\b≠X.env.locals/\b ∉ X.fs/\(b ∈ X.ex\/X.s₀.heap.objs.size<=b)/\(∀ x c,X.env.cells.lookup x=some c->c≠b)/\∀ p ∈ X.pn ++ pins,p.1≠b
theorem Inv.fpOk {X:Cx} {pins:List (Addr × Obj)} {σ:St} {H H':Hp} {s:Shared} {b:Addr} (I:Inv X pins σ H s) (hb:s.heap.objs.size<=b) (hn:H' b=none):FpOk X pins H' b:=by
 refine ⟨hn,Nat.ne_of_gt (Nat.lt_of_lt_of_le I.lt hb),I.nofs hb,.inr (Nat.le_trans I.sz hb),fun x c e z=>?_,fun p hp z=>?_⟩
 ·obtain ⟨v,q⟩:=I.cell x c e
  exact absurd (Nat.lt_of_lt_of_le q.lt (by rw [z]; exact hb)) (Nat.lt_irrefl _)
 ·exact absurd (Nat.lt_of_lt_of_le (Heap.lt_size (I.pin p hp).1) (by rw [z]; exact hb)) (Nat.lt_irrefl _)
structure Turn (P:Program) (w:World) (K:PySem.W.Frag) (tg:Expr) (J:It) (fp:List Addr) (it:Addr) (tn:Nat->Heap->Prop):Prop where
 mem:it ∈ fp
 obj:∀ i h,tn i h->∀ b ∈ fp,∃ o,h.get? b=some o/\∀ v,o.data≠.cell v
 keep:∀ i h h',tn i h->(∀ b ∈ fp,∀ o,h.get? b=some o->h'.get? b=some o)->tn i h'
 item:∀ (X:Cx),X.prog=P->X.w=w->X.K=K->X.calm=true->∀ (i:Nat) (pins:List (Addr × Obj)) (s:Shared) (σ:St) (H:Hp) (E:Value->Shared->Prop),Inv X pins σ H s->(∀ b ∈ fp,FpOk X pins H b)->tn i s.heap->J.go i H->
  wpAny (model P w) X.A (pyNext (.ref it)) (fun r s1=>∃ u,r=some u/\
   wpAny (model P w) X.A (letOwnedTupleGo tg (.ref it) u) (fun _ s2=>∃ x H',Inv X pins σ H' s2/\RelV x u/\J.yld i H x H'/\tn (i + 1) s2.heap/\∀ b ∈ fp,H' b=none) E s1) E s
 done:∀ (X:Cx),X.prog=P->X.w=w->X.K=K->X.calm=true->∀ (i:Nat) (pins:List (Addr × Obj)) (s:Shared) (σ:St) (H:Hp) (E:Value->Shared->Prop),Inv X pins σ H s->(∀ b ∈ fp,FpOk X pins H b)->tn i s.heap->J.stop i H->
  wpAny (model P w) X.A (pyNext (.ref it)) (fun r s1=>r=none/\Inv X pins σ H s1) E s
 self:∀ (A:Around) (i:Nat) (s:Shared) (Q:Value->Shared->Prop) (E:Value->Shared->Prop),tn i s.heap->Q (.ref it) s->wpAny (model P w) A (pyIter (.ref it)) Q E s
abbrev TI:=St->Hp->(It->Hp->Prop)->Prop
def PIE (X:Cx) (pins:List (Addr × Obj)) (σ:St) (tg:Expr) (R:It->Hp->Prop) (itv:Value) (s2:Shared):Prop:=
 ∃ (it:Addr) (fp:List Addr) (tn:Nat->Heap->Prop) (J:It) (H':Hp),itv=.ref it/\Inv X pins σ H' s2/\Turn X.prog X.w X.K tg J fp it tn/\tn 0 s2.heap/\(∀ b ∈ fp,FpOk X pins H' b)/\R J H'
def PI (X:Cx) (tg iter:Expr) (wi:TI):Prop:=
 ∀ (pins:List (Addr × Obj)) (s:Shared) (σ:St) (H:Hp) (R:It->Hp->Prop),Inv X pins σ H s->wi σ H R->
  wpAny (model X.prog X.w) X.A (eval iter X.env) (fun v s1=>wpAny (model X.prog X.w) X.A (pyIter v) (PIE X pins σ tg R) X.xe s1) X.xe s
theorem go_of {M:Model} {A:Around} {E:Value->Shared->Prop} {s:Shared} {tg:Expr} {it:Addr} {u:Value} {o:Obj} {n:String} {vs:Array Value} {Q:Unit->Shared->Prop} (ho:s.heap.get? it=some o) (hc:o.cls=.type n) (hd:o.data=.fields vs)
 (hn:["enumerate","zip","dict_itemiterator","dict_reverseitemiterator","odict_iterator","itertools.zip_longest","itertools.pairwise"].contains n=false) (hQ:Q () s):wpAny M A (letOwnedTupleGo tg (.ref it) u) Q E s:=by
 unfold letOwnedTupleGo
 cases tg <;> first
  | exact wpAny_pure hQ
  | (cases u <;> first
      | exact wpAny_pure hQ
      | (refine wpAny_bind (wpAny_load ho ?_)
         rw [hc,hd]
         show wpAny M A (if (["enumerate","zip","dict_itemiterator","dict_reverseitemiterator","odict_iterator","itertools.zip_longest","itertools.pairwise"].contains n && vs[0]? == some (rawInt _))=true then _ else _) Q E s
         rw [if_neg (by intro h; rw [hn,Bool.false_and] at h; cases h)]
         exact wpAny_pure hQ))
def Itl (K:PySem.W.Frag) (a:Addr):It:=
 ⟨fun i H=>∃ xs x,SqL K H a xs/\xs[i]?=some x,fun i H x H'=>H'=H/\∀ xs,SqL K H a xs->xs[i]?=some x,fun i H=>∃ xs,SqL K H a xs/\xs.length<=i⟩
def Itt (K:PySem.W.Frag) (a:Addr):It:=
 ⟨fun i H=>∃ xs x,SqT K H a xs/\xs[i]?=some x,fun i H x H'=>H'=H/\∀ xs,SqT K H a xs->xs[i]?=some x,fun i H=>∃ xs,SqT K H a xs/\xs.length<=i⟩
def Itr (lo:Int) (n:Nat):It:=⟨fun i _=>i < n,fun i H x H'=>H'=H/\x=.int (lo + i),fun i _=>n<=i⟩
theorem turn_list {P:Program} {w:World} {K:PySem.W.Frag} {tg:Expr} (a it:Addr):Turn P w K tg (Itl K a) [it] it (fun i h=>h.IsListIter it a i) where
 mem:=by simp
 obj:=fun i h st b hb=>by
  have e:b=it:=by simpa using hb
  subst e
  obtain ⟨o,e,c,d⟩:=st
  exact ⟨o,e,fun v z=>by rw [d] at z; cases z⟩
 keep:=fun i h h' st k=>st.at fun o e=>k it (by simp) o e
 item:=by
  intro X hP hw hK hc i pins s σ H E I hf st hg
  subst hP hw hK
  obtain ⟨xs,x,hq,hx⟩:=hg
  obtain ⟨its,rv,p,hz⟩:=I.list hq
  obtain ⟨u,hu,ru⟩:=rv.get hx
  obtain ⟨f0,f1,f2,f3,f4,f5⟩:=hf it (by simp)
  refine wpAny_pyNext_list_item st p.isList (x:=u) (by simpa using hu) fun h' st' sb=>?_
  have I1:Inv X pins σ H { s with heap:=h' }:=I.turned (t':=s.toks) (fun b o hb e=>(sb.2 b hb).trans e) f0 f1 f3 f4 f5
  obtain ⟨o,e,c,d⟩:=id st'
  exact ⟨u,rfl,go_of (s:={ s with heap:=h' }) e c d (by decide) ⟨x,H,I1,ru,⟨rfl,fun ys hy=>by rw [I.list_inj hy hq]; exact hx⟩,st',fun b hb=>(hf b hb).1⟩⟩
 done:=by
  intro X hP hw hK hc i pins s σ H E I hf st hg
  subst hP hw hK
  obtain ⟨xs,hq,hx⟩:=hg
  obtain ⟨its,rv,p,hz⟩:=I.list hq
  obtain ⟨f0,f1,f2,f3,f4,f5⟩:=hf it (by simp)
  have hl:=rv.length
  exact wpAny_pyNext_list_end (I.ok.hd hc) st p.isList (by simp; omega) fun h' eb=>⟨rfl,I.turned (t':=s.toks) (fun b o hb e=>eb b o hb e) f0 f1 f3 f4 f5⟩
 self:=fun _ _ _ _ _ st h=>wpAny_pyIter_listiter st h
theorem turn_tuple {P:Program} {w:World} {K:PySem.W.Frag} {tg:Expr} (a it:Addr):Turn P w K tg (Itt K a) [it] it (fun i h=>h.IsTupleIter it a i) where
 mem:=by simp
 obj:=fun i h st b hb=>by
  have e:b=it:=by simpa using hb
  subst e
  obtain ⟨o,e,c,d⟩:=st
  exact ⟨o,e,fun v z=>by rw [d] at z; cases z⟩
 keep:=fun i h h' st k=>st.at fun o e=>k it (by simp) o e
 item:=by
  intro X hP hw hK hc i pins s σ H E I hf st hg
  subst hP hw hK
  obtain ⟨xs,x,hq,hx⟩:=hg
  obtain ⟨its,rv,p,hz⟩:=I.tuple hq
  obtain ⟨u,hu,ru⟩:=rv.get hx
  obtain ⟨f0,f1,f2,f3,f4,f5⟩:=hf it (by simp)
  refine wpAny_pyNext_tuple_item st (show s.heap.IsTuple a its.toArray from p) (x:=u) (by simpa using hu) fun h' st' sb=>?_
  have I1:Inv X pins σ H { s with heap:=h' }:=I.turned (t':=s.toks) (fun b o hb e=>(sb.2 b hb).trans e) f0 f1 f3 f4 f5
  obtain ⟨o,e,c,d⟩:=id st'
  exact ⟨u,rfl,go_of (s:={ s with heap:=h' }) e c d (by decide) ⟨x,H,I1,ru,⟨rfl,fun ys hy=>by rw [I.tuple_inj hy hq]; exact hx⟩,st',fun b hb=>(hf b hb).1⟩⟩
 done:=by
  intro X hP hw hK hc i pins s σ H E I hf st hg
  subst hP hw hK
  obtain ⟨xs,hq,hx⟩:=hg
  obtain ⟨its,rv,p,hz⟩:=I.tuple hq
  obtain ⟨f0,f1,f2,f3,f4,f5⟩:=hf it (by simp)
  have hl:=rv.length
  exact wpAny_pyNext_tuple_end (I.ok.hd hc) st (show s.heap.IsTuple a its.toArray from p) (by simp; omega) fun h' eb=>⟨rfl,I.turned (t':=s.toks) (fun b o hb e=>eb b o hb e) f0 f1 f3 f4 f5⟩
 self:=fun _ _ _ _ _ st h=>wpAny_pyIter_tupleiter st h
theorem turn_range {P:Program} {w:World} {K:PySem.W.Frag} {tg:Expr} (it:Addr) (lo:Int) (n:Nat):Turn P w K tg (Itr lo n) [it] it (fun i h=>IsRangeIter h it (lo + (i:Nat) * 1) ((n:Int) - (i:Nat)) 1) where
 mem:=by simp
 obj:=fun i h st b hb=>by
  have e:b=it:=by simpa using hb
  subst e
  exact ⟨_,st,fun v z=>by
   have z':Data.fields _=Data.cell v:=z
   cases z'⟩
 keep:=fun i h h' st k=>k it (by simp) _ st
 item:=by
  intro X hP hw hK hc i pins s σ H E I hf st hg
  subst hP hw hK
  obtain ⟨f0,f1,f2,f3,f4,f5⟩:=hf it (by simp)
  have W:=Walks.range (prog:=X.prog) (w:=X.w) (I.ok.hd hc) it lo 1 n
  refine W.item i s _ _ hg st fun v h' tk hv st' kk=>?_
  obtain ⟨t,rfl⟩:=hv
  have I1:Inv X pins σ H { s with heap:=h',toks:=tk }:=I.turned (fun b o hb e=>kk b o (by simpa using hb) e) f0 f1 f3 f4 f5
  refine ⟨_,rfl,go_of (s:={ s with heap:=h',toks:=tk }) (n:="range_iterator") st' rfl rfl (by decide) ⟨.int (lo + i),H,I1,⟨t,?_⟩,⟨rfl,rfl⟩,st',fun b hb=>(hf b hb).1⟩⟩
  rw [Int.mul_one]
 done:=by
  intro X hP hw hK hc i pins s σ H E I hf st hg
  subst hP hw hK
  obtain ⟨f0,f1,f2,f3,f4,f5⟩:=hf it (by simp)
  exact wpAny_pyNext_range_end (I.ok.hd hc) st (by have:n<=i:=hg; omega) fun h' eb=>⟨rfl,I.turned (t':=s.toks) (fun b o hb e=>eb b o hb e) f0 f1 f3 f4 f5⟩
 self:=fun _ _ _ _ _ st h=>wpAny_pyIter_rangeiter st h
end L2
namespace L2
open PySem PySem.Spec PyProof.Rows
section
variable {X:Cx} {tg:Expr}
def iList (K:PySem.W.Frag) (tl:TE):TI:=fun σ H R=>tl σ H fun x H1=>∃ a,x=.ref a/\(∃ xs,SqL K H1 a xs)/\R (Itl K a) H1
def iTup (K:PySem.W.Frag) (tl:TE):TI:=fun σ H R=>tl σ H fun x H1=>∃ a,x=.ref a/\(∃ xs,SqT K H1 a xs)/\R (Itt K a) H1
theorem Bn {l:Expr} {tl:TE} (hl:PE X l tl):PI X tg l (iList X.K tl):=by
 intro pins s σ H R I h
 refine thn (hl pins s σ H _ I h) fun v s1 ⟨x,H1,I1,r1,q1⟩=>?_
 obtain ⟨a,e,⟨xs,hq⟩,q⟩:=q1
 subst e
 cases r1
 obtain ⟨its,rv,p,hz⟩:=I1.list hq
 refine wpAny_pyIter_list p.isList ?_
 refine ⟨s1.heap.objs.size,[s1.heap.objs.size],_,_,H1,rfl,I1.kept (t':=s1.toks) fun b o e=>Heap.get?_push_of_some _ e,turn_list a _,⟨_,Heap.get?_push_size _ rfl,rfl,rfl⟩,fun b hb=>?_,q⟩
 have e:b=s1.heap.objs.size:=by simpa using hb
 subst e
 exact I1.fpOk (Nat.le_refl _) (I1.hok.fresh (Nat.le_refl _))
theorem pi_tup {l:Expr} {tl:TE} (hl:PE X l tl):PI X tg l (iTup X.K tl):=by
 intro pins s σ H R I h
 refine thn (hl pins s σ H _ I h) fun v s1 ⟨x,H1,I1,r1,q1⟩=>?_
 obtain ⟨a,e,⟨xs,hq⟩,q⟩:=q1
 subst e
 cases r1
 obtain ⟨its,rv,p,hz⟩:=I1.tuple hq
 refine wpAny_pyIter_tuple (show s1.heap.IsTuple a its.toArray from p) ?_
 refine ⟨s1.heap.objs.size,[s1.heap.objs.size],_,_,H1,rfl,I1.kept (t':=s1.toks) fun b o e=>Heap.get?_push_of_some _ e,turn_tuple a _,⟨_,Heap.get?_push_size _ rfl,rfl,rfl⟩,fun b hb=>?_,q⟩
 have e:b=s1.heap.objs.size:=by simpa using hb
 subst e
 exact I1.fpOk (Nat.le_refl _) (I1.hok.fresh (Nat.le_refl _))
theorem range_it {pins:List (Addr × Obj)} {σ:St} {H:Hp} {s:Shared} {R:It->Hp->Prop} {E:Value->Shared->Prop} {lo hi:Int} {t u v:Tok} {tk:Nat} (I:Inv X pins σ H s) (h1:-(2 ^ 62)<=lo) (h2:lo < 2 ^ 62) (h3:-(2 ^ 62)<=hi) (h4:hi < 2 ^ 62)
 (q:R (Itr lo (hi - lo).toNat) H):wpAny (model X.prog X.w) X.A (pyIter (.ref s.heap.objs.size)) (PIE X pins σ tg R) E { s with heap:=s.heap.push { cls:=.type "range",data:=.fields #[.int lo t,.int hi u,.int 1 v] },toks:=tk }:=by
 refine wpAny_pyIter_range (IsRange.new ..) (small_one h1 h2 h3 h4) ?_
 have I1:Inv X pins σ H { s with heap:=s.heap.push { cls:=.type "range",data:=.fields #[.int lo t,.int hi u,.int 1 v] },toks:=tk }:=I.kept fun b o e=>Heap.get?_push_of_some _ e
 refine ⟨(s.heap.push { cls:=.type "range",data:=.fields #[.int lo t,.int hi u,.int 1 v] }).objs.size,[(s.heap.push { cls:=.type "range",data:=.fields #[.int lo t,.int hi u,.int 1 v] }).objs.size],_,_,H,rfl,
  I1.kept (t':=tk) fun b o e=>Heap.get?_push_of_some _ e,turn_range _ lo (hi - lo).toNat,?_,fun b hb=>?_,q⟩
 ·have e1:lo + ((0:Nat):Int) * 1=lo:=by simp
  have e2:(((hi - lo).toNat:Nat):Int) - ((0:Nat):Int)=Builtin.Range.rangeSize lo hi 1:=by rw [rangeSize_one]; split <;> omega
  show IsRangeIter _ _ (lo + ((0:Nat):Int) * 1) ((((hi - lo).toNat:Nat):Int) - ((0:Nat):Int)) 1
  rw [e1,e2]
  exact Heap.get?_push_size _ rfl
 ·have e:b=(s.heap.push { cls:=.type "range",data:=.fields #[.int lo t,.int hi u,.int 1 v] }).objs.size:=by simpa using hb
  subst e
  exact I1.fpOk (Nat.le_refl _) (I1.hok.fresh (Nat.le_refl _))
def iRng1 (ta:TA):TI:=fun σ H R=>ta σ H fun vs H1=>∃ j:Int,vs=[.int j]/\-(2 ^ 62)<=j/\j < 2 ^ 62/\R (Itr 0 j.toNat) H1
def iRng2 (ta:TA):TI:=fun σ H R=>ta σ H fun vs H1=>∃ i j:Int,vs=[.int i,.int j]/\(-(2 ^ 62)<=i/\i < 2 ^ 62/\-(2 ^ 62)<=j/\j < 2 ^ 62)/\R (Itr i (j - i).toNat) H1
theorem C0 {a:Expr} {ta:TA} {p pos:Pos} (hg:Gl X "range") (hm:X.mg "range"=none) (ha:PA X [a] ta) (hs:starEach [a] X.env=[(false,eval a X.env)]:=by rfl):PI X tg (.Call (.Name "range" p) [a] [] pos) (iRng1 ta):=by
 intro pins s σ H R I h
 refine Call_ (Ex I hg hm boot_range (PyProof.Rows.callWith_type1 (thn (ha pos pins s σ H _ I h) fun us s1 ⟨vs,H1,I1,r1,q1⟩=>?_) hs rfl))
 obtain ⟨j,e,q1,q2,q⟩:=q1
 subst e
 cases r1 with
 | cons r rr=>
   cases rr
   obtain ⟨t,rfl⟩:=r
   exact call_range_1 (range_it I1 (by omega) (by omega) q1 q2 (by simpa using q))
theorem pi_range2 {a b:Expr} {ta:TA} {p pos:Pos} (hg:Gl X "range") (hm:X.mg "range"=none) (ha:PA X [a,b] ta) (hs:starEach [a,b] X.env=[(false,eval a X.env),(false,eval b X.env)]:=by rfl) (hs2:starEach [b] X.env=[(false,eval b X.env)]:=by rfl) :
 PI X tg (.Call (.Name "range" p) [a,b] [] pos) (iRng2 ta):=by
 intro pins s σ H R I h
 refine Call_ (Ex I hg hm boot_range (PyProof.Rows.callWith_type1 (thn (ha pos pins s σ H _ I h) fun us s1 ⟨vs,H1,I1,r1,q1⟩=>?_) (by rw [hs,hs2]) (by rw [hs2]; rfl)))
 obtain ⟨i,j,e,⟨q1,q2,q3,q4⟩,q⟩:=q1
 subst e
 cases r1 with
 | cons r rr=>
   cases rr with
   | cons r' rr=>
     cases rr
     obtain ⟨t,rfl⟩:=r
     obtain ⟨t',rfl⟩:=r'
     exact call_range_2 (range_it I1 q1 q2 q3 q4 q)
def tFor (wi:TI) (g:TG) (tb:TS):TS:=fun D σ H=>wi σ H fun J H1=>∃ W:Nat->Nat->St->Hp->Prop,(∃ m,W 0 m σ H1)/\∀ i m σ H,W i m σ H->
 (J.stop i H/\D.nx σ H)\/(J.go i H/\∃ N:St->Hp->Prop,(∀ σ' H',N σ' H'->∃ m',m' < m/\W (i + 1) m' σ' H')/\∀ x H',J.yld i H x H'->g x σ H' fun σ2 H2=>tb { D with nx:=N,ct:=N,bk:=D.nx } σ2 H2)
def pinsAt (fp:List Addr) (h:Heap):List (Addr × Obj):=fp.filterMap fun b=>(h.get? b).map fun o=>(b,o)
theorem mem_pinsAt {fp:List Addr} {h:Heap} {b:Addr} {o:Obj} (hb:b ∈ fp) (e:h.get? b=some o):(b,o) ∈ pinsAt fp h:=List.mem_filterMap.mpr ⟨b,hb,by rw [e]; rfl⟩
theorem of_pinsAt {fp:List Addr} {h:Heap} {p:Addr × Obj} (hp:p ∈ pinsAt fp h):p.1 ∈ fp/\h.get? p.1=some p.2:=by
 obtain ⟨b,hb,e⟩:=List.mem_filterMap.mp hp
 cases q:h.get? b with
 | none=>rw [q] at e; cases e
 | some o=>
   rw [q] at e
   have e':(b,o)=p:=Option.some.inj e
   subst e'
   exact ⟨hb,q⟩
theorem Inv.pinned {pins:List (Addr × Obj)} {σ:St} {H:Hp} {s:Shared} {fp:List Addr} (I:Inv X pins σ H s) (hf:∀ b ∈ fp,FpOk X pins H b) (ho:∀ b ∈ fp,∃ o,s.heap.get? b=some o/\∀ v,o.data≠.cell v):Inv X (pins ++ pinsAt fp s.heap) σ H s:=
 I.pins_of fun p hp=>(List.mem_append.mp hp).elim (fun z=>I.pin p (List.mem_append_right _ z)) fun z=>by
  obtain ⟨hb,e⟩:=of_pinsAt z
  obtain ⟨f0,f1,f2,_⟩:=hf p.1 hb
  obtain ⟨o,e',d⟩:=ho p.1 hb
  rw [e] at e'; cases e'
  exact ⟨e,f0,f1,f2,d⟩
theorem Inv.unpinned {pins pl:List (Addr × Obj)} {σ:St} {H:Hp} {s:Shared} (I:Inv X (pins ++ pl) σ H s):Inv X pins σ H s:=I.pins_of fun p hp=>I.pin p (List.mem_append_right _ (List.mem_append_left _ hp))
theorem C6 {iter:Expr} {body:List Stmt} {wi:TI} {g:TG} {tb:TS} {pos:Pos} (hp:PassesOwn (model X.prog X.w) X.A X.env X.xe) (hc:X.calm=true) (hi:PI X tg iter wi) (hg:PG X tg g) (hb:PSs X body tb)
 (hs:∀ x,foldedSetIterable iter X.env x=pure x:=by intro _; rfl):PS X (.For tg iter body [] pos) (tFor wi g tb):=by
 intro pins s σ H D I h
 refine wpAny_For (thn (hi pins s σ H _ I h) fun v s1 h1=>thn h1 fun itv s2 h2=>?_) hs
 obtain ⟨it,fp,tn,J,H2,e,I2,T,st2,f2,W,⟨m0,w0⟩,turn⟩:=h2
 subst e
 have stat:∀ {H':Hp},(∀ b ∈ fp,H' b=none)->∀ b ∈ fp,FpOk X pins H' b:=fun hn b hb=>⟨hn b hb,(f2 b hb).2⟩
 refine codeAny_forLoop_any (fun n s'=>∃ i σ' H',Inv X pins σ' H' s'/\tn i s'.heap/\(∀ b ∈ fp,H' b=none)/\W i n σ' H') ?_ m0 ⟨0,σ,H2,I2,st2,fun b hb=>(f2 b hb).1,w0⟩
 rintro n s3 ⟨i,σ3,H3,I3,st3,fr3,w3⟩
 rcases turn i n σ3 H3 w3 with ⟨stop,qn⟩ | ⟨go,N,hN,step⟩
 ·refine wpAny_passesOwn hp (thn (T.done X rfl rfl rfl hc i pins s3 σ3 H3 X.xe I3 (stat fr3) st3 stop) fun r s4 ⟨hr,I4⟩=>?_)
  subst hr
  exact wpAny_execs_nil ⟨σ3,H3,I4,qn⟩
 ·refine wpAny_passesOwn hp (thn (T.item X rfl rfl rfl hc i pins s3 σ3 H3 X.xe I3 (stat fr3) st3 go) fun r s4 ⟨u,hr,h4⟩=>?_)
  subst hr
  refine wpAny_passesOwn hp (thn h4 fun _ s5 ⟨x,H5,I5,r5,y5,st5,fr5⟩=>?_)
  have I5':=I5.pinned (stat fr5) (T.obj _ _ st5)
  refine wpAny_passesOwn hp (thn (hg _ s5 σ3 H5 x u _ I5' r5 (step x H5 y5)) fun _ s6 ⟨σ6,H6,I6,q6⟩=>?_)
  refine wpAny_passesOwn hp (thn (hb _ s6 σ6 H6 _ I6 q6) fun f s7 q7=>?_)
  have again:∀ {σ7:St} {H7:Hp},Inv X (pins ++ pinsAt fp s5.heap) σ7 H7 s7->N σ7 H7->∃ m,m < n/\∃ i σ' H',Inv X pins σ' H' s7/\tn i s7.heap/\(∀ b ∈ fp,H' b=none)/\W i m σ' H':=fun {σ7 H7} I7 n7=>by
   obtain ⟨m',hm,w7⟩:=hN σ7 H7 n7
   refine ⟨m',hm,i + 1,σ7,H7,I7.unpinned,T.keep _ _ _ st5 fun b hb o e=>(I7.pin (b,o) (List.mem_append_right _ (List.mem_append_right _ (mem_pinsAt hb e)))).1,fun b hb=>?_,w7⟩
   obtain ⟨o,e,d⟩:=T.obj _ _ st5 b hb
   exact (I7.pin (b,o) (List.mem_append_right _ (List.mem_append_right _ (mem_pinsAt hb e)))).2.1
  cases f with
  | next=>obtain ⟨σ7,H7,I7,n7⟩:=q7; exact again I7 n7
  | cont=>obtain ⟨σ7,H7,I7,n7⟩:=q7; exact again I7 n7
  | brk=>obtain ⟨σ7,H7,I7,q7⟩:=q7; exact ⟨σ7,H7,I7.unpinned,q7⟩
  | ret v=>obtain ⟨x7,σ7,H7,I7,r7,q7⟩:=q7; exact ⟨x7,σ7,H7,I7.unpinned,r7,q7⟩
end
theorem for_list {K:PySem.W.Frag} {a:Addr} {xs:List V} {g:TG} {tb:TS} {D:Ends} {σ:St} {H:Hp} (Pv:Nat->St->Hp->Prop) (h0:Pv 0 σ H) (hl:∀ i σ H,i<=xs.length->Pv i σ H->SqL K H a xs)
 (hs:∀ i x σ H,xs[i]?=some x->Pv i σ H->g x σ H fun σ2 H2=>tb { D with nx:=Pv (i + 1),ct:=Pv (i + 1),bk:=D.nx } σ2 H2) (hd:∀ σ H,Pv xs.length σ H->D.nx σ H) :
 ∃ W:Nat->Nat->St->Hp->Prop,(∃ m,W 0 m σ H)/\∀ i m σ H,W i m σ H->
  ((Itl K a).stop i H/\D.nx σ H)\/((Itl K a).go i H/\∃ N:St->Hp->Prop,(∀ σ' H',N σ' H'->∃ m',m' < m/\W (i + 1) m' σ' H')/\∀ x H',(Itl K a).yld i H x H'->g x σ H' fun σ2 H2=>tb { D with nx:=N,ct:=N,bk:=D.nx } σ2 H2):=by
 refine ⟨fun i m σ H=>m=xs.length - i/\i<=xs.length/\Pv i σ H,⟨xs.length,by simp,Nat.zero_le _,h0⟩,?_⟩
 rintro i m σ H ⟨rfl,hi,p⟩
 have q:=hl i σ H hi p
 by_cases hlt:i < xs.length
 ·refine .inr ⟨⟨xs,xs[i],q,by simp [hlt]⟩,Pv (i + 1),fun σ' H' p'=>⟨xs.length - (i + 1),by omega,rfl,hlt,p'⟩,fun x H' y=>?_⟩
  obtain ⟨e,y⟩:=y
  subst e
  exact hs i x σ _ (y xs q) p
 ·have e:i=xs.length:=by omega
  subst e
  exact .inl ⟨⟨xs,q,Nat.le_refl _⟩,hd σ H p⟩
theorem for_tup {K:PySem.W.Frag} {a:Addr} {xs:List V} {g:TG} {tb:TS} {D:Ends} {σ:St} {H:Hp} (Pv:Nat->St->Hp->Prop) (h0:Pv 0 σ H) (hl:∀ i σ H,i<=xs.length->Pv i σ H->SqT K H a xs)
 (hs:∀ i x σ H,xs[i]?=some x->Pv i σ H->g x σ H fun σ2 H2=>tb { D with nx:=Pv (i + 1),ct:=Pv (i + 1),bk:=D.nx } σ2 H2) (hd:∀ σ H,Pv xs.length σ H->D.nx σ H) :
 ∃ W:Nat->Nat->St->Hp->Prop,(∃ m,W 0 m σ H)/\∀ i m σ H,W i m σ H->
  ((Itt K a).stop i H/\D.nx σ H)\/((Itt K a).go i H/\∃ N:St->Hp->Prop,(∀ σ' H',N σ' H'->∃ m',m' < m/\W (i + 1) m' σ' H')/\∀ x H',(Itt K a).yld i H x H'->g x σ H' fun σ2 H2=>tb { D with nx:=N,ct:=N,bk:=D.nx } σ2 H2):=by
 refine ⟨fun i m σ H=>m=xs.length - i/\i<=xs.length/\Pv i σ H,⟨xs.length,by simp,Nat.zero_le _,h0⟩,?_⟩
 rintro i m σ H ⟨rfl,hi,p⟩
 have q:=hl i σ H hi p
 by_cases hlt:i < xs.length
 ·refine .inr ⟨⟨xs,xs[i],q,by simp [hlt]⟩,Pv (i + 1),fun σ' H' p'=>⟨xs.length - (i + 1),by omega,rfl,hlt,p'⟩,fun x H' y=>?_⟩
  obtain ⟨e,y⟩:=y
  subst e
  exact hs i x σ _ (y xs q) p
 ·have e:i=xs.length:=by omega
  subst e
  exact .inl ⟨⟨xs,q,Nat.le_refl _⟩,hd σ H p⟩
theorem D5 {lo:Int} {n:Nat} {g:TG} {tb:TS} {D:Ends} {σ:St} {H:Hp} (Pv:Nat->St->Hp->Prop) (h0:Pv 0 σ H)
 (hs:∀ i σ H,i < n->Pv i σ H->g (.int (lo + i)) σ H fun σ2 H2=>tb { D with nx:=Pv (i + 1),ct:=Pv (i + 1),bk:=D.nx } σ2 H2) (hd:∀ σ H,Pv n σ H->D.nx σ H) :
 ∃ W:Nat->Nat->St->Hp->Prop,(∃ m,W 0 m σ H)/\∀ i m σ H,W i m σ H->
  ((Itr lo n).stop i H/\D.nx σ H)\/((Itr lo n).go i H/\∃ N:St->Hp->Prop,(∀ σ' H',N σ' H'->∃ m',m' < m/\W (i + 1) m' σ' H')/\∀ x H',(Itr lo n).yld i H x H'->g x σ H' fun σ2 H2=>tb { D with nx:=N,ct:=N,bk:=D.nx } σ2 H2):=by
 refine ⟨fun i m σ H=>m=n - i/\i<=n/\Pv i σ H,⟨n,by simp,Nat.zero_le _,h0⟩,?_⟩
 rintro i m σ H ⟨rfl,hi,p⟩
 by_cases hlt:i < n
 ·refine .inr ⟨hlt,Pv (i + 1),fun σ' H' p'=>⟨n - (i + 1),by omega,rfl,hlt,p'⟩,fun x H' y=>?_⟩
  obtain ⟨e,y⟩:=y
  subst e y
  exact hs i σ _ hlt p
 ·have e:i=n:=by omega
  subst e
  exact .inl ⟨Nat.le_refl _,hd σ H p⟩
end L2
namespace L2
open PySem PySem.Spec PyProof.Rows
abbrev R2:=V->V->Hp->VK->Prop
def OpR (X:Cx) (f:Value->Value->Sem Value) (r:R2):Prop:=
 ∀ (pins:List (Addr × Obj)) (s:Shared) (σ:St) (H:Hp) (x y:V) (v u:Value) (Q:VK),Inv X pins σ H s->RelV x v->RelV y u->r x y H Q->
  wpAny (model X.prog X.w) X.A (f v u) (EP X pins σ Q) X.xe s
def UnR (X:Cx) (f:Value->Sem Value) (r:V->Hp->VK->Prop):Prop:=
 ∀ (pins:List (Addr × Obj)) (s:Shared) (σ:St) (H:Hp) (x:V) (v:Value) (Q:VK),Inv X pins σ H s->RelV x v->r x H Q->
  wpAny (model X.prog X.w) X.A (f v) (EP X pins σ Q) X.xe s
def CallR (X:Cx) (f:Value) (r:List V->Hp->VK->Prop):Prop:=
 ∀ (pins:List (Addr × Obj)) (s:Shared) (σ:St) (H:Hp) (xs:List V) (us:List Value) (Q:VK),Inv X pins σ H s->Vals xs us->r xs H Q->
  wpAny (model X.prog X.w) X.A (call f us) (EP X pins σ Q) X.xe s
def TruR (X:Cx) (r:V->Hp->(Bool->Hp->Prop)->Prop):Prop:=
 ∀ (pins:List (Addr × Obj)) (s:Shared) (σ:St) (H:Hp) (x:V) (v:Value) (Q:Bool->Hp->Prop),Inv X pins σ H s->RelV x v->r x H Q->
  wpAny (model X.prog X.w) X.A (truthy v) (TP X pins σ Q) X.xe s
def tOp (r:R2) (ta tb:TE):TE:=fun σ H Q=>ta σ H fun x H1=>tb σ H1 fun y H2=>r x y H2 Q
def tUn (r:V->Hp->VK->Prop) (ta:TE):TE:=fun σ H Q=>ta σ H fun x H1=>r x H1 Q
def rI (C:Int->Int->Prop) (g:Int->Int->V):R2:=fun x y H Q=>∃ i j,x=.int i/\y=.int j/\C i j/\Q (g i j) H
def rI0 (g:Int->Int->V):R2:=fun x y H Q=>∃ i j,x=.int i/\y=.int j/\Q (g i j) H
def rU (g:Int->V):V->Hp->VK->Prop:=fun x H Q=>∃ i,x=.int i/\Q (g i) H
section
variable {X:Cx} {a b c:Expr} {ta tb tc:TE} {pos:Pos}
theorem binT (ha:PE X a ta) (hb:PE X b tb) {pins:List (Addr × Obj)} {s:Shared} {σ:St} {H:Hp} {R:V->V->Hp->Prop} (I:Inv X pins σ H s)
 (h:ta σ H fun x H1=>tb σ H1 fun y H2=>R x y H2) {Q:Value->Shared->Prop} {f:Value->Value->Sem Value}
 (hf:∀ v u s2 x y H2,Inv X pins σ H2 s2->RelV x v->RelV y u->R x y H2->wpAny (model X.prog X.w) X.A (f v u) Q X.xe s2) :
 wpAny (model X.prog X.w) X.A (eval a X.env) (fun v s₁=>wpAny (model X.prog X.w) X.A (eval b X.env) (fun u s₂=>wpAny (model X.prog X.w) X.A (f v u) Q X.xe s₂) X.xe s₁) X.xe s:=by
 refine thn (ha pins s σ H _ I h) fun v s1 ⟨x,H1,I1,r1,q1⟩=>?_
 refine thn (hb pins s1 σ H1 _ I1 q1) fun u s2 ⟨y,H2,I2,r2,q2⟩=>?_
 exact hf v u s2 x y H2 I2 r1 r2 q2
theorem A3 {op:Operator} {r:R2} (ho:OpR X (binaryOp op) r) (ha:PE X a ta) (hb:PE X b tb):PE X (.BinOp a op b pos) (tOp r ta tb):=by
 intro pins s σ H Q I h
 exact wpAny_BinOp (binT ha hb I h fun v u s2 x y H2 I2 rx ry q=>ho pins s2 σ H2 x y v u Q I2 rx ry q)
theorem pe_un {op:UnaryOp} {r:V->Hp->VK->Prop} (ho:UnR X (unaryOp op) r) (ha:PE X a ta):PE X (.UnaryOp op a pos) (tUn r ta):=by
 intro pins s σ H Q I h
 exact UnaryOp_ (thn (ha pins s σ H _ I h) fun v s1 ⟨x,H1,I1,r1,q1⟩=>ho pins s1 σ H1 x v Q I1 r1 q1)
theorem opI {f:Value->Value->Sem Value} {C:Int->Int->Prop} {g:Int->Int->Int}
 (rule:∀ (i j:Int) (t u:Tok) (s:Shared) (Q:Value->Shared->Prop) (E:Value->Shared->Prop),C i j->Q (.int (g i j) s.toks) { s with toks:=s.toks + 1 }->wpAny (model X.prog X.w) X.A (f (.int i t) (.int j u)) Q E s) :
 OpR X f (rI C fun i j=>.int (g i j)):=by
 intro pins s σ H x y v u Q I rx ry h
 obtain ⟨i,j,rfl,rfl,hc,q⟩:=h
 obtain ⟨t,rfl⟩:=rx
 obtain ⟨t',rfl⟩:=ry
 exact rule i j t t' s _ _ hc ⟨.int (g i j),H,I.tok _,⟨_,rfl⟩,q⟩
theorem opI0 {f:Value->Value->Sem Value} {g:Int->Int->Int}
 (rule:∀ (i j:Int) (t u:Tok) (s:Shared) (Q:Value->Shared->Prop) (E:Value->Shared->Prop),Q (.int (g i j) s.toks) { s with toks:=s.toks + 1 }->wpAny (model X.prog X.w) X.A (f (.int i t) (.int j u)) Q E s) :
 OpR X f (rI0 fun i j=>.int (g i j)):=by
 intro pins s σ H x y v u Q I rx ry h
 obtain ⟨i,j,rfl,rfl,q⟩:=h
 obtain ⟨t,rfl⟩:=rx
 obtain ⟨t',rfl⟩:=ry
 exact rule i j t t' s _ _ ⟨.int (g i j),H,I.tok _,⟨_,rfl⟩,q⟩
theorem opB0 {f:Value->Value->Sem Value} {g:Int->Int->Bool}
 (rule:∀ (i j:Int) (t u:Tok) (s:Shared) (Q:Value->Shared->Prop) (E:Value->Shared->Prop),Q (.bool (g i j)) s->wpAny (model X.prog X.w) X.A (f (.int i t) (.int j u)) Q E s) :
 OpR X f (rI0 fun i j=>.bl (g i j)):=by
 intro pins s σ H x y v u Q I rx ry h
 obtain ⟨i,j,rfl,rfl,q⟩:=h
 obtain ⟨t,rfl⟩:=rx
 obtain ⟨t',rfl⟩:=ry
 exact rule i j t t' s _ _ ⟨.bl (g i j),H,I,rfl,q⟩
def CPow (i j:Int):Prop:=0<=j/\j<=1000000/\i.natAbs < 2 ^ 64
def CMul (i j:Int):Prop:=(-(2 ^ 64) < i/\i < 2 ^ 64)\/(-(2 ^ 64) < j/\j < 2 ^ 64)
theorem CMul.ok {i j:Int} (h:CMul i j):IntMulOk i j:=by
 rcases h with ⟨h1,h2⟩ | ⟨h1,h2⟩
 ·exact .of_left (intBits_le_64 h1 h2)
 ·exact .of_right (intBits_le_64 h1 h2)
theorem B4:OpR X (binaryOp .Add) (rI0 fun i j=>.int (i + j)):=opI0 fun _ _ _ _ _ _ _ q=>add_int q
theorem op_sub:OpR X (binaryOp .Sub) (rI0 fun i j=>.int (i - j)):=opI0 fun _ _ _ _ _ _ _ q=>sub_int q
theorem op_mul:OpR X (binaryOp .Mult) (rI CMul fun i j=>.int (i * j)):=opI fun _ _ _ _ _ _ _ hc q=>mul_int q hc.ok
theorem op_mod:OpR X (binaryOp .Mod) (rI (fun _ j=>0 < j) fun i j=>.int (i % j)):=opI fun i j _ _ _ _ _ hc q=>by
 have h1:(0:Int) < j:=hc
 exact mod_int' (by omega) (by rw [Int.fmod_eq_emod_of_nonneg i (by omega)]; exact q)
theorem op_pow:OpR X (binaryOp .Pow) (rI CPow fun i j=>.int (i ^ j.toNat)):=opI fun _ _ _ _ _ _ _ hc q=>pow_int_small hc.1 hc.2.1 hc.2.2 q
theorem unI {f:Value->Sem Value} {g:Int->Int}
 (rule:∀ (i:Int) (t:Tok) (s:Shared) (Q:Value->Shared->Prop) (E:Value->Shared->Prop),Q (.int (g i) s.toks) { s with toks:=s.toks + 1 }->wpAny (model X.prog X.w) X.A (f (.int i t)) Q E s) :
 UnR X f (rU fun i=>.int (g i)):=by
 intro pins s σ H x v Q I rx h
 obtain ⟨i,rfl,q⟩:=h
 obtain ⟨t,rfl⟩:=rx
 exact rule i t s _ _ ⟨.int (g i),H,I.tok _,⟨_,rfl⟩,q⟩
theorem un_neg:UnR X (unaryOp .USub) (rU fun i=>.int (-i)):=unI fun _ _ _ _ _ q=>neg_int q
end
def scal:V->V->Bool
 | .non,.non=>true | .non,.int _=>true | .int _,.non=>true | .non,.bl _=>true | .bl _,.non=>true | .non,.str _=>true | .str _,.non=>true
 | .int _,.int _=>true | .bl _,.bl _=>true | .str _,.str _=>true | .byt _,.byt _=>true
 | .int _,.str _=>true | .str _,.int _=>true | .bl _,.str _=>true | .str _,.bl _=>true
 | _,_=>false
def rEq:R2:=fun x y H Q=>scal x y=true/\Q (.bl (decide (x=y))) H
def rNe:R2:=fun x y H Q=>scal x y=true/\Q (.bl (!decide (x=y))) H
theorem dec_int {i j:Int}:decide (V.int i=V.int j)=(i == j):=by
 rw [Bool.eq_iff_iff]
 simp
theorem dec_bl {i j:Bool}:decide (V.bl i=V.bl j)=(i == j):=by
 rw [Bool.eq_iff_iff]
 simp
theorem dec_str {i j:Str}:decide (V.str i=V.str j)=(i == j):=by
 rw [Bool.eq_iff_iff]
 simp
theorem dec_byt {i j:Array UInt8}:decide (V.byt i=V.byt j)=(i.toList == j.toList):=by
 rw [Bool.eq_iff_iff]
 cases i
 cases j
 simp
section
variable {X:Cx} {a b c:Expr} {ta tb tc:TE} {pos:Pos}
theorem Bh {pins:List (Addr × Obj)} {σ:St} {H:Hp} {s:Shared} {Q:VK} {k k':Bool} (I:Inv X pins σ H s) (q:Q (.bl k) H) (e:k=k'):EP X pins σ Q (.bool k') s:=by
 subst e
 exact ⟨.bl k,H,I,rfl,q⟩
theorem El:OpR X (compareOp .Eq) rEq:=by
 intro pins s σ H x y v u Q I rx ry h
 obtain ⟨hs,q⟩:=h
 cases x with
 | non=>
   cases rx
   cases y with
   | non=>cases ry; exact PySem.EqNone.eq_none_none (Bh I q (by simp))
   | bl j=>cases ry; exact PySem.EqNone.eq_none_bool (Bh I q (by simp))
   | int j=>obtain ⟨t',rfl⟩:=ry; exact PySem.EqNone.eq_none_int (Bh I q (by simp))
   | str j=>obtain ⟨t',rfl⟩:=ry; exact PySem.EqNone.eq_none_str (Bh I q (by simp))
   | _=>exact absurd (show false=true from hs) Bool.false_ne_true
 | bl i=>
   cases rx
   cases y with
   | non=>cases ry; exact PySem.EqNone.eq_bool_none (Bh I q (by simp))
   | bl j=>cases ry; exact eq_bool (Bh I q dec_bl)
   | str j=>obtain ⟨t',rfl⟩:=ry; exact PySem.EqMixed.eq_bool_str (Bh I q (by simp))
   | _=>exact absurd (show false=true from hs) Bool.false_ne_true
 | int i=>
   obtain ⟨t,rfl⟩:=rx
   cases y with
   | non=>cases ry; exact PySem.EqNone.eq_int_none (Bh I q (by simp))
   | int j=>obtain ⟨t',rfl⟩:=ry; exact eq_int (Bh I q dec_int)
   | str j=>obtain ⟨t',rfl⟩:=ry; exact PySem.EqMixed.eq_int_str (Bh I q (by simp))
   | _=>exact absurd (show false=true from hs) Bool.false_ne_true
 | str i=>
   obtain ⟨t,rfl⟩:=rx
   cases y with
   | non=>cases ry; exact PySem.EqNone.eq_str_none (Bh I q (by simp))
   | bl j=>cases ry; exact PySem.EqMixed.eq_str_bool (Bh I q (by simp))
   | int j=>obtain ⟨t',rfl⟩:=ry; exact PySem.EqMixed.eq_str_int (Bh I q (by simp))
   | str j=>obtain ⟨t',rfl⟩:=ry; exact eq_str (Bh I q dec_str)
   | _=>exact absurd (show false=true from hs) Bool.false_ne_true
 | byt i=>
   obtain ⟨t,rfl⟩:=rx
   cases y with
   | byt j=>obtain ⟨t',rfl⟩:=ry; exact PySem.W.eq_bytes (Bh I q dec_byt)
   | _=>exact absurd (show false=true from hs) Bool.false_ne_true
 | _=>cases y <;> exact absurd (show false=true from hs) Bool.false_ne_true
theorem op_ne:OpR X (compareOp .NotEq) rNe:=by
 intro pins s σ H x y v u Q I rx ry h
 obtain ⟨hs,q⟩:=h
 cases x with
 | non=>
   cases rx
   cases y with
   | non=>cases ry; exact PySem.EqNone.ne_none_none (Bh I q (by simp))
   | bl j=>cases ry; exact PySem.EqNone.ne_none_bool (Bh I q (by simp))
   | int j=>obtain ⟨t',rfl⟩:=ry; exact PySem.EqNone.ne_none_int (Bh I q (by simp))
   | str j=>obtain ⟨t',rfl⟩:=ry; exact PySem.EqNone.ne_none_str (Bh I q (by simp))
   | _=>exact absurd (show false=true from hs) Bool.false_ne_true
 | bl i=>
   cases rx
   cases y with
   | non=>cases ry; exact PySem.EqNone.ne_bool_none (Bh I q (by simp))
   | bl j=>cases ry; exact ne_bool (Bh I q (congrArg not dec_bl))
   | str j=>obtain ⟨t',rfl⟩:=ry; exact PySem.EqMixed.ne_bool_str (Bh I q (by simp))
   | _=>exact absurd (show false=true from hs) Bool.false_ne_true
 | int i=>
   obtain ⟨t,rfl⟩:=rx
   cases y with
   | non=>cases ry; exact PySem.EqNone.ne_int_none (Bh I q (by simp))
   | int j=>obtain ⟨t',rfl⟩:=ry; exact ne_int (Bh I q (congrArg not dec_int))
   | str j=>obtain ⟨t',rfl⟩:=ry; exact PySem.EqMixed.ne_int_str (Bh I q (by simp))
   | _=>exact absurd (show false=true from hs) Bool.false_ne_true
 | str i=>
   obtain ⟨t,rfl⟩:=rx
   cases y with
   | non=>cases ry; exact PySem.EqNone.ne_str_none (Bh I q (by simp))
   | bl j=>cases ry; exact PySem.EqMixed.ne_str_bool (Bh I q (by simp))
   | int j=>obtain ⟨t',rfl⟩:=ry; exact PySem.EqMixed.ne_str_int (Bh I q (by simp))
   | str j=>obtain ⟨t',rfl⟩:=ry; exact ne_str (Bh I q (congrArg not dec_str))
   | _=>exact absurd (show false=true from hs) Bool.false_ne_true
 | byt i=>
   obtain ⟨t,rfl⟩:=rx
   cases y with
   | byt j=>obtain ⟨t',rfl⟩:=ry; exact PySem.W.ne_bytes (Bh I q (congrArg not dec_byt))
   | _=>exact absurd (show false=true from hs) Bool.false_ne_true
 | _=>cases y <;> exact absurd (show false=true from hs) Bool.false_ne_true
theorem op_lt:OpR X (compareOp .Lt) (rI0 fun i j=>.bl (decide (i < j))):=opB0 fun _ _ _ _ _ _ _ q=>lt_int q
theorem op_le:OpR X (compareOp .LtE) (rI0 fun i j=>.bl (decide (i<=j))):=opB0 fun _ _ _ _ _ _ _ q=>le_int q
theorem Eu:OpR X (compareOp .Gt) (rI0 fun i j=>.bl (decide (j < i))):=opB0 fun _ _ _ _ _ _ _ q=>gt_int q
theorem op_ge:OpR X (compareOp .GtE) (rI0 fun i j=>.bl (decide (j<=i))):=opB0 fun _ _ _ _ _ _ _ q=>ge_int q
theorem op_in_str:OpR X (compareOp .In) (fun x y H Q=>∃ i j,x=.str i/\y=.str j/\Q (.bl (!(Builtin.Str.occurrences j i 0 j.length 1).isEmpty)) H):=by
 intro pins s σ H x y v u Q I rx ry h
 obtain ⟨i,j,rfl,rfl,q⟩:=h
 obtain ⟨t,rfl⟩:=rx
 obtain ⟨t',rfl⟩:=ry
 exact in_str (Bh I q rfl)
theorem A1 (b:Expr) {op:CmpOp} (h:op≠.In:=by decide) (h2:op≠.NotIn:=by decide):behindInMarks op b=false:=by
 have e1:(op == CmpOp.In)=false:=by cases op <;> first | rfl | exact absurd rfl h
 have e2:(op == CmpOp.NotIn)=false:=by cases op <;> first | rfl | exact absurd rfl h2
 cases b <;> simp [behindInMarks,e1,e2]
theorem C1 {op:CmpOp} {r:R2} (ho:OpR X (compareOp op) r) (ha:PE X a ta) (hb:PE X b tb) (hm:behindInMarks op b=false):PE X (.Compare a [op] [b] pos) (tOp r ta tb):=by
 intro pins s σ H Q I h
 exact wpAny_Compare1 (binT ha hb I h fun v u s2 x y H2 I2 rx ry q=>ho pins s2 σ H2 x y v u Q I2 rx ry q) hm
def tTest (t:TE):TT:=fun σ H Q=>t σ H fun x H'=>∃ k,x=.bl k/\Q k H'
theorem Av {op:CmpOp} {r:R2} (ho:OpR X (compareOp op) r) (ha:PE X a ta) (hb:PE X b tb) (hm:behindInMarks op b=false):PT X (.Compare a [op] [b] pos) (tTest (tOp r ta tb)):=by
 intro pins s σ H Q I h
 refine wpAny_isTrue_Compare1 (thn (ha pins s σ H _ I h) fun v s1 ⟨x,H1,I1,r1,q1⟩=>thn (hb pins s1 σ H1 _ I1 q1) fun u s2 ⟨y,H2,I2,r2,q2⟩=>
  thn (ho pins s2 σ H2 x y v u _ I2 r1 r2 q2) fun c s3 ⟨z,H3,I3,r3,k,e,q3⟩=>?_) hm
 subst e
 cases r3
 exact wpAny_truthy_bool ⟨H3,I3,q3⟩
def tChain (r r':R2) (ta tb tc:TE):TE:=fun σ H Q=>ta σ H fun x H1=>tb σ H1 fun y H2=>r x y H2 fun z H3=>∃ k,z=.bl k/\
 (if k=true then tc σ H3 fun w' H4=>r' y w' H4 Q else Q (.bl false) H3)
theorem pe_chain {op op':CmpOp} {r r':R2} (ho:OpR X (compareOp op) r) (ho':OpR X (compareOp op') r') (ha:PE X a ta) (hb:PE X b tb) (hc:PE X c tc)
 (hm:lastMarks [op,op'] [b,c]=false:=by with_unfolding_all rfl):PE X (.Compare a [op,op'] [b,c] pos) (tChain r r' ta tb tc):=by
 intro pins s σ H Q I h
 refine Compare_chain (thn (ha pins s σ H _ I h) fun v s1 ⟨x,H1,I1,r1,q1⟩=>chain_link (thn (hb pins s1 σ H1 _ I1 q1) fun u s2 ⟨y,H2,I2,r2,q2⟩=>
  thn (ho pins s2 σ H2 x y v u _ I2 r1 r2 q2) fun d s3 ⟨z,H3,I3,r3,k,e,q3⟩=>?_)) hm
 subst e
 cases r3
 refine wpAny_truthy_bool ?_
 cases k with
 | false=>exact ite_ff ⟨.bl false,H3,I3,rfl,q3⟩
 | true=>exact ite_tt (chain_last (thn (hc pins s3 σ H3 _ I3 q3) fun w' s4 ⟨z',H4,I4,r4,q4⟩=>ho' pins s4 σ H4 y z' u w' Q I4 r2 r4 q4))
theorem pt_chain {op op':CmpOp} {r r':R2} (ho:OpR X (compareOp op) r) (ho':OpR X (compareOp op') r') (ha:PE X a ta) (hb:PE X b tb) (hc:PE X c tc)
 (hm:lastMarks [op,op'] [b,c]=false:=by with_unfolding_all rfl):PT X (.Compare a [op,op'] [b,c] pos) (tTest (tChain r r' ta tb tc)):=by
 intro pins s σ H Q I h
 refine isTrue_chain (thn (ha pins s σ H _ I h) fun v s1 ⟨x,H1,I1,r1,q1⟩=>test_link (thn (hb pins s1 σ H1 _ I1 q1) fun u s2 ⟨y,H2,I2,r2,q2⟩=>
  thn (ho pins s2 σ H2 x y v u _ I2 r1 r2 q2) fun d s3 ⟨z,H3,I3,r3,k,e,q3⟩=>?_)) hm
 subst e
 cases r3
 refine wpAny_truthy_bool ?_
 cases k with
 | false=>
   obtain ⟨k',e',q'⟩:=q3
   cases e'
   exact ite_ff ⟨H3,I3,q'⟩
 | true=>
   refine ite_tt (test_last (thn (hc pins s3 σ H3 _ I3 q3) fun w' s4 ⟨z',H4,I4,r4,q4⟩=>thn (ho' pins s4 σ H4 y z' u w' _ I4 r2 r4 q4) fun d' s5 ⟨z2,H5,I5,r5,k2,e2,q5⟩=>?_))
   subst e2
   cases r5
   exact wpAny_truthy_bool ⟨H5,I5,q5⟩
def TruV (K:PySem.W.Frag) (x:V) (H:Hp) (k:Bool):Prop:=
 match x with
 | .non=>k=false
 | .bl b=>k=b
 | .int i=>k=(i != 0)
 | .str y=>y.length<=sizeLine/\k=((y.length:Int) != 0)
 | .byt y=>y.size<=sizeLine/\k=((y.size:Int) != 0)
 | .ref p=>(∃ xs,SqL K H p xs/\k=!xs.isEmpty)\/(∃ xs,SqT K H p xs/\k=!xs.isEmpty)\/∃ kvs,H p=some (.dK kvs)/\k=!kvs.isEmpty
 | _=>False
theorem isEmpty_kv {κ:Type} {kvs:List (κ × V)} {vs:List (κ × Value)} (r:KV kvs vs):(!vs.isEmpty)=!kvs.isEmpty:=by
 cases r <;> rfl
theorem isEmpty_of {xs:List V} {its:List Value} (r:Vals xs its):(!its.toArray.isEmpty)=!xs.isEmpty:=by
 cases r <;> simp
theorem line63:(sizeLine:Nat) < 2 ^ 63:=by rw [sizeLine_eq]; decide
theorem tru_ok:TruR X (fun x H Q=>∃ k,TruV X.K x H k/\Q k H):=by
 intro pins s σ H x v Q I rx h
 obtain ⟨k,e,q⟩:=h
 have hl:=line63
 have hs:sizeLine=16777216:=sizeLine_eq
 cases x with
 | non=>
   cases rx
   have e':k=false:=e
   subst e'
   exact truthy_none ⟨H,I,q⟩
 | bl b=>
   cases rx
   have e':k=b:=e
   subst e'
   exact wpAny_truthy_bool ⟨H,I,q⟩
 | int i=>
   obtain ⟨t,rfl⟩:=rx
   have e':k=(i != 0):=e
   subst e'
   exact PySem.P.truthy_int ⟨H,I,q⟩
 | str y=>
   obtain ⟨t,rfl⟩:=rx
   obtain ⟨hy,e'⟩:y.length<=sizeLine/\k=((y.length:Int) != 0):=e
   subst e'
   exact PySem.P.truthy_str (by omega) ⟨H,I.tok _,q⟩
 | byt y=>
   obtain ⟨t,rfl⟩:=rx
   obtain ⟨hy,e'⟩:y.size<=sizeLine/\k=((y.size:Int) != 0):=e
   subst e'
   exact PySem.W.truthy_bytes (by omega) ⟨H,I.tok _,q⟩
 | ref p=>
   cases rx
   have e':(∃ xs,SqL X.K H p xs/\k=!xs.isEmpty)\/(∃ xs,SqT X.K H p xs/\k=!xs.isEmpty)\/∃ kvs,H p=some (.dK kvs)/\k=!kvs.isEmpty:=e
   rcases e' with ⟨xs,hx,e'⟩ | ⟨xs,hx,e'⟩ | ⟨kvs,hx,e'⟩
   ·subst e'
    obtain ⟨its,r,pl,hz⟩:=I.list hx
    have hlen:=r.length
    exact wpAny_truthy_list pl.isList (by simp only [List.size_toArray]; omega) ⟨H,I.tok _,by rw [isEmpty_of r]; exact q⟩
   ·subst e'
    obtain ⟨its,r,pl,hz⟩:=I.tuple hx
    have hlen:=r.length
    exact truthy_tuple pl (by simp only [List.size_toArray]; omega) ⟨H,I.tok _,by rw [isEmpty_of r]; exact q⟩
   ·subst e'
    obtain ⟨hz,hS,vs,r,m⟩:kvs.length<=sizeLine/\(p == sysModules)=false/\∃ vs,KV kvs vs/\s.heap.DictOf (Ax X.prog X.w) p vs:=I.hok p _ hx
    have hlen:kvs.length=vs.length:=Paired.length r
    exact wpAny_truthy_dict hS m (by omega) ⟨H,I.tok _,by rw [isEmpty_kv r]; exact q⟩
 | _=>exact (show False from e).elim
theorem pt_truth (ha:PE X a ta) (he:∀ whole,isTrue a X.env whole=(do let v ← whole; standAt a.pos; holding [v] (truthy v))) :
 PT X a (fun σ H Q=>ta σ H fun x H'=>∃ k,TruV X.K x H' k/\Q k H'):=by
 intro pins s σ H Q I h
 exact isTrue_plain (thn (ha pins s σ H _ I h) fun v s1 ⟨x,H1,I1,r1,q1⟩=>tru_ok pins s1 σ H1 x v Q I1 r1 q1) (he _)
theorem Bo:OpR X (binaryOp .Add) (fun x y H Q=>∃ i j,x=.str i/\y=.str j/\i.length + j.length<=sizeLine/\Q (.str (i ++ j)) H):=by
 intro pins s σ H x y v u Q I rx ry h
 obtain ⟨i,j,rfl,rfl,hz,q⟩:=h
 obtain ⟨t,rfl⟩:=rx
 obtain ⟨t',rfl⟩:=ry
 exact add_str (fun t' tk=>⟨.str (i ++ j),H,I.tok _,⟨_,rfl⟩,q⟩) hz
theorem vals1 {x:V} {us:List Value} (r:Vals [x] us):∃ u,us=[u]/\RelV x u:=by
 cases r with
 | cons r1 r2=>cases r2; exact ⟨_,rfl,r1⟩
theorem vals2 {x y:V} {us:List Value} (r:Vals [x,y] us):∃ u w',us=[u,w']/\RelV x u/\RelV y w':=by
 cases r with
 | cons r1 r2=>
   cases r2 with
   | cons r3 r4=>cases r4; exact ⟨_,_,rfl,r1,r3⟩
theorem call_max2 (hc:X.calm=true):CallR X (.builtin "max") (fun xs H Q=>∃ i j,xs=[.int i,.int j]/\Q (.int (if j > i then j else i)) H):=by
 intro pins s σ H xs us Q I r h
 obtain ⟨i,j,rfl,q⟩:=h
 obtain ⟨u,w',rfl,⟨t,rfl⟩,⟨t',rfl⟩⟩:=vals2 r
 refine max_two_ints (I.ok.hd hc) fun h' tk k=>⟨_,H,I.kept k,?_,q⟩
 by_cases hj:j > i
 ·rw [if_pos hj,if_pos hj]; exact ⟨_,rfl⟩
 ·rw [if_neg hj,if_neg hj]; exact ⟨_,rfl⟩
theorem call_min2 (hc:X.calm=true):CallR X (.builtin "min") (fun xs H Q=>∃ i j,xs=[.int i,.int j]/\Q (.int (if j < i then j else i)) H):=by
 intro pins s σ H xs us Q I r h
 obtain ⟨i,j,rfl,q⟩:=h
 obtain ⟨u,w',rfl,⟨t,rfl⟩,⟨t',rfl⟩⟩:=vals2 r
 refine min_two_ints (I.ok.hd hc) fun h' tk k=>⟨_,H,I.kept k,?_,q⟩
 by_cases hj:j < i
 ·rw [if_pos hj,if_pos hj]; exact ⟨_,rfl⟩
 ·rw [if_neg hj,if_neg hj]; exact ⟨_,rfl⟩
theorem call_int1:CallR X (.type "int") (fun xs H Q=>(∃ i,xs=[.int i]/\Q (.int i) H)\/∃ k,xs=[.bl k]/\Q (.int (if k then 1 else 0)) H):=by
 intro pins s σ H xs us Q I r h
 rcases h with ⟨i,rfl,q⟩ | ⟨k,rfl,q⟩
 ·obtain ⟨u,rfl,t,rfl⟩:=vals1 r
  exact call_int_int ⟨.int i,H,I,⟨_,rfl⟩,q⟩
 ·obtain ⟨u,rfl,r1⟩:=vals1 r
  cases r1
  exact call_int_bool ⟨.int (if k then 1 else 0),H,I.tok _,⟨_,rfl⟩,q⟩
theorem call_str_int:CallR X (.type "str") (fun xs H Q=>∃ i,xs=[.int i]/\i.natAbs.log2 < 1920/\Q (.str (toString i)) H):=by
 intro pins s σ H xs us Q I r h
 obtain ⟨i,rfl,hz,q⟩:=h
 obtain ⟨u,rfl,t,rfl⟩:=vals1 r
 exact PySem.P.str_of_int hz ⟨.str _,H,I.tok _,⟨_,rfl⟩,q⟩
def LenV (K:PySem.W.Frag) (x:V) (H:Hp) (n:Nat):Prop:=
 match x with
 | .str y=>y.length<=sizeLine/\n=y.length
 | .byt y=>y.size<=sizeLine/\n=y.size
 | .ref p=>(∃ xs,SqL K H p xs/\n=xs.length)\/∃ xs,SqT K H p xs/\n=xs.length
 | _=>False
theorem Aq:CallR X (.builtin "len") (fun xs H Q=>∃ x n,xs=[x]/\LenV X.K x H n/\Q (.int n) H):=by
 intro pins s σ H xs us Q I r h
 obtain ⟨x,n,rfl,e,q⟩:=h
 obtain ⟨u,rfl,rx⟩:=vals1 r
 have hl:=line63
 have hs:sizeLine=16777216:=sizeLine_eq
 cases x with
 | str y=>
   obtain ⟨t,rfl⟩:=rx
   obtain ⟨hy,e'⟩:y.length<=sizeLine/\n=y.length:=e
   subst e'
   exact len_str (by omega) ⟨.int _,H,I.tok _,⟨_,rfl⟩,q⟩
 | byt y=>
   obtain ⟨t,rfl⟩:=rx
   obtain ⟨hy,e'⟩:y.size<=sizeLine/\n=y.size:=e
   subst e'
   exact PySem.W.len_bytes (by omega) ⟨.int _,H,I.tok _,⟨_,rfl⟩,q⟩
 | ref p=>
   cases rx
   have e':(∃ xs,SqL X.K H p xs/\n=xs.length)\/∃ xs,SqT X.K H p xs/\n=xs.length:=e
   rcases e' with ⟨xs,hx,e'⟩ | ⟨xs,hx,e'⟩
   ·subst e'
    obtain ⟨its,r',pl,hz⟩:=I.list hx
    have hlen:=r'.length
    exact Calls.call_len_list pl.isList (by simp only [List.size_toArray]; omega) ⟨.int xs.length,H,I.tok _,⟨_,by simp only [List.size_toArray]; rw [hlen]⟩,q⟩
   ·subst e'
    obtain ⟨its,r',pl,hz⟩:=I.tuple hx
    have hlen:=r'.length
    exact len_tuple pl (by simp only [List.size_toArray]; omega) ⟨.int xs.length,H,I.tok _,⟨_,by simp only [List.size_toArray]; rw [hlen]⟩,q⟩
 | _=>exact (show False from e).elim
end
end L2
namespace L2
open PySem PySem.Spec PyProof.Rows
structure ObjM (h:Heap) (x dx C:Addr) (mA:Str->Option Value):Prop where
 obj:h.get? x=some (PySem.W.instObj C dx)
 ns:h.Ns1 dx mA
 ne:dx≠x
theorem lookIn_ns {h:Heap} {dx:Addr} {mA:Str->Option Value} (n:h.Ns1 dx mA):∃ od,h.get? dx=some od/\∀ name,PySem.W.lookIn name od=some (mA name):=by
 obtain ⟨o,es,ep,ho,hd,hk,_,hm⟩:=n
 refine ⟨o,ho,fun name=>?_⟩
 have e:=hm name
 unfold nsFind findBy at e
 rw [← Array.find?_toList] at e
 unfold PySem.W.lookIn
 rw [hd]
 dsimp only
 split
 ·rename_i y q
  rw [q] at e
  exact congrArg some e
 ·rename_i q
  rw [q] at e
  have a:es.toList.any (·.refKey)=false:=by
   rw [List.any_eq_false]
   intro y hy
   obtain ⟨z,t,hkey⟩:=hk y (Array.mem_toList_iff.mp hy)
   simp [DictEntry.refKey,hkey]
  have a':¬ es.toList.any (·.refKey)=true:=by rw [a]; exact Bool.false_ne_true
  rw [if_neg a']
  exact congrArg some e
theorem ObjM.look {h:Heap} {x dx C:Addr} {mA:Str->Option Value} (I:ObjM h x dx C mA):∃ od,PySem.W.InstAt h x (PySem.W.instObj C dx) C (some od)/\∀ name,PySem.W.lookIn name od=some (mA name):=
 let ⟨od,ho,hl⟩:=lookIn_ns I.ns
 ⟨od,⟨I.obj,rfl,rfl,ho⟩,hl⟩
section
variable {prog:Program} {w:World} {A:Around} {E:Value->Shared->Prop} {s:Shared} {K:PySem.W.Frag} {x dx C f:Addr} {mA:Str->Option Value} {name:Str} {v:Value}
theorem get_map {expr:Bool} {Q:Value->Shared->Prop} (X:K.In s.heap) (I:ObjM s.heap x dx C mA) (hg:PySem.W.plainGet K C name=true) (hh:PySem.W.hasDictIn K C=true)
 (ha:PySem.W.findIn K (.ref C) name=some none) (hv:mA name=some v) (hv':PySem.W.handedIn v=true) (h:Q v { s with toks:=s.toks + 1 }) :
 wpAny (model prog w) A (getAttr (.ref x) name expr) Q E s:=by
 obtain ⟨od,J,hl⟩:=I.look
 exact PySem.W.get_value X J (PySem.W.plainGet_of hg).1 (PySem.W.findObj_own hh ha rfl (by rw [hl,hv])) hv' h
theorem get_meth {pl:Sem Bool} {Q:Value × List Value->Shared->Prop} (X:K.In s.heap) (I:ObjM s.heap x dx C mA) (hg:PySem.W.plainGet K C name=true)
 (hf:PySem.W.findIn K (.ref C) name=some (some (.ref f))) (ht:PySem.W.isFn K (.ref f)=true) (hv:mA name=none) (h:Q (.ref f,[.ref x]) s) :
 wpAny (model prog w) A (getMethod (.ref x) name pl) Q E s:=by
 obtain ⟨od,J,hl⟩:=I.look
 exact PySem.W.method_fn X J (PySem.W.plainGet_of hg).1 (PySem.W.plainGet_of hg).2 hf (beq_iff_eq.mp ht) (by show (PySem.W.lookIn name od).map (·.isSome)=some false; rw [hl,hv]; rfl) h
theorem set_map {ns:List Str} {Q:Unit->Shared->Prop} (X:K.In s.heap) (I:ObjM s.heap x dx C mA)
 (hs:PySem.W.findIn K (.ref C) "__setattr__"=some (some (.builtin "object.__setattr__"))) (hp:PySem.W.plainOver K C=true) (ht:PySem.W.takerIn K C name=some none) (hh:PySem.W.hasDictIn K C=true)
 (hw:PySem.Within mA ns) (hsz:ns.length<=sizeLine)
 (h:∀ h',ObjM h' x dx C (fun y=>if y=name then some v else mA y)->Heap.SameBut dx s.heap h'->Q () { s with heap:=h',toks:=s.toks + 2 }) :
 wpAny (model prog w) A (setAttr (.ref x) name v) Q E s:=by
 obtain ⟨od,J,hl⟩:=I.look
 refine PySem.W.set_plain X J hs (PySem.W.osa_open (s:={ s with toks:=s.toks + 1 }) (r:=none) X J hp ht fun b=>?_)
 obtain ⟨cd,hc,hd'⟩:=PySem.W.any_some hh
 have hx:s.heap.get? x=some ⟨.ref C,some dx,.plain,#[]⟩:=I.obj
 refine wpAny_bind (wpAny_pure (wpAny_bind (wpAny_bind (wpAny_loadPart hx (wpAny_bind (PySem.W.Looks.here (s:={ s with toks:=s.toks + 1 }) (PySem.W.looks_clsIn X hc) ?_))))))
 rw [hd']
 refine wpAny_pure (a:=some dx) (wpAny_bind (wpAny_pure (wpAny_bind ?_)))
 refine wpAny_nsSet1 (s:={ s with toks:=s.toks + 1 }) I.ns fun h' hn2 hs2=>?_
 obtain ⟨oD,esD,epD,hoD,hdD,hcD⟩:=hn2.count (PySem.Within.cons name v hw)
 refine wpAny_bind (wpAny_lookBehind hoD (by rw [hdD]; exact pastItsLine_dict (Nat.le_trans hcD (by rw [List.length_cons]; omega))) ?_)
 exact wpAny_pure (h _ ⟨(hs2.2 _ (Ne.symm I.ne)).trans I.obj,hn2,I.ne⟩ hs2)
theorem make_map {R:Result->Shared->Prop} {vs:List Value} {kw:List (Str × Value)} (X:K.In s.heap) (hm:PySem.W.makesIn K C=true)
 (hi:PySem.W.findIn K (.ref C) "__init__"=some (some (.ref f))) (hf:PySem.W.typeIn K (.ref f)=some (.type "function"))
 (h:codeAny (model prog w) (A.under (.builtin "type.__call__" ⟨.ref C :: vs,kw⟩)) (.call (.ref f) ⟨.ref (s.heap.objs.size + 1) :: vs,kw⟩) (PySem.W.InitBack (s.heap.objs.size + 1) R)
   { s with heap:=(s.heap.push PySem.W.emptyDict).push (PySem.W.instObj C s.heap.objs.size) }) :
 codeAny (model prog w) A (.call (.ref C) ⟨vs,kw⟩) R s:=by
 obtain ⟨hh,g,d,t,os⟩:=s
 exact PySem.W.make_core (PySem.W.makes_of X hm) (PySem.W.looks_findIn X hi) (fun self=>PySem.W.bind_fn X self hf) (.inl rfl) h
theorem make_map0 {R:Result->Shared->Prop} (X:K.In s.heap) (hm:PySem.W.makesIn K C=true)
 (hi:PySem.W.findIn K (.ref C) "__init__"=some (some (.builtin "object.__init__")))
 (hb:∀ self,PySem.W.Looks (model prog w) s.heap (bindSpecial (.builtin "object.__init__") self) (.builtin "object.__init__",[self]))
 (h:codeAny (model prog w) (A.under (.builtin "type.__call__" ⟨[.ref C],[]⟩)) (.call (.builtin "object.__init__") ⟨[.ref (s.heap.objs.size + 1)],[]⟩) (PySem.W.InitBack (s.heap.objs.size + 1) R)
   { s with heap:=(s.heap.push PySem.W.emptyDict).push (PySem.W.instObj C s.heap.objs.size) }) :
 codeAny (model prog w) A (.call (.ref C) ⟨[],[]⟩) R s:=by
 obtain ⟨hh,g,d,t,os⟩:=s
 exact PySem.W.make_core (PySem.W.makes_of X hm) (PySem.W.looks_findIn X hi) hb (.inr ⟨rfl,rfl⟩) h
end
def putF (f:Str) (v:V):List (Str × V)->List (Str × V)
 | []=>[(f,v)]
 | (g,x) :: r=>if g=f then (g,v) :: r else (g,x) :: putF f v r
theorem Bq (f g:Str) (v:V):∀ fs:List (Str × V),(putF f v fs).lookup g=if g=f then some v else fs.lookup g
 | []=>by
   show List.lookup g [(f,v)]=_
   by_cases h:g=f
   ·have hb:(g == f)=true:=beq_iff_eq.mpr h
    simp only [List.lookup,hb,if_pos h]
   ·have hb:(g == f)=false:=beq_eq_false_iff_ne.mpr h
    simp only [List.lookup,hb,if_neg h]
 | (k,x) :: r=>by
   have ih:=Bq f g v r
   rw [show putF f v ((k,x) :: r)=(if k=f then (k,v) :: r else (k,x) :: putF f v r) from rfl]
   by_cases hk:k=f
   ·rw [if_pos hk]
    by_cases h:g=k
    ·have hb:(g == k)=true:=beq_iff_eq.mpr h
     simp only [List.lookup,hb,if_pos (h.trans hk)]
    ·have hb:(g == k)=false:=beq_eq_false_iff_ne.mpr h
     simp only [List.lookup,hb,if_neg (fun e:g=f=>h (e.trans hk.symm))]
   ·rw [if_neg hk]
    by_cases h:g=k
    ·have hb:(g == k)=true:=beq_iff_eq.mpr h
     simp only [List.lookup,hb,if_neg (fun e:g=f=>hk (h.symm.trans e))]
    ·have hb:(g == k)=false:=beq_eq_false_iff_ne.mpr h
     simp only [List.lookup,hb]
     exact ih
theorem keys_putF (f:Str) (v:V):∀ fs:List (Str × V),f ∈ (putF f v fs).map (·.1)/\∀ g,g ∈ fs.map (·.1)->g ∈ (putF f v fs).map (·.1)
 | []=>⟨by simp [putF],fun g h=>by simp at h⟩
 | (k,x) :: r=>by
   obtain ⟨i1,i2⟩:=keys_putF f v r
   rw [show putF f v ((k,x) :: r)=(if k=f then (k,v) :: r else (k,x) :: putF f v r) from rfl]
   by_cases hk:k=f
   ·rw [if_pos hk]
    subst hk
    exact ⟨by simp,fun g h=>by simpa using h⟩
   ·rw [if_neg hk]
    refine ⟨?_,fun g h=>?_⟩
    ·rw [List.map_cons]
     exact List.mem_cons_of_mem _ i1
    ·rw [List.map_cons] at h ⊢
     rcases List.mem_cons.mp h with e | e
     ·exact List.mem_cons.mpr (.inl e)
     ·exact List.mem_cons_of_mem _ (i2 g e)
theorem length_putF (f:Str) (v:V):∀ fs:List (Str × V),(putF f v fs).length<=fs.length + 1
 | []=>by simp [putF]
 | (k,x) :: r=>by
   have ih:=length_putF f v r
   rw [show putF f v ((k,x) :: r)=(if k=f then (k,v) :: r else (k,x) :: putF f v r) from rfl]
   by_cases hk:k=f
   ·rw [if_pos hk,List.length_cons,List.length_cons]; omega
   ·rw [if_neg hk,List.length_cons,List.length_cons]; omega
theorem RelO.some_of {v:V} {o:Option Value} (r:RelO (some v) o):∃ u,o=some u/\RelV v u:=by
 cases o with
 | none=>exact (show False from r).elim
 | some u=>exact ⟨u,rfl,r⟩
theorem RelO.none_of {o:Option Value} (r:RelO none o):o=none:=by
 cases o with
 | none=>rfl
 | some u=>exact (show False from r).elim
theorem handed_of {v:V} {u:Value} (r:RelV v u):PySem.W.handedIn u=true:=by
 cases v with
 | non=>cases (show u=Value.none from r); rfl
 | bl b=>cases (show u=Value.bool b from r); rfl
 | int i=>obtain ⟨t,e⟩:=(show ∃ t,u=Value.int i t from r); cases e; rfl
 | str x=>obtain ⟨t,e⟩:=(show ∃ t,u=Value.str x t from r); cases e; rfl
 | byt b=>obtain ⟨t,e⟩:=(show ∃ t,u=Value.bytes b t from r); cases e; rfl
 | flt b=>obtain ⟨t,e⟩:=(show ∃ t,u=Value.float b t from r); cases e; rfl
 | ref a=>cases (show u=Value.ref a from r); rfl
 | ty n=>cases (show u=Value.type n from r); rfl
section
variable {P:Program} {w:World} {H H':Hp} {h h':Heap} {a C dx:Addr} {fs fs':List (Str × V)}
theorem ins_get (hok:HOk P w H h) (e:H a=some (.ins C dx fs)):∃ mA,ObjM h a dx C mA/\(∀ f,RelO (fs.lookup f) (mA f))/\PySem.Within mA (fs.map (·.1))/\fs.length<=1000/\H dx=some (.own a):=by
 obtain ⟨d,z,ne,ob,mA,n,r,q⟩:=(show Cm P w H h a (.ins C dx fs) from hok a _ e)
 exact ⟨mA,⟨ob,n,ne⟩,r,q,z,d⟩
end
structure Cls (K:PySem.W.Frag) (C:Addr):Prop where
 pg:PySem.W.plainGet K C Str.empty=true
 hd:PySem.W.hasDictIn K C=true
 po:PySem.W.plainOver K C=true
 sa:PySem.W.findIn K (.ref C) "__setattr__"=some (some (.builtin "object.__setattr__"))
theorem Cls.get {K:PySem.W.Frag} {C:Addr} (c:Cls K C) (f:Str):PySem.W.plainGet K C f=true:=c.pg
def NoAttr (K:PySem.W.Frag) (C:Addr) (f:Str):Prop:=PySem.W.findIn K (.ref C) f=some none
theorem NoAttr.taker {K:PySem.W.Frag} {C:Addr} {f:Str} (n:NoAttr K C f):PySem.W.takerIn K C f=some none:=by
 unfold PySem.W.takerIn
 rw [show PySem.W.findIn K (.ref C) f=some none from n]
 rfl
structure Meth (K:PySem.W.Frag) (C:Addr) (m:Str) (f:Addr):Prop where
 at_:PySem.W.findIn K (.ref C) m=some (some (.ref f))
 fn:PySem.W.isFn K (.ref f)=true
 kp:PySem.W.keepIn K (.ref f)=true
section
variable {X:Cx} {pins:List (Addr × Obj)} {σ:St} {H:Hp} {s:Shared} {a C dx:Addr} {fs:List (Str × V)} {f:Str} {v:V} {A:Around} {E:Value->Shared->Prop}
theorem getattr_ok {b:Bool} {Q:Value->Shared->Prop} (I:Inv X pins σ H s) (e:H a=some (.ins C dx fs)) (c:Cls X.K C) (n:NoAttr X.K C f) (l:fs.lookup f=some v)
 (h:∀ u s',Inv X pins σ H s'->RelV v u->Q u s'):wpAny (model X.prog X.w) A (getAttr (.ref a) f b) Q E s:=by
 obtain ⟨mA,O,r,_,_,_⟩:=ins_get I.hok e
 obtain ⟨u,hu,ru⟩:=RelO.some_of (v:=v) (o:=mA f) (by rw [← l]; exact r f)
 exact get_map I.kIn O (c.get f) c.hd n hu (handed_of ru) (h u _ (I.tok _) ru)
theorem getmeth_ok {m:Str} {g:Addr} {pl:Sem Bool} {Q:Value × List Value->Shared->Prop} (I:Inv X pins σ H s) (e:H a=some (.ins C dx fs)) (c:Cls X.K C) (k:Meth X.K C m g) (l:fs.lookup m=none)
 (h:Q (.ref g,[.ref a]) s):wpAny (model X.prog X.w) A (getMethod (.ref a) m pl) Q E s:=by
 obtain ⟨mA,O,r,_,_,_⟩:=ins_get I.hok e
 have hn:mA m=none:=RelO.none_of (by rw [← l]; exact r m)
 exact get_meth I.kIn O (c.get m) k.at_ k.fn hn h
theorem setattr_ok {y:V} {u:Value} {Q:Unit->Shared->Prop} (I:Inv X pins σ H s) (e:H a=some (.ins C dx fs)) (c:Cls X.K C) (n:NoAttr X.K C f) (hl:fs.length < 1000) (ry:RelV y u)
 (h:∀ s',Inv X pins σ (upd H a (.ins C dx (putF f y fs))) s'->Q () s'):wpAny (model X.prog X.w) A (setAttr (.ref a) f u) Q E s:=by
 obtain ⟨mA,O,r,wi,_,ho⟩:=ins_get I.hok e
 have hz:(fs.map (·.1)).length<=sizeLine:=by rw [List.length_map,sizeLine_eq]; omega
 refine set_map I.kIn O c.sa c.po n.taker c.hd wi hz fun h' O' sb=>h _ ?_
 have hd:∃ o,h'.get? dx=some o:=let ⟨o,_,_,e',_⟩:=O'.ns; ⟨o,e'⟩
 refine I.write (x:=a) (e:=dx) (by rw [e]; exact True.intro) (.inr ho) (fun b q hb z=>(sb.2 b hb).trans z) hd ?_
 refine ⟨by rw [Aj O.ne]; exact ho,?_,O.ne,O'.obj,_,O'.ns,fun g=>?_,fun g hg=>?_⟩
 ·have:=length_putF f y fs; omega
 ·show RelO ((putF f y fs).lookup g) (if g=f then some u else mA g)
  rw [Bq]
  by_cases q:g=f
  ·rw [if_pos q,if_pos q]; exact ry
  ·rw [if_neg q,if_neg q]; exact r g
 ·by_cases q:g=f
  ·rw [q]; exact (keys_putF f y fs).1
  ·refine (keys_putF f y fs).2 g (wi g fun z=>hg ?_)
   show (if g=f then some u else mA g)=none
   rw [if_neg q]; exact z
theorem Inv.made (I:Inv X pins σ H s):Inv X pins σ (upd (upd H s.heap.objs.size (.own (s.heap.objs.size + 1))) (s.heap.objs.size + 1) (.ins C s.heap.objs.size []))
 { s with heap:=(s.heap.push PySem.W.emptyDict).push (PySem.W.instObj C s.heap.objs.size) }:=by
 have e1:(s.heap.push PySem.W.emptyDict).get? s.heap.objs.size=some PySem.W.emptyDict:=Heap.get?_push_size s.heap rfl
 have e2:((s.heap.push PySem.W.emptyDict).push (PySem.W.instObj C s.heap.objs.size)).get? (s.heap.objs.size + 1)=some (PySem.W.instObj C s.heap.objs.size):=by
  have:=Heap.get?_push_size (s.heap.push PySem.W.emptyDict) (o:=PySem.W.instObj C s.heap.objs.size) rfl
  rwa [Heap.size_push] at this
 have e3:(s.heap.push PySem.W.emptyDict).Ns s.heap.objs.size (fun _=>none):=⟨PySem.W.emptyDict,#[],_,e1,rfl,(fun e he=>absurd he (by simp)),fun _=>rfl⟩
 have I1:=I.laid (a:=s.heap.objs.size) (o:=.own (s.heap.objs.size + 1)) (h':=s.heap.push PySem.W.emptyDict) (t':=s.toks) (fun b u q=>Heap.get?_push_of_some _ q) (Nat.le_refl _) ⟨_,e1⟩
 refine I1.laid (a:=s.heap.objs.size + 1) (o:=.ins C s.heap.objs.size []) (t':=s.toks) (fun b u q=>Heap.get?_push_of_some _ q) (Nat.le_of_eq (Heap.size_push _ _)) ?_
 have ne:s.heap.objs.size≠s.heap.objs.size + 1:=Nat.ne_of_lt (Nat.lt_succ_self _)
 refine ⟨by rw [Aj ne,Ag],Nat.zero_le _,ne,e2,fun _=>none,(Heap.Ns1.of_empty e3).at fun o q=>Heap.get?_push_of_some _ q,fun _=>True.intro,fun y hy=>absurd rfl hy⟩
theorem attr_of {prog:Program} {w:World} {env:Env} {e:Expr} {f:Str} {pos:Pos} {s:Shared} {Q:Value->Shared->Prop} (hb:attributeBase e f env (eval e env)=eval e env)
 (h:wpAny (model prog w) A (eval e env) (fun o s₁=>wpAny (model prog w) A (getAttr o f true) Q E s₁) E s):wpAny (model prog w) A (eval (.Attribute e f pos) env) Q E s:=
 Attribute_any_ h (by rw [arm_eval_Attribute,hb])
end
def tFld (K:PySem.W.Frag) (ta:TE) (f:Str):TE:=fun σ H Q=>ta σ H fun x H1=>∃ a C dx fs v,x=.ref a/\H1 a=some (.ins C dx fs)/\Cls K C/\NoAttr K C f/\fs.lookup f=some v/\Q v H1
def sFld (K:PySem.W.Frag) (ta tv:TE) (f:Str):TS:=fun D σ H=>tv σ H fun y H1=>ta σ H1 fun x H2=>∃ a C dx fs,x=.ref a/\H2 a=some (.ins C dx fs)/\Cls K C/\NoAttr K C f/\fs.length < 1000/\
 D.nx σ (upd H2 a (.ins C dx (putF f y fs)))
section
variable {X:Cx} {o e value:Expr} {f:Str} {pos pos' tpos:Pos} {ta tv:TE}
theorem Dl (he:PE X e ta) (hb:attributeBase e f X.env (eval e X.env)=eval e X.env):PE X (.Attribute e f pos) (tFld X.K ta f):=by
 intro pins s σ H Q I h
 refine attr_of hb (thn (he pins s σ H _ I h) fun u s1 ⟨x,H1,I1,rx,a,C,dx,fs,v,ex,ea,c,n,l,q⟩=>?_)
 subst ex
 obtain rfl:u=Value.ref a:=rx
 exact getattr_ok I1 ea c n l fun u' s2 I2 ru=>⟨v,H1,I2,ru,q⟩
theorem ps_fld (ha:PE X o ta) (hv:PE X value tv) (hs:swapsWith value (some (.Attribute o f pos')) pos.line X.env=pure false):PS X (.Assign [.Attribute o f pos'] value pos) (sFld X.K ta tv f):=by
 intro pins s σ H D I h
 refine plainObj_wpAny_Assign_Attribute (thn (hv pins s σ H _ I h) fun u s1 ⟨y,H1,I1,ry,q⟩=>thn (ha pins s1 σ H1 _ I1 q) fun ov s2 ⟨x,H2,I2,rx,a,C,dx,fs,ex,ea,c,n,l,q2⟩=>?_) hs
 subst ex
 obtain rfl:ov=Value.ref a:=rx
 exact setattr_ok I2 ea c n l ry fun s3 I3=>⟨σ,_,I3,q2⟩
end
section
variable {X:Cx} {pins:List (Addr × Obj)} {σ:St} {H:Hp} {s:Shared} {A:Around} {E:Value->Shared->Prop} {Q:Value->Shared->Prop} {c:Value} {b:Bool}
inductive TyOf (K:PySem.W.Frag) (H:Hp):V->Value->Prop where
 | non:TyOf K H .non (.type "NoneType")
 | bl (x:Bool):TyOf K H (.bl x) (.type "bool")
 | int (i:Int):TyOf K H (.int i) (.type "int")
 | str (x:Str):TyOf K H (.str x) (.type "str")
 | flt (x:UInt64):TyOf K H (.flt x) (.type "float")
 | lst {a:Addr} {xs:List V} (e:H a=some (.lst xs)):TyOf K H (.ref a) (.type "list")
 | frz {a:Addr} {o:Obj} {xs:List V} (e:H a=some (.frz o (.lst xs))):TyOf K H (.ref a) (.type "list")
 | tup {a:Addr} {xs:List V} (e:H a=some (.tup xs)):TyOf K H (.ref a) (.type "tuple")
 | dK {a:Addr} {kvs:List (Key × V)} (e:H a=some (.dK kvs)):TyOf K H (.ref a) (.type "dict")
 | dT {a:Addr} {kvs:List (List Key × V)} (e:H a=some (.dT kvs)):TyOf K H (.ref a) (.type "dict")
 | ins {a C dx:Addr} {fs:List (Str × V)} (e:H a=some (.ins C dx fs)) (cl:Cls K C) (ha:PySem.W.findIn K (.ref C) "__class__"=some (some (.builtin "object.__class__")))
  (hn:PySem.W.specialIn K (.builtin "object.__class__") "__get__"=some (some (.builtin "getset_descriptor.__get__"))) (htk:PySem.W.takesIn K (.builtin "object.__class__")=some true)
  (hm:PySem.W.mroIn K C (.type "object")=some true):TyOf K H (.ref a) (.ref C)
theorem isinst_ok {x:V} {u t:Value} (I:Inv X pins σ H s) (rx:RelV x u) (ty:TyOf X.K H x t) (e:PySem.W.kitOne X.K t c=some b) (h:∀ tk,Q (.bool b) { s with toks:=tk }) :
 wpAny (model X.prog X.w) A (call (.builtin "isinstance") [u,c]) Q E s:=by
 cases ty with
 | non=>cases (show u=Value.none from rx); exact PySem.W.kia_one PySem.W.kitx_none I.kIn True.intro e (fun z=>nomatch z) h
 | bl y=>cases (show u=Value.bool y from rx); exact PySem.W.kia_one PySem.W.kitx_bool I.kIn True.intro e (fun z=>nomatch z) h
 | int i=>obtain ⟨t,q⟩:=(show ∃ t,u=Value.int i t from rx); cases q; exact PySem.W.kia_one PySem.W.kitx_int I.kIn True.intro e (fun z=>nomatch z) h
 | str y=>obtain ⟨t,q⟩:=(show ∃ t,u=Value.str y t from rx); cases q; exact PySem.W.kia_one PySem.W.kitx_str I.kIn True.intro e (fun z=>nomatch z) h
 | flt y=>obtain ⟨t,q⟩:=(show ∃ t,u=Value.float y t from rx); cases q; exact PySem.W.kia_one PySem.W.kitx_float I.kIn True.intro e (fun z=>nomatch z) h
 | @lst a xs ea=>
   cases (show u=Value.ref a from rx)
   obtain ⟨_,_,n,_,h1⟩:=(show Cm X.prog X.w H s.heap a (.lst xs) from I.hok a _ ea)
   exact PySem.W.kia_one PySem.W.kitx_list I.kIn ⟨_,h1,rfl⟩ e (fun z=>nomatch z) h
 | @frz a ob xs ea=>
   cases (show u=Value.ref a from rx)
   obtain ⟨_,_,_,n,_,h1⟩:=(show Cm X.prog X.w H s.heap a (.frz ob (.lst xs)) from I.hok a _ ea)
   exact PySem.W.kia_one PySem.W.kitx_list I.kIn ⟨_,h1,rfl⟩ e (fun z=>nomatch z) h
 | @tup a xs ea=>
   cases (show u=Value.ref a from rx)
   obtain ⟨_,_,_,p⟩:=(show Cm X.prog X.w H s.heap a (.tup xs) from I.hok a _ ea)
   obtain ⟨o,h1,h2,_⟩:=p
   exact PySem.W.kia_one PySem.W.kitx_tuple I.kIn ⟨o,h1,h2⟩ e (fun z=>nomatch z) h
 | @dK a kvs ea=>
   cases (show u=Value.ref a from rx)
   obtain ⟨_,_,vs,_,p⟩:=(show Cm X.prog X.w H s.heap a (.dK kvs) from I.hok a _ ea)
   obtain ⟨o,es,ep,h1,h2,_⟩:=p
   exact PySem.W.kia_one PySem.W.kitx_dict I.kIn ⟨o,h1,h2.1⟩ e (fun z=>nomatch z) h
 | @dT a kvs ea=>
   cases (show u=Value.ref a from rx)
   obtain ⟨_,_,xs,_,o,es,ep,h1,h2,_⟩:=(show Cm X.prog X.w H s.heap a (.dT kvs) from I.hok a _ ea)
   exact PySem.W.kia_one PySem.W.kitx_dict I.kIn ⟨o,h1,h2.1⟩ e (fun z=>nomatch z) h
 | @ins a C dx fs ea cl ha hn htk hm=>
   cases (show u=Value.ref a from rx)
   obtain ⟨mA,O,_⟩:=ins_get I.hok ea
   obtain ⟨od,J,_⟩:=O.look
   exact PySem.W.kia_one (PySem.W.kitx_own (cl.get _) cl.hd ha hn htk hm) I.kIn J e (fun z=>nomatch z) h
end
end L2
namespace L2
open PySem PySem.Spec PyProof.Rows
structure Room (k:Nat) (A:Around):Prop where
 hd:A.handled=none
 dp:A.depth + 3 * k + 5 < recursionLimit
 un:A.units + 16 * k + 200 < cLine
 gd:A.guards=some []
theorem Room.mono {j k:Nat} {A:Around} (r:Room k A) (h:j<=k):Room j A:=⟨r.hd,by have:=r.dp; omega,by have:=r.un; omega,r.gd⟩
theorem Room.deeper {k:Nat} {A:Around} (r:Room (k + 1) A) (env:Env):Room k (A.deeper env):=
 ⟨r.hd,by have:=r.dp; show A.depth + 1 + 3 * k + 5 < _; omega,by have:=r.un; show A.units + 3 + 16 * k + 200 < _; omega,by have:=r.gd; first | exact this | simpa [Around.deeper] using this⟩
theorem make_depth {A:Around} {C:Addr} {us:List Value} {kw:List (Str × Value)}:(A.under (.builtin "type.__call__" ⟨.ref C :: us,kw⟩)).depth=A.depth + 1:=by
 first | rfl | simp [Around.under,Code.weight,Code.isCreation,Code.isGuard,Code.isCaller,Code.frames,Code.isFrame,guardIds]
theorem make_units {A:Around} {C:Addr} {us:List Value} {kw:List (Str × Value)}:(A.under (.builtin "type.__call__" ⟨.ref C :: us,kw⟩)).units=A.units + 1:=by
 first | rfl | simp [Around.under,Code.cUnits,Code.frames,Code.isFrame]
theorem Room.make {k:Nat} {A:Around} (r:Room (k + 1) A) (C:Addr) (us:List Value) (kw:List (Str × Value)):Room k (A.under (.builtin "type.__call__" ⟨.ref C :: us,kw⟩)):=
 ⟨r.hd,by have:=r.dp; rw [make_depth]; omega,by have:=r.un; rw [make_units]; omega,by have:=r.gd; first | exact this | simpa [Around.under,Code.guards,Code.isGuard,guardIds,pushGuards] using this⟩
theorem Room.depth {k:Nat} {A:Around} (r:Room k A):A.depth < recursionLimit:=by have:=r.dp; omega
theorem Room.units {k:Nat} {A:Around} (r:Room k A):A.units + 64 < cLine:=by have:=r.un; omega
theorem Room.units0 {k:Nat} {A:Around} (r:Room k A):A.units < cLine:=by have:=r.un; omega
def tNil:TA:=fun _ H Q=>Q [] H
def tCons (ta:TE) (tr:TA):TA:=fun σ H Q=>ta σ H fun x H1=>tr σ H1 fun xs H2=>Q (x :: xs) H2
section
variable {X:Cx} {e:Expr} {es:List Expr} {te:TE} {t:TA} {pos:Pos}
theorem Ab:PA X [] tNil:=fun _ _ _ _ H Q I h=>Calls.spliced_nil ⟨[],H,I,.nil,h⟩
theorem Aa (ha:PE X e te) (hr:PA X es t) (hs:starEach (e :: es) X.env=(false,eval e X.env) :: starEach es X.env:=by rfl):PA X (e :: es) (tCons te t):=by
 intro pos pins s σ H Q I h
 rw [hs]
 show wpAny _ _ (spliced ((false,eval e X.env) :: backTo pos (starEach es X.env))) _ _ s
 refine Calls.spliced_cons (thn (ha pins s σ H _ I h) fun u s1 ⟨x,H1,I1,r1,q1⟩=>?_)
 exact thn (hr pos pins s1 σ H1 _ I1 q1) fun us s2 ⟨xs,H2,I2,r2,q2⟩=>⟨x :: xs,H2,I2,.cons r1 r2,q2⟩
def tTup (t:TA):TE:=fun σ H Q=>t σ H fun xs H1=>xs.length<=sizeLine/\∀ p,H1 p=none->Q (.ref p) (upd H1 p (.tup xs))
def tLst (t:TA):TE:=fun σ H Q=>t σ H fun xs H1=>xs.length<=sizeLine/\∀ p,H1 p=none->Q (.ref p) (upd H1 p (.lst xs))
theorem Bj {x1} (h:PA X es t):PE X (.Tuple es x1 pos) (tTup t):=by
 intro pins s σ H Q I hq
 refine wpAny_Tuple_spliced (thn (h pos pins s σ H _ I hq) fun us s1 ⟨xs,H1,I1,r,z,q⟩=>⟨by rw [← r.length]; exact z,?_⟩)
 have hf:H1 s1.heap.objs.size=none:=I1.hok.fresh (Nat.le_refl _)
 refine ⟨.ref s1.heap.objs.size,upd H1 s1.heap.objs.size (.tup xs),I1.laid (t':=s1.toks) (fun b u e=>Heap.get?_push_of_some _ e) (Nat.le_refl _) ?_,rfl,q _ hf⟩
 exact ⟨z,us,r,⟨_,Heap.get?_push_size _ rfl,rfl,_,rfl⟩⟩
theorem Bf (h:PA X es t):PE X (.List es pos) (tLst t):=by
 intro pins s σ H Q I hq
 refine wpAny_List_spliced (thn (h pos pins s σ H _ I hq) fun us s1 ⟨xs,H1,I1,r,z,q⟩=>⟨by rw [← r.length]; exact z,?_⟩)
 have hf:H1 s1.heap.objs.size=none:=I1.hok.fresh (Nat.le_refl _)
 refine ⟨.ref s1.heap.objs.size,upd H1 s1.heap.objs.size (.lst xs),I1.laid (t':=s1.toks) (fun b u e=>Heap.get?_push_of_some _ e) (Nat.le_refl _) ?_,rfl,q _ hf⟩
 exact ⟨z,us,0,r,Heap.get?_push_size _ rfl⟩
end
abbrev Sp:=List V->Hp->VK->XK->Prop
abbrev CXT:=List Env->Hp->Shared->XK->Value->Shared->Prop
structure Env0 (P:Program) (w:World) (K:PySem.W.Frag) (mg:Str->Option Value) (base:Heap) (A:Around) (outer:List Env) (s:Shared) (H:Hp):Prop where
 frames:A.frames=some outer
 mod:Mod K mg base
 bs:∀ b o,base.get? b=some o->s.heap.get? b=some o/\H b=none
 bsz:base.objs.size<=s.heap.objs.size
 funs:s.heap.FunFrames base outer
 frf:∀ b ∈ frs outer,H b=none
 hok:HOk P w H s.heap
 bare:AllBare s.gens
def CE (outer:List Env) (P:Program) (w:World) (H:Hp) (s:Shared) (Q:VK) (u:Value) (s':Shared):Prop:=
 ∃ v H',s'.os=s.os/\AllBare s'.gens/\Un (frs outer) [] H H' s.heap s'.heap/\HOk P w H' s'.heap/\RelV v u/\Q v H'
def CR (CX:CXT) (outer:List Env) (P:Program) (w:World) (H:Hp) (s:Shared) (Q:VK) (E:XK) (r:Result) (s':Shared):Prop:=
 match r with
 | .ok (.ret u)=>CE outer P w H s Q u s'
 | .ok _=>False
 | .error e=>CX outer H s E e s'
structure FnOk (P:Program) (w:World) (K:PySem.W.Frag) (mg:Str->Option Value) (base:Heap) (CX:CXT) (k:Nat) (f:Addr) (fd:FuncData) (ps:List Str) (sp:Sp):Prop where
 len:∀ vs H Q E,sp vs H Q E->vs.length=ps.length
 run:∀ (A:Around) (outer:List Env) (s:Shared) (H:Hp) (args:Args) (us:List Value) (vs:List V) (Q:VK) (E:XK),Room k A->Env0 P w K mg base A outer s H->BindsTo s fd args (ps.zip us)->Vals vs us->sp vs H Q E->
  codeAny (model P w) A (.call (.ref f) args) (CR CX outer P w H s Q E) s
theorem Env0.make {P:Program} {w:World} {K:PySem.W.Frag} {mg:Str->Option Value} {base:Heap} {A:Around} {outer:List Env} {s:Shared} {H:Hp} (e:Env0 P w K mg base A outer s H) (C:Addr) (us:List Value) (kw:List (Str × Value)) :
 Env0 P w K mg base (A.under (.builtin "type.__call__" ⟨.ref C :: us,kw⟩)) outer s H:=⟨by first | exact e.frames | (simpa [Around.under,Code.envs,Code.isFrame,pushEnvs] using e.frames),e.mod,e.bs,e.bsz,e.funs,e.frf,e.hok,e.bare⟩
section
variable {X:Cx} {pins:List (Addr × Obj)} {σ:St} {H:Hp} {s s':Shared}
theorem Inv.env0 (I:Inv X pins σ H s):Env0 X.prog X.w X.K X.mg X.base X.A X.stack s H:=
 ⟨I.ok.frames,I.ok.mod,I.bs,Nat.le_trans I.ok.bsz I.sz,I.stack,I.stkFree,I.hok,I.bare⟩
theorem Inv.after {Q:VK} {u:Value} (I:Inv X pins σ H s) (h:CE X.stack X.prog X.w H s Q u s'):EP X pins σ Q u s':=by
 obtain ⟨v,H',os,bare,un,hok,r,q⟩:=h
 obtain ⟨hh,g,d,t,os'⟩:=s'
 obtain rfl:os'=s.os:=os
 exact ⟨v,H',I.call (h':=hh) (g':=g) (d':=d) (t':=t) (ch:=[]) un hok bare (fun b z=>absurd z (by simp)),r,q⟩
end
def tCall (sp:Sp) (dvs:List V) (E:XK) (t:TA):TE:=fun σ H Q=>t σ H fun vs H1=>sp (vs ++ dvs) H1 Q E
def tMake (C:Addr) (sp:Sp) (dvs:List V) (E:XK) (t:TA):TE:=fun σ H Q=>t σ H fun vs H1=>∀ x dx,H1 x=none->H1 dx=none->dx≠x->
 sp (.ref x :: (vs ++ dvs)) (upd (upd H1 dx (.own x)) x (.ins C dx [])) (fun v H2=>v=.non/\Q (.ref x) H2) E
def Binds (K:PySem.W.Frag) (fd:FuncData) (ps:List Str) (ds:List Value):Prop:=
 ∀ (s:Shared) (us:List Value),K.In s.heap->(us ++ ds).length=ps.length->BindsTo s fd ⟨us,[]⟩ (ps.zip (us ++ ds))
theorem Binds.all {K:PySem.W.Frag} {fd:FuncData} {ps:List Str} (h:∀ us:List Value,us.length=ps.length->bindArgs fd ⟨us,[]⟩=pure (ps.zip us)):Binds K fd ps []:=fun s us _ hl=>by
 rw [List.append_nil] at hl ⊢
 exact .of_eq (h us hl)
def D8 (CX:CXT) (X:Cx) (E:XK):Prop:=∀ (pins:List (Addr × Obj)) (σ:St) (H:Hp) (s:Shared) (e:Value) (s':Shared),Inv X pins σ H s->CX X.stack H s E e s'->X.xe e s'
section
variable {X:Cx} {CX:CXT} {k:Nat} {f C:Addr} {fd:FuncData} {ps:List Str} {sp:Sp} {dvs:List V} {ds:List Value} {E:XK} {x m:Str} {p pos apos:Pos} {e o:Expr} {es:List Expr} {ta:TE} {t:TA}
theorem run_fn {pins:List (Addr × Obj)} {σ:St} {H:Hp} {s:Shared} {Q:VK} {us:List Value} {vs:List V} (F:FnOk X.prog X.w X.K X.mg X.base CX k f fd ps sp) (hr:Room k X.A) (hb:Binds X.K fd ps ds) (hd:Vals dvs ds) (hx:D8 CX X E)
 (I:Inv X pins σ H s) (r:Vals vs us) (h:sp (vs ++ dvs) H Q E):wpAny (model X.prog X.w) X.A (call (.ref f) us) (EP X pins σ Q) X.xe s:=by
 have r2:Vals (vs ++ dvs) (us ++ ds):=r.append hd
 have hl:(us ++ ds).length=ps.length:=by rw [← r2.length]; exact F.len _ _ _ _ h
 refine wpAny_call (codeAny_mono (F.run X.A X.stack s H ⟨us,[]⟩ (us ++ ds) (vs ++ dvs) Q E hr I.env0 (hb s us I.kIn hl) r2 h) fun r s' hq=>?_)
 cases r with
 | error e=>exact hx pins σ H s e s' I hq
 | ok fl=>
   cases fl with
   | ret u=>exact I.after hq
   | next=>exact False.elim hq
   | brk=>exact False.elim hq
   | cont=>exact False.elim hq
theorem pe_call (F:FnOk X.prog X.w X.K X.mg X.base CX k f fd ps sp) (hr:Room k X.A) (hg:Gl X x) (hm:X.mg x=some (.ref f)) (hk:PySem.W.keepIn X.K (.ref f)=true) (hb:Binds X.K fd ps ds) (hd:Vals dvs ds) (hx:D8 CX X E)
 (ha:PA X (e :: es) t) (hdb:(x == ("__debug__":Str))=false:=by decide) (he:starEach (e :: es) X.env=(false,eval e X.env) :: starEach es X.env:=by rfl) (hpl:(backTo pos (starEach es X.env)).any (·.1)=false:=by rfl) :
 PE X (.Call (.Name x p) (e :: es) [] pos) (tCall sp dvs E t):=by
 intro pins s σ H Q I h
 refine wpAny_Call_Name_kw (ld_glob I hg hm ?_ hdb)
 refine PySem.W.callWith_K (h₀:=X.base) I.ok.mod.kin hk (thn (ha pos pins s σ H _ I h) fun us s1 ⟨vs,H1,I1,r,q⟩=>⟨I1.kIn,?_⟩) he hpl
 exact run_fn F hr hb hd hx I1 r q
theorem pe_call0 (F:FnOk X.prog X.w X.K X.mg X.base CX k f fd ps sp) (hr:Room k X.A) (hg:Gl X x) (hm:X.mg x=some (.ref f)) (hk:PySem.W.keepIn X.K (.ref f)=true) (hb:Binds X.K fd ps ds) (hd:Vals dvs ds) (hx:D8 CX X E)
 (hdb:(x == ("__debug__":Str))=false:=by decide):PE X (.Call (.Name x p) [] [] pos) (tCall sp dvs E tNil):=by
 intro pins s σ H Q I h
 refine wpAny_Call_Name_kw (ld_glob I hg hm ?_ hdb)
 exact PySem.W.callWith_K0 I.kIn hk (run_fn (us:=[]) F hr hb hd hx I .nil h)
structure Mk (K:PySem.W.Frag) (C f:Addr):Prop where
 makes:PySem.W.makesIn K C=true
 init:PySem.W.findIn K (.ref C) "__init__"=some (some (.ref f))
 fn:PySem.W.isFn K (.ref f)=true
 kp:PySem.W.keepIn K (.ref C)=true
theorem run_make {pins:List (Addr × Obj)} {σ:St} {H:Hp} {s:Shared} {Q:VK} {us:List Value} {vs:List V} (M:Mk X.K C f) (F:FnOk X.prog X.w X.K X.mg X.base CX k f fd ps sp) (hr:Room (k + 1) X.A) (hb:Binds X.K fd ps ds) (hd:Vals dvs ds)
 (hx:D8 CX X E) (I:Inv X pins σ H s) (r:Vals vs us)
 (h:∀ x dx,H x=none->H dx=none->dx≠x->sp (.ref x :: (vs ++ dvs)) (upd (upd H dx (.own x)) x (.ins C dx [])) (fun v H2=>v=.non/\Q (.ref x) H2) E) :
 wpAny (model X.prog X.w) X.A (call (.ref C) us) (EP X pins σ Q) X.xe s:=by
 have hq:=h (s.heap.objs.size + 1) s.heap.objs.size (I.hok.fresh (Nat.le_succ _)) (I.hok.fresh (Nat.le_refl _)) (Nat.ne_of_lt (Nat.lt_succ_self _))
 have I2:=Inv.made (C:=C) I
 have r2:Vals (V.ref (s.heap.objs.size + 1) :: (vs ++ dvs)) (Value.ref (s.heap.objs.size + 1) :: (us ++ ds)):=.cons rfl (r.append hd)
 have hl:(Value.ref (s.heap.objs.size + 1) :: us ++ ds).length=ps.length:=by
  have e:=r2.length
  rw [F.len _ _ _ _ hq] at e
  exact e.symm
 refine wpAny_call (make_map (f:=f) I.kIn M.makes M.init (beq_iff_eq.mp M.fn) (codeAny_mono (F.run _ X.stack _ _ ⟨Value.ref (s.heap.objs.size + 1) :: us,[]⟩ (Value.ref (s.heap.objs.size + 1) :: (us ++ ds)) _ _ E (hr.make C us [])
  (I2.env0.make C us []) (hb _ (Value.ref (s.heap.objs.size + 1) :: us) I2.kIn hl) r2 hq) fun r s' hq'=>?_))
 cases r with
 | error e=>exact hx pins σ _ _ e s' I2 hq'
 | ok fl=>
   cases fl with
   | ret u=>
     obtain ⟨v,H',I3,rv,ev,q3⟩:=I2.after hq'
     subst ev
     exact ⟨rv,⟨V.ref (s.heap.objs.size + 1),H',I3,rfl,q3⟩⟩
   | next=>exact False.elim hq'
   | brk=>exact False.elim hq'
   | cont=>exact False.elim hq'
theorem pe_make (M:Mk X.K C f) (F:FnOk X.prog X.w X.K X.mg X.base CX k f fd ps sp) (hr:Room (k + 1) X.A) (hg:Gl X x) (hm:X.mg x=some (.ref C)) (hb:Binds X.K fd ps ds) (hd:Vals dvs ds) (hx:D8 CX X E)
 (ha:PA X (e :: es) t) (hdb:(x == ("__debug__":Str))=false:=by decide) (he:starEach (e :: es) X.env=(false,eval e X.env) :: starEach es X.env:=by rfl) (hpl:(backTo pos (starEach es X.env)).any (·.1)=false:=by rfl) :
 PE X (.Call (.Name x p) (e :: es) [] pos) (tMake C sp dvs E t):=by
 intro pins s σ H Q I h
 refine wpAny_Call_Name_kw (ld_glob I hg hm ?_ hdb)
 refine PySem.W.callWith_K (h₀:=X.base) I.ok.mod.kin M.kp (thn (ha pos pins s σ H _ I h) fun us s1 ⟨vs,H1,I1,r,q⟩=>⟨I1.kIn,?_⟩) he hpl
 exact run_make M F hr hb hd hx I1 r q
end
section
variable {X:Cx} {CX:CXT} {k:Nat} {f C:Addr} {fd:FuncData} {ps ks:List Str} {sp:Sp} {E:XK} {x m:Str} {p pos apos kpos:Pos} {e o:Expr} {es:List Expr} {kws:List Keyword} {te ta:TE} {t tk:TA} {nm:Option Str}
variable {g:List Value->List Value->List Value} {gV:List V->List V->List V}
end
structure Ao (N P:List Str) (sc:Scope):Prop where
 kind:sc.kind=.function
 co:sc.isCoroutine=false
 gen:sc.isGenerator=false
 nd:N.Nodup
 pre:N.take P.length=P
 par:∀ x ∈ P,sc.names.lookup x=some .local\/sc.names.lookup x=some .cell
 nofree:∀ y ∈ sc.names,y.2≠.free
theorem bindL_out {kindOf:Str->Option NameKind} {x:Str}:∀ {binds:List (Str × Value)} {m:Str->Option Value},(∀ v,(x,v) ∉ binds)->bindL kindOf binds m x=m x
 | [],_,_=>rfl
 | (n,v) :: r,m,h=>by
   unfold bindL
   rw [bindL_out fun w hw=>h w (List.mem_cons_of_mem _ hw)]
   split
   ·have:x≠n:=by rintro rfl; exact h v List.mem_cons_self
    simp [this]
   ·rfl
theorem bindC_out {kindOf:Str->Option NameKind} {x:Str}:∀ {binds:List (Str × Value)} {m:Str->Option Value},(∀ v,(x,v) ∉ binds)->bindC kindOf binds m x=m x
 | [],_,_=>rfl
 | (n,v) :: r,m,h=>by
   unfold bindC
   rw [bindC_out fun w hw=>h w (List.mem_cons_of_mem _ hw)]
   split
   ·rfl
   ·have:x≠n:=by rintro rfl; exact h v List.mem_cons_self
    simp [this]
theorem bindL_get {kindOf:Str->Option NameKind} {x:Str} {v:Value}:∀ {P:List Str} {vs:List Value} {i:Nat} {m:Str->Option Value},P.Nodup->P[i]?=some x->vs[i]?=some v->kindOf x=some .local->
 bindL kindOf (P.zip vs) m x=some v
 | [],_,_,_,_,h,_,_=>by simp at h
 | _ :: _,[],_,_,_,_,h,_=>by simp at h
 | p :: P,w :: vs,0,m,nd,h1,h2,hk=>by
   simp at h1 h2; subst h1; subst h2
   show bindL kindOf ((p,w) :: P.zip vs) m p=_
   unfold bindL
   rw [bindL_out fun v hv=>(List.nodup_cons.mp nd).1 (List.of_mem_zip hv).1,if_pos hk]
   simp
 | p :: P,w :: vs,i + 1,m,nd,h1,h2,hk=>by
   show bindL kindOf ((p,w) :: P.zip vs) m x=_
   unfold bindL
   exact bindL_get (i:=i) (List.nodup_cons.mp nd).2 (by simpa using h1) (by simpa using h2) hk
theorem bindC_get {kindOf:Str->Option NameKind} {x:Str} {v:Value}:∀ {P:List Str} {vs:List Value} {i:Nat} {m:Str->Option Value},P.Nodup->P[i]?=some x->vs[i]?=some v->kindOf x≠some .local->
 bindC kindOf (P.zip vs) m x=some v
 | [],_,_,_,_,h,_,_=>by simp at h
 | _ :: _,[],_,_,_,_,h,_=>by simp at h
 | p :: P,w :: vs,0,m,nd,h1,h2,hk=>by
   simp at h1 h2; subst h1; subst h2
   show bindC kindOf ((p,w) :: P.zip vs) m p=_
   unfold bindC
   rw [bindC_out fun v hv=>(List.nodup_cons.mp nd).1 (List.of_mem_zip hv).1,if_neg hk]
   simp
 | p :: P,w :: vs,i + 1,m,nd,h1,h2,hk=>by
   show bindC kindOf ((p,w) :: P.zip vs) m x=_
   unfold bindC
   exact bindC_get (i:=i) (List.nodup_cons.mp nd).2 (by simpa using h1) (by simpa using h2) hk
def start (N:List Str) (vs:List V):St:=vs.map some ++ List.replicate (N.length - vs.length) none
def cxOf (CX:CXT) (P:Program) (w:World) (K:PySem.W.Frag) (mg:Str->Option Value) (base:Heap) (N:List Str) (qual:Str) (scope:Scope) (f:Addr) (cd:Value) (A:Around) (outer:List Env) (s:Shared) (H:Hp) (E:XK):Cx where
 prog:=P
 w:=w
 K:=K
 mg:=mg
 base:=base
 A:=A.deeper (envOfC qual scope s.heap.objs.size f cd)
 N:=N
 s₀:=s
 H₀:=H
 env:=envOfC qual scope s.heap.objs.size f cd
 outer:=outer
 stack:=envOfC qual scope s.heap.objs.size f cd :: outer
 ex:=[]
 calm:=true
 fn:=fun _=>true
 pn:=[]
 xe:=fun e s'=>wpAny (model P w) (A.deeper (envOfC qual scope s.heap.objs.size f cd)) (leaving (envOfC qual scope s.heap.objs.size f cd) e) (fun _ s''=>CX outer H s E e s'') (fun e' s''=>CX outer H s E e' s'') s'
theorem cell_has {sc:Scope} {n:Nat} {x:Str} (h:sc.names.lookup x=some .cell):∃ c,(cellsFrom n sc.names []).lookup x=some c:=by
 have q:=PySem.W.cellsFrom_some sc.names n [] (.inl h)
 exact Option.isSome_iff_exists.mp q
theorem inv_start {CX:CXT} {P:Program} {w:World} {K:PySem.W.Frag} {mg:Str->Option Value} {base:Heap} {N ps:List Str} {qual:Str} {scope:Scope} {f:Addr} {cd:Value} {A:Around} {outer:List Env} {s s1:Shared} {H:Hp} {E:XK} {us:List Value} {vs:List V}
 (S:Ao N ps scope) (hd:A.handled=none) (e0:Env0 P w K mg base A outer s H) (hl:vs.length=ps.length) (r:Vals vs us)
 (x:InCallC s s.heap.objs.size (bindL (envOfC qual scope s.heap.objs.size f cd).kindOf (ps.zip us) fun _=>none) (cellsFrom (s.heap.objs.size + 1) scope.names []) (bindC (envOfC qual scope s.heap.objs.size f cd).kindOf (ps.zip us) fun _=>none) s1) :
 Inv (cxOf CX P w K mg base N qual scope f cd A outer s H E) [] (start N vs) H s1:=by
 have hpl:ps.length<=N.length:=by have:=congrArg List.length S.pre; rw [List.length_take] at this; omega
 obtain ⟨h1,tk,rfl,hk⟩:=x.done
 have noA:∀ b:Addr,b ∉ (cxOf CX P w K mg base N qual scope f cd A outer s H E).ex:=fun b z=>absurd (show b ∈ ([]:List Addr) from z) (by simp)
 refine ⟨⟨e0.mod,S.kind,rfl,rfl,Nat.le_refl _,fun y z c h1 h2=>?_,fun y hy=>?_,fun y c _ h=>?_,fun _=>hd,Around.frames_deeper e0.frames,.inr ⟨rfl,rfl⟩,fun b z=>absurd z (noA b),e0.bs,e0.bsz,fun b _ _=>noA b,fun b z=>absurd z (noA b),e0.funs,e0.frf⟩,
  rfl,e0.bare,Un.kept hk,⟨_,x.toInCall.ns,fun i y v h1 h2 h3=>?_⟩,fun y c h=>⟨_,x.cell y c h⟩,e0.hok.fresh (Nat.le_refl _),fun y c h=>?_,fun p hp=>absurd (show p ∈ ([]:List (Addr × Obj)) from hp) (by simp),e0.hok.kept hk,?_⟩
 ·exact name_of_addr x.apart (PySem.mem_of_lookup h1) (PySem.mem_of_lookup h2)
 ·have hy:scope.names.lookup y=some .cell\/scope.names.lookup y=some .free:=hy
  rcases hy with hy | hy
  ·exact cell_has hy
  ·exact absurd rfl (S.nofree _ (PySem.mem_of_lookup hy))
 ·exact Nat.le_of_lt (x.above y c (PySem.mem_of_lookup h))
 ·have hi:i < vs.length:=by
   unfold start at h2
   by_cases hi:i < vs.length
   ·exact hi
   ·rw [List.getElem?_append_right (by simpa using hi)] at h2
    rw [List.getElem?_replicate] at h2
    split at h2 <;> cases h2
  have ha:vs[i]?=some v:=by
   unfold start at h2
   rw [List.getElem?_append_left (by simpa using hi),List.getElem?_map] at h2
   cases e:vs[i]? with
   | none=>rw [e] at h2; cases h2
   | some a=>rw [e] at h2; cases h2; rfl
  obtain ⟨u,hu,rv⟩:=r.get ha
  have hp:ps[i]?=some y:=by
   rw [← S.pre,List.getElem?_take_of_lt (by omega)]; exact h1
  have ndP:ps.Nodup:=by rw [← S.pre]; exact S.nd.sublist (List.take_sublist _ _)
  refine ⟨u,rv,?_⟩
  rcases S.par y (List.mem_of_getElem? hp) with k | k
  ·exact .inl ⟨k,bindL_get ndP hp hu k⟩
  ·obtain ⟨c,e⟩:=cell_has (n:=s.heap.objs.size + 1) k
   refine .inr ⟨.inl k,c,e,?_⟩
   have q:=x.cell y c e
   rw [bindC_get ndP hp hu (by show scope.names.lookup y≠_; rw [k]; decide)] at q
   exact q
 ·exact e0.hok.fresh (Nat.le_of_lt (x.above y c (PySem.mem_of_lookup h)))
 ·unfold start
  show _=N.length
  rw [List.length_append,List.length_map,List.length_replicate]
  omega
theorem fn_of {CX:CXT} {P:Program} {w:World} {K:PySem.W.Frag} {mg:Str->Option Value} {base:Heap} {k:Nat} {f:Addr} {name qual:Str} {params:Arguments} {body:List Stmt} {scope:Scope} {dV kV doc pm cdv ct oc:Value} {an od:Option Addr}
 {osl:Array (Option Value)} {N ps:List Str} {sp:Sp} (lk:K.lookup f=some ⟨oc,od,.func (PySem.W.fnOf name qual params body scope dV kV doc pm an cdv ct),osl⟩) (hcd:PySem.W.codeIn K cdv qual=true) (S:Ao N ps scope)
 (len:∀ vs H Q E,sp vs H Q E->vs.length=ps.length)
 (hbody:∀ (A:Around) (outer:List Env) (s:Shared) (H:Hp) (vs:List V) (Q:VK) (E:XK),Room k (A.deeper (envOfC qual scope s.heap.objs.size f cdv))->sp vs H Q E->
   ∃ t,PSs (cxOf CX P w K mg base N qual scope f cdv A outer s H E) body t/\t { nx:=fun _ H'=>Q .non H',rt:=Q } (start N vs) H) :
 FnOk P w K mg base CX (k + 1) f (PySem.W.fnOf name qual params body scope dV kV doc pm an cdv ct) ps sp:=by
 refine ⟨len,fun A outer s H args us vs Q E hr e0 hb r hsp=>?_⟩
 have hl:=len _ _ _ _ hsp
 have KX:K.In s.heap:=e0.mod.kin.keeps fun b o e=>(e0.bs b o e).1
 have lim:s.heap.NoLimit:=e0.mod.nolimit.keeps fun b o e=>(e0.bs b o e).1
 have hkind:∀ y ∈ ps.zip us,scope.names.lookup y.1=some .local\/(scope.names.lookup y.1=some .cell/\((cellsFrom (s.heap.objs.size + 1) scope.names []).lookup y.1).isSome=true):=fun ⟨n,v⟩ hy=>by
  rcases S.par n (List.of_mem_zip hy).1 with q | q
  ·exact .inl q
  ·exact .inr ⟨q,PySem.W.cellsFrom_some _ _ _ (.inl q)⟩
 refine codeAny_call_function hr.depth (KX _ _ lk) rfl S.co S.gen rfl (PySem.W.codeRec_of KX hcd) (hb _ _ _ _ ?_)
 refine wpAny_newFunctionEnv_cells S.kind hkind fun env he s1 x=>?_
 subst he
 refine ⟨lim.keeps x.toInCall.keep,codeAny_func ?_⟩
 obtain ⟨t,ht,hq⟩:=hbody A outer s H vs Q E (hr.deeper _) hsp
 have I:Inv (cxOf CX P w K mg base N qual scope f cdv A outer s H E) [] (start N vs) H s1:=inv_start S hr.hd e0 hl r x
 refine wpAny_mono (ht [] s1 (start N vs) H _ I hq) (fun fl s' hs=>?_) fun e s' hs=>hs
 have fin:∀ {σ':St} {H':Hp} {v:V} {u:Value},Inv (cxOf CX P w K mg base N qual scope f cdv A outer s H E) [] σ' H' s'->RelV v u->Q v H'->CE outer P w H s Q u s':=
  fun {σ' H' v u} J rv q=>⟨v,H',J.os,J.bare,J.base,J.hok,rv,q⟩
 cases fl with
 | ret u=>
   obtain ⟨v,σ',H',J,rv,q⟩:=hs
   exact fin J rv q
 | next=>
   obtain ⟨σ',H',J,q⟩:=hs
   exact fin (v:=V.non) (u:=Value.none) J rfl q
 | brk=>
   obtain ⟨_,_,_,q⟩:=hs
   exact False.elim q
 | cont=>
   obtain ⟨_,_,_,q⟩:=hs
   exact False.elim q
end L2
namespace L2
open PySem PySem.Spec PyProof.Rows
section
variable {X:Cx} {x:Str} {p pos:Pos} {e:Expr} {es:List Expr} {t:TA} {id T:String} {r:List V->Hp->VK->Prop}
def tCB (r:List V->Hp->VK->Prop) (t:TA):TE:=fun σ H Q=>t σ H fun vs H1=>r vs H1 Q
theorem Ai (hc:CallR X (.builtin id) r) (hg:Gl X x) (hm:X.mg x=none) (hv:bootBuiltins x=some (.builtin id)) (ha:PA X (e :: es) t) (hn:x≠"__name__":=by decide) (hdb:(x == ("__debug__":Str))=false:=by decide)
 (he:starEach (e :: es) X.env=(false,eval e X.env) :: starEach es X.env:=by rfl) (hpl:(backTo pos (starEach es X.env)).any (·.1)=false:=by rfl):PE X (.Call (.Name x p) (e :: es) [] pos) (tCB r t):=by
 intro pins s σ H Q I h
 refine wpAny_Call_Name_kw (Ex I hg hm hv ?_ hn hdb)
 exact PyProof.Rows.callWith_builtin1 (thn (ha pos pins s σ H _ I h) fun us s1 ⟨vs,H1,I1,r1,q1⟩=>hc pins s1 σ H1 vs us Q I1 r1 q1) he hpl
theorem Bm (hc:CallR X (.type T) r) (hg:Gl X x) (hm:X.mg x=none) (hv:bootBuiltins x=some (.type T)) (ha:PA X (e :: es) t) (hn:x≠"__name__":=by decide) (hdb:(x == ("__debug__":Str))=false:=by decide)
 (he:starEach (e :: es) X.env=(false,eval e X.env) :: starEach es X.env:=by rfl) (hpl:(backTo pos (starEach es X.env)).any (·.1)=false:=by rfl):PE X (.Call (.Name x p) (e :: es) [] pos) (tCB r t):=by
 intro pins s σ H Q I h
 refine wpAny_Call_Name_kw (Ex I hg hm hv ?_ hn hdb)
 exact PyProof.Rows.callWith_type1 (thn (ha pos pins s σ H _ I h) fun us s1 ⟨vs,H1,I1,r1,q1⟩=>hc pins s1 σ H1 vs us Q I1 r1 q1) he hpl
end
end L2
namespace HT
open PySem PyProof.Rows
section
open PySem.SeqAt
open PySem.AutoSeq1 (wpAny_loadPart')
open PySem.MeetsSeq PySem.MeetsSeq2 PySem.MeetsSeq3
end
section
variable {prog:Program} {w:World} {A:Around} {E:Value->Shared->Prop} {s:Shared}
def sIx (n d:Nat):Option Int->Nat
 | none=>d
 | some v=>if v < 0 then (v + (n:Int)).toNat else min v.toNat n
theorem sIx_none (n d:Nat):sIx n d none=d:=rfl
theorem sIx_nat (n d k:Nat):sIx n d (some (k:Int))=min k n:=by
 show (if (k:Int) < 0 then ((k:Int) + (n:Int)).toNat else min (k:Int).toNat n)=min k n
 rw [if_neg (by omega),Int.toNat_natCast]
end
end HT
namespace L2
open PySem PySem.Spec PyProof.Rows
abbrev TO:=St->Hp->(Option Int->Hp->Prop)->Prop
def PO (X:Cx) (e:Option Expr) (t:TO):Prop:=
 ∀ (pins:List (Addr × Obj)) (s:Shared) (σ:St) (H:Hp) (Q:Option Int->Hp->Prop),Inv X pins σ H s->t σ H Q->
  wpAny (model X.prog X.w) X.A (evalPart e X.env) (fun u s'=>∃ o H',Inv X pins σ H' s'/\IsPart u o/\Q o H') X.xe s
def tNoPart:TO:=fun _ H Q=>Q none H
def tPart (t:TE):TO:=fun σ H Q=>t σ H fun x H1=>∃ i,x=.int i/\Q (some i) H1
theorem intsAre_of {ns:List Int}:∀ {us:List Value},Vals (ns.map V.int) us->IntsAre us ns:=by
 induction ns with
 | nil=>intro us r; rw [List.map_nil] at r; cases r; exact .nil
 | cons n ns ih=>
   intro us r
   rw [List.map_cons] at r
   cases r with
   | cons r1 r2=>
     obtain ⟨t,e⟩:=r1
     subst e
     exact .cons n t (ih r2)
section
variable {X:Cx} {e:Expr} {te:TE} {lo hi:Option Expr} {tl th:TO} {pos p2:Pos}
theorem Bp:PO X none tNoPart:=by
 intro pins s σ H Q I h
 rw [evalPart_none]
 exact wpAny_pure ⟨none,H,I,.none,h⟩
theorem Bk (h:PE X e te):PO X (some e) (tPart te):=by
 intro pins s σ H Q I hw
 rw [evalPart_some]
 refine thn (h pins s σ H _ I hw) fun u s1 ⟨x,H1,I1,r1,q1⟩=>?_
 obtain ⟨i,rfl,q⟩:=q1
 obtain ⟨t,rfl⟩:=r1
 exact ⟨some i,H1,I1,.int i t,q⟩
def SlR (X:Cx) (r:V->Option Int->Option Int->Hp->VK->Prop):Prop:=
 ∀ (pins:List (Addr × Obj)) (s:Shared) (σ:St) (H:Hp) (x:V) (v vl vu:Value) (lo hi:Option Int) (sl:Addr) (Q:VK),Inv X pins σ H s->RelV x v->s.heap.IsSliceOf sl vl vu .none->IsPart vl lo->IsPart vu hi->r x lo hi H Q->
  ∃ T id,typeLookup (.type T) "__getitem__"=pure (some (.builtin id))/\s.TypeIs v T/\wpAny (model X.prog X.w) X.A (getItem v (.ref sl)) (EP X pins σ Q) X.xe s
def tSl (r:V->Option Int->Option Int->Hp->VK->Prop) (te:TE) (tl th:TO):TE:=fun σ H Q=>te σ H fun x H1=>tl σ H1 fun l H2=>th σ H2 fun u H3=>r x l u H3 Q
theorem Ba {r:V->Option Int->Option Int->Hp->VK->Prop} (hr:SlR X r) (he:PE X e te) (hl:PO X lo tl) (hu:PO X hi th):PE X (.Subscript e (.Slice lo hi none p2) pos) (tSl r te tl th):=by
 intro pins s σ H Q I h
 refine Subscript_ (thn (he pins s σ H _ I h) fun v s1 ⟨x,H1,I1,r1,q1⟩=>?_)
 refine wpAny_Slice (thn (hl pins s1 σ H1 _ I1 q1) fun vl s2 ⟨l,H2,I2,pl,q2⟩=>thn (hu pins s2 σ H2 _ I2 q2) fun vu s3 ⟨u,H3,I3,pu,q3⟩=>?_)
 rw [evalPart_none]
 refine wpAny_pure ?_
 have I4:Inv X pins σ H3 { s3 with heap:=s3.heap.push { cls:=.type "slice",data:=.fields #[vl,vu,.none] } }:=I3.kept (t':=s3.toks) fun b ob q=>Heap.get?_push_of_some _ q
 obtain ⟨T,id,hT,ht,hg⟩:=hr pins { s3 with heap:=s3.heap.push { cls:=.type "slice",data:=.fields #[vl,vu,.none] } } σ H3 x v vl vu l u s3.heap.objs.size Q I4 r1 (Heap.IsSliceOf.new ..) pl pu q3
 show wpAny (model X.prog X.w) X.A (subscriptTail e (.Slice lo hi none p2) v (.ref s3.heap.objs.size)) (EP X pins σ Q) X.xe { s3 with heap:=s3.heap.push { cls:=.type "slice",data:=.fields #[vl,vu,.none] } }
 exact tail_any (ops:=[.ref s3.heap.objs.size,v]) ht hT hg (by with_unfolding_all rfl)
def cutV (xs:List V) (lo hi:Option Int):List V:=(xs.drop (HT.sIx xs.length 0 lo)).take (HT.sIx xs.length xs.length hi - HT.sIx xs.length 0 lo)
theorem cutV_length (xs:List V) (lo hi:Option Int):(cutV xs lo hi).length<=xs.length:=by
 unfold cutV
 rw [List.length_take,List.length_drop]
 omega
end
end L2
namespace L2
open PySem PySem.Spec PyProof.Rows
def ixN (n:Nat) (i:Int):Option Nat:=if 0<=i then (if i < n then some i.toNat else none) else if -(n:Int)<=i then some (i + n).toNat else none
def atI {α:Type} (xs:List α) (i:Int):Option α:=(ixN xs.length i).bind fun j=>xs[j]?
theorem ixN_seq {n:Nat} {i:Int} {j:Nat} (h:ixN n i=some j):seqIndex? i n=some j/\j < n/\-(n:Int)<=i/\i < n:=by
 unfold ixN at h
 by_cases h0:0<=i
 ·rw [if_pos h0] at h
  by_cases h1:i < n
  ·rw [if_pos h1] at h
   have e:i.toNat=j:=Option.some.inj h
   exact ⟨by rw [seqIndex_of h0 h1,e],by omega,by omega,h1⟩
  ·rw [if_neg h1] at h; cases h
 ·rw [if_neg h0] at h
  by_cases h1:-(n:Int)<=i
  ·rw [if_pos h1] at h
   have e:(i + n).toNat=j:=Option.some.inj h
   exact ⟨by rw [seqIndex_neg (by omega) h1,e],by omega,h1,by omega⟩
  ·rw [if_neg h1] at h; cases h
theorem atI_get {α:Type} {xs:List α} {i:Int} {v:α} (h:atI xs i=some v):∃ j,seqIndex? i xs.length=some j/\xs[j]?=some v/\j < xs.length/\-(xs.length:Int)<=i/\i < xs.length:=by
 unfold atI at h
 cases e:ixN xs.length i with
 | none=>rw [e] at h; cases h
 | some j=>
   rw [e] at h
   obtain ⟨h1,h2,h3,h4⟩:=ixN_seq e
   exact ⟨j,h1,h,h2,h3,h4⟩
theorem Az {α:Type} {xs:List α} {j:Nat} {v:α} (h:xs[j]?=some v):atI xs (j:Int)=some v:=by
 have hj:j < xs.length:=(List.getElem?_eq_some_iff.mp h).1
 have e:ixN xs.length (j:Int)=some j:=by
  unfold ixN
  rw [if_pos (by omega),if_pos (by omega)]; simp
 unfold atI; rw [e]; exact h
def PlainIx (b:Expr):Prop:=∀ o i,subscripted b false o i=operate [o,i] (getItem o i)
def IxR (X:Cx) (r:R2):Prop:=
 ∀ (value slice:Expr) (pins:List (Addr × Obj)) (s:Shared) (σ:St) (H:Hp) (x y:V) (v u:Value) (Q:VK),Inv X pins σ H s->RelV x v->RelV y u->r x y H Q->
  subscripted slice false v u=operate [v,u] (getItem v u)->wpAny (model X.prog X.w) X.A (subscriptTail value slice v u) (EP X pins σ Q) X.xe s
def MtR (X:Cx) (id:String) (r:V->List V->Hp->VK->Prop):Prop:=
 ∀ (pins:List (Addr × Obj)) (s:Shared) (σ:St) (H:Hp) (x:V) (xs:List V) (v:Value) (us:List Value) (Q:VK),Inv X pins σ H s->RelV x v->Vals xs us->r x xs H Q->
  wpAny (model X.prog X.w) X.A (call (.builtin id) (v :: us)) (EP X pins σ Q) X.xe s
section
variable {X:Cx} {a b:Expr} {ta tb:TE} {pos:Pos}
theorem A0 {r:R2} (hr:IxR X r) (ha:PE X a ta) (hb:PE X b tb) (hs:PlainIx b):PE X (.Subscript a b pos) (tOp r ta tb):=by
 intro pins s σ H Q I h
 exact Subscript_ (binT ha hb I h fun v u s2 x y H2 I2 rx ry q=>hr a b pins s2 σ H2 x y v u Q I2 rx ry q (hs _ _))
def rIxL (K:PySem.W.Frag):R2:=fun x y H Q=>∃ p xs i v,x=.ref p/\y=.int i/\SqL K H p xs/\atI xs i=some v/\Q v H
def rIxT (K:PySem.W.Frag):R2:=fun x y H Q=>∃ p xs i v,x=.ref p/\y=.int i/\SqT K H p xs/\atI xs i=some v/\Q v H
def rIxS:R2:=fun x y H Q=>∃ z i c,x=.str z/\y=.int i/\z.length<=sizeLine/\atI z.cps.toList i=some c/\Q (.str ⟨#[c]⟩) H
theorem An:IxR X (rIxL X.K):=by
 intro value slice pins s σ H x y v u Q I rx ry h hs
 obtain ⟨p,xs,i,z,rfl,rfl,hq,he,q⟩:=h
 cases rx
 obtain ⟨t,rfl⟩:=ry
 obtain ⟨its,r,pl,hz⟩:=I.list hq
 obtain ⟨j,h1,h2,h3,h4,h5⟩:=atI_get he
 obtain ⟨w,ew,rw'⟩:=r.get h2
 have hl:=r.length
 have hn:=line63
 have fin:EP X pins σ Q w s:=⟨z,H,I,rw',q⟩
 by_cases h0:0<=i
 ·have hj:i.toNat=j:=by
   rw [seqIndex_of h0 h5] at h1
   exact Option.some.inj h1
  exact item_listR pl.isList h0 (by omega) (by rw [hj]; simpa using ew) fin hs
 ·have hj:(i + (its.toArray.size:Int)).toNat=j:=by
   rw [seqIndex_neg (by omega) h4] at h1
   rw [List.size_toArray,← hl]
   exact Option.some.inj h1
  exact subscriptTail_builtinR (x:=w) pl.isList.typeIs slot_list_getitem.lookup
   (wpAny_getItem_list_neg (Q:=fun r s'=>r=w/\EP X pins σ Q r s') pl.isList (by omega) (by rw [List.size_toArray] <;> omega) (by omega) (by rw [hj]; simpa using ew) ⟨rfl,fin⟩) hs
theorem C2:IxR X (rIxT X.K):=by
 intro value slice pins s σ H x y v u Q I rx ry h hs
 obtain ⟨p,xs,i,z,rfl,rfl,hq,he,q⟩:=h
 cases rx
 obtain ⟨t,rfl⟩:=ry
 obtain ⟨its,r,pl,hz⟩:=I.tuple hq
 obtain ⟨j,h1,h2,h3,h4,h5⟩:=atI_get he
 obtain ⟨w,ew,rw'⟩:=r.get h2
 have hl:=r.length
 have hn:=line63
 have fin:EP X pins σ Q w s:=⟨z,H,I,rw',q⟩
 exact subscriptTail_builtinR (x:=w) pl.typeIs slot_tuple_getitem.lookup
  (getItem_tuple (j:=j) (Q:=fun r s'=>r=w/\EP X pins σ Q r s') pl (by omega) (by omega) (by rw [List.size_toArray,← hl]; exact h1) (by simpa using ew) ⟨rfl,fin⟩) hs
theorem ix_str:IxR X rIxS:=by
 intro value slice pins s σ H x y v u Q I rx ry h hs
 obtain ⟨z,i,c,rfl,rfl,hz,he,q⟩:=h
 obtain ⟨t,rfl⟩:=rx
 obtain ⟨t',rfl⟩:=ry
 obtain ⟨j,h1,h2,h3,h4,h5⟩:=atI_get he
 have hl:z.cps.toList.length=z.length:=by simp [Str.length]
 rw [hl] at h1 h4 h5
 have hn:=line63
 exact tail_any (typeIs_str s z t) slot_str_getitem.lookup (getItem_str (c:=c) (by
  have e1:decide (i < -(2 ^ 63:Int))=false:=decide_eq_false (by omega)
  have e2:decide (i ≥ 2 ^ 63)=false:=decide_eq_false (by omega)
  rw [e1,e2,Bool.or_false]) (by rw [h1]; simpa using h2) ⟨.str ⟨#[c]⟩,H,I.tok _,⟨_,rfl⟩,q⟩) hs
theorem mapSeq_set (its:List Value) (n j:Nat) (u:Value):Obj.mapSeq (·.setIfInBounds j u) { cls:=.type "list",data:=.seq its.toArray n }={ cls:=.type "list",data:=.seq (its.set j u).toArray n }:=by
 simp [Obj.mapSeq]
theorem Inv.lst {pins:List (Addr × Obj)} {σ:St} {H:Hp} {s:Shared} {p:Addr} {xs:List V} (I:Inv X pins σ H s) (h:H p=some (.lst xs)) :
 ∃ (its:List Value) (n:Nat),Vals xs its/\s.heap.get? p=some { cls:=.type "list",data:=.seq its.toArray n }/\xs.length<=sizeLine:=by
 obtain ⟨z,its,n,r,e⟩:=I.hok p _ h
 exact ⟨its,n,r,e,z⟩
theorem Inv.lstUpd {pins:List (Addr × Obj)} {σ:St} {H:Hp} {s:Shared} {p:Addr} {xs ys:List V} {its its':List Value} {n n':Nat} {f:Obj->Obj} (I:Inv X pins σ H s) (h:H p=some (.lst xs))
 (ho:s.heap.get? p=some { cls:=.type "list",data:=.seq its.toArray n }) (hf:f { cls:=.type "list",data:=.seq its.toArray n }={ cls:=.type "list",data:=.seq its'.toArray n' }) (r:Vals ys its') (hz:ys.length<=sizeLine) (t:Nat) :
 Inv X pins σ (upd H p (.lst ys)) { s with heap:=s.heap.update p f,toks:=t }:=by
 have e:(s.heap.update p f).get? p=some { cls:=.type "list",data:=.seq its'.toArray n' }:=by
  rw [Heap.get?_update_self f ho (by rw [hf] <;> rfl),hf]
 refine I.write (x:=p) (e:=p) (by rw [h]; trivial) (.inl rfl) (fun b u hb q=>(Heap.get?_update_other _ _ (Ne.symm hb)).trans q) ⟨_,e⟩ ?_
 exact ⟨hz,its',n',r,e⟩
def rSetL:V->V->V->Hp->(Hp->Prop)->Prop:=fun o i v H Q=>∃ p xs k j,o=.ref p/\i=.int k/\H p=some (.lst xs)/\ixN xs.length k=some j/\Q (upd H p (.lst (xs.set j v)))
theorem set_list:PSet X rSetL:=by
 intro pins s σ H o i v ov iv u Q I ro ri rv h
 obtain ⟨p,xs,k,j,rfl,rfl,hp,hj,q⟩:=h
 cases ro
 obtain ⟨t,rfl⟩:=ri
 obtain ⟨its,n,r,ho,hz⟩:=I.lst hp
 obtain ⟨h1,h2,h3,h4⟩:=ixN_seq hj
 have hl:=r.length
 have hn:=line63
 have I':Inv X pins σ (upd H p (.lst (xs.set j v))) { s with heap:=s.heap.update p (Obj.mapSeq (·.setIfInBounds j u)) }:=
  I.lstUpd hp ho (mapSeq_set its n j u) (r.set rv j) (by rw [List.length_set]; exact hz) s.toks
 by_cases h0:0<=k
 ·have hk:k.toNat=j:=by
   rw [seqIndex_of h0 h4] at h1
   exact Option.some.inj h1
  exact PySem.W.ki_setAt ho h0 (by omega) (by rw [List.size_toArray,← hl]; exact h4) (by rw [hk]; exact ⟨_,I',q⟩)
 ·have hk:(k + (its.toArray.size:Int)).toNat=j:=by
   rw [seqIndex_neg (by omega) h3] at h1
   rw [List.size_toArray,← hl]
   exact Option.some.inj h1
  exact PySem.W.ki_setBack ho (by omega) (by rw [List.size_toArray,← hl]; exact h3) (by omega) (by rw [hk]; exact ⟨_,I',q⟩)
theorem slice_bounds (lo hi:Option Int) (n:Nat):(sliceBounds lo hi none n).1=((HT.sIx n 0 lo:Nat):Int)/\(sliceBounds lo hi none n).2.1=((HT.sIx n n hi:Nat):Int)/\(sliceBounds lo hi none n).2.2=1:=by
 refine ⟨?_,?_,rfl⟩
 ·cases lo with
  | none=>simp [sliceBounds,HT.sIx]
  | some i=>
    simp only [sliceBounds,HT.sIx,Option.getD_none,show (1:Int) > 0 by decide,if_true]
    by_cases h:i < 0
    ·simp only [h,if_true] <;> omega
    ·simp only [h,if_false] <;> omega
 ·cases hi with
  | none=>simp [sliceBounds,HT.sIx]
  | some i=>
    simp only [sliceBounds,HT.sIx,Option.getD_none,show (1:Int) > 0 by decide,if_true]
    by_cases h:i < 0
    ·simp only [h,if_true] <;> omega
    ·simp only [h,if_false] <;> omega
theorem slicePick_cut (its:List Value) (lo hi:Option Int):slicePick its.toArray lo hi none=((its.drop (HT.sIx its.length 0 lo)).take (HT.sIx its.length its.length hi - HT.sIx its.length 0 lo)).toArray:=by
 obtain ⟨h1,h2,h3⟩:=slice_bounds lo hi its.toArray.size
 unfold slicePick
 rw [h1,h2,h3]
 simp only [sliceRange_one,pick_run,List.size_toArray] <;> rfl
def rSlL (K:PySem.W.Frag):V->Option Int->Option Int->Hp->VK->Prop:=fun x lo hi H Q=>∃ a xs,x=.ref a/\SqL K H a xs/\∀ p,H p=none->Q (.ref p) (upd H p (.lst (cutV xs lo hi)))
theorem Cc:SlR X (rSlL X.K):=by
 intro pins s σ H x v vl vu lo hi sl Q I rx hs pl pu h
 obtain ⟨a,xs,rfl,hx,q⟩:=h
 cases rx
 obtain ⟨its,r,ht,hz⟩:=I.list hx
 have hlen:=r.length
 refine ⟨"list",_,slot_list_getitem.lookup,ht.isList.typeIs,?_⟩
 refine wpAny_getItem_list_slice ht.isList hs pl pu .none (by simp) ?_ (by rw [List.size_toArray] <;> omega)
 rw [slicePick_cut,← hlen]
 refine ⟨.ref s.heap.objs.size,_,I.laid (t':=s.toks) (o:=.lst (cutV xs lo hi)) (fun b ob q=>Heap.get?_push_of_some _ q) (Nat.le_refl _) ?_,rfl,q _ (I.hok.fresh (Nat.le_refl _))⟩
 exact ⟨Nat.le_trans (cutV_length xs lo hi) hz,_,0,(r.drop (HT.sIx xs.length 0 lo)).take (HT.sIx xs.length xs.length hi - HT.sIx xs.length 0 lo),Heap.get?_push_size _ rfl⟩
def flatV:V->Bool
 | .non=>true
 | .bl _=>true
 | .int _=>true
 | .str _=>true
 | _=>false
def eqV:V->V->Bool
 | .non,.non=>true
 | .bl a,.bl b=>a == b
 | .bl a,.int b=>(if a then 1 else 0) == b
 | .int a,.bl b=>a == (if b then 1 else 0)
 | .int a,.int b=>a == b
 | .str a,.str b=>a == b
 | _,_=>false
theorem eqAt_V {A:Around} {s:Shared} {y x:V} {u v:Value} (ry:RelV y u) (rx:RelV x v) (fy:flatV y=true) (fx:flatV x=true):SeqAt.EqAt A s u v (eqV y x):=by
 cases y with
 | non=>
   cases ry
   cases x with
   | non=>cases rx; exact SeqAt.EqAt.same _
   | bl b=>cases rx; exact SeqAt.EqAt.none_bool b
   | int b=>obtain ⟨t,rfl⟩:=rx; exact SeqAt.EqAt.none_int b t
   | str b=>obtain ⟨t,rfl⟩:=rx; exact SeqAt.EqAt.none_str b t
   | _=>exact absurd (show false=true from fx) Bool.false_ne_true
 | bl a=>
   cases ry
   cases x with
   | non=>cases rx; exact SeqAt.EqAt.bool_none a
   | bl b=>cases rx; exact SeqAt.EqAt.bool_bool a b
   | int b=>obtain ⟨t,rfl⟩:=rx; exact SeqAt.EqAt.bool_int a b t
   | str b=>obtain ⟨t,rfl⟩:=rx; exact SeqAt.EqAt.bool_str a b t
   | _=>exact absurd (show false=true from fx) Bool.false_ne_true
 | int a=>
   obtain ⟨t',rfl⟩:=ry
   cases x with
   | non=>cases rx; exact SeqAt.EqAt.int_none a t'
   | bl b=>cases rx; exact SeqAt.EqAt.int_bool a t' b
   | int b=>obtain ⟨t,rfl⟩:=rx; exact SeqAt.EqAt.int_int a t' b t
   | str b=>obtain ⟨t,rfl⟩:=rx; exact SeqAt.EqAt.int_str a t' b t
   | _=>exact absurd (show false=true from fx) Bool.false_ne_true
 | str a=>
   obtain ⟨t',rfl⟩:=ry
   cases x with
   | non=>cases rx; exact SeqAt.EqAt.str_none a t'
   | bl b=>cases rx; exact SeqAt.EqAt.str_bool a t' b
   | int b=>obtain ⟨t,rfl⟩:=rx; exact SeqAt.EqAt.str_int a t' b t
   | str b=>obtain ⟨t,rfl⟩:=rx; exact SeqAt.EqAt.str_str a t' b t
   | _=>exact absurd (show false=true from fx) Bool.false_ne_true
 | _=>exact absurd (show false=true from fy) Bool.false_ne_true
def eqU (x:V) (u:Value):Bool:=match u with
 | .none=>eqV .non x
 | .bool b=>eqV (.bl b) x
 | .int i _=>eqV (.int i) x
 | .str z _=>eqV (.str z) x
 | _=>false
theorem eqU_of {x y:V} {u:Value} (r:RelV y u) (f:flatV y=true):eqU x u=eqV y x:=by
 cases y with
 | non=>cases r; rfl
 | bl b=>cases r; rfl
 | int i=>obtain ⟨t,rfl⟩:=r; rfl
 | str z=>obtain ⟨t,rfl⟩:=r; rfl
 | _=>exact absurd (show false=true from f) Bool.false_ne_true
theorem any_eqU {x:V}:∀ {xs:List V} {us:List Value},Vals xs us->xs.all flatV=true->us.any (eqU x)=xs.any fun y=>eqV y x
 | _,_,.nil,_=>rfl
 | y :: xs,u :: us,.cons r t,f=>by
   rw [List.all_cons,Bool.and_eq_true] at f
   rw [List.any_cons,List.any_cons,eqU_of r f.1,any_eqU t f.2]
theorem mem_eqAt {A:Around} {s:Shared} {x:V} {v:Value} (rx:RelV x v) (fx:flatV x=true):∀ {xs:List V} {us:List Value},Vals xs us->xs.all flatV=true->∀ u ∈ us,SeqAt.EqAt A s u v (eqU x u)
 | _,_,.nil,_=>fun u hu=>by cases hu
 | y :: xs,u :: us,.cons r t,f=>fun u' hu=>by
   rw [List.all_cons,Bool.and_eq_true] at f
   rcases List.mem_cons.mp hu with rfl | hu
   ·rw [eqU_of r f.1]; exact eqAt_V r rx f.1 fx
   ·exact mem_eqAt rx fx t f.2 u' hu
def inV (x:V) (xs:List V):Bool:=xs.any fun y=>eqV y x
def rIn (K:PySem.W.Frag) (neg:Bool):R2:=fun x y H Q=>∃ p xs,y=.ref p/\(SqL K H p xs\/SqT K H p xs)/\flatV x=true/\xs.all flatV=true/\Q (.bl (if neg then !inV x xs else inV x xs)) H
theorem Et:OpR X (compareOp .In) (rIn X.K false):=by
 intro pins s σ H x y v u Q I rx ry h
 obtain ⟨p,xs,rfl,hq,fx,fs,q⟩:=h
 cases ry
 rcases hq with hq | hq
 ·obtain ⟨its,r,pl,hz⟩:=I.list hq
  refine SeqAt.in_listAt (eqU x) pl.isList (fun w hw=>mem_eqAt rx fx r fs w (by simpa using hw)) ⟨.bl _,H,I,rfl,?_⟩
  rw [show its.toArray.any (eqU x)=its.any (eqU x) by simp,any_eqU r fs]
  exact q
 ·obtain ⟨its,r,pl,hz⟩:=I.tuple hq
  refine SeqAt.in_tupleAt (eqU x) pl (fun w hw=>mem_eqAt rx fx r fs w (by simpa using hw)) ⟨.bl _,H,I,rfl,?_⟩
  rw [show its.toArray.any (eqU x)=its.any (eqU x) by simp,any_eqU r fs]
  exact q
theorem op_notIn_seq:OpR X (compareOp .NotIn) (rIn X.K true):=by
 intro pins s σ H x y v u Q I rx ry h
 obtain ⟨p,xs,rfl,hq,fx,fs,q⟩:=h
 cases ry
 rcases hq with hq | hq
 ·obtain ⟨its,r,pl,hz⟩:=I.list hq
  refine SeqAt.notIn_listAt (eqU x) pl.isList (fun w hw=>mem_eqAt rx fx r fs w (by simpa using hw)) ⟨.bl _,H,I,rfl,?_⟩
  rw [show its.toArray.any (eqU x)=its.any (eqU x) by simp,any_eqU r fs]
  exact q
 ·obtain ⟨its,r,pl,hz⟩:=I.tuple hq
  refine SeqAt.notIn_tupleAt (eqU x) pl (fun w hw=>mem_eqAt rx fx r fs w (by simpa using hw)) ⟨.bl _,H,I,rfl,?_⟩
  rw [show its.toArray.any (eqU x)=its.any (eqU x) by simp,any_eqU r fs]
  exact q
theorem call_list_of:CallR X (.type "list") (fun xs H Q=>∃ p ys,xs=[.ref p]/\(SqL X.K H p ys\/SqT X.K H p ys)/\∀ l,H l=none->Q (.ref l) (upd H l (.lst ys))):=by
 intro pins s σ H xs us Q I r h
 obtain ⟨p,ys,rfl,hq,q⟩:=h
 obtain ⟨u,rfl,rx⟩:=vals1 r
 cases rx
 have fin:∀ (its:List Value),Vals ys its->ys.length<=sizeLine->∀ (h':Heap) (c':Nat),(∀ b o',s.heap.get? b=some o'->h'.get? b=some o')->
  h'.get? s.heap.objs.size=some { cls:=.type "list",dict:=none,data:=.seq its.toArray c',slots:=#[] }->EP X pins σ Q (.ref s.heap.objs.size) { s with heap:=h' }:=fun its r' hz h' c' kp e=>
  ⟨.ref s.heap.objs.size,_,I.laid (t':=s.toks) kp (Nat.le_refl _) (show Cm X.prog X.w _ h' _ (.lst ys) from ⟨hz,its,c',r',e⟩),rfl,q _ (I.hok.fresh (Nat.le_refl _))⟩
 rcases hq with hq | hq
 ·obtain ⟨its,r',pl,hz⟩:=I.list hq
  have hlen:=r'.length
  obtain ⟨o,ho,hc,n,hd⟩:=pl.isList
  exact call_list_seq p (.inl rfl) ho hc hd (fun h' c' kp e=>fin its r' hz h' c' kp e) (by simp only [List.size_toArray] <;> omega)
 ·obtain ⟨its,r',pl,hz⟩:=I.tuple hq
  have hlen:=r'.length
  obtain ⟨o,ho,hc,n,hd⟩:=pl
  exact call_list_seq p (.inr rfl) ho hc hd (fun h' c' kp e=>fin its r' hz h' c' kp e) (by simp only [List.size_toArray] <;> omega)
theorem Bx:CallR X (.type "tuple") (fun xs H Q=>∃ p ys,xs=[.ref p]/\((SqL X.K H p ys/\∀ l,H l=none->Q (.ref l) (upd H l (.tup ys)))\/(SqT X.K H p ys/\Q (.ref p) H))):=by
 intro pins s σ H xs us Q I r h
 obtain ⟨p,ys,rfl,h⟩:=h
 obtain ⟨u,rfl,rx⟩:=vals1 r
 cases rx
 rcases h with ⟨hq,q⟩ | ⟨hq,q⟩
 ·obtain ⟨its,r',pl,hz⟩:=I.list hq
  have hlen:=r'.length
  refine call_tuple_list pl.isList (fun h' kp=>?_) (by simp only [List.size_toArray] <;> omega)
  have I1:Inv X pins σ H { s with heap:=h' }:=I.kept (t':=s.toks) kp
  have I2:Inv X pins σ (upd H h'.objs.size (.tup ys)) { s with heap:=h'.push { cls:=.type "tuple",data:=.seq its.toArray } }:=
   I1.laid (t':=s.toks) (fun b o e=>Heap.get?_push_of_some _ e) (Nat.le_refl _) (show Cm X.prog X.w _ _ _ (.tup ys) from ⟨hz,its,r',IsTup.new _ _⟩)
  exact ⟨.ref h'.objs.size,_,I2,rfl,q _ (I1.hok.fresh (Nat.le_refl _))⟩
 ·obtain ⟨its,r',pl,hz⟩:=I.tuple hq
  exact call_tuple_same pl ⟨.ref p,H,I,rfl,q⟩
def tyV (K:PySem.W.Frag) (T:String) (x:V) (H:Hp):Prop:=match x with
 | .str _=>T="str"
 | .int _=>T="int"
 | .ref p=>(T="list"/\∃ xs,SqL K H p xs)\/(T="tuple"/\∃ o,K.lookup p=some o/\o.cls=.type "tuple"/\o.dict=none)\/
  (T="dict"/\((∃ kvs,H p=some (.dK kvs))\/∃ kvs,H p=some (.dT kvs)))\/(T="set"/\∃ S n,H p=some (.set S n))
 | _=>False
theorem tyV_is {pins:List (Addr × Obj)} {σ:St} {H:Hp} {s:Shared} {T:String} {x:V} {v:Value} (I:Inv X pins σ H s) (r:RelV x v) (ty:tyV X.K T x H) :
 s.TypeIs v T/\∀ a,v=.ref a->∃ ob,s.heap.get? a=some ob/\ob.dict=none:=by
 cases x with
 | str z=>
   obtain ⟨t,rfl⟩:=r
   cases (show T="str" from ty)
   exact ⟨typeIs_str s z t,fun _ e=>nomatch e⟩
 | int i=>
   obtain ⟨t,rfl⟩:=r
   cases (show T="int" from ty)
   exact ⟨typeIs_int s i t,fun _ e=>nomatch e⟩
 | ref p=>
   cases r
   rcases ty with ⟨rfl,xs,hq⟩ | ⟨rfl,o,hk,hc,hd⟩ | ⟨rfl,hk⟩ | ⟨rfl,S,n,hk⟩
   ·obtain ⟨its,_,pl,_⟩:=I.list hq
    refine ⟨pl.isList.typeIs,fun a e=>?_⟩
    cases e
    obtain ⟨o,n,e,c,hd,_⟩:=pl
    exact ⟨o,e,hd⟩
   ·refine ⟨⟨o,I.kIn p o hk,hc⟩,fun a e=>?_⟩
    cases e
    exact ⟨o,I.kIn _ o hk,hd⟩
   ·have z:∃ o,s.heap.get? p=some o/\o.ExactDict:=by
     rcases hk with ⟨kvs,hk⟩ | ⟨kvs,hk⟩
     ·obtain ⟨_,_,_,_,o,_,_,e,ex,_⟩:=I.hok p _ hk
      exact ⟨o,e,ex⟩
     ·obtain ⟨_,_,_,_,o,_,_,e,ex,_⟩:=I.hok p _ hk
      exact ⟨o,e,ex⟩
    obtain ⟨o,e,ex⟩:=z
    refine ⟨⟨o,e,ex.1⟩,fun a e2=>?_⟩
    cases e2
    exact ⟨o,e,ex.2.1⟩
   ·obtain ⟨o,_,_,_,e,ex,_⟩:=I.hok p _ hk
    refine ⟨⟨o,e,ex.1⟩,fun a e2=>?_⟩
    cases e2
    exact ⟨o,e,ex.2.1⟩
 | _=>exact False.elim ty
def tBM0 (K:PySem.W.Frag) (T:String) (r:V->List V->Hp->VK->Prop) (to:TE):TE:=fun σ H Q=>to σ H fun x H1=>tyV K T x H1/\r x [] H1 Q
def tBM (K:PySem.W.Frag) (T:String) (r:V->List V->Hp->VK->Prop) (to:TE) (t:TA):TE:=fun σ H Q=>to σ H fun x H1=>tyV K T x H1/\t σ H1 fun xs H2=>r x xs H2 Q
variable {o e:Expr} {es:List Expr} {to:TE} {t:TA} {name:Str} {apos cpos:Pos} {T id:String} {r:V->List V->Hp->VK->Prop}
theorem pe_bm0 (pa:PlainAttrs T) (slot:Slot T name id) (hty:typeOf (.builtin id)=pure (.type "method_descriptor")) (hm:MtR X id r) (ho:PE X o to)
 (hbase:attributeBase o name X.env (eval o X.env)=eval o X.env:=by rfl) (hline:(apos.endLine == cpos.line)=true:=by rfl):PE X (.Call (.Attribute o name apos) [] [] cpos) (tBM0 X.K T r to):=by
 intro pins s σ H Q I h
 refine wpAny_Call_method0_late hbase hline (thn (ho pins s σ H _ I h) fun v s1 ⟨x,H1,I1,r1,ty,q1⟩=>?_)
 obtain ⟨h1,h2⟩:=tyV_is I1 r1 ty
 exact ⟨T,id,pa,slot,hty,h1,h2,Calls.callWith_builtin rfl (PySem.evalArgs_none (hm pins s1 σ H1 x [] v [] Q I1 r1 .nil q1))⟩
theorem C5 (pa:PlainAttrs T) (slot:Slot T name id) (hty:typeOf (.builtin id)=pure (.type "method_descriptor")) (hm:MtR X id r) (ho:PE X o to) (ha:PA X (e :: es) t)
 (hbase:attributeBase o name X.env (eval o X.env)=eval o X.env:=by rfl)
 (hfew:((backTo cpos (starEach (e :: es) X.env)).all (fun x=>!x.1) && (backToKw cpos (keywordEach [] X.env)).all (fun x=>x.1.isSome)
   && decide ((e :: es).length + ([]:List Keyword).length + (if ([]:List Keyword).isEmpty then 0 else 1) < 30))=true:=by rfl)
 (hline:(apos.endLine == cpos.line)=true:=by rfl) (hs:starEach (e :: es) X.env=(false,eval e X.env) :: starEach es X.env:=by rfl) (hplain:(backTo cpos (starEach es X.env)).any (·.1)=false:=by rfl) :
 PE X (.Call (.Attribute o name apos) (e :: es) [] cpos) (tBM X.K T r to t):=by
 intro pins s σ H Q I h
 refine wpAny_Call_method_late hbase hfew hline rfl (thn (ho pins s σ H _ I h) fun v s1 ⟨x,H1,I1,r1,ty,q1⟩=>?_)
 obtain ⟨h1,h2⟩:=tyV_is I1 r1 ty
 refine ⟨T,id,pa,slot,hty,h1,h2,?_⟩
 have hA:=ha cpos pins s1 σ H1 _ I1 q1
 rw [hs] at hA ⊢
 refine Calls.callWith_builtin (by show (false || (backTo cpos (starEach es X.env)).any (·.1))=false; rw [hplain] <;> rfl) (Calls.evalArgs_plain ?_)
 exact thn hA fun us s2 ⟨vs,H2,I2,r2,q2⟩=>hm pins s2 σ H2 x vs v us Q I2 r1 r2 q2
/- xs.append(e),list.index on a module's tuple .. are MtR facts of 06m -/
end
end L2
namespace L2
open PySem PySem.Spec PyProof.Rows
def MtM (X:Cx) (id:String) (r:V->List V->Hp->VK->Prop):Prop:=
 ∀ (pins:List (Addr × Obj)) (s:Shared) (σ:St) (H:Hp) (x:V) (xs:List V) (v:Value) (us:List Value) (Q:VK),Inv X pins σ H s->RelV x v->Vals xs us->r x xs H Q->
  wpAny (model X.prog X.w) X.A (call (.builtin id) (v :: us)) (EP X pins σ Q) X.xe s
theorem Vals.one:∀ {x:V} {us:List Value},Vals [x] us->∃ u,us=[u]/\RelV x u
 | _,_,.cons r .nil=>⟨_,rfl,r⟩
theorem Vals.eraseIdx:∀ {xs:List V} {us:List Value} (i:Nat),Vals xs us->Vals (xs.eraseIdx i) (us.eraseIdx i)
 | _,_,_,.nil=>.nil
 | _,_,0,.cons _ t=>t
 | _,_,i + 1,.cons r t=>.cons r (Vals.eraseIdx i t)
theorem len_erase {α:Type}:∀ (l:List α) (i:Nat),(l.eraseIdx i).length<=l.length
 | [],_=>Nat.le_refl _
 | _ :: _,0=>Nat.le_succ _
 | _ :: r,i + 1=>Nat.succ_le_succ (len_erase r i)
section
variable {X:Cx} {pins:List (Addr × Obj)} {σ:St} {H:Hp} {s:Shared} {l b:Addr} {xs ys zs:List V}
theorem Inv.lset {its its':List Value} {n:Nat} {f:Array Value->Array Value} {t':Nat} (I:Inv X pins σ H s) (hH:H l=some (.lst xs))
 (e:s.heap.get? l=some { cls:=.type "list",data:=.seq its.toArray n }) (hf:f its.toArray=its'.toArray) (hv:Vals ys its') (hz:ys.length<=sizeLine) :
 Inv X pins σ (upd H l (.lst ys)) { s with heap:=s.heap.update l (Obj.mapSeq f),toks:=t' }:=by
 have q:=PySem.IsL.update e f
 rw [hf] at q
 refine I.write (x:=l) (e:=l) (by rw [hH]; exact trivial) (.inl rfl) (fun b' u hb hu=>(Heap.get?_update_other s.heap (Obj.mapSeq f) (Ne.symm hb)).trans hu) ⟨_,q⟩ ?_
 exact ⟨hz,its',_,hv,q⟩
theorem Inv.lnew {its:List Value} {t':Nat} (I:Inv X pins σ H s) (hv:Vals ys its) (hz:ys.length<=sizeLine) :
 Inv X pins σ (upd H s.heap.objs.size (.lst ys)) { s with heap:=s.heap.push { cls:=.type "list",data:=.seq its.toArray },toks:=t' }:=
 I.laid (fun _ _ q=>Heap.get?_push_of_some _ q) (Nat.le_refl _) ⟨hz,its,0,hv,Heap.get?_push_size _ rfl⟩
theorem Inv.fresh (I:Inv X pins σ H s):H s.heap.objs.size=none:=I.hok.fresh (Nat.le_refl _)
theorem Inv.lstM (I:Inv X pins σ H s) (hH:H l=some (.lst xs)):xs.length<=sizeLine/\∃ (its:List Value) (n:Nat),Vals xs its/\xs.length=its.length/\s.heap.get? l=some { cls:=.type "list",data:=.seq its.toArray n }:=by
 obtain ⟨z,its,n,r,e⟩:=I.hok l _ hH
 exact ⟨z,its,n,r,r.length,e⟩
end
section
variable {X:Cx}
def rAppend:V->List V->Hp->VK->Prop:=fun x vs H Q=>∃ l xs y,x=.ref l/\vs=[y]/\H l=some (.lst xs)/\xs.length < sizeLine/\Q .non (upd H l (.lst (xs ++ [y])))
theorem Cg:MtM X "list.append" rAppend:=by
 intro pins s σ H x vs v us Q I rx rv h
 obtain ⟨l,xs,y,rfl,rfl,hH,hz,q⟩:=h
 cases rx
 obtain ⟨u,rfl,ru⟩:=rv.one
 obtain ⟨z,its,n,r,hl,e⟩:=I.lstM hH
 refine call_meets F.slot_list_append ⟨_,e,rfl⟩ F.entry_list_append (F.args_list_append_2 _ _) (PySem.list_append l its.toArray n u (by rw [List.size_toArray]; omega)) ⟨e,?_⟩
 refine ⟨.non,_,I.lset (its':=its ++ [u]) hH e (by simp) (r.append (.cons ru .nil)) ?_,rfl,q⟩
 rw [List.length_append,List.length_singleton]
 omega
def rPopAt:V->List V->Hp->VK->Prop:=fun x vs H Q=>∃ l xs i k y,x=.ref l/\vs=[.int i]/\H l=some (.lst xs)/\-(2 ^ 63)<=i/\i < 2 ^ 63/\seqIndex? i xs.length=some k/\xs[k]?=some y/\Q y (upd H l (.lst (xs.eraseIdx k)))
theorem mt_popAt:MtM X "list.pop" rPopAt:=by
 intro pins s σ H x vs v us Q I rx rv h
 obtain ⟨l,xs,i,k,y,rfl,rfl,hH,h1,h2,hk,hy,q⟩:=h
 cases rx
 obtain ⟨u,rfl,ru⟩:=rv.one
 obtain ⟨t,rfl⟩:=ru
 obtain ⟨z,its,n,r,hl,e⟩:=I.lstM hH
 obtain ⟨w,hw,rw'⟩:=r.get hy
 refine call_meets F.slot_list_pop ⟨_,e,rfl⟩ F.entry_list_pop (F.args_list_pop_2 _ _)
  (MeetsSeq.list_pop_at l its.toArray n i t k w (fitsIndex_both h1 h2) (by rw [List.size_toArray,← hl]; exact hk) (by rw [← Array.getElem?_toList]; exact hw) (by rw [List.size_toArray]; omega)) ⟨e,?_⟩
 refine ⟨y,_,I.lset (its':=its.eraseIdx k) hH e ?_ (r.eraseIdx k) ?_,rw',q⟩
 ·show its.toArray.eraseIdxIfInBounds k=(its.eraseIdx k).toArray
  rw [List.eraseIdxIfInBounds_toArray]
 ·have:=len_erase xs k
  omega
def rCat:R2:=fun x y H Q=>∃ l b xs zs,x=.ref l/\y=.ref b/\H l=some (.lst xs)/\H b=some (.lst zs)/\xs.length + zs.length<=sizeLine/\∀ p,H p=none->Q (.ref p) (upd H p (.lst (xs ++ zs)))
theorem Ev:OpR X (binaryOp .Add) rCat:=by
 intro pins s σ H x y v u Q I rx ry h
 obtain ⟨l,b,xs,zs,rfl,rfl,hH,hB,hz,q⟩:=h
 cases rx
 cases ry
 obtain ⟨z,its,n,r,hl,e⟩:=I.lstM hH
 obtain ⟨z2,its2,n2,r2,hl2,e2⟩:=I.lstM hB
 refine PySem.P.add_list e e2 ?_ (by rw [List.size_toArray,List.size_toArray]; omega)
 have ea:its.toArray ++ its2.toArray=(its ++ its2).toArray:=by simp
 rw [ea]
 exact ⟨.ref _,_,I.lnew (t':=s.toks) (r.append r2) (by rw [List.length_append]; omega),rfl,q _ I.fresh⟩
end
section
variable {prog:Program} {w:World} {A:Around} {E:Value->Shared->Prop} {s:Shared}
set_option maxRecDepth 100000 in
end
section
variable {X:Cx}
end
end L2
namespace Att
open PySem PySem.W PySem.Calls PyProof.Rows
theorem ints_of_wellAll {P:Params} {h:Heap}:∀ (ns:List Int) (vs:List Value),WellAll P h vs (ns.map WData.int)->IntsAre vs ns:=by
 intro ns
 induction ns with
 | nil=>
   intro vs w
   rw [List.map_nil] at w
   cases w
   exact .nil
 | cons n ns ih=>
   intro vs w
   rw [List.map_cons] at w
   cases w with
   | cons a b=>
     cases a
     exact .cons _ _ (ih _ b)
theorem script_of {l:OpenLaw} {n:Nat} (hn:l.most=some n) {P:Params} {h:Heap} {args:List WData} {vals:List Value}
 (hpre:l.row.toRowW.claim.pre args=true) (hwl:WellAll P h vals args) :
 ∃ a vs ns,vals=[Value.ref a]/\args=[WData.list (ns.map WData.int)]/\h.get? a=some { cls:=.type "list",data:=.seq vs.toArray }/\IntsAre vs ns/\ns.length<=n:=by
 have hsh:WShape.hasAll [] args [.list .int]=true:=(pre_splitW hpre).1
 have hc:l.pre.holds [] { args:=args }=true:=(pre_splitW hpre).2
 obtain ⟨d,r,rfl,h1,h2⟩:=hasAllW_cons hsh
 obtain rfl:=hasAllW_nil h2
 obtain ⟨xs,rfl,h3⟩:=hasW_list h1
 obtain ⟨ns,rfl⟩:=items_int h3
 have hlen:ns.length<=n:=by
  unfold OpenLaw.pre at hc
  have h4:(WTm.not (.lt (.lit (.int (n:Int))) (.len (.arg 0)))).holds [] { args:=[.list (ns.map .int)] }=true:=by
   have h4:=(holds_andW hc).1
   rw [hn] at h4
   exact h4
  have h5:=condW_of h4 (w_not (w_lt w_lit (w_len_list (w_arg rfl))))
  rw [List.length_map] at h5
  refine Nat.le_of_not_lt fun q=>?_
  have q':(n:Int) < ((ns.length:Nat):Int):=by omega
  first
   | (rw [decide_eq_true q'] at h5; exact absurd h5 (by decide))
   | (simp at h5; omega)
 cases hwl with
 | cons w1 w2=>
   cases w2
   cases w1 with
   | list ho hall=>exact ⟨_,_,ns,rfl,rfl,ho,ints_of_wellAll ns _ hall,hlen⟩
theorem post_true (l:OpenLaw) (args:List WData):l.row.toRowW.claim.post args (.bool true) args=true:=
 postW_of (r:=l.row.toRowW) (X:=(true == true))
  (show WShape.has [] (.bool true) .bool=true by first | rfl | decide | simp [WShape.has,WShape.arms,WShape.armsAll])
  (show (WTm.eq .res (.lit (.bool true))).value [] { args:=args,res:=some (.bool true),after:=args }=some (.bool (true == true)) from w_eq_bool (w_res rfl) w_lit) rfl
theorem attach_call {l:OpenLaw} {n:Nat} {q:Program} {loose:List Str} {XP:(Str->Option Value)->Heap->Prop} {YP:World->Heap->Prop} {d:DefRec}
 (hn:l.most=some n) (hdf:d.params.defaults=[])
 (call:∀ (w:World) (s₀ s₁:Shared) (mg mb:Str->Option Value) (fa:Addr) (o:Obj) (pm cd doc:Value) (a:Addr) (vs:List Value) (ns:List Int),
   Ground q loose [] XP w s₀ mg mb s₁.heap->YP w s₁.heap->
   s₁.heap.get? fa=some o->o.data=.func (docDef d.name d.params d.body d.scope pm cd doc)->s₁.heap.CodeRec cd d.name->mg d.name=some (.ref fa)->
   s₁.heap.get? a=some { cls:=.type "list",data:=.seq vs.toArray }->IntsAre vs ns->ns.length<=n->s₁.gens=#[]->
   codeAny (model l.prog w) callerA (.call (.ref fa) ⟨[.ref a],[]⟩) (fun r s'=>r=.ok (.ret (.bool true))/\OldK s₁.heap s'.heap/\s'.os=s₁.os/\AllBare s'.gens) s₁) :
 WalkO q loose XP YP l.row.toRowW d [] (fun f vs=>PySem.call f vs):=by
 intro w s₀ s₁ mg mb G Y fa o pm cd doc dV kV ho hd hcd hD hmg hg args vals as hpre hlay hrd hwl hlo
 obtain rfl:dV=.none:=Dflts.none hD hdf
 obtain rfl:kV=.none:=Dflts.noKw hD
 obtain ⟨a,vs,ns,rfl,rfl,hobj,hints,hlen⟩:=script_of hn hpre hwl
 refine enter_call (codeAny_mono (call w s₀ s₁ mg mb fa o pm cd doc a vs ns G Y ho (fd_plain hd) hcd hmg hobj hints hlen hg) fun r s' hq=>?_)
 obtain ⟨rfl,h2,h3,h4⟩:=hq
 exact ⟨.inl ⟨.bool true,.bool true,[],rfl,fun _=>rfl,.bool true,post_true l _,fun _=>⟨List.Pairwise.nil,fun _ hm=>(nomatch hm)⟩⟩,h2,h3,h4⟩
section
variable {prog:Program} {w:World} {A:Around} {E:Value->Shared->Prop} {s:Shared} {K:Frag}
end
end Att
namespace L2
open PySem PySem.Spec PyProof.Rows
theorem vals_ints:∀ {vs:List Value} {ns:List Int},IntsAre vs ns->Vals (ns.map V.int) vs
 | _,_,.nil=>.nil
 | _,_,.cons n t h=>.cons ⟨t,rfl⟩ (vals_ints h)
def Only (H:Hp):Prop:=∀ b,H b=none\/∃ o xs,H b=some (.frz o (.lst xs))
theorem law_call {P:Program} {w:World} {K:PySem.W.Frag} {mg mb:Str->Option Value} {CX:CXT} {k:Nat} {fa a:Addr} {fd:FuncData} {x:Str} {sp:Sp} {s₁:Shared} {vs:List Value} {ns:List Int}
 (KX:K.In s₁.heap) (hns:s₁.heap.Ns mainGlobals mg) (hb:s₁.heap.Ns builtinsNs mb) (hbb:∀ x:Str,x≠"__name__"->mb x=bootBuiltins x) (hlim:s₁.heap.NoLimit) (hg:s₁.gens=#[])
 (ha:s₁.heap.get? a=some { cls:=.type "list",data:=.seq vs.toArray }) (hi:IntsAre vs ns) (hl:ns.length<=sizeLine) (hr:Room k callerA)
 (F:∀ base:Heap,K.In base->base.Ns mainGlobals mg->FnOk P w K mg base CX k fa fd [x] sp) (hbind:∀ (s:Shared) (u:Value),BindsTo s fd ⟨[u],[]⟩ [(x,u)])
 (hsp:∀ H:Hp,Only H->SqL K H a (ns.map V.int)->sp [.ref a] H (fun v _=>v=.bl true) fun _ _ _=>False)
 (hCX:∀ H e s',CX [] H s₁ (fun _ _ _=>False) e s'->False) :
 codeAny (model P w) callerA (.call (.ref fa) ⟨[.ref a],[]⟩) (fun r s'=>r=.ok (.ret (.bool true))/\OldK s₁.heap s'.heap/\s'.os=s₁.os/\AllBare s'.gens) s₁:=by
 have rv:=vals_ints hi
 have lenV:=hi.length
 have core:∀ H:Hp,Only H->SqL K H a (ns.map V.int)->HOk P w H s₁.heap->(∀ b,H b≠none->b=a)->(H a≠none->K.lookup a=none)->
  codeAny (model P w) callerA (.call (.ref fa) ⟨[.ref a],[]⟩) (fun r s'=>r=.ok (.ret (.bool true))/\OldK s₁.heap s'.heap/\s'.os=s₁.os/\AllBare s'.gens) s₁:=by
  intro H hO hS hok hA hK
  have base_of:∀ {b:Addr} {o:Obj},s₁.heap.get? b=some o->H b=none->(hidT s₁.heap H).get? b=some o:=fun e n=>hidT_get e n
  have noA:∀ {b:Addr} {o:Obj} {es:Array DictEntry} {ep:Nat},s₁.heap.get? b=some o->o.data=.dict es ep->H b=none:=fun {b o es ep} e d=>by
   cases q:H b with
   | none=>rfl
   | some u=>
     have e':b=a:=hA b (by rw [q]; simp)
     subst e'
     rw [ha] at e; cases e
     have d':Data.seq vs.toArray _=Data.dict es ep:=d
     cases d'
  have nsK:∀ {b:Addr} {m:Str->Option Value},s₁.heap.Ns b m->(hidT s₁.heap H).Ns b m:=fun {b m} ⟨o,es,ep,e,d,r⟩=>⟨o,es,ep,base_of e (noA e d),d,r⟩
  have hKb:K.In (hidT s₁.heap H):=fun b o e=>base_of (KX b o e) (by
   cases q:H b with
   | none=>rfl
   | some u=>
     have e':b=a:=hA b (by rw [q]; simp)
     subst e'
     rw [hK (by rw [q]; simp)] at e; cases e)
  have hM:Mod K mg (hidT s₁.heap H):=⟨hKb,nsK hns,⟨mb,nsK hb,hbb⟩,let ⟨mc,h1,h2⟩:=hlim; ⟨mc,nsK h1,h2⟩⟩
  have e0:Env0 P w K mg (hidT s₁.heap H) callerA [] s₁ H:=⟨rfl,hM,fun b o e=>of_hidT e,Nat.le_of_eq (hidT_size _ _),trivial,fun b hb=>absurd (show b ∈ ([]:List Addr) from hb) (by simp),hok,.of_eq hg⟩
  refine codeAny_mono ((F _ hKb (nsK hns)).run callerA [] s₁ H ⟨[.ref a],[]⟩ [.ref a] [.ref a] _ _ hr e0 (hbind s₁ (.ref a)) (.cons rfl .nil) (hsp H hO hS)) fun r s' h=>?_
  cases r with
  | error e=>exact (hCX H e s' h).elim
  | ok fl=>
    cases fl with
    | next=>exact False.elim h
    | brk=>exact False.elim h
    | cont=>exact False.elim h
    | ret u=>
      obtain ⟨v,H',os,bare,un,hok',r',q⟩:=h
      have q':v=.bl true:=q
      subst q'
      obtain rfl:u=Value.bool true:=r'
      refine ⟨rfl,OldK.of_keep fun b o e=>?_,os,bare⟩
      cases q:H b with
      | none=>exact un.keep b o e q (by intro z; exact absurd (show b ∈ ([]:List Addr) from z) (by simp)) (by simp)
      | some u=>
        rcases hO b with z | ⟨ob,xs,z⟩
        ·rw [q] at z; cases z
        ·have z2:=un.frzs b ob _ z
         obtain ⟨e1,_⟩:=hok b _ z
         obtain ⟨e2,_⟩:=hok' b _ z2
         rw [e] at e1; cases e1
         exact e2
 cases hk:K.lookup a with
 | some o=>
   have e:=KX a o hk
   rw [ha] at e
   cases e
   refine core (fun _=>none) (fun _=>.inl rfl) (.inr ⟨_,vs.toArray,_,hk,rfl,rfl,rfl,by rw [List.size_toArray,lenV]; exact hl,by simpa using rv⟩) (fun b u z=>by have z':(none:Option HO)=some u:=z; cases z') (fun b z=>absurd rfl z) fun z=>absurd rfl z
 | none=>
   refine core (fun b=>if b=a then some (.frz { cls:=.type "list",data:=.seq vs.toArray } (.lst (ns.map V.int))) else none) (fun b=>?_) (.inl (.inr ⟨{ cls:=.type "list",data:=.seq vs.toArray },if_pos rfl⟩)) (fun b u z=>?_) (fun b z=>?_) fun _=>hk
   ·by_cases hb:b=a
    ·exact .inr ⟨_,_,if_pos hb⟩
    ·exact .inl (if_neg hb)
   ·by_cases hb:b=a
    ·have z':=(if_pos hb).symm.trans z
     cases z'
     subst hb
     exact ⟨ha,by rw [List.length_map]; exact hl,vs,_,rv,ha⟩
    ·have z':=(if_neg hb).symm.trans z
     cases z'
   ·by_cases hb:b=a
    ·exact hb
    ·exact absurd (if_neg hb) z
end L2
namespace L2
open PySem PySem.Spec PyProof.Rows
abbrev KOf {K:PySem.W.Frag} {h:Heap} (_:K.In h):PySem.W.Frag:=K
theorem walk_of {l:PySem.W.OpenLaw} {n k:Nat} {q:Program} {loose:List Str} {XP:(Str->Option Value)->Heap->Prop} {YP:World->Heap->Prop} {d:DefRec} {K:Params->PySem.W.Frag} {CX:World->CXT} {sp:World->Sp} {x:Str}
 (hn:l.most=some n) (hn2:n<=sizeLine) (hdf:d.params.defaults=[]) (hr:Room k callerA)
 (hY:∀ (w:World) (h:Heap),YP w h->(K w.params).In h)
 (F:∀ (w:World) (mg:Str->Option Value) (fa:Addr) (h:Heap),(K w.params).In h->h.Ns mainGlobals mg->mg d.name=some (.ref fa)->
   ∃ fd:FuncData,(∀ (s:Shared) (u:Value),BindsTo s fd ⟨[u],[]⟩ [(x,u)])/\
    ∀ base:Heap,(K w.params).In base->base.Ns mainGlobals mg->FnOk l.prog w (K w.params) mg base (CX w) k fa fd [x] (sp w))
 (hsp:∀ (w:World) (H:Hp) (a:Addr) (ns:List Int),ns.length<=n->Only H->SqL (K w.params) H a (ns.map V.int)->sp w [.ref a] H (fun v _=>v=.bl true) fun _ _ _=>False)
 (hCX:∀ (w:World) (H:Hp) (s:Shared) (e:Value) (s':Shared),CX w [] H s (fun _ _ _=>False) e s'->False) :
 PySem.W.WalkO q loose XP YP l.row.toRowW d [] (fun f vs=>PySem.call f vs):=by
 refine Att.attach_call hn hdf fun w s₀ s₁ mg mb fa o pm cd doc a vs ns G Y ho hd hcd hmg hobj hints hlen hg=>?_
 have KX:=hY w _ Y
 obtain ⟨fd,hb,hF⟩:=F w mg fa _ KX G.T.g hmg
 exact law_call KX G.T.g G.T.b G.T.builtins G.T.nolimit hg hobj hints (Nat.le_trans hlen hn2) hr hF hb (fun H hO hS=>hsp w H a ns hlen hO hS) fun H e s'=>hCX w H s₁ e s'
end L2
namespace L2
open PySem PySem.Spec PyProof.Rows
def D4 (s:Stmt) (j:Nat):Stmt:=match s with
 | .ClassDef _ _ _ body _ _ _ _ _ _ _=>body.getD j (.Pass ⟨0,0,0,0⟩)
 | _=>.Pass ⟨0,0,0,0⟩
def Db (s:Stmt):Arguments:=match s with
 | .FunctionDef _ a _ _ _ _ _ _ _ _=>a
 | _=>{ posonlyargs:=[],args:=[],vararg:=none,kwonlyargs:=[],kw_defaults:=[],kwarg:=none,defaults:=[] }
def B1 (s:Stmt):List Stmt:=match s with
 | .FunctionDef _ _ b _ _ _ _ _ _ _=>b
 | _=>[]
def Af (s:Stmt):Scope:=match s with
 | .FunctionDef _ _ _ _ _ _ sc _ _ _=>sc
 | _=>{ kind:=.function,names:=[],isGenerator:=false,isCoroutine:=false }
abbrev CX0:CXT:=fun _ _ _ _ _ _=>False
abbrev E0:XK:=fun _ _ _=>False
theorem pass0 {X:Cx}:D8 CX0 X E0:=fun _ _ _ _ _ _ _ h=>h.elim
structure Fun (K:PySem.W.Frag) (x qual:Str) (st:Stmt) (f:Addr) (fd:FuncData):Prop where
 ex:∃ (oc:Value) (od:Option Addr) (kV doc pm:Value) (an:Option Addr) (cdv ct:Value) (osl:Array (Option Value)),
  fd=PySem.W.fnOf x qual (Db st) (B1 st) (Af st) .none kV doc pm an cdv ct/\K.lookup f=some ⟨oc,od,.func fd,osl⟩/\PySem.W.codeIn K cdv qual=true
 kp:PySem.W.keepIn K (.ref f)=true
section
variable {P:Program} {w:World} {K:PySem.W.Frag} {mg:Str->Option Value} {base:Heap}
theorem Fun.ok {x qual:Str} {st:Stmt} {f:Addr} {fd:FuncData} {N ps:List Str} {k:Nat} {sp:Sp} (F:Fun K x qual st f fd) (S:Ao N ps (Af st)) (len:∀ vs H Q E,sp vs H Q E->vs.length=ps.length)
 (hbody:∀ (cdv:Value) (A:Around) (outer:List Env) (s:Shared) (H:Hp) (vs:List V) (Q:VK) (E:XK),Room k (A.deeper (envOfC qual (Af st) s.heap.objs.size f cdv))->sp vs H Q E->
   ∃ t,PSs (cxOf CX0 P w K mg base N qual (Af st) f cdv A outer s H E).nox (B1 st) t/\t { nx:=fun _ H'=>Q .non H',rt:=Q } (start N vs) H):FnOk P w K mg base CX0 (k + 1) f fd ps sp:=by
 obtain ⟨oc,od,kV,doc,pm,an,cdv,ct,osl,rfl,lk,hcd⟩:=F.ex
 refine fn_of lk hcd S len fun A outer s H vs Q E hr hsp=>?_
 obtain ⟨t,h,q⟩:=hbody cdv A outer s H vs Q E hr hsp
 exact ⟨t,h.nox,q⟩
theorem fun_mk {x qual:Str} {st:Stmt} {f:Addr} {oc:Value} {od an:Option Addr} {osl:Array (Option Value)} {kV doc pm cdv ct:Value} (l:K.lookup f=some ⟨oc,od,.func (PySem.W.fnOf x qual (Db st) (B1 st) (Af st) .none kV doc pm an cdv ct),osl⟩)
 (c:PySem.W.codeIn K cdv qual=true) (k:PySem.W.keepIn K (.ref f)=true):Fun K x qual st f (PySem.W.fnOf x qual (Db st) (B1 st) (Af st) .none kV doc pm an cdv ct):=⟨⟨oc,od,kV,doc,pm,an,cdv,ct,osl,rfl,l,c⟩,k⟩
end
section
variable {X:Cx}
theorem pv (i:Nat) {x:Str} {pos:Pos} (hN:X.N[i]?=some x:=by rfl) (hv:Vis X.env.scope x:=by first | exact Or.inl rfl | exact Or.inr (Or.inl rfl) | exact Or.inr (Or.inr rfl)) (hd:(x == ("__debug__":Str))=false:=by decide)
 (hcd:(x == ("__classdict__":Str))=false:=by decide):PE X (.Name x pos) (tVar i):=pe_var hN hv hd hcd
end
theorem iteF {A B:Prop} (h:B):if false=true then A else B:=by
 rw [if_neg Bool.false_ne_true]
 exact h
theorem iteT {A B:Prop} (h:A):if true=true then A else B:=by
 rw [if_pos rfl]
 exact h
theorem ite2 {c A B:Prop} [Decidable c] (h1:c->A) (h2:¬ c->B):if c then A else B:=by
 by_cases h:c
 ·rw [if_pos h]
  exact h1 h
 ·rw [if_neg h]
  exact h2 h
theorem iteNS {c A B:Prop} [Decidable c] (hc:c) (h:B):if (!decide c)=true then A else B:=by
 rw [decide_eq_true hc]
 exact iteF h
def Same (H H':Hp):Prop:=∀ b o,H b=some o->H' b=some o
theorem Same.refl (H:Hp):Same H H:=fun _ _ h=>h
theorem Same.trans {H H1 H2:Hp} (a:Same H H1) (b:Same H1 H2):Same H H2:=fun c o h=>b c o (a c o h)
theorem Same.free {H H':Hp} (e:Same H H') {l:Addr} (h:H' l=Option.none):H l=Option.none:=by
 cases q:H l with
 | none=>rfl
 | some o=>
   rw [e l o q] at h
   cases h
theorem Same.seq {K:PySem.W.Frag} {H H':Hp} {a:Addr} {xs:List V} (e:Same H H') (h:SqL K H a xs):SqL K H' a xs:=by
 rcases h with (h | ⟨o,h⟩) | h
 ·exact .inl (.inl (e _ _ h))
 ·exact .inl (.inr ⟨o,e _ _ h⟩)
 ·exact .inr h
section
variable {prog:Program} {w:World} {A:Around} {R:Result->Shared->Prop} {s:Shared}
theorem comp_loop {elt target iter:Expr} {ifs:List Expr} {scope:Scope} {pos:Pos} {it acc:Value} {env:Env} (I:Nat->Shared->Prop)
 (turn:∀ n s,I n s->wpAny (model prog w) A (pyNext it) (fun r s1=>match r with
   | none=>R (.ok .next) s1
   | some v=>wpAny (model prog w) A (letOwnedTupleGo target it v) (fun _ s2=>wpAny (model prog w) A (assign target env v) (fun _ s3=>
    wpAny (model prog w) A (forIn ifs true fun c r=>if r=true then do let ok ← isTrue c env (eval c env); pure (ForInStep.yield ok) else pure (ForInStep.yield r)) (fun ok s4=>
     if ok=true then wpAny (model prog w) A (eval elt env) (fun x s5=>
      wpAny (model prog w) A (call (.builtin "list.append") [acc,x]) (fun _ s6=>∃ m,m < n/\I m s6) (notedBy (model prog w) A env fun e s'=>R (.error e) s') s5) (notedBy (model prog w) A env fun e s'=>R (.error e) s') s4
     else ∃ m,m < n/\I m s4) (notedBy (model prog w) A env fun e s'=>R (.error e) s') s3) (notedBy (model prog w) A env fun e s'=>R (.error e) s') s2) (notedBy (model prog w) A env fun e s'=>R (.error e) s') s1)
     (notedBy (model prog w) A env fun e s'=>R (.error e) s') s)
 (n:Nat) (h:I n s) :
 codeAny (model prog w) A (.compLoop (.ListComp elt [⟨target,iter,ifs,0⟩] scope pos) 0 it acc env) R s:=by
 refine codeAny_loop rfl I (fun n s hI=>?_) n h
 show wpAny _ A ((compTurn (.ListComp elt [⟨target,iter,ifs,0⟩] scope pos) 0 it acc env).onRaise (fun x=>do noteFrame x env; theTreesLotGoes x)) _ _ s
 refine wpAny_noted ?_
 rw [compTurn_list]
 refine wpAny_bind (wpAny_standAt (wpAny_bind (wpAny_mono (turn n s hI) (fun r s1 h1=>?_) fun _ _ h'=>h')))
 cases r with
 | none=>exact wpAny_pure h1
 | some v=>
   refine wpAny_bind (wpAny_mono h1 (fun _ s2 h2=>?_) fun _ _ h'=>h')
   refine wpAny_bind (wpAny_mono h2 (fun _ s3 h3=>wpAny_bind (wpAny_mono h3 (fun ok s4 h4=>?_) fun _ _ h'=>h')) fun _ _ h'=>h')
   cases ok with
   | false=>exact wpAny_pure ⟨rfl,h4⟩
   | true=>
     exact wpAny_bind (wpAny_bind (wpAny_mono h4 (fun x s5 h5=>wpAny_bind (wpAny_mono h5 (fun _ s6 h6=>wpAny_pure (wpAny_pure ⟨rfl,h6⟩)) fun _ _ h'=>h')) fun _ _ h'=>h'))
end
def clOf (cells:List (Str × Addr)):List (Str × NameKind)->List (Str × Addr)->List (Str × Addr)
 | [],acc=>acc
 | (n,k) :: r,acc=>if k == .free then (match cells.lookup n with
  | some a=>clOf cells r ((n,a) :: acc)
  | none=>clOf cells r acc) else clOf cells r acc
theorem clos_go {env:Env}:∀ (names:List (Str × NameKind)) (acc:List (Str × Addr)),(∀ y ∈ names,y.2=.free->∃ a,env.cells.lookup y.1=some a)->
 (forIn names acc fun (x:Str × NameKind) r=>(if x.2 == .free then do let a ← cellOf env x.1; pure (ForInStep.yield ((x.1,a) :: r)) else pure (ForInStep.yield r):Sem (ForInStep (List (Str × Addr)))))=pure (clOf env.cells names acc)
 | [],acc,_=>rfl
 | (n,k) :: r,acc,h=>by
   rw [List.forIn_cons]
   have ih:=fun acc=>clos_go r acc fun y hy=>h y (List.mem_cons_of_mem _ hy)
   by_cases hk:k=.free
   ·subst hk
    obtain ⟨a,e⟩:=h (n,.free) List.mem_cons_self rfl
    have e:env.cells.lookup n=some a:=e
    simp only [beq_self_eq_true,if_true,cellOf,e,clOf,pure_bind]
    exact ih _
   ·have hb:(k == NameKind.free)=false:=by simpa using hk
    simp only [hb,Bool.false_eq_true,if_false,clOf,pure_bind]
    exact ih _
theorem clos_ok {env:Env} {scope:Scope} (h:∀ y ∈ scope.names,y.2=.free->∃ a,env.cells.lookup y.1=some a):closureFor scope env=pure (clOf env.cells scope.names []):=by
 unfold closureFor
 have e:=clos_go (env:=env) scope.names [] h
 simp only [bind_pure]
 exact e
theorem clOf_sub {cells:List (Str × Addr)} {x:Str} {c:Addr}:∀ (names:List (Str × NameKind)) (acc:List (Str × Addr)),(∀ y b,(y,b) ∈ acc->cells.lookup y=some b)->(x,c) ∈ clOf cells names acc->cells.lookup x=some c
 | [],acc,ha,hm=>ha x c hm
 | (n,k) :: r,acc,ha,hm=>by
   unfold clOf at hm
   split at hm
   ·split at hm
    ·rename_i a e
     refine clOf_sub r _ (fun y b hb=>?_) hm
     rcases List.mem_cons.mp hb with q | q
     ·cases q; exact e
     ·exact ha y b q
    ·exact clOf_sub r _ ha hm
   ·exact clOf_sub r _ ha hm
theorem lookup_mem {x:Str} {c:Addr} {l:List (Str × Addr)} (h:l.lookup x=some c):(x,c) ∈ l:=PySem.mem_of_lookup h
theorem clOf_in {cells:List (Str × Addr)} {x:Str} {c:Addr} (hx:cells.lookup x=some c):∀ (names:List (Str × NameKind)) (acc:List (Str × Addr)),((x,NameKind.free) ∈ names\/(x,c) ∈ acc)->(x,c) ∈ clOf cells names acc
 | [],acc,hm=>by
   rcases hm with q | q
   ·exact absurd q (by simp)
   ·exact q
 | (n,k) :: r,acc,hm=>by
   unfold clOf
   by_cases hk:k=.free
   ·subst hk
    simp only [beq_self_eq_true,if_true]
    split
    ·rename_i a e
     refine clOf_in hx r _ ?_
     rcases hm with q | q
     ·rcases List.mem_cons.mp q with q | q
      ·cases q
       rw [hx] at e; cases e
       exact .inr List.mem_cons_self
      ·exact .inl q
     ·exact .inr (List.mem_cons_of_mem _ q)
    ·rename_i e
     refine clOf_in hx r _ ?_
     rcases hm with q | q
     ·rcases List.mem_cons.mp q with q | q
      ·cases q
       rw [hx] at e; cases e
      ·exact .inl q
     ·exact .inr q
   ·have hb:(k == NameKind.free)=false:=by simpa using hk
    simp only [hb,Bool.false_eq_true,if_false]
    refine clOf_in hx r _ ?_
    rcases hm with q | q
    ·rcases List.mem_cons.mp q with q | q
     ·cases q; exact absurd rfl hk
     ·exact .inl q
    ·exact .inr q
theorem lookup_of_mem {x:Str} {c:Addr}:∀ {l:List (Str × Addr)},(x,c) ∈ l->∃ d,l.lookup x=some d/\(x,d) ∈ l
 | [],h=>absurd h (by simp)
 | (y,b) :: r,h=>by
   by_cases e:x=y
   ·subst e
    exact ⟨b,by simp,List.mem_cons_self⟩
   ·rcases List.mem_cons.mp h with q | q
    ·cases q; exact absurd rfl e
    ·obtain ⟨d,e1,e2⟩:=lookup_of_mem q
     refine ⟨d,?_,List.mem_cons_of_mem _ e2⟩
     rw [List.lookup_cons]
     have:(x == y)=false:=by simpa using e
     rw [this]
     exact e1
theorem clOf_lookup {cells:List (Str × Addr)} {names:List (Str × NameKind)} {x:Str} {c:Addr} (hf:(x,NameKind.free) ∈ names) (hx:cells.lookup x=some c):(clOf cells names []).lookup x=some c:=by
 obtain ⟨d,e1,e2⟩:=lookup_of_mem (clOf_in hx names [] (.inl hf))
 have e3:=clOf_sub names [] (fun _ _ h=>absurd h (by simp)) e2
 rw [hx] at e3; cases e3
 exact e1
theorem D6 {cells:List (Str × Addr)} {names:List (Str × NameKind)} {x:Str} {c:Addr} (h:(clOf cells names []).lookup x=some c):cells.lookup x=some c:=
 clOf_sub names [] (fun _ _ h=>absurd h (by simp)) (lookup_mem h)
theorem relab_free {env:Env}:∀ {names:List (Str × NameKind)} {x:Str},names.lookup x=some .free->
 (names.map fun (n,k)=>if (k == NameKind.free && env.scope.kind == .function && env.kindOf n == some .cell) then (n,NameKind.cell) else (n,k)).lookup x=some .cell\/
 (names.map fun (n,k)=>if (k == NameKind.free && env.scope.kind == .function && env.kindOf n == some .cell) then (n,NameKind.cell) else (n,k)).lookup x=some .free
 | [],_,h=>by simp at h
 | (n,k) :: r,x,h=>by
   have ih:=@relab_free env r x
   rw [List.map_cons]
   cases hx:x == n with
   | true=>
     simp only [List.lookup_cons,hx] at h
     cases h
     dsimp only
     by_cases hc:(NameKind.free == NameKind.free && env.scope.kind == .function && env.kindOf n == some .cell)=true
     ·rw [if_pos hc]; simp [List.lookup_cons,hx]
     ·rw [if_neg hc]; simp [List.lookup_cons,hx]
   | false=>
     simp only [List.lookup_cons,hx] at h
     dsimp only
     by_cases hc:(k == NameKind.free && env.scope.kind == .function && env.kindOf n == some .cell)=true
     ·rw [if_pos hc]; simp only [List.lookup_cons,hx]; exact ih h
     ·rw [if_neg hc]; simp only [List.lookup_cons,hx]; exact ih h
theorem relab_back {env:Env}:∀ {names:List (Str × NameKind)} {x:Str},(∀ y ∈ names,y.2≠.cell)->
 ((names.map fun (n,k)=>if (k == NameKind.free && env.scope.kind == .function && env.kindOf n == some .cell) then (n,NameKind.cell) else (n,k)).lookup x=some .cell\/
 (names.map fun (n,k)=>if (k == NameKind.free && env.scope.kind == .function && env.kindOf n == some .cell) then (n,NameKind.cell) else (n,k)).lookup x=some .free)->names.lookup x=some .free
 | [],_,_,h=>by simp at h
 | (n,k) :: r,x,hn,h=>by
   have ih:=@relab_back env r x fun y hy=>hn y (List.mem_cons_of_mem _ hy)
   rw [List.map_cons] at h
   dsimp only at h
   have hk:k≠.cell:=hn (n,k) List.mem_cons_self
   cases hx:x == n with
   | true=>
     by_cases hc:(k == NameKind.free && env.scope.kind == .function && env.kindOf n == some .cell)=true
     ·simp only [Bool.and_eq_true,beq_iff_eq] at hc
      obtain ⟨⟨hc,_⟩,_⟩:=hc
      subst hc
      simp only [List.lookup_cons,hx]
     ·rw [if_neg hc] at h
      simp only [List.lookup_cons,hx] at h ⊢
      rcases h with h | h
      ·cases h; exact absurd rfl hk
      ·exact h
   | false=>
     by_cases hc:(k == NameKind.free && env.scope.kind == .function && env.kindOf n == some .cell)=true
     ·rw [if_pos hc] at h
      simp only [List.lookup_cons,hx] at h ⊢
      exact ih h
     ·rw [if_neg hc] at h
      simp only [List.lookup_cons,hx] at h ⊢
      exact ih h
structure CompSc (scope sc:Scope) (N0 xs ys:List Str) (js:List Nat):Prop where
 kind:scope.kind=.function
 nocell:∀ y ∈ scope.names,y.2≠.cell
 loc:∀ y ∈ scope.names,y.2=.local->scope.names.lookup y.1=some .local
 fr:∀ y ∈ scope.names,y.2=.free->sc.names.lookup y.1=some .cell\/sc.names.lookup y.1=some .free
 cap:ys.length=js.length/\∀ p ∈ ys.zip js,N0[p.2]?=some p.1/\scope.names.lookup p.1=some .free/\(p.1,NameKind.free) ∈ scope.names/\(sc.names.lookup p.1=some .cell\/sc.names.lookup p.1=some .free)
def sigC (k:Nat) (js:List Nat) (σ:St):St:=List.replicate k none ++ js.map fun j=>(σ[j]?).join
def cxC (X:Cx) (N:List Str) (scope:Scope) (C:Addr) (s2:Shared) (H2:Hp) (fp:List Addr):Cx where
 prog:=X.prog
 w:=X.w
 K:=X.K
 mg:=X.mg
 base:=X.base
 A:=X.A
 N:=N
 s₀:=s2
 H₀:=H2
 env:=compEnvC scope (clOf X.env.cells scope.names []) C X.env
 outer:=X.stack
 stack:=X.stack
 ex:=fp
 fn:=fun _=>false
 calm:=X.calm
 pn:=[]
 xe:=fun _ _=>False
section
variable {X:Cx} {pins:List (Addr × Obj)} {σ:St} {H:Hp} {s2:Shared} {scope sc:Scope} {N0 xs ys:List Str} {js:List Nat} {C D:Addr} {fp:List Addr} {h1:Heap} {tk:Nat}
theorem fp_stk {b:Addr} (I:Inv X pins σ H s2) (f:FpOk X pins H b):b ∉ frs X.stack:=fun hb=>by
 rcases List.mem_cons.mp (I.stkSub b hb) with e | e
 ·exact f.2.1 e
 ·exact f.2.2.1 e
theorem cxC_ok (I:Inv X pins σ H s2) (CS:CompSc scope sc N0 xs ys js) (hsc:X.env.scope=sc) (hC:s2.heap.objs.size<=C) (f:∀ b ∈ fp,FpOk X pins H b) (fl:∀ b ∈ fp,b < s2.heap.objs.size) :
 (cxC X (xs ++ ys) scope C s2 H fp).Ok where
 mod:=I.ok.mod
 kind:=CS.kind
 glob:=I.ok.glob
 blt:=I.ok.blt
 above:=hC
 inj:=fun x y c e1 e2=>I.ok.inj x y c (D6 e1) (D6 e2)
 has:=fun x hx=>by
  have hx:(relabel scope X.env).names.lookup x=some .cell\/(relabel scope X.env).names.lookup x=some .free:=hx
  have q:=relab_back (env:=X.env) CS.nocell hx
  have m:=PySem.mem_of_lookup q
  have hk:=CS.fr _ m rfl
  rw [← hsc] at hk
  obtain ⟨c,e⟩:=I.ok.has x hk
  exact ⟨c,clOf_lookup m e⟩
 cab:=fun x c e _=>by cases e
 hd:=I.ok.hd
 frames:=I.ok.frames
 stk:=.inl rfl
 exf:=fun b hb=>⟨Nat.ne_of_lt (Nat.lt_of_lt_of_le (fl b hb) hC),fun x c e=>(f b hb).2.2.2.2.1 x c (D6 e)⟩
 bs:=I.bs
 bsz:=Nat.le_trans I.ok.bsz I.sz
 noex:=fun b o e hb=>by
  rcases (f b hb).2.2.2.1 with q | q
  ·exact I.ok.noex b o e q
  ·exact absurd (Nat.lt_of_lt_of_le (Heap.lt_size e) (Nat.le_trans I.ok.bsz q)) (Nat.lt_irrefl _)
 exfs:=fun b hb=>fp_stk I (f b hb)
 funs:=I.stack
 frf:=I.stkFree
theorem inv_comp {oD:Obj} (I:Inv X pins σ H s2) (CS:CompSc scope sc N0 xs ys js) (hsc:X.env.scope=sc) (hN:X.N=N0) (f:∀ b ∈ fp,FpOk X pins H b) (fl:∀ b ∈ fp,b < s2.heap.objs.size)
 (hC:s2.heap.objs.size<=C) (hD:s2.heap.objs.size<=D) (hDC:D≠C) {m:Str->Option Value} (hns:h1.Ns C m) (old:∀ b o,s2.heap.get? b=some o->h1.get? b=some o) (hacc:h1.get? D=some oD) (hod:∀ v,oD.data≠.cell v) :
 Inv (cxC X (xs ++ ys) scope C s2 H fp) [(D,oD)] (sigC xs.length js σ) H { s2 with heap:=h1,toks:=tk } where
 ok:=cxC_ok I CS hsc hC f fl
 os:=rfl
 bare:=I.bare
 base:=Un.kept old
 loc:=by
  refine ⟨m,hns,fun i x v e1 e2 e3=>?_⟩
  have e1:(xs ++ ys)[i]?=some x:=e1
  have hi:xs.length<=i:=by
   refine Nat.le_of_not_lt fun q=>?_
   unfold sigC at e2
   rw [List.getElem?_append_left (by simpa using q),List.getElem?_replicate,if_pos q] at e2
   cases e2
  rw [List.getElem?_append_right hi] at e1
  unfold sigC at e2
  rw [List.getElem?_append_right (by simpa using hi),List.length_replicate,List.getElem?_map] at e2
  obtain ⟨j,ej⟩:∃ j,js[i - xs.length]?=some j:=by
   cases e:js[i - xs.length]? with
   | none=>rw [e] at e2; cases e2
   | some j=>exact ⟨j,rfl⟩
  rw [ej] at e2
  have e2:(σ[j]?).join=some v:=Option.some.inj e2
  have e2':σ[j]?=some (some v):=by
   cases e:σ[j]? with
   | none=>rw [e] at e2; cases e2
   | some o=>rw [e] at e2; exact congrArg some e2
  have hz:(x,j) ∈ ys.zip js:=by
   have:(ys.zip js)[i - xs.length]?=some (x,j):=by rw [List.getElem?_zip_eq_some]; exact ⟨e1,ej⟩
   exact List.mem_of_getElem? this
  obtain ⟨c1,c2,c3,c4⟩:=CS.cap.2 _ hz
  have c1:N0[j]?=some x:=c1
  have c4':X.env.kindOf x=some .cell\/X.env.kindOf x=some .free:=by
   show X.env.scope.names.lookup x=some .cell\/X.env.scope.names.lookup x=some .free
   rw [hsc]; exact c4
  obtain ⟨m0,hn0,hl0⟩:=I.loc
  obtain ⟨u,ru,lu⟩:=hl0 j x v (by rw [hN]; exact c1) e2' (.inr c4')
  refine ⟨u,ru,.inr ⟨?_,?_⟩⟩
  ·exact relab_free c2
  ·rcases lu with ⟨k,_⟩ | ⟨_,c,ec,hc⟩
   ·rcases c4' with z | z <;> (rw [k] at z; cases z)
   ·refine ⟨c,clOf_lookup c3 ec,?_⟩
    obtain ⟨o,ho,hd⟩:=hc
    exact ⟨o,old _ _ ho,hd⟩
 cell:=fun x c e=>by
  obtain ⟨v,o,ho,hd⟩:=I.cell x c (D6 e)
  exact ⟨v,o,old _ _ ho,hd⟩
 free:=I.hok.fresh hC
 freeC:=fun x c e=>I.freeC x c (D6 e)
 pin:=fun p hp=>by
  have hp:p ∈ ([]:List (Addr × Obj)) ++ [(D,oD)]:=hp
  have e:p=(D,oD):=by simpa using hp
  subst e
  refine ⟨hacc,I.hok.fresh hD,hDC,fun hb=>?_,hod⟩
  obtain ⟨_,o,ho,_⟩:=I.stack.mem (show D ∈ frs X.stack from hb)
  exact absurd (Nat.lt_of_lt_of_le (Heap.lt_size ho) hD) (Nat.lt_irrefl _)
 hok:=I.hok.kept old
 len:=by
  unfold sigC
  show _=(xs ++ ys).length
  rw [List.length_append,List.length_append,List.length_replicate,List.length_map,CS.cap.1]
end
theorem inv_reset {X:Cx} {pins pp:List (Addr × Obj)} {σ σ':St} {H H':Hp} {s2 s':Shared} {scope sc:Scope} {N0 xs ys:List Str} {js:List Nat} {C:Addr} {fp:List Addr} (I:Inv X pins σ H s2) (CS:CompSc scope sc N0 xs ys js) (hsc:X.env.scope=sc) (hN:X.N=N0)
 (f:∀ b ∈ fp,FpOk X pins H b) (J:Inv (cxC X (xs ++ ys) scope C s2 H fp) pp σ' H' s'):Inv (cxC X (xs ++ ys) scope C s2 H fp) pp (sigC xs.length js σ) H' s' where
 ok:=J.ok
 os:=J.os
 bare:=J.bare
 base:=J.base
 loc:=by
  obtain ⟨m,hns,_⟩:=J.loc
  refine ⟨m,hns,fun i x v e1 e2 e3=>?_⟩
  have e1:(xs ++ ys)[i]?=some x:=e1
  have hi:xs.length<=i:=by
   refine Nat.le_of_not_lt fun q=>?_
   unfold sigC at e2
   rw [List.getElem?_append_left (by simpa using q),List.getElem?_replicate,if_pos q] at e2
   cases e2
  rw [List.getElem?_append_right hi] at e1
  unfold sigC at e2
  rw [List.getElem?_append_right (by simpa using hi),List.length_replicate,List.getElem?_map] at e2
  obtain ⟨j,ej⟩:∃ j,js[i - xs.length]?=some j:=by
   cases e:js[i - xs.length]? with
   | none=>rw [e] at e2; cases e2
   | some j=>exact ⟨j,rfl⟩
  rw [ej] at e2
  have e2:(σ[j]?).join=some v:=Option.some.inj e2
  have e2':σ[j]?=some (some v):=by
   cases e:σ[j]? with
   | none=>rw [e] at e2; cases e2
   | some o=>rw [e] at e2; exact congrArg some e2
  have hz:(x,j) ∈ ys.zip js:=by
   have:(ys.zip js)[i - xs.length]?=some (x,j):=by rw [List.getElem?_zip_eq_some]; exact ⟨e1,ej⟩
   exact List.mem_of_getElem? this
  obtain ⟨c1,c2,c3,c4⟩:=CS.cap.2 _ hz
  have c1:N0[j]?=some x:=c1
  have c4':X.env.kindOf x=some .cell\/X.env.kindOf x=some .free:=by
   show X.env.scope.names.lookup x=some .cell\/X.env.scope.names.lookup x=some .free
   rw [hsc]; exact c4
  obtain ⟨m0,hn0,hl0⟩:=I.loc
  obtain ⟨u,ru,lu⟩:=hl0 j x v (by rw [hN]; exact c1) e2' (.inr c4')
  refine ⟨u,ru,.inr ⟨relab_free c2,?_⟩⟩
  rcases lu with ⟨k,_⟩ | ⟨_,c,ec,hc⟩
  ·rcases c4' with z | z <;> (rw [k] at z; cases z)
  ·refine ⟨c,clOf_lookup c3 ec,?_⟩
   obtain ⟨o,ho,hd⟩:=hc
   obtain ⟨sl,e⟩:=J.base.any ho (I.freeC x c ec) fun hb=>(f c hb).2.2.2.2.1 x c ec rfl
   exact ⟨_,e,hd⟩
 cell:=J.cell
 free:=J.free
 freeC:=J.freeC
 pin:=J.pin
 hok:=J.hok
 len:=by
  unfold sigC
  show _=(xs ++ ys).length
  rw [List.length_append,List.length_append,List.length_replicate,List.length_map,CS.cap.1]
def PQ (X:Cx) (ifs:List Expr) (t:TT):Prop:=
 ∀ (pins:List (Addr × Obj)) (s:Shared) (σ:St) (H:Hp) (Q:Bool->Hp->Prop),Inv X pins σ H s->t σ H Q->
  wpAny (model X.prog X.w) X.A (forIn ifs true fun c r=>if r=true then do let ok ← isTrue c X.env (eval c X.env); pure (ForInStep.yield ok) else pure (ForInStep.yield r)) (TP X pins σ Q) X.xe s
def tAlways:TT:=fun _ H Q=>Q true H
theorem B9 {X:Cx}:PQ X [] tAlways:=fun _ _ _ H _ I h=>wpAny_tests_nil ⟨H,I,h⟩
theorem pq_one {X:Cx} {c:Expr} {t:TT} (h:PT X c t):PQ X [c] t:=fun pins s σ H Q I hw=>wpAny_tests_one (h pins s σ H Q I hw)
def compW (k:Nat) (js:List Nat) (g:TG) (tc:TT) (te:TE) (σ:St) (J:It) (H1:Hp) (fin:List V->Hp->Prop):Prop:=
 ∃ W:Nat->Nat->List V->Hp->Prop,(∃ m,W 0 m [] H1)/\∀ i m ys H,W i m ys H->
  (J.stop i H/\ys.length<=sizeLine/\fin ys H)\/
  (J.go i H/\ys.length < sizeLine/\∃ N:List V->Hp->Prop,(∀ ys' H',N ys' H'->∃ m',m' < m/\W (i + 1) m' ys' H')/\∀ x H2,J.yld i H x H2->g x (sigC k js σ) H2 fun σ2 H3=>tc σ2 H3 fun b H4=>
    if b=true then te σ2 H4 fun y H5=>N (ys ++ [y]) H5 else N ys H4)
def tComp (k:Nat) (js:List Nat) (wi:TI) (g:TG) (tc:TT) (te:TE):TE:=fun σ H Q=>wi σ H fun J H1=>compW k js g tc te σ J H1 fun ys H'=>∀ p,H' p=none->Q (.ref p) (upd H' p (.lst ys))
section
variable {X:Cx} {scope sc:Scope} {N0 xs ys:List Str} {js:List Nat} {elt tg iter:Expr} {ifs:List Expr} {pos:Pos} {wi:TI} {g:TG} {tc:TT} {te:TE}
theorem lst_push (its:List Value) (y:Value):its.toArray.push y=(its ++ [y]).toArray:=by simp
theorem comp_block {pins:List (Addr × Obj)} {σ:St} {H:Hp} {s2:Shared} {it:Addr} {fp:List Addr} {tn:Nat->Heap->Prop} {J:It} {RR:Value->Addr->Result->Shared->Prop} {fin:List V->Hp->Prop} {E:Value->Shared->Prop}
 (CS:CompSc scope sc N0 xs ys js) (hsc:X.env.scope=sc) (hN:X.N=N0) (hc:X.calm=true)
 (I:Inv X pins σ H s2) (T:Turn X.prog X.w X.K tg J fp it tn) (t0:tn 0 s2.heap) (f:∀ b ∈ fp,FpOk X pins H b)
 (hg:∀ C s2 H fp,PG (cxC X (xs ++ ys) scope C s2 H fp) tg g) (hq:∀ C s2 H fp,PQ (cxC X (xs ++ ys) scope C s2 H fp) ifs tc) (he:∀ C s2 H fp,PE (cxC X (xs ++ ys) scope C s2 H fp) elt te)
 (hw:compW xs.length js g tc te σ J H fin)
 (hR:∀ (D C:Addr) (H':Hp) (vs:List V) (s':Shared),(∃ m,s'.heap.Ns C m)->Inv X pins σ (upd H' D (.lst vs)) s'->H' D=none->C≠D->H' C=none->C≠X.env.locals->X.s₀.heap.objs.size<=C->(∀ x c,X.env.cells.lookup x=some c->c≠C)->(∀ p ∈ X.pn ++ pins,p.1≠C)->fin vs H'->
   RR (.ref D) C (.ok .next) s') :
 wpAny (model X.prog X.w) X.A (newList []) (fun acc s3=>wpAny (model X.prog X.w) X.A (newFunctionEnv scope X.env.globals (clOf X.env.cells scope.names []) [] X.env.qual none .none (some X.env)) (fun cenv s4=>
  codeAny (model X.prog X.w) X.A (.compStart (.ListComp elt [⟨tg,iter,ifs,0⟩] scope pos) 0 (.ref it) acc { cenv with scope:=relabel scope X.env }) (RR acc cenv.locals) s4) E s3) E s2:=by
 obtain ⟨W,⟨m0,w0⟩,turn⟩:=hw
 have fl:∀ b ∈ fp,b < s2.heap.objs.size:=fun b hb=>by
  obtain ⟨o,e,_⟩:=T.obj 0 _ t0 b hb
  exact Heap.lt_size e
 refine wpAny_newObj_type (wpAny_newFunctionEnv CS.nocell (by intro y hy; simp at hy) (fun h1 hns1 hsb1=>?_) CS.kind)
 dsimp only at hns1 hsb1 ⊢
 generalize hH2:s2.heap.push { cls:=.type "list",dict:=none,data:=.seq ([]:List Value).toArray }=H2 at hns1 hsb1 ⊢
 have hC:H2.objs.size=s2.heap.objs.size + 1:=by rw [← hH2,Heap.size_push]
 have hDC:s2.heap.objs.size≠H2.objs.size:=by rw [hC]; exact Nat.ne_of_lt (Nat.lt_succ_self _)
 have hCle:s2.heap.objs.size<=H2.objs.size:=by rw [hC]; exact Nat.le_succ _
 have below:∀ b,b < s2.heap.objs.size->b≠H2.objs.size/\b≠s2.heap.objs.size:=fun b hb=>⟨by rw [hC]; exact Nat.ne_of_lt (Nat.lt_succ_of_lt hb),Nat.ne_of_lt hb⟩
 have old:∀ b o,s2.heap.get? b=some o->h1.get? b=some o:=fun b o e=>hsb1.extBut b o (below b (Heap.lt_size e)).1 (Heap.get?_push_of_some _ (hH2 ▸ Heap.get?_push_of_some _ e))
 have hacc:h1.get? s2.heap.objs.size=some { cls:=.type "list",data:=.seq ([]:List Value).toArray 0 }:=hsb1.extBut _ _ hDC (Heap.get?_push_of_some _ (hH2 ▸ Heap.get?_push_size _ rfl))
 have t1:tn 0 h1:=T.keep _ _ _ t0 fun b _ o e=>old b o e
 have fC:∀ {H':Hp} {oD:Obj},(∀ b ∈ fp,H' b=none)->∀ b ∈ fp,FpOk (cxC X (xs ++ ys) scope H2.objs.size s2 H fp) [(s2.heap.objs.size,oD)] H' b:=fun {H' oD} hn b hb=>
  ⟨hn b hb,(below b (fl b hb)).1,fp_stk I (f b hb),.inl hb,fun x c e=>(f b hb).2.2.2.2.1 x c (D6 e),fun p hp=>by
    have hp:p ∈ ([]:List (Addr × Obj)) ++ [(s2.heap.objs.size,oD)]:=hp
    have e:p=(s2.heap.objs.size,oD):=by simpa using hp
    subst e
    exact Ne.symm (below b (fl b hb)).2⟩
 have loop:∀ s3:Shared,s3={ s2 with heap:=h1,toks:=s2.toks + ([]:List (Str × Value)).length }->
  codeAny (model X.prog X.w) X.A (.compLoop (.ListComp elt [⟨tg,iter,ifs,0⟩] scope pos) 0 (.ref it) (.ref s2.heap.objs.size) (compEnvC scope (clOf X.env.cells scope.names []) H2.objs.size X.env))
   (RR (.ref s2.heap.objs.size) H2.objs.size) s3:=by
  rintro s3 rfl
  refine comp_loop (fun k s'=>∃ (i:Nat) (vs:List V) (its:List Value) (n:Nat) (H':Hp),Inv (cxC X (xs ++ ys) scope H2.objs.size s2 H fp) [(s2.heap.objs.size,{ cls:=.type "list",data:=.seq its.toArray n })] (sigC xs.length js σ) H' s'/\
   Vals vs its/\tn i s'.heap/\(∀ b ∈ fp,H' b=none)/\W i k vs H') ?_ m0 ⟨0,[],[],0,H,?_,.nil,t1,fun b hb=>(f b hb).1,w0⟩
  ·rintro k s3 ⟨i,vs,its,n,H3,I3,rv,t3,fr3,w3⟩
   have hno:∀ (e:Value) (s':Shared),False->notedBy (model X.prog X.w) X.A (compEnvC scope (clOf X.env.cells scope.names []) H2.objs.size X.env) (fun e s'=>RR (.ref s2.heap.objs.size) H2.objs.size (.error e) s') e s':=fun _ _ z=>z.elim
   rcases turn i k vs H3 w3 with ⟨stop,hz,fn⟩ | ⟨go,hz,N,hN',step⟩
   ·refine wpAny_mono (T.done (cxC X (xs ++ ys) scope H2.objs.size s2 H fp) rfl rfl rfl hc i _ s3 _ H3 (fun _ _=>False) I3 (fC fr3) t3 stop) (fun r s4 ⟨hr,I4⟩=>?_) hno
    subst hr
    have pD:=I4.pin (s2.heap.objs.size,_) (List.mem_append_right _ List.mem_cons_self)
    obtain ⟨mC,hnC,_⟩:=I4.loc
    have u4:Un (frs X.stack) fp H (upd H3 s2.heap.objs.size (.lst vs)) s2.heap s4.heap:=
     ⟨I4.base.keep,I4.base.slot,fun b o e n hb=>by rw [Aj (below b (Heap.lt_size e)).2]; exact I4.base.free b o e n hb,I4.base.there,
       fun b x e=>by rw [Aj (below b (I.hok.lt e)).2]; exact I4.base.tups b x e,fun b o x e=>by rw [Aj (below b (I.hok.lt e)).2]; exact I4.base.frzs b o x e,
       fun b p e=>by rw [Aj (below b (I.hok.lt e)).2]; exact I4.base.tbls b p e⟩
    have hk4:HOk X.prog X.w (upd H3 s2.heap.objs.size (.lst vs)) s4.heap:=fun b o e=>by
     by_cases hb:b=s2.heap.objs.size
     ·subst hb
      rw [Ag] at e
      cases e
      exact ⟨hz,its,n,rv,pD.1⟩
     ·rw [Aj hb] at e
      exact (I4.hok b o e).stay (fun _ _ _ q=>q) (fun c q=>by rw [Aj (Ah q pD.2.1)]; exact q) fun c x q=>by rw [Aj (Ah q pD.2.1)]; exact q
    refine hR _ _ H3 vs s4 ⟨mC,hnC⟩ (I.call' I4.os u4 hk4 I4.bare fun b hb=>⟨(f b hb).2.2.2.1,(f b hb).2.1,(f b hb).2.2.2.2.1,(f b hb).2.2.2.2.2⟩) pD.2.1 (Ne.symm hDC) I4.free ?_ ?_ ?_ ?_ fn
    ·exact Ne.symm (below _ I.lt).1
    ·exact Nat.le_trans I.sz hCle
    ·intro x c e
     obtain ⟨v,o,ho,_⟩:=I.cell x c e
     exact (below c (Heap.lt_size ho)).1
    ·intro p hp
     exact (below p.1 (Heap.lt_size (I.pin p hp).1)).1
   ·refine wpAny_mono (T.item (cxC X (xs ++ ys) scope H2.objs.size s2 H fp) rfl rfl rfl hc i _ s3 _ H3 (fun _ _=>False) I3 (fC fr3) t3 go) (fun r s4 ⟨u,hr,h4⟩=>?_) hno
    subst hr
    refine wpAny_mono h4 (fun _ s5 ⟨x,H5,I5,r5,y5,t5,fr5⟩=>?_) hno
    have I5':=I5.pinned (fC fr5) (T.obj _ _ t5)
    refine wpAny_mono (hg H2.objs.size s2 H fp _ s5 _ H5 x u _ I5' r5 (step x H5 y5)) (fun _ s6 ⟨σ6,H6,I6,q6⟩=>?_) hno
    refine wpAny_mono (hq H2.objs.size s2 H fp _ s6 σ6 H6 _ I6 q6) (fun b s7 ⟨H7,I7,q7⟩=>?_) hno
    have keepI:∀ {σ':St} {H':Hp} {s':Shared},Inv (cxC X (xs ++ ys) scope H2.objs.size s2 H fp) ([(s2.heap.objs.size,{ cls:=.type "list",data:=.seq its.toArray n })] ++ pinsAt fp s5.heap) σ' H' s'->tn (i + 1) s'.heap/\∀ b ∈ fp,H' b=none:=fun {σ' H' s'} J'=>
     ⟨T.keep _ _ _ t5 fun b hb o e=>(J'.pin (b,o) (List.mem_append_right _ (List.mem_append_right _ (mem_pinsAt hb e)))).1,fun b hb=>by
       obtain ⟨o,e,d⟩:=T.obj _ _ t5 b hb
       exact (J'.pin (b,o) (List.mem_append_right _ (List.mem_append_right _ (mem_pinsAt hb e)))).2.1⟩
    cases b with
    | false=>
      obtain ⟨m',hm,w7⟩:=hN' _ _ q7
      exact ⟨m',hm,i + 1,vs,its,n,H7,inv_reset I CS hsc hN f I7.unpinned,rv,(keepI I7).1,(keepI I7).2,w7⟩
    | true=>
      refine wpAny_mono (he H2.objs.size s2 H fp _ s7 σ6 H7 _ I7 q7) (fun y s8 ⟨yv,H8,I8,r8,n8⟩=>?_) hno
      obtain ⟨m',hm,w8⟩:=hN' _ _ n8
      have pD:=I8.pin (s2.heap.objs.size,_) (List.mem_append_right _ (List.mem_append_left _ List.mem_cons_self))
      refine append_at (hsz:=by show its.toArray.size<=sizeLine; rw [List.size_toArray,← rv.length]; exact Nat.le_of_lt hz) pD.1 fun h9 hs9 hD9=>?_
      have hD9':h9.get? s2.heap.objs.size=some { cls:=.type "list",data:=.seq (its ++ [y]).toArray (n + 1) }:=by rw [hD9,lst_push]
      have J8:=inv_reset I CS hsc hN f I8.unpinned
      have hDf:s2.heap.objs.size ∉ fp:=fun hb=>Nat.lt_irrefl _ (fl _ hb)
      refine ⟨m',hm,i + 1,vs ++ [yv],its ++ [y],n + 1,H8,?_,rv.append (.cons r8 .nil),T.keep _ _ _ (keepI I8).1 fun b hb o e=>hs9.extBut b o (fun q=>hDf (q ▸ hb)) e,(keepI I8).2,w8⟩
      have J9:Inv (cxC X (xs ++ ys) scope H2.objs.size s2 H fp) [] (sigC xs.length js σ) H8 s8:=J8.pins_of fun p hp=>absurd hp (by simp)
      have J9':Inv (cxC X (xs ++ ys) scope H2.objs.size s2 H fp) [] (sigC xs.length js σ) H8 { s8 with heap:=h9,toks:=s8.toks }:=J9.turned (it:=s2.heap.objs.size) (fun b o hb e=>hs9.extBut b o hb e) pD.2.1 hDC (.inr (Nat.le_refl _))
       (fun x c e z=>by
         obtain ⟨v,o,ho,_⟩:=I.cell x c (D6 e)
         exact (below c (Heap.lt_size ho)).2 z) (fun p hp=>absurd (show p ∈ ([]:List (Addr × Obj)) ++ [] from hp) (by simp))
      refine J9'.pins_of fun p hp=>?_
      have e:p=(s2.heap.objs.size,{ cls:=.type "list",data:=.seq (its ++ [y]).toArray (n + 1) }):=by simpa using hp
      subst e
      exact ⟨hD9',pD.2.1,hDC,pD.2.2.2.1,fun v z=>by cases z⟩
  ·exact inv_comp (fp:=fp) I CS hsc hN f fl hCle (Nat.le_refl _) hDC hns1 old hacc (fun v z=>by cases z)
 exact codeAny_compStart_list (loop _ rfl) (T.self X.A 0 _ _ _ t1 (loop _ rfl))
theorem comp_clos (ok:X.Ok) (CS:CompSc scope sc N0 xs ys js) (hsc:X.env.scope=sc):closureFor scope X.env=pure (clOf X.env.cells scope.names []):=clos_ok fun y hy e=>by
 have h:=CS.fr y hy e
 rw [← hsc] at h
 exact ok.has y.1 h
theorem inv_gone {pins:List (Addr × Obj)} {σ:St} {H:Hp} {s:Shared} {C:Addr} {h':Heap} (I:Inv X pins σ H s) (hn:H C=none) (hL:C≠X.env.locals) (h0:X.s₀.heap.objs.size<=C) (hcl:∀ x c,X.env.cells.lookup x=some c->c≠C) (hp:∀ p ∈ X.pn ++ pins,p.1≠C)
 (hs:Heap.SameBut C s.heap h'):Inv X pins σ H { s with heap:=h' }:=I.turned (t':=s.toks) (it:=C) (fun b o hb e=>hs.extBut b o hb e) hn hL (.inr h0) hcl hp
theorem Bz (CS:CompSc scope sc N0 xs ys js) (hc:X.calm=true) (hi:PI X tg iter wi) (hg:∀ C s2 H fp,PG (cxC X (xs ++ ys) scope C s2 H fp) tg g) (hq:∀ C s2 H fp,PQ (cxC X (xs ++ ys) scope C s2 H fp) ifs tc)
 (he:∀ C s2 H fp,PE (cxC X (xs ++ ys) scope C s2 H fp) elt te) (hsc:X.env.scope=sc:=by rfl) (hN:X.N=N0:=by rfl) (hs:∀ x,foldedSetIterable iter X.env x=pure x:=by intro _; rfl) :
 PE X (.ListComp elt [⟨tg,iter,ifs,0⟩] scope pos) (tComp xs.length js wi g tc te):=by
 intro pins s σ H Q I h
 rw [eval_ListComp]
 refine wpAny_comprehension_free (use:=none) rfl hs (comp_clos I.ok CS hsc) CS.kind CS.loc (thn (hi pins s σ H _ I h) fun v s1 h1=>thn h1 fun itv s2 h2=>?_)
 obtain ⟨it,fp,tn,J,H2,e,I2,T,t2,f2,hw⟩:=h2
 subst e
 refine comp_block (RR:=fun acc C=>compPost (model X.prog X.w) X.A X.xe none (EP X pins σ Q) acc C) CS hsc hN hc I2 T t2 f2 hg hq he hw ?_
 intro D C H' vs s' hm I' hD hCD hC hL h0 hcl hp fn
 obtain ⟨m,hm⟩:=hm
 refine ⟨m,hm,fun h' hs'=>⟨.ref D,_,inv_gone I' (by rw [Aj hCD]; exact hC) hL h0 hcl hp hs',rfl,fn D hD⟩⟩
theorem ps_setComp {i:Nat} {y:Str} {py spos:Pos} (CS:CompSc scope sc N0 xs ys js) (hc:X.calm=true) (hNd:X.N.Nodup) (hiy:X.N[i]?=some y) (hy:X.env.scope.names.lookup y=some .local)
 (hi:PI X tg iter wi) (hg:∀ C s2 H fp,PG (cxC X (xs ++ ys) scope C s2 H fp) tg g) (hq:∀ C s2 H fp,PQ (cxC X (xs ++ ys) scope C s2 H fp) ifs tc)
 (he:∀ C s2 H fp,PE (cxC X (xs ++ ys) scope C s2 H fp) elt te) (hsc:X.env.scope=sc:=by rfl) (hN:X.N=N0:=by rfl) (hs:∀ x,foldedSetIterable iter X.env x=pure x:=by intro _; rfl)
 (hsw:swapsWith (.ListComp elt [⟨tg,iter,ifs,0⟩] scope pos) (some (.Name y py)) spos.line X.env=pure true:=by rfl) :
 PS X (.Assign [.Name y py] (.ListComp elt [⟨tg,iter,ifs,0⟩] scope pos) spos) (tAsg (tComp xs.length js wi g tc te) (gName i)):=by
 intro pins s σ H Dn I h
 rw [exec_Assign_Name_used _ _ _ _ hsw]
 refine wpAny_bind (wpAny_standAt (wpAny_bind ?_))
 show wpAny _ X.A (do let _ ← comprehension (.ListComp elt [⟨tg,iter,ifs,0⟩] scope pos) scope X.env _ (newList []) false (eval iter X.env) (some (assign (.Name y py) X.env))) _ _ s
 refine wpAny_bind (wpAny_mono (wpAny_comprehension_free (use:=some (assign (.Name y py) X.env)) (Q:=fun _ s'=>SP X pins Dn .next s') rfl hs (comp_clos I.ok CS hsc) CS.kind CS.loc
  (thn (hi pins s σ H _ I h) fun v s1 h1=>thn h1 fun itv s2 h2=>?_)) (fun _ s' hq=>wpAny_pure (wpAny_pure hq)) fun _ _ e=>e)
 obtain ⟨it,fp,tn,J,H2,e,I2,T,t2,f2,hw⟩:=h2
 subst e
 refine comp_block (RR:=fun acc C=>compPost (model X.prog X.w) X.A X.xe (some (assign (.Name y py) X.env)) (fun _ s'=>SP X pins Dn .next s') acc C) CS hsc hN hc I2 T t2 f2 hg hq he hw ?_
 intro D C H' vs s' hm I' hD hCD hC hL h0 hcl hp fn
 obtain ⟨m,hm⟩:=hm
 show wpAny _ X.A (assign (.Name y py) X.env (.ref D)) _ _ _
 refine wpAny_assign_Name (store_ok2 (v:=.ref D) I' hNd hiy (.inl hy) rfl (fun s2 I2 hch=>?_) (.inr hy))
 obtain ⟨a,sb,ha⟩:=hch
 have hCa:C≠a:=by
  rcases ha with ha | ha
  ·rw [ha]; exact hL
  ·exact fun z=>hcl y a ha z.symm
 refine ⟨m,hm.sameBut sb hCa,fun h' hs'=>?_⟩
 exact ⟨_,_,inv_gone I2 (by rw [Aj hCD]; exact hC) hL h0 hcl hp hs',fn D hD⟩
end
section
variable {k:Nat} {js:List Nat} {g:TG} {tc:TT} {te:TE} {σ:St} {fin:List V->Hp->Prop} {H:Hp}
theorem comp_range {lo:Int} {n:Nat} (Pv:Nat->List V->Hp->Prop) (h0:Pv 0 [] H) (hn:n<=sizeLine) (hl:∀ i ys H,Pv i ys H->ys.length<=i)
 (hs:∀ i ys H,i < n->Pv i ys H->g (.int (lo + i)) (sigC k js σ) H fun σ2 H3=>tc σ2 H3 fun b H4=>if b=true then te σ2 H4 fun y H5=>Pv (i + 1) (ys ++ [y]) H5 else Pv (i + 1) ys H4)
 (hd:∀ ys H,Pv n ys H->fin ys H):compW k js g tc te σ (Itr lo n) H fin:=by
 refine ⟨fun i m ys H=>m=n - i/\i<=n/\Pv i ys H,⟨n,by simp,Nat.zero_le _,h0⟩,?_⟩
 rintro i m ys H ⟨rfl,hi,p⟩
 have hy:=hl i ys H p
 by_cases hlt:i < n
 ·refine .inr ⟨hlt,by omega,Pv (i + 1),fun ys' H' p'=>⟨n - (i + 1),by omega,rfl,hlt,p'⟩,fun x H' y=>?_⟩
  obtain ⟨e,y⟩:=y
  subst e y
  exact hs i ys _ hlt p
 ·have e:i=n:=by omega
  subst e
  exact .inl ⟨Nat.le_refl _,by omega,hd ys H p⟩
theorem Br {K:PySem.W.Frag} {a:Addr} {xs:List V} (Pv:Nat->List V->Hp->Prop) (h0:Pv 0 [] H) (hn:xs.length<=sizeLine) (hl:∀ i ys H,Pv i ys H->ys.length<=i) (hq:∀ i ys H,i<=xs.length->Pv i ys H->SqL K H a xs)
 (hs:∀ i x ys H,xs[i]?=some x->Pv i ys H->g x (sigC k js σ) H fun σ2 H3=>tc σ2 H3 fun b H4=>if b=true then te σ2 H4 fun y H5=>Pv (i + 1) (ys ++ [y]) H5 else Pv (i + 1) ys H4)
 (hd:∀ ys H,Pv xs.length ys H->fin ys H):compW k js g tc te σ (Itl K a) H fin:=by
 refine ⟨fun i m ys H=>m=xs.length - i/\i<=xs.length/\Pv i ys H,⟨xs.length,by simp,Nat.zero_le _,h0⟩,?_⟩
 rintro i m ys H ⟨rfl,hi,p⟩
 have hy:=hl i ys H p
 have q:=hq i ys H hi p
 by_cases hlt:i < xs.length
 ·refine .inr ⟨⟨xs,xs[i],q,by simp [hlt]⟩,by omega,Pv (i + 1),fun ys' H' p'=>⟨xs.length - (i + 1),by omega,rfl,hlt,p'⟩,fun x H' y=>?_⟩
  obtain ⟨e,y⟩:=y
  subst e
  exact hs i x ys _ (y xs q) p
 ·have e:i=xs.length:=by omega
  subst e
  exact .inl ⟨⟨xs,q,Nat.le_refl _⟩,by omega,hd ys H p⟩
theorem comp_tup {K:PySem.W.Frag} {a:Addr} {xs:List V} (Pv:Nat->List V->Hp->Prop) (h0:Pv 0 [] H) (hn:xs.length<=sizeLine) (hl:∀ i ys H,Pv i ys H->ys.length<=i) (hq:∀ i ys H,i<=xs.length->Pv i ys H->SqT K H a xs)
 (hs:∀ i x ys H,xs[i]?=some x->Pv i ys H->g x (sigC k js σ) H fun σ2 H3=>tc σ2 H3 fun b H4=>if b=true then te σ2 H4 fun y H5=>Pv (i + 1) (ys ++ [y]) H5 else Pv (i + 1) ys H4)
 (hd:∀ ys H,Pv xs.length ys H->fin ys H):compW k js g tc te σ (Itt K a) H fin:=by
 refine ⟨fun i m ys H=>m=xs.length - i/\i<=xs.length/\Pv i ys H,⟨xs.length,by simp,Nat.zero_le _,h0⟩,?_⟩
 rintro i m ys H ⟨rfl,hi,p⟩
 have hy:=hl i ys H p
 have q:=hq i ys H hi p
 by_cases hlt:i < xs.length
 ·refine .inr ⟨⟨xs,xs[i],q,by simp [hlt]⟩,by omega,Pv (i + 1),fun ys' H' p'=>⟨xs.length - (i + 1),by omega,rfl,hlt,p'⟩,fun x H' y=>?_⟩
  obtain ⟨e,y⟩:=y
  subst e
  exact hs i x ys _ (y xs q) p
 ·have e:i=xs.length:=by omega
  subst e
  exact .inl ⟨⟨xs,q,Nat.le_refl _⟩,by omega,hd ys H p⟩
end
def CDivB (i j:Int):Prop:=0 < j/\j < 10000000000000000000000000000000000000000
theorem cdivB_no {i j:Int} (h:CDivB i j):Builtin.divisionGoesByPylong i j=false:=by
 obtain ⟨h1,h2⟩:=h
 refine PyProof.noPylong_of_log2 ?_
 have h0:j.natAbs≠0:=by omega
 have h3:j.natAbs < 2 ^ 200:=by
  have e:(2:Nat) ^ 200=1606938044258990275541962092341162602522202993782792835301376:=by decide
  rw [e]
  omega
 have:=(Nat.log2_lt h0).mpr h3
 omega
section
variable {X:Cx}
theorem op_fdivB:OpR X (binaryOp .FloorDiv) (rI CDivB fun i j=>.int (i / j)):=opI fun i j _ _ _ _ _ hc q=>by
 have h1:(0:Int) < j:=hc.1
 exact floordiv_int (by omega) (by rw [Int.fdiv_eq_ediv_of_nonneg i (by omega)]; exact q) (.inl (cdivB_no hc))
def clsV:V->Option Value
 | .ty n=>some (.type n)
 | .ref C=>some (.ref C)
 | _=>none
theorem clsV_rel {c:V} {cv u:Value} (h:clsV c=some cv) (r:RelV c u):u=cv:=by
 cases c with
 | ty n=>cases h; exact r
 | ref C=>cases h; exact r
 | _=>cases h
theorem call_isinst:CallR X (.builtin "isinstance") (fun xs H Q=>∃ x c t cv b,xs=[x,c]/\clsV c=some cv/\TyOf X.K H x t/\PySem.W.kitOne X.K t cv=some b/\Q (.bl b) H):=by
 intro pins s σ H xs us Q I r h
 obtain ⟨x,c,t,cv,b,rfl,hc,ht,hk,q⟩:=h
 obtain ⟨u,w',rfl,rx,rc⟩:=vals2 r
 have e:=clsV_rel hc rc
 subst e
 exact isinst_ok I rx ht hk fun tk=>⟨.bl b,H,I.tok _,rfl,q⟩
theorem kit_same {K:PySem.W.Frag} {n:String}:PySem.W.kitOne K (.type n) (.type n)=some true:=by
 unfold PySem.W.kitOne
 rw [if_pos (beq_self_eq_true _)]
theorem B7 {K:PySem.W.Frag} {a c:String} {b:Bool} (h1:(Value.type a == Value.type c)=false) (h2:PySem.W.kitMeta c=true) (h3:(fastBuiltinMro a).map (·.contains (Value.type c))=some b) :
 PySem.W.kitOne K (.type a) (.type c)=some b:=by
 unfold PySem.W.kitOne
 rw [if_neg (by rw [h1]; exact Bool.false_ne_true)]
 show (if PySem.W.kitMeta c=true then PySem.W.subIn K (.type a) (.type c) else none)=some b
 rw [if_pos h2]
 exact h3
section
variable {K:PySem.W.Frag}
theorem kit_bool_int:PySem.W.kitOne K (.type "bool") (.type "int")=some true:=B7 (by decide +kernel) (by decide +kernel) (by decide +kernel)
theorem kit_none_int:PySem.W.kitOne K (.type "NoneType") (.type "int")=some false:=B7 (by decide +kernel) (by decide +kernel) (by decide +kernel)
theorem kit_str_int:PySem.W.kitOne K (.type "str") (.type "int")=some false:=B7 (by decide +kernel) (by decide +kernel) (by decide +kernel)
theorem kit_list_int:PySem.W.kitOne K (.type "list") (.type "int")=some false:=B7 (by decide +kernel) (by decide +kernel) (by decide +kernel)
theorem kit_tuple_int:PySem.W.kitOne K (.type "tuple") (.type "int")=some false:=B7 (by decide +kernel) (by decide +kernel) (by decide +kernel)
theorem kit_dict_int:PySem.W.kitOne K (.type "dict") (.type "int")=some false:=B7 (by decide +kernel) (by decide +kernel) (by decide +kernel)
theorem Ek:PySem.W.kitOne K (.type "int") (.type "bool")=some false:=B7 (by decide +kernel) (by decide +kernel) (by decide +kernel)
theorem kit_none_bool:PySem.W.kitOne K (.type "NoneType") (.type "bool")=some false:=B7 (by decide +kernel) (by decide +kernel) (by decide +kernel)
theorem kit_str_bool:PySem.W.kitOne K (.type "str") (.type "bool")=some false:=B7 (by decide +kernel) (by decide +kernel) (by decide +kernel)
theorem kit_list_bool:PySem.W.kitOne K (.type "list") (.type "bool")=some false:=B7 (by decide +kernel) (by decide +kernel) (by decide +kernel)
theorem kit_tuple_bool:PySem.W.kitOne K (.type "tuple") (.type "bool")=some false:=B7 (by decide +kernel) (by decide +kernel) (by decide +kernel)
theorem kit_dict_bool:PySem.W.kitOne K (.type "dict") (.type "bool")=some false:=B7 (by decide +kernel) (by decide +kernel) (by decide +kernel)
theorem kit_int_str:PySem.W.kitOne K (.type "int") (.type "str")=some false:=B7 (by decide +kernel) (by decide +kernel) (by decide +kernel)
theorem kit_bool_str:PySem.W.kitOne K (.type "bool") (.type "str")=some false:=B7 (by decide +kernel) (by decide +kernel) (by decide +kernel)
theorem kit_none_str:PySem.W.kitOne K (.type "NoneType") (.type "str")=some false:=B7 (by decide +kernel) (by decide +kernel) (by decide +kernel)
theorem kit_list_str:PySem.W.kitOne K (.type "list") (.type "str")=some false:=B7 (by decide +kernel) (by decide +kernel) (by decide +kernel)
theorem kit_tuple_str:PySem.W.kitOne K (.type "tuple") (.type "str")=some false:=B7 (by decide +kernel) (by decide +kernel) (by decide +kernel)
theorem kit_dict_str:PySem.W.kitOne K (.type "dict") (.type "str")=some false:=B7 (by decide +kernel) (by decide +kernel) (by decide +kernel)
theorem kit_int_tuple:PySem.W.kitOne K (.type "int") (.type "tuple")=some false:=B7 (by decide +kernel) (by decide +kernel) (by decide +kernel)
theorem kit_bool_tuple:PySem.W.kitOne K (.type "bool") (.type "tuple")=some false:=B7 (by decide +kernel) (by decide +kernel) (by decide +kernel)
theorem kit_none_tuple:PySem.W.kitOne K (.type "NoneType") (.type "tuple")=some false:=B7 (by decide +kernel) (by decide +kernel) (by decide +kernel)
theorem kit_list_tuple:PySem.W.kitOne K (.type "list") (.type "tuple")=some false:=B7 (by decide +kernel) (by decide +kernel) (by decide +kernel)
theorem kit_str_tuple:PySem.W.kitOne K (.type "str") (.type "tuple")=some false:=B7 (by decide +kernel) (by decide +kernel) (by decide +kernel)
theorem kit_dict_tuple:PySem.W.kitOne K (.type "dict") (.type "tuple")=some false:=B7 (by decide +kernel) (by decide +kernel) (by decide +kernel)
end
inductive Kd where
 | non | bl | int | str | lst | tup | dct
 deriving DecidableEq
def Kd.nm:Kd->String
 | .non=>"NoneType" | .bl=>"bool" | .int=>"int" | .str=>"str" | .lst=>"list" | .tup=>"tuple" | .dct=>"dict"
def KdOf (K:PySem.W.Frag) (H:Hp) (x:V) (k:Kd):Prop:=TyOf K H x (.type k.nm)
def Kd.isA:Kd->Kd->Bool
 | .bl,.int=>true
 | a,b=>decide (a=b)
theorem kit_kd {K:PySem.W.Frag} {a c:Kd} (hc:c=.int\/c=.bl\/c=.str\/c=.tup):PySem.W.kitOne K (.type a.nm) (.type c.nm)=some (a.isA c):=by
 rcases hc with rfl | rfl | rfl | rfl
 ·cases a <;> first | exact kit_same | exact kit_bool_int | exact kit_none_int | exact kit_str_int | exact kit_list_int | exact kit_tuple_int | exact kit_dict_int
 ·cases a <;> first | exact kit_same | exact Ek | exact kit_none_bool | exact kit_str_bool | exact kit_list_bool | exact kit_tuple_bool | exact kit_dict_bool
 ·cases a <;> first | exact kit_same | exact kit_int_str | exact kit_none_str | exact kit_bool_str | exact kit_list_str | exact kit_tuple_str | exact kit_dict_str
 ·cases a <;> first | exact kit_same | exact kit_int_tuple | exact kit_none_tuple | exact kit_bool_tuple | exact kit_list_tuple | exact kit_str_tuple | exact kit_dict_tuple
theorem D7 (c:Kd) (hc:c=.int\/c=.bl\/c=.str\/c=.tup):CallR X (.builtin "isinstance") (fun xs H Q=>∃ x k,xs=[x,.ty c.nm]/\KdOf X.K H x k/\Q (.bl (k.isA c)) H):=by
 intro pins s σ H xs us Q I r h
 obtain ⟨x,k,rfl,hk,q⟩:=h
 exact call_isinst pins s σ H _ us Q I r ⟨x,_,_,_,_,rfl,rfl,hk,kit_kd hc,q⟩
end
def Its (x:Str):It:=⟨fun i _=>i < x.cps.size,fun i H v H'=>H'=H/\∃ c,x.cps[i]?=some c/\v=.str ⟨#[c]⟩,fun i _=>i=x.cps.size⟩
theorem turn_str {P:Program} {w:World} {K:PySem.W.Frag} {tg:Expr} (it:Addr) (ty:String) (x:Str) (t:Tok) (hty:["enumerate","zip","dict_itemiterator","dict_reverseitemiterator","odict_iterator","itertools.zip_longest","itertools.pairwise"].contains ty=false)
 (W:∀ A':Around,A'.handled=none->Walks P w A' it [it] [it] x.cps.size (SignAt x) (fun i h=>h.IsStrIter it ty x t i))
 (slf:∀ (A:Around) (i:Nat) (s:Shared) (Q:Value->Shared->Prop) (E:Value->Shared->Prop),s.heap.IsStrIter it ty x t i->Q (.ref it) s->wpAny (model P w) A (pyIter (.ref it)) Q E s) :
 Turn P w K tg (Its x) [it] it (fun i h=>h.IsStrIter it ty x t i) where
 mem:=by simp
 obj:=fun i h st b hb=>by
  have e:b=it:=by simpa using hb
  subst e
  obtain ⟨o,e,c,d⟩:=st
  exact ⟨o,e,fun v z=>by rw [d] at z; cases z⟩
 keep:=fun i h h' st k=>by
  obtain ⟨o,e,r⟩:=st
  exact ⟨o,k it (by simp) o e,r⟩
 item:=by
  intro X hP hw hK hc i pins s σ H E I hf st hg
  subst hP hw hK
  obtain ⟨f0,f1,f2,f3,f4,f5⟩:=hf it (by simp)
  refine (W X.A (I.ok.hd hc)).item i s _ _ hg st fun v h' tk hv st' kk=>?_
  obtain ⟨c,u,ec,rfl⟩:=hv
  have I1:Inv X pins σ H { s with heap:=h',toks:=tk }:=I.turned (fun b o hb e=>kk b o (by simpa using hb) e) f0 f1 f3 f4 f5
  obtain ⟨o,e,cc,d⟩:=id st'
  exact ⟨_,rfl,go_of (s:={ s with heap:=h',toks:=tk }) e cc d hty ⟨.str ⟨#[c]⟩,H,I1,⟨u,rfl⟩,⟨rfl,c,ec,rfl⟩,st',fun b hb=>(hf b hb).1⟩⟩
 done:=by
  intro X hP hw hK hc i pins s σ H E I hf st hg
  subst hP hw hK
  obtain ⟨f0,f1,f2,f3,f4,f5⟩:=hf it (by simp)
  have e:i=x.cps.size:=hg
  subst e
  exact (W X.A (I.ok.hd hc)).done s _ _ st fun h' tk kk=>⟨rfl,I.turned (fun b o hb e=>kk b o (by simpa using hb) e) f0 f1 f3 f4 f5⟩
 self:=slf
def iStr (tl:TE):TI:=fun σ H R=>tl σ H fun x H1=>∃ z,x=.str z/\R (Its z) H1
section
variable {X:Cx} {tg:Expr}
theorem pi_str {l:Expr} {tl:TE} (hl:PE X l tl):PI X tg l (iStr tl):=by
 intro pins s σ H R I h
 refine thn (hl pins s σ H _ I h) fun v s1 ⟨x,H1,I1,r1,q1⟩=>?_
 obtain ⟨z,e,q⟩:=q1
 subst e
 obtain ⟨t,rfl⟩:=r1
 have fp:∀ b ∈ [s1.heap.objs.size],FpOk X pins H1 b:=fun b hb=>by
  have e:b=s1.heap.objs.size:=by simpa using hb
  subst e
  exact I1.fpOk (Nat.le_refl _) (I1.hok.fresh (Nat.le_refl _))
 cases ha:z.cps.all (· < 128)
 ·refine wpAny_pyIter_wide ha ?_
  exact ⟨s1.heap.objs.size,[s1.heap.objs.size],_,_,H1,rfl,I1.kept (t':=s1.toks) fun b o e=>Heap.get?_push_of_some _ e,turn_str _ _ z t (by decide) (fun A' hA=>Walks.strWide hA _ z t) (fun _ _ _ _ _ st h=>wpAny_pyIter_striter_wide st h),
   ⟨_,Heap.get?_push_size _ rfl,rfl,rfl⟩,fp,q⟩
 ·refine wpAny_pyIter_ascii ha ?_
  exact ⟨s1.heap.objs.size,[s1.heap.objs.size],_,_,H1,rfl,I1.kept (t':=s1.toks) fun b o e=>Heap.get?_push_of_some _ e,turn_str _ _ z t (by decide) (fun A' hA=>Walks.strAscii hA _ z t) (fun _ _ _ _ _ st h=>wpAny_pyIter_striter_ascii st h),
   ⟨_,Heap.get?_push_size _ rfl,rfl,rfl⟩,fp,q⟩
def sgn (x:Str) (i:Nat):Str:=⟨#[x.cps.getD i 0]⟩
theorem comp_str {k:Nat} {js:List Nat} {g:TG} {tc:TT} {te:TE} {σ:St} {fin:List V->Hp->Prop} {H:Hp} {z:Str} (Pv:Nat->List V->Hp->Prop) (h0:Pv 0 [] H) (hn:z.cps.size<=sizeLine) (hl:∀ i ys H,Pv i ys H->ys.length<=i)
 (hs:∀ i ys H,i < z.cps.size->Pv i ys H->g (.str (sgn z i)) (sigC k js σ) H fun σ2 H3=>tc σ2 H3 fun b H4=>if b=true then te σ2 H4 fun y H5=>Pv (i + 1) (ys ++ [y]) H5 else Pv (i + 1) ys H4)
 (hd:∀ ys H,Pv z.cps.size ys H->fin ys H):compW k js g tc te σ (Its z) H fin:=by
 refine ⟨fun i m ys H=>m=z.cps.size - i/\i<=z.cps.size/\Pv i ys H,⟨z.cps.size,by simp,Nat.zero_le _,h0⟩,?_⟩
 rintro i m ys H ⟨rfl,hi,p⟩
 have hy:=hl i ys H p
 by_cases hlt:i < z.cps.size
 ·refine .inr ⟨hlt,by omega,Pv (i + 1),fun ys' H' p'=>⟨z.cps.size - (i + 1),by omega,rfl,hlt,p'⟩,fun x H' y=>?_⟩
  obtain ⟨e,c,ec,ex⟩:=y
  subst e ex
  have hh:=hs i ys _ hlt p
  have e2:sgn z i=⟨#[c]⟩:=by unfold sgn; rw [Array.getD_eq_getD_getElem?,ec]; rfl
  rw [e2] at hh
  exact hh
 ·have e:i=z.cps.size:=by omega
  subst e
  exact .inl ⟨rfl,by omega,hd ys H p⟩
theorem vals_bl:∀ {bs:List Bool} {its:List Value},Vals (bs.map V.bl) its->its=bs.map Value.bool
 | [],_,.nil=>rfl
 | b :: bs,_,.cons r t=>by
   cases r
   rw [vals_bl t]
   rfl
theorem C4 (hc:X.calm=true):CallR X (.builtin "all") (fun xs H Q=>∃ (p:Addr) (bs:List Bool),xs=[.ref p]/\SqL X.K H p (bs.map V.bl)/\Q (.bl (bs.all id)) H):=by
 intro pins s σ H xs us Q I r h
 obtain ⟨p,bs,rfl,hq,q⟩:=h
 obtain ⟨u,rfl,ru⟩:=vals1 r
 cases ru
 obtain ⟨its,rv,pl,hz⟩:=I.list hq
 have e:=vals_bl rv
 subst e
 have hlt:p < s.heap.objs.size:=by obtain ⟨o,n,e,_⟩:=pl; exact Heap.lt_size e
 refine call_all_walk (wpAny_pyIter_list pl.isList ?_)
 refine ⟨s.heap.objs.size,_,[s.heap.objs.size],_,_,_,fun i=>bs.getD i true,rfl,Walks.list (A:=X.A.in1) (show X.A.in1.handled=none from I.ok.hd hc) s.heap.objs.size p (Nat.ne_of_lt hlt) (bs.map Value.bool).toArray,⟨⟨_,Heap.get?_push_size _ rfl,rfl,rfl⟩,pl.isList.push _⟩,?_,fun h' tk hk=>?_⟩
 ·intro i v s' Q' E' hP hQ'
  have hP:((bs.map Value.bool).toArray)[i]?=some v:=hP
  rw [List.getElem?_toArray,List.getElem?_map] at hP
  cases e:bs[i]? with
  | none=>rw [e] at hP; cases hP
  | some b=>
    rw [e] at hP
    cases hP
    refine wpAny_truthy_bool ?_
    have e':bs.getD i true=b:=by rw [List.getD_eq_getElem?_getD,e]; rfl
    have hQ':Q' (bs.getD i true) s':=hQ'
    rw [e'] at hQ'
    exact hQ'
 ·have e:(List.range (bs.map Value.bool).toArray.size).all (fun i=>bs.getD i true)=bs.all id:=by
   rw [Bool.eq_iff_iff]
   simp only [List.size_toArray,List.length_map,List.all_eq_true,List.mem_range,id]
   constructor
   ·intro h b hb
    obtain ⟨i,hi,e⟩:=List.mem_iff_getElem.mp hb
    have:=h i hi
    rw [List.getD_eq_getElem?_getD,List.getElem?_eq_getElem hi,e] at this
    exact this
   ·intro h i hi
    rw [List.getD_eq_getElem?_getD,List.getElem?_eq_getElem hi]
    exact h _ (List.getElem_mem hi)
  rw [e]
  exact ⟨.bl (bs.all id),H,I.kept fun b o e=>hk b o (by simp; exact Nat.ne_of_lt (Heap.lt_size e)) (Heap.get?_push_of_some _ e),rfl,q⟩
end
section
variable {κ:Type} [DecidableEq κ]
def valV (kvs:List (κ × V)) (k:κ):Option V:=(kvs.find? fun kv=>decide (kv.1=k)).map (·.2)
def putK (kvs:List (κ × V)) (k:κ) (v:V):List (κ × V):=
 if (kvs.any fun kv=>decide (kv.1=k))=true then kvs.map (fun kv=>if kv.1=k then (kv.1,v) else kv) else kvs ++ [(k,v)]
def dropK (kvs:List (κ × V)) (k:κ):List (κ × V):=kvs.filter fun kv=>decide (kv.1≠k)
theorem valV_nil {k:κ}:valV ([]:List (κ × V)) k=none:=rfl
theorem Cj {p:κ × V} {r:List (κ × V)} {k:κ} (e:p.1=k):valV (p :: r) k=some p.2:=by simp [valV,List.find?_cons,e]
theorem B8 {p:κ × V} {r:List (κ × V)} {k:κ} (e:¬ p.1=k):valV (p :: r) k=valV r k:=by simp [valV,List.find?_cons,e]
theorem valV_any (k:κ):∀ kvs:List (κ × V),(kvs.any fun kv=>decide (kv.1=k))=(valV kvs k).isSome
 | []=>rfl
 | p :: r=>by
   rw [List.any_cons]
   by_cases e:p.1=k
   ·simp only [Cj e,decide_eq_true e,Bool.true_or,Option.isSome_some]
   ·rw [B8 e,decide_eq_false e,Bool.false_or]; exact valV_any k r
theorem valV_map (k j:κ) (y:V):∀ kvs:List (κ × V),valV (kvs.map fun kv=>if kv.1=k then (kv.1,y) else kv) j=(valV kvs j).map fun x=>if j=k then y else x
 | []=>rfl
 | p :: r=>by
   have ih:=valV_map k j y r
   rw [List.map_cons]
   by_cases h:p.1=k
   ·rw [if_pos h]
    by_cases e:p.1=j
    ·rw [Cj (p:=(p.1,y)) e,Cj e,Option.map_some,if_pos (e.symm.trans h)]
    ·rw [B8 (p:=(p.1,y)) e,B8 e,ih]
   ·rw [if_neg h]
    by_cases e:p.1=j
    ·rw [Cj (p:=p) e,Cj e,Option.map_some,if_neg (fun z=>h (e.trans z))]
    ·rw [B8 (p:=p) e,B8 e,ih]
theorem valV_snoc (k j:κ) (y:V):∀ kvs:List (κ × V),valV kvs k=none->valV (kvs ++ [(k,y)]) j=if j=k then some y else valV kvs j
 | [],_=>by
   by_cases e:k=j
   ·rw [if_pos e.symm]; exact Cj (p:=(k,y)) e
   ·rw [if_neg (fun z=>e z.symm)]; exact B8 (p:=(k,y)) e
 | p :: r,hn=>by
   rw [List.cons_append]
   have hk:¬ p.1=k:=fun z=>by rw [Cj z] at hn; cases hn
   rw [B8 hk] at hn
   have ih:=valV_snoc k j y r hn
   by_cases e:p.1=j
   ·rw [Cj e,Cj e,if_neg (fun z=>hk (e.trans z))]
   ·rw [B8 e,B8 e,ih]
theorem valV_put (kvs:List (κ × V)) (k j:κ) (y:V):valV (putK kvs k y) j=if j=k then some y else valV kvs j:=by
 unfold putK
 by_cases a:(kvs.any fun kv=>decide (kv.1=k))=true
 ·rw [if_pos a,valV_map]
  rw [valV_any] at a
  by_cases e:j=k
  ·obtain ⟨x,hx⟩:=Option.isSome_iff_exists.mp a
   rw [if_pos e,e,hx,Option.map_some,if_pos rfl]
  ·rw [if_neg e]
   cases valV kvs j with
   | none=>rfl
   | some x=>rw [Option.map_some,if_neg e]
 ·rw [if_neg a]
  refine valV_snoc k j y kvs ?_
  rw [valV_any] at a
  cases q:valV kvs k with
  | none=>rfl
  | some x=>rw [q] at a; exact (a rfl).elim
theorem length_putK (kvs:List (κ × V)) (k:κ) (v:V):(putK kvs k v).length<=kvs.length + 1:=by
 unfold putK
 split
 ·rw [List.length_map]; omega
 ·rw [List.length_append,List.length_cons,List.length_nil]; omega
theorem RelO.isSome_eq {o:Option V} {u:Option Value} (r:RelO o u):o.isSome=u.isSome:=by
 cases o with
 | none=>cases u with
   | none=>rfl
   | some _=>exact (show False from r).elim
 | some _=>cases u with
   | none=>exact (show False from r).elim
   | some _=>rfl
theorem RelO.getD {o:Option V} {u:Option Value} {d:V} {d':Value} (r:RelO o u) (rd:RelV d d'):RelV (o.getD d) (u.getD d'):=by
 cases o with
 | none=>cases u with
   | none=>exact rd
   | some _=>exact (show False from r).elim
 | some _=>cases u with
   | none=>exact (show False from r).elim
   | some _=>exact r
theorem KV.val {kvs:List (κ × V)} {vs:List (κ × Value)} (r:KV kvs vs) (k:κ):RelO (valV kvs k) (valueAt vs k):=by
 unfold KV at r
 induction r with
 | nil=>exact True.intro
 | @cons p q ps qs h t ih=>
   obtain ⟨h1,h2⟩:=h
   by_cases e:p.1=k
   ·have e':q.1=k:=h1.symm.trans e
    have b:valueAt (q :: qs) k=some q.2:=by simp [valueAt,List.find?_cons,e']
    rw [Cj e,b]; exact h2
   ·have e':¬ q.1=k:=fun z=>e (h1.trans z)
    have b:valueAt (q :: qs) k=valueAt qs k:=by simp [valueAt,List.find?_cons,e']
    rw [B8 e,b]; exact ih
theorem KV.any {kvs:List (κ × V)} {vs:List (κ × Value)} (r:KV kvs vs) (k:κ):(kvs.any fun kv=>decide (kv.1=k))=vs.any fun kv=>decide (kv.1=k):=by
 unfold KV at r
 induction r with
 | nil=>rfl
 | cons h t ih=>rw [List.any_cons,List.any_cons,ih,h.1]
theorem KV.repl {kvs:List (κ × V)} {vs:List (κ × Value)} (r:KV kvs vs) (k:κ) {y:V} {u:Value} (ry:RelV y u) :
 KV (kvs.map fun kv=>if kv.1=k then (kv.1,y) else kv) (vs.map fun kv=>if kv.1=k then (kv.1,u) else kv):=by
 unfold KV at r ⊢
 induction r with
 | nil=>exact .nil
 | @cons p q ps qs h t ih=>
   rw [List.map_cons,List.map_cons]
   refine .cons ?_ ih
   obtain ⟨h1,h2⟩:=h
   by_cases e:p.1=k
   ·rw [if_pos e,if_pos (h1.symm.trans e)]; exact ⟨h1,ry⟩
   ·rw [if_neg e,if_neg (fun z=>e (h1.trans z))]; exact ⟨h1,h2⟩
theorem KV.put {kvs:List (κ × V)} {vs:List (κ × Value)} (r:KV kvs vs) (k:κ) {y:V} {u:Value} (ry:RelV y u):KV (putK kvs k y) (stored vs k u):=by
 unfold putK stored
 rw [r.any k]
 by_cases e:(vs.any fun kv=>decide (kv.1=k))=true
 ·rw [if_pos e,if_pos e]; exact r.repl k ry
 ·rw [if_neg e,if_neg e]; exact Paired.snoc r ⟨rfl,ry⟩
theorem KV.drop {kvs:List (κ × V)} {vs:List (κ × Value)} (r:KV kvs vs) (k:κ):KV (dropK kvs k) (without vs k):=by
 unfold KV at r ⊢
 unfold dropK without
 induction r with
 | nil=>exact .nil
 | @cons p q ps qs h t ih=>
   obtain ⟨h1,h2⟩:=h
   rw [List.filter_cons,List.filter_cons]
   by_cases e:p.1=k
   ·have a:¬ decide (p.1≠k)=true:=by simp [e]
    have b:¬ decide (q.1≠k)=true:=by simp [h1.symm.trans e]
    rw [if_neg a,if_neg b]; exact ih
   ·have e':¬ q.1=k:=fun z=>e (h1.trans z)
    have a:decide (p.1≠k)=true:=by simp [e]
    have b:decide (q.1≠k)=true:=by simp [e']
    rw [if_pos a,if_pos b]; exact .cons ⟨h1,h2⟩ ih
theorem KV.length {kvs:List (κ × V)} {vs:List (κ × Value)} (r:KV kvs vs):kvs.length=vs.length:=Paired.length r
theorem dropK_le (kvs:List (κ × V)) (k:κ):(dropK kvs k).length<=kvs.length:=List.length_filter_le _ _
end
theorem kV_is {P:Program} {w:World} {k:Key} {u:Value} (r:RelV (kV k) u):(Ax P w).is k u=true:=by
 cases k with
 | inl i=>obtain ⟨t,e⟩:=(show ∃ t,u=Value.int i t from r); subst e; exact mixKind_int P w i t
 | inr x=>obtain ⟨t,e⟩:=(show ∃ t,u=Value.str x t from r); subst e; exact mixKind_str P w x t
theorem items_are {P:Program} {w:World}:∀ {ks:List Key} {us:List Value},Vals (ks.map kV) us->ItemsAre (Ax P w) ks us
 | [],_,r=>by rw [List.map_nil] at r; cases r; exact .nil
 | k :: ks,_,r=>by
   rw [List.map_cons] at r
   cases r with
   | cons h t=>exact .cons (kV_is h) (items_are t)
abbrev KT (H:Hp):List (List Key × V)->List (List Key × Addr × Value)->Prop:=Paired fun p q=>p.1=q.1/\H q.2.1=some (.tup (p.1.map kV))/\RelV p.2 q.2.2
theorem KT.val {H:Hp} {kvs:List (List Key × V)} {xs:List (List Key × Addr × Value)} (r:KT H kvs xs) (k:List Key):RelO (valV kvs k) ((atKey xs k).map (·.2)):=by
 induction r with
 | nil=>exact True.intro
 | @cons p q ps qs h t ih=>
   obtain ⟨h1,_,h2⟩:=h
   by_cases e:p.1=k
   ·have e':q.1=k:=h1.symm.trans e
    have b:atKey (q :: qs) k=some q.2:=by simp [atKey,List.find?_cons,e']
    rw [Cj e,b]; exact h2
   ·have e':¬ q.1=k:=fun z=>e (h1.trans z)
    have b:atKey (q :: qs) k=atKey qs k:=by simp [atKey,List.find?_cons,e']
    rw [B8 e,b]; exact ih
theorem KT.repl {H:Hp} {kvs:List (List Key × V)} {xs:List (List Key × Addr × Value)} (r:KT H kvs xs) (k:List Key) {y:V} {u:Value} (ry:RelV y u) :
 KT H (kvs.map fun kv=>if kv.1=k then (kv.1,y) else kv) (xs.map (putAt k u)):=by
 induction r with
 | nil=>exact .nil
 | @cons p q ps qs h t ih=>
   rw [List.map_cons,List.map_cons]
   refine .cons ?_ ih
   obtain ⟨h1,h2,h3⟩:=h
   unfold putAt
   by_cases e:p.1=k
   ·rw [if_pos e,if_pos (h1.symm.trans e)]; exact ⟨h1,h2,ry⟩
   ·rw [if_neg e,if_neg (fun z=>e (h1.trans z))]; exact ⟨h1,h2,h3⟩
theorem KT.put {H:Hp} {kvs:List (List Key × V)} {xs:List (List Key × Addr × Value)} (r:KT H kvs xs) (k:List Key) {b:Addr} {y:V} {u:Value} (hb:H b=some (.tup (k.map kV))) (ry:RelV y u) :
 KT H (putK kvs k y) (storedH xs k b u):=by
 have e:(kvs.any fun kv=>decide (kv.1=k))=(atKey xs k).isSome:=by
  rw [valV_any,(r.val k).isSome_eq,Option.isSome_map]
 unfold putK storedH
 rw [e]
 by_cases q:(atKey xs k).isSome=true
 ·rw [if_pos q,if_pos q]; exact r.repl k ry
 ·rw [if_neg q,if_neg q]; exact Paired.snoc r ⟨rfl,hb,ry⟩
theorem KT.keeps {H H':Hp} {kvs:List (List Key × V)} {xs:List (List Key × Addr × Value)} (r:KT H kvs xs) (ht:∀ b ys,H b=some (.tup ys)->H' b=some (.tup ys)):KT H' kvs xs:=
 Paired.mapP r fun _ _ z=>⟨z.1,ht _ _ z.2.1,z.2.2⟩
section
variable {P:Program} {w:World} {H:Hp} {h:Heap} {a:Addr}
theorem rd_of {u:HO} (ok:HOk P w H h) (e:Rd H a u):Cm P w H h a u:=e.ok ok
theorem dk_rd {kvs:List (Key × V)} (ok:HOk P w H h) (e:Rd H a (.dK kvs)):kvs.length<=sizeLine/\(a == sysModules)=false/\∃ vs,KV kvs vs/\h.DictOf (Ax P w) a vs:=
 show Cm P w H h a (.dK kvs) from rd_of ok e
theorem dk_of {kvs:List (Key × V)} (ok:HOk P w H h) (e:H a=some (.dK kvs)):kvs.length<=sizeLine/\(a == sysModules)=false/\∃ vs,KV kvs vs/\h.DictOf (Ax P w) a vs:=dk_rd ok (.inl e)
theorem key_of {ks:List Key} (ok:HOk P w H h) (e:H a=some (.tup (ks.map kV))):(tupleKind (Ax P w)).is h ks a:=by
 obtain ⟨_,its,r,o,h1,h2,n,h3⟩:=(show Cm P w H h a (.tup (ks.map kV)) from ok a _ e)
 exact ⟨o,its.toArray,n,h1,h2,h3,by simpa using items_are r⟩
theorem dt_rd {kvs:List (List Key × V)} (ok:HOk P w H h) (e:Rd H a (.dT kvs)):kvs.length<=sizeLine/\(a == sysModules)=false/\
 ∃ xs,KT H kvs xs/\h.DictOfH (tupleKind (Ax P w)) a xs:=by
 obtain ⟨z,y,xs,r,o,es,ep,h1,h2,h3,h4,h5⟩:=(show Cm P w H h a (.dT kvs) from rd_of ok e)
 refine ⟨z,y,xs,r,o,es,ep,h1,h2,h3,h4,fun x hx=>?_,h5⟩
 have all:∀ {l:List (List Key × V)} {m:List (List Key × Addr × Value)},KT H l m->∀ x ∈ m,(tupleKind (Ax P w)).is h x.1 x.2.1:=by
  intro l m q
  induction q with
  | nil=>intro x hx; exact nomatch hx
  | @cons p q ps qs hq t ih=>
    intro x hx
    rcases List.mem_cons.mp hx with e | hx
    ·subst e
     exact key_of ok (by rw [← hq.1]; exact hq.2.1)
    ·exact ih x hx
 exact all r x hx
theorem dt_of {kvs:List (List Key × V)} (ok:HOk P w H h) (e:H a=some (.dT kvs)):kvs.length<=sizeLine/\(a == sysModules)=false/\
 ∃ xs,KT H kvs xs/\h.DictOfH (tupleKind (Ax P w)) a xs:=dt_rd ok (.inl e)
end
def DGet (H:Hp) (a:Addr) (y:V) (r:Option V):Prop:=
 (∃ kvs k,Rd H a (.dK kvs)/\y=kV k/\r=valV kvs k)\/∃ kvs k b,Rd H a (.dT kvs)/\y=.ref b/\H b=some (.tup (k.map kV))/\r=valV kvs k
def DPut (H:Hp) (a:Addr) (y v:V) (H':Hp):Prop:=
 (∃ kvs k,H a=some (.dK kvs)/\y=kV k/\kvs.length < sizeLine/\H'=upd H a (.dK (putK kvs k v)))\/
 ∃ kvs k b,H a=some (.dT kvs)/\y=.ref b/\H b=some (.tup (k.map kV))/\kvs.length < sizeLine/\H'=upd H a (.dT (putK kvs k v))
theorem DGet.k {H:Hp} {a:Addr} {kvs:List (Key × V)} {k:Key} (e:H a=some (.dK kvs)):DGet H a (kV k) (valV kvs k):=.inl ⟨kvs,k,.inl e,rfl,rfl⟩
theorem DPut.k {H:Hp} {a:Addr} {kvs:List (Key × V)} {k:Key} {v:V} (e:H a=some (.dK kvs)) (hl:kvs.length < sizeLine):DPut H a (kV k) v (upd H a (.dK (putK kvs k v))):=.inl ⟨kvs,k,e,rfl,hl,rfl⟩
section
variable {X:Cx} {pins:List (Addr × Obj)} {σ:St} {H:Hp} {s:Shared} {a:Addr} {y v:V} {u r:Value} {o:Option V} {A:Around} {E:Value->Shared->Prop}
theorem Inv.big (I:Inv X pins σ H s):sysModules < s.heap.objs.size:=by
 have h:mainGlobals < s.heap.objs.size:=(I.mod.glob.keeps I.bk).lt
 exact Nat.lt_trans (by decide) h
theorem d_write {h':Heap} {t':Nat} {ob:HO} (I:Inv X pins σ H s) (mu:Mut (H a)) (hs:Heap.SameBut a s.heap h') (he:∃ q,h'.get? a=some q) (new:Cm X.prog X.w (upd H a ob) h' a ob) :
 Inv X pins σ (upd H a ob) { s with heap:=h',toks:=t' }:=
 I.write (x:=a) (e:=a) mu (.inl rfl) (fun b q hb z=>(hs.2 b hb).trans z) he new
theorem dk_new {P:Program} {w:World} {H':Hp} {h':Heap} {kvs:List (Key × V)} {vs:List (Key × Value)} (z:kvs.length<=sizeLine) (hd:(a == sysModules)=false) (rel:KV kvs vs) (dd:h'.DictOf (Ax P w) a vs) :
 Cm P w H' h' a (.dK kvs):=⟨z,hd,vs,rel,dd⟩
theorem d_setItem {H':Hp} {Q:Unit->Shared->Prop} (hu:A.units + 1 < cLine) (I:Inv X pins σ H s) (g:DPut H a y v H') (ry:RelV y u) (rv:RelV v r) (h:∀ s',Inv X pins σ H' s'->Q () s') :
 wpAny (model X.prog X.w) A (setItem (.ref a) u r) Q E s:=by
 rcases g with ⟨kvs,k,e,ey,l,eH⟩ | ⟨kvs,k,b,e,ey,eb,l,eH⟩
 ·subst ey eH
  obtain ⟨z,hd,vs,rel,dd⟩:=dk_of I.hok e
  have hz:vs.length<=sizeLine:=by rw [← rel.length]; exact z
  have hl:(putK kvs k v).length<=sizeLine:=by have:=length_putK kvs k v; omega
  refine wpAny_setItem_pairs (hsz:=hz) (kV_is ry) dd fun h' dd' hs=>h _ ?_
  have he:∃ q,h'.get? a=some q:=let ⟨q,_,_,hq,_⟩:=dd'; ⟨q,hq⟩
  exact d_write I (by rw [e]; exact True.intro) hs he (dk_new hl hd (rel.put k rv) dd')
 ·subst ey eH
  cases (show u=Value.ref b from ry)
  obtain ⟨z,hd,xs,rel,dd⟩:=dt_of I.hok e
  have hz:xs.length<=sizeLine:=by rw [← Paired.length rel]; exact z
  have hl:(putK kvs k v).length<=sizeLine:=by have:=length_putK kvs k v; omega
  refine wpAny_setItem_heap (hsz:=hz) (tupleKind_room_in1 hu) (key_of I.hok eb) dd fun h' dd' hs=>h _ ?_
  obtain ⟨q,es,ep,hq,h2,h3,h4,_,h5⟩:=dd'
  refine d_write I (by rw [e]; exact True.intro) hs ⟨q,hq⟩ ⟨hl,hd,_,(rel.put k eb rv).keeps fun c ys ec=>?_,q,es,ep,hq,h2,h3,h4,h5⟩
  rw [Aj (ne_of ec e (fun z=>nomatch z))]
  exact ec
end
section
variable {X:Cx} {pins:List (Addr × Obj)} {σ:St} {H:Hp} {s:Shared} {a:Addr} {kvs:List (Key × V)} {k:Key} {u:Value} {A:Around} {E:Value->Shared->Prop}
theorem d_pop {v:V} {more:List Value} {Q:Value->Shared->Prop} (I:Inv X pins σ H s) (e:H a=some (.dK kvs)) (ry:RelV (kV k) u) (l:valV kvs k=some v) (hm:more=[]\/∃ x,more=[x])
 (h:∀ w' s',Inv X pins σ (upd H a (.dK (dropK kvs k))) s'->RelV v w'->Q w' s'):wpAny (model X.prog X.w) A (call (.builtin "dict.pop") (.ref a :: u :: more)) Q E s:=by
 obtain ⟨z,hd,vs,rel,dd⟩:=dk_of I.hok e
 obtain ⟨w',hw,rw'⟩:=RelO.some_of (v:=v) (o:=valueAt vs k) (by rw [← l]; exact rel.val k)
 have hp:(keyPart u).isSome=true:=by
  cases k with
  | inl i=>obtain ⟨t,q⟩:=(show ∃ t,u=Value.int i t from ry); subst q; rfl
  | inr x=>obtain ⟨t,q⟩:=(show ∃ t,u=Value.str x t from ry); subst q; rfl
 have ha:argsOk "dict.pop" ⟨.ref a :: u :: more,[]⟩:=by
  rcases hm with q | ⟨x,q⟩
  ·subst q; exact PySem.F.args_dict_pop_2 _ _
  ·subst q; exact PySem.F.args_dict_pop_3 _ _ _
 refine call_meetsIn PySem.F.slot_dict_pop dd.typeIs PySem.F.entry_dict_pop ha (meets_dict_pop_there (Ax X.prog X.w) a (kV_is ry) more hm hp)
  ⟨vs,w',dd,by rw [← rel.length]; exact z,hw,fun h' dd' hs=>h w' _ ?_ rw'⟩
 have he:∃ q,h'.get? a=some q:=let ⟨q,_,_,hq,_⟩:=dd'; ⟨q,hq⟩
 exact d_write I (by rw [e]; exact True.intro) hs he (dk_new (Nat.le_trans (dropK_le kvs k) z) hd (rel.drop k) dd')
theorem d_popD {r:Value} {Q:Value->Shared->Prop} (I:Inv X pins σ H s) (e:H a=some (.dK kvs)) (ry:RelV (kV k) u) (l:valV kvs k=none) (h:∀ s',Inv X pins σ H s'->Q r s') :
 wpAny (model X.prog X.w) A (call (.builtin "dict.pop") [.ref a,u,r]) Q E s:=by
 obtain ⟨z,hd,vs,rel,dd⟩:=dk_of I.hok e
 have hn:valueAt vs k=none:=RelO.none_of (by rw [← l]; exact rel.val k)
 have hp:(keyPart u).isSome=true:=by
  cases k with
  | inl i=>obtain ⟨t,q⟩:=(show ∃ t,u=Value.int i t from ry); subst q; rfl
  | inr x=>obtain ⟨t,q⟩:=(show ∃ t,u=Value.str x t from ry); subst q; rfl
 exact call_meetsIn PySem.F.slot_dict_pop dd.typeIs PySem.F.entry_dict_pop (PySem.F.args_dict_pop_3 _ _ _) (meets_dict_pop_default (Ax X.prog X.w) a (kV_is ry) hd hp r) ⟨vs,dd,hn,h _ (I.tok _)⟩
end
def sDPut (td ty tv:TE):TS:=fun D σ H=>tv σ H fun v H1=>td σ H1 fun x H2=>ty σ H2 fun y H3=>∃ a H4,x=.ref a/\DPut H3 a y v H4/\D.nx σ H4
section
variable {X:Cx} {o i e value:Expr} {pos pos' tpos:Pos} {td ty tv:TE}
theorem ps_dput (hu:X.A.units + 1 < cLine) (ho:PE X o td) (hi:PE X i ty) (hv:PE X value tv) (hs:swapsWith value (some (.Subscript o i pos')) pos.line X.env=pure false) :
 PS X (.Assign [.Subscript o i pos'] value pos) (sDPut td ty tv):=by
 intro pins s σ H D I h
 refine wpAny_Assign_Subscript (thn (hv pins s σ H _ I h) fun r s1 ⟨v,H1,I1,rv,q1⟩=>thn (ho pins s1 σ H1 _ I1 q1) fun u s2 ⟨x,H2,I2,rx,q2⟩=>thn (hi pins s2 σ H2 _ I2 q2) fun iv s3 ⟨y,H3,I3,ry,a,H4,ex,g,q3⟩=>?_) hs
 subst ex
 obtain rfl:u=Value.ref a:=rx
 exact d_setItem hu I3 g ry rv fun s4 I4=>⟨σ,H4,I4,q3⟩
end
theorem dk_empty {P:Program} {w:World} {H:Hp} (h:Heap) (hb:sysModules < h.objs.size):Cm P w H (h.push { cls:=.type "dict",data:=.dict #[] }) h.objs.size (.dK []):=
 ⟨Nat.zero_le _,beq_eq_false_iff_ne.mpr (Ne.symm (Nat.ne_of_lt hb)),[],.nil,Heap.DictOf.new h⟩
def tDNewK:TE:=fun _ H Q=>∀ p,H p=none->Q (.ref p) (upd H p (.dK []))
section
variable {X:Cx} {pos:Pos}
theorem pe_dnewK:PE X (.Dict [] [] pos) tDNewK:=fun pins s σ H Q I h=>
 wpAny_Dict_empty ⟨.ref s.heap.objs.size,_,I.laid (a:=s.heap.objs.size) (o:=.dK []) (t':=s.toks) (fun _ _ q=>Heap.get?_push_of_some _ q) (Nat.le_refl _) (dk_empty s.heap I.big),rfl,h _ (I.hok.fresh (Nat.le_refl _))⟩
end
structure M2 (X:Cx) (o:Expr) (m:Str) (apos:Pos) (e f:Expr) (cpos:Pos):Prop where
 base:attributeBase o m X.env (eval o X.env)=eval o X.env
 few:((backTo cpos (starEach [e,f] X.env)).all (fun x=>!x.1) && (backToKw cpos (keywordEach [] X.env)).all (fun x=>x.1.isSome)
  && decide (([e,f]:List Expr).length + ([]:List Keyword).length + (if ([]:List Keyword).isEmpty then 0 else 1) < 30))=true
 line:(apos.endLine == cpos.line)=true
 trees:backTo cpos (starEach [e,f] X.env)=[(false,eval e X.env),(false,eval f X.env)]
def IsD (H:Hp) (a:Addr):Prop:=(∃ kvs,Rd H a (.dK kvs))\/∃ kvs,Rd H a (.dT kvs)
theorem isD_at {X:Cx} {pins:List (Addr × Obj)} {σ:St} {H:Hp} {s:Shared} {a:Addr} (I:Inv X pins σ H s) (d:IsD H a) :
 s.TypeIs (.ref a) "dict"/\(∀ b,Value.ref a=.ref b->∃ ob,s.heap.get? b=some ob/\ob.dict=none)/\(a == sysModules)=false:=by
 rcases d with ⟨kvs,e⟩ | ⟨kvs,e⟩
 ·obtain ⟨_,hd,vs,_,dd⟩:=dk_rd I.hok e
  refine ⟨dd.typeIs,fun b q=>?_,hd⟩
  cases q
  obtain ⟨ob,_,_,h1,h2,_⟩:=dd
  exact ⟨ob,h1,h2.2.1⟩
 ·obtain ⟨_,hd,xs,_,dd⟩:=dt_rd I.hok e
  refine ⟨dd.typeIs,fun b q=>?_,hd⟩
  cases q
  obtain ⟨ob,_,_,h1,h2,_⟩:=dd
  exact ⟨ob,h1,h2.2.1⟩
section
variable {X:Cx} {pins:List (Addr × Obj)} {σ:St} {H:Hp} {s:Shared} {a:Addr} {y d:V} {u r:Value} {o:Option V} {A:Around} {E:Value->Shared->Prop}
theorem d_get2 {Q:Value->Shared->Prop} (hu:A.units + 1 < cLine) (I:Inv X pins σ H s) (g:DGet H a y o) (ry:RelV y u) (rd:RelV d r) (h:∀ w' s',Inv X pins σ H s'->RelV (o.getD d) w'->Q w' s') :
 wpAny (model X.prog X.w) A (call (.builtin "dict.get") [.ref a,u,r]) Q E s:=by
 rcases g with ⟨kvs,k,e,ey,l⟩ | ⟨kvs,k,b,e,ey,eb,l⟩
 ·subst ey
  obtain ⟨z,hd,vs,rel,dd⟩:=dk_rd I.hok e
  refine call_meetsIn PySem.F.slot_dict_get dd.typeIs PySem.F.entry_dict_get (PySem.F.args_dict_get_3 _ _ _) (meets_dict_get_default (Ax X.prog X.w) a (kV_is ry) hd r) ⟨_,dd.mapOf,h _ _ (I.tok _) ?_⟩
  rw [l]
  exact (rel.val k).getD rd
 ·subst ey
  cases (show u=Value.ref b from ry)
  obtain ⟨z,hd,xs,rel,dd⟩:=dt_rd I.hok e
  refine call_meetsIn PySem.F.slot_dict_get dd.typeIs PySem.F.entry_dict_get (PySem.F.args_dict_get_3 _ _ _) (meetsH_dict_get_default (tupleKind (Ax X.prog X.w)) a b hd r) ⟨tupleKind_room_in1 hu,k,xs,key_of I.hok eb,dd,h _ _ (I.tok _) ?_⟩
  rw [l]
  exact (rel.val k).getD rd
end
def tDGet2 (td ty tx:TE):TE:=fun σ H Q=>td σ H fun x H1=>∃ a,x=.ref a/\IsD H1 a/\ty σ H1 fun y H2=>tx σ H2 fun z H3=>∃ o,DGet H3 a y o/\Q (o.getD z) H3
section
variable {X:Cx} {o e f:Expr} {apos cpos:Pos} {td ty tx:TE}
theorem pe_dget2 (hu:X.A.units + 1 < cLine) (ho:PE X o td) (he:PE X e ty) (hf:PE X f tx) (m:M2 X o "get" apos e f cpos):PE X (.Call (.Attribute o "get" apos) [e,f] [] cpos) (tDGet2 td ty tx):=by
 intro pins s σ H Q I h
 refine wpAny_Call_method m.base m.few m.line PySem.F.plainAttrs_dict PySem.F.slot_dict_get PySem.F.type_dict_get (thn (ho pins s σ H _ I h) fun u s1 ⟨x,H1,I1,rx,a,ex,d,q1⟩=>?_)
 subst ex
 obtain rfl:u=Value.ref a:=rx
 obtain ⟨t1,t2,_⟩:=isD_at I1 d
 refine ⟨t1,t2,?_⟩
 rw [m.trees]
 refine Calls.callWith_builtin rfl (Calls.evalArgs_plain (Calls.spliced_cons (thn (he pins s1 σ H1 _ I1 q1) fun iv s2 ⟨y,H2,I2,ry,q2⟩=>
  Calls.spliced_cons (thn (hf pins s2 σ H2 _ I2 q2) fun fv s3 ⟨z,H3,I3,rz,ov,g,q3⟩=>Calls.spliced_nil ?_))))
 exact d_get2 hu I3 g ry rz fun w' s4 I4 rw'=>⟨_,H3,I4,rw',q3⟩
end
section
variable {X:Cx} {pins:List (Addr × Obj)} {σ:St} {H:Hp} {s:Shared} {a:Addr} {kvs:List (Key × V)} {A:Around} {E:Value->Shared->Prop}
end
section
variable {X:Cx} {pins:List (Addr × Obj)} {σ:St} {H:Hp} {s:Shared} {a:Addr} {y:V} {u:Value} {A:Around} {E:Value->Shared->Prop}
end
section
variable {X:Cx}
end
section
variable {κ:Type} [DecidableEq κ]
end
open PySem PySem.Spec PyProof.Rows PySem.SeqAt
mutual
inductive RdD (K:PySem.W.Frag) (H:Hp):V->PyData->Prop
 | non:RdD K H .non .none
 | bl (b:Bool):RdD K H (.bl b) (.bool b)
 | int (i:Int):RdD K H (.int i) (.int i)
 | str (x:Str):RdD K H (.str x) (.str x)
 | lst {a:Addr} {xs:List V} {ds:List PyData}:SqL K H a xs->RdDs K H xs ds->RdD K H (.ref a) (.list ds)
 | tup {a:Addr} {xs:List V} {ds:List PyData}:SqT K H a xs->RdDs K H xs ds->RdD K H (.ref a) (.tuple ds)
inductive RdDs (K:PySem.W.Frag) (H:Hp):List V->List PyData->Prop
 | nil:RdDs K H [] []
 | cons {x:V} {d:PyData} {xs:List V} {ds:List PyData}:RdD K H x d->RdDs K H xs ds->RdDs K H (x :: xs) (d :: ds)
end
section
variable {X:Cx} {pins:List (Addr × Obj)} {σ:St} {H:Hp} {s:Shared}
mutual
theorem RdD.reads (I:Inv X pins σ H s):∀ {x:V} {d:PyData} {u:Value},RdD X.K H x d->RelV x u->∃ as,Reads s.heap u d as
 | _,_,_,.non,r=>by cases r; exact ⟨_,.none⟩
 | _,_,_,.bl b,r=>by cases r; exact ⟨_,.bool b⟩
 | _,_,_,.int i,r=>by obtain ⟨t,rfl⟩:=r; exact ⟨_,.int i t⟩
 | _,_,_,.str x,r=>by obtain ⟨t,rfl⟩:=r; exact ⟨_,.str x t⟩
 | _,_,_,.lst hq hs,r=>by
   cases r
   obtain ⟨its,rv,pl,hz⟩:=I.list hq
   obtain ⟨as,ra⟩:=RdDs.reads I hs rv
   obtain ⟨o,n,e,hc,hd,dd⟩:=pl
   exact ⟨_,.list e hc dd (by simpa using ra)⟩
 | _,_,_,.tup hq hs,r=>by
   cases r
   obtain ⟨its,rv,pl,hz⟩:=I.tuple hq
   obtain ⟨as,ra⟩:=RdDs.reads I hs rv
   obtain ⟨o,e,hc,n,dd⟩:=pl
   exact ⟨_,.tuple e hc dd (by simpa using ra)⟩
theorem RdDs.reads (I:Inv X pins σ H s):∀ {xs:List V} {ds:List PyData} {us:List Value},RdDs X.K H xs ds->Vals xs us->∃ as,ReadsAll s.heap us ds as
 | _,_,_,.nil,.nil=>⟨_,.nil⟩
 | _,_,_,.cons h hs,.cons r rs=>by
   obtain ⟨as,ra⟩:=RdD.reads I h r
   obtain ⟨bs,rb⟩:=RdDs.reads I hs rs
   exact ⟨_,.cons ra rb⟩
end
end
section
variable {X:Cx}
def rEqD (K:PySem.W.Frag) (neg:Bool):R2:=fun x y H Q=>∃ dx dy,RdD K H x dx/\RdD K H y dy/\shaped dx=true/\shaped dy=true/\Q (.bl (if neg then !PyData.eqv dx dy else PyData.eqv dx dy)) H
theorem op_eqD (hu:X.A.units + 64 < cLine):OpR X (compareOp .Eq) (rEqD X.K false):=by
 intro pins s σ H x y v u Q I rx ry h
 obtain ⟨dx,dy,hx,hy,sx,sy,q⟩:=h
 obtain ⟨as,ra⟩:=hx.reads I rx
 obtain ⟨bs,rb⟩:=hy.reads I ry
 exact eq_dataH ra rb sx sy hu (Bh I q rfl)
theorem op_neD (hu:X.A.units + 64 < cLine):OpR X (compareOp .NotEq) (rEqD X.K true):=by
 intro pins s σ H x y v u Q I rx ry h
 obtain ⟨dx,dy,hx,hy,sx,sy,q⟩:=h
 obtain ⟨as,ra⟩:=hx.reads I rx
 obtain ⟨bs,rb⟩:=hy.reads I ry
 exact ne_dataH ra rb sx sy hu (Bh I q rfl)
end
section
variable {X:Cx}
end
structure FnAt (P:Program) (w:World) (K:PySem.W.Frag) (mg:Str->Option Value) (base:Heap) (x:Str) (k:Nat) (ps:List Str) (sp:Sp):Prop where
 ex:∃ (f:Addr) (fd:FuncData),FnOk P w K mg base CX0 k f fd ps sp/\mg x=some (.ref f)/\PySem.W.keepIn K (.ref f)=true/\Binds K fd ps []
theorem Ay {X:Cx} {x:Str} {ps:List Str} {sp:Sp} {k j:Nat} {p pos:Pos} {e:Expr} {es:List Expr} {t:TA} (F:FnAt X.prog X.w X.K X.mg X.base x k ps sp) (hr:Room j X.A) (hj:k<=j) (hg:Gl X x) (ha:PA X (e :: es) t)
 (hdb:(x == ("__debug__":Str))=false:=by decide) (he:starEach (e :: es) X.env=(false,eval e X.env) :: starEach es X.env:=by rfl) (hpl:(backTo pos (starEach es X.env)).any (·.1)=false:=by rfl) :
 PE X (.Call (.Name x p) (e :: es) [] pos) (tCall sp [] E0 t):=by
 obtain ⟨f,fd,G,hm,hk,hb⟩:=F.ex
 exact pe_call G (hr.mono hj) hg hm hk hb .nil pass0 ha hdb he hpl
structure Al (K:PySem.W.Frag) (mg:Str->Option Value) (x:Str) (st:Stmt) (ps:List Str):Prop where
 ex:∃ (f:Addr) (fd:FuncData),Fun K x x st f fd/\mg x=some (.ref f)/\∀ us:List Value,us.length=ps.length->bindArgs fd ⟨us,[]⟩=pure (ps.zip us)
theorem topFn_mk {K:PySem.W.Frag} {mg:Str->Option Value} {h:Heap} {x:Str} {st:Stmt} {ps:List Str} {f:Addr} {oc:Value} {od an:Option Addr} {osl:Array (Option Value)} {kV doc pm cdv ct:Value} (X:K.In h) (G:h.Ns mainGlobals mg)
 (hb:∀ (kV doc pm:Value) (an:Option Addr) (cdv ct:Value) (us:List Value),us.length=ps.length->bindArgs (PySem.W.fnOf x x (Db st) (B1 st) (Af st) .none kV doc pm an cdv ct) ⟨us,[]⟩=pure (ps.zip us))
 (a:PySem.W.nsIn K mainGlobals x=some (some (.ref f))) (l:K.lookup f=some ⟨oc,od,.func (PySem.W.fnOf x x (Db st) (B1 st) (Af st) .none kV doc pm an cdv ct),osl⟩)
 (c:PySem.W.codeIn K cdv x=true) (k:PySem.W.keepIn K (.ref f)=true):Al K mg x st ps:=
 ⟨f,_,fun_mk l c k,PySem.W.mg_of X G a,fun us=>hb kV doc pm an cdv ct us⟩
theorem Ar {K:PySem.W.Frag} {mg:Str->Option Value} {h:Heap} {x:Str} {st:Stmt} {ps:List Str} {f:Addr} {oc:Value} {od an:Option Addr} {osl:Array (Option Value)} {kV doc pm cdv ct:Value} (X:K.In h) (G:h.Ns mainGlobals mg)
 (hb:∀ (kV doc pm:Value) (an:Option Addr) (cdv ct:Value) (us:List Value),us.length=ps.length->bindArgs (PySem.W.fnOf x x (Db st) (B1 st) (Af st) .none kV doc pm an cdv ct) ⟨us,[]⟩=pure (ps.zip us))
 (a:PySem.W.nsIn K mainGlobals x=some (some (.ref f))) (l:K.lookup f=some ⟨oc,od,.func (PySem.W.fnOf x x (Db st) (B1 st) (Af st) .none kV doc pm an cdv ct),osl⟩)
 (c:PySem.W.codeIn K cdv x=true) (k:PySem.W.keepIn K (.ref f)=true):Al (KOf X) mg x st ps:=topFn_mk X G hb a l c k
section
variable {P:Program} {w:World} {K:PySem.W.Frag} {mg:Str->Option Value} {base:Heap}
theorem Al.at {x:Str} {st:Stmt} {N ps:List Str} {k:Nat} {sp:Sp} (T:Al K mg x st ps) (S:Ao N ps (Af st)) (len:∀ vs H Q E,sp vs H Q E->vs.length=ps.length)
 (hbody:∀ (f:Addr) (cdv:Value) (A:Around) (outer:List Env) (s:Shared) (H:Hp) (vs:List V) (Q:VK) (E:XK),Room k (A.deeper (envOfC x (Af st) s.heap.objs.size f cdv))->sp vs H Q E->
   ∃ t,PSs (cxOf CX0 P w K mg base N x (Af st) f cdv A outer s H E).nox (B1 st) t/\t { nx:=fun _ H'=>Q .non H',rt:=Q } (start N vs) H):FnAt P w K mg base x (k + 1) ps sp:=by
 obtain ⟨f,fd,F,hm,hb⟩:=T.ex
 exact ⟨f,fd,F.ok S len fun cdv A outer s H vs Q E hr h=>hbody f cdv A outer s H vs Q E hr h,hm,F.kp,.all hb⟩
end
theorem hu64 {A:Around} {k:Nat} (hr:Room k A):A.units + 64 < cLine:=hr.units
def Box (H:Hp) (b:Addr):Prop:=∃ x y z:Int,H b=some (.lst [.int x,.int y,.int z])
structure Oth (b:Addr) (H H':Hp):Prop where
 box:Box H' b
 oth:∀ c o,H c=some o->c≠b->H' c=some o
theorem Oth.refl {b:Addr} {H:Hp} (h:Box H b):Oth b H H:=⟨h,fun _ _ h _=>h⟩
theorem Oth.trans {b:Addr} {H H1 H2:Hp} (a:Oth b H H1) (c:Oth b H1 H2):Oth b H H2:=⟨c.box,fun d o h n=>c.oth d o (a.oth d o h n) n⟩
theorem Oth.free {b c:Addr} {H H':Hp} (a:Oth b H H') (h:H' c=none):H c=none:=by
 cases e:H c with
 | none=>rfl
 | some o=>
   by_cases hb:c=b
   ·subst hb
    obtain ⟨x,y,z,q⟩:=a.box
    rw [q] at h; cases h
   ·rw [a.oth c o e hb] at h; cases h
theorem Box.ne {H:Hp} {b c:Addr} (h:Box H b) (n:H c=none):c≠b:=fun e=>by
 subst e
 obtain ⟨x,y,z,q⟩:=h
 rw [q] at n; cases n
theorem Oth.new {b p:Addr} {H H1:Hp} {o:HO} (a:Oth b H H1) (h:H1 p=none):Oth b H (upd H1 p o):=by
 have hb:=a.box.ne h
 refine ⟨?_,fun c u e n=>?_⟩
 ·obtain ⟨x,y,z,q⟩:=a.box
  exact ⟨x,y,z,by rw [Aj (Ne.symm hb)]; exact q⟩
 ·rw [Aj (Ah (a.oth c u e n) h)]
  exact a.oth c u e n
theorem Oth.same {b:Addr} {H H1 H2:Hp} (a:Oth b H H1) (s:Same H1 H2):Oth b H H2:=by
 refine ⟨?_,fun c o e n=>s c o (a.oth c o e n)⟩
 obtain ⟨x,y,z,q⟩:=a.box
 exact ⟨x,y,z,s _ _ q⟩
theorem Same.new {H:Hp} {p:Addr} {o:HO} (h:H p=none):Same H (upd H p o):=fun b u e=>by
 rw [Aj (Ah e h)]
 exact e
theorem Z0:0<=sizeLine:=by decide
theorem Z1:1<=sizeLine:=by decide
theorem Z2:2<=sizeLine:=by decide
theorem Z3:3<=sizeLine:=by decide
theorem Z4:4<=sizeLine:=by decide
theorem Z6:6<=sizeLine:=by decide
theorem Z8:8<=sizeLine:=by decide
theorem Nw {H H1:Hp} {p:Addr} {o:HO} (e:upd H p o=H1) (h:H p=none):Same H H1:=e ▸ Same.new h
theorem Ns {H H1:Hp} {p:Addr} {o:HO} (e:upd H p o=H1):H1 p=some o:=e ▸ Ag
theorem Na {b p:Addr} {H H1:Hp} {o:HO} (e:upd H p o=H1) (hb:Box H b) (h:H p=none):Oth b H H1:=e ▸ (Oth.refl hb).new h
def bigLine:Int:=10000000000000000000000000000000000000000
def spCell (K:PySem.W.Frag):Sp:=fun vs H Q _=>∃ (a:Addr) (ns:List Int) (k:Nat),vs=[.ref a,.int k]/\SqL K H a (ns.map V.int)/\∀ c:Int,Q (.int c) H
def spMixed:Sp:=fun vs H Q _=>∃ a k:Int,vs=[.int a,.int k]/\∀ r:Int,Q (.int r) H
def spBox:Sp:=fun vs H Q _=>∃ c:Int,vs=[.int c]/\∀ (b:Addr) (x y z:Int),H b=none->Q (.ref b) (upd H b (.lst [.int x,.int y,.int z]))
def spTake:Sp:=fun vs H Q _=>∃ (b:Addr) (n:Int),vs=[.ref b,.int n]/\Box H b/\0 < n/\n < bigLine/\∀ (r:Int) (H':Hp),0<=r->r < n->Oth b H H'->Q (.int r) H'
section
variable {X:Cx} {x:Str} {pos:Pos}
theorem pe_globS {z:Str} (hg:Gl X x) (h:∃ t,X.mg x=some (.str z t)) (hd:(x == ("__debug__":Str))=false:=by decide):PE X (.Name x pos) (tC (.str z)):=by
 obtain ⟨t,e⟩:=h
 exact pe_glob hg e ⟨t,rfl⟩ hd
theorem Cp {i:Int} (hg:Gl X x) (h:∃ t,X.mg x=some (.int i t)) (hd:(x == ("__debug__":Str))=false:=by decide):PE X (.Name x pos) (tC (.int i)):=by
 obtain ⟨t,e⟩:=h
 exact pe_glob hg e ⟨t,rfl⟩ hd
end
def spLaw (K:PySem.W.Frag):Sp:=fun vs H Q _=>∃ (a:Addr) (ns:List Int),vs=[.ref a]/\SqL K H a (ns.map V.int)/\ns.length<=63/\∀ H',Q (.bl true) H'
theorem law_len {K:PySem.W.Frag} {x:Str}:∀ vs H Q E,spLaw K vs H Q E->vs.length=[x].length:=fun vs H Q E h=>by
 obtain ⟨a,ns,rfl,_⟩:=h
 rfl
theorem law_mk {P:Program} {w:World} {K:PySem.W.Frag} {mg:Str->Option Value} {fa:Addr} {st:Stmt} {x:Str} {N:List Str} {k:Nat} (T:Al K mg "law" st [x]) (hfa:mg "law"=some (.ref fa)) (S:Ao N [x] (Af st))
 (body:∀ (base:Heap),K.In base->base.Ns mainGlobals mg->∀ (f:Addr) (cdv:Value) (A:Around) (outer:List Env) (s:Shared) (H:Hp) (vs:List V) (Q:VK) (E:XK),Room k (A.deeper (envOfC "law" (Af st) s.heap.objs.size f cdv))->spLaw K vs H Q E->
   ∃ t,PSs (cxOf CX0 P w K mg base N "law" (Af st) f cdv A outer s H E).nox (B1 st) t/\t { nx:=fun _ H'=>Q .non H',rt:=Q } (start N vs) H) :
 ∃ fd:FuncData,(∀ (s:Shared) (v:Value),BindsTo s fd ⟨[v],[]⟩ [(x,v)])/\∀ base:Heap,K.In base->base.Ns mainGlobals mg->FnOk P w K mg base CX0 (k + 1) fa fd [x] (spLaw K):=by
 obtain ⟨f,fd,F,hm,hb⟩:=T.ex
 rw [hfa] at hm
 cases hm
 exact ⟨fd,fun s v=>.of_eq (hb [v] rfl),fun base h1 h2=>F.ok S law_len fun cdv A outer s H vs Q E hr h=>body base h1 h2 fa cdv A outer s H vs Q E hr h⟩
theorem law_walk {l:PySem.W.OpenLaw} {q:Program} {loose:List Str} {XP:(Str->Option Value)->Heap->Prop} {YP:World->Heap->Prop} {d:DefRec} {K:Params->PySem.W.Frag} {x:Str} {k:Nat} (hn:l.most=some 63) (hdf:d.params.defaults=[]) (hk:Room k callerA)
 (hY:∀ (w:World) (h:Heap),YP w h->(K w.params).In h)
 (F:∀ (w:World) (mg:Str->Option Value) (fa:Addr) (h:Heap),(K w.params).In h->h.Ns mainGlobals mg->mg d.name=some (.ref fa)->
   ∃ fd:FuncData,(∀ (s:Shared) (u:Value),BindsTo s fd ⟨[u],[]⟩ [(x,u)])/\∀ base:Heap,(K w.params).In base->base.Ns mainGlobals mg->FnOk l.prog w (K w.params) mg base CX0 k fa fd [x] (spLaw (K w.params))) :
 PySem.W.WalkO q loose XP YP l.row.toRowW d [] (fun f vs=>PySem.call f vs):=
 L2.walk_of (n:=63) (k:=k) (x:=x) (CX:=fun _=>CX0) (sp:=fun w=>spLaw (K w.params)) hn (by decide) hdf hk hY F (fun _ _ a ns hl _ hS=>⟨a,ns,rfl,hS,hl,fun _=>rfl⟩) fun _ _ _ _ _ z=>z
theorem glob_I {K:PySem.W.Frag} {h:Heap} {mg:Str->Option Value} {n:Str} {v:Value} {i:Int} (X:K.In h) (G:h.Ns mainGlobals mg) (e:PySem.W.nsIn K mainGlobals n=some (some v)) (hv:∃ t,v=.int i t):∃ t,mg n=some (.int i t):=by
 obtain ⟨t,rfl⟩:=hv
 exact ⟨t,PySem.W.mg_of X G e⟩
theorem glob_S {K:PySem.W.Frag} {h:Heap} {mg:Str->Option Value} {n:Str} {x z:Str} {t:Tok} (X:K.In h) (G:h.Ns mainGlobals mg) (e:PySem.W.nsIn K mainGlobals n=some (some (.str x t))) (hv:x=z):∃ t,mg n=some (.str z t):=by
 subst hv
 exact ⟨t,PySem.W.mg_of X G e⟩
open PySem PySem.Spec PyProof.Rows PySem.W
open Builtin Builtin.ObjectAttr
abbrev bmVE:List Value:=[.type "ValueError",.type "Exception",.type "BaseException",.type "object"]
def excMk (K:Frag) (C:Addr):Bool:=match K.lookup C with
 | some ⟨.type "type",_,.cls cd,sl⟩=>(match cd.mro,sl.toList with
   | .ref C' :: bm,[_,_,_,_,some (.builtin n),_]=>C' == C && n == "ValueError.__new__" && !cd.hasDel && cd.hasDict && tailIn K bmVE bm
   | _,_=>false) && specialIn K (.ref C) "__call__" == some (some (.builtin "type.__call__")) && instIn K (.ref C) (.type "type") == some true
 | _=>false
structure ExcCls (h:Heap) (C:Addr) (bm:List Value):Prop where
 at_:∃ (N:Addr) (nm qn:Str) (bs:List Value) (sn:List Str) (sub:List Value) (ab:Bool) (col:Option Bool) (dd:Option Addr) (k0 k1 k2 k3 k5:Option Value),
  h.get? C=some (excClassObj nm qn C N bs bm true sn sub ab col dd k0 k1 k2 k3 k5 "ValueError.__new__")
 tl:OwnTail h bmVE bm
theorem excMk_of {K:Frag} {h:Heap} {C:Addr} (X:K.In h) (q:excMk K C=true) :
 ∃ bm,ExcCls h C bm/\specialIn K (.ref C) "__call__"=some (some (.builtin "type.__call__"))/\instIn K (.ref C) (.type "type")=some true:=by
 unfold excMk at q
 split at q
 ·rename_i dd cd sl ho
  simp only [Bool.and_eq_true,beq_iff_eq] at q
  obtain ⟨⟨q,hcall⟩,hinst⟩:=q
  split at q
  ·rename_i C' bm k0 k1 k2 k3 n k5 hm hs
   simp only [Bool.and_eq_true,beq_iff_eq,Bool.not_eq_true'] at q
   obtain ⟨⟨⟨⟨rfl,rfl⟩,hdel⟩,hhd⟩,ht⟩:=q
   obtain ⟨nm,bs,mro,ns,qn,hd,sn,sub,ab,col,del⟩:=cd
   dsimp only at hm hdel hhd
   subst hm hdel hhd
   have hsl:sl=#[k0,k1,k2,k3,some (.builtin "ValueError.__new__"),k5]:=by
    obtain ⟨l⟩:=sl
    simp only at hs
    rw [hs]
   subst hsl
   exact ⟨bm,⟨⟨ns,nm,qn,bs,sn,sub,ab,col,dd,k0,k1,k2,k3,k5,X _ _ ho⟩,tail_of_in X ht⟩,hcall,hinst⟩
  ·cases q
 ·cases q
abbrev excObj (C t:Addr):Obj:={ cls:=.ref C,data:=.fields #[.ref t,.none,.none,.none,.bool false,.none] }
abbrev argsObj (vs:List Value):Obj:={ cls:=.type "tuple",data:=.seq vs.toArray }
section
variable {prog:Program} {w:World} {A:Around} {E:Value->Shared->Prop} {K:Frag} {C f:Addr} {R:Result->Shared->Prop} {h:Heap} {g:Array GenState} {d:Drawn} {t:Nat} {os:OsState}
theorem exc_make {vs:List Value} (X:K.In h) (hm:excMk K C=true) (hi:findIn K (.ref C) "__init__"=some (some (.ref f))) (hf:typeIn K (.ref f)=some (.type "function")) (hl:vs.length<=sizeLine)
 (hq:codeAny (model prog w) (A.under (.builtin "type.__call__" ⟨.ref C :: vs,[]⟩)) (.call (.ref f) ⟨.ref (h.objs.size + 1) :: vs,[]⟩) (InitBack (h.objs.size + 1) R)
   ⟨(h.push (argsObj vs)).push (excObj C h.objs.size),g,d,t,os⟩) :
 codeAny (model prog w) A (.call (.ref C) ⟨vs,[]⟩) R ⟨h,g,d,t,os⟩:=by
 have F:=PySem.F.excBase_ValueError
 obtain ⟨bm,⟨⟨N,nm,qn,bs,sn,sub,ab,col,dd,k0,k1,k2,k3,k5,hC⟩,T⟩,hcall,hinst⟩:=excMk_of X hm
 have call:=looks_specialIn (M:=model prog w) X hcall
 have typ:=looks_instIn (M:=model prog w) X hinst
 refine codeAny_of_tree ?_
 show wpAny _ _ (callAny (.ref C) _) _ _ _
 refine nd_load hC ?_
 show wpAny _ _ (callAny.viaDunder (.ref C) _) _ _ _
 unfold callAny.viaDunder
 refine wpAny_bind (call.at ?_)
 dsimp only
 rw [tc_bind]
 refine wpAny_bind (wpAny_pure (wpAny_bind (wpAny_pure ?_)))
 refine wpAny_pure (a:=Fin.again (.call (.builtin "type.__call__") ⟨.ref C :: vs,[]⟩)) (And.intro rfl ?_)
 refine codeAny_call_builtin_at (Code.quiet_builtin _ (by decide +kernel)) entry_typeCall (check_slot tc_kind tc_split typ (tc_args _ _ _) ?_)
 repeat (first | with_reducible refine wpAny_loadPart_at hC ?_ | with_reducible refine wpAny_madeBy_exc hC ?_ | wp_step)
 refine codeAny_call_builtin_code (Code.quiet_builtin _ F.quiet) (wpAny_check_new_subT F T hC ?_)
 refine codeAny_exc_new_subT F T hC ?_ hl
 show wpAny _ _ _ _ _ _
 have k:∀ b o,h.get? b=some o->((h.push (argsObj vs)).push (excObj C h.objs.size)).get? b=some o:=fun b o e=>Heap.get?_push_of_some _ (Heap.get?_push_of_some _ e)
 have hC₁:=k _ _ hC
 have hget:((h.push (argsObj vs)).push (excObj C h.objs.size)).get? (h.objs.size + 1)=some (excObj C h.objs.size):=by heap_get
 have hcC:(Value.ref C :: bm).contains (.ref C)=true:=by simp
 have X1:K.In ((h.push (argsObj vs)).push (excObj C h.objs.size)):=X.keeps k
 unfold isInstance
 repeat (first | with_reducible refine wpAny_loadPart_at hget ?_ | (with_reducible refine wpAny_isSubtype_exc hC₁ ?_; rw [hcC]) | wp_step)
 show wpAny _ _ (typeLookup (.ref C) _) _ _ _
 refine (looks_findIn X1 hi).at ?_
 refine wpAny_holding (wpAny_bind ((bind_fn X1 _ hf).at ?_))
 refine wpAny_bind (wpAny_call (codeAny_mono hq fun r s' z=>?_))
 rcases r with e | (v | _ | _ | _) <;> first | exact z | exact z.elim | skip
 obtain ⟨rfl,z⟩:=z
 wp_walk
 exact z
end
section
variable {prog:Program} {w:World} {A:Around} {E:Value->Shared->Prop} {K:Frag} {C e:Addr} {R:Result->Shared->Prop} {h:Heap} {g:Array GenState} {d:Drawn} {t:Nat} {os:OsState}
theorem base_init {bm:List Value} {oe:Obj} {t0:Addr} {rest:List Value} {u:Value} {Q:Value->Shared->Prop} (c:ExcCls h C bm) (he:h.get? e=some oe) (hcl:oe.cls=.ref C) (hd:oe.data=.fields (.ref t0 :: rest).toArray)
 (hq:∀ h',(∀ b o,b≠e->h.get? b=some o->h'.get? b=some o)->(∃ t1:Addr,h'.get? e=some { cls:=.ref C,dict:=oe.dict,data:=.fields (.ref t1 :: rest).toArray,slots:=oe.slots })->h.objs.size<=h'.objs.size->Q .none ⟨h',g,d,t,os⟩) :
 wpAny (model prog w) A (call (.builtin "ValueError.__init__") [.ref e,u]) Q E ⟨h,g,d,t,os⟩:=by
 have F:=PySem.F.excBase_ValueError
 obtain ⟨⟨N,nm,qn,bs,sn,sub,ab,col,dd,k0,k1,k2,k3,k5,hC⟩,T⟩:=c
 obtain ⟨oc,od,odt,osl⟩:=oe
 dsimp only at hcl hd
 subst hcl hd
 refine wpAny_call (codeAny_call_builtin F.init.plain F.initEntry (wpAny_check_init_subT F T hC he rfl ?_))
 wp_walk
 refine hq _ (fun b o hb e1=>?_) ⟨h.objs.size,?_⟩ ?_
 ·rw [Heap.get?_update_other _ _ (Ne.symm hb)]
  exact Heap.get?_push_of_some _ e1
 ·rw [Heap.get?_update_self _ (Heap.get?_push_of_some _ he) rfl]
  rfl
 ·rw [Heap.size_update,Heap.size_push]; omega
def Dm:List Value->Bool
 | .ref _ :: r=>Dm r
 | l=>l == bmVE
theorem refuse_VE (self:Value):∀ {l:List Value},Dm l=true->refuseLoop self "__setattr__" l=pure ()
 | .ref c :: r,e=>by rw [refuseLoop_ref]; exact refuse_VE self (by simpa [Dm] using e)
 | [],e=>by simp [Dm] at e
 | .type n :: r,e=>by
   have e':(Value.type n :: r)=bmVE:=by simpa [Dm] using e
   rw [e']; exact PySem.F.store_ValueError.passes self
 | .none :: r,e=>by simp [Dm] at e
 | .bool b :: r,e=>by simp [Dm] at e
 | .int i k :: r,e=>by simp [Dm] at e
 | .str i k :: r,e=>by simp [Dm] at e
 | .bytes i k :: r,e=>by simp [Dm] at e
 | .float i k :: r,e=>by simp [Dm] at e
 | .builtin i :: r,e=>by simp [Dm] at e
theorem over_tail {h:Heap} {bm:List Value} (T:OwnTail h bmVE bm):Dm bm=true:=by
 induction T with
 | base=>rfl
 | own _ _ _ _ ih=>simpa [Dm] using ih
end
section
variable {prog:Program} {w:World} {A:Around} {E:Value->Shared->Prop} {K:Frag} {C x:Addr} {R:Result->Shared->Prop} {s:Shared}
theorem exc_sa_open {ox:Obj} {od:Option Obj} {name:Str} {tk:Tok} {v:Value} (X:K.In s.heap) (I:InstAt s.heap x ox C od) (hm:excMk K C=true) (ho:mroIn K C (.type "object")=some true) (ht:findIn K (.ref C) name=some none)
 (h:wpAny (model prog w) A.in1 (storeInOwnDict (.ref x) (.ref C) (.str name tk) name v false)
   (fun fin s'=>match fin with | .done f=>R (.ok f) s' | .again c'=>c'.quiet=true/\codeAny (model prog w) A c' R s') (fun e s'=>R (.error e) s') s) :
 codeAny (model prog w) A (.call (.builtin "object.__setattr__") ⟨[.ref x,.str name tk,v],[]⟩) R s:=by
 have SF:=PySem.F.store_object
 obtain ⟨bm,⟨⟨N,nm,qn,bs,sn,sub',ab,col,dd,k0,k1,k2,k3,k5,hC⟩,T⟩,hcall,hinst⟩:=excMk_of X hm
 have sub:Looks (model prog w) s.heap (isInstance (.ref x) (.type "object")) true:=I.type.andThen (looks_mroIn X ho)
 refine codeAny_call_builtin SF.slot.plain SF.entry (@check_slot (model prog w) _ _ s "object.__setattr__" "object" "__setattr__" (.ref x) [.str name tk,v] [] _ SF.kind SF.split sub (SF.args (.ref x) (.str name tk) v) ?_)
 have hmro:Looks (model prog w) s.heap (mroOf (.ref C)) (.ref C :: bm):=((Looks.ld (part:=none) hC).andThen .now).andThen .now
 have L3:Looks (model prog w) s.heap (storeTaker? none) none:=.now
 rw [osa_eq,refuse_eq]
 refine wpAny_bind (wpAny_bind (I.type.here (wpAny_bind (hmro.here ?_))))
 rw [refuse_VE _ (show Dm (.ref C :: bm)=true by unfold Dm; exact over_tail T)]
 refine wpAny_pure (wpAny_bind (I.type.here (wpAny_bind ((looks_findIn X ht).here (wpAny_bind (L3.here ?_))))))
 exact h
theorem exc_set {oe:Obj} {vs:Array Value} {name:Str} {v:Value} {Q:Unit->Shared->Prop} (X:K.In s.heap) (he:s.heap.get? x=some oe) (hcl:oe.cls=.ref C) (hdc:oe.dict=none) (hdt:oe.data=.fields vs)
 (hm:excMk K C=true) (ho:mroIn K C (.type "object")=some true) (hs:findIn K (.ref C) "__setattr__"=some (some (.builtin "object.__setattr__"))) (ht:findIn K (.ref C) name=some none)
 (h:∀ h',h'.get? x=some { oe with dict:=some s.heap.objs.size }->h'.Ns1 s.heap.objs.size (fun y=>if y=name then some v else none)->(∀ b o,b≠x->s.heap.get? b=some o->h'.get? b=some o)->Q () { s with heap:=h',toks:=s.toks + 2 }) :
 wpAny (model prog w) A (setAttr (.ref x) name v) Q E s:=by
 have J:InstAt s.heap x oe C none:=⟨he,hcl,by unfold notCls; rw [hdt],by rw [hdc]; trivial⟩
 refine set_plain X J hs (exc_sa_open (s:={ s with toks:=s.toks + 1 }) X J hm ho ht ?_)
 obtain ⟨bm,⟨⟨N,nm,qn,bs,sn,sub',ab,col,dd,k0,k1,k2,k3,k5,hC⟩,T⟩,hcall,hinst⟩:=excMk_of X hm
 obtain ⟨hp,g,d,t,os⟩:=s
 obtain ⟨oc,odd,odt,osl⟩:=oe
 dsimp only at he hcl hdc hdt X h
 subst hcl hdc hdt
 unfold storeInOwnDict
 have hx₁:(hp.push { cls:=.type "dict",data:=.dict #[] }).get? x=some ⟨.ref C,none,.fields vs,osl⟩:=Heap.get?_push_of_some _ he
 have hxs:x≠hp.objs.size:=Nat.ne_of_lt (Heap.lt_size he)
 have hcd:Looks (model prog w) hp (classData C) _:=(Looks.ld (part:=none) hC).andThen .now
 refine wpAny_bind (wpAny_pure (wpAny_bind ?_))
 show wpAny _ _ (instanceDict x true) _ _ _
 unfold instanceDict
 refine wpAny_bind (wpAny_loadPart he ?_)
 dsimp only
 refine wpAny_bind (hcd.at ?_)
 dsimp only
 simp only [Bool.not_true,Bool.false_eq_true,if_false,Bool.false_or,typeHasDict]
 refine wpAny_bind (wpAny_alloc' ?_)
 refine wpAny_bind (wpAny_update' hx₁ ?_)
 refine wpAny_pure ?_
 have hgd:((hp.push { cls:=.type "dict",data:=.dict #[] }).update x fun o=>{ cls:=o.cls,dict:=some hp.objs.size,data:=o.data,slots:=o.slots }).get? hp.objs.size
  = some { cls:=.type "dict",data:=.dict #[] }:=
  (Heap.get?_update_ne _ _ _ _ hxs.symm).trans (Heap.get?_push_at rfl rfl)
 have hnd:((hp.push { cls:=.type "dict",data:=.dict #[] }).update x fun o=>{ cls:=o.cls,dict:=some hp.objs.size,data:=o.data,slots:=o.slots }).Ns hp.objs.size (fun _=>none):=
  ⟨_,#[],_,hgd,rfl,fun e he=>absurd he (by simp),fun _=>rfl⟩
 show wpAny _ _ (storeInDict hp.objs.size (.str name _) name v) _ _ _
 unfold storeInDict newKeyGuard
 refine wpAny_bind (wpAny_pure (wpAny_bind (wpAny_nsSet1 (Heap.Ns1.of_empty hnd) fun h' hn' hs=>?_)))
 obtain ⟨oD,esD,epD,hoD,hdD,hcD⟩:=hn'.count (Within.cons name v Within.nil)
 refine wpAny_bind (wpAny_lookBehind hoD (by rw [hdD]; exact pastItsLine_dict (Nat.le_trans hcD (by rw [List.length_cons,List.length_nil,sizeLine_eq]; omega))) ?_)
 wp_walk
 refine h h' ?_ hn' fun b o hb e1=>?_
 ·refine (hs.2 x hxs).trans (Heap.get?_update_self _ hx₁ rfl)
 ·exact (hs.2 b (Nat.ne_of_lt (Heap.lt_size e1))).trans ((Heap.get?_update_ne _ _ _ _ hb).trans (Heap.get?_push_of_some _ e1))
end
def excGet (K:Frag) (C:Addr):Bool:=findIn K (.ref C) "__getattribute__" == some (some (.builtin "BaseException.__getattribute__")) && findIn K (.ref C) "__getattr__" == some none && mroIn K C (.type "BaseException") == some true
section
variable {prog:Program} {w:World} {A:Around} {E:Value->Shared->Prop} {K:Frag} {C x:Addr} {R:Result->Shared->Prop} {s:Shared} {name:Str}
theorem exc_ga {ox:Obj} {od:Option Obj} {tk:Tok} {r:Found} (X:K.In s.heap) (I:InstAt s.heap x ox C od) (hg:excGet K C=true) (hf:findObj K C od name=some r)
 (h:match r with | .value v=>R (.ok (.ret v)) s | .bind g a=>wpAny (model prog w) A.in1 (call g [a,.ref x,.ref C]) (fun v s'=>R (.ok (.ret v)) s') (fun e s'=>R (.error e) s') s | .missing=>False) :
 codeAny (model prog w) A (.call (.builtin "BaseException.__getattribute__") ⟨[.ref x,.str name tk],[]⟩) R s:=by
 unfold excGet at hg
 simp only [Bool.and_eq_true,beq_iff_eq] at hg
 obtain ⟨⟨hga,hgk⟩,hb⟩:=hg
 have sub:Looks (model prog w) s.heap (isInstance (.ref x) (.type "BaseException")) true:=I.type.andThen (looks_mroIn X hb)
 refine codeAny_call_builtin PySem.F.attrBase_ValueError.ga.plain PySem.F.entry_bexc_ga ?_
 refine @check_slot (model prog w) _ _ s "BaseException.__getattribute__" "BaseException" "__getattribute__" (.ref x) [.str name tk] [] _ (by decide +kernel) (by decide +kernel) sub (PySem.F.args_bexc_ga (.ref x) (.str name tk)) ?_
 unfold Builtin.«object.__getattribute__»
 have L0:=I.type (M:=model prog w)
 have L1:=looks_find (M:=model prog w) X I hf
 refine wpAny_bind (wpAny_pure (wpAny_bind (wpAny_pure (wpAny_bind (L0.here (wpAny_bind (L1.here ?_)))))))
 cases r with
 | value v=>exact wpAny_pure h
 | bind g a=>
   show wpAny _ _ (holding [a] (call g [a,.ref x,.ref C]) >>= ret) _ _ _
   exact wpAny_bind (wpAny_holding (wpAny_mono h (fun v s' z=>wpAny_pure z) fun _ _ z=>z))
 | missing=>exact h.elim
theorem exc_getAttr {ox:Obj} {od:Option Obj} {v:Value} {expr:Bool} {Q:Value->Shared->Prop} (X:K.In s.heap) (I:InstAt s.heap x ox C od) (hg:excGet K C=true) (hf:findObj K C od name=some (.value v)) (hv:handedIn v=true)
 (h:Q v { s with toks:=s.toks + 1 }):wpAny (model prog w) A (getAttr (.ref x) name expr) Q E s:=by
 have hg':=hg
 unfold excGet at hg'
 simp only [Bool.and_eq_true,beq_iff_eq] at hg'
 obtain ⟨⟨hga,hgk⟩,hb⟩:=hg'
 refine wpAny_bind (wpAny_mkText (wpAny_holding (wpAny_bind (I.type _ _ _ _ (fun _ _ e=>e) (wpAny_bind (looks_findIn X hga _ _ _ _ (fun _ _ e=>e) ?_))))))
 dsimp only
 have hx2:(Value.builtin "BaseException.__getattribute__" == Value.builtin "object.__getattribute__")=false:=by decide +kernel
 rw [show (onTheHeap (Value.ref C) && Value.builtin "BaseException.__getattribute__" == Value.builtin "object.__getattribute__")=false from by rw [hx2,Bool.and_false],if_neg (by decide)]
 refine wpAny_bind (looks_hook X (mc:=.ref C) (r:=none) hgk _ _ _ _ (fun _ _ e=>e) (wpAny_bind (wpAny_attempt (wpAny_holding ?_))))
 unfold callGetattribute
 rw [show (expr && onTheHeap (Value.builtin "BaseException.__getattribute__"))=false from Bool.and_false _,if_neg (by decide)]
 unfold boundAndCalled
 rw [PySem.F.attrBase_ValueError.ga.bind]
 refine wpAny_bind (wpAny_pure ?_)
 show wpAny _ _ (call (.builtin "BaseException.__getattribute__") [.ref x,.str name s.toks]) _ _ _
 refine wpAny_call (exc_ga (s:={ s with toks:=s.toks + 1 }) X I hg hf ?_)
 show wpAny _ _ (handedOut v) _ _ _
 rw [handedOut_of hv]; exact wpAny_pure h
end
def ExcIs (e C:Addr) (d:Option Addr) (h:Heap):Prop:=∃ (t:Addr) (rest:List Value) (sl:Array (Option Value)),h.get? e=some { cls:=.ref C,dict:=d,data:=.fields (.ref t :: .none :: rest).toArray,slots:=sl }
def ExcRs (e C:Addr) (d:Option Addr) (h:Heap):Prop:=∃ (t:Addr) (rest:List Value) (sl:Array (Option Value)),h.get? e=some { cls:=.ref C,dict:=d,data:=.fields (.ref t :: rest).toArray,slots:=sl }
def excR (e C:Addr) (d:Option Addr):HO:=.ext (ExcRs e C d)
theorem excR_ok {P:Program} {w:World} {H:Hp} {h:Heap} {e C:Addr} {d:Option Addr} (x:ExcRs e C d h):Cm P w H h e (excR e C d):=by
 refine ⟨x,?_,fun h1 h2 p k=>?_⟩
 ·obtain ⟨t,r,sl,q⟩:=x; exact ⟨_,q⟩
 ·obtain ⟨t,r,sl,q⟩:=p; exact ⟨t,r,sl,k _ q⟩
theorem excR_is {P:Program} {w:World} {H:Hp} {h:Heap} {e C:Addr} {d:Option Addr} (x:Cm P w H h e (excR e C d)):ExcRs e C d h:=x.1
def excO (e C:Addr) (d:Option Addr):HO:=.ext (ExcIs e C d)
theorem excO_ok {P:Program} {w:World} {H:Hp} {h:Heap} {e C:Addr} {d:Option Addr} (x:ExcIs e C d h):Cm P w H h e (excO e C d):=by
 refine ⟨x,?_,fun h1 h2 p k=>?_⟩
 ·obtain ⟨t,r,sl,q⟩:=x; exact ⟨_,q⟩
 ·obtain ⟨t,r,sl,q⟩:=p; exact ⟨t,r,sl,k _ q⟩
theorem excO_is {P:Program} {w:World} {H:Hp} {h:Heap} {e C:Addr} {d:Option Addr} (x:Cm P w H h e (excO e C d)):ExcIs e C d h:=x.1
structure Exc (H:Hp) (e C dx:Addr) (fs:List (Str × V)):Prop where
 at_:H e=some (excO e C (some dx))\/H e=some (excR e C (some dx))
 dct:H dx=some (.xd fs)
theorem Exc.is {P:Program} {w:World} {H:Hp} {h:Heap} {e C dx:Addr} {fs:List (Str × V)} (x:Exc H e C dx fs) (k:HOk P w H h):ExcRs e C (some dx) h:=by
 rcases x.at_ with z | z
 ·obtain ⟨t,r,sl,q⟩:=excO_is (k e _ z)
  exact ⟨t,_,sl,q⟩
 ·exact excR_is (k e _ z)
def xOk (K:PySem.W.Frag) (C:Addr) (n:Str):Bool:=excMk K C && excGet K C && (PySem.W.clsIn K C).isSome && PySem.W.findIn K (.ref C) "__setattr__" == some (some (.builtin "object.__setattr__")) &&
 PySem.W.findIn K (.ref C) "__class__" == some (some (.builtin "object.__class__")) && PySem.W.specialIn K (.builtin "object.__class__") "__get__" == some (some (.builtin "getset_descriptor.__get__")) &&
 PySem.W.takesIn K (.builtin "object.__class__") == some true && PySem.W.mroIn K C (.type "object") == some true && PySem.W.findIn K (.ref C) n == some none && (PySem.W.clsIn K C).any (·.hasDict)
structure XOk (K:PySem.W.Frag) (C:Addr) (n:Str):Prop where
 mkk:excMk K C=true
 get:excGet K C=true
 cls:(PySem.W.clsIn K C).isSome=true
 sa:PySem.W.findIn K (.ref C) "__setattr__"=some (some (.builtin "object.__setattr__"))
 ca:PySem.W.findIn K (.ref C) "__class__"=some (some (.builtin "object.__class__"))
 cg:PySem.W.specialIn K (.builtin "object.__class__") "__get__"=some (some (.builtin "getset_descriptor.__get__"))
 ct:PySem.W.takesIn K (.builtin "object.__class__")=some true
 mo:PySem.W.mroIn K C (.type "object")=some true
 nm:PySem.W.findIn K (.ref C) n=some none
 hd:(PySem.W.clsIn K C).any (·.hasDict)=true
theorem xOk_of {K:PySem.W.Frag} {C:Addr} {n:Str} (h:xOk K C n=true):XOk K C n:=by
 unfold xOk at h
 simp only [Bool.and_eq_true,beq_iff_eq] at h
 obtain ⟨⟨⟨⟨⟨⟨⟨⟨⟨a,b⟩,c⟩,d⟩,e⟩,f⟩,g⟩,i⟩,j⟩,k⟩:=h
 exact ⟨a,b,c,d,e,f,g,i,j,k⟩
structure GBase (K:PySem.W.Frag) (mg:Str->Option Value) (x:Str) (G:Addr):Prop where
 mg:mg x=some (.ref G)
 rd:PySem.W.readsIn K G (.type "type")=true
 fc:PySem.W.findCls K (.ref G) (.type "type") "__init__"=some (.val (.builtin "ValueError.__init__"))
 ga:PySem.W.specialIn K (.ref G) "__getattribute__"=some (some (.builtin "type.__getattribute__"))
section
variable {X:Cx} {pins:List (Addr × Obj)} {σ:St} {H:Hp} {s:Shared} {A:Around} {E:Value->Shared->Prop}
def tBInit (K:PySem.W.Frag) (t:TA):TE:=fun σ H Q=>t σ H fun vs H1=>∃ e C d v,vs=[.ref e,v]/\H1 e=some (excO e C d)/\excMk K C=true/\Q .non H1
theorem binit_ok {e C:Addr} {d:Option Addr} {u:Value} {Q:Value->Shared->Prop} (I:Inv X pins σ H s) (ea:H e=some (excO e C d)) (hm:excMk X.K C=true) (h:∀ s',Inv X pins σ H s'->Q .none s') :
 wpAny (model X.prog X.w) A (call (.builtin "ValueError.__init__") [.ref e,u]) Q E s:=by
 obtain ⟨t0,rest,sl,q⟩:=excO_is (I.hok e _ ea)
 obtain ⟨bm,c,_,_⟩:=excMk_of I.kIn hm
 obtain ⟨hp,g,dr,t,os⟩:=s
 refine base_init c q rfl rfl fun h' k ⟨t1,q1⟩ _=>h _ ?_
 have I2:=I.write (x:=e) (e:=e) (o:=excO e C d) (h':=h') (t':=t) (by rw [ea]; exact True.intro) (.inl rfl) (fun b o hb z=>k b o hb z) ⟨_,q1⟩ (excO_ok ⟨t1,rest,sl,q1⟩)
 have eH:upd H e (excO e C d)=H:=by
  funext b
  unfold upd
  split
  ·rename_i z; rw [z,ea]
  ·rfl
 rw [eH] at I2
 exact I2
theorem pe_binit {x:Str} {G:Addr} {p apos pos:Pos} {a:Expr} {es:List Expr} {t:TA} {pl:Sem Bool} (B:GBase X.K X.mg x G) (hg:Gl X x) (ha:PA X (a :: es) t) (hdb:(x == ("__debug__":Str))=false:=by decide)
 (hst:starEach (a :: es) X.env=(false,eval a X.env) :: starEach es X.env:=by rfl) (hpl:(backTo pos (starEach es X.env)).any (·.1)=false:=by rfl)
 (ht:eval (.Call (.Attribute (.Name x p) "__init__" apos) (a :: es) [] pos) X.env=(do
   let ov ← eval (.Name x p) X.env
   standAt apos.atName
   let (f,first) ← holding [ov] (getMethod ov "__init__" pl)
   callWith pos f first (backTo pos (starEach (a :: es) X.env)) (backToKw pos (keywordEach [] X.env))):=by rfl) :
 PE X (.Call (.Attribute (.Name x p) "__init__" apos) (a :: es) [] pos) (tBInit X.K t):=by
 intro pins s σ H Q I h
 refine PySem.W.methodCall_KW (pl:=pl) (thn (pe_glob hg B.mg (show RelV (.ref G) (.ref G) from rfl) hdb pins s σ H (fun v H1=>v=.ref G/\H1=H) I ⟨rfl,rfl⟩) fun u s1 ⟨v,H1,I1,rv,ev,eH⟩=>?_) ht
 subst ev eH
 obtain rfl:u=Value.ref G:=rv
 refine PySem.W.method_cls I1.kIn B.ga (PySem.W.cls_value I1.kIn B.rd B.fc rfl ?_)
 have hA:=ha pos pins _ σ H1 _ (I1.tok (s1.toks + 1)) h
 rw [hst] at hA ⊢
 refine Calls.callWith_builtin (by show (false || (backTo pos (starEach es X.env)).any (·.1))=false; rw [hpl] <;> rfl) (Calls.evalArgs_plain ?_)
 refine thn hA fun us s2 ⟨vs,H2,I2,r2,e,C,d,v,ev,ea,hm,q⟩=>?_
 subst ev
 obtain ⟨u1,u2,rfl,r1,r2'⟩:=vals2 r2
 obtain rfl:u1=Value.ref e:=r1
 exact binit_ok I2 ea hm fun s' I'=>⟨.non,H2,I',rfl,q⟩
theorem xset_ok {e C:Addr} {n:Str} {y:V} {u:Value} {Q:Unit->Shared->Prop} (I:Inv X pins σ H s) (ea:H e=some (excO e C none)) (xo:XOk X.K C n) (ry:RelV y u)
 (h:∀ s' dx,H dx=none->dx≠e->Inv X pins σ (upd (upd H e (excO e C (some dx))) dx (.xd [(n,y)])) s'->Q () s'):wpAny (model X.prog X.w) A (setAttr (.ref e) n u) Q E s:=by
 obtain ⟨t0,rest,sl,q⟩:=excO_is (I.hok e _ ea)
 refine exc_set I.kIn q rfl rfl rfl xo.mkk xo.mo xo.sa xo.nm fun h' q1 hn k=>?_
 have hf:H s.heap.objs.size=none:=I.hok.fresh (Nat.le_refl _)
 have hne:s.heap.objs.size≠e:=(Ah ea hf).symm
 refine h _ _ hf hne (I.un (t':=s.toks + 2) ⟨fun b o e1 n1 _ _=>?_,fun b o e1 n1 _ _=>?_,fun b o e1 n1 _=>?_,fun b o e1 _=>?_,fun b xs e1=>?_,fun b o' u' e1=>?_,fun b ps e1=>?_⟩ fun b o e1=>?_)
 ·exact k b o (fun z=>by rw [z,ea] at n1; cases n1) e1
 ·exact ⟨o.slots,k b o (fun z=>by rw [z,ea] at n1; cases n1) e1⟩
 ·rw [Aj (Nat.ne_of_lt (Heap.lt_size e1)),Aj (fun z=>by rw [z,ea] at n1; cases n1)]
  exact n1
 ·by_cases hb:b=e
  ·rw [hb]; exact ⟨_,q1⟩
  ·exact ⟨o,k b o hb e1⟩
 ·rw [Aj (Ah e1 hf),Aj (fun z=>by rw [z,ea] at e1; cases e1)]; exact e1
 ·rw [Aj (Ah e1 hf),Aj (fun z=>by rw [z,ea] at e1; cases e1)]; exact e1
 ·exact ⟨#[],by rw [Aj (Ah e1 hf),Aj (fun z=>by rw [z,ea] at e1; cases e1),e1]; simp⟩
 ·by_cases h1:b=s.heap.objs.size
  ·subst h1
   rw [Ag] at e1
   cases e1
   refine ⟨_,hn,fun f=>?_⟩
   show RelO (List.lookup f [(n,y)]) (if f=n then some u else none)
   by_cases z:f=n
   ·subst z
    rw [if_pos rfl]
    simp only [List.lookup,beq_self_eq_true]
    exact ry
   ·rw [if_neg z]
    have z':(f == n)=false:=beq_eq_false_iff_ne.mpr z
    simp [List.lookup,z',RelO]
  ·rw [Aj h1] at e1
   by_cases h2:b=e
   ·subst h2
    rw [Ag] at e1
    cases e1
    exact excO_ok ⟨t0,rest,sl,q1⟩
   ·rw [Aj h2] at e1
    refine (I.hok b o e1).stay (fun c v hc q=>k c v ?_ q) (fun c z=>?_) fun c xs z=>?_
    ·rcases hc with z | z
     ·rw [z]; exact h2
     ·intro z2; rw [z2,ea] at z; cases z
    ·rw [Aj (Ah z hf),Aj (fun z2=>by rw [z2,ea] at z; cases z)]; exact z
    ·rw [Aj (Ah z hf),Aj (fun z2=>by rw [z2,ea] at z; cases z)]; exact z
theorem xget_ok {e C dx:Addr} {fs:List (Str × V)} {n:Str} {y:V} {b:Bool} {Q:Value->Shared->Prop} (I:Inv X pins σ H s) (x:Exc H e C dx fs) (xo:XOk X.K C n) (l:fs.lookup n=some y)
 (h:∀ u s',Inv X pins σ H s'->RelV y u->Q u s'):wpAny (model X.prog X.w) A (getAttr (.ref e) n b) Q E s:=by
 obtain ⟨t0,rest,sl,q⟩:=x.is I.hok
 obtain ⟨mA,hn,hr⟩:=(show ∃ mA,s.heap.Ns1 dx mA/\∀ f,RelO (fs.lookup f) (mA f) from I.hok dx _ x.dct)
 obtain ⟨od,ho,hl⟩:=lookIn_ns hn
 have r1:=hr n
 rw [l] at r1
 obtain ⟨u,eu,ru⟩:=RelO.some_of r1
 have J:PySem.W.InstAt s.heap e _ C (some od):=⟨q,rfl,rfl,ho⟩
 exact exc_getAttr I.kIn J xo.get (PySem.W.findObj_own xo.hd xo.nm rfl (by rw [hl,eu])) (handed_of ru) (h _ _ (I.tok _) ru)
end
def tXFld (K:PySem.W.Frag) (ta:TE) (f:Str):TE:=fun σ H Q=>ta σ H fun x H1=>∃ e C dx fs v,x=.ref e/\Exc H1 e C dx fs/\XOk K C f/\fs.lookup f=some v/\Q v H1
def sXFld (K:PySem.W.Frag) (ta tv:TE) (f:Str):TS:=fun D σ H=>tv σ H fun y H1=>ta σ H1 fun x H2=>∃ e C,x=.ref e/\H2 e=some (excO e C none)/\XOk K C f/\
 ∀ dx,H2 dx=none->dx≠e->D.nx σ (upd (upd H2 e (excO e C (some dx))) dx (.xd [(f,y)]))
section
variable {X:Cx} {o e value:Expr} {f:Str} {pos pos' tpos:Pos} {ta tv:TE}
theorem pe_xfld (he:PE X e ta) (hb:attributeBase e f X.env (eval e X.env)=eval e X.env:=by rfl):PE X (.Attribute e f pos) (tXFld X.K ta f):=by
 intro pins s σ H Q I h
 refine attr_of hb (thn (he pins s σ H _ I h) fun u s1 ⟨x,H1,I1,rx,a,C,dx,fs,v,ex,ea,c,l,q⟩=>?_)
 subst ex
 obtain rfl:u=Value.ref a:=rx
 exact xget_ok I1 ea c l fun u' s2 I2 ru=>⟨v,H1,I2,ru,q⟩
theorem ps_xfld (ha:PE X o ta) (hv:PE X value tv) (hs:swapsWith value (some (.Attribute o f pos')) pos.line X.env=pure false:=by rfl):PS X (.Assign [.Attribute o f pos'] value pos) (sXFld X.K ta tv f):=by
 intro pins s σ H D I h
 refine plainObj_wpAny_Assign_Attribute (thn (hv pins s σ H _ I h) fun u s1 ⟨y,H1,I1,ry,q⟩=>thn (ha pins s1 σ H1 _ I1 q) fun ov s2 ⟨x,H2,I2,rx,a,C,ex,ea,c,q2⟩=>?_) hs
 subst ex
 obtain rfl:ov=Value.ref a:=rx
 exact xset_ok I2 ea c ry fun s3 dx n1 n2 I3=>⟨σ,_,I3,q2 dx n1 n2⟩
end
def spInit (K:PySem.W.Frag) (C:Addr) (n:Str):Sp:=fun vs H Q _=>∃ e v,vs=[.ref e,v]/\H e=some (excO e C none)/\∀ dx,H dx=none->dx≠e->Q .non (upd (upd H e (excO e C (some dx))) dx (.xd [(n,v)]))
def tXMake (C:Addr) (n:Str) (t:TA):TE:=fun σ H Q=>t σ H fun vs H1=>∃ v,vs=[v]/\∀ e dx,H1 e=none->H1 dx=none->dx≠e->Q (.ref e) (upd (upd H1 e (excO e C (some dx))) dx (.xd [(n,v)]))
structure XDef (K:PySem.W.Frag) (mg:Str->Option Value) (x n:Str) (C:Addr):Prop where
 mg:mg x=some (.ref C)
 ok:XOk K C n
 kp:PySem.W.keepIn K (.ref C)=true
section
variable {X:Cx} {k:Nat} {f C:Addr} {fd:FuncData} {ps:List Str} {x n:Str} {p pos:Pos} {a:Expr} {t:TA}
theorem run_xmake {pins:List (Addr × Obj)} {σ:St} {H:Hp} {s:Shared} {Q:VK} {us:List Value} {v:V} (M:XOk X.K C n) (hi:PySem.W.findIn X.K (.ref C) "__init__"=some (some (.ref f))) (hfn:PySem.W.isFn X.K (.ref f)=true)
 (F:FnOk X.prog X.w X.K X.mg X.base CX0 k f fd ps (spInit X.K C n)) (hr:Room (k + 1) X.A) (hb:Binds X.K fd ps []) (I:Inv X pins σ H s) (r:Vals [v] us)
 (h:∀ e dx,H e=none->H dx=none->dx≠e->Q (.ref e) (upd (upd H e (excO e C (some dx))) dx (.xd [(n,v)]))) :
 wpAny (model X.prog X.w) X.A (call (.ref C) us) (EP X pins σ Q) X.xe s:=by
 have hfe:H (s.heap.objs.size + 1)=none:=I.hok.fresh (Nat.le_succ _)
 have I1:Inv X pins σ H { s with heap:=s.heap.push (argsObj us) }:=I.kept (t':=s.toks) fun b u q=>Heap.get?_push_of_some _ q
 have e2:((s.heap.push (argsObj us)).push (excObj C s.heap.objs.size)).get? (s.heap.objs.size + 1)=some (excObj C s.heap.objs.size):=by
  have:=Heap.get?_push_size (s.heap.push (argsObj us)) (o:=excObj C s.heap.objs.size) rfl
  rwa [Heap.size_push] at this
 have I2:Inv X pins σ (upd H (s.heap.objs.size + 1) (excO (s.heap.objs.size + 1) C none)) { s with heap:=(s.heap.push (argsObj us)).push (excObj C s.heap.objs.size) }:=
  I1.laid (a:=s.heap.objs.size + 1) (o:=excO (s.heap.objs.size + 1) C none) (t':=s.toks) (fun b u q=>Heap.get?_push_of_some _ q) (Nat.le_of_eq (Heap.size_push _ _)) (excO_ok ⟨s.heap.objs.size,_,_,e2⟩)
 have r2:Vals [V.ref (s.heap.objs.size + 1),v] (Value.ref (s.heap.objs.size + 1) :: us):=.cons rfl r
 have hq:spInit X.K C n [V.ref (s.heap.objs.size + 1),v] (upd H (s.heap.objs.size + 1) (excO (s.heap.objs.size + 1) C none)) (fun v H2=>v=.non/\Q (.ref (s.heap.objs.size + 1)) H2) E0:=by
  refine ⟨_,_,rfl,Ag,fun dx n1 n2=>⟨rfl,?_⟩⟩
  rw [upd_upd]
  rw [Aj n2] at n1
  exact h _ _ hfe n1 n2
 have hl:(Value.ref (s.heap.objs.size + 1) :: us ++ []).length=ps.length:=by
  have e:=r2.length
  rw [F.len _ _ _ _ hq] at e
  rw [List.append_nil]
  exact e.symm
 have hlen:us.length<=sizeLine:=by
  have e:=r.length
  rw [← e,sizeLine_eq]; simp
 obtain ⟨hp,g,d,tt,os⟩:=s
 have hb2:=hb _ (Value.ref (hp.objs.size + 1) :: us) I2.kIn hl
 rw [List.append_nil] at hb2
 refine wpAny_call (exc_make I.kIn M.mkk hi (beq_iff_eq.mp hfn) hlen (codeAny_mono (F.run _ X.stack _ _ ⟨Value.ref (hp.objs.size + 1) :: us,[]⟩ (Value.ref (hp.objs.size + 1) :: us) _ _ E0 (hr.make C us [])
  (I2.env0.make C us []) hb2 r2 hq) fun r s' hq'=>?_))
 cases r with
 | error e=>exact hq'.elim
 | ok fl=>
   cases fl with
   | ret u=>
     obtain ⟨v',H',I3,rv,ev,q3⟩:=I2.after hq'
     subst ev
     have e5:upd H (hp.objs.size + 1) (excO (hp.objs.size + 1) C none)=upd H (hp.objs.size + 1) (excO (hp.objs.size + 1) C none):=rfl
     exact ⟨rv,⟨V.ref (hp.objs.size + 1),H',I3,rfl,q3⟩⟩
   | next=>exact False.elim hq'
   | brk=>exact False.elim hq'
   | cont=>exact False.elim hq'
theorem pe_xmake (D:XDef X.K X.mg x n C) (hi:PySem.W.findIn X.K (.ref C) "__init__"=some (some (.ref f))) (hfn:PySem.W.isFn X.K (.ref f)=true)
 (F:FnOk X.prog X.w X.K X.mg X.base CX0 k f fd ps (spInit X.K C n)) (hb:Binds X.K fd ps []) (hr:Room (k + 1) X.A) (hg:Gl X x)
 (ha:PA X [a] t) (hdb:(x == ("__debug__":Str))=false:=by decide) (he:starEach [a] X.env=(false,eval a X.env) :: starEach [] X.env:=by rfl) (hpl:(backTo pos (starEach [] X.env)).any (·.1)=false:=by rfl) :
 PE X (.Call (.Name x p) [a] [] pos) (tXMake C n t):=by
 intro pins s σ H Q I h
 refine wpAny_Call_Name_kw (ld_glob I hg D.mg ?_ hdb)
 refine PySem.W.callWith_K (h₀:=X.base) I.ok.mod.kin D.kp (thn (ha pos pins s σ H _ I h) fun us s1 ⟨vs,H1,I1,r,v,ev,q⟩=>⟨I1.kIn,?_⟩) he hpl
 subst ev
 exact run_xmake D.ok hi hfn F hr hb I1 r q
end
structure XAt (P:Program) (w:World) (K:PySem.W.Frag) (mg:Str->Option Value) (base:Heap) (x:Str) (k:Nat) (n:Str) (C:Addr):Prop where
 df:XDef K mg x n C
 ex:∃ (f:Addr) (fd:FuncData),PySem.W.findIn K (.ref C) "__init__"=some (some (.ref f))/\PySem.W.isFn K (.ref f)=true/\FnOk P w K mg base CX0 k f fd ["self",n] (spInit K C n)/\Binds K fd ["self",n] []
theorem pe_x {X:Cx} {k j:Nat} {C:Addr} {x n:Str} {p pos:Pos} {a:Expr} {t:TA} (D:XAt X.prog X.w X.K X.mg X.base x k n C) (hr:Room (j + 1) X.A) (hj:k<=j) (hg:Gl X x)
 (ha:PA X [a] t) (hdb:(x == ("__debug__":Str))=false:=by decide) (he:starEach [a] X.env=(false,eval a X.env) :: starEach [] X.env:=by rfl) (hpl:(backTo pos (starEach [] X.env)).any (·.1)=false:=by rfl) :
 PE X (.Call (.Name x p) [a] [] pos) (tXMake C n t):=by
 obtain ⟨f,fd,hi,hfn,F,hb⟩:=D.ex
 exact pe_xmake D.df hi hfn F hb (hr.mono (Nat.succ_le_succ hj)) hg ha hdb he hpl
section
variable {X:Cx}
theorem strsAre_of:∀ {ys:List Str} {us:List Value},Vals (ys.map V.str) us->StrsAre us ys
 | [],_,.nil=>.nil
 | y :: r,_,.cons h t=>by
   obtain ⟨k,rfl⟩:=h
   exact .cons y k (strsAre_of t)
theorem mt_join:MtR X "str.join" (fun x xs H Q=>∃ z a ys,x=.str z/\xs=[.ref a]/\SqL X.K H a (ys.map V.str)/\(ys.map (·.length)).sum + ys.length * z.length<=16777216/\Q (.str (Txt.join z ys)) H):=by
 intro pins s σ H x xs v us Q I rx rs h
 obtain ⟨z,a,ys,rfl,rfl,hq,hz,q⟩:=h
 obtain ⟨t,rfl⟩:=rx
 obtain ⟨u,rfl,ru⟩:=vals1 rs
 cases ru
 obtain ⟨its,rv,pl,_⟩:=I.list hq
 exact join_list pl.isList (by simpa using strsAre_of rv) hz fun t' k=>⟨.str _,H,I.tok _,⟨_,rfl⟩,q⟩
def Ite (K:PySem.W.Frag) (a:Addr):It:=
 ⟨fun i H=>∃ xs x,SqL K H a xs/\xs[i]?=some x,fun i H v H'=>∃ p x,v=.ref p/\H p=none/\(∀ xs,SqL K H a xs->xs[i]?=some x)/\H'=upd H p (.tup [.int i,x]),fun i H=>∃ xs,SqL K H a xs/\xs.length<=i⟩
theorem turn_enum {P:Program} {w:World} {K:PySem.W.Frag} {es:List Expr} {x1} {tp:Pos} (a e it:Addr) (hne:e≠it):Turn P w K (.Tuple es x1 tp) (Ite K a) [e,it] e (fun i h=>(∃ old,IsEnum h e it i old)/\h.IsListIter it a i) where
 mem:=by simp
 obj:=fun i h st b hb=>by
  obtain ⟨⟨old,st1⟩,st2⟩:=st
  rcases List.mem_cons.mp hb with z | z
  ·subst z
   exact ⟨_,st1,fun v z=>by
    have z':Data.fields _=Data.cell v:=z
    cases z'⟩
  ·have z:b=it:=by simpa using z
   subst z
   obtain ⟨o,e,c,d⟩:=st2
   exact ⟨o,e,fun v z=>by rw [d] at z; cases z⟩
 keep:=fun i h h' st k=>by
  obtain ⟨⟨old,st1⟩,st2⟩:=st
  exact ⟨⟨old,k e (by simp) _ st1⟩,st2.at fun o q=>k it (by simp) o q⟩
 item:=by
  intro X hP hw hK hc i pins s σ H E I hf st hg
  subst hP hw hK
  obtain ⟨xs,x,hq,hx⟩:=hg
  obtain ⟨⟨old,st1⟩,st2⟩:=st
  obtain ⟨its,rv,p,hz⟩:=I.list hq
  obtain ⟨u,hu,ru⟩:=rv.get hx
  obtain ⟨f0,f1,f2,f3,f4,f5⟩:=hf e (by simp)
  obtain ⟨g0,g1,g2,g3,g4,g5⟩:=hf it (by simp)
  have hfp:H s.heap.objs.size=none:=I.hok.fresh (Nat.le_refl _)
  refine wpAny_pyNext_enum_item st1 st2 p.isList (x:=u) (by simpa using hu) hne fun h' eo it' tp' sz kk=>⟨_,rfl,?_⟩
  refine wpAny_letOwnedTupleGo_enum (s:={ s with heap:=h',toks:=s.toks + 1 }) eo fun h2 e2 sb=>?_
  have eP:e≠s.heap.objs.size:=Nat.ne_of_lt (Heap.lt_size st1)
  have iP:it≠s.heap.objs.size:=by obtain ⟨o,q,_⟩:=st2; exact Nat.ne_of_lt (Heap.lt_size q)
  have k2:∀ b o,b≠e->b≠it->s.heap.get? b=some o->h2.get? b=some o:=fun b o h1 h3 q=>(sb.2 b h1).trans (kk b o h1 h3 q)
  have tp2:h2.get? s.heap.objs.size=some { cls:=.type "tuple",data:=.seq #[.int i s.toks,u] }:=(sb.2 _ (Ne.symm eP)).trans tp'
  have it2:h2.IsListIter it a (i + 1):=it'.at fun o q=>(sb.2 _ (Ne.symm hne)).trans q
  have nin:∀ b o,b ∉ [e,it]->s.heap.get? b=some o->h2.get? b=some o:=fun b o hb q=>k2 b o (fun z=>hb (by simp [z])) (fun z=>hb (by simp [z])) q
  refine ⟨.ref s.heap.objs.size,upd H s.heap.objs.size (.tup [.int i,x]),?_,rfl,⟨_,x,rfl,hfp,fun ys hy=>by rw [I.list_inj hy hq]; exact hx,rfl⟩,⟨⟨_,e2⟩,it2⟩,fun b hb=>?_⟩
  ·show Inv X pins σ (upd H s.heap.objs.size (.tup [.int i,x])) { s with heap:=h2,gens:=s.gens,drawn:=s.drawn,toks:=s.toks + 1 }
   refine I.step (h':=h2) (t':=s.toks + 1) (g':=s.gens) (d':=s.drawn) (ch:=[e,it]) (fun b hb=>?_) (fun b o _ _ hb q _=>nin b o hb q) (fun b o _ _ hb q _=>⟨o.slots,nin b o hb q⟩) (fun b o hb q n=>?_) (fun b o hb q=>⟨o,nin b o hb q⟩)
    (fun b xs q=>?_) (fun b o' u' q=>?_) (fun b ps q=>?_) (fun m hm=>?_) (fun b o q=>?_) I.bare
   ·rcases List.mem_cons.mp hb with z | z
    ·subst z; exact ⟨f3,f1,f4,f5⟩
    ·have z:b=it:=by simpa using z
     subst z; exact ⟨g3,g1,g4,g5⟩
   ·rw [Aj (Nat.ne_of_lt (Heap.lt_size q))]; exact n
   ·rw [Aj (Ah q hfp)]; exact q
   ·rw [Aj (Ah q hfp)]; exact q
   ·exact ⟨#[],by rw [Aj (Ah q hfp),q]; simp⟩
   ·obtain ⟨o,es',ep',ho,r⟩:=hm
    exact ⟨o,es',ep',nin _ o (by simp [Ne.symm f1,Ne.symm g1]) ho,r⟩
   ·by_cases hb:b=s.heap.objs.size
    ·subst hb
     rw [Ag] at q
     cases q
     refine ⟨by rw [sizeLine_eq]; simp,[.int i s.toks,u],.cons ⟨_,rfl⟩ (.cons ru .nil),?_⟩
     exact ⟨_,tp2,rfl,_,rfl⟩
    ·rw [Aj hb] at q
     refine (I.hok b o q).stay (fun c v hc r=>nin c v (fun z=>?_) r) (fun c z=>by rw [Aj (Ah z hfp)]; exact z) fun c xs z=>by rw [Aj (Ah z hfp)]; exact z
     have hcn:H c≠none:=by
      rcases hc with z2 | z2
      ·rw [z2,q]; simp
      ·rw [z2]; simp
     rcases List.mem_cons.mp z with z | z
     ·rw [z,f0] at hcn; exact hcn rfl
     ·have z:c=it:=by simpa using z
      rw [z,g0] at hcn; exact hcn rfl
  ·rcases List.mem_cons.mp hb with z | z
   ·subst z; rw [Aj eP]; exact f0
   ·have z:b=it:=by simpa using z
    subst z; rw [Aj iP]; exact g0
 done:=by
  intro X hP hw hK hc i pins s σ H E I hf st hg
  subst hP hw hK
  obtain ⟨xs,hq,hx⟩:=hg
  obtain ⟨⟨old,st1⟩,st2⟩:=st
  obtain ⟨its,rv,p,hz⟩:=I.list hq
  obtain ⟨g0,g1,g2,g3,g4,g5⟩:=hf it (by simp)
  have hl:=rv.length
  exact wpAny_pyNext_enum_end (I.ok.hd hc) st1 st2 p.isList (by simp; omega) fun h' eb=>⟨rfl,I.turned (t':=s.toks) (fun b o hb e=>eb b o hb e) g0 g1 g3 g4 g5⟩
 self:=fun A i s Q E st h=>by
  obtain ⟨⟨old,st1⟩,st2⟩:=st
  exact wpAny_pyIter_enum st1 h
def iEnum (K:PySem.W.Frag) (t:TA):TI:=fun σ H R=>t σ H fun vs H1=>∃ a,vs=[.ref a]/\(∃ xs,SqL K H1 a xs)/\R (Ite K a) H1
theorem pi_enum {a:Expr} {ta:TA} {p pos:Pos} {es:List Expr} {x1} {tp:Pos} (hg:Gl X "enumerate") (hm:X.mg "enumerate"=none) (ha:PA X [a] ta) (hs:starEach [a] X.env=[(false,eval a X.env)]:=by rfl):PI X (.Tuple es x1 tp) (.Call (.Name "enumerate" p) [a] [] pos) (iEnum X.K ta):=by
 intro pins s σ H R I h
 refine Call_ (Ex I hg hm boot_enumerate (PyProof.Rows.callWith_type1 (thn (ha pos pins s σ H _ I h) fun us s1 ⟨vs,H1,I1,r1,q1⟩=>?_) hs rfl))
 obtain ⟨l,e,⟨xs,hq⟩,q⟩:=q1
 subst e
 obtain ⟨u,rfl,ru⟩:=vals1 r1
 cases ru
 obtain ⟨its,rv,pl,hz⟩:=I1.list hq
 refine call_enumerate_list pl.isList fun h' he hi hsz hk=>?_
 refine wpAny_pyIter_enum (s:={ s1 with heap:=h' }) he ?_
 refine ⟨s1.heap.objs.size + 1,[s1.heap.objs.size + 1,s1.heap.objs.size],_,_,H1,rfl,I1.kept (t':=s1.toks) hk,turn_enum l _ _ (Nat.succ_ne_self _),⟨⟨_,he⟩,hi⟩,fun b hb=>?_,q⟩
 rcases List.mem_cons.mp hb with z | z
 ·subst z; exact I1.fpOk (Nat.le_succ _) (I1.hok.fresh (Nat.le_succ _))
 ·have z:b=s1.heap.objs.size:=by simpa using z
  subst z; exact I1.fpOk (Nat.le_refl _) (I1.hok.fresh (Nat.le_refl _))
end
theorem for_enum {K:PySem.W.Frag} {a:Addr} {xs:List V} {g:TG} {tb:TS} {D:Ends} {σ:St} {H:Hp} (Pv:Nat->St->Hp->Prop) (h0:Pv 0 σ H) (hl:∀ i σ H,i<=xs.length->Pv i σ H->SqL K H a xs)
 (hs:∀ i x p σ H,xs[i]?=some x->Pv i σ H->H p=none->g (.ref p) σ (upd H p (.tup [.int i,x])) fun σ2 H2=>tb { D with nx:=Pv (i + 1),ct:=Pv (i + 1),bk:=D.nx } σ2 H2) (hd:∀ σ H,Pv xs.length σ H->D.nx σ H) :
 ∃ W:Nat->Nat->St->Hp->Prop,(∃ m,W 0 m σ H)/\∀ i m σ H,W i m σ H->
  ((Ite K a).stop i H/\D.nx σ H)\/((Ite K a).go i H/\∃ N:St->Hp->Prop,(∀ σ' H',N σ' H'->∃ m',m' < m/\W (i + 1) m' σ' H')/\∀ x H',(Ite K a).yld i H x H'->g x σ H' fun σ2 H2=>tb { D with nx:=N,ct:=N,bk:=D.nx } σ2 H2):=by
 refine ⟨fun i m σ H=>m=xs.length - i/\i<=xs.length/\Pv i σ H,⟨xs.length,by simp,Nat.zero_le _,h0⟩,?_⟩
 rintro i m σ H ⟨rfl,hi,p⟩
 have q:=hl i σ H hi p
 by_cases hlt:i < xs.length
 ·refine .inr ⟨⟨xs,xs[i],q,by simp [hlt]⟩,Pv (i + 1),fun σ' H' p'=>⟨xs.length - (i + 1),by omega,rfl,hlt,p'⟩,fun v H' y=>?_⟩
  obtain ⟨b,x,rfl,hn,y,rfl⟩:=y
  exact hs i x b σ _ (y xs q) p hn
 ·have e:i=xs.length:=by omega
  subst e
  exact .inl ⟨⟨xs,q,Nat.le_refl _⟩,hd σ H p⟩
section
variable {X:Cx}
end
def mroX (K:PySem.W.Frag) (C G:Addr):Bool:=(PySem.W.clsIn K C).any (fun cd=>cd.mro == (.ref C :: .ref G :: bmVE)) && PySem.W.typeIn K (.ref C) == some (.type "type")
structure MroX (K:PySem.W.Frag) (C G:Addr):Prop where
 cd:∃ cd,PySem.W.clsIn K C=some cd/\cd.mro=.ref C :: .ref G :: bmVE
 ty:PySem.W.typeIn K (.ref C)=some (.type "type")
theorem mroX_of {K:PySem.W.Frag} {C G:Addr} (h:mroX K C G=true):MroX K C G:=by
 unfold mroX at h
 rw [Bool.and_eq_true] at h
 obtain ⟨cd,e1,e2⟩:=PySem.W.any_some h.1
 exact ⟨⟨cd,e1,beq_iff_eq.mp e2⟩,beq_iff_eq.mp h.2⟩
structure XTop (K:PySem.W.Frag) (mg:Str->Option Value) (x n:Str) (st:Stmt) (C G:Addr):Prop where
 df:XDef K mg x n C
 mro:MroX K C G
 ex:∃ (f:Addr) (fd:FuncData),PySem.W.findIn K (.ref C) "__init__"=some (some (.ref f))/\PySem.W.isFn K (.ref f)=true/\Fun K "__init__" (x ++ ".__init__") st f fd/\Binds K fd ["self",n] []
theorem xtop_of {K:PySem.W.Frag} {mg:Str->Option Value} {h:Heap} {x n:Str} {st:Stmt} {C G f:Addr} {oc:Value} {od an:Option Addr} {osl:Array (Option Value)} {kV doc pm cdv ct:Value} (X:K.In h) (N:h.Ns mainGlobals mg)
 (hb:∀ (kV doc pm:Value) (an:Option Addr) (cdv ct:Value) (us:List Value),us.length=2->bindArgs (PySem.W.fnOf "__init__" (x ++ ".__init__") (Db st) (B1 st) (Af st) .none kV doc pm an cdv ct) ⟨us,[]⟩=pure ((["self",n]:List Str).zip us))
 (a:PySem.W.nsIn K mainGlobals x=some (some (.ref C))) (kp:PySem.W.keepIn K (.ref C)=true) (i:PySem.W.findIn K (.ref C) "__init__"=some (some (.ref f)))
 (l:K.lookup f=some ⟨oc,od,.func (PySem.W.fnOf "__init__" (x ++ ".__init__") (Db st) (B1 st) (Af st) .none kV doc pm an cdv ct),osl⟩) (c:PySem.W.codeIn K cdv (x ++ ".__init__")=true) (k:PySem.W.keepIn K (.ref f)=true)
 (fn:PySem.W.isFn K (.ref f)=true) (o:xOk K C n=true) (m:mroX K C G=true):XTop (KOf X) mg x n st C G:=
 ⟨⟨PySem.W.mg_of X N a,xOk_of o,kp⟩,mroX_of m,f,_,i,fn,fun_mk l c k,.all fun us hl=>hb kV doc pm an cdv ct us hl⟩
theorem gbase_of {K:PySem.W.Frag} {mg:Str->Option Value} {h:Heap} {x:Str} {G:Addr} (X:K.In h) (N:h.Ns mainGlobals mg) (a:PySem.W.nsIn K mainGlobals x=some (some (.ref G))) (b:PySem.W.readsIn K G (.type "type")=true)
 (c:PySem.W.findCls K (.ref G) (.type "type") "__init__"=some (.val (.builtin "ValueError.__init__"))) (d:PySem.W.specialIn K (.ref G) "__getattribute__"=some (some (.builtin "type.__getattribute__"))):GBase (KOf X) mg x G:=
 ⟨PySem.W.mg_of X N a,b,c,d⟩
structure Gone (l:List Env) (e:Addr) (oe:Obj) (vs:Array Value) (h h':Heap):Prop where
 keep:∀ b o,b≠e->b ∉ frs l->h.get? b=some o->h'.get? b=some o
 slot:∀ b o,b ∈ frs l->h.get? b=some o->∃ sl,h'.get? b=some { o with slots:=sl }
 head:∃ (T:Addr) (oT:Obj) (ts:Array Value),h'.get? e=some { oe with data:=.fields (vs.setIfInBounds 1 (.ref T)) }/\h.objs.size<=T/\T≠e/\h'.get? T=some oT/\oT.data=.fields ts/\ts[3]?=some .none
section
variable {M:Model} {A:Around} {E:Value->Shared->Prop} {s:Shared} {base:Heap} {env:Env} {outer:List Env} {L e:Addr} {oe:Obj} {vs:Array Value} {Q:Unit->Shared->Prop}
theorem enter {hd:Value} {b:Bool} (hfr:A.frames=some (env :: outer)) (hl:s.heap.FunFrames base (env :: outer)) (hf:env.frame=some L) (he:s.heap.get? e=some oe) (hdt:oe.data=.fields vs) (h1:1 < vs.size)
 (hq:∀ h',Gone (env :: outer) e oe vs s.heap h'->Q () { s with heap:=h' }) :
 wpAny M A (do
  let fr ← frameOf env
  let pl ← entryPlaceOf L b
  let r ← EntryCells.newEntry hd fr .none (rawInt L) .none pl
  setField (.ref e) 1 r) (fun _ s'=>wpAny M A (setFlight (.ref e) none) Q E s') E s:=by
 have ne:e ∉ frs (env :: outer):=fun z=>by
  obtain ⟨_,o,ho,nf⟩:=hl.mem z
  rw [he] at ho
  cases ho
  exact nf vs hdt
 refine wpAny_bind (wpAny_frameOf_fun hfr hl hf fun h1' sl1=>wpAny_bind (wpAny_entryPlaceOf fun pl hpl=>?_))
 have e1:h1'.get? e=some oe:=(sl1.2.1 e ne).trans he
 unfold EntryCells.newEntry newFields
 refine wpAny_bind (wpAny_newObj_type ?_ (hpl.sizeOk5 _ _ _ _ _))
 generalize hob:({ cls:=.type "traceback",dict:=none,data:=.fields ([hd,.ref L,.none,rawInt L,.none] ++ (if pl.isEmpty then List.replicate 6 Value.none else pl)).toArray }:Obj)=ob
 have hobd:ob.data=.fields ([hd,.ref L,.none,rawInt L,.none] ++ (if pl.isEmpty then List.replicate 6 Value.none else pl)).toArray:=by rw [← hob]
 have e2:(h1'.push ob).get? e=some oe:=Heap.get?_push_of_some _ e1
 have eT:h1'.objs.size≠e:=Nat.ne_of_gt (Heap.lt_size e1)
 have t2:(h1'.push ob).get? h1'.objs.size=some ob:=Heap.get?_push_size h1' (by rw [← hob]; rfl)
 refine wpAny_setField e2 hdt h1 ?_
 dsimp only
 have d3:=Obj.data_mapFields hdt (·.setIfInBounds 1 (Value.ref h1'.objs.size))
 have e3:=Heap.get?_update_self (Obj.mapFields (·.setIfInBounds 1 (Value.ref h1'.objs.size))) e2 (Obj.isFreed_of_fields d3)
 have t3:=(Heap.get?_update_other (h1'.push ob) (Obj.mapFields (·.setIfInBounds 1 (Value.ref h1'.objs.size))) (Ne.symm eT)).trans t2
 have o3:∀ c,c≠e->c≠h1'.objs.size->∀ o,h1'.get? c=some o->((h1'.push ob).update e (Obj.mapFields (·.setIfInBounds 1 (Value.ref h1'.objs.size)))).get? c=some o:=fun c n1 n2 o q=>
  (Heap.get?_update_other _ _ (Ne.symm n1)).trans (Heap.get?_push_of_some _ q)
 generalize (h1'.push ob).update e (Obj.mapFields (·.setIfInBounds 1 (Value.ref h1'.objs.size)))=h3 at e3 t3 o3
 unfold setFlight
 refine wpAny_bind (wpAny_field e3 d3 (x:=.ref h1'.objs.size) (by rw [Array.getElem?_setIfInBounds_self_of_lt h1]) ?_)
 rw [if_pos (by simp)]
 have sz:3 < ([hd,.ref L,.none,rawInt L,.none] ++ (if pl.isEmpty then List.replicate 6 Value.none else pl)).toArray.size:=by
  rw [List.size_toArray,List.length_append]; simp; omega
 refine wpAny_setField t3 hobd sz (hq _ ?_)
 have d4:=Obj.data_mapFields hobd (·.setIfInBounds 3 ((none:Option Addr).elim Value.none fun f=>rawInt f))
 have t4:=Heap.get?_update_self (Obj.mapFields (·.setIfInBounds 3 ((none:Option Addr).elim Value.none fun f=>rawInt f))) t3 (Obj.isFreed_of_fields d4)
 have o4:∀ c,c≠h1'.objs.size->(h3.update h1'.objs.size (Obj.mapFields (·.setIfInBounds 3 ((none:Option Addr).elim Value.none fun f=>rawInt f)))).get? c=h3.get? c:=fun c n=>Heap.get?_update_other _ _ (Ne.symm n)
 have lt1:∀ c o,s.heap.get? c=some o->c≠h1'.objs.size:=fun c o q=>by
  rw [sl1.1]; exact Nat.ne_of_lt (Heap.lt_size q)
 refine ⟨fun c o n1 n2 q=>?_,fun c o n1 q=>?_,h1'.objs.size,_,_,?_,?_,eT,t4,d4,?_⟩
 ·rw [o4 c (lt1 c o q)]
  exact o3 c n1 (lt1 c o q) o ((sl1.2.1 c n2).trans q)
 ·obtain ⟨sl,z⟩:=sl1.2.2 c o q
  refine ⟨sl,?_⟩
  rw [o4 c (lt1 c o q)]
  exact o3 c (fun z2=>ne (z2 ▸ n1)) (lt1 c o q) _ z
 ·rw [o4 e (Ne.symm eT),e3]
  obtain ⟨a1,a2,a3,a4⟩:=oe
  dsimp only at hdt
  subst hdt
  rfl
 ·rw [sl1.1]
  exact Nat.le_refl _
 ·rw [Array.getElem?_setIfInBounds_self_of_lt sz]
  rfl
theorem leave_new (hfr:A.frames=some (env :: outer)) (hl:s.heap.FunFrames base (env :: outer)) (hf:env.frame=some L) (he:s.heap.get? e=some oe) (hdt:oe.data=.fields vs) (h1:vs[1]?=some .none)
 (hq:∀ h',Gone (env :: outer) e oe vs s.heap h'->Q () { s with heap:=h' }):wpAny M A (leaving env (.ref e)) Q E s:=by
 unfold leaving noteFrame
 rw [hf]
 refine wpAny_bind (wpAny_bind (wpAny_field he hdt h1 ?_))
 rw [if_neg (by decide)]
 exact enter hfr hl hf he hdt (Array.getElem?_eq_some_iff.mp h1).1 hq
theorem note_on {T:Addr} {oT:Obj} {ts:Array Value} (hfr:A.frames=some (env :: outer)) (hl:s.heap.FunFrames base (env :: outer)) (hf:env.frame=some L) (he:s.heap.get? e=some oe) (hdt:oe.data=.fields vs) (h1:vs[1]?=some (.ref T))
 (hT:s.heap.get? T=some oT) (hTe:T≠e) (hdT:oT.data=.fields ts) (h3:ts[3]?=some .none)
 (hq:∀ h1 h',(∀ b o,b≠T->s.heap.get? b=some o->h1.get? b=some o)->h1.objs.size=s.heap.objs.size->(∃ o,h1.get? T=some o)->Gone (env :: outer) e oe vs h1 h'->Q () { s with heap:=h' }):wpAny M A (noteFrame (.ref e) env) (fun _ s'=>wpAny M A (setFlight (.ref e) none) Q E s') E s:=by
 unfold noteFrame
 rw [hf]
 refine wpAny_bind (wpAny_field he hdt h1 ?_)
 rw [if_pos (by simp)]
 refine wpAny_bind (wpAny_field hT hdT h3 ?_)
 rw [if_neg (by simp [rawInt])]
 refine wpAny_bind (wpAny_setField hT hdT (Array.getElem?_eq_some_iff.mp h3).1 ?_)
 have ot:∀ c,c≠T->(s.heap.update T (Obj.mapFields (·.setIfInBounds 3 Value.none))).get? c=s.heap.get? c:=fun c n=>Heap.get?_update_other _ _ (Ne.symm n)
 have nf:∀ c o,s.heap.get? c=some o->(∀ xs,o.data≠.fields xs)->c≠T:=fun c o q z n=>by
  rw [n,hT] at q; cases q; exact z ts hdT
 have tT:=Heap.get?_update_self (Obj.mapFields (·.setIfInBounds 3 Value.none)) hT (Obj.isFreed_of_fields (Obj.data_mapFields hdT _))
 exact enter (s:={ s with heap:=s.heap.update T (Obj.mapFields (·.setIfInBounds 3 Value.none)) }) hfr (hl.of_keeps fun c o q z=>⟨o,(ot c (nf c o q z)).trans q,rfl⟩) hf ((ot e (Ne.symm hTe)).trans he) hdt (Array.getElem?_eq_some_iff.mp h1).1
  fun h' g=>hq _ h' (fun c o n q=>(ot c n).trans q) (Heap.size_after_update ..) ⟨_,tT⟩ g
theorem leave_on {T:Addr} {oT:Obj} {ts:Array Value} (hfr:A.frames=some (env :: outer)) (hl:s.heap.FunFrames base (env :: outer)) (hf:env.frame=some L) (he:s.heap.get? e=some oe) (hdt:oe.data=.fields vs) (h1:vs[1]?=some (.ref T))
 (hT:s.heap.get? T=some oT) (hTe:T≠e) (hdT:oT.data=.fields ts) (h3:ts[3]?=some .none)
 (hq:∀ h1 h',(∀ b o,b≠T->s.heap.get? b=some o->h1.get? b=some o)->h1.objs.size=s.heap.objs.size->(∃ o,h1.get? T=some o)->Gone (env :: outer) e oe vs h1 h'->Q () { s with heap:=h' }):wpAny M A (leaving env (.ref e)) Q E s:=by
 unfold leaving
 exact wpAny_bind (note_on hfr hl hf he hdt h1 hT hTe hdT h3 hq)
end
def Head (g:Heap) (H:Hp) (h:Heap) (a:Addr):Prop:=∃ (C:Addr) (d:Option Addr) (t T:Addr) (rest:List Value) (sl:Array (Option Value)) (oT:Obj) (ts:Array Value),
 H a=some (excR a C d)/\h.get? a=some { cls:=.ref C,dict:=d,data:=.fields (.ref t :: .ref T :: rest).toArray,slots:=sl }/\T≠a/\h.get? T=some oT/\oT.data=.fields ts/\ts[3]?=some .none/\H T=none/\g.objs.size<=T
def CXR (P:Program) (w:World):CXT:=fun outer H s E e s'=>∃ (a:Addr) (H':Hp),e=.ref a/\s'.os=s.os/\AllBare s'.gens/\Un (frs outer) [] H H' s.heap s'.heap/\HOk P w H' s'.heap/\Head s.heap H' s'.heap a/\E (.ref a) none H'
section
variable {X:Cx} {pins:List (Addr × Obj)} {σ:St} {H:Hp} {s:Shared}
theorem gone_un {H₀ H' H'':Hp} {g h1 h':Heap} {a:Addr} {oe:Obj} {vs:Array Value} {env:Env} {outer:List Env} (u:Un (frs outer) [] H₀ H' g h1) (gn:Gone (env :: outer) a oe vs h1 h')
 (ha:∀ b o,g.get? b=some o->H₀ b=none->b≠a) (hL:∀ b o,g.get? b=some o->b ∈ frs (env :: outer)->b ∈ frs outer)
 (hs:∀ b o,H' b=some o->b≠a->H'' b=some o) (hn:∀ b,H' b=none->H'' b=none) (hx:H' a=H'' a\/(∃ φ,H' a=some (.ext φ))):Un (frs outer) [] H₀ H'' g h':=by
 have nx:∀ b o,H' b=some o->(∀ φ,o≠.ext φ)->H'' b=some o:=fun b o q z=>by
  by_cases hb:b=a
  ·subst hb
   rcases hx with e | ⟨φ,e⟩
   ·rw [← e]; exact q
   ·rw [e] at q; cases q; exact absurd rfl (z φ)
  ·exact hs b o q hb
 have thr:∀ b o,h1.get? b=some o->∃ o',h'.get? b=some o':=fun b o q=>by
  by_cases hb:b=a
  ·subst hb
   obtain ⟨T,oT,ts,e1,_⟩:=gn.head
   exact ⟨_,e1⟩
  ·by_cases hf:b ∈ frs (env :: outer)
   ·obtain ⟨sl,z⟩:=gn.slot b o hf q
    exact ⟨_,z⟩
   ·exact ⟨o,gn.keep b o hb hf q⟩
 refine ⟨fun b o q n hf he=>?_,fun b o q n hf he=>?_,fun b o q n he=>hn b (u.free b o q n he),fun b o q he=>?_,fun b xs q=>nx b _ (u.tups b xs q) (fun φ z=>by cases z),fun b o x q=>nx b _ (u.frzs b o x q) (fun φ z=>by cases z),fun b ps q=>?_⟩
 ·exact gn.keep b o (ha b o q n) (fun z=>hf (hL b o q z)) (u.keep b o q n hf he)
 ·obtain ⟨sl,z⟩:=u.slot b o q n hf he
  have hf':b ∈ frs (env :: outer):=by
   unfold frs at hf ⊢
   rw [List.filterMap_cons]
   split
   ·exact hf
   ·exact List.mem_cons_of_mem _ hf
  obtain ⟨sl',z'⟩:=gn.slot b _ hf' z
  exact ⟨sl',z'⟩
 ·obtain ⟨o',z⟩:=u.there b o q he
  exact thr b o' z
 ·obtain ⟨m,z⟩:=u.tbls b ps q
  exact ⟨m,nx b _ z (fun φ z=>by cases z)⟩
end
section
variable {P:Program} {w:World} {K:PySem.W.Frag} {mg:Str->Option Value} {base:Heap} {N:List Str} {qual:Str} {scope:Scope} {f:Addr} {cdv:Value} {A:Around} {outer:List Env} {s₀:Shared} {H₀:Hp} {E:XK} {pins:List (Addr × Obj)} {σ:St} {H:Hp} {s:Shared}
theorem raise_xe {a C:Addr} {d:Option Addr} (I:Inv (cxOf (CXR P w) P w K mg base N qual scope f cdv A outer s₀ H₀ E) pins σ H s) (ea:H a=some (excO a C d)) (hE:E (.ref a) none (upd H a (excR a C d))) :
 (cxOf (CXR P w) P w K mg base N qual scope f cdv A outer s₀ H₀ E).xe (.ref a) s:=by
 obtain ⟨t0,rest,sl,q⟩:=excO_is (I.hok a _ ea)
 have hst:s.heap.FunFrames base (envOfC qual scope s₀.heap.objs.size f cdv :: outer):=I.stack
 have hfr:(A.deeper (envOfC qual scope s₀.heap.objs.size f cdv)).frames=some (envOfC qual scope s₀.heap.objs.size f cdv :: outer):=I.ok.frames
 have sf:∀ b ∈ frs (envOfC qual scope s₀.heap.objs.size f cdv :: outer),H b=none:=I.stkFree
 have hu:Un (frs outer) [] H₀ H s₀.heap s.heap:=I.base
 refine leave_new (s:=s) (L:=s₀.heap.objs.size) hfr hst rfl q rfl rfl fun h' gn=>?_
 obtain ⟨T,oT,ts,g1,g2,g3,g4,g5,g6⟩:=id gn.head
 have hT:H T=none:=I.hok.fresh g2
 refine ⟨a,upd H a (excR a C d),rfl,I.os,I.bare,gone_un hu gn (fun b o z n=>?_) (fun b o z m=>?_) (fun b o z n=>by rw [Aj n]; exact z) (fun b z=>by rw [Aj (fun n=>by rw [n,ea] at z; cases z)]; exact z) (.inr ⟨_,ea⟩),fun b o z=>?_,?_,hE⟩
 ·intro n
  have:=hu.free b o z ‹_› (by simp)
  rw [n,ea] at this; cases this
 ·rcases List.mem_cons.mp (show b ∈ s₀.heap.objs.size :: frs outer from m) with n | n
  ·rw [n] at z; exact absurd (Heap.lt_size z) (Nat.lt_irrefl _)
  ·exact n
 ·by_cases hb:b=a
  ·subst hb
   rw [Ag] at z
   cases z
   exact excR_ok ⟨t0,_,sl,g1⟩
  ·rw [Aj hb] at z
   refine (I.hok b o z).stay (fun c v hc r=>gn.keep c v (fun n=>?_) (fun n=>?_) r) (fun c r=>by rw [Aj (fun n=>by rw [n,ea] at r; cases r)]; exact r) fun c xs r=>by rw [Aj (fun n=>by rw [n,ea] at r; cases r)]; exact r
   ·rcases hc with m | m
    ·exact hb (m ▸ n)
    ·rw [n,ea] at m; cases m
   ·have:=sf c n
    rcases hc with m | m
    ·rw [m,z] at this; cases this
    ·rw [m] at this; cases this
 ·refine ⟨C,d,t0,T,rest,sl,oT,ts,Ag,g1,g3,g4,g5,g6,by rw [Aj g3]; exact hT,Nat.le_trans I.sz g2⟩
theorem pass_xe {e:Value} {s':Shared} {E1:XK} (I:Inv (cxOf (CXR P w) P w K mg base N qual scope f cdv A outer s₀ H₀ E) pins σ H s)
 (hc:CXR P w (envOfC qual scope s₀.heap.objs.size f cdv :: outer) H s E1 e s') (hE:∀ a H',E1 (.ref a) none H'->E (.ref a) none H') :
 (cxOf (CXR P w) P w K mg base N qual scope f cdv A outer s₀ H₀ E).xe e s':=by
 obtain ⟨a,H',rfl,ho,hg,u,hok,⟨C,d,t,T,rest,sl,oT,ts,ha,q,hTa,hT,hdT,h3,hnT,hgT⟩,e1⟩:=hc
 have I':Inv (cxOf (CXR P w) P w K mg base N qual scope f cdv A outer s₀ H₀ E) pins σ H' s':=I.call' (ch:=[]) ho u hok hg (fun _ z=>nomatch z)
 have hst:s'.heap.FunFrames base (envOfC qual scope s₀.heap.objs.size f cdv :: outer):=I'.stack
 have hfr:(A.deeper (envOfC qual scope s₀.heap.objs.size f cdv)).frames=some (envOfC qual scope s₀.heap.objs.size f cdv :: outer):=I'.ok.frames
 have sf:∀ b ∈ frs (envOfC qual scope s₀.heap.objs.size f cdv :: outer),H' b=none:=I'.stkFree
 have hu:Un (frs outer) [] H₀ H' s₀.heap s'.heap:=I'.base
 have hu0:Un (frs outer) [] H₀ H s₀.heap s.heap:=I.base
 have s0T:s₀.heap.get? T=none:=Heap.get?_none_of_le (Nat.le_trans I.sz hgT)
 refine leave_on (s:=s') (L:=s₀.heap.objs.size) hfr hst rfl q rfl rfl hT hTa hdT h3 fun h1 h' k1 sz1 hT1 gn=>?_
 obtain ⟨T2,oT2,ts2,g1,g2,g3,g4,g5,g6⟩:=id gn.head
 have k1':∀ b o,s₀.heap.get? b=some o->b≠T:=fun b o z n=>by rw [n,s0T] at z; cases z
 have u1:Un (frs outer) [] H₀ H' s₀.heap h1:=by
  refine ⟨fun b o z n m1 m2=>k1 b o (k1' b o z) (hu.keep b o z n m1 m2),fun b o z n m1 m2=>?_,fun b o z n m=>hu.free b o z n m,fun b o z m=>?_,hu.tups,hu.frzs,hu.tbls⟩
  ·obtain ⟨sl,y⟩:=hu.slot b o z n m1 m2
   exact ⟨sl,k1 b _ (k1' b o z) y⟩
  ·obtain ⟨o',y⟩:=hu.there b o z m
   exact ⟨o',k1 b _ (k1' b o z) y⟩
 have hok1:HOk P w H' h1:=fun b o z=>(hok b o z).stay (fun c v hc r=>k1 c v (fun n=>by
  rcases hc with m | m
  ·rw [← m,n,hnT] at z; cases z
  ·rw [n,hnT] at m; cases m) r) (fun _ z=>z) fun _ _ z=>z
 refine ⟨a,H',rfl,I'.os,I'.bare,gone_un u1 gn (fun b o z n m=>?_) (fun b o z m=>?_) (fun b o z _=>z) (fun b z=>z) (.inl rfl),fun b o z=>?_,?_,hE a H' e1⟩
 ·have:=hu.free b o z n (by simp)
  rw [m,ha] at this; cases this
 ·rcases List.mem_cons.mp (show b ∈ s₀.heap.objs.size :: frs outer from m) with n | n
  ·rw [n] at z; exact absurd (Heap.lt_size z) (Nat.lt_irrefl _)
  ·exact n
 ·by_cases hb:b=a
  ·subst hb
   rw [ha] at z
   cases z
   exact excR_ok ⟨t,_,sl,g1⟩
  ·refine (hok1 b o z).stay (fun c v hc r=>gn.keep c v (fun n=>?_) (fun n=>?_) r) (fun _ r=>r) fun _ _ r=>r
   ·rcases hc with m | m
    ·exact hb (m ▸ n)
    ·rw [n,ha] at m; cases m
   ·have:=sf c n
    rcases hc with m | m
    ·rw [m,z] at this; cases this
    ·rw [m] at this; cases this
 ·refine ⟨C,d,t,T2,rest,sl,oT2,ts2,ha,g1,g3,g4,g5,g6,hok1.fresh g2,Nat.le_trans (by rw [sz1]; exact I'.sz) g2⟩
end
section
variable {M:Model} {A:Around} {E:Value->Shared->Prop} {s:Shared} {env:Env}
theorem raise_made {x:Sem Value} {Q:Flow->Shared->Prop} (hh:A.handled=none)
 (h:wpAny M A x (fun v s₁=>∃ (e C:Addr) (bm:List Value) (d:Option Addr) (t:Addr) (rest:List Value) (sl:Array (Option Value)),v=.ref e/\ExcCls s₁.heap C bm/\s₁.heap.get? e=some { cls:=.ref C,dict:=d,data:=.fields (.ref t :: .none :: rest).toArray,slots:=sl }/\E (.ref e) s₁) E s) :
 wpAny M A (raiseStmt env (some x) none) Q E s:=by
 unfold raiseStmt
 refine wpAny_bind (wpAny_mono h (fun v s₁ h₁=>?_) fun _ _ x=>x)
 obtain ⟨e,C,bm,d,t,rest,sl,rfl,⟨⟨N,nm,qn,bs,sn,sub,ab,col,dd,k0,k1,k2,k3,k5,hC⟩,T⟩,he,hE⟩:=h₁
 have hcB:(Value.ref C :: bm).contains (.type "BaseException")=true:=by rw [List.contains_cons,T.hasType PySem.F.excBase_ValueError.hasBase,Bool.or_true]
 obtain ⟨hp,g,dr,tk,os⟩:=s₁
 repeat (first | with_reducible refine wpAny_loadPart_at he ?_ | with_reducible refine wpAny_loadPart_at hC ?_ | (with_reducible refine wpAny_isSubtype_exc hC ?_; rw [hcB]) | wp_step)
 exact wpAny_raiseNew_none hh hE
end
def Raises (X:Cx) (E:XK):Prop:=∀ (pins:List (Addr × Obj)) (σ:St) (H:Hp) (s:Shared) (a C:Addr) (d:Option Addr),Inv X pins σ H s->H a=some (excO a C d)->E (.ref a) none (upd H a (excR a C d))->X.xe (.ref a) s
def tRaise (K:PySem.W.Frag) (E:XK) (te:TE):TS:=fun _ σ H=>te σ H fun x H1=>∃ a C d,x=.ref a/\H1 a=some (excO a C d)/\excMk K C=true/\E (.ref a) none (upd H1 a (excR a C d))
section
variable {X:Cx} {E:XK} {e:Expr} {te:TE} {pos:Pos}
theorem Ej (hr:Raises X E) (hh:X.A.handled=none) (he:PE X e te):PS X (.Raise (some e) none pos) (tRaise X.K E te):=by
 intro pins s σ H D I h
 rw [arm_exec_Raise]
 refine wpAny_bind (wpAny_standAt (raise_made hh (wpAny_bind (wpAny_mono (he pins s σ H _ I h) (fun v s1 ⟨x,H1,I1,rx,a,C,d,ex,ea,hm,q⟩=>wpAny_bind (wpAny_standAt (wpAny_pure ?_))) fun _ _ z=>z))))
 subst ex
 obtain rfl:v=Value.ref a:=rx
 obtain ⟨t0,rest,sl,q1⟩:=excO_is (I1.hok a _ ea)
 obtain ⟨bm,c,_,_⟩:=excMk_of I1.kIn hm
 exact ⟨a,C,bm,d,t0,rest,sl,rfl,c,q1,hr pins σ H1 s1 a C d I1 ea q⟩
end
structure D9 (P:Program) (w:World) (K:PySem.W.Frag) (mg:Str->Option Value) (base:Heap) (x:Str) (k:Nat) (ps:List Str) (sp:Sp):Prop where
 ex:∃ (f:Addr) (fd:FuncData),FnOk P w K mg base (CXR P w) k f fd ps sp/\mg x=some (.ref f)/\PySem.W.keepIn K (.ref f)=true/\Binds K fd ps []
theorem pe_fnX {X:Cx} {E:XK} {x:Str} {ps:List Str} {sp:Sp} {k j:Nat} {p pos:Pos} {e:Expr} {es:List Expr} {t:TA} (F:D9 X.prog X.w X.K X.mg X.base x k ps sp) (hx:D8 (CXR X.prog X.w) X E) (hr:Room j X.A) (hj:k<=j) (hg:Gl X x) (ha:PA X (e :: es) t)
 (hdb:(x == ("__debug__":Str))=false:=by decide) (he:starEach (e :: es) X.env=(false,eval e X.env) :: starEach es X.env:=by rfl) (hpl:(backTo pos (starEach es X.env)).any (·.1)=false:=by rfl) :
 PE X (.Call (.Name x p) (e :: es) [] pos) (tCall sp [] E t):=by
 obtain ⟨f,fd,G,hm,hk,hb⟩:=F.ex
 exact pe_call G (hr.mono hj) hg hm hk hb .nil hx ha hdb he hpl
section
variable {P:Program} {w:World} {K:PySem.W.Frag} {mg:Str->Option Value} {base:Heap}
theorem Fun.okX {x qual:Str} {st:Stmt} {f:Addr} {fd:FuncData} {N ps:List Str} {k:Nat} {sp:Sp} (F:Fun K x qual st f fd) (S:Ao N ps (Af st)) (len:∀ vs H Q E,sp vs H Q E->vs.length=ps.length)
 (hbody:∀ (cdv:Value) (A:Around) (outer:List Env) (s:Shared) (H:Hp) (vs:List V) (Q:VK) (E:XK),Room k (A.deeper (envOfC qual (Af st) s.heap.objs.size f cdv))->sp vs H Q E->
   ∃ t,PSs (cxOf (CXR P w) P w K mg base N qual (Af st) f cdv A outer s H E) (B1 st) t/\t { nx:=fun _ H'=>Q .non H',rt:=Q } (start N vs) H):FnOk P w K mg base (CXR P w) (k + 1) f fd ps sp:=by
 obtain ⟨oc,od,kV,doc,pm,an,cdv,ct,osl,rfl,lk,hcd⟩:=F.ex
 exact fn_of lk hcd S len fun A outer s H vs Q E hr hsp=>hbody cdv A outer s H vs Q E hr hsp
theorem Al.atX {x:Str} {st:Stmt} {N ps:List Str} {k:Nat} {sp:Sp} (T:Al K mg x st ps) (S:Ao N ps (Af st)) (len:∀ vs H Q E,sp vs H Q E->vs.length=ps.length)
 (hbody:∀ (f:Addr) (cdv:Value) (A:Around) (outer:List Env) (s:Shared) (H:Hp) (vs:List V) (Q:VK) (E:XK),Room k (A.deeper (envOfC x (Af st) s.heap.objs.size f cdv))->sp vs H Q E->
   ∃ t,PSs (cxOf (CXR P w) P w K mg base N x (Af st) f cdv A outer s H E) (B1 st) t/\t { nx:=fun _ H'=>Q .non H',rt:=Q } (start N vs) H):D9 P w K mg base x (k + 1) ps sp:=by
 obtain ⟨f,fd,F,hm,hb⟩:=T.ex
 exact ⟨f,fd,F.okX S len fun cdv A outer s H vs Q E hr h=>hbody f cdv A outer s H vs Q E hr h,hm,F.kp,.all hb⟩
variable {N:List Str} {qual:Str} {scope:Scope} {f:Addr} {cdv:Value} {A:Around} {outer:List Env} {s₀:Shared} {H₀:Hp} {E E1:XK}
theorem Cr:Raises (cxOf (CXR P w) P w K mg base N qual scope f cdv A outer s₀ H₀ E) E:=fun pins σ H s a C d I ea q=>raise_xe I ea q
theorem Dr (h:∀ a H',E1 (.ref a) none H'->E (.ref a) none H'):D8 (CXR P w) (cxOf (CXR P w) P w K mg base N qual scope f cdv A outer s₀ H₀ E) E1:=fun pins σ H s e s' I hc=>pass_xe I hc h
end
def Raw (X:Cx) (pins:List (Addr × Obj)) (H:Hp) (h:Heap) (a C:Addr) (d:Option Addr):Prop:=∃ (t T:Addr) (rest:List Value) (sl:Array (Option Value)) (oT:Obj) (ts:Array Value),
 H a=some (excR a C d)/\h.get? a=some { cls:=.ref C,dict:=d,data:=.fields (.ref t :: .ref T :: rest).toArray,slots:=sl }/\T≠a/\h.get? T=some oT/\oT.data=.fields ts/\3 < ts.size/\H T=none/\
 X.s₀.heap.objs.size<=T/\T≠X.env.locals/\(∀ x c,X.env.cells.lookup x=some c->c≠T)/\∀ p ∈ X.pn ++ pins,p.1≠T
section
variable {X:Cx} {pins:List (Addr × Obj)} {σ:St} {H:Hp} {s s':Shared} {M:Model} {A:Around} {E:Value->Shared->Prop}
theorem caught {a:Addr} {E1:XK} {R:Unit->Shared->Prop} (I:Inv X pins σ H s) (hsk:X.stack=X.env :: X.outer) (hfe:X.env.frame=some X.env.locals) (hA:X.A.frames=some X.stack) (hc:CXR X.prog X.w X.stack H s E1 (.ref a) s')
 (hR:∀ (s3:Shared) (H':Hp) (C:Addr) (d:Option Addr),Inv X pins σ H' s3->Raw X pins H' s3.heap a C d->E1 (.ref a) none H'->R () s3) :
 wpAny M X.A (noteFrame (.ref a) X.env) (fun _ s2=>wpAny M X.A (setFlight (.ref a) none) R E s2) E s':=by
 obtain ⟨a',H',ea',ho,hg,u,hok,⟨C,d,t,T,rest,sl,oT,ts,ha,q,hTa,hT,hdT,h3,hnT,hgT⟩,e1⟩:=hc
 cases ea'
 have I':Inv X pins σ H' s':=I.call' (ch:=[]) ho u hok hg (fun _ z=>nomatch z)
 have hst:s'.heap.FunFrames X.base (X.env :: X.outer):=by rw [← hsk]; exact I'.stack
 have sf:∀ b ∈ frs (X.env :: X.outer),H' b=none:=by rw [← hsk]; exact I'.stkFree
 have hfr:∀ b,b ∈ frs (X.env :: X.outer) ↔ b=X.env.locals\/b ∈ X.fs:=fun b=>by
  show b ∈ List.filterMap (·.frame) (X.env :: X.outer) ↔ _
  rw [List.filterMap_cons,hfe]
  exact List.mem_cons
 have ltT:∀ b o,s.heap.get? b=some o->b≠T:=fun b o z n=>by
  rw [n] at z; exact absurd (Nat.lt_of_lt_of_le (Heap.lt_size z) hgT) (Nat.lt_irrefl _)
 refine note_on (s:=s') (L:=X.env.locals) (hA.trans (by rw [hsk])) hst hfe q rfl rfl hT hTa hdT h3 fun h1 h' k1 sz1 hT1 gn=>?_
 obtain ⟨T2,oT2,ts2,g1,g2,g3,g4,g5,g6⟩:=id gn.head
 rw [sz1] at g2
 have hok1:HOk X.prog X.w H' h1:=fun b o z=>(hok b o z).stay (fun c v hc r=>k1 c v (fun n=>by
  rcases hc with m | m
  ·rw [← m,n,hnT] at z; cases z
  ·rw [n,hnT] at m; cases m) r) (fun _ z=>z) fun _ _ z=>z
 have na:∀ b,H' b=none->b≠a:=fun b z n=>by rw [n,ha] at z; cases z
 have inv2:Inv X pins σ H' { s' with heap:=h',gens:=s'.gens,drawn:=s'.drawn,toks:=s'.toks }:=by
  refine I'.step (h':=h') (t':=s'.toks) (g':=s'.gens) (d':=s'.drawn) (ch:=[T]) (fun b hb=>?_) (fun b o n1 n2 n3 z n=>?_) (fun b o n1 n2 n3 z n=>?_) (fun b o _ _ n=>n) (fun b o n3 z=>?_) (fun _ _ z=>z) (fun _ _ _ z=>z) (fun b ps z=>⟨#[],by rw [z]; simp⟩) (fun m hm=>?_) (fun b o z=>?_) I'.bare
  ·have e:b=T:=by simpa using hb
   subst e
   refine ⟨.inr (Nat.le_trans I.sz hgT),fun n=>?_,fun x c z n=>?_,fun p hp n=>?_⟩
   ·have:=I.lt
    rw [← n] at this
    exact absurd (Nat.lt_of_lt_of_le this hgT) (Nat.lt_irrefl _)
   ·obtain ⟨v,o,z2,_⟩:=I.cell x c z
    exact ltT c o z2 n
   ·exact ltT p.1 p.2 (I.pin p hp).1 n
  ·exact gn.keep b o (na b n) (fun m=>((hfr b).mp m).elim n1 n2) (k1 b o (fun e=>n3 (by simp [e])) z)
  ·obtain ⟨sl,y⟩:=gn.slot b o ((hfr b).mpr (.inr n2)) (k1 b o (fun e=>n3 (by simp [e])) z)
   exact ⟨sl,y⟩
  ·have z1:=k1 b o (fun e=>n3 (by simp [e])) z
   by_cases hb:b=a
   ·subst hb; exact ⟨_,g1⟩
   ·by_cases hf:b ∈ frs (X.env :: X.outer)
    ·obtain ⟨sl,y⟩:=gn.slot b o hf z1
     exact ⟨_,y⟩
    ·exact ⟨o,gn.keep b o hb hf z1⟩
  ·obtain ⟨o,es,ep,z,r⟩:=hm
   have nT:X.env.locals≠T:=by
    intro n
    have:=I.lt
    rw [n] at this
    exact absurd (Nat.lt_of_lt_of_le this hgT) (Nat.lt_irrefl _)
   obtain ⟨sl,y⟩:=gn.slot _ o ((hfr _).mpr (.inl rfl)) (k1 _ o nT z)
   exact ⟨_,es,ep,y,r⟩
  ·by_cases hb:b=a
   ·subst hb
    rw [ha] at z
    cases z
    exact excR_ok ⟨t,_,sl,g1⟩
   ·refine (hok1 b o z).stay (fun c v hc r=>gn.keep c v (fun n=>?_) (fun n=>?_) r) (fun _ r=>r) fun _ _ r=>r
    ·rcases hc with m | m
     ·exact hb (m ▸ n)
     ·rw [n,ha] at m; cases m
    ·have:=sf c n
     rcases hc with m | m
     ·rw [m,z] at this; cases this
     ·rw [m] at this; cases this
 refine hR _ H' C d inv2 ⟨t,T2,rest,sl,oT2,ts2,ha,g1,g3,g4,g5,(Array.getElem?_eq_some_iff.mp g6).1,hok.fresh g2,Nat.le_trans I'.sz g2,fun n=>?_,fun x c z n=>?_,fun p hp n=>?_⟩ e1
 ·have:=I'.lt
  rw [← n] at this
  exact absurd (Nat.lt_of_lt_of_le this g2) (Nat.lt_irrefl _)
 ·obtain ⟨v,o,z2,_⟩:=I'.cell x c z
  rw [n] at z2
  exact absurd (Nat.lt_of_lt_of_le (Heap.lt_size z2) g2) (Nat.lt_irrefl _)
 ·have z2:=(I'.pin p hp).1
  rw [n] at z2
  exact absurd (Nat.lt_of_lt_of_le (Heap.lt_size z2) g2) (Nat.lt_irrefl _)
theorem flight_ends {a C:Addr} {d:Option Addr} {R:Unit->Shared->Prop} (I:Inv X pins σ H s) (r:Raw X pins H s.heap a C d) (hR:∀ s3,Inv X pins σ H s3->R () s3):wpAny M A (setFlight (.ref a) none) R E s:=by
 obtain ⟨t,T,rest,sl,oT,ts,ha,q,hTa,hT,hdT,h3,hnT,f1,f2,f3,f4⟩:=r
 unfold setFlight
 refine wpAny_bind (wpAny_field q rfl (x:=.ref T) rfl ?_)
 rw [if_pos (by simp)]
 refine wpAny_setField hT hdT h3 (hR _ ?_)
 exact I.turned (t':=s.toks) (fun b o hb e=>(Heap.get?_update_other _ _ (Ne.symm hb)).trans e) hnT f2 (.inr f1) f3 f4
end
abbrev Cx.hdl (X:Cx) (a:Addr):Cx:={ X with A:=X.A.mark (some (.ref a)),calm:=false,xe:=fun _ _=>False }
abbrev Cx.tr (X:Cx) (pn:List (Addr × Obj)) (E':Value->Shared->Prop):Cx:={ X with pn:=pn,xe:=E' }
section
variable {X:Cx} {pins:List (Addr × Obj)} {σ:St} {H:Hp} {s:Shared} {a:Addr} {E':Value->Shared->Prop}
theorem Inv.hdl (I:Inv X pins σ H s):Inv (X.hdl a) pins σ H s:=
 ⟨⟨I.ok.mod,I.ok.kind,I.ok.glob,I.ok.blt,I.ok.above,I.ok.inj,I.ok.has,I.ok.cab,(fun z=>nomatch z),I.ok.frames,I.ok.stk,I.ok.exf,I.ok.bs,I.ok.bsz,I.ok.noex,I.ok.exfs,I.ok.funs,I.ok.frf⟩,I.os,I.bare,I.base,I.loc,I.cell,I.free,I.freeC,I.pin,I.hok,I.len⟩
theorem Inv.back (ok:X.Ok) (I:Inv (X.hdl a) pins σ H s):Inv X pins σ H s:=⟨ok,I.os,I.bare,I.base,I.loc,I.cell,I.free,I.freeC,I.pin,I.hok,I.len⟩
theorem Inv.tr (I:Inv X pins σ H s):Inv (X.tr (X.pn ++ pins) E') [] σ H s:=
 ⟨⟨I.ok.mod,I.ok.kind,I.ok.glob,I.ok.blt,I.ok.above,I.ok.inj,I.ok.has,I.ok.cab,I.ok.hd,I.ok.frames,I.ok.stk,I.ok.exf,I.ok.bs,I.ok.bsz,I.ok.noex,I.ok.exfs,I.ok.funs,I.ok.frf⟩,I.os,I.bare,I.base,I.loc,I.cell,I.free,I.freeC,(fun p hp=>I.pin p (by simpa using hp)),I.hok,I.len⟩
theorem Inv.untr {pins':List (Addr × Obj)} (ok:X.Ok) (I:Inv (X.tr (X.pn ++ pins) E') pins' σ H s):Inv X pins σ H s:=
 ⟨ok,I.os,I.bare,I.base,I.loc,I.cell,I.free,I.freeC,(fun p hp=>I.pin p (List.mem_append_left _ hp)),I.hok,I.len⟩
theorem x_match {M:Model} {A:Around} {E:Value->Shared->Prop} {Q:Bool->Shared->Prop} {K:PySem.W.Frag} {C D:Addr} {oe:Obj} {b:Bool} (KX:K.In s.heap) (he:s.heap.get? a=some oe) (hcl:oe.cls=.ref C) (hD:PySem.W.typeIn K (.ref D)=some (.type "type")) (hc:(PySem.W.clsIn K D).isSome=true)
 (hB:PySem.W.mroIn K D (.type "BaseException")=some true) (hm:PySem.W.mroIn K C (.ref D)=some b) (hq:Q b s):wpAny M A (excMatches (.ref a) (.ref D)) Q E s:=by
 obtain ⟨hp,g,d,t,os⟩:=s
 have l1:PySem.W.Looks M hp (typeOf (.ref D)) (.type "type"):=PySem.W.looks_typeIn KX hD
 have l2:PySem.W.Looks M hp (isSubtype (.type "type") (.type "tuple")) false:=PySem.W.Looks.of_pure tc_notTuple
 have l3:PySem.W.Looks M hp (isSubtype (.ref D) (.type "BaseException")) true:=PySem.W.looks_mroIn KX hB
 have l4:PySem.W.Looks M hp (typeOf (.ref a)) (.ref C):=by rw [← hcl]; exact (PySem.W.Looks.ld he).andThen .now
 have l5:PySem.W.Looks M hp (isSubtype (.ref C) (.ref D)) b:=PySem.W.looks_mroIn KX hm
 have l6:PySem.W.Looks M hp (isType (.ref D)) true:=by
  obtain ⟨cd,z⟩:=Option.isSome_iff_exists.mp hc
  unfold PySem.W.clsIn at z
  split at z
  ·rename_i c' d' cd' sl' ho
   intro A' Q' E' s' k q
   unfold isType loadHead
   exact wpAny_bind (wpAny_loadPart (k _ _ (KX _ _ ho)) (wpAny_pure q))
  ·cases z
 have l7:PySem.W.Looks M hp (isInstance (.ref D) (.type "tuple")) false:=l1.andThen l2
 have l8:PySem.W.Looks M hp (isExcClass (.ref D)) true:=l6.andThen (by rw [if_pos rfl]; exact l3)
 unfold excMatches
 refine wpAny_bind (l7.at ?_)
 rw [if_neg (by decide)]
 refine wpAny_bind (wpAny_pure (wpAny_bind ?_))
 rw [List.forIn_cons]
 refine wpAny_bind (wpAny_bind (l8.at ?_))
 simp only [Bool.not_true,Bool.false_eq_true,if_false]
 refine wpAny_pure ?_
 dsimp only
 rw [List.forIn_nil]
 refine wpAny_pure (wpAny_bind (l4.at (wpAny_bind ?_)))
 rw [List.forIn_cons]
 refine wpAny_bind (wpAny_bind (l5.at ?_))
 cases b with
 | true=>
   rw [if_pos rfl]
   exact wpAny_pure (wpAny_pure (wpAny_pure hq))
 | false=>
   rw [if_neg (by decide)]
   refine wpAny_pure ?_
   dsimp only
   rw [List.forIn_nil]
   exact wpAny_pure (wpAny_pure hq)
theorem name_goes {M:Model} {A:Around} {E:Value->Shared->Prop} {i:Nat} {x:Str} {pos:Pos} {Q:Unit->Shared->Prop} (I:Inv X pins σ H s) (hN:X.N.Nodup) (hi:X.N[i]?=some x) (hx:X.env.scope.names.lookup x=some .local)
 (h:∀ s',Inv X pins (σ.set i none) H s'->Q () s'):wpAny M A (do bindName X.env x .none; unbindBehindTheSuite X.env x pos) Q E s:=by
 have hiσ:i < σ.length:=by rw [I.len]; exact (List.getElem?_eq_some_iff.mp hi).1
 refine wpAny_bind (wpAny_bindName (store_ok (v:=.non) I hN hi (.inl hx) rfl (fun s1 I1=>?_) (.inr hx)))
 obtain ⟨m,hn,hl⟩:=id I1.loc
 have hk:X.env.kindOf x=some .local:=hx
 have hcls:(X.env.scope.kind == .class || (X.env.scope.kind == .module && X.env.locals != X.env.globals))=false:=by rw [I.ok.kind]; rfl
 obtain ⟨u,ru,lu⟩:=hl i x .non hi (by rw [List.getElem?_set_self hiσ]) (.inl hx)
 have mx:m x=some u:=by
  rcases lu with ⟨_,z⟩ | ⟨z,_⟩
  ·exact z
  ·rw [hk] at z; rcases z with z | z <;> cases z
 unfold unbindBehindTheSuite
 refine wpAny_onRaise ?_
 unfold unbindName
 refine wpAny_bind (wpAny_point (wpAny_bind ?_))
 unfold deleteName
 simp only [hk,hcls]
 rw [if_neg (by decide)]
 refine wpAny_bind (wpAny_nsDel_keeps hn fun h2 v hn2 hs2=>?_)
 simp only [mx,Option.isSome_some,Bool.not_true,Bool.false_eq_true,if_false]
 refine wpAny_pure (wpAny_point (h _ ?_))
 have oL:∃ o,s1.heap.get? X.env.locals=some o:=by obtain ⟨o,_,_,z,_⟩:=hn; exact ⟨o,z⟩
 have cne:=I1.cne
 refine ⟨I1.ok,I1.os,I1.bare,⟨fun b o e n hb hx=>?_,fun b o e n hb hx=>?_,I1.base.free,fun b o e hx=>?_,I1.base.tups,I1.base.frzs,I1.base.tbls⟩,⟨_,hn2,fun j y v' e1 e2 e3=>?_⟩,fun y c e=>?_,I1.free,I1.freeC,fun p hp=>?_,fun b ob e=>?_,by rw [List.length_set]; exact I.len⟩
 ·exact (hs2.2 b (Nat.ne_of_lt (Nat.lt_of_lt_of_le (Heap.lt_size e) I1.ok.above))).trans (I1.base.keep b o e n hb hx)
 ·obtain ⟨sl,e1⟩:=I1.base.slot b o e n hb hx
  exact ⟨sl,(hs2.2 b (Nat.ne_of_lt (Nat.lt_of_lt_of_le (Heap.lt_size e) I1.ok.above))).trans e1⟩
 ·obtain ⟨o',e1⟩:=I1.base.there b o e hx
  exact ⟨o',(hs2.2 b (Nat.ne_of_lt (Nat.lt_of_lt_of_le (Heap.lt_size e) I1.ok.above))).trans e1⟩
 ·have hj:j≠i:=fun z=>by
   subst z
   rw [List.getElem?_set_self hiσ] at e2
   cases e2
  rw [List.getElem?_set_ne (Ne.symm hj)] at e2
  obtain ⟨u',r',q⟩:=hl j y v' e1 (by rw [List.getElem?_set_ne (Ne.symm hj)]; exact e2) e3
  refine ⟨u',r',?_⟩
  rcases q with ⟨k,e⟩ | ⟨k,c,e,z⟩
  ·refine .inl ⟨k,?_⟩
   have:y≠x:=fun e=>hj (nodup_ix hN e1 (e ▸ hi))
   simp [this,e]
  ·exact .inr ⟨k,c,e,z.sameBut hs2 (cne y c e)⟩
 ·obtain ⟨w',z⟩:=I1.cell y c e
  exact ⟨w',z.sameBut hs2 (cne y c e)⟩
 ·obtain ⟨e,n,ne,nf,d⟩:=I1.pin p hp
  exact ⟨(hs2.2 p.1 ne).trans e,n,ne,nf,d⟩
 ·refine (I1.hok b ob e).stay (fun c w' hc q=>(hs2.2 c ?_).trans q) (fun _ q=>q) fun _ _ q=>q
  rintro rfl
  rcases hc with rfl | hc
  ·rw [I1.free] at e; cases e
  ·rw [I1.free] at hc; cases hc
end
def Catches (X:Cx) (RX:St->Addr->Hp->Prop):Prop:=∀ (pins:List (Addr × Obj)) (σ:St) (H:Hp) (s:Shared) (e:Value) (s':Shared),Inv X pins σ H s->CXR X.prog X.w X.stack H s (fun e _ H'=>∃ a,e=.ref a/\RX σ a H') e s'->X.xe e s'
def tCallT (RX:St->Addr->Hp->Prop) (sp:Sp) (t:TA):TE:=fun σ H Q=>t σ H fun vs H1=>sp vs H1 Q (fun e _ H'=>∃ a,e=.ref a/\RX σ a H')
section
variable {X:Cx}
theorem pe_fnT {RX:St->Addr->Hp->Prop} {x:Str} {ps:List Str} {sp:Sp} {k j:Nat} {p pos:Pos} {e:Expr} {es:List Expr} {t:TA} (F:D9 X.prog X.w X.K X.mg X.base x k ps sp) (hc:Catches X RX) (hr:Room j X.A) (hj:k<=j) (hg:Gl X x) (ha:PA X (e :: es) t)
 (hdb:(x == ("__debug__":Str))=false:=by decide) (he:starEach (e :: es) X.env=(false,eval e X.env) :: starEach es X.env:=by rfl) (hpl:(backTo pos (starEach es X.env)).any (·.1)=false:=by rfl) :
 PE X (.Call (.Name x p) (e :: es) [] pos) (tCallT RX sp t):=by
 obtain ⟨f,fd,G,hm,hk,hb⟩:=F.ex
 intro pins s σ H Q I h
 refine wpAny_Call_Name_kw (ld_glob I hg hm ?_ hdb)
 refine PySem.W.callWith_K (h₀:=X.base) I.ok.mod.kin hk (thn (ha pos pins s σ H _ I h) fun us s1 ⟨vs,H1,I1,r,q⟩=>⟨I1.kIn,?_⟩) he hpl
 have hl:(us ++ []).length=ps.length:=by rw [List.append_nil,← r.length]; exact G.len _ _ _ _ q
 have hb2:=hb s1 us I1.kIn hl
 rw [List.append_nil] at hb2
 refine wpAny_call (codeAny_mono (G.run X.A X.stack s1 H1 ⟨us,[]⟩ us vs Q _ (hr.mono hj) I1.env0 hb2 r q) fun r s' hq=>?_)
 cases r with
 | error e=>exact hc pins σ H1 s1 e s' I1 hq
 | ok fl=>
   cases fl with
   | ret u=>exact I1.after hq
   | next=>exact False.elim hq
   | brk=>exact False.elim hq
   | cont=>exact False.elim hq
end
section
variable {X:Cx}
end
theorem pe_xfldK {X:Cx} (K:PySem.W.Frag) {e:Expr} {f:Str} {pos:Pos} {ta:TE} (he:PE X e ta) (hK:X.K=K:=by rfl) (hb:attributeBase e f X.env (eval e X.env)=eval e X.env:=by rfl):PE X (.Attribute e f pos) (tXFld K ta f):=by
 subst hK
 exact pe_xfld he hb
section
variable {X:Cx}
theorem vals_strs:∀ (l:List (Str × Tok)),Vals ((l.map (·.1)).map V.str) (strValues l)
 | []=>.nil
 | p :: r=>.cons ⟨p.2,rfl⟩ (vals_strs r)
theorem mt_split:MtR X "str.split" (fun x xs H Q=>∃ z y,x=.str z/\xs=[.str y]/\(y.length == 0)=false/\z.length + 2<=sizeLine/\∀ p,H p=none->Q (.ref p) (upd H p (.lst ((Txt.split z y).map V.str)))):=by
 intro pins s σ H x xs v us Q I rx rs h
 obtain ⟨z,y,rfl,rfl,hy,hz,q⟩:=h
 obtain ⟨t,rfl⟩:=rx
 obtain ⟨u,rfl,ru⟩:=vals1 rs
 obtain ⟨t',rfl⟩:=ru
 have hn:H s.heap.objs.size=none:=I.hok.fresh (Nat.le_refl _)
 have len:(Txt.split z y).length<=sizeLine:=by
  unfold Txt.split
  have e1:=StrLaws.occ_length_le z y 0 z.length (z.length + 1)
  split
  ·show 1<=sizeLine; omega
  ·split
   ·show 1<=sizeLine; omega
   ·rw [length_partsBetween]; omega
 have lay:∀ (l:List (Str × Tok)) (h':Heap) (k:Nat),l.map (·.1)=Txt.split z y->(∀ b o,s.heap.get? b=some o->h'.get? b=some o)->h'.get? s.heap.objs.size=some { cls:=.type "list",data:=.seq (strValues l).toArray }->
  EP X pins σ Q (.ref s.heap.objs.size) { s with heap:=h',toks:=k }:=fun l h' k e kk g=>by
  refine ⟨.ref s.heap.objs.size,_,I.laid (t':=k) kk (Nat.le_refl _) ?_,rfl,q _ hn⟩
  refine ⟨by rw [List.length_map]; exact len,strValues l,0,?_,g⟩
  rw [← e]
  exact vals_strs l
 have new:∀ (l:List (Str × Tok)) (k:Nat),l.map (·.1)=Txt.split z y->EP X pins σ Q (.ref s.heap.objs.size) { s with heap:=s.heap.push { cls:=.type "list",data:=.seq (strValues l).toArray },toks:=k }:=fun l k e=>
  lay l _ k e (fun b o eb=>Heap.get?_push_of_some _ eb) (Heap.get?_push_size s.heap rfl)
 have sp:Txt.split z y=if (decide (z.length < y.length) || decide (Builtin.Str.strKind z < Builtin.Str.strKind y))=true then [z] else if (Builtin.Str.occurrences z y 0 z.length (z.length + 1)).isEmpty=true then [z] else Builtin.Str.partsBetween z (Builtin.Str.occurrences z y 0 z.length (z.length + 1)) y.length:=rfl
 by_cases c1:(decide (z.length < y.length) || decide (Builtin.Str.strKind z < Builtin.Str.strKind y))=true
 ·refine call_meets PySem.F.slot_str_split (typeIs_str _ _ _) PySem.F.entry_str_split (PySem.F.args_str_split_2 _ _) (meets_str_split_cannot_occur z y t t' c1) ?_
  exact new [(z,t)] s.toks (by rw [sp,if_pos c1]; rfl)
 ·have c1':=Bool.eq_false_iff.mpr c1
  by_cases c2:(Builtin.Str.occurrences z y 0 z.length (z.length + 1)).isEmpty=true
  ·refine call_meets PySem.F.slot_str_split (typeIs_str _ _ _) PySem.F.entry_str_split (PySem.F.args_str_split_2 _ _) (meets_str_split_not_found z y t t' c1' hy c2) ?_
   exact new [(z,t)] s.toks (by rw [sp,if_neg c1,if_pos c2]; rfl)
  ·have c2':=Bool.eq_false_iff.mpr c2
   have e3:Txt.split z y=Builtin.Str.partsBetween z (Builtin.Str.occurrences z y 0 z.length (z.length + 1)) y.length:=by rw [sp,if_neg c1,if_neg c2]
   rw [e3] at len
   refine call_meets PySem.F.slot_str_split (typeIs_str _ _ _) PySem.F.entry_str_split (PySem.F.args_str_split_2 _ _) (meets_str_split_sep z y t t' c1' hy c2' (by omega) len) ?_
   have z4:=new (numbered s.toks (Builtin.Str.partsBetween z (Builtin.Str.occurrences z y 0 z.length (z.length + 1)) y.length)) (s.toks + (Builtin.Str.partsBetween z (Builtin.Str.occurrences z y 0 z.length (z.length + 1)) y.length).length) ((numbered_texts _ _).trans e3.symm)
   rw [← strsFrom_eq] at z4
   exact z4
def findZ (z y:Str):Int:=match Builtin.Str.occurrences z y 0 z.length 1 with | i :: _=>(i:Int) | []=>-1
theorem mt_find:MtR X "str.find" (fun x xs H Q=>∃ z y,x=.str z/\xs=[.str y]/\Q (.int (findZ z y)) H):=by
 intro pins s σ H x xs v us Q I rx rs h
 obtain ⟨z,y,rfl,rfl,q⟩:=h
 obtain ⟨t,rfl⟩:=rx
 obtain ⟨u,rfl,ru⟩:=vals1 rs
 obtain ⟨t',rfl⟩:=ru
 exact call_gives PySem.F.slot_str_find (typeIs_str _ _ _) PySem.F.entry_str_find (PySem.F.args_str_find_2 _ _) (gives_str_find z y t t') ⟨.int _,H,I.tok _,⟨_,rfl⟩,q⟩
theorem op_neNil (hu:X.A.units < cLine):OpR X (compareOp .NotEq) (fun x y H Q=>∃ a b xs,x=.ref a/\y=.ref b/\SqL X.K H a xs/\SqL X.K H b []/\Q (.bl (!xs.isEmpty)) H):=by
 intro pins s σ H x y v u Q I rx ry h
 obtain ⟨a,b,xs,rfl,rfl,ha,hb,q⟩:=h
 cases rx
 cases ry
 obtain ⟨its,rv,pl,_⟩:=I.list ha
 obtain ⟨its',rv',pl',_⟩:=I.list hb
 have l1:=rv.length
 cases rv'
 cases xs with
 | nil=>
   cases rv
   exact SeqAt.RcNeAt.lists (e:=fun _=>true) pl.isList pl'.isList rfl hu (fun j h1 h2=>absurd h2 (by simp)) _ _ _ _ (Bh I q (by simp))
 | cons x r=>
   exact SeqAt.RcNeAt.lists_lengths pl.isList pl'.isList (by simp at l1; simp [← l1]) hu _ _ _ _ (Bh I q (by simp))
end
section
variable {X:Cx}
def rSlS:V->Option Int->Option Int->Hp->VK->Prop:=fun x lo hi H Q=>∃ z,x=.str z/\z.length<=sizeLine/\Q (.str (Txt.slice z lo hi)) H
theorem sl_str:SlR X rSlS:=by
 intro pins s σ H x v vl vu lo hi sl Q I rx hs pl pu h
 obtain ⟨z,rfl,hz,q⟩:=h
 obtain ⟨t,rfl⟩:=rx
 refine ⟨"str",_,PySem.F.slot_str_getitem.lookup,typeIs_str _ _ _,?_⟩
 have fin:∀ t' k,EP X pins σ Q (.str (Txt.slice z lo hi) t') { s with toks:=k }:=fun t' k=>⟨.str _,H,I.tok _,⟨_,rfl⟩,q⟩
 cases pl with
 | none=>cases pu with
   | none=>exact wpAny_getItem_str_slice (l:=none) (u:=none) (st:=none) hs rfl (post_val_or_str ⟨Nat.le_trans (Txt.slice_le z _ _) hz,fin⟩)
   | int j uj=>exact wpAny_getItem_str_slice (l:=none) (u:=some (j,uj)) (st:=none) hs rfl (post_val_or_str ⟨Nat.le_trans (Txt.slice_le z _ _) hz,fin⟩)
 | int i ui=>cases pu with
   | none=>exact wpAny_getItem_str_slice (l:=some (i,ui)) (u:=none) (st:=none) hs rfl (post_val_or_str ⟨Nat.le_trans (Txt.slice_le z _ _) hz,fin⟩)
   | int j uj=>exact wpAny_getItem_str_slice (l:=some (i,ui)) (u:=some (j,uj)) (st:=none) hs rfl (post_val_or_str ⟨Nat.le_trans (Txt.slice_le z _ _) hz,fin⟩)
def tF3 (ta tb:TE) (y:Str):TE:=fun σ H Q=>ta σ H fun x H1=>∃ z,x=.str z/\z.length + y.length<=sizeLine/\tb σ H1 fun v H2=>∃ n,v=.int n/\n.natAbs.log2 < 1920/\(z ++ y ++ Str.ofString (toString n)).length<=sizeLine/\Q (.str (z ++ y ++ Str.ofString (toString n))) H2
theorem pe_f3 {a b:Expr} {ta tb:TE} {y:Str} {k:Nat} {p1 p2 p3 pos:Pos} (ha:PE X a ta) (hb:PE X b tb):PE X (.JoinedStr [.FormattedValue a (-1) none p1,.Constant (.str y) k p2,.FormattedValue b (-1) none p3] pos) (tF3 ta tb y):=by
 intro pins s σ H Q I h
 refine wpAny_JoinedStr ?_
 show wpAny _ _ (eval (.FormattedValue a (-1) none p1) X.env) _ _ _
 refine wpAny_FormattedValue_plain (thn (ha pins s σ H _ I h) fun u s1 ⟨x,H1,I1,rx,z,ex,hz,q⟩=>?_)
 subst ex
 obtain ⟨t,rfl⟩:=rx
 have e0:Str.empty ++ z=z:=by
  show (⟨#[] ++ z.cps⟩:Str)=z
  rw [Array.empty_append]
 have lz:∀ a b:Str,(a ++ b).length=a.length + b.length:=fun a b=>by
  show (a.cps ++ b.cps).size=_
  rw [Array.size_append]
  rfl
 refine formatField_str (fun t' tk=>⟨z,t',rfl,by rw [e0]; omega,?_⟩) (by omega)
 rw [e0]
 show wpAny _ _ (eval (.Constant (.str y) k p2) X.env) _ _ _
 refine Calls.Constant_str ⟨y,_,rfl,by rw [lz]; omega,?_⟩
 show wpAny _ _ (eval (.FormattedValue b (-1) none p3) X.env) _ _ _
 refine wpAny_FormattedValue_plain (thn (hb pins _ σ H1 _ ((I1.tok tk).tok _) q) fun u s2 ⟨x,H2,I2,rx,n,ex,hn,hl,q2⟩=>?_)
 subst ex
 obtain ⟨t2,rfl⟩:=rx
 refine wpAny_formatField_int hn ⟨_,_,rfl,hl,hl,?_⟩
 exact ⟨.str _,H2,(I2.tok _).tok _,⟨_,rfl⟩,q2⟩
end
section
variable {X:Cx} {pins:List (Addr × Obj)} {σ:St} {H:Hp} {s:Shared}
end
structure New0 (K:PySem.W.Frag) (mg:Str->Option Value) (x:Str) (C:Addr):Prop where
 mg:mg x=some (.ref C)
 makes:PySem.W.makesIn K C=true
 init:PySem.W.findIn K (.ref C) "__init__"=some (some (.builtin "object.__init__"))
 kp:PySem.W.keepIn K (.ref C)=true
def tNew0 (C:Addr):TE:=fun _ H Q=>∀ x dx,H x=none->H dx=none->dx≠x->Q (.ref x) (upd (upd H dx (.own x)) x (.ins C dx []))
section
variable {X:Cx} {C:Addr} {x m:Str} {p pos apos:Pos} {o:Expr} {ta:TE}
theorem pe_new0 (D:New0 X.K X.mg x C) (hg:Gl X x) (hdb:(x == ("__debug__":Str))=false:=by decide):PE X (.Call (.Name x p) [] [] pos) (tNew0 C):=by
 intro pins s σ H Q I h
 refine wpAny_Call_Name_kw (ld_glob I hg D.mg ?_ hdb)
 refine PySem.W.callWith_K0 I.kIn D.kp ?_
 have hq:=h (s.heap.objs.size + 1) s.heap.objs.size (I.hok.fresh (Nat.le_succ _)) (I.hok.fresh (Nat.le_refl _)) (Nat.ne_of_lt (Nat.lt_succ_self _))
 have I2:=Inv.made (C:=C) I
 refine wpAny_call (make_map0 I.kIn D.makes D.init (fun self=>PySem.W.Looks.of_pure (PySem.W.oi_bind self)) ?_)
 have Y:=PySem.W.makes_of (M:=model X.prog X.w) I.kIn D.makes
 have hx:((s.heap.push PySem.W.emptyDict).push (PySem.W.instObj C s.heap.objs.size)).get? (s.heap.objs.size + 1)=some (PySem.W.instObj C s.heap.objs.size):=by
  have:=Heap.get?_push_size (s.heap.push PySem.W.emptyDict) (o:=PySem.W.instObj C s.heap.objs.size) rfl
  rwa [Heap.size_push] at this
 have t1:PySem.W.Looks (model X.prog X.w) ((s.heap.push PySem.W.emptyDict).push (PySem.W.instObj C s.heap.objs.size)) (typeOf (.ref (s.heap.objs.size + 1))) (.ref C):=(PySem.W.Looks.ld hx).andThen .now
 have t2:PySem.W.Looks (model X.prog X.w) ((s.heap.push PySem.W.emptyDict).push (PySem.W.instObj C s.heap.objs.size)) (isInstance (.ref (s.heap.objs.size + 1)) (.type "object")) true:=
  t1.andThen (Y.top.keeps fun b o e=>Heap.get?_push_of_some _ (Heap.get?_push_of_some _ e))
 refine codeAny_call_builtin PySem.W.oi_plain PySem.W.entry_oi (@PySem.W.check_slot (model X.prog X.w) _ _ _ "object.__init__" "object" "__init__" (.ref (s.heap.objs.size + 1)) [] [] _ PySem.W.oi_kind PySem.W.oi_split t2 (PySem.W.oi_args (.ref (s.heap.objs.size + 1))) ?_)
 rw [PySem.W.oi_run]
 exact wpAny_pure (And.intro rfl ⟨V.ref (s.heap.objs.size + 1),_,I2,rfl,hq⟩)
structure MethD (P:Program) (w:World) (K:PySem.W.Frag) (mg:Str->Option Value) (base:Heap) (CX:CXT) (k:Nat) (C:Addr) (m:Str) (ps:List Str) (sp:Sp):Prop where
 out:∃ (f:Addr) (fd:FuncData),Cls K C/\Meth K C m f/\FnOk P w K mg base CX k f fd ps sp/\Binds K fd ps []
def tMethD (D:Addr->Sp->Prop) (m:Str) (E:XK) (ta:TE):TE:=fun σ H Q=>ta σ H fun x H1=>∃ a C dx fs sp,x=.ref a/\H1 a=some (.ins C dx fs)/\fs.lookup m=none/\D C sp/\sp [x] H1 Q E
theorem pe_methD {CX:CXT} {k:Nat} {D:Addr->Sp->Prop} {E:XK} {pl:Sem Bool} (he:PE X o ta) (hD:∀ C sp,D C sp->MethD X.prog X.w X.K X.mg X.base CX k C m ["self"] sp) (hr:Room k X.A) (hx:D8 CX X E)
 (ht:eval (.Call (.Attribute o m apos) [] [] pos) X.env=(do
   let ov ← eval o X.env
   standAt apos.atName
   let (f,first) ← holding [ov] (getMethod ov m pl)
   callWith pos f first (backTo pos (starEach [] X.env)) (backToKw pos (keywordEach [] X.env))):=by rfl) :
 PE X (.Call (.Attribute o m apos) [] [] pos) (tMethD D m E ta):=by
 intro pins s σ H Q I h
 refine PySem.W.methodCall_KW (pl:=pl) (thn (he pins s σ H _ I h) fun u s1 ⟨x,H1,I1,rx,a,C,dx,fs,sp,ex,ea,l,d,q⟩=>?_) ht
 subst ex
 obtain rfl:u=Value.ref a:=rx
 obtain ⟨f,fd,c,hm,F,hb⟩:=(hD C sp d).out
 refine getmeth_ok I1 ea c hm l ?_
 exact PySem.W.callWith_K0 (first:=[.ref a]) I1.kIn hm.kp (run_fn (us:=[.ref a]) (vs:=[.ref a]) F hr hb .nil hx I1 (.cons rfl .nil) q)
def upZ (x:Str):Str:=⟨PySem.placed x fun _ c=>Unicode.upperOf c⟩
theorem mt_upper:MtR X "str.upper" (fun x xs H Q=>∃ z,x=.str z/\xs=[]/\Builtin.Str.tooLong (upZ z).cps.size=false/\Q (.str (upZ z)) H):=by
 intro pins s σ H x xs v us Q I rx rs h
 obtain ⟨z,rfl,rfl,hz,q⟩:=h
 obtain ⟨t,rfl⟩:=rx
 cases rs
 exact call_gives PySem.F.slot_str_upper (typeIs_str _ _ _) PySem.F.entry_str_upper (PySem.F.args_str_upper_1 _) (gives_str_upper z t hz) ⟨(show _<=sizeLine from by
  have:=hz
  unfold Builtin.Str.tooLong at this
  have z2:(upZ z).cps.size<=sizeLine:=by simpa using this
  exact z2),⟨.str _,H,I.tok _,⟨_,rfl⟩,q⟩⟩
end
end L2
namespace PySem
namespace SeqAt
open AutoSeq1 (wpAny_loadPart')
open PySem.Spec PyProof.Rows
end SeqAt
end PySem
namespace L2
open PySem PySem.Spec PyProof.Rows
section
variable {X:Cx}
end
structure FunD (K:PySem.W.Frag) (x qual:Str) (st:Stmt) (f:Addr) (fd:FuncData):Prop where
 ex:∃ (oc:Value) (od:Option Addr) (dV kV doc pm:Value) (an:Option Addr) (cdv ct:Value) (osl:Array (Option Value)),
  fd=PySem.W.fnOf x qual (Db st) (B1 st) (Af st) dV kV doc pm an cdv ct/\K.lookup f=some ⟨oc,od,.func fd,osl⟩/\PySem.W.codeIn K cdv qual=true
 kp:PySem.W.keepIn K (.ref f)=true
section
variable {P:Program} {w:World} {K:PySem.W.Frag} {mg:Str->Option Value} {base:Heap}
theorem FunD.ok {x qual:Str} {st:Stmt} {f:Addr} {fd:FuncData} {N ps:List Str} {k:Nat} {sp:Sp} (F:FunD K x qual st f fd) (S:Ao N ps (Af st)) (len:∀ vs H Q E,sp vs H Q E->vs.length=ps.length)
 (hbody:∀ (cdv:Value) (A:Around) (outer:List Env) (s:Shared) (H:Hp) (vs:List V) (Q:VK) (E:XK),Room k (A.deeper (envOfC qual (Af st) s.heap.objs.size f cdv))->sp vs H Q E->
   ∃ t,PSs (cxOf CX0 P w K mg base N qual (Af st) f cdv A outer s H E).nox (B1 st) t/\t { nx:=fun _ H'=>Q .non H',rt:=Q } (start N vs) H):FnOk P w K mg base CX0 (k + 1) f fd ps sp:=by
 obtain ⟨oc,od,dV,kV,doc,pm,an,cdv,ct,osl,rfl,lk,hcd⟩:=F.ex
 refine fn_of lk hcd S len fun A outer s H vs Q E hr hsp=>?_
 obtain ⟨t,h,q⟩:=hbody cdv A outer s H vs Q E hr hsp
 exact ⟨t,h.nox,q⟩
end
section
variable {X:Cx}
end
end L2
namespace L2
open PySem PySem.Spec PyProof.Rows
section
variable {X:Cx}
end
open Builtin.SmallTypes (nextOf)
section
variable {P:Program} {w:World}
end
open Builtin.SmallTypes (nextOf ownedTupleIsFree ownedTupleHandOut)
section
variable {P:Program} {w:World} {A:Around} {E:Value->Shared->Prop} {s:Shared} {z TI TO i1 i2 l1 l2:Addr} {us vs:Array Value} {S1 S2:Nat->Heap->Prop}
end
end L2
namespace L2
open PySem PySem.Spec PyProof.Rows
section
variable {X:Cx}
end
section
variable {X:Cx} {k:Nat} {f C:Addr} {fd:FuncData} {ps:List Str} {sp:Sp} {dvs:List V} {ds:List Value} {E:XK} {x m:Str} {p pos apos:Pos} {e:Expr} {es:List Expr} {t:TA} {RX:St->Addr->Hp->Prop}
end
section
variable {P:Program} {w:World} {K:PySem.W.Frag} {mg:Str->Option Value} {base:Heap}
end
def gLst (K:PySem.W.Frag) (n:Nat) (t:TGs):TG:=fun v σ H Q=>∃ a xs,v=.ref a/\SqL K H a xs/\xs.length=n/\t xs σ H Q
theorem pg_lstK {X:Cx} {pos:Pos} {es:List Expr} {k:Nat} {t:TGs} {n:Nat} (K:PySem.W.Frag) (hc:X.calm=true) (h:PGs X es t) (hK:X.K=K:=by rfl)
 (hn:(assignEach es X.env).length=n:=by rfl) (hst:(assignEach es X.env).findIdx? (·.1)=none:=by rfl):PG X (.Tuple es k pos) (gLst K n t):=by
 subst hK
 intro pins s σ H v u Q I r hw
 obtain ⟨a,xs,e1,hq,hl,hw⟩:=hw
 subst e1
 cases r
 obtain ⟨its,rv,ht,hz⟩:=I.list hq
 rw [assign_Tuple]
 refine wpAny_bind (wpAny_standAt ?_)
 unfold unpack
 rw [show (assignEach es X.env).length=its.toArray.size by simp [hn,← hl,rv.length],hst]
 refine wpAny_bind (wpAny_holding (PySem.W.kun_itemsOf (I.ok.hd hc) ht.isList fun h' hx=>?_))
 have I1:Inv X pins σ H { s with heap:=h' }:=I.kept (t':=s.toks) fun b o e=>hx b o (Nat.ne_of_lt (Heap.lt_size e)) e
 exact h pins _ σ H xs _ Q I1 (by simpa using rv) hw
end L2
namespace PySem
open Sem (wp)
open Builtin
end PySem
namespace L2
open PySem PySem.Spec PyProof.Rows
section
variable {P:Program} {w:World} {K:PySem.W.Frag} {mg:Str->Option Value} {base:Heap}
theorem FunD.okX {x qual:Str} {st:Stmt} {f:Addr} {fd:FuncData} {N ps:List Str} {k:Nat} {sp:Sp} (F:FunD K x qual st f fd) (S:Ao N ps (Af st)) (len:∀ vs H Q E,sp vs H Q E->vs.length=ps.length)
 (hbody:∀ (cdv:Value) (A:Around) (outer:List Env) (s:Shared) (H:Hp) (vs:List V) (Q:VK) (E:XK),Room k (A.deeper (envOfC qual (Af st) s.heap.objs.size f cdv))->sp vs H Q E->
   ∃ t,PSs (cxOf (CXR P w) P w K mg base N qual (Af st) f cdv A outer s H E) (B1 st) t/\t { nx:=fun _ H'=>Q .non H',rt:=Q } (start N vs) H):FnOk P w K mg base (CXR P w) (k + 1) f fd ps sp:=by
 obtain ⟨oc,od,dV,kV,doc,pm,an,cdv,ct,osl,rfl,lk,hcd⟩:=F.ex
 exact fn_of lk hcd S len fun A outer s H vs Q E hr hsp=>hbody cdv A outer s H vs Q E hr hsp
end
theorem ix_listK {X:Cx} (K:PySem.W.Frag) (hK:X.K=K):IxR X (rIxL K):=by
 subst hK
 exact An
theorem call_lenK {X:Cx} (K:PySem.W.Frag) (hK:X.K=K):CallR X (.builtin "len") (fun xs H Q=>∃ x n,xs=[x]/\LenV K x H n/\Q (.int n) H):=by
 subst hK
 exact Aq
section
variable {X:Cx} {pins:List (Addr × Obj)} {σ:St} {H:Hp} {s:Shared}
end
section
variable {X:Cx}
end
section
variable {P:Program} {w:World} {A:Around} {E:Value->Shared->Prop} {s:Shared} {it d:Addr} {ob:Obj} {es:Array DictEntry} {ep i:Nat}
end
section
variable {X:Cx} {pins:List (Addr × Obj)} {σ:St} {H:Hp} {s:Shared} {a:Addr} {kvs:List (List Key × V)}
end
section
variable {X:Cx}
end
section
variable {X:Cx}
end
end L2
namespace PySem
namespace SeqAt
open AutoSeq1 (wpAny_loadPart')
open PySem.Spec PyProof.Rows
end SeqAt
end PySem
namespace L2
open PySem PySem.Spec PyProof.Rows
def eqI (y v:V):Bool:=if flatV v then eqV y v else false
def eT (w:Str) (n:Int) (vs:List V) (j:Nat):Bool:=match vs[j]? with
 | some v=>if j=0 then eqI (.str w) v else eqI (.int n) v
 | none=>false
section
variable {X:Cx} {pins:List (Addr × Obj)} {σ:St} {H:Hp} {s:Shared}
end
section
variable {X:Cx}
theorem D2 (a b:Str):(a ++ b).length=a.length + b.length:=by
 show (a.cps ++ b.cps).size=_
 rw [Array.size_append]
 rfl
theorem strs_flat (zs:List Str):(zs.map V.str).all flatV=true:=List.all_eq_true.mpr fun y hy=>by
 obtain ⟨z,_,rfl⟩:=List.mem_map.mp hy
 rfl
end
section
variable {X:Cx}
end
section
variable {prog:Program} {w:World} {A:Around} {R:Result->Shared->Prop} {I:Addr} {fp wr:List Addr} {G:Array GenState->Array GenState->Prop} {n:Nat} {P:Nat->Value->Prop} {St:Nat->Shared->Prop}
end
section
variable {prog:Program} {w:World} {A:Around} {E:Value->Shared->Prop} {s:Shared}
end
theorem boot_set:bootBuiltins "set"=some (.type "set"):=by decide +kernel
section
variable {X:Cx}
end
theorem atI_ex {α:Type} {xs:List α} {r:Int} (h0:0<=r) (h1:r < xs.length):∃ v,atI xs r=some v/\v ∈ xs:=by
 obtain ⟨k,rfl⟩:∃ k:Nat,r=(k:Int):=⟨r.toNat,by omega⟩
 have hk:k < xs.length:=by omega
 exact ⟨xs[k],Az (List.getElem?_eq_getElem hk),List.getElem_mem hk⟩
def C3 (c:Nat):Bool:=decide (97<=c/\c<=122)
theorem low_in (c:Nat):(!(Builtin.Str.occurrences (Str.ofString "abcdefghijklmnopqrstuvwxyz") ⟨#[c]⟩ 0 (Str.ofString "abcdefghijklmnopqrstuvwxyz").length 1).isEmpty)=C3 c:=by
 rw [PySem.StrLaws.found_one]
 have e:(Str.ofString "abcdefghijklmnopqrstuvwxyz").cps.toList=[97,98,99,100,101,102,103,104,105,106,107,108,109,110,111,112,113,114,115,116,117,118,119,120,121,122]:=by decide +kernel
 rw [e,Bool.eq_iff_iff]
 have h1:∀ c ∈ ([97,98,99,100,101,102,103,104,105,106,107,108,109,110,111,112,113,114,115,116,117,118,119,120,121,122]:List Nat),C3 c=true:=by decide +kernel
 have h2:∀ i:Fin 26,97 + i.val ∈ ([97,98,99,100,101,102,103,104,105,106,107,108,109,110,111,112,113,114,115,116,117,118,119,120,121,122]:List Nat):=by decide +kernel
 refine ⟨fun h=>h1 c (of_decide_eq_true h),fun h=>decide_eq_true ?_⟩
 unfold C3 at h
 have h:=of_decide_eq_true h
 obtain ⟨d,rfl⟩:=Nat.exists_eq_add_of_le h.1
 exact h2 ⟨d,by omega⟩
def Ak (z:Str):Bool:=decide (1<=z.length/\z.length<=8) && z.cps.toList.all C3
def wholeV:V->Bool
 | .int _=>true
 | _=>false
def wordV:V->Bool
 | .str z=>Ak z
 | _=>false
def numV:V->Bool
 | .int i=>decide (0<=i/\i<=99)
 | _=>false
def keyV (H:Hp):V->Bool
 | .ref a=>match H a with
   | some (.tup [x,y])=>wordV x && numV y
   | _=>false
 | _=>false
structure Tb1 (t:SetTable) (j1:Nat):Prop where
 mask:t.mask=7
 place:t.place=#[j1]
 dum:t.dummies=#[]
theorem below0 (j:Nat):SetTable.below #[] j=0:=by
 unfold SetTable.below
 rfl
theorem below1 (j1 j:Nat):SetTable.below #[j1] j=if j1 < j then 1 else 0:=by
 unfold SetTable.below
 show SetTable.below.go #[j1] j 1 0 1=_
 rw [SetTable.below.go.eq_def]
 show (if 0 < 1 then (if j1 < j then SetTable.below.go #[j1] j 0 1 1 else SetTable.below.go #[j1] j 0 0 0) else 0)=_
 rw [if_pos (by decide)]
 by_cases h:j1 < j
 ·rw [if_pos h,if_pos h]; rfl
 ·rw [if_neg h,if_neg h]; rfl
theorem has0 (j:Nat):SetTable.has #[] j=false:=by
 unfold SetTable.has
 rw [below0]
 rfl
theorem slot0 {t:SetTable} (hp:t.place=#[]) (hd:t.dummies=#[]) (j:Nat):t.slot j=.empty:=by
 unfold SetTable.slot
 rw [hp,hd,below0,has0]
 rfl
theorem slot1 {t:SetTable} {j1:Nat} (T:Tb1 t j1) (j:Nat):t.slot j=if j=j1 then .live 0 else .empty:=by
 unfold SetTable.slot
 rw [T.place,T.dum,below1,has0]
 by_cases h:j1 < j
 ·simp [h,show ¬ j=j1 by omega]
 ·by_cases e:j=j1
  ·subst e; simp
  ·simp [h,e,show ¬ j1=j by omega]
structure Rd1 (p:SetTable.Probe):Prop where
 lt:p.i < 8
 j:p.j=p.i
 more:p.more=0
 dum:p.dummy=none
theorem adv1 {t:SetTable} {j1:Nat} (T:Tb1 t j1) {p:SetTable.Probe} (R:Rd1 p):Rd1 (t.advance p)/\(t.advance p).perturb=p.perturb / 32/\(t.advance p).i=(p.i * 5 + 1 + p.perturb / 32) % 8:=by
 have hb:(p.i * 5 + 1 + p.perturb / 32) % 8 < 8:=Nat.mod_lt _ (by decide)
 have e:t.advance p={ j:=(p.i * 5 + 1 + p.perturb / 32) % 8,more:=0,i:=(p.i * 5 + 1 + p.perturb / 32) % 8,perturb:=p.perturb / 32,dummy:=none }:=by
  unfold SetTable.advance SetTable.leap SetTable.runEnd
  rw [T.mask,R.more,R.dum]
  simp only [gt_iff_lt,Nat.lt_irrefl,if_false]
  rw [if_neg (by omega),Nat.sub_self]
 rw [e]
 exact ⟨⟨hb,rfl,rfl,rfl⟩,rfl,rfl⟩
theorem probe_free {t:SetTable} {j1:Nat} (T:Tb1 t j1) {hashAt:Nat->Int} {h:Int} (hne:(hashAt 0 == h)=false):∀ (n F:Nat) (p:SetTable.Probe),Rd1 p->p.perturb < 32 ^ n->n + 2<=F->
 ∃ j,j < 8/\j≠j1/\SetTable.probe.go t hashAt h F p=some (.empty j none)
 | n,0,p,R,hp,hF=>by omega
 | n,F + 1,p,R,hp,hF=>by
   rw [SetTable.probe.go.eq_def]
   simp only [slot1 T]
   by_cases e:p.j=j1
   ·simp only [e,if_true,hne,Bool.false_eq_true,if_false]
    obtain ⟨R2,p2,i2⟩:=adv1 T R
    cases n with
    | zero=>
      have h0:p.perturb=0:=by simpa using hp
      rw [h0] at p2 i2
      match F,hF with
      | F + 1,_=>
        refine ⟨(t.advance p).j,by rw [R2.j]; exact R2.lt,?_,?_⟩
        ·rw [R2.j,i2,← e,R.j]; have:=R.lt; omega
        ·rw [SetTable.probe.go.eq_def]
         simp only [slot1 T]
         rw [if_neg (by rw [R2.j,i2,← e,R.j]; have:=R.lt; omega)]
         simp only [R2.dum]
    | succ n=>
      exact probe_free T hne n F _ R2 (by rw [p2]; rw [Nat.pow_succ] at hp; omega) (by omega)
   ·simp only [e,if_false]
    exact ⟨p.j,by rw [R.j]; exact R.lt,e,by rw [R.dum]⟩
theorem start1 {t:SetTable} {j1:Nat} (T:Tb1 t j1) (h:Int):Rd1 (t.probeStart h)/\(t.probeStart h).perturb < 32 ^ 13:=by
 have hb:SetTable.bits h < 2 ^ 64:=by
  unfold SetTable.bits
  have:=Int.emod_lt_of_pos h (show (0:Int) < 2 ^ 64 by decide)
  have:=Int.emod_nonneg h (show (2 ^ 64:Int)≠0 by decide)
  omega
 have hm:SetTable.bits h % 8 < 8:=Nat.mod_lt _ (by decide)
 have e:t.probeStart h={ j:=SetTable.bits h % 8,more:=0,i:=SetTable.bits h % 8,perturb:=SetTable.bits h,dummy:=none }:=by
  unfold SetTable.probeStart SetTable.runEnd
  rw [T.mask]
  show SetTable.Probe.mk _ _ _ _ _=_
  rw [if_neg (by omega),Nat.sub_self]
 rw [e]
 exact ⟨⟨hm,rfl,rfl,rfl⟩,Nat.lt_of_lt_of_le hb (by decide +kernel)⟩
theorem probe_one {t:SetTable} {j1:Nat} (T:Tb1 t j1) {hashAt:Nat->Int} {h:Int} (he:(hashAt 0 == h)=true) {F:Nat} {p:SetTable.Probe} (R:Rd1 p) :
 SetTable.probe.go t hashAt h (F + 1) p=if p.j=j1 then some (.candidate j1 0 (t.advance p)) else some (.empty p.j none):=by
 rw [SetTable.probe.go.eq_def]
 simp only [slot1 T]
 by_cases e:p.j=j1
 ·simp only [e,if_true,he]
 ·simp only [e,if_false,R.dum]
theorem probe_cases {t:SetTable} {j1:Nat} (T:Tb1 t j1) {f:Nat->Int} {h:Int} {p:SetTable.Probe} {r:Option SetTable.Met} (R:Rd1 p) (hp:p.perturb < 32 ^ 13) (e:SetTable.probe t f h p=r) :
 (∃ j,j < 8/\j≠j1/\r=some (.empty j none))\/(p.j=j1/\r=some (.candidate j1 0 (t.advance p))):=by
 have hF:10 * SetTable.turns t.mask=219 + 1:=by rw [T.mask]; rfl
 rw [SetTable.probe.eq_def,hF] at e
 cases he:f 0 == h with
 | false=>
   obtain ⟨j,h1,h2,h3⟩:=probe_free T he 13 (219 + 1) p R hp (by decide)
   exact .inl ⟨j,h1,h2,by rw [← e,h3]⟩
 | true=>
   rw [probe_one T he R] at e
   by_cases ej:p.j=j1
   ·rw [if_pos ej] at e
    exact .inr ⟨ej,e.symm⟩
   ·rw [if_neg ej] at e
    exact .inl ⟨p.j,by rw [R.j]; exact R.lt,ej,e.symm⟩
section
variable {prog:Program} {w:World} {A:Around} {E:Value->Shared->Prop} {s:Shared}
theorem items_plain:∀ {ks:List Key} {us:List Value},ItemsAre (Ax prog w) ks us->∀ u ∈ us,(∃ i t,u=.int i t)\/(∃ z t,u=.str z t)
 | _,_,.nil,u,h=>by cases h
 | _,_,.cons hk h,u,hu=>by
   rcases List.mem_cons.mp hu with rfl | hu
   ·rcases B0 hk with ⟨i,t,_,e⟩ | ⟨z,t,_,e⟩
    ·exact .inl ⟨i,t,e⟩
    ·exact .inr ⟨z,t,e⟩
   ·exact items_plain h u hu
theorem hbv {a:Addr} {ks:List Key} {Q:Bool->Shared->Prop} (hk:IsTupleKey (Ax prog w) s.heap ks a) (q:∀ b,Q b s):wpAny (model prog w) A (hashByValue 8 (.ref a)) Q E s:=by
 obtain ⟨o,items,n,ho,hc,hd,hi⟩:=hk
 have hT:s.TypeIs (.ref a) "tuple":=⟨o,ho,hc⟩
 rw [hashByValue.eq_def]
 show wpAny _ _ (specialOf (.ref a) (Str.ofString "__hash__") >>= _) _ _ _
 refine wpAny_bind (wpAny_specialOf hT F.slot_tuple_hash.lookup ?_)
 show wpAny _ _ (seqItems? (.ref a) >>= _) _ _ _
 refine wpAny_bind (wpAny_seqItems ho hd ?_)
 show wpAny _ _ (forIn items _ _ >>= _) _ _ _
 refine wpAny_bind (wpAny_forIn_array' _ (fun l b s'=>(∀ u ∈ l,(∃ i t,u=Value.int i t)\/(∃ z t,u=Value.str z t))/\s'=s) _ ?_ ?_ items _ ⟨fun u hu=>items_plain hi u (by simpa using hu),rfl⟩)
 ·rintro x rest b s' ⟨hl,rfl⟩
  rcases hl x (List.mem_cons_self) with ⟨i,t,rfl⟩ | ⟨z,t,rfl⟩
  ·rw [hashByValue.eq_def]
   exact wpAny_pure ⟨fun u hu=>hl u (List.mem_cons_of_mem _ hu),rfl⟩
  ·rw [hashByValue.eq_def]
   exact wpAny_pure (wpAny_pure (q _))
 ·rintro b s' ⟨_,rfl⟩
  obtain ⟨b1,b2⟩:=b
  cases b1 with
  | none=>exact wpAny_pure (q _)
  | some r=>exact wpAny_pure (q _)
theorem oac {a:Addr} {ks:List Key} {Q:Bool->Shared->Prop} (hk:IsTupleKey (Ax prog w) s.heap ks a) (q:Q false s):wpAny (model prog w) A (ofAClassStatement 8 (.ref a)) Q E s:=by
 obtain ⟨o,items,n,ho,hc,hd,hi⟩:=hk
 rw [ofAClassStatement.eq_def]
 show wpAny _ _ (typeOf (.ref a) >>= _) _ _ _
 refine wpAny_bind (wpAny_typeOf_ref ho ?_)
 rw [hc]
 show wpAny _ _ (seqItems? (.ref a) >>= _) _ _ _
 refine wpAny_bind (wpAny_seqItems ho hd ?_)
 show wpAny _ _ (forIn items _ _ >>= _) _ _ _
 refine wpAny_bind (wpAny_forIn_array' _ (fun l b s'=>(∀ u ∈ l,(∃ i t,u=Value.int i t)\/(∃ z t,u=Value.str z t))/\b.1=none/\s'=s) _ ?_ ?_ items _ ⟨fun u hu=>items_plain hi u (by simpa using hu),rfl,rfl⟩)
 ·rintro x rest b s' ⟨hl,_,rfl⟩
  rcases hl x (List.mem_cons_self) with ⟨i,t,rfl⟩ | ⟨z,t,rfl⟩
  ·rw [ofAClassStatement.eq_def]
   exact wpAny_pure ⟨fun u hu=>hl u (List.mem_cons_of_mem _ hu),rfl,rfl⟩
  ·rw [ofAClassStatement.eq_def]
   exact wpAny_pure ⟨fun u hu=>hl u (List.mem_cons_of_mem _ hu),rfl,rfl⟩
 ·rintro b s' ⟨_,e,rfl⟩
  obtain ⟨b1,b2⟩:=b
  cases e
  exact wpAny_pure q
theorem seen {a:Addr} {ks:List Key} {Q:Bool->Shared->Prop} (hk:IsTupleKey (Ax prog w) s.heap ks a) {l:List Value} (hl:∀ y ∈ l,∃ b ks',y=.ref b/\IsTupleKey (Ax prog w) s.heap ks' b) (q:Q false s) :
 wpAny (model prog w) A (searchCouldBeSeen (.ref a) l) Q E s:=by
 rw [searchCouldBeSeen.eq_def]
 refine wpAny_bind (wpAny_forIn_list _ (fun l b s'=>(∀ y ∈ l,∃ b ks',y=.ref b/\IsTupleKey (Ax prog w) s.heap ks' b)/\b.1=none/\s'=s) _ ?_ ?_ l _ ⟨hl,rfl,rfl⟩)
 ·rintro x rest b s' ⟨hl,_,rfl⟩
  obtain ⟨c,ks',rfl,hc⟩:=hl x (List.mem_cons_self)
  have go:∀ y ∈ rest,∃ b ks',y=.ref b/\IsTupleKey (Ax prog w) s'.heap ks' b:=fun y hy=>hl y (List.mem_cons_of_mem _ hy)
  show wpAny _ _ (if (a == c || false)=true then _ else _) _ _ _
  rw [Bool.or_false]
  by_cases e:(a == c)=true
  ·rw [if_pos e]
   exact wpAny_pure ⟨go,rfl,rfl⟩
  ·rw [if_neg e]
   refine wpAny_bind ((tupleKind (Ax prog w)).quiet hk ?_)
   refine wpAny_bind ((tupleKind (Ax prog w)).quiet hc ?_)
   refine wpAny_bind (oac hk ?_)
   refine wpAny_bind (oac hc ?_)
   exact wpAny_pure ⟨go,rfl,rfl⟩
 ·rintro b s' ⟨_,e,rfl⟩
  obtain ⟨b1,b2⟩:=b
  cases e
  exact wpAny_pure q
theorem fits1 {t:SetTable} {j1:Nat} (T:Tb1 t j1):t.fits 1=true:=by
 unfold SetTable.fits SetTable.fill
 rw [T.place,T.dum,T.mask]
 rfl
theorem srch {S a b:Addr} {ka kb:List Key} {o:Obj} {ep:Nat} {t:SetTable} {h1:Int} {j1:Nat} (ho:s.heap.get? S=some o) (hd:o.data=.set #[(h1,.ref a)] ep t) (T:Tb1 t j1)
 (ha:IsTupleKey (Ax prog w) s.heap ka a) (hb:IsTupleKey (Ax prog w) s.heap kb b) (ne:ka≠kb) (hu:A.units < cLine) {h:Int} {Q:SetFound->Shared->Prop} (q:∀ j,j < 8->j≠j1->Q (.free j false) s) :
 ∀ (F n:Nat) (stand:Option SetTable.Probe) (p:SetTable.Probe),stand.getD (t.probeStart h)=p->Rd1 p->p.perturb < 32 ^ n->n<=13->(n + 2<=F\/(p.j≠j1/\1<=F))->
  wpAny (model prog w) A (setSearchFrom S (.ref b) h true F stand) Q E s
 | 0,n,stand,p,es,R,hp,hn,hF=>by omega
 | F + 1,n,stand,p,es,R,hp,hn,hF=>by
   have hp13:p.perturb < 32 ^ 13:=Nat.lt_of_lt_of_le hp (Nat.pow_le_pow_right (by decide) hn)
   rw [setSearchFrom.eq_def]
   refine wpAny_bind (wpAny_setState_of ho hd (fits1 T) ?_)
   have hg:t.gaveWay=false:=by unfold SetTable.gaveWay; rw [T.mask]; rfl
   show wpAny _ _ (if t.gaveWay=true then _ else _) _ _ _
   rw [hg,es]
   show wpAny _ _ (match SetTable.probe t _ h p with | some met=>_ | _=>_) _ _ _
   split
   ·rename_i met heq
    rcases probe_cases T R hp13 heq with ⟨j,hj8,hj1,e⟩ | ⟨ej,e⟩
    ·cases e
     exact wpAny_pure (q j hj8 hj1)
    ·cases e
     have R2:=adv1 T R
     have next:wpAny (model prog w) A (setSearchFrom S (.ref b) h true F (some (t.advance p))) Q E s:=by
      rcases hF with hF | ⟨hF,_⟩
      ·cases n with
       | zero=>
         have h0:p.perturb=0:=by simpa using hp
         refine srch ho hd T ha hb ne hu q F 0 (some (t.advance p)) (t.advance p) rfl R2.1 (by rw [R2.2.1,h0]; decide) (by decide) (.inr ⟨?_,by omega⟩)
         rw [R2.1.j,R2.2.2,h0,← ej,R.j]
         have:=R.lt
         omega
       | succ n=>exact srch ho hd T ha hb ne hu q F n (some (t.advance p)) (t.advance p) rfl R2.1 (by rw [R2.2.1]; rw [Nat.pow_succ] at hp; omega) (by omega) (.inl (by omega))
      ·exact absurd ej hF
     have hsm:t.sameMemory t.moves t.mask=some true:=by unfold SetTable.sameMemory; rw [if_pos (by simp)]
     have hsl:t.slot j1=.live 0:=by rw [slot1 T,if_pos rfl]
     show wpAny _ _ (if (!t.led)=true then _ else _) _ _ _
     cases hl:t.led with
     | true=>
       show wpAny _ _ (holding [Value.ref a] (eqBool (.ref a) (.ref b)) >>= _) _ _ _
       refine wpAny_bind (wpAny_holding ((tupleKind (Ax prog w)).eqBool hu ha hb ?_))
       rw [decide_eq_false ne]
       refine wpAny_bind (wpAny_setState_of ho hd (fits1 T) ?_)
       show wpAny _ _ (match t.sameMemory t.moves t.mask with | some same=>_ | _=>_) _ _ _
       rw [hsm]
       show wpAny _ _ (match (if true=true then t.slot j1 else .empty) with | .live i'=>_ | _=>_) _ _ _
       rw [if_pos rfl,hsl]
       show wpAny _ _ (isSame (.ref a) (.ref a) >>= _) _ _ _
       refine wpAny_bind (wpAny_isSame_ref_self ?_)
       exact next
     | false=>
       show wpAny _ _ (searchCouldBeSeen (.ref b) _ >>= _) _ _ _
       refine wpAny_bind (seen hb ?_ ?_)
       ·intro y hy
        obtain ⟨z,hz,rfl⟩:=List.mem_map.mp hy
        have:=Array.mem_toList_iff.mp hz
        rw [Array.mem_filter] at this
        have:=this.1
        simp only [List.mem_toArray,List.mem_cons,List.not_mem_nil,or_false] at this
        subst this
        exact ⟨a,ka,rfl,ha⟩
       show wpAny _ _ (holding [Value.ref a] (eqBool (.ref a) (.ref b)) >>= _) _ _ _
       refine wpAny_bind (wpAny_holding ((tupleKind (Ax prog w)).eqBool hu ha hb ?_))
       rw [decide_eq_false ne]
       refine wpAny_bind (wpAny_setState_of ho hd (fits1 T) ?_)
       show wpAny _ _ (match t.sameMemory t.moves t.mask with | some same=>_ | _=>_) _ _ _
       rw [hsm]
       show wpAny _ _ (match (if true=true then t.slot j1 else .empty) with | .live i'=>_ | _=>_) _ _ _
       rw [if_pos rfl,hsl]
       show wpAny _ _ (isSame (.ref a) (.ref a) >>= _) _ _ _
       refine wpAny_bind (wpAny_isSame_ref_self ?_)
       exact next
   ·rename_i hno
    rcases probe_cases T R hp13 rfl with ⟨j,_,_,e⟩ | ⟨_,e⟩
    ·exact absurd e (hno _)
    ·exact absurd e (hno _)
def tbP (b:Bool) (t:SetTable):SetTable:=if b=true then t else { t with plain:=false }
theorem addH {S a:Addr} {ks:List Key} {o:Obj} {es:Array (Int × Value)} {ep:Nat} {t:SetTable} {h:Int} {F:Nat} {Q:Bool->Shared->Prop} (ho:s.heap.get? S=some o) (hd:o.data=.set es ep t) (hf:t.fits es.size=true)
 (ha:IsTupleKey (Ax prog w) s.heap ks a) (C:Nat->Prop) (hs:∀ Q':SetFound->Shared->Prop,(∀ j,C j->Q' (.free j false) s)->wpAny (model prog w) A (setSearch S (.ref a) h true) Q' E s)
 (full:∀ j b,C j->(tbP b (t.put j).1).tooFull=false) (hsz:∀ j,C j->(SetTable.insertAt es (t.put j).2 (h,Value.ref a)).size<=sizeLine)
 (q:∀ j b,C j->Q true { s with heap:=s.heap.update S (Obj.putSet (SetTable.insertAt es (t.put j).2 (h,.ref a)) (tbP b (t.put j).1)) }):wpAny (model prog w) A (setAddHashedIn S (.ref a) h (F + 1)) Q E s:=by
 rw [setAddHashedIn.eq_def]
 refine wpAny_bind (wpAny_setState_of ho hd hf ?_)
 show wpAny _ _ (setSearch S (.ref a) h true >>= _) _ _ _
 refine wpAny_bind (hs _ fun j hj=>?_)
 refine wpAny_bind (wpAny_setState_of ho hd hf ?_)
 have jp:∀ b,wpAny (model prog w) A (storeSet S (SetTable.insertAt es (t.put j).2 (h,.ref a)) (tbP b (t.put j).1) >>= fun _=>if (!false && (tbP b (t.put j).1).tooFull)=true then (do let r ← setRelay S (SetTable.grown (es.size + 1)); (fun _=>pure true) r) else pure true) Q E s:=fun b=>by
  refine wpAny_bind (wpAny_storeSet_of ho hd ?_ (hsz j hj))
  rw [full j b hj]
  exact wpAny_pure (q j b hj)
 show wpAny _ _ (if (t.put j).1.plain=true then _ else _) _ _ _
 cases (t.put j).1.plain with
 | true=>
   show wpAny _ _ (hashByValue 8 (.ref a) >>= _) _ _ _
   exact wpAny_bind (hbv ha fun b=>jp b)
 | false=>exact jp true
def St0 (h:Heap) (S:Addr):Prop:=∃ o ep t,h.get? S=some o/\o.ExactSet/\o.data=.set #[] ep t/\t.mask=7/\t.place=#[]/\t.dummies=#[]
def St1 (h:Heap) (S a:Addr):Prop:=∃ o ep t h1 j1,h.get? S=some o/\o.ExactSet/\o.data=.set #[(h1,.ref a)] ep t/\Tb1 t j1
def StN (h:Heap) (S:Addr) (n:Nat):Prop:=∃ o es ep t,h.get? S=some o/\o.ExactSet/\o.data=.set es ep t/\t.fits es.size=true/\es.size=n
theorem St0.n {h:Heap} {S:Addr} (x:St0 h S):StN h S 0:=by
 obtain ⟨o,ep,t,h1,h2,h3,h4,h5,h6⟩:=x
 refine ⟨o,#[],ep,t,h1,h2,h3,?_,rfl⟩
 unfold SetTable.fits SetTable.fill
 rw [h4,h5,h6]
 rfl
theorem St1.n {h:Heap} {S a:Addr} (x:St1 h S a):StN h S 1:=by
 obtain ⟨o,ep,t,h1,j1,h2,h3,h4,h5⟩:=x
 exact ⟨o,_,ep,t,h2,h3,h4,fits1 h5,rfl⟩
theorem put_same {h:Heap} {S:Addr} (es:Array (Int × Value)) (t:SetTable):Heap.SameBut S h (h.update S (Obj.putSet es t)):=⟨Heap.size_update _ _ _,fun b hb=>Heap.get?_update_other _ _ (Ne.symm hb)⟩
theorem put_get {h:Heap} {S:Addr} {o:Obj} {es0 es:Array (Int × Value)} {ep:Nat} {t0 t:SetTable} (ho:h.get? S=some o) (hx:o.ExactSet) (hd:o.data=.set es0 ep t0) :
 ∃ o',(h.update S (Obj.putSet es t)).get? S=some o'/\o'.ExactSet/\o'.data=.set es (ep + 1) t:=by
 obtain ⟨c,d,dt,sl⟩:=o
 obtain ⟨rfl,rfl,rfl⟩:=hx
 cases hd
 exact ⟨_,Heap.get?_update_self (Obj.putSet es t) ho rfl,⟨rfl,rfl,rfl⟩,rfl⟩
theorem add0 {S a:Addr} {ks:List Key} {h:Int} {F:Nat} {Q:Bool->Shared->Prop} (hS:St0 s.heap S) (ha:IsTupleKey (Ax prog w) s.heap ks a)
 (q:∀ h',Heap.SameBut S s.heap h'->St1 h' S a->Q true { s with heap:=h' }):wpAny (model prog w) A (setAddHashedIn S (.ref a) h (F + 1)) Q E s:=by
 obtain ⟨o,ep,t,ho,hx,hd,hm,hp,hdu⟩:=hS
 have put:∀ j,t.put j=({ t with place:=#[j] },0):=fun j=>by
  unfold SetTable.put
  rw [hp,hdu,below0,has0]
  show (_,_)=_
  rw [if_neg (by decide)]
  have:SetTable.insertAt (#[]:Array Nat) 0 j=#[j]:=by simp [SetTable.insertAt]
  rw [this]
 refine addH ho hd ?_ ha (fun _=>True) ?_ ?_ ?_ ?_
 ·unfold SetTable.fits SetTable.fill
  rw [hm,hp,hdu]
  rfl
 ·intro Q' q'
  rw [setSearch.eq_def,setSearchFrom.eq_def]
  refine wpAny_bind (wpAny_setState_of ho hd ?_ ?_)
  ·unfold SetTable.fits SetTable.fill
   rw [hm,hp,hdu]
   rfl
  have hg:t.gaveWay=false:=by unfold SetTable.gaveWay; rw [hm]; rfl
  show wpAny _ _ (if t.gaveWay=true then _ else _) _ _ _
  rw [hg]
  show wpAny _ _ (match SetTable.probe t _ h (t.probeStart h) with | some met=>_ | _=>_) _ _ _
  have pr:∀ f,SetTable.probe t f h (t.probeStart h)=some (.empty (t.probeStart h).j none):=fun f=>by
   have hF:10 * SetTable.turns t.mask=219 + 1:=by rw [hm]; rfl
   rw [SetTable.probe.eq_def,hF,SetTable.probe.go.eq_def]
   simp only [slot0 hp hdu]
   rfl
  rw [pr]
  exact wpAny_pure (q' _ trivial)
 ·intro j b _
  rw [put]
  unfold SetTable.tooFull SetTable.fill tbP
  cases b <;> simp [hm,hdu]
 ·intro j _
  rw [put]
  simp [SetTable.insertAt,sizeLine_eq]
 ·intro j b _
  rw [put]
  refine q _ (put_same _ _) ?_
  obtain ⟨o',g1,g2,g3⟩:=put_get (es:=SetTable.insertAt #[] 0 (h,.ref a)) (t:=tbP b { t with place:=#[j] }) ho hx hd
  have e1:SetTable.insertAt (#[]:Array (Int × Value)) 0 (h,Value.ref a)=#[(h,.ref a)]:=by simp [SetTable.insertAt]
  rw [e1] at g1 g3
  show St1 (s.heap.update S (Obj.putSet (SetTable.insertAt #[] 0 (h,Value.ref a)) (tbP b { t with place:=#[j] }))) S a
  rw [e1]
  refine ⟨o',ep + 1,tbP b { t with place:=#[j] },h,j,g1,g2,g3,?_⟩
  unfold tbP
  cases b
  ·exact ⟨hm,rfl,hdu⟩
  ·exact ⟨hm,rfl,hdu⟩
theorem add1 {S a b:Addr} {ka kb:List Key} {h:Int} {F:Nat} {Q:Bool->Shared->Prop} (hS:St1 s.heap S a) (ha:IsTupleKey (Ax prog w) s.heap ka a) (hb:IsTupleKey (Ax prog w) s.heap kb b) (ne:ka≠kb) (hu:A.units < cLine)
 (q:∀ h',Heap.SameBut S s.heap h'->StN h' S 2->Q true { s with heap:=h' }):wpAny (model prog w) A (setAddHashedIn S (.ref b) h (F + 1)) Q E s:=by
 obtain ⟨o,ep,t,h1,j1,ho,hx,hd,T⟩:=hS
 have put:∀ j,∃ pl,pl.size=2/\t.put j=({ t with place:=pl },if j1 < j then 1 else 0):=fun j=>by
  refine ⟨SetTable.insertAt #[j1] (if j1 < j then 1 else 0) j,?_,?_⟩
  ·by_cases e:j1 < j
   ·rw [if_pos e]; simp [SetTable.insertAt]
   ·rw [if_neg e]; simp [SetTable.insertAt]
  ·unfold SetTable.put
   rw [T.place,T.dum,below1,has0]
   show (_,_)=_
   simp only [Bool.false_eq_true,if_false]
 have es2:∀ j,(SetTable.insertAt #[(h1,Value.ref a)] (if j1 < j then 1 else 0) (h,Value.ref b)).size=2:=fun j=>by
  by_cases e:j1 < j
  ·rw [if_pos e]; simp [SetTable.insertAt]
  ·rw [if_neg e]; simp [SetTable.insertAt]
 refine addH ho hd (fits1 T) hb (fun _=>True) ?_ ?_ ?_ ?_
 ·intro Q' q'
  rw [setSearch.eq_def]
  obtain ⟨R,hp⟩:=start1 T h
  exact srch ho hd T ha hb ne hu (fun j _ _=>q' j trivial) 100000 13 none _ rfl R hp (Nat.le_refl _) (.inl (by decide))
 ·intro j c _
  obtain ⟨pl,h2,e⟩:=put j
  rw [e]
  unfold SetTable.tooFull SetTable.fill tbP
  cases c <;> simp [T.mask,T.dum,h2]
 ·intro j _
  obtain ⟨pl,h2,e⟩:=put j
  rw [e,es2,sizeLine_eq]
  decide
 ·intro j c _
  obtain ⟨pl,h2,e⟩:=put j
  rw [e]
  refine q _ (put_same _ _) ?_
  obtain ⟨o',g1,g2,g3⟩:=put_get (es:=SetTable.insertAt #[(h1,Value.ref a)] (if j1 < j then 1 else 0) (h,.ref b)) (t:=tbP c { t with place:=pl }) ho hx hd
  refine ⟨o',_,_,_,g1,g2,g3,?_,es2 j⟩
  rw [es2]
  unfold SetTable.fits SetTable.fill tbP
  cases c <;> simp [T.mask,T.dum,h2]
end
section
variable {prog:Program} {w:World} {A:Around} {R:Result->Shared->Prop} {I:Addr} {fp wr:List Addr} {G:Array GenState->Array GenState->Prop} {n:Nat} {P:Nat->Value->Prop} {St:Nat->Shared->Prop}
theorem set_fillG (W:WalksS prog w A.in1 I fp wr G n P St) (S:Addr) (hS:S ∉ fp) (SP:Nat->Heap->Prop) (stay:∀ i h h',SP i h->(∀ b o,b ∉ wr->h.get? b=some o->h'.get? b=some o)->SP i h')
 (add:∀ i v (s:Shared) (Q:Bool->Shared->Prop) (E:Value->Shared->Prop),i < n->P i v->SP i s.heap->(∀ h' tk b,s.toks<=tk->Heap.SameBut S s.heap h'->SP (i + 1) h'->Q b { s with heap:=h',toks:=tk })->wpAny (model prog w) A.in1 (setAdd S v) Q E s) :
 ∀ (k i:Nat) (s:Shared),n - i=k->i<=n->St i s->SP i s.heap->(∀ s',Moved (S :: wr) G s s'->SP n s'.heap->R (.ok (.ret .none)) s')->
  codeAny (model prog w) A (.builtin "set.update.loop" ⟨[.ref S,.ref I],[]⟩) R s:=by
 have up:∀ b ∈ wr,b ∈ S :: wr:=fun b hb=>List.mem_cons_of_mem _ hb
 intro k
 induction k with
 | zero=>
   intro i s hk hi hst hs hR
   have:i=n:=by omega
   subst this
   refine codeAny_builtin PyProof.Rows.F.entry_set_update_loop ?_
   rw [Around.under_plainId PyProof.Rows.F.plain_set_update_loop _]
   show wpAny _ A.in1 (pyNext (.ref I) >>= _) _ _ s
   refine wpAny_bind (W.done s _ _ hst fun s' hm=>?_)
   show wpAny _ A.in1 (ret Value.none) _ _ s'
   exact wpAny_pure (hR s' (hm.mono up) (stay _ _ _ hs hm.heap))
 | succ k ih=>
   intro i s hk hi hst hs hR
   have hlt:i < n:=by omega
   refine codeAny_builtin PyProof.Rows.F.entry_set_update_loop ?_
   rw [Around.under_plainId PyProof.Rows.F.plain_set_update_loop _]
   show wpAny _ A.in1 (pyNext (.ref I) >>= _) _ _ s
   refine wpAny_bind (W.item i s _ _ hlt hst fun v s' hP hst' hm=>?_)
   have hs':=stay _ _ _ hs hm.heap
   show wpAny _ A.in1 (holding [v] (setAdd S v) >>= _) _ _ s'
   refine wpAny_bind (wpAny_holding ?_)
   refine add i v s' _ _ hlt hP hs' fun h' tk b htk hsb hS2=>?_
   refine wpAny_pure ⟨plainId_quiet PyProof.Rows.F.plain_set_update_loop _,ih (i + 1) _ (by omega) hlt (W.frame _ s' _ _ hst' htk fun b hb o e=>?_) hS2 fun s'' hm'' hS''=>?_⟩
   ·rw [hsb.2 b (fun h:b=S=>hS (by rw [← h]; exact hb))]; exact e
   ·refine hR s'' (Moved.trans W.gtrans ((hm.mono up).then_heap htk fun b o hb e=>?_) hm'') hS''
    rw [hsb.2 b (fun h:b=S=>hb (by rw [h]; exact List.mem_cons_self))]; exact e
end
section
variable {prog:Program} {w:World} {A:Around} {E:Value->Shared->Prop} {s:Shared}
def SPt (prog:Program) (w:World) (S:Addr) (xs:List (Addr × List Key)) (i:Nat) (h:Heap):Prop:=(∀ x ∈ xs,IsTupleKey (Ax prog w) h x.2 x.1)/\(match i with | 0=>St0 h S | 1=>∃ x,xs[0]?=some x/\St1 h S x.1 | n=>StN h S n)
theorem Df {h h':Heap} {ks:List Key} {a:Addr} (hk:IsTupleKey (Ax prog w) h ks a) (e:∀ o,h.get? a=some o->h'.get? a=some o):IsTupleKey (Ax prog w) h' ks a:=by
 obtain ⟨o,it,n,ho,r⟩:=hk
 exact ⟨o,it,n,e o ho,r⟩
theorem SPt.stay {S:Addr} {xs:List (Addr × List Key)} {i:Nat} {h h':Heap} {wr:List Addr} (hS:S ∉ wr) (hx:∀ x ∈ xs,x.1 ∉ wr) (x:SPt prog w S xs i h) (e:∀ b o,b ∉ wr->h.get? b=some o->h'.get? b=some o):SPt prog w S xs i h':=by
 obtain ⟨h1,h2⟩:=x
 refine ⟨fun y hy=>Df (h1 y hy) fun o ho=>e _ _ (hx y hy) ho,?_⟩
 match i,h2 with
 | 0,⟨o,ep,t,ho,r⟩=>exact ⟨o,ep,t,e _ _ hS ho,r⟩
 | 1,⟨x,e0,o,ep,t,h1,j1,ho,r⟩=>exact ⟨x,e0,o,ep,t,h1,j1,e _ _ hS ho,r⟩
 | n + 2,⟨o,es,ep,t,ho,r⟩=>exact ⟨o,es,ep,t,e _ _ hS ho,r⟩
theorem SPt.add {S:Addr} {xs:List (Addr × List Key)} {i:Nat} {x:Addr × List Key} {Q:Bool->Shared->Prop} (hu:A.units < cLine) (h2:xs.length<=2) (nd:(xs.map (·.2)).Nodup) (hS:∀ x ∈ xs,x.1≠S) (hi:xs[i]?=some x) (sp:SPt prog w S xs i s.heap)
 (q:∀ h' tk b,s.toks<=tk->Heap.SameBut S s.heap h'->SPt prog w S xs (i + 1) h'->Q b { s with heap:=h',toks:=tk }):wpAny (model prog w) A (setAdd S (.ref x.1)) Q E s:=by
 obtain ⟨h1,hst⟩:=sp
 have hx:=h1 x (List.mem_of_getElem? hi)
 have kp:∀ {h':Heap},Heap.SameBut S s.heap h'->∀ x ∈ xs,IsTupleKey (Ax prog w) h' x.2 x.1:=fun {h'} hs y hy=>Df (h1 y hy) fun o ho=>by rw [hs.2 _ (hS y hy)]; exact ho
 unfold setAdd
 refine wpAny_holding (wpAny_bind ((tupleKind (Ax prog w)).pyHash hu hx ?_))
 unfold setAddHashed
 refine wpAny_holding ?_
 have hil:=(List.getElem?_eq_some_iff.mp hi).1
 match i,hi,hst with
 | 0,hi,hst=>
   exact add0 (F:=99999) (s:={ s with toks:=s.toks + _ }) hst hx fun h' hs st=>q h' _ true (Nat.le_add_right _ _) hs ⟨kp hs,x,hi,st⟩
 | 1,hi,⟨y,e0,st⟩=>
   have ne:y.2≠x.2:=fun e=>by
    obtain ⟨l0,g0⟩:=List.getElem?_eq_some_iff.mp e0
    obtain ⟨l1,g1⟩:=List.getElem?_eq_some_iff.mp hi
    have:=(List.pairwise_iff_getElem.mp nd) 0 1 (by rw [List.length_map]; exact l0) (by rw [List.length_map]; exact l1) (by decide)
    rw [List.getElem_map,List.getElem_map,g0,g1] at this
    exact this e
   exact add1 (F:=99999) (s:={ s with toks:=s.toks + _ }) st (h1 y (List.mem_of_getElem? e0)) hx ne hu fun h' hs st=>q h' _ true (Nat.le_add_right _ _) hs ⟨kp hs,st⟩
 | n + 2,hi,_=>omega
end
section
variable {prog:Program} {w:World} {A:Around} {E:Value->Shared->Prop} {s:Shared}
theorem call_set_keys {l:Addr} {items:Array Value} {xs:List (Addr × List Key)} {Q:Value->Shared->Prop} (hh:A.handled=none) (hu:A.units + 8 < cLine) (hl:s.heap.IsList l items) (hz:items.toList=xs.map fun x=>Value.ref x.1) (hx2:xs.length<=2) (nd:(xs.map (·.2)).Nodup) (hk:∀ x ∈ xs,IsTupleKey (Ax prog w) s.heap x.2 x.1)
 (h:∀ (h':Heap) (tk:Nat),StN h' s.heap.objs.size xs.length->(∀ b o,b < s.heap.objs.size->s.heap.get? b=some o->h'.get? b=some o)->Q (.ref s.heap.objs.size) { s with heap:=h',toks:=tk }) :
 wpAny (model prog w) A (call (.type "set") [.ref l]) Q E s:=by
 obtain ⟨c,tl,hmro⟩:=F.called_set.mro
 have hmade:=F.called_set.made
 have hsub:=F.called_set.sub
 refine wpAny_call (codeAny_of_tree ?_)
 show wpAny _ _ (callAny (.type "set") _) _ _ _
 refine wpAny_pure ⟨Code.quiet_builtin _ (by decide +kernel),codeAny_builtin F.entry_type_call ?_⟩
 rw [Around.under_plain (weight_type_call_type "set" [.ref l] []) rfl]
 have h1:=F.called_set.notType
 have h2:=F.called_set.canCreate
 have hct:=F.typeCall_set_1 (.ref l)
 repeat (any_goals (first | assumption | wp_step))
 refine codeAny_mono (code_set_new_1 (.ref l) (E:=E) (Q₁:=fun obj s₁=>∃ led:Bool,obj=.ref s.heap.objs.size/\s₁={ s with heap:=s.heap.push { cls:=.type "set",dict:=none,data:=.set #[] 0 (.fresh 0 0 led) } }) fun led=>⟨led,rfl,rfl⟩) fun r s₁ hr=>?_
 cases r with
 | error e=>exact hr
 | ok fl=>
   cases fl with
   | ret obj=>
     obtain ⟨led,rfl,rfl⟩:=hr
     have hS:(s.heap.push { cls:=.type "set",dict:=none,data:=.set #[] 0 (.fresh 0 0 led) }).get? s.heap.objs.size=some { cls:=.type "set",dict:=none,data:=.set #[] 0 (.fresh 0 0 led) }:=Heap.get?_push_size _ rfl
     have hT:Shared.TypeIs { s with heap:=s.heap.push { cls:=.type "set",dict:=none,data:=.set #[] 0 (.fresh 0 0 led) } } (.ref s.heap.objs.size) "set":=⟨_,hS,rfl⟩
     have hli:=F.called_set.init.lookup
     have hbi:=F.called_set.init.bind (.ref s.heap.objs.size)
     repeat (any_goals (first | assumption | wp_step))
     refine codeAny_mono (codeAny_call_builtin (R:=wants (fun r s₂=>r=.none/\∃ h' tk,s₂={ s with heap:=h',toks:=tk }/\StN h' s.heap.objs.size xs.length/\
      (∀ b o,b < s.heap.objs.size->s.heap.get? b=some o->h'.get? b=some o)) E) F.called_set.init.plain F.entry_set_init (check_set_init_1 hT ?_)) fun r₂ s₂ hr₂=>?_
     ·obtain ⟨⟨ocls,odict,odata,oslots⟩,hol,hcl,nl,hdl⟩:=id hl
      simp only at hcl hdl
      subst hcl hdl
      have hol':(s.heap.push { cls:=.type "set",dict:=none,data:=.set #[] 0 (.fresh 0 0 led) }).get? l=some { cls:=.type "list",dict:=odict,data:=.seq items nl,slots:=oslots }:=Heap.get?_push_of_some _ hol
      have hsls:=F.sub_list_set
      have hslf:=F.sub_list_frozenset
      have hne:(Value.type "list" == Value.type "dict")=false:=by decide
      have hl1:(s.heap.push { cls:=.type "set",dict:=none,data:=.set #[] 0 (.fresh 0 0 led) }).IsList l items:=⟨_,hol',rfl,nl,rfl⟩
      unfold Builtin.«set.__init__» noKeywords Builtin.Frozenset.updateFrom
      generalize hPI:pyIter=PI
      wp_walk
      subst hPI
      refine wpAny_pyIter_list hl1 ?_
      refine wpAny_bind (wpAny_runValue ?_)
      have hlS:l < s.heap.objs.size:=Heap.lt_size hol
      have hh3:A.in1.in1.in1.handled=none:=by simp [hh]
      have szp:(s.heap.push { cls:=.type "set",dict:=none,data:=.set #[] 0 (.fresh 0 0 led) }).objs.size=s.heap.objs.size + 1:=Heap.size_push _ _
      have hneI:l≠(s.heap.push { cls:=.type "set",dict:=none,data:=.set #[] 0 (.fresh 0 0 led) }).objs.size:=by rw [szp]; exact Nat.ne_of_lt (Nat.lt_succ_of_lt hlS)
      have hSf:s.heap.objs.size ∉ [(s.heap.push { cls:=.type "set",dict:=none,data:=.set #[] 0 (.fresh 0 0 led) }).objs.size,l]:=by
       simp only [List.mem_cons,List.not_mem_nil,or_false,not_or]
       exact ⟨by rw [szp]; exact Nat.ne_of_lt (Nat.lt_succ_self _),Nat.ne_of_gt hlS⟩
      have hln:xs.length=items.size:=by
       have:=congrArg List.length hz
       simpa using this.symm
      have hval:∀ (i:Nat) (v:Value),items[i]?=some v->∃ x,xs[i]?=some x/\v=.ref x.1:=fun i v hv=>by
       have hv:items.toList[i]?=some v:=by rw [Array.getElem?_toList]; exact hv
       rw [hz,List.getElem?_map] at hv
       obtain ⟨x,h1,h2⟩:=Option.map_eq_some_iff.mp hv
       exact ⟨x,h1,h2.symm⟩
      have xlt:∀ x ∈ xs,x.1 < s.heap.objs.size:=fun x hx=>by
       obtain ⟨o,_,_,ho,_⟩:=hk x hx
       exact Heap.lt_size ho
      refine set_fillG ((Walks.list hh3 _ l hneI items).toS) s.heap.objs.size hSf (SPt prog w s.heap.objs.size xs) (fun i h h'=>SPt.stay ?a1 ?a2) (fun i v s1 Q1 E1 hi hP sp q1=>?a3) (items.size - 0) 0 _ (by omega) (Nat.zero_le _) ⟨⟨_,Heap.get?_push_size _ rfl,rfl,rfl⟩,(hl1.push _)⟩ ?hS0 ?hR
      case a1=>rw [szp]; simp
      case a2=>
       intro x hx
       rw [szp,List.mem_singleton]
       exact Nat.ne_of_lt (Nat.lt_succ_of_lt (xlt x hx))
      case a3=>
       obtain ⟨x,hx,rfl⟩:=hval i v hP
       exact SPt.add (by simp [Around.in1]; omega) hx2 nd (fun x hx=>Nat.ne_of_lt (xlt x hx)) hx sp q1
      case hS0=>
       refine ⟨fun x hx=>Df (hk x hx) fun o ho=>Heap.get?_push_of_some _ (Heap.get?_push_of_some _ ho),?_⟩
       exact ⟨_,0,_,Heap.get?_push_of_some _ hS,⟨rfl,rfl,rfl⟩,rfl,rfl,rfl,rfl⟩
      case hR=>
       intro s' hm hS'
       have hS':StN s'.heap s.heap.objs.size xs.length:=by
        have hS':=hS'.2
        rw [← hln] at hS'
        match hn:xs.length,hS',hx2 with
        | 0,hS',_=>exact hS'.n
        | 1,⟨_,_,hS'⟩,_=>exact hS'.n
        | n + 2,hS',_=>exact hS'
       obtain ⟨h',g',d',tk',os'⟩:=s'
       have eg:g'=s.gens:=hm.gens
       have ed:d'=s.drawn:=hm.drawn
       have eo:os'=s.os:=hm.os
       subst eg ed eo
       show wpAny _ _ _ _ _ _
       refine wpAny_pure ?_
       show wpAny _ _ (ret Value.none) _ _ _
       refine wpAny_pure ⟨rfl,h',tk',rfl,hS',fun b o hb e=>?_⟩
       refine hm.heap b o ?_ (Heap.get?_push_of_some _ (Heap.get?_push_of_some _ e))
       simp only [List.mem_cons,List.not_mem_nil,or_false,not_or]
       exact ⟨Nat.ne_of_lt hb,by rw [szp]; exact Nat.ne_of_lt (Nat.lt_succ_of_lt hb)⟩
     ·cases r₂ with
      | error e=>exact hr₂
      | ok fl₂=>
        cases fl₂ with
        | ret r=>
          obtain ⟨rfl,h',tk,rfl,hS',hk'⟩:=hr₂
          repeat (any_goals (first | assumption | wp_step))
          exact h _ _ hS' hk'
        | _=>exact hr₂.elim
   | _=>exact hr.elim
end
theorem vals_refsK:∀ {xs:List (Addr × List Key)} {us:List Value},Vals (xs.map fun x=>V.ref x.1) us->us=xs.map fun x=>Value.ref x.1
 | [],_,r=>by rw [List.map_nil] at r; cases r; rfl
 | x :: xs,_,r=>by
   rw [List.map_cons] at r
   cases r with
   | cons h t=>cases h; rw [vals_refsK t]; rfl
section
variable {X:Cx}
def tLenK (K:PySem.W.Frag) (te:TE):TE:=fun σ H Q=>te σ H fun x H1=>∃ (a:Addr) (xs:List (Addr × List Key)),x=.ref a/\SqL K H1 a (xs.map fun x=>V.ref x.1)/\xs.length<=2/\(xs.map (·.2)).Nodup/\(∀ x ∈ xs,H1 x.1=some (.tup (x.2.map kV)))/\Q (.int (xs.length:Nat)) H1
theorem pe_lenK {e:Expr} {te:TE} {p1 p2 p3 pos:Pos} (hh:X.A.handled=none) (hu:X.A.units + 64 < cLine) (g1:Gl X "len") (m1:X.mg "len"=none) (g2:Gl X "set") (m2:X.mg "set"=none) (he:PE X e te)
 (h1:starEach [.Call (.Name "set" p2) [e] [] p3] X.env=[(false,eval (.Call (.Name "set" p2) [e] [] p3) X.env)]:=by rfl) (h2:starEach [e] X.env=[(false,eval e X.env)]:=by rfl) :
 PE X (.Call (.Name "len" p1) [.Call (.Name "set" p2) [e] [] p3] [] pos) (tLenK X.K te):=by
 intro pins s σ H Q I h
 refine wpAny_Call_Name_kw (Ex I g1 m1 boot_len ?_ (by decide) (by decide))
 refine PyProof.Rows.callWith_builtin1 ?_ h1 rfl
 rw [h1]
 show wpAny _ _ (spliced ((false,eval (.Call (.Name "set" p2) [e] [] p3) X.env) :: backTo pos (starEach [] X.env))) _ _ s
 refine Calls.spliced_cons ?_
 refine wpAny_Call_Name_kw (Ex I g2 m2 boot_set ?_ (by decide) (by decide))
 refine PyProof.Rows.callWith_type1 ?_ h2 rfl
 rw [h2]
 show wpAny _ _ (spliced ((false,eval e X.env) :: backTo p3 (starEach [] X.env))) _ _ s
 refine Calls.spliced_cons (thn (he pins s σ H _ I h) fun u s1 ⟨x,H1,I1,r1,q1⟩=>?_)
 obtain ⟨a,xs,rfl,hq,h2',nd,hk,q⟩:=q1
 cases r1
 refine Calls.spliced_nil ?_
 obtain ⟨its,rv,pl,_⟩:=I1.list hq
 refine call_set_keys (xs:=xs) hh (by omega) pl.isList (by simpa using vals_refsK rv) h2' nd (fun x hx=>key_of I1.hok (hk x hx)) fun h' tk hS hk=>?_
 refine Calls.spliced_nil ?_
 obtain ⟨o,es,ep,t,ho,hex,hd,hf,hn⟩:=hS
 refine call_len_set (s:={ s1 with heap:=h',toks:=tk }) ho hex hd hf (by omega) ?_
 refine ⟨.int (xs.length:Nat),H1,(I1.kept (t':=tk + 1 + 1) fun b u e=>hk b u (Heap.lt_size e) e),⟨_,by rw [hn]⟩,q⟩
end
theorem kit_list_any {K:PySem.W.Frag}:PySem.W.kitAny K (.type "list") [.type "list",.type "tuple"]=some true:=by
 show (match PySem.W.kitOne K (.type "list") (.type "list") with | some true=>some true | some false=>PySem.W.kitAny K (.type "list") [.type "tuple"] | none=>none)=some true
 rw [kit_same]
theorem call_isLT {X:Cx}:CallR X (.builtin "isinstance") (fun xs H Q=>∃ (a:Addr) (ys:List V) (tp:Addr),xs=[.ref a,.ref tp]/\H a=some (.lst ys)/\SqT X.K H tp [.ty "list",.ty "tuple"]/\Q (.bl true) H):=by
 intro pins s σ H xs us Q I r h
 obtain ⟨a,ys,tp,rfl,ha,hq,q⟩:=h
 obtain ⟨u,w',rfl,rx,rc⟩:=vals2 r
 obtain rfl:u=Value.ref a:=rx
 obtain rfl:w'=Value.ref tp:=rc
 obtain ⟨_,_,n,_,h1⟩:=(show Cm X.prog X.w H s.heap a (.lst ys) from I.hok a _ ha)
 obtain ⟨its,rv,pl,_⟩:=I.tuple hq
 have ei:its=[.type "list",.type "tuple"]:=by
  cases rv with
  | cons r1 r2=>cases r2 with
    | cons r3 r4=>
      cases r4
      have r1:_=Value.type "list":=r1
      have r3:_=Value.type "tuple":=r3
      rw [r1,r3]
 obtain ⟨⟨oc,odd,odt,osl⟩,e1,hc,n1,dd⟩:=pl
 dsimp only at hc dd
 subst hc dd ei
 exact PySem.W.kia_tup PySem.W.kitx_list I.kIn ⟨_,h1,rfl⟩ e1 kit_list_any (fun z=>nomatch z) fun tk=>⟨.bl true,H,I.tok _,rfl,q⟩
theorem kit_tuple_list {K:PySem.W.Frag}:PySem.W.kitOne K (.type "tuple") (.type "list")=some false:=B7 (by decide +kernel) (by decide +kernel) (by decide +kernel)
theorem kit_tuple_any {K:PySem.W.Frag}:PySem.W.kitAny K (.type "tuple") [.type "list",.type "tuple"]=some true:=by
 show (match PySem.W.kitOne K (.type "tuple") (.type "list") with | some true=>some true | some false=>PySem.W.kitAny K (.type "tuple") [.type "tuple"] | none=>none)=some true
 rw [kit_tuple_list]
 show (match PySem.W.kitOne K (.type "tuple") (.type "tuple") with | some true=>some true | some false=>PySem.W.kitAny K (.type "tuple") [] | none=>none)=some true
 rw [kit_same]
theorem call_isTT {X:Cx}:CallR X (.builtin "isinstance") (fun xs H Q=>∃ (a:Addr) (ys:List V) (tp:Addr),xs=[.ref a,.ref tp]/\H a=some (.tup ys)/\SqT X.K H tp [.ty "list",.ty "tuple"]/\Q (.bl true) H):=by
 intro pins s σ H xs us Q I r h
 obtain ⟨a,ys,tp,rfl,ha,hq,q⟩:=h
 obtain ⟨u,w',rfl,rx,rc⟩:=vals2 r
 obtain rfl:u=Value.ref a:=rx
 obtain rfl:w'=Value.ref tp:=rc
 obtain ⟨_,_,_,ob,h1,hcl,_⟩:=(show Cm X.prog X.w H s.heap a (.tup ys) from I.hok a _ ha)
 obtain ⟨its,rv,pl,_⟩:=I.tuple hq
 have ei:its=[.type "list",.type "tuple"]:=by
  cases rv with
  | cons r1 r2=>cases r2 with
    | cons r3 r4=>
      cases r4
      have r1:_=Value.type "list":=r1
      have r3:_=Value.type "tuple":=r3
      rw [r1,r3]
 obtain ⟨⟨oc,odd,odt,osl⟩,e1,hc,n1,dd⟩:=pl
 dsimp only at hc dd
 subst hc dd ei
 exact PySem.W.kia_tup PySem.W.kitx_tuple I.kIn ⟨_,h1,hcl⟩ e1 kit_tuple_any (fun z=>nomatch z) fun tk=>⟨.bl true,H,I.tok _,rfl,q⟩
theorem pg_tupK {X:Cx} {pos:Pos} {es:List Expr} {k:Nat} {t:TGs} {n:Nat} (K:PySem.W.Frag) (hc:X.calm=true) (h:PGs X es t) (hK:X.K=K:=by rfl) (hn:(assignEach es X.env).length=n:=by rfl) (hst:(assignEach es X.env).findIdx? (·.1)=none:=by rfl):PG X (.Tuple es k pos) (gTup K n t):=by
 subst hK
 exact pg_tup hc h hn hst
open PySem PySem.Spec PyProof.Rows PySem.SeqAt
section
variable {X:Cx}
def rSameD (K:PySem.W.Frag) (b:Bool):R2:=fun x y H Q=>∃ d,RdD K H x d/\RdD K H y d/\shaped d=true/\Q (.bl b) H
theorem op_eqSD (hu:X.A.units + 64 < cLine):OpR X (compareOp .Eq) (rSameD X.K true):=by
 intro pins s σ H x y v u Q I rx ry ⟨d,hx,hy,sd,q⟩
 exact op_eqD hu pins s σ H x y v u Q I rx ry ⟨d,d,hx,hy,sd,sd,by rw [PySem.SeqAt.eqv_refl d (canLay_of_shaped sd)]; exact q⟩
theorem op_neSD (hu:X.A.units + 64 < cLine):OpR X (compareOp .NotEq) (rSameD X.K false):=by
 intro pins s σ H x y v u Q I rx ry ⟨d,hx,hy,sd,q⟩
 exact op_neD hu pins s σ H x y v u Q I rx ry ⟨d,d,hx,hy,sd,sd,by rw [PySem.SeqAt.eqv_refl d (canLay_of_shaped sd)]; exact q⟩
end
section
variable {X:Cx}
theorem call_maxL (hc:X.calm=true):CallR X (.builtin "max") (fun xs H Q=>∃ (p:Addr) (ns:List Int),xs=[.ref p]/\SqL X.K H p (ns.map V.int)/\0 < ns.length/\∀ m ∈ ns,(∀ a ∈ ns,a<=m)->Q (.int m) H):=by
 intro pins s σ H xs us Q I r h
 obtain ⟨p,ns,rfl,hq,hn,q⟩:=h
 obtain ⟨u,rfl,ru⟩:=vals1 r
 cases ru
 obtain ⟨its,rv,pl,hz⟩:=I.list hq
 have hi:=intsAre_of rv
 obtain ⟨xs,ex⟩:=hi.allInts.items
 have el:numsOf its=ns:=hi.numsOf
 have hl:=pl.isList
 rw [ex] at hl
 have nx:numsOf (intItems xs).toList=xs.toList.map (·.1):=nums_intItems xs
 have en:xs.toList.map (·.1)=ns:=by rw [← nx,← ex]; exact el
 have hsz:0 < xs.size:=by
  have:(xs.toList.map (·.1)).length=ns.length:=by rw [en]
  rw [List.length_map,Array.length_toList] at this
  omega
 refine max_intList (I.ok.hd hc) hl hsz fun v h' tk hv hk=>?_
 obtain ⟨t,rfl⟩:=intItems_at hv
 have fe:(fun i j=>decide (numAt xs i > numAt xs j))=fun i j=>decide ((fun k=>- numAt xs k) i < (fun k=>- numAt xs k) j):=by
  funext i j
  rw [decide_eq_decide]
  dsimp only
  omega
 obtain ⟨h1,h2⟩:=argBest_lt (fun k=>- numAt xs k) (xs.size - 1)
 rw [← fe] at h1 h2
 refine ⟨.int _,H,I.kept (t':=tk) hk,⟨t,rfl⟩,q _ ?_ fun a ha=>?_⟩
 ·rw [← en,numAt_eq]; exact getD_mem (by rw [List.length_map,Array.length_toList]; omega)
 ·rw [← en] at ha
  obtain ⟨j,hj,rfl⟩:=mem_getD ha
  rw [List.length_map,Array.length_toList] at hj
  rw [← numAt_eq]
  have:=h2 j (by omega)
  omega
def repZ (n:Nat) (z:Str):Str:=⟨((List.replicate n z.cps.toList).flatten).toArray⟩
theorem foldl_repZ:∀ (n:Nat) (a acc:Array Nat),List.foldl (fun x1 x2=>x1 ++ x2) acc (List.replicate n a)=acc ++ ((List.replicate n a.toList).flatten).toArray
 | 0,a,acc=>by simp
 | n + 1,a,acc=>by
   rw [List.replicate_succ,List.foldl_cons,foldl_repZ n,List.replicate_succ,List.flatten_cons]
   apply Array.ext'
   simp
theorem rep_len (n:Nat) (z:Str):(repZ n z).length=n * z.length:=by
 show ((List.replicate n z.cps.toList).flatten).toArray.size=_
 rw [List.size_toArray]
 simp [Str.length]
theorem op_mulS:OpR X (binaryOp .Mult) (fun x y H Q=>∃ z n,x=.str z/\y=.int n/\0<=n/\n<=100/\z.length<=100/\Q (.str (repZ n.toNat z)) H):=by
 intro pins s σ H x y v u Q I rx ry h
 obtain ⟨z,n,rfl,rfl,h0,h1,hz,q⟩:=h
 obtain ⟨t,rfl⟩:=rx
 obtain ⟨t',rfl⟩:=ry
 have hs:sizeLine=16777216:=sizeLine_eq
 have hm:z.length * n.toNat<=100 * 100:=Nat.mul_le_mul hz (by omega)
 refine P.mul_str ?_ ?_ ?_ ?_
 ·rw [Bool.or_eq_false_iff]
  exact ⟨decide_eq_false (by omega),decide_eq_false (by omega)⟩
 ·intro g1 _ g3
  have e:((z.length * n.toNat:Nat):Int)=(z.length:Int) * n:=by rw [Int.natCast_mul,Int.toNat_of_nonneg h0]
  have:(z.length:Int)<=(2 ^ 63 - 1) / n:=Int.le_ediv_of_mul_le (by omega) (by rw [← e]; omega)
  omega
 ·intro _ _
  exact decide_eq_false (by omega)
 ·have fin:∀ (y:Str) (tk:Nat),y=repZ n.toNat z->∃ v H',Inv X pins σ H' { s with toks:=tk }/\RelV v (Value.str y s.toks)/\Q v H':=fun y tk e=>⟨.str y,H,I.tok _,⟨_,rfl⟩,by rw [e]; exact q⟩
  by_cases g:n < 1
  ·rw [if_pos g]
   have:n=0:=by omega
   subst this
   exact ⟨by show 0<=sizeLine; omega,fin _ _ rfl⟩
  ·rw [if_neg g]
   by_cases g2:(n == 1 || z.length == 0)=true
   ·rw [if_pos g2]
    have e:z=repZ n.toNat z:=by
       rw [Bool.or_eq_true,beq_iff_eq,beq_iff_eq] at g2
       rcases g2 with rfl | g2
       ·show z=⟨((List.replicate 1 z.cps.toList).flatten).toArray⟩
        simp
       ·have:z.cps=#[]:=Array.eq_empty_of_size_eq_zero g2
        obtain ⟨c⟩:=z
        dsimp only at this
        subst this
        unfold repZ
        simp
    exact ⟨.str z,H,I,⟨_,rfl⟩,by rw [← e] at q; exact q⟩
   ·rw [if_neg g2]
    have e:(⟨List.foldl (fun x1 x2=>x1 ++ x2) #[] (List.replicate n.toNat z.cps)⟩:Str)=repZ n.toNat z:=by rw [foldl_repZ]; unfold repZ; simp
    refine ⟨?_,fin _ _ e⟩
    rw [e,rep_len,Nat.mul_comm]
    omega
end
open PySem PyProof.Rows
structure MTop (K:PySem.W.Frag) (C:Addr) (m qual:Str) (st:Stmt) (ps:List Str):Prop where
 ex:∃ (f:Addr) (fd:FuncData),Fun K m qual st f fd/\Meth K C m f/\Binds K fd ps []
theorem mtop_of {K:PySem.W.Frag} {h:Heap} {C f:Addr} {m qual:Str} {st:Stmt} {ps:List Str} {oc:Value} {od an:Option Addr} {osl:Array (Option Value)} {kV doc pm cdv ct:Value} (X:K.In h)
 (hb:∀ (kV doc pm:Value) (an:Option Addr) (cdv ct:Value) (us:List Value),us.length=ps.length->bindArgs (PySem.W.fnOf m qual (Db st) (B1 st) (Af st) .none kV doc pm an cdv ct) ⟨us,[]⟩=pure (ps.zip us))
 (a:PySem.W.findIn K (.ref C) m=some (some (.ref f))) (i:PySem.W.isFn K (.ref f)=true) (l:K.lookup f=some ⟨oc,od,.func (PySem.W.fnOf m qual (Db st) (B1 st) (Af st) .none kV doc pm an cdv ct),osl⟩)
 (c:PySem.W.codeIn K cdv qual=true) (k:PySem.W.keepIn K (.ref f)=true):MTop (KOf X) C m qual st ps:=
 ⟨f,_,fun_mk l c k,⟨a,i,k⟩,.all fun us=>hb kV doc pm an cdv ct us⟩
theorem methD_of {P:Program} {w:World} {K:PySem.W.Frag} {mg:Str->Option Value} {base:Heap} {C:Addr} {m qual:Str} {st:Stmt} {ps:List Str} {k:Nat} {sp:Sp} {CX:CXT} (c:Cls K C) (h:MTop K C m qual st ps) (ok:∀ f fd,Fun K m qual st f fd->FnOk P w K mg base CX k f fd ps sp):MethD P w K mg base CX k C m ps sp:=by
 obtain ⟨f,fd,F,hm,hb⟩:=h.ex
 exact ⟨f,fd,c,hm,ok f fd F,hb⟩
end L2
namespace L2
open PySem PySem.Spec PyProof.Rows
section
variable {X:Cx}
end
section
variable {prog:Program} {w:World} {A:Around} {E:Value->Shared->Prop} {s:Shared}
theorem call_set_keysT {l:Addr} {items:Array Value} {xs:List (Addr × List Key)} {Q:Value->Shared->Prop} (hh:A.handled=none) (hu:A.units + 8 < cLine) (hl:s.heap.IsTuple l items) (hz:items.toList=xs.map fun x=>Value.ref x.1) (hx2:xs.length<=2) (nd:(xs.map (·.2)).Nodup) (hk:∀ x ∈ xs,IsTupleKey (Ax prog w) s.heap x.2 x.1)
 (h:∀ (h':Heap) (tk:Nat),StN h' s.heap.objs.size xs.length->(∀ b o,b < s.heap.objs.size->s.heap.get? b=some o->h'.get? b=some o)->Q (.ref s.heap.objs.size) { s with heap:=h',toks:=tk }) :
 wpAny (model prog w) A (call (.type "set") [.ref l]) Q E s:=by
 obtain ⟨c,tl,hmro⟩:=F.called_set.mro
 have hmade:=F.called_set.made
 have hsub:=F.called_set.sub
 refine wpAny_call (codeAny_of_tree ?_)
 show wpAny _ _ (callAny (.type "set") _) _ _ _
 refine wpAny_pure ⟨Code.quiet_builtin _ (by decide +kernel),codeAny_builtin F.entry_type_call ?_⟩
 rw [Around.under_plain (weight_type_call_type "set" [.ref l] []) rfl]
 have h1:=F.called_set.notType
 have h2:=F.called_set.canCreate
 have hct:=F.typeCall_set_1 (.ref l)
 repeat (any_goals (first | assumption | wp_step))
 refine codeAny_mono (code_set_new_1 (.ref l) (E:=E) (Q₁:=fun obj s₁=>∃ led:Bool,obj=.ref s.heap.objs.size/\s₁={ s with heap:=s.heap.push { cls:=.type "set",dict:=none,data:=.set #[] 0 (.fresh 0 0 led) } }) fun led=>⟨led,rfl,rfl⟩) fun r s₁ hr=>?_
 cases r with
 | error e=>exact hr
 | ok fl=>
   cases fl with
   | ret obj=>
     obtain ⟨led,rfl,rfl⟩:=hr
     have hS:(s.heap.push { cls:=.type "set",dict:=none,data:=.set #[] 0 (.fresh 0 0 led) }).get? s.heap.objs.size=some { cls:=.type "set",dict:=none,data:=.set #[] 0 (.fresh 0 0 led) }:=Heap.get?_push_size _ rfl
     have hT:Shared.TypeIs { s with heap:=s.heap.push { cls:=.type "set",dict:=none,data:=.set #[] 0 (.fresh 0 0 led) } } (.ref s.heap.objs.size) "set":=⟨_,hS,rfl⟩
     have hli:=F.called_set.init.lookup
     have hbi:=F.called_set.init.bind (.ref s.heap.objs.size)
     repeat (any_goals (first | assumption | wp_step))
     refine codeAny_mono (codeAny_call_builtin (R:=wants (fun r s₂=>r=.none/\∃ h' tk,s₂={ s with heap:=h',toks:=tk }/\StN h' s.heap.objs.size xs.length/\
      (∀ b o,b < s.heap.objs.size->s.heap.get? b=some o->h'.get? b=some o)) E) F.called_set.init.plain F.entry_set_init (check_set_init_1 hT ?_)) fun r₂ s₂ hr₂=>?_
     ·obtain ⟨⟨ocls,odict,odata,oslots⟩,hol,hcl,nl,hdl⟩:=id hl
      simp only at hcl hdl
      subst hcl hdl
      have hol':(s.heap.push { cls:=.type "set",dict:=none,data:=.set #[] 0 (.fresh 0 0 led) }).get? l=some { cls:=.type "tuple",dict:=odict,data:=.seq items nl,slots:=oslots }:=Heap.get?_push_of_some _ hol
      have hsls:=F.sub_tuple_set
      have hslf:=F.sub_tuple_frozenset
      have hne:(Value.type "tuple" == Value.type "dict")=false:=by decide
      have hl1:(s.heap.push { cls:=.type "set",dict:=none,data:=.set #[] 0 (.fresh 0 0 led) }).IsTuple l items:=⟨_,hol',rfl,nl,rfl⟩
      unfold Builtin.«set.__init__» noKeywords Builtin.Frozenset.updateFrom
      generalize hPI:pyIter=PI
      wp_walk
      subst hPI
      refine wpAny_pyIter_tuple hl1 ?_
      refine wpAny_bind (wpAny_runValue ?_)
      have hlS:l < s.heap.objs.size:=Heap.lt_size hol
      have hh3:A.in1.in1.in1.handled=none:=by simp [hh]
      have szp:(s.heap.push { cls:=.type "set",dict:=none,data:=.set #[] 0 (.fresh 0 0 led) }).objs.size=s.heap.objs.size + 1:=Heap.size_push _ _
      have hneI:l≠(s.heap.push { cls:=.type "set",dict:=none,data:=.set #[] 0 (.fresh 0 0 led) }).objs.size:=by rw [szp]; exact Nat.ne_of_lt (Nat.lt_succ_of_lt hlS)
      have hSf:s.heap.objs.size ∉ [(s.heap.push { cls:=.type "set",dict:=none,data:=.set #[] 0 (.fresh 0 0 led) }).objs.size,l]:=by
       simp only [List.mem_cons,List.not_mem_nil,or_false,not_or]
       exact ⟨by rw [szp]; exact Nat.ne_of_lt (Nat.lt_succ_self _),Nat.ne_of_gt hlS⟩
      have hln:xs.length=items.size:=by
       have:=congrArg List.length hz
       simpa using this.symm
      have hval:∀ (i:Nat) (v:Value),items[i]?=some v->∃ x,xs[i]?=some x/\v=.ref x.1:=fun i v hv=>by
       have hv:items.toList[i]?=some v:=by rw [Array.getElem?_toList]; exact hv
       rw [hz,List.getElem?_map] at hv
       obtain ⟨x,h1,h2⟩:=Option.map_eq_some_iff.mp hv
       exact ⟨x,h1,h2.symm⟩
      have xlt:∀ x ∈ xs,x.1 < s.heap.objs.size:=fun x hx=>by
       obtain ⟨o,_,_,ho,_⟩:=hk x hx
       exact Heap.lt_size ho
      refine set_fillG ((Walks.tuple hh3 _ l hneI items).toS) s.heap.objs.size hSf (SPt prog w s.heap.objs.size xs) (fun i h h'=>SPt.stay ?a1 ?a2) (fun i v s1 Q1 E1 hi hP sp q1=>?a3) (items.size - 0) 0 _ (by omega) (Nat.zero_le _) ⟨⟨_,Heap.get?_push_size _ rfl,rfl,rfl⟩,(hl1.push _)⟩ ?hS0 ?hR
      case a1=>rw [szp]; simp
      case a2=>
       intro x hx
       rw [szp,List.mem_singleton]
       exact Nat.ne_of_lt (Nat.lt_succ_of_lt (xlt x hx))
      case a3=>
       obtain ⟨x,hx,rfl⟩:=hval i v hP
       exact SPt.add (by simp [Around.in1]; omega) hx2 nd (fun x hx=>Nat.ne_of_lt (xlt x hx)) hx sp q1
      case hS0=>
       refine ⟨fun x hx=>Df (hk x hx) fun o ho=>Heap.get?_push_of_some _ (Heap.get?_push_of_some _ ho),?_⟩
       exact ⟨_,0,_,Heap.get?_push_of_some _ hS,⟨rfl,rfl,rfl⟩,rfl,rfl,rfl,rfl⟩
      case hR=>
       intro s' hm hS'
       have hS':StN s'.heap s.heap.objs.size xs.length:=by
        have hS':=hS'.2
        rw [← hln] at hS'
        match hn:xs.length,hS',hx2 with
        | 0,hS',_=>exact hS'.n
        | 1,⟨_,_,hS'⟩,_=>exact hS'.n
        | n + 2,hS',_=>exact hS'
       obtain ⟨h',g',d',tk',os'⟩:=s'
       have eg:g'=s.gens:=hm.gens
       have ed:d'=s.drawn:=hm.drawn
       have eo:os'=s.os:=hm.os
       subst eg ed eo
       show wpAny _ _ _ _ _ _
       refine wpAny_pure ?_
       show wpAny _ _ (ret Value.none) _ _ _
       refine wpAny_pure ⟨rfl,h',tk',rfl,hS',fun b o hb e=>?_⟩
       refine hm.heap b o ?_ (Heap.get?_push_of_some _ (Heap.get?_push_of_some _ e))
       simp only [List.mem_cons,List.not_mem_nil,or_false,not_or]
       exact ⟨Nat.ne_of_lt hb,by rw [szp]; exact Nat.ne_of_lt (Nat.lt_succ_of_lt hb)⟩
     ·cases r₂ with
      | error e=>exact hr₂
      | ok fl₂=>
        cases fl₂ with
        | ret r=>
          obtain ⟨rfl,h',tk,rfl,hS',hk'⟩:=hr₂
          repeat (any_goals (first | assumption | wp_step))
          exact h _ _ hS' hk'
        | _=>exact hr₂.elim
   | _=>exact hr.elim
end
section
variable {X:Cx}
def tLenKT (K:PySem.W.Frag) (te:TE):TE:=fun σ H Q=>te σ H fun x H1=>∃ (a:Addr) (xs:List (Addr × List Key)),x=.ref a/\SqT K H1 a (xs.map fun x=>V.ref x.1)/\xs.length<=2/\(xs.map (·.2)).Nodup/\(∀ x ∈ xs,H1 x.1=some (.tup (x.2.map kV)))/\Q (.int (xs.length:Nat)) H1
theorem pe_lenKT {e:Expr} {te:TE} {p1 p2 p3 pos:Pos} (hh:X.A.handled=none) (hu:X.A.units + 64 < cLine) (g1:Gl X "len") (m1:X.mg "len"=none) (g2:Gl X "set") (m2:X.mg "set"=none) (he:PE X e te)
 (h1:starEach [.Call (.Name "set" p2) [e] [] p3] X.env=[(false,eval (.Call (.Name "set" p2) [e] [] p3) X.env)]:=by rfl) (h2:starEach [e] X.env=[(false,eval e X.env)]:=by rfl) :
 PE X (.Call (.Name "len" p1) [.Call (.Name "set" p2) [e] [] p3] [] pos) (tLenKT X.K te):=by
 intro pins s σ H Q I h
 refine wpAny_Call_Name_kw (Ex I g1 m1 boot_len ?_ (by decide) (by decide))
 refine PyProof.Rows.callWith_builtin1 ?_ h1 rfl
 rw [h1]
 show wpAny _ _ (spliced ((false,eval (.Call (.Name "set" p2) [e] [] p3) X.env) :: backTo pos (starEach [] X.env))) _ _ s
 refine Calls.spliced_cons ?_
 refine wpAny_Call_Name_kw (Ex I g2 m2 boot_set ?_ (by decide) (by decide))
 refine PyProof.Rows.callWith_type1 ?_ h2 rfl
 rw [h2]
 show wpAny _ _ (spliced ((false,eval e X.env) :: backTo p3 (starEach [] X.env))) _ _ s
 refine Calls.spliced_cons (thn (he pins s σ H _ I h) fun u s1 ⟨x,H1,I1,r1,q1⟩=>?_)
 obtain ⟨a,xs,rfl,hq,h2',nd,hk,q⟩:=q1
 cases r1
 refine Calls.spliced_nil ?_
 obtain ⟨its,rv,pl,_⟩:=I1.tuple hq
 refine call_set_keysT (xs:=xs) hh (by omega) pl (by simpa using vals_refsK rv) h2' nd (fun x hx=>key_of I1.hok (hk x hx)) fun h' tk hS hk=>?_
 refine Calls.spliced_nil ?_
 obtain ⟨o,es,ep,t,ho,hex,hd,hf,hn⟩:=hS
 refine call_len_set (s:={ s1 with heap:=h',toks:=tk }) ho hex hd hf (by omega) ?_
 refine ⟨.int (xs.length:Nat),H1,(I1.kept (t':=tk + 1 + 1) fun b u e=>hk b u (Heap.lt_size e) e),⟨_,by rw [hn]⟩,q⟩
end
section
variable {P:Program} {w:World} {K:PySem.W.Frag} {s:Shared} {x C dx:Addr} {A:Around} {E:Value->Shared->Prop}
end
section
variable {X:Cx} {C:Addr}
end
section
variable {P:Program} {w:World} {A:Around} {E:Value->Shared->Prop} {s:Shared} {z TI TO i1 i2 i3 l1 l2 l3:Addr} {us vs ws:Array Value} {S1 S2 S3:Nat->Heap->Prop}
end
section
variable {X:Cx}
end
section
variable {X:Cx} {pins:List (Addr × Obj)} {σ:St} {H:Hp} {s2:Shared} {scope sc:Scope} {N0 ys:List Str} {x0:Str} {js:List Nat} {C D:Addr} {fp:List Addr} {h1:Heap} {tk:Nat}
end
section
variable {X:Cx} {scope sc:Scope} {N0 ys:List Str} {x0:Str} {js:List Nat} {elt tg iter:Expr} {ifs:List Expr} {pos:Pos} {wi:TI} {g:TG} {tc:TT} {te:TE}
end
def Itv (K:PySem.W.Frag) (a:Addr) (n:Nat):It:=
 ⟨fun i H=>∃ xs x,SqL K H a xs/\xs.length=n/\i < n/\xs[n - 1 - i]?=some x,fun i H x H'=>H'=H/\∀ xs,SqL K H a xs->xs[n - 1 - i]?=some x,fun i _=>i=n⟩
theorem turn_rev {P:Program} {w:World} {K:PySem.W.Frag} {tg:Expr} (a it:Addr) (n:Nat):Turn P w K tg (Itv K a n) [it] it (fun i h=>h.IsRevIter it a ((n:Int) - 1 - i)) where
 mem:=by simp
 obj:=fun i h st b hb=>by
  have e:b=it:=by simpa using hb
  subst e
  obtain ⟨o,e,c,d⟩:=st
  exact ⟨o,e,fun v z=>by rw [d] at z; cases z⟩
 keep:=fun i h h' st k=>st.at fun o e=>k it (by simp) o e
 item:=by
  intro X hP hw hK hc i pins s σ H E I hf st hg
  subst hP hw hK
  obtain ⟨xs,x,hq,hn,hi,hx⟩:=hg
  obtain ⟨its,rv,p,hz⟩:=I.list hq
  obtain ⟨u,hu,ru⟩:=rv.get hx
  obtain ⟨f0,f1,f2,f3,f4,f5⟩:=hf it (by simp)
  have e0:((n - 1 - i:Nat):Int)=(n:Int) - 1 - i:=by omega
  rw [← e0] at st
  refine wpAny_pyNext_rev_item st p.isList (x:=u) (by simpa using hu) fun h' st' sb=>?_
  have e1:((n - 1 - i:Nat):Int) - 1=(n:Int) - 1 - ((i + 1:Nat):Int):=by omega
  rw [e1] at st'
  have I1:Inv X pins σ H { s with heap:=h' }:=I.turned (t':=s.toks) (fun b o hb e=>(sb.2 b hb).trans e) f0 f1 f3 f4 f5
  obtain ⟨o,e,c,d⟩:=id st'
  exact ⟨u,rfl,go_of (s:={ s with heap:=h' }) e c d (by decide) ⟨x,H,I1,ru,⟨rfl,fun ys hy=>by rw [I.list_inj hy hq]; exact hx⟩,st',fun b hb=>(hf b hb).1⟩⟩
 done:=by
  intro X hP hw hK hc i pins s σ H E I hf st hg
  subst hP hw hK
  have hg:i=n:=hg
  subst hg
  obtain ⟨f0,f1,f2,f3,f4,f5⟩:=hf it (by simp)
  rw [show (i:Int) - 1 - i=-1 by omega] at st
  exact wpAny_pyNext_rev_end (I.ok.hd hc) st fun h' eb=>⟨rfl,I.turned (t':=s.toks) (fun b o hb e=>eb b o hb e) f0 f1 f3 f4 f5⟩
 self:=fun _ _ _ _ _ st h=>wpAny_pyIter_revIter st h
def iRev (K:PySem.W.Frag) (t:TA):TI:=fun σ H R=>t σ H fun vs H1=>∃ a xs,vs=[.ref a]/\SqL K H1 a xs/\R (Itv K a xs.length) H1
theorem bootRev:bootBuiltins "reversed"=some (.type "reversed"):=by decide +kernel
theorem pi_rev {X:Cx} {tg a:Expr} {ta:TA} {p pos:Pos} (hg:Gl X "reversed") (hm:X.mg "reversed"=none) (ha:PA X [a] ta) (hs:starEach [a] X.env=[(false,eval a X.env)]:=by rfl) (hs2:starEach [] X.env=[]:=by rfl) :
 PI X tg (.Call (.Name "reversed" p) [a] [] pos) (iRev X.K ta):=by
 intro pins s σ H R I h
 refine Call_ (Ex I hg hm bootRev (PyProof.Rows.callWith_type1 (thn (ha pos pins s σ H _ I h) fun us s1 ⟨vs,H1,I1,r1,q1⟩=>?_) (by rw [hs,hs2]) (by rw [hs2]; rfl)))
 obtain ⟨l,xs,e,hq,q⟩:=q1
 subst e
 obtain ⟨u,rfl,ru⟩:=vals1 r1
 obtain rfl:u=Value.ref l:=ru
 obtain ⟨its,rv,pl,_⟩:=I1.list hq
 have hl:=rv.length
 refine call_reversed_list pl.isList ?_
 have st:(s1.heap.push (revObj l ((its.toArray.size:Int) - 1))).IsRevIter s1.heap.objs.size l ((xs.length:Int) - 1 - (0:Nat)):=⟨_,Heap.get?_push_size _ rfl,rfl,by
  show Data.fields _=Data.fields _
  rw [List.size_toArray,← hl]
  simp⟩
 refine wpAny_pyIter_revIter (s:={ s1 with heap:=s1.heap.push (revObj l ((its.toArray.size:Int) - 1)) }) st ?_
 refine ⟨s1.heap.objs.size,[s1.heap.objs.size],_,_,H1,rfl,I1.kept (t':=s1.toks) fun b o e=>Heap.get?_push_of_some _ e,turn_rev l _ xs.length,st,fun b hb=>?_,q⟩
 have e:b=s1.heap.objs.size:=by simpa using hb
 subst e
 exact I1.fpOk (Nat.le_refl _) (I1.hok.fresh (Nat.le_refl _))
theorem for_rev {K:PySem.W.Frag} {a:Addr} {xs:List V} {g:TG} {tb:TS} {D:Ends} {σ:St} {H:Hp} (Pv:Nat->St->Hp->Prop) (h0:Pv 0 σ H) (hl:∀ i σ H,i<=xs.length->Pv i σ H->SqL K H a xs)
 (hs:∀ i x σ H,i < xs.length->xs[xs.length - 1 - i]?=some x->Pv i σ H->g x σ H fun σ2 H2=>tb { D with nx:=Pv (i + 1),ct:=Pv (i + 1),bk:=D.nx } σ2 H2) (hd:∀ σ H,Pv xs.length σ H->D.nx σ H) :
 ∃ W:Nat->Nat->St->Hp->Prop,(∃ m,W 0 m σ H)/\∀ i m σ H,W i m σ H->
  ((Itv K a xs.length).stop i H/\D.nx σ H)\/((Itv K a xs.length).go i H/\∃ N:St->Hp->Prop,(∀ σ' H',N σ' H'->∃ m',m' < m/\W (i + 1) m' σ' H')/\∀ x H',(Itv K a xs.length).yld i H x H'->g x σ H' fun σ2 H2=>tb { D with nx:=N,ct:=N,bk:=D.nx } σ2 H2):=by
 refine ⟨fun i m σ H=>m=xs.length - i/\i<=xs.length/\Pv i σ H,⟨xs.length,by simp,Nat.zero_le _,h0⟩,?_⟩
 rintro i m σ H ⟨rfl,hi,p⟩
 have q:=hl i σ H hi p
 by_cases hlt:i < xs.length
 ·have hj:xs.length - 1 - i < xs.length:=by omega
  refine .inr ⟨⟨xs,xs[xs.length - 1 - i],q,rfl,hlt,List.getElem?_eq_getElem hj⟩,Pv (i + 1),fun σ' H' p'=>⟨xs.length - (i + 1),by omega,rfl,hlt,p'⟩,fun x H' y=>?_⟩
  obtain ⟨e,y⟩:=y
  subst e
  exact hs i x σ _ hlt (y xs q) p
 ·have e:i=xs.length:=by omega
  subst e
  exact .inl ⟨rfl,hd σ H p⟩
section
variable {prog:Program} {w:World} {A:Around} {E:Value->Shared->Prop} {s:Shared}
def Std (h:Heap) (S a:Addr) (hv:Int):Prop:=∃ o ep t,h.get? S=some o/\o.ExactSet/\o.data=.set #[(hv,.ref a)] ep t/\Tb1 t (SetTable.bits hv % 8)
theorem Std.n {h:Heap} {S a:Addr} {hv:Int} (x:Std h S a hv):StN h S 1:=by
 obtain ⟨o,ep,t,h2,h3,h4,h5⟩:=x
 exact ⟨o,_,ep,t,h2,h3,h4,fits1 h5,rfl⟩
theorem start_j {t:SetTable} (hm:t.mask=7) (h:Int):(t.probeStart h).j=SetTable.bits h % 8:=by
 unfold SetTable.probeStart SetTable.runEnd
 rw [hm]
theorem add0d {S a:Addr} {ks:List Key} {h:Int} {F:Nat} {Q:Bool->Shared->Prop} (hS:St0 s.heap S) (ha:IsTupleKey (Ax prog w) s.heap ks a)
 (q:∀ h',Heap.SameBut S s.heap h'->Std h' S a h->Q true { s with heap:=h' }):wpAny (model prog w) A (setAddHashedIn S (.ref a) h (F + 1)) Q E s:=by
 obtain ⟨o,ep,t,ho,hx,hd,hm,hp,hdu⟩:=hS
 have put:∀ j,t.put j=({ t with place:=#[j] },0):=fun j=>by
  unfold SetTable.put
  rw [hp,hdu,below0,has0]
  show (_,_)=_
  rw [if_neg (by decide)]
  have:SetTable.insertAt (#[]:Array Nat) 0 j=#[j]:=by simp [SetTable.insertAt]
  rw [this]
 refine addH ho hd ?_ ha (fun j=>j=SetTable.bits h % 8) ?_ ?_ ?_ ?_
 ·unfold SetTable.fits SetTable.fill
  rw [hm,hp,hdu]
  rfl
 ·intro Q' q'
  rw [setSearch.eq_def,setSearchFrom.eq_def]
  refine wpAny_bind (wpAny_setState_of ho hd ?_ ?_)
  ·unfold SetTable.fits SetTable.fill
   rw [hm,hp,hdu]
   rfl
  have hg:t.gaveWay=false:=by unfold SetTable.gaveWay; rw [hm]; rfl
  show wpAny _ _ (if t.gaveWay=true then _ else _) _ _ _
  rw [hg]
  show wpAny _ _ (match SetTable.probe t _ h (t.probeStart h) with | some met=>_ | _=>_) _ _ _
  have pr:∀ f,SetTable.probe t f h (t.probeStart h)=some (.empty (t.probeStart h).j none):=fun f=>by
   have hF:10 * SetTable.turns t.mask=219 + 1:=by rw [hm]; rfl
   rw [SetTable.probe.eq_def,hF,SetTable.probe.go.eq_def]
   simp only [slot0 hp hdu]
   rfl
  rw [pr]
  exact wpAny_pure (q' _ (start_j hm h))
 ·intro j b _
  rw [put]
  unfold SetTable.tooFull SetTable.fill tbP
  cases b <;> simp [hm,hdu]
 ·intro j _
  rw [put]
  simp [SetTable.insertAt,sizeLine_eq]
 ·intro j b hj
  subst hj
  rw [put]
  refine q _ (put_same _ _) ?_
  obtain ⟨o',g1,g2,g3⟩:=put_get (es:=SetTable.insertAt #[] 0 (h,.ref a)) (t:=tbP b { t with place:=#[SetTable.bits h % 8] }) ho hx hd
  have e1:SetTable.insertAt (#[]:Array (Int × Value)) 0 (h,Value.ref a)=#[(h,.ref a)]:=by simp [SetTable.insertAt]
  rw [e1] at g1 g3
  show Std (s.heap.update S (Obj.putSet (SetTable.insertAt #[] 0 (h,Value.ref a)) (tbP b { t with place:=#[SetTable.bits h % 8] }))) S a h
  rw [e1]
  refine ⟨o',ep + 1,tbP b { t with place:=#[SetTable.bits h % 8] },g1,g2,g3,?_⟩
  unfold tbP
  cases b
  ·exact ⟨hm,rfl,hdu⟩
  ·exact ⟨hm,rfl,hdu⟩
end
section
variable {X:Cx}
end
section
variable {prog:Program} {w:World} {A:Around} {E:Value->Shared->Prop} {s:Shared}
theorem addE {S a b:Addr} {ka:List Key} {h:Int} {F:Nat} {Q:Bool->Shared->Prop} (hS:Std s.heap S a h) (ha:IsTupleKey (Ax prog w) s.heap ka a) (hb:IsTupleKey (Ax prog w) s.heap ka b) (hu:A.units < cLine) (q:Q false s):wpAny (model prog w) A (setAddHashedIn S (.ref b) h (F + 1)) Q E s:=by
 obtain ⟨o,ep,t,ho,hx,hd,T⟩:=hS
 rw [setAddHashedIn.eq_def]
 refine wpAny_bind (wpAny_setState_of ho hd (fits1 T) ?_)
 show wpAny _ _ (setSearch S (.ref b) h true >>= _) _ _ _
 refine wpAny_bind ?_
 rw [setSearch.eq_def,setSearchFrom.eq_def]
 refine wpAny_bind (wpAny_setState_of ho hd (fits1 T) ?_)
 have hg:t.gaveWay=false:=by unfold SetTable.gaveWay; rw [T.mask]; rfl
 show wpAny _ _ (if t.gaveWay=true then _ else _) _ _ _
 rw [hg]
 obtain ⟨R,hp⟩:=start1 T h
 have pr:∀ f:Nat->Int,(f 0 == h)=true->SetTable.probe t f h (t.probeStart h)=some (.candidate (SetTable.bits h % 8) 0 (t.advance (t.probeStart h))):=fun f hf=>by
  have hF:10 * SetTable.turns t.mask=219 + 1:=by rw [T.mask]; rfl
  rw [SetTable.probe.eq_def,hF,probe_one T hf R,if_pos (start_j T.mask h)]
 show wpAny _ _ (match SetTable.probe t _ h (t.probeStart h) with | some met=>_ | _=>_) _ _ _
 rw [pr _ (show (h == h)=true from beq_self_eq_true h)]
 show wpAny _ _ (if (!t.led)=true then _ else _) _ _ _
 cases hl:t.led with
 | true=>
   show wpAny _ _ (holding [Value.ref a] (eqBool (.ref a) (.ref b)) >>= _) _ _ _
   refine wpAny_bind (wpAny_holding ((tupleKind (Ax prog w)).eqBool hu ha hb ?_))
   rw [decide_eq_true rfl]
   refine wpAny_bind (wpAny_setState_of ho hd (fits1 T) ?_)
   exact wpAny_pure (wpAny_pure q)
 | false=>
   show wpAny _ _ (searchCouldBeSeen (.ref b) _ >>= _) _ _ _
   refine wpAny_bind (seen hb ?_ ?_)
   ·intro y hy
    obtain ⟨z,hz,rfl⟩:=List.mem_map.mp hy
    have:=Array.mem_toList_iff.mp hz
    rw [Array.mem_filter] at this
    have:=this.1
    simp only [List.mem_toArray,List.mem_cons,List.not_mem_nil,or_false] at this
    subst this
    exact ⟨a,ka,rfl,ha⟩
   show wpAny _ _ (holding [Value.ref a] (eqBool (.ref a) (.ref b)) >>= _) _ _ _
   refine wpAny_bind (wpAny_holding ((tupleKind (Ax prog w)).eqBool hu ha hb ?_))
   rw [decide_eq_true rfl]
   refine wpAny_bind (wpAny_setState_of ho hd (fits1 T) ?_)
   exact wpAny_pure (wpAny_pure q)
def SPe (prog:Program) (w:World) (S p p':Addr) (ks:List Key) (i:Nat) (h:Heap):Prop:=IsTupleKey (Ax prog w) h ks p/\IsTupleKey (Ax prog w) h ks p'/\(match i with | 0=>St0 h S | _=>Std h S p ((tupleKind (Ax prog w)).hash ks))
theorem SPe.stay {S p p':Addr} {ks:List Key} {i:Nat} {h h':Heap} {wr:List Addr} (hS:S ∉ wr) (hx:p ∉ wr) (hx':p' ∉ wr) (x:SPe prog w S p p' ks i h) (e:∀ b o,b ∉ wr->h.get? b=some o->h'.get? b=some o):SPe prog w S p p' ks i h':=by
 obtain ⟨h1,h1',h2⟩:=x
 refine ⟨Df h1 fun o ho=>e _ _ hx ho,Df h1' fun o ho=>e _ _ hx' ho,?_⟩
 match i,h2 with
 | 0,⟨o,ep,t,ho,r⟩=>exact ⟨o,ep,t,e _ _ hS ho,r⟩
 | n + 1,⟨o,ep,t,ho,r⟩=>exact ⟨o,ep,t,e _ _ hS ho,r⟩
theorem SPe.add0 {S p p':Addr} {ks:List Key} {Q:Bool->Shared->Prop} (hu:A.units < cLine) (hS:p≠S) (hS':p'≠S) (sp:SPe prog w S p p' ks 0 s.heap)
 (q:∀ h' tk b,s.toks<=tk->Heap.SameBut S s.heap h'->SPe prog w S p p' ks 1 h'->Q b { s with heap:=h',toks:=tk }):wpAny (model prog w) A (setAdd S (.ref p)) Q E s:=by
 obtain ⟨hx,hx',hst⟩:=sp
 unfold setAdd
 refine wpAny_holding (wpAny_bind ((tupleKind (Ax prog w)).pyHash hu hx ?_))
 unfold setAddHashed
 refine wpAny_holding ?_
 exact add0d (F:=99999) (s:={ s with toks:=s.toks + _ }) hst hx fun h' hs st=>q h' _ true (Nat.le_add_right _ _) hs ⟨Df hx fun o ho=>by rw [hs.2 _ hS]; exact ho,Df hx' fun o ho=>by rw [hs.2 _ hS']; exact ho,st⟩
theorem SPe.add1 {S p p':Addr} {ks:List Key} {n:Nat} {Q:Bool->Shared->Prop} (hu:A.units < cLine) (sp:SPe prog w S p p' ks (n + 1) s.heap)
 (q:∀ h' tk b,s.toks<=tk->Heap.SameBut S s.heap h'->SPe prog w S p p' ks (n + 2) h'->Q b { s with heap:=h',toks:=tk }):wpAny (model prog w) A (setAdd S (.ref p')) Q E s:=by
 obtain ⟨hx,hx',hst⟩:=sp
 unfold setAdd
 refine wpAny_holding (wpAny_bind ((tupleKind (Ax prog w)).pyHash hu hx' ?_))
 unfold setAddHashed
 refine wpAny_holding ?_
 exact addE (F:=99999) (s:={ s with toks:=s.toks + _ }) hst hx hx' hu (q s.heap _ false (Nat.le_add_right _ _) ⟨rfl,fun b hb=>rfl⟩ ⟨hx,hx',hst⟩)
theorem call_set_two {l p p':Addr} {ks:List Key} {items:Array Value} {Q:Value->Shared->Prop} (hh:A.handled=none) (hu:A.units + 8 < cLine) (hl:s.heap.IsList l items) (hz:items.toList=[Value.ref p,.ref p']) (hk:IsTupleKey (Ax prog w) s.heap ks p) (hk':IsTupleKey (Ax prog w) s.heap ks p')
 (h:∀ (h':Heap) (tk:Nat),StN h' s.heap.objs.size 1->(∀ b o,b < s.heap.objs.size->s.heap.get? b=some o->h'.get? b=some o)->Q (.ref s.heap.objs.size) { s with heap:=h',toks:=tk }) :
 wpAny (model prog w) A (call (.type "set") [.ref l]) Q E s:=by
 obtain ⟨c,tl,hmro⟩:=F.called_set.mro
 have hmade:=F.called_set.made
 have hsub:=F.called_set.sub
 refine wpAny_call (codeAny_of_tree ?_)
 show wpAny _ _ (callAny (.type "set") _) _ _ _
 refine wpAny_pure ⟨Code.quiet_builtin _ (by decide +kernel),codeAny_builtin F.entry_type_call ?_⟩
 rw [Around.under_plain (weight_type_call_type "set" [.ref l] []) rfl]
 have h1:=F.called_set.notType
 have h2:=F.called_set.canCreate
 have hct:=F.typeCall_set_1 (.ref l)
 repeat (any_goals (first | assumption | wp_step))
 refine codeAny_mono (code_set_new_1 (.ref l) (E:=E) (Q₁:=fun obj s₁=>∃ led:Bool,obj=.ref s.heap.objs.size/\s₁={ s with heap:=s.heap.push { cls:=.type "set",dict:=none,data:=.set #[] 0 (.fresh 0 0 led) } }) fun led=>⟨led,rfl,rfl⟩) fun r s₁ hr=>?_
 cases r with
 | error e=>exact hr
 | ok fl=>
   cases fl with
   | ret obj=>
     obtain ⟨led,rfl,rfl⟩:=hr
     have hS:(s.heap.push { cls:=.type "set",dict:=none,data:=.set #[] 0 (.fresh 0 0 led) }).get? s.heap.objs.size=some { cls:=.type "set",dict:=none,data:=.set #[] 0 (.fresh 0 0 led) }:=Heap.get?_push_size _ rfl
     have hT:Shared.TypeIs { s with heap:=s.heap.push { cls:=.type "set",dict:=none,data:=.set #[] 0 (.fresh 0 0 led) } } (.ref s.heap.objs.size) "set":=⟨_,hS,rfl⟩
     have hli:=F.called_set.init.lookup
     have hbi:=F.called_set.init.bind (.ref s.heap.objs.size)
     repeat (any_goals (first | assumption | wp_step))
     refine codeAny_mono (codeAny_call_builtin (R:=wants (fun r s₂=>r=.none/\∃ h' tk,s₂={ s with heap:=h',toks:=tk }/\StN h' s.heap.objs.size 1/\
      (∀ b o,b < s.heap.objs.size->s.heap.get? b=some o->h'.get? b=some o)) E) F.called_set.init.plain F.entry_set_init (check_set_init_1 hT ?_)) fun r₂ s₂ hr₂=>?_
     ·obtain ⟨⟨ocls,odict,odata,oslots⟩,hol,hcl,nl,hdl⟩:=id hl
      simp only at hcl hdl
      subst hcl hdl
      have hol':(s.heap.push { cls:=.type "set",dict:=none,data:=.set #[] 0 (.fresh 0 0 led) }).get? l=some { cls:=.type "list",dict:=odict,data:=.seq items nl,slots:=oslots }:=Heap.get?_push_of_some _ hol
      have hsls:=F.sub_list_set
      have hslf:=F.sub_list_frozenset
      have hne:(Value.type "list" == Value.type "dict")=false:=by decide
      have hl1:(s.heap.push { cls:=.type "set",dict:=none,data:=.set #[] 0 (.fresh 0 0 led) }).IsList l items:=⟨_,hol',rfl,nl,rfl⟩
      unfold Builtin.«set.__init__» noKeywords Builtin.Frozenset.updateFrom
      generalize hPI:pyIter=PI
      wp_walk
      subst hPI
      refine wpAny_pyIter_list hl1 ?_
      refine wpAny_bind (wpAny_runValue ?_)
      have hlS:l < s.heap.objs.size:=Heap.lt_size hol
      have hh3:A.in1.in1.in1.handled=none:=by simp [hh]
      have szp:(s.heap.push { cls:=.type "set",dict:=none,data:=.set #[] 0 (.fresh 0 0 led) }).objs.size=s.heap.objs.size + 1:=Heap.size_push _ _
      have hneI:l≠(s.heap.push { cls:=.type "set",dict:=none,data:=.set #[] 0 (.fresh 0 0 led) }).objs.size:=by rw [szp]; exact Nat.ne_of_lt (Nat.lt_succ_of_lt hlS)
      have hSf:s.heap.objs.size ∉ [(s.heap.push { cls:=.type "set",dict:=none,data:=.set #[] 0 (.fresh 0 0 led) }).objs.size,l]:=by
       simp only [List.mem_cons,List.not_mem_nil,or_false,not_or]
       exact ⟨by rw [szp]; exact Nat.ne_of_lt (Nat.lt_succ_self _),Nat.ne_of_gt hlS⟩
      have hln:items.size=2:=by
       have:=congrArg List.length hz
       simpa using this
      have hval:∀ (i:Nat) (v:Value),items[i]?=some v->(i=0/\v=.ref p)\/(i=1/\v=.ref p'):=fun i v hv=>by
       have hv:items.toList[i]?=some v:=by rw [Array.getElem?_toList]; exact hv
       rw [hz] at hv
       match i,hv with
       | 0,hv=>cases hv; exact .inl ⟨rfl,rfl⟩
       | 1,hv=>cases hv; exact .inr ⟨rfl,rfl⟩
      have xlt:p < s.heap.objs.size:=by
       obtain ⟨o,_,_,ho,_⟩:=hk
       exact Heap.lt_size ho
      have xlt':p' < s.heap.objs.size:=by
       obtain ⟨o,_,_,ho,_⟩:=hk'
       exact Heap.lt_size ho
      refine set_fillG ((Walks.list hh3 _ l hneI items).toS) s.heap.objs.size hSf (SPe prog w s.heap.objs.size p p' ks) (fun i h h'=>SPe.stay ?a1 ?a2 ?a2') (fun i v s1 Q1 E1 hi hP sp q1=>?a3) (items.size - 0) 0 _ (by omega) (Nat.zero_le _) ⟨⟨_,Heap.get?_push_size _ rfl,rfl,rfl⟩,(hl1.push _)⟩ ?hS0 ?hR
      case a1=>rw [szp]; simp
      case a2=>
       rw [szp,List.mem_singleton]
       exact Nat.ne_of_lt (Nat.lt_succ_of_lt xlt)
      case a2'=>
       rw [szp,List.mem_singleton]
       exact Nat.ne_of_lt (Nat.lt_succ_of_lt xlt')
      case a3=>
       rcases hval i v hP with ⟨rfl,rfl⟩ | ⟨rfl,rfl⟩
       ·exact SPe.add0 (by simp [Around.in1]; omega) (Nat.ne_of_lt xlt) (Nat.ne_of_lt xlt') sp q1
       ·exact SPe.add1 (by simp [Around.in1]; omega) sp q1
      case hS0=>
       refine ⟨Df hk fun o ho=>Heap.get?_push_of_some _ (Heap.get?_push_of_some _ ho),Df hk' fun o ho=>Heap.get?_push_of_some _ (Heap.get?_push_of_some _ ho),?_⟩
       exact ⟨_,0,_,Heap.get?_push_of_some _ hS,⟨rfl,rfl,rfl⟩,rfl,rfl,rfl,rfl⟩
      case hR=>
       intro s' hm hS'
       have hS':StN s'.heap s.heap.objs.size 1:=by
        rw [hln] at hS'
        exact hS'.2.2.n
       obtain ⟨h',g',d',tk',os'⟩:=s'
       have eg:g'=s.gens:=hm.gens
       have ed:d'=s.drawn:=hm.drawn
       have eo:os'=s.os:=hm.os
       subst eg ed eo
       show wpAny _ _ _ _ _ _
       refine wpAny_pure ?_
       show wpAny _ _ (ret Value.none) _ _ _
       refine wpAny_pure ⟨rfl,h',tk',rfl,hS',fun b o hb e=>?_⟩
       refine hm.heap b o ?_ (Heap.get?_push_of_some _ (Heap.get?_push_of_some _ e))
       simp only [List.mem_cons,List.not_mem_nil,or_false,not_or]
       exact ⟨Nat.ne_of_lt hb,by rw [szp]; exact Nat.ne_of_lt (Nat.lt_succ_of_lt hb)⟩
     ·cases r₂ with
      | error e=>exact hr₂
      | ok fl₂=>
        cases fl₂ with
        | ret r=>
          obtain ⟨rfl,h',tk,rfl,hS',hk'⟩:=hr₂
          repeat (any_goals (first | assumption | wp_step))
          exact h _ _ hS' hk'
        | _=>exact hr₂.elim
   | _=>exact hr.elim
end
section
variable {X:Cx}
def tLenE (K:PySem.W.Frag) (te:TE):TE:=fun σ H Q=>te σ H fun x H1=>∃ (a p p':Addr) (ks:List Key),x=.ref a/\SqL K H1 a [.ref p,.ref p']/\H1 p=some (.tup (ks.map kV))/\H1 p'=some (.tup (ks.map kV))/\Q (.int 1) H1
theorem pe_lenE {e:Expr} {te:TE} {p1 p2 p3 pos:Pos} (hh:X.A.handled=none) (hu:X.A.units + 64 < cLine) (g1:Gl X "len") (m1:X.mg "len"=none) (g2:Gl X "set") (m2:X.mg "set"=none) (he:PE X e te)
 (h1:starEach [.Call (.Name "set" p2) [e] [] p3] X.env=[(false,eval (.Call (.Name "set" p2) [e] [] p3) X.env)]:=by rfl) (h2:starEach [e] X.env=[(false,eval e X.env)]:=by rfl) :
 PE X (.Call (.Name "len" p1) [.Call (.Name "set" p2) [e] [] p3] [] pos) (tLenE X.K te):=by
 intro pins s σ H Q I h
 refine wpAny_Call_Name_kw (Ex I g1 m1 boot_len ?_ (by decide) (by decide))
 refine PyProof.Rows.callWith_builtin1 ?_ h1 rfl
 rw [h1]
 show wpAny _ _ (spliced ((false,eval (.Call (.Name "set" p2) [e] [] p3) X.env) :: backTo pos (starEach [] X.env))) _ _ s
 refine Calls.spliced_cons ?_
 refine wpAny_Call_Name_kw (Ex I g2 m2 boot_set ?_ (by decide) (by decide))
 refine PyProof.Rows.callWith_type1 ?_ h2 rfl
 rw [h2]
 show wpAny _ _ (spliced ((false,eval e X.env) :: backTo p3 (starEach [] X.env))) _ _ s
 refine Calls.spliced_cons (thn (he pins s σ H _ I h) fun u s1 ⟨x,H1,I1,r1,q1⟩=>?_)
 obtain ⟨a,p,p',ks,rfl,hq,hk,hk',q⟩:=q1
 cases r1
 refine Calls.spliced_nil ?_
 obtain ⟨its,rv,pl,_⟩:=I1.list hq
 have ei:its=[.ref p,.ref p']:=by
  cases rv with
  | cons r1 r2=>
    cases r2 with
    | cons r3 r4=>cases r4; cases r1; cases r3; rfl
 refine call_set_two (p:=p) (p':=p') (ks:=ks) hh (by omega) pl.isList (by rw [ei]) (key_of I1.hok hk) (key_of I1.hok hk') fun h' tk hS hk=>?_
 refine Calls.spliced_nil ?_
 obtain ⟨o,es,ep,t,ho,hex,hd,hf,hn⟩:=hS
 refine call_len_set (s:={ s1 with heap:=h',toks:=tk }) ho hex hd hf (by omega) ?_
 refine ⟨.int 1,H1,(I1.kept (t':=tk + 1 + 1) fun b u e=>hk b u (Heap.lt_size e) e),⟨tk + 1,by rw [hn]; rfl⟩,q⟩
end
def tHs (K:PySem.W.Frag) (Dn:Ends) (σ:St) (a C:Addr) (H:Hp):List (Nat × Addr × TS)->Prop
 | []=>False
 | (i,D,th) :: r=>(PySem.W.mroIn K C (.ref D)=some true/\th { nx:=fun σ2 H2=>Dn.nx (σ2.set i none) H2,rt:=Dn.rt,bk:=fun σ2 H2=>Dn.bk (σ2.set i none) H2,ct:=fun σ2 H2=>Dn.ct (σ2.set i none) H2 } (σ.set i (some (.ref a))) H)\/
   (PySem.W.mroIn K C (.ref D)=some false/\tHs K Dn σ a C H r)
def PHs (X:Cx) (hs:List ExceptHandler) (ths:List (Nat × Addr × TS)):Prop:=
 ∀ (pins:List (Addr × Obj)) (s:Shared) (σ:St) (H:Hp) (a C:Addr) (d:Option Addr) (Dn:Ends),Inv X pins σ H s->Raw X pins H s.heap a C d->tHs X.K Dn σ a C H ths->wpAny (model X.prog X.w) X.A (handleBy (.ref a) X.env hs) (SP X pins Dn) X.xe s
section
variable {X:Cx}
theorem phs_nil {hs:List ExceptHandler}:PHs X hs []:=fun _ _ _ _ _ _ _ _ _ _ h=>h.elim
theorem phs_cons {hs:List ExceptHandler} {ths:List (Nat × Addr × TS)} {suite:List Stmt} {b₀:Stmt} {n x:Str} {D:Addr} {hpos tpos:Pos} {i:Nat} {th:TS}
 (hN:X.N.Nodup) (hi:X.N[i]?=some n) (hl:X.env.scope.names.lookup n=some .local) (hg:Gl X x) (hm:X.mg x=some (.ref D))
 (hD:PySem.W.typeIn X.K (.ref D)=some (.type "type")) (hcl:(PySem.W.clsIn X.K D).isSome=true) (hB:PySem.W.mroIn X.K D (.type "BaseException")=some true)
 (hs1:∀ a,PSs (X.hdl a) (b₀ :: suite) th) (hr:PHs X hs ths) (hdb:(x == ("__debug__":Str))=false:=by decide) :
 PHs X (.ExceptHandler (some (.Name x tpos)) (some n) (b₀ :: suite) hpos :: hs) ((i,D,th) :: ths):=by
 intro pins s σ H a C d Dn I3 raw h
 have raw':=raw
 obtain ⟨t,T,rest,sl,oT,ts,ha,q,_⟩:=raw'
 refine wpAny_handleBy_cons (codeAny_handlers_test (ld_glob (X:=X.hdl a) I3.hdl hg hm ?_ hdb)) (by intro q; cases q)
 rcases h with ⟨hmr,hth⟩ | ⟨hmr,hrest⟩
 ·refine x_match I3.kIn q rfl hD hcl hB hmr ?_
  refine codeAny_handlers_suite_as ?_
  refine flight_ends I3 raw fun s4 I4=>?_
  refine store_ok (X:=X.hdl a) (v:=.ref a) I4.hdl hN hi (.inl hl) rfl (fun s5 I5=>?_) (.inr hl)
  refine wpAny_mono (hs1 a pins s5 _ H _ I5 hth) (fun f s6 hf=>?_) fun _ _ z=>z.elim
  cases f with
  | next=>
    obtain ⟨σ2,H2,I6,q6⟩:=hf
    exact name_goes (I6.back I3.ok) hN hi hl fun s7 I7=>⟨_,H2,I7,q6⟩
  | brk=>
    obtain ⟨σ2,H2,I6,q6⟩:=hf
    exact name_goes (I6.back I3.ok) hN hi hl fun s7 I7=>⟨_,H2,I7,q6⟩
  | cont=>
    obtain ⟨σ2,H2,I6,q6⟩:=hf
    exact name_goes (I6.back I3.ok) hN hi hl fun s7 I7=>⟨_,H2,I7,q6⟩
  | ret u=>
    obtain ⟨v,σ2,H2,I6,rv,q6⟩:=hf
    exact name_goes (I6.back I3.ok) hN hi hl fun s7 I7=>⟨v,_,H2,I7,rv,q6⟩
 ·refine x_match I3.kIn q rfl hD hcl hB hmr ?_
  exact hr pins s σ H a C d Dn I3 raw hrest
end
end L2
namespace K34
open PySem L2 PyProof.Rows
def top (i:Nat):Stmt:=PySem.Challenge.pw_grantweave_k34_whole_any_text_read.main.body.getD i (.Pass ⟨0,0,0,0⟩)
structure Txt (mg:Str->Option Value):Prop where
 n_len:mg "len"=none
 n_isinstance:mg "isinstance"=none
 n_range:mg "range"=none
 n_int:mg "int"=none
 n_bool:mg "bool"=none
 n_str:mg "str"=none
 n_tuple:mg "tuple"=none
 n_list:mg "list"=none
 n_all:mg "all"=none
 n_zip:mg "zip"=none
 n_min:mg "min"=none
 n_max:mg "max"=none
 n_set:mg "set"=none
 n_sorted:mg "sorted"=none
 n_enumerate:mg "enumerate"=none
 g_LETTERS:∃ t,mg "LETTERS"=some (.str "abcdefghijklmnopqrstuvwxyz" t)
 g_LONGEST_WORD:∃ t,mg "LONGEST_WORD"=some (.int 8 t)
 g_GREATEST_NUMBER:∃ t,mg "GREATEST_NUMBER"=some (.int 99 t)
 g_MOST_OFFERS:∃ t,mg "MOST_OFFERS"=some (.int 2 t)
 g_MOST_BENEATH:∃ t,mg "MOST_BENEATH"=some (.int 6 t)
 g_MOST_PARTS:∃ t,mg "MOST_PARTS"=some (.int 30 t)
 g_MOST_DEEP:∃ t,mg "MOST_DEEP"=some (.int 6 t)
section
variable {P:Program} {w:World} {K:PySem.W.Frag} {mg:Str->Option Value} {base:Heap}
abbrev s_law_cell:Stmt:=top 62
theorem sc_law_cell:Ao ["_law_script","_law_k"] ["_law_script","_law_k"] (Af s_law_cell):=by trivial
theorem ok_cell (T:Txt mg) (F:Al K mg "_law_cell" s_law_cell ["_law_script","_law_k"]):FnAt P w K mg base "_law_cell" 1 ["_law_script","_law_k"] (spCell K):=by
 refine F.at sc_law_cell (fun vs H Q E h=>?_) (fun f cdv A outer s H vs Q E hr h=>?_)
 ·obtain ⟨a,ns,k,rfl,_⟩:=h
  rfl
 ·obtain ⟨a,ns,k,rfl,hS,q⟩:=h
  refine ⟨_,(Ac (A5 (Av op_lt (pv 1) (Ai Aq rfl T.n_len boot_len (Aa (pv 0) Ab)) (A1 _)) (Ad (Ap (A0 An (pv 0) (pv 1) (fun _ _=>rfl)))) Am)
   (Ad (Ap (A3 B4 (A3 op_mul Ae (pv 1)) Ae)))),?_⟩
  refine ⟨_,rfl,_,rfl,_,_,rfl,.inl ⟨_,hS,rfl⟩,_,_,rfl,rfl,_,rfl,ite2 (fun hlt=>?_) (fun _=>?_)⟩
  ·have hlt:(k:Int) < (((ns.map V.int).length:Nat):Int):=of_decide_eq_true hlt
   have hk:k < ns.length:=by rw [List.length_map] at hlt; omega
   refine ⟨_,rfl,_,rfl,a,_,_,V.int ns[k],rfl,rfl,hS,Az (by rw [List.getElem?_map,List.getElem?_eq_getElem hk]; rfl),q _⟩
  ·exact ⟨_,rfl,_,_,rfl,rfl,.inl ⟨by decide,by decide⟩,_,_,rfl,rfl,q _⟩
abbrev s_law_mixed:Stmt:=top 63
theorem sc_law_mixed:Ao ["_law_cell_here","_law_k","_law_number"] ["_law_cell_here","_law_k"] (Af s_law_mixed):=by trivial
theorem ok_mixed (F:Al K mg "_law_mixed" s_law_mixed ["_law_cell_here","_law_k"]):FnAt P w K mg base "_law_mixed" 1 ["_law_cell_here","_law_k"] spMixed:=by
 refine F.at sc_law_mixed (fun vs H Q E h=>?_) (fun f cdv A outer s H vs Q E hr h=>?_)
 ·obtain ⟨a,k,rfl,_⟩:=h
  rfl
 ·obtain ⟨a,k,rfl,q⟩:=h
  refine ⟨_,(Ac (As (i:=2) sc_law_mixed.nd rfl (by trivial) (A3 op_mod (A3 B4 (A3 B4 (A3 op_mul (A3 op_mod (pv 0) Ae) Ae) (A3 op_mul Ae (pv 1))) Ae) Ae))
   (Ac (As (i:=2) sc_law_mixed.nd rfl (by trivial) (A3 op_mod (A3 B4 (A3 B4 (A3 op_mul (pv 2) (pv 2)) (A3 op_mul Ae (pv 1))) Ae) Ae))
   (Ad (Ap (A3 op_mod (A3 op_mul (pv 2) (pv 2)) Ae))))),?_⟩
  have md:∀ (x:Int) (y:Int),0 < y->y < 4294967296->-(2 ^ 64) < x % y/\x % y < 2 ^ 64:=fun x y h1 h2=>by
   have a1:=Int.emod_nonneg x (show y≠0 by omega)
   have a2:=Int.emod_lt_of_pos x h1
   omega
  refine ⟨_,rfl,_,_,rfl,rfl,(by show (0:Int) < _; decide),_,_,rfl,rfl,.inr ⟨by decide,by decide⟩,_,rfl,_,_,rfl,rfl,.inl ⟨by decide,by decide⟩,_,_,rfl,rfl,_,_,rfl,rfl,_,_,rfl,rfl,(by show (0:Int) < _; decide),?_⟩
  refine ⟨_,rfl,_,rfl,_,_,rfl,rfl,.inl (md _ _ (by decide) (by decide)),_,rfl,_,_,rfl,rfl,.inl ⟨by decide,by decide⟩,_,_,rfl,rfl,_,_,rfl,rfl,_,_,rfl,rfl,(by show (0:Int) < _; decide),?_⟩
  exact ⟨_,rfl,_,rfl,_,_,rfl,rfl,.inl (md _ _ (by decide) (by decide)),_,_,rfl,rfl,(by show (0:Int) < _; decide),q _⟩
abbrev s_law_box:Stmt:=top 64
theorem sc_law_box:Ao ["_law_cell_here"] ["_law_cell_here"] (Af s_law_box):=by trivial
theorem ok_box (F:Al K mg "_law_box" s_law_box ["_law_cell_here"]):FnAt P w K mg base "_law_box" 1 ["_law_cell_here"] spBox:=by
 refine F.at sc_law_box (fun vs H Q E h=>?_) (fun f cdv A outer s H vs Q E hr h=>?_)
 ·obtain ⟨c,rfl,_⟩:=h
  rfl
 ·obtain ⟨c,rfl,q⟩:=h
  refine ⟨_,(Ac (A5 (Av op_ge (pv 0) (A3 op_pow Ae Ae) (A1 _)) (Ad (Ap (Bf (Aa (pv 0) (Aa (A3 op_mod (pv 0) Ae) (Aa Ae Ab)))))) Am)
   (Ad (Ap (Bf (Aa Ae (Aa (A3 op_mod (pv 0) Ae) (Aa Ae Ab))))))),?_⟩
  refine ⟨_,rfl,_,_,rfl,rfl,⟨by decide,by decide,by decide⟩,_,_,rfl,rfl,_,rfl,ite2 (fun _=>?_) (fun _=>?_)⟩
  ·exact ⟨_,rfl,_,rfl,_,_,rfl,rfl,(by show (0:Int) < _; decide),(by exact Z3),fun p hp=>q p _ _ _ hp⟩
  ·exact ⟨_,rfl,_,_,rfl,rfl,(by show (0:Int) < _; decide),(by exact Z3),fun p hp=>q p _ _ _ hp⟩
abbrev s_law_take:Stmt:=top 65
theorem sc_law_take:Ao ["_law_box_here","_law_many","_law_number"] ["_law_box_here","_law_many"] (Af s_law_take):=by trivial
theorem ok_take (F_mixed:FnAt P w K mg base "_law_mixed" 1 ["_law_cell_here","_law_k"] spMixed) (F:Al K mg "_law_take" s_law_take ["_law_box_here","_law_many"]):FnAt P w K mg base "_law_take" 2 ["_law_box_here","_law_many"] spTake:=by
 refine F.at sc_law_take (fun vs H Q E h=>?_) (fun f cdv A outer s H vs Q E hr h=>?_)
 ·obtain ⟨b,n,rfl,_⟩:=h
  rfl
 ·obtain ⟨b,n,rfl,⟨x,y,z,hb⟩,h0,h1,q⟩:=h
  refine ⟨_,(Ac (A5 (Av Eu (A0 An (pv 0) Ae (fun _ _=>rfl)) Ae (A1 _)) (Ac (As (i:=2) sc_law_take.nd rfl (by trivial) (A3 op_mod (A0 An (pv 0) Ae (fun _ _=>rfl)) (pv 1)))
   (Ac (ps_asg (A3 op_fdivB (A0 An (pv 0) Ae (fun _ _=>rfl)) (pv 1)) (pg_sub (pv 0) Ae set_list))
   (Ad (Ap (pv 2))))) Am)
   (Ac (ps_asg (A3 B4 (A0 An (pv 0) Ae (fun _ _=>rfl)) Ae) (pg_sub (pv 0) Ae set_list))
   (Ad (Ap (A3 op_mod (Ay F_mixed hr (by decide) rfl (Aa (A0 An (pv 0) Ae (fun _ _=>rfl)) (Aa (A0 An (pv 0) Ae (fun _ _=>rfl)) Ab))) (pv 1)))))),?_⟩
  have a1:∀ r:Int,0<=r % n:=fun r=>Int.emod_nonneg r (show n≠0 by omega)
  have a2:∀ r:Int,r % n < n:=fun r=>Int.emod_lt_of_pos r h0
  have oth:∀ x y z:Int,Oth b H (upd H b (.lst [.int x,.int y,.int z])):=fun x y z=>⟨⟨x,y,z,Ag⟩,fun c o e nc=>by rw [Aj nc]; exact e⟩
  refine ⟨_,rfl,b,_,_,V.int x,rfl,rfl,SqL.of hb,rfl,_,_,rfl,rfl,_,rfl,ite2 (fun _=>?_) (fun _=>?_)⟩
  ·refine ⟨_,rfl,b,_,_,V.int x,rfl,rfl,SqL.of hb,rfl,_,rfl,_,_,rfl,rfl,h0,?_⟩
   refine ⟨_,rfl,b,_,_,V.int x,rfl,rfl,SqL.of hb,rfl,_,rfl,_,_,rfl,rfl,⟨h0,h1⟩,?_⟩
   refine ⟨_,rfl,b,_,_,0,rfl,rfl,hb,rfl,?_⟩
   exact ⟨_,rfl,q _ _ (a1 _) (a2 _) (oth _ _ _)⟩
  ·refine ⟨_,rfl,b,_,_,V.int z,rfl,rfl,SqL.of hb,rfl,_,_,rfl,rfl,?_⟩
   refine ⟨_,rfl,b,_,_,2,rfl,rfl,hb,rfl,?_⟩
   refine ⟨_,rfl,b,_,_,V.int y,rfl,rfl,SqL.of Ag,rfl,_,rfl,b,_,_,V.int (z + 1),rfl,rfl,SqL.of Ag,rfl,_,_,rfl,fun r=>?_⟩
   exact ⟨_,rfl,_,_,rfl,rfl,h0,q _ _ (a1 _) (a2 _) (oth _ _ _)⟩
end
end K34
namespace K34
open PySem L2 PyProof.Rows
section
variable {P:Program} {w:World} {K:PySem.W.Frag} {mg:Str->Option Value} {base:Heap}
def Arg (K:PySem.W.Frag) (H:Hp) (x:V):Prop:=∃ k,KdOf K H x k
def spWhole (K:PySem.W.Frag):Sp:=fun vs H Q _=>∃ x,vs=[x]/\Arg K H x/\Q (.bl (wholeV x)) H
abbrev sis_whole:Stmt:=top 18
theorem scis_whole:Ao ["thing"] ["thing"] (Af sis_whole):=by trivial
theorem whole_of {H:Hp} {x:V} {k:Kd} (h:KdOf K H x k):(k.isA .int && !(k.isA .bl))=wholeV x:=by
 have h:TyOf K H x (.type k.nm):=h
 generalize hT:Value.type k.nm=T at h
 cases h <;> cases k <;> first | rfl | exact absurd (Value.type.inj hT) (by decide) | cases hT
theorem ok_whole (T:Txt mg) (F:Al K mg "is_whole" sis_whole ["thing"]):FnAt P w K mg base "is_whole" 1 ["thing"] (spWhole K):=by
 refine F.at scis_whole (fun vs H Q E h=>?_) (fun f cdv A outer s H vs Q E hr h=>?_)
 ·obtain ⟨x,rfl,_⟩:=h
  rfl
 ·obtain ⟨x,rfl,⟨k,hk⟩,q⟩:=h
  refine ⟨_,(Ad (Ap (D1 (Ai (D7 .int (by simp)) rfl T.n_isinstance boot_isinstance (Aa (pv 0) (Aa (B3 (v:=.ty "int") rfl T.n_int boot_int rfl) Ab))) (pe_one (pe_not (Ai (D7 .bl (by simp)) rfl T.n_isinstance boot_isinstance (Aa (pv 0) (Aa (B3 (v:=.ty "bool") rfl T.n_bool boot_bool rfl) Ab)))))))),?_⟩
  rw [← whole_of hk] at q
  refine ⟨_,rfl,x,k,rfl,hk,_,rfl,?_⟩
  cases e:k.isA .int with
  | true=>
    rw [e] at q
    exact iteT ⟨_,rfl,x,k,rfl,hk,_,rfl,q⟩
  | false=>
    rw [e] at q
    exact iteF q
theorem kd_str {H:Hp} {x:V} {k:Kd} (h:KdOf K H x k) (e:k.isA .str=true):∃ z,x=.str z:=by
 have h:TyOf K H x (.type k.nm):=h
 generalize hT:Value.type k.nm=T at h
 cases h <;> cases k <;> first | exact ⟨_,rfl⟩ | exact absurd e (by decide) | exact absurd (Value.type.inj hT) (by decide) | cases hT
theorem kd_nostr {H:Hp} {x:V} {k:Kd} (h:KdOf K H x k) (e:k.isA .str=false):wordV x=false:=by
 have h:TyOf K H x (.type k.nm):=h
 generalize hT:Value.type k.nm=T at h
 cases h <;> cases k <;> first | rfl | exact absurd e (by decide) | exact absurd (Value.type.inj hT) (by decide) | cases hT
def spWord (K:PySem.W.Frag):Sp:=fun vs H Q _=>∃ x,vs=[x]/\Arg K H x/\(∀ z,x=.str z->z.length<=1000)/\∀ H',Same H H'->Q (.bl (wordV x)) H'
abbrev sis_word:Stmt:=top 19
theorem scis_word:Ao ["thing"] ["thing"] (Af sis_word):=by trivial
theorem take_map_snoc (z:Str) {i:Nat} (hi:i < z.cps.size) (g:Nat->V):(z.cps.toList.take i).map g ++ [g (z.cps.getD i 0)]=(z.cps.toList.take (i + 1)).map g:=by
 have e:z.cps.getD i 0=z.cps.toList[i]'(by simpa using hi):=by
  rw [Array.getD_eq_getD_getElem?,Array.getElem?_eq_getElem hi]; simp
 rw [List.take_succ_eq_append_getElem (by simpa using hi),List.map_append,e]
 rfl
theorem ok_word (T:Txt mg) (F:Al K mg "is_word" sis_word ["thing"]):FnAt P w K mg base "is_word" 1 ["thing"] (spWord K):=by
 refine F.at scis_word (fun vs H Q E h=>?_) (fun f cdv A outer s H vs Q E hr h=>?_)
 ·obtain ⟨x,rfl,_⟩:=h
  rfl
 ·obtain ⟨x,rfl,⟨k,hk⟩,hl,q⟩:=h
  refine ⟨_,(Ac (A5 (PW.pt (pw_or (Bl (Bw (Ai (D7 .str (by simp)) rfl T.n_isinstance boot_isinstance (Aa (pv 0) (Aa (B3 (v:=.ty "str") rfl T.n_str boot_str rfl) Ab))))) (Ei (Bl (pt_chain op_le op_le Ae (Ai Aq rfl T.n_len boot_len (Aa (pv 0) Ab)) (Cp rfl T.g_LONGEST_WORD)))))) (Ad (Ap pe_bl)) Am)
   (Ad (Ap (Ai (C4 rfl) rfl T.n_all boot_all (Aa (Bz (sc:=Af sis_word) (N0:=["thing"]) (xs:=["sign"]) (ys:=[]) (js:=[]) (by trivial) rfl (pi_str (pv 0)) (fun _ _ _ _=>(Aw (i:=0) (show (["sign"]:List Str).Nodup by decide +kernel) rfl (by trivial))) (fun _ _ _ _=>B9) (fun _ _ _ _=>(C1 op_in_str (pv 0) (pe_globS rfl T.g_LETTERS) (by with_unfolding_all rfl)))) Ab))))),?_⟩
  refine ⟨_,rfl,x,k,rfl,hk,_,rfl,?_⟩
  cases e:k.isA .str with
  | false=>
    refine iteT (iteT ?_)
    have:=q H (Same.refl H)
    rw [kd_nostr hk e] at this
    exact this
  | true=>
    refine iteF ?_
    obtain ⟨z,rfl⟩:=kd_str hk e
    have hz:=hl z rfl
    have hs:sizeLine=16777216:=sizeLine_eq
    refine ⟨_,rfl,_,_,rfl,⟨by omega,rfl⟩,_,_,rfl,rfl,_,rfl,?_⟩
    have no:¬ (1<=z.length/\z.length<=8)->Q (.bl false) H:=fun hn=>by
     have:=q H (Same.refl H)
     have e2:wordV (.str z)=false:=by
      show (decide (1<=z.length/\z.length<=8) && z.cps.toList.all C3)=false
      rw [decide_eq_false hn]; rfl
     rw [e2] at this
     exact this
    refine ite2 (fun h1=>?_) (fun h1=>?_)
    ·have h1:(1:Int)<=(z.length:Int):=of_decide_eq_true h1
     refine ⟨_,_,rfl,rfl,_,rfl,?_⟩
     refine ite2 (fun h2=>?_) (fun h2=>?_)
     ·have h2:¬ ((z.length:Int)<=8):=by simpa using h2
      exact no (by omega)
     ·have h2:(z.length:Int)<=8:=by simpa using h2
      refine ⟨_,rfl,z,rfl,comp_str (fun i ys H'=>H'=H/\ys=(z.cps.toList.take i).map fun c=>V.bl (C3 c)) ⟨rfl,rfl⟩ (by show z.length<=sizeLine; omega) ?_ ?_ ?_⟩
      ·rintro i ys H' ⟨rfl,rfl⟩
       simp; omega
      ·rintro i ys H' hi ⟨rfl,rfl⟩
       refine ⟨_,rfl,_,_,rfl,rfl,rfl,?_⟩
       have e3:(!(Builtin.Str.occurrences (Str.ofString "abcdefghijklmnopqrstuvwxyz") (sgn z i) 0 (Str.ofString "abcdefghijklmnopqrstuvwxyz").length 1).isEmpty)=C3 (z.cps.getD i 0):=low_in _
       rw [e3]
       exact take_map_snoc z hi fun c=>V.bl (C3 c)
      ·rintro ys H' ⟨rfl,rfl⟩ p hp
       refine ⟨p,z.cps.toList.map C3,rfl,SqL.of (by rw [Ag,List.take_of_length_le (by simp),List.map_map]; rfl),?_⟩
       have e2:wordV (.str z)=(z.cps.toList.map C3).all id:=by
        show (decide (1<=z.length/\z.length<=8) && z.cps.toList.all C3)=_
        rw [decide_eq_true (by omega),List.all_map]
        rfl
       have:=q _ (Same.new (o:=.lst ((z.cps.toList.take z.cps.size).map fun c=>V.bl (C3 c))) hp)
       rw [e2] at this
       exact this
    ·have h1:¬ ((1:Int)<=(z.length:Int)):=by simpa using h1
     exact ⟨_,rfl,iteT (no (by omega))⟩
theorem TyOf.same' {H H':Hp} {x:V} {t:Value} (h:TyOf K H x t) (s:Same H H'):TyOf K H' x t:=by
 cases h with
 | non=>exact .non
 | bl b=>exact .bl b
 | int i=>exact .int i
 | str z=>exact .str z
 | flt z=>exact .flt z
 | lst e=>exact .lst (s _ _ e)
 | frz e=>exact .frz (s _ _ e)
 | tup e=>exact .tup (s _ _ e)
 | dK e=>exact .dK (s _ _ e)
 | dT e=>exact .dT (s _ _ e)
 | ins e cl ha hn htk hm=>exact .ins (s _ _ e) cl ha hn htk hm
theorem Arg.same {H H':Hp} {x:V} (h:Arg K H x) (s:Same H H'):Arg K H' x:=by
 obtain ⟨k,h⟩:=h
 exact ⟨k,TyOf.same' h s⟩
def Short (x:V):Prop:=∀ z,x=.str z->z.length<=1000
theorem kd_tup {H:Hp} {x:V} {k:Kd} (h:KdOf K H x k) (e:k.isA .tup=true):∃ a xs,x=.ref a/\H a=some (.tup xs):=by
 have h:TyOf K H x (.type k.nm):=h
 generalize hT:Value.type k.nm=T at h
 cases h <;> cases k <;> first | exact ⟨_,_,rfl,by assumption⟩ | exact absurd e (by decide) | exact absurd (Value.type.inj hT) (by decide) | cases hT
theorem kd_notup {H:Hp} {x:V} {k:Kd} (h:KdOf K H x k) (e:k.isA .tup=false):keyV H x=false:=by
 have h:TyOf K H x (.type k.nm):=h
 generalize hT:Value.type k.nm=T at h
 cases h with
 | lst ea=>show (match H _ with | some (.tup [x,y])=>wordV x && numV y | _=>false)=false; rw [ea]
 | frz ea=>show (match H _ with | some (.tup [x,y])=>wordV x && numV y | _=>false)=false; rw [ea]
 | dK ea=>show (match H _ with | some (.tup [x,y])=>wordV x && numV y | _=>false)=false; rw [ea]
 | dT ea=>show (match H _ with | some (.tup [x,y])=>wordV x && numV y | _=>false)=false; rw [ea]
 | tup ea=>cases k <;> first | exact absurd e (by decide) | exact absurd (Value.type.inj hT) (by decide)
 | ins ea=>cases hT
 | _=>rfl
def spKey (K:PySem.W.Frag):Sp:=fun vs H Q _=>∃ x,vs=[x]/\Arg K H x/\(∀ a xs,x=.ref a->H a=some (.tup xs)->∀ y ∈ xs,Arg K H y/\Short y)/\∀ H',Same H H'->Q (.bl (keyV H x)) H'
abbrev sis_key:Stmt:=top 20
theorem scis_key:Ao ["thing"] ["thing"] (Af sis_key):=by trivial
theorem ok_key (T:Txt mg) (F_is_word:FnAt P w K mg base "is_word" 1 ["thing"] (spWord K)) (F_is_whole:FnAt P w K mg base "is_whole" 1 ["thing"] (spWhole K)) (F:Al K mg "is_key" sis_key ["thing"]):FnAt P w K mg base "is_key" 2 ["thing"] (spKey K):=by
 refine F.at scis_key (fun vs H Q E h=>?_) (fun f cdv A outer s H vs Q E hr h=>?_)
 ·obtain ⟨x,rfl,_⟩:=h
  rfl
 ·obtain ⟨x,rfl,⟨k,hk⟩,hy,q⟩:=h
  refine ⟨_,(Ac (A5 (PW.pt (pw_or (Bl (Bw (Ai (D7 .tup (by simp)) rfl T.n_isinstance boot_isinstance (Aa (pv 0) (Aa (B3 (v:=.ty "tuple") rfl T.n_tuple boot_tuple rfl) Ab))))) (Ei (Av op_ne (Ai Aq rfl T.n_len boot_len (Aa (pv 0) Ab)) Ae (A1 _))))) (Ad (Ap pe_bl)) Am)
   (Ad (Ap (D1 (Ay F_is_word hr (by decide) rfl (Aa (A0 C2 (pv 0) Ae (fun _ _=>rfl)) Ab)) (D1 (Ay F_is_whole hr (by decide) rfl (Aa (A0 C2 (pv 0) Ae (fun _ _=>rfl)) Ab)) (pe_one (pe_chain op_le op_le Ae (A0 C2 (pv 0) Ae (fun _ _=>rfl)) (Cp rfl T.g_GREATEST_NUMBER)))))))),?_⟩
  refine ⟨_,rfl,x,k,rfl,hk,_,rfl,?_⟩
  cases e:k.isA .tup with
  | false=>
    refine iteT (iteT ?_)
    have:=q H (Same.refl H)
    rw [kd_notup hk e] at this
    exact this
  | true=>
    refine iteF ?_
    obtain ⟨a,xs,rfl,ha⟩:=kd_tup hk e
    refine ⟨_,rfl,_,_,rfl,.inr ⟨xs,SqT.of ha,rfl⟩,rfl,_,rfl,ite2 (fun h2=>?_) (fun h2=>?_)⟩
    ·have h2:¬ ((xs.length:Int)=2):=by simpa using h2
     have:=q H (Same.refl H)
     have e2:keyV H (.ref a)=false:=by
      show (match H a with | some (.tup [x,y])=>wordV x && numV y | _=>false)=false
      rw [ha]
      match xs,h2 with
      | [],_=>rfl
      | [_],_=>rfl
      | [_,_],h2=>exact absurd rfl h2
      | _ :: _ :: _ :: _,_=>rfl
     rw [e2] at this
     exact this
    ·have h2:(xs.length:Int)=2:=by simpa using h2
     match xs,h2,ha,hy with
     | [],h2,_,_=>exact absurd h2 (by decide)
     | [_],h2,_,_=>simp at h2
     | _ :: _ :: _ :: _,h2,_,_=>simp at h2; omega
     | [u,v],_,ha,hy=>
       have e2:keyV H (.ref a)=(wordV u && numV v):=by
          show (match H a with | some (.tup [x,y])=>wordV x && numV y | _=>false)=_
          rw [ha]
       rw [e2] at q
       obtain ⟨au,lu⟩:=hy a _ rfl ha u (by simp)
       obtain ⟨av,lv⟩:=hy a _ rfl ha v (by simp)
       refine ⟨_,rfl,a,_,_,u,rfl,rfl,SqT.of ha,rfl,u,rfl,au,lu,fun H1 s1=>⟨_,rfl,?_⟩⟩
       have ha1:=s1 _ _ ha
       cases eu:wordV u with
       | false=>rw [eu] at q; exact iteF (q _ s1)
       | true=>
         rw [eu,Bool.true_and] at q
         refine iteT ⟨_,rfl,a,_,_,v,rfl,rfl,SqT.of ha1,rfl,v,rfl,av.same s1,_,rfl,?_⟩
         cases v with
         | int n=>
           refine iteT ⟨_,rfl,a,_,_,V.int n,rfl,rfl,SqT.of ha1,rfl,_,_,rfl,rfl,_,rfl,ite2 (fun h3=>?_) (fun h3=>?_)⟩
           ·have h3:0<=n:=of_decide_eq_true h3
            refine ⟨_,_,rfl,rfl,?_⟩
            have:=q _ s1
            have e4:numV (.int n)=decide (n<=99):=by
             show decide (0<=n/\n<=99)=_
             rw [Bool.eq_iff_iff]; simp [h3]
            rw [e4] at this
            exact this
           ·have h3:¬ (0<=n):=by simpa using h3
            have:=q _ s1
            have e4:numV (.int n)=false:=decide_eq_false (by omega)
            rw [e4] at this
            exact this
         | _=>exact iteF (q _ s1)
end
end K34
namespace L2
open PySem PyProof.Rows
theorem pe_fn0 {X:Cx} {x:Str} {sp:Sp} {k j:Nat} {p pos:Pos} (F:FnAt X.prog X.w X.K X.mg X.base x k [] sp) (hr:Room j X.A) (hj:k<=j) (hg:Gl X x)
 (hdb:(x == ("__debug__":Str))=false:=by decide):PE X (.Call (.Name x p) [] [] pos) (tCall sp [] E0 tNil):=by
 obtain ⟨f,fd,G,hm,hk,hb⟩:=F.ex
 exact pe_call0 G (hr.mono hj) hg hm hk hb .nil pass0 hdb
end L2
namespace K34
open PySem L2 PyProof.Rows
def nm:Nat->Str
 | 0=>"called"
 | 1=>"beside"
 | 2=>"joined"
 | _=>"changed"
structure Js where
 c0:Addr
 c1:Addr
 c2:Addr
 c3:Addr
def Js.c (J:Js):Nat->Addr
 | 0=>J.c0
 | 1=>J.c1
 | 2=>J.c2
 | _=>J.c3
def JAt (J:Js) (H:Hp) (p:Addr) (j:Nat):Prop:=∃ dx,H p=some (.ins (J.c j) dx [])
theorem JAt.same {J:Js} {H H':Hp} {p:Addr} {j:Nat} (h:JAt J H p j) (s:Same H H'):JAt J H' p j:=by
 obtain ⟨dx,h⟩:=h
 exact ⟨dx,s _ _ h⟩
theorem j4 {j:Nat} (h:j < 4):j=0\/j=1\/j=2\/j=3:=by omega
def spC (v:V):Sp:=fun vs H Q _=>(∃ a,vs=[.ref a])/\Q v H
structure JHas (P:Program) (w:World) (K:PySem.W.Frag) (mg:Str->Option Value) (base:Heap) (J:Js):Prop where
 n0:New0 K mg "Called" J.c0
 n1:New0 K mg "Beside" J.c1
 n2:New0 K mg "Joined" J.c2
 n3:New0 K mg "Changed" J.c3
 word:∀ j,j < 4->MethD P w K mg base CX0 1 (J.c j) "word" ["self"] (spC (.str (nm j)))
def DW (J:Js):Addr->Sp->Prop:=fun C sp=>∃ j,j < 4/\C=J.c j/\sp=spC (.str (nm j))
section
variable {P:Program} {w:World} {K:PySem.W.Frag} {mg:Str->Option Value} {base:Heap} {J:Js}
theorem JHas.hDW (D:JHas P w K mg base J):∀ C sp,DW J C sp->MethD P w K mg base CX0 1 C "word" ["self"] sp:=by
 rintro C sp ⟨j,hj,rfl,rfl⟩
 exact D.word j hj
theorem new_same {H:Hp} {C x dx:Addr} (hx:H x=none) (hd:H dx=none):Same H (upd (upd H dx (.own x)) x (.ins C dx [])):=fun b o e=>by rw [Aj (Ah e hx),Aj (Ah e hd)]; exact e
abbrev Eg:Stmt:=D4 (top 27) 0
theorem scCalled_word:Ao ["self"] ["self"] (Af Eg):=by trivial
theorem ok_Called_word {f:Addr} {fd:FuncData} (F:Fun K "word" "Called.word" Eg f fd):FnOk P w K mg base CX0 1 f fd ["self"] (spC (.str (nm 0))):=by
 refine F.ok scCalled_word (fun vs H Q E h=>?_) (fun cdv A outer s H vs Q E hr h=>?_)
 ·obtain ⟨⟨a,rfl⟩,_⟩:=h
  rfl
 ·obtain ⟨⟨a,rfl⟩,q⟩:=h
  refine ⟨_,(Ad (Ap Au)),?_⟩
  exact q
abbrev Eh:Stmt:=D4 (top 28) 0
theorem scBeside_word:Ao ["self"] ["self"] (Af Eh):=by trivial
theorem ok_Beside_word {f:Addr} {fd:FuncData} (F:Fun K "word" "Beside.word" Eh f fd):FnOk P w K mg base CX0 1 f fd ["self"] (spC (.str (nm 1))):=by
 refine F.ok scBeside_word (fun vs H Q E h=>?_) (fun cdv A outer s H vs Q E hr h=>?_)
 ·obtain ⟨⟨a,rfl⟩,_⟩:=h
  rfl
 ·obtain ⟨⟨a,rfl⟩,q⟩:=h
  refine ⟨_,(Ad (Ap Au)),?_⟩
  exact q
abbrev Ef:Stmt:=D4 (top 29) 0
theorem scJoined_word:Ao ["self"] ["self"] (Af Ef):=by trivial
theorem ok_Joined_word {f:Addr} {fd:FuncData} (F:Fun K "word" "Joined.word" Ef f fd):FnOk P w K mg base CX0 1 f fd ["self"] (spC (.str (nm 2))):=by
 refine F.ok scJoined_word (fun vs H Q E h=>?_) (fun cdv A outer s H vs Q E hr h=>?_)
 ·obtain ⟨⟨a,rfl⟩,_⟩:=h
  rfl
 ·obtain ⟨⟨a,rfl⟩,q⟩:=h
  refine ⟨_,(Ad (Ap Au)),?_⟩
  exact q
abbrev Dp:Stmt:=D4 (top 30) 0
theorem scChanged_word:Ao ["self"] ["self"] (Af Dp):=by trivial
theorem ok_Changed_word {f:Addr} {fd:FuncData} (F:Fun K "word" "Changed.word" Dp f fd):FnOk P w K mg base CX0 1 f fd ["self"] (spC (.str (nm 3))):=by
 refine F.ok scChanged_word (fun vs H Q E h=>?_) (fun cdv A outer s H vs Q E hr h=>?_)
 ·obtain ⟨⟨a,rfl⟩,_⟩:=h
  rfl
 ·obtain ⟨⟨a,rfl⟩,q⟩:=h
  refine ⟨_,(Ad (Ap Au)),?_⟩
  exact q
def spAll (J:Js):Sp:=fun vs H Q _=>vs=[]/\∀ (l p0 p1 p2 p3:Addr) (H':Hp),Same H H'->H' l=some (.lst [.ref p0,.ref p1,.ref p2,.ref p3])->JAt J H' p0 0->JAt J H' p1 1->JAt J H' p2 2->JAt J H' p3 3->Q (.ref l) H'
abbrev sall_joins:Stmt:=top 31
theorem scall_joins:Ao [] [] (Af sall_joins):=by trivial
theorem ok_all (D:JHas P w K mg base J) (F:Al K mg "all_joins" sall_joins []):FnAt P w K mg base "all_joins" 1 [] (spAll J):=by
 refine F.at scall_joins (fun vs H Q E h=>?_) (fun f cdv A outer s H vs Q E hr h=>?_)
 ·obtain ⟨rfl,_⟩:=h
  rfl
 ·obtain ⟨rfl,q⟩:=h
  refine ⟨_,(Ad (Ap (Bf (Aa (pe_new0 D.n0 rfl) (Aa (pe_new0 D.n1 rfl) (Aa (pe_new0 D.n2 rfl) (Aa (pe_new0 D.n3 rfl) Ab))))))),?_⟩
  intro p0 d0 x0 y0 _
  have s0:=new_same (C:=J.c0) x0 y0
  have a0:upd (upd H d0 (.own p0)) p0 (.ins J.c0 d0 []) p0=some (.ins J.c0 d0 []):=Ag
  generalize upd (upd H d0 (.own p0)) p0 (.ins J.c0 d0 [])=H0 at s0 a0 ⊢
  replace a0:JAt J H0 p0 0:=⟨_,a0⟩
  intro p1 d1 x1 y1 _
  have s1:=new_same (C:=J.c1) x1 y1
  have a1:upd (upd H0 d1 (.own p1)) p1 (.ins J.c1 d1 []) p1=some (.ins J.c1 d1 []):=Ag
  generalize upd (upd H0 d1 (.own p1)) p1 (.ins J.c1 d1 [])=H1 at s1 a1 ⊢
  replace a1:JAt J H1 p1 1:=⟨_,a1⟩
  intro p2 d2 x2 y2 _
  have s2:=new_same (C:=J.c2) x2 y2
  have a2:upd (upd H1 d2 (.own p2)) p2 (.ins J.c2 d2 []) p2=some (.ins J.c2 d2 []):=Ag
  generalize upd (upd H1 d2 (.own p2)) p2 (.ins J.c2 d2 [])=H2 at s2 a2 ⊢
  replace a2:JAt J H2 p2 2:=⟨_,a2⟩
  intro p3 d3 x3 y3 _
  have s3:=new_same (C:=J.c3) x3 y3
  have a3:upd (upd H2 d3 (.own p3)) p3 (.ins J.c3 d3 []) p3=some (.ins J.c3 d3 []):=Ag
  generalize upd (upd H2 d3 (.own p3)) p3 (.ins J.c3 d3 [])=H3 at s3 a3 ⊢
  replace a3:JAt J H3 p3 3:=⟨_,a3⟩
  refine ⟨(by exact Z4),fun l hl=>?_⟩
  have s4:=Same.new (o:=.lst [.ref p0,.ref p1,.ref p2,.ref p3]) hl
  have t3:=s3.trans s4
  have t2:=s2.trans t3
  have t1:=s1.trans t2
  exact q l p0 p1 p2 p3 _ (s0.trans t1) Ag (a0.same t1) (a1.same t2) (a2.same t3) (a3.same s4)
theorem at4 {J:Js} {H1:Hp} {p0 p1 p2 p3:Addr} (a0:JAt J H1 p0 0) (a1:JAt J H1 p1 1) (a2:JAt J H1 p2 2) (a3:JAt J H1 p3 3):∀ i y,([V.ref p0,V.ref p1,V.ref p2,V.ref p3]:List V)[i]?=some y->∃ p dx,i < 4/\y=V.ref p/\H1 p=some (.ins (J.c i) dx []):=by
 intro i y e
 match i,e with
 | 0,e=>cases e; obtain ⟨dx,h⟩:=a0; exact ⟨_,dx,by decide,rfl,h⟩
 | 1,e=>cases e; obtain ⟨dx,h⟩:=a1; exact ⟨_,dx,by decide,rfl,h⟩
 | 2,e=>cases e; obtain ⟨dx,h⟩:=a2; exact ⟨_,dx,by decide,rfl,h⟩
 | 3,e=>cases e; obtain ⟨dx,h⟩:=a3; exact ⟨_,dx,by decide,rfl,h⟩
 | n + 4,e=>simp at e
def spJO (J:Js):Sp:=fun vs H Q _=>∃ j:Nat,j < 4/\vs=[.str (nm j)]/\∀ (p:Addr) (H':Hp),Same H H'->JAt J H' p j->Q (.ref p) H'
abbrev sjoin_of:Stmt:=top 33
theorem scjoin_of:Ao ["word","join"] ["word"] (Af sjoin_of):=by trivial
theorem nm_eq {i j:Nat} (hi:i < 4) (hj:j < 4):decide (V.str (nm i)=V.str (nm j))=decide (i=j):=by
 rcases j4 hi with rfl | rfl | rfl | rfl <;> rcases j4 hj with rfl | rfl | rfl | rfl <;> decide +kernel
theorem ok_join_of (D:JHas P w K mg base J) (F_all_joins:FnAt P w K mg base "all_joins" 1 [] (spAll J)) (F:Al K mg "join_of" sjoin_of ["word"]):FnAt P w K mg base "join_of" 2 ["word"] (spJO J):=by
 refine F.at scjoin_of (fun vs H Q E h=>?_) (fun f cdv A outer s H vs Q E hr h=>?_)
 ·obtain ⟨j,_,rfl,_⟩:=h
  rfl
 ·obtain ⟨j,hj,rfl,q⟩:=h
  refine ⟨_,(Ac (C6 PassesOwn.never rfl (Bn (pe_fn0 F_all_joins hr (by decide) rfl)) (Aw (i:=1) scjoin_of.nd rfl (by trivial)) (Ad (A5 (Av El (pe_methD (D:=DW J) (pv 1) D.hDW (hr.mono (by decide)) pass0) (pv 0) (A1 _)) (Ad (Ap (pv 1))) Am)))
   (Ad A4)),?_⟩
  refine ⟨rfl,fun l p0 p1 p2 p3 H1 s1 el a0 a1 a2 a3=>?_⟩
  refine ⟨l,rfl,⟨_,SqL.of el⟩,for_list (K:=K) (a:=l) (xs:=[V.ref p0,V.ref p1,V.ref p2,V.ref p3]) (fun i σ H'=>∃ u:Option V,σ=[some (.str (nm j)),u]/\H'=H1/\i<=j) ⟨_,rfl,rfl,Nat.zero_le _⟩ (fun i σ H' _ ⟨_,_,e,_⟩=>by rw [e]; exact SqL.of el) ?_ ?_⟩
  ·rintro i y σ H' hi ⟨u,rfl,rfl,hij⟩
   obtain ⟨p,dx,h4,rfl,hp⟩:=at4 a0 a1 a2 a3 i y hi
   refine ⟨_,rfl,p,J.c i,dx,[],spC (.str (nm i)),rfl,hp,rfl,⟨i,h4,rfl,rfl⟩,⟨p,rfl⟩,_,rfl,rfl,_,rfl,?_⟩
   show if decide (V.str (nm i)=V.str (nm j))=true then _ else _
   rw [nm_eq h4 hj]
   refine ite2 (fun e=>?_) (fun e=>?_)
   ·have e:i=j:=of_decide_eq_true e
    subst e
    exact ⟨_,rfl,q p _ s1 ⟨dx,hp⟩⟩
   ·have e:¬ i=j:=fun z=>e (decide_eq_true z)
    exact ⟨_,rfl,rfl,by omega⟩
  ·rintro σ H' ⟨u,rfl,rfl,hij⟩
   have:(4:Nat)<=j:=hij
   omega
end
end K34
namespace K34
open PySem L2 PyProof.Rows PySem.SeqAt
def A2 {α β:Type} (R:α->β->Prop) (xs:List α) (ys:List β):Prop:=xs.length=ys.length/\∀ (i:Nat) (x:α) (y:β),xs[i]?=some x->ys[i]?=some y->R x y
section
variable {α β γ δ:Type} {R S:α->β->Prop}
theorem A2.nil:A2 R [] []:=⟨rfl,fun i x y h=>by simp at h⟩
theorem A2.imp {xs:List α} {ys:List β} (h:A2 R xs ys) (f:∀ x y,R x y->S x y):A2 S xs ys:=⟨h.1,fun i x y e1 e2=>f _ _ (h.2 i x y e1 e2)⟩
theorem A2.cons {x:α} {y:β} {xs:List α} {ys:List β} (r:R x y) (h:A2 R xs ys):A2 R (x :: xs) (y :: ys):=by
 refine ⟨by simp [h.1],fun i a b e1 e2=>?_⟩
 cases i with
 | zero=>simp only [List.getElem?_cons_zero,Option.some.injEq] at e1 e2; subst e1 e2; exact r
 | succ i=>simp only [List.getElem?_cons_succ] at e1 e2; exact h.2 i a b e1 e2
theorem A2.inv {x:α} {y:β} {xs:List α} {ys:List β} (h:A2 R (x :: xs) (y :: ys)):R x y/\A2 R xs ys:=by
 refine ⟨h.2 0 x y rfl rfl,by have:=h.1; simp at this; exact this,fun i a b e1 e2=>h.2 (i + 1) a b (by simpa using e1) (by simpa using e2)⟩
theorem A2.app {xs xs':List α} {ys ys':List β} (h:A2 R xs ys) (h':A2 R xs' ys'):A2 R (xs ++ xs') (ys ++ ys'):=by
 induction xs generalizing ys with
 | nil=>
   have:ys=[]:=by have:=h.1; simp at this; exact List.length_eq_zero_iff.mp this.symm
   subst this
   exact h'
 | cons x xs ih=>
   cases ys with
   | nil=>have:=h.1; simp at this
   | cons y ys=>exact (h.inv.2 |> ih).cons h.inv.1
theorem A2.one {x:α} {y:β} (r:R x y):A2 R [x] [y]:=A2.nil.cons r
theorem A2.at {xs:List α} {ys:List β} {i:Nat} {x:α} (h:A2 R xs ys) (e:xs[i]?=some x):∃ y,ys[i]?=some y/\R x y:=by
 have hi:=(List.getElem?_eq_some_iff.mp e).1
 have hj:i < ys.length:=by rw [← h.1]; exact hi
 exact ⟨ys[i],List.getElem?_eq_getElem hj,h.2 i x _ e (List.getElem?_eq_getElem hj)⟩
theorem A2.at' {xs:List α} {ys:List β} {i:Nat} {y:β} (h:A2 R xs ys) (e:ys[i]?=some y):∃ x,xs[i]?=some x/\R x y:=by
 have hi:=(List.getElem?_eq_some_iff.mp e).1
 have hj:i < xs.length:=by rw [h.1]; exact hi
 exact ⟨xs[i],List.getElem?_eq_getElem hj,h.2 i _ y (List.getElem?_eq_getElem hj) e⟩
end
theorem A6 {α:Type} {xs:List α} {i:Nat} {x:α} (h:xs[i]?=some x):xs.take (i + 1)=xs.take i ++ [x]:=by
 obtain ⟨hi,e⟩:=List.getElem?_eq_some_iff.mp h
 rw [List.take_succ_eq_append_getElem hi,e]
inductive Fo where
 | nil
 | cons (j:Nat) (n:Str) (o:List (Str × Nat)) (ks:Fo) (r:Fo)
structure Nd where
 n:Str
 o:List (Str × Nat)
 ks:Fo
def Fo.ht:Fo->Nat
 | .nil=>0
 | .cons _ _ _ ks r=>max (ks.ht + 1) r.ht
def Fo.size:Fo->Nat
 | .nil=>0
 | .cons _ _ _ ks r=>ks.size + 1 + r.size
def Fo.items:Fo->List (Nat × Nd)
 | .nil=>[]
 | .cons j n o ks r=>(j,⟨n,o,ks⟩) :: r.items
abbrev KeyR (H:Hp) (p:Addr) (k:Str × Nat):Prop:=H p=some (.tup [.str k.1,.int k.2])
structure GoodO (o:List (Str × Nat)):Prop where
 l2:o.length<=2
 nd:o.Nodup
 ok:∀ k ∈ o,Ak k.1=true/\k.2 < 100
def OfAt (H:Hp) (po:Addr) (o:List (Str × Nat)):Prop:=∃ ps:List Addr,H po=some (.tup (ps.map V.ref))/\A2 (KeyR H) ps o/\GoodO o
abbrev pF (n:Str) (po pb:Addr):List (Str × V):=putF "beneath" (.ref pb) (putF "offers" (.ref po) (putF "name" (.str n) []))
theorem Dk {n:Str} {po pb:Addr}:(pF n po pb).lookup ("name":Str)=some (.str n):=by repeat (first | rw [Bq,if_pos rfl] | rw [Bq,if_neg (by decide +kernel)])
theorem pF_offers {n:Str} {po pb:Addr}:(pF n po pb).lookup ("offers":Str)=some (.ref po):=by repeat (first | rw [Bq,if_pos rfl] | rw [Bq,if_neg (by decide +kernel)])
theorem pF_beneath {n:Str} {po pb:Addr}:(pF n po pb).lookup ("beneath":Str)=some (.ref pb):=by repeat (first | rw [Bq,if_pos rfl] | rw [Bq,if_neg (by decide +kernel)])
def FAt (C:Addr) (H:Hp):Fo->List V->Prop
 | .nil,its=>its=[]
 | .cons j n o ks r,its=>∃ (p a dx po pb:Addr) (kt tl:List V),its=.ref p :: tl/\H p=some (.tup [.str (nm j),.ref a])/\j < 4/\Ak n=true/\H a=some (.ins C dx (pF n po pb))/\OfAt H po o/\H pb=some (.tup kt)/\FAt C H ks kt/\FAt C H r tl
def PAt (C:Addr) (H:Hp) (a:Addr) (d:Nd):Prop:=∃ (dx po pb:Addr) (kt:List V),H a=some (.ins C dx (pF d.n po pb))/\Ak d.n=true/\OfAt H po d.o/\H pb=some (.tup kt)/\FAt C H d.ks kt
def JPAt (C:Addr) (H:Hp) (v:V) (x:Nat × Nd):Prop:=∃ p a,v=.ref p/\H p=some (.tup [.str (nm x.1),.ref a])/\x.1 < 4/\PAt C H a x.2
theorem FAt.items {C:Addr} {H:Hp}:∀ {f:Fo} {its:List V},FAt C H f its->A2 (JPAt C H) its f.items
 | .nil,its,h=>by cases h; exact A2.nil
 | .cons j n o ks r,its,h=>by
   obtain ⟨p,a,dx,po,pb,kt,tl,rfl,h1,h2,h3,h4,h5,h6,h7,h8⟩:=h
   exact h8.items.cons ⟨p,a,rfl,h1,h2,dx,po,pb,kt,h4,h3,h5,h6,h7⟩
theorem FAt.of {C:Addr} {H:Hp}:∀ {f:Fo} {its:List V},A2 (JPAt C H) its f.items->FAt C H f its
 | .nil,its,h=>List.length_eq_zero_iff.mp h.1
 | .cons j n o ks r,[],h=>by have:=h.1; simp [Fo.items] at this
 | .cons j n o ks r,v :: tl,h=>by
   obtain ⟨⟨p,a,rfl,h1,h2,dx,po,pb,kt,h4,h3,h5,h6,h7⟩,t⟩:=A2.inv h
   exact ⟨p,a,dx,po,pb,kt,tl,rfl,h1,h2,h3,h4,h5,h6,h7,FAt.of t⟩
def TpIn (H H':Hp):Prop:=∀ a o,H a=some o->((∃ xs,o=.tup xs)\/(∃ C dx fs,o=.ins C dx fs))->H' a=some o
theorem TpIn.of {H H':Hp} (s:Same H H'):TpIn H H':=fun a o e _=>s a o e
theorem TpIn.tup {H H':Hp} (t:TpIn H H') {a:Addr} {xs:List V} (h:H a=some (.tup xs)):H' a=some (.tup xs):=t _ _ h (.inl ⟨_,rfl⟩)
theorem TpIn.ins {H H':Hp} (t:TpIn H H') {a C dx:Addr} {fs:List (Str × V)} (h:H a=some (.ins C dx fs)):H' a=some (.ins C dx fs):=t _ _ h (.inr ⟨_,_,_,rfl⟩)
theorem TpIn.upd {H:Hp} {l:Addr} {xs:List V} {o:HO} (h:H l=some (.lst xs)):TpIn H (upd H l o):=fun a ob e k=>by
 rw [Aj]
 ·exact e
 ·rintro rfl
  rw [h] at e
  cases e
  rcases k with ⟨_,z⟩ | ⟨_,_,_,z⟩ <;> cases z
theorem OfAt.t {H H':Hp} {po:Addr} {o:List (Str × Nat)} (h:OfAt H po o) (t:TpIn H H'):OfAt H' po o:=by
 obtain ⟨ps,h1,h2,h3⟩:=h
 exact ⟨ps,t.tup h1,h2.imp fun p k e=>t.tup e,h3⟩
theorem FAt.t {C:Addr} {H H':Hp} (t:TpIn H H'):∀ {f:Fo} {its:List V},FAt C H f its->FAt C H' f its
 | .nil,its,h=>h
 | .cons j n o ks r,its,h=>by
   obtain ⟨p,a,dx,po,pb,kt,tl,rfl,h1,h2,h3,h4,h5,h6,h7,h8⟩:=h
   exact ⟨p,a,dx,po,pb,kt,tl,rfl,t.tup h1,h2,h3,t.ins h4,h5.t t,t.tup h6,h7.t t,h8.t t⟩
theorem PAt.t {C:Addr} {H H':Hp} {a:Addr} {d:Nd} (h:PAt C H a d) (t:TpIn H H'):PAt C H' a d:=by
 obtain ⟨dx,po,pb,kt,h1,h2,h3,h4,h5⟩:=h
 exact ⟨dx,po,pb,kt,t.ins h1,h2,h3.t t,t.tup h4,h5.t t⟩
theorem PAt.same {C:Addr} {H H':Hp} {a:Addr} {d:Nd} (h:PAt C H a d) (s:Same H H'):PAt C H' a d:=h.t (.of s)
theorem JPAt.t {C:Addr} {H H':Hp} {v:V} {x:Nat × Nd} (h:JPAt C H v x) (t:TpIn H H'):JPAt C H' v x:=by
 obtain ⟨p,a,rfl,h1,h2,h3⟩:=h
 exact ⟨p,a,rfl,t.tup h1,h2,h3.t t⟩
structure PKit (K:PySem.W.Frag) (C:Addr):Prop where
 cl:Cls K C
 name:NoAttr K C "name"
 offers:NoAttr K C "offers"
 beneath:NoAttr K C "beneath"
 ha:PySem.W.findIn K (.ref C) "__class__"=some (some (.builtin "object.__class__"))
 hn:PySem.W.specialIn K (.builtin "object.__class__") "__get__"=some (some (.builtin "getset_descriptor.__get__"))
 htk:PySem.W.takesIn K (.builtin "object.__class__")=some true
 hm:PySem.W.mroIn K C (.type "object")=some true
 kC:PySem.W.kitOne K (.ref C) (.ref C)=some true
theorem PKit.ty {K:PySem.W.Frag} {C a dx:Addr} {fs:List (Str × V)} {H:Hp} (i:PKit K C) (e:H a=some (.ins C dx fs)):TyOf K H (.ref a) (.ref C):=.ins e i.cl i.ha i.hn i.htk i.hm
section
variable {P:Program} {w:World} {K:PySem.W.Frag} {mg:Str->Option Value} {base:Heap} {C:Addr}
theorem refs_keys {H:Hp}:∀ {ps:List Addr} {o:List (Str × Nat)},A2 (KeyR H) ps o->∃ xs:List (Addr × List Key),xs.map (fun x=>V.ref x.1)=ps.map V.ref/\xs.map (·.2)=o.map (fun k=>[Sum.inr k.1,Sum.inl (k.2:Int)])/\(∀ x ∈ xs,H x.1=some (.tup (x.2.map kV)))
 | [],[],_=>⟨[],rfl,rfl,fun _ h=>by cases h⟩
 | [],_ :: _,h=>by have:=h.1; simp at this
 | _ :: _,[],h=>by have:=h.1; simp at this
 | p :: ps,k :: o,h=>by
   obtain ⟨e,t⟩:=A2.inv h
   obtain ⟨xs,h1,h2,h3⟩:=refs_keys t
   refine ⟨(p,[Sum.inr k.1,Sum.inl (k.2:Int)]) :: xs,by simp [h1],by simp [h2],fun x hx=>?_⟩
   rcases List.mem_cons.mp hx with rfl | hx
   ·exact e
   ·exact h3 x hx
theorem keys_nodup {o:List (Str × Nat)} (h:o.Nodup):(o.map (fun k=>([Sum.inr k.1,Sum.inl (k.2:Int)]:List Key))).Nodup:=by
 rw [List.Nodup,List.pairwise_map]
 refine List.Pairwise.imp ?_ h
 intro a b ne e
 apply ne
 simp only [List.cons.injEq,Sum.inr.injEq,Sum.inl.injEq,and_true] at e
 exact Prod.ext e.1 (by omega)
theorem Em {z:Str} (h:Ak z=true):z.length<=8:=by
 unfold Ak at h
 simp only [Bool.and_eq_true,decide_eq_true_eq] at h
 omega
theorem key_true {H:Hp} {p:Addr} {k:Str × Nat} (h:KeyR H p k) (g:Ak k.1=true/\k.2 < 100):keyV H (.ref p)=true:=by
 show (match H p with | some (.tup [x,y])=>wordV x && numV y | _=>false)=true
 rw [h]
 show (Ak k.1 && decide ((0:Int)<=(k.2:Int)/\(k.2:Int)<=99))=true
 rw [g.1,Bool.true_and]
 exact decide_eq_true ⟨by omega,by have:=g.2; omega⟩
theorem key_args {H:Hp} {p:Addr} {k:Str × Nat} (h:KeyR H p k) (g:Ak k.1=true/\k.2 < 100):∀ a xs,V.ref p=.ref a->H a=some (.tup xs)->∀ y ∈ xs,Arg K H y/\Short y:=by
 intro a xs e h' y hy
 cases e
 rw [h] at h'
 cases h'
 simp only [List.mem_cons,List.not_mem_nil,or_false] at hy
 rcases hy with rfl | rfl
 ·exact ⟨⟨.str,.str _⟩,fun z e=>by cases e; have:=Em g.1; omega⟩
 ·exact ⟨⟨.int,.int _⟩,fun z e=>by cases e⟩
def spAO:Sp:=fun vs H Q _=>∃ (l:Addr) (ps:List Addr) (o:List (Str × Nat)),vs=[.ref l]/\H l=some (.lst (ps.map V.ref))/\A2 (KeyR H) ps o/\GoodO o/\∀ H',Same H H'->Q (.bl true) H'
abbrev B6:Stmt:=top 39
theorem scare_offers:Ao ["thing"] ["thing"] (Af B6):=by trivial
theorem ok_ao (T:Txt mg) (F_is_key:FnAt P w K mg base "is_key" 2 ["thing"] (spKey K)) (F:Al K mg "are_offers" B6 ["thing"]):FnAt P w K mg base "are_offers" 3 ["thing"] spAO:=by
 refine F.at scare_offers (fun vs H Q E h=>?_) (fun f cdv A outer s H vs Q E hr h=>?_)
 ·obtain ⟨l,ps,o,rfl,_⟩:=h
  rfl
 ·obtain ⟨l,ps,o,rfl,hl,hk,g,q⟩:=h
  refine ⟨_,(Ac (A5 (PW.pt (pw_or (Bl (Bw (Ai call_isLT rfl T.n_isinstance boot_isinstance (Aa (pv 0) (Aa (Bj (Aa (B3 (v:=.ty "list") rfl T.n_list boot_list rfl) (Aa (B3 (v:=.ty "tuple") rfl T.n_tuple boot_tuple rfl) Ab))) Ab))))) (Ei (Av Eu (Ai Aq rfl T.n_len boot_len (Aa (pv 0) Ab)) (Cp rfl T.g_MOST_OFFERS) (A1 _))))) (Ad (Ap pe_bl)) Am)
   (Ad (Ap (D1 (Ai (C4 rfl) rfl T.n_all boot_all (Aa (Bz (sc:=Af B6) (N0:=["thing"]) (xs:=["key"]) (ys:=[]) (js:=[]) (by trivial) rfl (Bn (pv 0)) (fun _ _ _ _=>(Aw (i:=0) (show (["key"]:List Str).Nodup by decide +kernel) rfl (by trivial))) (fun _ _ _ _=>B9) (fun _ _ _ _=>(Ay F_is_key hr (by decide) rfl (Aa (pv 0) Ab)))) Ab)) (pe_one (C1 El (pe_lenK hr.hd (hu64 hr) rfl T.n_len rfl T.n_set (pv 0)) (Ai Aq rfl T.n_len boot_len (Aa (pv 0) Ab)) (A1 _))))))),?_⟩
  have hs:sizeLine=16777216:=sizeLine_eq
  have hlen:=hk.1
  have g2:=g.l2
  refine ⟨_,rfl,(by exact Z2),fun tp htp=>?_⟩
  generalize hQ9:upd H tp (.tup [.ty "list",.ty "tuple"])=H1
  have s1:=Nw hQ9 htp
  have e1:=Ns hQ9
  have l1:=s1 _ _ hl
  refine ⟨l,_,tp,rfl,l1,SqT.of e1,_,rfl,iteF ?_⟩
  refine ⟨_,rfl,_,_,rfl,.inl ⟨_,SqL.of l1,rfl⟩,_,_,rfl,rfl,_,rfl,ite2 (fun h2=>?_) (fun _=>?_)⟩
  ·have h2:(((ps.map V.ref).length:Nat):Int) > (2:Int):=of_decide_eq_true h2
   rw [List.length_map] at h2
   omega
  refine ⟨_,rfl,l,rfl,⟨_,SqL.of l1⟩,Br (K:=K) (a:=l) (xs:=ps.map V.ref) (fun i ys H'=>ys=(List.replicate i true).map V.bl/\Same H H') ⟨rfl,s1⟩ (by rw [List.length_map]; omega) ?_ ?_ ?_ ?_⟩
  ·rintro i ys H' ⟨rfl,_⟩
   rw [List.length_map,List.length_replicate]; exact Nat.le_refl _
  ·rintro i ys H' _ ⟨_,s'⟩
   exact SqL.of (s' _ _ hl)
  ·rintro i x ys H' hx ⟨rfl,s'⟩
   rw [List.getElem?_map] at hx
   obtain ⟨p,hp,rfl⟩:=Option.map_eq_some_iff.mp hx
   obtain ⟨k,hk1,hk2⟩:=hk.at hp
   have gk:=g.ok k (List.mem_of_getElem? hk1)
   have hk2:=s' _ _ hk2
   refine ⟨_,rfl,.ref p,rfl,⟨.tup,.tup hk2⟩,key_args hk2 gk,fun H2 s2=>⟨?_,s'.trans s2⟩⟩
   rw [key_true hk2 gk,List.replicate_succ',List.map_append]
   rfl
  ·rintro ys H' ⟨rfl,s'⟩ l2 hl2
   generalize hQ9:upd H' l2 (.lst ((List.replicate (ps.map V.ref).length true).map V.bl))=H2
   have s2:=s'.trans (Nw hQ9 hl2)
   have e2:=Ns hQ9
   refine ⟨l2,_,rfl,SqL.of e2,?_⟩
   have al:(List.replicate (ps.map V.ref).length true).all id=true:=by simp
   rw [al]
   refine ⟨_,rfl,iteT ?_⟩
   obtain ⟨xs,h1,h2,h3⟩:=refs_keys hk
   have hxl:xs.length=ps.length:=by have:=congrArg List.length h1; simpa using this
   refine ⟨_,rfl,l,xs,rfl,by rw [h1]; exact SqL.of (s2 _ _ hl),by omega,by rw [h2]; exact keys_nodup g.nd,fun x hx=>s2 _ _ (h3 x hx),?_⟩
   refine ⟨_,rfl,_,_,rfl,.inl ⟨_,SqL.of (s2 _ _ hl),rfl⟩,rfl,?_⟩
   rw [List.length_map,hxl,decide_eq_true (rfl:V.int ((ps.length:Nat):Int)=V.int ((ps.length:Nat):Int))]
   exact q _ s2
def spAOT:Sp:=fun vs H Q _=>∃ l:Addr,vs=[.ref l]/\H l=some (.tup [])/\∀ H',Same H H'->Q (.bl true) H'
theorem ok_aoT (T:Txt mg) (F_is_key:FnAt P w K mg base "is_key" 2 ["thing"] (spKey K)) (F:Al K mg "are_offers" B6 ["thing"]):FnAt P w K mg base "are_offers" 3 ["thing"] spAOT:=by
 refine F.at scare_offers (fun vs H Q E h=>?_) (fun f cdv A outer s H vs Q E hr h=>?_)
 ·obtain ⟨l,rfl,_⟩:=h
  rfl
 ·obtain ⟨l,rfl,hl,q⟩:=h
  refine ⟨_,(Ac (A5 (PW.pt (pw_or (Bl (Bw (Ai call_isTT rfl T.n_isinstance boot_isinstance (Aa (pv 0) (Aa (Bj (Aa (B3 (v:=.ty "list") rfl T.n_list boot_list rfl) (Aa (B3 (v:=.ty "tuple") rfl T.n_tuple boot_tuple rfl) Ab))) Ab))))) (Ei (Av Eu (Ai Aq rfl T.n_len boot_len (Aa (pv 0) Ab)) (Cp rfl T.g_MOST_OFFERS) (A1 _))))) (Ad (Ap pe_bl)) Am)
   (Ad (Ap (D1 (Ai (C4 rfl) rfl T.n_all boot_all (Aa (Bz (sc:=Af B6) (N0:=["thing"]) (xs:=["key"]) (ys:=[]) (js:=[]) (by trivial) rfl (pi_tup (pv 0)) (fun _ _ _ _=>(Aw (i:=0) (show (["key"]:List Str).Nodup by decide +kernel) rfl (by trivial))) (fun _ _ _ _=>B9) (fun _ _ _ _=>(Ay F_is_key hr (by decide) rfl (Aa (pv 0) Ab)))) Ab)) (pe_one (C1 El (pe_lenKT hr.hd (hu64 hr) rfl T.n_len rfl T.n_set (pv 0)) (Ai Aq rfl T.n_len boot_len (Aa (pv 0) Ab)) (A1 _))))))),?_⟩
  refine ⟨_,rfl,(by exact Z2),fun tp htp=>?_⟩
  generalize hQ9:upd H tp (.tup [.ty "list",.ty "tuple"])=H1
  have s1:=Nw hQ9 htp
  have e1:=Ns hQ9
  have l1:=s1 _ _ hl
  refine ⟨l,_,tp,rfl,l1,SqT.of e1,_,rfl,iteF ?_⟩
  refine ⟨_,rfl,_,_,rfl,.inr ⟨_,SqT.of l1,rfl⟩,_,_,rfl,rfl,_,rfl,iteF ?_⟩
  refine ⟨_,rfl,l,rfl,⟨_,SqT.of l1⟩,comp_tup (K:=K) (a:=l) (xs:=[]) (fun i ys H'=>ys=[]/\H'=H1) ⟨rfl,rfl⟩ (Nat.zero_le _) ?_ ?_ ?_ ?_⟩
  ·rintro i ys H' ⟨rfl,_⟩
   exact Nat.zero_le _
  ·rintro i ys H' _ ⟨_,rfl⟩
   exact SqT.of l1
  ·rintro i x ys H' hx _
   simp at hx
  ·rintro ys H' ⟨rfl,rfl⟩ l2 hl2
   generalize hQ9:upd H' l2 (.lst [])=H2
   have s2:=s1.trans (Nw hQ9 hl2)
   have e2:=Ns hQ9
   refine ⟨l2,[],rfl,SqL.of e2,?_⟩
   refine ⟨_,rfl,iteT ?_⟩
   refine ⟨_,rfl,l,[],rfl,SqT.of (s2 _ _ hl),by decide,List.nodup_nil,(fun x hx=>by cases hx),?_⟩
   exact ⟨_,rfl,_,_,rfl,.inr ⟨_,SqT.of (s2 _ _ hl),rfl⟩,rfl,q _ s2⟩
def OfArg (H:Hp) (v:V) (o:List (Str × Nat)):Prop:=(v=.non/\o=[])\/(∃ (l:Addr) (ps:List Addr),v=.ref l/\H l=some (.lst (ps.map V.ref))/\A2 (KeyR H) ps o/\GoodO o)\/∃ l:Addr,v=.ref l/\H l=some (.tup [])/\o=[]
theorem OfArg.same {H H':Hp} {v:V} {o:List (Str × Nat)} (h:OfArg H v o) (s:Same H H'):OfArg H' v o:=by
 rcases h with h | ⟨l,ps,h1,h2,h3,h4⟩ | ⟨l,h1,h2,h3⟩
 ·exact .inl h
 ·exact .inr (.inl ⟨l,ps,h1,s _ _ h2,h3.imp fun _ _ e=>s _ _ e,h4⟩)
 ·exact .inr (.inr ⟨l,h1,s _ _ h2,h3⟩)
theorem goodNil:GoodO []:=⟨by decide,List.nodup_nil,fun k h=>by cases h⟩
def spKO:Sp:=fun vs H Q _=>∃ (v:V) (o:List (Str × Nat)),vs=[v]/\OfArg H v o/\∀ (po:Addr) (H':Hp),Same H H'->OfAt H' po o->Q (.ref po) H'
abbrev Dh:Stmt:=top 40
theorem sckept_offers:Ao ["offers"] ["offers"] (Af Dh):=by trivial
theorem ok_ko (T:Txt mg) (F_are_offers:FnAt P w K mg base "are_offers" 3 ["thing"] spAO) (F_aoT:FnAt P w K mg base "are_offers" 3 ["thing"] spAOT) (F:Al K mg "kept_offers" Dh ["offers"]):FnAt P w K mg base "kept_offers" 4 ["offers"] spKO:=by
 refine F.at sckept_offers (fun vs H Q E h=>?_) (fun f cdv A outer s H vs Q E hr h=>?_)
 ·obtain ⟨v,o,rfl,_⟩:=h
  rfl
 ·obtain ⟨v,o,rfl,⟨rfl,rfl⟩ | ⟨l,ps,rfl,hl,hk,g⟩ | ⟨l,rfl,hl,rfl⟩,q⟩:=h
  ·refine ⟨_,(Ac (A5 (pt_cmp (pc_isN (pv 0))) (Ad (Ap (Bj Ab))) Am)
    (Ac (A5 (Bl (Bw (Ay F_are_offers hr (by decide) rfl (Aa (pv 0) Ab)))) (Ad A4) Am)
    (Ad (Ap (Bm Bx rfl T.n_tuple boot_tuple (Aa (pv 0) Ab)))))),?_⟩
   refine ⟨_,rfl,_,rfl,iteT ⟨(by exact Z0),fun p hp=>q p _ (Same.new hp) ⟨[],Ag,A2.nil,goodNil⟩⟩⟩
  ·refine ⟨_,(Ac (A5 (pt_cmp (pc_isN (pv 0))) (Ad A4) Am)
    (Ac (A5 (Bl (Bw (Ay F_are_offers hr (by decide) rfl (Aa (pv 0) Ab)))) (Ad A4) Am)
    (Ad (Ap (Bm Bx rfl T.n_tuple boot_tuple (Aa (pv 0) Ab)))))),?_⟩
   refine ⟨_,rfl,_,rfl,iteF ⟨_,rfl,l,ps,o,rfl,hl,hk,g,fun H1 s1=>⟨_,rfl,iteF ?_⟩⟩⟩
   refine ⟨_,rfl,l,_,rfl,.inl ⟨SqL.of (s1 _ _ hl),fun p hp=>?_⟩⟩
   have s2:=s1.trans (Same.new (o:=.tup (ps.map V.ref)) hp)
   exact q p _ s2 ⟨ps,Ag,hk.imp fun p k e=>s2 _ _ e,g⟩
  ·refine ⟨_,(Ac (A5 (pt_cmp (pc_isN (pv 0))) (Ad A4) Am)
    (Ac (A5 (Bl (Bw (Ay F_aoT hr (by decide) rfl (Aa (pv 0) Ab)))) (Ad A4) Am)
    (Ad (Ap (Bm Bx rfl T.n_tuple boot_tuple (Aa (pv 0) Ab)))))),?_⟩
   refine ⟨_,rfl,_,rfl,iteF ⟨_,rfl,l,rfl,hl,fun H1 s1=>⟨_,rfl,iteF ?_⟩⟩⟩
   exact ⟨_,rfl,l,_,rfl,.inr ⟨SqT.of (s1 _ _ hl),q l _ s1 ⟨[],s1 _ _ hl,A2.nil,goodNil⟩⟩⟩
def spFew (m:Int):Sp:=fun vs H Q _=>∃ n:Int,vs=[.int n]/\n<=m/\Q .non H
abbrev B2:Stmt:=top 41
theorem Ed:Ao ["many"] ["many"] (Af B2):=by trivial
theorem ok_nfb (T:Txt mg) (F:Al K mg "need_few_beneath" B2 ["many"]):FnAt P w K mg base "need_few_beneath" 1 ["many"] (spFew 6):=by
 refine F.at Ed (fun vs H Q E h=>?_) (fun f cdv A outer s H vs Q E hr h=>?_)
 ·obtain ⟨n,rfl,_⟩:=h
  rfl
 ·obtain ⟨n,rfl,hn,q⟩:=h
  refine ⟨_,(Ad (A5 (Av Eu (pv 0) (Cp rfl T.g_MOST_BENEATH) (A1 _)) (Ad A4) Am)),?_⟩
  refine ⟨_,rfl,_,_,rfl,rfl,_,rfl,ite2 (fun h=>?_) (fun _=>q)⟩
  have h:n > (6:Int):=of_decide_eq_true h
  omega
abbrev Cb:Stmt:=top 42
theorem scneed_few_parts:Ao ["many"] ["many"] (Af Cb):=by trivial
theorem ok_nfp (T:Txt mg) (F:Al K mg "need_few_parts" Cb ["many"]):FnAt P w K mg base "need_few_parts" 1 ["many"] (spFew 30):=by
 refine F.at scneed_few_parts (fun vs H Q E h=>?_) (fun f cdv A outer s H vs Q E hr h=>?_)
 ·obtain ⟨n,rfl,_⟩:=h
  rfl
 ·obtain ⟨n,rfl,hn,q⟩:=h
  refine ⟨_,(Ad (A5 (Av Eu (pv 0) (Cp rfl T.g_MOST_PARTS) (A1 _)) (Ad A4) Am)),?_⟩
  refine ⟨_,rfl,_,_,rfl,rfl,_,rfl,ite2 (fun h=>?_) (fun _=>q)⟩
  have h:n > (30:Int):=of_decide_eq_true h
  omega
abbrev Cn:Stmt:=top 43
theorem scneed_not_deep:Ao ["deep"] ["deep"] (Af Cn):=by trivial
theorem ok_nnd (T:Txt mg) (F:Al K mg "need_not_deep" Cn ["deep"]):FnAt P w K mg base "need_not_deep" 1 ["deep"] (spFew 6):=by
 refine F.at scneed_not_deep (fun vs H Q E h=>?_) (fun f cdv A outer s H vs Q E hr h=>?_)
 ·obtain ⟨n,rfl,_⟩:=h
  rfl
 ·obtain ⟨n,rfl,hn,q⟩:=h
  refine ⟨_,(Ad (A5 (Av Eu (pv 0) (Cp rfl T.g_MOST_DEEP) (A1 _)) (Ad A4) Am)),?_⟩
  refine ⟨_,rfl,_,_,rfl,rfl,_,rfl,ite2 (fun h=>?_) (fun _=>q)⟩
  have h:n > (6:Int):=of_decide_eq_true h
  omega
def spJP (C:Addr):Sp:=fun vs H Q _=>∃ (v:V) (x:Nat × Nd),vs=[v]/\JPAt C H v x/\Q (.bl true) H
abbrev Cv:Stmt:=top 44
theorem scis_joined_part:Ao ["thing"] ["thing"] (Af Cv):=by trivial
theorem ok_jp (T:Txt mg) (kit:PKit K C) (mC:mg "Part"=some (.ref C)) (F:Al K mg "is_joined_part" Cv ["thing"]):FnAt P w K mg base "is_joined_part" 1 ["thing"] (spJP C):=by
 refine F.at scis_joined_part (fun vs H Q E h=>?_) (fun f cdv A outer s H vs Q E hr h=>?_)
 ·obtain ⟨v,x,rfl,_⟩:=h
  rfl
 ·obtain ⟨v,x,rfl,⟨p,a,rfl,hp,_,dx,po,pb,kt,ha,_⟩,q⟩:=h
  refine ⟨_,(Ad (Ap (D1 (Ai (D7 .tup (by simp)) rfl T.n_isinstance boot_isinstance (Aa (pv 0) (Aa (B3 (v:=.ty "tuple") rfl T.n_tuple boot_tuple rfl) Ab))) (D1 (C1 El (Ai Aq rfl T.n_len boot_len (Aa (pv 0) Ab)) Ae (A1 _)) (pe_one (Ai call_isinst rfl T.n_isinstance boot_isinstance (Aa (A0 C2 (pv 0) Ae (fun _ _=>rfl)) (Aa (pe_glob (v:=.ref C) rfl mC rfl) Ab)))))))),?_⟩
  refine ⟨_,rfl,.ref p,.tup,rfl,.tup hp,_,rfl,iteT ?_⟩
  refine ⟨_,rfl,_,_,rfl,.inr ⟨_,SqT.of hp,rfl⟩,rfl,_,rfl,iteT ?_⟩
  exact ⟨_,rfl,p,_,_,_,rfl,rfl,SqT.of hp,rfl,_,_,.ref C,.ref C,true,rfl,rfl,kit.ty ha,kit.kC,q⟩
def BnArg (C:Addr) (H:Hp) (v:V) (f:Fo) (its:List V):Prop:=(v=.non/\f=.nil/\its=[])\/∃ l:Addr,v=.ref l/\H l=some (.lst its)/\FAt C H f its/\its.length<=6
def spKB (C:Addr):Sp:=fun vs H Q _=>∃ (v:V) (f:Fo) (its:List V),vs=[v]/\BnArg C H v f its/\∀ (pb:Addr) (H':Hp),Same H H'->H' pb=some (.tup its)->Q (.ref pb) H'
abbrev Bv:Stmt:=top 45
theorem Dd:Ao ["beneath","row"] ["beneath"] (Af Bv):=by trivial
theorem ok_kb {J:Js} (T:Txt mg) (F_jp:FnAt P w K mg base "is_joined_part" 1 ["thing"] (spJP C)) (F_few:FnAt P w K mg base "need_few_beneath" 1 ["many"] (spFew 6)) (F_join_of:FnAt P w K mg base "join_of" 2 ["word"] (spJO J)) (F:Al K mg "kept_beneath" Bv ["beneath"]):FnAt P w K mg base "kept_beneath" 3 ["beneath"] (spKB C):=by
 refine F.at Dd (fun vs H Q E h=>?_) (fun f cdv A outer s H vs Q E hr h=>?_)
 ·obtain ⟨v,f,its,rfl,_⟩:=h
  rfl
 ·obtain ⟨v,fo,its,rfl,⟨rfl,rfl,rfl⟩ | ⟨l,rfl,hl,hf,h6⟩,q⟩:=h
  ·refine ⟨_,(Ac (A5 (pt_cmp (pc_isN (pv 0))) (Ad (Ap (Bj Ab))) Am)
    (Ac (A5 (PW.pt (pw_or (Bl (Bw (Ai call_isLT rfl T.n_isinstance boot_isinstance (Aa (pv 0) (Aa (Bj (Aa (B3 (v:=.ty "list") rfl T.n_list boot_list rfl) (Aa (B3 (v:=.ty "tuple") rfl T.n_tuple boot_tuple rfl) Ab))) Ab))))) (Ei (Bl (Bw (Ai (C4 rfl) rfl T.n_all boot_all (Aa (Bz (sc:=Af Bv) (N0:=["beneath","row"]) (xs:=["thing"]) (ys:=[]) (js:=[]) (by trivial) rfl (Bn (pv 0)) (fun _ _ _ _=>(Aw (i:=0) (show (["thing"]:List Str).Nodup by decide +kernel) rfl (by trivial))) (fun _ _ _ _=>B9) (fun _ _ _ _=>(Ay F_jp hr (by decide) rfl (Aa (pv 0) Ab)))) Ab))))))) (Ad A4) Am)
    (Ac (Bb (Ay F_few hr (by decide) rfl (Aa (Ai Aq rfl T.n_len boot_len (Aa (pv 0) Ab)) Ab)))
    (Ac (C6 PassesOwn.never rfl (Bn (pv 0)) (Aw (i:=1) Dd.nd rfl (by trivial)) (Ad (Bb (Ay F_join_of hr (by decide) rfl (Aa (A0 C2 (pv 1) Ae (fun _ _=>rfl)) Ab)))))
    (Ad (Ap (Bm Bx rfl T.n_tuple boot_tuple (Aa (pv 0) Ab)))))))),?_⟩
   exact ⟨_,rfl,_,rfl,iteT ⟨(by exact Z0),fun p hp=>q p _ (Same.new hp) Ag⟩⟩
  refine ⟨_,(Ac (A5 (pt_cmp (pc_isN (pv 0))) (Ad A4) Am)
   (Ac (A5 (PW.pt (pw_or (Bl (Bw (Ai call_isLT rfl T.n_isinstance boot_isinstance (Aa (pv 0) (Aa (Bj (Aa (B3 (v:=.ty "list") rfl T.n_list boot_list rfl) (Aa (B3 (v:=.ty "tuple") rfl T.n_tuple boot_tuple rfl) Ab))) Ab))))) (Ei (Bl (Bw (Ai (C4 rfl) rfl T.n_all boot_all (Aa (Bz (sc:=Af Bv) (N0:=["beneath","row"]) (xs:=["thing"]) (ys:=[]) (js:=[]) (by trivial) rfl (Bn (pv 0)) (fun _ _ _ _=>(Aw (i:=0) (show (["thing"]:List Str).Nodup by decide +kernel) rfl (by trivial))) (fun _ _ _ _=>B9) (fun _ _ _ _=>(Ay F_jp hr (by decide) rfl (Aa (pv 0) Ab)))) Ab))))))) (Ad A4) Am)
   (Ac (Bb (Ay F_few hr (by decide) rfl (Aa (Ai Aq rfl T.n_len boot_len (Aa (pv 0) Ab)) Ab)))
   (Ac (C6 PassesOwn.never rfl (Bn (pv 0)) (Aw (i:=1) Dd.nd rfl (by trivial)) (Ad (Bb (Ay F_join_of hr (by decide) rfl (Aa (A0 C2 (pv 1) Ae (fun _ _=>rfl)) Ab)))))
   (Ad (Ap (Bm Bx rfl T.n_tuple boot_tuple (Aa (pv 0) Ab)))))))),?_⟩
  have hs:sizeLine=16777216:=sizeLine_eq
  have hit:=hf.items
  refine ⟨_,rfl,_,rfl,iteF ?_⟩
  refine ⟨_,rfl,(by exact Z2),fun tp htp=>?_⟩
  generalize hQ9:upd H tp (.tup [.ty "list",.ty "tuple"])=H1
  have s1:=Nw hQ9 htp
  have e1:=Ns hQ9
  have l1:=s1 _ _ hl
  refine ⟨l,_,tp,rfl,l1,SqT.of e1,_,rfl,iteF ?_⟩
  refine ⟨_,rfl,l,rfl,⟨_,SqL.of l1⟩,Br (K:=K) (a:=l) (xs:=its) (fun i ys H'=>ys=(List.replicate i true).map V.bl/\H'=H1) ⟨rfl,rfl⟩ (by omega) ?_ ?_ ?_ ?_⟩
  ·rintro i ys H' ⟨rfl,_⟩
   rw [List.length_map,List.length_replicate]; exact Nat.le_refl _
  ·rintro i ys H' _ ⟨_,rfl⟩
   exact SqL.of l1
  ·rintro i x ys H' hx ⟨rfl,rfl⟩
   obtain ⟨y,hy1,hy2⟩:=hit.at hx
   refine ⟨_,rfl,x,y,rfl,hy2.t (.of s1),?_,rfl⟩
   rw [List.replicate_succ',List.map_append]
   rfl
  ·rintro ys H' ⟨rfl,rfl⟩ l2 hl2
   generalize hQ9:upd H' l2 (.lst ((List.replicate its.length true).map V.bl))=H2
   have s2:=s1.trans (Nw hQ9 hl2)
   have e2:=Ns hQ9
   refine ⟨l2,_,rfl,SqL.of e2,?_⟩
   have al:(List.replicate its.length true).all id=true:=by simp
   rw [al]
   refine ⟨_,rfl,iteF ?_⟩
   refine ⟨_,rfl,_,_,rfl,.inl ⟨_,SqL.of (s2 _ _ hl),rfl⟩,_,rfl,by show ((its.length:Nat):Int)<=6; omega,?_⟩
   refine ⟨_,rfl,l,rfl,⟨_,SqL.of (s2 _ _ hl)⟩,for_list (K:=K) (a:=l) (xs:=its) (fun i σ H'=>∃ u:Option V,σ=[some (.ref l),u]/\Same H H') ⟨_,rfl,s2⟩ (fun i σ H' _ ⟨_,_,s'⟩=>SqL.of (s' _ _ hl)) ?_ ?_⟩
   ·rintro i x σ H3 hx ⟨u,rfl,s3⟩
    obtain ⟨y,hy1,p,a,rfl,hp,h4,_⟩:=hit.at hx
    refine ⟨_,rfl,p,_,_,_,rfl,rfl,SqT.of (s3 _ _ hp),rfl,y.1,h4,rfl,fun p2 H4 s4 _=>?_⟩
    exact ⟨_,rfl,s3.trans s4⟩
   ·rintro σ H3 ⟨u,rfl,s3⟩
    refine ⟨_,rfl,l,_,rfl,.inl ⟨SqL.of (s3 _ _ hl),fun p hp=>?_⟩⟩
    exact q p _ (s3.trans (Same.new hp)) Ag
end
end K34
namespace K34
open PySem L2 PyProof.Rows PySem.SeqAt
def walkF:Fo->List (List (Nat × Str) × Nd)
 | .nil=>[]
 | .cons j n o ks r=>(([],⟨n,o,ks⟩) :: walkF ks).map (fun x=>((j,n) :: x.1,x.2)) ++ walkF r
def Ct (d:Nd):List (List (Nat × Str) × Nd):=([],d) :: walkF d.ks
def wUp (x:Nat × Nd) (y:List (Nat × Str) × Nd):List (Nat × Str) × Nd:=((x.1,x.2.n) :: y.1,y.2)
def wStep (x:Nat × Nd):List (List (Nat × Str) × Nd):=(Ct x.2).map (wUp x)
theorem walkF_items:∀ f:Fo,walkF f=(f.items.map wStep).flatten
 | .nil=>rfl
 | .cons j n o ks r=>by
   show _=wStep _ ++ (r.items.map wStep).flatten
   rw [← walkF_items r]
   rfl
theorem walkF_len:∀ f:Fo,(walkF f).length=f.size
 | .nil=>rfl
 | .cons j n o ks r=>by
   rw [walkF,List.length_append,List.length_map,List.length_cons,walkF_len ks,walkF_len r,Fo.size]
theorem Ca (d:Nd):(Ct d).length=d.ks.size + 1:=by rw [Ct,List.length_cons,walkF_len]
theorem items_ht:∀ {f:Fo} {x:Nat × Nd},x ∈ f.items->x.2.ks.ht < f.ht/\x.2.ks.size < f.size
 | .nil,x,h=>by cases h
 | .cons j n o ks r,x,h=>by
   rw [Fo.ht,Fo.size]
   rcases List.mem_cons.mp h with rfl | h
   ·dsimp only; omega
   ·have:=items_ht h; omega
theorem road_le:∀ {f:Fo} {y:List (Nat × Str) × Nd},y ∈ walkF f->y.1.length<=f.ht
 | .nil,y,h=>by cases h
 | .cons j n o ks r,y,h=>by
   rw [Fo.ht]
   rcases List.mem_append.mp h with h | h
   ·obtain ⟨z,hz,rfl⟩:=List.mem_map.mp h
    rcases List.mem_cons.mp hz with rfl | hz
    ·show 0 + 1<=_; omega
    ·have:=road_le hz
     show z.1.length + 1<=_
     omega
   ·have:=road_le h; omega
theorem ht_size:∀ f:Fo,f.ht<=f.size
 | .nil=>Nat.le_refl _
 | .cons j n o ks r=>by
   rw [Fo.ht,Fo.size]
   have:=ht_size ks
   have:=ht_size r
   omega
theorem roadP_le {d:Nd} {y:List (Nat × Str) × Nd} (h:y ∈ Ct d):y.1.length<=d.ks.ht:=by
 rcases List.mem_cons.mp h with rfl | h
 ·exact Nat.zero_le _
 ·exact road_le h
theorem road_max:∀ f:Fo,0 < f.ht->∃ y ∈ walkF f,y.1.length=f.ht
 | .nil,h=>by simp [Fo.ht] at h
 | .cons j n o ks r,h=>by
   rw [Fo.ht] at h ⊢
   by_cases e:ks.ht + 1<=r.ht
   ·obtain ⟨y,hy,e2⟩:=road_max r (by omega)
    exact ⟨y,List.mem_append_right _ hy,by omega⟩
   ·by_cases e0:ks.ht=0
    ·exact ⟨([(j,n)],⟨n,o,ks⟩),List.mem_append_left _ (List.mem_map.mpr ⟨_,List.mem_cons_self,rfl⟩),by show 1=_; omega⟩
    ·obtain ⟨y,hy,e2⟩:=road_max ks (by omega)
     exact ⟨((j,n) :: y.1,y.2),List.mem_append_left _ (List.mem_map.mpr ⟨_,List.mem_cons_of_mem _ hy,rfl⟩),by show y.1.length + 1=_; omega⟩
theorem roadP_max (d:Nd):∃ y ∈ Ct d,y.1.length=d.ks.ht:=by
 by_cases e:d.ks.ht=0
 ·exact ⟨_,List.mem_cons_self,e.symm⟩
 ·obtain ⟨y,hy,e2⟩:=road_max d.ks (by omega)
  exact ⟨y,List.mem_cons_of_mem _ hy,e2⟩
def PrAt (H:Hp) (v:V) (x:Nat × Str):Prop:=x.1 < 4/\∃ p,v=.ref p/\H p=some (.tup [.str (nm x.1),.str x.2])
def RdAt (H:Hp) (l:Addr) (rd:List (Nat × Str)):Prop:=∃ vs,H l=some (.lst vs)/\A2 (PrAt H) vs rd
def WRow (N:Addr->Prop) (C:Addr) (H:Hp) (v:V) (x:List (Nat × Str) × Nd):Prop:=∃ p l a,v=.ref p/\N l/\H p=some (.tup [.ref l,.ref a])/\RdAt H l x.1/\PAt C H a x.2
theorem PrAt.t {H H':Hp} {v:V} {x:Nat × Str} (h:PrAt H v x) (t:TpIn H H'):PrAt H' v x:=by
 obtain ⟨h1,p,h2,h3⟩:=h
 exact ⟨h1,p,h2,t.tup h3⟩
theorem RdAt.same {H H':Hp} {l:Addr} {rd:List (Nat × Str)} (h:RdAt H l rd) (s:Same H H'):RdAt H' l rd:=by
 obtain ⟨vs,h1,h2⟩:=h
 exact ⟨vs,s _ _ h1,h2.imp fun _ _ e=>e.t (.of s)⟩
theorem WRow.same {N:Addr->Prop} {C:Addr} {H H':Hp} {v:V} {x:List (Nat × Str) × Nd} (h:WRow N C H v x) (s:Same H H'):WRow N C H' v x:=by
 obtain ⟨p,l,a,h1,h2,h3,h4,h5⟩:=h
 exact ⟨p,l,a,h1,h2,s _ _ h3,h4.same s,h5.same s⟩
theorem WRow.upd {N:Addr->Prop} {C l0:Addr} {H:Hp} {v:V} {x:List (Nat × Str) × Nd} {ys:List V} {o:HO} (h:WRow N C H v x) (hl:H l0=some (.lst ys)) (hn:∀ l,N l->l≠l0):WRow N C (upd H l0 o) v x:=by
 obtain ⟨p,l,a,h1,h2,h3,⟨vs,h4,h6⟩,h5⟩:=h
 have t:=TpIn.upd (o:=o) hl
 exact ⟨p,l,a,h1,h2,t.tup h3,⟨vs,by rw [Aj (hn l h2)]; exact h4,h6.imp fun _ _ e=>e.t t⟩,h5.t t⟩
theorem WRow.imp {N M:Addr->Prop} {C:Addr} {H:Hp} {v:V} {x:List (Nat × Str) × Nd} (h:WRow N C H v x) (f:∀ l,N l->M l):WRow M C H v x:=by
 obtain ⟨p,l,a,h1,h2,h3,h4,h5⟩:=h
 exact ⟨p,l,a,h1,f _ h2,h3,h4,h5⟩
def spWk (C:Addr) (n:Nat):Sp:=fun vs H Q _=>∃ (a:Addr) (d:Nd),vs=[.ref a]/\PAt C H a d/\d.ks.ht < n/\d.ks.size<=1000/\
 ∀ (l:Addr) (rows:List V) (H':Hp),Same H H'->H l=none->H' l=some (.lst rows)->A2 (WRow (fun l=>H l=none) C H') rows (Ct d)->Q (.ref l) H'
section
variable {P:Program} {w:World} {K:PySem.W.Frag} {mg:Str->Option Value} {base:Heap} {C:Addr}
theorem fn_none {x:Str} {st:Stmt} {ps:List Str} {sp:Sp} (F:Al K mg x st ps) (h:∀ vs H Q E,¬ sp vs H Q E):FnAt P w K mg base x 0 ps sp:=by
 obtain ⟨f,fd,F,hm,hb⟩:=F.ex
 exact ⟨f,fd,⟨fun vs H Q E z=>absurd z (h vs H Q E),fun A outer s H args us vs Q E _ _ _ _ z=>absurd z (h vs H Q E)⟩,hm,F.kp,.all hb⟩
abbrev swalked:Stmt:=top 46
theorem scwalked:Ao ["work","rows","word","part","road","deeper"] ["work"] (Af swalked):=by trivial
theorem ok_wk (kit:PKit K C) (F:Al K mg "walked" swalked ["work"]):∀ n,FnAt P w K mg base "walked" n ["work"] (spWk C n)
 | 0=>fn_none F fun vs H Q E ⟨a,d,_,_,h,_⟩=>by omega
 | n + 1=>by
   have F_walked:=ok_wk kit F n
   refine F.at scwalked (fun vs H Q E h=>?_) (fun f cdv A outer s H vs Q E hr h=>?_)
   ·obtain ⟨a,d,rfl,_⟩:=h
    rfl
   ·obtain ⟨a,d,rfl,hP,hh,hz,q⟩:=h
    refine ⟨_,(Ac (As (i:=1) scwalked.nd rfl (by trivial) (Bf (Aa (Bj (Aa (Bf Ab) (Aa (pv 0) Ab))) Ab)))
     (Ac (C6 PassesOwn.never rfl (pi_tup (Dl (pv 0) rfl)) (pg_tup rfl (Be (Aw (i:=2) scwalked.nd rfl (by trivial)) (Be (Aw (i:=3) scwalked.nd rfl (by trivial)) D0))) (Ad (C6 PassesOwn.never rfl (Bn (Ay F_walked hr (Nat.le_refl _) rfl (Aa (pv 3) Ab))) (pg_tup rfl (Be (Aw (i:=4) scwalked.nd rfl (by trivial)) (Be (Aw (i:=5) scwalked.nd rfl (by trivial)) D0))) (Ad (Bb (C5 PySem.F.plainAttrs_list PySem.F.slot_list_append PySem.F.type_list_append Cg (pv 1) (Aa (Bj (Aa (A3 Ev (Bf (Aa (Bj (Aa (pv 2) (Aa (Dl (pv 3) rfl) Ab))) Ab)) (pv 4)) (Aa (pv 5) Ab))) Ab)))))))
     (Ad (Ap (pv 1))))),?_⟩
    have hs:sizeLine=16777216:=sizeLine_eq
    refine ⟨(by exact Z0),fun l0 hl0=>?_⟩
    generalize hQ9:upd H l0 (.lst [])=H0
    have s0:=Nw hQ9 hl0
    have e0:=Ns hQ9
    refine ⟨_,rfl,(by exact Z2),fun p0 hp0=>?_⟩
    generalize hQ9:upd H0 p0 (.tup [.ref l0,.ref a])=H1
    have s1:=Nw hQ9 hp0
    have e1:=Ns hQ9
    refine ⟨(by exact Z1),fun l hl=>?_⟩
    generalize hQ9:upd H1 l (.lst [.ref p0])=H2
    have s2:=Nw hQ9 hl
    have e2:=Ns hQ9
    have S1:=s0.trans s1
    have S2:=S1.trans s2
    have hl':H l=none:=S1.free hl
    have n0:l0≠l:=Ah (s1 _ _ e0) hl
    obtain ⟨dx,po,pb,kt,hA,hw,hO,hB,hF⟩:=id hP
    have hit:=hF.items
    have r0:WRow (fun x=>H x=none/\x≠l) C H2 (.ref p0) ([],d):=⟨p0,l0,a,rfl,⟨hl0,n0⟩,s2 _ _ e1,⟨[],s2 _ _ (s1 _ _ e0),A2.nil⟩,hP.same S2⟩
    refine ⟨_,rfl,a,C,dx,_,_,rfl,S2 _ _ hA,kit.cl,kit.beneath,pF_beneath,pb,rfl,⟨_,SqT.of (S2 _ _ hB)⟩,for_tup (K:=K) (a:=pb) (xs:=kt) (fun i σ H'=>∃ (v2 v3 v4 v5:Option V) (rows:List V),σ=[some (.ref a),some (.ref l),v2,v3,v4,v5]/\Same H H'/\H' l=some (.lst rows)/\A2 (WRow (fun x=>H x=none/\x≠l) C H') rows (([],d) :: ((d.ks.items.take i).map wStep).flatten))
     ⟨_,_,_,_,[.ref p0],rfl,S2,e2,A2.one r0⟩ (fun i σ H' _ ⟨_,_,_,_,_,_,s',_⟩=>SqT.of (s' _ _ hB)) ?_ ?_⟩
    ·rintro i v σ H3 hv ⟨v2,v3,v4,v5,rows,rfl,s3,e3,hrows⟩
     obtain ⟨x,hx,p,a1,rfl,hp,h4,hP1⟩:=hit.at hv
     have hm:=items_ht (List.mem_of_getElem? hx)
     refine ⟨p,_,rfl,SqT.of (s3 _ _ hp),rfl,_,_,rfl,_,_,rfl,rfl,?_⟩
     refine ⟨_,rfl,a1,x.2,rfl,hP1.same s3,by omega,by omega,fun l1 rows1 H4 s4 f4 e4 w4=>?_⟩
     have hl4:=s4 _ _ e3
     have n1:l1≠l:=fun z=>by rw [z,e3] at f4; cases f4
     have nn:∀ y,H3 y=none->y≠l:=fun y hy z=>by rw [z,e3] at hy; cases hy
     have hb:(([],d) :: ((d.ks.items.take (i + 1)).map wStep).flatten)=(([],d) :: ((d.ks.items.take i).map wStep).flatten) ++ wStep x:=by
      rw [A6 hx,List.map_append,List.flatten_append]
      simp
     refine ⟨l1,rfl,⟨_,SqL.of e4⟩,for_list (K:=K) (a:=l1) (xs:=rows1) (fun k σ H'=>∃ (v4 v5:Option V) (rows':List V),σ=[some (.ref a),some (.ref l),some (.str (nm x.1)),some (.ref a1),v4,v5]/\Same H H'/\TpIn H4 H'/\H' l=some (.lst rows')/\H' l1=some (.lst rows1)/\A2 (WRow (fun y=>H3 y=none) C H') rows1 (Ct x.2)/\A2 (WRow (fun x=>H x=none/\x≠l) C H') rows' ((([],d) :: ((d.ks.items.take i).map wStep).flatten) ++ ((Ct x.2).take k).map (wUp x)))
      ⟨_,_,rows,rfl,s3.trans s4,TpIn.of (fun _ _ e=>e),hl4,e4,w4,by simpa using hrows.imp fun _ _ r=>r.same s4⟩ (fun k σ H' _ ⟨_,_,_,_,_,_,_,e,_⟩=>SqL.of e) ?_ ?_⟩
     ·rintro k v σ H5 hk ⟨v4,v5,rows',rfl,s5,t5,e5,e5',w5,r5⟩
      obtain ⟨y,hy,p1,lr,a2,rfl,fr,hp1,⟨vs,hlr,hvs⟩,hP2⟩:=w5.at hk
      obtain ⟨dx1,po1,pb1,kt1,hA1,_⟩:=hP1.same s5
      have hk':=(List.getElem?_eq_some_iff.mp hk).1
      have wl:rows1.length<=1001:=by rw [w5.1,Ca]; omega
      have rl:rows'.length<=2002:=by
       rw [r5.1,List.length_append,List.length_map,List.length_take,List.length_cons]
       have:((d.ks.items.take i).map wStep).flatten.length<=(walkF d.ks).length:=by
            rw [walkF_items]
            conv=>rhs; rw [← List.take_append_drop i d.ks.items,List.map_append,List.flatten_append,List.length_append]
            omega
       rw [walkF_len] at this
       rw [Ca]
       omega
      have vl:vs.length<=1000:=by
       rw [hvs.1]
       have:=roadP_le (List.mem_of_getElem? hy)
       have:=ht_size x.2.ks
       omega
      refine ⟨p1,_,rfl,SqT.of hp1,rfl,_,_,rfl,_,_,rfl,rfl,?_⟩
      refine ⟨_,rfl,.inl ⟨rfl,_,SqL.of e5⟩,_,rfl,_,rfl,a1,C,dx1,_,_,rfl,hA1,kit.cl,kit.name,Dk,(by exact Z2),fun pt hpt=>?_⟩
      generalize hQ9:upd H5 pt (.tup [.str (nm x.1),.str x.2.n])=H6
      have s6:=Nw hQ9 hpt
      have e6:=Ns hQ9
      refine ⟨(by exact Z1),fun lp hlp=>?_⟩
      generalize hQ9:upd H6 lp (.lst [.ref pt])=H7
      have s7:=Nw hQ9 hlp
      have e7:=Ns hQ9
      have t67:=s6.trans s7
      refine ⟨_,rfl,lp,lr,_,_,rfl,rfl,e7,t67 _ _ hlr,(by show 1 + vs.length<=sizeLine; omega),fun lc hlc=>?_⟩
      generalize hQ9:upd H7 lc (.lst ([.ref pt] ++ vs))=H8
      have s8:=Nw hQ9 hlc
      have e8:=Ns hQ9
      have t68:=t67.trans s8
      refine ⟨_,rfl,(by exact Z2),fun pp hpp=>?_⟩
      generalize hQ9:upd H8 pp (.tup [.ref lc,.ref a2])=H9
      have s9:=Nw hQ9 hpp
      have e9:=Ns hQ9
      have t69:=t68.trans s9
      have el9:=t69 _ _ e5
      have nlc:lc≠l:=(Ah (t67 _ _ e5) hlc).symm
      have hcn:H lc=none:=(s5.trans t67).free hlc
      refine ⟨l,_,_,rfl,rfl,el9,(by omega),?_⟩
      have tu:=TpIn.upd (o:=.lst (rows' ++ [.ref pp])) el9
      refine ⟨_,_,rows' ++ [.ref pp],rfl,fun b o e=>?_,fun b o e k=>tu _ _ (t69 _ _ (t5 _ _ e k)) k,Ag,by rw [Aj n1]; exact t69 _ _ e5',(w5.imp fun _ _ r=>(r.same t69).upd el9 nn),?_⟩
      ·rw [Aj (Ah e hl')]
       exact t69 _ _ (s5 _ _ e)
      ·have row:WRow (fun x=>H x=none/\x≠l) C H9 (.ref pp) (wUp x y):=⟨pp,lc,a2,rfl,⟨hcn,nlc⟩,e9,⟨_,s9 _ _ e8,(hvs.imp fun _ _ r=>r.t (.of t69)).cons ⟨h4,pt,rfl,s9 _ _ (s8 _ _ (s7 _ _ e6))⟩⟩,hP2.same t69⟩
       rw [A6 hy,List.map_append,← List.append_assoc]
       exact (r5.imp fun _ _ r=>(r.same t69).upd el9 fun _ h=>h.2).app (A2.one (row.upd el9 fun _ h=>h.2))
     ·rintro σ H5 ⟨v4,v5,rows',rfl,s5,t5,e5,e5',w5,r5⟩
      rw [w5.1,List.take_length] at r5
      exact ⟨_,_,_,_,rows',rfl,s5,e5,by rw [hb]; exact r5⟩
    ·rintro σ H3 ⟨v2,v3,v4,v5,rows,rfl,s3,e3,hrows⟩
     refine ⟨_,rfl,q l rows H3 s3 hl' e3 ?_⟩
     rw [hit.1,List.take_length,← walkF_items] at hrows
     exact hrows.imp fun _ _ r=>r.imp fun _ h=>h.1
end
end K34
namespace K34
open PySem L2 PyProof.Rows PySem.SeqAt
theorem len_put (f:Str) (v:V) {fs:List (Str × V)} {n:Nat} (h:fs.length<=n):(putF f v fs).length<=n + 1:=by
 have:=length_putF f v fs
 omega
theorem inV_str (z:Str):∀ zs:List Str,inV (.str z) (zs.map V.str)=decide (z ∈ zs)
 | []=>rfl
 | y :: zs=>by
   have ih:=inV_str z zs
   unfold inV at ih ⊢
   rw [List.map_cons,List.any_cons,ih]
   show (y == z || decide (z ∈ zs))=decide (z ∈ y :: zs)
   rw [Bool.eq_iff_iff,Bool.or_eq_true,beq_iff_eq,decide_eq_true_iff,decide_eq_true_iff,List.mem_cons]
   exact ⟨fun h=>h.imp Eq.symm id,fun h=>h.imp Eq.symm id⟩
section
variable {P:Program} {w:World} {K:PySem.W.Frag} {mg:Str->Option Value} {base:Heap} {C:Addr}
def spDp (C:Addr):Sp:=fun vs H Q _=>∃ (a:Addr) (d:Nd),vs=[.ref a]/\PAt C H a d/\d.ks.ht < 7/\d.ks.size<=1000/\∀ H',Same H H'->Q (.int ((d.ks.ht + 1:Nat):Int)) H'
abbrev sdepth_of:Stmt:=top 47
theorem scdepth_of:Ao ["work"] ["work"] (Af sdepth_of):=by trivial
theorem ok_dp (T:Txt mg) (F_walked:FnAt P w K mg base "walked" 7 ["work"] (spWk C 7)) (F:Al K mg "depth_of" sdepth_of ["work"]):FnAt P w K mg base "depth_of" 8 ["work"] (spDp C):=by
 refine F.at scdepth_of (fun vs H Q E h=>?_) (fun f cdv A outer s H vs Q E hr h=>?_)
 ·obtain ⟨a,d,rfl,_⟩:=h
  rfl
 ·obtain ⟨a,d,rfl,hP,h7,hz,q⟩:=h
  refine ⟨_,(Ad (Ap (A3 B4 Ae (Ai (call_maxL rfl) rfl T.n_max boot_max (Aa (Bz (sc:=Af sdepth_of) (N0:=["work"]) (xs:=["road","part"]) (ys:=[]) (js:=[]) (by trivial) rfl (Bn (Ay F_walked hr (by decide) rfl (Aa (pv 0) Ab))) (fun _ _ _ _=>(pg_tupK (n:=2) K rfl (Be (Aw (i:=0) (show (["road","part"]:List Str).Nodup by decide +kernel) rfl (by trivial)) (Be (Aw (i:=1) (show (["road","part"]:List Str).Nodup by decide +kernel) rfl (by trivial)) D0)))) (fun _ _ _ _=>B9) (fun _ _ _ _=>(Ai (call_lenK K rfl) rfl T.n_len boot_len (Aa (pv 0) Ab)))) Ab))))),?_⟩
  have hs:sizeLine=16777216:=sizeLine_eq
  refine ⟨_,rfl,a,d,rfl,hP,h7,hz,fun l rows H1 s1 f1 e1 hrows=>?_⟩
  have rl:rows.length<=1001:=by rw [hrows.1,Ca]; omega
  refine ⟨l,rfl,⟨_,SqL.of e1⟩,Br (K:=K) (a:=l) (xs:=rows) (fun i ys H'=>ys=((Ct d).take i).map (fun y=>V.int ((y.1.length:Nat):Int))/\H'=H1) ⟨by simp,rfl⟩ (by omega) ?_ ?_ ?_ ?_⟩
  ·rintro i ys H' ⟨rfl,_⟩
   rw [List.length_map,List.length_take]; omega
  ·rintro i ys H' _ ⟨_,rfl⟩
   exact SqL.of e1
  ·rintro i x ys H' hx ⟨rfl,rfl⟩
   obtain ⟨y,hy,p,lr,a1,rfl,_,hp,⟨vs,hv,hvs⟩,_⟩:=hrows.at hx
   refine ⟨p,_,rfl,SqT.of hp,rfl,_,_,rfl,_,_,rfl,rfl,?_⟩
   refine ⟨_,rfl,_,_,rfl,.inl ⟨_,SqL.of hv,rfl⟩,?_,rfl⟩
   rw [A6 hy,List.map_append,hvs.1]
   rfl
  ·rintro ys H' ⟨rfl,rfl⟩ l2 hl2
   have el:((Ct d).take rows.length).map (fun y=>V.int ((y.1.length:Nat):Int))=((Ct d).map fun y=>((y.1.length:Nat):Int)).map V.int:=by rw [hrows.1,List.take_length,List.map_map]; rfl
   rw [el]
   generalize hQ9:upd H' l2 (.lst (((Ct d).map fun y=>((y.1.length:Nat):Int)).map V.int))=H2
   have s2:=s1.trans (Nw hQ9 hl2)
   have e2:=Ns hQ9
   refine ⟨l2,_,rfl,SqL.of e2,by rw [List.length_map,Ca]; omega,fun m hm hall=>?_⟩
   obtain ⟨y,hy,ey⟩:=roadP_max d
   have a1:=hall _ (List.mem_map.mpr ⟨y,hy,rfl⟩)
   obtain ⟨y',hy',rfl⟩:=List.mem_map.mp hm
   have a2:=roadP_le hy'
   have em:y'.1.length=d.ks.ht:=by omega
   refine ⟨_,_,rfl,rfl,?_⟩
   show Q (.int (1 + ((y'.1.length:Nat):Int))) H2
   rw [em,show (1:Int) + (d.ks.ht:Int)=((d.ks.ht + 1:Nat):Int) by omega]
   exact q _ s2
def names (d:Nd):List Str:=(Ct d).map fun y=>y.2.n
structure Bd (d:Nd):Prop where
 nd:(names d).Nodup
 z:d.ks.size + 1<=30
 h:d.ks.ht + 1<=6
def spNB (C:Addr):Sp:=fun vs H Q _=>∃ (a:Addr) (d:Nd),vs=[.ref a]/\PAt C H a d/\Bd d/\∀ H',Same H H'->Q .non H'
abbrev Dg:Stmt:=top 48
theorem A7:Ao ["work","names","road","part"] ["work"] (Af Dg):=by trivial
theorem ok_nb (T:Txt mg) (kit:PKit K C) (F_walked:FnAt P w K mg base "walked" 7 ["work"] (spWk C 7)) (F_nfp:FnAt P w K mg base "need_few_parts" 1 ["many"] (spFew 30)) (F_nnd:FnAt P w K mg base "need_not_deep" 1 ["deep"] (spFew 6)) (F_dp:FnAt P w K mg base "depth_of" 8 ["work"] (spDp C)) (F:Al K mg "need_bounds" Dg ["work"]):FnAt P w K mg base "need_bounds" 9 ["work"] (spNB C):=by
 refine F.at A7 (fun vs H Q E h=>?_) (fun f cdv A outer s H vs Q E hr h=>?_)
 ·obtain ⟨a,d,rfl,_⟩:=h
  rfl
 ·obtain ⟨a,d,rfl,hP,bd,q⟩:=h
  refine ⟨_,(Ac (As (i:=1) A7.nd rfl (by trivial) (Bf Ab))
   (Ac (C6 PassesOwn.never rfl (Bn (Ay F_walked hr (by decide) rfl (Aa (pv 0) Ab))) (pg_tup rfl (Be (Aw (i:=2) A7.nd rfl (by trivial)) (Be (Aw (i:=3) A7.nd rfl (by trivial)) D0))) (Ac (A5 (Av Et (Dl (pv 3) rfl) (pv 1) (by with_unfolding_all rfl)) (Ad A4) Am)
   (Ad (Bb (C5 PySem.F.plainAttrs_list PySem.F.slot_list_append PySem.F.type_list_append Cg (pv 1) (Aa (Dl (pv 3) rfl) Ab))))))
   (Ac (Bb (Ay F_nfp hr (by decide) rfl (Aa (Ai Aq rfl T.n_len boot_len (Aa (pv 1) Ab)) Ab)))
   (Ad (Bb (Ay F_nnd hr (by decide) rfl (Aa (Ay F_dp hr (by decide) rfl (Aa (pv 0) Ab)) Ab))))))),?_⟩
  have hs:sizeLine=16777216:=sizeLine_eq
  have bz:=bd.z
  have bh:=bd.h
  have nl:(names d).length=d.ks.size + 1:=by unfold names; rw [List.length_map,Ca]
  refine ⟨(by exact Z0),fun ln hln=>?_⟩
  generalize hQ9:upd H ln (.lst [])=H0
  have s0:=Nw hQ9 hln
  have e0:=Ns hQ9
  refine ⟨_,rfl,a,d,rfl,hP.same s0,by omega,by omega,fun l rows H1 s1 f1 e1 hrows=>?_⟩
  have n1:l≠ln:=(Ah e0 f1).symm
  have nn:∀ y,H0 y=none->y≠ln:=fun y hy z=>by rw [z,e0] at hy; cases hy
  refine ⟨l,rfl,⟨_,SqL.of e1⟩,for_list (K:=K) (a:=l) (xs:=rows) (fun i σ H'=>∃ (v2 v3:Option V),σ=[some (.ref a),some (.ref ln),v2,v3]/\Same H H'/\H' ln=some (.lst (((names d).take i).map V.str))/\H' l=some (.lst rows)/\A2 (WRow (fun y=>H0 y=none) C H') rows (Ct d))
   ⟨_,_,rfl,s0.trans s1,by simpa using s1 _ _ e0,e1,hrows⟩ (fun i σ H' _ ⟨_,_,_,_,_,e,_⟩=>SqL.of e) ?_ ?_⟩
  ·rintro i v σ H2 hv ⟨v2,v3,rfl,s2,e2,e2',w2⟩
   obtain ⟨y,hy,p,lr,a1,rfl,_,hp,_,dx1,po1,pb1,kt1,hA1,_⟩:=w2.at hv
   have hn:(names d)[i]?=some y.2.n:=by unfold names; rw [List.getElem?_map,hy]; rfl
   obtain ⟨hil,hne⟩:=List.getElem?_eq_some_iff.mp hn
   refine ⟨p,_,rfl,SqT.of hp,rfl,_,_,rfl,_,_,rfl,rfl,?_⟩
   refine ⟨_,rfl,a1,C,dx1,_,_,rfl,hA1,kit.cl,kit.name,Dk,_,rfl,ln,_,rfl,.inl (SqL.of e2),rfl,strs_flat _,_,rfl,?_⟩
   have hnot:inV (.str y.2.n) (((names d).take i).map V.str)=false:=by
    rw [inV_str]
    refine decide_eq_false fun m=>?_
    obtain ⟨j,hj,e⟩:=List.mem_iff_getElem.mp m
    rw [List.length_take] at hj
    rw [List.getElem_take] at e
    exact (List.pairwise_iff_getElem.mp bd.nd) j i (by omega) hil (by omega) (by rw [e,hne])
   show if inV (.str y.2.n) (((names d).take i).map V.str)=true then _ else _
   rw [hnot]
   refine iteF ?_
   refine ⟨_,rfl,.inl ⟨rfl,_,SqL.of e2⟩,_,rfl,a1,C,dx1,_,_,rfl,hA1,kit.cl,kit.name,Dk,ln,_,_,rfl,rfl,e2,(by rw [List.length_map,List.length_take]; omega),?_⟩
   refine ⟨_,_,rfl,fun b o e=>?_,?_,?_,w2.imp fun _ _ r=>r.upd e2 nn⟩
   ·rw [Aj (Ah e hln)]; exact s2 _ _ e
   ·rw [Ag,A6 hn,List.map_append]; rfl
   ·rw [Aj n1]; exact e2'
  ·rintro σ H2 ⟨v2,v3,rfl,s2,e2,e2',w2⟩
   rw [hrows.1,Ca,← nl,List.take_length] at e2
   refine ⟨_,rfl,_,_,rfl,.inl ⟨_,SqL.of e2,rfl⟩,_,rfl,by rw [List.length_map]; omega,?_⟩
   refine ⟨_,rfl,a,d,rfl,hP.same s2,by omega,by omega,fun H3 s3=>⟨_,rfl,by omega,?_⟩⟩
   exact q _ (s2.trans s3)
theorem OfAt.ins {H:Hp} {po p C dx:Addr} {o:List (Str × Nat)} {fs:List (Str × V)} {ob:HO} (h:OfAt H po o) (hp:H p=some (.ins C dx fs)):OfAt (upd H p ob) po o:=by
 obtain ⟨ps,h1,h2,h3⟩:=h
 refine ⟨ps,by rw [Aj (ne_of h1 hp (by intro z; cases z))]; exact h1,h2.imp fun x k e=>?_,h3⟩
 show upd H p ob x=_
 rw [Aj (ne_of e hp (by intro z; cases z))]
 exact e
def spPI (C:Addr):Sp:=fun vs H Q _=>∃ (p dx:Addr) (vo vb:V) (n:Str) (o:List (Str × Nat)) (f:Fo) (its:List V) (H0:Hp),vs=[.ref p,.str n,vo,vb]/\H p=some (.ins C dx [])/\H0 p=none/\Same H0 H/\Ak n=true/\
 OfArg H0 vo o/\BnArg C H0 vb f its/\Bd ⟨n,o,f⟩/\∀ H',Same H0 H'->PAt C H' p ⟨n,o,f⟩->Q .non H'
abbrev psP:List Str:=["self","name","offers","beneath"]
abbrev Da:Stmt:=D4 (top 50) 0
theorem scPart_init:Ao psP psP (Af Da):=by trivial
theorem ok_pinit (kit:PKit K C) (F_is_word:FnAt P w K mg base "is_word" 1 ["thing"] (spWord K)) (F_ko:FnAt P w K mg base "kept_offers" 4 ["offers"] spKO) (F_kb:FnAt P w K mg base "kept_beneath" 3 ["beneath"] (spKB C)) (F_nb:FnAt P w K mg base "need_bounds" 9 ["work"] (spNB C))
 {f:Addr} {fd:FuncData} (F:FunD K "__init__" "Part.__init__" Da f fd):FnOk P w K mg base CX0 10 f fd psP (spPI C):=by
 refine F.ok scPart_init (fun vs H Q E h=>?_) (fun cdv A outer s H vs Q E hr h=>?_)
 ·obtain ⟨p,dx,vo,vb,n,o,f,its,H0,rfl,_⟩:=h
  rfl
 ·obtain ⟨p,dx,vo,vb,n,o,fo,its,H0,rfl,hp,hp0,s0,hw,hvo,hvb,bd,q⟩:=h
  have hF:FAt C H0 fo its:=by
   rcases hvb with ⟨_,rfl,rfl⟩ | ⟨_,_,_,h,_⟩
   ·rfl
   ·exact h
  refine ⟨_,(Ac (A5 (Bl (Bw (Ay F_is_word hr (by decide) rfl (Aa (pv 1) Ab)))) (Ad A4) Am)
   (Ac (ps_fld (pv 0) (pv 1) rfl)
   (Ac (ps_fld (pv 0) (Ay F_ko hr (by decide) rfl (Aa (pv 2) Ab)) rfl)
   (Ac (ps_fld (pv 0) (Ay F_kb hr (by decide) rfl (Aa (pv 3) Ab)) rfl)
   (Ad (Bb (Ay F_nb hr (by decide) rfl (Aa (pv 0) Ab)))))))),?_⟩
  have up:∀ {H1:Hp} {fs:List (Str × V)},Same H0 H1->Same H0 (upd H1 p (.ins C dx fs)):=fun s1 b o e=>by rw [Aj (Ah e hp0)]; exact s1 b o e
  refine ⟨_,rfl,.str n,rfl,⟨.str,.str _⟩,(fun z e=>by cases e; have:=Em hw; omega),fun H1 s1=>⟨_,rfl,?_⟩⟩
  have wv:wordV (.str n)=true:=hw
  rw [wv]
  refine iteF ?_
  have p1:=s1 _ _ hp
  refine ⟨_,rfl,_,rfl,p,C,dx,[],rfl,p1,kit.cl,kit.name,(by show 0 < 1000; decide),?_⟩
  have S2:Same H0 (upd H1 p (.ins C dx (putF "name" (.str n) []))):=up (s0.trans s1)
  have p2:upd H1 p (.ins C dx (putF "name" (.str n) [])) p=some (.ins C dx (putF "name" (.str n) [])):=Ag
  generalize upd H1 p (.ins C dx (putF "name" (.str n) []))=H2 at S2 p2 ⊢
  refine ⟨_,rfl,vo,o,rfl,hvo.same S2,fun po H3 s3 e3=>?_⟩
  have p3:=s3 _ _ p2
  refine ⟨_,rfl,p,C,dx,_,rfl,p3,kit.cl,kit.offers,(Nat.lt_of_le_of_lt (len_put _ _ (n:=0) (Nat.le_refl _)) (by decide)),?_⟩
  have S4:Same H0 (upd H3 p (.ins C dx (putF "offers" (.ref po) (putF "name" (.str n) [])))):=up (S2.trans s3)
  have p4:upd H3 p (.ins C dx (putF "offers" (.ref po) (putF "name" (.str n) []))) p=some (.ins C dx (putF "offers" (.ref po) (putF "name" (.str n) []))):=Ag
  have e4:=e3.ins (ob:=.ins C dx (putF "offers" (.ref po) (putF "name" (.str n) []))) p3
  generalize upd H3 p (.ins C dx (putF "offers" (.ref po) (putF "name" (.str n) [])))=H4 at S4 p4 e4 ⊢
  refine ⟨_,rfl,vb,fo,its,rfl,hvb.imp id (fun ⟨lb,h1,h2,h3,h4⟩=>⟨lb,h1,S4 _ _ h2,h3.t (.of S4),h4⟩),fun pb H5 s5 e5=>?_⟩
  have p5:=s5 _ _ p4
  refine ⟨_,rfl,p,C,dx,_,rfl,p5,kit.cl,kit.beneath,(Nat.lt_of_le_of_lt (len_put _ _ (len_put _ _ (n:=0) (Nat.le_refl _))) (by decide)),?_⟩
  have S6:Same H0 (upd H5 p (.ins C dx (pF n po pb))):=up (S4.trans s5)
  have hP:PAt C (upd H5 p (.ins C dx (pF n po pb))) p ⟨n,o,fo⟩:=⟨dx,po,pb,its,Ag,hw,(e4.t (.of s5)).ins p5,by rw [Aj (ne_of e5 p5 (by intro z; cases z))]; exact e5,hF.t (.of S6)⟩
  generalize upd H5 p (.ins C dx (pF n po pb))=H6 at S6 hP ⊢
  exact ⟨_,rfl,p,_,rfl,hP,bd,fun H7 s7=>q H7 (S6.trans s7) (hP.same s7)⟩
end
end K34
namespace K34
open PySem L2 PyProof.Rows PySem.SeqAt
def keyD (k:Str × Nat):PyData:=.tuple [.str k.1,.int k.2]
def toldF:Fo->List PyData
 | .nil=>[]
 | .cons j n o ks r=>.tuple [.str (nm j),.tuple [.str n,.tuple (o.map keyD),.tuple (toldF ks)]] :: toldF r
def toldD (d:Nd):PyData:=.tuple [.str d.n,.tuple (d.o.map keyD),.tuple (toldF d.ks)]
theorem toldF_items:∀ f:Fo,toldF f=f.items.map fun x=>.tuple [.str (nm x.1),toldD x.2]
 | .nil=>rfl
 | .cons j n o ks r=>by rw [toldF,Fo.items,List.map_cons,← toldF_items r]; rfl
theorem word_ok {z:Str} (h:Ak z=true):PyData.strOk z=true:=by
 unfold Ak at h
 rw [Bool.and_eq_true] at h
 have h:=h.2
 unfold PyData.strOk
 rw [← Array.all_toList,List.all_eq_true]
 intro c hc
 have:=List.all_eq_true.mp h c hc
 unfold C3 at this
 simp only [Bool.and_eq_true,decide_eq_true_eq] at this ⊢
 omega
theorem nm_ok {j:Nat} (h:j < 4):PyData.strOk (nm j)=true:=by
 rcases j4 h with rfl | rfl | rfl | rfl <;> decide +kernel
theorem keys_lay:∀ {o:List (Str × Nat)},(∀ k ∈ o,Ak k.1=true/\k.2 < 100)->PyData.canLayAll0 (o.map keyD)=true/\PyData.depthAll (o.map keyD)<=1
 | [],_=>⟨rfl,by simp [PyData.depthAll]⟩
 | k :: o,h=>by
   obtain ⟨a,b⟩:=keys_lay fun x hx=>h x (List.mem_cons_of_mem _ hx)
   have w:=word_ok (h k List.mem_cons_self).1
   rw [List.map_cons]
   refine ⟨?_,?_⟩
   ·rw [PyData.canLayAll0,a]
    simp [keyD,PyData.canLay0,PyData.canLayAll0,w]
   ·rw [PyData.depthAll]
    have:(keyD k).depth=1:=by simp [keyD,PyData.depth,PyData.depthAll]
    omega
theorem told_lay {C:Addr} {H:Hp}:∀ {f:Fo} {its:List V},FAt C H f its->PyData.canLayAll0 (toldF f)=true/\PyData.depthAll (toldF f)<=3 * f.ht + 3
 | .nil,its,h=>⟨rfl,by simp [toldF,PyData.depthAll]⟩
 | .cons j n o ks r,its,h=>by
   obtain ⟨p,a,dx,po,pb,kt,tl,rfl,h1,h2,h3,h4,⟨ps,_,_,g⟩,h6,h7,h8⟩:=h
   obtain ⟨a1,b1⟩:=told_lay h7
   obtain ⟨a2,b2⟩:=told_lay h8
   obtain ⟨a3,b3⟩:=keys_lay g.ok
   rw [toldF]
   refine ⟨?_,?_⟩
   ·rw [PyData.canLayAll0,a2]
    simp [PyData.canLay0,PyData.canLayAll0,a1,a3,nm_ok h2,word_ok h3]
   ·rw [PyData.depthAll,Fo.ht]
    simp only [PyData.depth,PyData.depthAll]
    omega
theorem told_shaped {C:Addr} {H:Hp} {a:Addr} {d:Nd} (h:PAt C H a d) (h7:d.ks.ht < 7):shaped (toldD d)=true:=by
 obtain ⟨dx,po,pb,kt,h1,h2,⟨ps,_,_,g⟩,h4,h5⟩:=h
 obtain ⟨a1,b1⟩:=told_lay h5
 obtain ⟨a3,b3⟩:=keys_lay g.ok
 unfold shaped
 rw [Bool.and_eq_true,decide_eq_true_eq]
 refine ⟨by simp [toldD,PyData.canLay0,PyData.canLayAll0,a1,a3,word_ok h2],?_⟩
 simp only [toldD,PyData.depth,PyData.depthAll]
 omega
mutual
inductive RdT (H:Hp):V->PyData->Prop
 | str (z:Str):RdT H (.str z) (.str z)
 | int (i:Int):RdT H (.int i) (.int i)
 | tup {a:Addr} {xs:List V} {ds:List PyData}:H a=some (.tup xs)->RdTs H xs ds->RdT H (.ref a) (.tuple ds)
inductive RdTs (H:Hp):List V->List PyData->Prop
 | nil:RdTs H [] []
 | cons {x:V} {d:PyData} {xs:List V} {ds:List PyData}:RdT H x d->RdTs H xs ds->RdTs H (x :: xs) (d :: ds)
end
mutual
theorem RdT.t {H H':Hp} (t:TpIn H H'):∀ {x:V} {d:PyData},RdT H x d->RdT H' x d
 | _,_,.str z=>.str z
 | _,_,.int i=>.int i
 | _,_,.tup h r=>.tup (t.tup h) (r.t t)
theorem RdTs.t {H H':Hp} (t:TpIn H H'):∀ {xs:List V} {ds:List PyData},RdTs H xs ds->RdTs H' xs ds
 | _,_,.nil=>.nil
 | _,_,.cons h r=>.cons (h.t t) (r.t t)
end
mutual
theorem RdT.rd {K:PySem.W.Frag} {H:Hp}:∀ {x:V} {d:PyData},RdT H x d->RdD K H x d
 | _,_,.str z=>.str z
 | _,_,.int i=>.int i
 | _,_,.tup h r=>.tup (SqT.of h) r.rd
theorem RdTs.rd {K:PySem.W.Frag} {H:Hp}:∀ {xs:List V} {ds:List PyData},RdTs H xs ds->RdDs K H xs ds
 | _,_,.nil=>.nil
 | _,_,.cons h r=>.cons h.rd r.rd
end
theorem rt_snoc {H:Hp} {v:V} {d:PyData}:∀ {xs:List V} {ds:List PyData},RdTs H xs ds->RdT H v d->RdTs H (xs ++ [v]) (ds ++ [d])
 | _,_,.nil,h=>.cons h .nil
 | _,_,.cons x t,h=>.cons x (rt_snoc t h)
theorem rt_keys {H:Hp}:∀ {ps:List Addr} {o:List (Str × Nat)},A2 (KeyR H) ps o->RdTs H (ps.map V.ref) (o.map keyD)
 | [],[],_=>.nil
 | [],_ :: _,h=>by have:=h.1; simp at this
 | _ :: _,[],h=>by have:=h.1; simp at this
 | p :: ps,k :: o,h=>by
   obtain ⟨e,t⟩:=A2.inv h
   exact .cons (.tup e (.cons (.str _) (.cons (.int _) .nil))) (rt_keys t)
section
variable {P:Program} {w:World} {K:PySem.W.Frag} {mg:Str->Option Value} {base:Heap} {C:Addr} {J:Js}
structure Sm (d:Nd):Prop where
 h:d.ks.ht < 7
 z:d.ks.size<=1000
theorem PAt.ins {H:Hp} {a:Addr} {d:Nd} (h:PAt C H a d):∃ dx fs,H a=some (.ins C dx fs)/\∀ m:Str,m≠"name"->m≠"offers"->m≠"beneath"->fs.lookup m=none:=by
 obtain ⟨dx,po,pb,kt,h1,_⟩:=h
 refine ⟨dx,_,h1,fun m n1 n2 n3=>?_⟩
 rw [Bq,if_neg n3,Bq,if_neg n2,Bq,if_neg n1]
 rfl
def spTd (K:PySem.W.Frag) (C:Addr) (n:Nat):Sp:=fun vs H Q _=>∃ (a:Addr) (d:Nd),vs=[.ref a]/\PAt C H a d/\d.ks.ht < n/\d.ks.size<=1000/\∀ (t:Addr) (H':Hp),Same H H'->RdT H' (.ref t) (toldD d)->Q (.ref t) H'
def DTd (K:PySem.W.Frag) (C:Addr) (n:Nat):Addr->Sp->Prop:=fun C' sp=>C'=C/\sp=spTd K C n
abbrev Es:Stmt:=D4 (top 50) 5
theorem scPart_told:Ao ["self"] ["self"] (Af Es):=by trivial
theorem items_le:∀ f:Fo,f.items.length<=f.size
 | .nil=>Nat.le_refl _
 | .cons j n o ks r=>by
   have:=items_le r
   rw [Fo.items,Fo.size,List.length_cons]
   omega
theorem ok_td (T:Txt mg) (kit:PKit K C) (h:MTop K C "told" "Part.told" Es ["self"]):∀ n C' sp,DTd K C n C' sp->MethD P w K mg base CX0 n C' "told" ["self"] sp
 | 0,_,_,⟨rfl,rfl⟩=>methD_of kit.cl h fun f fd F=>⟨fun vs H Q E ⟨a,d,_,_,z,_⟩=>by omega,fun A outer s H args us vs Q E _ _ _ _ ⟨a,d,_,_,z,_⟩=>by omega⟩
 | n + 1,_,_,⟨rfl,rfl⟩=>by
   have MTD:=ok_td T kit h n
   refine methD_of kit.cl h fun f fd F=>F.ok scPart_told (fun vs H Q E h=>?_) (fun cdv A outer s H vs Q E hr h=>?_)
   ·obtain ⟨a,d,rfl,_⟩:=h
    rfl
   ·obtain ⟨a,d,rfl,hP,hh,hz,q⟩:=h
    refine ⟨_,(Ad (Ap (Bj (Aa (Dl (pv 0) rfl) (Aa (Dl (pv 0) rfl) (Aa (Bm Bx rfl T.n_tuple boot_tuple (Aa (Bz (sc:=Af Es) (N0:=["self"]) (xs:=["word","part"]) (ys:=[]) (js:=[]) (by trivial) rfl (pi_tup (Dl (pv 0) rfl)) (fun _ _ _ _=>(pg_tupK (n:=2) K rfl (Be (Aw (i:=0) (show (["word","part"]:List Str).Nodup by decide +kernel) rfl (by trivial)) (Be (Aw (i:=1) (show (["word","part"]:List Str).Nodup by decide +kernel) rfl (by trivial)) D0)))) (fun _ _ _ _=>B9) (fun _ _ _ _=>(Bj (Aa (pv 0) (Aa (pe_methD (D:=DTd K C n) (pv 1) MTD hr pass0) Ab))))) Ab)) Ab)))))),?_⟩
    have hs:sizeLine=16777216:=sizeLine_eq
    obtain ⟨dx,po,pb,kt,hA,hw,⟨ps,hO,hk,g⟩,hB,hF⟩:=id hP
    have hit:=hF.items
    have kl:kt.length<=1000:=by rw [hit.1]; have:=items_le d.ks; omega
    refine ⟨_,rfl,a,C,dx,_,_,rfl,hA,kit.cl,kit.name,Dk,_,rfl,a,C,dx,_,_,rfl,hA,kit.cl,kit.offers,pF_offers,_,rfl,a,C,dx,_,_,rfl,hA,kit.cl,kit.beneath,pF_beneath,pb,rfl,⟨_,SqT.of hB⟩,?_⟩
    refine comp_tup (K:=K) (a:=pb) (xs:=kt) (fun i ys H'=>Same H H'/\ys.length=i/\RdTs H' ys ((d.ks.items.take i).map fun x=>.tuple [.str (nm x.1),toldD x.2])) ⟨Same.refl _,rfl,.nil⟩ (by omega) ?_ ?_ ?_ ?_
    ·rintro i ys H' ⟨_,h,_⟩
     omega
    ·rintro i ys H' _ ⟨s',_⟩
     exact SqT.of (s' _ _ hB)
    ·rintro i v ys H' hv ⟨s',hy,hr'⟩
     obtain ⟨x,hx,p,a1,rfl,hp,h4,hP1⟩:=hit.at hv
     have hm:=items_ht (List.mem_of_getElem? hx)
     have hP1':=hP1.same s'
     obtain ⟨dx1,fs1,hA1,hfs1⟩:=hP1'.ins
     refine ⟨p,_,rfl,SqT.of (s' _ _ hp),rfl,_,_,rfl,_,_,rfl,rfl,?_⟩
     refine ⟨_,rfl,_,rfl,a1,C,dx1,fs1,spTd K C n,rfl,hA1,hfs1 _ (by decide +kernel) (by decide +kernel) (by decide +kernel),⟨rfl,rfl⟩,a1,x.2,rfl,hP1',by omega,by omega,fun t H1 s1 ht=>?_⟩
     refine ⟨(by exact Z2),fun t2 ht2=>?_⟩
     have s2:=s1.trans (Same.new (o:=.tup [.str (nm x.1),.ref t]) ht2)
     refine ⟨s'.trans s2,by rw [List.length_append,hy]; rfl,?_⟩
     rw [A6 hx,List.map_append]
     exact rt_snoc (hr'.t (.of s2)) (.tup Ag (.cons (.str _) (.cons (ht.t (.of (Same.new ht2))) .nil)))
    ·rintro ys H' ⟨s',hy,hr'⟩ l2 hl2
     rw [hit.1,List.take_length,← toldF_items] at hr'
     have s2:=Same.new (o:=.lst ys) hl2
     have e2:upd H' l2 (.lst ys) l2=some (.lst ys):=Ag
     have r2:=hr'.t (.of s2)
     generalize upd H' l2 (.lst ys)=H2 at s2 e2 r2 ⊢
     refine ⟨l2,_,rfl,.inl ⟨SqL.of e2,fun tp htp=>?_⟩⟩
     have s3:=Same.new (o:=.tup ys) htp
     have e3:upd H2 tp (.tup ys) tp=some (.tup ys):=Ag
     have r3:=r2.t (.of s3)
     generalize upd H2 tp (.tup ys)=H3 at s3 e3 r3 ⊢
     have t3:=(s'.trans s2).trans s3
     refine ⟨(by exact Z3),fun t4 ht4=>?_⟩
     have s4:=Same.new (o:=.tup [.str d.n,.ref po,.ref tp]) ht4
     have t4':=t3.trans s4
     exact q t4 _ t4' (.tup Ag (.cons (.str _) (.cons (.tup (t4' _ _ hO) (rt_keys (hk.imp fun _ _ e=>t4' _ _ e))) (.cons (.tup (s4 _ _ e3) (r3.t (.of s4))) .nil))))
end
end K34
namespace K34
open PySem L2 PyProof.Rows
theorem join_go:∀ (zs:List Nat) (acc:Array Nat),(zs.map fun c=>(⟨#[c]⟩:Str)).foldl (fun acc p=>acc ++ Str.empty.cps ++ p.cps) acc=acc ++ zs.toArray
 | [],acc=>by simp
 | c :: r,acc=>by
   rw [List.map_cons,List.foldl_cons,join_go r]
   show acc ++ #[] ++ #[c] ++ r.toArray=acc ++ (c :: r).toArray
   simp
theorem join_signs (zs:List Nat) (sep:Str) (hs:sep=Str.empty):Txt.join sep (zs.map fun c=>(⟨#[c]⟩:Str))=⟨zs.toArray⟩:=by
 subst hs
 cases zs with
 | nil=>rfl
 | cons c r=>
   show (⟨(r.map fun c=>(⟨#[c]⟩:Str)).foldl (fun acc p=>acc ++ Str.empty.cps ++ p.cps) #[c]⟩:Str)=_
   rw [join_go]
   simp
theorem slice_to {z:Str} {i:Nat} (h:i<=z.cps.toList.length):Txt.slice z none (some (i:Int))=⟨(z.cps.toList.take i).toArray⟩:=by
 have:=slice_closes_to (x:=z) (j:=i) ⟨by omega,by omega⟩
 have:=beq_iff_eq.mp this
 rw [this]
 simp
theorem slice_from {z:Str} {i:Nat} (h:i<=z.cps.toList.length):Txt.slice z (some (i:Int)) none=⟨(z.cps.toList.drop i).toArray⟩:=by
 have hz:z.length=z.cps.toList.length:=by simp [Str.length]
 rw [slice_from_eq (x:=z) (i:=i) (b:=z.length) (by omega) (by omega) rfl]
 congr 2
 rw [List.take_of_length_le]
 ·simp
 ·rw [List.length_drop]
  have:z.cps.toList.length=z.length:=hz.symm
  omega
theorem app_l (A B:List Nat):(⟨A.toArray⟩:Str) ++ (⟨B.toArray⟩:Str)=⟨(A ++ B).toArray⟩:=by
 show (⟨A.toArray ++ B.toArray⟩:Str)=_
 simp
theorem word_l {L:List Nat} (h1:1<=L.length) (h2:L.length<=8) (h3:L.all C3=true):Ak ⟨L.toArray⟩=true:=by
 unfold Ak
 rw [Bool.and_eq_true,decide_eq_true_eq]
 refine ⟨?_,by simpa using h3⟩
 show 1<=L.toArray.size/\L.toArray.size<=8
 rw [List.size_toArray]
 exact ⟨h1,h2⟩
abbrev abc:Str:=Str.ofString "abcdefghijklmnopqrstuvwxyz"
theorem abc_at {r:Int} (h0:0<=r) (h1:r < 26):∃ c,atI abc.cps.toList r=some c/\C3 c=true:=by
 have el:abc.cps.toList=[97,98,99,100,101,102,103,104,105,106,107,108,109,110,111,112,113,114,115,116,117,118,119,120,121,122]:=by decide +kernel
 obtain ⟨c1,e1,m1⟩:=atI_ex (xs:=abc.cps.toList) h0 (by rw [el]; exact h1)
 refine ⟨c1,e1,?_⟩
 have hl:∀ c ∈ abc.cps.toList,C3 c=true:=by rw [el]; decide +kernel
 exact hl c1 m1
theorem abc_val:∀ n:Fin 26,atI abc.cps.toList (n.val:Int)=some (97 + n.val):=by decide +kernel
theorem abc_inj {r r':Int} (h0:0<=r) (h1:r < 26) (h0':0<=r') (h1':r' < 26) (e:atI abc.cps.toList r=atI abc.cps.toList r'):r=r':=by
 obtain ⟨n,rfl⟩:∃ n:Nat,r=(n:Int):=⟨r.toNat,by omega⟩
 obtain ⟨n',rfl⟩:∃ n:Nat,r'=(n:Int):=⟨r'.toNat,by omega⟩
 have a:=abc_val ⟨n,by omega⟩
 have b:=abc_val ⟨n',by omega⟩
 dsimp only at a b
 rw [a,b] at e
 have:=Option.some.inj e
 omega
def Lett (pos:Nat) (first:Int) (L:Nat) (us:List Str):Prop:=∀ (j:Nat) (z:Str),us[j]?=some z->(j < 26->z.cps.toList[pos]?=atI abc.cps.toList ((first + 7 * (0 + (j:Int))) % 26)/\z.length≠L)/\(26<=j->z.cps.toList[0]?=atI abc.cps.toList ((first + 7 * (0 + (j:Int))) % 26)/\z.length=L)
theorem Lett.snoc {pos L:Nat} {first:Int} {us:List Str} {z:Str} (h:Lett pos first L us) (e:us.length < 26->z.cps.toList[pos]?=atI abc.cps.toList ((first + 7 * (0 + (us.length:Int))) % 26)/\z.length≠L) (e':26<=us.length->z.cps.toList[0]?=atI abc.cps.toList ((first + 7 * (0 + (us.length:Int))) % 26)/\z.length=L):Lett pos first L (us ++ [z]):=fun j y hy=>by
 by_cases hj:j < us.length
 ·rw [List.getElem?_append_left hj] at hy; exact h j y hy
 ·have hj2:j=us.length:=by
   have:=(List.getElem?_eq_some_iff.mp hy).1
   rw [List.length_append,List.length_singleton] at this
   omega
  subst hj2
  rw [List.getElem?_append_right (Nat.le_refl _),Nat.sub_self] at hy
  cases hy
  exact ⟨e,e'⟩
theorem Lett.nodup {pos L:Nat} {first:Int} {us:List Str} (h:Lett pos first L us) (hl:us.length<=40):us.Nodup:=by
 rw [List.Nodup,List.pairwise_iff_getElem]
 intro i j hi hj hij e
 have a:=h i us[i] (List.getElem?_eq_getElem hi)
 have b:=h j us[j] (List.getElem?_eq_getElem hj)
 rw [e] at a
 by_cases h1:i < 26
 ·by_cases h2:j < 26
  ·have a:=(a.1 h1).1
   rw [(b.1 h2).1] at a
   have:=abc_inj (Int.emod_nonneg _ (by decide)) (Int.emod_lt_of_pos _ (by decide)) (Int.emod_nonneg _ (by decide)) (Int.emod_lt_of_pos _ (by decide)) a
   omega
  ·exact (a.1 h1).2 (b.2 (by omega)).2
 ·have a:=(a.2 (by omega)).1
  rw [(b.2 (by omega)).1] at a
  have:=abc_inj (Int.emod_nonneg _ (by decide)) (Int.emod_lt_of_pos _ (by decide)) (Int.emod_nonneg _ (by decide)) (Int.emod_lt_of_pos _ (by decide)) a
  omega
theorem qz3:repZ 3 (Str.ofString "qz")=⟨([113,122,113,122,113,122]:List Nat).toArray⟩:=by decide +kernel
theorem x1:repZ 1 (Str.ofString "x")=⟨([120]:List Nat).toArray⟩:=by decide +kernel
theorem x0:repZ 0 (Str.ofString "x")=⟨([]:List Nat).toArray⟩:=by decide +kernel
theorem late {c:Nat} (low:C3 c=true) (k:Nat) (hk:k=0\/k=1):Ak (⟨#[c]⟩ ++ repZ 3 (Str.ofString "qz") ++ repZ k (Str.ofString "x"):Str)=true/\(⟨#[c]⟩ ++ repZ 3 (Str.ofString "qz") ++ repZ k (Str.ofString "x"):Str).length=7 + k/\(⟨#[c]⟩ ++ repZ 3 (Str.ofString "qz") ++ repZ k (Str.ofString "x"):Str).cps.toList[0]?=some c:=by
 rcases hk with rfl | rfl
 ·rw [qz3,x0,show (⟨#[c]⟩:Str)=⟨([c]:List Nat).toArray⟩ from rfl,app_l,app_l]
  refine ⟨word_l (by simp) (by simp) (by simp [low]; decide),by rfl,by simp⟩
 ·rw [qz3,x1,show (⟨#[c]⟩:Str)=⟨([c]:List Nat).toArray⟩ from rfl,app_l,app_l]
  refine ⟨word_l (by simp) (by simp) (by simp [low]; decide),by rfl,by simp⟩
theorem abc_len:abc.length<=sizeLine:=by
 rw [show abc.length=26 from by decide +kernel,sizeLine_eq]
 decide
theorem all_take {L:List Nat} {n:Nat} (h:L.all C3=true):(L.take n).all C3=true:=List.all_eq_true.mpr fun x hx=>List.all_eq_true.mp h x (List.mem_of_mem_take hx)
theorem all_drop {L:List Nat} {n:Nat} (h:L.all C3=true):(L.drop n).all C3=true:=List.all_eq_true.mpr fun x hx=>List.all_eq_true.mp h x (List.mem_of_mem_drop hx)
def spWords:Sp:=fun vs H Q _=>∃ (c:Int) (m:Nat),m<=40/\vs=[.int c,.int m]/\∀ (l:Addr) (zs:List Str) (H':Hp),Same H H'->H' l=some (.lst (zs.map V.str))->zs.length=m->(∀ z ∈ zs,Ak z=true)->zs.Nodup->H l=none->Q (.ref l) H'
section
variable {P:Program} {w:World} {K:PySem.W.Frag} {mg:Str->Option Value} {base:Heap}
abbrev Dw:Stmt:=top 66
abbrev nWords:List Str:=["_law_cell_here","_law_many","_law_letters","_law_box_here","_law_size","_law_at","_law_way","_law_base","_law_first","_law_found","_law_k","_law_letter"]
theorem Bg:Ao nWords ["_law_cell_here","_law_many"] (Af Dw):=by trivial
theorem ok_words (T:Txt mg) (F__law_box:FnAt P w K mg base "_law_box" 1 ["_law_cell_here"] spBox) (F__law_take:FnAt P w K mg base "_law_take" 2 ["_law_box_here","_law_many"] spTake) (F:Al K mg "_law_words" Dw ["_law_cell_here","_law_many"]):FnAt P w K mg base "_law_words" 3 ["_law_cell_here","_law_many"] spWords:=by
 refine F.at Bg (fun vs H Q E h=>?_) (fun f cdv A outer s H vs Q E hr h=>?_)
 ·obtain ⟨c,m,_,rfl,_⟩:=h
  rfl
 ·obtain ⟨c,m,hm,rfl,q⟩:=h
  refine ⟨_,(Ac (As (i:=2) Bg.nd rfl (by trivial) Au)
   (Ac (As (i:=3) Bg.nd rfl (by trivial) (Ay F__law_box hr (by decide) rfl (Aa (pv 0) Ab)))
   (Ac (As (i:=4) Bg.nd rfl (by trivial) (Ay F__law_take hr (by decide) rfl (Aa (pv 3) (Aa Ae Ab))))
   (Ac (As (i:=5) Bg.nd rfl (by trivial) (Ay F__law_take hr (by decide) rfl (Aa (pv 3) (Aa (A3 B4 (pv 4) Ae) Ab))))
   (Ac (As (i:=6) Bg.nd rfl (by trivial) (Ay F__law_take hr (by decide) rfl (Aa (pv 3) (Aa Ae Ab))))
   (Ac (As (i:=7) Bg.nd rfl (by trivial) (C5 PySem.F.plainAttrs_str PySem.F.slot_str_join PySem.F.type_str_join mt_join Au (Aa (Bz (sc:=Af Dw) (N0:=nWords) (xs:=["_law_k"]) (ys:=["_law_letters","_law_box_here"]) (js:=[2,3]) (by trivial) rfl (C0 rfl T.n_range (Aa (pv 4) Ab)) (fun _ _ _ _=>(Aw (i:=0) (show (["_law_k","_law_letters","_law_box_here"]:List Str).Nodup by decide +kernel) rfl (by trivial))) (fun _ _ _ _=>B9) (fun _ _ _ _=>(A0 ix_str (pv 1) (Ay F__law_take hr (by decide) rfl (Aa (pv 2) (Aa Ae Ab))) (fun _ _=>rfl)))) Ab)))
   (Ac (As (i:=8) Bg.nd rfl (by trivial) (Ay F__law_take hr (by decide) rfl (Aa (pv 3) (Aa Ae Ab))))
   (Ac (As (i:=9) Bg.nd rfl (by trivial) (Bf Ab))
   (Ac (C6 PassesOwn.never rfl (C0 rfl T.n_range (Aa (pv 1) Ab)) (Aw (i:=10) Bg.nd rfl (by trivial)) (Ac (As (i:=11) Bg.nd rfl (by trivial) (A0 ix_str (pv 2) (A3 op_mod (A3 B4 (pv 8) (A3 op_mul Ae (pv 10))) Ae) (fun _ _=>rfl)))
   (Ad (A5 (Av Eu (pv 10) Ae (A1 _)) (Ad (Bb (C5 PySem.F.plainAttrs_list PySem.F.slot_list_append PySem.F.type_list_append Cg (pv 9) (Aa (A3 Bo (A3 Bo (pv 11) (A3 op_mulS Au Ae)) (A3 op_mulS Au (A0 An (Bf (Aa Ae (Aa Ae Ab))) (Bm call_int1 rfl T.n_int boot_int (Aa (C1 El (pv 4) Ae (A1 _)) Ab)) (fun _ _=>rfl)))) Ab)))) (Ad (A5 (Av El (pv 6) Ae (A1 _)) (Ad (Bb (C5 PySem.F.plainAttrs_list PySem.F.slot_list_append PySem.F.type_list_append Cg (pv 9) (Aa (A3 Bo (A3 Bo (Ba sl_str (pv 7) Bp (Bk (pv 5))) (pv 11)) (Ba sl_str (pv 7) (Bk (pv 5)) Bp)) Ab)))) (Ad (Bb (C5 PySem.F.plainAttrs_list PySem.F.slot_list_append PySem.F.type_list_append Cg (pv 9) (Aa (A3 Bo (pv 11) (Ba sl_str (pv 7) Bp (Bk (Ay F__law_take hr (by decide) rfl (Aa (pv 3) (Aa (A3 B4 (Ai (call_min2 rfl) rfl T.n_min boot_min (Aa (pv 4) (Aa Ae Ab))) Ae) Ab)))))) Ab))))))))))
   (Ad (Ap (pv 9)))))))))))),?_⟩
  have hs:sizeLine=16777216:=sizeLine_eq
  refine ⟨_,rfl,c,rfl,fun b x y z hb=>?_⟩
  have O1:Oth b (upd H b (.lst [.int x,.int y,.int z])) (upd H b (.lst [.int x,.int y,.int z])):=Oth.refl ⟨x,y,z,Ag⟩
  have S0:∀ {H':Hp},Oth b (upd H b (.lst [.int x,.int y,.int z])) H'->Same H H':=fun {H'} o d u e=>o.oth d u (by rw [Aj (Ah e hb)]; exact e) (Ah e hb)
  generalize upd H b (.lst [.int x,.int y,.int z])=H1 at O1 S0 ⊢
  refine ⟨_,rfl,b,8,rfl,O1.box,(by decide),(by decide),fun size H2 s0 s1 o2=>?_⟩
  refine ⟨_,rfl,_,rfl,_,_,rfl,rfl,b,size + 1,rfl,o2.box,(by omega),(by show size + 1 < 10000000000000000000000000000000000000000; omega),fun at_ H3 a0 a1 o3=>?_⟩
  refine ⟨_,rfl,b,2,rfl,o3.box,(by decide),(by decide),fun way H4 w0 w1 o4=>?_⟩
  have O4:=(o2.trans o3).trans o4
  refine ⟨rfl,_,rfl,size,rfl,(by omega),(by omega),comp_range (n:=size.toNat) (fun i ys H'=>(∃ zs:List Nat,ys=zs.map (fun c=>V.str ⟨#[c]⟩)/\zs.length=i/\zs.all C3=true)/\Oth b H1 H') ⟨⟨[],rfl,rfl,rfl⟩,O4⟩ (by omega) ?_ ?_ ?_⟩
  ·rintro i ys H' ⟨⟨zs,rfl,e,_⟩,_⟩
   rw [List.length_map,e]; exact Nat.le_refl _
  ·rintro i ys H5 hi ⟨⟨zs,rfl,e,h1⟩,o5⟩
   refine ⟨_,rfl,_,rfl,b,26,rfl,o5.box,(by decide),(by decide),fun r1 H6 r0 r2 o6=>?_⟩
   obtain ⟨c1,e1,low⟩:=abc_at r0 r2
   refine ⟨_,_,c1,rfl,rfl,abc_len,e1,?_⟩
   exact ⟨⟨zs ++ [c1],by simp,by simp [e],by rw [List.all_append,h1]; simp [low]⟩,o5.trans o6⟩
  ·rintro ys H5 ⟨⟨zs,rfl,e,hlow⟩,o5⟩ p hp
   have O6:Oth b H1 (upd H5 p (.lst (zs.map fun c=>V.str ⟨#[c]⟩))):=o5.new hp
   have em:(zs.map fun c=>V.str ⟨#[c]⟩)=(zs.map fun c=>(⟨#[c]⟩:Str)).map V.str:=by rw [List.map_map]; rfl
   have hsum:((zs.map fun c=>(⟨#[c]⟩:Str)).map (·.length)).sum=zs.length:=by
    clear e O6 em hlow hp
    induction zs with
    | nil=>rfl
    | cons c r ih=>rw [List.map_cons,List.map_cons,List.sum_cons,ih]; show 1 + r.length=r.length + 1; omega
   refine ⟨_,p,zs.map fun c=>⟨#[c]⟩,rfl,rfl,SqL.of (by rw [← em]; exact Ag),(by rw [hsum,List.length_map,e]; show _ + _ * 0<=_; omega),?_⟩
   rw [join_signs zs (Str.ofString "") (by decide +kernel)]
   have zl:zs.length=size.toNat:=e
   have zlen:(⟨zs.toArray⟩:Str).cps.toList=zs:=by simp
   have zlen2:(⟨zs.toArray⟩:Str).length=zs.length:=by show zs.toArray.size=_; rw [List.size_toArray]
   generalize upd H5 p (.lst (zs.map fun c=>V.str ⟨#[c]⟩))=H6 at O6 ⊢
   refine ⟨_,rfl,b,26,rfl,O6.box,(by decide),(by decide),fun first H7 f0 f1 o7=>?_⟩
   have O7:=O6.trans o7
   refine ⟨(by exact Z0),fun l hl=>?_⟩
   generalize hQ9:upd H7 l (.lst [])=H8
   have O8:=O7.trans (Na hQ9 O7.box hl)
   have e8:=Ns hQ9
   have nl:l≠b:=Box.ne O7.box hl
   have hl0:H l=none:=(S0 O7).free hl
   refine ⟨_,rfl,m,rfl,(by omega),(by omega),D5 (n:=m) (fun i σ H'=>∃ (us:List Str) (v10 v11:Option V),σ=[some (.int c),some (.int m),some (.str abc),some (.ref b),some (.int size),some (.int at_),some (.int way),some (.str ⟨zs.toArray⟩),some (.int first),some (.ref l),v10,v11]/\us.length=i/\(∀ z ∈ us,Ak z=true)/\H' l=some (.lst (us.map V.str))/\Box H' b/\Same H H'/\Lett (if way=0 then at_.toNat else 0) first (if size=7 then 7 else 8) us)
    ⟨[],_,_,rfl,rfl,by simp,e8,O8.box,S0 O8,fun j z h=>by simp at h⟩ ?_ ?_⟩
   ·rintro i σ H9 hi ⟨us,v10,v11,rfl,hlen,hall,el,hbox,ss,lett⟩
    have m0:0<=(first + 7 * (0 + (i:Int))) % 26:=Int.emod_nonneg _ (by decide)
    have m1:(first + 7 * (0 + (i:Int))) % 26 < 26:=Int.emod_lt_of_pos _ (by decide)
    obtain ⟨c1,e1,low⟩:=abc_at m0 m1
    refine ⟨_,rfl,_,rfl,_,rfl,_,_,rfl,rfl,.inl ⟨by decide,by decide⟩,_,_,rfl,rfl,_,_,rfl,rfl,(by show (0:Int) < 26; decide),_,_,c1,rfl,rfl,abc_len,e1,?_⟩
    have same2:∀ (HA:Hp) (xs:List V),Same H HA->Same H (upd HA l (.lst xs)):=fun HA xs sA d u e=>by rw [Aj (Ah e hl0)]; exact sA d u e
    refine ⟨_,rfl,_,_,rfl,rfl,_,rfl,ite2 (fun hg=>?_) (fun hg=>?_)⟩
    ·have hg:(25:Int) < 0 + (i:Int):=of_decide_eq_true hg
     have ql:(repZ (3:Int).toNat (Str.ofString "qz")).length=6:=by show (repZ 3 (Str.ofString "qz")).length=6; rw [qz3]; rfl
     have c1l:(⟨#[c1]⟩:Str).length=1:=rfl
     have aw:∀ a b:Str,(a ++ b).length=a.length + b.length:=D2
     have fin:∀ (k:Nat) (H':Hp),(k=0\/k=1)->7 + k=(if size=7 then 7 else 8)->Oth b H9 H'->H' l=some (.lst (us.map V.str))->∃ (us':List Str) (v10 v11:Option V),[some (V.int c),some (V.int m),some (V.str abc),some (V.ref b),some (V.int size),some (V.int at_),some (V.int way),some (V.str ⟨zs.toArray⟩),some (V.int first),some (V.ref l),some (V.int (0 + (i:Int))),some (V.str ⟨#[c1]⟩)]=[some (.int c),some (.int m),some (.str abc),some (.ref b),some (.int size),some (.int at_),some (.int way),some (.str ⟨zs.toArray⟩),some (.int first),some (.ref l),v10,v11]/\us'.length=i + 1/\(∀ z ∈ us',Ak z=true)/\(upd H' l (.lst (us.map V.str ++ [.str (⟨#[c1]⟩ ++ repZ 3 (Str.ofString "qz") ++ repZ k (Str.ofString "x"))]))) l=some (.lst (us'.map V.str))/\Box (upd H' l (.lst (us.map V.str ++ [.str (⟨#[c1]⟩ ++ repZ 3 (Str.ofString "qz") ++ repZ k (Str.ofString "x"))]))) b/\Same H (upd H' l (.lst (us.map V.str ++ [.str (⟨#[c1]⟩ ++ repZ 3 (Str.ofString "qz") ++ repZ k (Str.ofString "x"))])))/\Lett (if way=0 then at_.toNat else 0) first (if size=7 then 7 else 8) us':=fun k H' hk hL oA elA=>by
          obtain ⟨w1,w2,w3⟩:=late low k hk
          refine ⟨us ++ [⟨#[c1]⟩ ++ repZ 3 (Str.ofString "qz") ++ repZ k (Str.ofString "x")],_,_,rfl,by rw [List.length_append,hlen]; rfl,fun z hz=>?_,?_,?_,same2 _ _ (fun d u e=>?_),?_⟩
          ·rcases List.mem_append.mp hz with hz | hz
           ·exact hall z hz
           ·rw [List.mem_singleton] at hz; rw [hz]; exact w1
          ·rw [Ag,List.map_append]; rfl
          ·obtain ⟨x1,y1,z1,hbx⟩:=oA.box
           exact ⟨x1,y1,z1,by rw [Aj (Ne.symm nl)]; exact hbx⟩
          ·exact oA.oth d u (ss d u e) (Ah e hb)
          ·refine lett.snoc (fun h=>by omega) (fun _=>⟨?_,by rw [w2,hL]⟩)
           rw [hlen,e1,w3]
     refine ⟨_,rfl,.inl ⟨rfl,_,SqL.of el⟩,_,rfl,_,_,rfl,rfl,(by decide),(by decide),(by decide +kernel),_,_,rfl,rfl,(by show 1 + (repZ (3:Int).toNat (Str.ofString "qz")).length<=sizeLine; omega),(by exact Z2),fun lx hlx=>?_⟩
     have oX:Oth b H9 (upd H9 lx (.lst [.int 1,.int 0])):=(Oth.refl hbox).new hlx
     have elX:upd H9 lx (.lst [.int 1,.int 0]) l=some (.lst (us.map V.str)):=by rw [Aj (Ah el hlx)]; exact el
     have exX:upd H9 lx (.lst [.int 1,.int 0]) lx=some (.lst [.int 1,.int 0]):=Ag
     generalize upd H9 lx (.lst [.int 1,.int 0])=HX at oX elX exX ⊢
     by_cases h7:size=7
     ·have d7:decide (V.int size=V.int 7)=true:=decide_eq_true (by rw [h7])
      refine ⟨_,rfl,rfl,.inr ⟨_,rfl,?_⟩⟩
      rw [d7]
      refine ⟨lx,_,_,V.int 0,rfl,rfl,SqL.of exX,rfl,_,_,rfl,rfl,(by decide),(by decide),(by decide +kernel),_,_,rfl,rfl,?_,l,_,_,rfl,rfl,elX,(by rw [List.length_map]; omega),?_⟩
      ·rw [aw,ql,c1l]
       have:(repZ (0:Int).toNat (Str.ofString "x")).length=0:=by show (repZ 0 (Str.ofString "x")).length=0; rw [x0]; rfl
       omega
      ·exact fin 0 HX (.inl rfl) (by rw [if_pos h7]) oX elX
     ·have d7:decide (V.int size=V.int 7)=false:=decide_eq_false (fun z=>h7 (V.int.inj z))
      refine ⟨_,rfl,rfl,.inr ⟨_,rfl,?_⟩⟩
      rw [d7]
      refine ⟨lx,_,_,V.int 1,rfl,rfl,SqL.of exX,rfl,_,_,rfl,rfl,(by decide),(by decide),(by decide +kernel),_,_,rfl,rfl,?_,l,_,_,rfl,rfl,elX,(by rw [List.length_map]; omega),?_⟩
      ·rw [aw,ql,c1l]
       have:(repZ (1:Int).toNat (Str.ofString "x")).length=1:=by show (repZ 1 (Str.ofString "x")).length=1; rw [x1]; rfl
       omega
      ·exact fin 1 HX (.inr rfl) (by rw [if_neg h7]) oX elX
    have hng:¬ ((25:Int) < 0 + (i:Int)):=fun z=>hg (decide_eq_true z)
    have hi26:i < 26:=by omega
    refine ⟨_,rfl,rfl,_,rfl,ite2 (fun hw=>?_) (fun hw=>?_)⟩
    ·have hw':way=0:=V.int.inj (of_decide_eq_true hw)
     obtain ⟨a,rfl⟩:∃ a:Nat,at_=(a:Int):=⟨at_.toNat,by omega⟩
     have ha:a<=(⟨zs.toArray⟩:Str).cps.toList.length:=by rw [zlen]; omega
     have t1:=slice_to ha
     have t2:=slice_from ha
     rw [zlen] at t1 t2
     have wd:(⟨(zs.take a).toArray⟩:Str) ++ ⟨#[c1]⟩ ++ ⟨(zs.drop a).toArray⟩=⟨(zs.take a ++ [c1] ++ zs.drop a).toArray⟩:=by
          rw [show (⟨#[c1]⟩:Str)=⟨([c1]:List Nat).toArray⟩ from rfl,app_l,app_l]
     have ln:(zs.take a ++ [c1] ++ zs.drop a).length=zs.length + 1:=by
          rw [List.length_append,List.length_append,List.length_take,List.length_drop,List.length_singleton]
          rw [zlen] at ha
          omega
     have isw:Ak (⟨(zs.take a).toArray⟩ ++ ⟨#[c1]⟩ ++ ⟨(zs.drop a).toArray⟩:Str)=true:=by
          rw [wd]
          refine word_l (by omega) (by omega) ?_
          rw [List.all_append,List.all_append,all_take hlow,all_drop hlow]
          simp [low]
     have len1:(⟨(zs.take a).toArray⟩:Str).length<=7:=by show (zs.take a).toArray.size<=7; rw [List.size_toArray,List.length_take]; omega
     have len2:(⟨(zs.drop a).toArray⟩:Str).length<=7:=by show (zs.drop a).toArray.size<=7; rw [List.size_toArray,List.length_drop]; omega
     refine ⟨_,rfl,.inl ⟨rfl,_,SqL.of el⟩,_,rfl,_,rfl,_,rfl,⟨zs.toArray⟩,rfl,(by omega),?_⟩
     rw [t1]
     refine ⟨_,rfl,_,_,rfl,rfl,(by show _ + 1<=sizeLine; omega),_,rfl,_,rfl,_,rfl,⟨zs.toArray⟩,rfl,(by omega),?_⟩
     rw [t2]
     refine ⟨_,_,rfl,rfl,?_,l,_,_,rfl,rfl,el,(by rw [List.length_map]; omega),?_⟩
     ·have:((⟨(zs.take a).toArray⟩:Str) ++ (⟨#[c1]⟩:Str)).length=(⟨(zs.take a).toArray⟩:Str).length + 1:=by
       show ((zs.take a).toArray ++ #[c1]).size=_
       rw [Array.size_append]
       rfl
      omega
     ·refine ⟨us ++ [⟨(zs.take a).toArray⟩ ++ ⟨#[c1]⟩ ++ ⟨(zs.drop a).toArray⟩],_,_,rfl,by rw [List.length_append,hlen]; rfl,fun z hz=>?_,?_,?_,same2 _ _ ss,?_⟩
      ·rcases List.mem_append.mp hz with hz | hz
       ·exact hall z hz
       ·rw [List.mem_singleton] at hz; rw [hz]; exact isw
      ·rw [Ag,List.map_append]; rfl
      ·obtain ⟨x1,y1,z1,hbx⟩:=hbox
       exact ⟨x1,y1,z1,by rw [Aj (Ne.symm nl)]; exact hbx⟩
      ·refine lett.snoc (fun _=>⟨?_,?_⟩) (fun h=>by omega)
       rotate_left
       ·rw [wd]
        show (zs.take a ++ [c1] ++ zs.drop a).toArray.size≠_
        rw [List.size_toArray,ln]
        split <;> omega
       rw [hlen,e1,if_pos hw',wd,Int.toNat_natCast]
       rw [zlen] at ha
       show ((zs.take a ++ [c1] ++ zs.drop a).toArray.toList)[a]?=some c1
       have hta:(zs.take a).length=a:=by rw [List.length_take]; omega
       rw [List.toList_toArray,List.append_assoc,List.getElem?_append_right (by omega),hta,Nat.sub_self]
       rfl
    ·have hw':¬ way=0:=fun z=>hw (by rw [z]; exact decide_eq_true rfl)
     refine ⟨_,rfl,.inl ⟨rfl,_,SqL.of el⟩,_,rfl,_,rfl,_,rfl,_,rfl,_,_,rfl,_,_,rfl,rfl,b,(if (5:Int) < size then 5 else size) + 1,rfl,hbox,(by split <;> omega),(by show (if (5:Int) < size then (5:Int) else size) + 1 < 10000000000000000000000000000000000000000; split <;> omega),fun n HA n0 n1 oA=>?_⟩
     have elA:HA l=some (.lst (us.map V.str)):=oA.oth _ _ el nl
     obtain ⟨k,rfl⟩:∃ k:Nat,n=(k:Int):=⟨n.toNat,by omega⟩
     have hk5:k<=zs.length:=by split at n1 <;> omega
     have ha:k<=(⟨zs.toArray⟩:Str).cps.toList.length:=by rw [zlen]; exact hk5
     have t1:=slice_to ha
     rw [zlen] at t1
     have wd:(⟨#[c1]⟩:Str) ++ ⟨(zs.take k).toArray⟩=⟨([c1] ++ zs.take k).toArray⟩:=by
          rw [show (⟨#[c1]⟩:Str)=⟨([c1]:List Nat).toArray⟩ from rfl,app_l]
     have ln:([c1] ++ zs.take k).length<=8/\1<=([c1] ++ zs.take k).length:=by
          rw [List.length_append,List.length_take,List.length_singleton]
          omega
     have isw:Ak (⟨#[c1]⟩ ++ ⟨(zs.take k).toArray⟩:Str)=true:=by
          rw [wd]
          refine word_l ln.2 ln.1 ?_
          rw [List.all_append,all_take hlow]
          simp [low]
     have len1:(⟨(zs.take k).toArray⟩:Str).length<=7:=by show (zs.take k).toArray.size<=7; rw [List.size_toArray,List.length_take]; omega
     refine ⟨_,rfl,⟨zs.toArray⟩,rfl,(by omega),?_⟩
     rw [t1]
     refine ⟨_,_,rfl,rfl,(by show 1 + _<=sizeLine; omega),l,_,_,rfl,rfl,elA,(by rw [List.length_map]; omega),?_⟩
     refine ⟨us ++ [⟨#[c1]⟩ ++ ⟨(zs.take k).toArray⟩],_,_,rfl,by rw [List.length_append,hlen]; rfl,fun z hz=>?_,?_,?_,same2 _ _ (fun d u e=>?_),?_⟩
     ·rcases List.mem_append.mp hz with hz | hz
      ·exact hall z hz
      ·rw [List.mem_singleton] at hz; rw [hz]; exact isw
     ·rw [Ag,List.map_append]; rfl
     ·obtain ⟨x1,y1,z1,hbx⟩:=oA.box
      exact ⟨x1,y1,z1,by rw [Aj (Ne.symm nl)]; exact hbx⟩
     ·exact oA.oth d u (ss d u e) (Ah e hb)
     ·refine lett.snoc (fun _=>⟨?_,?_⟩) (fun h=>by omega)
      ·rw [hlen,e1,if_neg hw',wd]
       rfl
      ·rw [wd]
       show ([c1] ++ zs.take k).toArray.size≠_
       rw [List.size_toArray,List.length_append,List.length_take,List.length_singleton]
       split at n1 <;> split <;> omega
   ·rintro σ H9 ⟨us,v10,v11,rfl,hlen,hall,el,hbox,ss,lett⟩
    exact ⟨_,rfl,q l us H9 ss el hlen hall (lett.nodup (by omega)) hl0⟩
end
end K34
namespace L2
open PySem PySem.Spec PyProof.Rows
theorem call_intT {X:Cx}:CallR X (.type "int") (fun xs H Q=>∃ z n,xs=[.str z]/\PySem.intText? z=some n/\z.length<=640/\Q (.int n) H):=by
 intro pins s σ H xs us Q I r h
 obtain ⟨z,n,rfl,hn,hl,q⟩:=h
 obtain ⟨u,rfl,ru⟩:=vals1 r
 obtain ⟨t,rfl⟩:=ru
 exact PySem.W.KIN.call_text hn hl ⟨.int n,H,I.tok _,⟨_,rfl⟩,q⟩
end L2
namespace K34
open PySem L2 PyProof.Rows
structure Tx2 (mg:Str->Option Value):Prop where
 g_FIGURES:∃ t,mg "FIGURES"=some (.str "0123456789" t)
 n_reversed:mg "reversed"=none
def jl (c:Nat):List (List Nat)->List Nat
 | []=>[]
 | [x]=>x
 | x :: y :: r=>x ++ c :: jl c (y :: r)
theorem Ey (a b:Str):(a ++ b).cps.toList=a.cps.toList ++ b.cps.toList:=by
 show (a.cps ++ b.cps).toList=_
 simp
theorem D3 (c:Nat):∀ ws:List Str,(Str.join ⟨#[c]⟩ ws).cps.toList=jl c (ws.map (·.cps.toList))
 | []=>rfl
 | [x]=>rfl
 | x :: y :: r=>by
   show (x ++ ⟨#[c]⟩ ++ Str.join ⟨#[c]⟩ (y :: r)).cps.toList=x.cps.toList ++ c :: jl c ((y :: r).map (·.cps.toList))
   rw [Ey,Ey,D3 c (y :: r)]
   simp
theorem cut_inj {c:Nat}:∀ {x y a b:List Nat},c ∉ x->c ∉ y->x ++ c :: a=y ++ c :: b->x=y/\a=b
 | [],[],a,b,_,_,h=>⟨rfl,by simpa using h⟩
 | [],d :: y,a,b,_,hy,h=>by
   simp only [List.nil_append,List.cons_append,List.cons.injEq] at h
   exact absurd h.1 (fun e=>hy (by rw [e]; exact List.mem_cons_self))
 | d :: x,[],a,b,hx,_,h=>by
   simp only [List.nil_append,List.cons_append,List.cons.injEq] at h
   exact absurd h.1 (fun e=>hx (by rw [← e]; exact List.mem_cons_self))
 | d :: x,e :: y,a,b,hx,hy,h=>by
   simp only [List.cons_append,List.cons.injEq] at h
   obtain ⟨h1,h2⟩:=cut_inj (fun m=>hx (List.mem_cons_of_mem _ m)) (fun m=>hy (List.mem_cons_of_mem _ m)) h.2
   exact ⟨by rw [h.1,h1],h2⟩
theorem jl_inj {c:Nat}:∀ {xs ys:List (List Nat)},xs≠[]->ys≠[]->(∀ x ∈ xs,c ∉ x)->(∀ y ∈ ys,c ∉ y)->jl c xs=jl c ys->xs=ys
 | [],_,h,_,_,_,_=>absurd rfl h
 | _,[],_,h,_,_,_=>absurd rfl h
 | [x],[y],_,_,_,_,h=>by rw [show x=y from h]
 | [x],y :: y' :: r,_,_,hx,_,h=>by
   have h:x=y ++ c :: jl c (y' :: r):=h
   exact absurd (by rw [h]; simp) (hx x List.mem_cons_self)
 | x :: x' :: r,[y],_,_,_,hy,h=>by
   have h:x ++ c :: jl c (x' :: r)=y:=h
   exact absurd (by rw [← h]; simp) (hy y List.mem_cons_self)
 | x :: x' :: r,y :: y' :: r',_,_,hx,hy,h=>by
   have h:x ++ c :: jl c (x' :: r)=y ++ c :: jl c (y' :: r'):=h
   obtain ⟨h1,h2⟩:=cut_inj (hx x List.mem_cons_self) (hy y List.mem_cons_self) h
   rw [h1,jl_inj (by simp) (by simp) (fun z hz=>hx z (List.mem_cons_of_mem _ hz)) (fun z hz=>hy z (List.mem_cons_of_mem _ hz)) h2]
theorem str_inj:∀ {a b:Str},a.cps.toList=b.cps.toList->a=b
 | ⟨a⟩,⟨b⟩,h=>by rw [show a=b from Array.toList_inj.mp h]
theorem strs_inj:∀ {a b:List Str},a.map (·.cps.toList)=b.map (·.cps.toList)->a=b
 | [],[],_=>rfl
 | [],_ :: _,h=>by cases h
 | _ :: _,[],h=>by cases h
 | x :: a,y :: b,h=>by
   simp only [List.map_cons,List.cons.injEq] at h
   rw [str_inj h.1,strs_inj h.2]
theorem split_join {c:Nat} {ws:List Str} (hne:ws≠[]) (hf:∀ z ∈ ws,c ∉ z.cps.toList):Txt.split (Txt.join ⟨#[c]⟩ ws) ⟨#[c]⟩=ws:=by
 have e:Txt.join ⟨#[c]⟩ ws=Str.join ⟨#[c]⟩ ws:=StrLaws.glued_eq_join _ _
 rw [e]
 have h:=StrLaws.join_split (Str.join ⟨#[c]⟩ ws) ⟨#[c]⟩
 refine strs_inj (jl_inj (c:=c) ?_ ?_ ?_ ?_ ?_)
 ·intro z
  have:=split_pos (Str.join ⟨#[c]⟩ ws) ⟨#[c]⟩
  rw [← List.length_map (f:=fun z:Str=>z.cps.toList),z] at this
  exact absurd this (by decide)
 ·intro z
  exact hne (List.map_eq_nil_iff.mp z)
 ·intro x hx
  obtain ⟨z,hz,rfl⟩:=List.mem_map.mp hx
  exact StrLaws.split_free _ _ z hz
 ·intro x hx
  obtain ⟨z,hz,rfl⟩:=List.mem_map.mp hx
  exact hf z hz
 ·rw [← D3,← D3,h]
theorem join_cons (s x:Str):∀ {r:List Str},r≠[]->Str.join s (x :: r)=x ++ s ++ Str.join s r
 | [],h=>absurd rfl h
 | y :: r,_=>rfl
theorem tjoin (s:Str) (xs:List Str):Txt.join s xs=Str.join s xs:=StrLaws.glued_eq_join _ _
theorem sum_le:∀ {zs:List Str} {k:Nat},(∀ z ∈ zs,z.length<=k)->(zs.map (·.length)).sum<=zs.length * k
 | [],k,_=>by simp
 | z :: zs,k,h=>by
   rw [List.map_cons,List.sum_cons,List.length_cons]
   have:=sum_le (zs:=zs) fun x hx=>h x (List.mem_cons_of_mem _ hx)
   have:=h z List.mem_cons_self
   rw [Nat.add_mul]
   omega
theorem join_ok {zs:List Str} {s:Str} {k n:Nat} (h:∀ z ∈ zs,z.length<=k) (hn:zs.length<=n) (hs:n * k + n * s.length<=16777216):(zs.map (·.length)).sum + zs.length * s.length<=16777216:=by
 have h1:=sum_le h
 have h2:=Nat.mul_le_mul_right k hn
 have h3:=Nat.mul_le_mul_right s.length hn
 omega
theorem len_join_le (s:Str) (zs:List Str):(Txt.join s zs).length<=(zs.map (·.length)).sum + zs.length * s.length:=by
 rw [tjoin]
 exact StrLaws.join_length_le s zs
def isFig (c:Nat):Bool:=decide (48<=c/\c<=57)
def nT (n:Nat):Str:=Str.ofString (toString (n:Int))
def figOk (n:Nat):Bool:=decide (1<=(nT n).length/\(nT n).length<=4) && !(decide ((nT n).cps.getD 0 0=48) && decide (1 < (nT n).length)) && (nT n).cps.toList.all isFig
theorem fig_all:∀ a:Fin 100,figOk a.val=true:=by decide +kernel
theorem fig_ok {n:Nat} (h:n < 100):figOk n=true:=fig_all ⟨n,h⟩
theorem word_len {z:Str} (h:Ak z=true):z.length<=8:=by
 unfold Ak at h
 rw [Bool.and_eq_true] at h
 exact (of_decide_eq_true h.1).2
def textZ (a:Str) (n:Int):Str:=a ++ Str.ofString "." ++ Str.ofString (toString n)
theorem small_text:∀ n:Fin 100,(Str.ofString (toString (n.val:Int))).length<=2:=by decide +kernel
theorem text_len {a:Str} {n:Int} (ha:Ak a=true) (h0:0<=n) (h1:n < 100):(textZ a n).length<=11:=by
 unfold textZ
 rw [D2,D2]
 have e:(Str.ofString ".").length=1:=by decide +kernel
 have:=small_text ⟨n.toNat,by omega⟩
 have e2:((n.toNat:Nat):Int)=n:=by omega
 simp only [e2] at this
 unfold Ak at ha
 simp only [Bool.and_eq_true,decide_eq_true_eq] at ha
 omega
theorem log_small {n:Int} (h0:0<=n) (h1:n < 10000):n.natAbs.log2 < 1920:=by
 have:n.natAbs < 2 ^ 14:=by omega
 by_cases hz:n.natAbs=0
 ·rw [hz]; decide
 ·have:=(Nat.log2_lt hz).mpr this
  omega
theorem mp_rest2 {C R G:Prop} (r:C->R) (h:(C->R)->G):G:=h r
theorem fig_in (c:Nat):(!(Builtin.Str.occurrences (Str.ofString "0123456789") ⟨#[c]⟩ 0 (Str.ofString "0123456789").length 1).isEmpty)=isFig c:=by
 rw [PySem.StrLaws.found_one]
 have e:(Str.ofString "0123456789").cps.toList=[48,49,50,51,52,53,54,55,56,57]:=by decide +kernel
 rw [e,Bool.eq_iff_iff]
 have h1:∀ c ∈ ([48,49,50,51,52,53,54,55,56,57]:List Nat),isFig c=true:=by decide +kernel
 have h2:∀ i:Fin 10,48 + i.val ∈ ([48,49,50,51,52,53,54,55,56,57]:List Nat):=by decide +kernel
 refine ⟨fun h=>h1 c (of_decide_eq_true h),fun h=>decide_eq_true ?_⟩
 unfold isFig at h
 have h:=of_decide_eq_true h
 obtain ⟨d,rfl⟩:=Nat.exists_eq_add_of_le h.1
 exact h2 ⟨d,by omega⟩
structure NumT (z:Str) (L:Nat):Prop where
 h1:1<=z.length
 h2:z.length<=L
 h3:¬ (z.cps.getD 0 0=48/\1 < z.length)
 h4:z.cps.toList.all isFig=true
theorem num4 {n:Nat} (h:n < 100):NumT (nT n) 4:=by
 have:=fig_ok h
 unfold figOk at this
 simp only [Bool.and_eq_true,decide_eq_true_eq,Bool.not_eq_true',Bool.and_eq_false_iff,decide_eq_false_iff_not] at this
 obtain ⟨⟨⟨a,b⟩,c⟩,d⟩:=this
 exact ⟨a,b,fun ⟨x,y⟩=>c.elim (fun f=>f x) (fun f=>f y),d⟩
theorem num2 {n:Nat} (h:n < 100):NumT (nT n) 2:=by
 obtain ⟨a,b,c,d⟩:=num4 (n:=n) (by omega)
 exact ⟨a,small_text ⟨n,h⟩,c,d⟩
theorem dot1:(".":Str)=⟨#[46]⟩:=by decide +kernel
theorem word_no {z:Str} (h:Ak z=true) {c:Nat} (hc:¬ (97<=c/\c<=122)):c ∉ z.cps.toList:=fun m=>by
 unfold Ak at h
 rw [Bool.and_eq_true] at h
 have:=List.all_eq_true.mp h.2 c m
 unfold C3 at this
 exact hc (of_decide_eq_true this)
theorem fig_no {z:Str} {L:Nat} (h:NumT z L) {c:Nat} (hc:¬ (48<=c/\c<=57)):c ∉ z.cps.toList:=fun m=>by
 have:=List.all_eq_true.mp h.h4 c m
 unfold isFig at this
 exact hc (of_decide_eq_true this)
theorem split_key {a:Str} {n:Nat} (ha:Ak a=true) (hn:n < 100):Txt.split (textZ a n) "."=[a,nT n]:=by
 have e:textZ a n=Txt.join ⟨#[46]⟩ [a,nT n]:=by
  rw [tjoin]
  show a ++ (".":Str) ++ nT n=a ++ ⟨#[46]⟩ ++ nT n
  rw [dot1]
 rw [e,dot1]
 refine split_join (by simp) fun z hz=>?_
 simp only [List.mem_cons,List.not_mem_nil,or_false] at hz
 rcases hz with rfl | rfl
 ·exact word_no ha (by decide)
 ·exact fig_no (num2 hn) (by decide)
def spIKT:Sp:=fun vs H Q _=>∃ (a:Str) (n:Nat),vs=[.str (textZ a n)]/\Ak a=true/\n < 100/\∀ H',Same H H'->Q (.bl true) H'
def spKeO:Sp:=fun vs H Q _=>∃ (a:Str) (n:Nat),vs=[.str (textZ a n)]/\Ak a=true/\n < 100/\∀ (p:Addr) (H':Hp),Same H H'->H' p=some (.tup [.str a,.int n])->Q (.ref p) H'
section
variable {P:Program} {w:World} {K:PySem.W.Frag} {mg:Str->Option Value} {base:Heap} {J:Js}
abbrev skey_text:Stmt:=top 21
theorem sckey_text:Ao ["key","word","number"] ["key"] (Af skey_text):=by trivial
def spKeyText (K:PySem.W.Frag):Sp:=fun vs H Q _=>∃ t a n,vs=[.ref t]/\SqT K H t [.str a,.int n]/\Ak a=true/\0<=n/\n < 100/\Q (.str (textZ a n)) H
theorem ok_key_text (F:Al K mg "key_text" skey_text ["key"]):FnAt P w K mg base "key_text" 1 ["key"] (spKeyText K):=by
 refine F.at sckey_text (fun vs H Q E h=>?_) (fun f cdv A outer s H vs Q E hr h=>?_)
 ·obtain ⟨t,a,n,rfl,_⟩:=h
  rfl
 ·obtain ⟨t,a,n,rfl,ht,ha,h0,h1,q⟩:=h
  refine ⟨_,(Ac (As (i:=1) sckey_text.nd rfl (by trivial) (A0 C2 (pv 0) Ae (fun _ _=>rfl)))
   (Ac (As (i:=2) sckey_text.nd rfl (by trivial) (A0 C2 (pv 0) Ae (fun _ _=>rfl)))
   (Ad (Ap (pe_f3 (pv 1) (pv 2)))))),?_⟩
  have hs:sizeLine=16777216:=sizeLine_eq
  have tl:=text_len ha h0 h1
  have al:a.length<=8:=by
   unfold Ak at ha
   simp only [Bool.and_eq_true,decide_eq_true_eq] at ha
   exact ha.1.2
  refine ⟨_,rfl,t,_,_,V.str a,rfl,rfl,ht,rfl,?_⟩
  refine ⟨_,rfl,t,_,_,V.int n,rfl,rfl,ht,rfl,?_⟩
  exact ⟨_,rfl,a,rfl,(by have e:(Str.ofString ".").length=1:=by decide +kernel
                         omega),_,rfl,n,rfl,log_small h0 (by omega),(by show (textZ a n).length<=_; omega),q⟩
abbrev Cd:Stmt:=top 22
theorem scis_number_text:Ao ["text","longest"] ["text","longest"] (Af Cd):=by trivial
abbrev Eb:Stmt:=top 23
theorem scis_key_text:Ao ["text","halves"] ["text"] (Af Eb):=by trivial
abbrev skey_of:Stmt:=top 24
theorem sckey_of:Ao ["text","halves"] ["text"] (Af skey_of):=by trivial
theorem ok_keo (T:Txt mg) (F_is_key_text:FnAt P w K mg base "is_key_text" 2 ["text"] spIKT) (F:Al K mg "key_of" skey_of ["text"]) :
 FnAt P w K mg base "key_of" 3 ["text"] spKeO:=by
 refine F.at sckey_of (fun vs H Q E h=>?_) (fun f cdv A outer s H vs Q E hr h=>?_)
 ·obtain ⟨a,n,rfl,_⟩:=h
  rfl
 ·obtain ⟨a,n,rfl,ha,hn,q⟩:=h
  refine ⟨_,(Ac (A5 (PW.pt (pw_or (Bl (Bw (Ai (D7 .str (by simp)) rfl T.n_isinstance boot_isinstance (Aa (pv 0) (Aa (B3 (v:=.ty "str") rfl T.n_str boot_str rfl) Ab))))) (Ei (Bl (Bw (Ay F_is_key_text hr (by decide) rfl (Aa (pv 0) Ab))))))) (Ad A4) Am)
   (Ac (As (i:=1) sckey_of.nd rfl (by trivial) (C5 PySem.F.plainAttrs_str PySem.F.slot_str_split PySem.F.type_str_split mt_split (pv 0) (Aa Au Ab)))
   (Ad (Ap (Bj (Aa (A0 An (pv 1) Ae (fun _ _=>rfl)) (Aa (Bm call_intT rfl T.n_int boot_int (Aa (A0 An (pv 1) Ae (fun _ _=>rfl)) Ab)) Ab))))))),?_⟩
  have hs:sizeLine=16777216:=sizeLine_eq
  have tl:=text_len ha (n:=(n:Int)) (by omega) (by omega)
  refine ⟨_,rfl,_,.str,rfl,TyOf.str _,_,rfl,iteF ?_⟩
  refine ⟨_,rfl,a,n,rfl,ha,hn,fun H0 s0=>⟨_,rfl,iteF ?_⟩⟩
  refine ⟨_,rfl,rfl,textZ a n,".",rfl,rfl,(by decide +kernel),(by omega),fun p hp=>?_⟩
  rw [split_key ha hn]
  generalize hQ9:upd H0 p (.lst (([a,nT n]:List Str).map V.str))=H1
  have s1:=Nw hQ9 hp
  have l1:H1 p=some (.lst [.str a,.str (nT n)]):=Ns hQ9
  have il:PySem.intText? (nT n)=some (n:Int):=PySem.W.KIN.num_reads (by omega) (by omega)
  have nl:=(num2 hn).h2
  refine ⟨_,rfl,p,_,_,V.str a,rfl,rfl,SqL.of l1,rfl,_,rfl,p,_,_,V.str (nT n),rfl,rfl,SqL.of l1,rfl,nT n,n,rfl,il,(by omega),(by exact Z2),fun p2 hp2=>?_⟩
  exact q p2 _ ((s0.trans s1).trans (Same.new hp2)) Ag
def JW:List Str:=[nm 0,nm 1,nm 2,nm 3]
def spJW:Sp:=fun vs H Q _=>vs=[]/\∀ (l:Addr) (H':Hp),Same H H'->H l=none->H' l=some (.lst (JW.map V.str))->Q (.ref l) H'
abbrev Du:Stmt:=top 32
theorem scjoin_words:Ao [] [] (Af Du):=by trivial
theorem ok_jw (D:JHas P w K mg base J) (F_all_joins:FnAt P w K mg base "all_joins" 1 [] (spAll J)) (F:Al K mg "join_words" Du []):FnAt P w K mg base "join_words" 2 [] spJW:=by
 refine F.at scjoin_words (fun vs H Q E h=>?_) (fun f cdv A outer s H vs Q E hr h=>?_)
 ·obtain ⟨rfl,_⟩:=h
  rfl
 ·obtain ⟨rfl,q⟩:=h
  refine ⟨_,(Ad (Ap (Bz (sc:=Af Du) (N0:=[]) (xs:=["join"]) (ys:=[]) (js:=[]) (by trivial) rfl (Bn (pe_fn0 F_all_joins hr (by decide) rfl)) (fun _ _ _ _=>(Aw (i:=0) (show (["join"]:List Str).Nodup by decide +kernel) rfl (by trivial))) (fun _ _ _ _=>B9) (fun _ _ _ _=>(pe_methD (D:=DW J) (pv 0) D.hDW (hr.mono (by decide)) pass0))))),?_⟩
  refine ⟨rfl,fun l p0 p1 p2 p3 H1 s1 el a0 a1 a2 a3=>?_⟩
  refine ⟨l,rfl,⟨_,SqL.of el⟩,Br (K:=K) (a:=l) (xs:=[V.ref p0,V.ref p1,V.ref p2,V.ref p3]) (fun j us H'=>us=(JW.take j).map V.str/\H'=H1) ⟨rfl,rfl⟩ (by exact Z4) ?_ ?_ ?_ ?_⟩
  ·rintro j us H' ⟨rfl,_⟩
   rw [List.length_map,List.length_take]; omega
  ·rintro j us H' _ ⟨_,rfl⟩
   exact SqL.of el
  ·rintro j x us H' hx ⟨rfl,rfl⟩
   obtain ⟨p,dx,h4,rfl,hp⟩:=at4 a0 a1 a2 a3 j x hx
   refine ⟨_,rfl,p,J.c j,dx,[],spC (.str (nm j)),rfl,hp,rfl,⟨j,h4,rfl,rfl⟩,⟨p,rfl⟩,?_,rfl⟩
   rcases j4 h4 with rfl | rfl | rfl | rfl <;> rfl
  ·rintro us H' ⟨rfl,rfl⟩ l2 hl2
   exact q l2 _ (s1.trans (Same.new hl2)) (s1.free hl2) Ag
end
end K34
namespace K34
open PySem L2 PyProof.Rows PySem.SeqAt
def keyT (k:Str × Nat):Str:=textZ k.1 (k.2:Int)
def partW (d:Nd):List Str:=d.n :: d.o.map keyT
def A9 (n:Nat):Str:=repZ n (Str.ofString "-")
def rowW (y:List (Nat × Str) × Nd):List Str:=match y.1.getLast? with
 | none=>partW y.2
 | some l=>A9 y.1.length :: nm l.1 :: partW y.2
def rowT (y:List (Nat × Str) × Nd):Str:=Txt.join " " (rowW y)
def textW (d:Nd):Str:=Txt.join "\n" ((Ct d).map rowT)
theorem strokes_list (n:Nat):(A9 n).cps.toList=List.replicate n 45:=by
 unfold A9 repZ
 have e:(Str.ofString "-").cps.toList=[45]:=by decide +kernel
 rw [e]
 induction n with
 | zero=>rfl
 | succ n ih=>rw [List.replicate_succ,List.flatten_cons,List.replicate_succ]; simpa using ih
theorem Ds (n:Nat):(A9 n).length=n:=by
 show (A9 n).cps.size=n
 rw [← Array.length_toList,strokes_list,List.length_replicate]
theorem nm_len (j:Nat):(nm j).length<=7:=by
 match j with
 | 0=>decide +kernel
 | 1=>decide +kernel
 | 2=>decide +kernel
 | n + 3=>exact (by decide +kernel:(Str.ofString "changed").length<=7)
theorem keyT_len {k:Str × Nat} (h:Ak k.1=true/\k.2 < 100):(keyT k).length<=11:=text_len h.1 (by omega) (by omega)
structure NdOk (d:Nd):Prop where
 n:Ak d.n=true
 o:GoodO d.o
theorem PAt.ok {C:Addr} {H:Hp} {a:Addr} {d:Nd} (h:PAt C H a d):NdOk d:=by
 obtain ⟨_,_,_,_,_,hw,⟨_,_,_,g⟩,_⟩:=h
 exact ⟨hw,g⟩
theorem partW_len {d:Nd} (h:NdOk d):(partW d).length<=3/\∀ z ∈ partW d,z.length<=11:=by
 refine ⟨?_,fun z hz=>?_⟩
 ·show (d.o.map keyT).length + 1<=3
  rw [List.length_map]
  have:=h.o.l2
  omega
 ·rcases List.mem_cons.mp hz with rfl | hz
  ·have:=word_len h.n; omega
  ·obtain ⟨k,hk,rfl⟩:=List.mem_map.mp hz
   exact keyT_len (h.o.ok k hk)
theorem rowW_len {y:List (Nat × Str) × Nd} (h:NdOk y.2) (hr:y.1.length<=1000):(rowW y).length<=5/\∀ z ∈ rowW y,z.length<=1000:=by
 obtain ⟨a,b⟩:=partW_len h
 unfold rowW
 split
 ·exact ⟨by omega,fun z hz=>by have:=b z hz; omega⟩
 ·rename_i l _
  refine ⟨by rw [List.length_cons,List.length_cons]; omega,fun z hz=>?_⟩
  rcases List.mem_cons.mp hz with rfl | hz
  ·rw [Ds]; exact hr
  ·rcases List.mem_cons.mp hz with rfl | hz
   ·have:=nm_len l.1; omega
   ·have:=b z hz; omega
theorem rowT_len {y:List (Nat × Str) × Nd} (h:NdOk y.2) (hr:y.1.length<=1000):(rowT y).length<=5005:=by
 obtain ⟨a,b⟩:=rowW_len h hr
 have h1:=len_join_le " " (rowW y)
 have h2:=sum_le b
 have h3:((" ":Str)).length=1:=by decide +kernel
 have h4:=Nat.mul_le_mul_right 1000 a
 unfold rowT
 rw [h3] at h1
 omega
theorem atI_last {α:Type} {xs:List α} {i:Nat} {x:α} (hn:xs.length=i + 1) (h:xs[i]?=some x):atI xs (-1)=some x:=by
 have e:ixN xs.length (-1)=some i:=by
  unfold ixN
  rw [if_neg (by decide),hn]
  rw [if_pos (by omega)]
  congr 1
  omega
 unfold atI
 rw [e]
 exact h
section
variable {P:Program} {w:World} {K:PySem.W.Frag} {mg:Str->Option Value} {base:Heap} {C:Addr}
def spPW (C:Addr):Sp:=fun vs H Q _=>∃ (a:Addr) (d:Nd),vs=[.ref a]/\PAt C H a d/\∀ (l:Addr) (H':Hp),Same H H'->H' l=some (.lst ((partW d).map V.str))->Q (.ref l) H'
abbrev Dt:Stmt:=top 52
theorem scpart_words:Ao ["part"] ["part"] (Af Dt):=by trivial
theorem ok_pw (kit:PKit K C) (F_key_text:FnAt P w K mg base "key_text" 1 ["key"] (spKeyText K)) (F:Al K mg "part_words" Dt ["part"]):FnAt P w K mg base "part_words" 2 ["part"] (spPW C):=by
 refine F.at scpart_words (fun vs H Q E h=>?_) (fun f cdv A outer s H vs Q E hr h=>?_)
 ·obtain ⟨a,d,rfl,_⟩:=h
  rfl
 ·obtain ⟨a,d,rfl,⟨dx,po,pb,kt,hA,hw,⟨ps,hpo,hkr,go⟩,_⟩,q⟩:=h
  refine ⟨_,(Ad (Ap (A3 Ev (Bf (Aa (Dl (pv 0) rfl) Ab)) (Bz (sc:=Af Dt) (N0:=["part"]) (xs:=["offer"]) (ys:=[]) (js:=[]) (by trivial) rfl (pi_tup (Dl (pv 0) rfl)) (fun _ _ _ _=>(Aw (i:=0) (show (["offer"]:List Str).Nodup by decide +kernel) rfl (by trivial))) (fun _ _ _ _=>B9) (fun _ _ _ _=>(Ay F_key_text hr (by decide) rfl (Aa (pv 0) Ab))))))),?_⟩
  have hs:sizeLine=16777216:=sizeLine_eq
  have pl:ps.length<=2:=by rw [hkr.1]; exact go.l2
  refine ⟨_,rfl,a,C,dx,_,_,rfl,hA,kit.cl,kit.name,Dk,(by exact Z1),fun l1 h1=>?_⟩
  generalize hQ9:upd H l1 (.lst [.str d.n])=H1
  have s1:=Nw hQ9 h1
  have e1:=Ns hQ9
  refine ⟨_,rfl,a,C,dx,_,_,rfl,s1 _ _ hA,kit.cl,kit.offers,pF_offers,po,rfl,⟨_,SqT.of (s1 _ _ hpo)⟩,comp_tup (K:=K) (a:=po) (xs:=ps.map V.ref) (fun i ys H'=>ys=((d.o.take i).map keyT).map V.str/\H'=H1) ⟨by simp,rfl⟩ (by rw [List.length_map]; omega) ?_ ?_ ?_ ?_⟩
  ·rintro i ys H' ⟨rfl,_⟩
   rw [List.length_map,List.length_map,List.length_take]; omega
  ·rintro i ys H' _ ⟨_,rfl⟩
   exact SqT.of (s1 _ _ hpo)
  ·rintro i x ys H' hx ⟨rfl,rfl⟩
   rw [List.getElem?_map] at hx
   obtain ⟨p,hp,rfl⟩:=Option.map_eq_some_iff.mp hx
   obtain ⟨k,hk,hpk⟩:=hkr.at hp
   have kok:=go.ok k (List.mem_of_getElem? hk)
   refine ⟨_,rfl,p,k.1,(k.2:Int),rfl,SqT.of (s1 _ _ hpk),kok.1,by omega,by omega,?_,rfl⟩
   rw [A6 hk,List.map_append,List.map_append]
   rfl
  ·rintro ys H' ⟨rfl,rfl⟩ l2 h2
   rw [List.length_map,hkr.1,List.take_length]
   generalize hQ9:upd H' l2 (.lst ((d.o.map keyT).map V.str))=H2
   have s2:=Nw hQ9 h2
   have e2:=Ns hQ9
   refine ⟨l1,l2,_,_,rfl,rfl,s2 _ _ e1,e2,?_,fun p hp=>?_⟩
   ·rw [List.length_map,List.length_map]
    have:=go.l2
    show 1 + _<=sizeLine
    omega
   ·exact q p _ ((s1.trans s2).trans (Same.new hp)) Ag
def spPR (C:Addr):Sp:=fun vs H Q _=>∃ (l a:Addr) (y:List (Nat × Str) × Nd),vs=[.ref l,.ref a]/\RdAt H l y.1/\y.1.length<=100/\PAt C H a y.2/\∀ H',Same H H'->Q (.str (rowT y)) H'
abbrev spart_row:Stmt:=top 53
theorem scpart_row:Ao ["road","part"] ["road","part"] (Af spart_row):=by trivial
theorem ok_pr (T:Txt mg) (F_pw:FnAt P w K mg base "part_words" 2 ["part"] (spPW C)) (F:Al K mg "part_row" spart_row ["road","part"]):FnAt P w K mg base "part_row" 3 ["road","part"] (spPR C):=by
 refine F.at scpart_row (fun vs H Q E h=>?_) (fun f cdv A outer s H vs Q E hr h=>?_)
 ·obtain ⟨l,a,y,rfl,_⟩:=h
  rfl
 ·obtain ⟨l,a,⟨rd,d⟩,rfl,⟨vs,hl,hvs⟩,h100,hP,q⟩:=h
  refine ⟨_,(Ac (A5 (Bl (pt_truth (pv 0) (fun _=>rfl))) (Ad (Ap (C5 PySem.F.plainAttrs_str PySem.F.slot_str_join PySem.F.type_str_join mt_join Au (Aa (Ay F_pw hr (by decide) rfl (Aa (pv 1) Ab)) Ab)))) Am)
   (Ad (Ap (C5 PySem.F.plainAttrs_str PySem.F.slot_str_join PySem.F.type_str_join mt_join Au (Aa (A3 Ev (Bf (Aa (A3 op_mulS Au (Ai Aq rfl T.n_len boot_len (Aa (pv 0) Ab))) (Aa (A0 C2 (A0 An (pv 0) (pe_un un_neg Ae) (fun _ _=>rfl)) Ae (fun _ _=>rfl)) Ab))) (Ay F_pw hr (by decide) rfl (Aa (pv 1) Ab))) Ab))))),?_⟩
  have hs:sizeLine=16777216:=sizeLine_eq
  have b1:((" ":Str)).length=1:=by decide +kernel
  have ok:=hP.ok
  obtain ⟨pw1,pw2⟩:=partW_len ok
  have pw3:(partW d).length<=3:=pw1
  refine ⟨_,rfl,_,.inl ⟨_,SqL.of hl,rfl⟩,?_⟩
  cases rd with
  | nil=>
    have hv0:vs=[]:=List.eq_nil_of_length_eq_zero hvs.1
    subst hv0
    refine iteT ⟨rfl,_,rfl,a,d,rfl,hP,fun l1 H1 s1 e1=>?_⟩
    exact ⟨_,l1,partW d,rfl,rfl,SqL.of e1,join_ok pw2 pw1 (by rw [b1]; decide),q _ s1⟩
  | cons x rd=>
    obtain ⟨i0,hi0⟩:∃ i0,vs.length=i0 + 1:=⟨rd.length,by rw [hvs.1]; rfl⟩
    have hne:(!vs.isEmpty)=true:=by
     cases vs with
     | nil=>simp at hi0
     | cons=>rfl
    rw [hne]
    obtain ⟨v,hv⟩:∃ v,vs[i0]?=some v:=⟨_,List.getElem?_eq_getElem (by omega)⟩
    obtain ⟨z,hz,h4,p,rfl,hp⟩:=hvs.at hv
    have hlast:(x :: rd).getLast?=some z:=by
     rw [List.getLast?_eq_getElem?,← hvs.1,hi0]
     exact hz
    have hlast':List.getLast? ((x :: rd,d):List (Nat × Str) × Nd).1=some z:=hlast
    have er:rowW (x :: rd,d)=A9 (x :: rd).length :: nm z.1 :: partW d:=by
     unfold rowW
     rw [hlast']
    have hl2:(x :: rd).length=vs.length:=hvs.1.symm
    refine iteF ⟨rfl,_,rfl,_,_,rfl,.inl ⟨_,SqL.of hl,rfl⟩,_,_,rfl,rfl,(by omega),(by have:(x :: rd).length<=100:=h100; omega),(by decide +kernel),?_⟩
    refine ⟨_,rfl,_,rfl,l,_,_,.ref p,rfl,rfl,SqL.of hl,?_,p,_,_,_,rfl,rfl,SqT.of hp,rfl,(by exact Z2),fun l1 h1=>?_⟩
    ·exact atI_last hi0 hv
    have es:repZ ((vs.length:Nat):Int).toNat (Str.ofString "-")=A9 (x :: rd).length:=by rw [hl2]; rfl
    have s1:=Same.new (o:=.lst [.str (repZ ((vs.length:Nat):Int).toNat (Str.ofString "-")),.str (nm z.1)]) h1
    have e1:upd H l1 (.lst [.str (repZ ((vs.length:Nat):Int).toNat (Str.ofString "-")),.str (nm z.1)]) l1=some (.lst [.str (A9 (x :: rd).length),.str (nm z.1)]):=by rw [Ag,es]
    generalize upd H l1 (.lst [.str (repZ ((vs.length:Nat):Int).toNat (Str.ofString "-")),.str (nm z.1)])=H1 at s1 e1 ⊢
    refine ⟨_,rfl,a,d,rfl,hP.same s1,fun l2 H2 s2 e2=>?_⟩
    refine ⟨l1,l2,_,_,rfl,rfl,s2 _ _ e1,e2,(by rw [List.length_map]; show 2 + _<=sizeLine; omega),fun l3 h3=>?_⟩
    have s3:=Same.new (o:=.lst ([.str (A9 (x :: rd).length),.str (nm z.1)] ++ (partW d).map V.str)) h3
    have e3:upd H2 l3 (.lst ([.str (A9 (x :: rd).length),.str (nm z.1)] ++ (partW d).map V.str)) l3=some (.lst ((rowW (x :: rd,d)).map V.str)):=by rw [Ag,er]; rfl
    generalize upd H2 l3 (.lst ([.str (A9 (x :: rd).length),.str (nm z.1)] ++ (partW d).map V.str))=H3 at s3 e3 ⊢
    obtain ⟨r1,r2⟩:=rowW_len (y:=(x :: rd,d)) ok (by have:(x :: rd).length<=100:=h100; show (x :: rd).length<=1000; omega)
    exact ⟨_,l3,rowW (x :: rd,d),rfl,rfl,SqL.of e3,join_ok r2 r1 (by rw [b1]; decide),q _ ((s1.trans s2).trans s3)⟩
def spSW (C:Addr):Sp:=fun vs H Q _=>∃ (a:Addr) (d:Nd),vs=[.ref a]/\PAt C H a d/\Sm d/\∀ H',Same H H'->Q (.str (textW d)) H'
abbrev Eo:Stmt:=top 54
theorem scshow_work:Ao ["work"] ["work"] (Af Eo):=by trivial
theorem ok_sw (F_walked:FnAt P w K mg base "walked" 7 ["work"] (spWk C 7)) (F_pr:FnAt P w K mg base "part_row" 3 ["road","part"] (spPR C)) (F:Al K mg "show_work" Eo ["work"]):FnAt P w K mg base "show_work" 8 ["work"] (spSW C):=by
 refine F.at scshow_work (fun vs H Q E h=>?_) (fun f cdv A outer s H vs Q E hr h=>?_)
 ·obtain ⟨a,d,rfl,_⟩:=h
  rfl
 ·obtain ⟨a,d,rfl,hP,sm,q⟩:=h
  refine ⟨_,(Ad (Ap (C5 PySem.F.plainAttrs_str PySem.F.slot_str_join PySem.F.type_str_join mt_join Au (Aa (Bz (sc:=Af Eo) (N0:=["work"]) (xs:=["road","part"]) (ys:=[]) (js:=[]) (by trivial) rfl (Bn (Ay F_walked hr (by decide) rfl (Aa (pv 0) Ab))) (fun _ _ _ _=>(pg_tupK (n:=2) K rfl (Be (Aw (i:=0) (show (["road","part"]:List Str).Nodup by decide +kernel) rfl (by trivial)) (Be (Aw (i:=1) (show (["road","part"]:List Str).Nodup by decide +kernel) rfl (by trivial)) D0)))) (fun _ _ _ _=>B9) (fun _ _ _ _=>(Ay F_pr hr (by decide) rfl (Aa (pv 0) (Aa (pv 1) Ab))))) Ab)))),?_⟩
  have hs:sizeLine=16777216:=sizeLine_eq
  have b1:(("\n":Str)).length=1:=by decide +kernel
  have hz:=sm.z
  refine ⟨rfl,_,rfl,a,d,rfl,hP,sm.h,hz,fun l rows H1 s1 f1 e1 hrows=>?_⟩
  have rl:rows.length<=1001:=by rw [hrows.1,Ca]; omega
  have ok:∀ y ∈ Ct d,NdOk y.2/\y.1.length<=7:=fun y hy=>by
   obtain ⟨i,hi⟩:=List.getElem?_of_mem hy
   obtain ⟨v,hv,p,lr,a1,_,_,_,_,hP1⟩:=hrows.at' hi
   have:=roadP_le hy
   have:=sm.h
   exact ⟨hP1.ok,by omega⟩
  refine ⟨l,rfl,⟨_,SqL.of e1⟩,Br (K:=K) (a:=l) (xs:=rows) (fun i ys H'=>ys=(((Ct d).map rowT).take i).map V.str/\Same H1 H') ⟨by simp,Same.refl _⟩ (by omega) ?_ ?_ ?_ ?_⟩
  ·rintro i ys H' ⟨rfl,_⟩
   rw [List.length_map,List.length_take]; omega
  ·rintro i ys H' _ ⟨_,s'⟩
   exact SqL.of (s' _ _ e1)
  ·rintro i x ys H' hx ⟨rfl,s'⟩
   obtain ⟨y,hy,p,lr,a1,rfl,_,hp,hrd,hP1⟩:=hrows.at hx
   have hyr:((Ct d).map rowT)[i]?=some (rowT y):=by rw [List.getElem?_map,hy]; rfl
   have o7:=ok y (List.mem_of_getElem? hy)
   refine ⟨p,_,rfl,SqT.of (s' _ _ hp),rfl,_,_,rfl,_,_,rfl,rfl,?_⟩
   refine ⟨_,rfl,_,rfl,lr,a1,y,rfl,hrd.same s',by omega,hP1.same s',fun H2 s2=>⟨?_,s'.trans s2⟩⟩
   rw [A6 hyr,List.map_append]
   rfl
  ·rintro ys H' ⟨rfl,s'⟩ l2 hl2
   have nl:rows.length=((Ct d).map rowT).length:=by rw [List.length_map,hrows.1]
   rw [nl,List.take_length]
   have s2:=Same.new (o:=.lst (((Ct d).map rowT).map V.str)) hl2
   refine ⟨_,l2,(Ct d).map rowT,rfl,rfl,SqL.of Ag,join_ok (k:=5005) (n:=1001) (fun z hz=>?_) (by rw [List.length_map,← hrows.1]; exact rl) (by rw [b1]; decide),q _ ((s1.trans s').trans s2)⟩
   obtain ⟨y,hy,rfl⟩:=List.mem_map.mp hz
   have o7:=ok y hy
   exact rowT_len o7.1 (by omega)
end
end K34
namespace L2
open PySem PySem.Spec PyProof.Rows
def XatF (C:Addr) (f:Str) (v:V) (H:Hp) (E:XK):Prop:=∀ (a dx:Addr) (H':Hp),Same H H'->H' a=some (excR a C (some dx))->H' dx=some (.xd [(f,v)])->E (.ref a) none H'
theorem XatF.go {C a dx:Addr} {f:Str} {v:V} {H H1:Hp} {E:XK} (x:XatF C f v H E) (s:Same H H1) (h1:H1 a=none) (h2:H1 dx=none) (h3:dx≠a) :
 E (.ref a) none (upd (upd (upd H1 a (excO a C (some dx))) dx (.xd [(f,v)])) a (excR a C (some dx))):=by
 refine x a dx _ (fun b o e=>?_) Ag (by rw [Aj h3]; exact Ag)
 have e1:=s b o e
 rw [Aj (Ah e1 h1),Aj (Ah e1 h2),Aj (Ah e1 h1)]
 exact e1
theorem XatF.same {C:Addr} {f:Str} {v:V} {H H1:Hp} {E:XK} (x:XatF C f v H E) (s:Same H H1):XatF C f v H1 E:=fun a dx H' s' h1 h2=>x a dx H' (s.trans s') h1 h2
end L2
namespace K34
open PySem L2 PyProof.Rows PySem.SeqAt
theorem hu1 {A:Around} {k:Nat} (hr:Room k A):A.units + 1 < cLine:=by have:=hr.units; omega
structure Cs where
 t:Addr
 o:Addr
 d:Addr
 m:Addr
 e:Addr
 g:Addr
inductive Due
 | tx (n:Nat)
 | of (v:V)
 | db (v:V)
 | mn (n:Nat)
 | dp (n:Nat)
def Due.cls (c:Cs):Due->Addr
 | .tx _=>c.t
 | .of _=>c.o
 | .db _=>c.d
 | .mn _=>c.m
 | .dp _=>c.e
def Due.fld:Due->Str
 | .tx _=>"line"
 | .of _=>"found"
 | .db _=>"name"
 | .mn _=>"many"
 | .dp _=>"many"
def Due.val:Due->V
 | .tx n=>.int (n:Nat)
 | .of v=>v
 | .db v=>v
 | .mn n=>.int (n:Nat)
 | .dp n=>.int (n:Nat)
abbrev XD (c:Cs) (H:Hp) (E:XK) (u:Due):Prop:=XatF (u.cls c) u.fld u.val H E
section
variable {P:Program} {w:World} {K:PySem.W.Frag} {mg:Str->Option Value} {base:Heap} {C cx G:Addr} {J:Js}
abbrev sBadText:Stmt:=D4 (top 12) 0
theorem scBadText:Ao ["self","line"] ["self","line"] (Af sBadText):=by trivial
theorem ok_BadText (B:GBase K mg "GrantError" G) (D:XTop K mg "BadText" "line" sBadText cx G):XAt P w K mg base "BadText" 1 "line" cx:=by
 obtain ⟨df,_,f,fd,hi,hfn,F,hb⟩:=D
 refine ⟨df,f,fd,hi,hfn,F.ok scBadText (fun vs H Q E h=>?_) (fun cdv A outer s H vs Q E hr h=>?_),hb⟩
 ·obtain ⟨e,v,rfl,_⟩:=h
  rfl
 ·obtain ⟨e,v,rfl,he,q⟩:=h
  refine ⟨_,(Ac (Bb (pe_binit B rfl (Aa (pv 0) (Aa Au Ab)))) (Ad (ps_xfld (pv 0) (pv 1)))),?_⟩
  refine ⟨_,rfl,e,cx,none,_,rfl,he,df.ok.mkk,?_⟩
  exact ⟨_,rfl,_,rfl,e,cx,rfl,he,df.ok,fun dx n1 n2=>q dx n1 n2⟩
abbrev sBadOffers:Stmt:=D4 (top 7) 0
theorem scBadOffers:Ao ["self","found"] ["self","found"] (Af sBadOffers):=by trivial
theorem ok_BadOffers (B:GBase K mg "GrantError" G) (D:XTop K mg "BadOffers" "found" sBadOffers cx G):XAt P w K mg base "BadOffers" 1 "found" cx:=by
 obtain ⟨df,_,f,fd,hi,hfn,F,hb⟩:=D
 refine ⟨df,f,fd,hi,hfn,F.ok scBadOffers (fun vs H Q E h=>?_) (fun cdv A outer s H vs Q E hr h=>?_),hb⟩
 ·obtain ⟨e,v,rfl,_⟩:=h
  rfl
 ·obtain ⟨e,v,rfl,he,q⟩:=h
  refine ⟨_,(Ac (Bb (pe_binit B rfl (Aa (pv 0) (Aa Au Ab)))) (Ad (ps_xfld (pv 0) (pv 1)))),?_⟩
  refine ⟨_,rfl,e,cx,none,_,rfl,he,df.ok.mkk,?_⟩
  exact ⟨_,rfl,_,rfl,e,cx,rfl,he,df.ok,fun dx n1 n2=>q dx n1 n2⟩
abbrev sDoubled:Stmt:=D4 (top 9) 0
theorem scDoubled:Ao ["self","name"] ["self","name"] (Af sDoubled):=by trivial
theorem ok_Doubled (B:GBase K mg "GrantError" G) (D:XTop K mg "Doubled" "name" sDoubled cx G):XAt P w K mg base "Doubled" 1 "name" cx:=by
 obtain ⟨df,_,f,fd,hi,hfn,F,hb⟩:=D
 refine ⟨df,f,fd,hi,hfn,F.ok scDoubled (fun vs H Q E h=>?_) (fun cdv A outer s H vs Q E hr h=>?_),hb⟩
 ·obtain ⟨e,v,rfl,_⟩:=h
  rfl
 ·obtain ⟨e,v,rfl,he,q⟩:=h
  refine ⟨_,(Ac (Bb (pe_binit B rfl (Aa (pv 0) (Aa Au Ab)))) (Ad (ps_xfld (pv 0) (pv 1)))),?_⟩
  refine ⟨_,rfl,e,cx,none,_,rfl,he,df.ok.mkk,?_⟩
  exact ⟨_,rfl,_,rfl,e,cx,rfl,he,df.ok,fun dx n1 n2=>q dx n1 n2⟩
abbrev sTooMany:Stmt:=D4 (top 10) 0
theorem scTooMany:Ao ["self","many"] ["self","many"] (Af sTooMany):=by trivial
theorem ok_TooMany (B:GBase K mg "GrantError" G) (D:XTop K mg "TooMany" "many" sTooMany cx G):XAt P w K mg base "TooMany" 1 "many" cx:=by
 obtain ⟨df,_,f,fd,hi,hfn,F,hb⟩:=D
 refine ⟨df,f,fd,hi,hfn,F.ok scTooMany (fun vs H Q E h=>?_) (fun cdv A outer s H vs Q E hr h=>?_),hb⟩
 ·obtain ⟨e,v,rfl,_⟩:=h
  rfl
 ·obtain ⟨e,v,rfl,he,q⟩:=h
  refine ⟨_,(Ac (Bb (pe_binit B rfl (Aa (pv 0) (Aa Au Ab)))) (Ad (ps_xfld (pv 0) (pv 1)))),?_⟩
  refine ⟨_,rfl,e,cx,none,_,rfl,he,df.ok.mkk,?_⟩
  exact ⟨_,rfl,_,rfl,e,cx,rfl,he,df.ok,fun dx n1 n2=>q dx n1 n2⟩
abbrev sTooDeep:Stmt:=D4 (top 11) 0
theorem scTooDeep:Ao ["self","many"] ["self","many"] (Af sTooDeep):=by trivial
theorem ok_TooDeep (B:GBase K mg "GrantError" G) (D:XTop K mg "TooDeep" "many" sTooDeep cx G):XAt P w K mg base "TooDeep" 1 "many" cx:=by
 obtain ⟨df,_,f,fd,hi,hfn,F,hb⟩:=D
 refine ⟨df,f,fd,hi,hfn,F.ok scTooDeep (fun vs H Q E h=>?_) (fun cdv A outer s H vs Q E hr h=>?_),hb⟩
 ·obtain ⟨e,v,rfl,_⟩:=h
  rfl
 ·obtain ⟨e,v,rfl,he,q⟩:=h
  refine ⟨_,(Ac (Bb (pe_binit B rfl (Aa (pv 0) (Aa Au Ab)))) (Ad (ps_xfld (pv 0) (pv 1)))),?_⟩
  refine ⟨_,rfl,e,cx,none,_,rfl,he,df.ok.mkk,?_⟩
  exact ⟨_,rfl,_,rfl,e,cx,rfl,he,df.ok,fun dx n1 n2=>q dx n1 n2⟩
structure Has (P:Program) (w:World) (K:PySem.W.Frag) (mg:Str->Option Value) (base:Heap) (c:Cs):Prop where
 xt:XAt P w K mg base "BadText" 1 "line" c.t
 mt:MroX K c.t c.g
 xo:XAt P w K mg base "BadOffers" 1 "found" c.o
 mo:MroX K c.o c.g
 xd:XAt P w K mg base "Doubled" 1 "name" c.d
 md:MroX K c.d c.g
 xm:XAt P w K mg base "TooMany" 1 "many" c.m
 mm:MroX K c.m c.g
 xe:XAt P w K mg base "TooDeep" 1 "many" c.e
 me:MroX K c.e c.g
 gm:mg "GrantError"=some (.ref c.g)
 gc:(PySem.W.clsIn K c.g).isSome=true
 gt:PySem.W.typeIn K (.ref c.g)=some (.type "type")
 gb:PySem.W.mroIn K c.g (.type "BaseException")=some true
 ng:c.t≠c.g/\c.o≠c.g/\c.d≠c.g/\c.m≠c.g/\c.e≠c.g
 nd:([c.t,c.o,c.d,c.m,c.e]:List Addr).Nodup
variable {c:Cs}
def spMnX (m:Nat) (c:Cs):Sp:=fun vs H _ E=>∃ n:Nat,vs=[.int (n:Nat)]/\m < n/\XD c H E (.mn n)
def spDpX (c:Cs):Sp:=fun vs H _ E=>∃ n:Nat,vs=[.int (n:Nat)]/\6 < n/\XD c H E (.dp n)
theorem ok_need_few_beneathX (T:Txt mg) (D:Has P w K mg base c) (F:Al K mg "need_few_beneath" B2 ["many"]):D9 P w K mg base "need_few_beneath" 3 ["many"] (spMnX 6 c):=by
 refine F.atX Ed (fun vs H Q E h=>?_) (fun f cdv A outer s H vs Q E hr h=>?_)
 ·obtain ⟨n,rfl,_⟩:=h
  rfl
 ·obtain ⟨n,rfl,hn,xx⟩:=h
  refine ⟨_,(Ad (A5 (Av Eu (pv 0) (Cp rfl T.g_MOST_BENEATH) (A1 _)) (Ad (Ej Cr hr.hd (pe_x D.xm hr (by decide) rfl (Aa (pv 0) Ab)))) Am)),?_⟩
  refine ⟨_,rfl,_,_,rfl,rfl,_,rfl,ite2 (fun h=>?_) (fun h=>?_)⟩
  ·exact ⟨_,rfl,_,rfl,fun a dx' z1 z2 z3=>⟨a,c.m,some dx',rfl,by rw [Aj (Ne.symm z3)]; exact Ag,D.xm.df.ok.mkk,XatF.go xx (Same.refl _) z1 z2 z3⟩⟩
  ·exact absurd (decide_eq_true (show ((n:Nat):Int) > (6:Int) by omega)) h
theorem ok_need_few_partsX (T:Txt mg) (D:Has P w K mg base c) (F:Al K mg "need_few_parts" Cb ["many"]):D9 P w K mg base "need_few_parts" 3 ["many"] (spMnX 30 c):=by
 refine F.atX scneed_few_parts (fun vs H Q E h=>?_) (fun f cdv A outer s H vs Q E hr h=>?_)
 ·obtain ⟨n,rfl,_⟩:=h
  rfl
 ·obtain ⟨n,rfl,hn,xx⟩:=h
  refine ⟨_,(Ad (A5 (Av Eu (pv 0) (Cp rfl T.g_MOST_PARTS) (A1 _)) (Ad (Ej Cr hr.hd (pe_x D.xm hr (by decide) rfl (Aa (pv 0) Ab)))) Am)),?_⟩
  refine ⟨_,rfl,_,_,rfl,rfl,_,rfl,ite2 (fun h=>?_) (fun h=>?_)⟩
  ·exact ⟨_,rfl,_,rfl,fun a dx' z1 z2 z3=>⟨a,c.m,some dx',rfl,by rw [Aj (Ne.symm z3)]; exact Ag,D.xm.df.ok.mkk,XatF.go xx (Same.refl _) z1 z2 z3⟩⟩
  ·exact absurd (decide_eq_true (show ((n:Nat):Int) > (30:Int) by omega)) h
theorem ok_need_not_deepX (T:Txt mg) (D:Has P w K mg base c) (F:Al K mg "need_not_deep" Cn ["deep"]):D9 P w K mg base "need_not_deep" 3 ["deep"] (spDpX c):=by
 refine F.atX scneed_not_deep (fun vs H Q E h=>?_) (fun f cdv A outer s H vs Q E hr h=>?_)
 ·obtain ⟨n,rfl,_⟩:=h
  rfl
 ·obtain ⟨n,rfl,hn,xx⟩:=h
  refine ⟨_,(Ad (A5 (Av Eu (pv 0) (Cp rfl T.g_MOST_DEEP) (A1 _)) (Ad (Ej Cr hr.hd (pe_x D.xe hr (by decide) rfl (Aa (pv 0) Ab)))) Am)),?_⟩
  refine ⟨_,rfl,_,_,rfl,rfl,_,rfl,ite2 (fun h=>?_) (fun h=>?_)⟩
  ·exact ⟨_,rfl,_,rfl,fun a dx' z1 z2 z3=>⟨a,c.e,some dx',rfl,by rw [Aj (Ne.symm z3)]; exact Ag,D.xe.df.ok.mkk,XatF.go xx (Same.refl _) z1 z2 z3⟩⟩
  ·exact absurd (decide_eq_true (show ((n:Nat):Int) > (6:Int) by omega)) h
end
end K34
namespace K34
open PySem L2 PyProof.Rows PySem.SeqAt
section
variable {P:Program} {w:World} {K:PySem.W.Frag} {mg:Str->Option Value} {base:Heap} {C fP:Addr} {dP:FuncData} {J:Js} {c:Cs}
def spAO2:Sp:=fun vs H Q _=>∃ (l p1 p2:Addr) (k:Str × Nat),vs=[.ref l]/\H l=some (.lst [.ref p1,.ref p2])/\KeyR H p1 k/\KeyR H p2 k/\(Ak k.1=true/\k.2 < 100)/\∀ H',Same H H'->Q (.bl false) H'
theorem ok_ao2 (T:Txt mg) (F_is_key:FnAt P w K mg base "is_key" 2 ["thing"] (spKey K)) (F:Al K mg "are_offers" B6 ["thing"]):FnAt P w K mg base "are_offers" 3 ["thing"] spAO2:=by
 refine F.at scare_offers (fun vs H Q E h=>?_) (fun f cdv A outer s H vs Q E hr h=>?_)
 ·obtain ⟨l,p1,p2,k,rfl,_⟩:=h
  rfl
 ·obtain ⟨l,p1,p2,k,rfl,hl,hp1,hp2,gk,q⟩:=h
  refine ⟨_,(Ac (A5 (PW.pt (pw_or (Bl (Bw (Ai call_isLT rfl T.n_isinstance boot_isinstance (Aa (pv 0) (Aa (Bj (Aa (B3 (v:=.ty "list") rfl T.n_list boot_list rfl) (Aa (B3 (v:=.ty "tuple") rfl T.n_tuple boot_tuple rfl) Ab))) Ab))))) (Ei (Av Eu (Ai Aq rfl T.n_len boot_len (Aa (pv 0) Ab)) (Cp rfl T.g_MOST_OFFERS) (A1 _))))) (Ad (Ap pe_bl)) Am)
   (Ad (Ap (D1 (Ai (C4 rfl) rfl T.n_all boot_all (Aa (Bz (sc:=Af B6) (N0:=["thing"]) (xs:=["key"]) (ys:=[]) (js:=[]) (by trivial) rfl (Bn (pv 0)) (fun _ _ _ _=>(Aw (i:=0) (show (["key"]:List Str).Nodup by decide +kernel) rfl (by trivial))) (fun _ _ _ _=>B9) (fun _ _ _ _=>(Ay F_is_key hr (by decide) rfl (Aa (pv 0) Ab)))) Ab)) (pe_one (C1 El (pe_lenE hr.hd (hu64 hr) rfl T.n_len rfl T.n_set (pv 0)) (Ai Aq rfl T.n_len boot_len (Aa (pv 0) Ab)) (A1 _))))))),?_⟩
  have hs:sizeLine=16777216:=sizeLine_eq
  refine ⟨_,rfl,(by exact Z2),fun tp htp=>?_⟩
  generalize hQ9:upd H tp (.tup [.ty "list",.ty "tuple"])=H1
  have s1:=Nw hQ9 htp
  have e1:=Ns hQ9
  refine ⟨l,_,tp,rfl,s1 _ _ hl,SqT.of e1,_,rfl,iteF ?_⟩
  refine ⟨_,rfl,_,_,rfl,.inl ⟨_,SqL.of (s1 _ _ hl),rfl⟩,_,_,rfl,rfl,_,rfl,iteF ?_⟩
  refine ⟨_,rfl,l,rfl,⟨_,SqL.of (s1 _ _ hl)⟩,Br (K:=K) (a:=l) (xs:=[.ref p1,.ref p2]) (fun i ys H'=>ys=(List.replicate i true).map V.bl/\Same H H') ⟨rfl,s1⟩ (by exact Z2) ?_ ?_ ?_ ?_⟩
  ·rintro i ys H' ⟨rfl,_⟩
   rw [List.length_map,List.length_replicate]; exact Nat.le_refl _
  ·rintro i ys H' _ ⟨_,s'⟩
   exact SqL.of (s' _ _ hl)
  ·rintro i x ys H' hx ⟨rfl,s'⟩
   obtain ⟨p,rfl,hp⟩:∃ p,x=.ref p/\KeyR H' p k:=by
    have:=List.mem_of_getElem? hx
    simp only [List.mem_cons,List.not_mem_nil,or_false] at this
    rcases this with rfl | rfl
    ·exact ⟨p1,rfl,s' _ _ hp1⟩
    ·exact ⟨p2,rfl,s' _ _ hp2⟩
   refine ⟨_,rfl,.ref p,rfl,⟨.tup,.tup hp⟩,key_args hp gk,fun H2 s2=>⟨?_,s'.trans s2⟩⟩
   rw [key_true hp gk,List.replicate_succ',List.map_append]
   rfl
  ·rintro ys H' ⟨rfl,s'⟩ l2 hl2
   generalize hQ9:upd H' l2 (.lst ((List.replicate ([.ref p1,.ref p2]:List V).length true).map V.bl))=H2
   have s2:=s'.trans (Nw hQ9 hl2)
   have e2:H2 l2=some (.lst (([true,true]:List Bool).map V.bl)):=Ns hQ9
   refine ⟨l2,[true,true],rfl,SqL.of e2,_,rfl,iteT ?_⟩
   refine ⟨_,rfl,l,p1,p2,[.inr k.1,.inl (k.2:Int)],rfl,SqL.of (s2 _ _ hl),s2 _ _ hp1,s2 _ _ hp2,?_⟩
   exact ⟨_,rfl,_,_,rfl,.inl ⟨_,SqL.of (s2 _ _ hl),rfl⟩,rfl,q _ s2⟩
def spKOX (c:Cs):Sp:=fun vs H _ E=>∃ (l p1 p2:Addr) (k:Str × Nat),vs=[.ref l]/\H l=some (.lst [.ref p1,.ref p2])/\KeyR H p1 k/\KeyR H p2 k/\(Ak k.1=true/\k.2 < 100)/\XD c H E (.of (.ref l))
theorem ok_koX (X:Has P w K mg base c) (F_ao:FnAt P w K mg base "are_offers" 3 ["thing"] spAO2) (F:Al K mg "kept_offers" Dh ["offers"]):D9 P w K mg base "kept_offers" 5 ["offers"] (spKOX c):=by
 refine F.atX sckept_offers (fun vs H Q E h=>?_) (fun f cdv A outer s H vs Q E hr h=>?_)
 ·obtain ⟨l,p1,p2,k,rfl,_⟩:=h
  rfl
 ·obtain ⟨l,p1,p2,k,rfl,hl,hp1,hp2,gk,xx⟩:=h
  refine ⟨_,(Ac (A5 (pt_cmp (pc_isN (pv 0))) (Ad A4) Am)
   (Ac (A5 (Bl (Bw (Ay F_ao hr (by decide) rfl (Aa (pv 0) Ab)))) (Ad (Ej Cr hr.hd (pe_x X.xo hr (by decide) rfl (Aa (pv 0) Ab)))) Am)
   (Ad A4))),?_⟩
  refine ⟨_,rfl,_,rfl,iteF ⟨_,rfl,l,p1,p2,k,rfl,hl,hp1,hp2,gk,fun H1 s1=>⟨_,rfl,iteT ?_⟩⟩⟩
  exact ⟨_,rfl,_,rfl,fun a dx' z1 z2 z3=>⟨a,c.o,some dx',rfl,by rw [Aj (Ne.symm z3)]; exact Ag,X.xo.df.ok.mkk,XatF.go xx s1 z1 z2 z3⟩⟩
def spKBX (C:Addr) (c:Cs):Sp:=fun vs H _ E=>∃ (l:Addr) (f:Fo) (its:List V),vs=[.ref l]/\H l=some (.lst its)/\FAt C H f its/\6 < its.length/\its.length<=100/\XD c H E (.mn its.length)
theorem ok_kbX (T:Txt mg) (X:Has P w K mg base c) (F_jp:FnAt P w K mg base "is_joined_part" 1 ["thing"] (spJP C)) (F_fewX:D9 P w K mg base "need_few_beneath" 3 ["many"] (spMnX 6 c)) (F:Al K mg "kept_beneath" Bv ["beneath"]):D9 P w K mg base "kept_beneath" 5 ["beneath"] (spKBX C c):=by
 refine F.atX Dd (fun vs H Q E h=>?_) (fun f cdv A outer s H vs Q E hr h=>?_)
 ·obtain ⟨l,f,its,rfl,_⟩:=h
  rfl
 ·obtain ⟨l,fo,its,rfl,hl,hf,h6,h100,xx⟩:=h
  have ps:∀ {N qual scope f cdv A outer s₀ H₀},D8 (CXR P w) (cxOf (CXR P w) P w K mg base N qual scope f cdv A outer s₀ H₀ E) E:=Dr fun _ _ h=>h
  refine ⟨_,(Ac (A5 (pt_cmp (pc_isN (pv 0))) (Ad A4) Am)
   (Ac (A5 (PW.pt (pw_or (Bl (Bw (Ai call_isLT rfl T.n_isinstance boot_isinstance (Aa (pv 0) (Aa (Bj (Aa (B3 (v:=.ty "list") rfl T.n_list boot_list rfl) (Aa (B3 (v:=.ty "tuple") rfl T.n_tuple boot_tuple rfl) Ab))) Ab))))) (Ei (Bl (Bw (Ai (C4 rfl) rfl T.n_all boot_all (Aa (Bz (sc:=Af Bv) (N0:=["beneath","row"]) (xs:=["thing"]) (ys:=[]) (js:=[]) (by trivial) rfl (Bn (pv 0)) (fun _ _ _ _=>(Aw (i:=0) (show (["thing"]:List Str).Nodup by decide +kernel) rfl (by trivial))) (fun _ _ _ _=>B9) (fun _ _ _ _=>(Ay F_jp hr (by decide) rfl (Aa (pv 0) Ab)))) Ab))))))) (Ad A4) Am)
   (Ac (Bb (pe_fnX (E:=E) F_fewX ps hr (by decide) rfl (Aa (Ai Aq rfl T.n_len boot_len (Aa (pv 0) Ab)) Ab)))
   (Ac A4 (Ad A4))))),?_⟩
  have hs:sizeLine=16777216:=sizeLine_eq
  have hit:=hf.items
  refine ⟨_,rfl,_,rfl,iteF ?_⟩
  refine ⟨_,rfl,(by exact Z2),fun tp htp=>?_⟩
  generalize hQ9:upd H tp (.tup [.ty "list",.ty "tuple"])=H1
  have s1:=Nw hQ9 htp
  have e1:=Ns hQ9
  have l1:=s1 _ _ hl
  refine ⟨l,_,tp,rfl,l1,SqT.of e1,_,rfl,iteF ?_⟩
  refine ⟨_,rfl,l,rfl,⟨_,SqL.of l1⟩,Br (K:=K) (a:=l) (xs:=its) (fun i ys H'=>ys=(List.replicate i true).map V.bl/\H'=H1) ⟨rfl,rfl⟩ (by omega) ?_ ?_ ?_ ?_⟩
  ·rintro i ys H' ⟨rfl,_⟩
   rw [List.length_map,List.length_replicate]; exact Nat.le_refl _
  ·rintro i ys H' _ ⟨_,rfl⟩
   exact SqL.of l1
  ·rintro i x ys H' hx ⟨rfl,rfl⟩
   obtain ⟨y,hy1,hy2⟩:=hit.at hx
   refine ⟨_,rfl,x,y,rfl,hy2.t (.of s1),?_,rfl⟩
   rw [List.replicate_succ',List.map_append]
   rfl
  ·rintro ys H' ⟨rfl,rfl⟩ l2 hl2
   generalize hQ9:upd H' l2 (.lst ((List.replicate its.length true).map V.bl))=H2
   have s2:=s1.trans (Nw hQ9 hl2)
   have e2:=Ns hQ9
   refine ⟨l2,_,rfl,SqL.of e2,?_⟩
   have al:(List.replicate its.length true).all id=true:=by simp
   rw [al]
   refine ⟨_,rfl,iteF ?_⟩
   exact ⟨_,rfl,_,_,rfl,.inl ⟨_,SqL.of (s2 _ _ hl),rfl⟩,its.length,rfl,h6,XatF.same xx s2⟩
inductive BdBad (d:Nd):Due->Prop
 | db {i:Nat} {z:Str}:(names d)[i]?=some z->z ∈ (names d).take i->((names d).take i).Nodup->BdBad d (.db (.str z))
 | mn:(names d).Nodup->30 < d.ks.size + 1->BdBad d (.mn (d.ks.size + 1))
 | dp:(names d).Nodup->d.ks.size + 1<=30->6 < d.ks.ht + 1->BdBad d (.dp (d.ks.ht + 1))
def spNBX (C:Addr) (c:Cs):Sp:=fun vs H _ E=>∃ (a:Addr) (d:Nd) (u:Due),vs=[.ref a]/\PAt C H a d/\d.ks.ht < 7/\d.ks.size<=1000/\BdBad d u/\XD c H E u
theorem ok_nbX (T:Txt mg) (kit:PKit K C) (X:Has P w K mg base c) (F_walked:FnAt P w K mg base "walked" 7 ["work"] (spWk C 7)) (F_nfp:FnAt P w K mg base "need_few_parts" 1 ["many"] (spFew 30)) (F_nfpX:D9 P w K mg base "need_few_parts" 3 ["many"] (spMnX 30 c)) (F_nndX:D9 P w K mg base "need_not_deep" 3 ["deep"] (spDpX c)) (F_dp:FnAt P w K mg base "depth_of" 8 ["work"] (spDp C)) (F:Al K mg "need_bounds" Dg ["work"]):D9 P w K mg base "need_bounds" 10 ["work"] (spNBX C c):=by
 refine F.atX A7 (fun vs H Q E h=>?_) (fun f cdv A outer s H vs Q E hr h=>?_)
 ·obtain ⟨a,d,u,rfl,_⟩:=h
  rfl
 ·obtain ⟨a,d,u,rfl,hP,h7,hz,hb,xx⟩:=h
  have hs:sizeLine=16777216:=sizeLine_eq
  have nl:(names d).length=d.ks.size + 1:=by unfold names; rw [List.length_map,Ca]
  have ps:∀ {N qual scope f cdv A outer s₀ H₀},D8 (CXR P w) (cxOf (CXR P w) P w K mg base N qual scope f cdv A outer s₀ H₀ E) E:=Dr fun _ _ h=>h
  cases hb with
  | @db bi z hbi hz2 nd=>
    refine ⟨_,(Ac (As (i:=1) A7.nd rfl (by trivial) (Bf Ab))
     (Ac (C6 PassesOwn.leaving rfl (Bn (Ay F_walked hr (by decide) rfl (Aa (pv 0) Ab))) (pg_tup rfl (Be (Aw (i:=2) A7.nd rfl (by trivial)) (Be (Aw (i:=3) A7.nd rfl (by trivial)) D0))) (Ac (A5 (Av Et (Dl (pv 3) rfl) (pv 1) (by with_unfolding_all rfl)) (Ad (Ej Cr hr.hd (pe_x X.xd hr (by decide) rfl (Aa (Dl (pv 3) rfl) Ab)))) Am)
     (Ad (Bb (C5 PySem.F.plainAttrs_list PySem.F.slot_list_append PySem.F.type_list_append Cg (pv 1) (Aa (Dl (pv 3) rfl) Ab))))))
     (Ac A4
     (Ad A4)))),?_⟩
    refine ⟨(by exact Z0),fun ln hln=>?_⟩
    generalize hQ9:upd H ln (.lst [])=H0
    have s0:=Nw hQ9 hln
    have e0:=Ns hQ9
    refine ⟨_,rfl,a,d,rfl,hP.same s0,by omega,by omega,fun l rows H1 s1 f1 e1 hrows=>?_⟩
    have n1:l≠ln:=(Ah e0 f1).symm
    have nn:∀ y,H0 y=none->y≠ln:=fun y hy z=>by rw [z,e0] at hy; cases hy
    refine ⟨l,rfl,⟨_,SqL.of e1⟩,for_list (K:=K) (a:=l) (xs:=rows) (fun i σ H'=>∃ (v2 v3:Option V),σ=[some (.ref a),some (.ref ln),v2,v3]/\Same H H'/\H' ln=some (.lst (((names d).take i).map V.str))/\H' l=some (.lst rows)/\A2 (WRow (fun y=>H0 y=none) C H') rows (Ct d)/\i<=bi)
     ⟨_,_,rfl,s0.trans s1,by simpa using s1 _ _ e0,e1,hrows,Nat.zero_le _⟩ (fun i σ H' _ ⟨_,_,_,_,_,e,_⟩=>SqL.of e) ?_ ?_⟩
    ·rintro i v σ H2 hv ⟨v2,v3,rfl,s2,e2,e2',w2,hib⟩
     obtain ⟨y,hy,p,lr,a1,rfl,_,hp,_,dx1,po1,pb1,kt1,hA1,_⟩:=w2.at hv
     have hn:(names d)[i]?=some y.2.n:=by unfold names; rw [List.getElem?_map,hy]; rfl
     obtain ⟨hil,hne⟩:=List.getElem?_eq_some_iff.mp hn
     refine ⟨p,_,rfl,SqT.of hp,rfl,_,_,rfl,_,_,rfl,rfl,?_⟩
     refine ⟨_,rfl,a1,C,dx1,_,_,rfl,hA1,kit.cl,kit.name,Dk,_,rfl,ln,_,rfl,.inl (SqL.of e2),rfl,strs_flat _,_,rfl,?_⟩
     show if inV (.str y.2.n) (((names d).take i).map V.str)=true then _ else _
     rw [inV_str]
     by_cases hk:i < bi
     ·have hnot:decide (y.2.n ∈ (names d).take i)=false:=decide_eq_false fun m=>by
          have h2:(names d).take (i + 1)=(names d).take i ++ [y.2.n]:=A6 hn
          have h3:((names d).take (i + 1)).Nodup:=by
           have:(names d).take (i + 1)=((names d).take bi).take (i + 1):=by rw [List.take_take,Nat.min_eq_left (by omega)]
           rw [this]
           exact List.Sublist.nodup (List.take_sublist _ _) nd
          rw [h2,List.nodup_append] at h3
          exact h3.2.2 _ m _ (List.mem_singleton.mpr rfl) rfl
      rw [hnot]
      refine iteF ?_
      refine ⟨_,rfl,.inl ⟨rfl,_,SqL.of e2⟩,_,rfl,a1,C,dx1,_,_,rfl,hA1,kit.cl,kit.name,Dk,ln,_,_,rfl,rfl,e2,(by rw [List.length_map,List.length_take]; omega),?_⟩
      refine ⟨_,_,rfl,fun b o e=>?_,?_,?_,w2.imp fun _ _ r=>r.upd e2 nn,hk⟩
      ·rw [Aj (Ah e hln)]; exact s2 _ _ e
      ·rw [Ag,A6 hn,List.map_append]; rfl
      ·rw [Aj n1]; exact e2'
     ·obtain rfl:i=bi:=by omega
      rw [hbi] at hn
      cases hn
      rw [decide_eq_true hz2]
      refine iteT ⟨_,rfl,a1,C,dx1,_,_,rfl,hA1,kit.cl,kit.name,Dk,_,rfl,fun a' dx' z1 z2 z3=>⟨a',c.d,some dx',rfl,by rw [Aj (Ne.symm z3)]; exact Ag,X.xd.df.ok.mkk,XatF.go xx s2 z1 z2 z3⟩⟩
    ·rintro σ H2 ⟨v2,v3,rfl,s2,e2,e2',w2,hib⟩
     have:=(List.getElem?_eq_some_iff.mp hbi).1
     rw [hrows.1,Ca] at hib
     omega
  | mn nd h30=>
    refine ⟨_,(Ac (As (i:=1) A7.nd rfl (by trivial) (Bf Ab))
     (Ac (C6 PassesOwn.leaving rfl (Bn (Ay F_walked hr (by decide) rfl (Aa (pv 0) Ab))) (pg_tup rfl (Be (Aw (i:=2) A7.nd rfl (by trivial)) (Be (Aw (i:=3) A7.nd rfl (by trivial)) D0))) (Ac (A5 (Av Et (Dl (pv 3) rfl) (pv 1) (by with_unfolding_all rfl)) (Ad A4) Am)
     (Ad (Bb (C5 PySem.F.plainAttrs_list PySem.F.slot_list_append PySem.F.type_list_append Cg (pv 1) (Aa (Dl (pv 3) rfl) Ab))))))
     (Ac (Bb (pe_fnX (E:=E) F_nfpX ps hr (by decide) rfl (Aa (Ai Aq rfl T.n_len boot_len (Aa (pv 1) Ab)) Ab)))
     (Ad A4)))),?_⟩
    refine ⟨(by exact Z0),fun ln hln=>?_⟩
    generalize hQ9:upd H ln (.lst [])=H0
    have s0:=Nw hQ9 hln
    have e0:=Ns hQ9
    refine ⟨_,rfl,a,d,rfl,hP.same s0,by omega,by omega,fun l rows H1 s1 f1 e1 hrows=>?_⟩
    have n1:l≠ln:=(Ah e0 f1).symm
    have nn:∀ y,H0 y=none->y≠ln:=fun y hy z=>by rw [z,e0] at hy; cases hy
    refine ⟨l,rfl,⟨_,SqL.of e1⟩,for_list (K:=K) (a:=l) (xs:=rows) (fun i σ H'=>∃ (v2 v3:Option V),σ=[some (.ref a),some (.ref ln),v2,v3]/\Same H H'/\H' ln=some (.lst (((names d).take i).map V.str))/\H' l=some (.lst rows)/\A2 (WRow (fun y=>H0 y=none) C H') rows (Ct d))
     ⟨_,_,rfl,s0.trans s1,by simpa using s1 _ _ e0,e1,hrows⟩ (fun i σ H' _ ⟨_,_,_,_,_,e,_⟩=>SqL.of e) ?_ ?_⟩
    ·rintro i v σ H2 hv ⟨v2,v3,rfl,s2,e2,e2',w2⟩
     obtain ⟨y,hy,p,lr,a1,rfl,_,hp,_,dx1,po1,pb1,kt1,hA1,_⟩:=w2.at hv
     have hn:(names d)[i]?=some y.2.n:=by unfold names; rw [List.getElem?_map,hy]; rfl
     obtain ⟨hil,hne⟩:=List.getElem?_eq_some_iff.mp hn
     refine ⟨p,_,rfl,SqT.of hp,rfl,_,_,rfl,_,_,rfl,rfl,?_⟩
     refine ⟨_,rfl,a1,C,dx1,_,_,rfl,hA1,kit.cl,kit.name,Dk,_,rfl,ln,_,rfl,.inl (SqL.of e2),rfl,strs_flat _,_,rfl,?_⟩
     show if inV (.str y.2.n) (((names d).take i).map V.str)=true then _ else _
     rw [inV_str]
     have hnot:decide (y.2.n ∈ (names d).take i)=false:=decide_eq_false fun m=>by
      obtain ⟨j,hj,e⟩:=List.mem_iff_getElem.mp m
      rw [List.length_take] at hj
      rw [List.getElem_take] at e
      exact (List.pairwise_iff_getElem.mp nd) j i (by omega) hil (by omega) (by rw [e,hne])
     rw [hnot]
     refine iteF ?_
     refine ⟨_,rfl,.inl ⟨rfl,_,SqL.of e2⟩,_,rfl,a1,C,dx1,_,_,rfl,hA1,kit.cl,kit.name,Dk,ln,_,_,rfl,rfl,e2,(by rw [List.length_map,List.length_take]; omega),?_⟩
     refine ⟨_,_,rfl,fun b o e=>?_,?_,?_,w2.imp fun _ _ r=>r.upd e2 nn⟩
     ·rw [Aj (Ah e hln)]; exact s2 _ _ e
     ·rw [Ag,A6 hn,List.map_append]; rfl
     ·rw [Aj n1]; exact e2'
    ·rintro σ H2 ⟨v2,v3,rfl,s2,e2,e2',w2⟩
     rw [hrows.1,Ca,← nl,List.take_length] at e2
     exact ⟨_,rfl,_,_,rfl,.inl ⟨_,SqL.of e2,rfl⟩,d.ks.size + 1,(by rw [List.length_map,nl]; rfl),h30,XatF.same xx s2⟩
  | dp nd h30 h6=>
    refine ⟨_,(Ac (As (i:=1) A7.nd rfl (by trivial) (Bf Ab))
     (Ac (C6 PassesOwn.leaving rfl (Bn (Ay F_walked hr (by decide) rfl (Aa (pv 0) Ab))) (pg_tup rfl (Be (Aw (i:=2) A7.nd rfl (by trivial)) (Be (Aw (i:=3) A7.nd rfl (by trivial)) D0))) (Ac (A5 (Av Et (Dl (pv 3) rfl) (pv 1) (by with_unfolding_all rfl)) (Ad A4) Am)
     (Ad (Bb (C5 PySem.F.plainAttrs_list PySem.F.slot_list_append PySem.F.type_list_append Cg (pv 1) (Aa (Dl (pv 3) rfl) Ab))))))
     (Ac (Bb (Ay F_nfp hr (by decide) rfl (Aa (Ai Aq rfl T.n_len boot_len (Aa (pv 1) Ab)) Ab)))
     (Ad (Bb (pe_fnX (E:=E) F_nndX ps hr (by decide) rfl (Aa (Ay F_dp hr (by decide) rfl (Aa (pv 0) Ab)) Ab))))))),?_⟩
    refine ⟨(by exact Z0),fun ln hln=>?_⟩
    generalize hQ9:upd H ln (.lst [])=H0
    have s0:=Nw hQ9 hln
    have e0:=Ns hQ9
    refine ⟨_,rfl,a,d,rfl,hP.same s0,by omega,by omega,fun l rows H1 s1 f1 e1 hrows=>?_⟩
    have n1:l≠ln:=(Ah e0 f1).symm
    have nn:∀ y,H0 y=none->y≠ln:=fun y hy z=>by rw [z,e0] at hy; cases hy
    refine ⟨l,rfl,⟨_,SqL.of e1⟩,for_list (K:=K) (a:=l) (xs:=rows) (fun i σ H'=>∃ (v2 v3:Option V),σ=[some (.ref a),some (.ref ln),v2,v3]/\Same H H'/\H' ln=some (.lst (((names d).take i).map V.str))/\H' l=some (.lst rows)/\A2 (WRow (fun y=>H0 y=none) C H') rows (Ct d))
     ⟨_,_,rfl,s0.trans s1,by simpa using s1 _ _ e0,e1,hrows⟩ (fun i σ H' _ ⟨_,_,_,_,_,e,_⟩=>SqL.of e) ?_ ?_⟩
    ·rintro i v σ H2 hv ⟨v2,v3,rfl,s2,e2,e2',w2⟩
     obtain ⟨y,hy,p,lr,a1,rfl,_,hp,_,dx1,po1,pb1,kt1,hA1,_⟩:=w2.at hv
     have hn:(names d)[i]?=some y.2.n:=by unfold names; rw [List.getElem?_map,hy]; rfl
     obtain ⟨hil,hne⟩:=List.getElem?_eq_some_iff.mp hn
     refine ⟨p,_,rfl,SqT.of hp,rfl,_,_,rfl,_,_,rfl,rfl,?_⟩
     refine ⟨_,rfl,a1,C,dx1,_,_,rfl,hA1,kit.cl,kit.name,Dk,_,rfl,ln,_,rfl,.inl (SqL.of e2),rfl,strs_flat _,_,rfl,?_⟩
     show if inV (.str y.2.n) (((names d).take i).map V.str)=true then _ else _
     rw [inV_str]
     have hnot:decide (y.2.n ∈ (names d).take i)=false:=decide_eq_false fun m=>by
      obtain ⟨j,hj,e⟩:=List.mem_iff_getElem.mp m
      rw [List.length_take] at hj
      rw [List.getElem_take] at e
      exact (List.pairwise_iff_getElem.mp nd) j i (by omega) hil (by omega) (by rw [e,hne])
     rw [hnot]
     refine iteF ?_
     refine ⟨_,rfl,.inl ⟨rfl,_,SqL.of e2⟩,_,rfl,a1,C,dx1,_,_,rfl,hA1,kit.cl,kit.name,Dk,ln,_,_,rfl,rfl,e2,(by rw [List.length_map,List.length_take]; omega),?_⟩
     refine ⟨_,_,rfl,fun b o e=>?_,?_,?_,w2.imp fun _ _ r=>r.upd e2 nn⟩
     ·rw [Aj (Ah e hln)]; exact s2 _ _ e
     ·rw [Ag,A6 hn,List.map_append]; rfl
     ·rw [Aj n1]; exact e2'
    ·rintro σ H2 ⟨v2,v3,rfl,s2,e2,e2',w2⟩
     rw [hrows.1,Ca,← nl,List.take_length] at e2
     refine ⟨_,rfl,_,_,rfl,.inl ⟨_,SqL.of e2,rfl⟩,_,rfl,by rw [List.length_map]; omega,?_⟩
     exact ⟨_,rfl,a,d,rfl,hP.same s2,by omega,by omega,fun H3 s3=>⟨d.ks.ht + 1,rfl,h6,XatF.same xx (s2.trans s3)⟩⟩
inductive IBad (C:Addr) (H:Hp):V->V->V->Due->Prop
 | of {n:Str} {vb:V} {l p1 p2:Addr} {k:Str × Nat}:Ak n=true->H l=some (.lst [.ref p1,.ref p2])->KeyR H p1 k->KeyR H p2 k->(Ak k.1=true/\k.2 < 100)->IBad C H (.str n) (.ref l) vb (.of (.ref l))
 | mn {n:Str} {vo:V} {o:List (Str × Nat)} {lb:Addr} {f:Fo} {its:List V}:Ak n=true->OfArg H vo o->H lb=some (.lst its)->FAt C H f its->6 < its.length->its.length<=100->IBad C H (.str n) vo (.ref lb) (.mn its.length)
 | bd {n:Str} {vo vb:V} {o:List (Str × Nat)} {f:Fo} {its:List V} {u:Due}:Ak n=true->OfArg H vo o->BnArg C H vb f its->f.ht < 7->f.size<=1000->BdBad ⟨n,o,f⟩ u->IBad C H (.str n) vo vb u
def spPIX (C:Addr) (c:Cs):Sp:=fun vs H _ E=>∃ (p dx:Addr) (vn vo vb:V) (u:Due) (H0:Hp),vs=[.ref p,vn,vo,vb]/\H p=some (.ins C dx [])/\H0 p=none/\Same H0 H/\IBad C H0 vn vo vb u/\XD c H0 E u
theorem ok_pinitX (kit:PKit K C) (X:Has P w K mg base c) (F_is_word:FnAt P w K mg base "is_word" 1 ["thing"] (spWord K)) (F_ko:FnAt P w K mg base "kept_offers" 4 ["offers"] spKO) (F_koX:D9 P w K mg base "kept_offers" 5 ["offers"] (spKOX c)) (F_kb:FnAt P w K mg base "kept_beneath" 3 ["beneath"] (spKB C)) (F_kbX:D9 P w K mg base "kept_beneath" 5 ["beneath"] (spKBX C c)) (F_nbX:D9 P w K mg base "need_bounds" 10 ["work"] (spNBX C c))
 {f:Addr} {fd:FuncData} (F:FunD K "__init__" "Part.__init__" Da f fd):FnOk P w K mg base (CXR P w) 12 f fd psP (spPIX C c):=by
 refine F.okX scPart_init (fun vs H Q E h=>?_) (fun cdv A outer s H vs Q E hr h=>?_)
 ·obtain ⟨p,dx,vn,vo,vb,u,H0,rfl,_⟩:=h
  rfl
 ·obtain ⟨p,dx,vn,vo,vb,u,H0,rfl,hp,hp0,s0,hb,xx⟩:=h
  have ps:∀ {N qual scope f cdv A outer s₀ H₀},D8 (CXR P w) (cxOf (CXR P w) P w K mg base N qual scope f cdv A outer s₀ H₀ E) E:=Dr fun _ _ h=>h
  have up:∀ {H1:Hp} {fs:List (Str × V)},Same H0 H1->Same H0 (upd H1 p (.ins C dx fs)):=fun s1 b o e=>by rw [Aj (Ah e hp0)]; exact s1 b o e
  cases hb with
  | @of n vb l pa pb k hw hl hp1 hp2 gk=>
    refine ⟨_,(Ac (A5 (Bl (Bw (Ay F_is_word hr (by decide) rfl (Aa (pv 1) Ab)))) (Ad A4) Am)
     (Ac (ps_fld (pv 0) (pv 1) rfl)
     (Ac (ps_fld (pv 0) (pe_fnX (E:=E) F_koX ps hr (by decide) rfl (Aa (pv 2) Ab)) rfl)
     (Ac A4 (Ad A4))))),?_⟩
    refine ⟨_,rfl,.str n,rfl,⟨.str,.str _⟩,(fun z e=>by cases e; have:=Em hw; omega),fun H1 s1=>⟨_,rfl,?_⟩⟩
    have wv:wordV (.str n)=true:=hw
    rw [wv]
    refine iteF ?_
    have p1:=s1 _ _ hp
    refine ⟨_,rfl,_,rfl,p,C,dx,[],rfl,p1,kit.cl,kit.name,(by show 0 < 1000; decide),?_⟩
    have S2:Same H0 (upd H1 p (.ins C dx (putF "name" (.str n) []))):=up (s0.trans s1)
    have p2:upd H1 p (.ins C dx (putF "name" (.str n) [])) p=some (.ins C dx (putF "name" (.str n) [])):=Ag
    generalize upd H1 p (.ins C dx (putF "name" (.str n) []))=H2 at S2 p2 ⊢
    exact ⟨_,rfl,l,pa,pb,k,rfl,S2 _ _ hl,S2 _ _ hp1,S2 _ _ hp2,gk,XatF.same xx S2⟩
  | @mn n vo o lb f its hw hvo hlb hfb h6 h100=>
    refine ⟨_,(Ac (A5 (Bl (Bw (Ay F_is_word hr (by decide) rfl (Aa (pv 1) Ab)))) (Ad A4) Am)
     (Ac (ps_fld (pv 0) (pv 1) rfl)
     (Ac (ps_fld (pv 0) (Ay F_ko hr (by decide) rfl (Aa (pv 2) Ab)) rfl)
     (Ac (ps_fld (pv 0) (pe_fnX (E:=E) F_kbX ps hr (by decide) rfl (Aa (pv 3) Ab)) rfl) (Ad A4))))),?_⟩
    refine ⟨_,rfl,.str n,rfl,⟨.str,.str _⟩,(fun z e=>by cases e; have:=Em hw; omega),fun H1 s1=>⟨_,rfl,?_⟩⟩
    have wv:wordV (.str n)=true:=hw
    rw [wv]
    refine iteF ?_
    have p1:=s1 _ _ hp
    refine ⟨_,rfl,_,rfl,p,C,dx,[],rfl,p1,kit.cl,kit.name,(by show 0 < 1000; decide),?_⟩
    have S2:Same H0 (upd H1 p (.ins C dx (putF "name" (.str n) []))):=up (s0.trans s1)
    have p2:upd H1 p (.ins C dx (putF "name" (.str n) [])) p=some (.ins C dx (putF "name" (.str n) [])):=Ag
    generalize upd H1 p (.ins C dx (putF "name" (.str n) []))=H2 at S2 p2 ⊢
    refine ⟨_,rfl,vo,o,rfl,hvo.same S2,fun po H3 s3 e3=>?_⟩
    have p3:=s3 _ _ p2
    refine ⟨_,rfl,p,C,dx,_,rfl,p3,kit.cl,kit.offers,(Nat.lt_of_le_of_lt (len_put _ _ (n:=0) (Nat.le_refl _)) (by decide)),?_⟩
    have S4:Same H0 (upd H3 p (.ins C dx (putF "offers" (.ref po) (putF "name" (.str n) [])))):=up (S2.trans s3)
    have p4:upd H3 p (.ins C dx (putF "offers" (.ref po) (putF "name" (.str n) []))) p=some (.ins C dx (putF "offers" (.ref po) (putF "name" (.str n) []))):=Ag
    have e4:=e3.ins (ob:=.ins C dx (putF "offers" (.ref po) (putF "name" (.str n) []))) p3
    generalize upd H3 p (.ins C dx (putF "offers" (.ref po) (putF "name" (.str n) [])))=H4 at S4 p4 e4 ⊢
    exact ⟨_,rfl,lb,f,its,rfl,S4 _ _ hlb,hfb.t (.of S4),h6,h100,XatF.same xx S4⟩
  | @bd n vo vb o fo its u hw hvo hvb h7 hz hbd=>
    have hF:FAt C H0 fo its:=by
     rcases hvb with ⟨_,rfl,rfl⟩ | ⟨_,_,_,h,_⟩
     ·rfl
     ·exact h
    refine ⟨_,(Ac (A5 (Bl (Bw (Ay F_is_word hr (by decide) rfl (Aa (pv 1) Ab)))) (Ad A4) Am)
     (Ac (ps_fld (pv 0) (pv 1) rfl)
     (Ac (ps_fld (pv 0) (Ay F_ko hr (by decide) rfl (Aa (pv 2) Ab)) rfl)
     (Ac (ps_fld (pv 0) (Ay F_kb hr (by decide) rfl (Aa (pv 3) Ab)) rfl)
     (Ad (Bb (pe_fnX (E:=E) F_nbX ps hr (by decide) rfl (Aa (pv 0) Ab)))))))),?_⟩
    refine ⟨_,rfl,.str n,rfl,⟨.str,.str _⟩,(fun z e=>by cases e; have:=Em hw; omega),fun H1 s1=>⟨_,rfl,?_⟩⟩
    have wv:wordV (.str n)=true:=hw
    rw [wv]
    refine iteF ?_
    have p1:=s1 _ _ hp
    refine ⟨_,rfl,_,rfl,p,C,dx,[],rfl,p1,kit.cl,kit.name,(by show 0 < 1000; decide),?_⟩
    have S2:Same H0 (upd H1 p (.ins C dx (putF "name" (.str n) []))):=up (s0.trans s1)
    have p2:upd H1 p (.ins C dx (putF "name" (.str n) [])) p=some (.ins C dx (putF "name" (.str n) [])):=Ag
    generalize upd H1 p (.ins C dx (putF "name" (.str n) []))=H2 at S2 p2 ⊢
    refine ⟨_,rfl,vo,o,rfl,hvo.same S2,fun po H3 s3 e3=>?_⟩
    have p3:=s3 _ _ p2
    refine ⟨_,rfl,p,C,dx,_,rfl,p3,kit.cl,kit.offers,(Nat.lt_of_le_of_lt (len_put _ _ (n:=0) (Nat.le_refl _)) (by decide)),?_⟩
    have S4:Same H0 (upd H3 p (.ins C dx (putF "offers" (.ref po) (putF "name" (.str n) [])))):=up (S2.trans s3)
    have p4:upd H3 p (.ins C dx (putF "offers" (.ref po) (putF "name" (.str n) []))) p=some (.ins C dx (putF "offers" (.ref po) (putF "name" (.str n) []))):=Ag
    have e4:=e3.ins (ob:=.ins C dx (putF "offers" (.ref po) (putF "name" (.str n) []))) p3
    generalize upd H3 p (.ins C dx (putF "offers" (.ref po) (putF "name" (.str n) [])))=H4 at S4 p4 e4 ⊢
    refine ⟨_,rfl,vb,fo,its,rfl,hvb.imp id (fun ⟨lb,h1,h2,h3,h4⟩=>⟨lb,h1,S4 _ _ h2,h3.t (.of S4),h4⟩),fun pb H5 s5 e5=>?_⟩
    have p5:=s5 _ _ p4
    refine ⟨_,rfl,p,C,dx,_,rfl,p5,kit.cl,kit.beneath,(Nat.lt_of_le_of_lt (len_put _ _ (len_put _ _ (n:=0) (Nat.le_refl _))) (by decide)),?_⟩
    have S6:Same H0 (upd H5 p (.ins C dx (pF n po pb))):=up (S4.trans s5)
    have hP:PAt C (upd H5 p (.ins C dx (pF n po pb))) p ⟨n,o,fo⟩:=⟨dx,po,pb,its,Ag,hw,(e4.t (.of s5)).ins p5,by rw [Aj (ne_of e5 p5 (by intro z; cases z))]; exact e5,hF.t (.of S6)⟩
    generalize upd H5 p (.ins C dx (pF n po pb))=H6 at S6 hP ⊢
    exact ⟨_,rfl,p,_,u,rfl,hP,h7,hz,hbd,XatF.same xx S6⟩
end
end K34
namespace K34
open PySem L2 PyProof.Rows
def Dj (z:Str):Bool:=decide (1<=z.length/\z.length<=2) && !(decide (z.cps.getD 0 0=48) && decide (1 < z.length)) && z.cps.toList.all isFig
theorem one_fig:∀ c:Fin 10,PySem.intText? ⟨#[48 + c.val]⟩=some (c.val:Int):=by decide +kernel
theorem two_figs:∀ c d:Fin 10,PySem.intText? ⟨#[48 + c.val,48 + d.val]⟩=some ((10 * c.val + d.val:Nat):Int):=by decide +kernel
theorem num_text {b:Str} (h:Dj b=true):∃ n:Int,PySem.intText? b=some n/\0<=n/\n < 100:=by
 obtain ⟨⟨l⟩⟩:=b
 unfold Dj at h
 simp only [Bool.and_eq_true,decide_eq_true_eq] at h
 obtain ⟨⟨⟨h1,h2⟩,_⟩,ha⟩:=h
 match l,h1,h2,ha with
 | [],h1,_,_=>exact absurd h1 (by decide)
 | [c],_,_,ha=>
   have hc:48<=c/\c<=57:=by simpa [isFig] using ha
   have:=one_fig ⟨c - 48,by omega⟩
   have e:48 + (c - 48)=c:=by omega
   simp only [e] at this
   exact ⟨_,this,by omega,by omega⟩
 | [c,d],_,_,ha=>
   have hc:(48<=c/\c<=57)/\48<=d/\d<=57:=by simpa [isFig] using ha
   have:=two_figs ⟨c - 48,by omega⟩ ⟨d - 48,by omega⟩
   have e:48 + (c - 48)=c:=by omega
   have e':48 + (d - 48)=d:=by omega
   simp only [e,e'] at this
   exact ⟨_,this,by omega,by omega⟩
 | c :: d :: e :: r,_,h2,_=>exact absurd h2 (by show ¬ (r.length + 1 + 1 + 1<=2); omega)
def keyZ (z:Str):Option (Str × Int):=match Txt.split z "." with
 | [a,b]=>if Ak a=true/\Dj b=true then (PySem.intText? b).map fun n=>(a,n) else none
 | _=>none
section
variable {P:Program} {w:World} {K:PySem.W.Frag} {mg:Str->Option Value} {base:Heap}
def spNumA:Sp:=fun vs H Q _=>∃ z,vs=[.str z,.int 2]/\z.length<=1000/\∀ H',Same H H'->Q (.bl (Dj z)) H'
theorem ok_numA (T:Txt mg) (N:Tx2 mg) (F:Al K mg "is_number_text" Cd ["text","longest"]):FnAt P w K mg base "is_number_text" 1 ["text","longest"] spNumA:=by
 refine F.at scis_number_text (fun vs H Q E h=>?_) (fun f cdv A outer s H vs Q E hr h=>?_)
 ·obtain ⟨z,rfl,_⟩:=h
  rfl
 ·obtain ⟨z,rfl,hz,q⟩:=h
  refine ⟨_,(Ac (A5 (Bl (pt_chain op_le op_le Ae (Ai Aq rfl T.n_len boot_len (Aa (pv 0) Ab)) (pv 1))) (Ad (Ap pe_bl)) Am)
   (Ac (A5 (PW.pt (pw_and (Av El (A0 ix_str (pv 0) Ae (fun _ _=>rfl)) Au (A1 _)) (pw_and1 (Av Eu (Ai Aq rfl T.n_len boot_len (Aa (pv 0) Ab)) Ae (A1 _))))) (Ad (Ap pe_bl)) Am)
   (Ad (Ap (Ai (C4 rfl) rfl T.n_all boot_all (Aa (Bz (sc:=Af Cd) (N0:=["text","longest"]) (xs:=["sign"]) (ys:=[]) (js:=[]) (by trivial) rfl (pi_str (pv 0)) (fun _ _ _ _=>(Aw (i:=0) (show (["sign"]:List Str).Nodup by decide +kernel) rfl (by trivial))) (fun _ _ _ _=>B9) (fun _ _ _ _=>(C1 op_in_str (pv 0) (pe_globS rfl N.g_FIGURES) (by with_unfolding_all rfl)))) Ab)))))),?_⟩
  have hs:sizeLine=16777216:=sizeLine_eq
  have no:Dj z=false->Q (.bl false) H:=fun e=>by
   have:=q H (Same.refl H)
   rw [e] at this
   exact this
  refine ⟨_,rfl,_,_,rfl,⟨by omega,rfl⟩,_,_,rfl,rfl,_,rfl,?_⟩
  refine ite2 (fun h1=>?_) (fun h1=>?_)
  ·have h1:(1:Int)<=(z.length:Int):=of_decide_eq_true h1
   refine ⟨_,rfl,_,_,rfl,rfl,_,rfl,?_⟩
   refine ite2 (fun h2=>?_) (fun h2=>?_)
   ·have h2:¬ ((z.length:Int)<=2):=by simpa using h2
    refine no ?_
    unfold Dj
    rw [decide_eq_false (by omega)]; rfl
   ·have h2:(z.length:Int)<=2:=by simpa using h2
    have hsz:z.cps.size=z.length:=rfl
    have h0:0 < z.cps.size:=by omega
    refine' mp_rest2 (C:=¬ (z.cps.getD 0 0=48/\1 < z.length)) ?r ?b
    case b=>
     intro r
     refine ⟨_,rfl,z,0,z.cps.getD 0 0,rfl,rfl,(by omega),Az (j:=0) (by rw [Array.getD_eq_getD_getElem?,Array.getElem?_eq_getElem h0]; simp [h0]),rfl,_,rfl,?_⟩
     refine ite2 (fun h3=>?_) (fun h3=>iteF (r fun z5=>h3 (decide_eq_true (by rw [z5.1]; decide +kernel))))
     refine ⟨_,rfl,_,_,rfl,⟨by omega,rfl⟩,_,_,rfl,rfl,_,rfl,?_⟩
     refine ite2 (fun h4=>?_) (fun h4=>r fun z5=>h4 (decide_eq_true (by have:=z5.2; omega)))
     have h4:(1:Int) < (z.length:Int):=of_decide_eq_true h4
     have h3:(⟨#[z.cps.getD 0 0]⟩:Str)=Str.ofString "0":=V.str.inj (of_decide_eq_true h3)
     have h5:z.cps.getD 0 0=48:=by
          have e:Str.ofString "0"=⟨#[48]⟩:=by decide +kernel
          rw [e] at h3
          have:=congrArg (fun x:Str=>x.cps.getD 0 0) h3
          simpa using this
     refine no ?_
     unfold Dj
     rw [decide_eq_true h5,decide_eq_true (show 1 < z.length by omega)]
     simp
    case r=>
     intro hn0
     have fin:Dj z=(z.cps.toList.map isFig).all id:=by
          unfold Dj
          rw [decide_eq_true (by omega),List.all_map]
          have:(decide (z.cps.getD 0 0=48) && decide (1 < z.length))=false:=by
           rw [Bool.eq_false_iff]
           intro z6
           rw [Bool.and_eq_true,decide_eq_true_eq,decide_eq_true_eq] at z6
           exact hn0 z6
          rw [this]
          rfl
     refine ⟨_,rfl,z,rfl,comp_str (fun i ys H'=>H'=H/\ys=(z.cps.toList.take i).map fun c=>V.bl (isFig c)) ⟨rfl,rfl⟩ (by show z.length<=sizeLine; omega) ?_ ?_ ?_⟩
     ·rintro i ys H' ⟨rfl,rfl⟩
      simp; omega
     ·rintro i ys H' hi ⟨rfl,rfl⟩
      refine ⟨_,rfl,_,_,rfl,rfl,rfl,?_⟩
      have e3:(!(Builtin.Str.occurrences (Str.ofString "0123456789") (sgn z i) 0 (Str.ofString "0123456789").length 1).isEmpty)=isFig (z.cps.getD i 0):=fig_in _
      rw [e3]
      exact take_map_snoc z hi fun c=>V.bl (isFig c)
     ·rintro ys H' ⟨rfl,rfl⟩ p hp
      refine ⟨p,z.cps.toList.map isFig,rfl,SqL.of (by rw [Ag,List.take_of_length_le (by simp),List.map_map]; rfl),?_⟩
      have:=q _ (Same.new (o:=.lst ((z.cps.toList.take z.cps.size).map fun c=>V.bl (isFig c))) hp)
      rw [fin] at this
      exact this
  ·have h1:¬ ((1:Int)<=(z.length:Int)):=by simpa using h1
   refine ⟨_,rfl,iteT (no ?_)⟩
   unfold Dj
   rw [decide_eq_false (by omega)]; rfl
def spIKTA:Sp:=fun vs H Q _=>∃ z:Str,vs=[.str z]/\z.length<=1000/\∀ H',Same H H'->Q (.bl (keyZ z).isSome) H'
theorem ok_iktA (T:Txt mg) (F_is_word:FnAt P w K mg base "is_word" 1 ["thing"] (spWord K)) (F_is_number_text:FnAt P w K mg base "is_number_text" 1 ["text","longest"] spNumA) (F:Al K mg "is_key_text" Eb ["text"]) :
 FnAt P w K mg base "is_key_text" 2 ["text"] spIKTA:=by
 refine F.at scis_key_text (fun vs H Q E h=>?_) (fun f cdv A outer s H vs Q E hr h=>?_)
 ·obtain ⟨z,rfl,_⟩:=h
  rfl
 ·obtain ⟨z,rfl,hzl,q⟩:=h
  refine ⟨_,(Ac (As (i:=1) scis_key_text.nd rfl (by trivial) (C5 PySem.F.plainAttrs_str PySem.F.slot_str_split PySem.F.type_str_split mt_split (pv 0) (Aa Au Ab)))
   (Ad (Ap (D1 (C1 El (Ai Aq rfl T.n_len boot_len (Aa (pv 1) Ab)) Ae (A1 _)) (D1 (Ay F_is_word hr (by decide) rfl (Aa (A0 An (pv 1) Ae (fun _ _=>rfl)) Ab)) (pe_one (Ay F_is_number_text hr (by decide) rfl (Aa (A0 An (pv 1) Ae (fun _ _=>rfl)) (Aa Ae Ab))))))))),?_⟩
  have hs:sizeLine=16777216:=sizeLine_eq
  refine ⟨_,rfl,rfl,z,".",rfl,rfl,(by decide +kernel),(by omega),fun p hp=>?_⟩
  generalize hQ9:upd H p (.lst ((Txt.split z ".").map V.str))=H1
  have s1:=Nw hQ9 hp
  have l1:=Ns hQ9
  have short:∀ x ∈ Txt.split z ".",x.length<=z.length:=fun x hx=>part_short hx
  have kz:keyZ z=(match Txt.split z "." with | [a,b]=>if Ak a=true/\Dj b=true then (PySem.intText? b).map fun n=>(a,n) else none | _=>none):=rfl
  generalize Txt.split z "."=L at l1 short kz
  refine ⟨_,rfl,_,_,rfl,.inl ⟨_,SqL.of l1,rfl⟩,rfl,_,rfl,?_⟩
  by_cases h2:L.length=2
  ·obtain ⟨a,b,rfl⟩:∃ a b,L=[a,b]:=by
    match L,h2 with
    | [a,b],_=>exact ⟨a,b,rfl⟩
   have la:=short a (by simp)
   have lb:=short b (by simp)
   refine iteT ?_
   refine ⟨_,rfl,p,_,_,V.str a,rfl,rfl,SqL.of l1,rfl,.str a,rfl,⟨.str,TyOf.str a⟩,(fun z' e=>by cases e; omega),fun H2 s2=>⟨_,rfl,?_⟩⟩
   have l2:=s2 _ _ l1
   show if Ak a=true then _ else _
   cases ha:Ak a with
   | false=>
     have e0:(keyZ z).isSome=false:=by rw [kz]; simp [ha]
     have q':=q H2 (s1.trans s2)
     rw [e0] at q'
     exact iteF q'
   | true=>
     refine iteT ?_
     refine ⟨_,rfl,p,_,_,V.str b,rfl,rfl,SqL.of l2,rfl,b,rfl,(by omega),fun H3 s3=>?_⟩
     have q':=q H3 ((s1.trans s2).trans s3)
     have e0:(keyZ z).isSome=Dj b:=by
      cases hb:Dj b with
      | false=>rw [kz]; simp [hb]
      | true=>
        obtain ⟨n,hn,_,_⟩:=num_text hb
        rw [kz]; simp [ha,hb,hn]
     rw [e0] at q'
     exact q'
  ·have e0:(keyZ z).isSome=false:=by
    rw [kz]
    match L,h2 with
    | [],_=>rfl
    | [_],_=>rfl
    | _ :: _ :: _ :: _,_=>rfl
    | [_,_],h=>exact absurd rfl h
   have hne:¬ (V.int ((L.map V.str).length:Nat)=V.int 2):=fun h=>h2 (by
    have:=V.int.inj h
    rw [List.length_map] at this
    omega)
   have q':=q H1 s1
   rw [e0] at q'
   rw [decide_eq_false hne]
   exact iteF q'
end
end K34
namespace L2
open PySem PySem.Spec PyProof.Rows
theorem op_inK {X:Cx} (K:PySem.W.Frag) (hK:X.K=K:=by rfl):OpR X (compareOp .In) (rIn K false):=by
 subst hK
 exact Et
theorem op_mulW {X:Cx}:OpR X (binaryOp .Mult) (fun x y H Q=>∃ z n,x=.str z/\y=.int n/\0<=n/\n<=1000/\z.length<=100/\Q (.str (repZ n.toNat z)) H):=by
 intro pins s σ H x y v u Q I rx ry h
 obtain ⟨z,n,rfl,rfl,h0,h1,hz,q⟩:=h
 obtain ⟨t,rfl⟩:=rx
 obtain ⟨t',rfl⟩:=ry
 have hs:sizeLine=16777216:=sizeLine_eq
 have hm:z.length * n.toNat<=100 * 1000:=Nat.mul_le_mul hz (by omega)
 refine P.mul_str ?_ ?_ ?_ ?_
 ·rw [Bool.or_eq_false_iff]
  exact ⟨decide_eq_false (by omega),decide_eq_false (by omega)⟩
 ·intro g1 _ g3
  have e:((z.length * n.toNat:Nat):Int)=(z.length:Int) * n:=by rw [Int.natCast_mul,Int.toNat_of_nonneg h0]
  have:(z.length:Int)<=(2 ^ 63 - 1) / n:=Int.le_ediv_of_mul_le (by omega) (by rw [← e]; omega)
  omega
 ·intro _ _
  exact decide_eq_false (by omega)
 ·have fin:∀ (y:Str) (tk:Nat),y=repZ n.toNat z->∃ v H',Inv X pins σ H' { s with toks:=tk }/\RelV v (Value.str y s.toks)/\Q v H':=fun y tk e=>⟨.str y,H,I.tok _,⟨_,rfl⟩,by rw [e]; exact q⟩
  by_cases g:n < 1
  ·rw [if_pos g]
   have:n=0:=by omega
   subst this
   exact ⟨by show 0<=sizeLine; omega,fin _ _ rfl⟩
  ·rw [if_neg g]
   by_cases g2:(n == 1 || z.length == 0)=true
   ·rw [if_pos g2]
    have e:z=repZ n.toNat z:=by
       rw [Bool.or_eq_true,beq_iff_eq,beq_iff_eq] at g2
       rcases g2 with rfl | g2
       ·show z=⟨((List.replicate 1 z.cps.toList).flatten).toArray⟩
        simp
       ·have:z.cps=#[]:=Array.eq_empty_of_size_eq_zero g2
        obtain ⟨c⟩:=z
        dsimp only at this
        subst this
        unfold repZ
        simp
    exact ⟨.str z,H,I,⟨_,rfl⟩,by rw [← e] at q; exact q⟩
   ·rw [if_neg g2]
    have e:(⟨List.foldl (fun x1 x2=>x1 ++ x2) #[] (List.replicate n.toNat z.cps)⟩:Str)=repZ n.toNat z:=by rw [foldl_repZ]; unfold repZ; simp
    refine ⟨?_,fin _ _ e⟩
    rw [e,rep_len,Nat.mul_comm]
    omega
end L2
namespace K34
open PySem L2 PyProof.Rows PySem.SeqAt
structure OkO (o:List (Str × Nat)):Prop where
 l2:o.length<=2
 ok:∀ k ∈ o,Ak k.1=true/\k.2 < 100
theorem cut1 (x:V) (xs:List V):cutV (x :: xs) (some 1) none=xs:=by
 have e:HT.sIx (x :: xs).length 0 (some 1)=1:=by
  rw [show (1:Int)=((1:Nat):Int) from rfl,HT.sIx_nat,List.length_cons]
  omega
 unfold cutV
 rw [e,HT.sIx_none,List.drop_one,List.tail_cons]
 exact List.take_of_length_le (by rw [List.length_cons]; omega)
theorem cut2 (x y:V) (xs:List V):cutV (x :: y :: xs) (some 2) none=xs:=by
 have e:HT.sIx (x :: y :: xs).length 0 (some 2)=2:=by
  rw [show (2:Int)=((2:Nat):Int) from rfl,HT.sIx_nat,List.length_cons,List.length_cons]
  omega
 unfold cutV
 rw [e,HT.sIx_none]
 exact List.take_of_length_le (by rw [List.length_drop,List.length_cons,List.length_cons]; omega)
theorem flat_strs (zs:List Str):(zs.map V.str).all flatV=true:=by
 rw [List.all_eq_true]
 intro x hx
 obtain ⟨z,_,rfl⟩:=List.mem_map.mp hx
 rfl
theorem in_strs {z:Str} {zs:List Str} (h:z ∈ zs):inV (V.str z) (zs.map V.str)=true:=by
 unfold inV
 rw [List.any_eq_true]
 exact ⟨V.str z,List.mem_map.mpr ⟨z,h,rfl⟩,by simp [eqV]⟩
theorem nm_in {j:Nat} (h:j < 4):nm j ∈ JW:=by
 match j,h with
 | 0,_=>exact List.mem_cons_self
 | 1,_=>exact List.mem_cons_of_mem _ List.mem_cons_self
 | 2,_=>exact List.mem_cons_of_mem _ (List.mem_cons_of_mem _ List.mem_cons_self)
 | 3,_=>exact List.mem_cons_of_mem _ (List.mem_cons_of_mem _ (List.mem_cons_of_mem _ List.mem_cons_self))
structure En where
 s:Nat
 j:Nat
 n:Str
 o:List (Str × Nat)
def partN (n:Str) (o:List (Str × Nat)):List Str:=n :: o.map keyT
def En.w (e:En):List Str:=A9 e.s :: nm e.j :: partN e.n e.o
structure En.Ok (e:En):Prop where
 s1:1<=e.s
 s2:e.s<=100
 j:e.j < 4
 n:Ak e.n=true
 o:OkO e.o
theorem one_nT:∀ c:Fin 10,(⟨#[48 + c.val]⟩:Str)=nT c.val:=by decide +kernel
theorem two_nT:∀ c d:Fin 10,c.val≠0->(⟨#[48 + c.val,48 + d.val]⟩:Str)=nT (10 * c.val + d.val):=by decide +kernel
theorem num_nT {b:Str} (h:Dj b=true):∃ n:Nat,b=nT n/\n < 100:=by
 obtain ⟨⟨l⟩⟩:=b
 unfold Dj at h
 simp only [Bool.and_eq_true,decide_eq_true_eq,Bool.not_eq_true',Bool.and_eq_false_iff,decide_eq_false_iff_not] at h
 obtain ⟨⟨⟨h1,h2⟩,h3⟩,ha⟩:=h
 match l,h1,h2,h3,ha with
 | [],h1,_,_,_=>exact absurd h1 (by decide)
 | [c],_,_,_,ha=>
   have hc:48<=c/\c<=57:=by simpa [isFig] using ha
   have:=one_nT ⟨c - 48,by omega⟩
   have e:48 + (c - 48)=c:=by omega
   simp only [e] at this
   exact ⟨_,this,by omega⟩
 | [c,d],_,_,h3,ha=>
   have hc:(48<=c/\c<=57)/\48<=d/\d<=57:=by simpa [isFig] using ha
   have h0:c - 48≠0:=by
    rcases h3 with h | h
    ·have h:¬ c=48:=h
     omega
    ·exact absurd (show 1 < ([c,d]:List Nat).length by simp) h
   have:=two_nT ⟨c - 48,by omega⟩ ⟨d - 48,by omega⟩ h0
   have e:48 + (c - 48)=c:=by omega
   have e':48 + (d - 48)=d:=by omega
   simp only [e,e'] at this
   exact ⟨_,this,by omega⟩
 | c :: d :: e :: r,_,h2,_,_=>exact absurd h2 (by show ¬ (r.length + 1 + 1 + 1<=2); omega)
theorem nT_num:∀ n:Fin 100,Dj (nT n.val)=true/\PySem.intText? (nT n.val)=some (n.val:Int):=by decide +kernel
def keyP (z:Str):Option (Str × Nat):=(keyZ z).map fun k=>(k.1,k.2.toNat)
theorem keyP_text {k:Str × Nat} (h:Ak k.1=true/\k.2 < 100):keyP (keyT k)=some k:=by
 unfold keyP keyZ keyT
 rw [split_key h.1 h.2]
 have hd:=nT_num ⟨k.2,h.2⟩
 simp only [h.1,hd.1,hd.2,and_self,if_true,Option.map_some]
 rfl
theorem keyP_some {z:Str} {k:Str × Nat} (h:keyP z=some k):z=keyT k/\Ak k.1=true/\k.2 < 100:=by
 unfold keyP keyZ at h
 rw [dot1] at h
 have hj:=StrLaws.join_split z ⟨#[46]⟩
 generalize Txt.split z ⟨#[46]⟩=L at h hj
 match L,h,hj with
 | [],h,_=>cases h
 | [a],h,_=>cases h
 | a :: b :: c :: r,h,_=>cases h
 | [a,b],h,hj=>
   by_cases hc:Ak a=true/\Dj b=true
   ·obtain ⟨n,rfl,hn⟩:=num_nT hc.2
    have hd:=nT_num ⟨n,hn⟩
    simp only [hc.1,hd.1,hd.2,and_self,if_true,Option.map_some,Option.some.injEq] at h
    subst h
    refine ⟨?_,hc.1,by show ((n:Int)).toNat < 100; omega⟩
    rw [← hj]
    show a ++ ⟨#[46]⟩ ++ nT n=a ++ (".":Str) ++ nT _
    rw [dot1,show ((n:Int)).toNat=n by omega]
   ·simp only [if_neg hc] at h
    cases h
theorem keyP_is (z:Str):(keyZ z).isSome=(keyP z).isSome:=by unfold keyP; rw [Option.isSome_map]
def Cu:List Str->Option (Str × List (Str × Nat))
 | []=>none
 | n :: ks=>if Ak n=true/\ks.length<=2/\ks.all (fun z=>(keyP z).isSome)=true then some (n,ks.filterMap keyP) else none
theorem Cl (n:Str) (ks:List Str):Cu (n :: ks)=if Ak n=true/\ks.length<=2/\ks.all (fun z=>(keyP z).isSome)=true then some (n,ks.filterMap keyP) else none:=rfl
theorem keys_map:∀ {ks:List Str},ks.all (fun z=>(keyP z).isSome)=true->(ks.filterMap keyP).map keyT=ks/\(∀ k ∈ ks.filterMap keyP,Ak k.1=true/\k.2 < 100)/\(ks.filterMap keyP).length=ks.length
 | [],_=>⟨rfl,(fun k h=>nomatch h),rfl⟩
 | z :: ks,h=>by
   rw [List.all_cons,Bool.and_eq_true] at h
   obtain ⟨k,hk⟩:=Option.isSome_iff_exists.mp h.1
   obtain ⟨h1,h2,h3⟩:=keys_map h.2
   obtain ⟨e,g⟩:=keyP_some hk
   rw [List.filterMap_cons_some hk]
   refine ⟨by rw [List.map_cons,h1,← e],fun x hx=>?_,by rw [List.length_cons,List.length_cons,h3]⟩
   rcases List.mem_cons.mp hx with rfl | hx
   ·exact g
   ·exact h2 x hx
theorem keys_P:∀ {o:List (Str × Nat)},(∀ k ∈ o,Ak k.1=true/\k.2 < 100)->(o.map keyT).filterMap keyP=o/\(o.map keyT).all (fun z=>(keyP z).isSome)=true
 | [],_=>⟨rfl,rfl⟩
 | k :: o,h=>by
   obtain ⟨h1,h2⟩:=keys_P (o:=o) fun x hx=>h x (List.mem_cons_of_mem _ hx)
   have e:=keyP_text (h k List.mem_cons_self)
   rw [List.map_cons,List.filterMap_cons_some e,h1,List.all_cons,h2,e]
   exact ⟨rfl,rfl⟩
theorem partP_some {ws:List Str} {n:Str} {o:List (Str × Nat)} (h:Cu ws=some (n,o)):ws=partN n o/\Ak n=true/\OkO o:=by
 cases ws with
 | nil=>cases h
 | cons m ks=>
   rw [Cl] at h
   by_cases hc:Ak m=true/\ks.length<=2/\ks.all (fun z=>(keyP z).isSome)=true
   ·rw [if_pos hc] at h
    simp only [Option.some.injEq,Prod.mk.injEq] at h
    obtain ⟨rfl,rfl⟩:=h
    obtain ⟨h1,h2,h3⟩:=keys_map hc.2.2
    exact ⟨by unfold partN; rw [h1],hc.1,⟨by rw [h3]; exact hc.2.1,h2⟩⟩
   ·rw [if_neg hc] at h
    cases h
theorem partP_of {n:Str} {o:List (Str × Nat)} (hn:Ak n=true) (ho:OkO o):Cu (partN n o)=some (n,o):=by
 obtain ⟨h1,h2⟩:=keys_P ho.ok
 show Cu (n :: o.map keyT)=_
 rw [Cl,h1,if_pos ⟨hn,by rw [List.length_map]; exact ho.l2,h2⟩]
def jP (z:Str):Option Nat:=if z=nm 0 then some 0 else if z=nm 1 then some 1 else if z=nm 2 then some 2 else if z=nm 3 then some 3 else none
theorem jP_some {z:Str} {j:Nat} (h:jP z=some j):z=nm j/\j < 4:=by
 unfold jP at h
 repeat' (split at h)
 all_goals first | (cases h; done) | (cases h; exact ⟨by assumption,by decide⟩)
theorem jP_nm:∀ j:Fin 4,jP (nm j.val)=some j.val:=by decide +kernel
theorem jP_in (z:Str):inV (V.str z) (JW.map V.str)=(jP z).isSome:=by
 rw [Bool.eq_iff_iff]
 constructor
 ·intro h
  unfold inV at h
  rw [List.any_eq_true] at h
  obtain ⟨x,hx,e⟩:=h
  obtain ⟨y,hy,rfl⟩:=List.mem_map.mp hx
  have e:z=y:=by
   have:eqV (V.str y) (V.str z)=true\/eqV (V.str z) (V.str y)=true:=by first | exact .inl e | exact .inr e
   rcases this with h | h
   ·exact (beq_iff_eq.mp (show (y == z)=true from h)).symm
   ·exact beq_iff_eq.mp (show (z == y)=true from h)
  subst e
  unfold JW at hy
  simp only [List.mem_cons,List.not_mem_nil,or_false] at hy
  rcases hy with rfl | rfl | rfl | rfl
  ·exact (by decide +kernel:(jP (nm 0)).isSome=true)
  ·exact (by decide +kernel:(jP (nm 1)).isSome=true)
  ·exact (by decide +kernel:(jP (nm 2)).isSome=true)
  ·exact (by decide +kernel:(jP (nm 3)).isSome=true)
 ·intro h
  obtain ⟨j,hj⟩:=Option.isSome_iff_exists.mp h
  obtain ⟨rfl,h4⟩:=jP_some hj
  exact in_strs (nm_in h4)
def rowP (m:Nat):List Str->Option En
 | s :: j :: r=>if s=A9 s.length/\1<=s.length/\s.length<=m then (jP j).bind fun j=>(Cu r).map fun p=>⟨s.length,j,p.1,p.2⟩ else none
 | _=>none
theorem Cz (m:Nat) (s j:Str) (r:List Str):rowP m (s :: j :: r)=if s=A9 s.length/\1<=s.length/\s.length<=m then (jP j).bind fun j=>(Cu r).map fun p=>(⟨s.length,j,p.1,p.2⟩:En) else none:=rfl
structure EnOk (e:En):Prop where
 s1:1<=e.s
 j:e.j < 4
 n:Ak e.n=true
 o:OkO e.o
theorem rowP_some {m:Nat} {ws:List Str} {e:En} (h:rowP m ws=some e):ws=e.w/\EnOk e/\e.s<=m:=by
 match ws,h with
 | [],h=>cases h
 | [_],h=>cases h
 | s :: j :: r,h=>
   rw [Cz] at h
   by_cases hc:s=A9 s.length/\1<=s.length/\s.length<=m
   ·rw [if_pos hc] at h
    obtain ⟨j',hj,h⟩:=Option.bind_eq_some_iff.mp h
    obtain ⟨p,hp,h⟩:=Option.map_eq_some_iff.mp h
    obtain ⟨n,o⟩:=p
    subst h
    obtain ⟨rfl,g2,g3⟩:=partP_some hp
    obtain ⟨rfl,j4⟩:=jP_some hj
    refine ⟨?_,⟨hc.2.1,j4,g2,g3⟩,hc.2.2⟩
    show s :: _=A9 s.length :: _
    rw [← hc.1]
   ·rw [if_neg hc] at h
    cases h
theorem rowP_of {m:Nat} {e:En} (h:EnOk e) (hm:e.s<=m):rowP m e.w=some e:=by
 show rowP m (A9 e.s :: nm e.j :: partN e.n e.o)=some e
 rw [Cz]
 have sl:=Ds e.s
 rw [if_pos ⟨by rw [sl],by rw [sl]; exact h.s1,by rw [sl]; exact hm⟩,show jP (nm e.j)=some e.j from jP_nm ⟨e.j,h.j⟩,partP_of h.n h.o,sl]
 rfl
section
variable {P:Program} {w:World} {K:PySem.W.Frag} {mg:Str->Option Value} {base:Heap} {C:Addr}
structure WsAt (H:Hp) (l:Addr) (ws:List Str):Prop where
 at_:H l=some (.lst (ws.map V.str))
 few:ws.length<=2000
 short:∀ z ∈ ws,z.length<=1000
theorem WsAt.same {H H':Hp} {l:Addr} {ws:List Str} (h:WsAt H l ws) (s:Same H H'):WsAt H' l ws:=⟨s _ _ h.at_,h.few,h.short⟩
def spAPW:Sp:=fun vs H Q _=>∃ (l:Addr) (ws:List Str),vs=[.ref l]/\WsAt H l ws/\∀ H',Same H H'->Q (.bl (Cu ws).isSome) H'
abbrev Cf:Stmt:=top 55
theorem scare_part_words:Ao ["words"] ["words"] (Af Cf):=by trivial
theorem ok_apw (T:Txt mg) (F_is_word:FnAt P w K mg base "is_word" 1 ["thing"] (spWord K)) (F_is_key_text:FnAt P w K mg base "is_key_text" 2 ["text"] spIKTA) (F:Al K mg "are_part_words" Cf ["words"]):FnAt P w K mg base "are_part_words" 3 ["words"] spAPW:=by
 refine F.at scare_part_words (fun vs H Q E h=>?_) (fun f cdv A outer s H vs Q E hr h=>?_)
 ·obtain ⟨l,ws,rfl,_⟩:=h
  rfl
 ·obtain ⟨l,ws,rfl,⟨hl,few,short⟩,q⟩:=h
  refine ⟨_,(Ac (A5 (Bl (pt_chain op_le op_le Ae (Ai Aq rfl T.n_len boot_len (Aa (pv 0) Ab)) (A3 B4 Ae (Cp rfl T.g_MOST_OFFERS)))) (Ad (Ap pe_bl)) Am)
   (Ad (Ap (D1 (Ay F_is_word hr (by decide) rfl (Aa (A0 An (pv 0) Ae (fun _ _=>rfl)) Ab)) (pe_one (Ai (C4 rfl) rfl T.n_all boot_all (Aa (Bz (sc:=Af Cf) (N0:=["words"]) (xs:=["text"]) (ys:=[]) (js:=[]) (by trivial) rfl (Bn (Ba Cc (pv 0) (Bk Ae) Bp)) (fun _ _ _ _=>(Aw (i:=0) (show (["text"]:List Str).Nodup by decide +kernel) rfl (by trivial))) (fun _ _ _ _=>B9) (fun _ _ _ _=>(Ay F_is_key_text hr (by decide) rfl (Aa (pv 0) Ab)))) Ab))))))),?_⟩
  have hs:sizeLine=16777216:=sizeLine_eq
  have ln:((ws.map V.str).length:Nat)=ws.length:=List.length_map ..
  have no:(Cu ws).isSome=false->∀ H',Same H H'->Q (.bl false) H':=fun e H' s'=>by
   have:=q H' s'
   rw [e] at this
   exact this
  refine ⟨_,rfl,_,_,rfl,.inl ⟨_,SqL.of hl,rfl⟩,_,_,rfl,rfl,_,rfl,?_⟩
  refine ite2 (fun g1=>?_) (fun g1=>?_)
  ·have g1:=of_decide_eq_true g1
   rw [ln] at g1
   refine ⟨_,_,rfl,rfl,_,_,rfl,rfl,_,rfl,?_⟩
   refine ite2 (fun g2=>?_) (fun g2=>?_)
   ·refine no ?_ _ (Same.refl _)
    have g2:¬ ((ws.length:Int)<=1 + 2):=by
     intro z
     rw [ln,decide_eq_true z] at g2
     exact absurd g2 (by decide)
    cases ws with
    | nil=>rfl
    | cons n ks=>
      rw [Cl]
      rw [if_neg]
      ·rfl
      ·rintro ⟨_,z,_⟩
       rw [List.length_cons] at g2
       omega
   ·have g2:(ws.length:Int)<=1 + 2:=by
     by_cases z:(ws.length:Int)<=1 + 2
     ·exact z
     ·rw [ln,decide_eq_false z] at g2
      exact absurd rfl g2
    cases ws with
    | nil=>exact absurd g1 (by decide)
    | cons n ks=>
      rw [List.length_cons] at g2
      have k2:ks.length<=2:=by omega
      refine ⟨_,rfl,l,_,_,V.str n,rfl,rfl,SqL.of hl,(Az (j:=0) rfl),.str n,rfl,⟨.str,TyOf.str n⟩,(fun z' e=>by cases e; exact short n List.mem_cons_self),fun H1 s1=>⟨_,rfl,?_⟩⟩
      have l1:=s1 _ _ hl
      show if Ak n=true then _ else _
      cases hn:Ak n with
      | false=>
        refine iteF (no ?_ _ s1)
        rw [Cl]
        rw [if_neg]
        ·rfl
        ·rintro ⟨z,_⟩
         rw [hn] at z
         cases z
      | true=>
        refine iteT ⟨_,rfl,_,rfl,l,_,rfl,SqL.of l1,fun c hc=>?_⟩
        have e0:cutV ((n :: ks).map V.str) (some 1) none=ks.map V.str:=cut1 _ _
        rw [e0]
        generalize hQ9:upd H1 c (.lst (ks.map V.str))=H2
        have s2:=Nw hQ9 hc
        have e2:=Ns hQ9
        refine ⟨c,rfl,⟨_,SqL.of e2⟩,Br (K:=K) (a:=c) (xs:=ks.map V.str) (fun i ys H'=>ys=((ks.take i).map fun z=>(keyP z).isSome).map V.bl/\Same H2 H') ⟨rfl,Same.refl _⟩ (by rw [List.length_map]; omega) ?_ ?_ ?_ ?_⟩
        ·rintro i ys H' ⟨rfl,_⟩
         rw [List.length_map,List.length_map,List.length_take]; omega
        ·rintro i ys H' _ ⟨_,s'⟩
         exact SqL.of (s' _ _ e2)
        ·rintro i x ys H' hx ⟨rfl,s'⟩
         rw [List.getElem?_map] at hx
         obtain ⟨z,hz,rfl⟩:=Option.map_eq_some_iff.mp hx
         refine ⟨_,rfl,z,rfl,short z (List.mem_cons_of_mem _ (List.mem_of_getElem? hz)),fun H3 s3=>⟨?_,s'.trans s3⟩⟩
         rw [A6 hz,List.map_append,List.map_append,keyP_is]
         rfl
        ·rintro ys H' ⟨rfl,s'⟩ p hp
         rw [List.length_map,List.take_length]
         have s3:=Same.new (o:=.lst ((ks.map fun z=>(keyP z).isSome).map V.bl)) hp
         refine ⟨p,_,rfl,SqL.of Ag,?_⟩
         have q':=q _ (((s1.trans s2).trans s').trans s3)
         have e3:(Cu (n :: ks)).isSome=(ks.map fun z=>(keyP z).isSome).all id:=by
                rw [Cl]
                rw [List.all_map]
                show _=ks.all fun z=>(keyP z).isSome
                cases ha:ks.all fun z=>(keyP z).isSome with
                | true=>rw [if_pos ⟨hn,k2,rfl⟩]; rfl
                | false=>
                  rw [if_neg]
                  ·rfl
                  ·rintro ⟨_,_,z⟩
                   cases z
         rw [e3] at q'
         exact q'
  ·refine ⟨_,rfl,iteT (no ?_ _ (Same.refl _))⟩
   cases ws with
   | nil=>rfl
   | cons n ks=>
     exact absurd (decide_eq_true (show (1:Int)<=(((n :: ks).map V.str).length:Int) by rw [ln,List.length_cons]; omega)) g1
def spJR:Sp:=fun vs H Q _=>∃ (l:Addr) (m:Nat) (ws:List Str),vs=[.ref l,.int m]/\WsAt H l ws/\m<=2000/\∀ H',Same H H'->Q (.bl (rowP m ws).isSome) H'
abbrev Dc:Stmt:=top 56
theorem scis_joined_row:Ao ["words","most"] ["words","most"] (Af Dc):=by trivial
theorem ok_jr (T:Txt mg) (F_join_words:FnAt P w K mg base "join_words" 2 [] spJW) (F_are_part_words:FnAt P w K mg base "are_part_words" 3 ["words"] spAPW) (F:Al K mg "is_joined_row" Dc ["words","most"]):FnAt P w K mg base "is_joined_row" 4 ["words","most"] spJR:=by
 refine F.at scis_joined_row (fun vs H Q E h=>?_) (fun f cdv A outer s H vs Q E hr h=>?_)
 ·obtain ⟨l,m,ws,rfl,_⟩:=h
  rfl
 ·obtain ⟨l,m,ws,rfl,⟨hl,few,short⟩,hm,q⟩:=h
  refine ⟨_,(Ac (A5 (PW.pt (pw_or (Av op_lt (Ai Aq rfl T.n_len boot_len (Aa (pv 0) Ab)) Ae (A1 _)) (pw_or (Av op_ne (A0 An (pv 0) Ae (fun _ _=>rfl)) (A3 op_mulW Au (Ai Aq rfl T.n_len boot_len (Aa (A0 An (pv 0) Ae (fun _ _=>rfl)) Ab))) (A1 _)) (Ei (Bl (pt_chain op_le op_le Ae (Ai Aq rfl T.n_len boot_len (Aa (A0 An (pv 0) Ae (fun _ _=>rfl)) Ab)) (pv 1))))))) (Ad (Ap pe_bl)) Am)
   (Ad (Ap (D1 (C1 (op_inK K) (A0 An (pv 0) Ae (fun _ _=>rfl)) (pe_fn0 F_join_words hr (by decide) rfl) (by with_unfolding_all rfl)) (pe_one (Ay F_are_part_words hr (by decide) rfl (Aa (Ba Cc (pv 0) (Bk Ae) Bp) Ab))))))),?_⟩
  have hs:sizeLine=16777216:=sizeLine_eq
  have ln:((ws.map V.str).length:Nat)=ws.length:=List.length_map ..
  have no:rowP m ws=none->∀ H',Same H H'->Q (.bl false) H':=fun e H' s'=>by
   have:=q H' s'
   rw [e] at this
   exact this
  refine ⟨_,rfl,_,_,rfl,.inl ⟨_,SqL.of hl,rfl⟩,_,_,rfl,rfl,_,rfl,?_⟩
  refine ite2 (fun g1=>?_) (fun g1=>?_)
  ·have g1:=of_decide_eq_true g1
   rw [ln] at g1
   refine iteT (no ?_ _ (Same.refl _))
   match ws,g1 with
   | [],_=>rfl
   | [_],_=>rfl
   | _ :: _ :: r,g1=>exact absurd g1 (by rw [List.length_cons,List.length_cons]; omega)
  ·match ws,hl,few,short,q,no,ln,g1 with
   | [],_,_,_,_,_,_,g1=>exact absurd (by decide) g1
   | [_],_,_,_,_,_,_,g1=>exact absurd (decide_eq_true (show ((1:Nat):Int) < 2 by decide)) g1
   | z :: j :: r,hl,few,short,q,no,ln,g1=>
     have zl:=short z List.mem_cons_self
     refine ⟨_,rfl,l,_,_,V.str z,rfl,rfl,SqL.of hl,(Az (j:=0) rfl),?_⟩
     have es:repZ ((z.length:Nat):Int).toNat (Str.ofString "-")=A9 z.length:=rfl
     refine ⟨_,rfl,l,_,_,V.str z,rfl,rfl,SqL.of hl,(Az (j:=0) rfl),_,_,rfl,⟨by omega,rfl⟩,_,_,rfl,rfl,(by omega),(by omega),(by decide +kernel),rfl,_,rfl,?_⟩
     rw [es]
     by_cases hz:z=A9 z.length
     ·refine iteNS (congrArg V.str hz) ?_
      refine ⟨_,rfl,l,_,_,V.str z,rfl,rfl,SqL.of hl,(Az (j:=0) rfl),_,_,rfl,⟨by omega,rfl⟩,_,_,rfl,rfl,_,rfl,?_⟩
      refine ite2 (fun g2=>?_) (fun g2=>?_)
      ·have g2:=of_decide_eq_true g2
       refine ⟨_,rfl,_,_,rfl,rfl,_,rfl,?_⟩
       refine ite2 (fun g3=>?_) (fun g3=>?_)
       ·refine no ?_ _ (Same.refl _)
        rw [Cz]
        rw [if_neg]
        rintro ⟨_,_,y⟩
        rw [decide_eq_true (show ((z.length:Nat):Int)<=((m:Nat):Int) by omega)] at g3
        exact absurd g3 (by decide)
       ·have g3:((z.length:Nat):Int)<=((m:Nat):Int):=by
         by_cases y:((z.length:Nat):Int)<=((m:Nat):Int)
         ·exact y
         ·rw [decide_eq_false y] at g3
          exact absurd rfl g3
        have hc:z=A9 z.length/\1<=z.length/\z.length<=m:=⟨hz,by omega,by omega⟩
        have eR:rowP m (z :: j :: r)=(jP j).bind fun j=>(Cu r).map fun p=>⟨z.length,j,p.1,p.2⟩:=by
         rw [Cz,if_pos hc]
        refine ⟨_,rfl,l,_,_,V.str j,rfl,rfl,SqL.of hl,(Az (j:=1) rfl),rfl,fun lj H1 s1 nlj ej=>?_⟩
        refine ⟨lj,_,rfl,.inl (SqL.of ej),rfl,flat_strs _,_,rfl,?_⟩
        show if inV (V.str j) (JW.map V.str)=true then _ else _
        rw [jP_in]
        cases hj:jP j with
        | none=>
          refine iteF (no ?_ _ s1)
          rw [eR,hj]
          rfl
        | some j'=>
          refine iteT ⟨_,rfl,_,rfl,l,_,rfl,SqL.of (s1 _ _ hl),fun c hc=>?_⟩
          have e0:cutV ((z :: j :: r).map V.str) (some 2) none=r.map V.str:=cut2 _ _ _
          rw [e0]
          refine ⟨c,r,rfl,⟨Ag,by rw [List.length_cons,List.length_cons] at few; omega,fun x hx=>short x (List.mem_cons_of_mem _ (List.mem_cons_of_mem _ hx))⟩,fun H3 s3=>?_⟩
          have q':=q _ ((s1.trans (Same.new hc)).trans s3)
          rw [eR,hj,show ((some j').bind fun j=>(Cu r).map fun p=>(⟨z.length,j,p.1,p.2⟩:En)).isSome=(Cu r).isSome from Option.isSome_map ..] at q'
          exact q'
      ·refine ⟨_,rfl,iteT (no ?_ _ (Same.refl _))⟩
       rw [Cz]
       rw [if_neg]
       rintro ⟨_,y,_⟩
       exact g2 (decide_eq_true (by omega))
     ·refine ite2 (fun _=>iteT (no ?_ _ (Same.refl _))) (fun h=>absurd (by rw [decide_eq_false (fun y=>hz (V.str.inj y))]; rfl) h)
      rw [Cz]
      rw [if_neg (fun y=>hz y.1)]
end
end K34
namespace K34
open PySem L2 PyProof.Rows PySem.SeqAt
def rws:Nat->Fo->List En
 | _,.nil=>[]
 | s,.cons j n o ks r=>⟨s,j,n,o⟩ :: (rws (s + 1) ks ++ rws s r)
theorem rws_len:∀ (f:Fo) (s:Nat),(rws s f).length=f.size
 | .nil,_=>rfl
 | .cons j n o ks r,s=>by
   rw [rws,List.length_cons,List.length_append,rws_len ks,rws_len r,Fo.size]
   omega
theorem rows_of:∀ (f:Fo) (p:List (Nat × Str)),(walkF f).map (fun y=>rowW (p ++ y.1,y.2))=(rws (p.length + 1) f).map En.w
 | .nil,p=>rfl
 | .cons j n o ks r,p=>by
   have h1:=rows_of ks (p ++ [(j,n)])
   have h2:=rows_of r p
   rw [walkF,rws]
   simp only [List.map_cons,List.map_append,List.map_map,List.cons_append]
   rw [← h2]
   congr 1
   ·show rowW (p ++ [(j,n)],⟨n,o,ks⟩)=_
    unfold rowW
    have e:List.getLast? ((p ++ [(j,n)],(⟨n,o,ks⟩:Nd)):List (Nat × Str) × Nd).1=some (j,n):=List.getLast?_concat
    rw [e]
    show A9 (p ++ [(j,n)]).length :: _=_
    rw [List.length_append]
    rfl
   ·congr 1
    rw [List.length_append] at h1
    rw [← show (rws (p.length + [(j,n)].length + 1) ks)=rws (p.length + 1 + 1) ks from rfl,← h1]
    refine List.map_congr_left fun y _=>?_
    show rowW (p ++ (j,n) :: y.1,y.2)=rowW (p ++ [(j,n)] ++ y.1,y.2)
    rw [List.append_assoc]
    rfl
theorem rows_walk (d:Nd):(Ct d).map rowW=partN d.n d.o :: (rws 1 d.ks).map En.w:=by
 rw [Ct,List.map_cons]
 congr 1
 exact rows_of d.ks []
def Fo.app:Fo->Fo->Fo
 | .nil,g=>g
 | .cons j n o ks r,g=>.cons j n o ks (r.app g)
theorem app_nil:∀ f:Fo,f.app .nil=f
 | .nil=>rfl
 | .cons j n o ks r=>by rw [Fo.app,app_nil r]
def stp (e:En) (W:Nat->Fo):Nat->Fo:=fun t=>if t=e.s then .cons e.j e.n e.o (W (e.s + 1)) (W e.s) else if t=e.s + 1 then .nil else W t
def wait (W:Nat->Fo) (es:List En):Nat->Fo:=es.foldr stp W
theorem wait_app (W:Nat->Fo) (a b:List En):wait W (a ++ b)=wait (wait W b) a:=List.foldr_append
theorem wait_rws:∀ (f:Fo) (s:Nat) (W:Nat->Fo),(∀ t,s < t->W t=.nil)->wait W (rws s f)=fun t=>if t=s then f.app (W s) else W t
 | .nil,s,W,h=>by
   funext t
   show W t=_
   by_cases e:t=s
   ·rw [if_pos e,e]; rfl
   ·rw [if_neg e]
 | .cons j n o ks r,s,W,h=>by
   have h1:=wait_rws r s W h
   have h2:=wait_rws ks (s + 1) (wait W (rws s r)) (fun t ht=>by rw [h1]; show (if t=s then _ else _)=_; rw [if_neg (by omega)]; exact h t (by omega))
   rw [rws]
   show stp _ (wait W (rws (s + 1) ks ++ rws s r))=_
   rw [wait_app]
   generalize wait (wait W (rws s r)) (rws (s + 1) ks)=G at h2
   have g1:G (s + 1)=ks:=by
    rw [h2]
    show (if s + 1=s + 1 then ks.app (wait W (rws s r) (s + 1)) else _)=_
    rw [if_pos rfl,h1]
    show ks.app (if s + 1=s then _ else W (s + 1))=_
    rw [if_neg (by omega),h (s + 1) (by omega),app_nil]
   have g0:∀ t,t≠s + 1->G t=if t=s then r.app (W s) else W t:=fun t ht=>by
    rw [h2]
    show (if t=s + 1 then _ else wait W (rws s r) t)=_
    rw [if_neg ht,h1]
   funext t
   show (if t=s then Fo.cons j n o (G (s + 1)) (G s) else if t=s + 1 then Fo.nil else G t)=_
   rw [g1,g0 s (by omega),if_pos rfl]
   by_cases e:t=s
   ·rw [if_pos e,if_pos e]; rfl
   ·rw [if_neg e,if_neg e]
    by_cases e2:t=s + 1
    ·rw [if_pos e2,e2,h (s + 1) (by omega)]
    ·rw [if_neg e2,g0 t e2,if_neg e]
def W0:Nat->Fo:=fun _=>.nil
def Ch:Nat->List En->Prop
 | _,[]=>True
 | m,e :: es=>EnOk e/\e.s<=m/\Ch (e.s + 1) es
def nxt:Nat->List En->Nat
 | m,[]=>m
 | _,e :: es=>nxt (e.s + 1) es
theorem Ch.snoc:∀ {m:Nat} {es:List En} {e:En},Ch m es->EnOk e->e.s<=nxt m es->Ch m (es ++ [e])
 | m,[],e,_,h1,h2=>⟨h1,h2,trivial⟩
 | m,x :: es,e,h,h1,h2=>⟨h.1,h.2.1,Ch.snoc h.2.2 h1 h2⟩
theorem nxt_snoc:∀ (m:Nat) (es:List En) (e:En),nxt m (es ++ [e])=e.s + 1
 | m,[],e=>rfl
 | m,x :: es,e=>nxt_snoc (x.s + 1) es e
theorem nxt_le:∀ {m:Nat} {es:List En},Ch m es->nxt m es<=m + es.length
 | m,[],_=>Nat.le_refl _
 | m,e :: es,h=>by
   have:=nxt_le h.2.2
   have:=h.2.1
   rw [List.length_cons]
   show nxt (e.s + 1) es<=_
   omega
theorem Ch.drop:∀ {m i:Nat} {es:List En} {e:En},Ch m es->es[i]?=some e->Ch (e.s + 1) (es.drop (i + 1))/\EnOk e
 | m,i,[],e,_,h=>by simp at h
 | m,0,x :: es,e,c,h=>by
   simp only [List.getElem?_cons_zero,Option.some.injEq] at h
   subst h
   exact ⟨c.2.2,c.1⟩
 | m,i + 1,x :: es,e,c,h=>by
   rw [List.getElem?_cons_succ] at h
   rw [List.drop_succ_cons]
   exact Ch.drop c.2.2 h
theorem wait_hi:∀ {m:Nat} {es:List En},Ch m es->∀ t,m < t->wait W0 es t=.nil
 | m,[],_,t,_=>rfl
 | m,e :: es,h,t,ht=>by
   have h2:=h.2.1
   show (if t=e.s then _ else if t=e.s + 1 then Fo.nil else wait W0 es t)=_
   rw [if_neg (by omega)]
   by_cases e1:t=e.s + 1
   ·rw [if_pos e1]
   ·rw [if_neg e1]
    exact wait_hi h.2.2 t (by omega)
theorem cut_f:∀ (k:Nat) {es:List En} {m s:Nat},es.length<=k->1<=s->Ch m es->m<=s->∃ f rest,es=rws s f ++ rest/\Ch (s - 1) rest
 | _,[],m,s,_,_,_,_=>⟨.nil,[],rfl,trivial⟩
 | 0,_ :: _,m,s,h,_,_,_=>by simp at h
 | k + 1,e :: es,m,s,hk,hs,c,hm=>by
   obtain ⟨c1,c2,c3⟩:=c
   rw [List.length_cons] at hk
   by_cases e0:e.s=s
   ·obtain ⟨ks,rest1,h1,c4⟩:=cut_f k (es:=es) (s:=s + 1) (by omega) (by omega) c3 (by omega)
    have l1:rest1.length<=k:=by
     have:=congrArg List.length h1
     rw [List.length_append] at this
     omega
    obtain ⟨r,rest,h2,c5⟩:=cut_f k (es:=rest1) (s:=s) l1 hs c4 (by omega)
    refine ⟨.cons e.j e.n e.o ks r,rest,?_,c5⟩
    rw [rws,List.cons_append,List.append_assoc,← h2,← h1]
    subst e0
    rfl
   ·exact ⟨.nil,e :: es,rfl,c1,by omega,c3⟩
def kidsAt (es:List En) (i s:Nat):Fo:=wait W0 (es.drop (i + 1)) (s + 1)
theorem seg {es:List En} {s:Nat} (c:Ch (s + 1) es):∃ rest,es=rws (s + 1) (wait W0 es (s + 1)) ++ rest/\Ch s rest:=by
 obtain ⟨f,rest,h1,c1⟩:=cut_f es.length (s:=s + 1) (Nat.le_refl _) (by omega) c (Nat.le_refl _)
 refine ⟨rest,?_,c1⟩
 have c1:Ch s rest:=c1
 have h2:=wait_rws f (s + 1) (wait W0 rest) (fun t ht=>wait_hi c1 t (by omega))
 have h3:wait W0 es (s + 1)=f:=by
  rw [h1,wait_app,h2]
  show (if s + 1=s + 1 then f.app (wait W0 rest (s + 1)) else _)=f
  rw [if_pos rfl,wait_hi c1 (s + 1) (by omega),app_nil]
 rw [h3]
 exact h1
theorem root_seg {es:List En} (c:Ch 1 es):es=rws 1 (wait W0 es 1):=by
 obtain ⟨rest,h1,c1⟩:=seg (s:=0) c
 cases rest with
 | nil=>simpa using h1
 | cons e r=>exact absurd c1.2.1 (by have:=c1.1.s1; omega)
def Bs (n:Str) (o:List (Str × Nat)) (es:List En):Nat->Nd
 | 0=>⟨n,o,wait W0 es 1⟩
 | i + 1=>match es[i]? with
   | some e=>⟨e.n,e.o,kidsAt es i e.s⟩
   | none=>⟨n,o,.nil⟩
theorem wait_size {es:List En} {s:Nat} (c:Ch (s + 1) es):(wait W0 es (s + 1)).size<=es.length:=by
 obtain ⟨rest,h1,_⟩:=seg c
 have:=congrArg List.length h1
 rw [List.length_append,rws_len] at this
 omega
inductive U where
 | tx (n:Nat)
 | of (k:Str × Nat)
 | mn (n:Nat)
 | db (z:Str)
 | dp (n:Nat)
def dupG:List Str->List Str->Option Str
 | _,[]=>none
 | sn,z :: r=>if z ∈ sn then some z else dupG (sn ++ [z]) r
theorem dupG_none:∀ {r sn:List Str},dupG sn r=none->sn.Nodup->(sn ++ r).Nodup
 | [],sn,_,h=>by simpa using h
 | z :: r,sn,h,hs=>by
   unfold dupG at h
   split at h
   ·cases h
   ·rename_i hz
    have:=dupG_none h (List.nodup_append.mpr ⟨hs,by simp,fun a ha b hb=>by
     rw [List.mem_singleton] at hb
     subst hb
     rintro rfl
     exact hz ha⟩)
    simpa using this
theorem dupG_some:∀ {r sn:List Str} {z:Str},dupG sn r=some z->sn.Nodup->∃ i,r[i]?=some z/\z ∈ sn ++ r.take i/\(sn ++ r.take i).Nodup
 | [],sn,z,h,_=>by cases h
 | x :: r,sn,z,h,hs=>by
   unfold dupG at h
   split at h
   ·rename_i hx
    cases h
    exact ⟨0,rfl,by simpa using hx,by simpa using hs⟩
   ·rename_i hx
    have hs2:(sn ++ [x]).Nodup:=List.nodup_append.mpr ⟨hs,by simp,fun a ha b hb=>by
     rw [List.mem_singleton] at hb
     subst hb
     rintro rfl
     exact hx ha⟩
    obtain ⟨i,h1,h2,h3⟩:=dupG_some h hs2
    refine ⟨i + 1,by rw [List.getElem?_cons_succ]; exact h1,?_,?_⟩
    ·rw [List.take_succ_cons]; simpa using h2
    ·rw [List.take_succ_cons]; simpa using h3
def Ea (d:Nd):Option U:=if 6 < d.ks.items.length then some (.mn d.ks.items.length) else match dupG [] (names d) with
 | some z=>some (.db z)
 | none=>if 30 < d.ks.size + 1 then some (.mn (d.ks.size + 1)) else if 6 < d.ks.ht + 1 then some (.dp (d.ks.ht + 1)) else none
def Bt (d:Nd):Option U:=match d.o with
 | [a,b]=>if a=b then some (.of a) else Ea d
 | _=>Ea d
theorem C7 {d:Nd} (ho:OkO d.o):(∃ a,d.o=[a,a]/\Bt d=some (.of a))\/(GoodO d.o/\Bt d=Ea d):=by
 obtain ⟨n,o,ks⟩:=d
 match o,ho with
 | [],ho=>exact .inr ⟨⟨ho.l2,List.nodup_nil,ho.ok⟩,rfl⟩
 | [a],ho=>exact .inr ⟨⟨ho.l2,by simp,ho.ok⟩,rfl⟩
 | [a,b],ho=>
   by_cases e:a=b
   ·subst e
    exact .inl ⟨a,rfl,by unfold Bt; exact if_pos rfl⟩
   ·refine .inr ⟨⟨ho.l2,by simpa using e,ho.ok⟩,by unfold Bt; exact if_neg e⟩
 | _ :: _ :: _ :: r,ho=>exact absurd ho.l2 (by simp)
theorem wrongB_none {d:Nd} (h:Ea d=none):d.ks.items.length<=6/\Bd d:=by
 unfold Ea at h
 split at h
 ·cases h
 ·rename_i h1
  split at h
  ·cases h
  ·rename_i h2
   split at h
   ·cases h
   ·rename_i h3
    split at h
    ·cases h
    ·rename_i h4
     exact ⟨by omega,by simpa using dupG_none h2 List.nodup_nil,by omega,by omega⟩
theorem fo_ht6:∀ {f:Fo},(∀ x ∈ f.items,Bd x.2)->f.ht<=6
 | .nil,_=>by rw [Fo.ht]; omega
 | .cons j n o ks r,h=>by
   have h1:=(h (j,⟨n,o,ks⟩) List.mem_cons_self).h
   have h2:=fo_ht6 (f:=r) fun x hx=>h x (List.mem_cons_of_mem _ hx)
   have h1:ks.ht + 1<=6:=h1
   rw [Fo.ht]
   omega
def Dy:Nat->List (List Str)->Nat ⊕ List En
 | _,[]=>.inr []
 | m,ws :: r=>match rowP m ws with
   | none=>.inl 0
   | some e=>match Dy (e.s + 1) r with
     | .inl i=>.inl (i + 1)
     | .inr es=>.inr (e :: es)
theorem rowsP_inr:∀ {m:Nat} {r:List (List Str)} {es:List En},Dy m r=.inr es->r=es.map En.w/\Ch m es
 | m,[],es,h=>by
   cases h
   exact ⟨rfl,trivial⟩
 | m,ws :: r,es,h=>by
   unfold Dy at h
   split at h
   ·cases h
   ·rename_i e he
    split at h
    ·cases h
    ·rename_i es' h'
     cases h
     obtain ⟨h1,h2⟩:=rowsP_inr h'
     obtain ⟨g1,g2,g3⟩:=rowP_some he
     exact ⟨by rw [List.map_cons,← h1,← g1],g2,g3,h2⟩
inductive Res where
 | no (u:U)
 | work (d:Nd)
def A8 (n:Str) (o:List (Str × Nat)) (es:List En):Nat->Option U
 | 0=>none
 | k + 1=>match Bt (Bs n o es k) with
   | some u=>some u
   | none=>A8 n o es k
theorem valV_drop {κ:Type} [DecidableEq κ] (kvs:List (κ × V)) (k j:κ):valV (dropK kvs k) j=if j=k then none else valV kvs j:=by
 induction kvs with
 | nil=>rw [show dropK ([]:List (κ × V)) k=[] from rfl,valV_nil]; split <;> rfl
 | cons p r ih=>
   by_cases e:p.1=k
   ·have e1:dropK (p :: r) k=dropK r k:=by unfold dropK; rw [List.filter_cons_of_neg (by simp [e])]
    rw [e1,ih]
    by_cases e2:j=k
    ·rw [if_pos e2,if_pos e2]
    ·rw [if_neg e2,if_neg e2,B8 (fun z=>e2 (by rw [← z,e]))]
   ·have e1:dropK (p :: r) k=p :: dropK r k:=by unfold dropK; rw [List.filter_cons_of_pos (by simp [e])]
    rw [e1]
    by_cases e3:p.1=j
    ·rw [Cj e3,Cj e3,if_neg (fun z=>e (e3.trans z))]
    ·rw [B8 e3,B8 e3,ih]
def readR:List (List Str)->Res
 | []=>.no (.tx 0)
 | w0 :: r=>match Cu w0 with
   | none=>.no (.tx 0)
   | some p=>match Dy 1 r with
     | .inl i=>.no (.tx (i + 1))
     | .inr es=>match A8 p.1 p.2 es (es.length + 1) with
       | some u=>.no u
       | none=>.work (Bs p.1 p.2 es 0)
end K34
namespace L2
open PySem PySem.Spec PyProof.Rows
theorem FnAt.weak {P:Program} {w:World} {K:PySem.W.Frag} {mg:Str->Option Value} {base:Heap} {x:Str} {k:Nat} {ps:List Str} {sp sp':Sp} (F:FnAt P w K mg base x k ps sp) (h:∀ vs H Q E,sp' vs H Q E->sp vs H Q E):FnAt P w K mg base x k ps sp':=by
 obtain ⟨f,fd,G,a,b,c⟩:=F
 exact ⟨f,fd,⟨fun vs H Q E z=>G.len vs H Q E (h _ _ _ _ z),fun A outer s H args us vs Q E hr e0 hb r z=>G.run A outer s H args us vs Q E hr e0 hb r (h _ _ _ _ z)⟩,a,b,c⟩
end L2
namespace K34
open PySem L2 PyProof.Rows PySem.SeqAt
def bump (es:List En):Nat ⊕ List En->Nat ⊕ List En
 | .inl i=>.inl (i + es.length)
 | .inr es'=>.inr (es ++ es')
theorem Dx:∀ {m:Nat} {es:List En} (r:List (List Str)),Ch m es->Dy m (es.map En.w ++ r)=bump es (Dy (nxt m es) r)
 | m,[],r,_=>by
   show Dy m r=bump [] (Dy m r)
   cases Dy m r <;> rfl
 | m,e :: es,r,c=>by
   obtain ⟨c1,c2,c3⟩:=c
   have h:=Dx r c3
   rw [List.map_cons,List.cons_append,Dy,rowP_of c1 c2]
   dsimp only
   rw [h]
   show _=bump (e :: es) (Dy (nxt (e.s + 1) es) r)
   cases Dy (nxt (e.s + 1) es) r <;> rfl
def formsR:List (List Str)->Option Nat
 | []=>some 0
 | w0 :: r=>match Cu w0 with
   | none=>some 0
   | some _=>match Dy 1 r with
     | .inl i=>some (i + 1)
     | .inr _=>none
theorem formsR_0 {w0:List Str} {r:List (List Str)} (h:Cu w0=none):formsR (w0 :: r)=some 0:=by
 show (match Cu w0 with | none=>some 0 | some _=>_)=_
 rw [h]
theorem formsR_l {w0:List Str} {r:List (List Str)} {p:Str × List (Str × Nat)} {i:Nat} (h:Cu w0=some p) (h2:Dy 1 r=.inl i):formsR (w0 :: r)=some (i + 1):=by
 show (match Cu w0 with | none=>some 0 | some _=>match Dy 1 r with | .inl i=>some (i + 1) | .inr _=>none)=_
 rw [h,h2]
theorem formsR_r {w0:List Str} {r:List (List Str)} {p:Str × List (Str × Nat)} {es:List En} (h:Cu w0=some p) (h2:Dy 1 r=.inr es):formsR (w0 :: r)=none:=by
 show (match Cu w0 with | none=>some 0 | some _=>match Dy 1 r with | .inl i=>some (i + 1) | .inr _=>none)=_
 rw [h,h2]
structure RsAt (H:Hp) (l:Addr) (rows:List (List Str)):Prop where
 ex:∃ ps:List Addr,H l=some (.lst (ps.map V.ref))/\A2 (WsAt H) ps rows
 few:rows.length<=100
 some:rows≠[]
theorem RsAt.same {H H':Hp} {l:Addr} {rows:List (List Str)} (h:RsAt H l rows) (s:Same H H'):RsAt H' l rows:=by
 obtain ⟨⟨ps,h1,h2⟩,h3,h4⟩:=h
 exact ⟨⟨ps,s _ _ h1,h2.imp fun _ _ e=>e.same s⟩,h3,h4⟩
section
variable {P:Program} {w:World} {K:PySem.W.Frag} {mg:Str->Option Value} {base:Heap} {C fP:Addr} {dP:FuncData} {c:Cs}
def spNF (c:Cs):Sp:=fun vs H Q E=>∃ (l:Addr) (rows:List (List Str)),vs=[.ref l]/\RsAt H l rows/\(formsR rows=none->∀ H',Same H H'->Q .non H')/\∀ i,formsR rows=some i->XD c H E (.tx i)
abbrev sneed_forms:Stmt:=top 57
theorem Ec:Ao ["rows","most","place"] ["rows"] (Af sneed_forms):=by trivial
theorem ok_nf (T:Txt mg) (X:Has P w K mg base c) (F_are_part_words:FnAt P w K mg base "are_part_words" 3 ["words"] spAPW) (F_is_joined_row:FnAt P w K mg base "is_joined_row" 4 ["words","most"] spJR) (F:Al K mg "need_forms" sneed_forms ["rows"]):D9 P w K mg base "need_forms" 5 ["rows"] (spNF c):=by
 refine F.atX Ec (fun vs H Q E h=>?_) (fun f cdv A outer s H vs Q E hr h=>?_)
 ·obtain ⟨l,rows,rfl,_⟩:=h
  rfl
 ·obtain ⟨l,rows,rfl,⟨⟨ps,hl,hps⟩,few,ne⟩,q,xx⟩:=h
  refine ⟨_,(Ac (A5 (Bl (Bw (Ay F_are_part_words hr (by decide) rfl (Aa (A0 An (pv 0) Ae (fun _ _=>rfl)) Ab)))) (Ad (Ej Cr hr.hd (pe_x X.xt hr (by decide) rfl (Aa Ae Ab)))) Am)
   (Ac (As (i:=1) Ec.nd rfl (by trivial) Ae)
   (Ad (C6 PassesOwn.leaving rfl (pi_range2 rfl T.n_range (Aa Ae (Aa (Ai Aq rfl T.n_len boot_len (Aa (pv 0) Ab)) Ab))) (Aw (i:=2) Ec.nd rfl (by trivial)) (Ac (A5 (Bl (Bw (Ay F_is_joined_row hr (by decide) rfl (Aa (A0 An (pv 0) (pv 2) (fun _ _=>rfl)) (Aa (pv 1) Ab))))) (Ad (Ej Cr hr.hd (pe_x X.xt hr (by decide) rfl (Aa (pv 2) Ab)))) Am)
   (Ad (As (i:=1) Ec.nd rfl (by trivial) (A3 B4 (Ai Aq rfl T.n_len boot_len (Aa (A0 An (A0 An (pv 0) (pv 2) (fun _ _=>rfl)) Ae (fun _ _=>rfl)) Ab)) Ae)))))))),?_⟩
  have hs:sizeLine=16777216:=sizeLine_eq
  obtain ⟨p0,ps,rfl⟩:∃ p0 ps',ps=p0 :: ps':=by
   cases ps with
   | nil=>exact absurd hps.1 (by cases rows with | nil=>exact absurd rfl ne | cons _ _=>simp)
   | cons p0 ps=>exact ⟨p0,ps,rfl⟩
  obtain ⟨w0,rest,rfl⟩:∃ w0 rest,rows=w0 :: rest:=by
   cases rows with
   | nil=>exact absurd rfl ne
   | cons w0 rest=>exact ⟨w0,rest,rfl⟩
  obtain ⟨hp0,hps⟩:=hps.inv
  have pl:ps.length<=99:=by rw [hps.1]; rw [List.length_cons] at few; omega
  have ll:((p0 :: ps).map V.ref).length=ps.length + 1:=by rw [List.length_map,List.length_cons]
  refine ⟨_,rfl,l,_,_,V.ref p0,rfl,rfl,SqL.of hl,(Az (j:=0) rfl),p0,w0,rfl,hp0,fun H1 s1=>⟨_,rfl,?_⟩⟩
  cases hw:Cu w0 with
  | none=>
    refine iteT ?_
    exact ⟨_,rfl,fun a dx' z1 z2 z3=>⟨a,c.t,some dx',rfl,by rw [Aj (Ne.symm z3)]; exact Ag,X.xt.df.ok.mkk,XatF.go (xx 0 (formsR_0 hw)) s1 z1 z2 z3⟩⟩
  | some pw=>
  refine iteF ?_
  refine ⟨_,rfl,_,_,rfl,.inl ⟨_,SqL.of (s1 _ _ hl),rfl⟩,_,_,rfl,⟨by decide,by decide,?_,?_⟩,D5 (n:=_) (fun i σ H'=>∃ (v2:Option V) (es:List En),σ=[some (.ref l),some (.int ((nxt 1 es:Nat):Int)),v2]/\Same H H'/\es.length=i/\rest.take i=es.map En.w/\Ch 1 es) ⟨_,[],rfl,s1,rfl,rfl,trivial⟩ ?_ ?_⟩
  ·rw [ll]; omega
  ·rw [ll]; omega
  ·rintro i σ H' hi ⟨v2,es,rfl,s',el,et,ec⟩
   have hi:i < ps.length:=by rw [ll] at hi; omega
   obtain ⟨p,hp⟩:∃ p,ps[i]?=some p:=⟨ps[i],List.getElem?_eq_getElem hi⟩
   obtain ⟨ws,he,hpe⟩:=hps.at hp
   have ha:atI ((p0 :: ps).map V.ref) (1 + (i:Int))=some (.ref p):=by
    rw [show (1:Int) + i=((i + 1:Nat):Int) by omega]
    exact Az (by rw [List.map_cons,List.getElem?_cons_succ,List.getElem?_map,hp]; rfl)
   have hm:=nxt_le ec
   have ed:rest=es.map En.w ++ ws :: rest.drop (i + 1):=by
    obtain ⟨h1,h2⟩:=List.getElem?_eq_some_iff.mp he
    rw [← et,← h2,← List.drop_eq_getElem_cons h1,List.take_append_drop]
   have hR:=Dx (ws :: rest.drop (i + 1)) ec
   rw [← ed] at hR
   refine ⟨_,rfl,_,rfl,l,_,_,V.ref p,rfl,rfl,SqL.of (s' _ _ hl),ha,_,rfl,p,nxt 1 es,ws,rfl,hpe.same s',by omega,fun H2 s2=>⟨_,rfl,?_⟩⟩
   have S2:=s'.trans s2
   cases hw2:rowP (nxt 1 es) ws with
   | none=>
     refine iteT ?_
     rw [Dy,hw2] at hR
     have e1:formsR (w0 :: rest)=some (i + 1):=by
      rw [formsR_l hw hR]
      show some (0 + es.length + 1)=_
      rw [el,Nat.zero_add]
     have ev:(V.int (1 + (i:Int)))=V.int ((i + 1:Nat):Int):=by rw [show (1:Int) + i=((i + 1:Nat):Int) by omega]
     rw [ev]
     exact ⟨_,rfl,_,rfl,fun a dx' z1 z2 z3=>⟨a,c.t,some dx',rfl,by rw [Aj (Ne.symm z3)]; exact Ag,X.xt.df.ok.mkk,XatF.go (xx (i + 1) e1) S2 z1 z2 z3⟩⟩
   | some e=>
     refine iteF ?_
     obtain ⟨g1,g2,g3⟩:=rowP_some hw2
     have sl:=Ds e.s
     have hp2:H2 p=some (.lst (e.w.map V.str)):=by rw [← g1]; exact S2 _ _ hpe.at_
     refine ⟨_,rfl,_,rfl,l,_,_,V.ref p,rfl,rfl,SqL.of (S2 _ _ hl),ha,p,_,_,V.str (A9 e.s),rfl,rfl,SqL.of hp2,(Az (j:=0) rfl),_,_,rfl,⟨by omega,rfl⟩,_,_,rfl,rfl,?_⟩
     refine ⟨_,es ++ [e],by rw [sl,nxt_snoc]; rfl,S2,by rw [List.length_append,el]; rfl,?_,ec.snoc g2 g3⟩
     rw [A6 he,et,List.map_append,g1]
     rfl
  ·rintro σ H' ⟨v2,es,rfl,s',el,et,ec⟩
   refine q ?_ _ s'
   have hln:((ps.length + 1:Nat):Int) - 1=(ps.length:Int):=by omega
   have ht:rest.take es.length=rest:=List.take_of_length_le (by rw [el,← hps.1,ll]; omega)
   rw [← el,ht] at et
   have hR:=Dx [] ec
   rw [List.append_nil,← et] at hR
   exact formsR_r hw hR
end
end K34
namespace K34
open PySem L2 PyProof.Rows PySem.SeqAt
def XU (c:Cs) (H:Hp) (E:XK):U->Prop
 | .tx n=>XD c H E (.tx n)
 | .of k=>∀ (l p1 p2:Addr) (H':Hp),Same H H'->H' l=some (.lst [.ref p1,.ref p2])->KeyR H' p1 k->KeyR H' p2 k->XD c H' E (.of (.ref l))
 | .mn n=>XD c H E (.mn n)
 | .db z=>XD c H E (.db (.str z))
 | .dp n=>XD c H E (.dp n)
theorem XU.same {c:Cs} {H H1:Hp} {E:XK} {u:U} (x:XU c H E u) (s:Same H H1):XU c H1 E u:=by
 cases u with
 | of k=>exact fun l p1 p2 H' s' h1 h2 h3=>x l p1 p2 H' (s.trans s') h1 h2 h3
 | tx n=>exact XatF.same x s
 | mn n=>exact XatF.same x s
 | db z=>exact XatF.same x s
 | dp n=>exact XatF.same x s
theorem wrongB_some {d:Nd} {u:U} (h:Ea d=some u):(6 < d.ks.items.length/\u=.mn d.ks.items.length)\/(d.ks.items.length<=6/\((∃ z,dupG [] (names d)=some z/\u=.db z)\/(names d).Nodup/\((30 < d.ks.size + 1/\u=.mn (d.ks.size + 1))\/(d.ks.size + 1<=30/\6 < d.ks.ht + 1/\u=.dp (d.ks.ht + 1))))):=by
 unfold Ea at h
 split at h
 ·rename_i h1
  cases h
  exact .inl ⟨h1,rfl⟩
 ·rename_i h1
  refine .inr ⟨by omega,?_⟩
  split at h
  ·rename_i z hz
   cases h
   exact .inl ⟨z,hz,rfl⟩
  ·rename_i h2
   have nd:(names d).Nodup:=by simpa using dupG_none h2 List.nodup_nil
   refine .inr ⟨nd,?_⟩
   split at h
   ·rename_i h3
    cases h
    exact .inl ⟨h3,rfl⟩
   ·rename_i h3
    split at h
    ·rename_i h4
     cases h
     exact .inr ⟨by omega,h4,rfl⟩
    ·cases h
theorem ibad {C:Addr} {c:Cs} {H:Hp} {E:XK} {n:Str} {o:List (Str × Nat)} {f:Fo} {its:List V} {lo lb:Addr} {qs:List Addr} {u:U} (hn:Ak n=true) (ho:OkO o) (hlo:H lo=some (.lst (qs.map V.ref))) (hq:A2 (KeyR H) qs o) (hlb:H lb=some (.lst its)) (hF:FAt C H f its)
 (h7:f.ht < 7) (hz:f.size<=1000) (h100:its.length<=100) (hu:Bt ⟨n,o,f⟩=some u) (xx:XU c H E u):∃ u',IBad C H (.str n) (.ref lo) (.ref lb) u'/\XD c H E u':=by
 have il:its.length=f.items.length:=hF.items.1
 rcases C7 (d:=⟨n,o,f⟩) ho with ⟨a,e,e2⟩ | ⟨go,e2⟩
 ·have e:o=[a,a]:=e
  subst e
  rw [hu] at e2
  cases e2
  match qs,hq with
  | [p1,p2],hq=>
    obtain ⟨k1,hq⟩:=hq.inv
    obtain ⟨k2,_⟩:=hq.inv
    exact ⟨_,.of hn hlo k1 k2 (ho.ok a List.mem_cons_self),xx lo p1 p2 H (Same.refl _) hlo k1 k2⟩
  | [],hq=>exact absurd hq.1 (by simp)
  | [_],hq=>exact absurd hq.1 (by simp)
  | _ :: _ :: _ :: _,hq=>exact absurd hq.1 (by simp)
 ·rw [hu] at e2
  have oa:OfArg H (.ref lo) o:=.inr (.inl ⟨lo,qs,rfl,hlo,hq,go⟩)
  rcases wrongB_some e2.symm with ⟨h6,rfl⟩ | ⟨h6,h⟩
  ·have h6:6 < f.items.length:=h6
   refine ⟨_,.mn hn oa hlb hF (by omega) h100,?_⟩
   rw [il]
   exact xx
  ·have h6:f.items.length<=6:=h6
   have ba:BnArg C H (.ref lb) f its:=.inr ⟨lb,rfl,hlb,hF,by omega⟩
   rcases h with ⟨z,hz',rfl⟩ | ⟨nd,⟨h30,rfl⟩ | ⟨h30,h,rfl⟩⟩
   ·obtain ⟨i,i1,i2,i3⟩:=dupG_some hz' List.nodup_nil
    exact ⟨_,.bd hn oa ba h7 hz (.db (i:=i) i1 (by simpa using i2) (by simpa using i3)),xx⟩
   ·exact ⟨_,.bd hn oa ba h7 hz (.mn nd h30),xx⟩
   ·exact ⟨_,.bd hn oa ba h7 hz (.dp nd h30 h),xx⟩
structure PMk (P:Program) (w:World) (K:PySem.W.Frag) (mg:Str->Option Value) (base:Heap) (C fP:Addr) (dP:FuncData):Prop where
 mP:mg "Part"=some (.ref C)
 kP:Mk K C fP
 oP:FnOk P w K mg base CX0 10 fP dP psP (spPI C)
 bP:Binds K dP psP []
section
variable {P:Program} {w:World} {K:PySem.W.Frag} {mg:Str->Option Value} {base:Heap} {C fP:Addr} {dP:FuncData} {c:Cs}
def spMP (C:Addr) (c:Cs):Sp:=fun vs H Q E=>∃ (l lb:Addr) (n:Str) (o:List (Str × Nat)) (f:Fo) (its:List V),vs=[.ref l,.ref lb]/\H l=some (.lst ((partN n o).map V.str))/\H lb=some (.lst its)/\FAt C H f its/\Ak n=true/\OkO o/\f.ht < 7/\f.size<=1000/\its.length<=100/\
 (Bt ⟨n,o,f⟩=none->∀ (a:Addr) (H':Hp),Same H H'->PAt C H' a ⟨n,o,f⟩->Q (.ref a) H')/\∀ u,Bt ⟨n,o,f⟩=some u->XU c H E u
abbrev Dq:Stmt:=top 58
theorem scmade_part:Ao ["words","beneath"] ["words","beneath"] (Af Dq):=by trivial
theorem ok_mp (M:PMk P w K mg base C fP dP) (oPX:FnOk P w K mg base (CXR P w) 12 fP dP psP (spPIX C c)) (F_key_of:FnAt P w K mg base "key_of" 3 ["text"] spKeO) (F:Al K mg "made_part" Dq ["words","beneath"]):D9 P w K mg base "made_part" 14 ["words","beneath"] (spMP C c):=by
 refine F.atX scmade_part (fun vs H Q E h=>?_) (fun f cdv A outer s H vs Q E hr h=>?_)
 ·obtain ⟨l,lb,n,o,fo,its,rfl,_⟩:=h
  rfl
 ·obtain ⟨l,lb,n,o,fo,its,rfl,hl,hlb,hF,hn,ho,h7,hz,h100,q,xx⟩:=h
  have ps:∀ {N qual scope f cdv A outer s₀ H₀},D8 (CXR P w) (cxOf (CXR P w) P w K mg base N qual scope f cdv A outer s₀ H₀ E) E:=Dr fun _ _ h=>h
  have hs:sizeLine=16777216:=sizeLine_eq
  have o2:o.length<=2:=ho.l2
  cases hw:Bt ⟨n,o,fo⟩ with
  | none=>
    obtain ⟨go,e2⟩:GoodO o/\Bt ⟨n,o,fo⟩=Ea ⟨n,o,fo⟩:=by
     rcases C7 (d:=⟨n,o,fo⟩) ho with ⟨a,_,e2⟩ | h
     ·rw [hw] at e2; cases e2
     ·exact h
    obtain ⟨l6,bd⟩:=wrongB_none (e2.symm.trans hw)
    have i6:its.length<=6:=by rw [hF.items.1]; exact l6
    refine ⟨_,(Ad (Ap (pe_make M.kP M.oP (hr.mono (by omega)) rfl M.mP M.bP .nil pass0 (Aa (A0 An (pv 0) Ae (fun _ _=>rfl)) (Aa (Bz (sc:=Af Dq) (N0:=["words","beneath"]) (xs:=["text"]) (ys:=[]) (js:=[]) (by trivial) rfl (Bn (Ba Cc (pv 0) (Bk Ae) Bp)) (fun _ _ _ _=>(Aw (i:=0) (show (["text"]:List Str).Nodup by decide +kernel) rfl (by trivial))) (fun _ _ _ _=>B9) (fun _ _ _ _=>(Ay F_key_of hr (by decide) rfl (Aa (pv 0) Ab)))) (Aa (pv 1) Ab)))))),?_⟩
    refine ⟨_,rfl,l,_,_,V.str n,rfl,rfl,SqL.of hl,(Az (j:=0) rfl),_,rfl,_,rfl,l,_,rfl,SqL.of hl,fun c hc=>?_⟩
    have e0:cutV ((partN n o).map V.str) (some 1) none=(o.map keyT).map V.str:=cut1 _ _
    rw [e0]
    generalize hQ9:upd H c (.lst ((o.map keyT).map V.str))=H2
    have s2:=Nw hQ9 hc
    have e2:=Ns hQ9
    refine ⟨c,rfl,⟨_,SqL.of e2⟩,Br (K:=K) (a:=c) (xs:=(o.map keyT).map V.str) (fun i ys H'=>∃ qs:List Addr,ys=qs.map V.ref/\A2 (KeyR H') qs (o.take i)/\Same H2 H') ⟨[],rfl,A2.nil,Same.refl _⟩ (by rw [List.length_map,List.length_map]; omega) ?_ ?_ ?_ ?_⟩
    ·rintro i ys H' ⟨qs,rfl,hq,_⟩
     rw [List.length_map,hq.1,List.length_take]
     omega
    ·rintro i ys H' _ ⟨_,_,_,s'⟩
     exact SqL.of (s' _ _ e2)
    ·rintro i x ys H' hx ⟨qs,rfl,hq,s'⟩
     rw [List.getElem?_map,List.getElem?_map] at hx
     obtain ⟨z,hz,rfl⟩:=Option.map_eq_some_iff.mp hx
     obtain ⟨k,hk,rfl⟩:=Option.map_eq_some_iff.mp hz
     have kok:=ho.ok k (List.mem_of_getElem? hk)
     refine ⟨_,rfl,k.1,k.2,rfl,kok.1,kok.2,fun p H3 s3 e3=>⟨qs ++ [p],by rw [List.map_append]; rfl,?_,s'.trans s3⟩⟩
     rw [A6 hk]
     exact (hq.imp fun _ _ e=>s3 _ _ e).app (A2.one e3)
    ·rintro ys H' ⟨qs,rfl,hq,s'⟩ lo hlo
     rw [List.length_map,List.length_map,List.take_length] at hq
     generalize hQ9:upd H' lo (.lst (qs.map V.ref))=H3
     have s3:=Nw hQ9 hlo
     have e3:=Ns hQ9
     have S3:=(s2.trans s').trans s3
     refine ⟨_,rfl,fun x dx fx fd fne=>?_⟩
     refine ⟨x,dx,.ref lo,.ref lb,n,o,fo,its,H3,rfl,Ag,fx,fun b o e=>by rw [Aj (Ah e fx),Aj (Ah e fd)]; exact e,hn,.inr (.inl ⟨lo,qs,rfl,e3,hq.imp fun _ _ e=>s3 _ _ e,go⟩),.inr ⟨lb,rfl,S3 _ _ hlb,hF.t (.of S3),i6⟩,bd,fun H4 s4 hP=>⟨rfl,?_⟩⟩
     exact q hw x H4 (S3.trans s4) hP
  | some u=>
    have xx:=xx u hw
    refine ⟨_,(Ad (Ap (pe_make (E:=E) M.kP oPX (hr.mono (by omega)) rfl M.mP M.bP .nil ps (Aa (A0 An (pv 0) Ae (fun _ _=>rfl)) (Aa (Bz (sc:=Af Dq) (N0:=["words","beneath"]) (xs:=["text"]) (ys:=[]) (js:=[]) (by trivial) rfl (Bn (Ba Cc (pv 0) (Bk Ae) Bp)) (fun _ _ _ _=>(Aw (i:=0) (show (["text"]:List Str).Nodup by decide +kernel) rfl (by trivial))) (fun _ _ _ _=>B9) (fun _ _ _ _=>(Ay F_key_of hr (by decide) rfl (Aa (pv 0) Ab)))) (Aa (pv 1) Ab)))))),?_⟩
    refine ⟨_,rfl,l,_,_,V.str n,rfl,rfl,SqL.of hl,(Az (j:=0) rfl),_,rfl,_,rfl,l,_,rfl,SqL.of hl,fun c hc=>?_⟩
    have e0:cutV ((partN n o).map V.str) (some 1) none=(o.map keyT).map V.str:=cut1 _ _
    rw [e0]
    generalize hQ9:upd H c (.lst ((o.map keyT).map V.str))=H2
    have s2:=Nw hQ9 hc
    have e2:=Ns hQ9
    refine ⟨c,rfl,⟨_,SqL.of e2⟩,Br (K:=K) (a:=c) (xs:=(o.map keyT).map V.str) (fun i ys H'=>∃ qs:List Addr,ys=qs.map V.ref/\A2 (KeyR H') qs (o.take i)/\Same H2 H') ⟨[],rfl,A2.nil,Same.refl _⟩ (by rw [List.length_map,List.length_map]; omega) ?_ ?_ ?_ ?_⟩
    ·rintro i ys H' ⟨qs,rfl,hq,_⟩
     rw [List.length_map,hq.1,List.length_take]
     omega
    ·rintro i ys H' _ ⟨_,_,_,s'⟩
     exact SqL.of (s' _ _ e2)
    ·rintro i x ys H' hx ⟨qs,rfl,hq,s'⟩
     rw [List.getElem?_map,List.getElem?_map] at hx
     obtain ⟨z,hz,rfl⟩:=Option.map_eq_some_iff.mp hx
     obtain ⟨k,hk,rfl⟩:=Option.map_eq_some_iff.mp hz
     have kok:=ho.ok k (List.mem_of_getElem? hk)
     refine ⟨_,rfl,k.1,k.2,rfl,kok.1,kok.2,fun p H3 s3 e3=>⟨qs ++ [p],by rw [List.map_append]; rfl,?_,s'.trans s3⟩⟩
     rw [A6 hk]
     exact (hq.imp fun _ _ e=>s3 _ _ e).app (A2.one e3)
    ·rintro ys H' ⟨qs,rfl,hq,s'⟩ lo hlo
     rw [List.length_map,List.length_map,List.take_length] at hq
     generalize hQ9:upd H' lo (.lst (qs.map V.ref))=H3
     have s3:=Nw hQ9 hlo
     have e3:=Ns hQ9
     have S3:=(s2.trans s').trans s3
     refine ⟨_,rfl,fun x dx fx fd fne=>?_⟩
     obtain ⟨u',hb,xd⟩:=ibad (E:=E) hn ho e3 (hq.imp fun _ _ e=>s3 _ _ e) (S3 _ _ hlb) (hF.t (.of S3)) h7 hz h100 hw (xx.same S3)
     exact ⟨x,dx,.str n,.ref lo,.ref lb,u',H3,rfl,Ag,fx,fun b o e=>by rw [Aj (Ah e fx),Aj (Ah e fd)]; exact e,hb,xd⟩
end
end K34
namespace L2
open PySem PySem.Spec PyProof.Rows
def tDPopB (td ty tx:TE):TE:=fun σ H Q=>td σ H fun x H1=>∃ a,x=.ref a/\IsD H1 a/\ty σ H1 fun y H2=>tx σ H2 fun z H3=>∃ kvs k,H3 a=some (.dK kvs)/\y=kV k/\
 ∀ v H4,(valV kvs k=some v/\H4=upd H3 a (.dK (dropK kvs k)))\/(valV kvs k=none/\v=z/\H4=H3)->Q v H4
theorem pe_dpopB {X:Cx} {o e f:Expr} {apos cpos:Pos} {td ty tx:TE} (ho:PE X o td) (he:PE X e ty) (hf:PE X f tx) (m:M2 X o "pop" apos e f cpos):PE X (.Call (.Attribute o "pop" apos) [e,f] [] cpos) (tDPopB td ty tx):=by
 intro pins s σ H Q I h
 refine wpAny_Call_method m.base m.few m.line PySem.F.plainAttrs_dict PySem.F.slot_dict_pop PySem.F.type_dict_pop (thn (ho pins s σ H _ I h) fun u s1 ⟨x,H1,I1,rx,a,ex,d,q1⟩=>?_)
 subst ex
 obtain rfl:u=Value.ref a:=rx
 obtain ⟨t1,t2,_⟩:=isD_at I1 d
 refine ⟨t1,t2,?_⟩
 rw [m.trees]
 refine Calls.callWith_builtin rfl (Calls.evalArgs_plain (Calls.spliced_cons (thn (he pins s1 σ H1 _ I1 q1) fun iv s2 ⟨y,H2,I2,ry,q2⟩=>
  Calls.spliced_cons (thn (hf pins s2 σ H2 _ I2 q2) fun fv s3 ⟨z,H3,I3,rz,kvs,k,ea,ey,q3⟩=>Calls.spliced_nil ?_))))
 subst ey
 cases l:valV kvs k with
 | some v=>exact d_pop I3 ea ry l (.inr ⟨fv,rfl⟩) fun w' s4 I4 rw'=>⟨v,_,I4,rw',q3 v _ (.inl ⟨l,rfl⟩)⟩
 | none=>exact d_popD I3 ea ry l fun s4 I4=>⟨z,H3,I4,rz,q3 z _ (.inr ⟨l,rfl,rfl⟩)⟩
end L2
namespace K34
open PySem L2 PyProof.Rows PySem.SeqAt
def Kp (wd:Addr) (H H':Hp):Prop:=∀ a o,H a=some o->a≠wd->H' a=some o
theorem Kp.of {wd:Addr} {H H':Hp} (s:Same H H'):Kp wd H H':=fun a o e _=>s a o e
theorem Kp.trans {wd:Addr} {H H1 H2:Hp} (a:Kp wd H H1) (b:Kp wd H1 H2):Kp wd H H2:=fun x o e n=>b x o (a x o e n) n
theorem Kp.upd {wd:Addr} {H:Hp} {o:HO}:Kp wd H (L2.upd H wd o):=fun a ob e n=>by rw [Aj n]; exact e
theorem Kp.tp {wd:Addr} {H H':Hp} {kvs:List (Key × V)} (k:Kp wd H H') (h:H wd=some (.dK kvs)):TpIn H H':=fun a o e z=>k a o e (by
 rintro rfl
 rw [h] at e
 cases e
 rcases z with ⟨_,z⟩ | ⟨_,_,_,z⟩ <;> cases z)
theorem Kp.lst {wd a:Addr} {H H':Hp} {kvs:List (Key × V)} {xs:List V} (k:Kp wd H H') (h:H wd=some (.dK kvs)) (e:H a=some (.lst xs)):H' a=some (.lst xs):=k a _ e (by
 rintro rfl
 rw [h] at e
 cases e)
def WAt (C:Addr) (H:Hp) (i:Nat) (kvs:List (Key × V)) (W:Nat->Fo):Prop:=∀ t:Nat,(valV kvs (Sum.inl (t:Int))=none/\W t=.nil)\/∃ l its,valV kvs (Sum.inl (t:Int))=some (.ref l)/\H l=some (.lst its)/\FAt C H (W t) its/\its.length<=i
theorem Ch.bound:∀ {m i:Nat} {es:List En} {e:En},Ch m es->es[i]?=some e->e.s<=m + i
 | m,i,[],e,_,h=>by simp at h
 | m,0,x :: es,e,c,h=>by
   simp only [List.getElem?_cons_zero,Option.some.injEq] at h
   subst h
   exact c.2.1
 | m,i + 1,x :: es,e,c,h=>by
   rw [List.getElem?_cons_succ] at h
   have:=Ch.bound c.2.2 h
   have:=c.2.1
   omega
def EnAt (H:Hp) (p:Addr) (e:En):Prop:=H p=some (.lst (e.w.map V.str))
def RowsAt (H:Hp) (l:Addr) (n:Str) (o:List (Str × Nat)) (es:List En):Prop:=∃ (p0:Addr) (ps:List Addr),H l=some (.lst (.ref p0 :: ps.map V.ref))/\H p0=some (.lst ((partN n o).map V.str))/\A2 (EnAt H) ps es
section
variable {P:Program} {w:World} {K:PySem.W.Frag} {mg:Str->Option Value} {base:Heap} {C:Addr} {c:Cs}
def spMW (C:Addr) (c:Cs):Sp:=fun vs H Q E=>∃ (l:Addr) (n:Str) (o:List (Str × Nat)) (es:List En),vs=[.ref l]/\RowsAt H l n o es/\Ak n=true/\OkO o/\Ch 1 es/\es.length<=99/\
 (A8 n o es (es.length + 1)=none->∀ (a:Addr) (H':Hp),Same H H'->PAt C H' a (Bs n o es 0)->Q (.ref a) H')/\∀ u,A8 n o es (es.length + 1)=some u->XU c H E u
abbrev smade_work:Stmt:=top 59
theorem Dv:Ao ["rows","waiting","words","strokes","part"] ["rows"] (Af smade_work):=by trivial
theorem ok_mw (T:Txt mg) (N:Tx2 mg) (F_made_part:D9 P w K mg base "made_part" 14 ["words","beneath"] (spMP C c)) (F:Al K mg "made_work" smade_work ["rows"]):D9 P w K mg base "made_work" 15 ["rows"] (spMW C c):=by
 refine F.atX Dv (fun vs H Q E h=>?_) (fun f cdv A outer s H vs Q E hr h=>?_)
 ·obtain ⟨l,n,o,es,rfl,_⟩:=h
  rfl
 ·obtain ⟨l,n,o,es,rfl,⟨p0,ps,hl,hp0,hps⟩,hn,ho,hc,few,q,xx⟩:=h
  have ps_:∀ {N qual scope f cdv A outer s₀ H₀},D8 (CXR P w) (cxOf (CXR P w) P w K mg base N qual scope f cdv A outer s₀ H₀ E) E:=Dr fun _ _ h=>h
  refine ⟨_,(Ac (As (i:=1) Dv.nd rfl (by trivial) pe_dnewK)
   (Ac (C6 PassesOwn.leaving rfl (pi_rev rfl N.n_reversed (Aa (Ba Cc (pv 0) (Bk Ae) Bp) Ab)) (Aw (i:=2) Dv.nd rfl (by trivial)) (Ac (As (i:=3) Dv.nd rfl (by trivial) (Ai Aq rfl T.n_len boot_len (Aa (A0 An (pv 2) Ae (fun _ _=>rfl)) Ab)))
   (Ac (As (i:=4) Dv.nd rfl (by trivial) (pe_fnX (E:=E) F_made_part ps_ hr (by decide) rfl (Aa (Ba Cc (pv 2) (Bk Ae) Bp) (Aa (pe_dpopB (pv 1) (A3 B4 (pv 3) Ae) (Bf Ab) ⟨rfl,rfl,rfl,rfl⟩) Ab))))
   (Ad (ps_dput (hu1 hr) (pv 1) (pv 3) (A3 Ev (Bf (Aa (Bj (Aa (A0 An (pv 2) Ae (fun _ _=>rfl)) (Aa (pv 4) Ab))) Ab)) (pe_dget2 (hu1 hr) (pv 1) (pv 3) (Bf Ab) ⟨rfl,rfl,rfl,rfl⟩)) rfl)))))
   (Ad (Ap (pe_fnX (E:=E) F_made_part ps_ hr (by decide) rfl (Aa (A0 An (pv 0) Ae (fun _ _=>rfl)) (Aa (pe_dget2 (hu1 hr) (pv 1) Ae (Bf Ab) ⟨rfl,rfl,rfl,rfl⟩) Ab))))))),?_⟩
  have hs:sizeLine=16777216:=sizeLine_eq
  have pl:ps.length<=99:=by rw [hps.1]; exact few
  intro wd hwd
  generalize hQ9:upd H wd (.dK [])=H0
  have s0:=Nw hQ9 hwd
  have e0:=Ns hQ9
  refine ⟨_,rfl,_,rfl,l,_,rfl,SqL.of (s0 _ _ hl),fun cc hcc=>?_⟩
  have ec:cutV (V.ref p0 :: ps.map V.ref) (some 1) none=ps.map V.ref:=cut1 _ _
  rw [ec]
  generalize hQ9:upd H0 cc (.lst (ps.map V.ref))=H1
  have s1:=Nw hQ9 hcc
  have e1:=Ns hQ9
  have S1:=s0.trans s1
  have w1:=s1 _ _ e0
  have up:∀ {H':Hp},Kp wd H1 H'->Same H H':=fun k a o e=>k a o (S1 a o e) (Ah e hwd)
  have ml:(ps.map V.ref).length=es.length:=by rw [List.length_map,hps.1]
  refine ⟨cc,_,rfl,SqL.of e1,for_rev (K:=K) (a:=cc) (xs:=ps.map V.ref) (fun i σ H'=>∃ (v2 v3 v4:Option V) (kvs:List (Key × V)),σ=[some (.ref l),some (.ref wd),v2,v3,v4]/\Kp wd H1 H'/\H' wd=some (.dK kvs)/\kvs.length<=i/\WAt C H' i kvs (wait W0 (es.drop (es.length - i)))/\(∀ t x,x ∈ (wait W0 (es.drop (es.length - i)) t).items->Bd x.2)/\A8 n o es (es.length + 1)=A8 n o es (es.length + 1 - i)) ⟨_,_,_,[],rfl,fun _ _ e _=>e,w1,Nat.le_refl _,fun t=>.inl ⟨rfl,by rw [Nat.sub_zero,List.drop_length]; rfl⟩,(fun t x hx=>by rw [Nat.sub_zero,List.drop_length] at hx; cases hx),rfl⟩ (fun i σ H' _ ⟨_,_,_,_,_,k,_⟩=>SqL.of (k.lst w1 e1)) ?_ ?_⟩
  ·rintro i x σ H' hi hx ⟨v2,v3,v4,kvs,rfl,kp,hw,kl,wa,wb,hf⟩
   rw [ml] at hi hx
   rw [List.getElem?_map] at hx
   obtain ⟨p,hp,rfl⟩:=Option.map_eq_some_iff.mp hx
   obtain ⟨e,he,hpe⟩:=hps.at hp
   obtain ⟨cd,ok⟩:=hc.drop he
   have e100:=hc.bound he
   have ns:(wait W0 (es.drop (es.length - 1 - i + 1)) (e.s + 1)).size<=_:=wait_size cd
   have hdr:es.drop (es.length - 1 - i)=e :: es.drop (es.length - i):=by
    obtain ⟨hj,ej⟩:=List.getElem?_eq_some_iff.mp he
    rw [List.drop_eq_getElem_cons hj,ej,show es.length - 1 - i + 1=es.length - i by omega]
   have e2i:es.length - 1 - i + 1=es.length - i:=by omega
   rw [e2i,List.length_drop] at ns
   have i29:i < 99:=by omega
   have hst:A8 n o es (es.length + 1 - i)=match Bt ⟨e.n,e.o,wait W0 (es.drop (es.length - i)) (e.s + 1)⟩ with
    | some u=>some u
    | none=>A8 n o es (es.length - i):=by
    rw [show es.length + 1 - i=(es.length - i) + 1 by omega,A8]
    have en:Bs n o es (es.length - i)=⟨e.n,e.o,wait W0 (es.drop (es.length - i)) (e.s + 1)⟩:=by
     rw [show es.length - i=es.length - 1 - i + 1 by omega,Bs,he]
     show (⟨e.n,e.o,wait W0 (es.drop (es.length - 1 - i + 1)) (e.s + 1)⟩:Nd)=_
     rfl
    rw [en]
    all_goals (cases Bt ⟨e.n,e.o,wait W0 (es.drop (es.length - i)) (e.s + 1)⟩ <;> rfl)
   have sl:=Ds e.s
   have hpe':H' p=some (.lst (e.w.map V.str)):=kp.lst w1 (S1 _ _ hpe)
   generalize hW:wait W0 (es.drop (es.length - i))=W at wa wb ns hst
   have h6:=fo_ht6 (wb (e.s + 1))
   refine ⟨_,rfl,p,_,_,V.str (A9 e.s),rfl,rfl,SqL.of hpe',(Az (j:=0) rfl),_,_,rfl,⟨by omega,rfl⟩,?_⟩
   rw [sl]
   refine ⟨_,rfl,_,rfl,p,_,rfl,SqL.of hpe',fun c2 hc2=>?_⟩
   have ec2:cutV (e.w.map V.str) (some 2) none=(partN e.n e.o).map V.str:=cut2 _ _ _
   rw [ec2]
   generalize hQ9:upd H' c2 (.lst ((partN e.n e.o).map V.str))=H2
   have s2:=Nw hQ9 hc2
   have e2:=Ns hQ9
   have w2:=s2 _ _ hw
   refine ⟨_,rfl,wd,rfl,.inl ⟨_,.inl w2⟩,_,rfl,_,_,rfl,rfl,(by exact Z0),fun l0 hl0=>?_⟩
   generalize hQ9:upd H2 l0 (.lst [])=H3
   have s3:=Nw hQ9 hl0
   have e3:=Ns hQ9
   have w3:=s3 _ _ w2
   have S3:=s2.trans s3
   refine ⟨kvs,Sum.inl ((e.s:Int) + 1),w3,rfl,fun v H4 hv=>?_⟩
   have et:((e.s + 1:Nat):Int)=(e.s:Int) + 1:=by omega
   obtain ⟨lb,its,kvs',rfl,k34,w4,b4,f4,kl4,hn4,hv4⟩:∃ (lb:Addr) (its:List V) (kvs':List (Key × V)),v=.ref lb/\Kp wd H3 H4/\H4 wd=some (.dK kvs')/\H4 lb=some (.lst its)/\FAt C H4 (W (e.s + 1)) its/\kvs'.length<=kvs.length/\valV kvs' (Sum.inl ((e.s:Int) + 1))=none/\∀ t:Nat,t≠e.s + 1->valV kvs' (Sum.inl (t:Int))=valV kvs (Sum.inl (t:Int)):=by
    have wt:=wa (e.s + 1)
    rw [et] at wt
    rcases hv with ⟨hv,rfl⟩ | ⟨hv,rfl,rfl⟩
    ·rcases wt with ⟨z,_⟩ | ⟨lb,its,z,hb,hf,_⟩
     ·rw [hv] at z; cases z
     ·rw [hv] at z
      cases z
      have kk:Kp wd H3 (upd H3 wd (.dK (dropK kvs (Sum.inl ((e.s:Int) + 1))))):=Kp.upd
      refine ⟨lb,its,_,rfl,kk,Ag,kk.lst w3 (S3 _ _ hb),(hf.t (.of S3)).t (kk.tp w3),dropK_le _ _,by rw [valV_drop,if_pos rfl],fun t ht=>?_⟩
      rw [valV_drop,if_neg]
      intro z
      have:=Sum.inl.inj z
      omega
    ·rcases wt with ⟨_,z⟩ | ⟨lb,its,z,_⟩
     ·exact ⟨l0,[],kvs,rfl,Kp.of (Same.refl _),w3,e3,by rw [z]; rfl,Nat.le_refl _,hv,fun _ _=>rfl⟩
     ·rw [hv] at z; cases z
   refine ⟨c2,lb,e.n,e.o,W (e.s + 1),its,rfl,k34.lst w3 (s3 _ _ e2),b4,f4,ok.n,ok.o,by omega,by omega,(by have z1:=f4.items.1; have z2:=items_le (W (e.s + 1)); omega),fun hwn a H5 s5 hPa=>?_,fun u hu=>?_⟩
   case refine_2=>
    rw [hu] at hst
    exact (xx u (hf.trans hst)).same (up ((kp.trans (Kp.of S3)).trans k34))
   have w5:=s5 _ _ w4
   have k5:Kp wd H' H5:=((Kp.of S3).trans k34).trans (Kp.of s5)
   have p5:H5 p=some (.lst (e.w.map V.str)):=k5.lst hw hpe'
   refine ⟨_,rfl,p,_,_,V.str (nm e.j),rfl,rfl,SqL.of p5,(Az (j:=1) rfl),_,rfl,(by exact Z2),fun t ht=>?_⟩
   generalize hQ9:upd H5 t (.tup [.str (nm e.j),.ref a])=H6
   have s6:=Nw hQ9 ht
   have e6:=Ns hQ9
   refine ⟨(by exact Z1),fun l1 hl1=>?_⟩
   generalize hQ9:upd H6 l1 (.lst [.ref t])=H7
   have s7:=Nw hQ9 hl1
   have e7:=Ns hQ9
   have w7:=s7 _ _ (s6 _ _ w5)
   refine ⟨_,rfl,wd,rfl,.inl ⟨_,.inl w7⟩,_,rfl,(by exact Z0),fun l2 hl2=>?_⟩
   generalize hQ9:upd H7 l2 (.lst [])=H8
   have s8:=Nw hQ9 hl2
   have e8:=Ns hQ9
   have w8:=s8 _ _ w7
   have S58:=(s6.trans s7).trans s8
   have k8:Kp wd H' H8:=k5.trans (Kp.of S58)
   obtain ⟨lw,tl,hlw,elw,ftl,tll⟩:∃ lw tl,(valV kvs' (Sum.inl (e.s:Int))).getD (.ref l2)=.ref lw/\H8 lw=some (.lst tl)/\FAt C H8 (W e.s) tl/\tl.length<=i:=by
    rw [hv4 e.s (by omega)]
    rcases wa e.s with ⟨z1,z2⟩ | ⟨lw,tl,z1,z2,z3,z4⟩
    ·exact ⟨l2,[],by rw [z1]; rfl,e8,by rw [z2]; rfl,Nat.zero_le _⟩
    ·exact ⟨lw,tl,by rw [z1]; rfl,k8.lst hw z2,z3.t (k8.tp hw),z4⟩
   refine ⟨_,DGet.k (k:=Sum.inl (e.s:Int)) w8,?_⟩
   rw [hlw]
   refine ⟨l1,lw,_,_,rfl,rfl,s8 _ _ e7,elw,(by show 1 + _<=sizeLine; omega),fun l3 hl3=>?_⟩
   generalize hQ9:upd H8 l3 (.lst ([.ref t] ++ tl))=H9
   have s9:=Nw hQ9 hl3
   have e9:H9 l3=some (.lst (.ref t :: tl)):=Ns hQ9
   have w9:=s9 _ _ w8
   refine ⟨_,rfl,_,rfl,wd,_,rfl,DPut.k (k:=Sum.inl (e.s:Int)) w9 (by omega),?_⟩
   have k9:Kp wd H9 (upd H9 wd (.dK (putK kvs' (Sum.inl (e.s:Int)) (.ref l3)))):=Kp.upd
   have wT:upd H9 wd (.dK (putK kvs' (Sum.inl (e.s:Int)) (.ref l3))) wd=some (.dK (putK kvs' (Sum.inl (e.s:Int)) (.ref l3))):=Ag
   generalize upd H9 wd (.dK (putK kvs' (Sum.inl (e.s:Int)) (.ref l3)))=H10 at k9 wT ⊢
   have kA:Kp wd H' H10:=(k8.trans (Kp.of s9)).trans k9
   have S59:=S58.trans s9
   have pl2:=length_putK kvs' (Sum.inl (e.s:Int)) (.ref l3)
   have eW2:wait W0 (es.drop (es.length - (i + 1)))=stp e W:=by
    rw [show es.length - (i + 1)=es.length - 1 - i by omega,hdr,← hW]
    rfl
   refine ⟨_,_,_,_,rfl,kp.trans kA,wT,by omega,?_⟩
   rw [eW2]
   refine ⟨fun u=>?_,fun t x hx=>?_,?_⟩
   rotate_left
   ·unfold stp at hx
    split at hx
    ·rcases List.mem_cons.mp hx with rfl | hx
     ·rcases C7 (d:=⟨e.n,e.o,W (e.s + 1)⟩) ok.o with ⟨_,_,z⟩ | ⟨_,z⟩
      ·rw [hwn] at z; cases z
      ·exact (wrongB_none (z.symm.trans hwn)).2
     ·exact wb _ x hx
    ·split at hx
     ·cases hx
     ·exact wb _ x hx
   ·rw [hwn] at hst
    rw [show es.length + 1 - (i + 1)=es.length - i by omega]
    exact hf.trans hst
   rw [valV_put]
   by_cases eu:u=e.s
   ·refine .inr ⟨l3,.ref t :: tl,by rw [eu,if_pos rfl],k9.lst w9 e9,?_,by rw [List.length_cons]; omega⟩
    show FAt C H10 (stp e W u) (.ref t :: tl)
    unfold stp
    rw [if_pos eu]
    refine FAt.of ?_
    show A2 (JPAt C H10) (.ref t :: tl) ((e.j,⟨e.n,e.o,W (e.s + 1)⟩) :: (W e.s).items)
    exact A2.cons ⟨t,a,rfl,(k9.tp w9).tup (s9 _ _ (s8 _ _ (s7 _ _ e6))),ok.j,(hPa.same S59).t (k9.tp w9)⟩ (((ftl.t (.of s9)).t (k9.tp w9)).items)
   ·rw [if_neg (fun z=>eu (by have:=Sum.inl.inj z; omega))]
    unfold stp
    rw [if_neg eu]
    by_cases e1u:u=e.s + 1
    ·refine .inl ⟨?_,by rw [if_pos e1u]⟩
     rw [e1u,et]
     exact hn4
    ·rw [hv4 u e1u,if_neg e1u]
     rcases wa u with h | ⟨lw',its',z1,z2,z3,z4⟩
     ·exact .inl h
     ·exact .inr ⟨lw',its',z1,kA.lst hw z2,z3.t (kA.tp hw),by omega⟩
  ·rintro σ H' ⟨v2,v3,v4,kvs,rfl,kp,hw,kl,wa,wb,hf⟩
   rw [ml,Nat.sub_self,List.drop_zero] at wa wb
   rw [ml,show es.length + 1 - es.length=1 by omega] at hf
   have SH:=up kp
   refine ⟨_,rfl,l,_,_,V.ref p0,rfl,rfl,SqL.of (SH _ _ hl),(Az (j:=0) rfl),_,rfl,wd,rfl,.inl ⟨_,.inl hw⟩,(by exact Z0),fun l2 hl2=>?_⟩
   generalize hQ9:upd H' l2 (.lst [])=H8
   have s8:=Nw hQ9 hl2
   have e8:=Ns hQ9
   obtain ⟨lw,tl,hlw,elw,ftl⟩:∃ lw tl,(valV kvs (Sum.inl (1:Int))).getD (.ref l2)=.ref lw/\H8 lw=some (.lst tl)/\FAt C H8 (wait W0 es 1) tl:=by
    have w1:=wa 1
    rcases w1 with ⟨z1,z2⟩ | ⟨lw,tl,z1,z2,z3,z4⟩
    ·exact ⟨l2,[],by rw [show valV kvs (Sum.inl (1:Int))=none from z1]; rfl,e8,by rw [z2]; rfl⟩
    ·exact ⟨lw,tl,by rw [show valV kvs (Sum.inl (1:Int))=some (.ref lw) from z1]; rfl,s8 _ _ z2,z3.t (.of s8)⟩
   refine ⟨_,DGet.k (k:=Sum.inl (1:Int)) (s8 _ _ hw),?_⟩
   rw [hlw]
   have hst:A8 n o es 1=match Bt ⟨n,o,wait W0 es 1⟩ with
    | some u=>some u
    | none=>none:=by
    rw [A8]
    show (match Bt ⟨n,o,wait W0 es 1⟩ with | some u=>some u | none=>A8 n o es 0)=_
    cases Bt ⟨n,o,wait W0 es 1⟩ <;> rfl
   have h6:=fo_ht6 (wb 1)
   have ns:(wait W0 es 1).size<=_:=wait_size (s:=0) hc
   exact ⟨p0,lw,n,o,wait W0 es 1,tl,rfl,(SH.trans s8) _ _ hp0,elw,ftl,hn,ho,by omega,by omega,(by have z1:=ftl.items.1; have z2:=items_le (wait W0 es 1); omega),fun hwn a H9 s9 hP=>q (by rw [hf,hst,hwn]) a H9 ((SH.trans s8).trans s9) hP,fun u hu=>(xx u (by rw [hf,hst,hu])).same (SH.trans s8)⟩
end
end K34
namespace L2
open PySem PySem.Spec PyProof.Rows
theorem pe_bmK {X:Cx} {o e:Expr} {es:List Expr} {to:TE} {t:TA} {name:Str} {apos cpos:Pos} {T id:String} {r:V->List V->Hp->VK->Prop} (K:PySem.W.Frag) (pa:PlainAttrs T) (slot:Slot T name id) (hty:typeOf (.builtin id)=pure (.type "method_descriptor")) (hm:MtR X id r) (ho:PE X o to) (ha:PA X (e :: es) t) (hK:X.K=K:=by rfl)
 (hbase:attributeBase o name X.env (eval o X.env)=eval o X.env:=by rfl)
 (hfew:((backTo cpos (starEach (e :: es) X.env)).all (fun x=>!x.1) && (backToKw cpos (keywordEach [] X.env)).all (fun x=>x.1.isSome)
   && decide ((e :: es).length + ([]:List Keyword).length + (if ([]:List Keyword).isEmpty then 0 else 1) < 30))=true:=by rfl)
 (hline:(apos.endLine == cpos.line)=true:=by rfl) (hs:starEach (e :: es) X.env=(false,eval e X.env) :: starEach es X.env:=by rfl) (hplain:(backTo cpos (starEach es X.env)).any (·.1)=false:=by rfl) :
 PE X (.Call (.Attribute o name apos) (e :: es) [] cpos) (tBM K T r to t):=by
 subst hK
 exact C5 pa slot hty hm ho ha hbase hfew hline hs hplain
end L2
namespace K34
open PySem L2 PyProof.Rows PySem.SeqAt
theorem split_le (z y:Str):(Txt.split z y).length<=z.length + 2:=by
 unfold Txt.split
 have e1:=StrLaws.occ_length_le z y 0 z.length (z.length + 1)
 split
 ·show 1<=_; omega
 ·split
  ·show 1<=_; omega
  ·rw [length_partsBetween]; omega
def Co (z:Str):List (List Str):=(Txt.split z "\n").map fun r=>Txt.split r " "
structure TxOk (z:Str):Prop where
 len:z.length<=200000
 few:(Txt.split z "\n").length<=100
 short:∀ r ∈ Txt.split z "\n",r.length<=1000
theorem readR_cons {w0:List Str} {r:List (List Str)}:readR (w0 :: r)=match Cu w0 with
 | none=>.no (.tx 0)
 | some p=>match Dy 1 r with
   | .inl i=>.no (.tx (i + 1))
   | .inr es=>match A8 p.1 p.2 es (es.length + 1) with
     | some u=>.no u
     | none=>.work (Bs p.1 p.2 es 0):=rfl
theorem Dz {rows:List (List Str)} {i:Nat} (h:formsR rows=some i):readR rows=.no (.tx i):=by
 cases rows with
 | nil=>cases h; rfl
 | cons w0 r=>
   rw [readR_cons]
   cases hw:Cu w0 with
   | none=>
     rw [formsR_0 hw] at h
     cases h
     rfl
   | some p=>
     cases hr:Dy 1 r with
     | inl j=>
       rw [formsR_l hw hr] at h
       cases h
       rfl
     | inr es=>
       rw [formsR_r hw hr] at h
       cases h
theorem readR_made {rows:List (List Str)} (h:formsR rows=none):∃ n o es,rows=partN n o :: es.map En.w/\Ak n=true/\OkO o/\Ch 1 es/\readR rows=match A8 n o es (es.length + 1) with
 | some u=>.no u
 | none=>.work (Bs n o es 0):=by
 cases rows with
 | nil=>cases h
 | cons w0 r=>
   cases hw:Cu w0 with
   | none=>
     rw [formsR_0 hw] at h
     cases h
   | some p=>
     obtain ⟨n,o⟩:=p
     cases hr:Dy 1 r with
     | inl j=>
       rw [formsR_l hw hr] at h
       cases h
     | inr es=>
       obtain ⟨rfl,h2,h3⟩:=partP_some hw
       obtain ⟨rfl,hc⟩:=rowsP_inr hr
       refine ⟨n,o,es,rfl,h2,h3,hc,?_⟩
       rw [readR_cons,hw]
       dsimp only
       rw [hr]
theorem A2.unmap {α β γ:Type} {R:α->β->Prop} {f:γ->β} {xs:List α} {ys:List γ} (h:A2 R xs (ys.map f)):A2 (fun x y=>R x (f y)) xs ys:=
 ⟨by rw [h.1,List.length_map],fun i x y e1 e2=>h.2 i x (f y) e1 (by rw [List.getElem?_map,e2]; rfl)⟩
section
variable {P:Program} {w:World} {K:PySem.W.Frag} {mg:Str->Option Value} {base:Heap} {C:Addr} {c:Cs}
def spRW (C:Addr) (c:Cs) (K:PySem.W.Frag):Sp:=fun vs H Q E=>∃ v:V,vs=[v]/\((∃ z,v=.str z/\TxOk z/\(∀ d,readR (Co z)=.work d->∀ (a:Addr) (H':Hp),Same H H'->PAt C H' a d->Q (.ref a) H')/\∀ u,readR (Co z)=.no u->XU c H E u)\/
 (∃ kd,KdOf K H v kd/\kd.isA .str=false/\XU c H E (.tx 0)))
abbrev Ep:Stmt:=top 60
theorem scread_work:Ao ["text","rows"] ["text"] (Af Ep):=by trivial
theorem ok_rw (T:Txt mg) (X:Has P w K mg base c) (F_need_forms:D9 P w K mg base "need_forms" 5 ["rows"] (spNF c)) (F_made_work:D9 P w K mg base "made_work" 15 ["rows"] (spMW C c)) (F:Al K mg "read_work" Ep ["text"]):D9 P w K mg base "read_work" 16 ["text"] (spRW C c K):=by
 refine F.atX scread_work (fun vs H Q E h=>?_) (fun f cdv A outer s H vs Q E hr h=>?_)
 ·obtain ⟨v,rfl,_⟩:=h
  rfl
 ·obtain ⟨v,rfl,h⟩:=h
  have ps_:∀ {N qual scope f cdv A outer s₀ H₀},D8 (CXR P w) (cxOf (CXR P w) P w K mg base N qual scope f cdv A outer s₀ H₀ E) E:=Dr fun _ _ h=>h
  refine ⟨_,(Ac (A5 (Bl (Bw (Ai (D7 .str (by simp)) rfl T.n_isinstance boot_isinstance (Aa (pv 0) (Aa (B3 (v:=.ty "str") rfl T.n_str boot_str rfl) Ab))))) (Ad (Ej Cr hr.hd (pe_x X.xt hr (by decide) rfl (Aa Ae Ab)))) Am)
   (Ac (ps_setComp (i:=1) (sc:=Af Ep) (N0:=["text","rows"]) (xs:=["row"]) (ys:=[]) (js:=[]) (by trivial) rfl scread_work.nd rfl rfl (Bn (C5 PySem.F.plainAttrs_str PySem.F.slot_str_split PySem.F.type_str_split mt_split (pv 0) (Aa Au Ab))) (fun _ _ _ _=>(Aw (i:=0) (show (["row"]:List Str).Nodup by decide +kernel) rfl (by trivial))) (fun _ _ _ _=>B9) (fun _ _ _ _=>(pe_bmK K PySem.F.plainAttrs_str PySem.F.slot_str_split PySem.F.type_str_split mt_split (pv 0) (Aa Au Ab))))
   (Ac (Bb (pe_fnX (E:=E) F_need_forms ps_ hr (by decide) rfl (Aa (pv 1) Ab)))
   (Ad (Ap (pe_fnX (E:=E) F_made_work ps_ hr (by decide) rfl (Aa (pv 1) Ab))))))),?_⟩
  have hs:sizeLine=16777216:=sizeLine_eq
  rcases h with ⟨z,rfl,ok,q,xx⟩ | ⟨kd,hk,hns,xx⟩
  ·have tl:=ok.len
   have wl:=ok.few
   have short:=ok.short
   refine ⟨_,rfl,_,.str,rfl,TyOf.str _,_,rfl,iteF ?_⟩
   refine ⟨_,rfl,rfl,z,"\n",rfl,rfl,(by decide +kernel),(by omega),fun p hp=>?_⟩
   have rO:Co z=(Txt.split z "\n").map fun r=>Txt.split r " ":=rfl
   have pos:=split_pos z "\n"
   generalize Txt.split z "\n"=L at wl short rO pos ⊢
   generalize hQ9:upd H p (.lst (L.map V.str))=H1
   have s1:=Nw hQ9 hp
   have e1:=Ns hQ9
   refine ⟨p,rfl,⟨_,SqL.of e1⟩,Br (K:=K) (a:=p) (xs:=L.map V.str) (fun i ys H'=>∃ qs:List Addr,ys=qs.map V.ref/\A2 (WsAt H') qs ((Co z).take i)/\Same H1 H') ⟨[],rfl,A2.nil,Same.refl _⟩ (by rw [List.length_map]; omega) ?_ ?_ ?_ ?_⟩
   ·rintro i ys H' ⟨qs,rfl,hq,_⟩
    rw [List.length_map,hq.1,List.length_take]
    omega
   ·rintro i ys H' _ ⟨_,_,_,s'⟩
    exact SqL.of (s' _ _ e1)
   ·rintro i x ys H' hx ⟨qs,rfl,hq,s'⟩
    rw [List.getElem?_map] at hx
    obtain ⟨y,hy,rfl⟩:=Option.map_eq_some_iff.mp hx
    have hm:=List.mem_of_getElem? hy
    have hw:(Co z)[i]?=some (Txt.split y " "):=by rw [rO,List.getElem?_map,hy]; rfl
    have yl:=short y hm
    refine ⟨_,rfl,rfl,y," ",rfl,rfl,(by decide +kernel),(by omega),fun p2 hp2=>?_⟩
    refine ⟨qs ++ [p2],by rw [List.map_append]; rfl,?_,s'.trans (Same.new hp2)⟩
    rw [A6 hw]
    exact (hq.imp fun _ _ e=>e.same (Same.new hp2)).app (A2.one ⟨Ag,by have:=split_le y " "; omega,fun a ha=>by have:=part_short ha; omega⟩)
   ·rintro ys H' ⟨qs,rfl,hq,s'⟩ l hl
    have len:(Co z).length=L.length:=by rw [rO,List.length_map]
    rw [List.length_map,← len,List.take_length] at hq
    generalize hQ9:upd H' l (.lst (qs.map V.ref))=H2
    have s2:=Nw hQ9 hl
    have e2:=Ns hQ9
    have S2:=(s1.trans s').trans s2
    have hR:RsAt H2 l (Co z):=⟨⟨qs,e2,hq.imp fun _ _ e=>e.same s2⟩,by omega,fun e=>by rw [e] at len; simp at len; omega⟩
    refine ⟨_,rfl,l,Co z,rfl,hR,fun hf H3 s3=>?_,fun i hi=>(xx (.tx i) (Dz hi)).same S2⟩
    obtain ⟨n,o,es,hrw,hn,ho,hc,hrd⟩:=readR_made hf
    obtain ⟨⟨qs',e3,hq'⟩,_,_⟩:=hR.same s3
    rw [hrw] at hq' len
    obtain ⟨p0,ps,rfl⟩:∃ p0 ps,qs'=p0 :: ps:=by
     cases qs' with
     | nil=>exact absurd hq'.1 (by simp)
     | cons p0 ps=>exact ⟨p0,ps,rfl⟩
    obtain ⟨h1,h2⟩:=A2.inv hq'
    have few:es.length<=99:=by rw [List.length_cons,List.length_map] at len; omega
    exact ⟨_,rfl,l,n,o,es,rfl,⟨p0,ps,e3,h1.at_,(A2.unmap h2).imp fun _ _ e=>e.at_⟩,hn,ho,hc,few,fun hb a H4 s4 hP=>q _ (by rw [hrd,hb]) a H4 ((S2.trans s3).trans s4) hP,fun u hu=>(xx u (by rw [hrd,hu])).same (S2.trans s3)⟩
  ·refine ⟨_,rfl,v,kd,rfl,hk,_,rfl,?_⟩
   rw [hns]
   refine iteT ?_
   exact ⟨_,rfl,fun a dx' z1 z2 z3=>⟨a,c.t,some dx',rfl,by rw [Aj (Ne.symm z3)]; exact Ag,X.xt.df.ok.mkk,XatF.go xx (Same.refl _) z1 z2 z3⟩⟩
end
end K34
namespace K34
open PySem L2 PyProof.Rows PySem.SeqAt
theorem dot_is:Str.ofString "."=⟨#[46]⟩:=by decide +kernel
theorem at_iff (z:Str) (i:Nat):StrLaws.At z ⟨#[46]⟩ z.length i ↔ z.cps.toList[i]?=some 46:=by
 unfold StrLaws.At
 rw [StrLaws.subAt_eq]
 have hl:(⟨#[46]⟩:Str).length=1:=rfl
 rw [hl]
 have hz:z.length=z.cps.toList.length:=by simp [Str.length]
 rw [hz]
 constructor
 ·rintro ⟨h1,h2⟩
  have h3:i < z.cps.toList.length:=by omega
  have h2:(z.cps.toList.drop i).take 1=[46]:=by simpa using h2
  rw [List.drop_eq_getElem_cons h3] at h2
  have:z.cps.toList[i]=46:=by simpa using h2
  rw [List.getElem?_eq_getElem h3,this]
 ·intro h
  obtain ⟨h3,h4⟩:=List.getElem?_eq_some_iff.mp h
  refine ⟨by omega,?_⟩
  rw [List.drop_eq_getElem_cons h3,h4]
  simp
theorem first_dot {z:Str} {a r:List Nat} (h:z.cps.toList=a ++ 46 :: r) (ha:46 ∉ a):findZ z (Str.ofString ".")=a.length:=by
 rw [dot_is]
 unfold findZ
 rcases StrLaws.occ_head z ⟨#[46]⟩ 1 (Nat.le_refl _) with ⟨_,hn⟩ | ⟨i,t,e,hi,hk⟩
 ·exact absurd ((at_iff z a.length).mpr (by rw [h]; simp)) (hn a.length)
 ·rw [e]
  show (i:Int)=a.length
  have hi:=(at_iff z i).mp hi
  have h1:¬ a.length < i:=fun lt=>hk a.length lt ((at_iff z a.length).mpr (by rw [h]; simp))
  have h2:¬ i < a.length:=fun lt=>by
   rw [h,List.getElem?_append_left lt] at hi
   exact ha (List.mem_of_getElem? hi)
  omega
theorem no_dot {z:Str} (h:46 ∉ z.cps.toList):findZ z (Str.ofString ".")=-1:=by
 rw [dot_is]
 unfold findZ
 rcases StrLaws.occ_head z ⟨#[46]⟩ 1 (Nat.le_refl _) with ⟨e,_⟩ | ⟨i,t,e,hi,hk⟩
 ·rw [e]
 ·exact absurd (List.mem_of_getElem? ((at_iff z i).mp hi)) h
theorem first_split:∀ {l:List Nat},46 ∈ l->∃ a b,l=a ++ 46 :: b/\46 ∉ a
 | [],h=>by cases h
 | x :: l,h=>by
   by_cases e:x=46
   ·exact ⟨[],l,by rw [e]; rfl,by simp⟩
   ·rcases List.mem_cons.mp h with h | h
    ·exact absurd h.symm e
    ·obtain ⟨a,b,h1,h2⟩:=first_split h
     refine ⟨x :: a,b,by rw [h1]; rfl,fun m=>?_⟩
     rcases List.mem_cons.mp m with m | m
     ·exact e m.symm
     ·exact h2 m
theorem keyT_list (k:Str × Nat):(keyT k).cps.toList=k.1.cps.toList ++ 46 :: (nT k.2).cps.toList:=by
 show (k.1 ++ (".":Str) ++ nT k.2).cps.toList=_
 rw [Ey,Ey,dot1]
 simp
theorem keyP_cut {z:Str} {a b:List Nat} (h:z.cps.toList=a ++ 46 :: b) {k:Str × Nat} (ha:46 ∉ a) (e:keyP z=some k):k.1=⟨a.toArray⟩/\nT k.2=⟨b.toArray⟩/\Ak k.1=true/\k.2 < 100:=by
 obtain ⟨e1,e2,e3⟩:=keyP_some e
 rw [e1,keyT_list] at h
 obtain ⟨h1,h2⟩:=cut_inj (word_no e2 (by decide)) ha h
 exact ⟨str_inj h1,str_inj h2,e2,e3⟩
theorem keyP_no {z:Str} (h:46 ∉ z.cps.toList):keyP z=none:=by
 cases e:keyP z with
 | none=>rfl
 | some k=>
   obtain ⟨e1,_⟩:=keyP_some e
   rw [e1,keyT_list] at h
   exact absurd (by simp) h
theorem keyP_put {z:Str} {a b:List Nat} {n:Nat} (h:z.cps.toList=a ++ 46 :: b) (ha:Ak ⟨a.toArray⟩=true) (hn:n < 100) (hb:nT n=⟨b.toArray⟩):keyP z=some (⟨a.toArray⟩,n):=by
 have:z=keyT (⟨a.toArray⟩,n):=str_inj (by rw [h,keyT_list,hb])
 rw [this]
 exact keyP_text ⟨ha,hn⟩
section
variable {P:Program} {w:World} {K:PySem.W.Frag} {mg:Str->Option Value} {base:Heap}
def lowV (z:Str) (i:Nat):List V:=((z.cps.toList.take i).filter C3).map fun c=>V.str ⟨#[c]⟩
theorem low_step (z:Str) {i:Nat} (hi:i < z.cps.size):lowV z (i + 1)=if C3 (z.cps.getD i 0)=true then lowV z i ++ [V.str ⟨#[z.cps.getD i 0]⟩] else lowV z i:=by
 have e:z.cps.getD i 0=z.cps.toList[i]'(by simpa using hi):=by
  rw [Array.getD_eq_getD_getElem?,Array.getElem?_eq_getElem hi]; simp
 unfold lowV
 rw [List.take_succ_eq_append_getElem (by simpa using hi),List.filter_append,List.map_append,e]
 cases h:C3 (z.cps.toList[i]'(by simpa using hi)) <;> simp [h] <;> simpa using h
theorem low_all (z:Str):((lowV z z.cps.size).length=z.length) ↔ z.cps.toList.all C3=true:=by
 unfold lowV
 rw [List.take_of_length_le (by simp),List.length_map,show z.length=z.cps.toList.length by simp [Str.length],List.length_filter_eq_length_iff,List.all_eq_true]
def spLW:Sp:=fun vs H Q _=>∃ z:Str,vs=[.str z]/\z.length<=1000/\∀ H',Same H H'->Q (.bl (Ak z)) H'
abbrev Cy:Stmt:=top 71
theorem sc_law_is_word:Ao ["_law_text","_law_small"] ["_law_text"] (Af Cy):=by trivial
theorem ok_lw (T:Txt mg) (F:Al K mg "_law_is_word" Cy ["_law_text"]):FnAt P w K mg base "_law_is_word" 1 ["_law_text"] spLW:=by
 refine F.at sc_law_is_word (fun vs H Q E h=>?_) (fun f cdv A outer s H vs Q E hr h=>?_)
 ·obtain ⟨z,rfl,_⟩:=h
  rfl
 ·obtain ⟨z,rfl,hz,q⟩:=h
  refine ⟨_,(Ac (ps_setComp (i:=1) (sc:=Af Cy) (N0:=["_law_text","_law_small"]) (xs:=["_law_sign"]) (ys:=[]) (js:=[]) (by trivial) rfl sc_law_is_word.nd rfl rfl (pi_str (pv 0)) (fun _ _ _ _=>(Aw (i:=0) (show (["_law_sign"]:List Str).Nodup by decide +kernel) rfl (by trivial))) (fun _ _ _ _=>pq_one (Av op_in_str (pv 0) Au (by with_unfolding_all rfl))) (fun _ _ _ _=>(pv 0)))
   (Ad (Ap (D1 (pe_chain op_le op_le Ae (Ai Aq rfl T.n_len boot_len (Aa (pv 0) Ab)) Ae) (pe_one (C1 El (Ai Aq rfl T.n_len boot_len (Aa (pv 1) Ab)) (Ai Aq rfl T.n_len boot_len (Aa (pv 0) Ab)) (A1 _))))))),?_⟩
  have hs:sizeLine=16777216:=sizeLine_eq
  have hzs:z.cps.size=z.length:=rfl
  refine ⟨_,rfl,z,rfl,comp_str (fun i ys H'=>H'=H/\ys=lowV z i) ⟨rfl,rfl⟩ (by show z.length<=sizeLine; omega) ?_ ?_ ?_⟩
  ·rintro i ys H' ⟨rfl,rfl⟩
   unfold lowV
   rw [List.length_map]
   exact Nat.le_trans (List.length_filter_le _ _) (by rw [List.length_take]; omega)
  ·rintro i ys H' hi ⟨rfl,rfl⟩
   have st:=low_step z hi
   refine ⟨_,rfl,_,_,rfl,rfl,_,rfl,?_⟩
   have e3:(!(Builtin.Str.occurrences (Str.ofString "abcdefghijklmnopqrstuvwxyz") (sgn z i) 0 (Str.ofString "abcdefghijklmnopqrstuvwxyz").length 1).isEmpty)=C3 (z.cps.getD i 0):=low_in _
   rw [e3]
   refine ite2 (fun h=>?_) (fun h=>?_)
   ·rw [if_pos h] at st
    exact ⟨_,rfl,rfl,st.symm⟩
   ·rw [if_neg h] at st
    exact ⟨rfl,st.symm⟩
  ·rintro ys H' ⟨rfl,rfl⟩ p hp
   generalize hQ9:upd H' p (.lst (lowV z z.cps.size))=H1
   have s1:=Nw hQ9 hp
   have e1:=Ns hQ9
   have q:=q H1 s1
   refine ⟨_,rfl,_,_,rfl,⟨by omega,rfl⟩,_,_,rfl,rfl,_,rfl,ite2 (fun h1=>?_) (fun h1=>?_)⟩
   ·have h1:(1:Int)<=(z.length:Int):=of_decide_eq_true h1
    refine ⟨_,_,rfl,rfl,_,rfl,ite2 (fun h2=>?_) (fun h2=>?_)⟩
    ·have h2:(z.length:Int)<=8:=of_decide_eq_true h2
     refine ⟨_,rfl,_,_,rfl,.inl ⟨_,SqL.of e1,rfl⟩,_,rfl,_,_,rfl,⟨by omega,rfl⟩,rfl,?_⟩
     have e:Ak z=decide (V.int ((lowV z z.cps.size).length:Nat)=V.int (z.length:Nat)):=by
          rw [Bool.eq_iff_iff]
          unfold Ak
          rw [Bool.and_eq_true,decide_eq_true_eq,decide_eq_true_eq,← low_all z]
          constructor
          ·intro h; rw [h.2]
          ·intro h
           have:=V.int.inj h
           exact ⟨by omega,by omega⟩
     rw [e] at q
     exact q
    ·have h2:¬ (z.length:Int)<=8:=fun y=>h2 (decide_eq_true y)
     have e:Ak z=false:=by
          unfold Ak
          rw [decide_eq_false (show ¬ (1<=z.length/\z.length<=8) by omega)]
          rfl
     rw [e] at q
     exact q
   ·have h1:¬ (1:Int)<=(z.length:Int):=fun y=>h1 (decide_eq_true y)
    have e:Ak z=false:=by
     unfold Ak
     rw [decide_eq_false (show ¬ (1<=z.length/\z.length<=8) by omega)]
     rfl
    rw [e] at q
    exact ⟨_,rfl,iteF q⟩
def spLK:Sp:=fun vs H Q _=>∃ z:Str,vs=[.str z]/\z.length<=1000/\(keyP z=none->∀ H',Same H H'->Q .non H')/\∀ k,keyP z=some k->∀ (p:Addr) (H':Hp),Same H H'->KeyR H' p k->Q (.ref p) H'
abbrev s_law_key:Stmt:=top 72
theorem sc_law_key:Ao ["_law_text","_law_cut","_law_figures"] ["_law_text"] (Af s_law_key):=by trivial
theorem ok_lk (T:Txt mg) (F__law_is_word:FnAt P w K mg base "_law_is_word" 1 ["_law_text"] spLW) (F:Al K mg "_law_key" s_law_key ["_law_text"]):FnAt P w K mg base "_law_key" 2 ["_law_text"] spLK:=by
 refine F.at sc_law_key (fun vs H Q E h=>?_) (fun f cdv A outer s H vs Q E hr h=>?_)
 ·obtain ⟨z,rfl,_⟩:=h
  rfl
 ·obtain ⟨z,rfl,hz,q0,q1⟩:=h
  refine ⟨_,(Ac (As (i:=1) sc_law_key.nd rfl (by trivial) (C5 PySem.F.plainAttrs_str PySem.F.slot_str_find PySem.F.type_str_find mt_find (pv 0) (Aa Au Ab)))
   (Ac (A5 (PW.pt (pw_or (Av op_lt (pv 1) Ae (A1 _)) (Ei (Bl (Bw (Ay F__law_is_word hr (by decide) rfl (Aa (Ba sl_str (pv 0) Bp (Bk (pv 1))) Ab))))))) (Ad (Ap pe_non)) Am)
   (Ac (As (i:=2) sc_law_key.nd rfl (by trivial) (Ba sl_str (pv 0) (Bk (A3 B4 (pv 1) Ae)) Bp))
   (Ac (A5 (Av op_notIn_seq (pv 2) (Bz (sc:=Af s_law_key) (N0:=["_law_text","_law_cut","_law_figures"]) (xs:=["_law_number"]) (ys:=[]) (js:=[]) (by trivial) rfl (C0 rfl T.n_range (Aa Ae Ab)) (fun _ _ _ _=>(Aw (i:=0) (show (["_law_number"]:List Str).Nodup by decide +kernel) rfl (by trivial))) (fun _ _ _ _=>B9) (fun _ _ _ _=>(Bm call_str_int rfl T.n_str boot_str (Aa (pv 0) Ab)))) (by with_unfolding_all rfl)) (Ad (Ap pe_non)) Am)
   (Ad (Ap (Bj (Aa (Ba sl_str (pv 0) Bp (Bk (pv 1))) (Aa (Bm call_intT rfl T.n_int boot_int (Aa (pv 2) Ab)) Ab))))))))),?_⟩
  have hs:sizeLine=16777216:=sizeLine_eq
  refine ⟨_,rfl,rfl,z,_,rfl,rfl,?_⟩
  by_cases h46:46 ∈ z.cps.toList
  ·obtain ⟨a,b,hab,ha⟩:=first_split h46
   rw [first_dot hab ha]
   have hl:z.cps.toList.length=a.length + 1 + b.length:=by rw [hab]; simp; omega
   have hzl:z.length=z.cps.toList.length:=by simp [Str.length]
   have e2:Txt.slice z none (some (a.length:Int))=⟨a.toArray⟩:=by
    rw [slice_to (by omega),hab]; simp
   have e3:Txt.slice z (some ((a.length:Int) + 1)) none=⟨b.toArray⟩:=by
    have:=slice_from (z:=z) (i:=a.length + 1) (by omega)
    rw [hab] at this
    have e:(((a.length + 1:Nat)):Int)=(a.length:Int) + 1:=by omega
    rw [e] at this
    rw [this]
    congr 2
    have e5:a ++ 46 :: b=(a ++ [46]) ++ b:=by simp
    rw [e5]
    exact List.drop_left' (by simp)
   have al:(⟨a.toArray⟩:Str).length=a.length:=List.size_toArray
   have bl:(⟨b.toArray⟩:Str).length=b.length:=List.size_toArray
   refine ⟨_,rfl,_,_,rfl,rfl,_,rfl,ite2 (fun h1=>absurd (of_decide_eq_true h1) (by omega)) (fun _=>?_)⟩
   refine ⟨_,rfl,_,rfl,_,rfl,z,rfl,(by omega),?_⟩
   rw [e2]
   refine ⟨_,rfl,(by omega),fun H1 s1=>⟨_,rfl,?_⟩⟩
   cases hw:Ak ⟨a.toArray⟩ with
   | false=>
     refine iteT (q0 ?_ _ s1)
     cases e:keyP z with
     | none=>rfl
     | some k=>
       obtain ⟨k1,_,k3,_⟩:=keyP_cut hab ha e
       rw [k1,hw] at k3
       cases k3
   | true=>
     refine iteF ?_
     refine ⟨_,rfl,_,rfl,_,_,rfl,rfl,_,rfl,z,rfl,(by omega),?_⟩
     rw [e3]
     refine ⟨_,rfl,100,rfl,by decide,by decide,comp_range (n:=100) (fun i ys H'=>ys=((List.range i).map nT).map V.str/\H'=H1) ⟨rfl,rfl⟩ ?_ ?_ ?_ ?_⟩
     ·show 100<=sizeLine
      omega
     ·rintro i ys H' ⟨rfl,_⟩
      rw [List.length_map,List.length_map,List.length_range]
      exact Nat.le_refl _
     ·rintro i ys H' hi ⟨rfl,rfl⟩
      have hi:i < 100:=hi
      refine ⟨_,rfl,_,rfl,log_small (by omega) (by omega),?_,rfl⟩
      rw [List.range_succ,List.map_append,List.map_append]
      show _ ++ [V.str (Str.ofString (toString ((0:Int) + (i:Int))))]=_ ++ [V.str (Str.ofString (toString ((i:Nat):Int)))]
      rw [Int.zero_add]
     ·rintro ys H' ⟨rfl,rfl⟩ p hp
      generalize hQ9:upd H' p (.lst (((List.range 100).map nT).map V.str))=H2
      have s2:=Nw hQ9 hp
      have l2:=Ns hQ9
      have S2:=s1.trans s2
      refine ⟨p,_,rfl,.inl (SqL.of l2),rfl,flat_strs _,_,rfl,?_⟩
      show if (!inV (V.str ⟨b.toArray⟩) (((List.range 100).map nT).map V.str))=true then _ else _
      rw [inV_str]
      by_cases hm:(⟨b.toArray⟩:Str) ∈ (List.range 100).map nT
      ·rw [decide_eq_true hm]
       obtain ⟨n,hn,e⟩:=List.mem_map.mp hm
       have hn:n < 100:=List.mem_range.mp hn
       have il:PySem.intText? (⟨b.toArray⟩:Str)=some (n:Int):=by rw [← e]; exact (nT_num ⟨n,hn⟩).2
       refine iteF ⟨_,rfl,_,rfl,_,rfl,z,rfl,(by omega),?_⟩
       rw [e2]
       exact ⟨_,rfl,_,n,rfl,il,(by have:=num2 hn; rw [e] at this; have:=this.h2; omega),(by exact Z2),fun p2 hp2=>q1 _ (keyP_put hab hw hn e) p2 _ (S2.trans (Same.new hp2)) Ag⟩
      ·rw [decide_eq_false hm]
       refine iteT (q0 ?_ _ S2)
       cases e:keyP z with
       | none=>rfl
       | some k=>
         obtain ⟨_,k2,_,k4⟩:=keyP_cut hab ha e
         exact absurd (List.mem_map.mpr ⟨k.2,List.mem_range.mpr k4,k2⟩) hm
  ·rw [no_dot h46]
   refine ⟨_,rfl,_,_,rfl,rfl,_,rfl,iteT (iteT (q0 (keyP_no h46) _ (Same.refl _)))⟩
end
end K34
namespace L2
open PySem PySem.Spec PyProof.Rows
def tMid (t:TS):TS:=fun D σ H=>∃ M:L2.St->Hp->Prop,t { D with nx:=M } σ H/\∀ σ' H',M σ' H'->D.nx σ' H'
theorem ps_mid {X:Cx} {st:Stmt} {t:TS} (h:PS X st t):PS X st (tMid t):=by
 intro pins s σ H D I ⟨M,hM,k⟩
 refine thn (h pins s σ H { D with nx:=M } I hM) fun f s' hf=>?_
 cases f with
 | next=>obtain ⟨σ',H',I',q⟩:=hf; exact ⟨σ',H',I',k _ _ q⟩
 | brk=>exact hf
 | cont=>exact hf
 | ret u=>exact hf
def isN:V->Bool
 | .non=>true
 | _=>false
def rInN (K:PySem.W.Frag):R2:=fun x y H Q=>∃ p xs,x=.non/\y=.ref p/\SqL K H p xs/\(∀ v ∈ xs,v=.non\/∃ a ys,v=.ref a/\H a=some (.tup ys))/\Q (.bl (xs.any isN)) H
def uN:Value->Bool
 | .none=>true
 | _=>false
theorem any_uN {H:Hp}:∀ {xs:List V} {us:List Value},Vals xs us->(∀ v ∈ xs,v=.non\/∃ a ys,v=.ref a/\H a=some (.tup ys))->us.any uN=xs.any isN
 | _,_,.nil,_=>rfl
 | y :: xs,u :: us,.cons r t,f=>by
   rw [List.any_cons,List.any_cons,any_uN t fun v hv=>f v (List.mem_cons_of_mem _ hv)]
   rcases f y List.mem_cons_self with rfl | ⟨a,ys,rfl,_⟩
   ·cases r; rfl
   ·cases r; rfl
theorem op_inN {X:Cx} (hu:X.A.units + 1 < cLine):OpR X (compareOp .In) (rInN X.K):=by
 intro pins s σ H x y v u Q I rx ry h
 obtain ⟨p,xs,rfl,rfl,hq,hx,q⟩:=h
 cases rx
 cases ry
 obtain ⟨its,r,pl,hz⟩:=I.list hq
 refine SeqAt.in_listAt uN pl.isList (fun w hw=>?_) ⟨.bl _,H,I,rfl,?_⟩
 ·have hw:w ∈ its:=by simpa using hw
  have:∀ {xs:List V} {us:List Value},Vals xs us->(∀ v ∈ xs,v=.non\/∃ a ys,v=.ref a/\H a=some (.tup ys))->∀ w ∈ us,SeqAt.EqAt X.A.in1 s w .none (uN w):=by
   intro xs us h
   induction h with
   | nil=>intro _ w hw; cases hw
   | cons r t ih=>
     intro f w hw
     rcases List.mem_cons.mp hw with rfl | hw
     ·rcases f _ List.mem_cons_self with rfl | ⟨a,ys,rfl,ha⟩
      ·cases r; exact SeqAt.EqAt.same _
      ·cases r
       obtain ⟨_,_,pl',_⟩:=I.tuple (SqT.of (K:=X.K) ha)
       exact SeqAt.EqAt.tuple_none pl' (by have:X.A.in1.units<=X.A.units + 1:=by first | exact Nat.le_refl _ | exact Nat.le_succ _ | simp [Around.in1]
                                           omega)
     ·exact ih (fun v hv=>f v (List.mem_cons_of_mem _ hv)) w hw
  exact this r hx w hw
 ·rw [show its.toArray.any uN=its.any uN by simp,any_uN r hx]
  exact q
end L2
namespace K34
open PySem L2 PyProof.Rows PySem.SeqAt
structure Lr where
 s:Nat
 j:Str
 n:Str
 o:List (Str × Nat)
def En.lr (e:En):Lr:=⟨e.s,nm e.j,e.n,e.o⟩
def LAt (H:Hp) (p:Addr) (x:Lr):Prop:=∃ (lk:Addr) (ps:List Addr),H p=some (.lst [.int (x.s:Nat),.str x.j,.str x.n,.ref lk])/\H lk=some (.lst (ps.map V.ref))/\A2 (KeyR H) ps x.o
theorem LAt.same {H H':Hp} {p:Addr} {x:Lr} (h:LAt H p x) (s:Same H H'):LAt H' p x:=by
 obtain ⟨lk,ps,h1,h2,h3⟩:=h
 exact ⟨lk,ps,s _ _ h1,s _ _ h2,h3.imp fun _ _ e=>s _ _ e⟩
def lrP (line m:Nat) (ws:List Str):Option Lr:=if line=0 then (Cu ws).map fun p=>⟨0,"",p.1,p.2⟩ else (rowP m ws).map En.lr
def KN (H:Hp) (v:V) (z:Str):Prop:=(keyP z=none/\v=.non)\/∃ k p,keyP z=some k/\v=.ref p/\KeyR H p k
theorem KN.same {H H':Hp} {v:V} {z:Str} (h:KN H v z) (s:Same H H'):KN H' v z:=h.imp id fun ⟨k,p,h1,h2,h3⟩=>⟨k,p,h1,h2,s _ _ h3⟩
theorem kn_all {H:Hp}:∀ {ys:List V} {ks:List Str},A2 (KN H) ys ks->ks.all (fun z=>(keyP z).isSome)=true->∃ ps:List Addr,ys=ps.map V.ref/\A2 (KeyR H) ps (ks.filterMap keyP)
 | [],[],_,_=>⟨[],rfl,A2.nil⟩
 | [],_ :: _,h,_=>absurd h.1 (by simp)
 | _ :: _,[],h,_=>absurd h.1 (by simp)
 | y :: ys,z :: ks,h,ha=>by
   obtain ⟨h1,h2⟩:=h.inv
   rw [List.all_cons,Bool.and_eq_true] at ha
   obtain ⟨ps,e,h3⟩:=kn_all h2 ha.2
   rcases h1 with ⟨h1,_⟩ | ⟨k,p,h1,rfl,hp⟩
   ·rw [h1] at ha
    exact absurd ha.1 (by decide)
   ·refine ⟨p :: ps,by rw [e]; rfl,?_⟩
    rw [List.filterMap_cons_some h1]
    exact A2.cons hp h3
theorem kn_any {H:Hp}:∀ {ys:List V} {ks:List Str},A2 (KN H) ys ks->ys.any isN=!(ks.all (fun z=>(keyP z).isSome))
 | [],[],_=>rfl
 | [],_ :: _,h=>absurd h.1 (by simp)
 | _ :: _,[],h=>absurd h.1 (by simp)
 | y :: ys,z :: ks,h=>by
   obtain ⟨h1,h2⟩:=h.inv
   rw [List.any_cons,List.all_cons,kn_any h2]
   rcases h1 with ⟨h1,rfl⟩ | ⟨k,p,h1,rfl,hp⟩
   ·rw [h1]; rfl
   ·rw [h1]; show (false || _)=!(true && _); rw [Bool.false_or,Bool.true_and]
theorem kn_ok {H:Hp} {ys:List V} {ks:List Str} (h:A2 (KN H) ys ks):∀ v ∈ ys,v=.non\/∃ a zs,v=.ref a/\H a=some (.tup zs):=fun v hv=>by
 obtain ⟨i,hi⟩:=List.getElem?_of_mem hv
 obtain ⟨z,_,hz⟩:=h.at hi
 rcases hz with ⟨_,h⟩ | ⟨k,p,_,h,hp⟩
 ·exact .inl h
 ·exact .inr ⟨p,_,h,hp⟩
section
variable {P:Program} {w:World} {K:PySem.W.Frag} {mg:Str->Option Value} {base:Heap}
def spLR:Sp:=fun vs H Q _=>∃ (r:Str) (line ahead:Nat),vs=[.str r,.int (line:Nat),.int (ahead:Nat)]/\r.length<=1000/\ahead<=2000/\(lrP line (ahead + 1) (Txt.split r " ")=none->∀ H',Same H H'->Q .non H')/\
 ∀ x,lrP line (ahead + 1) (Txt.split r " ")=some x->∀ (p lk:Addr) (ps:List Addr) (H':Hp),Same H H'->H p=none->H lk=none->H' p=some (.lst [.int (x.s:Nat),.str x.j,.str x.n,.ref lk])->H' lk=some (.lst (ps.map V.ref))->A2 (KeyR H') ps x.o->Q (.ref p) H'
abbrev s_law_row:Stmt:=top 73
theorem Cq:Ao ["_law_row_here","_law_line","_law_ahead","_law_words_here","_law_deep","_law_join","_law_keys"] ["_law_row_here","_law_line","_law_ahead"] (Af s_law_row):=by trivial
theorem ok_lr (T:Txt mg) (F__law_is_word:FnAt P w K mg base "_law_is_word" 1 ["_law_text"] spLW) (F__law_key:FnAt P w K mg base "_law_key" 2 ["_law_text"] spLK) (F:Al K mg "_law_row" s_law_row ["_law_row_here","_law_line","_law_ahead"]):FnAt P w K mg base "_law_row" 3 ["_law_row_here","_law_line","_law_ahead"] spLR:=by
 refine F.at Cq (fun vs H Q E h=>?_) (fun f cdv A outer s H vs Q E hr h=>?_)
 ·obtain ⟨r,line,ahead,rfl,_⟩:=h
  rfl
 ·obtain ⟨r,line,ahead,rfl,hrl,hah,q0,q1⟩:=h
  refine ⟨_,(Ac (As (i:=3) Cq.nd rfl (by trivial) (C5 PySem.F.plainAttrs_str PySem.F.slot_str_split PySem.F.type_str_split mt_split (pv 0) (Aa Au Ab)))
   (Ac (As (i:=4) Cq.nd rfl (by trivial) Ae)
   (Ac (As (i:=5) Cq.nd rfl (by trivial) Au)
   (Ac (ps_mid (A5 (Av Eu (pv 1) Ae (A1 _)) (Ac (As (i:=4) Cq.nd rfl (by trivial) (Ai Aq rfl T.n_len boot_len (Aa (A0 An (pv 3) Ae (fun _ _=>rfl)) Ab)))
   (Ac (A5 (PW.pt (pw_or (Av El (pv 4) Ae (A1 _)) (pw_or (Av Eu (pv 4) (A3 B4 (pv 2) Ae) (A1 _)) (pw_or (Av op_ne (A0 An (pv 3) Ae (fun _ _=>rfl)) (A3 op_mulW Au (pv 4)) (A1 _)) (Ei (Av op_lt (Ai Aq rfl T.n_len boot_len (Aa (pv 3) Ab)) Ae (A1 _))))))) (Ad (Ap pe_non)) Am)
   (Ac (As (i:=5) Cq.nd rfl (by trivial) (A0 An (pv 3) Ae (fun _ _=>rfl)))
   (Ac (A5 (Av op_notIn_seq (pv 5) (Bj (Aa Au (Aa Au (Aa Au (Aa Au Ab))))) (by with_unfolding_all rfl)) (Ad (Ap pe_non)) Am)
   (Ad (As (i:=3) Cq.nd rfl (by trivial) (Ba Cc (pv 3) (Bk Ae) Bp))))))) Am))
   (Ac (ps_setComp (i:=6) (sc:=Af s_law_row) (N0:=["_law_row_here","_law_line","_law_ahead","_law_words_here","_law_deep","_law_join","_law_keys"]) (xs:=["_law_word"]) (ys:=[]) (js:=[]) (by trivial) rfl Cq.nd rfl rfl (Bn (Ba Cc (pv 3) (Bk Ae) Bp)) (fun _ _ _ _=>(Aw (i:=0) (show (["_law_word"]:List Str).Nodup by decide +kernel) rfl (by trivial))) (fun _ _ _ _=>B9) (fun _ _ _ _=>(Ay F__law_key hr (by decide) rfl (Aa (pv 0) Ab))))
   (Ac (A5 (PW.pt (pw_or (Bl (Bw (Ay F__law_is_word hr (by decide) rfl (Aa (A0 An (pv 3) Ae (fun _ _=>rfl)) Ab)))) (pw_or (Av Eu (Ai Aq rfl T.n_len boot_len (Aa (pv 6) Ab)) Ae (A1 _)) (Ei (Av (op_inN (hu1 hr)) pe_non (pv 6) (by with_unfolding_all rfl)))))) (Ad (Ap pe_non)) Am)
   (Ad (Ap (Bf (Aa (pv 4) (Aa (pv 5) (Aa (A0 An (pv 3) Ae (fun _ _=>rfl)) (Aa (pv 6) Ab))))))))))))),?_⟩
  have hs:sizeLine=16777216:=sizeLine_eq
  refine ⟨_,rfl,rfl,r," ",rfl,rfl,(by decide +kernel),(by omega),fun p hp=>?_⟩
  have spos:=split_pos r " "
  have sle:=split_le r " "
  have ssh:∀ x ∈ Txt.split r " ",x.length<=1000:=fun x hx=>by have:=part_short hx; omega
  generalize Txt.split r " "=L at q0 q1 spos sle ssh ⊢
  generalize hQ9:upd H p (.lst (L.map V.str))=H1
  have s1:=Nw hQ9 hp
  have e1:=Ns hQ9
  have ln:((L.map V.str).length:Nat)=L.length:=List.length_map ..
  refine ⟨fun σ' H'=>∃ (lw:Addr) (n:Str) (ks:List Str) (d:Nat) (j:Str),σ'=[some (.str r),some (.int (line:Nat)),some (.int (ahead:Nat)),some (.ref lw),some (.int (d:Nat)),some (.str j),none]/\Same H H'/\H' lw=some (.lst ((n :: ks).map V.str))/\(∀ x ∈ n :: ks,x.length<=1000)/\ks.length<=1002/\lrP line (ahead + 1) L=(Cu (n :: ks)).map fun p=>⟨d,j,p.1,p.2⟩,?_,?_⟩
  ·refine ⟨_,rfl,_,_,rfl,rfl,_,rfl,ite2 (fun hl=>?_) (fun hl=>?_)⟩
   ·have hl:(0:Int) < (line:Int):=of_decide_eq_true hl
    have l0:line≠0:=by omega
    have eL:lrP line (ahead + 1) L=(rowP (ahead + 1) L).map En.lr:=if_neg l0
    obtain ⟨z,rest,rfl⟩:∃ z rest,L=z :: rest:=by
     cases L with
     | nil=>exact absurd spos (by simp)
     | cons z rest=>exact ⟨z,rest,rfl⟩
    have zl:=ssh z List.mem_cons_self
    have no:rowP (ahead + 1) (z :: rest)=none->∀ H',Same H H'->Q .non H':=fun e=>q0 (by rw [eL,e]; rfl)
    refine ⟨_,rfl,p,_,_,V.str z,rfl,rfl,SqL.of e1,(Az (j:=0) rfl),_,_,rfl,⟨by omega,rfl⟩,?_⟩
    have bad:¬ (z=A9 z.length/\1<=z.length/\z.length<=ahead + 1)->rowP (ahead + 1) (z :: rest)=none:=fun h=>by
     cases rest with
     | nil=>rfl
     | cons j r=>rw [Cz,if_neg h]
    refine ⟨_,rfl,rfl,_,rfl,ite2 (fun h1=>?_) (fun h1=>?_)⟩
    ·have h1:=V.int.inj (of_decide_eq_true h1)
     exact iteT (no (bad fun h=>by have:=h.2.1; omega) _ s1)
    have h1:z.length≠0:=fun y=>h1 (decide_eq_true (by rw [y]; rfl))
    refine ⟨_,rfl,_,rfl,_,_,rfl,rfl,_,_,rfl,rfl,_,rfl,ite2 (fun h2=>?_) (fun h2=>?_)⟩
    ·have h2:=of_decide_eq_true h2
     exact iteT (no (bad fun h=>by have:=h.2.2; omega) _ s1)
    have h2:¬ ((z.length:Nat):Int) > (ahead:Int) + 1:=fun y=>h2 (decide_eq_true y)
    refine ⟨_,rfl,p,_,_,V.str z,rfl,rfl,SqL.of e1,(Az (j:=0) rfl),_,rfl,_,_,rfl,rfl,(by omega),(by omega),(by decide +kernel),rfl,_,rfl,?_⟩
    have es:repZ ((z.length:Nat):Int).toNat (Str.ofString "-")=A9 z.length:=rfl
    rw [es]
    by_cases hz:¬ z=A9 z.length
    ·exact ite2 (fun _=>iteT (no (bad fun h=>hz h.1) _ s1)) (fun h=>absurd (by rw [decide_eq_false (fun y=>hz (V.str.inj y))]; rfl) h)
    have hz:z=A9 z.length:=Decidable.not_not.mp hz
    refine iteNS (congrArg V.str hz) ?_
    refine ⟨_,rfl,_,_,rfl,.inl ⟨_,SqL.of e1,rfl⟩,_,_,rfl,rfl,_,rfl,ite2 (fun h3=>?_) (fun h3=>?_)⟩
    ·have h3:=of_decide_eq_true h3
     rw [ln] at h3
     refine no ?_ _ s1
     match rest,h3 with
     | [],_=>rfl
     | [j],_=>rw [Cz,if_pos ⟨hz,by omega,by omega⟩]; cases jP j <;> rfl
     | _ :: _ :: _,h3=>exact absurd h3 (by simp; omega)
    have h3:¬ (((z :: rest).map V.str).length:Int) < 3:=fun y=>h3 (decide_eq_true y)
    obtain ⟨j,n,ks,rfl⟩:∃ j n ks,rest=j :: n :: ks:=by
     match rest,h3 with
     | [],h3=>exact absurd (by simp) h3
     | [j],h3=>exact absurd (by simp) h3
     | j :: n :: ks,_=>exact ⟨j,n,ks,rfl⟩
    have eR:rowP (ahead + 1) (z :: j :: n :: ks)=(jP j).bind fun j=>(Cu (n :: ks)).map fun p=>(⟨z.length,j,p.1,p.2⟩:En):=by
     rw [Cz,if_pos ⟨hz,by omega,by omega⟩]
    refine ⟨_,rfl,p,_,_,V.str j,rfl,rfl,SqL.of e1,(Az (j:=1) rfl),?_⟩
    refine ⟨_,rfl,(by exact Z4),fun tp htp=>?_⟩
    have s2:=Same.new (o:=.tup (JW.map V.str)) htp
    have e2:upd H1 tp (.tup (JW.map V.str)) tp=some (.tup (JW.map V.str)):=Ag
    refine ⟨tp,JW.map V.str,rfl,.inr (SqT.of e2),rfl,flat_strs _,_,rfl,?_⟩
    show if (!inV (V.str j) (JW.map V.str))=true then _ else _
    rw [jP_in]
    cases hj:jP j with
    | none=>exact iteT (no (by rw [eR,hj]; rfl) _ (s1.trans s2))
    | some j'=>
      obtain ⟨rfl,j4⟩:=jP_some hj
      refine iteF ⟨_,rfl,_,rfl,p,_,rfl,SqL.of (s2 _ _ e1),fun c hc=>?_⟩
      have e0:cutV ((z :: nm j' :: n :: ks).map V.str) (some 2) none=(n :: ks).map V.str:=cut2 _ _ _
      rw [e0]
      refine ⟨c,n,ks,z.length,nm j',rfl,(s1.trans s2).trans (Same.new hc),Ag,fun x hx=>ssh x (List.mem_cons_of_mem _ (List.mem_cons_of_mem _ hx)),by simp at sle; omega,?_⟩
      rw [eL,eR,hj]
      show Option.map En.lr ((Cu (n :: ks)).map fun p=>(⟨z.length,j',p.1,p.2⟩:En))=_
      rw [Option.map_map]
      rfl
   ·have hl:¬ (0:Int) < (line:Int):=fun y=>hl (decide_eq_true y)
    have l0:line=0:=by omega
    obtain ⟨n,ks,rfl⟩:∃ n ks,L=n :: ks:=by
     cases L with
     | nil=>exact absurd spos (by simp)
     | cons z rest=>exact ⟨z,rest,rfl⟩
    refine ⟨p,n,ks,0,"",rfl,s1,e1,ssh,by rw [List.length_cons] at sle; omega,?_⟩
    unfold lrP
    rw [if_pos l0]
  ·rintro σ' H' ⟨lw,n,ks,d,j,rfl,s',el,sh,kl,eq⟩
   rw [eq] at q0 q1
   refine ⟨_,rfl,_,rfl,lw,_,rfl,SqL.of el,fun c hc=>?_⟩
   have e0:cutV ((n :: ks).map V.str) (some 1) none=ks.map V.str:=cut1 _ _
   rw [e0]
   generalize hQ9:upd H' c (.lst (ks.map V.str))=H2
   have s2:=Nw hQ9 hc
   have e2:=Ns hQ9
   have S2:=s'.trans s2
   refine ⟨c,rfl,⟨_,SqL.of e2⟩,Br (K:=K) (a:=c) (xs:=ks.map V.str) (fun i ys H'=>A2 (KN H') ys (ks.take i)/\Same H2 H') ⟨A2.nil,Same.refl _⟩ (by rw [List.length_map]; omega) ?_ ?_ ?_ ?_⟩
   ·rintro i ys H3 ⟨h,_⟩
    rw [h.1,List.length_take]
    omega
   ·rintro i ys H3 _ ⟨_,s3⟩
    exact SqL.of (s3 _ _ e2)
   ·rintro i x ys H3 hx ⟨hy,s3⟩
    rw [List.getElem?_map] at hx
    obtain ⟨z,hz,rfl⟩:=Option.map_eq_some_iff.mp hx
    refine ⟨_,rfl,z,rfl,sh z (List.mem_cons_of_mem _ (List.mem_of_getElem? hz)),fun hk H4 s4=>⟨?_,s3.trans s4⟩,fun k hk p4 H4 s4 hp4=>⟨?_,s3.trans s4⟩⟩
    ·rw [A6 hz]
     exact (hy.imp fun _ _ e=>e.same s4).app (A2.one (.inl ⟨hk,rfl⟩))
    ·rw [A6 hz]
     exact (hy.imp fun _ _ e=>e.same s4).app (A2.one (.inr ⟨k,p4,hk,rfl,hp4⟩))
   ·rintro ys H3 ⟨hy,s3⟩ lk hlk
    rw [List.length_map,List.take_length] at hy
    generalize hQ9:upd H3 lk (.lst ys)=H4
    have s4:=Nw hQ9 hlk
    have e4:=Ns hQ9
    have S4:=(S2.trans s3).trans s4
    have el4:=s4 _ _ (s3 _ _ (s2 _ _ el))
    have hy4:=hy.imp fun _ _ e=>e.same s4
    refine ⟨_,rfl,lw,_,_,V.str n,rfl,rfl,SqL.of el4,(Az (j:=0) rfl),n,rfl,sh n List.mem_cons_self,fun H5 s5=>⟨_,rfl,?_⟩⟩
    have S5:=S4.trans s5
    cases hw:Ak n with
    | false=>
      refine iteT (iteT (q0 ?_ _ S5))
      rw [Cl,if_neg]
      ·rfl
      ·rintro ⟨y,_⟩
       rw [hw] at y
       cases y
    | true=>
    refine iteF ⟨_,rfl,_,_,rfl,.inl ⟨_,SqL.of (s5 _ _ e4),rfl⟩,_,_,rfl,rfl,_,rfl,ite2 (fun h1=>?_) (fun h1=>?_)⟩
    ·have h1:=of_decide_eq_true h1
     refine iteT (q0 ?_ _ S5)
     rw [Cl,if_neg]
     ·rfl
     ·rintro ⟨_,y,_⟩
      have:=hy.1
      omega
    have h1:¬ ((ys.length:Nat):Int) > 2:=fun y=>h1 (decide_eq_true y)
    have k2:ks.length<=2:=by have:=hy.1; omega
    refine ⟨_,rfl,lk,ys,rfl,rfl,SqL.of (s5 _ _ e4),kn_ok (hy4.imp fun _ _ e=>e.same s5),_,rfl,?_⟩
    rw [kn_any hy4]
    cases ha:ks.all (fun z=>(keyP z).isSome) with
    | false=>
      refine iteT (q0 ?_ _ S5)
      rw [Cl,if_neg]
      ·rfl
      ·rintro ⟨_,_,y⟩
       rw [ha] at y
       cases y
    | true=>
      obtain ⟨ps,rfl,hps⟩:=kn_all (hy4.imp fun _ _ e=>e.same s5) ha
      refine iteF ⟨_,rfl,_,rfl,_,rfl,lw,_,_,V.str n,rfl,rfl,SqL.of (s5 _ _ el4),(Az (j:=0) rfl),_,rfl,(by exact Z4),fun p5 hp5=>?_⟩
      refine q1 _ (by rw [Cl,if_pos ⟨hw,k2,ha⟩]; rfl) p5 lk ps _ (S5.trans (Same.new hp5)) (S5.free hp5) ((S2.trans s3).free hlk) Ag (Same.new hp5 _ _ (s5 _ _ e4)) (hps.imp fun _ _ e=>Same.new hp5 _ _ e)
end
end K34
namespace K34
open PySem L2 PyProof.Rows PySem.SeqAt
theorem A2.sub {α β:Type} {R:α->β->Prop} {xs:List α} {ys:List β} (h:A2 R xs ys) (a b:Nat):A2 R ((xs.drop a).take b) ((ys.drop a).take b):=by
 refine ⟨by rw [List.length_take,List.length_drop,List.length_take,List.length_drop,h.1],fun i x y e1 e2=>?_⟩
 rw [List.getElem?_take] at e1 e2
 split at e1
 ·rename_i hi
  rw [if_pos hi] at e2
  rw [List.getElem?_drop] at e1 e2
  exact h.2 _ x y e1 e2
 ·cases e1
def LRs (H:Hp) (l:Addr) (xs:List Lr):Prop:=∃ ps:List Addr,H l=some (.lst (ps.map V.ref))/\A2 (LAt H) ps xs
theorem LRs.same {H H':Hp} {l:Addr} {xs:List Lr} (h:LRs H l xs) (s:Same H H'):LRs H' l xs:=by
 obtain ⟨ps,h1,h2⟩:=h
 exact ⟨ps,s _ _ h1,h2.imp fun _ _ e=>e.same s⟩
def deepS (s:Nat) (y:Lr):Bool:=decide (s < y.s)
def Ci (s:Nat):Nat->List Lr->List Nat
 | _,[]=>[]
 | b,y :: r=>if y.s=s + 1 then b :: Ci s (b + 1) r else Ci s (b + 1) r
theorem below_snoc (s:Nat) (y:Lr):∀ (b:Nat) (r:List Lr),Ci s b (r ++ [y])=Ci s b r ++ if y.s=s + 1 then [b + r.length] else []
 | b,[]=>by
   show (if y.s=s + 1 then b :: [] else [])=_
   rfl
 | b,x :: r=>by
   rw [List.cons_append,Ci,below_snoc s y (b + 1) r,Ci,List.length_cons,show b + 1 + r.length=b + (r.length + 1) by omega]
   split <;> rfl
theorem below_len (s:Nat):∀ (b:Nat) (r:List Lr),(Ci s b r).length<=r.length
 | b,[]=>Nat.le_refl _
 | b,x :: r=>by
   have:=below_len s (b + 1) r
   rw [Ci]
   split
   ·rw [List.length_cons,List.length_cons]; omega
   ·rw [List.length_cons]; omega
theorem tw_eq {α:Type} {p:α->Bool}:∀ {t:List α} {i:Nat},(∀ y ∈ t.take i,p y=true)->i<=t.length->(i=t.length\/∃ y,t[i]?=some y/\p y=false)->t.takeWhile p=t.take i
 | [],i,_,_,_=>by simp
 | x :: t,0,_,_,h=>by
   rcases h with h | ⟨y,h,hp⟩
   ·simp at h
   ·simp only [List.getElem?_cons_zero,Option.some.injEq] at h
    subst h
    rw [List.takeWhile_cons,if_neg (by rw [hp]; decide)]
    rfl
 | x :: t,i + 1,ha,hi,h=>by
   rw [List.take_succ_cons] at ha
   rw [List.takeWhile_cons,if_pos (ha x List.mem_cons_self),List.take_succ_cons]
   rw [List.length_cons] at hi h
   rw [tw_eq (t:=t) (i:=i) (fun y hy=>ha y (List.mem_cons_of_mem _ hy)) (by omega) (h.imp (fun z=>by omega) fun ⟨y,h1,h2⟩=>⟨y,by rw [List.getElem?_cons_succ] at h1; exact h1,h2⟩)]
def segL (xs:List Lr) (k:Nat) (s:Nat):List Lr:=(xs.drop (k + 1)).takeWhile (deepS s)
theorem cut_of (xs:List V) {a b:Nat} (h1:a<=b) (h2:b<=xs.length):cutV xs (some (a:Int)) (some (b:Int))=(xs.drop a).take (b - a):=by
 unfold cutV
 rw [HT.sIx_nat,HT.sIx_nat,Nat.min_eq_left h2,Nat.min_eq_left (Nat.le_trans h1 h2)]
section
variable {P:Program} {w:World} {K:PySem.W.Frag} {mg:Str->Option Value} {base:Heap}
def spBn:Sp:=fun vs H Q _=>∃ (l:Addr) (xs:List Lr) (k:Nat) (x:Lr),vs=[.ref l,.int (k:Nat)]/\LRs H l xs/\xs[k]?=some x/\xs.length<=200/\
 ∀ (p lf lw:Addr) (qs:List Addr) (H':Hp),Same H H'->H' p=some (.lst [.ref lf,.ref lw])->H' lf=some (.lst ((Ci x.s (k + 1) (segL xs k x.s)).map fun n=>V.int (n:Nat)))->H' lw=some (.lst (qs.map V.ref))->A2 (LAt H') qs (x :: segL xs k x.s)->Q (.ref p) H'
abbrev Do:Stmt:=top 74
theorem De:Ao ["_law_rows_here","_law_at","_law_found","_law_k"] ["_law_rows_here","_law_at"] (Af Do):=by trivial
theorem ok_bn (T:Txt mg) (F:Al K mg "_law_beneath" Do ["_law_rows_here","_law_at"]):FnAt P w K mg base "_law_beneath" 1 ["_law_rows_here","_law_at"] spBn:=by
 refine F.at De (fun vs H Q E h=>?_) (fun f cdv A outer s H vs Q E hr h=>?_)
 ·obtain ⟨l,xs,k,x,rfl,_⟩:=h
  rfl
 ·obtain ⟨l,xs,k,x,rfl,⟨ps,hl,hps⟩,hk,few,q⟩:=h
  refine ⟨_,(Ac (As (i:=2) De.nd rfl (by trivial) (Bf Ab))
   (Ac (As (i:=3) De.nd rfl (by trivial) (A3 B4 (pv 1) Ae))
   (Ac (ps_while PassesOwn.never (PW.pt (pw_and (Av op_lt (pv 3) (Ai Aq rfl T.n_len boot_len (Aa (pv 0) Ab)) (A1 _)) (pw_and1 (Av Eu (A0 An (A0 An (pv 0) (pv 3) (fun _ _=>rfl)) Ae (fun _ _=>rfl)) (A0 An (A0 An (pv 0) (pv 1) (fun _ _=>rfl)) Ae (fun _ _=>rfl)) (A1 _))))) (Ac (A5 (Av El (A0 An (A0 An (pv 0) (pv 3) (fun _ _=>rfl)) Ae (fun _ _=>rfl)) (A3 B4 (A0 An (A0 An (pv 0) (pv 1) (fun _ _=>rfl)) Ae (fun _ _=>rfl)) Ae) (A1 _)) (Ad (Bb (C5 PySem.F.plainAttrs_list PySem.F.slot_list_append PySem.F.type_list_append Cg (pv 2) (Aa (pv 3) Ab)))) Am)
   (Ad (As (i:=3) De.nd rfl (by trivial) (A3 B4 (pv 3) Ae)))))
   (Ad (Ap (Bf (Aa (pv 2) (Aa (Ba Cc (pv 0) (Bk (pv 1)) (Bk (pv 3))) Ab)))))))),?_⟩
  have hs:sizeLine=16777216:=sizeLine_eq
  have pl:ps.length=xs.length:=hps.1
  obtain ⟨hkl,hkx⟩:=List.getElem?_eq_some_iff.mp hk
  obtain ⟨pk,hpk,lk,kps,hpkl,hlk,_⟩:=hps.at' hk
  have ln:(ps.map V.ref).length=xs.length:=by rw [List.length_map,pl]
  have aK:atI (ps.map V.ref) (k:Int)=some (.ref pk):=Az (by rw [List.getElem?_map,hpk]; rfl)
  have tlen:(xs.drop (k + 1)).length=xs.length - (k + 1):=List.length_drop ..
  refine ⟨(by exact Z0),fun lf hlf=>?_⟩
  generalize hQ9:upd H lf (.lst [])=H0
  have s0:=Nw hQ9 hlf
  have e0:=Ns hQ9
  refine ⟨_,rfl,_,_,rfl,rfl,?_⟩
  refine ⟨fun m σ H'=>∃ i:Nat,m=xs.length - (k + 1 + i)/\k + 1 + i<=xs.length/\σ=[some (.ref l),some (.int (k:Nat)),some (.ref lf),some (.int ((k + 1 + i:Nat):Int))]/\Same H H'/\H' lf=some (.lst ((Ci x.s (k + 1) ((xs.drop (k + 1)).take i)).map fun n=>V.int (n:Nat)))/\∀ y ∈ (xs.drop (k + 1)).take i,deepS x.s y=true,⟨_,0,rfl,by omega,rfl,s0,e0,fun y hy=>by cases hy⟩,?_⟩
  rintro m σ H' ⟨i,rfl,hi,rfl,s',ef,hd⟩
  have done:(i=(xs.drop (k + 1)).length\/∃ y,(xs.drop (k + 1))[i]?=some y/\deepS x.s y=false)->tRet (tLst (tCons (tVar 2) (tCons (tSl (rSlL K) (tVar 0) (tPart (tVar 1)) (tPart (tVar 3))) tNil))) { nx:=fun _ H'=>Q .non H',rt:=Q } [some (.ref l),some (.int (k:Nat)),some (.ref lf),some (.int ((k + 1 + i:Nat):Int))] H':=fun hx=>by
   have eS:segL xs k x.s=(xs.drop (k + 1)).take i:=tw_eq hd (by omega) hx
   refine ⟨_,rfl,_,rfl,_,rfl,_,rfl,_,rfl,_,rfl,l,_,rfl,SqL.of (s' _ _ hl),fun lw hlw=>?_⟩
   rw [cut_of _ (by omega) (by omega),show k + 1 + i - k=i + 1 by omega,← List.map_drop,← List.map_take]
   generalize hQ9:upd H' lw (.lst (((ps.drop k).take (i + 1)).map V.ref))=H2
   have s2:=Nw hQ9 hlw
   have e2:=Ns hQ9
   refine ⟨(by exact Z2),fun p hp=>?_⟩
   have s3:=Same.new (o:=.lst [.ref lf,.ref lw]) hp
   refine q p lf lw ((ps.drop k).take (i + 1)) _ ((s'.trans s2).trans s3) Ag (by rw [eS]; exact s3 _ _ (s2 _ _ ef)) (s3 _ _ e2) ?_
   rw [eS,← List.take_succ_cons,← hkx,← List.drop_eq_getElem_cons hkl]
   exact (hps.sub k (i + 1)).imp fun _ _ e=>e.same ((s'.trans s2).trans s3)
  refine ⟨_,rfl,_,rfl,_,_,rfl,.inl ⟨_,SqL.of (s' _ _ hl),rfl⟩,_,_,rfl,rfl,_,rfl,ite2 (fun h1=>?_) (fun h1=>?_)⟩
  ·have h1:=of_decide_eq_true h1
   rw [ln] at h1
   have h1:k + 1 + i < xs.length:=by omega
   obtain ⟨y,hy⟩:∃ y,xs[k + 1 + i]?=some y:=⟨_,List.getElem?_eq_getElem h1⟩
   have hy':(xs.drop (k + 1))[i]?=some y:=by rw [List.getElem?_drop]; exact hy
   obtain ⟨py,hpy,ly,yps,hpyl,_,_⟩:=hps.at' hy
   have aY:atI (ps.map V.ref) ((k + 1 + i:Nat):Int)=some (.ref py):=Az (by rw [List.getElem?_map,hpy]; rfl)
   refine ⟨_,rfl,_,rfl,l,_,_,V.ref py,rfl,rfl,SqL.of (s' _ _ hl),aY,py,_,_,V.int (y.s:Nat),rfl,rfl,SqL.of (s' _ _ hpyl),(Az (j:=0) rfl),_,rfl,_,rfl,l,_,_,V.ref pk,rfl,rfl,SqL.of (s' _ _ hl),aK,pk,_,_,V.int (x.s:Nat),rfl,rfl,SqL.of (s' _ _ hpkl),(Az (j:=0) rfl),_,_,rfl,rfl,_,rfl,ite2 (fun h2=>?_) (fun h2=>?_)⟩
   ·have h2:=of_decide_eq_true h2
    have h2:x.s < y.s:=by omega
    have et:(xs.drop (k + 1)).take (i + 1)=(xs.drop (k + 1)).take i ++ [y]:=A6 hy'
    have tl:((xs.drop (k + 1)).take i).length=i:=by rw [List.length_take]; omega
    have hb:=below_snoc x.s y (k + 1) ((xs.drop (k + 1)).take i)
    rw [tl] at hb
    refine ⟨fun σ' H''=>σ'=[some (.ref l),some (.int (k:Nat)),some (.ref lf),some (.int ((k + 1 + (i + 1):Nat):Int))]/\Same H H''/\H'' lf=some (.lst ((Ci x.s (k + 1) ((xs.drop (k + 1)).take (i + 1))).map fun n=>V.int (n:Nat))),fun σ' H'' ⟨a,b,c⟩=>⟨xs.length - (k + 1 + (i + 1)),by omega,i + 1,rfl,by omega,a,b,c,fun u hu=>?_⟩,?_⟩
    ·rw [et] at hu
     rcases List.mem_append.mp hu with hu | hu
     ·exact hd u hu
     ·rw [List.mem_singleton] at hu
      rw [hu]
      exact decide_eq_true h2
    refine ⟨_,rfl,_,rfl,l,_,_,V.ref py,rfl,rfl,SqL.of (s' _ _ hl),aY,py,_,_,V.int (y.s:Nat),rfl,rfl,SqL.of (s' _ _ hpyl),(Az (j:=0) rfl),_,rfl,_,rfl,l,_,_,V.ref pk,rfl,rfl,SqL.of (s' _ _ hl),aK,pk,_,_,V.int (x.s:Nat),rfl,rfl,SqL.of (s' _ _ hpkl),(Az (j:=0) rfl),_,_,rfl,rfl,rfl,_,rfl,ite2 (fun h3=>?_) (fun h3=>?_)⟩
    ·have h3:=V.int.inj (of_decide_eq_true h3)
     have h3:y.s=x.s + 1:=by omega
     have bl:=below_len x.s (k + 1) ((xs.drop (k + 1)).take i)
     refine ⟨_,rfl,.inl ⟨rfl,_,SqL.of ef⟩,_,rfl,lf,_,_,rfl,rfl,ef,(by rw [List.length_map]; omega),?_⟩
     refine ⟨_,rfl,_,_,rfl,rfl,rfl,fun b o e=>?_,?_⟩
     ·rw [Aj (Ah e hlf)]; exact s' _ _ e
     ·rw [Ag,et,hb,if_pos h3,List.map_append]; rfl
    ·have h3:¬ y.s=x.s + 1:=fun z=>h3 (decide_eq_true (by rw [z]; rfl))
     refine ⟨_,rfl,_,_,rfl,rfl,rfl,s',?_⟩
     rw [et,hb,if_neg h3,List.append_nil]
     exact ef
   ·refine done (.inr ⟨y,hy',decide_eq_false fun z=>h2 (decide_eq_true (by omega))⟩)
  ·have h1:¬ ((k + 1 + i:Nat):Int) < (((ps.map V.ref).length:Nat):Int):=fun y=>h1 (decide_eq_true y)
   rw [ln] at h1
   exact iteF (done (.inl (by omega)))
end
end K34
namespace K34
open PySem L2 PyProof.Rows PySem.SeqAt
def Bu (n:Str) (o:List (Str × Nat)) (es:List En):List Lr:=⟨0,"",n,o⟩ :: es.map En.lr
theorem rws_ge:∀ {f:Fo} {s:Nat} {e:En},e ∈ rws s f->s<=e.s/\e.s < s + f.ht
 | .nil,s,e,h=>by cases h
 | .cons j n o ks r,s,e,h=>by
   rw [rws] at h
   rw [Fo.ht]
   rcases List.mem_cons.mp h with rfl | h
   ·exact ⟨Nat.le_refl _,by dsimp only; omega⟩
   ·rcases List.mem_append.mp h with h | h
    ·obtain ⟨a,b⟩:=rws_ge h
     exact ⟨by omega,by omega⟩
    ·obtain ⟨a,b⟩:=rws_ge h
     exact ⟨a,by omega⟩
theorem rws_max:∀ {f:Fo} {s:Nat},0 < f.ht->∃ e ∈ rws s f,e.s + 1=s + f.ht
 | .nil,s,h=>absurd h (by rw [Fo.ht]; omega)
 | .cons j n o ks r,s,_=>by
   rw [Fo.ht,rws]
   by_cases h1:r.ht<=ks.ht + 1
   ·rw [Nat.max_eq_left h1]
    by_cases h2:0 < ks.ht
    ·obtain ⟨e,he,h⟩:=rws_max (f:=ks) (s:=s + 1) h2
     exact ⟨e,List.mem_cons_of_mem _ (List.mem_append_left _ he),by omega⟩
    ·exact ⟨_,List.mem_cons_self,by dsimp only; omega⟩
   ·rw [Nat.max_eq_right (by omega)]
    obtain ⟨e,he,h⟩:=rws_max (f:=r) (s:=s) (by omega)
    exact ⟨e,List.mem_cons_of_mem _ (List.mem_append_right _ he),h⟩
theorem rws_names:∀ (f:Fo) (s:Nat),(rws s f).map En.n=(walkF f).map fun y=>y.2.n
 | .nil,s=>rfl
 | .cons j n o ks r,s=>by
   rw [rws,walkF,List.map_cons,List.map_append,rws_names ks,rws_names r]
   simp only [List.map_cons,List.map_append,List.map_map,List.cons_append]
   rfl
theorem tw_rws {s:Nat} {f:Fo} {rest:List En} (c:Ch s rest):((rws (s + 1) f ++ rest).map En.lr).takeWhile (deepS s)=(rws (s + 1) f).map En.lr:=by
 rw [List.map_append]
 have h1:∀ {u:List Lr} (v:List Lr),(∀ y ∈ u,deepS s y=true)->(u ++ v).takeWhile (deepS s)=u ++ v.takeWhile (deepS s):=by
  intro u
  induction u with
  | nil=>intro v _; rfl
  | cons a u ih=>
    intro v h
    rw [List.cons_append,List.takeWhile_cons,if_pos (h a List.mem_cons_self),ih v fun y hy=>h y (List.mem_cons_of_mem _ hy)]
    rfl
 rw [h1 _ fun y hy=>by
  obtain ⟨e,he,rfl⟩:=List.mem_map.mp hy
  have:=(rws_ge he).1
  exact decide_eq_true (show s < e.s by omega)]
 cases rest with
 | nil=>exact List.append_nil _
 | cons e r=>
   rw [List.map_cons,List.takeWhile_cons,if_neg]
   ·exact List.append_nil _
   ·intro h
    have h:s < e.s:=of_decide_eq_true h
    have:=c.2.1
    omega
structure RowOf (n:Str) (o:List (Str × Nat)) (es:List En) (k:Nat) (x:Lr):Prop where
 seg:segL (Bu n o es) k x.s=(rws (x.s + 1) (Bs n o es k).ks).map En.lr
 nm_:x.n=(Bs n o es k).n
 of_:x.o=(Bs n o es k).o
theorem row_of {n:Str} {o:List (Str × Nat)} {es:List En} (c:Ch 1 es) {k:Nat} {x:Lr} (h:(Bu n o es)[k]?=some x):RowOf n o es k x:=by
 cases k with
 | zero=>
   simp only [Bu,List.getElem?_cons_zero,Option.some.injEq] at h
   subst h
   refine ⟨?_,rfl,rfl⟩
   show ((es.map En.lr).takeWhile (deepS 0))=(rws 1 (wait W0 es 1)).map En.lr
   have h1:=root_seg c
   have h2:=tw_rws (s:=0) (f:=wait W0 es 1) (rest:=[]) trivial
   rw [List.append_nil,← h1] at h2
   rw [h2,← h1]
 | succ i=>
   rw [Bu,List.getElem?_cons_succ,List.getElem?_map] at h
   obtain ⟨e,he,rfl⟩:=Option.map_eq_some_iff.mp h
   obtain ⟨cd,ok⟩:=c.drop he
   obtain ⟨rest,h1,c1⟩:=seg cd
   have en:Bs n o es (i + 1)=⟨e.n,e.o,kidsAt es i e.s⟩:=by rw [Bs,he]
   refine ⟨?_,by rw [en]; rfl,by rw [en]; rfl⟩
   rw [en]
   show ((es.map En.lr).drop (i + 1)).takeWhile (deepS e.s)=(rws (e.s + 1) (kidsAt es i e.s)).map En.lr
   have h2:=tw_rws (s:=e.s) (f:=kidsAt es i e.s) c1
   rw [← List.map_drop]
   rw [← h2]
   congr 2
theorem row_names {n:Str} {o:List (Str × Nat)} {es:List En} {k:Nat} {x:Lr} (r:RowOf n o es k x):(x :: segL (Bu n o es) k x.s).map Lr.n=names (Bs n o es k):=by
 rw [r.seg,List.map_cons,List.map_map,r.nm_]
 show _ :: (rws _ _).map En.n=_
 rw [rws_names]
 rfl
theorem row_len {n:Str} {o:List (Str × Nat)} {es:List En} {k:Nat} {x:Lr} (r:RowOf n o es k x):(x :: segL (Bu n o es) k x.s).length=(Bs n o es k).ks.size + 1:=by
 rw [r.seg,List.length_cons,List.length_map,rws_len]
theorem row_deep {n:Str} {o:List (Str × Nat)} {es:List En} {k:Nat} {x:Lr} (r:RowOf n o es k x) {m:Int} (h1:m ∈ (x :: segL (Bu n o es) k x.s).map fun y=>((y.s:Nat):Int)) (h2:∀ a ∈ (x :: segL (Bu n o es) k x.s).map fun y=>((y.s:Nat):Int),a<=m):m=((x.s + (Bs n o es k).ks.ht:Nat):Int):=by
 rw [r.seg] at h1 h2
 generalize (Bs n o es k).ks=f at h1 h2
 have le:m<=((x.s + f.ht:Nat):Int):=by
  obtain ⟨y,hy,rfl⟩:=List.mem_map.mp h1
  rcases List.mem_cons.mp hy with rfl | hy
  ·omega
  ·obtain ⟨e,he,rfl⟩:=List.mem_map.mp hy
   have:=(rws_ge he).2
   show ((e.s:Nat):Int)<=_
   omega
 by_cases h0:0 < f.ht
 ·obtain ⟨e,he,hm⟩:=rws_max (s:=x.s + 1) h0
  have:=h2 ((e.s:Nat):Int) (List.mem_map.mpr ⟨e.lr,List.mem_cons_of_mem _ (List.mem_map.mpr ⟨e,he,rfl⟩),rfl⟩)
  omega
 ·have:=h2 ((x.s:Nat):Int) (List.mem_map.mpr ⟨x,List.mem_cons_self,rfl⟩)
  omega
def kidsI:Nat->Fo->List Nat
 | _,.nil=>[]
 | b,.cons _ _ _ ks r=>b :: kidsI (b + 1 + ks.size) r
theorem below_app (s:Nat) (v:List Lr):∀ (b:Nat) (u:List Lr),Ci s b (u ++ v)=Ci s b u ++ Ci s (b + u.length) v
 | b,[]=>rfl
 | b,x :: u=>by
   rw [List.cons_append,Ci,below_app s v (b + 1) u,Ci,List.length_cons,show b + 1 + u.length=b + (u.length + 1) by omega]
   split <;> rfl
theorem below_deep (s:Nat):∀ (b:Nat) (u:List Lr),(∀ y ∈ u,s + 2<=y.s)->Ci s b u=[]
 | b,[],_=>rfl
 | b,x :: u,h=>by
   have:=h x List.mem_cons_self
   rw [Ci,if_neg (by omega)]
   exact below_deep s (b + 1) u fun y hy=>h y (List.mem_cons_of_mem _ hy)
theorem below_rws (s:Nat):∀ (f:Fo) (b:Nat),Ci s b ((rws (s + 1) f).map En.lr)=kidsI b f
 | .nil,b=>rfl
 | .cons j n o ks r,b=>by
   rw [rws,List.map_cons,Ci,if_pos (show (En.lr ⟨s + 1,j,n,o⟩).s=s + 1 from rfl),List.map_append,below_app,below_deep s (b + 1) ((rws (s + 1 + 1) ks).map En.lr) (fun y hy=>by
    obtain ⟨e,he,rfl⟩:=List.mem_map.mp hy
    exact (rws_ge he).1),List.nil_append,List.length_map,rws_len,below_rws s r,kidsI]
def KidOk (n:Str) (o:List (Str × Nat)) (es:List En) (p:Nat) (x:Nat × Nd):Prop:=∃ i e,p=i + 1/\es[i]?=some e/\e.j=x.1/\Bs n o es (i + 1)=x.2
theorem Ch.right:∀ {m:Nat} {u v:List En},Ch m (u ++ v)->Ch (nxt m u) v
 | m,[],v,h=>h
 | m,e :: u,v,h=>Ch.right (u:=u) h.2.2
theorem Ch.head {m s:Nat}:∀ {es:List En},Ch m es->(∀ e,es.head?=some e->e.s<=s)->Ch s es
 | [],_,_=>trivial
 | e :: es,c,h=>⟨c.1,h e rfl,c.2.2⟩
theorem kids_ok {n:Str} {o:List (Str × Nat)} {es:List En}:∀ (f:Fo) {s i m:Nat} {rest:List En},1<=s->es.drop i=rws s f ++ rest->Ch m (es.drop i)->Ch (s - 1) rest->A2 (KidOk n o es) (kidsI (i + 1) f) f.items
 | .nil,s,i,m,rest,_,_,_,_=>A2.nil
 | .cons j nn oo ks r,s,i,m,rest,hs,hd,c,cr=>by
   rw [rws,List.cons_append,List.append_assoc] at hd
   have hi:i < es.length:=by
    have:=congrArg List.length hd
    rw [List.length_drop,List.length_cons] at this
    omega
   rw [List.drop_eq_getElem_cons hi] at hd
   simp only [List.cons.injEq] at hd
   obtain ⟨he,hd⟩:=hd
   have hge:es[i]?=some ⟨s,j,nn,oo⟩:=by rw [List.getElem?_eq_getElem hi,he]
   rw [List.drop_eq_getElem_cons hi,hd] at c
   have c2:=Ch.right c.2.2
   have cA:Ch s (rws s r ++ rest):=c2.head fun e he=>by
    cases r with
    | nil=>
      cases rest with
      | nil=>cases he
      | cons e' rest=>
        simp only [rws,List.nil_append,List.head?_cons,Option.some.injEq] at he
        subst he
        have:=cr.2.1
        omega
    | cons j' n' o' ks' r'=>
      simp only [rws,List.cons_append,List.head?_cons,Option.some.injEq] at he
      subst he
      exact Nat.le_refl _
   have hk:kidsAt es i s=ks:=by
    unfold kidsAt
    rw [hd,wait_app,wait_rws ks (s + 1) (wait W0 (rws s r ++ rest)) (fun t ht=>wait_hi cA t (by omega))]
    show (if s + 1=s + 1 then ks.app (wait W0 (rws s r ++ rest) (s + 1)) else _)=ks
    rw [if_pos rfl,wait_hi cA (s + 1) (by omega),app_nil]
   have hdr:es.drop (i + 1 + ks.size)=rws s r ++ rest:=by
    rw [← List.drop_drop,hd]
    exact List.drop_left' (rws_len _ _)
   rw [kidsI,Fo.items]
   refine A2.cons ⟨i,_,rfl,hge,rfl,?_⟩ ?_
   ·rw [Bs,hge]
    show (⟨nn,oo,kidsAt es i s⟩:Nd)=⟨nn,oo,ks⟩
    rw [hk]
   ·have:=kids_ok (n:=n) (o:=o) (es:=es) r (s:=s) (i:=i + 1 + ks.size) (m:=s) (rest:=rest) hs hdr (by rw [hdr]; exact cA) cr
    rw [show i + 1 + 1 + ks.size=i + 1 + ks.size + 1 by omega]
    exact this
theorem row_kids {n:Str} {o:List (Str × Nat)} {es:List En} (c:Ch 1 es) {k:Nat} {x:Lr} (h:(Bu n o es)[k]?=some x):A2 (KidOk n o es) (Ci x.s (k + 1) (segL (Bu n o es) k x.s)) (Bs n o es k).ks.items:=by
 rw [(row_of c h).seg,below_rws]
 cases k with
 | zero=>
   have h1:=root_seg c
   exact kids_ok (wait W0 es 1) (s:=1) (i:=0) (m:=1) (rest:=[]) (Nat.le_refl _) (by rw [List.append_nil]; exact h1) c trivial
 | succ i=>
   rw [Bu,List.getElem?_cons_succ,List.getElem?_map] at h
   obtain ⟨e,he,rfl⟩:=Option.map_eq_some_iff.mp h
   obtain ⟨cd,ok⟩:=c.drop he
   obtain ⟨rest,h1,c1⟩:=seg cd
   rw [show Bs n o es (i + 1)=⟨e.n,e.o,kidsAt es i e.s⟩ by rw [Bs,he]]
   exact kids_ok (kidsAt es i e.s) (s:=e.s + 1) (i:=i + 1) (by omega) h1 cd c1
end K34
namespace K34
open PySem L2 PyProof.Rows PySem.SeqAt
def U.tag:U->Str
 | .tx _=>"text"
 | .of _=>"offers"
 | .mn _=>"many"
 | .db _=>"doubled"
 | .dp _=>"deep"
def UV (H:Hp):U->V->Prop
 | .tx n,v=>v=.int (n:Nat)
 | .of k,v=>∃ l p1 p2,v=.ref l/\H l=some (.lst [.ref p1,.ref p2])/\KeyR H p1 k/\KeyR H p2 k
 | .mn n,v=>v=.int (n:Nat)
 | .db z,v=>v=.str z
 | .dp n,v=>v=.int (n:Nat)
theorem key_eqv (a b:Str × Nat):PyData.eqv (keyD a) (keyD b)=decide (a=b):=by
 rw [Bool.eq_iff_iff]
 obtain ⟨a1,a2⟩:=a
 obtain ⟨b1,b2⟩:=b
 simp [keyD,PyData.eqv,PyData.eqvAll]
 intro _
 constructor <;> intro h <;> omega
theorem key_shaped {k:Str × Nat} (h:Ak k.1=true/\k.2 < 100):shaped (keyD k)=true:=by
 unfold shaped
 rw [Bool.and_eq_true]
 have w:=word_ok h.1
 refine ⟨by simp [keyD,PyData.canLay0,PyData.canLayAll0,w],?_⟩
 simp [keyD,PyData.depth,PyData.depthAll]
theorem key_rd {K:PySem.W.Frag} {H:Hp} {p:Addr} {k:Str × Nat} (h:KeyR H p k):RdD K H (.ref p) (keyD k):=.tup (SqT.of h) (.cons (.str _) (.cons (.int _) .nil))
theorem cut_upto (zs:List Str) {k:Nat} (h:k<=zs.length):cutV (zs.map V.str) none (some (k:Int))=(zs.take k).map V.str:=by
 unfold cutV
 rw [HT.sIx_nat,HT.sIx_none,Nat.min_eq_left (by rw [List.length_map]; exact h),List.drop_zero,Nat.sub_zero,List.map_take]
theorem dup_step {ns:List Str} {k:Nat} {z:Str} (h:ns[k]?=some z):dupG (ns.take k) (ns.drop k)=if z ∈ ns.take k then some z else dupG (ns.take (k + 1)) (ns.drop (k + 1)):=by
 obtain ⟨h1,h2⟩:=List.getElem?_eq_some_iff.mp h
 rw [List.drop_eq_getElem_cons h1,dupG,h2,← A6 h]
section
variable {P:Program} {w:World} {K:PySem.W.Frag} {mg:Str->Option Value} {base:Heap}
def spWr:Sp:=fun vs H Q _=>∃ (l:Addr) (n:Str) (o:List (Str × Nat)) (es:List En) (k:Nat) (x:Lr),vs=[.ref l,.int (k:Nat)]/\LRs H l (Bu n o es)/\Ch 1 es/\OkO o/\(Bu n o es)[k]?=some x/\es.length<=99/\
 (Bt (Bs n o es k)=none->∀ H',Same H H'->Q .non H')/\∀ u,Bt (Bs n o es k)=some u->∀ (p:Addr) (v:V) (H':Hp),Same H H'->H' p=some (.tup [.str u.tag,v])->UV H' u v->Q (.ref p) H'
theorem row_oko {n:Str} {o:List (Str × Nat)} {es:List En} (c:Ch 1 es) (ho:OkO o) {k:Nat} {x:Lr} (h:(Bu n o es)[k]?=some x):OkO x.o:=by
 cases k with
 | zero=>
   simp only [Bu,List.getElem?_cons_zero,Option.some.injEq] at h
   subst h
   exact ho
 | succ i=>
   rw [Bu,List.getElem?_cons_succ,List.getElem?_map] at h
   obtain ⟨e,he,rfl⟩:=Option.map_eq_some_iff.mp h
   exact (c.drop he).2.o
abbrev C9:Stmt:=top 75
theorem Ce:Ao ["_law_rows_here","_law_at","_law_keys","_law_below","_law_whole","_law_names","_law_k","_law_deep"] ["_law_rows_here","_law_at"] (Af C9):=by trivial
theorem ok_wr (T:Txt mg) (F__law_beneath:FnAt P w K mg base "_law_beneath" 1 ["_law_rows_here","_law_at"] spBn) (F:Al K mg "_law_wrong" C9 ["_law_rows_here","_law_at"]):FnAt P w K mg base "_law_wrong" 2 ["_law_rows_here","_law_at"] spWr:=by
 refine F.at Ce (fun vs H Q E h=>?_) (fun f cdv A outer s H vs Q E hr h=>?_)
 ·obtain ⟨l,n,o,es,k,x,rfl,_⟩:=h
  rfl
 ·obtain ⟨l,n,o,es,k,x,rfl,hR,c,ho,hk,few,q0,q1⟩:=h
  refine ⟨_,(Ac (As (i:=2) Ce.nd rfl (by trivial) (A0 An (A0 An (pv 0) (pv 1) (fun _ _=>rfl)) Ae (fun _ _=>rfl)))
   (Ac (ps_mid (A5 (PW.pt (pw_and (Av El (Ai Aq rfl T.n_len boot_len (Aa (pv 2) Ab)) Ae (A1 _)) (pw_and1 (Av (op_eqD (hu64 hr)) (A0 An (pv 2) Ae (fun _ _=>rfl)) (A0 An (pv 2) Ae (fun _ _=>rfl)) (A1 _))))) (Ad (Ap (Bj (Aa Au (Aa (pv 2) Ab))))) Am))
   (Ac (ps_asg (Ay F__law_beneath hr (by decide) rfl (Aa (pv 0) (Aa (pv 1) Ab))) (pg_lstK (n:=2) K rfl (Be (Aw (i:=3) Ce.nd rfl (by trivial)) (Be (Aw (i:=4) Ce.nd rfl (by trivial)) D0))))
   (Ac (A5 (Av Eu (Ai Aq rfl T.n_len boot_len (Aa (pv 3) Ab)) Ae (A1 _)) (Ad (Ap (Bj (Aa Au (Aa (Ai Aq rfl T.n_len boot_len (Aa (pv 3) Ab)) Ab))))) Am)
   (Ac (ps_setComp (i:=5) (sc:=Af C9) (N0:=["_law_rows_here","_law_at","_law_keys","_law_below","_law_whole","_law_names","_law_k","_law_deep"]) (xs:=["_law_row_here"]) (ys:=[]) (js:=[]) (by trivial) rfl Ce.nd rfl rfl (Bn (pv 4)) (fun _ _ _ _=>(Aw (i:=0) (show (["_law_row_here"]:List Str).Nodup by decide +kernel) rfl (by trivial))) (fun _ _ _ _=>B9) (fun _ _ _ _=>(A0 (ix_listK K rfl) (pv 0) Ae (fun _ _=>rfl))))
   (Ac (C6 PassesOwn.never rfl (C0 rfl T.n_range (Aa (Ai Aq rfl T.n_len boot_len (Aa (pv 5) Ab)) Ab)) (Aw (i:=6) Ce.nd rfl (by trivial)) (Ad (A5 (Av Et (A0 An (pv 5) (pv 6) (fun _ _=>rfl)) (Ba Cc (pv 5) Bp (Bk (pv 6))) (by with_unfolding_all rfl)) (Ad (Ap (Bj (Aa Au (Aa (A0 An (pv 5) (pv 6) (fun _ _=>rfl)) Ab))))) Am)))
   (Ac (A5 (Av Eu (Ai Aq rfl T.n_len boot_len (Aa (pv 5) Ab)) Ae (A1 _)) (Ad (Ap (Bj (Aa Au (Aa (Ai Aq rfl T.n_len boot_len (Aa (pv 5) Ab)) Ab))))) Am)
   (Ac (As (i:=7) Ce.nd rfl (by trivial) (A3 op_sub (A3 B4 Ae (Ai (call_maxL rfl) rfl T.n_max boot_max (Aa (Bz (sc:=Af C9) (N0:=["_law_rows_here","_law_at","_law_keys","_law_below","_law_whole","_law_names","_law_k","_law_deep"]) (xs:=["_law_row_here"]) (ys:=[]) (js:=[]) (by trivial) rfl (Bn (pv 4)) (fun _ _ _ _=>(Aw (i:=0) (show (["_law_row_here"]:List Str).Nodup by decide +kernel) rfl (by trivial))) (fun _ _ _ _=>B9) (fun _ _ _ _=>(A0 (ix_listK K rfl) (pv 0) Ae (fun _ _=>rfl)))) Ab))) (A0 An (A0 An (pv 0) (pv 1) (fun _ _=>rfl)) Ae (fun _ _=>rfl))))
   (Ac (A5 (Av Eu (pv 7) Ae (A1 _)) (Ad (Ap (Bj (Aa Au (Aa (pv 7) Ab))))) Am)
   (Ad (Ap pe_non))))))))))),?_⟩
  have hs:sizeLine=16777216:=sizeLine_eq
  have rO:=row_of c hk
  have xo:=row_oko c ho hk
  have hR0:=hR
  obtain ⟨ps,hl,hps⟩:=hR
  obtain ⟨pk,hpk,lk,kps,hpkl,hlk,hkp⟩:=hps.at' hk
  have aK:atI (ps.map V.ref) (k:Int)=some (.ref pk):=Az (by rw [List.getElem?_map,hpk]; rfl)
  have xl:(Bu n o es).length<=200:=by show (es.map En.lr).length + 1<=200; rw [List.length_map]; omega
  generalize hd:Bs n o es k=d at rO q0 q1
  have on:x.o=d.o:=by have:=rO.of_; rw [hd] at this; exact this
  refine ⟨_,rfl,_,rfl,l,_,_,V.ref pk,rfl,rfl,SqL.of hl,aK,pk,_,_,V.ref lk,rfl,rfl,SqL.of hpkl,(Az (j:=3) rfl),?_⟩
  refine ⟨fun σ' H'=>σ'=[some (.ref l),some (.int (k:Nat)),some (.ref lk),none,none,none,none,none]/\H'=H/\Bt d=Ea d,?_,?_⟩
  ·have kl:kps.length=x.o.length:=hkp.1
   refine ⟨_,rfl,_,_,rfl,.inl ⟨_,SqL.of hlk,rfl⟩,rfl,_,rfl,ite2 (fun h1=>?_) (fun h1=>?_)⟩
   ·have h1:=V.int.inj (of_decide_eq_true h1)
    rw [List.length_map] at h1
    obtain ⟨a,b,hab⟩:∃ a b,x.o=[a,b]:=by
     match e:x.o with
     | []=>rw [e,List.length_nil] at kl; omega
     | [_]=>rw [e,List.length_cons,List.length_nil] at kl; omega
     | [a,b]=>exact ⟨a,b,rfl⟩
     | _ :: _ :: _ :: _=>rw [e,List.length_cons,List.length_cons,List.length_cons] at kl; omega
    obtain ⟨p1,p2,rfl⟩:∃ p1 p2,kps=[p1,p2]:=by
     match kps,h1 with
     | [p1,p2],_=>exact ⟨p1,p2,rfl⟩
     | [],h1=>exact absurd h1 (by decide)
     | [_],h1=>simp at h1
     | _ :: _ :: _ :: _,h1=>simp at h1; omega
    rw [hab] at hkp xo
    obtain ⟨k1,hkp⟩:=hkp.inv
    obtain ⟨k2,_⟩:=hkp.inv
    refine ⟨_,rfl,lk,_,_,V.ref p1,rfl,rfl,SqL.of hlk,(Az (j:=0) rfl),_,rfl,lk,_,_,V.ref p2,rfl,rfl,SqL.of hlk,(Az (j:=1) rfl),keyD a,keyD b,key_rd k1,key_rd k2,key_shaped (xo.ok a (by simp)),key_shaped (xo.ok b (by simp)),_,rfl,?_⟩
    show if PyData.eqv (keyD a) (keyD b)=true then _ else _
    rw [key_eqv]
    have dO:d.o=[a,b]:=by rw [← on,hab]
    refine ite2 (fun h2=>?_) (fun h2=>?_)
    ·have h2:=of_decide_eq_true h2
     subst h2
     refine ⟨_,rfl,(by exact Z2),fun p hp=>?_⟩
     have s1:=Same.new (o:=.tup [.str "offers",.ref lk]) hp
     refine q1 (.of a) ?_ p (.ref lk) _ s1 Ag ⟨lk,p1,p2,rfl,s1 _ _ hlk,s1 _ _ k1,s1 _ _ k2⟩
     unfold Bt
     rw [dO]
     exact if_pos rfl
    ·refine ⟨rfl,rfl,?_⟩
     unfold Bt
     rw [dO]
     exact if_neg fun z=>h2 (decide_eq_true z)
   ·refine iteF ⟨rfl,rfl,?_⟩
    rw [List.length_map,kl,on] at h1
    unfold Bt
    match e:d.o with
    | []=>rfl
    | [_]=>rfl
    | [a,b]=>exact absurd (decide_eq_true (by rw [e]; rfl)) h1
    | _ :: _ :: _ :: _=>rfl
  ·rintro σ' H' ⟨rfl,rfl,hw⟩
   rw [hw] at q0 q1
   have fin:∀ (u:U) (v:V) (H2:Hp),Same H' H2->Ea d=some u->(∀ H3,Same H2 H3->UV H3 u v)->∀ p,H2 p=none->Q (.ref p) (upd H2 p (.tup [.str u.tag,v])):=fun u v H2 s2 hu hv p hp=>q1 u hu p v _ (s2.trans (Same.new hp)) Ag (hv _ (Same.new hp))
   have rows_n:=row_names rO
   have rows_l:=row_len rO
   refine ⟨_,rfl,_,rfl,l,Bu n o es,k,x,rfl,hR0,hk,xl,fun p lf lw qs H1 s1 hp hlf hlw hqs=>?_⟩
   have kids:=row_kids c hk
   have deep:=@row_deep n o es k x rO
   rw [hd] at rows_n rows_l kids deep
   generalize hbl:Ci x.s (k + 1) (segL (Bu n o es) k x.s)=bl at hlf kids
   generalize hsg:x :: segL (Bu n o es) k x.s=sg at hqs rows_n rows_l deep
   have bll:bl.length=d.ks.items.length:=kids.1
   have sgl:sg.length<=200:=by
    rw [← hsg,List.length_cons]
    have:(segL (Bu n o es) k x.s).length<=((Bu n o es).drop (k + 1)).length:=by
     unfold segL
     exact (List.takeWhile_sublist _).length_le
    rw [List.length_drop] at this
    have:=(List.getElem?_eq_some_iff.mp hk).1
    omega
   have isz:=items_le d.ks
   refine ⟨p,_,rfl,SqL.of hp,rfl,_,_,rfl,_,_,rfl,rfl,?_⟩
   have lb:((bl.map fun n=>V.int (n:Nat)).length:Nat)=d.ks.items.length:=by rw [List.length_map,bll]
   refine ⟨_,rfl,_,_,rfl,.inl ⟨_,SqL.of hlf,rfl⟩,_,_,rfl,rfl,_,rfl,ite2 (fun h1=>?_) (fun h1=>?_)⟩
   ·have h1:=of_decide_eq_true h1
    rw [lb] at h1
    refine ⟨_,rfl,_,_,rfl,.inl ⟨_,SqL.of hlf,rfl⟩,(by exact Z2),fun p2 hp2=>?_⟩
    rw [lb]
    refine fin (.mn d.ks.items.length) _ _ s1 ?_ (fun _ _=>rfl) p2 hp2
    unfold Ea
    rw [if_pos (by omega)]
   have h1:¬ (((bl.map fun n=>V.int (n:Nat)).length:Nat):Int) > 6:=fun y=>h1 (decide_eq_true y)
   rw [lb] at h1
   have wB:Ea d=match dupG [] (names d) with
    | some z=>some (.db z)
    | none=>if 30 < d.ks.size + 1 then some (.mn (d.ks.size + 1)) else if 6 < d.ks.ht + 1 then some (.dp (d.ks.ht + 1)) else none:=by
    unfold Ea
    rw [if_neg (by omega)]
    all_goals (cases dupG [] (names d) <;> rfl)
   have ql:(qs.map V.ref).length=sg.length:=by rw [List.length_map,hqs.1]
   have row_at:∀ {H2:Hp} {i:Nat} {v:V},Same H1 H2->(qs.map V.ref)[i]?=some v->∃ (y:Lr) (py ly:Addr),sg[i]?=some y/\v=.ref py/\H2 py=some (.lst [.int (y.s:Nat),.str y.j,.str y.n,.ref ly]):=by
    intro H2 i v s2 hv
    rw [List.getElem?_map] at hv
    obtain ⟨py,hpy,rfl⟩:=Option.map_eq_some_iff.mp hv
    obtain ⟨y,hy,ly,_,h,_⟩:=hqs.at hpy
    exact ⟨y,py,ly,hy,rfl,s2 _ _ h⟩
   refine ⟨_,rfl,lw,rfl,⟨_,SqL.of hlw⟩,Br (K:=K) (a:=lw) (xs:=qs.map V.ref) (fun i ys H2=>ys=((sg.take i).map Lr.n).map V.str/\H2=H1) ⟨rfl,rfl⟩ (by omega) ?_ ?_ ?_ ?_⟩
   ·rintro i ys H2 ⟨rfl,_⟩
    rw [List.length_map,List.length_map,List.length_take]
    omega
   ·rintro i ys H2 _ ⟨_,rfl⟩
    exact SqL.of hlw
   ·rintro i v ys H2 hv ⟨rfl,rfl⟩
    obtain ⟨y,py,ly,hy,rfl,hpy⟩:=row_at (Same.refl _) hv
    refine ⟨_,rfl,py,_,_,V.str y.n,rfl,rfl,SqL.of hpy,(Az (j:=2) rfl),?_,rfl⟩
    rw [A6 hy,List.map_append,List.map_append]
    rfl
   rintro ys H2 ⟨rfl,rfl⟩ ln hln
   rw [ql,List.take_length,rows_n]
   have nl:(names d).length=d.ks.size + 1:=by rw [← rows_n,List.length_map,rows_l]
   generalize hQ9:upd H2 ln (.lst ((names d).map V.str))=H3
   have s2:=Nw hQ9 hln
   have e2:=Ns hQ9
   have S3:=s1.trans s2
   have nlm:(((names d).map V.str).length:Nat)=d.ks.size + 1:=by rw [List.length_map,nl]
   refine ⟨_,rfl,_,_,rfl,.inl ⟨_,SqL.of e2,rfl⟩,_,rfl,?_,?_,D5 (n:=_) (fun i σ H4=>∃ v6:Option V,σ=[some (.ref l),some (.int (k:Nat)),some (.ref lk),some (.ref lf),some (.ref lw),some (.ref ln),v6,none]/\Same H3 H4/\dupG [] (names d)=dupG ((names d).take i) ((names d).drop i)) ⟨_,rfl,Same.refl _,rfl⟩ ?_ ?_⟩
   ·rw [nlm]; omega
   ·rw [nlm]; omega
   ·rintro i σ H4 hi ⟨v6,rfl,s4,hdp⟩
    rw [nlm] at hi
    have hi:i < (names d).length:=by omega
    obtain ⟨z,hz⟩:∃ z,(names d)[i]?=some z:=⟨_,List.getElem?_eq_getElem hi⟩
    have az:atI ((names d).map V.str) (0 + (i:Int))=some (.str z):=by
     rw [Int.zero_add]
     exact Az (by rw [List.getElem?_map,hz]; rfl)
    refine ⟨_,rfl,_,rfl,ln,_,_,V.str z,rfl,rfl,SqL.of (s4 _ _ e2),az,_,rfl,_,rfl,_,rfl,ln,_,rfl,SqL.of (s4 _ _ e2),fun cc hcc=>?_⟩
    rw [Int.zero_add,cut_upto _ (by omega)]
    generalize hQ9:upd H4 cc (.lst (((names d).take i).map V.str))=H5
    have s5:=Nw hQ9 hcc
    have e5:=Ns hQ9
    have ds:=dup_step hz
    refine ⟨cc,_,rfl,.inl (SqL.of e5),rfl,flat_strs _,_,rfl,?_⟩
    show if inV (.str z) (((names d).take i).map V.str)=true then _ else _
    rw [inV_str]
    refine ite2 (fun h2=>?_) (fun h2=>?_)
    ·have h2:=of_decide_eq_true h2
     rw [if_pos h2] at ds
     refine ⟨_,rfl,_,rfl,ln,_,_,V.str z,rfl,rfl,SqL.of (s5 _ _ (s4 _ _ e2)),(by rw [← Int.zero_add (i:Int)]; exact az),(by exact Z2),fun p2 hp2=>?_⟩
     exact fin (.db z) _ _ ((S3.trans s4).trans s5) (by rw [wB,hdp,ds]) (fun _ _=>rfl) p2 hp2
    ·have h2:¬ z ∈ (names d).take i:=fun y=>h2 (decide_eq_true y)
     rw [if_neg h2] at ds
     exact ⟨_,rfl,s4.trans s5,hdp.trans ds⟩
   rintro σ H4 ⟨v6,rfl,s4,hdp⟩
   have S4:=S3.trans s4
   rw [nlm] at hdp
   have hnd:dupG [] (names d)=none:=by
    rw [hdp,List.drop_of_length_le (by rw [nl]; omega)]
    rfl
   rw [hnd] at wB
   have e4:=s4 _ _ e2
   refine ⟨_,rfl,_,_,rfl,.inl ⟨_,SqL.of e4,rfl⟩,_,_,rfl,rfl,_,rfl,ite2 (fun h2=>?_) (fun h2=>?_)⟩
   ·have h2:=of_decide_eq_true h2
    rw [nlm] at h2
    refine ⟨_,rfl,_,_,rfl,.inl ⟨_,SqL.of e4,rfl⟩,(by exact Z2),fun p2 hp2=>?_⟩
    rw [nlm]
    refine fin (.mn (d.ks.size + 1)) _ _ S4 ?_ (fun _ _=>rfl) p2 hp2
    rw [wB]
    exact if_pos (by omega)
   have h2:¬ ((((names d).map V.str).length:Nat):Int) > 30:=fun y=>h2 (decide_eq_true y)
   rw [nlm] at h2
   have wB:Ea d=if 6 < d.ks.ht + 1 then some (.dp (d.ks.ht + 1)) else none:=by
    rw [wB]
    exact if_neg (by omega)
   have S14:=s2.trans s4
   refine ⟨_,rfl,lw,rfl,⟨_,SqL.of (S14 _ _ hlw)⟩,Br (K:=K) (a:=lw) (xs:=qs.map V.ref) (fun i ys H5=>ys=((sg.take i).map fun y=>((y.s:Nat):Int)).map V.int/\H5=H4) ⟨rfl,rfl⟩ (by omega) ?_ ?_ ?_ ?_⟩
   ·rintro i ys H5 ⟨rfl,_⟩
    rw [List.length_map,List.length_map,List.length_take]
    omega
   ·rintro i ys H5 _ ⟨_,rfl⟩
    exact SqL.of (S14 _ _ hlw)
   ·rintro i v ys H5 hv ⟨rfl,rfl⟩
    obtain ⟨y,py,ly,hy,rfl,hpy⟩:=row_at S14 hv
    refine ⟨_,rfl,py,_,_,V.int (y.s:Nat),rfl,rfl,SqL.of hpy,(Az (j:=0) rfl),?_,rfl⟩
    rw [A6 hy,List.map_append,List.map_append]
    rfl
   rintro ys H5 ⟨rfl,rfl⟩ lm hlm
   rw [ql,List.take_length]
   generalize hQ9:upd H5 lm (.lst ((sg.map fun y=>((y.s:Nat):Int)).map V.int))=H6
   have s5:=Nw hQ9 hlm
   have e5:=Ns hQ9
   have S6:=S4.trans s5
   refine ⟨lm,_,rfl,SqL.of e5,(by rw [List.length_map,rows_l]; omega),fun m hm1 hm2=>?_⟩
   have em:=deep hm1 hm2
   subst em
   refine ⟨_,_,rfl,rfl,_,rfl,_,rfl,l,_,_,V.ref pk,rfl,rfl,SqL.of (S6 _ _ hl),aK,pk,_,_,V.int (x.s:Nat),rfl,rfl,SqL.of (S6 _ _ hpkl),(Az (j:=0) rfl),_,_,rfl,rfl,?_⟩
   have ev:(1:Int) + ((x.s + d.ks.ht:Nat):Int) - ((x.s:Nat):Int)=((d.ks.ht + 1:Nat):Int):=by omega
   have evv:(V.int ((1:Int) + ((x.s + d.ks.ht:Nat):Int) - ((x.s:Nat):Int)))=V.int ((d.ks.ht + 1:Nat):Int):=by rw [ev]
   show gName 7 (V.int ((1:Int) + ((x.s + d.ks.ht:Nat):Int) - ((x.s:Nat):Int))) _ _ _
   rw [evv]
   refine ⟨_,rfl,_,_,rfl,rfl,_,rfl,ite2 (fun h3=>?_) (fun h3=>?_)⟩
   ·have h3:=of_decide_eq_true h3
    refine ⟨_,rfl,(by exact Z2),fun p2 hp2=>?_⟩
    refine fin (.dp (d.ks.ht + 1)) _ _ S6 ?_ (fun _ _=>rfl) p2 hp2
    rw [wB]
    exact if_pos (by omega)
   ·have h3:¬ ((d.ks.ht + 1:Nat):Int) > 6:=fun y=>h3 (decide_eq_true y)
    refine q0 ?_ _ S6
    rw [wB]
    exact if_neg (by omega)
end
end K34
namespace K34
open PySem L2 PyProof.Rows PySem.SeqAt
section
variable {P:Program} {w:World} {K:PySem.W.Frag} {mg:Str->Option Value} {base:Heap}
theorem fn_none' {x:Str} {st:Stmt} {ps:List Str} {sp:Sp} {j:Nat} (F:Al K mg x st ps) (h:∀ vs H Q E,¬ sp vs H Q E):FnAt P w K mg base x j ps sp:=by
 obtain ⟨f,fd,F,hm,hb⟩:=F.ex
 exact ⟨f,fd,⟨fun vs H Q E z=>absurd z (h vs H Q E),fun A outer s H args us vs Q E _ _ _ _ z=>absurd z (h vs H Q E)⟩,hm,F.kp,.all hb⟩
def spNs (m:Nat):Sp:=fun vs H Q _=>∃ (l:Addr) (n:Str) (o:List (Str × Nat)) (es:List En) (k:Nat) (x:Lr),vs=[.ref l,.int (k:Nat)]/\LRs H l (Bu n o es)/\Ch 1 es/\(Bu n o es)[k]?=some x/\es.length<=99/\(Bs n o es k).ks.ht < m/\
 ∀ (p:Addr) (H':Hp),Same H H'->RdT H' (.ref p) (toldD (Bs n o es k))->Q (.ref p) H'
abbrev Di:Stmt:=top 76
theorem sc_law_nested:Ao ["_law_rows_here","_law_at","_law_below"] ["_law_rows_here","_law_at"] (Af Di):=by trivial
theorem ok_ns (T:Txt mg) (F__law_beneath:FnAt P w K mg base "_law_beneath" 1 ["_law_rows_here","_law_at"] spBn) (F:Al K mg "_law_nested" Di ["_law_rows_here","_law_at"]):∀ m,FnAt P w K mg base "_law_nested" (m + 1) ["_law_rows_here","_law_at"] (spNs m)
 | 0=>fn_none' F fun vs H Q E ⟨l,n,o,es,k,x,_,_,_,_,_,h,_⟩=>by omega
 | m + 1=>by
   have F_n:=ok_ns T F__law_beneath F m
   refine F.at sc_law_nested (fun vs H Q E h=>?_) (fun f cdv A outer s H vs Q E hr h=>?_)
   ·obtain ⟨l,n,o,es,k,x,rfl,_⟩:=h
    rfl
   ·obtain ⟨l,n,o,es,k,x,rfl,hR,c,hk,few,hht,q⟩:=h
    refine ⟨_,(Ac (As (i:=2) sc_law_nested.nd rfl (by trivial) (A0 An (Ay F__law_beneath hr (by omega) rfl (Aa (pv 0) (Aa (pv 1) Ab))) Ae (fun _ _=>rfl)))
     (Ad (Ap (Bj (Aa (A0 An (A0 An (pv 0) (pv 1) (fun _ _=>rfl)) Ae (fun _ _=>rfl)) (Aa (Bm Bx rfl T.n_tuple boot_tuple (Aa (A0 An (A0 An (pv 0) (pv 1) (fun _ _=>rfl)) Ae (fun _ _=>rfl)) Ab)) (Aa (Bm Bx rfl T.n_tuple boot_tuple (Aa (Bz (sc:=Af Di) (N0:=["_law_rows_here","_law_at","_law_below"]) (xs:=["_law_k"]) (ys:=["_law_rows_here"]) (js:=[0]) (by trivial) rfl (Bn (pv 2)) (fun _ _ _ _=>(Aw (i:=0) (show (["_law_k","_law_rows_here"]:List Str).Nodup by decide +kernel) rfl (by trivial))) (fun _ _ _ _=>B9) (fun _ _ _ _=>(Bj (Aa (A0 (ix_listK K rfl) (A0 (ix_listK K rfl) (pv 1) (pv 0) (fun _ _=>rfl)) Ae (fun _ _=>rfl)) (Aa (Ay F_n hr (Nat.le_refl _) rfl (Aa (pv 1) (Aa (pv 0) Ab))) Ab))))) Ab)) Ab))))))),?_⟩
    have hs:sizeLine=16777216:=sizeLine_eq
    have rO:=row_of c hk
    have hR0:=hR
    obtain ⟨ps,hl,hps⟩:=hR
    obtain ⟨pk,hpk,lk,kps,hpkl,hlk,hkp⟩:=hps.at' hk
    have aK:atI (ps.map V.ref) (k:Int)=some (.ref pk):=Az (by rw [List.getElem?_map,hpk]; rfl)
    have xl:(Bu n o es).length<=200:=by show (es.map En.lr).length + 1<=200; rw [List.length_map]; omega
    have kids:=row_kids c hk
    generalize hd:Bs n o es k=d at rO q hht kids
    have on:x.o=d.o:=by have:=rO.of_; rw [hd] at this; exact this
    have nn:x.n=d.n:=by have:=rO.nm_; rw [hd] at this; exact this
    refine ⟨_,rfl,_,rfl,l,Bu n o es,k,x,rfl,hR0,hk,xl,fun p lf lw qs H1 s1 hp hlf hlw hqs=>?_⟩
    have bl1:=below_len x.s (k + 1) (segL (Bu n o es) k x.s)
    have bl2:(segL (Bu n o es) k x.s).length<=200:=by
     have h1:(segL (Bu n o es) k x.s).length<=((Bu n o es).drop (k + 1)).length:=by
      unfold segL
      exact (List.takeWhile_sublist _).length_le
     rw [List.length_drop] at h1
     omega
    generalize Ci x.s (k + 1) (segL (Bu n o es) k x.s)=bl at hlf kids bl1
    refine ⟨p,_,_,V.ref lf,rfl,rfl,SqL.of hp,(Az (j:=0) rfl),?_⟩
    refine ⟨_,rfl,_,rfl,l,_,_,V.ref pk,rfl,rfl,SqL.of (s1 _ _ hl),aK,pk,_,_,V.str x.n,rfl,rfl,SqL.of (s1 _ _ hpkl),(Az (j:=2) rfl),?_⟩
    refine ⟨_,rfl,_,rfl,l,_,_,V.ref pk,rfl,rfl,SqL.of (s1 _ _ hl),aK,pk,_,_,V.ref lk,rfl,rfl,SqL.of (s1 _ _ hpkl),(Az (j:=3) rfl),?_⟩
    refine ⟨lk,_,rfl,.inl ⟨SqL.of (s1 _ _ hlk),fun to hto=>?_⟩⟩
    generalize hQ9:upd H1 to (.tup (kps.map V.ref))=H2
    have s2:=Nw hQ9 hto
    have e2:=Ns hQ9
    have S2:=s1.trans s2
    refine ⟨_,rfl,lf,rfl,⟨_,SqL.of (s2 _ _ hlf)⟩,Br (K:=K) (a:=lf) (xs:=bl.map fun n=>V.int (n:Nat)) (fun i ys H'=>Same H2 H'/\ys.length=i/\RdTs H' ys ((d.ks.items.take i).map fun x=>.tuple [.str (nm x.1),toldD x.2])) ⟨Same.refl _,rfl,.nil⟩ (by rw [List.length_map]; omega) ?_ ?_ ?_ ?_⟩
    ·rintro i ys H' ⟨_,h,_⟩
     omega
    ·rintro i ys H' _ ⟨s',_⟩
     exact SqL.of (s' _ _ (s2 _ _ hlf))
    ·rintro i v ys H' hv ⟨s',hy,hr'⟩
     rw [List.getElem?_map] at hv
     obtain ⟨b,hb,rfl⟩:=Option.map_eq_some_iff.mp hv
     obtain ⟨y,hyi,i2,e,rfl,he,ej,en⟩:=kids.at hb
     have hxb:(Bu n o es)[i2 + 1]?=some e.lr:=by rw [Bu,List.getElem?_cons_succ,List.getElem?_map,he]; rfl
     obtain ⟨pb,hpb,lb2,_,hpbl,_,_⟩:=hps.at' hxb
     have aB:atI (ps.map V.ref) ((i2 + 1:Nat):Int)=some (.ref pb):=Az (by rw [List.getElem?_map,hpb]; rfl)
     have S':=S2.trans s'
     have hm:=items_ht (List.mem_of_getElem? hyi)
     refine ⟨_,rfl,_,rfl,l,_,_,V.ref pb,rfl,rfl,SqL.of (S' _ _ hl),aB,pb,_,_,V.str (nm e.j),rfl,rfl,SqL.of (S' _ _ hpbl),(Az (j:=1) rfl),?_⟩
     refine ⟨_,rfl,_,rfl,l,n,o,es,i2 + 1,e.lr,rfl,hR0.same S',c,hxb,few,by rw [en]; omega,fun t H3 s3 ht=>?_⟩
     refine ⟨(by exact Z2),fun t2 ht2=>?_⟩
     have s4:=s3.trans (Same.new (o:=.tup [.str (nm e.j),.ref t]) ht2)
     refine ⟨s'.trans s4,by rw [List.length_append,hy]; rfl,?_⟩
     rw [A6 hyi,List.map_append]
     rw [en] at ht
     refine rt_snoc (hr'.t (.of s4)) ?_
     show RdT _ _ (.tuple [.str (nm y.1),toldD y.2])
     rw [← ej]
     exact .tup Ag (.cons (.str _) (.cons (ht.t (.of (Same.new ht2))) .nil))
    ·rintro ys H' ⟨s',hy,hr'⟩ l2 hl2
     rw [List.length_map,kids.1,List.take_length,← toldF_items] at hr'
     have s3:=Same.new (o:=.lst ys) hl2
     have e3:upd H' l2 (.lst ys) l2=some (.lst ys):=Ag
     have r3:=hr'.t (.of s3)
     generalize upd H' l2 (.lst ys)=H3 at s3 e3 r3 ⊢
     refine ⟨l2,_,rfl,.inl ⟨SqL.of e3,fun tp htp=>?_⟩⟩
     have s4:=Same.new (o:=.tup ys) htp
     have e4:upd H3 tp (.tup ys) tp=some (.tup ys):=Ag
     have r4:=r3.t (.of s4)
     generalize upd H3 tp (.tup ys)=H4 at s4 e4 r4 ⊢
     have s24:=(s'.trans s3).trans s4
     refine ⟨(by exact Z3),fun t5 ht5=>?_⟩
     have s5:=Same.new (o:=.tup [.str x.n,.ref to,.ref tp]) ht5
     have S5:=S2.trans (s24.trans s5)
     refine q t5 _ S5 ?_
     unfold toldD
     rw [← nn,← on]
     exact .tup Ag (.cons (.str _) (.cons (.tup (s5 _ _ (s24 _ _ e2)) (rt_keys (hkp.imp fun _ _ e=>S5 _ _ e))) (.cons (.tup (s5 _ _ e4) (r4.t (.of s5))) .nil)))
end
end K34
namespace K34
open PySem L2 PyProof.Rows PySem.SeqAt
def LAX (lr:Addr) (H:Hp) (p:Addr) (x:Lr):Prop:=∃ (lk:Addr) (ps:List Addr),p≠lr/\lk≠lr/\H p=some (.lst [.int (x.s:Nat),.str x.j,.str x.n,.ref lk])/\H lk=some (.lst (ps.map V.ref))/\A2 (KeyR H) ps x.o
theorem LAX.same {lr:Addr} {H H':Hp} {p:Addr} {x:Lr} (h:LAX lr H p x) (s:Same H H'):LAX lr H' p x:=by
 obtain ⟨lk,ps,n1,n2,h1,h2,h3⟩:=h
 exact ⟨lk,ps,n1,n2,s _ _ h1,s _ _ h2,h3.imp fun _ _ e=>s _ _ e⟩
theorem LAX.upd {lr:Addr} {H:Hp} {p:Addr} {x:Lr} {xs:List V} {ob:HO} (h:LAX lr H p x) (hl:H lr=some (.lst xs)):LAX lr (upd H lr ob) p x:=by
 obtain ⟨lk,ps,n1,n2,h1,h2,h3⟩:=h
 exact ⟨lk,ps,n1,n2,by rw [Aj n1]; exact h1,by rw [Aj n2]; exact h2,h3.imp fun _ _ e=>(TpIn.upd hl).tup e⟩
theorem LAX.at {lr:Addr} {H:Hp} {p:Addr} {x:Lr} (h:LAX lr H p x):LAt H p x:=by
 obtain ⟨lk,ps,n1,n2,h1,h2,h3⟩:=h
 exact ⟨lk,ps,h1,h2,h3⟩
inductive Ez (rows:List (List Str)):Nat->Nat->List Lr->Prop
 | nil:Ez rows 0 0 []
 | cons {w0:List Str} {r:List (List Str)} {n:Str} {o:List (Str × Nat)} {es:List En}:rows=w0 :: r->Cu w0=some (n,o)->es.length<=r.length->r.take es.length=es.map En.w->Ch 1 es->Ez rows (es.length + 1) (nxt 1 es - 1) (Bu n o es)
theorem nxt_pos:∀ {m:Nat} {es:List En},1<=m->1<=nxt m es
 | m,[],h=>h
 | m,e :: es,_=>nxt_pos (m:=e.s + 1) (es:=es) (by omega)
theorem Ez.bad {rows:List (List Str)} {i ah:Nat} {xs:List Lr} {ws:List Str} (h:Ez rows i ah xs) (hi:rows[i]?=some ws) (hb:lrP i (ah + 1) ws=none):readR rows=.no (.tx i):=by
 cases h with
 | nil=>
   cases rows with
   | nil=>cases hi
   | cons w0 r=>
     simp only [List.getElem?_cons_zero,Option.some.injEq] at hi
     subst hi
     refine Dz (formsR_0 ?_)
     cases e:Cu w0 with
     | none=>rfl
     | some p=>unfold lrP at hb; rw [if_pos rfl,e] at hb; cases hb
 | @cons w0 r n o es e1 e2 e3 e4 e5=>
   subst e1
   rw [List.getElem?_cons_succ] at hi
   refine Dz ?_
   have np:=nxt_pos (m:=1) (es:=es) (Nat.le_refl _)
   have hb2:rowP (nxt 1 es) ws=none:=by
    unfold lrP at hb
    rw [if_neg (by omega),show nxt 1 es - 1 + 1=nxt 1 es by omega] at hb
    cases e:rowP (nxt 1 es) ws with
    | none=>rfl
    | some p=>rw [e] at hb; cases hb
   have ed:r=es.map En.w ++ ws :: r.drop (es.length + 1):=by
    obtain ⟨h1,h2⟩:=List.getElem?_eq_some_iff.mp hi
    rw [← e4,← h2,← List.drop_eq_getElem_cons h1,List.take_append_drop]
   have hR:=Dx (ws :: r.drop (es.length + 1)) e5
   rw [← ed,Dy,hb2] at hR
   rw [formsR_l e2 hR,Nat.zero_add]
theorem Ez.next {rows:List (List Str)} {i ah:Nat} {xs:List Lr} {ws:List Str} {x:Lr} (h:Ez rows i ah xs) (hi:rows[i]?=some ws) (hb:lrP i (ah + 1) ws=some x):Ez rows (i + 1) x.s (xs ++ [x]):=by
 cases h with
 | nil=>
   cases rows with
   | nil=>cases hi
   | cons w0 r=>
     simp only [List.getElem?_cons_zero,Option.some.injEq] at hi
     subst hi
     unfold lrP at hb
     rw [if_pos rfl] at hb
     obtain ⟨⟨n,o⟩,hp,rfl⟩:=Option.map_eq_some_iff.mp hb
     exact .cons (es:=[]) rfl hp (Nat.zero_le _) rfl trivial
 | @cons w0 r n o es e1 e2 e3 e4 e5=>
   subst e1
   rw [List.getElem?_cons_succ] at hi
   have np:=nxt_pos (m:=1) (es:=es) (Nat.le_refl _)
   unfold lrP at hb
   rw [if_neg (by omega),show nxt 1 es - 1 + 1=nxt 1 es by omega] at hb
   obtain ⟨e,he,rfl⟩:=Option.map_eq_some_iff.mp hb
   obtain ⟨g1,g2,g3⟩:=rowP_some he
   have h1:=(List.getElem?_eq_some_iff.mp hi).1
   have:=Ez.cons (rows:=w0 :: r) (es:=es ++ [e]) rfl e2 (by rw [List.length_append]; exact h1) (by rw [List.length_append,List.length_singleton,A6 hi,e4,List.map_append,g1]; rfl) (e5.snoc g2 g3)
   rw [List.length_append,nxt_snoc] at this
   have eL:Bu n o es ++ [e.lr]=Bu n o (es ++ [e]):=by unfold Bu; rw [List.map_append]; rfl
   rw [eL]
   exact this
theorem Ez.ah_le {rows:List (List Str)} {i ah:Nat} {xs:List Lr} (h:Ez rows i ah xs):ah<=i/\xs.length=i:=by
 cases h with
 | nil=>exact ⟨Nat.le_refl _,rfl⟩
 | cons e1 e2 e3 e4 e5=>
   have:=nxt_le e5
   refine ⟨by omega,?_⟩
   unfold Bu
   rw [List.length_cons,List.length_map]
theorem Ez.all {rows:List (List Str)} {i ah:Nat} {xs:List Lr} (h:Ez rows i ah xs) (hi:i=rows.length) (hne:rows≠[]):∃ n o es,xs=Bu n o es/\Ch 1 es/\OkO o/\i=es.length + 1/\readR rows=match A8 n o es (es.length + 1) with
 | some u=>.no u
 | none=>.work (Bs n o es 0):=by
 cases h with
 | nil=>exact absurd (List.length_eq_zero_iff.mp hi.symm) hne
 | @cons w0 r n o es e1 e2 e3 e4 e5=>
   subst e1
   rw [List.length_cons] at hi
   rw [List.take_of_length_le (by omega)] at e4
   have hR:=Dx [] e5
   rw [List.append_nil,← e4] at hR
   have hR:Dy 1 r=.inr es:=by rw [hR]; show Sum.inr (es ++ [])=_; rw [List.append_nil]
   obtain ⟨_,_,g3⟩:=partP_some e2
   refine ⟨n,o,es,rfl,e5,g3,rfl,?_⟩
   rw [readR_cons,e2]
   dsimp only
   rw [hR]
   all_goals dsimp only
   all_goals (cases A8 n o es (es.length + 1) <;> rfl)
theorem firstBad_none {n:Str} {o:List (Str × Nat)} {es:List En}:∀ {k i:Nat},A8 n o es k=none->i < k->Bt (Bs n o es i)=none
 | 0,i,_,h=>by omega
 | k + 1,i,hf,h=>by
   rw [A8] at hf
   cases e:Bt (Bs n o es k) with
   | some u=>rw [e] at hf; cases hf
   | none=>
     rw [e] at hf
     by_cases hi:i=k
     ·rw [hi]; exact e
     ·exact firstBad_none (k:=k) hf (by omega)
section
variable {P:Program} {w:World} {K:PySem.W.Frag} {mg:Str->Option Value} {base:Heap}
def spRd:Sp:=fun vs H Q _=>∃ z:Str,vs=[.str z]/\TxOk z/\(∀ u,readR (Co z)=.no u->∀ (p:Addr) (v:V) (H':Hp),Same H H'->H' p=some (.tup [.str u.tag,v])->UV H' u v->Q (.ref p) H')/\
 ∀ d,readR (Co z)=.work d->∀ (p t:Addr) (H':Hp),Same H H'->H' p=some (.tup [.str "work",.ref t])->RdT H' (.ref t) (toldD d)->Q (.ref p) H'
abbrev s_law_read:Stmt:=top 77
theorem B5:Ao ["_law_text","_law_rows_here","_law_ahead","_law_line","_law_row_here","_law_found","_law_k","_law_wrong_here"] ["_law_text"] (Af s_law_read):=by trivial
theorem ok_rd (T:Txt mg) (F__law_row:FnAt P w K mg base "_law_row" 3 ["_law_row_here","_law_line","_law_ahead"] spLR) (F__law_wrong:FnAt P w K mg base "_law_wrong" 2 ["_law_rows_here","_law_at"] spWr) (F__law_nested:FnAt P w K mg base "_law_nested" 7 ["_law_rows_here","_law_at"] (spNs 6)) (F:Al K mg "_law_read" s_law_read ["_law_text"]):FnAt P w K mg base "_law_read" 8 ["_law_text"] spRd:=by
 refine F.at B5 (fun vs H Q E h=>?_) (fun f cdv A outer s H vs Q E hr h=>?_)
 ·obtain ⟨z,rfl,_⟩:=h
  rfl
 ·obtain ⟨z,rfl,ok,q0,q1⟩:=h
  refine ⟨_,(Ac (As (i:=1) B5.nd rfl (by trivial) (Bf Ab))
   (Ac (As (i:=2) B5.nd rfl (by trivial) Ae)
   (Ac (C6 PassesOwn.never rfl (pi_enum rfl T.n_enumerate (Aa (C5 PySem.F.plainAttrs_str PySem.F.slot_str_split PySem.F.type_str_split mt_split (pv 0) (Aa Au Ab)) Ab)) (pg_tup rfl (Be (Aw (i:=3) B5.nd rfl (by trivial)) (Be (Aw (i:=4) B5.nd rfl (by trivial)) D0))) (Ac (As (i:=5) B5.nd rfl (by trivial) (Ay F__law_row hr (by decide) rfl (Aa (pv 4) (Aa (pv 3) (Aa (pv 2) Ab)))))
   (Ac (A5 (pt_cmp (pc_isN (pv 5))) (Ad (Ap (Bj (Aa Au (Aa (pv 3) Ab))))) Am)
   (Ac (Bb (C5 PySem.F.plainAttrs_list PySem.F.slot_list_append PySem.F.type_list_append Cg (pv 1) (Aa (pv 5) Ab)))
   (Ad (As (i:=2) B5.nd rfl (by trivial) (A0 An (pv 5) Ae (fun _ _=>rfl))))))))
   (Ac (C6 PassesOwn.never rfl (C0 rfl T.n_range (Aa (Ai Aq rfl T.n_len boot_len (Aa (pv 1) Ab)) Ab)) (Aw (i:=6) B5.nd rfl (by trivial)) (Ac (As (i:=7) B5.nd rfl (by trivial) (Ay F__law_wrong hr (by decide) rfl (Aa (pv 1) (Aa (A3 op_sub (A3 op_sub (Ai Aq rfl T.n_len boot_len (Aa (pv 1) Ab)) Ae) (pv 6)) Ab))))
   (Ad (A5 (pt_cmp (pc_notN (pv 7))) (Ad (Ap (pv 7))) Am))))
   (Ad (Ap (Bj (Aa Au (Aa (Ay F__law_nested hr (by decide) rfl (Aa (pv 1) (Aa Ae Ab))) Ab))))))))),?_⟩
  have hs:sizeLine=16777216:=sizeLine_eq
  have zl:=ok.len
  have few:=ok.few
  have short:=ok.short
  refine ⟨(by exact Z0),fun lr hlr=>?_⟩
  generalize hQ9:upd H lr (.lst [])=H0
  have s0:=Nw hQ9 hlr
  have e0:=Ns hQ9
  refine ⟨_,rfl,rfl,z,"\n",rfl,rfl,(by decide +kernel),(by omega),fun lt hlt=>?_⟩
  have rO:Co z=(Txt.split z "\n").map fun r=>Txt.split r " ":=rfl
  have pos:=split_pos z "\n"
  generalize Txt.split z "\n"=L at few short rO pos ⊢
  generalize hQ9:upd H0 lt (.lst (L.map V.str))=H1
  have s1:=Nw hQ9 hlt
  have e1:=Ns hQ9
  have nlt:lt≠lr:=fun e=>by rw [e,e0] at hlt; cases hlt
  have rl:(Co z).length=L.length:=by rw [rO,List.length_map]
  refine ⟨lt,rfl,⟨_,SqL.of e1⟩,for_enum (K:=K) (a:=lt) (xs:=L.map V.str) (fun i σ H'=>∃ (v3 v4 v5:Option V) (ah:Nat) (xs:List Lr) (ps:List Addr),σ=[some (.str z),some (.ref lr),some (.int (ah:Nat)),v3,v4,v5,none,none]/\Same H H'/\H' lt=some (.lst (L.map V.str))/\H' lr=some (.lst (ps.map V.ref))/\A2 (LAX lr H') ps xs/\Ez (Co z) i ah xs) ⟨_,_,_,0,[],[],rfl,s0.trans s1,e1,s1 _ _ e0,A2.nil,.nil⟩ (fun i σ H' _ ⟨_,_,_,_,_,_,_,_,e,_⟩=>SqL.of e) ?_ ?_⟩
  ·rintro i v pe σ H' hv ⟨v3,v4,v5,ah,xs,ps,rfl,s',elt,elr,hps,hF⟩ hpe
   rw [List.getElem?_map] at hv
   obtain ⟨r,hr1,rfl⟩:=Option.map_eq_some_iff.mp hv
   have hw:(Co z)[i]?=some (Txt.split r " "):=by rw [rO,List.getElem?_map,hr1]; rfl
   have hi:=(List.getElem?_eq_some_iff.mp hr1).1
   obtain ⟨ah1,xl⟩:=hF.ah_le
   have npe:pe≠lr:=fun e=>by rw [e,elr] at hpe; cases hpe
   generalize hQ9:upd H' pe (.tup [.int i,.str r])=H2
   have s2:=Nw hQ9 hpe
   have e2:=Ns hQ9
   refine ⟨pe,_,rfl,SqT.of e2,rfl,_,_,rfl,_,_,rfl,rfl,?_⟩
   refine ⟨_,rfl,_,rfl,_,rfl,r,i,ah,rfl,short r (List.mem_of_getElem? hr1),by omega,fun hn H3 s3=>?_,fun x hx p lk kps H3 s3 np nk hp hk hks=>?_⟩
   ·refine ⟨_,rfl,_,rfl,iteT ⟨_,rfl,(by exact Z2),fun p hp=>?_⟩⟩
    exact q0 (.tx i) (hF.bad hw hn) p _ _ (((s'.trans s2).trans s3).trans (Same.new hp)) Ag rfl
   ·have elr3:=s3 _ _ (s2 _ _ elr)
    have n1:p≠lr:=fun e=>by rw [e,s2 _ _ elr] at np; cases np
    have n2:lk≠lr:=fun e=>by rw [e,s2 _ _ elr] at nk; cases nk
    refine ⟨_,rfl,_,rfl,iteF ⟨_,rfl,.inl ⟨rfl,_,SqL.of elr3⟩,_,rfl,lr,_,_,rfl,rfl,elr3,(by rw [List.length_map,hps.1]; omega),?_⟩⟩
    have hu:Same H (upd H3 lr (.lst (ps.map V.ref ++ [.ref p]))):=fun b o e=>by
     rw [Aj (Ah e hlr)]
     exact s3 _ _ (s2 _ _ (s' _ _ e))
    have xp:LAX lr (upd H3 lr (.lst (ps.map V.ref ++ [.ref p]))) p x:=LAX.upd ⟨lk,kps,n1,n2,hp,hk,hks⟩ elr3
    have ols:A2 (LAX lr (upd H3 lr (.lst (ps.map V.ref ++ [.ref p])))) ps xs:=hps.imp fun _ _ e=>((e.same s2).same s3).upd elr3
    have elt':upd H3 lr (.lst (ps.map V.ref ++ [.ref p])) lt=some (.lst (L.map V.str)):=by rw [Aj nlt]; exact s3 _ _ (s2 _ _ elt)
    have elr':upd H3 lr (.lst (ps.map V.ref ++ [.ref p])) lr=some (.lst ((ps ++ [p]).map V.ref)):=by rw [Ag,List.map_append]; rfl
    generalize upd H3 lr (.lst (ps.map V.ref ++ [.ref p]))=H4 at hu xp ols elt' elr' ⊢
    obtain ⟨_,_,_,_,hp4,_,_⟩:=id xp
    refine ⟨_,rfl,p,_,_,V.int (x.s:Nat),rfl,rfl,SqL.of hp4,(Az (j:=0) rfl),?_⟩
    exact ⟨_,_,_,x.s,xs ++ [x],ps ++ [p],rfl,hu,elt',elr',ols.app (A2.one xp),hF.next hw hx⟩
  ·rintro σ H' ⟨v3,v4,v5,ah,xs,ps,rfl,s',elt,elr,hps,hF⟩
   have hll:(L.map V.str).length=(Co z).length:=by rw [List.length_map,rl]
   obtain ⟨n,o,es,rfl,hc,ho,hi,hrd⟩:=hF.all hll (fun e=>by rw [e] at rl; simp at rl; omega)
   have esl:es.length + 1=L.length:=by rw [← hi,List.length_map]
   have pl:ps.length=es.length + 1:=by rw [hps.1]; show (es.map En.lr).length + 1=_; rw [List.length_map]
   have hR:LRs H' lr (Bu n o es):=⟨ps,elr,hps.imp fun _ _ e=>e.at⟩
   have lnm:(((ps.map V.ref).length:Nat):Int)=((es.length + 1:Nat):Int):=by rw [List.length_map,pl]
   refine ⟨_,rfl,_,_,rfl,.inl ⟨_,SqL.of elr,rfl⟩,_,rfl,?_,?_,D5 (n:=_) (fun i σ H2=>∃ (v6 v7:Option V),σ=[some (.str z),some (.ref lr),some (.int (ah:Nat)),v3,v4,v5,v6,v7]/\Same H' H2/\A8 n o es (es.length + 1)=A8 n o es (es.length + 1 - i)) ⟨_,_,rfl,Same.refl _,rfl⟩ ?_ ?_⟩
   ·rw [lnm]; omega
   ·rw [lnm]; omega
   ·rintro i σ H2 hi2 ⟨v6,v7,rfl,s2,hfb⟩
    rw [lnm] at hi2
    have hi2:i < es.length + 1:=by omega
    have ev:(((ps.map V.ref).length:Nat):Int) - 1 - (0 + (i:Int))=((es.length - i:Nat):Int):=by rw [lnm]; omega
    obtain ⟨x,hx⟩:∃ x,(Bu n o es)[es.length - i]?=some x:=⟨_,List.getElem?_eq_getElem (by show _ < (es.map En.lr).length + 1; rw [List.length_map]; omega)⟩
    have hst:A8 n o es (es.length + 1 - i)=match Bt (Bs n o es (es.length - i)) with
          | some u=>some u
          | none=>A8 n o es (es.length - i):=by
     rw [show es.length + 1 - i=(es.length - i) + 1 by omega,A8]
     all_goals (cases Bt (Bs n o es (es.length - i)) <;> rfl)
    refine ⟨_,rfl,_,rfl,_,_,rfl,.inl ⟨_,SqL.of (s2 _ _ elr),rfl⟩,_,_,rfl,rfl,_,rfl,_,_,rfl,rfl,lr,n,o,es,es.length - i,x,?_,hR.same s2,hc,ho,hx,by omega,fun hn H3 s3=>?_,fun u hu p v H3 s3 hp hv=>?_⟩
    ·show [V.ref lr,V.int ((((ps.map V.ref).length:Nat):Int) - 1 - (0 + (i:Int)))]=_
     rw [ev]
    ·rw [hn] at hst
     exact ⟨_,rfl,_,rfl,iteF ⟨_,_,rfl,s2.trans s3,by rw [hfb,hst,show es.length + 1 - (i + 1)=es.length - i by omega]⟩⟩
    ·rw [hu] at hst
     refine ⟨_,rfl,_,rfl,iteT ⟨_,rfl,?_⟩⟩
     exact q0 u (by rw [hrd,hfb,hst]) p v H3 ((s'.trans s2).trans s3) hp hv
   ·rintro σ H2 ⟨v6,v7,rfl,s2,hfb⟩
    rw [lnm,show es.length + 1 - ((es.length + 1:Nat):Int).toNat=0 by omega] at hfb
    have hfb:A8 n o es (es.length + 1)=none:=hfb
    rw [hfb] at hrd
    obtain ⟨x,hx⟩:∃ x,(Bu n o es)[0]?=some x:=⟨_,rfl⟩
    have w0:Bt (Bs n o es 0)=none:=firstBad_none hfb (by omega)
    have hbd:Bd (Bs n o es 0):=by
     rcases C7 (d:=Bs n o es 0) ho with ⟨_,_,y⟩ | ⟨_,y⟩
     ·rw [w0] at y; cases y
     ·exact (wrongB_none (y.symm.trans w0)).2
    have:=hbd.h
    refine ⟨_,rfl,lr,n,o,es,0,x,rfl,hR.same s2,hc,hx,by omega,by omega,fun t H3 s3 ht=>?_⟩
    refine ⟨(by exact Z2),fun p hp=>?_⟩
    exact q1 _ hrd p t _ (((s'.trans s2).trans s3).trans (Same.new hp)) Ag (ht.t (.of (Same.new hp)))
end
end K34
namespace L2
open PySem PySem.Spec PyProof.Rows
def tTryE (K:PySem.W.Frag) (ths:List (Nat × Addr × TS)) (tb:(St->Addr->Hp->Prop)->TS) (te:TS):TS:=fun Dn σ H=>
 tb (fun σ' a H'=>∃ C d,H' a=some (excR a C d)/\tHs K Dn σ' a C H' ths) { Dn with nx:=te Dn } σ H
section
variable {X:Cx}
theorem ps_tryE {body:List Stmt} {o₀:Stmt} {os:List Stmt} {te:TS} {h₀:ExceptHandler} {hs:List ExceptHandler} {ths:List (Nat × Addr × TS)} {pos:Pos} {tb:(St->Addr->Hp->Prop)->TS} (hsk:X.stack=X.env :: X.outer) (hfe:X.env.frame=some X.env.locals)
 (hb:∀ RX pn E',Catches (X.tr pn E') RX->PSs (X.tr pn E') body (tb RX)) (hh:PHs X (h₀ :: hs) ths) (ho:PSs X (o₀ :: os) te):PS X (.Try body (h₀ :: hs) (o₀ :: os) [] pos) (tTryE X.K ths tb te):=by
 intro pins s σ H Dn I h
 refine wpAny_Try_except ?_
 refine wpAny_mono (hb _ (X.pn ++ pins) (fun e s₁=>wpAny (model X.prog X.w) X.A (noteFrame e X.env) (fun _ s₂=>wpAny (model X.prog X.w) X.A (setFlight e none) (fun _ s₃=>wpAny (model X.prog X.w) X.A (handleBy e X.env (h₀ :: hs)) (SP X pins Dn) X.xe s₃) X.xe s₂) X.xe s₁) ?_ [] s σ H { Dn with nx:=te Dn } I.tr h) (fun f s1 hf=>?_) fun _ _ z=>z
 ·intro pins' σ1 H1 s1 e s' I1 hc
  have J1:Inv X pins σ1 H1 s1:=I1.untr I.ok
  obtain ⟨a,_,rfl,_⟩:=id hc
  refine caught J1 hsk hfe I.ok.frames hc fun s3 H3 C d I3 raw hE=>?_
  obtain ⟨a',ea,C',d',hC',hth⟩:=hE
  cases ea
  have raw':=raw
  obtain ⟨t,T,rest,sl,oT,ts,ha,q,_⟩:=raw'
  have eC:C'=C:=by
   have z1:=excR_is (P:=X.prog) (w:=X.w) (I3.hok a _ hC')
   obtain ⟨_,_,_,z⟩:=z1
   rw [q] at z
   cases z
   rfl
  subst eC
  exact hh pins s3 σ1 H3 a _ d Dn I3 raw hth
 ·cases f with
  | next=>
    obtain ⟨σ2,H2,I6,q6⟩:=hf
    exact ho pins s1 σ2 H2 Dn (I6.untr I.ok) q6
  | brk=>
    obtain ⟨σ2,H2,I6,q6⟩:=hf
    exact ⟨σ2,H2,I6.untr I.ok,q6⟩
  | cont=>
    obtain ⟨σ2,H2,I6,q6⟩:=hf
    exact ⟨σ2,H2,I6.untr I.ok,q6⟩
  | ret u=>
    obtain ⟨v,σ2,H2,I6,rv,q6⟩:=hf
    exact ⟨v,σ2,H2,I6.untr I.ok,rv,q6⟩
end
theorem call_list_ofK {X:Cx} (K:PySem.W.Frag) (hK:X.K=K:=by rfl):CallR X (.type "list") (fun xs H Q=>∃ p ys,xs=[.ref p]/\(SqL K H p ys\/SqT K H p ys)/\∀ l,H l=none->Q (.ref l) (upd H l (.lst ys))):=by
 subst hK
 exact call_list_of
end L2
namespace K34
open PySem L2 PyProof.Rows PySem.SeqAt
theorem mro_B {K:PySem.W.Frag} {C G:Addr} (a:MroX K C G):PySem.W.mroIn K C (.type "BaseException")=some true:=by
 obtain ⟨cd,e1,e2⟩:=a.cd
 unfold PySem.W.mroIn
 rw [e1,Option.bind_some,e2]
 simp [bmVE]
theorem mro_X {K:PySem.W.Frag} {C D G:Addr} (a:MroX K C G) (hg:D≠G):PySem.W.mroIn K C (.ref D)=some (decide (C=D)):=by
 obtain ⟨cd,e1,e2⟩:=a.cd
 unfold PySem.W.mroIn
 rw [e1,Option.bind_some,e2]
 by_cases h:C=D
 ·subst h
  simp
 ·simp [bmVE,Ne.symm hg,h,Ne.symm h,hg]
def spTold (K:PySem.W.Frag) (C:Addr):Sp:=fun vs H Q _=>∃ v:V,vs=[v]/\((∃ z,v=.str z/\TxOk z/\(∀ u,readR (Co z)=.no u->∀ (p:Addr) (v:V) (H':Hp),Same H H'->H' p=some (.tup [.str u.tag,v])->UV H' u v->Q (.ref p) H')/\
 ∀ d,readR (Co z)=.work d->∀ (p a:Addr) (H':Hp),Same H H'->H' p=some (.tup [.str "work",.ref a])->PAt C H' a d->Q (.ref p) H')\/
 ∃ kd,KdOf K H v kd/\kd.isA .str=false/\∀ (p:Addr) (H':Hp),Same H H'->H' p=some (.tup [.str "text",.int 0])->Q (.ref p) H')
section
variable {P:Program} {w:World} {K:PySem.W.Frag} {mg:Str->Option Value} {base:Heap} {C:Addr} {c:Cs}
abbrev s_law_told:Stmt:=top 78
theorem Bc:Ao ["_law_text","_law_told_here","_law_work","e"] ["_law_text"] (Af s_law_told):=by trivial
theorem ok_told (T:Txt mg) (X:Has P w K mg base c) (F_read_work:D9 P w K mg base "read_work" 16 ["text"] (spRW C c K)) (F:Al K mg "_law_told" s_law_told ["_law_text"]):FnAt P w K mg base "_law_told" 17 ["_law_text"] (spTold K C):=by
 refine F.at Bc (fun vs H Q E h=>?_) (fun f cdv A outer s H vs Q E hr h=>?_)
 ·obtain ⟨v,rfl,_⟩:=h
  rfl
 ·obtain ⟨v,rfl,h⟩:=h
  refine ⟨_,(Ac (As (i:=1) Bc.nd rfl (by trivial) pe_non)
   (Ac (ps_tryE rfl rfl
     (fun RX pn E' hc=>Ad (As (i:=2) Bc.nd rfl (by trivial) (pe_fnT F_read_work hc hr (by decide) rfl (Aa (pv 0) Ab))))
     (phs_cons (i:=3) (D:=c.t) Bc.nd rfl rfl rfl X.xt.df.mg X.mt.ty X.xt.df.ok.cls (mro_B X.mt) (fun a=>Ad (As (i:=1) Bc.nd rfl (by trivial) (Bj (Aa Au (Aa (pe_xfldK K (pv 3)) Ab))))) (phs_cons (i:=3) (D:=c.o) Bc.nd rfl rfl rfl X.xo.df.mg X.mo.ty X.xo.df.ok.cls (mro_B X.mo) (fun a=>Ad (As (i:=1) Bc.nd rfl (by trivial) (Bj (Aa Au (Aa (Bm (call_list_ofK K) rfl T.n_list boot_list (Aa (pe_xfldK K (pv 3)) Ab)) Ab))))) (phs_cons (i:=3) (D:=c.d) Bc.nd rfl rfl rfl X.xd.df.mg X.md.ty X.xd.df.ok.cls (mro_B X.md) (fun a=>Ad (As (i:=1) Bc.nd rfl (by trivial) (Bj (Aa Au (Aa (pe_xfldK K (pv 3)) Ab))))) (phs_cons (i:=3) (D:=c.m) Bc.nd rfl rfl rfl X.xm.df.mg X.mm.ty X.xm.df.ok.cls (mro_B X.mm) (fun a=>Ad (As (i:=1) Bc.nd rfl (by trivial) (Bj (Aa Au (Aa (pe_xfldK K (pv 3)) Ab))))) (phs_cons (i:=3) (D:=c.e) Bc.nd rfl rfl rfl X.xe.df.mg X.me.ty X.xe.df.ok.cls (mro_B X.me) (fun a=>Ad (As (i:=1) Bc.nd rfl (by trivial) (Bj (Aa Au (Aa (pe_xfldK K (pv 3)) Ab))))) phs_nil)))))
     (Ad (As (i:=1) Bc.nd rfl (by trivial) (Bj (Aa Au (Aa (pv 2) Ab))))))
   (Ad (Ap (pv 1))))),?_⟩
  obtain ⟨gt,go,gd,gm,ge⟩:=X.ng
  have nd:=X.nd
  simp only [List.nodup_cons,List.mem_cons,List.not_mem_nil,or_false,not_or,not_false_eq_true,and_true,List.nodup_nil] at nd
  obtain ⟨⟨to,td,tm,te⟩,⟨od,om,oe⟩,⟨dm,de⟩,me⟩:=nd
  have no:∀ {C' D:Addr},MroX K C' c.g->D≠c.g->C'≠D->PySem.W.mroIn K C' (.ref D)=some false:=fun m h1 h2=>by rw [mro_X m h1,decide_eq_false h2]
  have yes:∀ {C':Addr},MroX K C' c.g->C'≠c.g->PySem.W.mroIn K C' (.ref C')=some true:=fun m h1=>by rw [mro_X m h1,decide_eq_true rfl]
  have hx:∀ {H2:Hp} {a dx' C':Addr} {fd:Str} {v:V},H2 a=some (excR a C' (some dx'))->H2 dx'=some (.xd [(fd,v)])->Exc H2 a C' dx' [(fd,v)]:=fun h1 h2=>⟨.inr h1,h2⟩
  refine ⟨_,rfl,v,rfl,?_⟩
  rcases h with ⟨z,rfl,ok,q0,q1⟩ | ⟨kd,hk,hns,q⟩
  ·refine .inl ⟨z,rfl,ok,fun d hd a H1 s1 hP=>?_,fun u hu=>?_⟩
   ·refine ⟨_,rfl,(by exact Z2),fun p hp=>⟨_,rfl,?_⟩⟩
    exact q1 d hd p a _ (s1.trans (Same.new hp)) Ag (hP.same (Same.new hp))
   ·have q:=q0 u hu
    cases u with
    | tx n=>exact fun a dx' H2 s2 y1 y2=>⟨a,rfl,_,_,y1,.inl ⟨yes X.mt gt,⟨_,rfl,a,c.t,dx',_,_,rfl,hx y1 y2,X.xt.df.ok,rfl,(by exact Z2),fun p hp=>⟨_,rfl,q p _ _ (s2.trans (Same.new hp)) Ag rfl⟩⟩⟩⟩
    | of k=>exact fun l p1 p2 H1 s1 hl k1 k2 a dx' H2 s2 y1 y2=>⟨a,rfl,_,_,y1,.inr ⟨no X.mo gt (Ne.symm to),.inl ⟨yes X.mo go,⟨_,rfl,a,c.o,dx',_,_,rfl,hx y1 y2,X.xo.df.ok,rfl,l,_,rfl,.inl (SqL.of (s2 _ _ hl)),fun l2 hl2=>⟨(by exact Z2),fun p hp=>⟨_,rfl,q p _ _ (((s1.trans s2).trans (Same.new hl2)).trans (Same.new hp)) Ag ⟨l2,p1,p2,rfl,Same.new hp _ _ Ag,Same.new hp _ _ (Same.new hl2 _ _ (s2 _ _ k1)),Same.new hp _ _ (Same.new hl2 _ _ (s2 _ _ k2))⟩⟩⟩⟩⟩⟩⟩
    | db z'=>exact fun a dx' H2 s2 y1 y2=>⟨a,rfl,_,_,y1,.inr ⟨no X.md gt (Ne.symm td),.inr ⟨no X.md go (Ne.symm od),.inl ⟨yes X.md gd,⟨_,rfl,a,c.d,dx',_,_,rfl,hx y1 y2,X.xd.df.ok,rfl,(by exact Z2),fun p hp=>⟨_,rfl,q p _ _ (s2.trans (Same.new hp)) Ag rfl⟩⟩⟩⟩⟩⟩
    | mn n=>exact fun a dx' H2 s2 y1 y2=>⟨a,rfl,_,_,y1,.inr ⟨no X.mm gt (Ne.symm tm),.inr ⟨no X.mm go (Ne.symm om),.inr ⟨no X.mm gd (Ne.symm dm),.inl ⟨yes X.mm gm,⟨_,rfl,a,c.m,dx',_,_,rfl,hx y1 y2,X.xm.df.ok,rfl,(by exact Z2),fun p hp=>⟨_,rfl,q p _ _ (s2.trans (Same.new hp)) Ag rfl⟩⟩⟩⟩⟩⟩⟩
    | dp n=>exact fun a dx' H2 s2 y1 y2=>⟨a,rfl,_,_,y1,.inr ⟨no X.me gt (Ne.symm te),.inr ⟨no X.me go (Ne.symm oe),.inr ⟨no X.me gd (Ne.symm de),.inr ⟨no X.me gm (Ne.symm me),.inl ⟨yes X.me ge,⟨_,rfl,a,c.e,dx',_,_,rfl,hx y1 y2,X.xe.df.ok,rfl,(by exact Z2),fun p hp=>⟨_,rfl,q p _ _ (s2.trans (Same.new hp)) Ag rfl⟩⟩⟩⟩⟩⟩⟩⟩
  ·refine .inr ⟨kd,hk,hns,?_⟩
   exact fun a dx' H2 s2 y1 y2=>⟨a,rfl,_,_,y1,.inl ⟨yes X.mt gt,⟨_,rfl,a,c.t,dx',_,_,rfl,hx y1 y2,X.xt.df.ok,rfl,(by exact Z2),fun p hp=>⟨_,rfl,q p _ (s2.trans (Same.new hp)) Ag⟩⟩⟩⟩
end
end K34
namespace K34
open PySem L2 PyProof.Rows PySem.SeqAt
theorem text_back {z:Str} {d:Nd} (h:readR (Co z)=.work d):textW d=z/\Bd d:=by
 cases hf:formsR (Co z) with
 | some i=>rw [Dz hf] at h; cases h
 | none=>
   obtain ⟨n,o,es,hr,hn,ho,hc,hrd⟩:=readR_made hf
   rw [h] at hrd
   cases hb:A8 n o es (es.length + 1) with
   | some u=>rw [hb] at hrd; cases hrd
   | none=>
     rw [hb] at hrd
     have w0:Bt (Bs n o es 0)=none:=firstBad_none hb (by omega)
     have hbd:Bd (Bs n o es 0):=by
      rcases C7 (d:=Bs n o es 0) ho with ⟨_,_,y⟩ | ⟨_,y⟩
      ·rw [w0] at y; cases y
      ·exact (wrongB_none (y.symm.trans w0)).2
     have ed:d=Bs n o es 0:=by cases hrd; rfl
     subst ed
     refine ⟨?_,hbd⟩
     have hw:(Ct (Bs n o es 0)).map rowW=Co z:=by
      rw [rows_walk,hr]
      show partN n o :: (rws 1 (wait W0 es 1)).map En.w=_
      rw [← root_seg hc]
     have e1:(Ct (Bs n o es 0)).map rowT=Txt.split z "\n":=by
      have:(Ct (Bs n o es 0)).map rowT=((Ct (Bs n o es 0)).map rowW).map (Txt.join " "):=by rw [List.map_map]; rfl
      rw [this,hw]
      unfold Co
      rw [List.map_map]
      refine (List.map_congr_left fun r _=>?_).trans (List.map_id _)
      show Txt.join " " (Txt.split r " ")=r
      rw [tjoin]
      exact StrLaws.join_split r " "
     unfold textW
     rw [e1,tjoin]
     exact StrLaws.join_split z "\n"
def UOk:U->Prop
 | .db z=>Ak z=true
 | .of k=>Ak k.1=true/\k.2 < 100
 | _=>True
theorem firstBad_some {n:Str} {o:List (Str × Nat)} {es:List En} {u:U}:∀ {k:Nat},A8 n o es k=some u->∃ i,i < k/\Bt (Bs n o es i)=some u
 | 0,h=>by cases h
 | k + 1,hf=>by
   rw [A8] at hf
   cases e:Bt (Bs n o es k) with
   | some u'=>
     rw [e] at hf
     cases hf
     exact ⟨k,by omega,e⟩
   | none=>
     rw [e] at hf
     obtain ⟨i,h1,h2⟩:=firstBad_some (k:=k) hf
     exact ⟨i,by omega,h2⟩
theorem rows_words {n:Str} {o:List (Str × Nat)} {es:List En} (c:Ch 1 es) (hn:Ak n=true) {x:Lr} (h:x ∈ Bu n o es):Ak x.n=true:=by
 rcases List.mem_cons.mp h with rfl | h
 ·exact hn
 ·obtain ⟨e,he,rfl⟩:=List.mem_map.mp h
  obtain ⟨i,hi⟩:=List.getElem?_of_mem he
  exact (c.drop hi).2.n
theorem wrong_ok {n:Str} {o:List (Str × Nat)} {es:List En} (c:Ch 1 es) (hn:Ak n=true) (ho:OkO o) {k:Nat} {x:Lr} (h:(Bu n o es)[k]?=some x) {u:U} (hw:Bt (Bs n o es k)=some u):UOk u:=by
 have rO:=row_of c h
 have xo:=row_oko c ho h
 rw [rO.of_] at xo
 rcases C7 xo with ⟨a,e1,e2⟩ | ⟨_,e2⟩
 ·rw [hw] at e2
  cases e2
  exact xo.ok a (by rw [e1]; simp)
 ·rw [hw] at e2
  rcases wrongB_some e2.symm with ⟨_,rfl⟩ | ⟨_,⟨z,hz,rfl⟩ | ⟨_,⟨_,rfl⟩ | ⟨_,_,rfl⟩⟩⟩
  ·trivial
  ·obtain ⟨i,h1,_⟩:=dupG_some hz List.nodup_nil
   rw [← row_names rO] at h1
   obtain ⟨y,hy,rfl⟩:=List.mem_map.mp (List.mem_of_getElem? h1)
   refine rows_words (n:=n) (o:=o) (es:=es) c hn ?_
   rcases List.mem_cons.mp hy with rfl | hy
   ·exact List.mem_of_getElem? h
   ·exact List.mem_of_mem_drop ((List.takeWhile_sublist _).subset hy)
  ·trivial
  ·trivial
theorem read_ok {rows:List (List Str)} {u:U} (h:readR rows=.no u):UOk u:=by
 cases hf:formsR rows with
 | some i=>rw [Dz hf] at h; cases h; trivial
 | none=>
   obtain ⟨n,o,es,hr,hn,ho,hc,hrd⟩:=readR_made hf
   rw [h] at hrd
   cases hb:A8 n o es (es.length + 1) with
   | none=>rw [hb] at hrd; cases hrd
   | some u'=>
     rw [hb] at hrd
     cases hrd
     obtain ⟨i,h1,h2⟩:=firstBad_some hb
     obtain ⟨x,hx⟩:∃ x,(Bu n o es)[i]?=some x:=⟨_,List.getElem?_eq_getElem (by show _ < (es.map En.lr).length + 1; rw [List.length_map]; exact h1)⟩
     exact wrong_ok hc hn ho hx h2
def U.dat:U->PyData
 | .tx n=>.int (n:Nat)
 | .of k=>.list [keyD k,keyD k]
 | .mn n=>.int (n:Nat)
 | .db z=>.str z
 | .dp n=>.int (n:Nat)
theorem UV.rd {K:PySem.W.Frag} {H:Hp} {u:U} {v:V} (h:UV H u v):RdD K H v u.dat:=by
 cases u with
 | tx n=>cases h; exact .int _
 | mn n=>cases h; exact .int _
 | dp n=>cases h; exact .int _
 | db z=>cases h; exact .str _
 | of k=>
   obtain ⟨l,p1,p2,rfl,hl,k1,k2⟩:=h
   exact .lst (SqL.of hl) (.cons (key_rd k1) (.cons (key_rd k2) .nil))
theorem UV.same {H H':Hp} {u:U} {v:V} (h:UV H u v) (s:Same H H'):UV H' u v:=by
 cases u with
 | of k=>
   obtain ⟨l,p1,p2,e,hl,k1,k2⟩:=h
   exact ⟨l,p1,p2,e,s _ _ hl,s _ _ k1,s _ _ k2⟩
 | _=>exact h
theorem UV.kd {K:PySem.W.Frag} {H:Hp} {u:U} {v:V} (h:UV H u v):∃ k:Kd,KdOf K H v k/\PySem.W.kitOne K (.type k.nm) (.type "bool")=some false:=by
 cases u with
 | tx n=>cases h; exact ⟨.int,TyOf.int _,Ek⟩
 | mn n=>cases h; exact ⟨.int,TyOf.int _,Ek⟩
 | dp n=>cases h; exact ⟨.int,TyOf.int _,Ek⟩
 | db z=>cases h; exact ⟨.str,TyOf.str _,kit_str_bool⟩
 | of k=>
   obtain ⟨l,p1,p2,rfl,hl,k1,k2⟩:=h
   exact ⟨.lst,TyOf.lst hl,kit_list_bool⟩
theorem U.shp {u:U} (h:UOk u):shaped u.dat=true:=by
 cases u with
 | tx n=>rfl
 | mn n=>rfl
 | dp n=>rfl
 | db z=>
   have w:=word_ok (z:=z) h
   unfold shaped
   rw [Bool.and_eq_true]
   refine ⟨by simp [U.dat,PyData.canLay0,w],?_⟩
   simp [U.dat,PyData.depth]
 | of k=>
   have w:=word_ok (z:=k.1) h.1
   unfold shaped
   rw [Bool.and_eq_true]
   refine ⟨by simp [U.dat,keyD,PyData.canLay0,PyData.canLayAll0,w],?_⟩
   simp [U.dat,keyD,PyData.depth,PyData.depthAll]
theorem tag_no:∀ u:U,u.tag≠("work":Str):=fun u=>by
 cases u with
 | tx n=>exact (by decide +kernel:("text":Str)≠"work")
 | of n=>exact (by decide +kernel:("offers":Str)≠"work")
 | mn n=>exact (by decide +kernel:("many":Str)≠"work")
 | db n=>exact (by decide +kernel:("doubled":Str)≠"work")
 | dp n=>exact (by decide +kernel:("deep":Str)≠"work")
section
variable {P:Program} {w:World} {K:PySem.W.Frag} {mg:Str->Option Value} {base:Heap} {C:Addr} {c:Cs}
def spRt:Sp:=fun vs H Q _=>∃ z:Str,vs=[.str z]/\TxOk z/\∀ H',Same H H'->Q (.bl true) H'
abbrev s_law_right:Stmt:=top 79
theorem sc_law_right:Ao ["_law_text","_law_told_here","_law_due"] ["_law_text"] (Af s_law_right):=by trivial
theorem ok_rt (T:Txt mg) (kit:PKit K C) (kB:PySem.W.kitOne K (.ref C) (.type "bool")=some false) (mC:mg "Part"=some (.ref C)) (MTD:∀ C' sp,DTd K C 7 C' sp->MethD P w K mg base CX0 7 C' "told" ["self"] sp) (F_show_work:FnAt P w K mg base "show_work" 8 ["work"] (spSW C)) (F__law_told:FnAt P w K mg base "_law_told" 17 ["_law_text"] (spTold K C)) (F__law_read:FnAt P w K mg base "_law_read" 8 ["_law_text"] spRd) (F:Al K mg "_law_right" s_law_right ["_law_text"]):FnAt P w K mg base "_law_right" 18 ["_law_text"] spRt:=by
 refine F.at sc_law_right (fun vs H Q E h=>?_) (fun f cdv A outer s H vs Q E hr h=>?_)
 ·obtain ⟨z,rfl,_⟩:=h
  rfl
 ·obtain ⟨z,rfl,ok,q⟩:=h
  refine ⟨_,(Ac (As (i:=1) sc_law_right.nd rfl (by trivial) (Ay F__law_told hr (by decide) rfl (Aa (pv 0) Ab)))
   (Ac (As (i:=2) sc_law_right.nd rfl (by trivial) (Ay F__law_read hr (by decide) rfl (Aa (pv 0) Ab)))
   (Ac (A5 (PW.pt (pw_or (Av op_ne (A0 C2 (pv 1) Ae (fun _ _=>rfl)) (A0 C2 (pv 2) Ae (fun _ _=>rfl)) (A1 _)) (Ei (Bw (Ai call_isinst rfl T.n_isinstance boot_isinstance (Aa (A0 C2 (pv 1) Ae (fun _ _=>rfl)) (Aa (B3 (v:=.ty "bool") rfl T.n_bool boot_bool rfl) Ab))))))) (Ad (Ap pe_bl)) Am)
   (Ac (A5 (Av op_ne (A0 C2 (pv 1) Ae (fun _ _=>rfl)) Au (A1 _)) (Ad (Ap (C1 (op_eqSD (hu64 hr)) (A0 C2 (pv 1) Ae (fun _ _=>rfl)) (A0 C2 (pv 2) Ae (fun _ _=>rfl)) (A1 _)))) Am)
   (Ad (Ap (D1 (Ai call_isinst rfl T.n_isinstance boot_isinstance (Aa (A0 C2 (pv 1) Ae (fun _ _=>rfl)) (Aa (pe_glob (v:=.ref C) rfl mC rfl) Ab))) (D1 (C1 (op_eqSD (hu64 hr)) (pe_methD (D:=DTd K C 7) (A0 C2 (pv 1) Ae (fun _ _=>rfl)) MTD (hr.mono (by decide)) pass0) (A0 C2 (pv 2) Ae (fun _ _=>rfl)) (A1 _)) (pe_one (C1 El (Ay F_show_work hr (by decide) rfl (Aa (A0 C2 (pv 1) Ae (fun _ _=>rfl)) Ab)) (pv 0) (A1 _))))))))))),?_⟩
  have hs:sizeLine=16777216:=sizeLine_eq
  refine ⟨_,rfl,.str z,rfl,.inl ⟨z,rfl,ok,fun u hu p v H1 s1 hp hv=>?_,fun d hd p a H1 s1 hp hP=>?_⟩⟩
  ·refine ⟨_,rfl,z,rfl,ok,fun u' hu' p' v' H2 s2 hp' hv'=>?_,fun d hd=>?_⟩
   ·rw [hu] at hu'
    cases hu'
    have hp2:=s2 _ _ hp
    have hv2:=hv.same s2
    obtain ⟨k,hk,hkb⟩:=UV.kd (K:=K) hv2
    refine ⟨_,rfl,p,_,_,V.str u.tag,rfl,rfl,SqT.of hp2,rfl,_,rfl,p',_,_,V.str u.tag,rfl,rfl,SqT.of hp',rfl,rfl,_,rfl,iteNS rfl ?_⟩
    refine ⟨_,rfl,p,_,_,v,rfl,rfl,SqT.of hp2,rfl,_,_,.type k.nm,.type "bool",false,rfl,rfl,hk,hkb,_,rfl,iteF ?_⟩
    refine ⟨_,rfl,p,_,_,V.str u.tag,rfl,rfl,SqT.of hp2,rfl,rfl,_,rfl,?_⟩
    refine ite2 (fun _=>?_) (fun h=>absurd (by rw [decide_eq_false (fun y=>tag_no u (V.str.inj y))]; rfl) h)
    refine ⟨_,rfl,p,_,_,v,rfl,rfl,SqT.of hp2,rfl,_,rfl,p',_,_,v',rfl,rfl,SqT.of hp',rfl,u.dat,hv2.rd,hv'.rd,U.shp (read_ok hu),?_⟩
    exact q _ (s1.trans s2)
   ·rw [hu] at hd
    cases hd
  ·refine ⟨_,rfl,z,rfl,ok,fun u' hu'=>?_,fun d' hd' p' t H2 s2 hp' hT=>?_⟩
   ·rw [hd] at hu'
    cases hu'
   ·rw [hd] at hd'
    cases hd'
    obtain ⟨etx,bd⟩:=text_back hd
    have b1:=bd.h
    have b2:=bd.z
    have hp2:=s2 _ _ hp
    have hP2:=hP.same s2
    obtain ⟨dx,fs,hA,hfs⟩:=hP2.ins
    refine ⟨_,rfl,p,_,_,V.str "work",rfl,rfl,SqT.of hp2,rfl,_,rfl,p',_,_,V.str "work",rfl,rfl,SqT.of hp',rfl,rfl,_,rfl,iteNS rfl ?_⟩
    refine ⟨_,rfl,p,_,_,V.ref a,rfl,rfl,SqT.of hp2,rfl,_,_,.ref C,.type "bool",false,rfl,rfl,kit.ty hA,kB,_,rfl,iteF ?_⟩
    refine ⟨_,rfl,p,_,_,V.str "work",rfl,rfl,SqT.of hp2,rfl,rfl,_,rfl,iteNS rfl ?_⟩
    refine ⟨_,rfl,p,_,_,V.ref a,rfl,rfl,SqT.of hp2,rfl,_,_,.ref C,.ref C,true,rfl,rfl,kit.ty hA,kit.kC,_,rfl,iteT ?_⟩
    refine ⟨_,rfl,p,_,_,V.ref a,rfl,rfl,SqT.of hp2,rfl,a,C,dx,fs,spTd K C 7,rfl,hA,hfs _ (by decide +kernel) (by decide +kernel) (by decide +kernel),⟨rfl,rfl⟩,a,d,rfl,hP2,by omega,by omega,fun t1 H3 s3 hT1=>?_⟩
    refine ⟨_,rfl,p',_,_,V.ref t,rfl,rfl,SqT.of (s3 _ _ hp'),rfl,toldD d,hT1.rd,(hT.t (.of s3)).rd,told_shaped hP2 (by omega),_,rfl,iteT ?_⟩
    refine ⟨_,rfl,p,_,_,V.ref a,rfl,rfl,SqT.of (s3 _ _ hp2),rfl,a,d,rfl,hP2.same s3,⟨by omega,by omega⟩,fun H4 s4=>⟨_,rfl,rfl,?_⟩⟩
    show Q (.bl (decide (V.str (textW d)=V.str z))) H4
    rw [etx,decide_eq_true rfl]
    exact q _ (((s1.trans s2).trans s3).trans s4)
end
end K34
namespace K34
open PySem L2 PyProof.Rows PySem.SeqAt
theorem Ew {i:Int} {n:Nat} (h0:0<=i) (h1:i < n):∃ k:Nat,i=(k:Int)/\k < n:=⟨i.toNat,by omega,by omega⟩
def Asc (z:Str):Prop:=∀ c ∈ z.cps.toList,c < 128/\c≠10
def ascB (z:Str):Bool:=z.cps.toList.all fun c=>decide (c < 128/\c≠10)
theorem asc_of {z:Str} (h:ascB z=true):Asc z:=fun c hc=>of_decide_eq_true (List.all_eq_true.mp h c hc)
theorem Asc.app {a b:Str} (ha:Asc a) (hb:Asc b):Asc (a ++ b):=fun c hc=>by
 rw [Ey,List.mem_append] at hc
 exact hc.elim (ha c) (hb c)
theorem asc_word {z:Str} (h:Ak z=true):Asc z:=fun c hc=>by
 unfold Ak at h
 rw [Bool.and_eq_true] at h
 have:=List.all_eq_true.mp h.2 c hc
 unfold C3 at this
 have:=of_decide_eq_true this
 omega
theorem asc_num {n:Nat} (h:n < 100):Asc (nT n):=fun c hc=>by
 have:=List.all_eq_true.mp (num2 h).h4 c hc
 unfold isFig at this
 have:=of_decide_eq_true this
 omega
theorem asc_key {k:Str × Nat} (h:Ak k.1=true/\k.2 < 100):Asc (keyT k):=((asc_word h.1).app (asc_of (by decide +kernel))).app (asc_num h.2)
theorem asc_strokes (n:Nat):Asc (A9 n):=fun c hc=>by
 rw [strokes_list,List.mem_replicate] at hc
 rw [hc.2]
 decide
theorem asc_nm (j:Nat):Asc (nm j):=by
 match j with
 | 0=>exact asc_of (by decide +kernel)
 | 1=>exact asc_of (by decide +kernel)
 | 2=>exact asc_of (by decide +kernel)
 | n + 3=>exact asc_of (z:="changed") (by decide +kernel)
theorem mem_jl {s c:Nat}:∀ {xs:List (List Nat)},c ∈ jl s xs->c=s\/∃ x ∈ xs,c ∈ x
 | [],h=>by cases h
 | [x],h=>.inr ⟨x,List.mem_cons_self,h⟩
 | x :: y :: r,h=>by
   have h:c ∈ x ++ s :: jl s (y :: r):=h
   rcases List.mem_append.mp h with h | h
   ·exact .inr ⟨x,List.mem_cons_self,h⟩
   ·rcases List.mem_cons.mp h with h | h
    ·exact .inl h
    ·rcases mem_jl h with h | ⟨z,h1,h2⟩
     ·exact .inl h
     ·exact .inr ⟨z,List.mem_cons_of_mem _ h1,h2⟩
theorem jl_mem {s c:Nat}:∀ {xs:List (List Nat)} {x:List Nat},x ∈ xs->c ∈ x->c ∈ jl s xs
 | [],_,h,_=>by cases h
 | [y],x,h,hc=>by
   rw [List.mem_singleton] at h
   subst h
   exact hc
 | y :: z :: r,x,h,hc=>by
   show c ∈ y ++ s :: jl s (z :: r)
   rcases List.mem_cons.mp h with rfl | h
   ·exact List.mem_append_left _ hc
   ·exact List.mem_append_right _ (List.mem_cons_of_mem _ (jl_mem h hc))
theorem sp1:(" ":Str)=⟨#[32]⟩:=by decide +kernel
theorem nl1:("\n":Str)=⟨#[10]⟩:=by decide +kernel
theorem asc_join {ws:List Str} (h:∀ z ∈ ws,Asc z):Asc (Txt.join " " ws):=fun c hc=>by
 rw [sp1,tjoin,D3] at hc
 rcases mem_jl hc with rfl | ⟨x,hx,hc⟩
 ·decide
 ·obtain ⟨z,hz,rfl⟩:=List.mem_map.mp hx
  exact h z hz c hc
theorem asc_split {z:Str} (h:Asc z):∀ x ∈ Txt.split z " ",Asc x:=fun x hx c hc=>by
 have e:=StrLaws.join_split z " "
 refine h c ?_
 rw [← e,sp1,D3]
 rw [sp1] at hx
 exact jl_mem (List.mem_map.mpr ⟨x,hx,rfl⟩) hc
structure RowOk (B:Nat) (z:Str):Prop where
 len:z.length<=B
 asc:Asc z
theorem tx_ok {rs:List Str} (h:∀ z ∈ rs,RowOk 1000 z) (hn:rs.length<=100):TxOk (Txt.join "\n" rs):=by
 by_cases e:rs=[]
 ·subst e
  have:Txt.join "\n" []=Str.empty:=rfl
  exact ⟨by decide +kernel,by decide +kernel,by decide +kernel⟩
 ·have hs:Txt.split (Txt.join "\n" rs) "\n"=rs:=by
   rw [nl1]
   exact split_join e fun z hz m=>((h z hz).asc 10 m).2 rfl
  refine ⟨?_,by rw [hs]; exact hn,fun r hr=>(h r (by rw [hs] at hr; exact hr)).len⟩
  have h1:=len_join_le "\n" rs
  have h2:=sum_le fun z hz=>(h z hz).len
  have h3:("\n":Str).length=1:=by decide +kernel
  rw [h3] at h1
  have h4:=Nat.mul_le_mul_right 1000 hn
  omega
theorem C8 {H:Hp} {b l:Addr} {zs:List Str} (hb:Box H b) (hl:H l=some (.lst (zs.map V.str))):l≠b:=by
 rintro rfl
 obtain ⟨x,y,z,e⟩:=hb
 rw [e] at hl
 cases zs with
 | nil=>cases hl
 | cons k ks=>cases hl
section
variable {P:Program} {w:World} {K:PySem.W.Frag} {mg:Str->Option Value} {base:Heap}
def spKy:Sp:=fun vs H Q _=>∃ (b ln:Addr) (zs:List Str),vs=[.ref b,.ref ln]/\Box H b/\H ln=some (.lst (zs.map V.str))/\3<=zs.length/\(∀ z ∈ zs,Ak z=true)/\∀ (k:Str × Nat) (H':Hp),(Ak k.1=true/\k.2 < 100)->Oth b H H'->Q (.str (keyT k)) H'
abbrev s_law_keyed:Stmt:=top 67
theorem sc_law_keyed:Ao ["_law_box_here","_law_names","_law_number"] ["_law_box_here","_law_names"] (Af s_law_keyed):=by trivial
theorem ok_ky (T:Txt mg) (F__law_take:FnAt P w K mg base "_law_take" 2 ["_law_box_here","_law_many"] spTake) (F:Al K mg "_law_keyed" s_law_keyed ["_law_box_here","_law_names"]):FnAt P w K mg base "_law_keyed" 3 ["_law_box_here","_law_names"] spKy:=by
 refine F.at sc_law_keyed (fun vs H Q E h=>?_) (fun f cdv A outer s H vs Q E hr h=>?_)
 ·obtain ⟨b,ln,zs,rfl,_⟩:=h
  rfl
 ·obtain ⟨b,ln,zs,rfl,hb,hl,h3,hw,q⟩:=h
  refine ⟨_,(Ac (As (i:=2) sc_law_keyed.nd rfl (by trivial) (Ay F__law_take hr (by decide) rfl (Aa (pv 0) (Aa Ae Ab))))
   (Ac (ps_mid (A5 (Av El (pv 2) Ae (A1 _)) (Ad (As (i:=2) sc_law_keyed.nd rfl (by trivial) (A3 B4 Ae (Ay F__law_take hr (by decide) rfl (Aa (pv 0) (Aa Ae Ab)))))) Am))
   (Ad (Ap (A3 Bo (A3 Bo (A0 An (pv 1) (Ay F__law_take hr (by decide) rfl (Aa (pv 0) (Aa Ae Ab))) (fun _ _=>rfl)) Au) (Bm call_str_int rfl T.n_str boot_str (Aa (pv 2) Ab))))))),?_⟩
  have hs:sizeLine=16777216:=sizeLine_eq
  have nlb:=C8 hb hl
  refine ⟨_,rfl,b,12,rfl,hb,(by decide),(by decide),fun m H1 m0 m1 o1=>?_⟩
  obtain ⟨m,rfl,hm⟩:=Ew m0 m1
  refine ⟨fun σ' H'=>∃ n:Nat,n < 100/\σ'=[some (.ref b),some (.ref ln),some (.int (n:Nat))]/\Oth b H H',?_,?_⟩
  ·refine ⟨_,rfl,rfl,_,rfl,ite2 (fun _=>?_) (fun _=>?_)⟩
   ·refine ⟨_,rfl,b,90,rfl,o1.box,(by decide),(by decide),fun t H2 t0 t1 o2=>⟨_,_,rfl,rfl,?_⟩⟩
    obtain ⟨t,rfl,ht⟩:=Ew t0 t1
    exact ⟨10 + t,by omega,rfl,o1.trans o2⟩
   ·exact ⟨m,by omega,rfl,o1⟩
  ·rintro σ' H2 ⟨n,hn,rfl,O2⟩
   refine ⟨_,rfl,_,rfl,b,3,rfl,O2.box,(by decide),(by decide),fun t H3 t0 t1 o3=>?_⟩
   obtain ⟨t,rfl,ht⟩:=Ew t0 t1
   have O3:=O2.trans o3
   obtain ⟨z,hz⟩:∃ z,zs[t]?=some z:=⟨_,List.getElem?_eq_getElem (by omega)⟩
   have wz:=hw z (List.mem_of_getElem? hz)
   have zl:=word_len wz
   refine ⟨ln,_,_,V.str z,rfl,rfl,SqL.of (O3.oth _ _ hl nlb),(Az (by rw [List.getElem?_map,hz]; rfl)),_,_,rfl,rfl,?_,?_⟩
   ·have:(".":Str).length=1:=by decide +kernel
    omega
   have e1:(z ++ (".":Str)).length<=9:=by
    rw [D2]
    have:(".":Str).length=1:=by decide +kernel
    omega
   have e2:(nT n).length<=2:=(num2 hn).h2
   refine ⟨_,rfl,_,rfl,log_small (by omega) (by omega),_,_,rfl,rfl,?_,?_⟩
   ·show (z ++ (".":Str)).length + (nT n).length<=sizeLine
    omega
   ·exact q (z,n) H3 ⟨wz,hn⟩ O3
end
end K34
namespace K34
open PySem L2 PyProof.Rows PySem.SeqAt
theorem atI_get {xs:List V} {r:Int} (h0:0<=r) (h1:r < (xs.length:Int)):∃ v,atI xs r=some v/\v ∈ xs:=by
 obtain ⟨k,rfl,hk⟩:=Ew h0 h1
 exact ⟨xs[k],Az (List.getElem?_eq_getElem hk),List.getElem_mem hk⟩
structure WdOk (ws:List Str) (B:Nat):Prop where
 len:(ws.map (·.length)).sum + ws.length<=B
 asc:∀ z ∈ ws,Asc z
theorem WdOk.row {ws:List Str} {B:Nat} (h:WdOk ws B):RowOk B (Txt.join " " ws):=by
 refine ⟨?_,asc_join h.asc⟩
 have h1:=len_join_le " " ws
 have h2:(" ":Str).length=1:=by decide +kernel
 rw [h2] at h1
 have:=h.len
 omega
theorem keys_wd:∀ {ks:List (Str × Nat)},(∀ k ∈ ks,Ak k.1=true/\k.2 < 100)->WdOk (ks.map keyT) (ks.length * 12)
 | [],_=>⟨by simp,fun z h=>by cases h⟩
 | k :: ks,h=>by
   have ih:=keys_wd (ks:=ks) fun x hx=>h x (List.mem_cons_of_mem _ hx)
   have hk:=h k List.mem_cons_self
   have kl:=keyT_len hk
   refine ⟨?_,fun z hz=>?_⟩
   ·have:=ih.len
    simp only [List.map_cons,List.sum_cons,List.length_cons] at this ⊢
    omega
   ·rcases List.mem_cons.mp hz with rfl | hz
    ·exact asc_key hk
    ·exact ih.asc z hz
theorem WdOk.cons {z:Str} {ws:List Str} {B k:Nat} (h:WdOk ws B) (ha:Asc z) (hz:z.length<=k):WdOk (z :: ws) (B + k + 1):=by
 refine ⟨?_,fun y hy=>?_⟩
 ·have:=h.len
  simp only [List.map_cons,List.sum_cons,List.length_cons]
  omega
 ·rcases List.mem_cons.mp hy with rfl | hy
  ·exact ha
  ·exact h.asc y hy
theorem Oth.add {b p:Addr} {H:Hp} {o:HO} (hb:Box H b) (h:H p=none):Oth b H (upd H p o):=(Oth.refl hb).new h
section
variable {P:Program} {w:World} {K:PySem.W.Frag} {mg:Str->Option Value} {base:Heap}
def spRs:Sp:=fun vs H Q _=>∃ (b ln:Addr) (zs:List Str),vs=[.ref b,.ref ln]/\Box H b/\H ln=some (.lst (zs.map V.str))/\zs.length=40/\(∀ z ∈ zs,Ak z=true)/\∀ (l:Addr) (rs:List Str) (H':Hp),Oth b H H'->H l=none->H' l=some (.lst (rs.map V.str))->rs.length<=40->(∀ z ∈ rs,RowOk 90 z)->Q (.ref l) H'
abbrev Er:Stmt:=top 68
theorem By:Ao ["_law_box_here","_law_names","_law_many","_law_few","_law_rows_here","_law_deep","_law_k","_law_words_here"] ["_law_box_here","_law_names"] (Af Er):=by trivial
theorem ok_rs (T:Txt mg) (F__law_take:FnAt P w K mg base "_law_take" 2 ["_law_box_here","_law_many"] spTake) (F__law_keyed:FnAt P w K mg base "_law_keyed" 3 ["_law_box_here","_law_names"] spKy) (F:Al K mg "_law_rows" Er ["_law_box_here","_law_names"]):FnAt P w K mg base "_law_rows" 4 ["_law_box_here","_law_names"] spRs:=by
 refine F.at By (fun vs H Q E h=>?_) (fun f cdv A outer s H vs Q E hr h=>?_)
 ·obtain ⟨b,ln,zs,rfl,_⟩:=h
  rfl
 ·obtain ⟨b,ln,zs,rfl,hb,hl,h40,hw,q⟩:=h
  refine ⟨_,(Ac (As (i:=2) By.nd rfl (by trivial) (A3 B4 Ae (Ay F__law_take hr (by decide) rfl (Aa (pv 0) (Aa Ae Ab)))))
   (Ac (ps_mid (A5 (Av El (Ay F__law_take hr (by decide) rfl (Aa (pv 0) (Aa Ae Ab))) Ae (A1 _)) (Ad (As (i:=2) By.nd rfl (by trivial) (A3 B4 Ae (Ay F__law_take hr (by decide) rfl (Aa (pv 0) (Aa Ae Ab)))))) Am))
   (Ac (As (i:=3) By.nd rfl (by trivial) (A0 An (Bf (Aa (pv 1) (Aa (Ba Cc (pv 1) Bp (Bk (A3 B4 Ae (Ay F__law_take hr (by decide) rfl (Aa (pv 0) (Aa Ae Ab)))))) Ab))) (Bm call_int1 rfl T.n_int boot_int (Aa (C1 El (Ay F__law_take hr (by decide) rfl (Aa (pv 0) (Aa Ae Ab))) Ae (A1 _)) Ab)) (fun _ _=>rfl)))
   (Ac (As (i:=4) By.nd rfl (by trivial) (Bf Ab))
   (Ac (As (i:=5) By.nd rfl (by trivial) Ae)
   (Ac (C6 PassesOwn.never rfl (C0 rfl T.n_range (Aa (pv 2) Ab)) (Aw (i:=6) By.nd rfl (by trivial)) (Ac (As (i:=7) By.nd rfl (by trivial) (A3 Ev (Bf (Aa (A0 An (pv 3) (A3 op_mod (pv 6) (Ai Aq rfl T.n_len boot_len (Aa (pv 3) Ab))) (fun _ _=>rfl)) Ab)) (Bz (sc:=Af Er) (N0:=["_law_box_here","_law_names","_law_many","_law_few","_law_rows_here","_law_deep","_law_k","_law_words_here"]) (xs:=["_law_j"]) (ys:=["_law_box_here","_law_names"]) (js:=[0,1]) (by trivial) rfl (C0 rfl T.n_range (Aa (Ay F__law_take hr (by decide) rfl (Aa (pv 0) (Aa Ae Ab))) Ab)) (fun _ _ _ _=>(Aw (i:=0) (show (["_law_j","_law_box_here","_law_names"]:List Str).Nodup by decide +kernel) rfl (by trivial))) (fun _ _ _ _=>B9) (fun _ _ _ _=>(Ay F__law_keyed hr (by decide) rfl (Aa (pv 1) (Aa (pv 2) Ab)))))))
   (Ac (ps_mid (A5 (Av Eu (pv 6) Ae (A1 _)) (Ac (As (i:=5) By.nd rfl (by trivial) (Ai (call_max2 rfl) rfl T.n_max boot_max (Aa Ae (Aa (A3 op_sub (A3 B4 (pv 5) Ae) (A0 An (Bf (Aa Ae (Aa Ae (Aa Ae (Aa Ae (Aa Ae (Aa Ae Ab))))))) (Ay F__law_take hr (by decide) rfl (Aa (pv 0) (Aa Ae Ab))) (fun _ _=>rfl))) Ab))))
   (Ad (As (i:=7) By.nd rfl (by trivial) (A3 Ev (Bf (Aa (A3 op_mulW Au (pv 5)) (Aa (A0 An (Bf (Aa Au (Aa Au (Aa Au (Aa Au Ab))))) (Ay F__law_take hr (by decide) rfl (Aa (pv 0) (Aa Ae Ab))) (fun _ _=>rfl)) Ab))) (pv 7))))) Am))
   (Ad (Bb (C5 PySem.F.plainAttrs_list PySem.F.slot_list_append PySem.F.type_list_append Cg (pv 4) (Aa (C5 PySem.F.plainAttrs_str PySem.F.slot_str_join PySem.F.type_str_join mt_join Au (Aa (pv 7) Ab)) Ab)))))))
   (Ad (Ap (pv 4))))))))),?_⟩
  have hs:sizeLine=16777216:=sizeLine_eq
  have nlb:=C8 hb hl
  refine ⟨_,rfl,b,9,rfl,hb,(by decide),(by decide),fun m H1 m0 m1 o1=>⟨_,_,rfl,rfl,?_⟩⟩
  obtain ⟨m,rfl,hm⟩:=Ew m0 m1
  refine ⟨fun σ' H'=>∃ n:Nat,n<=40/\σ'=[some (.ref b),some (.ref ln),some (.int (n:Nat)),none,none,none,none,none]/\Oth b H H',?_,?_⟩
  ·refine ⟨_,rfl,b,8,rfl,o1.box,(by decide),(by decide),fun u H3 _ _ o3=>⟨rfl,_,rfl,ite2 (fun _=>?_) (fun _=>?_)⟩⟩
   ·refine ⟨_,rfl,b,40,rfl,o3.box,(by decide),(by decide),fun t H4 t0 t1 o4=>⟨_,_,rfl,rfl,?_⟩⟩
    obtain ⟨t,rfl,ht⟩:=Ew t0 t1
    exact ⟨1 + t,by omega,rfl,(o1.trans o3).trans o4⟩
   ·exact ⟨1 + m,by omega,rfl,o1.trans o3⟩
  ·rintro σ' H2 ⟨n,hn,rfl,O2⟩
   refine ⟨_,rfl,_,rfl,_,rfl,b,40,rfl,O2.box,(by decide),(by decide),fun t H3 t0 t1 o3=>?_⟩
   obtain ⟨t,rfl,ht⟩:=Ew t0 t1
   have O3:=O2.trans o3
   refine ⟨_,_,rfl,rfl,_,rfl,ln,_,rfl,SqL.of (O3.oth _ _ hl nlb),fun lc hlc=>?_⟩
   have ec:cutV (zs.map V.str) none (some (1 + (t:Int)))=(zs.take (1 + t)).map V.str:=by
    rw [show (1:Int) + t=((1 + t:Nat):Int) by omega]
    exact cut_upto _ (by omega)
   rw [ec]
   generalize hQ9:upd H3 lc (.lst ((zs.take (1 + t)).map V.str))=H4
   have O4:=O3.trans (Na hQ9 O3.box hlc)
   have e4:=Ns hQ9
   have ncb:lc≠b:=Box.ne O3.box hlc
   refine ⟨(by exact Z2),fun l2 hl2=>?_⟩
   generalize hQ9:upd H4 l2 (.lst [.ref ln,.ref lc])=H5
   have O5:=O4.trans (Na hQ9 O4.box hl2)
   have e5:=Ns hQ9
   have e5c:=Nw hQ9 hl2 _ _ e4
   have n2b:l2≠b:=Box.ne O4.box hl2
   refine ⟨_,rfl,b,8,rfl,O5.box,(by decide),(by decide),fun u H6 u0 u1 o6=>⟨rfl,.inr ⟨_,rfl,?_⟩⟩⟩
   have O6:=O5.trans o6
   obtain ⟨lf,fz,hat,hlf,fl1,fwd,nfb⟩:∃ (lf:Addr) (fz:List Str),atI [V.ref ln,V.ref lc] (if decide (V.int u=V.int 0)=true then 1 else 0)=some (.ref lf)/\H6 lf=some (.lst (fz.map V.str))/\(1<=fz.length/\fz.length<=40)/\(∀ z ∈ fz,Ak z=true)/\lf≠b:=by
    by_cases h:decide (V.int u=V.int 0)=true
    ·rw [if_pos h]
     exact ⟨lc,_,rfl,o6.oth _ _ e5c ncb,⟨by rw [List.length_take]; omega,by rw [List.length_take]; omega⟩,fun z hz=>hw z (List.mem_of_mem_take hz),ncb⟩
    ·rw [if_neg h]
     exact ⟨ln,zs,rfl,O6.oth _ _ hl nlb,⟨by omega,by omega⟩,hw,nlb⟩
   refine ⟨l2,_,_,V.ref lf,rfl,rfl,SqL.of (o6.oth _ _ e5 n2b),hat,?_⟩
   refine ⟨(by exact Z0),fun lr hlr=>?_⟩
   generalize hQ9:upd H6 lr (.lst [])=H7
   have O7:=O6.trans (Na hQ9 O6.box hlr)
   have e7:=Ns hQ9
   have e7f:=Nw hQ9 hlr _ _ hlf
   have nrb:lr≠b:=Box.ne O6.box hlr
   have nrf:lf≠lr:=Ah hlf hlr
   have fr:H lr=none:=O6.free hlr
   refine ⟨_,rfl,n,rfl,(by omega),(by omega),D5 (n:=n) (fun i σ H'=>∃ (v6 v7:Option V) (d:Nat) (rs:List Str),σ=[some (.ref b),some (.ref ln),some (.int (n:Nat)),some (.ref lf),some (.ref lr),some (.int (d:Nat)),v6,v7]/\Oth b H H'/\H' lf=some (.lst (fz.map V.str))/\H' lr=some (.lst (rs.map V.str))/\rs.length=i/\d<=i/\(∀ z ∈ rs,RowOk 90 z)) ⟨_,_,0,[],rfl,O7,e7f,e7,rfl,Nat.le_refl _,fun z h=>by cases h⟩ ?_ ?_⟩
   ·rintro i σ H8 hi ⟨v6,v7,d,rs,rfl,O8,e8f,e8,rl,dl,ro⟩
    have hi:i < n:=hi
    have b8:=O8.box
    obtain ⟨z0,hz0⟩:∃ z0,fz[i % fz.length]?=some z0:=⟨_,List.getElem?_eq_getElem (Nat.mod_lt _ (by omega))⟩
    have az0:atI (fz.map V.str) ((0 + (i:Int)) % (((fz.map V.str).length:Nat):Int))=some (.str z0):=by
     rw [List.length_map,Int.zero_add,← Int.natCast_emod]
     exact Az (by rw [List.getElem?_map,hz0]; rfl)
    have wz0:=fwd z0 (List.mem_of_getElem? hz0)
    refine ⟨_,rfl,_,rfl,_,rfl,_,_,rfl,.inl ⟨_,SqL.of e8f,rfl⟩,_,_,rfl,rfl,(by show (0:Int) < (((fz.map V.str).length:Nat):Int); rw [List.length_map]; omega),lf,_,_,V.str z0,rfl,rfl,SqL.of e8f,az0,(by exact Z1),fun l1 hl1=>?_⟩
    generalize hQ9:upd H8 l1 (.lst [.str z0])=H9
    have p9:=Na hQ9 b8 hl1
    have e9:=Ns hQ9
    have n1b:l1≠b:=Box.ne b8 hl1
    refine ⟨_,rfl,b,3,rfl,p9.box,(by decide),(by decide),fun t3 H10 t30 t31 o10=>?_⟩
    obtain ⟨t3,rfl,ht3⟩:=Ew t30 t31
    have p10:=p9.trans o10
    refine ⟨t3,rfl,(by omega),(by omega),comp_range (n:=t3) (fun j ys H'=>∃ ks:List (Str × Nat),ys=(ks.map keyT).map V.str/\ks.length=j/\(∀ k ∈ ks,Ak k.1=true/\k.2 < 100)/\Oth b H10 H') ⟨[],rfl,rfl,(fun k h=>nomatch h),Oth.refl p10.box⟩ (by omega) ?_ ?_ ?_⟩
    ·rintro j ys H' ⟨ks,rfl,kl,_⟩
     rw [List.length_map,List.length_map]; omega
    ·rintro j ys H' hj ⟨ks,rfl,kl,kg,o'⟩
     refine ⟨_,rfl,_,rfl,b,ln,zs,rfl,o'.box,((O8.trans p10).trans o').oth _ _ hl nlb,by omega,hw,fun k H'' gk o''=>⟨ks ++ [k],by simp,by simp [kl],fun x hx=>?_,o'.trans o''⟩⟩
     rcases List.mem_append.mp hx with hx | hx
     ·exact kg x hx
     ·rw [List.mem_singleton] at hx
      rw [hx]
      exact gk
    rintro ys H11 ⟨ks,rfl,kl,kg,o11⟩ l9 hl9
    have p11:=p10.trans o11
    generalize hQ9:upd H11 l9 (.lst ((ks.map keyT).map V.str))=H12
    have q12:=Na hQ9 p11.box hl9
    have e12:=Ns hQ9
    have n9b:l9≠b:=Box.ne p11.box hl9
    have p12:=p11.trans q12
    have e12a:H12 l1=some (.lst [.str z0]):=(o10.trans (o11.trans q12)).oth _ _ e9 n1b
    refine ⟨l1,l9,_,_,rfl,rfl,e12a,e12,(by rw [List.length_map,List.length_map]; show 1 + _<=sizeLine; omega),fun l3 hl3=>?_⟩
    generalize hQ9:upd H12 l3 (.lst ([.str z0] ++ (ks.map keyT).map V.str))=H13
    have q13:=Na hQ9 p12.box hl3
    have e13:H13 l3=some (.lst ((z0 :: ks.map keyT).map V.str)):=Ns hQ9
    have n3b:l3≠b:=Box.ne p12.box hl3
    have p13:=p12.trans q13
    have wd:WdOk (z0 :: ks.map keyT) (ks.length * 12 + 8 + 1):=(keys_wd kg).cons (asc_word wz0) (word_len wz0)
    refine ⟨fun σ' H'=>∃ (lw:Addr) (ws:List Str) (d':Nat),σ'=[some (.ref b),some (.ref ln),some (.int (n:Nat)),some (.ref lf),some (.ref lr),some (.int (d':Nat)),some (.int (0 + (i:Int))),some (.ref lw)]/\Oth b H8 H'/\H' lw=some (.lst (ws.map V.str))/\d'<=i + 1/\WdOk ws 90/\ws.length<=90,?_,?_⟩
    ·refine ⟨_,rfl,_,_,rfl,rfl,_,rfl,ite2 (fun h=>?_) (fun h=>?_)⟩
     ·refine ⟨_,rfl,_,_,rfl,rfl,(by exact Z6),fun lx hlx=>?_⟩
      generalize hQ9:upd H13 lx (.lst [.int 0,.int 0,.int 1,.int 1,.int 2,.int 3])=H14
      have q14:=Na hQ9 p13.box hlx
      have e14:=Ns hQ9
      have nxb:lx≠b:=Box.ne p13.box hlx
      have p14:=p13.trans q14
      refine ⟨_,rfl,b,6,rfl,p14.box,(by decide),(by decide),fun r H15 r0 r6 o15=>?_⟩
      have p15:=p14.trans o15
      obtain ⟨v,ev,mv⟩:=atI_get (xs:=([.int 0,.int 0,.int 1,.int 1,.int 2,.int 3]:List V)) r0 r6
      obtain ⟨g,hg3,rfl⟩:∃ g:Nat,g<=3/\v=V.int g:=by
       simp only [List.mem_cons,List.not_mem_nil,or_false] at mv
       rcases mv with rfl | rfl | rfl | rfl | rfl | rfl
       ·exact ⟨0,by decide,rfl⟩
       ·exact ⟨0,by decide,rfl⟩
       ·exact ⟨1,by decide,rfl⟩
       ·exact ⟨1,by decide,rfl⟩
       ·exact ⟨2,by decide,rfl⟩
       ·exact ⟨3,by decide,rfl⟩
      refine ⟨lx,_,_,V.int g,rfl,rfl,SqL.of (o15.oth _ _ e14 nxb),ev,_,_,rfl,rfl,_,_,rfl,?_⟩
      obtain ⟨d',hd1,hd2⟩:∃ d':Nat,(if ((d:Nat):Int) + 1 - (g:Int) > 1 then ((d:Nat):Int) + 1 - (g:Int) else 1)=(d':Int)/\d'<=i + 1:=by
       by_cases hc:((d:Nat):Int) + 1 - (g:Int) > 1
       ·rw [if_pos hc]; exact ⟨d + 1 - g,by omega,by omega⟩
       ·rw [if_neg hc]; exact ⟨1,rfl,by omega⟩
      have hdv:V.int (if ((d:Nat):Int) + 1 - (g:Int) > 1 then ((d:Nat):Int) + 1 - (g:Int) else 1)=V.int (d':Int):=by rw [hd1]
      show gName 5 (V.int (if ((d:Nat):Int) + 1 - (g:Int) > 1 then ((d:Nat):Int) + 1 - (g:Int) else 1)) _ _ _
      rw [hdv]
      refine ⟨_,rfl,_,_,rfl,rfl,(by omega),(by omega),(by decide +kernel),(by exact Z4),fun lj hlj=>?_⟩
      have q16:Oth b H15 (upd H15 lj (.lst (JW.map V.str))):=Oth.add p15.box hlj
      have e16:upd H15 lj (.lst (JW.map V.str)) lj=some (.lst (JW.map V.str)):=Ag
      have njb:lj≠b:=Box.ne p15.box hlj
      show tCall _ _ _ _ _ (upd H15 lj (.lst (JW.map V.str))) _
      generalize upd H15 lj (.lst (JW.map V.str))=H16 at q16 e16 ⊢
      have p16:=p15.trans q16
      refine ⟨_,rfl,b,4,rfl,p16.box,(by decide),(by decide),fun rj H17 rj0 rj4 o17=>?_⟩
      have p17:=p16.trans o17
      obtain ⟨rj,rfl,hrj⟩:=Ew rj0 rj4
      have aj:atI (JW.map V.str) (rj:Int)=some (.str (nm rj)):=by
       match rj,hrj with
       | 0,_=>rfl
       | 1,_=>rfl
       | 2,_=>rfl
       | 3,_=>rfl
      refine ⟨lj,_,_,V.str (nm rj),rfl,rfl,SqL.of (o17.oth _ _ e16 njb),aj,(by exact Z2),fun lp hlp=>?_⟩
      have es:repZ ((d':Nat):Int).toNat (Str.ofString "-")=A9 d':=rfl
      rw [es]
      generalize hQ9:upd H17 lp (.lst [.str (A9 d'),.str (nm rj)])=H18
      have q18:=Na hQ9 p17.box hlp
      have e18:=Ns hQ9
      have npb:lp≠b:=Box.ne p17.box hlp
      have p18:=p17.trans q18
      have e18w:=((((q14.trans o15).trans q16).trans o17).trans q18).oth _ _ e13 n3b
      refine ⟨_,rfl,lp,l3,_,_,rfl,rfl,e18,e18w,(by simp only [List.length_cons,List.length_map,List.length_nil]; omega),fun lw hlw=>?_⟩
      have q19:Oth b H18 (upd H18 lw (.lst ([.str (A9 d'),.str (nm rj)] ++ (z0 :: ks.map keyT).map V.str))):=Oth.add p18.box hlw
      have sl:=Ds d'
      have nl:=nm_len rj
      refine ⟨lw,A9 d' :: nm rj :: z0 :: ks.map keyT,d',rfl,p18.trans q19,by rw [Ag]; rfl,hd2,?_,by simp; omega⟩
      have w2:=(wd.cons (asc_nm rj) nl).cons (asc_strokes d') (k:=40) (by omega)
      exact ⟨by have:=w2.len; omega,w2.asc⟩
     ·exact ⟨l3,_,d,rfl,p13,e13,by omega,⟨by have:=wd.len; omega,wd.asc⟩,by simp; omega⟩
    ·rintro σ' H20 ⟨lw,ws,d',rfl,p20,e20,hd',wd',wl⟩
     have e20r:=p20.oth _ _ e8 nrb
     have b1:(" ":Str).length=1:=by decide +kernel
     refine ⟨_,rfl,.inl ⟨rfl,_,SqL.of e20r⟩,rfl,_,rfl,_,lw,ws,rfl,rfl,SqL.of e20,(by have:=wd'.len; rw [b1]; omega),lr,_,_,rfl,rfl,e20r,(by rw [List.length_map]; omega),?_⟩
     refine ⟨_,_,d',rs ++ [Txt.join " " ws],rfl,?_,?_,?_,by rw [List.length_append,rl]; rfl,hd',fun z hz=>?_⟩
     ·obtain ⟨x,y,zz,hbx⟩:=p20.box
      refine ⟨⟨x,y,zz,by rw [Aj (Ne.symm nrb)]; exact hbx⟩,fun a o e na=>?_⟩
      rw [Aj (Ah e fr)]
      exact (O8.trans p20).oth _ _ e na
     ·rw [Aj nrf]; exact p20.oth _ _ e8f nfb
     ·rw [Ag,List.map_append]; rfl
     ·rcases List.mem_append.mp hz with hz | hz
      ·exact ro z hz
      ·rw [List.mem_singleton] at hz
       rw [hz]
       exact wd'.row
   ·rintro σ H8 ⟨v6,v7,d,rs,rfl,O8,e8f,e8,rl,dl,ro⟩
    exact ⟨_,rfl,q lr rs H8 O8 fr e8 (by omega) ro⟩
end
end K34
namespace K34
open PySem L2 PyProof.Rows PySem.SeqAt
theorem up_all:∀ c:Fin 128,(Unicode.upperOf c.val).all (fun d=>decide (d < 128/\(d=10->c.val=10)))=true:=by decide +kernel
theorem up_asc {z:Str} (h:Asc z):Asc (upZ z):=fun d hd=>by
 have hd:d ∈ (z.cps.mapIdx fun i c=>(Unicode.upperOf c).toArray).flatten:=by
  have:d ∈ (upZ z).cps:=by simpa using hd
  exact this
 rw [Array.mem_flatten] at hd
 obtain ⟨a,ha,hda⟩:=hd
 rw [Array.mem_mapIdx] at ha
 obtain ⟨i,hi,rfl⟩:=ha
 have hc:=h z.cps[i] (by simp)
 have:=List.all_eq_true.mp (up_all ⟨z.cps[i],hc.1⟩) d (by simpa using hda)
 have:=of_decide_eq_true this
 exact ⟨this.1,fun e=>hc.2 (this.2 e)⟩
theorem up_len (z:Str):(upZ z).length<=3 * z.length:=placed_le3 z _ fun _ c=>StrLaws.upperOf_le3 c
theorem asc_slice {z:Str} (h:Asc z) (l u:Option Int):Asc (Txt.slice z l u):=fun c hc=>by
 unfold Txt.slice at hc
 split at hc
 ·exact h c hc
 ·rw [show ∀ l:List Nat,(⟨l.toArray⟩:Str).cps.toList=l from fun l=>rfl] at hc
  obtain ⟨i,_,hi⟩:=List.mem_filterMap.mp hc
  exact h c (by
   have:=Array.mem_of_getElem? hi
   simpa using this)
def sumL (ws:List Str):Nat:=(ws.map (·.length)).sum
theorem sum_join (s:Str):∀ {ws:List Str},ws≠[]->(Str.join s ws).length + s.length=sumL ws + ws.length * s.length
 | [],h=>absurd rfl h
 | [x],_=>by
   show x.length + s.length=(x.length + 0) + 1 * s.length
   omega
 | x :: y :: r,_=>by
   have ih:=sum_join s (ws:=y :: r) (by simp)
   rw [join_cons s x (by simp),D2,D2]
   simp only [sumL,List.map_cons,List.sum_cons,List.length_cons] at ih ⊢
   have e:(r.length + 1 + 1) * s.length=(r.length + 1) * s.length + s.length:=by rw [Nat.add_mul (r.length + 1),Nat.one_mul]
   omega
theorem sum_set:∀ {ws:List Str} {i:Nat} {w w':Str},ws[i]?=some w->sumL (ws.set i w') + w.length=sumL ws + w'.length
 | [],i,w,w',h=>by simp at h
 | x :: ws,0,w,w',h=>by
   simp only [List.getElem?_cons_zero,Option.some.injEq] at h
   subst h
   simp only [sumL,List.set_cons_zero,List.map_cons,List.sum_cons]
   omega
 | x :: ws,i + 1,w,w',h=>by
   rw [List.getElem?_cons_succ] at h
   have:=sum_set (w':=w') h
   simp only [sumL,List.set_cons_succ,List.map_cons,List.sum_cons] at this ⊢
   omega
theorem sum_erase:∀ (ws:List Str) (i:Nat),sumL (ws.eraseIdx i)<=sumL ws
 | [],i=>by simp [sumL]
 | x :: ws,0=>by simp [sumL]
 | x :: ws,i + 1=>by
   have:=sum_erase ws i
   simp only [sumL,List.eraseIdx_cons_succ,List.map_cons,List.sum_cons] at this ⊢
   omega
theorem wd_split {z:Str} {B:Nat} (h:RowOk B z):WdOk (Txt.split z " ") (B + 1):=by
 refine ⟨?_,asc_split h.asc⟩
 have e:=StrLaws.join_split z " "
 have hp:=split_pos z " "
 have h1:=sum_join " " (ws:=Txt.split z " ") (fun e=>by rw [e] at hp; simp at hp)
 have h2:(" ":Str).length=1:=by decide +kernel
 rw [e,h2] at h1
 have:=h.len
 show sumL (Txt.split z " ") + _<=_
 omega
theorem WdOk.set {ws:List Str} {B i:Nat} {w w':Str} (h:WdOk ws (B + 1)) (hi:ws[i]?=some w) (hl:w'.length<=3 * w.length + 7) (ha:Asc w'):WdOk (ws.set i w') (3 * B + 8):=by
 have h1:=sum_set (w':=w') hi
 have h2:=h.len
 have h3:w.length + ws.length<=B + 1:=by
  have:w.length<=sumL ws:=by
   have:=sum_set (w':="") hi
   have e:("":Str).length=0:=rfl
   omega
  have h2:sumL ws + ws.length<=B + 1:=h2
  omega
 refine ⟨?_,fun y hy=>?_⟩
 ·rw [List.length_set]
  show sumL (ws.set i w') + _<=_
  have h2:sumL ws + ws.length<=B + 1:=h2
  have:=(List.getElem?_eq_some_iff.mp hi).1
  omega
 ·rcases List.mem_or_eq_of_mem_set hy with hy | rfl
  ·exact h.asc y hy
  ·exact ha
theorem WdOk.erase {ws:List Str} {B:Nat} (h:WdOk ws B) (i:Nat):WdOk (ws.eraseIdx i) B:=by
 refine ⟨?_,fun y hy=>h.asc y (List.mem_of_mem_eraseIdx hy)⟩
 have h1:=sum_erase ws i
 have h2:sumL ws + ws.length<=B:=h.len
 have h3:=List.length_eraseIdx_le ws i
 show sumL (ws.eraseIdx i) + _<=_
 omega
theorem erase_map:∀ (ws:List Str) (i:Nat),(ws.map V.str).eraseIdx i=(ws.eraseIdx i).map V.str
 | [],i=>by simp
 | x :: ws,0=>by simp
 | x :: ws,i + 1=>by
   rw [List.map_cons,List.eraseIdx_cons_succ,List.eraseIdx_cons_succ,List.map_cons,erase_map ws i]
theorem ixN_ok {n k:Nat} (h:k < n):ixN n (k:Int)=some k:=by
 unfold ixN
 rw [if_pos (by omega),if_pos (by omega)]
 rfl
def sm1 (z:Str):List Str:=[z ++ "-","-" ++ z,Txt.slice z none (some (-1)),z ++ "x",upZ z,"",z ++ " " ++ z,"changed"]
def sm2 (z:Str):List Str:=["a.01","a.100","a","b.7","-","--","0",z ++ "."]
theorem sm_ok {z:Str} (h:Asc z):∀ y ∈ sm1 z ++ sm2 z,y.length<=3 * z.length + 7/\Asc y:=by
 have ul:=up_len z
 have sl:=Txt.slice_le z none (some (-1))
 have k:∀ y:Str,(y.length<=7/\ascB y=true)->y.length<=3 * z.length + 7/\Asc y:=fun y hy=>⟨by have:=hy.1; omega,asc_of hy.2⟩
 have a1:∀ y:Str,(y.length<=1/\ascB y=true)->(z ++ y).length<=3 * z.length + 7/\Asc (z ++ y):=fun y hy=>⟨by rw [D2]; have:=hy.1; omega,h.app (asc_of hy.2)⟩
 intro y hy
 simp only [sm1,sm2,List.mem_append,List.mem_cons,List.not_mem_nil,or_false] at hy
 rcases hy with (rfl | rfl | rfl | rfl | rfl | rfl | rfl | rfl) | (rfl | rfl | rfl | rfl | rfl | rfl | rfl | rfl)
 ·exact a1 _ (by decide +kernel)
 ·refine ⟨?_,(asc_of (by decide +kernel)).app h⟩
  rw [D2]
  have:("-":Str).length=1:=by decide +kernel
  omega
 ·exact ⟨by omega,asc_slice h _ _⟩
 ·exact a1 _ (by decide +kernel)
 ·exact ⟨by omega,up_asc h⟩
 ·exact k _ (by decide +kernel)
 ·refine ⟨?_,(h.app (asc_of (by decide +kernel))).app h⟩
  rw [D2,D2]
  have:(" ":Str).length=1:=by decide +kernel
  omega
 ·exact k _ (by decide +kernel)
 ·exact k _ (by decide +kernel)
 ·exact k _ (by decide +kernel)
 ·exact k _ (by decide +kernel)
 ·exact k _ (by decide +kernel)
 ·exact k _ (by decide +kernel)
 ·exact k _ (by decide +kernel)
 ·exact k _ (by decide +kernel)
 ·exact a1 _ (by decide +kernel)
section
variable {P:Program} {w:World} {K:PySem.W.Frag} {mg:Str->Option Value} {base:Heap}
def spWS:Sp:=fun vs H Q _=>∃ (b:Addr) (z:Str) (B:Nat),vs=[.ref b,.str z]/\Box H b/\RowOk B z/\B<=300/\∀ (z':Str) (H':Hp),RowOk (3 * B + 8) z'->Oth b H H'->Q (.str z') H'
abbrev Ck:Stmt:=top 69
theorem Bi:Ao ["_law_box_here","_law_row_here","_law_words_here","_law_at","_law_word","_law_some"] ["_law_box_here","_law_row_here"] (Af Ck):=by trivial
theorem ok_ws (T:Txt mg) (F__law_take:FnAt P w K mg base "_law_take" 2 ["_law_box_here","_law_many"] spTake) (F:Al K mg "_law_word_spoilt" Ck ["_law_box_here","_law_row_here"]):FnAt P w K mg base "_law_word_spoilt" 3 ["_law_box_here","_law_row_here"] spWS:=by
 refine F.at Bi (fun vs H Q E h=>?_) (fun f cdv A outer s H vs Q E hr h=>?_)
 ·obtain ⟨b,z,B,rfl,_⟩:=h
  rfl
 ·obtain ⟨b,z,B,rfl,hb,ro,hB,q⟩:=h
  refine ⟨_,(Ac (As (i:=2) Bi.nd rfl (by trivial) (C5 PySem.F.plainAttrs_str PySem.F.slot_str_split PySem.F.type_str_split mt_split (pv 1) (Aa Au Ab)))
   (Ac (As (i:=3) Bi.nd rfl (by trivial) (Ay F__law_take hr (by decide) rfl (Aa (pv 0) (Aa (Ai Aq rfl T.n_len boot_len (Aa (pv 2) Ab)) Ab))))
   (Ac (As (i:=4) Bi.nd rfl (by trivial) (A0 An (pv 2) (pv 3) (fun _ _=>rfl)))
   (Ac (As (i:=5) Bi.nd rfl (by trivial) (Bf (Aa (A3 Bo (pv 4) Au) (Aa (A3 Bo Au (pv 4)) (Aa (Ba sl_str (pv 4) Bp (Bk (pe_un un_neg Ae))) (Aa (A3 Bo (pv 4) Au) (Aa (pe_bm0 PySem.F.plainAttrs_str PySem.F.slot_str_upper PySem.F.type_str_upper mt_upper (pv 4)) (Aa Au (Aa (A3 Bo (A3 Bo (pv 4) Au) (pv 4)) (Aa Au Ab))))))))))
   (Ac (As (i:=5) Bi.nd rfl (by trivial) (A3 Ev (pv 5) (Bf (Aa Au (Aa Au (Aa Au (Aa Au (Aa Au (Aa Au (Aa Au (Aa (A3 Bo (pv 4) Au) Ab)))))))))))
   (Ac (ps_asg (A0 An (pv 5) (Ay F__law_take hr (by decide) rfl (Aa (pv 0) (Aa Ae Ab))) (fun _ _=>rfl)) (pg_sub (pv 2) (pv 3) set_list))
   (Ac (ps_mid (A5 (Av El (Ay F__law_take hr (by decide) rfl (Aa (pv 0) (Aa Ae Ab))) Ae (A1 _)) (Ad (Bb (C5 PySem.F.plainAttrs_list PySem.F.slot_list_pop PySem.F.type_list_pop mt_popAt (pv 2) (Aa (Ay F__law_take hr (by decide) rfl (Aa (pv 0) (Aa (Ai Aq rfl T.n_len boot_len (Aa (pv 2) Ab)) Ab))) Ab)))) Am))
   (Ad (Ap (C5 PySem.F.plainAttrs_str PySem.F.slot_str_join PySem.F.type_str_join mt_join Au (Aa (pv 2) Ab))))))))))),?_⟩
  have hs:sizeLine=16777216:=sizeLine_eq
  have zl:=ro.len
  refine ⟨_,rfl,rfl,z," ",rfl,rfl,(by decide +kernel),(by omega),fun lw hlw=>?_⟩
  have wd:=wd_split ro
  have wpos:=split_pos z " "
  generalize Txt.split z " "=ws at wd wpos ⊢
  generalize hQ9:upd H lw (.lst (ws.map V.str))=H1
  have p1:=Na hQ9 hb hlw
  have e1:=Ns hQ9
  have nwb:lw≠b:=Box.ne hb hlw
  have wl:ws.length<=301:=by have:=wd.len; omega
  have lm:(((ws.map V.str).length:Nat):Int)=(ws.length:Int):=by rw [List.length_map]
  refine ⟨_,rfl,_,rfl,_,_,rfl,.inl ⟨_,SqL.of e1,rfl⟩,b,_,rfl,p1.box,(by rw [lm]; omega),(by rw [lm]; show (ws.length:Int) < 10000000000000000000000000000000000000000; omega),fun i H2 i0 i1 o2=>?_⟩
  rw [lm] at i1
  obtain ⟨i,rfl,hi⟩:=Ew i0 i1
  have p2:=p1.trans o2
  have e2:=o2.oth _ _ e1 nwb
  obtain ⟨wd0,hwd0⟩:∃ x,ws[i]?=some x:=⟨_,List.getElem?_eq_getElem hi⟩
  have aw:=wd.asc wd0 (List.mem_of_getElem? hwd0)
  have w300:wd0.length<=301:=by
   have h1:=sum_set (w':="") hwd0
   have h2:sumL ws + ws.length<=B + 1:=wd.len
   have e:("":Str).length=0:=rfl
   omega
  refine ⟨_,rfl,_,rfl,lw,_,_,V.str wd0,rfl,rfl,SqL.of e2,(Az (by rw [List.getElem?_map,hwd0]; rfl)),?_⟩
  have c1:∀ y:Str,y.length<=1->wd0.length + y.length<=sizeLine:=fun y h=>by omega
  have c2:∀ y:Str,y.length<=1->y.length + wd0.length<=sizeLine:=fun y h=>by omega
  have c3:(wd0 ++ Str.ofString " ").length + wd0.length<=sizeLine:=by
   have:(Str.ofString " ").length=1:=by decide +kernel
   rw [D2]
   omega
  have ul:=up_len wd0
  have hup:Builtin.Str.tooLong (upZ wd0).cps.size=false:=by
   unfold Builtin.Str.tooLong
   exact decide_eq_false (by show ¬ _ < (upZ wd0).length; omega)
  refine ⟨_,rfl,_,_,rfl,rfl,c1 _ (by decide +kernel),?_⟩
  refine ⟨_,rfl,_,_,rfl,rfl,c2 _ (by decide +kernel),?_⟩
  refine ⟨_,rfl,_,rfl,_,rfl,wd0,rfl,(by omega),?_⟩
  refine ⟨_,rfl,_,_,rfl,rfl,c1 _ (by decide +kernel),?_⟩
  refine ⟨_,rfl,rfl,wd0,rfl,rfl,hup,?_⟩
  refine ⟨_,rfl,_,_,rfl,rfl,c1 _ (by decide +kernel),_,rfl,_,_,rfl,rfl,c3,(by exact Z8),fun l1 hl1=>?_⟩
  have q3:Oth b H2 (upd H2 l1 (.lst ((sm1 wd0).map V.str))):=Oth.add p2.box hl1
  have e3:upd H2 l1 (.lst ((sm1 wd0).map V.str)) l1=some (.lst ((sm1 wd0).map V.str)):=Ag
  have n1b:l1≠b:=Box.ne p2.box hl1
  show tSeq _ _ _ _ (upd H2 l1 (.lst ((sm1 wd0).map V.str)))
  generalize upd H2 l1 (.lst ((sm1 wd0).map V.str))=H3 at q3 e3 ⊢
  have p3:=p2.trans q3
  refine ⟨_,rfl,_,rfl,_,_,rfl,rfl,c1 _ (by decide +kernel),(by exact Z8),fun l2 hl2=>?_⟩
  have q4:Oth b H3 (upd H3 l2 (.lst ((sm2 wd0).map V.str))):=Oth.add p3.box hl2
  have e4:upd H3 l2 (.lst ((sm2 wd0).map V.str)) l2=some (.lst ((sm2 wd0).map V.str)):=Ag
  show rCat _ _ (upd H3 l2 (.lst ((sm2 wd0).map V.str))) _
  generalize upd H3 l2 (.lst ((sm2 wd0).map V.str))=H4 at q4 e4 ⊢
  have p4:=p3.trans q4
  refine ⟨l1,l2,_,_,rfl,rfl,q4.oth _ _ e3 n1b,e4,(by rw [List.length_map,List.length_map]; show 8 + 8<=sizeLine; omega),fun l3 hl3=>?_⟩
  rw [← List.map_append]
  generalize hQ9:upd H4 l3 (.lst ((sm1 wd0 ++ sm2 wd0).map V.str))=H5
  have q5:=Na hQ9 p4.box hl3
  have e5:=Ns hQ9
  have n3b:l3≠b:=Box.ne p4.box hl3
  have p5:=p4.trans q5
  refine ⟨_,rfl,_,rfl,b,16,rfl,p5.box,(by decide),(by decide),fun r H6 r0 r16 o6=>?_⟩
  have p6:=p5.trans o6
  obtain ⟨v,ev,mv⟩:=atI_get (xs:=(sm1 wd0 ++ sm2 wd0).map V.str) r0 r16
  obtain ⟨w',hw',rfl⟩:=List.mem_map.mp mv
  obtain ⟨wl',wa'⟩:=sm_ok aw w' hw'
  refine ⟨l3,_,_,V.str w',rfl,rfl,SqL.of (o6.oth _ _ e5 n3b),ev,?_⟩
  have e6:H6 lw=some (.lst (ws.map V.str)):=((((q3.trans q4).trans q5).trans o6)).oth _ _ e2 nwb
  refine ⟨_,rfl,_,rfl,lw,_,_,i,rfl,rfl,e6,(by rw [List.length_map]; exact ixN_ok hi),?_⟩
  rw [← List.map_set]
  have wdS:=wd.set hwd0 wl' wa'
  have p7:Oth b H (upd H6 lw (.lst ((ws.set i w').map V.str))):=by
   obtain ⟨x,y,zz,hbx⟩:=p6.box
   refine ⟨⟨x,y,zz,by rw [Aj (Ne.symm nwb)]; exact hbx⟩,fun a o e na=>?_⟩
   rw [Aj (Ah e hlw)]
   exact p6.oth _ _ e na
  have e7:upd H6 lw (.lst ((ws.set i w').map V.str)) lw=some (.lst ((ws.set i w').map V.str)):=Ag
  generalize upd H6 lw (.lst ((ws.set i w').map V.str))=H7 at p7 e7 ⊢
  have sl:(ws.set i w').length=ws.length:=List.length_set ..
  generalize ws.set i w'=ws2 at wdS e7 sl
  refine ⟨fun σ' H'=>∃ (v3 v4 v5:Option V) (ws3:List Str),σ'=[some (.ref b),some (.str z),some (.ref lw),v3,v4,v5]/\Oth b H H'/\H' lw=some (.lst (ws3.map V.str))/\WdOk ws3 (3 * B + 8),?_,?_⟩
  ·refine ⟨_,rfl,b,4,rfl,p7.box,(by decide),(by decide),fun u H8 _ _ o8=>⟨rfl,_,rfl,ite2 (fun _=>?_) (fun _=>?_)⟩⟩
   ·have e8:=o8.oth _ _ e7 nwb
    have p8:=p7.trans o8
    have lm2:(((ws2.map V.str).length:Nat):Int)=(ws.length:Int):=by rw [List.length_map,sl]
    refine ⟨_,rfl,.inl ⟨rfl,_,SqL.of e8⟩,_,rfl,_,rfl,_,_,rfl,.inl ⟨_,SqL.of e8,rfl⟩,b,_,rfl,p8.box,(by rw [lm2]; omega),(by rw [lm2]; show (ws.length:Int) < 10000000000000000000000000000000000000000; omega),fun j H9 j0 j1 o9=>?_⟩
    rw [lm2] at j1
    obtain ⟨j,rfl,hj⟩:=Ew j0 j1
    have e9:=o9.oth _ _ e8 nwb
    have p9:=p8.trans o9
    obtain ⟨y,hy⟩:∃ y,(ws2.map V.str)[j]?=some y:=⟨_,List.getElem?_eq_getElem (by rw [List.length_map,sl]; exact hj)⟩
    refine ⟨lw,_,_,j,y,rfl,rfl,e9,(by omega),(by omega),(ixN_seq (ixN_ok (by rw [List.length_map,sl]; exact hj))).1,hy,?_⟩
    refine ⟨_,_,_,ws2.eraseIdx j,rfl,?_,?_,wdS.erase j⟩
    ·obtain ⟨x,y,zz,hbx⟩:=p9.box
     refine ⟨⟨x,y,zz,by rw [Aj (Ne.symm nwb)]; exact hbx⟩,fun a o e na=>?_⟩
     rw [Aj (Ah e hlw)]
     exact p9.oth _ _ e na
    ·rw [Ag,erase_map]
   ·exact ⟨_,_,_,ws2,rfl,p7.trans o8,o8.oth _ _ e7 nwb,wdS⟩
  ·rintro σ' H8 ⟨v3,v4,v5,ws3,rfl,p8,e8,w3⟩
   have b1:(" ":Str).length=1:=by decide +kernel
   exact ⟨rfl,_,rfl,_,lw,ws3,rfl,rfl,SqL.of e8,(by have:=w3.len; rw [b1]; omega),q _ _ w3.row p8⟩
end
end K34
namespace K34
open PySem L2 PyProof.Rows PySem.SeqAt
theorem RowOk.mono {B C:Nat} {z:Str} (h:RowOk B z) (hc:B<=C):RowOk C z:=⟨Nat.le_trans h.len hc,h.asc⟩
theorem cut_down (zs:List Str) {k:Nat} (h:k + 1<=zs.length):cutV (zs.map V.str) (some ((k:Int) + 1)) none=(zs.drop (k + 1)).map V.str:=by
 unfold cutV
 rw [show (k:Int) + 1=((k + 1:Nat):Int) by omega,HT.sIx_nat,HT.sIx_none,Nat.min_eq_left (by rw [List.length_map]; exact h),List.map_drop]
 exact List.take_of_length_le (by rw [List.length_drop]; omega)
theorem rows_less {B:Nat} {rs:List Str} (h:∀ z ∈ rs,RowOk B z) (k:Nat):∀ z ∈ rs.take k ++ rs.drop (k + 1),RowOk B z:=fun z hz=>by
 rcases List.mem_append.mp hz with hz | hz
 ·exact h z (List.mem_of_mem_take hz)
 ·exact h z (List.mem_of_mem_drop hz)
theorem len_less {rs:List Str} {k:Nat} (h:k < rs.length):(rs.take k ++ rs.drop (k + 1)).length + 1=rs.length:=by
 rw [List.length_append,List.length_take,List.length_drop]
 omega
section
variable {P:Program} {w:World} {K:PySem.W.Frag} {mg:Str->Option Value} {base:Heap}
def spSp:Sp:=fun vs H Q _=>∃ (b l:Addr) (rs:List Str) (B:Nat),vs=[.ref b,.ref l]/\Box H b/\H l=some (.lst (rs.map V.str))/\1<=rs.length/\rs.length<=60/\(∀ z ∈ rs,RowOk B z)/\B<=300/\
 ∀ (l':Addr) (rs':List Str) (H':Hp),Oth b H H'->H' l'=some (.lst (rs'.map V.str))->rs'.length<=rs.length + 1->(∀ z ∈ rs',RowOk (3 * B + 8) z)->Q (.ref l') H'
abbrev Ee:Stmt:=top 70
theorem Cw:Ao ["_law_box_here","_law_rows_here","_law_way","_law_at","_law_other","_law_found"] ["_law_box_here","_law_rows_here"] (Af Ee):=by trivial
theorem ok_sp (T:Txt mg) (F__law_take:FnAt P w K mg base "_law_take" 2 ["_law_box_here","_law_many"] spTake) (F__law_word_spoilt:FnAt P w K mg base "_law_word_spoilt" 3 ["_law_box_here","_law_row_here"] spWS) (F:Al K mg "_law_spoilt" Ee ["_law_box_here","_law_rows_here"]):FnAt P w K mg base "_law_spoilt" 4 ["_law_box_here","_law_rows_here"] spSp:=by
 refine F.at Cw (fun vs H Q E h=>?_) (fun f cdv A outer s H vs Q E hr h=>?_)
 ·obtain ⟨b,l,rs,B,rfl,_⟩:=h
  rfl
 ·obtain ⟨b,l,rs,B,rfl,hb,hl,h1,h60,ro,hB,q⟩:=h
  refine ⟨_,(Ac (As (i:=2) Cw.nd rfl (by trivial) (Ay F__law_take hr (by decide) rfl (Aa (pv 0) (Aa Ae Ab))))
   (Ac (As (i:=3) Cw.nd rfl (by trivial) (Ay F__law_take hr (by decide) rfl (Aa (pv 0) (Aa (Ai Aq rfl T.n_len boot_len (Aa (pv 1) Ab)) Ab))))
   (Ac (As (i:=4) Cw.nd rfl (by trivial) (Ay F__law_take hr (by decide) rfl (Aa (pv 0) (Aa (Ai Aq rfl T.n_len boot_len (Aa (pv 1) Ab)) Ab))))
   (Ac (A5 (Av op_lt (pv 2) Ae (A1 _)) (Ad (Ap (A3 Ev (A3 Ev (Ba Cc (pv 1) Bp (Bk (pv 3))) (Bf (Aa (Ay F__law_word_spoilt hr (by decide) rfl (Aa (pv 0) (Aa (A0 An (pv 1) (pv 3) (fun _ _=>rfl)) Ab))) Ab))) (Ba Cc (pv 1) (Bk (A3 B4 (pv 3) Ae)) Bp)))) Am)
   (Ac (A5 (Av El (pv 2) Ae (A1 _)) (Ad (Ap (A3 Ev (Ba Cc (pv 1) Bp (Bk (pv 3))) (Ba Cc (pv 1) (Bk (A3 B4 (pv 3) Ae)) Bp)))) Am)
   (Ac (A5 (Av El (pv 2) Ae (A1 _)) (Ad (Ap (A3 Ev (A3 Ev (Ba Cc (pv 1) Bp (Bk (pv 3))) (Ba Cc (pv 1) (Bk (A3 B4 (pv 3) Ae)) Bp)) (Bf (Aa (A0 An (pv 1) (pv 3) (fun _ _=>rfl)) Ab))))) Am)
   (Ac (A5 (Av El (pv 2) Ae (A1 _)) (Ad (Ap (A3 Ev (pv 1) (Bf (Aa (A0 An (Bf (Aa Au (Aa Au (Aa (A0 An (pv 1) (pv 4) (fun _ _=>rfl)) Ab)))) (Ay F__law_take hr (by decide) rfl (Aa (pv 0) (Aa Ae Ab))) (fun _ _=>rfl)) Ab))))) Am)
   (Ac (As (i:=5) Cw.nd rfl (by trivial) (Bm call_list_of rfl T.n_list boot_list (Aa (pv 1) Ab)))
   (Ac (ps_asg (A0 An (pv 1) (pv 4) (fun _ _=>rfl)) (pg_sub (pv 5) (pv 3) set_list))
   (Ac (ps_asg (A0 An (pv 1) (pv 3) (fun _ _=>rfl)) (pg_sub (pv 5) (pv 4) set_list))
   (Ad (Ap (pv 5))))))))))))),?_⟩
  have hs:sizeLine=16777216:=sizeLine_eq
  have nlb:=C8 hb hl
  have lm:(((rs.map V.str).length:Nat):Int)=(rs.length:Int):=by rw [List.length_map]
  have big:(rs.length:Int) < 10000000000000000000000000000000000000000:=by omega
  refine ⟨_,rfl,b,8,rfl,hb,(by decide),(by decide),fun way H1 w0 w8 o1=>?_⟩
  refine ⟨_,rfl,_,rfl,_,_,rfl,.inl ⟨_,SqL.of (o1.oth _ _ hl nlb),rfl⟩,b,_,rfl,o1.box,(by rw [lm]; omega),(by rw [lm]; exact big),fun at_ H2 a0 a1 o2=>?_⟩
  rw [lm] at a1
  obtain ⟨at_,rfl,ha⟩:=Ew a0 a1
  have p2:=o1.trans o2
  refine ⟨_,rfl,_,rfl,_,_,rfl,.inl ⟨_,SqL.of (p2.oth _ _ hl nlb),rfl⟩,b,_,rfl,p2.box,(by rw [lm]; omega),(by rw [lm]; exact big),fun ot H3 t0 t1 o3=>?_⟩
  rw [lm] at t1
  obtain ⟨ot,rfl,ht⟩:=Ew t0 t1
  have p3:=p2.trans o3
  have e3:=p3.oth _ _ hl nlb
  obtain ⟨za,hza⟩:∃ x,rs[at_]?=some x:=⟨_,List.getElem?_eq_getElem ha⟩
  obtain ⟨zo,hzo⟩:∃ x,rs[ot]?=some x:=⟨_,List.getElem?_eq_getElem ht⟩
  have aza:atI (rs.map V.str) (at_:Int)=some (.str za):=Az (by rw [List.getElem?_map,hza]; rfl)
  have azo:atI (rs.map V.str) (ot:Int)=some (.str zo):=Az (by rw [List.getElem?_map,hzo]; rfl)
  have ra:=ro za (List.mem_of_getElem? hza)
  have rz:=ro zo (List.mem_of_getElem? hzo)
  have c1:=cut_upto rs (k:=at_) (by omega)
  have c2:=cut_down rs (k:=at_) (by omega)
  have less:=rows_less ro at_
  have lless:=len_less ha
  have tl:(rs.take at_).length<=60:=by rw [List.length_take]; omega
  have dl:(rs.drop (at_ + 1)).length<=60:=by rw [List.length_drop]; omega
  refine ⟨_,rfl,_,_,rfl,rfl,_,rfl,ite2 (fun _=>?_) (fun _=>?_)⟩
  ·refine ⟨_,rfl,_,rfl,_,rfl,l,_,rfl,SqL.of e3,fun l1 hl1=>?_⟩
   rw [c1]
   generalize hQ9:upd H3 l1 (.lst ((rs.take at_).map V.str))=H4
   have q4:=Na hQ9 p3.box hl1
   have e4:=Ns hQ9
   have n1:l1≠b:=Box.ne p3.box hl1
   refine ⟨_,rfl,_,rfl,_,rfl,l,_,_,V.str za,rfl,rfl,SqL.of (q4.oth _ _ e3 nlb),aza,b,za,B,rfl,q4.box,ra,hB,fun z' H5 rz' o5=>⟨(by exact Z1),fun l2 hl2=>?_⟩⟩
   generalize hQ9:upd H5 l2 (.lst [.str z'])=H6
   have q6:=Na hQ9 o5.box hl2
   have e6:H6 l2=some (.lst (([z']:List Str).map V.str)):=Ns hQ9
   have n2:l2≠b:=Box.ne o5.box hl2
   have q46:=o5.trans q6
   refine ⟨l1,l2,_,_,rfl,rfl,q46.oth _ _ e4 n1,e6,(by rw [List.length_map]; show _ + 1<=sizeLine; omega),fun l3 hl3=>?_⟩
   rw [← List.map_append]
   generalize hQ9:upd H6 l3 (.lst ((rs.take at_ ++ [z']).map V.str))=H7
   have q7:=Na hQ9 q6.box hl3
   have e7:=Ns hQ9
   have n3:l3≠b:=Box.ne q6.box hl3
   have p7:=((p3.trans q4).trans q46).trans q7
   refine ⟨_,rfl,_,rfl,_,_,rfl,rfl,_,rfl,l,_,rfl,SqL.of (p7.oth _ _ hl nlb),fun l4 hl4=>?_⟩
   rw [c2]
   generalize hQ9:upd H7 l4 (.lst ((rs.drop (at_ + 1)).map V.str))=H8
   have q8:=Na hQ9 p7.box hl4
   have e8:=Ns hQ9
   refine ⟨l3,l4,_,_,rfl,rfl,q8.oth _ _ e7 n3,e8,(by rw [List.length_map,List.length_map,List.length_append]; show _ + 1 + _<=sizeLine; omega),fun l5 hl5=>?_⟩
   rw [← List.map_append]
   refine q l5 (rs.take at_ ++ [z'] ++ rs.drop (at_ + 1)) _ ((p7.trans q8).trans (Oth.add q8.box hl5)) Ag ?_ fun z hz=>?_
   ·rw [List.length_append,List.length_append,List.length_take,List.length_drop,List.length_singleton]
    omega
   ·rcases List.mem_append.mp hz with hz | hz
    ·rcases List.mem_append.mp hz with hz | hz
     ·exact (ro z (List.mem_of_mem_take hz)).mono (by omega)
     ·rw [List.mem_singleton] at hz; rw [hz]; exact rz'
    ·exact (ro z (List.mem_of_mem_drop hz)).mono (by omega)
  refine ⟨_,rfl,rfl,_,rfl,ite2 (fun _=>?_) (fun _=>?_)⟩
  ·refine ⟨_,rfl,_,rfl,_,rfl,l,_,rfl,SqL.of e3,fun l1 hl1=>?_⟩
   rw [c1]
   generalize hQ9:upd H3 l1 (.lst ((rs.take at_).map V.str))=H4
   have q4:=Na hQ9 p3.box hl1
   have e4:=Ns hQ9
   have n1:l1≠b:=Box.ne p3.box hl1
   have p4:=p3.trans q4
   refine ⟨_,rfl,_,rfl,_,_,rfl,rfl,_,rfl,l,_,rfl,SqL.of (p4.oth _ _ hl nlb),fun l4 hl4=>?_⟩
   rw [c2]
   generalize hQ9:upd H4 l4 (.lst ((rs.drop (at_ + 1)).map V.str))=H8
   have q8:=Na hQ9 p4.box hl4
   have e8:=Ns hQ9
   refine ⟨l1,l4,_,_,rfl,rfl,q8.oth _ _ e4 n1,e8,(by rw [List.length_map,List.length_map]; omega),fun l5 hl5=>?_⟩
   rw [← List.map_append]
   exact q l5 (rs.take at_ ++ rs.drop (at_ + 1)) _ ((p4.trans q8).trans (Oth.add q8.box hl5)) Ag (by omega) fun z hz=>(less z hz).mono (by omega)
  refine ⟨_,rfl,rfl,_,rfl,ite2 (fun _=>?_) (fun _=>?_)⟩
  ·refine ⟨_,rfl,_,rfl,_,rfl,l,_,rfl,SqL.of e3,fun l1 hl1=>?_⟩
   rw [c1]
   generalize hQ9:upd H3 l1 (.lst ((rs.take at_).map V.str))=H4
   have q4:=Na hQ9 p3.box hl1
   have e4:=Ns hQ9
   have n1:l1≠b:=Box.ne p3.box hl1
   have p4:=p3.trans q4
   refine ⟨_,rfl,_,rfl,_,_,rfl,rfl,_,rfl,l,_,rfl,SqL.of (p4.oth _ _ hl nlb),fun l4 hl4=>?_⟩
   rw [c2]
   generalize hQ9:upd H4 l4 (.lst ((rs.drop (at_ + 1)).map V.str))=H8
   have q8:=Na hQ9 p4.box hl4
   have e8:=Ns hQ9
   refine ⟨l1,l4,_,_,rfl,rfl,q8.oth _ _ e4 n1,e8,(by rw [List.length_map,List.length_map]; omega),fun l5 hl5=>?_⟩
   rw [← List.map_append]
   have p8:=p4.trans q8
   generalize hQ9:upd H8 l5 (.lst ((rs.take at_ ++ rs.drop (at_ + 1)).map V.str))=H9
   have q9:=Na hQ9 q8.box hl5
   have e9:=Ns hQ9
   have n5:l5≠b:=Box.ne q8.box hl5
   have p9:=p8.trans q9
   refine ⟨_,rfl,_,rfl,l,_,_,V.str za,rfl,rfl,SqL.of (p9.oth _ _ hl nlb),aza,(by exact Z1),fun l6 hl6=>?_⟩
   generalize hQ9:upd H9 l6 (.lst [.str za])=H10
   have q10:=Na hQ9 q9.box hl6
   have e10:H10 l6=some (.lst (([za]:List Str).map V.str)):=Ns hQ9
   refine ⟨l5,l6,_,_,rfl,rfl,q10.oth _ _ e9 n5,e10,(by rw [List.length_map]; show _ + 1<=sizeLine; omega),fun l7 hl7=>?_⟩
   rw [← List.map_append]
   refine q l7 (rs.take at_ ++ rs.drop (at_ + 1) ++ [za]) _ ((p9.trans q10).trans (Oth.add q10.box hl7)) Ag (by rw [List.length_append,List.length_singleton]; omega) fun z hz=>?_
   rcases List.mem_append.mp hz with hz | hz
   ·exact (less z hz).mono (by omega)
   ·rw [List.mem_singleton] at hz; rw [hz]; exact ra.mono (by omega)
  refine ⟨_,rfl,rfl,_,rfl,ite2 (fun _=>?_) (fun _=>?_)⟩
  ·refine ⟨_,rfl,_,rfl,_,rfl,l,_,_,V.str zo,rfl,rfl,SqL.of e3,azo,(by exact Z3),fun l1 hl1=>?_⟩
   have q4:Oth b H3 (upd H3 l1 (.lst (([Str.ofString "",Str.ofString " ",zo]:List Str).map V.str))):=Oth.add p3.box hl1
   have e4:upd H3 l1 (.lst (([Str.ofString "",Str.ofString " ",zo]:List Str).map V.str)) l1=some (.lst (([Str.ofString "",Str.ofString " ",zo]:List Str).map V.str)):=Ag
   have n1:l1≠b:=Box.ne p3.box hl1
   show tCall _ _ _ _ _ (upd H3 l1 (.lst (([Str.ofString "",Str.ofString " ",zo]:List Str).map V.str))) _
   generalize upd H3 l1 (.lst (([Str.ofString "",Str.ofString " ",zo]:List Str).map V.str))=H4 at q4 e4 ⊢
   refine ⟨_,rfl,b,3,rfl,q4.box,(by decide),(by decide),fun r H5 r0 r3 o5=>?_⟩
   obtain ⟨v,ev,mv⟩:=atI_get (xs:=([Str.ofString "",Str.ofString " ",zo]:List Str).map V.str) r0 r3
   obtain ⟨y,hy,rfl⟩:=List.mem_map.mp mv
   have ry:RowOk (3 * B + 8) y:=by
    simp only [List.mem_cons,List.not_mem_nil,or_false] at hy
    rcases hy with rfl | rfl | rfl
    ·exact ⟨by show 0<=_; omega,asc_of (by decide +kernel)⟩
    ·exact ⟨by show 1<=_; omega,asc_of (by decide +kernel)⟩
    ·exact rz.mono (by omega)
   refine ⟨l1,_,_,V.str y,rfl,rfl,SqL.of (o5.oth _ _ e4 n1),ev,(by exact Z1),fun l2 hl2=>?_⟩
   have p5:=(p3.trans q4).trans o5
   generalize hQ9:upd H5 l2 (.lst [.str y])=H6
   have q6:=Na hQ9 o5.box hl2
   have e6:H6 l2=some (.lst (([y]:List Str).map V.str)):=Ns hQ9
   have p6:=p5.trans q6
   refine ⟨l,l2,_,_,rfl,rfl,p6.oth _ _ hl nlb,e6,(by rw [List.length_map]; show _ + 1<=sizeLine; omega),fun l3 hl3=>?_⟩
   rw [← List.map_append]
   refine q l3 (rs ++ [y]) _ (p6.trans (Oth.add q6.box hl3)) Ag (by rw [List.length_append]; exact Nat.le_refl _) fun z hz=>?_
   rcases List.mem_append.mp hz with hz | hz
   ·exact (ro z hz).mono (by omega)
   ·rw [List.mem_singleton] at hz; rw [hz]; exact ry
  refine ⟨_,rfl,l,_,rfl,.inl (SqL.of e3),fun lf hlf=>?_⟩
  generalize hQ9:upd H3 lf (.lst (rs.map V.str))=H4
  have q4:=Na hQ9 p3.box hlf
  have e4:=Ns hQ9
  have e4l:=Nw hQ9 hlf _ _ e3
  have nf:lf≠b:=Box.ne p3.box hlf
  have nfl:l≠lf:=Ah e3 hlf
  have fH:H lf=none:=p3.free hlf
  have p4:=p3.trans q4
  have step:∀ {H':Hp} {o:HO},Oth b H H'->Oth b H (upd H' lf o):=fun {H' o} p=>by
   obtain ⟨x,y,zz,hbx⟩:=p.box
   refine ⟨⟨x,y,zz,by rw [Aj (Ne.symm nf)]; exact hbx⟩,fun a o e na=>?_⟩
   rw [Aj (Ah e fH)]
   exact p.oth _ _ e na
  refine ⟨_,rfl,_,rfl,l,_,_,V.str zo,rfl,rfl,SqL.of e4l,azo,_,rfl,_,rfl,lf,_,_,at_,rfl,rfl,e4,(by rw [List.length_map]; exact ixN_ok ha),?_⟩
  rw [← List.map_set]
  have p5:=step (o:=.lst ((rs.set at_ zo).map V.str)) p4
  have e5:upd H4 lf (.lst ((rs.set at_ zo).map V.str)) lf=some (.lst ((rs.set at_ zo).map V.str)):=Ag
  have e5l:upd H4 lf (.lst ((rs.set at_ zo).map V.str)) l=some (.lst (rs.map V.str)):=by rw [Aj nfl]; exact e4l
  generalize upd H4 lf (.lst ((rs.set at_ zo).map V.str))=H5 at p5 e5 e5l ⊢
  refine ⟨_,rfl,_,rfl,l,_,_,V.str za,rfl,rfl,SqL.of e5l,aza,_,rfl,_,rfl,lf,_,_,ot,rfl,rfl,e5,(by rw [List.length_map,List.length_set]; exact ixN_ok ht),?_⟩
  rw [← List.map_set]
  refine ⟨_,rfl,q lf ((rs.set at_ zo).set ot za) _ (step p5) Ag (by rw [List.length_set,List.length_set]; omega) fun z hz=>?_⟩
  rcases List.mem_or_eq_of_mem_set hz with hz | rfl
  ·rcases List.mem_or_eq_of_mem_set hz with hz | rfl
   ·exact (ro z hz).mono (by omega)
   ·exact rz.mono (by omega)
  ·exact ra.mono (by omega)
end
end K34
namespace K34
open PySem L2 PyProof.Rows PySem.SeqAt
def bj:Nat->Nat
 | 0=>90
 | 1=>278
 | _=>842
theorem join_fit {rs:List Str} (h:∀ z ∈ rs,RowOk 1000 z) (hn:rs.length<=100):(rs.map (·.length)).sum + rs.length * (("\n":Str)).length<=16777216:=by
 have h2:=sum_le fun z hz=>(h z hz).len
 have h3:("\n":Str).length=1:=by decide +kernel
 rw [h3]
 have h4:=Nat.mul_le_mul_right 1000 hn
 omega
section
variable {P:Program} {w:World} {K:PySem.W.Frag} {mg:Str->Option Value} {base:Heap} {C:Addr}
abbrev slaw:Stmt:=top 80
abbrev nLaw:List Str:=["_law_script","_law_names","_law_k","_law_box_here","_law_rows_here","_law_j","_law_thing"]
theorem sclaw:Ao nLaw ["_law_script"] (Af slaw):=by trivial
theorem law_body (T:Txt mg) (F__law_cell:FnAt P w K mg base "_law_cell" 1 ["_law_script","_law_k"] (spCell K)) (F__law_box:FnAt P w K mg base "_law_box" 1 ["_law_cell_here"] spBox) (F__law_take:FnAt P w K mg base "_law_take" 2 ["_law_box_here","_law_many"] spTake) (F__law_words:FnAt P w K mg base "_law_words" 3 ["_law_cell_here","_law_many"] spWords)
 (F__law_rows:FnAt P w K mg base "_law_rows" 4 ["_law_box_here","_law_names"] spRs) (F__law_spoilt:FnAt P w K mg base "_law_spoilt" 4 ["_law_box_here","_law_rows_here"] spSp) (F__law_right:FnAt P w K mg base "_law_right" 18 ["_law_text"] spRt) (F__law_told:FnAt P w K mg base "_law_told" 17 ["_law_text"] (spTold K C))
 (f:Addr) (cdv:Value) (A:Around) (outer:List Env) (s:Shared) (H:Hp) (vs:List V) (Q:VK) (E:XK) (hr:Room 18 (A.deeper (envOfC "law" (Af slaw) s.heap.objs.size f cdv))) (h:spLaw K vs H Q E) :
 ∃ t,PSs (cxOf CX0 P w K mg base nLaw "law" (Af slaw) f cdv A outer s H E).nox (B1 slaw) t/\t { nx:=fun _ H'=>Q .non H',rt:=Q } (start nLaw vs) H:=by
 obtain ⟨a,ns,rfl,hS,hl63,q⟩:=h
 refine ⟨_,(Ac (As (i:=1) sclaw.nd rfl (by trivial) (Ay F__law_words hr (by decide) rfl (Aa (Ay F__law_cell hr (by decide) rfl (Aa (pv 0) (Aa Ae Ab))) (Aa Ae Ab))))
  (Ac (C6 PassesOwn.never rfl (C0 rfl T.n_range (Aa (Ai (call_max2 rfl) rfl T.n_max boot_max (Aa Ae (Aa (Ai (call_min2 rfl) rfl T.n_min boot_min (Aa (Ai Aq rfl T.n_len boot_len (Aa (pv 0) Ab)) (Aa Ae Ab))) Ab))) Ab)) (Aw (i:=2) sclaw.nd rfl (by trivial)) (Ac (As (i:=3) sclaw.nd rfl (by trivial) (Ay F__law_box hr (by decide) rfl (Aa (Ay F__law_cell hr (by decide) rfl (Aa (pv 0) (Aa (pv 2) Ab))) Ab)))
  (Ac (As (i:=4) sclaw.nd rfl (by trivial) (Ay F__law_rows hr (by decide) rfl (Aa (pv 3) (Aa (pv 1) Ab))))
  (Ac (A5 (Bl (Bw (Ay F__law_right hr (by decide) rfl (Aa (C5 PySem.F.plainAttrs_str PySem.F.slot_str_join PySem.F.type_str_join mt_join Au (Aa (pv 4) Ab)) Ab)))) (Ad (Ap pe_bl)) Am)
  (Ac (C6 PassesOwn.never rfl (C0 rfl T.n_range (Aa (A0 An (Bf (Aa Ae (Aa Ae (Aa Ae (Aa Ae Ab))))) (Ay F__law_take hr (by decide) rfl (Aa (pv 3) (Aa Ae Ab))) (fun _ _=>rfl)) Ab)) (Aw (i:=5) sclaw.nd rfl (by trivial)) (Ad (A5 (Av (op_neNil hr.units0) (pv 4) (Bf Ab) (A1 _)) (Ad (As (i:=4) sclaw.nd rfl (by trivial) (Ay F__law_spoilt hr (by decide) rfl (Aa (pv 3) (Aa (pv 4) Ab))))) Am)))
  (Ac (A5 (Bl (Bw (Ay F__law_right hr (by decide) rfl (Aa (C5 PySem.F.plainAttrs_str PySem.F.slot_str_join PySem.F.type_str_join mt_join Au (Aa (pv 4) Ab)) Ab)))) (Ad (Ap pe_bl)) Am)
  (Ac (As (i:=6) sclaw.nd rfl (by trivial) (A0 An (Bf (Aa pe_non (Aa Ae (Aa (pv 4) (Aa pe_bl (Aa pe_dnewK (Aa (Bj (Aa Au Ab)) Ab))))))) (Ay F__law_take hr (by decide) rfl (Aa (pv 3) (Aa Ae Ab))) (fun _ _=>rfl)))
  (Ad (A5 (Av (op_neSD (hu64 hr)) (Ay F__law_told hr (by decide) rfl (Aa (pv 6) Ab)) (Bj (Aa Au (Aa Ae Ab))) (A1 _)) (Ad (Ap pe_bl)) Am)))))))))
  (Ad (Ap pe_bl)))),?_⟩
 have hs:sizeLine=16777216:=sizeLine_eq
 refine ⟨_,rfl,a,ns,0,rfl,hS,fun c0=>⟨c0,40,(by decide),rfl,fun ln zs H1 s1 e1 z40 zw znd _=>?_⟩⟩
 refine ⟨_,rfl,_,_,rfl,.inl ⟨_,s1.seq hS,rfl⟩,_,_,rfl,_,_,rfl,?_⟩
 generalize hL:(((ns.map V.int).length:Nat):Int)=L
 obtain ⟨N,eN,h8⟩:∃ N:Nat,(if (if (6:Int) < L then (6:Int) else L) > (3:Int) then (if (6:Int) < L then (6:Int) else L) else (3:Int))=(N:Int)/\N<=6:=by
  refine ⟨(if (if (6:Int) < L then (6:Int) else L) > (3:Int) then (if (6:Int) < L then (6:Int) else L) else (3:Int)).toNat,?_,?_⟩ <;> split <;> split <;> omega
 rw [eN]
 refine ⟨N,rfl,(by omega),(by omega),D5 (n:=N) (fun i σ H'=>∃ v2 v3 v4 v5 v6:Option V,σ=[some (.ref a),some (.ref ln),v2,v3,v4,v5,v6]/\Same H1 H') ⟨_,_,_,_,_,rfl,Same.refl _⟩ ?_ ?_⟩
 rotate_left
 ·rintro σ H2 ⟨v2,v3,v4,v5,v6,rfl,s2⟩
  exact q _
 rintro i σ H2 hi ⟨v2,v3,v4,v5,v6,rfl,s2⟩
 refine ⟨_,rfl,_,rfl,a,ns,i,(by show [V.ref a,V.int (0 + (i:Int))]=_; rw [Int.zero_add]),(s1.trans s2).seq hS,fun ci=>⟨ci,rfl,fun b x y z hb=>?_⟩⟩
 have O1:Oth b (upd H2 b (.lst [.int x,.int y,.int z])) (upd H2 b (.lst [.int x,.int y,.int z])):=Oth.refl ⟨x,y,z,Ag⟩
 have S0:∀ {H':Hp},Oth b (upd H2 b (.lst [.int x,.int y,.int z])) H'->Same H2 H':=fun {H'} o d u e=>o.oth d u (by rw [Aj (Ah e hb)]; exact e) (Ah e hb)
 generalize upd H2 b (.lst [.int x,.int y,.int z])=H3 at O1 S0 ⊢
 refine ⟨_,rfl,_,rfl,b,ln,zs,rfl,O1.box,S0 O1 _ _ (s2 _ _ e1),z40,zw,fun l rs H4 o4 _ el rl rok=>?_⟩
 have rok1:∀ z ∈ rs,RowOk 1000 z:=fun z hz=>(rok z hz).mono (by decide)
 refine ⟨rfl,_,rfl,_,l,rs,rfl,rfl,SqL.of el,join_fit rok1 (by omega),_,rfl,tx_ok rok1 (by omega),fun H5 s5=>⟨_,rfl,iteF ?_⟩⟩
 have nlb:=C8 o4.box el
 have o5:=o4.same s5
 refine ⟨(by exact Z4),fun lx hlx=>?_⟩
 generalize hQ9:upd H5 lx (.lst [.int 0,.int 1,.int 1,.int 2])=H6
 have q6:=Na hQ9 o5.box hlx
 have e6:=Ns hQ9
 have nxb:lx≠b:=Box.ne o5.box hlx
 refine ⟨_,rfl,b,4,rfl,q6.box,(by decide),(by decide),fun r H7 r0 r4 o7=>?_⟩
 obtain ⟨v,ev,mv⟩:=atI_get (xs:=([.int 0,.int 1,.int 1,.int 2]:List V)) r0 r4
 obtain ⟨g,hg2,rfl⟩:∃ g:Nat,g<=2/\v=V.int g:=by
  simp only [List.mem_cons,List.not_mem_nil,or_false] at mv
  rcases mv with rfl | rfl | rfl | rfl
  ·exact ⟨0,by decide,rfl⟩
  ·exact ⟨1,by decide,rfl⟩
  ·exact ⟨1,by decide,rfl⟩
  ·exact ⟨2,by decide,rfl⟩
 have p7:=(o5.trans q6).trans o7
 have el7:H7 l=some (.lst (rs.map V.str)):=(q6.trans o7).oth _ _ (s5 _ _ el) nlb
 refine ⟨lx,_,_,V.int g,rfl,rfl,SqL.of (o7.oth _ _ e6 nxb),ev,g,rfl,(by omega),(by omega),D5 (n:=g) (fun j σ H'=>∃ (v5:Option V) (l:Addr) (rs:List Str),σ=[some (.ref a),some (.ref ln),some (.int (0 + (i:Int))),some (.ref b),some (.ref l),v5,v6]/\Oth b H3 H'/\H' l=some (.lst (rs.map V.str))/\rs.length<=40 + j/\∀ z ∈ rs,RowOk (bj j) z) ⟨_,l,rs,rfl,p7,el7,by omega,rok⟩ ?_ ?_⟩
 ·rintro j σ H8 hj ⟨v5,l,rs,rfl,p8,e8,rl8,ro8⟩
  have hj:j < g:=hj
  refine ⟨_,rfl,(by exact Z0),fun le hle=>?_⟩
  generalize hQ9:upd H8 le (.lst [])=H9
  have q9:=Na hQ9 p8.box hle
  have e9:=Ns hQ9
  have nlb8:=C8 p8.box e8
  have e9l:=q9.oth _ _ e8 nlb8
  have p9:=p8.trans q9
  have bm:bj j<=278/\3 * bj j + 8<=bj (j + 1):=by
   match j,(show j < 2 by omega) with
   | 0,_=>decide
   | 1,_=>decide
  refine ⟨l,le,_,rfl,rfl,SqL.of e9l,SqL.of e9,_,rfl,?_⟩
  cases rs with
  | nil=>exact ⟨_,l,[],rfl,p9,e9l,by simp,fun z hz=>by cases hz⟩
  | cons z0 rs=>
    refine iteT ⟨_,rfl,_,rfl,b,l,z0 :: rs,bj j,rfl,p9.box,e9l,by simp,by omega,ro8,by omega,fun l' rs' H10 o10 e10 rl10 ro10=>?_⟩
    exact ⟨_,l',rs',rfl,p9.trans o10,e10,by omega,fun z hz=>(ro10 z hz).mono bm.2⟩
 rintro σ H8 ⟨v5,l,rs,rfl,p8,e8,rl8,ro8⟩
 have bg:bj g<=1000:=by
  match g,hg2 with
  | 0,_=>decide
  | 1,_=>decide
  | 2,_=>decide
 have rok8:∀ z ∈ rs,RowOk 1000 z:=fun z hz=>(ro8 z hz).mono bg
 refine ⟨rfl,_,rfl,_,l,rs,rfl,rfl,SqL.of e8,join_fit rok8 (by omega),_,rfl,tx_ok rok8 (by omega),fun H9 s9=>⟨_,rfl,iteF ?_⟩⟩
 have p9:=p8.same s9
 have e9:=s9 _ _ e8
 refine ⟨_,rfl,fun ld hld=>?_⟩
 generalize hQ9:upd H9 ld (.dK [])=H10
 have q10:=Na hQ9 p9.box hld
 have e10:=Ns hQ9
 have ndb:ld≠b:=Box.ne p9.box hld
 have p10:=p9.trans q10
 refine ⟨(by exact Z1),fun tp htp=>?_⟩
 generalize hQ9:upd H10 tp (.tup [.str "app"])=H11
 have q11:=Na hQ9 p10.box htp
 have e11:=Ns hQ9
 have ntb:tp≠b:=Box.ne p10.box htp
 have p11:=p10.trans q11
 refine ⟨(by exact Z6),fun lt hlt=>?_⟩
 generalize hQ9:upd H11 lt (.lst [.non,.int 7,.ref l,.bl true,.ref ld,.ref tp])=H12
 have q12:=Na hQ9 p11.box hlt
 have e12:=Ns hQ9
 have nltb:lt≠b:=Box.ne p11.box hlt
 have p12:=p11.trans q12
 refine ⟨_,rfl,b,6,rfl,p12.box,(by decide),(by decide),fun r2 H13 r20 r26 o13=>?_⟩
 have p13:=p12.trans o13
 obtain ⟨v,ev2,mv2⟩:=atI_get (xs:=([.non,.int 7,.ref l,.bl true,.ref ld,.ref tp]:List V)) r20 r26
 have nlb8:=C8 p9.box e9
 obtain ⟨kd,hkd,hns⟩:∃ kd:Kd,KdOf K H13 v kd/\kd.isA .str=false:=by
  simp only [List.mem_cons,List.not_mem_nil,or_false] at mv2
  rcases mv2 with rfl | rfl | rfl | rfl | rfl | rfl
  ·exact ⟨.non,TyOf.non,rfl⟩
  ·exact ⟨.int,TyOf.int _,rfl⟩
  ·exact ⟨.lst,TyOf.lst ((((q10.trans q11).trans q12).trans o13).oth _ _ e9 nlb8),rfl⟩
  ·exact ⟨.bl,TyOf.bl _,rfl⟩
  ·exact ⟨.dct,TyOf.dK (((q11.trans q12).trans o13).oth _ _ e10 ndb),rfl⟩
  ·exact ⟨.tup,TyOf.tup ((q12.trans o13).oth _ _ e11 ntb),rfl⟩
 refine ⟨lt,_,_,v,rfl,rfl,SqL.of (o13.oth _ _ e12 nltb),ev2,?_⟩
 refine ⟨_,rfl,v,rfl,.inr ⟨kd,hkd,hns,fun p H14 s14 hp=>⟨(by exact Z2),fun p2 hp2=>?_⟩⟩⟩
 have s15:=Same.new (o:=.tup [.str "text",.int 0]) hp2
 refine ⟨.tuple [.str "text",.int 0],.tup (SqT.of (s15 _ _ hp)) (.cons (.str _) (.cons (.int _) .nil)),.tup (SqT.of Ag) (.cons (.str _) (.cons (.int _) .nil)),(by decide +kernel),_,rfl,iteF ?_⟩
 exact ⟨_,_,_,_,_,rfl,s2.trans ((S0 p13).trans (s14.trans s15))⟩
end
end K34
namespace K34
open PySem L2 PyProof.Rows
def pOk (K:PySem.W.Frag) (C:Addr):Bool:=PySem.W.plainGet K C Str.empty && PySem.W.hasDictIn K C && PySem.W.plainOver K C && PySem.W.findIn K (.ref C) "__setattr__" == some (some (.builtin "object.__setattr__")) && PySem.W.findIn K (.ref C) "name" == some none && PySem.W.findIn K (.ref C) "offers" == some none && PySem.W.findIn K (.ref C) "beneath" == some none && PySem.W.findIn K (.ref C) "__class__" == some (some (.builtin "object.__class__")) && PySem.W.specialIn K (.builtin "object.__class__") "__get__" == some (some (.builtin "getset_descriptor.__get__")) && PySem.W.takesIn K (.builtin "object.__class__") == some true && PySem.W.mroIn K C (.type "object") == some true && PySem.W.kitOne K (.ref C) (.ref C) == some true
theorem pOk_of {K:PySem.W.Frag} {C:Addr} (h:pOk K C=true):PKit K C:=by
 unfold pOk at h
 simp only [Bool.and_eq_true,beq_iff_eq] at h
 obtain ⟨⟨⟨⟨⟨⟨⟨⟨⟨⟨⟨a,b⟩,c⟩,d⟩,e⟩,f⟩,g⟩,i⟩,j⟩,k⟩,l⟩,m⟩:=h
 exact ⟨⟨a,b,c,d⟩,e,f,g,i,j,k,l,m⟩
theorem ikt_weak:∀ vs H Q E,spIKT vs H Q E->spIKTA vs H Q E:=fun vs H Q E ⟨a,n,e,ha,hn,q⟩=>⟨textZ a n,e,(by have:=text_len ha (n:=(n:Int)) (by omega) (by omega); omega),fun H' s'=>by
 have hk:keyP (textZ a n)=some (a,n):=keyP_text (k:=(a,n)) ⟨ha,hn⟩
 rw [keyP_is,hk]
 exact q H' s'⟩
structure PTop (K:PySem.W.Frag) (C:Addr):Prop where
 ex:∃ (f:Addr) (fd:FuncData),FunD K "__init__" "Part.__init__" Da f fd/\Mk K C f/\Binds K fd psP []/\Binds K fd psP [.none,.none]
theorem ptop_of {K:PySem.W.Frag} {h:Heap} {C f D:Addr} {oc oc2:Value} {od an od2:Option Addr} {osl osl2:Array (Option Value)} {kV doc pm cdv ct:Value} {n2:Nat} (X:K.In h)
 (a:PySem.W.findIn K (.ref C) "__init__"=some (some (.ref f))) (i:PySem.W.isFn K (.ref f)=true) (l:K.lookup f=some ⟨oc,od,.func (PySem.W.fnOf "__init__" "Part.__init__" (Db Da) (B1 Da) (Af Da) (.ref D) kV doc pm an cdv ct),osl⟩)
 (c:PySem.W.codeIn K cdv "Part.__init__"=true) (k:PySem.W.keepIn K (.ref f)=true) (mk:PySem.W.makesIn K C=true) (kc:PySem.W.keepIn K (.ref C)=true)
 (dd:K.lookup D=some ⟨oc2,od2,.seq #[.none,.none] n2,osl2⟩):PTop (KOf X) C:=
 ⟨f,_,⟨⟨oc,od,_,kV,doc,pm,an,cdv,ct,osl,rfl,l,c⟩,k⟩,⟨mk,a,i,kc⟩,
   (fun s us hK hl=>(match us,(show us.length=4 by simpa using hl) with | [_,_,_,_],_=>PySem.W.binds_K hK rfl dd rfl rfl rfl)),
   (fun s us hK hl=>(match us,(show us.length=2 by simpa using hl) with | [_,_],_=>PySem.W.binds_K hK rfl dd rfl rfl rfl))⟩
def jOk (K:PySem.W.Frag) (C:Addr):Bool:=PySem.W.plainGet K C Str.empty && PySem.W.hasDictIn K C && PySem.W.plainOver K C && PySem.W.findIn K (.ref C) "__setattr__" == some (some (.builtin "object.__setattr__")) && PySem.W.makesIn K C && PySem.W.findIn K (.ref C) "__init__" == some (some (.builtin "object.__init__")) && PySem.W.keepIn K (.ref C)
theorem jOk_of {K:PySem.W.Frag} {C:Addr} (h:jOk K C=true):Cls K C/\PySem.W.makesIn K C=true/\PySem.W.findIn K (.ref C) "__init__"=some (some (.builtin "object.__init__"))/\PySem.W.keepIn K (.ref C)=true:=by
 unfold jOk at h
 simp only [Bool.and_eq_true,beq_iff_eq] at h
 obtain ⟨⟨⟨⟨⟨⟨a,b⟩,c⟩,d⟩,e⟩,f⟩,g⟩:=h
 exact ⟨⟨a,b,c,d⟩,e,f,g⟩
structure KTop (K:PySem.W.Frag) (mg:Str->Option Value) (cP ct co cd cm ce g c0 c1 c2 c3:Addr):Prop where
 gb:GBase K mg "GrantError" g
 xt:XTop K mg "BadText" "line" sBadText ct g
 xo:XTop K mg "BadOffers" "found" sBadOffers co g
 xd:XTop K mg "Doubled" "name" sDoubled cd g
 xm:XTop K mg "TooMany" "many" sTooMany cm g
 xe:XTop K mg "TooDeep" "many" sTooDeep ce g
 gc:(PySem.W.clsIn K g).isSome=true
 gt:PySem.W.typeIn K (.ref g)=some (.type "type")
 ge:PySem.W.mroIn K g (.type "BaseException")=some true
 ng:ct≠g/\co≠g/\cd≠g/\cm≠g/\ce≠g
 nd:([ct,co,cd,cm,ce]:List Addr).Nodup
 eP:PySem.W.kitOne K (.ref cP) (.type "bool")=some false
 mP:mg "Part"=some (.ref cP)
 m0:mg "Called"=some (.ref c0)
 m1:mg "Beside"=some (.ref c1)
 m2:mg "Joined"=some (.ref c2)
 m3:mg "Changed"=some (.ref c3)
 oP:pOk K cP=true
 iP:PTop K cP
 o0:jOk K c0=true
 o1:jOk K c1=true
 o2:jOk K c2=true
 o3:jOk K c3=true
 ptd:MTop K cP "told" "Part.told" Es ["self"]
 w0:MTop K c0 "word" "Called.word" Eg ["self"]
 w1:MTop K c1 "word" "Beside.word" Eh ["self"]
 w2:MTop K c2 "word" "Joined.word" Ef ["self"]
 w3:MTop K c3 "word" "Changed.word" Dp ["self"]
theorem ktop_mk {K:PySem.W.Frag} {mg:Str->Option Value} {cP ct co cd cm ce g c0 c1 c2 c3:Addr} (gb:GBase K mg "GrantError" g) (xt:XTop K mg "BadText" "line" sBadText ct g) (xo:XTop K mg "BadOffers" "found" sBadOffers co g) (xd:XTop K mg "Doubled" "name" sDoubled cd g) (xm:XTop K mg "TooMany" "many" sTooMany cm g) (xe:XTop K mg "TooDeep" "many" sTooDeep ce g) (gc:(PySem.W.clsIn K g).isSome=true) (gt:PySem.W.typeIn K (.ref g)=some (.type "type")) (ge:PySem.W.mroIn K g (.type "BaseException")=some true) (ng:ct≠g/\co≠g/\cd≠g/\cm≠g/\ce≠g) (nd:([ct,co,cd,cm,ce]:List Addr).Nodup) (eP:PySem.W.kitOne K (.ref cP) (.type "bool")=some false) (mP:mg "Part"=some (.ref cP)) (m0:mg "Called"=some (.ref c0)) (m1:mg "Beside"=some (.ref c1)) (m2:mg "Joined"=some (.ref c2)) (m3:mg "Changed"=some (.ref c3)) (oP:pOk K cP=true) (iP:PTop K cP) (o0:jOk K c0=true) (o1:jOk K c1=true) (o2:jOk K c2=true) (o3:jOk K c3=true) (ptd:MTop K cP "told" "Part.told" Es ["self"]) (w0:MTop K c0 "word" "Called.word" Eg ["self"]) (w1:MTop K c1 "word" "Beside.word" Eh ["self"]) (w2:MTop K c2 "word" "Joined.word" Ef ["self"]) (w3:MTop K c3 "word" "Changed.word" Dp ["self"]):∃ cP ct co cd cm ce g c0 c1 c2 c3,KTop K mg cP ct co cd cm ce g c0 c1 c2 c3:=⟨cP,ct,co,cd,cm,ce,g,c0,c1,c2,c3,gb,xt,xo,xd,xm,xe,gc,gt,ge,ng,nd,eP,mP,m0,m1,m2,m3,oP,iP,o0,o1,o2,o3,ptd,w0,w1,w2,w3⟩
section
variable {P:Program} {w:World} {K:PySem.W.Frag} {mg:Str->Option Value} {base:Heap} {cP ct co cd cm ce g c0 c1 c2 c3:Addr}
theorem jhas_of (h:KTop K mg cP ct co cd cm ce g c0 c1 c2 c3):JHas P w K mg base ⟨c0,c1,c2,c3⟩:=by
 have q0:=jOk_of h.o0
 have q1:=jOk_of h.o1
 have q2:=jOk_of h.o2
 have q3:=jOk_of h.o3
 refine ⟨⟨h.m0,q0.2.1,q0.2.2.1,q0.2.2.2⟩,⟨h.m1,q1.2.1,q1.2.2.1,q1.2.2.2⟩,⟨h.m2,q2.2.1,q2.2.2.1,q2.2.2.2⟩,⟨h.m3,q3.2.1,q3.2.2.1,q3.2.2.2⟩,fun j hj=>?_⟩
 ·rcases j4 hj with rfl | rfl | rfl | rfl
  ·exact methD_of q0.1 h.w0 fun f fd F=>ok_Called_word F
  ·exact methD_of q1.1 h.w1 fun f fd F=>ok_Beside_word F
  ·exact methD_of q2.1 h.w2 fun f fd F=>ok_Joined_word F
  ·exact methD_of q3.1 h.w3 fun f fd F=>ok_Changed_word F
end
theorem law_fn2 {P:Program} {w:World} {K:PySem.W.Frag} {mg:Str->Option Value} {fa:Addr} (hfa:mg "law"=some (.ref fa)) (T:Txt mg) (N:Tx2 mg)
 (tis_whole:Al K mg "is_whole" sis_whole ["thing"]) (tis_word:Al K mg "is_word" sis_word ["thing"]) (tis_key:Al K mg "is_key" sis_key ["thing"]) (tkey_text:Al K mg "key_text" skey_text ["key"]) (tis_number_text:Al K mg "is_number_text" Cd ["text","longest"]) (tis_key_text:Al K mg "is_key_text" Eb ["text"]) (tkey_of:Al K mg "key_of" skey_of ["text"]) (tall_joins:Al K mg "all_joins" sall_joins []) (tjoin_words:Al K mg "join_words" Du []) (tjoin_of:Al K mg "join_of" sjoin_of ["word"]) (tare_offers:Al K mg "are_offers" B6 ["thing"]) (tkept_offers:Al K mg "kept_offers" Dh ["offers"]) (tneed_few_beneath:Al K mg "need_few_beneath" B2 ["many"]) (tneed_few_parts:Al K mg "need_few_parts" Cb ["many"]) (tneed_not_deep:Al K mg "need_not_deep" Cn ["deep"]) (tis_joined_part:Al K mg "is_joined_part" Cv ["thing"]) (tkept_beneath:Al K mg "kept_beneath" Bv ["beneath"]) (twalked:Al K mg "walked" swalked ["work"]) (tdepth_of:Al K mg "depth_of" sdepth_of ["work"]) (tneed_bounds:Al K mg "need_bounds" Dg ["work"]) (tpart_words:Al K mg "part_words" Dt ["part"]) (tpart_row:Al K mg "part_row" spart_row ["road","part"]) (tshow_work:Al K mg "show_work" Eo ["work"]) (tare_part_words:Al K mg "are_part_words" Cf ["words"]) (tis_joined_row:Al K mg "is_joined_row" Dc ["words","most"]) (tneed_forms:Al K mg "need_forms" sneed_forms ["rows"]) (tmade_part:Al K mg "made_part" Dq ["words","beneath"]) (tmade_work:Al K mg "made_work" smade_work ["rows"]) (tread_work:Al K mg "read_work" Ep ["text"]) (t_law_cell:Al K mg "_law_cell" s_law_cell ["_law_script","_law_k"]) (t_law_mixed:Al K mg "_law_mixed" s_law_mixed ["_law_cell_here","_law_k"]) (t_law_box:Al K mg "_law_box" s_law_box ["_law_cell_here"]) (t_law_take:Al K mg "_law_take" s_law_take ["_law_box_here","_law_many"]) (t_law_words:Al K mg "_law_words" Dw ["_law_cell_here","_law_many"]) (t_law_keyed:Al K mg "_law_keyed" s_law_keyed ["_law_box_here","_law_names"]) (t_law_rows:Al K mg "_law_rows" Er ["_law_box_here","_law_names"]) (t_law_word_spoilt:Al K mg "_law_word_spoilt" Ck ["_law_box_here","_law_row_here"]) (t_law_spoilt:Al K mg "_law_spoilt" Ee ["_law_box_here","_law_rows_here"]) (t_law_is_word:Al K mg "_law_is_word" Cy ["_law_text"]) (t_law_key:Al K mg "_law_key" s_law_key ["_law_text"]) (t_law_row:Al K mg "_law_row" s_law_row ["_law_row_here","_law_line","_law_ahead"]) (t_law_beneath:Al K mg "_law_beneath" Do ["_law_rows_here","_law_at"]) (t_law_wrong:Al K mg "_law_wrong" C9 ["_law_rows_here","_law_at"]) (t_law_nested:Al K mg "_law_nested" Di ["_law_rows_here","_law_at"]) (t_law_read:Al K mg "_law_read" s_law_read ["_law_text"]) (t_law_told:Al K mg "_law_told" s_law_told ["_law_text"]) (t_law_right:Al K mg "_law_right" s_law_right ["_law_text"]) (tlaw:Al K mg "law" slaw ["_law_script"]) (hk:∃ cP ct co cd cm ce g c0 c1 c2 c3,KTop K mg cP ct co cd cm ce g c0 c1 c2 c3) :
 ∃ fd:FuncData,(∀ (s:Shared) (v:Value),BindsTo s fd ⟨[v],[]⟩ [("_law_script",v)])/\∀ base:Heap,K.In base->base.Ns mainGlobals mg->FnOk P w K mg base CX0 19 fa fd ["_law_script"] (spLaw K):=by
 obtain ⟨cP,ct,co,cd,cm,ce,g,c0,c1,c2,c3,k⟩:=hk
 obtain ⟨fP,dP,FP,MP,BP,BD⟩:=k.iP.ex
 have kit:PKit K cP:=pOk_of k.oP
 exact law_mk tlaw hfa sclaw fun base _ _ f cdv A outer s H vs Q E hr h=>
  have Fw:=ok_whole T tis_whole
  have Fwo:=ok_word T tis_word
  have Fk:=ok_key T Fwo Fw tis_key
  have JD:JHas P w K mg base ⟨c0,c1,c2,c3⟩:=jhas_of k
  have Faj:=ok_all JD tall_joins
  have Fjo:=ok_join_of JD Faj tjoin_of
  have Fao:=ok_ao T Fk tare_offers
  have Faot:=ok_aoT T Fk tare_offers
  have Fko:=ok_ko T Fao Faot tkept_offers
  have Fkb:=ok_kb T (ok_jp T kit k.mP tis_joined_part) (ok_nfb T tneed_few_beneath) Fjo tkept_beneath
  have Fwk:=ok_wk kit twalked 7
  have Fdp:=ok_dp T Fwk tdepth_of
  have Fnb:=ok_nb T kit Fwk (ok_nfp T tneed_few_parts) (ok_nnd T tneed_not_deep) Fdp tneed_bounds
  have OP:FnOk P w K mg base CX0 10 fP dP psP (spPI cP):=ok_pinit kit Fwo Fko Fkb Fnb FP
  have XH:Has P w K mg base ⟨ct,co,cd,cm,ce,g⟩:=⟨ok_BadText k.gb k.xt,k.xt.mro,ok_BadOffers k.gb k.xo,k.xo.mro,ok_Doubled k.gb k.xd,k.xd.mro,ok_TooMany k.gb k.xm,k.xm.mro,ok_TooDeep k.gb k.xe,k.xe.mro,k.gb.mg,k.gc,k.gt,k.ge,k.ng,k.nd⟩
  have Fjp:=ok_jp T kit k.mP tis_joined_part
  have FkoX:=ok_koX XH (ok_ao2 T Fk tare_offers) tkept_offers
  have FkbX:=ok_kbX T XH Fjp (ok_need_few_beneathX T XH tneed_few_beneath) tkept_beneath
  have FnbX:=ok_nbX T kit XH Fwk (ok_nfp T tneed_few_parts) (ok_need_few_partsX T XH tneed_few_parts) (ok_need_not_deepX T XH tneed_not_deep) Fdp tneed_bounds
  have OX:FnOk P w K mg base (CXR P w) 12 fP dP psP (spPIX cP ⟨ct,co,cd,cm,ce,g⟩):=ok_pinitX kit XH Fwo Fko FkoX Fkb FkbX FnbX FP
  have M:PMk P w K mg base cP fP dP:=⟨k.mP,MP,OP,BP⟩
  have MTD:=ok_td (P:=P) (w:=w) (base:=base) T kit k.ptd 7
  have Fkt:=ok_key_text tkey_text
  have Fnu:=ok_numA T N tis_number_text
  have Fik:=ok_iktA T Fwo Fnu tis_key_text
  have Fke':=ok_keo T (Fik.weak ikt_weak) tkey_of
  have Fjw:=ok_jw JD Faj tjoin_words
  have Fpw:=ok_pw kit Fkt tpart_words
  have Fpr:=ok_pr T Fpw tpart_row
  have Fsw:=ok_sw Fwk Fpr tshow_work
  have Fap:=ok_apw T Fwo Fik tare_part_words
  have Fjr:=ok_jr T Fjw Fap tis_joined_row
  have Fnf:=ok_nf T XH Fap Fjr tneed_forms
  have Fmp:=ok_mp M OX Fke' tmade_part
  have Fmw:=ok_mw T N Fmp tmade_work
  have Frw:=ok_rw T XH Fnf Fmw tread_work
  have Fc:=ok_cell T t_law_cell
  have Fx:=ok_mixed t_law_mixed
  have Fbx:=ok_box t_law_box
  have Ft:=ok_take Fx t_law_take
  have Fwd:=ok_words T Fbx Ft t_law_words
  have Fky:=ok_ky T Ft t_law_keyed
  have Frs:=ok_rs T Ft Fky t_law_rows
  have Fws:=ok_ws T Ft t_law_word_spoilt
  have Fsp:=ok_sp T Ft Fws t_law_spoilt
  have Flw:=ok_lw T t_law_is_word
  have Flk:=ok_lk T Flw t_law_key
  have Flr:=ok_lr T Flw Flk t_law_row
  have Fbn:=ok_bn T t_law_beneath
  have Fwr:=ok_wr T Fbn t_law_wrong
  have Fns:=ok_ns T Fbn t_law_nested 6
  have Frd:=ok_rd T Flr Fwr Fns t_law_read
  have Fto:=ok_told T XH Frw t_law_told
  have Frt:=ok_rt T kit k.eP k.mP MTD Fsw Fto Frd t_law_right
  law_body T Fc Fbx Ft Fwd Frs Fsp Frt Fto f cdv A outer s H vs Q E hr h
end K34
namespace PySem.W.Fast
def tw11605072853770665525:=0
def tw13340072144653419786:=0
def tw12976024158493190333:=0
def tw9852729331883970975:=0
def tw15142782636782230024:=0
def tw3080580601011249525:=0
def tw15760220067073641602:=0
def tw15901099370172749754:=0
def tw2410517062735695895:=0
def tw12881002875715126288:=0
def tw3133508950073988077:=0
def tw1515140824193090921:=0
def tw3480059725185834771:=0
def tw12688285639091042241:=0
def tw4202789546080066247:=0
def tw1359392719033586288:=0
def tw1585827960462860074:=0
def tw11558733306177904575:=0
def tw5086049898554060396:=0
def tw11768558475762247907:=0
def tw6206567532625593115:=0
def tw869283457338935329:=0
def tw1486487571994022942:=0
def tw4832462568099229838:=0
def tw1897418421193455921:=0
def tw370616420846137569:=0
def tw4832130989940198075:=0
def tw8713621481082950464:=0
def tw14328153749507679343:=0
def tw7128343321360054310:=0
def tw10131697727679483363:=0
def tw14729544880458767930:=0
def tw12399436471944879495:=0
def tw17709063100351308429:=0
def tw7149648984006130560:=0
def tw4503425034380439733:=0
def tw16645244911979730306:=0
def tw9854816255762402868:=0
def tw9134356370201026470:=0
def tw17778163928653801574:=0
def tw3175060942432832129:=0
def tw14741902943215177325:=0
def tw266095667460546960:=0
def tw5271424954217307658:=0
def tw12344341522908043334:=0
def tw628459151390930321:=0
def tw16578182011544584606:=0
def tw13188393217939775882:=0
def tw11884377099344362048:=0
def tw16400517562514228192:=0
def tw5470279156258612298:=0
def tw10422939625647517493:=0
def tw5514709340887014475:=0
def tw10892234566646296107:=0
def tw15651148194402776824:=0
def tw10802030260535240184:=0
def tw9647188802934696416:=0
def tw1222987015267440289:=0
def tw8455733225268688792:=0
def tw5840436511137823628:=0
def tw17986732773406014845:=0
def tw12996747342172373053:=0
def tw11143665215852691827:=0
def tw16789648554454410778:=0
def tw17316595760056653128:=0
def tw5271647236755881741:=0
def tw18306185388977838930:=0
def tw11316811807995950111:=0
def tw7378660097301485656:=0
def tw4169431673440727174:=0
def tw11716036458062800110:=0
def tw15511254291430474325:=0
def tw4883390737390983117:=0
def tw8846463681790139374:=0
def tw14233786585919188275:=0
def tw6476672303119852544:=0
def tw7578287232097071101:=0
def tw17765743690954443554:=0
def tw1881077684107501361:=0
def tw15572646069176786473:=0
def tw11273769009528148587:=0
def tw7896112374497022894:=0
def tw6206302384791470449:=0
def tw10673895855581502549:=0
def tw9222493077021229101:=0
def tw13182304027987094671:=0
def tw13989878712409659683:=0
def tw17054511204463282082:=0
def tw4576998745524090230:=0
def tw16806743160130678292:=0
def tw9825310527973651169:=0
def tw13073590425274268854:=0
def tw11685091319732820873:=0
def tw11507843809274612069:=0
def tw14574440933256449905:=0
def tw15330038134821764465:=0
def tw16097145974685978501:=0
def tw11682874961080740467:=0
def tw7688816986689217452:=0
def tw11977094064452332330:=0
def tw11221791798996947210:=0
def tw15301915789977270976:=0
def tw13643375568570218191:=0
def tw4197462468266853635:=0
def tw14445070138824542388:=0
def tw17280756611358904792:=0
def tw15453511398873207931:=0
def tw10955409892939564062:=0
def tw448277465239700839:=0
def tw5417699371709653523:=0
def tw11509454883931246934:=0
def tw1411153174882396107:=0
def tw16909264108668349:=0
def tw9322177049373834794:=0
def tw10622447847534697018:=0
def tw10242282184959660207:=0
def tw16106785543671195402:=0
def tw15372073841783291906:=0
def tw13562435360221964947:=0
def tw17399573662133034946:=0
def tw11655372672835243961:=0
def tw8604743071859600067:=0
def tw7822656776944459965:=0
def tw6138752972401693111:=0
def tw5431324538850570808:=0
def tw7281303223004981602:=0
def tw5399636749451367437:=0
def tw15491649265257585849:=0
def tw12004890360019431646:=0
def tw15569138687380384851:=0
def tw15693425296770710758:=0
def tw14587856116724288807:=0
def tw4663262163491269399:=0
def tw10131508179923731416:=0
def tw11650598732989930775:=0
def tw2476232772008717042:=0
def tw880379242128773812:=0
def tw2606208216534087332:=0
def tw7525186579859151189:=0
def tw15476017263374886568:=0
def tw17197923140978018434:=0
def tw2631843654928733220:=0
def tw13432956752400330187:=0
def tw1179521275301786338:=0
def tw275737587105658815:=0
def tw6992163921480169426:=0
def tw15591694887445955087:=0
def tw10745355508573968077:=0
def tw12926030248940975913:=0
def tw6894419779988470029:=0
def tw9630844051577883289:=0
def tw7722172237631967503:=0
def tw16741930213152454547:=0
def tw5563875758535268964:=0
def tw10167241725115307870:=0
def tw418917803900022135:=0
def tw17923282979629690933:=0
def tw6374330899678977034:=0
def tw9834167777958260683:=0
def tw9585372269658207318:=0
def tw3725690517663970098:=0
def tw16046342786436483196:=0
def tw3220917276823884048:=0
def tw5129520821739492282:=0
def tw10011813349231311324:=0
def tw4404400412438878596:=0
def tw7465770716167156233:=0
def tw15619543291790522346:=0
def tw4066217463336581820:=0
def tw3443668870259969324:=0
def tw8364697841449844142:=0
def tw17111490110207563818:=0
def tw358373516105828882:=0
def tw14730647165057176506:=0
def tw12902555668739847100:=0
def tw5522048222251619027:=0
def tw3356725739001105134:=0
def tw10622048580155921555:=0
def tw16691117284987396927:=0
def tw3676685988215985625:=0
def tw16147169046666633820:=0
def tw10143033180248526214:=0
def tw6634899866242213628:=0
def tw17775312559430909456:=0
def tw17307028439081971517:=0
def tw5016246611121533541:=0
def tw11411919160360899559:=0
def tw14561798872441090050:=0
def tw5340860292387306725:=0
def tw7038512906052435109:=0
def tw11535552638405349984:=0
def tw2823486474406056702:=0
def tw11789628675361572928:=0
def tw14320411226683584181:=0
def tw3467763141970497816:=0
def tw10126758245734206159:=0
def tw7281387845874717377:=0
def tw6001917805932488143:=0
def tw9507121292879307069:=0
def tw3361426878733974455:=0
def tw3024027822800637247:=0
def tw3296727737894377747:=0
def tw2677534442630411846:=0
def tw6855914655690178734:=0
def tw11185314338524421595:=0
def tw6242795147160777543:=0
def tw2194084550400495484:=0
def tw17788647639872944730:=0
def tw236006199258154233:=0
def tw6842609228933346318:=0
def tw12496088924804960227:=0
def tw16777452963115380847:=0
def tw2510645955703765833:=0
def tw6717444752871313388:=0
def tw9516743191527840806:=0
def tw16988823624387807958:=0
def tw16530639694000128551:=0
def tw5965013771190734759:=0
def tw834475659529344964:=0
def tw84827415508231518:=0
def tw13075753449481605466:=0
def tw5908977023684312820:=0
def tw177900856951308913:=0
def tw13747392470282235230:=0
def tw13540640248128570116:=0
def tw759565249779627784:=0
def tw11366852570600593573:=0
def tw5614502409498936527:=0
def tw17916953224277682023:=0
def tw17595720785430179497:=0
def tw3290890372263082634:=0
def tw16044226830744511049:=0
def tw130068806300184599:=0
def tw18412872484352857221:=0
def tw11533068354482456706:=0
def tw2528188342781140829:=0
def tw3673198718451733445:=0
def tw13698863911100380381:=0
def tw5554080660247132680:=0
def tw6902446769348838677:=0
def tw17030940176539165055:=0
def tw12517335327027141221:=0
def tw11320436176847958128:=0
def tw10962236336157271529:=0
def tw10404159549326973095:=0
def tw5363999556779240206:=0
def tw17922994348082716891:=0
def tw5494332728985039905:=0
def tw4316350525385824672:=0
def tw5151076202951603005:=0
def tw15091495442876557073:=0
def tw18148027780986905732:=0
def tw17055674321892978444:=0
def tw5111273971026608572:=0
def tw522247823283631102:=0
def tw12288730608600991965:=0
def tw154355074431634118:=0
def tw13342754902901554250:=0
def tw5343356987404033011:=0
def tw16926176084590705746:=0
def tw7379960911475328979:=0
def tw12007256535221831059:=0
def tw10361464973170898742:=0
def tw5218495261228864354:=0
def tw6919068280962550488:=0
def tw1741257446271946545:=0
def tw11759093991557347890:=0
def tw10754260308382903579:=0
def tw3351652035178904092:=0
def tw7954586536934178435:=0
def tw7666919777763820262:=0
def tw15384292057803845847:=0
def tw544790428584612093:=0
def tw9131888415640716382:=0
def tw13377091047698592722:=0
def tw12266998604002876226:=0
def tw14415940008617831024:=0
def tw12162979498679947152:=0
def tw13871852217641593888:=0
def tw17096664654264258196:=0
def tw14176249802509030147:=0
def tw10303258894152366842:=0
def tw3346572514676179820:=0
def tw9816192207384064819:=0
def tw14515829498696821061:=0
def tw17757002810272316042:=0
def tw12587125196529140705:=0
def tw2780006023383407520:=0
def tw9194869366999976435:=0
def tw11394974176421840343:=0
def tw8711495258520028365:=0
def tw12282493242729506233:=0
def tw12659578354787830250:=0
def tw10718455672714175544:=0
def tw8561949435449271978:=0
def tw8475094928528029885:=0
def tw7603080512811697779:=0
def tw11686963039625278221:=0
def tw4675530978815412675:=0
def tw6956526517198025926:=0
def tw14256407549607251954:=0
def tw7268460256703218719:=0
def tw10605431375420722459:=0
def tw11248267172681998620:=0
def tw1112296961032437824:=0
def tw4471226290774051831:=0
def tw3013093993913704690:=0
def tw1218462438325435962:=0
def tw7666573096947406021:=0
def tw15094411870110348191:=0
def tw3885983408906806123:=0
def tw14527967035972547955:=0
def tw395940434194738294:=0
def tw8161189045989909721:=0
def tw10505348765068108100:=0
def tw8534804128515499860:=0
def tw9974923882886689217:=0
def tw1292953882888763457:=0
def tw2055855257230546306:=0
def tw10186051766659397002:=0
def tw6297402120468726796:=0
def tw18127286956213271575:=0
def tw4419862243605509660:=0
def tw3999235337276664098:=0
def tw15372034703584084694:=0
def tw12159410076639598548:=0
def tw11668519458160274934:=0
def tw6334190075716406356:=0
def tw16129443358248544814:=0
def tw16271938968457006051:=0
def tw9571515917304150052:=0
def tw17071278849930148135:=0
def tw317124697641569939:=0
def tw14236762108807297642:=0
def tw320748397838599627:=0
def tw5482355280249407016:=0
def tw6766775401103479010:=0
def tw2540235234698066751:=0
def tw7866281539380537452:=0
def tw17280331252359817007:=0
def tw13087944560854423471:=0
def tw10019998513040979679:=0
def tw14813701665972632230:=0
def tw3588648310577067876:=0
def tw3549610206233417656:=0
def tw468563920133209043:=0
def tw1548518791312092712:=0
def tw7105054296808696946:=0
def tw169392891780391504:=0
def tw12894085602026488112:=0
def tw14394723635709233144:=0
def tw3359333462311031546:=0
def tw10343684035931913824:=0
def tw839189606885111708:=0
def tw8581527277347372609:=0
def tw11342883639780053688:=0
def tw6584177379116363144:=0
def tw9668010518804155141:=0
def tw5422594490300624660:=0
def tw9831687340820540265:=0
def tw7476818524516335288:=0
def tw5149413506930926186:=0
def tw16833089873344119551:=0
def tw9702468700833083716:=0
def tw6307310234406051543:=0
def tw3019935304590234445:=0
def tw5589185114356039530:=0
def tw9656579424288209520:=0
def tw1196788113679639740:=0
def tw4086465811472664271:=0
def tw9960231902879216724:=0
def tw2396338177180569149:=0
def tw6206038388211037352:=0
def tw8415748816260763169:=0
def tw5990980389790415695:=0
def tw13705403901381051953:=0
def tw528365440272474266:=0
def tw12656466846896673978:=0
def tw6128603435307001602:=0
def tw2158372975521126779:=0
def tw17771330786092287449:=0
def tw8130841076422232559:=0
def tw7213931554190376158:=0
def tw11361591828729867716:=0
def tw9002597974620990237:=0
def tw688609743839694382:=0
def tw538458515459086472:=0
def tw12418340080588501601:=0
def tw7835111866324704263:=0
def tw1554942109101164265:=0
def tw3401299011731198506:=0
def tw14073948662127369262:=0
def tw18273796291476962680:=0
def tw7229012750309304407:=0
def tw2629935753623995961:=0
def tw8442183152231258034:=0
def tw6418286924398814239:=0
def tw5040086258172263017:=0
def tw5064069835165125508:=0
def tw10570146788018296708:=0
end PySem.W.Fast
open PySem PySem.W PyProof.Rows
set_option maxRecDepth 100000 in
set_option maxHeartbeats 0 in
theorem PySem.Challenge.cw_grantweave_k34_whole_any_text_read_holds : PySem.Challenge.rw_grantweave_k34_whole_any_text_read.Holds := by
 w_on; o_law; k_head; (case hw=>w_witness2)
 k_fill
 refine L2.law_walk (l:=PySem.Challenge.rw_grantweave_k34_whole_any_text_read) (x:="_law_script") (k:=19) rfl rfl ⟨rfl,by decide,by decide,rfl⟩ (fun w h Y=>PySem.W.kIn_of Y) ?F
 case F=>
  intro w mg fa h KX G hmg
  have t_is_whole:L2.Al (L2.KOf KX) mg "is_whole" K34.sis_whole ["thing"]:=by
   refine' L2.Ar KX G (fun _ _ _ _ _ _ us hl=>match us,hl with | [_],_=>rfl) ?a ?l ?c ?k
   (case a=>k_is); (case l=>k_is); (case c=>k_is); (case k=>k_is)
  have t_is_word:L2.Al (L2.KOf KX) mg "is_word" K34.sis_word ["thing"]:=by
   refine' L2.Ar KX G (fun _ _ _ _ _ _ us hl=>match us,hl with | [_],_=>rfl) ?a ?l ?c ?k
   (case a=>k_is); (case l=>k_is); (case c=>k_is); (case k=>k_is)
  have t_is_key:L2.Al (L2.KOf KX) mg "is_key" K34.sis_key ["thing"]:=by
   refine' L2.Ar KX G (fun _ _ _ _ _ _ us hl=>match us,hl with | [_],_=>rfl) ?a ?l ?c ?k
   (case a=>k_is); (case l=>k_is); (case c=>k_is); (case k=>k_is)
  have t_key_text:L2.Al (L2.KOf KX) mg "key_text" K34.skey_text ["key"]:=by
   refine' L2.Ar KX G (fun _ _ _ _ _ _ us hl=>match us,hl with | [_],_=>rfl) ?a ?l ?c ?k
   (case a=>k_is); (case l=>k_is); (case c=>k_is); (case k=>k_is)
  have t_is_number_text:L2.Al (L2.KOf KX) mg "is_number_text" K34.Cd ["text","longest"]:=by
   refine' L2.Ar KX G (fun _ _ _ _ _ _ us hl=>match us,hl with | [_,_],_=>rfl) ?a ?l ?c ?k
   (case a=>k_is); (case l=>k_is); (case c=>k_is); (case k=>k_is)
  have t_is_key_text:L2.Al (L2.KOf KX) mg "is_key_text" K34.Eb ["text"]:=by
   refine' L2.Ar KX G (fun _ _ _ _ _ _ us hl=>match us,hl with | [_],_=>rfl) ?a ?l ?c ?k
   (case a=>k_is); (case l=>k_is); (case c=>k_is); (case k=>k_is)
  have t_key_of:L2.Al (L2.KOf KX) mg "key_of" K34.skey_of ["text"]:=by
   refine' L2.Ar KX G (fun _ _ _ _ _ _ us hl=>match us,hl with | [_],_=>rfl) ?a ?l ?c ?k
   (case a=>k_is); (case l=>k_is); (case c=>k_is); (case k=>k_is)
  have t_all_joins:L2.Al (L2.KOf KX) mg "all_joins" K34.sall_joins []:=by
   refine' L2.Ar KX G (fun _ _ _ _ _ _ us hl=>match us,hl with | [],_=>rfl) ?a ?l ?c ?k
   (case a=>k_is); (case l=>k_is); (case c=>k_is); (case k=>k_is)
  have t_join_words:L2.Al (L2.KOf KX) mg "join_words" K34.Du []:=by
   refine' L2.Ar KX G (fun _ _ _ _ _ _ us hl=>match us,hl with | [],_=>rfl) ?a ?l ?c ?k
   (case a=>k_is); (case l=>k_is); (case c=>k_is); (case k=>k_is)
  have t_join_of:L2.Al (L2.KOf KX) mg "join_of" K34.sjoin_of ["word"]:=by
   refine' L2.Ar KX G (fun _ _ _ _ _ _ us hl=>match us,hl with | [_],_=>rfl) ?a ?l ?c ?k
   (case a=>k_is); (case l=>k_is); (case c=>k_is); (case k=>k_is)
  have t_are_offers:L2.Al (L2.KOf KX) mg "are_offers" K34.B6 ["thing"]:=by
   refine' L2.Ar KX G (fun _ _ _ _ _ _ us hl=>match us,hl with | [_],_=>rfl) ?a ?l ?c ?k
   (case a=>k_is); (case l=>k_is); (case c=>k_is); (case k=>k_is)
  have t_kept_offers:L2.Al (L2.KOf KX) mg "kept_offers" K34.Dh ["offers"]:=by
   refine' L2.Ar KX G (fun _ _ _ _ _ _ us hl=>match us,hl with | [_],_=>rfl) ?a ?l ?c ?k
   (case a=>k_is); (case l=>k_is); (case c=>k_is); (case k=>k_is)
  have t_need_few_beneath:L2.Al (L2.KOf KX) mg "need_few_beneath" K34.B2 ["many"]:=by
   refine' L2.Ar KX G (fun _ _ _ _ _ _ us hl=>match us,hl with | [_],_=>rfl) ?a ?l ?c ?k
   (case a=>k_is); (case l=>k_is); (case c=>k_is); (case k=>k_is)
  have t_need_few_parts:L2.Al (L2.KOf KX) mg "need_few_parts" K34.Cb ["many"]:=by
   refine' L2.Ar KX G (fun _ _ _ _ _ _ us hl=>match us,hl with | [_],_=>rfl) ?a ?l ?c ?k
   (case a=>k_is); (case l=>k_is); (case c=>k_is); (case k=>k_is)
  have t_need_not_deep:L2.Al (L2.KOf KX) mg "need_not_deep" K34.Cn ["deep"]:=by
   refine' L2.Ar KX G (fun _ _ _ _ _ _ us hl=>match us,hl with | [_],_=>rfl) ?a ?l ?c ?k
   (case a=>k_is); (case l=>k_is); (case c=>k_is); (case k=>k_is)
  have t_is_joined_part:L2.Al (L2.KOf KX) mg "is_joined_part" K34.Cv ["thing"]:=by
   refine' L2.Ar KX G (fun _ _ _ _ _ _ us hl=>match us,hl with | [_],_=>rfl) ?a ?l ?c ?k
   (case a=>k_is); (case l=>k_is); (case c=>k_is); (case k=>k_is)
  have t_kept_beneath:L2.Al (L2.KOf KX) mg "kept_beneath" K34.Bv ["beneath"]:=by
   refine' L2.Ar KX G (fun _ _ _ _ _ _ us hl=>match us,hl with | [_],_=>rfl) ?a ?l ?c ?k
   (case a=>k_is); (case l=>k_is); (case c=>k_is); (case k=>k_is)
  have t_walked:L2.Al (L2.KOf KX) mg "walked" K34.swalked ["work"]:=by
   refine' L2.Ar KX G (fun _ _ _ _ _ _ us hl=>match us,hl with | [_],_=>rfl) ?a ?l ?c ?k
   (case a=>k_is); (case l=>k_is); (case c=>k_is); (case k=>k_is)
  have t_depth_of:L2.Al (L2.KOf KX) mg "depth_of" K34.sdepth_of ["work"]:=by
   refine' L2.Ar KX G (fun _ _ _ _ _ _ us hl=>match us,hl with | [_],_=>rfl) ?a ?l ?c ?k
   (case a=>k_is); (case l=>k_is); (case c=>k_is); (case k=>k_is)
  have t_need_bounds:L2.Al (L2.KOf KX) mg "need_bounds" K34.Dg ["work"]:=by
   refine' L2.Ar KX G (fun _ _ _ _ _ _ us hl=>match us,hl with | [_],_=>rfl) ?a ?l ?c ?k
   (case a=>k_is); (case l=>k_is); (case c=>k_is); (case k=>k_is)
  have t_part_words:L2.Al (L2.KOf KX) mg "part_words" K34.Dt ["part"]:=by
   refine' L2.Ar KX G (fun _ _ _ _ _ _ us hl=>match us,hl with | [_],_=>rfl) ?a ?l ?c ?k
   (case a=>k_is); (case l=>k_is); (case c=>k_is); (case k=>k_is)
  have t_part_row:L2.Al (L2.KOf KX) mg "part_row" K34.spart_row ["road","part"]:=by
   refine' L2.Ar KX G (fun _ _ _ _ _ _ us hl=>match us,hl with | [_,_],_=>rfl) ?a ?l ?c ?k
   (case a=>k_is); (case l=>k_is); (case c=>k_is); (case k=>k_is)
  have t_show_work:L2.Al (L2.KOf KX) mg "show_work" K34.Eo ["work"]:=by
   refine' L2.Ar KX G (fun _ _ _ _ _ _ us hl=>match us,hl with | [_],_=>rfl) ?a ?l ?c ?k
   (case a=>k_is); (case l=>k_is); (case c=>k_is); (case k=>k_is)
  have t_are_part_words:L2.Al (L2.KOf KX) mg "are_part_words" K34.Cf ["words"]:=by
   refine' L2.Ar KX G (fun _ _ _ _ _ _ us hl=>match us,hl with | [_],_=>rfl) ?a ?l ?c ?k
   (case a=>k_is); (case l=>k_is); (case c=>k_is); (case k=>k_is)
  have t_is_joined_row:L2.Al (L2.KOf KX) mg "is_joined_row" K34.Dc ["words","most"]:=by
   refine' L2.Ar KX G (fun _ _ _ _ _ _ us hl=>match us,hl with | [_,_],_=>rfl) ?a ?l ?c ?k
   (case a=>k_is); (case l=>k_is); (case c=>k_is); (case k=>k_is)
  have t_need_forms:L2.Al (L2.KOf KX) mg "need_forms" K34.sneed_forms ["rows"]:=by
   refine' L2.Ar KX G (fun _ _ _ _ _ _ us hl=>match us,hl with | [_],_=>rfl) ?a ?l ?c ?k
   (case a=>k_is); (case l=>k_is); (case c=>k_is); (case k=>k_is)
  have t_made_part:L2.Al (L2.KOf KX) mg "made_part" K34.Dq ["words","beneath"]:=by
   refine' L2.Ar KX G (fun _ _ _ _ _ _ us hl=>match us,hl with | [_,_],_=>rfl) ?a ?l ?c ?k
   (case a=>k_is); (case l=>k_is); (case c=>k_is); (case k=>k_is)
  have t_made_work:L2.Al (L2.KOf KX) mg "made_work" K34.smade_work ["rows"]:=by
   refine' L2.Ar KX G (fun _ _ _ _ _ _ us hl=>match us,hl with | [_],_=>rfl) ?a ?l ?c ?k
   (case a=>k_is); (case l=>k_is); (case c=>k_is); (case k=>k_is)
  have t_read_work:L2.Al (L2.KOf KX) mg "read_work" K34.Ep ["text"]:=by
   refine' L2.Ar KX G (fun _ _ _ _ _ _ us hl=>match us,hl with | [_],_=>rfl) ?a ?l ?c ?k
   (case a=>k_is); (case l=>k_is); (case c=>k_is); (case k=>k_is)
  have t__law_cell:L2.Al (L2.KOf KX) mg "_law_cell" K34.s_law_cell ["_law_script","_law_k"]:=by
   refine' L2.Ar KX G (fun _ _ _ _ _ _ us hl=>match us,hl with | [_,_],_=>rfl) ?a ?l ?c ?k
   (case a=>k_is); (case l=>k_is); (case c=>k_is); (case k=>k_is)
  have t__law_mixed:L2.Al (L2.KOf KX) mg "_law_mixed" K34.s_law_mixed ["_law_cell_here","_law_k"]:=by
   refine' L2.Ar KX G (fun _ _ _ _ _ _ us hl=>match us,hl with | [_,_],_=>rfl) ?a ?l ?c ?k
   (case a=>k_is); (case l=>k_is); (case c=>k_is); (case k=>k_is)
  have t__law_box:L2.Al (L2.KOf KX) mg "_law_box" K34.s_law_box ["_law_cell_here"]:=by
   refine' L2.Ar KX G (fun _ _ _ _ _ _ us hl=>match us,hl with | [_],_=>rfl) ?a ?l ?c ?k
   (case a=>k_is); (case l=>k_is); (case c=>k_is); (case k=>k_is)
  have t__law_take:L2.Al (L2.KOf KX) mg "_law_take" K34.s_law_take ["_law_box_here","_law_many"]:=by
   refine' L2.Ar KX G (fun _ _ _ _ _ _ us hl=>match us,hl with | [_,_],_=>rfl) ?a ?l ?c ?k
   (case a=>k_is); (case l=>k_is); (case c=>k_is); (case k=>k_is)
  have t__law_words:L2.Al (L2.KOf KX) mg "_law_words" K34.Dw ["_law_cell_here","_law_many"]:=by
   refine' L2.Ar KX G (fun _ _ _ _ _ _ us hl=>match us,hl with | [_,_],_=>rfl) ?a ?l ?c ?k
   (case a=>k_is); (case l=>k_is); (case c=>k_is); (case k=>k_is)
  have t__law_keyed:L2.Al (L2.KOf KX) mg "_law_keyed" K34.s_law_keyed ["_law_box_here","_law_names"]:=by
   refine' L2.Ar KX G (fun _ _ _ _ _ _ us hl=>match us,hl with | [_,_],_=>rfl) ?a ?l ?c ?k
   (case a=>k_is); (case l=>k_is); (case c=>k_is); (case k=>k_is)
  have t__law_rows:L2.Al (L2.KOf KX) mg "_law_rows" K34.Er ["_law_box_here","_law_names"]:=by
   refine' L2.Ar KX G (fun _ _ _ _ _ _ us hl=>match us,hl with | [_,_],_=>rfl) ?a ?l ?c ?k
   (case a=>k_is); (case l=>k_is); (case c=>k_is); (case k=>k_is)
  have t__law_word_spoilt:L2.Al (L2.KOf KX) mg "_law_word_spoilt" K34.Ck ["_law_box_here","_law_row_here"]:=by
   refine' L2.Ar KX G (fun _ _ _ _ _ _ us hl=>match us,hl with | [_,_],_=>rfl) ?a ?l ?c ?k
   (case a=>k_is); (case l=>k_is); (case c=>k_is); (case k=>k_is)
  have t__law_spoilt:L2.Al (L2.KOf KX) mg "_law_spoilt" K34.Ee ["_law_box_here","_law_rows_here"]:=by
   refine' L2.Ar KX G (fun _ _ _ _ _ _ us hl=>match us,hl with | [_,_],_=>rfl) ?a ?l ?c ?k
   (case a=>k_is); (case l=>k_is); (case c=>k_is); (case k=>k_is)
  have t__law_is_word:L2.Al (L2.KOf KX) mg "_law_is_word" K34.Cy ["_law_text"]:=by
   refine' L2.Ar KX G (fun _ _ _ _ _ _ us hl=>match us,hl with | [_],_=>rfl) ?a ?l ?c ?k
   (case a=>k_is); (case l=>k_is); (case c=>k_is); (case k=>k_is)
  have t__law_key:L2.Al (L2.KOf KX) mg "_law_key" K34.s_law_key ["_law_text"]:=by
   refine' L2.Ar KX G (fun _ _ _ _ _ _ us hl=>match us,hl with | [_],_=>rfl) ?a ?l ?c ?k
   (case a=>k_is); (case l=>k_is); (case c=>k_is); (case k=>k_is)
  have t__law_row:L2.Al (L2.KOf KX) mg "_law_row" K34.s_law_row ["_law_row_here","_law_line","_law_ahead"]:=by
   refine' L2.Ar KX G (fun _ _ _ _ _ _ us hl=>match us,hl with | [_,_,_],_=>rfl) ?a ?l ?c ?k
   (case a=>k_is); (case l=>k_is); (case c=>k_is); (case k=>k_is)
  have t__law_beneath:L2.Al (L2.KOf KX) mg "_law_beneath" K34.Do ["_law_rows_here","_law_at"]:=by
   refine' L2.Ar KX G (fun _ _ _ _ _ _ us hl=>match us,hl with | [_,_],_=>rfl) ?a ?l ?c ?k
   (case a=>k_is); (case l=>k_is); (case c=>k_is); (case k=>k_is)
  have t__law_wrong:L2.Al (L2.KOf KX) mg "_law_wrong" K34.C9 ["_law_rows_here","_law_at"]:=by
   refine' L2.Ar KX G (fun _ _ _ _ _ _ us hl=>match us,hl with | [_,_],_=>rfl) ?a ?l ?c ?k
   (case a=>k_is); (case l=>k_is); (case c=>k_is); (case k=>k_is)
  have t__law_nested:L2.Al (L2.KOf KX) mg "_law_nested" K34.Di ["_law_rows_here","_law_at"]:=by
   refine' L2.Ar KX G (fun _ _ _ _ _ _ us hl=>match us,hl with | [_,_],_=>rfl) ?a ?l ?c ?k
   (case a=>k_is); (case l=>k_is); (case c=>k_is); (case k=>k_is)
  have t__law_read:L2.Al (L2.KOf KX) mg "_law_read" K34.s_law_read ["_law_text"]:=by
   refine' L2.Ar KX G (fun _ _ _ _ _ _ us hl=>match us,hl with | [_],_=>rfl) ?a ?l ?c ?k
   (case a=>k_is); (case l=>k_is); (case c=>k_is); (case k=>k_is)
  have t__law_told:L2.Al (L2.KOf KX) mg "_law_told" K34.s_law_told ["_law_text"]:=by
   refine' L2.Ar KX G (fun _ _ _ _ _ _ us hl=>match us,hl with | [_],_=>rfl) ?a ?l ?c ?k
   (case a=>k_is); (case l=>k_is); (case c=>k_is); (case k=>k_is)
  have t__law_right:L2.Al (L2.KOf KX) mg "_law_right" K34.s_law_right ["_law_text"]:=by
   refine' L2.Ar KX G (fun _ _ _ _ _ _ us hl=>match us,hl with | [_],_=>rfl) ?a ?l ?c ?k
   (case a=>k_is); (case l=>k_is); (case c=>k_is); (case k=>k_is)
  have t_law:L2.Al (L2.KOf KX) mg "law" K34.slaw ["_law_script"]:=by
   refine' L2.Ar KX G (fun _ _ _ _ _ _ us hl=>match us,hl with | [_],_=>rfl) ?a ?l ?c ?k
   (case a=>k_is); (case l=>k_is); (case c=>k_is); (case k=>k_is)
  have n_len:mg "len"=none:=by
   refine' PySem.W.mg_none_of KX G ?a
   (case a=>k_is)
  have n_isinstance:mg "isinstance"=none:=by
   refine' PySem.W.mg_none_of KX G ?a
   (case a=>k_is)
  have n_range:mg "range"=none:=by
   refine' PySem.W.mg_none_of KX G ?a
   (case a=>k_is)
  have n_int:mg "int"=none:=by
   refine' PySem.W.mg_none_of KX G ?a
   (case a=>k_is)
  have n_bool:mg "bool"=none:=by
   refine' PySem.W.mg_none_of KX G ?a
   (case a=>k_is)
  have n_str:mg "str"=none:=by
   refine' PySem.W.mg_none_of KX G ?a
   (case a=>k_is)
  have n_tuple:mg "tuple"=none:=by
   refine' PySem.W.mg_none_of KX G ?a
   (case a=>k_is)
  have n_list:mg "list"=none:=by
   refine' PySem.W.mg_none_of KX G ?a
   (case a=>k_is)
  have n_all:mg "all"=none:=by
   refine' PySem.W.mg_none_of KX G ?a
   (case a=>k_is)
  have n_zip:mg "zip"=none:=by
   refine' PySem.W.mg_none_of KX G ?a
   (case a=>k_is)
  have n_min:mg "min"=none:=by
   refine' PySem.W.mg_none_of KX G ?a
   (case a=>k_is)
  have n_max:mg "max"=none:=by
   refine' PySem.W.mg_none_of KX G ?a
   (case a=>k_is)
  have n_set:mg "set"=none:=by
   refine' PySem.W.mg_none_of KX G ?a
   (case a=>k_is)
  have n_sorted:mg "sorted"=none:=by
   refine' PySem.W.mg_none_of KX G ?a
   (case a=>k_is)
  have n_enumerate:mg "enumerate"=none:=by
   refine' PySem.W.mg_none_of KX G ?a
   (case a=>k_is)
  have n_reversed:mg "reversed"=none:=by
   refine' PySem.W.mg_none_of KX G ?a
   (case a=>k_is)
  have g_LETTERS:∃ t,mg "LETTERS"=some (.str "abcdefghijklmnopqrstuvwxyz" t):=by
   refine' L2.glob_S KX G ?a ?b
   (case a=>k_is)
   (case b=>decide +kernel)
  have g_LONGEST_WORD:∃ t,mg "LONGEST_WORD"=some (.int 8 t):=by
   refine' L2.glob_I KX G ?a ?b
   (case a=>k_is)
   (case b=>exact ⟨_,rfl⟩)
  have g_GREATEST_NUMBER:∃ t,mg "GREATEST_NUMBER"=some (.int 99 t):=by
   refine' L2.glob_I KX G ?a ?b
   (case a=>k_is)
   (case b=>exact ⟨_,rfl⟩)
  have g_MOST_OFFERS:∃ t,mg "MOST_OFFERS"=some (.int 2 t):=by
   refine' L2.glob_I KX G ?a ?b
   (case a=>k_is)
   (case b=>exact ⟨_,rfl⟩)
  have g_MOST_BENEATH:∃ t,mg "MOST_BENEATH"=some (.int 6 t):=by
   refine' L2.glob_I KX G ?a ?b
   (case a=>k_is)
   (case b=>exact ⟨_,rfl⟩)
  have g_MOST_PARTS:∃ t,mg "MOST_PARTS"=some (.int 30 t):=by
   refine' L2.glob_I KX G ?a ?b
   (case a=>k_is)
   (case b=>exact ⟨_,rfl⟩)
  have g_MOST_DEEP:∃ t,mg "MOST_DEEP"=some (.int 6 t):=by
   refine' L2.glob_I KX G ?a ?b
   (case a=>k_is)
   (case b=>exact ⟨_,rfl⟩)
  have g_FIGURES:∃ t,mg "FIGURES"=some (.str "0123456789" t):=by
   refine' L2.glob_S KX G ?a ?b
   (case a=>k_is)
   (case b=>decide +kernel)
  have hk:∃ cP ct co cd cm ce g c0 c1 c2 c3,K34.KTop (L2.KOf KX) mg cP ct co cd cm ce g c0 c1 c2 c3:=by
   refine' K34.ktop_mk ?gb ?xt ?xo ?xd ?xm ?xe ?gc ?gt ?ge ?ng ?nd ?eP ?mP ?m0 ?m1 ?m2 ?m3 ?oP ?iP ?o0 ?o1 ?o2 ?o3 ?ptd ?w0 ?w1 ?w2 ?w3
   case gb=>
    refine' L2.gbase_of KX G ?a ?b ?c ?d
    (case a=>k_is); (case b=>k_is); (case c=>k_is); (case d=>k_is)
   case xt=>
    refine' L2.xtop_of KX G (fun _ _ _ _ _ _ us hl=>match us,hl with | [_,_],_=>rfl) ?a ?kp ?i ?l ?c ?k ?fn ?o ?m
    (case a=>k_is); (case kp=>k_is); (case i=>k_is); (case l=>k_is); (case c=>k_is); (case k=>k_is); (case fn=>k_is); (case o=>kernel_rfl); (case m=>kernel_rfl)
   case xo=>
    refine' L2.xtop_of KX G (fun _ _ _ _ _ _ us hl=>match us,hl with | [_,_],_=>rfl) ?a ?kp ?i ?l ?c ?k ?fn ?o ?m
    (case a=>k_is); (case kp=>k_is); (case i=>k_is); (case l=>k_is); (case c=>k_is); (case k=>k_is); (case fn=>k_is); (case o=>kernel_rfl); (case m=>kernel_rfl)
   case xd=>
    refine' L2.xtop_of KX G (fun _ _ _ _ _ _ us hl=>match us,hl with | [_,_],_=>rfl) ?a ?kp ?i ?l ?c ?k ?fn ?o ?m
    (case a=>k_is); (case kp=>k_is); (case i=>k_is); (case l=>k_is); (case c=>k_is); (case k=>k_is); (case fn=>k_is); (case o=>kernel_rfl); (case m=>kernel_rfl)
   case xm=>
    refine' L2.xtop_of KX G (fun _ _ _ _ _ _ us hl=>match us,hl with | [_,_],_=>rfl) ?a ?kp ?i ?l ?c ?k ?fn ?o ?m
    (case a=>k_is); (case kp=>k_is); (case i=>k_is); (case l=>k_is); (case c=>k_is); (case k=>k_is); (case fn=>k_is); (case o=>kernel_rfl); (case m=>kernel_rfl)
   case xe=>
    refine' L2.xtop_of KX G (fun _ _ _ _ _ _ us hl=>match us,hl with | [_,_],_=>rfl) ?a ?kp ?i ?l ?c ?k ?fn ?o ?m
    (case a=>k_is); (case kp=>k_is); (case i=>k_is); (case l=>k_is); (case c=>k_is); (case k=>k_is); (case fn=>k_is); (case o=>kernel_rfl); (case m=>kernel_rfl)
   case mP=>
    refine' PySem.W.mg_of KX G ?a
    (case a=>k_is)
   case m0=>
    refine' PySem.W.mg_of KX G ?a
    (case a=>k_is)
   case m1=>
    refine' PySem.W.mg_of KX G ?a
    (case a=>k_is)
   case m2=>
    refine' PySem.W.mg_of KX G ?a
    (case a=>k_is)
   case m3=>
    refine' PySem.W.mg_of KX G ?a
    (case a=>k_is)
   case iP=>
    refine' K34.ptop_of KX ?a ?i ?l ?c ?k ?mk ?kc ?dd
    (case a=>k_is); (case i=>k_is); (case l=>k_is); (case c=>k_is); (case k=>k_is); (case mk=>k_is); (case kc=>k_is); (case dd=>k_is)
   case ptd=>
    refine' L2.mtop_of KX (fun _ _ _ _ _ _ us hl=>match us,hl with | [_],_=>rfl) ?a ?i ?l ?c ?k
    (case a=>k_is); (case i=>k_is); (case l=>k_is); (case c=>k_is); (case k=>k_is)
   case w0=>
    refine' L2.mtop_of KX (fun _ _ _ _ _ _ us hl=>match us,hl with | [_],_=>rfl) ?a ?i ?l ?c ?k
    (case a=>k_is); (case i=>k_is); (case l=>k_is); (case c=>k_is); (case k=>k_is)
   case w1=>
    refine' L2.mtop_of KX (fun _ _ _ _ _ _ us hl=>match us,hl with | [_],_=>rfl) ?a ?i ?l ?c ?k
    (case a=>k_is); (case i=>k_is); (case l=>k_is); (case c=>k_is); (case k=>k_is)
   case w2=>
    refine' L2.mtop_of KX (fun _ _ _ _ _ _ us hl=>match us,hl with | [_],_=>rfl) ?a ?i ?l ?c ?k
    (case a=>k_is); (case i=>k_is); (case l=>k_is); (case c=>k_is); (case k=>k_is)
   case w3=>
    refine' L2.mtop_of KX (fun _ _ _ _ _ _ us hl=>match us,hl with | [_],_=>rfl) ?a ?i ?l ?c ?k
    (case a=>k_is); (case i=>k_is); (case l=>k_is); (case c=>k_is); (case k=>k_is)
   case ng=>decide
   case nd=>decide
   case gc=>kernel_rfl
   case gt=>kernel_rfl
   case ge=>kernel_rfl
   case eP=>kernel_rfl
   case oP=>kernel_rfl
   case o0=>kernel_rfl
   case o1=>kernel_rfl
   case o2=>kernel_rfl
   case o3=>kernel_rfl
  exact K34.law_fn2 hmg ⟨n_len,n_isinstance,n_range,n_int,n_bool,n_str,n_tuple,n_list,n_all,n_zip,n_min,n_max,n_set,n_sorted,n_enumerate,g_LETTERS,g_LONGEST_WORD,g_GREATEST_NUMBER,g_MOST_OFFERS,g_MOST_BENEATH,g_MOST_PARTS,g_MOST_DEEP⟩ ⟨g_FIGURES,n_reversed⟩ t_is_whole t_is_word t_is_key t_key_text t_is_number_text t_is_key_text t_key_of t_all_joins t_join_words t_join_of t_are_offers t_kept_offers t_need_few_beneath t_need_few_parts t_need_not_deep t_is_joined_part t_kept_beneath t_walked t_depth_of t_need_bounds t_part_words t_part_row t_show_work t_are_part_words t_is_joined_row t_need_forms t_made_part t_made_work t_read_work t__law_cell t__law_mixed t__law_box t__law_take t__law_words t__law_keyed t__law_rows t__law_word_spoilt t__law_spoilt t__law_is_word t__law_key t__law_row t__law_beneath t__law_wrong t__law_nested t__law_read t__law_told t__law_right t_law hk
