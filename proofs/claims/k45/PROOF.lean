import PyProof.Rows.All
import Wide.All
import OpenK.AllK
import Wide.FinOn
import Lean
import PyProof.EqAt
import PyProof.EqKinds
import PyProof.TupleCall
import KE.KUnpack
import KE.KDictList
import KE.KIntText
import PyProof.ListMulAny
import PySem.Challenge.RW_grantweave_k45_whole_upward_and_closer
set_option Elab.async false
set_option linter.all false
set_option maxRecDepth 100000
set_option maxHeartbeats 4000000
set_option genSizeOf false
set_option genSizeOfSpec false
set_option bootstrap.genMatcherCode false
noncomputable section
abbrev Fq:=PySem.W.Frag
open PySem in
abbrev Pq:=List (Addr×Obj)
open PySem in
abbrev Vq:=Value->Shared->Prop
open PySem in
abbrev Mq:=Str->Option Value
open PySem in
abbrev Cq:=List (Str×Addr)
def a8:=@PySem.wpAny_bind
def a9:=@List.getElem?_eq_some_iff
def aA:=@Option.bind_eq_some_iff
def aB:=@Bool.false_ne_true
def aC:=@List.length_map
def aD:=@PySem.Heap.get?_push_of_some
def aE:=@List.mem_cons_of_mem
def aF:=@PySem.wpAny_pure
def aG:=@Option.map_eq_some_iff
def aH:=@List.mem_cons_self
def aI:=@Nat.le_refl
def aJ:=@List.getElem?_map
def aK:=@List.map_cons
def aL:=@PySem.Heap.get?_push_size
def aM:=@PySem.Heap.lt_size
def aN:=@List.getElem?_eq_getElem
def aO:=@List.getElem?_append_left
def aP:=@List.mem_of_getElem?
def aQ:=@List.getElem?_append_right
def aR:=@beq_iff_eq
def aS:=@List.mem_filter
def aU:=@List.mem_cons
def aV:=@List.length_append
def aW:=@Nat.ne_of_lt
def aX:=@Nat.lt_of_lt_of_le
def aY:=@List.size_toArray
def aZ:=@List.all_eq_true
def b9:=@Nat.le_trans
def bA:=@List.mem_singleton
def bB:=@List.mem_map
def bC:=@List.pairwise_iff_getElem
def bD:=@List.length_take
def bE:=@List.length_range
def bF:=@of_decide_eq_true
def bG:=@List.length_filter_le
def bH:=@List.mem_append_right
def bI:=@decide_eq_false
def bJ:=@Option.some.inj
def bL:=@List.map_append
def bM:=@Ne.symm
def bN:=@List.zip_cons_cons
def bO:=@List.take_length
def bP:=@List.map_map
def bQ:=@Int.emod_lt_of_pos
def bR:=@List.length_eq_zero_iff
def bS:=@beq_eq_false_iff_ne
def bT:=@List.mem_append
def bU:=@Int.natCast_nonneg
def bV:=@Option.isSome_iff_exists
def bW:=@Bool.eq_iff_iff
def bX:=@List.nodup_cons
def bY:=@decide_eq_true
def bZ:=@List.flatten_cons
def c7:=@List.getElem?_set_ne
def c8:=@Int.emod_nonneg
def c9:=@List.lookup_cons
def cA:=@Array.length_toList
def cB:=@PySem.wpAny_callSpecial?_slot
def cC:=@PySem.wpAny_Call_Name_kw
def cD:=@List.mem_iff_getElem
def cE:=@PySem.wpAny_field
def cF:=@List.prefix_refl
def cG:=@List.filter_eq_nil_iff
def cH:=@List.replicate_succ
def cI:=@PySem.wpAny_mono
def cJ:=@PySem.wpAny_newObj_type
def cK:=@congrArg
def cL:=@PyProof.Rows.callWith_type1
def cM:=@List.getElem?_replicate
def cN:=@List.length_cons
def cO:=@Bool.and_eq_true
def cP:=@List.mem_range
def cQ:=@PySem.Heap.size_push
def cR:=@PySem.wpAny_seqItems
def cS:=@PySem.wpAny_truthy_bool
def cT:=@List.append_nil
def cU:=@PySem.wpAny_call_entry
def cV:=@Nat.lt_irrefl
def cW:=@PySem.wpAny_holding
def cX:=@List.any_cons
def cY:=@List.idxOf_lt_length_of_mem
def cZ:=@Nat.le_succ
def dA:=@List.isEmpty_iff
def dB:=@List.length_replicate
def dC:=@decide_eq_true_iff
def dD:=@PySem.sizeLine_eq
def dE:=@List.append_assoc
def dF:=@PySem.wpAny_typeNameOfWhole_keyiter
def dG:=@PySem.F.slot_dict_keyiterator_next
def dH:=@Nat.zero_le
def dI:=@PySem.wpAny_setField_rec
def dJ:=@PyProof.Rows.F.plain_set_update_loop
def dL:=@List.getElem_range
def dO:=@PySem.wpAny_passesOwn
def dP:=@List.length_singleton
def dQ:=@Array.getElem?_toList
def dR:=@List.getElem?_eq_none
def dS:=@List.getD_eq_getElem?_getD
def dU:=@PySem.F.slot_tuple_iterator_next
def dW:=@List.take_sublist
def dX:=@PySem.wpAny_setState_of
def dY:=@List.ext_getElem?
def dZ:=@List.getElem?_zip_eq_some
def eA:=@List.forall_mem_cons
def eC:=@Option.isNone_iff_eq_none
def eD:=@List.mem_of_mem_take
def eE:=@Nat.le_of_lt
def eF:=@Nat.lt_succ_self
def eG:=@PySem.codeAny_mono
def eI:=@List.length_drop
def eK:=@List.getElem_mem
def eL:=@PySem.wpAny_typeNameOf_keyiter
def eN:=@List.any_eq_true
def eP:=@Nat.zero_add
def eQ:=@List.mem_flatten
def eR:=@PySem.wpAny_getItem_str_slice
def eT:=@decide_eq_false_iff_not
def eU:=@Nat.and_assoc
def eV:=@List.of_mem_zip
def eX:=@Bool.or_eq_true
def eY:=@List.length_zip
def eZ:=@PySem.Calls.callWith_builtin
def f7:=@Nat.lt_succ_of_lt
def f8:=@List.getElem?_set
def f9:=@Int.toNat_natCast
def fA:=@PySem.Heap.get?_update_self
def fB:=@List.countP_eq_length_filter
def fD:=@List.mem_append_left
def fE:=@List.filterMap_cons
def fF:=@PySem.Heap.SameBut.update
def fG:=@List.mem_map_of_mem
def fH:=@List.map_congr_left
def fI:=@List.nil_append
def fJ:=@Array.getElem?_eq_getElem
def fK:=@List.sublist_append_right
def fL:=@Nat.ne_of_gt
def fN:=@PySem.tupleKind_room_in1
def fO:=@PySem.Obj.data_mapFields
def fP:=@Nat.sub_self
def fQ:=@PyProof.Rows.F.entry_set_update_loop
def fR:=@Nat.lt_of_le_of_lt
def fS:=@List.getElem?_take
def fT:=@List.getElem_idxOf
def fU:=@List.getElem_take
def fV:=@List.getElem?_set_self
def fW:=@PySem.Heap.get?_update_other
def fX:=@PySem.wpAny_attempt
def fY:=@List.map_take
def fZ:=@Nat.le_of_not_lt
def g6:=@List.take_succ_eq_append_getElem
def g9:=@List.isEmpty_map
def gA:=@PyProof.Rows.slot_tuple_getitem
def gB:=@PySem.wpAny_call
def gC:=@PyProof.Rows.callWith_builtin1
def gD:=@PySem.call_meets
def gE:=@PySem.post_val_or_str
def gF:=@PySem.wpAny_updateSeq_pair
def gG:=@PySem.F.slot_zip_next
def gH:=@PySem.F.args_dict_keyiterator_next_1
def gJ:=@Nat.pow_le_pow_right
def gK:=@PySem.Calls.evalArgs_plain
def gL:=@List.mem_of_mem_drop
def gM:=@List.eq_nil_iff_forall_not_mem
def gN:=@PySem.F.entry_dict_keyiterator_next
def gO:=@List.map_eq_flatMap
def gP:=@List.filter_sublist
def gQ:=@List.nodup_nil
def gR:=@PySem.F.args_tuple_iterator_next_1
def gT:=@PySem.wpAny_setField
def gU:=@PySem.Value.type.inj
def gV:=@PySem.Calls.spliced_cons
def gW:=@PySem.F.entry_tuple_iterator_next
def gX:=@PySem.wpAny_pyIter_tuple
def gY:=@PySem.hashByValue.eq_def
def gZ:=@List.filter_append
def hG:=@PySem.Calls.Name_function_global
def hJ:=@PySem.wpAny_standAt
def hU:=@Int.fdiv_eq_ediv_of_nonneg
def hV:=@PySem.wpAny_onRaise
def hW:=@Option.ne_none_iff_exists'
def hX:=@PySem.Calls.spliced_nil
def hZ:=@PySem.wpAny_pyIter_list
def i4:=@Option.isSome_map
def i5:=@PySem.wpAny_dictEntries
def i7:=@List.nodup_append
def i8:=@List.Sublist.refl
def i9:=@List.forall_mem_singleton
def iA:=@List.drop_eq_getElem_cons
def iB:=@PySem.noFill_tuple_add
def iC:=@List.map_nil
def iD:=@PySem.Txt.slice_le
def iE:=@PySem.wpAny_isInstance
def iF:=@Nat.le_add_right
def iG:=@List.getElem_map
def iH:=@Option.bind_some
def iI:=@List.Sublist.map
def iJ:=@PySem.wpAny_execs_nil
def iK:=@List.foldl_cons
def iL:=@List.forIn_cons
def iM:=@PySem.wpAny_dictEpoch
def iN:=@PySem.codeAny_builtin
def iO:=@List.take_of_length_le
def iP:=@List.getElem?_toArray
def iQ:=@Array.mem_toList_iff
def iR:=@Eq.trans
def iS:=@List.Pairwise.filter
def iT:=@List.map_drop
def iU:=@Nat.min_self
def iV:=@Int.zero_add
def iW:=@Nat.and_self
namespace L2
open PySem PySem.Spec PyProof.Rows
inductive E2{α β:Type}(P:α->β->Prop):Prop|mk (a b) (h:P a b)
inductive E3{α β γ:Type}(P:α->β->γ->Prop):Prop|mk (a b c) (h:P a b c)
inductive E4{α β γ δ:Type}(P:α->β->γ->δ->Prop):Prop|mk (a b c d) (h:P a b c d)
inductive E5{α β γ δ ε:Type}(P:α->β->γ->δ->ε->Prop):Prop|mk (a b c d e) (h:P a b c d e)
inductive E6{α β γ δ ε ζ:Type}(P:α->β->γ->δ->ε->ζ->Prop):Prop|mk (a b c d e f) (h:P a b c d e f)
inductive E7{α β γ δ ε ζ η:Type}(P:α->β->γ->δ->ε->ζ->η->Prop):Prop|mk (a b c d e f g) (h:P a b c d e f g)
inductive E8{α β γ δ ε ζ η θ:Type}(P:α->β->γ->δ->ε->ζ->η->θ->Prop):Prop|mk (a b c d e f g h) (h:P a b c d e f g h)
inductive E9{α β γ δ ε ζ η θ ι:Type}(P:α->β->γ->δ->ε->ζ->η->θ->ι->Prop):Prop|mk (a b c d e f g h i) (h:P a b c d e f g h i)
inductive A3(a b c:Prop):Prop|mk (j:a) (k:b) (l:c)
inductive A4(a b c d:Prop):Prop|mk (j:a) (k:b) (l:c) (m:d)
inductive A5(a b c d e:Prop):Prop|mk (j:a) (k:b) (l:c) (m:d) (n:e)
inductive A6(a b c d e f:Prop):Prop|mk (j:a) (k:b) (l:c) (m:d) (n:e) (o:f)
inductive A7(a b c d e f g:Prop):Prop|mk (j:a) (k:b) (l:c) (m:d) (n:e) (o:f) (p:g)
inductive A8(a b c d e f g h:Prop):Prop|mk (j:a) (k:b) (l:c) (m:d) (n:e) (o:f) (p:g) (q:h)
inductive A9(a b c d e f g h i:Prop):Prop|mk (j:a) (k:b) (l:c) (m:d) (n:e) (o:f) (p:g) (q:h) (r:i)
abbrev Key:=Sum Int Str
noncomputable def IG:Key->Value->Bool
 |.inl k,v=>Value.isInt k v
 |.inr x,v=>Value.isStrOf x v
noncomputable def o0(w:World):Key->Int
 |.inl k=>hashInt k
 |.inr x=>hashStr w x
def AR:∀{k:Key}{v:Value},IG k v=true->(∃i t,k=Sum.inl i/\v=Value.int i t)\/(∃x t,k=Sum.inr x/\v=Value.str x t)
 |.inl i,v,h=>by
  obtain⟨t,e⟩:=Value.isInt_shape (k:=i) (v:=v) h;exact .inl ⟨i,t,rfl,e⟩
 |.inr x,v,h=>by
  obtain⟨t,e⟩:=Value.isStrOf_shape (x:=x) (v:=v) h;exact .inr ⟨x,t,rfl,e⟩
def Ps(i:Int)(t:Tok):IG (.inl i) (.int i t)=true:=by simp[IG,Value.isInt]
def Pr(x:Str)(t:Tok):IG (.inr x) (.str x t)=true:=by simp[IG,Value.isStrOf]
def YS(a b:Int):decide ((Sum.inl a:Key)=Sum.inl b)=(a ==b):=by
 by_cases e:a=b
 ·subst e;simp
 have h:¬(Sum.inl a:Key)=Sum.inl b:=λq=>e (Sum.inl.inj q);rw[bI h];exact(bS.mpr e).symm
def YO(a b:Str):decide ((Sum.inr a:Key)=Sum.inr b)=decide (a=b):=by
 by_cases e:a=b
 ·subst e;simp
 have h:¬(Sum.inr a:Key)=Sum.inr b:=λq=>e (Sum.inr.inj q);rw[bI h,bI e]
def YR(a:Int)(b:Str):decide ((Sum.inl a:Key)=Sum.inr b)=false:=bI (λq=>nomatch q)
def YQ(a:Str)(b:Int):decide ((Sum.inr a:Key)=Sum.inl b)=false:=bI (λq=>nomatch q)
noncomputable def Ai(prog:Program)(w:World):PySem.KeyKind prog w Key where
 is:=IG
 hash:=o0 w
 inj:=λv a b ha hb=>by
  rcases AR ha with⟨i,t,rfl,rfl⟩|⟨x,t,rfl,rfl⟩
  ·rcases AR hb with⟨j,u,rfl,e⟩|⟨y,u,rfl,e⟩
   ·injection e with e1 _;rw[e1]
   exact nomatch e
  rcases AR hb with⟨j,u,rfl,e⟩|⟨y,u,rfl,e⟩
  ·exact nomatch e
  injection e with e1 _;rw[e1]
 byValue:=λk v h=>by
  rcases AR h with⟨i,t,rfl,rfl⟩|⟨x,t,rfl,rfl⟩<;>rfl
 pyHash:=λhv h=>by
  rcases AR hv with⟨i,t,rfl,rfl⟩|⟨x,t,rfl,rfl⟩
  ·exact wpAny_pyHash_int h
  exact wpAny_pyHash_str h
 eqBool:=λhu hv h=>by
  rcases AR hu with⟨i,t,rfl,rfl⟩|⟨x,t,rfl,rfl⟩
  ·rcases AR hv with⟨j,u,rfl,rfl⟩|⟨y,u,rfl,rfl⟩
   ·rw[YS]at h;exact wpAny_eqBool_int h
   rw[YR]at h;exact SeqAt.EqAt.int_str i t y u _ _ _ _ h
  rcases AR hv with⟨j,u,rfl,rfl⟩|⟨y,u,rfl,rfl⟩
  ·rw[YQ]at h;exact SeqAt.EqAt.str_int x t j u _ _ _ _ h
  rw[YO]at h;exact wpAny_eqBool_str h
 «strs»:=λk x t v h=>by
  rcases AR h with⟨i,u,rfl,e⟩|⟨y,u,rfl,e⟩
  ·exact nomatch e
  injection e with e1 _
  subst e1;cases v<;>rfl
def Lb(prog:Program)(w:World)(i:Int)(t:Tok):(Ai prog w).is (.inl i) (.int i t)=true:=Ps i t
def La(prog:Program)(w:World)(x:Str)(t:Tok):(Ai prog w).is (.inr x) (.str x t)=true:=Pr x t
end L2
namespace L2
open PySem PySem.Spec PyProof.Rows
inductive V where
 |non|bl (b:Bool)|int (i:Int)|str (x:Str)|byt (b:Array UInt8)|flt (b:UInt64)|ref (a:Addr)|ty (n:String)
 deriving DecidableEq
def Au:V->Value->Prop
 |.non,u=>u=Value.none
 |.bl b,u=>u=Value.bool b
 |.int i,u=>∃t,u=Value.int i t
 |.str x,u=>∃t,u=Value.str x t
 |.byt b,u=>∃t,u=Value.bytes b t
 |.flt b,u=>∃t,u=Value.float b t
 |.ref a,u=>u=Value.ref a
 |.ty n,u=>u=Value.type n
abbrev Ap:List V->List Value->Prop:=Paired Au
theorem Ap.length(r:Ap xs us):xs.length=us.length:=Paired.length r
theorem Ap.get:∀{xs:List V}{us:List Value}{i:Nat}{x:V},Ap xs us->xs[i]?=some x->∃u,us[i]?=some u/\Au x u
 |_,_,_,_,.nil,e=>by simp at e
 |_,_,0,_,.cons r _,e=>by simp at e;subst e;exact⟨_,rfl,r⟩
 |_,_,i+1,x,.cons _ t,e=>by
  obtain⟨u,h1,h2⟩:=Ap.get (i:=i) (x:=x) t (by simpa using e);exact⟨u,by simpa using h1,h2⟩
theorem Ap.set(r:Au x u):∀{xs:List V}{us:List Value} i,Ap xs us->Ap (xs.set i x) (us.set i u)
 |_,_,_,.nil=>.nil
 |_,_,0,.cons _ t=>.cons r t
 |_,_,i+1,.cons q t=>.cons q (Ap.set r i t)
theorem Ap.append:∀{xs ys:List V}{us ws:List Value},Ap xs us->Ap ys ws->Ap (xs++ys) (us++ws)
 |_,_,_,_,.nil,s=>s
 |_,_,_,_,.cons r t,s=>.cons r (Ap.append t s)
theorem Ap.take:∀{xs:List V}{us:List Value} n,Ap xs us->Ap (xs.take n) (us.take n)
 |_,_,0,_=>.nil
 |_,_,_+1,.nil=>.nil
 |_,_,n+1,.cons r t=>.cons r (Ap.take n t)
theorem Ap.drop:∀{xs:List V}{us:List Value} n,Ap xs us->Ap (xs.drop n) (us.drop n)
 |_,_,0,r=>r
 |_,_,_+1,.nil=>.nil
 |_,_,n+1,.cons _ t=>Ap.drop n t
def DG:Option V->Option Value->Prop
 |some v,some u=>Au v u
 |none,none=>True
 |_,_=>False
def KV{κ:Type}:List (κ×V)->List (κ×Value)->Prop:=Paired λ(p:κ×V) (q:κ×Value)=>p.1=q.1/\Au p.2 q.2
noncomputable def kV:Key->V
 |.inl i=>.int i
 |.inr x=>.str x
inductive HO where
 |lst (xs:List V)
 |tup (xs:List V)
 |dK (kvs:List (Key×V))|dT (kvs:List (List Key×V))
 |set (S:Int->Bool) (n:Nat)
 |ins (C dx:Addr) (fs:List (Str×V))
 |own (x:Addr)
 |xd (fs:List (Str×V))
 |met (f x:Addr)
 |rng (lo hi:Int)
 |frz (o:Obj) (u:HO)
 |tbl (ps:Array Value)
 |ext (φ:Heap->Prop)
abbrev Hp:=Addr->Option HO
noncomputable def upd(H:Hp)(a:Addr)(o:HO):Hp:=λb=>if b=a then some o else H b
def Ac:upd H a o a=some o:=by unfold upd;rw[if_pos rfl]
def Aa(h:b≠a):upd H a o b=H b:=by unfold upd;rw[if_neg h]
def GY{H:Hp}{a b:Addr}{o u:HO}(h:H a=some o)(h':H b=some u)(d:o≠u):a≠b:=by
 intro e;subst e;rw[h]at h';exact d (bJ h')
def Aj{H:Hp}{a b:Addr}{o:HO}(h:H a=some o)(h':H b=none):a≠b:=by
 intro e;subst e;rw[h]at h';cases h'
section
variable (P:Program) (w:World)
def AE(H:Hp)(h:Heap)(a:Addr):HO->Prop
 |.lst xs=>xs.length<=sizeLine/\∃(its:List Value) (n:Nat),Ap xs its/\h.get? a=some {cls:=.type "list",data:=.seq its.toArray n}
 |.tup xs=>xs.length<=sizeLine/\∃its:List Value,Ap xs its/\IsTup h a its.toArray
 |.dK kvs=>kvs.length<=sizeLine/\(a ==sysModules)=false/\∃vs,KV kvs vs/\h.DictOf (Ai P w) a vs
 |.dT kvs=>kvs.length<=sizeLine/\(a ==sysModules)=false/\∃xs:List (List Key×Addr×Value),
  Paired (λ(p:List Key×V) (q:List Key×Addr×Value)=>p.1=q.1/\H q.2.1=some (.tup (p.1.map kV))/\Au p.2 q.2.2) kvs xs/\
  ∃o es ep,h.get? a=some o/\o.ExactDict/\o.data=.dict es ep/\es.toList=xs.map (entryOfKey (tupleKind (Ai P w)))/\(xs.map (·.1)).Nodup
 |.set S n=>h.SetOf (intKind P w) a S n
 |.ins C dx fs=>H dx=some (.own a)/\fs.length<=1000/\dx≠a/\h.get? a=some (PySem.W.instObj C dx)/\
  ∃mA,h.Ns1 dx mA/\(∀f,DG (fs.lookup f) (mA f))/\PySem.Within mA (fs.map (·.1))
 |.own _=>∃o,h.get? a=some o
 |.xd fs=>∃mA,h.Ns1 a mA/\∀f,DG (fs.lookup f) (mA f)
 |.rng lo hi=>∃t u v,h.get? a=some {cls:=.type "range",data:=.fields #[.int lo t,.int hi u,.int 1 v]}
 |.frz o u=>h.get? a=some o/\AE H h a u
 |.tbl ps=>h.get? a=some {cls:=.none,data:=.fields ps}
 |.met f x=>h.get? a=some (PySem.W.methodObj (.ref f) (.ref x))
 |.ext φ=>φ h/\(∃o,h.get? a=some o)/\∀h1 h2:Heap,φ h1->(∀o,h1.get? a=some o->h2.get? a=some o)->φ h2
def Dk(H:Hp)(h:Heap):Prop:=∀a o,H a=some o->AE P w H h a o
end
section
theorem AE.lt(x:AE P w H h a o):a<h.objs.size:=by
 cases o with
 |lst xs=>obtain⟨_,_,_,_,e⟩:=x;exact aM e
 |tup xs=>obtain⟨_,_,_,p⟩:=x;exact p.lt
 |dK kvs=>obtain⟨_,_,_,_,o,_,_,e,_⟩:=x;exact aM e
 |dT kvs=>obtain⟨_,_,_,_,o,_,_,e,_⟩:=x;exact aM e
 |set S n=>obtain⟨o,_,_,_,e,_⟩:=x;exact aM e
 |ins C dx fs=>obtain⟨_,_,_,e,_⟩:=x;exact aM e
 |own y=>obtain⟨_,e⟩:=x;exact aM e
 |xd fs=>obtain⟨_,⟨_,_,_,e,_⟩,_⟩:=x;exact aM e
 |rng lo hi=>obtain⟨_,_,_,e⟩:=x;exact aM e
 |frz ob u=>obtain⟨e,_⟩:=x;exact aM e
 |tbl ps=>exact aM (show h.get? a=some _ from x)
 |met f y=>exact aM (show h.get? a=some _ from x)
 |ext φ=>obtain⟨_,⟨_,e⟩,_⟩:=x;exact aM e
theorem Paired.mapP{α β:Type}{F G:α->β->Prop}:∀{l₁:List α}{l₂:List β},Paired F l₁ l₂->(∀a b,F a b->G a b)->Paired G l₁ l₂
 |_,_,.nil,_=>.nil
 |_,_,.cons r t,f=>.cons (f _ _ r) (Paired.mapP t f)
def AE.stay(x:AE P w H h a o)(k:∀b u,(b=a\/H b=some (.own a))->h.get? b=some u->h'.get? b=some u)
 (ho:∀b,H b=some (.own a)->H' b=some (.own a))(ht:∀b xs,H b=some (.tup xs)->H' b=some (.tup xs)):AE P w H' h' a o:=by
 induction o with
 |lst xs=>obtain⟨z,its,n,r,e⟩:=x;exact⟨z,its,n,r,k _ _ (.inl rfl) e⟩
 |tup xs=>obtain⟨z,its,r,ob,e,c⟩:=x;exact⟨z,its,r,ob,k _ _ (.inl rfl) e,c⟩
 |dK kvs=>obtain⟨z,y,vs,r,ob,es,ep,e,c⟩:=x;exact⟨z,y,vs,r,ob,es,ep,k _ _ (.inl rfl) e,c⟩
 |dT kvs=>
  obtain⟨z,y,xs,r,ob,es,ep,e,c⟩:=x;exact⟨z,y,xs,Paired.mapP r λp q z=>⟨z.1,ht _ _ z.2.1,z.2.2⟩,ob,es,ep,k _ _ (.inl rfl) e,c⟩
 |set S n=>obtain⟨ob,es,ep,t,e,c⟩:=x;exact⟨ob,es,ep,t,k _ _ (.inl rfl) e,c⟩
 |ins C dx fs=>
  obtain⟨d,z,ne,e,mA,⟨od,es,ep,e2,c⟩,r⟩:=x;exact⟨ho _ d,z,ne,k _ _ (.inl rfl) e,mA,⟨od,es,ep,k _ _ (.inr d) e2,c⟩,r⟩
 |own y=>obtain⟨ob,e⟩:=x;exact⟨ob,k _ _ (.inl rfl) e⟩
 |xd fs=>obtain⟨mA,⟨od,es,ep,e,c⟩,r⟩:=x;exact⟨mA,⟨od,es,ep,k _ _ (.inl rfl) e,c⟩,r⟩
 |rng lo hi=>obtain⟨t,u,v,e⟩:=x;exact⟨t,u,v,k _ _ (.inl rfl) e⟩
 |frz ob u ih=>obtain⟨e,q⟩:=x;exact⟨k _ _ (.inl rfl) e,ih q⟩
 |tbl ps=>
  have e:=x;show h'.get? a=some {cls:=.none,data:=.fields ps};exact k a _ (.inl rfl) e
 |met f y=>
  have e:=x;show h'.get? a=some (PySem.W.methodObj (.ref f) (.ref y));exact k a _ (.inl rfl) e
 |ext φ=>obtain⟨p,⟨o,e⟩,st⟩:=x;exact⟨st _ _ p λo q=>k _ _ (.inl rfl) q,⟨o,k _ _ (.inl rfl) e⟩,st⟩
theorem Dk.lt(x:Dk P w H h)(e:H a=some o):a<h.objs.size:=(x a o e).lt
def Dk.fresh(x:Dk P w H h)(e:h.objs.size<=a):H a=none:=by
 cases q:H a with
 |none=>rfl
 |some u=>exact absurd (aX (x.lt q) e) (cV _)
def Dk.kept(x:Dk P w H h)(k:∀b u,h.get? b=some u->h'.get? b=some u):Dk P w H h':=λa o e=>
 (x a o e).stay (λb u _ q=>k b u q) (λ_ q=>q) λ_ _ q=>q
def Dk.laid(x:Dk P w H h)(k:∀b u,h.get? b=some u->h'.get? b=some u)(hp:h.objs.size<=a)(new:AE P w (upd H a o) h' a o):Dk P w (upd H a o) h':=λb u e=>by
 have hn:=x.fresh hp;by_cases hb:b=a
 ·subst hb;rw[Ac]at e;cases e;exact new
 rw[Aa hb]at e;exact(x b u e).stay (λc v _ q=>k c v q) (λc q=>by rw[Aa (Aj q hn)];exact q) λc xs q=>by rw[Aa (Aj q hn)];exact q
end
def Rd(H:Hp)(a:Addr)(u:HO):Prop:=H a=some u\/∃o,H a=some (.frz o u)
def Rd.ok(r:Rd H a u)(x:Dk P w H h):AE P w H h a u:=by
 rcases r with r|⟨o,r⟩
 ·exact x a u r
 obtain⟨_,q⟩:=x a _ r;exact q
def kh:Option HO->Prop
 |some (.lst _)=>True
 |some (.dK _)=>True
 |some (.dT _)=>True
 |some (.set _ _)=>True
 |some (.ins _ _ _)=>True
 |some (.ext _)=>True
 |_=>False
section
def Dk.write(ok:Dk P w H h)(mu:kh (H x))(he:e=x\/H e=some (.own x))(k:∀b u,b≠e->h.get? b=some u->h'.get? b=some u)(heo:∃u,h'.get? e=some u)
 (new:AE P w (upd H x o') h' x o'):Dk P w (upd H x o') h':=λb u q=>by
 have nown:∀c y,H c=some (.own y)->c≠x:=λc y r z=>by subst z;rw[r]at mu;exact mu
 have ntup:∀c xs,H c=some (.tup xs)->c≠x:=λc xs r z=>by subst z;rw[r]at mu;exact mu
 by_cases hb:b=x
 ·subst hb;rw[Ac]at q;cases q;exact new
 rw[Aa hb]at q;by_cases hbe:b=e
 ·have q':H b=some (.own x):=by
    rcases he with z|z
    ·exact absurd (hbe.trans z) hb
    rw[hbe];exact z
  rw[q]at q';cases q';obtain⟨v,hv⟩:=heo;exact⟨v,by rw[hbe];exact hv⟩
 refine(ok b u q).stay (λc v hc r=>k c v ?_ r) (λc r=>by rw[Aa (nown c b r)];exact r) λc xs r=>by rw[Aa (ntup c xs r)];exact r
 rcases hc with rfl|hc
 ·exact hbe
 rintro rfl;rcases he with z|z
 ·exact nown c b hc z
 rw[hc]at z;cases z;exact hb rfl
end
structure Un(fs ex:List Addr)(H H':Hp)(h h':Heap):Prop where
 keep:∀b o,h.get? b=some o->H b=none->b∉fs->b∉ex->h'.get? b=some o
 slot:∀b o,h.get? b=some o->H b=none->b∈fs->b∉ex->∃sl,h'.get? b=some {o with slots:=sl}
 free:∀b o,h.get? b=some o->H b=none->b∉ex->H' b=none
 there:∀b o,h.get? b=some o->b∉ex->∃o',h'.get? b=some o'
 tups:∀b xs,H b=some (.tup xs)->H' b=some (.tup xs)
 frzs:∀b o u,H b=some (.frz o u)->H' b=some (.frz o u)
 tbls:∀b ps,H b=some (.tbl ps)->∃more,H' b=some (.tbl (ps++more))
section
def Un.any(u:Un fs ex H H1 h h1)(q:h.get? b=some ob)(n:H b=none)(hx:b∉ex):∃sl,h1.get? b=some {ob with slots:=sl}:=by
 by_cases hb:b∈fs
 ·exact u.slot b ob q n hb hx
 exact⟨ob.slots,u.keep b ob q n hb hx⟩
def Un.kept(k:∀b u,h.get? b=some u->h'.get? b=some u):Un fs ex H H h h':=
 ⟨λb ob q _ _ _=>k b ob q,λb ob q _ _ _=>⟨ob.slots,k b ob q⟩,λ_ _ _ n _=>n,λb ob q _=>⟨ob,k b ob q⟩,λ_ _ q=>q,λ_ _ _ q=>q,λ_ ps q=>⟨#[],by rw[q];simp⟩⟩
def Un.refl:Un fs ex H H h h:=Un.kept λ_ _ q=>q
def Un.laid(k:∀b u,h.get? b=some u->h'.get? b=some u)(hp:h.objs.size<=a)(hn:H a=none):Un fs ex H (upd H a o) h h' where
 keep:=λb u q _ _ _=>k b u q
 slot:=λb u q _ _ _=>⟨u.slots,k b u q⟩
 free:=λb u q n _=>by rw[Aa (aW (aX (aM q) hp))];exact n
 there:=λb u q _=>⟨u,k b u q⟩
 tups:=λb xs q=>by rw[Aa (Aj q hn)];exact q
 frzs:=λb u xs q=>by rw[Aa (Aj q hn)];exact q
 tbls:=λb ps q=>⟨#[],by rw[Aa (Aj q hn),q];simp⟩
def Un.write(mu:kh (H x))(he:e=x\/H e=some (.own x))(k:∀b u,b≠e->h.get? b=some u->h'.get? b=some u)(heo:∃u,h'.get? e=some u):Un fs ex H (upd H x o) h h':=by
 have hx:∀b,H b=none->b≠x:=λb n z=>by subst z;rw[n]at mu;exact mu
 have hb:∀b,H b=none->b≠e:=λb n z=>by
  subst z;rcases he with r|r
  ·exact hx b n r
  rw[n]at r;cases r
 have hm:∀b u,H b=some u->¬kh (some u)->b≠x:=λb u q nm z=>by subst z;rw[q]at mu;exact nm mu
 refine⟨λb u q n _ _=>k b u (hb b n) q,λb u q n _ _=>⟨u.slots,k b u (hb b n) q⟩,λb u q n _=>by rw[Aa (hx b n)];exact n,λb u q _=>?_,
  λb xs q=>by rw[Aa (hm b _ q λz=>z)];exact q,λb u xs q=>by rw[Aa (hm b _ q λz=>z)];exact q,λb ps q=>⟨#[],by rw[Aa (hm b _ q λz=>z),q];simp⟩⟩
 by_cases hbe:b=e
 ·subst hbe;exact heo
 exact⟨u,k b u hbe q⟩
end
noncomputable def kX(h:Heap)(H:Hp):List Addr:=(List.range h.objs.size).filter λa=>(H a).isSome
noncomputable def Gd(h:Heap)(H:Hp):Heap:=PySem.W.hideAll h (kX h H)
def Py(h:Heap)(H:Hp):(Gd h H).objs.size=h.objs.size:=PySem.W.hideAll_size _ _
def S7(e:h.get? b=some o)(n:H b=none):(Gd h H).get? b=some o:=
 PySem.W.hideAll_get _ e λhm=>by
  have q:=(aS.mp hm).2;rw[n]at q;simp at q
def NI(e:(Gd h H).get? b=some o):h.get? b=some o/\H b=none:=by
 have e':h.get? b=some o:=PySem.W.of_hideAll (kX h H) e;refine⟨e',?_⟩;cases q:H b with
 |none=>rfl
 |some x=>
  have hm:b∈kX h H:=aS.mpr ⟨cP.mpr (aM e'),by simp[q]⟩;have z:(Gd h H).get? b=none:=PySem.W.hideAll_none (kX h H) hm;rw[z]at e;cases e
noncomputable def VR(g h:Heap)(L:Addr):List (Addr×Obj):=(List.range h.objs.size).filterMap λa=>if a=L\/(g.get? a).isSome=true then none else(h.get? a).map λo=>(a,o)
noncomputable def rest(g h:Heap)(L d:Addr):List (Addr×Obj):=(VR g h L).filter λp=>decide (p.1≠d)
end L2
namespace L2
open PySem PySem.Spec PyProof.Rows
structure Mod(K:PySem.W.Frag)(mg:Str->Option Value)(base:Heap):Prop where
 kin:K.In base
 glob:base.Ns mainGlobals mg
 blt:∃mb,base.Ns builtinsNs mb/\∀x:Str,x≠ "__name__"->mb x=bootBuiltins x
 nolimit:base.NoLimit
structure Cx where
 prog:Program
 w:World
 K:PySem.W.Frag
 mg:Str->Option Value
 base:Heap
 A:Around
 N:List Str
 s₀:Shared
 H₀:Hp
 env:Env
 outer:List Env
 stack:List Env
 ex:List Addr
 fn:Str->Bool
 calm:Bool
 pn:List (Addr×Obj)
 xe:Value->Shared->Prop
noncomputable def Lv(l:List Env):List Addr:=l.filterMap (·.frame)
noncomputable abbrev Cx.fs(X:Cx):List Addr:=Lv X.outer
def WK(sc:Scope)(x:Str):Prop:=sc.names.lookup x=some .local\/sc.names.lookup x=some .cell\/sc.names.lookup x=some .free
def WN(sc:Scope)(x:Str):Prop:=sc.names.lookup x=some .local\/sc.names.lookup x=some .cell
def pT(env:Env)(h:Heap)(m:Str->Option Value)(x:Str)(u:Value):Prop:=
 (env.kindOf x=some .local/\m x=some u)\/((env.kindOf x=some .cell\/env.kindOf x=some .free)/\∃c,env.cells.lookup x=some c/\h.IsCell c (some u))
structure Cx.Ok(X:Cx):Prop where
 mod:Mod X.K X.mg X.base
 kind:X.env.scope.kind=.function
 glob:X.env.globals=mainGlobals
 blt:X.env.builtins=builtinsNs
 above:X.s₀.heap.objs.size<=X.env.locals
 inj:∀x y c,X.env.cells.lookup x=some c->X.env.cells.lookup y=some c->x=y
 has:∀x,(X.env.kindOf x=some .cell\/X.env.kindOf x=some .free)->∃c,X.env.cells.lookup x=some c
 cab:∀x c,X.fn x=true->X.env.cells.lookup x=some c->X.s₀.heap.objs.size<=c
 hd:X.calm=true->X.A.handled=none
 frames:X.A.frames=some X.stack
 stk:X.stack=X.outer\/(X.stack=X.env::X.outer/\X.env.frame=some X.env.locals)
 exf:∀b∈X.ex,b≠X.env.locals/\∀x c,X.env.cells.lookup x=some c->c≠b
 bs:∀b o,X.base.get? b=some o->X.s₀.heap.get? b=some o/\X.H₀ b=none
 bsz:X.base.objs.size<=X.s₀.heap.objs.size
 noex:∀b o,X.base.get? b=some o->b∉X.ex
 exfs:∀b∈X.ex,b∉X.fs
 funs:X.s₀.heap.FunFrames X.base X.outer
 frf:∀b∈X.fs,X.H₀ b=none
structure Ag(X:Cx)(pins:List (Addr×Obj))(σ:List (Option V))(H:Hp)(s:Shared):Prop where
 ok:X.Ok
 os:s.os=X.s₀.os
 bare:AllBare s.gens
 base:Un X.fs X.ex X.H₀ H X.s₀.heap s.heap
 loc:∃m,s.heap.Ns X.env.locals m/\∀(i:Nat) (x:Str) (v:V),X.N[i]?=some x->σ[i]?=some (some v)->WK X.env.scope x->∃u,Au v u/\pT X.env s.heap m x u
 cell:∀x c,X.env.cells.lookup x=some c->∃v,s.heap.IsCell c v
 free:H X.env.locals=none
 freeC:∀x c,X.env.cells.lookup x=some c->H c=none
 pin:∀p∈X.pn++pins,s.heap.get? p.1=some p.2/\H p.1=none/\p.1≠X.env.locals/\p.1∉X.fs/\∀v,p.2.data≠ .cell v
 hok:Dk X.prog X.w H s.heap
 len:σ.length=X.N.length
section
variable {X:Cx}{pins:Pq}{σ:List (Option V)}{H H':Hp}{s:Shared}
def Cx.Ok.nofr(ok:X.Ok)(e:X.base.get? b=some o):b∉X.fs:=λhb=>by
 have:=(ok.funs.mem hb).1;rw[e]at this;cases this
theorem Ag.bs(I:Ag X pins σ H s):∀b o,X.base.get? b=some o->s.heap.get? b=some o/\H b=none:=λb o e=>
 ⟨I.base.keep b o (I.ok.bs b o e).1 (I.ok.bs b o e).2 (I.ok.nofr e) (I.ok.noex b o e),I.base.free b o (I.ok.bs b o e).1 (I.ok.bs b o e).2 (I.ok.noex b o e)⟩
def Ag.bk(I:Ag X pins σ H s):∀b o,X.base.get? b=some o->s.heap.get? b=some o:=λb o e=>(I.bs b o e).1
theorem Ag.mod(I:Ag X pins σ H s):Mod X.K X.mg X.base:=I.ok.mod
def Ag.kIn(I:Ag X pins σ H s):X.K.In s.heap:=I.ok.mod.kin.keeps I.bk
theorem Ag.lt(I:Ag X pins σ H s):X.env.locals<s.heap.objs.size:=let ⟨_,hn,_⟩:=I.loc;hn.lt
def Ag.sz(I:Ag X pins σ H s):X.s₀.heap.objs.size<=s.heap.objs.size:=b9 I.ok.above (eE I.lt)
def Ag.nofs(I:Ag X pins σ H s)(h:s.heap.objs.size<=a):a∉X.fs:=λhb=>by
 obtain⟨_,o,ho,_⟩:=I.ok.funs.mem hb;exact absurd (aX (aM ho) (b9 I.sz h)) (cV _)
def Ag.cne(I:Ag X pins σ H s):∀x c,X.env.cells.lookup x=some c->c≠X.env.locals:=λx c e z=>by
 obtain⟨v,o,ho,hd⟩:=I.cell x c e;obtain⟨m,⟨o',es,ep,ho',hd',_⟩,_⟩:=I.loc;rw[z,ho']at ho;cases ho;rw[hd']at hd;cases hd
theorem Ag.funs(I:Ag X pins σ H s):s.heap.FunFrames X.base X.outer:=by
 have all:∀l,(∀b∈Lv l,b∈X.fs)->X.s₀.heap.FunFrames X.base l->s.heap.FunFrames X.base l:=by
  intro l
  induction l with
  |nil=>intro _ _;trivial
  |cons env r ih=>
   intro hs hl;obtain⟨hk,⟨L,o,hf,hn,ho,hd⟩,hr⟩:=hl;have hL:=hs L (by unfold Lv;rw[fE,hf];exact aH);obtain⟨sl,e⟩:=I.base.slot L o ho (I.ok.frf L hL) hL λz=>I.ok.exfs L z hL;exact⟨hk,⟨L,_,hf,hn,e,hd⟩,ih (λb hb=>hs b (by unfold Lv;rw[fE,hf];exact aE _ hb)) hr⟩
 exact all X.outer (λ_ hb=>hb) I.ok.funs
theorem Ag.stack(I:Ag X pins σ H s):s.heap.FunFrames X.base X.stack:=by
 rcases I.ok.stk with e|⟨e,hf⟩
 ·rw[e];exact I.funs
 rw[e];obtain⟨m,hn,_⟩:=I.loc;refine .cons (by rw[I.ok.kind];decide) hf hn ?_ I.funs;exact Heap.get?_none_of_le (b9 I.ok.bsz I.ok.above)
def Ag.stkSub(I:Ag X pins σ H s):∀b∈Lv X.stack,b∈X.env.locals::X.fs:=λb hb=>by
 rcases I.ok.stk with e|⟨e,hf⟩
 ·rw[e]at hb;exact aE _ hb
 rw[e]at hb;unfold Lv at hb;rw[fE,hf]at hb;exact hb
def Ag.stkFree(I:Ag X pins σ H s):∀b∈Lv X.stack,H b=none:=λb hb=>by
 rcases aU.mp (I.stkSub b hb) with e|hb
 ·rw[e];exact I.free
 obtain⟨_,o,ho,_⟩:=I.ok.funs.mem hb;exact I.base.free b o ho (I.ok.frf b hb) λz=>I.ok.exfs b z hb
def Ag.step{t':Nat}{ch:List Addr}(I:Ag X pins σ H s)
 (hch:∀b∈ch,(b∈X.ex\/X.s₀.heap.objs.size<=b)/\b≠X.env.locals/\(∀x c,X.env.cells.lookup x=some c->c≠b)/\∀p∈X.pn++pins,p.1≠b)
 (keep:∀b o,b≠X.env.locals->b∉X.fs->b∉ch->s.heap.get? b=some o->H b=none->h'.get? b=some o)
 (slot:∀b o,b≠X.env.locals->b∈X.fs->b∉ch->s.heap.get? b=some o->H b=none->∃sl,h'.get? b=some {o with slots:=sl})(free:∀b o,b∉ch->s.heap.get? b=some o->H b=none->H' b=none)
 (there:∀b o,b∉ch->s.heap.get? b=some o->∃o',h'.get? b=some o')
 (tups:∀b xs,H b=some (.tup xs)->H' b=some (.tup xs))(frzs:∀b o u,H b=some (.frz o u)->H' b=some (.frz o u))(tbls:∀b ps,H b=some (.tbl ps)->∃more,H' b=some (.tbl (ps++more)))
 (ns:∀m,s.heap.Ns X.env.locals m->h'.Ns X.env.locals m)(hok:Dk X.prog X.w H' h')(hg:AllBare g') :
 Ag X pins σ H' {s with heap:=h',gens:=g',drawn:=d',toks:=t'}:=by
 have neL:∀b o,X.s₀.heap.get? b=some o->b≠X.env.locals:=λb o e=>aW (aX (aM e) I.ok.above);have neC:∀b o,X.s₀.heap.get? b=some o->b∉X.ex->b∉ch:=λb o e hx hb=>by
  rcases(hch b hb).1 with z|z
  ·exact hx z
  exact absurd (aX (aM e) z) (cV _)
 have cellK:∀x c,X.env.cells.lookup x=some c->∀v,s.heap.IsCell c v->h'.IsCell c v:=λx c e v ⟨o,ho,hd⟩=>by
  have nch:c∉ch:=λz=>(hch c z).2.2.1 x c e rfl;by_cases hc:c∈X.fs
  ·obtain⟨sl,q⟩:=slot c o (I.cne x c e) hc nch ho (I.freeC x c e);exact⟨_,q,hd⟩
  exact⟨o,keep c o (I.cne x c e) hc nch ho (I.freeC x c e),hd⟩
 refine⟨I.ok,I.os,hg,⟨λb o e n hb hx=>?_,λb o e n hb hx=>?_,λb o e n hx=>?_,λb o e hx=>?_,λb xs e=>tups b xs (I.base.tups b xs e),λb o xs e=>frzs b o xs (I.base.frzs b o xs e),λb ps e=>?_⟩,?_,λx c e=>?_,?_,λx c e=>?_,λp hp=>?_,hok,I.len⟩
 ·exact keep b o (neL b o e) hb (neC b o e hx) (I.base.keep b o e n hb hx) (I.base.free b o e n hx)
 ·obtain⟨sl,e1⟩:=I.base.slot b o e n hb hx;obtain⟨sl',e2⟩:=slot b _ (neL b o e) hb (neC b o e hx) e1 (I.base.free b o e n hx);exact⟨sl',e2⟩
 ·obtain⟨o',e1⟩:=I.base.there b o e hx;exact free b o' (neC b o e hx) e1 (I.base.free b o e n hx)
 ·obtain⟨o',e1⟩:=I.base.there b o e hx;exact there b o' (neC b o e hx) e1
 ·obtain⟨m1,e1⟩:=I.base.tbls b ps e;obtain⟨m2,e2⟩:=tbls b _ e1;exact⟨m1++m2,by rw[e2,Array.append_assoc]⟩
 ·obtain⟨m,hn,hl⟩:=I.loc;refine⟨m,ns m hn,λi x v e1 e2 e3=>?_⟩;obtain⟨u,r,l⟩:=hl i x v e1 e2 e3;refine⟨u,r,?_⟩;rcases l with l|⟨k,c,e,z⟩
  ·exact .inl l
  exact .inr ⟨k,c,e,cellK x c e _ z⟩
 ·obtain⟨v,z⟩:=I.cell x c e;exact⟨v,cellK x c e v z⟩
 ·obtain⟨m,⟨o,_,_,ho,_⟩,_⟩:=I.loc;exact free _ o (λz=>(hch _ z).2.1 rfl) ho I.free
 ·obtain⟨v,o,ho,hd⟩:=I.cell x c e;exact free c o (λz=>(hch c z).2.2.1 x c e rfl) ho (I.freeC x c e)
 obtain⟨e,n,ne,nf,d⟩:=I.pin p hp;have nch:p.1∉ch:=λz=>(hch p.1 z).2.2.2 p hp rfl;exact⟨keep p.1 p.2 ne nf nch e n,free p.1 p.2 nch e n,ne,nf,d⟩
def Ag.un{t':Nat}(I:Ag X pins σ H s)(u:Un X.fs [] H H' s.heap h')(hok:Dk X.prog X.w H' h'):Ag X pins σ H' {s with heap:=h',toks:=t'}:=by
 obtain⟨m,⟨o,es,ep,ho,r⟩,_⟩:=id I.loc;obtain⟨sl,hL⟩:=u.any ho I.free (by simp);exact I.step (g':=s.gens) (d':=s.drawn) (ch:=[]) (λ_ z=>nomatch z) (λb o _ hb _ e n=>u.keep b o e n hb (by simp)) (λb o _ hb _ e n=>u.slot b o e n hb (by simp)) (λb o _ e n=>u.free b o e n (by simp)) (λb o _ e=>u.there b o e (by simp)) u.tups u.frzs u.tbls (λm' hm=>by
  obtain⟨o',es',ep',ho',r'⟩:=hm;rw[ho]at ho';cases ho';exact⟨_,es',ep',hL,r'⟩) hok I.bare
def Ag.call{t':Nat}{ch:List Addr}(I:Ag X pins σ H s)(u:Un (Lv X.stack) ch H H' s.heap h')(hok:Dk X.prog X.w H' h')(hg:AllBare g')
 (hch:∀b∈ch,(b∈X.ex\/X.s₀.heap.objs.size<=b)/\b≠X.env.locals/\(∀x c,X.env.cells.lookup x=some c->c≠b)/\∀p∈X.pn++pins,p.1≠b) :
 Ag X pins σ H' {s with heap:=h',gens:=g',drawn:=d',toks:=t'}:=by
 obtain⟨m,⟨o,es,ep,ho,r⟩,_⟩:=id I.loc;obtain⟨sl,hL⟩:=u.any ho I.free λz=>(hch _ z).2.1 rfl;exact I.step (ch:=ch) hch (λb o hL hb hc e n=>u.keep b o e n (λz=>(aU.mp (I.stkSub b z)).elim hL hb) hc) (λb o _ _ hc e n=>u.any e n hc) (λb o hc e n=>u.free b o e n hc) (λb o hc e=>u.there b o e hc) u.tups u.frzs u.tbls (λm' hm=>by
  obtain⟨o',es',ep',ho',r'⟩:=hm;rw[ho]at ho';cases ho';exact⟨_,es',ep',hL,r'⟩) hok hg
def Ag.turned{t':Nat}{it:Addr}(I:Ag X pins σ H s)(k:∀b o,b≠it->s.heap.get? b=some o->h'.get? b=some o)(hn:H it=none)(hL:it≠X.env.locals)
 (h1:it∈X.ex\/X.s₀.heap.objs.size<=it)(h2:∀x c,X.env.cells.lookup x=some c->c≠it)(h3:∀p∈X.pn++pins,p.1≠it):Ag X pins σ H {s with heap:=h',toks:=t'}:=by
 have nit:∀b u,H b=some u->b≠it:=λb u e z=>by rw[z,hn]at e;cases e
 refine I.step (g':=s.gens) (d':=s.drawn) (ch:=[it]) (λb hb=>?_) (λb o _ _ hc e _=>k b o (λz=>hc (by simp[z])) e) (λb o _ _ hc e _=>⟨o.slots,k b o (λz=>hc (by simp[z])) e⟩) (λ_ _ _ _ n=>n)
  (λb o hc e=>⟨o,k b o (λz=>hc (by simp[z])) e⟩) (λ_ _ e=>e) (λ_ _ _ e=>e) (λb ps e=>⟨#[],by rw[e];simp⟩) (λm hm=>?_) (λb u e=>?_) I.bare
 ·have e:b=it:=by simpa using hb
  subst e;exact⟨h1,hL,h2,h3⟩
 ·obtain⟨o,es,ep,ho,r⟩:=hm;exact⟨o,es,ep,k _ o (bM hL) ho,r⟩
 refine(I.hok b u e).stay (λc v hc q=>k c v ?_ q) (λ_ q=>q) λ_ _ q=>q;rcases hc with z|z
 ·rw[z];exact nit b u e
 exact nit c _ z
def Ag.tok(I:Ag X pins σ H s)(t:Nat):Ag X pins σ H {s with toks:=t}:=I.un (h':=s.heap) (t':=t) Un.refl I.hok
theorem Ag.kept{t':Nat}(I:Ag X pins σ H s)(k:∀b u,s.heap.get? b=some u->h'.get? b=some u):Ag X pins σ H {s with heap:=h',toks:=t'}:=I.un (Un.kept k) (I.hok.kept k)
theorem Ag.laid{t':Nat}(I:Ag X pins σ H s)(k:∀b u,s.heap.get? b=some u->h'.get? b=some u)(hp:s.heap.objs.size<=a)(new:AE X.prog X.w (upd H a o) h' a o) :
 Ag X pins σ (upd H a o) {s with heap:=h',toks:=t'}:=I.un (Un.laid k hp (I.hok.fresh hp)) (I.hok.laid k hp new)
theorem Ag.write{t':Nat}(I:Ag X pins σ H s)(mu:kh (H x))(he:e=x\/H e=some (.own x))(k:∀b u,b≠e->s.heap.get? b=some u->h'.get? b=some u)(heo:∃u,h'.get? e=some u)
 (new:AE X.prog X.w (upd H x o) h' x o):Ag X pins σ (upd H x o) {s with heap:=h',toks:=t'}:=I.un (Un.write mu he k heo) (I.hok.write mu he k heo new)
def Ag.pins_of(I:Ag X pins σ H s)(h:∀p∈pins',s.heap.get? p.1=some p.2/\H p.1=none/\p.1≠X.env.locals/\p.1∉X.fs/\∀v,p.2.data≠ .cell v):Ag X pins' σ H s:=
 ⟨I.ok,I.os,I.bare,I.base,I.loc,I.cell,I.free,I.freeC,λp hp=>(bT.mp hp).elim (λz=>I.pin p (fD _ z)) (h p),I.hok,I.len⟩
def D4{N:List Str}(hN:N.Nodup){i j:Nat}{x:Str}(a:N[i]?=some x)(b:N[j]?=some x):i=j:=by
 obtain⟨h1,e1⟩:=a9.mp a;obtain⟨h2,e2⟩:=a9.mp b;exact(List.getElem_inj hN).mp (e1.trans e2.symm)
def Im{i:Nat}{x:Str}(I:Ag X pins σ H s)(hN:X.N.Nodup)(hi:X.N[i]?=some x)(hx:WN X.env.scope x)(r:Au v u)
 (h:∀s',Ag X pins (σ.set i (some v)) H s'->(∃a,Heap.SameBut a s.heap s'.heap/\(a=X.env.locals\/X.env.cells.lookup x=some a))->Q () s')(hf:X.fn x=true\/X.env.scope.names.lookup x=some .local:=by first|exact .inl rfl|exact .inr rfl|assumption):wpAny M A (storeName X.env x u) Q E s:=by
 obtain⟨m,hn,hl⟩:=id I.loc;have hcls:(X.env.scope.kind== .class||(X.env.scope.kind== .module&&X.env.locals !=X.env.globals))=false:=by rw[I.ok.kind];rfl
 have hiσ:i<σ.length:=by rw[I.len];exact(a9.mp hi).1
 have cne:=I.cne;have tracked:∀{a:Addr}{h':Heap},(∃o,s.heap.get? a=some o/\H a=none)->Heap.SameBut a s.heap h'->Dk X.prog X.w H h':=λ{a h'} ha hs b ob e=>by
  obtain⟨_,_,hfree⟩:=ha;refine(I.hok b ob e).stay (λc w' hc q=>(hs.2 c ?_).trans q) (λ_ q=>q) λ_ _ q=>q;rintro rfl;rcases hc with rfl|hc
  ·rw[hfree]at e;cases e
  rw[hfree]at hc;cases hc
 rcases hx with hk|hk
 ·refine wpAny_storeName_local hk hn (λh' hn' hs=>?_) hcls;obtain⟨oL,_,_,hoL,_⟩:=id hn;refine h _ ⟨I.ok,I.os,I.bare,⟨λb o e n hb hx=>?_,λb o e n hb hx=>?_,I.base.free,λb o e hx=>?_,I.base.tups,I.base.frzs,I.base.tbls⟩,⟨_,hn',λj y v' e1 e2 e3=>?_⟩,λy c e=>?_,I.free,I.freeC,λp hp=>?_,tracked ⟨oL,hoL,I.free⟩ hs,by simpa using I.len⟩ ⟨_,hs,.inl rfl⟩
  ·exact(hs.2 b (aW (aX (aM e) I.ok.above))).trans (I.base.keep b o e n hb hx)
  ·obtain⟨sl,e1⟩:=I.base.slot b o e n hb hx;exact⟨sl,(hs.2 b (aW (aX (aM e) I.ok.above))).trans e1⟩
  ·obtain⟨o',e1⟩:=I.base.there b o e hx;exact⟨o',(hs.2 b (aW (aX (aM e) I.ok.above))).trans e1⟩
  ·by_cases hj:j=i
   ·subst hj;rw[hi]at e1;cases e1;rw[fV hiσ]at e2;cases e2;exact⟨u,r,.inl ⟨hk,by simp⟩⟩
   rw[c7 (bM hj)]at e2;obtain⟨u',r',q⟩:=hl j y v' e1 e2 e3;refine⟨u',r',?_⟩;rcases q with⟨k,e⟩|⟨k,c,e,z⟩
   ·refine .inl ⟨k,?_⟩;have:y≠x:=λe=>hj (D4 hN e1 (e▸hi));simp[this,e]
   exact .inr ⟨k,c,e,z.sameBut hs (cne y c e)⟩
  ·obtain⟨w',z⟩:=I.cell y c e;exact⟨w',z.sameBut hs (cne y c e)⟩
  obtain⟨e,n,ne,nf,d⟩:=I.pin p hp;exact⟨(hs.2 p.1 ne).trans e,n,ne,nf,d⟩
 have hfn:X.fn x=true:=by
  rcases hf with z|z
  ·exact z
  rw[z]at hk;cases hk
 obtain⟨c,hc⟩:=I.ok.has x (.inl hk);obtain⟨w',z⟩:=I.cell x c hc;refine wpAny_storeName_cell I.ok.kind hk hc z (λh' hc' hs=>?_);obtain⟨oc,hoc,hocd⟩:=id z;refine h {s with heap:=h'} ⟨I.ok,I.os,I.bare,⟨λb o e n hb hx=>?_,λb o e n hb hx=>?_,I.base.free,λb o e hx=>?_,I.base.tups,I.base.frzs,I.base.tbls⟩,⟨m,hn.sameBut hs (bM (cne x c hc)),λj y v' e1 e2 e3=>?_⟩,λy c' e=>?_,I.free,I.freeC,λp hp=>?_,tracked ⟨oc,hoc,I.freeC x c hc⟩ hs,by simpa using I.len⟩ ⟨c,hs,.inr hc⟩
 ·exact(hs.2 b (aW (aX (aM e) (I.ok.cab x c hfn hc)))).trans (I.base.keep b o e n hb hx)
 ·obtain⟨sl,e1⟩:=I.base.slot b o e n hb hx;exact⟨sl,(hs.2 b (aW (aX (aM e) (I.ok.cab x c hfn hc)))).trans e1⟩
 ·obtain⟨o',e1⟩:=I.base.there b o e hx;exact⟨o',(hs.2 b (aW (aX (aM e) (I.ok.cab x c hfn hc)))).trans e1⟩
 ·by_cases hj:j=i
  ·subst hj;rw[hi]at e1;cases e1;rw[fV hiσ]at e2;cases e2;exact⟨u,r,.inr ⟨.inl hk,c,hc,hc'⟩⟩
  rw[c7 (bM hj)]at e2;obtain⟨u',r',q⟩:=hl j y v' e1 e2 e3;refine⟨u',r',?_⟩;rcases q with q|⟨k,c',e,z'⟩
  ·exact .inl q
  refine .inr ⟨k,c',e,z'.sameBut hs ?_⟩;rintro rfl;exact hj (D4 hN e1 (I.ok.inj _ _ _ e hc▸hi))
 ·by_cases hcc:c'=c
  ·subst hcc;exact⟨_,hc'⟩
  obtain⟨w2,z2⟩:=I.cell y c' e;exact⟨w2,z2.sameBut hs hcc⟩
 obtain⟨e,n,ne,nf,d⟩:=I.pin p hp;refine⟨(hs.2 p.1 ?_).trans e,n,ne,nf,d⟩;intro q;rw[q,hoc]at e;have q':oc=p.2:=bJ e;exact d w' (by rw[←q'];exact hocd)
def Kz{i:Nat}{x:Str}(I:Ag X pins σ H s)(hN:X.N.Nodup)(hi:X.N[i]?=some x)(hx:WN X.env.scope x)(r:Au v u)
 (h:∀s',Ag X pins (σ.set i (some v)) H s'->Q () s')(hf:X.fn x=true\/X.env.scope.names.lookup x=some .local:=by first|exact .inl rfl|exact .inr rfl|assumption):wpAny M A (storeName X.env x u) Q E s:=
 Im I hN hi hx r (λs' I' _=>h s' I') hf
def Ag.call'(I:Ag X pins σ H s)(ho:s'.os=s.os)(u:Un (Lv X.stack) ch H H' s.heap s'.heap)(hok:Dk X.prog X.w H' s'.heap)(hg:AllBare s'.gens)
 (hch:∀b∈ch,(b∈X.ex\/X.s₀.heap.objs.size<=b)/\b≠X.env.locals/\(∀x c,X.env.cells.lookup x=some c->c≠b)/\∀p∈X.pn++pins,p.1≠b):Ag X pins σ H' s':=by
 obtain⟨h',g',d',t',o'⟩:=s';have e:=ho;subst e;exact I.call (g':=g') (t':=t') (d':=d') u hok hg hch
end
abbrev XK:=Value->Option Addr->Hp->Prop
abbrev St:=List (Option V)
abbrev VK:=V->Hp->Prop
abbrev TE:=St->Hp->VK->Prop
abbrev TT:=St->Hp->(Bool->Hp->Prop)->Prop
abbrev TA:=St->Hp->(List V->Hp->Prop)->Prop
structure Qb where
 nx:St->Hp->Prop
 rt:VK
 bk:St->Hp->Prop:=λ_ _=>False
 ct:St->Hp->Prop:=λ_ _=>False
abbrev TS:=Qb->St->Hp->Prop
inductive EP(X:Cx)(pins:List (Addr×Obj))(σ:St)(Q:VK)(u:Value)(s':Shared):Prop
 |mk (v:V) (H':Hp) (a:Ag X pins σ H' s') (b:Au v u) (c:Q v H')
def TP(X:Cx)(pins:List (Addr×Obj))(σ:St)(Q:Bool->Hp->Prop)(b:Bool)(s':Shared):Prop:=∃H',Ag X pins σ H' s'/\Q b H'
inductive AP(X:Cx)(pins:List (Addr×Obj))(σ:St)(Q:List V->Hp->Prop)(us:List Value)(s':Shared):Prop
 |mk (vs:List V) (H':Hp) (a:Ag X pins σ H' s') (b:Ap vs us) (c:Q vs H')
def SP(X:Cx)(pins:List (Addr×Obj))(D:Qb)(f:Flow)(s':Shared):Prop:=
 match f with
 |.next=>∃σ' H',Ag X pins σ' H' s'/\D.nx σ' H'
 |.brk=>∃σ' H',Ag X pins σ' H' s'/\D.bk σ' H'
 |.cont=>∃σ' H',Ag X pins σ' H' s'/\D.ct σ' H'
 |.ret u=>E3 λv σ' H'=>A3 (Ag X pins σ' H' s') (Au v u) (D.rt v H')
def PE(X:Cx)(e:Expr)(t:TE):Prop:=
 ∀(pins:List (Addr×Obj)) (s:Shared) (σ:St) (H:Hp) (Q:VK),Ag X pins σ H s->t σ H Q->wpAny (model X.prog X.w) X.A (eval e X.env) (EP X pins σ Q) X.xe s
def PT(X:Cx)(e:Expr)(t:TT):Prop:=
 ∀(pins:List (Addr×Obj)) (s:Shared) (σ:St) (H:Hp) (Q:Bool->Hp->Prop),Ag X pins σ H s->t σ H Q->wpAny (model X.prog X.w) X.A (isTrue e X.env (eval e X.env)) (TP X pins σ Q) X.xe s
def PW(X:Cx)(e:Expr)(t:TT):Prop:=
 ∀(whole:Sem Value) (pins:List (Addr×Obj)) (s:Shared) (σ:St) (H:Hp) (Q:Bool->Hp->Prop),Ag X pins σ H s->t σ H Q->wpAny (model X.prog X.w) X.A (isTrue e X.env whole) (TP X pins σ Q) X.xe s
def PW.pt(h:PW X e t):PT X e t:=h _
def PA(X:Cx)(es:List Expr)(t:TA):Prop:=
 ∀(pos:Pos) (pins:List (Addr×Obj)) (s:Shared) (σ:St) (H:Hp) (Q:List V->Hp->Prop),Ag X pins σ H s->t σ H Q->wpAny (model X.prog X.w) X.A (spliced (backTo pos (starEach es X.env))) (AP X pins σ Q) X.xe s
def PS(X:Cx)(st:Stmt)(t:TS):Prop:=
 ∀(pins:List (Addr×Obj)) (s:Shared) (σ:St) (H:Hp) (D:Qb),Ag X pins σ H s->t D σ H->wpAny (model X.prog X.w) X.A (exec st X.env) (SP X pins D) X.xe s
def Ig(X:Cx)(st:List Stmt)(t:TS):Prop:=
 ∀(pins:List (Addr×Obj)) (s:Shared) (σ:St) (H:Hp) (D:Qb),Ag X pins σ H s->t D σ H->wpAny (model X.prog X.w) X.A (execs st X.env) (SP X pins D) X.xe s
def AV{α:Type}{t:Sem α}{Q Q':α->Shared->Prop}{M:Model}{A:Around}{E:Vq}{s:Shared}(h:wpAny M A t Q E s)(hQ:∀a s,Q a s->Q' a s):wpAny M A t Q' E s:=cI h hQ λ_ _ x=>x
end L2
namespace L2
open PySem PySem.Spec PyProof.Rows
section
variable {X:Cx}
def nn(i:Nat):TE:=λσ H Q=>∃v,σ[i]?=some (some v)/\Q v H
def tC(v:V):TE:=λ_ H Q=>Q v H
def Fp{i:Nat}{x:Str}(hN:X.N[i]?=some x)(hv:WK X.env.scope x)(hd:(x ==("__debug__" :Str))=false:=by decide)(hcd:(x ==("__classdict__" :Str))=false:=by decide):PE X (.Name x pos) (nn i):=by
 intro pins s σ H Q I h;obtain⟨v,e,h⟩:=h;obtain⟨m,hn,hl⟩:=I.loc;obtain⟨u,r,l⟩:=hl i x v hN e hv;have fin:EP X pins σ Q u s:=⟨v,H,I,r,h⟩;rcases l with⟨hk,hm⟩|⟨hk,c,hc,hcell⟩
 ·exact wpAny_Name (wpAny_loadName_local I.ok.kind hk hn hm fin) hd
 rcases hk with hk|hk
 ·exact wpAny_Name (wpAny_loadName_cell I.ok.kind hk hc hcell fin) hd
 exact wpAny_Name (wpAny_loadName_free I.ok.kind hk hc hcell fin hcd) hd
def Ys{i j pos}:PE X (.Constant (.int i) j pos) (tC (.int i)):=λ_ _ _ H _ I h=>wpAny_Constant_int ⟨.int i,H,I.tok _,⟨_,rfl⟩,h⟩
def ic{b j pos}:PE X (.Constant (.bool b) j pos) (tC (.bl b)):=λ_ _ _ H _ I h=>Constant_bool ⟨.bl b,H,I,rfl,h⟩
def Yq{j pos}:PE X (.Constant .none j pos) (tC .non):=λ_ _ _ H _ I h=>Constant_none ⟨.non,H,I,rfl,h⟩
def Yo{x j pos}:PE X (.Constant (.str x) j pos) (tC (.str x)):=λ_ _ _ H _ I h=>Calls.Constant_str ⟨.str x,H,I.tok _,⟨_,rfl⟩,h⟩
def Gl(X:Cx)(x:Str):Prop:=X.env.kindOf x=some .globalImplicit
def DQ{x:Str}(I:Ag X pins σ H s)(hg:Gl X x)(hm:X.mg x=some u)(h:Q u s)
 (hd:(x ==("__debug__" :Str))=false:=by decide):wpAny (model X.prog X.w) X.A (eval (.Name x pos) X.env) Q E s:=
 hG I.ok.kind hg (Calls.loadGlobal_global (by rw[I.ok.glob];exact I.mod.glob.keeps I.bk) hm h) hd
def CY{x:Str}(I:Ag X pins σ H s)(hg:Gl X x)(hm:X.mg x=none)(hv:bootBuiltins x=some u)(h:Q u s)
 (hn:x≠ "__name__":=by decide)(hd:(x ==("__debug__" :Str))=false:=by decide):wpAny (model X.prog X.w) X.A (eval (.Name x pos) X.env) Q E s:=by
 obtain⟨mb,h1,h2⟩:=I.mod.blt;exact hG I.ok.kind hg (Calls.loadGlobal_builtin (by rw[I.ok.glob];exact I.mod.glob.keeps I.bk) hm (by rw[I.ok.blt];exact h1.keeps I.bk) ((h2 x hn).trans hv) h) hd
def Gm{x:Str}(hg:Gl X x)(hm:X.mg x=some u)(r:Au v u)(hd:(x ==("__debug__" :Str))=false:=by decide):PE X (.Name x pos) (tC v):=
 λ_ _ _ H _ I h=>DQ I hg hm ⟨v,H,I,r,h⟩ hd
def UR{x:Str}(hg:Gl X x)(hm:X.mg x=none)(hv:bootBuiltins x=some u)(r:Au v u)(hn:x≠ "__name__":=by decide)(hd:(x ==("__debug__" :Str))=false:=by decide):PE X (.Name x pos) (tC v):=
 λ_ _ _ H _ I h=>CY I hg hm hv ⟨v,H,I,r,h⟩ hn hd
variable {a b:Expr}{ta tb:TE}{pos:Pos}
variable {tA tB':TT}{rest:List Expr}
def nB(t u:TT):TT:=λσ H Q=>t σ H λc H1=>if c=true then u σ H1 Q else Q false H1
def sv(t u:TT):TT:=λσ H Q=>t σ H λc H1=>if c=true then Q true H1 else u σ H1 Q
def nv(t:TT):TT:=λσ H Q=>t σ H λc H1=>Q (!c) H1
def Uy(ha:PT X a tA):PW X (.BoolOp .And [a] pos) tA:=by
 intro wh pins s σ H Q I h;refine isTrue_and (AV (ha pins s σ H Q I h) λc s1 e=>?_);cases c with
 |true=>exact isTrue_and_nil e
 |false=>exact e
def Yb(ha:PT X a tA):PW X (.BoolOp .Or [a] pos) tA:=by
 intro wh pins s σ H Q I h;refine isTrue_or (AV (ha pins s σ H Q I h) λc s1 e=>?_);cases c with
 |false=>exact isTrue_or_nil e
 |true=>exact e
def Yc(ha:PT X a tA)(hb:PW X (.BoolOp .And (b::rest) pos) tB'):PW X (.BoolOp .And (a::b::rest) pos) (nB tA tB'):=by
 intro wh pins s σ H Q I h;refine isTrue_and (AV (ha pins s σ H _ I h) λc s1 ⟨H1,I1,q1⟩=>?_);cases c with
 |true=>exact hb wh pins s1 σ H1 Q I1 q1
 |false=>exact⟨H1,I1,q1⟩
def gn(ha:PT X a tA)(hb:PW X (.BoolOp .Or (b::rest) pos) tB'):PW X (.BoolOp .Or (a::b::rest) pos) (sv tA tB'):=by
 intro wh pins s σ H Q I h;refine isTrue_or (AV (ha pins s σ H _ I h) λc s1 ⟨H1,I1,q1⟩=>?_);cases c with
 |true=>exact⟨H1,I1,q1⟩
 |false=>exact hb wh pins s1 σ H1 Q I1 q1
def Yd(ha:PT X a tA):PT X (.UnaryOp .Not a pos) (nv tA):=by
 intro pins s σ H Q I h;exact isTrue_not (ha pins s σ H (λc H1=>Q (!c) H1) I h)
def cq(ta tb:TE):TE:=λσ H Q=>ta σ H λx H1=>∃c,x=.bl c/\if c=true then tb σ H1 Q else Q (.bl false) H1
def nu(ta tb:TE):TE:=λσ H Q=>ta σ H λx H1=>∃c,x=.bl c/\if c=true then Q (.bl true) H1 else tb σ H1 Q
def bx(ta:TE):TE:=λσ H Q=>ta σ H λx H1=>∃c,x=.bl c/\Q (.bl (!c)) H1
def R1{op}(h:PE X a t):PE X (.BoolOp op [a] pos) t:=λpins s σ H Q I hw=>BoolOp_one (h pins s σ H Q I hw)
def Yt(ha:PE X a ta)(hb:PE X (.BoolOp .And (b::rest) pos) tb):PE X (.BoolOp .And (a::b::rest) pos) (cq ta tb):=by
 intro pins s σ H Q I h;refine BoolOp_and (AV (ha pins s σ H _ I h) λv s1 ⟨x,H1,I1,r1,q1⟩=>?_);obtain⟨c,rfl,q1⟩:=q1;cases r1;refine cS ?_;cases c with
 |true=>exact hb pins s1 σ H1 Q I1 q1
 |false=>exact⟨.bl false,H1,I1,rfl,q1⟩
def gy(ha:PE X a ta)(hb:PE X (.BoolOp .Or (b::rest) pos) tb):PE X (.BoolOp .Or (a::b::rest) pos) (nu ta tb):=by
 intro pins s σ H Q I h;refine BoolOp_or (AV (ha pins s σ H _ I h) λv s1 ⟨x,H1,I1,r1,q1⟩=>?_);obtain⟨c,rfl,q1⟩:=q1;cases r1;refine cS ?_;cases c with
 |false=>exact hb pins s1 σ H1 Q I1 q1
 |true=>exact⟨.bl true,H1,I1,rfl,q1⟩
def Yp(ha:PE X a ta):PE X (.UnaryOp .Not a pos) (bx ta):=by
 intro pins s σ H Q I h;refine UnaryOp_ (AV (ha pins s σ H _ I h) λv s1 ⟨x,H1,I1,r1,q1⟩=>?_);obtain⟨c,rfl,q1⟩:=q1;cases r1;exact not_of (cS ⟨.bl (!c),H1,I1,rfl,q1⟩)
def sw(t:TT)(ta tb:TE):TE:=λσ H Q=>t σ H λc H1=>if c=true then ta σ H1 Q else tb σ H1 Q
def R5(hc:PT X c tA)(ha:PE X a ta)(hb:PE X b tb):PE X (.IfExp c a b pos) (sw tA ta tb):=by
 intro pins s σ H Q I h;refine wpAny_IfExp (AV (hc pins s σ H _ I h) λd s1 ⟨H1,I1,q1⟩=>?_);cases d with
 |true=>exact ha pins s1 σ H1 Q I1 q1
 |false=>exact hb pins s1 σ H1 Q I1 q1
end
end L2
namespace L2
open PySem PySem.Spec PyProof.Rows
def Dp(K:PySem.W.Frag)(H:Hp)(a:Addr)(xs:List V):Prop:=
 Rd H a (.lst xs)\/
  E3 λ(o:Obj) (its:Array Value) (n:Nat)=>A6 (K.lookup a=some o) (o.cls=.type "list") (o.dict=none) (o.data=.seq its n) (its.size<=sizeLine) (Ap xs its.toList)
def Eg(K:PySem.W.Frag)(H:Hp)(a:Addr)(xs:List V):Prop:=
 Rd H a (.tup xs)\/
  E3 λ(o:Obj) (its:Array Value) (n:Nat)=>A5 (K.lookup a=some o) (o.cls=.type "tuple") (o.data=.seq its n) (its.size<=sizeLine) (Ap xs its.toList)
noncomputable def pO:Value->Option V
 |.none=>some .non
 |.bool b=>some (.bl b)
 |.int i _=>some (.int i)
 |.str x _=>some (.str x)
 |.bytes b _=>some (.byt b)
 |.float b _=>some (.flt b)
 |.ref a=>some (.ref a)
 |.type n=>some (.ty n)
 |_=>none
def Au.abs(r:Au x u):pO u=some x:=by
 cases x with
 |non=>cases r;rfl
 |bl _=>cases r;rfl
 |int _=>obtain⟨t,rfl⟩:=r;rfl
 |str _=>obtain⟨t,rfl⟩:=r;rfl
 |byt _=>obtain⟨t,rfl⟩:=r;rfl
 |flt _=>obtain⟨t,rfl⟩:=r;rfl
 |ref _=>cases r;rfl
 |ty _=>cases r;rfl
def Au.inj(r:Au x u)(q:Au y u):x=y:=bJ (r.abs.symm.trans q.abs)
theorem Ap.inj:∀{xs ys:List V}{us:List Value},Ap xs us->Ap ys us->xs=ys
 |_,_,_,.nil,.nil=>rfl
 |_,_,_,.cons r t,.cons r' t'=>by rw[r.inj r',Ap.inj t t']
section
def Ag.list(I:Ag X pins σ H s)(h:Dp X.K H a xs):∃its:List Value,Ap xs its/\PlainL s.heap a its.toArray/\xs.length<=sizeLine:=by
 rcases h with h|⟨o,its,n,hk,hc,hd,hs,hz,r⟩
 ·obtain⟨z,its,n,r,e⟩:=h.ok I.hok;exact⟨its,r,⟨_,n,e,rfl,rfl,rfl⟩,z⟩
 refine⟨its.toList,r,⟨o,n,I.kIn a o hk,hc,hd,by simpa using hs⟩,?_⟩;have e:=r.length;simp only[Array.length_toList]at e
 lia
def Ag.tuple(I:Ag X pins σ H s)(h:Eg X.K H a xs):∃its:List Value,Ap xs its/\IsTup s.heap a its.toArray/\xs.length<=sizeLine:=by
 rcases h with h|⟨o,its,n,hk,hc,hs,hz,r⟩
 ·obtain⟨z,its,r,p⟩:=h.ok I.hok;exact⟨its,r,p,z⟩
 refine⟨its.toList,r,⟨o,I.kIn a o hk,hc,n,by simpa using hs⟩,?_⟩;have e:=r.length;simp only[Array.length_toList]at e
 lia
def Ag.list_inj(I:Ag X pins σ H s)(h:Dp X.K H a xs)(h':Dp X.K H a ys):xs=ys:=by
 obtain⟨its,r,⟨o,n,e,_,_,d⟩,_⟩:=I.list h;obtain⟨its',r',⟨o',n',e',_,_,d'⟩,_⟩:=I.list h';rw[e]at e';cases e';rw[d]at d'
 injection d' with d1 _
 have:its=its':=by simpa using cK Array.toList d1
 subst this;exact r.inj r'
def Ag.tuple_inj(I:Ag X pins σ H s)(h:Eg X.K H a xs)(h':Eg X.K H a ys):xs=ys:=by
 obtain⟨its,r,⟨o,e,_,n,d⟩,_⟩:=I.tuple h;obtain⟨its',r',⟨o',e',_,n',d'⟩,_⟩:=I.tuple h';rw[e]at e';cases e';rw[d]at d'
 injection d' with d1 _
 have:its=its':=by simpa using cK Array.toList d1
 subst this;exact r.inj r'
end
section
variable {X:Cx}{st:Stmt}{rest:List Stmt}{t u:TS}
def Wf:TS:=λD σ H=>D.nx σ H
def bt(t u:TS):TS:=λD σ H=>t {D with nx:=u D} σ H
def U0:Ig X [] Wf:=λ_ _ σ H _ I h=>iJ ⟨σ,H,I,h⟩
def QN(h1:PS X st t)(h2:Ig X rest u):Ig X (st::rest) (bt t u):=by
 intro pins s σ H D I h;refine wpAny_execs_cons (AV (h1 pins s σ H {D with nx:=u D} I h) λf s1 q=>?_);cases f with
 |next=>
  obtain⟨σ',H',I',q⟩:=q;exact h2 pins s1 σ' H' D I' q
 |ret v=>exact q
 |brk=>exact q
 |cont=>exact q
def Xm:TS:=λD σ H=>D.bk σ H
def cj:TS:=λD σ H=>D.ct σ H
def U2:PS X (.Pass pos) Wf:=λ_ _ σ H _ I h=>wpAny_Pass ⟨σ,H,I,h⟩
def QP:PS X (.Break pos) Xm:=λ_ _ σ H _ I h=>wpAny_Break ⟨σ,H,I,h⟩
def KC:PS X (.Continue pos) cj:=λ_ _ σ H _ I h=>wpAny_Continue ⟨σ,H,I,h⟩
def Ag.quiet(I:Ag X pins σ H s):interactive X.env=false:=by simp[interactive,I.ok.kind]
def cg(te:TE):TS:=λD σ H=>te σ H λ_ H1=>D.nx σ H1
def U3(he:PE X e te)(hs:swapsWith e none pos.line X.env=pure false:=by rfl):PS X (.Expr e pos) (cg te):=by
 intro pins s σ H D I h;exact wpAny_Expr_any (AV (he pins s σ H _ I h) λv s1 ⟨x,H1,I1,r1,q1⟩=>⟨σ,H1,I1,q1⟩) I.quiet hs
def nr(te:TE):TS:=λD σ H=>te σ H D.rt
def Yf(he:PE X e te):PS X (.Return (some e) pos) (nr te):=by
 intro pins s σ H D I h;exact wpAny_Return_some (AV (he pins s σ H _ I h) λv s1 ⟨x,H1,I1,r1,q1⟩=>⟨x,σ,H1,I1,r1,q1⟩)
def bu:TS:=λD _ H=>D.rt .non H
def U1:PS X (.Return none pos) bu:=λ_ _ σ H _ I h=>wpAny_Return_none ⟨.non,σ,H,I,rfl,h⟩
def n6(c:TT)(t u:TS):TS:=λD σ H=>c σ H λb H1=>if b=true then t D σ H1 else u D σ H1
def gp(hc:PT X c tc)(ha:Ig X a t)(hb:Ig X b u):PS X (.If c a b pos) (n6 tc t u):=by
 intro pins s σ H D I h;refine wpAny_If (AV (hc pins s σ H _ I h) λd s1 ⟨H1,I1,q1⟩=>?_);cases d with
 |true=>exact ha pins s1 σ H1 D I1 q1
 |false=>exact hb pins s1 σ H1 D I1 q1
end
abbrev TG:=V->St->Hp->(St->Hp->Prop)->Prop
abbrev ZG:=List V->St->Hp->(St->Hp->Prop)->Prop
def PG(X:Cx)(target:Expr)(t:TG):Prop:=
 ∀(pins:List (Addr×Obj)) (s:Shared) (σ:St) (H:Hp) (v:V) (u:Value) (Q:St->Hp->Prop),Ag X pins σ H s->Au v u->t v σ H Q->
  wpAny (model X.prog X.w) X.A (assign target X.env u) (λ_ s'=>∃σ' H',Ag X pins σ' H' s'/\Q σ' H') X.xe s
def WL(X:Cx)(ts:List Expr)(t:ZG):Prop:=
 ∀(pins:List (Addr×Obj)) (s:Shared) (σ:St) (H:Hp) (vs:List V) (us:List Value) (Q:St->Hp->Prop),Ag X pins σ H s->Ap vs us->t vs σ H Q->
  wpAny (model X.prog X.w) X.A (assignInOrder ((assignEach ts X.env).map (·.2)) us) (λ_ s'=>∃σ' H',Ag X pins σ' H' s'/\Q σ' H') X.xe s
abbrev jZ:=V->V->V->Hp->(Hp->Prop)->Prop
def kg(X:Cx)(t:jZ):Prop:=
 ∀(pins:List (Addr×Obj)) (s:Shared) (σ:St) (H:Hp) (o i v:V) (ov iv u:Value) (Q:Hp->Prop),Ag X pins σ H s->Au o ov->Au i iv->Au v u->t o i v H Q->
  wpAny (model X.prog X.w) X.A (setItem ov iv u) (λ_ s'=>∃H',Ag X pins σ H' s'/\Q H') X.xe s
section
def Lu(i:Nat):TG:=λv σ H Q=>Q (σ.set i (some v)) H
def NF{i:Nat}{x:Str}(hN:X.N.Nodup)(hi:X.N[i]?=some x)(hx:WN X.env.scope x)(hf:X.fn x=true\/X.env.scope.names.lookup x=some .local:=by first|exact .inl rfl|exact .inr rfl|assumption):PG X (.Name x pos) (Lu i):=by
 intro pins s σ H v u Q I r h;exact wpAny_assign_Name (Kz I hN hi hx r (λs' I'=>⟨_,H,I',h⟩) hf)
def jz:ZG:=λvs σ H Q=>vs=[]/\Q σ H
def W5(t:TG)(u:ZG):ZG:=λvs σ H Q=>∃v r,vs=v::r/\t v σ H λσ' H'=>u r σ' H' Q
def UJ:WL X [] jz:=by
 intro pins s σ H vs us Q I r h;obtain⟨e,h⟩:=h;subst e;cases r;exact assignInOrder_nil ⟨σ,H,I,h⟩
def Rz(h1:PG X e t)(h2:WL X es u)
 (hs:(assignEach (e::es) X.env).map (·.2)=assign e X.env::(assignEach es X.env).map (·.2):=by rfl):WL X (e::es) (W5 t u):=by
 intro pins s σ H vs us Q I r h;obtain⟨v,vr,e1,h⟩:=h;subst e1;cases r with
 |cons r rr=>
  rw[hs];refine assignInOrder_cons (AV (h1 pins s σ H _ _ _ I r h) λ_ s1 ⟨σ1,H1,I1,q1⟩=>?_);exact h2 pins s1 σ1 H1 _ _ Q I1 rr q1
def oE(K:PySem.W.Frag)(n:Nat)(t:ZG):TG:=λv σ H Q=>∃a xs,v=.ref a/\Eg K H a xs/\xs.length=n/\t xs σ H Q
def Yl{k:Nat}{n:Nat}(hc:X.calm=true)(h:WL X es t)
 (hn:(assignEach es X.env).length=n:=by rfl)(hst:(assignEach es X.env).findIdx? (·.1)=none:=by rfl):PG X (.Tuple es k pos) (oE X.K n t):=by
 intro pins s σ H v u Q I r hw;obtain⟨a,xs,e1,hq,hl,hw⟩:=hw;subst e1;cases r;obtain⟨its,rv,ht,hz⟩:=I.tuple hq;refine assign_Tuple_tuple (I.ok.hd hc) ht (by simp[hn,←hl,rv.length]) hst λh' hx=>?_;have I1:=I.kept (t':=s.toks) λb o e=>hx b o (aW (aM e)) e;exact h pins _ σ H xs _ Q I1 (by simpa using rv) hw
def oF(to ti:TE)(t:jZ):TG:=λv σ H Q=>to σ H λo H1=>ti σ H1 λi H2=>t o i v H2 λH3=>Q σ H3
def Ym(ho:PE X o to)(hi:PE X i ti)(hs:kg X t)
 (ha:∀v,assign (.Subscript o i pos) X.env v=(do
   let ov ←holding [v] (eval o X.env)
   let iv ←holding [v,ov] (eval i X.env)
   standAt pos
   holding [v,ov,iv] (setItem ov iv v)
   release [v,ov,iv] []):=by intro _;rfl):PG X (.Subscript o i pos) (oF to ti t):=by
 intro pins s σ H v u Q I r h;rw[ha];refine a8 (cW (AV (ho pins s σ H _ I h) λov s1 ⟨x,H1,I1,r1,q1⟩=>?_));refine a8 (cW (AV (hi pins s1 σ H1 _ I1 q1) λiv s2 ⟨y,H2,I2,r2,q2⟩=>?_));refine a8 (hJ (a8 (cW (AV (hs pins s2 σ H2 x y v ov iv u _ I2 r1 r2 r q2) λ_ s3 ⟨H3,I3,q3⟩=>?_))));exact wpAny_release ⟨σ,H3,I3,q3⟩
def Ua(te:TE)(g:TG):TS:=λD σ H=>te σ H λx H1=>g x σ H1 D.nx
def QQ(he:PE X e te)(hg:PG X tg g)(hs:swapsWithSole [tg] e pos.line X.env=pure false:=by rfl)(hw:swappedStores [tg] e X.env=pure none:=by rfl)
 (h1:(assignEach [tg] X.env).map (·.2)=[assign tg X.env]:=by rfl):PS X (.Assign [tg] e pos) (Ua te g):=by
 intro pins s σ H D I h;refine wpAny_Assign_stores (AV (he pins s σ H _ I h) λv s1 ⟨x,H1,I1,r1,q1⟩=>?_) hs hw;rw[h1];exact AV (hg pins s1 σ H1 x v _ I1 r1 q1) λ_ s2 q=>q
def Ye{i:Nat}{x:Str}(hN:X.N.Nodup)(hi:X.N[i]?=some x)(hx:WN X.env.scope x)(he:PE X e te)(hs:swapsWith e (some (.Name x pos')) pos.line X.env=pure false:=by rfl)(hf:X.fn x=true\/X.env.scope.names.lookup x=some .local:=by first|exact .inl rfl|exact .inr rfl|assumption) :
 PS X (.Assign [.Name x pos'] e pos) (Ua te (Lu i)):=by
 intro pins s σ H D I h;refine wpAny_Assign_Name (AV (he pins s σ H _ I h) λv s1 ⟨y,H1,I1,r1,q1⟩=>?_) hs;exact Kz I1 hN hi hx r1 (λs2 I2=>⟨_,H1,I2,q1⟩) hf
end
section
def Xi(c:TT)(tb:TS):TS:=λD σ H=>∃W:Nat->St->Hp->Prop,(∃m,W m σ H)/\∀m σ H,W m σ H->
 c σ H λb H1=>if b=true then ∃N:St->Hp->Prop,(∀σ' H',N σ' H'->∃m',m'<m/\W m' σ' H')/\tb {D with nx:=N,ct:=N,bk:=D.nx} σ H1 else D.nx σ H1
def QO(hp:PassesOwn (model X.prog X.w) X.A X.env X.xe)(hc:PT X c tc)(hb:Ig X body tb):PS X (.While c body [] pos) (Xi tc tb):=by
 intro pins s σ H D I h;obtain⟨W,⟨m0,w0⟩,turn⟩:=h;refine wpAny_While (codeAny_whileLoop (λn s'=>∃σ' H',Ag X pins σ' H' s'/\W n σ' H') ?_ m0 ⟨σ,H,I,w0⟩);rintro n s1 ⟨σ1,H1,I1,w1⟩;refine dO hp (AV (hc pins s1 σ1 H1 _ I1 (turn n σ1 H1 w1)) λb s2 ⟨H2,I2,q2⟩=>?_);cases b with
 |true=>
  obtain⟨N,hN,q2⟩:=q2;rw[if_pos rfl];refine dO hp (AV (hb pins s2 σ1 H2 _ I2 q2) λf s3 q3=>?_);cases f with
  |next=>
   obtain⟨σ3,H3,I3,n3⟩:=q3;obtain⟨m',hm,w3⟩:=hN σ3 H3 n3;exact⟨m',hm,σ3,H3,I3,w3⟩
  |cont=>
   obtain⟨σ3,H3,I3,n3⟩:=q3;obtain⟨m',hm,w3⟩:=hN σ3 H3 n3;exact⟨m',hm,σ3,H3,I3,w3⟩
  |brk=>exact q3
  |ret v=>exact q3
 |false=>
  rw[if_neg aB];exact iJ ⟨σ1,H2,I2,q2⟩
end
structure It where
 go:Nat->Hp->Prop
 yld:Nat->Hp->V->Hp->Prop
 stop:Nat->Hp->Prop
def DH(X:Cx)(pins:List (Addr×Obj))(H:Hp)(b:Addr):Prop:=
 H b=none/\b≠X.env.locals/\b∉X.fs/\(b∈X.ex\/X.s₀.heap.objs.size<=b)/\(∀x c,X.env.cells.lookup x=some c->c≠b)/\∀p∈X.pn++pins,p.1≠b
def Ag.fpOk(I:Ag X pins σ H s)(hb:s.heap.objs.size<=b)(hn:H' b=none):DH X pins H' b:=by
 refine⟨hn,fL (aX I.lt hb),I.nofs hb,.inr (b9 I.sz hb),λx c e z=>?_,λp hp z=>?_⟩
 ·obtain⟨v,q⟩:=I.cell x c e;exact absurd (aX q.lt (by rw[z];exact hb)) (cV _)
 exact absurd (aX (aM (I.pin p hp).1) (by rw[z];exact hb)) (cV _)
structure Kb(P:Program)(w:World)(K:PySem.W.Frag)(tg:Expr)(J:It)(fp:List Addr)(it:Addr)(tn:Nat->Heap->Prop):Prop where
 mem:it∈fp
 obj:∀i h,tn i h->∀b∈fp,∃o,h.get? b=some o/\∀v,o.data≠ .cell v
 keep:∀i h h',tn i h->(∀b∈fp,∀o,h.get? b=some o->h'.get? b=some o)->tn i h'
 item:∀(X:Cx),X.prog=P->X.w=w->X.K=K->X.calm=true->∀(i:Nat) (pins:List (Addr×Obj)) (s:Shared) (σ:St) (H:Hp) (E:Value->Shared->Prop),Ag X pins σ H s->(∀b∈fp,DH X pins H b)->tn i s.heap->J.go i H->
  wpAny (model P w) X.A (pyNext (.ref it)) (λr s1=>∃u,r=some u/\
   wpAny (model P w) X.A (letOwnedTupleGo tg (.ref it) u) (λ_ s2=>E2 λx H'=>A5 (Ag X pins σ H' s2) (Au x u) (J.yld i H x H') (tn (i+1) s2.heap) (∀b∈fp,H' b=none)) E s1) E s
 done:∀(X:Cx),X.prog=P->X.w=w->X.K=K->X.calm=true->∀(i:Nat) (pins:List (Addr×Obj)) (s:Shared) (σ:St) (H:Hp) (E:Value->Shared->Prop),Ag X pins σ H s->(∀b∈fp,DH X pins H b)->tn i s.heap->J.stop i H->
  wpAny (model P w) X.A (pyNext (.ref it)) (λr s1=>r=none/\Ag X pins σ H s1) E s
 self:∀(A:Around) (i:Nat) (s:Shared) (Q:Value->Shared->Prop) (E:Value->Shared->Prop),tn i s.heap->Q (.ref it) s->wpAny (model P w) A (pyIter (.ref it)) Q E s
abbrev TI:=St->Hp->(It->Hp->Prop)->Prop
def ZM(X:Cx)(pins:List (Addr×Obj))(σ:St)(tg:Expr)(R:It->Hp->Prop)(itv:Value)(s2:Shared):Prop:=
 E5 λ(it:Addr) (fp:List Addr) (tn:Nat->Heap->Prop) (J:It) (H':Hp)=>A6 (itv=.ref it) (Ag X pins σ H' s2) (Kb X.prog X.w X.K tg J fp it tn) (tn 0 s2.heap) (∀b∈fp,DH X pins H' b) (R J H')
def PI(X:Cx)(tg iter:Expr)(wi:TI):Prop:=
 ∀(pins:List (Addr×Obj)) (s:Shared) (σ:St) (H:Hp) (R:It->Hp->Prop),Ag X pins σ H s->wi σ H R->
  wpAny (model X.prog X.w) X.A (eval iter X.env) (λv s1=>wpAny (model X.prog X.w) X.A (pyIter v) (ZM X pins σ tg R) X.xe s1) X.xe s
def Ls{n:String}(ho:s.heap.get? it=some o)(hc:o.cls=.type n)(hd:o.data=.fields vs)
 (hn: ["enumerate","zip","dict_itemiterator","dict_reverseitemiterator","odict_iterator","itertools.zip_longest","itertools.pairwise"].contains n=false)(hQ:Q () s):wpAny M A (letOwnedTupleGo tg (.ref it) u) Q E s:=by
 unfold letOwnedTupleGo;cases tg<;>first
  |exact aF hQ
  |(cases u<;>first
     |exact aF hQ
     |(refine a8 (wpAny_load ho ?_)
       rw[hc,hd];show wpAny M A (if (["enumerate","zip","dict_itemiterator","dict_reverseitemiterator","odict_iterator","itertools.zip_longest","itertools.pairwise"].contains n&&vs[0]? ==some (rawInt _))=true then _ else _) Q E s;rw[if_neg (by intro h;rw[hn,Bool.false_and]at h;cases h)];exact aF hQ))
noncomputable def ml(K:PySem.W.Frag)(a:Addr):It:=
 ⟨λi H=>∃xs x,Dp K H a xs/\xs[i]?=some x,λi H x H'=>H'=H/\∀xs,Dp K H a xs->xs[i]?=some x,λi H=>∃xs,Dp K H a xs/\xs.length<=i⟩
noncomputable def pV(K:PySem.W.Frag)(a:Addr):It:=
 ⟨λi H=>∃xs x,Eg K H a xs/\xs[i]?=some x,λi H x H'=>H'=H/\∀xs,Eg K H a xs->xs[i]?=some x,λi H=>∃xs,Eg K H a xs/\xs.length<=i⟩
noncomputable def ko(lo:Int)(n:Nat):It:=⟨λi _=>i<n,λi H x H'=>H'=H/\x=.int (lo+i),λi _=>n<=i⟩
def OC{P:Program}{w:World}{K:Fq}{tg:Expr}(a it:Addr):Kb P w K tg (ml K a) [it] it (λi h=>h.IsListIter it a i) where
 mem:=by simp
 obj:=λi h st b hb=>by
  have e:b=it:=by simpa using hb
  subst e;obtain⟨o,e,c,d⟩:=st;exact⟨o,e,λv z=>by rw[d]at z;cases z⟩
 keep:=λi h h' st k=>st.at λo e=>k it (by simp) o e
 item:=by
  intro X hP hw hK hc i pins s σ H E I hf st hg;subst hP hw hK;obtain⟨xs,x,hq,hx⟩:=hg;obtain⟨its,rv,p,hz⟩:=I.list hq;obtain⟨u,hu,ru⟩:=rv.get hx;obtain⟨f0,f1,f2,f3,f4,f5⟩:=hf it (by simp);refine wpAny_pyNext_list_item st p.isList (x:=u) (by simpa using hu) λh' st' sb=>?_;have I1:Ag X pins σ H {s with heap:=h'}:=I.turned (t':=s.toks) (λb o hb e=>(sb.2 b hb).trans e) f0 f1 f3 f4 f5;obtain⟨o,e,c,d⟩:=id st';exact⟨u,rfl,Ls (s:={s with heap:=h'}) e c d (by decide) ⟨x,H,I1,ru,⟨rfl,λys hy=>by rw[I.list_inj hy hq];exact hx⟩,st',λb hb=>(hf b hb).1⟩⟩
 done:=by
  intro X hP hw hK hc i pins s σ H E I hf st hg;subst hP hw hK;obtain⟨xs,hq,hx⟩:=hg;obtain⟨its,rv,p,hz⟩:=I.list hq;obtain⟨f0,f1,f2,f3,f4,f5⟩:=hf it (by simp);have hl:=rv.length;exact wpAny_pyNext_list_end (I.ok.hd hc) st p.isList (by simp;lia) λh' eb=>⟨rfl,I.turned (t':=s.toks) (λb o hb e=>eb b o hb e) f0 f1 f3 f4 f5⟩
 self:=λ_ _ _ _ _ st h=>wpAny_pyIter_listiter st h
def Ma{P:Program}{w:World}{K:Fq}{tg:Expr}(a it:Addr):Kb P w K tg (pV K a) [it] it (λi h=>h.IsTupleIter it a i) where
 mem:=by simp
 obj:=λi h st b hb=>by
  have e:b=it:=by simpa using hb
  subst e;obtain⟨o,e,c,d⟩:=st;exact⟨o,e,λv z=>by rw[d]at z;cases z⟩
 keep:=λi h h' st k=>st.at λo e=>k it (by simp) o e
 item:=by
  intro X hP hw hK hc i pins s σ H E I hf st hg;subst hP hw hK;obtain⟨xs,x,hq,hx⟩:=hg;obtain⟨its,rv,p,hz⟩:=I.tuple hq;obtain⟨u,hu,ru⟩:=rv.get hx;obtain⟨f0,f1,f2,f3,f4,f5⟩:=hf it (by simp);refine wpAny_pyNext_tuple_item st (show s.heap.IsTuple a its.toArray from p) (x:=u) (by simpa using hu) λh' st' sb=>?_;have I1:Ag X pins σ H {s with heap:=h'}:=I.turned (t':=s.toks) (λb o hb e=>(sb.2 b hb).trans e) f0 f1 f3 f4 f5;obtain⟨o,e,c,d⟩:=id st';exact⟨u,rfl,Ls (s:={s with heap:=h'}) e c d (by decide) ⟨x,H,I1,ru,⟨rfl,λys hy=>by rw[I.tuple_inj hy hq];exact hx⟩,st',λb hb=>(hf b hb).1⟩⟩
 done:=by
  intro X hP hw hK hc i pins s σ H E I hf st hg;subst hP hw hK;obtain⟨xs,hq,hx⟩:=hg;obtain⟨its,rv,p,hz⟩:=I.tuple hq;obtain⟨f0,f1,f2,f3,f4,f5⟩:=hf it (by simp);have hl:=rv.length;exact wpAny_pyNext_tuple_end (I.ok.hd hc) st (show s.heap.IsTuple a its.toArray from p) (by simp;lia) λh' eb=>⟨rfl,I.turned (t':=s.toks) (λb o hb e=>eb b o hb e) f0 f1 f3 f4 f5⟩
 self:=λ_ _ _ _ _ st h=>wpAny_pyIter_tupleiter st h
def Mb{P:Program}{w:World}{K:Fq}{tg:Expr}(it:Addr)(lo:Int)(n:Nat):Kb P w K tg (ko lo n) [it] it (λi h=>IsRangeIter h it (lo+(i:Nat)*1) ((n:Int)-(i:Nat)) 1) where
 mem:=by simp
 obj:=λi h st b hb=>by
  have e:b=it:=by simpa using hb
  subst e;exact⟨_,st,λv z=>by
   have z':Data.fields _=Data.cell v:=z;cases z'⟩
 keep:=λi h h' st k=>k it (by simp) _ st
 item:=by
  intro X hP hw hK hc i pins s σ H E I hf st hg;subst hP hw hK;obtain⟨f0,f1,f2,f3,f4,f5⟩:=hf it (by simp);have W:=Walks.range (prog:=X.prog) (w:=X.w) (I.ok.hd hc) it lo 1 n;refine W.item i s _ _ hg st λv h' tk hv st' kk=>?_;obtain⟨t,rfl⟩:=hv;have I1:Ag X pins σ H {s with heap:=h',toks:=tk}:=I.turned (λb o hb e=>kk b o (by simpa using hb) e) f0 f1 f3 f4 f5;refine⟨_,rfl,Ls (s:={s with heap:=h',toks:=tk}) (n:= "range_iterator") st' rfl rfl (by decide) ⟨.int (lo+i),H,I1,⟨t,?_⟩,⟨rfl,rfl⟩,st',λb hb=>(hf b hb).1⟩⟩;rw[Int.mul_one]
 done:=by
  intro X hP hw hK hc i pins s σ H E I hf st hg;subst hP hw hK;obtain⟨f0,f1,f2,f3,f4,f5⟩:=hf it (by simp);exact wpAny_pyNext_range_end (I.ok.hd hc) st (by have:n<=i:=hg;lia) λh' eb=>⟨rfl,I.turned (t':=s.toks) (λb o hb e=>eb b o hb e) f0 f1 f3 f4 f5⟩
 self:=λ_ _ _ _ _ st h=>wpAny_pyIter_rangeiter st h
end L2
namespace L2
open PySem PySem.Spec PyProof.Rows
section
def KA{lo hi:Int}{tk:Nat}(I:Ag X pins σ H s)(h1: -(2^62)<=lo)(h2:lo<2^62)(h3: -(2^62)<=hi)(h4:hi<2^62)
 (q:R (ko lo (hi-lo).toNat) H):wpAny (model X.prog X.w) X.A (pyIter (.ref s.heap.objs.size)) (ZM X pins σ tg R) E {s with heap:=s.heap.push {cls:=.type "range",data:=.fields #[.int lo t,.int hi u,.int 1 v]},toks:=tk}:=by
 refine wpAny_pyIter_range (IsRange.new ..) (small_one h1 h2 h3 h4) ?_;have I1:Ag X pins σ H {s with heap:=s.heap.push {cls:=.type "range",data:=.fields #[.int lo t,.int hi u,.int 1 v]},toks:=tk}:=I.kept λb o e=>aD _ e;refine⟨(s.heap.push {cls:=.type "range",data:=.fields #[.int lo t,.int hi u,.int 1 v]}).objs.size,[(s.heap.push {cls:=.type "range",data:=.fields #[.int lo t,.int hi u,.int 1 v]}).objs.size],_,_,H,rfl,
  I1.kept (t':=tk) λb o e=>aD _ e,Mb _ lo (hi-lo).toNat,?_,λb hb=>?_,q⟩
 ·have e1:lo+((0:Nat):Int)*1=lo:=by simp
  have e2:(((hi-lo).toNat:Nat):Int)-((0:Nat):Int)=Builtin.Range.rangeSize lo hi 1:=by rw[rangeSize_one];split<;>lia
  show IsRangeIter _ _ (lo+((0:Nat):Int)*1) ((((hi-lo).toNat:Nat):Int)-((0:Nat):Int)) 1;rw[e1,e2];exact aL _ rfl
 have e:b=(s.heap.push {cls:=.type "range",data:=.fields #[.int lo t,.int hi u,.int 1 v]}).objs.size:=by simpa using hb
 subst e;exact I1.fpOk (aI _) (I1.hok.fresh (aI _))
def jr(ta:TA):TI:=λσ H R=>ta σ H λvs H1=>∃j:Int,vs=[.int j]/\-(2^62)<=j/\j<2^62/\R (ko 0 j.toNat) H1
def jq(ta:TA):TI:=λσ H R=>ta σ H λvs H1=>∃i j:Int,vs=[.int i,.int j]/\(-(2^62)<=i/\i<2^62/\-(2^62)<=j/\j<2^62)/\R (ko i (j-i).toNat) H1
def OO(hg:Gl X "range")(hm:X.mg "range"=none)(ha:PA X [a] ta)(hs:starEach [a] X.env=[(false,eval a X.env)]:=by rfl):PI X tg (.Call (.Name "range" p) [a] [] pos) (jr ta):=by
 intro pins s σ H R I h;refine Call_ (CY I hg hm boot_range (cL (AV (ha pos pins s σ H _ I h) λus s1 ⟨vs,H1,I1,r1,q1⟩=>?_) hs rfl));obtain⟨j,e,q1,q2,q⟩:=q1;subst e;cases r1 with
 |cons r rr=>
  cases rr;obtain⟨t,rfl⟩:=r;exact call_range_1 (KA I1 (by lia) (by lia) q1 q2 (by simpa using q))
def ON(hg:Gl X "range")(hm:X.mg "range"=none)(ha:PA X [a,b] ta)(hs:starEach [a,b] X.env=[(false,eval a X.env),(false,eval b X.env)]:=by rfl)(hs2:starEach [b] X.env=[(false,eval b X.env)]:=by rfl) :
 PI X tg (.Call (.Name "range" p) [a,b] [] pos) (jq ta):=by
 intro pins s σ H R I h;refine Call_ (CY I hg hm boot_range (cL (AV (ha pos pins s σ H _ I h) λus s1 ⟨vs,H1,I1,r1,q1⟩=>?_) (by rw[hs,hs2]) (by rw[hs2];rfl)));obtain⟨i,j,e,⟨q1,q2,q3,q4⟩,q⟩:=q1;subst e;cases r1 with
 |cons r rr=>
  cases rr with
  |cons r' rr=>
   cases rr;obtain⟨t,rfl⟩:=r;obtain⟨t',rfl⟩:=r';exact call_range_2 (KA I1 q1 q2 q3 q4 q)
def n9(wi:TI)(g:TG)(tb:TS):TS:=λD σ H=>wi σ H λJ H1=>∃W:Nat->Nat->St->Hp->Prop,(∃m,W 0 m σ H1)/\∀i m σ H,W i m σ H->
 (J.stop i H/\D.nx σ H)\/(J.go i H/\∃N:St->Hp->Prop,(∀σ' H',N σ' H'->∃m',m'<m/\W (i+1) m' σ' H')/\∀x H',J.yld i H x H'->g x σ H' λσ2 H2=>tb {D with nx:=N,ct:=N,bk:=D.nx} σ2 H2)
noncomputable def GP(fp:List Addr)(h:Heap):List (Addr×Obj):=fp.filterMap λb=>(h.get? b).map λo=>(b,o)
def CW(hb:b∈fp)(e:h.get? b=some o):(b,o)∈GP fp h:=List.mem_filterMap.mpr ⟨b,hb,by rw[e];rfl⟩
def Pf(hp:p∈GP fp h):p.1∈fp/\h.get? p.1=some p.2:=by
 obtain⟨b,hb,e⟩:=List.mem_filterMap.mp hp;cases q:h.get? b with
 |none=>rw[q]at e;cases e
 |some o=>
  rw[q]at e;have e':=bJ e;subst e';exact⟨hb,q⟩
def Ag.pinned(I:Ag X pins σ H s)(hf:∀b∈fp,DH X pins H b)(ho:∀b∈fp,∃o,s.heap.get? b=some o/\∀v,o.data≠ .cell v):Ag X (pins++GP fp s.heap) σ H s:=
 I.pins_of λp hp=>(bT.mp hp).elim (λz=>I.pin p (bH _ z)) λz=>by
  obtain⟨hb,e⟩:=Pf z;obtain⟨f0,f1,f2,_⟩:=hf p.1 hb;obtain⟨o,e',d⟩:=ho p.1 hb;rw[e]at e';cases e';exact⟨e,f0,f1,f2,d⟩
def Ag.unpinned(I:Ag X (pins++pl) σ H s):Ag X pins σ H s:=I.pins_of λp hp=>I.pin p (bH _ (fD _ hp))
def Yg(hp:PassesOwn (model X.prog X.w) X.A X.env X.xe)(hc:X.calm=true)(hi:PI X tg iter wi)(hg:PG X tg g)(hb:Ig X body tb)
 (hs:∀x,foldedSetIterable iter X.env x=pure x:=by intro _;rfl):PS X (.For tg iter body [] pos) (n9 wi g tb):=by
 intro pins s σ H D I h;refine wpAny_For (AV (hi pins s σ H _ I h) λv s1 h1=>AV h1 λitv s2 h2=>?_) hs;obtain⟨it,fp,tn,J,H2,e,I2,T,st2,f2,W,⟨m0,w0⟩,turn⟩:=h2;subst e;have stat:∀{H':Hp},(∀b∈fp,H' b=none)->∀b∈fp,DH X pins H' b:=λhn b hb=>⟨hn b hb,(f2 b hb).2⟩;refine codeAny_forLoop_any (λn s'=>∃i σ' H',Ag X pins σ' H' s'/\tn i s'.heap/\(∀b∈fp,H' b=none)/\W i n σ' H') ?_ m0 ⟨0,σ,H2,I2,st2,λb hb=>(f2 b hb).1,w0⟩;rintro n s3 ⟨i,σ3,H3,I3,st3,fr3,w3⟩;rcases turn i n σ3 H3 w3 with⟨stop,qn⟩|⟨go,N,hN,step⟩
 ·refine dO hp (AV (T.done X rfl rfl rfl hc i pins s3 σ3 H3 X.xe I3 (stat fr3) st3 stop) λr s4 ⟨hr,I4⟩=>?_);subst hr;exact iJ ⟨σ3,H3,I4,qn⟩
 refine dO hp (AV (T.item X rfl rfl rfl hc i pins s3 σ3 H3 X.xe I3 (stat fr3) st3 go) λr s4 ⟨u,hr,h4⟩=>?_);subst hr;refine dO hp (AV h4 λ_ s5 ⟨x,H5,I5,r5,y5,st5,fr5⟩=>?_);have I5':=I5.pinned (stat fr5) (T.obj _ _ st5);refine dO hp (AV (hg _ s5 σ3 H5 x u _ I5' r5 (step x H5 y5)) λ_ s6 ⟨σ6,H6,I6,q6⟩=>?_);refine dO hp (AV (hb _ s6 σ6 H6 _ I6 q6) λf s7 q7=>?_);have again:∀{σ7:St}{H7:Hp},Ag X (pins++GP fp s5.heap) σ7 H7 s7->N σ7 H7->∃m,m<n/\∃i σ' H',Ag X pins σ' H' s7/\tn i s7.heap/\(∀b∈fp,H' b=none)/\W i m σ' H':=λ{σ7 H7} I7 n7=>by
  obtain⟨m',hm,w7⟩:=hN σ7 H7 n7;refine⟨m',hm,i+1,σ7,H7,I7.unpinned,T.keep _ _ _ st5 λb hb o e=>(I7.pin (b,o) (bH _ (bH _ (CW hb e)))).1,λb hb=>?_,w7⟩;obtain⟨o,e,d⟩:=T.obj _ _ st5 b hb;exact(I7.pin (b,o) (bH _ (bH _ (CW hb e)))).2.1
 cases f with
 |next=>obtain⟨σ7,H7,I7,n7⟩:=q7;exact again I7 n7
 |cont=>obtain⟨σ7,H7,I7,n7⟩:=q7;exact again I7 n7
 |brk=>obtain⟨σ7,H7,I7,q7⟩:=q7;exact⟨σ7,H7,I7.unpinned,q7⟩
 |ret v=>obtain⟨x7,σ7,H7,I7,r7,q7⟩:=q7;exact⟨x7,σ7,H7,I7.unpinned,r7,q7⟩
end
end L2
namespace L2
open PySem PySem.Spec PyProof.Rows
abbrev R2:=V->V->Hp->VK->Prop
def BH(X:Cx)(f:Value->Value->Sem Value)(r:R2):Prop:=
 ∀(pins:List (Addr×Obj)) (s:Shared) (σ:St) (H:Hp) (x y:V) (v u:Value) (Q:VK),Ag X pins σ H s->Au x v->Au y u->r x y H Q->
  wpAny (model X.prog X.w) X.A (f v u) (EP X pins σ Q) X.xe s
def jY(X:Cx)(f:Value->Sem Value)(r:V->Hp->VK->Prop):Prop:=
 ∀(pins:List (Addr×Obj)) (s:Shared) (σ:St) (H:Hp) (x:V) (v:Value) (Q:VK),Ag X pins σ H s->Au x v->r x H Q->
  wpAny (model X.prog X.w) X.A (f v) (EP X pins σ Q) X.xe s
def Ba(X:Cx)(f:Value)(r:List V->Hp->VK->Prop):Prop:=
 ∀(pins:List (Addr×Obj)) (s:Shared) (σ:St) (H:Hp) (xs:List V) (us:List Value) (Q:VK),Ag X pins σ H s->Ap xs us->r xs H Q->
  wpAny (model X.prog X.w) X.A (call f us) (EP X pins σ Q) X.xe s
def pQ(X:Cx)(r:V->Hp->(Bool->Hp->Prop)->Prop):Prop:=
 ∀(pins:List (Addr×Obj)) (s:Shared) (σ:St) (H:Hp) (x:V) (v:Value) (Q:Bool->Hp->Prop),Ag X pins σ H s->Au x v->r x H Q->
  wpAny (model X.prog X.w) X.A (truthy v) (TP X pins σ Q) X.xe s
def bw(r:R2)(ta tb:TE):TE:=λσ H Q=>ta σ H λx H1=>tb σ H1 λy H2=>r x y H2 Q
def qw(r:V->Hp->VK->Prop)(ta:TE):TE:=λσ H Q=>ta σ H λx H1=>r x H1 Q
def rI(C:Int->Int->Prop)(g:Int->Int->V):R2:=λx y H Q=>E2 λi j=>A4 (x=.int i) (y=.int j) (C i j) (Q (g i j) H)
def Qe(g:Int->Int->V):R2:=λx y H Q=>∃i j,x=.int i/\y=.int j/\Q (g i j) H
def rU(g:Int->V):V->Hp->VK->Prop:=λx H Q=>∃i,x=.int i/\Q (g i) H
section
def Z7(ha:PE X a ta)(hb:PE X b tb){pins:Pq}{s:Shared}{σ:St}{H:Hp}{R:V->V->Hp->Prop}(I:Ag X pins σ H s)
 (h:ta σ H λx H1=>tb σ H1 λy H2=>R x y H2){Q:Vq}{f:Value->Value->Sem Value}
 (hf:∀v u s2 x y H2,Ag X pins σ H2 s2->Au x v->Au y u->R x y H2->wpAny (model X.prog X.w) X.A (f v u) Q X.xe s2) :
 wpAny (model X.prog X.w) X.A (eval a X.env) (λv s₁=>wpAny (model X.prog X.w) X.A (eval b X.env) (λu s₂=>wpAny (model X.prog X.w) X.A (f v u) Q X.xe s₂) X.xe s₁) X.xe s:=by
 refine AV (ha pins s σ H _ I h) λv s1 ⟨x,H1,I1,r1,q1⟩=>?_;refine AV (hb pins s1 σ H1 _ I1 q1) λu s2 ⟨y,H2,I2,r2,q2⟩=>?_;exact hf v u s2 x y H2 I2 r1 r2 q2
def gz{op:Operator}{r:R2}(ho:BH X (binaryOp op) r)(ha:PE X a ta)(hb:PE X b tb):PE X (.BinOp a op b pos) (bw r ta tb):=by
 intro pins s σ H Q I h;exact wpAny_BinOp (Z7 ha hb I h λv u s2 x y H2 I2 rx ry q=>ho pins s2 σ H2 x y v u Q I2 rx ry q)
def gx(ho:jY X (unaryOp op) r)(ha:PE X a ta):PE X (.UnaryOp op a pos) (qw r ta):=by
 intro pins s σ H Q I h;exact UnaryOp_ (AV (ha pins s σ H _ I h) λv s1 ⟨x,H1,I1,r1,q1⟩=>ho pins s1 σ H1 x v Q I1 r1 q1)
def ZZ{C:Int->Int->Prop}{g:Int->Int->Int}
 (rule:∀(i j:Int) (t u:Tok) (s:Shared) (Q:Vq) (E:Vq),C i j->Q (.int (g i j) s.toks) {s with toks:=s.toks+1}->wpAny (model X.prog X.w) X.A (f (.int i t) (.int j u)) Q E s) :
 BH X f (rI C λi j=>.int (g i j)):=by
 intro pins s σ H x y v u Q I rx ry h;obtain⟨i,j,rfl,rfl,hc,q⟩:=h;obtain⟨t,rfl⟩:=rx;obtain⟨t',rfl⟩:=ry;exact rule i j t t' s _ _ hc ⟨.int (g i j),H,I.tok _,⟨_,rfl⟩,q⟩
def RF{g:Int->Int->Int}
 (rule:∀(i j:Int) (t u:Tok) (s:Shared) (Q:Vq) (E:Vq),Q (.int (g i j) s.toks) {s with toks:=s.toks+1}->wpAny (model X.prog X.w) X.A (f (.int i t) (.int j u)) Q E s) :
 BH X f (Qe λi j=>.int (g i j)):=by
 intro pins s σ H x y v u Q I rx ry h;obtain⟨i,j,rfl,rfl,q⟩:=h;obtain⟨t,rfl⟩:=rx;obtain⟨t',rfl⟩:=ry;exact rule i j t t' s _ _ ⟨.int (g i j),H,I.tok _,⟨_,rfl⟩,q⟩
def UW{g:Int->Int->Bool}
 (rule:∀(i j:Int) (t u:Tok) (s:Shared) (Q:Vq) (E:Vq),Q (.bool (g i j)) s->wpAny (model X.prog X.w) X.A (f (.int i t) (.int j u)) Q E s) :
 BH X f (Qe λi j=>.bl (g i j)):=by
 intro pins s σ H x y v u Q I rx ry h;obtain⟨i,j,rfl,rfl,q⟩:=h;obtain⟨t,rfl⟩:=rx;obtain⟨t',rfl⟩:=ry;exact rule i j t t' s _ _ ⟨.bl (g i j),H,I,rfl,q⟩
def kr(i j:Int):Prop:=0<=j/\j<=1000000/\i.natAbs<2^64
def ZU(i j:Int):Prop:=(-(2^64)<i/\i<2^64)\/(-(2^64)<j/\j<2^64)
def ZU.ok{i j:Int}(h:ZU i j):IntMulOk i j:=by
 rcases h with⟨h1,h2⟩|⟨h1,h2⟩
 ·exact .of_left (intBits_le_64 h1 h2)
 exact .of_right (intBits_le_64 h1 h2)
def LZ(k:Nat):(0:Int)<=2^k:=by
 rw[two_pow_cast];exact bU _
def Y7:BH X (binaryOp .Add) (Qe λi j=>.int (i+j)):=RF λ_ _ _ _ _ _ _ q=>add_int q
def Yv:BH X (binaryOp .Sub) (Qe λi j=>.int (i-j)):=RF λ_ _ _ _ _ _ _ q=>sub_int q
def Y1:BH X (binaryOp .Mult) (rI ZU λi j=>.int (i*j)):=ZZ λ_ _ _ _ _ _ _ hc q=>mul_int q hc.ok
def Y2:BH X (binaryOp .Mod) (rI (λ_ j=>0<j) λi j=>.int (i%j)):=ZZ λi j _ _ _ _ _ hc q=>by
 have h1:=hc;exact mod_int' (by lia) (by rw[Int.fmod_eq_emod_of_nonneg i (by lia)];exact q)
def Yz:BH X (binaryOp .Pow) (rI kr λi j=>.int (i^j.toNat)):=ZZ λ_ _ _ _ _ _ _ hc q=>pow_int_small hc.1 hc.2.1 hc.2.2 q
def Yx:BH X (binaryOp .LShift) (rI kr λi j=>.int (i*2^j.toNat)):=ZZ λ_ _ _ _ _ _ _ hc q=>lshift_int_small hc.1 hc.2.1 hc.2.2 q
def Yw:BH X (binaryOp .RShift) (rI (λ_ j=>0<=j) λi j=>.int (i / 2^j.toNat)):=ZZ λi j _ _ _ _ _ hc q=>
 rshift_int hc (by rw[hU i (LZ _)];exact q)
def Y6:BH X (binaryOp .BitAnd) (Qe λi j=>.int (Builtin.bitAnd i j)):=RF λ_ _ _ _ _ _ _ q=>and_int q
def ig:BH X (binaryOp .BitOr) (Qe λi j=>.int (Builtin.bitOr i j)):=RF λ_ _ _ _ _ _ _ q=>or_int q
def Yu:BH X (binaryOp .BitXor) (Qe λi j=>.int (Builtin.bitXor i j)):=RF λ_ _ _ _ _ _ _ q=>xor_int q
def qq{g:Int->Int}
 (rule:∀(i:Int) (t:Tok) (s:Shared) (Q:Vq) (E:Vq),Q (.int (g i) s.toks) {s with toks:=s.toks+1}->wpAny (model X.prog X.w) X.A (f (.int i t)) Q E s) :
 jY X f (rU λi=>.int (g i)):=by
 intro pins s σ H x v Q I rx h;obtain⟨i,rfl,q⟩:=h;obtain⟨t,rfl⟩:=rx;exact rule i t s _ _ ⟨.int (g i),H,I.tok _,⟨_,rfl⟩,q⟩
def Xc:jY X (unaryOp .USub) (rU λi=>.int (-i)):=qq λ_ _ _ _ _ q=>neg_int q
def Xd:jY X (unaryOp .Invert) (rU λi=>.int (Builtin.bitNot i)):=qq λ_ _ _ _ _ q=>invert_int q
end
noncomputable def Ui:V->V->Bool
 |.non,.non=>true| .non,.int _=>true| .int _,.non=>true| .non,.bl _=>true| .bl _,.non=>true| .non,.str _=>true| .str _,.non=>true
 |.int _,.int _=>true| .bl _,.bl _=>true| .str _,.str _=>true| .byt _,.byt _=>true
 |.int _,.str _=>true| .str _,.int _=>true| .bl _,.str _=>true| .str _,.bl _=>true
 |_,_=>false
def sG:R2:=λx y H Q=>Ui x y=true/\Q (.bl (decide (x=y))) H
def sE:R2:=λx y H Q=>Ui x y=true/\Q (.bl (!decide (x=y))) H
def On{i j:Int}:decide (V.int i=V.int j)=(i ==j):=by
 rw[bW];simp
def SO:decide (V.bl i=V.bl j)=(i ==j):=by
 rw[bW];simp
def Om{i j:Str}:decide (V.str i=V.str j)=(i ==j):=by
 rw[bW];simp
def Oo:decide (V.byt i=V.byt j)=(i.toList ==j.toList):=by
 rw[bW];cases i;cases j;simp
section
def Aw(I:Ag X pins σ H s)(q:Q (.bl k) H)(e:k=k'):EP X pins σ Q (.bool k') s:=by
 subst e;exact⟨.bl k,H,I,rfl,q⟩
def iq:BH X (compareOp .Eq) sG:=by
 intro pins s σ H x y v u Q I rx ry h;obtain⟨hs,q⟩:=h;cases x with
 |non=>
  cases rx;cases y with
  |non=>cases ry;exact PySem.EqNone.eq_none_none (Aw I q (by simp))
  |bl j=>cases ry;exact PySem.EqNone.eq_none_bool (Aw I q (by simp))
  |int j=>obtain⟨t',rfl⟩:=ry;exact PySem.EqNone.eq_none_int (Aw I q (by simp))
  |str j=>obtain⟨t',rfl⟩:=ry;exact PySem.EqNone.eq_none_str (Aw I q (by simp))
  |_=>exact absurd (show false=true from hs) aB
 |bl i=>
  cases rx;cases y with
  |non=>cases ry;exact PySem.EqNone.eq_bool_none (Aw I q (by simp))
  |bl j=>cases ry;exact eq_bool (Aw I q SO)
  |str j=>obtain⟨t',rfl⟩:=ry;exact PySem.EqMixed.eq_bool_str (Aw I q (by simp))
  |_=>exact absurd (show false=true from hs) aB
 |int i=>
  obtain⟨t,rfl⟩:=rx;cases y with
  |non=>cases ry;exact PySem.EqNone.eq_int_none (Aw I q (by simp))
  |int j=>obtain⟨t',rfl⟩:=ry;exact eq_int (Aw I q On)
  |str j=>obtain⟨t',rfl⟩:=ry;exact PySem.EqMixed.eq_int_str (Aw I q (by simp))
  |_=>exact absurd (show false=true from hs) aB
 |str i=>
  obtain⟨t,rfl⟩:=rx;cases y with
  |non=>cases ry;exact PySem.EqNone.eq_str_none (Aw I q (by simp))
  |bl j=>cases ry;exact PySem.EqMixed.eq_str_bool (Aw I q (by simp))
  |int j=>obtain⟨t',rfl⟩:=ry;exact PySem.EqMixed.eq_str_int (Aw I q (by simp))
  |str j=>obtain⟨t',rfl⟩:=ry;exact eq_str (Aw I q Om)
  |_=>exact absurd (show false=true from hs) aB
 |byt i=>
  obtain⟨t,rfl⟩:=rx;cases y with
  |byt j=>obtain⟨t',rfl⟩:=ry;exact PySem.W.eq_bytes (Aw I q Oo)
  |_=>exact absurd (show false=true from hs) aB
 |_=>cases y<;>exact absurd (show false=true from hs) aB
def ij:BH X (compareOp .NotEq) sE:=by
 intro pins s σ H x y v u Q I rx ry h;obtain⟨hs,q⟩:=h;cases x with
 |non=>
  cases rx;cases y with
  |non=>cases ry;exact PySem.EqNone.ne_none_none (Aw I q (by simp))
  |bl j=>cases ry;exact PySem.EqNone.ne_none_bool (Aw I q (by simp))
  |int j=>obtain⟨t',rfl⟩:=ry;exact PySem.EqNone.ne_none_int (Aw I q (by simp))
  |str j=>obtain⟨t',rfl⟩:=ry;exact PySem.EqNone.ne_none_str (Aw I q (by simp))
  |_=>exact absurd (show false=true from hs) aB
 |bl i=>
  cases rx;cases y with
  |non=>cases ry;exact PySem.EqNone.ne_bool_none (Aw I q (by simp))
  |bl j=>cases ry;exact ne_bool (Aw I q (cK not SO))
  |str j=>obtain⟨t',rfl⟩:=ry;exact PySem.EqMixed.ne_bool_str (Aw I q (by simp))
  |_=>exact absurd (show false=true from hs) aB
 |int i=>
  obtain⟨t,rfl⟩:=rx;cases y with
  |non=>cases ry;exact PySem.EqNone.ne_int_none (Aw I q (by simp))
  |int j=>obtain⟨t',rfl⟩:=ry;exact ne_int (Aw I q (cK not On))
  |str j=>obtain⟨t',rfl⟩:=ry;exact PySem.EqMixed.ne_int_str (Aw I q (by simp))
  |_=>exact absurd (show false=true from hs) aB
 |str i=>
  obtain⟨t,rfl⟩:=rx;cases y with
  |non=>cases ry;exact PySem.EqNone.ne_str_none (Aw I q (by simp))
  |bl j=>cases ry;exact PySem.EqMixed.ne_str_bool (Aw I q (by simp))
  |int j=>obtain⟨t',rfl⟩:=ry;exact PySem.EqMixed.ne_str_int (Aw I q (by simp))
  |str j=>obtain⟨t',rfl⟩:=ry;exact ne_str (Aw I q (cK not Om))
  |_=>exact absurd (show false=true from hs) aB
 |byt i=>
  obtain⟨t,rfl⟩:=rx;cases y with
  |byt j=>obtain⟨t',rfl⟩:=ry;exact PySem.W.ne_bytes (Aw I q (cK not Oo))
  |_=>exact absurd (show false=true from hs) aB
 |_=>cases y<;>exact absurd (show false=true from hs) aB
def ik:BH X (compareOp .Lt) (Qe λi j=>.bl (decide (i<j))):=UW λ_ _ _ _ _ _ _ q=>lt_int q
def im:BH X (compareOp .LtE) (Qe λi j=>.bl (decide (i<=j))):=UW λ_ _ _ _ _ _ _ q=>le_int q
def io:BH X (compareOp .Gt) (Qe λi j=>.bl (decide (j<i))):=UW λ_ _ _ _ _ _ _ q=>gt_int q
def ip:BH X (compareOp .GtE) (Qe λi j=>.bl (decide (j<=i))):=UW λ_ _ _ _ _ _ _ q=>ge_int q
def Pd:BH X (compareOp .In) (λx y H Q=>∃i j,x=.str i/\y=.str j/\Q (.bl (!(Builtin.Str.occurrences j i 0 j.length 1).isEmpty)) H):=by
 intro pins s σ H x y v u Q I rx ry h;obtain⟨i,j,rfl,rfl,q⟩:=h;obtain⟨t,rfl⟩:=rx;obtain⟨t',rfl⟩:=ry;exact in_str (Aw I q rfl)
def Y3:BH X (compareOp .Is) (λx y H Q=>y=.non/\Q (.bl (decide (x=.non))) H):=by
 intro pins s σ H x y v u Q I rx ry h;obtain⟨rfl,q⟩:=h;cases ry;refine is_none_gen (Aw I q ?_);cases x<;>first
  |(cases rx;rfl)
  |(obtain⟨t,rfl⟩:=rx;rfl)
def UU:BH X (compareOp .IsNot) (λx y H Q=>y=.non/\Q (.bl (!decide (x=.non))) H):=by
 intro pins s σ H x y v u Q I rx ry h;obtain⟨rfl,q⟩:=h;cases ry;refine isnot_none_gen (Aw I q ?_);cases x<;>first
  |(cases rx;rfl)
  |(obtain⟨t,rfl⟩:=rx;rfl)
def UO{op:CmpOp}{r:R2}(ho:BH X (compareOp op) r)(ha:PE X a ta)(hb:PE X b tb)(hm:behindInMarks op b=false):PE X (.Compare a [op] [b] pos) (bw r ta tb):=by
 intro pins s σ H Q I h;exact wpAny_Compare1 (Z7 ha hb I h λv u s2 x y H2 I2 rx ry q=>ho pins s2 σ H2 x y v u Q I2 rx ry q) hm
def Q2(t:TE):TT:=λσ H Q=>t σ H λx H'=>∃k,x=.bl k/\Q k H'
def Uz(ho:BH X (compareOp op) r)(ha:PE X a ta)(hb:PE X b tb)(hm:behindInMarks op b=false):PT X (.Compare a [op] [b] pos) (Q2 (bw r ta tb)):=by
 intro pins s σ H Q I h;refine wpAny_isTrue_Compare1 (AV (ha pins s σ H _ I h) λv s1 ⟨x,H1,I1,r1,q1⟩=>AV (hb pins s1 σ H1 _ I1 q1) λu s2 ⟨y,H2,I2,r2,q2⟩=>
  AV (ho pins s2 σ H2 x y v u _ I2 r1 r2 q2) λc s3 ⟨z,H3,I3,r3,k,e,q3⟩=>?_) hm
 subst e;cases r3;exact cS ⟨H3,I3,q3⟩
def Md(r r':R2)(ta tb tc:TE):TE:=λσ H Q=>ta σ H λx H1=>tb σ H1 λy H2=>r x y H2 λz H3=>∃k,z=.bl k/\
 (if k=true then tc σ H3 λw' H4=>r' y w' H4 Q else Q (.bl false) H3)
def RA(ho:BH X (compareOp op) r)(ho':BH X (compareOp op') r')(ha:PE X a ta)(hb:PE X b tb)(hc:PE X c tc)
 (hm:lastMarks [op,op'] [b,c]=false:=by with_unfolding_all rfl):PE X (.Compare a [op,op'] [b,c] pos) (Md r r' ta tb tc):=by
 intro pins s σ H Q I h;refine Compare_chain (AV (ha pins s σ H _ I h) λv s1 ⟨x,H1,I1,r1,q1⟩=>chain_link (AV (hb pins s1 σ H1 _ I1 q1) λu s2 ⟨y,H2,I2,r2,q2⟩=>
  AV (ho pins s2 σ H2 x y v u _ I2 r1 r2 q2) λd s3 ⟨z,H3,I3,r3,k,e,q3⟩=>?_)) hm
 subst e;cases r3;refine cS ?_;cases k with
 |false=>exact ite_ff ⟨.bl false,H3,I3,rfl,q3⟩
 |true=>exact ite_tt (chain_last (AV (hc pins s3 σ H3 _ I3 q3) λw' s4 ⟨z',H4,I4,r4,q4⟩=>ho' pins s4 σ H4 y z' u w' Q I4 r2 r4 q4))
def QM(ho:BH X (compareOp op) r)(ho':BH X (compareOp op') r')(ha:PE X a ta)(hb:PE X b tb)(hc:PE X c tc)
 (hm:lastMarks [op,op'] [b,c]=false:=by with_unfolding_all rfl):PT X (.Compare a [op,op'] [b,c] pos) (Q2 (Md r r' ta tb tc)):=by
 intro pins s σ H Q I h;refine isTrue_chain (AV (ha pins s σ H _ I h) λv s1 ⟨x,H1,I1,r1,q1⟩=>test_link (AV (hb pins s1 σ H1 _ I1 q1) λu s2 ⟨y,H2,I2,r2,q2⟩=>
  AV (ho pins s2 σ H2 x y v u _ I2 r1 r2 q2) λd s3 ⟨z,H3,I3,r3,k,e,q3⟩=>?_)) hm
 subst e;cases r3;refine cS ?_;cases k with
 |false=>
  obtain⟨k',e',q'⟩:=q3;cases e';exact ite_ff ⟨H3,I3,q'⟩
 |true=>
  refine ite_tt (test_last (AV (hc pins s3 σ H3 _ I3 q3) λw' s4 ⟨z',H4,I4,r4,q4⟩=>AV (ho' pins s4 σ H4 y z' u w' _ I4 r2 r4 q4) λd' s5 ⟨z2,H5,I5,r5,k2,e2,q5⟩=>?_));subst e2;cases r5;exact cS ⟨H5,I5,q5⟩
def ZF(K:PySem.W.Frag)(x:V)(H:Hp)(k:Bool):Prop:=
 match x with
 |.non=>k=false
 |.bl b=>k=b
 |.int i=>k=(i !=0)
 |.str y=>y.length<=sizeLine/\k=((y.length:Int) !=0)
 |.byt y=>y.size<=sizeLine/\k=((y.size:Int) !=0)
 |.ref p=>(∃xs,Dp K H p xs/\k=!xs.isEmpty)\/(∃xs,Eg K H p xs/\k=!xs.isEmpty)\/∃kvs,H p=some (.dK kvs)/\k=!kvs.isEmpty
 |_=>False
def MJ{κ:Type}{kvs:List (κ×V)}{vs:List (κ×Value)}(r:KV kvs vs):(!vs.isEmpty)=!kvs.isEmpty:=by
 cases r<;>rfl
def Hk(r:Ap xs its):(!its.toArray.isEmpty)=!xs.isEmpty:=by
 cases r<;>simp
def Eu:(sizeLine:Nat)<2^63:=by rw[dD];decide
def Xe:pQ X (λx H Q=>∃k,ZF X.K x H k/\Q k H):=by
 intro pins s σ H x v Q I rx h;obtain⟨k,e,q⟩:=h;have hl:=Eu;have hs:=dD;cases x with
 |non=>
  cases rx;have e':=e;subst e';exact truthy_none ⟨H,I,q⟩
 |bl b=>
  cases rx;have e':=e;subst e';exact cS ⟨H,I,q⟩
 |int i=>
  obtain⟨t,rfl⟩:=rx;have e':=e;subst e';exact PySem.P.truthy_int ⟨H,I,q⟩
 |str y=>
  obtain⟨t,rfl⟩:=rx;obtain⟨hy,e'⟩:y.length<=sizeLine/\k=((y.length:Int) !=0):=e;subst e';exact PySem.P.truthy_str (by lia) ⟨H,I.tok _,q⟩
 |byt y=>
  obtain⟨t,rfl⟩:=rx;obtain⟨hy,e'⟩:y.size<=sizeLine/\k=((y.size:Int) !=0):=e;subst e';exact PySem.W.truthy_bytes (by lia) ⟨H,I.tok _,q⟩
 |ref p=>
  cases rx;have e':=e;rcases e' with⟨xs,hx,e'⟩|⟨xs,hx,e'⟩|⟨kvs,hx,e'⟩
  ·subst e';obtain⟨its,r,pl,hz⟩:=I.list hx;have hlen:=r.length;exact wpAny_truthy_list pl.isList (by simp only[List.size_toArray];lia) ⟨H,I.tok _,by rw[Hk r];exact q⟩
  ·subst e';obtain⟨its,r,pl,hz⟩:=I.tuple hx;have hlen:=r.length;exact truthy_tuple pl (by simp only[List.size_toArray];lia) ⟨H,I.tok _,by rw[Hk r];exact q⟩
  subst e';obtain⟨hz,hS,vs,r,m⟩:kvs.length<=sizeLine/\(p ==sysModules)=false/\∃vs,KV kvs vs/\s.heap.DictOf (Ai X.prog X.w) p vs:=I.hok p _ hx;have hlen:=Paired.length r;exact wpAny_truthy_dict hS m (by lia) ⟨H,I.tok _,by rw[MJ r];exact q⟩
 |_=>exact(show False from e).elim
def QL(ha:PE X a ta)(he:∀whole,isTrue a X.env whole=(do let v ←whole;standAt a.pos;holding [v] (truthy v))) :
 PT X a (λσ H Q=>ta σ H λx H'=>∃k,ZF X.K x H' k/\Q k H'):=by
 intro pins s σ H Q I h;exact isTrue_plain (AV (ha pins s σ H _ I h) λv s1 ⟨x,H1,I1,r1,q1⟩=>Xe pins s1 σ H1 x v Q I1 r1 q1) (he _)
def My:BH X (binaryOp .Add) (λx y H Q=>∃i j,x=.str i/\y=.str j/\i.length+j.length<=sizeLine/\Q (.str (i++j)) H):=by
 intro pins s σ H x y v u Q I rx ry h;obtain⟨i,j,rfl,rfl,hz,q⟩:=h;obtain⟨t,rfl⟩:=rx;obtain⟨t',rfl⟩:=ry;exact add_str (λt' tk=>⟨.str (i++j),H,I.tok _,⟨_,rfl⟩,q⟩) hz
def BR(r:Ap [x] us):∃u,us=[u]/\Au x u:=by
 cases r with
 |cons r1 r2=>cases r2;exact⟨_,rfl,r1⟩
def FE(r:Ap [x,y] us):∃u w',us=[u,w']/\Au x u/\Au y w':=by
 cases r with
 |cons r1 r2=>
  cases r2 with
  |cons r3 r4=>cases r4;exact⟨_,_,rfl,r1,r3⟩
def PJ(hc:X.calm=true):Ba X (.builtin "max") (λxs H Q=>∃i j,xs=[.int i,.int j]/\Q (.int (if j>i then j else i)) H):=by
 intro pins s σ H xs us Q I r h;obtain⟨i,j,rfl,q⟩:=h;obtain⟨u,w',rfl,⟨t,rfl⟩,⟨t',rfl⟩⟩:=FE r;refine max_two_ints (I.ok.hd hc) λh' tk k=>⟨_,H,I.kept k,?_,q⟩;by_cases hj:j>i
 ·rw[if_pos hj,if_pos hj];exact⟨_,rfl⟩
 rw[if_neg hj,if_neg hj];exact⟨_,rfl⟩
def PF(hc:X.calm=true):Ba X (.builtin "min") (λxs H Q=>∃i j,xs=[.int i,.int j]/\Q (.int (if j<i then j else i)) H):=by
 intro pins s σ H xs us Q I r h;obtain⟨i,j,rfl,q⟩:=h;obtain⟨u,w',rfl,⟨t,rfl⟩,⟨t',rfl⟩⟩:=FE r;refine min_two_ints (I.ok.hd hc) λh' tk k=>⟨_,H,I.kept k,?_,q⟩;by_cases hj:j<i
 ·rw[if_pos hj,if_pos hj];exact⟨_,rfl⟩
 rw[if_neg hj,if_neg hj];exact⟨_,rfl⟩
def IU:Ba X (.type "int") (λxs H Q=>(∃i,xs=[.int i]/\Q (.int i) H)\/∃k,xs=[.bl k]/\Q (.int (if k then 1 else 0)) H):=by
 intro pins s σ H xs us Q I r h;rcases h with⟨i,rfl,q⟩|⟨k,rfl,q⟩
 ·obtain⟨u,rfl,t,rfl⟩:=BR r;exact call_int_int ⟨.int i,H,I,⟨_,rfl⟩,q⟩
 obtain⟨u,rfl,r1⟩:=BR r;cases r1;exact call_int_bool ⟨.int (if k then 1 else 0),H,I.tok _,⟨_,rfl⟩,q⟩
end
end L2
namespace L2
open PySem PySem.Spec PyProof.Rows
structure Nq(h:Heap)(x dx C:Addr)(mA:Str->Option Value):Prop where
 obj:h.get? x=some (PySem.W.instObj C dx)
 ns:h.Ns1 dx mA
 ne:dx≠x
def Po{h:Heap}(n:h.Ns1 dx mA):∃od,h.get? dx=some od/\∀name,PySem.W.lookIn name od=some (mA name):=by
 obtain⟨o,es,ep,ho,hd,hk,_,hm⟩:=n;refine⟨o,ho,λname=>?_⟩;have e:=hm name;unfold nsFind findBy at e;rw[←Array.find?_toList]at e;unfold PySem.W.lookIn;rw[hd];dsimp only;split
 ·rename_i y q;rw[q]at e;exact cK some e
 rename_i q;rw[q]at e;have a:es.toList.any (·.refKey)=false:=by
  rw[List.any_eq_false];intro y hy;obtain⟨z,t,hkey⟩:=hk y (iQ.mp hy);simp[DictEntry.refKey,hkey]
 have a': ¬es.toList.any (·.refKey)=true:=by rw[a];exact aB
 rw[if_neg a'];exact cK some e
def Nq.look(I:Nq h x dx C mA):∃od,PySem.W.InstAt h x (PySem.W.instObj C dx) C (some od)/\∀name,PySem.W.lookIn name od=some (mA name):=
 let ⟨od,ho,hl⟩:=Po I.ns
 ⟨od,⟨I.obj,rfl,rfl,ho⟩,hl⟩
section
variable {prog:Program}{w:World}{A:Around}{E:Vq}{s:Shared}{K:Fq}{x dx C f:Addr}{mA:Mq}{name:Str}{v:Value}
def Vx(X:K.In s.heap)(I:Nq s.heap x dx C mA)(hg:PySem.W.plainGet K C name=true)(hh:PySem.W.hasDictIn K C=true)
 (ha:PySem.W.findIn K (.ref C) name=some none)(hv:mA name=some v)(hv':PySem.W.handedIn v=true)(h:Q v {s with toks:=s.toks+1}) :
 wpAny (model prog w) A (getAttr (.ref x) name expr) Q E s:=by
 obtain⟨od,J,hl⟩:=I.look;exact PySem.W.get_value X J (PySem.W.plainGet_of hg).1 (PySem.W.findObj_own hh ha rfl (by rw[hl,hv])) hv' h
def SA(X:K.In s.heap)(I:Nq s.heap x dx C mA)(hg:PySem.W.plainGet K C name=true)
 (hf:PySem.W.findIn K (.ref C) name=some (some (.ref f)))(ht:PySem.W.isFn K (.ref f)=true)(hv:mA name=none)(h:Q (.ref f,[.ref x]) s) :
 wpAny (model prog w) A (getMethod (.ref x) name pl) Q E s:=by
 obtain⟨od,J,hl⟩:=I.look;exact PySem.W.method_fn X J (PySem.W.plainGet_of hg).1 (PySem.W.plainGet_of hg).2 hf (aR.mp ht) (by show(PySem.W.lookIn name od).map (·.isSome)=some false;rw[hl,hv];rfl) h
def Ug(X:K.In s.heap)(I:Nq s.heap x dx C mA)
 (hs:PySem.W.findIn K (.ref C) "__setattr__"=some (some (.builtin "object.__setattr__")))(hp:PySem.W.plainOver K C=true)(ht:PySem.W.takerIn K C name=some none)(hh:PySem.W.hasDictIn K C=true)
 (hw:PySem.Within mA ns)(hsz:ns.length<=sizeLine)
 (h:∀h',Nq h' x dx C (λy=>if y=name then some v else mA y)->Heap.SameBut dx s.heap h'->Q () {s with heap:=h',toks:=s.toks+2}) :
 wpAny (model prog w) A (setAttr (.ref x) name v) Q E s:=by
 obtain⟨od,J,hl⟩:=I.look;refine PySem.W.set_plain X J hs (PySem.W.osa_open (s:={s with toks:=s.toks+1}) (r:=none) X J hp ht λb=>?_);obtain⟨cd,hc,hd'⟩:=PySem.W.any_some hh;have hx:=I.obj;refine a8 (aF (a8 (a8 (wpAny_loadPart hx (a8 (PySem.W.Looks.here (s:={s with toks:=s.toks+1}) (PySem.W.looks_clsIn X hc) ?_))))));rw[hd'];refine aF (a:=some dx) (a8 (aF (a8 ?_)));refine wpAny_nsSet1 (s:={s with toks:=s.toks+1}) I.ns λh' hn2 hs2=>?_;obtain⟨oD,esD,epD,hoD,hdD,hcD⟩:=hn2.count (PySem.Within.cons name v hw);refine a8 (wpAny_lookBehind hoD (by rw[hdD];exact pastItsLine_dict (b9 hcD (by rw[cN];lia))) ?_);exact aF (h _ ⟨(hs2.2 _ (bM I.ne)).trans I.obj,hn2,I.ne⟩ hs2)
def RU(X:K.In s.heap)(hm:PySem.W.makesIn K C=true)
 (hi:PySem.W.findIn K (.ref C) "__init__"=some (some (.ref f)))(hf:PySem.W.typeIn K (.ref f)=some (.type "function"))
 (h:codeAny (model prog w) (A.under (.builtin "type.__call__" ⟨.ref C::vs,kw⟩)) (.call (.ref f) ⟨.ref (s.heap.objs.size+1)::vs,kw⟩) (PySem.W.InitBack (s.heap.objs.size+1) R)
   {s with heap:=(s.heap.push PySem.W.emptyDict).push (PySem.W.instObj C s.heap.objs.size)}) :
 codeAny (model prog w) A (.call (.ref C) ⟨vs,kw⟩) R s:=by
 obtain⟨hh,g,d,t,os⟩:=s;exact PySem.W.make_core (PySem.W.makes_of X hm) (PySem.W.looks_findIn X hi) (λself=>PySem.W.bind_fn X self hf) (.inl rfl) h
def Pm(X:K.In s.heap)(hm:PySem.W.makesIn K C=true)
 (hi:PySem.W.findIn K (.ref C) "__init__"=some (some (.builtin "object.__init__")))
 (hb:∀self,PySem.W.Looks (model prog w) s.heap (bindSpecial (.builtin "object.__init__") self) (.builtin "object.__init__",[self]))
 (h:codeAny (model prog w) (A.under (.builtin "type.__call__" ⟨[.ref C],[]⟩)) (.call (.builtin "object.__init__") ⟨[.ref (s.heap.objs.size+1)],[]⟩) (PySem.W.InitBack (s.heap.objs.size+1) R)
   {s with heap:=(s.heap.push PySem.W.emptyDict).push (PySem.W.instObj C s.heap.objs.size)}) :
 codeAny (model prog w) A (.call (.ref C) ⟨[],[]⟩) R s:=by
 obtain⟨hh,g,d,t,os⟩:=s;exact PySem.W.make_core (PySem.W.makes_of X hm) (PySem.W.looks_findIn X hi) hb (.inr ⟨rfl,rfl⟩) h
end
noncomputable def Dl(f:Str)(v:V):List (Str×V)->List (Str×V)
 |[]=>[(f,v)]
 |(g,x)::r=>if g=f then(g,v)::r else(g,x)::Dl f v r
theorem FK(f g:Str)(v:V):∀fs:List (Str×V),(Dl f v fs).lookup g=if g=f then some v else fs.lookup g
 |[]=>by
  show List.lookup g [(f,v)]=_;by_cases h:g=f
  ·have hb:=aR.mpr h;simp only[List.lookup,hb,if_pos h]
  have hb:=bS.mpr h;simp only[List.lookup,hb,if_neg h]
 |(k,x)::r=>by
  have ih:=FK f g v r;rw[show Dl f v ((k,x)::r)=(if k=f then(k,v)::r else(k,x)::Dl f v r) from rfl];by_cases hk:k=f
  ·rw[if_pos hk];by_cases h:g=k
   ·have hb:=aR.mpr h;simp only[List.lookup,hb,if_pos (h.trans hk)]
   have hb:=bS.mpr h;simp only[List.lookup,hb,if_neg (λe:g=f=>h (e.trans hk.symm))]
  rw[if_neg hk];by_cases h:g=k
  ·have hb:=aR.mpr h;simp only[List.lookup,hb,if_neg (λe:g=f=>hk (h.symm.trans e))]
  have hb:=bS.mpr h;simp only[List.lookup,hb];exact ih
theorem Ft(f:Str)(v:V):∀fs:List (Str×V),f∈(Dl f v fs).map (·.1)/\∀g,g∈fs.map (·.1)->g∈(Dl f v fs).map (·.1)
 |[]=>⟨by simp[Dl],λg h=>by simp at h⟩
 |(k,x)::r=>by
  obtain⟨i1,i2⟩:=Ft f v r;rw[show Dl f v ((k,x)::r)=(if k=f then(k,v)::r else(k,x)::Dl f v r) from rfl];by_cases hk:k=f
  ·rw[if_pos hk];subst hk;exact⟨by simp,λg h=>by simpa using h⟩
  rw[if_neg hk];refine⟨?_,λg h=>?_⟩
  ·rw[aK];exact aE _ i1
  rw[aK]at h ⊢;rcases aU.mp h with e|e
  ·exact List.mem_cons.mpr (.inl e)
  exact aE _ (i2 g e)
theorem FN(f:Str)(v:V):∀fs:List (Str×V),(Dl f v fs).length<=fs.length+1
 |[]=>by simp[Dl]
 |(k,x)::r=>by
  have ih:=FN f v r;rw[show Dl f v ((k,x)::r)=(if k=f then(k,v)::r else(k,x)::Dl f v r) from rfl];by_cases hk:k=f
  ·rw[if_pos hk,cN,cN];lia
  rw[if_neg hk,cN,cN];lia
def DG.some_of(r:DG (some v) o):∃u,o=some u/\Au v u:=by
 cases o with
 |none=>exact(show False from r).elim
 |some u=>exact⟨u,rfl,r⟩
def DG.none_of(r:DG none o):o=none:=by
 cases o with
 |none=>rfl
 |some u=>exact(show False from r).elim
def Pz(r:Au v u):PySem.W.handedIn u=true:=by
 cases v with
 |non=>cases (show u=Value.none from r);rfl
 |bl b=>cases (show u=Value.bool b from r);rfl
 |int i=>obtain⟨t,e⟩:=(show ∃t,u=Value.int i t from r);cases e;rfl
 |str x=>obtain⟨t,e⟩:=(show ∃t,u=Value.str x t from r);cases e;rfl
 |byt b=>obtain⟨t,e⟩:=(show ∃t,u=Value.bytes b t from r);cases e;rfl
 |flt b=>obtain⟨t,e⟩:=(show ∃t,u=Value.float b t from r);cases e;rfl
 |ref a=>cases (show u=Value.ref a from r);rfl
 |ty n=>cases (show u=Value.type n from r);rfl
section
def Gq(hok:Dk P w H h)(e:H a=some (.ins C dx fs)):∃mA,A5 (Nq h a dx C mA) (∀f,DG (fs.lookup f) (mA f)) (PySem.Within mA (fs.map (·.1))) (fs.length<=1000) (H dx=some (.own a)):=by
 obtain⟨d,z,ne,ob,mA,n,r,q⟩:=(show AE P w H h a (.ins C dx fs) from hok a _ e);exact⟨mA,⟨ob,n,ne⟩,r,q,z,d⟩
end
structure Tz(K:PySem.W.Frag)(C:Addr):Prop where
 pg:PySem.W.plainGet K C Str.empty=true
 hd:PySem.W.hasDictIn K C=true
 po:PySem.W.plainOver K C=true
 sa:PySem.W.findIn K (.ref C) "__setattr__"=some (some (.builtin "object.__setattr__"))
def Tz.get{K:Fq}{C:Addr}(c:Tz K C)(f:Str):PySem.W.plainGet K C f=true:=c.pg
def FA(K:PySem.W.Frag)(C:Addr)(f:Str):Prop:=PySem.W.findIn K (.ref C) f=some none
def FA.taker{K:Fq}{C:Addr}{f:Str}(n:FA K C f):PySem.W.takerIn K C f=some none:=by
 unfold PySem.W.takerIn;rw[show PySem.W.findIn K (.ref C) f=some none from n];rfl
structure ZO(K:PySem.W.Frag)(C:Addr)(m:Str)(f:Addr):Prop where
 at_:PySem.W.findIn K (.ref C) m=some (some (.ref f))
 fn:PySem.W.isFn K (.ref f)=true
 kp:PySem.W.keepIn K (.ref f)=true
section
variable {f:Str}
def MP(I:Ag X pins σ H s)(e:H a=some (.ins C dx fs))(c:Tz X.K C)(n:FA X.K C f)(l:fs.lookup f=some v)
 (h:∀u s',Ag X pins σ H s'->Au v u->Q u s'):wpAny (model X.prog X.w) A (getAttr (.ref a) f b) Q E s:=by
 obtain⟨mA,O,r,_,_,_⟩:=Gq I.hok e;obtain⟨u,hu,ru⟩:=DG.some_of (v:=v) (o:=mA f) (by rw[←l];exact r f);exact Vx I.kIn O (c.get f) c.hd n hu (Pz ru) (h u _ (I.tok _) ru)
def Hq{m:Str}(I:Ag X pins σ H s)(e:H a=some (.ins C dx fs))(c:Tz X.K C)(k:ZO X.K C m g)(l:fs.lookup m=none)
 (h:Q (.ref g,[.ref a]) s):wpAny (model X.prog X.w) A (getMethod (.ref a) m pl) Q E s:=by
 obtain⟨mA,O,r,_,_,_⟩:=Gq I.hok e;have hn:=DG.none_of (by rw[←l];exact r m);exact SA I.kIn O (c.get m) k.at_ k.fn hn h
def Mh(I:Ag X pins σ H s)(e:H a=some (.ins C dx fs))(c:Tz X.K C)(n:FA X.K C f)(hl:fs.length<1000)(ry:Au y u)
 (h:∀s',Ag X pins σ (upd H a (.ins C dx (Dl f y fs))) s'->Q () s'):wpAny (model X.prog X.w) A (setAttr (.ref a) f u) Q E s:=by
 obtain⟨mA,O,r,wi,_,ho⟩:=Gq I.hok e;have hz:(fs.map (·.1)).length<=sizeLine:=by rw[aC,dD];lia
 refine Ug I.kIn O c.sa c.po n.taker c.hd wi hz λh' O' sb=>h _ ?_;have hd:∃o,h'.get? dx=some o:=let ⟨o,_,_,e',_⟩:=O'.ns;⟨o,e'⟩;refine I.write (x:=a) (e:=dx) (by rw[e];exact True.intro) (.inr ho) (λb q hb z=>(sb.2 b hb).trans z) hd ?_;refine⟨by rw[Aa O.ne];exact ho,?_,O.ne,O'.obj,_,O'.ns,λg=>?_,λg hg=>?_⟩
 ·have:=FN f y fs;lia
 ·show DG ((Dl f y fs).lookup g) (if g=f then some u else mA g);rw[FK];by_cases q:g=f
  ·rw[if_pos q,if_pos q];exact ry
  rw[if_neg q,if_neg q];exact r g
 by_cases q:g=f
 ·rw[q];exact(Ft f y fs).1
 refine(Ft f y fs).2 g (wi g λz=>hg ?_);show(if g=f then some u else mA g)=none;rw[if_neg q];exact z
def Ag.made(I:Ag X pins σ H s):Ag X pins σ (upd (upd H s.heap.objs.size (.own (s.heap.objs.size+1))) (s.heap.objs.size+1) (.ins C s.heap.objs.size []))
 {s with heap:=(s.heap.push PySem.W.emptyDict).push (PySem.W.instObj C s.heap.objs.size)}:=by
 have e1:(s.heap.push PySem.W.emptyDict).get? s.heap.objs.size=some PySem.W.emptyDict:=aL s.heap rfl;have e2:((s.heap.push PySem.W.emptyDict).push (PySem.W.instObj C s.heap.objs.size)).get? (s.heap.objs.size+1)=some (PySem.W.instObj C s.heap.objs.size):=by
  have:=aL (s.heap.push PySem.W.emptyDict) (o:=PySem.W.instObj C s.heap.objs.size) rfl
  rwa[cQ]at this
 have e3:(s.heap.push PySem.W.emptyDict).Ns s.heap.objs.size (λ_=>none):=⟨PySem.W.emptyDict,#[],_,e1,rfl,(λe he=>absurd he (by simp)),λ_=>rfl⟩;have I1:=I.laid (a:=s.heap.objs.size) (o:=.own (s.heap.objs.size+1)) (h':=s.heap.push PySem.W.emptyDict) (t':=s.toks) (λb u q=>aD _ q) (aI _) ⟨_,e1⟩;refine I1.laid (a:=s.heap.objs.size+1) (o:=.ins C s.heap.objs.size []) (t':=s.toks) (λb u q=>aD _ q) (Nat.le_of_eq (cQ _ _)) ?_;have ne:s.heap.objs.size≠s.heap.objs.size+1:=aW (eF _);refine⟨by rw[Aa ne,Ac],dH _,ne,e2,λ_=>none,(Heap.Ns1.of_empty e3).at λo q=>aD _ q,λ_=>True.intro,λy hy=>absurd rfl hy⟩
def VP{f:Str}(hb:attributeBase e f env (eval e env)=eval e env)
 (h:wpAny (model prog w) A (eval e env) (λo s₁=>wpAny (model prog w) A (getAttr o f true) Q E s₁) E s):wpAny (model prog w) A (eval (.Attribute e f pos) env) Q E s:=
 Attribute_any_ h (by rw[arm_eval_Attribute,hb])
end
def nL(K:PySem.W.Frag)(ta tv:TE)(f:Str):TS:=λD σ H=>tv σ H λy H1=>ta σ H1 λx H2=>E4 λa C dx fs=>A6 (x=.ref a) (H2 a=some (.ins C dx fs)) (Tz K C) (FA K C f) (fs.length<1000) (D.nx σ (upd H2 a (.ins C dx (Dl f y fs))))
section
variable {f:Str}
def Yh(ha:PE X o ta)(hv:PE X value tv)(hs:swapsWith value (some (.Attribute o f pos')) pos.line X.env=pure false):PS X (.Assign [.Attribute o f pos'] value pos) (nL X.K ta tv f):=by
 intro pins s σ H D I h;refine plainObj_wpAny_Assign_Attribute (AV (hv pins s σ H _ I h) λu s1 ⟨y,H1,I1,ry,q⟩=>AV (ha pins s1 σ H1 _ I1 q) λov s2 ⟨x,H2,I2,rx,a,C,dx,fs,ex,ea,c,n,l,q2⟩=>?_) hs;subst ex;obtain rfl:ov=Value.ref a:=rx;exact Mh I2 ea c n l ry λs3 I3=>⟨σ,_,I3,q2⟩
end
section
inductive DZ(K:PySem.W.Frag)(H:Hp):V->Value->Prop where
 |non:DZ K H .non (.type "NoneType")
 |bl (x:Bool):DZ K H (.bl x) (.type "bool")
 |int (i:Int):DZ K H (.int i) (.type "int")
 |str (x:Str):DZ K H (.str x) (.type "str")
 |flt (x:UInt64):DZ K H (.flt x) (.type "float")
 |lst {a:Addr}{xs:List V}(e:H a=some (.lst xs)):DZ K H (.ref a) (.type "list")
 |frz {a:Addr}{o:Obj}{xs:List V}(e:H a=some (.frz o (.lst xs))):DZ K H (.ref a) (.type "list")
 |tup {a:Addr}{xs:List V}(e:H a=some (.tup xs)):DZ K H (.ref a) (.type "tuple")
 |dK {a:Addr}{kvs:List (Key×V)}(e:H a=some (.dK kvs)):DZ K H (.ref a) (.type "dict")
 |dT {a:Addr}{kvs:List (List Key×V)}(e:H a=some (.dT kvs)):DZ K H (.ref a) (.type "dict")
 |ins {a C dx:Addr}{fs:List (Str×V)}(e:H a=some (.ins C dx fs)) (cl:Tz K C) (ha:PySem.W.findIn K (.ref C) "__class__"=some (some (.builtin "object.__class__")))
  (hn:PySem.W.specialIn K (.builtin "object.__class__") "__get__"=some (some (.builtin "getset_descriptor.__get__"))) (htk:PySem.W.takesIn K (.builtin "object.__class__")=some true)
  (hm:PySem.W.mroIn K C (.type "object")=some true):DZ K H (.ref a) (.ref C)
def Pu(I:Ag X pins σ H s)(rx:Au x u)(ty:DZ X.K H x t)(e:PySem.W.kitOne X.K t c=some b)(h:∀tk,Q (.bool b) {s with toks:=tk}) :
 wpAny (model X.prog X.w) A (call (.builtin "isinstance") [u,c]) Q E s:=by
 cases ty with
 |non=>cases (show u=Value.none from rx);exact PySem.W.kia_one PySem.W.kitx_none I.kIn True.intro e (λz=>nomatch z) h
 |bl y=>cases (show u=Value.bool y from rx);exact PySem.W.kia_one PySem.W.kitx_bool I.kIn True.intro e (λz=>nomatch z) h
 |int i=>obtain⟨t,q⟩:=(show ∃t,u=Value.int i t from rx);cases q;exact PySem.W.kia_one PySem.W.kitx_int I.kIn True.intro e (λz=>nomatch z) h
 |str y=>obtain⟨t,q⟩:=(show ∃t,u=Value.str y t from rx);cases q;exact PySem.W.kia_one PySem.W.kitx_str I.kIn True.intro e (λz=>nomatch z) h
 |flt y=>obtain⟨t,q⟩:=(show ∃t,u=Value.float y t from rx);cases q;exact PySem.W.kia_one PySem.W.kitx_float I.kIn True.intro e (λz=>nomatch z) h
 |@lst a xs ea=>
  cases (show u=Value.ref a from rx);obtain⟨_,_,n,_,h1⟩:=(show AE X.prog X.w H s.heap a (.lst xs) from I.hok a _ ea);exact PySem.W.kia_one PySem.W.kitx_list I.kIn ⟨_,h1,rfl⟩ e (λz=>nomatch z) h
 |@frz a ob xs ea=>
  cases (show u=Value.ref a from rx);obtain⟨_,_,_,n,_,h1⟩:=(show AE X.prog X.w H s.heap a (.frz ob (.lst xs)) from I.hok a _ ea);exact PySem.W.kia_one PySem.W.kitx_list I.kIn ⟨_,h1,rfl⟩ e (λz=>nomatch z) h
 |@tup a xs ea=>
  cases (show u=Value.ref a from rx);obtain⟨_,_,_,p⟩:=(show AE X.prog X.w H s.heap a (.tup xs) from I.hok a _ ea);obtain⟨o,h1,h2,_⟩:=p;exact PySem.W.kia_one PySem.W.kitx_tuple I.kIn ⟨o,h1,h2⟩ e (λz=>nomatch z) h
 |@dK a kvs ea=>
  cases (show u=Value.ref a from rx);obtain⟨_,_,vs,_,p⟩:=(show AE X.prog X.w H s.heap a (.dK kvs) from I.hok a _ ea);obtain⟨o,es,ep,h1,h2,_⟩:=p;exact PySem.W.kia_one PySem.W.kitx_dict I.kIn ⟨o,h1,h2.1⟩ e (λz=>nomatch z) h
 |@dT a kvs ea=>
  cases (show u=Value.ref a from rx);obtain⟨_,_,xs,_,o,es,ep,h1,h2,_⟩:=(show AE X.prog X.w H s.heap a (.dT kvs) from I.hok a _ ea);exact PySem.W.kia_one PySem.W.kitx_dict I.kIn ⟨o,h1,h2.1⟩ e (λz=>nomatch z) h
 |@ins a C dx fs ea cl ha hn htk hm=>
  cases (show u=Value.ref a from rx);obtain⟨mA,O,_⟩:=Gq I.hok ea;obtain⟨od,J,_⟩:=O.look;exact PySem.W.kia_one (PySem.W.kitx_own (cl.get _) cl.hd ha hn htk hm) I.kIn J e (λz=>nomatch z) h
end
end L2
namespace L2
open PySem PySem.Spec PyProof.Rows
structure Bp(k:Nat)(A:Around):Prop where
 hd:A.handled=none
 dp:A.depth+3*k+5<recursionLimit
 un:A.units+16*k+200<cLine
 gd:A.guards=some []
def Bp.mono{j k:Nat}(r:Bp k A)(h:j<=k):Bp j A:=⟨r.hd,by have:=r.dp;lia,by have:=r.un;lia,r.gd⟩
theorem Bp.deeper{k:Nat}(r:Bp (k+1) A)(env:Env):Bp k (A.deeper env):=
 ⟨r.hd,by have:=r.dp;show A.depth+1+3*k+5<_;lia,by have:=r.un;show A.units+3+16*k+200<_;lia,by have:=r.gd;first|exact this|simpa[Around.deeper]using this⟩
def M2{A:Around}:(A.under (.builtin "type.__call__" ⟨.ref C::us,kw⟩)).depth=A.depth+1:=by
 first|rfl|simp[Around.under,Code.weight,Code.isCreation,Code.isGuard,Code.isCaller,Code.frames,Code.isFrame,guardIds]
def M1{A:Around}:(A.under (.builtin "type.__call__" ⟨.ref C::us,kw⟩)).units=A.units+1:=by
 first|rfl|simp[Around.under,Code.cUnits,Code.frames,Code.isFrame]
def Bp.make{k:Nat}(r:Bp (k+1) A)(C:Addr)(us:List Value)(kw:List (Str×Value)):Bp k (A.under (.builtin "type.__call__" ⟨.ref C::us,kw⟩)):=
 ⟨r.hd,by have:=r.dp;rw[M2];lia,by have:=r.un;rw[M1];lia,by have:=r.gd;first|exact this|simpa[Around.under,Code.guards,Code.isGuard,guardIds,pushGuards]using this⟩
theorem Bp.depth{k:Nat}(r:Bp k A):A.depth<recursionLimit:=by have:=r.dp;lia
def nw:TA:=λ_ H Q=>Q [] H
def cn(ta:TE)(tr:TA):TA:=λσ H Q=>ta σ H λx H1=>tr σ H1 λxs H2=>Q (x::xs) H2
section
def Jv:PA X [] nw:=λ_ _ _ _ H Q I h=>hX ⟨[],H,I,.nil,h⟩
def EQ(ha:PE X e te)(hr:PA X es t)(hs:starEach (e::es) X.env=(false,eval e X.env)::starEach es X.env:=by rfl):PA X (e::es) (cn te t):=by
 intro pos pins s σ H Q I h;rw[hs];show wpAny _ _ (spliced ((false,eval e X.env)::backTo pos (starEach es X.env))) _ _ s;refine gV (AV (ha pins s σ H _ I h) λu s1 ⟨x,H1,I1,r1,q1⟩=>?_);exact AV (hr pos pins s1 σ H1 _ I1 q1) λus s2 ⟨xs,H2,I2,r2,q2⟩=>⟨x::xs,H2,I2,.cons r1 r2,q2⟩
def np(t:TA):TE:=λσ H Q=>t σ H λxs H1=>xs.length<=sizeLine/\∀p,H1 p=none->Q (.ref p) (upd H1 p (.tup xs))
def nz(t:TA):TE:=λσ H Q=>t σ H λxs H1=>xs.length<=sizeLine/\∀p,H1 p=none->Q (.ref p) (upd H1 p (.lst xs))
def Yn{x1}(h:PA X es t):PE X (.Tuple es x1 pos) (np t):=by
 intro pins s σ H Q I hq;refine wpAny_Tuple_spliced (AV (h pos pins s σ H _ I hq) λus s1 ⟨xs,H1,I1,r,z,q⟩=>⟨by rw[←r.length];exact z,?_⟩);have hf:=I1.hok.fresh (aI _);refine⟨.ref s1.heap.objs.size,upd H1 s1.heap.objs.size (.tup xs),I1.laid (t':=s1.toks) (λb u e=>aD _ e) (aI _) ?_,rfl,q _ hf⟩;exact⟨z,us,r,⟨_,aL _ rfl,rfl,_,rfl⟩⟩
def R3(h:PA X es t):PE X (.List es pos) (nz t):=by
 intro pins s σ H Q I hq;refine wpAny_List_spliced (AV (h pos pins s σ H _ I hq) λus s1 ⟨xs,H1,I1,r,z,q⟩=>⟨by rw[←r.length];exact z,?_⟩);have hf:=I1.hok.fresh (aI _);refine⟨.ref s1.heap.objs.size,upd H1 s1.heap.objs.size (.lst xs),I1.laid (t':=s1.toks) (λb u e=>aD _ e) (aI _) ?_,rfl,q _ hf⟩;exact⟨z,us,0,r,aL _ rfl⟩
end
abbrev Sp:=List V->Hp->VK->XK->Prop
abbrev WO:=List Env->Hp->Shared->XK->Value->Shared->Prop
structure HD(P:Program)(w:World)(K:PySem.W.Frag)(mg:Str->Option Value)(base:Heap)(A:Around)(outer:List Env)(s:Shared)(H:Hp):Prop where
 frames:A.frames=some outer
 mod:Mod K mg base
 bs:∀b o,base.get? b=some o->s.heap.get? b=some o/\H b=none
 bsz:base.objs.size<=s.heap.objs.size
 funs:s.heap.FunFrames base outer
 frf:∀b∈Lv outer,H b=none
 hok:Dk P w H s.heap
 bare:AllBare s.gens
def CE(outer:List Env)(P:Program)(w:World)(H:Hp)(s:Shared)(Q:VK)(u:Value)(s':Shared):Prop:=
 E2 λv H'=>A6 (s'.os=s.os) (AllBare s'.gens) (Un (Lv outer) [] H H' s.heap s'.heap) (Dk P w H' s'.heap) (Au v u) (Q v H')
def CR(CX:WO)(outer:List Env)(P:Program)(w:World)(H:Hp)(s:Shared)(Q:VK)(E:XK)(r:Result)(s':Shared):Prop:=
 match r with
 |.ok (.ret u)=>CE outer P w H s Q u s'
 |.ok _=>False
 |.error e=>CX outer H s E e s'
structure DI(P:Program)(w:World)(K:PySem.W.Frag)(mg:Str->Option Value)(base:Heap)(CX:WO)(k:Nat)(f:Addr)(fd:FuncData)(ps:List Str)(sp:Sp):Prop where
 len:∀vs H Q E,sp vs H Q E->vs.length=ps.length
 run:∀(A:Around) (outer:List Env) (s:Shared) (H:Hp) (args:Args) (us:List Value) (vs:List V) (Q:VK) (E:XK),Bp k A->HD P w K mg base A outer s H->BindsTo s fd args (ps.zip us)->Ap vs us->sp vs H Q E->
  codeAny (model P w) A (.call (.ref f) args) (CR CX outer P w H s Q E) s
def HD.make{P:Program}{w:World}{K:Fq}{mg:Mq}{base:Heap}{A:Around}{outer:List Env}{s:Shared}{H:Hp}(e:HD P w K mg base A outer s H)(C:Addr)(us:List Value)(kw:List (Str×Value)) :
 HD P w K mg base (A.under (.builtin "type.__call__" ⟨.ref C::us,kw⟩)) outer s H:=⟨by first|exact e.frames|(simpa[Around.under,Code.envs,Code.isFrame,pushEnvs]using e.frames),e.mod,e.bs,e.bsz,e.funs,e.frf,e.hok,e.bare⟩
section
def Ag.env0(I:Ag X pins σ H s):HD X.prog X.w X.K X.mg X.base X.A X.stack s H:=
 ⟨I.ok.frames,I.ok.mod,I.bs,b9 I.ok.bsz I.sz,I.stack,I.stkFree,I.hok,I.bare⟩
def Ag.after(I:Ag X pins σ H s)(h:CE X.stack X.prog X.w H s Q u s'):EP X pins σ Q u s':=by
 obtain⟨v,H',os,bare,un,hok,r,q⟩:=h;obtain⟨hh,g,d,t,os'⟩:=s';obtain rfl:os'=s.os:=os;exact⟨v,H',I.call (h':=hh) (g':=g) (d':=d) (t':=t) (ch:=[]) un hok bare (λb z=>absurd z (by simp)),r,q⟩
end
def Wg(sp:Sp)(dvs:List V)(E:XK)(t:TA):TE:=λσ H Q=>t σ H λvs H1=>sp (vs++dvs) H1 Q E
def cb(C:Addr)(sp:Sp)(dvs:List V)(E:XK)(t:TA):TE:=λσ H Q=>t σ H λvs H1=>∀x dx,H1 x=none->H1 dx=none->dx≠x->
 sp (.ref x::(vs++dvs)) (upd (upd H1 dx (.own x)) x (.ins C dx [])) (λv H2=>v=.non/\Q (.ref x) H2) E
def Cn(K:PySem.W.Frag)(fd:FuncData)(ps:List Str)(ds:List Value):Prop:=
 ∀(s:Shared) (us:List Value),K.In s.heap->(us++ds).length=ps.length->BindsTo s fd ⟨us,[]⟩ (ps.zip (us++ds))
def HB(CX:WO)(X:Cx)(E:XK):Prop:=∀(pins:List (Addr×Obj)) (σ:St) (H:Hp) (s:Shared) (e:Value) (s':Shared),Ag X pins σ H s->CX X.stack H s E e s'->X.xe e s'
section
variable {k:Nat}{x m:Str}
def QG(F:DI X.prog X.w X.K X.mg X.base CX k f fd ps sp)(hr:Bp k X.A)(hb:Cn X.K fd ps ds)(hd:Ap dvs ds)(hx:HB CX X E)
 (I:Ag X pins σ H s)(r:Ap vs us)(h:sp (vs++dvs) H Q E):wpAny (model X.prog X.w) X.A (call (.ref f) us) (EP X pins σ Q) X.xe s:=by
 have r2:=r.append hd;have hl:(us++ds).length=ps.length:=by rw[←r2.length];exact F.len _ _ _ _ h
 refine gB (eG (F.run X.A X.stack s H ⟨us,[]⟩ (us++ds) (vs++dvs) Q E hr I.env0 (hb s us I.kIn hl) r2 h) λr s' hq=>?_);cases r with
 |error e=>exact hx pins σ H s e s' I hq
 |ok fl=>
  cases fl with
  |ret u=>exact I.after hq
  |next=>exact False.elim hq
  |brk=>exact False.elim hq
  |cont=>exact False.elim hq
def UQ(F:DI X.prog X.w X.K X.mg X.base CX k f fd ps sp)(hr:Bp k X.A)(hg:Gl X x)(hm:X.mg x=some (.ref f))(hk:PySem.W.keepIn X.K (.ref f)=true)(hb:Cn X.K fd ps ds)(hd:Ap dvs ds)(hx:HB CX X E)
 (ha:PA X (e::es) t)(hdb:(x ==("__debug__" :Str))=false:=by decide)(he:starEach (e::es) X.env=(false,eval e X.env)::starEach es X.env:=by rfl)(hpl:(backTo pos (starEach es X.env)).any (·.1)=false:=by rfl) :
 PE X (.Call (.Name x p) (e::es) [] pos) (Wg sp dvs E t):=by
 intro pins s σ H Q I h;refine cC (DQ I hg hm ?_ hdb);refine PySem.W.callWith_K (h₀:=X.base) I.ok.mod.kin hk (AV (ha pos pins s σ H _ I h) λus s1 ⟨vs,H1,I1,r,q⟩=>⟨I1.kIn,?_⟩) he hpl;exact QG F hr hb hd hx I1 r q
structure Mk(K:PySem.W.Frag)(C f:Addr):Prop where
 makes:PySem.W.makesIn K C=true
 init:PySem.W.findIn K (.ref C) "__init__"=some (some (.ref f))
 fn:PySem.W.isFn K (.ref f)=true
 kp:PySem.W.keepIn K (.ref C)=true
def QF(M:Mk X.K C f)(F:DI X.prog X.w X.K X.mg X.base CX k f fd ps sp)(hr:Bp (k+1) X.A)(hb:Cn X.K fd ps ds)(hd:Ap dvs ds)
 (hx:HB CX X E)(I:Ag X pins σ H s)(r:Ap vs us)
 (h:∀x dx,H x=none->H dx=none->dx≠x->sp (.ref x::(vs++dvs)) (upd (upd H dx (.own x)) x (.ins C dx [])) (λv H2=>v=.non/\Q (.ref x) H2) E) :
 wpAny (model X.prog X.w) X.A (call (.ref C) us) (EP X pins σ Q) X.xe s:=by
 have hq:=h (s.heap.objs.size+1) s.heap.objs.size (I.hok.fresh (cZ _)) (I.hok.fresh (aI _)) (aW (eF _));have I2:=Ag.made (C:=C) I;have r2:Ap (V.ref (s.heap.objs.size+1)::(vs++dvs)) (Value.ref (s.heap.objs.size+1)::(us++ds)):=.cons rfl (r.append hd);have hl:(Value.ref (s.heap.objs.size+1)::us++ds).length=ps.length:=by
  have e:=r2.length;rw[F.len _ _ _ _ hq]at e;exact e.symm
 refine gB (RU (f:=f) I.kIn M.makes M.init (aR.mp M.fn) (eG (F.run _ X.stack _ _ ⟨Value.ref (s.heap.objs.size+1)::us,[]⟩ (Value.ref (s.heap.objs.size+1)::(us++ds)) _ _ E (hr.make C us [])
  (I2.env0.make C us []) (hb _ (Value.ref (s.heap.objs.size+1)::us) I2.kIn hl) r2 hq) λr s' hq'=>?_))
 cases r with
 |error e=>exact hx pins σ _ _ e s' I2 hq'
 |ok fl=>
  cases fl with
  |ret u=>
   obtain⟨v,H',I3,rv,ev,q3⟩:=I2.after hq';subst ev;exact⟨rv,⟨V.ref (s.heap.objs.size+1),H',I3,rfl,q3⟩⟩
  |next=>exact False.elim hq'
  |brk=>exact False.elim hq'
  |cont=>exact False.elim hq'
def UM(M:Mk X.K C f)(F:DI X.prog X.w X.K X.mg X.base CX k f fd ps sp)(hr:Bp (k+1) X.A)(hg:Gl X x)(hm:X.mg x=some (.ref C))(hb:Cn X.K fd ps ds)(hd:Ap dvs ds)(hx:HB CX X E)
 (ha:PA X (e::es) t)(hdb:(x ==("__debug__" :Str))=false:=by decide)(he:starEach (e::es) X.env=(false,eval e X.env)::starEach es X.env:=by rfl)(hpl:(backTo pos (starEach es X.env)).any (·.1)=false:=by rfl) :
 PE X (.Call (.Name x p) (e::es) [] pos) (cb C sp dvs E t):=by
 intro pins s σ H Q I h;refine cC (DQ I hg hm ?_ hdb);refine PySem.W.callWith_K (h₀:=X.base) I.ok.mod.kin M.kp (AV (ha pos pins s σ H _ I h) λus s1 ⟨vs,H1,I1,r,q⟩=>⟨I1.kIn,?_⟩) he hpl;exact QF M F hr hb hd hx I1 r q
end
structure Gy(N P:List Str)(sc:Scope):Prop where
 kind:sc.kind=.function
 co:sc.isCoroutine=false
 gen:sc.isGenerator=false
 nd:N.Nodup
 pre:N.take P.length=P
 par:∀x∈P,sc.names.lookup x=some .local\/sc.names.lookup x=some .cell
 nofree:∀y∈sc.names,y.2≠ .free
theorem IW{kindOf:Str->Option NameKind}{x:Str}:∀{binds:List (Str×Value)}{m:Mq},(∀v,(x,v)∉binds)->bindL kindOf binds m x=m x
 |[],_,_=>rfl
 |(n,v)::r,m,h=>by
  unfold bindL;rw[IW λw hw=>h w (aE _ hw)];split
  ·have:x≠n:=by rintro rfl;exact h v aH
   simp[this]
  rfl
theorem IY{kindOf:Str->Option NameKind}{x:Str}:∀{binds:List (Str×Value)}{m:Mq},(∀v,(x,v)∉binds)->bindC kindOf binds m x=m x
 |[],_,_=>rfl
 |(n,v)::r,m,h=>by
  unfold bindC;rw[IY λw hw=>h w (aE _ hw)];split
  ·rfl
  have:x≠n:=by rintro rfl;exact h v aH
  simp[this]
theorem IX{kindOf:Str->Option NameKind}{x:Str}:∀{P:List Str}{vs:List Value}{i:Nat}{m:Mq},P.Nodup->P[i]?=some x->vs[i]?=some v->kindOf x=some .local->
 bindL kindOf (P.zip vs) m x=some v
 |[],_,_,_,_,h,_,_=>by simp at h
 |_::_,[],_,_,_,_,h,_=>by simp at h
 |p::P,w::vs,0,m,nd,h1,h2,hk=>by
  simp at h1 h2;subst h1;subst h2;show bindL kindOf ((p,w)::P.zip vs) m p=_;unfold bindL;rw[IW λv hv=>(bX.mp nd).1 (eV hv).1,if_pos hk];simp
 |p::P,w::vs,i+1,m,nd,h1,h2,hk=>by
  show bindL kindOf ((p,w)::P.zip vs) m x=_;unfold bindL;exact IX (i:=i) (bX.mp nd).2 (by simpa using h1) (by simpa using h2) hk
theorem IZ{kindOf:Str->Option NameKind}{x:Str}:∀{P:List Str}{vs:List Value}{i:Nat}{m:Mq},P.Nodup->P[i]?=some x->vs[i]?=some v->kindOf x≠some .local->
 bindC kindOf (P.zip vs) m x=some v
 |[],_,_,_,_,h,_,_=>by simp at h
 |_::_,[],_,_,_,_,h,_=>by simp at h
 |p::P,w::vs,0,m,nd,h1,h2,hk=>by
  simp at h1 h2;subst h1;subst h2;show bindC kindOf ((p,w)::P.zip vs) m p=_;unfold bindC;rw[IY λv hv=>(bX.mp nd).1 (eV hv).1,if_neg hk];simp
 |p::P,w::vs,i+1,m,nd,h1,h2,hk=>by
  show bindC kindOf ((p,w)::P.zip vs) m x=_;unfold bindC;exact IZ (i:=i) (bX.mp nd).2 (by simpa using h1) (by simpa using h2) hk
noncomputable def B9(N:List Str)(vs:List V):St:=vs.map some++List.replicate (N.length-vs.length) none
noncomputable def SQ(CX:WO)(P:Program)(w:World)(K:PySem.W.Frag)(mg:Str->Option Value)(base:Heap)(N:List Str)(qual:Str)(scope:Scope)(f:Addr)(cd:Value)(A:Around)(outer:List Env)(s:Shared)(H:Hp)(E:XK):Cx where
 prog:=P
 w:=w
 K:=K
 mg:=mg
 base:=base
 A:=A.deeper (envOfC qual scope s.heap.objs.size f cd)
 N:=N
 s₀:=s
 H₀:=H
 env:=envOfC qual scope s.heap.objs.size f cd
 outer:=outer
 stack:=envOfC qual scope s.heap.objs.size f cd::outer
 ex:=[]
 calm:=true
 fn:=λ_=>true
 pn:=[]
 xe:=λe s'=>wpAny (model P w) (A.deeper (envOfC qual scope s.heap.objs.size f cd)) (leaving (envOfC qual scope s.heap.objs.size f cd) e) (λ_ s''=>CX outer H s E e s'') (λe' s''=>CX outer H s E e' s'') s'
def LG{sc:Scope}{n:Nat}{x:Str}(h:sc.names.lookup x=some .cell):∃c,(cellsFrom n sc.names []).lookup x=some c:=by
 have q:=PySem.W.cellsFrom_some sc.names n [] (.inl h);exact bV.mp q
def Pv{CX:WO}{P:Program}{w:World}{K:Fq}{mg:Mq}{base:Heap}{N ps:List Str}{qual:Str}{scope:Scope}{f:Addr}{cd:Value}{A:Around}{outer:List Env}{s s1:Shared}{H:Hp}{E:XK}{us:List Value}{vs:List V}
 (S:Gy N ps scope)(hd:A.handled=none)(e0:HD P w K mg base A outer s H)(hl:vs.length=ps.length)(r:Ap vs us)
 (x:InCallC s s.heap.objs.size (bindL (envOfC qual scope s.heap.objs.size f cd).kindOf (ps.zip us) λ_=>none) (cellsFrom (s.heap.objs.size+1) scope.names []) (bindC (envOfC qual scope s.heap.objs.size f cd).kindOf (ps.zip us) λ_=>none) s1) :
 Ag (SQ CX P w K mg base N qual scope f cd A outer s H E) [] (B9 N vs) H s1:=by
 have hpl:ps.length<=N.length:=by have:=cK List.length S.pre;rw[bD]at this;lia
 obtain⟨h1,tk,rfl,hk⟩:=x.done;have noA:∀b:Addr,b∉(SQ CX P w K mg base N qual scope f cd A outer s H E).ex:=λb z=>absurd (show b∈([]:List Addr) from z) (by simp);refine⟨⟨e0.mod,S.kind,rfl,rfl,aI _,λy z c h1 h2=>?_,λy hy=>?_,λy c _ h=>?_,λ_=>hd,Around.frames_deeper e0.frames,.inr ⟨rfl,rfl⟩,λb z=>absurd z (noA b),e0.bs,e0.bsz,λb _ _=>noA b,λb z=>absurd z (noA b),e0.funs,e0.frf⟩,
  rfl,e0.bare,Un.kept hk,⟨_,x.toInCall.ns,λi y v h1 h2 h3=>?_⟩,λy c h=>⟨_,x.cell y c h⟩,e0.hok.fresh (aI _),λy c h=>?_,λp hp=>absurd (show p∈([]:Pq) from hp) (by simp),e0.hok.kept hk,?_⟩
 ·exact name_of_addr x.apart (PySem.mem_of_lookup h1) (PySem.mem_of_lookup h2)
 ·have hy:scope.names.lookup y=some .cell\/scope.names.lookup y=some .free:=hy;rcases hy with hy|hy
  ·exact LG hy
  exact absurd rfl (S.nofree _ (PySem.mem_of_lookup hy))
 ·exact eE (x.above y c (PySem.mem_of_lookup h))
 ·have hi:i<vs.length:=by
   unfold B9 at h2;by_cases hi:i<vs.length
   ·exact hi
   rw[aQ (by simpa using hi)]at h2;rw[cM]at h2;split at h2<;>cases h2
  have ha:vs[i]?=some v:=by
   unfold B9 at h2;rw[aO (by simpa using hi),aJ]at h2;cases e:vs[i]? with
   |none=>rw[e]at h2;cases h2
   |some a=>rw[e]at h2;cases h2;rfl
  obtain⟨u,hu,rv⟩:=r.get ha;have hp:ps[i]?=some y:=by
   rw[←S.pre,List.getElem?_take_of_lt (by lia)];exact h1
  have ndP:ps.Nodup:=by rw[←S.pre];exact S.nd.sublist (dW _ _)
  refine⟨u,rv,?_⟩;rcases S.par y (aP hp) with k|k
  ·exact .inl ⟨k,IX ndP hp hu k⟩
  obtain⟨c,e⟩:=LG (n:=s.heap.objs.size+1) k;refine .inr ⟨.inl k,c,e,?_⟩;have q:=x.cell y c e;rw[IZ ndP hp hu (by show scope.names.lookup y≠_;rw[k];decide)]at q;exact q
 ·exact e0.hok.fresh (eE (x.above y c (PySem.mem_of_lookup h)))
 unfold B9;show _=N.length;rw[aV,aC,dB]
 lia
def j2{CX:WO}{P:Program}{w:World}{K:Fq}{mg:Mq}{base:Heap}{k:Nat}{f:Addr}{name qual:Str}{params:Arguments}{body:List Stmt}{scope:Scope}{dV kV doc pm cdv ct oc:Value}{an od:Option Addr}
 {osl:Array (Option Value)}{N ps:List Str}{sp:Sp}(lk:K.lookup f=some ⟨oc,od,.func (PySem.W.fnOf name qual params body scope dV kV doc pm an cdv ct),osl⟩)(hcd:PySem.W.codeIn K cdv qual=true)(S:Gy N ps scope)
 (len:∀vs H Q E,sp vs H Q E->vs.length=ps.length)
 (hbody:∀(A:Around) (outer:List Env) (s:Shared) (H:Hp) (vs:List V) (Q:VK) (E:XK),Bp k (A.deeper (envOfC qual scope s.heap.objs.size f cdv))->sp vs H Q E->
   ∃t,Ig (SQ CX P w K mg base N qual scope f cdv A outer s H E) body t/\t {nx:=λ_ H'=>Q .non H',rt:=Q} (B9 N vs) H) :
 DI P w K mg base CX (k+1) f (PySem.W.fnOf name qual params body scope dV kV doc pm an cdv ct) ps sp:=by
 refine⟨len,λA outer s H args us vs Q E hr e0 hb r hsp=>?_⟩;have hl:=len _ _ _ _ hsp;have KX:K.In s.heap:=e0.mod.kin.keeps λb o e=>(e0.bs b o e).1;have lim:s.heap.NoLimit:=e0.mod.nolimit.keeps λb o e=>(e0.bs b o e).1;have hkind:∀y∈ps.zip us,scope.names.lookup y.1=some .local\/(scope.names.lookup y.1=some .cell/\((cellsFrom (s.heap.objs.size+1) scope.names []).lookup y.1).isSome=true):=λ⟨n,v⟩ hy=>by
  rcases S.par n (eV hy).1 with q|q
  ·exact .inl q
  exact .inr ⟨q,PySem.W.cellsFrom_some _ _ _ (.inl q)⟩
 refine codeAny_call_function hr.depth (KX _ _ lk) rfl S.co S.gen rfl (PySem.W.codeRec_of KX hcd) (hb _ _ _ _ ?_);refine wpAny_newFunctionEnv_cells S.kind hkind λenv he s1 x=>?_;subst he;refine⟨lim.keeps x.toInCall.keep,codeAny_func ?_⟩;obtain⟨t,ht,hq⟩:=hbody A outer s H vs Q E (hr.deeper _) hsp;have I:Ag (SQ CX P w K mg base N qual scope f cdv A outer s H E) [] (B9 N vs) H s1:=Pv S hr.hd e0 hl r x;refine cI (ht [] s1 (B9 N vs) H _ I hq) (λfl s' hs=>?_) λe s' hs=>hs;have fin:∀{σ':St}{H':Hp}{v:V}{u:Value},Ag (SQ CX P w K mg base N qual scope f cdv A outer s H E) [] σ' H' s'->Au v u->Q v H'->CE outer P w H s Q u s':=
  λ{σ' H' v u} J rv q=>⟨v,H',J.os,J.bare,J.base,J.hok,rv,q⟩
 cases fl with
 |ret u=>
  obtain⟨v,σ',H',J,rv,q⟩:=hs;exact fin J rv q
 |next=>
  obtain⟨σ',H',J,q⟩:=hs;exact fin (v:=V.non) (u:=Value.none) J rfl q
 |brk=>
  obtain⟨_,_,_,q⟩:=hs;exact False.elim q
 |cont=>
  obtain⟨_,_,_,q⟩:=hs;exact False.elim q
end L2
namespace L2
open PySem PySem.Spec PyProof.Rows
section
variable {x:Str}{id T:String}
def nA(r:List V->Hp->VK->Prop)(t:TA):TE:=λσ H Q=>t σ H λvs H1=>r vs H1 Q
def D2(hc:Ba X (.builtin id) r)(hg:Gl X x)(hm:X.mg x=none)(hv:bootBuiltins x=some (.builtin id))(ha:PA X (e::es) t)(hn:x≠ "__name__":=by decide)(hdb:(x ==("__debug__" :Str))=false:=by decide)
 (he:starEach (e::es) X.env=(false,eval e X.env)::starEach es X.env:=by rfl)(hpl:(backTo pos (starEach es X.env)).any (·.1)=false:=by rfl):PE X (.Call (.Name x p) (e::es) [] pos) (nA r t):=by
 intro pins s σ H Q I h;refine cC (CY I hg hm hv ?_ hn hdb);exact gC (AV (ha pos pins s σ H _ I h) λus s1 ⟨vs,H1,I1,r1,q1⟩=>hc pins s1 σ H1 vs us Q I1 r1 q1) he hpl
def CA(hc:Ba X (.type T) r)(hg:Gl X x)(hm:X.mg x=none)(hv:bootBuiltins x=some (.type T))(ha:PA X (e::es) t)(hn:x≠ "__name__":=by decide)(hdb:(x ==("__debug__" :Str))=false:=by decide)
 (he:starEach (e::es) X.env=(false,eval e X.env)::starEach es X.env:=by rfl)(hpl:(backTo pos (starEach es X.env)).any (·.1)=false:=by rfl):PE X (.Call (.Name x p) (e::es) [] pos) (nA r t):=by
 intro pins s σ H Q I h;refine cC (CY I hg hm hv ?_ hn hdb);exact cL (AV (ha pos pins s σ H _ I h) λus s1 ⟨vs,H1,I1,r1,q1⟩=>hc pins s1 σ H1 vs us Q I1 r1 q1) he hpl
end
end L2
namespace HT
open PySem PyProof.Rows
section
open PySem.SeqAt
open PySem.AutoSeq1 (wpAny_loadPart')
open PySem.MeetsSeq PySem.MeetsSeq2 PySem.MeetsSeq3
end
section
def cat_tup(ht:IsTup s.heap t vs.toArray)(hb:IsTup s.heap b ws.toArray)(hv:vs≠[])
 (h1:ws=[]->Q (.ref t) s)(h2:ws≠[]->Q (.ref s.heap.objs.size) {s with heap:=s.heap.push {cls:=.type "tuple",data:=.seq (vs++ws).toArray}})
 (hsz:vs.length+ws.length<=sizeLine):wpAny (model prog w) A (binaryOp .Add (.ref t) (.ref b)) Q E s:=by
 obtain⟨⟨cls,dd,data,sl⟩,ho,hc,n,hd⟩:=id ht;obtain⟨⟨cls2,dd2,data2,sl2⟩,ho2,hc2,n2,hd2⟩:=id hb;simp only at hc hd hc2 hd2;subst hc hd hc2 hd2;have e:vs.toArray++ws.toArray=(vs++ws).toArray:=by simp
 by_cases hw:ws=[]
 ·exact concat_meets ⟨_,ho,rfl⟩ ⟨_,ho2,rfl⟩ iB seq_tuple_add PySem.F.slot_tuple_add PySem.F.entry_tuple_add (PySem.F.args_tuple_add_2 _ _)
   (tuple_addW1 t b vs.toArray ws.toArray n n2 dd dd2 sl sl2 (by simpa using hv) (by simp[hw])) ⟨ho,ho2,h1 hw⟩
 refine concat_meets ⟨_,ho,rfl⟩ ⟨_,ho2,rfl⟩ iB seq_tuple_add PySem.F.slot_tuple_add PySem.F.entry_tuple_add (PySem.F.args_tuple_add_2 _ _)
  (tuple_addW2 t b vs.toArray ws.toArray n n2 dd dd2 sl sl2 (by simpa using hv) (by simpa using hw) (by rw[List.size_toArray,List.size_toArray];exact hsz)) ⟨ho,ho2,?_⟩
 rw[e];exact h2 hw
noncomputable def sIx(n d:Nat):Option Int->Nat
 |none=>d
 |some v=>if v<0 then(v+(n:Int)).toNat else min v.toNat n
def XY(n d:Nat)(hd:d<=n)(o:Option Int):sIx n d o<=n:=by
 cases o with
 |none=>exact hd
 |some v=>
  show(if v<0 then(v+(n:Int)).toNat else min v.toNat n)<=n;by_cases hv:v<0
  ·rw[if_pos hv];lia
  rw[if_neg hv];exact Nat.min_le_right _ _
def Ou(v:Int)(n d:Nat):(if v<0 then max (v+(n:Int)) 0 else min v (n:Int))=((sIx n d (some v):Nat):Int):=by
 show(if v<0 then max (v+(n:Int)) 0 else min v (n:Int))=(((if v<0 then(v+(n:Int)).toNat else min v.toNat n):Nat):Int);by_cases hv:v<0
 ·simp only[if_pos hv];lia
 simp only[if_neg hv];lia
def Nn(lo hi:Option Int)(n:Nat):Builtin.Slice.sliceAdjust lo hi 1 (n:Int)=(((sIx n 0 lo:Nat):Int),((sIx n n hi:Nat):Int)):=by
 have h1:¬((1:Int)<0):=by lia
 unfold Builtin.Slice.sliceAdjust;simp only[h1,if_false];refine Prod.ext ?_ ?_
 ·cases lo with
  |none=>rfl
  |some v=>exact Ou v n 0
 cases hi with
 |none=>rfl
 |some v=>exact Ou v n n
def Mp(i j:Nat):Builtin.Slice.slicePlaces (i:Int) (j:Int) 1=j-i:=by
 unfold Builtin.Slice.slicePlaces;have h1:(1:Int)>0:=by lia
 simp only[h1,if_true,Int.ediv_one];split<;>lia
def GJ(p:IsPart v o)(h:Q o s):wpAny (model prog w) A (Builtin.Slice.slicePartIndex v) Q E s:=by
 cases p with
 |none=>exact slicePart_none h
 |int i t=>exact slicePart_int h
def Fk{lo hi:Option Int}{n:Nat}(hs:s.heap.IsSliceOf sl vl vu .none)(pl:IsPart vl lo)(pu:IsPart vu hi)
 (h:Q (((sIx n 0 lo:Nat):Int),1,sIx n n hi-sIx n 0 lo) s):wpAny (model prog w) A (Builtin.Slice.sliceApplied (.ref sl) (pure (n:Int))) Q E s:=by
 obtain⟨os,hos,hcs,hds⟩:=id hs;unfold Builtin.Slice.sliceApplied Builtin.Slice.sliceFields;refine a8 (a8 (cE hos hds (x:=vl) rfl (a8 (cE hos hds (x:=vu) rfl (a8 (cE hos hds (x:=.none) rfl (aF ?_)))))));refine a8 (slicePart_none ?_);show wpAny _ _ (if ((1:Int) ==0)=true then _ else _) _ _ s;rw[if_neg (by decide)];refine a8 (GJ pl (a8 (GJ pu (a8 (aF ?_)))));show wpAny _ _ (match Builtin.Slice.sliceAdjust lo hi 1 (n:Int) with|(lo,hi)=>pure (lo,(1:Int),Builtin.Slice.slicePlaces lo hi 1)) _ _ s;rw[Nn lo hi n];show wpAny _ _ (pure (((sIx n 0 lo:Nat):Int),(1:Int),Builtin.Slice.slicePlaces ((sIx n 0 lo:Nat):Int) ((sIx n n hi:Nat):Int) 1)) _ _ s;rw[Mp];exact aF h
def QR(xs:Array Value)(i k:Nat):((List.range k).filterMap λ(m:Nat)=>xs[((i:Int)+(m:Int)*1).toNat]?).toArray=((xs.toList.drop i).take k).toArray:=by
 have e:(λ(m:Nat)=>xs[((i:Int)+(m:Int)*1).toNat]?)=λm=>xs[i+m]?:=by
  funext m
  have:((i:Int)+(m:Int)*1).toNat=i+m:=by lia
  rw[this]
 rw[e];have:=pick_run xs i k;rw[List.filterMap_map]at this;have e2:((λx=>xs[x]?) ∘ λx=>i+x)=λm=>xs[i+m]?:=rfl;rw[e2]at this;rw[this]
def getItem_tuple_cut{lo hi:Option Int}(ht:IsTup s.heap t items)(hs:s.heap.IsSliceOf sl vl vu .none)(pl:IsPart vl lo)(pu:IsPart vu hi)
 (hw:¬(sIx items.size 0 lo=0/\sIx items.size items.size hi=items.size))
 (h:Q (.ref s.heap.objs.size) {s with heap:=s.heap.push {cls:=.type "tuple",data:=.seq ((items.toList.drop (sIx items.size 0 lo)).take (sIx items.size items.size hi-sIx items.size 0 lo)).toArray}})
 (hsz:items.size<=sizeLine):wpAny (model prog w) A (getItem (.ref t) (.ref sl)) Q E s:=by
 have htake:sizeOk (.seq ((items.toList.drop (sIx items.size 0 lo)).take (sIx items.size items.size hi-sIx items.size 0 lo)).toArray):=by
  show((items.toList.drop (sIx items.size 0 lo)).take (sIx items.size items.size hi-sIx items.size 0 lo)).toArray.size<=sizeLine;rw[aY,bD,eI,cA]
  lia
 have hj:sIx items.size items.size hi<=items.size:=XY _ _ (aI _) hi;obtain⟨os,hos,hcs,hds⟩:=id hs;have hTs:s.TypeIs (.ref sl) "slice":=⟨os,hos,hcs⟩;unfold getItem
 try with_reducible refine cW ?_
 first|refine a8 (aF ?_)|skip
 refine a8 (wpAny_sequenceKey ht.typeIs (by decide) ?_);refine a8 (cB (name:=Str.ofString "__getitem__") ht.typeIs gA
  (cU gA ht.typeIs entry_tuple_getitem ?_ (args_tuple_getitem _ _)))
 show wpAny _ _ (Builtin.Tuple.tupleItemsOf (.ref t) >>=_) _ _ s;refine a8 (tupleItemsOf_ ht ?_);refine a8 (wpAny_typeOf hTs ?_);rw[if_pos (by decide)];refine a8 (Fk hs pl pu ?_);have hno:¬((((sIx items.size 0 lo:Nat):Int) ==0&&(1:Int) ==1&&(sIx items.size items.size hi-sIx items.size 0 lo) ==items.size)=true):=by
  intro q;rw[cO,cO]at q;have q1:((sIx items.size 0 lo:Nat):Int)=0:=eq_of_beq q.1.1;have q2:sIx items.size items.size hi-sIx items.size 0 lo=items.size:=eq_of_beq q.2;exact hw ⟨by lia,by lia⟩
 show wpAny _ _ (if (((sIx items.size 0 lo:Nat):Int) ==0&&(1:Int) ==1&&(sIx items.size items.size hi-sIx items.size 0 lo) ==items.size)=true then _ else _) _ _ s;rw[if_neg hno,QR]
 first
  |exact a8 (m:=Builtin.Tuple.tupleExact _) (cJ (aF ⟨_,rfl,aF h⟩) htake)
  |exact a8 (m:=Builtin.Tuple.tupleExact _) (cJ (a8 (aF (aF ⟨_,rfl,aF h⟩))) htake)
  |exact a8 (a8 (m:=Builtin.Tuple.tupleExact _) (cJ (aF (aF ⟨_,rfl,aF h⟩)) htake))
  |exact a8 (a8 (m:=Builtin.Tuple.tupleExact _) (cJ (aF ⟨_,rfl,aF h⟩) htake))
end
end HT
namespace L2
open PySem PySem.Spec PyProof.Rows
abbrev TO:=St->Hp->(Option Int->Hp->Prop)->Prop
def PO(X:Cx)(e:Option Expr)(t:TO):Prop:=
 ∀(pins:List (Addr×Obj)) (s:Shared) (σ:St) (H:Hp) (Q:Option Int->Hp->Prop),Ag X pins σ H s->t σ H Q->
  wpAny (model X.prog X.w) X.A (evalPart e X.env) (λu s'=>∃o H',Ag X pins σ H' s'/\IsPart u o/\Q o H') X.xe s
def TY:TO:=λ_ H Q=>Q none H
def bv(t:TE):TO:=λσ H Q=>t σ H λx H1=>∃i,x=.int i/\Q (some i) H1
def Hl:∀{us:List Value},Ap (ns.map V.int) us->IntsAre us ns:=by
 induction ns with
 |nil=>intro us r;rw[iC]at r;cases r;exact .nil
 |cons n ns ih=>
  intro us r;rw[aK]at r;cases r with
  |cons r1 r2=>
   obtain⟨t,e⟩:=r1;subst e;exact .cons n t (ih r2)
section
variable {X:Cx}{e:Expr}{te:TE}{lo hi:Option Expr}{tl th:TO}{pos p2:Pos}
def U6:PO X none TY:=by
 intro pins s σ H Q I h;rw[evalPart_none];exact aF ⟨none,H,I,.none,h⟩
def U5(h:PE X e te):PO X (some e) (bv te):=by
 intro pins s σ H Q I hw;rw[evalPart_some];refine AV (h pins s σ H _ I hw) λu s1 ⟨x,H1,I1,r1,q1⟩=>?_;obtain⟨i,rfl,q⟩:=q1;obtain⟨t,rfl⟩:=r1;exact⟨some i,H1,I1,.int i t,q⟩
def ke(X:Cx)(r:V->Option Int->Option Int->Hp->VK->Prop):Prop:=
 ∀(pins:List (Addr×Obj)) (s:Shared) (σ:St) (H:Hp) (x:V) (v vl vu:Value) (lo hi:Option Int) (sl:Addr) (Q:VK),Ag X pins σ H s->Au x v->s.heap.IsSliceOf sl vl vu .none->IsPart vl lo->IsPart vu hi->r x lo hi H Q->
  ∃T id,typeLookup (.type T) "__getitem__"=pure (some (.builtin id))/\s.TypeIs v T/\wpAny (model X.prog X.w) X.A (getItem v (.ref sl)) (EP X pins σ Q) X.xe s
def su(r:V->Option Int->Option Int->Hp->VK->Prop)(te:TE)(tl th:TO):TE:=λσ H Q=>te σ H λx H1=>tl σ H1 λl H2=>th σ H2 λu H3=>r x l u H3 Q
def R0(hr:ke X r)(he:PE X e te)(hl:PO X lo tl)(hu:PO X hi th):PE X (.Subscript e (.Slice lo hi none p2) pos) (su r te tl th):=by
 intro pins s σ H Q I h;refine Subscript_ (AV (he pins s σ H _ I h) λv s1 ⟨x,H1,I1,r1,q1⟩=>?_);refine wpAny_Slice (AV (hl pins s1 σ H1 _ I1 q1) λvl s2 ⟨l,H2,I2,pl,q2⟩=>AV (hu pins s2 σ H2 _ I2 q2) λvu s3 ⟨u,H3,I3,pu,q3⟩=>?_);rw[evalPart_none];refine aF ?_;have I4:Ag X pins σ H3 {s3 with heap:=s3.heap.push {cls:=.type "slice",data:=.fields #[vl,vu,.none]}}:=I3.kept (t':=s3.toks) λb ob q=>aD _ q;obtain⟨T,id,hT,ht,hg⟩:=hr pins {s3 with heap:=s3.heap.push {cls:=.type "slice",data:=.fields #[vl,vu,.none]}} σ H3 x v vl vu l u s3.heap.objs.size Q I4 r1 (Heap.IsSliceOf.new ..) pl pu q3;show wpAny (model X.prog X.w) X.A (subscriptTail e (.Slice lo hi none p2) v (.ref s3.heap.objs.size)) (EP X pins σ Q) X.xe {s3 with heap:=s3.heap.push {cls:=.type "slice",data:=.fields #[vl,vu,.none]}};exact tail_any (ops:=[.ref s3.heap.objs.size,v]) ht hT hg (by with_unfolding_all rfl)
noncomputable def L8(xs:List V)(lo hi:Option Int):List V:=(xs.drop (HT.sIx xs.length 0 lo)).take (HT.sIx xs.length xs.length hi-HT.sIx xs.length 0 lo)
def FT(xs:List V)(lo hi:Option Int):(L8 xs lo hi).length<=xs.length:=by
 unfold L8;rw[bD,eI]
 lia
def nM(K:PySem.W.Frag):V->Option Int->Option Int->Hp->VK->Prop:=λx lo hi H Q=>∃a xs,x=.ref a/\Eg K H a xs/\
 ¬(HT.sIx xs.length 0 lo=0/\HT.sIx xs.length xs.length hi=xs.length)/\∀p,H p=none->Q (.ref p) (upd H p (.tup (L8 xs lo hi)))
def Xu:ke X (nM X.K):=by
 intro pins s σ H x v vl vu lo hi sl Q I rx hs pl pu h;obtain⟨a,xs,rfl,hx,hw,q⟩:=h;cases rx;obtain⟨its,r,ht,hz⟩:=I.tuple hx;have hlen:its.toArray.size=xs.length:=by rw[aY];exact r.length.symm
 refine⟨"tuple",_,PyProof.Rows.slot_tuple_getitem.lookup,ht.typeIs,?_⟩;refine HT.getItem_tuple_cut ht hs pl pu (by rw[hlen];exact hw) ?_ (by rw[hlen];exact hz);rw[hlen];refine⟨.ref s.heap.objs.size,_,I.laid (t':=s.toks) (o:=.tup (L8 xs lo hi)) (λb ob q=>aD _ q) (aI _) ?_,rfl,q _ (I.hok.fresh (aI _))⟩;exact⟨b9 (FT xs lo hi) hz,_,(r.drop (HT.sIx xs.length 0 lo)).take (HT.sIx xs.length xs.length hi-HT.sIx xs.length 0 lo),IsTup.new _ _⟩
def gm(K:PySem.W.Frag):R2:=λx y H Q=>E4 λa b xs ys=>A8 (x=.ref a) (y=.ref b) (Eg K H a xs) (Eg K H b ys) (xs≠[]) (xs.length+ys.length<=sizeLine) (ys=[]->Q (.ref a) H) (ys≠[]->∀p,H p=none->Q (.ref p) (upd H p (.tup (xs++ys))))
def Ap.nil_iff(r:Ap xs us):us=[] ↔ xs=[]:=by
 cases r with
 |nil=>simp
 |cons _ _=>simp
def NH:BH X (binaryOp .Add) (gm X.K):=by
 intro pins s σ H x y v u Q I rx ry h;obtain⟨a,b,xs,ys,rfl,rfl,ha,hb,hx,hz,q1,q2⟩:=h;cases rx;cases ry;obtain⟨its,r1,p1,_⟩:=I.tuple ha;obtain⟨its2,r2,p2,_⟩:=I.tuple hb;refine HT.cat_tup p1 p2 (λz=>hx (r1.nil_iff.mp z)) (λz=>⟨.ref a,H,I,rfl,q1 (r2.nil_iff.mp z)⟩) (λz=>?_) (by rw[←r1.length,←r2.length];exact hz);refine⟨.ref s.heap.objs.size,_,I.laid (t':=s.toks) (o:=.tup (xs++ys)) (λb ob q=>aD _ q) (aI _) ?_,rfl,q2 (λw=>z (r2.nil_iff.mpr w)) _ (I.hok.fresh (aI _))⟩;exact⟨by rw[aV];exact hz,_,r1.append r2,IsTup.new _ _⟩
end
end L2
namespace L2
open PySem PySem.Spec PyProof.Rows
noncomputable def NY(n:Nat)(i:Int):Option Nat:=if 0<=i then(if i<n then some i.toNat else none) else if -(n:Int)<=i then some (i+n).toNat else none
noncomputable def B4{α:Type}(xs:List α)(i:Int):Option α:=(NY xs.length i).bind λj=>xs[j]?
def NX{n:Nat}{i:Int}{j:Nat}(h:NY n i=some j):seqIndex? i n=some j/\j<n/\-(n:Int)<=i/\i<n:=by
 unfold NY at h;by_cases h0:0<=i
 ·rw[if_pos h0]at h;by_cases h1:i<n
  ·rw[if_pos h1]at h;have e:=bJ h;exact⟨by rw[seqIndex_of h0 h1,e],by lia,by lia,h1⟩
  rw[if_neg h1]at h;cases h
 rw[if_neg h0]at h;by_cases h1: -(n:Int)<=i
 ·rw[if_pos h1]at h;have e:=bJ h;exact⟨by rw[seqIndex_neg (by lia) h1,e],by lia,h1,by lia⟩
 rw[if_neg h1]at h;cases h
def JZ{α:Type}{xs:List α}{i:Int}{v:α}(h:B4 xs i=some v):∃j,seqIndex? i xs.length=some j/\xs[j]?=some v/\j<xs.length/\-(xs.length:Int)<=i/\i<xs.length:=by
 unfold B4 at h;cases e:NY xs.length i with
 |none=>rw[e]at h;cases h
 |some j=>
  rw[e]at h;obtain⟨h1,h2,h3,h4⟩:=NX e;exact⟨j,h1,h,h2,h3,h4⟩
def Kc(b:Expr):Prop:=∀o i,subscripted b false o i=operate [o,i] (getItem o i)
def km(X:Cx)(r:R2):Prop:=
 ∀(value slice:Expr) (pins:List (Addr×Obj)) (s:Shared) (σ:St) (H:Hp) (x y:V) (v u:Value) (Q:VK),Ag X pins σ H s->Au x v->Au y u->r x y H Q->
  subscripted slice false v u=operate [v,u] (getItem v u)->wpAny (model X.prog X.w) X.A (subscriptTail value slice v u) (EP X pins σ Q) X.xe s
def ag(X:Cx)(id:String)(r:V->List V->Hp->VK->Prop):Prop:=
 ∀(pins:List (Addr×Obj)) (s:Shared) (σ:St) (H:Hp) (x:V) (xs:List V) (v:Value) (us:List Value) (Q:VK),Ag X pins σ H s->Au x v->Ap xs us->r x xs H Q->
  wpAny (model X.prog X.w) X.A (call (.builtin id) (v::us)) (EP X pins σ Q) X.xe s
section
def ia{r:R2}(hr:km X r)(ha:PE X a ta)(hb:PE X b tb)(hs:Kc b):PE X (.Subscript a b pos) (bw r ta tb):=by
 intro pins s σ H Q I h;exact Subscript_ (Z7 ha hb I h λv u s2 x y H2 I2 rx ry q=>hr a b pins s2 σ H2 x y v u Q I2 rx ry q (hs _ _))
def nV(K:PySem.W.Frag):R2:=λx y H Q=>E4 λp xs i v=>A5 (x=.ref p) (y=.int i) (Dp K H p xs) (B4 xs i=some v) (Q v H)
def nT(K:PySem.W.Frag):R2:=λx y H Q=>E4 λp xs i v=>A5 (x=.ref p) (y=.int i) (Eg K H p xs) (B4 xs i=some v) (Q v H)
def nU:R2:=λx y H Q=>E3 λz i c=>A5 (x=.str z) (y=.int i) (z.length<=sizeLine) (B4 z.cps.toList i=some c) (Q (.str ⟨#[c]⟩) H)
def NW:km X (nV X.K):=by
 intro value slice pins s σ H x y v u Q I rx ry h hs;obtain⟨p,xs,i,z,rfl,rfl,hq,he,q⟩:=h;cases rx;obtain⟨t,rfl⟩:=ry;obtain⟨its,r,pl,hz⟩:=I.list hq;obtain⟨j,h1,h2,h3,h4,h5⟩:=JZ he;obtain⟨w,ew,rw'⟩:=r.get h2;have hl:=r.length;have hn:=Eu;have fin:EP X pins σ Q w s:=⟨z,H,I,rw',q⟩;by_cases h0:0<=i
 ·have hj:i.toNat=j:=by
   rw[seqIndex_of h0 h5]at h1;exact bJ h1
  exact item_listR pl.isList h0 (by lia) (by rw[hj];simpa using ew) fin hs
 have hj:(i+(its.toArray.size:Int)).toNat=j:=by
  rw[seqIndex_neg (by lia) h4]at h1;rw[aY,←hl];exact bJ h1
 exact subscriptTail_builtinR (x:=w) pl.isList.typeIs slot_list_getitem.lookup
  (wpAny_getItem_list_neg (Q:=λr s'=>r=w/\EP X pins σ Q r s') pl.isList (by lia) (by rw[aY]<;>lia) (by lia) (by rw[hj];simpa using ew) ⟨rfl,fin⟩) hs
def YT:km X (nT X.K):=by
 intro value slice pins s σ H x y v u Q I rx ry h hs;obtain⟨p,xs,i,z,rfl,rfl,hq,he,q⟩:=h;cases rx;obtain⟨t,rfl⟩:=ry;obtain⟨its,r,pl,hz⟩:=I.tuple hq;obtain⟨j,h1,h2,h3,h4,h5⟩:=JZ he;obtain⟨w,ew,rw'⟩:=r.get h2;have hl:=r.length;have hn:=Eu;have fin:EP X pins σ Q w s:=⟨z,H,I,rw',q⟩;exact subscriptTail_builtinR (x:=w) pl.typeIs slot_tuple_getitem.lookup
  (getItem_tuple (j:=j) (Q:=λr s'=>r=w/\EP X pins σ Q r s') pl (by lia) (by lia) (by rw[aY,←hl];exact h1) (by simpa using ew) ⟨rfl,fin⟩) hs
def YU:km X nU:=by
 intro value slice pins s σ H x y v u Q I rx ry h hs;obtain⟨z,i,c,rfl,rfl,hz,he,q⟩:=h;obtain⟨t,rfl⟩:=rx;obtain⟨t',rfl⟩:=ry;obtain⟨j,h1,h2,h3,h4,h5⟩:=JZ he;have hl:z.cps.toList.length=z.length:=by simp[Str.length]
 rw[hl]at h1 h4 h5;have hn:=Eu;exact tail_any (typeIs_str s z t) slot_str_getitem.lookup (getItem_str (c:=c) (by
  have e1:decide (i< -(2^63:Int))=false:=bI (by lia);have e2:decide (i ≥ 2^63)=false:=bI (by lia);rw[e1,e2,Bool.or_false]) (by rw[h1];simpa using h2) ⟨.str ⟨#[c]⟩,H,I.tok _,⟨_,rfl⟩,q⟩) hs
def M0(its:List Value)(n j:Nat)(u:Value):Obj.mapSeq (·.setIfInBounds j u) {cls:=.type "list",data:=.seq its.toArray n}={cls:=.type "list",data:=.seq (its.set j u).toArray n}:=by
 simp[Obj.mapSeq]
theorem Ag.lst{pins:Pq}{σ:St}{H:Hp}{s:Shared}{p:Addr}{xs:List V}(I:Ag X pins σ H s)(h:H p=some (.lst xs)) :
 ∃its n,Ap xs its/\s.heap.get? p=some {cls:=.type "list",data:=.seq its.toArray n}/\xs.length<=sizeLine:=by
 obtain⟨z,its,n,r,e⟩:=I.hok p _ h;exact⟨its,n,r,e,z⟩
def Ag.lstUpd{s:Shared}{xs ys:List V}{its its':List Value}{n n':Nat}(I:Ag X pins σ H s)(h:H p=some (.lst xs))
 (ho:s.heap.get? p=some {cls:=.type "list",data:=.seq its.toArray n})(hf:f {cls:=.type "list",data:=.seq its.toArray n}={cls:=.type "list",data:=.seq its'.toArray n'})(r:Ap ys its')(hz:ys.length<=sizeLine)(t:Nat) :
 Ag X pins σ (upd H p (.lst ys)) {s with heap:=s.heap.update p f,toks:=t}:=by
 have e:(s.heap.update p f).get? p=some {cls:=.type "list",data:=.seq its'.toArray n'}:=by
  rw[fA f ho (by rw[hf]<;>rfl),hf]
 refine I.write (x:=p) (e:=p) (by rw[h];trivial) (.inl rfl) (λb u hb q=>(fW _ _ (bM hb)).trans q) ⟨_,e⟩ ?_;exact⟨hz,its',n',r,e⟩
def gj:V->V->V->Hp->(Hp->Prop)->Prop:=λo i v H Q=>E4 λp xs k j=>A5 (o=.ref p) (i=.int k) (H p=some (.lst xs)) (NY xs.length k=some j) (Q (upd H p (.lst (xs.set j v))))
def QC:kg X gj:=by
 intro pins s σ H o i v ov iv u Q I ro ri rv h;obtain⟨p,xs,k,j,rfl,rfl,hp,hj,q⟩:=h;cases ro;obtain⟨t,rfl⟩:=ri;obtain⟨its,n,r,ho,hz⟩:=I.lst hp;obtain⟨h1,h2,h3,h4⟩:=NX hj;have hl:=r.length;have hn:=Eu;have I':Ag X pins σ (upd H p (.lst (xs.set j v))) {s with heap:=s.heap.update p (Obj.mapSeq (·.setIfInBounds j u))}:=
  I.lstUpd hp ho (M0 its n j u) (r.set rv j) (by rw[List.length_set];exact hz) s.toks
 by_cases h0:0<=k
 ·have hk:k.toNat=j:=by
   rw[seqIndex_of h0 h4]at h1;exact bJ h1
  exact PySem.W.ki_setAt ho h0 (by lia) (by rw[aY,←hl];exact h4) (by rw[hk];exact⟨_,I',q⟩)
 have hk:(k+(its.toArray.size:Int)).toNat=j:=by
  rw[seqIndex_neg (by lia) h3]at h1;rw[aY,←hl];exact bJ h1
 exact PySem.W.ki_setBack ho (by lia) (by rw[aY,←hl];exact h3) (by lia) (by rw[hk];exact⟨_,I',q⟩)
def Jm(lo hi:Option Int)(n:Nat):(sliceBounds lo hi none n).1=((HT.sIx n 0 lo:Nat):Int)/\(sliceBounds lo hi none n).2.1=((HT.sIx n n hi:Nat):Int)/\(sliceBounds lo hi none n).2.2=1:=by
 refine⟨?_,?_,rfl⟩
 ·cases lo with
  |none=>simp[sliceBounds,HT.sIx]
  |some i=>
   simp only[sliceBounds,HT.sIx,Option.getD_none,show(1:Int)>0 by decide,if_true];by_cases h:i<0
   ·simp only[h,if_true]<;>lia
   simp only[h,if_false]<;>lia
 cases hi with
 |none=>simp[sliceBounds,HT.sIx]
 |some i=>
  simp only[sliceBounds,HT.sIx,Option.getD_none,show(1:Int)>0 by decide,if_true];by_cases h:i<0
  ·simp only[h,if_true]<;>lia
  simp only[h,if_false]<;>lia
def HI(its:List Value)(lo hi:Option Int):slicePick its.toArray lo hi none=((its.drop (HT.sIx its.length 0 lo)).take (HT.sIx its.length its.length hi-HT.sIx its.length 0 lo)).toArray:=by
 obtain⟨h1,h2,h3⟩:=Jm lo hi its.toArray.size;unfold slicePick;rw[h1,h2,h3];simp only[sliceRange_one,pick_run,List.size_toArray]<;>rfl
def nO(K:PySem.W.Frag):V->Option Int->Option Int->Hp->VK->Prop:=λx lo hi H Q=>∃a xs,x=.ref a/\Dp K H a xs/\∀p,H p=none->Q (.ref p) (upd H p (.lst (L8 xs lo hi)))
def N9:ke X (nO X.K):=by
 intro pins s σ H x v vl vu lo hi sl Q I rx hs pl pu h;obtain⟨a,xs,rfl,hx,q⟩:=h;cases rx;obtain⟨its,r,ht,hz⟩:=I.list hx;have hlen:=r.length;refine⟨"list",_,slot_list_getitem.lookup,ht.isList.typeIs,?_⟩;refine wpAny_getItem_list_slice ht.isList hs pl pu .none (by simp) ?_ (by rw[List.size_toArray]<;>lia);rw[HI,←hlen];refine⟨.ref s.heap.objs.size,_,I.laid (t':=s.toks) (o:=.lst (L8 xs lo hi)) (λb ob q=>aD _ q) (aI _) ?_,rfl,q _ (I.hok.fresh (aI _))⟩;exact⟨b9 (FT xs lo hi) hz,_,0,(r.drop (HT.sIx xs.length 0 lo)).take (HT.sIx xs.length xs.length hi-HT.sIx xs.length 0 lo),aL _ rfl⟩
noncomputable def Di:V->Bool
 |.non=>true
 |.bl _=>true
 |.int _=>true
 |.str _=>true
 |_=>false
noncomputable def V5:V->V->Bool
 |.non,.non=>true
 |.bl a,.bl b=>a ==b
 |.bl a,.int b=>(if a then 1 else 0) ==b
 |.int a,.bl b=>a ==(if b then 1 else 0)
 |.int a,.int b=>a ==b
 |.str a,.str b=>a ==b
 |_,_=>false
def Zs(ry:Au y u)(rx:Au x v)(fy:Di y=true)(fx:Di x=true):SeqAt.EqAt A s u v (V5 y x):=by
 cases y with
 |non=>
  cases ry;cases x with
  |non=>cases rx;exact SeqAt.EqAt.same _
  |bl b=>cases rx;exact SeqAt.EqAt.none_bool b
  |int b=>obtain⟨t,rfl⟩:=rx;exact SeqAt.EqAt.none_int b t
  |str b=>obtain⟨t,rfl⟩:=rx;exact SeqAt.EqAt.none_str b t
  |_=>exact absurd (show false=true from fx) aB
 |bl a=>
  cases ry;cases x with
  |non=>cases rx;exact SeqAt.EqAt.bool_none a
  |bl b=>cases rx;exact SeqAt.EqAt.bool_bool a b
  |int b=>obtain⟨t,rfl⟩:=rx;exact SeqAt.EqAt.bool_int a b t
  |str b=>obtain⟨t,rfl⟩:=rx;exact SeqAt.EqAt.bool_str a b t
  |_=>exact absurd (show false=true from fx) aB
 |int a=>
  obtain⟨t',rfl⟩:=ry;cases x with
  |non=>cases rx;exact SeqAt.EqAt.int_none a t'
  |bl b=>cases rx;exact SeqAt.EqAt.int_bool a t' b
  |int b=>obtain⟨t,rfl⟩:=rx;exact SeqAt.EqAt.int_int a t' b t
  |str b=>obtain⟨t,rfl⟩:=rx;exact SeqAt.EqAt.int_str a t' b t
  |_=>exact absurd (show false=true from fx) aB
 |str a=>
  obtain⟨t',rfl⟩:=ry;cases x with
  |non=>cases rx;exact SeqAt.EqAt.str_none a t'
  |bl b=>cases rx;exact SeqAt.EqAt.str_bool a t' b
  |int b=>obtain⟨t,rfl⟩:=rx;exact SeqAt.EqAt.str_int a t' b t
  |str b=>obtain⟨t,rfl⟩:=rx;exact SeqAt.EqAt.str_str a t' b t
  |_=>exact absurd (show false=true from fx) aB
 |_=>exact absurd (show false=true from fy) aB
noncomputable def L3(x:V)(u:Value):Bool:=match u with
 |.none=>V5 .non x
 |.bool b=>V5 (.bl b) x
 |.int i _=>V5 (.int i) x
 |.str z _=>V5 (.str z) x
 |_=>false
def MU(r:Au y u)(f:Di y=true):L3 x u=V5 y x:=by
 cases y with
 |non=>cases r;rfl
 |bl b=>cases r;rfl
 |int i=>obtain⟨t,rfl⟩:=r;rfl
 |str z=>obtain⟨t,rfl⟩:=r;rfl
 |_=>exact absurd (show false=true from f) aB
theorem Fb:∀{xs:List V}{us:List Value},Ap xs us->xs.all Di=true->us.any (L3 x)=xs.any λy=>V5 y x
 |_,_,.nil,_=>rfl
 |y::xs,u::us,.cons r t,f=>by
  rw[List.all_cons,cO]at f;rw[cX,cX,MU r f.1,Fb t f.2]
theorem CC(rx:Au x v)(fx:Di x=true):∀{xs:List V}{us:List Value},Ap xs us->xs.all Di=true->∀u∈us,SeqAt.EqAt A s u v (L3 x u)
 |_,_,.nil,_=>λu hu=>by cases hu
 |y::xs,u::us,.cons r t,f=>λu' hu=>by
  rw[List.all_cons,cO]at f;rcases aU.mp hu with rfl|hu
  ·rw[MU r f.1];exact Zs r rx f.1 fx
  exact CC rx fx t f.2 u' hu
noncomputable def lD(x:V)(xs:List V):Bool:=xs.any λy=>V5 y x
def qC(K:PySem.W.Frag)(neg:Bool):R2:=λx y H Q=>E2 λp xs=>A5 (y=.ref p) (Dp K H p xs\/Eg K H p xs) (Di x=true) (xs.all Di=true) (Q (.bl (if neg then !lD x xs else lD x xs)) H)
def Pe:BH X (compareOp .In) (qC X.K false):=by
 intro pins s σ H x y v u Q I rx ry h;obtain⟨p,xs,rfl,hq,fx,fs,q⟩:=h;cases ry;rcases hq with hq|hq
 ·obtain⟨its,r,pl,hz⟩:=I.list hq;refine SeqAt.in_listAt (L3 x) pl.isList (λw hw=>CC rx fx r fs w (by simpa using hw)) ⟨.bl _,H,I,rfl,?_⟩;rw[show its.toArray.any (L3 x)=its.any (L3 x) by simp,Fb r fs];exact q
 obtain⟨its,r,pl,hz⟩:=I.tuple hq;refine SeqAt.in_tupleAt (L3 x) pl (λw hw=>CC rx fx r fs w (by simpa using hw)) ⟨.bl _,H,I,rfl,?_⟩;rw[show its.toArray.any (L3 x)=its.any (L3 x) by simp,Fb r fs];exact q
def Jx:BH X (compareOp .NotIn) (qC X.K true):=by
 intro pins s σ H x y v u Q I rx ry h;obtain⟨p,xs,rfl,hq,fx,fs,q⟩:=h;cases ry;rcases hq with hq|hq
 ·obtain⟨its,r,pl,hz⟩:=I.list hq;refine SeqAt.notIn_listAt (L3 x) pl.isList (λw hw=>CC rx fx r fs w (by simpa using hw)) ⟨.bl _,H,I,rfl,?_⟩;rw[show its.toArray.any (L3 x)=its.any (L3 x) by simp,Fb r fs];exact q
 obtain⟨its,r,pl,hz⟩:=I.tuple hq;refine SeqAt.notIn_tupleAt (L3 x) pl (λw hw=>CC rx fx r fs w (by simpa using hw)) ⟨.bl _,H,I,rfl,?_⟩;rw[show its.toArray.any (L3 x)=its.any (L3 x) by simp,Fb r fs];exact q
def Jw:BH X (compareOp .NotIn) (λx y H Q=>∃i j,x=.str i/\y=.str j/\Q (.bl (!(!(Builtin.Str.occurrences j i 0 j.length 1).isEmpty))) H):=by
 intro pins s σ H x y v u Q I rx ry h;obtain⟨i,j,rfl,rfl,q⟩:=h;obtain⟨t,rfl⟩:=rx;obtain⟨t',rfl⟩:=ry;exact notIn_str ⟨.bl _,H,I,rfl,q⟩
def Dd:Ba X (.builtin "len") (λxs H Q=>∃p ys,xs=[.ref p]/\(Dp X.K H p ys\/Eg X.K H p ys)/\Q (.int ys.length) H):=by
 intro pins s σ H xs us Q I r h;obtain⟨p,ys,rfl,hq,q⟩:=h;obtain⟨u,rfl,rx⟩:=BR r;cases rx;have hn:=Eu;rcases hq with hq|hq
 ·obtain⟨its,r',pl,hz⟩:=I.list hq;have hlen:=r'.length;exact Calls.call_len_list pl.isList (by simp only[List.size_toArray]<;>lia) ⟨.int ys.length,H,I.tok _,⟨s.toks+1,by rw[aY,hlen]⟩,q⟩
 obtain⟨its,r',pl,hz⟩:=I.tuple hq;have hlen:=r'.length;exact len_tuple pl (by simp only[List.size_toArray]<;>lia) ⟨.int ys.length,H,I.tok _,⟨s.toks+1,by rw[aY,hlen]⟩,q⟩
def JT:Ba X (.builtin "len") (λxs H Q=>∃z,xs=[.str z]/\z.length<=sizeLine/\Q (.int z.length) H):=by
 intro pins s σ H xs us Q I r h;obtain⟨z,rfl,hz,q⟩:=h;obtain⟨u,rfl,t,rfl⟩:=BR r;have hn:=Eu;exact len_str (by lia) ⟨.int z.length,H,I.tok _,⟨_,rfl⟩,q⟩
def EZ:Ba X (.type "list") (λxs H Q=>∃p ys,xs=[.ref p]/\(Dp X.K H p ys\/Eg X.K H p ys)/\∀l,H l=none->Q (.ref l) (upd H l (.lst ys))):=by
 intro pins s σ H xs us Q I r h;obtain⟨p,ys,rfl,hq,q⟩:=h;obtain⟨u,rfl,rx⟩:=BR r;cases rx;have fin:∀its,Ap ys its->ys.length<=sizeLine->∀h' c',(∀b o',s.heap.get? b=some o'->h'.get? b=some o')->
  h'.get? s.heap.objs.size=some {cls:=.type "list",dict:=none,data:=.seq its.toArray c',slots:=#[]}->EP X pins σ Q (.ref s.heap.objs.size) {s with heap:=h'}:=λits r' hz h' c' kp e=>
  ⟨.ref s.heap.objs.size,_,I.laid (t':=s.toks) kp (aI _) (show AE X.prog X.w _ h' _ (.lst ys) from⟨hz,its,c',r',e⟩),rfl,q _ (I.hok.fresh (aI _))⟩
 rcases hq with hq|hq
 ·obtain⟨its,r',pl,hz⟩:=I.list hq;have hlen:=r'.length;obtain⟨o,ho,hc,n,hd⟩:=pl.isList;exact call_list_seq p (.inl rfl) ho hc hd (λh' c' kp e=>fin its r' hz h' c' kp e) (by simp only[List.size_toArray]<;>lia)
 obtain⟨its,r',pl,hz⟩:=I.tuple hq;have hlen:=r'.length;obtain⟨o,ho,hc,n,hd⟩:=pl;exact call_list_seq p (.inr rfl) ho hc hd (λh' c' kp e=>fin its r' hz h' c' kp e) (by simp only[List.size_toArray]<;>lia)
def Ee:Ba X (.type "tuple") (λxs H Q=>∃p ys,xs=[.ref p]/\((Dp X.K H p ys/\∀l,H l=none->Q (.ref l) (upd H l (.tup ys)))\/(Eg X.K H p ys/\Q (.ref p) H))):=by
 intro pins s σ H xs us Q I r h;obtain⟨p,ys,rfl,h⟩:=h;obtain⟨u,rfl,rx⟩:=BR r;cases rx;rcases h with⟨hq,q⟩|⟨hq,q⟩
 ·obtain⟨its,r',pl,hz⟩:=I.list hq;have hlen:=r'.length;refine call_tuple_list pl.isList (λh' kp=>?_) (by simp only[List.size_toArray]<;>lia);have I1:=I.kept (t':=s.toks) kp;have I2:Ag X pins σ (upd H h'.objs.size (.tup ys)) {s with heap:=h'.push {cls:=.type "tuple",data:=.seq its.toArray}}:=
   I1.laid (t':=s.toks) (λb o e=>aD _ e) (aI _) (show AE X.prog X.w _ _ _ (.tup ys) from⟨hz,its,r',IsTup.new _ _⟩)
  exact⟨.ref h'.objs.size,_,I2,rfl,q _ (I1.hok.fresh (aI _))⟩
 obtain⟨its,r',pl,hz⟩:=I.tuple hq;exact call_tuple_same pl ⟨.ref p,H,I,rfl,q⟩
def sq(K:PySem.W.Frag)(T:String)(x:V)(H:Hp):Prop:=match x with
 |.str _=>T= "str"
 |.int _=>T= "int"
 |.ref p=>(T= "list"/\∃xs,Dp K H p xs)\/(T= "tuple"/\∃o,K.lookup p=some o/\o.cls=.type "tuple"/\o.dict=none)\/
  (T= "dict"/\((∃kvs,H p=some (.dK kvs))\/∃kvs,H p=some (.dT kvs)))\/(T= "set"/\∃S n,H p=some (.set S n))
 |_=>False
def G9{T:String}(I:Ag X pins σ H s)(r:Au x v)(ty:sq X.K T x H) :
 s.TypeIs v T/\∀a,v=.ref a->∃ob,s.heap.get? a=some ob/\ob.dict=none:=by
 cases x with
 |str z=>
  obtain⟨t,rfl⟩:=r;cases (show T= "str" from ty);exact⟨typeIs_str s z t,λ_ e=>nomatch e⟩
 |int i=>
  obtain⟨t,rfl⟩:=r;cases (show T= "int" from ty);exact⟨typeIs_int s i t,λ_ e=>nomatch e⟩
 |ref p=>
  cases r;rcases ty with⟨rfl,xs,hq⟩|⟨rfl,o,hk,hc,hd⟩|⟨rfl,hk⟩|⟨rfl,S,n,hk⟩
  ·obtain⟨its,_,pl,_⟩:=I.list hq;refine⟨pl.isList.typeIs,λa e=>?_⟩;cases e;obtain⟨o,n,e,c,hd,_⟩:=pl;exact⟨o,e,hd⟩
  ·refine⟨⟨o,I.kIn p o hk,hc⟩,λa e=>?_⟩;cases e;exact⟨o,I.kIn _ o hk,hd⟩
  ·have z:∃o,s.heap.get? p=some o/\o.ExactDict:=by
    rcases hk with⟨kvs,hk⟩|⟨kvs,hk⟩
    ·obtain⟨_,_,_,_,o,_,_,e,ex,_⟩:=I.hok p _ hk;exact⟨o,e,ex⟩
    obtain⟨_,_,_,_,o,_,_,e,ex,_⟩:=I.hok p _ hk;exact⟨o,e,ex⟩
   obtain⟨o,e,ex⟩:=z;refine⟨⟨o,e,ex.1⟩,λa e2=>?_⟩;cases e2;exact⟨o,e,ex.2.1⟩
  obtain⟨o,_,_,_,e,ex,_⟩:=I.hok p _ hk;refine⟨⟨o,e,ex.1⟩,λa e2=>?_⟩;cases e2;exact⟨o,e,ex.2.1⟩
 |_=>exact False.elim ty
variable {name:Str}{T id:String}
/- xs.append(e),list.index on a module's tuple .. are ag facts of 06m -/
end
end L2
namespace L2
open PySem PySem.Spec PyProof.Rows
def pS(X:Cx)(id:String)(r:V->List V->Hp->VK->Prop):Prop:=
 ∀(pins:List (Addr×Obj)) (s:Shared) (σ:St) (H:Hp) (x:V) (xs:List V) (v:Value) (us:List Value) (Q:VK),Ag X pins σ H s->Au x v->Ap xs us->r x xs H Q->
  wpAny (model X.prog X.w) X.A (call (.builtin id) (v::us)) (EP X pins σ Q) X.xe s
def Ap.one:∀{x:V}{us:List Value},Ap [x] us->∃u,us=[u]/\Au x u
 |_,_,.cons r .nil=>⟨_,rfl,r⟩
def Ap.zero:∀{us:List Value},Ap [] us->us=[]
 |_,.nil=>rfl
theorem Ap.rep(h:Ap xs us):∀k:Nat,Ap (List.replicate k xs).flatten (List.replicate k us).flatten
 |0=>.nil
 |k+1=>by
  rw[cH,cH,bZ,bZ];exact Ap.append h (Ap.rep h k)
theorem IL(its:List Value):∀k acc,
 List.foldl (λx1 x2=>x1++x2) acc.toArray (List.replicate k its.toArray)=(acc++(List.replicate k its).flatten).toArray
 |0,acc=>by simp
 |k+1,acc=>by
  have e:acc.toArray++its.toArray=(acc++its).toArray:=by simp
  have e2:(acc++its)++(List.replicate k its).flatten=acc++(List.replicate (k+1) its).flatten:=by
   rw[cH,bZ,dE]
  rw[←e2,←IL its k (acc++its),←e,cH,iK]
section
def Ag.lset{its its':List Value}{n:Nat}{t':Nat}(I:Ag X pins σ H s)(hH:H l=some (.lst xs))
 (e:s.heap.get? l=some {cls:=.type "list",data:=.seq its.toArray n})(hf:f its.toArray=its'.toArray)(hv:Ap ys its')(hz:ys.length<=sizeLine) :
 Ag X pins σ (upd H l (.lst ys)) {s with heap:=s.heap.update l (Obj.mapSeq f),toks:=t'}:=by
 have q:=PySem.IsL.update e f;rw[hf]at q;refine I.write (x:=l) (e:=l) (by rw[hH];exact trivial) (.inl rfl) (λb' u hb hu=>(fW s.heap (Obj.mapSeq f) (bM hb)).trans hu) ⟨_,q⟩ ?_;exact⟨hz,its',_,hv,q⟩
def Ag.lnew{t':Nat}(I:Ag X pins σ H s)(hv:Ap ys its)(hz:ys.length<=sizeLine) :
 Ag X pins σ (upd H s.heap.objs.size (.lst ys)) {s with heap:=s.heap.push {cls:=.type "list",data:=.seq its.toArray},toks:=t'}:=
 I.laid (λ_ _ q=>aD _ q) (aI _) ⟨hz,its,0,hv,aL _ rfl⟩
theorem Ag.fresh(I:Ag X pins σ H s):H s.heap.objs.size=none:=I.hok.fresh (aI _)
def Ag.lstM(I:Ag X pins σ H s)(hH:H l=some (.lst xs)):xs.length<=sizeLine/\∃its n,Ap xs its/\xs.length=its.length/\s.heap.get? l=some {cls:=.type "list",data:=.seq its.toArray n}:=by
 obtain⟨z,its,n,r,e⟩:=I.hok l _ hH;exact⟨z,its,n,r,r.length,e⟩
def KS{n:Nat}(h:n<=sizeLine):Builtin.List.listTooLong n=false:=by
 unfold Builtin.List.listTooLong;exact bI (by lia)
end
section
def Ux:V->List V->Hp->VK->Prop:=λx vs H Q=>∃l xs y,x=.ref l/\vs=[y]/\H l=some (.lst xs)/\xs.length<sizeLine/\Q .non (upd H l (.lst (xs++ [y])))
def Pl:pS X "list.append" Ux:=by
 intro pins s σ H x vs v us Q I rx rv h;obtain⟨l,xs,y,rfl,rfl,hH,hz,q⟩:=h;cases rx;obtain⟨u,rfl,ru⟩:=rv.one;obtain⟨z,its,n,r,hl,e⟩:=I.lstM hH;refine gD F.slot_list_append ⟨_,e,rfl⟩ F.entry_list_append (F.args_list_append_2 _ _) (PySem.list_append l its.toArray n u (by rw[aY];lia)) ⟨e,?_⟩;refine⟨.non,_,I.lset (its':=its++ [u]) hH e (by simp) (r.append (.cons ru .nil)) ?_,rfl,q⟩;rw[aV,dP]
 lia
def Uw:V->List V->Hp->VK->Prop:=λx vs H Q=>E4 λl b xs zs=>A6 (x=.ref l) (vs=[.ref b]) (H l=some (.lst xs)) (H b=some (.lst zs)) (xs.length+zs.length<=sizeLine) (Q .non (upd H l (.lst (xs++zs))))
def Pj:pS X "list.extend" Uw:=by
 intro pins s σ H x vs v us Q I rx rv h;obtain⟨l,b,xs,zs,rfl,rfl,hH,hB,hz,q⟩:=h;cases rx;obtain⟨u,rfl,ru⟩:=rv.one;cases ru;obtain⟨z,its,n,r,hl,e⟩:=I.lstM hH;obtain⟨z2,its2,n2,r2,hl2,e2⟩:=I.lstM hB;have hsz:its.toArray.size+its2.toArray.size<=sizeLine:=by rw[aY,aY];lia
 have hlong:¬(!its.toArray.isEmpty&&Builtin.List.listTooLong (its.toArray.size+its2.toArray.size))=true:=by
  rw[KS hsz,Bool.and_false];exact aB
 refine gD F.slot_list_extend ⟨_,e,rfl⟩ F.entry_list_extend (F.args_list_extend_2 _ _)
  (AutoSeq1.list_extend_list_list_0 l its.toArray n b its2.toArray n2 hlong (by rw[aY];lia) (by lia)) ⟨e,e2,?_⟩
 refine⟨.non,_,I.lset (its':=its++its2) hH e (by simp) (r.append r2) ?_,rfl,q⟩;rw[aV]
 lia
def Ya:V->List V->Hp->VK->Prop:=λx vs H Q=>∃l xs,x=.ref l/\vs=[]/\H l=some (.lst xs)/\Q .non (upd H l (.lst []))
def RS:pS X "list.clear" Ya:=by
 intro pins s σ H x vs v us Q I rx rv h;obtain⟨l,xs,rfl,rfl,hH,q⟩:=h;cases rx;have hus:=rv.zero;subst hus;obtain⟨z,its,n,r,hl,e⟩:=I.lstM hH;refine gD F.slot_list_clear ⟨_,e,rfl⟩ F.entry_list_clear (F.args_list_clear_1 _) (AutoSeq1.list_clear_list_0 l its.toArray n (by rw[aY];lia)) ⟨e,?_⟩;exact⟨.non,_,I.lset (its':=[]) (ys:=[]) hH e rfl .nil (dH _),rfl,q⟩
def nW:R2:=λx y H Q=>E4 λl b xs zs=>A6 (x=.ref l) (y=.ref b) (H l=some (.lst xs)) (H b=some (.lst zs)) (xs.length+zs.length<=sizeLine) (∀p,H p=none->Q (.ref p) (upd H p (.lst (xs++zs))))
def Y5:BH X (binaryOp .Add) nW:=by
 intro pins s σ H x y v u Q I rx ry h;obtain⟨l,b,xs,zs,rfl,rfl,hH,hB,hz,q⟩:=h;cases rx;cases ry;obtain⟨z,its,n,r,hl,e⟩:=I.lstM hH;obtain⟨z2,its2,n2,r2,hl2,e2⟩:=I.lstM hB;refine PySem.P.add_list e e2 ?_ (by rw[aY,aY];lia);have ea:its.toArray++its2.toArray=(its++its2).toArray:=by simp
 rw[ea];exact⟨.ref _,_,I.lnew (t':=s.toks) (r.append r2) (by rw[aV];lia),rfl,q _ I.fresh⟩
def nQ:R2:=λx y H Q=>E3 λl k xs=>A7 (x=.ref l) (y=.int k) (H l=some (.lst xs)) (-(2^63)<=k) (k<2^63) (xs.length*k.toNat<=sizeLine) (∀p,H p=none->Q (.ref p) (upd H p (.lst (List.replicate k.toNat xs).flatten)))
def Vg{α:Type}(xs:List α)(k:Nat):(List.replicate k xs).flatten.length=k*xs.length:=by
 induction k with
 |zero=>simp
 |succ k ih=>rw[cH,bZ,aV,ih,Nat.succ_mul,Nat.add_comm]
def Yy:BH X (binaryOp .Mult) nQ:=by
 intro pins s σ H x y v u Q I rx ry h;obtain⟨l,k,xs,rfl,rfl,hH,h1,h2,hz,q⟩:=h;cases rx;obtain⟨t,rfl⟩:=ry;obtain⟨z,its,n,r,hl,e⟩:=I.lstM hH;have hlen:its.toArray.size*k.toNat<=sizeLine:=by rw[aY,←hl];exact hz
 have hcap:¬its.toArray.size*k.toNat>(2^63-1) / 8:=by
  have:(sizeLine:Nat)<=(2^63-1) / 8:=by decide
  lia
 have hfit:¬(!Builtin.List.listFitsIndex k)=true:=by
  rw[fitsIndex_both h1 h2];exact aB
 have hlong:¬Builtin.List.listTooLong (its.toArray.size*k.toNat)=true:=by
  rw[KS hlen];exact aB
 have hnew:List.foldl (λx1 x2=>x1++x2) #[] (List.replicate (if its.toArray.isEmpty=true then 0 else k.toNat) its.toArray)=(List.replicate k.toNat its).flatten.toArray:=by
  have f0:∀m:Nat,List.foldl (λx1 x2=>x1++x2) #[] (List.replicate m its.toArray)=(List.replicate m its).flatten.toArray:=λm=>by
   have:=IL its m [];rw[fI]at this;exact this
  rw[f0];cases its with
  |nil=>simp
  |cons a r'=>rw[if_neg (by simp)]
 refine wpAny_binaryOp_repeat_ref (T:= "list") (U:= "int") (by decide) ⟨_,e,rfl⟩ (λs'=>typeIs_int s' k t) noFill_list_mul F.fills_int_mul F.slot_int_rmul repeat_list F.slot_int_index.lookup
  (gD F.slot_int_rmul (typeIs_int s k t) F.entry_int_rmul (F.args_int_rmul_2 _ _) (int___rmul___int_list k t l its.toArray n)
    ⟨e,rfl,⟨_,e,rfl⟩,gD F.slot_list_mul ⟨_,e,rfl⟩ F.entry_list_mul (F.args_list_mul_2 _ _) (AutoListH.list___mul___list_int_3 l its.toArray n k t hfit hcap hlong) ⟨e,?_⟩⟩)
 rw[hnew];exact⟨.ref _,_,I.lnew (t':=s.toks) (r.rep k.toNat) (by rw[Vg,Nat.mul_comm];exact hz),rfl,q _ I.fresh⟩
end
section
set_option maxRecDepth 100000 in
end
end L2
namespace Att
open PySem PySem.W PySem.Calls PyProof.Rows
def Gc:∀ns vs,WellAll P h vs (ns.map WData.int)->IntsAre vs ns:=by
 intro ns
 induction ns with
 |nil=>
  intro vs w;rw[iC]at w;cases w;exact .nil
 |cons n ns ih=>
  intro vs w;rw[aK]at w;cases w with
  |cons a b=>
   cases a;exact .cons _ _ (ih _ b)
def OJ{l:OpenLaw}{n:Nat}(hn:l.most=some n){h:Heap}
 (hpre:l.row.toRowW.claim.pre args=true)(hwl:WellAll P h vals args) :
 ∃a vs ns,vals=[Value.ref a]/\args=[WData.list (ns.map WData.int)]/\h.get? a=some {cls:=.type "list",data:=.seq vs.toArray}/\IntsAre vs ns/\ns.length<=n:=by
 have hsh:WShape.hasAll [] args [.list .int]=true:=(pre_splitW hpre).1;have hc:l.pre.holds [] {args:=args}=true:=(pre_splitW hpre).2;obtain⟨d,r,rfl,h1,h2⟩:=hasAllW_cons hsh;obtain rfl:=hasAllW_nil h2;obtain⟨xs,rfl,h3⟩:=hasW_list h1;obtain⟨ns,rfl⟩:=items_int h3;have hlen:ns.length<=n:=by
  unfold OpenLaw.pre at hc;have h4:(WTm.not (.lt (.lit (.int (n:Int))) (.len (.arg 0)))).holds [] {args:=[.list (ns.map .int)]}=true:=by
   have h4:=(holds_andW hc).1;rw[hn]at h4;exact h4
  have h5:=condW_of h4 (w_not (w_lt w_lit (w_len_list (w_arg rfl))));rw[aC]at h5;refine fZ λq=>?_;have q':(n:Int)<((ns.length:Nat):Int):=by lia
  first
   |(rw[bY q']at h5;exact absurd h5 (by decide))
   |(simp at h5;lia)
 cases hwl with
 |cons w1 w2=>
  cases w2;cases w1 with
  |list ho hall=>exact⟨_,_,ns,rfl,rfl,ho,Gc ns _ hall,hlen⟩
def OL(l:OpenLaw)(args:List WData):l.row.toRowW.claim.post args (.bool true) args=true:=
 postW_of (r:=l.row.toRowW) (X:=(true ==true))
  (show WShape.has [] (.bool true) .bool=true by first|rfl|decide|simp[WShape.has,WShape.arms,WShape.armsAll])
  (show(WTm.eq .res (.lit (.bool true))).value [] {args:=args,res:=some (.bool true),after:=args}=some (.bool (true ==true)) from w_eq_bool (w_res rfl) w_lit) rfl
def attach_call{l:OpenLaw}{n:Nat}{d:DefRec}
 (hn:l.most=some n)(hdf:d.params.defaults=[])
 (call:∀w s₀ s₁ mg mb fa o pm cd doc a vs ns,
   Ground q loose [] XP w s₀ mg mb s₁.heap->YP w s₁.heap->
   s₁.heap.get? fa=some o->o.data=.func (docDef d.name d.params d.body d.scope pm cd doc)->s₁.heap.CodeRec cd d.name->mg d.name=some (.ref fa)->
   s₁.heap.get? a=some {cls:=.type "list",data:=.seq vs.toArray}->IntsAre vs ns->ns.length<=n->s₁.gens=#[]->
   codeAny (model l.prog w) callerA (.call (.ref fa) ⟨[.ref a],[]⟩) (λr s'=>r=.ok (.ret (.bool true))/\OldK s₁.heap s'.heap/\s'.os=s₁.os/\AllBare s'.gens) s₁) :
 WalkO q loose XP YP l.row.toRowW d [] (λf vs=>PySem.call f vs):=by
 intro w s₀ s₁ mg mb G Y fa o pm cd doc dV kV ho hd hcd hD hmg hg args vals as hpre hlay hrd hwl hlo;obtain rfl:dV=.none:=Dflts.none hD hdf;obtain rfl:kV=.none:=Dflts.noKw hD;obtain⟨a,vs,ns,rfl,rfl,hobj,hints,hlen⟩:=OJ hn hpre hwl;refine enter_call (eG (call w s₀ s₁ mg mb fa o pm cd doc a vs ns G Y ho (fd_plain hd) hcd hmg hobj hints hlen hg) λr s' hq=>?_);obtain⟨rfl,h2,h3,h4⟩:=hq;exact⟨.inl ⟨.bool true,.bool true,[],rfl,λ_=>rfl,.bool true,OL l _,λ_=>⟨List.Pairwise.nil,λ_ hm=>(nomatch hm)⟩⟩,h2,h3,h4⟩
end Att
namespace L2
open PySem PySem.Spec PyProof.Rows
theorem Ii:∀{vs:List Value}{ns:List Int},IntsAre vs ns->Ap (ns.map V.int) vs
 |_,_,.nil=>.nil
 |_,_,.cons n t h=>.cons ⟨t,rfl⟩ (Ii h)
end L2
namespace L2
open PySem PySem.Spec PyProof.Rows
end L2
namespace L2
open PySem PySem.Spec PyProof.Rows
abbrev O5:WO:=λ_ _ _ _ _ _=>False
abbrev E0:XK:=λ_ _ _=>False
def RB:HB O5 X E0:=λ_ _ _ _ _ _ _ h=>h.elim
def YW{A B:Prop}(h:B):if false=true then A else B:=by
 rw[if_neg aB];exact h
def YV{A B:Prop}(h:A):if true=true then A else B:=by
 rw[if_pos rfl];exact h
def Ak(H H':Hp):Prop:=∀b o,H b=some o->H' b=some o
def Ak.refl(H:Hp):Ak H H:=λ_ _ h=>h
def Ak.trans(a:Ak H H1)(b:Ak H1 H2):Ak H H2:=λc o h=>b c o (a c o h)
def Ak.free(e:Ak H H')(h:H' l=Option.none):H l=Option.none:=by
 cases q:H l with
 |none=>rfl
 |some o=>
  rw[e l o q]at h;cases h
def Ak.seq{K:Fq}{H H':Hp}{a:Addr}{xs:List V}(e:Ak H H')(h:Dp K H a xs):Dp K H' a xs:=by
 rcases h with(h|⟨o,h⟩)|h
 ·exact .inl (.inl (e _ _ h))
 ·exact .inl (.inr ⟨o,e _ _ h⟩)
 exact .inr h
section
def P8(I:Nat->Shared->Prop)
 (turn:∀n s,I n s->wpAny (model prog w) A (pyNext it) (λr s1=>match r with
   |none=>R (.ok .next) s1
   |some v=>wpAny (model prog w) A (letOwnedTupleGo target it v) (λ_ s2=>wpAny (model prog w) A (assign target env v) (λ_ s3=>
    wpAny (model prog w) A (forIn ifs true λc r=>if r=true then do let ok ←isTrue c env (eval c env);pure (ForInStep.yield ok) else pure (ForInStep.yield r)) (λok s4=>
     if ok=true then wpAny (model prog w) A (eval elt env) (λx s5=>
      wpAny (model prog w) A (call (.builtin "list.append") [acc,x]) (λ_ s6=>∃m,m<n/\I m s6) (notedBy (model prog w) A env λe s'=>R (.error e) s') s5) (notedBy (model prog w) A env λe s'=>R (.error e) s') s4
     else ∃m,m<n/\I m s4) (notedBy (model prog w) A env λe s'=>R (.error e) s') s3) (notedBy (model prog w) A env λe s'=>R (.error e) s') s2) (notedBy (model prog w) A env λe s'=>R (.error e) s') s1)
    (notedBy (model prog w) A env λe s'=>R (.error e) s') s)
 (n:Nat)(h:I n s) :
 codeAny (model prog w) A (.compLoop (.ListComp elt [⟨target,iter,ifs,0⟩] scope pos) 0 it acc env) R s:=by
 refine codeAny_loop rfl I (λn s hI=>?_) n h;show wpAny _ A ((compTurn (.ListComp elt [⟨target,iter,ifs,0⟩] scope pos) 0 it acc env).onRaise (λx=>do noteFrame x env;theTreesLotGoes x)) _ _ s;refine wpAny_noted ?_;rw[compTurn_list];refine a8 (hJ (a8 (cI (turn n s hI) (λr s1 h1=>?_) λ_ _ h'=>h')));cases r with
 |none=>exact aF h1
 |some v=>
  refine a8 (cI h1 (λ_ s2 h2=>?_) λ_ _ h'=>h');refine a8 (cI h2 (λ_ s3 h3=>a8 (cI h3 (λok s4 h4=>?_) λ_ _ h'=>h')) λ_ _ h'=>h');cases ok with
  |false=>exact aF ⟨rfl,h4⟩
  |true=>
   exact a8 (a8 (cI h4 (λx s5 h5=>a8 (cI h5 (λ_ s6 h6=>aF (aF ⟨rfl,h6⟩)) λ_ _ h'=>h')) λ_ _ h'=>h'))
end
noncomputable def Do(cells:List (Str×Addr)):List (Str×NameKind)->List (Str×Addr)->List (Str×Addr)
 |[],acc=>acc
 |(n,k)::r,acc=>if k== .free then(match cells.lookup n with
  |some a=>Do cells r ((n,a)::acc)
  |none=>Do cells r acc) else Do cells r acc
theorem Ot:∀names acc,(∀y∈names,y.2=.free->∃a,env.cells.lookup y.1=some a)->
 (forIn names acc λx r=>(if x.2== .free then do let a ←cellOf env x.1;pure (ForInStep.yield ((x.1,a)::r)) else pure (ForInStep.yield r):Sem (ForInStep (List (Str×Addr)))))=pure (Do env.cells names acc)
 |[],acc,_=>rfl
 |(n,k)::r,acc,h=>by
  rw[iL];have ih:=λacc=>Ot r acc λy hy=>h y (aE _ hy);by_cases hk:k=.free
  ·subst hk;obtain⟨a,e⟩:=h (n,.free) aH rfl;have e:=e;simp only[beq_self_eq_true,if_true,cellOf,e,Do,pure_bind];exact ih _
  have hb:(k ==NameKind.free)=false:=by simpa using hk
  simp only[hb,Bool.false_eq_true,if_false,Do,pure_bind];exact ih _
def VE(h:∀y∈scope.names,y.2=.free->∃a,env.cells.lookup y.1=some a):closureFor scope env=pure (Do env.cells scope.names []):=by
 unfold closureFor;have e:=Ot (env:=env) scope.names [] h;simp only[bind_pure];exact e
theorem DD{x:Str}:∀names acc,(∀y b,(y,b)∈acc->cells.lookup y=some b)->(x,c)∈Do cells names acc->cells.lookup x=some c
 |[],acc,ha,hm=>ha x c hm
 |(n,k)::r,acc,ha,hm=>by
  unfold Do at hm;split at hm
  ·split at hm
   ·rename_i a e;refine DD r _ (λy b hb=>?_) hm;rcases aU.mp hb with q|q
    ·cases q;exact e
    exact ha y b q
   exact DD r _ ha hm
  exact DD r _ ha hm
def B8{x:Str}{l:Cq}(h:l.lookup x=some c):(x,c)∈l:=PySem.mem_of_lookup h
theorem Gv{x:Str}(hx:cells.lookup x=some c):∀names acc,((x,NameKind.free)∈names\/(x,c)∈acc)->(x,c)∈Do cells names acc
 |[],acc,hm=>by
  rcases hm with q|q
  ·exact absurd q (by simp)
  exact q
 |(n,k)::r,acc,hm=>by
  unfold Do;by_cases hk:k=.free
  ·subst hk;simp only[beq_self_eq_true,if_true];split
   ·rename_i a e;refine Gv hx r _ ?_;rcases hm with q|q
    ·rcases aU.mp q with q|q
     ·cases q;rw[hx]at e;cases e;exact .inr aH
     exact .inl q
    exact .inr (aE _ q)
   rename_i e;refine Gv hx r _ ?_;rcases hm with q|q
   ·rcases aU.mp q with q|q
    ·cases q;rw[hx]at e;cases e
    exact .inl q
   exact .inr q
  have hb:(k ==NameKind.free)=false:=by simpa using hk
  simp only[hb,Bool.false_eq_true,if_false];refine Gv hx r _ ?_;rcases hm with q|q
  ·rcases aU.mp q with q|q
   ·cases q;exact absurd rfl hk
   exact .inl q
  exact .inr q
theorem Ec{x:Str}:∀{l:Cq},(x,c)∈l->∃d,l.lookup x=some d/\(x,d)∈l
 |[],h=>absurd h (by simp)
 |(y,b)::r,h=>by
  by_cases e:x=y
  ·subst e;exact⟨b,by simp,aH⟩
  rcases aU.mp h with q|q
  ·cases q;exact absurd rfl e
  obtain⟨d,e1,e2⟩:=Ec q;refine⟨d,?_,aE _ e2⟩;rw[c9];have:(x ==y)=false:=by simpa using e
  rw[this];exact e1
def DE{x:Str}(hf:(x,NameKind.free)∈names)(hx:cells.lookup x=some c):(Do cells names []).lookup x=some c:=by
 obtain⟨d,e1,e2⟩:=Ec (Gv hx names [] (.inl hf));have e3:=DD names [] (λ_ _ h=>absurd h (by simp)) e2;rw[hx]at e3;cases e3;exact e1
def BO{cells:Cq}{x:Str}(h:(Do cells names []).lookup x=some c):cells.lookup x=some c:=
 DD names [] (λ_ _ h=>absurd h (by simp)) (B8 h)
theorem Eo{env:Env}:∀{names:List (Str×NameKind)}{x:Str},names.lookup x=some .free->
 (names.map λ(n,k)=>if (k ==NameKind.free&&env.scope.kind== .function&&env.kindOf n ==some .cell) then(n,NameKind.cell) else(n,k)).lookup x=some .cell\/
 (names.map λ(n,k)=>if (k ==NameKind.free&&env.scope.kind== .function&&env.kindOf n ==some .cell) then(n,NameKind.cell) else(n,k)).lookup x=some .free
 |[],_,h=>by simp at h
 |(n,k)::r,x,h=>by
  have ih:=@Eo env r x;rw[aK];cases hx:x ==n with
  |true=>
   simp only[List.lookup_cons,hx]at h;cases h;dsimp only;by_cases hc:(NameKind.free ==NameKind.free&&env.scope.kind== .function&&env.kindOf n ==some .cell)=true
   ·rw[if_pos hc];simp[List.lookup_cons,hx]
   rw[if_neg hc];simp[List.lookup_cons,hx]
  |false=>
   simp only[List.lookup_cons,hx]at h;dsimp only;by_cases hc:(k ==NameKind.free&&env.scope.kind== .function&&env.kindOf n ==some .cell)=true
   ·rw[if_pos hc];simp only[List.lookup_cons,hx];exact ih h
   rw[if_neg hc];simp only[List.lookup_cons,hx];exact ih h
theorem GM{env:Env}:∀{names:List (Str×NameKind)}{x:Str},(∀y∈names,y.2≠ .cell)->
 ((names.map λ(n,k)=>if (k ==NameKind.free&&env.scope.kind== .function&&env.kindOf n ==some .cell) then(n,NameKind.cell) else(n,k)).lookup x=some .cell\/
 (names.map λ(n,k)=>if (k ==NameKind.free&&env.scope.kind== .function&&env.kindOf n ==some .cell) then(n,NameKind.cell) else(n,k)).lookup x=some .free)->names.lookup x=some .free
 |[],_,_,h=>by simp at h
 |(n,k)::r,x,hn,h=>by
  have ih:=@GM env r x λy hy=>hn y (aE _ hy);rw[aK]at h;dsimp only at h;have hk:=hn (n,k) aH;cases hx:x ==n with
  |true=>
   by_cases hc:(k ==NameKind.free&&env.scope.kind== .function&&env.kindOf n ==some .cell)=true
   ·simp only[Bool.and_eq_true,beq_iff_eq]at hc;obtain⟨⟨hc,_⟩,_⟩:=hc;subst hc;simp only[List.lookup_cons,hx]
   rw[if_neg hc]at h;simp only[List.lookup_cons,hx]at h ⊢;rcases h with h|h
   ·cases h;exact absurd rfl hk
   exact h
  |false=>
   by_cases hc:(k ==NameKind.free&&env.scope.kind== .function&&env.kindOf n ==some .cell)=true
   ·rw[if_pos hc]at h;simp only[List.lookup_cons,hx]at h ⊢;exact ih h
   rw[if_neg hc]at h;simp only[List.lookup_cons,hx]at h ⊢;exact ih h
structure C6(scope sc:Scope)(N0 xs ys:List Str)(js:List Nat):Prop where
 kind:scope.kind=.function
 nocell:∀y∈scope.names,y.2≠ .cell
 loc:∀y∈scope.names,y.2=.local->scope.names.lookup y.1=some .local
 fr:∀y∈scope.names,y.2=.free->sc.names.lookup y.1=some .cell\/sc.names.lookup y.1=some .free
 cap:ys.length=js.length/\∀p∈ys.zip js,N0[p.2]?=some p.1/\scope.names.lookup p.1=some .free/\(p.1,NameKind.free)∈scope.names/\(sc.names.lookup p.1=some .cell\/sc.names.lookup p.1=some .free)
noncomputable def EK(k:Nat)(js:List Nat)(σ:St):St:=List.replicate k none++js.map λj=>(σ[j]?).join
noncomputable def F0(X:Cx)(N:List Str)(scope:Scope)(C:Addr)(s2:Shared)(H2:Hp)(fp:List Addr):Cx where
 prog:=X.prog
 w:=X.w
 K:=X.K
 mg:=X.mg
 base:=X.base
 A:=X.A
 N:=N
 s₀:=s2
 H₀:=H2
 env:=compEnvC scope (Do X.env.cells scope.names []) C X.env
 outer:=X.stack
 stack:=X.stack
 ex:=fp
 fn:=λ_=>false
 calm:=X.calm
 pn:=[]
 xe:=λ_ _=>False
section
variable {tk:Nat}
def SB(I:Ag X pins σ H s2)(f:DH X pins H b):b∉Lv X.stack:=λhb=>by
 rcases aU.mp (I.stkSub b hb) with e|e
 ·exact f.2.1 e
 exact f.2.2.1 e
def Zx(I:Ag X pins σ H s2)(CS:C6 scope sc N0 xs ys js)(hsc:X.env.scope=sc)(hC:s2.heap.objs.size<=C)(f:∀b∈fp,DH X pins H b)(fl:∀b∈fp,b<s2.heap.objs.size) :
 (F0 X (xs++ys) scope C s2 H fp).Ok where
 mod:=I.ok.mod
 kind:=CS.kind
 glob:=I.ok.glob
 blt:=I.ok.blt
 above:=hC
 inj:=λx y c e1 e2=>I.ok.inj x y c (BO e1) (BO e2)
 has:=λx hx=>by
  have hx:=hx;have q:=GM (env:=X.env) CS.nocell hx;have m:=PySem.mem_of_lookup q;have hk:=CS.fr _ m rfl;rw[←hsc]at hk;obtain⟨c,e⟩:=I.ok.has x hk;exact⟨c,DE m e⟩
 cab:=λx c e _=>by cases e
 hd:=I.ok.hd
 frames:=I.ok.frames
 stk:=.inl rfl
 exf:=λb hb=>⟨aW (aX (fl b hb) hC),λx c e=>(f b hb).2.2.2.2.1 x c (BO e)⟩
 bs:=I.bs
 bsz:=b9 I.ok.bsz I.sz
 noex:=λb o e hb=>by
  rcases(f b hb).2.2.2.1 with q|q
  ·exact I.ok.noex b o e q
  exact absurd (aX (aM e) (b9 I.ok.bsz q)) (cV _)
 exfs:=λb hb=>SB I (f b hb)
 funs:=I.stack
 frf:=I.stkFree
def Sw(I:Ag X pins σ H s2)(CS:C6 scope sc N0 xs ys js)(hsc:X.env.scope=sc)(hN:X.N=N0)(f:∀b∈fp,DH X pins H b)(fl:∀b∈fp,b<s2.heap.objs.size)
 (hC:s2.heap.objs.size<=C)(hD:s2.heap.objs.size<=D)(hDC:D≠C)(hns:h1.Ns C m)(old:∀b o,s2.heap.get? b=some o->h1.get? b=some o)(hacc:h1.get? D=some oD)(hod:∀v,oD.data≠ .cell v) :
 Ag (F0 X (xs++ys) scope C s2 H fp) [(D,oD)] (EK xs.length js σ) H {s2 with heap:=h1,toks:=tk} where
 ok:=Zx I CS hsc hC f fl
 os:=rfl
 bare:=I.bare
 base:=Un.kept old
 loc:=by
  refine⟨m,hns,λi x v e1 e2 e3=>?_⟩;have e1:(xs++ys)[i]?=some x:=e1;have hi:xs.length<=i:=by
   refine fZ λq=>?_;unfold EK at e2;rw[aO (by simpa using q),cM,if_pos q]at e2;cases e2
  rw[aQ hi]at e1;unfold EK at e2;rw[aQ (by simpa using hi),dB,aJ]at e2;obtain⟨j,ej⟩:∃j,js[i-xs.length]?=some j:=by
   cases e:js[i-xs.length]? with
   |none=>rw[e]at e2;cases e2
   |some j=>exact⟨j,rfl⟩
  rw[ej]at e2;have e2:(σ[j]?).join=some v:=bJ e2;have e2':σ[j]?=some (some v):=by
   cases e:σ[j]? with
   |none=>rw[e]at e2;cases e2
   |some o=>rw[e]at e2;exact cK some e2
  have hz:(x,j)∈ys.zip js:=by
   have:(ys.zip js)[i-xs.length]?=some (x,j):=by rw[dZ];exact⟨e1,ej⟩
   exact aP this
  obtain⟨c1,c2,c3,c4⟩:=CS.cap.2 _ hz;have c1:N0[j]?=some x:=c1;have c4':X.env.kindOf x=some .cell\/X.env.kindOf x=some .free:=by
   show X.env.scope.names.lookup x=some .cell\/X.env.scope.names.lookup x=some .free;rw[hsc];exact c4
  obtain⟨m0,hn0,hl0⟩:=I.loc;obtain⟨u,ru,lu⟩:=hl0 j x v (by rw[hN];exact c1) e2' (.inr c4');refine⟨u,ru,.inr ⟨?_,?_⟩⟩
  ·exact Eo c2
  rcases lu with⟨k,_⟩|⟨_,c,ec,hc⟩
  ·rcases c4' with z|z<;>(rw[k]at z;cases z)
  refine⟨c,DE c3 ec,?_⟩;obtain⟨o,ho,hd⟩:=hc;exact⟨o,old _ _ ho,hd⟩
 cell:=λx c e=>by
  obtain⟨v,o,ho,hd⟩:=I.cell x c (BO e);exact⟨v,o,old _ _ ho,hd⟩
 free:=I.hok.fresh hC
 freeC:=λx c e=>I.freeC x c (BO e)
 pin:=λp hp=>by
  have hp:p∈([]:Pq)++ [(D,oD)]:=hp;have e:p=(D,oD):=by simpa using hp
  subst e;refine⟨hacc,I.hok.fresh hD,hDC,λhb=>?_,hod⟩;obtain⟨_,o,ho,_⟩:=I.stack.mem (show D∈Lv X.stack from hb);exact absurd (aX (aM ho) hD) (cV _)
 hok:=I.hok.kept old
 len:=by
  unfold EK;show _=(xs++ys).length;rw[aV,aV,dB,aC,CS.cap.1]
end
def IJ(I:Ag X pins σ H s2)(CS:C6 scope sc N0 xs ys js)(hsc:X.env.scope=sc)(hN:X.N=N0)
 (f:∀b∈fp,DH X pins H b)(J:Ag (F0 X (xs++ys) scope C s2 H fp) pp σ' H' s'):Ag (F0 X (xs++ys) scope C s2 H fp) pp (EK xs.length js σ) H' s' where
 ok:=J.ok
 os:=J.os
 bare:=J.bare
 base:=J.base
 loc:=by
  obtain⟨m,hns,_⟩:=J.loc;refine⟨m,hns,λi x v e1 e2 e3=>?_⟩;have e1:(xs++ys)[i]?=some x:=e1;have hi:xs.length<=i:=by
   refine fZ λq=>?_;unfold EK at e2;rw[aO (by simpa using q),cM,if_pos q]at e2;cases e2
  rw[aQ hi]at e1;unfold EK at e2;rw[aQ (by simpa using hi),dB,aJ]at e2;obtain⟨j,ej⟩:∃j,js[i-xs.length]?=some j:=by
   cases e:js[i-xs.length]? with
   |none=>rw[e]at e2;cases e2
   |some j=>exact⟨j,rfl⟩
  rw[ej]at e2;have e2:(σ[j]?).join=some v:=bJ e2;have e2':σ[j]?=some (some v):=by
   cases e:σ[j]? with
   |none=>rw[e]at e2;cases e2
   |some o=>rw[e]at e2;exact cK some e2
  have hz:(x,j)∈ys.zip js:=by
   have:(ys.zip js)[i-xs.length]?=some (x,j):=by rw[dZ];exact⟨e1,ej⟩
   exact aP this
  obtain⟨c1,c2,c3,c4⟩:=CS.cap.2 _ hz;have c1:N0[j]?=some x:=c1;have c4':X.env.kindOf x=some .cell\/X.env.kindOf x=some .free:=by
   show X.env.scope.names.lookup x=some .cell\/X.env.scope.names.lookup x=some .free;rw[hsc];exact c4
  obtain⟨m0,hn0,hl0⟩:=I.loc;obtain⟨u,ru,lu⟩:=hl0 j x v (by rw[hN];exact c1) e2' (.inr c4');refine⟨u,ru,.inr ⟨Eo c2,?_⟩⟩;rcases lu with⟨k,_⟩|⟨_,c,ec,hc⟩
  ·rcases c4' with z|z<;>(rw[k]at z;cases z)
  refine⟨c,DE c3 ec,?_⟩;obtain⟨o,ho,hd⟩:=hc;obtain⟨sl,e⟩:=J.base.any ho (I.freeC x c ec) λhb=>(f c hb).2.2.2.2.1 x c ec rfl;exact⟨_,e,hd⟩
 cell:=J.cell
 free:=J.free
 freeC:=J.freeC
 pin:=J.pin
 hok:=J.hok
 len:=by
  unfold EK;show _=(xs++ys).length;rw[aV,aV,dB,aC,CS.cap.1]
def PQ(X:Cx)(ifs:List Expr)(t:TT):Prop:=
 ∀(pins:List (Addr×Obj)) (s:Shared) (σ:St) (H:Hp) (Q:Bool->Hp->Prop),Ag X pins σ H s->t σ H Q->
  wpAny (model X.prog X.w) X.A (forIn ifs true λc r=>if r=true then do let ok ←isTrue c X.env (eval c X.env);pure (ForInStep.yield ok) else pure (ForInStep.yield r)) (TP X pins σ Q) X.xe s
def Ub:TT:=λ_ H Q=>Q true H
def Yj:PQ X [] Ub:=λ_ _ _ H _ I h=>wpAny_tests_nil ⟨H,I,h⟩
def Yi(h:PT X c t):PQ X [c] t:=λpins s σ H Q I hw=>wpAny_tests_one (h pins s σ H Q I hw)
def W9(k:Nat)(js:List Nat)(g:TG)(tc:TT)(te:TE)(σ:St)(J:It)(H1:Hp)(fin:List V->Hp->Prop):Prop:=
 ∃W:Nat->Nat->List V->Hp->Prop,(∃m,W 0 m [] H1)/\∀i m ys H,W i m ys H->
  (J.stop i H/\ys.length<=sizeLine/\fin ys H)\/
  (J.go i H/\ys.length<sizeLine/\∃N:List V->Hp->Prop,(∀ys' H',N ys' H'->∃m',m'<m/\W (i+1) m' ys' H')/\∀x H2,J.yld i H x H2->g x (EK k js σ) H2 λσ2 H3=>tc σ2 H3 λb H4=>
    if b=true then te σ2 H4 λy H5=>N (ys++ [y]) H5 else N ys H4)
def Q5(k:Nat)(js:List Nat)(wi:TI)(g:TG)(tc:TT)(te:TE):TE:=λσ H Q=>wi σ H λJ H1=>W9 k js g tc te σ J H1 λys H'=>∀p,H' p=none->Q (.ref p) (upd H' p (.lst ys))
section
variable {X:Cx}{scope sc:Scope}{N0 xs ys:List Str}{js:List Nat}{elt tg iter:Expr}{ifs:List Expr}{pos:Pos}{wi:TI}{g:TG}{tc:TT}{te:TE}
def Sa(its:List Value)(y:Value):its.toArray.push y=(its++ [y]).toArray:=by simp
def Hu{pins:Pq}{σ:St}{H:Hp}{s2:Shared}{it:Addr}{fp:List Addr}{tn:Nat->Heap->Prop}{J:It}{RR:Value->Addr->Result->Shared->Prop}{fin:List V->Hp->Prop}{E:Vq}
 (CS:C6 scope sc N0 xs ys js)(hsc:X.env.scope=sc)(hN:X.N=N0)(hc:X.calm=true)
 (I:Ag X pins σ H s2)(T:Kb X.prog X.w X.K tg J fp it tn)(t0:tn 0 s2.heap)(f:∀b∈fp,DH X pins H b)
 (hg:∀C s2 H fp,PG (F0 X (xs++ys) scope C s2 H fp) tg g)(hq:∀C s2 H fp,PQ (F0 X (xs++ys) scope C s2 H fp) ifs tc)(he:∀C s2 H fp,PE (F0 X (xs++ys) scope C s2 H fp) elt te)
 (hw:W9 xs.length js g tc te σ J H fin)
 (hR:∀(D C:Addr) (H':Hp) (vs:List V) (s':Shared),(∃m,s'.heap.Ns C m)->Ag X pins σ (upd H' D (.lst vs)) s'->H' D=none->C≠D->H' C=none->C≠X.env.locals->X.s₀.heap.objs.size<=C->(∀x c,X.env.cells.lookup x=some c->c≠C)->(∀p∈X.pn++pins,p.1≠C)->fin vs H'->
   RR (.ref D) C (.ok .next) s') :
 wpAny (model X.prog X.w) X.A (newList []) (λacc s3=>wpAny (model X.prog X.w) X.A (newFunctionEnv scope X.env.globals (Do X.env.cells scope.names []) [] X.env.qual none .none (some X.env)) (λcenv s4=>
  codeAny (model X.prog X.w) X.A (.compStart (.ListComp elt [⟨tg,iter,ifs,0⟩] scope pos) 0 (.ref it) acc {cenv with scope:=relabel scope X.env}) (RR acc cenv.locals) s4) E s3) E s2:=by
 obtain⟨W,⟨m0,w0⟩,turn⟩:=hw;have fl:∀b∈fp,b<s2.heap.objs.size:=λb hb=>by
  obtain⟨o,e,_⟩:=T.obj 0 _ t0 b hb;exact aM e
 refine cJ (wpAny_newFunctionEnv CS.nocell (by intro y hy;simp at hy) (λh1 hns1 hsb1=>?_) CS.kind);dsimp only at hns1 hsb1 ⊢;generalize hH2:s2.heap.push {cls:=.type "list",dict:=none,data:=.seq ([]:List Value).toArray}=H2 at hns1 hsb1 ⊢;have hC:H2.objs.size=s2.heap.objs.size+1:=by rw[←hH2,cQ]
 have hDC:s2.heap.objs.size≠H2.objs.size:=by rw[hC];exact aW (eF _)
 have hCle:s2.heap.objs.size<=H2.objs.size:=by rw[hC];exact cZ _
 have below:∀b,b<s2.heap.objs.size->b≠H2.objs.size/\b≠s2.heap.objs.size:=λb hb=>⟨by rw[hC];exact aW (f7 hb),aW hb⟩;have old:∀b o,s2.heap.get? b=some o->h1.get? b=some o:=λb o e=>hsb1.extBut b o (below b (aM e)).1 (aD _ (hH2▸aD _ e));have hacc:h1.get? s2.heap.objs.size=some {cls:=.type "list",data:=.seq ([]:List Value).toArray 0}:=hsb1.extBut _ _ hDC (aD _ (hH2▸aL _ rfl));have t1:tn 0 h1:=T.keep _ _ _ t0 λb _ o e=>old b o e;have fC:∀{H':Hp}{oD:Obj},(∀b∈fp,H' b=none)->∀b∈fp,DH (F0 X (xs++ys) scope H2.objs.size s2 H fp) [(s2.heap.objs.size,oD)] H' b:=λ{H' oD} hn b hb=>
  ⟨hn b hb,(below b (fl b hb)).1,SB I (f b hb),.inl hb,λx c e=>(f b hb).2.2.2.2.1 x c (BO e),λp hp=>by
    have hp:p∈([]:Pq)++ [(s2.heap.objs.size,oD)]:=hp;have e:p=(s2.heap.objs.size,oD):=by simpa using hp
    subst e;exact bM (below b (fl b hb)).2⟩
 have loop:∀s3:Shared,s3={s2 with heap:=h1,toks:=s2.toks+([]:List (Str×Value)).length}->
  codeAny (model X.prog X.w) X.A (.compLoop (.ListComp elt [⟨tg,iter,ifs,0⟩] scope pos) 0 (.ref it) (.ref s2.heap.objs.size) (compEnvC scope (Do X.env.cells scope.names []) H2.objs.size X.env))
   (RR (.ref s2.heap.objs.size) H2.objs.size) s3:=by
  rintro s3 rfl;refine P8 (λk s'=>E5 λ(i:Nat) (vs:List V) (its:List Value) (n:Nat) (H':Hp)=>A5 (Ag (F0 X (xs++ys) scope H2.objs.size s2 H fp) [(s2.heap.objs.size,{cls:=.type "list",data:=.seq its.toArray n})] (EK xs.length js σ) H' s') (Ap vs its) (tn i s'.heap) (∀b∈fp,H' b=none) (W i k vs H')) ?_ m0 ⟨0,[],[],0,H,?_,.nil,t1,λb hb=>(f b hb).1,w0⟩
  ·rintro k s3 ⟨i,vs,its,n,H3,I3,rv,t3,fr3,w3⟩;have hno:∀(e:Value) (s':Shared),False->notedBy (model X.prog X.w) X.A (compEnvC scope (Do X.env.cells scope.names []) H2.objs.size X.env) (λe s'=>RR (.ref s2.heap.objs.size) H2.objs.size (.error e) s') e s':=λ_ _ z=>z.elim;rcases turn i k vs H3 w3 with⟨stop,hz,fn⟩|⟨go,hz,N,hN',step⟩
   ·refine cI (T.done (F0 X (xs++ys) scope H2.objs.size s2 H fp) rfl rfl rfl hc i _ s3 _ H3 (λ_ _=>False) I3 (fC fr3) t3 stop) (λr s4 ⟨hr,I4⟩=>?_) hno;subst hr;have pD:=I4.pin (s2.heap.objs.size,_) (bH _ aH);obtain⟨mC,hnC,_⟩:=I4.loc;have u4:Un (Lv X.stack) fp H (upd H3 s2.heap.objs.size (.lst vs)) s2.heap s4.heap:=
     ⟨I4.base.keep,I4.base.slot,λb o e n hb=>by rw[Aa (below b (aM e)).2];exact I4.base.free b o e n hb,I4.base.there,
       λb x e=>by rw[Aa (below b (I.hok.lt e)).2];exact I4.base.tups b x e,λb o x e=>by rw[Aa (below b (I.hok.lt e)).2];exact I4.base.frzs b o x e,
       λb p e=>by rw[Aa (below b (I.hok.lt e)).2];exact I4.base.tbls b p e⟩
    have hk4:Dk X.prog X.w (upd H3 s2.heap.objs.size (.lst vs)) s4.heap:=λb o e=>by
     by_cases hb:b=s2.heap.objs.size
     ·subst hb;rw[Ac]at e;cases e;exact⟨hz,its,n,rv,pD.1⟩
     rw[Aa hb]at e;exact(I4.hok b o e).stay (λ_ _ _ q=>q) (λc q=>by rw[Aa (Aj q pD.2.1)];exact q) λc x q=>by rw[Aa (Aj q pD.2.1)];exact q
    refine hR _ _ H3 vs s4 ⟨mC,hnC⟩ (I.call' I4.os u4 hk4 I4.bare λb hb=>⟨(f b hb).2.2.2.1,(f b hb).2.1,(f b hb).2.2.2.2.1,(f b hb).2.2.2.2.2⟩) pD.2.1 (bM hDC) I4.free ?_ ?_ ?_ ?_ fn
    ·exact bM (below _ I.lt).1
    ·exact b9 I.sz hCle
    ·intro x c e;obtain⟨v,o,ho,_⟩:=I.cell x c e;exact(below c (aM ho)).1
    intro p hp;exact(below p.1 (aM (I.pin p hp).1)).1
   refine cI (T.item (F0 X (xs++ys) scope H2.objs.size s2 H fp) rfl rfl rfl hc i _ s3 _ H3 (λ_ _=>False) I3 (fC fr3) t3 go) (λr s4 ⟨u,hr,h4⟩=>?_) hno;subst hr;refine cI h4 (λ_ s5 ⟨x,H5,I5,r5,y5,t5,fr5⟩=>?_) hno;have I5':=I5.pinned (fC fr5) (T.obj _ _ t5);refine cI (hg H2.objs.size s2 H fp _ s5 _ H5 x u _ I5' r5 (step x H5 y5)) (λ_ s6 ⟨σ6,H6,I6,q6⟩=>?_) hno;refine cI (hq H2.objs.size s2 H fp _ s6 σ6 H6 _ I6 q6) (λb s7 ⟨H7,I7,q7⟩=>?_) hno;have keepI:∀{σ':St}{H':Hp}{s':Shared},Ag (F0 X (xs++ys) scope H2.objs.size s2 H fp) ([(s2.heap.objs.size,{cls:=.type "list",data:=.seq its.toArray n})]++GP fp s5.heap) σ' H' s'->tn (i+1) s'.heap/\∀b∈fp,H' b=none:=λ{σ' H' s'} J'=>
    ⟨T.keep _ _ _ t5 λb hb o e=>(J'.pin (b,o) (bH _ (bH _ (CW hb e)))).1,λb hb=>by
      obtain⟨o,e,d⟩:=T.obj _ _ t5 b hb;exact(J'.pin (b,o) (bH _ (bH _ (CW hb e)))).2.1⟩
   cases b with
   |false=>
    obtain⟨m',hm,w7⟩:=hN' _ _ q7;exact⟨m',hm,i+1,vs,its,n,H7,IJ I CS hsc hN f I7.unpinned,rv,(keepI I7).1,(keepI I7).2,w7⟩
   |true=>
    refine cI (he H2.objs.size s2 H fp _ s7 σ6 H7 _ I7 q7) (λy s8 ⟨yv,H8,I8,r8,n8⟩=>?_) hno;obtain⟨m',hm,w8⟩:=hN' _ _ n8;have pD:=I8.pin (s2.heap.objs.size,_) (bH _ (fD _ aH));refine append_at (hsz:=by show its.toArray.size<=sizeLine;rw[aY,←rv.length];exact eE hz) pD.1 λh9 hs9 hD9=>?_;have hD9':h9.get? s2.heap.objs.size=some {cls:=.type "list",data:=.seq (its++ [y]).toArray (n+1)}:=by rw[hD9,Sa]
    have J8:=IJ I CS hsc hN f I8.unpinned;have hDf:s2.heap.objs.size∉fp:=λhb=>cV _ (fl _ hb);refine⟨m',hm,i+1,vs++ [yv],its++ [y],n+1,H8,?_,rv.append (.cons r8 .nil),T.keep _ _ _ (keepI I8).1 λb hb o e=>hs9.extBut b o (λq=>hDf (q▸hb)) e,(keepI I8).2,w8⟩;have J9:Ag (F0 X (xs++ys) scope H2.objs.size s2 H fp) [] (EK xs.length js σ) H8 s8:=J8.pins_of λp hp=>absurd hp (by simp);have J9':Ag (F0 X (xs++ys) scope H2.objs.size s2 H fp) [] (EK xs.length js σ) H8 {s8 with heap:=h9,toks:=s8.toks}:=J9.turned (it:=s2.heap.objs.size) (λb o hb e=>hs9.extBut b o hb e) pD.2.1 hDC (.inr (aI _))
     (λx c e z=>by
       obtain⟨v,o,ho,_⟩:=I.cell x c (BO e);exact(below c (aM ho)).2 z) (λp hp=>absurd (show p∈([]:Pq)++ [] from hp) (by simp))
    refine J9'.pins_of λp hp=>?_;have e:p=(s2.heap.objs.size,{cls:=.type "list",data:=.seq (its++ [y]).toArray (n+1)}):=by simpa using hp
    subst e;exact⟨hD9',pD.2.1,hDC,pD.2.2.2.1,λv z=>by cases z⟩
  exact Sw (fp:=fp) I CS hsc hN f fl hCle (aI _) hDC hns1 old hacc (λv z=>by cases z)
 exact codeAny_compStart_list (loop _ rfl) (T.self X.A 0 _ _ _ t1 (loop _ rfl))
def IQ(ok:X.Ok)(CS:C6 scope sc N0 xs ys js)(hsc:X.env.scope=sc):closureFor scope X.env=pure (Do X.env.cells scope.names []):=VE λy hy e=>by
 have h:=CS.fr y hy e;rw[←hsc]at h;exact ok.has y.1 h
def Lq(I:Ag X pins σ H s)(hn:H C=none)(hL:C≠X.env.locals)(h0:X.s₀.heap.objs.size<=C)(hcl:∀x c,X.env.cells.lookup x=some c->c≠C)(hp:∀p∈X.pn++pins,p.1≠C)
 (hs:Heap.SameBut C s.heap h'):Ag X pins σ H {s with heap:=h'}:=I.turned (t':=s.toks) (it:=C) (λb o hb e=>hs.extBut b o hb e) hn hL (.inr h0) hcl hp
def UN(CS:C6 scope sc N0 xs ys js)(hc:X.calm=true)(hi:PI X tg iter wi)(hg:∀C s2 H fp,PG (F0 X (xs++ys) scope C s2 H fp) tg g)(hq:∀C s2 H fp,PQ (F0 X (xs++ys) scope C s2 H fp) ifs tc)
 (he:∀C s2 H fp,PE (F0 X (xs++ys) scope C s2 H fp) elt te)(hsc:X.env.scope=sc:=by rfl)(hN:X.N=N0:=by rfl)(hs:∀x,foldedSetIterable iter X.env x=pure x:=by intro _;rfl) :
 PE X (.ListComp elt [⟨tg,iter,ifs,0⟩] scope pos) (Q5 xs.length js wi g tc te):=by
 intro pins s σ H Q I h;rw[eval_ListComp];refine wpAny_comprehension_free (use:=none) rfl hs (IQ I.ok CS hsc) CS.kind CS.loc (AV (hi pins s σ H _ I h) λv s1 h1=>AV h1 λitv s2 h2=>?_);obtain⟨it,fp,tn,J,H2,e,I2,T,t2,f2,hw⟩:=h2;subst e;refine Hu (RR:=λacc C=>compPost (model X.prog X.w) X.A X.xe none (EP X pins σ Q) acc C) CS hsc hN hc I2 T t2 f2 hg hq he hw ?_;intro D C H' vs s' hm I' hD hCD hC hL h0 hcl hp fn;obtain⟨m,hm⟩:=hm;refine⟨m,hm,λh' hs'=>⟨.ref D,_,Lq I' (by rw[Aa hCD];exact hC) hL h0 hcl hp hs',rfl,fn D hD⟩⟩
def Mn{i:Nat}{y:Str}(CS:C6 scope sc N0 xs ys js)(hc:X.calm=true)(hNd:X.N.Nodup)(hiy:X.N[i]?=some y)(hy:X.env.scope.names.lookup y=some .local)
 (hi:PI X tg iter wi)(hg:∀C s2 H fp,PG (F0 X (xs++ys) scope C s2 H fp) tg g)(hq:∀C s2 H fp,PQ (F0 X (xs++ys) scope C s2 H fp) ifs tc)
 (he:∀C s2 H fp,PE (F0 X (xs++ys) scope C s2 H fp) elt te)(hsc:X.env.scope=sc:=by rfl)(hN:X.N=N0:=by rfl)(hs:∀x,foldedSetIterable iter X.env x=pure x:=by intro _;rfl)
 (hsw:swapsWith (.ListComp elt [⟨tg,iter,ifs,0⟩] scope pos) (some (.Name y py)) spos.line X.env=pure true:=by rfl) :
 PS X (.Assign [.Name y py] (.ListComp elt [⟨tg,iter,ifs,0⟩] scope pos) spos) (Ua (Q5 xs.length js wi g tc te) (Lu i)):=by
 intro pins s σ H Dn I h;rw[exec_Assign_Name_used _ _ _ _ hsw];refine a8 (hJ (a8 ?_));show wpAny _ X.A (do let _ ←comprehension (.ListComp elt [⟨tg,iter,ifs,0⟩] scope pos) scope X.env _ (newList []) false (eval iter X.env) (some (assign (.Name y py) X.env))) _ _ s;refine a8 (cI (wpAny_comprehension_free (use:=some (assign (.Name y py) X.env)) (Q:=λ_ s'=>SP X pins Dn .next s') rfl hs (IQ I.ok CS hsc) CS.kind CS.loc
  (AV (hi pins s σ H _ I h) λv s1 h1=>AV h1 λitv s2 h2=>?_)) (λ_ s' hq=>aF (aF hq)) λ_ _ e=>e)
 obtain⟨it,fp,tn,J,H2,e,I2,T,t2,f2,hw⟩:=h2;subst e;refine Hu (RR:=λacc C=>compPost (model X.prog X.w) X.A X.xe (some (assign (.Name y py) X.env)) (λ_ s'=>SP X pins Dn .next s') acc C) CS hsc hN hc I2 T t2 f2 hg hq he hw ?_;intro D C H' vs s' hm I' hD hCD hC hL h0 hcl hp fn;obtain⟨m,hm⟩:=hm;show wpAny _ X.A (assign (.Name y py) X.env (.ref D)) _ _ _;refine wpAny_assign_Name (Im (v:=.ref D) I' hNd hiy (.inl hy) rfl (λs2 I2 hch=>?_) (.inr hy));obtain⟨a,sb,ha⟩:=hch;have hCa:C≠a:=by
  rcases ha with ha|ha
  ·rw[ha];exact hL
  exact λz=>hcl y a ha z.symm
 refine⟨m,hm.sameBut sb hCa,λh' hs'=>?_⟩;exact⟨_,_,Lq I2 (by rw[Aa hCD];exact hC) hL h0 hcl hp hs',fn D hD⟩
end
def WR(i j:Int):Prop:=0<j/\j<10000000000000000000000000000000000000000
def Te{i j:Int}(h:WR i j):Builtin.divisionGoesByPylong i j=false:=by
 obtain⟨h1,h2⟩:=h;refine PyProof.noPylong_of_log2 ?_;have h0:j.natAbs≠0:=by lia
 have h3:j.natAbs<2^200:=by
  have e:(2:Nat)^200=1606938044258990275541962092341162602522202993782792835301376:=by decide
  rw[e]
  lia
 have:=(Nat.log2_lt h0).mpr h3
 lia
section
def RD:BH X (binaryOp .FloorDiv) (rI WR λi j=>.int (i / j)):=ZZ λi j _ _ _ _ _ hc q=>by
 have h1:=hc.1;exact floordiv_int (by lia) (by rw[hU i (by lia)];exact q) (.inl (Te hc))
noncomputable def Z4:V->Option Value
 |.ty n=>some (.type n)
 |.ref C=>some (.ref C)
 |_=>none
def LB(h:Z4 c=some cv)(r:Au c u):u=cv:=by
 cases c with
 |ty n=>cases h;exact r
 |ref C=>cases h;exact r
 |_=>cases h
def Cy:Ba X (.builtin "isinstance") (λxs H Q=>E5 λx c t cv b=>A5 (xs=[x,c]) (Z4 c=some cv) (DZ X.K H x t) (PySem.W.kitOne X.K t cv=some b) (Q (.bl b) H)):=by
 intro pins s σ H xs us Q I r h;obtain⟨x,c,t,cv,b,rfl,hc,ht,hk,q⟩:=h;obtain⟨u,w',rfl,rx,rc⟩:=FE r;have e:=LB hc rc;subst e;exact Pu I rx ht hk λtk=>⟨.bl b,H,I.tok _,rfl,q⟩
def BV{K:Fq}{n:String}:PySem.W.kitOne K (.type n) (.type n)=some true:=by
 unfold PySem.W.kitOne;rw[if_pos (beq_self_eq_true _)]
def AB{K:Fq}{a c:String}{b:Bool}(h1:(Value.type a ==Value.type c)=false)(h2:PySem.W.kitMeta c=true)(h3:(fastBuiltinMro a).map (·.contains (Value.type c))=some b) :
 PySem.W.kitOne K (.type a) (.type c)=some b:=by
 unfold PySem.W.kitOne;rw[if_neg (by rw[h1];exact aB)];show(if PySem.W.kitMeta c=true then PySem.W.subIn K (.type a) (.type c) else none)=some b;rw[if_pos h2];exact h3
section
variable {K:Fq}
def JI:PySem.W.kitOne K (.type "bool") (.type "int")=some true:=AB (by decide +kernel) (by decide +kernel) (by decide +kernel)
def J7:PySem.W.kitOne K (.type "NoneType") (.type "int")=some false:=AB (by decide +kernel) (by decide +kernel) (by decide +kernel)
def Lh:PySem.W.kitOne K (.type "str") (.type "int")=some false:=AB (by decide +kernel) (by decide +kernel) (by decide +kernel)
def JB:PySem.W.kitOne K (.type "list") (.type "int")=some false:=AB (by decide +kernel) (by decide +kernel) (by decide +kernel)
def HN:PySem.W.kitOne K (.type "tuple") (.type "int")=some false:=AB (by decide +kernel) (by decide +kernel) (by decide +kernel)
def JG:PySem.W.kitOne K (.type "dict") (.type "int")=some false:=AB (by decide +kernel) (by decide +kernel) (by decide +kernel)
def JE:PySem.W.kitOne K (.type "int") (.type "bool")=some false:=AB (by decide +kernel) (by decide +kernel) (by decide +kernel)
def HS:PySem.W.kitOne K (.type "NoneType") (.type "bool")=some false:=AB (by decide +kernel) (by decide +kernel) (by decide +kernel)
def J5:PySem.W.kitOne K (.type "str") (.type "bool")=some false:=AB (by decide +kernel) (by decide +kernel) (by decide +kernel)
def HU:PySem.W.kitOne K (.type "list") (.type "bool")=some false:=AB (by decide +kernel) (by decide +kernel) (by decide +kernel)
def Hd:PySem.W.kitOne K (.type "tuple") (.type "bool")=some false:=AB (by decide +kernel) (by decide +kernel) (by decide +kernel)
def HX:PySem.W.kitOne K (.type "dict") (.type "bool")=some false:=AB (by decide +kernel) (by decide +kernel) (by decide +kernel)
def Lk:PySem.W.kitOne K (.type "int") (.type "str")=some false:=AB (by decide +kernel) (by decide +kernel) (by decide +kernel)
def JH:PySem.W.kitOne K (.type "bool") (.type "str")=some false:=AB (by decide +kernel) (by decide +kernel) (by decide +kernel)
def J6:PySem.W.kitOne K (.type "NoneType") (.type "str")=some false:=AB (by decide +kernel) (by decide +kernel) (by decide +kernel)
def JA:PySem.W.kitOne K (.type "list") (.type "str")=some false:=AB (by decide +kernel) (by decide +kernel) (by decide +kernel)
def HM:PySem.W.kitOne K (.type "tuple") (.type "str")=some false:=AB (by decide +kernel) (by decide +kernel) (by decide +kernel)
def JF:PySem.W.kitOne K (.type "dict") (.type "str")=some false:=AB (by decide +kernel) (by decide +kernel) (by decide +kernel)
def HV:PySem.W.kitOne K (.type "int") (.type "tuple")=some false:=AB (by decide +kernel) (by decide +kernel) (by decide +kernel)
def Hi:PySem.W.kitOne K (.type "bool") (.type "tuple")=some false:=AB (by decide +kernel) (by decide +kernel) (by decide +kernel)
def He:PySem.W.kitOne K (.type "NoneType") (.type "tuple")=some false:=AB (by decide +kernel) (by decide +kernel) (by decide +kernel)
def Hf:PySem.W.kitOne K (.type "list") (.type "tuple")=some false:=AB (by decide +kernel) (by decide +kernel) (by decide +kernel)
def HQ:PySem.W.kitOne K (.type "str") (.type "tuple")=some false:=AB (by decide +kernel) (by decide +kernel) (by decide +kernel)
def Hh:PySem.W.kitOne K (.type "dict") (.type "tuple")=some false:=AB (by decide +kernel) (by decide +kernel) (by decide +kernel)
end
inductive Kd where
 |non|bl|int|str|lst|tup|dct
 deriving DecidableEq
noncomputable def Kd.nm:Kd->String
 |.non=> "NoneType" | .bl=> "bool" | .int=> "int" | .str=> "str" | .lst=> "list" | .tup=> "tuple" | .dct=> "dict"
def kj(K:PySem.W.Frag)(H:Hp)(x:V)(k:Kd):Prop:=DZ K H x (.type k.nm)
noncomputable def Kd.isA:Kd->Kd->Bool
 |.bl,.int=>true
 |a,b=>decide (a=b)
def Hg{K:Fq}{a c:Kd}(hc:c=.int\/c=.bl\/c=.str\/c=.tup):PySem.W.kitOne K (.type a.nm) (.type c.nm)=some (a.isA c):=by
 rcases hc with rfl|rfl|rfl|rfl
 ·cases a<;>first|exact BV|exact JI|exact J7|exact Lh|exact JB|exact HN|exact JG
 ·cases a<;>first|exact BV|exact JE|exact HS|exact J5|exact HU|exact Hd|exact HX
 ·cases a<;>first|exact BV|exact Lk|exact J6|exact JH|exact JA|exact HM|exact JF
 cases a<;>first|exact BV|exact HV|exact He|exact Hi|exact Hf|exact HQ|exact Hh
end
noncomputable def pW(x:Str):It:=⟨λi _=>i<x.cps.size,λi H v H'=>H'=H/\∃c,x.cps[i]?=some c/\v=.str ⟨#[c]⟩,λi _=>i=x.cps.size⟩
def Ko{P:Program}{w:World}{K:Fq}{tg:Expr}(it:Addr)(ty:String)(x:Str)(t:Tok)(hty: ["enumerate","zip","dict_itemiterator","dict_reverseitemiterator","odict_iterator","itertools.zip_longest","itertools.pairwise"].contains ty=false)
 (W:∀A':Around,A'.handled=none->Walks P w A' it [it] [it] x.cps.size (SignAt x) (λi h=>h.IsStrIter it ty x t i))
 (slf:∀(A:Around) (i:Nat) (s:Shared) (Q:Vq) (E:Vq),s.heap.IsStrIter it ty x t i->Q (.ref it) s->wpAny (model P w) A (pyIter (.ref it)) Q E s) :
 Kb P w K tg (pW x) [it] it (λi h=>h.IsStrIter it ty x t i) where
 mem:=by simp
 obj:=λi h st b hb=>by
  have e:b=it:=by simpa using hb
  subst e;obtain⟨o,e,c,d⟩:=st;exact⟨o,e,λv z=>by rw[d]at z;cases z⟩
 keep:=λi h h' st k=>by
  obtain⟨o,e,r⟩:=st;exact⟨o,k it (by simp) o e,r⟩
 item:=by
  intro X hP hw hK hc i pins s σ H E I hf st hg;subst hP hw hK;obtain⟨f0,f1,f2,f3,f4,f5⟩:=hf it (by simp);refine(W X.A (I.ok.hd hc)).item i s _ _ hg st λv h' tk hv st' kk=>?_;obtain⟨c,u,ec,rfl⟩:=hv;have I1:Ag X pins σ H {s with heap:=h',toks:=tk}:=I.turned (λb o hb e=>kk b o (by simpa using hb) e) f0 f1 f3 f4 f5;obtain⟨o,e,cc,d⟩:=id st';exact⟨_,rfl,Ls (s:={s with heap:=h',toks:=tk}) e cc d hty ⟨.str ⟨#[c]⟩,H,I1,⟨u,rfl⟩,⟨rfl,c,ec,rfl⟩,st',λb hb=>(hf b hb).1⟩⟩
 done:=by
  intro X hP hw hK hc i pins s σ H E I hf st hg;subst hP hw hK;obtain⟨f0,f1,f2,f3,f4,f5⟩:=hf it (by simp);have e:i=x.cps.size:=hg;subst e;exact(W X.A (I.ok.hd hc)).done s _ _ st λh' tk kk=>⟨rfl,I.turned (λb o hb e=>kk b o (by simpa using hb) e) f0 f1 f3 f4 f5⟩
 self:=slf
section
theorem Ny:∀{bs:List Bool}{its:List Value},Ap (bs.map V.bl) its->its=bs.map Value.bool
 |[],_,.nil=>rfl
 |b::bs,_,.cons r t=>by
  cases r;rw[Ny t];rfl
def PN(hc:X.calm=true):Ba X (.builtin "all") (λxs H Q=>∃(p:Addr) (bs:List Bool),xs=[.ref p]/\Dp X.K H p (bs.map V.bl)/\Q (.bl (bs.all id)) H):=by
 intro pins s σ H xs us Q I r h;obtain⟨p,bs,rfl,hq,q⟩:=h;obtain⟨u,rfl,ru⟩:=BR r;cases ru;obtain⟨its,rv,pl,hz⟩:=I.list hq;have e:=Ny rv;subst e;have hlt:p<s.heap.objs.size:=by obtain⟨o,n,e,_⟩:=pl;exact aM e
 refine call_all_walk (hZ pl.isList ?_);refine⟨s.heap.objs.size,_,[s.heap.objs.size],_,_,_,λi=>bs.getD i true,rfl,Walks.list (A:=X.A.in1) (show X.A.in1.handled=none from I.ok.hd hc) s.heap.objs.size p (aW hlt) (bs.map Value.bool).toArray,⟨⟨_,aL _ rfl,rfl,rfl⟩,pl.isList.push _⟩,?_,λh' tk hk=>?_⟩
 ·intro i v s' Q' E' hP hQ';have hP:((bs.map Value.bool).toArray)[i]?=some v:=hP;rw[iP,aJ]at hP;cases e:bs[i]? with
  |none=>rw[e]at hP;cases hP
  |some b=>
   rw[e]at hP;cases hP;refine cS ?_;have e':bs.getD i true=b:=by rw[dS,e];rfl
   have hQ':Q' (bs.getD i true) s':=hQ';rw[e']at hQ';exact hQ'
 have e:(List.range (bs.map Value.bool).toArray.size).all (λi=>bs.getD i true)=bs.all id:=by
  rw[bW];simp only[List.size_toArray,List.length_map,List.all_eq_true,List.mem_range,id];constructor
  ·intro h b hb;obtain⟨i,hi,e⟩:=cD.mp hb;have:=h i hi;rw[dS,aN hi,e]at this;exact this
  intro h i hi;rw[dS,aN hi];exact h _ (eK hi)
 rw[e];exact⟨.bl (bs.all id),H,I.kept λb o e=>hk b o (by simp;exact aW (aM e)) (aD _ e),rfl,q⟩
def Pk:ag X "int.bit_length" (λx xs H Q=>∃i,x=.int i/\xs=[]/\Q (.int (Builtin.Int.intBits i)) H):=by
 intro pins s σ H x xs v us Q I rx rs h;obtain⟨i,rfl,rfl,q⟩:=h;obtain⟨t,rfl⟩:=rx;cases rs;exact call_int_bit_length ⟨.int _,H,I.tok _,⟨_,rfl⟩,q⟩
end
section
def KQ:BH X (binaryOp .Add) (λx y H Q=>E3 λa b ys=>A5 (x=.ref a) (y=.ref b) (Eg X.K H a []) (Eg X.K H b ys) (Q (.ref b) H)):=by
 intro pins s σ H x y v u Q I rx ry h;obtain⟨a,b,ys,rfl,rfl,ha,hb,q⟩:=h;cases rx;cases ry;obtain⟨its,r1,p1,_⟩:=I.tuple ha;obtain⟨its2,r2,p2,_⟩:=I.tuple hb;cases r1;obtain⟨⟨cls,dd,data,sl⟩,ho,hc,n,hd⟩:=id p1;obtain⟨⟨cls2,dd2,data2,sl2⟩,ho2,hc2,n2,hd2⟩:=id p2;simp only at hc hd hc2 hd2;subst hc hd hc2 hd2;exact concat_meets ⟨_,ho,rfl⟩ ⟨_,ho2,rfl⟩ iB seq_tuple_add PySem.F.slot_tuple_add PySem.F.entry_tuple_add (PySem.F.args_tuple_add_2 _ _)
  (tuple_addW0 a b _ its2.toArray n n2 dd dd2 sl sl2 rfl) ⟨ho,ho2,⟨.ref b,H,I,rfl,q⟩⟩
def RE:BH X (binaryOp .Add) (λx y H Q=>E4 λa b xs ys=>A8 (x=.ref a) (y=.ref b) (Eg X.K H a xs) (Eg X.K H b ys) (ys≠[]) (xs.length+ys.length<=sizeLine) (xs=[]->Q (.ref b) H) (∀p,H p=none->Q (.ref p) (upd H p (.tup (xs++ys))))):=by
 intro pins s σ H x y v u Q I rx ry h;obtain⟨a,b,xs,ys,e1,e2,ha,hb,hy,hz,q1,q2⟩:=h;by_cases c:xs=[]
 ·subst c;exact KQ pins s σ H x y v u Q I rx ry ⟨a,b,ys,e1,e2,ha,hb,q1 rfl⟩
 exact NH pins s σ H x y v u Q I rx ry ⟨a,b,xs,ys,e1,e2,ha,hb,c,hz,λh=>absurd h hy,λ_=>q2⟩
end
section
variable {κ:Type} [DecidableEq κ]
noncomputable def EC(kvs:List (κ×V))(k:κ):Option V:=(kvs.find? λkv=>decide (kv.1=k)).map (·.2)
noncomputable def FY(kvs:List (κ×V))(k:κ)(v:V):List (κ×V):=
 if (kvs.any λkv=>decide (kv.1=k))=true then kvs.map (λkv=>if kv.1=k then(kv.1,v) else kv) else kvs++ [(k,v)]
def Dt{p:κ×V}(e:p.1=k):EC (p::r) k=some p.2:=by simp[EC,List.find?_cons,e]
def Du{p:κ×V}(e:¬p.1=k):EC (p::r) k=EC r k:=by simp[EC,List.find?_cons,e]
theorem Km(k:κ):∀kvs:List (κ×V),(kvs.any λkv=>decide (kv.1=k))=(EC kvs k).isSome
 |[]=>rfl
 |p::r=>by
  rw[cX];by_cases e:p.1=k
  ·simp only[Dt e,decide_eq_true e,Bool.true_or,Option.isSome_some]
  rw[Du e,bI e,Bool.false_or];exact Km k r
def FM(kvs:List (κ×V))(k:κ)(v:V):(FY kvs k v).length<=kvs.length+1:=by
 unfold FY;split
 ·rw[aC];lia
 rw[aV,cN,List.length_nil];lia
def DG.isSome_eq(r:DG o u):o.isSome=u.isSome:=by
 cases o with
 |none=>cases u with
  |none=>rfl
  |some _=>exact(show False from r).elim
 |some _=>cases u with
  |none=>exact(show False from r).elim
  |some _=>rfl
def KV.val(r:KV kvs vs)(k:κ):DG (EC kvs k) (valueAt vs k):=by
 unfold KV at r
 induction r with
 |nil=>exact True.intro
 |@cons p q ps qs h t ih=>
  obtain⟨h1,h2⟩:=h;by_cases e:p.1=k
  ·have e':q.1=k:=h1.symm.trans e;have b:valueAt (q::qs) k=some q.2:=by simp[valueAt,List.find?_cons,e']
   rw[Dt e,b];exact h2
  have e': ¬q.1=k:=λz=>e (h1.trans z);have b:valueAt (q::qs) k=valueAt qs k:=by simp[valueAt,List.find?_cons,e']
  rw[Du e,b];exact ih
theorem KV.any(r:KV kvs vs)(k:κ):(kvs.any λkv=>decide (kv.1=k))=vs.any λkv=>decide (kv.1=k):=by
 unfold KV at r
 induction r with
 |nil=>rfl
 |cons h t ih=>rw[cX,cX,ih,h.1]
def KV.repl(r:KV kvs vs)(k:κ)(ry:Au y u) :
 KV (kvs.map λkv=>if kv.1=k then(kv.1,y) else kv) (vs.map λkv=>if kv.1=k then(kv.1,u) else kv):=by
 unfold KV at r ⊢
 induction r with
 |nil=>exact .nil
 |@cons p q ps qs h t ih=>
  rw[aK,aK];refine .cons ?_ ih;obtain⟨h1,h2⟩:=h;by_cases e:p.1=k
  ·rw[if_pos e,if_pos (h1.symm.trans e)];exact⟨h1,ry⟩
  rw[if_neg e,if_neg (λz=>e (h1.trans z))];exact⟨h1,h2⟩
def KV.put(r:KV kvs vs)(k:κ)(ry:Au y u):KV (FY kvs k y) (stored vs k u):=by
 unfold FY stored;rw[r.any k];by_cases e:(vs.any λkv=>decide (kv.1=k))=true
 ·rw[if_pos e,if_pos e];exact r.repl k ry
 rw[if_neg e,if_neg e];exact Paired.snoc r ⟨rfl,ry⟩
theorem KV.length(r:KV kvs vs):kvs.length=vs.length:=Paired.length r
end
def IH(r:Au (kV k) u):(Ai P w).is k u=true:=by
 cases k with
 |inl i=>obtain⟨t,e⟩:=(show ∃t,u=Value.int i t from r);subst e;exact Lb P w i t
 |inr x=>obtain⟨t,e⟩:=(show ∃t,u=Value.str x t from r);subst e;exact La P w x t
theorem II:∀{ks:List Key}{us:List Value},Ap (ks.map kV) us->ItemsAre (Ai P w) ks us
 |[],_,r=>by rw[iC]at r;cases r;exact .nil
 |k::ks,_,r=>by
  rw[aK]at r;cases r with
  |cons h t=>exact .cons (IH h) (II t)
abbrev KT(H:Hp):List (List Key×V)->List (List Key×Addr×Value)->Prop:=Paired λp q=>p.1=q.1/\H q.2.1=some (.tup (p.1.map kV))/\Au p.2 q.2.2
def KT.val(r:KT H kvs xs)(k:List Key):DG (EC kvs k) ((atKey xs k).map (·.2)):=by
 induction r with
 |nil=>exact True.intro
 |@cons p q ps qs h t ih=>
  obtain⟨h1,_,h2⟩:=h;by_cases e:p.1=k
  ·have e':q.1=k:=h1.symm.trans e;have b:atKey (q::qs) k=some q.2:=by simp[atKey,List.find?_cons,e']
   rw[Dt e,b];exact h2
  have e': ¬q.1=k:=λz=>e (h1.trans z);have b:atKey (q::qs) k=atKey qs k:=by simp[atKey,List.find?_cons,e']
  rw[Du e,b];exact ih
def KT.repl(r:KT H kvs xs)(k:List Key)(ry:Au y u) :
 KT H (kvs.map λkv=>if kv.1=k then(kv.1,y) else kv) (xs.map (putAt k u)):=by
 induction r with
 |nil=>exact .nil
 |@cons p q ps qs h t ih=>
  rw[aK,aK];refine .cons ?_ ih;obtain⟨h1,h2,h3⟩:=h;unfold putAt;by_cases e:p.1=k
  ·rw[if_pos e,if_pos (h1.symm.trans e)];exact⟨h1,h2,ry⟩
  rw[if_neg e,if_neg (λz=>e (h1.trans z))];exact⟨h1,h2,h3⟩
def KT.put(r:KT H kvs xs)(k:List Key)(hb:H b=some (.tup (k.map kV)))(ry:Au y u) :
 KT H (FY kvs k y) (storedH xs k b u):=by
 have e:(kvs.any λkv=>decide (kv.1=k))=(atKey xs k).isSome:=by
  rw[Km,(r.val k).isSome_eq,i4]
 unfold FY storedH;rw[e];by_cases q:(atKey xs k).isSome=true
 ·rw[if_pos q,if_pos q];exact r.repl k ry
 rw[if_neg q,if_neg q];exact Paired.snoc r ⟨rfl,hb,ry⟩
def KT.keeps(r:KT H kvs xs)(ht:∀b ys,H b=some (.tup ys)->H' b=some (.tup ys)):KT H' kvs xs:=
 Paired.mapP r λ_ _ z=>⟨z.1,ht _ _ z.2.1,z.2.2⟩
section
def Wq(ok:Dk P w H h)(e:Rd H a u):AE P w H h a u:=e.ok ok
def FS(ok:Dk P w H h)(e:Rd H a (.dK kvs)):kvs.length<=sizeLine/\(a ==sysModules)=false/\∃vs,KV kvs vs/\h.DictOf (Ai P w) a vs:=
 show AE P w H h a (.dK kvs) from Wq ok e
def j6(ok:Dk P w H h)(e:H a=some (.dK kvs)):kvs.length<=sizeLine/\(a ==sysModules)=false/\∃vs,KV kvs vs/\h.DictOf (Ai P w) a vs:=FS ok (.inl e)
def Fu(ok:Dk P w H h)(e:H a=some (.tup (ks.map kV))):(tupleKind (Ai P w)).is h ks a:=by
 obtain⟨_,its,r,o,h1,h2,n,h3⟩:=(show AE P w H h a (.tup (ks.map kV)) from ok a _ e);exact⟨o,its.toArray,n,h1,h2,h3,by simpa using II r⟩
def IN(ok:Dk P w H h)(e:Rd H a (.dT kvs)):kvs.length<=sizeLine/\(a ==sysModules)=false/\
 ∃xs,KT H kvs xs/\h.DictOfH (tupleKind (Ai P w)) a xs:=by
 obtain⟨z,y,xs,r,o,es,ep,h1,h2,h3,h4,h5⟩:=(show AE P w H h a (.dT kvs) from Wq ok e);refine⟨z,y,xs,r,o,es,ep,h1,h2,h3,h4,λx hx=>?_,h5⟩;have all:∀{l:List (List Key×V)}{m:List (List Key×Addr×Value)},KT H l m->∀x∈m,(tupleKind (Ai P w)).is h x.1 x.2.1:=by
  intro l m q
  induction q with
  |nil=>intro x hx;exact nomatch hx
  |@cons p q ps qs hq t ih=>
   intro x hx;rcases aU.mp hx with e|hx
   ·subst e;exact Fu ok (by rw[←hq.1];exact hq.2.1)
   exact ih x hx
 exact all r x hx
def j5(ok:Dk P w H h)(e:H a=some (.dT kvs)):kvs.length<=sizeLine/\(a ==sysModules)=false/\
 ∃xs,KT H kvs xs/\h.DictOfH (tupleKind (Ai P w)) a xs:=IN ok (.inl e)
end
def Tx(H:Hp)(a:Addr)(y:V)(r:Option V):Prop:=
 (∃kvs k,Rd H a (.dK kvs)/\y=kV k/\r=EC kvs k)\/E3 λkvs k b=>A4 (Rd H a (.dT kvs)) (y=.ref b) (H b=some (.tup (k.map kV))) (r=EC kvs k)
def kq(H:Hp)(a:Addr)(y v:V)(H':Hp):Prop:=
 (E2 λkvs k=>A4 (H a=some (.dK kvs)) (y=kV k) (kvs.length<sizeLine) (H'=upd H a (.dK (FY kvs k v))))\/
 E3 λkvs k b=>A5 (H a=some (.dT kvs)) (y=.ref b) (H b=some (.tup (k.map kV))) (kvs.length<sizeLine) (H'=upd H a (.dT (FY kvs k v)))
section
def Ag.big(I:Ag X pins σ H s):sysModules<s.heap.objs.size:=by
 have h:=(I.mod.glob.keeps I.bk).lt;exact Nat.lt_trans (by decide) h
def P7(hu:A.units+1<cLine)(I:Ag X pins σ H s)(g:Tx H a y (some v))(ry:Au y u)(h:∀w' s',Ag X pins σ H s'->Au v w'->Q w' s') :
 wpAny (model X.prog X.w) A (getItem (.ref a) u) Q E s:=by
 rcases g with⟨kvs,k,e,ey,l⟩|⟨kvs,k,b,e,ey,eb,l⟩
 ·subst ey;obtain⟨z,hd,vs,rel,dd⟩:=FS I.hok e;obtain⟨w',hw,rw'⟩:=DG.some_of (v:=v) (o:=valueAt vs k) (by rw[l];exact rel.val k);exact wpAny_getItem_of (IH ry) dd.mapOf hw (h w' _ (I.tok _) rw')
 subst ey;cases (show u=Value.ref b from ry);obtain⟨z,hd,xs,rel,dd⟩:=IN I.hok e;obtain⟨w',hw,rw'⟩:=DG.some_of (v:=v) (o:=(atKey xs k).map (·.2)) (by rw[l];exact rel.val k);obtain⟨p,hp,hp2⟩:=aG.mp hw;refine wpAny_getItem_heap (fN hu) (Fu I.hok eb) dd hp ?_;rw[hp2];exact h w' _ (I.tok _) rw'
def oY(hu:A.units+1<cLine)(I:Ag X pins σ H s)(g:Tx H a y o)(ry:Au y u)(h:∀s',Ag X pins σ H s'->Q (.bool o.isSome) s') :
 wpAny (model X.prog X.w) A (compareOp .In u (.ref a)) Q E s:=by
 rcases g with⟨kvs,k,e,ey,l⟩|⟨kvs,k,b,e,ey,eb,l⟩
 ·subst ey;obtain⟨z,hd,vs,rel,dd⟩:=FS I.hok e;refine wpAny_in_of (IH ry) hd dd.mapOf ?_;rw[←(rel.val k).isSome_eq,←l];exact h _ (I.tok _)
 subst ey;cases (show u=Value.ref b from ry);obtain⟨z,hd,xs,rel,dd⟩:=IN I.hok e;refine wpAny_in_heap (fN hu) (Fu I.hok eb) hd dd ?_;have q:=(rel.val k).isSome_eq;rw[i4]at q;rw[←q,←l];exact h _ (I.tok _)
def V9(hu:A.units+1<cLine)(I:Ag X pins σ H s)(g:Tx H a y o)(ry:Au y u)(h:∀s',Ag X pins σ H s'->Q (.bool (!o.isSome)) s') :
 wpAny (model X.prog X.w) A (compareOp .NotIn u (.ref a)) Q E s:=by
 rcases g with⟨kvs,k,e,ey,l⟩|⟨kvs,k,b,e,ey,eb,l⟩
 ·subst ey;obtain⟨z,hd,vs,rel,dd⟩:=FS I.hok e;refine wpAny_notIn_of (IH ry) hd dd.mapOf ?_;rw[←(rel.val k).isSome_eq,←l];exact h _ (I.tok _)
 subst ey;cases (show u=Value.ref b from ry);obtain⟨z,hd,xs,rel,dd⟩:=IN I.hok e;refine wpAny_notIn_heap (fN hu) (Fu I.hok eb) hd dd ?_;have q:=(rel.val k).isSome_eq;rw[i4]at q;rw[←q,←l];exact h _ (I.tok _)
def Op{t':Nat}(I:Ag X pins σ H s)(mu:kh (H a))(hs:Heap.SameBut a s.heap h')(he:∃q,h'.get? a=some q)(new:AE X.prog X.w (upd H a ob) h' a ob) :
 Ag X pins σ (upd H a ob) {s with heap:=h',toks:=t'}:=
 I.write (x:=a) (e:=a) mu (.inl rfl) (λb q hb z=>(hs.2 b hb).trans z) he new
def Zt(z:kvs.length<=sizeLine)(hd:(a ==sysModules)=false)(rel:KV kvs vs)(dd:h'.DictOf (Ai P w) a vs) :
 AE P w H' h' a (.dK kvs):=⟨z,hd,vs,rel,dd⟩
def P6(hu:A.units+1<cLine)(I:Ag X pins σ H s)(g:kq H a y v H')(ry:Au y u)(rv:Au v r)(h:∀s',Ag X pins σ H' s'->Q () s') :
 wpAny (model X.prog X.w) A (setItem (.ref a) u r) Q E s:=by
 rcases g with⟨kvs,k,e,ey,l,eH⟩|⟨kvs,k,b,e,ey,eb,l,eH⟩
 ·subst ey eH;obtain⟨z,hd,vs,rel,dd⟩:=j6 I.hok e;have hz:vs.length<=sizeLine:=by rw[←rel.length];exact z
  have hl:(FY kvs k v).length<=sizeLine:=by have:=FM kvs k v;lia
  refine wpAny_setItem_pairs (hsz:=hz) (IH ry) dd λh' dd' hs=>h _ ?_;have he:∃q,h'.get? a=some q:=let ⟨q,_,_,hq,_⟩:=dd';⟨q,hq⟩;exact Op I (by rw[e];exact True.intro) hs he (Zt hl hd (rel.put k rv) dd')
 subst ey eH;cases (show u=Value.ref b from ry);obtain⟨z,hd,xs,rel,dd⟩:=j5 I.hok e;have hz:xs.length<=sizeLine:=by rw[←Paired.length rel];exact z
 have hl:(FY kvs k v).length<=sizeLine:=by have:=FM kvs k v;lia
 refine wpAny_setItem_heap (hsz:=hz) (fN hu) (Fu I.hok eb) dd λh' dd' hs=>h _ ?_;obtain⟨q,es,ep,hq,h2,h3,h4,_,h5⟩:=dd';refine Op I (by rw[e];exact True.intro) hs ⟨q,hq⟩ ⟨hl,hd,_,(rel.put k eb rv).keeps λc ys ec=>?_,q,es,ep,hq,h2,h3,h4,h5⟩;rw[Aa (GY ec e (λz=>nomatch z))];exact ec
end
section
def j8(I:Ag X pins σ H s)(e:Rd H a (.dK kvs))(h:∀t s',Ag X pins σ H s'->Q (.int kvs.length t) s'):wpAny (model X.prog X.w) A (call (.builtin "len") [.ref a]) Q E s:=by
 obtain⟨z,hd,vs,rel,dd⟩:=FS I.hok e;refine call_len_dict hd dd (by rw[←rel.length];rw[dD]at z;lia) ?_;rw[←rel.length];exact h _ _ (I.tok _)
end
def L5(I:Ag X pins σ H s)(g:Tx H a y o):s.TypeIs (.ref a) "dict":=by
 rcases g with⟨kvs,k,e,_,_⟩|⟨kvs,k,b,e,_,_,_⟩
 ·obtain⟨_,_,vs,_,dd⟩:=FS I.hok e;exact dd.typeIs
 obtain⟨_,_,xs,_,dd⟩:=IN I.hok e;exact dd.typeIs
def gf(td ty tv:TE):TS:=λD σ H=>tv σ H λv H1=>td σ H1 λx H2=>ty σ H2 λy H3=>∃a H4,x=.ref a/\kq H3 a y v H4/\D.nx σ H4
section
def U4(hu:X.A.units+1<cLine)(ho:PE X o td)(hi:PE X i ty)(hv:PE X value tv)(hs:swapsWith value (some (.Subscript o i pos')) pos.line X.env=pure false) :
 PS X (.Assign [.Subscript o i pos'] value pos) (gf td ty tv):=by
 intro pins s σ H D I h;refine wpAny_Assign_Subscript (AV (hv pins s σ H _ I h) λr s1 ⟨v,H1,I1,rv,q1⟩=>AV (ho pins s1 σ H1 _ I1 q1) λu s2 ⟨x,H2,I2,rx,q2⟩=>AV (hi pins s2 σ H2 _ I2 q2) λiv s3 ⟨y,H3,I3,ry,a,H4,ex,g,q3⟩=>?_) hs;subst ex;obtain rfl:u=Value.ref a:=rx;exact P6 hu I3 g ry rv λs4 I4=>⟨σ,H4,I4,q3⟩
end
def SM(h:Heap)(hb:sysModules<h.objs.size):AE P w H (h.push {cls:=.type "dict",data:=.dict #[]}) h.objs.size (.dK []):=
 ⟨dH _,bS.mpr (bM (aW hb)),[],.nil,Heap.DictOf.new h⟩
def SL(h:Heap)(hb:sysModules<h.objs.size):AE P w H (h.push {cls:=.type "dict",data:=.dict #[]}) h.objs.size (.dT []):=
 ⟨dH _,bS.mpr (bM (aW hb)),[],.nil,_,#[],0,aL _ rfl,⟨rfl,rfl,rfl⟩,rfl,rfl,gQ⟩
def Xl:TE:=λ_ H Q=>∀p,H p=none->Q (.ref p) (upd H p (.dK []))
def Xk:TE:=λ_ H Q=>∀p,H p=none->Q (.ref p) (upd H p (.dT []))
section
def R9:PE X (.Dict [] [] pos) Xl:=λpins s σ H Q I h=>
 wpAny_Dict_empty ⟨.ref s.heap.objs.size,_,I.laid (a:=s.heap.objs.size) (o:=.dK []) (t':=s.toks) (λ_ _ q=>aD _ q) (aI _) (SM s.heap I.big),rfl,h _ (I.hok.fresh (aI _))⟩
def R8:PE X (.Dict [] [] pos) Xk:=λpins s σ H Q I h=>
 wpAny_Dict_empty ⟨.ref s.heap.objs.size,_,I.laid (a:=s.heap.objs.size) (o:=.dT []) (t':=s.toks) (λ_ _ q=>aD _ q) (aI _) (SL s.heap I.big),rfl,h _ (I.hok.fresh (aI _))⟩
end
open PySem PySem.Spec PyProof.Rows PySem.SeqAt
mutual
inductive LX(K:PySem.W.Frag)(H:Hp):V->PyData->Prop
 |non:LX K H .non .none
 |bl (b:Bool):LX K H (.bl b) (.bool b)
 |int (i:Int):LX K H (.int i) (.int i)
 |str (x:Str):LX K H (.str x) (.str x)
 |lst {a:Addr}{xs:List V}{ds:List PyData}:Dp K H a xs->HA K H xs ds->LX K H (.ref a) (.list ds)
 |tup {a:Addr}{xs:List V}{ds:List PyData}:Eg K H a xs->HA K H xs ds->LX K H (.ref a) (.tuple ds)
inductive HA(K:PySem.W.Frag)(H:Hp):List V->List PyData->Prop
 |nil:HA K H [] []
 |cons {x:V}{d:PyData}{xs:List V}{ds:List PyData}:LX K H x d->HA K H xs ds->HA K H (x::xs) (d::ds)
end
section
mutual
theorem LX.reads(I:Ag X pins σ H s):∀{x:V}{d:PyData}{u:Value},LX X.K H x d->Au x u->∃as,Reads s.heap u d as
 |_,_,_,.non,r=>by cases r;exact⟨_,.none⟩
 |_,_,_,.bl b,r=>by cases r;exact⟨_,.bool b⟩
 |_,_,_,.int i,r=>by obtain⟨t,rfl⟩:=r;exact⟨_,.int i t⟩
 |_,_,_,.str x,r=>by obtain⟨t,rfl⟩:=r;exact⟨_,.str x t⟩
 |_,_,_,.lst hq hs,r=>by
  cases r;obtain⟨its,rv,pl,hz⟩:=I.list hq;obtain⟨as,ra⟩:=HA.reads I hs rv;obtain⟨o,n,e,hc,hd,dd⟩:=pl;exact⟨_,.list e hc dd (by simpa using ra)⟩
 |_,_,_,.tup hq hs,r=>by
  cases r;obtain⟨its,rv,pl,hz⟩:=I.tuple hq;obtain⟨as,ra⟩:=HA.reads I hs rv;obtain⟨o,e,hc,n,dd⟩:=pl;exact⟨_,.tuple e hc dd (by simpa using ra)⟩
theorem HA.reads(I:Ag X pins σ H s):∀{xs:List V}{ds:List PyData}{us:List Value},HA X.K H xs ds->Ap xs us->∃as,ReadsAll s.heap us ds as
 |_,_,_,.nil,.nil=>⟨_,.nil⟩
 |_,_,_,.cons h hs,.cons r rs=>by
  obtain⟨as,ra⟩:=LX.reads I h r;obtain⟨bs,rb⟩:=HA.reads I hs rs;exact⟨_,.cons ra rb⟩
end
end
section
def gk(K:PySem.W.Frag)(neg:Bool):R2:=λx y H Q=>∃dx dy,LX K H x dx/\LX K H y dy/\shaped dx=true/\shaped dy=true/\Q (.bl (if neg then !PyData.eqv dx dy else PyData.eqv dx dy)) H
def Y4(hu:X.A.units+64<cLine):BH X (compareOp .Eq) (gk X.K false):=by
 intro pins s σ H x y v u Q I rx ry h;obtain⟨dx,dy,hx,hy,sx,sy,q⟩:=h;obtain⟨as,ra⟩:=hx.reads I rx;obtain⟨bs,rb⟩:=hy.reads I ry;exact eq_dataH ra rb sx sy hu (Aw I q rfl)
def Y0(hu:X.A.units+64<cLine):BH X (compareOp .NotEq) (gk X.K true):=by
 intro pins s σ H x y v u Q I rx ry h;obtain⟨dx,dy,hx,hy,sx,sy,q⟩:=h;obtain⟨as,ra⟩:=hx.reads I rx;obtain⟨bs,rb⟩:=hy.reads I ry;exact ne_dataH ra rb sx sy hu (Aw I q rfl)
end
structure PZ(P:Program)(w:World)(K:PySem.W.Frag)(mg:Str->Option Value)(base:Heap)(x:Str)(k:Nat)(ps:List Str)(sp:Sp):Prop where
 ex:E2 λ(f:Addr) (fd:FuncData)=>A4 (DI P w K mg base O5 k f fd ps sp) (mg x=some (.ref f)) (PySem.W.keepIn K (.ref f)=true) (Cn K fd ps [])
def ib{x:Str}{k j:Nat}(F:PZ X.prog X.w X.K X.mg X.base x k ps sp)(hr:Bp j X.A)(hj:k<=j)(hg:Gl X x)(ha:PA X (e::es) t)
 (hdb:(x ==("__debug__" :Str))=false:=by decide)(he:starEach (e::es) X.env=(false,eval e X.env)::starEach es X.env:=by rfl)(hpl:(backTo pos (starEach es X.env)).any (·.1)=false:=by rfl) :
 PE X (.Call (.Name x p) (e::es) [] pos) (Wg sp [] E0 t):=by
 obtain⟨f,fd,G,hm,hk,hb⟩:=F.ex;exact UQ G (hr.mono hj) hg hm hk hb .nil RB ha hdb he hpl
def Ak.new(h:H p=none):Ak H (upd H p o):=λb u e=>by
 rw[Aa (Aj e h)];exact e
section
variable {x:Str}
def R6{z:Str}(hg:Gl X x)(h:∃t,X.mg x=some (.str z t))(hd:(x ==("__debug__" :Str))=false:=by decide):PE X (.Name x pos) (tC (.str z)):=by
 obtain⟨t,e⟩:=h;exact Gm hg e ⟨t,rfl⟩ hd
def R7{i:Int}(hg:Gl X x)(h:∃t,X.mg x=some (.int i t))(hd:(x ==("__debug__" :Str))=false:=by decide):PE X (.Name x pos) (tC (.int i)):=by
 obtain⟨t,e⟩:=h;exact Gm hg e ⟨t,rfl⟩ hd
end
section
theorem GC:∀{ys:List Str}{us:List Value},Ap (ys.map V.str) us->StrsAre us ys
 |[],_,.nil=>.nil
 |y::r,_,.cons h t=>by
  obtain⟨k,rfl⟩:=h;exact .cons y k (GC t)
def Va:ag X "str.join" (λx xs H Q=>∃z a ys,x=.str z/\xs=[.ref a]/\Dp X.K H a (ys.map V.str)/\(ys.map (·.length)).sum+ys.length*z.length<=16777216/\Q (.str (Txt.join z ys)) H):=by
 intro pins s σ H x xs v us Q I rx rs h;obtain⟨z,a,ys,rfl,rfl,hq,hz,q⟩:=h;obtain⟨t,rfl⟩:=rx;obtain⟨u,rfl,ru⟩:=BR rs;cases ru;obtain⟨its,rv,pl,_⟩:=I.list hq;exact join_list pl.isList (by simpa using GC rv) hz λt' k=>⟨.str _,H,I.tok _,⟨_,rfl⟩,q⟩
end
section
def nN:V->Option Int->Option Int->Hp->VK->Prop:=λx lo hi H Q=>∃z,x=.str z/\z.length<=sizeLine/\Q (.str (Txt.slice z lo hi)) H
def Xv:ke X nN:=by
 intro pins s σ H x v vl vu lo hi sl Q I rx hs pl pu h;obtain⟨z,rfl,hz,q⟩:=h;obtain⟨t,rfl⟩:=rx;refine⟨"str",_,PySem.F.slot_str_getitem.lookup,typeIs_str _ _ _,?_⟩;have fin:∀t' k,EP X pins σ Q (.str (Txt.slice z lo hi) t') {s with toks:=k}:=λt' k=>⟨.str _,H,I.tok _,⟨_,rfl⟩,q⟩;cases pl with
 |none=>cases pu with
  |none=>exact eR (l:=none) (u:=none) (st:=none) hs rfl (gE ⟨b9 (iD z _ _) hz,fin⟩)
  |int j uj=>exact eR (l:=none) (u:=some (j,uj)) (st:=none) hs rfl (gE ⟨b9 (iD z _ _) hz,fin⟩)
 |int i ui=>cases pu with
  |none=>exact eR (l:=some (i,ui)) (u:=none) (st:=none) hs rfl (gE ⟨b9 (iD z _ _) hz,fin⟩)
  |int j uj=>exact eR (l:=some (i,ui)) (u:=some (j,uj)) (st:=none) hs rfl (gE ⟨b9 (iD z _ _) hz,fin⟩)
end
structure VU(K:PySem.W.Frag)(mg:Str->Option Value)(x:Str)(C:Addr):Prop where
 mg:mg x=some (.ref C)
 makes:PySem.W.makesIn K C=true
 init:PySem.W.findIn K (.ref C) "__init__"=some (some (.builtin "object.__init__"))
 kp:PySem.W.keepIn K (.ref C)=true
def bz(C:Addr):TE:=λ_ H Q=>∀x dx,H x=none->H dx=none->dx≠x->Q (.ref x) (upd (upd H dx (.own x)) x (.ins C dx []))
section
variable {x m:Str}
def UL(D:VU X.K X.mg x C)(hg:Gl X x)(hdb:(x ==("__debug__" :Str))=false:=by decide):PE X (.Call (.Name x p) [] [] pos) (bz C):=by
 intro pins s σ H Q I h;refine cC (DQ I hg D.mg ?_ hdb);refine PySem.W.callWith_K0 I.kIn D.kp ?_;have hq:=h (s.heap.objs.size+1) s.heap.objs.size (I.hok.fresh (cZ _)) (I.hok.fresh (aI _)) (aW (eF _));have I2:=Ag.made (C:=C) I;refine gB (Pm I.kIn D.makes D.init (λself=>PySem.W.Looks.of_pure (PySem.W.oi_bind self)) ?_);have Y:=PySem.W.makes_of (M:=model X.prog X.w) I.kIn D.makes;have hx:((s.heap.push PySem.W.emptyDict).push (PySem.W.instObj C s.heap.objs.size)).get? (s.heap.objs.size+1)=some (PySem.W.instObj C s.heap.objs.size):=by
  have:=aL (s.heap.push PySem.W.emptyDict) (o:=PySem.W.instObj C s.heap.objs.size) rfl
  rwa[cQ]at this
 have t1:PySem.W.Looks (model X.prog X.w) ((s.heap.push PySem.W.emptyDict).push (PySem.W.instObj C s.heap.objs.size)) (typeOf (.ref (s.heap.objs.size+1))) (.ref C):=(PySem.W.Looks.ld hx).andThen .now;have t2:PySem.W.Looks (model X.prog X.w) ((s.heap.push PySem.W.emptyDict).push (PySem.W.instObj C s.heap.objs.size)) (isInstance (.ref (s.heap.objs.size+1)) (.type "object")) true:=
  t1.andThen (Y.top.keeps λb o e=>aD _ (aD _ e))
 refine codeAny_call_builtin PySem.W.oi_plain PySem.W.entry_oi (@PySem.W.check_slot (model X.prog X.w) _ _ _ "object.__init__" "object" "__init__" (.ref (s.heap.objs.size+1)) [] [] _ PySem.W.oi_kind PySem.W.oi_split t2 (PySem.W.oi_args (.ref (s.heap.objs.size+1))) ?_);rw[PySem.W.oi_run];exact aF (And.intro rfl ⟨V.ref (s.heap.objs.size+1),_,I2,rfl,hq⟩)
structure WM(P:Program)(w:World)(K:PySem.W.Frag)(mg:Str->Option Value)(base:Heap)(CX:WO)(k:Nat)(C:Addr)(m:Str)(ps:List Str)(sp:Sp):Prop where
 out:∃(f:Addr) (fd:FuncData),Tz K C/\ZO K C m f/\DI P w K mg base CX k f fd ps sp/\Cn K fd ps []
def Uu:List V->Hp->VK->Prop:=λxs H Q=>∃j:Int,xs=[.int j]/\∀p,H p=none->Q (.ref p) (upd H p (.rng 0 j))
def LH:Ba X (.type "range") Uu:=by
 intro pins s σ H xs us Q I r h;obtain⟨j,rfl,q⟩:=h;obtain⟨u,rfl,ru⟩:=BR r;obtain⟨t,rfl⟩:=ru;have hn:=I.hok.fresh (aI _);refine call_range_1 ⟨.ref s.heap.objs.size,_,I.laid (t':=s.toks+1+1) (λb o e=>aD _ e) (aI _) ?_,rfl,q _ hn⟩;exact⟨_,_,_,aL _ rfl⟩
def QK:List V->Hp->VK->Prop:=λxs H Q=>∃(p:Addr) (n:Nat),xs=[.ref p]/\H p=some (.rng 0 n)/\n<=1000/\∀l,H l=none->Q (.ref l) (upd H l (.lst ((List.range n).map λ(i:Nat)=>V.int i)))
def JS(hc:X.calm=true):Ba X (.type "list") QK:=by
 intro pins s σ H xs us Q I r h;obtain⟨p,n,rfl,hp,hn,q⟩:=h;obtain⟨u,rfl,ru⟩:=BR r;obtain rfl:u=Value.ref p:=ru;obtain⟨t,u,v,e⟩:=(show AE X.prog X.w H s.heap p (.rng 0 n) from I.hok p _ hp);have hs:sizeLine=16777216:=dD;have hf:H s.heap.objs.size=none:=I.hok.fresh (aI _);refine call_list_range (a:=0) (b:=(n:Int)) (c:=1) (t:=t) (u:=u) (v:=v) (n:=n) (I.ok.hd hc) e (small_one (by lia) (by lia) (by lia) (by lia)) (by rw[rangeSize_one];split<;>lia) (by lia) λh' tk acc' c' hk hl hacc=>?_;refine⟨.ref s.heap.objs.size,_,I.laid (t':=tk) hk (aI _) ?_,rfl,q _ hf⟩;refine⟨by rw[aC,bE];lia,acc'.toList,c',?_,by rw[hl]⟩;obtain⟨h1,h2⟩:=hacc;have key:∀(l:List Value) (k:Nat),(∀i v,l[i]?=some v->∃t,v=Value.int (((k+i:Nat):Int)) t)->Ap ((List.range' k l.length).map λ(i:Nat)=>V.int i) l:=by
  intro l
  induction l with
  |nil=>intro k _;exact .nil
  |cons a r ih=>
   intro k hv;refine .cons ?_ ?_
   ·obtain⟨t,e⟩:=hv 0 a rfl;exact⟨t,by rw[e];simp⟩
   refine ih (k+1) λi v e=>?_;obtain⟨t,z⟩:=hv (i+1) v (by simpa using e);exact⟨t,by rw[z];congr 1;lia⟩
 have z:=key acc'.toList 0 λi v e=>by
  obtain⟨t,z⟩:=h2 i v (by simpa using e);exact⟨t,by rw[z];congr 1;lia⟩
 rw[show acc'.toList.length=n by rw[cA];exact h1,←List.range_eq_range']at z;exact z
def PD(hc:X.calm=true):Ba X (.builtin "min") (λxs H Q=>∃(p:Addr) (ns:List Int),xs=[.ref p]/\Dp X.K H p (ns.map V.int)/\0<ns.length/\∀m∈ns,(∀a∈ns,m<=a)->Q (.int m) H):=by
 intro pins s σ H xs us Q I r h;obtain⟨p,ns,rfl,hq,hn,q⟩:=h;obtain⟨u,rfl,ru⟩:=BR r;cases ru;obtain⟨its,rv,pl,hz⟩:=I.list hq;have hi:=Hl rv;obtain⟨xs,ex⟩:=hi.allInts.items;have el:numsOf its=ns:=hi.numsOf;have hl:=pl.isList;rw[ex]at hl;have nx:numsOf (intItems xs).toList=xs.toList.map (·.1):=nums_intItems xs;have en:xs.toList.map (·.1)=ns:=by rw[←nx,←ex];exact el
 have hsz:0<xs.size:=by
  have:(xs.toList.map (·.1)).length=ns.length:=by rw[en]
  rw[aC,cA]at this
  lia
 refine min_intList (I.ok.hd hc) hl hsz λv h' tk hv hk=>?_;obtain⟨t,rfl⟩:=intItems_at hv;obtain⟨h1,h2⟩:=argBest_lt (numAt xs) (xs.size-1);refine⟨.int _,H,I.kept (t':=tk) hk,⟨t,rfl⟩,q _ ?_ λa ha=>?_⟩
 ·rw[←en,numAt_eq];exact getD_mem (by rw[aC,cA];lia)
 rw[←en]at ha;obtain⟨j,hj,rfl⟩:=mem_getD ha;rw[aC,cA]at hj;rw[←numAt_eq];exact h2 j (by lia)
end
section
structure pZ(P:Program)(w:World)(K:PySem.W.Frag)(mg:Str->Option Value)(base:Heap)(x m:Str)(k:Nat)(ps:List Str)(sp:Sp):Prop where
 ex:E3 λ(G f:Addr) (fd:FuncData)=>A7 (DI P w K mg base O5 k f fd ps sp) (mg x=some (.ref G)) (PySem.W.readsIn K G (.type "type")=true) (PySem.W.findCls K (.ref G) (.type "type") m=some (.val (.ref f))) (PySem.W.specialIn K (.ref G) "__getattribute__"=some (some (.builtin "type.__getattribute__"))) (PySem.W.keepIn K (.ref f)=true) (Cn K fd ps [])
end
open PySem.Builtin.SmallTypes (nextOf)
structure Nx(P:Program)(w:World)(it l:Addr)(us:Array Value)(S:Nat->Heap->Prop):Prop where
 keep:∀k g g',S k g->(∀o,g.get? it=some o->g'.get? it=some o)->(∀o,g.get? l=some o->g'.get? l=some o)->S k g'
 item:∀(A:Around) (E:Value->Shared->Prop) (Q:Value->Shared->Prop) (s:Shared) (k:Nat) (u:Value),S k s.heap->us[k]?=some u->(∀g,S (k+1) g->Heap.SameBut it s.heap g->Q u {s with heap:=g})->wpAny (model P w) A (nextOf (.ref it)) Q E s
 fin:∀(A:Around) (E:Value->Shared->Prop) (Q:Value->Shared->Prop) (s:Shared) (k:Nat),A.handled=none->S k s.heap->us[k]?=none->
  (∀g e,Heap.ExtBut it s.heap g->(∃o,g.get? e=some o/\o.cls=.type "StopIteration")->E (.ref e) {s with heap:=g})->wpAny (model P w) A (nextOf (.ref it)) Q E s
 there:∀k g,S k g->∃o,g.get? it=some o/\∀v,o.data≠ .cell v
section
def UZ(hne:l≠it):Nx P w it l us (λk g=>g.IsListIter it l k/\g.IsList l us) where
 keep:=λk g g' h h1 h2=>⟨h.1.at h1,h.2.at h2⟩
 item:=λA E Q s k u h e q=>wpAny_nextOf_list_item h.1 h.2 e λg h1 sb=>q g ⟨h1,h.2.extBut sb.extBut hne⟩ sb
 fin:=λA E Q s k hh h e q=>wpAny_nextOf_list_end hh h.1 h.2 e q
 there:=λk g h=>by
  obtain⟨o,e,_,d⟩:=h.1;exact⟨o,e,λv z=>by rw[d]at z;cases z⟩
def Qx{k:Nat}(h1:s.heap.IsTupleIter it t k)(h2:s.heap.IsTuple t us)(hu:us[k]?=some u)
 (q:∀g,g.IsTupleIter it t (k+1)->Heap.SameBut it s.heap g->Q u {s with heap:=g}):wpAny (model P w) A (nextOf (.ref it)) Q E s:=by
 obtain⟨oi,ei,ci,di⟩:=id h1;obtain⟨ot,et,_,nt,dt⟩:=h2;unfold nextOf;refine a8 (cB (name:=Str.ofString "__next__") h1.typeIs dU (cU dU h1.typeIs gW ?_ (gR _)));show wpAny _ _ (field (.ref it) 0 >>=_) _ _ _;refine a8 (cE ei di (x:=.ref t) rfl ?_);show wpAny _ _ (if (Value.ref t ==Value.none)=true then _ else _) _ _ _;rw[if_neg (λz=>by cases z)];show wpAny _ _ (field (.ref it) 1 >>=_) _ _ _;refine a8 (cE ei di (x:=.int k 0) rfl ?_);show wpAny _ _ (seqItems? (.ref t) >>=_) _ _ _;refine a8 (cR et dt ?_);simp only[Int.toNat_natCast,hu];refine a8 (gT ei di (by simp) (aF ⟨u,rfl,aF (q _ ?_ (fF ..))⟩));refine⟨_,fA _ ei (Obj.isFreed_of_fields (fO di _)),(Obj.cls_mapFields ..).trans ci,?_⟩;rw[fO di]<;>simp[rawInt]
def TU{k:Nat}(hh:A.handled=none)(h1:s.heap.IsTupleIter it t k)(h2:s.heap.IsTuple t us)(hu:us[k]?=none)
 (q:∀g e,Heap.ExtBut it s.heap g->(∃o,g.get? e=some o/\o.cls=.type "StopIteration")->E (.ref e) {s with heap:=g}):wpAny (model P w) A (nextOf (.ref it)) Q E s:=by
 obtain⟨oi,ei,ci,di⟩:=id h1;obtain⟨ot,et,_,nt,dt⟩:=h2;unfold nextOf;refine a8 (cB (name:=Str.ofString "__next__") h1.typeIs dU (cU dU h1.typeIs gW ?_ (gR _)));show wpAny _ _ (field (.ref it) 0 >>=_) _ _ _;refine a8 (cE ei di (x:=.ref t) rfl ?_);show wpAny _ _ (if (Value.ref t ==Value.none)=true then _ else _) _ _ _;rw[if_neg (λz=>by cases z)];show wpAny _ _ (field (.ref it) 1 >>=_) _ _ _;refine a8 (cE ei di (x:=.int k 0) rfl ?_);show wpAny _ _ (seqItems? (.ref t) >>=_) _ _ _;refine a8 (cR et dt ?_);simp only[Int.toNat_natCast,hu];refine a8 (wpAny_rule (a8 (gT ei di (by simp) ?_)));show wpAny _ _ (newExc (.type "StopIteration") [] >>=_) _ _ _;refine a8 ?_;simp only[newExc,newTuple];refine a8 (cJ ?_ (by size_fits));refine a8 (m:=firstArgMember _ _) (wpAny_of_eq (a:=Value.none) (by first|rfl|(simp only[firstArgMember];rfl)) ?_);refine cJ ?_ (by size_fits);simp only[raiseNew];refine a8 (wpAny_handled ?_)
 first|rw[show A.in1.handled=none from hh]|rw[hh]
 refine a8 (aF (wpAny_throw ?_));exact q _ _ (((fF ..).extBut.push _).push _) ⟨_,aL _ rfl,rfl⟩
def Y9(hne:l≠it):Nx P w it l us (λk g=>g.IsTupleIter it l k/\g.IsTuple l us) where
 keep:=λk g g' h h1 h2=>⟨h.1.at h1,let ⟨o,e,r⟩:=h.2;⟨o,h2 o e,r⟩⟩
 item:=λA E Q s k u h e q=>Qx h.1 h.2 e λg h1 sb=>q g ⟨h1,h.2.extBut sb.extBut hne⟩ sb
 fin:=λA E Q s k hh h e q=>TU hh h.1 h.2 e q
 there:=λk g h=>by
  obtain⟨o,e,_,d⟩:=h.1;exact⟨o,e,λv z=>by rw[d]at z;cases z⟩
end
open PySem.Builtin.SmallTypes (ownedTupleIsFree ownedTupleHandOut)
structure ZA(z TI TO i1 i2 l1 l2:Addr):Prop where
 a:TI≠z/\TO≠z/\i1≠z/\i2≠z/\l1≠z/\l2≠z
 b:TI≠TO/\i1≠TO/\i2≠TO/\l1≠TO/\l2≠TO
 c:TI≠i1/\i2≠i1/\l1≠i1/\l2≠i1
 d:TI≠i2/\l1≠i2/\l2≠i2
section
variable {P:Program}{w:World}{A:Around}{E:Vq}{s:Shared}{z TI TO i1 i2 l1 l2:Addr}{us vs:Array Value}{S1 S2:Nat->Heap->Prop}
def O6{k:Nat}{u v a b:Value}{Q:Vq}(D:ZA z TI TO i1 i2 l1 l2)(N1:Nx P w i1 l1 us S1)(N2:Nx P w i2 l2 vs S2)
 (hz:IsZip s.heap z TI TO .none)(hTI:IsPair s.heap TI (.ref i1) (.ref i2))(hTO:IsPair s.heap TO a b)(h1:S1 k s.heap)(h2:S2 k s.heap)(hu:us[k]?=some u)(hv:vs[k]?=some v)
 (q:∀g,IsZip g z TI TO (rawInt s.heap.objs.size)->IsPair g TO u v->S1 (k+1) g->S2 (k+1) g->IsPair g s.heap.objs.size u v->g.objs.size=s.heap.objs.size+1->
   (∀c o,c≠z->c≠TO->c≠i1->c≠i2->s.heap.get? c=some o->g.get? c=some o)->Q (.ref s.heap.objs.size) {s with heap:=g}) :
 wpAny (model P w) A (Builtin.«zip.__next__» ⟨[.ref z],[]⟩) (λfin s'=>∃v,fin=.done (.ret v)/\Q v s') E s:=by
 obtain⟨⟨d1,d2,d3,d4,d5,d6⟩,⟨d7,d8,d9,d10,d11⟩,⟨d12,d13,d14,d15⟩,d16,d17,d18⟩:=D;show wpAny _ _ (field (.ref z) 2 >>=_) _ _ _;refine a8 (cE hz rfl (x:=.bool false) rfl ?_);show wpAny _ _ (field (.ref z) 3 >>=_) _ _ _;refine a8 (cE hz rfl (x:=.ref TI) rfl (a8 (cR hTI rfl ?_)));show wpAny _ _ (ownedTupleIsFree (.ref z) >>=_) _ _ _;refine a8 ?_;unfold ownedTupleIsFree;refine a8 (cE hz rfl (x:=.none) rfl (aF ?_));simp only[if_true];refine a8 (wpAny_rule (a8 (cE hz rfl (x:=.ref TO) rfl (a8 (dI hz (by simp) λg1 z1 b1=>?_)))))
 replace z1:IsZip g1 z TI TO .ellipsis:=z1
 refine a8 ?_;simp only[List.zipIdx_cons,List.zipIdx_nil,List.forIn_cons,List.forIn_nil];refine a8 (a8 (hV ?_));show wpAny _ _ (nextOf (.ref i1) >>=_) _ _ _;refine a8 (N1.item _ _ _ _ k u (N1.keep k _ _ h1 (λo e=>b1.extBut _ _ d3 e) λo e=>b1.extBut _ _ d5 e) hu λg2 n2 b2=>aF ?_);have t2:IsPair g2 TO a b:=b2.extBut _ _ (bM d8) (b1.extBut _ _ d2 hTO);refine a8 (cR t2 rfl (a8 (gF t2 λg3 t3 b3=>?_)))
 replace t3:IsPair g3 TO u b:=t3
 refine a8 (wpAny_letGo (aF (a8 (a8 (hV ?_)))));show wpAny _ _ (nextOf (.ref i2) >>=_) _ _ _;have y2:S2 k g3:=N2.keep k _ _ h2 (λo e=>b3.extBut _ _ d9 (b2.extBut _ _ d13 (b1.extBut _ _ d4 e))) λo e=>b3.extBut _ _ d11 (b2.extBut _ _ d15 (b1.extBut _ _ d6 e));refine a8 (N2.item _ _ _ _ k v y2 hv λg4 n4 b4=>aF ?_);have t4:IsPair g4 TO u b:=b4.extBut _ _ (bM d9) t3;refine a8 (cR t4 rfl (a8 (gF t4 λg5 t5 b5=>?_)))
 replace t5:IsPair g5 TO u v:=t5
 refine a8 (wpAny_letGo (aF (aF (a8 (cR t5 rfl (a8 (wpAny_newTuple ?_)))))));have sz:g5.objs.size=s.heap.objs.size:=by rw[b5.1,b4.1,b3.1,b2.1,b1.1]
 have z5:IsZip g5 z TI TO .ellipsis:=b5.extBut _ _ (bM d2) (b4.extBut _ _ (bM d4) (b3.extBut _ _ (bM d2) (b2.extBut _ _ (bM d3) z1)));have k5:∀c o,c≠z->c≠TO->c≠i1->c≠i2->s.heap.get? c=some o->g5.get? c=some o:=λc o c1 c2 c3 c4 e=>b5.extBut _ _ c2 (b4.extBut _ _ c4 (b3.extBut _ _ c2 (b2.extBut _ _ c3 (b1.extBut _ _ c1 e))));have m1:S1 (k+1) g5:=N1.keep _ _ _ n2 (λo e=>b5.extBut _ _ d8 (b4.extBut _ _ (bM d13) (b3.extBut _ _ d8 e))) λo e=>b5.extBut _ _ d10 (b4.extBut _ _ d17 (b3.extBut _ _ d10 e));have m2:S2 (k+1) g5:=N2.keep _ _ _ n4 (λo e=>b5.extBut _ _ d9 e) λo e=>b5.extBut _ _ d11 e;have lz:z<g5.objs.size:=aM z5;show wpAny _ _ (ownedTupleHandOut (.ref z) (.ref g5.objs.size) >>=_) _ _ _;refine a8 ?_;unfold ownedTupleHandOut;have z6:IsZip (g5.push {cls:=.type "tuple",data:=.seq #[u,v]}) z TI TO .ellipsis:=aD _ z5;refine a8 (dI z6 (by simp) λg7 z7 b7=>?_)
 replace z7:IsZip g7 z TI TO (rawInt g5.objs.size):=z7
 refine dI z7 (by simp) λg8 z8 b8=>?_
 replace z8:IsZip g8 z TI TO (rawInt g5.objs.size):=z8
 have up:∀c o,c≠z->g5.get? c=some o->g8.get? c=some o:=λc o c1 e=>b8.extBut _ _ c1 (b7.extBut _ _ c1 (aD _ e));have t8:IsPair g8 g5.objs.size u v:=b8.extBut _ _ (fL lz) (b7.extBut _ _ (fL lz) (aL _ rfl));have sz8:g8.objs.size=g5.objs.size+1:=by rw[b8.1,b7.1,cQ]
 rw[sz]at z8 t8 sz8;refine aF ⟨_,rfl,?_⟩;show Q (.ref g5.objs.size) _;rw[sz];exact q g8 z8 (up _ _ d2 t5) (N1.keep _ _ _ m1 (λo e=>up _ o d3 e) λo e=>up _ o d5 e) (N2.keep _ _ _ m2 (λo e=>up _ o d4 e) λo e=>up _ o d6 e) t8 sz8 λc o c1 c2 c3 c4 e=>up c o c1 (k5 c o c1 c2 c3 c4 e)
def Qp{k:Nat}(hh:A.handled=none)(D:ZA z TI TO i1 i2 l1 l2)(N1:Nx P w i1 l1 us S1)(N2:Nx P w i2 l2 vs S2)
 (hz:IsZip s.heap z TI TO .none)(hTI:IsPair s.heap TI (.ref i1) (.ref i2))(hTO:IsPair s.heap TO a b)(h1:S1 k s.heap)(h2:S2 k s.heap)(hend:us[k]?=none\/vs[k]?=none)
 (q:∀g e,(∀c o,c≠z->c≠TO->c≠i1->c≠i2->s.heap.get? c=some o->g.get? c=some o)->(∃o,g.get? e=some o/\o.cls=.type "StopIteration")->E (.ref e) {s with heap:=g}) :
 wpAny (model P w) A (Builtin.«zip.__next__» ⟨[.ref z],[]⟩) Q E s:=by
 obtain⟨⟨d1,d2,d3,d4,d5,d6⟩,⟨d7,d8,d9,d10,d11⟩,⟨d12,d13,d14,d15⟩,d16,d17,d18⟩:=D;show wpAny _ _ (field (.ref z) 2 >>=_) _ _ _;refine a8 (cE hz rfl (x:=.bool false) rfl ?_);show wpAny _ _ (field (.ref z) 3 >>=_) _ _ _;refine a8 (cE hz rfl (x:=.ref TI) rfl (a8 (cR hTI rfl ?_)));show wpAny _ _ (ownedTupleIsFree (.ref z) >>=_) _ _ _;refine a8 ?_;unfold ownedTupleIsFree;refine a8 (cE hz rfl (x:=.none) rfl (aF ?_));simp only[if_true];refine a8 (wpAny_rule (a8 (cE hz rfl (x:=.ref TO) rfl (a8 (dI hz (by simp) λg1 z1 b1=>?_)))))
 replace z1:IsZip g1 z TI TO .ellipsis:=z1
 refine a8 ?_;simp only[List.zipIdx_cons,List.zipIdx_nil,List.forIn_cons,List.forIn_nil];refine a8 (a8 (hV ?_));show wpAny _ _ (nextOf (.ref i1) >>=_) _ _ _;have y1:=N1.keep k _ _ h1 (λo e=>b1.extBut _ _ d3 e) λo e=>b1.extBut _ _ d5 e;cases hu:us[k]? with
 |none=>
  refine a8 (N1.fin _ _ _ _ k hh y1 hu λg2 e b2 he=>?_);obtain⟨oe,eo,ec⟩:=he;have z2:=b2 _ _ (bM d3) z1;have nez:e≠z:=λy=>by subst y;rw[z2]at eo;cases eo;simp at ec
  exact dI z2 (by simp) λg3 _ b3=>q g3 e (λc o c1 _ c3 _ y=>b3.extBut _ _ c1 (b2 _ _ c3 (b1.extBut _ _ c1 y))) ⟨oe,b3.extBut _ _ nez eo,ec⟩
 |some u=>
  have hv:=hend.resolve_left λy=>by rw[hu]at y;cases y
  refine a8 (N1.item _ _ _ _ k u y1 hu λg2 n2 b2=>aF ?_);have t2:=b2.extBut _ _ (bM d8) (b1.extBut _ _ d2 hTO);refine a8 (cR t2 rfl (a8 (gF t2 λg3 t3 b3=>?_)));refine a8 (wpAny_letGo (aF (a8 (a8 (hV ?_)))));show wpAny _ _ (nextOf (.ref i2) >>=_) _ _ _;have y2:=N2.keep k _ _ h2 (λo e=>b3.extBut _ _ d9 (b2.extBut _ _ d13 (b1.extBut _ _ d4 e))) λo e=>b3.extBut _ _ d11 (b2.extBut _ _ d15 (b1.extBut _ _ d6 e));refine a8 (N2.fin _ _ _ _ k hh y2 hv λg4 e b4 he=>?_);obtain⟨oe,eo,ec⟩:=he;have z4:=b4 _ _ (bM d4) (b3.extBut _ _ (bM d2) (b2.extBut _ _ (bM d3) z1));have nez:e≠z:=λy=>by subst y;rw[z4]at eo;cases eo;simp at ec
  exact dI z4 (by simp) λg5 _ b5=>q g5 e (λc o c1 c2 c3 c4 y=>b5.extBut _ _ c1 (b4 _ _ c4 (b3.extBut _ _ c2 (b2.extBut _ _ c3 (b1.extBut _ _ c1 y))))) ⟨oe,b5.extBut _ _ nez eo,ec⟩
def Mz{k:Nat}(D:ZA z TI TO i1 i2 l1 l2)(N1:Nx P w i1 l1 us S1)(N2:Nx P w i2 l2 vs S2)
 (hz:IsZip s.heap z TI TO .none)(hTI:IsPair s.heap TI (.ref i1) (.ref i2))(hTO:IsPair s.heap TO a b)(h1:S1 k s.heap)(h2:S2 k s.heap)(hu:us[k]?=some u)(hv:vs[k]?=some v)
 (q:∀g,IsZip g z TI TO (rawInt s.heap.objs.size)->IsPair g TO u v->S1 (k+1) g->S2 (k+1) g->IsPair g s.heap.objs.size u v->g.objs.size=s.heap.objs.size+1->
   (∀c o,c≠z->c≠TO->c≠i1->c≠i2->s.heap.get? c=some o->g.get? c=some o)->Q (some (.ref s.heap.objs.size)) {s with heap:=g}):wpAny (model P w) A (pyNext (.ref z)) Q E s:=by
 have hT:s.TypeIs (.ref z) "zip":=⟨_,hz,rfl⟩;unfold pyNext;exact a8 (fX (cB (name:=Str.ofString "__next__") hT gG (cU gG hT F.entry_zip_next
  (O6 D N1 N2 hz hTI hTO h1 h2 hu hv λg a1 a2 a3 a4 a5 a6 a7=>aF (q g a1 a2 a3 a4 a5 a6 a7)) (F.args_zip_next_1 _))))
def Pi{k:Nat}(hh:A.handled=none)(D:ZA z TI TO i1 i2 l1 l2)(N1:Nx P w i1 l1 us S1)(N2:Nx P w i2 l2 vs S2)
 (hz:IsZip s.heap z TI TO .none)(hTI:IsPair s.heap TI (.ref i1) (.ref i2))(hTO:IsPair s.heap TO a b)(h1:S1 k s.heap)(h2:S2 k s.heap)(hend:us[k]?=none\/vs[k]?=none)
 (q:∀g,(∀c o,c≠z->c≠TO->c≠i1->c≠i2->s.heap.get? c=some o->g.get? c=some o)->Q none {s with heap:=g}):wpAny (model P w) A (pyNext (.ref z)) Q E s:=by
 have hT:s.TypeIs (.ref z) "zip":=⟨_,hz,rfl⟩;unfold pyNext;refine a8 (fX (cB (name:=Str.ofString "__next__") hT gG (cU gG hT F.entry_zip_next
  (Qp hh D N1 N2 hz hTI hTO h1 h2 hend λg e kk he=>?_) (F.args_zip_next_1 _))))
 obtain⟨o,eo,ec⟩:=he;exact a8 (iE (T:= "StopIteration") (b:=true) ⟨o,eo,ec⟩ isSubtype_stop (aF (q _ kk)))
end
noncomputable def jk:Bool->String
 |false=> "list_iterator"
 |true=> "tuple_iterator"
def Dq:Bool->Heap->Addr->Array Value->Prop
 |false=>Heap.IsList
 |true=>Heap.IsTuple
def FB:Bool->Heap->Addr->Addr->Nat->Prop
 |false=>Heap.IsListIter
 |true=>Heap.IsTupleIter
theorem Dq.push(h:Dq b g l us)(o:Obj):Dq b (g.push o) l us:=by
 cases b
 ·exact Heap.IsList.push h o
 exact Heap.IsTuple.push h o
def Dq.lt(h:Dq b g l us):l<g.objs.size:=by
 cases b<;>(obtain⟨o,e,_⟩:=h;exact aM e)
def JK(h:g.get? it=some ⟨.type (jk b),dd,.fields #[.ref l,.int 0 0],sl⟩):FB b g it l 0:=by
 cases b<;>exact⟨_,h,rfl,rfl⟩
def Iz(hne:l≠it):Nx P w it l us (λk g=>FB b g it l k/\Dq b g l us):=by
 cases b
 ·exact UZ hne
 exact Y9 hne
noncomputable abbrev T7(b:Bool)(l:Addr):Obj:={cls:=.type (jk b),data:=.fields #[.ref l,.int 0 0]}
noncomputable abbrev kS(g:Heap)(b1:Bool)(l1:Addr):Heap:=g.push (T7 b1 l1)
noncomputable abbrev kR(g:Heap)(b1 b2:Bool)(l1 l2:Addr):Heap:=(kS g b1 l1).push (T7 b2 l2)
noncomputable abbrev kQ(g:Heap)(b1 b2:Bool)(l1 l2:Addr):Heap:=(kR g b1 b2 l1 l2).push {cls:=.type "tuple",data:=.seq #[.ref g.objs.size,.ref (kS g b1 l1).objs.size]}
noncomputable abbrev kP(g:Heap)(b1 b2:Bool)(l1 l2:Addr):Heap:=(kQ g b1 b2 l1 l2).push {cls:=.type "tuple",data:=.seq #[.none,.none]}
noncomputable abbrev ZW(g:Heap)(b1 b2:Bool)(l1 l2:Addr):Heap:=(kP g b1 b2 l1 l2).push {cls:=.type "zip",data:=.fields #[.none,.bool false,.bool false,.ref (kR g b1 b2 l1 l2).objs.size,.ref (kQ g b1 b2 l1 l2).objs.size]}
def DS(h:Dq b s.heap l us)(q:Q (.ref s.heap.objs.size) {s with heap:=s.heap.push (T7 b l)}):wpAny (model P w) A (pyIter (.ref l)) Q E s:=by
 cases b
 ·exact hZ h q
 exact gX h q
def Qn(b1 b2:Bool)(l1 l2:Addr)(us vs:Array Value):Meets (Builtin.«zip.__new__» ⟨[.type "zip",.ref l1,.ref l2],[]⟩) (λ_ R s=>Dq b1 s.heap l1 us/\Dq b2 s.heap l2 vs/\R (.ok (.ret (.ref (kP s.heap b1 b2 l1 l2).objs.size))) {s with heap:=ZW s.heap b1 b2 l1 l2}):=
 .of_wp λP w A R s h=>by
  obtain⟨hp,g,d,tk,os⟩:=s;obtain⟨y1,y2,h⟩:=h;have ez:=sub_zip;have e1:Dq b1 (Shared.heap ⟨hp,g,d,tk,os⟩) l1 us:=y1;have e2:Dq b2 (Shared.heap ⟨hp.push (T7 b1 l1),g,d,tk,os⟩) l2 vs:=Dq.push y2 _
  wp_walk using DS e1,DS e2
  exact⟨_,rfl,h⟩
def PC(y1:Dq b1 s.heap l1 us)(y2:Dq b2 s.heap l2 vs)
 (q:∀g,IsZip g (s.heap.objs.size+4) (s.heap.objs.size+2) (s.heap.objs.size+3) .none->IsPair g (s.heap.objs.size+2) (.ref s.heap.objs.size) (.ref (s.heap.objs.size+1))->IsPair g (s.heap.objs.size+3) .none .none->
   FB b1 g s.heap.objs.size l1 0->FB b2 g (s.heap.objs.size+1) l2 0->(∀c o,s.heap.get? c=some o->g.get? c=some o)->Q (.ref (s.heap.objs.size+4)) {s with heap:=g}):wpAny (model P w) A (call (.type "zip") [.ref l1,.ref l2]) Q E s:=by
 refine callType_new F.called_zip (by decide) (F.typeCall_zip_2 _ _) (F.newCall_zip_2 _ _) (λobj=>F.args_object_init_3 obj _ _) F.entry_zip_new (Qn b1 b2 l1 l2 us vs) ⟨y1,y2,?_⟩;have n1:(kS s.heap b1 l1).objs.size=s.heap.objs.size+1:=cQ ..;have n2:(kR s.heap b1 b2 l1 l2).objs.size=s.heap.objs.size+2:=by rw[cQ,n1]
 have n3:(kQ s.heap b1 b2 l1 l2).objs.size=s.heap.objs.size+3:=by rw[cQ,n2]
 have n4:(kP s.heap b1 b2 l1 l2).objs.size=s.heap.objs.size+4:=by rw[cQ,n3]
 have up:=λg o c x (e:g.get? c=some x)=>aD (h:=g) o e;have p5:(ZW s.heap b1 b2 l1 l2).get? (kP s.heap b1 b2 l1 l2).objs.size=some _:=aL _ rfl;have p4:(ZW s.heap b1 b2 l1 l2).get? (kQ s.heap b1 b2 l1 l2).objs.size=some _:=up _ _ _ _ (aL _ rfl);have p3:(ZW s.heap b1 b2 l1 l2).get? (kR s.heap b1 b2 l1 l2).objs.size=some _:=up _ _ _ _ (up _ _ _ _ (aL _ rfl));have p2:(ZW s.heap b1 b2 l1 l2).get? (kS s.heap b1 l1).objs.size=some _:=up _ _ _ _ (up _ _ _ _ (up _ _ _ _ (aL _ rfl)));have p1:(ZW s.heap b1 b2 l1 l2).get? s.heap.objs.size=some _:=up _ _ _ _ (up _ _ _ _ (up _ _ _ _ (up _ _ _ _ (aL _ rfl))));show _/\_;rw[n2,n3,n4]at p5;rw[n1,n2]at p3;rw[n3]at p4;rw[n1]at p2;rw[n4];exact⟨⟨_,p5,rfl⟩,q _ p5 p3 p4 (JK p1) (JK p2) λc o x=>up _ _ _ _ (up _ _ _ _ (up _ _ _ _ (up _ _ _ _ (up _ _ _ _ x))))⟩
def HE(K:PySem.W.Frag)(H:Hp):Bool->Addr->List V->Prop
 |false=>Dp K H
 |true=>Eg K H
def Ag.sqb(I:Ag X pins σ H s)(h:HE X.K H b a xs):∃its:List Value,Ap xs its/\Dq b s.heap a its.toArray/\xs.length<=sizeLine:=by
 cases b
 ·obtain⟨its,r,p,z⟩:=I.list h;exact⟨its,r,p.isList,z⟩
 obtain⟨its,r,p,z⟩:=I.tuple h;exact⟨its,r,p,z⟩
def Ag.sqb_inj(I:Ag X pins σ H s)(h:HE X.K H b a xs)(h':HE X.K H b a ys):xs=ys:=by
 cases b
 ·exact I.list_inj h h'
 exact I.tuple_inj h h'
theorem FB.at{k:Nat}(h:FB b g it l k)(e:∀o,g.get? it=some o->g'.get? it=some o):FB b g' it l k:=by
 cases b
 ·exact Heap.IsListIter.at h e
 exact Heap.IsTupleIter.at h e
def FB.obj{k:Nat}(h:FB b g it l k):∃o,g.get? it=some o/\∀v,o.data≠ .cell v:=by
 cases b<;>(obtain⟨o,e,_,d⟩:=h;exact⟨o,e,λv z=>by rw[d]at z;cases z⟩)
section
variable {X:Cx}{pins:Pq}{σ:St}{H H':Hp}{s:Shared}{ch:List Addr}{h':Heap}{t':Nat}
def j0(hf:∀c∈ch,DH X pins H c)(q:H c=some o)(hd:d=c\/H d=some (.own b)):d∉ch:=λz=>by
 have e:=(hf d z).1;rcases hd with q3|q3
 ·rw[q3,q]at e;cases e
 rw[q3]at e;cases e
def Ag.movedH(I:Ag X pins σ H s)(hf:∀c∈ch,DH X pins H c)(nin:∀c o,c∉ch->s.heap.get? c=some o->h'.get? c=some o)(fr:∀b,b<s.heap.objs.size->H b=none->H' b=none)(up:∀c o,H c=some o->H' c=some o)(new:∀c o,H' c=some o->H c=none->AE X.prog X.w H' h' c o) :
 Ag X pins σ H' {s with heap:=h',gens:=s.gens,drawn:=s.drawn,toks:=t'}:=
 I.step (ch:=ch) (λc hc=>have f:=(hf c hc).2;⟨f.2.2.1,f.1,f.2.2.2⟩) (λc o _ _ hc q _=>nin c o hc q) (λc o _ _ hc q _=>⟨o.slots,nin c o hc q⟩) (λc o hc q n=>fr c (aM q) n) (λc o hc q=>⟨o,nin c o hc q⟩)
  (λc _ q=>up c _ q) (λc _ _ q=>up c _ q) (λc _ q=>⟨#[],(up c _ q).trans (by rw[Array.append_empty])⟩) (λm ⟨o,es',ep',ho,r⟩=>⟨o,es',ep',nin _ o (λz=>(hf _ z).2.1 rfl) ho,r⟩)
  (λc o q=>by
    cases e:H c with
    |none=>exact new c o q e
    |some o'=>
     obtain rfl:o'=o:=bJ ((up c _ e).symm.trans q);exact(I.hok c _ e).stay (λd v hd r=>nin d v (j0 hf e hd) r) (λd q2=>up d _ q2) λd _ q2=>up d _ q2) I.bare
def Ag.moved(I:Ag X pins σ H s)(hf:∀c∈ch,DH X pins H c)(nin:∀c o,c∉ch->s.heap.get? c=some o->h'.get? c=some o):Ag X pins σ H {s with heap:=h',gens:=s.gens,drawn:=s.drawn,toks:=t'}:=
 I.movedH hf nin (λ_ _ n=>n) (λ_ _ q=>q) λc o q n=>by rw[n]at q;cases q
def Ag.movedT(I:Ag X pins σ H s)(hf:∀c∈ch,DH X pins H c)(nin:∀c o,c∉ch->s.heap.get? c=some o->h'.get? c=some o)(hl:xs.length<=sizeLine)(r:Ap xs us)
 (hp:h'.get? s.heap.objs.size=some {cls:=.type "tuple",data:=.seq us.toArray}):Ag X pins σ (upd H s.heap.objs.size (.tup xs)) {s with heap:=h',gens:=s.gens,drawn:=s.drawn,toks:=t'}:=
 I.movedH hf nin (λb hb n=>by rw[Aa (aW hb)];exact n) (λc o q=>by rw[Aa (Aj q (I.hok.fresh (aI _)))];exact q) λc o q n=>by
  by_cases hc:c=s.heap.objs.size
  ·subst hc;rw[Ac]at q;cases q;exact⟨hl,us,r,_,hp,rfl,_,rfl⟩
  rw[Aa hc,n]at q;cases q
end
noncomputable def pY(K:PySem.W.Frag)(b1 b2:Bool)(a b:Addr):It:=
 ⟨λi H=>∃xs ys x y,HE K H b1 a xs/\HE K H b2 b ys/\xs[i]?=some x/\ys[i]?=some y,
  λi H v H'=>∃p x y,v=.ref p/\H p=none/\(∀xs,HE K H b1 a xs->xs[i]?=some x)/\(∀ys,HE K H b2 b ys->ys[i]?=some y)/\H'=upd H p (.tup [x,y]),
  λi H=>∃xs ys,HE K H b1 a xs/\HE K H b2 b ys/\(xs.length<=i\/ys.length<=i)⟩
section
variable {b1 b2:Bool}{a b z TI TO i1 i2:Addr}{i:Nat}{h:Heap}
inductive pP(b1 b2:Bool)(a b z TI TO i1 i2:Addr)(i:Nat)(h:Heap):Prop
 |mk (u v:Value) (s1:IsZip h z TI TO .none) (s2:IsPair h TI (.ref i1) (.ref i2)) (s3:IsPair h TO u v) (s4:FB b1 h i1 a i) (s5:FB b2 h i2 b i)
def iy(v:Option Value):Data.fields ps≠ .cell v:=λz=>by cases z
def iw{x}(v:Option Value):Data.seq ps x≠ .cell v:=λz=>by cases z
theorem pP.obj(st:pP b1 b2 a b z TI TO i1 i2 i h):∀c∈ [z,TI,TO,i1,i2],∃o,h.get? c=some o/\∀v,o.data≠ .cell v:=by
 obtain⟨u,v,s1,s2,s3,s4,s5⟩:=st;refine eA.mpr ⟨⟨_,s1,iy⟩,eA.mpr ⟨⟨_,s2,iw⟩,eA.mpr ⟨⟨_,s3,iw⟩,eA.mpr ⟨s4.obj,i9.mpr s5.obj⟩⟩⟩⟩
def iu(hc:c∉ [z,TI,TO,i1,i2]):A4 (c≠z) (c≠TO) (c≠i1) (c≠i2):=
 ⟨λq=>hc (by simp[q]),λq=>hc (by simp[q]),λq=>hc (by simp[q]),λq=>hc (by simp[q])⟩
end
def OB{P:Program}{w:World}{K:Fq}{es:List Expr}{x1}{tp:Pos}(b1 b2:Bool)(a b z TI TO i1 i2:Addr)(D:ZA z TI TO i1 i2 a b) :
 Kb P w K (.Tuple es x1 tp) (pY K b1 b2 a b) [z,TI,TO,i1,i2] z (pP b1 b2 a b z TI TO i1 i2) where
 mem:=by simp
 obj:=λi h st=>st.obj
 keep:=λi h h' ⟨u,v,s1,s2,s3,s4,s5⟩ k=>⟨u,v,k z (by simp) _ s1,k TI (by simp) _ s2,k TO (by simp) _ s3,s4.at λo q=>k i1 (by simp) o q,s5.at λo q=>k i2 (by simp) o q⟩
 item:=by
  intro X hP hw hK hc i pins s σ H E I hf st hg;subst hP hw hK;obtain⟨xs,ys,x,y,hq,hq2,hx,hy⟩:=hg;have st':=st;obtain⟨u0,v0,s1,s2,s3,s4,s5⟩:=st;obtain⟨its,rv,p,_⟩:=I.sqb hq;obtain⟨its2,rv2,p2,_⟩:=I.sqb hq2;obtain⟨u,hu,ru⟩:=rv.get hx;obtain⟨v,hv,rv'⟩:=rv2.get hy;refine Mz D (Iz (b:=b1) D.c.2.2.1) (Iz (b:=b2) D.d.2.2) s1 s2 s3 ⟨s4,p⟩ ⟨s5,p2⟩ (u:=u) (v:=v) (by simpa using hu) (by simpa using hv) λh' e1 e2 e3 e4 e5 sz kk=>⟨_,rfl,?_⟩;refine wpAny_letOwnedTupleGo_zip (s:={s with heap:=h'}) e1 λh2 e6 sb=>?_;have tk:∀{c:Addr}{o:Obj},c≠z->h'.get? c=some o->h2.get? c=some o:=λn q=>(sb.2 _ n).trans q;refine⟨.ref s.heap.objs.size,upd H s.heap.objs.size (.tup [x,y]),I.movedT hf (λc o hc q=>?_) (by rw[dD];simp) (.cons ru (.cons rv' .nil)) (tk (bM (aW (aM s1))) e5),rfl,
   ⟨_,x,y,rfl,I.hok.fresh (aI _),λzs hz=>by rw[I.sqb_inj hz hq];exact hx,λzs hz=>by rw[I.sqb_inj hz hq2];exact hy,rfl⟩,⟨u,v,e6,tk D.a.1 (kk TI _ D.a.1 D.b.1 D.c.1 D.d.1 s2),tk D.a.2.1 e2,e3.1.at λo q=>tk D.a.2.2.1 q,e4.1.at λo q=>tk D.a.2.2.2.1 q⟩,λc hc=>?_⟩
  ·obtain⟨n1,n2,n3,n4⟩:=iu hc;exact tk n1 (kk c o n1 n2 n3 n4 q)
  obtain⟨o,q,_⟩:=st'.obj c hc;rw[Aa (aW (aM q))];exact(hf c hc).1
 done:=by
  intro X hP hw hK hc i pins s σ H E I hf st hg;subst hP hw hK;obtain⟨xs,ys,hq,hq2,hx⟩:=hg;obtain⟨u0,v0,s1,s2,s3,s4,s5⟩:=st;obtain⟨its,rv,p,_⟩:=I.sqb hq;obtain⟨its2,rv2,p2,_⟩:=I.sqb hq2;refine Pi (I.ok.hd hc) D (Iz (b:=b1) D.c.2.2.1) (Iz (b:=b2) D.d.2.2) s1 s2 s3 ⟨s4,p⟩ ⟨s5,p2⟩ (hx.imp (λh=>by rw[rv.length]at h;simpa using h) λh=>by rw[rv2.length]at h;simpa using h) λh' eb=>⟨rfl,I.moved hf λc o hc q=>?_⟩;obtain⟨n1,n2,n3,n4⟩:=iu hc;exact eb c o n1 n2 n3 n4 q
 self:=λA i s Q E ⟨_,_,s1,_,_,_,_⟩ h=>wpAny_pyIter_zip s1 h
def Tj:bootBuiltins "zip"=some (.type "zip"):=by decide +kernel
def WV{n a b:Nat}(ha:a<n)(hb:b<n):ZA (n+4) (n+2) (n+3) n (n+1) a b:=
 have e:∀{x y:Nat},x<y->x≠y:=λh=>aW h;have e': ∀{x y:Nat},y<x->x≠y:=λh=>fL h
 ⟨⟨e (by lia),e (by lia),e (by lia),e (by lia),e (by lia),e (by lia)⟩,⟨e (by lia),e (by lia),e (by lia),e (by lia),e (by lia)⟩,⟨e' (by lia),e' (by lia),e (by lia),e (by lia)⟩,e' (by lia),e (by lia),e (by lia)⟩
def jo(K:PySem.W.Frag)(t:TA):TI:=λσ H R=>t σ H λvs H1=>∃b1 b2 a b,vs=[.ref a,.ref b]/\(∃xs,HE K H1 b1 a xs)/\(∃ys,HE K H1 b2 b ys)/\R (pY K b1 b2 a b) H1
section
def U7{a b:Expr}{ta:TA}{p pos:Pos}{es:List Expr}{x1}{tp:Pos}(hg:Gl X "zip")(hm:X.mg "zip"=none)(ha:PA X [a,b] ta)(hs:starEach [a,b] X.env=[(false,eval a X.env),(false,eval b X.env)]:=by rfl)(hs2:starEach [b] X.env=[(false,eval b X.env)]:=by rfl) :
 PI X (.Tuple es x1 tp) (.Call (.Name "zip" p) [a,b] [] pos) (jo X.K ta):=by
 intro pins s σ H R I h;refine Call_ (CY I hg hm Tj (cL (AV (ha pos pins s σ H _ I h) λus s1 ⟨vs,H1,I1,r1,q1⟩=>?_) (by rw[hs,hs2]) (by rw[hs2];rfl)));obtain⟨b1,b2,l,m,e,⟨xs,hq⟩,⟨ys,hq2⟩,q⟩:=q1;subst e;obtain⟨u,v,rfl,ru,rv0⟩:=FE r1;obtain rfl:u=Value.ref l:=ru;obtain rfl:v=Value.ref m:=rv0;obtain⟨its,rv,pl,_⟩:=I1.sqb hq;obtain⟨its2,rv2,pl2,_⟩:=I1.sqb hq2;refine PC pl pl2 λh' e1 e2 e3 e4 e5 hk=>?_;refine wpAny_pyIter_zip (s:={s1 with heap:=h'}) e1 ?_;refine⟨s1.heap.objs.size+4,[s1.heap.objs.size+4,s1.heap.objs.size+2,s1.heap.objs.size+3,s1.heap.objs.size,s1.heap.objs.size+1],_,_,H1,rfl,I1.kept (t':=s1.toks) hk,OB b1 b2 l m _ _ _ _ _ (WV pl.lt pl2.lt),⟨_,_,e1,e2,e3,e4,e5⟩,λc hc=>?_,q⟩;simp only[List.mem_cons,List.not_mem_nil,or_false]at hc;have le:s1.heap.objs.size<=c:=by rcases hc with z|z|z|z|z<;>(rw[z];first|exact aI _|exact iF _ _)
 exact I1.fpOk le (I1.hok.fresh le)
end
def oG(K:PySem.W.Frag)(n:Nat)(t:ZG):TG:=λv σ H Q=>∃a xs,v=.ref a/\Dp K H a xs/\xs.length=n/\t xs σ H Q
def UK{k:Nat}{n:Nat}(K:Fq)(hc:X.calm=true)(h:WL X es t)(hK:X.K=K:=by rfl)
 (hn:(assignEach es X.env).length=n:=by rfl)(hst:(assignEach es X.env).findIdx? (·.1)=none:=by rfl):PG X (.Tuple es k pos) (oG K n t):=by
 subst hK;intro pins s σ H v u Q I r hw;obtain⟨a,xs,e1,hq,hl,hw⟩:=hw;subst e1;cases r;obtain⟨its,rv,ht,hz⟩:=I.list hq;rw[assign_Tuple];refine a8 (hJ ?_);unfold unpack;rw[show(assignEach es X.env).length=its.toArray.size by simp[hn,←hl,rv.length],hst];refine a8 (cW (PySem.W.kun_itemsOf (I.ok.hd hc) ht.isList λh' hx=>?_));have I1:=I.kept (t':=s.toks) λb o e=>hx b o (aW (aM e)) e;exact h pins _ σ H xs _ Q I1 (by simpa using rv) hw
def HR{K:Fq}:PySem.W.kitOne K (.type "NoneType") (.type "list")=some false:=AB (by decide +kernel) (by decide +kernel) (by decide +kernel)
def HY{K:Fq}:PySem.W.kitOne K (.type "bool") (.type "list")=some false:=AB (by decide +kernel) (by decide +kernel) (by decide +kernel)
def JD{K:Fq}:PySem.W.kitOne K (.type "int") (.type "list")=some false:=AB (by decide +kernel) (by decide +kernel) (by decide +kernel)
def J4{K:Fq}:PySem.W.kitOne K (.type "str") (.type "list")=some false:=AB (by decide +kernel) (by decide +kernel) (by decide +kernel)
def HW{K:Fq}:PySem.W.kitOne K (.type "dict") (.type "list")=some false:=AB (by decide +kernel) (by decide +kernel) (by decide +kernel)
noncomputable def Kd.noSeq:Kd->Bool
 |.lst=>false
 |.tup=>false
 |_=>true
def Lj{K:Fq}{k:Kd}(h:k.noSeq=true):PySem.W.kitOne K (.type k.nm) (.type "list")=some false:=by
 cases k<;>first|exact HR|exact HY|exact JD|exact J4|exact HW|cases h
def MA{K:Fq}{k:Kd}(h:k.noSeq=true):PySem.W.kitAny K (.type k.nm) [.type "list",.type "tuple"]=some false:=by
 show(match PySem.W.kitOne K (.type k.nm) (.type "list") with|some true=>some true|some false=>PySem.W.kitAny K (.type k.nm) [.type "tuple"]|none=>none)=some false;rw[Lj h];show(match PySem.W.kitOne K (.type k.nm) (.type "tuple") with|some true=>some true|some false=>PySem.W.kitAny K (.type k.nm) []|none=>none)=some false;have e:PySem.W.kitOne K (.type k.nm) (.type "tuple")=some false:=by
  have:=Hg (K:=K) (a:=k) (c:=.tup) (.inr (.inr (.inr rfl)));rw[show k.isA .tup=false by cases k<;>first|rfl|cases h]at this;exact this
 rw[e];rfl
def PL{X:Cx}:Ba X (.builtin "isinstance") (λxs H Q=>∃x k tp,xs=[x,.ref tp]/\kj X.K H x k/\k.noSeq=true/\Eg X.K H tp [.ty "list",.ty "tuple"]/\Q (.bl false) H):=by
 intro pins s σ H xs us Q I r h;obtain⟨x,k,tp,rfl,hk,hn,hq,q⟩:=h;obtain⟨u,w',rfl,rx,rc⟩:=FE r;obtain rfl:w'=Value.ref tp:=rc;obtain⟨its,rv,pl,_⟩:=I.tuple hq;have ei:its=[.type "list",.type "tuple"]:=by
  cases rv with
  |cons r1 r2=>cases r2 with
   |cons r3 r4=>
    cases r4;have r1:_=Value.type "list":=r1;have r3:_=Value.type "tuple":=r3;rw[r1,r3]
 obtain⟨⟨oc,odd,odt,osl⟩,e1,hc,n1,dd⟩:=pl;dsimp only at hc dd;subst hc dd ei;have e:=MA (K:=X.K) hn;have fin:∀tk,EP X pins σ Q (.bool false) {s with toks:=tk}:=λtk=>⟨.bl false,H,I.tok _,rfl,q⟩;have hk:DZ X.K H x (.type k.nm):=hk;generalize hT:Value.type k.nm=T at hk e;cases hk with
 |non=>cases (show u=Value.none from rx);exact PySem.W.kia_tup PySem.W.kitx_none I.kIn True.intro e1 e (λz=>by cases z) fin
 |bl y=>cases (show u=Value.bool y from rx);exact PySem.W.kia_tup PySem.W.kitx_bool I.kIn True.intro e1 e (λz=>by cases z) fin
 |int i=>obtain⟨t,q⟩:=(show ∃t,u=Value.int i t from rx);cases q;exact PySem.W.kia_tup PySem.W.kitx_int I.kIn True.intro e1 e (λz=>by cases z) fin
 |str y=>obtain⟨t,q⟩:=(show ∃t,u=Value.str y t from rx);cases q;exact PySem.W.kia_tup PySem.W.kitx_str I.kIn True.intro e1 e (λz=>by cases z) fin
 |flt y=>cases k<;>exact absurd (gU hT) (by decide)
 |lst ea=>cases k<;>first|exact absurd (gU hT) (by decide)|cases hn
 |frz ea=>cases k<;>first|exact absurd (gU hT) (by decide)|cases hn
 |tup ea=>cases k<;>first|exact absurd (gU hT) (by decide)|cases hn
 |@dK a kvs ea=>
  cases (show u=Value.ref a from rx);obtain⟨_,_,vs,_,p⟩:=(show AE X.prog X.w H s.heap a (.dK kvs) from I.hok a _ ea);obtain⟨o,es,ep,h1,h2,_⟩:=p;exact PySem.W.kia_tup PySem.W.kitx_dict I.kIn ⟨o,h1,h2.1⟩ e1 e (λz=>by cases z) fin
 |@dT a kvs ea=>
  cases (show u=Value.ref a from rx);obtain⟨_,_,xs,_,o,es,ep,h1,h2,_⟩:=(show AE X.prog X.w H s.heap a (.dT kvs) from I.hok a _ ea);exact PySem.W.kia_tup PySem.W.kitx_dict I.kIn ⟨o,h1,h2.1⟩ e1 e (λz=>by cases z) fin
 |ins=>cases hT
def Nx.draws{P:Program}{w:World}{A:Around}{it l:Addr}{us:Array Value}{S:Nat->Heap->Prop}(N:Nx P w it l us S)(hh:A.handled=none):Draws P w A it [it,l] us.size (λi v=>us[i]?=some v) S where
 live:=λi h st=>let ⟨o,e,_⟩:=N.there i h st;⟨o,e⟩
 frame:=λi h h' st k=>N.keep i h h' st (λo e=>k it (by simp) o e) λo e=>k l (by simp) o e
 item:=λi s Q E hi st q=>N.item A E Q s i us[i] st (by simp[hi]) λg n sb=>q _ g s.toks (by simp[hi]) n sb
 done:=λs Q E st q=>N.fin A E Q s us.size hh st (by simp) q
noncomputable abbrev oW(it:Addr):Obj:={cls:=.type "enumerate",data:=.fields #[.none,.bool false,.ref it,rawInt 0,.none,.none]}
def P5(b:Bool)(l:Addr)(us:Array Value):Meets (Builtin.«enumerate.__new__» ⟨[.type "enumerate",.ref l],[]⟩) (λ_ R s=>Dq b s.heap l us/\R (.ok (.ret (.ref (s.heap.push (T7 b l)).objs.size))) {s with heap:=(s.heap.push (T7 b l)).push (oW s.heap.objs.size)}):=
 .of_wp λP w A R s h=>by
  obtain⟨hp,g,d,tk,os⟩:=s;obtain⟨y1,h⟩:=h;have ez:=sub_enumerate;have e1:Dq b (Shared.heap ⟨hp,g,d,tk,os⟩) l us:=y1
  wp_walk using DS e1
  refine wpAny_stack_any λst=>aF ?_;split
  ·rename_i c _ _ _ _ _;cases (c ==Value.type "enumerate")
   ·wp_walk using DS e1
    exact⟨_,rfl,h⟩
   wp_walk using DS e1
   exact⟨_,rfl,h⟩
  wp_walk using DS e1
  exact⟨_,rfl,h⟩
def Ng{P:Program}{w:World}{A:Around}{E:Vq}{s:Shared}{b:Bool}{l:Addr}{us:Array Value}{Q:Vq}(y:Dq b s.heap l us)
 (q:∀g,IsEnum g (s.heap.objs.size+1) s.heap.objs.size 0 .none->FB b g s.heap.objs.size l 0->(∀c o,s.heap.get? c=some o->g.get? c=some o)->Q (.ref (s.heap.objs.size+1)) {s with heap:=g}) :
 wpAny (model P w) A (call (.type "enumerate") [.ref l]) Q E s:=by
 refine callType_new F.called_enumerate (by decide) (F.typeCall_enumerate_1 _) (F.newCall_enumerate_1 _) (λobj=>F.args_object_init_2 obj _) F.entry_enumerate_new (P5 b l us) ⟨y,?_⟩;have n1:(s.heap.push (T7 b l)).objs.size=s.heap.objs.size+1:=cQ ..;have up:=λ(g:Heap) (o:Obj) (c:Addr) (x:Obj) (e:g.get? c=some x)=>aD (h:=g) o e;have p2:((s.heap.push (T7 b l)).push (oW s.heap.objs.size)).get? (s.heap.push (T7 b l)).objs.size=some _:=aL _ rfl;have p1:((s.heap.push (T7 b l)).push (oW s.heap.objs.size)).get? s.heap.objs.size=some _:=up _ _ _ _ (aL _ rfl);show _/\_;rw[n1]at p2;rw[n1];exact⟨⟨_,p2,rfl⟩,q _ p2 (JK p1) λc o x=>up _ _ _ _ (up _ _ _ _ x)⟩
noncomputable def ZS(K:PySem.W.Frag)(b:Bool)(a:Addr):It:=
 ⟨λi H=>∃xs x,HE K H b a xs/\xs[i]?=some x,λi H v H'=>∃p x,v=.ref p/\H p=none/\(∀xs,HE K H b a xs->xs[i]?=some x)/\H'=upd H p (.tup [.int i,x]),λi H=>∃xs,HE K H b a xs/\xs.length<=i⟩
def Mc{P:Program}{w:World}{K:Fq}{es:List Expr}{x1}{tp:Pos}(b:Bool)(a e it:Addr)(hne:e≠it)(hea:e≠a)(hai:a≠it):Kb P w K (.Tuple es x1 tp) (ZS K b a) [e,it] e (λi h=>(∃old,IsEnum h e it i old)/\FB b h it a i) where
 mem:=by simp
 obj:=λi h st=>by
  exact eA.mpr ⟨st.1.elim λ_ q=>⟨_,q,iy⟩,i9.mpr st.2.obj⟩
 keep:=λi h h' st k=>by
  obtain⟨⟨old,st1⟩,st2⟩:=st;exact⟨⟨old,k e (by simp) _ st1⟩,st2.at λo q=>k it (by simp) o q⟩
 item:=by
  intro X hP hw hK hc i pins s σ H E I hf st hg;subst hP hw hK;obtain⟨xs,x,hq,hx⟩:=hg;obtain⟨⟨old,st1⟩,st2⟩:=st;obtain⟨its,rv,p,hz⟩:=I.sqb hq;obtain⟨u,hu,ru⟩:=rv.get hx;have hlt:i<its.toArray.size:=by simpa using(a9.mp hu).1
  refine wpAny_pyNext_enum_itemD ((Iz (b:=b) (us:=its.toArray) hai).draws (I.ok.hd hc)) st1 ⟨st2,p⟩ hlt hne (by simp[hne,hea]) λu' h' tk hu' eo it' tp' sz kk=>⟨_,rfl,?_⟩;have eu:u'=u:=by
   have hu':its.toArray[i]?=some u':=hu';rw[iP,hu]at hu';exact(bJ hu').symm
  subst eu;refine wpAny_letOwnedTupleGo_enum (s:={s with heap:=h',toks:=tk+1}) eo λh2 e2 sb=>?_;have tk2:∀{c:Addr}{o:Obj},c≠e->h'.get? c=some o->h2.get? c=some o:=λn q=>(sb.2 _ n).trans q;refine⟨.ref s.heap.objs.size,upd H s.heap.objs.size (.tup [.int i,x]),I.movedT hf (λc o hb q=>?_) (by rw[dD];simp) (.cons ⟨_,rfl⟩ (.cons ru .nil)) (tk2 (bM (aW (aM st1))) tp'),rfl,⟨_,x,rfl,I.hok.fresh (aI _),λys hy=>by rw[I.sqb_inj hy hq];exact hx,rfl⟩,⟨⟨_,e2⟩,it'.1.at λo q=>tk2 (bM hne) q⟩,λc hb=>?_⟩
  ·have n1:c≠e:=λz=>hb (by simp[z]);exact tk2 n1 (kk c o n1 (λz=>hb (by simp[z])) q)
  obtain⟨o,q⟩:∃o,s.heap.get? c=some o:=by
   rcases aU.mp hb with z|z
   ·exact⟨_,z▸st1⟩
   obtain⟨o,q,_⟩:=st2.obj;exact⟨o,by rw[bA.mp z];exact q⟩
  rw[Aa (aW (aM q))];exact(hf c hb).1
 done:=by
  intro X hP hw hK hc i pins s σ H E I hf st hg;subst hP hw hK;obtain⟨xs,hq,hx⟩:=hg;obtain⟨⟨old,st1⟩,st2⟩:=st;obtain⟨its,rv,p,hz⟩:=I.sqb hq;have g:=hf it (by simp);have hl:=rv.length;have hT:s.TypeIs (.ref e) "enumerate":=⟨_,st1,rfl⟩;unfold pyNext;refine a8 (fX (cB (name:=Str.ofString "__next__") hT F.slot_enumerate_next (cU F.slot_enumerate_next hT F.entry_enumerate_next ?_ (F.args_enumerate_next_1 _))));show wpAny _ _ (field (.ref e) 2 >>=_) _ _ _;refine a8 (cE st1 rfl (x:=.ref it) rfl ?_);refine a8 ((Iz (b:=b) (us:=its.toArray) hai).fin _ _ _ _ i (I.ok.hd hc) ⟨st2,p⟩ (by simp;lia) λh' y eb ⟨o,ho,hcl⟩=>?_);refine a8 (iE (T:= "StopIteration") (b:=true) ⟨o,ho,hcl⟩ isSubtype_stop (aF ?_));exact⟨rfl,I.turned (t':=s.toks) (λc o hb e=>eb c o hb e) g.1 g.2.1 g.2.2.2.1 g.2.2.2.2.1 g.2.2.2.2.2⟩
 self:=λA i s Q E st h=>by
  obtain⟨⟨old,st1⟩,st2⟩:=st;exact wpAny_pyIter_enum st1 h
def Zd(K:PySem.W.Frag)(t:TA):TI:=λσ H R=>t σ H λvs H1=>∃b a,vs=[.ref a]/\(∃xs,HE K H1 b a xs)/\R (ZS K b a) H1
section
variable {X:Cx}
def QS{a:Expr}{ta:TA}{p pos:Pos}{es:List Expr}{x1}{tp:Pos}(hg:Gl X "enumerate")(hm:X.mg "enumerate"=none)(ha:PA X [a] ta)(hs:starEach [a] X.env=[(false,eval a X.env)]:=by rfl):PI X (.Tuple es x1 tp) (.Call (.Name "enumerate" p) [a] [] pos) (Zd X.K ta):=by
 intro pins s σ H R I h;refine Call_ (CY I hg hm boot_enumerate (cL (AV (ha pos pins s σ H _ I h) λus s1 ⟨vs,H1,I1,r1,q1⟩=>?_) hs rfl));obtain⟨b,l,e,⟨xs,hq⟩,q⟩:=q1;subst e;obtain⟨u,rfl,ru⟩:=BR r1;cases ru;obtain⟨its,rv,pl,hz⟩:=I1.sqb hq;have lt:=pl.lt;refine Ng pl λh' he hi hk=>?_;refine wpAny_pyIter_enum (s:={s1 with heap:=h'}) he ?_;refine⟨s1.heap.objs.size+1,[s1.heap.objs.size+1,s1.heap.objs.size],_,_,H1,rfl,I1.kept (t':=s1.toks) hk,Mc b l _ _ (Nat.succ_ne_self _) (fL (f7 lt)) (aW lt),⟨⟨_,he⟩,hi⟩,λc hb=>?_,q⟩;rcases aU.mp hb with z|z
 ·subst z;exact I1.fpOk (cZ _) (I1.hok.fresh (cZ _))
 have z:c=s1.heap.objs.size:=by simpa using z
 subst z;exact I1.fpOk (aI _) (I1.hok.fresh (aI _))
end
structure Ge(h:Heap)(d:Addr)(ob:Obj)(es:Array DictEntry)(ep:Nat):Prop where
 get:h.get? d=some ob
 exa:ob.ExactDict
 dat:ob.data=.dict es ep
def Ge.at{ep:Nat}(r:Ge h d ob es ep)(k:∀o,h.get? d=some o->h'.get? d=some o):Ge h' d ob es ep:=⟨k _ r.get,r.exa,r.dat⟩
section
variable {P:Program}{w:World}{A:Around}{E:Vq}{s:Shared}{it d:Addr}{ob:Obj}{es:Array DictEntry}{ep i:Nat}
def Ge.typeIs(r:Ge s.heap d ob es ep):s.TypeIs (.ref d) "dict":=⟨ob,r.get,r.exa.1⟩
def Lo(hd:(d ==sysModules)=false)(r:Ge s.heap d ob es ep)(q:Q (.ref s.heap.objs.size) {s with heap:=s.heap.push {cls:=.type "dict_keyiterator",data:=.fields #[.ref d,.int 0 0,.int es.size 0,.int ep 0]}}) :
 wpAny (model P w) A (pyIter (.ref d)) Q E s:=by
 have ty:=r.typeIs;refine wpAny_pyIter_slot ty F.slot_dict_iter (cU F.slot_dict_iter ty F.entry_dict_iter ?_ (F.args_dict_iter_1 _));unfold Builtin.«dict.__iter__»; refine a8 ?_;unfold Builtin.Dict.dictSlotNone;refine a8 (wpAny_notOrdered_dict ty ?_);show wpAny _ _ (pure (Value.ref d)) _ _ s;refine aF ?_;show wpAny _ _ (Builtin.Dict.showsAll d >>=_) _ _ s;unfold Builtin.Dict.showsAll;rw[if_neg (by rw[hd];exact aB)];refine a8 (aF ?_);refine a8 (i5 r.get r.dat (a8 (iM r.get r.dat ?_)));refine a8 (cJ (aF ⟨_,rfl,"dict_keyiterator",_,⟨_,aL _ rfl,rfl⟩,F.slot_dict_keyiterator_next.lookup,?_⟩));simpa[rawInt]using q
def Eb(hit:s.heap.IsKeyIter it d i es.size ep)(r:Ge s.heap d ob es ep)(hi:i<es.size)
 (q:∀g,g.IsKeyIter it d (i+1) es.size ep->Heap.SameBut it s.heap g->Q (some es[i].key) {s with heap:=g}):wpAny (model P w) A (pyNext (.ref it)) Q E s:=by
 obtain⟨oi,ei,ci,di⟩:=id hit;have ty:=hit.typeIs;unfold pyNext;refine a8 (fX (cB (name:=Str.ofString "__next__") ty dG (cU dG ty gN ?_ (gH _))));refine a8 (aF (a8 (a8 ?_)))
 first|refine a8 (dF ty (aF ?_))|refine a8 (eL ty (aF ?_))
 refine a8 (wpAny_fieldsOf ei di ?_);simp only[show Builtin.Dict_items.ownsTuple "dict_keyiterator"=false from by decide,Bool.false_eq_true,if_false];show wpAny _ _ (if (Value.ref d ==Value.none)=true then _ else _) _ _ s;rw[if_neg (λz=>by cases z)];refine a8 (aF (a8 (i5 r.get r.dat ?_)));rw[if_neg (by simp)];refine a8 (aF (a8 (iM r.get r.dat ?_)));rw[if_neg (by simp)];refine aF ?_;simp only[show ¬((i:Int)<0) from by lia,if_false,Int.toNat_natCast,Array.getElem?_eq_getElem hi];refine a8 ?_
 first|refine a8 (dF ty (aF ?_))|refine a8 (eL ty (aF ?_))
 refine a8 (wpAny_isOneOf_keyiter ty ?_);show wpAny _ _ (setField (.ref it) 1 (rawInt ((i:Int)+1)) >>=_) _ _ s;refine a8 (gT ei di (by simp) ?_);have hit':(s.heap.update it (Obj.mapFields (·.setIfInBounds 1 (rawInt ((i:Int)+1))))).IsKeyIter it d (i+1) es.size ep:=⟨_,fA _ ei (Obj.isFreed_of_fields (fO di _)),(Obj.cls_mapFields ..).trans ci,by rw[fO di];simp[rawInt]⟩;refine a8 (cW (a8 (wpAny_isOneOf_keyiter (s:={s with heap:=s.heap.update it (Obj.mapFields (·.setIfInBounds 1 (rawInt ((i:Int)+1))))}) hit'.typeIs ?_)));show wpAny _ _ (pure es[i].key) _ _ _;exact aF (aF ⟨_,rfl,aF (q _ hit' (fF ..))⟩)
def ER(hh:A.handled=none)(hit:s.heap.IsKeyIter it d i es.size ep)(r:Ge s.heap d ob es ep)(hi:es.size<=i)(q:∀g,Heap.ExtBut it s.heap g->Q none {s with heap:=g}):wpAny (model P w) A (pyNext (.ref it)) Q E s:=by
 obtain⟨oi,ei,ci,di⟩:=id hit;have ty:=hit.typeIs;unfold pyNext;refine a8 (fX (cB (name:=Str.ofString "__next__") ty dG (cU dG ty gN ?_ (gH _))));refine a8 (aF (a8 (a8 ?_)))
 first|refine a8 (dF ty (aF ?_))|refine a8 (eL ty (aF ?_))
 refine a8 (wpAny_fieldsOf ei di ?_);simp only[show Builtin.Dict_items.ownsTuple "dict_keyiterator"=false from by decide,Bool.false_eq_true,if_false];show wpAny _ _ (if (Value.ref d ==Value.none)=true then _ else _) _ _ s;rw[if_neg (λz=>by cases z)];refine a8 (aF (a8 (i5 r.get r.dat ?_)));rw[if_neg (by simp)];refine a8 (aF (a8 (iM r.get r.dat ?_)));rw[if_neg (by simp)];refine aF ?_;simp only[show ¬((i:Int)<0) from by lia,if_false,Int.toNat_natCast,Array.getElem?_eq_none hi];refine a8 ?_
 first|refine a8 (dF ty (aF ?_))|refine a8 (eL ty (aF ?_))
 show wpAny _ _ (setField (.ref it) 0 .none >>=_) _ _ s;refine a8 (gT ei di (by simp) ?_);show wpAny _ _ (newExc (.type "StopIteration") [] >>=_) _ _ _;refine a8 ?_;simp only[newExc,newTuple];refine a8 (cJ ?_ (by size_fits));refine a8 (m:=firstArgMember _ _) (wpAny_of_eq (a:=Value.none) (by first|rfl|(simp only[firstArgMember];rfl)) ?_);refine cJ ?_ (by size_fits);simp only[raiseNew];refine a8 (wpAny_handled ?_)
 first|rw[show A.in1.handled=none from hh]|rw[hh]
 refine a8 (aF (wpAny_throw ?_));exact a8 (iE (T:= "StopIteration") (b:=true) ⟨_,aL _ rfl,rfl⟩ isSubtype_stop (aF (q _ (((fF ..).extBut.push _).push _))))
def O9(hh:A.handled=none)(I:Addr)(hne:d≠I):Walks P w A I [I,d] [I] es.size (λi v=>∃e,es[i]?=some e/\v=e.key) (λi h=>h.IsKeyIter I d i es.size ep/\Ge h d ob es ep) where
 sub:=λb hb=>by
  rw[bA]at hb;rw[hb];exact aH
 frame:=λi h h' st hk=>⟨st.1.at λo e=>hk I aH o e,st.2.at λo e=>hk d (aE _ aH) o e⟩
 item:=λi s Q E hi st q=>Eb st.1 st.2 hi λg h1 sb=>q _ g s.toks ⟨_,fJ hi,rfl⟩ ⟨h1,st.2.at λo e=>sb.extBut _ _ hne e⟩ λb o hb e=>sb.extBut b o (λz=>hb (by rw[z];exact bA.mpr rfl)) e
 done:=λs Q E st q=>ER hh st.1 st.2 (aI _) λg eb=>q g s.toks λb o hb e=>eb b o (λz=>hb (by rw[z];exact bA.mpr rfl)) e
 self:=λA s Q E st q=>wpAny_pyIter_keyiter st.1 q
def Ud(lo:(d ==sysModules)=false):PySem.W.KdlSrc P w "dict" d d es.size (λi v=>∃e,es[i]?=some e/\v=e.key) (λh=>Ge h d ob es ep) where
 type:=λs r=>r.typeIs
 there:=λh r=>⟨aM r.get,aM r.get⟩
 keep:=λh h' r hk=>r.at λo e=>hk d (.inl rfl) o e
 notList:=by decide
 notTuple:=by decide
 hint:=λA E s Q r q=>PySem.W.kdl_hint_dict r.typeIs q
 iter:=λA s hh r=>⟨_,_,(λE Q q=>Lo lo r q),O9 hh _ (aW (aM r.get)),⟨⟨_,aL _ rfl,rfl,rfl⟩,r.at λo e=>aD _ e⟩⟩
end
section
def Ag.freezeT(I:Ag X pins σ H s)(e:H a=some (.dT kvs)):∃ob,Ag X pins σ (upd H a (.frz ob (.dT kvs))) s:=by
 have ok:=(show AE X.prog X.w H s.heap a (.dT kvs) from I.hok a _ e);obtain⟨z,y,xs,r,ob,es,ep,h1,h2,h3,h4,h5⟩:=id ok;have ne:∀{b:Addr}{o:HO},H b=some o->o≠ .dT kvs->b≠a:=λq n=>GY q e n;refine⟨ob,?_⟩;show Ag X pins σ (upd H a (.frz ob (.dT kvs))) {s with heap:=s.heap,gens:=s.gens,drawn:=s.drawn,toks:=s.toks};refine I.step (h':=s.heap) (t':=s.toks) (g':=s.gens) (d':=s.drawn) (ch:=[]) (λb hb=>by cases hb) (λb o _ _ _ q _=>q) (λb o _ _ _ q _=>⟨o.slots,q⟩) (λb o _ q n=>?_) (λb o _ q=>⟨o,q⟩)
  (λb xs q=>?_) (λb o u q=>?_) (λb ps q=>?_) (λm hm=>hm) (λb o q=>?_) I.bare
 ·rw[Aa (λz=>by subst z;rw[e]at n;cases n)];exact n
 ·rw[Aa (ne q (by intro z;cases z))];exact q
 ·rw[Aa (ne q (by intro z;cases z))];exact q
 ·exact⟨#[],by rw[Aa (ne q (by intro z;cases z)),q];simp⟩
 have own:∀c x,H c=some (.own x)->upd H a (.frz ob (.dT kvs)) c=some (.own x):=λc x q=>by rw[Aa (ne q (by intro z;cases z))];exact q
 have tup:∀c ys,H c=some (.tup ys)->upd H a (.frz ob (.dT kvs)) c=some (.tup ys):=λc x q=>by rw[Aa (ne q (by intro z;cases z))];exact q
 by_cases hb:b=a
 ·subst hb;rw[Ac]at q;cases q;exact⟨h1,ok.stay (λ_ _ _ q=>q) (λc q=>own c _ q) tup⟩
 rw[Aa hb]at q;exact(I.hok b o q).stay (λ_ _ _ q=>q) (λc q=>own c _ q) tup
def Ag.rawT(I:Ag X pins σ H s)(e:H a=some (.frz ob (.dT kvs))):(a ==sysModules)=false/\kvs.length<=sizeLine/\E3 λes ep xs=>A3 (Ge s.heap a ob es ep) (KT H kvs xs) (es.toList=xs.map (entryOfKey (tupleKind (Ai X.prog X.w)))):=by
 obtain⟨h0,z,y,xs,r,ob',es,ep,h1,h2,h3,h4,h5⟩:=(show AE X.prog X.w H s.heap a (.frz ob (.dT kvs)) from I.hok a _ e);rw[h0]at h1;cases h1;exact⟨y,z,es,ep,xs,⟨h0,h2,h3⟩,r,h4⟩
end
def ZR(H:Hp)(kvs:List (List Key×V))(ps:List Addr):Prop:=ps.length=kvs.length/\∀(i:Nat) (p:Addr) (k:List Key) (v:V),ps[i]?=some p->kvs[i]?=some (k,v)->H p=some (.tup (k.map kV))
theorem Hb:∀{kvs:List (List Key×V)}{xs:List (List Key×Addr×Value)},KT H kvs xs->kvs.length=xs.length/\∀(i:Nat) (k:List Key) (v:V),kvs[i]?=some (k,v)->∃a u,xs[i]?=some (k,a,u)/\H a=some (.tup (k.map kV))
 |_,_,.nil=>⟨rfl,λi k v h=>by simp at h⟩
 |p::ps,q::qs,.cons h t=>by
  obtain⟨e,f⟩:=Hb t;refine⟨by simp[e],λi k v hi=>?_⟩;cases i with
  |zero=>
   simp only[List.getElem?_cons_zero,Option.some.injEq]at hi;subst hi;obtain⟨k',a,u⟩:=q;obtain⟨h1,h2,h3⟩:=h;cases h1;exact⟨a,u,rfl,h2⟩
  |succ n=>
   simp only[List.getElem?_cons_succ]at hi ⊢;exact f n k v hi
noncomputable def pX(a:Addr)(ob:Obj)(kvs:List (List Key×V)):It:=
 ⟨λi H=>H a=some (.frz ob (.dT kvs))/\i<kvs.length,λi H x H'=>H'=H/\∃p k v,x=.ref p/\kvs[i]?=some (k,v)/\H p=some (.tup (k.map kV)),λi H=>H a=some (.frz ob (.dT kvs))/\kvs.length<=i⟩
def OD{P:Program}{w:World}{K:Fq}{tg:Expr}(a it:Addr)(ob:Obj)(kvs:List (List Key×V))(ep:Nat)(es:Array DictEntry)(hd:ob.data=.dict es ep)(hes:es.size=kvs.length) :
 Kb P w K tg (pX a ob kvs) [it] it (λi h=>h.IsKeyIter it a i kvs.length ep) where
 mem:=by simp
 obj:=λi h st b hb=>by
  have e:b=it:=by simpa using hb
  subst e;obtain⟨o,e,c,d⟩:=st;exact⟨o,e,λv z=>by rw[d]at z;cases z⟩
 keep:=λi h h' st k=>st.at λo e=>k it (by simp) o e
 item:=by
  intro X hP hw hK hc i pins s σ H E I hf st hg;subst hP hw hK;obtain⟨ea,hi⟩:=hg;obtain⟨y,z,es',ep',ys,rd,kt,e4⟩:=I.rawT ea;obtain⟨rfl,rfl⟩:es'=es/\ep'=ep:=by
   have:=rd.dat;rw[hd]at this;cases this;exact⟨rfl,rfl⟩
  obtain⟨le,ge⟩:=Hb kt;obtain⟨f0,f1,f2,f3,f4,f5⟩:=hf it (by simp);obtain⟨b,u,h3,h4⟩:=ge i kvs[i].1 kvs[i].2 (by rw[aN hi]);have hi':i<es'.size:=by lia
  have ek:es'[i].key=.ref b:=by
   have h5:es'[i]?=some (entryOfKey (tupleKind (Ai X.prog X.w)) (kvs[i].1,b,u)):=by rw[←dQ,e4,aJ,h3];rfl
   rw[fJ hi']at h5;rw[bJ h5];rfl
  refine Eb (by rw[hes];exact st) rd hi' λh' st' sb=>?_;rw[hes]at st';have I1:Ag X pins σ H {s with heap:=h'}:=I.turned (t':=s.toks) (λb o hb e=>(sb.2 b hb).trans e) f0 f1 f3 f4 f5;obtain⟨o,e,c,d⟩:=id st';rw[ek];exact⟨_,rfl,Ls (s:={s with heap:=h'}) e c d (by decide) ⟨.ref b,H,I1,rfl,⟨rfl,b,_,_,rfl,by rw[aN hi],h4⟩,st',λb hb=>(hf b hb).1⟩⟩
 done:=by
  intro X hP hw hK hc i pins s σ H E I hf st hg;subst hP hw hK;obtain⟨ea,hi⟩:=hg;obtain⟨y,z,es',ep',ys,rd,kt,e4⟩:=I.rawT ea;obtain⟨rfl,rfl⟩:es'=es/\ep'=ep:=by
   have:=rd.dat;rw[hd]at this;cases this;exact⟨rfl,rfl⟩
  obtain⟨f0,f1,f2,f3,f4,f5⟩:=hf it (by simp);exact ER (I.ok.hd hc) (by rw[hes];exact st) rd (by lia) λh' eb=>⟨rfl,I.turned (t':=s.toks) (λb o hb e=>eb b o hb e) f0 f1 f3 f4 f5⟩
 self:=λ_ _ _ _ _ st h=>wpAny_pyIter_keyiter st h
section
def OG(zs:List Str):(zs.map V.str).all Di=true:=List.all_eq_true.mpr λy hy=>by
 obtain⟨z,_,rfl⟩:=bB.mp hy;rfl
theorem Kl:∀{xs:List V}{us:List Value}{i:Nat}{x:V},Ap xs us->xs[i]?=some x->∃u,us[i]?=some u/\Au x u
 |_,_,i,x,.nil,h=>by simp at h
 |_,_,0,x,.cons r t,h=>by
  simp only[List.getElem?_cons_zero,Option.some.injEq]at h;subst h;exact⟨_,rfl,r⟩
 |_,_,i+1,x,.cons r t,h=>by
  simp only[List.getElem?_cons_succ]at h;exact Kl (i:=i) t h
def RQ:ag X "list.index" (λx xs H Q=>E4 λ(p:Addr) (zs:List Str) (z:Str) (j:Nat)=>A6 (x=.ref p) (xs=[.str z]) (Dp X.K H p (zs.map V.str)) (zs[j]?=some z) (∀i,i<j->zs[i]?≠some z) (Q (.int (j:Nat)) H)):=by
 intro pins s σ H x xs v us Q I rx rs h;obtain⟨p,zs,z,j,rfl,rfl,hq,hj,hno,q⟩:=h;cases rx;obtain⟨u,rfl,ru⟩:=BR rs;obtain⟨its,rv,⟨o,n,ho,hc,hd,hs⟩,hz⟩:=I.list hq;have hl:=rv.length;rw[aC]at hl hz;have hjz:=(a9.mp hj).1;have hjl:j<its.toArray.size:=by rw[aY];lia
 have he:∀i (hi:i<its.toArray.size),L3 (.str z) its.toArray[i]=decide (zs[i]?=some z):=λi hi=>by
  rw[aY]at hi;have hiz:i<zs.length:=by lia
  obtain⟨w,hw,rw'⟩:=Kl (i:=i) rv (by rw[aJ,aN hiz];rfl);have hw':=(a9.mp hw).2;rw[List.getElem_toArray,hw',MU rw' rfl,aN hiz];show(zs[i] ==z)=_;rw[bW,aR,dC,Option.some.injEq]
 obtain⟨oc,od,odt,osl⟩:=o;cases hc;cases hd;cases hs;refine gD F.slot_list_index ⟨_,ho,rfl⟩ F.entry_list_index (F.args_list_index_2 _ _) (SeqAt.list_indexAt p its.toArray n _ osl u (L3 (.str z)) j hjl (by rw[dD]at hz;lia) ?_ ?_) ⟨ho,λw hw=>CC ru rfl rv (OG zs) w (by simpa using hw),?_⟩
 ·rw[he j hjl];exact bY hj
 ·intro m hm hlt;rw[he m hm];exact bI (hno m hlt)
 exact⟨.int _,H,I.tok _,⟨_,rfl⟩,q⟩
end
def Ti:bootBuiltins "set"=some (.type "set"):=by decide +kernel
structure VS(t:SetTable)(j1:Nat):Prop where
 mask:t.mask=7
 place:t.place=#[j1]
 dum:t.dummies=#[]
def Ni(j:Nat):SetTable.below #[] j=0:=by
 unfold SetTable.below;rfl
def Tn(j1 j:Nat):SetTable.below #[j1] j=if j1<j then 1 else 0:=by
 unfold SetTable.below;show SetTable.below.go #[j1] j 1 0 1=_;rw[SetTable.below.go.eq_def];show(if 0<1 then(if j1<j then SetTable.below.go #[j1] j 0 1 1 else SetTable.below.go #[j1] j 0 0 0) else 0)=_;rw[if_pos (by decide)];by_cases h:j1<j
 ·rw[if_pos h,if_pos h];rfl
 rw[if_neg h,if_neg h];rfl
def Vw(j:Nat):SetTable.has #[] j=false:=by
 unfold SetTable.has;rw[Ni];rfl
def cz{t:SetTable}(hp:t.place=#[])(hd:t.dummies=#[])(j:Nat):t.slot j=.empty:=by
 unfold SetTable.slot;rw[hp,hd,Ni,Vw];rfl
def N6{j1:Nat}(T:VS t j1)(j:Nat):t.slot j=if j=j1 then .live 0 else .empty:=by
 unfold SetTable.slot;rw[T.place,T.dum,Tn,Vw];by_cases h:j1<j
 ·simp[h,show ¬j=j1 by lia]
 by_cases e:j=j1
 ·subst e;simp
 simp[h,e,show ¬j1=j by lia]
structure ZL(p:SetTable.Probe):Prop where
 lt:p.i<8
 j:p.j=p.i
 more:p.more=0
 dum:p.dummy=none
def jW{j1:Nat}(T:VS t j1)(R:ZL p):ZL (t.advance p)/\(t.advance p).perturb=p.perturb / 32/\(t.advance p).i=(p.i*5+1+p.perturb / 32)%8:=by
 have hb:(p.i*5+1+p.perturb / 32)%8<8:=Nat.mod_lt _ (by decide);have e:t.advance p={j:=(p.i*5+1+p.perturb / 32)%8,more:=0,i:=(p.i*5+1+p.perturb / 32)%8,perturb:=p.perturb / 32,dummy:=none}:=by
  unfold SetTable.advance SetTable.leap SetTable.runEnd;rw[T.mask,R.more,R.dum];simp only[gt_iff_lt,Nat.lt_irrefl,if_false];rw[if_neg (by lia),fP]
 rw[e];exact⟨⟨hb,rfl,rfl,rfl⟩,rfl,rfl⟩
theorem GO{j1:Nat}(T:VS t j1){h:Int}(hne:(hashAt 0 ==h)=false):∀n F p,ZL p->p.perturb<32^n->n+2<=F->
 ∃j,j<8/\j≠j1/\SetTable.probe.go t hashAt h F p=some (.empty j none)
 |n,0,p,R,hp,hF=>by lia
 |n,F+1,p,R,hp,hF=>by
  rw[SetTable.probe.go.eq_def];simp only[N6 T];by_cases e:p.j=j1
  ·simp only[e,if_true,hne,Bool.false_eq_true,if_false];obtain⟨R2,p2,i2⟩:=jW T R;cases n with
   |zero=>
    have h0:p.perturb=0:=by simpa using hp
    rw[h0]at p2 i2
    match F,hF with
    |F+1,_=>
     refine⟨(t.advance p).j,by rw[R2.j];exact R2.lt,?_,?_⟩
     ·rw[R2.j,i2,←e,R.j];have:=R.lt;lia
     rw[SetTable.probe.go.eq_def];simp only[N6 T];rw[if_neg (by rw[R2.j,i2,←e,R.j];have:=R.lt;lia)];simp only[R2.dum]
   |succ n=>
    exact GO T hne n F _ R2 (by rw[p2];rw[Nat.pow_succ]at hp;lia) (by lia)
  simp only[e,if_false];exact⟨p.j,by rw[R.j];exact R.lt,e,by rw[R.dum]⟩
def Xp{j1:Nat}(T:VS t j1)(h:Int):ZL (t.probeStart h)/\(t.probeStart h).perturb<32^13:=by
 have hb:SetTable.bits h<2^64:=by
  unfold SetTable.bits;have:=bQ h (show(0:Int)<2^64 by decide);have:=c8 h (show(2^64:Int)≠0 by decide)
  lia
 have hm:SetTable.bits h%8<8:=Nat.mod_lt _ (by decide);have e:t.probeStart h={j:=SetTable.bits h%8,more:=0,i:=SetTable.bits h%8,perturb:=SetTable.bits h,dummy:=none}:=by
  unfold SetTable.probeStart SetTable.runEnd;rw[T.mask];show SetTable.Probe.mk _ _ _ _ _=_;rw[if_neg (by lia),fP]
 rw[e];exact⟨⟨hm,rfl,rfl,rfl⟩,aX hb (by decide +kernel)⟩
def OK{j1:Nat}(T:VS t j1){h:Int}(he:(hashAt 0 ==h)=true){F:Nat}(R:ZL p) :
 SetTable.probe.go t hashAt h (F+1) p=if p.j=j1 then some (.candidate j1 0 (t.advance p)) else some (.empty p.j none):=by
 rw[SetTable.probe.go.eq_def];simp only[N6 T];by_cases e:p.j=j1
 ·simp only[e,if_true,he]
 simp only[e,if_false,R.dum]
def FH{j1:Nat}(T:VS t j1){h:Int}(R:ZL p)(hp:p.perturb<32^13)(e:SetTable.probe t f h p=r) :
 (∃j,j<8/\j≠j1/\r=some (.empty j none))\/(p.j=j1/\r=some (.candidate j1 0 (t.advance p))):=by
 have hF:10*SetTable.turns t.mask=219+1:=by rw[T.mask];rfl
 rw[SetTable.probe.eq_def,hF]at e;cases he:f 0 ==h with
 |false=>
  obtain⟨j,h1,h2,h3⟩:=GO T he 13 (219+1) p R hp (by decide);exact .inl ⟨j,h1,h2,by rw[←e,h3]⟩
 |true=>
  rw[OK T he R]at e;by_cases ej:p.j=j1
  ·rw[if_pos ej]at e;exact .inr ⟨ej,e.symm⟩
  rw[if_neg ej]at e;exact .inl ⟨p.j,by rw[R.j];exact R.lt,ej,e.symm⟩
section
theorem D9:∀{ks:List Key}{us:List Value},ItemsAre (Ai prog w) ks us->∀u∈us,(∃i t,u=.int i t)\/(∃z t,u=.str z t)
 |_,_,.nil,u,h=>by cases h
 |_,_,.cons hk h,u,hu=>by
  rcases aU.mp hu with rfl|hu
  ·rcases AR hk with⟨i,t,_,e⟩|⟨z,t,_,e⟩
   ·exact .inl ⟨i,t,e⟩
   exact .inr ⟨z,t,e⟩
  exact D9 h u hu
def sW(hk:IsTupleKey (Ai prog w) s.heap ks a)(q:∀b,Q b s):wpAny (model prog w) A (hashByValue 8 (.ref a)) Q E s:=by
 obtain⟨o,items,n,ho,hc,hd,hi⟩:=hk;have hT:s.TypeIs (.ref a) "tuple":=⟨o,ho,hc⟩;rw[gY];show wpAny _ _ (specialOf (.ref a) (Str.ofString "__hash__") >>=_) _ _ _;refine a8 (wpAny_specialOf hT F.slot_tuple_hash.lookup ?_);show wpAny _ _ (seqItems? (.ref a) >>=_) _ _ _;refine a8 (cR ho hd ?_);show wpAny _ _ (forIn items _ _ >>=_) _ _ _;refine a8 (wpAny_forIn_array' _ (λl b s'=>(∀u∈l,(∃i t,u=Value.int i t)\/(∃z t,u=Value.str z t))/\s'=s) _ ?_ ?_ items _ ⟨λu hu=>D9 hi u (by simpa using hu),rfl⟩)
 ·rintro x rest b s' ⟨hl,rfl⟩;rcases hl x (aH) with⟨i,t,rfl⟩|⟨z,t,rfl⟩
  ·rw[gY];exact aF ⟨λu hu=>hl u (aE _ hu),rfl⟩
  rw[gY];exact aF (aF (q _))
 rintro b s' ⟨_,rfl⟩;obtain⟨b1,b2⟩:=b;cases b1 with
 |none=>exact aF (q _)
 |some r=>exact aF (q _)
def qH(hk:IsTupleKey (Ai prog w) s.heap ks a)(q:Q false s):wpAny (model prog w) A (ofAClassStatement 8 (.ref a)) Q E s:=by
 obtain⟨o,items,n,ho,hc,hd,hi⟩:=hk;rw[ofAClassStatement.eq_def];show wpAny _ _ (typeOf (.ref a) >>=_) _ _ _;refine a8 (wpAny_typeOf_ref ho ?_);rw[hc];show wpAny _ _ (seqItems? (.ref a) >>=_) _ _ _;refine a8 (cR ho hd ?_);show wpAny _ _ (forIn items _ _ >>=_) _ _ _;refine a8 (wpAny_forIn_array' _ (λl b s'=>(∀u∈l,(∃i t,u=Value.int i t)\/(∃z t,u=Value.str z t))/\b.1=none/\s'=s) _ ?_ ?_ items _ ⟨λu hu=>D9 hi u (by simpa using hu),rfl,rfl⟩)
 ·rintro x rest b s' ⟨hl,_,rfl⟩;rcases hl x (aH) with⟨i,t,rfl⟩|⟨z,t,rfl⟩
  ·rw[ofAClassStatement.eq_def];exact aF ⟨λu hu=>hl u (aE _ hu),rfl,rfl⟩
  rw[ofAClassStatement.eq_def];exact aF ⟨λu hu=>hl u (aE _ hu),rfl,rfl⟩
 rintro b s' ⟨_,e,rfl⟩;obtain⟨b1,b2⟩:=b;cases e;exact aF q
def nH(hk:IsTupleKey (Ai prog w) s.heap ks a)(hl:∀y∈l,∃b ks',y=.ref b/\IsTupleKey (Ai prog w) s.heap ks' b)(q:Q false s) :
 wpAny (model prog w) A (searchCouldBeSeen (.ref a) l) Q E s:=by
 rw[searchCouldBeSeen.eq_def];refine a8 (wpAny_forIn_list _ (λl b s'=>(∀y∈l,∃b ks',y=.ref b/\IsTupleKey (Ai prog w) s.heap ks' b)/\b.1=none/\s'=s) _ ?_ ?_ l _ ⟨hl,rfl,rfl⟩)
 ·rintro x rest b s' ⟨hl,_,rfl⟩;obtain⟨c,ks',rfl,hc⟩:=hl x (aH);have go:∀y∈rest,∃b ks',y=.ref b/\IsTupleKey (Ai prog w) s'.heap ks' b:=λy hy=>hl y (aE _ hy);show wpAny _ _ (if (a ==c||false)=true then _ else _) _ _ _;rw[Bool.or_false];by_cases e:(a ==c)=true
  ·rw[if_pos e];exact aF ⟨go,rfl,rfl⟩
  rw[if_neg e];refine a8 ((tupleKind (Ai prog w)).quiet hk ?_);refine a8 ((tupleKind (Ai prog w)).quiet hc ?_);refine a8 (qH hk ?_);refine a8 (qH hc ?_);exact aF ⟨go,rfl,rfl⟩
 rintro b s' ⟨_,e,rfl⟩;obtain⟨b1,b2⟩:=b;cases e;exact aF q
def Lz{j1:Nat}(T:VS t j1):t.fits 1=true:=by
 unfold SetTable.fits SetTable.fill;rw[T.place,T.dum,T.mask];rfl
theorem Xq{ep:Nat}{h1:Int}{j1:Nat}(ho:s.heap.get? S=some o)(hd:o.data=.set #[(h1,.ref a)] ep t)(T:VS t j1)
 (ha:IsTupleKey (Ai prog w) s.heap ka a)(hb:IsTupleKey (Ai prog w) s.heap kb b)(ne:ka≠kb)(hu:A.units<cLine){h:Int}(q:∀j,j<8->j≠j1->Q (.free j false) s) :
 ∀F n stand p,stand.getD (t.probeStart h)=p->ZL p->p.perturb<32^n->n<=13->(n+2<=F\/(p.j≠j1/\1<=F))->
  wpAny (model prog w) A (setSearchFrom S (.ref b) h true F stand) Q E s
 |0,n,stand,p,es,R,hp,hn,hF=>by lia
 |F+1,n,stand,p,es,R,hp,hn,hF=>by
  have hp13:=aX hp (gJ (by decide) hn);rw[setSearchFrom.eq_def];refine a8 (dX ho hd (Lz T) ?_);have hg:t.gaveWay=false:=by unfold SetTable.gaveWay;rw[T.mask];rfl
  show wpAny _ _ (if t.gaveWay=true then _ else _) _ _ _;rw[hg,es];show wpAny _ _ (match SetTable.probe t _ h p with|some met=>_|_=>_) _ _ _;split
  ·rename_i met heq;rcases FH T R hp13 heq with⟨j,hj8,hj1,e⟩|⟨ej,e⟩
   ·cases e;exact aF (q j hj8 hj1)
   cases e;have R2:=jW T R;have next:wpAny (model prog w) A (setSearchFrom S (.ref b) h true F (some (t.advance p))) Q E s:=by
    rcases hF with hF|⟨hF,_⟩
    ·cases n with
     |zero=>
      have h0:p.perturb=0:=by simpa using hp
      refine Xq ho hd T ha hb ne hu q F 0 (some (t.advance p)) (t.advance p) rfl R2.1 (by rw[R2.2.1,h0];decide) (by decide) (.inr ⟨?_,by lia⟩);rw[R2.1.j,R2.2.2,h0,←ej,R.j];have:=R.lt
      lia
     |succ n=>exact Xq ho hd T ha hb ne hu q F n (some (t.advance p)) (t.advance p) rfl R2.1 (by rw[R2.2.1];rw[Nat.pow_succ]at hp;lia) (by lia) (.inl (by lia))
    exact absurd ej hF
   have hsm:t.sameMemory t.moves t.mask=some true:=by unfold SetTable.sameMemory;rw[if_pos (by simp)]
   have hsl:t.slot j1=.live 0:=by rw[N6 T,if_pos rfl]
   show wpAny _ _ (if (!t.led)=true then _ else _) _ _ _;cases hl:t.led with
   |true=>
    show wpAny _ _ (holding [Value.ref a] (eqBool (.ref a) (.ref b)) >>=_) _ _ _;refine a8 (cW ((tupleKind (Ai prog w)).eqBool hu ha hb ?_));rw[bI ne];refine a8 (dX ho hd (Lz T) ?_);show wpAny _ _ (match t.sameMemory t.moves t.mask with|some same=>_|_=>_) _ _ _;rw[hsm];show wpAny _ _ (match (if true=true then t.slot j1 else .empty) with| .live i'=>_|_=>_) _ _ _;rw[if_pos rfl,hsl];show wpAny _ _ (isSame (.ref a) (.ref a) >>=_) _ _ _;refine a8 (wpAny_isSame_ref_self ?_);exact next
   |false=>
    show wpAny _ _ (searchCouldBeSeen (.ref b) _ >>=_) _ _ _;refine a8 (nH hb ?_ ?_)
    ·intro y hy;obtain⟨z,hz,rfl⟩:=bB.mp hy;have:=iQ.mp hz;rw[Array.mem_filter]at this;have:=this.1;simp only[List.mem_toArray,List.mem_cons,List.not_mem_nil,or_false]at this;subst this;exact⟨a,ka,rfl,ha⟩
    show wpAny _ _ (holding [Value.ref a] (eqBool (.ref a) (.ref b)) >>=_) _ _ _;refine a8 (cW ((tupleKind (Ai prog w)).eqBool hu ha hb ?_));rw[bI ne];refine a8 (dX ho hd (Lz T) ?_);show wpAny _ _ (match t.sameMemory t.moves t.mask with|some same=>_|_=>_) _ _ _;rw[hsm];show wpAny _ _ (match (if true=true then t.slot j1 else .empty) with| .live i'=>_|_=>_) _ _ _;rw[if_pos rfl,hsl];show wpAny _ _ (isSame (.ref a) (.ref a) >>=_) _ _ _;refine a8 (wpAny_isSame_ref_self ?_);exact next
  rename_i hno;rcases FH T R hp13 rfl with⟨j,_,_,e⟩|⟨_,e⟩
  ·exact absurd e (hno _)
  exact absurd e (hno _)
noncomputable def Qc(b:Bool)(t:SetTable):SetTable:=if b=true then t else {t with plain:=false}
def jX{ep:Nat}{h:Int}{F:Nat}(ho:s.heap.get? S=some o)(hd:o.data=.set es ep t)(hf:t.fits es.size=true)
 (ha:IsTupleKey (Ai prog w) s.heap ks a)(C:Nat->Prop)(hs:∀Q':SetFound->Shared->Prop,(∀j,C j->Q' (.free j false) s)->wpAny (model prog w) A (setSearch S (.ref a) h true) Q' E s)
 (full:∀j b,C j->(Qc b (t.put j).1).tooFull=false)(hsz:∀j,C j->(SetTable.insertAt es (t.put j).2 (h,Value.ref a)).size<=sizeLine)
 (q:∀j b,C j->Q true {s with heap:=s.heap.update S (Obj.putSet (SetTable.insertAt es (t.put j).2 (h,.ref a)) (Qc b (t.put j).1))}):wpAny (model prog w) A (setAddHashedIn S (.ref a) h (F+1)) Q E s:=by
 rw[setAddHashedIn.eq_def];refine a8 (dX ho hd hf ?_);show wpAny _ _ (setSearch S (.ref a) h true >>=_) _ _ _;refine a8 (hs _ λj hj=>?_);refine a8 (dX ho hd hf ?_);have jp:∀b,wpAny (model prog w) A (storeSet S (SetTable.insertAt es (t.put j).2 (h,.ref a)) (Qc b (t.put j).1) >>=λ_=>if (!false&&(Qc b (t.put j).1).tooFull)=true then(do let r ←setRelay S (SetTable.grown (es.size+1));(λ_=>pure true) r) else pure true) Q E s:=λb=>by
  refine a8 (wpAny_storeSet_of ho hd ?_ (hsz j hj));rw[full j b hj];exact aF (q j b hj)
 show wpAny _ _ (if (t.put j).1.plain=true then _ else _) _ _ _;cases (t.put j).1.plain with
 |true=>
  show wpAny _ _ (hashByValue 8 (.ref a) >>=_) _ _ _;exact a8 (sW ha λb=>jp b)
 |false=>exact jp true
def mi(h:Heap)(S:Addr):Prop:=E3 λo ep t=>A6 (h.get? S=some o) o.ExactSet (o.data=.set #[] ep t) (t.mask=7) (t.place=#[]) (t.dummies=#[])
def af(h:Heap)(S a:Addr):Prop:=E5 λo ep t h1 j1=>A4 (h.get? S=some o) o.ExactSet (o.data=.set #[(h1,.ref a)] ep t) (VS t j1)
def ZH(h:Heap)(S:Addr)(n:Nat):Prop:=E4 λo es ep t=>A5 (h.get? S=some o) o.ExactSet (o.data=.set es ep t) (t.fits es.size=true) (es.size=n)
def mi.n(x:mi h S):ZH h S 0:=by
 obtain⟨o,ep,t,h1,h2,h3,h4,h5,h6⟩:=x;refine⟨o,#[],ep,t,h1,h2,h3,?_,rfl⟩;unfold SetTable.fits SetTable.fill;rw[h4,h5,h6];rfl
def af.n(x:af h S a):ZH h S 1:=by
 obtain⟨o,ep,t,h1,j1,h2,h3,h4,h5⟩:=x;exact⟨o,_,ep,t,h2,h3,h4,Lz h5,rfl⟩
def KB(es:Array (Int×Value))(t:SetTable):Heap.SameBut S h (h.update S (Obj.putSet es t)):=⟨Heap.size_update _ _ _,λb hb=>fW _ _ (bM hb)⟩
def NB{h:Heap}{o:Obj}{ep:Nat}(ho:h.get? S=some o)(hx:o.ExactSet)(hd:o.data=.set es0 ep t0) :
 ∃o',(h.update S (Obj.putSet es t)).get? S=some o'/\o'.ExactSet/\o'.data=.set es (ep+1) t:=by
 obtain⟨c,d,dt,sl⟩:=o;obtain⟨rfl,rfl,rfl⟩:=hx;cases hd;exact⟨_,fA (Obj.putSet es t) ho rfl,⟨rfl,rfl,rfl⟩,rfl⟩
def pN{ks:List Key}{h:Int}{F:Nat}{Q:Bool->Shared->Prop}(hS:mi s.heap S)(ha:IsTupleKey (Ai prog w) s.heap ks a)
 (q:∀h',Heap.SameBut S s.heap h'->af h' S a->Q true {s with heap:=h'}):wpAny (model prog w) A (setAddHashedIn S (.ref a) h (F+1)) Q E s:=by
 obtain⟨o,ep,t,ho,hx,hd,hm,hp,hdu⟩:=hS;have put:∀j,t.put j=({t with place:=#[j]},0):=λj=>by
  unfold SetTable.put;rw[hp,hdu,Ni,Vw];show(_,_)=_;rw[if_neg (by decide)];have:SetTable.insertAt (#[]:Array Nat) 0 j=#[j]:=by simp[SetTable.insertAt]
  rw[this]
 refine jX ho hd ?_ ha (λ_=>True) ?_ ?_ ?_ ?_
 ·unfold SetTable.fits SetTable.fill;rw[hm,hp,hdu];rfl
 ·intro Q' q';rw[setSearch.eq_def,setSearchFrom.eq_def];refine a8 (dX ho hd ?_ ?_)
  ·unfold SetTable.fits SetTable.fill;rw[hm,hp,hdu];rfl
  have hg:t.gaveWay=false:=by unfold SetTable.gaveWay;rw[hm];rfl
  show wpAny _ _ (if t.gaveWay=true then _ else _) _ _ _;rw[hg];show wpAny _ _ (match SetTable.probe t _ h (t.probeStart h) with|some met=>_|_=>_) _ _ _;have pr:∀f,SetTable.probe t f h (t.probeStart h)=some (.empty (t.probeStart h).j none):=λf=>by
   have hF:10*SetTable.turns t.mask=219+1:=by rw[hm];rfl
   rw[SetTable.probe.eq_def,hF,SetTable.probe.go.eq_def];simp only[cz hp hdu];rfl
  rw[pr];exact aF (q' _ trivial)
 ·intro j b _;rw[put];unfold SetTable.tooFull SetTable.fill Qc;cases b<;>simp[hm,hdu]
 ·intro j _;rw[put];simp[SetTable.insertAt,sizeLine_eq]
 intro j b _;rw[put];refine q _ (KB _ _) ?_;obtain⟨o',g1,g2,g3⟩:=NB (es:=SetTable.insertAt #[] 0 (h,.ref a)) (t:=Qc b {t with place:=#[j]}) ho hx hd;have e1:SetTable.insertAt (#[]:Array (Int×Value)) 0 (h,Value.ref a)=#[(h,.ref a)]:=by simp[SetTable.insertAt]
 rw[e1]at g1 g3;show af (s.heap.update S (Obj.putSet (SetTable.insertAt #[] 0 (h,Value.ref a)) (Qc b {t with place:=#[j]}))) S a;rw[e1];refine⟨o',ep+1,Qc b {t with place:=#[j]},h,j,g1,g2,g3,?_⟩;unfold Qc;cases b
 ·exact⟨hm,rfl,hdu⟩
 exact⟨hm,rfl,hdu⟩
def pM{ka kb:List Key}{h:Int}{F:Nat}{Q:Bool->Shared->Prop}(hS:af s.heap S a)(ha:IsTupleKey (Ai prog w) s.heap ka a)(hb:IsTupleKey (Ai prog w) s.heap kb b)(ne:ka≠kb)(hu:A.units<cLine)
 (q:∀h',Heap.SameBut S s.heap h'->ZH h' S 2->Q true {s with heap:=h'}):wpAny (model prog w) A (setAddHashedIn S (.ref b) h (F+1)) Q E s:=by
 obtain⟨o,ep,t,h1,j1,ho,hx,hd,T⟩:=hS;have put:∀j,∃pl,pl.size=2/\t.put j=({t with place:=pl},if j1<j then 1 else 0):=λj=>by
  refine⟨SetTable.insertAt #[j1] (if j1<j then 1 else 0) j,?_,?_⟩
  ·by_cases e:j1<j
   ·rw[if_pos e];simp[SetTable.insertAt]
   rw[if_neg e];simp[SetTable.insertAt]
  unfold SetTable.put;rw[T.place,T.dum,Tn,Vw];show(_,_)=_;simp only[Bool.false_eq_true,if_false]
 have es2:∀j,(SetTable.insertAt #[(h1,Value.ref a)] (if j1<j then 1 else 0) (h,Value.ref b)).size=2:=λj=>by
  by_cases e:j1<j
  ·rw[if_pos e];simp[SetTable.insertAt]
  rw[if_neg e];simp[SetTable.insertAt]
 refine jX ho hd (Lz T) hb (λ_=>True) ?_ ?_ ?_ ?_
 ·intro Q' q';rw[setSearch.eq_def];obtain⟨R,hp⟩:=Xp T h;exact Xq ho hd T ha hb ne hu (λj _ _=>q' j trivial) 100000 13 none _ rfl R hp (aI _) (.inl (by decide))
 ·intro j c _;obtain⟨pl,h2,e⟩:=put j;rw[e];unfold SetTable.tooFull SetTable.fill Qc;cases c<;>simp[T.mask,T.dum,h2]
 ·intro j _;obtain⟨pl,h2,e⟩:=put j;rw[e,es2,dD];decide
 intro j c _;obtain⟨pl,h2,e⟩:=put j;rw[e];refine q _ (KB _ _) ?_;obtain⟨o',g1,g2,g3⟩:=NB (es:=SetTable.insertAt #[(h1,Value.ref a)] (if j1<j then 1 else 0) (h,.ref b)) (t:=Qc c {t with place:=pl}) ho hx hd;refine⟨o',_,_,_,g1,g2,g3,?_,es2 j⟩;rw[es2];unfold SetTable.fits SetTable.fill Qc;cases c<;>simp[T.mask,T.dum,h2]
end
section
variable {prog:Program}{w:World}{A:Around}{R:Result->Shared->Prop}{I:Addr}{fp wr:List Addr}{G:Array GenState->Array GenState->Prop}{n:Nat}{P:Nat->Value->Prop}{St:Nat->Shared->Prop}
def OI(W:WalksS prog w A.in1 I fp wr G n P St)(S:Addr)(hS:S∉fp)(SP:Nat->Heap->Prop)(stay:∀i h h',SP i h->(∀b o,b∉wr->h.get? b=some o->h'.get? b=some o)->SP i h')
 (add:∀i v s Q E,i<n->P i v->SP i s.heap->(∀h' tk b,s.toks<=tk->Heap.SameBut S s.heap h'->SP (i+1) h'->Q b {s with heap:=h',toks:=tk})->wpAny (model prog w) A.in1 (setAdd S v) Q E s) :
 ∀k i s,n-i=k->i<=n->St i s->SP i s.heap->(∀s',Moved (S::wr) G s s'->SP n s'.heap->R (.ok (.ret .none)) s')->
  codeAny (model prog w) A (.builtin "set.update.loop" ⟨[.ref S,.ref I],[]⟩) R s:=by
 have up:∀b∈wr,b∈S::wr:=λb hb=>aE _ hb;intro k
 induction k with
 |zero=>
  intro i s hk hi hst hs hR;have:i=n:=by omega
  subst this;refine iN fQ ?_;rw[Around.under_plainId dJ _];show wpAny _ A.in1 (pyNext (.ref I) >>=_) _ _ s;refine a8 (W.done s _ _ hst λs' hm=>?_);show wpAny _ A.in1 (ret Value.none) _ _ s';exact aF (hR s' (hm.mono up) (stay _ _ _ hs hm.heap))
 |succ k ih=>
  intro i s hk hi hst hs hR;have hlt:i<n:=by omega
  refine iN fQ ?_;rw[Around.under_plainId dJ _];show wpAny _ A.in1 (pyNext (.ref I) >>=_) _ _ s;refine a8 (W.item i s _ _ hlt hst λv s' hP hst' hm=>?_);have hs':=stay _ _ _ hs hm.heap;show wpAny _ A.in1 (holding [v] (setAdd S v) >>=_) _ _ s';refine a8 (cW ?_);refine add i v s' _ _ hlt hP hs' λh' tk b htk hsb hS2=>?_;refine aF ⟨plainId_quiet dJ _,ih (i+1) _ (by omega) hlt (W.frame _ s' _ _ hst' htk λb hb o e=>?_) hS2 λs'' hm'' hS''=>?_⟩
  ·rw[hsb.2 b (λh:b=S=>hS (by rw[←h];exact hb))];exact e
  refine hR s'' (Moved.trans W.gtrans ((hm.mono up).then_heap htk λb o hb e=>?_) hm'') hS'';rw[hsb.2 b (λh:b=S=>hb (by rw[h];exact aH))];exact e
end
section
def VT(prog:Program)(w:World)(S:Addr)(xs:List (Addr×List Key))(i:Nat)(h:Heap):Prop:=(∀x∈xs,IsTupleKey (Ai prog w) h x.2 x.1)/\(match i with|0=>mi h S|1=>∃x,xs[0]?=some x/\af h S x.1|n=>ZH h S n)
def Hj(hk:IsTupleKey (Ai prog w) h ks a)(e:∀o,h.get? a=some o->h'.get? a=some o):IsTupleKey (Ai prog w) h' ks a:=by
 obtain⟨o,it,n,ho,r⟩:=hk;exact⟨o,it,n,e o ho,r⟩
def VT.stay{xs:List (Addr×List Key)}{i:Nat}{h h':Heap}{wr:List Addr}(hS:S∉wr)(hx:∀x∈xs,x.1∉wr)(x:VT prog w S xs i h)(e:∀b o,b∉wr->h.get? b=some o->h'.get? b=some o):VT prog w S xs i h':=by
 obtain⟨h1,h2⟩:=x;refine⟨λy hy=>Hj (h1 y hy) λo ho=>e _ _ (hx y hy) ho,?_⟩
 match i,h2 with
 |0,⟨o,ep,t,ho,r,u,v,y,z⟩=>exact⟨o,ep,t,e _ _ hS ho,r,u,v,y,z⟩
 |1,⟨x,e0,o,ep,t,h1,j1,ho,r,u,v⟩=>exact⟨x,e0,o,ep,t,h1,j1,e _ _ hS ho,r,u,v⟩
 |n+2,⟨o,es,ep,t,ho,r,u,v,y⟩=>exact⟨o,es,ep,t,e _ _ hS ho,r,u,v,y⟩
def VT.add{i:Nat}(hu:A.units<cLine)(h2:xs.length<=2)(nd:(xs.map (·.2)).Nodup)(hS:∀x∈xs,x.1≠S)(hi:xs[i]?=some x)(sp:VT prog w S xs i s.heap)
 (q:∀h' tk b,s.toks<=tk->Heap.SameBut S s.heap h'->VT prog w S xs (i+1) h'->Q b {s with heap:=h',toks:=tk}):wpAny (model prog w) A (setAdd S (.ref x.1)) Q E s:=by
 obtain⟨h1,hst⟩:=sp;have hx:=h1 x (aP hi);have kp:∀{h':Heap},Heap.SameBut S s.heap h'->∀x∈xs,IsTupleKey (Ai prog w) h' x.2 x.1:=λ{h'} hs y hy=>Hj (h1 y hy) λo ho=>by rw[hs.2 _ (hS y hy)];exact ho
 unfold setAdd;refine cW (a8 ((tupleKind (Ai prog w)).pyHash hu hx ?_));unfold setAddHashed;refine cW ?_;have hil:=(a9.mp hi).1
 match i,hi,hst with
 |0,hi,hst=>
  exact pN (F:=99999) (s:={s with toks:=s.toks+_}) hst hx λh' hs st=>q h' _ true (iF _ _) hs ⟨kp hs,x,hi,st⟩
 |1,hi,⟨y,e0,st⟩=>
  have ne:y.2≠x.2:=λe=>by
   obtain⟨l0,g0⟩:=a9.mp e0;obtain⟨l1,g1⟩:=a9.mp hi;have:=(bC.mp nd) 0 1 (by rw[aC];exact l0) (by rw[aC];exact l1) (by decide);rw[iG,iG,g0,g1]at this;exact this e
  exact pM (F:=99999) (s:={s with toks:=s.toks+_}) st (h1 y (aP e0)) hx ne hu λh' hs st=>q h' _ true (iF _ _) hs ⟨kp hs,st⟩
 |n+2,hi,_=>omega
end
theorem G8:∀{xs:List (Addr×List Key)}{us:List Value},Ap (xs.map λx=>V.ref x.1) us->us=xs.map λx=>Value.ref x.1
 |[],_,r=>by rw[iC]at r;cases r;rfl
 |x::xs,_,r=>by
  rw[aK]at r;cases r with
  |cons h t=>cases h;rw[G8 t];rfl
def JC{K:Fq}:PySem.W.kitAny K (.type "list") [.type "list",.type "tuple"]=some true:=by
 show(match PySem.W.kitOne K (.type "list") (.type "list") with|some true=>some true|some false=>PySem.W.kitAny K (.type "list") [.type "tuple"]|none=>none)=some true;rw[BV]
def PM:Ba X (.builtin "isinstance") (λxs H Q=>∃a ys tp,xs=[.ref a,.ref tp]/\H a=some (.lst ys)/\Eg X.K H tp [.ty "list",.ty "tuple"]/\Q (.bl true) H):=by
 intro pins s σ H xs us Q I r h;obtain⟨a,ys,tp,rfl,ha,hq,q⟩:=h;obtain⟨u,w',rfl,rx,rc⟩:=FE r;obtain rfl:u=Value.ref a:=rx;obtain rfl:w'=Value.ref tp:=rc;obtain⟨_,_,n,_,h1⟩:=(show AE X.prog X.w H s.heap a (.lst ys) from I.hok a _ ha);obtain⟨its,rv,pl,_⟩:=I.tuple hq;have ei:its=[.type "list",.type "tuple"]:=by
  cases rv with
  |cons r1 r2=>cases r2 with
   |cons r3 r4=>
    cases r4;have r1:=r1;have r3:=r3;rw[r1,r3]
 obtain⟨⟨oc,odd,odt,osl⟩,e1,hc,n1,dd⟩:=pl;dsimp only at hc dd;subst hc dd ei;exact PySem.W.kia_tup PySem.W.kitx_list I.kIn ⟨_,h1,rfl⟩ e1 JC (λz=>nomatch z) λtk=>⟨.bl true,H,I.tok _,rfl,q⟩
def Hc{K:Fq}:PySem.W.kitOne K (.type "tuple") (.type "list")=some false:=AB (by decide +kernel) (by decide +kernel) (by decide +kernel)
def HP{K:Fq}:PySem.W.kitAny K (.type "tuple") [.type "list",.type "tuple"]=some true:=by
 show(match PySem.W.kitOne K (.type "tuple") (.type "list") with|some true=>some true|some false=>PySem.W.kitAny K (.type "tuple") [.type "tuple"]|none=>none)=some true;rw[Hc];show(match PySem.W.kitOne K (.type "tuple") (.type "tuple") with|some true=>some true|some false=>PySem.W.kitAny K (.type "tuple") []|none=>none)=some true;rw[BV]
def PK:Ba X (.builtin "isinstance") (λxs H Q=>∃a ys tp,xs=[.ref a,.ref tp]/\H a=some (.tup ys)/\Eg X.K H tp [.ty "list",.ty "tuple"]/\Q (.bl true) H):=by
 intro pins s σ H xs us Q I r h;obtain⟨a,ys,tp,rfl,ha,hq,q⟩:=h;obtain⟨u,w',rfl,rx,rc⟩:=FE r;obtain rfl:u=Value.ref a:=rx;obtain rfl:w'=Value.ref tp:=rc;obtain⟨_,_,_,ob,h1,hcl,_⟩:=(show AE X.prog X.w H s.heap a (.tup ys) from I.hok a _ ha);obtain⟨its,rv,pl,_⟩:=I.tuple hq;have ei:its=[.type "list",.type "tuple"]:=by
  cases rv with
  |cons r1 r2=>cases r2 with
   |cons r3 r4=>
    cases r4;have r1:=r1;have r3:=r3;rw[r1,r3]
 obtain⟨⟨oc,odd,odt,osl⟩,e1,hc,n1,dd⟩:=pl;dsimp only at hc dd;subst hc dd ei;exact PySem.W.kia_tup PySem.W.kitx_tuple I.kIn ⟨_,h1,hcl⟩ e1 HP (λz=>nomatch z) λtk=>⟨.bl true,H,I.tok _,rfl,q⟩
section
def PH(hc:X.calm=true):Ba X (.builtin "max") (λxs H Q=>∃(p:Addr) (ns:List Int),xs=[.ref p]/\Dp X.K H p (ns.map V.int)/\0<ns.length/\∀m∈ns,(∀a∈ns,a<=m)->Q (.int m) H):=by
 intro pins s σ H xs us Q I r h;obtain⟨p,ns,rfl,hq,hn,q⟩:=h;obtain⟨u,rfl,ru⟩:=BR r;cases ru;obtain⟨its,rv,pl,hz⟩:=I.list hq;have hi:=Hl rv;obtain⟨xs,ex⟩:=hi.allInts.items;have el:numsOf its=ns:=hi.numsOf;have hl:=pl.isList;rw[ex]at hl;have nx:numsOf (intItems xs).toList=xs.toList.map (·.1):=nums_intItems xs;have en:xs.toList.map (·.1)=ns:=by rw[←nx,←ex];exact el
 have hsz:0<xs.size:=by
  have:(xs.toList.map (·.1)).length=ns.length:=by rw[en]
  rw[aC,cA]at this
  lia
 refine max_intList (I.ok.hd hc) hl hsz λv h' tk hv hk=>?_;obtain⟨t,rfl⟩:=intItems_at hv;have fe:(λi j=>decide (numAt xs i>numAt xs j))=λi j=>decide ((λk=>- numAt xs k) i<(λk=>- numAt xs k) j):=by
  funext i j
  rw[decide_eq_decide];dsimp only
  lia
 obtain⟨h1,h2⟩:=argBest_lt (λk=>- numAt xs k) (xs.size-1);rw[←fe]at h1 h2;refine⟨.int _,H,I.kept (t':=tk) hk,⟨t,rfl⟩,q _ ?_ λa ha=>?_⟩
 ·rw[←en,numAt_eq];exact getD_mem (by rw[aC,cA];lia)
 rw[←en]at ha;obtain⟨j,hj,rfl⟩:=mem_getD ha;rw[aC,cA]at hj;rw[←numAt_eq];have:=h2 j (by lia)
 lia
noncomputable def BU(n:Nat)(z:Str):Str:=⟨((List.replicate n z.cps.toList).flatten).toArray⟩
theorem Hr:∀(n:Nat) (a acc:Array Nat),List.foldl (λx1 x2=>x1++x2) acc (List.replicate n a)=acc++((List.replicate n a.toList).flatten).toArray
 |0,a,acc=>by simp
 |n+1,a,acc=>by
  rw[cH,iK,Hr n,cH,bZ];apply Array.ext';simp
def Ur(n:Nat)(z:Str):(BU n z).length=n*z.length:=by
 show((List.replicate n z.cps.toList).flatten).toArray.size=_;rw[aY];simp[Str.length]
def UV:BH X (binaryOp .Mult) (λx y H Q=>∃z n,x=.str z/\y=.int n/\0<=n/\n<=100/\z.length<=100/\Q (.str (BU n.toNat z)) H):=by
 intro pins s σ H x y v u Q I rx ry h;obtain⟨z,n,rfl,rfl,h0,h1,hz,q⟩:=h;obtain⟨t,rfl⟩:=rx;obtain⟨t',rfl⟩:=ry;have hs:sizeLine=16777216:=dD;have hm:z.length*n.toNat<=100*100:=Nat.mul_le_mul hz (by lia);refine P.mul_str ?_ ?_ ?_ ?_
 ·rw[Bool.or_eq_false_iff];exact⟨bI (by lia),bI (by lia)⟩
 ·intro g1 _ g3;have e:((z.length*n.toNat:Nat):Int)=(z.length:Int)*n:=by rw[Int.natCast_mul,Int.toNat_of_nonneg h0]
  have:(z.length:Int)<=(2^63-1) / n:=Int.le_ediv_of_mul_le (by lia) (by rw[←e];lia)
  lia
 ·intro _ _;exact bI (by lia)
 have fin:∀y tk,y=BU n.toNat z->EP X pins σ Q (Value.str y s.toks) {s with toks:=tk}:=λy tk e=>⟨.str y,H,I.tok _,⟨_,rfl⟩,by rw[e];exact q⟩;by_cases g:n<1
 ·rw[if_pos g];have:n=0:=by lia
  subst this;exact⟨by show 0<=sizeLine;lia,fin _ _ rfl⟩
 rw[if_neg g];by_cases g2:(n ==1||z.length ==0)=true
 ·rw[if_pos g2];have e:z=BU n.toNat z:=by
    rw[eX,aR,aR]at g2;rcases g2 with rfl|g2
    ·show z=⟨((List.replicate 1 z.cps.toList).flatten).toArray⟩;simp
    have:z.cps=#[]:=Array.eq_empty_of_size_eq_zero g2;obtain⟨c⟩:=z;dsimp only at this;subst this;unfold BU;simp
  exact⟨.str z,H,I,⟨_,rfl⟩,by rw[←e]at q;exact q⟩
 rw[if_neg g2];have e:(⟨List.foldl (λx1 x2=>x1++x2) #[] (List.replicate n.toNat z.cps)⟩:Str)=BU n.toNat z:=by rw[Hr];unfold BU;simp
 refine⟨?_,fin _ _ e⟩;rw[e,Ur,Nat.mul_comm]
 lia
end
section
def Hv{items:Array Value}{xs:List (Addr×List Key)}(hh:A.handled=none)(hu:A.units+8<cLine)(hl:s.heap.IsTuple l items)(hz:items.toList=xs.map λx=>Value.ref x.1)(hx2:xs.length<=2)(nd:(xs.map (·.2)).Nodup)(hk:∀x∈xs,IsTupleKey (Ai prog w) s.heap x.2 x.1)
 (h:∀(h':Heap) (tk:Nat),ZH h' s.heap.objs.size xs.length->(∀b o,b<s.heap.objs.size->s.heap.get? b=some o->h'.get? b=some o)->Q (.ref s.heap.objs.size) {s with heap:=h',toks:=tk}) :
 wpAny (model prog w) A (call (.type "set") [.ref l]) Q E s:=by
 obtain⟨c,tl,hmro⟩:=F.called_set.mro;have hmade:=F.called_set.made;have hsub:=F.called_set.sub;refine gB (codeAny_of_tree ?_);show wpAny _ _ (callAny (.type "set") _) _ _ _;refine aF ⟨Code.quiet_builtin _ (by decide +kernel),iN F.entry_type_call ?_⟩;rw[Around.under_plain (weight_type_call_type "set" [.ref l] []) rfl];have h1:=F.called_set.notType;have h2:=F.called_set.canCreate;have hct:=F.typeCall_set_1 (.ref l)
 repeat (any_goals (first|assumption|wp_step))
 refine eG (code_set_new_1 (.ref l) (E:=E) (Q₁:=λobj s₁=>∃led:Bool,obj=.ref s.heap.objs.size/\s₁={s with heap:=s.heap.push {cls:=.type "set",dict:=none,data:=.set #[] 0 (.fresh 0 0 led)}}) λled=>⟨led,rfl,rfl⟩) λr s₁ hr=>?_;cases r with
 |error e=>exact hr
 |ok fl=>
  cases fl with
  |ret obj=>
   obtain⟨led,rfl,rfl⟩:=hr;have hS:(s.heap.push {cls:=.type "set",dict:=none,data:=.set #[] 0 (.fresh 0 0 led)}).get? s.heap.objs.size=some {cls:=.type "set",dict:=none,data:=.set #[] 0 (.fresh 0 0 led)}:=aL _ rfl;have hT:Shared.TypeIs {s with heap:=s.heap.push {cls:=.type "set",dict:=none,data:=.set #[] 0 (.fresh 0 0 led)}} (.ref s.heap.objs.size) "set":=⟨_,hS,rfl⟩;have hli:=F.called_set.init.lookup;have hbi:=F.called_set.init.bind (.ref s.heap.objs.size)
   repeat (any_goals (first|assumption|wp_step))
   refine eG (codeAny_call_builtin (R:=wants (λr s₂=>r=.none/\∃h' tk,s₂={s with heap:=h',toks:=tk}/\ZH h' s.heap.objs.size xs.length/\
    (∀b o,b<s.heap.objs.size->s.heap.get? b=some o->h'.get? b=some o)) E) F.called_set.init.plain F.entry_set_init (check_set_init_1 hT ?_)) λr₂ s₂ hr₂=>?_
   ·obtain⟨⟨ocls,odict,odata,oslots⟩,hol,hcl,nl,hdl⟩:=id hl;simp only at hcl hdl;subst hcl hdl;have hol':(s.heap.push {cls:=.type "set",dict:=none,data:=.set #[] 0 (.fresh 0 0 led)}).get? l=some {cls:=.type "tuple",dict:=odict,data:=.seq items nl,slots:=oslots}:=aD _ hol;have hsls:=F.sub_tuple_set;have hslf:=F.sub_tuple_frozenset;have hne:(Value.type "tuple" ==Value.type "dict")=false:=by decide
    have hl1:(s.heap.push {cls:=.type "set",dict:=none,data:=.set #[] 0 (.fresh 0 0 led)}).IsTuple l items:=⟨_,hol',rfl,nl,rfl⟩;unfold Builtin.«set.__init__» noKeywords Builtin.Frozenset.updateFrom;generalize hPI:pyIter=PI
    wp_walk
    subst hPI;refine gX hl1 ?_;refine a8 (wpAny_runValue ?_);have hlS:l<s.heap.objs.size:=aM hol;have hh3:A.in1.in1.in1.handled=none:=by simp[hh]
    have szp:(s.heap.push {cls:=.type "set",dict:=none,data:=.set #[] 0 (.fresh 0 0 led)}).objs.size=s.heap.objs.size+1:=cQ _ _;have hneI:l≠(s.heap.push {cls:=.type "set",dict:=none,data:=.set #[] 0 (.fresh 0 0 led)}).objs.size:=by rw[szp];exact aW (f7 hlS)
    have hSf:s.heap.objs.size∉ [(s.heap.push {cls:=.type "set",dict:=none,data:=.set #[] 0 (.fresh 0 0 led)}).objs.size,l]:=by
     simp only[List.mem_cons,List.not_mem_nil,or_false,not_or];exact⟨by rw[szp];exact aW (eF _),fL hlS⟩
    have hln:xs.length=items.size:=by
     have:=cK List.length hz;simpa using this.symm
    have hval:∀(i:Nat) (v:Value),items[i]?=some v->∃x,xs[i]?=some x/\v=.ref x.1:=λi v hv=>by
     have hv:items.toList[i]?=some v:=by rw[dQ];exact hv
     rw[hz,aJ]at hv;obtain⟨x,h1,h2⟩:=aG.mp hv;exact⟨x,h1,h2.symm⟩
    have xlt:∀x∈xs,x.1<s.heap.objs.size:=λx hx=>by
     obtain⟨o,_,_,ho,_⟩:=hk x hx;exact aM ho
    refine OI ((Walks.tuple hh3 _ l hneI items).toS) s.heap.objs.size hSf (VT prog w s.heap.objs.size xs) (λi h h'=>VT.stay ?a1 ?a2) (λi v s1 Q1 E1 hi hP sp q1=>?a3) (items.size-0) 0 _ (by lia) (dH _) ⟨⟨_,aL _ rfl,rfl,rfl⟩,(hl1.push _)⟩ ?hS0 ?hR
    case a1=>rw[szp];simp
    case a2=>
     intro x hx;rw[szp,bA];exact aW (f7 (xlt x hx))
    case a3=>
     obtain⟨x,hx,rfl⟩:=hval i v hP;exact VT.add (by simp[Around.in1];lia) hx2 nd (λx hx=>aW (xlt x hx)) hx sp q1
    case hS0=>
     refine⟨λx hx=>Hj (hk x hx) λo ho=>aD _ (aD _ ho),?_⟩;exact⟨_,0,_,aD _ hS,⟨rfl,rfl,rfl⟩,rfl,rfl,rfl,rfl⟩
    case hR=>
     intro s' hm hS';have hS':ZH s'.heap s.heap.objs.size xs.length:=by
      have hS':=hS'.2;rw[←hln]at hS'
      match hn:xs.length,hS',hx2 with
      |0,hS',_=>exact hS'.n
      |1,⟨_,_,hS'⟩,_=>exact hS'.n
      |n+2,hS',_=>exact hS'
     obtain⟨h',g',d',tk',os'⟩:=s';have eg:g'=s.gens:=hm.gens;have ed:d'=s.drawn:=hm.drawn;have eo:os'=s.os:=hm.os;subst eg ed eo;show wpAny _ _ _ _ _ _;refine aF ?_;show wpAny _ _ (ret Value.none) _ _ _;refine aF ⟨rfl,h',tk',rfl,hS',λb o hb e=>?_⟩;refine hm.heap b o ?_ (aD _ (aD _ e));simp only[List.mem_cons,List.not_mem_nil,or_false,not_or];exact⟨aW hb,by rw[szp];exact aW (f7 hb)⟩
   cases r₂ with
   |error e=>exact hr₂
   |ok fl₂=>
    cases fl₂ with
    |ret r=>
     obtain⟨rfl,h',tk,rfl,hS',hk'⟩:=hr₂
     repeat (any_goals (first|assumption|wp_step))
     exact h _ _ hS' hk'
    |_=>exact hr₂.elim
  |_=>exact hr.elim
end
section
def Xj(K:PySem.W.Frag)(te:TE):TE:=λσ H Q=>te σ H λx H1=>∃(a:Addr) (xs:List (Addr×List Key)),x=.ref a/\Eg K H1 a (xs.map λx=>V.ref x.1)/\xs.length<=2/\(xs.map (·.2)).Nodup/\(∀x∈xs,H1 x.1=some (.tup (x.2.map kV)))/\Q (.int (xs.length:Nat)) H1
def R4{e:Expr}{te:TE}{p1 p2 p3 pos:Pos}(hh:X.A.handled=none)(hu:X.A.units+64<cLine)(g1:Gl X "len")(m1:X.mg "len"=none)(g2:Gl X "set")(m2:X.mg "set"=none)(he:PE X e te)
 (h1:starEach [.Call (.Name "set" p2) [e] [] p3] X.env=[(false,eval (.Call (.Name "set" p2) [e] [] p3) X.env)]:=by rfl)(h2:starEach [e] X.env=[(false,eval e X.env)]:=by rfl) :
 PE X (.Call (.Name "len" p1) [.Call (.Name "set" p2) [e] [] p3] [] pos) (Xj X.K te):=by
 intro pins s σ H Q I h;refine cC (CY I g1 m1 boot_len ?_ (by decide) (by decide));refine gC ?_ h1 rfl;rw[h1];show wpAny _ _ (spliced ((false,eval (.Call (.Name "set" p2) [e] [] p3) X.env)::backTo pos (starEach [] X.env))) _ _ s;refine gV ?_;refine cC (CY I g2 m2 Ti ?_ (by decide) (by decide));refine cL ?_ h2 rfl;rw[h2];show wpAny _ _ (spliced ((false,eval e X.env)::backTo p3 (starEach [] X.env))) _ _ s;refine gV (AV (he pins s σ H _ I h) λu s1 ⟨x,H1,I1,r1,q1⟩=>?_);obtain⟨a,xs,rfl,hq,h2',nd,hk,q⟩:=q1;cases r1;refine hX ?_;obtain⟨its,rv,pl,_⟩:=I1.tuple hq;refine Hv (xs:=xs) hh (by lia) pl (by simpa using G8 rv) h2' nd (λx hx=>Fu I1.hok (hk x hx)) λh' tk hS hk=>?_;refine hX ?_;obtain⟨o,es,ep,t,ho,hex,hd,hf,hn⟩:=hS;refine call_len_set (s:={s1 with heap:=h',toks:=tk}) ho hex hd hf (by lia) ?_;refine⟨.int (xs.length:Nat),H1,(I1.kept (t':=tk+1+1) λb u e=>hk b u (aM e) e),⟨_,by rw[hn]⟩,q⟩
end
noncomputable abbrev AT(a:Addr)(o:Obj):HO:=.frz o (.own a)
noncomputable def del(H:Hp)(C:List (Addr×Obj)):Hp:=λb=>if (C.lookup b).isSome=true then none else H b
noncomputable def put(H:Hp)(C:List (Addr×Obj)):Hp:=λb=>match C.lookup b with
 |some o=>some (AT b o)
 |none=>H b
section
def Ep(e:C.lookup b=some o):put H C b=some (AT b o):=by unfold put;rw[e]
def Bb(e:C.lookup b=none):put H C b=H b:=by unfold put;rw[e]
def Db(e:C.lookup b=some o):del H C b=none:=by unfold del;rw[e];rfl
def Be(e:C.lookup b=none):del H C b=H b:=by unfold del;rw[e];rfl
def CO(n:∀c o,C.lookup c=some o->H c=none)(e:H b=some u):put H C b=some u:=by
 cases q:C.lookup b with
 |none=>rw[Bb q];exact e
 |some o=>rw[n b o q]at e;cases e
def B6(n:∀c o,C.lookup c=some o->H c=some (AT c o))(hu:∀o,u≠AT b o)(e:H b=some u):del H C b=some u:=by
 cases q:C.lookup b with
 |none=>rw[Be q];exact e
 |some o=>rw[n b o q]at e;cases e;exact absurd rfl (hu o)
def SN(e:del H C b=some u):H b=some u/\C.lookup b=none:=by
 cases q:C.lookup b with
 |none=>rw[Be q]at e;exact⟨e,rfl⟩
 |some o=>rw[Db q]at e;cases e
def Dk.del(x:Dk P w H h)(n:∀c o,C.lookup c=some o->H c=some (AT c o)):Dk P w (del H C) h:=λb u e=>by
 obtain⟨e1,e2⟩:=SN e;exact(x b u e1).stay (λ_ _ _ q=>q) (λc q=>B6 n (λo z=>by cases z) q) λc xs q=>B6 n (λo z=>by cases z) q
def Dk.put(x:Dk P w H h)(n:∀c o,C.lookup c=some o->H c=none/\h.get? c=some o):Dk P w (put H C) h:=λb u e=>by
 have n1:∀c o,C.lookup c=some o->H c=none:=λc o q=>(n c o q).1;cases q:C.lookup b with
 |none=>
  rw[Bb q]at e;exact(x b u e).stay (λ_ _ _ q=>q) (λc q=>CO n1 q) λc xs q=>CO n1 q
 |some o=>
  rw[Ep q]at e;cases e;exact⟨(n b o q).2,o,(n b o q).2⟩
def Un.back(u:Un fs [] (del H C) H' h h')(n:∀c o,C.lookup c=some o->H c=some (AT c o)):Un fs [] H (L2.put H' C) h h':=by
 have dn:∀b,H b=none->del H C b=none/\C.lookup b=none:=λb e=>by
  cases q:C.lookup b with
  |none=>exact⟨by rw[Be q];exact e,rfl⟩
  |some o=>rw[n b o q]at e;cases e
 have go:∀{b:Addr}{u v:HO},H b=some u->(∀o,u≠AT b o)->(del H C b=some u->H' b=some v)->L2.put H' C b=some v:=λ{b u v} e hu k=>by
  cases q:C.lookup b with
  |none=>rw[Bb q];exact k (by rw[Be q];exact e)
  |some o=>rw[n b o q]at e;cases e;exact absurd rfl (hu o)
 refine⟨λb o e z h1 h2=>u.keep b o e (dn b z).1 h1 h2,λb o e z h1 h2=>u.slot b o e (dn b z).1 h1 h2,λb o e z h2=>by rw[Bb (dn b z).2];exact u.free b o e (dn b z).1 h2,u.there,
  λb xs e=>go e (λo z=>by cases z) λq=>u.tups b xs q,λb o xs e=>?_,λb ps e=>?_⟩
 ·cases q:C.lookup b with
  |none=>rw[Bb q];exact u.frzs b o xs (by rw[Be q];exact e)
  |some o'=>rw[n b o' q]at e;cases e;exact Ep q
 cases q:C.lookup b with
 |none=>
  obtain⟨m,e1⟩:=u.tbls b ps (by rw[Be q];exact e);exact⟨m,by rw[Bb q];exact e1⟩
 |some o=>rw[n b o q]at e;cases e
def Un.forth(u:Un fs [] (L2.put H C) H' h h')(n:∀c o,C.lookup c=some o->H c=none/\h.get? c=some o)(hok:Dk P w H' h')(n': ∀c o,C.lookup c=some o->H' c=some (AT c o))(nf:∀c o,C.lookup c=some o->c∉fs):Un fs [] H (del H' C) h h':=by
 have n1:∀c o,C.lookup c=some o->H c=none:=λc o q=>(n c o q).1;refine⟨λb o e z h1 h2=>?_,λb o e z h1 h2=>?_,λb o e z h2=>?_,u.there,λb xs e=>?_,λb o xs e=>?_,λb ps e=>?_⟩
 ·cases q:C.lookup b with
  |none=>exact u.keep b o e (by rw[Bb q];exact z) h1 h2
  |some o'=>
   have e1:=(n b o' q).2;rw[e]at e1;cases e1;exact(hok b _ (n' b o q)).1
 ·cases q:C.lookup b with
  |none=>exact u.slot b o e (by rw[Bb q];exact z) h1 h2
  |some o'=>exact absurd h1 (nf b o' q)
 ·cases q:C.lookup b with
  |none=>rw[Be q];exact u.free b o e (by rw[Bb q];exact z) h2
  |some o'=>exact Db q
 ·exact B6 n' (λo z=>by cases z) (u.tups b xs (CO n1 e))
 ·cases q:C.lookup b with
  |none=>rw[Be q];exact u.frzs b o xs (CO n1 e)
  |some o'=>rw[n1 b o' q]at e;cases e
 obtain⟨m,e1⟩:=u.tbls b ps (CO n1 e);exact⟨m,B6 n' (λo z=>by cases z) e1⟩
end
theorem NN{α β:Type}[BEq α][LawfulBEq α]:∀{l:List (α×β)}{y:α}{u:β},(l.map (·.1)).Nodup->(y,u)∈l->l.lookup y=some u
 |[],_,_,_,h=>by simp at h
 |(a,b)::l,y,u,nd,h=>by
  rw[aK]at nd;obtain⟨n1,n2⟩:=bX.mp nd;rw[c9];rcases aU.mp h with e|h
  ·cases e;simp
  have:y≠a:=λz=>n1 (by rw[←z];exact fG (f:=(·.1)) h);rw[show(y ==a)=false from bS.mpr this];exact NN n2 h
theorem Jf{α β:Type}:∀{l:List α}{m:List β}{i:Nat}{a:α}{b:β},l[i]?=some a->m[i]?=some b->(a,b)∈l.zip m
 |[],_,_,_,_,h,_=>by simp at h
 |_::_,[],_,_,_,_,h=>by simp at h
 |x::l,y::m,i,a,b,h1,h2=>by
  rw[bN];cases i with
  |zero=>simp at h1 h2;subst h1 h2;exact aH
  |succ i=>exact aE _ (Jf (i:=i) (by simpa using h1) (by simpa using h2))
theorem Kj{α β:Type}:∀{l:List α}{m:List β},((l.zip m).map (·.1)).Sublist l
 |[],_=>by simp
 |_::_,[]=>by simp
 |x::l,y::m=>by rw[bN,aK];exact Kj.cons_cons x
structure HC(N xs ps:List Str)(sc:Scope)(cl:List (Str×Addr)):Prop where
 kind:sc.kind=.function
 co:sc.isCoroutine=false
 gen:sc.isGenerator=false
 nd:N.Nodup
 app:N=xs++ps
 par:∀x∈ps,sc.names.lookup x=some .local
 cap:∀x∈xs,sc.names.lookup x=some .free
 nocell:∀y∈sc.names,y.2≠ .cell
 has:∀x,sc.names.lookup x=some .free->∃c,cl.lookup x=some c
 inj:∀x y c,cl.lookup x=some c->cl.lookup y=some c->x=y
noncomputable def ae(P:Program)(w:World)(K:PySem.W.Frag)(mg:Str->Option Value)(base:Heap)(N:List Str)(qual:Str)(scope:Scope)(f:Addr)(cd:Value)(cl:List (Str×Addr))(A:Around)(outer:List Env)(s:Shared)(H:Hp):Cx where
 prog:=P
 w:=w
 K:=K
 mg:=mg
 base:=base
 A:=A.deeper (PySem.W.envX qual scope s.heap.objs.size f cd cl)
 N:=N
 s₀:=s
 H₀:=H
 env:=PySem.W.envX qual scope s.heap.objs.size f cd cl
 outer:=outer
 stack:=PySem.W.envX qual scope s.heap.objs.size f cd cl::outer
 ex:=[]
 calm:=true
 fn:=λ_=>false
 pn:=[]
 xe:=λ_ _=>False
def Vr{P:Program}{w:World}{K:Fq}{mg:Mq}{base:Heap}{N xs ps:List Str}{qual:Str}{scope:Scope}{f:Addr}{cd:Value}{cl:Cq}{A:Around}{outer:List Env}{s:Shared}{H:Hp}{us:List Value}{cvs vs:List V}{h1:Heap}{tk:Tok}
 (S:HC N xs ps scope cl)(hd:A.handled=none)(e0:HD P w K mg base A outer s H)(hc:cvs.length=xs.length)(hl:vs.length=ps.length)(r:Ap vs us)
 (hcap:∀(i:Nat) (x:Str) (v:V),xs[i]?=some x->cvs[i]?=some v->∃c u,cl.lookup x=some c/\Au v u/\s.heap.IsCell c (some u))
 (hall:∀x c,cl.lookup x=some c->(∃v,s.heap.IsCell c v)/\H c=none)
 (ns:h1.Ns s.heap.objs.size λx=>(ps.zip us).reverse.lookup x)(hk:∀b o,s.heap.get? b=some o->h1.get? b=some o) :
 Ag (ae P w K mg base N qual scope f cd cl A outer s H) [] (B9 N (cvs++vs)) H {s with heap:=h1,toks:=tk}:=by
 have noA:∀b:Addr,b∉(ae P w K mg base N qual scope f cd cl A outer s H).ex:=λb z=>absurd (show b∈([]:List Addr) from z) (by simp);have ck:∀{c v},s.heap.IsCell c v->h1.IsCell c v:=λ⟨o,ho,hd⟩=>⟨o,hk _ _ ho,hd⟩;refine⟨⟨e0.mod,S.kind,rfl,rfl,aI _,λy z c h1 h2=>S.inj y z c h1 h2,λy hy=>?_,λy c z h=>(by cases z),λ_=>hd,Around.frames_deeper e0.frames,.inr ⟨rfl,rfl⟩,λb z=>absurd z (noA b),e0.bs,e0.bsz,λb _ _=>noA b,λb z=>absurd z (noA b),e0.funs,e0.frf⟩,
  rfl,e0.bare,Un.kept hk,⟨_,ns,λi y v h1 h2 h3=>?_⟩,λy c h=>?_,e0.hok.fresh (aI _),λy c h=>(hall y c h).2,λp hp=>absurd (show p∈([]:Pq) from hp) (by simp),e0.hok.kept hk,?_⟩
 ·have hy:scope.names.lookup y=some .cell\/scope.names.lookup y=some .free:=hy;rcases hy with hy|hy
  ·exact absurd rfl (S.nocell _ (PySem.mem_of_lookup hy))
  exact S.has y hy
 ·have hi:i<(cvs++vs).length:=by
   unfold B9 at h2;by_cases hi:i<(cvs++vs).length
   ·exact hi
   rw[aQ (by simpa using hi),cM]at h2;split at h2<;>cases h2
  have ha:(cvs++vs)[i]?=some v:=by
   unfold B9 at h2;rw[aO (by simpa using hi),aJ]at h2;cases e:(cvs++vs)[i]? with
   |none=>rw[e]at h2;cases h2
   |some a=>rw[e]at h2;cases h2;rfl
  have hN:(xs++ps)[i]?=some y:=by rw[←S.app];exact h1
  by_cases hx:i<xs.length
  ·rw[aO hx]at hN;rw[aO (by lia)]at ha;obtain⟨c,u,e1,e2,e3⟩:=hcap i y v hN ha;exact⟨u,e2,.inr ⟨.inr (S.cap y (aP hN)),c,e1,ck e3⟩⟩
  rw[aQ (by lia)]at hN;rw[aQ (by lia),hc]at ha;obtain⟨u,hu,rv⟩:=r.get ha;have ndP:ps.Nodup:=by have:=S.nd;rw[S.app]at this;exact this.sublist (fK _ _)
  refine⟨u,rv,.inl ⟨S.par y (aP hN),?_⟩⟩;show(ps.zip us).reverse.lookup y=some u;refine NN ?_ (List.mem_reverse.mpr (Jf hN hu));rw[List.map_reverse];exact List.pairwise_reverse.mpr ((ndP.sublist Kj).imp λh=>bM h)
 ·obtain⟨⟨v,z⟩,_⟩:=hall y c h;exact⟨v,ck z⟩
 unfold B9;show _=N.length;rw[aV,aC,dB,S.app,aV,aV]
 lia
def Vi{P:Program}{w:World}{K:Fq}{mg:Mq}{base:Heap}{N xs ps:List Str}{name qual:Str}{params:Arguments}{body:Expr}{scope:Scope}{f c':Addr}{oc:Obj}{pm ctv:Value}{cl:Cq}{A:Around}{outer:List Env}{s:Shared}{H:Hp}{us:List Value}{cvs vs:List V}{C:Pq}{Q:VK}{E:XK}{k:Nat}
 (hr:Bp k A)(e0:HD P w K mg base A outer s H)(hf:H f=some (AT f (PySem.W.kla_obj name qual params body scope cl pm c' ctv)))(hcd:H c'=some (AT c' oc))(hoc:∃vs t,oc.data=.fields vs/\vs[1]?=some (.str qual t))
 (hC:∀c o,C.lookup c=some o->H c=some (AT c o))(hcl:∀x c,cl.lookup x=some c->∃o v,C.lookup c=some o/\o.data=.cell v)(S:HC N xs ps scope cl)
 (hcap:∀(i:Nat) (x:Str) (v:V),xs[i]?=some x->cvs[i]?=some v->∃c u o,cl.lookup x=some c/\Au v u/\C.lookup c=some o/\o.data=.cell (some u))
 (hb:bindArgs (PySem.W.kla_fn name qual params body scope cl pm (.ref c') ctv) ⟨us,[]⟩=pure (ps.zip us))(hc:cvs.length=xs.length)(hl:vs.length=ps.length)(r:Ap vs us)
 (hbody:∃t,PE (ae P w K mg base N qual scope f (.ref c') cl A outer s (del H C)) body t/\t (B9 N (cvs++vs)) (del H C) λv H'=>(∀c o,C.lookup c=some o->H' c=none)->Q v (put H' C)) :
 codeAny (model P w) A (.call (.ref f) ⟨us,[]⟩) (CR O5 outer P w H s Q E) s:=by
 have lim:s.heap.NoLimit:=e0.mod.nolimit.keeps λb o e=>(e0.bs b o e).1;have at_:∀{a:Addr}{o:Obj},H a=some (AT a o)->s.heap.get? a=some o:=λ{a o} e=>(e0.hok a _ e).1;have hrec:s.heap.CodeRec (.ref c') qual:=by
  obtain⟨vs,t,h1,h2⟩:=hoc;exact⟨c',oc,vs,t,rfl,at_ hcd,h1,h2⟩
 have e1:HD P w K mg base A outer s (del H C):=by
  have dn:∀b,H b=none->del H C b=none:=λb e=>by
   cases q:C.lookup b with
   |none=>rw[Be q];exact e
   |some o=>exact Db q
  exact⟨e0.frames,e0.mod,λb o e=>⟨(e0.bs b o e).1,dn b (e0.bs b o e).2⟩,e0.bsz,e0.funs,λb hb=>dn b (e0.frf b hb),e0.hok.del hC,e0.bare⟩
 obtain⟨t,ht,hq⟩:=hbody;refine PySem.W.kla_callFunE hr.depth (at_ hf) rfl S.co S.gen rfl hrec ?_;rw[hb];refine aF (wpAny_newFunctionEnv S.nocell (λy hy=>S.par y.1 (eV (a:=y.1) (b:=y.2) hy).1) (λh₁ hns hsb=>⟨lim.fresh _ hsb,?_⟩) S.kind);show codeAny _ _ (.expr body (PySem.W.envX qual scope s.heap.objs.size f (.ref c') cl)) _ _;have hk₁:∀b o,s.heap.get? b=some o->h₁.get? b=some o:=λb o e=>hsb.extBut b o (aW (aM e)) (aD _ e);have I:Ag (ae P w K mg base N qual scope f (.ref c') cl A outer s (del H C)) [] (B9 N (cvs++vs)) (del H C) {s with heap:=h₁,toks:=s.toks+(ps.zip us).length}:=by
  refine Vr S hr.hd e1 hc hl r (λi x v h1 h2=>?_) (λx c h=>?_) hns hk₁
  ·obtain⟨c,u,o,e1,e2,e3,e4⟩:=hcap i x v h1 h2;exact⟨c,u,e1,e2,o,at_ (hC c o e3),e4⟩
  obtain⟨o,v,e3,e4⟩:=hcl x c h;exact⟨⟨v,o,at_ (hC c o e3),e4⟩,Db e3⟩
 refine PySem.W.kla_codeExpr (cI (ht [] _ _ _ _ I hq) (λu s' ⟨v,H',J,rv,q⟩=>?_) λ_ _ z=>z.elim);have nf:∀c o,C.lookup c=some o->c∉Lv outer:=λc o e z=>by have:=e0.frf c z;rw[hC c o e]at this;cases this
 have J1:Un (Lv outer) [] (del H C) H' s.heap s'.heap:=J.base;exact⟨v,put H' C,J.os,J.bare,Un.back J1 hC,J.hok.put λc o e=>⟨J1.free c o (at_ (hC c o e)) (Db e) (by simp),J1.keep c o (at_ (hC c o e)) (Db e) (nf c o e) (by simp)⟩,rv,q λc o e=>J1.free c o (at_ (hC c o e)) (Db e) (by simp)⟩
theorem M8:∀{l:List (Str×NameKind)}{cs:Cq},(∀y∈l,y.2=.free->∃c,env.cells.lookup y.1=some c)->∃cl:List (Str×Addr),(forIn l cs λy r=>(if (y.2== .free)=true then(do let c ←cellOf env y.1;pure (ForInStep.yield ((y.1,c)::r))) else(pure (ForInStep.yield r):Sem _)))=(pure cl:Sem _)/\
 (∀p∈cl,p∈cs\/env.cells.lookup p.1=some p.2)/\(∀p∈cs,p∈cl)/\∀y∈l,y.2=.free->∃c,(y.1,c)∈cl
 |[],cs,_=>⟨cs,rfl,λp hp=>.inl hp,λp hp=>hp,λy hy=>by simp at hy⟩
 |(n,k)::l,cs,h=>by
  rw[iL];by_cases hk:k=.free
  ·obtain⟨c,hc⟩:=h (n,k) aH hk;obtain⟨cl,e,h1,h2,h3⟩:=M8 (cs:=(n,c)::cs) λy hy=>h y (aE _ hy);refine⟨cl,?_,λp hp=>?_,λp hp=>h2 p (aE _ hp),λy hy hf=>?_⟩
   ·have e1:cellOf env n=pure c:=by unfold cellOf;rw[show env.cells.lookup n=some c from hc]
    simp only[hk,beq_self_eq_true,if_true,e1,pure_bind];exact e
   ·rcases h1 p hp with z|z
    ·rcases aU.mp z with rfl|z
     ·exact .inr hc
     exact .inl z
    exact .inr z
   rcases aU.mp hy with rfl|hy
   ·exact⟨c,h2 _ aH⟩
   exact h3 y hy hf
  obtain⟨cl,e,h1,h2,h3⟩:=M8 (cs:=cs) λy hy=>h y (aE _ hy);refine⟨cl,?_,h1,h2,λy hy hf=>?_⟩
  ·have hb:(k ==NameKind.free)=false:=by cases k<;>first|rfl|(exact absurd rfl hk)
   simp only[hb,Bool.false_eq_true,if_false,pure_bind];exact e
  rcases aU.mp hy with rfl|hy
  ·exact absurd hf hk
  exact h3 y hy hf
theorem FL{α:Type}:∀{l:List (Str×α)}{x:Str}{c:α},(x,c)∈l->∃c',l.lookup x=some c'
 |[],_,_,h=>by simp at h
 |(a,b)::l,x,c,h=>by
  rw[c9];by_cases e:x ==a
  ·rw[e];exact⟨b,rfl⟩
  have e:(x ==a)=false:=by simpa using e
  rw[e];rcases aU.mp h with z|z
  ·cases z;simp at e
  exact FL z
def Na(h:∀y∈scope.names,y.2=.free->∃c,env.cells.lookup y.1=some c):∃cl,closureFor scope env=pure cl/\(∀p∈cl,env.cells.lookup p.1=some p.2)/\∀x,scope.names.lookup x=some .free->∃c,cl.lookup x=some c:=by
 obtain⟨cl,e,h1,_,h3⟩:=M8 (cs:=[]) h;refine⟨cl,?_,λp hp=>?_,λx hx=>?_⟩
 ·unfold closureFor;simp only[pure_bind];have:(forIn scope.names ([]:Cq) λy r=>(if (y.2== .free)=true then(do let c ←cellOf env y.1;pure (ForInStep.yield ((y.1,c)::r))) else(pure (ForInStep.yield r):Sem _)))=pure cl:=e;rw[show(λx __s=>_)=(λy r=>(if (y.2== .free)=true then(do let c ←cellOf env y.1;pure (ForInStep.yield ((y.1,c)::r))) else(pure (ForInStep.yield r):Sem _))) from ?_,this,pure_bind]
  funext y r
  rfl
 ·rcases h1 p hp with z|z
  ·simp at z
  exact z
 obtain⟨c,hc⟩:=h3 (x,.free) (PySem.mem_of_lookup hx) rfl;exact FL hc
def LO(H:Hp)(qual:Str)(pos:Pos)(ps:Array Value):Prop:=TriplesOk ps.toList/\(codeAmong pos ps.toList=none\/E4 λc' oc vs t=>A4 (codeAmong pos ps.toList=some (.ref c')) (H c'=some (AT c' oc)) (oc.data=.fields vs) (vs[1]?=some (.str qual t)))
section
def YM(I:Ag X pins σ H s)(hdef:defaultsOf params X.env=([],[]))(hfree:∀y∈scope.names,y.2=.free->∃c,X.env.cells.lookup y.1=some c)
 (hcode:X.env.code=.ref c)(Cd:PySem.W.CodeHd X.base c P)(hP:H P=some (.tbl ps))(ht:LO H (X.env.qual++ "<lambda>") pos ps)(hbm:X.base.BuiltinsAt X.mg P)(hg:X.base.Ns mainGlobals X.mg)(hgP:mainGlobals≠P)
 (q:∀f c' oc ctv cl H' s' ps',Ag X pins σ H' s'->(∀b u,H b=some u->b≠P->H' b=some u)->H f=none->H' P=some (.tbl ps')->LO H' (X.env.qual++ "<lambda>") pos ps'->
   H' f=some (AT f (PySem.W.kla_obj "<lambda>" (X.env.qual++ "<lambda>") params body scope cl ((X.mg "__name__").getD .none) c' ctv))->H' c'=some (AT c' oc)->(∃vs t,oc.data=.fields vs/\vs[1]?=some (.str (X.env.qual++ "<lambda>") t))->closureFor scope X.env=pure cl->
   (∀p∈cl,X.env.cells.lookup p.1=some p.2)->(∀x,scope.names.lookup x=some .free->∃c,cl.lookup x=some c)->Q (.ref f) s') :
 wpAny (model X.prog X.w) X.A (eval (.Lambda params body scope pos) X.env) Q X.xe s:=by
 obtain⟨cl,hcl,k1,k2⟩:=Na hfree;have hPh:=I.hok P _ hP;have hb:s.heap.BuiltinsAt X.mg P:=by
  obtain⟨bm,o,b1,b2,b3,b4,b5,b6⟩:=hbm;exact⟨bm,o,b1,b2,b3,b4,I.bk _ _ b5,b6⟩
 refine PySem.W.kla_eval hdef ?_;rcases ht with⟨t1,t2|⟨c',oc,vs,t,t2,t3,t4,t5⟩⟩
 ·refine PySem.W.kla_makeFunction hcl I.ok.glob (hg.keeps I.bk) hcode (Cd.keeps I.bk) hPh t1 t2 hgP hb λc' ctv h' tk hx hge hlt hrec htb=>?_;obtain⟨c₂,oc,vs,t,e2,hoc,hd,hv⟩:=hrec;cases e2;have hne:∀b,(∃u,H b=some u)->b≠c'/\b≠h'.objs.size:=λb ⟨u,e⟩=>⟨aW (aX (I.hok.lt e) hge),aW (aX (I.hok.lt e) (eE (fR hge hlt)))⟩;have hf0:=I.hok.fresh (eE (fR hge hlt));have hcf:=aW hlt;have hPc:=hne P ⟨_,hP⟩;have H'P:∀{o1 o2:HO},upd (upd (upd H P (.tbl (ps++ #[rawInt pos.line,rawInt pos.col,.ref c']))) c' o1) h'.objs.size o2 P=some (.tbl (ps++ #[rawInt pos.line,rawInt pos.col,.ref c'])):=λ{o1 o2}=>by rw[Aa hPc.2,Aa hPc.1,Ac]
  have H'o:∀{o1 o2:HO}{b:Addr}{u:HO},H b=some u->b≠P->upd (upd (upd H P (.tbl (ps++ #[rawInt pos.line,rawInt pos.col,.ref c']))) c' o1) h'.objs.size o2 b=some u:=λ{o1 o2 b u} e n=>by
   have:=hne b ⟨u,e⟩;rw[Aa this.2,Aa this.1,Aa n];exact e
  have kp:∀b o,b≠P->s.heap.get? b=some o->(h'.push (PySem.W.kla_obj "<lambda>" (X.env.qual++ "<lambda>") params body scope cl ((X.mg "__name__").getD .none) c' ctv)).get? b=some o:=λb o n e=>aD _ (hx b o n e);have nP:∀b,H b=none->b≠P:=λb e z=>by rw[z,hP]at e;cases e
  refine q h'.objs.size c' oc ctv cl (upd (upd (upd H P (.tbl (ps++ #[rawInt pos.line,rawInt pos.col,.ref c']))) c' (AT c' oc)) h'.objs.size (AT h'.objs.size (PySem.W.kla_obj "<lambda>" (X.env.qual++ "<lambda>") params body scope cl ((X.mg "__name__").getD .none) c' ctv))) _ (ps++ #[rawInt pos.line,rawInt pos.col,.ref c'])
   (I.un ⟨λb o e n _ _=>kp b o (nP b n) e,λb o e n _ _=>⟨o.slots,kp b o (nP b n) e⟩,λb o e n _=>?_,λb o e _=>?_,λb xs e=>H'o e (λz=>by rw[z,hP]at e;cases e),λb o xs e=>H'o e (λz=>by rw[z,hP]at e;cases e),λb qs e=>?_⟩ λb u e=>?_)
   (λb u e n=>H'o e n) hf0 H'P ⟨?_,.inr ⟨c',oc,vs,t,?_,by rw[Aa hcf,Ac],hd,hv⟩⟩ Ac (by rw[Aa hcf,Ac]) ⟨vs,t,hd,hv⟩ hcl k1 k2
  ·have lt:=aM e;rw[Aa (aW (aX lt (eE (fR hge hlt)))),Aa (aW (aX lt hge)),Aa (nP b n)];exact n
  ·by_cases hbP:b=P
   ·subst hbP;exact⟨_,aD _ htb⟩
   exact⟨o,kp b o hbP e⟩
  ·by_cases hbP:b=P
   ·subst hbP;rw[hP]at e;cases e;exact⟨_,H'P⟩
   exact⟨#[],by rw[H'o e hbP];simp⟩
  ·by_cases b1:b=h'.objs.size
   ·subst b1;rw[Ac]at e;cases e;exact⟨aL _ rfl,_,aL _ rfl⟩
   rw[Aa b1]at e;by_cases b2:b=c'
   ·subst b2;rw[Ac]at e;cases e;exact⟨aD _ hoc,_,aD _ hoc⟩
   rw[Aa b2]at e;by_cases b3:b=P
   ·subst b3;rw[Ac]at e;cases e;exact aD _ htb
   rw[Aa b3]at e;refine(I.hok b u e).stay (λc v hc r=>kp c v (λz=>?_) r) (λc r=>H'o r λz=>by rw[z,hP]at r;cases r) λc xs r=>H'o r λz=>by rw[z,hP]at r;cases r
   rcases hc with hc|hc
   ·exact b3 (hc▸z)
   rw[z,hP]at hc;cases hc
  ·rw[Array.toList_append];exact TriplesOk_snoc _ _ _ _ t1
  rw[Array.toList_append];exact codeAmong_snoc _ t1 t2
 refine PySem.W.kla_makeFunctionHit hcl I.ok.glob (hg.keeps I.bk) hcode (Cd.keeps I.bk) hPh t1 t2 hb λctv h' tk hk hsz=>?_;have hf0:=I.hok.fresh hsz;have H'o:∀{o2:HO}{b:Addr}{u:HO},H b=some u->upd H h'.objs.size o2 b=some u:=λ{o2 b u} e=>by rw[Aa (Aj e hf0)];exact e
 refine q h'.objs.size c' oc ctv cl (upd H h'.objs.size (AT h'.objs.size (PySem.W.kla_obj "<lambda>" (X.env.qual++ "<lambda>") params body scope cl ((X.mg "__name__").getD .none) c' ctv))) _ ps
  (I.laid (λb o e=>aD _ (hk b o e)) hsz ⟨aL _ rfl,_,aL _ rfl⟩) (λb u e _=>H'o e) hf0 (H'o hP) ⟨t1,.inr ⟨c',oc,vs,t,t2,H'o t3,t4,t5⟩⟩ Ac (H'o t3) ⟨vs,t,t4,t5⟩ hcl k1 k2
end
structure Tw where
 qual:Str
 params:Arguments
 body:Expr
 scope:Scope
 xs:List Str
 ps:List Str
noncomputable abbrev lamO(l:Tw)(cl:List (Str×Addr))(pm:Value)(c':Addr)(ctv:Value):Obj:=PySem.W.kla_obj "<lambda>" l.qual l.params l.body l.scope cl pm c' ctv
structure PY(l:Tw)(oc:Obj)(cl:List (Str×Addr))(C:List (Addr×Obj))(cvs:List V):Prop where
 code:∃vs t,oc.data=.fields vs/\vs[1]?=some (.str l.qual t)
 cells:∀x c,cl.lookup x=some c->∃o v,C.lookup c=some o/\o.data=.cell v
 sc:HC (l.xs++l.ps) l.xs l.ps l.scope cl
 cap:∀(i:Nat) (x:Str) (v:V),l.xs[i]?=some x->cvs[i]?=some v->∃c u o,cl.lookup x=some c/\Au v u/\C.lookup c=some o/\o.data=.cell (some u)
 len:cvs.length=l.xs.length
 all:∀c o,C.lookup c=some o->∃v,o.data=.cell v
structure Ke(l:Tw)(H:Hp)(f c':Addr)(oc:Obj)(pm ctv:Value)(cl:List (Str×Addr))(C:List (Addr×Obj)):Prop where
 fn:H f=some (AT f (lamO l cl pm c' ctv))
 cd:H c'=some (AT c' oc)
 cs:∀c o,C.lookup c=some o->H c=some (AT c o)
def Ke.same(x:Ke l H f c' oc pm ctv cl C)(s:Ak H H'):Ke l H' f c' oc pm ctv cl C:=⟨s _ _ x.fn,s _ _ x.cd,λc o e=>s _ _ (x.cs c o e)⟩
def ZQ(l:Tw):Prop:=∀(cl:List (Str×Addr)) (pm cdv ctv:Value) (us:List Value),us.length=l.ps.length->bindArgs (PySem.W.kla_fn "<lambda>" l.qual l.params l.body l.scope cl pm cdv ctv) ⟨us,[]⟩=pure (l.ps.zip us)
def cp(l:Tw)(i:Nat)(ta:TA)(tb:TE):TE:=λσ H Q=>E8 λf c' oc pm ctv cl C cvs=>A3 (σ[i]?=some (some (.ref f))) (PY l oc cl C cvs) (ta σ H λvs H1=>Ke l H1 f c' oc pm ctv cl C/\vs.length=l.ps.length/\tb (B9 (l.xs++l.ps) (cvs++vs)) (del H1 C) λr H'=>(∀c o,C.lookup c=some o->H' c=none)->Q r (put H' C))
def UP{i j:Nat}{x:Str}(hN:X.N[i]?=some x)(hv:WK X.env.scope x)(hd:(x ==("__debug__" :Str))=false)(hcd:(x ==("__classdict__" :Str))=false)(hr:Bp (j+1) X.A)(hB:ZQ l)
 (hb:∀f c' cl A outer s H,HC (l.xs++l.ps) l.xs l.ps l.scope cl->Bp j (A.deeper (PySem.W.envX l.qual l.scope s.heap.objs.size f (.ref c') cl))->PE (ae X.prog X.w X.K X.mg X.base (l.xs++l.ps) l.qual l.scope f (.ref c') cl A outer s H) l.body tb)
 (ha:PA X (e::es) ta)(he:starEach (e::es) X.env=(false,eval e X.env)::starEach es X.env)(hpl:(backTo pos (starEach es X.env)).any (·.1)=false):PE X (.Call (.Name x p) (e::es) [] pos) (cp l i ta tb):=by
 intro pins s σ H Q I ⟨f,c',oc,pm,ctv,cl,C,cvs,hσ,kk,h⟩;refine cC (AV (Fp hN hv hd hcd pins s σ H (λv H'=>v=.ref f/\H'=H) I ⟨_,hσ,rfl,rfl⟩) λu s1 ⟨v,H1,I1,rv,ev,eH⟩=>?_);subst ev eH;obtain rfl:u=Value.ref f:=rv;have key:wpAny (model X.prog X.w) X.A (spliced (backTo pos (starEach (e::es) X.env))) (λus s2=>s2.heap.get? f=some (lamO l cl pm c' ctv)/\wpAny (model X.prog X.w) X.A (call (.ref f) ([]++us)) (EP X pins σ Q) X.xe s2) X.xe s1:=by
  refine AV (ha pos pins s1 σ H1 _ I1 h) λus s2 ⟨vs,H2,I2,r,lh,hl,hq⟩=>⟨(I2.hok f _ lh.fn).1,?_⟩;refine gB (eG (Vi (E:=λ_ _ _=>False) (Q:=Q) hr I2.env0 lh.fn lh.cd kk.code lh.cs kk.cells kk.sc kk.cap (hB _ _ _ _ us (by rw[←r.length];exact hl)) kk.len hl r ⟨tb,hb f c' cl X.A X.stack s2 _ kk.sc (hr.deeper _),hq⟩) λrs s' hq=>?_)
  match rs,hq with
  |.ok (.ret u),hq=>exact I2.after hq
  |.ok .next,hq=>exact hq.elim
  |.ok .brk,hq=>exact hq.elim
  |.ok .cont,hq=>exact hq.elim
  |.error e,hq=>exact hq.elim
 show wpAny (model X.prog X.w) X.A (callWith pos (.ref f) [] (backTo pos (starEach (e::es) X.env)) []) _ _ _;rw[he]at key ⊢;exact PySem.W.callWith_of (P:=λh=>h.get? f=some (lamO l cl pm c' ctv)) (by show((false||(backTo pos (starEach es X.env)).any (·.1))||false)=false;rw[hpl];rfl)
  (λh z=>PySem.W.keeps_K (K:=[(f,lamO l cl pm c' ctv)]) (by unfold PySem.W.keepIn;simp[List.lookup]) h (λb o e=>by
    rw[c9]at e;split at e
    ·rename_i hb;obtain rfl:=aR.mp hb;cases e;exact z
    cases e)) (gK key)
structure Jd(X:Cx)(H:Hp)(s:Shared)(C:List (Addr×Obj)):Prop where
 at_:∀c o,C.lookup c=some o->H c=none/\s.heap.get? c=some o
 up:∀c o,C.lookup c=some o->X.s₀.heap.objs.size<=c/\c≠X.env.locals
 cl:∀c o,C.lookup c=some o->∃v,o.data=.cell v
def Jd.nf(I:Ag X pins σ H s)(cs:Jd X H s C):∀c o,C.lookup c=some o->c∉Lv X.stack:=λc o e z=>by
 obtain⟨h1,h2⟩:=cs.up c o e;rcases aU.mp (I.stkSub c z) with q|q
 ·exact h2 q
 obtain⟨_,ob,ho,_⟩:=I.ok.funs.mem q;exact absurd (aX (aM ho) h1) (cV _)
theorem Jd.env0(I:Ag X pins σ H s)(cs:Jd X H s C):HD X.prog X.w X.K X.mg X.base X.A X.stack s (put H C):=by
 have e0:=I.env0;refine⟨e0.frames,e0.mod,λb o e=>⟨(e0.bs b o e).1,?_⟩,e0.bsz,e0.funs,λb hb=>?_,e0.hok.put cs.at_,e0.bare⟩
 ·cases q:C.lookup b with
  |none=>rw[Bb q];exact(e0.bs b o e).2
  |some o'=>exact absurd (aX (aM e) (b9 I.ok.bsz (cs.up b o' q).1)) (cV _)
 cases q:C.lookup b with
 |none=>rw[Bb q];exact e0.frf b hb
 |some o'=>exact absurd hb (cs.nf I b o' q)
def Up{k:Nat}(F:DI X.prog X.w X.K X.mg X.base O5 k f fd ps sp)(hr:Bp k X.A)(hb:Cn X.K fd ps [])
 (I:Ag X pins σ H s)(cs:Jd X H s C)(r:Ap vs us)
 (h:sp vs (put H C) (λv H'=>(∀c o,C.lookup c=some o->H' c=some (AT c o))->Q v (del H' C)) E0):wpAny (model X.prog X.w) X.A (call (.ref f) us) (EP X pins σ Q) X.xe s:=by
 have hl:(us++ []).length=ps.length:=by rw[cT,←r.length];exact F.len _ _ _ _ h
 have hb2:=hb s us I.kIn hl;rw[cT]at hb2;refine gB (eG (F.run X.A X.stack s (put H C) ⟨us,[]⟩ us vs _ _ hr (cs.env0 I) hb2 r h) λrs s' hq=>?_)
 match rs,hq with
 |.ok (.ret u),hq=>
  obtain⟨v,H',os,bare,un,hok,rv,q⟩:=hq;have n': ∀c o,C.lookup c=some o->H' c=some (AT c o):=λc o e=>un.frzs c o _ (Ep e);exact I.after ⟨v,del H' C,os,bare,un.forth cs.at_ hok n' (cs.nf I),hok.del n',rv,q n'⟩
 |.ok .next,hq=>exact hq.elim
 |.ok .brk,hq=>exact hq.elim
 |.ok .cont,hq=>exact hq.elim
 |.error e,hq=>exact hq.elim
structure pU(X:Cx)(params:Arguments)(body:Expr)(scope:Scope)(pos:Pos)(P:Addr)(H H':Hp)(f c':Addr)(oc:Obj)(ctv:Value)(cl:List (Str×Addr)):Prop where
 old:∀b u,H b=some u->b≠P->H' b=some u
 new:H f=none
 tab:∃ps',H' P=some (.tbl ps')/\LO H' (X.env.qual++ "<lambda>") pos ps'
 fn:H' f=some (AT f (PySem.W.kla_obj "<lambda>" (X.env.qual++ "<lambda>") params body scope cl ((X.mg "__name__").getD .none) c' ctv))
 cd:H' c'=some (AT c' oc)
 code:∃vs t,oc.data=.fields vs/\vs[1]?=some (.str (X.env.qual++ "<lambda>") t)
 sub:∀p∈cl,X.env.cells.lookup p.1=some p.2
 has:∀x,scope.names.lookup x=some .free->∃c,cl.lookup x=some c
def Q4(X:Cx)(params:Arguments)(body:Expr)(scope:Scope)(pos:Pos)(P:Addr):TE:=λ_ H Q=>∃ps,H P=some (.tbl ps)/\LO H (X.env.qual++ "<lambda>") pos ps/\∀H' f c' oc ctv cl,pU X params body scope pos P H H' f c' oc ctv cl->Q (.ref f) H'
def Yr(hdef:defaultsOf params X.env=([],[]))(hfree:∀y∈scope.names,y.2=.free->X.env.kindOf y.1=some .cell)(hcode:X.env.code=.ref c)(Cd:PySem.W.CodeHd X.base c P)(hbm:X.base.BuiltinsAt X.mg P)(hgP:mainGlobals≠P):PE X (.Lambda params body scope pos) (Q4 X params body scope pos P):=by
 intro pins s σ H Q I ⟨ps,hP,ht,q⟩;exact YM I hdef (λy hy e=>I.ok.has y.1 (.inl (hfree y hy e))) hcode Cd hP ht hbm I.mod.glob hgP λf c' oc ctv cl H' s' ps' I' h1 h2 h3 h4 h5 h6 h7 h8 h9 h10=>⟨.ref f,H',I',rfl,q H' f c' oc ctv cl ⟨h1,h2,⟨ps',h3,h4⟩,h5,h6,h7,h9,h10⟩⟩
def LU(h:Heap)(mg:Str->Option Value):Prop:=E2 λbm o=>A6 (mg "__builtins__"=some (.ref bm)) (bm≠builtinsNs) (h.get? bm=some o) (o.cls=.type "module") (o.dict=some builtinsNs) (o.data=.plain)
def Pp{K:Fq}{TS:List (Addr×Array Value)}{k:Nat}{x:Str}{s₁:Shared}{vs:List Value}{ns:List Int}
 (KX:K.In s₁.heap)(hns:s₁.heap.Ns mainGlobals mg)(hb:s₁.heap.Ns builtinsNs mb)(hbb:∀x:Str,x≠ "__name__"->mb x=bootBuiltins x)(hlim:s₁.heap.NoLimit)(hg:s₁.gens=#[])
 (ha:s₁.heap.get? a=some {cls:=.type "list",data:=.seq vs.toArray})(hi:IntsAre vs ns)(hl:ns.length<=sizeLine)(hr:Bp k callerA)
 (hT:∀b ps,TS.lookup b=some ps->s₁.heap.get? b=some (PySem.W.tabObj ps)/\isCodeTable s₁.heap b)(hKT:∀b ps,TS.lookup b=some ps->K.lookup b=none)(hbm:LU s₁.heap mg)
 (F:∀base:Heap,K.In base->base.Ns mainGlobals mg->LU base mg->(∀b ps,TS.lookup b=some ps->base.get? b=none)->DI P w K mg base CX k fa fd [x] sp)(hbind:∀s u,BindsTo s fd ⟨[u],[]⟩ [(x,u)])
 (hsp:∀H:Hp,(∀b ps,TS.lookup b=some ps->H b=some (.tbl ps))->Dp K H a (ns.map V.int)->sp [.ref a] H (λv _=>v=.bl true) λ_ _ _=>False)
 (hCX:∀H e s',CX [] H s₁ (λ_ _ _=>False) e s'->False) :
 codeAny (model P w) callerA (.call (.ref fa) ⟨[.ref a],[]⟩) (λr s'=>r=.ok (.ret (.bool true))/\OldK s₁.heap s'.heap/\s'.os=s₁.os/\AllBare s'.gens) s₁:=by
 have rv:=Ii hi;have lenV:=hi.length;have hTh:∀b ps,TS.lookup b=some ps->s₁.heap.get? b=some (PySem.W.tabObj ps):=λb ps e=>(hT b ps e).1;have aT:TS.lookup a=none:=by
  cases q:TS.lookup a with
  |none=>rfl
  |some ps=>have:=hTh a ps q;rw[ha]at this;cases this
 have core:∀H:Hp,(∀b,TS.lookup b=none->(H b=none\/∃o xs,H b=some (.frz o (.lst xs))))->(∀b ps,TS.lookup b=some ps->H b=some (.tbl ps))->Dp K H a (ns.map V.int)->Dk P w H s₁.heap->(∀b,H b≠none->b=a\/TS.lookup b≠none)->(H a≠none->K.lookup a=none)->
  codeAny (model P w) callerA (.call (.ref fa) ⟨[.ref a],[]⟩) (λr s'=>r=.ok (.ret (.bool true))/\OldK s₁.heap s'.heap/\s'.os=s₁.os/\AllBare s'.gens) s₁:=by
  intro H hO hOt hS hok hA hK;have base_of:∀{b:Addr}{o:Obj},s₁.heap.get? b=some o->H b=none->(Gd s₁.heap H).get? b=some o:=λe n=>S7 e n;have noA:∀{b:Addr}{o:Obj}{es:Array DictEntry}{ep:Nat},s₁.heap.get? b=some o->o.data=.dict es ep->H b=none:=λ{b o es ep} e d=>by
   cases q:H b with
   |none=>rfl
   |some u=>
    rcases hA b (by rw[q];simp) with e'|e'
    ·subst e';rw[ha]at e;cases e;have d':Data.seq vs.toArray _=Data.dict es ep:=d;cases d'
    obtain⟨ps,e2⟩:=hW.mp e';rw[hTh b ps e2]at e;cases e;have d':Data.fields ps=Data.dict es ep:=d;cases d'
  have nsK:∀{b:Addr}{m:Mq},s₁.heap.Ns b m->(Gd s₁.heap H).Ns b m:=λ{b m} ⟨o,es,ep,e,d,r⟩=>⟨o,es,ep,base_of e (noA e d),d,r⟩;have hKb:K.In (Gd s₁.heap H):=λb o e=>by
   have e1:=e;have e2:TS.lookup b=none:=by
    cases q:TS.lookup b with
    |none=>rfl
    |some ps=>rw[hKT b ps q]at e;cases e
   refine base_of (KX b o e1) ?_;cases q:H b with
   |none=>rfl
   |some u=>
    rcases hA b (by rw[q];simp) with e'|e'
    ·subst e';rw[hK (by rw[q];simp)]at e1;cases e1
    exact absurd e2 e'
  have hM:Mod K mg (Gd s₁.heap H):=⟨hKb,nsK hns,⟨mb,nsK hb,hbb⟩,let ⟨mc,h1,h2⟩:=hlim;⟨mc,nsK h1,h2⟩⟩;have e0:HD P w K mg (Gd s₁.heap H) callerA [] s₁ H:=⟨rfl,hM,λb o e=>NI e,Nat.le_of_eq (Py _ _),trivial,λb hb=>absurd (show b∈([]:List Addr) from hb) (by simp),hok,.of_eq hg⟩;have hbm':LU (Gd s₁.heap H) mg:=by
   obtain⟨bm,o,b1,b2,b3,b4,b5,b6⟩:=hbm;refine⟨bm,o,b1,b2,base_of b3 ?_,b4,b5,b6⟩;cases q:H bm with
   |none=>rfl
   |some u=>
    rcases hA bm (by rw[q];simp) with e'|e'
    ·subst e';rw[ha]at b3;cases b3;cases b6
    obtain⟨ps,e2⟩:=hW.mp e';rw[hTh bm ps e2]at b3;cases b3;cases b6
  have hno:∀b ps,TS.lookup b=some ps->(Gd s₁.heap H).get? b=none:=λb ps e=>by
   cases q:(Gd s₁.heap H).get? b with
   |none=>rfl
   |some o=>have:=(NI q).2;rw[hOt b ps e]at this;cases this
  refine eG ((F _ hKb (nsK hns) hbm' hno).run callerA [] s₁ H ⟨[.ref a],[]⟩ [.ref a] [.ref a] _ _ hr e0 (hbind s₁ (.ref a)) (.cons rfl .nil) (hsp H hOt hS)) λr s' h=>?_;cases r with
  |error e=>exact(hCX H e s' h).elim
  |ok fl=>
   cases fl with
   |next=>exact False.elim h
   |brk=>exact False.elim h
   |cont=>exact False.elim h
   |ret u=>
    obtain⟨v,H',os,bare,un,hok',r',q⟩:=h;have q':v=.bl true:=q;subst q';obtain rfl:u=Value.bool true:=r';refine⟨rfl,⟨λb o e=>?_,λb o e=>un.there b o e (by simp)⟩,os,bare⟩;cases qt:TS.lookup b with
    |some ps=>
     have e1:=hTh b ps qt;rw[e]at e1;cases e1;obtain⟨more,e2⟩:=un.tbls b ps (hOt b ps qt);have e3:s'.heap.get? b=some {cls:=.none,data:=.fields (ps++more)}:=hok' b _ e2;exact .inr (.inl ⟨(hT b ps qt).2,rfl,ps,more,rfl,e3⟩)
    |none=>
     rcases hO b qt with z|⟨ob,xs,z⟩
     ·exact .inl (un.keep b o e z (by intro z;exact absurd (show b∈([]:List Addr) from z) (by simp)) (by simp))
     have z2:=un.frzs b ob _ z;obtain⟨e1,_⟩:=hok b _ z;obtain⟨e2,_⟩:=hok' b _ z2;rw[e]at e1;cases e1;exact .inl e2
 cases hk:K.lookup a with
 |some o=>
  have e:=KX a o hk;rw[ha]at e;cases e;refine core (λb=>(TS.lookup b).map HO.tbl) (λb z=>.inl (by rw[z];rfl)) (λb ps z=>by show(TS.lookup b).map HO.tbl=_;rw[z];rfl) (.inr ⟨_,vs.toArray,_,hk,rfl,rfl,rfl,by rw[aY,lenV];exact hl,by simpa using rv⟩) (λb u z=>?_) (λb z=>.inr λq=>z (by show(TS.lookup b).map HO.tbl=none;rw[q];rfl)) λz=>absurd (by show(TS.lookup a).map HO.tbl=none;rw[aT];rfl) z;cases q:TS.lookup b with
  |none=>have z:(TS.lookup b).map HO.tbl=some u:=z;rw[q]at z;cases z
  |some ps=>have z:(TS.lookup b).map HO.tbl=some u:=z;rw[q]at z;cases z;exact hTh b ps q
 |none=>
  refine core (λb=>if b=a then some (.frz {cls:=.type "list",data:=.seq vs.toArray} (.lst (ns.map V.int))) else(TS.lookup b).map HO.tbl) (λb hb0=>?_) (λb ps z=>?_) (.inl (.inr ⟨{cls:=.type "list",data:=.seq vs.toArray},if_pos rfl⟩)) (λb u z=>?_) (λb z=>?_) λ_=>hk
  ·by_cases hb:b=a
   ·exact .inr ⟨_,_,if_pos hb⟩
   exact .inl ((if_neg hb).trans (by rw[hb0];rfl))
  ·have hb:b≠a:=λe=>by rw[e,aT]at z;cases z
   exact(if_neg hb).trans (by rw[z];rfl)
  ·by_cases hb:b=a
   ·have z':=(if_pos hb).symm.trans z;cases z';subst hb;exact⟨ha,by rw[aC];exact hl,vs,_,rv,ha⟩
   have z':=(if_neg hb).symm.trans z;cases q:TS.lookup b with
   |none=>rw[q]at z';cases z'
   |some ps=>rw[q]at z';cases z';exact hTh b ps q
  by_cases hb:b=a
  ·exact .inl hb
  refine .inr λq=>z ((if_neg hb).trans (by rw[q];rfl))
def Qv{l:PySem.W.OpenLaw}{n k:Nat}{q:Program}{loose:List Str}{XP:(Str->Option Value)->Heap->Prop}{YP:World->Heap->Prop}{d:DefRec}{K:Params->PySem.W.Frag}{TS:List (Addr×Array Value)}{sp:World->Sp}{x:Str}
 (hn:l.most=some n)(hn2:n<=sizeLine)(hdf:d.params.defaults=[])(hr:Bp k callerA)
 (hY:∀(w:World) (h:Heap),YP w h->(K w.params).In h)
 (hT:∀(w:World) (h:Heap),YP w h->∀b ps,TS.lookup b=some ps->h.get? b=some (PySem.W.tabObj ps)/\isCodeTable h b)(hKT:∀(w:World) b ps,TS.lookup b=some ps->(K w.params).lookup b=none)
 (F:∀(w:World) (mg:Mq) (fa:Addr) (h:Heap),(K w.params).In h->h.Ns mainGlobals mg->mg d.name=some (.ref fa)->
   ∃fd:FuncData,(∀(s:Shared) (u:Value),BindsTo s fd ⟨[u],[]⟩ [(x,u)])/\
    ∀base:Heap,(K w.params).In base->base.Ns mainGlobals mg->LU base mg->(∀b ps,TS.lookup b=some ps->base.get? b=none)->DI l.prog w (K w.params) mg base O5 k fa fd [x] (sp w))
 (hsp:∀(w:World) (H:Hp) (a:Addr) (ns:List Int),ns.length<=n->(∀b ps,TS.lookup b=some ps->H b=some (.tbl ps))->Dp (K w.params) H a (ns.map V.int)->sp w [.ref a] H (λv _=>v=.bl true) λ_ _ _=>False) :
 PySem.W.WalkO q loose XP YP l.row.toRowW d [] (λf vs=>PySem.call f vs):=by
 refine Att.attach_call hn hdf λw s₀ s₁ mg mb fa o pm cd doc a vs ns G Y ho hd hcd hmg hobj hints hlen hg=>?_;have KX:=hY w _ Y;obtain⟨fd,hb,hF⟩:=F w mg fa _ KX G.T.g hmg;exact Pp KX G.T.g G.T.b G.T.builtins G.T.nolimit hg hobj hints (b9 hlen hn2) hr (hT w _ Y) (hKT w) (by obtain⟨bm,o,b1,b2,b3,b4,b5,b6⟩:=G.T.bmain;exact⟨bm,o,b1,b2,b3,b4,b5,b6⟩) hF hb (λH hO hS=>hsp w H a ns hlen hO hS) λ_ _ _ z=>z
end L2
namespace B
open PySem L2
open PyProof.Rows hiding St
inductive MV where
 |non|bl (b:Bool)|int (i:Int)|str (x:Str)
 |tup (l:List MV)|lst (l:List MV)|scr (l:List MV)|dic (t:Bool) (ks vs:List MV)
 |obj (c:Nat) (ns:List Nat) (vs:List MV)
 |cls (c:Nat)|ty (n:Kd)|lam (k:Nat) (cs:List MV)
inductive R where
 |v (m:MV)|r (n:Nat)|l (k:Nat) (ms:List MV)
inductive MO where
 |lst (l:List MV)|dic (t:Bool) (ks vs:List MV)|ins (c:Nat) (ns:List Nat) (vs:List MV)|gone (m:MV)
abbrev MH:=List MO
abbrev En:=List (Option R)
inductive AI(α:Type) where
 |ok (a:α) (h:MH)|no
noncomputable def AI.bind{α β:Type}(x:AI α)(k:α->MH->AI β):AI β:=match x with
 |.ok a h=>k a h
 |.no=>.no
noncomputable def AI.of{α:Type}(x:Option α)(h:MH):AI α:=match x with
 |some a=>.ok a h
 |none=>.no
structure Wd where
 K:PySem.W.Frag
 ca:Nat->Addr
 nm:Nat->Str
 inj:∀i j,nm i=nm j->i=j
 lamR:Hp->Nat->List V->V->Prop
 lamS:∀{F F':Hp}{k:Nat}{vs:List V}{v:V},Ak F F'->lamR F k vs v->lamR F' k vs v
 tl:List (Addr×Str×Pos)
noncomputable def BJ:Key->MV
 |.inl i=>.int i
 |.inr x=>.str x
mutual
noncomputable def Aq(W:Wd)(F:Hp):MV->V->Prop
 |.non,v=>v=.non
 |.bl b,v=>v=.bl b
 |.int i,v=>v=.int i
 |.str x,v=>v=.str x
 |.tup l,v=>∃a vs,v=.ref a/\F a=some (.tup vs)/\Ad W F l vs
 |.lst l,v=>∃a vs,v=.ref a/\F a=some (.lst vs)/\Ad W F l vs
 |.scr l,v=>∃a vs,v=.ref a/\Dp W.K F a vs/\Ad W F l vs
 |.dic t ks ms,v=>∃a vs,v=.ref a/\Ad W F ms vs/\((∃kk:List (List Key),t=true/\ks=kk.map (λk=>.tup (k.map BJ))/\(∃ob,F a=some (.frz ob (.dT (kk.zip vs))))/\kk.length=vs.length)\/(∃kk:List Key,t=false/\ks=kk.map BJ/\(∃ob,F a=some (.frz ob (.dK (kk.zip vs))))/\kk.length=vs.length))
 |.obj c ns ms,v=>E3 λa dx vs=>A5 (v=.ref a) (F a=some (.ins (W.ca c) dx ((ns.map W.nm).zip vs))) (F dx=some (.own a)) (ns.length=vs.length) (Ad W F ms vs)
 |.cls c,v=>v=.ref (W.ca c)
 |.ty n,v=>v=.ty n.nm
 |.lam _ _,_=>False
noncomputable def Ad(W:Wd)(F:Hp):List MV->List V->Prop
 |[],vs=>vs=[]
 |m::ms,vs=>∃v r,vs=v::r/\Aq W F m v/\Ad W F ms r
end
section
def LS(F F':Hp):Prop:=∀b u,F b=some u->(∀o,u≠AT b o)->F' b=some u
def LS.seq{K:Fq}{a:Addr}{xs:List V}(s:LS F F')(h:Dp K F a xs):Dp K F' a xs:=h.imp (λh=>h.imp (λe=>s _ _ e (λo z=>by cases z)) λ⟨o,e⟩=>⟨o,s _ _ e (λo z=>by cases z)⟩) id
mutual
theorem Aq.sameP(s:LS F F'):∀{m:MV}{v:V},Aq W F m v->Aq W F' m v
 |.non,_,h=>by unfold Aq at h ⊢; exact h
 |.bl _,_,h=>by unfold Aq at h ⊢; exact h
 |.int _,_,h=>by unfold Aq at h ⊢; exact h
 |.str _,_,h=>by unfold Aq at h ⊢; exact h
 |.cls _,_,h=>by unfold Aq at h ⊢; exact h
 |.ty _,_,h=>by unfold Aq at h ⊢; exact h
 |.tup l,_,h=>by
  unfold Aq at h ⊢;obtain⟨a,vs,e,q,r⟩:=h;exact⟨a,vs,e,s _ _ q (λo z=>by cases z),Ad.sameP s r⟩
 |.lst l,_,h=>by
  unfold Aq at h ⊢;obtain⟨a,vs,e,q,r⟩:=h;exact⟨a,vs,e,s _ _ q (λo z=>by cases z),Ad.sameP s r⟩
 |.scr l,_,h=>by
  unfold Aq at h ⊢;obtain⟨a,vs,e,q,r⟩:=h;exact⟨a,vs,e,s.seq q,Ad.sameP s r⟩
 |.dic t ks ms,_,h=>by
  unfold Aq at h ⊢;obtain⟨a,vs,e,r,q⟩:=h;refine⟨a,vs,e,Ad.sameP s r,?_⟩;rcases q with⟨kk,e0,e1,e2,e3⟩|⟨kk,e0,e1,e2,e3⟩
  ·exact .inl ⟨kk,e0,e1,e2.imp λ_ e=>s _ _ e (λo z=>by cases z),e3⟩
  exact .inr ⟨kk,e0,e1,e2.imp λ_ e=>s _ _ e (λo z=>by cases z),e3⟩
 |.obj c ns ms,_,h=>by
  unfold Aq at h ⊢;obtain⟨a,dx,vs,e,h1,h2,h3,r⟩:=h;exact⟨a,dx,vs,e,s _ _ h1 (λo z=>by cases z),s _ _ h2 (λo z=>by cases z),h3,Ad.sameP s r⟩
 |.lam _ _,_,h=>by unfold Aq at h;exact h.elim
theorem Ad.sameP(s:LS F F'):∀{ms:List MV}{vs:List V},Ad W F ms vs->Ad W F' ms vs
 |[],_,h=>by unfold Ad at h ⊢; exact h
 |m::ms,_,h=>by
  unfold Ad at h ⊢;obtain⟨v,r,e,h1,h2⟩:=h;exact⟨v,r,e,Aq.sameP s h1,Ad.sameP s h2⟩
end
def Aq.same(s:Ak F F')(h:Aq W F m v):Aq W F' m v:=Aq.sameP (λb u e _=>s b u e) h
def Ad.same(s:Ak F F')(h:Ad W F ms vs):Ad W F' ms vs:=Ad.sameP (λb u e _=>s b u e) h
def Ad.nil:Ad W F [] []:=by unfold Ad;rfl
def Ad.cons{m:MV}{ms:List MV}{v:V}{vs:List V}(h:Aq W F m v)(t:Ad W F ms vs):Ad W F (m::ms) (v::vs):=by unfold Ad;exact⟨v,vs,rfl,h,t⟩
theorem Ad.len:∀{ms:List MV}{vs:List V},Ad W F ms vs->ms.length=vs.length
 |[],_,h=>by unfold Ad at h;subst h;rfl
 |m::ms,_,h=>by
  unfold Ad at h;obtain⟨v,r,e,_,h2⟩:=h;subst e;simp[Ad.len h2]
def Ad.nil_iff(h:Ad W F [] vs):vs=[]:=by unfold Ad at h;exact h
def Ad.uncons(h:Ad W F (m::ms) vs):∃v r,vs=v::r/\Aq W F m v/\Ad W F ms r:=by unfold Ad at h;exact h
theorem Ad.app:∀{ms ks:List MV}{vs us:List V},Ad W F ms vs->Ad W F ks us->Ad W F (ms++ks) (vs++us)
 |[],_,_,_,h,t=>by rw[h.nil_iff];exact t
 |m::ms,_,_,_,h,t=>by
  obtain⟨v,r,e,h1,h2⟩:=h.uncons;subst e;exact .cons h1 (Ad.app h2 t)
theorem Ad.get:∀{ms:List MV}{vs:List V}{i:Nat}{m:MV},Ad W F ms vs->ms[i]?=some m->∃v,vs[i]?=some v/\Aq W F m v
 |[],_,_,_,_,e=>by simp at e
 |k::ms,_,0,m,h,e=>by
  obtain⟨v,r,e1,h1,h2⟩:=h.uncons;subst e1;simp at e;subst e;exact⟨v,rfl,h1⟩
 |k::ms,_,i+1,m,h,e=>by
  obtain⟨v,r,e1,h1,h2⟩:=h.uncons;subst e1;obtain⟨u,q1,q2⟩:=Ad.get (i:=i) h2 (by simpa using e);exact⟨u,by simpa using q1,q2⟩
theorem Ad.set(q:Aq W F m v):∀{ms:List MV}{vs:List V}{i:Nat},Ad W F ms vs->Ad W F (ms.set i m) (vs.set i v)
 |[],_,_,h=>by rw[h.nil_iff];exact .nil
 |k::ms,_,0,h=>by
  obtain⟨u,r,e1,h1,h2⟩:=h.uncons;subst e1;exact .cons q h2
 |k::ms,_,i+1,h=>by
  obtain⟨u,r,e1,h1,h2⟩:=h.uncons;subst e1;exact .cons h1 (Ad.set q h2)
theorem Ad.take:∀{ms:List MV}{vs:List V} n,Ad W F ms vs->Ad W F (ms.take n) (vs.take n)
 |_,_,0,_=>by simp;exact .nil
 |[],_,n+1,h=>by rw[h.nil_iff];exact .nil
 |k::ms,_,n+1,h=>by
  obtain⟨u,r,e1,h1,h2⟩:=h.uncons;subst e1;exact .cons h1 (Ad.take n h2)
theorem Ad.drop:∀{ms:List MV}{vs:List V} n,Ad W F ms vs->Ad W F (ms.drop n) (vs.drop n)
 |_,_,0,h=>h
 |[],_,n+1,h=>by rw[h.nil_iff];exact .nil
 |k::ms,_,n+1,h=>by
  obtain⟨u,r,e1,h1,h2⟩:=h.uncons;subst e1;exact Ad.drop n h2
def Cr(W:Wd)(F H:Hp)(a:Addr):MO->Prop
 |.lst l=>F a=none/\∃vs,H a=some (.lst vs)/\Ad W F l vs
 |.dic t ks ms=>F a=none/\∃vs,Ad W F ms vs/\((∃kk:List (List Key),t=true/\ks=kk.map (λk=>.tup (k.map BJ))/\H a=some (.dT (kk.zip vs))/\kk.length=vs.length)\/(∃kk:List Key,t=false/\ks=kk.map BJ/\H a=some (.dK (kk.zip vs))/\kk.length=vs.length))
 |.ins c ns ms=>F a=none/\E2 λdx vs=>A5 (H a=some (.ins (W.ca c) dx ((ns.map W.nm).zip vs))) (H dx=some (.own a)) (F dx=none) (ns.length=vs.length) (Ad W F ms vs)
 |.gone m=>Aq W F m (.ref a)/\∃o,F a=some o/\∀ob,o≠AT a ob
def Kv:HO->Prop
 |.tbl _=>True
 |.frz _ _=>True
 |_=>False
def No(W:Wd)(H:Hp):Prop:=∀t∈W.tl,∃ps,H t.1=some (.tbl ps)/\LO H t.2.1 t.2.2 ps
def No.keep(t:No W H)(k:∀b u,H b=some u->Kv u->H' b=some u):No W H':=λx hx=>by
 obtain⟨ps,h1,h2,h3⟩:=t x hx;refine⟨ps,k _ _ h1 trivial,h2,h3.imp id λ⟨c',oc,vs,t,a,b,c,d⟩=>⟨c',oc,vs,t,a,k _ _ b trivial,c,d⟩⟩
def No.upd(t:No W H)(k:∀u,H p=some u->¬Kv u):No W (upd H p o):=t.keep λb u e n=>by
 rw[Aa (λz=>by subst z;exact k u e n)];exact e
structure Bq(W:Wd)(F H:Hp)(ρ:List Addr)(h:MH):Prop where
 sub:Ak F H
 nd:ρ.Nodup
 len:ρ.length=h.length
 obj:∀(n:Nat) (a:Addr) (m:MO),ρ[n]?=some a->h[n]?=some m->Cr W F H a m
 tb:No W H
 tf:∀t∈W.tl,F t.1=none
def AC(W:Wd)(F:Hp)(ρ:List Addr):R->V->Prop
 |.v m,v=>Aq W F m v
 |.r n,v=>∃a,v=.ref a/\ρ[n]?=some a
 |.l k ms,v=>∃vs,W.lamR F k vs v/\Ad W F ms vs
def AF(W:Wd)(F:Hp)(ρ:List Addr):List R->List V->Prop:=Paired (AC W F ρ)
structure DX(F:Hp)(ρ:List Addr)(F':Hp)(ρ':List Addr):Prop where
 s:Ak F F'
 p:ρ <+: ρ'
theorem DX.refl:DX F ρ F ρ:=⟨Ak.refl _,cF _⟩
theorem DX.trans(a:DX F ρ F1 ρ1)(b:DX F1 ρ1 F2 ρ2):DX F ρ F2 ρ2:=⟨a.s.trans b.s,a.p.trans b.p⟩
def Js{α:Type}{l l':List α}(p:l <+: l'){i:Nat}{x:α}(h:l[i]?=some x):l'[i]?=some x:=by
 obtain⟨t,rfl⟩:=p;rw[aO (a9.mp h).1];exact h
def AC.nxt(n:DX F ρ F' ρ'):∀{r:R}{v:V},AC W F ρ r v->AC W F' ρ' r v
 |.v m,_,h=>Aq.same n.s h
 |.r k,_,⟨a,e,h⟩=>⟨a,e,Js n.p h⟩
 |.l k ms,_,⟨vs,a,h⟩=>⟨vs,W.lamS n.s a,h.same n.s⟩
theorem AF.nxt(n:DX F ρ F' ρ')(h:AF W F ρ rs vs):AF W F' ρ' rs vs:=Paired.mapP h λ_ _ q=>AC.nxt n q
structure BQ(W:Wd)(F:Hp)(ρ:List Addr)(μ:En)(σ:St):Prop where
 len:μ.length=σ.length
 at_:∀(i:Nat) (r:R),μ[i]?=some (some r)->∃v,σ[i]?=some (some v)/\AC W F ρ r v
theorem BQ.nxt(n:DX F ρ F' ρ')(e:BQ W F ρ μ σ):BQ W F' ρ' μ σ:=⟨e.len,λi r h=>let ⟨v,h1,h2⟩:=e.at_ i r h;⟨v,h1,h2.nxt n⟩⟩
theorem BQ.set(e:BQ W F ρ μ σ)(h:AC W F ρ r v)(i:Nat):BQ W F ρ (μ.set i (some r)) (σ.set i (some v)):=by
 refine⟨by simp[e.len],λj q hj=>?_⟩;by_cases hi:i=j
 ·subst hi;rw[f8]at hj;simp at hj;obtain⟨hl,rfl⟩:=hj;refine⟨v,?_,h⟩;rw[f8];simp[←e.len,hl]
 rw[c7 hi]at hj;obtain⟨u,h1,h2⟩:=e.at_ j q hj;exact⟨u,by rw[c7 hi];exact h1,h2⟩
end
def Am{α β:Type}(W:Wd)(rep:Hp->List Addr->α->β->Prop)(F:Hp)(ρ:List Addr)(x:AI α)(Q:β->Hp->Prop):Prop:=
 match x with
 |.ok r h'=>∀F' ρ' H' v,DX F ρ F' ρ'->Bq W F' H' ρ' h'->rep F' ρ' r v->Q v H'
 |.no=>False
inductive sg{α β:Type}(W:Wd)(rep:Hp->List Addr->α->β->Prop)(F:Hp)(ρ:List Addr)(v:β)(H1:Hp)(P:Hp->List Addr->α->MH->Prop):Prop
 |mk (F1:Hp) (ρ1:List Addr) (r:α) (h1:MH) (n:DX F ρ F1 ρ1) (S:Bq W F1 H1 ρ1 h1) (q:rep F1 ρ1 r v) (G:P F1 ρ1 r h1)
theorem Am.bind{α β γ δ:Type}{W:Wd}{rep:Hp->List Addr->α->β->Prop}{rep2:Hp->List Addr->γ->δ->Prop}{F:Hp}{ρ:List Addr}{x:AI α}{k:α->MH->AI γ}{Q:δ->Hp->Prop}
 (g:Am W rep2 F ρ (x.bind k) Q):Am W rep F ρ x λv H1=>sg W rep F ρ v H1 λF1 ρ1 r h1=>Am W rep2 F1 ρ1 (k r h1) Q:=by
 cases x with
 |no=>exact g
 |ok r h=>
  intro F1 ρ1 H1 v n s q;refine⟨F1,ρ1,r,h,n,s,q,?_⟩;have g:Am W rep2 F ρ (k r h) Q:=g;cases e:k r h with
  |no=>rw[e]at g;exact g
  |ok r2 h2=>rw[e]at g;exact λF2 ρ2 H2 a n2=>g F2 ρ2 H2 a (n.trans n2)
def Am.ret{α β:Type}{W:Wd}{rep:Hp->List Addr->α->β->Prop}{F H:Hp}{ρ:List Addr}{r:α}{h:MH}{Q:β->Hp->Prop}{v:β}(g:Am W rep F ρ (.ok r h) Q)(s:Bq W F H ρ h)(q:rep F ρ r v):Q v H:=
 g F ρ H v .refl s q
theorem Am.of{α β:Type}{W:Wd}{rep:Hp->List Addr->α->β->Prop}{F:Hp}{ρ:List Addr}{o:Option α}{h:MH}{Q:β->Hp->Prop}(g:Am W rep F ρ (AI.of o h) Q):∃r,o=some r/\Am W rep F ρ (.ok r h) Q:=by
 cases o with
 |none=>exact False.elim g
 |some r=>exact⟨r,rfl,g⟩
def Am.nxt{α β:Type}{W:Wd}{rep:Hp->List Addr->α->β->Prop}{F F1:Hp}{ρ ρ1:List Addr}{x:AI α}{Q:β->Hp->Prop}(n:DX F ρ F1 ρ1)(g:Am W rep F ρ x Q):Am W rep F1 ρ1 x Q:=by
 cases x with
 |no=>exact g
 |ok r h=>exact λF2 ρ2 H2 a n2=>g F2 ρ2 H2 a (n.trans n2)
def Am.imp{α β:Type}{W:Wd}{rep:Hp->List Addr->α->β->Prop}{F:Hp}{ρ:List Addr}{x:AI α}{Q Q':β->Hp->Prop}(g:Am W rep F ρ x Q)(i:∀v H,Q v H->Q' v H):Am W rep F ρ x Q':=by
 cases x with
 |no=>exact g
 |ok r h=>exact λF2 ρ2 H2 a n2 s q=>i _ _ (g F2 ρ2 H2 a n2 s q)
abbrev GE(W:Wd):=Am (α:=R) (β:=V) W (AC W)
abbrev GA(W:Wd):=Am (α:=List R) (β:=List V) W (AF W)
inductive ZJ(W:Wd)(σ:St)(H:Hp)(P:Hp->List Addr->En->MH->Prop):Prop where
 |mk (F:Hp) (ρ:List Addr) (μ:En) (h:MH) (S:Bq W F H ρ h) (e:BQ W F ρ μ σ) (G:P F ρ μ h)
def tM(W:Wd)(f:En->MH->AI R):TE:=λσ H Q=>ZJ W σ H λF ρ μ h=>GE W F ρ (f μ h) Q
def HG(W:Wd)(f:En->MH->AI (List R)):TA:=λσ H Q=>ZJ W σ H λF ρ μ h=>GA W F ρ (f μ h) Q
def Fi(W:Wd)(f:En->MH->AI Bool):TT:=λσ H Q=>ZJ W σ H λF ρ μ h=>Am W (λ_ _ a b=>a=b) F ρ (f μ h) Q
def PE.of(h:PE X e t)(i:∀σ H Q,t' σ H Q->t σ H Q):PE X e t':=λpins s σ H Q I q=>h pins s σ H Q I (i σ H Q q)
def PT.of(h:PT X e t)(i:∀σ H Q,t' σ H Q->t σ H Q):PT X e t':=λpins s σ H Q I q=>h pins s σ H Q I (i σ H Q q)
def PA.of(h:PA X e t)(i:∀σ H Q,t' σ H Q->t σ H Q):PA X e t':=λpos pins s σ H Q I q=>h pos pins s σ H Q I (i σ H Q q)
def PS.of(h:PS X e t)(i:∀D σ H,t' D σ H->t D σ H):PS X e t':=λpins s σ H D I q=>h pins s σ H D I (i D σ H q)
def Ig.of(h:Ig X e t)(i:∀D σ H,t' D σ H->t D σ H):Ig X e t':=λpins s σ H D I q=>h pins s σ H D I (i D σ H q)
def B1(W:Wd)(F H:Hp):MV->V->Prop
 |.lst l,v=>∃a vs,v=.ref a/\H a=some (.lst vs)/\Ad W F l vs
 |.scr l,v=>∃a vs,v=.ref a/\Dp W.K H a vs/\Ad W F l vs
 |.tup l,v=>∃a vs,v=.ref a/\F a=some (.tup vs)/\Ad W F l vs
 |.dic t ks ms,v=>∃a vs,v=.ref a/\Ad W F ms vs/\((∃kk:List (List Key),t=true/\ks=kk.map (λk=>.tup (k.map BJ))/\Rd H a (.dT (kk.zip vs))/\kk.length=vs.length)\/(∃kk:List Key,t=false/\ks=kk.map BJ/\Rd H a (.dK (kk.zip vs))/\kk.length=vs.length))
 |.obj c ns ms,v=>E3 λa dx vs=>A5 (v=.ref a) (H a=some (.ins (W.ca c) dx ((ns.map W.nm).zip vs))) (H dx=some (.own a)) (ns.length=vs.length) (Ad W F ms vs)
 |.non,v=>v=.non
 |.bl b,v=>v=.bl b
 |.int i,v=>v=.int i
 |.str x,v=>v=.str x
 |.cls c,v=>v=.ref (W.ca c)
 |.ty n,v=>v=.ty n.nm
 |.lam k cs,v=>Aq W F (.lam k cs) v
section
def Aq.view(s:Ak F H)(h:Aq W F m v):B1 W F H m v:=by
 cases m with
 |lam k cs=>exact h
 |lst l=>unfold Aq at h;obtain⟨a,vs,e,q,r⟩:=h;exact⟨a,vs,e,s _ _ q,r⟩
 |scr l=>unfold Aq at h;obtain⟨a,vs,e,q,r⟩:=h;exact⟨a,vs,e,s.seq q,r⟩
 |tup l=>unfold Aq at h;exact h
 |dic t ks ms=>
  unfold Aq at h;obtain⟨a,vs,e,r,q⟩:=h;refine⟨a,vs,e,r,?_⟩;rcases q with⟨kk,e0,e1,e2,e3⟩|⟨kk,e0,e1,e2,e3⟩
  ·exact .inl ⟨kk,e0,e1,.inr (e2.imp λ_ e=>s _ _ e),e3⟩
  exact .inr ⟨kk,e0,e1,.inr (e2.imp λ_ e=>s _ _ e),e3⟩
 |obj c ns ms=>unfold Aq at h;obtain⟨a,dx,vs,e,h1,h2,h3,r⟩:=h;exact⟨a,dx,vs,e,s _ _ h1,s _ _ h2,h3,r⟩
 |non=>unfold Aq at h;exact h
 |bl b=>unfold Aq at h;exact h
 |int b=>unfold Aq at h;exact h
 |str b=>unfold Aq at h;exact h
 |cls b=>unfold Aq at h;exact h
 |ty b=>unfold Aq at h;exact h
noncomputable def MO.view:MO->Option MV
 |.lst l=>some (.lst l)
 |.dic t ks vs=>some (.dic t ks vs)
 |.ins c ns vs=>some (.obj c ns vs)
 |.gone m=>some m
theorem Cr.view(s:Ak F H)(l:Cr W F H a o)(e:o.view=some m):B1 W F H m (.ref a):=by
 cases o with
 |lst l'=>cases e;obtain⟨_,vs,h,r⟩:=l;exact⟨a,vs,rfl,h,r⟩
 |dic t ks ms=>
  cases e;obtain⟨_,vs,r,q⟩:=l;refine⟨a,vs,rfl,r,?_⟩;rcases q with⟨kk,e0,e1,e2,e3⟩|⟨kk,e0,e1,e2,e3⟩
  ·exact .inl ⟨kk,e0,e1,.inl e2,e3⟩
  exact .inr ⟨kk,e0,e1,.inl e2,e3⟩
 |ins c ns ms=>cases e;obtain⟨_,dx,vs,h1,h2,_,h3,r⟩:=l;exact⟨a,dx,vs,rfl,h1,h2,h3,r⟩
 |gone m=>cases e;exact Aq.view s l.1
noncomputable def A0(h:MH):R->Option MV
 |.v m=>some m
 |.r n=>(h[n]?).bind MO.view
 |.l _ _=>none
theorem Bq.view(S:Bq W F H ρ h)(q:AC W F ρ r v)(e:A0 h r=some m):B1 W F H m v:=by
 cases r with
 |v k=>cases e;exact Aq.view S.sub q
 |r n=>
  obtain⟨a,rfl,ha⟩:=q;cases ho:h[n]? with
  |none=>simp[A0,ho]at e
  |some o=>simp[A0,ho]at e;exact(S.obj n a o ha ho).view S.sub e
 |l k ms=>cases e
structure Cs(F H F' H':Hp):Prop where
 f:Ak F F'
 h:Ak H H'
 sub:Ak F' H'
 lv:∀b o,H b=some o->(∀xs,o≠ .tup xs)->F b=none->F' b=none
theorem Cs.refl(s:Ak F H):Cs F H F H:=⟨.refl _,.refl _,s,λ_ _ _ _ n=>n⟩
theorem Cs.new(s:Ak F H)(n:H p=none):Cs F H (upd F p o) (upd H p o):=by
 have nf:=s.free n;refine⟨.new nf,.new n,λb u e=>?_,λb u e _ f=>?_⟩
 ·by_cases hb:b=p
  ·subst hb;rw[Ac]at e ⊢; exact e
  rw[Aa hb]at e ⊢; exact s _ _ e
 have hb:=Aj e n;rw[Aa hb];exact f
def Cr.grow(g:Cs F H F' H')(l:Cr W F H a o):Cr W F' H' a o:=by
 cases o with
 |lst l'=>obtain⟨n,vs,h,r⟩:=l;exact⟨g.lv _ _ h (λ_ z=>by cases z) n,vs,g.h _ _ h,r.same g.f⟩
 |dic t ks ms=>
  obtain⟨n,vs,r,q⟩:=l;rcases q with⟨kk,e0,e1,e2,e3⟩|⟨kk,e0,e1,e2,e3⟩
  ·exact⟨g.lv _ _ e2 (λ_ z=>by cases z) n,vs,r.same g.f,.inl ⟨kk,e0,e1,g.h _ _ e2,e3⟩⟩
  exact⟨g.lv _ _ e2 (λ_ z=>by cases z) n,vs,r.same g.f,.inr ⟨kk,e0,e1,g.h _ _ e2,e3⟩⟩
 |ins c ns ms=>obtain⟨n,dx,vs,h1,h2,n2,h3,r⟩:=l;exact⟨g.lv _ _ h1 (λ_ z=>by cases z) n,dx,vs,g.h _ _ h1,g.h _ _ h2,g.lv _ _ h2 (λ_ z=>by cases z) n2,h3,r.same g.f⟩
 |gone m=>obtain⟨r,o,h⟩:=l;exact⟨r.same g.f,o,g.f _ _ h.1,h.2⟩
theorem Bq.grow(S:Bq W F H ρ h)(g:Cs F H F' H'):Bq W F' H' ρ h:=⟨g.sub,S.nd,S.len,λn a m h1 h2=>(S.obj n a m h1 h2).grow g,S.tb.keep λb u e _=>g.h b u e,λt ht=>g.lv _ _ (S.tb t ht).choose_spec.1 (λ_ z=>by cases z) (S.tf t ht)⟩
def Cs.nxt(g:Cs F H F' H'):DX F ρ F' ρ:=⟨g.f,cF _⟩
end
abbrev Ih(W:Wd)(F H:Hp)(c:MV)(Q:VK):Prop:=∀F' H' v,Cs F H F' H'->Aq W F' c v->Q v H'
def qA(W:Wd)(g:MV->Option MV):V->Hp->VK->Prop:=λx H Q=>E3 λF a c=>A4 (Ak F H) (B1 W F H a x) (g a=some c) (Ih W F H c Q)
def Qd(W:Wd)(g:MV->MV->Option MV):R2:=λx y H Q=>E4 λF a b c=>A5 (Ak F H) (B1 W F H a x) (B1 W F H b y) (g a b=some c) (Ih W F H c Q)
def FX(W:Wd)(F H:Hp):List MV->List V->Prop:=Paired (B1 W F H)
def Uv(W:Wd)(g:List MV->Option MV):List V->Hp->VK->Prop:=λxs H Q=>E3 λF as c=>A4 (Ak F H) (FX W F H as xs) (g as=some c) (Ih W F H c Q)
def BH.of(h:BH X f r)(i:∀x y H Q,r' x y H Q->r x y H Q):BH X f r':=λpins s σ H x y v u Q I rx ry q=>h pins s σ H x y v u Q I rx ry (i _ _ _ _ q)
section
theorem Ih.int{i:Int}(o:Ih W F H (.int i) Q)(s:Ak F H):Q (.int i) H:=o F H _ (.refl s) (by unfold Aq;rfl)
theorem Ih.bl(o:Ih W F H (.bl i) Q)(s:Ak F H):Q (.bl i) H:=o F H _ (.refl s) (by unfold Aq;rfl)
theorem Ih.str{i:Str}(o:Ih W F H (.str i) Q)(s:Ak F H):Q (.str i) H:=o F H _ (.refl s) (by unfold Aq;rfl)
theorem Ih.non(o:Ih W F H .non Q)(s:Ak F H):Q .non H:=o F H _ (.refl s) (by unfold Aq;rfl)
theorem Ih.lst{l:List MV}{vs:List V}{p:Addr}(o:Ih W F H (.lst l) Q)(s:Ak F H)(n:H p=none)(r:Ad W F l vs):Q (.ref p) (upd H p (.lst vs)):=
 o _ _ _ (.new s n) (by unfold Aq;exact⟨p,vs,rfl,Ac,r.same (Ak.new (s.free n))⟩)
theorem Ih.tup{l:List MV}{vs:List V}{p:Addr}(o:Ih W F H (.tup l) Q)(s:Ak F H)(n:H p=none)(r:Ad W F l vs):Q (.ref p) (upd H p (.tup vs)):=
 o _ _ _ (.new s n) (by unfold Aq;exact⟨p,vs,rfl,Ac,r.same (Ak.new (s.free n))⟩)
def Ih.same(o:Ih W F H m Q)(s:Ak F H)(r:Aq W F m v):Q v H:=o F H v (.refl s) r
end
inductive WS where|add|sub|mul|fdiv|mod|pow|shl|shr|and|or|xor
noncomputable def WS.op:WS->Operator
 |.add=>.Add| .sub=>.Sub| .mul=>.Mult| .fdiv=>.FloorDiv| .mod=>.Mod| .pow=>.Pow| .shl=>.LShift| .shr=>.RShift| .and=>.BitAnd| .or=>.BitOr| .xor=>.BitXor
noncomputable abbrev big:Nat:=16777216
noncomputable def JL:MV->Option Int
 |.int i=>some i
 |_=>none
noncomputable def Q7:MV->Option Str
 |.str i=>some i
 |_=>none
noncomputable def Sb:MV->Option (List MV)
 |.lst i=>some i
 |_=>none
noncomputable def ay:MV->Option (List MV)
 |.tup i=>some i
 |_=>none
noncomputable def RH:List MV->Option MV
 |[a]=>some a
 |_=>none
def Gn(h:RH l=some a):l=[a]:=by rcases l with _|⟨b,_|_⟩<;>cases h;rfl
def Cw{i:Int}(h:JL m=some i):m=.int i:=by cases m<;>cases h;rfl
def Gg{i:Str}(h:Q7 m=some i):m=.str i:=by cases m<;>cases h;rfl
def Go(h:Sb m=some i):m=.lst i:=by cases m<;>cases h;rfl
def TV(h:ay m=some i):m=.tup i:=by cases m<;>cases h;rfl
noncomputable def Pw{α:Type}(f:Int->Int->Option α)(a b:MV):Option α:=(JL a).bind λi=>(JL b).bind λj=>f i j
def ET{α:Type}{f:Int->Int->Option α}{a b:MV}{c:α}(h:Pw f a b=some c):∃i j,a=.int i/\b=.int j/\f i j=some c:=by
 obtain⟨i,h1,h⟩:=aA.mp h;obtain⟨j,h2,h⟩:=aA.mp h;exact⟨i,j,Cw h1,Cw h2,h⟩
noncomputable def YJ(a b:MV):Option MV:=match a with
 |.int i=>(JL b).bind λj=>some (.int (i+j))
 |.str x=>(Q7 b).bind λy=>if x.length+y.length<=big then some (.str (x++y)) else none
 |.lst x=>(Sb b).bind λy=>if x.length+y.length<=big then some (.lst (x++y)) else none
 |.tup x=>(ay b).bind λy=>if x.length+y.length<=big then some (.tup (x++y)) else none
 |_=>none
noncomputable def Dh(i j:Int):Bool:=(decide (-(2^64)<i)&&decide (i<2^64))||(decide (-(2^64)<j)&&decide (j<2^64))
noncomputable def YI(a b:MV):Option MV:=match a with
 |.int i=>(JL b).bind λj=>if Dh i j then some (.int (i*j)) else none
 |.str x=>(JL b).bind λn=>if 0<=n/\n<=100/\x.length<=100 then some (.str (BU n.toNat x)) else none
 |.lst x=>(JL b).bind λn=>if -(2^63)<=n/\n<2^63/\x.length*n.toNat<=big then some (.lst (List.replicate n.toNat x).flatten) else none
 |_=>none
noncomputable def C9(i j:Int):Bool:=decide (0<=j)&&decide (j<=1000000)&&decide (i.natAbs<2^64)
noncomputable def sV:WS->Int->Int->Option MV
 |.sub,i,j=>some (.int (i-j))
 |.fdiv,i,j=>if 0<j/\j<10000000000000000000000000000000000000000 then some (.int (i / j)) else none
 |.mod,i,j=>if 0<j then some (.int (i%j)) else none
 |.pow,i,j=>if C9 i j then some (.int (i^j.toNat)) else none
 |.shl,i,j=>if C9 i j then some (.int (i*2^j.toNat)) else none
 |.shr,i,j=>if 0<=j then some (.int (i / 2^j.toNat)) else none
 |.and,i,j=>some (.int (Builtin.bitAnd i j))
 |.or,i,j=>some (.int (Builtin.bitOr i j))
 |.xor,i,j=>some (.int (Builtin.bitXor i j))
 |_,_,_=>none
noncomputable def Bz:WS->MV->MV->Option MV
 |.add,a,b=>YJ a b
 |.mul,a,b=>YI a b
 |o,a,b=>Pw (sV o) a b
def JV:sizeLine=big:=dD
theorem Ad.rep(r:Ad W F x vs):∀n:Nat,Ad W F (List.replicate n x).flatten (List.replicate n vs).flatten
 |0=>by simp;exact .nil
 |n+1=>by rw[cH,cH,bZ,bZ];exact r.app (Ad.rep r n)
def Ao{α:Type}{c:Prop}[Decidable c]{a b:α}(h:(if c then some a else none)=some b):c/\a=b:=by
 by_cases hc:c
 ·rw[if_pos hc]at h;exact⟨hc,bJ h⟩
 rw[if_neg hc]at h;cases h
def pL(hK:X.K=W.K):BH X (binaryOp .Add) (Qd W YJ):=by
 intro pins s σ H x y v u Q I rx ry ⟨F,a,b,c,sub,va,vb,hg,q⟩;unfold YJ at hg;split at hg
 ·obtain⟨j,h1,h2⟩:=aA.mp hg;cases Cw h1;cases va;cases vb;cases h2;exact Y7 pins s σ H _ _ v u Q I rx ry ⟨_,_,rfl,rfl,q.int sub⟩
 ·obtain⟨j,h1,h2⟩:=aA.mp hg;obtain⟨hl,rfl⟩:=Ao h2;cases Gg h1;cases va;cases vb;exact My pins s σ H _ _ v u Q I rx ry ⟨_,_,rfl,rfl,hl,q.str sub⟩
 ·obtain⟨j,h1,h2⟩:=aA.mp hg;obtain⟨hl,rfl⟩:=Ao h2;cases Go h1;obtain⟨p,vs,rfl,hp,r⟩:=va;obtain⟨p',vs',rfl,hp',r'⟩:=vb;exact Y5 pins s σ H _ _ v u Q I rx ry ⟨p,p',_,_,rfl,rfl,hp,hp',by rw[←r.len,←r'.len];exact hl,λp2 n=>q.lst sub n (r.app r')⟩
 ·obtain⟨j,h1,h2⟩:=aA.mp hg;obtain⟨hl,rfl⟩:=Ao h2;cases TV h1;obtain⟨p,vs,rfl,hp,r⟩:=va;obtain⟨p',vs',rfl,hp',r'⟩:=vb;have g1:Eg X.K H p vs:=.inl (.inl (sub _ _ hp));have g2:Eg X.K H p' vs':=.inl (.inl (sub _ _ hp'));have e1:=r.len;have e2:=r'.len;cases vs' with
  |nil=>
   obtain rfl:=bR.mp e2;rw[cT]at q;have q':=q F H _ (.refl sub) (by unfold Aq;exact⟨p,vs,rfl,hp,r⟩);cases vs with
   |nil=>
    obtain rfl:=bR.mp e1;exact KQ pins s σ H _ _ v u Q I rx ry ⟨p,p',[],rfl,rfl,g1,g2,q F H _ (.refl sub) (by unfold Aq;exact⟨p',[],rfl,hp',r'⟩)⟩
   |cons k ks=>exact NH pins s σ H _ _ v u Q I rx ry ⟨p,p',_,_,rfl,rfl,g1,g2,by simp,by rw[←e1];exact hl,λ_=>q',λz=>absurd rfl z⟩
  |cons k ks=>
   refine RE pins s σ H _ _ v u Q I rx ry ⟨p,p',_,_,rfl,rfl,g1,g2,by simp,by rw[←e1,←e2];exact hl,λz=>?_,λp2 n=>q.tup sub n (r.app r')⟩;subst z;obtain rfl:=bR.mp e1;exact q F H _ (.refl sub) (by unfold Aq;exact⟨p',_,rfl,hp',r'⟩)
 cases hg
def nY(hK:X.K=W.K):BH X (binaryOp .Mult) (Qd W YI):=by
 intro pins s σ H x y v u Q I rx ry ⟨F,a,b,c,sub,va,vb,hg,q⟩;unfold YI at hg;split at hg
 ·obtain⟨j,h1,h2⟩:=aA.mp hg;obtain⟨hl,rfl⟩:=Ao h2;cases Cw h1;cases va;cases vb;refine Y1 pins s σ H _ _ v u Q I rx ry ⟨_,_,rfl,rfl,?_,q.int sub⟩;simp only[Dh,Bool.or_eq_true,Bool.and_eq_true,decide_eq_true_eq]at hl;exact hl
 ·obtain⟨j,h1,h2⟩:=aA.mp hg;obtain⟨⟨p1,p2,p3⟩,rfl⟩:=Ao h2;cases Cw h1;cases va;cases vb;exact UV pins s σ H _ _ v u Q I rx ry ⟨_,_,rfl,rfl,p1,p2,p3,q.str sub⟩
 ·obtain⟨j,h1,h2⟩:=aA.mp hg;obtain⟨⟨p1,p2,p3⟩,rfl⟩:=Ao h2;cases Cw h1;obtain⟨p,vs,rfl,hp,r⟩:=va;cases vb;exact Yy pins s σ H _ _ v u Q I rx ry ⟨p,_,vs,rfl,rfl,hp,p1,p2,by rw[←r.len];exact p3,λp2 n=>q.lst sub n (r.rep _)⟩
 cases hg
def W3(t:Qd W (Pw f) x y H Q):∃i j c,x=.int i/\y=.int j/\f i j=some c/\∃F,Ak F H/\Ih W F H c Q:=by
 obtain⟨F,a,b,c,sub,va,vb,hg,q⟩:=t;obtain⟨i,j,rfl,rfl,hf⟩:=ET hg;exact⟨i,j,c,va,vb,hf,F,sub,q⟩
def Vs{f:Int->Int->Option MV}{g:Int->Int->Int}(e:∀i j,f i j=some (.int (g i j))){x y:V}(t:Qd W (Pw f) x y H Q):Qe (λi j=>.int (g i j)) x y H Q:=by
 obtain⟨i,j,c,rfl,rfl,hf,F,sub,q⟩:=W3 t;rw[e]at hf;cases hf;exact⟨_,_,rfl,rfl,q.int sub⟩
def Sx{f:Int->Int->Option MV}{C:Int->Int->Prop}{P:Int->Int->Prop}[∀i j,Decidable (P i j)]{g:Int->Int->Int}(e:∀i j,f i j=if P i j then some (.int (g i j)) else none)(pc:∀i j,P i j->C i j){x y:V}(t:Qd W (Pw f) x y H Q):rI C (λi j=>.int (g i j)) x y H Q:=by
 obtain⟨i,j,c,rfl,rfl,hf,F,sub,q⟩:=W3 t;rw[e]at hf;obtain⟨hl,rfl⟩:=Ao hf;exact⟨_,_,rfl,rfl,pc _ _ hl,q.int sub⟩
def Y8{X:Cx}{W:Wd}(hK:X.K=W.K)(o:WS):BH X (binaryOp o.op) (Qd W (Bz o)):=by
 have pw:∀i j,C9 i j=true->0<=j/\j<=1000000/\i.natAbs<2^64:=λi j hl=>by
  simp only[C9,Bool.and_eq_true,decide_eq_true_eq]at hl;exact⟨hl.1.1,hl.1.2,hl.2⟩
 cases o with
 |add=>exact pL hK
 |mul=>exact nY hK
 |sub=>exact BH.of Yv λ_ _ _ _ t=>Vs (λ_ _=>rfl) t
 |fdiv=>exact BH.of RD λ_ _ _ _ t=>Sx (P:=λ_ j=>0<j/\j<10000000000000000000000000000000000000000) (λ_ _=>rfl) (λ_ _ h=>h) t
 |mod=>exact BH.of Y2 λ_ _ _ _ t=>Sx (λ_ _=>rfl) (λ_ _ h=>h) t
 |pow=>exact BH.of Yz λ_ _ _ _ t=>Sx (λ_ _=>rfl) pw t
 |shl=>exact BH.of Yx λ_ _ _ _ t=>Sx (λ_ _=>rfl) pw t
 |shr=>exact BH.of Yw λ_ _ _ _ t=>Sx (λ_ _=>rfl) (λ_ _ h=>h) t
 |and=>exact BH.of Y6 λ_ _ _ _ t=>Vs (λ_ _=>rfl) t
 |or=>exact BH.of ig λ_ _ _ _ t=>Vs (λ_ _=>rfl) t
 |xor=>exact BH.of Yu λ_ _ _ _ t=>Vs (λ_ _=>rfl) t
end B
namespace B
open PySem L2 PySem.SeqAt
open PyProof.Rows hiding St
mutual
noncomputable def Ey:MV->PyData
 |.non=>.none
 |.bl b=>.bool b
 |.int i=>.int i
 |.str x=>.str x
 |.lst l=>.list (EF l)
 |.tup l=>.tuple (EF l)
 |_=>.none
noncomputable def EF:List MV->List PyData
 |[]=>[]
 |m::ms=>Ey m::EF ms
end
mutual
noncomputable def sh:MV->Nat->Bool
 |.non,_=>true
 |.bl _,_=>true
 |.int _,_=>true
 |.str x,_=>PyData.strOk x
 |.lst l,n+1=>Co l n
 |.tup l,n+1=>Co l n
 |_,_=>false
noncomputable def Co:List MV->Nat->Bool
 |[],_=>true
 |m::ms,n=>sh m n&&Co ms n
end
section
mutual
theorem Aq.rdD(s:Ak F H):∀{m:MV}{v:V}{n:Nat},Aq W F m v->sh m n=true->LX W.K H v (Ey m)
 |.non,_,_,h,_=>by unfold Aq at h;subst h;unfold Ey;exact .non
 |.bl b,_,_,h,_=>by unfold Aq at h;subst h;unfold Ey;exact .bl b
 |.int i,_,_,h,_=>by unfold Aq at h;subst h;unfold Ey;exact .int i
 |.str x,_,_,h,_=>by unfold Aq at h;subst h;unfold Ey;exact .str x
 |.lst l,_,n,h,q=>by
  unfold Aq at h;obtain⟨a,vs,rfl,e,r⟩:=h;cases n with
  |zero=>simp[sh]at q
  |succ n=>
   unfold Ey;exact .lst (.inl (.inl (s _ _ e))) (Ad.rdD s r (by simpa[sh]using q))
 |.tup l,_,n,h,q=>by
  unfold Aq at h;obtain⟨a,vs,rfl,e,r⟩:=h;cases n with
  |zero=>simp[sh]at q
  |succ n=>
   unfold Ey;exact .tup (.inl (.inl (s _ _ e))) (Ad.rdD s r (by simpa[sh]using q))
 |.scr _,_,n,_,q=>by cases n<;>simp[sh]at q
 |.dic _ _ _,_,n,_,q=>by cases n<;>simp[sh]at q
 |.obj _ _ _,_,n,_,q=>by cases n<;>simp[sh]at q
 |.cls _,_,n,_,q=>by cases n<;>simp[sh]at q
 |.ty _,_,n,_,q=>by cases n<;>simp[sh]at q
 |.lam _ _,_,n,_,q=>by cases n<;>simp[sh]at q
theorem Ad.rdD(s:Ak F H):∀{ms:List MV}{vs:List V}{n:Nat},Ad W F ms vs->Co ms n=true->HA W.K H vs (EF ms)
 |[],_,_,h,_=>by rw[h.nil_iff];unfold EF;exact .nil
 |m::ms,_,n,h,q=>by
  obtain⟨v,r,rfl,h1,h2⟩:=h.uncons;have q:sh m n=true/\Co ms n=true:=by simpa[Co]using q
  unfold EF;exact .cons (Aq.rdD s h1 q.1) (Ad.rdD s h2 q.2)
end
mutual
theorem Jo:∀{m:MV}{n:Nat},sh m n=true->(Ey m).canLay0=true/\(Ey m).depth<=n
 |.non,_,_=>by unfold Ey;exact⟨by simp[PyData.canLay0],by simp[PyData.depth]⟩
 |.bl _,_,_=>by unfold Ey;exact⟨by simp[PyData.canLay0],by simp[PyData.depth]⟩
 |.int _,_,_=>by unfold Ey;exact⟨by simp[PyData.canLay0],by simp[PyData.depth]⟩
 |.str _,_,q=>by unfold Ey;exact⟨by simpa[PyData.canLay0,sh]using q,by simp[PyData.depth]⟩
 |.lst l,0,q=>by simp[sh]at q
 |.lst l,n+1,q=>by
  obtain⟨h1,h2⟩:=Jn (by simpa[sh]using q);unfold Ey;exact⟨by simpa[PyData.canLay0]using h1,by simpa[PyData.depth]using h2⟩
 |.tup l,0,q=>by simp[sh]at q
 |.tup l,n+1,q=>by
  obtain⟨h1,h2⟩:=Jn (by simpa[sh]using q);unfold Ey;exact⟨by simpa[PyData.canLay0]using h1,by simpa[PyData.depth]using h2⟩
 |.scr _,n,q=>by cases n<;>simp[sh]at q
 |.dic _ _ _,n,q=>by cases n<;>simp[sh]at q
 |.obj _ _ _,n,q=>by cases n<;>simp[sh]at q
 |.cls _,n,q=>by cases n<;>simp[sh]at q
 |.ty _,n,q=>by cases n<;>simp[sh]at q
 |.lam _ _,n,q=>by cases n<;>simp[sh]at q
theorem Jn:∀{ms:List MV}{n:Nat},Co ms n=true->PyData.canLayAll0 (EF ms)=true/\PyData.depthAll (EF ms)<=n
 |[],_,_=>by unfold EF;exact⟨by simp[PyData.canLayAll0],by simp[PyData.depthAll]⟩
 |m::ms,n,q=>by
  have q:sh m n=true/\Co ms n=true:=by simpa[Co]using q
  obtain⟨h1,h2⟩:=Jo q.1;obtain⟨h3,h4⟩:=Jn q.2;unfold EF;exact⟨by simp[PyData.canLayAll0,h1,h3],by simp only[PyData.depthAll];lia⟩
end
def Ip{n:Nat}(h:sh m n=true)(hn:n<=64):shaped (Ey m)=true:=by
 obtain⟨h1,h2⟩:=Jo h;unfold shaped;rw[h1,bY (b9 h2 hn)];rfl
theorem B1.rdD{n:Nat}(s:Ak F H)(h:B1 W F H m v)(q:sh m n=true):LX W.K H v (Ey m):=by
 cases m with
 |lst l=>
  obtain⟨a,vs,rfl,e,r⟩:=h;cases n with
  |zero=>simp[sh]at q
  |succ n=>unfold Ey;exact .lst (.inl (.inl e)) (r.rdD s (by simpa[sh]using q))
 |tup l=>exact Aq.rdD (F:=F) s (by unfold Aq;exact h) q
 |non=>exact Aq.rdD (F:=F) (m:=.non) s (by unfold Aq;exact h) q
 |bl b=>exact Aq.rdD (F:=F) (m:=.bl b) s (by unfold Aq;exact h) q
 |int b=>exact Aq.rdD (F:=F) (m:=.int b) s (by unfold Aq;exact h) q
 |str b=>exact Aq.rdD (F:=F) (m:=.str b) s (by unfold Aq;exact h) q
 |_=>cases n<;>simp[sh]at q
end
inductive Kg where|eq|ne|lt|le|gt|ge|is_|isnot|in_|notin
noncomputable def Kg.op:Kg->CmpOp
 |.eq=>.Eq| .ne=>.NotEq| .lt=>.Lt| .le=>.LtE| .gt=>.Gt| .ge=>.GtE| .is_=>.Is| .isnot=>.IsNot| .in_=>.In| .notin=>.NotIn
noncomputable def FF:MV->MV->Bool
 |.non,.non=>true| .non,.int _=>true| .int _,.non=>true| .non,.bl _=>true| .bl _,.non=>true| .non,.str _=>true| .str _,.non=>true
 |.int _,.int _=>true| .bl _,.bl _=>true| .str _,.str _=>true
 |.int _,.str _=>true| .str _,.int _=>true| .bl _,.str _=>true| .str _,.bl _=>true
 |_,_=>false
noncomputable def Mj:MV->MV->Bool
 |.non,.non=>true
 |.int i,.int j=>decide (i=j)
 |.bl i,.bl j=>decide (i=j)
 |.str i,.str j=>decide (i=j)
 |_,_=>false
noncomputable def Qh(a b:MV):Bool:=PyData.eqv (Ey a) (Ey b)
noncomputable def RZ(a b:MV):Option Bool:=if FF a b=true then some (Mj a b) else if (sh a 60&&sh b 60)=true then some (Qh a b) else none
noncomputable def Ly:MV->Bool
 |.non=>true| .bl _=>true| .int _=>true| .str _=>true|_=>false
noncomputable def Hs:MV->MV->Bool
 |.non,.non=>true
 |.bl a,.bl b=>a ==b
 |.bl a,.int b=>(if a then 1 else 0) ==b
 |.int a,.bl b=>a ==(if b then 1 else 0)
 |.int a,.int b=>a ==b
 |.str a,.str b=>a ==b
 |_,_=>false
noncomputable def Px(a:MV)(l:List MV):Option Bool:=if (Ly a&&l.all Ly)=true then some (l.any λy=>Hs y a) else if (sh a 60&&Co l 60)=true then some (l.any λy=>Qh y a) else none
noncomputable def o7(x y:Str):Bool:=!(Builtin.Str.occurrences y x 0 y.length 1).isEmpty
noncomputable def BA:MV->Option Key
 |.int i=>some (.inl i)
 |.str x=>some (.inr x)
 |_=>none
noncomputable def Bi:List MV->Option (List Key)
 |[]=>some []
 |m::ms=>match BA m,Bi ms with
  |some k,some ks=>some (k::ks)
  |_,_=>none
noncomputable def look:List MV->List MV->MV->Option MV
 |k::ks,v::vs,m=>if seqK k m=true then some v else look ks vs m
 |_,_,_=>none
where
 seqK:MV->MV->Bool
 |.tup a,.tup b=>match Bi a,Bi b with
  |some x,some y=>decide (x=y)
  |_,_=>false
 |a,b=>match BA a,BA b with
  |some x,some y=>decide (x=y)
  |_,_=>false
noncomputable def Vc(a:MV):MV->Option Bool
 |.str y=>match a with
  |.str x=>some (o7 x y)
  |_=>none
 |.lst l=>Px a l
 |.tup l=>Px a l
 |_=>none
noncomputable def Sz:Kg->Int->Int->Option Bool
 |.lt,i,j=>some (decide (i<j))
 |.le,i,j=>some (decide (i<=j))
 |.gt,i,j=>some (decide (j<i))
 |.ge,i,j=>some (decide (j<=i))
 |_,_,_=>none
noncomputable def YA:MV->Option Bool
 |.non=>some true
 |.lam _ _=>none
 |_=>some false
noncomputable def Su:MV->Bool
 |.non=>true
 |_=>false
def NZ(h:Su m=true):m=.non:=by cases m<;>cases h;rfl
noncomputable def AJ:Kg->MV->MV->Option Bool
 |.eq,a,b=>RZ a b
 |.ne,a,b=>(RZ a b).map (!·)
 |.is_,a,b=>if Su b=true then YA a else none
 |.isnot,a,b=>if Su b=true then(YA a).map (!·) else none
 |.in_,a,b=>Vc a b
 |.notin,a,b=>(Vc a b).map (!·)
 |o,a,b=>Pw (Sz o) a b
section
def Uh(va:B1 W F H a x)(vb:B1 W F H b y)(h:FF a b=true):Ui x y=true/\decide (x=y)=Mj a b:=by
 cases a<;>cases b<;>first|(exact absurd h aB)|(cases va;cases vb;exact⟨rfl,by simp[Mj]⟩)
def Oh(va:B1 W F H a x)(h:Ly a=true):Di x=true:=by
 cases a<;>first|(exact absurd h aB)|(cases va;rfl)
def j3(va:Aq W F a x)(h:Ly a=true):Di x=true:=by
 cases a<;>first|(exact absurd h aB)|(unfold Aq at va;subst va;rfl)
def V6(va:Aq W F a x)(vb:B1 W F H b y)(h:Ly a=true)(h':Ly b=true):V5 x y=Hs a b:=by
 cases a<;>first|(exact absurd h aB)|(unfold Aq at va;subst va;cases b<;>first|(exact absurd h' aB)|(cases vb;rfl))
theorem jm(va:B1 W F H a x)(h:Ly a=true):∀{l:List MV}{vs:List V},Ad W F l vs->l.all Ly=true->vs.all Di=true/\lD x vs=l.any λy=>Hs y a
 |[],_,r,_=>by rw[r.nil_iff];exact⟨rfl,rfl⟩
 |m::ms,_,r,q=>by
  obtain⟨v,vs,rfl,h1,h2⟩:=r.uncons;have q:Ly m=true/\ms.all Ly=true:=by simpa using q
  obtain⟨i1,i2⟩:=jm va h h2 q.2;refine⟨by simp[j3 h1 q.1,i1],?_⟩;have e:=V6 h1 va q.1 h;unfold lD at i2 ⊢;rw[cX,cX,i2,e]
def Za(hK:X.K=W.K)(I:Ag X pins σ H s)(hu:A.units+66<cLine)(sub:Ak F H)(va:B1 W F H a x)(vm:Aq W F m y)(rx:Au x u)(ry:Au y v)(sa:sh a 60=true)(sm:sh m 60=true) :
 SeqAt.EqAt A s v u (Qh m a):=by
 have d1:=va.rdD sub sa;have d2:=vm.rdD sub sm;rw[←hK]at d1 d2;obtain⟨as,ra⟩:=d1.reads I rx;obtain⟨bs,rb⟩:=d2.reads I ry;obtain⟨l1,l2⟩:=Jo sa;obtain⟨l3,l4⟩:=Jo sm;exact PySem.SeqAt.eqAt_reads _ _ A s _ _ _ _ rb ra l3 l1 (by lia)
mutual
theorem Aq.det:∀{m m':MV}{v:V}{n n':Nat},Aq W F m v->Aq W F m' v->sh m n=true->sh m' n'=true->Ey m=Ey m'
 |m,m',v,n,n',h,h',q,q'=>by
  cases m<;>first|(cases n<;>simp[sh]at q;done)|skip
  all_goals cases m'<;>first|(cases n'<;>simp[sh]at q';done)|skip
  all_goals unfold Aq at h h'
  all_goals first
   |(subst h;cases h';done)
   |(subst h;cases h';rfl)
   |(subst h;obtain⟨_,_,z,_⟩:=h';cases z;done)
   |(subst h';obtain⟨_,_,z,_⟩:=h;cases z;done)
   |skip
  ·rename_i l l';obtain⟨a,vs,rfl,e,r⟩:=h;obtain⟨a',vs',z,e',r'⟩:=h';cases z;rw[e]at e';cases e';cases n with
   |zero=>simp[sh]at q
   |succ n=>
    cases n' with
    |zero=>simp[sh]at q'
    |succ n'=>
     unfold Ey;rw[Ad.det r r' (by simpa[sh]using q) (by simpa[sh]using q')]
  ·obtain⟨a,vs,rfl,e,r⟩:=h;obtain⟨a',vs',z,e',r'⟩:=h';cases z;rw[e]at e';cases e'
  ·obtain⟨a,vs,rfl,e,r⟩:=h;obtain⟨a',vs',z,e',r'⟩:=h';cases z;rw[e]at e';cases e'
  rename_i l l';obtain⟨a,vs,rfl,e,r⟩:=h;obtain⟨a',vs',z,e',r'⟩:=h';cases z;rw[e]at e';cases e';cases n with
  |zero=>simp[sh]at q
  |succ n=>
   cases n' with
   |zero=>simp[sh]at q'
   |succ n'=>
    unfold Ey;rw[Ad.det r r' (by simpa[sh]using q) (by simpa[sh]using q')]
theorem Ad.det:∀{ms ms':List MV}{vs:List V}{n n':Nat},Ad W F ms vs->Ad W F ms' vs->Co ms n=true->Co ms' n'=true->EF ms=EF ms'
 |[],ms',vs,_,_,h,h',_,_=>by
  rw[h.nil_iff]at h';have:=h'.len;obtain rfl:=bR.mp this;rfl
 |m::ms,ms',vs,n,n',h,h',q,q'=>by
  obtain⟨v,r,rfl,h1,h2⟩:=h.uncons;cases ms' with
  |nil=>have:=h'.nil_iff;cases this
  |cons m' ms'=>
   obtain⟨v',r',z,h3,h4⟩:=h'.uncons;cases z;have q:sh m n=true/\Co ms n=true:=by simpa[Co]using q
   have q':sh m' n'=true/\Co ms' n'=true:=by simpa[Co]using q'
   unfold EF;rw[Aq.det h1 h3 q.1 q'.1,Ad.det h2 h4 q.2 q'.2]
end
open Classical in
def rC(hK:X.K=W.K)(I:Ag X pins σ H s)(hu:X.A.units+70<cLine)(sub:Ak F H){l:List MV}{its:List Value}(va:B1 W F H a x)(rx:Au x u)(r:Ad W F l vs)(rv:Ap vs its)(sa:sh a 60=true)(sl:Co l 60=true) :
 ∃e:Value->Bool,(∀y,y∈its.toArray->SeqAt.EqAt X.A.in1 s y u (e y))/\its.toArray.any e=l.any λy=>Qh y a:=by
 have each:∀{l:List MV}{i:Nat}{m:MV},Co l 60=true->l[i]?=some m->sh m 60=true:=by
  intro l
  induction l with
  |nil=>intro i m _ e;simp at e
  |cons k ks ih=>
   intro i m q e;have q:sh k 60=true/\Co ks 60=true:=by simpa[Co]using q
   cases i with
   |zero=>simp at e;subst e;exact q.1
   |succ i=>exact ih q.2 (by simpa using e)
 have hu1:X.A.in1.units+66<cLine:=by
  have:X.A.in1.units<=X.A.units+1:=by first|exact aI _|exact cZ _|simp[Around.in1]
  lia
 have lenv:=rv.length;have lenm:=r.len;refine⟨λy=>decide (∃(i:Nat) (m:MV),its[i]?=some y/\l[i]?=some m/\Qh m a=true),λy hy=>?_,?_⟩
 ·have hy:y∈its:=by simpa using hy
  obtain⟨i,hi,rfl⟩:=cD.mp hy;have e0:its[i]?=some its[i]:=by simp[hi]
  have il:i<l.length:=by lia
  have e1:l[i]?=some l[i]:=by simp[il]
  obtain⟨v,ev,rep⟩:=r.get e1;obtain⟨u',eu,ru⟩:=rv.get ev;rw[e0]at eu;cases eu;have sm:=each sl e1;have g:=Za hK I hu1 sub va rep rx ru sa sm;have ed:decide (∃(j:Nat) (m:MV),its[j]?=some its[i]/\l[j]?=some m/\Qh m a=true)=Qh l[i] a:=by
   rw[bW,dC];constructor
   ·rintro⟨j,m,h1,h2,h3⟩;obtain⟨v2,ev2,rep2⟩:=r.get h2;obtain⟨u2,eu2,ru2⟩:=rv.get ev2;rw[h1]at eu2;cases eu2;have hv:v2=v:=L2.Au.inj ru2 ru;subst hv;unfold Qh at h3 ⊢;rw[←Aq.det rep2 rep (each sl h2) sm];exact h3
   exact λh=>⟨i,_,e0,e1,h⟩
  show SeqAt.EqAt _ _ _ _ (decide _);rw[ed];exact g
 rw[List.any_toArray,bW,eN,eN];constructor
 ·rintro⟨y,hy,e⟩;obtain⟨i,m,h1,h2,h3⟩:=bF e;exact⟨m,aP h2,h3⟩
 rintro⟨m,hm,e⟩;obtain⟨i,hi,rfl⟩:=cD.mp hm;have ii:i<its.length:=by lia
 exact⟨its[i],eK ii,bY ⟨i,l[i],by simp[ii],by simp[hi],e⟩⟩
def jc(hK:X.K=W.K)(hu:X.A.units+70<cLine){neg:Bool}{pins:Pq}{k:Bool}{x y:V}(I:Ag X pins σ H s)(rx:Au x v)(ry:Au y u)(sub:Ak F H)(va:B1 W F H a x)(vb:B1 W F H b y)(hg:Vc a b=some k)(q:Q (.bl (if neg then !k else k)) H) :
 wpAny (model X.prog X.w) X.A (compareOp (if neg then .NotIn else .In) v u) (EP X pins σ Q) X.xe s:=by
 have seq:∀{p:Addr}{l:List MV}{vs:List V},y=.ref p->(Dp X.K H p vs\/Eg X.K H p vs)->Ad W F l vs->Px a l=some k->wpAny (model X.prog X.w) X.A (compareOp (if neg then .NotIn else .In) v u) (EP X pins σ Q) X.xe s:=by
  intro p l vs ey hq r hg;subst ey;unfold Px at hg;by_cases hf:(Ly a&&l.all Ly)=true
  ·rw[if_pos hf]at hg;cases hg;have hf:Ly a=true/\l.all Ly=true:=by simpa using hf
   obtain⟨i1,i2⟩:=jm va hf.1 r hf.2;cases neg with
   |false=>exact Pe pins s σ H x _ v u Q I rx ry ⟨p,vs,rfl,hq,Oh va hf.1,i1,by rw[i2];exact q⟩
   |true=>exact Jx pins s σ H x _ v u Q I rx ry ⟨p,vs,rfl,hq,Oh va hf.1,i1,by rw[i2];exact q⟩
  rw[if_neg hf]at hg;obtain⟨hs,rfl⟩:=Ao hg;have hs:sh a 60=true/\Co l 60=true:=by simpa using hs
  cases ry;rcases hq with hq|hq
  ·obtain⟨its,rv,pl,_⟩:=I.list hq;obtain⟨e,h1,h2⟩:=rC hK I hu sub va rx r rv hs.1 hs.2;cases neg with
   |false=>exact SeqAt.in_listAt e pl.isList h1 ⟨.bl _,H,I,rfl,by rw[h2];exact q⟩
   |true=>exact SeqAt.notIn_listAt e pl.isList h1 ⟨.bl _,H,I,rfl,by rw[h2];exact q⟩
  obtain⟨its,rv,pl,_⟩:=I.tuple hq;obtain⟨e,h1,h2⟩:=rC hK I hu sub va rx r rv hs.1 hs.2;cases neg with
  |false=>exact SeqAt.in_tupleAt e pl h1 ⟨.bl _,H,I,rfl,by rw[h2];exact q⟩
  |true=>exact SeqAt.notIn_tupleAt e pl h1 ⟨.bl _,H,I,rfl,by rw[h2];exact q⟩
 cases b with
 |str z=>
  cases a<;>simp only[Vc]at hg<;>first|(cases hg;done)|skip
  cases hg;cases va;cases vb;cases neg with
  |false=>exact Pd pins s σ H _ _ v u Q I rx ry ⟨_,_,rfl,rfl,q⟩
  |true=>exact Jw pins s σ H _ _ v u Q I rx ry ⟨_,_,rfl,rfl,q⟩
 |lst l=>
  obtain⟨p,vs,e,hp,r⟩:=vb;exact seq e (.inl (.inl (.inl hp))) r hg
 |tup l=>
  obtain⟨p,vs,e,hp,r⟩:=vb;exact seq e (.inr (.inl (.inl (sub _ _ hp)))) r hg
 |_=>cases hg
def Cj(va:B1 W F H a x)(h:YA a=some k):decide (x=.non)=k:=by
 cases a<;>cases h
 all_goals first
  |(exact va.elim)
  |(cases va;rfl)
  |(obtain⟨_,_,rfl,_⟩:=va;rfl)
  |(obtain⟨_,_,_,rfl,_⟩:=va;rfl)
def Sq{α:Type}{p:Prop}[Decidable p]{x:Option α}{k:α}(h:(if p then x else none)=some k):p/\x=some k:=by
 by_cases hp:p
 ·rw[if_pos hp]at h;exact⟨hp,h⟩
 rw[if_neg hp]at h;cases h
def pk(hK:X.K=W.K)(hu:X.A.units+70<cLine)(o:Kg):BH X (compareOp o.op) (Qd W λa b=>(AJ o a b).map .bl):=by
 intro pins s σ H x y v u Q I rx ry ⟨F,a,b,c,sub,va,vb,hg,q⟩;obtain⟨k,hk,rfl⟩:=aG.mp hg;have q:=q.bl sub;have data:∀{j:Bool},RZ a b=some j->(Ui x y=true/\decide (x=y)=j)\/(LX X.K H x (Ey a)/\LX X.K H y (Ey b)/\shaped (Ey a)=true/\shaped (Ey b)=true/\Qh a b=j):=by
  intro j h;unfold RZ at h;by_cases hs:FF a b=true
  ·rw[if_pos hs]at h;cases h;exact .inl (Uh va vb hs)
  rw[if_neg hs]at h;obtain⟨hs,rfl⟩:=Ao h;have hs:sh a 60=true/\sh b 60=true:=by simpa using hs
  rw[hK];exact .inr ⟨va.rdD sub hs.1,vb.rdD sub hs.2,Ip hs.1 (by decide),Ip hs.2 (by decide),rfl⟩
 cases o with
 |eq=>
  rcases data hk with⟨h1,h2⟩|⟨h1,h2,h3,h4,h5⟩
  ·exact iq pins s σ H x y v u Q I rx ry ⟨h1,by rw[h2];exact q⟩
  exact Y4 (by lia) pins s σ H x y v u Q I rx ry ⟨_,_,h1,h2,h3,h4,by rw[←h5]at q;exact q⟩
 |ne=>
  obtain⟨j,hj,rfl⟩:=aG.mp hk;rcases data hj with⟨h1,h2⟩|⟨h1,h2,h3,h4,h5⟩
  ·exact ij pins s σ H x y v u Q I rx ry ⟨h1,by rw[h2];exact q⟩
  exact Y0 (by lia) pins s σ H x y v u Q I rx ry ⟨_,_,h1,h2,h3,h4,by rw[←h5]at q;exact q⟩
 |lt=>
  obtain⟨i,j,rfl,rfl,hf⟩:=ET (f:=Sz .lt) hk;cases va;cases vb;cases hf;exact ik pins s σ H _ _ v u Q I rx ry ⟨_,_,rfl,rfl,q⟩
 |le=>
  obtain⟨i,j,rfl,rfl,hf⟩:=ET (f:=Sz .le) hk;cases va;cases vb;cases hf;exact im pins s σ H _ _ v u Q I rx ry ⟨_,_,rfl,rfl,q⟩
 |gt=>
  obtain⟨i,j,rfl,rfl,hf⟩:=ET (f:=Sz .gt) hk;cases va;cases vb;cases hf;exact io pins s σ H _ _ v u Q I rx ry ⟨_,_,rfl,rfl,q⟩
 |ge=>
  obtain⟨i,j,rfl,rfl,hf⟩:=ET (f:=Sz .ge) hk;cases va;cases vb;cases hf;exact ip pins s σ H _ _ v u Q I rx ry ⟨_,_,rfl,rfl,q⟩
 |is_=>
  obtain⟨hb,hk⟩:=Sq (p:=Su b=true) hk;cases NZ hb;cases vb;exact Y3 pins s σ H _ _ v u Q I rx ry ⟨rfl,by rw[Cj va hk];exact q⟩
 |isnot=>
  obtain⟨hb,hk⟩:=Sq (p:=Su b=true) hk;cases NZ hb;cases vb;obtain⟨j,hj,rfl⟩:=aG.mp hk;exact UU pins s σ H _ _ v u Q I rx ry ⟨rfl,by rw[Cj va hj];exact q⟩
 |in_=>exact jc (neg:=false) hK hu I rx ry sub va vb hk q
 |notin=>
  obtain⟨j,hj,rfl⟩:=aG.mp hk;exact jc (neg:=true) hK hu I rx ry sub va vb hj q
end
structure Ci where
 nm:Str
 exc:Bool
 flds:List Nat
 isa:List Nat
 init:Option Nat
 mts:List (Nat×Nat)
structure Kt(cs:List Ci)(W:Wd):Prop where
 kc:∀(c:Nat) (i:Ci),cs[c]?=some i->i.exc=false->Tz W.K (W.ca c)/\PySem.W.findIn W.K (.ref (W.ca c)) "__class__"=some (some (.builtin "object.__class__"))/\PySem.W.specialIn W.K (.builtin "object.__class__") "__get__"=some (some (.builtin "getset_descriptor.__get__"))/\
  PySem.W.takesIn W.K (.builtin "object.__class__")=some true/\PySem.W.mroIn W.K (W.ca c) (.type "object")=some true
 kn:∀(c:Nat) (i:Ci) (n:Nat),cs[c]?=some i->n∈i.flds->i.exc=false->FA W.K (W.ca c) (W.nm n)
 ki:∀(c d:Nat) (i j:Ci),cs[c]?=some i->cs[d]?=some j->PySem.W.kitOne W.K (.ref (W.ca c)) (.ref (W.ca d))=some (decide (d∈i.isa))
 k1:∀(d:Nat) (j:Ci) (k:Kd),cs[d]?=some j->PySem.W.kitOne W.K (.type k.nm) (.ref (W.ca d))=some false
 k2:∀(c:Nat) (i:Ci) (k:Kd),cs[c]?=some i->PySem.W.kitOne W.K (.ref (W.ca c)) (.type k.nm)=some false
section
inductive ZE where|neg|inv
noncomputable def ZE.op:ZE->UnaryOp
 |.neg=>.USub| .inv=>.Invert
noncomputable def Ww:ZE->MV->Option MV
 |.neg,.int i=>some (.int (-i))
 |.inv,.int i=>some (.int (Builtin.bitNot i))
 |_,_=>none
def so(o:ZE):jY X (unaryOp o.op) (qA W (Ww o)):=by
 intro pins s σ H x v Q I rx ⟨F,a,c,sub,va,hg,q⟩;cases o with
 |neg=>
  cases a<;>simp only[Ww]at hg<;>first|(cases hg;done)|skip
  cases va;cases hg;exact Xc pins s σ H _ v Q I rx ⟨_,rfl,q.int sub⟩
 |inv=>
  cases a<;>simp only[Ww]at hg<;>first|(cases hg;done)|skip
  cases va;cases hg;exact Xd pins s σ H _ v Q I rx ⟨_,rfl,q.int sub⟩
noncomputable def M5:MV->MV->Option MV
 |.lst l,.int i=>B4 l i
 |.scr l,.int i=>B4 l i
 |.tup l,.int i=>B4 l i
 |.str z,.int i=>if z.length<=big then(B4 z.cps.toList i).map λc=>.str ⟨#[c]⟩ else none
 |.dic _ ks vs,k=>look ks vs k
 |_,_=>none
def Nj{i:Int}(r:Ad W F l vs)(h:B4 l i=some m):∃v,B4 vs i=some v/\Aq W F m v:=by
 unfold B4 at h ⊢;rw[r.len]at h;cases e:NY vs.length i with
 |none=>rw[e]at h;cases h
 |some j=>
  rw[e]at h;exact r.get h
def Sj(h:BA m=some k)(va:B1 W F H m v):v=kV k:=by
 cases m<;>simp only[BA]at h<;>first|(cases h;done)|skip
 all_goals cases h;cases va;rfl
def Lm(h:BA m=some k)(va:Aq W F m v):v=kV k:=by
 cases m<;>simp only[BA]at h<;>first|(cases h;done)|skip
 all_goals cases h;unfold Aq at va;exact va
theorem DR:∀{ms:List MV}{ks:List Key}{vs:List V},Bi ms=some ks->Ad W F ms vs->vs=ks.map kV
 |[],_,_,h,r=>by simp only[Bi]at h;cases h;rw[r.nil_iff];rfl
 |m::ms,_,_,h,r=>by
  obtain⟨v,vs,rfl,h1,h2⟩:=r.uncons;unfold Bi at h;cases e1:BA m with
  |none=>rw[e1]at h;cases h
  |some k=>
   cases e2:Bi ms with
   |none=>rw[e1,e2]at h;cases h
   |some ks=>
    rw[e1,e2]at h;cases h;rw[Lm e1 h1,DR e2 h2];rfl
theorem D8:∀ks,Bi (ks.map BJ)=some ks
 |[]=>rfl
 |k::ks=>by
  show(match BA (BJ k),Bi (ks.map BJ) with|some k,some ks=>some (k::ks)|_,_=>none)=_;rw[D8 ks];cases k<;>rfl
theorem Sc:∀{kk:List (List Key)}{ms:List MV}{vs:List V}{q:List Key},Ad W F ms vs->kk.length=vs.length->(∃l,m=.tup l/\Bi l=some q)->
 (match look (kk.map λk=>.tup (k.map BJ)) ms m,EC (kk.zip vs) q with|some c,some v=>Aq W F c v|none,none=>True|_,_=>False)
 |[],ms,vs,q,r,e,⟨l,hl,hq⟩=>by
  obtain rfl:vs=[]:=bR.mp (by simpa using e.symm);simp[look,EC]
 |k::kk,ms,vs,q,r,e,⟨l,hl,hq⟩=>by
  cases vs with
  |nil=>simp at e
  |cons v vs=>
   have lm:=r.len;cases ms with
   |nil=>simp at lm
   |cons c ms=>
    obtain⟨v',vs',z,h1,h2⟩:=r.uncons;cases z;subst hl;have ih:=Sc (m:=.tup l) (kk:=kk) (q:=q) h2 (by simpa using e) ⟨l,rfl,hq⟩;rw[aK,bN];unfold look;have e1:look.seqK (.tup (k.map BJ)) (.tup l)=decide (k=q):=by
     simp only[look.seqK,D8,hq]
    rw[e1];by_cases hk:k=q
    ·rw[bY hk,if_pos rfl,Dt (p:=(k,v)) hk];exact h1
    rw[bI hk,if_neg (by decide),Du (p:=(k,v)) hk];exact ih
theorem Sd(hm:BA m=some q):∀{kk:List Key}{ms:List MV}{vs:List V},Ad W F ms vs->kk.length=vs.length->
 (match look (kk.map BJ) ms m,EC (kk.zip vs) q with|some c,some v=>Aq W F c v|none,none=>True|_,_=>False)
 |[],ms,vs,r,e=>by
  obtain rfl:vs=[]:=bR.mp (by simpa using e.symm);simp[look,EC]
 |k::kk,ms,vs,r,e=>by
  cases vs with
  |nil=>simp at e
  |cons v vs=>
   have lm:=r.len;cases ms with
   |nil=>simp at lm
   |cons c ms=>
    obtain⟨v',vs',z,h1,h2⟩:=r.uncons;cases z;have ih:=Sd hm (kk:=kk) h2 (by simpa using e);rw[aK,bN];unfold look;have e1:look.seqK (BJ k) m=decide (k=q):=by
     unfold look.seqK;cases k<;>cases m<;>simp only[BA]at hm<;>first|(cases hm;done)|(cases hm;simp[BJ,BA])
    rw[e1];by_cases hk:k=q
    ·rw[bY hk,if_pos rfl,Dt (p:=(k,v)) hk];exact h1
    rw[bI hk,if_neg (by decide),Du (p:=(k,v)) hk];exact ih
noncomputable def Ib:Bool->MV->Bool
 |true,.tup l=>(Bi l).isSome
 |true,_=>false
 |false,m=>(BA m).isSome
noncomputable def Et(t:Bool)(ks vs:List MV)(m:MV):Option (Option MV):=if Ib t m=true then some (look ks vs m) else none
def ZK(W:Wd)(F:Hp):Option MV->Option V->Prop
 |some c,some v=>Aq W F c v
 |none,none=>True
 |_,_=>False
def Oj(sub:Ak F H)(vd:B1 W F H (.dic t ks vs) x)(vm:B1 W F H m y)(h:Et t ks vs m=some o):∃a ov,x=.ref a/\Tx H a y ov/\ZK W F o ov:=by
 obtain⟨hd,rfl⟩:=Ao h;obtain⟨a,us,rfl,r,q⟩:=vd;rcases q with⟨kk,rfl,rfl,e,hl⟩|⟨kk,rfl,rfl,e,hl⟩
 ·cases m<;>simp only[Ib]at hd<;>first|(exact absurd hd aB)|skip
  rename_i l;obtain⟨q,hq⟩:=bV.mp hd;obtain⟨b,ws,rfl,eb,rb⟩:=vm;refine⟨a,_,rfl,.inr ⟨_,q,b,e,rfl,?_,rfl⟩,?_⟩
  ·rw[←DR hq rb];exact sub _ _ eb
  have:=Sc (m:=.tup l) (q:=q) r hl ⟨l,rfl,hq⟩;unfold ZK;split<;>simp_all
 obtain⟨q,hq⟩:=bV.mp (show(BA m).isSome=true by cases m<;>exact hd);refine⟨a,_,rfl,.inl ⟨_,q,e,Sj hq vm,rfl⟩,?_⟩;have:=Sd hq (kk:=kk) r hl;unfold ZK;split<;>simp_all
end
section
variable {X:Cx}{W:Wd}{F H:Hp}
noncomputable def Bh:Kg->MV->MV->Option Bool
 |.in_,a,.dic t ks vs=>(Et t ks vs a).map Option.isSome
 |.notin,a,.dic t ks vs=>(Et t ks vs a).map λo=>!o.isSome
 |o,a,b=>AJ o a b
def IS(hK:X.K=W.K)(hu:X.A.units+70<cLine)(o:Kg):BH X (compareOp o.op) (Qd W λa b=>(Bh o a b).map .bl):=by
 intro pins s σ H x y v u Q I rx ry ⟨F,a,b,c,sub,va,vb,hg,q⟩;have base:∀{r:Option Bool},Bh o a b=AJ o a b->wpAny (model X.prog X.w) X.A (compareOp o.op v u) (EP X pins σ Q) X.xe s:=λe=>by
  have hg:Option.map MV.bl (Bh o a b)=some c:=hg;rw[e]at hg;exact pk hK hu o pins s σ H x y v u Q I rx ry ⟨F,a,b,c,sub,va,vb,hg,q⟩
 cases o with
 |in_=>
  cases b with
  |dic t ks vs=>
   obtain⟨k,hk,rfl⟩:=aG.mp hg;obtain⟨ov,ho,rfl⟩:=aG.mp hk;obtain⟨p,ow,rfl,g,r⟩:=Oj sub vb va ho;cases ry;have e:ov.isSome=ow.isSome:=by cases ov<;>cases ow<;>first|rfl|exact r.elim
   exact oY (by lia) I g rx λs3 I3=>⟨.bl _,H,I3,rfl,by rw[←e];exact q.bl sub⟩
  |_=>exact base (r:=none) rfl
 |notin=>
  cases b with
  |dic t ks vs=>
   obtain⟨k,hk,rfl⟩:=aG.mp hg;obtain⟨ov,ho,rfl⟩:=aG.mp hk;obtain⟨p,ow,rfl,g,r⟩:=Oj sub vb va ho;cases ry;have e:ov.isSome=ow.isSome:=by cases ov<;>cases ow<;>first|rfl|exact r.elim
   exact V9 (by lia) I g rx λs3 I3=>⟨.bl _,H,I3,rfl,by rw[←e];exact q.bl sub⟩
  |_=>exact base (r:=none) rfl
 |_=>exact base (r:=none) (by cases b<;>rfl)
noncomputable def HL:MV->MV->Option MV
 |.dic t ks vs,k=>(Et t ks vs k).bind id
 |a,b=>M5 a b
def bh{pins:Pq}{σ:St}{T id:String}(hl:typeLookup (.type T) "__getitem__"=pure (some (.builtin id)))(hT:s.TypeIs o T)(hs:subscripted slice false o i=operate [o,i] (getItem o i))
 (h₂:wpAny (model X.prog X.w) X.A (getItem o i) Q X.xe s):wpAny (model X.prog X.w) X.A (subscriptTail value slice o i) Q X.xe s:=by
 unfold subscriptTail;refine a8 ?_;rw[getitemInPython_of_ne hT.not_modules];refine a8 (wpAny_specialOf hT hl ?_);have fin:wpAny (model X.prog X.w) X.A (subscripted slice false o i) (λr s₃=>wpAny (model X.prog X.w) X.A (letTemporaryGo value o r >>=λ_=>pure r) Q X.xe s₃) X.xe s:=by
  rw[hs];exact wpAny_operating (cI h₂ (λr s₃ h₃=>a8 (wpAny_letTemporaryGo (aF h₃))) λ_ _ x=>x)
 first
  |exact aF (a8 fin)
  |exact a8 (aF (a8 fin))
  |exact a8 fin
def sM(hK:X.K=W.K)(hu:X.A.units+70<cLine):km X (Qd W HL):=by
 intro value slice pins s σ H x y v u Q I rx ry ⟨F,a,b,c,sub,va,vb,hg,q⟩ hs;cases a with
 |dic t ks vs=>
  obtain⟨ov,ho,hc⟩:=aA.mp (show(Et t ks vs b).bind id=some c from hg);have hc:=hc;subst hc;obtain⟨p,ow,rfl,g,r⟩:=Oj sub va vb ho;cases rx;cases ow with
  |none=>exact r.elim
  |some w'=>exact bh (σ:=σ) (pins:=pins) PySem.F.slot_dict_getitem.lookup (L5 I g) hs (P7 (by lia) I g ry λw2 s3 I3 rw'=>⟨w',H,I3,rw',q.same sub r⟩)
 |lst l=>
  cases b<;>simp only[HL,M5]at hg<;>first|(cases hg;done)|skip
  obtain⟨p,vs,rfl,hp,r⟩:=va;cases vb;obtain⟨w',hw,rw'⟩:=Nj r hg;exact NW value slice pins s σ H _ _ v u Q I rx ry ⟨p,vs,_,w',rfl,rfl,.inl (.inl hp),hw,q.same sub rw'⟩ hs
 |scr l=>
  cases b<;>simp only[HL,M5]at hg<;>first|(cases hg;done)|skip
  obtain⟨p,vs,rfl,hp,r⟩:=va;cases vb;obtain⟨w',hw,rw'⟩:=Nj r hg;exact NW value slice pins s σ H _ _ v u Q I rx ry ⟨p,vs,_,w',rfl,rfl,by rw[hK];exact hp,hw,q.same sub rw'⟩ hs
 |tup l=>
  cases b<;>simp only[HL,M5]at hg<;>first|(cases hg;done)|skip
  obtain⟨p,vs,rfl,hp,r⟩:=va;cases vb;obtain⟨w',hw,rw'⟩:=Nj r hg;exact YT value slice pins s σ H _ _ v u Q I rx ry ⟨p,vs,_,w',rfl,rfl,.inl (.inl (sub _ _ hp)),hw,q.same sub rw'⟩ hs
 |str z=>
  cases b<;>simp only[HL,M5]at hg<;>first|(cases hg;done)|skip
  cases va;cases vb;by_cases hz:z.length<=big
  ·rw[if_pos hz]at hg;obtain⟨ch,hc,rfl⟩:=aG.mp hg;exact YU value slice pins s σ H _ _ v u Q I rx ry ⟨z,_,ch,rfl,rfl,hz,hc,q.str sub⟩ hs
  rw[if_neg hz]at hg;cases hg
 |_=>cases b<;>simp[HL,M5]at hg
noncomputable def Ev(xs:List MV)(lo hi:Option Int):List MV:=(xs.drop (HT.sIx xs.length 0 lo)).take (HT.sIx xs.length xs.length hi-HT.sIx xs.length 0 lo)
def Ad.cut{lo hi:Option Int}(r:Ad W F l vs):Ad W F (Ev l lo hi) (L8 vs lo hi):=by
 unfold Ev L8;rw[r.len];exact(r.drop _).take _
noncomputable def Gb(m:MV)(lo hi:Option Int):Option MV:=match m with
 |.lst l=>some (.lst (Ev l lo hi))
 |.scr l=>some (.lst (Ev l lo hi))
 |.tup l=>if HT.sIx l.length 0 lo=0/\HT.sIx l.length l.length hi=l.length then none else some (.tup (Ev l lo hi))
 |.str z=>if z.length<=big then some (.str (Txt.slice z lo hi)) else none
 |_=>none
def nR(W:Wd):V->Option Int->Option Int->Hp->VK->Prop:=λx lo hi H Q=>∃F a c,Ak F H/\B1 W F H a x/\Gb a lo hi=some c/\Ih W F H c Q
def sB(hK:X.K=W.K):ke X (nR W):=by
 intro pins s σ H x v vl vu lo hi sl Q I rx hs pl pu ⟨F,a,c,sub,va,hg,q⟩;cases a<;>simp only[Gb]at hg<;>first|(cases hg;done)|skip
 ·cases va;obtain⟨hz,rfl⟩:=Ao hg;exact Xv pins s σ H _ v vl vu lo hi sl Q I rx hs pl pu ⟨_,rfl,hz,q.str sub⟩
 ·obtain⟨p,vs,rfl,hp,r⟩:=va;split at hg
  ·cases hg
  rename_i hw;cases hg;rw[r.len]at hw;exact Xu pins s σ H _ v vl vu lo hi sl Q I rx hs pl pu ⟨p,vs,rfl,.inl (.inl (sub _ _ hp)),hw,λp2 n=>q.tup sub n r.cut⟩
 ·obtain⟨p,vs,rfl,hp,r⟩:=va;cases hg;exact N9 pins s σ H _ v vl vu lo hi sl Q I rx hs pl pu ⟨p,vs,rfl,.inl (.inl hp),λp2 n=>q.lst sub n r.cut⟩
 obtain⟨p,vs,rfl,hp,r⟩:=va;cases hg;exact N9 pins s σ H _ v vl vu lo hi sl Q I rx hs pl pu ⟨p,vs,rfl,by rw[hK];exact hp,λp2 n=>q.lst sub n r.cut⟩
noncomputable def lenV:MV->Option MV
 |.lst l=>some (.int l.length)
 |.scr l=>some (.int l.length)
 |.tup l=>some (.int l.length)
 |.str z=>if z.length<=big then some (.int z.length) else none
 |.dic t ks vs=>if t=false then some (.int vs.length) else none
 |_=>none
noncomputable def J3(as:List MV):Option MV:=(RH as).bind lenV
def FX.un1(h:FX W F H [a] xs):∃x,xs=[x]/\B1 W F H a x:=by
 cases h with
 |cons h t=>cases t;exact⟨_,rfl,h⟩
def FX.un2(h:FX W F H [a,b] xs):∃x y,xs=[x,y]/\B1 W F H a x/\B1 W F H b y:=by
 cases h with
 |cons h t=>obtain⟨y,rfl,h'⟩:=FX.un1 t;exact⟨_,_,rfl,h,h'⟩
def oz(hK:X.K=W.K):Ba X (.builtin "len") (Uv W J3):=by
 intro pins s σ H xs us Q I rv ⟨F,as,c,sub,vs,hg,q⟩;obtain⟨m,h1,hg⟩:=aA.mp hg;obtain rfl:=Gn h1;obtain⟨x,rfl,va⟩:=vs.un1;cases m with
 |lst l=>
  obtain⟨p,ws,rfl,hp,r⟩:=va;cases hg;exact Dd pins s σ H _ us Q I rv ⟨p,ws,rfl,.inl (.inl (.inl hp)),by rw[←r.len];exact q.int sub⟩
 |scr l=>
  obtain⟨p,ws,rfl,hp,r⟩:=va;cases hg;exact Dd pins s σ H _ us Q I rv ⟨p,ws,rfl,.inl (by rw[hK];exact hp),by rw[←r.len];exact q.int sub⟩
 |tup l=>
  obtain⟨p,ws,rfl,hp,r⟩:=va;cases hg;exact Dd pins s σ H _ us Q I rv ⟨p,ws,rfl,.inr (.inl (.inl (sub _ _ hp))),by rw[←r.len];exact q.int sub⟩
 |str z=>
  obtain⟨hz,rfl⟩:=Ao hg;cases va;exact JT pins s σ H _ us Q I rv ⟨_,rfl,hz,q.int sub⟩
 |dic t ks vs=>
  obtain⟨p,ws,rfl,r,hq⟩:=va;obtain⟨rfl,rfl⟩:=Ao hg;rcases hq with⟨kk,z,_⟩|⟨kk,_,rfl,e,hl⟩
  ·cases z
  obtain⟨u,rfl,ru⟩:=BR rv;cases ru;have el:(kk.zip ws).length=ws.length:=by rw[eY,hl];simp
  exact j8 I e λt s' I'=>⟨.int _,H,I',⟨_,rfl⟩,by rw[el,←r.len];exact q.int sub⟩
 |_=>cases hg
noncomputable def W0:MV->Option Kd
 |.non=>some .non| .bl _=>some .bl| .int _=>some .int| .str _=>some .str| .lst _=>some .lst| .tup _=>some .tup
 |.dic _ _ _=>some .dct|_=>none
def Sm(sub:Ak F H)(va:B1 W F H m x)(h:W0 m=some k)(hd:∀t ks vs,m=.dic t ks vs->∃a,x=.ref a/\∀o u,H a≠some (.frz o u)):kj W.K H x k:=by
 cases m<;>simp only[W0]at h<;>first|(cases h;done)|skip
 all_goals cases h
 ·cases va;exact .non
 ·cases va;exact .bl _
 ·cases va;exact .int _
 ·cases va;exact .str _
 ·obtain⟨p,vs,rfl,hp,r⟩:=va;exact .tup (sub _ _ hp)
 ·obtain⟨p,vs,rfl,hp,r⟩:=va;exact .lst hp
 obtain⟨a,rfl,hn⟩:=hd _ _ _ rfl;obtain⟨p,vs,z,r,hq⟩:=va;cases z;rcases hq with⟨kk,_,_,e,_⟩|⟨kk,_,_,e,_⟩
 ·rcases e with e|⟨o,e⟩
  ·exact .dT e
  exact absurd e (hn _ _)
 rcases e with e|⟨o,e⟩
 ·exact .dK e
 exact absurd e (hn _ _)
noncomputable def M4(cs:List Ci):List MV->Option MV
 |[m,.ty k]=>if k=.int\/k=.bl\/k=.str\/k=.tup\/k=.lst\/k=.dct then(match m with
  |.dic _ _ _=>some (.bl (Kd.isA .dct k))
  |.obj c _ _=>(cs[c]?).bind λi=>if i.exc=false then some (.bl false) else none
  |_=>(W0 m).map λk'=>.bl (k'.isA k)) else none
 |[m,.cls d]=>(cs[d]?).bind λ_=>(match m with
  |.dic _ _ _=>none
  |.obj c _ _=>(cs[c]?).bind λi=>if i.exc=false then some (.bl (decide (d∈i.isa))) else none
  |_=>(W0 m).map λ_=>.bl false)
 |[m,.tup [.ty .lst,.ty .tup]]=>(match m with
  |.lst _=>some (.bl true)
  |.tup _=>some (.bl true)
  |.dic _ _ _=>none
  |_=>(W0 m).map λ_=>.bl false)
 |_=>none
def Vk{a:Kd}:PySem.W.kitOne W.K (.type a.nm) (.type Kd.lst.nm)=some (a.isA .lst):=by
 cases a<;>first|exact BV|exact AB (by decide +kernel) (by decide +kernel) (by decide +kernel)
def Vl{a:Kd}:PySem.W.kitOne W.K (.type a.nm) (.type Kd.dct.nm)=some (a.isA .dct):=by
 cases a<;>first|exact BV|exact AB (by decide +kernel) (by decide +kernel) (by decide +kernel)
def Nf(I:Ag X pins σ H s)(r:Ap [.ref a,c] us)(hc:Z4 c=some cv)(h:(∃kvs,Rd H a (.dT kvs))\/∃kvs,Rd H a (.dK kvs))(hk:PySem.W.kitOne X.K (.type "dict") cv=some b)(q:Q (.bl b) H):wpAny (model X.prog X.w) X.A (call (.builtin "isinstance") us) (EP X pins σ Q) X.xe s:=by
 obtain⟨u,w',rfl,rx,rc⟩:=FE r;have e:=LB hc rc;subst e;cases rx;rcases h with⟨kvs,h⟩|⟨kvs,h⟩
 ·obtain⟨_,_,xs,_,o,es,ep,h1,h2,_⟩:=(show AE X.prog X.w H s.heap a (.dT kvs) from h.ok I.hok);exact PySem.W.kia_one PySem.W.kitx_dict I.kIn ⟨o,h1,h2.1⟩ hk (λz=>by cases z) λtk=>⟨.bl b,H,I.tok _,rfl,q⟩
 obtain⟨_,_,vs,_,p⟩:=(show AE X.prog X.w H s.heap a (.dK kvs) from h.ok I.hok);obtain⟨o,es,ep,h1,h2,_⟩:=p;exact PySem.W.kia_one PySem.W.kitx_dict I.kIn ⟨o,h1,h2.1⟩ hk (λz=>by cases z) λtk=>⟨.bl b,H,I.tok _,rfl,q⟩
def Wt{c:Nat}(kt:Kt cs W)(va:B1 W F H (.obj c ns ms) x)(hi:cs[c]?=some i)(he:i.exc=false):DZ W.K H x (.ref (W.ca c)):=by
 obtain⟨a,dx,vs,rfl,h1,h2,_,_⟩:=va;obtain⟨k1,k2,k3,k4,k5⟩:=kt.kc c i hi he;exact .ins h1 k1 k2 k3 k4 k5
def sU(hK:X.K=W.K)(kt:Kt cs W):Ba X (.builtin "isinstance") (Uv W (M4 cs)):=by
 intro pins s σ H xs us Q I rv ⟨F,as,c,sub,vs,hg,q⟩;unfold M4 at hg;split at hg
 ·rename_i m k;obtain⟨x,y,rfl,va,vb⟩:=vs.un2;cases vb;by_cases hk:k=.int\/k=.bl\/k=.str\/k=.tup\/k=.lst\/k=.dct
  ·rw[if_pos hk]at hg;have kk:∀k',PySem.W.kitOne X.K (.type k'.nm) (.type k.nm)=some (Kd.isA k' k):=λk'=>by
    rw[hK];rcases hk with h|h|h|h|h|h
    ·exact Hg (.inl h)
    ·exact Hg (.inr (.inl h))
    ·exact Hg (.inr (.inr (.inl h)))
    ·exact Hg (.inr (.inr (.inr h)))
    ·subst h;exact Vk
    subst h;exact Vl
   have go:∀k',W0 m=some k'->(∀t ks vs,m≠ .dic t ks vs)->c=.bl (Kd.isA k' k)->wpAny (model X.prog X.w) X.A (call (.builtin "isinstance") us) (EP X pins σ Q) X.xe s:=λk' h hd e=>by
    subst e;exact Cy pins s σ H _ us Q I rv ⟨x,_,_,_,_,rfl,rfl,by rw[hK];exact Sm sub va h (λt ks vs e=>absurd e (hd t ks vs)),kk k',q.bl sub⟩
   cases m with
   |dic t ks ms=>
    cases hg;obtain⟨p,ws,rfl,r,hq⟩:=va;refine Nf I rv rfl ?_ (kk .dct) (q.bl sub);rcases hq with⟨kk,_,_,e,_⟩|⟨kk,_,_,e,_⟩
    ·exact .inl ⟨_,e⟩
    exact .inr ⟨_,e⟩
   |obj c' ns ms=>
    obtain⟨i,hi,h2⟩:=aA.mp hg;obtain⟨he,rfl⟩:=Ao h2;exact Cy pins s σ H _ us Q I rv ⟨x,_,_,_,_,rfl,rfl,by rw[hK];exact Wt kt va hi he,by rw[hK];exact kt.k2 c' i k hi,q.bl sub⟩
   |_=>first|(cases hg;done)|(obtain⟨k',h1,h2⟩:=aG.mp hg;exact go k' h1 (λ_ _ _ z=>by cases z) h2.symm)
  rw[if_neg hk]at hg;cases hg
 ·rename_i m d;obtain⟨x,y,rfl,va,vb⟩:=vs.un2;cases vb;obtain⟨j,hj,hg⟩:=aA.mp hg;have go:∀k',W0 m=some k'->(∀t ks vs,m≠ .dic t ks vs)->c=.bl false->wpAny (model X.prog X.w) X.A (call (.builtin "isinstance") us) (EP X pins σ Q) X.xe s:=λk' h hd e=>by
   subst e;exact Cy pins s σ H _ us Q I rv ⟨x,_,_,_,_,rfl,rfl,by rw[hK];exact Sm sub va h (λt ks vs e=>absurd e (hd t ks vs)),by rw[hK];exact kt.k1 d j k' hj,q.bl sub⟩
  cases m with
  |dic _ _ _=>cases hg
  |obj c' ns ms=>
   obtain⟨i,hi,h2⟩:=aA.mp hg;obtain⟨he,rfl⟩:=Ao h2;exact Cy pins s σ H _ us Q I rv ⟨x,_,_,_,_,rfl,rfl,by rw[hK];exact Wt kt va hi he,by rw[hK];exact kt.ki c' d i j hi hj,q.bl sub⟩
  |_=>first|(cases hg;done)|(obtain⟨k',h1,h2⟩:=aG.mp hg;exact go k' h1 (λ_ _ _ z=>by cases z) h2.symm)
 ·rename_i m;obtain⟨x,y,rfl,va,vb⟩:=vs.un2;obtain⟨tp,ws,rfl,htp,rt⟩:=vb;obtain⟨w1,r1,rfl,q1,rt⟩:=rt.uncons;obtain⟨w2,r2,rfl,q2,rt⟩:=rt.uncons;have:=rt.nil_iff;subst this;unfold Aq at q1 q2;subst q1 q2;have ht:Eg X.K H tp [.ty "list",.ty "tuple"]:=.inl (.inl (sub _ _ htp));have go:∀k',W0 m=some k'->k'.noSeq=true->(∀t ks vs,m≠ .dic t ks vs)->c=.bl false->wpAny (model X.prog X.w) X.A (call (.builtin "isinstance") us) (EP X pins σ Q) X.xe s:=λk' h hns hd e=>by
   subst e;exact PL pins s σ H _ us Q I rv ⟨x,k',tp,rfl,by rw[hK];exact Sm sub va h (λt ks vs e=>absurd e (hd t ks vs)),hns,ht,q.bl sub⟩
  cases m with
  |lst l=>obtain⟨p,ys,rfl,hp,r⟩:=va;cases hg;exact PM pins s σ H _ us Q I rv ⟨p,ys,tp,rfl,hp,ht,q.bl sub⟩
  |tup l=>obtain⟨p,ys,rfl,hp,r⟩:=va;cases hg;exact PK pins s σ H _ us Q I rv ⟨p,ys,tp,rfl,sub _ _ hp,ht,q.bl sub⟩
  |dic _ _ _=>cases hg
  |_=>first|(cases hg;done)|(obtain⟨k',h1,h2⟩:=aG.mp hg;exact go k' h1 (by cases h1;rfl) (λ_ _ _ z=>by cases z) h2.symm)
 cases hg
end
section
noncomputable def Dj:List MV->Option (List Bool)
 |[]=>some []
 |.bl b::ms=>(Dj ms).map (b:: ·)
 |_=>none
theorem LI:∀{ms:List MV}{bs:List Bool}{vs:List V},Dj ms=some bs->Ad W F ms vs->vs=bs.map V.bl
 |[],bs,vs,h,r=>by simp only[Dj]at h;cases h;rw[r.nil_iff];rfl
 |m::ms,bs,vs,h,r=>by
  obtain⟨v,us,rfl,h1,h2⟩:=r.uncons;cases m<;>simp only[Dj]at h<;>first|(cases h;done)|skip
  obtain⟨bs',hb,rfl⟩:=aG.mp h;unfold Aq at h1;subst h1;rw[LI hb h2];rfl
noncomputable def JN:List MV->Option (List Int)
 |[]=>some []
 |.int b::ms=>(JN ms).map (b:: ·)
 |_=>none
theorem JM:∀{ms:List MV}{bs:List Int}{vs:List V},JN ms=some bs->Ad W F ms vs->vs=bs.map V.int
 |[],bs,vs,h,r=>by simp only[JN]at h;cases h;rw[r.nil_iff];rfl
 |m::ms,bs,vs,h,r=>by
  obtain⟨v,us,rfl,h1,h2⟩:=r.uncons;cases m<;>simp only[JN]at h<;>first|(cases h;done)|skip
  obtain⟨bs',hb,rfl⟩:=aG.mp h;unfold Aq at h1;subst h1;rw[JM hb h2];rfl
noncomputable def Lc:List MV->Option MV
 |[.lst l]=>(Dj l).map λbs=>.bl (bs.all id)
 |_=>none
def pK(hc:X.calm=true):Ba X (.builtin "all") (Uv W Lc):=by
 intro pins s σ H xs us Q I rv ⟨F,as,c,sub,vs,hg,q⟩;unfold Lc at hg;split at hg
 ·obtain⟨x,rfl,va⟩:=vs.un1;obtain⟨p,ws,rfl,hp,r⟩:=va;obtain⟨bs,hb,rfl⟩:=aG.mp hg;obtain rfl:=LI hb r;exact PN hc pins s σ H _ us Q I rv ⟨p,bs,rfl,.inl (.inl hp),q.bl sub⟩
 cases hg
noncomputable def Ga(i:Int):List Int->Int
 |[]=>i
 |j::r=>Ga (max i j) r
noncomputable def Jz(i:Int):List Int->Int
 |[]=>i
 |j::r=>Jz (min i j) r
theorem J0:∀r i,i<=Ga i r/\(∀a∈r,a<=Ga i r)/\(Ga i r=i\/Ga i r∈r)
 |[],i=>⟨Int.le_refl _,by simp,.inl rfl⟩
 |j::r,i=>by
  obtain⟨h1,h2,h3⟩:=J0 r (max i j);unfold Ga;refine⟨by lia,λa ha=>?_,?_⟩
  ·rcases aU.mp ha with rfl|ha
   ·lia
   exact h2 a ha
  rcases h3 with h|h
  ·rw[h];by_cases c:i<=j
   ·exact .inr (by rw[Int.max_eq_right c];exact aH)
   exact .inl (Int.max_eq_left (by lia))
  exact .inr (aE _ h)
theorem NK:∀r i,Jz i r<=i/\(∀a∈r,Jz i r<=a)/\(Jz i r=i\/Jz i r∈r)
 |[],i=>⟨Int.le_refl _,by simp,.inl rfl⟩
 |j::r,i=>by
  obtain⟨h1,h2,h3⟩:=NK r (min i j);unfold Jz;refine⟨by lia,λa ha=>?_,?_⟩
  ·rcases aU.mp ha with rfl|ha
   ·lia
   exact h2 a ha
  rcases h3 with h|h
  ·rw[h];by_cases c:i<=j
   ·exact .inl (Int.min_eq_left c)
   exact .inr (by rw[Int.min_eq_right (by lia)];exact aH)
  exact .inr (aE _ h)
noncomputable def RW:List MV->Option MV
 |[.lst l]=>(JN l).bind λns=>match ns with
  |[]=>none
  |i::r=>some (.int (Ga i r))
 |[.int i,.int j]=>some (.int (if j>i then j else i))
 |_=>none
noncomputable def RV:List MV->Option MV
 |[.lst l]=>(JN l).bind λns=>match ns with
  |[]=>none
  |i::r=>some (.int (Jz i r))
 |[.int i,.int j]=>some (.int (if j<i then j else i))
 |_=>none
def ou(hc:X.calm=true):Ba X (.builtin "max") (Uv W RW):=by
 intro pins s σ H xs us Q I rv ⟨F,as,c,sub,vs,hg,q⟩;unfold RW at hg;split at hg
 ·obtain⟨x,rfl,va⟩:=vs.un1;obtain⟨p,ws,rfl,hp,r⟩:=va;obtain⟨ns,hn,h2⟩:=aA.mp hg;obtain rfl:=JM hn r;cases ns with
  |nil=>cases h2
  |cons i l=>
   cases h2;refine PH hc pins s σ H _ us Q I rv ⟨p,i::l,rfl,.inl (.inl hp),by simp,λm hm hall=>?_⟩;obtain⟨h1,h2,h3⟩:=J0 l i;have e:m=Ga i l:=by
    have a1:=hall (Ga i l) (h3.elim (λh=>by rw[h];exact aH) λh=>aE _ h);have a2:=(aU.mp hm).elim (λe=>by rw[e];exact h1) (h2 m)
    lia
   rw[e];exact q.int sub
 ·obtain⟨x,y,rfl,va,vb⟩:=vs.un2;cases va;cases vb;cases hg;exact PJ hc pins s σ H _ us Q I rv ⟨_,_,rfl,q.int sub⟩
 cases hg
def oq(hc:X.calm=true):Ba X (.builtin "min") (Uv W RV):=by
 intro pins s σ H xs us Q I rv ⟨F,as,c,sub,vs,hg,q⟩;unfold RV at hg;split at hg
 ·obtain⟨x,rfl,va⟩:=vs.un1;obtain⟨p,ws,rfl,hp,r⟩:=va;obtain⟨ns,hn,h2⟩:=aA.mp hg;obtain rfl:=JM hn r;cases ns with
  |nil=>cases h2
  |cons i l=>
   cases h2;refine PD hc pins s σ H _ us Q I rv ⟨p,i::l,rfl,.inl (.inl hp),by simp,λm hm hall=>?_⟩;obtain⟨h1,h2,h3⟩:=NK l i;have e:m=Jz i l:=by
    have a1:=hall (Jz i l) (h3.elim (λh=>by rw[h];exact aH) λh=>aE _ h);have a2:=(aU.mp hm).elim (λe=>by rw[e];exact h1) (h2 m)
    lia
   rw[e];exact q.int sub
 ·obtain⟨x,y,rfl,va,vb⟩:=vs.un2;cases va;cases vb;cases hg;exact PF hc pins s σ H _ us Q I rv ⟨_,_,rfl,q.int sub⟩
 cases hg
noncomputable def RY:List MV->Option MV
 |[.int i]=>some (.int i)
 |[.bl k]=>some (.int (if k then 1 else 0))
 |_=>none
def o6:Ba X (.type "int") (Uv W RY):=by
 intro pins s σ H xs us Q I rv ⟨F,as,c,sub,vs,hg,q⟩;unfold RY at hg;split at hg
 ·obtain⟨x,rfl,va⟩:=vs.un1;cases va;cases hg;exact IU pins s σ H _ us Q I rv (.inl ⟨_,rfl,q.int sub⟩)
 ·obtain⟨x,rfl,va⟩:=vs.un1;cases va;cases hg;exact IU pins s σ H _ us Q I rv (.inr ⟨_,rfl,q.int sub⟩)
 cases hg
noncomputable def M3:List MV->Option MV
 |[.lst l]=>some (.tup l)
 |[.tup l]=>some (.tup l)
 |_=>none
def ni:Ba X (.type "tuple") (Uv W M3):=by
 intro pins s σ H xs us Q I rv ⟨F,as,c,sub,vs,hg,q⟩;unfold M3 at hg;split at hg
 ·obtain⟨x,rfl,va⟩:=vs.un1;obtain⟨p,ws,rfl,hp,r⟩:=va;cases hg;exact Ee pins s σ H _ us Q I rv ⟨p,ws,rfl,.inl ⟨.inl (.inl hp),λl n=>q.tup sub n r⟩⟩
 ·obtain⟨x,rfl,va⟩:=vs.un1;obtain⟨p,ws,rfl,hp,r⟩:=va;cases hg;exact Ee pins s σ H _ us Q I rv ⟨p,ws,rfl,.inr ⟨.inl (.inl (sub _ _ hp)),q.same sub (by unfold Aq;exact⟨p,ws,rfl,hp,r⟩)⟩⟩
 cases hg
def Ut{s:Shared}{kvs:List (List Key×V)}(I:Ag X pins σ H s)(e:Rd H a (.dT kvs)):(a ==sysModules)=false/\kvs.length<=sizeLine/\∃(ob:Obj) (es:Array DictEntry) (ep:Nat) (xs:List (List Key×Addr×Value)),Ge s.heap a ob es ep/\kvs.length=xs.length/\(∀(i:Nat) (k:List Key) (v:V),kvs[i]?=some (k,v)->∃a u,xs[i]?=some (k,a,u)/\H a=some (.tup (k.map kV)))/\es.toList=xs.map (entryOfKey (tupleKind (Ai X.prog X.w))):=by
 rcases e with e|⟨ob,e⟩
 ·obtain⟨ob,I2⟩:=I.freezeT e;obtain⟨y,z,es,ep,xs,rd,kt,e4⟩:=I2.rawT Ac;obtain⟨le,ge⟩:=Hb kt;refine⟨y,z,ob,es,ep,xs,rd,le,λi k v h=>?_,e4⟩;obtain⟨b,u,h1,h2⟩:=ge i k v h;refine⟨b,u,h1,?_⟩;by_cases hb:b=a
  ·rw[hb,Ac]at h2;cases h2
  rwa[Aa hb]at h2
 obtain⟨y,z,es,ep,xs,rd,kt,e4⟩:=I.rawT e;obtain⟨le,ge⟩:=Hb kt;exact⟨y,z,ob,es,ep,xs,rd,le,ge,e4⟩
def JR(hh:X.A.handled=none):Ba X (.type "list") (λxs H Q=>∃a kvs,xs=[.ref a]/\Rd H a (.dT kvs)/\∀(ps:List Addr) (l:Addr),ZR H kvs ps->H l=none->Q (.ref l) (upd H l (.lst (ps.map V.ref)))):=by
 intro pins s σ H xs us Q I r h;obtain⟨a,kvs,rfl,ea,q⟩:=h;obtain⟨u,rfl,ru⟩:=BR r;cases ru;obtain⟨y,z,ob,es,ep,ys,rd,le,ge,e4⟩:=Ut I ea;have sz:es.size=kvs.length:=by rw[←cA,e4,aC,le]
 refine PySem.W.kdl_call (Ud y) hh rd (by rw[sz];exact z) λh' tk acc' c' hk hD hacc=>?_;have hfp:H s.heap.objs.size=none:=I.hok.fresh (aI _);have accs:acc'.toList=(ys.map (·.2.1)).map Value.ref:=by
  refine dY λi=>?_;rw[dQ,aJ,aJ];cases hx:ys[i]? with
  |none=>
   have:acc'.size<=i:=by
    rw[hacc.1,sz,le];exact List.getElem?_eq_none_iff.mp hx
   rw[Array.getElem?_eq_none this];rfl
  |some x=>
   have hi:i<acc'.size:=by
    rw[hacc.1,sz,le];exact(a9.mp hx).1
   obtain⟨e,h1,h2⟩:=hacc.2 i acc'[i] (by simp[hi]);have h3:es[i]?=some (entryOfKey (tupleKind (Ai X.prog X.w)) x):=by rw[←dQ,e4,aJ,hx];rfl
   rw[h3]at h1;cases h1;rw[fJ hi,h2];rfl
 refine⟨.ref s.heap.objs.size,upd H s.heap.objs.size (.lst ((ys.map (·.2.1)).map V.ref)),?_,rfl,q (ys.map (·.2.1)) _ ⟨by rw[aC,le],λi p k v h1 h2=>?_⟩ hfp⟩
 ·refine I.laid (t':=tk) (o:=.lst ((ys.map (·.2.1)).map V.ref)) hk (aI _) ⟨by rw[aC,aC,←le];exact z,acc'.toList,c',?_,by rw[Array.toArray_toList];exact hD⟩;rw[accs];generalize ys.map (·.2.1)=zs
  induction zs with
  |nil=>exact .nil
  |cons x r ih=>exact .cons rfl ih
 obtain⟨b,u,h3,h4⟩:=ge i k v h2;rw[aJ,h3]at h1;cases h1;exact h4
noncomputable def HF(F H:Hp):Hp:=λb=>match F b with
 |some o=>some o
 |none=>match H b with
  |some (.tup xs)=>some (.tup xs)
  |_=>none
def Ij:Ak F (HF F H):=λb o e=>by unfold HF;rw[e]
def Kp(s:Ak F H):Ak (HF F H) H:=λb o e=>by
 unfold HF at e;cases h:F b with
 |some u=>rw[h]at e;exact s _ _ (h.trans e)
 |none=>
  rw[h]at e;dsimp only at e;split at e
  ·rename_i xs hx;rw[hx];exact e
  cases e
def TX(s:Ak F H)(e:H b=some (.tup xs)):HF F H b=some (.tup xs):=by
 unfold HF;cases h:F b with
 |some u=>have:=s _ _ h;rw[e]at this;exact this.symm
 |none=>dsimp only;rw[e]
def TW(e:H b=some o)(n:∀xs,o≠ .tup xs)(f:F b=none):HF F H b=none:=by
 unfold HF;rw[f];dsimp only;rw[e];split
 ·rename_i xs hx;cases hx;exact absurd rfl (n xs)
 rfl
theorem Ad.keys:∀(k:List Key),Ad W F (k.map BJ) (k.map kV)
 |[]=>.nil
 |x::r=>.cons (by cases x<;>(simp only[BJ,kV];unfold Aq;rfl)) (Ad.keys r)
theorem IE:∀{kk:List (List Key)}{ps:List Addr},ps.length=kk.length->(∀(i:Nat) (p:Addr) (k:List Key),ps[i]?=some p->kk[i]?=some k->F p=some (.tup (k.map kV)))->Ad W F (kk.map λk=>.tup (k.map BJ)) (ps.map V.ref)
 |[],[],_,_=>.nil
 |[],_::_,h,_=>by cases h
 |_::_,[],h,_=>by cases h
 |k::kk,p::ps,h,f=>by
  refine .cons ?_ (IE (by simpa using h) λi p k h1 h2=>f (i+1) p k (by simpa using h1) (by simpa using h2));unfold Aq;exact⟨p,_,rfl,f 0 p k rfl rfl,Ad.keys k⟩
noncomputable def RX:List MV->Option MV
 |[.lst l]=>some (.lst l)
 |[.tup l]=>some (.lst l)
 |[.dic true ks _]=>some (.lst ks)
 |_=>none
def lstM(hK:X.K=W.K)(hc:X.calm=true):Ba X (.type "list") (Uv W RX):=by
 intro pins s σ H xs us Q I rv ⟨F,as,c,sub,vs,hg,q⟩;unfold RX at hg;split at hg
 ·obtain⟨x,rfl,va⟩:=vs.un1;obtain⟨p,ws,rfl,hp,r⟩:=va;cases hg;exact EZ pins s σ H _ us Q I rv ⟨p,ws,rfl,.inl (.inl (.inl hp)),λl n=>q.lst sub n r⟩
 ·obtain⟨x,rfl,va⟩:=vs.un1;obtain⟨p,ws,rfl,hp,r⟩:=va;cases hg;exact EZ pins s σ H _ us Q I rv ⟨p,ws,rfl,.inr (.inl (.inl (sub _ _ hp))),λl n=>q.lst sub n r⟩
 ·obtain⟨x,rfl,va⟩:=vs.un1;cases hg;obtain⟨p,ws,rfl,r,⟨kk,_,rfl,h3,h4⟩|⟨kk,h,_⟩⟩:=va
  ·refine JR (I.ok.hd hc) pins s σ H _ us Q I rv ⟨p,_,rfl,h3,λps l ka n=>?_⟩;have g:Cs F H (upd (HF F H) l (.lst (ps.map V.ref))) (upd H l (.lst (ps.map V.ref))):=by
    have nf:HF F H l=none:=(Kp sub).free n;refine⟨λb o e=>by rw[Aa (Aj (Ij _ _ e) nf)];exact Ij _ _ e,.new n,λb u e=>?_,λb u e nt f=>?_⟩
    ·by_cases hb:b=l
     ·subst hb;rw[Ac]at e ⊢; exact e
     rw[Aa hb]at e ⊢; exact Kp sub _ _ e
    rw[Aa (Aj e n)];exact TW e nt f
   refine q _ _ _ g ?_;unfold Aq;refine⟨l,_,rfl,Ac,?_⟩;have zl:(kk.zip ws).length=kk.length:=by rw[eY,h4];simp
   refine IE (by rw[ka.1,zl]) λi b k h1 h2=>?_;have hi:=(a9.mp h2).1;have hz:(kk.zip ws)[i]?=some (k,ws[i]'(by lia)):=dZ.mpr ⟨h2,aN _⟩;have hb:=ka.2 i b k _ h1 hz;rw[Aa (Aj hb n)];exact TX sub hb
  cases h
 cases hg
end
inductive Bf where|len|isi|all|max|min|int|tup|lst
noncomputable def Bf.fn(cs:List Ci):Bf->List MV->Option MV
 |.len=>J3| .isi=>M4 cs| .all=>Lc| .max=>RW| .min=>RV| .int=>RY| .tup=>M3| .lst=>RX
noncomputable def Bf.nm:Bf->Str
 |.len=> "len" | .isi=> "isinstance" | .all=> "all" | .max=> "max" | .min=> "min" | .int=> "int" | .tup=> "tuple" | .lst=> "list"
inductive Bm where|index|join|bits|get
inductive Mm where|app|ext|clr
inductive MT where|nm(i:Nat)|tup(is:List Nat)|lst(is:List Nat)
mutual
inductive ME where
 |var (i:Nat)|mov (i:Nat)|con (m:MV)|glo (x:Str) (m:MV)|bty (x:Str) (k:Kd)
 |tup (es:EA)|lst (es:EA)|lstL (es:EA)|dicL (t:Bool)
 |fld (e:ME) (f:Nat)|idx (a b:ME)|sli (a:ME) (lo hi:mj)
 |bin (o:WS) (a b:ME)|una (o:ZE) (a:ME)|cmp (o:Kg) (a b:ME)|cmp2 (o o':Kg) (a b c:ME)
 |not (a:ME)|and (es:EA)|or (es:EA)|ife (c a b:ME)
 |call (f:Nat) (es:EA)|make (c:Nat) (es:EA)|new0 (c:Nat)|meth (m:Nat) (o:ME) (es:EA)|cfn (c m:Nat) (es:EA)
 |bfn (b:Bf) (es:EA)|lenset (e:ME)|bmt (b:Bm) (o:ME) (es:EA)|mmt (b:Mm) (o:ME) (es:EA)
 |comp (xs ys:List Str) (js:List Nat) (tg:MT) (it:MI) (c:EA) (e:ME)
 |lrng (a:ME)|calL (f:Nat) (es:EA) (k:Nat) (js:List Nat)|calv (i:Nat) (es:EA)
inductive EA where
 |nil|cons (e:ME) (r:EA)
inductive mj where
 |no|ye (e:ME)
inductive MI where
 |of (e:ME)|rng1 (a:ME)|rng2 (a b:ME)|enu (e:ME)|zip (a b:ME)
end
noncomputable def EA.len:EA->Nat
 |.nil=>0
 |.cons _ r=>r.len+1
noncomputable def vals:List R->Option (List MV)
 |[]=>some []
 |.v m::r=>(vals r).map (m:: ·)
 |_=>none
noncomputable def Ck(h:MH):List R->Option (List MV)
 |[]=>some []
 |x::r=>(A0 h x).bind λm=>(Ck h r).map (m:: ·)
abbrev Ef:=En->MH->AI R
noncomputable def L9(g:MV->MV->Option MV)(fa fb:Ef):Ef:=λμ h=>(fa μ h).bind λx h1=>(fb μ h1).bind λy h2=>AI.of ((A0 h2 x).bind λa=>(A0 h2 y).bind λb=>(g a b).map R.v) h2
noncomputable def MY(g:MV->Option MV)(fa:Ef):Ef:=λμ h=>(fa μ h).bind λx h1=>AI.of ((A0 h1 x).bind λa=>(g a).map R.v) h1
noncomputable def Zz(g:List MV->Option MV)(fa:En->MH->AI (List R)):Ef:=λμ h=>(fa μ h).bind λxs h1=>AI.of ((Ck h1 xs).bind λas=>(g as).map R.v) h1
noncomputable def Zy(i:Nat):Ef:=λμ h=>match μ[i]? with
 |some (some r)=>.ok r h
 |_=>.no
noncomputable def MO.frz:MO->MV
 |.lst l=>.lst l
 |.dic t ks vs=>.dic t ks vs
 |.ins c ns vs=>.obj c ns vs
 |.gone m=>m
noncomputable def Z3(i:Nat):Ef:=λμ h=>match μ[i]? with
 |some (some (.v m))=>.ok (.v m) h
 |some (some (.r n))=>match h[n]? with
  |some o=>.ok (.v o.frz) (h.set n (.gone o.frz))
  |none=>.no
 |_=>.no
noncomputable def j9(fa:En->MH->AI (List R)):Ef:=λμ h=>(fa μ h).bind λrs h1=>AI.of ((vals rs).bind λms=>if ms.length<=1000 then some (R.v (.tup ms)) else none) h1
noncomputable def jE(fa:En->MH->AI (List R)):Ef:=λμ h=>(fa μ h).bind λrs h1=>AI.of ((vals rs).bind λms=>if ms.length<=1000 then some (R.v (.lst ms)) else none) h1
noncomputable def WA(fa:En->MH->AI (List R)):Ef:=λμ h=>(fa μ h).bind λrs h1=>match vals rs with
 |some ms=>if ms.length<=1000 then .ok (.r h1.length) (h1++ [.lst ms]) else .no
 |none=>.no
noncomputable def WD(t:Bool):Ef:=λμ h=>.ok (.r h.length) (h++ [.dic t [] []])
noncomputable def IC(f:Nat):List Nat->List MV->Option MV
 |n::ns,m::ms=>if n=f then some m else IC f ns ms
 |_,_=>none
noncomputable def D5(cs:List Ci)(f:Nat):MV->Option MV
 |.obj c ns ms=>(cs[c]?).bind λi=>if i.exc=false/\f∈i.flds then IC f ns ms else none
 |_=>none
noncomputable def Dv:MV->Option Bool
 |.non=>some false
 |.bl b=>some b
 |.int i=>some (i !=0)
 |.str z=>if z.length<=big then some ((z.length:Int) !=0) else none
 |.lst l=>some (!l.isEmpty)
 |.tup l=>some (!l.isEmpty)
 |_=>none
noncomputable def Tr:R->Option Bool
 |.v (.bl b)=>some b
 |_=>none
noncomputable def T8:R->Option Int
 |.v (.int b)=>some b
 |_=>none
noncomputable def jC(fa:Ef):Ef:=λμ h=>(fa μ h).bind λx h1=>AI.of ((Tr x).map λb=>R.v (.bl (!b))) h1
noncomputable def jI(fa fb:Ef):Ef:=λμ h=>(fa μ h).bind λx h1=>match Tr x with
 |some true=>fb μ h1
 |some false=>.ok (.v (.bl false)) h1
 |none=>.no
noncomputable def rN(fa fb:Ef):Ef:=λμ h=>(fa μ h).bind λx h1=>match Tr x with
 |some false=>fb μ h1
 |some true=>.ok (.v (.bl true)) h1
 |none=>.no
abbrev Tf:=En->MH->AI Bool
noncomputable def az(fa:Ef):Tf:=λμ h=>(fa μ h).bind λx h1=>AI.of ((A0 h1 x).bind Dv) h1
noncomputable def tbl(fa:Ef):Tf:=λμ h=>(fa μ h).bind λx h1=>AI.of (Tr x) h1
noncomputable def ba(fa:Tf):Tf:=λμ h=>(fa μ h).bind λb h1=>.ok (!b) h1
noncomputable def bg(fa fb:Tf):Tf:=λμ h=>(fa μ h).bind λb h1=>if b=true then fb μ h1 else .ok false h1
noncomputable def qv(fa fb:Tf):Tf:=λμ h=>(fa μ h).bind λb h1=>if b=true then .ok true h1 else fb μ h1
noncomputable def jF(c:Tf)(fa fb:Ef):Ef:=λμ h=>(c μ h).bind λb h1=>if b=true then fa μ h1 else fb μ h1
noncomputable def jA(fa:Ef)(lo hi:En->MH->AI (Option Int)):Ef:=λμ h=>(fa μ h).bind λx h1=>(lo μ h1).bind λl h2=>(hi μ h2).bind λu h3=>AI.of ((A0 h3 x).bind λa=>(Gb a l u).map R.v) h3
noncomputable def Ow(o o':Kg)(fa fb fc:Ef):Ef:=λμ h=>(fa μ h).bind λx h1=>(fb μ h1).bind λy h2=>match (A0 h2 x).bind λa=>(A0 h2 y).bind λb=>Bh o a b with
 |some true=>(fc μ h2).bind λz h3=>AI.of ((A0 h3 y).bind λa=>(A0 h3 z).bind λb=>(Bh o' a b).map λk=>R.v (.bl k)) h3
 |some false=>.ok (.v (.bl false)) h2
 |none=>.no
abbrev Fs:=Nat->List R->MH->AI R
noncomputable def FV(Φ:Fs)(c f:Nat)(fa:En->MH->AI (List R)):Ef:=λμ h=>(fa μ h).bind λrs h1=>(Φ f (.r h1.length::rs) (h1++ [.ins c [] []])).bind λx h2=>match x,h2[h1.length]? with
 |.v .non,some (.ins c' ns vs)=>if h2.length=h1.length+1 then .ok (.v (.obj c' ns vs)) (h2.take h1.length) else .no
 |.v .non,some (.gone m)=>if h2.length=h1.length+1 then .ok (.v m) (h2.take h1.length) else .no
 |_,_=>.no
noncomputable def meth(cs:List Ci)(m:Nat):MV->Option Nat
 |.obj c ns _=>(cs[c]?).bind λi=>if i.exc=false/\m∉ns then i.mts.lookup m else none
 |_=>none
noncomputable def SX(cs:List Ci)(Φ:Fs)(m:Nat)(fo:Ef)(fa:En->MH->AI (List R)):Ef:=λμ h=>(fo μ h).bind λx h1=>match (A0 h1 x).bind (meth cs m) with
 |some f=>(fa μ h1).bind λrs h2=>Φ f (x::rs) h2
 |none=>.no
noncomputable def Ln(l:List MV):Option (List (List Key)):=match l with
 |[]=>some []
 |.tup k::r=>(Bi k).bind λks=>(Ln r).map (ks:: ·)
 |_=>none
noncomputable def DP:MV->Option MV
 |.tup l=>(Ln l).bind λks=>if ks.length<=2/\ks.Nodup then some (.int ks.length) else none
 |_=>none
noncomputable def idxOf(a:MV):List MV->Option Nat
 |[]=>none
 |m::ms=>if Hs m a=true then some 0 else(idxOf a ms).map (· +1)
noncomputable def Ek:List MV->Option (List Str)
 |[]=>some []
 |.str x::r=>(Ek r).map (x:: ·)
 |_=>none
noncomputable def Zu:MV->Option (List MV×List MV)
 |.dic false ks vs=>some (ks,vs)
 |_=>none
noncomputable def Qj:Bm->MV->List MV->Option MV
 |.index,m,as=>(Sb m).bind λl=>((RH as).bind Q7).bind λx=>(Ek l).bind λ_=>(idxOf (.str x) l).map λ(i:Nat)=>MV.int (i:Int)
 |.join,m,as=>(Q7 m).bind λz=>((RH as).bind Sb).bind λl=>(Ek l).bind λys=>if (ys.map (·.length)).sum+ys.length*z.length<=16777216 then some (.str (Txt.join z ys)) else none
 |.bits,m,as=>(JL m).bind λi=>if as.isEmpty=true then some (.int (Builtin.Int.intBits i)) else none
 |.get,m,as=>(Zu m).bind λd=>(RH as).bind λk=>(Et false d.1 d.2 k).map λo=>o.getD .non
noncomputable def jl:MV->Bool
 |.dic _ _ _=>true
 |_=>false
noncomputable def VM:Bm->MV->Bool
 |.index,m=>(Sb m).isSome
 |.join,m=>(Q7 m).isSome
 |.bits,m=>(JL m).isSome
 |.get,m=>jl m
def V7(h:Zu m=some d):m=.dic false d.1 d.2:=by
 unfold Zu at h;split at h
 ·cases h;rfl
 cases h
noncomputable def VI(b:Bm)(fo:Ef)(fa:En->MH->AI (List R)):Ef:=λμ h=>(fo μ h).bind λx h1=>if ((A0 h1 x).map (VM b))=some true then(fa μ h1).bind λrs h2=>AI.of ((A0 h2 x).bind λm=>(Ck h2 rs).bind λas=>(Qj b m as).map R.v) h2 else .no
noncomputable def T6:Mm->List MV->List MV->Option (List MV)
 |.app,l,[m]=>if l.length<big then some (l++ [m]) else none
 |.ext,l,[.lst z]=>if l.length+z.length<=big then some (l++z) else none
 |.clr,_,[]=>some []
 |_,_,_=>none
noncomputable def W2:Option MO->Bool
 |some (.lst _)=>true
 |_=>false
noncomputable def VD(b:Mm)(fo:Ef)(fa:En->MH->AI (List R)):Ef:=λμ h=>(fo μ h).bind λx h1=>if (match x with| .r n=>W2 h1[n]? |_=>false)=true then(fa μ h1).bind λrs h2=>match x with
 |.r n=>match h2[n]?,vals rs with
  |some (.lst l),some as=>(match T6 b l as with
   |some l'=>.ok (.v .non) (h2.set n (.lst l'))
   |none=>.no)
  |_,_=>.no
 |_=>.no
 else .no
noncomputable def AX:MT->MV->En->Option En
 |.nm i,m,μ=>some (μ.set i (some (.v m)))
 |.tup is,.tup l,μ=>if is.length=l.length then some ((is.zip l).foldl (λμ p=>μ.set p.1 (some (.v p.2))) μ) else none
 |.lst is,.lst l,μ=>if is.length=l.length then some ((is.zip l).foldl (λμ p=>μ.set p.1 (some (.v p.2))) μ) else none
 |_,_,_=>none
structure Wk where
 ms:List MV
 src:Option Nat
noncomputable def FW(z:Str):List MV:=z.cps.toList.map λc=>.str ⟨#[c]⟩
noncomputable def C3:MV->Option (List MV)
 |.lst l=>some l
 |.scr l=>some l
 |.tup l=>some l
 |.str z=>some (FW z)
 |.dic true ks _=>some ks
 |_=>none
noncomputable def FD(h:MH):R->Option Wk
 |.v m=>(C3 m).map λl=>⟨l,none⟩
 |.r n=>match h[n]? with
  |some (.lst l)=>some ⟨l,some n⟩
  |some (.gone m)=>(C3 m).map λl=>⟨l,none⟩
  |_=>none
 |.l _ _=>none
noncomputable def BM(lo:Int)(n:Nat):List MV:=(List.range n).map λi=>.int (lo+(i:Nat))
noncomputable def Em:List R->Option Wk
 |[.v (.int j)]=>if -(2^62)<=j/\j<2^62 then some ⟨BM 0 j.toNat,none⟩ else none
 |[.v (.int i),.v (.int j)]=>if -(2^62)<=i/\i<2^62/\-(2^62)<=j/\j<2^62 then some ⟨BM i (j-i).toNat,none⟩ else none
 |_=>none
noncomputable def DC(l:List MV):List MV:=l.zipIdx.map λp=>.tup [.int (p.2:Nat),p.1]
noncomputable def K3:MV->Option (List MV)
 |.lst l=>some l
 |.tup l=>some l
 |_=>none
noncomputable def SK:R->Option Wk
 |.v m=>(K3 m).map λl=>⟨DC l,none⟩
 |_=>none
noncomputable def WU:R->R->Option Wk
 |.v a,.v b=>(K3 a).bind λx=>(K3 b).bind λy=>if x.length=y.length then some ⟨(x.zip y).map λp=>.tup [p.1,p.2],none⟩ else none
 |_,_=>none
open Classical in
noncomputable def Bs(src:Option Nat)(l:List MV)(h:MH):Bool:=match src with
 |none=>true
 |some n=>decide (h[n]?=some (.lst l))
noncomputable def compLoop(src:Option Nat)(all:List MV)(tg:MT)(μ0:En)(tc:Tf)(te:Ef):List MV->List MV->MH->AI (List MV)
 |[],acc,h=>if Bs src all h=true then .ok acc h else .no
 |m::r,acc,h=>if Bs src all h=true then(match AX tg m μ0 with
  |some μ1=>(tc μ1 h).bind λb h2=>if b=true then(te μ1 h2).bind λx h3=>(match x with
   |.v y=>compLoop src all tg μ0 tc te r (acc++ [y]) h3
   |_=>.no) else compLoop src all tg μ0 tc te r acc h2
  |none=>.no) else .no
noncomputable def startC(k:Nat)(js:List Nat)(μ:En):En:=List.replicate k none++js.map λj=>(μ[j]?).join
noncomputable def BZ(k:Nat)(js:List Nat)(tg:MT)(fi:En->MH->AI Wk)(tc:Tf)(te:Ef):Ef:=λμ h=>(fi μ h).bind λw h1=>if w.ms.length<=big then(compLoop w.src w.ms tg (startC k js μ) tc te w.ms [] h1).bind λl h2=>.ok (.v (.lst l)) h2 else .no
noncomputable def Ie(μ:En):List Nat->Option (List MV)
 |[]=>some []
 |j::js=>match μ[j]? with
  |some (some (.v m))=>(Ie μ js).map (m:: ·)
  |_=>none
noncomputable def noL:AI R->AI R
 |.ok (.l _ _) _=>.no
 |x=>x
noncomputable def Jy:R->Bool
 |.l _ _=>false
 |_=>true
noncomputable def WE(Φ:Fs)(f:Nat)(fa:En->MH->AI (List R))(k:Nat)(js:List Nat):Ef:=λμ h=>(fa μ h).bind λrs h1=>match Ie μ js with
 |some ms=>noL (Φ f (rs++ [.l k ms]) h1)
 |none=>.no
noncomputable def Tg(Φ:Fs)(i:Nat)(fa:En->MH->AI (List R)):Ef:=λμ h=>match μ[i]? with
 |some (some (.l k ms))=>(fa μ h).bind λrs h1=>if rs.all Jy=true then noL (Φ k (ms.map .v++rs) h1) else .no
 |_=>.no
noncomputable def WB(fa:Ef):Ef:=λμ h=>(fa μ h).bind λx h1=>match T8 x with
 |some i=>if 0<=i/\i<=1000 then .ok (.v (.lst (BM 0 i.toNat))) h1 else .no
 |none=>.no
noncomputable def pr(f:Ef):Ef×Tf:=(f,az f)
noncomputable def qD(f:Ef):Ef×Tf:=(f,tbl f)
section
variable (cs:List Ci) (Φ:Fs) (ini:Nat->Option Nat) (cf:Nat->Nat->Option Nat)
mutual
noncomputable def e2:ME->Ef×Tf
 |.var i=>pr (Zy i)
 |.mov i=>pr (Z3 i)
 |.con m=>pr λ_ h=>.ok (.v m) h
 |.glo _ m=>pr λ_ h=>.ok (.v m) h
 |.bty _ k=>pr λ_ h=>.ok (.v (.ty k)) h
 |.tup es=>pr (j9 (DA es))
 |.lst es=>pr (jE (DA es))
 |.lstL es=>pr (WA (DA es))
 |.dicL t=>pr (WD t)
 |.fld e f=>pr (MY (D5 cs f) (e2 e).1)
 |.idx a b=>pr (L9 HL (e2 a).1 (e2 b).1)
 |.sli a lo hi=>pr (jA (e2 a).1 (Zq lo) (Zq hi))
 |.bin o a b=>pr (L9 (Bz o) (e2 a).1 (e2 b).1)
 |.una o a=>pr (MY (Ww o) (e2 a).1)
 |.cmp o a b=>qD (L9 (λx y=>(Bh o x y).map .bl) (e2 a).1 (e2 b).1)
 |.cmp2 o o' a b c=>qD (Ow o o' (e2 a).1 (e2 b).1 (e2 c).1)
 |.not a=>(jC (e2 a).1,ba (e2 a).2)
 |.and es=>P4 es
 |.or es=>P3 es
 |.ife c a b=>(jF (e2 c).2 (e2 a).1 (e2 b).1,λ_ _=>.no)
 |.call f es=>pr λμ h=>(DA es μ h).bind λrs h1=>Φ f rs h1
 |.make c es=>pr (match ini c with
  |some f=>FV Φ c f (DA es)
  |none=>λ_ _=>.no)
 |.new0 c=>pr (match ini c with
  |some _=>λ_ _=>.no
  |none=>λ_ h=>.ok (.v (.obj c [] [])) h)
 |.meth m o es=>pr (SX cs Φ m (e2 o).1 (DA es))
 |.cfn c m es=>pr (match cf c m with
  |some f=>λμ h=>(DA es μ h).bind λrs h1=>Φ f rs h1
  |none=>λ_ _=>.no)
 |.bfn b es=>pr (Zz (b.fn cs) (DA es))
 |.lenset e=>pr (MY DP (e2 e).1)
 |.bmt b o es=>pr (VI b (e2 o).1 (DA es))
 |.mmt b o es=>pr (VD b (e2 o).1 (DA es))
 |.comp xs ys js tg it c e=>pr (BZ xs.length js tg (SJ it) (OE c) (e2 e).1)
 |.lrng a=>pr (WB (e2 a).1)
 |.calL f es k js=>pr (WE Φ f (DA es) k js)
 |.calv i es=>pr (Tg Φ i (DA es))
noncomputable def DA:EA->En->MH->AI (List R)
 |.nil=>λ_ h=>.ok [] h
 |.cons e r=>λμ h=>((e2 e).1 μ h).bind λx h1=>(DA r μ h1).bind λxs h2=>.ok (x::xs) h2
noncomputable def P4:EA->Ef×Tf
 |.nil=>(λ_ _=>.no,λ_ h=>.ok true h)
 |.cons e .nil=>e2 e
 |.cons e (.cons e' r)=>(jI (e2 e).1 (P4 (.cons e' r)).1,bg (e2 e).2 (P4 (.cons e' r)).2)
noncomputable def P3:EA->Ef×Tf
 |.nil=>(λ_ _=>.no,λ_ h=>.ok false h)
 |.cons e .nil=>e2 e
 |.cons e (.cons e' r)=>(rN (e2 e).1 (P3 (.cons e' r)).1,qv (e2 e).2 (P3 (.cons e' r)).2)
noncomputable def Zq:mj->En->MH->AI (Option Int)
 |.no=>λ_ h=>.ok none h
 |.ye e=>λμ h=>((e2 e).1 μ h).bind λx h1=>AI.of ((T8 x).map some) h1
noncomputable def SJ:MI->En->MH->AI Wk
 |.of e=>λμ h=>((e2 e).1 μ h).bind λx h1=>AI.of (FD h1 x) h1
 |.rng1 a=>λμ h=>((e2 a).1 μ h).bind λx h1=>AI.of (Em [x]) h1
 |.rng2 a b=>λμ h=>((e2 a).1 μ h).bind λx h1=>((e2 b).1 μ h1).bind λy h2=>AI.of (Em [x,y]) h2
 |.enu e=>λμ h=>((e2 e).1 μ h).bind λx h1=>AI.of (SK x) h1
 |.zip a b=>λμ h=>((e2 a).1 μ h).bind λx h1=>((e2 b).1 μ h1).bind λy h2=>AI.of (WU x y) h2
noncomputable def OE:EA->Tf
 |.nil=>λ_ h=>.ok true h
 |.cons e .nil=>(e2 e).2
 |.cons _ (.cons _ _)=>λ_ _=>.no
end
end
section
theorem C7:∀{rs:List R}{ms:List MV}{vs:List V},vals rs=some ms->AF W F ρ rs vs->Ad W F ms vs
 |[],ms,vs,h,r=>by simp only[vals]at h;cases h;cases r;exact .nil
 |.v m::rs,ms,vs,h,r=>by
  obtain⟨l,hl,rfl⟩:=aG.mp (show(vals rs).map (m:: ·)=some ms from h);cases r with
  |cons q t=>exact .cons q (C7 hl t)
 |.r n::rs,ms,vs,h,r=>by cases h
 |.l _ _::rs,ms,vs,h,r=>by cases h
theorem Da(S:Bq W F H ρ h):∀{rs:List R}{ms:List MV}{vs:List V},Ck h rs=some ms->AF W F ρ rs vs->FX W F H ms vs
 |[],ms,vs,e,r=>by simp only[Ck]at e;cases e;cases r;exact .nil
 |x::rs,ms,vs,e,r=>by
  obtain⟨m,hm,e2⟩:=aA.mp (show(A0 h x).bind (λm=>(Ck h rs).map (m:: ·))=some ms from e);obtain⟨l,hl,rfl⟩:=aG.mp e2;cases r with
  |cons q t=>exact .cons (S.view q hm) (Da S hl t)
def Am.out(S:Bq W F H ρ h)(G:GE W F ρ (.ok (.v m) h) Q):Ih W F H m Q:=λF' H' v g r=>G F' ρ H' v g.nxt (S.grow g) r
def Jj(t:tM W (L9 g fa fb) σ H Q):bw (Qd W g) (tM W fa) (tM W fb) σ H Q:=by
 obtain⟨F,ρ,μ,h,S,e,G⟩:=t;refine⟨F,ρ,μ,h,S,e,(Am.bind G).imp ?_⟩;rintro x H1 ⟨F1,ρ1,r,h1,n1,S1,q1,G1⟩;refine⟨F1,ρ1,μ,h1,S1,e.nxt n1,(Am.bind G1).imp ?_⟩;rintro y H2 ⟨F2,ρ2,r2,h2,n2,S2,q2,G2⟩;obtain⟨rr,he,G3⟩:=G2.of;obtain⟨a,ha,he⟩:=aA.mp he;obtain⟨b,hb,he⟩:=aA.mp he;obtain⟨c,hc,rfl⟩:=aG.mp he;exact⟨F2,a,b,c,S2.sub,S2.view (q1.nxt n2) ha,S2.view q2 hb,hc,G3.out S2⟩
def Q0(t:tM W (MY g fa) σ H Q):qw (qA W g) (tM W fa) σ H Q:=by
 obtain⟨F,ρ,μ,h,S,e,G⟩:=t;refine⟨F,ρ,μ,h,S,e,(Am.bind G).imp ?_⟩;rintro x H1 ⟨F1,ρ1,r,h1,n1,S1,q1,G1⟩;obtain⟨rr,he,G3⟩:=G1.of;obtain⟨a,ha,he⟩:=aA.mp he;obtain⟨c,hc,rfl⟩:=aG.mp he;exact⟨F1,a,c,S1.sub,S1.view q1 ha,hc,G3.out S1⟩
def Dw(t:tM W (Zz g fs) σ H Q):nA (Uv W g) (HG W fs) σ H Q:=by
 obtain⟨F,ρ,μ,h,S,e,G⟩:=t;refine⟨F,ρ,μ,h,S,e,(Am.bind (rep:=AF W) G).imp ?_⟩;rintro xs H1 ⟨F1,ρ1,rs,h1,n1,S1,q1,G1⟩;obtain⟨rr,he,G3⟩:=G1.of;obtain⟨as,ha,he⟩:=aA.mp he;obtain⟨c,hc,rfl⟩:=aG.mp he;exact⟨F1,as,c,S1.sub,Da S1 ha q1,hc,G3.out S1⟩
def gb(hK:X.K=W.K)(o:WS)(ha:PE X a (tM W fa))(hb:PE X b (tM W fb)):PE X (.BinOp a o.op b pos) (tM W (L9 (Bz o) fa fb)):=PE.of (gz (Y8 hK o) ha hb) λ_ _ _ t=>Jj t
def dh(o:ZE)(ha:PE X a (tM W fa)):PE X (.UnaryOp o.op a pos) (tM W (MY (Ww o) fa)):=PE.of (gx (so o) ha) λ_ _ _ t=>Q0 t
def fu(hK:X.K=W.K)(hu:X.A.units+70<cLine)(o:Kg)(ha:PE X a (tM W fa))(hb:PE X b (tM W fb))(hm:behindInMarks o.op b=false):PE X (.Compare a [o.op] [b] pos) (tM W (L9 (λx y=>(Bh o x y).map .bl) fa fb)):=PE.of (UO (IS hK hu o) ha hb hm) λ_ _ _ t=>Jj t
def fj(hK:X.K=W.K)(hu:X.A.units+70<cLine)(ha:PE X a (tM W fa))(hb:PE X b (tM W fb))(hs:Kc b):PE X (.Subscript a b pos) (tM W (L9 HL fa fb)):=PE.of (ia (sM hK hu) ha hb hs) λ_ _ _ t=>Jj t
def dg{i:Nat}{x:Str}(hN:X.N[i]?=some x)(hv:WK X.env.scope x)(hd:(x ==("__debug__" :Str))=false)(hcd:(x ==("__classdict__" :Str))=false):PE X (.Name x pos) (tM W (Zy i)):=by
 refine PE.of (Fp hN hv hd hcd) ?_;rintro σ H Q ⟨F,ρ,μ,h,S,e,G⟩;unfold Zy at G;split at G
 ·rename_i r hr;obtain⟨v,h1,h2⟩:=e.at_ i r hr;exact⟨v,h1,G.ret S h2⟩
 exact G.elim
def FG(hp:PE X e (tC v))(hr:∀F,Aq W F m v):PE X e (tM W λ_ h=>.ok (.v m) h):=
 PE.of hp λσ H Q ⟨F,ρ,μ,h,S,e,G⟩=>G.ret S (hr F)
def K4:PA X [] (HG W λ_ h=>.ok [] h):=PA.of Jv λσ H Q ⟨F,ρ,μ,h,S,e,G⟩=>G.ret (v:=[]) S .nil
def El(ha:PE X e (tM W fa))(hr:PA X es (HG W fs))(hs:starEach (e::es) X.env=(false,eval e X.env)::starEach es X.env):PA X (e::es) (HG W λμ h=>(fa μ h).bind λx h1=>(fs μ h1).bind λxs h2=>.ok (x::xs) h2):=by
 refine PA.of (EQ ha hr hs) ?_;rintro σ H Q ⟨F,ρ,μ,h,S,e,G⟩;refine⟨F,ρ,μ,h,S,e,(Am.bind (rep:=AC W) G).imp ?_⟩;rintro x H1 ⟨F1,ρ1,r,h1,n1,S1,q1,G1⟩;refine⟨F1,ρ1,μ,h1,S1,e.nxt n1,(Am.bind (rep:=AF W) G1).imp ?_⟩;rintro xs H2 ⟨F2,ρ2,rs,h2,n2,S2,q2,G2⟩;exact G2.ret S2 (.cons (q1.nxt n2) q2)
def dk{x1:Nat}(h:PA X es (HG W fs)):PE X (.Tuple es x1 pos) (tM W (j9 fs)):=by
 refine PE.of (Yn h) ?_;rintro σ H Q ⟨F,ρ,μ,h,S,e,G⟩;refine⟨F,ρ,μ,h,S,e,(Am.bind (rep:=AF W) G).imp ?_⟩;rintro xs H1 ⟨F1,ρ1,rs,h1,n1,S1,q1,G1⟩;obtain⟨rr,he,G3⟩:=G1.of;obtain⟨ms,hm,he⟩:=aA.mp he;obtain⟨hl,rfl⟩:=Ao he;have r:=C7 hm q1;exact⟨by rw[←r.len,JV];exact b9 hl (by decide),λp n=>(G3.out S1).tup S1.sub n r⟩
def eh(h:PA X es (HG W fs)):PE X (.List es pos) (tM W (jE fs)):=by
 refine PE.of (R3 h) ?_;rintro σ H Q ⟨F,ρ,μ,h,S,e,G⟩;refine⟨F,ρ,μ,h,S,e,(Am.bind (rep:=AF W) G).imp ?_⟩;rintro xs H1 ⟨F1,ρ1,rs,h1,n1,S1,q1,G1⟩;obtain⟨rr,he,G3⟩:=G1.of;obtain⟨ms,hm,he⟩:=aA.mp he;obtain⟨hl,rfl⟩:=Ao he;have r:=C7 hm q1;exact⟨by rw[←r.len,JV];exact b9 hl (by decide),λp n=>(G3.out S1).lst S1.sub n r⟩
def Cr.of_new{F:Hp}{p a:Addr}{o:HO}{m:MO}(n:H p=none)(l:Cr W F H a m):Cr W F (upd H p o) a m:=by
 cases m with
 |lst l'=>obtain⟨n1,vs,h,r⟩:=l;exact⟨n1,vs,by rw[Aa (Aj h n)];exact h,r⟩
 |dic t ks ms=>
  obtain⟨n1,vs,r,q⟩:=l;rcases q with⟨kk,e0,e1,e2,e3⟩|⟨kk,e0,e1,e2,e3⟩
  ·exact⟨n1,vs,r,.inl ⟨kk,e0,e1,by rw[Aa (Aj e2 n)];exact e2,e3⟩⟩
  exact⟨n1,vs,r,.inr ⟨kk,e0,e1,by rw[Aa (Aj e2 n)];exact e2,e3⟩⟩
 |ins c ns ms=>obtain⟨n1,dx,vs,h1,h2,n2,h3,r⟩:=l;exact⟨n1,dx,vs,by rw[Aa (Aj h1 n)];exact h1,by rw[Aa (Aj h2 n)];exact h2,n2,h3,r⟩
 |gone m=>exact l
def Cr.there{F:Hp}{a:Addr}{m:MO}(s:Ak F H)(l:Cr W F H a m):∃o,H a=some o:=by
 cases m with
 |lst l'=>obtain⟨n1,vs,h,r⟩:=l;exact⟨_,h⟩
 |dic t ks ms=>
  obtain⟨n1,vs,r,q⟩:=l;rcases q with⟨kk,e0,e1,e2,e3⟩|⟨kk,e0,e1,e2,e3⟩<;>exact⟨_,e2⟩
 |ins c ns ms=>obtain⟨n1,dx,vs,h1,_⟩:=l;exact⟨_,h1⟩
 |gone m=>obtain⟨_,o,h⟩:=l;exact⟨o,s _ _ h.1⟩
def Bq.mem{F:Hp}{ρ:List Addr}{h:MH}(S:Bq W F H ρ h){a:Addr}(ha:a∈ρ):∃o,H a=some o:=by
 obtain⟨n,hn,rfl⟩:=cD.mp ha;have hl:n<h.length:=by rw[←S.len];exact hn
 exact(S.obj n _ _ (by simp[hn]) (show h[n]?=some h[n] by simp[hl])).there S.sub
def Bq.push(S:Bq W F H ρ h)(n:H p=none)(l:Cr W F (upd H p o) p m):Bq W F (upd H p o) (ρ++ [p]) (h++ [m]):=by
 refine⟨λb u e=>by rw[Aa (Aj (S.sub _ _ e) n)];exact S.sub _ _ e,?_,by simp[S.len],λk a m' h1 h2=>?_,S.tb.upd (λu e=>by rw[n]at e;cases e),S.tf⟩
 ·rw[i7];refine⟨S.nd,by simp,λa ha b hb=>?_⟩;have hb:b=p:=by simpa using hb
  subst hb;obtain⟨o',e⟩:=S.mem ha;exact Aj e n
 by_cases hk:k<ρ.length
 ·rw[aO hk]at h1;rw[aO (by rw[←S.len];exact hk)]at h2;exact(S.obj k a m' h1 h2).of_new n
 have hk2:k=ρ.length:=by
  have:=(a9.mp h1).1;simp at this
  lia
 subst hk2;rw[aQ (aI _)]at h1;rw[aQ (by rw[S.len];exact aI _)]at h2;simp[S.len]at h1 h2;subst h1 h2;exact l
def Bq.nxtPush:DX F ρ F (ρ++ [p]):=⟨Ak.refl _,List.prefix_append _ _⟩
def Bq.atLast(S:Bq W F H ρ h):AC W F (ρ++ [p]) (.r h.length) (.ref p):=⟨p,rfl,by rw[←S.len];simp⟩
def XJ(h:PA X es (HG W fs)):PE X (.List es pos) (tM W (WA fs)):=by
 refine PE.of (R3 h) ?_;rintro σ H Q ⟨F,ρ,μ,h,S,e,G⟩;refine⟨F,ρ,μ,h,S,e,(Am.bind (rep:=AF W) G).imp ?_⟩;rintro xs H1 ⟨F1,ρ1,rs,h1,n1,S1,q1,G1⟩;split at G1
 ·rename_i ms hm;split at G1
  ·rename_i hl;have r:=C7 hm q1;refine⟨by rw[←r.len,JV];exact b9 hl (by decide),λp n=>?_⟩;exact G1 F1 (ρ1++ [p]) _ _ Bq.nxtPush (S1.push n ⟨S1.sub.free n,xs,Ac,r⟩) S1.atLast
  exact G1.elim
 exact G1.elim
end
end B
namespace L2
open PySem PySem.Spec PyProof.Rows
section
def Ag.freezeK(I:Ag X pins σ H s)(e:H a=some (.dK kvs)):∃ob,Ag X pins σ (upd H a (.frz ob (.dK kvs))) s:=by
 have ok:=(show AE X.prog X.w H s.heap a (.dK kvs) from I.hok a _ e);obtain⟨z,y,vs,r,ob,es,ep,h1,h2⟩:=id ok;have ne:∀{b:Addr}{o:HO},H b=some o->o≠ .dK kvs->b≠a:=λq n=>GY q e n;refine⟨ob,?_⟩;show Ag X pins σ (upd H a (.frz ob (.dK kvs))) {s with heap:=s.heap,gens:=s.gens,drawn:=s.drawn,toks:=s.toks};refine I.step (h':=s.heap) (t':=s.toks) (g':=s.gens) (d':=s.drawn) (ch:=[]) (λb hb=>by cases hb) (λb o _ _ _ q _=>q) (λb o _ _ _ q _=>⟨o.slots,q⟩) (λb o _ q n=>?_) (λb o _ q=>⟨o,q⟩)
  (λb xs q=>?_) (λb o u q=>?_) (λb ps q=>?_) (λm hm=>hm) (λb o q=>?_) I.bare
 ·rw[Aa (λz=>by subst z;rw[e]at n;cases n)];exact n
 ·rw[Aa (ne q (by intro z;cases z))];exact q
 ·rw[Aa (ne q (by intro z;cases z))];exact q
 ·exact⟨#[],by rw[Aa (ne q (by intro z;cases z)),q];simp⟩
 have own:∀c x,H c=some (.own x)->upd H a (.frz ob (.dK kvs)) c=some (.own x):=λc x q=>by rw[Aa (ne q (by intro z;cases z))];exact q
 have tup:∀c ys,H c=some (.tup ys)->upd H a (.frz ob (.dK kvs)) c=some (.tup ys):=λc x q=>by rw[Aa (ne q (by intro z;cases z))];exact q
 by_cases hb:b=a
 ·subst hb;rw[Ac]at q;cases q;exact⟨h1,ok.stay (λ_ _ _ q=>q) (λc q=>own c _ q) tup⟩
 rw[Aa hb]at q;exact(I.hok b o q).stay (λ_ _ _ q=>q) (λc q=>own c _ q) tup
end
end L2
namespace B
open PySem L2 PySem.SeqAt
open PyProof.Rows hiding St
section
def Cr.apart(hpq:q≠p)(sF:Ak F F')(hF:∀b,b≠p->F' b=F b\/∃x,H b=some (.own x)/\x=p)(hH:∀b o,b≠p->H b=some o->H' b=some o)(hm:∀x,H p≠some (.own x))(l:Cr W F H q m):Cr W F' H' q m:=by
 have fn:∀{b:Addr},b≠p->(∀x,H b=some (.own x)->x≠p)->F b=none->F' b=none:=λhb ho n=>by
  rcases hF _ hb with h|⟨x,h1,h2⟩
  ·rw[h];exact n
  exact absurd h2 (ho x h1)
 cases m with
 |lst l'=>obtain⟨n1,vs,h,r⟩:=l;exact⟨fn hpq (λx z=>by rw[h]at z;cases z) n1,vs,hH _ _ hpq h,r.same sF⟩
 |dic t ks ms=>
  obtain⟨n1,vs,r,w⟩:=l;rcases w with⟨kk,e0,e1,e2,e3⟩|⟨kk,e0,e1,e2,e3⟩
  ·exact⟨fn hpq (λx z=>by rw[e2]at z;cases z) n1,vs,r.same sF,.inl ⟨kk,e0,e1,hH _ _ hpq e2,e3⟩⟩
  exact⟨fn hpq (λx z=>by rw[e2]at z;cases z) n1,vs,r.same sF,.inr ⟨kk,e0,e1,hH _ _ hpq e2,e3⟩⟩
 |ins c ns ms=>
  obtain⟨n1,dx,vs,h1,h2,n2,h3,r⟩:=l;have hd:dx≠p:=λz=>by subst z;exact hm _ h2
  exact⟨fn hpq (λx z=>by rw[h1]at z;cases z) n1,dx,vs,hH _ _ hpq h1,hH _ _ hd h2,fn hd (λx z=>by rw[h2]at z;cases z;exact hpq) n2,h3,r.same sF⟩
 |gone m=>obtain⟨r,o,h⟩:=l;exact⟨r.same sF,o,sF _ _ h.1,h.2⟩
def MQ{α:Type}{l:List α}{n k:Nat}{x y:α}(h:(l.set n x)[k]?=some y):(k=n/\y=x)\/(k≠n/\l[k]?=some y):=by
 by_cases hk:n=k
 ·subst hk;rw[f8]at h;simp at h;exact .inl ⟨rfl,h.2.symm⟩
 rw[c7 hk]at h;exact .inr ⟨λz=>hk z.symm,h⟩
def Nodup.inj{ρ:List Addr}(nd:ρ.Nodup){n k:Nat}(h1:ρ[n]?=some p)(h2:ρ[k]?=some p):n=k:=by
 obtain⟨l1,e1⟩:=a9.mp h1;obtain⟨l2,e2⟩:=a9.mp h2;have:=bC.mp nd;rcases Nat.lt_trichotomy n k with z|z|z
 ·exact absurd (e1.trans e2.symm) (this n k l1 l2 z)
 ·exact z
 exact absurd (e2.trans e1.symm) (this k n l2 l1 z)
def Bq.freeze{ρ:List Addr}{h:MH}{n:Nat}(S:Bq W F H ρ h)(hp:ρ[n]?=some p)(sub:Ak F' H')(sF:Ak F F')(hF:∀b,b≠p->F' b=F b\/∃x,H b=some (.own x)/\x=p)(hH:∀b o,b≠p->H b=some o->H' b=some o)(hm:∀x,H p≠some (.own x))(r:Aq W F' m (.ref p))(ho:∃o,F' p=some o/\∀ob,o≠AT p ob)(ht:∀u,H p=some u->Kv u->H' p=some u)(hp2:∀ps,H p≠some (.tbl ps)):Bq W F' H' ρ (h.set n (.gone m)):=by
 refine⟨sub,S.nd,by simp[S.len],λk q m' h1 h2=>?_,S.tb.keep λb u e t=>(if hb:b=p then by subst hb;exact ht u e t else hH b u hb e),λt ht=>by
  obtain⟨ps,e,_⟩:=S.tb t ht;rcases hF t.1 (λz=>hp2 ps (by rw[←z];exact e)) with q|⟨x,q,_⟩
  ·rw[q];exact S.tf t ht
  rw[e]at q;cases q⟩
 rcases MQ h2 with⟨rfl,rfl⟩|⟨hk,h2⟩
 ·rw[hp]at h1;cases h1;exact⟨r,ho⟩
 have hq:q≠p:=λz=>hk (Nodup.inj S.nd (by rw[←z];exact h1) hp);exact(S.obj k q m' h1 h2).apart hq sF hF hH hm
def dv{i:Nat}{x:Str}(hN:X.N[i]?=some x)(hv:WK X.env.scope x)(hd:(x ==("__debug__" :Str))=false)(hcd:(x ==("__classdict__" :Str))=false):PE X (.Name x pos) (tM W (Z3 i)):=by
 intro pins s σ H Q I ⟨F,ρ,μ,h,S,e,G⟩;unfold Z3 at G;split at G
 ·rename_i m hm;obtain⟨v,h1,h2⟩:=e.at_ i _ hm;exact Fp hN hv hd hcd pins s σ H Q I ⟨v,h1,G.ret S h2⟩
 ·rename_i n hn;obtain⟨v,h1,p,rfl,hp⟩:=e.at_ i _ hn;split at G
  ·rename_i o ho;have l:=S.obj n p o hp ho;have go:∀{F':Hp},Ak F' H->Ak F F'->(∀b,b≠p->F' b=F b\/∃x,H b=some (.own x)/\x=p)->(∀x,H p≠some (.own x))->Aq W F' o.frz (.ref p)->(∃o,F' p=some o/\∀ob,o≠AT p ob)->(∀ps,H p≠some (.tbl ps))->wpAny (model X.prog X.w) X.A (eval (.Name x pos) X.env) (EP X pins σ Q) X.xe s:=λ{F'} sub sF hF hm r ho htb=>by
    refine Fp hN hv hd hcd pins s σ H Q I ⟨.ref p,h1,?_⟩;exact G F' ρ H (.ref p) ⟨sF,cF _⟩ (S.freeze hp sub sF hF (λb o _ q=>q) hm r ho (λ_ e _=>e) htb) r
   cases o with
   |lst l'=>
    obtain⟨n1,vs,hH,r⟩:=l;refine go (F':=upd F p (.lst vs)) (λb u z=>?_) (.new n1) (λb hb=>.inl (Aa hb)) (λx z=>by rw[hH]at z;cases z) (by unfold MO.frz Aq;exact⟨p,vs,rfl,Ac,r.same (.new n1)⟩) ⟨_,Ac,λob z=>by cases z⟩ (λps z=>by rw[hH]at z;cases z);by_cases hb:b=p
    ·subst hb;rw[Ac]at z;cases z;exact hH
    rw[Aa hb]at z;exact S.sub _ _ z
   |ins c ns ms=>
    obtain⟨n1,dx,vs,hH,hD,n2,h3,r⟩:=l;have hdp:dx≠p:=GY hD hH (by intro z;cases z);have n2':(upd F p (.ins (W.ca c) dx ((ns.map W.nm).zip vs))) dx=none:=by rw[Aa hdp];exact n2
    have sF:Ak F (upd (upd F p (.ins (W.ca c) dx ((ns.map W.nm).zip vs))) dx (.own p)):=(Ak.new n1).trans (.new n2');refine go (F':=upd (upd F p (.ins (W.ca c) dx ((ns.map W.nm).zip vs))) dx (.own p)) (λb u z=>?_) sF (λb hb=>?_) (λx z=>by rw[hH]at z;cases z) ?_ ⟨_,by rw[Aa (bM hdp)];exact Ac,λob z=>by cases z⟩ (λps z=>by rw[hH]at z;cases z)
    ·by_cases hb:b=dx
     ·subst hb;rw[Ac]at z;cases z;exact hD
     rw[Aa hb]at z;by_cases hb2:b=p
     ·subst hb2;rw[Ac]at z;cases z;exact hH
     rw[Aa hb2]at z;exact S.sub _ _ z
    ·by_cases hb2:b=dx
     ·subst hb2;exact .inr ⟨p,hD,rfl⟩
     exact .inl (by rw[Aa hb2,Aa hb])
    unfold MO.frz Aq;exact⟨p,dx,vs,rfl,by rw[Aa (bM hdp)];exact Ac,Ac,h3,r.same sF⟩
   |gone m=>
    obtain⟨r,o,ho⟩:=l;have e2:h.set n (.gone m)=h:=by
     apply dY;intro k;by_cases hk:n=k
     ·subst hk;rename_i ho' ;rw[f8];simp[ho'];exact(a9.mp ho').1
     rw[c7 hk]
    exact Fp hN hv hd hcd pins s σ H Q I ⟨.ref p,h1,G F ρ H (.ref p) .refl (by show Bq W F H ρ (h.set n (.gone m));rw[e2];exact S) r⟩
   |dic t ks ms=>
    obtain⟨n1,vs,r,w⟩:=l;have dgo:∀{u:HO},H p=some u->(∃ob,Ag X pins σ (upd H p (.frz ob u)) s)->(∀x,u≠ .own x)->¬Kv u->(∀F',(∃ob,F' p=some (.frz ob u))->Ak F F'->Aq W F' (.dic t ks ms) (.ref p))->wpAny (model X.prog X.w) X.A (eval (.Name x pos) X.env) (EP X pins σ Q) X.xe s:=λ{u} hu ⟨ob,I'⟩ hno hnt hr=>by
     refine Fp hN hv hd hcd pins s σ _ Q I' ⟨.ref p,h1,?_⟩;have sF:Ak F (upd F p (.frz ob u)):=.new n1;have rr:=hr (upd F p (.frz ob u)) ⟨ob,Ac⟩ sF;refine G (upd F p (.frz ob u)) ρ _ (.ref p) ⟨sF,cF _⟩ (S.freeze hp (λb o z=>?_) sF (λb hb=>.inl (Aa hb)) (λb o hb q=>by rw[Aa hb];exact q) (λx z=>hno x (by rw[hu]at z;cases z;rfl)) rr ⟨_,Ac,λob z=>by cases z;exact hno p rfl⟩ (λw e t=>absurd (by rw[hu]at e;cases e;exact t) hnt) (λps z=>hnt (by rw[hu]at z;cases z;trivial))) rr;by_cases hb:b=p
     ·subst hb;rw[Ac]at z ⊢; exact z
     rw[Aa hb]at z ⊢; exact S.sub _ _ z
    rcases w with⟨kk,e0,e1,e2,e3⟩|⟨kk,e0,e1,e2,e3⟩
    ·exact dgo e2 (I.freezeT e2) (λx z=>by cases z) (λz=>z) λF' hF sF=>by unfold Aq;exact⟨p,vs,rfl,r.same sF,.inl ⟨kk,e0,e1,hF,e3⟩⟩
    exact dgo e2 (I.freezeK e2) (λx z=>by cases z) (λz=>z) λF' hF sF=>by unfold Aq;exact⟨p,vs,rfl,r.same sF,.inr ⟨kk,e0,e1,hF,e3⟩⟩
  exact G.elim
 exact G.elim
def XR(t:Bool):PE X (.Dict [] [] pos) (tM W (WD t)):=by
 cases t with
 |true=>
  refine PE.of R8 λσ H Q ⟨F,ρ,μ,h,S,e,G⟩ p n=>?_;exact G F (ρ++ [p]) _ _ Bq.nxtPush (S.push n ⟨S.sub.free n,[],.nil,.inl ⟨[],rfl,rfl,Ac,rfl⟩⟩) S.atLast
 |false=>
  refine PE.of R9 λσ H Q ⟨F,ρ,μ,h,S,e,G⟩ p n=>?_;exact G F (ρ++ [p]) _ _ Bq.nxtPush (S.push n ⟨S.sub.free n,[],.nil,.inr ⟨[],rfl,rfl,Ac,rfl⟩⟩) S.atLast
theorem Lf{f:Nat}:∀{ns:List Nat}{ms:List MV}{vs:List V}{m:MV},IC f ns ms=some m->Ad W F ms vs->ns.length=vs.length->∃v,((ns.map W.nm).zip vs).lookup (W.nm f)=some v/\Aq W F m v
 |[],_,_,_,h,_,_=>by simp[IC]at h
 |n::ns,[],_,_,h,_,_=>by simp[IC]at h
 |n::ns,m'::ms,vs,m,h,r,hl=>by
  obtain⟨v,us,rfl,h1,h2⟩:=r.uncons;unfold IC at h;by_cases hn:n=f
  ·rw[if_pos hn]at h;cases h;subst hn;exact⟨v,by simp[List.lookup_cons],h1⟩
  rw[if_neg hn]at h;obtain⟨w',e1,e2⟩:=Lf h h2 (by simpa using hl);refine⟨w',?_,e2⟩;have:(W.nm f ==W.nm n)=false:=bS.mpr λz=>hn (W.inj _ _ z).symm;simp[List.lookup_cons,this,e1]
def fm(hK:X.K=W.K)(kt:Kt cs W){f:Nat}(he:PE X e (tM W fa))(hb:attributeBase e (W.nm f) X.env (eval e X.env)=eval e X.env):PE X (.Attribute e (W.nm f) pos) (tM W (MY (D5 cs f) fa)):=by
 intro pins s σ H Q I h;refine VP hb (AV (he pins s σ H _ I (Q0 h)) ?_);rintro u s1 ⟨x,H1,I1,rx,F,a,c,sub,va,hg,q⟩;cases a<;>simp only[D5]at hg<;>first|(cases hg;done)|skip
 obtain⟨i,hi,h2⟩:=aA.mp hg;rename_i c' ns ms;by_cases hc:i.exc=false/\f∈i.flds
 ·rw[if_pos hc]at h2;obtain⟨p,dx,vs,rfl,hp,hd,hl,r⟩:=va;obtain rfl:u=Value.ref p:=rx;obtain⟨v,e1,e2⟩:=Lf h2 r hl;exact MP I1 hp (by rw[hK];exact(kt.kc c' i hi hc.1).1) (by rw[hK];exact kt.kn c' i f hi hc.2 hc.1) e1 λu' s2 I2 ru=>⟨v,H1,I2,ru,q.same sub e2⟩
 rw[if_neg hc]at h2;cases h2
def ce(W:Wd)(f:En->MH->AI (Option Int)):TO:=λσ H Q=>ZJ W σ H λF ρ μ h=>Am W (λ_ _ a b=>a=b) F ρ (f μ h) Q
def PO.of{e:Option Expr}{t t':TO}(h:PO X e t)(i:∀σ H Q,t' σ H Q->t σ H Q):PO X e t':=λpins s σ H Q I q=>h pins s σ H Q I (i σ H Q q)
def du:PO X none (ce W λ_ h=>.ok none h):=PO.of U6 λσ H Q ⟨F,ρ,μ,h,S,e,G⟩=>G.ret (v:=none) S rfl
def Nm{i:Int}(h:T8 r=some i)(q:AC W F ρ r v):v=.int i:=by
 unfold T8 at h;split at h
 ·cases h;have q:=q;unfold Aq at q;exact q
 cases h
def F8(h:Tr r=some i)(q:AC W F ρ r v):v=.bl i:=by
 unfold Tr at h;split at h
 ·cases h;have q:=q;unfold Aq at q;exact q
 cases h
def df(h:PE X e (tM W fa)):PO X (some e) (ce W λμ h=>(fa μ h).bind λx h1=>AI.of ((T8 x).map some) h1):=by
 refine PO.of (U5 h) ?_;rintro σ H Q ⟨F,ρ,μ,h,S,e,G⟩;refine⟨F,ρ,μ,h,S,e,(Am.bind (rep:=AC W) G).imp ?_⟩;rintro x H1 ⟨F1,ρ1,r,h1,n1,S1,q1,G1⟩;obtain⟨rr,he,G3⟩:=G1.of;obtain⟨i,hi,rfl⟩:=aG.mp he;exact⟨i,Nm hi q1,G3.ret (v:=some i) S1 rfl⟩
def dm(hK:X.K=W.K){lo hi:Option Expr}(ha:PE X a (tM W fa))(hl:PO X lo (ce W fl))(hh:PO X hi (ce W fh)):PE X (.Subscript a (.Slice lo hi none p2) pos) (tM W (jA fa fl fh)):=by
 refine PE.of (R0 (sB hK) ha hl hh) ?_;rintro σ H Q ⟨F,ρ,μ,h,S,e,G⟩;refine⟨F,ρ,μ,h,S,e,(Am.bind (rep:=AC W) G).imp ?_⟩;rintro x H1 ⟨F1,ρ1,r,h1,n1,S1,q1,G1⟩;refine⟨F1,ρ1,μ,h1,S1,e.nxt n1,(Am.bind (rep:=λ_ _ a b=>a=b) G1).imp ?_⟩;rintro l H2 ⟨F2,ρ2,l',h2,n2,S2,rfl,G2⟩;refine⟨F2,ρ2,μ,h2,S2,(e.nxt n1).nxt n2,(Am.bind (rep:=λ_ _ a b=>a=b) G2).imp ?_⟩;rintro u H3 ⟨F3,ρ3,u',h3,n3,S3,rfl,G3⟩;obtain⟨rr,he,G4⟩:=G3.of;obtain⟨m,hm,he⟩:=aA.mp he;obtain⟨c,hc,rfl⟩:=aG.mp he;exact⟨F3,m,c,S3.sub,S3.view ((q1.nxt n2).nxt n3) hm,hc,G4.out S3⟩
end
section
variable {X:Cx}{W:Wd}{σ:St}{H F:Hp}{a b c e:Expr}{rest:List Expr}{pos:Pos}{fa fb fc:Ef}{ta tb:Tf}
abbrev Zr:Hp->List Addr->Bool->Bool->Prop:=λ_ _ a b=>a=b
def PW.of(h:PW X e t)(i:∀σ H Q,t' σ H Q->t σ H Q):PW X e t':=λwh pins s σ H Q I q=>h wh pins s σ H Q I (i σ H Q q)
noncomputable def Mo:Expr->Bool
 |.UnaryOp .Not _ _=>false
 |.BoolOp _ _ _=>false
 |.IfExp _ _ _ _=>false
 |.Compare _ _ _ _=>false
 |_=>true
def OM(h:Mo e=true):∀whole,PySem.isTrue e env whole=(do let v ←whole;standAt e.pos;holding [v] (truthy v)):=by
 intro whole;cases e with
 |UnaryOp op x p=>cases op<;>first|(cases h;done)|(unfold PySem.isTrue;rfl)
 |BoolOp _ _ _=>cases h
 |IfExp _ _ _ _=>cases h
 |Compare _ _ _ _=>cases h
 |_=>unfold PySem.isTrue;rfl
def Ad.emp(r:Ad W F l vs):l.isEmpty=vs.isEmpty:=by
 have:=r.len;cases l<;>cases vs<;>simp_all
def Qy(hK:X.K=W.K)(sub:Ak F H)(va:B1 W F H m x)(h:Dv m=some k):ZF X.K x H k:=by
 cases m<;>simp only[Dv]at h<;>first|(cases h;done)|skip
 ·cases va;cases h;rfl
 ·cases va;cases h;rfl
 ·cases va;cases h;rfl
 ·obtain⟨hz,rfl⟩:=Ao h;cases va;exact⟨hz,rfl⟩
 ·obtain⟨p,vs,rfl,hp,r⟩:=va;cases h;have e:=r.emp;exact .inr (.inl ⟨vs,.inl (.inl (sub _ _ hp)),by rw[e]⟩)
 obtain⟨p,vs,rfl,hp,r⟩:=va;cases h;have e:=r.emp;exact .inl ⟨vs,.inl (.inl hp),by rw[e]⟩
def bi(hK:X.K=W.K)(ha:PE X e (tM W fa))(hp:Mo e=true):PT X e (Fi W (az fa)):=by
 refine PT.of (QL ha (OM hp)) ?_;rintro σ H Q ⟨F,ρ,μ,h,S,e,G⟩;refine⟨F,ρ,μ,h,S,e,(Am.bind (rep:=AC W) G).imp ?_⟩;rintro x H1 ⟨F1,ρ1,r,h1,n1,S1,q1,G1⟩;obtain⟨k,he,G3⟩:=G1.of;obtain⟨m,hm,he⟩:=aA.mp he;exact⟨k,Qy hK S1.sub (S1.view q1 hm) he,G3.ret (v:=k) S1 rfl⟩
def Kw(i:∀Q,tM W f σ H Q->t σ H Q)(h:Fi W (tbl f) σ H Q):Q2 t σ H Q:=by
 obtain⟨F,ρ,μ,h,S,e,G⟩:=h;refine i _ ⟨F,ρ,μ,h,S,e,(Am.bind (rep:=AC W) G).imp ?_⟩;rintro x H1 ⟨F1,ρ1,r,h1,n1,S1,q1,G1⟩;obtain⟨k,he,G3⟩:=G1.of;exact⟨k,F8 he q1,G3.ret (v:=k) S1 rfl⟩
def bq(hK:X.K=W.K)(hu:X.A.units+70<cLine)(o:Kg)(ha:PE X a (tM W fa))(hb:PE X b (tM W fb))(hm:behindInMarks o.op b=false):PT X (.Compare a [o.op] [b] pos) (Fi W (tbl (L9 (λx y=>(Bh o x y).map .bl) fa fb))):=
 PT.of (Uz (IS hK hu o) ha hb hm) λσ H Q t=>Kw (λQ t=>Jj t) t
def LF(t:tM W (Ow o o' fa fb fc) σ H Q):Md (Qd W λx y=>(Bh o x y).map .bl) (Qd W λx y=>(Bh o' x y).map .bl) (tM W fa) (tM W fb) (tM W fc) σ H Q:=by
 obtain⟨F,ρ,μ,h,S,e,G⟩:=t;refine⟨F,ρ,μ,h,S,e,(Am.bind (rep:=AC W) G).imp ?_⟩;rintro x H1 ⟨F1,ρ1,r,h1,n1,S1,q1,G1⟩;refine⟨F1,ρ1,μ,h1,S1,e.nxt n1,(Am.bind (rep:=AC W) G1).imp ?_⟩;rintro y H2 ⟨F2,ρ2,r2,h2,n2,S2,q2,G2⟩;split at G2
 ·rename_i hk;obtain⟨a,ha,hk⟩:=aA.mp hk;obtain⟨b,hb,hk⟩:=aA.mp hk;refine⟨F2,a,b,.bl true,S2.sub,S2.view (q1.nxt n2) ha,S2.view q2 hb,by show Option.map MV.bl (Bh o a b)=_;rw[hk];rfl,λF' H' v g r=>?_⟩;unfold Aq at r;subst r;refine⟨true,rfl,YV ?_⟩;refine⟨F',ρ2,μ,h2,S2.grow g,((e.nxt n1).nxt n2).nxt g.nxt,(Am.bind (rep:=AC W) (G2.nxt g.nxt)).imp ?_⟩;rintro z H3 ⟨F3,ρ3,r3,h3,n3,S3,q3,G3⟩;obtain⟨rr,he,G4⟩:=G3.of;obtain⟨a',ha',he⟩:=aA.mp he;obtain⟨b',hb',he⟩:=aA.mp he;obtain⟨k,hk',rfl⟩:=aG.mp he;exact⟨F3,a',b',.bl k,S3.sub,S3.view ((q2.nxt g.nxt).nxt n3) ha',S3.view q3 hb',by show Option.map MV.bl (Bh o' a' b')=_;rw[hk'];rfl,G4.out S3⟩
 ·rename_i hk;obtain⟨a,ha,hk⟩:=aA.mp hk;obtain⟨b,hb,hk⟩:=aA.mp hk;refine⟨F2,a,b,.bl false,S2.sub,S2.view (q1.nxt n2) ha,S2.view q2 hb,by show Option.map MV.bl (Bh o a b)=_;rw[hk];rfl,λF' H' v g r=>?_⟩;unfold Aq at r;subst r;exact⟨false,rfl,YW ((G2.out S2) F' H' _ g (by unfold Aq;rfl))⟩
 exact G2.elim
def XT(hK:X.K=W.K)(hu:X.A.units+70<cLine)(o o':Kg)(ha:PE X a (tM W fa))(hb:PE X b (tM W fb))(hc:PE X c (tM W fc))(hm:lastMarks [o.op,o'.op] [b,c]=false):PE X (.Compare a [o.op,o'.op] [b,c] pos) (tM W (Ow o o' fa fb fc)):=
 PE.of (RA (IS hK hu o) (IS hK hu o') ha hb hc hm) λσ H Q t=>LF t
def Xg(hK:X.K=W.K)(hu:X.A.units+70<cLine)(o o':Kg)(ha:PE X a (tM W fa))(hb:PE X b (tM W fb))(hc:PE X c (tM W fc))(hm:lastMarks [o.op,o'.op] [b,c]=false):PT X (.Compare a [o.op,o'.op] [b,c] pos) (Fi W (tbl (Ow o o' fa fb fc))):=
 PT.of (QM (IS hK hu o) (IS hK hu o') ha hb hc hm) λσ H Q t=>Kw (λQ t=>LF t) t
def bo(ha:PT X a (Fi W ta)):PT X (.UnaryOp .Not a pos) (Fi W (ba ta)):=by
 refine PT.of (Yd ha) ?_;rintro σ H Q ⟨F,ρ,μ,h,S,e,G⟩;refine⟨F,ρ,μ,h,S,e,(Am.bind (rep:=Zr) G).imp ?_⟩;rintro x H1 ⟨F1,ρ1,r,h1,n1,S1,rfl,G1⟩;exact G1.ret S1 rfl
def Xh(ha:PT X a (Fi W ta)):PW X (.BoolOp .And [a] pos) (Fi W ta):=Uy ha
def bn(ha:PT X a (Fi W ta)):PW X (.BoolOp .Or [a] pos) (Fi W ta):=Yb ha
def br(ha:PT X a (Fi W ta))(hb:PW X (.BoolOp .And (b::rest) pos) (Fi W tb)):PW X (.BoolOp .And (a::b::rest) pos) (Fi W (bg ta tb)):=by
 refine PW.of (Yc ha hb) ?_;rintro σ H Q ⟨F,ρ,μ,h,S,e,G⟩;refine⟨F,ρ,μ,h,S,e,(Am.bind (rep:=Zr) G).imp ?_⟩;rintro x H1 ⟨F1,ρ1,r,h1,n1,S1,rfl,G1⟩;by_cases hx:r=true
 ·rw[if_pos hx]at G1 ⊢;exact⟨F1,ρ1,μ,h1,S1,e.nxt n1,G1⟩
 rw[if_neg hx]at G1 ⊢;exact G1.ret S1 rfl
def nj(ha:PT X a (Fi W ta))(hb:PW X (.BoolOp .Or (b::rest) pos) (Fi W tb)):PW X (.BoolOp .Or (a::b::rest) pos) (Fi W (qv ta tb)):=by
 refine PW.of (gn ha hb) ?_;rintro σ H Q ⟨F,ρ,μ,h,S,e,G⟩;refine⟨F,ρ,μ,h,S,e,(Am.bind (rep:=Zr) G).imp ?_⟩;rintro x H1 ⟨F1,ρ1,r,h1,n1,S1,rfl,G1⟩;by_cases hx:r=true
 ·rw[if_pos hx]at G1 ⊢;exact G1.ret S1 rfl
 rw[if_neg hx]at G1 ⊢;exact⟨F1,ρ1,μ,h1,S1,e.nxt n1,G1⟩
def dr(ha:PE X a (tM W fa)):PE X (.UnaryOp .Not a pos) (tM W (jC fa)):=by
 refine PE.of (Yp ha) ?_;rintro σ H Q ⟨F,ρ,μ,h,S,e,G⟩;refine⟨F,ρ,μ,h,S,e,(Am.bind (rep:=AC W) G).imp ?_⟩;rintro x H1 ⟨F1,ρ1,r,h1,n1,S1,q1,G1⟩;obtain⟨rr,he,G3⟩:=G1.of;obtain⟨k,hk,rfl⟩:=aG.mp he;exact⟨k,F8 hk q1,(G3.out S1).bl S1.sub⟩
def gc(ha:PE X a (tM W fa))(hb:PE X (.BoolOp .And (b::rest) pos) (tM W fb)):PE X (.BoolOp .And (a::b::rest) pos) (tM W (jI fa fb)):=by
 refine PE.of (Yt ha hb) ?_;rintro σ H Q ⟨F,ρ,μ,h,S,e,G⟩;refine⟨F,ρ,μ,h,S,e,(Am.bind (rep:=AC W) G).imp ?_⟩;rintro x H1 ⟨F1,ρ1,r,h1,n1,S1,q1,G1⟩;split at G1
 ·rename_i hk;exact⟨true,F8 hk q1,YV ⟨F1,ρ1,μ,h1,S1,e.nxt n1,G1⟩⟩
 ·rename_i hk;exact⟨false,F8 hk q1,YW ((G1.out S1).bl S1.sub)⟩
 exact G1.elim
def nJ(ha:PE X a (tM W fa))(hb:PE X (.BoolOp .Or (b::rest) pos) (tM W fb)):PE X (.BoolOp .Or (a::b::rest) pos) (tM W (rN fa fb)):=by
 refine PE.of (gy ha hb) ?_;rintro σ H Q ⟨F,ρ,μ,h,S,e,G⟩;refine⟨F,ρ,μ,h,S,e,(Am.bind (rep:=AC W) G).imp ?_⟩;rintro x H1 ⟨F1,ρ1,r,h1,n1,S1,q1,G1⟩;split at G1
 ·rename_i hk;exact⟨false,F8 hk q1,YW ⟨F1,ρ1,μ,h1,S1,e.nxt n1,G1⟩⟩
 ·rename_i hk;exact⟨true,F8 hk q1,YV ((G1.out S1).bl S1.sub)⟩
 exact G1.elim
def fg(hc:PT X c (Fi W ta))(ha:PE X a (tM W fa))(hb:PE X b (tM W fb)):PE X (.IfExp c a b pos) (tM W (jF ta fa fb)):=by
 refine PE.of (R5 hc ha hb) ?_;rintro σ H Q ⟨F,ρ,μ,h,S,e,G⟩;refine⟨F,ρ,μ,h,S,e,(Am.bind (rep:=Zr) G).imp ?_⟩;rintro x H1 ⟨F1,ρ1,r,h1,n1,S1,rfl,G1⟩;by_cases hx:r=true
 ·rw[if_pos hx]at G1 ⊢;exact⟨F1,ρ1,μ,h1,S1,e.nxt n1,G1⟩
 rw[if_neg hx]at G1 ⊢;exact⟨F1,ρ1,μ,h1,S1,e.nxt n1,G1⟩
def sZ(hK:X.K=W.K)(kt:Kt cs W)(hc:X.calm=true){x:Str}(o:Bf)(hx:x=o.nm)(hg:Gl X x)(hm:X.mg x=none)(ha:PA X (e::es) (HG W fs))
 (he:starEach (e::es) X.env=(false,eval e X.env)::starEach es X.env)(hpl:(backTo pos (starEach es X.env)).any (·.1)=false):PE X (.Call (.Name x p) (e::es) [] pos) (tM W (Zz (o.fn cs) fs)):=by
 subst hx;cases o with
 |len=>exact PE.of (D2 (oz hK) hg hm boot_len ha (by decide) (by decide) he hpl) λσ H Q t=>Dw t
 |isi=>exact PE.of (D2 (sU hK kt) hg hm boot_isinstance ha (by decide) (by decide) he hpl) λσ H Q t=>Dw t
 |all=>exact PE.of (D2 (pK hc) hg hm (by decide +kernel) ha (by decide) (by decide) he hpl) λσ H Q t=>Dw t
 |max=>exact PE.of (D2 (ou hc) hg hm boot_max ha (by decide) (by decide) he hpl) λσ H Q t=>Dw t
 |min=>exact PE.of (D2 (oq hc) hg hm boot_min ha (by decide) (by decide) he hpl) λσ H Q t=>Dw t
 |int=>exact PE.of (CA o6 hg hm (by decide +kernel) ha (by decide) (by decide) he hpl) λσ H Q t=>Dw t
 |tup=>exact PE.of (CA ni hg hm (by decide +kernel) ha (by decide) (by decide) he hpl) λσ H Q t=>Dw t
 |lst=>exact PE.of (CA (lstM hK hc) hg hm (by decide +kernel) ha (by decide) (by decide) he hpl) λσ H Q t=>Dw t
end
section
theorem NR:∀{l:List MV}{ks:List (List Key)}{vs:List V},Ln l=some ks->Ad W F l vs->∃xs:List (Addr×List Key),vs=xs.map (λx=>V.ref x.1)/\xs.map (·.2)=ks/\∀x∈xs,F x.1=some (.tup (x.2.map kV))
 |[],ks,vs,h,r=>by simp only[Ln]at h;cases h;rw[r.nil_iff];exact⟨[],rfl,rfl,by simp⟩
 |m::l,ks,vs,h,r=>by
  obtain⟨v,us,rfl,h1,h2⟩:=r.uncons;cases m<;>simp only[Ln]at h<;>first|(cases h;done)|skip
  obtain⟨k,hk,h⟩:=aA.mp h;obtain⟨ks',hks,rfl⟩:=aG.mp h;obtain⟨xs,rfl,e2,e3⟩:=NR hks h2;unfold Aq at h1;obtain⟨p,ws,rfl,hp,rr⟩:=h1;refine⟨(p,k)::xs,rfl,by simp[e2],λx hx=>?_⟩;rcases aU.mp hx with rfl|hx
  ·rw[←DR hk rr];exact hp
  exact e3 x hx
def QE(hK:X.K=W.K)(hh:X.A.handled=none)(hu:X.A.units+64<cLine)(g1:Gl X "len")(m1:X.mg "len"=none)(g2:Gl X "set")(m2:X.mg "set"=none)(he:PE X e (tM W fa))
 (h1:starEach [.Call (.Name "set" p2) [e] [] p3] X.env=[(false,eval (.Call (.Name "set" p2) [e] [] p3) X.env)])(h2:starEach [e] X.env=[(false,eval e X.env)]) :
 PE X (.Call (.Name "len" p1) [.Call (.Name "set" p2) [e] [] p3] [] pos) (tM W (MY DP fa)):=by
 refine PE.of (R4 hh hu g1 m1 g2 m2 he h1 h2) λσ H Q t=>?_;obtain⟨F,ρ,μ,h,S,ee,G⟩:=t;refine⟨F,ρ,μ,h,S,ee,(Am.bind (rep:=AC W) G).imp ?_⟩;rintro x H1 ⟨F1,ρ1,r,h1,n1,S1,q1,G1⟩;obtain⟨rr,he,G3⟩:=G1.of;obtain⟨m,hm,he⟩:=aA.mp he;obtain⟨c,hc,rfl⟩:=aG.mp he;have va:=S1.view q1 hm;cases m<;>simp only[DP]at hc<;>first|(cases hc;done)|skip
 obtain⟨ks,hk,hc⟩:=aA.mp hc;obtain⟨⟨hl,nd⟩,rfl⟩:=Ao hc;obtain⟨p,vs,rfl,hp,r⟩:=va;obtain⟨xs,rfl,e2,e3⟩:=NR hk r;have el:xs.length=ks.length:=by rw[←e2];simp
 refine⟨p,xs,rfl,.inl (.inl (S1.sub _ _ hp)),by lia,by rw[e2];exact nd,λx hx=>S1.sub _ _ (e3 x hx),?_⟩;rw[el];exact(G3.out S1).int S1.sub
theorem Jl:∀{l:List MV}{zs:List Str}{vs:List V},Ek l=some zs->Ad W F l vs->vs=zs.map V.str
 |[],zs,vs,h,r=>by simp only[Ek]at h;cases h;rw[r.nil_iff];rfl
 |m::l,zs,vs,h,r=>by
  obtain⟨v,us,rfl,h1,h2⟩:=r.uncons;cases m<;>simp only[Ek]at h<;>first|(cases h;done)|skip
  obtain⟨zs',hz,rfl⟩:=aG.mp h;unfold Aq at h1;subst h1;rw[Jl hz h2];rfl
theorem Dx:∀{l:List MV}{zs:List Str},Ek l=some zs->l=zs.map MV.str
 |[],zs,h=>by simp only[Ek]at h;cases h;rfl
 |m::l,zs,h=>by
  cases m<;>simp only[Ek]at h<;>first|(cases h;done)|skip
  obtain⟨zs',hz,rfl⟩:=aG.mp h;rw[Dx hz];rfl
theorem Sy{z:Str}:∀{zs:List Str}{j:Nat},idxOf (.str z) (zs.map MV.str)=some j->zs[j]?=some z/\∀i,i<j->zs[i]?≠some z
 |[],_,h=>by simp[idxOf]at h
 |y::zs,j,h=>by
  rw[aK]at h;unfold idxOf at h;by_cases hy:Hs (.str y) (.str z)=true
  ·rw[if_pos hy]at h;cases h;have:y=z:=by simpa[Hs]using hy
   subst this;exact⟨rfl,λi hi=>by lia⟩
  rw[if_neg hy]at h;obtain⟨k,hk,rfl⟩:=aG.mp h;obtain⟨h1,h2⟩:=Sy hk;refine⟨by simpa using h1,λi hi=>?_⟩;cases i with
  |zero=>intro z';simp at z';subst z';exact hy (by simp[Hs])
  |succ i=>have:=h2 i (by lia);simpa using this
noncomputable def Bm.ty:Bm->String
 |.index=> "list" | .join=> "str" | .bits=> "int" | .get=> "dict"
noncomputable def Bm.id:Bm->String
 |.index=> "list.index" | .join=> "str.join" | .bits=> "int.bit_length" | .get=> "dict.get"
noncomputable def Bm.nm:Bm->Str
 |.index=> "index" | .join=> "join" | .bits=> "bit_length" | .get=> "get"
def t9(s:Shared)(v:Value)(T:String):Prop:=s.TypeIs v T/\∀a,v=.ref a->∃ob,s.heap.get? a=some ob/\ob.dict=none
def Tk{b:Bm}(hK:X.K=W.K)(I:Ag X pins σ H s)(rx:Au x v)(va:B1 W F H m x)(h:VM b m=true):t9 s v b.ty:=by
 cases b
 ·obtain⟨l,hl⟩:=bV.mp h;obtain rfl:=Go hl;obtain⟨p,vs,rfl,hp,r⟩:=va;exact G9 I rx (.inl ⟨rfl,vs,.inl (.inl hp)⟩)
 ·obtain⟨l,hl⟩:=bV.mp h;obtain rfl:=Gg hl;cases va;exact G9 I rx rfl
 ·obtain⟨l,hl⟩:=bV.mp h;obtain rfl:=Cw hl;cases va;exact G9 I rx rfl
 cases m<;>first|(exact absurd h aB)|skip
 obtain⟨p,vs,rfl,r,q⟩:=va;cases rx;rcases q with⟨kk,_,_,e,_⟩|⟨kk,_,_,e,_⟩
 ·obtain⟨_,_,xs,_,dd⟩:=IN I.hok e;obtain⟨ob,_,_,h1,h2,_⟩:=id dd;exact⟨dd.typeIs,λa e=>by cases e;exact⟨ob,h1,h2.2.1⟩⟩
 obtain⟨_,_,xs,_,dd⟩:=FS I.hok e;obtain⟨ob,_,_,h1,h2,_⟩:=id dd;exact⟨dd.typeIs,λa e=>by cases e;exact⟨ob,h1,h2.2.1⟩⟩
def q9(W:Wd)(b:Bm):V->List V->Hp->VK->Prop:=λx xs H Q=>E4 λF m as c=>A5 (Ak F H) (B1 W F H m x) (FX W F H as xs) (Qj b m as=some c) (Ih W F H c Q)
def qU(hK:X.K=W.K)(hu:X.A.units+70<cLine)(b:Bm):ag X b.id (q9 W b):=by
 intro pins s σ H x xs v us Q I rx rv ⟨F,m,as,c,sub,va,vs,hg,q⟩;cases b
 ·obtain⟨l,h1,hg⟩:=aA.mp hg;obtain⟨x,h2,hg⟩:=aA.mp hg;obtain⟨b,h2,h3⟩:=aA.mp h2;obtain rfl:=Go h1;obtain rfl:=Gn h2;obtain rfl:=Gg h3;obtain⟨y,rfl,vb⟩:=vs.un1;cases vb;obtain⟨zs,hz,hg⟩:=aA.mp hg;obtain⟨j,hj,rfl⟩:=aG.mp hg;obtain⟨p,ws,rfl,hp,r⟩:=va;obtain rfl:=Jl hz r;obtain rfl:=Dx hz;obtain⟨h1,h2⟩:=Sy hj;exact RQ pins s σ H _ _ v us Q I rx rv ⟨p,zs,_,j,rfl,rfl,.inl (.inl hp),h1,h2,q.int sub⟩
 ·obtain⟨l,h1,hg⟩:=aA.mp hg;obtain⟨x,h2,hg⟩:=aA.mp hg;obtain⟨b,h2,h3⟩:=aA.mp h2;obtain rfl:=Gg h1;obtain rfl:=Gn h2;obtain rfl:=Go h3;obtain⟨y,rfl,vb⟩:=vs.un1;cases va;obtain⟨zs,hz,hg⟩:=aA.mp hg;obtain⟨hl,rfl⟩:=Ao hg;obtain⟨p,ws,rfl,hp,r⟩:=vb;obtain rfl:=Jl hz r;exact Va pins s σ H _ _ v us Q I rx rv ⟨_,p,zs,rfl,rfl,.inl (.inl hp),hl,q.str sub⟩
 ·obtain⟨l,h1,hg⟩:=aA.mp hg;obtain rfl:=Cw h1;obtain⟨h2,rfl⟩:=Ao hg;obtain rfl:=dA.mp h2;cases vs;cases va;exact Pk pins s σ H _ _ v us Q I rx rv ⟨_,rfl,rfl,q.int sub⟩
 obtain⟨d,h1,hg⟩:=aA.mp hg;obtain⟨k,h2,hg⟩:=aA.mp hg;obtain rfl:=V7 h1;obtain rfl:=Gn h2;obtain⟨y,rfl,vb⟩:=vs.un1;obtain⟨ov,ho,rfl⟩:=aG.mp hg;obtain⟨p,ow,rfl,g,r⟩:=Oj sub va vb ho;cases rx;obtain⟨u,rfl,ru⟩:=BR rv;have fin:∀wv s',L2.Ag X pins σ H s'->DG ow wv->EP X pins σ Q (wv.getD .none) s':=λwv s' I' rr=>by
  cases ow with
  |none=>
   cases wv with
   |some _=>exact rr.elim
   |none=>
    cases ov with
    |some _=>exact r.elim
    |none=>exact⟨.non,H,I',rfl,q.non sub⟩
  |some w'=>
   cases wv with
   |none=>exact rr.elim
   |some u'=>
    cases ov with
    |none=>exact r.elim
    |some m'=>exact⟨w',H,I',rr,q.same sub r⟩
 have g':=g;rcases g with⟨kvs,k',e,ey,l⟩|⟨kvs,k',b',e,ey,eb,l⟩
 ·subst ey;obtain⟨z,hd,vs',rel,dd⟩:=FS I.hok e;refine call_meetsIn PySem.F.slot_dict_get dd.typeIs PySem.F.entry_dict_get (PySem.F.args_dict_get_2 _ _) (meets_dict_get (Ai X.prog X.w) p (IH ru) hd) ⟨_,dd.mapOf,?_⟩;exact fin _ _ (I.tok _) (by rw[l];exact rel.val k')
 obtain⟨p',ws,z,_,q'⟩:=va;cases z;rcases q' with⟨kk,z,_⟩|⟨kk,_,_,e',_⟩
 ·cases z
 rcases e with e|⟨_,e⟩<;>rcases e' with e'|⟨_,e'⟩<;>rw[e]at e'<;>cases e'
structure ku(T:String)(name:Str)(id:String):Prop where
 pa:PlainAttrs T
 slot:Slot T name id
 hty:typeOf (.builtin id)=pure (.type "method_descriptor")
def jN(b:Bm):ku b.ty b.nm b.id:=by
 cases b with
 |index=>exact⟨PySem.F.plainAttrs_list,PySem.F.slot_list_index,PySem.F.type_list_index⟩
 |join=>exact⟨PySem.F.plainAttrs_str,PySem.F.slot_str_join,PySem.F.type_str_join⟩
 |bits=>exact⟨PySem.F.plainAttrs_int,PySem.F.slot_int_bit_length,PySem.F.type_int_bit_length⟩
 |get=>exact⟨PySem.F.plainAttrs_dict,PySem.F.slot_dict_get,PySem.F.type_dict_get⟩
def LJ{b:Bm}{μ:En}{h:MH}{ρ:List Addr}{Q:VK}(S:Bq W F H ρ h)(ee:BQ W F ρ μ σ)(G:GE W F ρ (VI b fa fs μ h) Q):GE W F ρ (fa μ h) λx H1=>∃F1 m,Ak F1 H1/\B1 W F1 H1 m x/\VM b m=true/\HG W fs σ H1 λxs H2=>q9 W b x xs H2 Q:=by
 refine(Am.bind (rep:=AC W) G).imp ?_;rintro x H1 ⟨F1,ρ1,r,h1,n1,S1,q1,G1⟩;split at G1
 ·rename_i hk;obtain⟨m,hm,hb⟩:=aG.mp hk;refine⟨F1,m,S1.sub,S1.view q1 hm,hb,F1,ρ1,μ,h1,S1,ee.nxt n1,(Am.bind (rep:=AF W) G1).imp ?_⟩;rintro xs H2 ⟨F2,ρ2,rs,h2,n2,S2,q2,G2⟩;obtain⟨rr,he,G3⟩:=G2.of;obtain⟨m2,hm2,he⟩:=aA.mp he;obtain⟨as,ha,he⟩:=aA.mp he;obtain⟨c,hc,rfl⟩:=aG.mp he;exact⟨F2,m2,as,c,S2.sub,S2.view (q1.nxt n2) hm2,Da S2 ha q2,hc,G3.out S2⟩
 exact G1.elim
def ga(hK:X.K=W.K)(hu:X.A.units+70<cLine)(b:Bm)(ho:PE X o (tM W fa))(ha:PA X (e::es) (HG W fs))
 (hbase:attributeBase o b.nm X.env (eval o X.env)=eval o X.env)
 (hfew:((backTo pos (starEach (e::es) X.env)).all (λx=>!x.1)&&(backToKw pos (keywordEach [] X.env)).all (λx=>x.1.isSome)
   && decide ((e::es).length+([]:List Keyword).length+(if ([]:List Keyword).isEmpty then 0 else 1)<30))=true)
 (hline:(apos.endLine ==pos.line)=true)(hs:starEach (e::es) X.env=(false,eval e X.env)::starEach es X.env)(hplain:(backTo pos (starEach es X.env)).any (·.1)=false) :
 PE X (.Call (.Attribute o b.nm apos) (e::es) [] pos) (tM W (VI b fa fs)):=by
 intro pins s σ H Q I ⟨F,ρ,μ,h,S,ee,G⟩;obtain⟨pa,slot,hty⟩:=jN b;refine wpAny_Call_method_late hbase hfew hline rfl (AV (ho pins s σ H _ I ⟨F,ρ,μ,h,S,ee,LJ S ee G⟩) ?_);rintro v s1 ⟨x,H1,I1,r1,F1,m,sub1,va,hb,q1⟩;obtain⟨h1,h2⟩:=Tk hK I1 r1 va hb;refine⟨b.ty,b.id,pa,slot,hty,h1,h2,?_⟩;have hA:=ha pos pins s1 σ H1 _ I1 q1;rw[hs]at hA ⊢;refine eZ (by show(false||(backTo pos (starEach es X.env)).any (·.1))=false;rw[hplain]<;>rfl) (gK ?_);exact AV hA λus s2 ⟨vs,H2,I2,r2,q2⟩=>qU hK hu b pins s2 σ H2 x vs v us Q I2 r1 r2 q2
def XX(hK:X.K=W.K)(hu:X.A.units+70<cLine)(b:Bm)(ho:PE X o (tM W fa))(ha:PA X [] (HG W fs))
 (hbase:attributeBase o b.nm X.env (eval o X.env)=eval o X.env)(hline:(apos.endLine ==pos.line)=true)(hfs:fs=λ_ h=>.ok [] h) :
 PE X (.Call (.Attribute o b.nm apos) [] [] pos) (tM W (VI b fa fs)):=by
 subst hfs;intro pins s σ H Q I ⟨F,ρ,μ,h,S,ee,G⟩;obtain⟨pa,slot,hty⟩:=jN b;refine wpAny_Call_method0_late hbase hline (AV (ho pins s σ H _ I ⟨F,ρ,μ,h,S,ee,LJ S ee G⟩) ?_);rintro v s1 ⟨x,H1,I1,r1,F1,m,sub1,va,hb,F2,ρ2,μ2,h2,S2,ee2,G2⟩;obtain⟨h1,h2'⟩:=Tk hK I1 r1 va hb;exact⟨b.ty,b.id,pa,slot,hty,h1,h2',eZ rfl (PySem.evalArgs_none (qU hK hu b pins s1 σ H1 x [] v [] Q I1 r1 .nil (G2.ret S2 .nil)))⟩
noncomputable def Mm.id:Mm->String
 |.app=> "list.append" | .ext=> "list.extend" | .clr=> "list.clear"
noncomputable def Mm.nm:Mm->Str
 |.app=> "append" | .ext=> "extend" | .clr=> "clear"
def jb(b:Mm):ku "list" b.nm b.id:=by
 cases b with
 |app=>exact⟨PySem.F.plainAttrs_list,PySem.F.slot_list_append,PySem.F.type_list_append⟩
 |ext=>exact⟨PySem.F.plainAttrs_list,PySem.F.slot_list_extend,PySem.F.type_list_extend⟩
 |clr=>exact⟨PySem.F.plainAttrs_list,PySem.F.slot_list_clear,PySem.F.type_list_clear⟩
def qy(W:Wd)(b:Mm):V->List V->Hp->VK->Prop:=λx xs H Q=>E6 λF p vs l as l'=>A8 (x=.ref p) (Ak F H) (F p=none) (H p=some (.lst vs)) (Ad W F l vs) (Ad W F as xs) (T6 b l as=some l') (∀vs',Ad W F l' vs'->Q .non (upd H p (.lst vs')))
def qX(b:Mm):ag X b.id (qy W b):=by
 intro pins s σ H x xs v us Q I rx rv h;obtain⟨F,p,vs,l,as,l',rfl,sub,nf,hp,r,ra,hg,q⟩:=h;unfold T6 at hg;split at hg
 ·obtain⟨hl,rfl⟩:=Ao hg;obtain⟨y,ys,rfl,r1,r2⟩:=ra.uncons;obtain rfl:=r2.nil_iff;exact Pl pins s σ H _ _ v us Q I rx rv ⟨p,vs,y,rfl,rfl,hp,by rw[←r.len];exact hl,q _ (r.app (.cons r1 .nil))⟩
 ·obtain⟨hl,rfl⟩:=Ao hg;obtain⟨y,ys,rfl,r1,r2⟩:=ra.uncons;obtain rfl:=r2.nil_iff;unfold Aq at r1;obtain⟨p2,vs2,rfl,hp2,rr⟩:=r1;exact Pj pins s σ H _ _ v us Q I rx rv ⟨p,p2,vs,vs2,rfl,rfl,hp,sub _ _ hp2,by rw[←r.len,←rr.len];exact hl,q _ (r.app rr)⟩
 ·obtain rfl:=ra.nil_iff;cases hg;exact RS pins s σ H _ _ v us Q I rx rv ⟨p,vs,rfl,rfl,hp,q _ .nil⟩
 cases hg
def Bq.wrote{n:Nat}(S:Bq W F H ρ h)(hp:ρ[n]?=some p)(nf:F p=none)(hH:H p=some (.lst vs))(r:Ad W F l' vs'):Bq W F (upd H p (.lst vs')) ρ (h.set n (.lst l')):=by
 refine⟨λb u z=>?_,S.nd,by simp[S.len],λk q m' h1 h2=>?_,S.tb.upd λu e=>by rw[hH]at e;cases e;exact id,S.tf⟩
 ·rw[Aa (λe=>by subst e;rw[nf]at z;cases z)];exact S.sub _ _ z
 rcases MQ h2 with⟨rfl,rfl⟩|⟨hk,h2⟩
 ·rw[hp]at h1;cases h1;exact⟨nf,vs',Ac,r⟩
 have hq:q≠p:=λz=>hk (Nodup.inj S.nd (by rw[←z];exact h1) hp);exact(S.obj k q m' h1 h2).apart hq (Ak.refl _) (λb _=>.inl rfl) (λb o hb z=>by rw[Aa hb];exact z) λx z=>by rw[hH]at z;cases z
def KZ{b:Mm}{μ:En}{h:MH}{ρ:List Addr}{Q:VK}(S:Bq W F H ρ h)(ee:BQ W F ρ μ σ)(G:GE W F ρ (VD b fa fs μ h) Q):GE W F ρ (fa μ h) λx H1=>(∃p vs,x=.ref p/\H1 p=some (.lst vs))/\HG W fs σ H1 λxs H2=>qy W b x xs H2 Q:=by
 refine(Am.bind (rep:=AC W) G).imp ?_;rintro x H1 ⟨F1,ρ1,r,h1,n1,S1,q1,G1⟩;cases r with
 |v m=>exact G1.elim
 |l _ _=>exact G1.elim
 |r n=>
  by_cases hk:W2 h1[n]?=true
  ·have G1:Am W (AC W) F1 ρ1 (if W2 h1[n]?=true then(fs μ h1).bind λrs h2=>(match h2[n]?,vals rs with
    |some (.lst l),some as=>(match T6 b l as with
     |some l'=>.ok (.v .non) (h2.set n (.lst l'))
     |none=>.no)
    |_,_=>.no) else .no) Q:=G1
   rw[if_pos hk]at G1;obtain⟨p,rfl,hp⟩:=q1;unfold W2 at hk;split at hk
   ·rename_i l0 hl0;obtain⟨nf0,vs0,hH0,r0⟩:=S1.obj n p _ hp hl0;refine⟨⟨p,vs0,rfl,hH0⟩,F1,ρ1,μ,h1,S1,ee.nxt n1,(Am.bind (rep:=AF W) G1).imp ?_⟩;rintro xs H2 ⟨F2,ρ2,rs,h2,n2,S2,q2,G2⟩;have hp2:=Js n2.p hp;split at G2
    ·rename_i l as hl ha;obtain⟨nf,vs,hH,rl⟩:=S2.obj n p _ hp2 hl;split at G2
     ·rename_i l' hg;exact⟨F2,p,vs,l,as,l',rfl,S2.sub,nf,hH,rl,C7 ha q2,hg,λvs' r'=>G2 F2 ρ2 _ .non .refl (S2.wrote hp2 nf hH r') (by show Aq W F2 .non .non;unfold Aq;rfl)⟩
     exact G2.elim
    exact G2.elim
   cases hk
  have G1:Am W (AC W) F1 ρ1 (if W2 h1[n]?=true then(fs μ h1).bind λrs h2=>(match h2[n]?,vals rs with
   |some (.lst l),some as=>(match T6 b l as with
    |some l'=>.ok (.v .non) (h2.set n (.lst l'))
    |none=>.no)
   |_,_=>.no) else .no) Q:=G1
  rw[if_neg hk]at G1;exact G1.elim
def dw(b:Mm)(ho:PE X o (tM W fa))(ha:PA X (e::es) (HG W fs))
 (hbase:attributeBase o b.nm X.env (eval o X.env)=eval o X.env)
 (hfew:((backTo pos (starEach (e::es) X.env)).all (λx=>!x.1)&&(backToKw pos (keywordEach [] X.env)).all (λx=>x.1.isSome)
   && decide ((e::es).length+([]:List Keyword).length+(if ([]:List Keyword).isEmpty then 0 else 1)<30))=true)
 (hline:(apos.endLine ==pos.line)=true)(hs:starEach (e::es) X.env=(false,eval e X.env)::starEach es X.env)(hplain:(backTo pos (starEach es X.env)).any (·.1)=false) :
 PE X (.Call (.Attribute o b.nm apos) (e::es) [] pos) (tM W (VD b fa fs)):=by
 intro pins s σ H Q I ⟨F,ρ,μ,h,S,ee,G⟩;obtain⟨pa,slot,hty⟩:=jb b;refine wpAny_Call_method_late hbase hfew hline rfl (AV (ho pins s σ H _ I ⟨F,ρ,μ,h,S,ee,KZ S ee G⟩) ?_);rintro v s1 ⟨x,H1,I1,r1,z,q1⟩;obtain⟨p,vs,rfl,hp⟩:=z;obtain⟨h1,h2⟩:=G9 I1 r1 (T:= "list") (.inl ⟨rfl,vs,.inl (.inl hp)⟩);refine⟨"list",b.id,pa,slot,hty,h1,h2,?_⟩;have hA:=ha pos pins s1 σ H1 _ I1 q1;rw[hs]at hA ⊢;refine eZ (by show(false||(backTo pos (starEach es X.env)).any (·.1))=false;rw[hplain]<;>rfl) (gK ?_);exact AV hA λus s2 ⟨vs,H2,I2,r2,q2⟩=>qX b pins s2 σ H2 _ vs v us Q I2 r1 r2 q2
def XG(b:Mm)(ho:PE X o (tM W fa))(hbase:attributeBase o b.nm X.env (eval o X.env)=eval o X.env)(hline:(apos.endLine ==pos.line)=true)(hfs:fs=λ_ h=>.ok [] h) :
 PE X (.Call (.Attribute o b.nm apos) [] [] pos) (tM W (VD b fa fs)):=by
 subst hfs;intro pins s σ H Q I ⟨F,ρ,μ,h,S,ee,G⟩;obtain⟨pa,slot,hty⟩:=jb b;refine wpAny_Call_method0_late hbase hline (AV (ho pins s σ H _ I ⟨F,ρ,μ,h,S,ee,KZ S ee G⟩) ?_);rintro v s1 ⟨x,H1,I1,r1,z,F2,ρ2,μ2,h2,S2,ee2,G2⟩;obtain⟨p,vs,rfl,hp⟩:=z;obtain⟨h1,h2'⟩:=G9 I1 r1 (T:= "list") (.inl ⟨rfl,vs,.inl (.inl hp)⟩);exact⟨"list",b.id,pa,slot,hty,h1,h2',eZ rfl (PySem.evalArgs_none (qX b pins s1 σ H1 _ [] v [] Q I1 r1 .nil (G2.ret S2 .nil)))⟩
end
section
variable {W:Wd}{H F:Hp}{fa fb fc:Ef}
def ZI(w:Wk)(h:MH):Prop:=match w.src with
 |none=>True
 |some n=>h[n]?=some (.lst w.ms)
def DK{src:Option Nat}{l:List MV}{h:MH}(e:Bs src l h=true):ZI ⟨l,src⟩ h:=by
 unfold Bs at e;unfold ZI;cases src with
 |none=>trivial
 |some n=>simpa using e
def Cm(W:Wd)(F:Hp)(ρ:List Addr)(w:Wk)(J:It):Prop:=∀(i:Nat) (F1:Hp) (ρ1:List Addr) (H1:Hp) (h1:MH),DX F ρ F1 ρ1->Bq W F1 H1 ρ1 h1->ZI w h1->
 (∀m,w.ms[i]?=some m->J.go i H1/\∀x H2,J.yld i H1 x H2->∃F2,Ak F1 F2/\Bq W F2 H2 ρ1 h1/\Aq W F2 m x)/\(i=w.ms.length->J.stop i H1)
def T5(W:Wd)(f:En->MH->AI Wk):TI:=λσ H R=>ZJ W σ H λF ρ μ h=>Am W (Cm W) F ρ (f μ h) R
def JJ{pins:Pq}{s1:Shared}{R:It->Hp->Prop}{p:Addr}{xs:List V}(I1:Ag X pins σ H s1)(hq:Dp X.K H p xs)(q:R (ml X.K p) H):wpAny (model X.prog X.w) X.A (pyIter (.ref p)) (ZM X pins σ tg R) X.xe s1:=by
 obtain⟨its,rv,pl,hz⟩:=I1.list hq;refine hZ pl.isList ?_;refine⟨s1.heap.objs.size,[s1.heap.objs.size],_,_,H,rfl,I1.kept (t':=s1.toks) λb o e=>aD _ e,OC p _,⟨_,aL _ rfl,rfl,rfl⟩,λb hb=>?_,q⟩;have e:b=s1.heap.objs.size:=by simpa using hb
 subst e;exact I1.fpOk (aI _) (I1.hok.fresh (aI _))
def YX{pins:Pq}{s1:Shared}{R:It->Hp->Prop}{p:Addr}{xs:List V}(I1:Ag X pins σ H s1)(hq:Eg X.K H p xs)(q:R (pV X.K p) H):wpAny (model X.prog X.w) X.A (pyIter (.ref p)) (ZM X pins σ tg R) X.xe s1:=by
 obtain⟨its,rv,pl,hz⟩:=I1.tuple hq;refine gX (show s1.heap.IsTuple p its.toArray from pl) ?_;refine⟨s1.heap.objs.size,[s1.heap.objs.size],_,_,H,rfl,I1.kept (t':=s1.toks) λb o e=>aD _ e,Ma p _,⟨_,aL _ rfl,rfl,rfl⟩,λb hb=>?_,q⟩;have e:b=s1.heap.objs.size:=by simpa using hb
 subst e;exact I1.fpOk (aI _) (I1.hok.fresh (aI _))
def YY{pins:Pq}{s1:Shared}{R:It->Hp->Prop}{z:Str}{t:Tok}(I1:Ag X pins σ H s1)(q:R (pW z) H):wpAny (model X.prog X.w) X.A (pyIter (.str z t)) (ZM X pins σ tg R) X.xe s1:=by
 have fp:∀b∈ [s1.heap.objs.size],DH X pins H b:=λb hb=>by
  have e:b=s1.heap.objs.size:=by simpa using hb
  subst e;exact I1.fpOk (aI _) (I1.hok.fresh (aI _))
 cases ha:z.cps.all (· <128)
 ·refine wpAny_pyIter_wide ha ?_;exact⟨s1.heap.objs.size,[s1.heap.objs.size],_,_,H,rfl,I1.kept (t':=s1.toks) λb o e=>aD _ e,Ko _ _ z t (by decide) (λA' hA=>Walks.strWide hA _ z t) (λ_ _ _ _ _ st h=>wpAny_pyIter_striter_wide st h),
   ⟨_,aL _ rfl,rfl,rfl⟩,fp,q⟩
 refine wpAny_pyIter_ascii ha ?_;exact⟨s1.heap.objs.size,[s1.heap.objs.size],_,_,H,rfl,I1.kept (t':=s1.toks) λb o e=>aD _ e,Ko _ _ z t (by decide) (λA' hA=>Walks.strAscii hA _ z t) (λ_ _ _ _ _ st h=>wpAny_pyIter_striter_ascii st h),
  ⟨_,aL _ rfl,rfl,rfl⟩,fp,q⟩
def Vp{pins:Pq}{s1:Shared}{R:It->Hp->Prop}{p:Addr}{ob:Obj}{kvs:List (List Key×V)}(I1:Ag X pins σ H s1)(ea:H p=some (.frz ob (.dT kvs)))(q:R (pX p ob kvs) H):wpAny (model X.prog X.w) X.A (pyIter (.ref p)) (ZM X pins σ tg R) X.xe s1:=by
 obtain⟨y,z,es,ep,ys,rd,kt,e4⟩:=I1.rawT ea;obtain⟨le,ge⟩:=Hb kt;have sz:es.size=kvs.length:=by rw[←cA,e4,aC,le]
 refine Lo y rd ?_;refine⟨s1.heap.objs.size,[s1.heap.objs.size],_,_,H,rfl,I1.kept (t':=s1.toks) λb o e=>aD _ e,OD p _ ob kvs ep es rd.dat sz,⟨_,aL _ rfl,rfl,by rw[sz];rfl⟩,λb hb=>?_,q⟩;have e:b=s1.heap.objs.size:=by simpa using hb
 subst e;exact I1.fpOk (aI _) (I1.hok.fresh (aI _))
def Nu{ρ:List Addr}{p:Addr}{vs:List V}{l:List MV}{K:Fq}(hp:Dp K F p vs)(r:Ad W F l vs):Cm W F ρ ⟨l,none⟩ (ml K p):=by
 intro i F1 ρ1 H1 h1 n S _;have hq:Dp K H1 p vs:=(n.s.trans S.sub).seq hp;refine⟨λm hm=>?_,λhi=>⟨vs,hq,by rw[hi,←r.len];exact aI _⟩⟩;obtain⟨v,hv,rv⟩:=r.get hm;refine⟨⟨vs,v,hq,hv⟩,λx H2 y=>?_⟩;obtain⟨rfl,y⟩:=y;have:=y vs hq;rw[hv]at this;cases this;exact⟨F1,Ak.refl _,S,rv.same n.s⟩
def TC{ρ:List Addr}{p:Addr}{n:Nat}{l:List MV}{K:Fq}(hp:ρ[n]?=some p):Cm W F ρ ⟨l,some n⟩ (ml K p):=by
 intro i F1 ρ1 H1 h1 nx S sp;have hl:h1[n]?=some (.lst l):=sp;obtain⟨nf,vs,hH,r⟩:=S.obj n p _ (Js nx.p hp) hl;have hq:Dp K H1 p vs:=.inl (.inl hH);refine⟨λm hm=>?_,λhi=>⟨vs,hq,by rw[hi,←r.len];exact aI _⟩⟩;obtain⟨v,hv,rv⟩:=r.get hm;refine⟨⟨vs,v,hq,hv⟩,λx H2 y=>?_⟩;obtain⟨rfl,y⟩:=y;have:=y vs hq;rw[hv]at this;cases this;exact⟨F1,Ak.refl _,S,rv⟩
def WX{ρ:List Addr}{p:Addr}{vs:List V}{l:List MV}{K:Fq}(hp:F p=some (.tup vs))(r:Ad W F l vs):Cm W F ρ ⟨l,none⟩ (pV K p):=by
 intro i F1 ρ1 H1 h1 n S _;have hq:Eg K H1 p vs:=.inl (.inl (S.sub _ _ (n.s _ _ hp)));refine⟨λm hm=>?_,λhi=>⟨vs,hq,by rw[hi,←r.len];exact aI _⟩⟩;obtain⟨v,hv,rv⟩:=r.get hm;refine⟨⟨vs,v,hq,hv⟩,λx H2 y=>?_⟩;obtain⟨rfl,y⟩:=y;have:=y vs hq;rw[hv]at this;cases this;exact⟨F1,Ak.refl _,S,rv.same n.s⟩
def WY{z:Str}:Cm W F ρ ⟨FW z,none⟩ (pW z):=by
 intro i F1 ρ1 H1 h1 n S _;have hl:(FW z).length=z.cps.size:=by simp[FW]
 refine⟨λm hm=>?_,λhi=>by show i=z.cps.size;rw[hi];exact hl⟩;have hi:i<z.cps.size:=by rw[←hl];exact(a9.mp hm).1
 refine⟨hi,λx H2 y=>?_⟩;obtain⟨rfl,ch,hc,rfl⟩:=y;refine⟨F1,Ak.refl _,S,?_⟩;have e:m=.str ⟨#[ch]⟩:=by
  unfold FW at hm;rw[aJ,dQ,hc]at hm;cases hm;rfl
 subst e;unfold Aq;rfl
def Bq.know{ρ:List Addr}{h:MH}{p:Addr}{vs:List V}(S:Bq W F H ρ h)(hp:H p=some (.tup vs)):∃F2,Ak F F2/\Bq W F2 H ρ h/\F2 p=some (.tup vs):=by
 cases e:F p with
 |some u=>
  have:=S.sub _ _ e;rw[hp]at this;cases this;exact⟨F,Ak.refl _,S,e⟩
 |none=>
  refine⟨upd F p (.tup vs),.new e,⟨λb u z=>?_,S.nd,S.len,λn a m h1 h2=>?_,S.tb,λt ht=>by
   obtain⟨ps,q,_⟩:=S.tb t ht;rw[Aa (λz=>by rw[z,hp]at q;cases q)];exact S.tf t ht⟩,Ac⟩
  ·by_cases hb:b=p
   ·subst hb;rw[Ac]at z;cases z;exact hp
   rw[Aa hb]at z;exact S.sub _ _ z
  have l:=S.obj n a m h1 h2;have sF:Ak F (upd F p (.tup vs)):=.new e;have ne:∀{b:Addr}{o:HO},H b=some o->(∀ws,o≠ .tup ws)->b≠p:=λq n=>GY q hp (n _);cases m with
  |lst l'=>obtain⟨n1,us,q,r⟩:=l;exact⟨by rw[Aa (ne q (λ_ z=>by cases z))];exact n1,us,q,r.same sF⟩
  |dic t ks ms=>
   obtain⟨n1,us,r,w⟩:=l;rcases w with⟨kk,e0,e1,e2,e3⟩|⟨kk,e0,e1,e2,e3⟩
   ·exact⟨by rw[Aa (ne e2 (λ_ z=>by cases z))];exact n1,us,r.same sF,.inl ⟨kk,e0,e1,e2,e3⟩⟩
   exact⟨by rw[Aa (ne e2 (λ_ z=>by cases z))];exact n1,us,r.same sF,.inr ⟨kk,e0,e1,e2,e3⟩⟩
  |ins c ns ms=>obtain⟨n1,dx,us,q1,q2,n2,h3,r⟩:=l;exact⟨by rw[Aa (ne q1 (λ_ z=>by cases z))];exact n1,dx,us,q1,q2,by rw[Aa (ne q2 (λ_ z=>by cases z))];exact n2,h3,r.same sF⟩
  |gone m=>obtain⟨r,o,q⟩:=l;exact⟨r.same sF,o,sF _ _ q.1,q.2⟩
def TH{ρ:List Addr}{p:Addr}{ob:Obj}{kk:List (List Key)}{vs:List V}(hp:F p=some (.frz ob (.dT (kk.zip vs))))(hl:kk.length=vs.length):Cm W F ρ ⟨kk.map λk=>.tup (k.map BJ),none⟩ (pX p ob (kk.zip vs)):=by
 intro i F1 ρ1 H1 h1 n S _;have hq:=S.sub _ _ (n.s _ _ hp);have zl:(kk.zip vs).length=kk.length:=by rw[eY,hl];simp
 refine⟨λm hm=>?_,λhi=>⟨hq,by rw[hi,zl];simp⟩⟩;have hi:i<kk.length:=by simpa using(a9.mp hm).1
 refine⟨⟨hq,by rw[zl];exact hi⟩,λx H2 y=>?_⟩;obtain⟨rfl,q,k,v,rfl,hk,hH⟩:=y;obtain⟨F2,s2,S2,e2⟩:=S.know hH;refine⟨F2,s2,S2,?_⟩;have ek:kk[i]?=some k:=by
  have:=List.getElem?_zip_eq_some.mp hk;exact this.1
 have e:m=.tup (k.map BJ):=by
  rw[aJ,ek]at hm;cases hm;rfl
 subst e;unfold Aq;exact⟨q,_,rfl,e2,Ad.keys k⟩
def nK(hK:X.K=W.K)(hl:PE X l (tM W fa)):PI X tg l (T5 W λμ h=>(fa μ h).bind λx h1=>AI.of (FD h1 x) h1):=by
 intro pins s σ H R I ⟨F,ρ,μ,h,S,e,G⟩;refine AV (hl pins s σ H _ I ⟨F,ρ,μ,h,S,e,Am.bind (rep:=AC W) G⟩) ?_;rintro v s1 ⟨x,H1,I1,r1,F1,ρ1,r,h1,n1,S1,q1,G1⟩;obtain⟨w,hw,G3⟩:=G1.of;have val:∀{m:MV}{ms:List MV},Aq W F1 m x->C3 m=some ms->w=⟨ms,none⟩->wpAny (model X.prog X.w) X.A (pyIter v) (ZM X pins σ tg R) X.xe s1:=by
  intro m ms hr hi hw;subst hw;cases m<;>simp only[C3]at hi<;>first|(cases hi;done)|skip
  ·cases hi;unfold Aq at hr;subst hr;obtain⟨t,rfl⟩:=r1;exact YY I1 (G3.ret S1 WY)
  ·cases hi;unfold Aq at hr;obtain⟨p,vs,rfl,hp,r⟩:=hr;cases r1;exact YX I1 (.inl (.inl (S1.sub _ _ hp))) (G3.ret S1 (WX hp r))
  ·cases hi;unfold Aq at hr;obtain⟨p,vs,rfl,hp,r⟩:=hr;cases r1;exact JJ I1 (.inl (.inl (S1.sub _ _ hp))) (G3.ret S1 (Nu (.inl (.inl hp)) r))
  ·cases hi;unfold Aq at hr;obtain⟨p,vs,rfl,hp,r⟩:=hr;cases r1;exact JJ I1 (by rw[hK];exact S1.sub.seq hp) (G3.ret S1 (Nu (by rw[hK];exact hp) r))
  rename_i t ks us;cases t with
  |false=>cases hi
  |true=>
   cases hi;unfold Aq at hr;obtain⟨p,vs,rfl,r,q⟩:=hr;cases r1;rcases q with⟨kk,_,rfl,⟨ob,e⟩,hl⟩|⟨kk,z,_⟩
   ·exact Vp I1 (S1.sub _ _ e) (G3.ret S1 (TH e hl))
   cases z
 cases r with
 |v m=>
  obtain⟨ms,hm,rfl⟩:=aG.mp (show(C3 m).map (λl=>(⟨l,none⟩:Wk))=some w from hw);exact val q1 hm rfl
 |l _ _=>cases hw
 |r n=>
  obtain⟨p,rfl,hp⟩:=q1;unfold FD at hw;simp only at hw;split at hw
  ·rename_i l' hl';cases hw;obtain⟨nf,vs,hH,rl⟩:=S1.obj n p _ hp hl';cases r1;exact JJ I1 (.inl (.inl hH)) (G3.ret S1 (TC hp))
  ·rename_i m hm;obtain⟨ms,hi,rfl⟩:=aG.mp hw;obtain⟨rr,_⟩:=S1.obj n p _ hp hm;exact val rr hi rfl
  cases hw
def PI.of(h:PI X tg l t)(i:∀σ H R,t' σ H R->t σ H R):PI X tg l t':=λpins s σ H R I q=>h pins s σ H R I (i σ H R q)
def Qq{lo:Int}{n:Nat}:Cm W F ρ ⟨BM lo n,none⟩ (ko lo n):=by
 intro i F1 ρ1 H1 h1 nx S _;have hl:(BM lo n).length=n:=by simp[BM]
 refine⟨λm hm=>?_,λhi=>by show n<=i;rw[hi];show n<=(BM lo n).length;rw[hl];exact aI _⟩;have hi:i<n:=by rw[←hl];exact(a9.mp hm).1
 refine⟨hi,λx H2 y=>?_⟩;obtain⟨rfl,rfl⟩:=y;refine⟨F1,Ak.refl _,S,?_⟩;have e:m=.int (lo+i):=by
  unfold BM at hm;rw[aJ,List.getElem?_range hi]at hm;cases hm;rfl
 subst e;unfold Aq;rfl
def WI{F:Hp}{ρ:List Addr}{μ:En}{h:MH}{γ δ:Type}{rep:Hp->List Addr->γ->δ->Prop}{k:R->MH->AI γ}{Q:δ->Hp->Prop}(G:Am W rep F ρ ((fa μ h).bind k) Q) :
 Am W (AF W) F ρ ((fa μ h).bind λx h1=>(AI.ok [] h1).bind λxs h2=>.ok (x::xs) h2) λvs H1=>E5 λF1 ρ1 r v h1=>A5 (vs=[v]) (DX F ρ F1 ρ1) (Bq W F1 H1 ρ1 h1) (AC W F1 ρ1 r v) (Am W rep F1 ρ1 (k r h1) Q):=by
 have G2:=Am.bind (rep:=AC W) G;cases ex:fa μ h with
 |no=>rw[ex]at G2;exact G2
 |ok r h1=>
  rw[ex]at G2;show Am W (AF W) F ρ (.ok [r] h1) _;intro F1 ρ1 H1 vs n S q;cases q with
  |cons q t=>
   cases t;obtain⟨F2,ρ2,r2,h2,n2,S2,q2,G3⟩:=G2 F1 ρ1 H1 _ n S q;exact⟨F2,ρ2,r2,_,h2,rfl,n2,S2,q2,G3⟩
def WH{F:Hp}{ρ:List Addr}{μ:En}{h:MH}{γ δ:Type}{rep:Hp->List Addr->γ->δ->Prop}{k:R->R->MH->AI γ}{Q:δ->Hp->Prop}(G:Am W rep F ρ ((fa μ h).bind λx h1=>(fb μ h1).bind λy h2=>k x y h2) Q) :
 Am W (AF W) F ρ ((fa μ h).bind λx h1=>((fb μ h1).bind λy h2=>(AI.ok [] h2).bind λxs h3=>.ok (y::xs) h3).bind λxs h2=>.ok (x::xs) h2) λvs H1=>E7 λF1 ρ1 r r' v v' h1=>A6 (vs=[v,v']) (DX F ρ F1 ρ1) (Bq W F1 H1 ρ1 h1) (AC W F1 ρ1 r v) (AC W F1 ρ1 r' v') (Am W rep F1 ρ1 (k r r' h1) Q):=by
 cases ex:fa μ h with
 |no=>rw[ex]at G;exact G
 |ok r h1=>
  rw[ex]at G;have G:Am W rep F ρ ((fb μ h1).bind λy h2=>k r y h2) Q:=G;show Am W (AF W) F ρ (((fb μ h1).bind λy h2=>(AI.ok [] h2).bind λxs h3=>.ok (y::xs) h3).bind λxs h2=>.ok (r::xs) h2) _;cases ey:fb μ h1 with
  |no=>rw[ey]at G;exact G
  |ok r' h2=>
   rw[ey]at G;have G:Am W rep F ρ (k r r' h2) Q:=G;show Am W (AF W) F ρ (.ok [r,r'] h2) _;intro F1 ρ1 H1 vs n S q;cases q with
   |cons q t=>
    cases t with
    |cons q' t'=>
     cases t';exact⟨F1,ρ1,r,r',_,_,h2,rfl,n,S,q,q',G.nxt n⟩
def XC(hg:Gl X "range")(hm:X.mg "range"=none)(ha:PE X a (tM W fa))(hs:starEach [a] X.env=[(false,eval a X.env)]):PI X tg (.Call (.Name "range" p) [a] [] pos) (T5 W λμ h=>(fa μ h).bind λx h1=>AI.of (Em [x]) h1):=by
 refine PI.of (OO hg hm (El ha K4 hs) hs) λσ H R ⟨F,ρ,μ,h,S,e,G⟩=>⟨F,ρ,μ,h,S,e,(WI G).imp ?_⟩;rintro vs H1 ⟨F1,ρ1,r,v,h1,rfl,n1,S1,q1,G1⟩;obtain⟨w,hw,G3⟩:=G1.of;unfold Em at hw;split at hw
 ·rename_i j hj;cases hj;obtain⟨⟨h2,h3⟩,rfl⟩:=Ao hw;have q:=q1;unfold Aq at q;subst q;exact⟨j,rfl,h2,h3,G3.ret S1 Qq⟩
 ·rename_i hj;cases hj
 cases hw
def XB(hg:Gl X "range")(hm:X.mg "range"=none)(ha:PE X a (tM W fa))(hb:PE X b (tM W fb))(hs:starEach [a,b] X.env=[(false,eval a X.env),(false,eval b X.env)])(hs2:starEach [b] X.env=[(false,eval b X.env)]):PI X tg (.Call (.Name "range" p) [a,b] [] pos) (T5 W λμ h=>(fa μ h).bind λx h1=>(fb μ h1).bind λy h2=>AI.of (Em [x,y]) h2):=by
 refine PI.of (ON hg hm (El ha (El hb K4 hs2) (by rw[hs,hs2])) hs hs2) λσ H R ⟨F,ρ,μ,h,S,e,G⟩=>⟨F,ρ,μ,h,S,e,(WH G).imp ?_⟩;rintro vs H1 ⟨F1,ρ1,r,r',v,v',h1,rfl,n1,S1,q1,q2,G1⟩;obtain⟨w,hw,G3⟩:=G1.of;unfold Em at hw;split at hw
 ·rename_i hj;cases hj
 ·rename_i i j hj;cases hj;obtain⟨⟨h2,h3,h4,h5⟩,rfl⟩:=Ao hw;have q:=q1;have q':=q2;unfold Aq at q q';subst q q';exact⟨i,j,rfl,⟨h2,h3,h4,h5⟩,G3.ret S1 Qq⟩
 cases hw
def Jq{x:V}{l:List MV}(h:K3 m=some l)(r:Aq W F m x):∃b p vs,x=.ref p/\(∀{H1:Hp}(K:Fq),Ak F H1->HE K H1 b p vs)/\Ad W F l vs:=by
 cases m<;>simp only[K3]at h<;>first|(cases h;done)|skip
 ·cases h;unfold Aq at r;obtain⟨p,vs,rfl,hp,r⟩:=r;exact⟨true,p,vs,rfl,λK s=>.inl (.inl (s _ _ hp)),r⟩
 cases h;unfold Aq at r;obtain⟨p,vs,rfl,hp,r⟩:=r;exact⟨false,p,vs,rfl,λK s=>.inl (.inl (s _ _ hp)),r⟩
def Qr(S:Bq W F1 H1 ρ1 h1)(n:H1 q=none)(r:Ad W F1 ms vs):∃F2,Ak F1 F2/\Bq W F2 (upd H1 q (.tup vs)) ρ1 h1/\Aq W F2 (.tup ms) (.ref q):=by
 have g:Cs F1 H1 (upd F1 q (.tup vs)) (upd H1 q (.tup vs)):=.new S.sub n;exact⟨_,g.f,S.grow g,by unfold Aq;exact⟨q,vs,rfl,Ac,r.same g.f⟩⟩
def TD{ρ:List Addr}{p:Addr}{b:Bool}{vs:List V}{l:List MV}{K:Fq}(hp:∀{H1:Hp},Ak F H1->HE K H1 b p vs)(r:Ad W F l vs):Cm W F ρ ⟨DC l,none⟩ (ZS K b p):=by
 intro i F1 ρ1 H1 h1 n S _;have hq:HE K H1 b p vs:=hp (n.s.trans S.sub);have hl:(DC l).length=l.length:=by simp[DC]
 refine⟨λm hm=>?_,λhi=>⟨vs,hq,by rw[hi];show vs.length<=(DC l).length;rw[hl,r.len];exact aI _⟩⟩;have hi:i<l.length:=by rw[←hl];exact(a9.mp hm).1
 have e0:l[i]?=some l[i]:=by simp[hi]
 obtain⟨v,hv,rv⟩:=r.get e0;refine⟨⟨vs,v,hq,hv⟩,λx H2 y=>?_⟩;obtain⟨q,w,rfl,nq,y,rfl⟩:=y;have:=y vs hq;rw[hv]at this;cases this;have em:m=.tup [.int (i:Nat),l[i]]:=by
  unfold DC at hm;simp[List.getElem?_zipIdx,e0]at hm;exact hm.symm
 subst em;exact Qr S nq (.cons (by unfold Aq;rfl) (.cons (rv.same n.s) .nil))
def fq{x1:Nat}(hK:X.K=W.K)(hg:Gl X "enumerate")(hm:X.mg "enumerate"=none)(ha:PE X a (tM W fa))(hs:starEach [a] X.env=[(false,eval a X.env)]):PI X (.Tuple es x1 tp) (.Call (.Name "enumerate" p) [a] [] pos) (T5 W λμ h=>(fa μ h).bind λx h1=>AI.of (SK x) h1):=by
 refine PI.of (QS hg hm (El ha K4 hs) hs) λσ H R ⟨F,ρ,μ,h,S,e,G⟩=>⟨F,ρ,μ,h,S,e,(WI G).imp ?_⟩;rintro vs H1 ⟨F1,ρ1,r,v,h1,rfl,n1,S1,q1,G1⟩;obtain⟨w,hw,G3⟩:=G1.of;unfold SK at hw;split at hw
 ·obtain⟨l,hl,rfl⟩:=aG.mp hw;obtain⟨b,p,vs,rfl,hq,rr⟩:=Jq hl q1;exact⟨b,p,rfl,⟨vs,hq _ S1.sub⟩,G3.ret S1 (TD (λs=>hq _ s) rr)⟩
 cases hw
def WW{ρ:List Addr}{p p':Addr}{b b':Bool}{vs vs':List V}{l l':List MV}{K:Fq}(hp:∀{H1:Hp},Ak F H1->HE K H1 b p vs)(hp': ∀{H1:Hp},Ak F H1->HE K H1 b' p' vs')(r:Ad W F l vs)(r':Ad W F l' vs')(hl:l.length=l'.length):Cm W F ρ ⟨(l.zip l').map λp=>.tup [p.1,p.2],none⟩ (pY K b b' p p'):=by
 intro i F1 ρ1 H1 h1 n S _;have hq:HE K H1 b p vs:=hp (n.s.trans S.sub);have hq':HE K H1 b' p' vs':=hp' (n.s.trans S.sub);have zl:((l.zip l').map λp=>(MV.tup [p.1,p.2])).length=l.length:=by simp[hl]
 refine⟨λm hm=>?_,λhi=>⟨vs,vs',hq,hq',.inl (by rw[hi,←r.len];show l.length<=((l.zip l').map λp=>(MV.tup [p.1,p.2])).length;rw[zl];exact aI _)⟩⟩;have hi:i<l.length:=by rw[←zl];exact(a9.mp hm).1
 have e0:l[i]?=some l[i]:=by simp[hi]
 have hi':i<l'.length:=by lia
 have e0':l'[i]?=some l'[i]:=by simp[hi']
 obtain⟨v,hv,rv⟩:=r.get e0;obtain⟨v',hv',rv'⟩:=r'.get e0';refine⟨⟨vs,vs',v,v',hq,hq',hv,hv'⟩,λx H2 y=>?_⟩;obtain⟨q,w,w',rfl,nq,y,y',rfl⟩:=y;have:=y vs hq;rw[hv]at this;cases this;have:=y' vs' hq';rw[hv']at this;cases this;have em:m=.tup [l[i],l'[i]]:=by
  have ez:(l.zip l')[i]?=some (l[i],l'[i]):=dZ.mpr ⟨e0,e0'⟩;rw[aJ,ez]at hm;cases hm;rfl
 subst em;exact Qr S nq (.cons (rv.same n.s) (.cons (rv'.same n.s) .nil))
def de{x1:Nat}(hK:X.K=W.K)(hg:Gl X "zip")(hm:X.mg "zip"=none)(ha:PE X a (tM W fa))(hb:PE X b (tM W fb))(hs:starEach [a,b] X.env=[(false,eval a X.env),(false,eval b X.env)])(hs2:starEach [b] X.env=[(false,eval b X.env)]):PI X (.Tuple es x1 tp) (.Call (.Name "zip" p) [a,b] [] pos) (T5 W λμ h=>(fa μ h).bind λx h1=>(fb μ h1).bind λy h2=>AI.of (WU x y) h2):=by
 refine PI.of (U7 hg hm (El ha (El hb K4 hs2) (by rw[hs,hs2])) hs hs2) λσ H R ⟨F,ρ,μ,h,S,e,G⟩=>⟨F,ρ,μ,h,S,e,(WH G).imp ?_⟩;rintro vs H1 ⟨F1,ρ1,r,r',v,v',h1,rfl,n1,S1,q1,q2,G1⟩;obtain⟨w,hw,G3⟩:=G1.of;unfold WU at hw;split at hw
 ·obtain⟨l,hl,hw⟩:=aA.mp hw;obtain⟨l',hl',hw⟩:=aA.mp hw;obtain⟨hlen,rfl⟩:=Ao hw;obtain⟨b1,p1,vs1,rfl,hq1,rr1⟩:=Jq hl q1;obtain⟨b2,p2,vs2,rfl,hq2,rr2⟩:=Jq hl' q2;exact⟨b1,b2,p1,p2,rfl,⟨vs1,hq1 _ S1.sub⟩,⟨vs2,hq2 _ S1.sub⟩,G3.ret S1 (WW (λs=>hq1 _ s) (λs=>hq2 _ s) rr1 rr2 hlen)⟩
 cases hw
end
section
def TZ(W:Wd)(t:MT):TG:=λv σ H Q=>E6 λF ρ μ h m μ'=>A5 (Bq W F H ρ h) (BQ W F ρ μ σ) (Aq W F m v) (AX t m μ=some μ') (∀σ',BQ W F ρ μ' σ'->Q σ' H)
def PG.of(h:PG X tg t)(i:∀v σ H Q,t' v σ H Q->t v σ H Q):PG X tg t':=λpins s σ H v u Q I r q=>h pins s σ H v u Q I r (i v σ H Q q)
def ju:List Nat->ZG
 |[]=>jz
 |i::is=>W5 (Lu i) (ju is)
theorem MN:∀{is:List Nat}{l:List MV}{xs:List V}{μ:En}{σ:St},Ad W F l xs->is.length=l.length->BQ W F ρ μ σ->(∀σ',BQ W F ρ ((is.zip l).foldl (λμ p=>μ.set p.1 (some (.v p.2))) μ) σ'->Q σ' H)->ju is xs σ H Q
 |[],l,xs,μ,σ,r,hl,e,q=>by
  obtain rfl:l=[]:=bR.mp (by simpa using hl.symm);obtain rfl:=r.nil_iff;exact⟨rfl,q σ e⟩
 |i::is,l,xs,μ,σ,r,hl,e,q=>by
  cases l with
  |nil=>simp at hl
  |cons m l=>
   obtain⟨v,vs,rfl,h1,h2⟩:=r.uncons;exact⟨v,vs,rfl,MN h2 (by simpa using hl) (e.set (r:=.v m) h1 i) q⟩
def oC{i:Nat}{x:Str}(hN:X.N.Nodup)(hi:X.N[i]?=some x)(hx:WN X.env.scope x)(hf:X.fn x=true\/X.env.scope.names.lookup x=some .local):PG X (.Name x pos) (TZ W (.nm i)):=by
 refine PG.of (NF hN hi hx hf) ?_;rintro v σ H Q ⟨F,ρ,μ,h,m,μ',S,e,r,hb,q⟩;cases hb;exact q _ (e.set (r:=.v m) r i)
def jx{k:Nat}(hc:X.calm=true)(h:WL X es (ju is))(hn:(assignEach es X.env).length=is.length)(hst:(assignEach es X.env).findIdx? (·.1)=none):PG X (.Tuple es k pos) (TZ W (.tup is)):=by
 refine PG.of (Yl (n:=is.length) hc h hn hst) ?_;rintro v σ H Q ⟨F,ρ,μ,h,m,μ',S,e,r,hb,q⟩;cases m<;>simp only[AX]at hb<;>first|(cases hb;done)|skip
 obtain⟨hl,rfl⟩:=Ao hb;unfold Aq at r;obtain⟨p,vs,rfl,hp,r⟩:=r;exact⟨p,vs,rfl,.inl (.inl (S.sub _ _ hp)),by rw[←r.len];exact hl.symm,MN r hl e q⟩
def jy{k:Nat}(hc:X.calm=true)(h:WL X es (ju is))(hn:(assignEach es X.env).length=is.length)(hst:(assignEach es X.env).findIdx? (·.1)=none):PG X (.Tuple es k pos) (TZ W (.lst is)):=by
 refine PG.of (UK (n:=is.length) X.K hc h rfl hn hst) ?_;rintro v σ H Q ⟨F,ρ,μ,h,m,μ',S,e,r,hb,q⟩;cases m<;>simp only[AX]at hb<;>first|(cases hb;done)|skip
 obtain⟨hl,rfl⟩:=Ao hb;unfold Aq at r;obtain⟨p,vs,rfl,hp,r⟩:=r;exact⟨p,vs,rfl,.inl (.inl (S.sub _ _ hp)),by rw[←r.len];exact hl.symm,MN r hl e q⟩
theorem BQ.startC(e:BQ W F ρ μ σ)(k:Nat)(js:List Nat):BQ W F ρ (B.startC k js μ) (EK k js σ):=by
 unfold B.startC EK;refine⟨by simp,λi r h=>?_⟩;by_cases hi:i<k
 ·rw[aO (by simpa using hi),cM,if_pos hi]at h;cases h
 rw[aQ (by simpa using hi),aJ]at h;rw[aQ (by simpa using hi),aJ];simp only[List.length_replicate]at h ⊢;cases hj:js[i-k]? with
 |none=>rw[hj]at h;cases h
 |some j=>
  rw[hj]at h;have h:(μ[j]?).join=some r:=by simpa using h
  cases hm:μ[j]? with
  |none=>rw[hm]at h;cases h
  |some o=>
   rw[hm]at h;have h:=h;subst h;obtain⟨v,h1,h2⟩:=e.at_ j r hm;exact⟨v,by simp[h1],h2⟩
abbrev Us(W:Wd):Hp->List Addr->List MV->List V->Prop:=λF _ l vs=>Ad W F l vs
def Oq{k:Nat}(tt:tM W (BZ k js t fi tc te) σ H Q):Q5 k js (T5 W fi) (TZ W t) (Fi W tc) (tM W te) σ H Q:=by
 obtain⟨F,ρ,μ,h,S,e,G⟩:=tt;refine⟨F,ρ,μ,h,S,e,(Am.bind (rep:=Cm W) G).imp ?_⟩;rintro J H1 ⟨F1,ρ1,w,h1,n1,S1,yl,G1⟩;by_cases hb:w.ms.length<=big
 ·rw[if_pos hb]at G1;have G2:Am W (Us W) F1 ρ1 (compLoop w.src w.ms t (B.startC k js μ) tc te w.ms [] h1) (λvs H''=>∀p,H'' p=none->Q (.ref p) (upd H'' p (.lst vs))):=by
   refine(Am.bind (rep:=Us W) G1).imp ?_;rintro vs H2 ⟨F2,ρ2,l,h2,n2,S2,r2,G3⟩ p n;exact(G3.out S2).lst S2.sub n r2
  have hz:=JV;refine⟨λi m us H'=>A3 (m=w.ms.length-i) (i<=w.ms.length) (E4 λF2 ρ2 h2 acc=>A5 (DX F1 ρ1 F2 ρ2) (Bq W F2 H' ρ2 h2) (Ad W F2 acc us) (acc.length<=i) (Am W (Us W) F2 ρ2 (compLoop w.src w.ms t (B.startC k js μ) tc te (w.ms.drop i) acc h2) (λvs H''=>∀p,H'' p=none->Q (.ref p) (upd H'' p (.lst vs))))),⟨_,rfl,dH _,F1,ρ1,h1,[],.refl,S1,.nil,aI _,G2⟩,?_⟩;rintro i m us H' ⟨rfl,hi,F2,ρ2,h2,acc,n2,S2,r2,la,G3⟩;have lu:=r2.len;by_cases hlt:i<w.ms.length
  ·have ed:=iA hlt;rw[ed]at G3;unfold compLoop at G3;by_cases hsrc:Bs w.src w.ms h2=true
   ·rw[if_pos hsrc]at G3;split at G3
    ·rename_i μ1 hb1;obtain⟨y1,_⟩:=yl i F2 ρ2 H' h2 n2 S2 (DK hsrc);obtain⟨go,y2⟩:=y1 w.ms[i] (by simp[hlt]);refine .inr ⟨go,by lia,λus' H''=>E4 λF2 ρ2 h2 acc=>A5 (DX F1 ρ1 F2 ρ2) (Bq W F2 H'' ρ2 h2) (Ad W F2 acc us') (acc.length<=i+1) (Am W (Us W) F2 ρ2 (compLoop w.src w.ms t (B.startC k js μ) tc te (w.ms.drop (i+1)) acc h2) (λvs H''=>∀p,H'' p=none->Q (.ref p) (upd H'' p (.lst vs)))),λus' H'' hN=>⟨w.ms.length-(i+1),by lia,rfl,hlt,hN⟩,λx H3 hy=>?_⟩;obtain⟨F3,s3,S3,r3⟩:=y2 x H3 hy;have n3:DX F2 ρ2 F3 ρ2:=⟨s3,cF _⟩;refine⟨F3,ρ2,_,h2,w.ms[i],μ1,S3,(((e.nxt n1).nxt n2).nxt n3).startC k js,r3,hb1,λσ2 e2=>?_⟩;refine⟨F3,ρ2,μ1,h2,S3,e2,(Am.bind (rep:=Zr) (G3.nxt n3)).imp ?_⟩;rintro k H4 ⟨F4,ρ4,k',h4,n4,S4,rfl,G4⟩;by_cases hk:k'=true
     ·rw[if_pos hk]at G4 ⊢;refine⟨F4,ρ4,μ1,h4,S4,e2.nxt n4,(Am.bind (rep:=AC W) G4).imp ?_⟩;rintro y H5 ⟨F5,ρ5,r5,h5,n5,S5,q5,G5⟩;cases r5 with
      |r n=>exact G5.elim
      |l _ _=>exact G5.elim
      |v m=>exact⟨F5,ρ5,h5,acc++ [m],((n2.trans n3).trans n4).trans n5,S5,(r2.same ((n3.trans n4).trans n5).s).app (.cons q5 .nil),by simp;lia,G5⟩
     rw[if_neg hk]at G4 ⊢;exact⟨F4,ρ4,h4,acc,(n2.trans n3).trans n4,S4,r2.same (n3.trans n4).s,by lia,G4⟩
    exact G3.elim
   rw[if_neg hsrc]at G3;exact G3.elim
  have ei:i=w.ms.length:=by lia
  subst ei;rw[List.drop_length]at G3;unfold compLoop at G3;by_cases hsrc:Bs w.src w.ms h2=true
  ·rw[if_pos hsrc]at G3;obtain⟨_,y2⟩:=yl w.ms.length F2 ρ2 H' h2 n2 S2 (DK hsrc);exact .inl ⟨y2 rfl,by lia,G3.ret S2 r2⟩
  rw[if_neg hsrc]at G3;exact G3.elim
 rw[if_neg hb]at G1;exact G1.elim
def XS(CS:C6 scope sc N0 xs ys js)(hc:X.calm=true)(hi:PI X tg iter (T5 W fi))(hg:∀C s2 H fp,PG (F0 X (xs++ys) scope C s2 H fp) tg (TZ W t))(hq:∀C s2 H fp,PQ (F0 X (xs++ys) scope C s2 H fp) ifs (Fi W tc))
 (he:∀C s2 H fp,PE (F0 X (xs++ys) scope C s2 H fp) elt (tM W te))(hsc:X.env.scope=sc)(hN:X.N=N0)(hs:∀x,foldedSetIterable iter X.env x=pure x) :
 PE X (.ListComp elt [⟨tg,iter,ifs,0⟩] scope pos) (tM W (BZ xs.length js t fi tc te)):=PE.of (UN CS hc hi hg hq he hsc hN hs) λσ H Q t=>Oq t
end
section
variable {X:Cx}{W:Wd}{cs:List Ci}{σ:St}{H F:Hp}{a b c e o tg l:Expr}{pos apos p:Pos}{fs:En->MH->AI (List R)}{Φ:Fs}
def K0(W:Wd)(Φ:Fs)(f:Nat):Sp:=λvs H Q _=>E4 λF ρ h rs=>A3 (Bq W F H ρ h) (AF W F ρ rs vs) (GE W F ρ (Φ f rs h) Q)
def Kx{f:Nat}(t:tM W (λμ h=>(fs μ h).bind λrs h1=>Φ f rs h1) σ H Q):HG W fs σ H λvs H1=>K0 W Φ f vs H1 Q E0:=by
 obtain⟨F,ρ,μ,h,S,e,G⟩:=t;refine⟨F,ρ,μ,h,S,e,(Am.bind (rep:=AF W) G).imp ?_⟩;rintro vs H1 ⟨F1,ρ1,rs,h1,n1,S1,q1,G1⟩;exact⟨F1,ρ1,h1,rs,S1,q1,G1⟩
def Gh{k:Nat}(F:DI X.prog X.w X.K X.mg X.base O5 k f fd ps sp)(hr:Bp k X.A)(hb:Cn X.K fd ps [])(I:Ag X pins σ H s)(r:Ap vs us)(h:sp vs H Q E0):wpAny (model X.prog X.w) X.A (call (.ref f) us) (EP X pins σ Q) X.xe s:=
 QG F hr hb .nil RB I r (by rw[cT];exact h)
def XV{f k j:Nat}{x:Str}(Fn:PZ X.prog X.w X.K X.mg X.base x k ps (K0 W Φ f))(hr:Bp j X.A)(hj:k<=j)(hg:Gl X x)(ha:PA X (e::es) (HG W fs))(hdb:(x ==("__debug__" :Str))=false)
 (he:starEach (e::es) X.env=(false,eval e X.env)::starEach es X.env)(hpl:(backTo pos (starEach es X.env)).any (·.1)=false):PE X (.Call (.Name x p) (e::es) [] pos) (tM W λμ h=>(fs μ h).bind λrs h1=>Φ f rs h1):=
 PE.of (ib Fn hr hj hg ha hdb he hpl) λ_ _ _ t=>by
  show HG W fs _ _ λvs H1=>K0 W Φ f (vs++ []) H1 _ E0;simp only[List.append_nil];exact Kx t
def Uo{f k j:Nat}{x:Str}(Fn:PZ X.prog X.w X.K X.mg X.base x k ps (K0 W Φ f))(hr:Bp j X.A)(hj:k<=j)(hg:Gl X x)(hdb:(x ==("__debug__" :Str))=false)(hfs:fs=λ_ h=>.ok [] h):PE X (.Call (.Name x p) [] [] pos) (tM W λμ h=>(fs μ h).bind λrs h1=>Φ f rs h1):=by
 subst hfs;obtain⟨fd,fdd,G,hm,hk,hb⟩:=Fn.ex;intro pins s σ H Q I ⟨F,ρ,μ,h,S,e,GG⟩;refine cC (DQ I hg hm ?_ hdb);refine PySem.W.callWith_K0 I.kIn hk ?_;exact Gh (us:=[]) (vs:=[]) G (hr.mono hj) hb I .nil ⟨F,ρ,h,[],S,.nil,GG⟩
theorem Bq.take(S:Bq W F H ρ h)(n:Nat):Bq W F H (ρ.take n) (h.take n):=by
 refine⟨S.sub,S.nd.sublist (dW _ _),by simp[S.len],λk a m h1 h2=>?_,S.tb,S.tf⟩;rw[fS]at h1 h2;split at h1
 ·rename_i hk;rw[if_pos hk]at h2;exact S.obj k a m h1 h2
 cases h1
def Bq.born{c:Nat}(S:Bq W F H ρ h)(n1:H x=none)(n2:H dx=none)(hne:dx≠x):Bq W F (upd (upd H dx (.own x)) x (.ins (W.ca c) dx [])) (ρ++ [x]) (h++ [.ins c [] []]):=by
 have S1:Bq W F (upd H dx (.own x)) ρ h:=⟨λb u z=>by rw[Aa (Aj (S.sub _ _ z) n2)];exact S.sub _ _ z,S.nd,S.len,λn a m h1 h2=>(S.obj n a m h1 h2).of_new n2,S.tb.upd (λu e=>by rw[n2]at e;cases e),S.tf⟩;have n1':upd H dx (.own x) x=none:=by rw[Aa (bM hne)];exact n1
 exact S1.push n1' ⟨S.sub.free n1,dx,[],Ac,by rw[Aa hne];exact Ac,S.sub.free n2,rfl,.nil⟩
def Bq.stays{ρ:List Addr}{h:MH}{n:Nat}{q:Addr}{o:MO}{m:MV}(S:Bq W F H ρ h)(hp:ρ[n]?=some q)(ho:h[n]?=some o)(hm:(∃c ns vs,o=.ins c ns vs/\m=.obj c ns vs)\/o=.gone m):∃F',Ak F F'/\Bq W F' H ρ (h.set n (.gone m))/\Aq W F' m (.ref q):=by
 have l:=S.obj n q o hp ho;rcases hm with⟨c,ns,ms,rfl,rfl⟩|rfl
 ·obtain⟨n1,dx,vs,hH,hD,n2,h3,r⟩:=l;have hdp:dx≠q:=GY hD hH (by intro z;cases z);have n2':(upd F q (.ins (W.ca c) dx ((ns.map W.nm).zip vs))) dx=none:=by rw[Aa hdp];exact n2
  have sF:Ak F (upd (upd F q (.ins (W.ca c) dx ((ns.map W.nm).zip vs))) dx (.own q)):=(Ak.new n1).trans (.new n2');have rr:Aq W (upd (upd F q (.ins (W.ca c) dx ((ns.map W.nm).zip vs))) dx (.own q)) (.obj c ns ms) (.ref q):=by
   unfold Aq;exact⟨q,dx,vs,rfl,by rw[Aa (bM hdp)];exact Ac,Ac,h3,r.same sF⟩
  refine⟨_,sF,S.freeze hp (λb u z=>?_) sF (λb hb=>?_) (λb o _ z=>z) (λx z=>by rw[hH]at z;cases z) rr ⟨_,by rw[Aa (bM hdp)];exact Ac,λob z=>by cases z⟩ (λu e _=>e) (λps z=>by rw[hH]at z;cases z),rr⟩
  ·by_cases hb:b=dx
   ·subst hb;rw[Ac]at z;cases z;exact hD
   rw[Aa hb]at z;by_cases hb2:b=q
   ·subst hb2;rw[Ac]at z;cases z;exact hH
   rw[Aa hb2]at z;exact S.sub _ _ z
  by_cases hb2:b=dx
  ·subst hb2;exact .inr ⟨q,hD,rfl⟩
  exact .inl (by rw[Aa hb2,Aa hb])
 obtain⟨r,u,hu⟩:=l;have e2:h.set n (.gone m)=h:=by
  apply dY;intro k;by_cases hk:n=k
  ·subst hk;rw[f8];simp[ho];exact(a9.mp ho).1
  rw[c7 hk]
 exact⟨F,Ak.refl _,by rw[e2];exact S,r⟩
def take_set{α:Type}{l:List α}{n:Nat}{x:α}:(l.set n x).take n=l.take n:=by
 apply dY;intro k;rw[fS,fS];split
 ·rw[c7 (by lia)]
 rfl
def XI{c0 f k j:Nat}{x:Str}(M:Mk X.K (W.ca c0) fi)(Fn:DI X.prog X.w X.K X.mg X.base O5 k fi fd ps (K0 W Φ f))(hb:Cn X.K fd ps [])(hm:X.mg x=some (.ref (W.ca c0)))(hr:Bp j X.A)(hj:k+1<=j)(hg:Gl X x)(ha:PA X (e::es) (HG W fs))(hdb:(x ==("__debug__" :Str))=false)
 (he:starEach (e::es) X.env=(false,eval e X.env)::starEach es X.env)(hpl:(backTo pos (starEach es X.env)).any (·.1)=false):PE X (.Call (.Name x p) (e::es) [] pos) (tM W (FV Φ c0 f fs)):=by
 refine PE.of (UM M Fn (hr.mono hj) hg hm hb .nil RB ha hdb he hpl) ?_;rintro σ H Q ⟨F,ρ,μ,h,S,ee,G⟩;refine⟨F,ρ,μ,h,S,ee,(Am.bind (rep:=AF W) G).imp ?_⟩;rintro vs H1 ⟨F1,ρ1,rs,h1,n1,S1,q1,G1⟩ y dy ny ndy hne;have S2:=S1.born (c:=c0) ny ndy hne;refine⟨F1,ρ1++ [y],h1++ [.ins c0 [] []],.r h1.length::rs,S2,?_,?_⟩
 ·rw[cT];exact .cons S1.atLast (AF.nxt Bq.nxtPush q1)
 cases ex:Φ f (.r h1.length::rs) (h1++ [.ins c0 [] []]) with
 |no=>rw[ex]at G1;exact G1
 |ok r h2=>
  rw[ex]at G1;intro F' ρ' H' v n' S' q';have fin:∀{oo:MO}{m:MV},r=.v .non->h2[h1.length]?=some oo->h2.length=h1.length+1->((∃c ns vs,oo=.ins c ns vs/\m=.obj c ns vs)\/oo=.gone m)->GE W F1 ρ1 (.ok (.v m) (h2.take h1.length)) Q->v=.non/\Q (.ref y) H':=by
   intro oo m hr ho hl hm G2;subst hr;have q':=q';unfold Aq at q';have el:ρ'=ρ1++ [y]:=by
    obtain⟨t,ht⟩:=n'.p;have l1:=S'.len;have l2:=S1.len;rw[←ht]at l1 ⊢;simp at l1;have:t=[]:=bR.mp (by lia);rw[this,cT]
   subst el;have hy:(ρ1++ [y])[h1.length]?=some y:=by rw[←S1.len];simp
   obtain⟨F2,s2,S3,r3⟩:=S'.stays hy ho hm;have S4:=S3.take h1.length;rw[take_set,←S1.len,List.take_left',S1.len]at S4
   ·exact⟨q',G2 F2 ρ1 H' (.ref y) ⟨n'.s.trans s2,cF _⟩ S4 r3⟩
   rfl
  simp only[AI.bind]at G1;split at G1
  ·rename_i c' ns ms ho;split at G1
   ·rename_i hl;exact fin rfl ho hl (.inl ⟨c',ns,ms,rfl,rfl⟩) G1
   exact G1.elim
  ·rename_i m ho;split at G1
   ·rename_i hl;exact fin rfl ho hl (.inr rfl) G1
   exact G1.elim
  exact G1.elim
def XF{c0:Nat}{x:Str}(D:VU X.K X.mg x (W.ca c0))(hg:Gl X x)(hdb:(x ==("__debug__" :Str))=false):PE X (.Call (.Name x p) [] [] pos) (tM W λ_ h=>.ok (.v (.obj c0 [] [])) h):=by
 refine PE.of (UL D hg hdb) λσ H Q ⟨F,ρ,μ,h,S,ee,G⟩ y dy n1 n2 hne=>?_;have g1:Cs F H (upd F dy (.own y)) (upd H dy (.own y)):=.new S.sub n2;have n1':upd H dy (.own y) y=none:=by rw[Aa (bM hne)];exact n1
 have g2:Cs (upd F dy (.own y)) (upd H dy (.own y)) (upd (upd F dy (.own y)) y (.ins (W.ca c0) dy [])) (upd (upd H dy (.own y)) y (.ins (W.ca c0) dy [])):=.new g1.sub n1';refine G _ ρ _ _ (g1.nxt.trans g2.nxt) ((S.grow g1).grow g2) ?_;show Aq W _ (.obj c0 [] []) _;unfold Aq;exact⟨y,dy,[],rfl,Ac,by rw[Aa hne];exact Ac,rfl,.nil⟩
def F7{m:Str}(hb:attributeBase o m env (eval o env)=eval o env)(hf:methodCallForm (args.length+([]:List Keyword).length) (backTo pos (starEach args env)) (backToKw pos (keywordEach [] env))=true)(hl:(apos.endLine ==pos.line)=true) :
 eval (.Call (.Attribute o m apos) args [] pos) env=(do
  let ov ←eval o env
  standAt apos.atName
  let (f,first) ←holding [ov] (getMethod ov m (do return (←importBound o env).getD true))
  callWith pos f first (backTo pos (starEach args env)) (backToKw pos (keywordEach [] env))):=by
 show(do
  let ov ←attributeBase o m env (eval o env)
  standAt apos.atName
  methodCall o m apos pos env ov (args.length+([]:List Keyword).length) (backTo pos (starEach args env)) (backToKw pos (keywordEach [] env)))=_
 rw[hb];unfold methodCall calleeOf methodCallPos;rw[hf];simp only[if_true,Bool.not_true,Bool.false_or,hl,pure_bind]
structure ZN(X:Cx)(W:Wd)(Φ:Fs)(cs:List Ci)(k m:Nat):Prop where
 at_:∀(c:Nat) (i:Ci) (f:Nat),cs[c]?=some i->i.exc=false->i.mts.lookup m=some f->∃ps,WM X.prog X.w X.K X.mg X.base O5 k (W.ca c) (W.nm m) ps (K0 W Φ f)
theorem Qm{f:Nat}:∀{ns:List Nat}{vs:List V},f∉ns->((ns.map W.nm).zip vs).lookup (W.nm f)=none
 |[],_,_=>rfl
 |n::ns,[],_=>rfl
 |n::ns,v::vs,h=>by
  have h:f≠n/\f∉ns:=by simpa using h
  have e:=bS.mpr λz=>h.1 (W.inj _ _ z);rw[aK,bN,c9,e];exact Qm h.2
def NL{m f:Nat}(va:B1 W F H mm x)(h:meth cs m mm=some f):E5 λc i a dx gs=>A6 (x=.ref a) (H a=some (.ins (W.ca c) dx gs)) (gs.lookup (W.nm m)=none) (cs[c]?=some i) (i.exc=false) (i.mts.lookup m=some f):=by
 cases mm<;>simp only[meth]at h<;>first|(cases h;done)|skip
 rename_i c ns ms;obtain⟨i,hi,h2⟩:=aA.mp h;by_cases hc:i.exc=false/\m∉ns
 ·rw[if_pos hc]at h2;obtain⟨a,dx,vs,rfl,h1,_,_,_⟩:=va;exact⟨c,i,a,dx,_,rfl,h1,Qm hc.2,hi,hc.1,h2⟩
 rw[if_neg hc]at h2;cases h2
def XH{m k j:Nat}(T:ZN X W Φ cs k m)(ho:PE X o (tM W fa))(hr:Bp j X.A)(hj:k<=j)(ha:PA X (e::es) (HG W fs))(hst:starEach (e::es) X.env=(false,eval e X.env)::starEach es X.env)(hpl:(backTo pos (starEach es X.env)).any (·.1)=false)
 (hb:attributeBase o (W.nm m) X.env (eval o X.env)=eval o X.env)(hf:methodCallForm ((e::es).length+([]:List Keyword).length) (backTo pos (starEach (e::es) X.env)) (backToKw pos (keywordEach [] X.env))=true)(hl:(apos.endLine ==pos.line)=true) :
 PE X (.Call (.Attribute o (W.nm m) apos) (e::es) [] pos) (tM W (SX cs Φ m fa fs)):=by
 intro pins s σ H Q I ⟨F,ρ,μ,h,S,ee,G⟩;refine PySem.W.methodCall_KW (AV (ho pins s σ H _ I ⟨F,ρ,μ,h,S,ee,Am.bind (rep:=AC W) G⟩) ?_) (F7 hb hf hl);rintro u s1 ⟨x,H1,I1,rx,F1,ρ1,r,h1,n1,S1,q1,G1⟩;split at G1
 ·rename_i f hf';obtain⟨mm,hm,hme⟩:=aA.mp hf';obtain⟨c,i,a,dx,gs,rfl,ha1,lk,hi,hex,hmt⟩:=NL (S1.view q1 hm) hme;obtain rfl:u=Value.ref a:=rx;obtain⟨ps,MD⟩:=T.at_ c i f hi hex hmt;obtain⟨fa',fd,cl,hmm,Ff,hbb⟩:=MD.out;refine Hq I1 ha1 cl hmm lk ?_;refine PySem.W.callWith_K (first:=[.ref a]) (h₀:=X.base) I.ok.mod.kin hmm.kp (AV (ha pos pins s1 σ H1 _ I1 ⟨F1,ρ1,μ,h1,S1,ee.nxt n1,Am.bind (rep:=AF W) G1⟩) λus s2 ⟨vs,H2,I2,rv,F2,ρ2,rs,h2,n2,S2,q2,G2⟩=>⟨I2.kIn,?_⟩) hst hpl;exact Gh (us:=.ref a::us) (vs:=.ref a::vs) Ff (hr.mono hj) hbb I2 (.cons rfl rv) ⟨F2,ρ2,h2,r::rs,S2,.cons (q1.nxt n2) q2,G2⟩
 exact G1.elim
def Um{m k j:Nat}(T:ZN X W Φ cs k m)(ho:PE X o (tM W fa))(hr:Bp j X.A)(hj:k<=j)(hfs:fs=λ_ h=>.ok [] h)
 (hb:attributeBase o (W.nm m) X.env (eval o X.env)=eval o X.env)(hl:(apos.endLine ==pos.line)=true) :
 PE X (.Call (.Attribute o (W.nm m) apos) [] [] pos) (tM W (SX cs Φ m fa fs)):=by
 subst hfs;intro pins s σ H Q I ⟨F,ρ,μ,h,S,ee,G⟩;refine PySem.W.methodCall_KW (AV (ho pins s σ H _ I ⟨F,ρ,μ,h,S,ee,Am.bind (rep:=AC W) G⟩) ?_) (F7 hb rfl hl);rintro u s1 ⟨x,H1,I1,rx,F1,ρ1,r,h1,n1,S1,q1,G1⟩;split at G1
 ·rename_i f hf';obtain⟨mm,hm,hme⟩:=aA.mp hf';obtain⟨c,i,a,dx,gs,rfl,ha1,lk,hi,hex,hmt⟩:=NL (S1.view q1 hm) hme;obtain rfl:u=Value.ref a:=rx;obtain⟨ps,MD⟩:=T.at_ c i f hi hex hmt;obtain⟨fa',fd,cl,hmm,Ff,hbb⟩:=MD.out;refine Hq I1 ha1 cl hmm lk ?_;exact PySem.W.callWith_K0 (first:=[.ref a]) I1.kIn hmm.kp (Gh (us:=[.ref a]) (vs:=[.ref a]) Ff (hr.mono hj) hbb I1 (.cons rfl .nil) ⟨F1,ρ1,h1,[r],S1,.cons q1 .nil,G1⟩)
 exact G1.elim
def fv{f k j:Nat}{x m:Str}(Fn:pZ X.prog X.w X.K X.mg X.base x m k ps (K0 W Φ f))(hr:Bp j X.A)(hj:k<=j)(hg:Gl X x)(ha:PA X (e::es) (HG W fs))(hdb:(x ==("__debug__" :Str))=false)
 (hst:starEach (e::es) X.env=(false,eval e X.env)::starEach es X.env)(hpl:(backTo pos (starEach es X.env)).any (·.1)=false)
 (hf:methodCallForm ((e::es).length+([]:List Keyword).length) (backTo pos (starEach (e::es) X.env)) (backToKw pos (keywordEach [] X.env))=true)(hl:(apos.endLine ==pos.line)=true) :
 PE X (.Call (.Attribute (.Name x p) m apos) (e::es) [] pos) (tM W λμ h=>(fs μ h).bind λrs h1=>Φ f rs h1):=by
 obtain⟨G,fa',fd,Ff,hm,hrd,hfc,hga,hk,hb⟩:=Fn.ex;intro pins s σ H Q I h;have h:=Kx h;refine PySem.W.methodCall_KW (AV (Gm hg hm (show Au (.ref G) (.ref G) from rfl) hdb pins s σ H (λv H1=>v=.ref G/\H1=H) I ⟨rfl,rfl⟩) ?_) (F7 rfl hf hl);rintro u s1 ⟨v,H1,I1,rv,ev,eH⟩;subst ev eH;obtain rfl:u=Value.ref G:=rv;refine PySem.W.method_cls I1.kIn hga (PySem.W.cls_value I1.kIn hrd hfc rfl ?_);refine PySem.W.callWith_K (first:=[]) (h₀:=X.base) I.ok.mod.kin hk (AV (ha pos pins _ σ H1 _ (I1.tok (s1.toks+1)) h) λus s2 ⟨vs,H2,I2,r,q2⟩=>⟨I2.kIn,?_⟩) hst hpl;exact Gh Ff (hr.mono hj) hb I2 r q2
end
inductive Fl where
 |nx (μ:En)|rt (r:R)|bk (μ:En)|ct (μ:En)
abbrev SR:=Option (Fl×MH)
abbrev Sf:=En->MH->SR
mutual
inductive MS where
 |set (i:Nat) (e:ME)|setT (t:MT) (e:ME)|setC (i:Nat) (e:ME)|setI (o i e:ME)|setD (o i e:ME)|setF (o:ME) (f:Nat) (e:ME)|expr (e:ME)|ret (e:ME)|retN|ite (c:ME) (a b:ZP)|for_ (t:MT) (it:MI) (b:ZP)|wh (n:Nat) (c:ME) (b:ZP)
 |raise (c f:Nat) (e:ME)|pass|brk|cnt
inductive ZP where
 |nil|cons (s:MS) (r:ZP)
end
noncomputable def KR{α:Type}(μ:En)(x:AI α)(k:α->MH->SR):SR:=match x with
 |.ok a h=>k a h
 |.no=>none
noncomputable def Oy:MT->R->En->Option En
 |.nm i,r,μ=>some (μ.set i (some r))
 |t,.v m,μ=>AX t m μ
 |_,_,_=>none
noncomputable def LY(t:MT)(fe:Ef):Sf:=λμ h=>KR μ (fe μ h) λr h1=>(Oy t r μ).map λμ'=>(.nx μ',h1)
noncomputable def VV(fo fi fe:Ef):Sf:=λμ h=>KR μ (fe μ h) λx h1=>KR μ (fo μ h1) λo h2=>KR μ (fi μ h2) λi h3=>match x,o,T8 i with
 |.v m,.r n,some k=>(match h3[n]? with
  |some (.lst l)=>(NY l.length k).map λj=>(.nx μ,h3.set n (.lst (l.set j m)))
  |_=>none)
 |_,_,_=>none
noncomputable def Fz(ks vs:List MV)(k v:MV):List MV×List MV:=if (ks.any λk'=>look.seqK k' k)=true then(ks,(ks.zip vs).map λp=>if look.seqK p.1 k=true then v else p.2) else(ks++ [k],vs++ [v])
noncomputable def VX(fo fi fe:Ef):Sf:=λμ h=>KR μ (fe μ h) λx h1=>KR μ (fo μ h1) λo h2=>KR μ (fi μ h2) λi h3=>match x,o,i with
 |.v m,.r n,.v k=>(match h3[n]? with
  |some (.dic t ks vs)=>if Ib t k=true/\vs.length<big then some (.nx μ,h3.set n (.dic t (Fz ks vs k m).1 (Fz ks vs k m).2)) else none
  |_=>none)
 |_,_,_=>none
noncomputable def C4(f:Nat)(v:MV):List Nat->List MV->List Nat×List MV
 |n::ns,m::ms=>if n=f then(n::ns,v::ms) else let (a,b):=C4 f v ns ms;(n::a,m::b)
 |_,_=>([f],[v])
noncomputable def VW(cs:List Ci)(fo:Ef)(f:Nat)(fe:Ef):Sf:=λμ h=>KR μ (fe μ h) λx h1=>KR μ (fo μ h1) λo h2=>match x,o with
 |.v m,.r n=>(match h2[n]? with
  |some (.ins c ns ms)=>(cs[c]?).bind λi=>if i.exc=false/\f∈i.flds/\ns.length<1000 then some (.nx μ,h2.set n (.ins c (C4 f m ns ms).1 (C4 f m ns ms).2)) else none
  |_=>none)
 |_,_=>none
noncomputable def VY(fe:Ef):Sf:=λμ h=>KR μ (fe μ h) λ_ h1=>some (.nx μ,h1)
noncomputable def O7(fe:Ef):Sf:=λμ h=>KR μ (fe μ h) λr h1=>some (.rt r,h1)
noncomputable def au(c:Tf)(a b:Sf):Sf:=λμ h=>KR μ (c μ h) λk h1=>if k=true then a μ h1 else b μ h1
noncomputable def Kk(a b:Sf):Sf:=λμ h=>match a μ h with
 |some (.nx μ',h')=>b μ' h'
 |x=>x
noncomputable def AM(src:Option Nat)(all:List MV)(t:MT)(b:Sf):List MV->Sf
 |[],μ,h=>if Bs src all h=true then some (.nx μ,h) else none
 |m::r,μ,h=>if Bs src all h=true then(match AX t m μ with
  |some μ1=>(match b μ1 h with
   |some (.nx μ2,h2)=>AM src all t b r μ2 h2
   |some (.ct μ2,h2)=>AM src all t b r μ2 h2
   |some (.bk μ2,h2)=>some (.nx μ2,h2)
   |x=>x)
  |none=>none) else none
noncomputable def av(t:MT)(fi:En->MH->AI Wk)(b:Sf):Sf:=λμ h=>KR μ (fi μ h) λw h1=>AM w.src w.ms t b w.ms μ h1
noncomputable def C0(c:Tf)(b:Sf):Nat->Sf
 |0,_,_=>none
 |n+1,μ,h=>KR μ (c μ h) λk h1=>if k=true then(match b μ h1 with
  |some (.nx μ2,h2)=>C0 c b n μ2 h2
  |some (.ct μ2,h2)=>C0 c b n μ2 h2
  |some (.bk μ2,h2)=>some (.nx μ2,h2)
  |x=>x) else some (.nx μ,h1)
noncomputable def Qs(cs:List Ci)(c f:Nat)(fe:Ef):Sf:=λ_ _=>none
section
variable (cs:List Ci) (Φ:Fs) (ini:Nat->Option Nat) (cf:Nat->Nat->Option Nat)
mutual
noncomputable def ex:MS->Sf
 |.set i e=>LY (.nm i) (e2 cs Φ ini cf e).1
 |.setT t e=>LY t (e2 cs Φ ini cf e).1
 |.setC i e=>LY (.nm i) (e2 cs Φ ini cf e).1
 |.setI o i e=>VV (e2 cs Φ ini cf o).1 (e2 cs Φ ini cf i).1 (e2 cs Φ ini cf e).1
 |.setD o i e=>VX (e2 cs Φ ini cf o).1 (e2 cs Φ ini cf i).1 (e2 cs Φ ini cf e).1
 |.setF o f e=>VW cs (e2 cs Φ ini cf o).1 f (e2 cs Φ ini cf e).1
 |.expr e=>VY (e2 cs Φ ini cf e).1
 |.ret e=>O7 (e2 cs Φ ini cf e).1
 |.retN=>λ_ h=>some (.rt (.v .non),h)
 |.ite c a b=>au (e2 cs Φ ini cf c).2 (exs a) (exs b)
 |.for_ t it b=>av t (SJ cs Φ ini cf it) (exs b)
 |.wh n c b=>C0 (e2 cs Φ ini cf c).2 (exs b) n
 |.raise c f e=>Qs cs c f (e2 cs Φ ini cf e).1
 |.pass=>λμ h=>some (.nx μ,h)
 |.brk=>λμ h=>some (.bk μ,h)
 |.cnt=>λμ h=>some (.ct μ,h)
noncomputable def exs:ZP->Sf
 |.nil=>λμ h=>some (.nx μ,h)
 |.cons s r=>Kk (ex s) (exs r)
end
end
section
variable {X:Cx}{W:Wd}{sa sb:Sf}{st:Stmt}{sts:List Stmt}
def GS(W:Wd)(D:Qb)(F:Hp)(ρ:List Addr):SR->Prop
 |some (.nx μ',h')=>∀F' ρ' H' σ',DX F ρ F' ρ'->Bq W F' H' ρ' h'->BQ W F' ρ' μ' σ'->D.nx σ' H'
 |some (.bk μ',h')=>∀F' ρ' H' σ',DX F ρ F' ρ'->Bq W F' H' ρ' h'->BQ W F' ρ' μ' σ'->D.bk σ' H'
 |some (.ct μ',h')=>∀F' ρ' H' σ',DX F ρ F' ρ'->Bq W F' H' ρ' h'->BQ W F' ρ' μ' σ'->D.ct σ' H'
 |some (.rt r,h')=>∀F' ρ' H' v,DX F ρ F' ρ'->Bq W F' H' ρ' h'->AC W F' ρ' r v->D.rt v H'
 |none=>False
def GS.nxt(n:DX F ρ F1 ρ1)(g:GS W D F ρ x):GS W D F1 ρ1 x:=by
 match x,g with
 |some (.nx μ',h'),g=>exact λF' ρ' H' σ' n'=>g F' ρ' H' σ' (n.trans n')
 |some (.bk μ',h'),g=>exact λF' ρ' H' σ' n'=>g F' ρ' H' σ' (n.trans n')
 |some (.ct μ',h'),g=>exact λF' ρ' H' σ' n'=>g F' ρ' H' σ' (n.trans n')
 |some (.rt r,h'),g=>exact λF' ρ' H' σ' n'=>g F' ρ' H' σ' (n.trans n')
def Ez(W:Wd)(f:Sf):TS:=λD σ H=>ZJ W σ H λF ρ μ h=>GS W D F ρ (f μ h)
def GS.bind{α β:Type}{rep:Hp->List Addr->α->β->Prop}{ρ:List Addr}{μ:En}{x:AI α}{k:α->MH->SR}(ee:BQ W F ρ μ σ)(g:GS W D F ρ (KR μ x k)):Am W rep F ρ x λv H1=>sg W rep F ρ v H1 λF1 ρ1 r h1=>GS W D F1 ρ1 (k r h1):=by
 cases x with
 |no=>exact g
 |ok r h=>exact λF1 ρ1 H1 v n S q=>⟨F1,ρ1,r,h,n,S,q,GS.nxt n g⟩
def XQ(he:PE X e (tM W fe))(hs:swapsWith e none pos.line X.env=pure false):PS X (.Expr e pos) (Ez W (VY fe)):=by
 refine PS.of (U3 he hs) λD σ H ⟨F,ρ,μ,h,S,ee,G⟩=>⟨F,ρ,μ,h,S,ee,(GS.bind (rep:=AC W) ee G).imp ?_⟩;rintro v H1 ⟨F1,ρ1,r,h1,n1,S1,q1,G1⟩;exact G1 F1 ρ1 H1 σ .refl S1 (ee.nxt n1)
def dq(he:PE X e (tM W fe)):PS X (.Return (some e) pos) (Ez W (O7 fe)):=by
 refine PS.of (Yf he) λD σ H ⟨F,ρ,μ,h,S,ee,G⟩=>⟨F,ρ,μ,h,S,ee,(GS.bind (rep:=AC W) ee G).imp ?_⟩;rintro v H1 ⟨F1,ρ1,r,h1,n1,S1,q1,G1⟩;exact G1 F1 ρ1 H1 v .refl S1 q1
def XD:PS X (.Return none pos) (Ez W λ_ h=>some (.rt (.v .non),h)):=
 PS.of U1 λD σ H ⟨F,ρ,μ,h,S,ee,G⟩=>G F ρ H .non .refl S (by show Aq W F .non .non;unfold Aq;rfl)
def XE:PS X (.Pass pos) (Ez W λμ h=>some (.nx μ,h)):=
 PS.of U2 λD σ H ⟨F,ρ,μ,h,S,ee,G⟩=>G F ρ H σ .refl S ee
def fz:PS X (.Break pos) (Ez W λμ h=>some (.bk μ,h)):=
 PS.of QP λD σ H ⟨F,ρ,μ,h,S,ee,G⟩=>G F ρ H σ .refl S ee
def ft:PS X (.Continue pos) (Ez W λμ h=>some (.ct μ,h)):=
 PS.of KC λD σ H ⟨F,ρ,μ,h,S,ee,G⟩=>G F ρ H σ .refl S ee
def X4:Ig X [] (Ez W λμ h=>some (.nx μ,h)):=
 Ig.of U0 λD σ H ⟨F,ρ,μ,h,S,ee,G⟩=>G F ρ H σ .refl S ee
def Xz(t:Ez W (Kk sa sb) D σ H):bt (Ez W sa) (Ez W sb) D σ H:=by
 obtain⟨F,ρ,μ,h,S,ee,G⟩:=t;refine⟨F,ρ,μ,h,S,ee,?_⟩;unfold Kk at G
 match hx:sa μ h,G with
 |none,G=>exact G
 |some (.nx μ',h'),G=>exact λF1 ρ1 H1 σ1 n1 S1 e1=>⟨F1,ρ1,μ',h',S1,e1,GS.nxt n1 G⟩
 |some (.bk μ',h'),G=>exact G
 |some (.ct μ',h'),G=>exact G
 |some (.rt r,h'),G=>exact G
def Uk(h1:PS X st (Ez W sa))(h2:Ig X sts (Ez W sb)):Ig X (st::sts) (Ez W (Kk sa sb)):=Ig.of (QN h1 h2) λ_ _ _ t=>Xz t
def ff(hc:PT X c (Fi W ta))(ha:Ig X u (Ez W sa))(hb:Ig X v (Ez W sb)):PS X (.If c u v pos) (Ez W (au ta sa sb)):=by
 refine PS.of (gp hc ha hb) λD σ H ⟨F,ρ,μ,h,S,ee,G⟩=>⟨F,ρ,μ,h,S,ee,(GS.bind (rep:=Zr) ee G).imp ?_⟩;rintro k H1 ⟨F1,ρ1,k',h1,n1,S1,rfl,G1⟩;by_cases hk:k'=true
 ·rw[if_pos hk]at G1 ⊢;exact⟨F1,ρ1,μ,h1,S1,ee.nxt n1,G1⟩
 rw[if_neg hk]at G1 ⊢;exact⟨F1,ρ1,μ,h1,S1,ee.nxt n1,G1⟩
def Tq{i:Nat}(t:Ez W (LY (.nm i) fe) D σ H):Ua (tM W fe) (Lu i) D σ H:=by
 obtain⟨F,ρ,μ,h,S,ee,G⟩:=t;refine⟨F,ρ,μ,h,S,ee,(GS.bind (rep:=AC W) ee G).imp ?_⟩;rintro v H1 ⟨F1,ρ1,r,h1,n1,S1,q1,G1⟩;exact G1 F1 ρ1 H1 _ .refl S1 ((ee.nxt n1).set q1 i)
def X6{i:Nat}{x:Str}(hN:X.N.Nodup)(hi:X.N[i]?=some x)(hx:WN X.env.scope x)(he:PE X e (tM W fe))(hs:swapsWith e (some (.Name x pos')) pos.line X.env=pure false)(hf:X.fn x=true\/X.env.scope.names.lookup x=some .local):PS X (.Assign [.Name x pos'] e pos) (Ez W (LY (.nm i) fe)):=
 PS.of (Ye hN hi hx he hs hf) λ_ _ _ t=>Tq t
def X5(ht:∀i,t≠ .nm i)(he:PE X e (tM W fe))(hg:PG X tg (TZ W t))(hs:swapsWithSole [tg] e pos.line X.env=pure false)(hw:swappedStores [tg] e X.env=pure none)(h1:(assignEach [tg] X.env).map (·.2)=[assign tg X.env]):PS X (.Assign [tg] e pos) (Ez W (LY t fe)):=by
 refine PS.of (QQ he hg hs hw h1) λD σ H ⟨F,ρ,μ,h,S,ee,G⟩=>⟨F,ρ,μ,h,S,ee,(GS.bind (rep:=AC W) ee G).imp ?_⟩;rintro v H1 ⟨F1,ρ1,r,h1,n1,S1,q1,G1⟩;cases r with
 |r n=>cases t<;>first|(exact absurd rfl (ht _))|(exact G1.elim)
 |l _ _=>cases t<;>first|(exact absurd rfl (ht _))|(exact G1.elim)
 |v m=>
  have e1:Oy t (.v m) μ=AX t m μ:=by cases t<;>first|(exact absurd rfl (ht _))|rfl
  rw[e1]at G1;cases hb:AX t m μ with
  |none=>rw[hb]at G1;exact G1.elim
  |some μ'=>rw[hb]at G1;exact⟨F1,ρ1,μ,h1,m,μ',S1,ee.nxt n1,q1,hb,λσ' e'=>G1 F1 ρ1 H1 σ' .refl S1 e'⟩
end
section
def XA{i:Nat}{y:Str}(CS:C6 scope sc N0 xs ys js)(hc:X.calm=true)(hNd:X.N.Nodup)(hiy:X.N[i]?=some y)(hy:X.env.scope.names.lookup y=some .local)
 (hi:PI X tg iter (T5 W fw))(hg:∀C s2 H fp,PG (F0 X (xs++ys) scope C s2 H fp) tg (TZ W t))(hq:∀C s2 H fp,PQ (F0 X (xs++ys) scope C s2 H fp) ifs (Fi W tc))
 (he:∀C s2 H fp,PE (F0 X (xs++ys) scope C s2 H fp) elt (tM W te))(hsc:X.env.scope=sc)(hN:X.N=N0)(hs:∀x,foldedSetIterable iter X.env x=pure x)
 (hsw:swapsWith (.ListComp elt [⟨tg,iter,ifs,0⟩] scope pos) (some (.Name y py)) spos.line X.env=pure true) :
 PS X (.Assign [.Name y py] (.ListComp elt [⟨tg,iter,ifs,0⟩] scope pos) spos) (Ez W (LY (.nm i) (BZ xs.length js t fw tc te))):=
 PS.of (Mn CS hc hNd hiy hy hi hg hq he hsc hN hs hsw) λD σ H t=>Oq (Tq t)
def X7(ho:PE X o (tM W fo))(hi:PE X iter (tM W fi))(he:PE X e (tM W fe))
 (hsub:∀v,assign (.Subscript o iter pos') X.env v=(do
   let ov ←holding [v] (eval o X.env)
   let iv ←holding [v,ov] (eval iter X.env)
   standAt pos'
   holding [v,ov,iv] (setItem ov iv v)
   release [v,ov,iv] [])) (hs:swapsWithSole [.Subscript o iter pos'] e pos.line X.env=pure false) (hw:swappedStores [.Subscript o iter pos'] e X.env=pure none) (h1:(assignEach [.Subscript o iter pos'] X.env).map (·.2)=[assign (.Subscript o iter pos') X.env]) :
 PS X (.Assign [.Subscript o iter pos'] e pos) (Ez W (VV fo fi fe)):=by
 refine PS.of (QQ he (Ym ho hi QC hsub) hs hw h1) λD σ H ⟨F,ρ,μ,h,S,ee,G⟩=>⟨F,ρ,μ,h,S,ee,(GS.bind (rep:=AC W) ee G).imp ?_⟩;rintro x H1 ⟨F1,ρ1,r1,h1,n1,S1,q1,G1⟩;refine⟨F1,ρ1,μ,h1,S1,ee.nxt n1,(GS.bind (rep:=AC W) (ee.nxt n1) G1).imp ?_⟩;rintro ov H2 ⟨F2,ρ2,r2,h2,n2,S2,q2,G2⟩;refine⟨F2,ρ2,μ,h2,S2,(ee.nxt n1).nxt n2,(GS.bind (rep:=AC W) ((ee.nxt n1).nxt n2) G2).imp ?_⟩;rintro iv H3 ⟨F3,ρ3,r3,h3,n3,S3,q3,G3⟩;split at G3
 ·rename_i m n k hk;split at G3
  ·rename_i l hl;obtain⟨p,rfl,hp⟩:=q2.nxt n3;obtain⟨nf,vs,hH,r⟩:=S3.obj n p _ hp hl;cases hj:NY l.length k with
   |none=>rw[hj]at G3;exact G3.elim
   |some j=>
    rw[hj]at G3;have rr:=(q1.nxt (r:=.v m) n2).nxt (r:=.v m) n3;refine⟨p,vs,k,j,rfl,Nm hk q3,hH,by rw[←r.len];exact hj,?_⟩;exact G3 F3 ρ3 _ σ .refl (S3.wrote hp nf hH (r.set rr)) (((ee.nxt n1).nxt n2).nxt n3)
  exact G3.elim
 exact G3.elim
def any_map{α β:Type}{l:List α}{f:α->β}{p:β->Bool}{q:α->Bool}(h:∀a∈l,p (f a)=q a):(l.map f).any p=l.any q:=by
 induction l with
 |nil=>rfl
 |cons a l ih=>rw[aK,cX,cX,h a aH,ih λb hb=>h b (aE _ hb)]
theorem Nt{κ:Type}{p:κ->Bool}:∀{kk:List κ}{vs:List V},kk.length=vs.length->((kk.zip vs).any λkv=>p kv.1)=kk.any p
 |[],_,_=>rfl
 |k::kk,[],h=>by simp at h
 |k::kk,v::vs,h=>by rw[bN,cX,cX,Nt (by simpa using h)]
theorem Ki{κ:Type}[DecidableEq κ]{k:κ}{v:V}:∀{kk:List κ}{vs:List V},kk.length=vs.length->(kk.zip vs).map (λkv=>if kv.1=k then(kv.1,v) else kv)=kk.zip ((kk.zip vs).map λkv=>if kv.1=k then v else kv.2)
 |[],_,_=>rfl
 |k'::kk,[],h=>by simp at h
 |k'::kk,u::vs,h=>by
  rw[bN,aK,aK,bN,Ki (by simpa using h)];by_cases e:k'=k
  ·simp[e]
  simp[e]
def NC{κ:Type}[DecidableEq κ]{toM:κ->MV}{k:κ}{m mv:MV}{v:V}{kk:List κ}{ms:List MV}{vs:List V}(hs:∀k',look.seqK (toM k') m=decide (k'=k))(hk:m=toM k)(r:Ad W F ms vs)(hl:kk.length=vs.length)(rv:Aq W F mv v) :
 ∃(kk':List κ) (us:List V),FY (kk.zip vs) k v=kk'.zip us/\(Fz (kk.map toM) ms m mv).1=kk'.map toM/\Ad W F (Fz (kk.map toM) ms m mv).2 us/\kk'.length=us.length:=by
 have ea:((kk.map toM).any λk'=>look.seqK k' m)=kk.any λk'=>decide (k'=k):=any_map λa _=>hs a;have eb:((kk.zip vs).any λkv=>decide (kv.1=k))=kk.any λk'=>decide (k'=k):=Nt (p:=λk'=>decide (k'=k)) hl;unfold FY Fz;rw[ea,eb];by_cases hc:(kk.any λk'=>decide (k'=k))=true
 ·rw[if_pos hc,if_pos hc];refine⟨kk,_,Ki hl,rfl,?_,by simp[hl]⟩;clear ea eb hc;show Ad W F ((kk.map toM).zip ms |>.map λp=>if look.seqK p.1 m=true then mv else p.2) _
  induction kk generalizing ms vs with
  |nil=>simp;exact .nil
  |cons k' kk ih=>
   cases vs with
   |nil=>simp at hl
   |cons u vs=>
    cases ms with
    |nil=>have:=r.len;simp at this
    |cons q ms=>
     obtain⟨u',us',z,h1,h2⟩:=r.uncons;cases z;rw[aK,bN,aK,bN,aK];refine .cons ?_ (ih h2 (by simpa using hl));simp only[hs];by_cases e:k'=k
     ·simp[e];exact rv
     simp[e];exact h1
 rw[if_neg hc,if_neg hc];refine⟨kk++ [k],vs++ [v],?_,by simp[hk],r.app (.cons rv .nil),by simp[hl]⟩;rw[List.zip_append hl];rfl
def Bq.wroteD{ρ:List Addr}{h:MH}{n:Nat}{p:Addr}{u0 u1:HO}{m:MO}(S:Bq W F H ρ h)(hp:ρ[n]?=some p)(nf:F p=none)(hH:H p=some u0)(hm:∀x,u0≠ .own x)(l:Cr W F (upd H p u1) p m)(ht:¬Kv u0):Bq W F (upd H p u1) ρ (h.set n m):=by
 refine⟨λb u z=>?_,S.nd,by simp[S.len],λk q m' h1 h2=>?_,S.tb.upd λu e=>by rw[hH]at e;cases e;exact ht,S.tf⟩
 ·rw[Aa (λe=>by subst e;rw[nf]at z;cases z)];exact S.sub _ _ z
 rcases MQ h2 with⟨rfl,rfl⟩|⟨hk,h2⟩
 ·rw[hp]at h1;cases h1;exact l
 have hq:q≠p:=λz=>hk (Nodup.inj S.nd (by rw[←z];exact h1) hp);exact(S.obj k q m' h1 h2).apart hq (Ak.refl _) (λb _=>.inl rfl) (λb o hb z=>by rw[Aa hb];exact z) λx z=>hm x (by rw[hH]at z;cases z;rfl)
def X1{k:List Key}{l:List MV}{q:List Key}(hq:Bi l=some q):look.seqK (.tup (k.map BJ)) (.tup l)=decide (k=q):=by simp only[look.seqK,D8,hq]
theorem IF:∀{l:List MV}{q:List Key},Bi l=some q->l=q.map BJ
 |[],q,h=>by simp only[Bi]at h;cases h;rfl
 |m::l,q,h=>by
  unfold Bi at h;cases e1:BA m with
  |none=>rw[e1]at h;cases h
  |some k=>
   cases e2:Bi l with
   |none=>rw[e1,e2]at h;cases h
   |some ks=>
    rw[e1,e2]at h;cases h;rw[IF e2];cases m<;>simp only[BA]at e1<;>first|(cases e1;done)|(cases e1;rfl)
def Sk(h:BA m=some q):m=BJ q:=by
 cases m<;>simp only[BA]at h<;>first|(cases h;done)|(cases h;rfl)
def X2:look.seqK (BJ k) (BJ q)=decide (k=q):=by
 unfold look.seqK;cases k<;>cases q<;>simp[BJ,BA]
def X9{pos':Pos}(hu:X.A.units+1<cLine)(ho:PE X o (tM W fo))(hi:PE X iter (tM W fi))(he:PE X e (tM W fe))(hs:swapsWith e (some (.Subscript o iter pos')) pos.line X.env=pure false) :
 PS X (.Assign [.Subscript o iter pos'] e pos) (Ez W (VX fo fi fe)):=by
 refine PS.of (U4 hu ho hi he hs) λD σ H ⟨F,ρ,μ,h,S,ee,G⟩=>⟨F,ρ,μ,h,S,ee,(GS.bind (rep:=AC W) ee G).imp ?_⟩;rintro x H1 ⟨F1,ρ1,r1,h1,n1,S1,q1,G1⟩;refine⟨F1,ρ1,μ,h1,S1,ee.nxt n1,(GS.bind (rep:=AC W) (ee.nxt n1) G1).imp ?_⟩;rintro ov H2 ⟨F2,ρ2,r2,h2,n2,S2,q2,G2⟩;refine⟨F2,ρ2,μ,h2,S2,(ee.nxt n1).nxt n2,(GS.bind (rep:=AC W) ((ee.nxt n1).nxt n2) G2).imp ?_⟩;rintro iv H3 ⟨F3,ρ3,r3,h3,n3,S3,q3,G3⟩;split at G3
 ·rename_i m n k;split at G3
  ·rename_i t ks ms hd;split at G3
   ·rename_i hc;obtain⟨hdk,hln⟩:=hc;obtain⟨p,rfl,hp⟩:=q2.nxt n3;obtain⟨nf,vs,r,w⟩:=S3.obj n p _ hp hd;have rr:Aq W F3 m x:=(q1.nxt (r:=.v m) n2).nxt (r:=.v m) n3;have rk:Aq W F3 k iv:=q3;rcases w with⟨kk,rfl,rfl,hH,hl⟩|⟨kk,rfl,rfl,hH,hl⟩
    ·cases k<;>simp only[Ib]at hdk<;>first|(exact absurd hdk aB)|skip
     rename_i kl;obtain⟨q,hq⟩:=bV.mp hdk;obtain⟨kk',us,e1,e2,e3,e4⟩:=NC (toM:=λk:List Key=>MV.tup (k.map BJ)) (k:=q) (m:=.tup kl) (mv:=m) (λk'=>X1 hq) (by rw[IF hq]) r hl rr;unfold Aq at rk;obtain⟨bp,ws,rfl,hb,rb⟩:=rk;refine⟨p,_,rfl,.inr ⟨_,q,bp,hH,rfl,?_,?_,rfl⟩,?_⟩
     ·rw[←DR hq rb];exact S3.sub _ _ hb
     ·rw[eY,hl,iU,←r.len];exact hln
     refine G3 F3 ρ3 _ σ .refl (S3.wroteD hp nf hH (λx z=>by cases z) ⟨nf,us,e3,.inl ⟨kk',rfl,e2,?_,e4⟩⟩ (λz=>z)) (((ee.nxt n1).nxt n2).nxt n3);rw[Ac,e1]
    obtain⟨q,hq⟩:=bV.mp (show(BA k).isSome=true by cases k<;>exact hdk);obtain rfl:=Sk hq;obtain⟨kk',us,e1,e2,e3,e4⟩:=NC (toM:=BJ) (k:=q) (m:=BJ q) (mv:=m) (λk'=>X2) rfl r hl rr;refine⟨p,_,rfl,.inl ⟨_,q,hH,Lm hq rk,?_,rfl⟩,?_⟩
    ·rw[eY,hl,iU,←r.len];exact hln
    refine G3 F3 ρ3 _ σ .refl (S3.wroteD hp nf hH (λx z=>by cases z) ⟨nf,us,e3,.inr ⟨kk',rfl,e2,?_,e4⟩⟩ (λz=>z)) (((ee.nxt n1).nxt n2).nxt n3);rw[Ac,e1]
   exact G3.elim
  exact G3.elim
 exact G3.elim
theorem ND{f:Nat}(rv:Aq W F m v):∀{ns:List Nat}{ms:List MV}{vs:List V},Ad W F ms vs->ns.length=vs.length->∃us,Dl (W.nm f) v ((ns.map W.nm).zip vs)=(((C4 f m ns ms).1).map W.nm).zip us/\Ad W F (C4 f m ns ms).2 us/\(C4 f m ns ms).1.length=us.length
 |[],ms,vs,r,hl=>by
  obtain rfl:vs=[]:=bR.mp (by simpa using hl.symm);have:=r.len;obtain rfl:ms=[]:=bR.mp (by simpa using this);exact⟨[v],rfl,.cons rv .nil,rfl⟩
 |n::ns,ms,vs,r,hl=>by
  cases vs with
  |nil=>simp at hl
  |cons u vs=>
   cases ms with
   |nil=>have:=r.len;simp at this
   |cons q ms=>
    obtain⟨u',us',z,h1,h2⟩:=r.uncons;cases z;rw[aK,bN];unfold Dl C4;by_cases e:n=f
    ·rw[if_pos (by rw[e]),if_pos e];exact⟨v::vs,rfl,.cons rv h2,by simpa using hl⟩
    rw[if_neg (λz=>e (W.inj _ _ z)),if_neg e];obtain⟨us,e1,e2,e3⟩:=ND rv h2 (by simpa using hl);exact⟨u::us,by rw[e1];rfl,.cons h1 e2,by simpa using e3⟩
def X8(hK:X.K=W.K)(kt:Kt cs W){f:Nat}{pos':Pos}(ho:PE X o (tM W fo))(he:PE X e (tM W fe))(hs:swapsWith e (some (.Attribute o (W.nm f) pos')) pos.line X.env=pure false):PS X (.Assign [.Attribute o (W.nm f) pos'] e pos) (Ez W (VW cs fo f fe)):=by
 refine PS.of (Yh ho he hs) λD σ H ⟨F,ρ,μ,h,S,ee,G⟩=>⟨F,ρ,μ,h,S,ee,(GS.bind (rep:=AC W) ee G).imp ?_⟩;rintro x H1 ⟨F1,ρ1,r1,h1,n1,S1,q1,G1⟩;refine⟨F1,ρ1,μ,h1,S1,ee.nxt n1,(GS.bind (rep:=AC W) (ee.nxt n1) G1).imp ?_⟩;rintro ov H2 ⟨F2,ρ2,r2,h2,n2,S2,q2,G2⟩;split at G2
 ·rename_i m n;split at G2
  ·rename_i c' ns ms hd;cases hi:cs[c']? with
   |none=>rw[hi]at G2;exact G2.elim
   |some i=>
    rw[hi]at G2;by_cases hc:i.exc=false/\f∈i.flds/\ns.length<1000
    ·have G2:GS W D F2 ρ2 (if i.exc=false/\f∈i.flds/\ns.length<1000 then some (.nx μ,h2.set n (.ins c' (C4 f m ns ms).1 (C4 f m ns ms).2)) else none):=G2;rw[if_pos hc]at G2;obtain⟨p,rfl,hp⟩:=q2;obtain⟨nf,dx,vs,hH,hD,nd,hl,r⟩:=S2.obj n p _ hp hd;have rr:Aq W F2 m x:=q1.nxt (r:=.v m) n2;obtain⟨us,e1,e2,e3⟩:=ND (f:=f) rr r hl;have hdp:dx≠p:=GY hD hH (by intro z;cases z);refine⟨p,W.ca c',dx,_,rfl,hH,by rw[hK];exact(kt.kc c' i hi hc.1).1,by rw[hK];exact kt.kn c' i f hi hc.2.1 hc.1,?_,?_⟩
     ·rw[eY,aC,hl,iU,←hl];exact hc.2.2
     refine G2 F2 ρ2 _ σ .refl (S2.wroteD hp nf hH (λx z=>by cases z) ⟨nf,dx,us,by rw[Ac,e1],by rw[Aa hdp];exact hD,nd,e3,e2⟩ (λz=>z)) ((ee.nxt n1).nxt n2)
    have G2:GS W D F2 ρ2 (if i.exc=false/\f∈i.flds/\ns.length<1000 then some (.nx μ,h2.set n (.ins c' (C4 f m ns ms).1 (C4 f m ns ms).2)) else none):=G2;rw[if_neg hc]at G2;exact G2.elim
  exact G2.elim
 exact G2.elim
end
section
variable {X:Cx}{W:Wd}{cs:List Ci}{σ:St}{H F:Hp}{a b c e o tg l iter:Expr}{fa fb fc fe fo fi:Ef}{D:Qb}{st:Stmt}
def fk(hp:PassesOwn (model X.prog X.w) X.A X.env X.xe)(hc:X.calm=true)(hi:PI X tg iter (T5 W fw))(hg:PG X tg (TZ W t))(hb:Ig X body (Ez W sb))(hs:∀x,foldedSetIterable iter X.env x=pure x):PS X (.For tg iter body [] pos) (Ez W (av t fw sb)):=by
 refine PS.of (Yg hp hc hi hg hb hs) λD σ H ⟨F,ρ,μ,h,S,ee,G⟩=>⟨F,ρ,μ,h,S,ee,(GS.bind (rep:=Cm W) ee G).imp ?_⟩;rintro J H1 ⟨F1,ρ1,w,h1,n1,S1,yl,G1⟩;refine⟨λi m σ' H'=>A3 (m=w.ms.length-i) (i<=w.ms.length) (E4 λF2 ρ2 μ2 h2=>A4 (DX F1 ρ1 F2 ρ2) (Bq W F2 H' ρ2 h2) (BQ W F2 ρ2 μ2 σ') (GS W D F2 ρ2 (AM w.src w.ms t sb (w.ms.drop i) μ2 h2))),⟨_,rfl,dH _,F1,ρ1,μ,h1,.refl,S1,ee.nxt n1,G1⟩,?_⟩;rintro i m σ' H' ⟨rfl,hi,F2,ρ2,μ2,h2,n2,S2,e2,G2⟩;by_cases hlt:i<w.ms.length
 ·have ed:=iA hlt;rw[ed]at G2;unfold AM at G2;by_cases hsrc:Bs w.src w.ms h2=true
  ·rw[if_pos hsrc]at G2;split at G2
   ·rename_i μ3 hb3;obtain⟨y1,_⟩:=yl i F2 ρ2 H' h2 n2 S2 (DK hsrc);obtain⟨go,y2⟩:=y1 w.ms[i] (by simp[hlt]);refine .inr ⟨go,λσ'' H''=>E4 λF2 ρ2 μ2 h2=>A4 (DX F1 ρ1 F2 ρ2) (Bq W F2 H'' ρ2 h2) (BQ W F2 ρ2 μ2 σ'') (GS W D F2 ρ2 (AM w.src w.ms t sb (w.ms.drop (i+1)) μ2 h2)),λσ'' H'' hN=>⟨w.ms.length-(i+1),by lia,rfl,hlt,hN⟩,λx H3 hy=>?_⟩;obtain⟨F3,s3,S3,r3⟩:=y2 x H3 hy;have n3:DX F2 ρ2 F3 ρ2:=⟨s3,cF _⟩;refine⟨F3,ρ2,μ2,h2,w.ms[i],μ3,S3,e2.nxt n3,r3,hb3,λσ3 e3=>⟨F3,ρ2,μ3,h2,S3,e3,?_⟩⟩;have G3:=GS.nxt n3 G2
    match hx:sb μ3 h2,G3 with
    |none,G3=>exact G3
    |some (.nx μ4,h4),G3=>exact λF4 ρ4 H4 σ4 n4 S4 e4=>⟨F4,ρ4,μ4,h4,(n2.trans n3).trans n4,S4,e4,GS.nxt n4 G3⟩
    |some (.ct μ4,h4),G3=>exact λF4 ρ4 H4 σ4 n4 S4 e4=>⟨F4,ρ4,μ4,h4,(n2.trans n3).trans n4,S4,e4,GS.nxt n4 G3⟩
    |some (.bk μ4,h4),G3=>exact G3
    |some (.rt r,h4),G3=>exact G3
   exact G2.elim
  rw[if_neg hsrc]at G2;exact G2.elim
 have ei:i=w.ms.length:=by lia
 subst ei;rw[List.drop_length]at G2;unfold AM at G2;by_cases hsrc:Bs w.src w.ms h2=true
 ·rw[if_pos hsrc]at G2;obtain⟨_,y2⟩:=yl w.ms.length F2 ρ2 H' h2 n2 S2 (DK hsrc);exact .inl ⟨y2 rfl,G2 F2 ρ2 H' σ' .refl S2 e2⟩
 rw[if_neg hsrc]at G2;exact G2.elim
def nI{n:Nat}(hp:PassesOwn (model X.prog X.w) X.A X.env X.xe)(hc:PT X c (Fi W ta))(hb:Ig X body (Ez W sb)):PS X (.While c body [] pos) (Ez W (C0 ta sb n)):=by
 refine PS.of (QO hp hc hb) ?_;rintro D σ H ⟨F,ρ,μ,h,S,ee,G⟩;refine⟨λm σ' H'=>E4 λF2 ρ2 μ2 h2=>A3 (Bq W F2 H' ρ2 h2) (BQ W F2 ρ2 μ2 σ') (GS W D F2 ρ2 (C0 ta sb m μ2 h2)),⟨n,F,ρ,μ,h,S,ee,G⟩,?_⟩;rintro m σ' H' ⟨F2,ρ2,μ2,h2,S2,e2,G2⟩;cases m with
 |zero=>exact G2.elim
 |succ m=>
  refine⟨F2,ρ2,μ2,h2,S2,e2,(GS.bind (rep:=Zr) e2 G2).imp ?_⟩;rintro k H3 ⟨F3,ρ3,k',h3,n3,S3,rfl,G3⟩;by_cases hk:k'=true
  ·rw[if_pos hk]at G3 ⊢;refine⟨λσ'' H''=>E4 λF2 ρ2 μ2 h2=>A3 (Bq W F2 H'' ρ2 h2) (BQ W F2 ρ2 μ2 σ'') (GS W D F2 ρ2 (C0 ta sb m μ2 h2)),λσ'' H'' hN=>⟨m,eF _,hN⟩,F3,ρ3,μ2,h3,S3,e2.nxt n3,?_⟩
   match hx:sb μ2 h3,G3 with
   |none,G3=>exact G3
   |some (.nx μ4,h4),G3=>exact λF4 ρ4 H4 σ4 n4 S4 e4=>⟨F4,ρ4,μ4,h4,S4,e4,GS.nxt n4 G3⟩
   |some (.ct μ4,h4),G3=>exact λF4 ρ4 H4 σ4 n4 S4 e4=>⟨F4,ρ4,μ4,h4,S4,e4,GS.nxt n4 G3⟩
   |some (.bk μ4,h4),G3=>exact G3
   |some (.rt r,h4),G3=>exact G3
  rw[if_neg hk]at G3 ⊢;exact G3 F3 ρ3 H3 σ' .refl S3 (e2.nxt n3)
def Ul{c0 f:Nat}:PS X st (Ez W (Qs cs c0 f fe)):=by
 intro pins s σ H D I ⟨F,ρ,μ,h,S,e,G⟩;exact G.elim
end
section
def MW(n:∀c o,C.lookup c=some o->F c=some (AT c o)):LS F (del F C):=λb u e hu=>B6 n hu e
theorem Cr.del{a:Addr}{m:MO}(n:∀c o,C.lookup c=some o->F c=some (AT c o))(s:Ak F H)(l:Cr W F H a m):Cr W (del F C) (del H C) a m:=by
 have nh:∀c o,C.lookup c=some o->H c=some (AT c o):=λc o e=>s _ _ (n c o e);have dn:∀{b:Addr},F b=none->L2.del F C b=none:=λ{b} e=>by
  cases q:C.lookup b with
  |none=>rw[Be q];exact e
  |some o=>exact Db q
 cases m with
 |lst l'=>obtain⟨n1,vs,h,r⟩:=l;exact⟨dn n1,vs,B6 nh (λo z=>by cases z) h,r.sameP (MW n)⟩
 |dic t ks ms=>
  obtain⟨n1,vs,r,q⟩:=l;rcases q with⟨kk,e0,e1,e2,e3⟩|⟨kk,e0,e1,e2,e3⟩
  ·exact⟨dn n1,vs,r.sameP (MW n),.inl ⟨kk,e0,e1,B6 nh (λo z=>by cases z) e2,e3⟩⟩
  exact⟨dn n1,vs,r.sameP (MW n),.inr ⟨kk,e0,e1,B6 nh (λo z=>by cases z) e2,e3⟩⟩
 |ins c ns ms=>obtain⟨n1,dx,vs,h1,h2,n2,h3,r⟩:=l;exact⟨dn n1,dx,vs,B6 nh (λo z=>by cases z) h1,B6 nh (λo z=>by cases z) h2,dn n2,h3,r.sameP (MW n)⟩
 |gone m=>
  obtain⟨r,o,h,hn⟩:=l;exact⟨r.sameP (MW n),o,B6 n hn h,hn⟩
theorem Bq.del(S:Bq W F H ρ h)(n:∀c o,C.lookup c=some o->F c=some (AT c o))(nc:∀c o,C.lookup c=some o->∃v,o.data=.cell v):Bq W (del F C) (del H C) ρ h:=by
 have nh:∀c o,C.lookup c=some o->H c=some (AT c o):=λc o e=>S.sub _ _ (n c o e);refine⟨λb u e=>?_,S.nd,S.len,λk a m h1 h2=>(S.obj k a m h1 h2).del n S.sub,λt ht=>?_,λt ht=>?_⟩
 ·obtain⟨e1,e2⟩:=SN e;rw[Be e2];exact S.sub _ _ e1
 ·obtain⟨ps,h1,h2,h3⟩:=S.tb t ht;refine⟨ps,B6 nh (λo z=>by cases z) h1,h2,h3.imp id λ⟨c',oc,vs,t,a,b,c,d⟩=>⟨c',oc,vs,t,a,?_,c,d⟩⟩;cases q:C.lookup c' with
  |none=>rw[Be q];exact b
  |some o=>
   exfalso
   have e1:=nh c' o q;rw[b]at e1;cases e1;obtain⟨v,hv⟩:=nc c' _ q;rw[c]at hv;cases hv
 cases q:C.lookup t.1 with
 |none=>rw[Be q];exact S.tf t ht
 |some o=>exact Db q
def AC.del(n:∀c o,C.lookup c=some o->F c=some (AT c o)):∀{r:R}{v:V},Jy r=true->AC W F ρ r v->AC W (del F C) ρ r v
 |.v m,_,_,h=>Aq.sameP (MW n) h
 |.r k,_,_,h=>h
 |.l _ _,_,z,_=>absurd z aB
theorem AF.del(n:∀c o,C.lookup c=some o->F c=some (AT c o)):∀{rs:List R}{vs:List V},rs.all Jy=true->AF W F ρ rs vs->AF W (del F C) ρ rs vs
 |[],_,_,h=>by cases h;exact .nil
 |r::rs,_,z,h=>by
  have z:Jy r=true/\rs.all Jy=true:=by simpa using z
  cases h with
  |cons q t=>exact .cons (AC.del n z.1 q) (AF.del n z.2 t)
theorem QH:∀{ms:List MV}{vs:List V},Ad W F ms vs->AF W F ρ (ms.map .v) vs
 |[],vs,h=>by rw[Ad.nil_iff h];exact .nil
 |m::ms,vs,h=>by
  obtain⟨v,r,rfl,h1,h2⟩:=h.uncons;exact .cons h1 (QH h2)
theorem Es{α β:Type}{R:α->β->Prop}:∀{l l2:List α}{m m2:List β},Paired R l m->Paired R l2 m2->Paired R (l++l2) (m++m2)
 |[],_,_,_,h,h2=>by cases h;exact h2
 |_::_,_,_,_,h,h2=>by
  cases h with
  |cons q t=>exact .cons q (Es t h2)
def CP{α β:Type}{R:α->β->Prop}{l:List α}{l':List β}(h:Paired R l l'):l.length=l'.length:=by
 induction h with
 |nil=>rfl
 |cons _ _ ih=>simp[ih]
def Cs.put(s:Ak F H)(n:∀c o,C.lookup c=some o->H c=none):Cs F H (put F C) (put H C):=by
 have nf:∀c o,C.lookup c=some o->F c=none:=λc o e=>s.free (n c o e);refine⟨λb u e=>CO nf e,λb u e=>CO n e,λb u e=>?_,λb u e _ f=>?_⟩
 ·cases q:C.lookup b with
  |none=>rw[Bb q]at e ⊢; exact s _ _ e
  |some o=>rw[Ep q]at e ⊢; exact e
 cases q:C.lookup b with
 |none=>rw[Bb q];exact f
 |some o=>rw[n b o q]at e;cases e
def oV(r:AF W F ρ rs vs):BQ W F ρ (rs.map some++List.replicate (N.length-rs.length) none) (L2.B9 N vs):=by
 have l:=CP r;refine⟨by simp[L2.B9,l],λi q h=>?_⟩;unfold L2.B9;by_cases hi:i<rs.length
 ·rw[aO (by simpa using hi),aJ]at h;cases hq:rs[i]? with
  |none=>rw[hq]at h;simp at h
  |some q'=>
   rw[hq]at h;cases h;have:∀{rs:List R}{vs:List V}{i:Nat}{q:R},AF W F ρ rs vs->rs[i]?=some q->∃v,vs[i]?=some v/\AC W F ρ q v:=by
     intro rs
     induction rs with
     |nil=>intro vs i q _ e;simp at e
     |cons x rs ih=>
      intro vs i q r e;cases r with
      |cons q0 t=>
       cases i with
       |zero=>simp at e;subst e;exact⟨_,rfl,q0⟩
       |succ i=>simpa using ih t (i:=i) (by simpa using e)
   obtain⟨v,hv,rv⟩:=this r hq;exact⟨v,by rw[aO (by simp;lia),aJ,hv];rfl,rv⟩
 rw[aQ (by simpa using hi),cM]at h;split at h<;>cases h
def Tu(P:Program)(w:World)(K:PySem.W.Frag)(mg:Str->Option Value)(base:Heap)(W:Wd)(Φ:Fs)(j:Nat):Prop:=∀(F:Hp) (k:Nat) (vs:List V) (v:V),W.lamR F k vs v->∃(l:Tw) (g:Ef),ZQ l/\
 (∀rs h,Φ k rs h=.no\/(rs.length=l.xs.length+l.ps.length/\Φ k rs h=g (rs.map some++List.replicate ((l.xs++l.ps).length-rs.length) none) h))/\
 (∀(f c':Addr) (cl:List (Str×Addr)) (A:Around) (outer:List Env) (s:Shared) (H:Hp),HC (l.xs++l.ps) l.xs l.ps l.scope cl->Bp j (A.deeper (PySem.W.envX l.qual l.scope s.heap.objs.size f (.ref c') cl))->PE (ae P w K mg base (l.xs++l.ps) l.qual l.scope f (.ref c') cl A outer s H) l.body (tM W g))/\
 E7 λf c' oc pm ctv cl C=>A3 (v=.ref f) (PY l oc cl C vs) (Ke l F f c' oc pm ctv cl C)
def XU{i j:Nat}{x:Str}(hN:X.N[i]?=some x)(hv:WK X.env.scope x)(hd:(x ==("__debug__" :Str))=false)(hcd:(x ==("__classdict__" :Str))=false)(hr:Bp (j+1) X.A)(hL:Tu X.prog X.w X.K X.mg X.base W Φ j)(ha:PA X (e::es) (HG W fs))(he:starEach (e::es) X.env=(false,eval e X.env)::starEach es X.env)(hpl:(backTo pos (starEach es X.env)).any (·.1)=false) :
 PE X (.Call (.Name x p) (e::es) [] pos) (tM W (Tg Φ i fs)):=by
 intro pins s σ H Q I ⟨F,ρ,μ,h,S,ee,G⟩;unfold Tg at G;split at G
 ·rename_i k ms hm;obtain⟨v,hσ,vs,lr,rp⟩:=ee.at_ i _ hm;obtain⟨l,g,hB,hΦ,hbd,f,c',oc,pm,ctv,cl,C,rfl,kk,lh⟩:=hL F k vs v lr;refine UP (l:=l) hN hv hd hcd hr hB hbd ha he hpl pins s σ H Q I ⟨f,c',oc,pm,ctv,cl,C,vs,hσ,kk,F,ρ,μ,h,S,ee,(Am.bind (rep:=AF W) G).imp ?_⟩;rintro us H1 ⟨F1,ρ1,rs,h1,n1,S1,q1,G1⟩;by_cases hnl:rs.all Jy=true
  ·rw[if_pos hnl]at G1;rcases hΦ (ms.map .v++rs) h1 with z|⟨hlen,z⟩
   ·rw[z]at G1;exact G1.elim
   rw[z]at G1;have lh1:=lh.same n1.s;have l1:=CP q1;have l2:=rp.len;have l3:=kk.len;rw[aV,aC]at hlen;refine⟨lh1.same S1.sub,by lia,del F1 C,ρ1,_,h1,S1.del lh1.cs kk.all,oV (N:=l.xs++l.ps) (Es (QH ((rp.same n1.s).sameP (MW lh1.cs))) (AF.del lh1.cs hnl q1)),?_⟩;cases hg:g ((ms.map R.v++rs).map some++List.replicate ((l.xs++l.ps).length-(ms.map R.v++rs).length) none) h1 with
   |no=>rw[hg]at G1;exact G1.elim
   |ok r h'=>
    rw[hg]at G1;intro F' ρ' H' v n' S' rv hno;have hnf:∀c o,C.lookup c=some o->F' c=none:=λc o e=>S'.sub.free (hno c o e);have nx:DX F1 ρ1 (put F' C) ρ':=⟨λb u e=>by
      cases q:C.lookup b with
      |none=>rw[Bb q];exact n'.s _ _ (by rw[Be q];exact e)
      |some o=>rw[lh1.cs b o q]at e;cases e;exact Ep q,n'.p⟩
    have gr:=Cs.put S'.sub hno;cases r with
    |l _ _=>exact G1.elim
    |v m=>exact G1 _ ρ' _ v nx (S'.grow gr) (AC.nxt gr.nxt rv)
    |r m=>exact G1 _ ρ' _ v nx (S'.grow gr) (AC.nxt gr.nxt rv)
  rw[if_neg hnl]at G1;exact G1.elim
 exact G.elim
def Q3(X:Cx)(W:Wd)(params:Arguments)(body:Expr)(scope:Scope)(lpos:Pos)(P:Addr)(fs:En->MH->AI (List R)):TA:=λσ H Q=>ZJ W σ H λF ρ μ h=>GA W F ρ (fs μ h) λvs H1=>Q4 X params body scope lpos P σ H1 λv H2=>Q (vs++ [v]) H2
def XN(hp:PE X (.Lambda params body scope lpos) (Q4 X params body scope lpos P)):PA X [.Lambda params body scope lpos] (Q3 X W params body scope lpos P λ_ h=>.ok [] h):=
 PA.of (EQ hp Jv rfl) λσ H Q ⟨F,ρ,μ,h,S,ee,G⟩=>(Am.ret (rep:=AF W) G S .nil:Q4 X params body scope lpos P σ H λv H2=>Q ([]++ [v]) H2)
def XO(he:PE X e (tM W fe))(hs:PA X es (Q3 X W params body scope lpos P fs))(hst:starEach (e::es) X.env=(false,eval e X.env)::starEach es X.env):PA X (e::es) (Q3 X W params body scope lpos P λμ h=>(fe μ h).bind λx h1=>(fs μ h1).bind λxs h2=>.ok (x::xs) h2):=by
 refine PA.of (EQ he hs hst) λσ H Q ⟨F,ρ,μ,h,S,ee,G⟩=>⟨F,ρ,μ,h,S,ee,(Am.bind (rep:=AC W) G).imp ?_⟩;rintro x H1 ⟨F1,ρ1,r,h1,n1,S1,q1,G1⟩;refine⟨F1,ρ1,μ,h1,S1,ee.nxt n1,(Am.bind (rep:=AF W) G1).imp ?_⟩;rintro xs H2 ⟨F2,ρ2,rs,h2,n2,S2,q2,G2⟩;exact G2.ret S2 (.cons (q1.nxt n2) q2)
def Tv(W:Wd)(k:Nat)(l:Tw):Prop:=∀(F:Hp) (f c':Addr) (oc:Obj) (pm ctv:Value) (cl:List (Str×Addr)) (C:List (Addr×Obj)) (vs:List V),PY l oc cl C vs->Ke l F f c' oc pm ctv cl C->W.lamR F k vs (.ref f)
def Cr.made{F2 H':Hp}{a:Addr}{m:MO}{P:Addr}(sF:Ak F F2)(sH:∀b u,H b=some u->¬Kv u->H' b=some u)(lv:∀b u,H b=some u->¬Kv u->F b=none->F2 b=none)(l:Cr W F H a m):Cr W F2 H' a m:=by
 cases m with
 |lst l'=>obtain⟨n,vs,h,r⟩:=l;exact⟨lv _ _ h id n,vs,sH _ _ h id,r.same sF⟩
 |dic t ks ms=>
  obtain⟨n,vs,r,q⟩:=l;rcases q with⟨kk,e0,e1,e2,e3⟩|⟨kk,e0,e1,e2,e3⟩
  ·exact⟨lv _ _ e2 id n,vs,r.same sF,.inl ⟨kk,e0,e1,sH _ _ e2 id,e3⟩⟩
  exact⟨lv _ _ e2 id n,vs,r.same sF,.inr ⟨kk,e0,e1,sH _ _ e2 id,e3⟩⟩
 |ins c ns ms=>obtain⟨n,dx,vs,h1,h2,n2,h3,r⟩:=l;exact⟨lv _ _ h1 id n,dx,vs,sH _ _ h1 id,sH _ _ h2 id,lv _ _ h2 id n2,h3,r.same sF⟩
 |gone m=>obtain⟨r,o,h,hn⟩:=l;exact⟨r.same sF,o,sF _ _ h,hn⟩
theorem IT(ee:BQ W F ρ μ σ):∀{js:List Nat}{ms:List MV},Ie μ js=some ms->∃cvs,Ad W F ms cvs/\cvs.length=js.length/\∀i j:Nat,js[i]?=some j->∃v,cvs[i]?=some v/\σ[j]?=some (some v)
 |[],ms,h=>by cases h;exact⟨[],.nil,rfl,λi j e=>by simp at e⟩
 |j::js,ms,h=>by
  unfold Ie at h;split at h
  ·rename_i m hm;obtain⟨l,hl,rfl⟩:=aG.mp h;obtain⟨cvs,h1,h2,h3⟩:=IT ee hl;obtain⟨v,hv,rv⟩:=ee.at_ j _ hm;refine⟨v::cvs,.cons rv h1,by simp[h2],λi j' e=>?_⟩;cases i with
   |zero=>simp at e;subst e;exact⟨v,rfl,hv⟩
   |succ i=>simpa using h3 i j' (by simpa using e)
  cases h
def je{cl:Cq}{g:Addr->Obj}{c:Addr}{o:Obj}:(cl.map λp=>(p.2,g p.2)).lookup c=some o->(∃x,(x,c)∈cl)/\o=g c:=by
 induction cl with
 |nil=>intro h;simp at h
 |cons p cl ih=>
  intro h;rw[aK,c9]at h;split at h
  ·rename_i e;have e:=aR.mp e;cases h;exact⟨⟨p.1,by rw[e];exact aH⟩,by rw[e]⟩
  obtain⟨⟨x,hx⟩,h2⟩:=ih h;exact⟨⟨x,aE _ hx⟩,h2⟩
def YK{cl:Cq}{g:Addr->Obj}{p:Str×Addr}(hp:p∈cl):(cl.map λp=>(p.2,g p.2)).lookup p.2=some (g p.2):=by
 induction cl with
 |nil=>simp at hp
 |cons q cl ih=>
  rw[aK,c9];by_cases e:p.2=q.2
  ·rw[←e];simp
  rw[show(p.2 ==q.2)=false from bS.mpr e];rcases aU.mp hp with z|z
  ·exact absurd (by rw[z]) e
  exact ih z
def XW{f k j:Nat}{x:Str}{js:List Nat}{xs lps:List Str}(Fn:PZ X.prog X.w X.K X.mg X.base x j ps (K0 W Φ f))(hr:Bp j X.A)(hg:Gl X x)(hdb:(x ==("__debug__" :Str))=false)(hK:∃e0 es0,args=e0::es0/\starEach (e0::es0) X.env=(false,eval e0 X.env)::starEach es0 X.env/\(backTo pos (starEach es0 X.env)).any (·.1)=false)
 (ha:PA X args (Q3 X W params body scope lpos P fs))(hP:(P,X.env.qual++ "<lambda>",lpos)∈W.tl)(hone:∀t∈W.tl,t.1=P->t=(P,X.env.qual++ "<lambda>",lpos))(hfn:∀x,X.fn x=true)
 (hm:Tv W k ⟨X.env.qual++ "<lambda>",params,body,scope,xs,lps⟩)(hsc:∀cl:List (Str×Addr),(∀x,scope.names.lookup x=some .free->∃c,cl.lookup x=some c)->(∀x y c,cl.lookup x=some c->cl.lookup y=some c->x=y)->HC (xs++lps) xs lps scope cl)
 (hjs:xs.length=js.length/\∀(i j:Nat) (y:Str),xs[i]?=some y->js[i]?=some j->X.N[j]?=some y/\X.env.scope.names.lookup y=some .cell) :
 PE X (.Call (.Name x p) args [] pos) (tM W (WE Φ f fs k js)):=by
 obtain⟨fa,fdd,Ff,hmg,hk,hb⟩:=Fn.ex;obtain⟨e0,es0,rfl,he,hpl⟩:=hK;intro pins s σ H Q I ⟨F,ρ,μ,h,S,ee,G⟩;refine cC (DQ I hg hmg ?_ hdb);have G0:=Am.bind (rep:=AF W) G;refine PySem.W.callWith_K (h₀:=X.base) I.ok.mod.kin hk (AV (ha pos pins s σ H (λws H2=>E9 λF2 ρ1 rs h1 ms vs g c' oc=>E2 λctv cl=>A9 (ws=vs++ [V.ref g]) (DX F ρ F2 ρ1) (Bq W F2 H2 ρ1 h1) (AF W F2 ρ1 rs vs) (Ie μ js=some ms) (GE W F2 ρ1 (noL (Φ f (rs++ [.l k ms]) h1)) Q) (F2 g=some (AT g (PySem.W.kla_obj "<lambda>" (X.env.qual++ "<lambda>") params body scope cl ((X.mg "__name__").getD .none) c' ctv))) (F2 c'=some (AT c' oc)) (A3 ((∃vs t,oc.data=.fields vs/\vs[1]?=some (.str (X.env.qual++ "<lambda>") t))) ((∀p∈cl,X.env.cells.lookup p.1=some p.2)) (∀x,scope.names.lookup x=some .free->∃c,cl.lookup x=some c))) I ⟨F,ρ,μ,h,S,ee,G0.imp ?_⟩) λus s1 ⟨ws,H1,I1,r,q⟩=>⟨I1.kIn,?_⟩) he hpl
 ·rintro vs H1 ⟨F1,ρ1,rs,h1,n1,S1,q1,G1⟩;cases hcap:Ie μ js with
  |none=>rw[hcap]at G1;exact G1.elim
  |some ms=>
   rw[hcap]at G1;obtain⟨ps,t1,t2⟩:=S1.tb _ hP;refine⟨ps,t1,t2,λH' g c' oc ctv cl L=>?_⟩;obtain⟨ps',t3,t4⟩:=L.tab;have hcP:c'≠P:=λz=>by have:=L.cd;rw[z,t3]at this;cases this
   have hgc:g≠c':=λz=>by
    have e1:=L.fn;rw[z,L.cd]at e1;cases e1;obtain⟨w,t,hw,_⟩:=L.code;cases hw
   have fc:∀u,F1 c'=some u->u=AT c' oc:=λu e=>by
    have:=L.old _ _ (S1.sub _ _ e) hcP;rw[L.cd]at this;cases this;rfl
   have sF:Ak F1 (upd (upd F1 c' (AT c' oc)) g (AT g (PySem.W.kla_obj "<lambda>" (X.env.qual++ "<lambda>") params body scope cl ((X.mg "__name__").getD .none) c' ctv))):=λb u e=>by
    rw[Aa (λz=>by have:=S1.sub _ _ e;rw[z,L.new]at this;cases this)];by_cases hb:b=c'
    ·subst hb;rw[Ac,fc u e]
    rw[Aa hb];exact e
   have sH:∀b u,H1 b=some u->¬Kv u->H' b=some u:=λb u e n=>L.old b u e λz=>by rw[z,t1]at e;cases e;exact n trivial
   have nF:∀{b:Addr},b≠g->b≠c'->F1 b=none->(upd (upd F1 c' (AT c' oc)) g (AT g (PySem.W.kla_obj "<lambda>" (X.env.qual++ "<lambda>") params body scope cl ((X.mg "__name__").getD .none) c' ctv))) b=none:=λ{b} h1 h2 e=>by rw[Aa h1,Aa h2];exact e
   have ng:∀{b:Addr}{u:HO},H1 b=some u->b≠g:=λ{b u} e z=>by rw[z,L.new]at e;cases e
   refine⟨_,ρ1,rs,h1,ms,vs,g,c',oc,ctv,cl,rfl,n1.trans ⟨sF,cF _⟩,⟨λb u e=>?_,S1.nd,S1.len,λn a m e1 e2=>(S1.obj n a m e1 e2).made (P:=P) sF sH λb u e hn f=>nF (ng e) (λz=>?_) f,λt ht=>?_,λt ht=>?_⟩,q1.nxt ⟨sF,cF _⟩,rfl,G1.nxt ⟨sF,cF _⟩,Ac,by rw[Aa (bM hgc)];exact Ac,L.code,L.sub,L.has⟩
   ·by_cases hb:b=g
    ·subst hb;rw[Ac]at e;cases e;exact L.fn
    rw[Aa hb]at e;by_cases hb2:b=c'
    ·subst hb2;rw[Ac]at e;cases e;exact L.cd
    rw[Aa hb2]at e;exact L.old _ _ (S1.sub _ _ e) λz=>by rw[z,S1.tf _ hP]at e;cases e
   ·have:=sH b u e hn;rw[z,L.cd]at this;cases this;exact hn trivial
   ·by_cases hp:t.1=P
    ·rw[hone t ht hp];exact⟨ps',t3,t4⟩
    obtain⟨qs,a1,a2,a3⟩:=S1.tb t ht;refine⟨qs,L.old _ _ a1 hp,a2,a3.imp id λ⟨d,od,w,t,x1,x2,x3,x4⟩=>⟨d,od,w,t,x1,L.old _ _ x2 (λz=>by rw[z,t1]at x2;cases x2),x3,x4⟩⟩
   obtain⟨qs,a1,_⟩:=S1.tb t ht;refine nF (ng a1) (λz=>?_) (S1.tf t ht);by_cases hp:t.1=P
   ·exact hcP (by rw[←z];exact hp)
   have:=L.old _ _ a1 hp;rw[z,L.cd]at this;cases this
 obtain⟨F2,ρ1,rs,h1,ms,vs,g,c',oc,ctv,cl,rfl,nx,S2,q2,hcap,G2,hg',hc',hcode,ksub,khas⟩:=q;have cellA:∀p∈cl,∃o v,s1.heap.get? p.2=some o/\o.data=.cell v:=λp hp=>by
  obtain⟨v,o,ho,hd⟩:=I1.cell p.1 p.2 (ksub p hp);exact⟨o,v,ho,hd⟩
 have cinfo:∀c o,(cl.map λp=>(p.2,(s1.heap.get? p.2).getD default)).lookup c=some o->∃p∈cl,p.2=c/\s1.heap.get? c=some o/\∃v,o.data=.cell v:=λc o e=>by
  obtain⟨⟨x,hx⟩,rfl⟩:=je (g:=λa=>(s1.heap.get? a).getD default) e;obtain⟨o,v,ho,hd⟩:=cellA (x,c) hx;refine⟨(x,c),hx,rfl,?_⟩;rw[ho];exact⟨rfl,v,hd⟩
 have CS:Jd X H1 s1 (cl.map λp=>(p.2,(s1.heap.get? p.2).getD default)):=⟨λc o e=>by
  obtain⟨p,hp,rfl,ho,_⟩:=cinfo c o e;exact⟨I1.freeC p.1 p.2 (ksub p hp),ho⟩,λc o e=>by
  obtain⟨p,hp,rfl,ho,_⟩:=cinfo c o e;exact⟨I1.ok.cab p.1 p.2 (hfn _) (ksub p hp),I1.cne p.1 p.2 (ksub p hp)⟩,λc o e=>by
  obtain⟨p,hp,rfl,ho,hv⟩:=cinfo c o e;exact hv⟩
 generalize hC:(cl.map λp=>(p.2,(s1.heap.get? p.2).getD default))=C at CS cinfo;have look:∀p∈cl,∃o,C.lookup p.2=some o/\s1.heap.get? p.2=some o:=λp hp=>by
  obtain⟨o,v,ho,hd⟩:=cellA p hp;refine⟨o,?_,ho⟩;rw[←hC,YK (g:=λa=>(s1.heap.get? a).getD default) hp,ho];rfl
 obtain⟨cvs,rc,lc,ac⟩:=IT (ee.nxt nx) hcap;have gr:Cs F2 H1 (put F2 C) (put H1 C):=Cs.put S2.sub λc o e=>(CS.at_ c o e).1;have sc:=hsc cl khas λx y c h1 h2=>I1.ok.inj x y c (ksub _ (PySem.mem_of_lookup h1)) (ksub _ (PySem.mem_of_lookup h2));have kk:PY ⟨X.env.qual++ "<lambda>",params,body,scope,xs,lps⟩ oc cl C cvs:=by
  refine⟨hcode,λx c e=>?_,sc,λi y v e1 e2=>?_,by rw[lc];exact hjs.1.symm,CS.cl⟩
  ·obtain⟨o,e1,e2⟩:=look _ (PySem.mem_of_lookup e);obtain⟨v,hv⟩:=CS.cl _ _ e1;exact⟨o,v,e1,hv⟩
  have hi:i<js.length:=by rw[←hjs.1];exact(a9.mp e1).1
  obtain⟨n1,n2⟩:=hjs.2 i js[i] y e1 (by simp[hi]);obtain⟨v',e3,e4⟩:=ac i js[i] (by simp[hi]);rw[show cvs[i]?=some v from e2]at e3;cases e3;obtain⟨m,_,hl⟩:=I1.loc;obtain⟨u,ru,lk⟩:=hl js[i] y v n1 e4 (.inr (.inl n2));obtain⟨c,e5⟩:=khas y (sc.cap y (aP e1));have e6:=ksub _ (PySem.mem_of_lookup e5);obtain⟨o,e7,e8⟩:=look _ (PySem.mem_of_lookup e5);rcases lk with⟨z,_⟩|⟨_,c2,e9,o2,e10,e11⟩
  ·have z:X.env.scope.names.lookup y=some .local:=z;rw[n2]at z;cases z
  rw[show X.env.cells.lookup y=some c from e6]at e9;cases e9;rw[show s1.heap.get? c=some o from e8]at e10;cases e10;exact⟨c,u,o,e5,ru,e7,e11⟩
 have lh:Ke ⟨X.env.qual++ "<lambda>",params,body,scope,xs,lps⟩ (put F2 C) g c' oc ((X.mg "__name__").getD .none) ctv cl C:=⟨gr.f _ _ hg',gr.f _ _ hc',λc o e=>Ep e⟩;have back:∀{F':Hp}{ρ':List Addr},DX (put F2 C) ρ1 F' ρ'->(∀c o,C.lookup c=some o->F' c=some (AT c o))/\DX F2 ρ1 (del F' C) ρ':=λ{F' ρ'} n'=>by
  have nc:∀c o,C.lookup c=some o->F' c=some (AT c o):=λc o e=>n'.s _ _ (Ep e);refine⟨nc,λb u e=>?_,n'.p⟩;cases q:C.lookup b with
  |none=>rw[Be q];exact n'.s _ _ (by rw[Bb q];exact e)
  |some o=>have:=S2.sub _ _ e;rw[(CS.at_ b o q).1]at this;cases this
 refine Up Ff hr hb I1 CS r ⟨put F2 C,ρ1,h1,rs++ [.l k ms],S2.grow gr,Es (AF.nxt gr.nxt q2) (.cons (show AC W (put F2 C) ρ1 (.l k ms) (.ref g) from⟨cvs,hm _ _ _ _ _ _ _ _ _ kk lh,rc.same gr.f⟩) .nil),?_⟩;cases hΦ:Φ f (rs++ [.l k ms]) h1 with
 |no=>rw[hΦ]at G2;exact G2.elim
 |ok rr h'=>
  rw[hΦ]at G2;intro F' ρ' H' v n' S' rv _;obtain⟨nc,n2⟩:=back n';cases rr with
  |l _ _=>exact G2.elim
  |v m=>exact G2 (del F' C) ρ' (del H' C) v n2 (S'.del nc CS.cl) (AC.del nc rfl rv)
  |r m=>exact G2 (del F' C) ρ' (del H' C) v n2 (S'.del nc CS.cl) (AC.del nc rfl rv)
def Cs.junk{p:Addr}{o:HO}(s:Ak F H)(n:H p=none):Cs F H F (upd H p o):=⟨Ak.refl _,.new n,λb u e=>by rw[Aa (Aj (s _ _ e) n)];exact s _ _ e,λ_ _ _ _ f=>f⟩
theorem K7{n:Nat}:∀{l:List Nat},Ad W F (l.map λ(i:Nat)=>MV.int ((0:Int)+(i:Nat))) (l.map λ(i:Nat)=>V.int i)
 |[]=>.nil
 |i::l=>.cons (by unfold Aq;simp) (K7 (n:=n))
def XM{x y:Str}(hc:X.calm=true)(hx:x= "list")(hy:y= "range")(g1:Gl X x)(g2:Gl X y)(n1:X.mg x=none)(n2:X.mg y=none)(ha:PE X e (tM W fa))(he:starEach [e] X.env=(false,eval e X.env)::starEach [] X.env) :
 PE X (.Call (.Name x p) [.Call (.Name y p2) [e] [] pos2] [] pos) (tM W (WB fa)):=by
 subst hx hy;refine PE.of (CA (JS hc) g1 n1 (by decide +kernel) (EQ (CA LH g2 n2 PyProof.Rows.boot_range (EQ ha Jv he) (by decide) (by decide) he rfl) Jv rfl) (by decide) (by decide) rfl rfl) λσ H Q ⟨F,ρ,μ,h,S,ee,G⟩=>⟨F,ρ,μ,h,S,ee,(Am.bind (rep:=AC W) G).imp ?_⟩;rintro v H1 ⟨F1,ρ1,r,h1,n1,S1,q1,G1⟩;cases hr:T8 r with
 |none=>rw[hr]at G1;exact G1.elim
 |some i=>
  rw[hr]at G1;by_cases hi:0<=i/\i<=1000
  ·have G1:Am W (AC W) F1 ρ1 (if 0<=i/\i<=1000 then .ok (.v (.lst (BM 0 i.toNat))) h1 else .no) Q:=G1;rw[if_pos hi]at G1;refine⟨i,by rw[Nm hr q1],λq nq=>⟨q,i.toNat,rfl,by rw[Ac,show((i.toNat:Nat):Int)=i by lia],by lia,λl nl=>?_⟩⟩;have g1:Cs F1 H1 F1 (upd H1 q (.rng 0 i)):=.junk S1.sub nq;have g2:Cs F1 (upd H1 q (.rng 0 i)) (upd F1 l (.lst ((List.range i.toNat).map λ(i:Nat)=>V.int i))) (upd (upd H1 q (.rng 0 i)) l (.lst ((List.range i.toNat).map λ(i:Nat)=>V.int i))):=.new g1.sub nl;refine G1 _ ρ1 _ _ g2.nxt ((S1.grow g1).grow g2) ?_;show Aq W _ (.lst _) _;unfold Aq;exact⟨l,_,rfl,Ac,K7 (n:=0)⟩
  have G1:Am W (AC W) F1 ρ1 (if 0<=i/\i<=1000 then .ok (.v (.lst (BM 0 i.toNat))) h1 else .no) Q:=G1;rw[if_neg hi]at G1;exact G1.elim
end
structure Gt where
 cs:List Ci
 fns:List Str
 nm:Nat->Str
 glo:List (Str×MV)
 blt:List Str
 ini:Nat->Option Nat
 cf:Nat->Nat->Option Nat
 lam:Nat->List Str×List Str
 lck:Nat->Expr->Scope->Bool
structure Ct where
 N:List Str
 sc:Scope
 fn:Bool
 lp:List Pos
noncomputable def kd(Γ:Ct)(x:Str):Option NameKind:=Γ.sc.names.lookup x
noncomputable def odd(x:Str):Bool:=x== "__debug__" ||x== "__classdict__" ||x== "__name__"
noncomputable def vis(Γ:Ct)(i:Nat)(x:Str):Bool:=decide (Γ.N[i]?=some x)&&(kd Γ x ==some .local||kd Γ x ==some .cell||kd Γ x ==some .free)&& !odd x
noncomputable def sto(Γ:Ct)(i:Nat)(x:Str):Bool:=decide (Γ.N[i]?=some x)&&(kd Γ x ==some .local||(kd Γ x ==some .cell&&Γ.fn))
noncomputable def gl(Γ:Ct)(x:Str):Bool:=kd Γ x ==some .globalImplicit&& !odd x
noncomputable def Bj:Expr->Bool
 |.Starred _ _=>true
 |_=>false
noncomputable def DO:Expr->Bool
 |.Call (.Name _ _) [] [] _=>false
 |_=>true
noncomputable def D3:Expr->Bool
 |.Set _ _ _=>false
 |_=>true
noncomputable def CB:Expr->Bool
 |.Slice _ _ _ _=>false
 |_=>true
noncomputable def CT:Expr->Bool
 |.ListComp _ _ _ _=>false
 |.SetComp _ _ _ _=>false
 |.DictComp _ _ _ _ _=>false
 |_=>true
noncomputable def RK:Expr->Bool
 |.Tuple _ _ _=>false
 |_=>true
noncomputable def GN(scope sc:Scope):Scope:={scope with names:=scope.names.map λ(n,k)=>if (k ==NameKind.free&&sc.kind== .function&&sc.names.lookup n ==some .cell) then(n,.cell) else(n,k)}
noncomputable def Sv:MV->Const->Bool
 |.non,.none=>true
 |.bl b,.bool b'=>b ==b'
 |.int i,.int j=>i ==j
 |.str x,.str y=>x ==y
 |_,_=>false
noncomputable def MZ(scope:Scope)(Γ:Ct)(xs ys:List Str)(js:List Nat):Bool:=
 scope.kind== .function&&scope.names.all (λy=>y.2 != .cell)&&scope.names.all (λy=>y.2 != .local||scope.names.lookup y.1 ==some .local)
 && scope.names.all (λy=>y.2 != .free||Γ.sc.names.lookup y.1 ==some .cell||Γ.sc.names.lookup y.1 ==some .free)
 && decide (ys.length=js.length)&&(ys.zip js).all (λp=>decide (Γ.N[p.2]?=some p.1)&&scope.names.lookup p.1 ==some .free&&scope.names.contains (p.1,NameKind.free)&&(Γ.sc.names.lookup p.1 ==some .cell||Γ.sc.names.lookup p.1 ==some .free))
 && decide (xs++ys).Nodup
noncomputable def Qg(f:Str->Pos->Bool)(e:Expr):Bool:=if h:e.ctorIdx=23 then Expr.Name.elim e h f else false
noncomputable def Z1(f:Const->Bool)(e:Expr):Bool:=if h:e.ctorIdx=19 then Expr.Constant.elim e h (λc _ _=>f c) else false
noncomputable def Kq(f:List Expr->Nat->Pos->Bool)(e:Expr):Bool:=if h:e.ctorIdx=25 then Expr.Tuple.elim e h f else false
noncomputable def Ve(f:List Expr->Bool)(e:Expr):Bool:=if h:e.ctorIdx=24 then Expr.List.elim e h (λl _=>f l) else false
noncomputable def Zv(f:List (Option Expr)->List Expr->Bool)(e:Expr):Bool:=if h:e.ctorIdx=6 then Expr.Dict.elim e h (λk v _=>f k v) else false
noncomputable def Tp(f:Expr->Str->Pos->Bool)(e:Expr):Bool:=if h:e.ctorIdx=20 then Expr.Attribute.elim e h f else false
noncomputable def OF(f:Expr->Expr->Bool)(e:Expr):Bool:=if h:e.ctorIdx=21 then Expr.Subscript.elim e h (λx y _=>f x y) else false
noncomputable def Xt(f:Option Expr->Option Expr->Option Expr->Bool)(e:Expr):Bool:=if h:e.ctorIdx=26 then Expr.Slice.elim e h (λl h s _=>f l h s) else false
noncomputable def Z8(f:Expr->Operator->Expr->Bool)(e:Expr):Bool:=if h:e.ctorIdx=2 then Expr.BinOp.elim e h (λx o y _=>f x o y) else false
noncomputable def TQ(f:UnaryOp->Expr->Bool)(e:Expr):Bool:=if h:e.ctorIdx=3 then Expr.UnaryOp.elim e h (λo x _=>f o x) else false
noncomputable def VC(f:Expr->List CmpOp->List Expr->Bool)(e:Expr):Bool:=if h:e.ctorIdx=15 then Expr.Compare.elim e h (λx o y _=>f x o y) else false
noncomputable def VL(f:BoolOp->List Expr->Bool)(e:Expr):Bool:=if h:e.ctorIdx=0 then Expr.BoolOp.elim e h (λo l _=>f o l) else false
noncomputable def Zc(f:Expr->Expr->Expr->Bool)(e:Expr):Bool:=if h:e.ctorIdx=5 then Expr.IfExp.elim e h (λx y z _=>f x y z) else false
noncomputable def Vn(f:Expr->List Expr->List Keyword->Pos->Bool)(e:Expr):Bool:=if h:e.ctorIdx=16 then Expr.Call.elim e h f else false
noncomputable def YL(f:Expr->List Comprehension->Scope->Bool)(e:Expr):Bool:=if h:e.ctorIdx=8 then Expr.ListComp.elim e h (λe g s _=>f e g s) else false
noncomputable def YN(f:Arguments->Expr->Scope->Pos->Bool)(e:Expr):Bool:=if h:e.ctorIdx=4 then Expr.Lambda.elim e h f else false
noncomputable def GX{α:Type}:List α->Bool| []=>true|_=>false
noncomputable def FZ{α:Type}(f:α->Bool):List α->Bool| [x]=>f x|_=>false
noncomputable def TR{α:Type}(f:α->α->Bool):List α->Bool| [x,y]=>f x y|_=>false
noncomputable def SU{α:Type}(f:α->List α->Bool):List α->Bool|x::l=>f x l|_=>false
noncomputable def Ew(f:Str->List Expr->Bool):Expr->Bool:=Vn λg l k _=>GX k&&Qg (λx _=>f x l) g
noncomputable def Th(f:Expr->Str->List Expr->Bool->Bool):Expr->Bool:=Vn λg l k p=>GX k&&Tp (λo x q=>f o x l (q.endLine ==p.line)) g
noncomputable def VG(Γ:Ct):List Nat->List Expr->Bool
 |[],l=>GX l
 |i::is,l=>SU (λe es=>Qg (λx _=>sto Γ i x) e&&VG Γ is es) l
noncomputable def lU(Γ:Ct):MT->Expr->Bool
 |.nm i=>Qg λx _=>sto Γ i x
 |.tup is=>Kq λes _ _=>VG Γ is es
 |.lst is=>Kq λes _ _=>VG Γ is es
noncomputable def Zj(G:Gt)(x:Str)(c:Nat):Bool:=match G.cs[c]? with
 |some i=>i.nm ==x
 |none=>false
noncomputable def Zi(G:Gt)(x:Str)(i:Int):Bool:=match G.glo.lookup x with
 |some (.int j)=>i ==j
 |_=>false
noncomputable def Zg(G:Gt)(x:Str)(i:Str):Bool:=match G.glo.lookup x with
 |some (.str j)=>i ==j
 |_=>false
noncomputable def W4(G:Gt)(x:Str):MV->Bool
 |.cls c=>Zj G x c
 |.int i=>Zi G x i
 |.str i=>Zg G x i
 |_=>false
noncomputable def Cz(p:Arguments)(ps:List Str):Bool:=match p with
 |⟨[],as,none,[],[],none,[]⟩=>decide (as.map (·.arg)=ps)
 |_=>false
noncomputable def Cb(xs ps:List Str)(sc:Scope):Bool:=sc.kind== .function&& !sc.isCoroutine&& !sc.isGenerator&&decide (xs++ps).Nodup&&ps.all (λx=>sc.names.lookup x ==some .local)&&xs.all (λx=>sc.names.lookup x ==some .free)&&sc.names.all (λy=>y.2 != .cell)
noncomputable def Wy(G:Gt)(k:Nat)(js:List Nat)(Γ:Ct)(a:Arguments)(b:Expr)(sc:Scope)(p:Pos):Bool:=
 Cz a (G.lam k).2&&Cb (G.lam k).1 (G.lam k).2 sc&&G.lck k b sc&&decide (p∈Γ.lp)&&Γ.fn&&decide ((G.lam k).1.length=js.length)&&((G.lam k).1.zip js).all (λq=>decide (Γ.N[q.2]?=some q.1)&&kd Γ q.1 ==some .cell)&&sc.names.all (λy=>y.2 != .free||kd Γ y.1 ==some .cell)
noncomputable def Ta(G:Gt)(c:Nat)(f:Ci->Bool):Bool:=(G.cs[c]?).any f
section
variable (G:Gt)
noncomputable def DF(Γ:Ct)(x y:Str):Bool:=x ==y&&gl Γ x&&decide (x∈G.blt)
mutual
noncomputable def BW:ME->Ct->Expr->Bool
 |.var i,Γ=>Qg λx _=>vis Γ i x
 |.mov i,Γ=>Qg λx _=>vis Γ i x
 |.con m,_=>Z1 (Sv m)
 |.glo x m,Γ=>Qg λy _=>y ==x&&gl Γ y&&W4 G y m
 |.bty x k,Γ=>Qg λy _=>DF G Γ y x&&x ==Str.ofString k.nm&&(k== .int||k== .bl||k== .str||k== .tup||k== .lst||k== .dct)
 |.tup es,Γ=>Kq λl _ _=>CJ es Γ l
 |.lst es,Γ=>Ve (CJ es Γ)
 |.lstL es,Γ=>Ve (CJ es Γ)
 |.dicL _,_=>Zv λk v=>GX k&&GX v
 |.fld e f,Γ=>Tp λo x _=>x ==G.nm f&&BW e Γ o&&DO o
 |.idx a b,Γ=>OF λx y=>BW a Γ x&&BW b Γ y&&CB y
 |.sli a lo hi,Γ=>OF λx y=>BW a Γ x&&Xt (λl h s=>pv lo Γ l&&pv hi Γ h&&s.isNone) y
 |.bin o a b,Γ=>Z8 λx p y=>p ==o.op&&BW a Γ x&&BW b Γ y
 |.una o a,Γ=>TQ λp x=>p ==o.op&&BW a Γ x
 |.cmp o a b,Γ=>VC λx p y=>decide (p=[o.op])&&BW a Γ x&&FZ (λy=>BW b Γ y&&D3 y) y
 |.cmp2 o o' a b c,Γ=>VC λx p y=>decide (p=[o.op,o'.op])&&BW a Γ x&&TR (λy z=>BW b Γ y&&BW c Γ z&&D3 z) y
 |.not a,Γ=>TQ λp x=>p== .Not&&BW a Γ x
 |.and es,Γ=>VL λp l=>p== .And&&CJ es Γ l&& !l.isEmpty
 |.or es,Γ=>VL λp l=>p== .Or&&CJ es Γ l&& !l.isEmpty
 |.ife c a b,Γ=>Zc λx y z=>BW c Γ x&&BW a Γ y&&BW b Γ z
 |.call f es,Γ=>Ew λx l=>decide (G.fns[f]?=some x)&&gl Γ x&&CJ es Γ l
 |.make c es,Γ=>Ew λx l=>Ta G c (λi=>i.nm ==x&& !i.exc&&(G.ini c).isSome)&&gl Γ x&&CJ es Γ l&& !l.isEmpty
 |.new0 c,Γ=>Ew λx l=>Ta G c (λi=>i.nm ==x&& !i.exc)&&gl Γ x&&GX l
 |.meth m o es,Γ=>Th λx y l p=>y ==G.nm m&&BW o Γ x&&CJ es Γ l&&DO x&&p&&decide (l.length<30)
 |.cfn c m es,Γ=>Th λo y l p=>y ==G.nm m&&Qg (λx _=>Ta G c (λi=>i.nm ==x)&&gl Γ x) o&&CJ es Γ l&& !l.isEmpty&&p&&decide (l.length<30)
 |.bfn b es,Γ=>Ew λx l=>DF G Γ x b.nm&&CJ es Γ l&& !l.isEmpty
 |.lenset e,Γ=>Ew λx l=>DF G Γ x "len" &&FZ (Ew λy m=>DF G Γ y "set" &&FZ (λz=>BW e Γ z&& !Bj z) m) l
 |.bmt b o es,Γ=>Th λx y l p=>y ==b.nm&&BW o Γ x&&CJ es Γ l&&DO x&&p&&decide (l.length<29)
 |.mmt b o es,Γ=>Th λx y l p=>y ==b.nm&&BW o Γ x&&CJ es Γ l&&DO x&&p&&decide (l.length<29)
 |.lrng e,Γ=>Ew λx l=>DF G Γ x "list" &&FZ (Ew λy m=>DF G Γ y "range" &&FZ (λz=>BW e Γ z&& !Bj z) m) l
 |.calL f es k js,Γ=>Ew λx l=>decide (G.fns[f]?=some x)&&gl Γ x&&px es k js Γ l
 |.calv i es,Γ=>Ew λx l=>vis Γ i x&&CJ es Γ l&& !l.isEmpty
 |.comp xs ys js tg it c e,Γ=>YL λelt gs scope=>FZ (λg=>g.is_async ==0&&MZ scope Γ xs ys js&&pz it Γ g.target g.iter&&D3 g.iter&&lU ⟨xs++ys,GN scope Γ.sc,false,[]⟩ tg g.target&&CJ c ⟨xs++ys,GN scope Γ.sc,false,[]⟩ g.ifs&&BW e ⟨xs++ys,GN scope Γ.sc,false,[]⟩ elt) gs
noncomputable def CJ:EA->Ct->List Expr->Bool
 |.nil,_=>GX
 |.cons e r,Γ=>SU λx l=>BW e Γ x&& !Bj x&&CJ r Γ l
noncomputable def px:EA->Nat->List Nat->Ct->List Expr->Bool
 |.nil,k,js,Γ=>FZ (YN (Wy G k js Γ))
 |.cons e r,k,js,Γ=>SU λx l=>BW e Γ x&& !Bj x&&px r k js Γ l
noncomputable def pv:mj->Ct->Option Expr->Bool
 |.no,_=>(·.isNone)
 |.ye e,Γ=>(·.any (BW e Γ))
noncomputable def pz:MI->Ct->Expr->Expr->Bool
 |.of e,Γ,_=>BW e Γ
 |.rng1 a,Γ,_=>Ew λf l=>DF G Γ f "range" &&FZ (λx=>BW a Γ x&& !Bj x) l
 |.rng2 a b,Γ,_=>Ew λf l=>DF G Γ f "range" &&TR (λx y=>BW a Γ x&&BW b Γ y&& !Bj x&& !Bj y) l
 |.enu a,Γ,t=>Ew λf l=>DF G Γ f "enumerate" &&FZ (λx=>BW a Γ x&& !Bj x) l&&Kq (λ_ _ _=>true) t
 |.zip a b,Γ,t=>Ew λf l=>DF G Γ f "zip" &&TR (λx y=>BW a Γ x&&BW b Γ y&& !Bj x&& !Bj y) l&&Kq (λ_ _ _=>true) t
end
end
structure Cg(G:Gt)(W:Wd)(Φ:Fs)(k:Nat)(Γ:Ct)(X:Cx):Prop where
 hK:X.K=W.K
 nm:W.nm=G.nm
 kt:Kt G.cs W
 nb:∀x∈G.blt,X.mg x=none
 fns:∀(f:Nat) (x:Str),G.fns[f]?=some x->∃ps,PZ X.prog X.w X.K X.mg X.base x k ps (K0 W Φ f)
 cl:∀(c:Nat) (i:Ci),G.cs[c]?=some i->X.mg i.nm=some (.ref (W.ca c))
 mkk:∀(c:Nat) (i:Ci) (f:Nat),G.cs[c]?=some i->i.exc=false->G.ini c=some f->E3 λfi fd ps=>A3 (Mk X.K (W.ca c) fi) (DI X.prog X.w X.K X.mg X.base O5 k fi fd ps (K0 W Φ f)) (Cn X.K fd ps [])
 n0:∀(c:Nat) (i:Ci),G.cs[c]?=some i->i.exc=false->G.ini c=none->VU X.K X.mg i.nm (W.ca c)
 mt:∀m,ZN X W Φ G.cs k m
 cf:∀(c m f:Nat) (i:Ci),G.cs[c]?=some i->G.cf c m=some f->∃ps,pZ X.prog X.w X.K X.mg X.base i.nm (W.nm m) k ps (K0 W Φ f)
 gI:∀(x:Str) (j:Int),G.glo.lookup x=some (.int j)->∃t,X.mg x=some (.int j t)
 gS:∀(x:Str) (j:Str),G.glo.lookup x=some (.str j)->∃t,X.mg x=some (.str j t)
 calm:X.calm=true
 room:Bp (k+1) X.A
 hN:X.N=Γ.N
 nd:Γ.N.Nodup
 sc:X.env.scope=Γ.sc
 fn:Γ.fn=true->∀x,X.fn x=true
 own:PassesOwn (model X.prog X.w) X.A X.env X.xe
 lamM:∀(k:Nat) (l:Tw),l.xs=(G.lam k).1->l.ps=(G.lam k).2->Cz l.params l.ps=true->Cb l.xs l.ps l.scope=true->G.lck k l.body l.scope=true->Tv W k l
 lamO:Tu X.prog X.w X.K X.mg X.base W Φ k
 tab:∀p∈Γ.lp,E2 λc P=>A6 (X.env.code=.ref c) (PySem.W.CodeHd X.base c P) (X.base.BuiltinsAt X.mg P) (mainGlobals≠P) ((P,X.env.qual++ "<lambda>",p)∈W.tl) (∀t∈W.tl,t.1=P->t=(P,X.env.qual++ "<lambda>",p))
section
variable {k:Nat}
theorem Cg.hd(c:Cg G W Φ k Γ X):X.A.handled=none:=c.room.hd
def Cg.hu(c:Cg G W Φ k Γ X):X.A.units+70<cLine:=by have:=c.room.un;lia
def RJ{x:Str}(h:(!odd x)=true):(x ==("__debug__" :Str))=false/\(x ==("__classdict__" :Str))=false/\(x ==("__name__" :Str))=false:=by
 unfold odd at h;simp only[Bool.not_or,Bool.and_eq_true,Bool.not_eq_true']at h;exact⟨h.1.1,h.1.2,h.2⟩
theorem Cg.vis(c:Cg G W Φ k Γ X){i:Nat}{x:Str}(h:B.vis Γ i x=true):X.N[i]?=some x/\WK X.env.scope x/\(x ==("__debug__" :Str))=false/\(x ==("__classdict__" :Str))=false:=by
 unfold B.vis kd at h;simp only[Bool.and_eq_true,Bool.or_eq_true,decide_eq_true_eq,beq_iff_eq]at h;obtain⟨⟨h1,h2⟩,h3⟩:=h;have o:=RJ h3;refine⟨by rw[c.hN];exact h1,?_,o.1,o.2.1⟩;unfold WK;rw[c.sc];rcases h2 with(h2|h2)|h2
 ·exact .inl h2
 ·exact .inr (.inl h2)
 exact .inr (.inr h2)
theorem Cg.sto(c:Cg G W Φ k Γ X){i:Nat}{x:Str}(h:B.sto Γ i x=true):X.N[i]?=some x/\WN X.env.scope x/\(X.fn x=true\/X.env.scope.names.lookup x=some .local):=by
 unfold B.sto kd at h;simp only[Bool.and_eq_true,Bool.or_eq_true,decide_eq_true_eq,beq_iff_eq]at h;obtain⟨h1,h2⟩:=h;refine⟨by rw[c.hN];exact h1,?_,?_⟩
 ·unfold L2.WN;rw[c.sc];rcases h2 with h2|h2
  ·exact .inl h2
  exact .inr h2.1
 rw[c.sc];rcases h2 with h2|h2
 ·exact .inr h2
 exact .inl (c.fn h2.2 x)
theorem Cg.gl(c:Cg G W Φ k Γ X){x:Str}(h:B.gl Γ x=true):Gl X x/\(x ==("__debug__" :Str))=false/\x≠ "__name__":=by
 unfold B.gl kd at h;simp only[Bool.and_eq_true,beq_iff_eq]at h;have o:=RJ h.2;exact⟨by show X.env.scope.names.lookup x=_;rw[c.sc];exact h.1,o.1,λz=>by have:=o.2.2;rw[z]at this;exact absurd this (by decide)⟩
def As(h:Bj e=false):starEach (e::es) env=(false,eval e env)::starEach es env:=by
 cases e<;>first|rfl|(cases h;done)|(exact absurd h (by simp[Bj]))
noncomputable def Bc:List Expr->Bool
 |[]=>true
 |e::es=>!Bj e&&Bc es
theorem B2:∀{es:List Expr},Bc es=true->(backTo pos (starEach es env)).any (·.1)=false
 |[],_=>rfl
 |e::es,h=>by
  have h:Bj e=false/\Bc es=true:=by simpa[Bc]using h
  rw[As h.1];show(false||(backTo pos (starEach es env)).any (·.1))=false;rw[B2 h.2];rfl
theorem GI:∀{es:List Expr},Bc es=true->(backTo pos (starEach es env)).all (λx=>!x.1)=true
 |[],_=>rfl
 |e::es,h=>by
  have h:Bj e=false/\Bc es=true:=by simpa[Bc]using h
  rw[As h.1];show(true&&(backTo pos (starEach es env)).all (λx=>!x.1))=true;rw[GI h.2];rfl
def SH(h:Bc es=true)(hl:es.length<29):((backTo pos (starEach es env)).all (λx=>!x.1)&&(backToKw pos (keywordEach [] env)).all (λx=>x.1.isSome)&&decide (es.length+([]:List Keyword).length+(if ([]:List Keyword).isEmpty then 0 else 1)<30))=true:=by
 rw[GI h];simp[keywordEach,backToKw]
 lia
def Oc(h:Bc es=true)(hl:es.length<30):methodCallForm (es.length+([]:List Keyword).length) (backTo pos (starEach es env)) (backToKw pos (keywordEach [] env))=true:=by
 unfold methodCallForm;rw[GI h];simp[keywordEach,backToKw]
 lia
def Cf{f:Str}(h:DO o=true):attributeBase o f env (eval o env)=eval o env:=by
 unfold attributeBase;split
 ·exact absurd h (by simp[DO])
 rfl
def Mi(h:D3 e=true):∀x,foldedSetIterable e env x=pure x:=by
 intro x;unfold foldedSetIterable;cases e<;>first|rfl|(exact absurd h (by simp[D3]))
def GZ(h:D3 b=true):behindInMarks op b=false:=by
 cases b<;>first|rfl|(exact absurd h (by simp[D3]))
def QB(h:CB b=true):Kc b:=by
 intro o i;cases b<;>first|rfl|(exact absurd h (by simp[CB]))
def EI{n:Nat}(h:CT e=true):swapsWith e t n env=pure false:=by
 unfold swapsWith;cases e<;>first|rfl|(exact absurd h (by simp[CT]))
def QI:relabel scope env=GN scope env.scope:=rfl
def SV(h:MZ scope Γ xs ys js=true):C6 scope Γ.sc Γ.N xs ys js/\(xs++ys).Nodup:=by
 unfold MZ at h;simp only[Bool.and_eq_true,beq_iff_eq,decide_eq_true_eq,List.all_eq_true,bne_iff_ne,Bool.or_eq_true,List.contains_iff_mem]at h;obtain⟨⟨⟨⟨⟨⟨h1,h2⟩,h3⟩,h4⟩,h5⟩,h6⟩,h7⟩:=h;refine⟨⟨h1,h2,λy hy e=>(h3 y hy).resolve_left λz=>z e,λy hy e=>?_,h5,λp hp=>?_⟩,h7⟩
 ·rcases h4 y hy with(z|z)|z
  ·exact absurd e z
  ·exact .inl z
  exact .inr z
 obtain⟨⟨⟨a1,a2⟩,a3⟩,a4⟩:=h6 p hp;exact⟨a1,a2,a3,a4⟩
def Cg.comp(c:Cg G W Φ k Γ X)(hnd:(xs++ys).Nodup):Cg G W Φ k ⟨xs++ys,GN scope Γ.sc,false,[]⟩ (F0 X (xs++ys) scope C s2 H2 fp) where
 hK:=c.hK
 nm:=c.nm
 kt:=c.kt
 nb:=c.nb
 fns:=c.fns
 cl:=c.cl
 mkk:=c.mkk
 n0:=c.n0
 mt:=λm=>⟨(c.mt m).at_⟩
 cf:=c.cf
 gI:=c.gI
 gS:=c.gS
 calm:=c.calm
 room:=c.room
 hN:=rfl
 nd:=hnd
 sc:=by show relabel scope X.env=_;rw[QI,c.sc]
 fn:=λz=>by cases z
 own:=PassesOwn.never
 lamM:=c.lamM
 lamO:=c.lamO
 tab:=λp hp=>absurd hp (by simp)
end
section
variable {k:Nat}
def Ar(h:(a&&b)=true):a=true/\b=true:=by simpa using h
def CQ(h:(!a)=true):a=false:=by simpa using h
def B0{a b c:Bool}{P:Prop}(h:(a&&b&&c)=true)(k:a=true->b=true->c=true->P):P:=have h:=Ar h;have q:=Ar h.1;k q.1 q.2 h.2
def PV{a b c d:Bool}{P:Prop}(h:(a&&b&&c&&d)=true)(k:a=true->b=true->c=true->d=true->P):P:=have h:=Ar h;B0 h.1 λx y z=>k x y z h.2
def ZC{a b c d e:Bool}{P:Prop}(h:(a&&b&&c&&d&&e)=true)(k:a=true->b=true->c=true->d=true->e=true->P):P:=have h:=Ar h;PV h.1 λx y z u=>k x y z u h.2
def PU{a b c d e f:Bool}{P:Prop}(h:(a&&b&&c&&d&&e&&f)=true)(k:a=true->b=true->c=true->d=true->e=true->f=true->P):P:=have h:=Ar h;ZC h.1 λx y z u v=>k x y z u v h.2
def ZB{a b c d e f g:Bool}{P:Prop}(h:(a&&b&&c&&d&&e&&f&&g)=true)(k:a=true->b=true->c=true->d=true->e=true->f=true->g=true->P):P:=have h:=Ar h;PU h.1 λx y z u v w=>k x y z u v w h.2
def HJ{P:Prop}(h:false=true):P:=(aB h).elim
def el{c:Prop}[Decidable c]{b:c->Bool}{P:Prop}(h:(if q:c then b q else false)=true)(k:c->P):P:=if q:c then k q else HJ ((dif_neg q).symm.trans h)
@[elab_as_elim]def C2{f:Str->Pos->Bool}{P:Expr->Prop}{e:Expr}(h:Qg f e=true)(k:∀x p,f x p=true->P (.Name x p)):P e:=el h λq=>Expr.Name.elim (motive_1:=λe=>Qg f e=true->P e) e q k h
@[elab_as_elim]def VA{P:Expr->Prop}{e:Expr}(h:Z1 f e=true)(k:∀c k p,f c=true->P (.Constant c k p)):P e:=el h λq=>Expr.Constant.elim (motive_1:=λe=>Z1 f e=true->P e) e q k h
@[elab_as_elim]def DJ{f:List Expr->Nat->Pos->Bool}{P:Expr->Prop}{e:Expr}(h:Kq f e=true)(k:∀l k p,f l k p=true->P (.Tuple l k p)):P e:=el h λq=>Expr.Tuple.elim (motive_1:=λe=>Kq f e=true->P e) e q k h
@[elab_as_elim]def NO{f:List Expr->Bool}{P:Expr->Prop}{e:Expr}(h:Ve f e=true)(k:∀l p,f l=true->P (.List l p)):P e:=el h λq=>Expr.List.elim (motive_1:=λe=>Ve f e=true->P e) e q k h
@[elab_as_elim]def V8{f:List (Option Expr)->List Expr->Bool}{P:Expr->Prop}{e:Expr}(h:Zv f e=true)(k:∀k v p,f k v=true->P (.Dict k v p)):P e:=el h λq=>Expr.Dict.elim (motive_1:=λe=>Zv f e=true->P e) e q k h
@[elab_as_elim]def JX{f:Expr->Str->Pos->Bool}{P:Expr->Prop}{e:Expr}(h:Tp f e=true)(k:∀o x p,f o x p=true->P (.Attribute o x p)):P e:=el h λq=>Expr.Attribute.elim (motive_1:=λe=>Tp f e=true->P e) e q k h
@[elab_as_elim]def Gf{f:Expr->Expr->Bool}{P:Expr->Prop}{e:Expr}(h:OF f e=true)(k:∀x y p,f x y=true->P (.Subscript x y p)):P e:=el h λq=>Expr.Subscript.elim (motive_1:=λe=>OF f e=true->P e) e q k h
@[elab_as_elim]def Uf{f:Option Expr->Option Expr->Option Expr->Bool}{P:Expr->Prop}{e:Expr}(h:Xt f e=true)(k:∀l h s p,f l h s=true->P (.Slice l h s p)):P e:=el h λq=>Expr.Slice.elim (motive_1:=λe=>Xt f e=true->P e) e q k h
@[elab_as_elim]def VN{f:Expr->Operator->Expr->Bool}{P:Expr->Prop}{e:Expr}(h:Z8 f e=true)(k:∀x o y p,f x o y=true->P (.BinOp x o y p)):P e:=el h λq=>Expr.BinOp.elim (motive_1:=λe=>Z8 f e=true->P e) e q k h
@[elab_as_elim]def Nz{P:Expr->Prop}{e:Expr}(h:TQ f e=true)(k:∀o x p,f o x=true->P (.UnaryOp o x p)):P e:=el h λq=>Expr.UnaryOp.elim (motive_1:=λe=>TQ f e=true->P e) e q k h
@[elab_as_elim]def Os{f:Expr->List CmpOp->List Expr->Bool}{P:Expr->Prop}{e:Expr}(h:VC f e=true)(k:∀x o y p,f x o y=true->P (.Compare x o y p)):P e:=el h λq=>Expr.Compare.elim (motive_1:=λe=>VC f e=true->P e) e q k h
@[elab_as_elim]def Ox{P:Expr->Prop}{e:Expr}(h:VL f e=true)(k:∀o l p,f o l=true->P (.BoolOp o l p)):P e:=el h λq=>Expr.BoolOp.elim (motive_1:=λe=>VL f e=true->P e) e q k h
@[elab_as_elim]def Vu{f:Expr->Expr->Expr->Bool}{P:Expr->Prop}{e:Expr}(h:Zc f e=true)(k:∀x y z p,f x y z=true->P (.IfExp x y z p)):P e:=el h λq=>Expr.IfExp.elim (motive_1:=λe=>Zc f e=true->P e) e q k h
@[elab_as_elim]def NS{f:Expr->List Expr->List Keyword->Pos->Bool}{P:Expr->Prop}{e:Expr}(h:Vn f e=true)(k:∀g l k p,f g l k p=true->P (.Call g l k p)):P e:=el h λq=>Expr.Call.elim (motive_1:=λe=>Vn f e=true->P e) e q k h
@[elab_as_elim]def Vh{f:Expr->List Comprehension->Scope->Bool}{P:Expr->Prop}{e:Expr}(h:YL f e=true)(k:∀t g s p,f t g s=true->P (.ListComp t g s p)):P e:=el h λq=>Expr.ListComp.elim (motive_1:=λe=>YL f e=true->P e) e q k h
@[elab_as_elim]def Vj{P:Expr->Prop}{e:Expr}(h:YN f e=true)(k:∀a b s p,f a b s p=true->P (.Lambda a b s p)):P e:=el h λq=>Expr.Lambda.elim (motive_1:=λe=>YN f e=true->P e) e q k h
def AY{α:Type}{l:List α}(h:GX l=true):l=[]:=by cases l<;>first|rfl|exact HJ h
@[elab_as_elim]def BG{α:Type}{f:α->List α->Bool}{P:List α->Prop}{l:List α}(h:SU f l=true)(k:∀x m,f x m=true->P (x::m)):P l:=by cases l<;>first|exact HJ h|exact k _ _ h
@[elab_as_elim]def BE{α:Type}{f:α->Bool}{P:List α->Prop}{l:List α}(h:FZ f l=true)(k:∀x,f x=true->P ([x])):P l:=by rcases l with _|⟨a,_|⟨b,l⟩⟩<;>first|exact HJ h|exact k _ h
@[elab_as_elim]def Ji{α:Type}{f:α->α->Bool}{P:List α->Prop}{l:List α}(h:TR f l=true)(k:∀x y,f x y=true->P ([x,y])):P l:=by rcases l with _|⟨a,_|⟨b,_|⟨c,l⟩⟩⟩<;>first|exact HJ h|exact k _ _ h
@[elab_as_elim]def Bn{f:Str->List Expr->Bool}{P:Expr->Prop}{e:Expr}(h:Ew f e=true)(k:∀x q l p,f x l=true->P (.Call (.Name x q) l [] p)):P e:=by
  refine NS h λg l kk p h=>?_;obtain⟨h1,h2⟩:=Ar h;obtain rfl:=AY h1;exact C2 (P:=λg=>P (.Call g l [] p)) h2 λx q h=>k x q l p h
@[elab_as_elim]def Gw{f:Expr->Str->List Expr->Bool->Bool}{P:Expr->Prop}{e:Expr}(h:Th f e=true)(k:∀o x q l p,f o x l (q.endLine ==p.line)=true->P (.Call (.Attribute o x q) l [] p)):P e:=by
  refine NS h λg l kk p h=>?_;obtain⟨h1,h2⟩:=Ar h;obtain rfl:=AY h1;exact JX (P:=λg=>P (.Call g l [] p)) h2 λo x q h=>k o x q l p h
def BK(h:Bc (e::l)=true):Bj e=false/\Bc l=true:=have h:=Ar h;⟨CQ h.1,h.2⟩
def C5{Γ:Ct}{X:Cx}(c:Cg G W Φ k Γ X){x y:Str}(h:DF G Γ x y=true):x=y/\Gl X x/\X.mg x=none/\(x ==("__debug__" :Str))=false/\x≠ "__name__":=
 B0 h λh1 h2 h3=>have g:=c.gl h2;⟨aR.mp h1,g.1,c.nb x (bF h3),g.2⟩
theorem Mx{X:Cx}(c:Cg G W Φ k Γ X):∀{is:List Nat}{es:List Expr},VG Γ is es=true->WL X es (ju is)/\(assignEach es X.env).length=is.length/\(assignEach es X.env).findIdx? (·.1)=none
 |[],l,h=>by
  obtain rfl:=AY h;exact⟨UJ,rfl,rfl⟩
 |i::is,l,h=>by
  refine BG h λe es h=>?_;obtain⟨h1,h2⟩:=Ar h;refine C2 h1 λx pos h1=>?_;obtain⟨s1,s2,s3⟩:=c.sto h1;obtain⟨r1,r2,r3⟩:=Mx c h2;refine⟨Rz (NF (by rw[c.hN];exact c.nd) s1 s2 s3) r1 rfl,cK Nat.succ r2,?_⟩;show List.findIdx? (·.1) ((false,assign (.Name x pos) X.env)::assignEach es X.env)=none;rw[List.findIdx?_cons,r3];rfl
def Ue(c:Cg G W Φ k Γ X){e:Expr}(h:lU Γ t e=true):PG X e (TZ W t):=by
 cases t with
 |nm i=>
  refine C2 h λx p h=>?_;obtain⟨s1,s2,s3⟩:=c.sto h;exact oC (by rw[c.hN];exact c.nd) s1 s2 s3
 |tup is=>
  refine DJ h λl n p h=>?_;obtain⟨r1,r2,r3⟩:=Mx c h;exact jx c.calm r1 r2 r3
 |lst is=>
  refine DJ h λl n p h=>?_;obtain⟨r1,r2,r3⟩:=Mx c h;exact jy c.calm r1 r2 r3
noncomputable abbrev sX(G:Gt)(Φ:Fs)(m:ME):Ef:=(e2 G.cs Φ G.ini G.cf m).1
noncomputable abbrev sr(G:Gt)(Φ:Fs)(m:ME):Tf:=(e2 G.cs Φ G.ini G.cf m).2
def pR(G:Gt)(W:Wd)(Φ:Fs)(X:Cx)(m:ME)(e:Expr):Prop:=PE X e (tM W (sX G Φ m))/\PT X e (Fi W (sr G Φ m))
def Ay(hK:X.K=W.K)(hp:Mo e=true)(h:PE X e (tM W f)):PE X e (tM W (pr f).1)/\PT X e (Fi W (pr f).2):=⟨h,bi hK h hp⟩
def Gs{Γ:Ct}{es:EA}(h:CJ G es Γ []=true):DA G.cs Φ G.ini G.cf es=λ_ h=>.ok [] h:=by
 cases es with
 |nil=>rfl
 |cons e r=>exact HJ h
def Si(h:Cb xs ps sc=true)(h1:∀x,sc.names.lookup x=some .free->∃c,cl.lookup x=some c)(h2:∀x y c,cl.lookup x=some c->cl.lookup y=some c->x=y):HC (xs++ps) xs ps sc cl:=by
 unfold Cb at h;simp only[Bool.and_eq_true,beq_iff_eq,decide_eq_true_eq,Bool.not_eq_true',List.all_eq_true,bne_iff_ne]at h;obtain⟨⟨⟨⟨⟨⟨a,b⟩,c⟩,d⟩,e⟩,f⟩,g⟩:=h;exact⟨by cases hk:sc.kind<;>rw[hk]at a<;>first|rfl|(exact absurd a (by decide)),b,c,d,rfl,e,f,g,h1,h2⟩
def Zf(c:Cg G W Φ k Γ X){x:Str}:∀{m:MV},W4 G x m=true->Gl X x->(x ==("__debug__" :Str))=false->PE X (.Name x p) (tM W λ_ h=>.ok (.v m) h):=by
 intro m h2 g1 g2;cases m<;>first|exact HJ h2|skip
 ·rename_i i;have h2:Zi G x i=true:=h2;unfold Zi at h2;split at h2
  ·rename_i j hj;obtain rfl:=aR.mp h2;exact FG (R7 g1 (c.gI x i hj) g2) λF=>by unfold Aq;rfl
  exact HJ h2
 ·rename_i i;have h2:Zg G x i=true:=h2;unfold Zg at h2;split at h2
  ·rename_i j hj;obtain rfl:=aR.mp h2;exact FG (R6 g1 (c.gS x i hj) g2) λF=>by unfold Aq;rfl
  exact HJ h2
 rename_i cc;have h2:Zj G x cc=true:=h2;unfold Zj at h2;split at h2
 ·rename_i i hi;obtain rfl:=aR.mp h2;exact FG (Gm (v:=.ref (W.ca cc)) g1 (c.cl cc i hi) rfl g2) λF=>by unfold Aq;rfl
 exact HJ h2
def Z0{X:Cx}{v:Const}{n:Nat}{p:Pos}:∀{m:MV},Sv m v=true->PE X (.Constant v n p) (tM W λ_ h=>.ok (.v m) h):=by
 intro m h;unfold Sv at h;split at h
 ·exact FG Yq λF=>by unfold Aq;rfl
 ·obtain rfl:=aR.mp h;exact FG ic λF=>by unfold Aq;rfl
 ·obtain rfl:=aR.mp h;exact FG Ys λF=>by unfold Aq;rfl
 ·obtain rfl:=aR.mp h;exact FG Yo λF=>by unfold Aq;rfl
 exact HJ h
def Hz{α:Type}{o:Option α}{f:α->Bool}(h:o.any f=true):∃a,o=some a/\f a=true:=by cases o<;>first|exact HJ h|exact⟨_,rfl,h⟩
mutual
theorem AA:∀(m:ME) {Γ:Ct}{X:Cx}{e:Expr},Cg G W Φ k Γ X->BW G m Γ e=true->pR G W Φ X m e
 |.var i,Γ,X,e,c,h=>by
  refine C2 h λx p h=>?_;obtain⟨v1,v2,v3,v4⟩:=c.vis h;exact Ay c.hK rfl (dg v1 v2 v3 v4)
 |.mov i,Γ,X,e,c,h=>by
  refine C2 h λx p h=>?_;obtain⟨v1,v2,v3,v4⟩:=c.vis h;exact Ay c.hK rfl (dv v1 v2 v3 v4)
 |.con m,Γ,X,e,c,h=>by
  refine VA h λv n p h=>?_;exact Ay c.hK rfl (Z0 h)
 |.glo x m,Γ,X,e,c,h=>by
  refine C2 h λy p h=>?_;refine B0 h λh1 h2 h3=>?_;obtain⟨g1,g2,g3⟩:=c.gl h2;exact Ay c.hK rfl (Zf c h3 g1 g2)
 |.bty x kk,Γ,X,e,c,h=>by
  refine C2 h λy p h=>?_;refine B0 h λh1 h4 h5=>?_;obtain⟨rfl,g1,hb,g2,g3⟩:=C5 c h1;refine Ay c.hK rfl (FG (v:=.ty kk.nm) (UR g1 hb (u:=.type kk.nm) ?_ rfl g3 g2) λF=>by unfold Aq;rfl);rw[aR.mp h4];cases kk<;>first|(exact absurd h5 (by decide))|(decide +kernel)
 |.tup es,Γ,X,e,c,h=>by
  refine DJ h λl n p h=>?_;exact Ay c.hK rfl (dk (Dg es c h).1)
 |.lst es,Γ,X,e,c,h=>by
  refine NO h λl p h=>?_;exact Ay c.hK rfl (eh (Dg es c h).1)
 |.lstL es,Γ,X,e,c,h=>by
  refine NO h λl p h=>?_;exact Ay c.hK rfl (XJ (Dg es c h).1)
 |.dicL t,Γ,X,e,c,h=>by
  refine V8 h λks vs p h=>?_;obtain⟨h1,h2⟩:=Ar h;obtain rfl:=AY h1;obtain rfl:=AY h2;exact Ay c.hK rfl (XR t)
 |.fld m f,Γ,X,e,c,h=>by
  refine JX h λo x p h=>?_;refine B0 h λh1 h2 h3=>?_;obtain rfl:=aR.mp h1;rw[←c.nm];exact Ay c.hK rfl (fm c.hK c.kt (AA m c h2).1 (Cf h3))
 |.idx a b,Γ,X,e,c,h=>by
  refine Gf h λx y p h=>?_;refine B0 h λh1 h2 h3=>?_;exact Ay c.hK rfl (fj c.hK c.hu (AA a c h1).1 (AA b c h2).1 (QB h3))
 |.sli a lo hi,Γ,X,e,c,h=>by
  refine Gf h λx y p h=>?_;obtain⟨h1,h⟩:=Ar h;refine Uf h λl u st q h=>?_;refine B0 h λh2 h3 h4=>?_;obtain rfl:=eC.mp h4;exact Ay c.hK rfl (dm c.hK (AA a c h1).1 (cx lo c h2) (cx hi c h3))
 |.bin o a b,Γ,X,e,c,h=>by
  refine VN h λx op y p h=>?_;refine B0 h λh1 h2 h3=>?_;obtain rfl:=aR.mp h1;exact Ay c.hK rfl (gb c.hK o (AA a c h2).1 (AA b c h3).1)
 |.una o a,Γ,X,e,c,h=>by
  refine Nz h λop x p h=>?_;obtain⟨h1,h2⟩:=Ar h;obtain rfl:=aR.mp h1;exact Ay c.hK (by cases o<;>rfl) (dh o (AA a c h2).1)
 |.cmp o a b,Γ,X,e,c,h=>by
  refine Os h λx op y p h=>?_;refine B0 h λh1 h2 h3=>?_;obtain rfl:=bF h1;refine BE h3 λy h3=>?_;obtain⟨h3,h4⟩:=Ar h3;exact⟨fu c.hK c.hu o (AA a c h2).1 (AA b c h3).1 (GZ h4),bq c.hK c.hu o (AA a c h2).1 (AA b c h3).1 (GZ h4)⟩
 |.cmp2 o o' a b d,Γ,X,e,c,h=>by
  refine Os h λx op y p h=>?_;refine B0 h λh1 h2 h3=>?_;obtain rfl:=bF h1;refine Ji h3 λy z h3=>?_;refine B0 h3 λh3 h4 h5=>?_;have hm:lastMarks [o.op,o'.op] [y,z]=false:=GZ h5;exact⟨XT c.hK c.hu o o' (AA a c h2).1 (AA b c h3).1 (AA d c h4).1 hm,Xg c.hK c.hu o o' (AA a c h2).1 (AA b c h3).1 (AA d c h4).1 hm⟩
 |.not a,Γ,X,e,c,h=>by
  refine Nz h λop x p h=>?_;obtain⟨h1,h2⟩:=Ar h;obtain rfl:=aR.mp h1;exact⟨dr (AA a c h2).1,bo (AA a c h2).2⟩
 |.and es,Γ,X,e,c,h=>by
  refine Ox h λop l p h=>?_;refine B0 h λh1 h2 h3=>?_;obtain rfl:=aR.mp h1;exact⟨(Xs es c h2 (CQ h3)).1,(Xs es c h2 (CQ h3)).2.pt⟩
 |.or es,Γ,X,e,c,h=>by
  refine Ox h λop l p h=>?_;refine B0 h λh1 h2 h3=>?_;obtain rfl:=aR.mp h1;exact⟨(QA es c h2 (CQ h3)).1,(QA es c h2 (CQ h3)).2.pt⟩
 |.ife t a b,Γ,X,e,c,h=>by
  refine Vu h λx y z p h=>?_;refine B0 h λh1 h2 h3=>?_;exact⟨fg (AA t c h1).2 (AA a c h2).1 (AA b c h3).1,λpins s σ H Q I ⟨F,ρ,μ,hh,S,e,g⟩=>g.elim⟩
 |.call f es,Γ,X,e,c,h=>by
  refine Bn h λx q l p h=>?_;refine B0 h λh1 h2 h3=>?_;obtain⟨ps,Fn⟩:=c.fns f x (bF h1);obtain⟨g1,g2,g3⟩:=c.gl h2;obtain⟨pa,ns⟩:=Dg es c h3;refine Ay c.hK rfl ?_;cases l with
  |nil=>exact Uo Fn c.room (cZ _) g1 g2 (Gs h3)
  |cons e0 l=>exact XV Fn c.room (cZ _) g1 pa g2 (As (BK ns).1) (B2 (BK ns).2)
 |.make cc es,Γ,X,e,c,h=>by
  refine Bn h λx q l p h=>?_;refine PV h λh1 h2 h3 h4=>?_;obtain⟨g1,g2,g3⟩:=c.gl h2;obtain⟨pa,ns⟩:=Dg es c h3;obtain⟨i,hi,h1⟩:=Hz h1;refine B0 h1 λh1 h5 h6=>?_;obtain rfl:=aR.mp h1;obtain⟨f,hf⟩:=bV.mp h6;obtain⟨fi,fd,ps,M,Fo,hb⟩:=c.mkk cc i f hi (CQ h5) hf;refine Ay c.hK rfl ?_;rw[hf];cases l with
  |nil=>exact HJ h4
  |cons e0 l=>exact XI M Fo hb (c.cl cc i hi) c.room (aI _) g1 pa g2 (As (BK ns).1) (B2 (BK ns).2)
 |.new0 cc,Γ,X,e,c,h=>by
  refine Bn h λx q l p h=>?_;refine B0 h λh1 h2 h3=>?_;obtain rfl:=AY h3;obtain⟨g1,g2,g3⟩:=c.gl h2;obtain⟨i,hi,h1⟩:=Hz h1;obtain⟨h1,h5⟩:=Ar h1;obtain rfl:=aR.mp h1;refine Ay c.hK rfl ?_;cases hn:G.ini cc with
  |some f=>exact λpins s σ H Q I ⟨F,ρ,μ,hh,S,e,g⟩=>g.elim
  |none=>exact XF (c.n0 cc i hi (CQ h5) hn) g1 g2
 |.meth m o es,Γ,X,e,c,h=>by
  refine Gw h λx y q l p h=>?_;refine PU h λh1 h2 h3 h4 h5 h6=>?_;obtain rfl:=aR.mp h1;rw[←c.nm];obtain⟨pa,ns⟩:=Dg es c h3;refine Ay c.hK rfl ?_;cases l with
  |nil=>exact Um (c.mt m) (AA o c h2).1 c.room (cZ _) (Gs h3) (Cf h4) h5
  |cons e0 l=>exact XH (c.mt m) (AA o c h2).1 c.room (cZ _) pa (As (BK ns).1) (B2 (BK ns).2) (Cf h4) (Oc ns (bF h6)) h5
 |.cfn cc m es,Γ,X,e,c,h=>by
  refine Gw h λx y q l p h=>?_;refine PU h λh1 h2 h3 h4 h5 h6=>?_;obtain rfl:=aR.mp h1;rw[←c.nm];refine C2 h2 λx r h2=>?_;obtain⟨h2,h7⟩:=Ar h2;obtain⟨i,hi,h2⟩:=Hz h2;obtain rfl:=aR.mp h2;obtain⟨g1,g2,g3⟩:=c.gl h7;obtain⟨pa,ns⟩:=Dg es c h3;refine Ay c.hK rfl ?_;cases hf:G.cf cc m with
  |none=>exact λpins s σ H Q I ⟨F,ρ,μ,hh,S,e,g⟩=>g.elim
  |some f=>
   obtain⟨ps,Fn⟩:=c.cf cc m f i hi hf;cases l with
   |nil=>exact HJ h4
   |cons e0 l=>exact fv Fn c.room (cZ _) g1 pa g2 (As (BK ns).1) (B2 (BK ns).2) (Oc ns (bF h6)) h5
 |.bfn b es,Γ,X,e,c,h=>by
  refine Bn h λx q l p h=>?_;refine B0 h λh1 h2 h3=>?_;obtain⟨hx,g1,hb,g2,g3⟩:=C5 c h1;obtain⟨pa,ns⟩:=Dg es c h2;refine Ay c.hK rfl ?_;cases l with
  |nil=>exact HJ h3
  |cons e0 l=>exact sZ c.hK c.kt c.calm b hx g1 hb pa (As (BK ns).1) (B2 (BK ns).2)
 |.lenset m,Γ,X,e,c,h=>by
  refine Bn h λx q l p h=>?_;obtain⟨h1,h2⟩:=Ar h;obtain⟨rfl,g1,hb,g2,g3⟩:=C5 c h1;refine BE h2 λe h3=>?_;refine Bn h3 λy q' l p' h4=>?_;obtain⟨h5,h6⟩:=Ar h4;obtain⟨rfl,k1,kb,k2,k3⟩:=C5 c h5;refine BE h6 λz h6=>?_;obtain⟨h7,h8⟩:=Ar h6;exact Ay c.hK rfl (QE c.hK c.hd (by have:=c.hu;lia) g1 hb k1 kb (AA m c h7).1 rfl (As (CQ h8)))
 |.bmt b o es,Γ,X,e,c,h=>by
  refine Gw h λx y q l p h=>?_;refine PU h λh1 h2 h3 h4 h5 h6=>?_;obtain rfl:=aR.mp h1;obtain⟨pa,ns⟩:=Dg es c h3;refine Ay c.hK rfl ?_;cases l with
  |nil=>exact XX c.hK c.hu b (AA o c h2).1 pa (Cf h4) h5 (Gs h3)
  |cons e0 l=>exact ga c.hK c.hu b (AA o c h2).1 pa (Cf h4) (SH ns (bF h6)) h5 (As (BK ns).1) (B2 (BK ns).2)
 |.mmt b o es,Γ,X,e,c,h=>by
  refine Gw h λx y q l p h=>?_;refine PU h λh1 h2 h3 h4 h5 h6=>?_;obtain rfl:=aR.mp h1;obtain⟨pa,ns⟩:=Dg es c h3;refine Ay c.hK rfl ?_;cases l with
  |nil=>exact XG b (AA o c h2).1 (Cf h4) h5 (Gs h3)
  |cons e0 l=>exact dw b (AA o c h2).1 pa (Cf h4) (SH ns (bF h6)) h5 (As (BK ns).1) (B2 (BK ns).2)
 |.comp xs ys js tg it cd m,Γ,X,e,c,h=>by
  refine Vh h λelt gs scope p h=>?_;refine BE h λyy h=>?_;obtain⟨t,iter,ifs,a0⟩:=yy;refine ZB h λh0 h1 h2 h3 h4 h5 h6=>?_;obtain rfl:a0=0:=aR.mp h0;obtain⟨CS,nd⟩:=SV h1;exact Ay c.hK rfl (XS CS c.calm (Xr it c h2) (λC s2 H fp=>Ue (c.comp nd) h4) (λC s2 H fp=>cw cd (c.comp nd) h5) (λC s2 H fp=>(AA m (c.comp nd) h6).1) c.sc c.hN (Mi h3))
 |.lrng m,Γ,X,e,c,h=>by
  refine Bn h λx q l p h=>?_;obtain⟨h1,h2⟩:=Ar h;obtain⟨hx,g1,hb,g2,g3⟩:=C5 c h1;refine BE h2 λe h3=>?_;refine Bn h3 λy q' l p' h4=>?_;obtain⟨h5,h6⟩:=Ar h4;obtain⟨hy,k1,kb,k2,k3⟩:=C5 c h5;refine BE h6 λz h6=>?_;obtain⟨h7,h8⟩:=Ar h6;exact Ay c.hK rfl (XM c.calm hx hy g1 k1 hb kb (AA m c h7).1 (As (CQ h8)))
 |.calL f es kk js,Γ,X,e,c,h=>by
  refine Bn h λx q l p h=>?_;refine B0 h λh1 h2 h3=>?_;obtain⟨ps,Fn⟩:=c.fns f x (bF h1);obtain⟨g1,g2,g3⟩:=c.gl h2;obtain⟨a,b,sc,lp,hl,ns,ne,pa⟩:=cy es c h3;obtain⟨hl,l8⟩:=Ar hl;refine ZB hl λl1 l2 l3 l4 l5 l6 l7=>?_;obtain⟨cc,P,t1,t2,t3,t4,t5,t6⟩:=c.tab lp (bF l4);have hkd:∀{y:Str},(kd Γ y ==some .cell)=true->X.env.scope.names.lookup y=some .cell:=λ{y} e=>by rw[c.sc];exact aR.mp e
  have hp:=Yr (X:=X) (params:=a) (body:=b) (scope:=sc) (pos:=lp) (P:=P) (c:=cc) (by
   unfold Cz at l1;split at l1
   ·rfl
   ·exact HJ l1) (λy hy e=>by
   have:=aZ.mp l8 y hy;rw[e]at this;exact hkd (by simpa using this)) t1 t2 t3 t4
  refine Ay c.hK rfl (XW (xs:=(G.lam kk).1) (lps:=(G.lam kk).2) Fn (c.room.mono (cZ _)) g1 g2 ?_ (pa P hp) t5 t6 (c.fn l5) (c.lamM kk ⟨X.env.qual++ "<lambda>",a,b,sc,(G.lam kk).1,(G.lam kk).2⟩ rfl rfl l1 l2 l3) (λcl h1 h2=>Si l2 h1 h2) ⟨bF l6,λi j y e1 e2=>?_⟩)
  ·cases l with
   |nil=>exact HJ ne.symm
   |cons e0 l=>exact⟨e0,l,rfl,As (BK ns).1,B2 (BK ns).2⟩
  obtain⟨q1,q2⟩:=Ar (aZ.mp l7 _ (Jf e1 e2));exact⟨by rw[c.hN];exact bF q1,hkd q2⟩
 |.calv i es,Γ,X,e,c,h=>by
  refine Bn h λx q l p h=>?_;refine B0 h λh1 h2 h3=>?_;obtain⟨v1,v2,v3,v4⟩:=c.vis h1;obtain⟨pa,ns⟩:=Dg es c h2;refine Ay c.hK rfl ?_;cases l with
  |nil=>exact HJ h3
  |cons e0 l=>exact XU v1 v2 v3 v4 c.room c.lamO pa (As (BK ns).1) (B2 (BK ns).2)
theorem cy:∀(es:EA) {k':Nat}{js:List Nat}{Γ:Ct}{X:Cx}{l:List Expr},Cg G W Φ k Γ X->px G es k' js Γ l=true->E4 λa b sc p=>A4 (Wy G k' js Γ a b sc p=true) (Bc l=true) (l.isEmpty=false) (∀P,PE X (.Lambda a b sc p) (Q4 X a b sc p P)->PA X l (Q3 X W a b sc p P (DA G.cs Φ G.ini G.cf es)))
 |.nil,k',js,Γ,X,l,c,h=>by
  refine BE h λe h=>?_;refine Vj h λa b sc p h=>?_;exact⟨a,b,sc,p,h,rfl,rfl,λP hp=>XN hp⟩
 |.cons m r,k',js,Γ,X,l,c,h=>by
  refine BG h λe l h=>?_;refine B0 h λh1 h2 h3=>?_;obtain⟨a,b,sc,p,hl,ns,ne,pa⟩:=cy r c h3;exact⟨a,b,sc,p,hl,by show(!Bj e&&Bc l)=true;rw[h2,ns];rfl,rfl,λP hp=>XO (AA m c h1).1 (pa P hp) (As (CQ h2))⟩
theorem Dg:∀(es:EA) {Γ:Ct}{X:Cx}{l:List Expr},Cg G W Φ k Γ X->CJ G es Γ l=true->PA X l (HG W (DA G.cs Φ G.ini G.cf es))/\Bc l=true
 |.nil,Γ,X,l,c,h=>by
  obtain rfl:=AY h;exact⟨K4,rfl⟩
 |.cons m r,Γ,X,l,c,h=>by
  refine BG h λx l h=>?_;refine B0 h λh1 h2 h3=>?_;obtain⟨pa,ns⟩:=Dg r c h3;exact⟨El (AA m c h1).1 pa (As (CQ h2)),by show(!Bj x&&Bc l)=true;rw[h2,ns];rfl⟩
theorem Xs:∀(es:EA) {Γ:Ct}{X:Cx}{l:List Expr}{pos:Pos},Cg G W Φ k Γ X->CJ G es Γ l=true->l.isEmpty=false->PE X (.BoolOp .And l pos) (tM W (P4 G.cs Φ G.ini G.cf es).1)/\PW X (.BoolOp .And l pos) (Fi W (P4 G.cs Φ G.ini G.cf es).2)
 |.nil,Γ,X,l,pos,c,h,hl=>by
  obtain rfl:=AY h;exact HJ hl.symm
 |.cons m .nil,Γ,X,l,pos,c,h,hl=>by
  refine BG h λx l h=>?_;refine B0 h λh1 h2 h3=>?_;obtain rfl:=AY h3;exact⟨R1 (AA m c h1).1,Xh (AA m c h1).2⟩
 |.cons m (.cons m' r),Γ,X,l,pos,c,h,hl=>by
  refine BG h λx l h=>?_;refine B0 h λh1 h2 h3=>?_;have h4:=h3
  revert h3
  refine BG h4 λy l _ h3=>?_;have ih:=Xs (.cons m' r) (pos:=pos) c h3 rfl;exact⟨gc (AA m c h1).1 ih.1,br (AA m c h1).2 ih.2⟩
theorem QA:∀(es:EA) {Γ:Ct}{X:Cx}{l:List Expr}{pos:Pos},Cg G W Φ k Γ X->CJ G es Γ l=true->l.isEmpty=false->PE X (.BoolOp .Or l pos) (tM W (P3 G.cs Φ G.ini G.cf es).1)/\PW X (.BoolOp .Or l pos) (Fi W (P3 G.cs Φ G.ini G.cf es).2)
 |.nil,Γ,X,l,pos,c,h,hl=>by
  obtain rfl:=AY h;exact HJ hl.symm
 |.cons m .nil,Γ,X,l,pos,c,h,hl=>by
  refine BG h λx l h=>?_;refine B0 h λh1 h2 h3=>?_;obtain rfl:=AY h3;exact⟨R1 (AA m c h1).1,bn (AA m c h1).2⟩
 |.cons m (.cons m' r),Γ,X,l,pos,c,h,hl=>by
  refine BG h λx l h=>?_;refine B0 h λh1 h2 h3=>?_;have h4:=h3
  revert h3
  refine BG h4 λy l _ h3=>?_;have ih:=QA (.cons m' r) (pos:=pos) c h3 rfl;exact⟨nJ (AA m c h1).1 ih.1,nj (AA m c h1).2 ih.2⟩
theorem cx:∀o {Γ:Ct}{X:Cx}{e:Option Expr},Cg G W Φ k Γ X->pv G o Γ e=true->PO X e (ce W (Zq G.cs Φ G.ini G.cf o))
 |.no,Γ,X,e,c,h=>by
  obtain rfl:=eC.mp h;exact du
 |.ye m,Γ,X,e,c,h=>by
  obtain⟨e,rfl,h⟩:=Hz h;exact df (AA m c h).1
theorem Xr:∀(i:MI) {Γ:Ct}{X:Cx}{tg e:Expr},Cg G W Φ k Γ X->pz G i Γ tg e=true->PI X tg e (T5 W (SJ G.cs Φ G.ini G.cf i))
 |.of m,Γ,X,tg,e,c,h=>nK c.hK (AA m c h).1
 |.rng1 a,Γ,X,tg,e,c,h=>by
  refine Bn h λx q l p h=>?_;obtain⟨h1,h2⟩:=Ar h;obtain⟨rfl,g1,hb,g2,g3⟩:=C5 c h1;refine BE h2 λe h2=>?_;obtain⟨h1,h2⟩:=Ar h2;exact XC g1 hb (AA a c h1).1 (As (CQ h2))
 |.rng2 a b,Γ,X,tg,e,c,h=>by
  refine Bn h λx q l p h=>?_;obtain⟨h1,h2⟩:=Ar h;obtain⟨rfl,g1,hb,g2,g3⟩:=C5 c h1;refine Ji h2 λd e h2=>?_;refine PV h2 λh1 h2 h3 h4=>?_;exact XB g1 hb (AA a c h1).1 (AA b c h2).1 (by rw[As (CQ h3),As (CQ h4)];rfl) (As (CQ h4))
 |.enu a,Γ,X,tg,e,c,h=>by
  refine Bn h λx q l p h=>?_;refine B0 h λh1 h2 h3=>?_;obtain⟨rfl,g1,hb,g2,g3⟩:=C5 c h1;refine BE h2 λe h2=>?_;obtain⟨h1,h2⟩:=Ar h2;refine DJ h3 λ_ _ _ _=>?_;exact fq c.hK g1 hb (AA a c h1).1 (As (CQ h2))
 |.zip a b,Γ,X,tg,e,c,h=>by
  refine Bn h λx q l p h=>?_;refine B0 h λh1 h2 h3=>?_;obtain⟨rfl,g1,hb,g2,g3⟩:=C5 c h1;refine Ji h2 λd e h2=>?_;refine PV h2 λh1 h2 h4 h5=>?_;refine DJ h3 λ_ _ _ _=>?_;exact de c.hK g1 hb (AA a c h1).1 (AA b c h2).1 (by rw[As (CQ h4),As (CQ h5)];rfl) (As (CQ h5))
theorem cw:∀(es:EA) {Γ:Ct}{X:Cx}{l:List Expr},Cg G W Φ k Γ X->CJ G es Γ l=true->PQ X l (Fi W (OE G.cs Φ G.ini G.cf es))
 |.nil,Γ,X,l,c,h=>by
  obtain rfl:=AY h;exact λpins s σ H Q I ⟨F,ρ,μ,hh,S,e,g⟩=>Yj pins s σ H Q I (g.ret S rfl)
 |.cons m .nil,Γ,X,l,c,h=>by
  refine BG h λx l h=>?_;refine B0 h λh1 h2 h3=>?_;obtain rfl:=AY h3;exact Yi (AA m c h1).2
 |.cons _ (.cons _ _),Γ,X,l,c,h=>λpins s σ H Q I ⟨F,ρ,μ,hh,S,e,g⟩=>g.elim
end
end
def Gz{ps:List Str}{us:List Value}{x:Str}(hl:us.length=ps.length)(hx:x∈ps):((ps.zip us).lookup x).isNone=false:=by
 induction ps generalizing us with
 |nil=>simp at hx
 |cons p ps ih=>
  cases us with
  |nil=>simp at hl
  |cons u us=>
   rw[bN,c9];by_cases e:x ==p
   ·simp[e]
   have hx:x∈ps:=by
    rcases aU.mp hx with rfl|h
    ·simp at e
    exact h
   have e:(x ==p)=false:=by simpa using e
   rw[e];exact ih (by simpa using hl) hx
theorem G6:∀{ps:List Str}{us:List Value}{S:List (Str×Value)},us.length=ps.length->(∀p∈ps.zip us,S.lookup p.1=some p.2)->ps.filterMap (λn=>(S.lookup n).map (n,·))=ps.zip us
 |[],us,S,_,_=>rfl
 |p::ps,[],S,h,_=>by simp at h
 |p::ps,u::us,S,h,hS=>by
  rw[bN]at hS ⊢;rw[fE,hS (p,u) aH];show(p,u)::_=_;rw[G6 (by simpa using h) λq hq=>hS q (aE _ hq)]
theorem Qo:∀{ps:List Str}{us:List Value},ps.Nodup->us.length=ps.length->∀q∈ps.zip us,(ps.zip us).lookup q.1=some q.2
 |[],us,_,_,q,hq=>by simp at hq
 |p::ps,[],_,h,q,hq=>by simp at h
 |p::ps,u::us,nd,h,q,hq=>by
  rw[bN]at hq ⊢;rcases aU.mp hq with rfl|hq
  ·simp[List.lookup_cons]
  have hn:q.1≠p:=λe=>(bX.mp nd).1 (by rw[←e];exact(eV hq).1);rw[c9,show(q.1 ==p)=false from bS.mpr hn];exact Qo (bX.mp nd).2 (by simpa using h) q hq
theorem IA:∀{L:List (Str×Value)},(∀p∈L,(S.lookup p.1).isNone=false)->(forIn L S λx r=>(if (r.lookup x.1).isNone=true then(pure (ForInStep.yield (r++ [(x.1,x.2)])):Sem _) else pure (ForInStep.yield r)))=(pure S:Sem _)
 |[],_=>rfl
 |p::L,h=>by
  rw[iL,h p aH];simp only[Bool.false_eq_true,if_false,pure_bind];exact IA λq hq=>h q (aE _ hq)
def Hw{fd:FuncData}{ps:List Str}{us:List Value}{as:List Arg}{kd:List (Option Expr)}{ds:List Expr}(hp:fd.params=⟨[],as,none,[],kd,none,ds⟩)(ha:as.map (·.arg)=ps)(nd:ps.Nodup)(hl:us.length=ps.length) :
 bindArgs fd ⟨us,[]⟩=(seqItems? fd.defaults >>=λ_=>pure (ps.zip us)):=by
 unfold bindArgs;simp only[hp,List.map_nil,List.nil_append,List.append_nil,ha,List.forIn_nil,pure_bind,hl,gt_iff_lt,Nat.lt_irrefl,Option.isNone_none,decide_false,Bool.false_and,Bool.false_eq_true,if_false];congr 1
 funext d
 have hm:∀n,((ps.take n).filter λn=>((ps.zip us).lookup n).isNone)=[]:=λn=>cG.mpr λx hx=>by rw[Gz hl (eD hx)];simp
 simp only[hm,List.isEmpty_nil,Bool.not_true,Bool.false_eq_true,if_false,pure_bind];rw[IA λq hq=>Gz hl (gL (eV hq).1)];rw[pure_bind,G6 hl (Qo nd hl)]
noncomputable def Ml(K:PySem.W.Frag)(v:Value):Bool:=match v with
 |.none=>true
 |.ref a=>(match K.lookup a with
  |some ⟨_,_,.seq _ _,_⟩=>true
  |_=>false)
 |_=>false
noncomputable def Hx(p:Arguments)(ps:List Str):Bool:=match p with
 |⟨[],as,none,[],_,none,_⟩=>decide (as.map (·.arg)=ps)
 |_=>false
def PR{K:Fq}{fd:FuncData}{ps:List Str}(ha:Hx fd.params ps=true)(nd:ps.Nodup)(hd:Ml K fd.defaults=true):Cn K fd ps []:=by
 intro s us hK hl;rw[cT]at hl ⊢;have e:bindArgs fd ⟨us,[]⟩=(seqItems? fd.defaults >>=λ_=>pure (ps.zip us)):=by
  unfold Hx at ha;split at ha
  ·rename_i as kd ds hp;exact Hw hp (bF ha) nd hl
  exact absurd ha aB
 unfold Ml at hd;split at hd
 ·rename_i hv;rw[hv]at e;exact BindsTo.of_eq (e.trans rfl)
 ·rename_i a hv;split at hd
  ·rename_i oc od it n sl hk;intro M A E Q hq;rw[e,hv];exact a8 (cR (hK _ _ hk) rfl (aF hq))
  exact absurd hd aB
 exact absurd hd aB
noncomputable def qx(x:Str)(p:Pos)(Γ:Ct)(v:Expr):Bool:=match v with
 |.ListComp _ _ scope q=>Γ.sc.kind== .function&&kd Γ x ==some .local&&p.line ==q.line&& !(scope.names.any λ(n,k)=>n ==x&&(k== .local||k== .cell))
 |_=>false
noncomputable def nC(x:Str)(Γ:Ct)(v:Expr):Bool:=CT v||(kd Γ x ==some .cell&&(match v with| .ListComp _ _ _ _=>true|_=>false))
noncomputable def Wu:MT->Bool
 |.nm _=>false
 |_=>true
noncomputable def LK(f:Expr->Expr->Pos->Bool)(e:Stmt):Bool:=if h:e.ctorIdx=5 then Stmt.Assign.elim e h (λt v p=>FZ (λt=>f t v p) t) else false
noncomputable def Zp(f:Expr->Bool)(e:Stmt):Bool:=if h:e.ctorIdx=24 then Stmt.Expr.elim e h (λv _=>f v) else false
noncomputable def Uq(f:Option Expr->Bool)(e:Stmt):Bool:=if h:e.ctorIdx=3 then Stmt.Return.elim e h (λv _=>f v) else false
noncomputable def Zb(f:Expr->List Stmt->List Stmt->Bool)(e:Stmt):Bool:=if h:e.ctorIdx=12 then Stmt.If.elim e h (λt u v _=>f t u v) else false
noncomputable def Zl(f:Expr->Expr->List Stmt->List Stmt->Bool)(e:Stmt):Bool:=if h:e.ctorIdx=9 then Stmt.For.elim e h (λt i b e _=>f t i b e) else false
noncomputable def WZ(f:Expr->List Stmt->List Stmt->Bool)(e:Stmt):Bool:=if h:e.ctorIdx=11 then Stmt.While.elim e h (λt b e _=>f t b e) else false
noncomputable def ie(e:Stmt):Bool:=if h:e.ctorIdx=25 then Stmt.Pass.elim e h (λ_=>true) else false
noncomputable def jK(e:Stmt):Bool:=if h:e.ctorIdx=26 then Stmt.Break.elim e h (λ_=>true) else false
noncomputable def jB(e:Stmt):Bool:=if h:e.ctorIdx=27 then Stmt.Continue.elim e h (λ_=>true) else false
section
variable (G:Gt)
mutual
noncomputable def rO:MS->Ct->Stmt->Bool
 |.set i e,Γ=>LK λt v _=>Qg (λx _=>sto Γ i x&&BW G e Γ v&&nC x Γ v) t
 |.setT t e,Γ=>LK λy v _=>Wu t&&lU Γ t y&&BW G e Γ v&&CT v&&RK v&&Kq (λ_ _ _=>true) y
 |.setC i e,Γ=>LK λt v _=>Qg (λx p=>sto Γ i x&&BW G e Γ v&&qx x p Γ v) t
 |.setI o i e,Γ=>LK λt v _=>OF (λx y=>BW G o Γ x&&BW G i Γ y&&BW G e Γ v&&CT v&&CB y) t
 |.setD o i e,Γ=>LK λt v _=>OF (λx y=>BW G o Γ x&&BW G i Γ y&&BW G e Γ v&&CT v) t
 |.setF o f e,Γ=>LK λt v _=>Tp (λx y _=>y ==G.nm f&&BW G o Γ x&&BW G e Γ v&&CT v) t
 |.expr e,Γ=>Zp λv=>BW G e Γ v&&CT v
 |.ret e,Γ=>Uq (·.any (BW G e Γ))
 |.retN,_=>Uq (·.isNone)
 |.ite c a b,Γ=>Zb λt u v=>BW G c Γ t&&LD a Γ u&&LD b Γ v
 |.for_ t it b,Γ=>Zl λtg iter body e=>lU Γ t tg&&pz G it Γ tg iter&&D3 iter&&LD b Γ body&&GX e
 |.wh _ c b,Γ=>WZ λt body e=>BW G c Γ t&&LD b Γ body&&GX e
 |.raise _ _ _,_=>λ_=>true
 |.pass,_=>ie
 |.brk,_=>jK
 |.cnt,_=>jB
noncomputable def LD:ZP->Ct->List Stmt->Bool
 |.nil,_=>GX
 |.cons s r,Γ=>SU λx l=>rO s Γ x&&LD r Γ l
end
end
section
variable {k:Nat}
def cu(c:Cg G W Φ k Γ X){x:Str}{n:Nat}(h:nC x Γ v=true):swapsWith v (some (.Name x p)) n X.env=pure false:=by
 unfold nC at h;rcases eX _ _ |>.mp h with h|h
 ·exact EI h
 obtain⟨h1,h2⟩:=Ar h;have h1:=aR.mp h1;cases v<;>first|(exact absurd h2 aB)|skip
 have hk:X.env.kindOf x=some .cell:=by show X.env.scope.names.lookup x=_;rw[c.sc];exact h1
 unfold swapsWith;simp only[hk];rw[show(some NameKind.cell ==some NameKind.local)=false from rfl];simp only[Bool.and_false,Bool.false_and]
def cr(c:Cg G W Φ k Γ X){x:Str}{n:Nat}(h:qx x p Γ v=true):(∃a b s q,v=.ListComp a b s q)/\X.env.scope.names.lookup x=some .local/\swapsWith v (some (.Name x p)) n X.env=pure true:=by
 cases v<;>first|(exact absurd (show false=true from h) aB)|skip
 rename_i elt gens scope q;have h:=h;obtain⟨h,h4⟩:=Ar h;obtain⟨h,h3⟩:=Ar h;obtain⟨h1,h2⟩:=Ar h;have h1:Γ.sc.kind=.function:=by cases hk:Γ.sc.kind<;>rw[hk]at h1<;>first|rfl|(exact absurd h1 (by decide))
 have h2:=aR.mp h2;refine⟨⟨_,_,_,_,rfl⟩,by rw[c.sc];exact h2,?_⟩;have hk:X.env.kindOf x=some .local:=by show X.env.scope.names.lookup x=_;rw[c.sc];exact h2
 have hb:X.env.blockKind=.function:=by unfold Env.blockKind;rw[c.sc,h1];rfl
 unfold swapsWith;simp only[hk,hb];have e:((Expr.ListComp elt gens scope q).pos).line=q.line:=rfl;rw[e,h3,h4];rfl
def Nl(h:CB i=true):∀v,assign (.Subscript o i pos) env v=(do
 let ov ←holding [v] (eval o env)
 let iv ←holding [v,ov] (eval i env)
 standAt pos
 holding [v,ov,iv] (setItem ov iv v)
 release [v,ov,iv] []):=by
 intro v;cases i<;>first|rfl|(exact absurd h (by simp[CB]))
def OH{k:Nat}(h:RK e=true):swappedStores [.Tuple es k p] e env=pure none:=by
 unfold swappedStores;cases e<;>first|rfl|(exact absurd h aB)
def Me:swappedStores [.Subscript o i p] e env=pure none:=by
 unfold swappedStores;cases e<;>rfl
def N5{n:Nat}(h:CT e=true):swapsWithSole [tg] e n env=pure false:=EI h
def VF(h:Wu t=true):∀i,t≠ .nm i:=by
 intro i e;rw[e]at h;exact absurd h aB
@[elab_as_elim]def V4{f:Expr->Bool}{P:Stmt->Prop}{e:Stmt}(h:Zp f e=true)(k:∀v p,f v=true->P (.Expr v p)):P e:=el h λq=>Stmt.Expr.elim (motive_2:=λe=>Zp f e=true->P e) e q k h
@[elab_as_elim]def NA{f:Option Expr->Bool}{P:Stmt->Prop}{e:Stmt}(h:Uq f e=true)(k:∀v p,f v=true->P (.Return v p)):P e:=el h λq=>Stmt.Return.elim (motive_2:=λe=>Uq f e=true->P e) e q k h
@[elab_as_elim]def Vt{f:Expr->List Stmt->List Stmt->Bool}{P:Stmt->Prop}{e:Stmt}(h:Zb f e=true)(k:∀t u v p,f t u v=true->P (.If t u v p)):P e:=el h λq=>Stmt.If.elim (motive_2:=λe=>Zb f e=true->P e) e q k h
@[elab_as_elim]def Vz{f:Expr->Expr->List Stmt->List Stmt->Bool}{P:Stmt->Prop}{e:Stmt}(h:Zl f e=true)(k:∀t i b o p,f t i b o=true->P (.For t i b o p)):P e:=el h λq=>Stmt.For.elim (motive_2:=λe=>Zl f e=true->P e) e q k h
@[elab_as_elim]def TM{f:Expr->List Stmt->List Stmt->Bool}{P:Stmt->Prop}{e:Stmt}(h:WZ f e=true)(k:∀t b o p,f t b o=true->P (.While t b o p)):P e:=el h λq=>Stmt.While.elim (motive_2:=λe=>WZ f e=true->P e) e q k h
@[elab_as_elim]def DW{f:Expr->Expr->Pos->Bool}{P:Stmt->Prop}{e:Stmt}(h:LK f e=true)(k:∀t v p,f t v p=true->P (.Assign [t] v p)):P e:=el h λq=>Stmt.Assign.elim (motive_2:=λe=>LK f e=true->P e) e q (λl v p h=>BE (P:=λl=>P (.Assign l v p)) h λt h=>k t v p h) h
@[elab_as_elim]def US{P:Stmt->Prop}{e:Stmt}(h:ie e=true)(k:∀p,P (.Pass p)):P e:=el h λq=>Stmt.Pass.elim e q k
@[elab_as_elim]def VJ{P:Stmt->Prop}{e:Stmt}(h:jK e=true)(k:∀p,P (.Break p)):P e:=el h λq=>Stmt.Break.elim e q k
@[elab_as_elim]def VB{P:Stmt->Prop}{e:Stmt}(h:jB e=true)(k:∀p,P (.Continue p)):P e:=el h λq=>Stmt.Continue.elim e q k
mutual
theorem nD:∀(m:MS) {Γ:Ct}{X:Cx}{st:Stmt},Cg G W Φ k Γ X->rO G m Γ st=true->PS X st (Ez W (ex G.cs Φ G.ini G.cf m))
 |.set i e,Γ,X,st,c,h=>by
  refine DW h λt v p h=>?_;refine C2 h λx q h=>?_;refine B0 h λh1 h2 h3=>?_;obtain⟨s1,s2,s3⟩:=c.sto h1;exact X6 (by rw[c.hN];exact c.nd) s1 s2 (AA e c h2).1 (cu c h3) s3
 |.setT t e,Γ,X,st,c,h=>by
  refine DW h λy v p h=>?_;refine PU h λh1 h2 h3 h4 h5 h6=>?_
  revert h2
  refine DJ h6 λes n q _ h2=>?_;exact X5 (VF h1) (AA e c h3).1 (Ue c h2) (N5 h4) (OH h5) rfl
 |.setC i e,Γ,X,st,c,h=>by
  refine DW h λt v p h=>?_;refine C2 h λx q h=>?_;refine B0 h λh1 h2 h3=>?_;obtain⟨s1,s2,s3⟩:=c.sto h1;obtain⟨⟨a,b,sc,q',rfl⟩,hl,hsw⟩:=cr (n:=p.line) c h3;cases e with
  |comp xs ys js tg it cd m=>
   refine BE (show FZ _ b=true from h2) λyy h4=>?_;obtain⟨t,iter,ifs,a0⟩:=yy;refine ZB h4 λk0 k1 k2 k3 k4 k5 k6=>?_;obtain rfl:a0=0:=aR.mp k0;obtain⟨CS,nd⟩:=SV k1;exact XA CS c.calm (by rw[c.hN];exact c.nd) s1 hl (Xr it c k2) (λC s2 H fp=>Ue (c.comp nd) k4) (λC s2 H fp=>cw cd (c.comp nd) k5) (λC s2 H fp=>(AA m (c.comp nd) k6).1) c.sc c.hN (Mi k3) hsw
  |_=>exact HJ h2
 |.setI o i e,Γ,X,st,c,h=>by
  refine DW h λt v p h=>?_;refine Gf h λx y q h=>?_;refine ZC h λh1 h2 h3 h4 h5=>?_;exact X7 (AA o c h1).1 (AA i c h2).1 (AA e c h3).1 (Nl h5) (N5 h4) Me rfl
 |.setD o i e,Γ,X,st,c,h=>by
  refine DW h λt v p h=>?_;refine Gf h λx y q h=>?_;refine PV h λh1 h2 h3 h4=>?_;exact X9 (by have:=c.hu;lia) (AA o c h1).1 (AA i c h2).1 (AA e c h3).1 (EI h4)
 |.setF o f e,Γ,X,st,c,h=>by
  refine DW h λt v p h=>?_;refine JX h λx y q h=>?_;refine PV h λh1 h2 h3 h4=>?_;obtain rfl:=aR.mp h1;rw[←c.nm];exact X8 c.hK c.kt (AA o c h2).1 (AA e c h3).1 (EI h4)
 |.expr e,Γ,X,st,c,h=>by
  refine V4 h λv p h=>?_;obtain⟨h1,h2⟩:=Ar h;exact XQ (AA e c h1).1 (EI h2)
 |.ret e,Γ,X,st,c,h=>by
  refine NA h λv p h=>?_;obtain⟨v,rfl,h⟩:=Hz h;exact dq (AA e c h).1
 |.retN,Γ,X,st,c,h=>by
  refine NA h λv p h=>?_;obtain rfl:=eC.mp h;exact XD
 |.ite t a b,Γ,X,st,c,h=>by
  refine Vt h λt' u v p h=>?_;refine B0 h λh1 h2 h3=>?_;exact ff (AA t c h1).2 (Io a c h2) (Io b c h3)
 |.for_ t it b,Γ,X,st,c,h=>by
  refine Vz h λtg iter body els p h=>?_;refine ZC h λh1 h2 h3 h4 h5=>?_;obtain rfl:=AY h5;exact fk c.own c.calm (Xr it c h2) (Ue c h1) (Io b c h4) (Mi h3)
 |.wh n t b,Γ,X,st,c,h=>by
  refine TM h λt' body els p h=>?_;refine B0 h λh1 h2 h3=>?_;obtain rfl:=AY h3;exact nI c.own (AA t c h1).2 (Io b c h2)
 |.raise cc f e,Γ,X,st,c,h=>Ul (cs:=G.cs) (c0:=cc) (f:=f) (fe:=(e2 G.cs Φ G.ini G.cf e).1)
 |.pass,Γ,X,st,c,h=>by
  refine US h λp=>?_;exact XE
 |.brk,Γ,X,st,c,h=>by
  refine VJ h λp=>?_;exact fz
 |.cnt,Γ,X,st,c,h=>by
  refine VB h λp=>?_;exact ft
theorem Io:∀m {Γ:Ct}{X:Cx}{st:List Stmt},Cg G W Φ k Γ X->LD G m Γ st=true->Ig X st (Ez W (exs G.cs Φ G.ini G.cf m))
 |.nil,Γ,X,st,c,h=>by
  obtain rfl:=AY h;exact X4
 |.cons s r,Γ,X,st,c,h=>by
  refine BG h λx l h=>?_;obtain⟨h1,h2⟩:=Ar h;exact Uk (nD s c h1) (Io r c h2)
end
end
structure Af where
 ps:List Str
 N:List Str
 body:ZP
 lp:List Pos:=[]
noncomputable def Ab(n:Nat)(rs:List R):En:=rs.map some++List.replicate (n-rs.length) none
noncomputable def fin(len:Nat):SR->AI R
 |some (.rt (.v m),h)=>.ok (.v m) (h.take len)
 |some (.rt (.r k),h)=>if k<len then .ok (.r k) (h.take len) else(match h[k]? with
  |some o=>.ok (.r len) (h.take len++ [o])
  |none=>.no)
 |some (.nx _,h)=>.ok (.v .non) (h.take len)
 |_=>.no
section
variable (G:Gt) (ds:List Af)
noncomputable def EM:Nat->Fs
 |0=>λ_ _ _=>.no
 |n+1=>λf rs h=>match ds[f]? with
  |some d=>if rs.length=d.ps.length then fin h.length (exs G.cs (EM n) G.ini G.cf d.body (Ab d.N.length rs) h) else .no
  |none=>.no
end
section
def Ku(p:ρ <+: ρ'):ρ'.take ρ.length=ρ:=by
 obtain⟨t,rfl⟩:=p;exact List.take_left' rfl
def SG{n:Nat}(hn:ρ.length=n)(g:GE W F ρ (fin n x) Q):GS W {nx:=λ_ H'=>Q .non H',rt:=Q} F ρ x:=by
 subst hn;have back:∀{F' ρ' H' h'},DX F ρ F' ρ'->Bq W F' H' ρ' h'->DX F ρ F' ρ/\Bq W F' H' ρ (h'.take ρ.length):=λn S=>⟨⟨n.s,cF _⟩,by have:=S.take ρ.length;rwa[Ku n.p]at this⟩
 match x,g with
 |none,g=>exact g
 |some (.nx μ',h'),g=>exact λF' ρ' H' σ' n S e=>g F' ρ H' .non (back n S).1 (back n S).2 (by show Aq W F' .non .non;unfold Aq;rfl)
 |some (.bk μ',h'),g=>exact g.elim
 |some (.ct μ',h'),g=>exact g.elim
 |some (.rt (.v m),h'),g=>exact λF' ρ' H' v n S r=>g F' ρ H' v (back n S).1 (back n S).2 r
 |some (.rt (.r k),h'),g=>
  intro F' ρ' H' v n S r;obtain⟨a,rfl,ha⟩:=r;have g:GE W F ρ (if k<ρ.length then .ok (.r k) (h'.take ρ.length) else(match h'[k]? with|some o=>.ok (.r ρ.length) (h'.take ρ.length++ [o])|none=>.no)) Q:=g;by_cases hk:k<ρ.length
  ·rw[if_pos hk]at g;refine g F' ρ H' _ (back n S).1 (back n S).2 ⟨a,rfl,?_⟩;rw[←Ku n.p,fS,if_pos hk];exact ha
  rw[if_neg hk]at g;cases ho:h'[k]? with
  |none=>rw[ho]at g;exact g.elim
  |some o=>
   rw[ho]at g;have S0:=(back n S).2;have l0:(h'.take ρ.length).length=ρ.length:=S0.len.symm;refine g F' (ρ++ [a]) H' _ ⟨n.s,List.prefix_append _ _⟩ ⟨S0.sub,?_,by simp[l0],λj b m h1 h2=>?_,S0.tb,S0.tf⟩ ⟨a,rfl,by simp⟩
   ·obtain⟨t,ht⟩:=n.p;have nd:=S.nd;rw[←ht]at nd ha;rw[aQ (by lia)]at ha;have hm:a∈t:=aP ha;exact nd.sublist (List.Sublist.append (i8 _) (List.singleton_sublist.mpr hm))
   by_cases hj:j<ρ.length
   ·rw[aO hj]at h1;rw[aO (by lia)]at h2;exact S0.obj j b m h1 h2
   rw[aQ (by lia)]at h1;rw[aQ (by lia),l0]at h2;have hz:j-ρ.length=0:=by
    cases hz:j-ρ.length with
    |zero=>rfl
    |succ q=>rw[hz]at h1;simp at h1
   rw[hz]at h1 h2;cases h1;cases h2;exact S.obj k a o ha ho
theorem GW{α β:Type}{R:α->β->Prop}:∀{l:List α}{l':List β},Paired R l l'->∀{i:Nat}{a:α},l[i]?=some a->∃b,l'[i]?=some b/\R a b
 |[],_,h,i,a,e=>by simp at e
 |x::l,l',h,i,a,e=>by
  cases h with
  |cons q t=>
   cases i with
   |zero=>simp at e;subst e;exact⟨_,rfl,q⟩
   |succ i=>simpa using GW t (i:=i) (a:=a) (by simpa using e)
def Xo(r:AF W F ρ rs vs):BQ W F ρ (Ab N.length rs) (B9 N vs):=by
 have l:=CP r;refine⟨by simp[Ab,L2.B9,l],λi q h=>?_⟩;unfold Ab at h;unfold L2.B9;by_cases hi:i<rs.length
 ·rw[aO (by simpa using hi),aJ]at h;cases hq:rs[i]? with
  |none=>rw[hq]at h;simp at h
  |some q'=>
   rw[hq]at h;obtain⟨v,hv,rv⟩:=GW r hq;refine⟨v,?_,?_⟩
   ·rw[aO (by simp;lia),aJ,hv];rfl
   cases h;exact rv
 rw[aQ (by simpa using hi),cM]at h;split at h<;>cases h
end
structure sf(K:PySem.W.Frag)(d:Af)(G:Gt)(f:Addr)(fd:FuncData):Prop where
 ex:∃(name qual:Str) (params:Arguments) (body:List Stmt) (scope:Scope) (dV kV doc pm:Value) (an:Option Addr) (cdv ct oc:Value) (od:Option Addr) (osl:Array (Option Value)),
  fd=PySem.W.fnOf name qual params body scope dV kV doc pm an cdv ct/\K.lookup f=some ⟨oc,od,.func fd,osl⟩/\PySem.W.codeIn K cdv qual=true/\Gy d.N d.ps scope/\LD G d.body ⟨d.N,scope,true,d.lp⟩ body=true
 bd:Cn K fd d.ps []
 kp:PySem.W.keepIn K (.ref f)=true
noncomputable def Gt.noL(G:Gt):Gt:={G with lck:=λ_ _ _=>false}
structure Pg(G:Gt)(W:Wd)(ds:List Af)(nf:Nat)(P:Program)(w:World)(mg:Str->Option Value)(base:Heap)(fa:Nat->Addr)(fd:Nat->FuncData):Prop where
 nm:W.nm=G.nm
 kt:Kt G.cs W
 nb:∀x∈G.blt,mg x=none
 dd:∀(f:Nat) (d:Af),f<nf->ds[f]?=some d->sf W.K d G (fa f) (fd f)
 fns:∀(f:Nat) (x:Str),G.fns[f]?=some x->(f<nf/\∃d,ds[f]?=some d)/\mg x=some (.ref (fa f))
 cl:∀(c:Nat) (i:Ci),G.cs[c]?=some i->mg i.nm=some (.ref (W.ca c))
 mkk:∀(c:Nat) (i:Ci) (f:Nat),G.cs[c]?=some i->i.exc=false->G.ini c=some f->(f<nf/\∃d,ds[f]?=some d)/\Mk W.K (W.ca c) (fa f)
 n0:∀(c:Nat) (i:Ci),G.cs[c]?=some i->i.exc=false->G.ini c=none->VU W.K mg i.nm (W.ca c)
 mt:∀(m c:Nat) (i:Ci) (f:Nat),G.cs[c]?=some i->i.exc=false->i.mts.lookup m=some f->(f<nf/\∃d,ds[f]?=some d)/\Tz W.K (W.ca c)/\ZO W.K (W.ca c) (W.nm m) (fa f)
 cf:∀(c m f:Nat) (i:Ci),G.cs[c]?=some i->G.cf c m=some f->(f<nf/\∃d,ds[f]?=some d)/\PySem.W.readsIn W.K (W.ca c) (.type "type")=true/\PySem.W.findCls W.K (.ref (W.ca c)) (.type "type") (W.nm m)=some (.val (.ref (fa f)))/\PySem.W.specialIn W.K (.ref (W.ca c)) "__getattribute__"=some (some (.builtin "type.__getattribute__"))
 gI:∀(x:Str) (j:Int),G.glo.lookup x=some (.int j)->∃t,mg x=some (.int j t)
 gS:∀(x:Str) (j:Str),G.glo.lookup x=some (.str j)->∃t,mg x=some (.str j t)
 lamM:∀(k:Nat) (l:Tw),l.xs=(G.lam k).1->l.ps=(G.lam k).2->Cz l.params l.ps=true->Cb l.xs l.ps l.scope=true->G.lck k l.body l.scope=true->Tv W k l
 lamR:∀(F:Hp) (k:Nat) (vs:List V) (v:V),W.lamR F k vs v->∃l:Tw,l.xs=(G.lam k).1/\l.ps=(G.lam k).2/\Cz l.params l.ps=true/\Cb l.xs l.ps l.scope=true/\G.lck k l.body l.scope=true/\E7 λf c' oc pm ctv cl C=>A3 (v=.ref f) (PY l oc cl C vs) (Ke l F f c' oc pm ctv cl C)
 lck:∀(k:Nat) (b:Expr) (sc:Scope),G.lck k b sc=true->E2 λm d=>A5 (ds[k]?=some d) (d.ps.length=((G.lam k).1++(G.lam k).2).length) (d.N.length=((G.lam k).1++(G.lam k).2).length) (d.body=.cons (.ret m) .nil) (BW G.noL m ⟨(G.lam k).1++(G.lam k).2,sc,false,[]⟩ b=true)
 tab:∀(f:Nat) (d:Af) (p:Pos),f<nf->ds[f]?=some d->p∈d.lp->E2 λc Pt=>A6 ((fd f).code=.ref c) (PySem.W.CodeHd base c Pt) (base.BuiltinsAt mg Pt) (mainGlobals≠Pt) ((Pt,((fd f).qualname++ ".<locals>.")++ "<lambda>",p)∈W.tl) (∀t∈W.tl,t.1=Pt->t=(Pt,((fd f).qualname++ ".<locals>.")++ "<lambda>",p))
section
variable {nf:Nat}
def NP(h:Cz l.params l.ps=true)(nd:l.ps.Nodup):ZQ l:=λcl pm cdv ctv us hl=>by
 unfold Cz at h;split at h
 ·rename_i as hp;exact(Hw (fd:=PySem.W.kla_fn "<lambda>" l.qual l.params l.body l.scope cl pm cdv ctv) hp (bF h) nd hl).trans rfl
 exact absurd h aB
def XZ(t:tM W (λμ h=>fin h.length (exs cs Φ ini cf (.cons (.ret m) .nil) μ h)) σ H Q):tM W (e2 cs Φ ini cf m).1 σ H Q:=by
 obtain⟨F,ρ,μ,h,S,ee,G⟩:=t;refine⟨F,ρ,μ,h,S,ee,?_⟩;have g:=SG S.len G;cases hx:(e2 cs Φ ini cf m).1 μ h with
 |no=>
  have e:exs cs Φ ini cf (.cons (.ret m) .nil) μ h=none:=by show Kk (O7 _) _ μ h=none;unfold Kk O7;rw[hx];rfl
  rw[e]at g;exact g
 |ok r h'=>
  have e:exs cs Φ ini cf (.cons (.ret m) .nil) μ h=some (.rt r,h'):=by show Kk (O7 _) _ μ h=_;unfold Kk O7;rw[hx];rfl
  rw[e]at g;exact g
theorem Pg.ok(pg:Pg G W ds nf P w mg base fa fd):∀n:Nat,(∀f d,f<nf->ds[f]?=some d->DI P w W.K mg base O5 (2*n+1) (fa f) (fd f) d.ps (K0 W (EM G ds n) f))/\Tu P w W.K mg base W (EM G ds n) (2*n+1)
 |0=>⟨λf d _ hd=>⟨λvs H Q E ⟨_,_,_,_,_,_,g⟩=>g.elim,λA outer s H args us vs Q E _ _ _ _ ⟨_,_,_,_,_,_,g⟩=>g.elim⟩,λF k vs v hl=>by
  obtain⟨l,e1,e2,a0,a1,hck,r⟩:=pg.lamR F k vs v hl;refine⟨l,λ_ _=>.no,NP a0 ?_,λ_ _=>.inl rfl,λf c' cl A outer s H _ _ pins s' σ H' Q I ⟨_,_,_,_,_,_,g⟩=>g.elim,r⟩;unfold Cb at a1;simp only[Bool.and_eq_true,decide_eq_true_eq]at a1;exact a1.1.1.1.2.sublist (fK _ _)⟩
 |n+1=>by
  obtain⟨ih,ihL⟩:=Pg.ok pg n;have hfns:∀f x,G.fns[f]?=some x->∃ps,PZ P w W.K mg base x (2*n+1) ps (K0 W (EM G ds n) f):=λf x hx=>by
   obtain⟨⟨hf,d,hd⟩,hm⟩:=pg.fns f x hx;exact⟨d.ps,fa f,fd f,ih f d hf hd,hm,(pg.dd f d hf hd).kp,(pg.dd f d hf hd).bd⟩
  have hmkk:∀c i f,G.cs[c]?=some i->i.exc=false->G.ini c=some f->E3 λfi fdd ps=>A3 (Mk W.K (W.ca c) fi) (DI P w W.K mg base O5 (2*n+1) fi fdd ps (K0 W (EM G ds n) f)) (Cn W.K fdd ps []):=λc i f hc he hi=>by
   obtain⟨⟨hf,d,hd⟩,hm⟩:=pg.mkk c i f hc he hi;exact⟨fa f,fd f,d.ps,hm,ih f d hf hd,(pg.dd f d hf hd).bd⟩
  have hmt:∀m c i f,G.cs[c]?=some i->i.exc=false->i.mts.lookup m=some f->∃ps,WM P w W.K mg base O5 (2*n+1) (W.ca c) (W.nm m) ps (K0 W (EM G ds n) f):=λm c i f hc he hi=>by
   obtain⟨⟨hf,d,hd⟩,hm,hn⟩:=pg.mt m c i f hc he hi;exact⟨d.ps,fa f,fd f,hm,hn,ih f d hf hd,(pg.dd f d hf hd).bd⟩
  have hcf:∀c m f i,G.cs[c]?=some i->G.cf c m=some f->∃ps,pZ P w W.K mg base i.nm (W.nm m) (2*n+1) ps (K0 W (EM G ds n) f):=λc m f i hc hi=>by
   obtain⟨⟨hf,d,hd⟩,h1,h2,h3⟩:=pg.cf c m f i hc hi;exact⟨d.ps,W.ca c,fa f,fd f,ih f d hf hd,pg.cl c i hc,h1,h2,h3,(pg.dd f d hf hd).kp,(pg.dd f d hf hd).bd⟩
  refine⟨λf d hfn hd=>?_,λF k vs v hl=>?_⟩
  ·obtain⟨⟨name,qual,params,body,scope,dV,kV,doc,pm,an,cdv,ct,oc,od,osl,efd,lk,hcd,S,ck⟩,bd,kp⟩:=pg.dd f d hfn hd;have htab:=λp hp=>pg.tab f d p hfn hd hp;rw[efd]at lk htab ⊢;have go:∀{rs:List R}{h:MH}{F ρ Q},GE W F ρ (EM G ds (n+1) f rs h) Q->rs.length=d.ps.length/\GE W F ρ (fin h.length (exs G.cs (EM G ds n) G.ini G.cf d.body (Ab d.N.length rs) h)) Q:=by
    intro rs h F ρ Q g;simp only[EM,hd]at g;by_cases hl:rs.length=d.ps.length
    ·rw[if_pos hl]at g;exact⟨hl,g⟩
    rw[if_neg hl]at g;exact g.elim
   refine j2 (k:=2*n+2) lk hcd S (λvs H Q E ⟨F,ρ,h,rs,S',r,g⟩=>by rw[←CP r];exact(go g).1) λA outer s H vs Q E hr hsp=>?_;obtain⟨F,ρ,h,rs,S',r,g⟩:=hsp;refine⟨_,Io d.body (Φ:=EM G ds n) (k:=2*n+1) (Γ:=⟨d.N,scope,true,d.lp⟩) ?_ ck,⟨F,ρ,Ab d.N.length rs,h,S',Xo r,SG S'.len (go g).2⟩⟩;exact {
    hK:=rfl,nm:=pg.nm,kt:=pg.kt,nb:=pg.nb,fns:=hfns,cl:=pg.cl,mkk:=hmkk,n0:=pg.n0,mt:=λm=>⟨hmt m⟩,cf:=hcf
    gI:=pg.gI,gS:=pg.gS,calm:=rfl,room:=hr,hN:=rfl,nd:=S.nd,sc:=rfl,fn:=λ_ _=>rfl
    own:=PassesOwn.leaving
    lamM:=pg.lamM,lamO:=ihL
    tab:=htab}
  obtain⟨l,e1,e2,a0,a1,hck,r⟩:=pg.lamR F k vs v hl;obtain⟨m,d,hd,dp,dN,db,ck⟩:=pg.lck k l.body l.scope hck;have nd:(l.xs++l.ps).Nodup:=by
   have:=a1;unfold Cb at this;simp only[Bool.and_eq_true,decide_eq_true_eq]at this;exact this.1.1.1.2
  refine⟨l,λμ h=>fin h.length (exs G.cs (EM G ds n) G.ini G.cf d.body μ h),NP a0 (nd.sublist (fK _ _)),λrs h=>?_,λf c' cl A outer s H sc hr=>?_,r⟩
  ·simp only[EM,hd];by_cases hl:rs.length=d.ps.length
   ·rw[if_pos hl];refine .inr ⟨by rw[hl,dp,←e1,←e2,aV],?_⟩;show fin _ (exs _ _ _ _ _ (Ab d.N.length rs) h)=_;unfold Ab;rw[dN,←e1,←e2]
   rw[if_neg hl];exact .inl rfl
  rw[db];rw[←e1,←e2]at ck;refine PE.of (AA (G:=G.noL) (W:=W) (Φ:=EM G ds n) (k:=2*n+1) m (Γ:=⟨l.xs++l.ps,l.scope,false,[]⟩) ?_ ck).1 λσ H Q t=>XZ t;exact {
   hK:=rfl,nm:=pg.nm,kt:=pg.kt,nb:=pg.nb,fns:=hfns,cl:=pg.cl,mkk:=hmkk,n0:=pg.n0,mt:=λm=>⟨hmt m⟩,cf:=hcf
   gI:=pg.gI,gS:=pg.gS,calm:=rfl,room:=hr.mono (by lia),hN:=rfl,nd:=nd,sc:=rfl,fn:=λz=>by cases z
   own:=PassesOwn.never
   lamM:=λk l _ _ _ _ z=>by cases z
   lamO:=ihL
   tab:=λp hp=>absurd hp (by simp)}
end
structure Tb where
 cs:List Ci
 names:List Str
 glo:List (Str×MV)
 blt:List Str
 cfl:List ((Nat×Nat)×Nat)
 fns:List Str
 mths:List (Nat×Nat)
 ds:List Af
 lds:List (List Str×List Str×ME)
noncomputable def HK(l:List Str)(i:Nat):Str:=match l[i]? with
 |some x=>x
 |none=>⟨(List.replicate (i+60) 63).toArray⟩
noncomputable def CU(l:List Str):Bool:=decide l.Nodup&&l.all λx=>decide (x.cps.size<60)
theorem D4{α:Type}:∀{l:List α}(nd:l.Nodup) {i j:Nat}{x:α},l[i]?=some x->l[j]?=some x->i=j
 |[],_,i,j,x,h,_=>by simp at h
 |a::l,nd,i,j,x,h1,h2=>by
  obtain⟨n1,n2⟩:=bX.mp nd;cases i with
  |zero=>
   cases j with
   |zero=>rfl
   |succ j=>simp at h1 h2;subst h1;exact absurd (aP h2) n1
  |succ i=>
   cases j with
   |zero=>simp at h1 h2;subst h2;exact absurd (aP h1) n1
   |succ j=>exact cK Nat.succ (D4 n2 (i:=i) (j:=j) (x:=x) (by simpa using h1) (by simpa using h2))
def RL(h:CU l=true):∀i j,HK l i=HK l j->i=j:=by
 unfold CU at h;simp only[Bool.and_eq_true,decide_eq_true_eq,List.all_eq_true]at h;obtain⟨nd,sz⟩:=h;intro i j e;unfold HK at e;cases hi:l[i]? with
 |none=>
  cases hj:l[j]? with
  |none=>
   rw[hi,hj]at e;have:=cK (λx:Str=>x.cps.size) e;simp at this
   lia
  |some y=>
   rw[hi,hj]at e;have:=sz y (aP hj);have e:=cK (λx:Str=>x.cps.size) e;simp at e
   lia
 |some x=>
  cases hj:l[j]? with
  |none=>
   rw[hi,hj]at e;have:=sz x (aP hi);have e:=cK (λx:Str=>x.cps.size) e;simp at e
   lia
  |some y=>
   rw[hi,hj]at e;obtain⟨l1,g1⟩:=a9.mp hi;obtain⟨l2,g2⟩:=a9.mp hj;exact D4 nd hi (by rw[hj];exact cK some e.symm)
noncomputable def Tb.lam(T:Tb)(k:Nat):Option (List Str×List Str×ME):=if k<T.ds.length then none else T.lds[k-T.ds.length]?
noncomputable def Tb.gt0(T:Tb):Gt:={cs:=T.cs,fns:=T.fns,nm:=HK T.names,glo:=T.glo,blt:=T.blt,ini:=λc=>(T.cs[c]?).bind Ci.init,cf:=λc m=>T.cfl.lookup (c,m),lam:=λk=>((T.lam k).map λl=>(l.1,l.2.1)).getD ([],[]),lck:=λ_ _ _=>false}
noncomputable def Tb.gt(T:Tb):Gt:={T.gt0 with lck:=λk b sc=>match T.lam k with
 |some (xs,ps,m)=>BW T.gt0 m ⟨xs++ps,sc,false,[]⟩ b
 |none=>false}
noncomputable def Tb.all(T:Tb):List Af:=T.ds++T.lds.map λl=>⟨l.1++l.2.1,l.1++l.2.1,.cons (.ret l.2.2) .nil,[]⟩
def Tb.all_lt{T:Tb}{f:Nat}(h:f<T.ds.length):T.all[f]?=T.ds[f]?:=aO h
def Tb.lam_all{T:Tb}{k:Nat}{l:List Str×List Str×ME}(h:T.lam k=some l):T.all[k]?=some ⟨l.1++l.2.1,l.1++l.2.1,.cons (.ret l.2.2) .nil,[]⟩:=by
 unfold Tb.lam at h;split at h
 ·cases h
 rename_i hk;unfold Tb.all;rw[aQ (by lia),aJ,h];rfl
noncomputable def H9(K:PySem.W.Frag)(x:Str):Addr:=match PySem.W.nsIn K mainGlobals x with
 |some (some (.ref a))=>a
 |_=>0
noncomputable def YG(K:PySem.W.Frag)(C:Addr)(m:Str):Addr:=match PySem.W.findIn K (.ref C) m with
 |some (some (.ref a))=>a
 |_=>0
noncomputable def Cc(K:PySem.W.Frag)(cs:List Ci)(c:Nat):Addr:=match cs[c]? with
 |some i=>H9 K i.nm
 |none=>0
noncomputable def BB(K:PySem.W.Frag)(T:Tb)(f:Nat):Addr:=match T.fns[f]? with
 |some x=>H9 K x
 |none=>(match T.mths[f-T.fns.length]? with
  |some (c,m)=>YG K (Cc K T.cs c) (HK T.names m)
  |none=>0)
noncomputable def Fy(K:PySem.W.Frag)(f:Addr):FuncData:=match K.lookup f with
 |some ⟨_,_,.func fd,_⟩=>fd
 |_=>default
noncomputable def Il(K:PySem.W.Frag)(f:Addr):Addr:=match (Fy K f).code with
 |.ref c=>(match K.lookup c with
  |some ⟨_,_,.fields vs,_⟩=>(match vs[11]? with
   |some (Value.ref P)=>P
   |_=>0)
  |_=>0)
 |_=>0
noncomputable def EG(K:PySem.W.Frag)(T:Tb):Nat->List Af->List (Addr×Str×Pos)
 |_,[]=>[]
 |f,d::ds=>(d.lp.map λp=>(Il K (BB K T f),((Fy K (BB K T f)).qualname++ ".<locals>.")++ "<lambda>",p))++EG K T (f+1) ds
theorem Ks{K:Fq}{T:Tb}{f:Nat}{d:Af}{p:Pos}:∀{ds:List Af}{n:Nat},ds[f]?=some d->p∈d.lp->(Il K (BB K T (n+f)),((Fy K (BB K T (n+f))).qualname++ ".<locals>.")++ "<lambda>",p)∈EG K T n ds
 |[],n,h,_=>by simp at h
 |q::ds,n,h,hp=>by
  unfold EG;cases f with
  |zero=>simp at h;subst h;exact fD _ (fG (f:=λp=>(Il K (BB K T n),((Fy K (BB K T n)).qualname++ ".<locals>.")++ "<lambda>",p)) hp)
  |succ f=>have:=Ks (K:=K) (T:=T) (n:=n+1) (f:=f) (ds:=ds) (by simpa using h) hp;rw[show n+1+f=n+(f+1) by lia]at this;exact bH _ this
def jj(T:Tb)(F:Hp)(k:Nat)(vs:List V)(v:V):Prop:=∃l:Tw,l.xs=(T.gt.lam k).1/\l.ps=(T.gt.lam k).2/\Cz l.params l.ps=true/\Cb l.xs l.ps l.scope=true/\T.gt.lck k l.body l.scope=true/\E7 λf c' oc pm ctv cl C=>A3 (v=.ref f) (PY l oc cl C vs) (Ke l F f c' oc pm ctv cl C)
noncomputable def ly(K:PySem.W.Frag)(T:Tb)(h:CU T.names=true):Wd:={K:=K,ca:=Cc K T.cs,nm:=HK T.names,inj:=RL h,lamR:=jj T,lamS:=λs ⟨l,a,b,c,d,e,f,c',oc,pm,ctv,cl,C,x,y,z⟩=>⟨l,a,b,c,d,e,f,c',oc,pm,ctv,cl,C,x,y,z.same s⟩,tl:=EG K T 0 T.ds}
noncomputable def Fc{α:Type}(p:Nat->α->Bool):Nat->List α->Bool
 |_,[]=>true
 |n,a::l=>p n a&&Fc p (n+1) l
theorem CL{α:Type}{p:Nat->α->Bool}:∀{n:Nat}{l:List α},Fc p n l=true->∀{c:Nat}{i:α},l[c]?=some i->p (n+c) i=true
 |n,[],h,c,i,e=>by simp at e
 |n,a::l,h,c,i,e=>by
  obtain⟨h1,h2⟩:=Ar (show(p n a&&Fc p (n+1) l)=true from h);cases c with
  |zero=>simp at e;subst e;exact h1
  |succ c=>have:=CL h2 (c:=c) (i:=i) (by simpa using e);rwa[show n+1+c=n+(c+1) by lia]at this
noncomputable def X3(N ps:List Str)(sc:Scope):Bool:=sc.kind== .function&& !sc.isCoroutine&& !sc.isGenerator&&decide N.Nodup&&decide (N.take ps.length=ps)&&ps.all (λx=>sc.names.lookup x ==some .local||sc.names.lookup x ==some .cell)&&sc.names.all (λy=>y.2 != .free)
def Uj(h:X3 N ps sc=true):Gy N ps sc:=by
 unfold X3 at h;simp only[Bool.and_eq_true,beq_iff_eq,decide_eq_true_eq,Bool.not_eq_true',List.all_eq_true,Bool.or_eq_true,bne_iff_ne]at h;obtain⟨⟨⟨⟨⟨⟨a,b⟩,c⟩,d⟩,e⟩,f⟩,g⟩:=h;exact⟨by cases hk:sc.kind<;>rw[hk]at a<;>first|rfl|(exact absurd a (by decide)),b,c,d,e,f,g⟩
noncomputable def Zo(K:PySem.W.Frag)(ps:List Str)(fd:FuncData):Bool:=fd.globals ==mainGlobals&&fd.closure.isEmpty&&fd.builtins ==builtinsNs&&PySem.W.codeIn K fd.code fd.qualname&&Hx fd.params ps&&Ml K fd.defaults&&decide ps.Nodup
noncomputable def Zm(K:PySem.W.Frag)(G:Gt)(d:Af)(f:Addr):Bool:=match K.lookup f with
 |some ⟨_,_,.func fd,_⟩=>(match fd.body with
  |.stmts body=>Zo K d.ps fd&&X3 d.N d.ps fd.scope&&LD G d.body ⟨d.N,fd.scope,true,d.lp⟩ body
  |_=>false)
 |_=>false
def V3{K:Fq}{ps:List Str}{fd:FuncData}{body:List Stmt}(h:Zo K ps fd=true)(hb:fd.body=.stmts body):fd=PySem.W.fnOf fd.name fd.qualname fd.params body fd.scope fd.defaults fd.kwdefaults fd.doc fd.pyModule fd.annotations fd.code fd.closureTuple/\PySem.W.codeIn K fd.code fd.qualname=true/\Cn K fd ps []:=by
 unfold Zo at h;simp only[Bool.and_eq_true,beq_iff_eq,decide_eq_true_eq]at h;obtain⟨⟨⟨⟨⟨⟨a,b⟩,c⟩,d⟩,e⟩,f⟩,g⟩:=h;refine⟨?_,d,PR e g f⟩;have b':fd.closure=[]:=by simpa using b
 clear b d e f;cases fd;simp only at a b' c hb;subst a b' c hb;rfl
def Og{K:Fq}{G:Gt}{d:Af}{f:Addr}(h:Zm K G d f=true):sf K d G f (Fy K f):=by
 unfold Zm at h;split at h
 ·rename_i oc od fd osl hk;split at h
  ·rename_i body hb;obtain⟨h,h3⟩:=Ar h;obtain⟨h1,h2⟩:=Ar h;obtain⟨e,c,bd⟩:=V3 h1 hb;have ef:Fy K f=fd:=by unfold Fy;rw[hk]
   rw[ef];exact⟨⟨_,_,_,_,_,_,_,_,_,_,_,_,oc,od,osl,e,hk,c,Uj h2,h3⟩,bd,by unfold PySem.W.keepIn;simp only[hk]⟩
  exact absurd h aB
 exact absurd h aB
noncomputable def rh:List Kd:=[.non,.bl,.int,.str,.lst,.tup,.dct]
def Vm(k:Kd):k∈rh:=by cases k<;>decide
noncomputable def EL(K:PySem.W.Frag)(C:Addr):Bool:=PySem.W.plainGet K C Str.empty&&PySem.W.hasDictIn K C&&PySem.W.plainOver K C&&PySem.W.findIn K (.ref C) "__setattr__" ==some (some (.builtin "object.__setattr__"))
 && PySem.W.findIn K (.ref C) "__class__" ==some (some (.builtin "object.__class__"))&&PySem.W.specialIn K (.builtin "object.__class__") "__get__" ==some (some (.builtin "getset_descriptor.__get__"))&&PySem.W.takesIn K (.builtin "object.__class__") ==some true&&PySem.W.mroIn K C (.type "object") ==some true
noncomputable def J2(K:PySem.W.Frag)(T:Tb)(C:Addr):Option Nat->Bool
 |some f=>decide (f<T.ds.length)&&PySem.W.makesIn K C&&PySem.W.findIn K (.ref C) "__init__" ==some (some (.ref (BB K T f)))&&PySem.W.isFn K (.ref (BB K T f))&&PySem.W.keepIn K (.ref C)
 |none=>PySem.W.makesIn K C&&PySem.W.findIn K (.ref C) "__init__" ==some (some (.builtin "object.__init__"))&&PySem.W.keepIn K (.ref C)
noncomputable def YF(K:PySem.W.Frag)(T:Tb)(C:Addr)(m f:Nat):Bool:=decide (f<T.ds.length)&&PySem.W.findIn K (.ref C) (HK T.names m) ==some (some (.ref (BB K T f)))&&PySem.W.isFn K (.ref (BB K T f))
noncomputable def Ed(K:PySem.W.Frag)(T:Tb)(c:Nat)(i:Ci):Bool:=
 PySem.W.nsIn K mainGlobals i.nm ==some (some (.ref (Cc K T.cs c)))
 && Fc (λd _=>PySem.W.kitOne K (.ref (Cc K T.cs c)) (.ref (Cc K T.cs d)) ==some (decide (d∈i.isa))) 0 T.cs
 && rh.all (λk=>PySem.W.kitOne K (.type k.nm) (.ref (Cc K T.cs c)) ==some false&&PySem.W.kitOne K (.ref (Cc K T.cs c)) (.type k.nm) ==some false)
 && (match i.exc with
  |true=>true
  |false=>EL K (Cc K T.cs c)&&(i.flds.all λf=>PySem.W.findIn K (.ref (Cc K T.cs c)) (HK T.names f) ==some none)&&J2 K T (Cc K T.cs c) i.init&&i.mts.all λp=>YF K T (Cc K T.cs c) p.1 p.2)
noncomputable def jG(K:PySem.W.Frag)(T:Tb)(p:(Nat×Nat)×Nat):Bool:=decide (p.2<T.ds.length)&&PySem.W.readsIn K (Cc K T.cs p.1.1) (.type "type")&&(match PySem.W.findCls K (.ref (Cc K T.cs p.1.1)) (.type "type") (HK T.names p.1.2) with
 |some (.val (.ref a))=>a ==BB K T p.2
 |_=>false)&&PySem.W.specialIn K (.ref (Cc K T.cs p.1.1)) "__getattribute__" ==some (some (.builtin "type.__getattribute__"))
noncomputable def Zh(K:PySem.W.Frag)(p:Str×MV):Bool:=match p.2,PySem.W.nsIn K mainGlobals p.1 with
 |.int i,some (some (.int j _))=>i ==j
 |.str i,some (some (.str j _))=>i ==j
 |_,_=>false
noncomputable def Z5(K:PySem.W.Frag)(c P:Addr):Bool:=match K.lookup c with
 |some o=>(match o.cls with
  |.type t=>t== "code"
  |_=>false)&&(match o.data with
  |.fields vs=>(match vs[11]? with
   |some (Value.ref P')=>P' ==P
   |_=>false)&&(match vs.getD 11 .none with
   |.ref P'=>P' ==P
   |_=>false)&&(match vs.getD 18 .none with
   |.str _ _=>true
   |_=>false)&&(match vs.getD 7 .none with
   |.int _ _=>true
   |_=>false)&&(match vs.getD 9 .none with
   |.bool _=>true
   |_=>false)&&(match vs.getD 10 .none with
   |.int _ _=>true
   |_=>false)
  |_=>false)&&c !=P
 |none=>false
def Ov{K:Fq}(X:K.In h)(hh:Z5 K c P=true):PySem.W.CodeHd h c P/\isCodeTable h P:=by
 unfold Z5 at hh;split at hh
 ·rename_i o ho;obtain⟨hh,h3⟩:=Ar hh;obtain⟨h1,h2⟩:=Ar hh;split at h1
  ·rename_i t ht;obtain rfl:=aR.mp h1;split at h2
   ·rename_i vs hvs;obtain⟨h2,k6⟩:=Ar h2;obtain⟨h2,k5⟩:=Ar h2;obtain⟨h2,k4⟩:=Ar h2;obtain⟨h2,k3⟩:=Ar h2;obtain⟨k1,k2⟩:=Ar h2;split at k1<;>first|(exact absurd k1 aB)|skip
    rename_i P1 e1;obtain rfl:=aR.mp k1;split at k2<;>first|(exact absurd k2 aB)|skip
    rename_i P2 e2;obtain rfl:=aR.mp k2;split at k3<;>first|(exact absurd k3 aB)|skip
    rename_i e3;split at k4<;>first|(exact absurd k4 aB)|skip
    rename_i e4;split at k5<;>first|(exact absurd k5 aB)|skip
    rename_i e5;split at k6<;>first|(exact absurd k6 aB)|skip
    rename_i e6;exact⟨⟨o,vs,_,_,_,_,_,_,_,X _ _ ho,ht,hvs,e1,e2,e3,e4,e5,e6,bne_iff_ne.mp h3⟩,c,o,vs,X _ _ ho,ht,hvs,e1⟩
   exact absurd h2 aB
  exact absurd h1 aB
 exact absurd hh aB
def jJ(hbm:LU base mg)(N:base.Ns mainGlobals mg)(hn:base.get? P=none):base.BuiltinsAt mg P:=by
 obtain⟨bm,o,b1,b2,b3,b4,b5,b6⟩:=hbm;refine⟨bm,o,b1,b2,λz=>?_,(λz=>by rw[z,hn]at b3;cases b3),b3,b4,b5,b6⟩;obtain⟨o',es,ep,e,hd,_⟩:=N;rw[z,e]at b3;cases b3;rw[hd]at b6;cases b6
noncomputable def Ej(K:PySem.W.Frag)(f:Addr):Bool:=match (Fy K f).code with
 |.ref c=>Z5 K c (Il K f)&&mainGlobals !=Il K f
 |_=>false
noncomputable def Qz(K:PySem.W.Frag)(T:Tb):Bool:=Fc (λf d=>d.lp.isEmpty||Ej K (BB K T f)) 0 T.ds&&decide ((EG K T 0 T.ds).map (·.1)).Nodup
theorem DN{α β:Type}{g:α->β}:∀{l:List α},(l.map g).Nodup->∀{a b:α},a∈l->b∈l->g a=g b->a=b
 |[],_,a,b,h,_,_=>by simp at h
 |x::l,nd,a,b,ha,hb,e=>by
  rw[aK]at nd;obtain⟨n1,n2⟩:=bX.mp nd;rcases aU.mp ha with h1|h1
  ·rcases aU.mp hb with h2|h2
   ·rw[h1,h2]
   exact absurd (fG (f:=g) h2) (by rw[←e,h1];exact n1)
  rcases aU.mp hb with h2|h2
  ·exact absurd (fG (f:=g) h1) (by rw[e,h2];exact n1)
  exact DN n2 h1 h2 e
noncomputable def Pc(K:PySem.W.Frag)(T:Tb):Bool:=
 T.blt.all (λx=>PySem.W.nsIn K mainGlobals x ==some none)&&T.glo.all (Zh K)&&Fc (λf d=>Zm K T.gt d (BB K T f)) 0 T.ds
 && decide (T.fns.length<=T.ds.length)&&T.fns.all (λx=>PySem.W.nsIn K mainGlobals x ==some (some (.ref (H9 K x))))&&Fc (Ed K T) 0 T.cs&&T.cfl.all (jG K T)&&Qz K T
theorem B8{α β:Type}[BEq α][LawfulBEq α]:∀{l:List (α×β)}{a:α}{b:β},l.lookup a=some b->(a,b)∈l
 |[],a,b,h=>by simp at h
 |(x,y)::l,a,b,h=>by
  rw[c9]at h;split at h
  ·rename_i e;obtain rfl:=aR.mp e;cases h;exact aH
  exact aE _ (B8 h)
section
variable {K:Fq}{T:Tb}{P:Program}{w:World}{mg:Mq}{base h:Heap}
def Oi{f:Nat}(h:f<T.ds.length):f<T.ds.length/\∃d,T.all[f]?=some d:=⟨h,_,by rw[Tb.all_lt h];exact aN h⟩
def SY{c:Nat}(hh:Ed K T c i=true):PySem.W.nsIn K mainGlobals i.nm=some (some (.ref (Cc K T.cs c))):=by
 unfold Ed at hh;exact aR.mp (Ar (Ar (Ar hh).1).1).1
def SZ{c d:Nat}(hh:Ed K T c i=true)(hd:T.cs[d]?=some j):PySem.W.kitOne K (.ref (Cc K T.cs c)) (.ref (Cc K T.cs d))=some (decide (d∈i.isa)):=by
 unfold Ed at hh;have:=CL (Ar (Ar (Ar hh).1).1).2 hd;rw[eP]at this;exact aR.mp this
def LC{c:Nat}(hh:Ed K T c i=true)(k:Kd):PySem.W.kitOne K (.type k.nm) (.ref (Cc K T.cs c))=some false/\PySem.W.kitOne K (.ref (Cc K T.cs c)) (.type k.nm)=some false:=by
 unfold Ed at hh;have:=Ar (aZ.mp (Ar (Ar hh).1).2 k (Vm k));exact⟨aR.mp this.1,aR.mp this.2⟩
def DV{c:Nat}(hh:Ed K T c i=true)(he:i.exc=false):EL K (Cc K T.cs c)=true/\(∀f∈i.flds,PySem.W.findIn K (.ref (Cc K T.cs c)) (HK T.names f)=some none)/\J2 K T (Cc K T.cs c) i.init=true/\∀p∈i.mts,YF K T (Cc K T.cs c) p.1 p.2=true:=by
 unfold Ed at hh;have:=(Ar hh).2;rw[he]at this;obtain⟨h1,h4⟩:=Ar this;obtain⟨h1,h3⟩:=Ar h1;obtain⟨h1,h2⟩:=Ar h1;exact⟨h1,λf hf=>aR.mp (aZ.mp h2 f hf),h3,λp hp=>aZ.mp h4 p hp⟩
def KD(hh:EL K C=true):Tz K C/\PySem.W.findIn K (.ref C) "__class__"=some (some (.builtin "object.__class__"))/\PySem.W.specialIn K (.builtin "object.__class__") "__get__"=some (some (.builtin "getset_descriptor.__get__"))/\PySem.W.takesIn K (.builtin "object.__class__")=some true/\PySem.W.mroIn K C (.type "object")=some true:=by
 unfold EL at hh;simp only[Bool.and_eq_true,beq_iff_eq]at hh;obtain⟨⟨⟨⟨⟨⟨⟨a,b⟩,c⟩,d⟩,e⟩,f⟩,g⟩,i⟩:=hh;exact⟨⟨a,b,c,d⟩,e,f,g,i⟩
def gw(X:K.In h)(N:h.Ns mainGlobals mg)(Xb:K.In base)(Nb:base.Ns mainGlobals mg)(hbm:(EG K T 0 T.ds).isEmpty=true\/(LU base mg/\∀t∈EG K T 0 T.ds,base.get? t.1=none))(hn:CU T.names=true)(hh:Pc K T=true):Pg T.gt (ly K T hn) T.all T.ds.length P w mg base (BB K T) (λf=>Fy K (BB K T f)):=by
 unfold Pc at hh;obtain⟨hh,h8⟩:=Ar hh;obtain⟨hh,h7⟩:=Ar hh;obtain⟨hh,h6⟩:=Ar hh;obtain⟨hh,h5⟩:=Ar hh;obtain⟨hh,h4⟩:=Ar hh;obtain⟨hh,h3⟩:=Ar hh;obtain⟨h1,h2⟩:=Ar hh;have ck:∀c i,T.cs[c]?=some i->Ed K T c i=true:=λc i hc=>by have:=CL h6 hc;rwa[eP]at this
 have cl:∀c i,T.cs[c]?=some i->mg i.nm=some (.ref (Cc K T.cs c)):=λc i hc=>PySem.W.mg_of X N (SY (ck c i hc));exact {
  nm:=rfl
  kt:={
   kc:=λc i hc he=>KD (DV (ck c i hc) he).1
   kn:=λc i n hc hf he=>(DV (ck c i hc) he).2.1 n hf
   ki:=λc d i j hc hd=>SZ (ck c i hc) hd
   k1:=λd j k hd=>(LC (ck d j hd) k).1
   k2:=λd j k hd=>(LC (ck d j hd) k).2}
  nb:=λx hx=>PySem.W.mg_none_of X N (aR.mp (aZ.mp h1 x hx))
  dd:=λf d hf hd=>by
   have:=CL h3 (by rw[Tb.all_lt hf]at hd;exact hd);rw[eP]at this;exact Og this
  fns:=λf x hx=>by
   have hx:T.fns[f]?=some x:=hx;refine⟨Oi (aX (a9.mp hx).1 (bF h4)),PySem.W.mg_of X N ?_⟩;have e:BB K T f=H9 K x:=by unfold BB;simp only[hx]
   rw[e];exact aR.mp (aZ.mp h5 x (aP hx))
  cl:=cl
  mkk:=λc i f hc he hi=>by
   have hc:T.cs[c]?=some i:=hc;have hi:(T.cs[c]?).bind Ci.init=some f:=hi;rw[hc]at hi;have hi:i.init=some f:=hi;have:=(DV (ck c i hc) he).2.2.1;rw[hi]at this;simp only[J2,Bool.and_eq_true,beq_iff_eq,decide_eq_true_eq]at this;obtain⟨⟨⟨⟨a,b⟩,c'⟩,d⟩,e⟩:=this;exact⟨Oi a,⟨b,c',d,e⟩⟩
  n0:=λc i hc he hi=>by
   have hc:T.cs[c]?=some i:=hc;have hi:(T.cs[c]?).bind Ci.init=none:=hi;rw[hc]at hi;have hi:i.init=none:=hi;have:=(DV (ck c i hc) he).2.2.1;rw[hi]at this;simp only[J2,Bool.and_eq_true,beq_iff_eq]at this;obtain⟨⟨b,c'⟩,e⟩:=this;exact⟨cl c i hc,b,c',e⟩
  mt:=λm c i f hc he hm=>by
   have:=(DV (ck c i hc) he).2.2.2 _ (B8 hm);simp only[YF,Bool.and_eq_true,beq_iff_eq,decide_eq_true_eq]at this;obtain⟨⟨a,b⟩,c'⟩:=this;obtain⟨a',d,hd⟩:=Oi a;have q:=CL h3 (by rw[Tb.all_lt a']at hd;exact hd);rw[eP]at q;exact⟨⟨a',d,hd⟩,(KD (DV (ck c i hc) he).1).1,⟨b,c',(Og q).kp⟩⟩
  cf:=λc m f i hc hm=>by
   have:=aZ.mp h7 _ (B8 (show T.cfl.lookup (c,m)=some f from hm));simp only[jG,Bool.and_eq_true,beq_iff_eq,decide_eq_true_eq]at this;obtain⟨⟨⟨a,b⟩,c'⟩,d⟩:=this;refine⟨Oi a,b,?_,d⟩;split at c'
   ·rename_i a' ha;obtain rfl:=aR.mp c';exact ha
   exact absurd c' aB
  gI:=λx j hx=>by
   have:=aZ.mp h2 _ (B8 (show T.glo.lookup x=some (.int j) from hx));unfold Zh at this;split at this
   ·rename_i a b t e1 e2;cases e1;obtain rfl:=aR.mp this;exact⟨_,PySem.W.mg_of X N e2⟩
   ·rename_i e1 e2;cases e1
   exact absurd this aB
  gS:=λx j hx=>by
   have:=aZ.mp h2 _ (B8 (show T.glo.lookup x=some (.str j) from hx));unfold Zh at this;split at this
   ·rename_i e1 e2;cases e1
   ·rename_i a b t e1 e2;cases e1;obtain rfl:=aR.mp this;exact⟨_,PySem.W.mg_of X N e2⟩
   exact absurd this aB
  lamM:=λk l e1 e2 a b c F f c' oc pm ctv cl C vs kk lh=>⟨l,e1,e2,a,b,c,f,c',oc,pm,ctv,cl,C,rfl,kk,lh⟩
  lamR:=λF k vs v z=>z
  lck:=λk b sc hk=>by
   cases hl:T.lam k with
   |none=>have hk:(match T.lam k with|some (xs,ps,m)=>BW T.gt0 m ⟨xs++ps,sc,false,[]⟩ b|none=>false)=true:=hk;rw[hl]at hk;exact absurd hk aB
   |some l=>
    have hk:(match T.lam k with|some (xs,ps,m)=>BW T.gt0 m ⟨xs++ps,sc,false,[]⟩ b|none=>false)=true:=hk;rw[hl]at hk;have e:T.gt.lam k=(l.1,l.2.1):=by show((T.lam k).map λl=>(l.1,l.2.1)).getD ([],[])=_;rw[hl];rfl
    rw[e];exact⟨l.2.2,_,Tb.lam_all hl,rfl,rfl,rfl,hk⟩
  tab:=λf d p hf hd hp=>by
   obtain⟨t1,t2⟩:=Ar h8;rw[Tb.all_lt hf]at hd;have q:=CL t1 hd;rw[eP]at q;have q:Ej K (BB K T f)=true:=by
    rcases eX _ _ |>.mp q with z|z
    ·rw[dA.mp z]at hp;simp at hp
    exact z
   unfold Ej at q;split at q
   ·rename_i c hc;obtain⟨q1,q3⟩:=Ar q;have hm:=Ks (K:=K) (T:=T) (n:=0) hd hp;rw[eP]at hm;refine⟨c,Il K (BB K T f),hc,(Ov Xb q1).1,?_,bne_iff_ne.mp q3,hm,λt ht e=>DN (bF t2) ht hm e⟩;rcases hbm with z|⟨z1,z2⟩
    ·rw[dA.mp z]at hm;simp at hm
    exact jJ z1 Nb (z2 _ hm)
   exact absurd q aB}
def Tt(T:Tb)(n f:Nat):Prop:=∀l:List Int,l.length<=63->∃h,EM T.gt T.all n f [.v (.scr (l.map .int))] []=.ok (.v (.bl true)) h
theorem K8:∀{l:List Int},Ad W F (l.map .int) (l.map V.int)
 |[]=>.nil
 |i::l=>.cons (by unfold Aq;rfl) K8
noncomputable def Sh(fd:FuncData)(x:Str):Bool:=Hx fd.params [x]&&(match fd.defaults with
 |.none=>true
 |_=>false)
def Sg{x:Str}(hh:Sh fd x=true)(s:Shared)(v:Value):BindsTo s fd ⟨[v],[]⟩ [(x,v)]:=by
 obtain⟨ha,hd⟩:=Ar hh;have e:bindArgs fd ⟨[v],[]⟩=(seqItems? fd.defaults >>=λ_=>pure ([x].zip [v])):=by
  unfold Hx at ha;split at ha
  ·rename_i as kd ds hp;exact Hw hp (bF ha) (by simp) rfl
  exact absurd ha aB
 split at hd
 ·rename_i hv;rw[hv]at e;exact BindsTo.of_eq (e.trans rfl)
 exact absurd hd aB
def Mf(K:PySem.W.Frag)(TS:List (Addr×Array Value)):Sp:=λvs H Q _=>E2 λ(a:Addr) (ns:List Int)=>A5 (vs=[.ref a]) (Dp K H a (ns.map V.int)) (ns.length<=63) (∀b ps,TS.lookup b=some ps->H b=some (.tbl ps)) (∀H',Q (.bl true) H')
def jf{n f:Nat}{x:Str}{d:Af}{TS:List (Addr×Array Value)}(hn:CU T.names=true)(hl:Tt T n f)(hd:T.ds[f]?=some d)(hp:d.ps=[x])(hf:T.fns[f]?=some (Str.ofString "law"))(X0:K.In h)(N0:h.Ns mainGlobals mg)(hfa:mg "law"=some (.ref fa))(hh:(Pc K T&&Sh (Fy K (BB K T f)) x)=true)(hts:∀t∈EG K T 0 T.ds,TS.lookup t.1=some #[]) :
 ∃fd:FuncData,(∀s v,BindsTo s fd ⟨[v],[]⟩ [(x,v)])/\∀base:Heap,K.In base->base.Ns mainGlobals mg->LU base mg->(∀b ps,TS.lookup b=some ps->base.get? b=none)->DI P w K mg base O5 (2*n+1) fa fd [x] (Mf K TS):=by
 obtain⟨hh,hdf⟩:=Ar hh;have pg:∀{base:Heap},K.In base->base.Ns mainGlobals mg->LU base mg->(∀b ps,TS.lookup b=some ps->base.get? b=none)->Pg T.gt (ly K T hn) T.all T.ds.length P w mg base (BB K T) (λf=>Fy K (BB K T f)):=λ{base} Xb Nb hb h0=>gw X0 N0 Xb Nb (.inr ⟨hb,λt ht=>h0 _ _ (hts t ht)⟩) hn hh;have hlt:f<T.ds.length:=(a9.mp hd).1;have hda:T.all[f]?=some d:=by rw[Tb.all_lt hlt];exact hd
 have ef:BB K T f=fa:=by
  have p1:=hh;unfold Pc at p1;obtain⟨p1,_⟩:=Ar p1;obtain⟨p1,_⟩:=Ar p1;obtain⟨p1,_⟩:=Ar p1;obtain⟨_,p5⟩:=Ar p1;have e1:BB K T f=H9 K (Str.ofString "law"):=by unfold BB;simp only[hf]
  have e2:=PySem.W.mg_of X0 N0 (aR.mp (aZ.mp p5 _ (aP hf)));rw[hfa]at e2;rw[e1];cases e2;rfl
 refine⟨Fy K (BB K T f),λs v=>Sg hdf s v,λbase Xb Nb hbm h0=>?_⟩;have F:=((pg Xb Nb hbm h0).ok n).1 f d hlt hda;rw[hp]at F;rw[←ef];have go:∀{vs H Q E},Mf K TS vs H Q E->K0 (ly K T hn) (EM T.gt T.all n) f vs H Q E:=by
  rintro vs H Q E ⟨a,ns,rfl,hS,hl',hT,hq⟩;obtain⟨h',e⟩:=hl ns hl';have sub:Ak (λb=>if (TS.lookup b).isSome=true then none else H b) H:=λb u z=>by
   have z:(if (TS.lookup b).isSome=true then none else H b)=some u:=z;split at z
   ·cases z
   exact z
  refine⟨λb=>if (TS.lookup b).isSome=true then none else H b,[],[],[.v (.scr (ns.map .int))],⟨sub,gQ,rfl,λn a m h1 _=>by simp at h1,λt ht=>⟨#[],hT _ _ (hts t ht),trivial,.inl rfl⟩,λt ht=>by show(if (TS.lookup t.1).isSome=true then none else H t.1)=none;rw[hts t ht];rfl⟩,.cons (show Aq _ _ _ _ from ?_) .nil,?_⟩
  ·unfold Aq;refine⟨a,_,rfl,?_,K8⟩;rcases hS with hS|hS
   ·have na:TS.lookup a=none:=by
     cases q:TS.lookup a with
     |none=>rfl
     |some ps=>
      have:=hT a ps q;rcases hS with z|⟨o,z⟩<;>(rw[this]at z;cases z)
    have ea:(λb=>if (TS.lookup b).isSome=true then none else H b) a=H a:=by show(if (TS.lookup a).isSome=true then none else H a)=H a;rw[na];rfl
    exact .inl (hS.imp (λz=>by rw[ea];exact z) λ⟨o,z⟩=>⟨o,by rw[ea];exact z⟩)
   exact .inr hS
  rw[e];intro F' ρ' H' v _ _ r;have r:Aq (ly K T hn) F' (.bl true) v:=r;unfold Aq at r;rw[r];exact hq H'
 exact⟨λvs H Q E q=>F.len _ _ _ _ (go q),λA outer s H args us vs Q E hr he hb hv hs=>F.run A outer s H args us vs Q E hr he hb hv (go hs)⟩
end
inductive Fx{α:Type}(a:α):Type where|mk
noncomputable def AI.bK{α β:Type}(k:α->MH->AI β)(u:Fx k:=.mk)(x:AI α):AI β:=x.bind k
noncomputable def DY{α:Type}(μ:En)(kk:α->MH->SR)(u:Fx kk:=.mk)(x:AI α):SR:=KR μ x kk
noncomputable def FI{α:Type}(h:MH)(x:Option α):AI α:=AI.of x h
section
variable {α β:Type}
def AS:(AI.ok a h).bind k=k a h:=rfl
@[simp]def To:(AI.ok a h).bK k=k a h:=rfl
@[simp]def qG:FI h (some a)=.ok a h:=rfl
def RI:KR μ (.ok a h) kk=kk a h:=rfl
@[simp]def UX:DY μ (x:=.ok a h) kk=kk a h:=rfl
noncomputable def hat(h:MH)(n:Nat):Option MO:=h[n]?
noncomputable def AQ(h:MH)(n:Nat)(o:MO):MH:=h.set n o
noncomputable def hnew(h:MH)(o:MO):MH:=h++ [o]
noncomputable def Fv(h:MH)(n:Nat):MH:=h.take n
noncomputable def hlen(h:MH):Nat:=h.length
section
variable {n k:Nat}
def MM(e:hat h n=some o):n<hlen h:=(a9.mp e).1
@[simp]def Hm:hlen (AQ h n o)=hlen h:=by simp[hlen,AQ]
@[simp]def B3:hlen (hnew h o)=hlen h+1:=by simp[hlen,hnew]
@[simp]def Vv(e:n<hlen h):hat (AQ h n o) n=some o:=by simp only[hat,AQ,hlen]at *; simp[e]
@[simp]def Ze(e:n≠k):hat (AQ h n o) k=hat h k:=by simp only[hat,AQ];exact c7 e
@[simp]def S6:AQ (AQ h n o) n q=AQ h n q:=by simp[AQ]
@[simp]def B5:hat (hnew h o) (hlen h)=some o:=by simp[hat,hnew,hlen]
@[simp]def DT(e:n<hlen h):hat (hnew h o) n=hat h n:=by simp only[hat,hnew,hlen]at *; exact aO e
@[simp]def EU:Fv h (hlen h)=h:=bO
@[simp]def Hn(e:n<=hlen h):Fv (hnew h o) n=Fv h n:=by simp only[Fv,hnew,hlen]at *; exact List.take_append_of_le_length e
@[simp]def jt(e:n<k):Fv (AQ h n o) k=AQ (Fv h k) n o:=by simp only[Fv,AQ];exact List.take_set
@[simp]def CG(e:n<hlen h):AQ (hnew h q) n o=hnew (AQ h n o) q:=by
  simp only[AQ,hnew,hlen]at *;rw[List.set_append,if_pos e]
@[simp]def Bu:AQ (hnew h q) (hlen h) o=hnew h o:=by simp[AQ,hnew,hlen]
end
noncomputable def seqK(b:Sf)(u:Fx b:=.mk)(x:SR):SR:=match x with
 |some (.nx μ',h')=>b μ' h'
 |x=>x
@[simp]def lw:seqK (x:=some (.nx μ,h)) b=b μ h:=rfl
@[simp]def lq:seqK (x:=some (.rt r,h)) b=some (.rt r,h):=rfl
@[simp]def lx:seqK (x:=none) b=none:=rfl
@[simp]def Ol:A0 h (.v m)=some m:=rfl
@[simp]def lQ{n:Nat}:A0 h (.r n)=(hat h n).bind MO.view:=rfl
@[simp]def mV:(MO.lst l).view=some (.lst l):=rfl
@[simp]def mX:(MO.dic t ks vs).view=some (.dic t ks vs):=rfl
@[simp]def mW{c:Nat}:(MO.ins c ns vs).view=some (.obj c ns vs):=rfl
@[simp]def rE:(MO.lst l).frz=.lst l:=rfl
@[simp]def rG:(MO.dic t ks vs).frz=.dic t ks vs:=rfl
@[simp]def rF{c:Nat}:(MO.ins c ns vs).frz=.obj c ns vs:=rfl
noncomputable def jw(h:MH)(x:Option (Option R)):AI R:=match x with
 |some (some r)=>.ok r h
 |_=>.no
@[simp]def oB:jw h (some (some r))=.ok r h:=rfl
noncomputable def iY(h:MH)(x:Option (Option R)):AI R:=match x with
 |some (some (.v m))=>.ok (.v m) h
 |some (some (.r n))=>(match hat h n with
  |some o=>.ok (.v o.frz) (AQ h n (.gone o.frz))
  |none=>.no)
 |_=>.no
noncomputable def iZ(o:Option MO)(n:Nat)(h:MH):AI R:=match o with
 |some o=>.ok (.v o.frz) (AQ h n (.gone o.frz))
 |none=>.no
@[simp]def oh{n:Nat}:iY h (some (some (.r n)))=iZ (hat h n) n h:=rfl
@[simp]def oj{n:Nat}:iZ (some o) n h=.ok (.v o.frz) (AQ h n (.gone o.frz)):=rfl
@[simp]def mY:vals []=some []:=rfl
@[simp]def mZ:vals (.v m::l)=(vals l).map (m:: ·):=rfl
@[simp]def L6:Ck h []=some []:=rfl
@[simp]def L7:Ck h (r::l)=(A0 h r).bind λm=>(Ck h l).map (m:: ·):=rfl
@[simp]def rZ{k:Bool}:Tr (.v (.bl k))=some k:=rfl
@[simp]def rY{i:Int}:T8 (.v (.int i))=some i:=rfl
@[simp]def kW{k:Bool}:Dv (.bl k)=some k:=rfl
@[simp]def kU{k:List MV}:Dv (.lst k)=some (!k.isEmpty):=rfl
@[simp]def kT{k:List MV}:Dv (.tup k)=some (!k.isEmpty):=rfl
noncomputable def Ia{α:Type}(a b:α)(u:Fx a:=.mk)(v:Fx b:=.mk)(k:Bool):α:=if k=true then a else b
@[simp]def Sr{α:Type}{a b:α}:Ia (k:=true) a b=a:=rfl
@[simp]def o5{α:Type}{a b:α}:Ia (k:=false) a b=b:=rfl
end
section
variable {i f c:Nat}
@[simp]def mr:(e2 cs Φ ini cf (.var i)).1 μ h=jw h μ[i]?:=rfl
@[simp]def mz:(e2 cs Φ ini cf (.mov i)).1 μ h=iY h μ[i]?:=rfl
@[simp]def mE:(e2 cs Φ ini cf (.con m)).1 μ h=.ok (.v m) h:=rfl
@[simp]def mB{x:Str}:(e2 cs Φ ini cf (.glo x m)).1 μ h=.ok (.v m) h:=rfl
@[simp]def mG{x:Str}:(e2 cs Φ ini cf (.bty x k)).1 μ h=.ok (.v (.ty k)) h:=rfl
@[simp]def mx:(e2 cs Φ ini cf (.tup es)).1 μ h=(DA cs Φ ini cf es μ h).bK λrs h1=>FI h1 ((vals rs).bind λms=>if ms.length<=1000 then some (R.v (.tup ms)) else none):=rfl
@[simp]def m4:(e2 cs Φ ini cf (.lst es)).1 μ h=(DA cs Φ ini cf es μ h).bK λrs h1=>FI h1 ((vals rs).bind λms=>if ms.length<=1000 then some (R.v (.lst ms)) else none):=rfl
noncomputable def jd(h:MH)(x:Option (List MV)):AI R:=match x with
 |some ms=>if ms.length<=1000 then .ok (.r (hlen h)) (hnew h (.lst ms)) else .no
 |none=>.no
@[simp]def ox:jd h (some ms)=if ms.length<=1000 then .ok (.r (hlen h)) (hnew h (.lst ms)) else .no:=rfl
@[simp]def kE:(e2 cs Φ ini cf (.lstL es)).1 μ h=(DA cs Φ ini cf es μ h).bK λrs h1=>jd h1 (vals rs):=rfl
@[simp]def kF:(e2 cs Φ ini cf (.dicL t)).1 μ h=.ok (.r (hlen h)) (hnew h (.dic t [] [])):=rfl
@[simp]def mD:(e2 cs Φ ini cf (.fld e f)).1 μ h=((e2 cs Φ ini cf e).1 μ h).bK λx h1=>FI h1 ((A0 h1 x).bind λa=>(D5 cs f a).map R.v):=rfl
@[simp]def m9:(e2 cs Φ ini cf (.idx a b)).1 μ h=((e2 cs Φ ini cf a).1 μ h).bK λx h1=>((e2 cs Φ ini cf b).1 μ h1).bK λy h2=>FI h2 ((A0 h2 x).bind λa=>(A0 h2 y).bind λb=>(HL a b).map R.v):=rfl
@[simp]def mI{o:WS}:(e2 cs Φ ini cf (.bin o a b)).1 μ h=((e2 cs Φ ini cf a).1 μ h).bK λx h1=>((e2 cs Φ ini cf b).1 μ h1).bK λy h2=>FI h2 ((A0 h2 x).bind λa=>(A0 h2 y).bind λb=>(Bz o a b).map R.v):=rfl
@[simp]def mw{o:ZE}:(e2 cs Φ ini cf (.una o a)).1 μ h=((e2 cs Φ ini cf a).1 μ h).bK λx h1=>FI h1 ((A0 h1 x).bind λa=>(Ww o a).map R.v):=rfl
@[simp]def mF{o:Kg}:(e2 cs Φ ini cf (.cmp o a b)).1 μ h=((e2 cs Φ ini cf a).1 μ h).bK λx h1=>((e2 cs Φ ini cf b).1 μ h1).bK λy h2=>FI h2 ((A0 h2 x).bind λa=>(A0 h2 y).bind λb=>((Bh o a b).map .bl).map R.v):=rfl
@[simp]def mO{o:Kg}:(e2 cs Φ ini cf (.cmp o a b)).2 μ h=((e2 cs Φ ini cf (.cmp o a b)).1 μ h).bK λx h1=>FI h1 (Tr x):=rfl
@[simp]def my{lo hi:mj}:(e2 cs Φ ini cf (.sli a lo hi)).1 μ h=((e2 cs Φ ini cf a).1 μ h).bK λx h1=>(Zq cs Φ ini cf lo μ h1).bK λl h2=>(Zq cs Φ ini cf hi μ h2).bK λu h3=>FI h3 ((A0 h3 x).bind λa=>(Gb a l u).map R.v):=rfl
noncomputable def jD(o':Kg)(fc:Ef)(μ:En)(h2:MH)(y:R):Option Bool->AI R
 |some true=>(fc μ h2).bind λz h3=>AI.of ((A0 h3 y).bind λa=>(A0 h3 z).bind λb=>(Bh o' a b).map λk=>R.v (.bl k)) h3
 |some false=>.ok (.v (.bl false)) h2
 |none=>.no
@[simp]def pq:jD o' fc μ h y (some k)=Ia (k:=k) ((fc μ h).bK λz h3=>FI h3 ((A0 h3 y).bind λa=>(A0 h3 z).bind λb=>(Bh o' a b).map λk=>R.v (.bl k))) (.ok (.v (.bl false)) h):=by cases k<;>rfl
@[simp]def kG{o o':Kg}{c:ME}:(e2 cs Φ ini cf (.cmp2 o o' a b c)).1 μ h=((e2 cs Φ ini cf a).1 μ h).bK λx h1=>((e2 cs Φ ini cf b).1 μ h1).bK λy h2=>jD o' (e2 cs Φ ini cf c).1 μ h2 y ((A0 h2 x).bind λa=>(A0 h2 y).bind λb=>Bh o a b):=rfl
@[simp]def kL{o o':Kg}{c:ME}:(e2 cs Φ ini cf (.cmp2 o o' a b c)).2 μ h=((e2 cs Φ ini cf (.cmp2 o o' a b c)).1 μ h).bK λx h1=>FI h1 (Tr x):=rfl
@[simp]def mM:(e2 cs Φ ini cf (.not a)).2 μ h=((e2 cs Φ ini cf a).2 μ h).bK λb h1=>.ok (!b) h1:=rfl
noncomputable def jT(fb:Ef)(μ:En)(h:MH):Option Bool->AI R
 |some true=>fb μ h
 |some false=>.ok (.v (.bl false)) h
 |none=>.no
noncomputable def qF(fb:Ef)(μ:En)(h:MH):Option Bool->AI R
 |some false=>fb μ h
 |some true=>.ok (.v (.bl true)) h
 |none=>.no
@[simp]def pJ:jT fb μ h (some k)=Ia (k:=k) (fb μ h) (.ok (.v (.bl false)) h):=by cases k<;>rfl
@[simp]def qE:qF fb μ h (some k)=Ia (k:=k) (.ok (.v (.bl true)) h) (fb μ h):=by cases k<;>rfl
@[simp]def mK:(e2 cs Φ ini cf (.and es)).1 μ h=(P4 cs Φ ini cf es).1 μ h:=rfl
@[simp]def mQ:(e2 cs Φ ini cf (.and es)).2 μ h=(P4 cs Φ ini cf es).2 μ h:=rfl
@[simp]def qc:(e2 cs Φ ini cf (.or es)).1 μ h=(P3 cs Φ ini cf es).1 μ h:=rfl
@[simp]def qh:(e2 cs Φ ini cf (.or es)).2 μ h=(P3 cs Φ ini cf es).2 μ h:=rfl
@[simp]def qg:(P4 cs Φ ini cf (.cons a .nil)).1 μ h=(e2 cs Φ ini cf a).1 μ h:=rfl
@[simp]def ql:(P4 cs Φ ini cf (.cons a .nil)).2 μ h=(e2 cs Φ ini cf a).2 μ h:=rfl
@[simp]def qf:(P4 cs Φ ini cf (.cons a (.cons b es))).1 μ h=((e2 cs Φ ini cf a).1 μ h).bK λx h1=>jT (P4 cs Φ ini cf (.cons b es)).1 μ h1 (Tr x):=rfl
@[simp]def qk:(P4 cs Φ ini cf (.cons a (.cons b es))).2 μ h=((e2 cs Φ ini cf a).2 μ h).bK λk h1=>Ia (k:=k) ((P4 cs Φ ini cf (.cons b es)).2 μ h1) (.ok false h1):=rfl
@[simp]def qe:(P3 cs Φ ini cf (.cons a .nil)).1 μ h=(e2 cs Φ ini cf a).1 μ h:=rfl
@[simp]def qj:(P3 cs Φ ini cf (.cons a .nil)).2 μ h=(e2 cs Φ ini cf a).2 μ h:=rfl
@[simp]def qd:(P3 cs Φ ini cf (.cons a (.cons b es))).1 μ h=((e2 cs Φ ini cf a).1 μ h).bK λx h1=>qF (P3 cs Φ ini cf (.cons b es)).1 μ h1 (Tr x):=rfl
@[simp]def qi:(P3 cs Φ ini cf (.cons a (.cons b es))).2 μ h=((e2 cs Φ ini cf a).2 μ h).bK λk h1=>Ia (k:=k) (.ok true h1) ((P3 cs Φ ini cf (.cons b es)).2 μ h1):=rfl
@[simp]def m6{c:ME}:(e2 cs Φ ini cf (.ife c a b)).1 μ h=((e2 cs Φ ini cf c).2 μ h).bK λk h1=>Ia (k:=k) ((e2 cs Φ ini cf a).1 μ h1) ((e2 cs Φ ini cf b).1 μ h1):=rfl
@[simp]def kI:(e2 cs Φ ini cf (.call f es)).1 μ h=(DA cs Φ ini cf es μ h).bK λrs h1=>Φ f rs h1:=rfl
@[simp]def kB(hi:ini c=none):(e2 cs Φ ini cf (.new0 c)).1 μ h=.ok (.v (.obj c [] [])) h:=by
  show(match ini c with|some _=>λ_ _=>AI.no|none=>λ_ h=>.ok (.v (.obj c [] [])) h:Ef) μ h=_;rw[hi]
@[simp]def Je(hi:ini c=some f):(e2 cs Φ ini cf (.make c es)).1 μ h=FV Φ c f (DA cs Φ ini cf es) μ h:=by
  show(match ini c with|some f=>FV Φ c f (DA cs Φ ini cf es)|none=>λ_ _=>AI.no:Ef) μ h=_;rw[hi]
noncomputable def Wx(Φ:Fs)(fa:En->MH->AI (List R))(μ:En)(h:MH)(x:R):Option Nat->AI R
 |some f=>(fa μ h).bind λrs h2=>Φ f (x::rs) h2
 |none=>.no
@[simp]def l9:Wx Φ fa μ h x (some f)=(fa μ h).bK λrs h2=>Φ f (x::rs) h2:=rfl
@[simp]def kD{m:Nat}:(e2 cs Φ ini cf (.meth m o es)).1 μ h=((e2 cs Φ ini cf o).1 μ h).bK λx h1=>Wx Φ (DA cs Φ ini cf es) μ h1 x ((A0 h1 x).bind (meth cs m)):=rfl
@[simp]def mJ{b:Bf}:(e2 cs Φ ini cf (.bfn b es)).1 μ h=(DA cs Φ ini cf es μ h).bK λxs h1=>FI h1 ((Ck h1 xs).bind λas=>(b.fn cs as).map R.v):=rfl
@[simp]def ZV:(e2 cs Φ ini cf (.lenset e)).1 μ h=((e2 cs Φ ini cf e).1 μ h).bK λx h1=>FI h1 ((A0 h1 x).bind λa=>(DP a).map R.v):=rfl
@[simp]def mH{b:Bm}:(e2 cs Φ ini cf (.bmt b o es)).1 μ h=((e2 cs Φ ini cf o).1 μ h).bK λx h1=>if ((A0 h1 x).map (VM b))=some true then(DA cs Φ ini cf es μ h1).bK λrs h2=>FI h2 ((A0 h2 x).bind λm=>(Ck h2 rs).bind λas=>(Qj b m as).map R.v) else .no:=rfl
noncomputable def jS(b:Mm)(n:Nat)(h:MH):Option MO->Option (List MV)->AI R
 |some (.lst l),some as=>(match T6 b l as with
  |some l'=>.ok (.v .non) (AQ h n (.lst l'))
  |none=>.no)
 |_,_=>.no
noncomputable def dc(n:Nat)(h:MH):Option (List MV)->AI R
 |some l'=>.ok (.v .non) (AQ h n (.lst l'))
 |none=>.no
@[simp]def nG{n:Nat}:dc n h (some l)=.ok (.v .non) (AQ h n (.lst l)):=rfl
@[simp]def pI{b:Mm}{n:Nat}{l as:List MV}:jS b n h (some (.lst l)) (some as)=dc n h (T6 b l as):=rfl
@[simp]def mR:DA cs Φ ini cf .nil μ h=.ok [] h:=rfl
@[simp]def ap:DA cs Φ ini cf (.cons a es) μ h=((e2 cs Φ ini cf a).1 μ h).bK λx h1=>(DA cs Φ ini cf es μ h1).bK λxs h2=>.ok (x::xs) h2:=rfl
@[simp]def qo:Zq cs Φ ini cf .no μ h=.ok none h:=rfl
@[simp]def qm:Zq cs Φ ini cf (.ye a) μ h=((e2 cs Φ ini cf a).1 μ h).bK λx h1=>FI h1 ((T8 x).map some):=rfl
@[simp]def qI:noL (.ok (.v m) h)=.ok (.v m) h:=rfl
noncomputable def jH(x:Option (Option R))(r:Option (List MV)):Option (List MV):=match x with
 |some (some (.v m))=>r.map (m:: ·)
 |_=>none
@[simp]def pF:jH (some (some (.v m))) r=r.map (m:: ·):=rfl
@[simp]def pC:Ie μ []=some []:=rfl
@[simp]def pE{j:Nat}:Ie μ (j::js)=jH μ[j]? (Ie μ js):=rfl
noncomputable def WG(Φ:Fs)(f k:Nat)(rs:List R)(h:MH):Option (List MV)->AI R
 |some ms=>noL (Φ f (rs++ [.l k ms]) h)
 |none=>.no
@[simp]def lW{k:Nat}:WG Φ f k rs h (some ms)=noL (Φ f (rs++ [.l k ms]) h):=rfl
@[simp]def kJ{k:Nat}:(e2 cs Φ ini cf (.calL f es k js)).1 μ h=(DA cs Φ ini cf es μ h).bK λrs h1=>WG Φ f k rs h1 (Ie μ js):=rfl
noncomputable def WF(Φ:Fs)(fa:En->MH->AI (List R))(μ:En)(h:MH):Option (Option R)->AI R
 |some (some (.l k ms))=>(fa μ h).bind λrs h1=>if rs.all Jy=true then noL (Φ k (ms.map .v++rs) h1) else .no
 |_=>.no
@[simp]def lV{k:Nat}:WF Φ fa μ h (some (some (.l k ms)))=(fa μ h).bK λrs h1=>if rs.all Jy=true then noL (Φ k (ms.map .v++rs) h1) else .no:=rfl
@[simp]def kH:(e2 cs Φ ini cf (.calv i es)).1 μ h=WF Φ (DA cs Φ ini cf es) μ h μ[i]?:=rfl
@[simp]def nX:Jy (.v m)=true:=rfl
def NM{f':Nat}{c':Nat}(e1:fa μ h=.ok rs h1)(e2:Φ f' (.r (hlen h1)::rs) (hnew h1 (.ins c [] []))=.ok (.v .non) (hnew h1 (.ins c' ns vs))):FV Φ c f' fa μ h=.ok (.v (.obj c' ns vs)) h1:=by
 unfold FV;rw[e1,AS,show Φ f' (.r h1.length::rs) (h1++ [.ins c [] []])=_ from e2,AS];have e3:(hnew h1 (.ins c' ns vs))[h1.length]?=some (.ins c' ns vs):=B5;simp only[e3];rw[if_pos (by simp[hnew])];congr 1;exact(Hn (aI _)).trans EU
def Pn{f':Nat}(e1:fa μ h=.ok rs h1)(e2:Φ f' (.r (hlen h1)::rs) (hnew h1 (.ins c [] []))=.ok (.v .non) (hnew h1 (.gone m))):FV Φ c f' fa μ h=.ok (.v m) h1:=by
 unfold FV;rw[e1,AS,show Φ f' (.r h1.length::rs) (h1++ [.ins c [] []])=_ from e2,AS];have e3:(hnew h1 (.gone m))[h1.length]?=some (.gone m):=B5;simp only[e3];rw[if_pos (by simp[hnew])];congr 1;exact(Hn (aI _)).trans EU
@[simp]def mL:(e2 cs Φ ini cf (.var i)).2 μ h=((e2 cs Φ ini cf (.var i)).1 μ h).bK λx h1=>FI h1 ((A0 h1 x).bind Dv):=rfl
@[simp]def kM:(e2 cs Φ ini cf (.call f es)).2 μ h=((e2 cs Φ ini cf (.call f es)).1 μ h).bK λx h1=>FI h1 ((A0 h1 x).bind Dv):=rfl
@[simp]def mP{b:Bf}:(e2 cs Φ ini cf (.bfn b es)).2 μ h=((e2 cs Φ ini cf (.bfn b es)).1 μ h).bK λx h1=>FI h1 ((A0 h1 x).bind Dv):=rfl
@[simp]def kK{m:Nat}:(e2 cs Φ ini cf (.meth m o es)).2 μ h=((e2 cs Φ ini cf (.meth m o es)).1 μ h).bK λx h1=>FI h1 ((A0 h1 x).bind Dv):=rfl
@[simp]def mN:(e2 cs Φ ini cf (.fld e f)).2 μ h=((e2 cs Φ ini cf (.fld e f)).1 μ h).bK λx h1=>FI h1 ((A0 h1 x).bind Dv):=rfl
@[simp]def Ql:exs cs Φ ini cf .nil μ h=some (.nx μ,h):=rfl
@[simp]def Nr:exs cs Φ ini cf (.cons s ss) μ h=seqK (x:=ex cs Φ ini cf s μ h) (exs cs Φ ini cf ss):=rfl
@[simp]def Qk:ex cs Φ ini cf (.set i e) μ h=DY μ (x:=(e2 cs Φ ini cf e).1 μ h) λr h1=>some (.nx (μ.set i (some r)),h1):=rfl
@[simp]def k9:ex cs Φ ini cf (.setC i e) μ h=DY μ (x:=(e2 cs Φ ini cf e).1 μ h) λr h1=>some (.nx (μ.set i (some r)),h1):=rfl
@[simp]def kx:ex cs Φ ini cf (.setT t e) μ h=DY μ (x:=(e2 cs Φ ini cf e).1 μ h) λr h1=>(Oy t r μ).map λμ'=>(.nx μ',h1):=rfl
noncomputable def Wl(μ:En)(n:Nat)(h:MH)(m:MV)(k:Int):Option MO->SR
 |some (.lst l)=>(NY l.length k).map λj=>(.nx μ,AQ h n (.lst (l.set j m)))
 |_=>none
@[simp]def kZ{n:Nat}{k:Int}:Wl μ n h m k (some (.lst l))=(NY l.length k).map λj=>(.nx μ,AQ h n (.lst (l.set j m))):=rfl
noncomputable def Wj(μ:En)(x o i:R)(h3:MH):SR:=match x,o,T8 i with
 |.v m,.r n,some k=>(match h3[n]? with
  |some (.lst l)=>(NY l.length k).map λj=>(.nx μ,h3.set n (.lst (l.set j m)))
  |_=>none)
 |_,_,_=>none
@[simp]def kY{n:Nat}{k:Int}:Wj μ (.v m) (.r n) (.v (.int k)) h=Wl μ n h m k (hat h n):=by
  rfl
@[simp]def kz{o i:ME}:ex cs Φ ini cf (.setI o i e) μ h=DY μ (x:=(e2 cs Φ ini cf e).1 μ h) λx h1=>DY μ (x:=(e2 cs Φ ini cf o).1 μ h1) λo h2=>DY μ (x:=(e2 cs Φ ini cf i).1 μ h2) λi h3=>Wj μ x o i h3:=rfl
@[simp]def kA:ex cs Φ ini cf (.expr e) μ h=DY μ (x:=(e2 cs Φ ini cf e).1 μ h) λ_ h1=>some (.nx μ,h1):=rfl
@[simp]def mn:ex cs Φ ini cf (.ret e) μ h=DY μ (x:=(e2 cs Φ ini cf e).1 μ h) λr h1=>some (.rt r,h1):=rfl
@[simp]def mo:ex cs Φ ini cf (.ite e ss ss') μ h=DY μ (x:=(e2 cs Φ ini cf e).2 μ h) λk h1=>Ia (k:=k) (exs cs Φ ini cf ss μ h1) (exs cs Φ ini cf ss' μ h1):=rfl
@[simp]def mq:ex cs Φ ini cf (.for_ t it ss) μ h=DY μ (x:=SJ cs Φ ini cf it μ h) λw h1=>AM w.src w.ms t (exs cs Φ ini cf ss) w.ms μ h1:=iR rfl rfl
@[simp]def am:ex cs Φ ini cf (.raise c f e) μ h=none:=rfl
@[simp]def qp:SJ cs Φ ini cf (.of e) μ h=((e2 cs Φ ini cf e).1 μ h).bK λx h1=>FI h1 (FD h1 x):=iR rfl rfl
@[simp]def kO:SJ cs Φ ini cf (.rng1 a) μ h=((e2 cs Φ ini cf a).1 μ h).bK λx h1=>FI h1 (Em [x]):=iR rfl rfl
@[simp]def kN:SJ cs Φ ini cf (.rng2 a b) μ h=((e2 cs Φ ini cf a).1 μ h).bK λx h1=>((e2 cs Φ ini cf b).1 μ h1).bK λy h2=>FI h2 (Em [x,y]):=iR rfl rfl
@[simp]def mS:SJ cs Φ ini cf (.enu e) μ h=((e2 cs Φ ini cf e).1 μ h).bK λx h1=>FI h1 (SK x):=iR rfl rfl
@[simp]def rJ{n:Nat}:fin n (some (.rt (.v m),h))=.ok (.v m) (Fv h n):=rfl
@[simp]def rL{n:Nat}:fin n (some (.nx μ,h))=.ok (.v .non) (Fv h n):=rfl
@[simp]def rK{n:Nat}{o:MO}{l:MH}(hl:hlen l=n):fin n (some (.rt (.r n),hnew l o))=.ok (.r n) (hnew l o):=by
  subst hl;show(if l.length<l.length then _ else _)=_;rw[if_neg (cV _)];simp[hnew,hlen]
end
section
variable {i:Int}{z:Str}{f n:Nat}{j:Nat}
@[simp]def sL:HL (.lst l) (.int i)=B4 l i:=rfl
@[simp]def rj:HL (.scr l) (.int i)=B4 l i:=rfl
@[simp]def sJ:HL (.tup l) (.int i)=B4 l i:=rfl
@[simp]def sK:HL (.str z) (.int i)=if z.length<=big then(B4 z.cps.toList i).map λc=>.str ⟨#[c]⟩ else none:=rfl
@[simp]def rW:Bh .eq a b=AJ .eq a b:=by cases b<;>rfl
@[simp]def rP:Bh .ne a b=AJ .ne a b:=by cases b<;>rfl
@[simp]def rQ:Bh .lt a b=AJ .lt a b:=by cases b<;>rfl
@[simp]def rR:Bh .le a b=AJ .le a b:=by cases b<;>rfl
@[simp]def rT:Bh .gt a b=AJ .gt a b:=by cases b<;>rfl
@[simp]def rV:Bh .ge a b=AJ .ge a b:=by cases b<;>rfl
@[simp]def rS:Bh .is_ a b=AJ .is_ a b:=by cases b<;>rfl
@[simp]def p8:Bh .isnot a b=AJ .isnot a b:=by cases b<;>rfl
@[simp]def pA:Bh .in_ a (.lst l)=AJ .in_ a (.lst l):=rfl
@[simp]def p9:Bh .in_ a (.str z)=AJ .in_ a (.str z):=rfl
@[simp]def pB:Bh .in_ a (.dic t ks vs)=(Et t ks vs a).map Option.isSome:=by simp only[Bh]
@[simp]def p7:Bh .notin a (.lst l)=AJ .notin a (.lst l):=rfl
@[simp]def sP:C3 (.lst l)=some l:=rfl
@[simp]def sN:C3 (.tup l)=some l:=rfl
@[simp]def sO:C3 (.str z)=some (FW z):=rfl
@[simp]def sA:K3 (.lst l)=some l:=rfl
@[simp]def s9:K3 (.tup l)=some l:=rfl
@[simp]def tu:Oy (.lst is) (.v m) μ=AX (.lst is) m μ:=rfl
@[simp]def tm:AX (.nm j) m μ=some (μ.set j (some (.v m))):=rfl
@[simp]def tq:AX (.lst is) (.lst l) μ=if is.length=l.length then some ((is.zip l).foldl (λμ p=>μ.set p.1 (some (.v p.2))) μ) else none:=rfl
@[simp]def oI:C4 f v (n::ns) (m::ms)=if n=f then(n::ns,v::ms) else(n::(C4 f v ns ms).1,m::(C4 f v ns ms).2):=rfl
@[simp]def oH:C4 f v [] ms=([f],[v]):=rfl
end
section
@[simp]def CD:J3 [.lst l]=some (.int l.length):=rfl
@[simp]def oy:J3 [.scr l]=some (.int l.length):=rfl
@[simp]def qZ:J3 [.tup l]=some (.int l.length):=rfl
@[simp]def re{z:Str}:J3 [.str z]=if z.length<=big then some (.int z.length) else none:=rfl
@[simp]def oO:Bf.fn cs .len=J3:=rfl
@[simp]def oP:Bf.fn cs .isi=M4 cs:=rfl
@[simp]def SE:Bf.fn cs .all=Lc:=rfl
@[simp]def oM:Bf.fn cs .max=RW:=rfl
@[simp]def oK:Bf.fn cs .min=RV:=rfl
@[simp]def oQ:Bf.fn cs .int=RY:=rfl
@[simp]def oJ:Bf.fn cs .tup=M3:=rfl
@[simp]def oN:Bf.fn cs .lst=RX:=rfl
@[simp]def qu:M3 [.lst l]=some (.tup l):=rfl
@[simp]def qr:M3 [.tup l]=some (.tup l):=rfl
@[simp]def rB:RY [.bl k]=some (.int (if k then 1 else 0)):=rfl
@[simp]def qY{i j:Int}:RV [.int i,.int j]=some (.int (if j<i then j else i)):=rfl
end
section
variable {i j:Int}
@[simp]def lY:Bz .sub (.int i) (.int j)=some (.int (i-j)):=rfl
@[simp]def mh:Bz .add (.int i) (.int j)=some (.int (i+j)):=rfl
@[simp]def md:Bz .mul (.int i) (.int j)=if Dh i j then some (.int (i*j)) else none:=rfl
@[simp]def jO:Bz .fdiv (.int i) (.int j)=if 0<j/\j<10000000000000000000000000000000000000000 then some (.int (i / j)) else none:=rfl
@[simp]def me:Bz .mod (.int i) (.int j)=if 0<j then some (.int (i%j)) else none:=rfl
@[simp]def mf:Bz .and (.int i) (.int j)=some (.int (Builtin.bitAnd i j)):=rfl
@[simp]def pH:Bz .or (.int i) (.int j)=some (.int (Builtin.bitOr i j)):=rfl
@[simp]def lX:Bz .xor (.int i) (.int j)=some (.int (Builtin.bitXor i j)):=rfl
@[simp]def ma:Bz .pow (.int i) (.int j)=if C9 i j then some (.int (i^j.toNat)) else none:=rfl
@[simp]def lZ:Bz .shl (.int i) (.int j)=if C9 i j then some (.int (i*2^j.toNat)) else none:=rfl
@[simp]def pf:AJ .lt (.int i) (.int j)=some (decide (i<j)):=rfl
@[simp]def ph:AJ .le (.int i) (.int j)=some (decide (i<=j)):=rfl
@[simp]def pi:AJ .gt (.int i) (.int j)=some (decide (j<i)):=rfl
@[simp]def pj:AJ .ge (.int i) (.int j)=some (decide (j<=i)):=rfl
end
@[simp]def qK{i j:Int}(h1: -(2^64)<j)(h2:j<2^64):Dh i j=true:=by
  unfold Dh;rw[eX];exact .inr (by rw[bY h1,bY h2];rfl)
@[simp]def KY{i j:Int}(h1: -(2^64)<i)(h2:i<2^64):Dh i j=true:=by
  unfold Dh;rw[eX];exact .inl (by rw[bY h1,bY h2];rfl)
@[simp]def qL{i j p:Int}(h1:0<p)(h2:p<=2^64):Dh (i%p) j=true:=by
  have a:=c8 i (Int.ne_of_gt h1);have b:=bQ i h1;exact KY (by lia) (by lia)
@[simp]def AK{α:Type}{l:List α}{i:Int}(h:0<=i):B4 l i=l[i.toNat]?:=by
  unfold B4 NY;rw[if_pos h];by_cases h1:i<l.length
  ·rw[if_pos h1];rfl
  rw[if_neg h1];exact(dR (by lia)).symm
@[simp]def rn{n:Nat}{i:Int}(h:0<=i)(h1:i<n):NY n i=some i.toNat:=by
  unfold NY;rw[if_pos h,if_pos h1]
theorem Oe(P:Nat->En->MH->Prop):∀{l:List MV}{all:List MV}{i:Nat}{μ:En}{h:MH},P i μ h->
 (∀j m μ h,l[j]?=some m->P (i+j) μ h->∃μ1 μ2 h2,AX t m μ=some μ1/\b μ1 h=some (.nx μ2,h2)/\P (i+j+1) μ2 h2)->∃μ' h',AM none all t b l μ h=some (.nx μ',h')/\P (i+l.length) μ' h'
 |[],all,i,μ,h,p,_=>⟨μ,h,rfl,p⟩
 |m::l,all,i,μ,h,p,st=>by
  obtain⟨μ1,μ2,h2,e1,e2,p2⟩:=st 0 m μ h rfl p;obtain⟨μ',h',e,q⟩:=Oe P (l:=l) (all:=all) (i:=i+1) p2 λj m μ h hj hp=>by
   have:=st (j+1) m μ h (by simpa using hj) (by rw[show i+(j+1)=i+1+j by lia];exact hp)
   rwa[show i+(j+1)+1=i+1+j+1 by lia]at this
  refine⟨μ',h',?_,by rw[cN,show i+(l.length+1)=i+1+l.length by lia];exact q⟩;rw[←e];simp only[AM,Bs,if_true,e1,e2]
theorem LA(g:MV->MV)(htc:∀μ h,tc μ h=.ok true h):∀{l all acc:List MV},(∀m∈l,∃μ1,AX tg m μ0=some μ1/\te μ1 h=.ok (.v (g m)) h)->compLoop none all tg μ0 tc te l acc h=.ok (acc++l.map g) h
 |[],all,acc,_=>by unfold compLoop;simp[Bs]
 |m::l,all,acc,st=>by
  obtain⟨μ1,e1,e2⟩:=st m aH;unfold compLoop;simp only[Bs,if_true,e1,htc,AS,e2];rw[LA g htc λq hq=>st q (aE _ hq)];simp
theorem FU(p:MV->Bool)(g:MV->MV):∀{l all acc:List MV},(∀m∈l,∃μ1,AX tg m μ0=some μ1/\tc μ1 h=.ok (p m) h/\(p m=true->te μ1 h=.ok (.v (g m)) h))->compLoop none all tg μ0 tc te l acc h=.ok (acc++(l.filter p).map g) h
 |[],all,acc,_=>by unfold compLoop;simp[Bs]
 |m::l,all,acc,st=>by
  obtain⟨μ1,e1,e2,e3⟩:=st m aH;unfold compLoop;simp only[Bs,if_true,e1,e2,AS];by_cases hp:p m=true
  ·rw[if_pos hp,e3 hp];simp only[AS];rw[FU p g λq hq=>st q (aE _ hq)];simp[hp]
  rw[if_neg hp,FU p g λq hq=>st q (aE _ hq)];simp[hp]
def Ae{n f:Nat}(hd:ds[f]?=some d)(hl:rs.length=d.ps.length)(e:fin (hlen h) (exs G.cs (EM G ds n) G.ini G.cf d.body (Ab d.N.length rs) h)=x):EM G ds (n+1) f rs h=x:=by
 simp only[EM,hd,hl,if_true];exact e
noncomputable def p6(K:PySem.W.Frag)(T:Tb)(ts:List Addr):Bool:=ts.all (λb=>(K.lookup b).isNone&&(EG K T 0 T.ds).any λt=>t.1 ==b)&&(EG K T 0 T.ds).all λt=>ts.contains t.1
theorem N3{K:Fq}(X:K.In h):∀{ds:List Af}{n:Nat},Fc (λf d=>d.lp.isEmpty||Ej K (BB K T f)) n ds=true->∀t∈EG K T n ds,isCodeTable h t.1
 |[],n,_,t,ht=>by simp[EG]at ht
 |d::ds,n,hh,t,ht=>by
  obtain⟨h1,h2⟩:=Ar (show((d.lp.isEmpty||Ej K (BB K T n))&&Fc (λf d=>d.lp.isEmpty||Ej K (BB K T f)) (n+1) ds)=true from hh);unfold EG at ht;rcases bT.mp ht with ht|ht
  ·obtain⟨p,hp,rfl⟩:=bB.mp ht;rcases eX _ _ |>.mp h1 with z|z
   ·rw[dA.mp z]at hp;simp at hp
   unfold Ej at z;split at z
   ·obtain⟨z,_⟩:=Ar z;exact(Ov X z).2
   exact absurd z aB
  exact N3 X h2 t ht
def Wc{ts:List Addr}:(ts.map λb=>(b,(#[]:Array Value))).lookup b=some ps->b∈ts/\ps=#[]:=by
 induction ts with
 |nil=>intro h;simp at h
 |cons a ts ih=>
  intro h;rw[aK,c9]at h;split at h
  ·rename_i e;have e:=aR.mp e;cases h;exact⟨by rw[e];exact aH,rfl⟩
  obtain⟨h1,h2⟩:=ih h;exact⟨aE _ h1,h2⟩
def jQ{ts:List Addr}(h:b∈ts):(ts.map λb=>(b,(#[]:Array Value))).lookup b=some #[]:=by
 induction ts with
 |nil=>simp at h
 |cons a ts ih=>
  rw[aK,c9];by_cases e:b=a
  ·rw[e];simp
  rw[show(b ==a)=false from bS.mpr e];exact ih ((aU.mp h).resolve_left e)
def M7{l:PySem.W.OpenLaw}{q:Program}{loose:List Str}{XP:(Str->Option Value)->Heap->Prop}{d:DefRec}{K:Params->PySem.W.Frag}{as:List Addr}{e:∀P,as=(K P).map (·.1)}{ts:List Addr}{T:Tb}{n f:Nat}{x:Str}{dd:Af}
 (hn:l.most=some 63)(hdf:d.params.defaults=[])(hk:Bp (2*n+1) callerA)(hname:d.name=Str.ofString "law")(hnm:CU T.names=true)(hl:Tt T n f)(hd:T.ds[f]?=some dd)(hp:dd.ps=[x])(hf:T.fns[f]?=some (Str.ofString "law"))
 (hc:∀w:World,((Pc (K w.params) T&&Sh (Fy (K w.params) (BB (K w.params) T f)) x)&&p6 (K w.params) T ts)=true) :
 PySem.W.WalkO q loose XP (PySem.W.kmHook K as e ts).says l.row.toRowW d [] (λf vs=>PySem.call f vs):=by
 have tin:∀(w:World) (b:Addr),b∈ts->((K w.params).lookup b).isNone=true/\∃t∈EG (K w.params) T 0 T.ds,t.1=b:=λw b hb=>by
  obtain⟨c1,_⟩:=Ar (Ar (hc w)).2;obtain⟨a1,a2⟩:=Ar (aZ.mp c1 b hb);obtain⟨t,ht,e⟩:=eN.mp a2;exact⟨a1,t,ht,aR.mp e⟩
 refine Qv (n:=63) (x:=x) (TS:=ts.map λb=>(b,#[])) (sp:=λw=>Mf (K w.params) (ts.map λb=>(b,#[]))) hn (by decide) hdf hk (λw h Y=>PySem.W.km_in_of Y) (λw h Y b ps hb=>?_) (λw b ps hb=>?_) (λw mg fa h KX N hmg=>?_) λw H a ns h1 h2 h3=>⟨a,ns,rfl,h3,h1,h2,λ_=>rfl⟩
 ·obtain⟨h1,rfl⟩:=Wc hb;refine⟨PySem.W.km_tabs_of Y b h1,?_⟩;obtain⟨_,t,ht,rfl⟩:=tin w b h1;obtain⟨p1,_⟩:=Ar (Ar (hc w)).1;unfold Pc Qz at p1;exact N3 (PySem.W.km_in_of Y) (Ar (Ar p1).2).1 t ht
 ·obtain⟨h1,rfl⟩:=Wc hb;exact eC.mp (tin w b h1).1
 obtain⟨c1,c2⟩:=Ar (hc w);refine jf hnm hl hd hp hf KX N (by rw[←hname];exact hmg) c1 (λt ht=>jQ ?_);have:=aZ.mp (Ar c2).2 t ht;exact List.contains_iff_mem.mp this
end B
namespace BK45
open PySem B
noncomputable abbrev s(x:String):Str:=Str.ofString x
section
local macro_rules|`(#[])=>`(.nil)|`(#[$a])=>`(.cons $a .nil)|`(#[$a,$b,*])=>`(.cons $a #[$b,*])|`(@$n:num)=>`(.var $n)|`(↑$n:num)=>`(.con (.int $n))
noncomputable def d0:Af:=⟨["k"],["k"],
 #[.wh 70 (.con (.bl true)) #[.pass]],[]⟩
noncomputable def d1:Af:=⟨["thing"],["thing"],
 #[.ret (.and #[.bfn .isi #[@0,.bty "int" .int],.not (.bfn .isi #[@0,.bty "bool" .bl])])],[]⟩
noncomputable def d2:Af:=⟨["thing"],["thing"],
 #[.ite (.or #[.not (.bfn .isi #[@0,.bty "str" .str]),.not (.cmp2 .le .le ↑1 (.bfn .len #[@0]) (.glo "LONGEST_WORD" (.int 8)))]) #[.ret (.con (.bl false))] .nil,.ret (.bfn .all #[.comp ["sign"] [] [] (.nm 0) (.of @0) .nil (.cmp .in_ @0 (.glo "LETTERS" (.str "abcdefghijklmnopqrstuvwxyz")))])],[]⟩
noncomputable def d3:Af:=⟨["thing"],["thing"],
 #[.ite (.or #[.not (.bfn .isi #[@0,.bty "tuple" .tup]),.cmp .ne (.bfn .len #[@0]) ↑2]) #[.ret (.con (.bl false))] .nil,.ret (.and #[.call 2 #[.idx @0 ↑0],.call 1 #[.idx @0 ↑1],.cmp2 .le .le ↑0 (.idx @0 ↑1) (.glo "GREATEST_NUMBER" (.int 99))])],[]⟩
noncomputable def d4:Af:=⟨["thing"],["thing"],
 #[.ret (.and #[.call 1 #[@0],.cmp2 .le .le ↑0 @0 (.glo "LAST_DAY" (.int 9999))])],[]⟩
noncomputable def d5:Af:=⟨["thing","many"],["thing","many"],
 #[.ret (.and #[.call 1 #[@0],.cmp .ge @0 ↑0,.cmp .le (.bmt .bits @0 .nil) @1])],[]⟩
noncomputable def d6:Af:=⟨["mask"],["mask","places","place","rest"],
 #[.set 1 (.lstL .nil),.set 2 ↑0,.set 3 @0,.wh 70 (.cmp .gt @3 ↑0) #[.ite (.cmp .eq (.bin .mod @3 ↑2) ↑1) #[.expr (.mmt .app @1 #[@2])] .nil,.set 3 (.bin .fdiv @3 ↑2),.set 2 (.bin .add @2 ↑1)],.ret (.mov 1)],[]⟩
noncomputable def d7:Af:=⟨["mask"],["mask","places"],
 #[.set 1 (.call 6 #[@0]),.ret (.ife @1 (.idx @1 ↑0) (.con .non))],[]⟩
noncomputable def d8:Af:=⟨["places"],["places","mask","place"],
 #[.set 1 ↑0,.for_ (.nm 2) (.of @0) #[.set 1 (.bin .or @1 (.bin .shl ↑1 @2))],.ret @1],[]⟩
noncomputable def d9:Af:=⟨["mask","bound"],["mask","bound"],
 #[.ret (.call 7 #[.bin .and @0 (.una .inv @1)])],[]⟩
noncomputable def d10:Af:=⟨["lets","strings","bars","reach"],["lets","strings","bars","reach"],
 #[.ite (.not (.call 5 #[@0,.glo "DEED_BITS" (.int 5)])) #[.ret (.con (.bl false))] .nil,.ite (.or #[.not (.call 5 #[@1,.glo "STRING_BITS" (.int 6)]),.not (.call 5 #[@2,.glo "STRING_BITS" (.int 6)])]) #[.ret (.con (.bl false))] .nil,.ite (.cmp .ne (.bin .and @1 @2) ↑0) #[.ret (.con (.bl false))] .nil,.ret (.and #[.call 1 #[@3],.cmp2 .le .le ↑0 @3 (.glo "GREATEST_REACH" (.int 3))])],[]⟩
noncomputable def d11:Af:=⟨["thing"],["thing"],
 #[.ite (.or #[.not (.bfn .isi #[@0,.tup #[.bty "list" .lst,.bty "tuple" .tup]]),.cmp .ne (.bfn .len #[@0]) (.glo "JOIN_COUNT" (.int 4))]) #[.ret (.con (.bl false))] .nil,.ite (.not (.bfn .all #[.comp ["mask"] [] [] (.nm 0) (.of @0) .nil (.call 5 #[@0,.glo "DUTY_BITS" (.int 6)])])) #[.ret (.con (.bl false))] .nil,.ret (.bfn .all #[.comp ["looser","closer"] [] [] (.tup [0,1]) (.zip (.sli @0 .no (.ye (.una .neg ↑1))) (.sli @0 (.ye ↑1) .no)) .nil (.cmp .is_ (.call 9 #[@0,@1]) (.con .non))])],[]⟩
noncomputable def d12:Af:=⟨["thing"],["thing"],
 #[.ite (.not (.bfn .isi #[@0,.bty "bool" .bl])) #[.raise 6 0 @0] .nil],[]⟩
noncomputable def d13:Af:=⟨["first","last"],["first","last"],
 #[.ite (.not (.call 4 #[@0])) #[.raise 5 0 @0] .nil,.ite (.or #[.not (.call 4 #[@1]),.cmp .lt @1 @0]) #[.raise 5 0 @1] .nil],[]⟩
noncomputable def d14:Af:=⟨["asks"],["asks"],
 #[.ite (.cmp .is_ @0 (.con .non)) #[.ret (.tup #[↑0,↑0,↑0,↑0])] .nil,.ite (.not (.call 11 #[@0])) #[.raise 7 0 @0] .nil,.ret (.bfn .tup #[@0])],[]⟩
noncomputable def d15:Af:=⟨["closeness"],["closeness"],
 #[.ret (.call 8 #[.lrng (.bin .add @0 ↑1)])],[]⟩
noncomputable def d16:Af:=⟨[],[],
 #[.ret (.lst #[.new0 16,.new0 17,.new0 18,.new0 19])],[]⟩
noncomputable def d17:Af:=⟨["word"],["word","join"],
 #[.for_ (.nm 1) (.of (.call 16 .nil)) #[.ite (.cmp .eq (.meth 1 @1 .nil) @0) #[.ret @1] .nil],.raise 3 0 @0],[]⟩
noncomputable def d18:Af:=⟨["joins"],["joins","least","join"],
 #[.set 1 (.new0 19),.for_ (.nm 2) (.of @0) #[.ite (.cmp .lt (.meth 2 @2 .nil) (.meth 2 @1 .nil)) #[.set 1 @2] .nil],.ret @1],[]⟩
noncomputable def d19:Af:=⟨["licence","closeness"],["licence","closeness","deed"],
 #[.set 2 (.call 9 #[.call 15 #[@1],.fld @0 3]),.ret (.ife (.cmp .is_ @2 (.con .non)) (.con .non) (.tup #[.con (.str "deed"),@2]))],[]⟩
noncomputable def d20:Af:=⟨["licence","closeness"],["licence","closeness"],
 #[.ret (.cmp .le (.fld @0 4) @1)],[]⟩
noncomputable def d21:Af:=⟨["licence","closeness","other"],["licence","closeness","other","fault"],
 #[.set 3 (.call 19 #[@0,@1]),.ite (.and #[.cmp .is_ @3 (.con .non),.call 20 #[@0,@1]]) #[.ret (.meth 5 @2 #[@0])] .nil,.ret @3],[]⟩
noncomputable def d22:Af:=⟨["licence","closeness","other"],["licence","closeness","other"],
 #[.ret (.cmp .is_ (.call 21 #[@0,@1,@2]) (.con .non))],[]⟩
noncomputable def d23:Af:=⟨["thing"],["thing"],
 #[.ite (.or #[.not (.bfn .isi #[@0,.tup #[.bty "list" .lst,.bty "tuple" .tup]]),.cmp .gt (.bfn .len #[@0]) (.glo "MOST_OFFERS" (.int 2))]) #[.ret (.con (.bl false))] .nil,.ret (.and #[.bfn .all #[.comp ["key"] [] [] (.nm 0) (.of @0) .nil (.call 3 #[@0])],.cmp .eq (.lenset @0) (.bfn .len #[@0])])],[]⟩
noncomputable def d24:Af:=⟨["offers"],["offers"],
 #[.ite (.cmp .is_ @0 (.con .non)) #[.ret (.tup .nil)] .nil,.ite (.not (.call 23 #[@0])) #[.raise 8 0 @0] .nil,.ret (.bfn .tup #[@0])],[]⟩
noncomputable def d25:Af:=⟨["many"],["many"],
 #[.ite (.cmp .gt @0 (.glo "MOST_BENEATH" (.int 6))) #[.raise 11 6 @0] .nil],[]⟩
noncomputable def d26:Af:=⟨["many"],["many"],
 #[.ite (.cmp .gt @0 (.glo "MOST_PARTS" (.int 30))) #[.raise 11 6 @0] .nil],[]⟩
noncomputable def d27:Af:=⟨["deep"],["deep"],
 #[.ite (.cmp .gt @0 (.glo "MOST_DEEP" (.int 6))) #[.raise 12 6 @0] .nil],[]⟩
noncomputable def d28:Af:=⟨["thing"],["thing"],
 #[.ret (.and #[.bfn .isi #[@0,.bty "tuple" .tup],.cmp .eq (.bfn .len #[@0]) ↑2,.bfn .isi #[.idx @0 ↑1,.glo "Part" (.cls 20)]])],[]⟩
noncomputable def d29:Af:=⟨["beneath"],["beneath","row"],
 #[.ite (.cmp .is_ @0 (.con .non)) #[.ret (.tup .nil)] .nil,.ite (.or #[.not (.bfn .isi #[@0,.tup #[.bty "list" .lst,.bty "tuple" .tup]]),.not (.bfn .all #[.comp ["thing"] [] [] (.nm 0) (.of @0) .nil (.call 28 #[@0])])]) #[.raise 9 0 @0] .nil,.expr (.call 25 #[.bfn .len #[@0]]),.for_ (.nm 1) (.of @0) #[.expr (.call 17 #[.idx @1 ↑0])],.ret (.bfn .tup #[@0])],[]⟩
noncomputable def d30:Af:=⟨["work"],["work","rows","word","part","road","deeper"],
 #[.set 1 (.lstL #[.tup #[.lst .nil,@0]]),.for_ (.tup [2,3]) (.of (.fld @0 7)) #[.for_ (.tup [4,5]) (.of (.call 30 #[@3])) #[.expr (.mmt .app @1 #[.tup #[.bin .add (.lst #[.tup #[@2,.fld @3 8]]) @4,@5]])]],.ret (.mov 1)],[]⟩
noncomputable def d31:Af:=⟨["work"],["work"],
 #[.ret (.bin .add ↑1 (.bfn .max #[.comp ["road","part"] [] [] (.tup [0,1]) (.of (.call 30 #[@0])) .nil (.bfn .len #[@0])]))],[]⟩
noncomputable def d32:Af:=⟨["work"],["work","names","road","part"],
 #[.set 1 (.lstL .nil),.for_ (.tup [2,3]) (.of (.call 30 #[@0])) #[.ite (.cmp .in_ (.fld @3 8) @1) #[.raise 10 8 (.fld @3 8)] .nil,.expr (.mmt .app @1 #[.fld @3 8])],.expr (.call 26 #[.bfn .len #[@1]]),.expr (.call 27 #[.call 31 #[@0]])],[]⟩
noncomputable def d33:Af:=⟨["part","thing"],["part","thing"],
 #[.ret (.and #[.call 3 #[@1],.cmp .in_ @1 (.fld @0 9)])],[]⟩
noncomputable def d34:Af:=⟨["work","name"],["work","name","row"],
 #[.for_ (.nm 2) (.of (.call 30 #[@0])) #[.ite (.cmp .eq (.fld (.idx @2 ↑1) 8) @1) #[.ret @2] .nil],.raise 4 0 @1],[]⟩
noncomputable def d35:Af:=⟨["road"],["road"],
 #[.ret (.meth 2 (.call 18 #[.comp ["word","name"] [] [] (.tup [0,1]) (.of @0) .nil (.call 17 #[@0])]) .nil)],[]⟩
noncomputable def d36:Af:=⟨["work"],["work"],
 #[.ret (.comp ["road","part"] [] [] (.tup [0,1]) (.of (.call 30 #[@0])) #[.fld @1 9] (.tup #[@1,.call 35 #[@0]]))],[]⟩
noncomputable def d37:Af:=⟨["book","work"],["book","work","road","part","offer"],
 #[.for_ (.tup [2,3]) (.of (.call 30 #[@1])) #[.for_ (.nm 4) (.of (.fld @3 9)) #[.expr (.meth 10 @0 #[@4])]]],[]⟩
noncomputable def d38:Af:=⟨["book","work","key"],["book","work","key"],
 #[.expr (.meth 10 @0 #[@2]),.expr (.call 37 #[@0,@1])],[]⟩
noncomputable def d39:Af:=⟨["book","part","closeness","other"],["book","part","closeness","other"],
 #[.ret (.comp ["offer"] ["book","closeness","other"] [0,2,3] (.nm 0) (.of (.fld @1 9)) .nil (.tup #[@0,.call 21 #[.meth 10 @1 #[@0],@2,@3]]))],[]⟩
noncomputable def d40:Af:=⟨["faults"],["faults"],
 #[.ret (.bfn .all #[.comp ["offer","fault"] [] [] (.tup [0,1]) (.of @0) .nil (.cmp .isnot @1 (.con .non))])],[]⟩
noncomputable def d41:Af:=⟨["book","work","name","key"],["book","work","name","key","part"],
 #[.set 4 (.meth 11 @1 #[@2]),.expr (.call 38 #[@0,@1,@3]),.ret (.call 39 #[@0,@4,.meth 12 @1 #[@2],.meth 10 @0 #[@3]])],[]⟩
noncomputable def d42:Af:=⟨["work","faults_of"],["work","faults_of","rows","part","closeness","faults"],
 #[.set 2 (.lstL .nil),.for_ (.tup [3,4]) (.of (.call 36 #[@0])) #[.set 5 (.calv 1 #[@3,@4]),.ite (.call 40 #[@5]) #[.expr (.mmt .app @2 #[.tup #[.fld @3 8,@5]])] .nil],.ret (.mov 2)],[]⟩
noncomputable def d43:Af:=⟨["book","work","key"],["book","work","key","other"],
 #[.expr (.call 38 #[@0,@1,@2]),.set 3 (.meth 10 @0 #[@2]),.ret (.calL 42 #[@1] 110 [0,3])],[⟨374,31,374,96⟩]⟩
noncomputable def d44:Af:=⟨["book","work"],["book","work"],
 #[.expr (.call 37 #[@0,@1]),.ret (.comp ["key"] ["book","work"] [0,1] (.nm 0) (.of (.meth 13 @0 .nil)) #[.not (.call 43 #[@1,@2,@0])] @0)],[]⟩
noncomputable def d45:Af:=⟨["book","key","told"],["book","key","told","licence","covered"],
 #[.set 3 (.meth 10 @0 #[@1]),.setC 4 (.comp ["other"] ["licence","book"] [3,0] (.nm 0) (.of @2) #[.meth 14 @1 #[.meth 10 @2 #[@0]]] (.meth 10 @2 #[@0])),.ret (.bfn .all #[.comp ["other"] ["licence"] [3] (.nm 0) (.of @4) .nil (.meth 14 @0 #[@1])])],[]⟩
noncomputable def d46:Af:=⟨["book","work"],["book","work","told"],
 #[.set 2 (.call 44 #[@0,@1]),.ret (.comp ["key"] ["book","told"] [0,2] (.nm 0) (.of @2) #[.call 45 #[@1,@0,@2]] @0)],[]⟩
noncomputable def d47:Af:=⟨["book","part","closeness","offer","other"],["book","part","closeness","offer","other"],
 #[.ret (.and #[.call 33 #[@1,@3],.call 22 #[.meth 10 @0 #[@3],@2,@4]])],[]⟩
noncomputable def d48:Af:=⟨["book","work","key","choice"],["book","work","key","choice","parts","other"],
 #[.expr (.call 38 #[@0,@1,@2]),.set 4 (.call 36 #[@1]),.ite (.or #[.not (.bfn .isi #[@3,.bty "dict" .dct]),.cmp .ne (.bfn .len #[@3]) (.bfn .len #[@4])]) #[.ret (.con (.bl false))] .nil,.set 5 (.meth 10 @0 #[@2]),.ret (.bfn .all #[.comp ["part","closeness"] ["book","choice","other"] [0,3,5] (.tup [0,1]) (.of @4) .nil (.call 47 #[@2,@0,@1,.bmt .get @3 #[.fld @0 8],@4])])],[]⟩
noncomputable def d49:Af:=⟨["names","most"],["names","most","kept","name"],
 #[.ite (.not (.bfn .isi #[@0,.tup #[.bty "list" .lst,.bty "tuple" .tup]])) #[.raise 1 0 @0] .nil,.ite (.cmp .gt (.bfn .len #[@0]) @1) #[.raise 11 6 (.bfn .len #[@0])] .nil,.set 2 (.lstL .nil),.for_ (.nm 3) (.of @0) #[.ite (.not (.call 2 #[@3])) #[.raise 1 0 @3] .nil,.ite (.cmp .in_ @3 @2) #[.raise 10 8 @3] .nil,.expr (.mmt .app @2 #[@3])],.ret (.mov 2)],[]⟩
noncomputable def d50:Af:=⟨["names"],["names"],
 #[.ret (.call 49 #[@0,.glo "STRING_BITS" (.int 6)])],[]⟩
noncomputable def d51:Af:=⟨["names"],["names"],
 #[.ret (.call 49 #[@0,.glo "DUTY_BITS" (.int 6)])],[]⟩
noncomputable def d52:Af:=⟨["licence","strings","duties"],["licence","strings","duties"],
 #[.ite (.not (.call 5 #[.bin .or (.fld @0 15) (.fld @0 16),.bfn .len #[@1]])) #[.raise 6 0 (.fld @0 17)] .nil,.ite (.not (.call 5 #[.idx (.fld @0 18) (.una .neg ↑1),.bfn .len #[@2]])) #[.raise 7 0 (.fld @0 17)] .nil],[]⟩
noncomputable def d53:Af:=⟨["licences","strings","duties"],["licences","strings","duties","kept","licence"],
 #[.ite (.not (.bfn .isi #[@0,.tup #[.bty "list" .lst,.bty "tuple" .tup]])) #[.raise 2 0 @0] .nil,.ite (.cmp .gt (.bfn .len #[@0]) (.glo "MOST_LICENCES" (.int 12))) #[.raise 11 6 (.bfn .len #[@0])] .nil,.set 3 (.dicL true),.for_ (.nm 4) (.of @0) #[.ite (.not (.bfn .isi #[@4,.glo "Licence" (.cls 14)])) #[.raise 2 0 @4] .nil,.ite (.cmp .in_ (.fld @4 17) @3) #[.raise 10 8 (.fld @4 17)] .nil,.expr (.call 52 #[@4,@1,@2]),.setD @3 (.fld @4 17) @4],.ret (.mov 3)],[]⟩
noncomputable def d54:Af:=⟨["_law_script","_law_k"],["_law_script","_law_k"],
 #[.ite (.cmp .lt @1 (.bfn .len #[@0])) #[.ret (.idx @0 @1)] .nil,.ret (.bin .add (.bin .mul ↑7919 @1) ↑13)],[]⟩
noncomputable def d55:Af:=⟨["_law_cell_here","_law_k"],["_law_cell_here","_law_k","_law_number"],
 #[.set 2 (.bin .mod (.bin .add (.bin .add (.bin .mul (.bin .mod @0 ↑2147483629) ↑48271) (.bin .mul ↑7919 @1)) ↑101) ↑2147483647),.set 2 (.bin .mod (.bin .add (.bin .add (.bin .mul @2 @2) (.bin .mul ↑104729 @1)) ↑7) ↑2147483629),.ret (.bin .mod (.bin .mul @2 @2) ↑2147483587)],[]⟩
noncomputable def d56:Af:=⟨["_law_cell_here"],["_law_cell_here"],
 #[.ite (.cmp .ge @0 (.bin .pow ↑10 ↑18)) #[.ret (.lstL #[@0,.bin .mod @0 ↑2147483647,↑0])] .nil,.ret (.lstL #[↑0,.bin .mod @0 ↑2147483647,↑0])],[]⟩
noncomputable def d57:Af:=⟨["_law_box_here","_law_many"],["_law_box_here","_law_many","_law_number"],
 #[.ite (.cmp .gt (.idx @0 ↑0) ↑0) #[.set 2 (.bin .mod (.idx @0 ↑0) @1),.setI @0 ↑0 (.bin .fdiv (.idx @0 ↑0) @1),.ret @2] .nil,.setI @0 ↑2 (.bin .add (.idx @0 ↑2) ↑1),.ret (.bin .mod (.call 55 #[.idx @0 ↑1,.idx @0 ↑2]) @1)],[]⟩
noncomputable def d58:Af:=⟨["_law_cell_here","_law_many"],["_law_cell_here","_law_many","_law_letters","_law_box_here","_law_size","_law_at","_law_way","_law_base","_law_first","_law_found","_law_k","_law_letter"],
 #[.set 2 (.con (.str "abcdefghijklmnopqrstuvwxyz")),.set 3 (.call 56 #[@0]),.set 4 (.call 57 #[@3,↑8]),.set 5 (.call 57 #[@3,.bin .add @4 ↑1]),.set 6 (.call 57 #[@3,↑2]),.set 7 (.bmt .join (.con (.str "")) #[.comp ["_law_k"] ["_law_letters","_law_box_here"] [2,3] (.nm 0) (.rng1 @4) .nil (.idx @1 (.call 57 #[@2,↑26]))]),.set 8 (.call 57 #[@3,↑26]),.set 9 (.lstL .nil),.for_ (.nm 10) (.rng1 @1) #[.set 11 (.idx @2 (.bin .mod (.bin .add @8 (.bin .mul ↑7 @10)) ↑26)),.ite (.cmp .gt @10 ↑25) #[.expr (.mmt .app @9 #[.bin .add (.bin .add @11 (.bin .mul (.con (.str "qz")) ↑3)) (.bin .mul (.con (.str "x")) (.idx (.lst #[↑1,↑0]) (.bfn .int #[.cmp .eq @4 ↑7])))])] #[.ite (.cmp .eq @6 ↑0) #[.expr (.mmt .app @9 #[.bin .add (.bin .add (.sli @7 .no (.ye @5)) @11) (.sli @7 (.ye @5) .no)])] #[.expr (.mmt .app @9 #[.bin .add @11 (.sli @7 .no (.ye (.call 57 #[@3,.bin .add (.bfn .min #[@4,↑5]) ↑1])))])]]],.ret (.mov 9)],[]⟩
noncomputable def d59:Af:=⟨["_law_box_here","_law_mask","_law_many"],["_law_box_here","_law_mask","_law_many"],
 #[.ret (.bin .and @1 (.call 57 #[@0,.bin .shl ↑1 @2]))],[]⟩
noncomputable def d60:Af:=⟨["_law_box_here","_law_keys_here","_law_known"],["_law_box_here","_law_keys_here","_law_known","_law_lets","_law_strings","_law_bars","_law_reach","_law_same","_law_old","_law_asks","_law_k","_law_first","_law_last","_law_row"],
 #[.set 3 (.bin .xor ↑31 (.call 59 #[@0,.call 57 #[@0,↑32],↑5])),.set 4 (.call 59 #[@0,.call 57 #[@0,↑64],↑6]),.set 5 (.call 59 #[@0,.bin .xor ↑63 @4,↑6]),.set 6 (.call 57 #[@0,↑4]),.set 7 (.cmp .eq (.call 57 #[@0,↑4]) ↑0),.ite (.and #[.cmp .ne @2 (.lst .nil),.cmp .eq (.call 57 #[@0,↑2]) ↑0]) #[.set 8 (.idx @2 (.call 57 #[@0,.bfn .len #[@2]])),.set 3 (.bin .and (.idx @8 ↑1) @3),.set 4 (.bin .and (.bin .or (.idx @8 ↑2) @4) (.bin .xor ↑63 (.idx @8 ↑3))),.set 5 (.bin .and (.bin .or (.idx @8 ↑3) @5) (.bin .xor ↑63 @4)),.set 6 (.bfn .min #[.idx @8 ↑4,@6]),.set 7 (.or #[.idx @8 ↑5,@7])] .nil,.set 9 (.lstL #[.call 59 #[@0,.call 57 #[@0,↑64],↑6]]),.for_ (.nm 10) (.rng1 ↑3) #[.expr (.mmt .app @9 #[.bin .or (.idx @9 (.una .neg ↑1)) (.call 59 #[@0,.call 57 #[@0,↑64],↑6])])],.set 11 (.call 57 #[@0,.idx (.lst #[↑1,↑10000]) (.call 57 #[@0,↑2])]),.set 12 (.bin .add @11 (.call 57 #[@0,.bin .sub ↑10000 @11])),.set 13 (.tup #[.idx @1 (.bfn .len #[@2]),@3,@4,@5,@6,@7]),.ret (.bin .add @13 (.tup #[.bfn .tup #[@9],@11,@12,.cmp .eq (.call 57 #[@0,↑2]) ↑0]))],[]⟩
noncomputable def d61:Af:=⟨["_law_cell_here","_law_many"],["_law_cell_here","_law_many","_law_words_here","_law_shift","_law_found","_law_k","_law_number"],
 #[.set 2 (.call 58 #[@0,↑4]),.set 3 (.bin .mod (.call 55 #[@0,↑899]) ↑12),.set 4 (.lstL .nil),.for_ (.nm 5) (.rng1 @1) #[.set 6 (.bin .add (.bin .mul ↑8 (.bin .mod (.bin .add (.bin .mul ↑5 @5) @3) ↑12)) (.bin .mod (.call 55 #[@0,.bin .add ↑900 @5]) ↑8)),.expr (.mmt .app @4 #[.tup #[.idx @2 (.bin .mod (.call 55 #[@0,.bin .add ↑930 @5]) ↑4),@6]])],.ret (.mov 4)],[]⟩
noncomputable def d62:Af:=⟨["_law_cell_here","_law_other"],["_law_cell_here","_law_other","_law_box_here","_law_many","_law_keys_here","_law_known","_law_k"],
 #[.set 2 (.call 56 #[@0]),.set 3 (.call 57 #[@2,↑6]),.ite (.cmp .eq (.call 57 #[@2,↑8]) ↑0) #[.set 3 (.bin .add ↑7 (.call 57 #[@2,↑6]))] .nil,.set 4 (.call 61 #[@1,@3]),.set 5 (.lstL .nil),.for_ (.nm 6) (.rng1 @3) #[.expr (.mmt .app @5 #[.call 60 #[@2,@4,@5]])],.ret (.mov 5)],[]⟩
noncomputable def d63:Af:=⟨["_law_box_here","_law_keys_here"],["_law_box_here","_law_keys_here","_law_found","_law_k","_law_key"],
 #[.set 2 (.lstL .nil),.for_ (.nm 3) (.rng1 (.idx (.lst #[↑0,↑1,↑1,↑2,↑2,↑2]) (.call 57 #[@0,↑6]))) #[.ite (.cmp .ne @1 (.lst .nil)) #[.set 4 (.idx @1 (.call 57 #[@0,.bfn .len #[@1]])),.ite (.cmp .notin @4 @2) #[.expr (.mmt .app @2 #[@4])] .nil] .nil],.ret (.bfn .tup #[@2])],[]⟩
noncomputable def d64:Af:=⟨["_law_cell_here","_law_names","_law_keys_here"],["_law_cell_here","_law_names","_law_keys_here","_law_box_here","_law_many","_law_rows","_law_k","_law_above","_law_beneath_here","_law_join"],
 #[.set 3 (.call 56 #[@0]),.set 4 (.bin .add ↑1 (.call 57 #[@3,↑8])),.ite (.cmp .eq (.call 57 #[@3,↑8]) ↑0) #[.set 4 (.bin .add ↑1 (.call 57 #[@3,↑30]))] .nil,.set 5 (.lstL #[.tup #[.idx @1 ↑0,.call 63 #[@3,@2],.una .neg ↑1,.con (.str ""),↑1]]),.for_ (.nm 6) (.rng2 ↑1 @4) #[.set 7 (.call 57 #[@3,.bfn .len #[@5]]),.set 8 (.bfn .len #[.comp ["_law_row"] ["_law_above"] [7] (.nm 0) (.of @5) #[.cmp .eq (.idx @0 ↑2) @1] @0]),.ite (.and #[.cmp .lt @8 ↑6,.cmp .lt (.idx (.idx @5 @7) ↑4) ↑6]) #[.set 9 (.idx (.lst #[.con (.str "called"),.con (.str "beside"),.con (.str "joined"),.con (.str "changed")]) (.idx (.lst #[↑0,↑1,↑2,↑3,↑3,↑2]) (.call 57 #[@3,↑6]))),.expr (.mmt .app @5 #[.tup #[.idx @1 @6,.call 63 #[@3,@2],@7,@9,.bin .add (.idx (.idx @5 @7) ↑4) ↑1]])] .nil],.ret (.mov 5)],[]⟩
noncomputable def d65:Af:=⟨["_law_rows","_law_at"],["_law_rows","_law_at","_law_beneath_here","_law_k","_law_row"],
 #[.set 2 (.lstL .nil),.for_ (.tup [3,4]) (.enu @0) #[.ite (.cmp .eq (.idx @4 ↑2) @1) #[.expr (.mmt .app @2 #[.tup #[.idx @4 ↑3,.call 65 #[@0,@3]]])] .nil],.ret (.tup #[.idx (.idx @0 @1) ↑0,.idx (.idx @0 @1) ↑1,.bfn .tup #[@2]])],[]⟩
noncomputable def d66:Af:=⟨["_law_row"],["_law_row"],
 #[.ret (.make 14 #[.idx @0 ↑0,.idx @0 ↑1,.idx @0 ↑2,.idx @0 ↑3,.idx @0 ↑4,.idx @0 ↑5,.idx @0 ↑6,.idx @0 ↑7,.idx @0 ↑8,.idx @0 ↑9])],[]⟩
noncomputable def d67:Af:=⟨["_law_told"],["_law_told"],
 #[.ret (.make 20 #[.idx @0 ↑0,.idx @0 ↑1,.comp ["_law_join","_law_one"] [] [] (.tup [0,1]) (.of (.idx @0 ↑2)) .nil (.tup #[@0,.call 67 #[@1]])])],[]⟩
noncomputable def d68:Af:=⟨["_law_script"],["_law_script","_law_cell_here"],
 #[.set 1 (.call 54 #[@0,↑1]),.ret (.comp ["_law_k"] ["_law_cell_here"] [1] (.nm 0) (.rng1 ↑2) .nil (.idx (.lst #[↑6,.bin .mod (.call 55 #[@1,.bin .add ↑71 (.bin .mul ↑3 @0)]) ↑7]) (.bin .mod (.call 55 #[@1,.bin .add ↑70 (.bin .mul ↑3 @0)]) ↑2)))],[]⟩
noncomputable def d69:Af:=⟨["_law_rows","_law_counts_here"],["_law_rows","_law_counts_here","_law_laid","_law_asked","_law_found","_law_row","_law_asks"],
 #[.set 2 (.bin .sub (.bin .shl ↑1 (.idx @1 ↑0)) ↑1),.set 3 (.bin .sub (.bin .shl ↑1 (.idx @1 ↑1)) ↑1),.set 4 (.lstL .nil),.for_ (.nm 5) (.of @0) #[.set 6 (.bfn .tup #[.comp ["_law_mask"] ["_law_asked"] [3] (.nm 0) (.of (.idx @5 ↑6)) .nil (.bin .and @0 @1)]),.expr (.mmt .app @4 #[.bin .add (.tup #[.idx @5 ↑0,.idx @5 ↑1,.bin .and (.idx @5 ↑2) @2,.bin .and (.idx @5 ↑3) @2,.idx @5 ↑4,.idx @5 ↑5,@6]) (.sli @5 (.ye ↑7) .no)])],.ret (.mov 4)],[]⟩
noncomputable def d70:Af:=⟨["_law_rows","_law_cell_here","_law_counts_here"],["_law_rows","_law_cell_here","_law_counts_here","_law_words_here"],
 #[.set 3 (.call 58 #[@1,↑12]),.ret (.make 21 #[.sli @3 .no (.ye (.idx @2 ↑0)),.sli @3 (.ye ↑6) (.ye (.bin .add ↑6 (.idx @2 ↑1))),.comp ["_law_row"] [] [] (.nm 0) (.of @0) .nil (.call 66 #[@0])])],[]⟩
noncomputable def d71:Af:=⟨["_law_shelf_here","_law_work","_law_key"],["_law_shelf_here","_law_work","_law_key","_law_found","_law_name","_law_faults","_law_good"],
 #[.set 3 (.dicL false),.for_ (.nm 4) (.of (.meth 19 @1 .nil)) #[.set 5 (.call 41 #[@0,@1,@4,@2]),.setC 6 (.comp ["_law_offer","_law_fault"] [] [] (.tup [0,1]) (.of @5) #[.cmp .is_ @1 (.con .non)] @0),.ite (.cmp .ne @5 (.lst .nil)) #[.setD @3 @4 (.idx (.bin .add @6 (.lst #[.idx (.idx @5 ↑0) ↑0])) ↑0)] .nil],.ret (.mov 3)],[]⟩
noncomputable def d72:Af:=⟨["_law_found","_law_due"],["_law_found","_law_due"],
 #[.ret (.and #[.bfn .isi #[@0,.bty "bool" .bl],.cmp .eq @0 @1])],[]⟩
noncomputable def d73:Af:=⟨["_law_shelf_here","_law_work","_law_told","_law_least"],["_law_shelf_here","_law_work","_law_told","_law_least","_law_key","_law_choice","_law_other","_law_beneath_here","_law_above"],
 #[.for_ (.nm 4) (.of (.meth 13 @0 .nil)) #[.set 5 (.call 71 #[@0,@1,@4]),.ite (.not (.call 72 #[.call 48 #[@0,@1,@4,@5],.cmp .in_ @4 @2])) #[.ret (.con (.bl false))] .nil,.for_ (.nm 6) (.of (.meth 20 @0 #[@4])) #[.ite (.and #[.cmp .in_ @4 @2,.cmp .notin @6 @2]) #[.ret (.con (.bl false))] .nil,.ite (.and #[.cmp .in_ @4 @2,.not (.call 48 #[@0,@1,@6,@5])]) #[.ret (.con (.bl false))] .nil]],.for_ (.nm 4) (.of @2) #[.setC 7 (.comp ["_law_other"] ["_law_key","_law_shelf_here"] [4,0] (.nm 0) (.of @2) #[.cmp .in_ @1 (.meth 20 @2 #[@0])] @0),.ite (.cmp .eq (.comp ["_law_other"] ["_law_least"] [3] (.nm 0) (.of @7) #[.cmp .in_ @0 @1] @0) (.lst .nil)) #[.ret (.con (.bl false))] .nil,.setC 8 (.comp ["_law_other"] ["_law_shelf_here","_law_key"] [0,4] (.nm 0) (.of @7) #[.cmp .notin @0 (.meth 20 @1 #[@2])] @0),.ite (.not (.call 72 #[.cmp .in_ @4 @3,.cmp .eq @8 (.lst .nil)])) #[.ret (.con (.bl false))] .nil],.ret (.con (.bl true))],[]⟩
noncomputable def d74:Af:=⟨["_law_rows","_law_at"],["_law_rows","_law_at","_law_found","_law_k","_law_row"],
 #[.set 2 (.lstL #[.idx (.idx @0 @1) ↑0]),.for_ (.tup [3,4]) (.enu @0) #[.ite (.cmp .eq (.idx @4 ↑2) @1) #[.expr (.mmt .ext @2 #[.call 74 #[@0,@3]])] .nil],.ret (.mov 2)],[]⟩
noncomputable def d75:Af:=⟨["_law_rows","_law_at"],["_law_rows","_law_at","_law_gone","_law_left","_law_names","_law_found","_law_row","_law_above"],
 #[.set 2 (.call 74 #[@0,@1]),.setC 3 (.comp ["_law_row"] ["_law_gone"] [2] (.nm 0) (.of @0) #[.cmp .notin (.idx @0 ↑0) @1] @0),.setC 4 (.comp ["_law_row"] [] [] (.nm 0) (.of @3) .nil (.idx @0 ↑0)),.set 5 (.lstL .nil),.for_ (.nm 6) (.of @3) #[.set 7 (.una .neg ↑1),.ite (.cmp .ge (.idx @6 ↑2) ↑0) #[.set 7 (.bmt .index @4 #[.idx (.idx @0 (.idx @6 ↑2)) ↑0])] .nil,.expr (.mmt .app @5 #[.tup #[.idx @6 ↑0,.idx @6 ↑1,@7,.idx @6 ↑3,.idx @6 ↑4]])],.ret (.mov 5)],[]⟩
noncomputable def d76:Af:=⟨["_law_box_here","_law_rows"],["_law_box_here","_law_rows","_law_at","_law_joins","_law_row","_law_join","_law_other"],
 #[.set 2 (.bin .add ↑1 (.call 57 #[@0,.bin .sub (.bfn .len #[@1]) ↑1])),.ite (.cmp .eq (.call 57 #[@0,↑2]) ↑0) #[.ret (.lst #[.call 75 #[@1,@2],@1,.call 74 #[@1,@2]])] .nil,.set 3 (.lst #[.con (.str "called"),.con (.str "beside"),.con (.str "joined"),.con (.str "changed")]),.set 4 (.idx @1 @2),.set 5 (.idx @3 (.call 57 #[@0,↑4])),.set 6 (.bin .add (.bin .add (.sli @1 .no (.ye @2)) (.lst #[.tup #[.idx @4 ↑0,.idx @4 ↑1,.idx @4 ↑2,@5,.idx @4 ↑4]])) (.sli @1 (.ye (.bin .add @2 ↑1)) .no)),.ite (.cmp .lt (.bmt .index @3 #[@5]) (.bmt .index @3 #[.idx @4 ↑3])) #[.ret (.lst #[@6,@1,.call 74 #[@1,@2]])] .nil,.ret (.lst #[@1,@6,.call 74 #[@1,@2]])],[]⟩
noncomputable def d77:Af:=⟨["_law_shelf_here","_law_fewer","_law_more","_law_blamed"],["_law_shelf_here","_law_fewer","_law_more","_law_blamed","_law_wide","_law_narrow_here","_law_key","_law_some"],
 #[.set 4 (.call 44 #[@0,@1]),.set 5 (.call 44 #[@0,@2]),.ite (.cmp .ne (.comp ["_law_key"] ["_law_wide"] [4] (.nm 0) (.of @5) #[.cmp .notin @0 @1] @0) (.lst .nil)) #[.ret (.con (.bl false))] .nil,.for_ (.nm 6) (.of @4) #[.setC 7 (.comp ["_law_name","_law_faults"] [] [] (.tup [0,1]) (.of (.call 43 #[@0,@2,@6])) .nil @0),.ite (.not (.call 72 #[.cmp .in_ @6 @5,.cmp .eq @7 (.lst .nil)])) #[.ret (.con (.bl false))] .nil,.ite (.cmp .ne (.comp ["_law_name"] ["_law_blamed"] [3] (.nm 0) (.of @7) #[.cmp .notin @0 @1] @0) (.lst .nil)) #[.ret (.con (.bl false))] .nil],.ret (.con (.bl true))],[]⟩
noncomputable def d78:Af:=⟨["_law_script"],["_law_script","_law_counts_here","_law_rows","_law_shelf_here","_law_tree_here","_law_work","_law_cell_here","_law_fewer","_law_more","_law_blamed","_law_one"],
 #[.set 1 (.call 68 #[@0]),.set 2 (.call 62 #[.call 54 #[@0,↑0],.call 54 #[@0,↑1]]),.ite (.cmp .eq @2 (.lst .nil)) #[.set 2 (.lst #[.tup #[.tup #[.con (.str "zz"),↑1],↑31,↑5,↑8,↑1,.con (.bl true),.tup #[↑0,↑0,↑1,↑3],↑0,↑9999,.con (.bl true)]])] .nil,.set 2 (.call 69 #[@2,@1]),.set 3 (.call 70 #[@2,.call 54 #[@0,↑1],@1]),.set 4 (.call 64 #[.call 54 #[@0,↑3],.call 58 #[.call 54 #[@0,↑2],↑30],.comp ["_law_row"] [] [] (.nm 0) (.of @2) .nil (.idx @0 ↑0)]),.set 5 (.call 67 #[.call 65 #[@4,↑0]]),.ite (.not (.call 73 #[@3,@5,.call 44 #[@3,@5],.call 46 #[@3,@5]])) #[.ret (.con (.bl false))] .nil,.for_ (.nm 6) (.of (.bin .add (.sli @0 (.ye ↑4) (.ye ↑10)) (.comp ["_law_k"] ["_law_script"] [0] (.nm 0) (.rng1 ↑2) .nil (.bin .add (.call 54 #[@1,↑3]) @0)))) #[.ite (.cmp .gt (.bfn .len #[@4]) ↑1) #[.setT (.lst [7,8,9]) (.call 76 #[.call 56 #[@6],@4]),.set 10 (.call 67 #[.call 65 #[@7,↑0]]),.ite (.not (.call 77 #[@3,@10,.call 67 #[.call 65 #[@8,↑0]],@9])) #[.ret (.con (.bl false))] .nil] .nil],.ret (.con (.bl true))],[]⟩
noncomputable def d79:Af:=⟨["self","lets","strings","bars","reach"],["self","lets","strings","bars","reach"],
 #[.ite (.not (.call 10 #[@1,@2,@3,@4])) #[.raise 6 0 (.tup #[@1,@2,@3,@4])] .nil,.setF @0 3 @1,.setF @0 15 @2,.setF @0 16 @3,.setF @0 4 @4],[]⟩
noncomputable def d80:Af:=⟨["self","other"],["self","other","deed","string","bar"],
 #[.set 2 (.call 9 #[.fld @0 3,.fld @1 3]),.ite (.cmp .isnot @2 (.con .non)) #[.ret (.tup #[.con (.str "lets"),@2])] .nil,.set 3 (.call 9 #[.fld @1 15,.fld @0 15]),.ite (.cmp .isnot @3 (.con .non)) #[.ret (.tup #[.con (.str "string"),@3])] .nil,.set 4 (.call 9 #[.fld @1 16,.fld @0 16]),.ite (.cmp .isnot @4 (.con .non)) #[.ret (.tup #[.con (.str "bar"),@4])] .nil,.ite (.cmp .gt (.fld @0 4) (.fld @1 4)) #[.ret (.tup #[.con (.str "reach"),.fld @0 4])] .nil,.ite (.and #[.meth 21 @1 .nil,.not (.meth 22 @0 #[@1])]) #[.ret (.tup #[.con (.str "same")])] .nil,.ret (.con .non)],[]⟩
noncomputable def d81:Af:=⟨["self","other"],["self","other"],
 #[.ret (.cmp .is_ (.meth 5 @0 #[@1]) (.con .non))],[]⟩
noncomputable def d82:Af:=⟨["self"],["self"],
 #[.ret (.con (.bl false))],[]⟩
noncomputable def d83:Af:=⟨["self","other"],["self","other"],
 #[.ret (.con (.bl false))],[]⟩
noncomputable def d84:Af:=⟨["self"],["self"],
 #[.ret (.tup #[.fld @0 3,.fld @0 15,.fld @0 16,.fld @0 4])],[]⟩
noncomputable def d85:Af:=⟨["self","key","lets","strings","bars","reach","same","asks","first","last","lasting"],["self","key","lets","strings","bars","reach","same","asks","first","last","lasting","four_asks"],
 #[.ite (.not (.call 3 #[@1])) #[.raise 2 0 @1] .nil,.expr (.cfn 13 23 #[@0,@2,@3,@4,@5]),.expr (.call 12 #[@6]),.set 11 (.call 14 #[@7]),.expr (.call 13 #[@8,@9]),.expr (.call 12 #[@10]),.setF @0 17 @1,.setF @0 24 @6,.setF @0 18 @11,.setF @0 25 @8,.setF @0 26 @9,.setF @0 27 @10],[]⟩
noncomputable def d86:Af:=⟨["self"],["self"],
 #[.ret (.fld @0 24)],[]⟩
noncomputable def d87:Af:=⟨["self","other"],["self","other"],
 #[.ret (.and #[.fld @0 24,.cmp .eq (.idx (.fld @0 17) ↑0) (.idx (.fld @1 17) ↑0),.cmp .ge (.idx (.fld @0 17) ↑1) (.idx (.fld @1 17) ↑1)])],[]⟩
noncomputable def d88:Af:=⟨["self"],["self"],
 #[.ret (.tup #[.fld @0 17,.fld @0 3,.fld @0 15,.fld @0 16,.fld @0 4,.fld @0 24,.fld @0 18,.fld @0 25,.fld @0 26,.fld @0 27])],[]⟩
noncomputable def d89:Af:=⟨["self"],["self"],
 #[.expr (.call 0 #[↑0])],[]⟩
noncomputable def d90:Af:=⟨["self"],["self"],
 #[.ret (.con (.str "called"))],[]⟩
noncomputable def d91:Af:=⟨["self"],["self"],
 #[.ret ↑0],[]⟩
noncomputable def d92:Af:=⟨["self"],["self"],
 #[.ret (.con (.str "beside"))],[]⟩
noncomputable def d93:Af:=⟨["self"],["self"],
 #[.ret ↑1],[]⟩
noncomputable def d94:Af:=⟨["self"],["self"],
 #[.ret (.con (.str "joined"))],[]⟩
noncomputable def d95:Af:=⟨["self"],["self"],
 #[.ret ↑2],[]⟩
noncomputable def d96:Af:=⟨["self"],["self"],
 #[.ret (.con (.str "changed"))],[]⟩
noncomputable def d97:Af:=⟨["self"],["self"],
 #[.ret ↑3],[]⟩
noncomputable def d98:Af:=⟨["self","name","offers","beneath"],["self","name","offers","beneath"],
 #[.ite (.not (.call 2 #[@1])) #[.raise 1 0 @1] .nil,.setF @0 8 @1,.setF @0 9 (.call 24 #[@2]),.setF @0 7 (.call 29 #[@3]),.expr (.call 32 #[.mov 0])],[]⟩
noncomputable def d99:Af:=⟨["self"],["self"],
 #[.ret (.comp ["road","part"] [] [] (.tup [0,1]) (.of (.call 30 #[@0])) .nil (.fld @1 8))],[]⟩
noncomputable def d100:Af:=⟨["self","name"],["self","name"],
 #[.ret (.idx (.call 34 #[@0,@1]) ↑1)],[]⟩
noncomputable def d101:Af:=⟨["self","name"],["self","name"],
 #[.ret (.idx (.call 34 #[@0,@1]) ↑0)],[]⟩
noncomputable def d102:Af:=⟨["self","name"],["self","name"],
 #[.ret (.call 35 #[.meth 28 @0 #[@1]])],[]⟩
noncomputable def d103:Af:=⟨["self"],["self"],
 #[.ret (.tup #[.fld @0 8,.fld @0 9,.bfn .tup #[.comp ["word","part"] [] [] (.tup [0,1]) (.of (.fld @0 7)) .nil (.tup #[@0,.meth 29 @1 .nil])]])],[]⟩
noncomputable def d104:Af:=⟨["self","strings","duties","licences"],["self","strings","duties","licences"],
 #[.setF @0 15 (.call 50 #[@1]),.setF @0 30 (.call 51 #[@2]),.setF @0 31 (.call 53 #[@3,.fld @0 15,.fld @0 30])],[]⟩
noncomputable def d105:Af:=⟨["self"],["self"],
 #[.expr (.call 0 #[↑1])],[]⟩
noncomputable def d106:Af:=⟨["self"],["self"],
 #[.expr (.call 0 #[↑2])],[]⟩
noncomputable def d107:Af:=⟨["self"],["self"],
 #[.ret (.bfn .lst #[.fld @0 31])],[]⟩
noncomputable def d108:Af:=⟨["self","key"],["self","key"],
 #[.ite (.or #[.not (.call 3 #[@1]),.cmp .notin @1 (.fld @0 31)]) #[.raise 2 0 @1] .nil,.ret (.idx (.fld @0 31) @1)],[]⟩
noncomputable def d109:Af:=⟨["self","key"],["self","key","covered"],
 #[.set 2 (.meth 10 @0 #[@1]),.ret (.comp ["other"] ["self","covered"] [0,2] (.nm 0) (.of (.fld @0 31)) #[.meth 14 (.idx (.fld @1 31) @0) #[@2]] @0)],[]⟩
noncomputable def T:Tb where
 cs:=[⟨"GrantError",true,[],[0],none,[]⟩,⟨"NoWord",true,[0],[0,1],none,[]⟩,⟨"NoKey",true,[0],[0,2],none,[]⟩,⟨"NoJoin",true,[0],[0,3],none,[]⟩,⟨"NoPart",true,[0],[0,4],none,[]⟩,⟨"NoDay",true,[0],[0,5],none,[]⟩,⟨"BadTerms",true,[0],[0,6],none,[]⟩,⟨"BadAsks",true,[0],[0,7],none,[]⟩,⟨"BadOffers",true,[0],[0,8],none,[]⟩,⟨"BadBeneath",true,[0],[0,9],none,[]⟩,⟨"Doubled",true,[8],[0,10],none,[]⟩,⟨"TooMany",true,[6],[0,11],none,[]⟩,⟨"TooDeep",true,[6],[0,12],none,[]⟩,⟨"Terms",false,[3,15,16,4],[13],some 79,[(5,80),(14,81),(21,82),(22,83),(29,84)]⟩,⟨"Licence",false,[17,24,18,25,26,27,3,15,16,4],[13,14],some 85,[(21,86),(22,87),(29,88),(5,80),(14,81)]⟩,⟨"Join",false,[],[15],none,[(32,89)]⟩,⟨"Called",false,[],[15,16],none,[(1,90),(2,91),(32,89)]⟩,⟨"Beside",false,[],[15,17],none,[(1,92),(2,93),(32,89)]⟩,⟨"Joined",false,[],[15,18],none,[(1,94),(2,95),(32,89)]⟩,⟨"Changed",false,[],[15,19],none,[(1,96),(2,97),(32,89)]⟩,⟨"Part",false,[8,9,7],[20],some 98,[(19,99),(11,100),(28,101),(12,102),(29,103)]⟩,⟨"Book",false,[15,30,31],[21],some 104,[(33,105),(34,106),(13,107),(10,108),(20,109)]⟩]
 names:=[s "found",s "word",s "closeness",s "lets",s "reach",s "fault",s "many",s "beneath",s "name",s "offers",s "licence",s "at",s "closeness_of",s "all_keys",s "covers",s "strings",s "bars",s "key",s "asks",s "all_names",s "coverers",s "wants_same",s "is_later",s "__init__",s "same",s "first",s "last",s "lasting",s "road",s "told",s "duties",s "by_key",s "need",s "string_names",s "duty_names"]
 glo:=[("LETTERS",(.str "abcdefghijklmnopqrstuvwxyz")),("LONGEST_WORD",(.int 8)),("GREATEST_NUMBER",(.int 99)),("LAST_DAY",(.int 9999)),("DEED_BITS",(.int 5)),("STRING_BITS",(.int 6)),("DUTY_BITS",(.int 6)),("GREATEST_REACH",(.int 3)),("JOIN_COUNT",(.int 4)),("MOST_OFFERS",(.int 2)),("MOST_BENEATH",(.int 6)),("MOST_PARTS",(.int 30)),("MOST_DEEP",(.int 6)),("MOST_LICENCES",(.int 12))]
 blt:=[s "all",s "bool",s "dict",s "enumerate",s "int",s "isinstance",s "len",s "list",s "max",s "min",s "range",s "set",s "str",s "tuple",s "zip"]
 cfl:=[((13,23),79)]
 fns:=[s "_wall",s "is_whole",s "is_word",s "is_key",s "is_day",s "is_mask",s "bits_of",s "least_bit",s "mask_of",s "least_beyond",s "are_terms",s "are_asks",s "need_truth",s "need_span",s "kept_asks",s "needed_deeds",s "all_joins",s "join_of",s "loosest",s "deed_fault",s "binds",s "fit_fault",s "fits",s "are_offers",s "kept_offers",s "need_few_beneath",s "need_few_parts",s "need_not_deep",s "is_joined_part",s "kept_beneath",s "walked",s "depth_of",s "need_bounds",s "has_offer",s "row_of",s "closeness_along",s "offered_parts",s "need_known",s "need_key",s "part_faults",s "all_at_fault",s "faults_at",s "stopping_rows",s "stops",s "told_keys",s "is_least",s "least_told",s "is_fitting_offer",s "choice_fits",s "kept_names",s "kept_strings",s "kept_duties",s "need_named",s "kept_licences",s "_law_cell",s "_law_mixed",s "_law_box",s "_law_take",s "_law_words",s "_law_within",s "_law_licence",s "_law_keys",s "_law_book",s "_law_offers",s "_law_tree",s "_law_nested",s "_law_made",s "_law_part",s "_law_counts",s "_law_narrow",s "_law_shelf",s "_law_first_choice",s "_law_is",s "_law_alone",s "_law_beneath",s "_law_without",s "_law_changed",s "_law_compared",s "law"]
 mths:=[(13,23),(13,5),(13,14),(13,21),(13,22),(13,29),(14,23),(14,21),(14,22),(14,29),(15,32),(16,1),(16,2),(17,1),(17,2),(18,1),(18,2),(19,1),(19,2),(20,23),(20,19),(20,11),(20,28),(20,12),(20,29),(21,23),(21,33),(21,34),(21,13),(21,10),(21,20)]
 ds:=[d0,d1,d2,d3,d4,d5,d6,d7,d8,d9,d10,d11,d12,d13,d14,d15,d16,d17,d18,d19,d20,d21,d22,d23,d24,d25,d26,d27,d28,d29,d30,d31,d32,d33,d34,d35,d36,d37,d38,d39,d40,d41,d42,d43,d44,d45,d46,d47,d48,d49,d50,d51,d52,d53,d54,d55,d56,d57,d58,d59,d60,d61,d62,d63,d64,d65,d66,d67,d68,d69,d70,d71,d72,d73,d74,d75,d76,d77,d78,d79,d80,d81,d82,d83,d84,d85,d86,d87,d88,d89,d90,d91,d92,d93,d94,d95,d96,d97,d98,d99,d100,d101,d102,d103,d104,d105,d106,d107,d108,d109]
 lds:=[([s "book",s "other"],[s "part",s "closeness"],(.call 39 #[@0,@2,@3,@1]))]
end
noncomputable abbrev Ph(n:Nat):Fs:=EM T.gt T.all n
noncomputable def BF(c k:Int):Int:=
 let a:=(c%2147483629*48271+7919*k+101)%2147483647
 let b:=(a*a+104729*k+7)%2147483629
 b*b%2147483587
def EO{n:Nat}{c k:Int}:Ph (n+1) 55 [.v (.int c),.v (.int k)] h=.ok (.v (.int (BF c k))) h:=by
 refine Ae (d:=d55) rfl rfl ?_;simp[d55,Ab];rfl
end BK45
namespace B
open PySem L2 PySem.SeqAt
section
variable {n:Nat}
@[simp]def qb:ex cs Φ ini cf (.wh n e ss) μ h=C0 (e2 cs Φ ini cf e).2 (exs cs Φ ini cf ss) n μ h:=rfl
noncomputable def ja(b:Mm)(fs:En->MH->AI (List R))(μ:En)(h1:MH)(x:R):AI R:=if (match x with| .r n=>W2 h1[n]? |_=>false)=true then(fs μ h1).bind λrs h2=>match x with
 |.r n=>match h2[n]?,vals rs with
  |some (.lst l),some as=>(match T6 b l as with
   |some l'=>.ok (.v .non) (h2.set n (.lst l'))
   |none=>.no)
  |_,_=>.no
 |_=>.no
 else .no
@[simp]def kC:(e2 cs Φ ini cf (.mmt b o es)).1 μ h=((e2 cs Φ ini cf o).1 μ h).bK λx h1=>ja b (DA cs Φ ini cf es) μ h1 x:=rfl
@[simp]def om{n:Nat}:ja b fs μ h (.r n)=if W2 (hat h n)=true then(fs μ h).bK λrs h2=>jS b n h2 (hat h2 n) (vals rs) else .no:=rfl
@[simp]def rA:W2 (some (.lst l))=true:=rfl
@[simp]def qW:T6 .app l [m]=if l.length<big then some (l++ [m]) else none:=rfl
@[simp]def qV:T6 .ext l [.lst z]=if l.length+z.length<=big then some (l++z) else none:=rfl
@[simp]def lS{i j:Int}:AJ .eq (.int i) (.int j)=some (decide (i=j)):=by simp[AJ,RZ,FF,Mj]
@[simp]def lR{i j:Int}:AJ .ne (.int i) (.int j)=some (!decide (i=j)):=by simp[AJ,RZ,FF,Mj]
noncomputable def Wn(cs:List Ci)(f:Nat)(μ:En)(n:Nat)(h:MH)(m:MV):Option MO->SR
 |some (.ins c ns ms)=>(cs[c]?).bind λi=>if i.exc=false/\f∈i.flds/\ns.length<1000 then some (.nx μ,AQ h n (.ins c (C4 f m ns ms).1 (C4 f m ns ms).2)) else none
 |_=>none
noncomputable def Wm(cs:List Ci)(f:Nat)(μ:En)(x o:R)(h2:MH):SR:=match x,o with
 |.v m,.r n=>(match h2[n]? with
  |some (.ins c ns ms)=>(cs[c]?).bind λi=>if i.exc=false/\f∈i.flds/\ns.length<1000 then some (.nx μ,h2.set n (.ins c (C4 f m ns ms).1 (C4 f m ns ms).2)) else none
  |_=>none)
 |_,_=>none
@[simp]def lf{f m':Nat}{c:Nat}:Wn cs f μ m' h m (some (.ins c ns ms))=(cs[c]?).bind λi=>if i.exc=false/\f∈i.flds/\ns.length<1000 then some (.nx μ,AQ h m' (.ins c (C4 f m ns ms).1 (C4 f m ns ms).2)) else none:=rfl
@[simp]def lb{f n:Nat}:Wm cs f μ (.v m) (.r n) h=Wn cs f μ n h m (hat h n):=rfl
@[simp]def k7{f:Nat}:ex cs Φ ini cf (.setF o f e) μ h=DY μ (x:=(e2 cs Φ ini cf e).1 μ h) λx h1=>DY μ (x:=(e2 cs Φ ini cf o).1 μ h1) λo h2=>Wm cs f μ x o h2:=rfl
def WT{c m f:Nat}(hi:cf c m=some f):(e2 cs Φ ini cf (.cfn c m es)).1 μ h=(DA cs Φ ini cf es μ h).bK λrs h1=>Φ f rs h1:=by
 show(match cf c m with|some f=>(λμ h=>(DA cs Φ ini cf es μ h).bind λrs h1=>Φ f rs h1:Ef)|none=>λ_ _=>AI.no) μ h=_;rw[hi];rfl
end
def An:(e2 cs Φ ini cf (.comp xs ys js tg it c e)).1 μ h=BZ xs.length js tg (SJ cs Φ ini cf it) (OE cs Φ ini cf c) (e2 cs Φ ini cf e).1 μ h:=rfl
def F6{k:Nat}(g:MV->MV)(htc:∀μ h,tc μ h=.ok true h)(hi:fi μ h=.ok ⟨l,none⟩ h1)(hl:l.length<=big)(st:∀m∈l,∃μ1,AX tg m (startC k js μ)=some μ1/\te μ1 h1=.ok (.v (g m)) h1):BZ k js tg fi tc te μ h=.ok (.v (.lst (l.map g))) h1:=by
 unfold BZ;rw[hi,AS];show(if l.length<=big then(compLoop none l tg (startC k js μ) tc te l [] h1).bind λl h2=>AI.ok (R.v (.lst l)) h2 else .no)=_;rw[if_pos hl,LA g htc st];rfl
def LL:∀l:List MV,Lc [.lst (l.map λ_=>.bl true)]=some (.bl true):=by
 intro l;show(Dj (l.map λ_=>.bl true)).map _=_;have:∀l:List MV,∃bs:List Bool,Dj (l.map λ_=>MV.bl true)=some bs/\bs.all id=true:=by
  intro l
  induction l with
  |nil=>exact⟨[],rfl,rfl⟩
  |cons a l ih=>
   obtain⟨bs,h1,h2⟩:=ih;exact⟨true::bs,by show(Dj (l.map λ_=>MV.bl true)).map _=_;rw[h1];rfl,by simpa using h2⟩
 obtain⟨bs,h1,h2⟩:=this l;rw[h1];simp[h2]
theorem Wb(P:Nat->En->MH->Prop)(st:∀k μ h,P (k+1) μ h->∃μ2 h2,c μ h=.ok true h/\b μ h=some (.nx μ2,h2)/\P k μ2 h2)(en:∀μ h,P 0 μ h->c μ h=.ok false h):∀{n k:Nat}{μ:En}{h:MH},k<n->P k μ h->∃μ' h',C0 c b n μ h=some (.nx μ',h')/\P 0 μ' h'
 |0,k,μ,h,hk,p=>by lia
 |n+1,0,μ,h,hk,p=>⟨μ,h,by simp only[C0,en μ h p,RI];rfl,p⟩
 |n+1,k+1,μ,h,hk,p=>by
  obtain⟨μ2,h2,e1,e2,p2⟩:=st k μ h p;obtain⟨μ',h',e,q⟩:=Wb P st en (n:=n) (k:=k) (by lia) p2;refine⟨μ',h',?_,q⟩;rw[←e];simp only[C0,e1,RI,if_true,e2]
end B
namespace BK45
open PySem B
noncomputable def bl:Nat->Int->Int->List MV
 |0,_,_=>[]
 |f+1,r,p=>if r<=0 then [] else(if r%2=1 then [.int p] else [])++bl f (r / 2) (p+1)
def UH{n k:Nat}{m:Int}(h0:0<=m)(hk:m<2^k)(h1:k=0\/2^(k-1)<=m)(h2:k<=64):Ph (n+1) 6 [.v (.int m)] h=.ok (.v (.lst (bl 64 m 0))) h:=by
 refine Ae (d:=d6) rfl rfl ?_;have W:=Wb (c:=(e2 T.gt.cs (EM T.gt T.all n) T.gt.ini T.gt.cf (.cmp .gt (.var 3) (.con (.int 0)))).2) (b:=exs T.gt.cs (EM T.gt T.all n) T.gt.ini T.gt.cf (.cons (.ite (.cmp .eq (.bin .mod (.var 3) (.con (.int 2))) (.con (.int 1))) (.cons (.expr (.mmt .app (.var 1) (.cons (.var 2) .nil))) .nil) .nil) (.cons (.set 3 (.bin .fdiv (.var 3) (.con (.int 2)))) (.cons (.set 2 (.bin .add (.var 2) (.con (.int 1)))) .nil))))
  (λk μ h'=>∃p r acc f,μ=[some (.v (.int m)),some (.r (hlen h)),some (.v (.int p)),some (.v (.int r))]/\h'=hnew h (.lst acc)/\0<=r/\r<2^k/\(k=0\/2^(k-1)<=r)/\acc++bl f r p=bl 64 m 0/\k<=f/\acc.length+k<=64)
  (λk μ h' hp=>?_) (λμ h' hp=>?_) (n:=70) (k:=k) (μ:=[some (.v (.int m)),some (.r (hlen h)),some (.v (.int 0)),some (.v (.int m))]) (h:=hnew h (.lst [])) (by lia) ⟨0,m,[],64,rfl,rfl,h0,hk,h1,rfl,h2,by simpa using h2⟩
 ·obtain⟨μ',h',e,p,r,acc,f,rfl,rfl,a1,a2,a3,a4,a5,a6⟩:=W;have hr:r=0:=by simp at a2;lia
  subst hr;have:bl f 0 p=[]:=by cases f<;>simp[bl]
  rw[this,cT]at a4;simp[d6,Ab,e];exact a4
 ·obtain⟨p,r,acc,f,rfl,rfl,a1,a2,a3,a4,a5,a6⟩:=hp;have a3:2^k<=r:=by simpa using a3
  have hpos:(0:Int)<2^k:=Int.pow_pos (by decide);have hr:0<r:=by lia
  obtain⟨f,rfl⟩:∃g,f=g+1:=⟨f-1,by lia⟩;have e2k:(2:Int)^(k+1)=2*2^k:=by rw[Int.pow_succ];lia
  have e3:bl (f+1) r p=(if r%2=1 then [.int p] else [])++bl f (r / 2) (p+1):=by simp only[bl];rw[if_neg (by lia)]
  rw[e3]at a4;have b1:0<=r / 2:=by lia
  have b2:r / 2<2^k:=by lia
  have b3:k=0\/(2:Int)^(k-1)<=r / 2:=by
   rcases k with _|k
   ·exact .inl rfl
   right
   have:(2:Int)^(k+1)=2*2^k:=by rw[Int.pow_succ];lia
   simp only[Nat.add_sub_cancel]
   lia
  have al:acc.length<big:=by unfold big;lia
  by_cases h1:r%2=1
  ·rw[if_pos h1,←dE]at a4;refine⟨_,_,by simp[hr],?_,p+1,r / 2,acc++ [.int p],f,rfl,rfl,b1,b2,b3,a4,by lia,by simp;lia⟩;simp[h1,al]
  rw[if_neg h1,fI]at a4;refine⟨_,_,by simp[hr],?_,p+1,r / 2,acc,f,rfl,rfl,b1,b2,b3,a4,by lia,by lia⟩;simp[h1]
 obtain⟨p,r,acc,f,rfl,rfl,a1,a2,a3,a4,a5,a6⟩:=hp;have hr:r=0:=by simp at a2;lia
 simp[hr]
def pG(m:Int)(h:0<=m)(hm:m<2^63):∃k:Nat,m<2^k/\(k=0\/(2:Int)^(k-1)<=m)/\k<=63:=by
 have key:∀j:Nat,j<=63->m<2^j->∃k:Nat,m<2^k/\(k=0\/(2:Int)^(k-1)<=m)/\k<=63:=by
  intro j
  induction j with
  |zero=>exact λ_ h=>⟨0,h,.inl rfl,by lia⟩
  |succ j ih=>
   intro hj h;by_cases h1:m<2^j
   ·exact ih (by lia) h1
   exact⟨j+1,h,.inr (by simp only[Nat.add_sub_cancel];lia),hj⟩
 exact key 63 (by lia) hm
def Rt{n:Nat}{m:Int}{h:MH}(h0:0<=m)(hk:m<2^63):Ph (n+1) 6 [.v (.int m)] h=.ok (.v (.lst (bl 64 m 0))) h:=by
 obtain⟨k,a,b,c⟩:=pG m h0 hk;exact UH h0 a b (by lia)
noncomputable def M6(m:Int):MV:=match bl 64 m 0 with
 |[]=>.non
 |x::_=>x
def Rc{n:Nat}{m:Int}(h0:0<=m)(hk:m<2^63):Ph (n+2) 7 [.v (.int m)] h=.ok (.v (M6 m)) h:=by
 refine Ae (d:=d7) rfl rfl ?_;have e:=@Rt n m h h0 hk;unfold M6;cases hb:bl 64 m 0 with
 |nil=>simp[d7,Ab,e,hb]
 |cons x l=>simp[d7,Ab,e,hb]
end BK45
namespace BK45
open PySem B L2
def EN{n:Nat}{i:Int}:Ph (n+1) 1 [.v (.int i)] h=.ok (.v (.bl true)) h:=(show Ph (n+1) 1 [.v (.int i)] h=.ok (.v (.bl true)) (h.take h.length) from rfl).trans (by rw[bO])
def Rr{n:Nat}{i:Int}(h0:0<=i)(h1:i<=9999):Ph (n+2) 4 [.v (.int i)] h=.ok (.v (.bl true)) h:=by
 refine Ae (d:=d4) rfl rfl ?_;simp[d4,Ab,EN,h0,h1]
def Pb{n:Nat}{a b:Int}(h0:0<=Builtin.bitAnd a (Builtin.bitNot b))(h1:Builtin.bitAnd a (Builtin.bitNot b)<2^63):Ph (n+3) 9 [.v (.int a),.v (.int b)] h=.ok (.v (M6 (Builtin.bitAnd a (Builtin.bitNot b)))) h:=by
 refine Ae (d:=d9) rfl rfl ?_;have e:∀i:Int,Ww .inv (.int i)=some (.int (Builtin.bitNot i)):=λ_=>rfl;simp[d9,Ab,e,Rc h0 h1]
def DM{n:Nat}{a k:Int}{h:MH}(h0:0<=a)(h1:(Builtin.Int.intBits a:Int)<=k):Ph (n+2) 5 [.v (.int a),.v (.int k)] h=.ok (.v (.bl true)) h:=by
 refine Ae (d:=d5) rfl rfl ?_;have e1:∀i:Int,VM .bits (.int i)=true:=λ_=>rfl;have e2:∀i:Int,Qj .bits (.int i) []=some (.int (Builtin.Int.intBits i)):=λ_=>rfl;simp[d5,Ab,EN,h0,e1,e2,h1]
def QV{n:Nat}{a b c r:Int}(a0:0<=a)(a1:(Builtin.Int.intBits a:Int)<=5)(b0:0<=b)(b1:(Builtin.Int.intBits b:Int)<=6)(c0:0<=c)(c1:(Builtin.Int.intBits c:Int)<=6)(bc:Builtin.bitAnd b c=0)(r0:0<=r)(r1:r<=3):Ph (n+3) 10 [.v (.int a),.v (.int b),.v (.int c),.v (.int r)] h=.ok (.v (.bl true)) h:=by
 refine Ae (d:=d10) rfl rfl ?_;simp[d10,Ab,EN,DM a0 a1,DM b0 b1,DM c0 c1,bc,r0,r1]
def QT{n:Nat}:Ph (n+1) 12 [.v (.bl b)] h=.ok (.v .non) h:=(show Ph (n+1) 12 [.v (.bl b)] h=.ok (.v .non) (h.take h.length) from rfl).trans (by rw[bO])
def U9{n:Nat}{a b:Int}(h0:0<=a)(h1:a<=9999)(h2:0<=b)(h3:b<=9999)(h4:a<=b):Ph (n+3) 13 [.v (.int a),.v (.int b)] h=.ok (.v .non) h:=by
 refine Ae (d:=d13) rfl rfl ?_;have h5:¬b<a:=by lia
 simp[d13,Ab,Rr h0 h1,Rr h2 h3,h5]
def QU{n q c:Nat}{a b d r:Int}{ns:List Nat}{ms:List MV}(hq:hat h q=some (.ins 14 [] []))(a0:0<=a)(a1:(Builtin.Int.intBits a:Int)<=5)(b0:0<=b)(b1:(Builtin.Int.intBits b:Int)<=6)(c0:0<=d)(c1:(Builtin.Int.intBits d:Int)<=6)(bc:Builtin.bitAnd b d=0)(r0:0<=r)(r1:r<=3):Ph (n+4) 79 [.r q,.v (.int a),.v (.int b),.v (.int d),.v (.int r)] h=.ok (.v .non) (AQ h q (.ins 14 [3,15,16,4] [.int a,.int b,.int d,.int r])):=by
 refine Ae (d:=d79) rfl rfl ?_;have hl:=MM hq;have e:T.gt.cs[14]?=some ⟨"Licence",false,[17,24,18,25,26,27,3,15,16,4],[13,14],some 85,[(21,86),(22,87),(29,88),(5,80),(14,81)]⟩:=rfl;simp[d79,Ab,QV a0 a1 b0 b1 c0 c1 bc r0 r1,hq,hl,e]
def BX(c:Nat):Prop:=97<=c/\c<=122
def AU(z:Str):Prop:=1<=z.length/\z.length<=8/\∀c∈z.cps.toList,BX c
def YZ:∀c:Fin 26,o7 ⟨#[97+c.val]⟩ (Str.ofString "abcdefghijklmnopqrstuvwxyz")=true:=by decide +kernel
def MK(c:Nat)(h:BX c):o7 ⟨#[c]⟩ (Str.ofString "abcdefghijklmnopqrstuvwxyz")=true:=by
 have:=YZ ⟨c-97,by have:=h.2;lia⟩
 rwa[show 97+(c-97)=c from Nat.add_sub_cancel' h.1]at this
def Jt{n:Nat}{z:Str}(hz:AU z):Ph (n+1) 2 [.v (.str z)] h=.ok (.v (.bl true)) h:=by
 refine Ae (d:=d2) rfl rfl ?_;obtain⟨h1,h2,h3⟩:=hz;have hb:z.length<=big:=by unfold big;lia
 have e1:M4 T.gt.cs [.str z,.ty .str]=some (.bl true):=rfl;have c1:(1:Int)<=z.length:=by lia
 have c2:(z.length:Int)<=8:=by lia
 have e2:BZ 1 [] (.nm 0) (SJ T.gt.cs (EM T.gt T.all n) T.gt.ini T.gt.cf (.of (.var 0))) (OE T.gt.cs (EM T.gt T.all n) T.gt.ini T.gt.cf .nil) (e2 T.gt.cs (EM T.gt T.all n) T.gt.ini T.gt.cf (.cmp .in_ (.var 0) (.glo (Str.ofString "LETTERS") (.str (Str.ofString "abcdefghijklmnopqrstuvwxyz"))))).1 [some (.v (.str z))] h=.ok (.v (.lst ((FW z).map λ_=>.bl true))) h:=by
  refine F6 (λ_=>.bl true) (λ_ _=>rfl) (by simp[FD]) (by simp[FW];exact hb) λm hm=>?_;obtain⟨c,hc,rfl⟩:=bB.mp hm;refine⟨_,rfl,?_⟩;simp[startC,AJ,Vc,MK c (h3 c hc)]
 simp[d2,Ab,e1,hb,c1,c2,An,e2,LL]
def Rj{n:Nat}{z:Str}{i:Int}(hz:AU z)(h0:0<=i)(h1:i<=99):Ph (n+2) 3 [.v (.tup [.str z,.int i])] h=.ok (.v (.bl true)) h:=by
 refine Ae (d:=d3) rfl rfl ?_;have e1:M4 T.gt.cs [.tup [.str z,.int i],.ty .tup]=some (.bl true):=rfl;simp[d3,Ab,e1,Jt hz,EN,h0,h1]
structure Li where
 w:Str
 i:Fin 100
 lets:Fin 32
 sgs:Fin 64
 bars:Fin 64
 reach:Fin 4
 same:Bool
 a0:Fin 64
 a1:Fin 64
 a2:Fin 64
 a3:Fin 64
 first:Nat
 last:Nat
 lasting:Bool
noncomputable abbrev iv{n:Nat}(k:Fin n):MV:=.int (k.val:Int)
noncomputable def o3(w:Str)(i:Nat):MV:=.tup [.str w,.int (i:Int)]
noncomputable def Li.key(l:Li):MV:=o3 l.w l.i.val
noncomputable def Li.asks(l:Li):MV:=.tup [iv l.a0,iv l.a1,iv l.a2,iv l.a3]
noncomputable def Li.mv(l:Li):MV:=.obj 14 [3,15,16,4,17,24,18,25,26,27] [iv l.lets,iv l.sgs,iv l.bars,iv l.reach,l.key,.bl l.same,l.asks,.int l.first,.int l.last,.bl l.lasting]
noncomputable def sub(a b:Nat):Bool:=decide (a &&& b=a)
noncomputable def Cj:MV->Bool
 |.non=>true
 |_=>false
noncomputable abbrev JW(a b:Nat):MV:=M6 (Builtin.bitAnd (a:Int) (Builtin.bitNot (b:Int)))
def Oz:∀a b:Fin 64,0<=Builtin.bitAnd (a.val:Int) (Builtin.bitNot (b.val:Int))/\Builtin.bitAnd (a.val:Int) (Builtin.bitNot (b.val:Int))<2^63:=by decide +kernel
def VO:∀a b:Fin 64,Cj (JW a.val b.val)=sub a.val b.val:=by decide +kernel
theorem Tl:∀f r p x,x∈bl f r p->∃k,x=.int k
 |0,r,p,x,h=>by simp[bl]at h
 |f+1,r,p,x,h=>by
  unfold bl at h;split at h
  ·simp at h
  rcases bT.mp h with h|h
  ·split at h
   ·exact⟨p,by simpa using h⟩
   simp at h
  exact Tl f _ _ x h
def I9(m:Int):M6 m=.non\/∃k,M6 m=.int k:=by
 unfold M6;cases hb:bl 64 m 0 with
 |nil=>exact .inl rfl
 |cons x l=>exact .inr (Tl 64 m 0 x (by rw[hb];exact aH))
def CK{a b:Nat}(ha:a<64)(hb:b<64):(JW a b=.non/\sub a b=true)\/∃k,JW a b=.int k/\sub a b=false:=by
 have h:=VO ⟨a,ha⟩ ⟨b,hb⟩;rcases I9 (Builtin.bitAnd (a:Int) (Builtin.bitNot (b:Int))) with e|⟨k,e⟩
 ·exact .inl ⟨e,by rw[←h];show Cj (JW a b)=true;unfold JW;rw[e];rfl⟩
 exact .inr ⟨k,e,by rw[←h];show Cj (JW a b)=false;unfold JW;rw[e];rfl⟩
def B7{n:Nat}{a b:Nat}(ha:a<64)(hb:b<64):Ph (n+3) 9 [.v (.int a),.v (.int b)] h=.ok (.v (JW a b)) h:=Pb (Oz ⟨a,ha⟩ ⟨b,hb⟩).1 (Oz ⟨a,ha⟩ ⟨b,hb⟩).2
noncomputable def FQ(a b:Li):Bool:=a.same&&(decide (a.w=b.w)&&decide (b.i.val<=a.i.val))
noncomputable def fM(a b:Li):MV:=
 if sub a.lets.val b.lets.val=false then .tup [.str "lets",JW a.lets.val b.lets.val] else
 if sub b.sgs.val a.sgs.val=false then .tup [.str "string",JW b.sgs.val a.sgs.val] else
 if sub b.bars.val a.bars.val=false then .tup [.str "bar",JW b.bars.val a.bars.val] else
 if b.reach.val<a.reach.val then .tup [.str "reach",iv a.reach] else
 if (b.same&& !FQ a b)=true then .tup [.str "same"] else .non
noncomputable def CN(a b:Li):Bool:=sub a.lets.val b.lets.val&&(sub b.sgs.val a.sgs.val&&(sub b.bars.val a.bars.val&&(decide (a.reach.val<=b.reach.val)&&(!b.same||FQ a b))))
def SI(a b:Li):Cj (fM a b)=CN a b:=by
 unfold fM CN;cases sub a.lets.val b.lets.val<;>cases sub b.sgs.val a.sgs.val<;>cases sub b.bars.val a.bars.val<;>simp[Cj]
 by_cases h:b.reach.val<a.reach.val
 ·have h2:¬a.reach.val<=b.reach.val:=by lia
  simp[h,h2]
 have h2:a.reach.val<=b.reach.val:=by lia
 cases hs:b.same<;>cases hl:FQ a b<;>simp[h,h2,Cj]
def pe:T.gt.cs[14]?=some ⟨"Licence",false,[17,24,18,25,26,27,3,15,16,4],[13,14],some 85,[(21,86),(22,87),(29,88),(5,80),(14,81)]⟩:=rfl
section
variable {l:Li}
@[simp]def lM:D5 T.gt.cs 3 l.mv=some (iv l.lets):=rfl
@[simp]def oR:D5 T.gt.cs 15 l.mv=some (iv l.sgs):=rfl
@[simp]def lN:D5 T.gt.cs 16 l.mv=some (iv l.bars):=rfl
@[simp]def j4:D5 T.gt.cs 4 l.mv=some (iv l.reach):=rfl
@[simp]def oS:D5 T.gt.cs 17 l.mv=some l.key:=rfl
@[simp]def lK:D5 T.gt.cs 24 l.mv=some (.bl l.same):=rfl
@[simp]def lO:D5 T.gt.cs 18 l.mv=some l.asks:=rfl
@[simp]def qM:meth T.gt.cs 21 l.mv=some 86:=rfl
@[simp]def qO:meth T.gt.cs 22 l.mv=some 87:=rfl
@[simp]def qP:meth T.gt.cs 5 l.mv=some 80:=rfl
@[simp]def qQ:meth T.gt.cs 14 l.mv=some 81:=rfl
end
end BK45
namespace B
open PySem L2 PySem.SeqAt
section
variable {i:Int}{z y:Str}
@[simp]def sR:AJ .is_ .non .non=some true:=rfl
@[simp]def sT:AJ .is_ (.int i) .non=some false:=rfl
@[simp]def sQ:AJ .is_ (.tup l) .non=some false:=rfl
@[simp]def sS:AJ .is_ (.lst l) .non=some false:=rfl
@[simp]def rz:AJ .isnot .non .non=some false:=rfl
@[simp]def r6:AJ .isnot (.int i) .non=some true:=rfl
@[simp]def sY:AJ .eq (.str z) (.str y)=some (decide (z=y)):=by simp[AJ,RZ,FF,Mj]
@[simp]def LN:Bz .add (.str z) (.str y)=if z.length+y.length<=big then some (.str (z++y)) else none:=rfl
@[simp]def Jb:Bz .add (.lst l) (.lst l')=if l.length+l'.length<=big then some (.lst (l++l')) else none:=rfl
@[simp]def sd:Bz .add (.tup l) (.tup l')=if l.length+l'.length<=big then some (.tup (l++l')) else none:=rfl
@[simp]def qJ:Ww .neg (.int i)=some (.int (-i)):=rfl
@[simp]def sj:FD h (.v a)=(C3 a).map λl=>⟨l,none⟩:=rfl
@[simp]def rM:SK (.v a)=(K3 a).map λl=>⟨DC l,none⟩:=rfl
end
noncomputable def Vo{α:Type}(k:Bool)(a b:α):α:=if k=true then a else b
def W1{α:Type}{k:Bool}{a b:α}{u:Fx a}{v:Fx b}:Ia a b u v k=Vo k a b:=rfl
@[simp]def o4{α:Type}{a b:α}:Vo true a b=a:=rfl
section
@[simp]def o8:Vo k (AI.ok (R.v (.bl b)) h) (.ok (.v (.bl false)) h)=.ok (.v (.bl (k&&b))) h:=by cases k<;>rfl
@[simp]def rD:Vo k (AI.ok (R.v (.bl true)) h) (.ok (.v (.bl b)) h)=.ok (.v (.bl (k||b))) h:=by cases k<;>rfl
end
@[simp]def IK:Fv (hnew h o) (hlen h+1)=hnew h o:=by rw[←B3 (o:=o)];exact EU
noncomputable def Q9(k:Sf)(u:Fx k:=.mk)(x:SR):SR:=match x with
 |some (.nx μ2,h2)=>k μ2 h2
 |some (.ct μ2,h2)=>k μ2 h2
 |some (.bk μ2,h2)=>some (.nx μ2,h2)
 |x=>x
section
@[simp]def GH:Q9 (x:=some (.nx μ,h)) k=k μ h:=rfl
@[simp]def Q8:Q9 (x:=some (.rt r,h)) k=some (.rt r,h):=rfl
noncomputable def jL(k:En->SR)(u:Fx k:=.mk)(x:Option En):SR:=match x with
 |some μ=>k μ
 |none=>none
@[simp]def JU{k:En->SR}:jL (x:=some μ) k=k μ:=rfl
def CI:AM none all t b (m::l) μ h=jL (x:=AX t m μ) λμ1=>Q9 (x:=b μ1 h) (AM none all t b l):=rfl
def Vy:AM none all t b [] μ h=some (.nx μ,h):=rfl
end
theorem Od(P:Nat->En->MH->Prop):∀{l all:List MV}{k i:Nat}{m:MV}{μ:En}{h:MH},P i μ h->l[k]?=some m->
 (∀(j:Nat) (m:MV) (μ:En) (h:MH),j<k->l[j]?=some m->P (i+j) μ h->∃μ1 μ2 h2,AX t m μ=some μ1/\b μ1 h=some (.nx μ2,h2)/\P (i+j+1) μ2 h2)->
 (∀μ h,P (i+k) μ h->∃μ1,AX t m μ=some μ1/\b μ1 h=some (.rt r,h2))->AM none all t b l μ h=some (.rt r,h2)
 |[],all,k,i,m,μ,h,p,e,_,_=>by simp at e
 |m'::l,all,0,i,m,μ,h,p,e,_,la=>by
  obtain⟨μ1,e1,e2⟩:=la μ h p;simp only[List.getElem?_cons_zero,Option.some.injEq]at e;subst e;rw[CI,e1,JU,e2,Q8]
 |m'::l,all,k+1,i,m,μ,h,p,e,st,la=>by
  obtain⟨μ1,μ2,h3,e1,e2,p2⟩:=st 0 m' μ h (by lia) rfl p;rw[CI,e1,JU,e2,GH];refine Od P (k:=k) (i:=i+1) p2 (by simpa using e) (λj m μ h hj hm hp=>?_) (λμ h hp=>la μ h (by rw[show i+(k+1)=i+1+k by lia];exact hp));have:=st (j+1) m μ h (by lia) (by simpa using hm) (by rw[show i+(j+1)=i+1+j by lia];exact hp)
  rwa[show i+(j+1)+1=i+1+j+1 by lia]at this
def SC(P:Nat->En->MH->Prop)(p0:P 0 μ h)(st:∀j m μ h,l[j]?=some m->P j μ h->∃μ1 μ2 h2,AX t m μ=some μ1/\b μ1 h=some (.nx μ2,h2)/\P (j+1) μ2 h2):∃μ' h',AM none l t b l μ h=some (.nx μ',h')/\P l.length μ' h':=by
 obtain⟨μ',h',e,p⟩:=Oe (t:=t) (b:=b) P (l:=l) (all:=l) (i:=0) p0 λj m μ h hj hp=>by
  rw[eP]at hp ⊢;exact st j m μ h hj hp
 exact⟨μ',h',e,by rwa[eP]at p⟩
def FC(s:SR)(H:MH)(E:En->Prop):Prop:=∃μ,s=some (.nx μ,H)/\E μ
@[simp]def lI:FC (some (.nx μ,h)) H E=(h=H/\E μ):=by
  apply propext;constructor
  ·rintro⟨μ',e,p⟩
   injection e with e
   injection e with e1 e2
   injection e1 with e1
   exact⟨e2,e1▸p⟩
  rintro⟨rfl,p⟩;exact⟨μ,rfl,p⟩
def Ho(a:FC s h E')(r:∀μ,E' μ->FC (k μ h) H E):FC (seqK (x:=s) k) H E:=by
 obtain⟨μ,rfl,p⟩:=a;exact r μ p
def Bl{n:Nat}(a:FC s h E)(r:∀μ,E μ->fin n (k μ h)=x):fin n (seqK (x:=s) k)=x:=by
 obtain⟨μ,rfl,p⟩:=a;exact r μ p
theorem DU{α:Type}{t:MT}{b:Sf}{h:MH}(g:α->MV)(F:α->List MV)(E:En->Prop)(B:Nat):∀{xs:List α}{all acc:List MV}{μ:En},E μ->(acc++xs.flatMap F).length<=B->
 (∀x∈xs,∀μ acc,E μ->(acc++F x).length<=B->∃μ1,AX t (g x) μ=some μ1/\FC (b μ1 (hnew h (.lst acc))) (hnew h (.lst (acc++F x))) E)->FC (AM none all t b (xs.map g) μ (hnew h (.lst acc))) (hnew h (.lst (acc++xs.flatMap F))) E
 |[],all,acc,μ,p,hl,_=>⟨μ,by rw[List.flatMap_nil,cT];rfl,p⟩
 |x::xs,all,acc,μ,p,hl,st=>by
  rw[List.flatMap_cons,←dE]at hl;obtain⟨μ1,e1,μ2,e2,p2⟩:=st x aH μ acc p (by rw[aV]at hl;lia);obtain⟨μ',e,q⟩:=DU g F E B (xs:=xs) (all:=all) (acc:=acc++F x) p2 hl λy hy=>st y (aE _ hy);refine⟨μ',?_,q⟩;rw[aK,CI,e1,JU,e2,GH,e,List.flatMap_cons,dE]
theorem CZ{α:Type}{t:MT}{b:Sf}{h:MH}(g:α->MV)(E:Nat->En->Prop):∀{xs:List α}{all:List MV}{i:Nat}{μ:En},E i μ->
 (∀(j:Nat) (x:α) (μ:En),xs[j]?=some x->E (i+j) μ->∃μ1,AX t (g x) μ=some μ1/\FC (b μ1 h) h (E (i+j+1)))->FC (AM none all t b (xs.map g) μ h) h (E (i+xs.length))
 |[],all,i,μ,p,_=>⟨μ,rfl,p⟩
 |x::xs,all,i,μ,p,st=>by
  obtain⟨μ1,e1,μ2,e2,p2⟩:=st 0 x μ rfl p;obtain⟨μ',e,q⟩:=CZ g E (xs:=xs) (all:=all) (i:=i+1) p2 λj y μ hj hp=>by
   have:=st (j+1) y μ (by simpa using hj) (by rw[show i+(j+1)=i+1+j by lia];exact hp)
   rwa[show i+(j+1)+1=i+1+j+1 by lia]at this
  refine⟨μ',?_,by rw[cN,show i+(xs.length+1)=i+1+xs.length by lia];exact q⟩;rw[aK,CI,e1,JU,e2,GH,e]
end B
namespace BK45
open PySem B L2
def M9(k:Fin 32):k.val<64:=by lia
variable {n:Nat}{h:MH}{a b:Li}
def gq:Ph (n+1) 86 [.v a.mv] h=.ok (.v (.bl a.same)) h:=by
 refine Ae (d:=d86) rfl rfl ?_;simp[d86,Ab]
def gu:Ph (n+1) 87 [.v a.mv,.v b.mv] h=.ok (.v (.bl (FQ a b))) h:=by
 refine Ae (d:=d87) rfl rfl ?_;simp[d87,Ab,Li.key,o3,FQ,W1]
def KL:Ph (n+4) 80 [.v a.mv,.v b.mv] h=.ok (.v (fM a b)) h:=by
 refine Ae (d:=d80) rfl rfl ?_;unfold fM;rcases CK (M9 a.lets) (M9 b.lets) with⟨e1,s1⟩|⟨k,e1,s1⟩
 ·rcases CK b.sgs.2 a.sgs.2 with⟨e2,s2⟩|⟨k,e2,s2⟩
  ·rcases CK b.bars.2 a.bars.2 with⟨e3,s3⟩|⟨k,e3,s3⟩
   ·by_cases hr:b.reach.val<a.reach.val
    ·simp[d80,Ab,B7 (M9 a.lets) (M9 b.lets),B7 b.sgs.2 a.sgs.2,B7 b.bars.2 a.bars.2,e1,e2,e3,s1,s2,s3,hr]
    cases hs:b.same<;>cases hl:FQ a b<;>simp[d80,Ab,B7 (M9 a.lets) (M9 b.lets),B7 b.sgs.2 a.sgs.2,B7 b.bars.2 a.bars.2,e1,e2,e3,s1,s2,s3,hr,gq,gu,hs,hl]
   simp[d80,Ab,B7 (M9 a.lets) (M9 b.lets),B7 b.sgs.2 a.sgs.2,B7 b.bars.2 a.bars.2,e1,e2,e3,s1,s2,s3]
  simp[d80,Ab,B7 (M9 a.lets) (M9 b.lets),B7 b.sgs.2 a.sgs.2,e1,e2,s1,s2]
 simp[d80,Ab,B7 (M9 a.lets) (M9 b.lets),e1,s1]
@[simp]def lC:Cj .non=true:=rfl
@[simp]def lA:Cj (.tup l)=false:=rfl
def NT(m:MV):Prop:=m=.non\/∃l,m=.tup l
def W7(a b:Li):NT (fM a b):=by
 unfold fM
 repeat (first|exact .inl rfl|exact .inr ⟨_,rfl⟩|split)
def NT.is(h:NT m):AJ .is_ m .non=some (Cj m)/\AJ .isnot m .non=some (!Cj m):=by
 rcases h with rfl|⟨l,rfl⟩<;>exact⟨rfl,rfl⟩
def Fm:Ph (n+5) 81 [.v a.mv,.v b.mv] h=.ok (.v (.bl (CN a b))) h:=by
 refine Ae (d:=d81) rfl rfl ?_;simp[d81,Ab,KL,(W7 a b).is.1,SI]
end BK45
namespace BK45
open PySem B L2
variable {n:Nat}{h:MH}{a b l o:Li}{c:Fin 4}
noncomputable def nd(c:Nat):Nat:=2^(c+1)-1
def N4:(h.take h.length).take h.length=h:=by simp
def Iu:∀c:Fin 4,Ph (n+2) 15 [.v (.int c.val)] h=.ok (.v (.int (nd c.val))) h
 |0=>(show Ph (n+2) 15 [.v (.int 0)] h=.ok (.v (.int 1)) ((h.take h.length).take h.length) from rfl).trans (by rw[N4];rfl)
 |1=>(show Ph (n+2) 15 [.v (.int 1)] h=.ok (.v (.int 3)) ((h.take h.length).take h.length) from rfl).trans (by rw[N4];rfl)
 |2=>(show Ph (n+2) 15 [.v (.int 2)] h=.ok (.v (.int 7)) ((h.take h.length).take h.length) from rfl).trans (by rw[N4];rfl)
 |3=>(show Ph (n+2) 15 [.v (.int 3)] h=.ok (.v (.int 15)) ((h.take h.length).take h.length) from rfl).trans (by rw[N4];rfl)
def RN:∀c:Fin 4,nd c.val<64:=by decide
noncomputable def dM(l:Li)(c:Nat):MV:=if sub (nd c) l.lets.val=true then .non else .tup [.str "deed",JW (nd c) l.lets.val]
def UG:Ph (n+4) 19 [.v l.mv,.v (.int c.val)] h=.ok (.v (dM l c.val)) h:=by
 refine Ae (d:=d19) rfl rfl ?_;unfold dM;rcases CK (RN c) (M9 l.lets) with⟨e1,s1⟩|⟨k,e1,s1⟩
 ·simp[d19,Ab,Iu,B7 (RN c) (M9 l.lets),e1,s1]
 simp[d19,Ab,Iu,B7 (RN c) (M9 l.lets),e1,s1]
def Rv:Ph (n+1) 20 [.v l.mv,.v (.int c.val)] h=.ok (.v (.bl (decide (l.reach.val<=c.val)))) h:=by
 refine Ae (d:=d20) rfl rfl ?_;simp[d20,Ab]
noncomputable def EX(l:Li)(c:Nat)(o:Li):MV:=if (sub (nd c) l.lets.val&&decide (l.reach.val<=c))=true then fM o l else dM l c
noncomputable def Bv(l:Li)(c:Nat)(o:Li):Bool:=sub (nd c) l.lets.val&&(!decide (l.reach.val<=c)||CN o l)
def JP(l:Li)(c:Nat)(o:Li):Cj (EX l c o)=Bv l c o:=by
 unfold EX Bv dM;cases sub (nd c) l.lets.val<;>by_cases hr:l.reach.val<=c<;>simp[hr,SI]
def W8(l:Li)(c:Nat):NT (dM l c):=by
 unfold dM;split
 ·exact .inl rfl
 exact .inr ⟨_,rfl⟩
def MR(l:Li)(c:Nat)(o:Li):NT (EX l c o):=by
 unfold EX;split
 ·exact W7 _ _
 exact W8 _ _
def Zw(l:Li)(c:Nat):Cj (dM l c)=sub (nd c) l.lets.val:=by
 unfold dM;cases sub (nd c) l.lets.val<;>rfl
def Ro:Ph (n+5) 21 [.v l.mv,.v (.int c.val),.v o.mv] h=.ok (.v (EX l c.val o)) h:=by
 refine Ae (d:=d21) rfl rfl ?_;unfold EX;cases hs:sub (nd c.val) l.lets.val<;>by_cases hr:l.reach.val<=c.val<;>simp[d21,Ab,UG,(W8 l c.val).is.1,Zw,hs,hr,Rv,KL]
def UF:Ph (n+6) 22 [.v l.mv,.v (.int c.val),.v o.mv] h=.ok (.v (.bl (Bv l c.val o))) h:=by
 refine Ae (d:=d22) rfl rfl ?_;simp[d22,Ab,Ro,(MR l c.val o).is.1,JP]
end BK45
namespace BK45
open PySem B L2
variable {n:Nat}{h:MH}{l:Li}
def Nh:∀a:Fin 64,(Builtin.Int.intBits (a.val:Int):Int)<=6:=by decide +kernel
def Z6:∀a:Fin 32,(Builtin.Int.intBits (a.val:Int):Int)<=5:=by decide +kernel
structure Li.Ok(l:Li):Prop where
 w:AU l.w
 dj:Builtin.bitAnd (l.sgs.val:Int) (l.bars.val:Int)=0
 s0:sub l.a0.val l.a1.val=true
 s1:sub l.a1.val l.a2.val=true
 s2:sub l.a2.val l.a3.val=true
 fl:l.first<=l.last
 ll:l.last<=9999
def jP{a b:Fin 64}(h:sub a.val b.val=true):JW a.val b.val=.non:=by
 rcases CK a.2 b.2 with⟨e,_⟩|⟨k,_,e⟩
 ·exact e
 rw[h]at e;cases e
def r9{cs:List Ci}{l:List MV}:M4 cs [.tup l,.tup [.ty .lst,.ty .tup]]=some (.bl true):=rfl
def UI(hl:l.Ok):Ph (n+4) 11 [.v l.asks] h=.ok (.v (.bl true)) h:=by
 refine Ae (d:=d11) rfl rfl ?_;have c1:∀μ,μ=[some (R.v l.asks)]->(e2 T.gt.cs (Ph (n+3)) T.gt.ini T.gt.cf (.comp ["mask"] [] [] (.nm 0) (.of (.var 0)) .nil (.call 5 (.cons (.var 0) (.cons (.glo "DUTY_BITS" (.int 6)) .nil))))).1 μ h=.ok (.v (.lst ([iv l.a0,iv l.a1,iv l.a2,iv l.a3].map λ_=>.bl true))) h:=by
  rintro μ rfl;rw[An];refine F6 (λ_=>.bl true) (λ_ _=>rfl) (by simp[Li.asks]) (show 4<=16777216 by decide) λm hm=>?_;simp only[List.mem_cons,List.not_mem_nil,or_false]at hm;rcases hm with rfl|rfl|rfl|rfl<;>exact⟨_,rfl,by simp[startC,DM (n:=n+1) (Int.natCast_nonneg _) (Nh _)]⟩
 have c2:∀μ,μ=[some (R.v l.asks)]->(e2 T.gt.cs (Ph (n+3)) T.gt.ini T.gt.cf (.comp ["looser","closer"] [] [] (.tup [0,1]) (.zip (.sli (.var 0) .no (.ye (.una .neg (.con (.int 1))))) (.sli (.var 0) (.ye (.con (.int 1))) .no)) .nil (.cmp .is_ (.call 9 (.cons (.var 0) (.cons (.var 1) .nil))) (.con .non)))).1 μ h=.ok (.v (.lst ([(iv l.a0,iv l.a1),(iv l.a1,iv l.a2),(iv l.a2,iv l.a3)].map λ_=>.bl true))) h:=by
  rintro μ rfl;rw[An];refine(F6 (l:=[.tup [iv l.a0,iv l.a1],.tup [iv l.a1,iv l.a2],.tup [iv l.a2,iv l.a3]]) (λ_=>.bl true) (λ_ _=>rfl) rfl (show 3<=16777216 by decide) λm hm=>?_).trans rfl;simp only[List.mem_cons,List.not_mem_nil,or_false]at hm;rcases hm with rfl|rfl|rfl<;>refine⟨_,rfl,?_⟩<;>simp[startC,B7,jP,hl.s0,hl.s1,hl.s2]
 have i1:M4 T.gt.cs [l.asks,.tup [.ty .lst,.ty .tup]]=some (.bl true):=rfl;have i2:J3 [l.asks]=some (.int 4):=rfl;simp[d11,Ab,c1 _ rfl,c2 _ rfl,LL,i1,i2,Lc,Dj]
def Rk(hl:l.Ok):Ph (n+5) 14 [.v l.asks] h=.ok (.v l.asks) h:=by
 refine Ae (d:=d14) rfl rfl ?_;have i1:AJ .is_ l.asks .non=some false:=rfl;have i2:M3 [l.asks]=some l.asks:=rfl;simp[d14,Ab,i1,i2,UI hl]
def Rb(hl:l.Ok):Ph (n+6) 85 [.r (hlen h),.v l.key,.v (iv l.lets),.v (iv l.sgs),.v (iv l.bars),.v (iv l.reach),.v (.bl l.same),.v l.asks,.v (.int l.first),.v (.int l.last),.v (.bl l.lasting)] (hnew h (.ins 14 [] []))=.ok (.v .non) (hnew h (.ins 14 [3,15,16,4,17,24,18,25,26,27] [iv l.lets,iv l.sgs,iv l.bars,iv l.reach,l.key,.bl l.same,l.asks,.int l.first,.int l.last,.bl l.lasting])):=by
 refine Ae (d:=d85) rfl rfl ?_;have e1:∀h,Ph (n+5) 3 [.v l.key] h=.ok (.v (.bl true)) h:=λh=>Rj hl.w (bU _) (by have:=l.i.2;lia);have e2:Ph (n+5) 79 [.r (hlen h),.v (iv l.lets),.v (iv l.sgs),.v (iv l.bars),.v (iv l.reach)] (hnew h (.ins 14 [] []))=.ok (.v .non) (hnew h (.ins 14 [3,15,16,4] [iv l.lets,iv l.sgs,iv l.bars,iv l.reach])):=by
  have:=QU (n:=n+1) (q:=hlen h) (c:=0) (ns:=[]) (ms:=[]) (h:=hnew h (.ins 14 [] [])) B5 (bU l.lets.val) (Z6 l.lets) (bU l.sgs.val) (Nh l.sgs) (bU l.bars.val) (Nh l.bars) hl.dj (bU l.reach.val) (by have:=l.reach.2;lia);rw[Bu]at this;exact this
 have e3:T.gt.cf 13 23=some 79:=rfl;have f1:=hl.fl;have f2:=hl.ll;have e4:∀h,Ph (n+5) 13 [.v (.int l.first),.v (.int l.last)] h=.ok (.v .non) h:=λh=>U9 (n:=n+2) (by lia) (by lia) (by lia) (by lia) (by lia);simp[d85,Ab,e1,WT e3,e2,QT,Rk hl,e4,pe]
def UC(hl:l.Ok)(he:DA T.gt.cs (Ph (n+6)) T.gt.ini T.gt.cf es μ h=.ok [.v l.key,.v (iv l.lets),.v (iv l.sgs),.v (iv l.bars),.v (iv l.reach),.v (.bl l.same),.v l.asks,.v (.int l.first),.v (.int l.last),.v (.bl l.lasting)] h):(e2 T.gt.cs (Ph (n+6)) T.gt.ini T.gt.cf (.make 14 es)).1 μ h=.ok (.v l.mv) h:=by
 rw[Je (show T.gt.ini 14=some 85 from rfl)];exact NM he (Rb hl)
end BK45
namespace BK45
open PySem B L2
noncomputable def Dr:Fin 4->Str
 |0=> "called"
 |1=> "beside"
 |2=> "joined"
 |3=> "changed"
noncomputable def jM(j:Fin 4):MV:=.obj (16+j.val) [] []
def Rm{n:Nat}:Ph (n+1) 16 [] h=.ok (.v (.lst [jM 0,jM 1,jM 2,jM 3])) h:=(show Ph (n+1) 16 [] h=.ok (.v (.lst [jM 0,jM 1,jM 2,jM 3])) (h.take h.length) from rfl).trans (by rw[bO])
def Rl{n:Nat}:∀j:Fin 4,Ph (n+1) (90+2*j.val) [.v (jM j)] h=.ok (.v (.str (Dr j))) h
 |0=>(show Ph (n+1) 90 [.v (jM 0)] h=.ok (.v (.str (Dr 0))) (h.take h.length) from rfl).trans (by rw[bO])
 |1=>(show Ph (n+1) 92 [.v (jM 1)] h=.ok (.v (.str (Dr 1))) (h.take h.length) from rfl).trans (by rw[bO])
 |2=>(show Ph (n+1) 94 [.v (jM 2)] h=.ok (.v (.str (Dr 2))) (h.take h.length) from rfl).trans (by rw[bO])
 |3=>(show Ph (n+1) 96 [.v (jM 3)] h=.ok (.v (.str (Dr 3))) (h.take h.length) from rfl).trans (by rw[bO])
def OW{n:Nat}:∀j:Fin 4,Ph (n+1) (91+2*j.val) [.v (jM j)] h=.ok (.v (.int j.val)) h
 |0=>(show Ph (n+1) 91 [.v (jM 0)] h=.ok (.v (.int 0)) (h.take h.length) from rfl).trans (by rw[bO];rfl)
 |1=>(show Ph (n+1) 93 [.v (jM 1)] h=.ok (.v (.int 1)) (h.take h.length) from rfl).trans (by rw[bO];rfl)
 |2=>(show Ph (n+1) 95 [.v (jM 2)] h=.ok (.v (.int 2)) (h.take h.length) from rfl).trans (by rw[bO];rfl)
 |3=>(show Ph (n+1) 97 [.v (jM 3)] h=.ok (.v (.int 3)) (h.take h.length) from rfl).trans (by rw[bO];rfl)
def iz:∀j:Fin 4,meth T.gt.cs 1 (jM j)=some (90+2*j.val)
 |0=>rfl|1=>rfl|2=>rfl|3=>rfl
def iX:∀j:Fin 4,meth T.gt.cs 2 (jM j)=some (91+2*j.val)
 |0=>rfl|1=>rfl|2=>rfl|3=>rfl
def NU(j:Fin 4):∃f,meth T.gt.cs 1 (jM j)=some f/\∀n h,Ph (n+1) f [.v (jM j)] h=.ok (.v (.str (Dr j))) h:=⟨_,iz j,λ_ _=>Rl j⟩
def MG(j:Fin 4):∃f,meth T.gt.cs 2 (jM j)=some f/\∀n h,Ph (n+1) f [.v (jM j)] h=.ok (.v (.int j.val)) h:=⟨_,iX j,λ_ _=>OW j⟩
def YB:∀i j:Fin 4,(Dr i=Dr j)=(i=j):=by
 intro i j;apply propext;exact⟨λh=>(by decide +kernel:∀i j:Fin 4,Dr i=Dr j->i=j) i j h,λh=>by rw[h]⟩
def Iw{n:Nat}(j:Fin 4):Ph (n+2) 17 [.v (.str (Dr j))] h=.ok (.v (jM j)) h:=by
 refine Ae (d:=d17) rfl rfl ?_;obtain⟨f0,m0,p0⟩:=NU 0;obtain⟨f1,m1,p1⟩:=NU 1;obtain⟨f2,m2,p2⟩:=NU 2;obtain⟨f3,m3,p3⟩:=NU 3;have h4:j=0\/j=1\/j=2\/j=3:=by lia
 rcases h4 with rfl|rfl|rfl|rfl<;>simp[d17,Ab,Rm,CI,YB,m0,m1,m2,m3,p0,p1,p2,p3]
abbrev Ky:=Str×Fin 100
inductive Fo where
 |nil
 |cons (j:Fin 4) (n:Str) (o:List Ky) (ks:Fo) (r:Fo)
structure Nd where
 n:Str
 o:List Ky
 ks:Fo
noncomputable def Fo.ht:Fo->Nat
 |.nil=>0
 |.cons _ _ _ ks r=>max (ks.ht+1) r.ht
noncomputable def Fo.size:Fo->Nat
 |.nil=>0
 |.cons _ _ _ ks r=>ks.size+1+r.size
noncomputable def Fo.items:Fo->List (Fin 4×Nd)
 |.nil=>[]
 |.cons j n o ks r=>(j,⟨n,o,ks⟩)::r.items
abbrev Rd:=List (Fin 4×Str)×Nd
noncomputable def De:Fo->List Rd
 |.nil=>[]
 |.cons j n o ks r=>(([],⟨n,o,ks⟩)::De ks).map (λx=>((j,n)::x.1,x.2))++De r
noncomputable def At(d:Nd):List Rd:=([],d)::De d.ks
noncomputable def ax(x:Fin 4×Nd)(y:Rd):Rd:=((x.1,x.2.n)::y.1,y.2)
noncomputable def EB(x:Fin 4×Nd):List Rd:=(At x.2).map (ax x)
theorem Ds:∀f:Fo,De f=(f.items.map EB).flatten
 |.nil=>rfl
 |.cons j n o ks r=>by
  show _=EB _++(r.items.map EB).flatten;rw[←Ds r];rfl
theorem Fg:∀f:Fo,(De f).length=f.size
 |.nil=>rfl
 |.cons j n o ks r=>by
  rw[De,aV,aC,cN,Fg ks,Fg r,Fo.size]
def Fe(d:Nd):(At d).length=d.ks.size+1:=by rw[At,cN,Fg]
theorem Lp:∀{f:Fo}{x:Fin 4×Nd},x∈f.items->x.2.ks.ht<f.ht/\x.2.ks.size<f.size
 |.nil,x,h=>by cases h
 |.cons j n o ks r,x,h=>by
  rw[Fo.ht,Fo.size];rcases aU.mp h with rfl|h
  ·dsimp only;lia
  have:=Lp h;lia
noncomputable def Al(k:Ky):MV:=o3 k.1 k.2.val
noncomputable def Fo.mv:Fo->List MV
 |.nil=>[]
 |.cons j n o ks r=>.tup [.str (Dr j),.obj 20 [8,9,7] [.str n,.tup (o.map Al),.tup ks.mv]]::r.mv
noncomputable def Nd.mv(d:Nd):MV:=.obj 20 [8,9,7] [.str d.n,.tup (d.o.map Al),.tup d.ks.mv]
noncomputable def Ss(x:Fin 4×Nd):MV:=.tup [.str (Dr x.1),x.2.mv]
theorem Of:∀f:Fo,f.mv=f.items.map Ss
 |.nil=>rfl
 |.cons j n o ks r=>by rw[Fo.mv,Of r];rfl
noncomputable def ZY(x:Fin 4×Str):MV:=.tup [.str (Dr x.1),.str x.2]
noncomputable def BS(y:Rd):MV:=.tup [.lst (y.1.map ZY),y.2.mv]
@[simp]def lL{d:Nd}:D5 T.gt.cs 8 d.mv=some (.str d.n):=rfl
@[simp]def aa{d:Nd}:D5 T.gt.cs 9 d.mv=some (.tup (d.o.map Al)):=rfl
@[simp]def Zn{d:Nd}:D5 T.gt.cs 7 d.mv=some (.tup d.ks.mv):=rfl
theorem Jr:∀{f:Fo}{y:Rd},y∈De f->y.1.length<=f.ht
 |.nil,y,h=>by cases h
 |.cons j n o ks r,y,h=>by
  rw[Fo.ht];rcases bT.mp h with h|h
  ·obtain⟨z,hz,rfl⟩:=bB.mp h;rcases aU.mp hz with rfl|hz
   ·show 0+1<=_;lia
   have:=Jr hz;show z.1.length+1<=_
   lia
  have:=Jr h;lia
theorem JO:∀f:Fo,f.ht<=f.size
 |.nil=>aI _
 |.cons j n o ks r=>by
  rw[Fo.ht,Fo.size];have:=JO ks;have:=JO r
  lia
def K5(h:y∈At d):y.1.length<=d.ks.ht:=by
 rcases aU.mp h with rfl|h
 ·exact dH _
 exact Jr h
def C8{α:Type}{xs:List α}{i:Nat}{x:α}(h:xs[i]?=some x):xs.take (i+1)=xs.take i++ [x]:=by
 obtain⟨hi,e⟩:=a9.mp h;rw[g6 hi,e]
def YH{α β:Type}{f:α->β}{l:List α}{j:Nat}{m:β}(h:(l.map f)[j]?=some m):∃x,l[j]?=some x/\m=f x:=by
 rw[aJ]at h;obtain⟨x,hx,rfl⟩:=aG.mp h;exact⟨x,hx,rfl⟩
def OA(d:Nd):(At d).map BS=[BS ([],d)]++d.ks.items.flatMap λx=>(At x.2).flatMap λy=>[BS (ax x y)]:=by
 show BS ([],d)::(De d.ks).map BS=_;rw[Ds,List.map_flatten,bP,List.flatMap_def];congr 2;apply fH;intro x _;rw[Function.comp,EB,bP];exact gO
theorem Iq:∀{n:Nat}{h:MH}(d:Nd),d.ks.ht<n->d.ks.size<=1000->Ph n 30 [.v d.mv] h=.ok (.v (.lst ((At d).map BS))) h
 |0,h,d,hh,hs=>by lia
 |n+1,h,d,hh,hs=>by
  refine Ae (d:=d30) rfl rfl ?_;have hL:((At d).map BS).length<=1001:=by rw[aC,Fe];lia
  rw[OA]at hL ⊢;have r0:BS ([],d)=.tup [.lst [],d.mv]:=rfl;rw[r0]at hL ⊢;simp[d30,Ab];rw[Of];refine Bl (DU Ss (λx=>(At x.2).flatMap λy=>[BS (ax x y)]) (λμ=>∃x2 x3 x4 x5,μ=[some (.v d.mv),some (.r (hlen h)),x2,x3,x4,x5]) 1001 ⟨_,_,_,_,rfl⟩ hL λx hx μ acc ⟨x2,x3,x4,x5,hμ⟩ hl=>?_) λμ ⟨x2,x3,x4,x5,hμ⟩=>?_
  ·subst hμ;have hxm:=Lp hx;refine⟨_,rfl,?_⟩;simp[@Iq n _ x.2 (by lia) (by lia)];refine Ho (DU BS (λy=>[BS (ax x y)]) (λμ=>∃x4 x5,μ=[some (.v d.mv),some (.r (hlen h)),some (.v (.str (Dr x.1))),some (.v x.2.mv),x4,x5]) 1001 ⟨_,_,rfl⟩ hl λy hy μ acc ⟨x4,x5,hμ⟩ hl=>?_) λμ ⟨y4,y5,hμ⟩=>?_
   ·subst hμ;have hyl:y.1.length<=1000:=by have:=K5 hy;have:=JO x.2.ks;lia
    have hy2:1+y.1.length<=big:=by unfold big;lia
    have hl2:acc.length<big:=by rw[aV,dP]at hl;unfold big;lia
    refine⟨_,rfl,?_⟩;simp[hy2,hl2,Nat.add_comm,BS,ax,ZY]
   subst hμ;simp
  subst hμ;simp
end BK45
namespace B
open PySem L2 PySem.SeqAt
def Ax{α:Type}{k:Nat}{js:List Nat}{tg:MT}{fi:En->MH->AI Wk}{tc:Tf}{te:Ef}{μ:En}{h h1:MH}(xs:List α)(f g:α->MV)(htc:∀μ h,tc μ h=.ok true h)(hi:fi μ h=.ok ⟨xs.map f,none⟩ h1)(hl:xs.length<=big)(st:∀x∈xs,∃μ1,AX tg (f x) (startC k js μ)=some μ1/\te μ1 h1=.ok (.v (g x)) h1):BZ k js tg fi tc te μ h=.ok (.v (.lst (xs.map g))) h1:=by
 unfold BZ;rw[hi,AS];show(if (xs.map f).length<=big then(compLoop none (xs.map f) tg (startC k js μ) tc te (xs.map f) [] h1).bind λl h2=>AI.ok (R.v (.lst l)) h2 else .no)=_;rw[aC,if_pos hl];have:∀(ys:List α) (all acc:List MV),(∀x∈ys,x∈xs)->compLoop none all tg (startC k js μ) tc te (ys.map f) acc h1=.ok (acc++ys.map g) h1:=by
  intro ys
  induction ys with
  |nil=>intro all acc _;simp[compLoop,Bs]
  |cons y ys ih=>
   intro all acc hs;obtain⟨μ1,e1,e2⟩:=st y (hs y aH);rw[aK];unfold compLoop;simp only[Bs,if_true,e1,htc,AS,e2];rw[ih _ _ λx hx=>hs x (aE _ hx)];simp
 rw[this xs _ _ λ_ h=>h];rfl
def AN{α:Type}{k:Nat}{js:List Nat}{tg:MT}{fi:En->MH->AI Wk}{tc:Tf}{te:Ef}{μ:En}{h h1:MH}(xs:List α)(f g:α->MV)(p:α->Bool)(hi:fi μ h=.ok ⟨xs.map f,none⟩ h1)(hl:xs.length<=big)(st:∀x∈xs,∃μ1,AX tg (f x) (startC k js μ)=some μ1/\tc μ1 h1=.ok (p x) h1/\(p x=true->te μ1 h1=.ok (.v (g x)) h1)):BZ k js tg fi tc te μ h=.ok (.v (.lst ((xs.filter p).map g))) h1:=by
 unfold BZ;rw[hi,AS];show(if (xs.map f).length<=big then(compLoop none (xs.map f) tg (startC k js μ) tc te (xs.map f) [] h1).bind λl h2=>AI.ok (R.v (.lst l)) h2 else .no)=_;rw[aC,if_pos hl];have:∀(ys:List α) (all acc:List MV),(∀x∈ys,x∈xs)->compLoop none all tg (startC k js μ) tc te (ys.map f) acc h1=.ok (acc++(ys.filter p).map g) h1:=by
  intro ys
  induction ys with
  |nil=>intro all acc _;simp[compLoop,Bs]
  |cons y ys ih=>
   intro all acc hs;obtain⟨μ1,e1,e2,e3⟩:=st y (hs y aH);rw[aK];unfold compLoop;simp only[Bs,if_true,e1,e2,AS];by_cases hp:p y=true
   ·rw[if_pos hp,e3 hp];simp only[AS];rw[ih _ _ λx hx=>hs x (aE _ hx)];simp[hp]
   rw[if_neg hp,ih _ _ λx hx=>hs x (aE _ hx)];simp[hp]
 rw[this xs _ _ λ_ h=>h];rfl
section
@[simp]def bf:OE cs Φ ini cf (.cons e .nil) μ h=(e2 cs Φ ini cf e).2 μ h:=rfl
end
theorem IV{α:Type}(p:α->Bool):∀xs:List α,Dj (xs.map λx=>.bl (p x))=some (xs.map p)
 |[]=>rfl
 |x::xs=>by rw[aK,Dj,IV p xs];rfl
def all_map{α:Type}(p:α->Bool)(xs:List α):Lc [.lst (xs.map λx=>.bl (p x))]=some (.bl (xs.all p)):=by
 show(Dj _).map _=_;rw[IV];simp[List.all_map]
@[simp]def jV{α:Type}(xs:List α):Lc [.lst (xs.map λ_=>.bl true)]=some (.bl true):=by
  have:=all_map (λ_:α=>true) xs;rw[this];congr 2;rw[aZ];exact λ_ _=>rfl
theorem Lr{α:Type}(p:α->Int):∀xs:List α,JN (xs.map λx=>.int (p x))=some (xs.map p)
 |[]=>rfl
 |x::xs=>by rw[aK,JN,Lr p xs];rfl
def V1{α:Type}(p:α->Str)(xs:List α):(xs.map λx=>MV.str (p x)).all Ly=true:=by
 rw[List.all_map,aZ];intro x _;rfl
def Gr{α:Type}(p:α->Str)(xs:List α)(z:Str):Px (.str z) (xs.map λx=>.str (p x))=some (decide (z∈xs.map p)):=by
 unfold Px;rw[if_pos (by rw[V1];rfl)];congr 1;rw[List.any_map,bW,eN,dC,bB];constructor
 ·rintro⟨x,hx,e⟩;exact⟨x,hx,by simpa[Hs]using e⟩
 rintro⟨x,hx,e⟩;exact⟨x,hx,by simp[Hs,e]⟩
def SD{α:Type}{t:MT}{b:Sf}{h:MH}(g:α->MV)(F:α->List MV)(E:En->Prop){xs:List α}{acc:List MV}{μ:En}(p:E μ)
 (st:∀j x μ,xs[j]?=some x->E μ->∃μ1,AX t (g x) μ=some μ1/\FC (b μ1 (hnew h (.lst (acc++(xs.take j).flatMap F)))) (hnew h (.lst (acc++(xs.take j).flatMap F++F x))) E):FC (AM none (xs.map g) t b (xs.map g) μ (hnew h (.lst acc))) (hnew h (.lst (acc++xs.flatMap F))) E:=by
 obtain⟨μ',h',e,p1,p2⟩:=SC (t:=t) (b:=b) (l:=xs.map g) (μ:=μ) (h:=hnew h (.lst acc)) (λj μ h'=>E μ/\h'=hnew h (.lst (acc++(xs.take j).flatMap F))) ⟨p,by simp⟩ λj m μ h' hm ⟨q1,q2⟩=>by
  rw[aJ]at hm;obtain⟨x,hx,rfl⟩:=aG.mp hm;obtain⟨μ1,e1,μ2,e2,e3⟩:=st j x μ hx q1;refine⟨μ1,μ2,_,e1,by rw[q2];exact e2,e3,?_⟩;obtain⟨hi,ex⟩:=a9.mp hx;rw[g6 hi,ex,List.flatMap_append,List.flatMap_singleton,dE]
 subst p2;refine⟨μ',?_,p1⟩;rw[e,aC,bO]
def EW{α:Type}{t:MT}{b:Sf}{h:MH}(g f:α->MV)(E:En->Prop){xs:List α}{acc:List MV}{μ:En}(p:E μ)
 (st:∀j x μ,xs[j]?=some x->E μ->∃μ1,AX t (g x) μ=some μ1/\FC (b μ1 (hnew h (.lst (acc++(xs.take j).map f)))) (hnew h (.lst (acc++(xs.take j).map f++ [f x]))) E):FC (AM none (xs.map g) t b (xs.map g) μ (hnew h (.lst acc))) (hnew h (.lst (acc++xs.map f))) E:=by
 rw[gO (f:=f)];refine SD g (λx=>[f x]) E p λj x μ hx hp=>?_;have:=st j x μ hx hp
 rwa[gO (f:=f)]at this
end B
namespace BK45
open PySem B L2
variable {n:Nat}{h:MH}
noncomputable def names(d:Nd):List Str:=(At d).map λy=>y.2.n
structure Bd(d:Nd):Prop where
 nd:(names d).Nodup
 z:d.ks.size+1<=30
 h:d.ks.ht+1<=6
def Bd.road(b:Bd d)(hy:y∈At d):y.1.length<=5:=by
 have:=K5 hy;have:=b.h;omega
def Bd.len(b:Bd d):(At d).length<=30:=by rw[Fe];exact b.z
def Bd.big(b:Bd d):(At d).length<=big:=b9 b.len (by decide)
def Bd.wk(b:Bd d):Ph (n+6) 30 [.v d.mv] h=.ok (.v (.lst ((At d).map BS))) h:=Iq d (by have:=b.h;omega) (by have:=b.z;omega)
def Rq(b:Bd d):∃k:Int,Ph (n+7) 31 [.v d.mv] h=.ok (.v (.int k)) h/\k<=6:=by
 have key:∃k:Int,RW [.lst ((At d).map λy=>.int (y.1.length:Int))]=some (.int k)/\k<=5:=by
  show ∃k:Int,(JN _).bind _=_/\_;rw[Lr];show ∃k:Int,some (MV.int (Ga _ _))=_/\_;refine⟨_,rfl,?_⟩;rcases(J0 ((De d.ks).map λy=>(y.1.length:Int)) 0).2.2 with e|e
  ·show Ga 0 _<=5;rw[e];decide
  obtain⟨y,hy,e⟩:=bB.mp e;show Ga 0 _<=5;rw[←e];have:=b.road (aE _ hy);omega
 obtain⟨k,e,hk⟩:=key;refine⟨1+k,Ae (d:=d31) rfl rfl ?_,by omega⟩;simp[d31,Ab,An];rw[Ax (h1:=h) (At d) BS (λy=>.int (y.1.length:Int)) ?_ ?_ b.big ?_]
 ·simp[e]
 ·exact λ_ _=>rfl
 ·simp[b.wk]
 intro y hy;refine⟨_,rfl,?_⟩;simp[startC]
def Pa{d:Nd}(b:Bd d):Ph (n+8) 32 [.v d.mv] h=.ok (.v .non) h:=by
 obtain⟨k,ek,hk⟩:=Rq (n:=n) (h:=hnew h (.lst ((At d).map λy=>.str y.2.n))) b;refine Ae (d:=d32) rfl rfl ?_;simp[d32,Ab,b.wk];refine Bl (EW (acc:=[]) BS (λy=>.str y.2.n) (λμ=>∃x2 x3,μ=[some (.v d.mv),some (.r (hlen h)),x2,x3]) ⟨_,_,rfl⟩ λj y μ hy ⟨x2,x3,hμ⟩=>?_) λμ ⟨x2,x3,hμ⟩=>?_
 ·subst hμ;refine⟨_,rfl,?_⟩;have hj:=(a9.mp hy).1;have hl:(((At d).take j).map λy=>MV.str y.2.n).length<big:=by
   rw[aC,bD];have:=b.len;unfold big;omega
  have hin:Px (.str y.2.n) (((At d).take j).map λy=>MV.str y.2.n)=some false:=by
   rw[Gr];congr 1;rw[eT];intro hm;have hn:=b.nd;unfold names at hn;have h1:((At d).map λy=>y.2.n)[j]?=some y.2.n:=by rw[aJ,hy];rfl
   rw[fY]at hm;obtain⟨i,hi,e⟩:=cD.mp hm;rw[bD]at hi;rw[fU]at e;obtain⟨lj,ej⟩:=a9.mp h1;exact(bC.mp hn) i j (by omega) lj (by omega) (e.trans ej.symm)
  generalize (((At d).take j).map λy=>MV.str y.2.n)=acc at hl hin ⊢;simp[AJ,Vc,hin,hl]
 subst hμ;have e26:∀h,Ph (n+7) 26 [.v (.int ((At d).length:Int))] h=.ok (.v .non) h:=by
  intro h;refine Ae (d:=d26) rfl rfl ?_;have:¬(30:Int)<((At d).length:Int):=by have:=b.len;omega
  simp[d26,Ab,this]
 have e27:∀h,Ph (n+7) 27 [.v (.int k)] h=.ok (.v .non) h:=by
  intro h;refine Ae (d:=d27) rfl rfl ?_;have:¬(6:Int)<k:=by omega
  simp[d27,Ab,this]
 simp only[List.nil_append];simp[e26,ek,e27]
end BK45
namespace BK45
open PySem B L2
variable {n:Nat}
structure Jc(o:List Ky):Prop where
 l2:o.length<=2
 nd:o.Nodup
 ok:∀k∈o,AU k.1
def Rh(hk:AU k.1):Ph (n+2) 3 [.v (Al k)] h=.ok (.v (.bl true)) h:=Rj hk (bU _) (by have:=k.2.2;lia)
noncomputable def Wz(k:Ky):List Key:=[.inr k.1,.inl (k.2.val:Int)]
theorem Sl:∀o:List Ky,Ln (o.map Al)=some (o.map Wz)
 |[]=>rfl
 |k::o=>by
  rw[aK];show(Bi [.str k.1,.int (k.2.val:Int)]).bind (λks=>(Ln (o.map Al)).map (ks:: ·))=_;rw[Sl o];rfl
def NQ(h:Wz a=Wz b):a=b:=by
 unfold Wz at h
 injection h with h1 h2
 injection h2 with h2 _
 injection h1 with h1
 injection h2 with h2
 exact Prod.ext h1 (Fin.ext (by lia))
def DN{α β:Type}{f:α->β}(hf:∀a b,f a=f b->a=b){l:List α}(h:l.Nodup):(l.map f).Nodup:=by
 rw[List.Nodup,List.pairwise_map];exact h.imp λne e=>ne (hf _ _ e)
def Se(g:Jc o):DP (.tup (o.map Al))=some (.int o.length):=by
 show(Ln _).bind _=_;rw[Sl,iH,if_pos ⟨by rw[aC];exact g.l2,DN (λa b=>NQ) g.nd⟩,aC]
def ao:(e2 cs Φ ini cf (.lenset e)).1 μ h=((e2 cs Φ ini cf e).1 μ h).bind λx h1=>FI h1 ((A0 h1 x).bind λa=>(DP a).map R.v):=rfl
def AH{k:Nat}(h:k<=1000):k<=big:=b9 h (by decide)
def Rx(g:Jc o):Ph (n+3) 23 [.v (.tup (o.map Al))] h=.ok (.v (.bl true)) h:=by
 refine Ae (d:=d23) rfl rfl ?_;have l2:=g.l2;have c1:¬(2:Int)<(o.length:Int):=by lia
 have i1:M4 T.gt.cs [.tup (o.map Al),.tup [.ty .lst,.ty .tup]]=some (.bl true):=rfl;simp[d23,Ab,i1,c1,An];rw[Ax (h1:=h) o Al (λ_=>.bl true) ?_ ?_ (AH (by lia)) ?_]
 ·simp[ao,Se g]
 ·exact λ_ _=>rfl
 ·simp
 intro k hk;exact⟨_,rfl,by simp[startC,Rh (g.ok k hk)]⟩
def OU(g:Jc o):Ph (n+4) 24 [.v (.tup (o.map Al))] h=.ok (.v (.tup (o.map Al))) h:=by
 refine Ae (d:=d24) rfl rfl ?_;simp[d24,Ab,Rx g]
def UE:Ph (n+1) 28 [.v (Ss x)] h=.ok (.v (.bl true)) h:=(show Ph (n+1) 28 [.v (Ss x)] h=.ok (.v (.bl true)) (h.take h.length) from rfl).trans (by rw[bO])
def OV{f:Fo}(h6:f.items.length<=6):Ph (n+3) 29 [.v (.lst f.mv)] h=.ok (.v (.tup f.mv)) h:=by
 refine Ae (d:=d29) rfl rfl ?_;rw[Of];have i1:M4 T.gt.cs [.lst (f.items.map Ss),.tup [.ty .lst,.ty .tup]]=some (.bl true):=rfl;simp[d29,Ab,i1,An];rw[Ax (h1:=h) f.items Ss (λ_=>.bl true) ?_ ?_ (AH (by lia)) ?_]
 ·have e25:Ph (n+2) 25 [.v (.int (f.items.length:Int))] h=.ok (.v .non) h:=by
   refine Ae (d:=d25) rfl rfl ?_;have:¬(6:Int)<(f.items.length:Int):=by lia
   simp[d25,Ab,this]
  simp[e25];refine Bl (CZ Ss (λ_ μ=>∃x1,μ=[some (.v (.lst (f.items.map Ss))),x1]) (i:=0) ⟨_,rfl⟩ λj x μ hx ⟨x1,hμ⟩=>?_) λμ ⟨x1,hμ⟩=>?_
  ·subst hμ;refine⟨_,rfl,?_⟩;simp[Ss,Iw]
  subst hμ;simp
 ·exact λ_ _=>rfl
 ·simp
 intro k hk;exact⟨_,rfl,by simp[startC,UE]⟩
def pd:T.gt.cs[20]?=some ⟨"Part",false,[8,9,7],[20],some 98,[(19,99),(11,100),(28,101),(12,102),(29,103)]⟩:=rfl
def QX{d:Nd}(w:AU d.n)(g:Jc d.o)(h6:d.ks.items.length<=6)(b:Bd d):Ph (n+9) 98 [.r (hlen h),.v (.str d.n),.v (.tup (d.o.map Al)),.v (.lst d.ks.mv)] (hnew h (.ins 20 [] []))=.ok (.v .non) (hnew h (.gone d.mv)):=by
 refine Ae (d:=d98) rfl rfl ?_;have e:=λh=>@Pa n h d b;unfold Nd.mv at e;simp[d98,Ab,Jt w,pd,OU g,OV h6,e,Nd.mv]
def OT(w:AU d.n)(g:Jc d.o)(h6:d.ks.items.length<=6)(b:Bd d)(he:DA T.gt.cs (Ph (n+9)) T.gt.ini T.gt.cf es μ h=.ok [.v (.str d.n),.v (.tup (d.o.map Al)),.v (.lst d.ks.mv)] h1):(e2 T.gt.cs (Ph (n+9)) T.gt.ini T.gt.cf (.make 20 es)).1 μ h=.ok (.v d.mv) h1:=by
 rw[Je (show T.gt.ini 20=some 98 from rfl)];exact Pn he (QX w g h6 b)
end BK45
namespace BK45
open PySem B L2
variable {n:Nat}
noncomputable def Ha(m j:Fin 4):Fin 4:=if j<m then j else m
noncomputable def Qi(js:List (Fin 4)):Fin 4:=js.foldl Ha 3
noncomputable def AD(rd:List (Fin 4×Str)):Fin 4:=Qi (rd.map (·.1))
def Ms{js:List (Fin 4)}:Ph (n+2) 18 [.v (.lst (js.map jM))] h=.ok (.v (jM (Qi js))) h:=by
 refine Ae (d:=d18) rfl rfl ?_;have e0:T.gt.ini 19=none:=rfl;simp[d18,Ab,e0];refine Bl (CZ jM (λj μ=>∃x2,μ=[some (.v (.lst (js.map jM))),some (.v (jM (Qi (js.take j)))),x2]) (i:=0) ⟨none,rfl⟩ λj x μ hx ⟨x2,hμ⟩=>?_) λμ ⟨x2,hμ⟩=>?_
 ·subst hμ;refine⟨_,rfl,?_⟩;obtain⟨f1,m1,p1⟩:=MG x;obtain⟨f2,m2,p2⟩:=MG (Qi (js.take j));have e:Qi (js.take (j+1))=Ha (Qi (js.take j)) x:=by rw[C8 hx];unfold Qi;rw[List.foldl_append];rfl
  simp only[Nat.zero_add];rw[e];unfold Ha;by_cases hc:x<Qi (js.take j)
  ·have hc2:((x.val:Int)<(Qi (js.take j)).val):=by have:x.val<(Qi (js.take j)).val:=hc;lia
   simp[m1,m2,p1,p2,hc,hc2]
  have hc2:¬((x.val:Int)<(Qi (js.take j)).val):=by have:¬x.val<(Qi (js.take j)).val:=hc;lia
  simp[m1,m2,p1,p2,hc,hc2]
 subst hμ;simp
def KN(hl:rd.length<=1000):Ph (n+3) 35 [.v (.lst (rd.map ZY))] h=.ok (.v (.int (AD rd).val)) h:=by
 refine Ae (d:=d35) rfl rfl ?_;simp[d35,Ab,An];rw[Ax (h1:=h) rd ZY (λx=>jM x.1) ?_ ?_ (AH hl) ?_]
 ·have e:(rd.map λx=>jM x.1)=(rd.map (·.1)).map jM:=by rw[bP];rfl
  obtain⟨f2,m2,p2⟩:=MG (AD rd);have hlo:=@Ms n h (rd.map (·.1));rw[←e]at hlo;unfold AD at m2 p2 ⊢;simp[hlo,m2,p2]
 ·exact λ_ _=>rfl
 ·simp
 intro x hx;exact⟨_,rfl,by simp[startC,Iw]⟩
def KH(b:Bd d){k:Nat}(hy:(At d)[k]?=some y):Ph (n+7) 34 [.v d.mv,.v (.str y.2.n)] h=.ok (.v (BS y)) h:=by
 refine Ae (d:=d34) rfl rfl ?_;simp[d34,Ab,b.wk];rw[Od (r:=.v (BS y)) (h2:=h) (λ_ μ h'=>h'=h/\∃x2,μ=[some (.v d.mv),some (.v (.str y.2.n)),x2]) (i:=0) (k:=k) (m:=BS y) ⟨rfl,_,rfl⟩ (by rw[aJ,hy];rfl) ?_ ?_]
 ·simp
 ·rintro j m μ h' hj hm ⟨rfl,x2,rfl⟩;obtain⟨z,hz,rfl⟩:=YH hm;have ne:¬z.2.n=y.2.n:=by
   intro e;have h1:(names d)[k]?=some y.2.n:=by unfold names;rw[aJ,hy];rfl
   have h2:(names d)[j]?=some z.2.n:=by unfold names;rw[aJ,hz];rfl
   obtain⟨l1,e1⟩:=a9.mp h1;obtain⟨l2,e2⟩:=a9.mp h2;exact(bC.mp b.nd) j k l2 l1 hj (by rw[e1,e2,e])
  refine⟨_,[some (.v d.mv),some (.v (.str y.2.n)),some (.v (BS z))],h',rfl,?_,rfl,_,rfl⟩;simp[BS,ne]
 rintro μ h' ⟨rfl,x2,rfl⟩;exact⟨_,rfl,by simp[BS]⟩
@[simp]def qS{d:Nd}:meth T.gt.cs 19 d.mv=some 99:=rfl
@[simp]def qR{d:Nd}:meth T.gt.cs 11 d.mv=some 100:=rfl
@[simp]def qN{d:Nd}:meth T.gt.cs 28 d.mv=some 101:=rfl
@[simp]def og{d:Nd}:meth T.gt.cs 12 d.mv=some 102:=rfl
def QY(b:Bd d):Ph (n+7) 99 [.v d.mv] h=.ok (.v (.lst ((At d).map λy=>.str y.2.n))) h:=by
 refine Ae (d:=d99) rfl rfl ?_;simp[d99,Ab,An];rw[Ax (h1:=h) (At d) BS (λy=>.str y.2.n) ?_ ?_ b.big ?_]
 ·simp
 ·exact λ_ _=>rfl
 ·simp[b.wk]
 intro y hy;exact⟨_,rfl,by simp[startC]⟩
def gv(b:Bd d){k:Nat}(hy:(At d)[k]?=some y):Ph (n+8) 100 [.v d.mv,.v (.str y.2.n)] h=.ok (.v y.2.mv) h:=by
 refine Ae (d:=d100) rfl rfl ?_;simp[d100,Ab,KH b hy,BS]
def UA(b:Bd d){k:Nat}(hy:(At d)[k]?=some y):Ph (n+8) 101 [.v d.mv,.v (.str y.2.n)] h=.ok (.v (.lst (y.1.map ZY))) h:=by
 refine Ae (d:=d101) rfl rfl ?_;simp[d101,Ab,KH b hy,BS]
def Mv{d:Nd}(b:Bd d){k:Nat}{y:Rd}(hy:(At d)[k]?=some y):Ph (n+9) 102 [.v d.mv,.v (.str y.2.n)] h=.ok (.v (.int (AD y.1).val)) h:=by
 refine Ae (d:=d102) rfl rfl ?_;have:=b.road (aP hy);simp[d102,Ab,UA b hy,KN (show y.1.length<=1000 by lia)]
noncomputable def BI(d:Nd):List Rd:=(At d).filter λy=>!y.2.o.isEmpty
noncomputable def Y8(y:Rd):MV:=.tup [y.2.mv,.int (AD y.1).val]
def GU(b:Bd d):Ph (n+7) 36 [.v d.mv] h=.ok (.v (.lst ((BI d).map Y8))) h:=by
 refine Ae (d:=d36) rfl rfl ?_;simp[d36,Ab,An];rw[AN (h1:=h) (At d) BS Y8 (λy=>!y.2.o.isEmpty) ?_ b.big ?_]
 ·simp[BI]
 ·simp[b.wk]
 intro y hy;have:=b.road hy;refine⟨_,rfl,?_,λ_=>?_⟩
 ·simp[startC]
 simp[startC,KN (show y.1.length<=1000 by lia),Y8]
end BK45
namespace BK45
open PySem B L2
variable {n:Nat}
noncomputable def Li.ky(l:Li):Ky:=(l.w,l.i)
structure Bk where
 ss:List MV
 ds:List MV
 ls:List Li
noncomputable def Bk.ks(b:Bk):List Ky:=b.ls.map Li.ky
structure Bk.Ok(b:Bk):Prop where
 ok:∀l∈b.ls,l.Ok
 nd:b.ks.Nodup
 l12:b.ls.length<=12
noncomputable def Ic(ls:List Li):MV:=.dic true ((ls.map Li.ky).map Al) (ls.map Li.mv)
noncomputable def Bk.mv(b:Bk):MV:=.obj 21 [15,30,31] [.lst b.ss,.lst b.ds,Ic b.ls]
noncomputable def sI:Li:=⟨"",0,0,0,0,0,false,0,0,0,0,0,0,false⟩
noncomputable def Lg(ls:List Li)(k:Ky):Li:=(ls.find? λl=>decide (l.ky=k)).getD sI
noncomputable def Bk.lic(b:Bk)(k:Ky):Li:=Lg b.ls k
def Vf(h:k∈ls.map Li.ky):Lg ls k∈ls/\(Lg ls k).ky=k:=by
 unfold Lg;cases e:ls.find? λl=>decide (l.ky=k) with
 |none=>
  obtain⟨l,hl,rfl⟩:=bB.mp h;have:=List.find?_eq_none.mp e l hl;simp at this
 |some l=>exact⟨List.mem_of_find?_eq_some e,by simpa using List.find?_some e⟩
def QD(a b:Ky):look.seqK (Al a) (Al b)=decide (a=b):=by
 show decide (Wz a=Wz b)=_;by_cases h:a=b
 ·subst h;simp
 have:Wz a≠Wz b:=λe=>h (NQ e);simp[h,this]
theorem Le:∀{ls:List Li}{k:Ky},k∈ls.map Li.ky->look ((ls.map Li.ky).map Al) (ls.map Li.mv) (Al k)=some (Lg ls k).mv
 |[],k,h=>by simp at h
 |l::ls,k,h=>by
  rw[aK,aK,aK,look,QD];unfold Lg;rw[List.find?_cons];by_cases e:l.ky=k
  ·simp[e]
  have h2:k∈ls.map Li.ky:=by
   rcases aU.mp h with h|h
   ·exact absurd h.symm e
   exact h
  rw[if_neg (by simp[e]),Le h2];simp[e,Lg]
def JQ(k:Ky):Ib true (Al k)=true:=rfl
def Ob(h:k∈ls.map Li.ky):Et true ((ls.map Li.ky).map Al) (ls.map Li.mv) (Al k)=some (some (Lg ls k).mv):=by
 unfold Et;rw[if_pos (JQ k),Le h]
@[simp]def rH{b:Bk}:D5 T.gt.cs 31 b.mv=some (Ic b.ls):=rfl
@[simp]def nZ{b:Bk}:meth T.gt.cs 10 b.mv=some 108:=rfl
@[simp]def qT{b:Bk}:meth T.gt.cs 13 b.mv=some 107:=rfl
@[simp]def oa{b:Bk}:meth T.gt.cs 20 b.mv=some 109:=rfl
def Bk.Ok.word{b:Bk}(o:b.Ok){k:Ky}(hk:k∈b.ks):AU k.1:=by
 obtain⟨h1,h2⟩:=Vf (ls:=b.ls) hk;rw[←h2];exact(o.ok _ h1).w
def Sn{b:Bk}(hk:k∈b.ks):HL (Ic b.ls) (Al k)=some (b.lic k).mv:=by
 have e:HL (.dic true ((b.ls.map Li.ky).map Al) (b.ls.map Li.mv)) (Al k)=(Et true ((b.ls.map Li.ky).map Al) (b.ls.map Li.mv) (Al k)).bind id:=by simp only[HL]
 exact e.trans (by rw[Ob hk];rfl)
def YC{b:Bk}(hk:k∈b.ks):Bh .notin (Al k) (Ic b.ls)=some false:=by
 have e:Bh .notin (Al k) (.dic true ((b.ls.map Li.ky).map Al) (b.ls.map Li.mv))=(Et true ((b.ls.map Li.ky).map Al) (b.ls.map Li.mv) (Al k)).map λo=>!o.isSome:=by simp only[Bh]
 exact e.trans (by rw[Ob hk];rfl)
def Ch{b:Bk}(o:b.Ok)(hk:k∈b.ks):Ph (n+3) 108 [.v b.mv,.v (Al k)] h=.ok (.v (b.lic k).mv) h:=by
 refine Ae (d:=d108) rfl rfl ?_;simp[d108,Ab,Rh (o.word hk),YC hk,Sn hk]
def KO{b:Bk}:Ph (n+1) 107 [.v b.mv] h=.ok (.v (.lst (b.ks.map Al))) h:=by
 refine Ae (d:=d107) rfl rfl ?_;have e:RX [Ic b.ls]=some (.lst (b.ks.map Al)):=rfl;simp[d107,Ab,e]
def D1{b:Bk}(o:b.Ok)(hk:k∈b.ks):Ph (n+6) 109 [.v b.mv,.v (Al k)] h=.ok (.v (.lst ((b.ks.filter λx=>CN (b.lic x) (b.lic k)).map Al))) h:=by
 refine Ae (d:=d109) rfl rfl ?_;simp[d109,Ab,Ch o hk,An];rw[AN (h1:=h) b.ks Al Al (λx=>CN (b.lic x) (b.lic k)) ?_ (AH (by unfold Bk.ks;rw[aC];have:=o.l12;lia)) ?_]
 ·simp
 ·have:C3 (Ic b.ls)=some (b.ks.map Al):=rfl;simp[this]
 intro x hx;refine⟨_,rfl,?_,λ_=>?_⟩
 ·simp[startC,Sn hx,Fm]
 simp[startC]
end BK45
namespace BK45
open PySem B L2
variable {n:Nat}
def CM(b:Bk)(d:Nd):Prop:=∀y∈At d,y.2.o.length<=2/\∀k∈y.2.o,k∈b.ks
def KI(o:b.Ok)(bd:Bd d)(kn:CM b d):Ph (n+7) 37 [.v b.mv,.v d.mv] h=.ok (.v .non) h:=by
 refine Ae (d:=d37) rfl rfl ?_;simp[d37,Ab,bd.wk];refine Bl (CZ BS (λ_ μ=>∃x2 x3 x4,μ=[some (.v b.mv),some (.v d.mv),x2,x3,x4]) (i:=0) ⟨_,_,_,rfl⟩ λj y μ hy ⟨x2,x3,x4,hμ⟩=>?_) λμ ⟨x2,x3,x4,hμ⟩=>?_
 ·subst hμ;refine⟨_,rfl,?_⟩;simp;refine Ho (CZ Al (λ_ μ=>∃x4,μ=[some (.v b.mv),some (.v d.mv),some (.v (.lst (y.1.map ZY))),some (.v y.2.mv),x4]) (i:=0) ⟨_,rfl⟩ λi k μ hk ⟨x4,hμ⟩=>?_) λμ ⟨x4,hμ⟩=>?_
  ·subst hμ;refine⟨_,rfl,?_⟩;simp[Ch o ((kn y (List.mem_of_getElem? hy)).2 k (List.mem_of_getElem? hk))]
  subst hμ;simp
 subst hμ;simp
def Er(o:b.Ok)(bd:Bd d)(kn:CM b d)(hk:k∈b.ks):Ph (n+8) 38 [.v b.mv,.v d.mv,.v (Al k)] h=.ok (.v .non) h:=by
 refine Ae (d:=d38) rfl rfl ?_;simp[d38,Ab,Ch o hk,KI o bd kn]
noncomputable def Qf(b:Bk)(o:List Ky)(c:Nat)(l:Li):List MV:=o.map λk=>.tup [Al k,EX (b.lic k) c l]
def GT{b:Bk}(o:b.Ok){d:Nd}(h2:d.o.length<=2)(hk:∀k∈d.o,k∈b.ks){c:Fin 4}{l:Li}:Ph (n+6) 39 [.v b.mv,.v d.mv,.v (.int c.val),.v l.mv] h=.ok (.v (.lst (Qf b d.o c.val l))) h:=by
 refine Ae (d:=d39) rfl rfl ?_;simp[d39,Ab,An];rw[Ax (h1:=h) d.o Al (λk=>.tup [Al k,EX (b.lic k) c.val l]) ?_ ?_ (AH (by lia)) ?_]
 ·simp[Qf]
 ·exact λ_ _=>rfl
 ·simp
 intro k hk';exact⟨_,rfl,by simp[startC,Ch o (hk k hk'),Ro]⟩
noncomputable def F9(b:Bk)(o:List Ky)(c:Nat)(l:Li):Bool:=o.all λk=>!Bv (b.lic k) c l
def NE(h2:o.length<=2){c:Nat}:Ph (n+1) 40 [.v (.lst (Qf b o c l))] h=.ok (.v (.bl (F9 b o c l))) h:=by
 refine Ae (d:=d40) rfl rfl ?_;simp[d40,Ab,An];rw[Ax (h1:=h) o (λk=>.tup [Al k,EX (b.lic k) c l]) (λk=>.bl (!Bv (b.lic k) c l)) ?_ ?_ (AH (by lia)) ?_]
 ·simp[all_map,F9]
 ·exact λ_ _=>rfl
 ·simp[Qf]
 intro k _;exact⟨_,rfl,by simp[startC,(MR (b.lic k) c l).is.2,JP]⟩
def KJ{b:Bk}(o:b.Ok){d:Nd}(bd:Bd d)(kn:CM b d)(hk:k∈b.ks){i:Nat}{y:Rd}(hy:(At d)[i]?=some y):Ph (n+10) 41 [.v b.mv,.v d.mv,.v (.str y.2.n),.v (Al k)] h=.ok (.v (.lst (Qf b y.2.o (AD y.1).val (b.lic k)))) h:=by
 refine Ae (d:=d41) rfl rfl ?_;have hk2:=kn y (aP hy);simp[d41,Ab,gv bd hy,Er o bd kn hk,Mv bd hy,Ch o hk,GT o hk2.1 hk2.2]
noncomputable def Df(b:Bk)(l:Li)(y:Rd):Bool:=F9 b y.2.o (AD y.1).val l
noncomputable def Wh(b:Bk)(l:Li)(y:Rd):MV:=.tup [.str y.2.n,.lst (Qf b y.2.o (AD y.1).val l)]
noncomputable def BD(b:Bk)(d:Nd)(l:Li):List Rd:=(BI d).filter (Df b l)
def Rf{b:Bk}(o:b.Ok){d:Nd}(h2:d.o.length<=2)(hk:∀k∈d.o,k∈b.ks){c:Fin 4}{l:Li}:Ph (n+7) 110 [.v b.mv,.v l.mv,.v d.mv,.v (.int c.val)] h=.ok (.v (.lst (Qf b d.o c.val l))) h:=by
 refine Ae (d:=_) rfl rfl ?_;simp[Ab,GT o h2 hk]
def KG(o:b.Ok)(bd:Bd d)(kn:CM b d):Ph (n+8) 42 [.v d.mv,.l 110 [b.mv,l.mv]] h=.ok (.v (.lst ((BD b d l).map (Wh b l)))) h:=by
 refine Ae (d:=d42) rfl rfl ?_;simp[d42,Ab,GU bd];have hs:(BI d).length<=30:=b9 (bG _ _) bd.len;have hfl:(BD b d l).map (Wh b l)=[]++(BI d).flatMap λy=>if Df b l y=true then [Wh b l y] else []:=by
  unfold BD;rw[fI]
  induction BI d with
  |nil=>rfl
  |cons y ys ih=>by_cases hy:Df b l y=true<;>simp[hy,ih]
 have hB:([]++(BI d).flatMap λy=>if Df b l y=true then [Wh b l y] else []).length<=30:=by
  rw[←hfl,aC];exact b9 (bG _ _) hs
 rw[hfl];refine Bl (DU Y8 (λy=>if Df b l y=true then [Wh b l y] else []) (λμ=>∃x3 x4 x5,μ=[some (.v d.mv),some (.l 110 [b.mv,l.mv]),some (.r (hlen h)),x3,x4,x5]) 30 ⟨_,_,_,rfl⟩ hB λy hy μ acc ⟨x3,x4,x5,hμ⟩ hl=>?_) λμ ⟨x3,x4,x5,hμ⟩=>?_
 ·subst hμ;refine⟨_,rfl,?_⟩;have hk2:=kn y ((aS.mp hy).1);by_cases hs:Df b l y=true
  ·have hl2:acc.length<big:=by simp[hs]at hl;unfold big;lia
   have hs':=hs;unfold Df at hs';simp[Rf o hk2.1 hk2.2,NE hk2.1,hs,hs',hl2,Wh]
  have hs':F9 b y.2.o (AD y.1).val l=false:=by unfold Df at hs;simpa using hs
  simp[Rf o hk2.1 hk2.2,NE hk2.1,hs,hs']
 subst hμ;simp
def KF(o:b.Ok)(bd:Bd d)(kn:CM b d)(hk:k∈b.ks):Ph (n+9) 43 [.v b.mv,.v d.mv,.v (Al k)] h=.ok (.v (.lst ((BD b d (b.lic k)).map (Wh b (b.lic k))))) h:=by
 refine Ae (d:=d43) rfl rfl ?_;simp[d43,Ab,Er o bd kn hk,Ch o hk,KG o bd kn]
end BK45
namespace BK45
open PySem B L2
variable {n:Nat}
noncomputable def Kr(b:Bk)(d:Nd)(k:Ky):Bool:=(BD b d (b.lic k)).isEmpty
noncomputable def AO(b:Bk)(d:Nd):List Ky:=b.ks.filter (Kr b d)
def Bk.Ok.len{b:Bk}(o:b.Ok):b.ks.length<=12:=by unfold Bk.ks;rw[aC];exact o.l12
def BC(h:k∈AO b d):k∈b.ks:=(aS.mp h).1
def ED{b:Bk}(o:b.Ok)(d:Nd):(AO b d).length<=12:=b9 (bG _ _) o.len
def Gi{b:Bk}(o:b.Ok){d:Nd}(bd:Bd d)(kn:CM b d):Ph (n+10) 44 [.v b.mv,.v d.mv] h=.ok (.v (.lst ((AO b d).map Al))) h:=by
 refine Ae (d:=d44) rfl rfl ?_;simp[d44,Ab,KI o bd kn,An];rw[AN (h1:=h) b.ks Al Al (Kr b d) ?_ (AH (by have:=o.len;lia)) ?_]
 ·simp[AO]
 ·simp[KO]
 intro k hk;refine⟨_,rfl,?_,λ_=>?_⟩
 ·simp[startC,KF o bd kn hk,Kr]
 simp[startC]
noncomputable def D6(b:Bk)(t:List Ky)(k:Ky):Bool:=(t.filter λx=>CN (b.lic k) (b.lic x)).all λx=>CN (b.lic x) (b.lic k)
def Mu(o:b.Ok)(ht:∀k∈t,k∈b.ks)(hl:t.length<=12)(hk:k∈b.ks):Ph (n+6) 45 [.v b.mv,.v (Al k),.v (.lst (t.map Al))] h=.ok (.v (.bl (D6 b t k))) h:=by
 refine Ae (d:=d45) rfl rfl ?_;simp[d45,Ab,Ch o hk,An];have hl2:=bG (λx=>CN (b.lic k) (b.lic x)) t;rw[AN (h1:=h) t Al (λx=>(b.lic x).mv) (λx=>CN (b.lic k) (b.lic x)) ?_ (AH (by lia)) ?_]
 ·simp[An];rw[Ax (h1:=h) (t.filter λx=>CN (b.lic k) (b.lic x)) (λx=>(b.lic x).mv) (λx=>.bl (CN (b.lic x) (b.lic k))) ?_ ?_ (AH (by lia)) ?_]
  ·have e:=all_map (λx=>CN (b.lic x) (b.lic k)) (t.filter λx=>CN (b.lic k) (b.lic x));simp only[To,L7,Ol,L6,Option.bind_some,Option.map_some,SE,e];simp[D6]
  ·exact λ_ _=>rfl
  ·simp
  intro x _;exact⟨_,rfl,by simp[startC,Fm]⟩
 ·simp
 intro x hx;refine⟨_,rfl,?_,λ_=>?_⟩
 ·simp[startC,Ch o (ht x hx),Fm]
 simp[startC,Ch o (ht x hx)]
noncomputable def Cv(b:Bk)(d:Nd):List Ky:=(AO b d).filter (D6 b (AO b d))
def Ju(o:b.Ok)(bd:Bd d)(kn:CM b d):Ph (n+11) 46 [.v b.mv,.v d.mv] h=.ok (.v (.lst ((Cv b d).map Al))) h:=by
 refine Ae (d:=d46) rfl rfl ?_;have hl:=ED o d;simp[d46,Ab,Gi o bd kn,An];rw[AN (h1:=h) (AO b d) Al Al (D6 b (AO b d)) ?_ (AH (by lia)) ?_]
 ·simp[Cv]
 ·simp
 intro k hk;refine⟨_,rfl,?_,λ_=>?_⟩
 ·simp[startC,Mu o (λk=>BC) hl (BC hk)]
 simp[startC]
end BK45
namespace BK45
open PySem B L2
variable {n:Nat}
def Nw{z:Str}(hz:AU z):PyData.strOk z=true:=by
 unfold PyData.strOk;rw[←Array.all_toList,aZ];intro c hc;have:=(hz.2.2 c hc).2;exact bY (by lia)
def GK(hk:AU k.1)(m:Nat):sh (Al k) (m+1)=true:=by
 show(sh (.str k.1) m&&(sh (.int _) m&&Co [] m))=true;unfold sh Co;simp[Nw hk]
theorem Ca{α:Type}{f:α->MV}{m:Nat}:∀{l:List α},(∀x∈l,sh (f x) m=true)->Co (l.map f) m=true
 |[],_=>by simp[Co]
 |x::l,hh=>by
  rw[aK,Co,hh x aH,Ca λy hy=>hh y (aE _ hy)];rfl
def RT(a b:Ky):Qh (Al a) (Al b)=decide (a=b):=by
 have:Qh (Al a) (Al b)=(decide (a.1=b.1)&&decide (a.2.val=b.2.val)):=by
  show PyData.eqv (.tuple [.str a.1,.int _]) (.tuple [.str b.1,.int _])=_;simp[PyData.eqv,PyData.eqvAll];by_cases h1:a.1=b.1<;>by_cases h2:a.2.val=b.2.val<;>(have h3:((a.2.val:Int)=(b.2.val:Int))=(a.2.val=b.2.val):=by {apply propext;lia})<;>simp[h1,h2,h3]
 rw[this];obtain⟨x,i⟩:=a;obtain⟨y,j⟩:=b;simp only[Prod.mk.injEq,Fin.ext_iff];by_cases h1:x=y<;>by_cases h2:i.val=j.val<;>simp[h1,h2]
def ML{k:Ky}{l:List Ky}(hk:AU k.1)(hl:∀x∈l,AU x.1):Px (Al k) (l.map Al)=some (decide (k∈l)):=by
 unfold Px;rw[if_neg (by show ¬(Ly (.tup _)&&_)=true;simp[Ly]),if_pos (by rw[GK hk,Ca λx hx=>GK (hl x hx) _];rfl)];congr 1;rw[List.any_map,bW,eN,dC];constructor
 ·rintro⟨x,hx,e⟩;simp only[Function.comp,RT,decide_eq_true_eq]at e;rw[←e];exact hx
 intro hx;exact⟨k,hx,by simp[RT]⟩
def EY{k:Ky}{l:List Ky}(hk:AU k.1)(hl:∀x∈l,AU x.1):Bh .in_ (Al k) (.lst (l.map Al))=some (decide (k∈l)):=ML hk hl
def VH{k:Ky}{l:List Ky}(hk:AU k.1)(hl:∀x∈l,AU x.1):Bh .in_ (Al k) (.tup (l.map Al))=some (decide (k∈l)):=ML hk hl
def Gu{k:Ky}{l:List Ky}(hk:AU k.1)(hl:∀x∈l,AU x.1):Bh .notin (Al k) (.lst (l.map Al))=some (!decide (k∈l)):=by
 show(Px (Al k) (l.map Al)).map (!·)=_;rw[ML hk hl];rfl
def Vb(l:List MV):Qh (.lst l) (.lst [])=l.isEmpty:=by
 cases l with
 |nil=>show PyData.eqv (.list []) (.list [])=_;simp[PyData.eqv,PyData.eqvAll]
 |cons x l=>show PyData.eqv (.list (Ey x::EF l)) (.list [])=_;simp[PyData.eqv,PyData.eqvAll]
def DB(hl:Co l 59=true):Bh .eq (.lst l) (.lst [])=some l.isEmpty/\Bh .ne (.lst l) (.lst [])=some (!l.isEmpty):=by
 have e:RZ (.lst l) (.lst [])=some l.isEmpty:=by
  unfold RZ;rw[if_neg (by simp[FF]),if_pos (by show(sh (.lst l) 60&&sh (.lst []) 60)=true;simp[sh,Co,hl]),Vb]
 exact⟨e,by show(RZ _ _).map (!·)=_;rw[e];rfl⟩
def Jp{a b:Nat}(m:Nat):sh (JW a b) m=true:=by
 rcases I9 (Builtin.bitAnd (a:Int) (Builtin.bitNot (b:Int))) with e|⟨k,e⟩<;>(unfold JW;rw[e];simp[sh])
def da(a b:Li)(m:Nat):sh (fM a b) (m+1)=true:=by
 unfold fM;split
 ·show(sh (.str _) m&&(sh (JW _ _) m&&Co [] m))=true;rw[Jp];simp[sh,Co];decide +kernel
 split
 ·show(sh (.str _) m&&(sh (JW _ _) m&&Co [] m))=true;rw[Jp];simp[sh,Co];decide +kernel
 split
 ·show(sh (.str _) m&&(sh (JW _ _) m&&Co [] m))=true;rw[Jp];simp[sh,Co];decide +kernel
 split
 ·show(sh (.str _) m&&(sh (.int _) m&&Co [] m))=true;simp[sh,Co];decide +kernel
 split
 ·show(sh (.str _) m&&Co [] m)=true;simp[sh,Co];decide +kernel
 simp[sh]
def Xx(l:Li)(c:Nat)(o:Li)(m:Nat):sh (EX l c o) (m+1)=true:=by
 unfold EX;split
 ·exact da _ _ _
 unfold dM;split
 ·simp[sh]
 show(sh (.str _) m&&(sh (JW _ _) m&&Co [] m))=true;rw[Jp];simp[sh,Co];decide +kernel
def Xw(ho:∀k∈o,AU k.1)(c:Nat)(l:Li)(m:Nat):Co (Qf b o c l) (m+2)=true:=Ca λk hk=>by
 show(sh (Al k) (m+1)&&(sh (EX _ _ _) (m+1)&&Co [] (m+1)))=true;rw[GK (ho k hk),Xx];simp[Co]
noncomputable def WC(d:Nd)(pick:Rd->Ky):MV:=.dic false ((BI d).map λy=>.str y.2.n) ((BI d).map λy=>Al (pick y))
theorem Ld{α:Type}(f:α->Str)(g:α->MV):∀{l:List α},(l.map f).Nodup->∀x∈l,look (l.map λy=>.str (f y)) (l.map g) (.str (f x))=some (g x)
 |[],_,x,hx=>by cases hx
 |y::l,nd,x,hx=>by
  rw[aK,aK,look];show(if decide ((Sum.inr (f y):Key)=Sum.inr (f x))=true then _ else _)=_;rcases aU.mp hx with rfl|hx
  ·simp
  have ne:f y≠f x:=λe=>(bX.mp nd).1 (bB.mpr ⟨x,hx,e.symm⟩);rw[if_neg (by simp[ne]),Ld f g (bX.mp nd).2 x hx]
def UY(b:Bd d):((BI d).map λy=>y.2.n).Nodup:=b.nd.sublist (iI _ gP)
def Zk(b:Bd d)(hy:y∈BI d):Qj .get (WC d pick) [.str y.2.n]=some (Al (pick y)):=by
 have e:∀ks vs k,Qj .get (.dic false ks vs) [k]=(Et false ks vs k).map λo=>o.getD .non:=λks vs k=>rfl;unfold WC;rw[e];unfold Et;rw[if_pos (show Ib false (.str y.2.n)=true from rfl),Ld (λy=>y.2.n) (λy=>Al (pick y)) (UY b) y hy];rfl
def OX{d:Nd}(hk:k∈d.o)(hw:∀x∈d.o,AU x.1):Ph (n+3) 33 [.v d.mv,.v (Al k)] h=.ok (.v (.bl true)) h:=by
 refine Ae (d:=d33) rfl rfl ?_;simp[d33,Ab,Rh (hw k hk),VH (hw k hk) hw,hk]
def OY{b:Bk}(o:b.Ok){d:Nd}(hk:∀k∈d.o,k∈b.ks)(hk2:k∈d.o){c:Fin 4}{l:Li}:Ph (n+7) 47 [.v b.mv,.v d.mv,.v (.int c.val),.v (Al k),.v l.mv] h=.ok (.v (.bl (Bv (b.lic k) c.val l))) h:=by
 refine Ae (d:=d47) rfl rfl ?_;simp[d47,Ab,OX hk2 (λx hx=>o.word (hk x hx)),Ch o (hk k hk2),UF]
def Ix{b:Bk}(o:b.Ok){d:Nd}(bd:Bd d)(kn:CM b d)(hk:k∈b.ks)(hp:∀y∈BI d,pick y∈y.2.o):Ph (n+9) 48 [.v b.mv,.v d.mv,.v (Al k),.v (WC d pick)] h=.ok (.v (.bl ((BI d).all λy=>Bv (b.lic (pick y)) (AD y.1).val (b.lic k)))) h:=by
 refine Ae (d:=d48) rfl rfl ?_;have i1:M4 T.gt.cs [WC d pick,.ty .dct]=some (.bl true):=rfl;have i2:J3 [WC d pick]=some (.int (BI d).length):=by show some (MV.int ((BI d).map _).length)=_;rw[aC]
 have i3:VM .get (WC d pick)=true:=rfl;have hl:(BI d).length<=1000:=by have:=bG (λy:Rd=>!y.2.o.isEmpty) (At d);have:=bd.len;unfold BI;lia
 simp[d48,Ab,Er o bd kn hk,GU bd,i1,i2,Ch o hk,An];rw[Ax (h1:=h) (BI d) Y8 (λy=>.bl (Bv (b.lic (pick y)) (AD y.1).val (b.lic k))) ?_ ?_ (AH hl) ?_]
 ·have e:=all_map (λy=>Bv (b.lic (pick y)) (AD y.1).val (b.lic k)) (BI d);simp only[To,L7,Ol,L6,Option.bind_some,Option.map_some,SE,e];simp
 ·exact λ_ _=>rfl
 ·simp
 intro y hy;have hk2:=kn y (aS.mp hy).1;exact⟨_,rfl,by simp[startC,i3,Zk bd hy,OY o hk2.2 (hp y hy)]⟩
end BK45
namespace BK45
open PySem B L2 PyProof.Rows
variable {n:Nat}
structure Bx where
 a:Int
 c:Int
 t:Int
noncomputable def Av(x:Bx):MO:=.lst [.int x.a,.int x.c,.int x.t]
noncomputable def Bt(x:Bx)(m:Int):Int:=if 0<x.a then x.a%m else BF x.c (x.t+1)%m
noncomputable def Br(x:Bx)(m:Int):Bx:=if 0<x.a then⟨x.a / m,x.c,x.t⟩ else⟨x.a,x.c,x.t+1⟩
noncomputable def PP(c:Int):Bx:=⟨if 1000000000000000000<=c then c else 0,c%2147483647,0⟩
def C1{m:Int}(hm:0<m):0<=Bt x m:=by unfold Bt;split<;>exact c8 _ (by lia)
def Ea{m:Int}(hm:0<m):Bt x m<m:=by unfold Bt;split<;>exact bQ _ hm
def Gk{c:Int}:Ph (n+1) 56 [.v (.int c)] h=.ok (.r (hlen h)) (hnew h (Av (PP c))):=by
 refine Ae (d:=d56) rfl rfl ?_;by_cases hc:1000000000000000000<=c
 ·simp[d56,Ab,hc,C9,Av,PP]
 simp[d56,Ab,hc,C9,Av,PP]
def EH{b:Nat}{m:Int}(hb:hat h b=some (Av x))(hm:0<m)(hm2:m<2^64):Ph (n+2) 57 [.r b,.v (.int m)] h=.ok (.v (.int (Bt x m))) (AQ h b (Av (Br x m))):=by
 refine Ae (d:=d57) rfl rfl ?_;have hb2:=MM hb;have hm3:m<10000000000000000000000000000000000000000:=by lia
 unfold Av at hb ⊢;by_cases ha:0<x.a
 ·simp[d57,Ab,hb,ha,hm,hm3,hb2,Bt,Br]
 simp[d57,Ab,hb,ha,hm,hb2,EO,Bt,Br]
def tk1{m:Int}(hm:0<m)(hm2:m<2^64):Ph (n+2) 57 [.r (hlen h),.v (.int m)] (hnew h (Av x))=.ok (.v (.int (Bt x m))) (hnew h (Av (Br x m))):=by
 rw[EH B5 hm hm2,Bu]
def tk2{m:Int}(hm:0<m)(hm2:m<2^64):Ph (n+2) 57 [.r (hlen h),.v (.int m)] (hnew (hnew h (Av x)) o)=.ok (.v (.int (Bt x m))) (hnew (hnew h (Av (Br x m))) o):=by
 rw[EH (x:=x) (by rw[DT (by simp)];exact B5) hm hm2,CG (by simp),Bu]
def be{m:Int}(hm:0<m)(hm2:m<2^64):Ph (n+2) 57 [.r (hlen h),.v (.int m)] (hnew (hnew (hnew h (Av x)) o) o')=.ok (.v (.int (Bt x m))) (hnew (hnew (hnew h (Av (Br x m))) o) o'):=by
 rw[EH (x:=x) (by rw[DT (by simp;lia),DT (by simp)];exact B5) hm hm2,CG (by simp;lia),CG (by simp),Bu]
theorem NV:∀(zs:List Nat) (acc:Array Nat),(zs.map λc=>(⟨#[c]⟩:Str)).foldl (λacc p=>acc++Str.empty.cps++p.cps) acc=acc++zs.toArray
 |[],acc=>by simp
 |c::r,acc=>by
  rw[aK,iK,NV r];show acc++ #[]++ #[c]++r.toArray=acc++(c::r).toArray;simp
def MF(zs:List Nat)(sep:Str)(hs:sep=Str.empty):Txt.join sep (zs.map λc=>(⟨#[c]⟩:Str))=⟨zs.toArray⟩:=by
 subst hs;cases zs with
 |nil=>rfl
 |cons c r=>
  show(⟨(r.map λc=>(⟨#[c]⟩:Str)).foldl (λacc p=>acc++Str.empty.cps++p.cps) #[c]⟩:Str)=_;rw[NV];simp
def K1{z:Str}{i:Nat}(h:i<=z.cps.toList.length):Txt.slice z none (some (i:Int))=⟨(z.cps.toList.take i).toArray⟩:=by
 have:=slice_closes_to (x:=z) (j:=i) ⟨by lia,by lia⟩;have:=aR.mp this;rw[this];simp
def Mg{z:Str}{i:Nat}(h:i<=z.cps.toList.length):Txt.slice z (some (i:Int)) none=⟨(z.cps.toList.drop i).toArray⟩:=by
 have hz:z.length=z.cps.toList.length:=by simp[Str.length]
 rw[slice_from_eq (x:=z) (i:=i) (b:=z.length) (by lia) (by lia) rfl];congr 2;rw[iO]
 ·simp
 rw[eI];have:z.cps.toList.length=z.length:=hz.symm
 lia
def Hy(A B:List Nat):(⟨A.toArray⟩:Str)++(⟨B.toArray⟩:Str)=⟨(A++B).toArray⟩:=by
 show(⟨A.toArray++B.toArray⟩:Str)=_;simp
noncomputable abbrev O4:Str:=Str.ofString "abcdefghijklmnopqrstuvwxyz"
def Jh{L:List Nat}(h1:1<=L.length)(h2:L.length<=8)(h3:∀c∈L,BX c):AU ⟨L.toArray⟩:=⟨by show 1<=L.toArray.size;simpa using h1,by show L.toArray.size<=8;simpa using h2,by simpa using h3⟩
def Ka:∀n:Fin 26,B4 O4.cps.toList (n.val:Int)=some (97+n.val):=by decide +kernel
def O3{r r':Int}(h0:0<=r)(h1:r<26)(h0':0<=r')(h1':r'<26)(e:B4 O4.cps.toList r=B4 O4.cps.toList r'):r=r':=by
 obtain⟨n,rfl⟩:∃n:Nat,r=(n:Int):=⟨r.toNat,by lia⟩;obtain⟨n',rfl⟩:∃n:Nat,r'=(n:Int):=⟨r'.toNat,by lia⟩;have a:=Ka ⟨n,by lia⟩;have b:=Ka ⟨n',by lia⟩;dsimp only at a b;rw[a,b]at e;have:=bJ e
 lia
def ZD{r:Int}(h0:0<=r)(h1:r<26):∃c,B4 O4.cps.toList r=some c/\BX c:=by
 obtain⟨n,rfl⟩:∃n:Nat,r=(n:Int):=⟨r.toNat,by lia⟩;exact⟨_,Ka ⟨n,by lia⟩,by unfold BX;dsimp only;lia⟩
def PX(pos:Nat)(first:Int)(L:Nat)(us:List Str):Prop:=∀(j:Nat) (z:Str),us[j]?=some z->(j<26->z.cps.toList[pos]?=B4 O4.cps.toList ((first+7*(0+(j:Int)))%26)/\z.length≠L)/\(26<=j->z.cps.toList[0]?=B4 O4.cps.toList ((first+7*(0+(j:Int)))%26)/\z.length=L)
def PX.snoc{pos L:Nat}{first:Int}{z:Str}(h:PX pos first L us)(e:us.length<26->z.cps.toList[pos]?=B4 O4.cps.toList ((first+7*(0+(us.length:Int)))%26)/\z.length≠L)(e':26<=us.length->z.cps.toList[0]?=B4 O4.cps.toList ((first+7*(0+(us.length:Int)))%26)/\z.length=L):PX pos first L (us++ [z]):=λj y hy=>by
 by_cases hj:j<us.length
 ·rw[aO hj]at hy;exact h j y hy
 have hj2:j=us.length:=by
  have:=(a9.mp hy).1;rw[aV,dP]at this
  lia
 subst hj2;rw[aQ (aI _),fP]at hy;cases hy;exact⟨e,e'⟩
def PX.nodup{pos L:Nat}{first:Int}(h:PX pos first L us)(hl:us.length<=31):us.Nodup:=by
 rw[List.Nodup,bC];intro i j hi hj hij e;have a:=h i us[i] (aN hi);have b:=h j us[j] (aN hj);rw[e]at a;by_cases h1:i<26
 ·by_cases h2:j<26
  ·have a:=(a.1 h1).1;rw[(b.1 h2).1]at a;have:=O3 (c8 _ (by decide)) (bQ _ (by decide)) (c8 _ (by decide)) (bQ _ (by decide)) a
   lia
  exact(a.1 h1).2 (b.2 (by lia)).2
 have a:=(a.2 (by lia)).1;rw[(b.2 (by lia)).1]at a;have:=O3 (c8 _ (by decide)) (bQ _ (by decide)) (c8 _ (by decide)) (bQ _ (by decide)) a
 lia
def ZX:BU 3 (Str.ofString "qz")=⟨([113,122,113,122,113,122]:List Nat).toArray⟩:=by decide +kernel
def x1:BU 1 (Str.ofString "x")=⟨([120]:List Nat).toArray⟩:=by decide +kernel
def x0:BU 0 (Str.ofString "x")=⟨([]:List Nat).toArray⟩:=by decide +kernel
def jh{c:Nat}(low:BX c)(k:Nat)(hk:k=0\/k=1):AU (⟨#[c]⟩++BU 3 (Str.ofString "qz")++BU k (Str.ofString "x"):Str)/\(⟨#[c]⟩++BU 3 (Str.ofString "qz")++BU k (Str.ofString "x"):Str).length=7+k/\(⟨#[c]⟩++BU 3 (Str.ofString "qz")++BU k (Str.ofString "x"):Str).cps.toList[0]?=some c:=by
 rcases hk with rfl|rfl
 ·rw[ZX,x0,show(⟨#[c]⟩:Str)=⟨([c]:List Nat).toArray⟩ from rfl,Hy,Hy];refine⟨Jh (by simp) (by simp) (by simp[low];unfold BX;decide),by rfl,by simp⟩
 rw[ZX,x1,show(⟨#[c]⟩:Str)=⟨([c]:List Nat).toArray⟩ from rfl,Hy,Hy];refine⟨Jh (by simp) (by simp) (by simp[low];unfold BX;decide),by rfl,by simp⟩
end BK45
namespace B
open PySem L2 PySem.SeqAt
section
@[simp]def S8:hat (hnew (hnew h a) b) (hlen h+1)=some b:=by rw[←B3 (o:=a)];exact B5
@[simp]def o9:hat (hnew (hnew (hnew h a) b) c) (hlen h+2)=some c:=by rw[show hlen h+2=hlen (hnew (hnew h a) b) from by rw[B3,B3]];exact B5
@[simp]def lF:AQ (hnew (hnew h a) b) (hlen h+1) o=hnew (hnew h a) o:=by rw[←B3 (o:=a)];exact Bu
@[simp]def lE:AQ (hnew (hnew (hnew h a) b) c) (hlen h+2) o=hnew (hnew (hnew h a) b) o:=by rw[show hlen h+2=hlen (hnew (hnew h a) b) from by rw[B3,B3]];exact Bu
@[simp]def lH:Fv (hnew (hnew h a) b) (hlen h+1+1)=hnew (hnew h a) b:=by rw[←B3 (o:=a)];exact IK
@[simp]def lG:Fv (hnew (hnew (hnew h a) b) c) (hlen h+1+1+1)=hnew (hnew (hnew h a) b) c:=by rw[←B3 (o:=a),←B3 (o:=b)];exact IK
end
def ah(s:SR)(P:En->MH->Prop):Prop:=∃μ h,s=some (.nx μ,h)/\P μ h
@[simp]def oA:ah (some (.nx μ,h)) P=P μ h:=by
  apply propext;constructor
  ·rintro⟨μ',h',e,p⟩
   injection e with e
   injection e with e1 e2
   injection e1 with e1
   exact e1▸e2▸p
  exact λp=>⟨μ,h,rfl,p⟩
def Eh(r:AI R)(h:MH)(Q:MV->Prop):Prop:=∃m,r=.ok (.v m) h/\Q m
@[simp]def jv:Eh (.ok (.v m) h) H Q=(h=H/\Q m):=by
  apply propext;constructor
  ·rintro⟨m',e,p⟩
   injection e with e1 e2
   injection e1 with e1
   exact⟨e2,e1▸p⟩
  rintro⟨rfl,p⟩;exact⟨m,rfl,p⟩
def Ce{n:Nat}(a:ah s P)(r:∀μ h,P μ h->Eh (fin n (k μ h)) H Q):Eh (fin n (seqK (x:=s) k)) H Q:=by
 obtain⟨μ,h,rfl,p⟩:=a;exact r μ h p
def D0{n f:Nat}(hd:ds[f]?=some d)(hl:rs.length=d.ps.length)(e:Eh (fin (hlen h) (exs G.cs (EM G ds n) G.ini G.cf d.body (Ab d.N.length rs) h)) H Q):Eh (EM G ds (n+1) f rs h) H Q:=by
 rw[Ae hd hl rfl];exact e
def Kf(r:AI R)(Q:MV->MH->Prop):Prop:=∃m h,r=.ok (.v m) h/\Q m h
@[simp]def lJ:Kf (.ok (.v m) h) Q=Q m h:=by
  apply propext;constructor
  ·rintro⟨m',h',e,p⟩
   injection e with e1 e2
   injection e1 with e1
   exact e1▸e2▸p
  exact λp=>⟨m,h,rfl,p⟩
def EV{n:Nat}(a:ah s P)(r:∀μ h,P μ h->Kf (fin n (k μ h)) Q):Kf (fin n (seqK (x:=s) k)) Q:=by
 obtain⟨μ,h,rfl,p⟩:=a;exact r μ h p
def Gj{n f:Nat}(hd:ds[f]?=some d)(hl:rs.length=d.ps.length)(e:Kf (fin (hlen h) (exs G.cs (EM G ds n) G.ini G.cf d.body (Ab d.N.length rs) h)) Q):Kf (EM G ds (n+1) f rs h) Q:=by
 rw[Ae hd hl rfl];exact e
def FR{α:Type}{t:MT}{b:Sf}{xs:List α}{μ:En}{h:MH}(g:α->MV)(P:Nat->En->MH->Prop)(p:P 0 μ h)(st:∀j x μ h,xs[j]?=some x->P j μ h->∃μ1,AX t (g x) μ=some μ1/\ah (b μ1 h) (P (j+1))):ah (AM none (xs.map g) t b (xs.map g) μ h) (P xs.length):=by
 obtain⟨μ',h',e,q⟩:=SC (t:=t) (b:=b) (l:=xs.map g) (μ:=μ) (h:=h) P p λj m μ h hm hp=>by
  rw[aJ]at hm;obtain⟨x,hx,rfl⟩:=aG.mp hm;obtain⟨μ1,e1,μ2,h2,e2,e3⟩:=st j x μ h hx hp;exact⟨μ1,μ2,h2,e1,e2,e3⟩
 exact⟨μ',h',e,by rwa[aC]at q⟩
def Nc{α:Type}{k q:Nat}{js:List Nat}{tg:MT}{fi:En->MH->AI Wk}{tc:Tf}{te:Ef}{μ:En}{h h1:MH}(xs:List α)(f g:α->MV)(p:α->Bool)(hi:fi μ h=.ok ⟨xs.map f,some q⟩ h1)(hq:hat h1 q=some (.lst (xs.map f)))(hl:xs.length<=big)(st:∀x∈xs,∃μ1,AX tg (f x) (startC k js μ)=some μ1/\tc μ1 h1=.ok (p x) h1/\(p x=true->te μ1 h1=.ok (.v (g x)) h1)):BZ k js tg fi tc te μ h=.ok (.v (.lst ((xs.filter p).map g))) h1:=by
 unfold BZ;rw[hi,AS];show(if (xs.map f).length<=big then(compLoop (some q) (xs.map f) tg (startC k js μ) tc te (xs.map f) [] h1).bind λl h2=>AI.ok (R.v (.lst l)) h2 else .no)=_;rw[aC,if_pos hl];have sk:Bs (some q) (xs.map f) h1=true:=by
  simp only[Bs,decide_eq_true_eq];exact hq
 have:∀(ys:List α) (acc:List MV),(∀x∈ys,x∈xs)->compLoop (some q) (xs.map f) tg (startC k js μ) tc te (ys.map f) acc h1=.ok (acc++(ys.filter p).map g) h1:=by
  intro ys
  induction ys with
  |nil=>intro acc _;simp[compLoop,sk]
  |cons y ys ih=>
   intro acc hs;obtain⟨μ1,e1,e2,e3⟩:=st y (hs y aH);rw[aK];unfold compLoop;simp only[sk,if_true,e1,e2,AS];by_cases hp:p y=true
   ·rw[if_pos hp,e3 hp];simp only[AS];rw[ih _ λx hx=>hs x (aE _ hx)];simp[hp]
   rw[if_neg hp,ih _ λx hx=>hs x (aE _ hx)];simp[hp]
 rw[this xs _ λ_ h=>h];rfl
end B
namespace BK45
open PySem B L2 PyProof.Rows
variable {n:Nat}
def PB{α:Type}{k:Nat}{js:List Nat}{tg:MT}{fi:En->MH->AI Wk}{tc:Tf}{te:Ef}{μ:En}{h h1:MH}(xs:List α)(f:α->MV)(I:MH->Prop)(Q:MV->Prop)(htc:∀μ h,tc μ h=.ok true h)(hi:fi μ h=.ok ⟨xs.map f,none⟩ h1)(hl:xs.length<=big)(hI:I h1)(st:∀x∈xs,∀h,I h->E3 λμ1 m h'=>A4 (AX tg (f x) (startC k js μ)=some μ1) (te μ1 h=.ok (.v m) h') (Q m) (I h')):E2 λms h'=>A4 (BZ k js tg fi tc te μ h=.ok (.v (.lst ms)) h') (I h') (ms.length=xs.length) (∀m∈ms,Q m):=by
 have key:∀(ys:List α) (all acc:List MV) (h:MH),I h->(∀x∈ys,x∈xs)->(∀m∈acc,Q m)->∃ms h',compLoop none all tg (startC k js μ) tc te (ys.map f) acc h=.ok ms h'/\I h'/\ms.length=acc.length+ys.length/\∀m∈ms,Q m:=by
  intro ys
  induction ys with
  |nil=>intro all acc h hI _ hq;exact⟨acc,h,by simp[compLoop,Bs],hI,rfl,hq⟩
  |cons y ys ih=>
   intro all acc h hI hs hq;obtain⟨μ1,m,h',e1,e2,q,i2⟩:=st y (hs y aH) h hI;obtain⟨ms,h2,e3,i3,l3,q3⟩:=ih all (acc++ [m]) h' i2 (λx hx=>hs x (aE _ hx)) (λz hz=>by
    rcases bT.mp hz with hz|hz
    ·exact hq z hz
    rw[bA.mp hz];exact q)
   refine⟨ms,h2,?_,i3,by rw[l3];simp;lia,q3⟩;rw[aK];unfold compLoop;simp only[Bs,if_true,e1,htc,AS,e2];exact e3
 obtain⟨ms,h',e,i,l,q⟩:=key xs (xs.map f) [] h1 hI (λ_ h=>h) (λ_ h=>by cases h);refine⟨ms,h',?_,i,by simpa using l,q⟩;unfold BZ;rw[hi,AS];show(if (xs.map f).length<=big then(compLoop none (xs.map f) tg (startC k js μ) tc te (xs.map f) [] h1).bind λl h2=>AI.ok (R.v (.lst l)) h2 else .no)=_;rw[aC,if_pos hl,e];rfl
theorem GF:∀zs:List Nat,Ek (zs.map λc=>.str ⟨#[c]⟩)=some (zs.map λc=>⟨#[c]⟩)
 |[]=>rfl
 |c::zs=>by rw[aK,Ek,GF zs];rfl
theorem K2:∀{ms:List MV},(∀m∈ms,∃c,BX c/\m=.str ⟨#[c]⟩)->∃zs:List Nat,ms=zs.map (λc=>.str ⟨#[c]⟩)/\∀c∈zs,BX c
 |[],_=>⟨[],rfl,λ_ h=>by cases h⟩
 |m::ms,hh=>by
  obtain⟨c,hc,rfl⟩:=hh m aH;obtain⟨zs,rfl,hz⟩:=K2 λx hx=>hh x (aE _ hx);exact⟨c::zs,rfl,λx hx=>by
   rcases aU.mp hx with rfl|hx
   ·exact hc
   exact hz x hx⟩
def HZ{zs:List Nat}(h7:zs.length<=7):Qj .join (.str "") [.lst (zs.map λc=>.str ⟨#[c]⟩)]=some (.str ⟨zs.toArray⟩):=by
 have e:∀l,Qj .join (.str "") [.lst l]=(Ek l).bind λys=>if (ys.map (·.length)).sum+ys.length*(Str.ofString "").length<=16777216 then some (.str (Txt.join "" ys)) else none:=λl=>rfl;rw[e,GF,iH,if_pos,MF _ _ (by decide +kernel)];have:((zs.map λc=>(⟨#[c]⟩:Str)).map (·.length)).sum=zs.length:=by
  induction zs with
  |nil=>rfl
  |cons c zs ih=>simp at h7;simp only[List.map_cons,List.sum_cons,List.length_cons,ih (by lia)];show 1+_=_;lia
 rw[this,show(Str.ofString "").length=0 from by decide +kernel]
 lia
def K6{j:Int}(h0:0<=j)(h1:j<=1000):Em [.v (.int j)]=some ⟨(List.range j.toNat).map λ(i:Nat)=>MV.int (i:Int),none⟩:=by
 have: -(2^62)<=j/\j<2^62:=by lia
 have e:Em [.v (.int j)]=if -(2^62)<=j/\j<2^62 then some ⟨BM 0 j.toNat,none⟩ else none:=rfl;rw[e,if_pos this];unfold BM;congr 2;apply fH;intro i _;rw[iV]
def Fd:O4.length<=big:=by decide +kernel
def So{r:Int}(h0:0<=r)(h1:r<26):∃c,HL (.str O4) (.int r)=some (.str ⟨#[c]⟩)/\BX c/\B4 O4.cps.toList r=some c:=by
 obtain⟨c,e,hc⟩:=ZD h0 h1;refine⟨c,?_,hc,e⟩;have:∀z r,HL (.str z) (.int r)=if z.length<=big then(B4 z.cps.toList r).map λc=>.str ⟨#[c]⟩ else none:=λ_ _=>by simp only[HL,M5]
 rw[this,if_pos Fd,e];rfl
def Ex{a b:Str}(hl:a.length+b.length<=100):Bz .add (.str a) (.str b)=some (.str (a++b)):=by
 rw[LN,if_pos (b9 hl (by decide))]
def ES(a b:Str):(a++b).length=a.length+b.length:=Array.size_append
def RP(x:Str)(n:Int):Bz .mul (.str x) (.int n)=if 0<=n/\n<=100/\x.length<=100 then some (.str (BU n.toNat x)) else none:=rfl
def Wr:Bz .mul (.str (Str.ofString "qz")) (.int 3)=some (.str (BU 3 (Str.ofString "qz"))):=by
 rw[RP,if_pos (by decide +kernel)];rfl
def VZ{k:Nat}(hk:k=0\/k=1):Bz .mul (.str (Str.ofString "x")) (.int k)=some (.str (BU k (Str.ofString "x"))):=by
 rw[RP,if_pos (by rcases hk with rfl|rfl<;>decide +kernel)];rfl
def CD(L:List Nat):(⟨L.toArray⟩:Str).length=L.length:=aY
def O8{z:Str}(h:∀x∈us,AU x)(hz:AU z):∀x∈us++ [z],AU x:=λx hx=>by
 rcases bT.mp hx with hx|hx
 ·exact h x hx
 rw[bA.mp hx];exact hz
def WP(c:Int)(m:Nat)(size at_ way first:Int)(zs:List Nat)(h:MH)(i:Nat)(μ:En)(h':MH):Prop:=E4 λ(x:Bx) (us:List Str) (v10 v11:Option R)=>A5 (μ=[some (.v (.int c)),some (.v (.int m)),some (.v (.str O4)),some (.r (hlen h)),some (.v (.int size)),some (.v (.int at_)),some (.v (.int way)),some (.v (.str ⟨zs.toArray⟩)),some (.v (.int first)),some (.r (hlen h+1)),v10,v11]) (h'=hnew (hnew h (Av x)) (.lst (us.map MV.str))) (us.length=i) (∀z∈us,AU z) (PX (if way=0 then at_.toNat else 0) first (if size=7 then 7 else 8) us)
def GR(c:Int){m:Nat}(hm:m<=31):Eh (Ph (n+3) 58 [.v (.int c),.v (.int m)] h) h λr=>∃zs:List Str,r=.lst (zs.map MV.str)/\zs.length=m/\(∀z∈zs,AU z)/\zs.Nodup:=by
 let b1:=Br (PP c) 8
 let size:=Bt (PP c) 8
 have s0:0<=size:=C1 (by decide);have s1:size<8:=Ea (by decide)
 let b2:=Br b1 (size+1)
 let at_:=Bt b1 (size+1)
 have a0:0<=at_:=C1 (by lia);have a1:at_<size+1:=Ea (by lia)
 let b3:=Br b2 2
 let way:=Bt b2 2
 have T1:Ph (n+2) 57 [.r (hlen h),.v (.int 8)] (hnew h (Av (PP c)))=.ok (.v (.int size)) (hnew h (Av b1)):=tk1 (by decide) (by decide);have T2:Ph (n+2) 57 [.r (hlen h),.v (.int (size+1))] (hnew h (Av b1))=.ok (.v (.int at_)) (hnew h (Av b2)):=tk1 (by lia) (by lia);have T3:Ph (n+2) 57 [.r (hlen h),.v (.int 2)] (hnew h (Av b2))=.ok (.v (.int way)) (hnew h (Av b3)):=tk1 (by decide) (by decide)
 clear_value b1 size b2 at_ b3 way
 obtain⟨ms,h',eB,⟨x4,rfl⟩,lB,qB⟩:=PB (k:=1) (js:=[2,3]) (tg:=.nm 0) (fi:=SJ T.gt.cs (Ph (n+2)) T.gt.ini T.gt.cf (.rng1 (.var 4))) (tc:=OE T.gt.cs (Ph (n+2)) T.gt.ini T.gt.cf .nil) (te:=(e2 T.gt.cs (Ph (n+2)) T.gt.ini T.gt.cf (.idx (.var 1) (.call 57 (.cons (.var 2) (.cons (.con (.int 26)) .nil))))).1) (μ:=[some (.v (.int c)),some (.v (.int m)),some (.v (.str O4)),some (.r (hlen h)),some (.v (.int size)),some (.v (.int at_)),some (.v (.int way)),none,none,none,none,none]) (h:=hnew h (Av b3)) (h1:=hnew h (Av b3)) (List.range size.toNat) (λ(i:Nat)=>MV.int (i:Int)) (λh'=>∃x,h'=hnew h (Av x)) (λm=>∃c,BX c/\m=.str ⟨#[c]⟩) (λ_ _=>rfl)
  (by simp[K6 s0 (show size<=1000 by lia)])
  (by rw[bE];exact AH (by lia)) ⟨_,rfl⟩ (λi _ h' ⟨x,hx⟩=>by
   subst hx;obtain⟨c',e1,e2,_⟩:=So (r:=Bt x 26) (C1 (by decide)) (Ea (by decide));refine⟨_,.str ⟨#[c']⟩,_,rfl,?_,⟨c',e2,rfl⟩,Br x 26,rfl⟩;simp[startC,tk1,e1])
 obtain⟨zs,rfl,hz⟩:=K2 qB;rw[bE,aC]at lB
 let x5:=Br x4 26
 let first:=Bt x4 26
 have T4:Ph (n+2) 57 [.r (hlen h),.v (.int 26)] (hnew h (Av x4))=.ok (.v (.int first)) (hnew h (Av x5)):=tk1 (by decide) (by decide)
 clear_value x5 first
 have eJ:=HZ (zs:=zs) (by lia);have i3:∀z:Str,VM .join (.str z)=true:=λ_=>rfl;refine D0 (d:=d58) rfl rfl ?_;simp -implicitDefEqProofs [d58,Ab,Gk,T1,T2,T3,An,eB,i3,eJ,T4,K6 (Int.natCast_nonneg m) (show(m:Int)<=1000 by lia)];refine Ce (FR (λ(i:Nat)=>MV.int (i:Int)) (WP c m size at_ way first zs h) ⟨x5,[],none,none,rfl,rfl,rfl,(λ_ h=>by cases h),(λj z hj=>by simp at hj)⟩ ?_) ?_
 ·rintro j i μ h' hi ⟨x,us,v10,v11,rfl,rfl,hul0,hall,lett⟩;obtain⟨hj,e⟩:=a9.mp hi;rw[bE]at hj;rw[dL]at e;subst e;refine⟨_,rfl,?_⟩;have r0:0<=(first+7*(j:Int))%26:=c8 _ (by decide);have r1:(first+7*(j:Int))%26<26:=bQ _ (by decide);obtain⟨c1,e1,low,e2⟩:=So r0 r1;have m7:Dh 7 (j:Int)=true:=KY (by decide) (by decide);have hul:us.length<big:=by unfold big;lia
  have zl:(⟨zs.toArray⟩:Str).length=zs.length:=CD zs;have zb:(⟨zs.toArray⟩:Str).length<=big:=by rw[zl];unfold big;lia
  have c1l:(⟨#[c1]⟩:Str).length=1:=rfl;have fin:∀(x':Bx) (z:Str) (y v:Option R),AU z->(us.length<26->z.cps.toList[if way=0 then at_.toNat else 0]?=some c1/\z.length≠(if size=7 then 7 else 8))->(26<=us.length->z.cps.toList[0]?=some c1/\z.length=(if size=7 then 7 else 8))->WP c m size at_ way first zs h (j+1) [some (.v (.int c)),some (.v (.int m)),some (.v (.str O4)),some (.r (hlen h)),some (.v (.int size)),some (.v (.int at_)),some (.v (.int way)),some (.v (.str ⟨zs.toArray⟩)),some (.v (.int first)),some (.r (hlen h+1)),y,v] (hnew (hnew h (Av x')) (.lst (us.map MV.str++ [.str z]))):=λx' z y v hz l1 l2=>by
   refine⟨x',us++ [z],y,v,rfl,by rw[bL];rfl,by rw[aV,hul0];rfl,O8 hall hz,lett.snoc (λq=>?_) (λq=>?_)⟩
   ·rw[hul0,iV,e2];exact l1 q
   rw[hul0,iV,e2];exact l2 q
  by_cases h25:25<(j:Int)
  ·by_cases h7:size=7
   ·have w:=jh low 0 (.inl rfl);have A1:Bz .add (.str ⟨#[c1]⟩) (.str (BU 3 (Str.ofString "qz")))=_:=Ex (by rw[ZX,CD];show 1+6<=100;decide);have A2:Bz .add (.str (⟨#[c1]⟩++BU 3 (Str.ofString "qz"))) (.str (BU 0 (Str.ofString "x")))=_:=Ex (by rw[ES,ZX,x0,CD,CD];show 1+6+0<=100;decide);have X:Bz .mul (.str (Str.ofString "x")) (.int 0)=_:=VZ (k:=0) (.inl rfl);have F:=fin x _ (some (.v (.int j))) (some (.v (.str ⟨#[c1]⟩))) w.1 (λq=>by lia) (λq=>⟨w.2.2,by rw[w.2.1,if_pos h7]⟩);rw[h7]at F ⊢;simp[e2,Fd,m7,h25,Wr,A1,A2,X,hul,-LN];exact F
   have w:=jh low 1 (.inr rfl);have A1:Bz .add (.str ⟨#[c1]⟩) (.str (BU 3 (Str.ofString "qz")))=_:=Ex (by rw[ZX,CD];show 1+6<=100;decide);have A2:Bz .add (.str (⟨#[c1]⟩++BU 3 (Str.ofString "qz"))) (.str (BU 1 (Str.ofString "x")))=_:=Ex (by rw[ES,ZX,x1,CD,CD];show 1+6+1<=100;decide);have X:Bz .mul (.str (Str.ofString "x")) (.int 1)=_:=VZ (k:=1) (.inr rfl);have F:=fin x _ (some (.v (.int j))) (some (.v (.str ⟨#[c1]⟩))) w.1 (λq=>by lia) (λq=>⟨w.2.2,by rw[w.2.1,if_neg h7]⟩);simp[e2,Fd,m7,h25,h7,Wr,A1,A2,X,hul,-LN];exact F
  by_cases hw:way=0
  ·have hat2:at_=(at_.toNat:Int):=by lia
   have hale:at_.toNat<=zs.length:=by lia
   have S1:Txt.slice ⟨zs.toArray⟩ none (some at_)=⟨(zs.take at_.toNat).toArray⟩:=by rw[hat2];exact K1 (z:=⟨zs.toArray⟩) (by simpa using hale)
   have S2:Txt.slice ⟨zs.toArray⟩ (some at_) none=⟨(zs.drop at_.toNat).toArray⟩:=by rw[hat2];exact Mg (z:=⟨zs.toArray⟩) (by simpa using hale)
   have M:∀lo hi,Gb (.str ⟨zs.toArray⟩) lo hi=some (.str (Txt.slice ⟨zs.toArray⟩ lo hi)):=λlo hi=>by show(if _ then _ else _)=_;rw[if_pos zb]
   have c1e:(⟨#[c1]⟩:Str)=⟨[c1].toArray⟩:=rfl;have A1:Bz .add (.str ⟨(zs.take at_.toNat).toArray⟩) (.str ⟨#[c1]⟩)=_:=Ex (by simp only[ES,CD,c1l,List.length_take,List.length_drop,List.length_cons,List.length_nil];lia);have A2:Bz .add (.str (⟨(zs.take at_.toNat).toArray⟩++⟨#[c1]⟩)) (.str ⟨(zs.drop at_.toNat).toArray⟩)=_:=Ex (by simp only[ES,CD,c1l,List.length_take,List.length_drop,List.length_cons,List.length_nil];lia);have ez:(⟨(zs.take at_.toNat).toArray⟩++⟨#[c1]⟩++⟨(zs.drop at_.toNat).toArray⟩:Str)=⟨(zs.take at_.toNat++ [c1]++zs.drop at_.toNat).toArray⟩:=by rw[c1e,Hy,Hy]
   have lz:(zs.take at_.toNat++ [c1]++zs.drop at_.toNat).length=zs.length+1:=by simp;lia
   have F:=fin x (⟨(zs.take at_.toNat).toArray⟩++⟨#[c1]⟩++⟨(zs.drop at_.toNat).toArray⟩) (some (.v (.int j))) (some (.v (.str ⟨#[c1]⟩))) (by
    rw[ez];refine Jh (by lia) (by lia) λy hy=>?_;rcases bT.mp hy with hy|hy
    ·rcases bT.mp hy with hy|hy
     ·exact hz y (eD hy)
     rw[bA.mp hy];exact low
    ·exact hz y (gL hy)) (λq=>by
    rw[ez,if_pos hw];refine⟨?_,by rw[CD,lz];split<;>lia⟩;show(zs.take at_.toNat++ [c1]++zs.drop at_.toNat)[at_.toNat]?=_;rw[dE,aQ (by rw[bD];lia),bD,Nat.min_eq_left hale,fP];rfl) (λq=>by lia)
   simp[e2,Fd,m7,h25,hw,M,S1,S2,A1,A2,hul,-LN];rw[hw]at F;exact F
  have t0:0<=Bt x ((if 5<size then 5 else size)+1):=C1 (by split<;>lia);have t1:Bt x ((if 5<size then 5 else size)+1)<(if 5<size then 5 else size)+1:=Ea (by split<;>lia);have TK:=tk2 (n:=n) (h:=h) (x:=x) (m:=(if 5<size then 5 else size)+1) (o:=.lst (us.map MV.str)) (by split<;>lia) (by split<;>lia);generalize Bt x ((if 5<size then 5 else size)+1)=t at t0 t1 TK;generalize Br x ((if 5<size then 5 else size)+1)=x' at TK;have ht2:t=(t.toNat:Int):=by lia
  have hale:t.toNat<=zs.length:=by split at t1<;>lia
  have ht5:t.toNat<=5:=by split at t1<;>lia
  have S1:Txt.slice ⟨zs.toArray⟩ none (some t)=⟨(zs.take t.toNat).toArray⟩:=by rw[ht2];exact K1 (z:=⟨zs.toArray⟩) (by simpa using hale)
  have M:∀lo hi,Gb (.str ⟨zs.toArray⟩) lo hi=some (.str (Txt.slice ⟨zs.toArray⟩ lo hi)):=λlo hi=>by show(if _ then _ else _)=_;rw[if_pos zb]
  have c1e:(⟨#[c1]⟩:Str)=⟨[c1].toArray⟩:=rfl;have A1:Bz .add (.str ⟨#[c1]⟩) (.str ⟨(zs.take t.toNat).toArray⟩)=_:=Ex (by simp only[ES,CD,c1l,List.length_take,List.length_drop,List.length_cons,List.length_nil];lia);have ez:(⟨#[c1]⟩++⟨(zs.take t.toNat).toArray⟩:Str)=⟨([c1]++zs.take t.toNat).toArray⟩:=by rw[c1e,Hy]
  have lz:([c1]++zs.take t.toNat).length<=6:=by simp;lia
  have F:=fin x' (⟨#[c1]⟩++⟨(zs.take t.toNat).toArray⟩) (some (.v (.int j))) (some (.v (.str ⟨#[c1]⟩))) (by
   rw[ez];refine Jh (by simp) (by lia) λy hy=>?_;rcases bT.mp hy with hy|hy
   ·rw[bA.mp hy];exact low
   ·exact hz y (eD hy)) (λq=>by
   rw[ez,if_neg hw];exact⟨rfl,by rw[CD];split<;>lia⟩) (λq=>by lia)
  simp[e2,Fd,m7,h25,hw,M,S1,A1,TK,hul,-LN];exact F
 rintro μ h' ⟨x,us,v10,v11,rfl,rfl,hul0,hall,lett⟩;rw[bE]at hul0;simp;exact⟨us,rfl,hul0,hall,lett.nodup (by lia)⟩
end BK45
namespace BK45
open PySem B L2 PyProof.Rows
variable {n:Nat}
noncomputable def Dm(l:Li):MV:=.tup [l.key,iv l.lets,iv l.sgs,iv l.bars,iv l.reach,.bl l.same,l.asks,.int l.first,.int l.last,.bl l.lasting]
def GB(x:Bx){m:Nat}(hm:0<m):∃a:Fin m,Bt x (m:Int)=(a.val:Int):=by
 have h0:=C1 (x:=x) (m:=(m:Int)) (by lia);have h1:=Ea (x:=x) (m:=(m:Int)) (by lia);exact⟨⟨(Bt x m).toNat,by lia⟩,by show _=(((Bt x m).toNat:Nat):Int);lia⟩
def mU{m:Int}{k:Nat}(hk:k<=6):Ph (n+3) 59 [.r (hlen h),.v (.int m),.v (.int k)] (hnew (hnew h (Av x)) o)=.ok (.v (.int (Builtin.bitAnd m (Bt x (2^k))))) (hnew (hnew h (Av (Br x (2^k)))) o):=by
 refine Ae (d:=d59) rfl rfl ?_;have p1:C9 1 (k:Int)=true:=by unfold C9;simp;lia
 have p2:(0:Int)<2^k:=Int.pow_pos (by decide);have p3:(2:Int)^k<2^64:=by
  have:(2:Nat)^k<=2^6:=gJ (by decide) hk;have:((2:Nat)^k:Int)<=64:=by exact_mod_cast this
  have e:((2:Nat)^k:Int)=(2:Int)^k:=by norm_cast
  lia
 simp[d59,Ab,p1,tk2 p2 p3]
def sn{m:Int}{k:Nat}(hk:k<=6):Ph (n+3) 59 [.r (hlen h),.v (.int m),.v (.int k)] (hnew (hnew (hnew h (Av x)) o) o')=.ok (.v (.int (Builtin.bitAnd m (Bt x (2^k))))) (hnew (hnew (hnew h (Av (Br x (2^k)))) o) o'):=by
 refine Ae (d:=d59) rfl rfl ?_;have p1:C9 1 (k:Int)=true:=by unfold C9;simp;lia
 have p2:(0:Int)<2^k:=Int.pow_pos (by decide);have p3:(2:Int)^k<2^64:=by
  have:(2:Nat)^k<=2^6:=gJ (by decide) hk;have:((2:Nat)^k:Int)<=64:=by exact_mod_cast this
  have e:((2:Nat)^k:Int)=(2:Int)^k:=by norm_cast
  lia
 simp[d59,Ab,p1,be p2 p3]
end BK45
namespace BK45
open PySem B L2 PyProof.Rows
variable {n:Nat}
def P0{m:Nat}{i:Int}(h:0<=i/\i<m):∃k:Fin m,i=(k.val:Int):=⟨⟨i.toNat,by lia⟩,by show i=((i.toNat:Nat):Int);lia⟩
def Z9:∀a b:Fin 64,0<=Builtin.bitAnd (a.val:Int) (b.val:Int)/\Builtin.bitAnd (a.val:Int) (b.val:Int)<64:=by decide +kernel
def Ws:∀a b:Fin 64,0<=Builtin.bitOr (a.val:Int) (b.val:Int)/\Builtin.bitOr (a.val:Int) (b.val:Int)<64:=by decide +kernel
def aq:∀a:Fin 64,0<=Builtin.bitXor 63 (a.val:Int)/\Builtin.bitXor 63 (a.val:Int)<64:=by decide +kernel
def ar:∀a:Fin 32,0<=Builtin.bitXor 31 (a.val:Int)/\Builtin.bitXor 31 (a.val:Int)<32:=by decide +kernel
def jU:∀a b:Fin 32,0<=Builtin.bitAnd (a.val:Int) (b.val:Int)/\Builtin.bitAnd (a.val:Int) (b.val:Int)<32:=by decide +kernel
def oX:∀s x:Fin 64,Builtin.bitAnd (s.val:Int) (Builtin.bitAnd (x.val:Int) (Builtin.bitXor 63 (s.val:Int)))=0:=by decide +kernel
def j7:∀s x:Fin 64,Builtin.bitAnd (s.val:Int) (Builtin.bitAnd (Builtin.bitXor 63 (s.val:Int)) (x.val:Int))=0:=by decide +kernel
def Xn:∀a t:Fin 64,sub a.val (Builtin.bitOr (a.val:Int) (t.val:Int)).toNat=true:=by decide +kernel
def WJ(a b:Fin 64):∃k:Fin 64,Builtin.bitAnd (a.val:Int) (b.val:Int)=(k.val:Int):=P0 (Z9 a b)
def ir(a b:Fin 64):∃k:Fin 64,Builtin.bitOr (a.val:Int) (b.val:Int)=(k.val:Int)/\sub a.val k.val=true:=by
 obtain⟨k,e⟩:=P0 (Ws a b);refine⟨k,e,?_⟩;have:=Xn a b
 rwa[e,f9]at this
def mT(a:Fin 64):∃k:Fin 64,Builtin.bitXor 63 (a.val:Int)=(k.val:Int):=P0 (aq a)
def si(a:Fin 32):∃k:Fin 32,Builtin.bitXor 31 (a.val:Int)=(k.val:Int):=P0 (ar a)
def se(a b:Fin 32):∃k:Fin 32,Builtin.bitAnd (a.val:Int) (b.val:Int)=(k.val:Int):=P0 (jU a b)
def Wi(o:l.Ok)(m:Nat):sh (Dm l) (m+2)=true:=by
 show(sh (Al l.ky) (m+1)&&Co [_,_,_,_,_,l.asks,_,_,_] (m+1))=true;rw[GK (k:=l.ky) o.w];simp[Co,sh,Li.asks]
def VQ:B4 [a,b,c,d,e,f,g,x,y,z] 0=some a/\B4 [a,b,c,d,e,f,g,x,y,z] 1=some b/\B4 [a,b,c,d,e,f,g,x,y,z] 2=some c/\B4 [a,b,c,d,e,f,g,x,y,z] 3=some d/\B4 [a,b,c,d,e,f,g,x,y,z] 4=some e/\B4 [a,b,c,d,e,f,g,x,y,z] 5=some f/\B4 [a,b,c,d,e,f,g,x,y,z] 6=some g/\B4 [a,b,c,d,e,f,g,x,y,z] 7=some x/\B4 [a,b,c,d,e,f,g,x,y,z] 8=some y/\B4 [a,b,c,d,e,f,g,x,y,z] 9=some z:=⟨rfl,rfl,rfl,rfl,rfl,rfl,rfl,rfl,rfl,rfl⟩
def tz:B4 [a] (-1)=some a:=rfl
def tx:B4 [a,b] (-1)=some b:=rfl
def tw:B4 [a,b,c] (-1)=some c:=rfl
def LQ(ks:List Ky)(ls:List Li)(h:MH)(μ:En)(h':MH):Prop:=E7 λ(x:Bx) (lets:Fin 32) (sgs bars:Fin 64) (reach:Fin 4) (same:Bool) (v8:Option R)=>A3 (Builtin.bitAnd (sgs.val:Int) (bars.val:Int)=0) (μ=[some (.r (hlen h)),some (.v (.lst (ks.map Al))),some (.r (hlen h+1)),some (.v (iv lets)),some (.v (iv sgs)),some (.v (iv bars)),some (.v (iv reach)),some (.v (.bl same)),v8,none,none,none,none,none]) (h'=hnew (hnew h (Av x)) (.lst (ls.map Dm)))
def LR(ks:List Ky)(ls:List Li)(h:MH)(m:MV)(h':MH):Prop:=E2 λ(x:Bx) (l:Li)=>A4 (m=Dm l) l.Ok (ks[ls.length]?=some l.ky) (h'=hnew (hnew h (Av x)) (.lst (ls.map Dm)))
def Mt(x:Bx)(hw:∀k∈ks,AU k.1)(hk:ls.length<ks.length)(ho:∀l∈ls,l.Ok)(hl:ls.length<=12):Kf (Ph (n+4) 60 [.r (hlen h),.v (.lst (ks.map Al)),.r (hlen h+1)] (hnew (hnew h (Av x)) (.lst (ls.map Dm)))) (LR ks ls h):=by
 refine Gj (d:=d60) rfl rfl ?_;obtain⟨t1,e1⟩:∃a:Fin 32,Bt x 32=(a.val:Int):=GB _ (by decide);obtain⟨t2,e2⟩:∃a:Fin 32,Bt (Br x 32) 32=(a.val:Int):=GB _ (by decide);obtain⟨t12,e12⟩:=se t1 t2;obtain⟨lets,el⟩:=si t12;generalize hx2:Br (Br x 32) 32=x2;obtain⟨t3,e3⟩:∃a:Fin 64,Bt x2 64=(a.val:Int):=GB _ (by decide);obtain⟨t4,e4⟩:∃a:Fin 64,Bt (Br x2 64) 64=(a.val:Int):=GB _ (by decide);obtain⟨sgs,es⟩:=WJ t3 t4;generalize hx4:Br (Br x2 64) 64=x4;obtain⟨t5,e5⟩:∃a:Fin 64,Bt x4 64=(a.val:Int):=GB _ (by decide);obtain⟨xs,exs⟩:=mT sgs;obtain⟨bars,eb⟩:=WJ xs t5;have hd:Builtin.bitAnd (sgs.val:Int) (bars.val:Int)=0:=by rw[←eb,←exs];exact j7 sgs t5
 generalize hx5:Br x4 64=x5;obtain⟨reach,e6⟩:∃a:Fin 4,Bt x5 4=(a.val:Int):=GB _ (by decide);generalize hx6:Br x5 4=x6;generalize hx7:Br x6 4=x7;have w5:∀x m o,Ph (n+3) 59 [.r (hlen h),.v (.int m),.v (.int 5)] (hnew (hnew h (Av x)) o)=.ok (.v (.int (Builtin.bitAnd m (Bt x 32)))) (hnew (hnew h (Av (Br x 32))) o):=λx m o=>mU (k:=5) (by decide);have w6:∀x m o,Ph (n+3) 59 [.r (hlen h),.v (.int m),.v (.int 6)] (hnew (hnew h (Av x)) o)=.ok (.v (.int (Builtin.bitAnd m (Bt x 64)))) (hnew (hnew h (Av (Br x 64))) o):=λx m o=>mU (k:=6) (by decide);have hne:AJ .ne (.lst (ls.map Dm)) (.lst [])=some (!(ls.map Dm).isEmpty):=(DB (Ca λl hl=>Wi (ho l hl) 57)).2;simp[d60,Ab,tk2,w5,w6,e1,e2,e12,el,hx2,e3,e4,es,hx4,e5,exs,eb,hx5,e6,hx6,hx7,hne];refine EV (P:=LQ ks ls h) ?_ ?_
 ·clear e1 e2 e12 el hx2 e3 e4 es hx4 e5 exs eb hx5 e6 hx6 hx7 w5 w6 t1 t2 t12 t3 t4 t5 xs x x2 x4 x5;generalize decide (Bt x6 4=0)=same;cases hE:ls.isEmpty with
  |true=>
   have:ls=[]:=by simpa using hE
   subst this;simp;exact⟨x7,lets,sgs,bars,reach,same,none,hd,rfl,rfl⟩
  |false=>
   have hlp:0<ls.length:=by cases ls with
    |nil=>cases hE
    |cons _ _=>simp
   by_cases h2:Bt x7 2=0
   ·have tl:(0:Int)<(ls.length:Int)/\(ls.length:Int)<2^64:=by lia
    have r0:=C1 (x:=Br x7 2) tl.1;have r1:=Ea (x:=Br x7 2) tl.1;have TK:=tk2 (n:=n+1) (h:=h) (x:=Br x7 2) (o:=.lst (ls.map Dm)) tl.1 tl.2;generalize Bt (Br x7 2) (ls.length:Int)=r at r0 r1 TK;generalize Br (Br x7 2) (ls.length:Int)=x8 at TK;obtain⟨l,el⟩:∃l,ls[r.toNat]?=some l:=⟨_,aN (by lia)⟩;have eix:B4 (ls.map Dm) r=some (Dm l):=by rw[AK r0,aJ,el];rfl
    obtain⟨lets',q1⟩:=se l.lets lets;obtain⟨u1,q2,_⟩:=ir l.sgs sgs;obtain⟨u2,q3⟩:=mT l.bars;obtain⟨sgs',q4⟩:=WJ u1 u2;obtain⟨u3,q5,_⟩:=ir l.bars bars;obtain⟨u4,q6⟩:=mT sgs';obtain⟨bars',q7⟩:=WJ u3 u4;have hd':Builtin.bitAnd (sgs'.val:Int) (bars'.val:Int)=0:=by rw[←q7,←q6];exact oX sgs' u3
    obtain⟨reach',q8⟩:∃k:Fin 4,(if (reach.val:Int)<(l.reach.val:Int) then(reach.val:Int) else(l.reach.val:Int))=(k.val:Int):=by
     split
     ·exact⟨reach,rfl⟩
     exact⟨l.reach,rfl⟩
    simp only[Int.ofNat_lt]at q8;simp[hE,tk2,h2,TK,eix,Dm,q1,q2,q3,q4,q5,q6,q7,q8,-AK,VQ,W1];exact⟨x8,lets',sgs',bars',reach',l.same||same,_,hd',rfl,rfl⟩
   simp[hE,tk2,h2];exact⟨Br x7 2,lets,sgs,bars,reach,same,none,hd,rfl,rfl⟩
 clear hne e1 e2 e12 el hx2 e3 e4 es hx4 e5 exs eb hx5 e6 hx6 hx7 hd w5 w6 t1 t2 t12 t3 t4 t5 xs x x2 x4 x5 x6 x7 lets sgs bars reach;rintro μ h' ⟨x,lets,sgs,bars,reach,same,v8,hd,rfl,rfl⟩;have w6:∀x m o,Ph (n+3) 59 [.r (hlen h),.v (.int m),.v (.int 6)] (hnew (hnew h (Av x)) o)=.ok (.v (.int (Builtin.bitAnd m (Bt x 64)))) (hnew (hnew h (Av (Br x 64))) o):=λx m o=>mU (k:=6) (by decide);have w63:∀x m o o',Ph (n+3) 59 [.r (hlen h),.v (.int m),.v (.int 6)] (hnew (hnew (hnew h (Av x)) o) o')=.ok (.v (.int (Builtin.bitAnd m (Bt x 64)))) (hnew (hnew (hnew h (Av (Br x 64))) o) o'):=λx m o o'=>sn (k:=6) (by decide);obtain⟨t1,et1⟩:∃a:Fin 64,Bt x 64=(a.val:Int):=GB _ (by decide);obtain⟨t2,et2⟩:∃a:Fin 64,Bt (Br x 64) 64=(a.val:Int):=GB _ (by decide);obtain⟨m0,em0⟩:=WJ t1 t2;generalize hx1:Br (Br x 64) 64=x1;obtain⟨t3,et3⟩:∃a:Fin 64,Bt x1 64=(a.val:Int):=GB _ (by decide);obtain⟨t4,et4⟩:∃a:Fin 64,Bt (Br x1 64) 64=(a.val:Int):=GB _ (by decide);obtain⟨m1,em1⟩:=WJ t3 t4;generalize hx2:Br (Br x1 64) 64=x2;obtain⟨t5,et5⟩:∃a:Fin 64,Bt x2 64=(a.val:Int):=GB _ (by decide);obtain⟨t6,et6⟩:∃a:Fin 64,Bt (Br x2 64) 64=(a.val:Int):=GB _ (by decide);obtain⟨m2,em2⟩:=WJ t5 t6;generalize hx3:Br (Br x2 64) 64=x3;obtain⟨t7,et7⟩:∃a:Fin 64,Bt x3 64=(a.val:Int):=GB _ (by decide);obtain⟨t8,et8⟩:∃a:Fin 64,Bt (Br x3 64) 64=(a.val:Int):=GB _ (by decide);obtain⟨m3,em3⟩:=WJ t7 t8;generalize hx4:Br (Br x3 64) 64=x4;obtain⟨a1,ea1,s1⟩:=ir m0 m1;obtain⟨a2,ea2,s2⟩:=ir a1 m2;obtain⟨a3,ea3,s3⟩:=ir a2 m3;obtain⟨M,eM,hM0,hM1⟩:∃M:Int,B4 [MV.int 1,.int 10000] (Bt x4 2)=some (.int M)/\0<M/\M<=10000:=by
  have r0:=C1 (x:=x4) (m:=2) (by decide);have r1:=Ea (x:=x4) (m:=2) (by decide);have:Bt x4 2=0\/Bt x4 2=1:=by lia
  rcases this with e|e
  ·exact⟨1,by rw[e];rfl,by decide,by decide⟩
  exact⟨10000,by rw[e];rfl,by decide,by decide⟩
 have TB:=λo o'=>be (n:=n+1) (h:=h) (x:=x4) (m:=2) (o:=o) (o':=o') (by decide) (by decide);generalize Bt x4 2=bb at TB eM;generalize Br x4 2=x5 at TB;have TF:=λo o'=>be (n:=n+1) (h:=h) (x:=x5) (m:=M) (o:=o) (o':=o') hM0 (by lia);have f0:=C1 (x:=x5) hM0;have f1:=Ea (x:=x5) hM0;generalize Bt x5 M=fi at TF f0 f1;generalize Br x5 M=x6 at TF;have TL:=λo o'=>be (n:=n+1) (h:=h) (x:=x6) (m:=10000-fi) (o:=o) (o':=o') (by lia) (by lia);have g0:=C1 (x:=x6) (m:=10000-fi) (by lia);have g1:=Ea (x:=x6) (m:=10000-fi) (by lia);generalize Bt x6 (10000-fi)=la at TL g0 g1;generalize Br x6 (10000-fi)=x7 at TL;obtain⟨k,ek⟩:∃k,ks[ls.length]?=some k:=⟨_,aN hk⟩;have eix:B4 (ks.map Al) (ls.length:Int)=some (Al k):=by rw[AK (bU _),aJ,f9,ek];rfl
 have r3:Em [.v (.int 3)]=some ⟨[.int 0,.int 1,.int 2],none⟩:=rfl;simp[-AK,tk2,be,w6,w63,et1,et2,em0,hx1,et3,et4,em1,hx2,et5,et6,em2,hx3,et7,et8,em3,hx4,ea1,ea2,ea3,r3,CI,Vy,tz,tx,tw,TB,eM,TF,TL,eix,show 1<big by decide,show 2<big by decide,show 3<big by decide,show 10<=big by decide];refine⟨_,⟨k.1,k.2,lets,sgs,bars,reach,same,m0,a1,a2,a3,fi.toNat,(fi+la).toNat,decide (Bt x7 2=0)⟩,?_,?_,ek,rfl⟩
 ·have c1:((fi.toNat:Nat):Int)=fi:=by lia
  have c2:(((fi+la).toNat:Nat):Int)=fi+la:=by lia
  simp only[Dm,Li.key,Li.asks,c1,c2];rfl
 exact⟨hw k (aP ek),hd,s1,s2,s3,by show fi.toNat<=(fi+la).toNat;lia,by show(fi+la).toNat<=9999;lia⟩
end BK45
namespace BK45
open PySem B L2 PyProof.Rows
variable {n:Nat}
def KP(c:Int)(m:Nat)(shift:Int)(zs:List Str)(h:MH)(i:Nat)(μ:En)(h':MH):Prop:=E3 λ(ks:List Ky) (v5 v6:Option R)=>A5 (μ=[some (.v (.int c)),some (.v (.int m)),some (.v (.lst (zs.map MV.str))),some (.v (.int shift)),some (.r (hlen h)),v5,v6]) (h'=hnew h (.lst (ks.map Al))) (ks.length=i) (∀k∈ks,AU k.1) (∀(j:Nat) (k:Ky),ks[j]?=some k->((k.2.val / 8:Nat):Int)=(5*(j:Int)+shift)%12)
def UD(c:Int){m:Nat}(hm:m<=12):Eh (Ph (n+4) 61 [.v (.int c),.v (.int m)] h) h λr=>∃ks:List Ky,r=.lst (ks.map Al)/\ks.length=m/\(∀k∈ks,AU k.1)/\ks.Nodup:=by
 refine D0 (d:=d61) rfl rfl ?_;obtain⟨_,ew,zs,rfl,hz4,hzw,hznd⟩:=GR (n:=n) (h:=h) c (m:=4) (by decide);have ew:Ph (n+3) 58 [.v (.int c),.v (.int 4)] h=.ok (.v (.lst (zs.map MV.str))) h:=ew;simp -implicitDefEqProofs [d61,Ab,ew,EO,K6 (Int.natCast_nonneg m) (show(m:Int)<=1000 by lia)];generalize BF c 899%12=shift;refine Ce (FR (λ(i:Nat)=>MV.int (i:Int)) (KP c m shift zs h) ⟨[],none,none,rfl,rfl,rfl,(λ_ h=>by cases h),(λj k hj=>by simp at hj)⟩ ?_) ?_
 ·rintro j i μ h' hi ⟨ks,v5,v6,rfl,rfl,hkl,hkw,hkn⟩;obtain⟨hj,e⟩:=a9.mp hi;rw[bE]at hj;rw[dL]at e;subst e;refine⟨_,rfl,?_⟩;have m5:Dh 5 (j:Int)=true:=KY (by decide) (by decide);have m8:Dh 8 ((5*(j:Int)+shift)%12)=true:=KY (by decide) (by decide);have a0:=c8 (5*(j:Int)+shift) (show(12:Int)≠0 by decide);have a1:=bQ (5*(j:Int)+shift) (show(0:Int)<12 by decide);have b0:=c8 (BF c (900+(j:Int))) (show(8:Int)≠0 by decide);have b1:=bQ (BF c (900+(j:Int))) (show(0:Int)<8 by decide);have c0:=c8 (BF c (930+(j:Int))) (show(4:Int)≠0 by decide);have c1:=bQ (BF c (930+(j:Int))) (show(0:Int)<4 by decide);obtain⟨z,ez⟩:∃z,zs[(BF c (930+(j:Int))%4).toNat]?=some z:=⟨_,aN (by lia)⟩;have eix:B4 (zs.map MV.str) (BF c (930+(j:Int))%4)=some (.str z):=by rw[AK c0,aJ,ez];rfl
  have hkb:ks.length<big:=by unfold big;lia
  simp[-AK,m5,m8,EO,eix,hkb];generalize hu:(5*(j:Int)+shift)%12=u at a0 a1;generalize BF c (900+(j:Int))%8=v at b0 b1;refine⟨ks++ [(z,⟨(8*u+v).toNat,by lia⟩)],_,_,rfl,?_,by rw[aV,hkl];rfl,?_,?_⟩
  ·rw[bL];have:(((8*u+v).toNat:Nat):Int)=8*u+v:=by lia
   show _=hnew h (.lst (ks.map Al++ [.tup [.str z,.int (((8*u+v).toNat:Nat):Int)]]));rw[this]
  ·intro k hk;rcases bT.mp hk with hk|hk
   ·exact hkw k hk
   rw[bA.mp hk];exact hzw z (aP ez)
  intro i k hk;by_cases hi2:i<ks.length
  ·rw[aO hi2]at hk;exact hkn i k hk
  have hi3:i=ks.length:=by
   have:=(a9.mp hk).1;rw[aV,dP]at this
   lia
  subst hi3;rw[aQ (aI _),fP]at hk;cases hk;rw[hkl,hu];show(((8*u+v).toNat / 8:Nat):Int)=u
  lia
 rintro μ h' ⟨ks,v5,v6,rfl,rfl,hkl,hkw,hkn⟩;rw[bE]at hkl;simp;refine⟨ks,rfl,hkl,(λa b hab=>hkw _ hab),?_⟩;rw[List.Nodup,bC];intro i j hi hj hij e;have p:=hkn i _ (aN hi);have q:=hkn j _ (aN hj);rw[e,q]at p
 lia
def BP(c o:Int)(m:Nat)(ks:List Ky)(h:MH)(i:Nat)(μ:En)(h':MH):Prop:=E3 λ(x:Bx) (ls:List Li) (v6:Option R)=>A5 (μ=[some (.v (.int c)),some (.v (.int o)),some (.r (hlen h)),some (.v (.int m)),some (.v (.lst (ks.map Al))),some (.r (hlen h+1)),v6]) (h'=hnew (hnew h (Av x)) (.lst (ls.map Dm))) (ls.length=i) (∀l∈ls,l.Ok) (ls.map Li.ky=ks.take i)
def Np(ls:List Li):Prop:=(∀l∈ls,l.Ok)/\(ls.map Li.ky).Nodup/\ls.length<=12
def Re(c o:Int):Eh (Ph (n+5) 62 [.v (.int c),.v (.int o)] h) h λr=>∃ls:List Li,r=.lst (ls.map Dm)/\Np ls:=by
 refine D0 (d:=d62) rfl rfl ?_;obtain⟨a,ea⟩:∃a:Fin 6,Bt (PP c) 6=(a.val:Int):=GB _ (by decide);simp[d62,Ab,Gk,tk1,ea];refine Ce (P:=λμ h'=>∃(x:Bx) (m:Nat),m<=12/\μ=[some (.v (.int c)),some (.v (.int o)),some (.r (hlen h)),some (.v (.int m)),none,none,none]/\h'=hnew h (Av x)) ?_ ?_
 ·by_cases h8:Bt (Br (PP c) 6) 8=0
  ·obtain⟨b,eb⟩:∃a:Fin 6,Bt (Br (Br (PP c) 6) 8) 6=(a.val:Int):=GB _ (by decide);simp only[h8,decide_true,Sr,Nr,Qk,Ql];simp[tk1,eb];exact⟨_,7+b.val,by lia,by simp,rfl⟩
  simp[h8];exact⟨_,a.val,by lia,rfl,rfl⟩
 rintro μ h' ⟨x,m,hm,rfl,rfl⟩;obtain⟨_,ek,ks,rfl,hkl,hkw,hkn⟩:=UD (n:=n) (h:=hnew h (Av x)) o hm;simp -implicitDefEqProofs [ek,K6 (Int.natCast_nonneg m) (show(m:Int)<=1000 by lia)];refine Ce (FR (λ(i:Nat)=>MV.int (i:Int)) (BP c o m ks h) ⟨x,[],none,rfl,rfl,rfl,(λ_ h=>by cases h),rfl⟩ ?_) ?_
 ·rintro j i μ h' hi ⟨x,ls,v6,rfl,rfl,hll,hlo,hlk⟩;obtain⟨hj,e⟩:=a9.mp hi;rw[bE]at hj;rw[dL]at e;subst e;refine⟨_,rfl,?_⟩;obtain⟨_,_,el,x',l,rfl,lo,lk,rfl⟩:=Mt (n:=n) (h:=h) x hkw (by lia) hlo (by lia);have hlb:ls.length<big:=by unfold big;lia
  simp[el,hlb];refine⟨x',ls++ [l],_,rfl,by rw[bL];rfl,by rw[aV,hll];rfl,?_,?_⟩
  ·intro y hy;rcases bT.mp hy with hy|hy
   ·exact hlo y hy
   rw[bA.mp hy];exact lo
  rw[bL,hlk,C8 (hll▸lk)];rfl
 rintro μ h' ⟨x,ls,v6,rfl,rfl,hll,hlo,hlk⟩;rw[bE]at hll hlk;simp;refine⟨ls,rfl,hlo,?_,by lia⟩;rw[hlk];exact hkn.sublist (dW _ _)
end BK45
namespace B
open PySem L2 PySem.SeqAt
section
variable {n:Nat}
noncomputable def Wp(μ:En)(n:Nat)(h:MH)(m k:MV):Option MO->SR
 |some (.dic t ks vs)=>if Ib t k=true/\vs.length<big then some (.nx μ,AQ h n (.dic t (Fz ks vs k m).1 (Fz ks vs k m).2)) else none
 |_=>none
noncomputable def Wo(μ:En)(x o i:R)(h3:MH):SR:=match x,o,i with
 |.v m,.r n,.v k=>(match h3[n]? with
  |some (.dic t ks vs)=>if Ib t k=true/\vs.length<big then some (.nx μ,h3.set n (.dic t (Fz ks vs k m).1 (Fz ks vs k m).2)) else none
  |_=>none)
 |_,_,_=>none
@[simp]def ln:Wp μ n h m k (some (.dic t ks vs))=if Ib t k=true/\vs.length<big then some (.nx μ,AQ h n (.dic t (Fz ks vs k m).1 (Fz ks vs k m).2)) else none:=rfl
@[simp]def lg:Wo μ (.v m) (.r n) (.v k) h=Wp μ n h m k (hat h n):=rfl
@[simp]def k8:ex cs Φ ini cf (.setD o i e) μ h=DY μ (x:=(e2 cs Φ ini cf e).1 μ h) λx h1=>DY μ (x:=(e2 cs Φ ini cf o).1 μ h1) λo h2=>DY μ (x:=(e2 cs Φ ini cf i).1 μ h2) λi h3=>Wo μ x o i h3:=rfl
end
def L4(hn:∀x∈ks,look.seqK x k=false):Fz ks vs k v=(ks++ [k],vs++ [v]):=by
 unfold Fz;rw[if_neg];intro ha;obtain⟨x,hx,e⟩:=eN.mp ha;rw[hn x hx]at e;cases e
theorem IB:∀{ks vs:List MV}{k:MV},(∀x∈ks,look.seqK x k=false)->look ks vs k=none
 |[],_,_,_=>by simp[look]
 |_::_,[],_,_=>by simp[look]
 |x::ks,v::vs,k,hn=>by
  rw[look,if_neg (by rw[hn x aH];simp),IB λy hy=>hn y (aE _ hy)]
end B
namespace BK45
open PySem B L2 PyProof.Rows
variable {n:Nat}
def OZ(l:List Int):∃a b:Fin 7,∀h,Ph (n+2) 68 [.v (.scr (l.map .int))] h=.ok (.v (.lst [iv a,iv b])) h:=by
 obtain⟨c,hc⟩:∃c,∀h,Ph (n+1) 54 [.v (.scr (l.map .int)),.v (.int 1)] h=.ok (.v (.int c)) h:=by
  refine⟨if (1:Int)<l.length then l.getD 1 0 else 7919*1+13,λh=>Ae (d:=d54) rfl rfl ?_⟩;by_cases hc:(1:Int)<l.length
  ·have:1<l.length:=by omega
   simp[d54,Ab,hc,this]
  simp[d54,Ab,hc]
 have key:∀i:Nat,∃a:Fin 7,B4 [MV.int 6,.int (BF c (71+3*(i:Int))%7)] (BF c (70+3*(i:Int))%2)=some (iv a):=by
  intro i;have r0:=c8 (BF c (70+3*(i:Int))) (show(2:Int)≠0 by decide);have r1:=bQ (BF c (70+3*(i:Int))) (show(0:Int)<2 by decide);obtain⟨a,ea⟩:∃a:Fin 7,BF c (71+3*(i:Int))%7=(a.val:Int):=P0 ⟨c8 _ (by decide),bQ _ (by decide)⟩;have:BF c (70+3*(i:Int))%2=0\/BF c (70+3*(i:Int))%2=1:=by omega
  rcases this with e|e
  ·exact⟨6,by rw[e];rfl⟩
  exact⟨a,by rw[e,ea];rfl⟩
 obtain⟨a,ha⟩:=key 0;obtain⟨b,hb⟩:=key 1;refine⟨a,b,λh=>Ae (d:=d68) rfl rfl ?_⟩;have r3:Em [.v (.int 2)]=some ⟨[0,1].map λi=>MV.int (i:Int),none⟩:=rfl;simp[d68,Ab,hc,An];rw[Ax (h1:=h) [0,1] (λi=>MV.int (i:Int)) (λi=>if i=0 then iv a else iv b) ?_ ?_ (AH (by decide)) ?_]
 ·simp
 ·exact λ_ _=>rfl
 ·simp[r3]
 intro i hi;have m3:Dh 3 (i:Int)=true:=KY (by decide) (by decide);have e:B4 [MV.int 6,.int (BF c (71+3*(i:Int))%7)] (BF c (70+3*(i:Int))%2)=some (if i=0 then iv a else iv b):=by
  simp only[List.mem_cons,List.not_mem_nil,or_false]at hi;rcases hi with rfl|rfl
  ·exact ha
  exact hb
 exact⟨_,rfl,by simp[-AK,startC,m3,EO,e]⟩
def O0(a b:Nat):Builtin.bitAnd (a:Int) (b:Int)=((a &&& b:Nat):Int):=rfl
noncomputable def Ht(a:Fin 64)(c:Fin 7):Fin 64:=⟨a.val &&& (2^c.val-1),fR Nat.and_le_left a.2⟩
def MX(a:Fin 64)(c:Fin 7):(Ht a c).val<2^c.val:=by
 have:a.val &&& (2^c.val-1)<=2^c.val-1:=Nat.and_le_right;have:0<2^c.val:=Nat.pow_pos (by decide);show a.val &&& (2^c.val-1)<_;omega
def UT:∀c:Fin 7,∀x y:Fin 64,x.val<2^c.val->y.val<2^c.val->(Builtin.Int.intBits (Builtin.bitOr (x.val:Int) (y.val:Int)):Int)<=c.val:=by decide +kernel
def RG:∀c:Fin 7,∀x:Fin 64,x.val<2^c.val->(Builtin.Int.intBits (x.val:Int):Int)<=c.val:=by decide +kernel
noncomputable def Wv(a b:Fin 7)(l:Li):Li:=⟨l.w,l.i,l.lets,Ht l.sgs a,Ht l.bars a,l.reach,l.same,Ht l.a0 b,Ht l.a1 b,Ht l.a2 b,Ht l.a3 b,l.first,l.last,l.lasting⟩
def Jk(c:Fin 7)(h:sub x.val y.val=true):sub (Ht x c).val (Ht y c).val=true:=by
 unfold sub at h ⊢;rw[decide_eq_true_eq]at h ⊢;show(x.val &&& _) &&& (y.val &&& _)=x.val &&& _;rw[eU,Nat.and_comm (2^c.val-1),eU,iW,←eU,h]
def YE(o:l.Ok)(a b:Fin 7):(Wv a b l).Ok:=by
 refine⟨o.w,?_,Jk b o.s0,Jk b o.s1,Jk b o.s2,o.fl,o.ll⟩;have h:=o.dj;rw[O0]at h ⊢;have h:=Int.ofNat.inj h;show(((l.sgs.val &&& _) &&& (l.bars.val &&& _):Nat):Int)=0;rw[eU,Nat.and_comm (2^a.val-1),eU,iW,←eU,h,Nat.zero_and];rfl
def O1(a:Fin 64)(c:Fin 7):Builtin.bitAnd (a.val:Int) ((2^c.val-1:Nat):Int)=((Ht a c).val:Int):=O0 _ _
def OS{ls:List Li}(hl:ls.length<=12)(a b:Fin 7):Ph (n+1) 69 [.v (.lst (ls.map Dm)),.v (.lst [iv a,iv b])] h=.ok (.v (.lst (ls.map λl=>Dm (Wv a b l)))) h:=by
 refine Ae (d:=d69) rfl rfl ?_;have p:∀c:Fin 7,C9 1 (c.val:Int)=true/\(1*2^((c.val:Int).toNat)-1:Int)=((2^c.val-1:Nat):Int):=by decide +kernel
 have pa:=p a;have pb:=p b;simp only[Int.toNat_natCast,Int.one_mul]at pa pb;simp[d69,Ab,pa.1,pa.2,pb.1,pb.2];refine Bl (EW (acc:=[]) Dm (λl=>Dm (Wv a b l)) (λμ=>∃x5 x6,μ=[some (.v (.lst (ls.map Dm))),some (.v (.lst [iv a,iv b])),some (.v (.int ((2^a.val-1:Nat):Int))),some (.v (.int ((2^b.val-1:Nat):Int))),some (.r (hlen h)),x5,x6]) ⟨_,_,rfl⟩ λj l μ hj ⟨x5,x6,hμ⟩=>?_) λμ ⟨x5,x6,hμ⟩=>?_
 ·subst hμ;refine⟨_,rfl,?_⟩;have hlb:(((ls.take j).map λl=>Dm (Wv a b l)).length)<big:=by rw[aC,bD];unfold big;omega
  generalize ((ls.take j).map λl=>Dm (Wv a b l))=acc at hlb;have i6:HL (Dm l) (.int 6)=some l.asks:=rfl;have sl:Gb (Dm l) (some 7) none=some (.tup [.int l.first,.int l.last,.bl l.lasting]):=rfl;simp[An];rw[Ax (h1:=hnew h (.lst acc)) [l.a0,l.a1,l.a2,l.a3] iv (λm=>iv (Ht m b)) ?_ ?_ (AH (show 4<=1000 by decide)) ?_]
  ·unfold Dm at sl;simp[Dm,VQ,O1,sl,show 10<=big by decide,hlb];rfl
  ·exact λ_ _=>rfl
  ·simp[i6];rfl
  intro m hm;exact⟨_,rfl,by simp[startC,O1]⟩
 subst hμ;simp
end BK45
namespace B
def L1{n:Nat}(a:ah s P)(r:∀μ h,P μ h->fin n (k μ h)=x):fin n (seqK (x:=s) k)=x:=by
 obtain⟨μ,h,rfl,p⟩:=a;exact r μ h p
end B
namespace BK45
open PySem B L2 PyProof.Rows
variable {n:Nat}
def Ra(o:l.Ok):Ph (n+7) 66 [.v (Dm l)] h=.ok (.v l.mv) h:=by
 refine Ae (d:=d66) rfl rfl ?_;simp[d66,Ab];rw[UC (n:=n) (l:=l) o ?_]
 ·simp
 simp[Dm,VQ]
def Iv{zs:List Str}(hw:∀z∈zs,AU z)(nd:zs.Nodup)(h6:zs.length<=6):Ph (n+2) 49 [.v (.lst (zs.map MV.str)),.v (.int 6)] h=.ok (.v (.lst (zs.map MV.str))) h:=by
 refine Ae (d:=d49) rfl rfl ?_;have i1:M4 T.gt.cs [.lst (zs.map MV.str),.tup [.ty .lst,.ty .tup]]=some (.bl true):=rfl;have c6:¬(6:Int)<(zs.length:Int):=by omega
 simp[d49,Ab,i1,c6];refine Bl (EW (acc:=[]) MV.str MV.str (λμ=>∃x3,μ=[some (.v (.lst (zs.map MV.str))),some (.v (.int 6)),some (.r (hlen h)),x3]) ⟨_,rfl⟩ λj z μ hj ⟨x3,hμ⟩=>?_) λμ ⟨x3,hμ⟩=>?_
 ·subst hμ;refine⟨_,rfl,?_⟩;have hl:((zs.take j).map MV.str).length<big:=by rw[aC,bD];unfold big;omega
  have hin:Px (.str z) ((zs.take j).map MV.str)=some false:=by
   have:=Gr (λz:Str=>z) (zs.take j) z;rw[List.map_id']at this;refine this.trans ?_;congr 1;rw[eT];intro hm;obtain⟨i,hi,e⟩:=cD.mp hm;rw[bD]at hi;rw[fU]at e;obtain⟨lj,ej⟩:=a9.mp hj;exact(bC.mp nd) i j (by omega) lj (by omega) (e.trans ej.symm)
  generalize ((zs.take j).map MV.str)=acc at hl hin ⊢;simp[Jt (hw z (List.mem_of_getElem? hj)),AJ,Vc,hin,hl]
 subst hμ;simp
structure Qa(a b:Nat)(l:Li):Prop where
 ok:l.Ok
 s:(Builtin.Int.intBits (Builtin.bitOr (l.sgs.val:Int) (l.bars.val:Int)):Int)<=a
 d:(Builtin.Int.intBits (l.a3.val:Int):Int)<=b
def RO(o:l.Ok)(a b:Fin 7):Qa a.val b.val (Wv a b l):=⟨YE o a b,UT a _ _ (MX _ _) (MX _ _),RG b _ (MX _ _)⟩
def QZ(f:Qa ss.length ds.length l):Ph (n+3) 52 [.v l.mv,.v (.lst ss),.v (.lst ds)] h=.ok (.v .non) h:=by
 refine Ae (d:=d52) rfl rfl ?_;have ix:HL l.asks (.int (-1))=some (iv l.a3):=rfl;have e1:=λh=>@DM n (Builtin.bitOr (l.sgs.val:Int) (l.bars.val:Int)) (ss.length:Int) h (Ws l.sgs l.bars).1 f.s;have e2:=λh=>@DM n (l.a3.val:Int) (ds.length:Int) h (bU _) f.d;simp[d52,Ab,e1,ix,e2]
def Ri{ls:List Li}{ss ds:List MV}(f:∀l∈ls,Qa ss.length ds.length l)(nd:(ls.map Li.ky).Nodup)(h12:ls.length<=12):Ph (n+4) 53 [.v (.lst (ls.map Li.mv)),.v (.lst ss),.v (.lst ds)] h=.ok (.v (Ic ls)) h:=by
 refine Ae (d:=d53) rfl rfl ?_;have i1:M4 T.gt.cs [.lst (ls.map Li.mv),.tup [.ty .lst,.ty .tup]]=some (.bl true):=rfl;have i2:∀l:Li,M4 T.gt.cs [l.mv,.cls 14]=some (.bl true):=λ_=>rfl;have c12:¬(12:Int)<(ls.length:Int):=by omega
 simp[d53,Ab,i1,c12];refine L1 (FR Li.mv (λj μ h'=>(∃x4,μ=[some (.v (.lst (ls.map Li.mv))),some (.v (.lst ss)),some (.v (.lst ds)),some (.r (hlen h)),x4])/\h'=hnew h (.dic true (((ls.take j).map Li.ky).map Al) ((ls.take j).map Li.mv))) ⟨⟨_,rfl⟩,rfl⟩ ?_) ?_
 ·rintro j l μ h' hj ⟨⟨x4,rfl⟩,rfl⟩;refine⟨_,rfl,?_⟩;have hnk:∀x∈((ls.take j).map Li.ky).map Al,look.seqK x (Al l.ky)=false:=by
   intro x hx;obtain⟨k,hk,rfl⟩:=bB.mp hx;rw[QD,eT];rintro rfl;rw[fY]at hk;obtain⟨i,hi,e⟩:=cD.mp hk;rw[bD]at hi;rw[fU]at e;have h1:(ls.map Li.ky)[j]?=some l.ky:=by rw[aJ,hj];rfl
   obtain⟨lj,ej⟩:=a9.mp h1;exact(bC.mp nd) i j (by omega) lj (by omega) (e.trans ej.symm)
  have hl:((ls.take j).map Li.mv).length<big:=by rw[aC,bD];unfold big;omega
  have hP:hnew h (.dic true (((ls.take (j+1)).map Li.ky).map Al) ((ls.take (j+1)).map Li.mv))=hnew h (.dic true (((ls.take j).map Li.ky).map Al++ [Al l.ky]) ((ls.take j).map Li.mv++ [l.mv])):=by
   rw[C8 hj];simp
  rw[hP];generalize ((ls.take j).map Li.ky).map Al=ks at hnk ⊢;generalize (ls.take j).map Li.mv=vs at hl ⊢;have ek:l.key=Al l.ky:=rfl;have hg:Et true ks vs (Al l.ky)=some none:=by unfold Et;rw[if_pos (JQ _),IB hnk]
  simp[i2,ek,hg,QZ (f l (List.mem_of_getElem? hj)),JQ,hl,L4 hnk]
 rintro μ h' ⟨⟨x4,rfl⟩,rfl⟩;simp[Ic]
end BK45
namespace BK45
open PySem B L2 PyProof.Rows
variable {n:Nat}
def oZ:T.gt.cs[21]?=some ⟨"Book",false,[15,30,31],[21],some 104,[(33,105),(34,106),(13,107),(10,108),(20,109)]⟩:=rfl
def oU:D5 T.gt.cs 15 (.obj 21 [15,30] [a,b])=some a:=rfl
def oT:D5 T.gt.cs 30 (.obj 21 [15,30] [a,b])=some b:=rfl
def Ru{sz dz:List Str}{ls:List Li}(hs:∀z∈sz,AU z)(ns:sz.Nodup)(l6:sz.length<=6)(hd:∀z∈dz,AU z)(nd:dz.Nodup)(d6:dz.length<=6)(f:∀l∈ls,Qa sz.length dz.length l)(nk:(ls.map Li.ky).Nodup)(h12:ls.length<=12):Ph (n+5) 104 [.r (hlen h),.v (.lst (sz.map MV.str)),.v (.lst (dz.map MV.str)),.v (.lst (ls.map Li.mv))] (hnew h (.ins 21 [] []))=.ok (.v .non) (hnew h (.ins 21 [15,30,31] [.lst (sz.map MV.str),.lst (dz.map MV.str),Ic ls])):=by
 refine Ae (d:=d104) rfl rfl ?_;have e50:∀h,Ph (n+4) 50 [.v (.lst (sz.map MV.str))] h=.ok (.v (.lst (sz.map MV.str))) h:=λh=>by
  refine Ae (d:=d50) rfl rfl ?_;simp[d50,Ab,Iv hs ns l6]
 have e51:∀h,Ph (n+4) 51 [.v (.lst (dz.map MV.str))] h=.ok (.v (.lst (dz.map MV.str))) h:=λh=>by
  refine Ae (d:=d51) rfl rfl ?_;simp[d51,Ab,Iv hd nd d6]
 have e53:=λh=>@Ri n h ls (sz.map MV.str) (dz.map MV.str) (by simpa using f) nk h12;simp[d104,Ab,e50,e51,oZ,oU,oT,e53]
def sC:∀a:Fin 7,HT.sIx 12 12 (some (a.val:Int))=a.val:=by decide +kernel
def nE:∀b:Fin 7,HT.sIx 12 12 (some (6+(b.val:Int)))=6+b.val:=by decide +kernel
def QW(c:Int)(a b:Fin 7)(f:∀l∈ls,Qa a.val b.val l)(nk:(ls.map Li.ky).Nodup)(h12:ls.length<=12):Eh (Ph (n+8) 70 [.v (.lst (ls.map Dm)),.v (.int c),.v (.lst [iv a,iv b])] h) h λr=>∃ss ds,r=(⟨ss,ds,ls⟩:Bk).mv:=by
 refine D0 (d:=d70) rfl rfl ?_;obtain⟨_,ew,zs,rfl,hz,hzw,hznd⟩:=GR (n:=n+4) (h:=h) c (m:=12) (by decide);have ew:Ph (n+7) 58 [.v (.int c),.v (.int 12)] h=.ok (.v (.lst (zs.map MV.str))) h:=ew;have s1:Gb (.lst (zs.map MV.str)) none (some (a.val:Int))=some (.lst ((zs.take a.val).map MV.str)):=by
  show some (MV.lst (Ev _ _ _))=_;unfold Ev;rw[aC,hz,sC,show HT.sIx 12 0 none=0 from rfl,List.drop_zero,Nat.sub_zero,fY]
 have s2:Gb (.lst (zs.map MV.str)) (some 6) (some (6+(b.val:Int)))=some (.lst (((zs.drop 6).take b.val).map MV.str)):=by
  show some (MV.lst (Ev _ _ _))=_;unfold Ev;rw[aC,hz,nE,show HT.sIx 12 0 (some 6)=6 from rfl,Nat.add_sub_cancel_left,fY,iT]
 simp[d70,Ab,ew];have l1:(zs.take a.val).length=a.val:=by rw[bD,hz];lia
 have l2:((zs.drop 6).take b.val).length=b.val:=by rw[bD,eI,hz];lia
 rw[Je (show T.gt.ini 21=some 104 from rfl),NM (rs:=[.v (.lst ((zs.take a.val).map MV.str)),.v (.lst (((zs.drop 6).take b.val).map MV.str)),.v (.lst (ls.map Li.mv))]) (h1:=h) (c':=21) (ns:=[15,30,31]) (vs:=[.lst ((zs.take a.val).map MV.str),.lst (((zs.drop 6).take b.val).map MV.str),Ic ls]) ?_ ?_]
 ·simp;exact⟨_,_,rfl⟩
 ·simp[s1,s2,An];rw[Ax (h1:=h) ls Dm Li.mv ?_ ?_ (AH (by lia)) ?_]
  ·simp
  ·exact λ_ _=>rfl
  ·simp
  intro l hl;exact⟨_,rfl,by simp[startC,Ra (f l hl).ok]⟩
 exact Ru (n:=n+2) (λz hz=>hzw z (eD hz)) (hznd.sublist (dW _ _)) (by lia) (λz hz=>hzw z (gL (eD hz))) (hznd.sublist ((dW _ _).trans (List.drop_sublist _ _))) (by lia) (by rw[l1,l2];exact f) nk h12
end BK45
namespace BK45
open PySem B L2 PyProof.Rows
structure Rw where
 n:Str
 o:List Ky
 ab:Int
 j:Fin 4
 dp:Nat
structure Az(rs:List Rw):Prop where
 pos:0<rs.length
 ok:∀r∈rs,AU r.n/\1<=r.dp/\r.dp<=6
 root:∀r,rs[0]?=some r->r.ab=-1/\r.dp=1
 up:∀(i:Nat) (r:Rw),rs[i]?=some r->0<i->r.j.val<4/\∃(a:Nat) (ra:Rw),r.ab=a/\a<i/\rs[a]?=some ra/\r.dp=ra.dp+1
 few:∀a:Nat,(rs.filter λr=>r.ab ==(a:Int)).length<=6
def Az.snoc{rs:List Rw}(h:Az rs){r:Rw}{a:Nat}{ra:Rw}(w:AU r.n)(ha:rs[a]?=some ra)(d6:ra.dp<6)(e1:r.ab=a)(e2:r.dp=ra.dp+1)(hj:r.j.val<4)(f6:(rs.filter λr=>r.ab ==(a:Int)).length<6):Az (rs++ [r]):=by
 have hal:=(a9.mp ha).1;refine⟨by rw[aV];have:=h.pos;lia,λx hx=>?_,λx hx=>?_,λi x hx hi=>?_,λb=>?_⟩
 ·rcases bT.mp hx with hx|hx
  ·exact h.ok x hx
  rw[bA]at hx;subst hx;exact⟨w,by lia,by lia⟩
 ·rw[aO h.pos]at hx;exact h.root x hx
 ·by_cases hl:i<rs.length
  ·rw[aO hl]at hx;obtain⟨g1,a',ra',g2,g3,g4,g5⟩:=h.up i x hx hi;exact⟨g1,a',ra',g2,g3,by rw[aO (by lia)];exact g4,g5⟩
  have e:i=rs.length:=by
   have:=(a9.mp hx).1;rw[aV,dP]at this
   lia
  subst e;rw[aQ (aI _),fP]at hx;cases hx;exact⟨hj,a,ra,e1,hal,by rw[aO hal];exact ha,e2⟩
 rw[gZ,aV];by_cases e:(b:Int)=a
 ·have:b=a:=by lia
  subst this;have:(([r]:List Rw).filter λr=>r.ab ==(b:Int)).length<=1:=bG _ _
  lia
 have:(([r]:List Rw).filter λr=>r.ab ==(b:Int))=[]:=by
   rw[List.filter_cons,if_neg]
   ·rfl
   rw[aR,e1];lia
 rw[this];exact h.few b
noncomputable def sD:Rw:=⟨Str.ofString "",[],0,0,0⟩
noncomputable def Ah(rs:List Rw)(i:Nat):Rw:=rs.getD i sD
def Dy{i:Nat}(h:rs[i]?=some r):Ah rs i=r:=by
 unfold Ah;rw[dS,h];rfl
def By{i:Nat}(h:i<rs.length):rs[i]?=some (Ah rs i):=by
 rw[Dy (aN h),aN h]
noncomputable def BL(rs:List Rw)(k i:Nat):Bool:=(Ah rs i).ab ==(k:Int)
noncomputable def D7(rs:List Rw)(k m:Nat):List Nat:=(List.range m).filter (BL rs k)
noncomputable def Bo(rs:List Rw)(k:Nat):List Nat:=D7 rs k rs.length
def Bg{k i:Nat}:i∈Bo rs k ↔ i<rs.length/\(Ah rs i).ab=k:=by
 unfold Bo D7 BL;rw[aS,cP,aR]
def MB(rs:List Rw)(k:Nat):(Bo rs k).Nodup:=iS _ List.nodup_range
noncomputable def V0(rs:List Rw)(g:Nat->Fo):List Nat->Fo
 |[]=>.nil
 |i::is=>.cons (Ah rs i).j (Ah rs i).n (Ah rs i).o (g i) (V0 rs g is)
noncomputable def fo(rs:List Rw):Nat->Nat->Fo
 |0,_=>.nil
 |f+1,k=>V0 rs (fo rs f) (Bo rs k)
noncomputable def AL(rs:List Rw)(f k:Nat):Nd:=⟨(Ah rs k).n,(Ah rs k).o,fo rs f k⟩
theorem Fw(rs:List Rw)(f:Nat):∀is:List Nat,(V0 rs (fo rs f) is).items=is.map λi=>((Ah rs i).j,AL rs f i)
 |[]=>rfl
 |i::is=>by rw[V0,Fo.items,Fw rs f is];rfl
def Lx(rs:List Rw)(f:Nat)(is:List Nat):De (V0 rs (fo rs f) is)=(is.map λi=>EB ((Ah rs i).j,AL rs f i)).flatten:=by
 rw[Ds,Fw,bP];rfl
noncomputable def AG(rs:List Rw):Nat->Nat->List Nat
 |0,k=>[k]
 |f+1,k=>k::((Bo rs k).map (AG rs f)).flatten
theorem G7(rs:List Rw):∀f k,(At (AL rs f k)).map (λy=>y.2.n)=(AG rs f k).map λi=>(Ah rs i).n
 |0,k=>rfl
 |f+1,k=>by
  have h:∀is:List Nat,((is.map λi=>EB ((Ah rs i).j,AL rs f i)).flatten).map (λy=>y.2.n)=((is.map (AG rs f)).flatten).map λi=>(Ah rs i).n:=by
   intro is
   induction is with
   |nil=>rfl
   |cons i is ih=>
    rw[aK,bZ,bL,ih,aK,bZ,bL,←G7 rs f i];congr 1;unfold EB;rw[bP];rfl
  show((AL rs (f+1) k).n::(De (V0 rs (fo rs f) (Bo rs k))).map (λy=>y.2.n))=(Ah rs k).n::_;rw[Lx,h];rfl
theorem W6(rs:List Rw):∀f k,(fo rs f k).ht<=f
 |0,k=>aI _
 |f+1,k=>by
  have h:∀is:List Nat,(V0 rs (fo rs f) is).ht<=f+1:=by
   intro is
   induction is with
   |nil=>exact dH _
   |cons i is ih=>
    rw[V0,Fo.ht];have:=W6 rs f i
    lia
  exact h _
noncomputable def upI(rs:List Rw)(i:Nat):Nat:=(Ah rs i).ab.toNat
noncomputable def Xa(rs:List Rw):Nat->Nat->Nat
 |0,i=>i
 |m+1,i=>upI rs (Xa rs m i)
theorem Qw(rs:List Rw):∀m i,Xa rs (m+1) i=Xa rs m (upI rs i)
 |0,i=>rfl
 |m+1,i=>by
  show upI rs (Xa rs (m+1) i)=upI rs (Xa rs m (upI rs i));rw[Qw rs m i]
section
def Az.kid(h:Az rs){k i:Nat}(hi:i∈Bo rs k):i<rs.length/\k<i/\(Ah rs i).dp=(Ah rs k).dp+1/\(Ah rs i).j.val<4/\upI rs i=k:=by
 obtain⟨h1,h2⟩:=Bg.mp hi;have e:=By h1;have i0:0<i:=by
  cases i with
  |zero=>have:=(h.root _ e).1;rw[h2]at this;lia
  |succ i=>lia
 obtain⟨g1,a,ra,g2,g3,g4,g5⟩:=h.up i _ e i0;rw[h2]at g2;have:a=k:=by lia
 subst this;refine⟨h1,g3,by rw[g5,Dy g4],g1,?_⟩;unfold upI;rw[h2];rfl
theorem Az.desc(h:Az rs):∀{f k i:Nat},i∈AG rs f k->∃m,Xa rs m i=k/\(Ah rs i).dp=(Ah rs k).dp+m/\(i=k\/(i<rs.length/\0<m))
 |0,k,i,hi=>by
  rw[AG,bA]at hi;subst hi;exact⟨0,rfl,rfl,.inl rfl⟩
 |f+1,k,i,hi=>by
  rw[AG,aU]at hi;rcases hi with rfl|hi
  ·exact⟨0,rfl,rfl,.inl rfl⟩
  obtain⟨l,hl,hi⟩:=eQ.mp hi;obtain⟨c,hc,rfl⟩:=bB.mp hl;obtain⟨c1,c2,c3,c4,c5⟩:=h.kid hc;obtain⟨m,m1,m2,m3⟩:=Az.desc h hi;refine⟨m+1,by show upI rs (Xa rs m i)=k;rw[m1,c5],by lia,.inr ⟨?_,by lia⟩⟩;rcases m3 with rfl|m3
  ·exact c1
  exact m3.1
theorem KU{g:Nat->List Nat}:∀{is:List Nat},is.Nodup->(∀i∈is,(g i).Nodup)->(∀i∈is,∀j∈is,i≠j->∀x,x∈g i->x∉g j)->((is.map g).flatten).Nodup
 |[],_,_,_=>gQ
 |i::is,h1,h2,h3=>by
  rw[aK,bZ,i7];obtain⟨n1,n2⟩:=bX.mp h1;refine⟨h2 i aH,KU n2 (λj hj=>h2 j (aE _ hj)) (λa ha b hb=>h3 a (aE _ ha) b (aE _ hb)),λx hx y hy e=>?_⟩;subst e;obtain⟨l,hl,hy⟩:=eQ.mp hy;obtain⟨j,hj,rfl⟩:=bB.mp hl;exact h3 i aH j (aE _ hj) (λe=>n1 (by rw[e];exact hj)) x hx hy
theorem Az.ordI_nodup(h:Az rs):∀(f k:Nat),(AG rs f k).Nodup
 |0,k=>by rw[AG];simp
 |f+1,k=>by
  rw[AG,List.nodup_cons];refine⟨λhk=>?_,KU (MB rs k) (λi _=>Az.ordI_nodup h f i) (λi hi j hj ne x hx hx'=>?_)⟩
  ·obtain⟨l,hl,hi⟩:=eQ.mp hk;obtain⟨c,hc,rfl⟩:=bB.mp hl;obtain⟨c1,c2,c3,c4,c5⟩:=h.kid hc;obtain⟨m,m1,m2,m3⟩:=h.desc hi
   lia
  obtain⟨c1,c2,c3,c4,c5⟩:=h.kid hi;obtain⟨d1,d2,d3,d4,d5⟩:=h.kid hj;obtain⟨m,m1,m2,m3⟩:=h.desc hx;obtain⟨m',m1',m2',m3'⟩:=h.desc hx';have:m=m':=by lia
  subst this;exact ne (by rw[←m1,←m1'])
def Az.ordI_lt(h:Az rs){f k i:Nat}(hk:k<rs.length)(hi:i∈AG rs f k):i<rs.length:=by
 obtain⟨m,_,_,m3⟩:=h.desc hi;rcases m3 with rfl|m3
 ·exact hk
 exact m3.1
end
def I0:∀{n:Nat}{l:List Nat},l.Nodup->(∀i∈l,i<n)->l.length<=n:=by
 intro n
 induction n with
 |zero=>
  intro l _ h2;cases l with
  |nil=>exact aI _
  |cons x l=>have:=h2 x aH;lia
 |succ n ih=>
  intro l h1 h2;by_cases hm:n∈l
  ·have e:=List.length_erase_of_mem hm;have:=ih (h1.erase n) λi hi=>by
    obtain⟨g1,g2⟩:=h1.mem_erase_iff.mp hi;have:=h2 i g2
    lia
   lia
  have:=ih h1 λi hi=>by
   have:=h2 i hi;have:i≠n:=λe=>hm (by rw[←e];exact hi)
   lia
  lia
section
def Cu{i:Nat}(h:i<rs.length):Ah rs i∈rs:=aP (By h)
def KW(nd:(rs.map (·.n)).Nodup){i j:Nat}(hi:i<rs.length)(hj:j<rs.length)(e:(Ah rs i).n=(Ah rs j).n):i=j:=by
 have a:(rs.map (·.n))[i]?=some (Ah rs i).n:=by rw[aJ,By hi];rfl
 have b:(rs.map (·.n))[j]?=some (Ah rs i).n:=by rw[aJ,By hj,e];rfl
 obtain⟨li,ai⟩:=a9.mp a;obtain⟨lj,bj⟩:=a9.mp b;by_cases h:i<j
 ·exact absurd (ai.trans bj.symm) ((bC.mp nd) i j li lj h)
 by_cases h2:j<i
 ·exact absurd (bj.trans ai.symm) ((bC.mp nd) j i lj li h2)
 lia
def Az.nodup_names(h:Az rs)(nd:(rs.map (·.n)).Nodup){f k:Nat}(hk:k<rs.length):(names (AL rs f k)).Nodup:=by
 unfold names;rw[G7,List.Nodup,List.pairwise_map];have hn:=h.ordI_nodup f k;refine List.Pairwise.imp_of_mem ?_ hn;intro a b ha hb ne e;exact ne (KW nd (h.ordI_lt hk ha) (h.ordI_lt hk hb) e)
def Az.bd(h:Az rs)(l30:rs.length<=30)(nd:(rs.map (·.n)).Nodup){f k:Nat}(hk:k<rs.length)(hf:f<=5):Bd (AL rs f k):=by
 refine⟨h.nodup_names nd hk,?_,?_⟩
 ·have e:(At (AL rs f k)).length=(AG rs f k).length:=by
   have:=cK List.length (G7 rs f k)
   rwa[aC,aC]at this
  rw[Fe]at e;have:=I0 (h.ordI_nodup f k) λi hi=>h.ordI_lt hk hi
  lia
 have:=W6 rs f k;show(fo rs f k).ht+1<=6
 lia
def Az.dp6(h:Az rs){k:Nat}(hk:k<rs.length):1<=(Ah rs k).dp/\(Ah rs k).dp<=6:=(h.ok _ (Cu hk)).2
theorem Az.closed(h:Az rs):∀{f k a i:Nat},(Ah rs k).dp+f=6->a∈AG rs f k->i∈Bo rs a->i∈AG rs f k
 |0,k,a,i,hf,ha,hi=>by
  rw[AG,bA]at ha;subst ha;obtain⟨c1,c2,c3,c4,c5⟩:=h.kid hi;have:=(h.dp6 c1).2
  lia
 |f+1,k,a,i,hf,ha,hi=>by
  rw[AG,aU]at ha;rw[AG];refine aE _ ?_;rcases ha with rfl|ha
  ·refine eQ.mpr ⟨_,bB.mpr ⟨i,hi,rfl⟩,?_⟩;cases f with
   |zero=>rw[AG];exact bA.mpr rfl
   |succ f=>rw[AG];exact aH
  obtain⟨l,hl,ha⟩:=eQ.mp ha;obtain⟨c,hc,rfl⟩:=bB.mp hl;obtain⟨c1,c2,c3,c4,c5⟩:=h.kid hc;exact eQ.mpr ⟨_,bB.mpr ⟨c,hc,rfl⟩,Az.closed h (by lia) ha hi⟩
def Az.root1(h:Az rs):(Ah rs 0).dp=1:=(h.root _ (By h.pos)).2
def Az.all_in(h:Az rs):∀i,i<rs.length->i∈AG rs 5 0:=by
 intro i
 induction i using Nat.strongRecOn with
 |ind i ih=>
  intro hi;by_cases i0:i=0
  ·subst i0;rw[AG];exact aH
  obtain⟨_,a,ra,g2,g3,g4,g5⟩:=h.up i _ (By hi) (by lia);exact h.closed (by rw[h.root1]) (ih a g3 (by lia)) (Bg.mpr ⟨hi,g2⟩)
end
def Dz(rs:List Rw):rs=(List.range rs.length).map (Ah rs):=by
 apply dY;intro i;rw[aJ];by_cases hi:i<rs.length
 ·rw[By hi,aN (by rw[bE];exact hi),dL];rfl
 rw[dR (by lia),dR (by rw[bE];lia)];rfl
def Ll(rs:List Rw)(k:Nat):(Bo rs k).length=(rs.filter λr=>r.ab ==(k:Int)).length:=by
 conv=>rhs;rw[Dz rs,List.filter_map,aC]
 rfl
def Lw(h:Az rs){f k:Nat}(hf:(Ah rs k).dp+f=6):(fo rs f k).items=(Bo rs k).map λc=>((Ah rs c).j,AL rs (f-1) c):=by
 cases f with
 |zero=>
  have:Bo rs k=[]:=gM.mpr λc hc=>by
   obtain⟨c1,c2,c3,_⟩:=h.kid hc;have:=(h.dp6 c1).2
   lia
  rw[this];rfl
 |succ f=>exact Fw rs f _
variable {n:Nat}
noncomputable def Rw.js(r:Rw):Str:=if r.ab<0 then Str.ofString "" else Dr r.j
noncomputable def AW(r:Rw):MV:=.tup [.str r.n,.tup (r.o.map Al),.int r.ab,.str r.js,.int r.dp]
def Nk:B4 [a,b,c,d,e] 0=some a/\B4 [a,b,c,d,e] 1=some b/\B4 [a,b,c,d,e] 2=some c/\B4 [a,b,c,d,e] 3=some d/\B4 [a,b,c,d,e] 4=some e:=⟨rfl,rfl,rfl,rfl,rfl⟩
def Ts(ks:List Ky)(o:List Ky):Prop:=Jc o/\∀k∈o,k∈ks
def OP(ks:List Ky)(H:MH)(q:Nat)(m:Nat)(j:Nat)(μ:En)(h':MH):Prop:=E4 λ(x:Bx) (o:List Ky) (v3 v4:Option R)=>A5 (μ=[some (.r q),some (.v (.lst (ks.map Al))),some (.r (hlen H)),v3,v4]) (h'=hnew (AQ H q (Av x)) (.lst (o.map Al))) (o.length<=j) o.Nodup (∀k∈o,k∈ks)
def OR(ks:List Ky)(H:MH)(q:Nat)(m:MV)(h':MH):Prop:=∃(o:List Ky) (x':Bx),m=.tup (o.map Al)/\Ts ks o/\h'=AQ H q (Av x')
def Ir{ks:List Ky}{q:Nat}(hq:hat H q=some (Av x))(hw:∀k∈ks,AU k.1)(h0:0<ks.length)(h12:ks.length<=12):Kf (Ph (n+3) 63 [.r q,.v (.lst (ks.map Al))] H) (OR ks H q):=by
 refine Gj (d:=d63) rfl rfl ?_;have hql:=MM hq;have ql2:∀o,q<hlen (AQ H q o):=λo=>by rw[Hm];exact hql
 have T0:Ph (n+2) 57 [.r q,.v (.int 6)] (hnew H (.lst []))=.ok (.v (.int (Bt x 6))) (hnew (AQ H q (Av (Br x 6))) (.lst [])):=by
  rw[EH (x:=x) (by rw[DT hql];exact hq) (by decide) (by decide),CG hql]
 obtain⟨m,em,hm⟩:∃m:Nat,B4 [MV.int 0,.int 1,.int 1,.int 2,.int 2,.int 2] (Bt x 6)=some (.int m)/\m<=2:=by
  obtain⟨a,ea⟩:∃a:Fin 6,Bt x 6=(a.val:Int):=GB _ (by decide);rw[ea];have:a=0\/a=1\/a=2\/a=3\/a=4\/a=5:=by lia
  rcases this with rfl|rfl|rfl|rfl|rfl|rfl
  ·exact⟨0,rfl,by decide⟩
  ·exact⟨1,rfl,by decide⟩
  ·exact⟨1,rfl,by decide⟩
  ·exact⟨2,rfl,by decide⟩
  ·exact⟨2,rfl,by decide⟩
  exact⟨2,rfl,by decide⟩
 simp -implicitDefEqProofs [-AK,d63,Ab,T0,em,K6 (Int.natCast_nonneg m) (show(m:Int)<=1000 by lia)];refine EV (FR (λ(i:Nat)=>MV.int (i:Int)) (OP ks H q m) ⟨Br x 6,[],none,none,rfl,rfl,aI _,gQ,(λ_ h=>by cases h)⟩ ?_) ?_
 ·rintro j i μ h' hi ⟨x,o,v3,v4,rfl,rfl,ol,ond,oks⟩;obtain⟨hj,e⟩:=a9.mp hi;rw[bE]at hj;refine⟨_,rfl,?_⟩;have hne:AJ .ne (.lst (ks.map Al)) (.lst [])=some true:=by
   refine(DB (Ca λk hk=>GK (hw k hk) 58)).2.trans ?_;cases ks with
   |nil=>cases h0
   |cons _ _=>rfl
  have T1:Ph (n+2) 57 [.r q,.v (.int (ks.length:Int))] (hnew (AQ H q (Av x)) (.lst (o.map Al)))=.ok (.v (.int (Bt x ks.length))) (hnew (AQ H q (Av (Br x ks.length))) (.lst (o.map Al))):=by
   rw[EH (x:=x) (by rw[DT (ql2 _)];exact Vv hql) (by lia) (by lia),CG (ql2 _),S6]
  have r0:=C1 (x:=x) (m:=(ks.length:Int)) (by lia);have r1:=Ea (x:=x) (m:=(ks.length:Int)) (by lia);generalize Bt x (ks.length:Int)=r at r0 r1 T1;generalize Br x (ks.length:Int)=x' at T1;obtain⟨k,ek⟩:∃k,ks[r.toNat]?=some k:=⟨_,aN (by lia)⟩;have eix:B4 (ks.map Al) r=some (Al k):=by rw[AK r0,aJ,ek];rfl
  have hk:=aP ek;have ein:AJ .notin (Al k) (.lst (o.map Al))=some (!decide (k∈o)):=Gu (hw k hk) λy hy=>hw y (oks y hy);have hob:o.length<big:=by unfold big;lia
  have hh:∀o',hlen (AQ H q o')=hlen H:=λ_=>Hm;have ht:∀o',hat (hnew (AQ H q (Av x')) o') (hlen H)=some o':=λo'=>by rw[←hh (Av x')];exact B5
  have hp:∀o' o2,AQ (hnew (AQ H q (Av x')) o') (hlen H) o2=hnew (AQ H q (Av x')) o2:=λo' o2=>by rw[←hh (Av x')];exact Bu
  by_cases hin:k∈o
  ·simp[-AK,hne,T1,eix,ein,hin,ht];exact⟨x',o,_,_,rfl,rfl,by lia,ond,oks⟩
  simp[-AK,hne,T1,eix,ein,hin,ht,hob,hp];refine⟨x',o++ [k],_,_,rfl,by rw[bL];rfl,by simp;lia,?_,?_⟩
  ·rw[i7];exact⟨ond,by simp,λa ha b hb=>by rw[List.mem_singleton.mp hb];rintro rfl;exact hin ha⟩
  intro y hy;rcases bT.mp hy with hy|hy
  ·exact oks y hy
  rw[bA.mp hy];exact hk
 rintro μ h' ⟨x,o,v3,v4,rfl,rfl,ol,ond,oks⟩;rw[bE]at ol;have hh:hlen (AQ H q (Av x))=hlen H:=Hm;have ht:∀o',hat (hnew (AQ H q (Av x)) o') (hlen H)=some o':=λo'=>by rw[←hh];exact B5
 have hc:∀o',Fv (hnew (AQ H q (Av x)) o') (hlen H)=AQ H q (Av x):=λo'=>by rw[←hh,Hn (aI _),EU]
 simp[ht,hc];exact⟨o,x,rfl,⟨⟨by lia,ond,λk hk=>hw k (oks k hk)⟩,oks⟩,rfl⟩
end BK45
namespace BK45
open PySem B L2 PyProof.Rows
variable {n:Nat}
structure Cp(ks:List Ky)(rs:List Rw):Prop where
 t:Az rs
 o:∀r∈rs,Ts ks r.o
 l:rs.length<=30
 nd:(rs.map (·.n)).Nodup
def TP(c:Int)(zs:List Str)(ks:List Ky)(m:Nat)(h:MH)(i:Nat)(μ:En)(h':MH):Prop:=E6 λ(x:Bx) (rs:List Rw) (v6 v7 v8 v9:Option R)=>A5 (μ=[some (.v (.int c)),some (.v (.lst (zs.map MV.str))),some (.v (.lst (ks.map Al))),some (.r (hlen h)),some (.v (.int m)),some (.r (hlen h+1)),v6,v7,v8,v9]) (h'=hnew (hnew h (Av x)) (.lst (rs.map AW))) (Az rs) (∀r∈rs,Ts ks r.o) ((rs.map (·.n)).Sublist (zs.take (1+i)))
def aw{q:Nat}(e:hat h q=some (.lst l)):FD h (.r q)=some ⟨l,some q⟩:=by
 have e:h[q]?=some (.lst l):=e;simp only[FD,e]
def gg{j:Nat}(h0:1<=j)(h1:j<=1000):Em [.v (.int 1),.v (.int j)]=some ⟨(List.range (j-1)).map λ(i:Nat)=>MV.int (1+(i:Int)),none⟩:=by
 have e:∀a b,Em [.v (.int a),.v (.int b)]=if -(2^62)<=a/\a<2^62/\-(2^62)<=b/\b<2^62 then some ⟨BM a (b-a).toNat,none⟩ else none:=λ_ _=>rfl;rw[e,if_pos (by lia)];have:((j:Int)-1).toNat=j-1:=by lia
 rw[this];rfl
def U8(c:Int){zs:List Str}{ks:List Ky}(hz:zs.length=30)(zw:∀z∈zs,AU z)(znd:zs.Nodup)(hw:∀k∈ks,AU k.1)(h0:0<ks.length)(h12:ks.length<=12):Eh (Ph (n+4) 64 [.v (.int c),.v (.lst (zs.map MV.str)),.v (.lst (ks.map Al))] h) h λr=>∃rs,r=.lst (rs.map AW)/\Cp ks rs:=by
 refine D0 (d:=d64) rfl rfl ?_;obtain⟨a,ea⟩:∃a:Fin 8,Bt (PP c) 8=(a.val:Int):=GB _ (by decide);simp[d64,Ab,Gk,tk1,ea];refine Ce (P:=λμ h'=>∃(x:Bx) (m:Nat),(1<=m/\m<=30)/\μ=[some (.v (.int c)),some (.v (.lst (zs.map MV.str))),some (.v (.lst (ks.map Al))),some (.r (hlen h)),some (.v (.int m)),none,none,none,none,none]/\h'=hnew h (Av x)) ?_ ?_
 ·by_cases h8:Bt (Br (PP c) 8) 8=0
  ·obtain⟨b,eb⟩:∃a:Fin 30,Bt (Br (Br (PP c) 8) 8) 30=(a.val:Int):=GB _ (by decide);simp only[h8,decide_true,Sr,Nr,Qk,Ql];simp[tk1,eb];exact⟨_,1+b.val,⟨by lia,by lia⟩,by simp,rfl⟩
  simp[h8];exact⟨_,1+a.val,⟨by lia,by lia⟩,by simp,rfl⟩
 rintro μ h' ⟨x,m,⟨hm1,hm30⟩,rfl,rfl⟩;obtain⟨_,_,eo,o,x',rfl,oo,rfl⟩:=Ir (n:=n) (H:=hnew h (Av x)) (q:=hlen h) B5 hw h0 h12;rw[Bu]at eo;obtain⟨z0,ez0⟩:∃z,zs[0]?=some z:=⟨_,aN (by lia)⟩;have eix:B4 (zs.map MV.str) 0=some (.str z0):=by rw[AK (by decide),aJ];show(zs[0]?).map _=_;rw[ez0];rfl
 simp -implicitDefEqProofs [-AK,eix,eo,gg hm1 (show m<=1000 by lia)];refine Ce (FR (λ(i:Nat)=>MV.int (1+(i:Int))) (TP c zs ks m h) ⟨x',[⟨z0,o,-1,0,1⟩],none,none,none,none,rfl,rfl,?_,?_,?_⟩ ?_) ?_
 ·refine⟨by simp,?_,?_,?_,?_⟩
  ·intro r hr;rw[bA.mp hr];exact⟨zw z0 (aP ez0),show(1:Nat)<=1 by decide,show(1:Nat)<=6 by decide⟩
  ·intro r hr;cases hr;exact⟨rfl,rfl⟩
  ·intro i r hr hi;cases i with
   |zero=>lia
   |succ i=>simp at hr
  intro a;exact b9 (bG _ _) (by simp)
 ·intro r hr;rw[bA.mp hr];exact oo
 ·have:zs.take 1=[z0]:=by
   cases zs with
   |nil=>simp at ez0
   |cons z zs=>simp at ez0;rw[ez0];rfl
  rw[show 1+0=1 from rfl,this];exact i8 _
 ·rintro j i μ h' hi ⟨x,rs,v6,v7,v8,v9,rfl,rfl,tr,ro,sub⟩;obtain⟨hj,e⟩:=a9.mp hi;rw[bE]at hj;rw[dL]at e;subst e;refine⟨_,rfl,?_⟩;have hrl:rs.length<=30:=by
   have:=sub.length_le;rw[aC,bD]at this
   lia
  have hrp:=tr.pos;have TK:=tk2 (n:=n+1) (h:=h) (x:=x) (m:=(rs.length:Int)) (o:=.lst (rs.map AW)) (by lia) (by lia);obtain⟨above,eab⟩:=GB x hrp;generalize hx':Br x (rs.length:Int)=x' at TK;rw[eab]at TK;obtain⟨ra,era⟩:∃r,rs[above.val]?=some r:=⟨_,aN above.2⟩;have hra:B4 (rs.map AW) (above.val:Int)=some (AW ra):=by rw[AK (bU _),aJ,f9,era];rfl
  simp[TK,An];rw[Nc (q:=hlen h+1) (h1:=hnew (hnew h (Av x')) (.lst (rs.map AW))) rs AW AW (λr=>r.ab ==(above.val:Int)) ?_ S8 (AH (by lia)) ?_]
  ·have ez:∃z,zs[1+j]?=some z:=⟨_,aN (by lia)⟩;obtain⟨z,ez⟩:=ez;have ezx:B4 (zs.map MV.str) (1+(j:Int))=some (.str z):=by
    have:(1+(j:Int))=((1+j:Nat):Int):=by lia
    rw[this,AK (bU _),aJ,f9,ez];rfl
   have tk1:zs.take (1+(j+1))=zs.take (1+j)++ [z]:=C8 ez;have nof:∀v8 v9,TP c zs ks m h (j+1) [some (.v (.int c)),some (.v (.lst (zs.map MV.str))),some (.v (.lst (ks.map Al))),some (.r (hlen h)),some (.v (.int m)),some (.r (hlen h+1)),some (.v (.int (1+(j:Int)))),some (.v (.int (above.val:Int))),v8,v9] (hnew (hnew h (Av x')) (.lst (rs.map AW))):=λv8 v9=>⟨x',rs,_,_,_,_,rfl,rfl,tr,ro,by rw[tk1];exact sub.trans (List.sublist_append_left _ _)⟩;by_cases hf:(rs.filter λr=>r.ab ==(above.val:Int)).length<6
   ·have hf':(((rs.filter λr=>r.ab ==(above.val:Int)).length:Nat):Int)<6:=by lia
    by_cases hd:ra.dp<6
    ·have hd':(ra.dp:Int)<6:=by lia
     obtain⟨jn,ej⟩:∃jn:Fin 4,∃i:Int,B4 [MV.int 0,.int 1,.int 2,.int 3,.int 3,.int 2] (Bt x' 6)=some (.int i)/\B4 [MV.str (Str.ofString "called"),.str (Str.ofString "beside"),.str (Str.ofString "joined"),.str (Str.ofString "changed")] i=some (.str (Dr jn)):=by
      obtain⟨a,ea⟩:∃a:Fin 6,Bt x' 6=(a.val:Int):=GB _ (by decide);rw[ea];have:a=0\/a=1\/a=2\/a=3\/a=4\/a=5:=by lia
      rcases this with rfl|rfl|rfl|rfl|rfl|rfl
      ·exact⟨0,0,rfl,rfl⟩
      ·exact⟨1,1,rfl,rfl⟩
      ·exact⟨2,2,rfl,rfl⟩
      ·exact⟨3,3,rfl,rfl⟩
      ·exact⟨3,3,rfl,rfl⟩
      exact⟨2,2,rfl,rfl⟩
     obtain⟨ji,ej1,ej2⟩:=ej;have TJ:=tk2 (n:=n+1) (h:=h) (x:=x') (m:=6) (o:=.lst (rs.map AW)) (by decide) (by decide);generalize Bt x' 6=tj at TJ ej1;generalize Br x' 6=x2 at TJ;obtain⟨_,_,eo,o,x3,rfl,oo,rfl⟩:=Ir (n:=n) (H:=hnew (hnew h (Av x2)) (.lst (rs.map AW))) (q:=hlen h) (x:=x2) (by rw[DT (by simp)];exact B5) hw h0 h12;rw[CG (by simp),Bu]at eo;have hrb:rs.length<big:=by unfold big;lia
     have era':AW ra=.tup [.str ra.n,.tup (ra.o.map Al),.int ra.ab,.str ra.js,.int ra.dp]:=rfl;rw[era']at hra;simp[-AK,hf',hra,Nk,hd',TJ,ej1,ej2,ezx,eo,hrb];have ejs:(⟨z,o,(above.val:Int),jn,ra.dp+1⟩:Rw).js=Dr jn:=by unfold Rw.js;rw[if_neg (by simp)]
     refine⟨x3,rs++ [⟨z,o,(above.val:Int),jn,ra.dp+1⟩],_,_,_,_,rfl,?_,tr.snoc (zw z (aP ez)) era hd rfl rfl jn.2 hf,?_,?_⟩
     ·rw[bL];show _=hnew (hnew h (Av x3)) (.lst (rs.map AW++ [.tup [.str z,.tup (o.map Al),.int (above.val:Int),.str (Rw.js _),.int ((ra.dp+1:Nat):Int)]]));rw[ejs];rfl
     ·intro r hr;rcases bT.mp hr with hr|hr
      ·exact ro r hr
      rw[bA.mp hr];exact oo
     rw[tk1,bL];exact sub.append (i8 _)
    have hd': ¬(ra.dp:Int)<6:=by lia
    have era':AW ra=.tup [.str ra.n,.tup (ra.o.map Al),.int ra.ab,.str ra.js,.int ra.dp]:=rfl;rw[era']at hra;simp[-AK,hf',hra,Nk,hd'];exact nof _ _
   have hf': ¬(((rs.filter λr=>r.ab ==(above.val:Int)).length:Nat):Int)<6:=by lia
   simp[hf'];exact nof _ _
  ·simp[aw (S8 (h:=h) (a:=Av x') (b:=.lst (rs.map AW)))]
  intro r _;refine⟨_,rfl,?_,λ_=>?_⟩
  ·simp[startC,AW,Nk,-AK];rfl
  simp[startC]
 rintro μ h' ⟨x,rs,v6,v7,v8,v9,rfl,rfl,tr,ro,sub⟩;have hrl:rs.length<=30:=by
  have:=sub.length_le;rw[aC,bD]at this
  lia
 simp;exact⟨rs,rfl,tr,ro,hrl,(znd.sublist (dW _ _)).sublist sub⟩
end BK45
namespace BK45
open PySem B L2 PyProof.Rows
variable {n:Nat}
noncomputable def Xf:Fo->List MV
 |.nil=>[]
 |.cons j n o ks r=>.tup [.str (Dr j),.tup [.str n,.tup (o.map Al),.tup (Xf ks)]]::Xf r
noncomputable def LW(d:Nd):MV:=.tup [.str d.n,.tup (d.o.map Al),.tup (Xf d.ks)]
noncomputable def We(x:Fin 4×Nd):MV:=.tup [.str (Dr x.1),LW x.2]
theorem Fh:∀f:Fo,Xf f=f.items.map We
 |.nil=>rfl
 |.cons j n o ks r=>by rw[Xf,Fh r];rfl
noncomputable def lP(rs:List Rw)(i:Nat):MV:=.tup [.int (i:Int),AW (Ah rs i)]
def IM(rs:List Rw):DC (rs.map AW)=(List.range rs.length).map (lP rs):=by
 unfold DC;apply dY;intro i;rw[aJ,aJ,List.getElem?_zipIdx,aJ];by_cases hi:i<rs.length
 ·rw[By hi,aN (by rw[bE];exact hi),dL];simp[lP]
 rw[dR (by lia),dR (by rw[bE];lia)];rfl
def jR{k:Nat}(hk:k<rs.length):B4 (rs.map AW) (k:Int)=some (AW (Ah rs k)):=by
 rw[AK (bU _),aJ,f9,By hk];rfl
def JY{rs:List Rw}{k:Nat}(hk:k<rs.length):B4 (rs.map AW) (k:Int)=some (.tup [.str (Ah rs k).n,.tup ((Ah rs k).o.map Al),.int (Ah rs k).ab,.str (Ah rs k).js,.int (Ah rs k).dp]):=jR hk
def ID(rs:List Rw)(k:Nat)(F:Nat->MV):(Bo rs k).map F=(List.range rs.length).flatMap λi=>if BL rs k i=true then [F i] else []:=by
 unfold Bo D7
 induction List.range rs.length with
 |nil=>rfl
 |cons i is ih=>by_cases hi:BL rs k i=true<;>simp[hi,ih]
def MC(t:Az rs){k i:Nat}(hi:i∈Bo rs k):(Ah rs i).js=Dr (Ah rs i).j:=by
 have:=(Bg.mp hi).2;unfold Rw.js;rw[if_neg (by rw[this];lia)]
def Gp(r:Cp ks rs)(k:Nat):(Bo rs k).length<=6:=by rw[Ll];exact r.t.few k
def FJ(r:Cp ks rs){f k N:Nat}(hk:k<rs.length)(hf:(Ah rs k).dp+f=6)(ih:∀i∈Bo rs k,∀h,Ph N 65 [.v (.lst (rs.map AW)),.v (.int i)] h=.ok (.v (LW (AL rs (f-1) i))) h):Ph (N+1) 65 [.v (.lst (rs.map AW)),.v (.int k)] h=.ok (.v (LW (AL rs f k))) h:=by
 refine Ae (d:=d65) rfl rfl ?_;have hen:DC (rs.map AW)=_:=IM rs;simp[d65,Ab,hen];have e0:Xf (AL rs f k).ks=[]++(List.range rs.length).flatMap λi=>if BL rs k i=true then [We ((Ah rs i).j,AL rs (f-1) i)] else []:=by
  show Xf (fo rs f k)=_;rw[Fh,Lw r.t hf,bP,fI,←ID rs k (λi=>We ((Ah rs i).j,AL rs (f-1) i))];rfl
 have hB:([]++(List.range rs.length).flatMap λi=>if BL rs k i=true then [We ((Ah rs i).j,AL rs (f-1) i)] else []).length<=6:=by
  rw[fI,←ID rs k (λi=>We ((Ah rs i).j,AL rs (f-1) i)),aC];exact Gp r k
 refine Bl (DU (lP rs) (λi=>if BL rs k i=true then [We ((Ah rs i).j,AL rs (f-1) i)] else []) (λμ=>∃x3 x4,μ=[some (.v (.lst (rs.map AW))),some (.v (.int k)),some (.r (hlen h)),x3,x4]) 6 ⟨_,_,rfl⟩ hB λi hi μ acc ⟨x3,x4,hμ⟩ hl=>?_) λμ ⟨x3,x4,hμ⟩=>?_
 ·subst hμ;refine⟨_,rfl,?_⟩;have hi:=cP.mp hi;by_cases hkd:BL rs k i=true
  ·have hm:i∈Bo rs k:=by unfold Bo D7;exact aS.mpr ⟨cP.mpr hi,hkd⟩
   have hab:=(Bg.mp hm).2;have hacc:acc.length<big:=by rw[if_pos hkd]at hl;simp at hl;unfold big;lia
   simp[AW,Nk,-AK,hab,MC r.t hm,hkd,hacc,We,ih i hm]
  have hab:¬(Ah rs i).ab=(k:Int):=by unfold BL at hkd;simpa using hkd
  simp[AW,Nk,-AK,hab,hkd]
 subst hμ;rw[←e0];have ea:=JY hk;simp[-AK,ea,Nk,LW,AL]
def OQ(r:Cp ks rs):∀f k n h,k<rs.length->(Ah rs k).dp+f=6->Ph (n+f+1) 65 [.v (.lst (rs.map AW)),.v (.int k)] h=.ok (.v (LW (AL rs f k))) h:=by
 intro f
 induction f with
 |zero=>
  intro k n h hk hf;refine FJ r hk hf λi hi=>?_;obtain⟨c1,c2,c3,_⟩:=r.t.kid hi;have:=(r.t.dp6 c1).2
  lia
 |succ f ih=>
  intro k n h hk hf;refine FJ r hk hf λi hi h=>?_;obtain⟨c1,c2,c3,_⟩:=r.t.kid hi;exact ih i n h c1 (by lia)
def NJ(r:Cp ks rs){f k:Nat}(hk:k<rs.length)(hf:(Ah rs k).dp+f=6):Bd (AL rs f k):=r.t.bd r.l r.nd hk (by have:=(r.t.dp6 hk).1;lia)
def Iy(r:Cp ks rs){f k N:Nat}(hk:k<rs.length)(hf:(Ah rs k).dp+f=6)(ih:∀i∈Bo rs k,∀h,Ph (N+9) 67 [.v (LW (AL rs (f-1) i))] h=.ok (.v (AL rs (f-1) i).mv) h):Ph (N+10) 67 [.v (LW (AL rs f k))] h=.ok (.v (AL rs f k).mv) h:=by
 refine Ae (d:=d67) rfl rfl ?_;have hm:=Cu hk;have e0:(AL rs f k).ks.items=(Bo rs k).map λc=>((Ah rs c).j,AL rs (f-1) c):=Lw r.t hf;have hl6:(AL rs f k).ks.items.length<=6:=by rw[e0,aC];exact Gp r k
 simp[d67,Ab];rw[OT (n:=N) (d:=AL rs f k) (h1:=h) (r.t.ok _ hm).1 (r.o _ hm).1 hl6 (NJ r hk hf) ?_]
 ·simp
 simp[LW,An];rw[Ax (h1:=h) (AL rs f k).ks.items We Ss ?_ ?_ (AH (by lia)) ?_]
 ·simp[Of]
 ·exact λ_ _=>rfl
 ·simp[Fh]
 intro x hx;rw[e0]at hx;obtain⟨i,hi,rfl⟩:=bB.mp hx;exact⟨_,rfl,by simp[startC,ih i hi,Ss]⟩
def UB(r:Cp ks rs):∀f k n h,k<rs.length->(Ah rs k).dp+f=6->Ph (n+f+10) 67 [.v (LW (AL rs f k))] h=.ok (.v (AL rs f k).mv) h:=by
 intro f
 induction f with
 |zero=>
  intro k n h hk hf;refine Iy r hk hf λi hi=>?_;obtain⟨c1,c2,c3,_⟩:=r.t.kid hi;have:=(r.t.dp6 c1).2
  lia
 |succ f ih=>
  intro k n h hk hf;refine Iy (N:=n+(f+1)) r hk hf λi hi h=>?_;obtain⟨c1,c2,c3,_⟩:=r.t.kid hi;exact ih i n h c1 (by lia)
noncomputable def Bw(rs:List Rw):Nd:=AL rs 5 0
def DL(r:Cp ks rs):Ph (n+6) 65 [.v (.lst (rs.map AW)),.v (.int 0)] h=.ok (.v (LW (Bw rs))) h/\Ph (n+15) 67 [.v (LW (Bw rs))] h=.ok (.v (Bw rs).mv) h:=⟨OQ r 5 0 n h r.t.pos (by rw[r.t.root1]),UB r 5 0 n h r.t.pos (by rw[r.t.root1])⟩
def Jg(r:Cp ks rs):Bd (Bw rs):=NJ r r.t.pos (by rw[r.t.root1])
def Fa(r:Cp ks rs){f k N:Nat}(hk:k<rs.length)(hf:(Ah rs k).dp+f=6)(ih:∀i∈Bo rs k,∀h,Ph N 74 [.v (.lst (rs.map AW)),.v (.int i)] h=.ok (.v (.lst ((AG rs (f-1) i).map λi=>.str (Ah rs i).n))) h):Ph (N+1) 74 [.v (.lst (rs.map AW)),.v (.int k)] h=.ok (.v (.lst ((AG rs f k).map λi=>.str (Ah rs i).n))) h:=by
 refine Ae (d:=d74) rfl rfl ?_;have hen:DC (rs.map AW)=_:=IM rs;have ea:=JY hk;simp[-AK,d74,Ab,hen,ea,Nk];have hkid0:f=0->Bo rs k=[]:=λh0=>gM.mpr λc hc=>by
  obtain⟨c1,c2,c3,_⟩:=r.t.kid hc;have:=(r.t.dp6 c1).2
  lia
 have e0:((AG rs f k).map λi=>MV.str (Ah rs i).n)=[MV.str (Ah rs k).n]++(List.range rs.length).flatMap λi=>if BL rs k i=true then(AG rs (f-1) i).map (λi=>MV.str (Ah rs i).n) else []:=by
  have kf:(List.range rs.length).flatMap (λi=>if BL rs k i=true then(AG rs (f-1) i).map (λi=>MV.str (Ah rs i).n) else [])=((Bo rs k).map (AG rs (f-1))).flatten.map λi=>MV.str (Ah rs i).n:=by
   unfold Bo D7
   induction List.range rs.length with
   |nil=>rfl
   |cons i is ih=>by_cases hi:BL rs k i=true<;>simp[hi,ih]
  rw[kf];cases f with
  |zero=>rw[hkid0 rfl];rfl
  |succ f=>rw[AG];rfl
 have hL:((AG rs f k).map λi=>MV.str (Ah rs i).n).length<=30:=by
  rw[aC];exact b9 (I0 (r.t.ordI_nodup f k) λi hi=>r.t.ordI_lt hk hi) r.l
 rw[e0]at hL ⊢;refine Bl (DU (lP rs) (λi=>if BL rs k i=true then(AG rs (f-1) i).map (λi=>MV.str (Ah rs i).n) else []) (λμ=>∃x3 x4,μ=[some (.v (.lst (rs.map AW))),some (.v (.int k)),some (.r (hlen h)),x3,x4]) 30 ⟨_,_,rfl⟩ hL λi hi μ acc ⟨x3,x4,hμ⟩ hl=>?_) λμ ⟨x3,x4,hμ⟩=>?_
 ·subst hμ;refine⟨_,rfl,?_⟩;have hi:=cP.mp hi;by_cases hkd:BL rs k i=true
  ·have hm:i∈Bo rs k:=by unfold Bo D7;exact aS.mpr ⟨cP.mpr hi,hkd⟩
   have hab:=(Bg.mp hm).2;rw[if_pos hkd]at hl ⊢;have hacc:acc.length+(AG rs (f-1) i).length<=big:=by rw[aV,aC]at hl;unfold big;lia
   simp[AW,Nk,-AK,hab,hacc,ih i hm]
  have hab:¬(Ah rs i).ab=(k:Int):=by unfold BL at hkd;simpa using hkd
  simp[AW,Nk,-AK,hab,hkd]
 subst hμ;simp
def GV(r:Cp ks rs):∀f k n h,k<rs.length->(Ah rs k).dp+f=6->Ph (n+f+1) 74 [.v (.lst (rs.map AW)),.v (.int k)] h=.ok (.v (.lst ((AG rs f k).map λi=>.str (Ah rs i).n))) h:=by
 intro f
 induction f with
 |zero=>
  intro k n h hk hf;refine Fa r hk hf λi hi=>?_;obtain⟨c1,c2,c3,_⟩:=r.t.kid hi;have:=(r.t.dp6 c1).2
  lia
 |succ f ih=>
  intro k n h hk hf;refine Fa r hk hf λi hi h=>?_;obtain⟨c1,c2,c3,_⟩:=r.t.kid hi;exact ih i n h c1 (by lia)
end BK45
namespace BK45
open PySem B L2 PyProof.Rows
abbrev Rg:=Str×List Ky×Fin 4
noncomputable def Td(c:Fin 4)(rd:List (Fin 4×Str)):Fin 4:=(rd.map (·.1)).foldl Ha c
noncomputable def gi(d:Nd)(c:Fin 4):List Rg:=(At d).map λy=>(y.2.n,y.2.o,Td c y.1)
noncomputable def QJ(d:Nd):List Rg:=(At d).map λy=>(y.2.n,y.2.o,AD y.1)
def gh(d:Nd):QJ d=gi d 3:=rfl
noncomputable def RC(rs:List Rw):Nat->Nat->Fin 4->List (Nat×Fin 4)
 |0,k,c=>[(k,c)]
 |f+1,k,c=>(k,c)::((Bo rs k).map λi=>RC rs f i (Ha c (Ah rs i).j)).flatten
theorem K9(rs:List Rw):∀f k c,gi (AL rs f k) c=(RC rs f k c).map λp=>((Ah rs p.1).n,(Ah rs p.1).o,p.2)
 |0,k,c=>rfl
 |f+1,k,c=>by
  have h:∀is:List Nat,((is.map λi=>EB ((Ah rs i).j,AL rs f i)).flatten).map (λy=>(y.2.n,y.2.o,Td c y.1))=((is.map λi=>RC rs f i (Ha c (Ah rs i).j)).flatten).map λp=>((Ah rs p.1).n,(Ah rs p.1).o,p.2):=by
   intro is
   induction is with
   |nil=>rfl
   |cons i is ih=>
    rw[aK,bZ,bL,ih,aK,bZ,bL,←K9 rs f i];congr 1;unfold EB;rw[bP];rfl
  show((Ah rs k).n,(Ah rs k).o,c)::(De (V0 rs (fo rs f) (Bo rs k))).map (λy=>(y.2.n,y.2.o,Td c y.1))=((Ah rs k).n,(Ah rs k).o,c)::_;rw[Lx,h]
noncomputable def lT(rs:List Rw):Nat->Nat->Fin 4
 |0,_=>3
 |f+1,i=>if i=0 then 3 else Ha (lT rs f (upI rs i)) (Ah rs i).j
noncomputable def cl(rs:List Rw)(i:Nat):Fin 4:=lT rs i i
section
variable {rs:List Rw}(t:Az rs)
include t
theorem Az.up_lt{i:Nat}(h0:0<i)(hi:i<rs.length):upI rs i<i/\i∈Bo rs (upI rs i):=by
 obtain⟨_,a,ra,g2,g3,g4,g5⟩:=t.up i _ (By hi) h0;have:upI rs i=a:=by unfold upI;rw[g2];rfl
 rw[this];exact⟨g3,Bg.mpr ⟨hi,g2⟩⟩
theorem Tc:∀f i,i<=f->i<rs.length->lT rs f i=lT rs i i:=by
 intro f
 induction f using Nat.strongRecOn with
 |ind f ih=>
  intro i hif hi;cases i with
  |zero=>cases f<;>rfl
  |succ i=>
   obtain⟨f,rfl⟩:∃g,f=g+1:=⟨f-1,by lia⟩;have hu:=(t.up_lt (by lia) hi).1;show(if i+1=0 then _ else _)=(if i+1=0 then _ else _);rw[if_neg (by lia),if_neg (by lia)];congr 1;by_cases h:f=i
   ·rw[h]
   rw[ih f (by lia) _ (by lia) (by lia)];by_cases h2:i<f+1
   ·rw[ih i (by lia) _ (by lia) (by lia)]
   lia
theorem Dc{k i:Nat}(hi:i∈Bo rs k):cl rs i=Ha (cl rs k) (Ah rs i).j:=by
 obtain⟨c1,c2,c3,c4,c5⟩:=t.kid hi;obtain⟨j,rfl⟩:∃j,i=j+1:=⟨i-1,by lia⟩;unfold cl;show(if j+1=0 then _ else _)=_;rw[if_neg (by lia),c5];congr 1;exact Tc t j k (by lia) (by lia)
theorem NG:∀f k,k<rs.length->RC rs f k (cl rs k)=(AG rs f k).map λi=>(i,cl rs i)
 |0,k,_=>rfl
 |f+1,k,hk=>by
  rw[RC,AG,aK,List.map_flatten,bP];congr 2;apply fH;intro i hi;rw[Function.comp,←Dc t hi];exact NG f i (t.kid hi).1
theorem AZ:x∈QJ (Bw rs) ↔ ∃i,i<rs.length/\x=((Ah rs i).n,(Ah rs i).o,cl rs i):=by
 have e:QJ (Bw rs)=(AG rs 5 0).map λi=>((Ah rs i).n,(Ah rs i).o,cl rs i):=by
  rw[gh];unfold Bw;rw[K9,show(3:Fin 4)=cl rs 0 from rfl,NG t 5 0 t.pos,bP];rfl
 rw[e,bB];exact⟨λ⟨i,hi,e⟩=>⟨i,t.ordI_lt t.pos hi,e.symm⟩,λ⟨i,hi,e⟩=>⟨i,t.all_in i hi,e.symm⟩⟩
end
def Vd(h1:a<=b)(h2:c<=d):Ha a c<=Ha b d:=by
 unfold Ha;split<;>split<;>simp only[Fin.lt_def,Fin.le_def] at* <;>lia
structure LV(rs rs':List Rw)(at_:Nat):Prop where
 l:rs'.length=rs.length
 s:∀i,i<rs.length->(Ah rs' i).n=(Ah rs i).n/\(Ah rs' i).o=(Ah rs i).o/\(Ah rs' i).ab=(Ah rs i).ab/\(Ah rs' i).dp=(Ah rs i).dp/\(i≠at_->(Ah rs' i).j=(Ah rs i).j)
section
variable {rs rs':List Rw}{at_:Nat}(t:Az rs) (t':Az rs') (a:LV rs rs' at_)
include t t' a
theorem H0{k i:Nat}(hi:i∈Bo rs k):i∈Bo rs' k:=by
 obtain⟨h1,h2⟩:=Bg.mp hi;exact Bg.mpr ⟨by rw[a.l];exact h1,by rw[(a.s i h1).2.2.1];exact h2⟩
theorem LM(hj:(Ah rs' at_).j<=(Ah rs at_).j):∀i,i<rs.length->cl rs' i<=cl rs i:=by
 intro i
 induction i using Nat.strongRecOn with
 |ind i ih=>
  intro hi;by_cases h0:i=0
  ·subst h0;exact Fin.le_refl _
  obtain⟨u1,u2⟩:=t.up_lt (by lia) hi;rw[Dc t u2,Dc t' (H0 t t' a u2)];refine Vd (ih _ u1 (by lia)) ?_;by_cases hat:i=at_
  ·subst hat;exact hj
  rw[(a.s i hi).2.2.2.2 hat];exact Fin.le_refl _
theorem Ja{f:Nat}(hat:0<at_)(hf:(Ah rs at_).dp+f=6):∀i,i<rs.length->i∉AG rs f at_->cl rs' i=cl rs i:=by
 intro i
 induction i using Nat.strongRecOn with
 |ind i ih=>
  intro hi hn;by_cases h0:i=0
  ·subst h0;rfl
  obtain⟨u1,u2⟩:=t.up_lt (by lia) hi;have ne:i≠at_:=by
   rintro rfl;apply hn;cases f with
   |zero=>rw[AG];exact bA.mpr rfl
   |succ f=>rw[AG];exact aH
  rw[Dc t u2,Dc t' (H0 t t' a u2),(a.s i hi).2.2.2.2 ne,ih _ u1 (by lia) λh=>hn (t.closed hf h u2)]
end
noncomputable def sl(rs:List Rw)(f at_:Nat):List Nat:=(List.range rs.length).filter λi=>!decide (i∈AG rs f at_)
noncomputable def Kh(rs:List Rw)(L:List Nat)(i:Nat):Rw:=⟨(Ah rs i).n,(Ah rs i).o,if (Ah rs i).ab<0 then -1 else((L.idxOf (upI rs i):Nat):Int),(Ah rs i).j,(Ah rs i).dp⟩
noncomputable def wo(rs:List Rw)(f at_:Nat):List Rw:=(sl rs f at_).map (Kh rs (sl rs f at_))
def CV{f at_ i:Nat}:i∈sl rs f at_ ↔ i<rs.length/\i∉AG rs f at_:=by
 unfold sl;rw[aS,cP];simp
def N8(rs:List Rw)(f at_:Nat):(sl rs f at_).Pairwise (· < ·):=iS _ List.pairwise_lt_range
def Yk{L:List Nat}(h:L.Pairwise (· < ·)){p q:Nat}(hp:p<L.length)(hq:q<L.length)(e:L[q]<L[p]):q<p:=by
 by_cases h1:q<p
 ·exact h1
 by_cases h2:p=q
 ·subst h2;lia
 have:=(bC.mp h) p q hp hq (by lia)
 lia
section
variable {ks:List Ky}{rs:List Rw}(r:Cp ks rs) {f at_:Nat}(hat:0<at_) (hal:at_<rs.length) (hf:(Ah rs at_).dp+f=6)
include r hat hal hf
theorem T9:0∈sl rs f at_:=by
 refine CV.mpr ⟨r.t.pos,λh=>?_⟩;obtain⟨m,m1,m2,m3⟩:=r.t.desc h;obtain⟨_,u2⟩:=r.t.up_lt hat hal;have:=(r.t.kid u2).2.2.1;have:=(r.t.dp6 (k:=upI rs at_) (by have:=(r.t.up_lt hat hal).1;lia)).1;have:=r.t.root1
 lia
theorem Kn{i:Nat}(hi:i∈sl rs f at_)(h0:0<i):upI rs i∈sl rs f at_/\upI rs i<i:=by
 obtain⟨h1,h2⟩:=CV.mp hi;obtain⟨u1,u2⟩:=r.t.up_lt h0 h1;exact⟨CV.mpr ⟨by lia,λh=>h2 (r.t.closed hf h u2)⟩,u1⟩
theorem N7:∃L,sl rs f at_=0::L:=by
 have h0:=T9 r hat hal hf;cases e:sl rs f at_ with
 |nil=>rw[e]at h0;cases h0
 |cons a L=>
  have hp:=N8 rs f at_;rw[e]at h0 hp;rcases aU.mp h0 with h|h
  ·exact⟨L,by rw[h]⟩
  have:=(List.pairwise_cons.mp hp).1 0 h
  lia
theorem Qu{p:Nat}(hp:p<(sl rs f at_).length):Ah (wo rs f at_) p=Kh rs (sl rs f at_) (sl rs f at_)[p]:=by
 refine Dy ?_;unfold wo;rw[aJ,aN hp];rfl
theorem Gx{i:Nat}(hi:i<rs.length):((Ah rs i).ab<0) ↔ i=0:=by
 constructor
 ·intro h;by_cases h0:i=0
  ·exact h0
  have:=(Bg.mp (r.t.up_lt (by lia) hi).2).2
  lia
 rintro rfl;rw[(r.t.root _ (By r.t.pos)).1];decide
theorem Qt:Cp ks (wo rs f at_):=by
 obtain⟨L0,e0⟩:=N7 r hat hal hf;have hlen:(wo rs f at_).length=(sl rs f at_).length:=aC _;have hin:∀i∈sl rs f at_,i<rs.length:=λi hi=>(CV.mp hi).1;have ab_pos:∀i∈sl rs f at_,∀q:Nat,(Kh rs (sl rs f at_) i).ab=(q:Int)->0<i/\(sl rs f at_).idxOf (upI rs i)=q:=λi hi q h=>by
  have h:(if (Ah rs i).ab<0 then(-1:Int) else(((sl rs f at_).idxOf (upI rs i):Nat):Int))=(q:Int):=h;by_cases hn:(Ah rs i).ab<0
  ·rw[if_pos hn]at h;lia
  rw[if_neg hn]at h;refine⟨?_,by lia⟩;by_cases h0:i=0
  ·exact absurd ((Gx r hat hal hf (hin i hi)).mpr h0) hn
  lia
 have kid_of:∀i∈sl rs f at_,∀q (hq:q<(sl rs f at_).length),(Kh rs (sl rs f at_) i).ab=(q:Int)->BL rs (sl rs f at_)[q] i=true:=λi hi q hq h=>by
  obtain⟨i0,e1⟩:=ab_pos i hi q h;have hu:=(Kn r hat hal hf hi i0).1;have hq2:=cY hu;have eq:(sl rs f at_)[(sl rs f at_).idxOf (upI rs i)]=upI rs i:=fT hq2;have eq2:(sl rs f at_)[q]=upI rs i:=by rw[←eq];congr 1;exact e1.symm
  rw[eq2];unfold BL;rw[(Bg.mp (r.t.up_lt i0 (hin i hi)).2).2];exact beq_self_eq_true _
 refine⟨⟨by rw[hlen,e0];simp,?_,?_,?_,?_⟩,?_,?_,?_⟩
 ·intro x hx;obtain⟨i,hi,rfl⟩:=bB.mp hx;have:=r.t.ok _ (Cu (hin i hi));exact this
 ·intro x hx;unfold wo at hx;rw[e0,aK,List.getElem?_cons_zero]at hx;cases hx;refine⟨?_,r.t.root1⟩;show(if (Ah rs 0).ab<0 then(-1:Int) else _)=-1;rw[if_pos ((Gx r hat hal hf r.t.pos).mpr rfl)]
 ·intro p x hx hp;have hpl:p<(sl rs f at_).length:=by rw[←hlen];exact(a9.mp hx).1
  have ex:x=Kh rs (sl rs f at_) (sl rs f at_)[p]:=by
   rw[←Qu r hat hal hf hpl,Dy hx]
  have hi:(sl rs f at_)[p]∈sl rs f at_:=eK _;generalize hie:(sl rs f at_)[p]=i at ex hi;have i0:0<i:=by
   by_cases h:i=0
   ·exfalso
    have h0':(sl rs f at_)[0]'(by lia)=0:=by simp[e0]
    have hpw:=bC.mp (N8 rs f at_) 0 p (by lia) hpl hp;rw[hie,h0']at hpw
    lia
   lia
  obtain⟨hu,hui⟩:=Kn r hat hal hf hi i0;have hq:=cY hu;have eq:(sl rs f at_)[(sl rs f at_).idxOf (upI rs i)]=upI rs i:=fT hq;refine⟨x.j.2,(sl rs f at_).idxOf (upI rs i),Kh rs (sl rs f at_) (upI rs i),?_,Yk (N8 rs f at_) hpl hq (by rw[eq,hie];exact hui),?_,?_⟩
  ·rw[ex];show(if (Ah rs i).ab<0 then(-1:Int) else _)=_;rw[if_neg (λh=>by have:=(Gx r hat hal hf (hin i hi)).mp h;lia)]
  ·unfold wo;rw[aJ,aN hq,eq];rfl
  rw[ex];exact(r.t.kid (r.t.up_lt i0 (hin i hi)).2).2.2.1
 ·intro q;by_cases hq:q<(sl rs f at_).length
  ·have hk:=Gp r (sl rs f at_)[q];refine b9 ?_ hk;unfold wo Bo D7;rw[List.filter_map,aC];have e1:∀p,(sl rs f at_).filter p=(List.range rs.length).filter λi=>p i&& !decide (i∈AG rs f at_):=λp=>by unfold sl;rw[List.filter_filter]
   rw[e1,←fB,←fB];refine List.countP_mono_left λi hi h=>?_;rw[cO]at h;have hs:i∈sl rs f at_:=CV.mpr ⟨cP.mp hi,by simpa using h.2⟩;have h1:(Kh rs (sl rs f at_) i).ab=(q:Int):=by simpa using h.1
   exact kid_of i hs q hq h1
  have:(wo rs f at_).filter (λx=>x.ab ==(q:Int))=[]:=by
   rw[cG];intro x hx h;obtain⟨i,hi,rfl⟩:=bB.mp hx;have h1:(Kh rs (sl rs f at_) i).ab=(q:Int):=by simpa using h
   obtain⟨i0,e1⟩:=ab_pos i hi q h1;have:=cY (Kn r hat hal hf hi i0).1
   lia
  rw[this];exact dH _
 ·intro x hx;obtain⟨i,hi,rfl⟩:=bB.mp hx;have:=r.o _ (Cu (hin i hi));exact this
 ·rw[hlen];exact b9 (b9 (bG _ _) (by rw[bE];exact aI _)) r.l
 unfold wo;rw[bP];have e:(rs.map (·.n))=(List.range rs.length).map λi=>(Ah rs i).n:=by
  conv=>lhs;rw[Dz rs]
  rw[bP];rfl
 have nd:=r.nd;rw[e]at nd;exact nd.sublist (iI (λi=>(Ah rs i).n) gP)
theorem Wa:∀p (hp:p<(sl rs f at_).length),cl (wo rs f at_) p=cl rs (sl rs f at_)[p]:=by
 obtain⟨L0,e0⟩:=N7 r hat hal hf;have hlen:(wo rs f at_).length=(sl rs f at_).length:=aC _;have w:=Qt r hat hal hf;intro p
 induction p using Nat.strongRecOn with
 |ind p ih=>
  intro hp;by_cases p0:p=0
  ·subst p0;have h0':(sl rs f at_)[0]=0:=by simp[e0]
   rw[h0'];rfl
  have hi:(sl rs f at_)[p]∈sl rs f at_:=eK _;have i0:0<(sl rs f at_)[p]:=by
   have h0':(sl rs f at_)[0]'(by lia)=0:=by simp[e0]
   have hpw:=bC.mp (N8 rs f at_) 0 p (by lia) hp (by lia)
   lia
  have hil:=(CV.mp hi).1;obtain⟨u1,u2⟩:=w.t.up_lt (i:=p) (by lia) (by rw[hlen];exact hp);obtain⟨v1,v2⟩:=r.t.up_lt i0 hil;have hu:=(Kn r hat hal hf hi i0).1;have hq:=cY hu;have eq:(sl rs f at_)[(sl rs f at_).idxOf (upI rs (sl rs f at_)[p])]=upI rs (sl rs f at_)[p]:=fT hq;have eu:upI (wo rs f at_) p=(sl rs f at_).idxOf (upI rs (sl rs f at_)[p]):=by
   unfold upI;rw[Qu r hat hal hf hp];show(if (Ah rs _).ab<0 then(-1:Int) else(((sl rs f at_).idxOf (upI rs (sl rs f at_)[p]):Nat):Int)).toNat=_;rw[if_neg (λh=>by have:=(Gx r hat hal hf hil).mp h;lia)];rfl
  rw[Dc w.t u2,Dc r.t v2,Qu r hat hal hf hp];congr 1;have h1:=ih (upI (wo rs f at_) p) u1 (by rw[eu];exact hq);rw[h1];congr 1;simp only[eu];exact eq
end
variable {n:Nat}
theorem Oa:∀{zs:List Str},zs.Nodup->∀p (hp:p<zs.length),idxOf (.str zs[p]) (zs.map MV.str)=some p
 |[],_,p,hp=>by cases hp
 |z::zs,nd,p,hp=>by
  rw[aK,idxOf];cases p with
  |zero=>rw[if_pos (by simp[Hs])]
  |succ p=>
   have hp2:p<zs.length:=by simpa using hp
   have ne:¬z=zs[p]:=λe=>(bX.mp nd).1 (by rw[e];exact eK _);rw[if_neg (by simpa[Hs]using ne)];show(idxOf (.str zs[p]) (zs.map MV.str)).map (· +1)=_;rw[Oa (bX.mp nd).2 p hp2];rfl
theorem Dx:∀zs:List Str,Ek (zs.map MV.str)=some zs
 |[]=>rfl
 |z::zs=>by rw[aK,Ek,Dx zs];rfl
def CF{zs:List Str}(nd:zs.Nodup){p:Nat}(hp:p<zs.length):Qj .index (.lst (zs.map MV.str)) [.str zs[p]]=some (.int p):=by
 have e:∀l x,Qj .index (.lst l) [.str x]=(Ek l).bind λ_=>(idxOf (.str x) l).map λ(i:Nat)=>MV.int (i:Int):=λl x=>rfl;rw[e,Dx,iH,Oa nd p hp];rfl
section
variable {ks:List Ky}{rs:List Rw}(r:Cp ks rs) {f at_:Nat}(hat:0<at_) (hal:at_<rs.length) (hf:(Ah rs at_).dp+f=6)
include r hat hal hf
theorem S9{i:Nat}(hi:i<rs.length):((Ah rs i).n∈(AG rs f at_).map λi=>(Ah rs i).n) ↔ i∈AG rs f at_:=by
 constructor
 ·intro h;obtain⟨j,hj,e⟩:=bB.mp h;have:j=i:=KW r.nd (r.t.ordI_lt hal hj) hi e
  rwa[←this]
 exact λh=>bB.mpr ⟨i,h,rfl⟩
theorem Mr:Ph (n+f+2) 75 [.v (.lst (rs.map AW)),.v (.int at_)] h=.ok (.v (.lst ((wo rs f at_).map AW))) h:=by
 refine Ae (d:=d75) rfl rfl ?_;have eb:=GV r f at_ n h hal hf;have hsl:(sl rs f at_).length<=1000:=by
  have:=bG (λi=>!decide (i∈AG rs f at_)) (List.range rs.length);have:=r.l;unfold sl;rw[bE]at *
  lia
 have rm:rs.map AW=(List.range rs.length).map λi=>AW (Ah rs i):=by
  conv=>lhs;rw[Dz rs]
  rw[bP];rfl
 simp[d75,Ab,eb,An];rw[AN (h1:=h) (List.range rs.length) (λi=>AW (Ah rs i)) (λi=>AW (Ah rs i)) (λi=>!decide (i∈AG rs f at_)) ?_ (AH (by rw[bE];have:=r.l;lia)) ?_]
 ·rw[show(List.range rs.length).filter (λi=>!decide (i∈AG rs f at_))=sl rs f at_ from rfl];simp[An];rw[Ax (h1:=h) (sl rs f at_) (λi=>AW (Ah rs i)) (λi=>.str (Ah rs i).n) ?_ ?_ (AH hsl) ?_]
  ·have hS:∀i∈sl rs f at_,i<rs.length:=λi hi=>(CV.mp hi).1;have nS:((sl rs f at_).map λi=>(Ah rs i).n).Nodup:=by
     have e:(rs.map (·.n))=(List.range rs.length).map λi=>(Ah rs i).n:=by
      conv=>lhs;rw[Dz rs]
      rw[bP];rfl
     have nd:=r.nd;rw[e]at nd;exact nd.sublist (iI (λi=>(Ah rs i).n) gP)
   have eS:((sl rs f at_).map λi=>MV.str (Ah rs i).n)=((sl rs f at_).map λi=>(Ah rs i).n).map MV.str:=by rw[bP];rfl
   have hup:∀i∈sl rs f at_,0<i->Qj .index (.lst ((sl rs f at_).map λi=>MV.str (Ah rs i).n)) [.str (Ah rs (upI rs i)).n]=some (.int ((sl rs f at_).idxOf (upI rs i):Nat)):=λi hi i0=>by
     have hu:=(Kn r hat hal hf hi i0).1;have hq:=cY hu;have eq:(sl rs f at_)[(sl rs f at_).idxOf (upI rs i)]=upI rs i:=fT hq;rw[eS];have:=CF nS (p:=(sl rs f at_).idxOf (upI rs i)) (by rw[aC];exact hq);rw[iG,eq]at this;exact this
   simp only[To,UX];simp[];have eW:(wo rs f at_).map AW=[]++(sl rs f at_).map λi=>AW (Kh rs (sl rs f at_) i):=by unfold wo;rw[bP];rfl
   rw[eW];generalize hN:((sl rs f at_).map λi=>MV.str (Ah rs i).n)=N at hup ⊢;generalize ((AG rs f at_).map λi=>MV.str (Ah rs i).n)=G;refine Bl (EW (acc:=[]) (λi=>AW (Ah rs i)) (λi=>AW (Kh rs (sl rs f at_) i)) (λμ=>∃x6 x7,μ=[some (.v (.lst (rs.map AW))),some (.v (.int at_)),some (.v (.lst G)),some (.v (.lst ((sl rs f at_).map λi=>AW (Ah rs i)))),some (.v (.lst N)),some (.r (hlen h)),x6,x7]) ⟨_,_,rfl⟩ λj i μ hj ⟨x6,x7,hμ⟩=>?_) λμ ⟨x6,x7,hμ⟩=>?_
   ·subst hμ;refine⟨_,rfl,?_⟩;have hi:=aP hj;have hil:=hS i hi;have hacc:(((sl rs f at_).take j).map λi=>AW (Kh rs (sl rs f at_) i)).length<big:=by rw[aC,bD];unfold big;lia
    generalize (((sl rs f at_).take j).map λi=>AW (Kh rs (sl rs f at_) i))=acc at hacc ⊢;have i3:∀l,VM .index (.lst l)=true:=λ_=>rfl;by_cases i0:i=0
    ·subst i0;have hab:(Ah rs 0).ab=-1:=(r.t.root _ (By r.t.pos)).1;have hjs:(Ah rs 0).js=Str.ofString "":=by unfold Rw.js;rw[hab];rfl
     have hw:AW (Kh rs (sl rs f at_) 0)=.tup [.str (Ah rs 0).n,.tup ((Ah rs 0).o.map Al),.int (-1),.str (Str.ofString ""),.int (Ah rs 0).dp]:=by
      have ha:(Kh rs (sl rs f at_) 0).ab=-1:=by show(if (Ah rs 0).ab<0 then(-1:Int) else _)=-1;rw[hab];rfl
      have hs:(Kh rs (sl rs f at_) 0).js=Str.ofString "":=by unfold Rw.js;rw[ha];rfl
      unfold AW;rw[ha,hs];rfl
     rw[hw];simp[AW,Nk,-AK,hab,hjs,hacc]
    obtain⟨u1,u2⟩:=r.t.up_lt (by lia) hil;have hab:(Ah rs i).ab=(upI rs i:Int):=(Bg.mp u2).2;have hjs:(Ah rs i).js=Dr (Ah rs i).j:=MC r.t u2;have hw:AW (Kh rs (sl rs f at_) i)=.tup [.str (Ah rs i).n,.tup ((Ah rs i).o.map Al),.int ((sl rs f at_).idxOf (upI rs i):Nat),.str (Dr (Ah rs i).j),.int (Ah rs i).dp]:=by
     have ha:(Kh rs (sl rs f at_) i).ab=(((sl rs f at_).idxOf (upI rs i):Nat):Int):=by show(if (Ah rs i).ab<0 then(-1:Int) else _)=_;rw[if_neg (by rw[hab];lia)]
     have hs:(Kh rs (sl rs f at_) i).js=Dr (Ah rs i).j:=by unfold Rw.js;rw[ha,if_neg (by lia)];rfl
     unfold AW;rw[ha,hs];rfl
    have hu:=JY (k:=upI rs i) (rs:=rs) (by lia);have hix:=hup i hi (by lia);rw[hw];generalize (sl rs f at_).idxOf (upI rs i)=q at hix ⊢;have eri:AW (Ah rs i)=.tup [.str (Ah rs i).n,.tup ((Ah rs i).o.map Al),.int (upI rs i:Int),.str (Dr (Ah rs i).j),.int (Ah rs i).dp]:=by unfold AW;rw[hab,hjs]
    rw[eri];simp[Nk,-AK,hu,i3,hix,hacc]
   subst hμ;simp
  ·exact λ_ _=>rfl
  ·simp[sl]
  intro i _;exact⟨_,rfl,by simp[startC,AW,Nk,-AK]⟩
 ·simp[rm]
 intro i hi;have hi:=cP.mp hi;refine⟨_,rfl,?_,λ_=>?_⟩
 ·have e:Px (.str (Ah rs i).n) ((AG rs f at_).map λi=>.str (Ah rs i).n)=some (decide (i∈AG rs f at_)):=by
   rw[Gr];congr 1;exact decide_eq_decide.mpr (S9 r hat hal hf hi)
  simp[startC,AW,Nk,-AK,AJ,Vc,e]
 simp[startC]
end
end BK45
namespace BK45
open PySem B L2 PyProof.Rows
variable {n:Nat}
def O2{at_:Nat}(r:Cp ks rs)(a:LV rs rs' at_):Cp ks rs':=by
 have hA:∀{i:Nat}{x:Rw},rs'[i]?=some x->i<rs.length/\x=Ah rs' i:=λ{i x} hx=>by
  have:=(a9.mp hx).1;rw[a.l]at this;exact⟨this,(Dy hx).symm⟩
 have hM:∀{x:Rw},x∈rs'->∃i,i<rs.length/\x=Ah rs' i:=λ{x} hx=>by
  obtain⟨i,hi⟩:=List.mem_iff_getElem?.mp hx;exact⟨i,hA hi⟩
 have kid': ∀k,Bo rs' k=Bo rs k:=λk=>by
  unfold Bo D7;rw[a.l];apply List.filter_congr;intro i hi;unfold BL;rw[(a.s i (cP.mp hi)).2.2.1]
 refine⟨⟨by rw[a.l];exact r.t.pos,?_,?_,?_,?_⟩,?_,by rw[a.l];exact r.l,?_⟩
 ·intro x hx;obtain⟨i,hi,rfl⟩:=hM hx;have s:=a.s i hi;rw[s.1,s.2.2.2.1];exact r.t.ok _ (Cu hi)
 ·intro x hx;obtain⟨hi,rfl⟩:=hA hx;have s:=a.s 0 hi;rw[s.2.2.1,s.2.2.2.1];exact r.t.root _ (By hi)
 ·intro i x hx h0;obtain⟨hi,rfl⟩:=hA hx;have s:=a.s i hi;obtain⟨g1,b,rb,g2,g3,g4,g5⟩:=r.t.up i _ (By hi) h0;have hb:b<rs.length:=by lia
  refine⟨(Ah rs' i).j.2,b,Ah rs' b,by rw[s.2.2.1];exact g2,g3,By (by rw[a.l];exact hb),?_⟩;rw[s.2.2.2.1,(a.s b hb).2.2.2.1,g5,Dy g4]
 ·intro k;rw[←Ll,kid'];exact Gp r k
 ·intro x hx;obtain⟨i,hi,rfl⟩:=hM hx;rw[(a.s i hi).2.1];exact r.o _ (Cu hi)
 have e:∀qs:List Rw,qs.map (·.n)=(List.range qs.length).map λi=>(Ah qs i).n:=λqs=>by
  conv=>lhs;rw[Dz qs]
  rw[bP];rfl
 rw[e,a.l];have nd:=r.nd;rw[e]at nd;have:((List.range rs.length).map λi=>(Ah rs' i).n)=(List.range rs.length).map λi=>(Ah rs i).n:=fH λi hi=>(a.s i (cP.mp hi)).1;rw[this];exact nd
structure ZT(d1 d2:Nd)(B:List Str):Prop where
 h1:∀x∈QJ d1,∃c',x.2.2<=c'/\(x.1,x.2.1,c')∈QJ d2
 h2:∀x∈QJ d2,x.1∈B\/x∈QJ d1
section
variable {ks:List Ky}{rs:List Rw}(r:Cp ks rs) {f at_:Nat}(hat:0<at_) (hal:at_<rs.length) (hf:(Ah rs at_).dp+f=6)
include r hat hal hf
theorem Z2:ZT (Bw (wo rs f at_)) (Bw rs) ((AG rs f at_).map λi=>(Ah rs i).n):=by
 have w:=Qt r hat hal hf;have hlen:(wo rs f at_).length=(sl rs f at_).length:=aC _;refine⟨λx hx=>?_,λx hx=>?_⟩
 ·obtain⟨p,hp,rfl⟩:=(AZ w.t).mp hx;rw[hlen]at hp;refine⟨cl (wo rs f at_) p,Fin.le_refl _,(AZ r.t).mpr ⟨(sl rs f at_)[p],(CV.mp (eK _)).1,?_⟩⟩;rw[Qu r hat hal hf hp,Wa r hat hal hf p hp];rfl
 obtain⟨i,hi,rfl⟩:=(AZ r.t).mp hx;by_cases hg:i∈AG rs f at_
 ·exact .inl (bB.mpr ⟨i,hg,rfl⟩)
 right
 obtain⟨p,hp,e⟩:=cD.mp (CV.mpr ⟨hi,hg⟩);refine(AZ w.t).mpr ⟨p,by rw[hlen];exact hp,?_⟩;rw[Qu r hat hal hf hp,Wa r hat hal hf p hp,e];rfl
theorem IR(a:LV rs rs' at_):((Ah rs' at_).j<=(Ah rs at_).j->ZT (Bw rs') (Bw rs) ((AG rs f at_).map λi=>(Ah rs i).n))/\((Ah rs at_).j<=(Ah rs' at_).j->ZT (Bw rs) (Bw rs') ((AG rs f at_).map λi=>(Ah rs i).n)):=by
 have w:=O2 r a;have a':LV rs' rs at_:=⟨a.l.symm,λi hi=>by rw[a.l]at hi;have s:=a.s i hi;exact⟨s.1.symm,s.2.1.symm,s.2.2.1.symm,s.2.2.2.1.symm,λh=>(s.2.2.2.2 h).symm⟩⟩;refine⟨λhj=>⟨λx hx=>?_,λx hx=>?_⟩,λhj=>⟨λx hx=>?_,λx hx=>?_⟩⟩
 ·obtain⟨i,hi,rfl⟩:=(AZ w.t).mp hx;rw[a.l]at hi;exact⟨cl rs i,LM r.t w.t a hj i hi,(AZ r.t).mpr ⟨i,hi,by rw[(a.s i hi).1,(a.s i hi).2.1]⟩⟩
 ·obtain⟨i,hi,rfl⟩:=(AZ r.t).mp hx;by_cases hg:i∈AG rs f at_
  ·exact .inl (bB.mpr ⟨i,hg,rfl⟩)
  exact .inr ((AZ w.t).mpr ⟨i,by rw[a.l];exact hi,by rw[(a.s i hi).1,(a.s i hi).2.1,Ja r.t w.t a hat hf i hi hg]⟩)
 ·obtain⟨i,hi,rfl⟩:=(AZ r.t).mp hx;exact⟨cl rs' i,LM w.t r.t a' hj i (by rw[a.l];exact hi),(AZ w.t).mpr ⟨i,by rw[a.l];exact hi,by rw[(a.s i hi).1,(a.s i hi).2.1]⟩⟩
 obtain⟨i,hi,rfl⟩:=(AZ w.t).mp hx;rw[a.l]at hi;by_cases hg:i∈AG rs f at_
 ·exact .inl (bB.mpr ⟨i,hg,by rw[(a.s i hi).1]⟩)
 exact .inr ((AZ r.t).mpr ⟨i,hi,by rw[(a.s i hi).1,(a.s i hi).2.1,Ja r.t w.t a hat hf i hi hg]⟩)
end
noncomputable def GL(rs:List Rw)(at_:Nat)(j:Fin 4):List Rw:=rs.take at_++ [⟨(Ah rs at_).n,(Ah rs at_).o,(Ah rs at_).ab,j,(Ah rs at_).dp⟩]++rs.drop (at_+1)
def Xy{at_:Nat}(hal:at_<rs.length):LV rs (GL rs at_ j) at_/\(Ah (GL rs at_ j) at_).j=j:=by
 have e:GL rs at_ j=rs.set at_ ⟨(Ah rs at_).n,(Ah rs at_).o,(Ah rs at_).ab,j,(Ah rs at_).dp⟩:=by
  unfold GL;rw[List.set_eq_take_append_cons_drop,if_pos hal,dE];rfl
 have e2:Ah (GL rs at_ j) at_=⟨(Ah rs at_).n,(Ah rs at_).o,(Ah rs at_).ab,j,(Ah rs at_).dp⟩:=by
  refine Dy ?_;rw[e,fV hal]
 refine⟨⟨by rw[e,List.length_set],λi hi=>?_⟩,by rw[e2]⟩;by_cases h:i=at_
 ·subst h;rw[e2];exact⟨rfl,rfl,rfl,rfl,λh=>absurd rfl h⟩
 have:Ah (GL rs at_ j) i=Ah rs i:=by
  refine Dy ?_;rw[e,c7 (by lia)];exact By hi
 rw[this];exact⟨rfl,rfl,rfl,rfl,λ_=>rfl⟩
end BK45
namespace BK45
open PySem B L2 PyProof.Rows
variable {n:Nat}
def CH(ks:List Ky)(h:MH)(m:MV)(h':MH):Prop:=E4 λ(r1 r2:List Rw) (B:List Str) (x:Bx)=>A5 (m=.lst [.lst (r1.map AW),.lst (r2.map AW),.lst (B.map MV.str)]) (Cp ks r1) (Cp ks r2) (ZT (Bw r1) (Bw r2) B) (h'=hnew h (Av x))
def rq:∀j:Fin 4,Qj .index (.lst [.str (Str.ofString "called"),.str (Str.ofString "beside"),.str (Str.ofString "joined"),.str (Str.ofString "changed")]) [.str (Dr j)]=some (.int j.val):=by
 have nd:([Dr 0,Dr 1,Dr 2,Dr 3]:List Str).Nodup:=by decide +kernel
 intro j;have h4:j=0\/j=1\/j=2\/j=3:=by lia
 rcases h4 with rfl|rfl|rfl|rfl
 ·exact CF nd (p:=0) (by decide)
 ·exact CF nd (p:=1) (by decide)
 ·exact CF nd (p:=2) (by decide)
 exact CF nd (p:=3) (by decide)
def rX:∀j:Fin 4,B4 [MV.str (Str.ofString "called"),.str (Str.ofString "beside"),.str (Str.ofString "joined"),.str (Str.ofString "changed")] (j.val:Int)=some (.str (Dr j)):=by
 intro j;have h4:j=0\/j=1\/j=2\/j=3:=by lia
 rcases h4 with rfl|rfl|rfl|rfl<;>rfl
def Mw(r:Cp ks rs)(h1:1<rs.length)(x:Bx):Kf (Ph (n+8) 76 [.r (hlen h),.v (.lst (rs.map AW))] (hnew h (Av x))) (CH ks h):=by
 refine Gj (d:=d76) rfl rfl ?_;have hl:=r.l;obtain⟨t,et⟩:∃a:Fin (rs.length-1),Bt x ((rs.length:Int)-1)=(a.val:Int):=by
  have:=GB x (m:=rs.length-1) (by lia)
  rwa[show((rs.length-1:Nat):Int)=(rs.length:Int)-1 by lia]at this
 have T1:Ph (n+7) 57 [.r (hlen h),.v (.int ((rs.length:Int)-1))] (hnew h (Av x))=.ok (.v (.int (t.val:Int))) (hnew h (Av (Br x ((rs.length:Int)-1)))):=by rw[←et];exact tk1 (by lia) (by lia)
 generalize Br x ((rs.length:Int)-1)=x1 at T1;clear et;obtain⟨at_,hae,hat,hal⟩:∃at_:Nat,(1:Int)+(t.val:Int)=(at_:Int)/\0<at_/\at_<rs.length:=⟨1+t.val,by lia,by lia,by lia⟩;obtain⟨f,hf,hf5⟩:∃f,(Ah rs at_).dp+f=6/\f<=5:=by
  have:=r.t.dp6 hal;exact⟨6-(Ah rs at_).dp,by lia,by lia⟩
 have eBe:∀h,Ph (n+7) 74 [.v (.lst (rs.map AW)),.v (.int at_)] h=.ok (.v (.lst ((AG rs f at_).map λi=>.str (Ah rs i).n))) h:=λh=>by
  have:=GV r f at_ (n+6-f) h hal hf
  rwa[show n+6-f+f+1=n+7 by lia]at this
 have eWo:∀h,Ph (n+7) 75 [.v (.lst (rs.map AW)),.v (.int at_)] h=.ok (.v (.lst ((wo rs f at_).map AW))) h:=λh=>by
  have:=Mr (n:=n+5-f) (h:=h) r hat hal hf
  rwa[show n+5-f+f+2=n+7 by lia]at this
 have eB:((AG rs f at_).map λi=>MV.str (Ah rs i).n)=((AG rs f at_).map λi=>(Ah rs i).n).map MV.str:=by rw[bP];rfl
 have T2:Ph (n+7) 57 [.r (hlen h),.v (.int 2)] (hnew h (Av x1))=.ok (.v (.int (Bt x1 2))) (hnew h (Av (Br x1 2))):=tk1 (by decide) (by decide);simp only[List.length_map,d76,Ab];by_cases h2:Bt x1 2=0
 ·simp[T1,hae,T2,h2,eWo,eBe];exact⟨wo rs f at_,rs,_,Br x1 2,by rw[eB],Qt r hat hal hf,r,Z2 r hat hal hf,rfl⟩
 obtain⟨jn,ej⟩:∃a:Fin 4,Bt (Br x1 2) 4=(a.val:Int):=GB _ (by decide);have T3:Ph (n+7) 57 [.r (hlen h),.v (.int 4)] (hnew h (Av (Br x1 2)))=.ok (.v (.int (jn.val:Int))) (hnew h (Av (Br (Br x1 2) 4))):=by rw[←ej];exact tk1 (by decide) (by decide)
 generalize Br (Br x1 2) 4=x3 at T3;have er:=JY hal;have hjs:(Ah rs at_).js=Dr (Ah rs at_).j:=MC r.t (r.t.up_lt hat hal).2;rw[hjs]at er;obtain⟨al,aj⟩:=Xy (j:=jn) hal;have w:=O2 r al;have hab:0<=(Ah rs at_).ab:=by rw[(Bg.mp (r.t.up_lt hat hal).2).2];lia
 have eO:(rs.take at_).map AW++ [.tup [.str (Ah rs at_).n,.tup ((Ah rs at_).o.map Al),.int (Ah rs at_).ab,.str (Dr jn),.int (Ah rs at_).dp]]++(rs.drop (at_+1)).map AW=(GL rs at_ jn).map AW:=by
  unfold GL;rw[bL,bL];congr 2;show _=[AW _];unfold AW Rw.js;rw[if_neg (by dsimp only;lia)]
 have s1:Gb (.lst (rs.map AW)) none (some (at_:Int))=some (.lst ((rs.take at_).map AW)):=by
  show some (MV.lst (Ev _ _ _))=_;unfold Ev HT.sIx;simp only[List.length_map,List.drop_zero,Nat.sub_zero,List.map_take];rw[if_neg (by lia)];congr 3
  lia
 have s2:Gb (.lst (rs.map AW)) (some ((at_:Int)+1)) none=some (.lst ((rs.drop (at_+1)).map AW)):=by
  show some (MV.lst (Ev _ _ _))=_;unfold Ev HT.sIx;simp only[List.length_map];rw[if_neg (by lia),show min ((at_:Int)+1).toNat rs.length=at_+1 by lia,iT,iO];rw[eI,aC]
  lia
 have A1:Bz .add (.lst ((rs.take at_).map AW)) (.lst [.tup [.str (Ah rs at_).n,.tup ((Ah rs at_).o.map Al),.int (Ah rs at_).ab,.str (Dr jn),.int (Ah rs at_).dp]])=some (.lst ((rs.take at_).map AW++ [.tup [.str (Ah rs at_).n,.tup ((Ah rs at_).o.map Al),.int (Ah rs at_).ab,.str (Dr jn),.int (Ah rs at_).dp]])):=by
  rw[Jb,if_pos];rw[aC,bD];show _+1<=big;unfold big
  lia
 have A2:Bz .add (.lst ((rs.take at_).map AW++ [.tup [.str (Ah rs at_).n,.tup ((Ah rs at_).o.map Al),.int (Ah rs at_).ab,.str (Dr jn),.int (Ah rs at_).dp]])) (.lst ((rs.drop (at_+1)).map AW))=some (.lst ((GL rs at_ jn).map AW)):=by
  rw[Jb,if_pos,eO];rw[←aV,eO,aC,al.l];unfold big
  lia
 clear eO;generalize (rs.take at_).map AW=P at s1 A1 A2;generalize (rs.drop (at_+1)).map AW=D at s2 A2;have i3:∀l,VM .index (.lst l)=true:=λ_=>rfl;by_cases hlt:jn.val<(Ah rs at_).j.val
 ·have hlt':(jn.val:Int)<((Ah rs at_).j.val:Int):=by omega
  simp[-AK,-Jb,T1,hae,T2,h2,T3,er,rX,Nk,s1,s2,A1,A2,i3,rq,hlt',eBe];exact⟨GL rs at_ jn,rs,_,x3,by rw[eB],w,r,(IR r hat hal hf al).1 (by rw[aj];exact eE hlt),rfl⟩
 have hlt': ¬(jn.val:Int)<((Ah rs at_).j.val:Int):=by omega
 simp[-AK,-Jb,T1,hae,T2,h2,T3,er,rX,Nk,s1,s2,A1,A2,i3,rq,hlt',eBe];exact⟨rs,GL rs at_ jn,_,x3,by rw[eB],r,w,(IR r hat hal hf al).2 (by rw[aj];exact fZ hlt),rfl⟩
end BK45
namespace BK45
open PySem B L2 PyProof.Rows
def Q6(a:Nat):sub a a=true:=by unfold sub;rw[iW];exact bY rfl
def Fj{a b c:Nat}(h1:sub a b=true)(h2:sub b c=true):sub a c=true:=by
 unfold sub at *;rw[decide_eq_true_eq]at *;rw[←h1,eU,h2]
def SS(a:Li):CN a a=true:=by
 unfold CN FQ;cases a.same<;>simp[Q6]
def IP(h1:CN a b=true)(h2:CN b c=true):CN a c=true:=by
 unfold CN at *;simp only[Bool.and_eq_true,decide_eq_true_eq,Bool.or_eq_true,Bool.not_eq_true']at *;obtain⟨p1,p2,p3,p4,p5⟩:=h1;obtain⟨q1,q2,q3,q4,q5⟩:=h2;refine⟨Fj p1 q1,Fj q2 p2,Fj q3 p3,by lia,?_⟩;rcases q5 with q5|q5
 ·exact .inl q5
 right
 unfold FQ at *;simp only[Bool.and_eq_true,decide_eq_true_eq]at *;obtain⟨s1,s2,s3⟩:=q5;rcases p5 with p5|⟨t1,t2,t3⟩
 ·rw[s1]at p5;cases p5
 exact⟨t1,by rw[t2,s2],by lia⟩
def YD:∀(c c':Fin 4) (l:Fin 32),c<=c'->sub (nd c'.val) l.val=true->sub (nd c.val) l.val=true:=by decide +kernel
def SF{c c':Fin 4}(h:c<=c')(hf:Bv l c'.val o=true):Bv l c.val o=true:=by
 unfold Bv at *;simp only[Bool.and_eq_true,Bool.or_eq_true,Bool.not_eq_true',decide_eq_false_iff_not]at *;have hc:c.val<=c'.val:=h;refine⟨YD c c' l.lets h hf.1,?_⟩;rcases hf.2 with hr|hr
 ·exact .inl (by lia)
 exact .inr hr
def V2{c:Nat}(hf:Bv l c k=true)(hc:CN o k=true):Bv l c o=true:=by
 unfold Bv at *;simp only[Bool.and_eq_true,Bool.or_eq_true]at *;refine⟨hf.1,?_⟩;rcases hf.2 with hr|hr
 ·exact .inl hr
 exact .inr (IP hc hr)
noncomputable def HH(b:Bk)(l:Li)(x:Rg):Bool:=!x.2.1.isEmpty&&F9 b x.2.1 x.2.2.val l
def EJ{z:Str}:(∃y∈BD b d l,y.2.n=z) ↔ ∃x∈QJ d,HH b l x=true/\x.1=z:=by
 unfold BD BI QJ;constructor
 ·rintro⟨y,hy,e⟩;obtain⟨h1,h2⟩:=aS.mp hy;obtain⟨h3,h4⟩:=aS.mp h1;refine⟨_,bB.mpr ⟨y,h3,rfl⟩,?_,e⟩;unfold HH;rw[cO];exact⟨h4,h2⟩
 rintro⟨x,hx,h1,e⟩;obtain⟨y,hy,rfl⟩:=bB.mp hx;unfold HH at h1;rw[cO]at h1;exact⟨y,aS.mpr ⟨aS.mpr ⟨hy,h1.1⟩,h1.2⟩,e⟩
def EE:k∈AO b d ↔ k∈b.ks/\∀x∈QJ d,HH b (b.lic k) x=false:=by
 unfold AO;rw[aS];refine and_congr_right λ_=>?_;unfold Kr;constructor
 ·intro h x hx;cases hs:HH b (b.lic k) x with
  |false=>rfl
  |true=>
   obtain⟨y,hy,_⟩:=EJ.mpr ⟨x,hx,hs,rfl⟩;rw[dA.mp h]at hy;cases hy
 intro h;rw[dA,List.eq_nil_iff_forall_not_mem];intro y hy;obtain⟨x,hx,hs,_⟩:=EJ.mp ⟨y,hy,rfl⟩;rw[h x hx]at hs;cases hs
def Uc{b:Bk}{l:Li}{z:Str}{o:List Ky}{c c':Fin 4}(hc:c<=c')(h:HH b l (z,o,c)=true):HH b l (z,o,c')=true:=by
 unfold HH at *;rw[cO]at *;refine⟨h.1,?_⟩;have h2:=h.2;unfold F9 at *;rw[aZ]at *;intro k hk;have:=h2 k hk;rw[Bool.not_eq_true']at *;cases hf:Bv (b.lic k) c'.val l with
 |false=>rfl
 |true=>rw[SF hc hf]at this;cases this
def SW{b:Bk}{d1 d2:Nd}{B:List Str}(c:ZT d1 d2 B){k:Ky}(h:k∈AO b d2):k∈AO b d1:=by
 obtain⟨h1,h2⟩:=EE.mp h;refine EE.mpr ⟨h1,λx hx=>?_⟩;obtain⟨c',hc,hm⟩:=c.h1 x hx;cases hs:HH b (b.lic k) x with
 |false=>rfl
 |true=>
  have:=Uc (z:=x.1) (o:=x.2.1) hc hs;rw[h2 _ hm]at this;cases this
def P9{b:Bk}{d1 d2:Nd}{B:List Str}(c:ZT d1 d2 B){k:Ky}(h:k∈AO b d1):∀y∈BD b d2 (b.lic k),y.2.n∈B:=by
 intro y hy;obtain⟨x,hx,hs,e⟩:=EJ.mp ⟨y,hy,rfl⟩;rw[←e];rcases c.h2 x hx with h1|h1
 ·exact h1
 rw[(EE.mp h).2 x h1]at hs;cases hs
theorem FO{α:Type}(T:List α)(R:α->α->Bool)(rf:∀a,R a a=true)(tr:∀a b c,R a b=true->R b c=true->R a c=true):∀m k,k∈T->T.countP (R k)<=m->∃o∈T,R k o=true/\∀x∈T,R o x=true->R x o=true
 |0,k,hk,hm=>by
  have:0<T.countP (R k):=List.countP_pos_iff.mpr ⟨k,hk,rf k⟩
  lia
 |m+1,k,hk,hm=>by
  by_cases h:∀x∈T,R k x=true->R x k=true
  ·exact⟨k,hk,rf k,h⟩
  simp only[Classical.not_forall]at h;obtain⟨o,ho,h1,h2⟩:=h;have hlt:T.countP (R o)<T.countP (R k):=by
   have hle:∀x∈T,R o x=true->R k x=true:=λx _ hx=>tr k o x h1 hx;have e1:T.countP (R o)=(T.filter (R k)).countP (R o):=by
    rw[List.countP_filter];refine List.countP_congr λx hx=>?_;constructor
    ·intro hh;rw[cO];exact⟨hh,hle x hx hh⟩
    intro hh;rw[cO]at hh;exact hh.1
   have hkm:k∈T.filter (R k):=aS.mpr ⟨hk,rf k⟩;have e2:T.countP (R k)=(T.filter (R k)).length:=fB;rw[e1,e2];refine Nat.lt_of_le_of_ne List.countP_le_length λe=>?_;exact h2 (List.countP_eq_length.mp e k hkm)
  obtain⟨p,hp,q1,q2⟩:=FO T R rf tr m o ho (by lia);exact⟨p,hp,tr k o p h1 q1,q2⟩
variable {n:Nat}
def Rn:Ph (n+1) 72 [.v (.bl a),.v (.bl c)] h=.ok (.v (.bl (decide (a=c)))) h:=by
 refine Ae (d:=d72) rfl rfl ?_;have i1:M4 T.gt.cs [.bl a,.ty .bl]=some (.bl true):=rfl;have e:AJ .eq (.bl a) (.bl c)=some (decide (a=c)):=by simp[AJ,RZ,FF,Mj]
 simp[d72,Ab,i1,e]
noncomputable def rg:Ky:=("",0)
noncomputable def pick(b:Bk)(l:Li)(y:Rd):Ky:=((y.2.o.filter λk=>Bv (b.lic k) (AD y.1).val l)++y.2.o.take 1).headD rg
def GQ(h:y.2.o≠[]):pick b l y∈y.2.o/\(Bv (b.lic (pick b l y)) (AD y.1).val l=!F9 b y.2.o (AD y.1).val l):=by
 unfold pick;cases hf:y.2.o.filter λk=>Bv (b.lic k) (AD y.1).val l with
 |nil=>
  cases ho:y.2.o with
  |nil=>exact absurd ho h
  |cons k ks=>
   refine⟨aH,?_⟩;have hn:∀x∈y.2.o,Bv (b.lic x) (AD y.1).val l=false:=λx hx=>by
    have:=cG.mp hf x hx;simpa using this
   rw[←ho];have h1:F9 b y.2.o (AD y.1).val l=true:=by
    unfold F9;rw[aZ];intro x hx;rw[hn x hx];rfl
   have e:([]++y.2.o.take 1).headD rg=k:=by rw[ho];rfl
   rw[h1,e];exact hn k (by rw[ho];exact aH)
 |cons k ks=>
  have hk:k∈y.2.o.filter λk=>Bv (b.lic k) (AD y.1).val l:=by rw[hf];exact aH
  obtain⟨h1,h2⟩:=aS.mp hk;refine⟨h1,?_⟩;show Bv (b.lic k) (AD y.1).val l=_;rw[h2];have:F9 b y.2.o (AD y.1).val l=false:=by
   cases ha:F9 b y.2.o (AD y.1).val l with
   |false=>rfl
   |true=>
    unfold F9 at ha;have:=aZ.mp ha k h1;rw[h2]at this;cases this
  rw[this];rfl
def FP(b:Bk)(d:Nd)(k:Ky)(h:MH)(j:Nat)(μ:En)(h':MH):Prop:=(∃x4 x5 x6,μ=[some (.v b.mv),some (.v d.mv),some (.v (Al k)),some (.r (hlen h)),x4,x5,x6])/\h'=hnew h (.dic false ((((At d).take j).filter λy=>!y.2.o.isEmpty).map λy=>.str y.2.n) ((((At d).take j).filter λy=>!y.2.o.isEmpty).map λy=>Al (pick b (b.lic k) y)))
def Rp(o:b.Ok)(bd:Bd d)(kn:CM b d)(hk:k∈b.ks):Ph (n+11) 71 [.v b.mv,.v d.mv,.v (Al k)] h=.ok (.v (WC d (pick b (b.lic k)))) h:=by
 refine Ae (d:=d71) rfl rfl ?_;simp[d71,Ab,QY bd];refine L1 (FR (λy:Rd=>MV.str y.2.n) (FP b d k h) ⟨⟨_,_,_,rfl⟩,rfl⟩ ?_) ?_
 ·rintro j y μ h' hj ⟨⟨x4,x5,x6,rfl⟩,rfl⟩;refine⟨_,rfl,?_⟩;have hym:=aP hj;have kno:=kn y hym;have wds:∀x∈y.2.o,AU x.1:=λx hx=>o.word (kno.2 x hx);have hne:AJ .ne (.lst (Qf b y.2.o (AD y.1).val (b.lic k))) (.lst [])=some (!y.2.o.isEmpty):=by
   refine(DB (Xw wds _ _ 57)).2.trans ?_;unfold Qf;rw[g9]
  have tk:=C8 hj;simp[KJ o bd kn hk hj,An];rw[AN (h1:=hnew h (.dic false ((((At d).take j).filter λy=>!y.2.o.isEmpty).map λy=>.str y.2.n) ((((At d).take j).filter λy=>!y.2.o.isEmpty).map λy=>Al (pick b (b.lic k) y)))) y.2.o (λx=>.tup [Al x,EX (b.lic x) (AD y.1).val (b.lic k)]) Al (λx=>Bv (b.lic x) (AD y.1).val (b.lic k)) ?_ (AH (by lia)) ?_]
  ·cases hO:y.2.o.isEmpty with
   |true=>
    rw[hO]at hne;have hF:FP b d k h (j+1)=FP b d k h j:=by
     unfold FP;rw[tk,gZ,show([y]:List Rd).filter (λy=>!y.2.o.isEmpty)=[] by simp[hO],cT]
    rw[hF];simp[hne];exact⟨⟨_,_,_,rfl⟩,rfl⟩
   |false=>
    rw[hO]at hne;obtain⟨k0,ks0,ho⟩:∃k0 ks0,y.2.o=k0::ks0:=by
     cases h1:y.2.o with
     |nil=>rw[h1]at hO;cases hO
     |cons a as=>exact⟨a,as,rfl⟩
    have at20:∀a c:MV,B4 [a,c] 0=some a:=λ_ _=>rfl;have i0:B4 (Qf b y.2.o (AD y.1).val (b.lic k)) 0=some (.tup [Al k0,EX (b.lic k0) (AD y.1).val (b.lic k)]):=by rw[ho,AK (by decide)];rfl
    have hpk:B4 ((y.2.o.filter λx=>Bv (b.lic x) (AD y.1).val (b.lic k)).map Al++ [Al k0]) 0=some (Al (pick b (b.lic k) y)):=by
     have e:(y.2.o.filter λx=>Bv (b.lic x) (AD y.1).val (b.lic k)).map Al++ [Al k0]=((y.2.o.filter λx=>Bv (b.lic x) (AD y.1).val (b.lic k))++y.2.o.take 1).map Al:=by rw[bL];congr 1;rw[ho];rfl
     rw[e];unfold pick;cases hl:(y.2.o.filter λx=>Bv (b.lic x) (AD y.1).val (b.lic k))++y.2.o.take 1 with
     |nil=>rw[ho]at hl;simp at hl
     |cons a as=>rw[AK (by decide)];rfl
    have hgl:((y.2.o.filter λx=>Bv (b.lic x) (AD y.1).val (b.lic k)).map Al).length+1<=big:=by
     rw[aC];have:=bG (λx=>Bv (b.lic x) (AD y.1).val (b.lic k)) y.2.o;have:=kno.1;unfold big
     lia
    have hnk:∀x∈((((At d).take j).filter λy=>!y.2.o.isEmpty).map λy=>MV.str y.2.n),look.seqK x (.str y.2.n)=false:=by
     intro x hx;obtain⟨z,hz,rfl⟩:=bB.mp hx;show decide ((Sum.inr z.2.n:Key)=Sum.inr y.2.n)=false;rw[eT];intro e;have e:=Sum.inr.inj e;obtain⟨i,hi,e2⟩:=cD.mp (aS.mp hz).1;rw[bD]at hi;rw[fU]at e2;have p1:(names d)[i]?=some z.2.n:=by unfold names;rw[aJ,aN (by lia),e2];rfl
     have p2:(names d)[j]?=some y.2.n:=by unfold names;rw[aJ,hj];rfl
     obtain⟨l1,e1⟩:=a9.mp p1;obtain⟨l2,e3⟩:=a9.mp p2;exact(bC.mp bd.nd) i j l1 l2 (by lia) (by rw[e1,e3,e])
    have hvl:((((At d).take j).filter λy=>!y.2.o.isEmpty).map λy=>Al (pick b (b.lic k) y)).length<big:=by
     rw[aC];have:=bG (λy:Rd=>!y.2.o.isEmpty) ((At d).take j);rw[bD]at this;have:=bd.len;unfold big
     lia
    have hF:∀x4 x5 x6,FP b d k h (j+1) [some (.v b.mv),some (.v d.mv),some (.v (Al k)),some (.r (hlen h)),x4,x5,x6] (hnew h (.dic false (((((At d).take j).filter λy=>!y.2.o.isEmpty).map λy=>.str y.2.n)++ [.str y.2.n]) (((((At d).take j).filter λy=>!y.2.o.isEmpty).map λy=>Al (pick b (b.lic k) y))++ [Al (pick b (b.lic k) y)]))):=λx4 x5 x6=>by
     refine⟨⟨_,_,_,rfl⟩,?_⟩;rw[tk,gZ,show([y]:List Rd).filter (λy=>!y.2.o.isEmpty)=[y] by simp[hO],bL,bL];rfl
    generalize ((((At d).take j).filter λy=>!y.2.o.isEmpty).map λy=>MV.str y.2.n)=K at hnk hF ⊢;generalize ((((At d).take j).filter λy=>!y.2.o.isEmpty).map λy=>Al (pick b (b.lic k) y))=V at hvl hF ⊢;have hdk:Ib false (.str y.2.n)=true:=rfl;generalize ((y.2.o.filter λx=>Bv (b.lic x) (AD y.1).val (b.lic k)).map Al)=GD at hpk hgl ⊢;simp[-AK,at20,hne,i0,hgl,hpk,hdk,hvl,L4 hnk];exact hF _ _ _
  ·simp[Qf]
  intro x hx;refine⟨_,rfl,?_,λ_=>?_⟩
  ·simp[startC,(MR (b.lic x) (AD y.1).val (b.lic k)).is.1,JP]
  simp[startC]
 rintro μ h' ⟨⟨x4,x5,x6,rfl⟩,rfl⟩;rw[bO];simp[];rfl
end BK45
namespace BK45
open PySem B L2 PyProof.Rows
variable {n:Nat}
def Bk.Ok.words{b:Bk}(o:b.Ok){t:List Ky}(ht:∀k∈t,k∈b.ks):∀x∈t,AU x.1:=λx hx=>o.word (ht x hx)
def RM(hl:l=[]):AJ .eq (.lst l) (.lst [])=some true/\AJ .ne (.lst l) (.lst [])=some false:=by
 subst hl;have:=DB (l:=[]) (by simp[Co]);exact this
def KM{b:Bk}(o:b.Ok){d1 d2:Nd}(b1:Bd d1)(b2:Bd d2)(k1:CM b d1)(k2:CM b d2)(w2:∀y∈At d2,AU y.2.n){B:List Str}(c:ZT d1 d2 B):Ph (n+11) 77 [.v b.mv,.v d1.mv,.v d2.mv,.v (.lst (B.map MV.str))] h=.ok (.v (.bl true)) h:=by
 refine Ae (d:=d77) rfl rfl ?_;have t1:=ED o d1;have t2:=ED o d2;have wt1:=o.words (t:=AO b d1) λk=>BC;have wt2:=o.words (t:=AO b d2) λk=>BC;simp[d77,Ab,Gi o b1 k1,Gi o b2 k2,An];rw[AN (h1:=h) (AO b d2) Al Al (λk=>!decide (k∈AO b d1)) ?_ (AH (by lia)) ?_]
 ·have e0:(AO b d2).filter (λk=>!decide (k∈AO b d1))=[]:=cG.mpr λk hk=>by simp[SW c hk]
  rw[e0];simp[(RM (l:=[]) rfl).2];refine Bl (CZ Al (λ_ μ=>∃x6 x7,μ=[some (.v b.mv),some (.v d1.mv),some (.v d2.mv),some (.v (.lst (B.map MV.str))),some (.v (.lst ((AO b d1).map Al))),some (.v (.lst ((AO b d2).map Al))),x6,x7]) (i:=0) ⟨_,_,rfl⟩ λj k μ hj ⟨x6,x7,hμ⟩=>?_) λμ ⟨x6,x7,hμ⟩=>?_
  ·subst hμ;refine⟨_,rfl,?_⟩;have hkt:=aP hj;have hk:=BC hkt;have hsl:(BD b d2 (b.lic k)).length<=1000:=by
    have a1:=bG (Df b (b.lic k)) (BI d2);have a2:=bG (λy:Rd=>!y.2.o.isEmpty) (At d2);have:=b2.len;unfold BD;unfold BI at *
    lia
   have hin:AJ .in_ (Al k) (.lst ((AO b d2).map Al))=some ((BD b d2 (b.lic k)).isEmpty):=by
    refine(EY (wt1 k hkt) wt2).trans ?_;congr 1;have:k∈AO b d2 ↔ (BD b d2 (b.lic k)).isEmpty=true:=by
     unfold AO;rw[aS];exact⟨λh=>h.2,λh=>⟨hk,h⟩⟩
    cases hE:(BD b d2 (b.lic k)).isEmpty with
    |true=>exact bY (this.mpr hE)
    |false=>exact bI λh=>by rw[this.mp h]at hE;cases hE
   have heq:AJ .eq (.lst ((BD b d2 (b.lic k)).map λy=>.str y.2.n)) (.lst [])=some ((BD b d2 (b.lic k)).isEmpty):=by
    refine(DB (Ca λy hy=>?_)).1.trans (by rw[g9]);have hy2:=(aS.mp (aS.mp hy).1).1;show sh (.str _) 59=true;unfold sh;exact Nw (w2 y hy2)
   simp[An];rw[Ax (h1:=h) (BD b d2 (b.lic k)) (Wh b (b.lic k)) (λy=>.str y.2.n) ?_ ?_ (AH hsl) ?_]
   ·simp[hin,heq,Rn,An];rw[AN (h1:=h) (BD b d2 (b.lic k)) (λy=>.str y.2.n) (λy=>.str y.2.n) (λy=>!decide (y.2.n∈B)) ?_ (AH hsl) ?_]
    ·have e1:(BD b d2 (b.lic k)).filter (λy=>!decide (y.2.n∈B))=[]:=cG.mpr λy hy=>by simp[P9 c hkt y hy]
     rw[e1];simp[(RM (l:=[]) rfl).2]
    ·simp
    intro y hy;refine⟨_,rfl,?_,λ_=>?_⟩
    ·have e:=Gr (λz:Str=>z) B y.2.n;rw[List.map_id']at e;have e:Px (.str y.2.n) (B.map MV.str)=some (decide (y.2.n∈B)):=e;simp[startC,AJ,Vc,e]
    simp[startC]
   ·exact λ_ _=>rfl
   ·simp[KF o b2 k2 hk]
   intro y hy;exact⟨_,rfl,by simp[startC]⟩
  subst hμ;simp
 ·simp
 intro k hk;refine⟨_,rfl,?_,λ_=>?_⟩
 ·have e:AJ .notin (Al k) (.lst ((AO b d1).map Al))=some (!decide (k∈AO b d1)):=Gu (wt2 k hk) wt1;simp[startC,e]
 simp[startC]
end BK45
namespace BK45
open PySem B L2 PyProof.Rows
variable {n:Nat}
def Ik(hk:k∈b.ks):((BI d).all λy=>Bv (b.lic (pick b (b.lic k) y)) (AD y.1).val (b.lic k))=decide (k∈AO b d):=by
 have h1:∀y∈BI d,Bv (b.lic (pick b (b.lic k) y)) (AD y.1).val (b.lic k)=!Df b (b.lic k) y:=λy hy=>by
  have hne:y.2.o≠[]:=by
   have:=(aS.mp hy).2;intro e;rw[e]at this;cases this
  exact(GQ hne).2
 have h2:k∈AO b d ↔ ∀y∈BI d,Df b (b.lic k) y=false:=by
  unfold AO Kr BD;rw[aS];constructor
  ·intro h y hy;have:=cG.mp (dA.mp h.2) y hy;simpa using this
  intro h;exact⟨hk,List.isEmpty_iff.mpr (cG.mpr λy hy=>by simp[h y hy])⟩
 rw[bW,aZ,dC,h2];constructor
 ·intro h y hy;have:=h y hy;rw[h1 y hy]at this;simpa using this
 intro h y hy;rw[h1 y hy,h y hy];rfl
def TN(hk:k∈AO b d)(ho:o∈b.ks)(hc:CN (b.lic o) (b.lic k)=true):((BI d).all λy=>Bv (b.lic (pick b (b.lic k) y)) (AD y.1).val (b.lic o))=true/\o∈AO b d:=by
 have h1:=Ik (d:=d) (BC hk);rw[bY hk]at h1;have h2:((BI d).all λy=>Bv (b.lic (pick b (b.lic k) y)) (AD y.1).val (b.lic o))=true:=by
  rw[aZ]at h1 ⊢;exact λy hy=>V2 (h1 y hy) hc
 refine⟨h2,?_⟩;refine EE.mpr ⟨ho,λx hx=>?_⟩;cases hs:HH b (b.lic o) x with
 |false=>rfl
 |true=>
  exfalso
  obtain⟨y,hy,_⟩:=EJ.mpr ⟨x,hx,hs,rfl⟩;obtain⟨h3,h4⟩:=aS.mp hy;have hne:y.2.o≠[]:=by
   have:=(aS.mp h3).2;intro e;rw[e]at this;cases this
  have h5:=aZ.mp h2 y h3;unfold Df F9 at h4;have:=aZ.mp h4 _ (GQ (b:=b) (l:=b.lic k) hne).1;rw[h5]at this;cases this
def Ry(o:b.Ok)(bd:Bd d)(kn:CM b d):Ph (n+12) 73 [.v b.mv,.v d.mv,.v (.lst ((AO b d).map Al)),.v (.lst ((Cv b d).map Al))] h=.ok (.v (.bl true)) h:=by
 refine Ae (d:=d73) rfl rfl ?_;have wks:=o.words (t:=b.ks) λk hk=>hk;have wt:=o.words (t:=AO b d) λk=>BC;have lks:∀k∈Cv b d,k∈AO b d:=λk hk=>(aS.mp hk).1;have wl:=o.words (t:=Cv b d) λk hk=>BC (lks k hk);have tl:=ED o d;simp[d73,Ab,KO];refine Bl (CZ Al (λ_ μ=>∃x4 x5 x6,μ=[some (.v b.mv),some (.v d.mv),some (.v (.lst ((AO b d).map Al))),some (.v (.lst ((Cv b d).map Al))),x4,x5,x6,none,none]) (i:=0) ⟨_,_,_,rfl⟩ λj k μ hj ⟨x4,x5,x6,hμ⟩=>?_) λμ ⟨x4,x5,x6,hμ⟩=>?_
 ·subst hμ;refine⟨_,rfl,?_⟩;have hk:=aP hj;have hp:∀y∈BI d,pick b (b.lic k) y∈y.2.o:=λy hy=>by
   refine(GQ λe=>?_).1;have:=(aS.mp hy).2;rw[e]at this;cases this
  have ein:=EY (wks k hk) wt;simp[Rp o bd kn hk,Ix o bd kn hk hp,Ik hk,ein,Rn,D1 o hk];refine Ho (CZ Al (λ_ μ=>∃x6,μ=[some (.v b.mv),some (.v d.mv),some (.v (.lst ((AO b d).map Al))),some (.v (.lst ((Cv b d).map Al))),some (.v (Al k)),some (.v (WC d (pick b (b.lic k)))),x6,none,none]) (i:=0) ⟨_,rfl⟩ λi q μ hi ⟨x6,hμ⟩=>?_) λμ ⟨x6,hμ⟩=>?_
  ·subst hμ;refine⟨_,rfl,?_⟩;obtain⟨hq,hc⟩:=aS.mp (aP hi);have enq:=Gu (wks q hq) wt;by_cases hkt:k∈AO b d
   ·obtain⟨u1,u2⟩:=TN hkt hq hc;simp[ein,hkt,enq,u2,Ix o bd kn hq hp,u1]
   simp[ein,hkt]
  subst hμ;simp
 subst hμ;simp[];refine Bl (CZ Al (λ_ μ=>∃x4 x7 x8,μ=[some (.v b.mv),some (.v d.mv),some (.v (.lst ((AO b d).map Al))),some (.v (.lst ((Cv b d).map Al))),x4,x5,x6,x7,x8]) (i:=0) ⟨_,_,_,rfl⟩ λj k μ hj ⟨x4,x7,x8,hμ⟩=>?_) λμ ⟨x4,x7,x8,hμ⟩=>?_
 ·subst hμ;refine⟨_,rfl,?_⟩;have hkt:=aP hj;have hk:=BC hkt;have hcv:∀x∈b.ks,∀q∈b.ks,AJ .in_ (Al x) (.lst ((b.ks.filter λz=>CN (b.lic z) (b.lic q)).map Al))=some (CN (b.lic x) (b.lic q))/\AJ .notin (Al x) (.lst ((b.ks.filter λz=>CN (b.lic z) (b.lic q)).map Al))=some (!CN (b.lic x) (b.lic q)):=λx hx q hq=>by
   have wf:∀z∈b.ks.filter λz=>CN (b.lic z) (b.lic q),AU z.1:=λz hz=>wks z (aS.mp hz).1;have e:decide (x∈b.ks.filter λz=>CN (b.lic z) (b.lic q))=CN (b.lic x) (b.lic q):=by
    rw[bW,dC,aS];exact⟨λh=>h.2,λh=>⟨hx,h⟩⟩
   exact⟨(EY (wks x hx) wf).trans (by rw[e]),(Gu (wks x hx) wf).trans (by rw[e])⟩
  simp[An];rw[AN (h1:=h) (AO b d) Al Al (λx=>CN (b.lic k) (b.lic x)) ?_ (AH (by lia)) ?_]
  ·have bl:=bG (λx=>CN (b.lic k) (b.lic x)) (AO b d);have bks:∀x∈(AO b d).filter λx=>CN (b.lic k) (b.lic x),x∈AO b d/\CN (b.lic k) (b.lic x)=true:=λx hx=>aS.mp hx;have lsB:D6 b (AO b d) k=((AO b d).filter λx=>CN (b.lic k) (b.lic x)).all λx=>CN (b.lic x) (b.lic k):=rfl;have hleast:∃m∈(AO b d).filter (λx=>CN (b.lic k) (b.lic x)),m∈Cv b d:=by
    obtain⟨m,h1,h2,h3⟩:=FO (AO b d) (λx y=>CN (b.lic x) (b.lic y)) (λ_=>SS _) (λ_ _ _=>IP) _ k hkt (aI _);refine⟨m,aS.mpr ⟨h1,h2⟩,aS.mpr ⟨h1,?_⟩⟩;unfold D6;rw[aZ];intro x hx;obtain⟨p1,p2⟩:=aS.mp hx;exact h3 x p1 p2
   generalize (AO b d).filter (λx=>CN (b.lic k) (b.lic x))=BN at bl bks lsB hleast ⊢;simp[An];rw[AN (h1:=h) BN Al Al (λx=>decide (x∈Cv b d)) ?_ (AH (by lia)) ?_]
   ·have e1:AJ .eq (.lst ((BN.filter λx=>decide (x∈Cv b d)).map Al)) (.lst [])=some false:=by
     refine(DB (Ca λx hx=>GK (wt x (bks x (aS.mp hx).1).1) 58)).1.trans ?_;obtain⟨m,h1,h2⟩:=hleast;rw[g9];congr 1;rw[List.isEmpty_eq_false_iff_exists_mem];exact⟨m,aS.mpr ⟨h1,bY h2⟩⟩
    simp[e1,An];rw[AN (h1:=h) BN Al Al (λx=>!CN (b.lic x) (b.lic k)) ?_ (AH (by lia)) ?_]
    ·have e2:AJ .eq (.lst ((BN.filter λx=>!CN (b.lic x) (b.lic k)).map Al)) (.lst [])=some (D6 b (AO b d) k):=by
      refine(DB (Ca λx hx=>GK (wt x (bks x (aS.mp hx).1).1) 58)).1.trans ?_;rw[g9,lsB];congr 1;rw[bW,dA,cG,aZ];exact⟨λh x hx=>by simpa using h x hx,λh x hx=>by simp[h x hx]⟩
     have e3:AJ .in_ (Al k) (.lst ((Cv b d).map Al))=some (D6 b (AO b d) k):=by
      refine(EY (wt k hkt) wl).trans ?_;congr 1;rw[bW,dC];unfold Cv;rw[aS];exact⟨λh=>h.2,λh=>⟨hkt,h⟩⟩
     simp[e2,e3,Rn]
    ·simp
    intro x hx;have hxk:=BC (bks x hx).1;refine⟨_,rfl,?_,λ_=>?_⟩
    ·simp[startC,D1 o hk,(hcv x hxk k hk).2]
    simp[startC]
   ·simp
   intro x hx;have e:=EY (wt x (bks x hx).1) wl;refine⟨_,rfl,?_,λ_=>?_⟩
   ·simp[startC,e]
   simp[startC]
  ·simp
  intro x hx;have hxk:=BC hx;refine⟨_,rfl,?_,λ_=>?_⟩
  ·simp[startC,D1 o hxk,(hcv k hk x hxk).1]
  simp[startC]
 subst hμ;simp
end BK45
namespace BK45
open PySem B L2 PyProof.Rows
variable {n:Nat}
def BY(l:List Int)(k:Int):Int:=if k<l.length then l.getD k.toNat 0 else 7919*k+13
def Rs{k:Int}(hk:0<=k):Ph (n+1) 54 [.v (.scr (l.map .int)),.v (.int k)] h=.ok (.v (.int (BY l k))) h:=by
 refine Ae (d:=d54) rfl rfl ?_;unfold BY;by_cases hc:k<l.length
 ·have:k.toNat<l.length:=by lia
  simp[d54,Ab,hc,hk,this]
 simp[d54,Ab,hc]
def Nv(r:Cp ks rs)(hy:y∈At (Bw rs)):AU y.2.n/\y.2.o.length<=2/\∀k∈y.2.o,k∈ks:=by
 obtain⟨i,hi,e⟩:=(AZ r.t).mp (bB.mpr ⟨y,hy,rfl⟩:(y.2.n,y.2.o,AD y.1)∈QJ (Bw rs));have e1:y.2.n=(Ah rs i).n:=cK Prod.fst e;have e2:y.2.o=(Ah rs i).o:=cK (λz=>z.2.1) e;rw[e1,e2];have ho:=r.o _ (Cu hi);exact⟨(r.t.ok _ (Cu hi)).1,ho.1.l2,ho.2⟩
def Ei(r:Cp b.ks rs):CM b (Bw rs):=λy hy=>(Nv r hy).2
def qa:Li:=⟨Str.ofString "zz",1,31,5,8,1,true,0,0,1,3,0,9999,true⟩
def ak:Np [qa]:=by
 refine⟨?_,by simp,by simp⟩;intro l hl;rw[bA.mp hl];refine⟨⟨by decide +kernel,by decide +kernel,?_⟩,by decide +kernel,by decide +kernel,by decide +kernel,by decide +kernel,by decide,by decide⟩;intro c hc;have:(Str.ofString "zz").cps.toList=[122,122]:=by decide +kernel
 have hc:c∈(Str.ofString "zz").cps.toList:=hc;rw[this]at hc;simp at hc;subst hc;exact⟨by decide,by decide⟩
def WQ(l:List Int)(a b:Fin 7)(μ:En)(h':MH):Prop:=∃ls:List Li,Np ls/\0<ls.length/\μ=[some (.v (.scr (l.map .int))),some (.v (.lst [iv a,iv b])),some (.v (.lst (ls.map Dm))),none,none,none,none,none,none,none,none]/\h'=[]
def LP(l:List Int)(a b:Fin 7)(ls:List Li)(bk:Bk)(rs:List Rw)(j:Nat)(μ:En)(h':MH):Prop:=E5 λx6 x7 x8 x9 x10=>μ=[some (.v (.scr (l.map .int))),some (.v (.lst [iv a,iv b])),some (.v (.lst (ls.map Dm))),some (.v bk.mv),some (.v (.lst (rs.map AW))),some (.v (Bw rs).mv),x6,x7,x8,x9,x10]
def jg:Tt T 60 78:=by
 intro l hl;obtain⟨a,b,ec⟩:=OZ (n:=57) l;obtain⟨_,eb,ls,rfl,rok⟩:=Re (n:=54) (h:=[]) (BY l 0) (BY l 1)
 suffices Kf (Ph 60 78 [.v (.scr (l.map .int))] []) (λm _=>m=.bl true) by
  obtain⟨m,h',e,rfl⟩:=this;exact⟨h',e⟩
 refine Gj (d:=d78) rfl rfl ?_;have hne:AJ .eq (.lst (ls.map Dm)) (.lst [])=some (ls.map Dm).isEmpty:=(DB (Ca λx hx=>Wi (rok.1 x hx) 57)).1;have c0:∀k h,0<=k->Ph 59 54 [.v (.scr (l.map .int)),.v (.int k)] h=.ok (.v (.int (BY l k))) h:=λk h hk=>Rs (n:=58) hk;simp[d78,Ab,ec,c0,eb,hne];refine EV (P:=WQ l a b) ?_ ?_
 ·cases hE:ls.isEmpty with
  |true=>
   simp[];exact⟨[qa],ak,by decide,rfl,rfl⟩
  |false=>
   simp[];refine⟨ls,rok,?_,rfl,rfl⟩;cases ls with
   |nil=>cases hE
   |cons _ _=>simp
 clear hne eb rok ls;rintro μ h' ⟨ls0,rok,hpos,rfl,rfl⟩;obtain⟨ls,els,hfit,hnk,h12,hpos⟩:∃ls:List Li,(ls0.map λl=>Dm (Wv a b l))=ls.map Dm/\(∀l∈ls,Qa a.val b.val l)/\(ls.map Li.ky).Nodup/\ls.length<=12/\0<ls.length:=by
  refine⟨ls0.map (Wv a b),by rw[bP];rfl,?_,?_,by rw[aC];exact rok.2.2,by rw[aC];exact hpos⟩
  ·intro l hl;obtain⟨l0,h0,rfl⟩:=bB.mp hl;exact RO (rok.1 l0 h0) a b
  rw[bP];exact rok.2.1
 have en:=OS (n:=58) (h:=[]) rok.2.2 a b;rw[els]at en;obtain⟨_,es,ss,ds,rfl⟩:=QW (n:=51) (h:=[]) (BY l 1) a b hfit hnk h12;have bok:(⟨ss,ds,ls⟩:Bk).Ok:=⟨λl hl=>(hfit l hl).ok,hnk,h12⟩;generalize hbk:(⟨ss,ds,ls⟩:Bk)=bk at es bok;have bks:bk.ks=ls.map Li.ky:=by rw[←hbk];rfl
 obtain⟨_,ew,zs,rfl,hz,hzw,hznd⟩:=GR (n:=56) (h:=[]) (BY l 2) (m:=30) (by decide);have ew:Ph 59 58 [.v (.int (BY l 2)),.v (.int 30)] []=.ok (.v (.lst (zs.map MV.str))) []:=ew;obtain⟨_,et,rs,rfl,r⟩:=U8 (n:=55) (h:=[]) (BY l 3) hz hzw hznd (bok.words λk hk=>hk) (by rw[bks,aC];exact hpos) (by rw[bks,aC];exact h12);have wk:=Jg r;have kn:=Ei r;have e65:Ph 59 65 [.v (.lst (rs.map AW)),.v (.int 0)] []=_:=(DL (n:=53) (h:=[]) r).1;have e67:Ph 59 67 [.v (LW (Bw rs))] []=_:=(DL (n:=44) (h:=[]) r).2;have e44:Ph 59 44 [.v bk.mv,.v (Bw rs).mv] []=_:=Gi (n:=49) bok wk kn;have e46:Ph 59 46 [.v bk.mv,.v (Bw rs).mv] []=_:=Ju (n:=48) bok wk kn;have e73:Ph 59 73 [.v bk.mv,.v (Bw rs).mv,.v (.lst ((AO bk (Bw rs)).map Al)),.v (.lst ((Cv bk (Bw rs)).map Al))] []=_:=Ry (n:=47) bok wk kn;simp[en,es,ew,c0,An];rw[Ax (h1:=[]) ls Dm Li.key ?_ ?_ (AH (by lia)) ?_]
 ·have ek:ls.map Li.key=bk.ks.map Al:=by rw[bks,bP];rfl
  rw[ek];simp[et,e65,e67,e44,e46,e73];obtain⟨cs,ecs,hcs⟩:∃cs:List Int,Gb (.scr (l.map MV.int)) (some 4) (some 10)=some (.lst (cs.map MV.int))/\cs.length<=63:=by
   refine⟨(l.drop (HT.sIx (l.map MV.int).length 0 (some 4))).take (HT.sIx (l.map MV.int).length (l.map MV.int).length (some 10)-HT.sIx (l.map MV.int).length 0 (some 4)),?_,?_⟩
   ·show some (MV.lst (Ev _ _ _))=_;unfold Ev;rw[fY,iT]
   rw[bD,eI]
   lia
  have r2:Em [.v (.int 2)]=some ⟨[0,1].map λi=>MV.int (i:Int),none⟩:=rfl;have A:Bz .add (.lst (cs.map MV.int)) (.lst ([0,1].map λi=>MV.int (BY l 3+(i:Int))))=some (.lst ((cs++ [BY l 3+0,BY l 3+1]).map MV.int)):=by
   rw[Jb,if_pos,bL]
   ·rfl
   rw[aC];show _+2<=big;unfold big
   lia
  simp[ecs,An];rw[Ax (h1:=[]) [0,1] (λi=>MV.int (i:Int)) (λi=>MV.int (BY l 3+(i:Int))) ?_ ?_ (AH (by decide)) ?_]
  ·generalize ([0,1].map λi=>MV.int (BY l 3+(i:Int)))=Q at A;generalize cs++ [BY l 3+0,BY l 3+1]=cells at A;simp[-Jb,A];refine EV (FR MV.int (LP l a b ls bk rs) ⟨_,_,_,_,_,rfl⟩ ?_) ?_
   ·rintro j c μ h' hj ⟨x6,x7,x8,x9,x10,rfl⟩;refine⟨_,rfl,?_⟩;by_cases h1:1<rs.length
    ·have h1':(1:Int)<(rs.length:Int):=by lia
     obtain⟨_,_,e76,r1,r2,B,x,rfl,ok1,ok2,cm,rfl⟩:=Mw (n:=51) (h:=h') r h1 (PP c);have f65:∀h,Ph 59 65 [.v (.lst (r1.map AW)),.v (.int 0)] h=.ok (.v (LW (Bw r1))) h:=λh=>(DL (n:=53) (h:=h) ok1).1;have f67:∀h,Ph 59 67 [.v (LW (Bw r1))] h=.ok (.v (Bw r1).mv) h:=λh=>(DL (n:=44) (h:=h) ok1).2;have g65:∀h,Ph 59 65 [.v (.lst (r2.map AW)),.v (.int 0)] h=.ok (.v (LW (Bw r2))) h:=λh=>(DL (n:=53) (h:=h) ok2).1;have g67:∀h,Ph 59 67 [.v (LW (Bw r2))] h=.ok (.v (Bw r2).mv) h:=λh=>(DL (n:=44) (h:=h) ok2).2;have e77:∀h,Ph 59 77 [.v bk.mv,.v (Bw r1).mv,.v (Bw r2).mv,.v (.lst (B.map MV.str))] h=.ok (.v (.bl true)) h:=λh=>KM (n:=48) bok (Jg ok1) (Jg ok2) (Ei ok1) (Ei ok2) (λy hy=>(Nv ok2 hy).1) cm;simp[h1',Gk,e76,f65,f67,g65,g67,e77];exact⟨_,_,_,_,_,rfl⟩
    have h1': ¬(1:Int)<(rs.length:Int):=by lia
    simp[h1'];exact⟨_,_,_,_,_,rfl⟩
   rintro μ h' ⟨x6,x7,x8,x9,x10,rfl⟩;simp
  ·exact λ_ _=>rfl
  ·simp[r2]
  intro i _;exact⟨_,rfl,by simp[startC,c0]⟩
 ·exact λ_ _=>rfl
 ·simp
 intro l hl;exact⟨_,rfl,by simp[startC,Dm,VQ,-AK]⟩
end BK45
structure PySem.W.Fast:Prop where(tw16034969201231613445 tw15331859441955590615 tw17823501762995574463 tw4791549524136785505 tw405101592672442733 tw11074279716971359771 tw16756518569459971317 tw14981739895920083447 tw469750320472655461 tw17243092822776496059 tw5271699717357181658 tw8437364992957448936 tw10838526746797756259 tw10580759791213092491 tw5242923463547023375 tw16559108698350388883 tw699245428125611625 tw12224935637644391627 tw6019043023145943644 tw11897853604769305945 tw12640590198039327016 tw4492373903084493014 tw14925874989139498067 tw10610878268926804620 tw8827383020474305357 tw1500218756381118712 tw14444778661390782696 tw3180864697317495693 tw10232253419291014361 tw10576072050225207867 tw15330041186545840305 tw10170226963026890910 tw5643972637651916599 tw10930185919025752659 tw4474465969209566769 tw1152444588484991634 tw15228471168534595798 tw12118744797242208665 tw6309983404008285187 tw7437074999179250 tw11144201950498553328 tw11907087947667045550 tw6515313745466598713 tw10854285463212353850 tw16619642239641654657 tw9492455497585458350 tw3073862471995422648 tw13310734420390766671 tw15909257516739618787 tw341006318947661232 tw5482453083957505205 tw933524921820015410 tw12686593084393330522 tw8019198593166884004 tw518114391589563629 tw16058394969146106287 tw13176534488972227401 tw10888278952778005556 tw7883582343059293910 tw16058561929953618922 tw8354488912417483489 tw11062067576336872259 tw15909155617547357774 tw515676024745152632 tw16961847513220598706 tw5544864011401740697 tw6845187743242847337 tw7908101889875342700 tw8241496197542633703 tw17197009497308584926 tw6481598370096472922 tw17684229128379918189 tw5097015388631749629 tw17170395426923888214 tw6114370636793389317 tw13446189890473257241 tw11558684308878968955 tw5729409944478005979 tw7921080862997905098 tw4662996205363476374 tw10494442382351363608 tw13336494896991902412 tw1597723820205631701 tw12007731522732123533 tw16889484836214860020 tw3360325480159383788 tw7685366997493328167 tw16414619103839831668 tw8438077520996967546 tw12129620440255194385 tw1891527744202951559 tw15242963199568357183 tw16634645003718951951 tw1047520353374971037 tw11675033541221710196 tw14919164615187938841 tw2100413968303614735 tw15125793542293060583 tw17485106634474410743 tw6836639471192101897 tw3420540188640136548 tw16046476196644668732 tw6113047083878998335 tw14241445219440210764 tw16088104253121322194 tw12860479890209175085 tw16909920436201257049 tw13564291977757503607 tw11812687886612042584 tw12092405859032011769 tw10913720547196910626 tw10650322180341511062 tw13069604227964163660 tw6284178585832146016 tw6383989369246114805 tw7098608629525345581 tw9588131629544999483 tw3635250841141821774 tw5047807598339563011 tw14768716437259888250 tw13626487591542291955 tw3651692740433643175 tw5798717136344339618 tw11542087741964673704 tw4743778580569722161 tw17133283531227303697 tw8734323618653330381 tw7037177334662587715 tw9488029985338465838 tw7419765523046109647 tw10984425457388563840 tw9988888165721149355 tw16721494269428927469 tw6651870092149890385 tw8422344209908268273 tw9518210909347604564 tw13910421789947969949 tw1453821774710549149 tw16984297226689997527 tw7235890461941975467 tw17090953572844027142 tw3880895780654862245 tw12470012900935173894 tw4429700680686693038 tw5759061118873476563 tw6113361304934325959 tw16968800597117871925 tw6483657567102925202 tw10453616853809728509 tw13067988040654620062 tw12040294545298565142 tw18395458991471111089 tw8100686436305819881 tw77706812862947921 tw8423997417439570060 tw717692387927678494 tw4607619643665372177 tw12183769867947021793 tw5987987875343083507 tw16153596666469231641 tw12785183450438880796 tw18035261748311679374 tw8665287105466122054 tw3589009287817749118 tw613597165146444063 tw18185816791256018163 tw12950352388885506025 tw7169194679615838424 tw13166533346906688567 tw3819754828668484625 tw14093275411498420646 tw2707923760534358602 tw7486451630040057729 tw11702414724130114188 tw646447088645918460 tw777913880061471217 tw407913153844433486 tw12619956359581450637 tw6692120717501418365 tw16935928223163541331 tw8255390067653494120 tw5941762755937466096 tw7946112427755575672 tw10112360484967629561 tw18059438255005245837 tw5261344860717877619 tw6591433961909601989 tw7627104787734051184 tw12318616485741049951 tw15178936553135676961 tw15393850438795325742 tw11776222600544529552 tw5886263015259236024 tw11616848721963241025 tw4670054025209476595 tw10352710722279717458 tw18059273366222980102 tw17721242291835321348 tw11931897428972071251 tw13056074553968427162 tw3635553643052800059 tw15683066507264763302 tw753792643932542678 tw1465133969990614026 tw3861183515275096439 tw4324567340362432237 tw17423390738070472045 tw16433449441864030960 tw436798426117697392 tw14425388595559243302 tw1578572565219198067 tw14633746172693582202 tw9762752093886453145 tw5225060613090978217 tw6674102016450020085 tw3925515977118961577 tw15685806786791974872 tw8017056547377890496 tw11420919446866128581 tw13353181428393274288 tw11327580881692353408 tw10363595983701227918 tw17516754554613779519 tw9591297390110697392 tw1350164065135432374 tw11365649476335917947 tw18310657014129477024 tw16024922268501546337 tw10913840450805714687 tw15316699549995967448 tw4933205400751665366 tw14880758148430455709 tw5984656036120667689 tw3569417014980214110 tw8438296379434485847 tw11952513332355192403 tw651109005903559192 tw15902089677072955480 tw14138480835412292086 tw622024264589427174 tw5181990109343828242 tw11323956428272547116 tw2969416299922568455 tw12464783947621690425 tw4403969122511711462 tw3679848365467902384 tw13157370790849368637 tw5363496200314705833 tw18144770212677939038 tw4273578741937472338 tw14060310327961104436 tw7192958345743645358 tw18391794549744615352 tw827763290912751336 tw10548505622619613958 tw11229471476657333503 tw15991835081544097835 tw8361486812410261337 tw6795198935234747301 tw11264780359523510015 tw8374678426104054077 tw5351075328670556152 tw14797088019045512850 tw9256627649237748699 tw182475652235017948 tw7393899196764071757 tw5339914787355389442 tw5672438208641820998 tw3502916708797180684 tw11110601740910883172 tw12348374719469972091 tw4555867282874606024 tw8840377666474218024 tw5208575493531520757 tw13536501505527096862 tw12599599839715546453 tw14035904038543192290 tw5635127204279983902 tw5298576730229488389 tw14086022396990594591 tw2318705639098675453 tw18372723701673996550 tw2899511792200362166 tw15090689836548917102 tw2032875836200623360 tw11326429946859970813 tw2598350115394675298 tw16867653565668432583 tw11865936055385818720 tw7410982801600307535 tw9806240994545102352 tw9739937080874760173 tw8960337741024704736 tw17398097711686109332 tw1494431895147610714 tw3681842860862046650 tw16700120987287706481 tw12647975452665947210 tw17994917389955652191 tw15301219767144904765 tw13910690436928648717 tw10159274357674347805 tw436521256312354035 tw9303830771158619510 tw9450887846255125716 tw9796734000781971518 tw16843694863735578891 tw11838851432823356235 tw12186698358953962762 tw1652900072616245838 tw9450570925103445729 tw16202247426054905853 tw11751684462451017431 tw17988980370768220356 tw7006383631166122972 tw2180023082599353433 tw4906393029797394373 tw13381657605251565898 tw451957930998485171 tw14746303606535554764 tw15632245344950735139 tw9207818578572896456 tw6775516843876764936 tw14061246400664457127 tw11495236665200730133 tw15433219592684692968 tw7588409676614395478 tw5845814337160705393 tw11393142723584369880 tw13073905581229627010 tw15936432133944489587 tw16571962522842663362 tw15593424067213481772 tw13556946073448254445 tw17561787886726997640 tw15554314580674347798 tw4880363180026947180 tw10031713333549563526 tw15571074299910991576 tw4252997401247892989 tw9002587840136904684 tw5371243564760926411 tw7056491412803889703 tw14077877622458084675 tw9773627342749196076 tw5586621349716705880 tw6755580141552167909 tw13339552560795284954 tw7217103458803022443 tw14635225227591908363 tw420020984025376736 tw10372337912079017793 tw1082943153688909159 tw11444857357005382916 tw3910011601668276266 tw8957296406091604182 tw18151104942222569579 tw12292626029916295629 tw12582657972138393356 tw13740848015839787013 tw12688642163199114159 tw17427902406015892532 tw10215586885311943961 tw18070687422587160836 tw701420526263972211 tw10205806089551567458 tw8109421185681451341 tw2040950665968630266 tw9788565802750591630 tw17798344909343823335 tw7600069845357691378 tw32560736375106059 tw9494296108617575484 tw13031955880340240729 tw16517095850515032260 tw15226064979048957967 tw14993510181708670435 tw12498094169757694572 tw3449217783323386675 tw14520593064413332304 tw1005134624605642758 tw1626411655213060001 tw15123526432499967436 tw17351918803146165763 tw9913201704497170351 tw13234973123993052097 tw3976379647003164880 tw2405794200841916888 tw4817157853652547425 tw8679122423447752512 tw9203819359485715290 tw8265016169170883248 tw14885255684009510809 tw15625174867004847600 tw456887350476734811 tw8882757346681021678 tw10215144778634362174 tw16739756933721802421 tw1426157373184180467 tw8938193596288565354:True)
open PySem PySem.W PyProof.Rows
def BK45.nmsOk:B.CU BK45.T.names=true:=by decide +kernel
set_option maxRecDepth 100000 in
set_option maxHeartbeats 0 in
theorem PySem.Challenge.cw_grantweave_k45_whole_upward_and_closer_holds : PySem.Challenge.rw_grantweave_k45_whole_upward_and_closer.Holds := by
 w_on;o_law;k_head;(case hw=>w_witness2)
 k_fill
 refine B.M7 (l:=PySem.Challenge.rw_grantweave_k45_whole_upward_and_closer) (x:= "_law_script") (T:=BK45.T) (n:=60) (f:=78) (dd:=BK45.d78) rfl rfl ⟨rfl,by decide,by decide,rfl⟩ rfl BK45.nmsOk BK45.jg rfl rfl rfl ?c
 case c=>intro w;kernel_rfl
