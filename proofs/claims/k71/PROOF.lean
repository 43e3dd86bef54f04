import PyProof.Rows.All
import Wide.All
import OpenK.AllK
import Wide.FinOn
import Lean
import PyProof.EqAt
import PyProof.EqKinds
import PyProof.TupleCall
import KE.KUnpack
import KE.KDictList
import KE.KIntText
import PyProof.ListMulAny
import KE.KEqDict
import PyProof.P3Eq
import KE.KNestM
import KE.KLam
import PySem.Challenge.RW_grantweave_k71_works_changed
set_option Elab.async false
set_option linter.all false
set_option maxRecDepth 100000
set_option maxHeartbeats 4000000
set_option genSizeOf false
set_option genSizeOfSpec false
set_option bootstrap.genMatcherCode false
noncomputable section
structure PySem.W.Fast:Prop where(tw13531267861222244339 tw8291944721964113895 tw17137534557258643728 tw9632768900659266674 tw479925374003368205 tw11725026907986870116 tw12127933490621638607 tw11720747197232559031 tw4732842618136905868 tw17967078265632760343 tw4156229352451930801 tw14566512690694529768 tw6880527627326576754 tw1953901615234639263 tw11145882971707568441 tw3811693877861967046 tw612364937127765401 tw10604281568504999994 tw11685586951587979684 tw16137783942461791420 tw4996001843071013594 tw10905238211048731444 tw15859842965220729274 tw5285489757395819198 tw3820725870930663851 tw17758169694657959422 tw5430995245213183660 tw8223902970905629254 tw7066129872393930067 tw15364807989981055286 tw11770177331112724734 tw14520356037116577526 tw13904477665850904446 tw14280456402328676239 tw11313497078713138715 tw11432835142404944978 tw11961697604036885944 tw15847574923925153089 tw6661505059133371089 tw11225644864894532778 tw786981063576094907 tw18441238344775510959 tw16148210160322977759 tw3209926656564544219 tw15528837132736343588 tw17275748359171661595 tw15965844667181895031 tw3207272415174655996 tw10314417410178868615 tw7647078180800471815 tw7370664843067868313 tw2635485185317354898 tw11714466601099926836 tw13808184102158416448 tw10040951426872325416 tw14394521029104355517 tw13294629570675813981 tw18131722699110843985 tw3592331191567302814 tw988702336348141836 tw3572770852595108631 tw13479318323542214109 tw5200543387142388731 tw9941514136459744991 tw6325353907495982800 tw14855529815057715031 tw2357412894492479544 tw17919486601767642591 tw2125648151409725831 tw2445603020374813375 tw16121270549223585860 tw8478814920381664153 tw15941785227920563837 tw16536529492266528920 tw7731925817298852060 tw14932762863710632475 tw14112772788829515430 tw17610578847793078828 tw12247958966168317658 tw15114018677019012404 tw17219697560104491081 tw12034156829403800210 tw7709290603132004301 tw16334517923019052169 tw8027737248880907557 tw3383411036434404394 tw16482533729581023170 tw6319598949848492239 tw8187879454963655453 tw6566734681043465170 tw7618442756694119505 tw8732047652086628022 tw3655227174005183648 tw243725093345728272 tw14626877548011625479 tw14416925101166091312 tw2431308672514927049 tw1538319653517162821 tw13356742157548325885 tw11500229078491665010 tw17410827004637638026 tw6901621560349333921 tw10130756965957725694 tw14506245989658159522 tw1948197898556492070 tw5029722553217335535 tw17627951496864959334 tw11956491128607579015 tw15315119576128733319 tw8123009524439874510 tw12188067847123089329 tw279756079445169927 tw9976696007453682198 tw12491400504398673448 tw12146389924602033906 tw14139627415142645410 tw15636980215216688189 tw2882459412217390830 tw1125140694956492694 tw17512752333296234371 tw12961542421124474721 tw15888506031043807556 tw15790893318960960158 tw15898876490577784637 tw922356606382211884 tw13592217138712442423 tw4386726590036479136 tw12273168803376779395 tw16347368675445322029 tw5502063326014086990 tw5765604608724612320 tw4441403942027882387 tw4674114421177698212 tw12874621449164409490 tw12874368441528503435 tw6253470586292755864 tw10433782865210580322 tw3493455206169207831 tw13803012241071880223 tw11417419658469995487 tw9737469604959866642 tw13562714135736250411 tw16173667232367862019 tw3178436352653242033 tw9601638326077403063 tw3693407079027869518 tw9198302849802859919 tw18135851562423759829 tw8390365169070013089 tw1021774980023125637:True)
section
open PySem PySem.W PyProof.Rows
set_option maxHeartbeats 0 in
open_top hd0 for PySem.Challenge.rw_grantweave_k71_works_changed
end
open PySem.W (Frag kitOne findIn mroIn Looks kia_one keepIn instObj emptyDict kitAny clsIn kla_obj nsIn kia_tup isFn specialIn typeIn fnOf CodeHd takesIn mg_of makesIn kitx_dict envX callWith_K plainGet codeIn lookIn hasDictIn)
abbrev Fq:=Frag
open PySem in
abbrev Pq:=List (Addr×Obj)
open PySem in
abbrev Vq:=Value->Shared->Prop
open PySem in
abbrev Mq:=Str->Option Value
open PySem in
abbrev Cq:=List (Str×Addr)
def a9:=@Bool.false_ne_true
def aA:=@PySem.wpAny_bind
def aB:=@Option.bind_eq_some_iff
def aC:=@PySem.Heap.get?_push_of_some
def aD:=@List.mem_cons_of_mem
def aE:=@List.getElem?_eq_some_iff
def aF:=@List.mem_cons_self
def aG:=@Option.map_eq_some_iff
def aH:=@List.mem_cons
def aI:=@beq_iff_eq
def aJ:=@PySem.wpAny_pure
def aK:=@PySem.Heap.lt_size
def aL:=@List.length_map
def aM:=@List.getElem?_map
def aN:=@Nat.le_refl
def aO:=@Nat.lt_of_lt_of_le
def aP:=@List.mem_of_getElem?
def aQ:=@Nat.ne_of_lt
def aR:=@List.length_append
def aS:=@List.getElem?_append_left
def aU:=@List.getElem?_append_right
def aV:=@PySem.Heap.get?_push_size
def aW:=@List.mem_map
def aX:=@List.map_cons
def aY:=@of_decide_eq_true
def aZ:=@List.getElem?_eq_getElem
def b7:=@List.mem_append_right
def b9:=@Nat.le_trans
def bA:=@List.mem_singleton
def bB:=@List.size_toArray
def bC:=@List.mem_append
def bD:=@List.all_eq_true
def bE:=@List.append_nil
def bF:=@List.mem_append_left
def bG:=@List.length_range
def bH:=@List.nodup_cons
def bI:=@List.getElem?_set_ne
def bJ:=@Nat.lt_irrefl
def bL:=@Ne.symm
def bM:=@Option.some.inj
def bN:=@PySem.wpAny_mono
def bO:=@beq_eq_false_iff_ne
def bP:=@decide_eq_false
def bQ:=@decide_eq_true
def bR:=@PySem.wpAny_holding
def bS:=@PySem.wpAny_Call_Name_kw
def bT:=@List.map_append
def bU:=@Int.toNat_natCast
def bV:=@PySem.Heap.get?_update_other
def bW:=@congrArg
def bX:=@Option.isSome_iff_exists
def bY:=@List.lookup_cons
def bZ:=@PySem.F.called_set
def c8:=@List.map_map
def c9:=@List.length_eq_zero_iff
def cA:=@PySem.codeAny_mono
def cB:=@Int.natCast_nonneg
def cC:=@List.length_cons
def cD:=@List.prefix_refl
def cE:=@List.sublist_append_right
def cF:=@List.replicate_succ
def cG:=@List.flatten_cons
def cH:=@PySem.wpAny_setState_of
def cI:=@List.Sublist.refl
def cJ:=@PySem.Heap.get?_update_self
def cK:=@Bool.eq_iff_iff
def cL:=@List.getElem?_replicate
def cM:=@List.length_take
def cN:=@PySem.wpAny_truthy_bool
def cO:=@PySem.wpAny_call
def cP:=@List.pairwise_iff_getElem
def cQ:=@Int.emod_lt_of_pos
def cR:=@List.take_length
def cS:=@Nat.le_succ
def cT:=@PySem.Heap.size_push
def cU:=@List.append_assoc
def cV:=@Nat.lt_succ_of_lt
def cW:=@PyProof.Rows.callWith_type1
def cX:=@List.length_replicate
def cY:=@List.zip_cons_cons
def cZ:=@PySem.codeAny_call_builtin
def dA:=@Int.emod_nonneg
def dB:=@List.nodup_append
def dC:=@List.filterMap_cons
def dD:=@List.mem_flatten
def dE:=@PySem.sizeLine_eq
def dF:=@PySem.Calls.callWith_builtin
def dG:=@PySem.wpAny_field
def dH:=@PyProof.Rows.F.plain_set_update_loop
def dI:=@Nat.zero_add
def dJ:=@List.mem_filter
def dM:=@List.of_mem_zip
def dO:=@Bool.or_eq_true
def dP:=@List.getElem?_eq_none
def dQ:=@List.getD_eq_getElem?_getD
def dR:=@Array.getElem?_eq_some_iff
def dS:=@PySem.F.slot_tuple_iterator_next
def dU:=@List.getElem?_set
def dW:=@List.mem_iff_getElem
def dX:=@Nat.zero_le
def dY:=@Nat.lt_succ_self
def dZ:=@List.sublist_append_left
def eD:=@PySem.wpAny_getItem_str_slice
def eG:=@PySem.Obj.data_mapFields
def eI:=@decide_eq_true_iff
def eK:=@List.getElem_range
def eM:=@List.find?_eq_none
def eN:=@List.getElem?_set_self
def eO:=@List.ext_getElem?
def eP:=@Nat.le_of_lt
def eQ:=@List.length_singleton
def eR:=@PySem.wpAny_setField
def eS:=@PySem.Obj.isFreed_of_fields
def eU:=@PySem.Calls.evalArgs_plain
def eV:=@List.any_eq_true
def eW:=@List.mem_of_mem_take
def eX:=@PySem.wpAny_standAt
def eY:=@Array.getElem?_setIfInBounds_self_of_lt
def eZ:=@List.mem_map_of_mem
def f7:=@List.Sublist.append
def f8:=@List.map_congr_left
def f9:=@PySem.wpAny_passesOwn
def fA:=@List.forIn_cons
def fB:=@List.drop_eq_getElem_cons
def fD:=@Option.isNone_iff_eq_none
def fE:=@PySem.Code.quiet_builtin
def fF:=@PyProof.Rows.F.entry_set_update_loop
def fG:=@Nat.lt_of_le_of_lt
def fH:=@List.getElem?_take
def fI:=@PySem.wpAny_seqItems
def fJ:=@List.nodup_nil
def fK:=@PySem.wpAny_callSpecial?_slot
def fL:=@PySem.Calls.spliced_nil
def fN:=@PySem.wpAny_newObj_type
def fO:=@PySem.wpAny_pyIter_list
def fP:=@PySem.wpAny_loadPart_at
def fQ:=@List.take_succ_eq_append_getElem
def fR:=@List.flatMap_def
def fS:=@List.filter_cons
def fT:=@List.cons_append
def fU:=@Array.getElem?_toList
def fV:=@List.length_filter_le
def fW:=@List.mem_iff_getElem?
def fX:=@PySem.plainObj_wpAny_Assign_Attribute
def fY:=@PySem.wpAny_execs_nil
def fZ:=@Nat.ne_of_gt
def g0:=@Array.mem_toList_iff
def g7:=@PyProof.Rows.callWith_builtin1
def g8:=@PySem.post_val_or_str
def g9:=@Nat.sub_self
def gA:=@PySem.codeAny_builtin
def gB:=@List.any_map
def gC:=@Array.length_toList
def gD:=@List.map_eq_flatMap
def gE:=@List.mem_range
def gF:=@PySem.wpAny_loadPart
def gG:=@Bool.and_false
def gH:=@PySem.F.args_tuple_iterator_next_1
def gJ:=@PySem.Value.type.inj
def gK:=@PySem.Calls.spliced_cons
def gL:=@PySem.F.entry_tuple_iterator_next
def gM:=@PySem.wpAny_pyIter_tuple
def gN:=@PySem.hashByValue.eq_def
def gO:=@PySem.Calls.Name_function_global
def gP:=@PySem.wpAny_newFunctionEnv_cells
def gQ:=@List.any_cons
def gR:=@PySem.wpAny_attempt
def gT:=@Option.ne_none_iff_exists'
def gU:=@List.any_eq_false
def gV:=@List.take_sublist
def gW:=@List.getElem?_zip_eq_some
def gX:=@List.mem_of_find?_eq_some
def gY:=@Nat.le_of_eq
def gZ:=@PySem.noFill_tuple_add
def hG:=@List.map_nil
def hJ:=@List.length_drop
def hU:=@Bool.and_eq_true
def hV:=@Nat.le_of_not_lt
def hW:=@List.getElem_mem
def hX:=@PySem.Txt.slice_le
def hZ:=@PySem.wpAny_call_entry
def i4:=@Nat.le_add_right
def i5:=@List.drop_length
def i6:=@List.isEmpty_iff
def i7:=@List.map_flatten
def i8:=@List.all_map
def i9:=@List.foldl_cons
def iA:=@List.nil_append
def iB:=@PySem.codeAny_of_tree
def iC:=@List.getElem?_toArray
def iD:=@List.mem_of_mem_drop
def iE:=@Eq.trans
def iF:=@List.map_take
def iG:=@Int.zero_add
namespace L2
open PySem PySem.Spec PyProof.Rows
inductive E2{α β:Type}(P:α->β->Prop):Prop|mk (a b) (h:P a b)
inductive E3{α β γ:Type}(P:α->β->γ->Prop):Prop|mk (a b c) (h:P a b c)
inductive E4{α β γ δ:Type}(P:α->β->γ->δ->Prop):Prop|mk (a b c d) (h:P a b c d)
inductive E5{α β γ δ ε:Type}(P:α->β->γ->δ->ε->Prop):Prop|mk (a b c d e) (h:P a b c d e)
inductive E6{α β γ δ ε ζ:Type}(P:α->β->γ->δ->ε->ζ->Prop):Prop|mk (a b c d e f) (h:P a b c d e f)
inductive E7{α β γ δ ε ζ η:Type}(P:α->β->γ->δ->ε->ζ->η->Prop):Prop|mk (a b c d e f g) (h:P a b c d e f g)
inductive E8{α β γ δ ε ζ η θ:Type}(P:α->β->γ->δ->ε->ζ->η->θ->Prop):Prop|mk (a b c d e f g h) (h:P a b c d e f g h)
inductive E9{α β γ δ ε ζ η θ ι:Type}(P:α->β->γ->δ->ε->ζ->η->θ->ι->Prop):Prop|mk (a b c d e f g h i) (h:P a b c d e f g h i)
inductive A3(a b c:Prop):Prop|mk (j:a) (k:b) (l:c)
inductive A4(a b c d:Prop):Prop|mk (j:a) (k:b) (l:c) (m:d)
inductive A5(a b c d e:Prop):Prop|mk (j:a) (k:b) (l:c) (m:d) (n:e)
inductive A6(a b c d e f:Prop):Prop|mk (j:a) (k:b) (l:c) (m:d) (n:e) (o:f)
inductive A7(a b c d e f g:Prop):Prop|mk (j:a) (k:b) (l:c) (m:d) (n:e) (o:f) (p:g)
inductive A8(a b c d e f g h:Prop):Prop|mk (j:a) (k:b) (l:c) (m:d) (n:e) (o:f) (p:g) (q:h)
inductive A9(a b c d e f g h i:Prop):Prop|mk (j:a) (k:b) (l:c) (m:d) (n:e) (o:f) (p:g) (q:h) (r:i)
abbrev Key:=Sum Int Str
def Jm:Key->Value->Bool
 |.inl k,v=>Value.isInt k v
 |.inr x,v=>Value.isStrOf x v
def rF(w:World):Key->Int
 |.inl k=>hashInt k
 |.inr x=>hashStr w x
def AV:∀{k:Key}{v:Value},Jm k v=true->(∃i t,k=Sum.inl i/\v=Value.int i t)\/(∃x t,k=Sum.inr x/\v=Value.str x t)
 |.inl i,v,h=>by
  obtain⟨t,e⟩:=Value.isInt_shape (k:=i) (v:=v) h;exact .inl ⟨i,t,rfl,e⟩
 |.inr x,v,h=>by
  obtain⟨t,e⟩:=Value.isStrOf_shape (x:=x) (v:=v) h;exact .inr ⟨x,t,rfl,e⟩
def Qd(i:Int)(t:Tok):Jm (.inl i) (.int i t)=true:=by simp[Jm,Value.isInt]
def Qc(x:Str)(t:Tok):Jm (.inr x) (.str x t)=true:=by simp[Jm,Value.isStrOf]
def am(a b:Int):decide ((Sum.inl a:Key)=Sum.inl b)=(a ==b):=by
 by_cases e:a=b
 ·subst e;simp
 have h:¬(Sum.inl a:Key)=Sum.inl b:=λq=>e (Sum.inl.inj q);rw[bP h];exact(bO.mpr e).symm
def ah(a b:Str):decide ((Sum.inr a:Key)=Sum.inr b)=decide (a=b):=by
 by_cases e:a=b
 ·subst e;simp
 have h:¬(Sum.inr a:Key)=Sum.inr b:=λq=>e (Sum.inr.inj q);rw[bP h,bP e]
def ak(a:Int)(b:Str):decide ((Sum.inl a:Key)=Sum.inr b)=false:=bP (λq=>nomatch q)
def aj(a:Str)(b:Int):decide ((Sum.inr a:Key)=Sum.inl b)=false:=bP (λq=>nomatch q)
def Aj(prog:Program)(w:World):PySem.KeyKind prog w Key where
 is:=Jm
 hash:=rF w
 inj:=λv a b ha hb=>by
  rcases AV ha with⟨i,t,rfl,rfl⟩|⟨x,t,rfl,rfl⟩
  ·rcases AV hb with⟨j,u,rfl,e⟩|⟨y,u,rfl,e⟩
   ·injection e with e1 _;rw[e1]
   exact nomatch e
  rcases AV hb with⟨j,u,rfl,e⟩|⟨y,u,rfl,e⟩
  ·exact nomatch e
  injection e with e1 _;rw[e1]
 byValue:=λk v h=>by
  rcases AV h with⟨i,t,rfl,rfl⟩|⟨x,t,rfl,rfl⟩<;>rfl
 pyHash:=λhv h=>by
  rcases AV hv with⟨i,t,rfl,rfl⟩|⟨x,t,rfl,rfl⟩
  ·exact wpAny_pyHash_int h
  exact wpAny_pyHash_str h
 eqBool:=λhu hv h=>by
  rcases AV hu with⟨i,t,rfl,rfl⟩|⟨x,t,rfl,rfl⟩
  ·rcases AV hv with⟨j,u,rfl,rfl⟩|⟨y,u,rfl,rfl⟩
   ·rw[am]at h;exact wpAny_eqBool_int h
   rw[ak]at h;exact SeqAt.EqAt.int_str i t y u _ _ _ _ h
  rcases AV hv with⟨j,u,rfl,rfl⟩|⟨y,u,rfl,rfl⟩
  ·rw[aj]at h;exact SeqAt.EqAt.str_int x t j u _ _ _ _ h
  rw[ah]at h;exact wpAny_eqBool_str h
 «strs»:=λk x t v h=>by
  rcases AV h with⟨i,u,rfl,e⟩|⟨y,u,rfl,e⟩
  ·exact nomatch e
  injection e with e1 _
  subst e1;cases v<;>rfl
def L7(prog:Program)(w:World)(i:Int)(t:Tok):(Aj prog w).is (.inl i) (.int i t)=true:=Qd i t
def L6(prog:Program)(w:World)(x:Str)(t:Tok):(Aj prog w).is (.inr x) (.str x t)=true:=Qc x t
end L2
namespace L2
open PySem PySem.Spec PyProof.Rows
inductive V where
 |non|bl (b:Bool)|int (i:Int)|str (x:Str)|byt (b:Array UInt8)|flt (b:UInt64)|ref (a:Addr)|ty (n:String)
 deriving DecidableEq
def AA:V->Value->Prop
 |.non,u=>u=Value.none
 |.bl b,u=>u=Value.bool b
 |.int i,u=>∃t,u=Value.int i t
 |.str x,u=>∃t,u=Value.str x t
 |.byt b,u=>∃t,u=Value.bytes b t
 |.flt b,u=>∃t,u=Value.float b t
 |.ref a,u=>u=Value.ref a
 |.ty n,u=>u=Value.type n
abbrev Aq:List V->List Value->Prop:=Paired AA
theorem Aq.length(r:Aq xs us):xs.length=us.length:=Paired.length r
theorem Aq.get:∀{xs:List V}{us:List Value}{i:Nat}{x:V},Aq xs us->xs[i]?=some x->∃u,us[i]?=some u/\AA x u
 |_,_,_,_,.nil,e=>by simp at e
 |_,_,0,_,.cons r _,e=>by simp at e;subst e;exact⟨_,rfl,r⟩
 |_,_,i+1,x,.cons _ t,e=>by
  obtain⟨u,h1,h2⟩:=Aq.get (i:=i) (x:=x) t (by simpa using e);exact⟨u,by simpa using h1,h2⟩
theorem Aq.set(r:AA x u):∀{xs:List V}{us:List Value} i,Aq xs us->Aq (xs.set i x) (us.set i u)
 |_,_,_,.nil=>.nil
 |_,_,0,.cons _ t=>.cons r t
 |_,_,i+1,.cons q t=>.cons q (Aq.set r i t)
theorem Aq.append:∀{xs ys:List V}{us ws:List Value},Aq xs us->Aq ys ws->Aq (xs++ys) (us++ws)
 |_,_,_,_,.nil,s=>s
 |_,_,_,_,.cons r t,s=>.cons r (Aq.append t s)
theorem Aq.take:∀{xs:List V}{us:List Value} n,Aq xs us->Aq (xs.take n) (us.take n)
 |_,_,0,_=>.nil
 |_,_,_+1,.nil=>.nil
 |_,_,n+1,.cons r t=>.cons r (Aq.take n t)
theorem Aq.drop:∀{xs:List V}{us:List Value} n,Aq xs us->Aq (xs.drop n) (us.drop n)
 |_,_,0,r=>r
 |_,_,_+1,.nil=>.nil
 |_,_,n+1,.cons _ t=>Aq.drop n t
def EM:Option V->Option Value->Prop
 |some v,some u=>AA v u
 |none,none=>True
 |_,_=>False
def KV{κ:Type}:List (κ×V)->List (κ×Value)->Prop:=Paired λ(p:κ×V) (q:κ×Value)=>p.1=q.1/\AA p.2 q.2
def kV:Key->V
 |.inl i=>.int i
 |.inr x=>.str x
inductive HO where
 |lst (xs:List V)
 |tup (xs:List V)
 |dK (kvs:List (Key×V))|dT (kvs:List (List Key×V))
 |set (S:Int->Bool) (n:Nat)
 |ins (C dx:Addr) (fs:List (Str×V))
 |own (x:Addr)
 |xd (fs:List (Str×V))
 |met (f x:Addr)
 |rng (lo hi:Int)
 |frz (o:Obj) (u:HO)
 |tbl (ps:Array Value)
 |ext (φ:Heap->Prop)
abbrev Hp:=Addr->Option HO
def upd(H:Hp)(a:Addr)(o:HO):Hp:=λb=>if b=a then some o else H b
def Ab:upd H a o a=some o:=by unfold upd;rw[if_pos rfl]
def Aa(h:b≠a):upd H a o b=H b:=by unfold upd;rw[if_neg h]
def Uy:upd (upd H a o) a u=upd H a u:=by
 funext b;unfold upd;split<;>rfl
def Oy{H:Hp}{a b:Addr}{o u:HO}(h:H a=some o)(h':H b=some u)(d:o≠u):a≠b:=by
 intro e;subst e;rw[h]at h';exact d (bM h')
def Am{H:Hp}{a b:Addr}{o:HO}(h:H a=some o)(h':H b=none):a≠b:=by
 intro e;subst e;rw[h]at h';cases h'
section
variable (P:Program) (w:World)
def AN(H:Hp)(h:Heap)(a:Addr):HO->Prop
 |.lst xs=>xs.length<=sizeLine/\∃(its:List Value) (n:Nat),Aq xs its/\h.get? a=some {cls:=.type "list",data:=.seq its.toArray n}
 |.tup xs=>xs.length<=sizeLine/\∃its:List Value,Aq xs its/\IsTup h a its.toArray
 |.dK kvs=>kvs.length<=sizeLine/\(a ==sysModules)=false/\∃vs,KV kvs vs/\h.DictOf (Aj P w) a vs
 |.dT kvs=>kvs.length<=sizeLine/\(a ==sysModules)=false/\∃xs:List (List Key×Addr×Value),
  Paired (λ(p:List Key×V) (q:List Key×Addr×Value)=>p.1=q.1/\H q.2.1=some (.tup (p.1.map kV))/\AA p.2 q.2.2) kvs xs/\
  ∃o es ep,h.get? a=some o/\o.ExactDict/\o.data=.dict es ep/\es.toList=xs.map (entryOfKey (tupleKind (Aj P w)))/\(xs.map (·.1)).Nodup
 |.set S n=>h.SetOf (intKind P w) a S n
 |.ins C dx fs=>H dx=some (.own a)/\fs.length<=1000/\dx≠a/\h.get? a=some (instObj C dx)/\
  ∃mA,h.Ns1 dx mA/\(∀f,EM (fs.lookup f) (mA f))/\PySem.Within mA (fs.map (·.1))
 |.own _=>∃o,h.get? a=some o
 |.xd fs=>∃mA,h.Ns1 a mA/\∀f,EM (fs.lookup f) (mA f)
 |.rng lo hi=>∃t u v,h.get? a=some {cls:=.type "range",data:=.fields #[.int lo t,.int hi u,.int 1 v]}
 |.frz o u=>h.get? a=some o/\AN H h a u
 |.tbl ps=>h.get? a=some {cls:=.none,data:=.fields ps}
 |.met f x=>h.get? a=some (PySem.W.methodObj (.ref f) (.ref x))
 |.ext φ=>φ h/\(∃o,h.get? a=some o)/\∀h1 h2:Heap,φ h1->(∀o,h1.get? a=some o->h2.get? a=some o)->φ h2
def D9(H:Hp)(h:Heap):Prop:=∀a o,H a=some o->AN P w H h a o
end
section
theorem AN.lt(x:AN P w H h a o):a<h.objs.size:=by
 cases o with
 |lst xs=>obtain⟨_,_,_,_,e⟩:=x;exact aK e
 |tup xs=>obtain⟨_,_,_,p⟩:=x;exact p.lt
 |dK kvs=>obtain⟨_,_,_,_,o,_,_,e,_⟩:=x;exact aK e
 |dT kvs=>obtain⟨_,_,_,_,o,_,_,e,_⟩:=x;exact aK e
 |set S n=>obtain⟨o,_,_,_,e,_⟩:=x;exact aK e
 |ins C dx fs=>obtain⟨_,_,_,e,_⟩:=x;exact aK e
 |own y=>obtain⟨_,e⟩:=x;exact aK e
 |xd fs=>obtain⟨_,⟨_,_,_,e,_⟩,_⟩:=x;exact aK e
 |rng lo hi=>obtain⟨_,_,_,e⟩:=x;exact aK e
 |frz ob u=>obtain⟨e,_⟩:=x;exact aK e
 |tbl ps=>exact aK (show h.get? a=some _ from x)
 |met f y=>exact aK (show h.get? a=some _ from x)
 |ext φ=>obtain⟨_,⟨_,e⟩,_⟩:=x;exact aK e
theorem Paired.mapP{α β:Type}{F G:α->β->Prop}:∀{l₁:List α}{l₂:List β},Paired F l₁ l₂->(∀a b,F a b->G a b)->Paired G l₁ l₂
 |_,_,.nil,_=>.nil
 |_,_,.cons r t,f=>.cons (f _ _ r) (Paired.mapP t f)
def AN.stay(x:AN P w H h a o)(k:∀b u,(b=a\/H b=some (.own a))->h.get? b=some u->h'.get? b=some u)
 (ho:∀b,H b=some (.own a)->H' b=some (.own a))(ht:∀b xs,H b=some (.tup xs)->H' b=some (.tup xs)):AN P w H' h' a o:=by
 induction o with
 |lst xs=>obtain⟨z,its,n,r,e⟩:=x;exact⟨z,its,n,r,k _ _ (.inl rfl) e⟩
 |tup xs=>obtain⟨z,its,r,ob,e,c⟩:=x;exact⟨z,its,r,ob,k _ _ (.inl rfl) e,c⟩
 |dK kvs=>obtain⟨z,y,vs,r,ob,es,ep,e,c⟩:=x;exact⟨z,y,vs,r,ob,es,ep,k _ _ (.inl rfl) e,c⟩
 |dT kvs=>
  obtain⟨z,y,xs,r,ob,es,ep,e,c⟩:=x;exact⟨z,y,xs,Paired.mapP r λp q z=>⟨z.1,ht _ _ z.2.1,z.2.2⟩,ob,es,ep,k _ _ (.inl rfl) e,c⟩
 |set S n=>obtain⟨ob,es,ep,t,e,c⟩:=x;exact⟨ob,es,ep,t,k _ _ (.inl rfl) e,c⟩
 |ins C dx fs=>
  obtain⟨d,z,ne,e,mA,⟨od,es,ep,e2,c⟩,r⟩:=x;exact⟨ho _ d,z,ne,k _ _ (.inl rfl) e,mA,⟨od,es,ep,k _ _ (.inr d) e2,c⟩,r⟩
 |own y=>obtain⟨ob,e⟩:=x;exact⟨ob,k _ _ (.inl rfl) e⟩
 |xd fs=>obtain⟨mA,⟨od,es,ep,e,c⟩,r⟩:=x;exact⟨mA,⟨od,es,ep,k _ _ (.inl rfl) e,c⟩,r⟩
 |rng lo hi=>obtain⟨t,u,v,e⟩:=x;exact⟨t,u,v,k _ _ (.inl rfl) e⟩
 |frz ob u ih=>obtain⟨e,q⟩:=x;exact⟨k _ _ (.inl rfl) e,ih q⟩
 |tbl ps=>
  have e:=x;show h'.get? a=some {cls:=.none,data:=.fields ps};exact k a _ (.inl rfl) e
 |met f y=>
  have e:=x;show h'.get? a=some (PySem.W.methodObj (.ref f) (.ref y));exact k a _ (.inl rfl) e
 |ext φ=>obtain⟨p,⟨o,e⟩,st⟩:=x;exact⟨st _ _ p λo q=>k _ _ (.inl rfl) q,⟨o,k _ _ (.inl rfl) e⟩,st⟩
theorem D9.lt(x:D9 P w H h)(e:H a=some o):a<h.objs.size:=(x a o e).lt
def D9.fresh(x:D9 P w H h)(e:h.objs.size<=a):H a=none:=by
 cases q:H a with
 |none=>rfl
 |some u=>exact absurd (aO (x.lt q) e) (bJ _)
def D9.kept(x:D9 P w H h)(k:∀b u,h.get? b=some u->h'.get? b=some u):D9 P w H h':=λa o e=>
 (x a o e).stay (λb u _ q=>k b u q) (λ_ q=>q) λ_ _ q=>q
def D9.laid(x:D9 P w H h)(k:∀b u,h.get? b=some u->h'.get? b=some u)(hp:h.objs.size<=a)(new:AN P w (upd H a o) h' a o):D9 P w (upd H a o) h':=λb u e=>by
 have hn:=x.fresh hp;by_cases hb:b=a
 ·subst hb;rw[Ab]at e;cases e;exact new
 rw[Aa hb]at e;exact(x b u e).stay (λc v _ q=>k c v q) (λc q=>by rw[Aa (Am q hn)];exact q) λc xs q=>by rw[Aa (Am q hn)];exact q
end
def Rd(H:Hp)(a:Addr)(u:HO):Prop:=H a=some u\/∃o,H a=some (.frz o u)
def Rd.ok(r:Rd H a u)(x:D9 P w H h):AN P w H h a u:=by
 rcases r with r|⟨o,r⟩
 ·exact x a u r
 obtain⟨_,q⟩:=x a _ r;exact q
def o8:Option HO->Prop
 |some (.lst _)=>True
 |some (.dK _)=>True
 |some (.dT _)=>True
 |some (.set _ _)=>True
 |some (.ins _ _ _)=>True
 |some (.ext _)=>True
 |_=>False
section
def D9.write(ok:D9 P w H h)(mu:o8 (H x))(he:e=x\/H e=some (.own x))(k:∀b u,b≠e->h.get? b=some u->h'.get? b=some u)(heo:∃u,h'.get? e=some u)
 (new:AN P w (upd H x o') h' x o'):D9 P w (upd H x o') h':=λb u q=>by
 have nown:∀c y,H c=some (.own y)->c≠x:=λc y r z=>by subst z;rw[r]at mu;exact mu
 have ntup:∀c xs,H c=some (.tup xs)->c≠x:=λc xs r z=>by subst z;rw[r]at mu;exact mu
 by_cases hb:b=x
 ·subst hb;rw[Ab]at q;cases q;exact new
 rw[Aa hb]at q;by_cases hbe:b=e
 ·have q':H b=some (.own x):=by
    rcases he with z|z
    ·exact absurd (hbe.trans z) hb
    rw[hbe];exact z
  rw[q]at q';cases q';obtain⟨v,hv⟩:=heo;exact⟨v,by rw[hbe];exact hv⟩
 refine(ok b u q).stay (λc v hc r=>k c v ?_ r) (λc r=>by rw[Aa (nown c b r)];exact r) λc xs r=>by rw[Aa (ntup c xs r)];exact r
 rcases hc with rfl|hc
 ·exact hbe
 rintro rfl;rcases he with z|z
 ·exact nown c b hc z
 rw[hc]at z;cases z;exact hb rfl
end
structure Un(fs ex:List Addr)(H H':Hp)(h h':Heap):Prop where
 keep:∀b o,h.get? b=some o->H b=none->b∉fs->b∉ex->h'.get? b=some o
 slot:∀b o,h.get? b=some o->H b=none->b∈fs->b∉ex->∃sl,h'.get? b=some {o with slots:=sl}
 free:∀b o,h.get? b=some o->H b=none->b∉ex->H' b=none
 there:∀b o,h.get? b=some o->b∉ex->∃o',h'.get? b=some o'
 tups:∀b xs,H b=some (.tup xs)->H' b=some (.tup xs)
 frzs:∀b o u,H b=some (.frz o u)->H' b=some (.frz o u)
 tbls:∀b ps,H b=some (.tbl ps)->∃more,H' b=some (.tbl (ps++more))
section
def Un.any(u:Un fs ex H H1 h h1)(q:h.get? b=some ob)(n:H b=none)(hx:b∉ex):∃sl,h1.get? b=some {ob with slots:=sl}:=by
 by_cases hb:b∈fs
 ·exact u.slot b ob q n hb hx
 exact⟨ob.slots,u.keep b ob q n hb hx⟩
def Un.kept(k:∀b u,h.get? b=some u->h'.get? b=some u):Un fs ex H H h h':=
 ⟨λb ob q _ _ _=>k b ob q,λb ob q _ _ _=>⟨ob.slots,k b ob q⟩,λ_ _ _ n _=>n,λb ob q _=>⟨ob,k b ob q⟩,λ_ _ q=>q,λ_ _ _ q=>q,λ_ ps q=>⟨#[],by rw[q];simp⟩⟩
def Un.refl:Un fs ex H H h h:=Un.kept λ_ _ q=>q
def Un.laid(k:∀b u,h.get? b=some u->h'.get? b=some u)(hp:h.objs.size<=a)(hn:H a=none):Un fs ex H (upd H a o) h h' where
 keep:=λb u q _ _ _=>k b u q
 slot:=λb u q _ _ _=>⟨u.slots,k b u q⟩
 free:=λb u q n _=>by rw[Aa (aQ (aO (aK q) hp))];exact n
 there:=λb u q _=>⟨u,k b u q⟩
 tups:=λb xs q=>by rw[Aa (Am q hn)];exact q
 frzs:=λb u xs q=>by rw[Aa (Am q hn)];exact q
 tbls:=λb ps q=>⟨#[],by rw[Aa (Am q hn),q];simp⟩
def Un.write(mu:o8 (H x))(he:e=x\/H e=some (.own x))(k:∀b u,b≠e->h.get? b=some u->h'.get? b=some u)(heo:∃u,h'.get? e=some u):Un fs ex H (upd H x o) h h':=by
 have hx:∀b,H b=none->b≠x:=λb n z=>by subst z;rw[n]at mu;exact mu
 have hb:∀b,H b=none->b≠e:=λb n z=>by
  subst z;rcases he with r|r
  ·exact hx b n r
  rw[n]at r;cases r
 have hm:∀b u,H b=some u->¬o8 (some u)->b≠x:=λb u q nm z=>by subst z;rw[q]at mu;exact nm mu
 refine⟨λb u q n _ _=>k b u (hb b n) q,λb u q n _ _=>⟨u.slots,k b u (hb b n) q⟩,λb u q n _=>by rw[Aa (hx b n)];exact n,λb u q _=>?_,
  λb xs q=>by rw[Aa (hm b _ q λz=>z)];exact q,λb u xs q=>by rw[Aa (hm b _ q λz=>z)];exact q,λb ps q=>⟨#[],by rw[Aa (hm b _ q λz=>z),q];simp⟩⟩
 by_cases hbe:b=e
 ·subst hbe;exact heo
 exact⟨u,k b u hbe q⟩
end
def mY(h:Heap)(H:Hp):List Addr:=(List.range h.objs.size).filter λa=>(H a).isSome
def GR(h:Heap)(H:Hp):Heap:=PySem.W.hideAll h (mY h H)
def Qg(h:Heap)(H:Hp):(GR h H).objs.size=h.objs.size:=PySem.W.hideAll_size _ _
def SJ(e:h.get? b=some o)(n:H b=none):(GR h H).get? b=some o:=
 PySem.W.hideAll_get _ e λhm=>by
  have q:=(dJ.mp hm).2;rw[n]at q;simp at q
def Ou(e:(GR h H).get? b=some o):h.get? b=some o/\H b=none:=by
 have e':h.get? b=some o:=PySem.W.of_hideAll (mY h H) e;refine⟨e',?_⟩;cases q:H b with
 |none=>rfl
 |some x=>
  have hm:b∈mY h H:=dJ.mpr ⟨gE.mpr (aK e'),by simp[q]⟩;have z:(GR h H).get? b=none:=PySem.W.hideAll_none (mY h H) hm;rw[z]at e;cases e
def WK(g h:Heap)(L:Addr):List (Addr×Obj):=(List.range h.objs.size).filterMap λa=>if a=L\/(g.get? a).isSome=true then none else(h.get? a).map λo=>(a,o)
def rest(g h:Heap)(L d:Addr):List (Addr×Obj):=(WK g h L).filter λp=>decide (p.1≠d)
end L2
namespace L2
open PySem PySem.Spec PyProof.Rows
structure Mod(K:Frag)(mg:Str->Option Value)(base:Heap):Prop where
 kin:K.In base
 glob:base.Ns mainGlobals mg
 blt:∃mb,base.Ns builtinsNs mb/\∀x:Str,x≠ "__name__"->mb x=bootBuiltins x
 nolimit:base.NoLimit
structure Cx where
 prog:Program
 w:World
 K:Frag
 mg:Str->Option Value
 base:Heap
 A:Around
 N:List Str
 s₀:Shared
 H₀:Hp
 env:Env
 outer:List Env
 stack:List Env
 ex:List Addr
 fn:Str->Bool
 calm:Bool
 pn:List (Addr×Obj)
 xe:Value->Shared->Prop
def Dw(l:List Env):List Addr:=l.filterMap (·.frame)
abbrev Cx.fs(X:Cx):List Addr:=Dw X.outer
def QI(sc:Scope)(x:Str):Prop:=sc.names.lookup x=some .local\/sc.names.lookup x=some .cell\/sc.names.lookup x=some .free
def Uo(sc:Scope)(x:Str):Prop:=sc.names.lookup x=some .local\/sc.names.lookup x=some .cell
def tL(env:Env)(h:Heap)(m:Str->Option Value)(x:Str)(u:Value):Prop:=
 (env.kindOf x=some .local/\m x=some u)\/((env.kindOf x=some .cell\/env.kindOf x=some .free)/\∃c,env.cells.lookup x=some c/\h.IsCell c (some u))
structure Cx.Ok(X:Cx):Prop where
 mod:Mod X.K X.mg X.base
 kind:X.env.scope.kind=.function
 glob:X.env.globals=mainGlobals
 blt:X.env.builtins=builtinsNs
 above:X.s₀.heap.objs.size<=X.env.locals
 inj:∀x y c,X.env.cells.lookup x=some c->X.env.cells.lookup y=some c->x=y
 has:∀x,(X.env.kindOf x=some .cell\/X.env.kindOf x=some .free)->∃c,X.env.cells.lookup x=some c
 cab:∀x c,X.fn x=true->X.env.cells.lookup x=some c->X.s₀.heap.objs.size<=c
 hd:X.calm=true->X.A.handled=none
 frames:X.A.frames=some X.stack
 stk:X.stack=X.outer\/(X.stack=X.env::X.outer/\X.env.frame=some X.env.locals)
 exf:∀b∈X.ex,b≠X.env.locals/\∀x c,X.env.cells.lookup x=some c->c≠b
 bs:∀b o,X.base.get? b=some o->X.s₀.heap.get? b=some o/\X.H₀ b=none
 bsz:X.base.objs.size<=X.s₀.heap.objs.size
 noex:∀b o,X.base.get? b=some o->b∉X.ex
 exfs:∀b∈X.ex,b∉X.fs
 funs:X.s₀.heap.FunFrames X.base X.outer
 frf:∀b∈X.fs,X.H₀ b=none
structure Ae(X:Cx)(pins:List (Addr×Obj))(σ:List (Option V))(H:Hp)(s:Shared):Prop where
 ok:X.Ok
 os:s.os=X.s₀.os
 bare:AllBare s.gens
 base:Un X.fs X.ex X.H₀ H X.s₀.heap s.heap
 loc:∃m,s.heap.Ns X.env.locals m/\∀(i:Nat) (x:Str) (v:V),X.N[i]?=some x->σ[i]?=some (some v)->QI X.env.scope x->∃u,AA v u/\tL X.env s.heap m x u
 cell:∀x c,X.env.cells.lookup x=some c->∃v,s.heap.IsCell c v
 free:H X.env.locals=none
 freeC:∀x c,X.env.cells.lookup x=some c->H c=none
 pin:∀p∈X.pn++pins,s.heap.get? p.1=some p.2/\H p.1=none/\p.1≠X.env.locals/\p.1∉X.fs/\∀v,p.2.data≠ .cell v
 hok:D9 X.prog X.w H s.heap
 len:σ.length=X.N.length
section
variable {X:Cx}{pins:Pq}{σ:List (Option V)}{H H':Hp}{s:Shared}
def Cx.Ok.nofr(ok:X.Ok)(e:X.base.get? b=some o):b∉X.fs:=λhb=>by
 have:=(ok.funs.mem hb).1;rw[e]at this;cases this
theorem Ae.bs(I:Ae X pins σ H s):∀b o,X.base.get? b=some o->s.heap.get? b=some o/\H b=none:=λb o e=>
 ⟨I.base.keep b o (I.ok.bs b o e).1 (I.ok.bs b o e).2 (I.ok.nofr e) (I.ok.noex b o e),I.base.free b o (I.ok.bs b o e).1 (I.ok.bs b o e).2 (I.ok.noex b o e)⟩
def Ae.bk(I:Ae X pins σ H s):∀b o,X.base.get? b=some o->s.heap.get? b=some o:=λb o e=>(I.bs b o e).1
theorem Ae.mod(I:Ae X pins σ H s):Mod X.K X.mg X.base:=I.ok.mod
def Ae.kIn(I:Ae X pins σ H s):X.K.In s.heap:=I.ok.mod.kin.keeps I.bk
theorem Ae.lt(I:Ae X pins σ H s):X.env.locals<s.heap.objs.size:=let ⟨_,hn,_⟩:=I.loc;hn.lt
def Ae.sz(I:Ae X pins σ H s):X.s₀.heap.objs.size<=s.heap.objs.size:=b9 I.ok.above (eP I.lt)
def Ae.nofs(I:Ae X pins σ H s)(h:s.heap.objs.size<=a):a∉X.fs:=λhb=>by
 obtain⟨_,o,ho,_⟩:=I.ok.funs.mem hb;exact absurd (aO (aK ho) (b9 I.sz h)) (bJ _)
def Ae.cne(I:Ae X pins σ H s):∀x c,X.env.cells.lookup x=some c->c≠X.env.locals:=λx c e z=>by
 obtain⟨v,o,ho,hd⟩:=I.cell x c e;obtain⟨m,⟨o',es,ep,ho',hd',_⟩,_⟩:=I.loc;rw[z,ho']at ho;cases ho;rw[hd']at hd;cases hd
theorem Ae.funs(I:Ae X pins σ H s):s.heap.FunFrames X.base X.outer:=by
 have all:∀l,(∀b∈Dw l,b∈X.fs)->X.s₀.heap.FunFrames X.base l->s.heap.FunFrames X.base l:=by
  intro l
  induction l with
  |nil=>intro _ _;trivial
  |cons env r ih=>
   intro hs hl;obtain⟨hk,⟨L,o,hf,hn,ho,hd⟩,hr⟩:=hl;have hL:=hs L (by unfold Dw;rw[dC,hf];exact aF);obtain⟨sl,e⟩:=I.base.slot L o ho (I.ok.frf L hL) hL λz=>I.ok.exfs L z hL;exact⟨hk,⟨L,_,hf,hn,e,hd⟩,ih (λb hb=>hs b (by unfold Dw;rw[dC,hf];exact aD _ hb)) hr⟩
 exact all X.outer (λ_ hb=>hb) I.ok.funs
theorem Ae.stack(I:Ae X pins σ H s):s.heap.FunFrames X.base X.stack:=by
 rcases I.ok.stk with e|⟨e,hf⟩
 ·rw[e];exact I.funs
 rw[e];obtain⟨m,hn,_⟩:=I.loc;refine .cons (by rw[I.ok.kind];decide) hf hn ?_ I.funs;exact Heap.get?_none_of_le (b9 I.ok.bsz I.ok.above)
def Ae.stkSub(I:Ae X pins σ H s):∀b∈Dw X.stack,b∈X.env.locals::X.fs:=λb hb=>by
 rcases I.ok.stk with e|⟨e,hf⟩
 ·rw[e]at hb;exact aD _ hb
 rw[e]at hb;unfold Dw at hb;rw[dC,hf]at hb;exact hb
def Ae.stkFree(I:Ae X pins σ H s):∀b∈Dw X.stack,H b=none:=λb hb=>by
 rcases aH.mp (I.stkSub b hb) with e|hb
 ·rw[e];exact I.free
 obtain⟨_,o,ho,_⟩:=I.ok.funs.mem hb;exact I.base.free b o ho (I.ok.frf b hb) λz=>I.ok.exfs b z hb
def Ae.step{t':Nat}{ch:List Addr}(I:Ae X pins σ H s)
 (hch:∀b∈ch,(b∈X.ex\/X.s₀.heap.objs.size<=b)/\b≠X.env.locals/\(∀x c,X.env.cells.lookup x=some c->c≠b)/\∀p∈X.pn++pins,p.1≠b)
 (keep:∀b o,b≠X.env.locals->b∉X.fs->b∉ch->s.heap.get? b=some o->H b=none->h'.get? b=some o)
 (slot:∀b o,b≠X.env.locals->b∈X.fs->b∉ch->s.heap.get? b=some o->H b=none->∃sl,h'.get? b=some {o with slots:=sl})(free:∀b o,b∉ch->s.heap.get? b=some o->H b=none->H' b=none)
 (there:∀b o,b∉ch->s.heap.get? b=some o->∃o',h'.get? b=some o')
 (tups:∀b xs,H b=some (.tup xs)->H' b=some (.tup xs))(frzs:∀b o u,H b=some (.frz o u)->H' b=some (.frz o u))(tbls:∀b ps,H b=some (.tbl ps)->∃more,H' b=some (.tbl (ps++more)))
 (ns:∀m,s.heap.Ns X.env.locals m->h'.Ns X.env.locals m)(hok:D9 X.prog X.w H' h')(hg:AllBare g') :
 Ae X pins σ H' {s with heap:=h',gens:=g',drawn:=d',toks:=t'}:=by
 have neL:∀b o,X.s₀.heap.get? b=some o->b≠X.env.locals:=λb o e=>aQ (aO (aK e) I.ok.above);have neC:∀b o,X.s₀.heap.get? b=some o->b∉X.ex->b∉ch:=λb o e hx hb=>by
  rcases(hch b hb).1 with z|z
  ·exact hx z
  exact absurd (aO (aK e) z) (bJ _)
 have cellK:∀x c,X.env.cells.lookup x=some c->∀v,s.heap.IsCell c v->h'.IsCell c v:=λx c e v ⟨o,ho,hd⟩=>by
  have nch:c∉ch:=λz=>(hch c z).2.2.1 x c e rfl;by_cases hc:c∈X.fs
  ·obtain⟨sl,q⟩:=slot c o (I.cne x c e) hc nch ho (I.freeC x c e);exact⟨_,q,hd⟩
  exact⟨o,keep c o (I.cne x c e) hc nch ho (I.freeC x c e),hd⟩
 refine⟨I.ok,I.os,hg,⟨λb o e n hb hx=>?_,λb o e n hb hx=>?_,λb o e n hx=>?_,λb o e hx=>?_,λb xs e=>tups b xs (I.base.tups b xs e),λb o xs e=>frzs b o xs (I.base.frzs b o xs e),λb ps e=>?_⟩,?_,λx c e=>?_,?_,λx c e=>?_,λp hp=>?_,hok,I.len⟩
 ·exact keep b o (neL b o e) hb (neC b o e hx) (I.base.keep b o e n hb hx) (I.base.free b o e n hx)
 ·obtain⟨sl,e1⟩:=I.base.slot b o e n hb hx;obtain⟨sl',e2⟩:=slot b _ (neL b o e) hb (neC b o e hx) e1 (I.base.free b o e n hx);exact⟨sl',e2⟩
 ·obtain⟨o',e1⟩:=I.base.there b o e hx;exact free b o' (neC b o e hx) e1 (I.base.free b o e n hx)
 ·obtain⟨o',e1⟩:=I.base.there b o e hx;exact there b o' (neC b o e hx) e1
 ·obtain⟨m1,e1⟩:=I.base.tbls b ps e;obtain⟨m2,e2⟩:=tbls b _ e1;exact⟨m1++m2,by rw[e2,Array.append_assoc]⟩
 ·obtain⟨m,hn,hl⟩:=I.loc;refine⟨m,ns m hn,λi x v e1 e2 e3=>?_⟩;obtain⟨u,r,l⟩:=hl i x v e1 e2 e3;refine⟨u,r,?_⟩;rcases l with l|⟨k,c,e,z⟩
  ·exact .inl l
  exact .inr ⟨k,c,e,cellK x c e _ z⟩
 ·obtain⟨v,z⟩:=I.cell x c e;exact⟨v,cellK x c e v z⟩
 ·obtain⟨m,⟨o,_,_,ho,_⟩,_⟩:=I.loc;exact free _ o (λz=>(hch _ z).2.1 rfl) ho I.free
 ·obtain⟨v,o,ho,hd⟩:=I.cell x c e;exact free c o (λz=>(hch c z).2.2.1 x c e rfl) ho (I.freeC x c e)
 obtain⟨e,n,ne,nf,d⟩:=I.pin p hp;have nch:p.1∉ch:=λz=>(hch p.1 z).2.2.2 p hp rfl;exact⟨keep p.1 p.2 ne nf nch e n,free p.1 p.2 nch e n,ne,nf,d⟩
def Ae.un{t':Nat}(I:Ae X pins σ H s)(u:Un X.fs [] H H' s.heap h')(hok:D9 X.prog X.w H' h'):Ae X pins σ H' {s with heap:=h',toks:=t'}:=by
 obtain⟨m,⟨o,es,ep,ho,r⟩,_⟩:=id I.loc;obtain⟨sl,hL⟩:=u.any ho I.free (by simp);exact I.step (g':=s.gens) (d':=s.drawn) (ch:=[]) (λ_ z=>nomatch z) (λb o _ hb _ e n=>u.keep b o e n hb (by simp)) (λb o _ hb _ e n=>u.slot b o e n hb (by simp)) (λb o _ e n=>u.free b o e n (by simp)) (λb o _ e=>u.there b o e (by simp)) u.tups u.frzs u.tbls (λm' hm=>by
  obtain⟨o',es',ep',ho',r'⟩:=hm;rw[ho]at ho';cases ho';exact⟨_,es',ep',hL,r'⟩) hok I.bare
def Ae.call{t':Nat}{ch:List Addr}(I:Ae X pins σ H s)(u:Un (Dw X.stack) ch H H' s.heap h')(hok:D9 X.prog X.w H' h')(hg:AllBare g')
 (hch:∀b∈ch,(b∈X.ex\/X.s₀.heap.objs.size<=b)/\b≠X.env.locals/\(∀x c,X.env.cells.lookup x=some c->c≠b)/\∀p∈X.pn++pins,p.1≠b) :
 Ae X pins σ H' {s with heap:=h',gens:=g',drawn:=d',toks:=t'}:=by
 obtain⟨m,⟨o,es,ep,ho,r⟩,_⟩:=id I.loc;obtain⟨sl,hL⟩:=u.any ho I.free λz=>(hch _ z).2.1 rfl;exact I.step (ch:=ch) hch (λb o hL hb hc e n=>u.keep b o e n (λz=>(aH.mp (I.stkSub b z)).elim hL hb) hc) (λb o _ _ hc e n=>u.any e n hc) (λb o hc e n=>u.free b o e n hc) (λb o hc e=>u.there b o e hc) u.tups u.frzs u.tbls (λm' hm=>by
  obtain⟨o',es',ep',ho',r'⟩:=hm;rw[ho]at ho';cases ho';exact⟨_,es',ep',hL,r'⟩) hok hg
def Ae.turned{t':Nat}{it:Addr}(I:Ae X pins σ H s)(k:∀b o,b≠it->s.heap.get? b=some o->h'.get? b=some o)(hn:H it=none)(hL:it≠X.env.locals)
 (h1:it∈X.ex\/X.s₀.heap.objs.size<=it)(h2:∀x c,X.env.cells.lookup x=some c->c≠it)(h3:∀p∈X.pn++pins,p.1≠it):Ae X pins σ H {s with heap:=h',toks:=t'}:=by
 have nit:∀b u,H b=some u->b≠it:=λb u e z=>by rw[z,hn]at e;cases e
 refine I.step (g':=s.gens) (d':=s.drawn) (ch:=[it]) (λb hb=>?_) (λb o _ _ hc e _=>k b o (λz=>hc (by simp[z])) e) (λb o _ _ hc e _=>⟨o.slots,k b o (λz=>hc (by simp[z])) e⟩) (λ_ _ _ _ n=>n)
  (λb o hc e=>⟨o,k b o (λz=>hc (by simp[z])) e⟩) (λ_ _ e=>e) (λ_ _ _ e=>e) (λb ps e=>⟨#[],by rw[e];simp⟩) (λm hm=>?_) (λb u e=>?_) I.bare
 ·have e:b=it:=by simpa using hb
  subst e;exact⟨h1,hL,h2,h3⟩
 ·obtain⟨o,es,ep,ho,r⟩:=hm;exact⟨o,es,ep,k _ o (bL hL) ho,r⟩
 refine(I.hok b u e).stay (λc v hc q=>k c v ?_ q) (λ_ q=>q) λ_ _ q=>q;rcases hc with z|z
 ·rw[z];exact nit b u e
 exact nit c _ z
def Ae.tok(I:Ae X pins σ H s)(t:Nat):Ae X pins σ H {s with toks:=t}:=I.un (h':=s.heap) (t':=t) Un.refl I.hok
theorem Ae.kept{t':Nat}(I:Ae X pins σ H s)(k:∀b u,s.heap.get? b=some u->h'.get? b=some u):Ae X pins σ H {s with heap:=h',toks:=t'}:=I.un (Un.kept k) (I.hok.kept k)
theorem Ae.laid{t':Nat}(I:Ae X pins σ H s)(k:∀b u,s.heap.get? b=some u->h'.get? b=some u)(hp:s.heap.objs.size<=a)(new:AN X.prog X.w (upd H a o) h' a o) :
 Ae X pins σ (upd H a o) {s with heap:=h',toks:=t'}:=I.un (Un.laid k hp (I.hok.fresh hp)) (I.hok.laid k hp new)
theorem Ae.write{t':Nat}(I:Ae X pins σ H s)(mu:o8 (H x))(he:e=x\/H e=some (.own x))(k:∀b u,b≠e->s.heap.get? b=some u->h'.get? b=some u)(heo:∃u,h'.get? e=some u)
 (new:AN X.prog X.w (upd H x o) h' x o):Ae X pins σ (upd H x o) {s with heap:=h',toks:=t'}:=I.un (Un.write mu he k heo) (I.hok.write mu he k heo new)
def Ae.pins_of(I:Ae X pins σ H s)(h:∀p∈pins',s.heap.get? p.1=some p.2/\H p.1=none/\p.1≠X.env.locals/\p.1∉X.fs/\∀v,p.2.data≠ .cell v):Ae X pins' σ H s:=
 ⟨I.ok,I.os,I.bare,I.base,I.loc,I.cell,I.free,I.freeC,λp hp=>(bC.mp hp).elim (λz=>I.pin p (bF _ z)) (h p),I.hok,I.len⟩
def C2{N:List Str}(hN:N.Nodup){i j:Nat}{x:Str}(a:N[i]?=some x)(b:N[j]?=some x):i=j:=by
 obtain⟨h1,e1⟩:=aE.mp a;obtain⟨h2,e2⟩:=aE.mp b;exact(List.getElem_inj hN).mp (e1.trans e2.symm)
def IS{i:Nat}{x:Str}(I:Ae X pins σ H s)(hN:X.N.Nodup)(hi:X.N[i]?=some x)(hx:Uo X.env.scope x)(r:AA v u)
 (h:∀s',Ae X pins (σ.set i (some v)) H s'->(∃a,Heap.SameBut a s.heap s'.heap/\(a=X.env.locals\/X.env.cells.lookup x=some a))->Q () s')(hf:X.fn x=true\/X.env.scope.names.lookup x=some .local:=by first|exact .inl rfl|exact .inr rfl|assumption):wpAny M A (storeName X.env x u) Q E s:=by
 obtain⟨m,hn,hl⟩:=id I.loc;have hcls:(X.env.scope.kind== .class||(X.env.scope.kind== .module&&X.env.locals !=X.env.globals))=false:=by rw[I.ok.kind];rfl
 have hiσ:i<σ.length:=by rw[I.len];exact(aE.mp hi).1
 have cne:=I.cne;have tracked:∀{a:Addr}{h':Heap},(∃o,s.heap.get? a=some o/\H a=none)->Heap.SameBut a s.heap h'->D9 X.prog X.w H h':=λ{a h'} ha hs b ob e=>by
  obtain⟨_,_,hfree⟩:=ha;refine(I.hok b ob e).stay (λc w' hc q=>(hs.2 c ?_).trans q) (λ_ q=>q) λ_ _ q=>q;rintro rfl;rcases hc with rfl|hc
  ·rw[hfree]at e;cases e
  rw[hfree]at hc;cases hc
 rcases hx with hk|hk
 ·refine wpAny_storeName_local hk hn (λh' hn' hs=>?_) hcls;obtain⟨oL,_,_,hoL,_⟩:=id hn;refine h _ ⟨I.ok,I.os,I.bare,⟨λb o e n hb hx=>?_,λb o e n hb hx=>?_,I.base.free,λb o e hx=>?_,I.base.tups,I.base.frzs,I.base.tbls⟩,⟨_,hn',λj y v' e1 e2 e3=>?_⟩,λy c e=>?_,I.free,I.freeC,λp hp=>?_,tracked ⟨oL,hoL,I.free⟩ hs,by simpa using I.len⟩ ⟨_,hs,.inl rfl⟩
  ·exact(hs.2 b (aQ (aO (aK e) I.ok.above))).trans (I.base.keep b o e n hb hx)
  ·obtain⟨sl,e1⟩:=I.base.slot b o e n hb hx;exact⟨sl,(hs.2 b (aQ (aO (aK e) I.ok.above))).trans e1⟩
  ·obtain⟨o',e1⟩:=I.base.there b o e hx;exact⟨o',(hs.2 b (aQ (aO (aK e) I.ok.above))).trans e1⟩
  ·by_cases hj:j=i
   ·subst hj;rw[hi]at e1;cases e1;rw[eN hiσ]at e2;cases e2;exact⟨u,r,.inl ⟨hk,by simp⟩⟩
   rw[bI (bL hj)]at e2;obtain⟨u',r',q⟩:=hl j y v' e1 e2 e3;refine⟨u',r',?_⟩;rcases q with⟨k,e⟩|⟨k,c,e,z⟩
   ·refine .inl ⟨k,?_⟩;have:y≠x:=λe=>hj (C2 hN e1 (e▸hi));simp[this,e]
   exact .inr ⟨k,c,e,z.sameBut hs (cne y c e)⟩
  ·obtain⟨w',z⟩:=I.cell y c e;exact⟨w',z.sameBut hs (cne y c e)⟩
  obtain⟨e,n,ne,nf,d⟩:=I.pin p hp;exact⟨(hs.2 p.1 ne).trans e,n,ne,nf,d⟩
 have hfn:X.fn x=true:=by
  rcases hf with z|z
  ·exact z
  rw[z]at hk;cases hk
 obtain⟨c,hc⟩:=I.ok.has x (.inl hk);obtain⟨w',z⟩:=I.cell x c hc;refine wpAny_storeName_cell I.ok.kind hk hc z (λh' hc' hs=>?_);obtain⟨oc,hoc,hocd⟩:=id z;refine h {s with heap:=h'} ⟨I.ok,I.os,I.bare,⟨λb o e n hb hx=>?_,λb o e n hb hx=>?_,I.base.free,λb o e hx=>?_,I.base.tups,I.base.frzs,I.base.tbls⟩,⟨m,hn.sameBut hs (bL (cne x c hc)),λj y v' e1 e2 e3=>?_⟩,λy c' e=>?_,I.free,I.freeC,λp hp=>?_,tracked ⟨oc,hoc,I.freeC x c hc⟩ hs,by simpa using I.len⟩ ⟨c,hs,.inr hc⟩
 ·exact(hs.2 b (aQ (aO (aK e) (I.ok.cab x c hfn hc)))).trans (I.base.keep b o e n hb hx)
 ·obtain⟨sl,e1⟩:=I.base.slot b o e n hb hx;exact⟨sl,(hs.2 b (aQ (aO (aK e) (I.ok.cab x c hfn hc)))).trans e1⟩
 ·obtain⟨o',e1⟩:=I.base.there b o e hx;exact⟨o',(hs.2 b (aQ (aO (aK e) (I.ok.cab x c hfn hc)))).trans e1⟩
 ·by_cases hj:j=i
  ·subst hj;rw[hi]at e1;cases e1;rw[eN hiσ]at e2;cases e2;exact⟨u,r,.inr ⟨.inl hk,c,hc,hc'⟩⟩
  rw[bI (bL hj)]at e2;obtain⟨u',r',q⟩:=hl j y v' e1 e2 e3;refine⟨u',r',?_⟩;rcases q with q|⟨k,c',e,z'⟩
  ·exact .inl q
  refine .inr ⟨k,c',e,z'.sameBut hs ?_⟩;rintro rfl;exact hj (C2 hN e1 (I.ok.inj _ _ _ e hc▸hi))
 ·by_cases hcc:c'=c
  ·subst hcc;exact⟨_,hc'⟩
  obtain⟨w2,z2⟩:=I.cell y c' e;exact⟨w2,z2.sameBut hs hcc⟩
 obtain⟨e,n,ne,nf,d⟩:=I.pin p hp;refine⟨(hs.2 p.1 ?_).trans e,n,ne,nf,d⟩;intro q;rw[q,hoc]at e;have q':oc=p.2:=bM e;exact d w' (by rw[←q'];exact hocd)
def F0{i:Nat}{x:Str}(I:Ae X pins σ H s)(hN:X.N.Nodup)(hi:X.N[i]?=some x)(hx:Uo X.env.scope x)(r:AA v u)
 (h:∀s',Ae X pins (σ.set i (some v)) H s'->Q () s')(hf:X.fn x=true\/X.env.scope.names.lookup x=some .local:=by first|exact .inl rfl|exact .inr rfl|assumption):wpAny M A (storeName X.env x u) Q E s:=
 IS I hN hi hx r (λs' I' _=>h s' I') hf
def Ae.call'(I:Ae X pins σ H s)(ho:s'.os=s.os)(u:Un (Dw X.stack) ch H H' s.heap s'.heap)(hok:D9 X.prog X.w H' s'.heap)(hg:AllBare s'.gens)
 (hch:∀b∈ch,(b∈X.ex\/X.s₀.heap.objs.size<=b)/\b≠X.env.locals/\(∀x c,X.env.cells.lookup x=some c->c≠b)/\∀p∈X.pn++pins,p.1≠b):Ae X pins σ H' s':=by
 obtain⟨h',g',d',t',o'⟩:=s';have e:=ho;subst e;exact I.call (g':=g') (t':=t') (d':=d') u hok hg hch
end
abbrev XK:=Value->Option Addr->Hp->Prop
abbrev St:=List (Option V)
abbrev VK:=V->Hp->Prop
abbrev TE:=St->Hp->VK->Prop
abbrev TT:=St->Hp->(Bool->Hp->Prop)->Prop
abbrev TA:=St->Hp->(List V->Hp->Prop)->Prop
structure Io where
 nx:St->Hp->Prop
 rt:VK
 bk:St->Hp->Prop:=λ_ _=>False
 ct:St->Hp->Prop:=λ_ _=>False
abbrev TS:=Io->St->Hp->Prop
inductive EP(X:Cx)(pins:List (Addr×Obj))(σ:St)(Q:VK)(u:Value)(s':Shared):Prop
 |mk (v:V) (H':Hp) (a:Ae X pins σ H' s') (b:AA v u) (c:Q v H')
def TP(X:Cx)(pins:List (Addr×Obj))(σ:St)(Q:Bool->Hp->Prop)(b:Bool)(s':Shared):Prop:=∃H',Ae X pins σ H' s'/\Q b H'
inductive AP(X:Cx)(pins:List (Addr×Obj))(σ:St)(Q:List V->Hp->Prop)(us:List Value)(s':Shared):Prop
 |mk (vs:List V) (H':Hp) (a:Ae X pins σ H' s') (b:Aq vs us) (c:Q vs H')
def SP(X:Cx)(pins:List (Addr×Obj))(D:Io)(f:Flow)(s':Shared):Prop:=
 match f with
 |.next=>∃σ' H',Ae X pins σ' H' s'/\D.nx σ' H'
 |.brk=>∃σ' H',Ae X pins σ' H' s'/\D.bk σ' H'
 |.cont=>∃σ' H',Ae X pins σ' H' s'/\D.ct σ' H'
 |.ret u=>E3 λv σ' H'=>A3 (Ae X pins σ' H' s') (AA v u) (D.rt v H')
def PE(X:Cx)(e:Expr)(t:TE):Prop:=
 ∀(pins:List (Addr×Obj)) (s:Shared) (σ:St) (H:Hp) (Q:VK),Ae X pins σ H s->t σ H Q->wpAny (model X.prog X.w) X.A (eval e X.env) (EP X pins σ Q) X.xe s
def PT(X:Cx)(e:Expr)(t:TT):Prop:=
 ∀(pins:List (Addr×Obj)) (s:Shared) (σ:St) (H:Hp) (Q:Bool->Hp->Prop),Ae X pins σ H s->t σ H Q->wpAny (model X.prog X.w) X.A (isTrue e X.env (eval e X.env)) (TP X pins σ Q) X.xe s
def PW(X:Cx)(e:Expr)(t:TT):Prop:=
 ∀(whole:Sem Value) (pins:List (Addr×Obj)) (s:Shared) (σ:St) (H:Hp) (Q:Bool->Hp->Prop),Ae X pins σ H s->t σ H Q->wpAny (model X.prog X.w) X.A (isTrue e X.env whole) (TP X pins σ Q) X.xe s
def PW.pt(h:PW X e t):PT X e t:=h _
def PA(X:Cx)(es:List Expr)(t:TA):Prop:=
 ∀(pos:Pos) (pins:List (Addr×Obj)) (s:Shared) (σ:St) (H:Hp) (Q:List V->Hp->Prop),Ae X pins σ H s->t σ H Q->wpAny (model X.prog X.w) X.A (spliced (backTo pos (starEach es X.env))) (AP X pins σ Q) X.xe s
def PS(X:Cx)(st:Stmt)(t:TS):Prop:=
 ∀(pins:List (Addr×Obj)) (s:Shared) (σ:St) (H:Hp) (D:Io),Ae X pins σ H s->t D σ H->wpAny (model X.prog X.w) X.A (exec st X.env) (SP X pins D) X.xe s
def Df(X:Cx)(st:List Stmt)(t:TS):Prop:=
 ∀(pins:List (Addr×Obj)) (s:Shared) (σ:St) (H:Hp) (D:Io),Ae X pins σ H s->t D σ H->wpAny (model X.prog X.w) X.A (execs st X.env) (SP X pins D) X.xe s
def Bg{α:Type}{t:Sem α}{Q Q':α->Shared->Prop}{M:Model}{A:Around}{E:Vq}{s:Shared}(h:wpAny M A t Q E s)(hQ:∀a s,Q a s->Q' a s):wpAny M A t Q' E s:=bN h hQ λ_ _ x=>x
end L2
namespace L2
open PySem PySem.Spec PyProof.Rows
section
variable {X:Cx}
def iP(i:Nat):TE:=λσ H Q=>∃v,σ[i]?=some (some v)/\Q v H
def tC(v:V):TE:=λ_ H Q=>Q v H
def Gi{i:Nat}{x:Str}(hN:X.N[i]?=some x)(hv:QI X.env.scope x)(hd:(x ==("__debug__" :Str))=false:=by decide)(hcd:(x ==("__classdict__" :Str))=false:=by decide):PE X (.Name x pos) (iP i):=by
 intro pins s σ H Q I h;obtain⟨v,e,h⟩:=h;obtain⟨m,hn,hl⟩:=I.loc;obtain⟨u,r,l⟩:=hl i x v hN e hv;have fin:EP X pins σ Q u s:=⟨v,H,I,r,h⟩;rcases l with⟨hk,hm⟩|⟨hk,c,hc,hcell⟩
 ·exact wpAny_Name (wpAny_loadName_local I.ok.kind hk hn hm fin) hd
 rcases hk with hk|hk
 ·exact wpAny_Name (wpAny_loadName_cell I.ok.kind hk hc hcell fin) hd
 exact wpAny_Name (wpAny_loadName_free I.ok.kind hk hc hcell fin hcd) hd
def Z0{i j pos}:PE X (.Constant (.int i) j pos) (tC (.int i)):=λ_ _ _ H _ I h=>wpAny_Constant_int ⟨.int i,H,I.tok _,⟨_,rfl⟩,h⟩
def jT{b j pos}:PE X (.Constant (.bool b) j pos) (tC (.bl b)):=λ_ _ _ H _ I h=>Constant_bool ⟨.bl b,H,I,rfl,h⟩
def Zy{j pos}:PE X (.Constant .none j pos) (tC .non):=λ_ _ _ H _ I h=>Constant_none ⟨.non,H,I,rfl,h⟩
def RL{x j pos}:PE X (.Constant (.str x) j pos) (tC (.str x)):=λ_ _ _ H _ I h=>Calls.Constant_str ⟨.str x,H,I.tok _,⟨_,rfl⟩,h⟩
def Gl(X:Cx)(x:Str):Prop:=X.env.kindOf x=some .globalImplicit
def Cp{x:Str}(I:Ae X pins σ H s)(hg:Gl X x)(hm:X.mg x=some u)(h:Q u s)
 (hd:(x ==("__debug__" :Str))=false:=by decide):wpAny (model X.prog X.w) X.A (eval (.Name x pos) X.env) Q E s:=
 gO I.ok.kind hg (Calls.loadGlobal_global (by rw[I.ok.glob];exact I.mod.glob.keeps I.bk) hm h) hd
def Ed{x:Str}(I:Ae X pins σ H s)(hg:Gl X x)(hm:X.mg x=none)(hv:bootBuiltins x=some u)(h:Q u s)
 (hn:x≠ "__name__":=by decide)(hd:(x ==("__debug__" :Str))=false:=by decide):wpAny (model X.prog X.w) X.A (eval (.Name x pos) X.env) Q E s:=by
 obtain⟨mb,h1,h2⟩:=I.mod.blt;exact gO I.ok.kind hg (Calls.loadGlobal_builtin (by rw[I.ok.glob];exact I.mod.glob.keeps I.bk) hm (by rw[I.ok.blt];exact h1.keeps I.bk) ((h2 x hn).trans hv) h) hd
def FC{x:Str}(hg:Gl X x)(hm:X.mg x=some u)(r:AA v u)(hd:(x ==("__debug__" :Str))=false:=by decide):PE X (.Name x pos) (tC v):=
 λ_ _ _ H _ I h=>Cp I hg hm ⟨v,H,I,r,h⟩ hd
def Vv{x:Str}(hg:Gl X x)(hm:X.mg x=none)(hv:bootBuiltins x=some u)(r:AA v u)(hn:x≠ "__name__":=by decide)(hd:(x ==("__debug__" :Str))=false:=by decide):PE X (.Name x pos) (tC v):=
 λ_ _ _ H _ I h=>Ed I hg hm hv ⟨v,H,I,r,h⟩ hn hd
variable {a b:Expr}{ta tb:TE}{pos:Pos}
variable {tA tB':TT}{rest:List Expr}
def qc(t u:TT):TT:=λσ H Q=>t σ H λc H1=>if c=true then u σ H1 Q else Q false H1
def wV(t u:TT):TT:=λσ H Q=>t σ H λc H1=>if c=true then Q true H1 else u σ H1 Q
def pV(t:TT):TT:=λσ H Q=>t σ H λc H1=>Q (!c) H1
def UU(ha:PT X a tA):PW X (.BoolOp .And [a] pos) tA:=by
 intro wh pins s σ H Q I h;refine isTrue_and (Bg (ha pins s σ H Q I h) λc s1 e=>?_);cases c with
 |true=>exact isTrue_and_nil e
 |false=>exact e
def Zg(ha:PT X a tA):PW X (.BoolOp .Or [a] pos) tA:=by
 intro wh pins s σ H Q I h;refine isTrue_or (Bg (ha pins s σ H Q I h) λc s1 e=>?_);cases c with
 |false=>exact isTrue_or_nil e
 |true=>exact e
def Zh(ha:PT X a tA)(hb:PW X (.BoolOp .And (b::rest) pos) tB'):PW X (.BoolOp .And (a::b::rest) pos) (qc tA tB'):=by
 intro wh pins s σ H Q I h;refine isTrue_and (Bg (ha pins s σ H _ I h) λc s1 ⟨H1,I1,q1⟩=>?_);cases c with
 |true=>exact hb wh pins s1 σ H1 Q I1 q1
 |false=>exact⟨H1,I1,q1⟩
def jL(ha:PT X a tA)(hb:PW X (.BoolOp .Or (b::rest) pos) tB'):PW X (.BoolOp .Or (a::b::rest) pos) (wV tA tB'):=by
 intro wh pins s σ H Q I h;refine isTrue_or (Bg (ha pins s σ H _ I h) λc s1 ⟨H1,I1,q1⟩=>?_);cases c with
 |true=>exact⟨H1,I1,q1⟩
 |false=>exact hb wh pins s1 σ H1 Q I1 q1
def Zi(ha:PT X a tA):PT X (.UnaryOp .Not a pos) (pV tA):=by
 intro pins s σ H Q I h;exact isTrue_not (ha pins s σ H (λc H1=>Q (!c) H1) I h)
def je(ta tb:TE):TE:=λσ H Q=>ta σ H λx H1=>∃c,x=.bl c/\if c=true then tb σ H1 Q else Q (.bl false) H1
def pU(ta tb:TE):TE:=λσ H Q=>ta σ H λx H1=>∃c,x=.bl c/\if c=true then Q (.bl true) H1 else tb σ H1 Q
def iU(ta:TE):TE:=λσ H Q=>ta σ H λx H1=>∃c,x=.bl c/\Q (.bl (!c)) H1
def RN{op}(h:PE X a t):PE X (.BoolOp op [a] pos) t:=λpins s σ H Q I hw=>BoolOp_one (h pins s σ H Q I hw)
def Z3(ha:PE X a ta)(hb:PE X (.BoolOp .And (b::rest) pos) tb):PE X (.BoolOp .And (a::b::rest) pos) (je ta tb):=by
 intro pins s σ H Q I h;refine BoolOp_and (Bg (ha pins s σ H _ I h) λv s1 ⟨x,H1,I1,r1,q1⟩=>?_);obtain⟨c,rfl,q1⟩:=q1;cases r1;refine cN ?_;cases c with
 |true=>exact hb pins s1 σ H1 Q I1 q1
 |false=>exact⟨.bl false,H1,I1,rfl,q1⟩
def jQ(ha:PE X a ta)(hb:PE X (.BoolOp .Or (b::rest) pos) tb):PE X (.BoolOp .Or (a::b::rest) pos) (pU ta tb):=by
 intro pins s σ H Q I h;refine BoolOp_or (Bg (ha pins s σ H _ I h) λv s1 ⟨x,H1,I1,r1,q1⟩=>?_);obtain⟨c,rfl,q1⟩:=q1;cases r1;refine cN ?_;cases c with
 |false=>exact hb pins s1 σ H1 Q I1 q1
 |true=>exact⟨.bl true,H1,I1,rfl,q1⟩
def Zx(ha:PE X a ta):PE X (.UnaryOp .Not a pos) (iU ta):=by
 intro pins s σ H Q I h;refine UnaryOp_ (Bg (ha pins s σ H _ I h) λv s1 ⟨x,H1,I1,r1,q1⟩=>?_);obtain⟨c,rfl,q1⟩:=q1;cases r1;exact not_of (cN ⟨.bl (!c),H1,I1,rfl,q1⟩)
def wW(t:TT)(ta tb:TE):TE:=λσ H Q=>t σ H λc H1=>if c=true then ta σ H1 Q else tb σ H1 Q
def RQ(hc:PT X c tA)(ha:PE X a ta)(hb:PE X b tb):PE X (.IfExp c a b pos) (wW tA ta tb):=by
 intro pins s σ H Q I h;refine wpAny_IfExp (Bg (hc pins s σ H _ I h) λd s1 ⟨H1,I1,q1⟩=>?_);cases d with
 |true=>exact ha pins s1 σ H1 Q I1 q1
 |false=>exact hb pins s1 σ H1 Q I1 q1
end
end L2
namespace L2
open PySem PySem.Spec PyProof.Rows
def D8(K:Frag)(H:Hp)(a:Addr)(xs:List V):Prop:=
 Rd H a (.lst xs)\/
  E3 λ(o:Obj) (its:Array Value) (n:Nat)=>A6 (K.lookup a=some o) (o.cls=.type "list") (o.dict=none) (o.data=.seq its n) (its.size<=sizeLine) (Aq xs its.toList)
def DG(K:Frag)(H:Hp)(a:Addr)(xs:List V):Prop:=
 Rd H a (.tup xs)\/
  E3 λ(o:Obj) (its:Array Value) (n:Nat)=>A5 (K.lookup a=some o) (o.cls=.type "tuple") (o.data=.seq its n) (its.size<=sizeLine) (Aq xs its.toList)
noncomputable def tH:Value->Option V
 |.none=>some .non
 |.bool b=>some (.bl b)
 |.int i _=>some (.int i)
 |.str x _=>some (.str x)
 |.bytes b _=>some (.byt b)
 |.float b _=>some (.flt b)
 |.ref a=>some (.ref a)
 |.type n=>some (.ty n)
 |_=>none
def AA.abs(r:AA x u):tH u=some x:=by
 cases x with
 |non=>cases r;rfl
 |bl _=>cases r;rfl
 |int _=>obtain⟨t,rfl⟩:=r;rfl
 |str _=>obtain⟨t,rfl⟩:=r;rfl
 |byt _=>obtain⟨t,rfl⟩:=r;rfl
 |flt _=>obtain⟨t,rfl⟩:=r;rfl
 |ref _=>cases r;rfl
 |ty _=>cases r;rfl
def AA.inj(r:AA x u)(q:AA y u):x=y:=bM (r.abs.symm.trans q.abs)
theorem Aq.inj:∀{xs ys:List V}{us:List Value},Aq xs us->Aq ys us->xs=ys
 |_,_,_,.nil,.nil=>rfl
 |_,_,_,.cons r t,.cons r' t'=>by rw[r.inj r',Aq.inj t t']
section
def Ae.list(I:Ae X pins σ H s)(h:D8 X.K H a xs):∃its:List Value,Aq xs its/\PlainL s.heap a its.toArray/\xs.length<=sizeLine:=by
 rcases h with h|⟨o,its,n,hk,hc,hd,hs,hz,r⟩
 ·obtain⟨z,its,n,r,e⟩:=h.ok I.hok;exact⟨its,r,⟨_,n,e,rfl,rfl,rfl⟩,z⟩
 refine⟨its.toList,r,⟨o,n,I.kIn a o hk,hc,hd,by simpa using hs⟩,?_⟩;have e:=r.length;simp only[Array.length_toList]at e
 lia
def Ae.tuple(I:Ae X pins σ H s)(h:DG X.K H a xs):∃its:List Value,Aq xs its/\IsTup s.heap a its.toArray/\xs.length<=sizeLine:=by
 rcases h with h|⟨o,its,n,hk,hc,hs,hz,r⟩
 ·obtain⟨z,its,r,p⟩:=h.ok I.hok;exact⟨its,r,p,z⟩
 refine⟨its.toList,r,⟨o,I.kIn a o hk,hc,n,by simpa using hs⟩,?_⟩;have e:=r.length;simp only[Array.length_toList]at e
 lia
def Ae.list_inj(I:Ae X pins σ H s)(h:D8 X.K H a xs)(h':D8 X.K H a ys):xs=ys:=by
 obtain⟨its,r,⟨o,n,e,_,_,d⟩,_⟩:=I.list h;obtain⟨its',r',⟨o',n',e',_,_,d'⟩,_⟩:=I.list h';rw[e]at e';cases e';rw[d]at d'
 injection d' with d1 _
 have:its=its':=by simpa using bW Array.toList d1
 subst this;exact r.inj r'
def Ae.tuple_inj(I:Ae X pins σ H s)(h:DG X.K H a xs)(h':DG X.K H a ys):xs=ys:=by
 obtain⟨its,r,⟨o,e,_,n,d⟩,_⟩:=I.tuple h;obtain⟨its',r',⟨o',e',_,n',d'⟩,_⟩:=I.tuple h';rw[e]at e';cases e';rw[d]at d'
 injection d' with d1 _
 have:its=its':=by simpa using bW Array.toList d1
 subst this;exact r.inj r'
end
noncomputable abbrev Cx.wish(X:Cx)(E:Value->Shared->Prop):Cx:={X with xe:=E}
abbrev Cx.nox(X:Cx):Cx:=X.wish λ_ _=>False
theorem Cx.Ok.wish{X:Cx}(ok:X.Ok)(E:Vq):(X.wish E).Ok:=
 ⟨ok.mod,ok.kind,ok.glob,ok.blt,ok.above,ok.inj,ok.has,ok.cab,ok.hd,ok.frames,ok.stk,ok.exf,ok.bs,ok.bsz,ok.noex,ok.exfs,ok.funs,ok.frf⟩
def Cx.Ok.unwish{X:Cx}(ok:(X.wish E).Ok):X.Ok:=
 ⟨ok.mod,ok.kind,ok.glob,ok.blt,ok.above,ok.inj,ok.has,ok.cab,ok.hd,ok.frames,ok.stk,ok.exf,ok.bs,ok.bsz,ok.noex,ok.exfs,ok.funs,ok.frf⟩
section
theorem Ae.wish(I:Ae X pins σ H s)(E:Vq):Ae (X.wish E) pins σ H s:=⟨I.ok.wish E,I.os,I.bare,I.base,I.loc,I.cell,I.free,I.freeC,I.pin,I.hok,I.len⟩
theorem Ae.unwish(I:Ae (X.wish E) pins σ H s):Ae X pins σ H s:=⟨I.ok.unwish,I.os,I.bare,I.base,I.loc,I.cell,I.free,I.freeC,I.pin,I.hok,I.len⟩
theorem SP.unwish(h:SP (X.wish E) pins D f s'):SP X pins D f s':=by
 cases f with
 |next=>obtain⟨σ',H',I,q⟩:=h;exact⟨σ',H',I.unwish,q⟩
 |brk=>obtain⟨σ',H',I,q⟩:=h;exact⟨σ',H',I.unwish,q⟩
 |cont=>obtain⟨σ',H',I,q⟩:=h;exact⟨σ',H',I.unwish,q⟩
 |ret u=>obtain⟨v,σ',H',I,r,q⟩:=h;exact⟨v,σ',H',I.unwish,r,q⟩
theorem Df.nox{st:List Stmt}(h:Df X.nox st t):Df X st t:=λpins s σ H D I hw=>
 bN (h pins s σ H D (I.wish _) hw) (λ_ _ q=>q.unwish) λ_ _ z=>False.elim z
end
section
variable {X:Cx}{st:Stmt}{rest:List Stmt}{t u:TS}
def iV:TS:=λD σ H=>D.nx σ H
def iR(t u:TS):TS:=λD σ H=>t {D with nx:=u D} σ H
def Om:Df X [] iV:=λ_ _ σ H _ I h=>fY ⟨σ,H,I,h⟩
def HA(h1:PS X st t)(h2:Df X rest u):Df X (st::rest) (iR t u):=by
 intro pins s σ H D I h;refine wpAny_execs_cons (Bg (h1 pins s σ H {D with nx:=u D} I h) λf s1 q=>?_);cases f with
 |next=>
  obtain⟨σ',H',I',q⟩:=q;exact h2 pins s1 σ' H' D I' q
 |ret v=>exact q
 |brk=>exact q
 |cont=>exact q
def UW(h1:PS X st t):Df X [st] t:=by
 intro pins s σ H D I h;refine wpAny_execs_cons (Bg (h1 pins s σ H D I h) λf s1 q=>?_);cases f with
 |next=>exact fY q
 |ret v=>exact q
 |brk=>exact q
 |cont=>exact q
def Ae.quiet(I:Ae X pins σ H s):interactive X.env=false:=by simp[interactive,I.ok.kind]
def ja(te:TE):TS:=λD σ H=>te σ H λ_ H1=>D.nx σ H1
def JT(he:PE X e te)(hs:swapsWith e none pos.line X.env=pure false:=by rfl):PS X (.Expr e pos) (ja te):=by
 intro pins s σ H D I h;exact wpAny_Expr_any (Bg (he pins s σ H _ I h) λv s1 ⟨x,H1,I1,r1,q1⟩=>⟨σ,H1,I1,q1⟩) I.quiet hs
def pT(te:TE):TS:=λD σ H=>te σ H D.rt
def Zk(he:PE X e te):PS X (.Return (some e) pos) (pT te):=by
 intro pins s σ H D I h;exact wpAny_Return_some (Bg (he pins s σ H _ I h) λv s1 ⟨x,H1,I1,r1,q1⟩=>⟨x,σ,H1,I1,r1,q1⟩)
def pZ(c:TT)(t u:TS):TS:=λD σ H=>c σ H λb H1=>if b=true then t D σ H1 else u D σ H1
def Xu(hc:PT X c tc)(ha:Df X a t)(hb:Df X b u):PS X (.If c a b pos) (pZ tc t u):=by
 intro pins s σ H D I h;refine wpAny_If (Bg (hc pins s σ H _ I h) λd s1 ⟨H1,I1,q1⟩=>?_);cases d with
 |true=>exact ha pins s1 σ H1 D I1 q1
 |false=>exact hb pins s1 σ H1 D I1 q1
end
abbrev TG:=V->St->Hp->(St->Hp->Prop)->Prop
abbrev fz:=List V->St->Hp->(St->Hp->Prop)->Prop
def PG(X:Cx)(target:Expr)(t:TG):Prop:=
 ∀(pins:List (Addr×Obj)) (s:Shared) (σ:St) (H:Hp) (v:V) (u:Value) (Q:St->Hp->Prop),Ae X pins σ H s->AA v u->t v σ H Q->
  wpAny (model X.prog X.w) X.A (assign target X.env u) (λ_ s'=>∃σ' H',Ae X pins σ' H' s'/\Q σ' H') X.xe s
def XZ(X:Cx)(ts:List Expr)(t:fz):Prop:=
 ∀(pins:List (Addr×Obj)) (s:Shared) (σ:St) (H:Hp) (vs:List V) (us:List Value) (Q:St->Hp->Prop),Ae X pins σ H s->Aq vs us->t vs σ H Q->
  wpAny (model X.prog X.w) X.A (assignInOrder ((assignEach ts X.env).map (·.2)) us) (λ_ s'=>∃σ' H',Ae X pins σ' H' s'/\Q σ' H') X.xe s
abbrev mf:=V->V->V->Hp->(Hp->Prop)->Prop
def mi(X:Cx)(t:mf):Prop:=
 ∀(pins:List (Addr×Obj)) (s:Shared) (σ:St) (H:Hp) (o i v:V) (ov iv u:Value) (Q:Hp->Prop),Ae X pins σ H s->AA o ov->AA i iv->AA v u->t o i v H Q->
  wpAny (model X.prog X.w) X.A (setItem ov iv u) (λ_ s'=>∃H',Ae X pins σ H' s'/\Q H') X.xe s
section
def LM(i:Nat):TG:=λv σ H Q=>Q (σ.set i (some v)) H
def Op{i:Nat}{x:Str}(hN:X.N.Nodup)(hi:X.N[i]?=some x)(hx:Uo X.env.scope x)(hf:X.fn x=true\/X.env.scope.names.lookup x=some .local:=by first|exact .inl rfl|exact .inr rfl|assumption):PG X (.Name x pos) (LM i):=by
 intro pins s σ H v u Q I r h;exact wpAny_assign_Name (F0 I hN hi hx r (λs' I'=>⟨_,H,I',h⟩) hf)
def kU:fz:=λvs σ H Q=>vs=[]/\Q σ H
def XD(t:TG)(u:fz):fz:=λvs σ H Q=>∃v r,vs=v::r/\t v σ H λσ' H'=>u r σ' H' Q
def Vn:XZ X [] kU:=by
 intro pins s σ H vs us Q I r h;obtain⟨e,h⟩:=h;subst e;cases r;exact assignInOrder_nil ⟨σ,H,I,h⟩
def RI(h1:PG X e t)(h2:XZ X es u)
 (hs:(assignEach (e::es) X.env).map (·.2)=assign e X.env::(assignEach es X.env).map (·.2):=by rfl):XZ X (e::es) (XD t u):=by
 intro pins s σ H vs us Q I r h;obtain⟨v,vr,e1,h⟩:=h;subst e1;cases r with
 |cons r rr=>
  rw[hs];refine assignInOrder_cons (Bg (h1 pins s σ H _ _ _ I r h) λ_ s1 ⟨σ1,H1,I1,q1⟩=>?_);exact h2 pins s1 σ1 H1 _ _ Q I1 rr q1
def rW(K:Frag)(n:Nat)(t:fz):TG:=λv σ H Q=>∃a xs,v=.ref a/\DG K H a xs/\xs.length=n/\t xs σ H Q
def Zu{k:Nat}{n:Nat}(hc:X.calm=true)(h:XZ X es t)
 (hn:(assignEach es X.env).length=n:=by rfl)(hst:(assignEach es X.env).findIdx? (·.1)=none:=by rfl):PG X (.Tuple es k pos) (rW X.K n t):=by
 intro pins s σ H v u Q I r hw;obtain⟨a,xs,e1,hq,hl,hw⟩:=hw;subst e1;cases r;obtain⟨its,rv,ht,hz⟩:=I.tuple hq;refine assign_Tuple_tuple (I.ok.hd hc) ht (by simp[hn,←hl,rv.length]) hst λh' hx=>?_;have I1:=I.kept (t':=s.toks) λb o e=>hx b o (aQ (aK e)) e;exact h pins _ σ H xs _ Q I1 (by simpa using rv) hw
def rX(to ti:TE)(t:mf):TG:=λv σ H Q=>to σ H λo H1=>ti σ H1 λi H2=>t o i v H2 λH3=>Q σ H3
def Zv(ho:PE X o to)(hi:PE X i ti)(hs:mi X t)
 (ha:∀v,assign (.Subscript o i pos) X.env v=(do
   let ov ←holding [v] (eval o X.env)
   let iv ←holding [v,ov] (eval i X.env)
   standAt pos
   holding [v,ov,iv] (setItem ov iv v)
   release [v,ov,iv] []):=by intro _;rfl):PG X (.Subscript o i pos) (rX to ti t):=by
 intro pins s σ H v u Q I r h;rw[ha];refine aA (bR (Bg (ho pins s σ H _ I h) λov s1 ⟨x,H1,I1,r1,q1⟩=>?_));refine aA (bR (Bg (hi pins s1 σ H1 _ I1 q1) λiv s2 ⟨y,H2,I2,r2,q2⟩=>?_));refine aA (eX (aA (bR (Bg (hs pins s2 σ H2 x y v ov iv u _ I2 r1 r2 r q2) λ_ s3 ⟨H3,I3,q3⟩=>?_))));exact wpAny_release ⟨σ,H3,I3,q3⟩
def U6(te:TE)(g:TG):TS:=λD σ H=>te σ H λx H1=>g x σ H1 D.nx
def R6(he:PE X e te)(hg:PG X tg g)(hs:swapsWithSole [tg] e pos.line X.env=pure false:=by rfl)(hw:swappedStores [tg] e X.env=pure none:=by rfl)
 (h1:(assignEach [tg] X.env).map (·.2)=[assign tg X.env]:=by rfl):PS X (.Assign [tg] e pos) (U6 te g):=by
 intro pins s σ H D I h;refine wpAny_Assign_stores (Bg (he pins s σ H _ I h) λv s1 ⟨x,H1,I1,r1,q1⟩=>?_) hs hw;rw[h1];exact Bg (hg pins s1 σ H1 x v _ I1 r1 q1) λ_ s2 q=>q
def Zj{i:Nat}{x:Str}(hN:X.N.Nodup)(hi:X.N[i]?=some x)(hx:Uo X.env.scope x)(he:PE X e te)(hs:swapsWith e (some (.Name x pos')) pos.line X.env=pure false:=by rfl)(hf:X.fn x=true\/X.env.scope.names.lookup x=some .local:=by first|exact .inl rfl|exact .inr rfl|assumption) :
 PS X (.Assign [.Name x pos'] e pos) (U6 te (LM i)):=by
 intro pins s σ H D I h;refine wpAny_Assign_Name (Bg (he pins s σ H _ I h) λv s1 ⟨y,H1,I1,r1,q1⟩=>?_) hs;exact F0 I1 hN hi hx r1 (λs2 I2=>⟨_,H1,I2,q1⟩) hf
end
structure It where
 go:Nat->Hp->Prop
 yld:Nat->Hp->V->Hp->Prop
 stop:Nat->Hp->Prop
def EO(X:Cx)(pins:List (Addr×Obj))(H:Hp)(b:Addr):Prop:=
 H b=none/\b≠X.env.locals/\b∉X.fs/\(b∈X.ex\/X.s₀.heap.objs.size<=b)/\(∀x c,X.env.cells.lookup x=some c->c≠b)/\∀p∈X.pn++pins,p.1≠b
def Ae.fpOk(I:Ae X pins σ H s)(hb:s.heap.objs.size<=b)(hn:H' b=none):EO X pins H' b:=by
 refine⟨hn,fZ (aO I.lt hb),I.nofs hb,.inr (b9 I.sz hb),λx c e z=>?_,λp hp z=>?_⟩
 ·obtain⟨v,q⟩:=I.cell x c e;exact absurd (aO q.lt (by rw[z];exact hb)) (bJ _)
 exact absurd (aO (aK (I.pin p hp).1) (by rw[z];exact hb)) (bJ _)
structure NL(P:Program)(w:World)(K:Frag)(tg:Expr)(J:It)(fp:List Addr)(it:Addr)(tn:Nat->Heap->Prop):Prop where
 mem:it∈fp
 obj:∀i h,tn i h->∀b∈fp,∃o,h.get? b=some o/\∀v,o.data≠ .cell v
 keep:∀i h h',tn i h->(∀b∈fp,∀o,h.get? b=some o->h'.get? b=some o)->tn i h'
 item:∀(X:Cx),X.prog=P->X.w=w->X.K=K->X.calm=true->∀(i:Nat) (pins:List (Addr×Obj)) (s:Shared) (σ:St) (H:Hp) (E:Value->Shared->Prop),Ae X pins σ H s->(∀b∈fp,EO X pins H b)->tn i s.heap->J.go i H->
  wpAny (model P w) X.A (pyNext (.ref it)) (λr s1=>∃u,r=some u/\
   wpAny (model P w) X.A (letOwnedTupleGo tg (.ref it) u) (λ_ s2=>E2 λx H'=>A5 (Ae X pins σ H' s2) (AA x u) (J.yld i H x H') (tn (i+1) s2.heap) (∀b∈fp,H' b=none)) E s1) E s
 done:∀(X:Cx),X.prog=P->X.w=w->X.K=K->X.calm=true->∀(i:Nat) (pins:List (Addr×Obj)) (s:Shared) (σ:St) (H:Hp) (E:Value->Shared->Prop),Ae X pins σ H s->(∀b∈fp,EO X pins H b)->tn i s.heap->J.stop i H->
  wpAny (model P w) X.A (pyNext (.ref it)) (λr s1=>r=none/\Ae X pins σ H s1) E s
 self:∀(A:Around) (i:Nat) (s:Shared) (Q:Value->Shared->Prop) (E:Value->Shared->Prop),tn i s.heap->Q (.ref it) s->wpAny (model P w) A (pyIter (.ref it)) Q E s
abbrev TI:=St->Hp->(It->Hp->Prop)->Prop
def ie(X:Cx)(pins:List (Addr×Obj))(σ:St)(tg:Expr)(R:It->Hp->Prop)(itv:Value)(s2:Shared):Prop:=
 E5 λ(it:Addr) (fp:List Addr) (tn:Nat->Heap->Prop) (J:It) (H':Hp)=>A6 (itv=.ref it) (Ae X pins σ H' s2) (NL X.prog X.w X.K tg J fp it tn) (tn 0 s2.heap) (∀b∈fp,EO X pins H' b) (R J H')
def PI(X:Cx)(tg iter:Expr)(wi:TI):Prop:=
 ∀(pins:List (Addr×Obj)) (s:Shared) (σ:St) (H:Hp) (R:It->Hp->Prop),Ae X pins σ H s->wi σ H R->
  wpAny (model X.prog X.w) X.A (eval iter X.env) (λv s1=>wpAny (model X.prog X.w) X.A (pyIter v) (ie X pins σ tg R) X.xe s1) X.xe s
def OG{n:String}(ho:s.heap.get? it=some o)(hc:o.cls=.type n)(hd:o.data=.fields vs)
 (hn: ["enumerate","zip","dict_itemiterator","dict_reverseitemiterator","odict_iterator","itertools.zip_longest","itertools.pairwise"].contains n=false)(hQ:Q () s):wpAny M A (letOwnedTupleGo tg (.ref it) u) Q E s:=by
 unfold letOwnedTupleGo;cases tg<;>first
  |exact aJ hQ
  |(cases u<;>first
     |exact aJ hQ
     |(refine aA (wpAny_load ho ?_)
       rw[hc,hd];show wpAny M A (if (["enumerate","zip","dict_itemiterator","dict_reverseitemiterator","odict_iterator","itertools.zip_longest","itertools.pairwise"].contains n&&vs[0]? ==some (rawInt _))=true then _ else _) Q E s;rw[if_neg (by intro h;rw[hn,Bool.false_and]at h;cases h)];exact aJ hQ))
def mw(K:Frag)(a:Addr):It:=
 ⟨λi H=>∃xs x,D8 K H a xs/\xs[i]?=some x,λi H x H'=>H'=H/\∀xs,D8 K H a xs->xs[i]?=some x,λi H=>∃xs,D8 K H a xs/\xs.length<=i⟩
def tP(K:Frag)(a:Addr):It:=
 ⟨λi H=>∃xs x,DG K H a xs/\xs[i]?=some x,λi H x H'=>H'=H/\∀xs,DG K H a xs->xs[i]?=some x,λi H=>∃xs,DG K H a xs/\xs.length<=i⟩
def mr(lo:Int)(n:Nat):It:=⟨λi _=>i<n,λi H x H'=>H'=H/\x=.int (lo+i),λi _=>n<=i⟩
def Pv{P:Program}{w:World}{K:Fq}{tg:Expr}(a it:Addr):NL P w K tg (mw K a) [it] it (λi h=>h.IsListIter it a i) where
 mem:=by simp
 obj:=λi h st b hb=>by
  have e:b=it:=by simpa using hb
  subst e;obtain⟨o,e,c,d⟩:=st;exact⟨o,e,λv z=>by rw[d]at z;cases z⟩
 keep:=λi h h' st k=>st.at λo e=>k it (by simp) o e
 item:=by
  intro X hP hw hK hc i pins s σ H E I hf st hg;subst hP hw hK;obtain⟨xs,x,hq,hx⟩:=hg;obtain⟨its,rv,p,hz⟩:=I.list hq;obtain⟨u,hu,ru⟩:=rv.get hx;obtain⟨f0,f1,f2,f3,f4,f5⟩:=hf it (by simp);refine wpAny_pyNext_list_item st p.isList (x:=u) (by simpa using hu) λh' st' sb=>?_;have I1:Ae X pins σ H {s with heap:=h'}:=I.turned (t':=s.toks) (λb o hb e=>(sb.2 b hb).trans e) f0 f1 f3 f4 f5;obtain⟨o,e,c,d⟩:=id st';exact⟨u,rfl,OG (s:={s with heap:=h'}) e c d (by decide) ⟨x,H,I1,ru,⟨rfl,λys hy=>by rw[I.list_inj hy hq];exact hx⟩,st',λb hb=>(hf b hb).1⟩⟩
 done:=by
  intro X hP hw hK hc i pins s σ H E I hf st hg;subst hP hw hK;obtain⟨xs,hq,hx⟩:=hg;obtain⟨its,rv,p,hz⟩:=I.list hq;obtain⟨f0,f1,f2,f3,f4,f5⟩:=hf it (by simp);have hl:=rv.length;exact wpAny_pyNext_list_end (I.ok.hd hc) st p.isList (by simp;lia) λh' eb=>⟨rfl,I.turned (t':=s.toks) (λb o hb e=>eb b o hb e) f0 f1 f3 f4 f5⟩
 self:=λ_ _ _ _ _ st h=>wpAny_pyIter_listiter st h
def M1{P:Program}{w:World}{K:Fq}{tg:Expr}(a it:Addr):NL P w K tg (tP K a) [it] it (λi h=>h.IsTupleIter it a i) where
 mem:=by simp
 obj:=λi h st b hb=>by
  have e:b=it:=by simpa using hb
  subst e;obtain⟨o,e,c,d⟩:=st;exact⟨o,e,λv z=>by rw[d]at z;cases z⟩
 keep:=λi h h' st k=>st.at λo e=>k it (by simp) o e
 item:=by
  intro X hP hw hK hc i pins s σ H E I hf st hg;subst hP hw hK;obtain⟨xs,x,hq,hx⟩:=hg;obtain⟨its,rv,p,hz⟩:=I.tuple hq;obtain⟨u,hu,ru⟩:=rv.get hx;obtain⟨f0,f1,f2,f3,f4,f5⟩:=hf it (by simp);refine wpAny_pyNext_tuple_item st (show s.heap.IsTuple a its.toArray from p) (x:=u) (by simpa using hu) λh' st' sb=>?_;have I1:Ae X pins σ H {s with heap:=h'}:=I.turned (t':=s.toks) (λb o hb e=>(sb.2 b hb).trans e) f0 f1 f3 f4 f5;obtain⟨o,e,c,d⟩:=id st';exact⟨u,rfl,OG (s:={s with heap:=h'}) e c d (by decide) ⟨x,H,I1,ru,⟨rfl,λys hy=>by rw[I.tuple_inj hy hq];exact hx⟩,st',λb hb=>(hf b hb).1⟩⟩
 done:=by
  intro X hP hw hK hc i pins s σ H E I hf st hg;subst hP hw hK;obtain⟨xs,hq,hx⟩:=hg;obtain⟨its,rv,p,hz⟩:=I.tuple hq;obtain⟨f0,f1,f2,f3,f4,f5⟩:=hf it (by simp);have hl:=rv.length;exact wpAny_pyNext_tuple_end (I.ok.hd hc) st (show s.heap.IsTuple a its.toArray from p) (by simp;lia) λh' eb=>⟨rfl,I.turned (t':=s.toks) (λb o hb e=>eb b o hb e) f0 f1 f3 f4 f5⟩
 self:=λ_ _ _ _ _ st h=>wpAny_pyIter_tupleiter st h
def M2{P:Program}{w:World}{K:Fq}{tg:Expr}(it:Addr)(lo:Int)(n:Nat):NL P w K tg (mr lo n) [it] it (λi h=>IsRangeIter h it (lo+(i:Nat)*1) ((n:Int)-(i:Nat)) 1) where
 mem:=by simp
 obj:=λi h st b hb=>by
  have e:b=it:=by simpa using hb
  subst e;exact⟨_,st,λv z=>by
   have z':Data.fields _=Data.cell v:=z;cases z'⟩
 keep:=λi h h' st k=>k it (by simp) _ st
 item:=by
  intro X hP hw hK hc i pins s σ H E I hf st hg;subst hP hw hK;obtain⟨f0,f1,f2,f3,f4,f5⟩:=hf it (by simp);have W:=Walks.range (prog:=X.prog) (w:=X.w) (I.ok.hd hc) it lo 1 n;refine W.item i s _ _ hg st λv h' tk hv st' kk=>?_;obtain⟨t,rfl⟩:=hv;have I1:Ae X pins σ H {s with heap:=h',toks:=tk}:=I.turned (λb o hb e=>kk b o (by simpa using hb) e) f0 f1 f3 f4 f5;refine⟨_,rfl,OG (s:={s with heap:=h',toks:=tk}) (n:= "range_iterator") st' rfl rfl (by decide) ⟨.int (lo+i),H,I1,⟨t,?_⟩,⟨rfl,rfl⟩,st',λb hb=>(hf b hb).1⟩⟩;rw[Int.mul_one]
 done:=by
  intro X hP hw hK hc i pins s σ H E I hf st hg;subst hP hw hK;obtain⟨f0,f1,f2,f3,f4,f5⟩:=hf it (by simp);exact wpAny_pyNext_range_end (I.ok.hd hc) st (by have:n<=i:=hg;lia) λh' eb=>⟨rfl,I.turned (t':=s.toks) (λb o hb e=>eb b o hb e) f0 f1 f3 f4 f5⟩
 self:=λ_ _ _ _ _ st h=>wpAny_pyIter_rangeiter st h
end L2
namespace L2
open PySem PySem.Spec PyProof.Rows
section
def Ln{lo hi:Int}{tk:Nat}(I:Ae X pins σ H s)(h1: -(2^62)<=lo)(h2:lo<2^62)(h3: -(2^62)<=hi)(h4:hi<2^62)
 (q:R (mr lo (hi-lo).toNat) H):wpAny (model X.prog X.w) X.A (pyIter (.ref s.heap.objs.size)) (ie X pins σ tg R) E {s with heap:=s.heap.push {cls:=.type "range",data:=.fields #[.int lo t,.int hi u,.int 1 v]},toks:=tk}:=by
 refine wpAny_pyIter_range (IsRange.new ..) (small_one h1 h2 h3 h4) ?_;have I1:Ae X pins σ H {s with heap:=s.heap.push {cls:=.type "range",data:=.fields #[.int lo t,.int hi u,.int 1 v]},toks:=tk}:=I.kept λb o e=>aC _ e;refine⟨(s.heap.push {cls:=.type "range",data:=.fields #[.int lo t,.int hi u,.int 1 v]}).objs.size,[(s.heap.push {cls:=.type "range",data:=.fields #[.int lo t,.int hi u,.int 1 v]}).objs.size],_,_,H,rfl,
  I1.kept (t':=tk) λb o e=>aC _ e,M2 _ lo (hi-lo).toNat,?_,λb hb=>?_,q⟩
 ·have e1:lo+((0:Nat):Int)*1=lo:=by simp
  have e2:(((hi-lo).toNat:Nat):Int)-((0:Nat):Int)=Builtin.Range.rangeSize lo hi 1:=by rw[rangeSize_one];split<;>lia
  show IsRangeIter _ _ (lo+((0:Nat):Int)*1) ((((hi-lo).toNat:Nat):Int)-((0:Nat):Int)) 1;rw[e1,e2];exact aV _ rfl
 have e:b=(s.heap.push {cls:=.type "range",data:=.fields #[.int lo t,.int hi u,.int 1 v]}).objs.size:=by simpa using hb
 subst e;exact I1.fpOk (aN _) (I1.hok.fresh (aN _))
def kN(ta:TA):TI:=λσ H R=>ta σ H λvs H1=>∃j:Int,vs=[.int j]/\-(2^62)<=j/\j<2^62/\R (mr 0 j.toNat) H1
def kM(ta:TA):TI:=λσ H R=>ta σ H λvs H1=>∃i j:Int,vs=[.int i,.int j]/\(-(2^62)<=i/\i<2^62/\-(2^62)<=j/\j<2^62)/\R (mr i (j-i).toNat) H1
def P8(hg:Gl X "range")(hm:X.mg "range"=none)(ha:PA X [a] ta)(hs:starEach [a] X.env=[(false,eval a X.env)]:=by rfl):PI X tg (.Call (.Name "range" p) [a] [] pos) (kN ta):=by
 intro pins s σ H R I h;refine Call_ (Ed I hg hm boot_range (cW (Bg (ha pos pins s σ H _ I h) λus s1 ⟨vs,H1,I1,r1,q1⟩=>?_) hs rfl));obtain⟨j,e,q1,q2,q⟩:=q1;subst e;cases r1 with
 |cons r rr=>
  cases rr;obtain⟨t,rfl⟩:=r;exact call_range_1 (Ln I1 (by lia) (by lia) q1 q2 (by simpa using q))
def P7(hg:Gl X "range")(hm:X.mg "range"=none)(ha:PA X [a,b] ta)(hs:starEach [a,b] X.env=[(false,eval a X.env),(false,eval b X.env)]:=by rfl)(hs2:starEach [b] X.env=[(false,eval b X.env)]:=by rfl) :
 PI X tg (.Call (.Name "range" p) [a,b] [] pos) (kM ta):=by
 intro pins s σ H R I h;refine Call_ (Ed I hg hm boot_range (cW (Bg (ha pos pins s σ H _ I h) λus s1 ⟨vs,H1,I1,r1,q1⟩=>?_) (by rw[hs,hs2]) (by rw[hs2];rfl)));obtain⟨i,j,e,⟨q1,q2,q3,q4⟩,q⟩:=q1;subst e;cases r1 with
 |cons r rr=>
  cases rr with
  |cons r' rr=>
   cases rr;obtain⟨t,rfl⟩:=r;obtain⟨t',rfl⟩:=r';exact call_range_2 (Ln I1 q1 q2 q3 q4 q)
def qa(wi:TI)(g:TG)(tb:TS):TS:=λD σ H=>wi σ H λJ H1=>∃W:Nat->Nat->St->Hp->Prop,(∃m,W 0 m σ H1)/\∀i m σ H,W i m σ H->
 (J.stop i H/\D.nx σ H)\/(J.go i H/\∃N:St->Hp->Prop,(∀σ' H',N σ' H'->∃m',m'<m/\W (i+1) m' σ' H')/\∀x H',J.yld i H x H'->g x σ H' λσ2 H2=>tb {D with nx:=N,ct:=N,bk:=D.nx} σ2 H2)
def HC(fp:List Addr)(h:Heap):List (Addr×Obj):=fp.filterMap λb=>(h.get? b).map λo=>(b,o)
def Dr(hb:b∈fp)(e:h.get? b=some o):(b,o)∈HC fp h:=List.mem_filterMap.mpr ⟨b,hb,by rw[e];rfl⟩
def PN(hp:p∈HC fp h):p.1∈fp/\h.get? p.1=some p.2:=by
 obtain⟨b,hb,e⟩:=List.mem_filterMap.mp hp;cases q:h.get? b with
 |none=>rw[q]at e;cases e
 |some o=>
  rw[q]at e;have e':=bM e;subst e';exact⟨hb,q⟩
def Ae.pinned(I:Ae X pins σ H s)(hf:∀b∈fp,EO X pins H b)(ho:∀b∈fp,∃o,s.heap.get? b=some o/\∀v,o.data≠ .cell v):Ae X (pins++HC fp s.heap) σ H s:=
 I.pins_of λp hp=>(bC.mp hp).elim (λz=>I.pin p (b7 _ z)) λz=>by
  obtain⟨hb,e⟩:=PN z;obtain⟨f0,f1,f2,_⟩:=hf p.1 hb;obtain⟨o,e',d⟩:=ho p.1 hb;rw[e]at e';cases e';exact⟨e,f0,f1,f2,d⟩
def Ae.unpinned(I:Ae X (pins++pl) σ H s):Ae X pins σ H s:=I.pins_of λp hp=>I.pin p (b7 _ (bF _ hp))
def R5(hp:PassesOwn (model X.prog X.w) X.A X.env X.xe)(hc:X.calm=true)(hi:PI X tg iter wi)(hg:PG X tg g)(hb:Df X body tb)
 (hs:∀x,foldedSetIterable iter X.env x=pure x:=by intro _;rfl):PS X (.For tg iter body [] pos) (qa wi g tb):=by
 intro pins s σ H D I h;refine wpAny_For (Bg (hi pins s σ H _ I h) λv s1 h1=>Bg h1 λitv s2 h2=>?_) hs;obtain⟨it,fp,tn,J,H2,e,I2,T,st2,f2,W,⟨m0,w0⟩,turn⟩:=h2;subst e;have stat:∀{H':Hp},(∀b∈fp,H' b=none)->∀b∈fp,EO X pins H' b:=λhn b hb=>⟨hn b hb,(f2 b hb).2⟩;refine codeAny_forLoop_any (λn s'=>∃i σ' H',Ae X pins σ' H' s'/\tn i s'.heap/\(∀b∈fp,H' b=none)/\W i n σ' H') ?_ m0 ⟨0,σ,H2,I2,st2,λb hb=>(f2 b hb).1,w0⟩;rintro n s3 ⟨i,σ3,H3,I3,st3,fr3,w3⟩;rcases turn i n σ3 H3 w3 with⟨stop,qn⟩|⟨go,N,hN,step⟩
 ·refine f9 hp (Bg (T.done X rfl rfl rfl hc i pins s3 σ3 H3 X.xe I3 (stat fr3) st3 stop) λr s4 ⟨hr,I4⟩=>?_);subst hr;exact fY ⟨σ3,H3,I4,qn⟩
 refine f9 hp (Bg (T.item X rfl rfl rfl hc i pins s3 σ3 H3 X.xe I3 (stat fr3) st3 go) λr s4 ⟨u,hr,h4⟩=>?_);subst hr;refine f9 hp (Bg h4 λ_ s5 ⟨x,H5,I5,r5,y5,st5,fr5⟩=>?_);have I5':=I5.pinned (stat fr5) (T.obj _ _ st5);refine f9 hp (Bg (hg _ s5 σ3 H5 x u _ I5' r5 (step x H5 y5)) λ_ s6 ⟨σ6,H6,I6,q6⟩=>?_);refine f9 hp (Bg (hb _ s6 σ6 H6 _ I6 q6) λf s7 q7=>?_);have again:∀{σ7:St}{H7:Hp},Ae X (pins++HC fp s5.heap) σ7 H7 s7->N σ7 H7->∃m,m<n/\∃i σ' H',Ae X pins σ' H' s7/\tn i s7.heap/\(∀b∈fp,H' b=none)/\W i m σ' H':=λ{σ7 H7} I7 n7=>by
  obtain⟨m',hm,w7⟩:=hN σ7 H7 n7;refine⟨m',hm,i+1,σ7,H7,I7.unpinned,T.keep _ _ _ st5 λb hb o e=>(I7.pin (b,o) (b7 _ (b7 _ (Dr hb e)))).1,λb hb=>?_,w7⟩;obtain⟨o,e,d⟩:=T.obj _ _ st5 b hb;exact(I7.pin (b,o) (b7 _ (b7 _ (Dr hb e)))).2.1
 cases f with
 |next=>obtain⟨σ7,H7,I7,n7⟩:=q7;exact again I7 n7
 |cont=>obtain⟨σ7,H7,I7,n7⟩:=q7;exact again I7 n7
 |brk=>obtain⟨σ7,H7,I7,q7⟩:=q7;exact⟨σ7,H7,I7.unpinned,q7⟩
 |ret v=>obtain⟨x7,σ7,H7,I7,r7,q7⟩:=q7;exact⟨x7,σ7,H7,I7.unpinned,r7,q7⟩
end
end L2
namespace L2
open PySem PySem.Spec PyProof.Rows
abbrev R2:=V->V->Hp->VK->Prop
def Cf(X:Cx)(f:Value->Value->Sem Value)(r:R2):Prop:=
 ∀(pins:List (Addr×Obj)) (s:Shared) (σ:St) (H:Hp) (x y:V) (v u:Value) (Q:VK),Ae X pins σ H s->AA x v->AA y u->r x y H Q->
  wpAny (model X.prog X.w) X.A (f v u) (EP X pins σ Q) X.xe s
def o6(X:Cx)(f:Value->Sem Value)(r:V->Hp->VK->Prop):Prop:=
 ∀(pins:List (Addr×Obj)) (s:Shared) (σ:St) (H:Hp) (x:V) (v:Value) (Q:VK),Ae X pins σ H s->AA x v->r x H Q->
  wpAny (model X.prog X.w) X.A (f v) (EP X pins σ Q) X.xe s
def Br(X:Cx)(f:Value)(r:List V->Hp->VK->Prop):Prop:=
 ∀(pins:List (Addr×Obj)) (s:Shared) (σ:St) (H:Hp) (xs:List V) (us:List Value) (Q:VK),Ae X pins σ H s->Aq xs us->r xs H Q->
  wpAny (model X.prog X.w) X.A (call f us) (EP X pins σ Q) X.xe s
def tI(X:Cx)(r:V->Hp->(Bool->Hp->Prop)->Prop):Prop:=
 ∀(pins:List (Addr×Obj)) (s:Shared) (σ:St) (H:Hp) (x:V) (v:Value) (Q:Bool->Hp->Prop),Ae X pins σ H s->AA x v->r x H Q->
  wpAny (model X.prog X.w) X.A (truthy v) (TP X pins σ Q) X.xe s
def iT(r:R2)(ta tb:TE):TE:=λσ H Q=>ta σ H λx H1=>tb σ H1 λy H2=>r x y H2 Q
def uF(r:V->Hp->VK->Prop)(ta:TE):TE:=λσ H Q=>ta σ H λx H1=>r x H1 Q
def rI(C:Int->Int->Prop)(g:Int->Int->V):R2:=λx y H Q=>E2 λi j=>A4 (x=.int i) (y=.int j) (C i j) (Q (g i j) H)
def UR(g:Int->Int->V):R2:=λx y H Q=>∃i j,x=.int i/\y=.int j/\Q (g i j) H
def rU(g:Int->V):V->Hp->VK->Prop:=λx H Q=>∃i,x=.int i/\Q (g i) H
section
def eh(ha:PE X a ta)(hb:PE X b tb){pins:Pq}{s:Shared}{σ:St}{H:Hp}{R:V->V->Hp->Prop}(I:Ae X pins σ H s)
 (h:ta σ H λx H1=>tb σ H1 λy H2=>R x y H2){Q:Vq}{f:Value->Value->Sem Value}
 (hf:∀v u s2 x y H2,Ae X pins σ H2 s2->AA x v->AA y u->R x y H2->wpAny (model X.prog X.w) X.A (f v u) Q X.xe s2) :
 wpAny (model X.prog X.w) X.A (eval a X.env) (λv s₁=>wpAny (model X.prog X.w) X.A (eval b X.env) (λu s₂=>wpAny (model X.prog X.w) X.A (f v u) Q X.xe s₂) X.xe s₁) X.xe s:=by
 refine Bg (ha pins s σ H _ I h) λv s1 ⟨x,H1,I1,r1,q1⟩=>?_;refine Bg (hb pins s1 σ H1 _ I1 q1) λu s2 ⟨y,H2,I2,r2,q2⟩=>?_;exact hf v u s2 x y H2 I2 r1 r2 q2
def jR{op:Operator}{r:R2}(ho:Cf X (binaryOp op) r)(ha:PE X a ta)(hb:PE X b tb):PE X (.BinOp a op b pos) (iT r ta tb):=by
 intro pins s σ H Q I h;exact wpAny_BinOp (eh ha hb I h λv u s2 x y H2 I2 rx ry q=>ho pins s2 σ H2 x y v u Q I2 rx ry q)
def jP(ho:o6 X (unaryOp op) r)(ha:PE X a ta):PE X (.UnaryOp op a pos) (uF r ta):=by
 intro pins s σ H Q I h;exact UnaryOp_ (Bg (ha pins s σ H _ I h) λv s1 ⟨x,H1,I1,r1,q1⟩=>ho pins s1 σ H1 x v Q I1 r1 q1)
def nH{C:Int->Int->Prop}{g:Int->Int->Int}
 (rule:∀(i j:Int) (t u:Tok) (s:Shared) (Q:Vq) (E:Vq),C i j->Q (.int (g i j) s.toks) {s with toks:=s.toks+1}->wpAny (model X.prog X.w) X.A (f (.int i t) (.int j u)) Q E s) :
 Cf X f (rI C λi j=>.int (g i j)):=by
 intro pins s σ H x y v u Q I rx ry h;obtain⟨i,j,rfl,rfl,hc,q⟩:=h;obtain⟨t,rfl⟩:=rx;obtain⟨t',rfl⟩:=ry;exact rule i j t t' s _ _ hc ⟨.int (g i j),H,I.tok _,⟨_,rfl⟩,q⟩
def ke{g:Int->Int->Int}
 (rule:∀(i j:Int) (t u:Tok) (s:Shared) (Q:Vq) (E:Vq),Q (.int (g i j) s.toks) {s with toks:=s.toks+1}->wpAny (model X.prog X.w) X.A (f (.int i t) (.int j u)) Q E s) :
 Cf X f (UR λi j=>.int (g i j)):=by
 intro pins s σ H x y v u Q I rx ry h;obtain⟨i,j,rfl,rfl,q⟩:=h;obtain⟨t,rfl⟩:=rx;obtain⟨t',rfl⟩:=ry;exact rule i j t t' s _ _ ⟨.int (g i j),H,I.tok _,⟨_,rfl⟩,q⟩
def Vz{g:Int->Int->Bool}
 (rule:∀(i j:Int) (t u:Tok) (s:Shared) (Q:Vq) (E:Vq),Q (.bool (g i j)) s->wpAny (model X.prog X.w) X.A (f (.int i t) (.int j u)) Q E s) :
 Cf X f (UR λi j=>.bl (g i j)):=by
 intro pins s σ H x y v u Q I rx ry h;obtain⟨i,j,rfl,rfl,q⟩:=h;obtain⟨t,rfl⟩:=rx;obtain⟨t',rfl⟩:=ry;exact rule i j t t' s _ _ ⟨.bl (g i j),H,I,rfl,q⟩
def tU(i j:Int):Prop:=0<=j/\j<=1000000/\i.natAbs<2^64
def gu(i j:Int):Prop:=(-(2^64)<i/\i<2^64)\/(-(2^64)<j/\j<2^64)
def gu.ok{i j:Int}(h:gu i j):IntMulOk i j:=by
 rcases h with⟨h1,h2⟩|⟨h1,h2⟩
 ·exact .of_left (intBits_le_64 h1 h2)
 exact .of_right (intBits_le_64 h1 h2)
def ZD:Cf X (binaryOp .Add) (UR λi j=>.int (i+j)):=ke λ_ _ _ _ _ _ _ q=>add_int q
def Z4:Cf X (binaryOp .Sub) (UR λi j=>.int (i-j)):=ke λ_ _ _ _ _ _ _ q=>sub_int q
def Z8:Cf X (binaryOp .Mult) (rI gu λi j=>.int (i*j)):=nH λ_ _ _ _ _ _ _ hc q=>mul_int q hc.ok
def Z9:Cf X (binaryOp .Mod) (rI (λ_ j=>0<j) λi j=>.int (i%j)):=nH λi j _ _ _ _ _ hc q=>by
 have h1:=hc;exact mod_int' (by lia) (by rw[Int.fmod_eq_emod_of_nonneg i (by lia)];exact q)
def Z6:Cf X (binaryOp .Pow) (rI tU λi j=>.int (i^j.toNat)):=nH λ_ _ _ _ _ _ _ hc q=>pow_int_small hc.1 hc.2.1 hc.2.2 q
def wQ{g:Int->Int}
 (rule:∀(i:Int) (t:Tok) (s:Shared) (Q:Vq) (E:Vq),Q (.int (g i) s.toks) {s with toks:=s.toks+1}->wpAny (model X.prog X.w) X.A (f (.int i t)) Q E s) :
 o6 X f (rU λi=>.int (g i)):=by
 intro pins s σ H x v Q I rx h;obtain⟨i,rfl,q⟩:=h;obtain⟨t,rfl⟩:=rx;exact rule i t s _ _ ⟨.int (g i),H,I.tok _,⟨_,rfl⟩,q⟩
def Yu:o6 X (unaryOp .USub) (rU λi=>.int (-i)):=wQ λ_ _ _ _ _ q=>neg_int q
end
def UI:V->V->Bool
 |.non,.non=>true| .non,.int _=>true| .int _,.non=>true| .non,.bl _=>true| .bl _,.non=>true| .non,.str _=>true| .str _,.non=>true
 |.int _,.int _=>true| .bl _,.bl _=>true| .str _,.str _=>true| .byt _,.byt _=>true
 |.int _,.str _=>true| .str _,.int _=>true| .bl _,.str _=>true| .str _,.bl _=>true
 |_,_=>false
def xj:R2:=λx y H Q=>UI x y=true/\Q (.bl (decide (x=y))) H
def xi:R2:=λx y H Q=>UI x y=true/\Q (.bl (!decide (x=y))) H
def OW{i j:Int}:decide (V.int i=V.int j)=(i ==j):=by
 rw[cK];simp
def Tw:decide (V.bl i=V.bl j)=(i ==j):=by
 rw[cK];simp
def OV{i j:Str}:decide (V.str i=V.str j)=(i ==j):=by
 rw[cK];simp
def OX:decide (V.byt i=V.byt j)=(i.toList ==j.toList):=by
 rw[cK];cases i;cases j;simp
section
def At(I:Ae X pins σ H s)(q:Q (.bl k) H)(e:k=k'):EP X pins σ Q (.bool k') s:=by
 subst e;exact⟨.bl k,H,I,rfl,q⟩
def jZ:Cf X (compareOp .Eq) xj:=by
 intro pins s σ H x y v u Q I rx ry h;obtain⟨hs,q⟩:=h;cases x with
 |non=>
  cases rx;cases y with
  |non=>cases ry;exact PySem.EqNone.eq_none_none (At I q (by simp))
  |bl j=>cases ry;exact PySem.EqNone.eq_none_bool (At I q (by simp))
  |int j=>obtain⟨t',rfl⟩:=ry;exact PySem.EqNone.eq_none_int (At I q (by simp))
  |str j=>obtain⟨t',rfl⟩:=ry;exact PySem.EqNone.eq_none_str (At I q (by simp))
  |_=>exact absurd (show false=true from hs) a9
 |bl i=>
  cases rx;cases y with
  |non=>cases ry;exact PySem.EqNone.eq_bool_none (At I q (by simp))
  |bl j=>cases ry;exact eq_bool (At I q Tw)
  |str j=>obtain⟨t',rfl⟩:=ry;exact PySem.EqMixed.eq_bool_str (At I q (by simp))
  |_=>exact absurd (show false=true from hs) a9
 |int i=>
  obtain⟨t,rfl⟩:=rx;cases y with
  |non=>cases ry;exact PySem.EqNone.eq_int_none (At I q (by simp))
  |int j=>obtain⟨t',rfl⟩:=ry;exact eq_int (At I q OW)
  |str j=>obtain⟨t',rfl⟩:=ry;exact PySem.EqMixed.eq_int_str (At I q (by simp))
  |_=>exact absurd (show false=true from hs) a9
 |str i=>
  obtain⟨t,rfl⟩:=rx;cases y with
  |non=>cases ry;exact PySem.EqNone.eq_str_none (At I q (by simp))
  |bl j=>cases ry;exact PySem.EqMixed.eq_str_bool (At I q (by simp))
  |int j=>obtain⟨t',rfl⟩:=ry;exact PySem.EqMixed.eq_str_int (At I q (by simp))
  |str j=>obtain⟨t',rfl⟩:=ry;exact eq_str (At I q OV)
  |_=>exact absurd (show false=true from hs) a9
 |byt i=>
  obtain⟨t,rfl⟩:=rx;cases y with
  |byt j=>obtain⟨t',rfl⟩:=ry;exact PySem.W.eq_bytes (At I q OX)
  |_=>exact absurd (show false=true from hs) a9
 |_=>cases y<;>exact absurd (show false=true from hs) a9
def jU:Cf X (compareOp .NotEq) xi:=by
 intro pins s σ H x y v u Q I rx ry h;obtain⟨hs,q⟩:=h;cases x with
 |non=>
  cases rx;cases y with
  |non=>cases ry;exact PySem.EqNone.ne_none_none (At I q (by simp))
  |bl j=>cases ry;exact PySem.EqNone.ne_none_bool (At I q (by simp))
  |int j=>obtain⟨t',rfl⟩:=ry;exact PySem.EqNone.ne_none_int (At I q (by simp))
  |str j=>obtain⟨t',rfl⟩:=ry;exact PySem.EqNone.ne_none_str (At I q (by simp))
  |_=>exact absurd (show false=true from hs) a9
 |bl i=>
  cases rx;cases y with
  |non=>cases ry;exact PySem.EqNone.ne_bool_none (At I q (by simp))
  |bl j=>cases ry;exact ne_bool (At I q (bW not Tw))
  |str j=>obtain⟨t',rfl⟩:=ry;exact PySem.EqMixed.ne_bool_str (At I q (by simp))
  |_=>exact absurd (show false=true from hs) a9
 |int i=>
  obtain⟨t,rfl⟩:=rx;cases y with
  |non=>cases ry;exact PySem.EqNone.ne_int_none (At I q (by simp))
  |int j=>obtain⟨t',rfl⟩:=ry;exact ne_int (At I q (bW not OW))
  |str j=>obtain⟨t',rfl⟩:=ry;exact PySem.EqMixed.ne_int_str (At I q (by simp))
  |_=>exact absurd (show false=true from hs) a9
 |str i=>
  obtain⟨t,rfl⟩:=rx;cases y with
  |non=>cases ry;exact PySem.EqNone.ne_str_none (At I q (by simp))
  |bl j=>cases ry;exact PySem.EqMixed.ne_str_bool (At I q (by simp))
  |int j=>obtain⟨t',rfl⟩:=ry;exact PySem.EqMixed.ne_str_int (At I q (by simp))
  |str j=>obtain⟨t',rfl⟩:=ry;exact ne_str (At I q (bW not OV))
  |_=>exact absurd (show false=true from hs) a9
 |byt i=>
  obtain⟨t,rfl⟩:=rx;cases y with
  |byt j=>obtain⟨t',rfl⟩:=ry;exact PySem.W.ne_bytes (At I q (bW not OX))
  |_=>exact absurd (show false=true from hs) a9
 |_=>cases y<;>exact absurd (show false=true from hs) a9
def jV:Cf X (compareOp .Lt) (UR λi j=>.bl (decide (i<j))):=Vz λ_ _ _ _ _ _ _ q=>lt_int q
def jW:Cf X (compareOp .LtE) (UR λi j=>.bl (decide (i<=j))):=Vz λ_ _ _ _ _ _ _ q=>le_int q
def jX:Cf X (compareOp .Gt) (UR λi j=>.bl (decide (j<i))):=Vz λ_ _ _ _ _ _ _ q=>gt_int q
def jY:Cf X (compareOp .GtE) (UR λi j=>.bl (decide (j<=i))):=Vz λ_ _ _ _ _ _ _ q=>ge_int q
def PL:Cf X (compareOp .In) (λx y H Q=>∃i j,x=.str i/\y=.str j/\Q (.bl (!(Builtin.Str.occurrences j i 0 j.length 1).isEmpty)) H):=by
 intro pins s σ H x y v u Q I rx ry h;obtain⟨i,j,rfl,rfl,q⟩:=h;obtain⟨t,rfl⟩:=rx;obtain⟨t',rfl⟩:=ry;exact in_str (At I q rfl)
def ZA:Cf X (compareOp .Is) (λx y H Q=>y=.non/\Q (.bl (decide (x=.non))) H):=by
 intro pins s σ H x y v u Q I rx ry h;obtain⟨rfl,q⟩:=h;cases ry;refine is_none_gen (At I q ?_);cases x<;>first
  |(cases rx;rfl)
  |(obtain⟨t,rfl⟩:=rx;rfl)
def Vx:Cf X (compareOp .IsNot) (λx y H Q=>y=.non/\Q (.bl (!decide (x=.non))) H):=by
 intro pins s σ H x y v u Q I rx ry h;obtain⟨rfl,q⟩:=h;cases ry;refine isnot_none_gen (At I q ?_);cases x<;>first
  |(cases rx;rfl)
  |(obtain⟨t,rfl⟩:=rx;rfl)
def Vt{op:CmpOp}{r:R2}(ho:Cf X (compareOp op) r)(ha:PE X a ta)(hb:PE X b tb)(hm:behindInMarks op b=false):PE X (.Compare a [op] [b] pos) (iT r ta tb):=by
 intro pins s σ H Q I h;exact wpAny_Compare1 (eh ha hb I h λv u s2 x y H2 I2 rx ry q=>ho pins s2 σ H2 x y v u Q I2 rx ry q) hm
def QY(t:TE):TT:=λσ H Q=>t σ H λx H'=>∃k,x=.bl k/\Q k H'
def UV(ho:Cf X (compareOp op) r)(ha:PE X a ta)(hb:PE X b tb)(hm:behindInMarks op b=false):PT X (.Compare a [op] [b] pos) (QY (iT r ta tb)):=by
 intro pins s σ H Q I h;refine wpAny_isTrue_Compare1 (Bg (ha pins s σ H _ I h) λv s1 ⟨x,H1,I1,r1,q1⟩=>Bg (hb pins s1 σ H1 _ I1 q1) λu s2 ⟨y,H2,I2,r2,q2⟩=>
  Bg (ho pins s2 σ H2 x y v u _ I2 r1 r2 q2) λc s3 ⟨z,H3,I3,r3,k,e,q3⟩=>?_) hm
 subst e;cases r3;exact cN ⟨H3,I3,q3⟩
def M8(r r':R2)(ta tb tc:TE):TE:=λσ H Q=>ta σ H λx H1=>tb σ H1 λy H2=>r x y H2 λz H3=>∃k,z=.bl k/\
 (if k=true then tc σ H3 λw' H4=>r' y w' H4 Q else Q (.bl false) H3)
def RV(ho:Cf X (compareOp op) r)(ho':Cf X (compareOp op') r')(ha:PE X a ta)(hb:PE X b tb)(hc:PE X c tc)
 (hm:lastMarks [op,op'] [b,c]=false:=by with_unfolding_all rfl):PE X (.Compare a [op,op'] [b,c] pos) (M8 r r' ta tb tc):=by
 intro pins s σ H Q I h;refine Compare_chain (Bg (ha pins s σ H _ I h) λv s1 ⟨x,H1,I1,r1,q1⟩=>chain_link (Bg (hb pins s1 σ H1 _ I1 q1) λu s2 ⟨y,H2,I2,r2,q2⟩=>
  Bg (ho pins s2 σ H2 x y v u _ I2 r1 r2 q2) λd s3 ⟨z,H3,I3,r3,k,e,q3⟩=>?_)) hm
 subst e;cases r3;refine cN ?_;cases k with
 |false=>exact ite_ff ⟨.bl false,H3,I3,rfl,q3⟩
 |true=>exact ite_tt (chain_last (Bg (hc pins s3 σ H3 _ I3 q3) λw' s4 ⟨z',H4,I4,r4,q4⟩=>ho' pins s4 σ H4 y z' u w' Q I4 r2 r4 q4))
def R3(ho:Cf X (compareOp op) r)(ho':Cf X (compareOp op') r')(ha:PE X a ta)(hb:PE X b tb)(hc:PE X c tc)
 (hm:lastMarks [op,op'] [b,c]=false:=by with_unfolding_all rfl):PT X (.Compare a [op,op'] [b,c] pos) (QY (M8 r r' ta tb tc)):=by
 intro pins s σ H Q I h;refine isTrue_chain (Bg (ha pins s σ H _ I h) λv s1 ⟨x,H1,I1,r1,q1⟩=>test_link (Bg (hb pins s1 σ H1 _ I1 q1) λu s2 ⟨y,H2,I2,r2,q2⟩=>
  Bg (ho pins s2 σ H2 x y v u _ I2 r1 r2 q2) λd s3 ⟨z,H3,I3,r3,k,e,q3⟩=>?_)) hm
 subst e;cases r3;refine cN ?_;cases k with
 |false=>
  obtain⟨k',e',q'⟩:=q3;cases e';exact ite_ff ⟨H3,I3,q'⟩
 |true=>
  refine ite_tt (test_last (Bg (hc pins s3 σ H3 _ I3 q3) λw' s4 ⟨z',H4,I4,r4,q4⟩=>Bg (ho' pins s4 σ H4 y z' u w' _ I4 r2 r4 q4) λd' s5 ⟨z2,H5,I5,r5,k2,e2,q5⟩=>?_));subst e2;cases r5;exact cN ⟨H5,I5,q5⟩
def fv(K:Frag)(x:V)(H:Hp)(k:Bool):Prop:=
 match x with
 |.non=>k=false
 |.bl b=>k=b
 |.int i=>k=(i !=0)
 |.str y=>y.length<=sizeLine/\k=((y.length:Int) !=0)
 |.byt y=>y.size<=sizeLine/\k=((y.size:Int) !=0)
 |.ref p=>(∃xs,D8 K H p xs/\k=!xs.isEmpty)\/(∃xs,DG K H p xs/\k=!xs.isEmpty)\/∃kvs,H p=some (.dK kvs)/\k=!kvs.isEmpty
 |_=>False
def Np{κ:Type}{kvs:List (κ×V)}{vs:List (κ×Value)}(r:KV kvs vs):(!vs.isEmpty)=!kvs.isEmpty:=by
 cases r<;>rfl
def HR(r:Aq xs its):(!its.toArray.isEmpty)=!xs.isEmpty:=by
 cases r<;>simp
def Fk:(sizeLine:Nat)<2^63:=by rw[dE];decide
def Yy:tI X (λx H Q=>∃k,fv X.K x H k/\Q k H):=by
 intro pins s σ H x v Q I rx h;obtain⟨k,e,q⟩:=h;have hl:=Fk;have hs:=dE;cases x with
 |non=>
  cases rx;have e':=e;subst e';exact truthy_none ⟨H,I,q⟩
 |bl b=>
  cases rx;have e':=e;subst e';exact cN ⟨H,I,q⟩
 |int i=>
  obtain⟨t,rfl⟩:=rx;have e':=e;subst e';exact PySem.P.truthy_int ⟨H,I,q⟩
 |str y=>
  obtain⟨t,rfl⟩:=rx;obtain⟨hy,e'⟩:y.length<=sizeLine/\k=((y.length:Int) !=0):=e;subst e';exact PySem.P.truthy_str (by lia) ⟨H,I.tok _,q⟩
 |byt y=>
  obtain⟨t,rfl⟩:=rx;obtain⟨hy,e'⟩:y.size<=sizeLine/\k=((y.size:Int) !=0):=e;subst e';exact PySem.W.truthy_bytes (by lia) ⟨H,I.tok _,q⟩
 |ref p=>
  cases rx;have e':=e;rcases e' with⟨xs,hx,e'⟩|⟨xs,hx,e'⟩|⟨kvs,hx,e'⟩
  ·subst e';obtain⟨its,r,pl,hz⟩:=I.list hx;have hlen:=r.length;exact wpAny_truthy_list pl.isList (by simp only[List.size_toArray];lia) ⟨H,I.tok _,by rw[HR r];exact q⟩
  ·subst e';obtain⟨its,r,pl,hz⟩:=I.tuple hx;have hlen:=r.length;exact truthy_tuple pl (by simp only[List.size_toArray];lia) ⟨H,I.tok _,by rw[HR r];exact q⟩
  subst e';obtain⟨hz,hS,vs,r,m⟩:kvs.length<=sizeLine/\(p ==sysModules)=false/\∃vs,KV kvs vs/\s.heap.DictOf (Aj X.prog X.w) p vs:=I.hok p _ hx;have hlen:=Paired.length r;exact wpAny_truthy_dict hS m (by lia) ⟨H,I.tok _,by rw[Np r];exact q⟩
 |_=>exact(show False from e).elim
def R1(ha:PE X a ta)(he:∀whole,isTrue a X.env whole=(do let v ←whole;standAt a.pos;holding [v] (truthy v))) :
 PT X a (λσ H Q=>ta σ H λx H'=>∃k,fv X.K x H' k/\Q k H'):=by
 intro pins s σ H Q I h;exact isTrue_plain (Bg (ha pins s σ H _ I h) λv s1 ⟨x,H1,I1,r1,q1⟩=>Yy pins s1 σ H1 x v Q I1 r1 q1) (he _)
def MX:Cf X (binaryOp .Add) (λx y H Q=>∃i j,x=.str i/\y=.str j/\i.length+j.length<=sizeLine/\Q (.str (i++j)) H):=by
 intro pins s σ H x y v u Q I rx ry h;obtain⟨i,j,rfl,rfl,hz,q⟩:=h;obtain⟨t,rfl⟩:=rx;obtain⟨t',rfl⟩:=ry;exact add_str (λt' tk=>⟨.str (i++j),H,I.tok _,⟨_,rfl⟩,q⟩) hz
def DP(r:Aq [x] us):∃u,us=[u]/\AA x u:=by
 cases r with
 |cons r1 r2=>cases r2;exact⟨_,rfl,r1⟩
def EQ(r:Aq [x,y] us):∃u w',us=[u,w']/\AA x u/\AA y w':=by
 cases r with
 |cons r1 r2=>
  cases r2 with
  |cons r3 r4=>cases r4;exact⟨_,_,rfl,r1,r3⟩
def Qx(hc:X.calm=true):Br X (.builtin "max") (λxs H Q=>∃i j,xs=[.int i,.int j]/\Q (.int (if j>i then j else i)) H):=by
 intro pins s σ H xs us Q I r h;obtain⟨i,j,rfl,q⟩:=h;obtain⟨u,w',rfl,⟨t,rfl⟩,⟨t',rfl⟩⟩:=EQ r;refine max_two_ints (I.ok.hd hc) λh' tk k=>⟨_,H,I.kept k,?_,q⟩;by_cases hj:j>i
 ·rw[if_pos hj,if_pos hj];exact⟨_,rfl⟩
 rw[if_neg hj,if_neg hj];exact⟨_,rfl⟩
def Qv(hc:X.calm=true):Br X (.builtin "min") (λxs H Q=>∃i j,xs=[.int i,.int j]/\Q (.int (if j<i then j else i)) H):=by
 intro pins s σ H xs us Q I r h;obtain⟨i,j,rfl,q⟩:=h;obtain⟨u,w',rfl,⟨t,rfl⟩,⟨t',rfl⟩⟩:=EQ r;refine min_two_ints (I.ok.hd hc) λh' tk k=>⟨_,H,I.kept k,?_,q⟩;by_cases hj:j<i
 ·rw[if_pos hj,if_pos hj];exact⟨_,rfl⟩
 rw[if_neg hj,if_neg hj];exact⟨_,rfl⟩
def J0:Br X (.type "int") (λxs H Q=>(∃i,xs=[.int i]/\Q (.int i) H)\/∃k,xs=[.bl k]/\Q (.int (if k then 1 else 0)) H):=by
 intro pins s σ H xs us Q I r h;rcases h with⟨i,rfl,q⟩|⟨k,rfl,q⟩
 ·obtain⟨u,rfl,t,rfl⟩:=DP r;exact call_int_int ⟨.int i,H,I,⟨_,rfl⟩,q⟩
 obtain⟨u,rfl,r1⟩:=DP r;cases r1;exact call_int_bool ⟨.int (if k then 1 else 0),H,I.tok _,⟨_,rfl⟩,q⟩
end
end L2
namespace L2
open PySem PySem.Spec PyProof.Rows
structure NO(h:Heap)(x dx C:Addr)(mA:Str->Option Value):Prop where
 obj:h.get? x=some (instObj C dx)
 ns:h.Ns1 dx mA
 ne:dx≠x
def EE{h:Heap}(n:h.Ns1 dx mA):∃od,h.get? dx=some od/\∀name,lookIn name od=some (mA name):=by
 obtain⟨o,es,ep,ho,hd,hk,_,hm⟩:=n;refine⟨o,ho,λname=>?_⟩;have e:=hm name;unfold nsFind findBy at e;rw[←Array.find?_toList]at e;unfold lookIn;rw[hd];dsimp only;split
 ·rename_i y q;rw[q]at e;exact bW some e
 rename_i q;rw[q]at e;have a:es.toList.any (·.refKey)=false:=by
  rw[gU];intro y hy;obtain⟨z,t,hkey⟩:=hk y (g0.mp hy);simp[DictEntry.refKey,hkey]
 have a': ¬es.toList.any (·.refKey)=true:=by rw[a];exact a9
 rw[if_neg a'];exact bW some e
def NO.look(I:NO h x dx C mA):∃od,PySem.W.InstAt h x (instObj C dx) C (some od)/\∀name,lookIn name od=some (mA name):=
 let ⟨od,ho,hl⟩:=EE I.ns
 ⟨od,⟨I.obj,rfl,rfl,ho⟩,hl⟩
section
variable {prog:Program}{w:World}{A:Around}{E:Vq}{s:Shared}{K:Fq}{x dx C f:Addr}{mA:Mq}{name:Str}{v:Value}
def Wj(X:K.In s.heap)(I:NO s.heap x dx C mA)(hg:plainGet K C name=true)(hh:hasDictIn K C=true)
 (ha:findIn K (.ref C) name=some none)(hv:mA name=some v)(hv':PySem.W.handedIn v=true)(h:Q v {s with toks:=s.toks+1}) :
 wpAny (model prog w) A (getAttr (.ref x) name expr) Q E s:=by
 obtain⟨od,J,hl⟩:=I.look;exact PySem.W.get_value X J (PySem.W.plainGet_of hg).1 (PySem.W.findObj_own hh ha rfl (by rw[hl,hv])) hv' h
def SU(X:K.In s.heap)(I:NO s.heap x dx C mA)(hg:plainGet K C name=true)
 (hf:findIn K (.ref C) name=some (some (.ref f)))(ht:isFn K (.ref f)=true)(hv:mA name=none)(h:Q (.ref f,[.ref x]) s) :
 wpAny (model prog w) A (getMethod (.ref x) name pl) Q E s:=by
 obtain⟨od,J,hl⟩:=I.look;exact PySem.W.method_fn X J (PySem.W.plainGet_of hg).1 (PySem.W.plainGet_of hg).2 hf (aI.mp ht) (by show(lookIn name od).map (·.isSome)=some false;rw[hl,hv];rfl) h
def UE(X:K.In s.heap)(I:NO s.heap x dx C mA)
 (hs:findIn K (.ref C) "__setattr__"=some (some (.builtin "object.__setattr__")))(hp:PySem.W.plainOver K C=true)(ht:PySem.W.takerIn K C name=some none)(hh:hasDictIn K C=true)
 (hw:PySem.Within mA ns)(hsz:ns.length<=sizeLine)
 (h:∀h',NO h' x dx C (λy=>if y=name then some v else mA y)->Heap.SameBut dx s.heap h'->Q () {s with heap:=h',toks:=s.toks+2}) :
 wpAny (model prog w) A (setAttr (.ref x) name v) Q E s:=by
 obtain⟨od,J,hl⟩:=I.look;refine PySem.W.set_plain X J hs (PySem.W.osa_open (s:={s with toks:=s.toks+1}) (r:=none) X J hp ht λb=>?_);obtain⟨cd,hc,hd'⟩:=PySem.W.any_some hh;have hx:=I.obj;refine aA (aJ (aA (aA (gF hx (aA (PySem.W.Looks.here (s:={s with toks:=s.toks+1}) (PySem.W.looks_clsIn X hc) ?_))))));rw[hd'];refine aJ (a:=some dx) (aA (aJ (aA ?_)));refine wpAny_nsSet1 (s:={s with toks:=s.toks+1}) I.ns λh' hn2 hs2=>?_;obtain⟨oD,esD,epD,hoD,hdD,hcD⟩:=hn2.count (PySem.Within.cons name v hw);refine aA (wpAny_lookBehind hoD (by rw[hdD];exact pastItsLine_dict (b9 hcD (by rw[cC];lia))) ?_);exact aJ (h _ ⟨(hs2.2 _ (bL I.ne)).trans I.obj,hn2,I.ne⟩ hs2)
def Sj(X:K.In s.heap)(hm:makesIn K C=true)
 (hi:findIn K (.ref C) "__init__"=some (some (.ref f)))(hf:typeIn K (.ref f)=some (.type "function"))
 (h:codeAny (model prog w) (A.under (.builtin "type.__call__" ⟨.ref C::vs,kw⟩)) (.call (.ref f) ⟨.ref (s.heap.objs.size+1)::vs,kw⟩) (PySem.W.InitBack (s.heap.objs.size+1) R)
   {s with heap:=(s.heap.push emptyDict).push (instObj C s.heap.objs.size)}) :
 codeAny (model prog w) A (.call (.ref C) ⟨vs,kw⟩) R s:=by
 obtain⟨hh,g,d,t,os⟩:=s;exact PySem.W.make_core (PySem.W.makes_of X hm) (PySem.W.looks_findIn X hi) (λself=>PySem.W.bind_fn X self hf) (.inl rfl) h
def PX(X:K.In s.heap)(hm:makesIn K C=true)
 (hi:findIn K (.ref C) "__init__"=some (some (.builtin "object.__init__")))
 (hb:∀self,Looks (model prog w) s.heap (bindSpecial (.builtin "object.__init__") self) (.builtin "object.__init__",[self]))
 (h:codeAny (model prog w) (A.under (.builtin "type.__call__" ⟨[.ref C],[]⟩)) (.call (.builtin "object.__init__") ⟨[.ref (s.heap.objs.size+1)],[]⟩) (PySem.W.InitBack (s.heap.objs.size+1) R)
   {s with heap:=(s.heap.push emptyDict).push (instObj C s.heap.objs.size)}) :
 codeAny (model prog w) A (.call (.ref C) ⟨[],[]⟩) R s:=by
 obtain⟨hh,g,d,t,os⟩:=s;exact PySem.W.make_core (PySem.W.makes_of X hm) (PySem.W.looks_findIn X hi) hb (.inr ⟨rfl,rfl⟩) h
end
noncomputable def DH(f:Str)(v:V):List (Str×V)->List (Str×V)
 |[]=>[(f,v)]
 |(g,x)::r=>if g=f then(g,v)::r else(g,x)::DH f v r
theorem GD(f g:Str)(v:V):∀fs:List (Str×V),(DH f v fs).lookup g=if g=f then some v else fs.lookup g
 |[]=>by
  show List.lookup g [(f,v)]=_;by_cases h:g=f
  ·have hb:=aI.mpr h;simp only[List.lookup,hb,if_pos h]
  have hb:=bO.mpr h;simp only[List.lookup,hb,if_neg h]
 |(k,x)::r=>by
  have ih:=GD f g v r;rw[show DH f v ((k,x)::r)=(if k=f then(k,v)::r else(k,x)::DH f v r) from rfl];by_cases hk:k=f
  ·rw[if_pos hk];by_cases h:g=k
   ·have hb:=aI.mpr h;simp only[List.lookup,hb,if_pos (h.trans hk)]
   have hb:=bO.mpr h;simp only[List.lookup,hb,if_neg (λe:g=f=>h (e.trans hk.symm))]
  rw[if_neg hk];by_cases h:g=k
  ·have hb:=aI.mpr h;simp only[List.lookup,hb,if_neg (λe:g=f=>hk (h.symm.trans e))]
  have hb:=bO.mpr h;simp only[List.lookup,hb];exact ih
theorem Gk(f:Str)(v:V):∀fs:List (Str×V),f∈(DH f v fs).map (·.1)/\∀g,g∈fs.map (·.1)->g∈(DH f v fs).map (·.1)
 |[]=>⟨by simp[DH],λg h=>by simp at h⟩
 |(k,x)::r=>by
  obtain⟨i1,i2⟩:=Gk f v r;rw[show DH f v ((k,x)::r)=(if k=f then(k,v)::r else(k,x)::DH f v r) from rfl];by_cases hk:k=f
  ·rw[if_pos hk];subst hk;exact⟨by simp,λg h=>by simpa using h⟩
  rw[if_neg hk];refine⟨?_,λg h=>?_⟩
  ·rw[aX];exact aD _ i1
  rw[aX]at h ⊢;rcases aH.mp h with e|e
  ·exact List.mem_cons.mpr (.inl e)
  exact aD _ (i2 g e)
theorem GH(f:Str)(v:V):∀fs:List (Str×V),(DH f v fs).length<=fs.length+1
 |[]=>by simp[DH]
 |(k,x)::r=>by
  have ih:=GH f v r;rw[show DH f v ((k,x)::r)=(if k=f then(k,v)::r else(k,x)::DH f v r) from rfl];by_cases hk:k=f
  ·rw[if_pos hk,cC,cC];lia
  rw[if_neg hk,cC,cC];lia
def EM.some_of(r:EM (some v) o):∃u,o=some u/\AA v u:=by
 cases o with
 |none=>exact(show False from r).elim
 |some u=>exact⟨u,rfl,r⟩
def EM.none_of(r:EM none o):o=none:=by
 cases o with
 |none=>rfl
 |some u=>exact(show False from r).elim
def Js(r:AA v u):PySem.W.handedIn u=true:=by
 cases v with
 |non=>cases (show u=Value.none from r);rfl
 |bl b=>cases (show u=Value.bool b from r);rfl
 |int i=>obtain⟨t,e⟩:=(show ∃t,u=Value.int i t from r);cases e;rfl
 |str x=>obtain⟨t,e⟩:=(show ∃t,u=Value.str x t from r);cases e;rfl
 |byt b=>obtain⟨t,e⟩:=(show ∃t,u=Value.bytes b t from r);cases e;rfl
 |flt b=>obtain⟨t,e⟩:=(show ∃t,u=Value.float b t from r);cases e;rfl
 |ref a=>cases (show u=Value.ref a from r);rfl
 |ty n=>cases (show u=Value.type n from r);rfl
section
def Hi(hok:D9 P w H h)(e:H a=some (.ins C dx fs)):∃mA,A5 (NO h a dx C mA) (∀f,EM (fs.lookup f) (mA f)) (PySem.Within mA (fs.map (·.1))) (fs.length<=1000) (H dx=some (.own a)):=by
 obtain⟨d,z,ne,ob,mA,n,r,q⟩:=(show AN P w H h a (.ins C dx fs) from hok a _ e);exact⟨mA,⟨ob,n,ne⟩,r,q,z,d⟩
end
structure Ug(K:Frag)(C:Addr):Prop where
 pg:plainGet K C Str.empty=true
 hd:hasDictIn K C=true
 po:PySem.W.plainOver K C=true
 sa:findIn K (.ref C) "__setattr__"=some (some (.builtin "object.__setattr__"))
def Ug.get{K:Fq}{C:Addr}(c:Ug K C)(f:Str):plainGet K C f=true:=c.pg
def Gv(K:Frag)(C:Addr)(f:Str):Prop:=findIn K (.ref C) f=some none
def Gv.taker{K:Fq}{C:Addr}{f:Str}(n:Gv K C f):PySem.W.takerIn K C f=some none:=by
 unfold PySem.W.takerIn;rw[show findIn K (.ref C) f=some none from n];rfl
structure gj(K:Frag)(C:Addr)(m:Str)(f:Addr):Prop where
 at_:findIn K (.ref C) m=some (some (.ref f))
 fn:isFn K (.ref f)=true
 kp:keepIn K (.ref f)=true
section
variable {f:Str}
def N1(I:Ae X pins σ H s)(e:H a=some (.ins C dx fs))(c:Ug X.K C)(n:Gv X.K C f)(l:fs.lookup f=some v)
 (h:∀u s',Ae X pins σ H s'->AA v u->Q u s'):wpAny (model X.prog X.w) A (getAttr (.ref a) f b) Q E s:=by
 obtain⟨mA,O,r,_,_,_⟩:=Hi I.hok e;obtain⟨u,hu,ru⟩:=EM.some_of (v:=v) (o:=mA f) (by rw[←l];exact r f);exact Wj I.kIn O (c.get f) c.hd n hu (Js ru) (h u _ (I.tok _) ru)
def HV{m:Str}(I:Ae X pins σ H s)(e:H a=some (.ins C dx fs))(c:Ug X.K C)(k:gj X.K C m g)(l:fs.lookup m=none)
 (h:Q (.ref g,[.ref a]) s):wpAny (model X.prog X.w) A (getMethod (.ref a) m pl) Q E s:=by
 obtain⟨mA,O,r,_,_,_⟩:=Hi I.hok e;have hn:=EM.none_of (by rw[←l];exact r m);exact SU I.kIn O (c.get m) k.at_ k.fn hn h
def MG(I:Ae X pins σ H s)(e:H a=some (.ins C dx fs))(c:Ug X.K C)(n:Gv X.K C f)(hl:fs.length<1000)(ry:AA y u)
 (h:∀s',Ae X pins σ (upd H a (.ins C dx (DH f y fs))) s'->Q () s'):wpAny (model X.prog X.w) A (setAttr (.ref a) f u) Q E s:=by
 obtain⟨mA,O,r,wi,_,ho⟩:=Hi I.hok e;have hz:(fs.map (·.1)).length<=sizeLine:=by rw[aL,dE];lia
 refine UE I.kIn O c.sa c.po n.taker c.hd wi hz λh' O' sb=>h _ ?_;have hd:∃o,h'.get? dx=some o:=let ⟨o,_,_,e',_⟩:=O'.ns;⟨o,e'⟩;refine I.write (x:=a) (e:=dx) (by rw[e];exact True.intro) (.inr ho) (λb q hb z=>(sb.2 b hb).trans z) hd ?_;refine⟨by rw[Aa O.ne];exact ho,?_,O.ne,O'.obj,_,O'.ns,λg=>?_,λg hg=>?_⟩
 ·have:=GH f y fs;lia
 ·show EM ((DH f y fs).lookup g) (if g=f then some u else mA g);rw[GD];by_cases q:g=f
  ·rw[if_pos q,if_pos q];exact ry
  rw[if_neg q,if_neg q];exact r g
 by_cases q:g=f
 ·rw[q];exact(Gk f y fs).1
 refine(Gk f y fs).2 g (wi g λz=>hg ?_);show(if g=f then some u else mA g)=none;rw[if_neg q];exact z
def Ae.made(I:Ae X pins σ H s):Ae X pins σ (upd (upd H s.heap.objs.size (.own (s.heap.objs.size+1))) (s.heap.objs.size+1) (.ins C s.heap.objs.size []))
 {s with heap:=(s.heap.push emptyDict).push (instObj C s.heap.objs.size)}:=by
 have e1:(s.heap.push emptyDict).get? s.heap.objs.size=some emptyDict:=aV s.heap rfl;have e2:((s.heap.push emptyDict).push (instObj C s.heap.objs.size)).get? (s.heap.objs.size+1)=some (instObj C s.heap.objs.size):=by
  have:=aV (s.heap.push emptyDict) (o:=instObj C s.heap.objs.size) rfl
  rwa[cT]at this
 have e3:(s.heap.push emptyDict).Ns s.heap.objs.size (λ_=>none):=⟨emptyDict,#[],_,e1,rfl,(λe he=>absurd he (by simp)),λ_=>rfl⟩;have I1:=I.laid (a:=s.heap.objs.size) (o:=.own (s.heap.objs.size+1)) (h':=s.heap.push emptyDict) (t':=s.toks) (λb u q=>aC _ q) (aN _) ⟨_,e1⟩;refine I1.laid (a:=s.heap.objs.size+1) (o:=.ins C s.heap.objs.size []) (t':=s.toks) (λb u q=>aC _ q) (gY (cT _ _)) ?_;have ne:s.heap.objs.size≠s.heap.objs.size+1:=aQ (dY _);refine⟨by rw[Aa ne,Ab],dX _,ne,e2,λ_=>none,(Heap.Ns1.of_empty e3).at λo q=>aC _ q,λ_=>True.intro,λy hy=>absurd rfl hy⟩
def WD{f:Str}(hb:attributeBase e f env (eval e env)=eval e env)
 (h:wpAny (model prog w) A (eval e env) (λo s₁=>wpAny (model prog w) A (getAttr o f true) Q E s₁) E s):wpAny (model prog w) A (eval (.Attribute e f pos) env) Q E s:=
 Attribute_any_ h (by rw[arm_eval_Attribute,hb])
end
def qJ(K:Frag)(ta tv:TE)(f:Str):TS:=λD σ H=>tv σ H λy H1=>ta σ H1 λx H2=>E4 λa C dx fs=>A6 (x=.ref a) (H2 a=some (.ins C dx fs)) (Ug K C) (Gv K C f) (fs.length<1000) (D.nx σ (upd H2 a (.ins C dx (DH f y fs))))
section
variable {f:Str}
def Zl(ha:PE X o ta)(hv:PE X value tv)(hs:swapsWith value (some (.Attribute o f pos')) pos.line X.env=pure false):PS X (.Assign [.Attribute o f pos'] value pos) (qJ X.K ta tv f):=by
 intro pins s σ H D I h;refine fX (Bg (hv pins s σ H _ I h) λu s1 ⟨y,H1,I1,ry,q⟩=>Bg (ha pins s1 σ H1 _ I1 q) λov s2 ⟨x,H2,I2,rx,a,C,dx,fs,ex,ea,c,n,l,q2⟩=>?_) hs;subst ex;obtain rfl:ov=Value.ref a:=rx;exact MG I2 ea c n l ry λs3 I3=>⟨σ,_,I3,q2⟩
end
section
inductive Em(K:Frag)(H:Hp):V->Value->Prop where
 |non:Em K H .non (.type "NoneType")
 |bl (x:Bool):Em K H (.bl x) (.type "bool")
 |int (i:Int):Em K H (.int i) (.type "int")
 |str (x:Str):Em K H (.str x) (.type "str")
 |flt (x:UInt64):Em K H (.flt x) (.type "float")
 |lst {a:Addr}{xs:List V}(e:H a=some (.lst xs)):Em K H (.ref a) (.type "list")
 |frz {a:Addr}{o:Obj}{xs:List V}(e:H a=some (.frz o (.lst xs))):Em K H (.ref a) (.type "list")
 |tup {a:Addr}{xs:List V}(e:H a=some (.tup xs)):Em K H (.ref a) (.type "tuple")
 |dK {a:Addr}{kvs:List (Key×V)}(e:H a=some (.dK kvs)):Em K H (.ref a) (.type "dict")
 |dT {a:Addr}{kvs:List (List Key×V)}(e:H a=some (.dT kvs)):Em K H (.ref a) (.type "dict")
 |ins {a C dx:Addr}{fs:List (Str×V)}(e:H a=some (.ins C dx fs)) (cl:Ug K C) (ha:findIn K (.ref C) "__class__"=some (some (.builtin "object.__class__")))
  (hn:specialIn K (.builtin "object.__class__") "__get__"=some (some (.builtin "getset_descriptor.__get__"))) (htk:takesIn K (.builtin "object.__class__")=some true)
  (hm:mroIn K C (.type "object")=some true):Em K H (.ref a) (.ref C)
def Qf(I:Ae X pins σ H s)(rx:AA x u)(ty:Em X.K H x t)(e:kitOne X.K t c=some b)(h:∀tk,Q (.bool b) {s with toks:=tk}) :
 wpAny (model X.prog X.w) A (call (.builtin "isinstance") [u,c]) Q E s:=by
 cases ty with
 |non=>cases (show u=Value.none from rx);exact kia_one PySem.W.kitx_none I.kIn True.intro e (λz=>nomatch z) h
 |bl y=>cases (show u=Value.bool y from rx);exact kia_one PySem.W.kitx_bool I.kIn True.intro e (λz=>nomatch z) h
 |int i=>obtain⟨t,q⟩:=(show ∃t,u=Value.int i t from rx);cases q;exact kia_one PySem.W.kitx_int I.kIn True.intro e (λz=>nomatch z) h
 |str y=>obtain⟨t,q⟩:=(show ∃t,u=Value.str y t from rx);cases q;exact kia_one PySem.W.kitx_str I.kIn True.intro e (λz=>nomatch z) h
 |flt y=>obtain⟨t,q⟩:=(show ∃t,u=Value.float y t from rx);cases q;exact kia_one PySem.W.kitx_float I.kIn True.intro e (λz=>nomatch z) h
 |@lst a xs ea=>
  cases (show u=Value.ref a from rx);obtain⟨_,_,n,_,h1⟩:=(show AN X.prog X.w H s.heap a (.lst xs) from I.hok a _ ea);exact kia_one PySem.W.kitx_list I.kIn ⟨_,h1,rfl⟩ e (λz=>nomatch z) h
 |@frz a ob xs ea=>
  cases (show u=Value.ref a from rx);obtain⟨_,_,_,n,_,h1⟩:=(show AN X.prog X.w H s.heap a (.frz ob (.lst xs)) from I.hok a _ ea);exact kia_one PySem.W.kitx_list I.kIn ⟨_,h1,rfl⟩ e (λz=>nomatch z) h
 |@tup a xs ea=>
  cases (show u=Value.ref a from rx);obtain⟨_,_,_,p⟩:=(show AN X.prog X.w H s.heap a (.tup xs) from I.hok a _ ea);obtain⟨o,h1,h2,_⟩:=p;exact kia_one PySem.W.kitx_tuple I.kIn ⟨o,h1,h2⟩ e (λz=>nomatch z) h
 |@dK a kvs ea=>
  cases (show u=Value.ref a from rx);obtain⟨_,_,vs,_,p⟩:=(show AN X.prog X.w H s.heap a (.dK kvs) from I.hok a _ ea);obtain⟨o,es,ep,h1,h2,_⟩:=p;exact kia_one kitx_dict I.kIn ⟨o,h1,h2.1⟩ e (λz=>nomatch z) h
 |@dT a kvs ea=>
  cases (show u=Value.ref a from rx);obtain⟨_,_,xs,_,o,es,ep,h1,h2,_⟩:=(show AN X.prog X.w H s.heap a (.dT kvs) from I.hok a _ ea);exact kia_one kitx_dict I.kIn ⟨o,h1,h2.1⟩ e (λz=>nomatch z) h
 |@ins a C dx fs ea cl ha hn htk hm=>
  cases (show u=Value.ref a from rx);obtain⟨mA,O,_⟩:=Hi I.hok ea;obtain⟨od,J,_⟩:=O.look;exact kia_one (PySem.W.kitx_own (cl.get _) cl.hd ha hn htk hm) I.kIn J e (λz=>nomatch z) h
end
end L2
namespace L2
open PySem PySem.Spec PyProof.Rows
structure Ba(k:Nat)(A:Around):Prop where
 hd:A.handled=none
 dp:A.depth+3*k+5<recursionLimit
 un:A.units+16*k+200<cLine
 gd:A.guards=some []
def Ba.mono{j k:Nat}(r:Ba k A)(h:j<=k):Ba j A:=⟨r.hd,by have:=r.dp;lia,by have:=r.un;lia,r.gd⟩
theorem Ba.deeper{k:Nat}(r:Ba (k+1) A)(env:Env):Ba k (A.deeper env):=
 ⟨r.hd,by have:=r.dp;show A.depth+1+3*k+5<_;lia,by have:=r.un;show A.units+3+16*k+200<_;lia,by have:=r.gd;first|exact this|simpa[Around.deeper]using this⟩
def Nf{A:Around}:(A.under (.builtin "type.__call__" ⟨.ref C::us,kw⟩)).depth=A.depth+1:=by
 first|rfl|simp[Around.under,Code.weight,Code.isCreation,Code.isGuard,Code.isCaller,Code.frames,Code.isFrame,guardIds]
def Nc{A:Around}:(A.under (.builtin "type.__call__" ⟨.ref C::us,kw⟩)).units=A.units+1:=by
 first|rfl|simp[Around.under,Code.cUnits,Code.frames,Code.isFrame]
def Ba.make{k:Nat}(r:Ba (k+1) A)(C:Addr)(us:List Value)(kw:List (Str×Value)):Ba k (A.under (.builtin "type.__call__" ⟨.ref C::us,kw⟩)):=
 ⟨r.hd,by have:=r.dp;rw[Nf];lia,by have:=r.un;rw[Nc];lia,by have:=r.gd;first|exact this|simpa[Around.under,Code.guards,Code.isGuard,guardIds,pushGuards]using this⟩
theorem Ba.depth{k:Nat}(r:Ba k A):A.depth<recursionLimit:=by have:=r.dp;lia
def pW:TA:=λ_ H Q=>Q [] H
def jb(ta:TE)(tr:TA):TA:=λσ H Q=>ta σ H λx H1=>tr σ H1 λxs H2=>Q (x::xs) H2
section
def MW:PA X [] pW:=λ_ _ _ _ H Q I h=>fL ⟨[],H,I,.nil,h⟩
def FD(ha:PE X e te)(hr:PA X es t)(hs:starEach (e::es) X.env=(false,eval e X.env)::starEach es X.env:=by rfl):PA X (e::es) (jb te t):=by
 intro pos pins s σ H Q I h;rw[hs];show wpAny _ _ (spliced ((false,eval e X.env)::backTo pos (starEach es X.env))) _ _ s;refine gK (Bg (ha pins s σ H _ I h) λu s1 ⟨x,H1,I1,r1,q1⟩=>?_);exact Bg (hr pos pins s1 σ H1 _ I1 q1) λus s2 ⟨xs,H2,I2,r2,q2⟩=>⟨x::xs,H2,I2,.cons r1 r2,q2⟩
def pS(t:TA):TE:=λσ H Q=>t σ H λxs H1=>xs.length<=sizeLine/\∀p,H1 p=none->Q (.ref p) (upd H1 p (.tup xs))
def pY(t:TA):TE:=λσ H Q=>t σ H λxs H1=>xs.length<=sizeLine/\∀p,H1 p=none->Q (.ref p) (upd H1 p (.lst xs))
def Zw{x1}(h:PA X es t):PE X (.Tuple es x1 pos) (pS t):=by
 intro pins s σ H Q I hq;refine wpAny_Tuple_spliced (Bg (h pos pins s σ H _ I hq) λus s1 ⟨xs,H1,I1,r,z,q⟩=>⟨by rw[←r.length];exact z,?_⟩);have hf:=I1.hok.fresh (aN _);refine⟨.ref s1.heap.objs.size,upd H1 s1.heap.objs.size (.tup xs),I1.laid (t':=s1.toks) (λb u e=>aC _ e) (aN _) ?_,rfl,q _ hf⟩;exact⟨z,us,r,⟨_,aV _ rfl,rfl,_,rfl⟩⟩
def RP(h:PA X es t):PE X (.List es pos) (pY t):=by
 intro pins s σ H Q I hq;refine wpAny_List_spliced (Bg (h pos pins s σ H _ I hq) λus s1 ⟨xs,H1,I1,r,z,q⟩=>⟨by rw[←r.length];exact z,?_⟩);have hf:=I1.hok.fresh (aN _);refine⟨.ref s1.heap.objs.size,upd H1 s1.heap.objs.size (.lst xs),I1.laid (t':=s1.toks) (λb u e=>aC _ e) (aN _) ?_,rfl,q _ hf⟩;exact⟨z,us,0,r,aV _ rfl⟩
end
abbrev Sp:=List V->Hp->VK->XK->Prop
abbrev Ye:=List Env->Hp->Shared->XK->Value->Shared->Prop
structure FX(P:Program)(w:World)(K:Frag)(mg:Str->Option Value)(base:Heap)(A:Around)(outer:List Env)(s:Shared)(H:Hp):Prop where
 frames:A.frames=some outer
 mod:Mod K mg base
 bs:∀b o,base.get? b=some o->s.heap.get? b=some o/\H b=none
 bsz:base.objs.size<=s.heap.objs.size
 funs:s.heap.FunFrames base outer
 frf:∀b∈Dw outer,H b=none
 hok:D9 P w H s.heap
 bare:AllBare s.gens
def CE(outer:List Env)(P:Program)(w:World)(H:Hp)(s:Shared)(Q:VK)(u:Value)(s':Shared):Prop:=
 E2 λv H'=>A6 (s'.os=s.os) (AllBare s'.gens) (Un (Dw outer) [] H H' s.heap s'.heap) (D9 P w H' s'.heap) (AA v u) (Q v H')
def CR(CX:Ye)(outer:List Env)(P:Program)(w:World)(H:Hp)(s:Shared)(Q:VK)(E:XK)(r:Result)(s':Shared):Prop:=
 match r with
 |.ok (.ret u)=>CE outer P w H s Q u s'
 |.ok _=>False
 |.error e=>CX outer H s E e s'
structure DB(P:Program)(w:World)(K:Frag)(mg:Str->Option Value)(base:Heap)(CX:Ye)(k:Nat)(f:Addr)(fd:FuncData)(ps:List Str)(sp:Sp):Prop where
 len:∀vs H Q E,sp vs H Q E->vs.length=ps.length
 run:∀(A:Around) (outer:List Env) (s:Shared) (H:Hp) (args:Args) (us:List Value) (vs:List V) (Q:VK) (E:XK),Ba k A->FX P w K mg base A outer s H->BindsTo s fd args (ps.zip us)->Aq vs us->sp vs H Q E->
  codeAny (model P w) A (.call (.ref f) args) (CR CX outer P w H s Q E) s
def FX.make{P:Program}{w:World}{K:Fq}{mg:Mq}{base:Heap}{A:Around}{outer:List Env}{s:Shared}{H:Hp}(e:FX P w K mg base A outer s H)(C:Addr)(us:List Value)(kw:List (Str×Value)) :
 FX P w K mg base (A.under (.builtin "type.__call__" ⟨.ref C::us,kw⟩)) outer s H:=⟨by first|exact e.frames|(simpa[Around.under,Code.envs,Code.isFrame,pushEnvs]using e.frames),e.mod,e.bs,e.bsz,e.funs,e.frf,e.hok,e.bare⟩
section
def Ae.env0(I:Ae X pins σ H s):FX X.prog X.w X.K X.mg X.base X.A X.stack s H:=
 ⟨I.ok.frames,I.ok.mod,I.bs,b9 I.ok.bsz I.sz,I.stack,I.stkFree,I.hok,I.bare⟩
def Ae.after(I:Ae X pins σ H s)(h:CE X.stack X.prog X.w H s Q u s'):EP X pins σ Q u s':=by
 obtain⟨v,H',os,bare,un,hok,r,q⟩:=h;obtain⟨hh,g,d,t,os'⟩:=s';obtain rfl:os'=s.os:=os;exact⟨v,H',I.call (h':=hh) (g':=g) (d':=d) (t':=t) (ch:=[]) un hok bare (λb z=>absurd z (by simp)),r,q⟩
end
def jd(sp:Sp)(dvs:List V)(E:XK)(t:TA):TE:=λσ H Q=>t σ H λvs H1=>sp (vs++dvs) H1 Q E
def iX(C:Addr)(sp:Sp)(dvs:List V)(E:XK)(t:TA):TE:=λσ H Q=>t σ H λvs H1=>∀x dx,H1 x=none->H1 dx=none->dx≠x->
 sp (.ref x::(vs++dvs)) (upd (upd H1 dx (.own x)) x (.ins C dx [])) (λv H2=>v=.non/\Q (.ref x) H2) E
def CB(K:Frag)(fd:FuncData)(ps:List Str)(ds:List Value):Prop:=
 ∀(s:Shared) (us:List Value),K.In s.heap->(us++ds).length=ps.length->BindsTo s fd ⟨us,[]⟩ (ps.zip (us++ds))
section
variable {k:Nat}{x m:Str}
structure Mk(K:Frag)(C f:Addr):Prop where
 makes:makesIn K C=true
 init:findIn K (.ref C) "__init__"=some (some (.ref f))
 fn:isFn K (.ref f)=true
 kp:keepIn K (.ref C)=true
end
structure DA(N P:List Str)(sc:Scope):Prop where
 kind:sc.kind=.function
 co:sc.isCoroutine=false
 gen:sc.isGenerator=false
 nd:N.Nodup
 pre:N.take P.length=P
 par:∀x∈P,sc.names.lookup x=some .local\/sc.names.lookup x=some .cell
 nofree:∀y∈sc.names,y.2≠ .free
theorem J2{kindOf:Str->Option NameKind}{x:Str}:∀{binds:List (Str×Value)}{m:Mq},(∀v,(x,v)∉binds)->bindL kindOf binds m x=m x
 |[],_,_=>rfl
 |(n,v)::r,m,h=>by
  unfold bindL;rw[J2 λw hw=>h w (aD _ hw)];split
  ·have:x≠n:=by rintro rfl;exact h v aF
   simp[this]
  rfl
theorem J4{kindOf:Str->Option NameKind}{x:Str}:∀{binds:List (Str×Value)}{m:Mq},(∀v,(x,v)∉binds)->bindC kindOf binds m x=m x
 |[],_,_=>rfl
 |(n,v)::r,m,h=>by
  unfold bindC;rw[J4 λw hw=>h w (aD _ hw)];split
  ·rfl
  have:x≠n:=by rintro rfl;exact h v aF
  simp[this]
theorem J3{kindOf:Str->Option NameKind}{x:Str}:∀{P:List Str}{vs:List Value}{i:Nat}{m:Mq},P.Nodup->P[i]?=some x->vs[i]?=some v->kindOf x=some .local->
 bindL kindOf (P.zip vs) m x=some v
 |[],_,_,_,_,h,_,_=>by simp at h
 |_::_,[],_,_,_,_,h,_=>by simp at h
 |p::P,w::vs,0,m,nd,h1,h2,hk=>by
  simp at h1 h2;subst h1;subst h2;show bindL kindOf ((p,w)::P.zip vs) m p=_;unfold bindL;rw[J2 λv hv=>(bH.mp nd).1 (dM hv).1,if_pos hk];simp
 |p::P,w::vs,i+1,m,nd,h1,h2,hk=>by
  show bindL kindOf ((p,w)::P.zip vs) m x=_;unfold bindL;exact J3 (i:=i) (bH.mp nd).2 (by simpa using h1) (by simpa using h2) hk
theorem J5{kindOf:Str->Option NameKind}{x:Str}:∀{P:List Str}{vs:List Value}{i:Nat}{m:Mq},P.Nodup->P[i]?=some x->vs[i]?=some v->kindOf x≠some .local->
 bindC kindOf (P.zip vs) m x=some v
 |[],_,_,_,_,h,_,_=>by simp at h
 |_::_,[],_,_,_,_,h,_=>by simp at h
 |p::P,w::vs,0,m,nd,h1,h2,hk=>by
  simp at h1 h2;subst h1;subst h2;show bindC kindOf ((p,w)::P.zip vs) m p=_;unfold bindC;rw[J4 λv hv=>(bH.mp nd).1 (dM hv).1,if_neg hk];simp
 |p::P,w::vs,i+1,m,nd,h1,h2,hk=>by
  show bindC kindOf ((p,w)::P.zip vs) m x=_;unfold bindC;exact J5 (i:=i) (bH.mp nd).2 (by simpa using h1) (by simpa using h2) hk
def Bs(N:List Str)(vs:List V):St:=vs.map some++List.replicate (N.length-vs.length) none
def Fp(CX:Ye)(P:Program)(w:World)(K:Frag)(mg:Str->Option Value)(base:Heap)(N:List Str)(qual:Str)(scope:Scope)(f:Addr)(cd:Value)(A:Around)(outer:List Env)(s:Shared)(H:Hp)(E:XK):Cx where
 prog:=P
 w:=w
 K:=K
 mg:=mg
 base:=base
 A:=A.deeper (envOfC qual scope s.heap.objs.size f cd)
 N:=N
 s₀:=s
 H₀:=H
 env:=envOfC qual scope s.heap.objs.size f cd
 outer:=outer
 stack:=envOfC qual scope s.heap.objs.size f cd::outer
 ex:=[]
 calm:=true
 fn:=λ_=>true
 pn:=[]
 xe:=λe s'=>wpAny (model P w) (A.deeper (envOfC qual scope s.heap.objs.size f cd)) (leaving (envOfC qual scope s.heap.objs.size f cd) e) (λ_ s''=>CX outer H s E e s'') (λe' s''=>CX outer H s E e' s'') s'
def Mc{sc:Scope}{n:Nat}{x:Str}(h:sc.names.lookup x=some .cell):∃c,(cellsFrom n sc.names []).lookup x=some c:=by
 have q:=PySem.W.cellsFrom_some sc.names n [] (.inl h);exact bX.mp q
def Jq{CX:Ye}{P:Program}{w:World}{K:Fq}{mg:Mq}{base:Heap}{N ps:List Str}{qual:Str}{scope:Scope}{f:Addr}{cd:Value}{A:Around}{outer:List Env}{s s1:Shared}{H:Hp}{E:XK}{us:List Value}{vs:List V}
 (S:DA N ps scope)(hd:A.handled=none)(e0:FX P w K mg base A outer s H)(hl:vs.length=ps.length)(r:Aq vs us)
 (x:InCallC s s.heap.objs.size (bindL (envOfC qual scope s.heap.objs.size f cd).kindOf (ps.zip us) λ_=>none) (cellsFrom (s.heap.objs.size+1) scope.names []) (bindC (envOfC qual scope s.heap.objs.size f cd).kindOf (ps.zip us) λ_=>none) s1) :
 Ae (Fp CX P w K mg base N qual scope f cd A outer s H E) [] (Bs N vs) H s1:=by
 have hpl:ps.length<=N.length:=by have:=bW List.length S.pre;rw[cM]at this;lia
 obtain⟨h1,tk,rfl,hk⟩:=x.done;have noA:∀b:Addr,b∉(Fp CX P w K mg base N qual scope f cd A outer s H E).ex:=λb z=>absurd (show b∈([]:List Addr) from z) (by simp);refine⟨⟨e0.mod,S.kind,rfl,rfl,aN _,λy z c h1 h2=>?_,λy hy=>?_,λy c _ h=>?_,λ_=>hd,Around.frames_deeper e0.frames,.inr ⟨rfl,rfl⟩,λb z=>absurd z (noA b),e0.bs,e0.bsz,λb _ _=>noA b,λb z=>absurd z (noA b),e0.funs,e0.frf⟩,
  rfl,e0.bare,Un.kept hk,⟨_,x.toInCall.ns,λi y v h1 h2 h3=>?_⟩,λy c h=>⟨_,x.cell y c h⟩,e0.hok.fresh (aN _),λy c h=>?_,λp hp=>absurd (show p∈([]:Pq) from hp) (by simp),e0.hok.kept hk,?_⟩
 ·exact name_of_addr x.apart (PySem.mem_of_lookup h1) (PySem.mem_of_lookup h2)
 ·have hy:scope.names.lookup y=some .cell\/scope.names.lookup y=some .free:=hy;rcases hy with hy|hy
  ·exact Mc hy
  exact absurd rfl (S.nofree _ (PySem.mem_of_lookup hy))
 ·exact eP (x.above y c (PySem.mem_of_lookup h))
 ·have hi:i<vs.length:=by
   unfold Bs at h2;by_cases hi:i<vs.length
   ·exact hi
   rw[aU (by simpa using hi)]at h2;rw[cL]at h2;split at h2<;>cases h2
  have ha:vs[i]?=some v:=by
   unfold Bs at h2;rw[aS (by simpa using hi),aM]at h2;cases e:vs[i]? with
   |none=>rw[e]at h2;cases h2
   |some a=>rw[e]at h2;cases h2;rfl
  obtain⟨u,hu,rv⟩:=r.get ha;have hp:ps[i]?=some y:=by
   rw[←S.pre,List.getElem?_take_of_lt (by lia)];exact h1
  have ndP:ps.Nodup:=by rw[←S.pre];exact S.nd.sublist (gV _ _)
  refine⟨u,rv,?_⟩;rcases S.par y (aP hp) with k|k
  ·exact .inl ⟨k,J3 ndP hp hu k⟩
  obtain⟨c,e⟩:=Mc (n:=s.heap.objs.size+1) k;refine .inr ⟨.inl k,c,e,?_⟩;have q:=x.cell y c e;rw[J5 ndP hp hu (by show scope.names.lookup y≠_;rw[k];decide)]at q;exact q
 ·exact e0.hok.fresh (eP (x.above y c (PySem.mem_of_lookup h)))
 unfold Bs;show _=N.length;rw[aR,aL,cX]
 lia
def Ti{CX:Ye}{P:Program}{w:World}{K:Fq}{mg:Mq}{base:Heap}{k:Nat}{f:Addr}{name qual:Str}{params:Arguments}{body:List Stmt}{scope:Scope}{dV kV doc pm cdv ct oc:Value}{an od:Option Addr}
 {osl:Array (Option Value)}{N ps:List Str}{sp:Sp}(lk:K.lookup f=some ⟨oc,od,.func (fnOf name qual params body scope dV kV doc pm an cdv ct),osl⟩)(hcd:codeIn K cdv qual=true)(S:DA N ps scope)
 (len:∀vs H Q E,sp vs H Q E->vs.length=ps.length)
 (hbody:∀(A:Around) (outer:List Env) (s:Shared) (H:Hp) (vs:List V) (Q:VK) (E:XK),Ba k (A.deeper (envOfC qual scope s.heap.objs.size f cdv))->sp vs H Q E->
   ∃t,Df (Fp CX P w K mg base N qual scope f cdv A outer s H E) body t/\t {nx:=λ_ H'=>Q .non H',rt:=Q} (Bs N vs) H) :
 DB P w K mg base CX (k+1) f (fnOf name qual params body scope dV kV doc pm an cdv ct) ps sp:=by
 refine⟨len,λA outer s H args us vs Q E hr e0 hb r hsp=>?_⟩;have hl:=len _ _ _ _ hsp;have KX:K.In s.heap:=e0.mod.kin.keeps λb o e=>(e0.bs b o e).1;have lim:s.heap.NoLimit:=e0.mod.nolimit.keeps λb o e=>(e0.bs b o e).1;have hkind:∀y∈ps.zip us,scope.names.lookup y.1=some .local\/(scope.names.lookup y.1=some .cell/\((cellsFrom (s.heap.objs.size+1) scope.names []).lookup y.1).isSome=true):=λ⟨n,v⟩ hy=>by
  rcases S.par n (dM hy).1 with q|q
  ·exact .inl q
  exact .inr ⟨q,PySem.W.cellsFrom_some _ _ _ (.inl q)⟩
 refine codeAny_call_function hr.depth (KX _ _ lk) rfl S.co S.gen rfl (PySem.W.codeRec_of KX hcd) (hb _ _ _ _ ?_);refine gP S.kind hkind λenv he s1 x=>?_;subst he;refine⟨lim.keeps x.toInCall.keep,codeAny_func ?_⟩;obtain⟨t,ht,hq⟩:=hbody A outer s H vs Q E (hr.deeper _) hsp;have I:Ae (Fp CX P w K mg base N qual scope f cdv A outer s H E) [] (Bs N vs) H s1:=Jq S hr.hd e0 hl r x;refine bN (ht [] s1 (Bs N vs) H _ I hq) (λfl s' hs=>?_) λe s' hs=>hs;have fin:∀{σ':St}{H':Hp}{v:V}{u:Value},Ae (Fp CX P w K mg base N qual scope f cdv A outer s H E) [] σ' H' s'->AA v u->Q v H'->CE outer P w H s Q u s':=
  λ{σ' H' v u} J rv q=>⟨v,H',J.os,J.bare,J.base,J.hok,rv,q⟩
 cases fl with
 |ret u=>
  obtain⟨v,σ',H',J,rv,q⟩:=hs;exact fin J rv q
 |next=>
  obtain⟨σ',H',J,q⟩:=hs;exact fin (v:=V.non) (u:=Value.none) J rfl q
 |brk=>
  obtain⟨_,_,_,q⟩:=hs;exact False.elim q
 |cont=>
  obtain⟨_,_,_,q⟩:=hs;exact False.elim q
end L2
namespace L2
open PySem PySem.Spec PyProof.Rows
section
variable {x:Str}{id T:String}
def qb(r:List V->Hp->VK->Prop)(t:TA):TE:=λσ H Q=>t σ H λvs H1=>r vs H1 Q
def CV(hc:Br X (.builtin id) r)(hg:Gl X x)(hm:X.mg x=none)(hv:bootBuiltins x=some (.builtin id))(ha:PA X (e::es) t)(hn:x≠ "__name__":=by decide)(hdb:(x ==("__debug__" :Str))=false:=by decide)
 (he:starEach (e::es) X.env=(false,eval e X.env)::starEach es X.env:=by rfl)(hpl:(backTo pos (starEach es X.env)).any (·.1)=false:=by rfl):PE X (.Call (.Name x p) (e::es) [] pos) (qb r t):=by
 intro pins s σ H Q I h;refine bS (Ed I hg hm hv ?_ hn hdb);exact g7 (Bg (ha pos pins s σ H _ I h) λus s1 ⟨vs,H1,I1,r1,q1⟩=>hc pins s1 σ H1 vs us Q I1 r1 q1) he hpl
def EC(hc:Br X (.type T) r)(hg:Gl X x)(hm:X.mg x=none)(hv:bootBuiltins x=some (.type T))(ha:PA X (e::es) t)(hn:x≠ "__name__":=by decide)(hdb:(x ==("__debug__" :Str))=false:=by decide)
 (he:starEach (e::es) X.env=(false,eval e X.env)::starEach es X.env:=by rfl)(hpl:(backTo pos (starEach es X.env)).any (·.1)=false:=by rfl):PE X (.Call (.Name x p) (e::es) [] pos) (qb r t):=by
 intro pins s σ H Q I h;refine bS (Ed I hg hm hv ?_ hn hdb);exact cW (Bg (ha pos pins s σ H _ I h) λus s1 ⟨vs,H1,I1,r1,q1⟩=>hc pins s1 σ H1 vs us Q I1 r1 q1) he hpl
end
end L2
namespace HT
open PySem PyProof.Rows
section
open PySem.SeqAt
open PySem.AutoSeq1 (wpAny_loadPart')
open PySem.MeetsSeq PySem.MeetsSeq2 PySem.MeetsSeq3
end
section
def cat_tup(ht:IsTup s.heap t vs.toArray)(hb:IsTup s.heap b ws.toArray)(hv:vs≠[])
 (h1:ws=[]->Q (.ref t) s)(h2:ws≠[]->Q (.ref s.heap.objs.size) {s with heap:=s.heap.push {cls:=.type "tuple",data:=.seq (vs++ws).toArray}})
 (hsz:vs.length+ws.length<=sizeLine):wpAny (model prog w) A (binaryOp .Add (.ref t) (.ref b)) Q E s:=by
 obtain⟨⟨cls,dd,data,sl⟩,ho,hc,n,hd⟩:=id ht;obtain⟨⟨cls2,dd2,data2,sl2⟩,ho2,hc2,n2,hd2⟩:=id hb;simp only at hc hd hc2 hd2;subst hc hd hc2 hd2;have e:vs.toArray++ws.toArray=(vs++ws).toArray:=by simp
 by_cases hw:ws=[]
 ·exact concat_meets ⟨_,ho,rfl⟩ ⟨_,ho2,rfl⟩ gZ seq_tuple_add PySem.F.slot_tuple_add PySem.F.entry_tuple_add (PySem.F.args_tuple_add_2 _ _)
   (tuple_addW1 t b vs.toArray ws.toArray n n2 dd dd2 sl sl2 (by simpa using hv) (by simp[hw])) ⟨ho,ho2,h1 hw⟩
 refine concat_meets ⟨_,ho,rfl⟩ ⟨_,ho2,rfl⟩ gZ seq_tuple_add PySem.F.slot_tuple_add PySem.F.entry_tuple_add (PySem.F.args_tuple_add_2 _ _)
  (tuple_addW2 t b vs.toArray ws.toArray n n2 dd dd2 sl sl2 (by simpa using hv) (by simpa using hw) (by rw[List.size_toArray,List.size_toArray];exact hsz)) ⟨ho,ho2,?_⟩
 rw[e];exact h2 hw
def sIx(n d:Nat):Option Int->Nat
 |none=>d
 |some v=>if v<0 then(v+(n:Int)).toNat else min v.toNat n
end
end HT
namespace L2
open PySem PySem.Spec PyProof.Rows
abbrev TO:=St->Hp->(Option Int->Hp->Prop)->Prop
def PO(X:Cx)(e:Option Expr)(t:TO):Prop:=
 ∀(pins:List (Addr×Obj)) (s:Shared) (σ:St) (H:Hp) (Q:Option Int->Hp->Prop),Ae X pins σ H s->t σ H Q->
  wpAny (model X.prog X.w) X.A (evalPart e X.env) (λu s'=>∃o H',Ae X pins σ H' s'/\IsPart u o/\Q o H') X.xe s
def U4:TO:=λ_ H Q=>Q none H
def iS(t:TE):TO:=λσ H Q=>t σ H λx H1=>∃i,x=.int i/\Q (some i) H1
def Nr:∀{us:List Value},Aq (ns.map V.int) us->IntsAre us ns:=by
 induction ns with
 |nil=>intro us r;rw[hG]at r;cases r;exact .nil
 |cons n ns ih=>
  intro us r;rw[aX]at r;cases r with
  |cons r1 r2=>
   obtain⟨t,e⟩:=r1;subst e;exact .cons n t (ih r2)
section
variable {X:Cx}{e:Expr}{te:TE}{lo hi:Option Expr}{tl th:TO}{pos p2:Pos}
def Va:PO X none U4:=by
 intro pins s σ H Q I h;rw[evalPart_none];exact aJ ⟨none,H,I,.none,h⟩
def UZ(h:PE X e te):PO X (some e) (iS te):=by
 intro pins s σ H Q I hw;rw[evalPart_some];refine Bg (h pins s σ H _ I hw) λu s1 ⟨x,H1,I1,r1,q1⟩=>?_;obtain⟨i,rfl,q⟩:=q1;obtain⟨t,rfl⟩:=r1;exact⟨some i,H1,I1,.int i t,q⟩
def o7(X:Cx)(r:V->Option Int->Option Int->Hp->VK->Prop):Prop:=
 ∀(pins:List (Addr×Obj)) (s:Shared) (σ:St) (H:Hp) (x:V) (v vl vu:Value) (lo hi:Option Int) (sl:Addr) (Q:VK),Ae X pins σ H s->AA x v->s.heap.IsSliceOf sl vl vu .none->IsPart vl lo->IsPart vu hi->r x lo hi H Q->
  ∃T id,typeLookup (.type T) "__getitem__"=pure (some (.builtin id))/\s.TypeIs v T/\wpAny (model X.prog X.w) X.A (getItem v (.ref sl)) (EP X pins σ Q) X.xe s
def wU(r:V->Option Int->Option Int->Hp->VK->Prop)(te:TE)(tl th:TO):TE:=λσ H Q=>te σ H λx H1=>tl σ H1 λl H2=>th σ H2 λu H3=>r x l u H3 Q
def RM(hr:o7 X r)(he:PE X e te)(hl:PO X lo tl)(hu:PO X hi th):PE X (.Subscript e (.Slice lo hi none p2) pos) (wU r te tl th):=by
 intro pins s σ H Q I h;refine Subscript_ (Bg (he pins s σ H _ I h) λv s1 ⟨x,H1,I1,r1,q1⟩=>?_);refine wpAny_Slice (Bg (hl pins s1 σ H1 _ I1 q1) λvl s2 ⟨l,H2,I2,pl,q2⟩=>Bg (hu pins s2 σ H2 _ I2 q2) λvu s3 ⟨u,H3,I3,pu,q3⟩=>?_);rw[evalPart_none];refine aJ ?_;have I4:Ae X pins σ H3 {s3 with heap:=s3.heap.push {cls:=.type "slice",data:=.fields #[vl,vu,.none]}}:=I3.kept (t':=s3.toks) λb ob q=>aC _ q;obtain⟨T,id,hT,ht,hg⟩:=hr pins {s3 with heap:=s3.heap.push {cls:=.type "slice",data:=.fields #[vl,vu,.none]}} σ H3 x v vl vu l u s3.heap.objs.size Q I4 r1 (Heap.IsSliceOf.new ..) pl pu q3;show wpAny (model X.prog X.w) X.A (subscriptTail e (.Slice lo hi none p2) v (.ref s3.heap.objs.size)) (EP X pins σ Q) X.xe {s3 with heap:=s3.heap.push {cls:=.type "slice",data:=.fields #[vl,vu,.none]}};exact tail_any (ops:=[.ref s3.heap.objs.size,v]) ht hT hg (by with_unfolding_all rfl)
def Qr(xs:List V)(lo hi:Option Int):List V:=(xs.drop (HT.sIx xs.length 0 lo)).take (HT.sIx xs.length xs.length hi-HT.sIx xs.length 0 lo)
def LV(xs:List V)(lo hi:Option Int):(Qr xs lo hi).length<=xs.length:=by
 unfold Qr;rw[cM,hJ]
 lia
def jK(K:Frag):R2:=λx y H Q=>E4 λa b xs ys=>A8 (x=.ref a) (y=.ref b) (DG K H a xs) (DG K H b ys) (xs≠[]) (xs.length+ys.length<=sizeLine) (ys=[]->Q (.ref a) H) (ys≠[]->∀p,H p=none->Q (.ref p) (upd H p (.tup (xs++ys))))
def Aq.nil_iff(r:Aq xs us):us=[] ↔ xs=[]:=by
 cases r with
 |nil=>simp
 |cons _ _=>simp
def Os:Cf X (binaryOp .Add) (jK X.K):=by
 intro pins s σ H x y v u Q I rx ry h;obtain⟨a,b,xs,ys,rfl,rfl,ha,hb,hx,hz,q1,q2⟩:=h;cases rx;cases ry;obtain⟨its,r1,p1,_⟩:=I.tuple ha;obtain⟨its2,r2,p2,_⟩:=I.tuple hb;refine HT.cat_tup p1 p2 (λz=>hx (r1.nil_iff.mp z)) (λz=>⟨.ref a,H,I,rfl,q1 (r2.nil_iff.mp z)⟩) (λz=>?_) (by rw[←r1.length,←r2.length];exact hz);refine⟨.ref s.heap.objs.size,_,I.laid (t':=s.toks) (o:=.tup (xs++ys)) (λb ob q=>aC _ q) (aN _) ?_,rfl,q2 (λw=>z (r2.nil_iff.mpr w)) _ (I.hok.fresh (aN _))⟩;exact⟨by rw[aR];exact hz,_,r1.append r2,IsTup.new _ _⟩
end
end L2
namespace L2
open PySem PySem.Spec PyProof.Rows
def Mu(n:Nat)(i:Int):Option Nat:=if 0<=i then(if i<n then some i.toNat else none) else if -(n:Int)<=i then some (i+n).toNat else none
def BH{α:Type}(xs:List α)(i:Int):Option α:=(Mu xs.length i).bind λj=>xs[j]?
def OB{n:Nat}{i:Int}{j:Nat}(h:Mu n i=some j):seqIndex? i n=some j/\j<n/\-(n:Int)<=i/\i<n:=by
 unfold Mu at h;by_cases h0:0<=i
 ·rw[if_pos h0]at h;by_cases h1:i<n
  ·rw[if_pos h1]at h;have e:=bM h;exact⟨by rw[seqIndex_of h0 h1,e],by lia,by lia,h1⟩
  rw[if_neg h1]at h;cases h
 rw[if_neg h0]at h;by_cases h1: -(n:Int)<=i
 ·rw[if_pos h1]at h;have e:=bM h;exact⟨by rw[seqIndex_neg (by lia) h1,e],by lia,h1,by lia⟩
 rw[if_neg h1]at h;cases h
def KL{α:Type}{xs:List α}{i:Int}{v:α}(h:BH xs i=some v):∃j,seqIndex? i xs.length=some j/\xs[j]?=some v/\j<xs.length/\-(xs.length:Int)<=i/\i<xs.length:=by
 unfold BH at h;cases e:Mu xs.length i with
 |none=>rw[e]at h;cases h
 |some j=>
  rw[e]at h;obtain⟨h1,h2,h3,h4⟩:=OB e;exact⟨j,h1,h,h2,h3,h4⟩
def KO(b:Expr):Prop:=∀o i,subscripted b false o i=operate [o,i] (getItem o i)
def mq(X:Cx)(r:R2):Prop:=
 ∀(value slice:Expr) (pins:List (Addr×Obj)) (s:Shared) (σ:St) (H:Hp) (x y:V) (v u:Value) (Q:VK),Ae X pins σ H s->AA x v->AA y u->r x y H Q->
  subscripted slice false v u=operate [v,u] (getItem v u)->wpAny (model X.prog X.w) X.A (subscriptTail value slice v u) (EP X pins σ Q) X.xe s
def o9(X:Cx)(id:String)(r:V->List V->Hp->VK->Prop):Prop:=
 ∀(pins:List (Addr×Obj)) (s:Shared) (σ:St) (H:Hp) (x:V) (xs:List V) (v:Value) (us:List Value) (Q:VK),Ae X pins σ H s->AA x v->Aq xs us->r x xs H Q->
  wpAny (model X.prog X.w) X.A (call (.builtin id) (v::us)) (EP X pins σ Q) X.xe s
section
def jS{r:R2}(hr:mq X r)(ha:PE X a ta)(hb:PE X b tb)(hs:KO b):PE X (.Subscript a b pos) (iT r ta tb):=by
 intro pins s σ H Q I h;exact Subscript_ (eh ha hb I h λv u s2 x y H2 I2 rx ry q=>hr a b pins s2 σ H2 x y v u Q I2 rx ry q (hs _ _))
def qT(K:Frag):R2:=λx y H Q=>E4 λp xs i v=>A5 (x=.ref p) (y=.int i) (D8 K H p xs) (BH xs i=some v) (Q v H)
def qR(K:Frag):R2:=λx y H Q=>E4 λp xs i v=>A5 (x=.ref p) (y=.int i) (DG K H p xs) (BH xs i=some v) (Q v H)
def qS:R2:=λx y H Q=>E3 λz i c=>A5 (x=.str z) (y=.int i) (z.length<=sizeLine) (BH z.cps.toList i=some c) (Q (.str ⟨#[c]⟩) H)
def OA:mq X (qT X.K):=by
 intro value slice pins s σ H x y v u Q I rx ry h hs;obtain⟨p,xs,i,z,rfl,rfl,hq,he,q⟩:=h;cases rx;obtain⟨t,rfl⟩:=ry;obtain⟨its,r,pl,hz⟩:=I.list hq;obtain⟨j,h1,h2,h3,h4,h5⟩:=KL he;obtain⟨w,ew,rw'⟩:=r.get h2;have hl:=r.length;have hn:=Fk;have fin:EP X pins σ Q w s:=⟨z,H,I,rw',q⟩;by_cases h0:0<=i
 ·have hj:i.toNat=j:=by
   rw[seqIndex_of h0 h5]at h1;exact bM h1
  exact item_listR pl.isList h0 (by lia) (by rw[hj];simpa using ew) fin hs
 have hj:(i+(its.toArray.size:Int)).toNat=j:=by
  rw[seqIndex_neg (by lia) h4]at h1;rw[bB,←hl];exact bM h1
 exact subscriptTail_builtinR (x:=w) pl.isList.typeIs slot_list_getitem.lookup
  (wpAny_getItem_list_neg (Q:=λr s'=>r=w/\EP X pins σ Q r s') pl.isList (by lia) (by rw[bB]<;>lia) (by lia) (by rw[hj];simpa using ew) ⟨rfl,fin⟩) hs
def ao:mq X (qR X.K):=by
 intro value slice pins s σ H x y v u Q I rx ry h hs;obtain⟨p,xs,i,z,rfl,rfl,hq,he,q⟩:=h;cases rx;obtain⟨t,rfl⟩:=ry;obtain⟨its,r,pl,hz⟩:=I.tuple hq;obtain⟨j,h1,h2,h3,h4,h5⟩:=KL he;obtain⟨w,ew,rw'⟩:=r.get h2;have hl:=r.length;have hn:=Fk;have fin:EP X pins σ Q w s:=⟨z,H,I,rw',q⟩;exact subscriptTail_builtinR (x:=w) pl.typeIs slot_tuple_getitem.lookup
  (getItem_tuple (j:=j) (Q:=λr s'=>r=w/\EP X pins σ Q r s') pl (by lia) (by lia) (by rw[bB,←hl];exact h1) (by simpa using ew) ⟨rfl,fin⟩) hs
def ap:mq X qS:=by
 intro value slice pins s σ H x y v u Q I rx ry h hs;obtain⟨z,i,c,rfl,rfl,hz,he,q⟩:=h;obtain⟨t,rfl⟩:=rx;obtain⟨t',rfl⟩:=ry;obtain⟨j,h1,h2,h3,h4,h5⟩:=KL he;have hl:z.cps.toList.length=z.length:=by simp[Str.length]
 rw[hl]at h1 h4 h5;have hn:=Fk;exact tail_any (typeIs_str s z t) slot_str_getitem.lookup (getItem_str (c:=c) (by
  have e1:decide (i< -(2^63:Int))=false:=bP (by lia);have e2:decide (i ≥ 2^63)=false:=bP (by lia);rw[e1,e2,Bool.or_false]) (by rw[h1];simpa using h2) ⟨.str ⟨#[c]⟩,H,I.tok _,⟨_,rfl⟩,q⟩) hs
def Na(its:List Value)(n j:Nat)(u:Value):Obj.mapSeq (·.setIfInBounds j u) {cls:=.type "list",data:=.seq its.toArray n}={cls:=.type "list",data:=.seq (its.set j u).toArray n}:=by
 simp[Obj.mapSeq]
theorem Ae.lst{pins:Pq}{σ:St}{H:Hp}{s:Shared}{p:Addr}{xs:List V}(I:Ae X pins σ H s)(h:H p=some (.lst xs)) :
 ∃its n,Aq xs its/\s.heap.get? p=some {cls:=.type "list",data:=.seq its.toArray n}/\xs.length<=sizeLine:=by
 obtain⟨z,its,n,r,e⟩:=I.hok p _ h;exact⟨its,n,r,e,z⟩
def Ae.lstUpd{s:Shared}{xs ys:List V}{its its':List Value}{n n':Nat}(I:Ae X pins σ H s)(h:H p=some (.lst xs))
 (ho:s.heap.get? p=some {cls:=.type "list",data:=.seq its.toArray n})(hf:f {cls:=.type "list",data:=.seq its.toArray n}={cls:=.type "list",data:=.seq its'.toArray n'})(r:Aq ys its')(hz:ys.length<=sizeLine)(t:Nat) :
 Ae X pins σ (upd H p (.lst ys)) {s with heap:=s.heap.update p f,toks:=t}:=by
 have e:(s.heap.update p f).get? p=some {cls:=.type "list",data:=.seq its'.toArray n'}:=by
  rw[cJ f ho (by rw[hf]<;>rfl),hf]
 refine I.write (x:=p) (e:=p) (by rw[h];trivial) (.inl rfl) (λb u hb q=>(bV _ _ (bL hb)).trans q) ⟨_,e⟩ ?_;exact⟨hz,its',n',r,e⟩
def jI:V->V->V->Hp->(Hp->Prop)->Prop:=λo i v H Q=>E4 λp xs k j=>A5 (o=.ref p) (i=.int k) (H p=some (.lst xs)) (Mu xs.length k=some j) (Q (upd H p (.lst (xs.set j v))))
def Ro:mi X jI:=by
 intro pins s σ H o i v ov iv u Q I ro ri rv h;obtain⟨p,xs,k,j,rfl,rfl,hp,hj,q⟩:=h;cases ro;obtain⟨t,rfl⟩:=ri;obtain⟨its,n,r,ho,hz⟩:=I.lst hp;obtain⟨h1,h2,h3,h4⟩:=OB hj;have hl:=r.length;have hn:=Fk;have I':Ae X pins σ (upd H p (.lst (xs.set j v))) {s with heap:=s.heap.update p (Obj.mapSeq (·.setIfInBounds j u))}:=
  I.lstUpd hp ho (Na its n j u) (r.set rv j) (by rw[List.length_set];exact hz) s.toks
 by_cases h0:0<=k
 ·have hk:k.toNat=j:=by
   rw[seqIndex_of h0 h4]at h1;exact bM h1
  exact PySem.W.ki_setAt ho h0 (by lia) (by rw[bB,←hl];exact h4) (by rw[hk];exact⟨_,I',q⟩)
 have hk:(k+(its.toArray.size:Int)).toNat=j:=by
  rw[seqIndex_neg (by lia) h3]at h1;rw[bB,←hl];exact bM h1
 exact PySem.W.ki_setBack ho (by lia) (by rw[bB,←hl];exact h3) (by lia) (by rw[hk];exact⟨_,I',q⟩)
def JJ(lo hi:Option Int)(n:Nat):(sliceBounds lo hi none n).1=((HT.sIx n 0 lo:Nat):Int)/\(sliceBounds lo hi none n).2.1=((HT.sIx n n hi:Nat):Int)/\(sliceBounds lo hi none n).2.2=1:=by
 refine⟨?_,?_,rfl⟩
 ·cases lo with
  |none=>simp[sliceBounds,HT.sIx]
  |some i=>
   simp only[sliceBounds,HT.sIx,Option.getD_none,show(1:Int)>0 by decide,if_true];by_cases h:i<0
   ·simp only[h,if_true]<;>lia
   simp only[h,if_false]<;>lia
 cases hi with
 |none=>simp[sliceBounds,HT.sIx]
 |some i=>
  simp only[sliceBounds,HT.sIx,Option.getD_none,show(1:Int)>0 by decide,if_true];by_cases h:i<0
  ·simp only[h,if_true]<;>lia
  simp only[h,if_false]<;>lia
def Iu(its:List Value)(lo hi:Option Int):slicePick its.toArray lo hi none=((its.drop (HT.sIx its.length 0 lo)).take (HT.sIx its.length its.length hi-HT.sIx its.length 0 lo)).toArray:=by
 obtain⟨h1,h2,h3⟩:=JJ lo hi its.toArray.size;unfold slicePick;rw[h1,h2,h3];simp only[sliceRange_one,pick_run,List.size_toArray]<;>rfl
def qN(K:Frag):V->Option Int->Option Int->Hp->VK->Prop:=λx lo hi H Q=>∃a xs,x=.ref a/\D8 K H a xs/\∀p,H p=none->Q (.ref p) (upd H p (.lst (Qr xs lo hi)))
def Og:o7 X (qN X.K):=by
 intro pins s σ H x v vl vu lo hi sl Q I rx hs pl pu h;obtain⟨a,xs,rfl,hx,q⟩:=h;cases rx;obtain⟨its,r,ht,hz⟩:=I.list hx;have hlen:=r.length;refine⟨"list",_,slot_list_getitem.lookup,ht.isList.typeIs,?_⟩;refine wpAny_getItem_list_slice ht.isList hs pl pu .none (by simp) ?_ (by rw[List.size_toArray]<;>lia);rw[Iu,←hlen];refine⟨.ref s.heap.objs.size,_,I.laid (t':=s.toks) (o:=.lst (Qr xs lo hi)) (λb ob q=>aC _ q) (aN _) ?_,rfl,q _ (I.hok.fresh (aN _))⟩;exact⟨b9 (LV xs lo hi) hz,_,0,(r.drop (HT.sIx xs.length 0 lo)).take (HT.sIx xs.length xs.length hi-HT.sIx xs.length 0 lo),aV _ rfl⟩
def DE:V->Bool
 |.non=>true
 |.bl _=>true
 |.int _=>true
 |.str _=>true
 |_=>false
noncomputable def Wu:V->V->Bool
 |.non,.non=>true
 |.bl a,.bl b=>a ==b
 |.bl a,.int b=>(if a then 1 else 0) ==b
 |.int a,.bl b=>a ==(if b then 1 else 0)
 |.int a,.int b=>a ==b
 |.str a,.str b=>a ==b
 |_,_=>false
def cz(ry:AA y u)(rx:AA x v)(fy:DE y=true)(fx:DE x=true):SeqAt.EqAt A s u v (Wu y x):=by
 cases y with
 |non=>
  cases ry;cases x with
  |non=>cases rx;exact SeqAt.EqAt.same _
  |bl b=>cases rx;exact SeqAt.EqAt.none_bool b
  |int b=>obtain⟨t,rfl⟩:=rx;exact SeqAt.EqAt.none_int b t
  |str b=>obtain⟨t,rfl⟩:=rx;exact SeqAt.EqAt.none_str b t
  |_=>exact absurd (show false=true from fx) a9
 |bl a=>
  cases ry;cases x with
  |non=>cases rx;exact SeqAt.EqAt.bool_none a
  |bl b=>cases rx;exact SeqAt.EqAt.bool_bool a b
  |int b=>obtain⟨t,rfl⟩:=rx;exact SeqAt.EqAt.bool_int a b t
  |str b=>obtain⟨t,rfl⟩:=rx;exact SeqAt.EqAt.bool_str a b t
  |_=>exact absurd (show false=true from fx) a9
 |int a=>
  obtain⟨t',rfl⟩:=ry;cases x with
  |non=>cases rx;exact SeqAt.EqAt.int_none a t'
  |bl b=>cases rx;exact SeqAt.EqAt.int_bool a t' b
  |int b=>obtain⟨t,rfl⟩:=rx;exact SeqAt.EqAt.int_int a t' b t
  |str b=>obtain⟨t,rfl⟩:=rx;exact SeqAt.EqAt.int_str a t' b t
  |_=>exact absurd (show false=true from fx) a9
 |str a=>
  obtain⟨t',rfl⟩:=ry;cases x with
  |non=>cases rx;exact SeqAt.EqAt.str_none a t'
  |bl b=>cases rx;exact SeqAt.EqAt.str_bool a t' b
  |int b=>obtain⟨t,rfl⟩:=rx;exact SeqAt.EqAt.str_int a t' b t
  |str b=>obtain⟨t,rfl⟩:=rx;exact SeqAt.EqAt.str_str a t' b t
  |_=>exact absurd (show false=true from fx) a9
 |_=>exact absurd (show false=true from fy) a9
def N6(x:V)(u:Value):Bool:=match u with
 |.none=>Wu .non x
 |.bool b=>Wu (.bl b) x
 |.int i _=>Wu (.int i) x
 |.str z _=>Wu (.str z) x
 |_=>false
def Tr(r:AA y u)(f:DE y=true):N6 x u=Wu y x:=by
 cases y with
 |non=>cases r;rfl
 |bl b=>cases r;rfl
 |int i=>obtain⟨t,rfl⟩:=r;rfl
 |str z=>obtain⟨t,rfl⟩:=r;rfl
 |_=>exact absurd (show false=true from f) a9
theorem FV:∀{xs:List V}{us:List Value},Aq xs us->xs.all DE=true->us.any (N6 x)=xs.any λy=>Wu y x
 |_,_,.nil,_=>rfl
 |y::xs,u::us,.cons r t,f=>by
  rw[List.all_cons,hU]at f;rw[gQ,gQ,Tr r f.1,FV t f.2]
theorem Ea(rx:AA x v)(fx:DE x=true):∀{xs:List V}{us:List Value},Aq xs us->xs.all DE=true->∀u∈us,SeqAt.EqAt A s u v (N6 x u)
 |_,_,.nil,_=>λu hu=>by cases hu
 |y::xs,u::us,.cons r t,f=>λu' hu=>by
  rw[List.all_cons,hU]at f;rcases aH.mp hu with rfl|hu
  ·rw[Tr r f.1];exact cz r rx f.1 fx
  exact Ea rx fx t f.2 u' hu
def nM(x:V)(xs:List V):Bool:=xs.any λy=>Wu y x
def vg(K:Frag)(neg:Bool):R2:=λx y H Q=>E2 λp xs=>A5 (y=.ref p) (D8 K H p xs\/DG K H p xs) (DE x=true) (xs.all DE=true) (Q (.bl (if neg then !nM x xs else nM x xs)) H)
def PM:Cf X (compareOp .In) (vg X.K false):=by
 intro pins s σ H x y v u Q I rx ry h;obtain⟨p,xs,rfl,hq,fx,fs,q⟩:=h;cases ry;rcases hq with hq|hq
 ·obtain⟨its,r,pl,hz⟩:=I.list hq;refine SeqAt.in_listAt (N6 x) pl.isList (λw hw=>Ea rx fx r fs w (by simpa using hw)) ⟨.bl _,H,I,rfl,?_⟩;rw[show its.toArray.any (N6 x)=its.any (N6 x) by simp,FV r fs];exact q
 obtain⟨its,r,pl,hz⟩:=I.tuple hq;refine SeqAt.in_tupleAt (N6 x) pl (λw hw=>Ea rx fx r fs w (by simpa using hw)) ⟨.bl _,H,I,rfl,?_⟩;rw[show its.toArray.any (N6 x)=its.any (N6 x) by simp,FV r fs];exact q
def Kf:Cf X (compareOp .NotIn) (vg X.K true):=by
 intro pins s σ H x y v u Q I rx ry h;obtain⟨p,xs,rfl,hq,fx,fs,q⟩:=h;cases ry;rcases hq with hq|hq
 ·obtain⟨its,r,pl,hz⟩:=I.list hq;refine SeqAt.notIn_listAt (N6 x) pl.isList (λw hw=>Ea rx fx r fs w (by simpa using hw)) ⟨.bl _,H,I,rfl,?_⟩;rw[show its.toArray.any (N6 x)=its.any (N6 x) by simp,FV r fs];exact q
 obtain⟨its,r,pl,hz⟩:=I.tuple hq;refine SeqAt.notIn_tupleAt (N6 x) pl (λw hw=>Ea rx fx r fs w (by simpa using hw)) ⟨.bl _,H,I,rfl,?_⟩;rw[show its.toArray.any (N6 x)=its.any (N6 x) by simp,FV r fs];exact q
def Ke:Cf X (compareOp .NotIn) (λx y H Q=>∃i j,x=.str i/\y=.str j/\Q (.bl (!(!(Builtin.Str.occurrences j i 0 j.length 1).isEmpty))) H):=by
 intro pins s σ H x y v u Q I rx ry h;obtain⟨i,j,rfl,rfl,q⟩:=h;obtain⟨t,rfl⟩:=rx;obtain⟨t',rfl⟩:=ry;exact notIn_str ⟨.bl _,H,I,rfl,q⟩
def D5:Br X (.builtin "len") (λxs H Q=>∃p ys,xs=[.ref p]/\(D8 X.K H p ys\/DG X.K H p ys)/\Q (.int ys.length) H):=by
 intro pins s σ H xs us Q I r h;obtain⟨p,ys,rfl,hq,q⟩:=h;obtain⟨u,rfl,rx⟩:=DP r;cases rx;have hn:=Fk;rcases hq with hq|hq
 ·obtain⟨its,r',pl,hz⟩:=I.list hq;have hlen:=r'.length;exact Calls.call_len_list pl.isList (by simp only[List.size_toArray]<;>lia) ⟨.int ys.length,H,I.tok _,⟨s.toks+1,by rw[bB,hlen]⟩,q⟩
 obtain⟨its,r',pl,hz⟩:=I.tuple hq;have hlen:=r'.length;exact len_tuple pl (by simp only[List.size_toArray]<;>lia) ⟨.int ys.length,H,I.tok _,⟨s.toks+1,by rw[bB,hlen]⟩,q⟩
def KH:Br X (.builtin "len") (λxs H Q=>∃z,xs=[.str z]/\z.length<=sizeLine/\Q (.int z.length) H):=by
 intro pins s σ H xs us Q I r h;obtain⟨z,rfl,hz,q⟩:=h;obtain⟨u,rfl,t,rfl⟩:=DP r;have hn:=Fk;exact len_str (by lia) ⟨.int z.length,H,I.tok _,⟨_,rfl⟩,q⟩
def KG:Br X (.type "list") (λxs H Q=>∃p ys,xs=[.ref p]/\(D8 X.K H p ys\/DG X.K H p ys)/\∀l,H l=none->Q (.ref l) (upd H l (.lst ys))):=by
 intro pins s σ H xs us Q I r h;obtain⟨p,ys,rfl,hq,q⟩:=h;obtain⟨u,rfl,rx⟩:=DP r;cases rx;have fin:∀its,Aq ys its->ys.length<=sizeLine->∀h' c',(∀b o',s.heap.get? b=some o'->h'.get? b=some o')->
  h'.get? s.heap.objs.size=some {cls:=.type "list",dict:=none,data:=.seq its.toArray c',slots:=#[]}->EP X pins σ Q (.ref s.heap.objs.size) {s with heap:=h'}:=λits r' hz h' c' kp e=>
  ⟨.ref s.heap.objs.size,_,I.laid (t':=s.toks) kp (aN _) (show AN X.prog X.w _ h' _ (.lst ys) from⟨hz,its,c',r',e⟩),rfl,q _ (I.hok.fresh (aN _))⟩
 rcases hq with hq|hq
 ·obtain⟨its,r',pl,hz⟩:=I.list hq;have hlen:=r'.length;obtain⟨o,ho,hc,n,hd⟩:=pl.isList;exact call_list_seq p (.inl rfl) ho hc hd (λh' c' kp e=>fin its r' hz h' c' kp e) (by simp only[List.size_toArray]<;>lia)
 obtain⟨its,r',pl,hz⟩:=I.tuple hq;have hlen:=r'.length;obtain⟨o,ho,hc,n,hd⟩:=pl;exact call_list_seq p (.inr rfl) ho hc hd (λh' c' kp e=>fin its r' hz h' c' kp e) (by simp only[List.size_toArray]<;>lia)
def EV:Br X (.type "tuple") (λxs H Q=>∃p ys,xs=[.ref p]/\((D8 X.K H p ys/\∀l,H l=none->Q (.ref l) (upd H l (.tup ys)))\/(DG X.K H p ys/\Q (.ref p) H))):=by
 intro pins s σ H xs us Q I r h;obtain⟨p,ys,rfl,h⟩:=h;obtain⟨u,rfl,rx⟩:=DP r;cases rx;rcases h with⟨hq,q⟩|⟨hq,q⟩
 ·obtain⟨its,r',pl,hz⟩:=I.list hq;have hlen:=r'.length;refine call_tuple_list pl.isList (λh' kp=>?_) (by simp only[List.size_toArray]<;>lia);have I1:=I.kept (t':=s.toks) kp;have I2:Ae X pins σ (upd H h'.objs.size (.tup ys)) {s with heap:=h'.push {cls:=.type "tuple",data:=.seq its.toArray}}:=
   I1.laid (t':=s.toks) (λb o e=>aC _ e) (aN _) (show AN X.prog X.w _ _ _ (.tup ys) from⟨hz,its,r',IsTup.new _ _⟩)
  exact⟨.ref h'.objs.size,_,I2,rfl,q _ (I1.hok.fresh (aN _))⟩
 obtain⟨its,r',pl,hz⟩:=I.tuple hq;exact call_tuple_same pl ⟨.ref p,H,I,rfl,q⟩
def wS(K:Frag)(T:String)(x:V)(H:Hp):Prop:=match x with
 |.str _=>T= "str"
 |.int _=>T= "int"
 |.ref p=>(T= "list"/\∃xs,D8 K H p xs)\/(T= "tuple"/\∃o,K.lookup p=some o/\o.cls=.type "tuple"/\o.dict=none)\/
  (T= "dict"/\((∃kvs,H p=some (.dK kvs))\/∃kvs,H p=some (.dT kvs)))\/(T= "set"/\∃S n,H p=some (.set S n))
 |_=>False
def M0{T:String}(I:Ae X pins σ H s)(r:AA x v)(ty:wS X.K T x H) :
 s.TypeIs v T/\∀a,v=.ref a->∃ob,s.heap.get? a=some ob/\ob.dict=none:=by
 cases x with
 |str z=>
  obtain⟨t,rfl⟩:=r;cases (show T= "str" from ty);exact⟨typeIs_str s z t,λ_ e=>nomatch e⟩
 |int i=>
  obtain⟨t,rfl⟩:=r;cases (show T= "int" from ty);exact⟨typeIs_int s i t,λ_ e=>nomatch e⟩
 |ref p=>
  cases r;rcases ty with⟨rfl,xs,hq⟩|⟨rfl,o,hk,hc,hd⟩|⟨rfl,hk⟩|⟨rfl,S,n,hk⟩
  ·obtain⟨its,_,pl,_⟩:=I.list hq;refine⟨pl.isList.typeIs,λa e=>?_⟩;cases e;obtain⟨o,n,e,c,hd,_⟩:=pl;exact⟨o,e,hd⟩
  ·refine⟨⟨o,I.kIn p o hk,hc⟩,λa e=>?_⟩;cases e;exact⟨o,I.kIn _ o hk,hd⟩
  ·have z:∃o,s.heap.get? p=some o/\o.ExactDict:=by
    rcases hk with⟨kvs,hk⟩|⟨kvs,hk⟩
    ·obtain⟨_,_,_,_,o,_,_,e,ex,_⟩:=I.hok p _ hk;exact⟨o,e,ex⟩
    obtain⟨_,_,_,_,o,_,_,e,ex,_⟩:=I.hok p _ hk;exact⟨o,e,ex⟩
   obtain⟨o,e,ex⟩:=z;refine⟨⟨o,e,ex.1⟩,λa e2=>?_⟩;cases e2;exact⟨o,e,ex.2.1⟩
  obtain⟨o,_,_,_,e,ex,_⟩:=I.hok p _ hk;refine⟨⟨o,e,ex.1⟩,λa e2=>?_⟩;cases e2;exact⟨o,e,ex.2.1⟩
 |_=>exact False.elim ty
variable {name:Str}{T id:String}
/- xs.append(e),list.index on a module's tuple .. are o9 facts of 06m -/
end
end L2
namespace L2
open PySem PySem.Spec PyProof.Rows
def wM(X:Cx)(id:String)(r:V->List V->Hp->VK->Prop):Prop:=
 ∀(pins:List (Addr×Obj)) (s:Shared) (σ:St) (H:Hp) (x:V) (xs:List V) (v:Value) (us:List Value) (Q:VK),Ae X pins σ H s->AA x v->Aq xs us->r x xs H Q->
  wpAny (model X.prog X.w) X.A (call (.builtin id) (v::us)) (EP X pins σ Q) X.xe s
def Aq.one:∀{x:V}{us:List Value},Aq [x] us->∃u,us=[u]/\AA x u
 |_,_,.cons r .nil=>⟨_,rfl,r⟩
theorem Aq.rep(h:Aq xs us):∀k:Nat,Aq (List.replicate k xs).flatten (List.replicate k us).flatten
 |0=>.nil
 |k+1=>by
  rw[cF,cF,cG,cG];exact Aq.append h (Aq.rep h k)
theorem Ju(its:List Value):∀k acc,
 List.foldl (λx1 x2=>x1++x2) acc.toArray (List.replicate k its.toArray)=(acc++(List.replicate k its).flatten).toArray
 |0,acc=>by simp
 |k+1,acc=>by
  have e:acc.toArray++its.toArray=(acc++its).toArray:=by simp
  have e2:(acc++its)++(List.replicate k its).flatten=acc++(List.replicate (k+1) its).flatten:=by
   rw[cF,cG,cU]
  rw[←e2,←Ju its k (acc++its),←e,cF,i9]
section
def Ae.lset{its its':List Value}{n:Nat}{t':Nat}(I:Ae X pins σ H s)(hH:H l=some (.lst xs))
 (e:s.heap.get? l=some {cls:=.type "list",data:=.seq its.toArray n})(hf:f its.toArray=its'.toArray)(hv:Aq ys its')(hz:ys.length<=sizeLine) :
 Ae X pins σ (upd H l (.lst ys)) {s with heap:=s.heap.update l (Obj.mapSeq f),toks:=t'}:=by
 have q:=PySem.IsL.update e f;rw[hf]at q;refine I.write (x:=l) (e:=l) (by rw[hH];exact trivial) (.inl rfl) (λb' u hb hu=>(bV s.heap (Obj.mapSeq f) (bL hb)).trans hu) ⟨_,q⟩ ?_;exact⟨hz,its',_,hv,q⟩
def Ae.lnew{t':Nat}(I:Ae X pins σ H s)(hv:Aq ys its)(hz:ys.length<=sizeLine) :
 Ae X pins σ (upd H s.heap.objs.size (.lst ys)) {s with heap:=s.heap.push {cls:=.type "list",data:=.seq its.toArray},toks:=t'}:=
 I.laid (λ_ _ q=>aC _ q) (aN _) ⟨hz,its,0,hv,aV _ rfl⟩
theorem Ae.fresh(I:Ae X pins σ H s):H s.heap.objs.size=none:=I.hok.fresh (aN _)
def Ae.lstM(I:Ae X pins σ H s)(hH:H l=some (.lst xs)):xs.length<=sizeLine/\∃its n,Aq xs its/\xs.length=its.length/\s.heap.get? l=some {cls:=.type "list",data:=.seq its.toArray n}:=by
 obtain⟨z,its,n,r,e⟩:=I.hok l _ hH;exact⟨z,its,n,r,r.length,e⟩
def Lz{n:Nat}(h:n<=sizeLine):Builtin.List.listTooLong n=false:=by
 unfold Builtin.List.listTooLong;exact bP (by lia)
end
section
def UT:V->List V->Hp->VK->Prop:=λx vs H Q=>∃l xs y,x=.ref l/\vs=[y]/\H l=some (.lst xs)/\xs.length<sizeLine/\Q .non (upd H l (.lst (xs++ [y])))
def PV:wM X "list.append" UT:=by
 intro pins s σ H x vs v us Q I rx rv h;obtain⟨l,xs,y,rfl,rfl,hH,hz,q⟩:=h;cases rx;obtain⟨u,rfl,ru⟩:=rv.one;obtain⟨z,its,n,r,hl,e⟩:=I.lstM hH;refine call_meets F.slot_list_append ⟨_,e,rfl⟩ F.entry_list_append (F.args_list_append_2 _ _) (PySem.list_append l its.toArray n u (by rw[bB];lia)) ⟨e,?_⟩;refine⟨.non,_,I.lset (its':=its++ [u]) hH e (by simp) (r.append (.cons ru .nil)) ?_,rfl,q⟩;rw[aR,eQ]
 lia
def US:V->List V->Hp->VK->Prop:=λx vs H Q=>E4 λl b xs zs=>A6 (x=.ref l) (vs=[.ref b]) (H l=some (.lst xs)) (H b=some (.lst zs)) (xs.length+zs.length<=sizeLine) (Q .non (upd H l (.lst (xs++zs))))
def PU:wM X "list.extend" US:=by
 intro pins s σ H x vs v us Q I rx rv h;obtain⟨l,b,xs,zs,rfl,rfl,hH,hB,hz,q⟩:=h;cases rx;obtain⟨u,rfl,ru⟩:=rv.one;cases ru;obtain⟨z,its,n,r,hl,e⟩:=I.lstM hH;obtain⟨z2,its2,n2,r2,hl2,e2⟩:=I.lstM hB;have hsz:its.toArray.size+its2.toArray.size<=sizeLine:=by rw[bB,bB];lia
 have hlong:¬(!its.toArray.isEmpty&&Builtin.List.listTooLong (its.toArray.size+its2.toArray.size))=true:=by
  rw[Lz hsz,gG];exact a9
 refine call_meets F.slot_list_extend ⟨_,e,rfl⟩ F.entry_list_extend (F.args_list_extend_2 _ _)
  (AutoSeq1.list_extend_list_list_0 l its.toArray n b its2.toArray n2 hlong (by rw[bB];lia) (by lia)) ⟨e,e2,?_⟩
 refine⟨.non,_,I.lset (its':=its++its2) hH e (by simp) (r.append r2) ?_,rfl,q⟩;rw[aR]
 lia
def qU:R2:=λx y H Q=>E4 λl b xs zs=>A6 (x=.ref l) (y=.ref b) (H l=some (.lst xs)) (H b=some (.lst zs)) (xs.length+zs.length<=sizeLine) (∀p,H p=none->Q (.ref p) (upd H p (.lst (xs++zs))))
def ZC:Cf X (binaryOp .Add) qU:=by
 intro pins s σ H x y v u Q I rx ry h;obtain⟨l,b,xs,zs,rfl,rfl,hH,hB,hz,q⟩:=h;cases rx;cases ry;obtain⟨z,its,n,r,hl,e⟩:=I.lstM hH;obtain⟨z2,its2,n2,r2,hl2,e2⟩:=I.lstM hB;refine PySem.P.add_list e e2 ?_ (by rw[bB,bB];lia);have ea:its.toArray++its2.toArray=(its++its2).toArray:=by simp
 rw[ea];exact⟨.ref _,_,I.lnew (t':=s.toks) (r.append r2) (by rw[aR];lia),rfl,q _ I.fresh⟩
def qO:R2:=λx y H Q=>E3 λl k xs=>A7 (x=.ref l) (y=.int k) (H l=some (.lst xs)) (-(2^63)<=k) (k<2^63) (xs.length*k.toNat<=sizeLine) (∀p,H p=none->Q (.ref p) (upd H p (.lst (List.replicate k.toNat xs).flatten)))
def VD{α:Type}(xs:List α)(k:Nat):(List.replicate k xs).flatten.length=k*xs.length:=by
 induction k with
 |zero=>simp
 |succ k ih=>rw[cF,cG,aR,ih,Nat.succ_mul,Nat.add_comm]
def Z5:Cf X (binaryOp .Mult) qO:=by
 intro pins s σ H x y v u Q I rx ry h;obtain⟨l,k,xs,rfl,rfl,hH,h1,h2,hz,q⟩:=h;cases rx;obtain⟨t,rfl⟩:=ry;obtain⟨z,its,n,r,hl,e⟩:=I.lstM hH;have hlen:its.toArray.size*k.toNat<=sizeLine:=by rw[bB,←hl];exact hz
 have hcap:¬its.toArray.size*k.toNat>(2^63-1) / 8:=by
  have:(sizeLine:Nat)<=(2^63-1) / 8:=by decide
  lia
 have hfit:¬(!Builtin.List.listFitsIndex k)=true:=by
  rw[fitsIndex_both h1 h2];exact a9
 have hlong:¬Builtin.List.listTooLong (its.toArray.size*k.toNat)=true:=by
  rw[Lz hlen];exact a9
 have hnew:List.foldl (λx1 x2=>x1++x2) #[] (List.replicate (if its.toArray.isEmpty=true then 0 else k.toNat) its.toArray)=(List.replicate k.toNat its).flatten.toArray:=by
  have f0:∀m:Nat,List.foldl (λx1 x2=>x1++x2) #[] (List.replicate m its.toArray)=(List.replicate m its).flatten.toArray:=λm=>by
   have:=Ju its m [];rw[iA]at this;exact this
  rw[f0];cases its with
  |nil=>simp
  |cons a r'=>rw[if_neg (by simp)]
 refine wpAny_binaryOp_repeat_ref (T:= "list") (U:= "int") (by decide) ⟨_,e,rfl⟩ (λs'=>typeIs_int s' k t) noFill_list_mul F.fills_int_mul F.slot_int_rmul repeat_list F.slot_int_index.lookup
  (call_meets F.slot_int_rmul (typeIs_int s k t) F.entry_int_rmul (F.args_int_rmul_2 _ _) (int___rmul___int_list k t l its.toArray n)
    ⟨e,rfl,⟨_,e,rfl⟩,call_meets F.slot_list_mul ⟨_,e,rfl⟩ F.entry_list_mul (F.args_list_mul_2 _ _) (AutoListH.list___mul___list_int_3 l its.toArray n k t hfit hcap hlong) ⟨e,?_⟩⟩)
 rw[hnew];exact⟨.ref _,_,I.lnew (t':=s.toks) (r.rep k.toNat) (by rw[VD,Nat.mul_comm];exact hz),rfl,q _ I.fresh⟩
end
section
set_option maxRecDepth 100000 in
end
end L2
namespace Att
open PySem PySem.W PySem.Calls PyProof.Rows
def GQ:∀ns vs,WellAll P h vs (ns.map WData.int)->IntsAre vs ns:=by
 intro ns
 induction ns with
 |nil=>
  intro vs w;rw[hG]at w;cases w;exact .nil
 |cons n ns ih=>
  intro vs w;rw[aX]at w;cases w with
  |cons a b=>
   cases a;exact .cons _ _ (ih _ b)
def P0{l:OpenLaw}{n:Nat}(hn:l.most=some n){h:Heap}
 (hpre:l.row.toRowW.claim.pre args=true)(hwl:WellAll P h vals args) :
 ∃a vs ns,vals=[Value.ref a]/\args=[WData.list (ns.map WData.int)]/\h.get? a=some {cls:=.type "list",data:=.seq vs.toArray}/\IntsAre vs ns/\ns.length<=n:=by
 have hsh:WShape.hasAll [] args [.list .int]=true:=(pre_splitW hpre).1;have hc:l.pre.holds [] {args:=args}=true:=(pre_splitW hpre).2;obtain⟨d,r,rfl,h1,h2⟩:=hasAllW_cons hsh;obtain rfl:=hasAllW_nil h2;obtain⟨xs,rfl,h3⟩:=hasW_list h1;obtain⟨ns,rfl⟩:=items_int h3;have hlen:ns.length<=n:=by
  unfold OpenLaw.pre at hc;have h4:(WTm.not (.lt (.lit (.int (n:Int))) (.len (.arg 0)))).holds [] {args:=[.list (ns.map .int)]}=true:=by
   have h4:=(holds_andW hc).1;rw[hn]at h4;exact h4
  have h5:=condW_of h4 (w_not (w_lt w_lit (w_len_list (w_arg rfl))));rw[aL]at h5;refine hV λq=>?_;have q':(n:Int)<((ns.length:Nat):Int):=by lia
  first
   |(rw[bQ q']at h5;exact absurd h5 (by decide))
   |(simp at h5;lia)
 cases hwl with
 |cons w1 w2=>
  cases w2;cases w1 with
  |list ho hall=>exact⟨_,_,ns,rfl,rfl,ho,GQ ns _ hall,hlen⟩
def P5(l:OpenLaw)(args:List WData):l.row.toRowW.claim.post args (.bool true) args=true:=
 postW_of (r:=l.row.toRowW) (X:=(true ==true))
  (show WShape.has [] (.bool true) .bool=true by first|rfl|decide|simp[WShape.has,WShape.arms,WShape.armsAll])
  (show(WTm.eq .res (.lit (.bool true))).value [] {args:=args,res:=some (.bool true),after:=args}=some (.bool (true ==true)) from w_eq_bool (w_res rfl) w_lit) rfl
def attach_call{l:OpenLaw}{n:Nat}{d:DefRec}
 (hn:l.most=some n)(hdf:d.params.defaults=[])
 (call:∀w s₀ s₁ mg mb fa o pm cd doc a vs ns,
   Ground q loose [] XP w s₀ mg mb s₁.heap->YP w s₁.heap->
   s₁.heap.get? fa=some o->o.data=.func (docDef d.name d.params d.body d.scope pm cd doc)->s₁.heap.CodeRec cd d.name->mg d.name=some (.ref fa)->
   s₁.heap.get? a=some {cls:=.type "list",data:=.seq vs.toArray}->IntsAre vs ns->ns.length<=n->s₁.gens=#[]->
   codeAny (model l.prog w) callerA (.call (.ref fa) ⟨[.ref a],[]⟩) (λr s'=>r=.ok (.ret (.bool true))/\OldK s₁.heap s'.heap/\s'.os=s₁.os/\AllBare s'.gens) s₁) :
 WalkO q loose XP YP l.row.toRowW d [] (λf vs=>PySem.call f vs):=by
 intro w s₀ s₁ mg mb G Y fa o pm cd doc dV kV ho hd hcd hD hmg hg args vals as hpre hlay hrd hwl hlo;obtain rfl:dV=.none:=Dflts.none hD hdf;obtain rfl:kV=.none:=Dflts.noKw hD;obtain⟨a,vs,ns,rfl,rfl,hobj,hints,hlen⟩:=P0 hn hpre hwl;refine enter_call (cA (call w s₀ s₁ mg mb fa o pm cd doc a vs ns G Y ho (fd_plain hd) hcd hmg hobj hints hlen hg) λr s' hq=>?_);obtain⟨rfl,h2,h3,h4⟩:=hq;exact⟨.inl ⟨.bool true,.bool true,[],rfl,λ_=>rfl,.bool true,P5 l _,λ_=>⟨List.Pairwise.nil,λ_ hm=>(nomatch hm)⟩⟩,h2,h3,h4⟩
end Att
namespace L2
open PySem PySem.Spec PyProof.Rows
theorem IN:∀{vs:List Value}{ns:List Int},IntsAre vs ns->Aq (ns.map V.int) vs
 |_,_,.nil=>.nil
 |_,_,.cons n t h=>.cons ⟨t,rfl⟩ (IN h)
end L2
namespace L2
open PySem PySem.Spec PyProof.Rows
end L2
namespace L2
open PySem PySem.Spec PyProof.Rows
abbrev WU:Ye:=λ_ _ _ _ _ _=>False
abbrev E0:XK:=λ_ _ _=>False
section
def pv(i:Nat){x:Str}(hN:X.N[i]?=some x:=by rfl)(hv:QI X.env.scope x:=by first|exact Or.inl rfl|exact Or.inr (Or.inl rfl)|exact Or.inr (Or.inr rfl))(hd:(x ==("__debug__" :Str))=false:=by decide)
 (hcd:(x ==("__classdict__" :Str))=false:=by decide):PE X (.Name x pos) (iP i):=Gi hN hv hd hcd
end
def au{A B:Prop}(h:B):if false=true then A else B:=by
 rw[if_neg a9];exact h
def ar{A B:Prop}(h:A):if true=true then A else B:=by
 rw[if_pos rfl];exact h
def An(H H':Hp):Prop:=∀b o,H b=some o->H' b=some o
def An.refl(H:Hp):An H H:=λ_ _ h=>h
def An.trans(a:An H H1)(b:An H1 H2):An H H2:=λc o h=>b c o (a c o h)
def An.free(e:An H H')(h:H' l=Option.none):H l=Option.none:=by
 cases q:H l with
 |none=>rfl
 |some o=>
  rw[e l o q]at h;cases h
def An.seq{K:Fq}{H H':Hp}{a:Addr}{xs:List V}(e:An H H')(h:D8 K H a xs):D8 K H' a xs:=by
 rcases h with(h|⟨o,h⟩)|h
 ·exact .inl (.inl (e _ _ h))
 ·exact .inl (.inr ⟨o,e _ _ h⟩)
 exact .inr h
section
def Qt(I:Nat->Shared->Prop)
 (turn:∀n s,I n s->wpAny (model prog w) A (pyNext it) (λr s1=>match r with
   |none=>R (.ok .next) s1
   |some v=>wpAny (model prog w) A (letOwnedTupleGo target it v) (λ_ s2=>wpAny (model prog w) A (assign target env v) (λ_ s3=>
    wpAny (model prog w) A (forIn ifs true λc r=>if r=true then do let ok ←isTrue c env (eval c env);pure (ForInStep.yield ok) else pure (ForInStep.yield r)) (λok s4=>
     if ok=true then wpAny (model prog w) A (eval elt env) (λx s5=>
      wpAny (model prog w) A (call (.builtin "list.append") [acc,x]) (λ_ s6=>∃m,m<n/\I m s6) (notedBy (model prog w) A env λe s'=>R (.error e) s') s5) (notedBy (model prog w) A env λe s'=>R (.error e) s') s4
     else ∃m,m<n/\I m s4) (notedBy (model prog w) A env λe s'=>R (.error e) s') s3) (notedBy (model prog w) A env λe s'=>R (.error e) s') s2) (notedBy (model prog w) A env λe s'=>R (.error e) s') s1)
    (notedBy (model prog w) A env λe s'=>R (.error e) s') s)
 (n:Nat)(h:I n s) :
 codeAny (model prog w) A (.compLoop (.ListComp elt [⟨target,iter,ifs,0⟩] scope pos) 0 it acc env) R s:=by
 refine codeAny_loop rfl I (λn s hI=>?_) n h;show wpAny _ A ((compTurn (.ListComp elt [⟨target,iter,ifs,0⟩] scope pos) 0 it acc env).onRaise (λx=>do noteFrame x env;theTreesLotGoes x)) _ _ s;refine wpAny_noted ?_;rw[compTurn_list];refine aA (eX (aA (bN (turn n s hI) (λr s1 h1=>?_) λ_ _ h'=>h')));cases r with
 |none=>exact aJ h1
 |some v=>
  refine aA (bN h1 (λ_ s2 h2=>?_) λ_ _ h'=>h');refine aA (bN h2 (λ_ s3 h3=>aA (bN h3 (λok s4 h4=>?_) λ_ _ h'=>h')) λ_ _ h'=>h');cases ok with
  |false=>exact aJ ⟨rfl,h4⟩
  |true=>
   exact aA (aA (bN h4 (λx s5 h5=>aA (bN h5 (λ_ s6 h6=>aJ (aJ ⟨rfl,h6⟩)) λ_ _ h'=>h')) λ_ _ h'=>h'))
end
noncomputable def DK(cells:List (Str×Addr)):List (Str×NameKind)->List (Str×Addr)->List (Str×Addr)
 |[],acc=>acc
 |(n,k)::r,acc=>if k== .free then(match cells.lookup n with
  |some a=>DK cells r ((n,a)::acc)
  |none=>DK cells r acc) else DK cells r acc
theorem Pd:∀names acc,(∀y∈names,y.2=.free->∃a,env.cells.lookup y.1=some a)->
 (forIn names acc λx r=>(if x.2== .free then do let a ←cellOf env x.1;pure (ForInStep.yield ((x.1,a)::r)) else pure (ForInStep.yield r):Sem (ForInStep (List (Str×Addr)))))=pure (DK env.cells names acc)
 |[],acc,_=>rfl
 |(n,k)::r,acc,h=>by
  rw[fA];have ih:=λacc=>Pd r acc λy hy=>h y (aD _ hy);by_cases hk:k=.free
  ·subst hk;obtain⟨a,e⟩:=h (n,.free) aF rfl;have e:=e;simp only[beq_self_eq_true,if_true,cellOf,e,DK,pure_bind];exact ih _
  have hb:(k ==NameKind.free)=false:=by simpa using hk
  simp only[hb,Bool.false_eq_true,if_false,DK,pure_bind];exact ih _
def W6(h:∀y∈scope.names,y.2=.free->∃a,env.cells.lookup y.1=some a):closureFor scope env=pure (DK env.cells scope.names []):=by
 unfold closureFor;have e:=Pd (env:=env) scope.names [] h;simp only[bind_pure];exact e
theorem Ej{x:Str}:∀names acc,(∀y b,(y,b)∈acc->cells.lookup y=some b)->(x,c)∈DK cells names acc->cells.lookup x=some c
 |[],acc,ha,hm=>ha x c hm
 |(n,k)::r,acc,ha,hm=>by
  unfold DK at hm;split at hm
  ·split at hm
   ·rename_i a e;refine Ej r _ (λy b hb=>?_) hm;rcases aH.mp hb with q|q
    ·cases q;exact e
    exact ha y b q
   exact Ej r _ ha hm
  exact Ej r _ ha hm
def BL{x:Str}{l:Cq}(h:l.lookup x=some c):(x,c)∈l:=PySem.mem_of_lookup h
theorem Ho{x:Str}(hx:cells.lookup x=some c):∀names acc,((x,NameKind.free)∈names\/(x,c)∈acc)->(x,c)∈DK cells names acc
 |[],acc,hm=>by
  rcases hm with q|q
  ·exact absurd q (by simp)
  exact q
 |(n,k)::r,acc,hm=>by
  unfold DK;by_cases hk:k=.free
  ·subst hk;simp only[beq_self_eq_true,if_true];split
   ·rename_i a e;refine Ho hx r _ ?_;rcases hm with q|q
    ·rcases aH.mp q with q|q
     ·cases q;rw[hx]at e;cases e;exact .inr aF
     exact .inl q
    exact .inr (aD _ q)
   rename_i e;refine Ho hx r _ ?_;rcases hm with q|q
   ·rcases aH.mp q with q|q
    ·cases q;rw[hx]at e;cases e
    exact .inl q
   exact .inr q
  have hb:(k ==NameKind.free)=false:=by simpa using hk
  simp only[hb,Bool.false_eq_true,if_false];refine Ho hx r _ ?_;rcases hm with q|q
  ·rcases aH.mp q with q|q
   ·cases q;exact absurd rfl hk
   exact .inl q
  exact .inr q
theorem ER{x:Str}:∀{l:Cq},(x,c)∈l->∃d,l.lookup x=some d/\(x,d)∈l
 |[],h=>absurd h (by simp)
 |(y,b)::r,h=>by
  by_cases e:x=y
  ·subst e;exact⟨b,by simp,aF⟩
  rcases aH.mp h with q|q
  ·cases q;exact absurd rfl e
  obtain⟨d,e1,e2⟩:=ER q;refine⟨d,?_,aD _ e2⟩;rw[bY];have:(x ==y)=false:=by simpa using e
  rw[this];exact e1
def Ek{x:Str}(hf:(x,NameKind.free)∈names)(hx:cells.lookup x=some c):(DK cells names []).lookup x=some c:=by
 obtain⟨d,e1,e2⟩:=ER (Ho hx names [] (.inl hf));have e3:=Ej names [] (λ_ _ h=>absurd h (by simp)) e2;rw[hx]at e3;cases e3;exact e1
def BP{cells:Cq}{x:Str}(h:(DK cells names []).lookup x=some c):cells.lookup x=some c:=
 Ej names [] (λ_ _ h=>absurd h (by simp)) (BL h)
theorem Fd{env:Env}:∀{names:List (Str×NameKind)}{x:Str},names.lookup x=some .free->
 (names.map λ(n,k)=>if (k ==NameKind.free&&env.scope.kind== .function&&env.kindOf n ==some .cell) then(n,NameKind.cell) else(n,k)).lookup x=some .cell\/
 (names.map λ(n,k)=>if (k ==NameKind.free&&env.scope.kind== .function&&env.kindOf n ==some .cell) then(n,NameKind.cell) else(n,k)).lookup x=some .free
 |[],_,h=>by simp at h
 |(n,k)::r,x,h=>by
  have ih:=@Fd env r x;rw[aX];cases hx:x ==n with
  |true=>
   simp only[List.lookup_cons,hx]at h;cases h;dsimp only;by_cases hc:(NameKind.free ==NameKind.free&&env.scope.kind== .function&&env.kindOf n ==some .cell)=true
   ·rw[if_pos hc];simp[List.lookup_cons,hx]
   rw[if_neg hc];simp[List.lookup_cons,hx]
  |false=>
   simp only[List.lookup_cons,hx]at h;dsimp only;by_cases hc:(k ==NameKind.free&&env.scope.kind== .function&&env.kindOf n ==some .cell)=true
   ·rw[if_pos hc];simp only[List.lookup_cons,hx];exact ih h
   rw[if_neg hc];simp only[List.lookup_cons,hx];exact ih h
theorem H0{env:Env}:∀{names:List (Str×NameKind)}{x:Str},(∀y∈names,y.2≠ .cell)->
 ((names.map λ(n,k)=>if (k ==NameKind.free&&env.scope.kind== .function&&env.kindOf n ==some .cell) then(n,NameKind.cell) else(n,k)).lookup x=some .cell\/
 (names.map λ(n,k)=>if (k ==NameKind.free&&env.scope.kind== .function&&env.kindOf n ==some .cell) then(n,NameKind.cell) else(n,k)).lookup x=some .free)->names.lookup x=some .free
 |[],_,_,h=>by simp at h
 |(n,k)::r,x,hn,h=>by
  have ih:=@H0 env r x λy hy=>hn y (aD _ hy);rw[aX]at h;dsimp only at h;have hk:=hn (n,k) aF;cases hx:x ==n with
  |true=>
   by_cases hc:(k ==NameKind.free&&env.scope.kind== .function&&env.kindOf n ==some .cell)=true
   ·simp only[Bool.and_eq_true,beq_iff_eq]at hc;obtain⟨⟨hc,_⟩,_⟩:=hc;subst hc;simp only[List.lookup_cons,hx]
   rw[if_neg hc]at h;simp only[List.lookup_cons,hx]at h ⊢;rcases h with h|h
   ·cases h;exact absurd rfl hk
   exact h
  |false=>
   by_cases hc:(k ==NameKind.free&&env.scope.kind== .function&&env.kindOf n ==some .cell)=true
   ·rw[if_pos hc]at h;simp only[List.lookup_cons,hx]at h ⊢;exact ih h
   rw[if_neg hc]at h;simp only[List.lookup_cons,hx]at h ⊢;exact ih h
structure CT(scope sc:Scope)(N0 xs ys:List Str)(js:List Nat):Prop where
 kind:scope.kind=.function
 nocell:∀y∈scope.names,y.2≠ .cell
 loc:∀y∈scope.names,y.2=.local->scope.names.lookup y.1=some .local
 fr:∀y∈scope.names,y.2=.free->sc.names.lookup y.1=some .cell\/sc.names.lookup y.1=some .free
 cap:ys.length=js.length/\∀p∈ys.zip js,N0[p.2]?=some p.1/\scope.names.lookup p.1=some .free/\(p.1,NameKind.free)∈scope.names/\(sc.names.lookup p.1=some .cell\/sc.names.lookup p.1=some .free)
def F6(k:Nat)(js:List Nat)(σ:St):St:=List.replicate k none++js.map λj=>(σ[j]?).join
def Go(X:Cx)(N:List Str)(scope:Scope)(C:Addr)(s2:Shared)(H2:Hp)(fp:List Addr):Cx where
 prog:=X.prog
 w:=X.w
 K:=X.K
 mg:=X.mg
 base:=X.base
 A:=X.A
 N:=N
 s₀:=s2
 H₀:=H2
 env:=compEnvC scope (DK X.env.cells scope.names []) C X.env
 outer:=X.stack
 stack:=X.stack
 ex:=fp
 fn:=λ_=>false
 calm:=X.calm
 pn:=[]
 xe:=λ_ _=>False
section
variable {tk:Nat}
def SZ(I:Ae X pins σ H s2)(f:EO X pins H b):b∉Dw X.stack:=λhb=>by
 rcases aH.mp (I.stkSub b hb) with e|e
 ·exact f.2.1 e
 exact f.2.2.1 e
def dg(I:Ae X pins σ H s2)(CS:CT scope sc N0 xs ys js)(hsc:X.env.scope=sc)(hC:s2.heap.objs.size<=C)(f:∀b∈fp,EO X pins H b)(fl:∀b∈fp,b<s2.heap.objs.size) :
 (Go X (xs++ys) scope C s2 H fp).Ok where
 mod:=I.ok.mod
 kind:=CS.kind
 glob:=I.ok.glob
 blt:=I.ok.blt
 above:=hC
 inj:=λx y c e1 e2=>I.ok.inj x y c (BP e1) (BP e2)
 has:=λx hx=>by
  have hx:=hx;have q:=H0 (env:=X.env) CS.nocell hx;have m:=PySem.mem_of_lookup q;have hk:=CS.fr _ m rfl;rw[←hsc]at hk;obtain⟨c,e⟩:=I.ok.has x hk;exact⟨c,Ek m e⟩
 cab:=λx c e _=>by cases e
 hd:=I.ok.hd
 frames:=I.ok.frames
 stk:=.inl rfl
 exf:=λb hb=>⟨aQ (aO (fl b hb) hC),λx c e=>(f b hb).2.2.2.2.1 x c (BP e)⟩
 bs:=I.bs
 bsz:=b9 I.ok.bsz I.sz
 noex:=λb o e hb=>by
  rcases(f b hb).2.2.2.1 with q|q
  ·exact I.ok.noex b o e q
  exact absurd (aO (aK e) (b9 I.ok.bsz q)) (bJ _)
 exfs:=λb hb=>SZ I (f b hb)
 funs:=I.stack
 frf:=I.stkFree
def SG(I:Ae X pins σ H s2)(CS:CT scope sc N0 xs ys js)(hsc:X.env.scope=sc)(hN:X.N=N0)(f:∀b∈fp,EO X pins H b)(fl:∀b∈fp,b<s2.heap.objs.size)
 (hC:s2.heap.objs.size<=C)(hD:s2.heap.objs.size<=D)(hDC:D≠C)(hns:h1.Ns C m)(old:∀b o,s2.heap.get? b=some o->h1.get? b=some o)(hacc:h1.get? D=some oD)(hod:∀v,oD.data≠ .cell v) :
 Ae (Go X (xs++ys) scope C s2 H fp) [(D,oD)] (F6 xs.length js σ) H {s2 with heap:=h1,toks:=tk} where
 ok:=dg I CS hsc hC f fl
 os:=rfl
 bare:=I.bare
 base:=Un.kept old
 loc:=by
  refine⟨m,hns,λi x v e1 e2 e3=>?_⟩;have e1:(xs++ys)[i]?=some x:=e1;have hi:xs.length<=i:=by
   refine hV λq=>?_;unfold F6 at e2;rw[aS (by simpa using q),cL,if_pos q]at e2;cases e2
  rw[aU hi]at e1;unfold F6 at e2;rw[aU (by simpa using hi),cX,aM]at e2;obtain⟨j,ej⟩:∃j,js[i-xs.length]?=some j:=by
   cases e:js[i-xs.length]? with
   |none=>rw[e]at e2;cases e2
   |some j=>exact⟨j,rfl⟩
  rw[ej]at e2;have e2:(σ[j]?).join=some v:=bM e2;have e2':σ[j]?=some (some v):=by
   cases e:σ[j]? with
   |none=>rw[e]at e2;cases e2
   |some o=>rw[e]at e2;exact bW some e2
  have hz:(x,j)∈ys.zip js:=by
   have:(ys.zip js)[i-xs.length]?=some (x,j):=by rw[gW];exact⟨e1,ej⟩
   exact aP this
  obtain⟨c1,c2,c3,c4⟩:=CS.cap.2 _ hz;have c1:N0[j]?=some x:=c1;have c4':X.env.kindOf x=some .cell\/X.env.kindOf x=some .free:=by
   show X.env.scope.names.lookup x=some .cell\/X.env.scope.names.lookup x=some .free;rw[hsc];exact c4
  obtain⟨m0,hn0,hl0⟩:=I.loc;obtain⟨u,ru,lu⟩:=hl0 j x v (by rw[hN];exact c1) e2' (.inr c4');refine⟨u,ru,.inr ⟨?_,?_⟩⟩
  ·exact Fd c2
  rcases lu with⟨k,_⟩|⟨_,c,ec,hc⟩
  ·rcases c4' with z|z<;>(rw[k]at z;cases z)
  refine⟨c,Ek c3 ec,?_⟩;obtain⟨o,ho,hd⟩:=hc;exact⟨o,old _ _ ho,hd⟩
 cell:=λx c e=>by
  obtain⟨v,o,ho,hd⟩:=I.cell x c (BP e);exact⟨v,o,old _ _ ho,hd⟩
 free:=I.hok.fresh hC
 freeC:=λx c e=>I.freeC x c (BP e)
 pin:=λp hp=>by
  have hp:p∈([]:Pq)++ [(D,oD)]:=hp;have e:p=(D,oD):=by simpa using hp
  subst e;refine⟨hacc,I.hok.fresh hD,hDC,λhb=>?_,hod⟩;obtain⟨_,o,ho,_⟩:=I.stack.mem (show D∈Dw X.stack from hb);exact absurd (aO (aK ho) hD) (bJ _)
 hok:=I.hok.kept old
 len:=by
  unfold F6;show _=(xs++ys).length;rw[aR,aR,cX,aL,CS.cap.1]
end
def Jr(I:Ae X pins σ H s2)(CS:CT scope sc N0 xs ys js)(hsc:X.env.scope=sc)(hN:X.N=N0)
 (f:∀b∈fp,EO X pins H b)(J:Ae (Go X (xs++ys) scope C s2 H fp) pp σ' H' s'):Ae (Go X (xs++ys) scope C s2 H fp) pp (F6 xs.length js σ) H' s' where
 ok:=J.ok
 os:=J.os
 bare:=J.bare
 base:=J.base
 loc:=by
  obtain⟨m,hns,_⟩:=J.loc;refine⟨m,hns,λi x v e1 e2 e3=>?_⟩;have e1:(xs++ys)[i]?=some x:=e1;have hi:xs.length<=i:=by
   refine hV λq=>?_;unfold F6 at e2;rw[aS (by simpa using q),cL,if_pos q]at e2;cases e2
  rw[aU hi]at e1;unfold F6 at e2;rw[aU (by simpa using hi),cX,aM]at e2;obtain⟨j,ej⟩:∃j,js[i-xs.length]?=some j:=by
   cases e:js[i-xs.length]? with
   |none=>rw[e]at e2;cases e2
   |some j=>exact⟨j,rfl⟩
  rw[ej]at e2;have e2:(σ[j]?).join=some v:=bM e2;have e2':σ[j]?=some (some v):=by
   cases e:σ[j]? with
   |none=>rw[e]at e2;cases e2
   |some o=>rw[e]at e2;exact bW some e2
  have hz:(x,j)∈ys.zip js:=by
   have:(ys.zip js)[i-xs.length]?=some (x,j):=by rw[gW];exact⟨e1,ej⟩
   exact aP this
  obtain⟨c1,c2,c3,c4⟩:=CS.cap.2 _ hz;have c1:N0[j]?=some x:=c1;have c4':X.env.kindOf x=some .cell\/X.env.kindOf x=some .free:=by
   show X.env.scope.names.lookup x=some .cell\/X.env.scope.names.lookup x=some .free;rw[hsc];exact c4
  obtain⟨m0,hn0,hl0⟩:=I.loc;obtain⟨u,ru,lu⟩:=hl0 j x v (by rw[hN];exact c1) e2' (.inr c4');refine⟨u,ru,.inr ⟨Fd c2,?_⟩⟩;rcases lu with⟨k,_⟩|⟨_,c,ec,hc⟩
  ·rcases c4' with z|z<;>(rw[k]at z;cases z)
  refine⟨c,Ek c3 ec,?_⟩;obtain⟨o,ho,hd⟩:=hc;obtain⟨sl,e⟩:=J.base.any ho (I.freeC x c ec) λhb=>(f c hb).2.2.2.2.1 x c ec rfl;exact⟨_,e,hd⟩
 cell:=J.cell
 free:=J.free
 freeC:=J.freeC
 pin:=J.pin
 hok:=J.hok
 len:=by
  unfold F6;show _=(xs++ys).length;rw[aR,aR,cX,aL,CS.cap.1]
def PQ(X:Cx)(ifs:List Expr)(t:TT):Prop:=
 ∀(pins:List (Addr×Obj)) (s:Shared) (σ:St) (H:Hp) (Q:Bool->Hp->Prop),Ae X pins σ H s->t σ H Q->
  wpAny (model X.prog X.w) X.A (forIn ifs true λc r=>if r=true then do let ok ←isTrue c X.env (eval c X.env);pure (ForInStep.yield ok) else pure (ForInStep.yield r)) (TP X pins σ Q) X.xe s
def U7:TT:=λ_ H Q=>Q true H
def Zn:PQ X [] U7:=λ_ _ _ H _ I h=>wpAny_tests_nil ⟨H,I,h⟩
def Zm(h:PT X c t):PQ X [c] t:=λpins s σ H Q I hw=>wpAny_tests_one (h pins s σ H Q I hw)
def XJ(k:Nat)(js:List Nat)(g:TG)(tc:TT)(te:TE)(σ:St)(J:It)(H1:Hp)(fin:List V->Hp->Prop):Prop:=
 ∃W:Nat->Nat->List V->Hp->Prop,(∃m,W 0 m [] H1)/\∀i m ys H,W i m ys H->
  (J.stop i H/\ys.length<=sizeLine/\fin ys H)\/
  (J.go i H/\ys.length<sizeLine/\∃N:List V->Hp->Prop,(∀ys' H',N ys' H'->∃m',m'<m/\W (i+1) m' ys' H')/\∀x H2,J.yld i H x H2->g x (F6 k js σ) H2 λσ2 H3=>tc σ2 H3 λb H4=>
    if b=true then te σ2 H4 λy H5=>N (ys++ [y]) H5 else N ys H4)
def Rb(k:Nat)(js:List Nat)(wi:TI)(g:TG)(tc:TT)(te:TE):TE:=λσ H Q=>wi σ H λJ H1=>XJ k js g tc te σ J H1 λys H'=>∀p,H' p=none->Q (.ref p) (upd H' p (.lst ys))
section
variable {X:Cx}{scope sc:Scope}{N0 xs ys:List Str}{js:List Nat}{elt tg iter:Expr}{ifs:List Expr}{pos:Pos}{wi:TI}{g:TG}{tc:TT}{te:TE}
def Sn(its:List Value)(y:Value):its.toArray.push y=(its++ [y]).toArray:=by simp
def HZ{pins:Pq}{σ:St}{H:Hp}{s2:Shared}{it:Addr}{fp:List Addr}{tn:Nat->Heap->Prop}{J:It}{RR:Value->Addr->Result->Shared->Prop}{fin:List V->Hp->Prop}{E:Vq}
 (CS:CT scope sc N0 xs ys js)(hsc:X.env.scope=sc)(hN:X.N=N0)(hc:X.calm=true)
 (I:Ae X pins σ H s2)(T:NL X.prog X.w X.K tg J fp it tn)(t0:tn 0 s2.heap)(f:∀b∈fp,EO X pins H b)
 (hg:∀C s2 H fp,PG (Go X (xs++ys) scope C s2 H fp) tg g)(hq:∀C s2 H fp,PQ (Go X (xs++ys) scope C s2 H fp) ifs tc)(he:∀C s2 H fp,PE (Go X (xs++ys) scope C s2 H fp) elt te)
 (hw:XJ xs.length js g tc te σ J H fin)
 (hR:∀(D C:Addr) (H':Hp) (vs:List V) (s':Shared),(∃m,s'.heap.Ns C m)->Ae X pins σ (upd H' D (.lst vs)) s'->H' D=none->C≠D->H' C=none->C≠X.env.locals->X.s₀.heap.objs.size<=C->(∀x c,X.env.cells.lookup x=some c->c≠C)->(∀p∈X.pn++pins,p.1≠C)->fin vs H'->
   RR (.ref D) C (.ok .next) s') :
 wpAny (model X.prog X.w) X.A (newList []) (λacc s3=>wpAny (model X.prog X.w) X.A (newFunctionEnv scope X.env.globals (DK X.env.cells scope.names []) [] X.env.qual none .none (some X.env)) (λcenv s4=>
  codeAny (model X.prog X.w) X.A (.compStart (.ListComp elt [⟨tg,iter,ifs,0⟩] scope pos) 0 (.ref it) acc {cenv with scope:=relabel scope X.env}) (RR acc cenv.locals) s4) E s3) E s2:=by
 obtain⟨W,⟨m0,w0⟩,turn⟩:=hw;have fl:∀b∈fp,b<s2.heap.objs.size:=λb hb=>by
  obtain⟨o,e,_⟩:=T.obj 0 _ t0 b hb;exact aK e
 refine fN (wpAny_newFunctionEnv CS.nocell (by intro y hy;simp at hy) (λh1 hns1 hsb1=>?_) CS.kind);dsimp only at hns1 hsb1 ⊢;generalize hH2:s2.heap.push {cls:=.type "list",dict:=none,data:=.seq ([]:List Value).toArray}=H2 at hns1 hsb1 ⊢;have hC:H2.objs.size=s2.heap.objs.size+1:=by rw[←hH2,cT]
 have hDC:s2.heap.objs.size≠H2.objs.size:=by rw[hC];exact aQ (dY _)
 have hCle:s2.heap.objs.size<=H2.objs.size:=by rw[hC];exact cS _
 have below:∀b,b<s2.heap.objs.size->b≠H2.objs.size/\b≠s2.heap.objs.size:=λb hb=>⟨by rw[hC];exact aQ (cV hb),aQ hb⟩;have old:∀b o,s2.heap.get? b=some o->h1.get? b=some o:=λb o e=>hsb1.extBut b o (below b (aK e)).1 (aC _ (hH2▸aC _ e));have hacc:h1.get? s2.heap.objs.size=some {cls:=.type "list",data:=.seq ([]:List Value).toArray 0}:=hsb1.extBut _ _ hDC (aC _ (hH2▸aV _ rfl));have t1:tn 0 h1:=T.keep _ _ _ t0 λb _ o e=>old b o e;have fC:∀{H':Hp}{oD:Obj},(∀b∈fp,H' b=none)->∀b∈fp,EO (Go X (xs++ys) scope H2.objs.size s2 H fp) [(s2.heap.objs.size,oD)] H' b:=λ{H' oD} hn b hb=>
  ⟨hn b hb,(below b (fl b hb)).1,SZ I (f b hb),.inl hb,λx c e=>(f b hb).2.2.2.2.1 x c (BP e),λp hp=>by
    have hp:p∈([]:Pq)++ [(s2.heap.objs.size,oD)]:=hp;have e:p=(s2.heap.objs.size,oD):=by simpa using hp
    subst e;exact bL (below b (fl b hb)).2⟩
 have loop:∀s3:Shared,s3={s2 with heap:=h1,toks:=s2.toks+([]:List (Str×Value)).length}->
  codeAny (model X.prog X.w) X.A (.compLoop (.ListComp elt [⟨tg,iter,ifs,0⟩] scope pos) 0 (.ref it) (.ref s2.heap.objs.size) (compEnvC scope (DK X.env.cells scope.names []) H2.objs.size X.env))
   (RR (.ref s2.heap.objs.size) H2.objs.size) s3:=by
  rintro s3 rfl;refine Qt (λk s'=>E5 λ(i:Nat) (vs:List V) (its:List Value) (n:Nat) (H':Hp)=>A5 (Ae (Go X (xs++ys) scope H2.objs.size s2 H fp) [(s2.heap.objs.size,{cls:=.type "list",data:=.seq its.toArray n})] (F6 xs.length js σ) H' s') (Aq vs its) (tn i s'.heap) (∀b∈fp,H' b=none) (W i k vs H')) ?_ m0 ⟨0,[],[],0,H,?_,.nil,t1,λb hb=>(f b hb).1,w0⟩
  ·rintro k s3 ⟨i,vs,its,n,H3,I3,rv,t3,fr3,w3⟩;have hno:∀(e:Value) (s':Shared),False->notedBy (model X.prog X.w) X.A (compEnvC scope (DK X.env.cells scope.names []) H2.objs.size X.env) (λe s'=>RR (.ref s2.heap.objs.size) H2.objs.size (.error e) s') e s':=λ_ _ z=>z.elim;rcases turn i k vs H3 w3 with⟨stop,hz,fn⟩|⟨go,hz,N,hN',step⟩
   ·refine bN (T.done (Go X (xs++ys) scope H2.objs.size s2 H fp) rfl rfl rfl hc i _ s3 _ H3 (λ_ _=>False) I3 (fC fr3) t3 stop) (λr s4 ⟨hr,I4⟩=>?_) hno;subst hr;have pD:=I4.pin (s2.heap.objs.size,_) (b7 _ aF);obtain⟨mC,hnC,_⟩:=I4.loc;have u4:Un (Dw X.stack) fp H (upd H3 s2.heap.objs.size (.lst vs)) s2.heap s4.heap:=
     ⟨I4.base.keep,I4.base.slot,λb o e n hb=>by rw[Aa (below b (aK e)).2];exact I4.base.free b o e n hb,I4.base.there,
       λb x e=>by rw[Aa (below b (I.hok.lt e)).2];exact I4.base.tups b x e,λb o x e=>by rw[Aa (below b (I.hok.lt e)).2];exact I4.base.frzs b o x e,
       λb p e=>by rw[Aa (below b (I.hok.lt e)).2];exact I4.base.tbls b p e⟩
    have hk4:D9 X.prog X.w (upd H3 s2.heap.objs.size (.lst vs)) s4.heap:=λb o e=>by
     by_cases hb:b=s2.heap.objs.size
     ·subst hb;rw[Ab]at e;cases e;exact⟨hz,its,n,rv,pD.1⟩
     rw[Aa hb]at e;exact(I4.hok b o e).stay (λ_ _ _ q=>q) (λc q=>by rw[Aa (Am q pD.2.1)];exact q) λc x q=>by rw[Aa (Am q pD.2.1)];exact q
    refine hR _ _ H3 vs s4 ⟨mC,hnC⟩ (I.call' I4.os u4 hk4 I4.bare λb hb=>⟨(f b hb).2.2.2.1,(f b hb).2.1,(f b hb).2.2.2.2.1,(f b hb).2.2.2.2.2⟩) pD.2.1 (bL hDC) I4.free ?_ ?_ ?_ ?_ fn
    ·exact bL (below _ I.lt).1
    ·exact b9 I.sz hCle
    ·intro x c e;obtain⟨v,o,ho,_⟩:=I.cell x c e;exact(below c (aK ho)).1
    intro p hp;exact(below p.1 (aK (I.pin p hp).1)).1
   refine bN (T.item (Go X (xs++ys) scope H2.objs.size s2 H fp) rfl rfl rfl hc i _ s3 _ H3 (λ_ _=>False) I3 (fC fr3) t3 go) (λr s4 ⟨u,hr,h4⟩=>?_) hno;subst hr;refine bN h4 (λ_ s5 ⟨x,H5,I5,r5,y5,t5,fr5⟩=>?_) hno;have I5':=I5.pinned (fC fr5) (T.obj _ _ t5);refine bN (hg H2.objs.size s2 H fp _ s5 _ H5 x u _ I5' r5 (step x H5 y5)) (λ_ s6 ⟨σ6,H6,I6,q6⟩=>?_) hno;refine bN (hq H2.objs.size s2 H fp _ s6 σ6 H6 _ I6 q6) (λb s7 ⟨H7,I7,q7⟩=>?_) hno;have keepI:∀{σ':St}{H':Hp}{s':Shared},Ae (Go X (xs++ys) scope H2.objs.size s2 H fp) ([(s2.heap.objs.size,{cls:=.type "list",data:=.seq its.toArray n})]++HC fp s5.heap) σ' H' s'->tn (i+1) s'.heap/\∀b∈fp,H' b=none:=λ{σ' H' s'} J'=>
    ⟨T.keep _ _ _ t5 λb hb o e=>(J'.pin (b,o) (b7 _ (b7 _ (Dr hb e)))).1,λb hb=>by
      obtain⟨o,e,d⟩:=T.obj _ _ t5 b hb;exact(J'.pin (b,o) (b7 _ (b7 _ (Dr hb e)))).2.1⟩
   cases b with
   |false=>
    obtain⟨m',hm,w7⟩:=hN' _ _ q7;exact⟨m',hm,i+1,vs,its,n,H7,Jr I CS hsc hN f I7.unpinned,rv,(keepI I7).1,(keepI I7).2,w7⟩
   |true=>
    refine bN (he H2.objs.size s2 H fp _ s7 σ6 H7 _ I7 q7) (λy s8 ⟨yv,H8,I8,r8,n8⟩=>?_) hno;obtain⟨m',hm,w8⟩:=hN' _ _ n8;have pD:=I8.pin (s2.heap.objs.size,_) (b7 _ (bF _ aF));refine append_at (hsz:=by show its.toArray.size<=sizeLine;rw[bB,←rv.length];exact eP hz) pD.1 λh9 hs9 hD9=>?_;have hD9':h9.get? s2.heap.objs.size=some {cls:=.type "list",data:=.seq (its++ [y]).toArray (n+1)}:=by rw[hD9,Sn]
    have J8:=Jr I CS hsc hN f I8.unpinned;have hDf:s2.heap.objs.size∉fp:=λhb=>bJ _ (fl _ hb);refine⟨m',hm,i+1,vs++ [yv],its++ [y],n+1,H8,?_,rv.append (.cons r8 .nil),T.keep _ _ _ (keepI I8).1 λb hb o e=>hs9.extBut b o (λq=>hDf (q▸hb)) e,(keepI I8).2,w8⟩;have J9:Ae (Go X (xs++ys) scope H2.objs.size s2 H fp) [] (F6 xs.length js σ) H8 s8:=J8.pins_of λp hp=>absurd hp (by simp);have J9':Ae (Go X (xs++ys) scope H2.objs.size s2 H fp) [] (F6 xs.length js σ) H8 {s8 with heap:=h9,toks:=s8.toks}:=J9.turned (it:=s2.heap.objs.size) (λb o hb e=>hs9.extBut b o hb e) pD.2.1 hDC (.inr (aN _))
     (λx c e z=>by
       obtain⟨v,o,ho,_⟩:=I.cell x c (BP e);exact(below c (aK ho)).2 z) (λp hp=>absurd (show p∈([]:Pq)++ [] from hp) (by simp))
    refine J9'.pins_of λp hp=>?_;have e:p=(s2.heap.objs.size,{cls:=.type "list",data:=.seq (its++ [y]).toArray (n+1)}):=by simpa using hp
    subst e;exact⟨hD9',pD.2.1,hDC,pD.2.2.2.1,λv z=>by cases z⟩
  exact SG (fp:=fp) I CS hsc hN f fl hCle (aN _) hDC hns1 old hacc (λv z=>by cases z)
 exact codeAny_compStart_list (loop _ rfl) (T.self X.A 0 _ _ _ t1 (loop _ rfl))
def Jv(ok:X.Ok)(CS:CT scope sc N0 xs ys js)(hsc:X.env.scope=sc):closureFor scope X.env=pure (DK X.env.cells scope.names []):=W6 λy hy e=>by
 have h:=CS.fr y hy e;rw[←hsc]at h;exact ok.has y.1 h
def LI(I:Ae X pins σ H s)(hn:H C=none)(hL:C≠X.env.locals)(h0:X.s₀.heap.objs.size<=C)(hcl:∀x c,X.env.cells.lookup x=some c->c≠C)(hp:∀p∈X.pn++pins,p.1≠C)
 (hs:Heap.SameBut C s.heap h'):Ae X pins σ H {s with heap:=h'}:=I.turned (t':=s.toks) (it:=C) (λb o hb e=>hs.extBut b o hb e) hn hL (.inr h0) hcl hp
def Vs(CS:CT scope sc N0 xs ys js)(hc:X.calm=true)(hi:PI X tg iter wi)(hg:∀C s2 H fp,PG (Go X (xs++ys) scope C s2 H fp) tg g)(hq:∀C s2 H fp,PQ (Go X (xs++ys) scope C s2 H fp) ifs tc)
 (he:∀C s2 H fp,PE (Go X (xs++ys) scope C s2 H fp) elt te)(hsc:X.env.scope=sc:=by rfl)(hN:X.N=N0:=by rfl)(hs:∀x,foldedSetIterable iter X.env x=pure x:=by intro _;rfl) :
 PE X (.ListComp elt [⟨tg,iter,ifs,0⟩] scope pos) (Rb xs.length js wi g tc te):=by
 intro pins s σ H Q I h;rw[eval_ListComp];refine wpAny_comprehension_free (use:=none) rfl hs (Jv I.ok CS hsc) CS.kind CS.loc (Bg (hi pins s σ H _ I h) λv s1 h1=>Bg h1 λitv s2 h2=>?_);obtain⟨it,fp,tn,J,H2,e,I2,T,t2,f2,hw⟩:=h2;subst e;refine HZ (RR:=λacc C=>compPost (model X.prog X.w) X.A X.xe none (EP X pins σ Q) acc C) CS hsc hN hc I2 T t2 f2 hg hq he hw ?_;intro D C H' vs s' hm I' hD hCD hC hL h0 hcl hp fn;obtain⟨m,hm⟩:=hm;refine⟨m,hm,λh' hs'=>⟨.ref D,_,LI I' (by rw[Aa hCD];exact hC) hL h0 hcl hp hs',rfl,fn D hD⟩⟩
def MQ{i:Nat}{y:Str}(CS:CT scope sc N0 xs ys js)(hc:X.calm=true)(hNd:X.N.Nodup)(hiy:X.N[i]?=some y)(hy:X.env.scope.names.lookup y=some .local)
 (hi:PI X tg iter wi)(hg:∀C s2 H fp,PG (Go X (xs++ys) scope C s2 H fp) tg g)(hq:∀C s2 H fp,PQ (Go X (xs++ys) scope C s2 H fp) ifs tc)
 (he:∀C s2 H fp,PE (Go X (xs++ys) scope C s2 H fp) elt te)(hsc:X.env.scope=sc:=by rfl)(hN:X.N=N0:=by rfl)(hs:∀x,foldedSetIterable iter X.env x=pure x:=by intro _;rfl)
 (hsw:swapsWith (.ListComp elt [⟨tg,iter,ifs,0⟩] scope pos) (some (.Name y py)) spos.line X.env=pure true:=by rfl) :
 PS X (.Assign [.Name y py] (.ListComp elt [⟨tg,iter,ifs,0⟩] scope pos) spos) (U6 (Rb xs.length js wi g tc te) (LM i)):=by
 intro pins s σ H Dn I h;rw[exec_Assign_Name_used _ _ _ _ hsw];refine aA (eX (aA ?_));show wpAny _ X.A (do let _ ←comprehension (.ListComp elt [⟨tg,iter,ifs,0⟩] scope pos) scope X.env _ (newList []) false (eval iter X.env) (some (assign (.Name y py) X.env))) _ _ s;refine aA (bN (wpAny_comprehension_free (use:=some (assign (.Name y py) X.env)) (Q:=λ_ s'=>SP X pins Dn .next s') rfl hs (Jv I.ok CS hsc) CS.kind CS.loc
  (Bg (hi pins s σ H _ I h) λv s1 h1=>Bg h1 λitv s2 h2=>?_)) (λ_ s' hq=>aJ (aJ hq)) λ_ _ e=>e)
 obtain⟨it,fp,tn,J,H2,e,I2,T,t2,f2,hw⟩:=h2;subst e;refine HZ (RR:=λacc C=>compPost (model X.prog X.w) X.A X.xe (some (assign (.Name y py) X.env)) (λ_ s'=>SP X pins Dn .next s') acc C) CS hsc hN hc I2 T t2 f2 hg hq he hw ?_;intro D C H' vs s' hm I' hD hCD hC hL h0 hcl hp fn;obtain⟨m,hm⟩:=hm;show wpAny _ X.A (assign (.Name y py) X.env (.ref D)) _ _ _;refine wpAny_assign_Name (IS (v:=.ref D) I' hNd hiy (.inl hy) rfl (λs2 I2 hch=>?_) (.inr hy));obtain⟨a,sb,ha⟩:=hch;have hCa:C≠a:=by
  rcases ha with ha|ha
  ·rw[ha];exact hL
  exact λz=>hcl y a ha z.symm
 refine⟨m,hm.sameBut sb hCa,λh' hs'=>?_⟩;exact⟨_,_,LI I2 (by rw[Aa hCD];exact hC) hL h0 hcl hp hs',fn D hD⟩
end
def Yf(i j:Int):Prop:=0<j/\j<10000000000000000000000000000000000000000
def TC{i j:Int}(h:Yf i j):Builtin.divisionGoesByPylong i j=false:=by
 obtain⟨h1,h2⟩:=h;refine PyProof.noPylong_of_log2 ?_;have h0:j.natAbs≠0:=by lia
 have h3:j.natAbs<2^200:=by
  have e:(2:Nat)^200=1606938044258990275541962092341162602522202993782792835301376:=by decide
  rw[e]
  lia
 have:=(Nat.log2_lt h0).mpr h3
 lia
section
def RY:Cf X (binaryOp .FloorDiv) (rI Yf λi j=>.int (i / j)):=nH λi j _ _ _ _ _ hc q=>by
 have h1:=hc.1;exact floordiv_int (by lia) (by rw[Int.fdiv_eq_ediv_of_nonneg i (by lia)];exact q) (.inl (TC hc))
def NB:V->Option Value
 |.ty n=>some (.type n)
 |.ref C=>some (.ref C)
 |_=>none
def Ia(h:NB c=some cv)(r:AA c u):u=cv:=by
 cases c with
 |ty n=>cases h;exact r
 |ref C=>cases h;exact r
 |_=>cases h
def Md:Br X (.builtin "isinstance") (λxs H Q=>E5 λx c t cv b=>A5 (xs=[x,c]) (NB c=some cv) (Em X.K H x t) (kitOne X.K t cv=some b) (Q (.bl b) H)):=by
 intro pins s σ H xs us Q I r h;obtain⟨x,c,t,cv,b,rfl,hc,ht,hk,q⟩:=h;obtain⟨u,w',rfl,rx,rc⟩:=EQ r;have e:=Ia hc rc;subst e;exact Qf I rx ht hk λtk=>⟨.bl b,H,I.tok _,rfl,q⟩
def C3{K:Fq}{n:String}:kitOne K (.type n) (.type n)=some true:=by
 unfold kitOne;rw[if_pos (beq_self_eq_true _)]
def AC{K:Fq}{a c:String}{b:Bool}(h1:(Value.type a ==Value.type c)=false:=by decide +kernel)(h2:PySem.W.kitMeta c=true:=by decide +kernel)(h3:(fastBuiltinMro a).map (·.contains (Value.type c))=some b:=by decide +kernel) :
 kitOne K (.type a) (.type c)=some b:=by
 unfold kitOne;rw[if_neg (by rw[h1];exact a9)];show(if PySem.W.kitMeta c=true then PySem.W.subIn K (.type a) (.type c) else none)=some b;rw[if_pos h2];exact h3
section
variable {K:Fq}
def K3:kitOne K (.type "bool") (.type "int")=some true:=AC
def Ks:kitOne K (.type "NoneType") (.type "int")=some false:=AC
def LC:kitOne K (.type "str") (.type "int")=some false:=AC
def Kv:kitOne K (.type "list") (.type "int")=some false:=AC
def I0:kitOne K (.type "tuple") (.type "int")=some false:=AC
def K1:kitOne K (.type "dict") (.type "int")=some false:=AC
def Kz:kitOne K (.type "int") (.type "bool")=some false:=AC
def IC:kitOne K (.type "NoneType") (.type "bool")=some false:=AC
def Kq:kitOne K (.type "str") (.type "bool")=some false:=AC
def ID:kitOne K (.type "list") (.type "bool")=some false:=AC
def HI:kitOne K (.type "tuple") (.type "bool")=some false:=AC
def IG:kitOne K (.type "dict") (.type "bool")=some false:=AC
def LF:kitOne K (.type "int") (.type "str")=some false:=AC
def K2:kitOne K (.type "bool") (.type "str")=some false:=AC
def Kr:kitOne K (.type "NoneType") (.type "str")=some false:=AC
def Ku:kitOne K (.type "list") (.type "str")=some false:=AC
def Iz:kitOne K (.type "tuple") (.type "str")=some false:=AC
def K0:kitOne K (.type "dict") (.type "str")=some false:=AC
def IE:kitOne K (.type "int") (.type "tuple")=some false:=AC
def HN:kitOne K (.type "bool") (.type "tuple")=some false:=AC
def HJ:kitOne K (.type "NoneType") (.type "tuple")=some false:=AC
def HK:kitOne K (.type "list") (.type "tuple")=some false:=AC
def IA:kitOne K (.type "str") (.type "tuple")=some false:=AC
def HM:kitOne K (.type "dict") (.type "tuple")=some false:=AC
end
inductive Kd where
 |non|bl|int|str|lst|tup|dct
 deriving DecidableEq
def Kd.nm:Kd->String
 |.non=> "NoneType" | .bl=> "bool" | .int=> "int" | .str=> "str" | .lst=> "list" | .tup=> "tuple" | .dct=> "dict"
def gp(K:Frag)(H:Hp)(x:V)(k:Kd):Prop:=Em K H x (.type k.nm)
def Kd.isA:Kd->Kd->Bool
 |.bl,.int=>true
 |a,b=>decide (a=b)
def HL{K:Fq}{a c:Kd}(hc:c=.int\/c=.bl\/c=.str\/c=.tup):kitOne K (.type a.nm) (.type c.nm)=some (a.isA c):=by
 rcases hc with rfl|rfl|rfl|rfl
 ·cases a<;>first|exact C3|exact K3|exact Ks|exact LC|exact Kv|exact I0|exact K1
 ·cases a<;>first|exact C3|exact Kz|exact IC|exact Kq|exact ID|exact HI|exact IG
 ·cases a<;>first|exact C3|exact LF|exact Kr|exact K2|exact Ku|exact Iz|exact K0
 cases a<;>first|exact C3|exact IE|exact HJ|exact HN|exact HK|exact IA|exact HM
end
def tQ(x:Str):It:=⟨λi _=>i<x.cps.size,λi H v H'=>H'=H/\∃c,x.cps[i]?=some c/\v=.str ⟨#[c]⟩,λi _=>i=x.cps.size⟩
def KW{P:Program}{w:World}{K:Fq}{tg:Expr}(it:Addr)(ty:String)(x:Str)(t:Tok)(hty: ["enumerate","zip","dict_itemiterator","dict_reverseitemiterator","odict_iterator","itertools.zip_longest","itertools.pairwise"].contains ty=false)
 (W:∀A':Around,A'.handled=none->Walks P w A' it [it] [it] x.cps.size (SignAt x) (λi h=>h.IsStrIter it ty x t i))
 (slf:∀(A:Around) (i:Nat) (s:Shared) (Q:Vq) (E:Vq),s.heap.IsStrIter it ty x t i->Q (.ref it) s->wpAny (model P w) A (pyIter (.ref it)) Q E s) :
 NL P w K tg (tQ x) [it] it (λi h=>h.IsStrIter it ty x t i) where
 mem:=by simp
 obj:=λi h st b hb=>by
  have e:b=it:=by simpa using hb
  subst e;obtain⟨o,e,c,d⟩:=st;exact⟨o,e,λv z=>by rw[d]at z;cases z⟩
 keep:=λi h h' st k=>by
  obtain⟨o,e,r⟩:=st;exact⟨o,k it (by simp) o e,r⟩
 item:=by
  intro X hP hw hK hc i pins s σ H E I hf st hg;subst hP hw hK;obtain⟨f0,f1,f2,f3,f4,f5⟩:=hf it (by simp);refine(W X.A (I.ok.hd hc)).item i s _ _ hg st λv h' tk hv st' kk=>?_;obtain⟨c,u,ec,rfl⟩:=hv;have I1:Ae X pins σ H {s with heap:=h',toks:=tk}:=I.turned (λb o hb e=>kk b o (by simpa using hb) e) f0 f1 f3 f4 f5;obtain⟨o,e,cc,d⟩:=id st';exact⟨_,rfl,OG (s:={s with heap:=h',toks:=tk}) e cc d hty ⟨.str ⟨#[c]⟩,H,I1,⟨u,rfl⟩,⟨rfl,c,ec,rfl⟩,st',λb hb=>(hf b hb).1⟩⟩
 done:=by
  intro X hP hw hK hc i pins s σ H E I hf st hg;subst hP hw hK;obtain⟨f0,f1,f2,f3,f4,f5⟩:=hf it (by simp);have e:i=x.cps.size:=hg;subst e;exact(W X.A (I.ok.hd hc)).done s _ _ st λh' tk kk=>⟨rfl,I.turned (λb o hb e=>kk b o (by simpa using hb) e) f0 f1 f3 f4 f5⟩
 self:=slf
section
theorem NU:∀{bs:List Bool}{its:List Value},Aq (bs.map V.bl) its->its=bs.map Value.bool
 |[],_,.nil=>rfl
 |b::bs,_,.cons r t=>by
  cases r;rw[NU t];rfl
def Q3(hc:X.calm=true):Br X (.builtin "all") (λxs H Q=>∃(p:Addr) (bs:List Bool),xs=[.ref p]/\D8 X.K H p (bs.map V.bl)/\Q (.bl (bs.all id)) H):=by
 intro pins s σ H xs us Q I r h;obtain⟨p,bs,rfl,hq,q⟩:=h;obtain⟨u,rfl,ru⟩:=DP r;cases ru;obtain⟨its,rv,pl,hz⟩:=I.list hq;have e:=NU rv;subst e;have hlt:p<s.heap.objs.size:=by obtain⟨o,n,e,_⟩:=pl;exact aK e
 refine call_all_walk (fO pl.isList ?_);refine⟨s.heap.objs.size,_,[s.heap.objs.size],_,_,_,λi=>bs.getD i true,rfl,Walks.list (A:=X.A.in1) (show X.A.in1.handled=none from I.ok.hd hc) s.heap.objs.size p (aQ hlt) (bs.map Value.bool).toArray,⟨⟨_,aV _ rfl,rfl,rfl⟩,pl.isList.push _⟩,?_,λh' tk hk=>?_⟩
 ·intro i v s' Q' E' hP hQ';have hP:((bs.map Value.bool).toArray)[i]?=some v:=hP;rw[iC,aM]at hP;cases e:bs[i]? with
  |none=>rw[e]at hP;cases hP
  |some b=>
   rw[e]at hP;cases hP;refine cN ?_;have e':bs.getD i true=b:=by rw[dQ,e];rfl
   have hQ':Q' (bs.getD i true) s':=hQ';rw[e']at hQ';exact hQ'
 have e:(List.range (bs.map Value.bool).toArray.size).all (λi=>bs.getD i true)=bs.all id:=by
  rw[cK];simp only[List.size_toArray,List.length_map,List.all_eq_true,List.mem_range,id];constructor
  ·intro h b hb;obtain⟨i,hi,e⟩:=dW.mp hb;have:=h i hi;rw[dQ,aZ hi,e]at this;exact this
  intro h i hi;rw[dQ,aZ hi];exact h _ (hW hi)
 rw[e];exact⟨.bl (bs.all id),H,I.kept λb o e=>hk b o (by simp;exact aQ (aK e)) (aC _ e),rfl,q⟩
end
section
def Ly:Cf X (binaryOp .Add) (λx y H Q=>E3 λa b ys=>A5 (x=.ref a) (y=.ref b) (DG X.K H a []) (DG X.K H b ys) (Q (.ref b) H)):=by
 intro pins s σ H x y v u Q I rx ry h;obtain⟨a,b,ys,rfl,rfl,ha,hb,q⟩:=h;cases rx;cases ry;obtain⟨its,r1,p1,_⟩:=I.tuple ha;obtain⟨its2,r2,p2,_⟩:=I.tuple hb;cases r1;obtain⟨⟨cls,dd,data,sl⟩,ho,hc,n,hd⟩:=id p1;obtain⟨⟨cls2,dd2,data2,sl2⟩,ho2,hc2,n2,hd2⟩:=id p2;simp only at hc hd hc2 hd2;subst hc hd hc2 hd2;exact concat_meets ⟨_,ho,rfl⟩ ⟨_,ho2,rfl⟩ gZ seq_tuple_add PySem.F.slot_tuple_add PySem.F.entry_tuple_add (PySem.F.args_tuple_add_2 _ _)
  (tuple_addW0 a b _ its2.toArray n n2 dd dd2 sl sl2 rfl) ⟨ho,ho2,⟨.ref b,H,I,rfl,q⟩⟩
def RZ:Cf X (binaryOp .Add) (λx y H Q=>E4 λa b xs ys=>A8 (x=.ref a) (y=.ref b) (DG X.K H a xs) (DG X.K H b ys) (ys≠[]) (xs.length+ys.length<=sizeLine) (xs=[]->Q (.ref b) H) (∀p,H p=none->Q (.ref p) (upd H p (.tup (xs++ys))))):=by
 intro pins s σ H x y v u Q I rx ry h;obtain⟨a,b,xs,ys,e1,e2,ha,hb,hy,hz,q1,q2⟩:=h;by_cases c:xs=[]
 ·subst c;exact Ly pins s σ H x y v u Q I rx ry ⟨a,b,ys,e1,e2,ha,hb,q1 rfl⟩
 exact Os pins s σ H x y v u Q I rx ry ⟨a,b,xs,ys,e1,e2,ha,hb,c,hz,λh=>absurd h hy,λ_=>q2⟩
end
section
variable {κ:Type} [DecidableEq κ]
theorem KV.length(r:KV kvs vs):kvs.length=vs.length:=Paired.length r
end
def kG(r:AA (kV k) u):(Aj P w).is k u=true:=by
 cases k with
 |inl i=>obtain⟨t,e⟩:=(show ∃t,u=Value.int i t from r);subst e;exact L7 P w i t
 |inr x=>obtain⟨t,e⟩:=(show ∃t,u=Value.str x t from r);subst e;exact L6 P w x t
theorem Jp:∀{ks:List Key}{us:List Value},Aq (ks.map kV) us->ItemsAre (Aj P w) ks us
 |[],_,r=>by rw[hG]at r;cases r;exact .nil
 |k::ks,_,r=>by
  rw[aX]at r;cases r with
  |cons h t=>exact .cons (kG h) (Jp t)
section
def jH(ok:D9 P w H h)(e:Rd H a u):AN P w H h a u:=e.ok ok
def LS(ok:D9 P w H h)(e:Rd H a (.dK kvs)):kvs.length<=sizeLine/\(a ==sysModules)=false/\∃vs,KV kvs vs/\h.DictOf (Aj P w) a vs:=
 show AN P w H h a (.dK kvs) from jH ok e
def S7(ok:D9 P w H h)(e:H a=some (.tup (ks.map kV))):(tupleKind (Aj P w)).is h ks a:=by
 obtain⟨_,its,r,o,h1,h2,n,h3⟩:=(show AN P w H h a (.tup (ks.map kV)) from ok a _ e);exact⟨o,its.toArray,n,h1,h2,h3,by simpa using Jp r⟩
end
section
def Ae.big(I:Ae X pins σ H s):sysModules<s.heap.objs.size:=by
 have h:=(I.mod.glob.keeps I.bk).lt;exact Nat.lt_trans (by decide) h
end
section
def ly(I:Ae X pins σ H s)(e:Rd H a (.dK kvs))(h:∀t s',Ae X pins σ H s'->Q (.int kvs.length t) s'):wpAny (model X.prog X.w) A (call (.builtin "len") [.ref a]) Q E s:=by
 obtain⟨z,hd,vs,rel,dd⟩:=LS I.hok e;refine call_len_dict hd dd (by rw[←rel.length];rw[dE]at z;lia) ?_;rw[←rel.length];exact h _ _ (I.tok _)
end
def Tu(h:Heap)(hb:sysModules<h.objs.size):AN P w H (h.push {cls:=.type "dict",data:=.dict #[]}) h.objs.size (.dK []):=
 ⟨dX _,bO.mpr (bL (aQ hb)),[],.nil,Heap.DictOf.new h⟩
def Y3:TE:=λ_ H Q=>∀p,H p=none->Q (.ref p) (upd H p (.dK []))
section
def RU:PE X (.Dict [] [] pos) Y3:=λpins s σ H Q I h=>
 wpAny_Dict_empty ⟨.ref s.heap.objs.size,_,I.laid (a:=s.heap.objs.size) (o:=.dK []) (t':=s.toks) (λ_ _ q=>aC _ q) (aN _) (Tu s.heap I.big),rfl,h _ (I.hok.fresh (aN _))⟩
end
def ij(H:Hp)(a:Addr):Prop:=(∃kvs,Rd H a (.dK kvs))\/∃kvs,Rd H a (.dT kvs)
open PySem PySem.Spec PyProof.Rows PySem.SeqAt
mutual
inductive Mw(K:Frag)(H:Hp):V->PyData->Prop
 |non:Mw K H .non .none
 |bl (b:Bool):Mw K H (.bl b) (.bool b)
 |int (i:Int):Mw K H (.int i) (.int i)
 |str (x:Str):Mw K H (.str x) (.str x)
 |lst {a:Addr}{xs:List V}{ds:List PyData}:D8 K H a xs->Ij K H xs ds->Mw K H (.ref a) (.list ds)
 |tup {a:Addr}{xs:List V}{ds:List PyData}:DG K H a xs->Ij K H xs ds->Mw K H (.ref a) (.tuple ds)
inductive Ij(K:Frag)(H:Hp):List V->List PyData->Prop
 |nil:Ij K H [] []
 |cons {x:V}{d:PyData}{xs:List V}{ds:List PyData}:Mw K H x d->Ij K H xs ds->Ij K H (x::xs) (d::ds)
end
section
mutual
theorem Mw.reads(I:Ae X pins σ H s):∀{x:V}{d:PyData}{u:Value},Mw X.K H x d->AA x u->∃as,Reads s.heap u d as
 |_,_,_,.non,r=>by cases r;exact⟨_,.none⟩
 |_,_,_,.bl b,r=>by cases r;exact⟨_,.bool b⟩
 |_,_,_,.int i,r=>by obtain⟨t,rfl⟩:=r;exact⟨_,.int i t⟩
 |_,_,_,.str x,r=>by obtain⟨t,rfl⟩:=r;exact⟨_,.str x t⟩
 |_,_,_,.lst hq hs,r=>by
  cases r;obtain⟨its,rv,pl,hz⟩:=I.list hq;obtain⟨as,ra⟩:=Ij.reads I hs rv;obtain⟨o,n,e,hc,hd,dd⟩:=pl;exact⟨_,.list e hc dd (by simpa using ra)⟩
 |_,_,_,.tup hq hs,r=>by
  cases r;obtain⟨its,rv,pl,hz⟩:=I.tuple hq;obtain⟨as,ra⟩:=Ij.reads I hs rv;obtain⟨o,e,hc,n,dd⟩:=pl;exact⟨_,.tuple e hc dd (by simpa using ra)⟩
theorem Ij.reads(I:Ae X pins σ H s):∀{xs:List V}{ds:List PyData}{us:List Value},Ij X.K H xs ds->Aq xs us->∃as,ReadsAll s.heap us ds as
 |_,_,_,.nil,.nil=>⟨_,.nil⟩
 |_,_,_,.cons h hs,.cons r rs=>by
  obtain⟨as,ra⟩:=Mw.reads I h r;obtain⟨bs,rb⟩:=Ij.reads I hs rs;exact⟨_,.cons ra rb⟩
end
end
section
def jJ(K:Frag)(neg:Bool):R2:=λx y H Q=>∃dx dy,Mw K H x dx/\Mw K H y dy/\shaped dx=true/\shaped dy=true/\Q (.bl (if neg then !PyData.eqv dx dy else PyData.eqv dx dy)) H
def ZB(hu:X.A.units+64<cLine):Cf X (compareOp .Eq) (jJ X.K false):=by
 intro pins s σ H x y v u Q I rx ry h;obtain⟨dx,dy,hx,hy,sx,sy,q⟩:=h;obtain⟨as,ra⟩:=hx.reads I rx;obtain⟨bs,rb⟩:=hy.reads I ry;exact eq_dataH ra rb sx sy hu (At I q rfl)
def Z7(hu:X.A.units+64<cLine):Cf X (compareOp .NotEq) (jJ X.K true):=by
 intro pins s σ H x y v u Q I rx ry h;obtain⟨dx,dy,hx,hy,sx,sy,q⟩:=h;obtain⟨as,ra⟩:=hx.reads I rx;obtain⟨bs,rb⟩:=hy.reads I ry;exact ne_dataH ra rb sx sy hu (At I q rfl)
end
def An.new(h:H p=none):An H (upd H p o):=λb u e=>by
 rw[Aa (Am e h)];exact e
section
variable {x:Str}
def RS{z:Str}(hg:Gl X x)(h:∃t,X.mg x=some (.str z t))(hd:(x ==("__debug__" :Str))=false:=by decide):PE X (.Name x pos) (tC (.str z)):=by
 obtain⟨t,e⟩:=h;exact FC hg e ⟨t,rfl⟩ hd
def RT{i:Int}(hg:Gl X x)(h:∃t,X.mg x=some (.int i t))(hd:(x ==("__debug__" :Str))=false:=by decide):PE X (.Name x pos) (tC (.int i)):=by
 obtain⟨t,e⟩:=h;exact FC hg e ⟨t,rfl⟩ hd
end
open PySem PySem.Spec PyProof.Rows PySem.W
open Builtin Builtin.ObjectAttr
abbrev TQ:List Value:=[.type "ValueError",.type "Exception",.type "BaseException",.type "object"]
noncomputable def Ei(K:Frag)(C:Addr):Bool:=match K.lookup C with
 |some ⟨.type "type",_,.cls cd,sl⟩=>(match cd.mro,sl.toList with
  |.ref C'::bm,[_,_,_,_,some (.builtin n),_]=>C' ==C&&n== "ValueError.__new__" && !cd.hasDel&&cd.hasDict&&tailIn K TQ bm
  |_,_=>false)&&specialIn K (.ref C) "__call__" ==some (some (.builtin "type.__call__"))&&instIn K (.ref C) (.type "type") ==some true
 |_=>false
structure NP(h:Heap)(C:Addr)(bm:List Value):Prop where
 at_:∃(N:Addr) (nm qn:Str) (bs:List Value) (sn:List Str) (sub:List Value) (ab:Bool) (col:Option Bool) (dd:Option Addr) (k0 k1 k2 k3 k5:Option Value),
  h.get? C=some (excClassObj nm qn C N bs bm true sn sub ab col dd k0 k1 k2 k3 k5 "ValueError.__new__")
 tl:OwnTail h TQ bm
def Eh{K:Frag}(X:K.In h)(q:Ei K C=true) :
 ∃bm,NP h C bm/\specialIn K (.ref C) "__call__"=some (some (.builtin "type.__call__"))/\instIn K (.ref C) (.type "type")=some true:=by
 unfold Ei at q;split at q
 ·rename_i dd cd sl ho;simp only[Bool.and_eq_true,beq_iff_eq]at q;obtain⟨⟨q,hcall⟩,hinst⟩:=q;split at q
  ·rename_i C' bm k0 k1 k2 k3 n k5 hm hs;simp only[Bool.and_eq_true,beq_iff_eq,Bool.not_eq_true']at q;obtain⟨⟨⟨⟨rfl,rfl⟩,hdel⟩,hhd⟩,ht⟩:=q;obtain⟨nm,bs,mro,ns,qn,hd,sn,sub,ab,col,del⟩:=cd;dsimp only at hm hdel hhd;subst hm hdel hhd;have hsl:sl=#[k0,k1,k2,k3,some (.builtin "ValueError.__new__"),k5]:=by
    obtain⟨l⟩:=sl;simp only at hs;rw[hs]
   subst hsl;exact⟨bm,⟨⟨ns,nm,qn,bs,sn,sub,ab,col,dd,k0,k1,k2,k3,k5,X _ _ ho⟩,tail_of_in X ht⟩,hcall,hinst⟩
  cases q
 cases q
abbrev Dy(C t:Addr):Obj:={cls:=.ref C,data:=.fields #[.ref t,.none,.none,.none,.bool false,.none]}
abbrev CJ(vs:List Value):Obj:={cls:=.type "tuple",data:=.seq vs.toArray}
section
variable {prog:Program}{w:World}{A:Around}{K:Frag}{C f:Addr}{R:Result->Shared->Prop}{h:Heap}{g:Array GenState}{d:Drawn}{t:Nat}{os:OsState}
def To(X:K.In h)(hm:Ei K C=true)(hi:findIn K (.ref C) "__init__"=some (some (.ref f)))(hf:typeIn K (.ref f)=some (.type "function"))(hl:vs.length<=sizeLine)
 (hq:codeAny (model prog w) (A.under (.builtin "type.__call__" ⟨.ref C::vs,[]⟩)) (.call (.ref f) ⟨.ref (h.objs.size+1)::vs,[]⟩) (InitBack (h.objs.size+1) R)
   ⟨(h.push (CJ vs)).push (Dy C h.objs.size),g,d,t,os⟩) :
 codeAny (model prog w) A (.call (.ref C) ⟨vs,[]⟩) R ⟨h,g,d,t,os⟩:=by
 have F:=PySem.F.excBase_ValueError;obtain⟨bm,⟨⟨N,nm,qn,bs,sn,sub,ab,col,dd,k0,k1,k2,k3,k5,hC⟩,T⟩,hcall,hinst⟩:=Eh X hm;have call:=looks_specialIn (M:=model prog w) X hcall;have typ:=looks_instIn (M:=model prog w) X hinst;refine iB ?_;show wpAny _ _ (callAny (.ref C) _) _ _ _;refine nd_load hC ?_;show wpAny _ _ (callAny.viaDunder (.ref C) _) _ _ _;unfold callAny.viaDunder;refine aA (call.at ?_);dsimp only;rw[tc_bind];refine aA (aJ (aA (aJ ?_)));refine aJ (a:=Fin.again (.call (.builtin "type.__call__") ⟨.ref C::vs,[]⟩)) (And.intro rfl ?_);refine codeAny_call_builtin_at (fE _ (by decide +kernel)) entry_typeCall (check_slot tc_kind tc_split typ (tc_args _ _ _) ?_)
 repeat (first|with_reducible refine fP hC ?_|with_reducible refine wpAny_madeBy_exc hC ?_|wp_step)
 refine codeAny_call_builtin_code (fE _ F.quiet) (wpAny_check_new_subT F T hC ?_);refine codeAny_exc_new_subT F T hC ?_ hl;show wpAny _ _ _ _ _ _;have k:∀b o,h.get? b=some o->((h.push (CJ vs)).push (Dy C h.objs.size)).get? b=some o:=λb o e=>aC _ (aC _ e);have hC₁:=k _ _ hC;have hget:((h.push (CJ vs)).push (Dy C h.objs.size)).get? (h.objs.size+1)=some (Dy C h.objs.size):=by heap_get
 have hcC:(Value.ref C::bm).contains (.ref C)=true:=by simp
 have X1:K.In ((h.push (CJ vs)).push (Dy C h.objs.size)):=X.keeps k;unfold isInstance
 repeat (first|with_reducible refine fP hget ?_|(with_reducible refine wpAny_isSubtype_exc hC₁ ?_;rw[hcC])|wp_step)
 show wpAny _ _ (typeLookup (.ref C) _) _ _ _;refine(looks_findIn X1 hi).at ?_;refine bR (aA ((bind_fn X1 _ hf).at ?_));refine aA (cO (cA hq λr s' z=>?_));rcases r with e|(v|_|_|_)<;>first|exact z|exact z.elim|skip
 obtain⟨rfl,z⟩:=z
 wp_walk
 exact z
end
section
variable {prog:Program}{w:World}{A:Around}{E:Vq}{C e:Addr}{h:Heap}{g:Array GenState}{d:Drawn}{t:Nat}{os:OsState}
def Q6{bm:List Value}{oe:Obj}{rest:List Value}(c:NP h C bm)(he:h.get? e=some oe)(hcl:oe.cls=.ref C)(hd:oe.data=.fields (.ref t0::rest).toArray)
 (hq:∀h',(∀b o,b≠e->h.get? b=some o->h'.get? b=some o)->(∃t1:Addr,h'.get? e=some {cls:=.ref C,dict:=oe.dict,data:=.fields (.ref t1::rest).toArray,slots:=oe.slots})->h.objs.size<=h'.objs.size->Q .none ⟨h',g,d,t,os⟩) :
 wpAny (model prog w) A (call (.builtin "ValueError.__init__") [.ref e,u]) Q E ⟨h,g,d,t,os⟩:=by
 have F:=PySem.F.excBase_ValueError;obtain⟨⟨N,nm,qn,bs,sn,sub,ab,col,dd,k0,k1,k2,k3,k5,hC⟩,T⟩:=c;obtain⟨oc,od,odt,osl⟩:=oe;dsimp only at hcl hd;subst hcl hd;refine cO (cZ F.init.plain F.initEntry (wpAny_check_init_subT F T hC he rfl ?_))
 wp_walk
 refine hq _ (λb o hb e1=>?_) ⟨h.objs.size,?_⟩ ?_
 ·rw[bV _ _ (bL hb)];exact aC _ e1
 ·rw[cJ _ (aC _ he) rfl];rfl
 rw[Heap.size_update,cT];omega
noncomputable def B5:List Value->Bool
 |.ref _::r=>B5 r
 |l=>l ==TQ
theorem IZ(self:Value):∀{l:List Value},B5 l=true->refuseLoop self "__setattr__" l=pure ()
 |.ref c::r,e=>by rw[refuseLoop_ref];exact IZ self (by simpa[B5]using e)
 |[],e=>by simp[B5]at e
 |.type n::r,e=>by
  have e':(Value.type n::r)=TQ:=by simpa[B5]using e
  rw[e'];exact PySem.F.store_ValueError.passes self
 |.none::r,e=>by simp[B5]at e
 |.bool b::r,e=>by simp[B5]at e
 |.int i k::r,e=>by simp[B5]at e
 |.str i k::r,e=>by simp[B5]at e
 |.bytes i k::r,e=>by simp[B5]at e
 |.float i k::r,e=>by simp[B5]at e
 |.builtin i::r,e=>by simp[B5]at e
def PK(T:OwnTail h TQ bm):B5 bm=true:=by
 induction T with
 |base=>rfl
 |own _ _ _ _ ih=>simpa[B5]using ih
end
section
variable {prog:Program}{w:World}{A:Around}{E:Vq}{K:Frag}{C x:Addr}{R:Result->Shared->Prop}{s:Shared}
def LQ{name:Str}(X:K.In s.heap)(I:InstAt s.heap x ox C od)(hm:Ei K C=true)(ho:mroIn K C (.type "object")=some true)(ht:findIn K (.ref C) name=some none)
 (h:wpAny (model prog w) A.in1 (storeInOwnDict (.ref x) (.ref C) (.str name tk) name v false)
   (λfin s'=>match fin with| .done f=>R (.ok f) s'| .again c'=>c'.quiet=true/\codeAny (model prog w) A c' R s') (λe s'=>R (.error e) s') s) :
 codeAny (model prog w) A (.call (.builtin "object.__setattr__") ⟨[.ref x,.str name tk,v],[]⟩) R s:=by
 have SF:=PySem.F.store_object;obtain⟨bm,⟨⟨N,nm,qn,bs,sn,sub',ab,col,dd,k0,k1,k2,k3,k5,hC⟩,T⟩,hcall,hinst⟩:=Eh X hm;have sub:Looks (model prog w) s.heap (isInstance (.ref x) (.type "object")) true:=I.type.andThen (looks_mroIn X ho);refine cZ SF.slot.plain SF.entry (@check_slot (model prog w) _ _ s "object.__setattr__" "object" "__setattr__" (.ref x) [.str name tk,v] [] _ SF.kind SF.split sub (SF.args (.ref x) (.str name tk) v) ?_);have hmro:Looks (model prog w) s.heap (mroOf (.ref C)) (.ref C::bm):=((Looks.ld (part:=none) hC).andThen .now).andThen .now;have L3:Looks (model prog w) s.heap (storeTaker? none) none:=.now;rw[osa_eq,refuse_eq];refine aA (aA (I.type.here (aA (hmro.here ?_))));rw[IZ _ (show B5 (.ref C::bm)=true by unfold B5;exact PK T)];refine aJ (aA (I.type.here (aA ((looks_findIn X ht).here (aA (L3.here ?_))))));exact h
def Ws{name:Str}(X:K.In s.heap)(he:s.heap.get? x=some oe)(hcl:oe.cls=.ref C)(hdc:oe.dict=none)(hdt:oe.data=.fields vs)
 (hm:Ei K C=true)(ho:mroIn K C (.type "object")=some true)(hs:findIn K (.ref C) "__setattr__"=some (some (.builtin "object.__setattr__")))(ht:findIn K (.ref C) name=some none)
 (h:∀h',h'.get? x=some {oe with dict:=some s.heap.objs.size}->h'.Ns1 s.heap.objs.size (λy=>if y=name then some v else none)->(∀b o,b≠x->s.heap.get? b=some o->h'.get? b=some o)->Q () {s with heap:=h',toks:=s.toks+2}) :
 wpAny (model prog w) A (setAttr (.ref x) name v) Q E s:=by
 have J:InstAt s.heap x oe C none:=⟨he,hcl,by unfold notCls;rw[hdt],by rw[hdc];trivial⟩;refine set_plain X J hs (LQ (s:={s with toks:=s.toks+1}) X J hm ho ht ?_);obtain⟨bm,⟨⟨N,nm,qn,bs,sn,sub',ab,col,dd,k0,k1,k2,k3,k5,hC⟩,T⟩,hcall,hinst⟩:=Eh X hm;obtain⟨hp,g,d,t,os⟩:=s;obtain⟨oc,odd,odt,osl⟩:=oe;dsimp only at he hcl hdc hdt X h;subst hcl hdc hdt;unfold storeInOwnDict;have hx₁:(hp.push {cls:=.type "dict",data:=.dict #[]}).get? x=some ⟨.ref C,none,.fields vs,osl⟩:=aC _ he;have hxs:x≠hp.objs.size:=aQ (aK he);have hcd:Looks (model prog w) hp (classData C) _:=(Looks.ld (part:=none) hC).andThen .now;refine aA (aJ (aA ?_));show wpAny _ _ (instanceDict x true) _ _ _;unfold instanceDict;refine aA (gF he ?_);dsimp only;refine aA (hcd.at ?_);dsimp only;simp only[Bool.not_true,Bool.false_eq_true,if_false,Bool.false_or,typeHasDict];refine aA (wpAny_alloc' ?_);refine aA (wpAny_update' hx₁ ?_);refine aJ ?_;have hgd:((hp.push {cls:=.type "dict",data:=.dict #[]}).update x λo=>{cls:=o.cls,dict:=some hp.objs.size,data:=o.data,slots:=o.slots}).get? hp.objs.size
  =some {cls:=.type "dict",data:=.dict #[]}:=
  (Heap.get?_update_ne _ _ _ _ hxs.symm).trans (Heap.get?_push_at rfl rfl)
 have hnd:((hp.push {cls:=.type "dict",data:=.dict #[]}).update x λo=>{cls:=o.cls,dict:=some hp.objs.size,data:=o.data,slots:=o.slots}).Ns hp.objs.size (λ_=>none):=
  ⟨_,#[],_,hgd,rfl,λe he=>absurd he (by simp),λ_=>rfl⟩
 show wpAny _ _ (storeInDict hp.objs.size (.str name _) name v) _ _ _;unfold storeInDict newKeyGuard;refine aA (aJ (aA (wpAny_nsSet1 (Heap.Ns1.of_empty hnd) λh' hn' hs=>?_)));obtain⟨oD,esD,epD,hoD,hdD,hcD⟩:=hn'.count (Within.cons name v Within.nil);refine aA (wpAny_lookBehind hoD (by rw[hdD];exact pastItsLine_dict (b9 hcD (by rw[cC,List.length_nil,dE];omega))) ?_)
 wp_walk
 refine h h' ?_ hn' λb o hb e1=>?_
 ·refine(hs.2 x hxs).trans (cJ _ hx₁ rfl)
 exact(hs.2 b (aQ (aK e1))).trans ((Heap.get?_update_ne _ _ _ _ hb).trans (aC _ e1))
end
noncomputable def Dz(K:Frag)(C:Addr):Bool:=findIn K (.ref C) "__getattribute__" ==some (some (.builtin "BaseException.__getattribute__"))&&findIn K (.ref C) "__getattr__" ==some none&&mroIn K C (.type "BaseException") ==some true
section
variable {prog:Program}{w:World}{A:Around}{E:Vq}{K:Frag}{C x:Addr}{R:Result->Shared->Prop}{s:Shared}{name:Str}
def Tp(X:K.In s.heap)(I:InstAt s.heap x ox C od)(hg:Dz K C=true)(hf:findObj K C od name=some r)
 (h:match r with| .value v=>R (.ok (.ret v)) s| .bind g a=>wpAny (model prog w) A.in1 (call g [a,.ref x,.ref C]) (λv s'=>R (.ok (.ret v)) s') (λe s'=>R (.error e) s') s| .missing=>False) :
 codeAny (model prog w) A (.call (.builtin "BaseException.__getattribute__") ⟨[.ref x,.str name tk],[]⟩) R s:=by
 unfold Dz at hg;simp only[Bool.and_eq_true,beq_iff_eq]at hg;obtain⟨⟨hga,hgk⟩,hb⟩:=hg;have sub:Looks (model prog w) s.heap (isInstance (.ref x) (.type "BaseException")) true:=I.type.andThen (looks_mroIn X hb);refine cZ PySem.F.attrBase_ValueError.ga.plain PySem.F.entry_bexc_ga ?_;refine @check_slot (model prog w) _ _ s "BaseException.__getattribute__" "BaseException" "__getattribute__" (.ref x) [.str name tk] [] _ (by decide +kernel) (by decide +kernel) sub (PySem.F.args_bexc_ga (.ref x) (.str name tk)) ?_;unfold Builtin.«object.__getattribute__»;have L0:=I.type (M:=model prog w);have L1:=looks_find (M:=model prog w) X I hf;refine aA (aJ (aA (aJ (aA (L0.here (aA (L1.here ?_)))))));cases r with
 |value v=>exact aJ h
 |bind g a=>
  show wpAny _ _ (holding [a] (call g [a,.ref x,.ref C]) >>=ret) _ _ _;exact aA (bR (bN h (λv s' z=>aJ z) λ_ _ z=>z))
 |missing=>exact h.elim
def LR(X:K.In s.heap)(I:InstAt s.heap x ox C od)(hg:Dz K C=true)(hf:findObj K C od name=some (.value v))(hv:handedIn v=true)
 (h:Q v {s with toks:=s.toks+1}):wpAny (model prog w) A (getAttr (.ref x) name expr) Q E s:=by
 have hg':=hg;unfold Dz at hg';simp only[Bool.and_eq_true,beq_iff_eq]at hg';obtain⟨⟨hga,hgk⟩,hb⟩:=hg';refine aA (wpAny_mkText (bR (aA (I.type _ _ _ _ (λ_ _ e=>e) (aA (looks_findIn X hga _ _ _ _ (λ_ _ e=>e) ?_))))));dsimp only;have hx2:(Value.builtin "BaseException.__getattribute__" ==Value.builtin "object.__getattribute__")=false:=by decide +kernel
 rw[show(onTheHeap (Value.ref C)&&Value.builtin "BaseException.__getattribute__" ==Value.builtin "object.__getattribute__")=false from by rw[hx2,gG],if_neg (by decide)];refine aA (looks_hook X (mc:=.ref C) (r:=none) hgk _ _ _ _ (λ_ _ e=>e) (aA (gR (bR ?_))));unfold callGetattribute;rw[show(expr&&onTheHeap (Value.builtin "BaseException.__getattribute__"))=false from gG _,if_neg (by decide)];unfold boundAndCalled;rw[PySem.F.attrBase_ValueError.ga.bind];refine aA (aJ ?_);show wpAny _ _ (call (.builtin "BaseException.__getattribute__") [.ref x,.str name s.toks]) _ _ _;refine cO (Tp (s:={s with toks:=s.toks+1}) X I hg hf ?_);show wpAny _ _ (handedOut v) _ _ _;rw[handedOut_of hv];exact aJ h
def Qj(X:K.In s.heap)(I:InstAt s.heap x ox C (some od))(hg:Dz K C=true)
 (hcd:(clsIn K C).isSome=true)(ha:findIn K (.ref C) "__class__"=some (some (.builtin "object.__class__")))(hn:specialIn K (.builtin "object.__class__") "__get__"=some (some (.builtin "getset_descriptor.__get__")))
 (htk:takesIn K (.builtin "object.__class__")=some true)(hm:mroIn K C (.type "object")=some true)
 (h:Q (some (.ref C)) {s with toks:=s.toks+1}):wpAny (model prog w) A (getAttr? (.ref x) "__class__") Q E s:=by
 have hg':=hg;unfold Dz at hg';simp only[Bool.and_eq_true,beq_iff_eq]at hg';obtain⟨⟨hga,hgk⟩,hb⟩:=hg';have hf:findObj K C (some od) "__class__"=some (.bind (.builtin "getset_descriptor.__get__") (.builtin "object.__class__")):=findObj_data (by obtain⟨cd,hc⟩:=bX.mp hcd;rw[hc];rfl) ha hn htk;unfold getAttr? getAttrBy? getAttrBy;refine aA (wpAny_mkText (aA (gR (bR (aA (I.type _ _ _ _ (λ_ _ e=>e) (aA (looks_findIn X hga _ _ _ _ (λ_ _ e=>e) ?_))))))));dsimp only;have hx2:(Value.builtin "BaseException.__getattribute__" ==Value.builtin "object.__getattribute__")=false:=by decide +kernel
 rw[show(onTheHeap (Value.ref C)&&Value.builtin "BaseException.__getattribute__" ==Value.builtin "object.__getattribute__")=false from by rw[hx2,gG],if_neg (by decide)];refine aA (looks_hook X (mc:=.ref C) (r:=none) hgk _ _ _ _ (λ_ _ e=>e) (aA (gR (bR ?_))));unfold callGetattribute;rw[show(false&&onTheHeap (Value.builtin "BaseException.__getattribute__"))=false from rfl,if_neg (by decide)];unfold boundAndCalled;rw[PySem.F.attrBase_ValueError.ga.bind];refine aA (aJ ?_);show wpAny _ _ (call (.builtin "BaseException.__getattribute__") [.ref x,.str "__class__" s.toks]) _ _ _;refine cO (Tp (s:={s with toks:=s.toks+1}) X I hg hf ?_);refine cO (class_get (s:={s with toks:=s.toks+1}) (ox:=ox) (od:=some od) X I hm ?_);show wpAny _ _ (handedOut (.ref C)) _ _ _;refine handed_on rfl ?_;exact aJ h
def LB(hg:Dz K D=true)(hcd:(clsIn K D).isSome=true)(ha:findIn K (.ref D) "__class__"=some (some (.builtin "object.__class__")))
 (hn:specialIn K (.builtin "object.__class__") "__get__"=some (some (.builtin "getset_descriptor.__get__")))(htk:takesIn K (.builtin "object.__class__")=some true)(hm:mroIn K D (.type "object")=some true) :
 KitX K (.ref x) (.ref D) (λh=>InstAt h x ox D (some od)) where
 ty:=λ_ _ _ I=>I.type
 it:=λ_ _ X _=>by
  obtain⟨cdD,hcD⟩:=bX.mp hcd;unfold clsIn at hcD;split at hcD
  ·rename_i c' d' cd' sl' ho;intro A' Q' E' s' k q;unfold isType loadHead;exact aA (gF (k _ _ (X _ _ ho)) (aJ q))
  cases hcD
 ne:=λh tp dd its n sl X htp=>by
  obtain⟨cdD,hcD⟩:=bX.mp hcd;refine Bool.eq_false_iff.mpr λq=>?_;have e:=Value.ref.inj (aI.mp q);subst e;unfold clsIn at hcD;split at hcD
  ·rename_i c' d' cd' sl' ho;have z:=(X _ _ ho).symm.trans htp;cases z
  cases hcD
 ca:=λX I k=>Qj X I hg hcd ha hn htk hm k
end
def Uf(e C:Addr)(d:Option Addr)(h:Heap):Prop:=∃(t:Addr) (rest:List Value) (sl:Array (Option Value)),h.get? e=some {cls:=.ref C,dict:=d,data:=.fields (.ref t:: .none::rest).toArray,slots:=sl}
def Pp(e C:Addr)(d:Option Addr)(h:Heap):Prop:=∃(t:Addr) (rest:List Value) (sl:Array (Option Value)),h.get? e=some {cls:=.ref C,dict:=d,data:=.fields (.ref t::rest).toArray,slots:=sl}
def CO(e C:Addr)(d:Option Addr):HO:=.ext (Pp e C d)
def KC(x:Pp e C d h):AN P w H h e (CO e C d):=by
 refine⟨x,?_,λh1 h2 p k=>?_⟩
 ·obtain⟨t,r,sl,q⟩:=x;exact⟨_,q⟩
 obtain⟨t,r,sl,q⟩:=p;exact⟨t,r,sl,k _ q⟩
def OQ(x:AN P w H h e (CO e C d)):Pp e C d h:=x.1
def BN(e C:Addr)(d:Option Addr):HO:=.ext (Uf e C d)
def KD(x:Uf e C d h):AN P w H h e (BN e C d):=by
 refine⟨x,?_,λh1 h2 p k=>?_⟩
 ·obtain⟨t,r,sl,q⟩:=x;exact⟨_,q⟩
 obtain⟨t,r,sl,q⟩:=p;exact⟨t,r,sl,k _ q⟩
def FS(x:AN P w H h e (BN e C d)):Uf e C d h:=x.1
structure WS(H:Hp)(e C dx:Addr)(fs:List (Str×V)):Prop where
 at_:H e=some (BN e C (some dx))\/H e=some (CO e C (some dx))
 dct:H dx=some (.xd fs)
def WS.is(x:WS H e C dx fs)(k:D9 P w H h):Pp e C (some dx) h:=by
 rcases x.at_ with z|z
 ·obtain⟨t,r,sl,q⟩:=FS (k e _ z);exact⟨t,_,sl,q⟩
 exact OQ (k e _ z)
noncomputable def iq(K:Frag)(C:Addr)(n:Str):Bool:=Ei K C&&Dz K C&&(clsIn K C).isSome&&findIn K (.ref C) "__setattr__" ==some (some (.builtin "object.__setattr__")) &&
 findIn K (.ref C) "__class__" ==some (some (.builtin "object.__class__"))&&specialIn K (.builtin "object.__class__") "__get__" ==some (some (.builtin "getset_descriptor.__get__")) &&
 takesIn K (.builtin "object.__class__") ==some true&&mroIn K C (.type "object") ==some true&&findIn K (.ref C) n ==some none&&(clsIn K C).any (·.hasDict)
structure QH(K:Frag)(C:Addr)(n:Str):Prop where
 mkk:Ei K C=true
 get:Dz K C=true
 cls:(clsIn K C).isSome=true
 sa:findIn K (.ref C) "__setattr__"=some (some (.builtin "object.__setattr__"))
 ca:findIn K (.ref C) "__class__"=some (some (.builtin "object.__class__"))
 cg:specialIn K (.builtin "object.__class__") "__get__"=some (some (.builtin "getset_descriptor.__get__"))
 ct:takesIn K (.builtin "object.__class__")=some true
 mo:mroIn K C (.type "object")=some true
 nm:findIn K (.ref C) n=some none
 hd:(clsIn K C).any (·.hasDict)=true
def QQ{K:Fq}{C:Addr}{n:Str}(h:iq K C n=true):QH K C n:=by
 unfold iq at h;simp only[Bool.and_eq_true,beq_iff_eq]at h;obtain⟨⟨⟨⟨⟨⟨⟨⟨⟨a,b⟩,c⟩,d⟩,e⟩,f⟩,g⟩,i⟩,j⟩,k⟩:=h;exact⟨a,b,c,d,e,f,g,i,j,k⟩
structure Yb(K:Frag)(mg:Str->Option Value)(x:Str)(G:Addr):Prop where
 mg:mg x=some (.ref G)
 rd:PySem.W.readsIn K G (.type "type")=true
 fc:PySem.W.findCls K (.ref G) (.type "type") "__init__"=some (.val (.builtin "ValueError.__init__"))
 ga:specialIn K (.ref G) "__getattribute__"=some (some (.builtin "type.__getattribute__"))
section
def Y4(K:Frag)(t:TA):TE:=λσ H Q=>t σ H λvs H1=>∃e C d v,vs=[.ref e,v]/\H1 e=some (BN e C d)/\Ei K C=true/\Q .non H1
def TR(I:Ae X pins σ H s)(ea:H e=some (BN e C d))(hm:Ei X.K C=true)(h:∀s',Ae X pins σ H s'->Q .none s') :
 wpAny (model X.prog X.w) A (call (.builtin "ValueError.__init__") [.ref e,u]) Q E s:=by
 obtain⟨t0,rest,sl,q⟩:=FS (I.hok e _ ea);obtain⟨bm,c,_,_⟩:=Eh I.kIn hm;obtain⟨hp,g,dr,t,os⟩:=s;refine Q6 c q rfl rfl λh' k ⟨t1,q1⟩ _=>h _ ?_;have I2:=I.write (x:=e) (e:=e) (o:=BN e C d) (h':=h') (t':=t) (by rw[ea];exact True.intro) (.inl rfl) (λb o hb z=>k b o hb z) ⟨_,q1⟩ (KD ⟨t1,rest,sl,q1⟩);have eH:upd H e (BN e C d)=H:=by
  funext b
  unfold upd;split
  ·rename_i z;rw[z,ea]
  rfl
 rw[eH]at I2;exact I2
def RW{x:Str}(B:Yb X.K X.mg x G)(hg:Gl X x)(ha:PA X (a::es) t)(hdb:(x ==("__debug__" :Str))=false:=by decide)
 (hst:starEach (a::es) X.env=(false,eval a X.env)::starEach es X.env:=by rfl)(hpl:(backTo pos (starEach es X.env)).any (·.1)=false:=by rfl)
 (ht:eval (.Call (.Attribute (.Name x p) "__init__" apos) (a::es) [] pos) X.env=(do
   let ov ←eval (.Name x p) X.env
   standAt apos.atName
   let (f,first) ←holding [ov] (getMethod ov "__init__" pl)
   callWith pos f first (backTo pos (starEach (a::es) X.env)) (backToKw pos (keywordEach [] X.env))):=by rfl) :
 PE X (.Call (.Attribute (.Name x p) "__init__" apos) (a::es) [] pos) (Y4 X.K t):=by
 intro pins s σ H Q I h;refine PySem.W.methodCall_KW (pl:=pl) (Bg (FC hg B.mg (show AA (.ref G) (.ref G) from rfl) hdb pins s σ H (λv H1=>v=.ref G/\H1=H) I ⟨rfl,rfl⟩) λu s1 ⟨v,H1,I1,rv,ev,eH⟩=>?_) ht;subst ev eH;obtain rfl:u=Value.ref G:=rv;refine PySem.W.method_cls I1.kIn B.ga (PySem.W.cls_value I1.kIn B.rd B.fc rfl ?_);have hA:=ha pos pins _ σ H1 _ (I1.tok (s1.toks+1)) h;rw[hst]at hA ⊢;refine dF (by show(false||(backTo pos (starEach es X.env)).any (·.1))=false;rw[hpl]<;>rfl) (eU ?_);refine Bg hA λus s2 ⟨vs,H2,I2,r2,e,C,d,v,ev,ea,hm,q⟩=>?_;subst ev;obtain⟨u1,u2,rfl,r1,r2'⟩:=EQ r2;obtain rfl:u1=Value.ref e:=r1;exact TR I2 ea hm λs' I'=>⟨.non,H2,I',rfl,q⟩
def Ut{n:Str}(I:Ae X pins σ H s)(ea:H e=some (BN e C none))(xo:QH X.K C n)(ry:AA y u)
 (h:∀s' dx,H dx=none->dx≠e->Ae X pins σ (upd (upd H e (BN e C (some dx))) dx (.xd [(n,y)])) s'->Q () s'):wpAny (model X.prog X.w) A (setAttr (.ref e) n u) Q E s:=by
 obtain⟨t0,rest,sl,q⟩:=FS (I.hok e _ ea);refine Ws I.kIn q rfl rfl rfl xo.mkk xo.mo xo.sa xo.nm λh' q1 hn k=>?_;have hf:=I.hok.fresh (aN _);have hne:=(Am ea hf).symm;refine h _ _ hf hne (I.un (t':=s.toks+2) ⟨λb o e1 n1 _ _=>?_,λb o e1 n1 _ _=>?_,λb o e1 n1 _=>?_,λb o e1 _=>?_,λb xs e1=>?_,λb o' u' e1=>?_,λb ps e1=>?_⟩ λb o e1=>?_)
 ·exact k b o (λz=>by rw[z,ea]at n1;cases n1) e1
 ·exact⟨o.slots,k b o (λz=>by rw[z,ea]at n1;cases n1) e1⟩
 ·rw[Aa (aQ (aK e1)),Aa (λz=>by rw[z,ea]at n1;cases n1)];exact n1
 ·by_cases hb:b=e
  ·rw[hb];exact⟨_,q1⟩
  exact⟨o,k b o hb e1⟩
 ·rw[Aa (Am e1 hf),Aa (λz=>by rw[z,ea]at e1;cases e1)];exact e1
 ·rw[Aa (Am e1 hf),Aa (λz=>by rw[z,ea]at e1;cases e1)];exact e1
 ·exact⟨#[],by rw[Aa (Am e1 hf),Aa (λz=>by rw[z,ea]at e1;cases e1),e1];simp⟩
 by_cases h1:b=s.heap.objs.size
 ·subst h1;rw[Ab]at e1;cases e1;refine⟨_,hn,λf=>?_⟩;show EM (List.lookup f [(n,y)]) (if f=n then some u else none);by_cases z:f=n
  ·subst z;rw[if_pos rfl];simp only[List.lookup,beq_self_eq_true];exact ry
  rw[if_neg z];have z':=bO.mpr z;simp[List.lookup,z',EM]
 rw[Aa h1]at e1;by_cases h2:b=e
 ·subst h2;rw[Ab]at e1;cases e1;exact KD ⟨t0,rest,sl,q1⟩
 rw[Aa h2]at e1;refine(I.hok b o e1).stay (λc v hc q=>k c v ?_ q) (λc z=>?_) λc xs z=>?_
 ·rcases hc with z|z
  ·rw[z];exact h2
  intro z2;rw[z2,ea]at z;cases z
 ·rw[Aa (Am z hf),Aa (λz2=>by rw[z2,ea]at z;cases z)];exact z
 rw[Aa (Am z hf),Aa (λz2=>by rw[z2,ea]at z;cases z)];exact z
def Uv{n:Str}(I:Ae X pins σ H s)(x:WS H e C dx fs)(xo:QH X.K C n)(l:fs.lookup n=some y)
 (h:∀u s',Ae X pins σ H s'->AA y u->Q u s'):wpAny (model X.prog X.w) A (getAttr (.ref e) n b) Q E s:=by
 obtain⟨t0,rest,sl,q⟩:=x.is I.hok;obtain⟨mA,hn,hr⟩:=(show ∃mA,s.heap.Ns1 dx mA/\∀f,EM (fs.lookup f) (mA f) from I.hok dx _ x.dct);obtain⟨od,ho,hl⟩:=EE hn;have r1:=hr n;rw[l]at r1;obtain⟨u,eu,ru⟩:=EM.some_of r1;have J:PySem.W.InstAt s.heap e _ C (some od):=⟨q,rfl,rfl,ho⟩;exact LR I.kIn J xo.get (PySem.W.findObj_own xo.hd xo.nm rfl (by rw[hl,eu])) (Js ru) (h _ _ (I.tok _) ru)
def My{n:Str}(I:Ae X pins σ H s)(x:WS H e C dx fs)(xo:QH X.K C n)(k:kitOne X.K (.ref C) c=some b)
 (h:∀tk,Q (.bool b) {s with toks:=tk}):wpAny (model X.prog X.w) A (call (.builtin "isinstance") [.ref e,c]) Q E s:=by
 obtain⟨t0,rest,sl,q⟩:=x.is I.hok;obtain⟨mA,hn,hr⟩:=(show ∃mA,s.heap.Ns1 dx mA/\∀f,EM (fs.lookup f) (mA f) from I.hok dx _ x.dct);obtain⟨od,ho,hl⟩:=EE hn;have J:PySem.W.InstAt s.heap e _ C (some od):=⟨q,rfl,rfl,ho⟩;exact kia_one (LB xo.get xo.cls xo.ca xo.cg xo.ct xo.mo) I.kIn J k (λz=>nomatch z) h
def TF:Br X (.builtin "isinstance") (λxs H Q=>∃e C dx fs n c cv b,xs=[.ref e,c]/\NB c=some cv/\WS H e C dx fs/\QH X.K C n/\kitOne X.K (.ref C) cv=some b/\Q (.bl b) H):=by
 intro pins s σ H xs us Q I r h;obtain⟨e,C,dx,fs,n,c,cv,b,rfl,hc,x,xo,hk,q⟩:=h;obtain⟨u,w',rfl,rx,rc⟩:=EQ r;have e1:=Ia hc rc;subst e1;obtain rfl:u=Value.ref e:=rx;exact My I x xo hk λtk=>⟨.bl b,H,I.tok _,rfl,q⟩
end
def jE(K:Frag)(ta tv:TE)(f:Str):TS:=λD σ H=>tv σ H λy H1=>ta σ H1 λx H2=>∃e C,x=.ref e/\H2 e=some (BN e C none)/\QH K C f/\
 ∀dx,H2 dx=none->dx≠e->D.nx σ (upd (upd H2 e (BN e C (some dx))) dx (.xd [(f,y)]))
section
variable {f:Str}
def UX(ha:PE X o ta)(hv:PE X value tv)(hs:swapsWith value (some (.Attribute o f pos')) pos.line X.env=pure false:=by rfl):PS X (.Assign [.Attribute o f pos'] value pos) (jE X.K ta tv f):=by
 intro pins s σ H D I h;refine fX (Bg (hv pins s σ H _ I h) λu s1 ⟨y,H1,I1,ry,q⟩=>Bg (ha pins s1 σ H1 _ I1 q) λov s2 ⟨x,H2,I2,rx,a,C,ex,ea,c,q2⟩=>?_) hs;subst ex;obtain rfl:ov=Value.ref a:=rx;exact Ut I2 ea c ry λs3 dx n1 n2 I3=>⟨σ,_,I3,q2 dx n1 n2⟩
end
def JI(K:Frag)(C:Addr)(n:Str):Sp:=λvs H Q _=>∃e v,vs=[.ref e,v]/\H e=some (BN e C none)/\∀dx,H dx=none->dx≠e->Q .non (upd (upd H e (BN e C (some dx))) dx (.xd [(n,v)]))
def QW(C:Addr)(n:Str)(t:TA):TE:=λσ H Q=>t σ H λvs H1=>∃v,vs=[v]/\∀e dx,H1 e=none->H1 dx=none->dx≠e->Q (.ref e) (upd (upd H1 e (BN e C (some dx))) dx (.xd [(n,v)]))
structure fu(K:Frag)(mg:Str->Option Value)(x n:Str)(C:Addr):Prop where
 mg:mg x=some (.ref C)
 ok:QH K C n
 kp:keepIn K (.ref C)=true
section
variable {k:Nat}{x n:Str}
def P3(M:QH X.K C n)(hi:findIn X.K (.ref C) "__init__"=some (some (.ref f)))(hfn:isFn X.K (.ref f)=true)
 (F:DB X.prog X.w X.K X.mg X.base WU k f fd ps (JI X.K C n))(hr:Ba (k+1) X.A)(hb:CB X.K fd ps [])(I:Ae X pins σ H s)(r:Aq [v] us)
 (h:∀e dx,H e=none->H dx=none->dx≠e->Q (.ref e) (upd (upd H e (BN e C (some dx))) dx (.xd [(n,v)]))) :
 wpAny (model X.prog X.w) X.A (call (.ref C) us) (EP X pins σ Q) X.xe s:=by
 have hfe:H (s.heap.objs.size+1)=none:=I.hok.fresh (cS _);have I1:Ae X pins σ H {s with heap:=s.heap.push (CJ us)}:=I.kept (t':=s.toks) λb u q=>aC _ q;have e2:((s.heap.push (CJ us)).push (Dy C s.heap.objs.size)).get? (s.heap.objs.size+1)=some (Dy C s.heap.objs.size):=by
  have:=aV (s.heap.push (CJ us)) (o:=Dy C s.heap.objs.size) rfl
  rwa[cT]at this
 have I2:Ae X pins σ (upd H (s.heap.objs.size+1) (BN (s.heap.objs.size+1) C none)) {s with heap:=(s.heap.push (CJ us)).push (Dy C s.heap.objs.size)}:=
  I1.laid (a:=s.heap.objs.size+1) (o:=BN (s.heap.objs.size+1) C none) (t':=s.toks) (λb u q=>aC _ q) (gY (cT _ _)) (KD ⟨s.heap.objs.size,_,_,e2⟩)
 have r2:Aq [V.ref (s.heap.objs.size+1),v] (Value.ref (s.heap.objs.size+1)::us):=.cons rfl r;have hq:JI X.K C n [V.ref (s.heap.objs.size+1),v] (upd H (s.heap.objs.size+1) (BN (s.heap.objs.size+1) C none)) (λv H2=>v=.non/\Q (.ref (s.heap.objs.size+1)) H2) E0:=by
  refine⟨_,_,rfl,Ab,λdx n1 n2=>⟨rfl,?_⟩⟩;rw[Uy];rw[Aa n2]at n1;exact h _ _ hfe n1 n2
 have hl:(Value.ref (s.heap.objs.size+1)::us++ []).length=ps.length:=by
  have e:=r2.length;rw[F.len _ _ _ _ hq]at e;rw[bE];exact e.symm
 have hlen:us.length<=sizeLine:=by
  have e:=r.length;rw[←e,dE];simp
 obtain⟨hp,g,d,tt,os⟩:=s;have hb2:=hb _ (Value.ref (hp.objs.size+1)::us) I2.kIn hl;rw[bE]at hb2;refine cO (To I.kIn M.mkk hi (aI.mp hfn) hlen (cA (F.run _ X.stack _ _ ⟨Value.ref (hp.objs.size+1)::us,[]⟩ (Value.ref (hp.objs.size+1)::us) _ _ E0 (hr.make C us [])
  (I2.env0.make C us []) hb2 r2 hq) λr s' hq'=>?_))
 cases r with
 |error e=>exact hq'.elim
 |ok fl=>
  cases fl with
  |ret u=>
   obtain⟨v',H',I3,rv,ev,q3⟩:=I2.after hq';subst ev;have e5:upd H (hp.objs.size+1) (BN (hp.objs.size+1) C none)=upd H (hp.objs.size+1) (BN (hp.objs.size+1) C none):=rfl;exact⟨rv,⟨V.ref (hp.objs.size+1),H',I3,rfl,q3⟩⟩
  |next=>exact False.elim hq'
  |brk=>exact False.elim hq'
  |cont=>exact False.elim hq'
def RK(D:fu X.K X.mg x n C)(hi:findIn X.K (.ref C) "__init__"=some (some (.ref f)))(hfn:isFn X.K (.ref f)=true)
 (F:DB X.prog X.w X.K X.mg X.base WU k f fd ps (JI X.K C n))(hb:CB X.K fd ps [])(hr:Ba (k+1) X.A)(hg:Gl X x)
 (ha:PA X [a] t)(hdb:(x ==("__debug__" :Str))=false:=by decide)(he:starEach [a] X.env=(false,eval a X.env)::starEach [] X.env:=by rfl)(hpl:(backTo pos (starEach [] X.env)).any (·.1)=false:=by rfl) :
 PE X (.Call (.Name x p) [a] [] pos) (QW C n t):=by
 intro pins s σ H Q I h;refine bS (Cp I hg D.mg ?_ hdb);refine callWith_K (h₀:=X.base) I.ok.mod.kin D.kp (Bg (ha pos pins s σ H _ I h) λus s1 ⟨vs,H1,I1,r,v,ev,q⟩=>⟨I1.kIn,?_⟩) he hpl;subst ev;exact P3 D.ok hi hfn F hr hb I1 r q
end
structure me(P:Program)(w:World)(K:Frag)(mg:Str->Option Value)(base:Heap)(x:Str)(k:Nat)(n:Str)(C:Addr):Prop where
 df:fu K mg x n C
 ex:∃(f:Addr) (fd:FuncData),findIn K (.ref C) "__init__"=some (some (.ref f))/\isFn K (.ref f)=true/\DB P w K mg base WU k f fd ["self",n] (JI K C n)/\CB K fd ["self",n] []
def qV{k j:Nat}{x n:Str}(D:me X.prog X.w X.K X.mg X.base x k n C)(hr:Ba (j+1) X.A)(hj:k<=j)(hg:Gl X x)
 (ha:PA X [a] t)(hdb:(x ==("__debug__" :Str))=false:=by decide)(he:starEach [a] X.env=(false,eval a X.env)::starEach [] X.env:=by rfl)(hpl:(backTo pos (starEach [] X.env)).any (·.1)=false:=by rfl) :
 PE X (.Call (.Name x p) [a] [] pos) (QW C n t):=by
 obtain⟨f,fd,hi,hfn,F,hb⟩:=D.ex;exact RK D.df hi hfn F hb (hr.mono (Nat.succ_le_succ hj)) hg ha hdb he hpl
section
theorem Hv:∀{ys:List Str}{us:List Value},Aq (ys.map V.str) us->StrsAre us ys
 |[],_,.nil=>.nil
 |y::r,_,.cons h t=>by
  obtain⟨k,rfl⟩:=h;exact .cons y k (Hv t)
def V8:o9 X "str.join" (λx xs H Q=>∃z a ys,x=.str z/\xs=[.ref a]/\D8 X.K H a (ys.map V.str)/\(ys.map (·.length)).sum+ys.length*z.length<=16777216/\Q (.str (Txt.join z ys)) H):=by
 intro pins s σ H x xs v us Q I rx rs h;obtain⟨z,a,ys,rfl,rfl,hq,hz,q⟩:=h;obtain⟨t,rfl⟩:=rx;obtain⟨u,rfl,ru⟩:=DP rs;cases ru;obtain⟨its,rv,pl,_⟩:=I.list hq;exact join_list pl.isList (by simpa using Hv rv) hz λt' k=>⟨.str _,H,I.tok _,⟨_,rfl⟩,q⟩
end
structure Ud(l:List Env)(e:Addr)(oe:Obj)(vs:Array Value)(h h':Heap):Prop where
 keep:∀b o,b≠e->b∉Dw l->h.get? b=some o->h'.get? b=some o
 slot:∀b o,b∈Dw l->h.get? b=some o->∃sl,h'.get? b=some {o with slots:=sl}
 head:∃(T:Addr) (oT:Obj) (ts:Array Value),h'.get? e=some {oe with data:=.fields (vs.setIfInBounds 1 (.ref T))}/\h.objs.size<=T/\T≠e/\h'.get? T=some oT/\oT.data=.fields ts/\ts[3]?=some .none
section
def XI(hfr:A.frames=some (env::outer))(hl:s.heap.FunFrames base (env::outer))(hf:env.frame=some L)(he:s.heap.get? e=some oe)(hdt:oe.data=.fields vs)(h1:1<vs.size)
 (hq:∀h',Ud (env::outer) e oe vs s.heap h'->Q () {s with heap:=h'}) :
 wpAny M A (do
  let fr ←frameOf env
  let pl ←entryPlaceOf L b
  let r ←EntryCells.newEntry hd fr .none (rawInt L) .none pl
  setField (.ref e) 1 r) (λ_ s'=>wpAny M A (setFlight (.ref e) none) Q E s') E s:=by
 have ne:e∉Dw (env::outer):=λz=>by
  obtain⟨_,o,ho,nf⟩:=hl.mem z;rw[he]at ho;cases ho;exact nf vs hdt
 refine aA (wpAny_frameOf_fun hfr hl hf λh1' sl1=>aA (wpAny_entryPlaceOf λpl hpl=>?_));have e1:h1'.get? e=some oe:=(sl1.2.1 e ne).trans he;unfold EntryCells.newEntry newFields;refine aA (fN ?_ (hpl.sizeOk5 _ _ _ _ _));generalize hob:({cls:=.type "traceback",dict:=none,data:=.fields ([hd,.ref L,.none,rawInt L,.none]++(if pl.isEmpty then List.replicate 6 Value.none else pl)).toArray}:Obj)=ob;have hobd:ob.data=.fields ([hd,.ref L,.none,rawInt L,.none]++(if pl.isEmpty then List.replicate 6 Value.none else pl)).toArray:=by rw[←hob]
 have e2:(h1'.push ob).get? e=some oe:=aC _ e1;have eT:h1'.objs.size≠e:=fZ (aK e1);have t2:(h1'.push ob).get? h1'.objs.size=some ob:=aV h1' (by rw[←hob];rfl);refine eR e2 hdt h1 ?_;dsimp only;have d3:=eG hdt (·.setIfInBounds 1 (Value.ref h1'.objs.size));have e3:=cJ (Obj.mapFields (·.setIfInBounds 1 (Value.ref h1'.objs.size))) e2 (eS d3);have t3:=(bV (h1'.push ob) (Obj.mapFields (·.setIfInBounds 1 (Value.ref h1'.objs.size))) (bL eT)).trans t2;have o3:∀c,c≠e->c≠h1'.objs.size->∀o,h1'.get? c=some o->((h1'.push ob).update e (Obj.mapFields (·.setIfInBounds 1 (Value.ref h1'.objs.size)))).get? c=some o:=λc n1 n2 o q=>
  (bV _ _ (bL n1)).trans (aC _ q)
 generalize (h1'.push ob).update e (Obj.mapFields (·.setIfInBounds 1 (Value.ref h1'.objs.size)))=h3 at e3 t3 o3;unfold setFlight;refine aA (dG e3 d3 (x:=.ref h1'.objs.size) (by rw[eY h1]) ?_);rw[if_pos (by simp)];have sz:3<([hd,.ref L,.none,rawInt L,.none]++(if pl.isEmpty then List.replicate 6 Value.none else pl)).toArray.size:=by
  rw[bB,aR];simp;omega
 refine eR t3 hobd sz (hq _ ?_);have d4:=eG hobd (·.setIfInBounds 3 ((none:Option Addr).elim Value.none λf=>rawInt f));have t4:=cJ (Obj.mapFields (·.setIfInBounds 3 ((none:Option Addr).elim Value.none λf=>rawInt f))) t3 (eS d4);have o4:∀c,c≠h1'.objs.size->(h3.update h1'.objs.size (Obj.mapFields (·.setIfInBounds 3 ((none:Option Addr).elim Value.none λf=>rawInt f)))).get? c=h3.get? c:=λc n=>bV _ _ (bL n);have lt1:∀c o,s.heap.get? c=some o->c≠h1'.objs.size:=λc o q=>by
  rw[sl1.1];exact aQ (aK q)
 refine⟨λc o n1 n2 q=>?_,λc o n1 q=>?_,h1'.objs.size,_,_,?_,?_,eT,t4,d4,?_⟩
 ·rw[o4 c (lt1 c o q)];exact o3 c n1 (lt1 c o q) o ((sl1.2.1 c n2).trans q)
 ·obtain⟨sl,z⟩:=sl1.2.2 c o q;refine⟨sl,?_⟩;rw[o4 c (lt1 c o q)];exact o3 c (λz2=>ne (z2▸n1)) (lt1 c o q) _ z
 ·rw[o4 e (bL eT),e3];obtain⟨a1,a2,a3,a4⟩:=oe;dsimp only at hdt;subst hdt;rfl
 ·rw[sl1.1];exact aN _
 rw[eY sz];rfl
def Qa(hfr:A.frames=some (env::outer))(hl:s.heap.FunFrames base (env::outer))(hf:env.frame=some L)(he:s.heap.get? e=some oe)(hdt:oe.data=.fields vs)(h1:vs[1]?=some .none)
 (hq:∀h',Ud (env::outer) e oe vs s.heap h'->Q () {s with heap:=h'}):wpAny M A (leaving env (.ref e)) Q E s:=by
 unfold leaving noteFrame;rw[hf];refine aA (aA (dG he hdt h1 ?_));rw[if_neg (by decide)];exact XI hfr hl hf he hdt (dR.mp h1).1 hq
def Ox(hfr:A.frames=some (env::outer))(hl:s.heap.FunFrames base (env::outer))(hf:env.frame=some L)(he:s.heap.get? e=some oe)(hdt:oe.data=.fields vs)(h1:vs[1]?=some (.ref T))
 (hT:s.heap.get? T=some oT)(hTe:T≠e)(hdT:oT.data=.fields ts)(h3:ts[3]?=some .none)
 (hq:∀h1 h',(∀b o,b≠T->s.heap.get? b=some o->h1.get? b=some o)->h1.objs.size=s.heap.objs.size->(∃o,h1.get? T=some o)->Ud (env::outer) e oe vs h1 h'->Q () {s with heap:=h'}):wpAny M A (noteFrame (.ref e) env) (λ_ s'=>wpAny M A (setFlight (.ref e) none) Q E s') E s:=by
 unfold noteFrame;rw[hf];refine aA (dG he hdt h1 ?_);rw[if_pos (by simp)];refine aA (dG hT hdT h3 ?_);rw[if_neg (by simp[rawInt])];refine aA (eR hT hdT (dR.mp h3).1 ?_);have ot:∀c,c≠T->(s.heap.update T (Obj.mapFields (·.setIfInBounds 3 Value.none))).get? c=s.heap.get? c:=λc n=>bV _ _ (bL n);have nf:∀c o,s.heap.get? c=some o->(∀xs,o.data≠ .fields xs)->c≠T:=λc o q z n=>by
  rw[n,hT]at q;cases q;exact z ts hdT
 have tT:=cJ (Obj.mapFields (·.setIfInBounds 3 Value.none)) hT (eS (eG hdT _));exact XI (s:={s with heap:=s.heap.update T (Obj.mapFields (·.setIfInBounds 3 Value.none))}) hfr (hl.of_keeps λc o q z=>⟨o,(ot c (nf c o q z)).trans q,rfl⟩) hf ((ot e (bL hTe)).trans he) hdt (dR.mp h1).1
  λh' g=>hq _ h' (λc o n q=>(ot c n).trans q) (Heap.size_after_update ..) ⟨_,tT⟩ g
def Sr(hfr:A.frames=some (env::outer))(hl:s.heap.FunFrames base (env::outer))(hf:env.frame=some L)(he:s.heap.get? e=some oe)(hdt:oe.data=.fields vs)(h1:vs[1]?=some (.ref T))
 (hT:s.heap.get? T=some oT)(hTe:T≠e)(hdT:oT.data=.fields ts)(h3:ts[3]?=some .none)
 (hq:∀h1 h',(∀b o,b≠T->s.heap.get? b=some o->h1.get? b=some o)->h1.objs.size=s.heap.objs.size->(∃o,h1.get? T=some o)->Ud (env::outer) e oe vs h1 h'->Q () {s with heap:=h'}):wpAny M A (leaving env (.ref e)) Q E s:=by
 unfold leaving;exact aA (Ox hfr hl hf he hdt h1 hT hTe hdT h3 hq)
end
def tR(g:Heap)(H:Hp)(h:Heap)(a:Addr):Prop:=∃(C:Addr) (d:Option Addr) (t T:Addr) (rest:List Value) (sl:Array (Option Value)) (oT:Obj) (ts:Array Value),
 H a=some (CO a C d)/\h.get? a=some {cls:=.ref C,dict:=d,data:=.fields (.ref t:: .ref T::rest).toArray,slots:=sl}/\T≠a/\h.get? T=some oT/\oT.data=.fields ts/\ts[3]?=some .none/\H T=none/\g.objs.size<=T
def Gy(P:Program)(w:World):Ye:=λouter H s E e s'=>∃(a:Addr) (H':Hp),e=.ref a/\s'.os=s.os/\AllBare s'.gens/\Un (Dw outer) [] H H' s.heap s'.heap/\D9 P w H' s'.heap/\tR s.heap H' s'.heap a/\E (.ref a) none H'
section
def OF(u:Un (Dw outer) [] H₀ H' g h1)(gn:Ud (env::outer) a oe vs h1 h')
 (ha:∀b o,g.get? b=some o->H₀ b=none->b≠a)(hL:∀b o,g.get? b=some o->b∈Dw (env::outer)->b∈Dw outer)
 (hs:∀b o,H' b=some o->b≠a->H'' b=some o)(hn:∀b,H' b=none->H'' b=none)(hx:H' a=H'' a\/(∃φ,H' a=some (.ext φ))):Un (Dw outer) [] H₀ H'' g h':=by
 have nx:∀b o,H' b=some o->(∀φ,o≠ .ext φ)->H'' b=some o:=λb o q z=>by
  by_cases hb:b=a
  ·subst hb;rcases hx with e|⟨φ,e⟩
   ·rw[←e];exact q
   rw[e]at q;cases q;exact absurd rfl (z φ)
  exact hs b o q hb
 have thr:∀b o,h1.get? b=some o->∃o',h'.get? b=some o':=λb o q=>by
  by_cases hb:b=a
  ·subst hb;obtain⟨T,oT,ts,e1,_⟩:=gn.head;exact⟨_,e1⟩
  by_cases hf:b∈Dw (env::outer)
  ·obtain⟨sl,z⟩:=gn.slot b o hf q;exact⟨_,z⟩
  exact⟨o,gn.keep b o hb hf q⟩
 refine⟨λb o q n hf he=>?_,λb o q n hf he=>?_,λb o q n he=>hn b (u.free b o q n he),λb o q he=>?_,λb xs q=>nx b _ (u.tups b xs q) (λφ z=>by cases z),λb o x q=>nx b _ (u.frzs b o x q) (λφ z=>by cases z),λb ps q=>?_⟩
 ·exact gn.keep b o (ha b o q n) (λz=>hf (hL b o q z)) (u.keep b o q n hf he)
 ·obtain⟨sl,z⟩:=u.slot b o q n hf he;have hf':b∈Dw (env::outer):=by
   unfold Dw at hf ⊢;rw[dC];split
   ·exact hf
   exact aD _ hf
  obtain⟨sl',z'⟩:=gn.slot b _ hf' z;exact⟨sl',z'⟩
 ·obtain⟨o',z⟩:=u.there b o q he;exact thr b o' z
 obtain⟨m,z⟩:=u.tbls b ps q;exact⟨m,nx b _ z (λφ z=>by cases z)⟩
end
section
variable {P:Program}{w:World}{K:Fq}{mg:Mq}{base:Heap}{N:List Str}{qual:Str}{scope:Scope}{f:Addr}{cdv:Value}{A:Around}{outer:List Env}{s₀:Shared}{H₀:Hp}{E:XK}{pins:Pq}{σ:St}{H:Hp}{s:Shared}
def R0(I:Ae (Fp (Gy P w) P w K mg base N qual scope f cdv A outer s₀ H₀ E) pins σ H s)(ea:H a=some (BN a C d))(hE:E (.ref a) none (upd H a (CO a C d))) :
 (Fp (Gy P w) P w K mg base N qual scope f cdv A outer s₀ H₀ E).xe (.ref a) s:=by
 obtain⟨t0,rest,sl,q⟩:=FS (I.hok a _ ea);have hst:s.heap.FunFrames base (envOfC qual scope s₀.heap.objs.size f cdv::outer):=I.stack;have hfr:(A.deeper (envOfC qual scope s₀.heap.objs.size f cdv)).frames=some (envOfC qual scope s₀.heap.objs.size f cdv::outer):=I.ok.frames;have sf:∀b∈Dw (envOfC qual scope s₀.heap.objs.size f cdv::outer),H b=none:=I.stkFree;have hu:Un (Dw outer) [] H₀ H s₀.heap s.heap:=I.base;refine Qa (s:=s) (L:=s₀.heap.objs.size) hfr hst rfl q rfl rfl λh' gn=>?_;obtain⟨T,oT,ts,g1,g2,g3,g4,g5,g6⟩:=id gn.head;have hT:H T=none:=I.hok.fresh g2;refine⟨a,upd H a (CO a C d),rfl,I.os,I.bare,OF hu gn (λb o z n=>?_) (λb o z m=>?_) (λb o z n=>by rw[Aa n];exact z) (λb z=>by rw[Aa (λn=>by rw[n,ea]at z;cases z)];exact z) (.inr ⟨_,ea⟩),λb o z=>?_,?_,hE⟩
 ·intro n;have:=hu.free b o z ‹_› (by simp);rw[n,ea]at this;cases this
 ·rcases aH.mp (show b∈s₀.heap.objs.size::Dw outer from m) with n|n
  ·rw[n]at z;exact absurd (aK z) (bJ _)
  exact n
 ·by_cases hb:b=a
  ·subst hb;rw[Ab]at z;cases z;exact KC ⟨t0,_,sl,g1⟩
  rw[Aa hb]at z;refine(I.hok b o z).stay (λc v hc r=>gn.keep c v (λn=>?_) (λn=>?_) r) (λc r=>by rw[Aa (λn=>by rw[n,ea]at r;cases r)];exact r) λc xs r=>by rw[Aa (λn=>by rw[n,ea]at r;cases r)];exact r
  ·rcases hc with m|m
   ·exact hb (m▸n)
   rw[n,ea]at m;cases m
  have:=sf c n;rcases hc with m|m
  ·rw[m,z]at this;cases this
  rw[m]at this;cases this
 refine⟨C,d,t0,T,rest,sl,oT,ts,Ab,g1,g3,g4,g5,g6,by rw[Aa g3];exact hT,b9 I.sz g2⟩
def Vw(I:Ae (Fp (Gy P w) P w K mg base N qual scope f cdv A outer s₀ H₀ E) pins σ H s)
 (hc:Gy P w (envOfC qual scope s₀.heap.objs.size f cdv::outer) H s E1 e s')(hE:∀a H',E1 (.ref a) none H'->E (.ref a) none H') :
 (Fp (Gy P w) P w K mg base N qual scope f cdv A outer s₀ H₀ E).xe e s':=by
 obtain⟨a,H',rfl,ho,hg,u,hok,⟨C,d,t,T,rest,sl,oT,ts,ha,q,hTa,hT,hdT,h3,hnT,hgT⟩,e1⟩:=hc;have I':Ae (Fp (Gy P w) P w K mg base N qual scope f cdv A outer s₀ H₀ E) pins σ H' s':=I.call' (ch:=[]) ho u hok hg (λ_ z=>nomatch z);have hst:s'.heap.FunFrames base (envOfC qual scope s₀.heap.objs.size f cdv::outer):=I'.stack;have hfr:(A.deeper (envOfC qual scope s₀.heap.objs.size f cdv)).frames=some (envOfC qual scope s₀.heap.objs.size f cdv::outer):=I'.ok.frames;have sf:∀b∈Dw (envOfC qual scope s₀.heap.objs.size f cdv::outer),H' b=none:=I'.stkFree;have hu:Un (Dw outer) [] H₀ H' s₀.heap s'.heap:=I'.base;have hu0:Un (Dw outer) [] H₀ H s₀.heap s.heap:=I.base;have s0T:s₀.heap.get? T=none:=Heap.get?_none_of_le (b9 I.sz hgT);refine Sr (s:=s') (L:=s₀.heap.objs.size) hfr hst rfl q rfl rfl hT hTa hdT h3 λh1 h' k1 sz1 hT1 gn=>?_;obtain⟨T2,oT2,ts2,g1,g2,g3,g4,g5,g6⟩:=id gn.head;have k1': ∀b o,s₀.heap.get? b=some o->b≠T:=λb o z n=>by rw[n,s0T]at z;cases z
 have u1:Un (Dw outer) [] H₀ H' s₀.heap h1:=by
  refine⟨λb o z n m1 m2=>k1 b o (k1' b o z) (hu.keep b o z n m1 m2),λb o z n m1 m2=>?_,λb o z n m=>hu.free b o z n m,λb o z m=>?_,hu.tups,hu.frzs,hu.tbls⟩
  ·obtain⟨sl,y⟩:=hu.slot b o z n m1 m2;exact⟨sl,k1 b _ (k1' b o z) y⟩
  obtain⟨o',y⟩:=hu.there b o z m;exact⟨o',k1 b _ (k1' b o z) y⟩
 have hok1:D9 P w H' h1:=λb o z=>(hok b o z).stay (λc v hc r=>k1 c v (λn=>by
  rcases hc with m|m
  ·rw[←m,n,hnT]at z;cases z
  rw[n,hnT]at m;cases m) r) (λ_ z=>z) λ_ _ z=>z
 refine⟨a,H',rfl,I'.os,I'.bare,OF u1 gn (λb o z n m=>?_) (λb o z m=>?_) (λb o z _=>z) (λb z=>z) (.inl rfl),λb o z=>?_,?_,hE a H' e1⟩
 ·have:=hu.free b o z n (by simp);rw[m,ha]at this;cases this
 ·rcases aH.mp (show b∈s₀.heap.objs.size::Dw outer from m) with n|n
  ·rw[n]at z;exact absurd (aK z) (bJ _)
  exact n
 ·by_cases hb:b=a
  ·subst hb;rw[ha]at z;cases z;exact KC ⟨t,_,sl,g1⟩
  refine(hok1 b o z).stay (λc v hc r=>gn.keep c v (λn=>?_) (λn=>?_) r) (λ_ r=>r) λ_ _ r=>r
  ·rcases hc with m|m
   ·exact hb (m▸n)
   rw[n,ha]at m;cases m
  have:=sf c n;rcases hc with m|m
  ·rw[m,z]at this;cases this
  rw[m]at this;cases this
 refine⟨C,d,t,T2,rest,sl,oT2,ts2,ha,g1,g3,g4,g5,g6,hok1.fresh g2,b9 (by rw[sz1];exact I'.sz) g2⟩
end
section
def MP(hh:A.handled=none)
 (h:wpAny M A x (λv s₁=>∃e C bm d t rest sl,v=.ref e/\NP s₁.heap C bm/\s₁.heap.get? e=some {cls:=.ref C,dict:=d,data:=.fields (.ref t:: .none::rest).toArray,slots:=sl}/\E (.ref e) s₁) E s) :
 wpAny M A (raiseStmt env (some x) none) Q E s:=by
 unfold raiseStmt;refine aA (bN h (λv s₁ h₁=>?_) λ_ _ x=>x);obtain⟨e,C,bm,d,t,rest,sl,rfl,⟨⟨N,nm,qn,bs,sn,sub,ab,col,dd,k0,k1,k2,k3,k5,hC⟩,T⟩,he,hE⟩:=h₁;have hcB:(Value.ref C::bm).contains (.type "BaseException")=true:=by rw[List.contains_cons,T.hasType PySem.F.excBase_ValueError.hasBase,Bool.or_true]
 obtain⟨hp,g,dr,tk,os⟩:=s₁
 repeat (first|with_reducible refine fP he ?_|with_reducible refine fP hC ?_|(with_reducible refine wpAny_isSubtype_exc hC ?_;rw[hcB])|wp_step)
 exact wpAny_raiseNew_none hh hE
end
def Ik(X:Cx)(E:XK):Prop:=∀(pins:List (Addr×Obj)) (σ:St) (H:Hp) (s:Shared) (a C:Addr) (d:Option Addr),Ae X pins σ H s->H a=some (BN a C d)->E (.ref a) none (upd H a (CO a C d))->X.xe (.ref a) s
def Y1(K:Frag)(E:XK)(te:TE):TS:=λ_ σ H=>te σ H λx H1=>∃a C d,x=.ref a/\H1 a=some (BN a C d)/\Ei K C=true/\E (.ref a) none (upd H1 a (CO a C d))
section
def R4(hr:Ik X E)(hh:X.A.handled=none)(he:PE X e te):PS X (.Raise (some e) none pos) (Y1 X.K E te):=by
 intro pins s σ H D I h;rw[arm_exec_Raise];refine aA (eX (MP hh (aA (bN (he pins s σ H _ I h) (λv s1 ⟨x,H1,I1,rx,a,C,d,ex,ea,hm,q⟩=>aA (eX (aJ ?_))) λ_ _ z=>z))));subst ex;obtain rfl:v=Value.ref a:=rx;obtain⟨t0,rest,sl,q1⟩:=FS (I1.hok a _ ea);obtain⟨bm,c,_,_⟩:=Eh I1.kIn hm;exact⟨a,C,bm,d,t0,rest,sl,rfl,c,q1,hr pins σ H1 s1 a C d I1 ea q⟩
end
structure Mt(P:Program)(w:World)(K:Frag)(mg:Str->Option Value)(base:Heap)(x:Str)(k:Nat)(ps:List Str)(sp:Sp):Prop where
 ex:∃(f:Addr) (fd:FuncData),DB P w K mg base (Gy P w) k f fd ps sp/\mg x=some (.ref f)/\keepIn K (.ref f)=true/\CB K fd ps []
section
variable {P:Program}{w:World}{K:Fq}{mg:Mq}{base:Heap}
variable {N:List Str}{qual:Str}{scope:Scope}{f:Addr}{cdv:Value}{A:Around}{outer:List Env}{s₀:Shared}{H₀:Hp}{E E1:XK}
def MN:Ik (Fp (Gy P w) P w K mg base N qual scope f cdv A outer s₀ H₀ E) E:=λpins σ H s a C d I ea q=>R0 I ea q
end
def tK(X:Cx)(pins:List (Addr×Obj))(H:Hp)(h:Heap)(a C:Addr)(d:Option Addr):Prop:=∃(t T:Addr) (rest:List Value) (sl:Array (Option Value)) (oT:Obj) (ts:Array Value),
 H a=some (CO a C d)/\h.get? a=some {cls:=.ref C,dict:=d,data:=.fields (.ref t:: .ref T::rest).toArray,slots:=sl}/\T≠a/\h.get? T=some oT/\oT.data=.fields ts/\3<ts.size/\H T=none/\
 X.s₀.heap.objs.size<=T/\T≠X.env.locals/\(∀x c,X.env.cells.lookup x=some c->c≠T)/\∀p∈X.pn++pins,p.1≠T
section
def dz(I:Ae X pins σ H s)(hsk:X.stack=X.env::X.outer)(hfe:X.env.frame=some X.env.locals)(hA:X.A.frames=some X.stack)(hc:Gy X.prog X.w X.stack H s E1 (.ref a) s')
 (hR:∀s3 H' C d,Ae X pins σ H' s3->tK X pins H' s3.heap a C d->E1 (.ref a) none H'->R () s3) :
 wpAny M X.A (noteFrame (.ref a) X.env) (λ_ s2=>wpAny M X.A (setFlight (.ref a) none) R E s2) E s':=by
 obtain⟨a',H',ea',ho,hg,u,hok,⟨C,d,t,T,rest,sl,oT,ts,ha,q,hTa,hT,hdT,h3,hnT,hgT⟩,e1⟩:=hc;cases ea';have I':=I.call' (ch:=[]) ho u hok hg (λ_ z=>nomatch z);have hst:s'.heap.FunFrames X.base (X.env::X.outer):=by rw[←hsk];exact I'.stack
 have sf:∀b∈Dw (X.env::X.outer),H' b=none:=by rw[←hsk];exact I'.stkFree
 have hfr:∀b,b∈Dw (X.env::X.outer) ↔ b=X.env.locals\/b∈X.fs:=λb=>by
  show b∈List.filterMap (·.frame) (X.env::X.outer) ↔ _;rw[dC,hfe];exact aH
 have ltT:∀b o,s.heap.get? b=some o->b≠T:=λb o z n=>by
  rw[n]at z;exact absurd (aO (aK z) hgT) (bJ _)
 refine Ox (s:=s') (L:=X.env.locals) (hA.trans (by rw[hsk])) hst hfe q rfl rfl hT hTa hdT h3 λh1 h' k1 sz1 hT1 gn=>?_;obtain⟨T2,oT2,ts2,g1,g2,g3,g4,g5,g6⟩:=id gn.head;rw[sz1]at g2;have hok1:D9 X.prog X.w H' h1:=λb o z=>(hok b o z).stay (λc v hc r=>k1 c v (λn=>by
  rcases hc with m|m
  ·rw[←m,n,hnT]at z;cases z
  rw[n,hnT]at m;cases m) r) (λ_ z=>z) λ_ _ z=>z
 have na:∀b,H' b=none->b≠a:=λb z n=>by rw[n,ha]at z;cases z
 have inv2:Ae X pins σ H' {s' with heap:=h',gens:=s'.gens,drawn:=s'.drawn,toks:=s'.toks}:=by
  refine I'.step (h':=h') (t':=s'.toks) (g':=s'.gens) (d':=s'.drawn) (ch:=[T]) (λb hb=>?_) (λb o n1 n2 n3 z n=>?_) (λb o n1 n2 n3 z n=>?_) (λb o _ _ n=>n) (λb o n3 z=>?_) (λ_ _ z=>z) (λ_ _ _ z=>z) (λb ps z=>⟨#[],by rw[z];simp⟩) (λm hm=>?_) (λb o z=>?_) I'.bare
  ·have e:b=T:=by simpa using hb
   subst e;refine⟨.inr (b9 I.sz hgT),λn=>?_,λx c z n=>?_,λp hp n=>?_⟩
   ·have:=I.lt;rw[←n]at this;exact absurd (aO this hgT) (bJ _)
   ·obtain⟨v,o,z2,_⟩:=I.cell x c z;exact ltT c o z2 n
   exact ltT p.1 p.2 (I.pin p hp).1 n
  ·exact gn.keep b o (na b n) (λm=>((hfr b).mp m).elim n1 n2) (k1 b o (λe=>n3 (by simp[e])) z)
  ·obtain⟨sl,y⟩:=gn.slot b o ((hfr b).mpr (.inr n2)) (k1 b o (λe=>n3 (by simp[e])) z);exact⟨sl,y⟩
  ·have z1:=k1 b o (λe=>n3 (by simp[e])) z;by_cases hb:b=a
   ·subst hb;exact⟨_,g1⟩
   by_cases hf:b∈Dw (X.env::X.outer)
   ·obtain⟨sl,y⟩:=gn.slot b o hf z1;exact⟨_,y⟩
   exact⟨o,gn.keep b o hb hf z1⟩
  ·obtain⟨o,es,ep,z,r⟩:=hm;have nT:X.env.locals≠T:=by
    intro n;have:=I.lt;rw[n]at this;exact absurd (aO this hgT) (bJ _)
   obtain⟨sl,y⟩:=gn.slot _ o ((hfr _).mpr (.inl rfl)) (k1 _ o nT z);exact⟨_,es,ep,y,r⟩
  by_cases hb:b=a
  ·subst hb;rw[ha]at z;cases z;exact KC ⟨t,_,sl,g1⟩
  refine(hok1 b o z).stay (λc v hc r=>gn.keep c v (λn=>?_) (λn=>?_) r) (λ_ r=>r) λ_ _ r=>r
  ·rcases hc with m|m
   ·exact hb (m▸n)
   rw[n,ha]at m;cases m
  have:=sf c n;rcases hc with m|m
  ·rw[m,z]at this;cases this
  rw[m]at this;cases this
 refine hR _ H' C d inv2 ⟨t,T2,rest,sl,oT2,ts2,ha,g1,g3,g4,g5,(dR.mp g6).1,hok.fresh g2,b9 I'.sz g2,λn=>?_,λx c z n=>?_,λp hp n=>?_⟩ e1
 ·have:=I'.lt;rw[←n]at this;exact absurd (aO this g2) (bJ _)
 ·obtain⟨v,o,z2,_⟩:=I'.cell x c z;rw[n]at z2;exact absurd (aO (aK z2) g2) (bJ _)
 have z2:=(I'.pin p hp).1;rw[n]at z2;exact absurd (aO (aK z2) g2) (bJ _)
def LO(I:Ae X pins σ H s)(r:tK X pins H s.heap a C d)(hR:∀s3,Ae X pins σ H s3->R () s3):wpAny M A (setFlight (.ref a) none) R E s:=by
 obtain⟨t,T,rest,sl,oT,ts,ha,q,hTa,hT,hdT,h3,hnT,f1,f2,f3,f4⟩:=r;unfold setFlight;refine aA (dG q rfl (x:=.ref T) rfl ?_);rw[if_pos (by simp)];refine eR hT hdT h3 (hR _ ?_);exact I.turned (t':=s.toks) (λb o hb e=>(bV _ _ (bL hb)).trans e) hnT f2 (.inr f1) f3 f4
end
abbrev Cx.hdl(X:Cx)(a:Addr):Cx:={X with A:=X.A.mark (some (.ref a)),calm:=false,xe:=λ_ _=>False}
noncomputable abbrev Cx.tr(X:Cx)(pn:List (Addr×Obj))(E':Value->Shared->Prop):Cx:={X with pn:=pn,xe:=E'}
section
theorem Ae.hdl(I:Ae X pins σ H s):Ae (X.hdl a) pins σ H s:=
 ⟨⟨I.ok.mod,I.ok.kind,I.ok.glob,I.ok.blt,I.ok.above,I.ok.inj,I.ok.has,I.ok.cab,(λz=>nomatch z),I.ok.frames,I.ok.stk,I.ok.exf,I.ok.bs,I.ok.bsz,I.ok.noex,I.ok.exfs,I.ok.funs,I.ok.frf⟩,I.os,I.bare,I.base,I.loc,I.cell,I.free,I.freeC,I.pin,I.hok,I.len⟩
def Ae.back(ok:X.Ok)(I:Ae (X.hdl a) pins σ H s):Ae X pins σ H s:=⟨ok,I.os,I.bare,I.base,I.loc,I.cell,I.free,I.freeC,I.pin,I.hok,I.len⟩
theorem Ae.tr(I:Ae X pins σ H s):Ae (X.tr (X.pn++pins) E') [] σ H s:=
 ⟨⟨I.ok.mod,I.ok.kind,I.ok.glob,I.ok.blt,I.ok.above,I.ok.inj,I.ok.has,I.ok.cab,I.ok.hd,I.ok.frames,I.ok.stk,I.ok.exf,I.ok.bs,I.ok.bsz,I.ok.noex,I.ok.exfs,I.ok.funs,I.ok.frf⟩,I.os,I.bare,I.base,I.loc,I.cell,I.free,I.freeC,(λp hp=>I.pin p (by simpa using hp)),I.hok,I.len⟩
def Ae.untr(ok:X.Ok)(I:Ae (X.tr (X.pn++pins) E') pins' σ H s):Ae X pins σ H s:=
 ⟨ok,I.os,I.bare,I.base,I.loc,I.cell,I.free,I.freeC,(λp hp=>I.pin p (bF _ hp)),I.hok,I.len⟩
def NS{K:Fq}{oe:Obj}(KX:K.In s.heap)(he:s.heap.get? a=some oe)(hcl:oe.cls=.ref C)(hD:typeIn K (.ref D)=some (.type "type"))(hc:(clsIn K D).isSome=true)
 (hB:mroIn K D (.type "BaseException")=some true)(hm:mroIn K C (.ref D)=some b)(hq:Q b s):wpAny M A (excMatches (.ref a) (.ref D)) Q E s:=by
 obtain⟨hp,g,d,t,os⟩:=s;have l1:Looks M hp (typeOf (.ref D)) (.type "type"):=PySem.W.looks_typeIn KX hD;have l2:Looks M hp (isSubtype (.type "type") (.type "tuple")) false:=PySem.W.Looks.of_pure tc_notTuple;have l3:Looks M hp (isSubtype (.ref D) (.type "BaseException")) true:=PySem.W.looks_mroIn KX hB;have l4:Looks M hp (typeOf (.ref a)) (.ref C):=by rw[←hcl];exact(PySem.W.Looks.ld he).andThen .now
 have l5:Looks M hp (isSubtype (.ref C) (.ref D)) b:=PySem.W.looks_mroIn KX hm;have l6:Looks M hp (isType (.ref D)) true:=by
  obtain⟨cd,z⟩:=bX.mp hc;unfold clsIn at z;split at z
  ·rename_i c' d' cd' sl' ho;intro A' Q' E' s' k q;unfold isType loadHead;exact aA (gF (k _ _ (KX _ _ ho)) (aJ q))
  cases z
 have l7:Looks M hp (isInstance (.ref D) (.type "tuple")) false:=l1.andThen l2;have l8:Looks M hp (isExcClass (.ref D)) true:=l6.andThen (by rw[if_pos rfl];exact l3);unfold excMatches;refine aA (l7.at ?_);rw[if_neg (by decide)];refine aA (aJ (aA ?_));rw[fA];refine aA (aA (l8.at ?_));simp only[Bool.not_true,Bool.false_eq_true,if_false];refine aJ ?_;dsimp only;rw[List.forIn_nil];refine aJ (aA (l4.at (aA ?_)));rw[fA];refine aA (aA (l5.at ?_));cases b with
 |true=>
  rw[if_pos rfl];exact aJ (aJ (aJ hq))
 |false=>
  rw[if_neg (by decide)];refine aJ ?_;dsimp only;rw[List.forIn_nil];exact aJ (aJ hq)
def ED{i:Nat}{x:Str}(I:Ae X pins σ H s)(hN:X.N.Nodup)(hi:X.N[i]?=some x)(hx:X.env.scope.names.lookup x=some .local)
 (h:∀s',Ae X pins (σ.set i none) H s'->Q () s'):wpAny M A (do bindName X.env x .none;unbindBehindTheSuite X.env x pos) Q E s:=by
 have hiσ:i<σ.length:=by rw[I.len];exact(aE.mp hi).1
 refine aA (wpAny_bindName (F0 (v:=.non) I hN hi (.inl hx) rfl (λs1 I1=>?_) (.inr hx)));obtain⟨m,hn,hl⟩:=id I1.loc;have hk:X.env.kindOf x=some .local:=hx;have hcls:(X.env.scope.kind== .class||(X.env.scope.kind== .module&&X.env.locals !=X.env.globals))=false:=by rw[I.ok.kind];rfl
 obtain⟨u,ru,lu⟩:=hl i x .non hi (by rw[eN hiσ]) (.inl hx);have mx:m x=some u:=by
  rcases lu with⟨_,z⟩|⟨z,_⟩
  ·exact z
  rw[hk]at z;rcases z with z|z<;>cases z
 unfold unbindBehindTheSuite;refine wpAny_onRaise ?_;unfold unbindName;refine aA (wpAny_point (aA ?_));unfold deleteName;simp only[hk,hcls];rw[if_neg (by decide)];refine aA (wpAny_nsDel_keeps hn λh2 v hn2 hs2=>?_);simp only[mx,Option.isSome_some,Bool.not_true,Bool.false_eq_true,if_false];refine aJ (wpAny_point (h _ ?_));have oL:∃o,s1.heap.get? X.env.locals=some o:=by obtain⟨o,_,_,z,_⟩:=hn;exact⟨o,z⟩
 have cne:=I1.cne;refine⟨I1.ok,I1.os,I1.bare,⟨λb o e n hb hx=>?_,λb o e n hb hx=>?_,I1.base.free,λb o e hx=>?_,I1.base.tups,I1.base.frzs,I1.base.tbls⟩,⟨_,hn2,λj y v' e1 e2 e3=>?_⟩,λy c e=>?_,I1.free,I1.freeC,λp hp=>?_,λb ob e=>?_,by rw[List.length_set];exact I.len⟩
 ·exact(hs2.2 b (aQ (aO (aK e) I1.ok.above))).trans (I1.base.keep b o e n hb hx)
 ·obtain⟨sl,e1⟩:=I1.base.slot b o e n hb hx;exact⟨sl,(hs2.2 b (aQ (aO (aK e) I1.ok.above))).trans e1⟩
 ·obtain⟨o',e1⟩:=I1.base.there b o e hx;exact⟨o',(hs2.2 b (aQ (aO (aK e) I1.ok.above))).trans e1⟩
 ·have hj:j≠i:=λz=>by
   subst z;rw[eN hiσ]at e2;cases e2
  rw[bI (bL hj)]at e2;obtain⟨u',r',q⟩:=hl j y v' e1 (by rw[bI (bL hj)];exact e2) e3;refine⟨u',r',?_⟩;rcases q with⟨k,e⟩|⟨k,c,e,z⟩
  ·refine .inl ⟨k,?_⟩;have:y≠x:=λe=>hj (C2 hN e1 (e▸hi));simp[this,e]
  exact .inr ⟨k,c,e,z.sameBut hs2 (cne y c e)⟩
 ·obtain⟨w',z⟩:=I1.cell y c e;exact⟨w',z.sameBut hs2 (cne y c e)⟩
 ·obtain⟨e,n,ne,nf,d⟩:=I1.pin p hp;exact⟨(hs2.2 p.1 ne).trans e,n,ne,nf,d⟩
 refine(I1.hok b ob e).stay (λc w' hc q=>(hs2.2 c ?_).trans q) (λ_ q=>q) λ_ _ q=>q;rintro rfl;rcases hc with rfl|hc
 ·rw[I1.free]at e;cases e
 rw[I1.free]at hc;cases hc
end
def B2(X:Cx)(RX:St->Addr->Hp->Prop):Prop:=∀(pins:List (Addr×Obj)) (σ:St) (H:Hp) (s:Shared) (e:Value) (s':Shared),Ae X pins σ H s->Gy X.prog X.w X.stack H s (λe _ H'=>∃a,e=.ref a/\RX σ a H') e s'->X.xe e s'
def Rc(RX:St->Addr->Hp->Prop)(sp:Sp)(t:TA):TE:=λσ H Q=>t σ H λvs H1=>sp vs H1 Q (λe _ H'=>∃a,e=.ref a/\RX σ a H')
section
def Z1{x:Str}{k j:Nat}(F:Mt X.prog X.w X.K X.mg X.base x k ps sp)(hc:B2 X RX)(hr:Ba j X.A)(hj:k<=j)(hg:Gl X x)(ha:PA X (e::es) t)
 (hdb:(x ==("__debug__" :Str))=false:=by decide)(he:starEach (e::es) X.env=(false,eval e X.env)::starEach es X.env:=by rfl)(hpl:(backTo pos (starEach es X.env)).any (·.1)=false:=by rfl) :
 PE X (.Call (.Name x p) (e::es) [] pos) (Rc RX sp t):=by
 obtain⟨f,fd,G,hm,hk,hb⟩:=F.ex;intro pins s σ H Q I h;refine bS (Cp I hg hm ?_ hdb);refine callWith_K (h₀:=X.base) I.ok.mod.kin hk (Bg (ha pos pins s σ H _ I h) λus s1 ⟨vs,H1,I1,r,q⟩=>⟨I1.kIn,?_⟩) he hpl;have hl:(us++ []).length=ps.length:=by rw[bE,←r.length];exact G.len _ _ _ _ q
 have hb2:=hb s1 us I1.kIn hl;rw[bE]at hb2;refine cO (cA (G.run X.A X.stack s1 H1 ⟨us,[]⟩ us vs Q _ (hr.mono hj) I1.env0 hb2 r q) λr s' hq=>?_);cases r with
 |error e=>exact hc pins σ H1 s1 e s' I1 hq
 |ok fl=>
  cases fl with
  |ret u=>exact I1.after hq
  |next=>exact False.elim hq
  |brk=>exact False.elim hq
  |cont=>exact False.elim hq
end
theorem Lm:∀{cs:List Addr}{its:List Value},Aq (cs.map V.ref) its->its=cs.map Value.ref
 |[],_,.nil=>rfl
 |c::r,_,.cons h1 h2=>by
  have h1:=h1;rw[h1,Lm h2];rfl
section
def Qy:Br X (.builtin "isinstance") (λxs H Q=>∃(e C dx:Addr) (fs:List (Str×V)) (n:Str) (tp:Addr) (cs:List Addr) (b:Bool),xs=[.ref e,.ref tp]/\DG X.K H tp (cs.map V.ref)/\WS H e C dx fs/\QH X.K C n/\kitAny X.K (.ref C) (cs.map Value.ref)=some b/\Q (.bl b) H):=by
 intro pins s σ H xs us Q I r h;obtain⟨e,C,dx,fs,n,tp,cs,b,rfl,hq,x,xo,hk,q⟩:=h;obtain⟨u,w',rfl,rx,rc⟩:=EQ r;obtain rfl:u=Value.ref e:=rx;obtain rfl:w'=Value.ref tp:=rc;obtain⟨t0,rest,sl,q0⟩:=x.is I.hok;obtain⟨mA,hn,hr⟩:=(show ∃mA,s.heap.Ns1 dx mA/\∀f,EM (fs.lookup f) (mA f) from I.hok dx _ x.dct);obtain⟨od,ho,hl⟩:=EE hn;have J:PySem.W.InstAt s.heap e _ C (some od):=⟨q0,rfl,rfl,ho⟩;obtain⟨its,rv,pl,_⟩:=I.tuple hq;have ei:its=cs.map Value.ref:=Lm rv;obtain⟨⟨oc,odd,odt,osl⟩,e1,hc,n1,dd⟩:=pl;dsimp only at hc dd;subst hc dd ei;exact kia_tup (LB xo.get xo.cls xo.ca xo.cg xo.ct xo.mo) I.kIn J e1 hk (λz=>nomatch z) λtk=>⟨.bl b,H,I.tok _,rfl,q⟩
end
section
def qM:V->Option Int->Option Int->Hp->VK->Prop:=λx lo hi H Q=>∃z,x=.str z/\z.length<=sizeLine/\Q (.str (Txt.slice z lo hi)) H
def YD:o7 X qM:=by
 intro pins s σ H x v vl vu lo hi sl Q I rx hs pl pu h;obtain⟨z,rfl,hz,q⟩:=h;obtain⟨t,rfl⟩:=rx;refine⟨"str",_,PySem.F.slot_str_getitem.lookup,typeIs_str _ _ _,?_⟩;have fin:∀t' k,EP X pins σ Q (.str (Txt.slice z lo hi) t') {s with toks:=k}:=λt' k=>⟨.str _,H,I.tok _,⟨_,rfl⟩,q⟩;cases pl with
 |none=>cases pu with
  |none=>exact eD (l:=none) (u:=none) (st:=none) hs rfl (g8 ⟨b9 (hX z _ _) hz,fin⟩)
  |int j uj=>exact eD (l:=none) (u:=some (j,uj)) (st:=none) hs rfl (g8 ⟨b9 (hX z _ _) hz,fin⟩)
 |int i ui=>cases pu with
  |none=>exact eD (l:=some (i,ui)) (u:=none) (st:=none) hs rfl (g8 ⟨b9 (hX z _ _) hz,fin⟩)
  |int j uj=>exact eD (l:=some (i,ui)) (u:=some (j,uj)) (st:=none) hs rfl (g8 ⟨b9 (hX z _ _) hz,fin⟩)
end
structure WO(K:Frag)(mg:Str->Option Value)(x:Str)(C:Addr):Prop where
 mg:mg x=some (.ref C)
 makes:makesIn K C=true
 init:findIn K (.ref C) "__init__"=some (some (.builtin "object.__init__"))
 kp:keepIn K (.ref C)=true
def iW(C:Addr):TE:=λ_ H Q=>∀x dx,H x=none->H dx=none->dx≠x->Q (.ref x) (upd (upd H dx (.own x)) x (.ins C dx []))
section
variable {x m:Str}
def Vp(D:WO X.K X.mg x C)(hg:Gl X x)(hdb:(x ==("__debug__" :Str))=false:=by decide):PE X (.Call (.Name x p) [] [] pos) (iW C):=by
 intro pins s σ H Q I h;refine bS (Cp I hg D.mg ?_ hdb);refine PySem.W.callWith_K0 I.kIn D.kp ?_;have hq:=h (s.heap.objs.size+1) s.heap.objs.size (I.hok.fresh (cS _)) (I.hok.fresh (aN _)) (aQ (dY _));have I2:=Ae.made (C:=C) I;refine cO (PX I.kIn D.makes D.init (λself=>PySem.W.Looks.of_pure (PySem.W.oi_bind self)) ?_);have Y:=PySem.W.makes_of (M:=model X.prog X.w) I.kIn D.makes;have hx:((s.heap.push emptyDict).push (instObj C s.heap.objs.size)).get? (s.heap.objs.size+1)=some (instObj C s.heap.objs.size):=by
  have:=aV (s.heap.push emptyDict) (o:=instObj C s.heap.objs.size) rfl
  rwa[cT]at this
 have t1:Looks (model X.prog X.w) ((s.heap.push emptyDict).push (instObj C s.heap.objs.size)) (typeOf (.ref (s.heap.objs.size+1))) (.ref C):=(PySem.W.Looks.ld hx).andThen .now;have t2:Looks (model X.prog X.w) ((s.heap.push emptyDict).push (instObj C s.heap.objs.size)) (isInstance (.ref (s.heap.objs.size+1)) (.type "object")) true:=
  t1.andThen (Y.top.keeps λb o e=>aC _ (aC _ e))
 refine cZ PySem.W.oi_plain PySem.W.entry_oi (@PySem.W.check_slot (model X.prog X.w) _ _ _ "object.__init__" "object" "__init__" (.ref (s.heap.objs.size+1)) [] [] _ PySem.W.oi_kind PySem.W.oi_split t2 (PySem.W.oi_args (.ref (s.heap.objs.size+1))) ?_);rw[PySem.W.oi_run];exact aJ (And.intro rfl ⟨V.ref (s.heap.objs.size+1),_,I2,rfl,hq⟩)
structure mj(P:Program)(w:World)(K:Frag)(mg:Str->Option Value)(base:Heap)(CX:Ye)(k:Nat)(C:Addr)(m:Str)(ps:List Str)(sp:Sp):Prop where
 out:∃(f:Addr) (fd:FuncData),Ug K C/\gj K C m f/\DB P w K mg base CX k f fd ps sp/\CB K fd ps []
end
open PySem.Builtin.SmallTypes (nextOf)
structure Nx(P:Program)(w:World)(it l:Addr)(us:Array Value)(S:Nat->Heap->Prop):Prop where
 keep:∀k g g',S k g->(∀o,g.get? it=some o->g'.get? it=some o)->(∀o,g.get? l=some o->g'.get? l=some o)->S k g'
 item:∀(A:Around) (E:Value->Shared->Prop) (Q:Value->Shared->Prop) (s:Shared) (k:Nat) (u:Value),S k s.heap->us[k]?=some u->(∀g,S (k+1) g->Heap.SameBut it s.heap g->Q u {s with heap:=g})->wpAny (model P w) A (nextOf (.ref it)) Q E s
 fin:∀(A:Around) (E:Value->Shared->Prop) (Q:Value->Shared->Prop) (s:Shared) (k:Nat),A.handled=none->S k s.heap->us[k]?=none->
  (∀g e,Heap.ExtBut it s.heap g->(∃o,g.get? e=some o/\o.cls=.type "StopIteration")->E (.ref e) {s with heap:=g})->wpAny (model P w) A (nextOf (.ref it)) Q E s
 there:∀k g,S k g->∃o,g.get? it=some o/\∀v,o.data≠ .cell v
section
def V2(hne:l≠it):Nx P w it l us (λk g=>g.IsListIter it l k/\g.IsList l us) where
 keep:=λk g g' h h1 h2=>⟨h.1.at h1,h.2.at h2⟩
 item:=λA E Q s k u h e q=>wpAny_nextOf_list_item h.1 h.2 e λg h1 sb=>q g ⟨h1,h.2.extBut sb.extBut hne⟩ sb
 fin:=λA E Q s k hh h e q=>wpAny_nextOf_list_end hh h.1 h.2 e q
 there:=λk g h=>by
  obtain⟨o,e,_,d⟩:=h.1;exact⟨o,e,λv z=>by rw[d]at z;cases z⟩
def QT{k:Nat}(h1:s.heap.IsTupleIter it t k)(h2:s.heap.IsTuple t us)(hu:us[k]?=some u)
 (q:∀g,g.IsTupleIter it t (k+1)->Heap.SameBut it s.heap g->Q u {s with heap:=g}):wpAny (model P w) A (nextOf (.ref it)) Q E s:=by
 obtain⟨oi,ei,ci,di⟩:=id h1;obtain⟨ot,et,_,nt,dt⟩:=h2;unfold nextOf;refine aA (fK (name:=Str.ofString "__next__") h1.typeIs dS (hZ dS h1.typeIs gL ?_ (gH _)));show wpAny _ _ (field (.ref it) 0 >>=_) _ _ _;refine aA (dG ei di (x:=.ref t) rfl ?_);show wpAny _ _ (if (Value.ref t ==Value.none)=true then _ else _) _ _ _;rw[if_neg (λz=>by cases z)];show wpAny _ _ (field (.ref it) 1 >>=_) _ _ _;refine aA (dG ei di (x:=.int k 0) rfl ?_);show wpAny _ _ (seqItems? (.ref t) >>=_) _ _ _;refine aA (fI et dt ?_);simp only[Int.toNat_natCast,hu];refine aA (eR ei di (by simp) (aJ ⟨u,rfl,aJ (q _ ?_ (Heap.SameBut.update ..))⟩));refine⟨_,cJ _ ei (eS (eG di _)),(Obj.cls_mapFields ..).trans ci,?_⟩;rw[eG di]<;>simp[rawInt]
def U1{k:Nat}(hh:A.handled=none)(h1:s.heap.IsTupleIter it t k)(h2:s.heap.IsTuple t us)(hu:us[k]?=none)
 (q:∀g e,Heap.ExtBut it s.heap g->(∃o,g.get? e=some o/\o.cls=.type "StopIteration")->E (.ref e) {s with heap:=g}):wpAny (model P w) A (nextOf (.ref it)) Q E s:=by
 obtain⟨oi,ei,ci,di⟩:=id h1;obtain⟨ot,et,_,nt,dt⟩:=h2;unfold nextOf;refine aA (fK (name:=Str.ofString "__next__") h1.typeIs dS (hZ dS h1.typeIs gL ?_ (gH _)));show wpAny _ _ (field (.ref it) 0 >>=_) _ _ _;refine aA (dG ei di (x:=.ref t) rfl ?_);show wpAny _ _ (if (Value.ref t ==Value.none)=true then _ else _) _ _ _;rw[if_neg (λz=>by cases z)];show wpAny _ _ (field (.ref it) 1 >>=_) _ _ _;refine aA (dG ei di (x:=.int k 0) rfl ?_);show wpAny _ _ (seqItems? (.ref t) >>=_) _ _ _;refine aA (fI et dt ?_);simp only[Int.toNat_natCast,hu];refine aA (wpAny_rule (aA (eR ei di (by simp) ?_)));show wpAny _ _ (newExc (.type "StopIteration") [] >>=_) _ _ _;refine aA ?_;simp only[newExc,newTuple];refine aA (fN ?_ (by size_fits));refine aA (m:=firstArgMember _ _) (wpAny_of_eq (a:=Value.none) (by first|rfl|(simp only[firstArgMember];rfl)) ?_);refine fN ?_ (by size_fits);simp only[raiseNew];refine aA (wpAny_handled ?_)
 first|rw[show A.in1.handled=none from hh]|rw[hh]
 refine aA (aJ (wpAny_throw ?_));exact q _ _ (((Heap.SameBut.update ..).extBut.push _).push _) ⟨_,aV _ rfl,rfl⟩
def ZI(hne:l≠it):Nx P w it l us (λk g=>g.IsTupleIter it l k/\g.IsTuple l us) where
 keep:=λk g g' h h1 h2=>⟨h.1.at h1,let ⟨o,e,r⟩:=h.2;⟨o,h2 o e,r⟩⟩
 item:=λA E Q s k u h e q=>QT h.1 h.2 e λg h1 sb=>q g ⟨h1,h.2.extBut sb.extBut hne⟩ sb
 fin:=λA E Q s k hh h e q=>U1 hh h.1 h.2 e q
 there:=λk g h=>by
  obtain⟨o,e,_,d⟩:=h.1;exact⟨o,e,λv z=>by rw[d]at z;cases z⟩
end
open PySem.Builtin.SmallTypes (ownedTupleIsFree ownedTupleHandOut)
def kH:Bool->String
 |false=> "list_iterator"
 |true=> "tuple_iterator"
def Ms:Bool->Heap->Addr->Array Value->Prop
 |false=>Heap.IsList
 |true=>Heap.IsTuple
def KR:Bool->Heap->Addr->Addr->Nat->Prop
 |false=>Heap.IsListIter
 |true=>Heap.IsTupleIter
def Ms.lt(h:Ms b g l us):l<g.objs.size:=by
 cases b<;>(obtain⟨o,e,_⟩:=h;exact aK e)
def VX(h:g.get? it=some ⟨.type (kH b),dd,.fields #[.ref l,.int 0 0],sl⟩):KR b g it l 0:=by
 cases b<;>exact⟨_,h,rfl,rfl⟩
def Xy(hne:l≠it):Nx P w it l us (λk g=>KR b g it l k/\Ms b g l us):=by
 cases b
 ·exact V2 hne
 exact ZI hne
abbrev ax(b:Bool)(l:Addr):Obj:={cls:=.type (kH b),data:=.fields #[.ref l,.int 0 0]}
def Hf(h:Ms b s.heap l us)(q:Q (.ref s.heap.objs.size) {s with heap:=s.heap.push (ax b l)}):wpAny (model P w) A (pyIter (.ref l)) Q E s:=by
 cases b
 ·exact fO h q
 exact gM h q
def Um(K:Frag)(H:Hp):Bool->Addr->List V->Prop
 |false=>D8 K H
 |true=>DG K H
def Ae.sqb(I:Ae X pins σ H s)(h:Um X.K H b a xs):∃its:List Value,Aq xs its/\Ms b s.heap a its.toArray/\xs.length<=sizeLine:=by
 cases b
 ·obtain⟨its,r,p,z⟩:=I.list h;exact⟨its,r,p.isList,z⟩
 obtain⟨its,r,p,z⟩:=I.tuple h;exact⟨its,r,p,z⟩
def Ae.sqb_inj(I:Ae X pins σ H s)(h:Um X.K H b a xs)(h':Um X.K H b a ys):xs=ys:=by
 cases b
 ·exact I.list_inj h h'
 exact I.tuple_inj h h'
theorem KR.at{k:Nat}(h:KR b g it l k)(e:∀o,g.get? it=some o->g'.get? it=some o):KR b g' it l k:=by
 cases b
 ·exact Heap.IsListIter.at h e
 exact Heap.IsTupleIter.at h e
def KR.obj{k:Nat}(h:KR b g it l k):∃o,g.get? it=some o/\∀v,o.data≠ .cell v:=by
 cases b<;>(obtain⟨o,e,_,d⟩:=h;exact⟨o,e,λv z=>by rw[d]at z;cases z⟩)
section
variable {X:Cx}{pins:Pq}{σ:St}{H H':Hp}{s:Shared}{ch:List Addr}{h':Heap}{t':Nat}
def kW(hf:∀c∈ch,EO X pins H c)(q:H c=some o)(hd:d=c\/H d=some (.own b)):d∉ch:=λz=>by
 have e:=(hf d z).1;rcases hd with q3|q3
 ·rw[q3,q]at e;cases e
 rw[q3]at e;cases e
def Ae.movedH(I:Ae X pins σ H s)(hf:∀c∈ch,EO X pins H c)(nin:∀c o,c∉ch->s.heap.get? c=some o->h'.get? c=some o)(fr:∀b,b<s.heap.objs.size->H b=none->H' b=none)(up:∀c o,H c=some o->H' c=some o)(new:∀c o,H' c=some o->H c=none->AN X.prog X.w H' h' c o) :
 Ae X pins σ H' {s with heap:=h',gens:=s.gens,drawn:=s.drawn,toks:=t'}:=
 I.step (ch:=ch) (λc hc=>have f:=(hf c hc).2;⟨f.2.2.1,f.1,f.2.2.2⟩) (λc o _ _ hc q _=>nin c o hc q) (λc o _ _ hc q _=>⟨o.slots,nin c o hc q⟩) (λc o hc q n=>fr c (aK q) n) (λc o hc q=>⟨o,nin c o hc q⟩)
  (λc _ q=>up c _ q) (λc _ _ q=>up c _ q) (λc _ q=>⟨#[],(up c _ q).trans (by rw[Array.append_empty])⟩) (λm ⟨o,es',ep',ho,r⟩=>⟨o,es',ep',nin _ o (λz=>(hf _ z).2.1 rfl) ho,r⟩)
  (λc o q=>by
    cases e:H c with
    |none=>exact new c o q e
    |some o'=>
     obtain rfl:o'=o:=bM ((up c _ e).symm.trans q);exact(I.hok c _ e).stay (λd v hd r=>nin d v (kW hf e hd) r) (λd q2=>up d _ q2) λd _ q2=>up d _ q2) I.bare
def Ae.movedT(I:Ae X pins σ H s)(hf:∀c∈ch,EO X pins H c)(nin:∀c o,c∉ch->s.heap.get? c=some o->h'.get? c=some o)(hl:xs.length<=sizeLine)(r:Aq xs us)
 (hp:h'.get? s.heap.objs.size=some {cls:=.type "tuple",data:=.seq us.toArray}):Ae X pins σ (upd H s.heap.objs.size (.tup xs)) {s with heap:=h',gens:=s.gens,drawn:=s.drawn,toks:=t'}:=
 I.movedH hf nin (λb hb n=>by rw[Aa (aQ hb)];exact n) (λc o q=>by rw[Aa (Am q (I.hok.fresh (aN _)))];exact q) λc o q n=>by
  by_cases hc:c=s.heap.objs.size
  ·subst hc;rw[Ab]at q;cases q;exact⟨hl,us,r,_,hp,rfl,_,rfl⟩
  rw[Aa hc,n]at q;cases q
end
section
variable {i:Nat}
def qX(v:Option Value):Data.fields ps≠ .cell v:=λz=>by cases z
end
def Y2(RX:St->Addr->Hp->Prop)(C:Addr)(sp:Sp)(dvs:List V)(t:TA):TE:=λσ H Q=>iX C sp dvs (λe _ H'=>∃a,e=.ref a/\RX σ a H') t σ H Q
section
variable {k:Nat}{x m:Str}
def P4(M:Mk X.K C f)(F:DB X.prog X.w X.K X.mg X.base (Gy X.prog X.w) k f fd ps sp)(hr:Ba (k+1) X.A)(hb:CB X.K fd ps ds)(hd:Aq dvs ds)
 (hx:∀H s e s',Ae X pins σ H s->Gy X.prog X.w X.stack H s E e s'->X.xe e s')(I:Ae X pins σ H s)(r:Aq vs us)
 (h:∀x dx,H x=none->H dx=none->dx≠x->sp (.ref x::(vs++dvs)) (upd (upd H dx (.own x)) x (.ins C dx [])) (λv H2=>v=.non/\Q (.ref x) H2) E) :
 wpAny (model X.prog X.w) X.A (call (.ref C) us) (EP X pins σ Q) X.xe s:=by
 have q0:=h (s.heap.objs.size+1) s.heap.objs.size (I.hok.fresh (cS _)) (I.hok.fresh (aN _)) (aQ (dY _));have J:=Ae.made (C:=C) I;have rr:Aq (V.ref (s.heap.objs.size+1)::(vs++dvs)) (Value.ref (s.heap.objs.size+1)::(us++ds)):=.cons rfl (r.append hd);have hl:(Value.ref (s.heap.objs.size+1)::us++ds).length=ps.length:=by
  rw[←F.len _ _ _ _ q0];exact rr.length.symm
 refine cO (Sj (f:=f) I.kIn M.makes M.init (aI.mp M.fn) (cA (F.run _ X.stack _ _ _ _ _ _ E (hr.make C us []) (J.env0.make C us []) (hb _ (Value.ref (s.heap.objs.size+1)::us) J.kIn hl) rr q0) λrs s' hq=>?_));cases rs with
 |error e=>exact hx _ _ e s' J hq
 |ok fl=>
  cases fl with
  |ret u=>
   obtain⟨v,H',I3,rv,ev,q3⟩:=J.after hq;subst ev;exact⟨rv,V.ref (s.heap.objs.size+1),H',I3,rfl,q3⟩
  |next=>exact hq.elim
  |brk=>exact hq.elim
  |cont=>exact hq.elim
def RO(M:Mk X.K C f)(F:DB X.prog X.w X.K X.mg X.base (Gy X.prog X.w) k f fd ps sp)(hc:B2 X RX)(hr:Ba (k+1) X.A)(hg:Gl X x)(hm:X.mg x=some (.ref C))(hb:CB X.K fd ps ds)(hd:Aq dvs ds)
 (ha:PA X (e::es) t)(hdb:(x ==("__debug__" :Str))=false:=by decide)(he:starEach (e::es) X.env=(false,eval e X.env)::starEach es X.env:=by rfl)(hpl:(backTo pos (starEach es X.env)).any (·.1)=false:=by rfl) :
 PE X (.Call (.Name x p) (e::es) [] pos) (Y2 RX C sp dvs t):=by
 intro pins s σ H Q I h;refine bS (Cp I hg hm ?_ hdb);refine callWith_K (h₀:=X.base) I.ok.mod.kin M.kp (Bg (ha pos pins s σ H _ I h) λus s1 ⟨vs,H1,I1,r,q⟩=>⟨I1.kIn,?_⟩) he hpl;exact P4 M F hr hb hd (λH s e s' J z=>hc pins σ H s e s' J z) I1 r q
end
def EW(k:Nat)(A:Around):Prop:=Ba k {A with handled:=none}
def Ba.h{k:Nat}(r:Ba k A):EW k (A.mark v):=⟨rfl,r.dp,r.un,r.gd⟩
theorem EW.mono{j k:Nat}(r:EW k A)(h:j<=k):EW j A:=Ba.mono r h
structure Ue(P:Program)(w:World)(K:Frag)(mg:Str->Option Value)(base:Heap)(k:Nat)(f:Addr)(fd:FuncData)(ps:List Str)(sp:Sp):Prop where
 len:∀vs H Q E,sp vs H Q E->vs.length=ps.length
 run:∀(A:Around) (outer:List Env) (s:Shared) (H:Hp) (args:Args) (us:List Value) (vs:List V) (Q:VK) (E:XK),EW k A->FX P w K mg base A outer s H->BindsTo s fd args (ps.zip us)->Aq vs us->sp vs H Q E->
  codeAny (model P w) A (.call (.ref f) args) (CR WU outer P w H s Q E) s
noncomputable abbrev wf(P:Program)(w:World)(K:Frag)(mg:Str->Option Value)(base:Heap)(N:List Str)(qual:Str)(scope:Scope)(f:Addr)(cd:Value)(A:Around)(outer:List Env)(s:Shared)(H:Hp)(E:XK):Cx:=
 {Fp WU P w K mg base N qual scope f cd A outer s H E with calm:=false,xe:=λ_ _=>False}
section
variable {P:Program}{w:World}{K:Fq}{mg:Mq}{base:Heap}
def Nq{qual:Str}
 (S:DA N ps scope)(e0:FX P w K mg base A outer s H)(hl:vs.length=ps.length)(r:Aq vs us)
 (x:InCallC s s.heap.objs.size (bindL (envOfC qual scope s.heap.objs.size f cd).kindOf (ps.zip us) λ_=>none) (cellsFrom (s.heap.objs.size+1) scope.names []) (bindC (envOfC qual scope s.heap.objs.size f cd).kindOf (ps.zip us) λ_=>none) s1) :
 Ae (wf P w K mg base N qual scope f cd A outer s H E) [] (Bs N vs) H s1:=by
 have e1:FX P w K mg base {A with handled:=none} outer s H:=⟨e0.frames,e0.mod,e0.bs,e0.bsz,e0.funs,e0.frf,e0.hok,e0.bare⟩;have I:Ae (Fp WU P w K mg base N qual scope f cd {A with handled:=none} outer s H E) [] (Bs N vs) H s1:=Jq S rfl e1 hl r x;exact⟨⟨I.ok.mod,I.ok.kind,I.ok.glob,I.ok.blt,I.ok.above,I.ok.inj,I.ok.has,I.ok.cab,(λz=>nomatch z),I.ok.frames,I.ok.stk,I.ok.exf,I.ok.bs,I.ok.bsz,I.ok.noex,I.ok.exfs,I.ok.funs,I.ok.frf⟩,I.os,I.bare,I.base,I.loc,I.cell,I.free,I.freeC,I.pin,I.hok,I.len⟩
theorem EW.deeper{k:Nat}(r:EW (k+1) A)(env:Env):EW k (A.deeper env):=Ba.deeper r env
def cr{k:Nat}{f:Addr}{name qual:Str}{params:Arguments}{body:List Stmt}{scope:Scope}{dV kV doc pm cdv ct oc:Value}{an od:Option Addr}
 {osl:Array (Option Value)}{N ps:List Str}{sp:Sp}(lk:K.lookup f=some ⟨oc,od,.func (fnOf name qual params body scope dV kV doc pm an cdv ct),osl⟩)(hcd:codeIn K cdv qual=true)(S:DA N ps scope)
 (len:∀vs H Q E,sp vs H Q E->vs.length=ps.length)
 (hbody:∀(A:Around) (outer:List Env) (s:Shared) (H:Hp) (vs:List V) (Q:VK) (E:XK),EW k (A.deeper (envOfC qual scope s.heap.objs.size f cdv))->sp vs H Q E->
   ∃t,Df (wf P w K mg base N qual scope f cdv A outer s H E) body t/\t {nx:=λ_ H'=>Q .non H',rt:=Q} (Bs N vs) H) :
 Ue P w K mg base (k+1) f (fnOf name qual params body scope dV kV doc pm an cdv ct) ps sp:=by
 refine⟨len,λA outer s H args us vs Q E hr e0 hb r hsp=>?_⟩;have KX:K.In s.heap:=e0.mod.kin.keeps λb o e=>(e0.bs b o e).1;have lim:s.heap.NoLimit:=e0.mod.nolimit.keeps λb o e=>(e0.bs b o e).1;have kinds:∀y∈ps.zip us,scope.names.lookup y.1=some .local\/(scope.names.lookup y.1=some .cell/\((cellsFrom (s.heap.objs.size+1) scope.names []).lookup y.1).isSome=true):=by
  rintro⟨n,v⟩ hy;exact(S.par n (dM hy).1).imp id λq=>⟨q,PySem.W.cellsFrom_some _ _ _ (.inl q)⟩
 refine codeAny_call_function (Ba.depth (A:={A with handled:=none}) hr) (KX _ _ lk) rfl S.co S.gen rfl (PySem.W.codeRec_of KX hcd) (hb _ _ _ _ ?_);refine gP S.kind kinds λenv he s1 x=>?_;subst he;refine⟨lim.keeps x.toInCall.keep,codeAny_func ?_⟩;obtain⟨t,ht,hq⟩:=hbody A outer s H vs Q E (hr.deeper _) hsp;refine bN (ht [] s1 (Bs N vs) H _ (Nq S e0 (len _ _ _ _ hsp) r x) hq) (λfl s' hs=>?_) λe s' hs=>hs.elim;cases fl with
 |ret u=>
  obtain⟨v,σ',H',J,rv,q⟩:=hs;exact⟨v,H',J.os,J.bare,J.base,J.hok,rv,q⟩
 |next=>
  obtain⟨σ',H',J,q⟩:=hs;exact⟨V.non,H',J.os,J.bare,J.base,J.hok,rfl,q⟩
 |brk=>
  obtain⟨_,_,_,q⟩:=hs;exact q.elim
 |cont=>
  obtain⟨_,_,_,q⟩:=hs;exact q.elim
structure Yc(P:Program)(w:World)(K:Frag)(mg:Str->Option Value)(base:Heap)(x:Str)(k:Nat)(ps:List Str)(sp:Sp):Prop where
 ex:∃(f:Addr) (fd:FuncData),Ue P w K mg base k f fd ps sp/\mg x=some (.ref f)/\keepIn K (.ref f)=true/\CB K fd ps []
end
def Z2{x:Str}{k j:Nat}(F:Yc X.prog X.w X.K X.mg X.base x k ps sp)(hr:EW j X.A)(hj:k<=j)(hg:Gl X x)(ha:PA X (e::es) t)
 (hdb:(x ==("__debug__" :Str))=false:=by decide)(he:starEach (e::es) X.env=(false,eval e X.env)::starEach es X.env:=by rfl)(hpl:(backTo pos (starEach es X.env)).any (·.1)=false:=by rfl) :
 PE X (.Call (.Name x p) (e::es) [] pos) (jd sp [] E0 t):=by
 obtain⟨f,fd,G,hm,hk,hb⟩:=F.ex;intro pins s σ H Q I h;refine bS (Cp I hg hm ?_ hdb);refine callWith_K (h₀:=X.base) I.ok.mod.kin hk (Bg (ha pos pins s σ H _ I h) λus s1 ⟨vs,H1,I1,r,q⟩=>⟨I1.kIn,?_⟩) he hpl;have q:sp vs H1 Q E0:=by
  have z:=q
  rwa[bE]at z
 have hl:(us++ []).length=ps.length:=by rw[bE,←r.length];exact G.len _ _ _ _ q
 have hb2:=hb s1 us I1.kIn hl;rw[bE]at hb2;refine cO (cA (G.run X.A X.stack s1 H1 ⟨us,[]⟩ us vs Q _ (hr.mono hj) I1.env0 hb2 r q) λr s' hq=>?_);cases r with
 |error e=>exact hq.elim
 |ok fl=>
  cases fl with
  |ret u=>exact I1.after hq
  |next=>exact hq.elim
  |brk=>exact hq.elim
  |cont=>exact hq.elim
def rY(K:Frag)(n:Nat)(t:fz):TG:=λv σ H Q=>∃a xs,v=.ref a/\D8 K H a xs/\xs.length=n/\t xs σ H Q
def Vo{k:Nat}{n:Nat}(K:Fq)(hc:X.calm=true)(h:XZ X es t)(hK:X.K=K:=by rfl)
 (hn:(assignEach es X.env).length=n:=by rfl)(hst:(assignEach es X.env).findIdx? (·.1)=none:=by rfl):PG X (.Tuple es k pos) (rY K n t):=by
 subst hK;intro pins s σ H v u Q I r hw;obtain⟨a,xs,e1,hq,hl,hw⟩:=hw;subst e1;cases r;obtain⟨its,rv,ht,hz⟩:=I.list hq;rw[assign_Tuple];refine aA (eX ?_);unfold unpack;rw[show(assignEach es X.env).length=its.toArray.size by simp[hn,←hl,rv.length],hst];refine aA (bR (PySem.W.kun_itemsOf (I.ok.hd hc) ht.isList λh' hx=>?_));have I1:=I.kept (t':=s.toks) λb o e=>hx b o (aQ (aK e)) e;exact h pins _ σ H xs _ Q I1 (by simpa using rv) hw
def IB{K:Fq}:kitOne K (.type "NoneType") (.type "list")=some false:=AC
def IH{K:Fq}:kitOne K (.type "bool") (.type "list")=some false:=AC
def Kx{K:Fq}:kitOne K (.type "int") (.type "list")=some false:=AC
def Ko{K:Fq}:kitOne K (.type "str") (.type "list")=some false:=AC
def IF{K:Fq}:kitOne K (.type "dict") (.type "list")=some false:=AC
def Kd.noSeq:Kd->Bool
 |.lst=>false
 |.tup=>false
 |_=>true
def LD{K:Fq}{k:Kd}(h:k.noSeq=true):kitOne K (.type k.nm) (.type "list")=some false:=by
 cases k<;>first|exact IB|exact IH|exact Kx|exact Ko|exact IF|cases h
def Nl{K:Fq}{k:Kd}(h:k.noSeq=true):kitAny K (.type k.nm) [.type "list",.type "tuple"]=some false:=by
 show(match kitOne K (.type k.nm) (.type "list") with|some true=>some true|some false=>kitAny K (.type k.nm) [.type "tuple"]|none=>none)=some false;rw[LD h];show(match kitOne K (.type k.nm) (.type "tuple") with|some true=>some true|some false=>kitAny K (.type k.nm) []|none=>none)=some false;have e:kitOne K (.type k.nm) (.type "tuple")=some false:=by
  have:=HL (K:=K) (a:=k) (c:=.tup) (.inr (.inr (.inr rfl)));rw[show k.isA .tup=false by cases k<;>first|rfl|cases h]at this;exact this
 rw[e];rfl
def Q0{X:Cx}:Br X (.builtin "isinstance") (λxs H Q=>∃x k tp,xs=[x,.ref tp]/\gp X.K H x k/\k.noSeq=true/\DG X.K H tp [.ty "list",.ty "tuple"]/\Q (.bl false) H):=by
 intro pins s σ H xs us Q I r h;obtain⟨x,k,tp,rfl,hk,hn,hq,q⟩:=h;obtain⟨u,w',rfl,rx,rc⟩:=EQ r;obtain rfl:w'=Value.ref tp:=rc;obtain⟨its,rv,pl,_⟩:=I.tuple hq;have ei:its=[.type "list",.type "tuple"]:=by
  cases rv with
  |cons r1 r2=>cases r2 with
   |cons r3 r4=>
    cases r4;have r1:_=Value.type "list":=r1;have r3:_=Value.type "tuple":=r3;rw[r1,r3]
 obtain⟨⟨oc,odd,odt,osl⟩,e1,hc,n1,dd⟩:=pl;dsimp only at hc dd;subst hc dd ei;have e:=Nl (K:=X.K) hn;have fin:∀tk,EP X pins σ Q (.bool false) {s with toks:=tk}:=λtk=>⟨.bl false,H,I.tok _,rfl,q⟩;have hk:Em X.K H x (.type k.nm):=hk;generalize hT:Value.type k.nm=T at hk e;cases hk with
 |non=>cases (show u=Value.none from rx);exact kia_tup PySem.W.kitx_none I.kIn True.intro e1 e (λz=>by cases z) fin
 |bl y=>cases (show u=Value.bool y from rx);exact kia_tup PySem.W.kitx_bool I.kIn True.intro e1 e (λz=>by cases z) fin
 |int i=>obtain⟨t,q⟩:=(show ∃t,u=Value.int i t from rx);cases q;exact kia_tup PySem.W.kitx_int I.kIn True.intro e1 e (λz=>by cases z) fin
 |str y=>obtain⟨t,q⟩:=(show ∃t,u=Value.str y t from rx);cases q;exact kia_tup PySem.W.kitx_str I.kIn True.intro e1 e (λz=>by cases z) fin
 |flt y=>cases k<;>exact absurd (gJ hT) (by decide)
 |lst ea=>cases k<;>first|exact absurd (gJ hT) (by decide)|cases hn
 |frz ea=>cases k<;>first|exact absurd (gJ hT) (by decide)|cases hn
 |tup ea=>cases k<;>first|exact absurd (gJ hT) (by decide)|cases hn
 |@dK a kvs ea=>
  cases (show u=Value.ref a from rx);obtain⟨_,_,vs,_,p⟩:=(show AN X.prog X.w H s.heap a (.dK kvs) from I.hok a _ ea);obtain⟨o,es,ep,h1,h2,_⟩:=p;exact kia_tup kitx_dict I.kIn ⟨o,h1,h2.1⟩ e1 e (λz=>by cases z) fin
 |@dT a kvs ea=>
  cases (show u=Value.ref a from rx);obtain⟨_,_,xs,_,o,es,ep,h1,h2,_⟩:=(show AN X.prog X.w H s.heap a (.dT kvs) from I.hok a _ ea);exact kia_tup kitx_dict I.kIn ⟨o,h1,h2.1⟩ e1 e (λz=>by cases z) fin
 |ins=>cases hT
def Nx.draws{P:Program}{w:World}{A:Around}{it l:Addr}{us:Array Value}{S:Nat->Heap->Prop}(N:Nx P w it l us S)(hh:A.handled=none):Draws P w A it [it,l] us.size (λi v=>us[i]?=some v) S where
 live:=λi h st=>let ⟨o,e,_⟩:=N.there i h st;⟨o,e⟩
 frame:=λi h h' st k=>N.keep i h h' st (λo e=>k it (by simp) o e) λo e=>k l (by simp) o e
 item:=λi s Q E hi st q=>N.item A E Q s i us[i] st (by simp[hi]) λg n sb=>q _ g s.toks (by simp[hi]) n sb
 done:=λs Q E st q=>N.fin A E Q s us.size hh st (by simp) q
abbrev sG(it:Addr):Obj:={cls:=.type "enumerate",data:=.fields #[.none,.bool false,.ref it,rawInt 0,.none,.none]}
def Qo(b:Bool)(l:Addr)(us:Array Value):Meets (Builtin.«enumerate.__new__» ⟨[.type "enumerate",.ref l],[]⟩) (λ_ R s=>Ms b s.heap l us/\R (.ok (.ret (.ref (s.heap.push (ax b l)).objs.size))) {s with heap:=(s.heap.push (ax b l)).push (sG s.heap.objs.size)}):=
 .of_wp λP w A R s h=>by
  obtain⟨hp,g,d,tk,os⟩:=s;obtain⟨y1,h⟩:=h;have ez:=sub_enumerate;have e1:Ms b (Shared.heap ⟨hp,g,d,tk,os⟩) l us:=y1
  wp_walk using Hf e1
  refine wpAny_stack_any λst=>aJ ?_;split
  ·rename_i c _ _ _ _ _;cases (c ==Value.type "enumerate")
   ·wp_walk using Hf e1
    exact⟨_,rfl,h⟩
   wp_walk using Hf e1
   exact⟨_,rfl,h⟩
  wp_walk using Hf e1
  exact⟨_,rfl,h⟩
def NF{P:Program}{w:World}{A:Around}{E:Vq}{s:Shared}{b:Bool}{l:Addr}{us:Array Value}{Q:Vq}(y:Ms b s.heap l us)
 (q:∀g,IsEnum g (s.heap.objs.size+1) s.heap.objs.size 0 .none->KR b g s.heap.objs.size l 0->(∀c o,s.heap.get? c=some o->g.get? c=some o)->Q (.ref (s.heap.objs.size+1)) {s with heap:=g}) :
 wpAny (model P w) A (call (.type "enumerate") [.ref l]) Q E s:=by
 refine callType_new F.called_enumerate (by decide) (F.typeCall_enumerate_1 _) (F.newCall_enumerate_1 _) (λobj=>F.args_object_init_2 obj _) F.entry_enumerate_new (Qo b l us) ⟨y,?_⟩;have n1:(s.heap.push (ax b l)).objs.size=s.heap.objs.size+1:=cT ..;have up:=λ(g:Heap) (o:Obj) (c:Addr) (x:Obj) (e:g.get? c=some x)=>aC (h:=g) o e;have p2:((s.heap.push (ax b l)).push (sG s.heap.objs.size)).get? (s.heap.push (ax b l)).objs.size=some _:=aV _ rfl;have p1:((s.heap.push (ax b l)).push (sG s.heap.objs.size)).get? s.heap.objs.size=some _:=up _ _ _ _ (aV _ rfl);show _/\_;rw[n1]at p2;rw[n1];exact⟨⟨_,p2,rfl⟩,q _ p2 (VX p1) λc o x=>up _ _ _ _ (up _ _ _ _ x)⟩
def gq(K:Frag)(b:Bool)(a:Addr):It:=
 ⟨λi H=>∃xs x,Um K H b a xs/\xs[i]?=some x,λi H v H'=>∃p x,v=.ref p/\H p=none/\(∀xs,Um K H b a xs->xs[i]?=some x)/\H'=upd H p (.tup [.int i,x]),λi H=>∃xs,Um K H b a xs/\xs.length<=i⟩
def M3{P:Program}{w:World}{K:Fq}{es:List Expr}{x1}{tp:Pos}(b:Bool)(a e it:Addr)(hne:e≠it)(hea:e≠a)(hai:a≠it):NL P w K (.Tuple es x1 tp) (gq K b a) [e,it] e (λi h=>(∃old,IsEnum h e it i old)/\KR b h it a i) where
 mem:=by simp
 obj:=λi h st=>by
  exact List.forall_mem_cons.mpr ⟨st.1.elim λ_ q=>⟨_,q,qX⟩,List.forall_mem_singleton.mpr st.2.obj⟩
 keep:=λi h h' st k=>by
  obtain⟨⟨old,st1⟩,st2⟩:=st;exact⟨⟨old,k e (by simp) _ st1⟩,st2.at λo q=>k it (by simp) o q⟩
 item:=by
  intro X hP hw hK hc i pins s σ H E I hf st hg;subst hP hw hK;obtain⟨xs,x,hq,hx⟩:=hg;obtain⟨⟨old,st1⟩,st2⟩:=st;obtain⟨its,rv,p,hz⟩:=I.sqb hq;obtain⟨u,hu,ru⟩:=rv.get hx;have hlt:i<its.toArray.size:=by simpa using(aE.mp hu).1
  refine wpAny_pyNext_enum_itemD ((Xy (b:=b) (us:=its.toArray) hai).draws (I.ok.hd hc)) st1 ⟨st2,p⟩ hlt hne (by simp[hne,hea]) λu' h' tk hu' eo it' tp' sz kk=>⟨_,rfl,?_⟩;have eu:u'=u:=by
   have hu':its.toArray[i]?=some u':=hu';rw[iC,hu]at hu';exact(bM hu').symm
  subst eu;refine wpAny_letOwnedTupleGo_enum (s:={s with heap:=h',toks:=tk+1}) eo λh2 e2 sb=>?_;have tk2:∀{c:Addr}{o:Obj},c≠e->h'.get? c=some o->h2.get? c=some o:=λn q=>(sb.2 _ n).trans q;refine⟨.ref s.heap.objs.size,upd H s.heap.objs.size (.tup [.int i,x]),I.movedT hf (λc o hb q=>?_) (by rw[dE];simp) (.cons ⟨_,rfl⟩ (.cons ru .nil)) (tk2 (bL (aQ (aK st1))) tp'),rfl,⟨_,x,rfl,I.hok.fresh (aN _),λys hy=>by rw[I.sqb_inj hy hq];exact hx,rfl⟩,⟨⟨_,e2⟩,it'.1.at λo q=>tk2 (bL hne) q⟩,λc hb=>?_⟩
  ·have n1:c≠e:=λz=>hb (by simp[z]);exact tk2 n1 (kk c o n1 (λz=>hb (by simp[z])) q)
  obtain⟨o,q⟩:∃o,s.heap.get? c=some o:=by
   rcases aH.mp hb with z|z
   ·exact⟨_,z▸st1⟩
   obtain⟨o,q,_⟩:=st2.obj;exact⟨o,by rw[bA.mp z];exact q⟩
  rw[Aa (aQ (aK q))];exact(hf c hb).1
 done:=by
  intro X hP hw hK hc i pins s σ H E I hf st hg;subst hP hw hK;obtain⟨xs,hq,hx⟩:=hg;obtain⟨⟨old,st1⟩,st2⟩:=st;obtain⟨its,rv,p,hz⟩:=I.sqb hq;have g:=hf it (by simp);have hl:=rv.length;have hT:s.TypeIs (.ref e) "enumerate":=⟨_,st1,rfl⟩;unfold pyNext;refine aA (gR (fK (name:=Str.ofString "__next__") hT F.slot_enumerate_next (hZ F.slot_enumerate_next hT F.entry_enumerate_next ?_ (F.args_enumerate_next_1 _))));show wpAny _ _ (field (.ref e) 2 >>=_) _ _ _;refine aA (dG st1 rfl (x:=.ref it) rfl ?_);refine aA ((Xy (b:=b) (us:=its.toArray) hai).fin _ _ _ _ i (I.ok.hd hc) ⟨st2,p⟩ (by simp;lia) λh' y eb ⟨o,ho,hcl⟩=>?_);refine aA (wpAny_isInstance (T:= "StopIteration") (b:=true) ⟨o,ho,hcl⟩ isSubtype_stop (aJ ?_));exact⟨rfl,I.turned (t':=s.toks) (λc o hb e=>eb c o hb e) g.1 g.2.1 g.2.2.2.1 g.2.2.2.2.1 g.2.2.2.2.2⟩
 self:=λA i s Q E st h=>by
  obtain⟨⟨old,st1⟩,st2⟩:=st;exact wpAny_pyIter_enum st1 h
def bv(K:Frag)(t:TA):TI:=λσ H R=>t σ H λvs H1=>∃b a,vs=[.ref a]/\(∃xs,Um K H1 b a xs)/\R (gq K b a) H1
section
variable {X:Cx}
def R7{a:Expr}{ta:TA}{p pos:Pos}{es:List Expr}{x1}{tp:Pos}(hg:Gl X "enumerate")(hm:X.mg "enumerate"=none)(ha:PA X [a] ta)(hs:starEach [a] X.env=[(false,eval a X.env)]:=by rfl):PI X (.Tuple es x1 tp) (.Call (.Name "enumerate" p) [a] [] pos) (bv X.K ta):=by
 intro pins s σ H R I h;refine Call_ (Ed I hg hm boot_enumerate (cW (Bg (ha pos pins s σ H _ I h) λus s1 ⟨vs,H1,I1,r1,q1⟩=>?_) hs rfl));obtain⟨b,l,e,⟨xs,hq⟩,q⟩:=q1;subst e;obtain⟨u,rfl,ru⟩:=DP r1;cases ru;obtain⟨its,rv,pl,hz⟩:=I1.sqb hq;have lt:=pl.lt;refine NF pl λh' he hi hk=>?_;refine wpAny_pyIter_enum (s:={s1 with heap:=h'}) he ?_;refine⟨s1.heap.objs.size+1,[s1.heap.objs.size+1,s1.heap.objs.size],_,_,H1,rfl,I1.kept (t':=s1.toks) hk,M3 b l _ _ (Nat.succ_ne_self _) (fZ (cV lt)) (aQ lt),⟨⟨_,he⟩,hi⟩,λc hb=>?_,q⟩;rcases aH.mp hb with z|z
 ·subst z;exact I1.fpOk (cS _) (I1.hok.fresh (cS _))
 have z:c=s1.heap.objs.size:=by simpa using z
 subst z;exact I1.fpOk (aN _) (I1.hok.fresh (aN _))
end
section
variable {X:Cx}
def JQ{k:Nat}{f:Addr}{fd:FuncData}{ps:List Str}{sp:Sp}{pins:Pq}{σ:St}{H:Hp}{s:Shared}{Q:VK}{us:List Value}{vs:List V}{E:XK}(F:DB X.prog X.w X.K X.mg X.base (Gy X.prog X.w) k f fd ps sp)(hr:Ba k X.A)(hb:CB X.K fd ps [])
 (hx:∀(H:Hp) (s:Shared) (e:Value) (s':Shared),Ae X pins σ H s->Gy X.prog X.w X.stack H s E e s'->X.xe e s')(I:Ae X pins σ H s)(r:Aq vs us)(h:sp vs H Q E):wpAny (model X.prog X.w) X.A (call (.ref f) us) (EP X pins σ Q) X.xe s:=by
 have hl:(us++ []).length=ps.length:=by rw[bE,←r.length];exact F.len _ _ _ _ h
 have hb2:=hb s us I.kIn hl;rw[bE]at hb2;refine cO (cA (F.run X.A X.stack s H ⟨us,[]⟩ us vs Q E hr I.env0 hb2 r h) λrs s' hq=>?_);cases rs with
 |error e=>exact hx H s e s' I hq
 |ok fl=>
  cases fl with
  |ret u=>exact I.after hq
  |next=>exact hq.elim
  |brk=>exact hq.elim
  |cont=>exact hq.elim
end
def TM:bootBuiltins "set"=some (.type "set"):=by decide +kernel
structure Ul(t:SetTable)(j1:Nat):Prop where
 mask:t.mask=7
 place:t.place=#[j1]
 dum:t.dummies=#[]
def NG(j:Nat):SetTable.below #[] j=0:=by
 unfold SetTable.below;rfl
def TU(j1 j:Nat):SetTable.below #[j1] j=if j1<j then 1 else 0:=by
 unfold SetTable.below;show SetTable.below.go #[j1] j 1 0 1=_;rw[SetTable.below.go.eq_def];show(if 0<1 then(if j1<j then SetTable.below.go #[j1] j 0 1 1 else SetTable.below.go #[j1] j 0 0 0) else 0)=_;rw[if_pos (by decide)];by_cases h:j1<j
 ·rw[if_pos h,if_pos h];rfl
 rw[if_neg h,if_neg h];rfl
def Wg(j:Nat):SetTable.has #[] j=false:=by
 unfold SetTable.has;rw[NG];rfl
def jv{t:SetTable}(hp:t.place=#[])(hd:t.dummies=#[])(j:Nat):t.slot j=.empty:=by
 unfold SetTable.slot;rw[hp,hd,NG,Wg];rfl
def Of{j1:Nat}(T:Ul t j1)(j:Nat):t.slot j=if j=j1 then .live 0 else .empty:=by
 unfold SetTable.slot;rw[T.place,T.dum,TU,Wg];by_cases h:j1<j
 ·simp[h,show ¬j=j1 by lia]
 by_cases e:j=j1
 ·subst e;simp
 simp[h,e,show ¬j1=j by lia]
structure gf(p:SetTable.Probe):Prop where
 lt:p.i<8
 j:p.j=p.i
 more:p.more=0
 dum:p.dummy=none
def lY{j1:Nat}(T:Ul t j1)(R:gf p):gf (t.advance p)/\(t.advance p).perturb=p.perturb / 32/\(t.advance p).i=(p.i*5+1+p.perturb / 32)%8:=by
 have hb:(p.i*5+1+p.perturb / 32)%8<8:=Nat.mod_lt _ (by decide);have e:t.advance p={j:=(p.i*5+1+p.perturb / 32)%8,more:=0,i:=(p.i*5+1+p.perturb / 32)%8,perturb:=p.perturb / 32,dummy:=none}:=by
  unfold SetTable.advance SetTable.leap SetTable.runEnd;rw[T.mask,R.more,R.dum];simp only[gt_iff_lt,Nat.lt_irrefl,if_false];rw[if_neg (by lia),g9]
 rw[e];exact⟨⟨hb,rfl,rfl,rfl⟩,rfl,rfl⟩
theorem HB{j1:Nat}(T:Ul t j1){h:Int}(hne:(hsA 0 ==h)=false):∀n F p,gf p->p.perturb<32^n->n+2<=F->
 ∃j,j<8/\j≠j1/\SetTable.probe.go t hsA h F p=some (.empty j none)
 |n,0,p,R,hp,hF=>by lia
 |n,F+1,p,R,hp,hF=>by
  rw[SetTable.probe.go.eq_def];simp only[Of T];by_cases e:p.j=j1
  ·simp only[e,if_true,hne,Bool.false_eq_true,if_false];obtain⟨R2,p2,i2⟩:=lY T R;cases n with
   |zero=>
    have h0:p.perturb=0:=by simpa using hp
    rw[h0]at p2 i2
    match F,hF with
    |F+1,_=>
     refine⟨(t.advance p).j,by rw[R2.j];exact R2.lt,?_,?_⟩
     ·rw[R2.j,i2,←e,R.j];have:=R.lt;lia
     rw[SetTable.probe.go.eq_def];simp only[Of T];rw[if_neg (by rw[R2.j,i2,←e,R.j];have:=R.lt;lia)];simp only[R2.dum]
   |succ n=>
    exact HB T hne n F _ R2 (by rw[p2];rw[Nat.pow_succ]at hp;lia) (by lia)
  simp only[e,if_false];exact⟨p.j,by rw[R.j];exact R.lt,e,by rw[R.dum]⟩
def Rh{j1:Nat}(T:Ul t j1)(h:Int):gf (t.probeStart h)/\(t.probeStart h).perturb<32^13:=by
 have hb:SetTable.bits h<2^64:=by
  unfold SetTable.bits;have:=cQ h (show(0:Int)<2^64 by decide);have:=dA h (show(2^64:Int)≠0 by decide)
  lia
 have hm:SetTable.bits h%8<8:=Nat.mod_lt _ (by decide);have e:t.probeStart h={j:=SetTable.bits h%8,more:=0,i:=SetTable.bits h%8,perturb:=SetTable.bits h,dummy:=none}:=by
  unfold SetTable.probeStart SetTable.runEnd;rw[T.mask];show SetTable.Probe.mk _ _ _ _ _=_;rw[if_neg (by lia),g9]
 rw[e];exact⟨⟨hm,rfl,rfl,rfl⟩,aO hb (by decide +kernel)⟩
def Ja{j1:Nat}(T:Ul t j1){h:Int}(he:(hsA 0 ==h)=true){F:Nat}(R:gf p) :
 SetTable.probe.go t hsA h (F+1) p=if p.j=j1 then some (.candidate j1 0 (t.advance p)) else some (.empty p.j none):=by
 rw[SetTable.probe.go.eq_def];simp only[Of T];by_cases e:p.j=j1
 ·simp only[e,if_true,he]
 simp only[e,if_false,R.dum]
def G9{j1:Nat}(T:Ul t j1){h:Int}(R:gf p)(hp:p.perturb<32^13)(e:SetTable.probe t f h p=r) :
 (∃j,j<8/\j≠j1/\r=some (.empty j none))\/(p.j=j1/\r=some (.candidate j1 0 (t.advance p))):=by
 have hF:10*SetTable.turns t.mask=219+1:=by rw[T.mask];rfl
 rw[SetTable.probe.eq_def,hF]at e;cases he:f 0 ==h with
 |false=>
  obtain⟨j,h1,h2,h3⟩:=HB T he 13 (219+1) p R hp (by decide);exact .inl ⟨j,h1,h2,by rw[←e,h3]⟩
 |true=>
  rw[Ja T he R]at e;by_cases ej:p.j=j1
  ·rw[if_pos ej]at e;exact .inr ⟨ej,e.symm⟩
  rw[if_neg ej]at e;exact .inl ⟨p.j,by rw[R.j];exact R.lt,ej,e.symm⟩
section
theorem Ee:∀{ks:List Key}{us:List Value},ItemsAre (Aj prog w) ks us->∀u∈us,(∃i t,u=.int i t)\/(∃z t,u=.str z t)
 |_,_,.nil,u,h=>by cases h
 |_,_,.cons hk h,u,hu=>by
  rcases aH.mp hu with rfl|hu
  ·rcases AV hk with⟨i,t,_,e⟩|⟨z,t,_,e⟩
   ·exact .inl ⟨i,t,e⟩
   exact .inr ⟨z,t,e⟩
  exact Ee h u hu
def xD(hk:IsTupleKey (Aj prog w) s.heap ks a)(q:∀b,Q b s):wpAny (model prog w) A (hashByValue 8 (.ref a)) Q E s:=by
 obtain⟨o,items,n,ho,hc,hd,hi⟩:=hk;have hT:s.TypeIs (.ref a) "tuple":=⟨o,ho,hc⟩;rw[gN];show wpAny _ _ (specialOf (.ref a) "__hash__" >>=_) _ _ _;refine aA (wpAny_specialOf hT F.slot_tuple_hash.lookup ?_);show wpAny _ _ (seqItems? (.ref a) >>=_) _ _ _;refine aA (fI ho hd ?_);show wpAny _ _ (forIn items _ _ >>=_) _ _ _;refine aA (wpAny_forIn_array' _ (λl b s'=>(∀u∈l,(∃i t,u=Value.int i t)\/(∃z t,u=Value.str z t))/\s'=s) _ ?_ ?_ items _ ⟨λu hu=>Ee hi u (by simpa using hu),rfl⟩)
 ·rintro x rest b s' ⟨hl,rfl⟩;rcases hl x (aF) with⟨i,t,rfl⟩|⟨z,t,rfl⟩
  ·rw[gN];exact aJ ⟨λu hu=>hl u (aD _ hu),rfl⟩
  rw[gN];exact aJ (aJ (q _))
 rintro b s' ⟨_,rfl⟩;obtain⟨b1,b2⟩:=b;cases b1 with
 |none=>exact aJ (q _)
 |some r=>exact aJ (q _)
def vq(hk:IsTupleKey (Aj prog w) s.heap ks a)(q:Q false s):wpAny (model prog w) A (ofAClassStatement 8 (.ref a)) Q E s:=by
 obtain⟨o,items,n,ho,hc,hd,hi⟩:=hk;rw[ofAClassStatement.eq_def];show wpAny _ _ (typeOf (.ref a) >>=_) _ _ _;refine aA (wpAny_typeOf_ref ho ?_);rw[hc];show wpAny _ _ (seqItems? (.ref a) >>=_) _ _ _;refine aA (fI ho hd ?_);show wpAny _ _ (forIn items _ _ >>=_) _ _ _;refine aA (wpAny_forIn_array' _ (λl b s'=>(∀u∈l,(∃i t,u=Value.int i t)\/(∃z t,u=Value.str z t))/\b.1=none/\s'=s) _ ?_ ?_ items _ ⟨λu hu=>Ee hi u (by simpa using hu),rfl,rfl⟩)
 ·rintro x rest b s' ⟨hl,_,rfl⟩;rcases hl x (aF) with⟨i,t,rfl⟩|⟨z,t,rfl⟩
  ·rw[ofAClassStatement.eq_def];exact aJ ⟨λu hu=>hl u (aD _ hu),rfl,rfl⟩
  rw[ofAClassStatement.eq_def];exact aJ ⟨λu hu=>hl u (aD _ hu),rfl,rfl⟩
 rintro b s' ⟨_,e,rfl⟩;obtain⟨b1,b2⟩:=b;cases e;exact aJ q
def jy(hk:IsTupleKey (Aj prog w) s.heap ks a)(hl:∀y∈l,∃b ks',y=.ref b/\IsTupleKey (Aj prog w) s.heap ks' b)(q:Q false s) :
 wpAny (model prog w) A (searchCouldBeSeen (.ref a) l) Q E s:=by
 rw[searchCouldBeSeen.eq_def];refine aA (wpAny_forIn_list _ (λl b s'=>(∀y∈l,∃b ks',y=.ref b/\IsTupleKey (Aj prog w) s.heap ks' b)/\b.1=none/\s'=s) _ ?_ ?_ l _ ⟨hl,rfl,rfl⟩)
 ·rintro x rest b s' ⟨hl,_,rfl⟩;obtain⟨c,ks',rfl,hc⟩:=hl x (aF);have go:∀y∈rest,∃b ks',y=.ref b/\IsTupleKey (Aj prog w) s'.heap ks' b:=λy hy=>hl y (aD _ hy);show wpAny _ _ (if (a ==c||false)=true then _ else _) _ _ _;rw[Bool.or_false];by_cases e:(a ==c)=true
  ·rw[if_pos e];exact aJ ⟨go,rfl,rfl⟩
  rw[if_neg e];refine aA ((tupleKind (Aj prog w)).quiet hk ?_);refine aA ((tupleKind (Aj prog w)).quiet hc ?_);refine aA (vq hk ?_);refine aA (vq hc ?_);exact aJ ⟨go,rfl,rfl⟩
 rintro b s' ⟨_,e,rfl⟩;obtain⟨b1,b2⟩:=b;cases e;exact aJ q
def FQ{j1:Nat}(T:Ul t j1):t.fits 1=true:=by
 unfold SetTable.fits SetTable.fill;rw[T.place,T.dum,T.mask];rfl
theorem Y8{ep:Nat}{h1:Int}{j1:Nat}(ho:s.heap.get? S=some o)(hd:o.data=.set #[(h1,.ref a)] ep t)(T:Ul t j1)
 (ha:IsTupleKey (Aj prog w) s.heap ka a)(hb:IsTupleKey (Aj prog w) s.heap kb b)(ne:ka≠kb)(hu:A.units<cLine){h:Int}(q:∀j,j<8->j≠j1->Q (.free j false) s) :
 ∀F n stand p,stand.getD (t.probeStart h)=p->gf p->p.perturb<32^n->n<=13->(n+2<=F\/(p.j≠j1/\1<=F))->
  wpAny (model prog w) A (setSearchFrom S (.ref b) h true F stand) Q E s
 |0,n,stand,p,es,R,hp,hn,hF=>by lia
 |F+1,n,stand,p,es,R,hp,hn,hF=>by
  have hp13:=aO hp (Nat.pow_le_pow_right (by decide) hn);rw[setSearchFrom.eq_def];refine aA (cH ho hd (FQ T) ?_);have hg:t.gaveWay=false:=by unfold SetTable.gaveWay;rw[T.mask];rfl
  show wpAny _ _ (if t.gaveWay=true then _ else _) _ _ _;rw[hg,es];show wpAny _ _ (match SetTable.probe t _ h p with|some met=>_|_=>_) _ _ _;split
  ·rename_i met heq;rcases G9 T R hp13 heq with⟨j,hj8,hj1,e⟩|⟨ej,e⟩
   ·cases e;exact aJ (q j hj8 hj1)
   cases e;have R2:=lY T R;have next:wpAny (model prog w) A (setSearchFrom S (.ref b) h true F (some (t.advance p))) Q E s:=by
    rcases hF with hF|⟨hF,_⟩
    ·cases n with
     |zero=>
      have h0:p.perturb=0:=by simpa using hp
      refine Y8 ho hd T ha hb ne hu q F 0 (some (t.advance p)) (t.advance p) rfl R2.1 (by rw[R2.2.1,h0];decide) (by decide) (.inr ⟨?_,by lia⟩);rw[R2.1.j,R2.2.2,h0,←ej,R.j];have:=R.lt
      lia
     |succ n=>exact Y8 ho hd T ha hb ne hu q F n (some (t.advance p)) (t.advance p) rfl R2.1 (by rw[R2.2.1];rw[Nat.pow_succ]at hp;lia) (by lia) (.inl (by lia))
    exact absurd ej hF
   have hsm:t.sameMemory t.moves t.mask=some true:=by unfold SetTable.sameMemory;rw[if_pos (by simp)]
   have hsl:t.slot j1=.live 0:=by rw[Of T,if_pos rfl]
   show wpAny _ _ (if (!t.led)=true then _ else _) _ _ _;cases hl:t.led with
   |true=>
    show wpAny _ _ (holding [Value.ref a] (eqBool (.ref a) (.ref b)) >>=_) _ _ _;refine aA (bR ((tupleKind (Aj prog w)).eqBool hu ha hb ?_));rw[bP ne];refine aA (cH ho hd (FQ T) ?_);show wpAny _ _ (match t.sameMemory t.moves t.mask with|some sm=>_|_=>_) _ _ _;rw[hsm];show wpAny _ _ (match (if true=true then t.slot j1 else .empty) with| .live i'=>_|_=>_) _ _ _;rw[if_pos rfl,hsl];show wpAny _ _ (isSame (.ref a) (.ref a) >>=_) _ _ _;refine aA (wpAny_isSame_ref_self ?_);exact next
   |false=>
    show wpAny _ _ (searchCouldBeSeen (.ref b) _ >>=_) _ _ _;refine aA (jy hb ?_ ?_)
    ·intro y hy;obtain⟨z,hz,rfl⟩:=aW.mp hy;have:=g0.mp hz;rw[Array.mem_filter]at this;have:=this.1;simp only[List.mem_toArray,List.mem_cons,List.not_mem_nil,or_false]at this;subst this;exact⟨a,ka,rfl,ha⟩
    show wpAny _ _ (holding [Value.ref a] (eqBool (.ref a) (.ref b)) >>=_) _ _ _;refine aA (bR ((tupleKind (Aj prog w)).eqBool hu ha hb ?_));rw[bP ne];refine aA (cH ho hd (FQ T) ?_);show wpAny _ _ (match t.sameMemory t.moves t.mask with|some sm=>_|_=>_) _ _ _;rw[hsm];show wpAny _ _ (match (if true=true then t.slot j1 else .empty) with| .live i'=>_|_=>_) _ _ _;rw[if_pos rfl,hsl];show wpAny _ _ (isSame (.ref a) (.ref a) >>=_) _ _ _;refine aA (wpAny_isSame_ref_self ?_);exact next
  rename_i hno;rcases G9 T R hp13 rfl with⟨j,_,_,e⟩|⟨_,e⟩
  ·exact absurd e (hno _)
  exact absurd e (hno _)
def QC(b:Bool)(t:SetTable):SetTable:=if b=true then t else {t with plain:=false}
def lZ{ep:Nat}{h:Int}{F:Nat}(ho:s.heap.get? S=some o)(hd:o.data=.set es ep t)(hf:t.fits es.size=true)
 (ha:IsTupleKey (Aj prog w) s.heap ks a)(C:Nat->Prop)(hs:∀Q':SetFound->Shared->Prop,(∀j,C j->Q' (.free j false) s)->wpAny (model prog w) A (setSearch S (.ref a) h true) Q' E s)
 (full:∀j b,C j->(QC b (t.put j).1).tooFull=false)(hsz:∀j,C j->(SetTable.insertAt es (t.put j).2 (h,Value.ref a)).size<=sizeLine)
 (q:∀j b,C j->Q true {s with heap:=s.heap.update S (Obj.putSet (SetTable.insertAt es (t.put j).2 (h,.ref a)) (QC b (t.put j).1))}):wpAny (model prog w) A (setAddHashedIn S (.ref a) h (F+1)) Q E s:=by
 rw[setAddHashedIn.eq_def];refine aA (cH ho hd hf ?_);show wpAny _ _ (setSearch S (.ref a) h true >>=_) _ _ _;refine aA (hs _ λj hj=>?_);refine aA (cH ho hd hf ?_);have jp:∀b,wpAny (model prog w) A (storeSet S (SetTable.insertAt es (t.put j).2 (h,.ref a)) (QC b (t.put j).1) >>=λ_=>if (!false&&(QC b (t.put j).1).tooFull)=true then(do let r ←setRelay S (SetTable.grown (es.size+1));(λ_=>pure true) r) else pure true) Q E s:=λb=>by
  refine aA (wpAny_storeSet_of ho hd ?_ (hsz j hj));rw[full j b hj];exact aJ (q j b hj)
 show wpAny _ _ (if (t.put j).1.plain=true then _ else _) _ _ _;cases (t.put j).1.plain with
 |true=>
  show wpAny _ _ (hashByValue 8 (.ref a) >>=_) _ _ _;exact aA (xD ha λb=>jp b)
 |false=>exact jp true
def mh(h:Heap)(S:Addr):Prop:=E3 λo ep t=>A6 (h.get? S=some o) o.ExactSet (o.data=.set #[] ep t) (t.mask=7) (t.place=#[]) (t.dummies=#[])
def xO(h:Heap)(S a:Addr):Prop:=E5 λo ep t h1 j1=>A4 (h.get? S=some o) o.ExactSet (o.data=.set #[(h1,.ref a)] ep t) (Ul t j1)
def NN(h:Heap)(S:Addr)(n:Nat):Prop:=E4 λo es ep t=>A5 (h.get? S=some o) o.ExactSet (o.data=.set es ep t) (t.fits es.size=true) (es.size=n)
def mh.n(x:mh h S):NN h S 0:=by
 obtain⟨o,ep,t,h1,h2,h3,h4,h5,h6⟩:=x;refine⟨o,#[],ep,t,h1,h2,h3,?_,rfl⟩;unfold SetTable.fits SetTable.fill;rw[h4,h5,h6];rfl
def Lo(es:Array (Int×Value))(t:SetTable):Heap.SameBut S h (h.update S (Obj.putSet es t)):=⟨Heap.size_update _ _ _,λb hb=>bV _ _ (bL hb)⟩
def Oj{h:Heap}{o:Obj}{ep:Nat}(ho:h.get? S=some o)(hx:o.ExactSet)(hd:o.data=.set es0 ep t0) :
 ∃o',(h.update S (Obj.putSet es t)).get? S=some o'/\o'.ExactSet/\o'.data=.set es (ep+1) t:=by
 obtain⟨c,d,dt,sl⟩:=o;obtain⟨rfl,rfl,rfl⟩:=hx;cases hd;exact⟨_,cJ (Obj.putSet es t) ho rfl,⟨rfl,rfl,rfl⟩,rfl⟩
def tG{ka kb:List Key}{h:Int}{F:Nat}{Q:Bool->Shared->Prop}(hS:xO s.heap S a)(ha:IsTupleKey (Aj prog w) s.heap ka a)(hb:IsTupleKey (Aj prog w) s.heap kb b)(ne:ka≠kb)(hu:A.units<cLine)
 (q:∀h',Heap.SameBut S s.heap h'->NN h' S 2->Q true {s with heap:=h'}):wpAny (model prog w) A (setAddHashedIn S (.ref b) h (F+1)) Q E s:=by
 obtain⟨o,ep,t,h1,j1,ho,hx,hd,T⟩:=hS;have put:∀j,∃pl,pl.size=2/\t.put j=({t with place:=pl},if j1<j then 1 else 0):=λj=>by
  refine⟨SetTable.insertAt #[j1] (if j1<j then 1 else 0) j,?_,?_⟩
  ·by_cases e:j1<j
   ·rw[if_pos e];simp[SetTable.insertAt]
   rw[if_neg e];simp[SetTable.insertAt]
  unfold SetTable.put;rw[T.place,T.dum,TU,Wg];show(_,_)=_;simp only[Bool.false_eq_true,if_false]
 have es2:∀j,(SetTable.insertAt #[(h1,Value.ref a)] (if j1<j then 1 else 0) (h,Value.ref b)).size=2:=λj=>by
  by_cases e:j1<j
  ·rw[if_pos e];simp[SetTable.insertAt]
  rw[if_neg e];simp[SetTable.insertAt]
 refine lZ ho hd (FQ T) hb (λ_=>True) ?_ ?_ ?_ ?_
 ·intro Q' q';rw[setSearch.eq_def];obtain⟨R,hp⟩:=Rh T h;exact Y8 ho hd T ha hb ne hu (λj _ _=>q' j trivial) 100000 13 none _ rfl R hp (aN _) (.inl (by decide))
 ·intro j c _;obtain⟨pl,h2,e⟩:=put j;rw[e];unfold SetTable.tooFull SetTable.fill QC;cases c<;>simp[T.mask,T.dum,h2]
 ·intro j _;obtain⟨pl,h2,e⟩:=put j;rw[e,es2,dE];decide
 intro j c _;obtain⟨pl,h2,e⟩:=put j;rw[e];refine q _ (Lo _ _) ?_;obtain⟨o',g1,g2,g3⟩:=Oj (es:=SetTable.insertAt #[(h1,Value.ref a)] (if j1<j then 1 else 0) (h,.ref b)) (t:=QC c {t with place:=pl}) ho hx hd;refine⟨o',_,_,_,g1,g2,g3,?_,es2 j⟩;rw[es2];unfold SetTable.fits SetTable.fill QC;cases c<;>simp[T.mask,T.dum,h2]
end
section
variable {prog:Program}{w:World}{A:Around}{R:Result->Shared->Prop}{I:Addr}{fp wr:List Addr}{G:Array GenState->Array GenState->Prop}{n:Nat}{P:Nat->Value->Prop}{St:Nat->Shared->Prop}
def IV(W:WalksS prog w A.in1 I fp wr G n P St)(S:Addr)(hS:S∉fp)(SP:Nat->Heap->Prop)(stay:∀i h h',SP i h->(∀b o,b∉wr->h.get? b=some o->h'.get? b=some o)->SP i h')
 (add:∀i v s Q E,i<n->P i v->SP i s.heap->(∀h' tk b,s.toks<=tk->Heap.SameBut S s.heap h'->SP (i+1) h'->Q b {s with heap:=h',toks:=tk})->wpAny (model prog w) A.in1 (setAdd S v) Q E s) :
 ∀k i s,n-i=k->i<=n->St i s->SP i s.heap->(∀s',Moved (S::wr) G s s'->SP n s'.heap->R (.ok (.ret .none)) s')->
  codeAny (model prog w) A (.builtin "set.update.loop" ⟨[.ref S,.ref I],[]⟩) R s:=by
 have up:∀b∈wr,b∈S::wr:=λb hb=>aD _ hb;intro k
 induction k with
 |zero=>
  intro i s hk hi hst hs hR;have:i=n:=by omega
  subst this;refine gA fF ?_;rw[Around.under_plainId dH _];show wpAny _ A.in1 (pyNext (.ref I) >>=_) _ _ s;refine aA (W.done s _ _ hst λs' hm=>?_);show wpAny _ A.in1 (ret Value.none) _ _ s';exact aJ (hR s' (hm.mono up) (stay _ _ _ hs hm.heap))
 |succ k ih=>
  intro i s hk hi hst hs hR;have hlt:i<n:=by omega
  refine gA fF ?_;rw[Around.under_plainId dH _];show wpAny _ A.in1 (pyNext (.ref I) >>=_) _ _ s;refine aA (W.item i s _ _ hlt hst λv s' hP hst' hm=>?_);have hs':=stay _ _ _ hs hm.heap;show wpAny _ A.in1 (holding [v] (setAdd S v) >>=_) _ _ s';refine aA (bR ?_);refine add i v s' _ _ hlt hP hs' λh' tk b htk hsb hS2=>?_;refine aJ ⟨plainId_quiet dH _,ih (i+1) _ (by omega) hlt (W.frame _ s' _ _ hst' htk λb hb o e=>?_) hS2 λs'' hm'' hS''=>?_⟩
  ·rw[hsb.2 b (λh:b=S=>hS (by rw[←h];exact hb))];exact e
  refine hR s'' (Moved.trans W.gtrans ((hm.mono up).then_heap htk λb o hb e=>?_) hm'') hS'';rw[hsb.2 b (λh:b=S=>hb (by rw[h];exact aF))];exact e
end
section
def XX(h:Heap)(S a:Addr)(hv:Int):Prop:=∃o ep t,h.get? S=some o/\o.ExactSet/\o.data=.set #[(hv,.ref a)] ep t/\Ul t (SetTable.bits hv%8)
def XX.n{hv:Int}(x:XX h S a hv):NN h S 1:=by
 obtain⟨o,ep,t,h2,h3,h4,h5⟩:=x;exact⟨o,_,ep,t,h2,h3,h4,FQ h5,rfl⟩
def Od{t:SetTable}(hm:t.mask=7)(h:Int):(t.probeStart h).j=SetTable.bits h%8:=by
 unfold SetTable.probeStart SetTable.runEnd;rw[hm]
def ma{h:Int}{F:Nat}(hS:mh s.heap S)(ha:IsTupleKey (Aj prog w) s.heap ks a)
 (q:∀h',Heap.SameBut S s.heap h'->XX h' S a h->Q true {s with heap:=h'}):wpAny (model prog w) A (setAddHashedIn S (.ref a) h (F+1)) Q E s:=by
 obtain⟨o,ep,t,ho,hx,hd,hm,hp,hdu⟩:=hS;have put:∀j,t.put j=({t with place:=#[j]},0):=λj=>by
  unfold SetTable.put;rw[hp,hdu,NG,Wg];show(_,_)=_;rw[if_neg (by decide)];have:SetTable.insertAt (#[]:Array Nat) 0 j=#[j]:=by simp[SetTable.insertAt]
  rw[this]
 refine lZ ho hd ?_ ha (λj=>j=SetTable.bits h%8) ?_ ?_ ?_ ?_
 ·unfold SetTable.fits SetTable.fill;rw[hm,hp,hdu];rfl
 ·intro Q' q';rw[setSearch.eq_def,setSearchFrom.eq_def];refine aA (cH ho hd ?_ ?_)
  ·unfold SetTable.fits SetTable.fill;rw[hm,hp,hdu];rfl
  have hg:t.gaveWay=false:=by unfold SetTable.gaveWay;rw[hm];rfl
  show wpAny _ _ (if t.gaveWay=true then _ else _) _ _ _;rw[hg];show wpAny _ _ (match SetTable.probe t _ h (t.probeStart h) with|some met=>_|_=>_) _ _ _;have pr:∀f,SetTable.probe t f h (t.probeStart h)=some (.empty (t.probeStart h).j none):=λf=>by
   have hF:10*SetTable.turns t.mask=219+1:=by rw[hm];rfl
   rw[SetTable.probe.eq_def,hF,SetTable.probe.go.eq_def];simp only[jv hp hdu];rfl
  rw[pr];exact aJ (q' _ (Od hm h))
 ·intro j b _;rw[put];unfold SetTable.tooFull SetTable.fill QC;cases b<;>simp[hm,hdu]
 ·intro j _;rw[put];simp[SetTable.insertAt,sizeLine_eq]
 intro j b hj;subst hj;rw[put];refine q _ (Lo _ _) ?_;obtain⟨o',g1,g2,g3⟩:=Oj (es:=SetTable.insertAt #[] 0 (h,.ref a)) (t:=QC b {t with place:=#[SetTable.bits h%8]}) ho hx hd;have e1:SetTable.insertAt (#[]:Array (Int×Value)) 0 (h,Value.ref a)=#[(h,.ref a)]:=by simp[SetTable.insertAt]
 rw[e1]at g1 g3;show XX (s.heap.update S (Obj.putSet (SetTable.insertAt #[] 0 (h,Value.ref a)) (QC b {t with place:=#[SetTable.bits h%8]}))) S a h;rw[e1];refine⟨o',ep+1,QC b {t with place:=#[SetTable.bits h%8]},g1,g2,g3,?_⟩;unfold QC;cases b
 ·exact⟨hm,rfl,hdu⟩
 exact⟨hm,rfl,hdu⟩
def tF{ka:List Key}{h:Int}{F:Nat}{Q:Bool->Shared->Prop}(hS:XX s.heap S a h)(ha:IsTupleKey (Aj prog w) s.heap ka a)(hb:IsTupleKey (Aj prog w) s.heap ka b)(hu:A.units<cLine)(q:Q false s):wpAny (model prog w) A (setAddHashedIn S (.ref b) h (F+1)) Q E s:=by
 obtain⟨o,ep,t,ho,hx,hd,T⟩:=hS;rw[setAddHashedIn.eq_def];refine aA (cH ho hd (FQ T) ?_);show wpAny _ _ (setSearch S (.ref b) h true >>=_) _ _ _;refine aA ?_;rw[setSearch.eq_def,setSearchFrom.eq_def];refine aA (cH ho hd (FQ T) ?_);have hg:t.gaveWay=false:=by unfold SetTable.gaveWay;rw[T.mask];rfl
 show wpAny _ _ (if t.gaveWay=true then _ else _) _ _ _;rw[hg];obtain⟨R,hp⟩:=Rh T h;have pr:∀f:Nat->Int,(f 0 ==h)=true->SetTable.probe t f h (t.probeStart h)=some (.candidate (SetTable.bits h%8) 0 (t.advance (t.probeStart h))):=λf hf=>by
  have hF:10*SetTable.turns t.mask=219+1:=by rw[T.mask];rfl
  rw[SetTable.probe.eq_def,hF,Ja T hf R,if_pos (Od T.mask h)]
 show wpAny _ _ (match SetTable.probe t _ h (t.probeStart h) with|some met=>_|_=>_) _ _ _;rw[pr _ (show(h ==h)=true from beq_self_eq_true h)];show wpAny _ _ (if (!t.led)=true then _ else _) _ _ _;cases hl:t.led with
 |true=>
  show wpAny _ _ (holding [Value.ref a] (eqBool (.ref a) (.ref b)) >>=_) _ _ _;refine aA (bR ((tupleKind (Aj prog w)).eqBool hu ha hb ?_));rw[bQ rfl];refine aA (cH ho hd (FQ T) ?_);exact aJ (aJ q)
 |false=>
  show wpAny _ _ (searchCouldBeSeen (.ref b) _ >>=_) _ _ _;refine aA (jy hb ?_ ?_)
  ·intro y hy;obtain⟨z,hz,rfl⟩:=aW.mp hy;have:=g0.mp hz;rw[Array.mem_filter]at this;have:=this.1;simp only[List.mem_toArray,List.mem_cons,List.not_mem_nil,or_false]at this;subst this;exact⟨a,ka,rfl,ha⟩
  show wpAny _ _ (holding [Value.ref a] (eqBool (.ref a) (.ref b)) >>=_) _ _ _;refine aA (bR ((tupleKind (Aj prog w)).eqBool hu ha hb ?_));rw[bQ rfl];refine aA (cH ho hd (FQ T) ?_);exact aJ (aJ q)
noncomputable def cntK(l:List (List Key)):Nat:=match l with
 |[a,b]=>if a=b then 1 else 2
 |l=>l.length
def W1(h:l.length<=2):cntK l<=2:=by
 unfold cntK;split
 ·split<;>decide
 exact h
def Pn(prog:Program)(w:World)(S:Addr)(xs:List (Addr×List Key))(i:Nat)(h:Heap):Prop:=(∀x∈xs,IsTupleKey (Aj prog w) h x.2 x.1)/\(match i with|0=>mh h S|1=>∃x,xs[0]?=some x/\XX h S x.1 ((tupleKind (Aj prog w)).hash x.2)|_=>NN h S (cntK (xs.map (·.2))))
def FI(hk:IsTupleKey (Aj prog w) h ks a)(e:∀o,h.get? a=some o->h'.get? a=some o):IsTupleKey (Aj prog w) h' ks a:=by
 obtain⟨o,it,n,ho,r⟩:=hk;exact⟨o,it,n,e o ho,r⟩
def Pn.stay{xs:List (Addr×List Key)}{i:Nat}{h h':Heap}{wr:List Addr}(hS:S∉wr)(hx:∀x∈xs,x.1∉wr)(x:Pn prog w S xs i h)(e:∀b o,b∉wr->h.get? b=some o->h'.get? b=some o):Pn prog w S xs i h':=by
 obtain⟨h1,h2⟩:=x;refine⟨λy hy=>FI (h1 y hy) λo ho=>e _ _ (hx y hy) ho,?_⟩
 match i,h2 with
 |0,⟨o,ep,t,ho,r,u,v,y,z⟩=>exact⟨o,ep,t,e _ _ hS ho,r,u,v,y,z⟩
 |1,⟨x,e0,o,ep,t,ho,r⟩=>exact⟨x,e0,o,ep,t,e _ _ hS ho,r⟩
 |n+2,⟨o,es,ep,t,ho,r,u,v,y⟩=>exact⟨o,es,ep,t,e _ _ hS ho,r,u,v,y⟩
def Pn.fin(h2:xs.length<=2)(x:Pn prog w S xs xs.length h):NN h S (cntK (xs.map (·.2))):=by
 obtain⟨_,x⟩:=x;rcases xs with _|⟨y,_|⟨z,_|⟨u,r⟩⟩⟩
 ·have x:=x;show NN h S 0;exact mh.n x
 ·obtain⟨q,_,x⟩:=(show ∃q,[y][0]?=some q/\XX h S q.1 ((tupleKind (Aj prog w)).hash q.2) from x);show NN h S 1;exact XX.n x
 ·exact x
 exact absurd (show r.length+3<=2 from h2) (by omega)
def Pn.add{i:Nat}(hu:A.units<cLine)(h2:xs.length<=2)(hS:∀x∈xs,x.1≠S)(hi:xs[i]?=some x)(sp:Pn prog w S xs i s.heap)
 (q:∀h' tk b,s.toks<=tk->Heap.SameBut S s.heap h'->Pn prog w S xs (i+1) h'->Q b {s with heap:=h',toks:=tk}):wpAny (model prog w) A (setAdd S (.ref x.1)) Q E s:=by
 obtain⟨h1,hst⟩:=sp;have hx:=h1 x (aP hi);have kp:∀{h':Heap},Heap.SameBut S s.heap h'->∀x∈xs,IsTupleKey (Aj prog w) h' x.2 x.1:=λ{h'} hs y hy=>FI (h1 y hy) λo ho=>by rw[hs.2 _ (hS y hy)];exact ho
 unfold setAdd;refine bR (aA ((tupleKind (Aj prog w)).pyHash hu hx ?_));unfold setAddHashed;refine bR ?_;have hil:=(aE.mp hi).1
 match i,hi,hst with
 |0,hi,hst=>
  exact ma (F:=99999) (s:={s with toks:=s.toks+_}) hst hx λh' hs st=>q h' _ true (i4 _ _) hs ⟨kp hs,x,hi,st⟩
 |1,hi,⟨y,e0,st⟩=>
  have ex:xs=[y,x]:=by
   match xs,h2,e0,hi with
   |[],_,e0,_=>cases e0
   |[a],_,_,hi=>cases hi
   |[a,b],_,e0,hi=>cases e0;cases hi;rfl
   |a::b::c::r,h2,_,_=>simp at h2
  have ha:=h1 y (aP e0);by_cases e:y.2=x.2
  ·have hn:cntK (xs.map (·.2))=1:=by rw[ex];exact if_pos e
   rw[e]at st ha;refine tF (F:=99999) (s:={s with toks:=s.toks+_}) st ha hx hu (q s.heap _ false (i4 _ _) ⟨rfl,λb hb=>rfl⟩ ⟨h1,?_⟩);show NN _ _ _;rw[hn];exact st.n
  have hn:cntK (xs.map (·.2))=2:=by rw[ex];exact if_neg e
  obtain⟨o,ep,t,ho,hx',hd,T⟩:=st;refine tG (F:=99999) (s:={s with toks:=s.toks+_}) ⟨o,ep,t,_,_,ho,hx',hd,T⟩ ha hx e hu λh' hs st=>q h' _ true (i4 _ _) hs ⟨kp hs,?_⟩;show NN _ _ _;rw[hn];exact st
 |n+2,hi,_=>omega
end
section
def IL{items:Array Value}{xs:List (Addr×List Key)}(hh:A.handled=none)(hu:A.units+8<cLine)(hl:s.heap.IsList l items)(hz:items.toList=xs.map λx=>Value.ref x.1)(hx2:xs.length<=2)(hk:∀x∈xs,IsTupleKey (Aj prog w) s.heap x.2 x.1)
 (h:∀(h':Heap) (tk:Nat),NN h' s.heap.objs.size (cntK (xs.map (·.2)))->(∀b o,b<s.heap.objs.size->s.heap.get? b=some o->h'.get? b=some o)->Q (.ref s.heap.objs.size) {s with heap:=h',toks:=tk}) :
 wpAny (model prog w) A (call (.type "set") [.ref l]) Q E s:=by
 obtain⟨c,tl,hmro⟩:=bZ.mro;have hmade:=bZ.made;have hsub:=bZ.sub;refine cO (iB ?_);show wpAny _ _ (callAny (.type "set") _) _ _ _;refine aJ ⟨fE _ (by decide +kernel),gA F.entry_type_call ?_⟩;rw[Around.under_plain (weight_type_call_type "set" [.ref l] []) rfl];have h1:=bZ.notType;have h2:=bZ.canCreate;have hct:=F.typeCall_set_1 (.ref l)
 repeat (any_goals (first|assumption|wp_step))
 refine cA (code_set_new_1 (.ref l) (E:=E) (Q₁:=λobj s₁=>∃led:Bool,obj=.ref s.heap.objs.size/\s₁={s with heap:=s.heap.push {cls:=.type "set",dict:=none,data:=.set #[] 0 (.fresh 0 0 led)}}) λled=>⟨led,rfl,rfl⟩) λr s₁ hr=>?_;cases r with
 |error e=>exact hr
 |ok fl=>
  cases fl with
  |ret obj=>
   obtain⟨led,rfl,rfl⟩:=hr;have hS:(s.heap.push {cls:=.type "set",dict:=none,data:=.set #[] 0 (.fresh 0 0 led)}).get? s.heap.objs.size=some {cls:=.type "set",dict:=none,data:=.set #[] 0 (.fresh 0 0 led)}:=aV _ rfl;have hT:Shared.TypeIs {s with heap:=s.heap.push {cls:=.type "set",dict:=none,data:=.set #[] 0 (.fresh 0 0 led)}} (.ref s.heap.objs.size) "set":=⟨_,hS,rfl⟩;have hli:=bZ.init.lookup;have hbi:=bZ.init.bind (.ref s.heap.objs.size)
   repeat (any_goals (first|assumption|wp_step))
   refine cA (cZ (R:=wants (λr s₂=>r=.none/\∃h' tk,s₂={s with heap:=h',toks:=tk}/\NN h' s.heap.objs.size (cntK (xs.map (·.2)))/\
    (∀b o,b<s.heap.objs.size->s.heap.get? b=some o->h'.get? b=some o)) E) bZ.init.plain F.entry_set_init (check_set_init_1 hT ?_)) λr₂ s₂ hr₂=>?_
   ·obtain⟨⟨ocls,odict,odata,oslots⟩,hol,hcl,nl,hdl⟩:=id hl;simp only at hcl hdl;subst hcl hdl;have hol':(s.heap.push {cls:=.type "set",dict:=none,data:=.set #[] 0 (.fresh 0 0 led)}).get? l=some {cls:=.type "list",dict:=odict,data:=.seq items nl,slots:=oslots}:=aC _ hol;have hsls:=F.sub_list_set;have hslf:=F.sub_list_frozenset;have hne:(Value.type "list" ==Value.type "dict")=false:=by decide
    have hl1:(s.heap.push {cls:=.type "set",dict:=none,data:=.set #[] 0 (.fresh 0 0 led)}).IsList l items:=⟨_,hol',rfl,nl,rfl⟩;unfold Builtin.«set.__init__» noKeywords Builtin.Frozenset.updateFrom;generalize hPI:pyIter=PI
    wp_walk
    subst hPI;refine fO hl1 ?_;refine aA (wpAny_runValue ?_);have hlS:l<s.heap.objs.size:=aK hol;have hh3:A.in1.in1.in1.handled=none:=by simp[hh]
    have szp:(s.heap.push {cls:=.type "set",dict:=none,data:=.set #[] 0 (.fresh 0 0 led)}).objs.size=s.heap.objs.size+1:=cT _ _;have hneI:l≠(s.heap.push {cls:=.type "set",dict:=none,data:=.set #[] 0 (.fresh 0 0 led)}).objs.size:=by rw[szp];exact aQ (cV hlS)
    have hSf:s.heap.objs.size∉ [(s.heap.push {cls:=.type "set",dict:=none,data:=.set #[] 0 (.fresh 0 0 led)}).objs.size,l]:=by
     simp only[List.mem_cons,List.not_mem_nil,or_false,not_or];exact⟨by rw[szp];exact aQ (dY _),fZ hlS⟩
    have hln:xs.length=items.size:=by
     have:=bW List.length hz;simpa using this.symm
    have hval:∀(i:Nat) (v:Value),items[i]?=some v->∃x,xs[i]?=some x/\v=.ref x.1:=λi v hv=>by
     have hv:items.toList[i]?=some v:=by rw[fU];exact hv
     rw[hz,aM]at hv;obtain⟨x,h1,h2⟩:=aG.mp hv;exact⟨x,h1,h2.symm⟩
    have xlt:∀x∈xs,x.1<s.heap.objs.size:=λx hx=>by
     obtain⟨o,_,_,ho,_⟩:=hk x hx;exact aK ho
    refine IV ((Walks.list hh3 _ l hneI items).toS) s.heap.objs.size hSf (Pn prog w s.heap.objs.size xs) (λi h h'=>Pn.stay ?a1 ?a2) (λi v s1 Q1 E1 hi hP sp q1=>?a3) (items.size-0) 0 _ (by omega) (dX _) ⟨⟨_,aV _ rfl,rfl,rfl⟩,(hl1.push _)⟩ ?hS0 ?hR
    case a1=>rw[szp];simp
    case a2=>
     intro x hx;rw[szp,bA];exact aQ (cV (xlt x hx))
    case a3=>
     obtain⟨x,hx,rfl⟩:=hval i v hP;exact Pn.add (by simp[Around.in1];omega) hx2 (λx hx=>aQ (xlt x hx)) hx sp q1
    case hS0=>
     refine⟨λx hx=>FI (hk x hx) λo ho=>aC _ (aC _ ho),?_⟩;exact⟨_,0,_,aC _ hS,⟨rfl,rfl,rfl⟩,rfl,rfl,rfl,rfl⟩
    case hR=>
     intro s' hm hS';have hS':NN s'.heap s.heap.objs.size (cntK (xs.map (·.2))):=by
      rw[←hln]at hS';exact hS'.fin hx2
     obtain⟨h',g',d',tk',os'⟩:=s';have eg:g'=s.gens:=hm.gens;have ed:d'=s.drawn:=hm.drawn;have eo:os'=s.os:=hm.os;subst eg ed eo;show wpAny _ _ _ _ _ _;refine aJ ?_;show wpAny _ _ (ret Value.none) _ _ _;refine aJ ⟨rfl,h',tk',rfl,hS',λb o hb e=>?_⟩;refine hm.heap b o ?_ (aC _ (aC _ e));simp only[List.mem_cons,List.not_mem_nil,or_false,not_or];exact⟨aQ hb,by rw[szp];exact aQ (cV hb)⟩
   cases r₂ with
   |error e=>exact hr₂
   |ok fl₂=>
    cases fl₂ with
    |ret r=>
     obtain⟨rfl,h',tk,rfl,hS',hk'⟩:=hr₂
     repeat (any_goals (first|assumption|wp_step))
     exact h _ _ hS' hk'
    |_=>exact hr₂.elim
  |_=>exact hr.elim
end
theorem EY:∀{xs:List (Addr×List Key)}{us:List Value},Aq (xs.map λx=>V.ref x.1) us->us=xs.map λx=>Value.ref x.1
 |[],_,r=>by rw[hG]at r;cases r;rfl
 |x::xs,_,r=>by
  rw[aX]at r;cases r with
  |cons h t=>cases h;rw[EY t];rfl
def Kw{K:Fq}:kitAny K (.type "list") [.type "list",.type "tuple"]=some true:=by
 show(match kitOne K (.type "list") (.type "list") with|some true=>some true|some false=>kitAny K (.type "list") [.type "tuple"]|none=>none)=some true;rw[C3]
def Q2:Br X (.builtin "isinstance") (λxs H Q=>∃a ys tp,xs=[.ref a,.ref tp]/\H a=some (.lst ys)/\DG X.K H tp [.ty "list",.ty "tuple"]/\Q (.bl true) H):=by
 intro pins s σ H xs us Q I r h;obtain⟨a,ys,tp,rfl,ha,hq,q⟩:=h;obtain⟨u,w',rfl,rx,rc⟩:=EQ r;obtain rfl:u=Value.ref a:=rx;obtain rfl:w'=Value.ref tp:=rc;obtain⟨_,_,n,_,h1⟩:=(show AN X.prog X.w H s.heap a (.lst ys) from I.hok a _ ha);obtain⟨its,rv,pl,_⟩:=I.tuple hq;have ei:its=[.type "list",.type "tuple"]:=by
  cases rv with
  |cons r1 r2=>cases r2 with
   |cons r3 r4=>
    cases r4;have r1:=r1;have r3:=r3;rw[r1,r3]
 obtain⟨⟨oc,odd,odt,osl⟩,e1,hc,n1,dd⟩:=pl;dsimp only at hc dd;subst hc dd ei;exact kia_tup PySem.W.kitx_list I.kIn ⟨_,h1,rfl⟩ e1 Kw (λz=>nomatch z) λtk=>⟨.bl true,H,I.tok _,rfl,q⟩
def HH{K:Fq}:kitOne K (.type "tuple") (.type "list")=some false:=AC
def I9{K:Fq}:kitAny K (.type "tuple") [.type "list",.type "tuple"]=some true:=by
 show(match kitOne K (.type "tuple") (.type "list") with|some true=>some true|some false=>kitAny K (.type "tuple") [.type "tuple"]|none=>none)=some true;rw[HH];show(match kitOne K (.type "tuple") (.type "tuple") with|some true=>some true|some false=>kitAny K (.type "tuple") []|none=>none)=some true;rw[C3]
def Qz:Br X (.builtin "isinstance") (λxs H Q=>∃a ys tp,xs=[.ref a,.ref tp]/\H a=some (.tup ys)/\DG X.K H tp [.ty "list",.ty "tuple"]/\Q (.bl true) H):=by
 intro pins s σ H xs us Q I r h;obtain⟨a,ys,tp,rfl,ha,hq,q⟩:=h;obtain⟨u,w',rfl,rx,rc⟩:=EQ r;obtain rfl:u=Value.ref a:=rx;obtain rfl:w'=Value.ref tp:=rc;obtain⟨_,_,_,ob,h1,hcl,_⟩:=(show AN X.prog X.w H s.heap a (.tup ys) from I.hok a _ ha);obtain⟨its,rv,pl,_⟩:=I.tuple hq;have ei:its=[.type "list",.type "tuple"]:=by
  cases rv with
  |cons r1 r2=>cases r2 with
   |cons r3 r4=>
    cases r4;have r1:=r1;have r3:=r3;rw[r1,r3]
 obtain⟨⟨oc,odd,odt,osl⟩,e1,hc,n1,dd⟩:=pl;dsimp only at hc dd;subst hc dd ei;exact kia_tup PySem.W.kitx_tuple I.kIn ⟨_,h1,hcl⟩ e1 I9 (λz=>nomatch z) λtk=>⟨.bl true,H,I.tok _,rfl,q⟩
section
def Qw(hc:X.calm=true):Br X (.builtin "max") (λxs H Q=>∃(p:Addr) (ns:List Int),xs=[.ref p]/\D8 X.K H p (ns.map V.int)/\0<ns.length/\∀m∈ns,(∀a∈ns,a<=m)->Q (.int m) H):=by
 intro pins s σ H xs us Q I r h;obtain⟨p,ns,rfl,hq,hn,q⟩:=h;obtain⟨u,rfl,ru⟩:=DP r;cases ru;obtain⟨its,rv,pl,hz⟩:=I.list hq;have hi:=Nr rv;obtain⟨xs,ex⟩:=hi.allInts.items;have el:numsOf its=ns:=hi.numsOf;have hl:=pl.isList;rw[ex]at hl;have nx:numsOf (intItems xs).toList=xs.toList.map (·.1):=nums_intItems xs;have en:xs.toList.map (·.1)=ns:=by rw[←nx,←ex];exact el
 have hsz:0<xs.size:=by
  have:(xs.toList.map (·.1)).length=ns.length:=by rw[en]
  rw[aL,gC]at this
  lia
 refine max_intList (I.ok.hd hc) hl hsz λv h' tk hv hk=>?_;obtain⟨t,rfl⟩:=intItems_at hv;have fe:(λi j=>decide (numAt xs i>numAt xs j))=λi j=>decide ((λk=>- numAt xs k) i<(λk=>- numAt xs k) j):=by
  funext i j
  rw[decide_eq_decide];dsimp only
  lia
 obtain⟨h1,h2⟩:=argBest_lt (λk=>- numAt xs k) (xs.size-1);rw[←fe]at h1 h2;refine⟨.int _,H,I.kept (t':=tk) hk,⟨t,rfl⟩,q _ ?_ λa ha=>?_⟩
 ·rw[←en,numAt_eq];exact getD_mem (by rw[aL,gC];lia)
 rw[←en]at ha;obtain⟨j,hj,rfl⟩:=mem_getD ha;rw[aL,gC]at hj;rw[←numAt_eq];have:=h2 j (by lia)
 lia
def BY(n:Nat)(z:Str):Str:=⟨((List.replicate n z.cps.toList).flatten).toArray⟩
theorem HW:∀(n:Nat) (a acc:Array Nat),List.foldl (λx1 x2=>x1++x2) acc (List.replicate n a)=acc++((List.replicate n a.toList).flatten).toArray
 |0,a,acc=>by simp
 |n+1,a,acc=>by
  rw[cF,i9,HW n,cF,cG];apply Array.ext';simp
def UN(n:Nat)(z:Str):(BY n z).length=n*z.length:=by
 show((List.replicate n z.cps.toList).flatten).toArray.size=_;rw[bB];simp[Str.length]
def Vy:Cf X (binaryOp .Mult) (λx y H Q=>∃z n,x=.str z/\y=.int n/\0<=n/\n<=100/\z.length<=100/\Q (.str (BY n.toNat z)) H):=by
 intro pins s σ H x y v u Q I rx ry h;obtain⟨z,n,rfl,rfl,h0,h1,hz,q⟩:=h;obtain⟨t,rfl⟩:=rx;obtain⟨t',rfl⟩:=ry;have hs:sizeLine=16777216:=dE;have hm:z.length*n.toNat<=100*100:=Nat.mul_le_mul hz (by lia);refine P.mul_str ?_ ?_ ?_ ?_
 ·rw[Bool.or_eq_false_iff];exact⟨bP (by lia),bP (by lia)⟩
 ·intro g1 _ g3;have e:((z.length*n.toNat:Nat):Int)=(z.length:Int)*n:=by rw[Int.natCast_mul,Int.toNat_of_nonneg h0]
  have:(z.length:Int)<=(2^63-1) / n:=Int.le_ediv_of_mul_le (by lia) (by rw[←e];lia)
  lia
 ·intro _ _;exact bP (by lia)
 have fin:∀y tk,y=BY n.toNat z->EP X pins σ Q (Value.str y s.toks) {s with toks:=tk}:=λy tk e=>⟨.str y,H,I.tok _,⟨_,rfl⟩,by rw[e];exact q⟩;by_cases g:n<1
 ·rw[if_pos g];have:n=0:=by lia
  subst this;exact⟨by show 0<=sizeLine;lia,fin _ _ rfl⟩
 rw[if_neg g];by_cases g2:(n ==1||z.length ==0)=true
 ·rw[if_pos g2];have e:z=BY n.toNat z:=by
    rw[dO,aI,aI]at g2;rcases g2 with rfl|g2
    ·show z=⟨((List.replicate 1 z.cps.toList).flatten).toArray⟩;simp
    have:z.cps=#[]:=Array.eq_empty_of_size_eq_zero g2;obtain⟨c⟩:=z;dsimp only at this;subst this;unfold BY;simp
  exact⟨.str z,H,I,⟨_,rfl⟩,by rw[←e]at q;exact q⟩
 rw[if_neg g2];have e:(⟨List.foldl (λx1 x2=>x1++x2) #[] (List.replicate n.toNat z.cps)⟩:Str)=BY n.toNat z:=by rw[HW];unfold BY;simp
 refine⟨?_,fin _ _ e⟩;rw[e,UN,Nat.mul_comm]
 lia
end
section
def Ie{items:Array Value}{xs:List (Addr×List Key)}(hh:A.handled=none)(hu:A.units+8<cLine)(hl:s.heap.IsTuple l items)(hz:items.toList=xs.map λx=>Value.ref x.1)(hx2:xs.length<=2)(hk:∀x∈xs,IsTupleKey (Aj prog w) s.heap x.2 x.1)
 (h:∀(h':Heap) (tk:Nat),NN h' s.heap.objs.size (cntK (xs.map (·.2)))->(∀b o,b<s.heap.objs.size->s.heap.get? b=some o->h'.get? b=some o)->Q (.ref s.heap.objs.size) {s with heap:=h',toks:=tk}) :
 wpAny (model prog w) A (call (.type "set") [.ref l]) Q E s:=by
 obtain⟨c,tl,hmro⟩:=bZ.mro;have hmade:=bZ.made;have hsub:=bZ.sub;refine cO (iB ?_);show wpAny _ _ (callAny (.type "set") _) _ _ _;refine aJ ⟨fE _ (by decide +kernel),gA F.entry_type_call ?_⟩;rw[Around.under_plain (weight_type_call_type "set" [.ref l] []) rfl];have h1:=bZ.notType;have h2:=bZ.canCreate;have hct:=F.typeCall_set_1 (.ref l)
 repeat (any_goals (first|assumption|wp_step))
 refine cA (code_set_new_1 (.ref l) (E:=E) (Q₁:=λobj s₁=>∃led:Bool,obj=.ref s.heap.objs.size/\s₁={s with heap:=s.heap.push {cls:=.type "set",dict:=none,data:=.set #[] 0 (.fresh 0 0 led)}}) λled=>⟨led,rfl,rfl⟩) λr s₁ hr=>?_;cases r with
 |error e=>exact hr
 |ok fl=>
  cases fl with
  |ret obj=>
   obtain⟨led,rfl,rfl⟩:=hr;have hS:(s.heap.push {cls:=.type "set",dict:=none,data:=.set #[] 0 (.fresh 0 0 led)}).get? s.heap.objs.size=some {cls:=.type "set",dict:=none,data:=.set #[] 0 (.fresh 0 0 led)}:=aV _ rfl;have hT:Shared.TypeIs {s with heap:=s.heap.push {cls:=.type "set",dict:=none,data:=.set #[] 0 (.fresh 0 0 led)}} (.ref s.heap.objs.size) "set":=⟨_,hS,rfl⟩;have hli:=bZ.init.lookup;have hbi:=bZ.init.bind (.ref s.heap.objs.size)
   repeat (any_goals (first|assumption|wp_step))
   refine cA (cZ (R:=wants (λr s₂=>r=.none/\∃h' tk,s₂={s with heap:=h',toks:=tk}/\NN h' s.heap.objs.size (cntK (xs.map (·.2)))/\
    (∀b o,b<s.heap.objs.size->s.heap.get? b=some o->h'.get? b=some o)) E) bZ.init.plain F.entry_set_init (check_set_init_1 hT ?_)) λr₂ s₂ hr₂=>?_
   ·obtain⟨⟨ocls,odict,odata,oslots⟩,hol,hcl,nl,hdl⟩:=id hl;simp only at hcl hdl;subst hcl hdl;have hol':(s.heap.push {cls:=.type "set",dict:=none,data:=.set #[] 0 (.fresh 0 0 led)}).get? l=some {cls:=.type "tuple",dict:=odict,data:=.seq items nl,slots:=oslots}:=aC _ hol;have hsls:=F.sub_tuple_set;have hslf:=F.sub_tuple_frozenset;have hne:(Value.type "tuple" ==Value.type "dict")=false:=by decide
    have hl1:(s.heap.push {cls:=.type "set",dict:=none,data:=.set #[] 0 (.fresh 0 0 led)}).IsTuple l items:=⟨_,hol',rfl,nl,rfl⟩;unfold Builtin.«set.__init__» noKeywords Builtin.Frozenset.updateFrom;generalize hPI:pyIter=PI
    wp_walk
    subst hPI;refine gM hl1 ?_;refine aA (wpAny_runValue ?_);have hlS:l<s.heap.objs.size:=aK hol;have hh3:A.in1.in1.in1.handled=none:=by simp[hh]
    have szp:(s.heap.push {cls:=.type "set",dict:=none,data:=.set #[] 0 (.fresh 0 0 led)}).objs.size=s.heap.objs.size+1:=cT _ _;have hneI:l≠(s.heap.push {cls:=.type "set",dict:=none,data:=.set #[] 0 (.fresh 0 0 led)}).objs.size:=by rw[szp];exact aQ (cV hlS)
    have hSf:s.heap.objs.size∉ [(s.heap.push {cls:=.type "set",dict:=none,data:=.set #[] 0 (.fresh 0 0 led)}).objs.size,l]:=by
     simp only[List.mem_cons,List.not_mem_nil,or_false,not_or];exact⟨by rw[szp];exact aQ (dY _),fZ hlS⟩
    have hln:xs.length=items.size:=by
     have:=bW List.length hz;simpa using this.symm
    have hval:∀(i:Nat) (v:Value),items[i]?=some v->∃x,xs[i]?=some x/\v=.ref x.1:=λi v hv=>by
     have hv:items.toList[i]?=some v:=by rw[fU];exact hv
     rw[hz,aM]at hv;obtain⟨x,h1,h2⟩:=aG.mp hv;exact⟨x,h1,h2.symm⟩
    have xlt:∀x∈xs,x.1<s.heap.objs.size:=λx hx=>by
     obtain⟨o,_,_,ho,_⟩:=hk x hx;exact aK ho
    refine IV ((Walks.tuple hh3 _ l hneI items).toS) s.heap.objs.size hSf (Pn prog w s.heap.objs.size xs) (λi h h'=>Pn.stay ?a1 ?a2) (λi v s1 Q1 E1 hi hP sp q1=>?a3) (items.size-0) 0 _ (by lia) (dX _) ⟨⟨_,aV _ rfl,rfl,rfl⟩,(hl1.push _)⟩ ?hS0 ?hR
    case a1=>rw[szp];simp
    case a2=>
     intro x hx;rw[szp,bA];exact aQ (cV (xlt x hx))
    case a3=>
     obtain⟨x,hx,rfl⟩:=hval i v hP;exact Pn.add (by simp[Around.in1];lia) hx2 (λx hx=>aQ (xlt x hx)) hx sp q1
    case hS0=>
     refine⟨λx hx=>FI (hk x hx) λo ho=>aC _ (aC _ ho),?_⟩;exact⟨_,0,_,aC _ hS,⟨rfl,rfl,rfl⟩,rfl,rfl,rfl,rfl⟩
    case hR=>
     intro s' hm hS';have hS':NN s'.heap s.heap.objs.size (cntK (xs.map (·.2))):=by
      rw[←hln]at hS';exact hS'.fin hx2
     obtain⟨h',g',d',tk',os'⟩:=s';have eg:g'=s.gens:=hm.gens;have ed:d'=s.drawn:=hm.drawn;have eo:os'=s.os:=hm.os;subst eg ed eo;show wpAny _ _ _ _ _ _;refine aJ ?_;show wpAny _ _ (ret Value.none) _ _ _;refine aJ ⟨rfl,h',tk',rfl,hS',λb o hb e=>?_⟩;refine hm.heap b o ?_ (aC _ (aC _ e));simp only[List.mem_cons,List.not_mem_nil,or_false,not_or];exact⟨aQ hb,by rw[szp];exact aQ (cV hb)⟩
   cases r₂ with
   |error e=>exact hr₂
   |ok fl₂=>
    cases fl₂ with
    |ret r=>
     obtain⟨rfl,h',tk,rfl,hS',hk'⟩:=hr₂
     repeat (any_goals (first|assumption|wp_step))
     exact h _ _ hS' hk'
    |_=>exact hr₂.elim
  |_=>exact hr.elim
end
section
def iZ(K:Frag)(te:TE):TE:=λσ H Q=>te σ H λx H1=>∃(a:Addr) (xs:List (Addr×List Key)),x=.ref a/\(D8 K H1 a (xs.map λx=>V.ref x.1)\/DG K H1 a (xs.map λx=>V.ref x.1))/\xs.length<=2/\(∀x∈xs,H1 x.1=some (.tup (x.2.map kV)))/\Q (.int (cntK (xs.map (·.2)):Nat)) H1
def Vr{e:Expr}{te:TE}{p1 p2 p3 pos:Pos}(hh:X.A.handled=none)(hu:X.A.units+64<cLine)(g1:Gl X "len")(m1:X.mg "len"=none)(g2:Gl X "set")(m2:X.mg "set"=none)(he:PE X e te)
 (h1:starEach [.Call (.Name "set" p2) [e] [] p3] X.env=[(false,eval (.Call (.Name "set" p2) [e] [] p3) X.env)]:=by rfl)(h2:starEach [e] X.env=[(false,eval e X.env)]:=by rfl) :
 PE X (.Call (.Name "len" p1) [.Call (.Name "set" p2) [e] [] p3] [] pos) (iZ X.K te):=by
 intro pins s σ H Q I h;refine bS (Ed I g1 m1 boot_len ?_ (by decide) (by decide));refine g7 ?_ h1 rfl;rw[h1];show wpAny _ _ (spliced ((false,eval (.Call (.Name "set" p2) [e] [] p3) X.env)::backTo pos (starEach [] X.env))) _ _ s;refine gK ?_;refine bS (Ed I g2 m2 TM ?_ (by decide) (by decide));refine cW ?_ h2 rfl;rw[h2];show wpAny _ _ (spliced ((false,eval e X.env)::backTo p3 (starEach [] X.env))) _ _ s;refine gK (Bg (he pins s σ H _ I h) λu s1 ⟨x,H1,I1,r1,q1⟩=>?_);obtain⟨a,xs,rfl,hq,h2',hk,q⟩:=q1;cases r1;refine fL ?_;have hc:=W1 (l:=xs.map λx=>x.2) (by rw[aL];exact h2');rcases hq with hq|hq
 ·obtain⟨its,rv,pl,_⟩:=I1.list hq;refine IL (xs:=xs) hh (by lia) pl.isList (by simpa using EY rv) h2' (λx hx=>S7 I1.hok (hk x hx)) λh' tk hS hk=>?_;refine fL ?_;obtain⟨o,es,ep,t,ho,hex,hd,hf,hn⟩:=hS;refine call_len_set (s:={s1 with heap:=h',toks:=tk}) ho hex hd hf (by lia) ?_;refine⟨.int (cntK (xs.map (·.2)):Nat),H1,(I1.kept (t':=tk+1+1) λb u e=>hk b u (aK e) e),⟨_,by rw[hn]⟩,q⟩
 obtain⟨its,rv,pl,_⟩:=I1.tuple hq;refine Ie (xs:=xs) hh (by lia) pl (by simpa using EY rv) h2' (λx hx=>S7 I1.hok (hk x hx)) λh' tk hS hk=>?_;refine fL ?_;obtain⟨o,es,ep,t,ho,hex,hd,hf,hn⟩:=hS;refine call_len_set (s:={s1 with heap:=h',toks:=tk}) ho hex hd hf (by lia) ?_;refine⟨.int (cntK (xs.map (·.2)):Nat),H1,(I1.kept (t':=tk+1+1) λb u e=>hk b u (aK e) e),⟨_,by rw[hn]⟩,q⟩
end
abbrev AX(a:Addr)(o:Obj):HO:=.frz o (.own a)
def del(H:Hp)(C:List (Addr×Obj)):Hp:=λb=>if (C.lookup b).isSome=true then none else H b
def put(H:Hp)(C:List (Addr×Obj)):Hp:=λb=>match C.lookup b with
 |some o=>some (AX b o)
 |none=>H b
section
def DT(e:C.lookup b=some o):put H C b=some (AX b o):=by unfold put;rw[e]
def Bq(e:C.lookup b=none):put H C b=H b:=by unfold put;rw[e]
def CP(e:C.lookup b=some o):del H C b=none:=by unfold del;rw[e];rfl
def Be(e:C.lookup b=none):del H C b=H b:=by unfold del;rw[e];rfl
def Dj(n:∀c o,C.lookup c=some o->H c=none)(e:H b=some u):put H C b=some u:=by
 cases q:C.lookup b with
 |none=>rw[Bq q];exact e
 |some o=>rw[n b o q]at e;cases e
def BU(n:∀c o,C.lookup c=some o->H c=some (AX c o))(hu:∀o,u≠AX b o)(e:H b=some u):del H C b=some u:=by
 cases q:C.lookup b with
 |none=>rw[Be q];exact e
 |some o=>rw[n b o q]at e;cases e;exact absurd rfl (hu o)
def Tv(e:del H C b=some u):H b=some u/\C.lookup b=none:=by
 cases q:C.lookup b with
 |none=>rw[Be q]at e;exact⟨e,rfl⟩
 |some o=>rw[CP q]at e;cases e
def D9.del(x:D9 P w H h)(n:∀c o,C.lookup c=some o->H c=some (AX c o)):D9 P w (del H C) h:=λb u e=>by
 obtain⟨e1,e2⟩:=Tv e;exact(x b u e1).stay (λ_ _ _ q=>q) (λc q=>BU n (λo z=>by cases z) q) λc xs q=>BU n (λo z=>by cases z) q
def D9.put(x:D9 P w H h)(n:∀c o,C.lookup c=some o->H c=none/\h.get? c=some o):D9 P w (put H C) h:=λb u e=>by
 have n1:∀c o,C.lookup c=some o->H c=none:=λc o q=>(n c o q).1;cases q:C.lookup b with
 |none=>
  rw[Bq q]at e;exact(x b u e).stay (λ_ _ _ q=>q) (λc q=>Dj n1 q) λc xs q=>Dj n1 q
 |some o=>
  rw[DT q]at e;cases e;exact⟨(n b o q).2,o,(n b o q).2⟩
def Un.back(u:Un fs [] (del H C) H' h h')(n:∀c o,C.lookup c=some o->H c=some (AX c o)):Un fs [] H (L2.put H' C) h h':=by
 have dn:∀b,H b=none->del H C b=none/\C.lookup b=none:=λb e=>by
  cases q:C.lookup b with
  |none=>exact⟨by rw[Be q];exact e,rfl⟩
  |some o=>rw[n b o q]at e;cases e
 have go:∀{b:Addr}{u v:HO},H b=some u->(∀o,u≠AX b o)->(del H C b=some u->H' b=some v)->L2.put H' C b=some v:=λ{b u v} e hu k=>by
  cases q:C.lookup b with
  |none=>rw[Bq q];exact k (by rw[Be q];exact e)
  |some o=>rw[n b o q]at e;cases e;exact absurd rfl (hu o)
 refine⟨λb o e z h1 h2=>u.keep b o e (dn b z).1 h1 h2,λb o e z h1 h2=>u.slot b o e (dn b z).1 h1 h2,λb o e z h2=>by rw[Bq (dn b z).2];exact u.free b o e (dn b z).1 h2,u.there,
  λb xs e=>go e (λo z=>by cases z) λq=>u.tups b xs q,λb o xs e=>?_,λb ps e=>?_⟩
 ·cases q:C.lookup b with
  |none=>rw[Bq q];exact u.frzs b o xs (by rw[Be q];exact e)
  |some o'=>rw[n b o' q]at e;cases e;exact DT q
 cases q:C.lookup b with
 |none=>
  obtain⟨m,e1⟩:=u.tbls b ps (by rw[Be q];exact e);exact⟨m,by rw[Bq q];exact e1⟩
 |some o=>rw[n b o q]at e;cases e
def Un.forth(u:Un fs [] (L2.put H C) H' h h')(n:∀c o,C.lookup c=some o->H c=none/\h.get? c=some o)(hok:D9 P w H' h')(n': ∀c o,C.lookup c=some o->H' c=some (AX c o))(nf:∀c o,C.lookup c=some o->c∉fs):Un fs [] H (del H' C) h h':=by
 have n1:∀c o,C.lookup c=some o->H c=none:=λc o q=>(n c o q).1;refine⟨λb o e z h1 h2=>?_,λb o e z h1 h2=>?_,λb o e z h2=>?_,u.there,λb xs e=>?_,λb o xs e=>?_,λb ps e=>?_⟩
 ·cases q:C.lookup b with
  |none=>exact u.keep b o e (by rw[Bq q];exact z) h1 h2
  |some o'=>
   have e1:=(n b o' q).2;rw[e]at e1;cases e1;exact(hok b _ (n' b o q)).1
 ·cases q:C.lookup b with
  |none=>exact u.slot b o e (by rw[Bq q];exact z) h1 h2
  |some o'=>exact absurd h1 (nf b o' q)
 ·cases q:C.lookup b with
  |none=>rw[Be q];exact u.free b o e (by rw[Bq q];exact z) h2
  |some o'=>exact CP q
 ·exact BU n' (λo z=>by cases z) (u.tups b xs (Dj n1 e))
 ·cases q:C.lookup b with
  |none=>rw[Be q];exact u.frzs b o xs (Dj n1 e)
  |some o'=>rw[n1 b o' q]at e;cases e
 obtain⟨m,e1⟩:=u.tbls b ps (Dj n1 e);exact⟨m,BU n' (λo z=>by cases z) e1⟩
end
theorem O5{α β:Type}[BEq α][LawfulBEq α]:∀{l:List (α×β)}{y:α}{u:β},(l.map (·.1)).Nodup->(y,u)∈l->l.lookup y=some u
 |[],_,_,_,h=>by simp at h
 |(a,b)::l,y,u,nd,h=>by
  rw[aX]at nd;obtain⟨n1,n2⟩:=bH.mp nd;rw[bY];rcases aH.mp h with e|h
  ·cases e;simp
  have:y≠a:=λz=>n1 (by rw[←z];exact eZ (f:=(·.1)) h);rw[show(y ==a)=false from bO.mpr this];exact O5 n2 h
theorem JB{α β:Type}:∀{l:List α}{m:List β}{i:Nat}{a:α}{b:β},l[i]?=some a->m[i]?=some b->(a,b)∈l.zip m
 |[],_,_,_,_,h,_=>by simp at h
 |_::_,[],_,_,_,_,h=>by simp at h
 |x::l,y::m,i,a,b,h1,h2=>by
  rw[cY];cases i with
  |zero=>simp at h1 h2;subst h1 h2;exact aF
  |succ i=>exact aD _ (JB (i:=i) (by simpa using h1) (by simpa using h2))
theorem KS{α β:Type}:∀{l:List α}{m:List β},((l.zip m).map (·.1)).Sublist l
 |[],_=>by simp
 |_::_,[]=>by simp
 |x::l,y::m=>by rw[cY,aX];exact KS.cons_cons x
structure Il(N xs ps:List Str)(sc:Scope)(cl:List (Str×Addr)):Prop where
 kind:sc.kind=.function
 co:sc.isCoroutine=false
 gen:sc.isGenerator=false
 nd:N.Nodup
 app:N=xs++ps
 par:∀x∈ps,sc.names.lookup x=some .local
 cap:∀x∈xs,sc.names.lookup x=some .free
 nocell:∀y∈sc.names,y.2≠ .cell
 has:∀x,sc.names.lookup x=some .free->∃c,cl.lookup x=some c
 inj:∀x y c,cl.lookup x=some c->cl.lookup y=some c->x=y
def ib(P:Program)(w:World)(K:Frag)(mg:Str->Option Value)(base:Heap)(N:List Str)(qual:Str)(scope:Scope)(f:Addr)(cd:Value)(cl:List (Str×Addr))(A:Around)(outer:List Env)(s:Shared)(H:Hp):Cx where
 prog:=P
 w:=w
 K:=K
 mg:=mg
 base:=base
 A:=A.deeper (envX qual scope s.heap.objs.size f cd cl)
 N:=N
 s₀:=s
 H₀:=H
 env:=envX qual scope s.heap.objs.size f cd cl
 outer:=outer
 stack:=envX qual scope s.heap.objs.size f cd cl::outer
 ex:=[]
 calm:=true
 fn:=λ_=>false
 pn:=[]
 xe:=λ_ _=>False
def VZ{P:Program}{w:World}{K:Fq}{mg:Mq}{base:Heap}{N xs ps:List Str}{qual:Str}{scope:Scope}{f:Addr}{cd:Value}{cl:Cq}{A:Around}{outer:List Env}{s:Shared}{H:Hp}{us:List Value}{cvs vs:List V}{h1:Heap}{tk:Tok}
 (S:Il N xs ps scope cl)(hd:A.handled=none)(e0:FX P w K mg base A outer s H)(hc:cvs.length=xs.length)(hl:vs.length=ps.length)(r:Aq vs us)
 (hcap:∀(i:Nat) (x:Str) (v:V),xs[i]?=some x->cvs[i]?=some v->∃c u,cl.lookup x=some c/\AA v u/\s.heap.IsCell c (some u))
 (hall:∀x c,cl.lookup x=some c->(∃v,s.heap.IsCell c v)/\H c=none)
 (ns:h1.Ns s.heap.objs.size λx=>(ps.zip us).reverse.lookup x)(hk:∀b o,s.heap.get? b=some o->h1.get? b=some o) :
 Ae (ib P w K mg base N qual scope f cd cl A outer s H) [] (Bs N (cvs++vs)) H {s with heap:=h1,toks:=tk}:=by
 have noA:∀b:Addr,b∉(ib P w K mg base N qual scope f cd cl A outer s H).ex:=λb z=>absurd (show b∈([]:List Addr) from z) (by simp);have ck:∀{c v},s.heap.IsCell c v->h1.IsCell c v:=λ⟨o,ho,hd⟩=>⟨o,hk _ _ ho,hd⟩;refine⟨⟨e0.mod,S.kind,rfl,rfl,aN _,λy z c h1 h2=>S.inj y z c h1 h2,λy hy=>?_,λy c z h=>(by cases z),λ_=>hd,Around.frames_deeper e0.frames,.inr ⟨rfl,rfl⟩,λb z=>absurd z (noA b),e0.bs,e0.bsz,λb _ _=>noA b,λb z=>absurd z (noA b),e0.funs,e0.frf⟩,
  rfl,e0.bare,Un.kept hk,⟨_,ns,λi y v h1 h2 h3=>?_⟩,λy c h=>?_,e0.hok.fresh (aN _),λy c h=>(hall y c h).2,λp hp=>absurd (show p∈([]:Pq) from hp) (by simp),e0.hok.kept hk,?_⟩
 ·have hy:scope.names.lookup y=some .cell\/scope.names.lookup y=some .free:=hy;rcases hy with hy|hy
  ·exact absurd rfl (S.nocell _ (PySem.mem_of_lookup hy))
  exact S.has y hy
 ·have hi:i<(cvs++vs).length:=by
   unfold Bs at h2;by_cases hi:i<(cvs++vs).length
   ·exact hi
   rw[aU (by simpa using hi),cL]at h2;split at h2<;>cases h2
  have ha:(cvs++vs)[i]?=some v:=by
   unfold Bs at h2;rw[aS (by simpa using hi),aM]at h2;cases e:(cvs++vs)[i]? with
   |none=>rw[e]at h2;cases h2
   |some a=>rw[e]at h2;cases h2;rfl
  have hN:(xs++ps)[i]?=some y:=by rw[←S.app];exact h1
  by_cases hx:i<xs.length
  ·rw[aS hx]at hN;rw[aS (by lia)]at ha;obtain⟨c,u,e1,e2,e3⟩:=hcap i y v hN ha;exact⟨u,e2,.inr ⟨.inr (S.cap y (aP hN)),c,e1,ck e3⟩⟩
  rw[aU (by lia)]at hN;rw[aU (by lia),hc]at ha;obtain⟨u,hu,rv⟩:=r.get ha;have ndP:ps.Nodup:=by have:=S.nd;rw[S.app]at this;exact this.sublist (cE _ _)
  refine⟨u,rv,.inl ⟨S.par y (aP hN),?_⟩⟩;show(ps.zip us).reverse.lookup y=some u;refine O5 ?_ (List.mem_reverse.mpr (JB hN hu));rw[List.map_reverse];exact List.pairwise_reverse.mpr ((ndP.sublist KS).imp λh=>bL h)
 ·obtain⟨⟨v,z⟩,_⟩:=hall y c h;exact⟨v,ck z⟩
 unfold Bs;show _=N.length;rw[aR,aL,cX,S.app,aR,aR]
 lia
def VG{P:Program}{w:World}{K:Fq}{mg:Mq}{base:Heap}{N xs ps:List Str}{name qual:Str}{params:Arguments}{body:Expr}{scope:Scope}{f c':Addr}{oc:Obj}{pm ctv:Value}{cl:Cq}{A:Around}{outer:List Env}{s:Shared}{H:Hp}{us:List Value}{cvs vs:List V}{C:Pq}{Q:VK}{E:XK}{k:Nat}
 (hr:Ba k A)(e0:FX P w K mg base A outer s H)(hf:H f=some (AX f (kla_obj name qual params body scope cl pm c' ctv)))(hcd:H c'=some (AX c' oc))(hoc:∃vs t,oc.data=.fields vs/\vs[1]?=some (.str qual t))
 (hC:∀c o,C.lookup c=some o->H c=some (AX c o))(hcl:∀x c,cl.lookup x=some c->∃o v,C.lookup c=some o/\o.data=.cell v)(S:Il N xs ps scope cl)
 (hcap:∀(i:Nat) (x:Str) (v:V),xs[i]?=some x->cvs[i]?=some v->∃c u o,cl.lookup x=some c/\AA v u/\C.lookup c=some o/\o.data=.cell (some u))
 (hb:bindArgs (PySem.W.kla_fn name qual params body scope cl pm (.ref c') ctv) ⟨us,[]⟩=pure (ps.zip us))(hc:cvs.length=xs.length)(hl:vs.length=ps.length)(r:Aq vs us)
 (hbody:∃t,PE (ib P w K mg base N qual scope f (.ref c') cl A outer s (del H C)) body t/\t (Bs N (cvs++vs)) (del H C) λv H'=>(∀c o,C.lookup c=some o->H' c=none)->Q v (put H' C)) :
 codeAny (model P w) A (.call (.ref f) ⟨us,[]⟩) (CR (Gy P w) outer P w H s Q E) s:=by
 have lim:s.heap.NoLimit:=e0.mod.nolimit.keeps λb o e=>(e0.bs b o e).1;have at_:∀{a:Addr}{o:Obj},H a=some (AX a o)->s.heap.get? a=some o:=λ{a o} e=>(e0.hok a _ e).1;have hrec:s.heap.CodeRec (.ref c') qual:=by
  obtain⟨vs,t,h1,h2⟩:=hoc;exact⟨c',oc,vs,t,rfl,at_ hcd,h1,h2⟩
 have e1:FX P w K mg base A outer s (del H C):=by
  have dn:∀b,H b=none->del H C b=none:=λb e=>by
   cases q:C.lookup b with
   |none=>rw[Be q];exact e
   |some o=>exact CP q
  exact⟨e0.frames,e0.mod,λb o e=>⟨(e0.bs b o e).1,dn b (e0.bs b o e).2⟩,e0.bsz,e0.funs,λb hb=>dn b (e0.frf b hb),e0.hok.del hC,e0.bare⟩
 obtain⟨t,ht,hq⟩:=hbody;refine PySem.W.kla_callFunE hr.depth (at_ hf) rfl S.co S.gen rfl hrec ?_;rw[hb];refine aJ (wpAny_newFunctionEnv S.nocell (λy hy=>S.par y.1 (dM (a:=y.1) (b:=y.2) hy).1) (λh₁ hns hsb=>⟨lim.fresh _ hsb,?_⟩) S.kind);show codeAny _ _ (.expr body (envX qual scope s.heap.objs.size f (.ref c') cl)) _ _;have hk₁:∀b o,s.heap.get? b=some o->h₁.get? b=some o:=λb o e=>hsb.extBut b o (aQ (aK e)) (aC _ e);have I:Ae (ib P w K mg base N qual scope f (.ref c') cl A outer s (del H C)) [] (Bs N (cvs++vs)) (del H C) {s with heap:=h₁,toks:=s.toks+(ps.zip us).length}:=by
  refine VZ S hr.hd e1 hc hl r (λi x v h1 h2=>?_) (λx c h=>?_) hns hk₁
  ·obtain⟨c,u,o,e1,e2,e3,e4⟩:=hcap i x v h1 h2;exact⟨c,u,e1,e2,o,at_ (hC c o e3),e4⟩
  obtain⟨o,v,e3,e4⟩:=hcl x c h;exact⟨⟨v,o,at_ (hC c o e3),e4⟩,CP e3⟩
 refine PySem.W.kla_codeExpr (bN (ht [] _ _ _ _ I hq) (λu s' ⟨v,H',J,rv,q⟩=>?_) λ_ _ z=>z.elim);have nf:∀c o,C.lookup c=some o->c∉Dw outer:=λc o e z=>by have:=e0.frf c z;rw[hC c o e]at this;cases this
 have J1:Un (Dw outer) [] (del H C) H' s.heap s'.heap:=J.base;exact⟨v,put H' C,J.os,J.bare,Un.back J1 hC,J.hok.put λc o e=>⟨J1.free c o (at_ (hC c o e)) (CP e) (by simp),J1.keep c o (at_ (hC c o e)) (CP e) (nf c o e) (by simp)⟩,rv,q λc o e=>J1.free c o (at_ (hC c o e)) (CP e) (by simp)⟩
theorem Nk:∀{l:List (Str×NameKind)}{cs:Cq},(∀y∈l,y.2=.free->∃c,env.cells.lookup y.1=some c)->∃cl:List (Str×Addr),(forIn l cs λy r=>(if (y.2== .free)=true then(do let c ←cellOf env y.1;pure (ForInStep.yield ((y.1,c)::r))) else(pure (ForInStep.yield r):Sem _)))=(pure cl:Sem _)/\
 (∀p∈cl,p∈cs\/env.cells.lookup p.1=some p.2)/\(∀p∈cs,p∈cl)/\∀y∈l,y.2=.free->∃c,(y.1,c)∈cl
 |[],cs,_=>⟨cs,rfl,λp hp=>.inl hp,λp hp=>hp,λy hy=>by simp at hy⟩
 |(n,k)::l,cs,h=>by
  rw[fA];by_cases hk:k=.free
  ·obtain⟨c,hc⟩:=h (n,k) aF hk;obtain⟨cl,e,h1,h2,h3⟩:=Nk (cs:=(n,c)::cs) λy hy=>h y (aD _ hy);refine⟨cl,?_,λp hp=>?_,λp hp=>h2 p (aD _ hp),λy hy hf=>?_⟩
   ·have e1:cellOf env n=pure c:=by unfold cellOf;rw[show env.cells.lookup n=some c from hc]
    simp only[hk,beq_self_eq_true,if_true,e1,pure_bind];exact e
   ·rcases h1 p hp with z|z
    ·rcases aH.mp z with rfl|z
     ·exact .inr hc
     exact .inl z
    exact .inr z
   rcases aH.mp hy with rfl|hy
   ·exact⟨c,h2 _ aF⟩
   exact h3 y hy hf
  obtain⟨cl,e,h1,h2,h3⟩:=Nk (cs:=cs) λy hy=>h y (aD _ hy);refine⟨cl,?_,h1,h2,λy hy hf=>?_⟩
  ·have hb:(k ==NameKind.free)=false:=by cases k<;>first|rfl|(exact absurd rfl hk)
   simp only[hb,Bool.false_eq_true,if_false,pure_bind];exact e
  rcases aH.mp hy with rfl|hy
  ·exact absurd hf hk
  exact h3 y hy hf
theorem GF{α:Type}:∀{l:List (Str×α)}{x:Str}{c:α},(x,c)∈l->∃c',l.lookup x=some c'
 |[],_,_,h=>by simp at h
 |(a,b)::l,x,c,h=>by
  rw[bY];by_cases e:x ==a
  ·rw[e];exact⟨b,rfl⟩
  have e:(x ==a)=false:=by simpa using e
  rw[e];rcases aH.mp h with z|z
  ·cases z;simp at e
  exact GF z
def NC(h:∀y∈scope.names,y.2=.free->∃c,env.cells.lookup y.1=some c):∃cl,closureFor scope env=pure cl/\(∀p∈cl,env.cells.lookup p.1=some p.2)/\∀x,scope.names.lookup x=some .free->∃c,cl.lookup x=some c:=by
 obtain⟨cl,e,h1,_,h3⟩:=Nk (cs:=[]) h;refine⟨cl,?_,λp hp=>?_,λx hx=>?_⟩
 ·unfold closureFor;simp only[pure_bind];have:(forIn scope.names ([]:Cq) λy r=>(if (y.2== .free)=true then(do let c ←cellOf env y.1;pure (ForInStep.yield ((y.1,c)::r))) else(pure (ForInStep.yield r):Sem _)))=pure cl:=e;rw[show(λx __s=>_)=(λy r=>(if (y.2== .free)=true then(do let c ←cellOf env y.1;pure (ForInStep.yield ((y.1,c)::r))) else(pure (ForInStep.yield r):Sem _))) from ?_,this,pure_bind]
  funext y r
  rfl
 ·rcases h1 p hp with z|z
  ·simp at z
  exact z
 obtain⟨c,hc⟩:=h3 (x,.free) (PySem.mem_of_lookup hx) rfl;exact GF hc
def Mn(H:Hp)(qual:Str)(pos:Pos)(ps:Array Value):Prop:=TriplesOk ps.toList/\(codeAmong pos ps.toList=none\/E4 λc' oc vs t=>A4 (codeAmong pos ps.toList=some (.ref c')) (H c'=some (AX c' oc)) (oc.data=.fields vs) (vs[1]?=some (.str qual t)))
section
def ae(I:Ae X pins σ H s)(hdef:defaultsOf params X.env=([],[]))(hfree:∀y∈scope.names,y.2=.free->∃c,X.env.cells.lookup y.1=some c)
 (hcode:X.env.code=.ref c)(Cd:CodeHd X.base c P)(hP:H P=some (.tbl ps))(ht:Mn H (X.env.qual++ "<lambda>") pos ps)(hbm:X.base.BuiltinsAt X.mg P)(hg:X.base.Ns mainGlobals X.mg)(hgP:mainGlobals≠P)
 (q:∀f c' oc ctv cl H' s' ps',Ae X pins σ H' s'->(∀b u,H b=some u->b≠P->H' b=some u)->H f=none->H' P=some (.tbl ps')->Mn H' (X.env.qual++ "<lambda>") pos ps'->
   H' f=some (AX f (kla_obj "<lambda>" (X.env.qual++ "<lambda>") params body scope cl ((X.mg "__name__").getD .none) c' ctv))->H' c'=some (AX c' oc)->(∃vs t,oc.data=.fields vs/\vs[1]?=some (.str (X.env.qual++ "<lambda>") t))->closureFor scope X.env=pure cl->
   (∀p∈cl,X.env.cells.lookup p.1=some p.2)->(∀x,scope.names.lookup x=some .free->∃c,cl.lookup x=some c)->Q (.ref f) s') :
 wpAny (model X.prog X.w) X.A (eval (.Lambda params body scope pos) X.env) Q X.xe s:=by
 obtain⟨cl,hcl,k1,k2⟩:=NC hfree;have hPh:=I.hok P _ hP;have hb:s.heap.BuiltinsAt X.mg P:=by
  obtain⟨bm,o,b1,b2,b3,b4,b5,b6⟩:=hbm;exact⟨bm,o,b1,b2,b3,b4,I.bk _ _ b5,b6⟩
 refine PySem.W.kla_eval hdef ?_;rcases ht with⟨t1,t2|⟨c',oc,vs,t,t2,t3,t4,t5⟩⟩
 ·refine PySem.W.kla_makeFunction hcl I.ok.glob (hg.keeps I.bk) hcode (Cd.keeps I.bk) hPh t1 t2 hgP hb λc' ctv h' tk hx hge hlt hrec htb=>?_;obtain⟨c₂,oc,vs,t,e2,hoc,hd,hv⟩:=hrec;cases e2;have hne:∀b,(∃u,H b=some u)->b≠c'/\b≠h'.objs.size:=λb ⟨u,e⟩=>⟨aQ (aO (I.hok.lt e) hge),aQ (aO (I.hok.lt e) (eP (fG hge hlt)))⟩;have hf0:=I.hok.fresh (eP (fG hge hlt));have hcf:=aQ hlt;have hPc:=hne P ⟨_,hP⟩;have H'P:∀{o1 o2:HO},upd (upd (upd H P (.tbl (ps++ #[rawInt pos.line,rawInt pos.col,.ref c']))) c' o1) h'.objs.size o2 P=some (.tbl (ps++ #[rawInt pos.line,rawInt pos.col,.ref c'])):=λ{o1 o2}=>by rw[Aa hPc.2,Aa hPc.1,Ab]
  have H'o:∀{o1 o2:HO}{b:Addr}{u:HO},H b=some u->b≠P->upd (upd (upd H P (.tbl (ps++ #[rawInt pos.line,rawInt pos.col,.ref c']))) c' o1) h'.objs.size o2 b=some u:=λ{o1 o2 b u} e n=>by
   have:=hne b ⟨u,e⟩;rw[Aa this.2,Aa this.1,Aa n];exact e
  have kp:∀b o,b≠P->s.heap.get? b=some o->(h'.push (kla_obj "<lambda>" (X.env.qual++ "<lambda>") params body scope cl ((X.mg "__name__").getD .none) c' ctv)).get? b=some o:=λb o n e=>aC _ (hx b o n e);have nP:∀b,H b=none->b≠P:=λb e z=>by rw[z,hP]at e;cases e
  refine q h'.objs.size c' oc ctv cl (upd (upd (upd H P (.tbl (ps++ #[rawInt pos.line,rawInt pos.col,.ref c']))) c' (AX c' oc)) h'.objs.size (AX h'.objs.size (kla_obj "<lambda>" (X.env.qual++ "<lambda>") params body scope cl ((X.mg "__name__").getD .none) c' ctv))) _ (ps++ #[rawInt pos.line,rawInt pos.col,.ref c'])
   (I.un ⟨λb o e n _ _=>kp b o (nP b n) e,λb o e n _ _=>⟨o.slots,kp b o (nP b n) e⟩,λb o e n _=>?_,λb o e _=>?_,λb xs e=>H'o e (λz=>by rw[z,hP]at e;cases e),λb o xs e=>H'o e (λz=>by rw[z,hP]at e;cases e),λb qs e=>?_⟩ λb u e=>?_)
   (λb u e n=>H'o e n) hf0 H'P ⟨?_,.inr ⟨c',oc,vs,t,?_,by rw[Aa hcf,Ab],hd,hv⟩⟩ Ab (by rw[Aa hcf,Ab]) ⟨vs,t,hd,hv⟩ hcl k1 k2
  ·have lt:=aK e;rw[Aa (aQ (aO lt (eP (fG hge hlt)))),Aa (aQ (aO lt hge)),Aa (nP b n)];exact n
  ·by_cases hbP:b=P
   ·subst hbP;exact⟨_,aC _ htb⟩
   exact⟨o,kp b o hbP e⟩
  ·by_cases hbP:b=P
   ·subst hbP;rw[hP]at e;cases e;exact⟨_,H'P⟩
   exact⟨#[],by rw[H'o e hbP];simp⟩
  ·by_cases b1:b=h'.objs.size
   ·subst b1;rw[Ab]at e;cases e;exact⟨aV _ rfl,_,aV _ rfl⟩
   rw[Aa b1]at e;by_cases b2:b=c'
   ·subst b2;rw[Ab]at e;cases e;exact⟨aC _ hoc,_,aC _ hoc⟩
   rw[Aa b2]at e;by_cases b3:b=P
   ·subst b3;rw[Ab]at e;cases e;exact aC _ htb
   rw[Aa b3]at e;refine(I.hok b u e).stay (λc v hc r=>kp c v (λz=>?_) r) (λc r=>H'o r λz=>by rw[z,hP]at r;cases r) λc xs r=>H'o r λz=>by rw[z,hP]at r;cases r
   rcases hc with hc|hc
   ·exact b3 (hc▸z)
   rw[z,hP]at hc;cases hc
  ·rw[Array.toList_append];exact TriplesOk_snoc _ _ _ _ t1
  rw[Array.toList_append];exact codeAmong_snoc _ t1 t2
 refine PySem.W.kla_makeFunctionHit hcl I.ok.glob (hg.keeps I.bk) hcode (Cd.keeps I.bk) hPh t1 t2 hb λctv h' tk hk hsz=>?_;have hf0:=I.hok.fresh hsz;have H'o:∀{o2:HO}{b:Addr}{u:HO},H b=some u->upd H h'.objs.size o2 b=some u:=λ{o2 b u} e=>by rw[Aa (Am e hf0)];exact e
 refine q h'.objs.size c' oc ctv cl (upd H h'.objs.size (AX h'.objs.size (kla_obj "<lambda>" (X.env.qual++ "<lambda>") params body scope cl ((X.mg "__name__").getD .none) c' ctv))) _ ps
  (I.laid (λb o e=>aC _ (hk b o e)) hsz ⟨aV _ rfl,_,aV _ rfl⟩) (λb u e _=>H'o e) hf0 (H'o hP) ⟨t1,.inr ⟨c',oc,vs,t,t2,H'o t3,t4,t5⟩⟩ Ab (H'o t3) ⟨vs,t,t4,t5⟩ hcl k1 k2
end
structure Uc where
 qual:Str
 params:Arguments
 body:Expr
 scope:Scope
 xs:List Str
 ps:List Str
abbrev lamO(l:Uc)(cl:List (Str×Addr))(pm:Value)(c':Addr)(ctv:Value):Obj:=kla_obj "<lambda>" l.qual l.params l.body l.scope cl pm c' ctv
structure QA(l:Uc)(oc:Obj)(cl:List (Str×Addr))(C:List (Addr×Obj))(cvs:List V):Prop where
 code:∃vs t,oc.data=.fields vs/\vs[1]?=some (.str l.qual t)
 cells:∀x c,cl.lookup x=some c->∃o v,C.lookup c=some o/\o.data=.cell v
 sc:Il (l.xs++l.ps) l.xs l.ps l.scope cl
 cap:∀(i:Nat) (x:Str) (v:V),l.xs[i]?=some x->cvs[i]?=some v->∃c u o,cl.lookup x=some c/\AA v u/\C.lookup c=some o/\o.data=.cell (some u)
 len:cvs.length=l.xs.length
 all:∀c o,C.lookup c=some o->∃v,o.data=.cell v
structure KQ(l:Uc)(H:Hp)(f c':Addr)(oc:Obj)(pm ctv:Value)(cl:List (Str×Addr))(C:List (Addr×Obj)):Prop where
 fn:H f=some (AX f (lamO l cl pm c' ctv))
 cd:H c'=some (AX c' oc)
 cs:∀c o,C.lookup c=some o->H c=some (AX c o)
def KQ.same(x:KQ l H f c' oc pm ctv cl C)(s:An H H'):KQ l H' f c' oc pm ctv cl C:=⟨s _ _ x.fn,s _ _ x.cd,λc o e=>s _ _ (x.cs c o e)⟩
def gm(l:Uc):Prop:=∀(cl:List (Str×Addr)) (pm cdv ctv:Value) (us:List Value),us.length=l.ps.length->bindArgs (PySem.W.kla_fn "<lambda>" l.qual l.params l.body l.scope cl pm cdv ctv) ⟨us,[]⟩=pure (l.ps.zip us)
def jc(l:Uc)(i:Nat)(ta:TA)(tb:TE):TE:=λσ H Q=>E8 λf c' oc pm ctv cl C cvs=>A3 (σ[i]?=some (some (.ref f))) (QA l oc cl C cvs) (ta σ H λvs H1=>KQ l H1 f c' oc pm ctv cl C/\vs.length=l.ps.length/\tb (Bs (l.xs++l.ps) (cvs++vs)) (del H1 C) λr H'=>(∀c o,C.lookup c=some o->H' c=none)->Q r (put H' C))
def Vu{i j:Nat}{x:Str}(hN:X.N[i]?=some x)(hv:QI X.env.scope x)(hd:(x ==("__debug__" :Str))=false)(hcd:(x ==("__classdict__" :Str))=false)(hr:Ba (j+1) X.A)(hB:gm l)
 (hb:∀f c' cl A outer s H,Il (l.xs++l.ps) l.xs l.ps l.scope cl->Ba j (A.deeper (envX l.qual l.scope s.heap.objs.size f (.ref c') cl))->PE (ib X.prog X.w X.K X.mg X.base (l.xs++l.ps) l.qual l.scope f (.ref c') cl A outer s H) l.body tb)
 (ha:PA X (e::es) ta)(he:starEach (e::es) X.env=(false,eval e X.env)::starEach es X.env)(hpl:(backTo pos (starEach es X.env)).any (·.1)=false):PE X (.Call (.Name x p) (e::es) [] pos) (jc l i ta tb):=by
 intro pins s σ H Q I ⟨f,c',oc,pm,ctv,cl,C,cvs,hσ,kk,h⟩;refine bS (Bg (Gi hN hv hd hcd pins s σ H (λv H'=>v=.ref f/\H'=H) I ⟨_,hσ,rfl,rfl⟩) λu s1 ⟨v,H1,I1,rv,ev,eH⟩=>?_);subst ev eH;obtain rfl:u=Value.ref f:=rv;have key:wpAny (model X.prog X.w) X.A (spliced (backTo pos (starEach (e::es) X.env))) (λus s2=>s2.heap.get? f=some (lamO l cl pm c' ctv)/\wpAny (model X.prog X.w) X.A (call (.ref f) ([]++us)) (EP X pins σ Q) X.xe s2) X.xe s1:=by
  refine Bg (ha pos pins s1 σ H1 _ I1 h) λus s2 ⟨vs,H2,I2,r,lh,hl,hq⟩=>⟨(I2.hok f _ lh.fn).1,?_⟩;refine cO (cA (VG (E:=λ_ _ _=>False) (Q:=Q) hr I2.env0 lh.fn lh.cd kk.code lh.cs kk.cells kk.sc kk.cap (hB _ _ _ _ us (by rw[←r.length];exact hl)) kk.len hl r ⟨tb,hb f c' cl X.A X.stack s2 _ kk.sc (hr.deeper _),hq⟩) λrs s' hq=>?_)
  match rs,hq with
  |.ok (.ret u),hq=>exact I2.after hq
  |.ok .next,hq=>exact hq.elim
  |.ok .brk,hq=>exact hq.elim
  |.ok .cont,hq=>exact hq.elim
  |.error e,hq=>
   obtain⟨a,H',_,_,_,_,_,_,z⟩:=hq;exact z.elim
 show wpAny (model X.prog X.w) X.A (callWith pos (.ref f) [] (backTo pos (starEach (e::es) X.env)) []) _ _ _;rw[he]at key ⊢;exact PySem.W.callWith_of (P:=λh=>h.get? f=some (lamO l cl pm c' ctv)) (by show((false||(backTo pos (starEach es X.env)).any (·.1))||false)=false;rw[hpl];rfl)
  (λh z=>PySem.W.keeps_K (K:=[(f,lamO l cl pm c' ctv)]) (by unfold keepIn;simp[List.lookup]) h (λb o e=>by
    rw[bY]at e;split at e
    ·rename_i hb;obtain rfl:=aI.mp hb;cases e;exact z
    cases e)) (eU key)
structure JA(X:Cx)(H:Hp)(s:Shared)(C:List (Addr×Obj)):Prop where
 at_:∀c o,C.lookup c=some o->H c=none/\s.heap.get? c=some o
 up:∀c o,C.lookup c=some o->X.s₀.heap.objs.size<=c/\c≠X.env.locals
 cl:∀c o,C.lookup c=some o->∃v,o.data=.cell v
def JA.nf(I:Ae X pins σ H s)(cs:JA X H s C):∀c o,C.lookup c=some o->c∉Dw X.stack:=λc o e z=>by
 obtain⟨h1,h2⟩:=cs.up c o e;rcases aH.mp (I.stkSub c z) with q|q
 ·exact h2 q
 obtain⟨_,ob,ho,_⟩:=I.ok.funs.mem q;exact absurd (aO (aK ho) h1) (bJ _)
theorem JA.env0(I:Ae X pins σ H s)(cs:JA X H s C):FX X.prog X.w X.K X.mg X.base X.A X.stack s (put H C):=by
 have e0:=I.env0;refine⟨e0.frames,e0.mod,λb o e=>⟨(e0.bs b o e).1,?_⟩,e0.bsz,e0.funs,λb hb=>?_,e0.hok.put cs.at_,e0.bare⟩
 ·cases q:C.lookup b with
  |none=>rw[Bq q];exact(e0.bs b o e).2
  |some o'=>exact absurd (aO (aK e) (b9 I.ok.bsz (cs.up b o' q).1)) (bJ _)
 cases q:C.lookup b with
 |none=>rw[Bq q];exact e0.frf b hb
 |some o'=>exact absurd hb (cs.nf I b o' q)
def UM{k:Nat}(F:DB X.prog X.w X.K X.mg X.base (Gy X.prog X.w) k f fd ps sp)(hr:Ba k X.A)(hb:CB X.K fd ps [])
 (hx:∀H s e s',Ae X pins σ H s->Gy X.prog X.w X.stack H s E e s'->X.xe e s')(I:Ae X pins σ H s)(cs:JA X H s C)(r:Aq vs us)
 (h:sp vs (put H C) (λv H'=>(∀c o,C.lookup c=some o->H' c=some (AX c o))->Q v (del H' C)) λe n H'=>(∀c o,C.lookup c=some o->H' c=some (AX c o))->E e n (del H' C)):wpAny (model X.prog X.w) X.A (call (.ref f) us) (EP X pins σ Q) X.xe s:=by
 have hl:(us++ []).length=ps.length:=by rw[bE,←r.length];exact F.len _ _ _ _ h
 have hb2:=hb s us I.kIn hl;rw[bE]at hb2;refine cO (cA (F.run X.A X.stack s (put H C) ⟨us,[]⟩ us vs _ _ hr (cs.env0 I) hb2 r h) λrs s' hq=>?_)
 match rs,hq with
 |.ok (.ret u),hq=>
  obtain⟨v,H',os,bare,un,hok,rv,q⟩:=hq;have n': ∀c o,C.lookup c=some o->H' c=some (AX c o):=λc o e=>un.frzs c o _ (DT e);have q:=q n';exact I.after ⟨v,del H' C,os,bare,un.forth cs.at_ hok n' (cs.nf I),hok.del n',rv,q⟩
 |.ok .next,hq=>exact hq.elim
 |.ok .brk,hq=>exact hq.elim
 |.ok .cont,hq=>exact hq.elim
 |.error e,hq=>
  obtain⟨a,H',rfl,os,bare,un,hok,⟨Cc,d,t,T,rest,sl,oT,ts,a1,a2,a3,a4,a5,a6,a7,a8⟩,q⟩:=hq;have n': ∀c o,C.lookup c=some o->H' c=some (AX c o):=λc o e=>un.frzs c o _ (DT e);have q:=q n';have ha:C.lookup a=none:=by
   cases z:C.lookup a with
   |none=>rfl
   |some o=>
    have e1:=(hok a _ (n' a o z)).1;obtain⟨v,hv⟩:=cs.cl a o z;rw[a2]at e1;cases e1;cases hv
  refine hx H s _ s' I ⟨a,del H' C,rfl,os,bare,un.forth cs.at_ hok n' (cs.nf I),hok.del n',⟨Cc,d,t,T,rest,sl,oT,ts,by rw[Be ha];exact a1,a2,a3,a4,a5,a6,?_,a8⟩,q⟩;cases z:C.lookup T with
  |none=>rw[Be z];exact a7
  |some o=>exact CP z
structure tN(X:Cx)(params:Arguments)(body:Expr)(scope:Scope)(pos:Pos)(P:Addr)(H H':Hp)(f c':Addr)(oc:Obj)(ctv:Value)(cl:List (Str×Addr)):Prop where
 old:∀b u,H b=some u->b≠P->H' b=some u
 new:H f=none
 tab:∃ps',H' P=some (.tbl ps')/\Mn H' (X.env.qual++ "<lambda>") pos ps'
 fn:H' f=some (AX f (kla_obj "<lambda>" (X.env.qual++ "<lambda>") params body scope cl ((X.mg "__name__").getD .none) c' ctv))
 cd:H' c'=some (AX c' oc)
 code:∃vs t,oc.data=.fields vs/\vs[1]?=some (.str (X.env.qual++ "<lambda>") t)
 sub:∀p∈cl,X.env.cells.lookup p.1=some p.2
 has:∀x,scope.names.lookup x=some .free->∃c,cl.lookup x=some c
def Ra(X:Cx)(params:Arguments)(body:Expr)(scope:Scope)(pos:Pos)(P:Addr):TE:=λ_ H Q=>∃ps,H P=some (.tbl ps)/\Mn H (X.env.qual++ "<lambda>") pos ps/\∀H' f c' oc ctv cl,tN X params body scope pos P H H' f c' oc ctv cl->Q (.ref f) H'
def Zz(hdef:defaultsOf params X.env=([],[]))(hfree:∀y∈scope.names,y.2=.free->X.env.kindOf y.1=some .cell)(hcode:X.env.code=.ref c)(Cd:CodeHd X.base c P)(hbm:X.base.BuiltinsAt X.mg P)(hgP:mainGlobals≠P):PE X (.Lambda params body scope pos) (Ra X params body scope pos P):=by
 intro pins s σ H Q I ⟨ps,hP,ht,q⟩;exact ae I hdef (λy hy e=>I.ok.has y.1 (.inl (hfree y hy e))) hcode Cd hP ht hbm I.mod.glob hgP λf c' oc ctv cl H' s' ps' I' h1 h2 h3 h4 h5 h6 h7 h8 h9 h10=>⟨.ref f,H',I',rfl,q H' f c' oc ctv cl ⟨h1,h2,⟨ps',h3,h4⟩,h5,h6,h7,h9,h10⟩⟩
def mZ(K:Frag)(Dn:Io)(σ:St)(a C:Addr)(H:Hp):List (Nat×Addr×TS)->Prop
 |[]=>False
 |(i,D,th)::r=>(mroIn K C (.ref D)=some true/\th {nx:=λσ2 H2=>Dn.nx (σ2.set i none) H2,rt:=Dn.rt,bk:=λσ2 H2=>Dn.bk (σ2.set i none) H2,ct:=λσ2 H2=>Dn.ct (σ2.set i none) H2} (σ.set i (some (.ref a))) H)\/
  (mroIn K C (.ref D)=some false/\mZ K Dn σ a C H r)
def iQ(K:Frag)(ths:List (Nat×Addr×TS))(tb:(St->Addr->Hp->Prop)->TS):TS:=λDn σ H=>
 tb (λσ' a H'=>∃C d,H' a=some (CO a C d)/\mZ K Dn σ' a C H' ths) Dn σ H
def ig(X:Cx)(hs:List ExceptHandler)(ths:List (Nat×Addr×TS)):Prop:=
 ∀(pins:List (Addr×Obj)) (s:Shared) (σ:St) (H:Hp) (a C:Addr) (d:Option Addr) (Dn:Io),Ae X pins σ H s->tK X pins H s.heap a C d->mZ X.K Dn σ a C H ths->wpAny (model X.prog X.w) X.A (handleBy (.ref a) X.env hs) (SP X pins Dn) X.xe s
section
def Vb:ig X hs []:=λ_ _ _ _ _ _ _ _ _ _ h=>h.elim
def R8{n x:Str}{i:Nat}
 (hN:X.N.Nodup)(hi:X.N[i]?=some n)(hl:X.env.scope.names.lookup n=some .local)(hg:Gl X x)(hm:X.mg x=some (.ref D))
 (hD:typeIn X.K (.ref D)=some (.type "type"))(hcl:(clsIn X.K D).isSome=true)(hB:mroIn X.K D (.type "BaseException")=some true)
 (hs1:∀a,Df (X.hdl a) (b₀::suite) th)(hr:ig X hs ths)(hdb:(x ==("__debug__" :Str))=false:=by decide) :
 ig X (.ExceptHandler (some (.Name x tpos)) (some n) (b₀::suite) hpos::hs) ((i,D,th)::ths):=by
 intro pins s σ H a C d Dn I3 raw h;have raw':=raw;obtain⟨t,T,rest,sl,oT,ts,ha,q,_⟩:=raw';refine wpAny_handleBy_cons (codeAny_handlers_test (Cp (X:=X.hdl a) I3.hdl hg hm ?_ hdb)) (by intro q;cases q);rcases h with⟨hmr,hth⟩|⟨hmr,hrest⟩
 ·refine NS I3.kIn q rfl hD hcl hB hmr ?_;refine codeAny_handlers_suite_as ?_;refine LO I3 raw λs4 I4=>?_;refine F0 (X:=X.hdl a) (v:=.ref a) I4.hdl hN hi (.inl hl) rfl (λs5 I5=>?_) (.inr hl);refine bN (hs1 a pins s5 _ H _ I5 hth) (λf s6 hf=>?_) λ_ _ z=>z.elim;cases f with
  |next=>
   obtain⟨σ2,H2,I6,q6⟩:=hf;exact ED (I6.back I3.ok) hN hi hl λs7 I7=>⟨_,H2,I7,q6⟩
  |brk=>
   obtain⟨σ2,H2,I6,q6⟩:=hf;exact ED (I6.back I3.ok) hN hi hl λs7 I7=>⟨_,H2,I7,q6⟩
  |cont=>
   obtain⟨σ2,H2,I6,q6⟩:=hf;exact ED (I6.back I3.ok) hN hi hl λs7 I7=>⟨_,H2,I7,q6⟩
  |ret u=>
   obtain⟨v,σ2,H2,I6,rv,q6⟩:=hf;exact ED (I6.back I3.ok) hN hi hl λs7 I7=>⟨v,_,H2,I7,rv,q6⟩
 refine NS I3.kIn q rfl hD hcl hB hmr ?_;exact hr pins s σ H a C d Dn I3 raw hrest
def UY(hsk:X.stack=X.env::X.outer)(hfe:X.env.frame=some X.env.locals)
 (hb:∀RX pn E',B2 (X.tr pn E') RX->Df (X.tr pn E') body (tb RX))(hh:ig X (h₀::hs) ths):PS X (.Try body (h₀::hs) [] [] pos) (iQ X.K ths tb):=by
 intro pins s σ H Dn I h;refine wpAny_Try_except ?_;refine bN (hb _ (X.pn++pins) (λe s₁=>wpAny (model X.prog X.w) X.A (noteFrame e X.env) (λ_ s₂=>wpAny (model X.prog X.w) X.A (setFlight e none) (λ_ s₃=>wpAny (model X.prog X.w) X.A (handleBy e X.env (h₀::hs)) (SP X pins Dn) X.xe s₃) X.xe s₂) X.xe s₁) ?_ [] s σ H Dn I.tr h) (λf s1 hf=>?_) λ_ _ z=>z
 ·intro pins' σ1 H1 s1 e s' I1 hc;have J1:=I1.untr I.ok;obtain⟨a,_,rfl,_⟩:=id hc;refine dz J1 hsk hfe I.ok.frames hc λs3 H3 C d I3 raw hE=>?_;obtain⟨a',ea,C',d',hC',hth⟩:=hE;cases ea;have raw':=raw;obtain⟨t,T,rest,sl,oT,ts,ha,q,_⟩:=raw';have eC:C'=C:=by
   have z1:=OQ (P:=X.prog) (w:=X.w) (I3.hok a _ hC');obtain⟨_,_,_,z⟩:=z1;rw[q]at z;cases z;rfl
  subst eC;exact hh pins s3 σ1 H3 a _ d Dn I3 raw hth
 cases f with
 |next=>
  obtain⟨σ2,H2,I6,q6⟩:=hf;exact fY ⟨σ2,H2,I6.untr I.ok,q6⟩
 |brk=>
  obtain⟨σ2,H2,I6,q6⟩:=hf;exact⟨σ2,H2,I6.untr I.ok,q6⟩
 |cont=>
  obtain⟨σ2,H2,I6,q6⟩:=hf;exact⟨σ2,H2,I6.untr I.ok,q6⟩
 |ret u=>
  obtain⟨v,σ2,H2,I6,rv,q6⟩:=hf;exact⟨v,σ2,H2,I6.untr I.ok,rv,q6⟩
end
def NR(h:Heap)(mg:Str->Option Value):Prop:=E2 λbm o=>A6 (mg "__builtins__"=some (.ref bm)) (bm≠builtinsNs) (h.get? bm=some o) (o.cls=.type "module") (o.dict=some builtinsNs) (o.data=.plain)
def Qb{K:Fq}{TS:List (Addr×Array Value)}{k:Nat}{x:Str}{s₁:Shared}{vs:List Value}{ns:List Int}
 (KX:K.In s₁.heap)(hns:s₁.heap.Ns mainGlobals mg)(hb:s₁.heap.Ns builtinsNs mb)(hbb:∀x:Str,x≠ "__name__"->mb x=bootBuiltins x)(hlim:s₁.heap.NoLimit)(hg:s₁.gens=#[])
 (ha:s₁.heap.get? a=some {cls:=.type "list",data:=.seq vs.toArray})(hi:IntsAre vs ns)(hl:ns.length<=sizeLine)(hr:Ba k callerA)
 (hT:∀b ps,TS.lookup b=some ps->s₁.heap.get? b=some (PySem.W.tabObj ps)/\isCodeTable s₁.heap b)(hKT:∀b ps,TS.lookup b=some ps->K.lookup b=none)(hbm:NR s₁.heap mg)
 (F:∀base:Heap,K.In base->base.Ns mainGlobals mg->NR base mg->(∀b ps,TS.lookup b=some ps->base.get? b=none)->DB P w K mg base CX k fa fd [x] sp)(hbind:∀s u,BindsTo s fd ⟨[u],[]⟩ [(x,u)])
 (hsp:∀H:Hp,(∀b ps,TS.lookup b=some ps->H b=some (.tbl ps))->D8 K H a (ns.map V.int)->sp [.ref a] H (λv _=>v=.bl true) λ_ _ _=>False)
 (hCX:∀H e s',CX [] H s₁ (λ_ _ _=>False) e s'->False) :
 codeAny (model P w) callerA (.call (.ref fa) ⟨[.ref a],[]⟩) (λr s'=>r=.ok (.ret (.bool true))/\OldK s₁.heap s'.heap/\s'.os=s₁.os/\AllBare s'.gens) s₁:=by
 have rv:=IN hi;have lenV:=hi.length;have hTh:∀b ps,TS.lookup b=some ps->s₁.heap.get? b=some (PySem.W.tabObj ps):=λb ps e=>(hT b ps e).1;have aT:TS.lookup a=none:=by
  cases q:TS.lookup a with
  |none=>rfl
  |some ps=>have:=hTh a ps q;rw[ha]at this;cases this
 have core:∀H:Hp,(∀b,TS.lookup b=none->(H b=none\/∃o xs,H b=some (.frz o (.lst xs))))->(∀b ps,TS.lookup b=some ps->H b=some (.tbl ps))->D8 K H a (ns.map V.int)->D9 P w H s₁.heap->(∀b,H b≠none->b=a\/TS.lookup b≠none)->(H a≠none->K.lookup a=none)->
  codeAny (model P w) callerA (.call (.ref fa) ⟨[.ref a],[]⟩) (λr s'=>r=.ok (.ret (.bool true))/\OldK s₁.heap s'.heap/\s'.os=s₁.os/\AllBare s'.gens) s₁:=by
  intro H hO hOt hS hok hA hK;have base_of:∀{b:Addr}{o:Obj},s₁.heap.get? b=some o->H b=none->(GR s₁.heap H).get? b=some o:=λe n=>SJ e n;have noA:∀{b:Addr}{o:Obj}{es:Array DictEntry}{ep:Nat},s₁.heap.get? b=some o->o.data=.dict es ep->H b=none:=λ{b o es ep} e d=>by
   cases q:H b with
   |none=>rfl
   |some u=>
    rcases hA b (by rw[q];simp) with e'|e'
    ·subst e';rw[ha]at e;cases e;have d':Data.seq vs.toArray _=Data.dict es ep:=d;cases d'
    obtain⟨ps,e2⟩:=gT.mp e';rw[hTh b ps e2]at e;cases e;have d':Data.fields ps=Data.dict es ep:=d;cases d'
  have nsK:∀{b:Addr}{m:Mq},s₁.heap.Ns b m->(GR s₁.heap H).Ns b m:=λ{b m} ⟨o,es,ep,e,d,r⟩=>⟨o,es,ep,base_of e (noA e d),d,r⟩;have hKb:K.In (GR s₁.heap H):=λb o e=>by
   have e1:=e;have e2:TS.lookup b=none:=by
    cases q:TS.lookup b with
    |none=>rfl
    |some ps=>rw[hKT b ps q]at e;cases e
   refine base_of (KX b o e1) ?_;cases q:H b with
   |none=>rfl
   |some u=>
    rcases hA b (by rw[q];simp) with e'|e'
    ·subst e';rw[hK (by rw[q];simp)]at e1;cases e1
    exact absurd e2 e'
  have hM:Mod K mg (GR s₁.heap H):=⟨hKb,nsK hns,⟨mb,nsK hb,hbb⟩,let ⟨mc,h1,h2⟩:=hlim;⟨mc,nsK h1,h2⟩⟩;have e0:FX P w K mg (GR s₁.heap H) callerA [] s₁ H:=⟨rfl,hM,λb o e=>Ou e,gY (Qg _ _),trivial,λb hb=>absurd (show b∈([]:List Addr) from hb) (by simp),hok,.of_eq hg⟩;have hbm':NR (GR s₁.heap H) mg:=by
   obtain⟨bm,o,b1,b2,b3,b4,b5,b6⟩:=hbm;refine⟨bm,o,b1,b2,base_of b3 ?_,b4,b5,b6⟩;cases q:H bm with
   |none=>rfl
   |some u=>
    rcases hA bm (by rw[q];simp) with e'|e'
    ·subst e';rw[ha]at b3;cases b3;cases b6
    obtain⟨ps,e2⟩:=gT.mp e';rw[hTh bm ps e2]at b3;cases b3;cases b6
  have hno:∀b ps,TS.lookup b=some ps->(GR s₁.heap H).get? b=none:=λb ps e=>by
   cases q:(GR s₁.heap H).get? b with
   |none=>rfl
   |some o=>have:=(Ou q).2;rw[hOt b ps e]at this;cases this
  refine cA ((F _ hKb (nsK hns) hbm' hno).run callerA [] s₁ H ⟨[.ref a],[]⟩ [.ref a] [.ref a] _ _ hr e0 (hbind s₁ (.ref a)) (.cons rfl .nil) (hsp H hOt hS)) λr s' h=>?_;cases r with
  |error e=>exact(hCX H e s' h).elim
  |ok fl=>
   cases fl with
   |next=>exact False.elim h
   |brk=>exact False.elim h
   |cont=>exact False.elim h
   |ret u=>
    obtain⟨v,H',os,bare,un,hok',r',q⟩:=h;have q':v=.bl true:=q;subst q';obtain rfl:u=Value.bool true:=r';refine⟨rfl,⟨λb o e=>?_,λb o e=>un.there b o e (by simp)⟩,os,bare⟩;cases qt:TS.lookup b with
    |some ps=>
     have e1:=hTh b ps qt;rw[e]at e1;cases e1;obtain⟨more,e2⟩:=un.tbls b ps (hOt b ps qt);have e3:s'.heap.get? b=some {cls:=.none,data:=.fields (ps++more)}:=hok' b _ e2;exact .inr (.inl ⟨(hT b ps qt).2,rfl,ps,more,rfl,e3⟩)
    |none=>
     rcases hO b qt with z|⟨ob,xs,z⟩
     ·exact .inl (un.keep b o e z (by intro z;exact absurd (show b∈([]:List Addr) from z) (by simp)) (by simp))
     have z2:=un.frzs b ob _ z;obtain⟨e1,_⟩:=hok b _ z;obtain⟨e2,_⟩:=hok' b _ z2;rw[e]at e1;cases e1;exact .inl e2
 cases hk:K.lookup a with
 |some o=>
  have e:=KX a o hk;rw[ha]at e;cases e;refine core (λb=>(TS.lookup b).map HO.tbl) (λb z=>.inl (by rw[z];rfl)) (λb ps z=>by show(TS.lookup b).map HO.tbl=_;rw[z];rfl) (.inr ⟨_,vs.toArray,_,hk,rfl,rfl,rfl,by rw[bB,lenV];exact hl,by simpa using rv⟩) (λb u z=>?_) (λb z=>.inr λq=>z (by show(TS.lookup b).map HO.tbl=none;rw[q];rfl)) λz=>absurd (by show(TS.lookup a).map HO.tbl=none;rw[aT];rfl) z;cases q:TS.lookup b with
  |none=>have z:(TS.lookup b).map HO.tbl=some u:=z;rw[q]at z;cases z
  |some ps=>have z:(TS.lookup b).map HO.tbl=some u:=z;rw[q]at z;cases z;exact hTh b ps q
 |none=>
  refine core (λb=>if b=a then some (.frz {cls:=.type "list",data:=.seq vs.toArray} (.lst (ns.map V.int))) else(TS.lookup b).map HO.tbl) (λb hb0=>?_) (λb ps z=>?_) (.inl (.inr ⟨{cls:=.type "list",data:=.seq vs.toArray},if_pos rfl⟩)) (λb u z=>?_) (λb z=>?_) λ_=>hk
  ·by_cases hb:b=a
   ·exact .inr ⟨_,_,if_pos hb⟩
   exact .inl ((if_neg hb).trans (by rw[hb0];rfl))
  ·have hb:b≠a:=λe=>by rw[e,aT]at z;cases z
   exact(if_neg hb).trans (by rw[z];rfl)
  ·by_cases hb:b=a
   ·have z':=(if_pos hb).symm.trans z;cases z';subst hb;exact⟨ha,by rw[aL];exact hl,vs,_,rv,ha⟩
   have z':=(if_neg hb).symm.trans z;cases q:TS.lookup b with
   |none=>rw[q]at z';cases z'
   |some ps=>rw[q]at z';cases z';exact hTh b ps q
  by_cases hb:b=a
  ·exact .inl hb
  refine .inr λq=>z ((if_neg hb).trans (by rw[q];rfl))
def QR{l:PySem.W.OpenLaw}{n k:Nat}{q:Program}{loose:List Str}{XP:(Str->Option Value)->Heap->Prop}{YP:World->Heap->Prop}{d:DefRec}{K:Params->Frag}{TS:List (Addr×Array Value)}{sp:World->Sp}{x:Str}
 (hn:l.most=some n)(hn2:n<=sizeLine)(hdf:d.params.defaults=[])(hr:Ba k callerA)
 (hY:∀(w:World) (h:Heap),YP w h->(K w.params).In h)
 (hT:∀(w:World) (h:Heap),YP w h->∀b ps,TS.lookup b=some ps->h.get? b=some (PySem.W.tabObj ps)/\isCodeTable h b)(hKT:∀(w:World) b ps,TS.lookup b=some ps->(K w.params).lookup b=none)
 (F:∀(w:World) (mg:Mq) (fa:Addr) (h:Heap),(K w.params).In h->h.Ns mainGlobals mg->mg d.name=some (.ref fa)->
   ∃fd:FuncData,(∀(s:Shared) (u:Value),BindsTo s fd ⟨[u],[]⟩ [(x,u)])/\
    ∀base:Heap,(K w.params).In base->base.Ns mainGlobals mg->NR base mg->(∀b ps,TS.lookup b=some ps->base.get? b=none)->DB l.prog w (K w.params) mg base WU k fa fd [x] (sp w))
 (hsp:∀(w:World) (H:Hp) (a:Addr) (ns:List Int),ns.length<=n->(∀b ps,TS.lookup b=some ps->H b=some (.tbl ps))->D8 (K w.params) H a (ns.map V.int)->sp w [.ref a] H (λv _=>v=.bl true) λ_ _ _=>False) :
 PySem.W.WalkO q loose XP YP l.row.toRowW d [] (λf vs=>PySem.call f vs):=by
 refine Att.attach_call hn hdf λw s₀ s₁ mg mb fa o pm cd doc a vs ns G Y ho hd hcd hmg hobj hints hlen hg=>?_;have KX:=hY w _ Y;obtain⟨fd,hb,hF⟩:=F w mg fa _ KX G.T.g hmg;exact Qb KX G.T.g G.T.b G.T.builtins G.T.nolimit hg hobj hints (b9 hlen hn2) hr (hT w _ Y) (hKT w) (by obtain⟨bm,o,b1,b2,b3,b4,b5,b6⟩:=G.T.bmain;exact⟨bm,o,b1,b2,b3,b4,b5,b6⟩) hF hb (λH hO hS=>hsp w H a ns hlen hO hS) λ_ _ _ z=>z
end L2
namespace B
open PySem L2
open PyProof.Rows hiding St
inductive MV where
 |non|bl (b:Bool)|int (i:Int)|str (x:Str)
 |tup (l:List MV)|lst (l:List MV)|scr (l:List MV)|dic (t:Bool) (ks vs:List MV)
 |obj (c:Nat) (ns:List Nat) (vs:List MV)
 |exc (c n:Nat) (v:MV)
 |cls (c:Nat)|ty (n:Kd)|lam (k:Nat) (cs:List MV)
inductive R where
 |v (m:MV)|r (n:Nat)|l (k:Nat) (ms:List MV)
inductive MO where
 |lst (l:List MV)|ins (c:Nat) (ns:List Nat) (vs:List MV)|gone (m:MV)
abbrev MH:=List MO
abbrev En:=List (Option R)
inductive Aw(α:Type) where
 |ok (a:α) (h:MH)|exc (m:MV) (h:MH)|no
def Aw.bind{α β:Type}(x:Aw α)(k:α->MH->Aw β):Aw β:=match x with
 |.ok a h=>k a h
 |.exc m h=>.exc m h
 |.no=>.no
def Aw.of{α:Type}(x:Option α)(h:MH):Aw α:=match x with
 |some a=>.ok a h
 |none=>.no
structure Wd where
 K:Frag
 ca:Nat->Addr
 nm:Nat->Str
 inj:∀i j,nm i=nm j->i=j
 lamR:Hp->Nat->List V->V->Prop
 lamS:∀{F F':Hp}{k:Nat}{vs:List V}{v:V},An F F'->lamR F k vs v->lamR F' k vs v
 tl:List (Addr×Str×Pos)
def VN:Key->MV
 |.inl i=>.int i
 |.inr x=>.str x
mutual
noncomputable def Ak(W:Wd)(F:Hp):MV->V->Prop
 |.non,v=>v=.non
 |.bl b,v=>v=.bl b
 |.int i,v=>v=.int i
 |.str x,v=>v=.str x
 |.tup l,v=>∃a vs,v=.ref a/\F a=some (.tup vs)/\Ad W F l vs
 |.lst l,v=>∃a vs,v=.ref a/\F a=some (.lst vs)/\Ad W F l vs
 |.scr l,v=>∃a vs,v=.ref a/\D8 W.K F a vs/\Ad W F l vs
 |.dic t ks ms,v=>∃a vs,v=.ref a/\Ad W F ms vs/\((∃kk:List (List Key),t=true/\ks=kk.map (λk=>.tup (k.map VN))/\(∃ob,F a=some (.frz ob (.dT (kk.zip vs))))/\kk.length=vs.length)\/(∃kk:List Key,t=false/\ks=kk.map VN/\(∃ob,F a=some (.frz ob (.dK (kk.zip vs))))/\kk.length=vs.length))
 |.obj c ns ms,v=>E3 λa dx vs=>A5 (v=.ref a) (F a=some (.ins (W.ca c) dx ((ns.map W.nm).zip vs))) (F dx=some (.own a)) (ns.length=vs.length) (Ad W F ms vs)
 |.exc c n m,v=>E3 λa dx u=>A4 (v=.ref a) (F a=some (CO a (W.ca c) (some dx))) (F dx=some (.xd [(W.nm n,u)])) (Ak W F m u)
 |.cls c,v=>v=.ref (W.ca c)
 |.ty n,v=>v=.ty n.nm
 |.lam _ _,_=>False
noncomputable def Ad(W:Wd)(F:Hp):List MV->List V->Prop
 |[],vs=>vs=[]
 |m::ms,vs=>∃v r,vs=v::r/\Ak W F m v/\Ad W F ms r
end
section
def Mo(F F':Hp):Prop:=∀b u,F b=some u->(∀o,u≠AX b o)->F' b=some u
def Mo.seq{K:Fq}{a:Addr}{xs:List V}(s:Mo F F')(h:D8 K F a xs):D8 K F' a xs:=h.imp (λh=>h.imp (λe=>s _ _ e (λo z=>by cases z)) λ⟨o,e⟩=>⟨o,s _ _ e (λo z=>by cases z)⟩) id
mutual
theorem Ak.sameP(s:Mo F F'):∀{m:MV}{v:V},Ak W F m v->Ak W F' m v
 |.non,_,h=>by unfold Ak at h ⊢; exact h
 |.bl _,_,h=>by unfold Ak at h ⊢; exact h
 |.int _,_,h=>by unfold Ak at h ⊢; exact h
 |.str _,_,h=>by unfold Ak at h ⊢; exact h
 |.cls _,_,h=>by unfold Ak at h ⊢; exact h
 |.ty _,_,h=>by unfold Ak at h ⊢; exact h
 |.tup l,_,h=>by
  unfold Ak at h ⊢;obtain⟨a,vs,e,q,r⟩:=h;exact⟨a,vs,e,s _ _ q (λo z=>by cases z),Ad.sameP s r⟩
 |.lst l,_,h=>by
  unfold Ak at h ⊢;obtain⟨a,vs,e,q,r⟩:=h;exact⟨a,vs,e,s _ _ q (λo z=>by cases z),Ad.sameP s r⟩
 |.scr l,_,h=>by
  unfold Ak at h ⊢;obtain⟨a,vs,e,q,r⟩:=h;exact⟨a,vs,e,s.seq q,Ad.sameP s r⟩
 |.dic t ks ms,_,h=>by
  unfold Ak at h ⊢;obtain⟨a,vs,e,r,q⟩:=h;refine⟨a,vs,e,Ad.sameP s r,?_⟩;rcases q with⟨kk,e0,e1,e2,e3⟩|⟨kk,e0,e1,e2,e3⟩
  ·exact .inl ⟨kk,e0,e1,e2.imp λ_ e=>s _ _ e (λo z=>by cases z),e3⟩
  exact .inr ⟨kk,e0,e1,e2.imp λ_ e=>s _ _ e (λo z=>by cases z),e3⟩
 |.obj c ns ms,_,h=>by
  unfold Ak at h ⊢;obtain⟨a,dx,vs,e,h1,h2,h3,r⟩:=h;exact⟨a,dx,vs,e,s _ _ h1 (λo z=>by cases z),s _ _ h2 (λo z=>by cases z),h3,Ad.sameP s r⟩
 |.exc c n m,_,h=>by
  unfold Ak at h ⊢;obtain⟨a,dx,u,e,x,y,r⟩:=h;exact⟨a,dx,u,e,s _ _ x (λo z=>by cases z),s _ _ y (λo z=>by cases z),Ak.sameP s r⟩
 |.lam _ _,_,h=>by unfold Ak at h;exact h.elim
theorem Ad.sameP(s:Mo F F'):∀{ms:List MV}{vs:List V},Ad W F ms vs->Ad W F' ms vs
 |[],_,h=>by unfold Ad at h ⊢; exact h
 |m::ms,_,h=>by
  unfold Ad at h ⊢;obtain⟨v,r,e,h1,h2⟩:=h;exact⟨v,r,e,Ak.sameP s h1,Ad.sameP s h2⟩
end
def Ak.same(s:An F F')(h:Ak W F m v):Ak W F' m v:=Ak.sameP (λb u e _=>s b u e) h
def Ad.same(s:An F F')(h:Ad W F ms vs):Ad W F' ms vs:=Ad.sameP (λb u e _=>s b u e) h
def Ad.nil:Ad W F [] []:=by unfold Ad;rfl
def Ad.cons{m:MV}{ms:List MV}{v:V}{vs:List V}(h:Ak W F m v)(t:Ad W F ms vs):Ad W F (m::ms) (v::vs):=by unfold Ad;exact⟨v,vs,rfl,h,t⟩
theorem Ad.len:∀{ms:List MV}{vs:List V},Ad W F ms vs->ms.length=vs.length
 |[],_,h=>by unfold Ad at h;subst h;rfl
 |m::ms,_,h=>by
  unfold Ad at h;obtain⟨v,r,e,_,h2⟩:=h;subst e;simp[Ad.len h2]
def Ad.nil_iff(h:Ad W F [] vs):vs=[]:=by unfold Ad at h;exact h
def Ad.uncons(h:Ad W F (m::ms) vs):∃v r,vs=v::r/\Ak W F m v/\Ad W F ms r:=by unfold Ad at h;exact h
theorem Ad.app:∀{ms ks:List MV}{vs us:List V},Ad W F ms vs->Ad W F ks us->Ad W F (ms++ks) (vs++us)
 |[],_,_,_,h,t=>by rw[h.nil_iff];exact t
 |m::ms,_,_,_,h,t=>by
  obtain⟨v,r,e,h1,h2⟩:=h.uncons;subst e;exact .cons h1 (Ad.app h2 t)
theorem Ad.get:∀{ms:List MV}{vs:List V}{i:Nat}{m:MV},Ad W F ms vs->ms[i]?=some m->∃v,vs[i]?=some v/\Ak W F m v
 |[],_,_,_,_,e=>by simp at e
 |k::ms,_,0,m,h,e=>by
  obtain⟨v,r,e1,h1,h2⟩:=h.uncons;subst e1;simp at e;subst e;exact⟨v,rfl,h1⟩
 |k::ms,_,i+1,m,h,e=>by
  obtain⟨v,r,e1,h1,h2⟩:=h.uncons;subst e1;obtain⟨u,q1,q2⟩:=Ad.get (i:=i) h2 (by simpa using e);exact⟨u,by simpa using q1,q2⟩
theorem Ad.set(q:Ak W F m v):∀{ms:List MV}{vs:List V}{i:Nat},Ad W F ms vs->Ad W F (ms.set i m) (vs.set i v)
 |[],_,_,h=>by rw[h.nil_iff];exact .nil
 |k::ms,_,0,h=>by
  obtain⟨u,r,e1,h1,h2⟩:=h.uncons;subst e1;exact .cons q h2
 |k::ms,_,i+1,h=>by
  obtain⟨u,r,e1,h1,h2⟩:=h.uncons;subst e1;exact .cons h1 (Ad.set q h2)
theorem Ad.take:∀{ms:List MV}{vs:List V} n,Ad W F ms vs->Ad W F (ms.take n) (vs.take n)
 |_,_,0,_=>by simp;exact .nil
 |[],_,n+1,h=>by rw[h.nil_iff];exact .nil
 |k::ms,_,n+1,h=>by
  obtain⟨u,r,e1,h1,h2⟩:=h.uncons;subst e1;exact .cons h1 (Ad.take n h2)
theorem Ad.drop:∀{ms:List MV}{vs:List V} n,Ad W F ms vs->Ad W F (ms.drop n) (vs.drop n)
 |_,_,0,h=>h
 |[],_,n+1,h=>by rw[h.nil_iff];exact .nil
 |k::ms,_,n+1,h=>by
  obtain⟨u,r,e1,h1,h2⟩:=h.uncons;subst e1;exact Ad.drop n h2
def CD(W:Wd)(F H:Hp)(a:Addr):MO->Prop
 |.lst l=>F a=none/\∃vs,H a=some (.lst vs)/\Ad W F l vs
 |.ins c ns ms=>F a=none/\E2 λdx vs=>A5 (H a=some (.ins (W.ca c) dx ((ns.map W.nm).zip vs))) (H dx=some (.own a)) (F dx=none) (ns.length=vs.length) (Ad W F ms vs)
 |.gone m=>Ak W F m (.ref a)/\∃o,F a=some o/\∀ob,o≠AX a ob
def M7:HO->Prop
 |.tbl _=>True
 |.frz _ _=>True
 |_=>False
def NM(W:Wd)(H:Hp):Prop:=∀t∈W.tl,∃ps,H t.1=some (.tbl ps)/\Mn H t.2.1 t.2.2 ps
def NM.keep(t:NM W H)(k:∀b u,H b=some u->M7 u->H' b=some u):NM W H':=λx hx=>by
 obtain⟨ps,h1,h2,h3⟩:=t x hx;refine⟨ps,k _ _ h1 trivial,h2,h3.imp id λ⟨c',oc,vs,t,a,b,c,d⟩=>⟨c',oc,vs,t,a,k _ _ b trivial,c,d⟩⟩
def NM.upd(t:NM W H)(k:∀u,H p=some u->¬M7 u):NM W (upd H p o):=t.keep λb u e n=>by
 rw[Aa (λz=>by subst z;exact k u e n)];exact e
structure By(W:Wd)(F H:Hp)(ρ:List Addr)(h:MH):Prop where
 sub:An F H
 nd:ρ.Nodup
 len:ρ.length=h.length
 obj:∀(n:Nat) (a:Addr) (m:MO),ρ[n]?=some a->h[n]?=some m->CD W F H a m
 tb:NM W H
 tf:∀t∈W.tl,F t.1=none
def AE(W:Wd)(F:Hp)(ρ:List Addr):R->V->Prop
 |.v m,v=>Ak W F m v
 |.r n,v=>∃a,v=.ref a/\ρ[n]?=some a
 |.l k ms,v=>∃vs,W.lamR F k vs v/\Ad W F ms vs
def AI(W:Wd)(F:Hp)(ρ:List Addr):List R->List V->Prop:=Paired (AE W F ρ)
structure Ep(F:Hp)(ρ:List Addr)(F':Hp)(ρ':List Addr):Prop where
 s:An F F'
 p:ρ <+: ρ'
theorem Ep.refl:Ep F ρ F ρ:=⟨An.refl _,cD _⟩
theorem Ep.trans(a:Ep F ρ F1 ρ1)(b:Ep F1 ρ1 F2 ρ2):Ep F ρ F2 ρ2:=⟨a.s.trans b.s,a.p.trans b.p⟩
def JU{α:Type}{l l':List α}(p:l <+: l'){i:Nat}{x:α}(h:l[i]?=some x):l'[i]?=some x:=by
 obtain⟨t,rfl⟩:=p;rw[aS (aE.mp h).1];exact h
def AE.nxt(n:Ep F ρ F' ρ'):∀{r:R}{v:V},AE W F ρ r v->AE W F' ρ' r v
 |.v m,_,h=>Ak.same n.s h
 |.r k,_,⟨a,e,h⟩=>⟨a,e,JU n.p h⟩
 |.l k ms,_,⟨vs,a,h⟩=>⟨vs,W.lamS n.s a,h.same n.s⟩
theorem AI.nxt(n:Ep F ρ F' ρ')(h:AI W F ρ rs vs):AI W F' ρ' rs vs:=Paired.mapP h λ_ _ q=>AE.nxt n q
structure B1(W:Wd)(F:Hp)(ρ:List Addr)(μ:En)(σ:St):Prop where
 len:μ.length=σ.length
 at_:∀(i:Nat) (r:R),μ[i]?=some (some r)->∃v,σ[i]?=some (some v)/\AE W F ρ r v
theorem B1.nxt(n:Ep F ρ F' ρ')(e:B1 W F ρ μ σ):B1 W F' ρ' μ σ:=⟨e.len,λi r h=>let ⟨v,h1,h2⟩:=e.at_ i r h;⟨v,h1,h2.nxt n⟩⟩
theorem B1.set(e:B1 W F ρ μ σ)(h:AE W F ρ r v)(i:Nat):B1 W F ρ (μ.set i (some r)) (σ.set i (some v)):=by
 refine⟨by simp[e.len],λj q hj=>?_⟩;by_cases hi:i=j
 ·subst hi;rw[dU]at hj;simp at hj;obtain⟨hl,rfl⟩:=hj;refine⟨v,?_,h⟩;rw[dU];simp[←e.len,hl]
 rw[bI hi]at hj;obtain⟨u,h1,h2⟩:=e.at_ j q hj;exact⟨u,by rw[bI hi];exact h1,h2⟩
def B1.setN(e:B1 W F ρ μ σ)(i:Nat):B1 W F ρ (μ.set i none) (σ.set i none):=by
 refine⟨by simp[e.len],λj q hj=>?_⟩;by_cases hi:i=j
 ·subst hi;rw[dU]at hj;simp at hj
 rw[bI hi]at hj;obtain⟨u,h1,h2⟩:=e.at_ j q hj;exact⟨u,by rw[bI hi];exact h1,h2⟩
end
abbrev RX:=St->Addr->Hp->Prop
def Al{α β:Type}(W:Wd)(rep:Hp->List Addr->α->β->Prop)(E:Addr->Hp->Prop)(F:Hp)(ρ:List Addr)(x:Aw α)(Q:β->Hp->Prop):Prop:=
 match x with
 |.ok r h'=>∀F' ρ' H' v,Ep F ρ F' ρ'->By W F' H' ρ' h'->rep F' ρ' r v->Q v H'
 |.exc m h'=>∀F' ρ' H' a,Ep F ρ F' ρ'->By W F' H' ρ' h'->Ak W F' m (.ref a)->E a H'
 |.no=>False
inductive mz{α β:Type}(W:Wd)(rep:Hp->List Addr->α->β->Prop)(F:Hp)(ρ:List Addr)(v:β)(H1:Hp)(P:Hp->List Addr->α->MH->Prop):Prop
 |mk (F1:Hp) (ρ1:List Addr) (r:α) (h1:MH) (n:Ep F ρ F1 ρ1) (S:By W F1 H1 ρ1 h1) (q:rep F1 ρ1 r v) (G:P F1 ρ1 r h1)
theorem Al.bind{α β γ δ:Type}{W:Wd}{rep:Hp->List Addr->α->β->Prop}{rep2:Hp->List Addr->γ->δ->Prop}{E:Addr->Hp->Prop}{F:Hp}{ρ:List Addr}{x:Aw α}{k:α->MH->Aw γ}{Q:δ->Hp->Prop}
 (g:Al W rep2 E F ρ (x.bind k) Q):Al W rep E F ρ x λv H1=>mz W rep F ρ v H1 λF1 ρ1 r h1=>Al W rep2 E F1 ρ1 (k r h1) Q:=by
 cases x with
 |no=>exact g
 |exc m h=>exact g
 |ok r h=>
  intro F1 ρ1 H1 v n s q;refine⟨F1,ρ1,r,h,n,s,q,?_⟩;have g:Al W rep2 E F ρ (k r h) Q:=g;cases e:k r h with
  |no=>rw[e]at g;exact g
  |exc m h2=>rw[e]at g;exact λF2 ρ2 H2 a n2=>g F2 ρ2 H2 a (n.trans n2)
  |ok r2 h2=>rw[e]at g;exact λF2 ρ2 H2 a n2=>g F2 ρ2 H2 a (n.trans n2)
def Al.ret{α β:Type}{W:Wd}{rep:Hp->List Addr->α->β->Prop}{E:Addr->Hp->Prop}{F H:Hp}{ρ:List Addr}{r:α}{h:MH}{Q:β->Hp->Prop}{v:β}(g:Al W rep E F ρ (.ok r h) Q)(s:By W F H ρ h)(q:rep F ρ r v):Q v H:=
 g F ρ H v .refl s q
theorem Al.of{α β:Type}{W:Wd}{rep:Hp->List Addr->α->β->Prop}{E:Addr->Hp->Prop}{F:Hp}{ρ:List Addr}{o:Option α}{h:MH}{Q:β->Hp->Prop}(g:Al W rep E F ρ (Aw.of o h) Q):∃r,o=some r/\Al W rep E F ρ (.ok r h) Q:=by
 cases o with
 |none=>exact False.elim g
 |some r=>exact⟨r,rfl,g⟩
def Al.nxt{α β:Type}{W:Wd}{rep:Hp->List Addr->α->β->Prop}{E:Addr->Hp->Prop}{F F1:Hp}{ρ ρ1:List Addr}{x:Aw α}{Q:β->Hp->Prop}(n:Ep F ρ F1 ρ1)(g:Al W rep E F ρ x Q):Al W rep E F1 ρ1 x Q:=by
 cases x with
 |no=>exact g
 |exc m h=>exact λF2 ρ2 H2 a n2=>g F2 ρ2 H2 a (n.trans n2)
 |ok r h=>exact λF2 ρ2 H2 a n2=>g F2 ρ2 H2 a (n.trans n2)
def Al.imp{α β:Type}{W:Wd}{rep:Hp->List Addr->α->β->Prop}{E:Addr->Hp->Prop}{F:Hp}{ρ:List Addr}{x:Aw α}{Q Q':β->Hp->Prop}(g:Al W rep E F ρ x Q)(i:∀v H,Q v H->Q' v H):Al W rep E F ρ x Q':=by
 cases x with
 |no=>exact g
 |exc m h=>exact g
 |ok r h=>exact λF2 ρ2 H2 a n2 s q=>i _ _ (g F2 ρ2 H2 a n2 s q)
abbrev GE(W:Wd):=Al (α:=R) (β:=V) W (AE W)
abbrev GA(W:Wd):=Al (α:=List R) (β:=List V) W (AI W)
inductive XY(W:Wd)(σ:St)(H:Hp)(P:Hp->List Addr->En->MH->Prop):Prop where
 |mk (F:Hp) (ρ:List Addr) (μ:En) (h:MH) (S:By W F H ρ h) (e:B1 W F ρ μ σ) (G:P F ρ μ h)
def tM(W:Wd)(E:RX)(f:En->MH->Aw R):TE:=λσ H Q=>XY W σ H λF ρ μ h=>GE W (E σ) F ρ (f μ h) Q
def Ip(W:Wd)(E:RX)(f:En->MH->Aw (List R)):TA:=λσ H Q=>XY W σ H λF ρ μ h=>GA W (E σ) F ρ (f μ h) Q
def Gb(W:Wd)(E:RX)(f:En->MH->Aw Bool):TT:=λσ H Q=>XY W σ H λF ρ μ h=>Al W (λ_ _ a b=>a=b) (E σ) F ρ (f μ h) Q
def PE.of(h:PE X e t)(i:∀σ H Q,t' σ H Q->t σ H Q):PE X e t':=λpins s σ H Q I q=>h pins s σ H Q I (i σ H Q q)
def PT.of(h:PT X e t)(i:∀σ H Q,t' σ H Q->t σ H Q):PT X e t':=λpins s σ H Q I q=>h pins s σ H Q I (i σ H Q q)
def PA.of(h:PA X e t)(i:∀σ H Q,t' σ H Q->t σ H Q):PA X e t':=λpos pins s σ H Q I q=>h pos pins s σ H Q I (i σ H Q q)
def PS.of(h:PS X e t)(i:∀D σ H,t' D σ H->t D σ H):PS X e t':=λpins s σ H D I q=>h pins s σ H D I (i D σ H q)
def Df.of(h:Df X e t)(i:∀D σ H,t' D σ H->t D σ H):Df X e t':=λpins s σ H D I q=>h pins s σ H D I (i D σ H q)
def Bh(W:Wd)(F H:Hp):MV->V->Prop
 |.lst l,v=>∃a vs,v=.ref a/\H a=some (.lst vs)/\Ad W F l vs
 |.scr l,v=>∃a vs,v=.ref a/\D8 W.K H a vs/\Ad W F l vs
 |.tup l,v=>∃a vs,v=.ref a/\F a=some (.tup vs)/\Ad W F l vs
 |.dic t ks ms,v=>∃a vs,v=.ref a/\Ad W F ms vs/\((∃kk:List (List Key),t=true/\ks=kk.map (λk=>.tup (k.map VN))/\Rd H a (.dT (kk.zip vs))/\kk.length=vs.length)\/(∃kk:List Key,t=false/\ks=kk.map VN/\Rd H a (.dK (kk.zip vs))/\kk.length=vs.length))
 |.obj c ns ms,v=>E3 λa dx vs=>A5 (v=.ref a) (H a=some (.ins (W.ca c) dx ((ns.map W.nm).zip vs))) (H dx=some (.own a)) (ns.length=vs.length) (Ad W F ms vs)
 |.exc c n m,v=>E3 λa dx u=>A3 (v=.ref a) (WS H a (W.ca c) dx [(W.nm n,u)]) (Ak W F m u)
 |.non,v=>v=.non
 |.bl b,v=>v=.bl b
 |.int i,v=>v=.int i
 |.str x,v=>v=.str x
 |.cls c,v=>v=.ref (W.ca c)
 |.ty n,v=>v=.ty n.nm
 |.lam k cs,v=>Ak W F (.lam k cs) v
section
def Ak.view(s:An F H)(h:Ak W F m v):Bh W F H m v:=by
 cases m with
 |lam k cs=>exact h
 |lst l=>unfold Ak at h;obtain⟨a,vs,e,q,r⟩:=h;exact⟨a,vs,e,s _ _ q,r⟩
 |scr l=>unfold Ak at h;obtain⟨a,vs,e,q,r⟩:=h;exact⟨a,vs,e,s.seq q,r⟩
 |tup l=>unfold Ak at h;exact h
 |dic t ks ms=>
  unfold Ak at h;obtain⟨a,vs,e,r,q⟩:=h;refine⟨a,vs,e,r,?_⟩;rcases q with⟨kk,e0,e1,e2,e3⟩|⟨kk,e0,e1,e2,e3⟩
  ·exact .inl ⟨kk,e0,e1,.inr (e2.imp λ_ e=>s _ _ e),e3⟩
  exact .inr ⟨kk,e0,e1,.inr (e2.imp λ_ e=>s _ _ e),e3⟩
 |obj c ns ms=>unfold Ak at h;obtain⟨a,dx,vs,e,h1,h2,h3,r⟩:=h;exact⟨a,dx,vs,e,s _ _ h1,s _ _ h2,h3,r⟩
 |exc c n m=>unfold Ak at h;obtain⟨a,dx,u,e,x,y,r⟩:=h;exact⟨a,dx,u,e,⟨.inr (s _ _ x),s _ _ y⟩,r⟩
 |non=>unfold Ak at h;exact h
 |bl b=>unfold Ak at h;exact h
 |int b=>unfold Ak at h;exact h
 |str b=>unfold Ak at h;exact h
 |cls b=>unfold Ak at h;exact h
 |ty b=>unfold Ak at h;exact h
def MO.view:MO->Option MV
 |.lst l=>some (.lst l)
 |.ins c ns vs=>some (.obj c ns vs)
 |.gone m=>some m
theorem CD.view(s:An F H)(l:CD W F H a o)(e:o.view=some m):Bh W F H m (.ref a):=by
 cases o with
 |lst l'=>cases e;obtain⟨_,vs,h,r⟩:=l;exact⟨a,vs,rfl,h,r⟩
 |ins c ns ms=>cases e;obtain⟨_,dx,vs,h1,h2,_,h3,r⟩:=l;exact⟨a,dx,vs,rfl,h1,h2,h3,r⟩
 |gone m=>cases e;exact Ak.view s l.1
def As(h:MH):R->Option MV
 |.v m=>some m
 |.r n=>(h[n]?).bind MO.view
 |.l _ _=>none
theorem By.view(S:By W F H ρ h)(q:AE W F ρ r v)(e:As h r=some m):Bh W F H m v:=by
 cases r with
 |v k=>cases e;exact Ak.view S.sub q
 |r n=>
  obtain⟨a,rfl,ha⟩:=q;cases ho:h[n]? with
  |none=>simp[As,ho]at e
  |some o=>simp[As,ho]at e;exact(S.obj n a o ha ho).view S.sub e
 |l k ms=>cases e
structure Dc(F H F' H':Hp):Prop where
 f:An F F'
 h:An H H'
 sub:An F' H'
 lv:∀b o,H b=some o->(∀xs,o≠ .tup xs)->F b=none->F' b=none
theorem Dc.refl(s:An F H):Dc F H F H:=⟨.refl _,.refl _,s,λ_ _ _ _ n=>n⟩
theorem Dc.new(s:An F H)(n:H p=none):Dc F H (upd F p o) (upd H p o):=by
 have nf:=s.free n;refine⟨.new nf,.new n,λb u e=>?_,λb u e _ f=>?_⟩
 ·by_cases hb:b=p
  ·subst hb;rw[Ab]at e ⊢; exact e
  rw[Aa hb]at e ⊢; exact s _ _ e
 have hb:=Am e n;rw[Aa hb];exact f
def CD.grow(g:Dc F H F' H')(l:CD W F H a o):CD W F' H' a o:=by
 cases o with
 |lst l'=>obtain⟨n,vs,h,r⟩:=l;exact⟨g.lv _ _ h (λ_ z=>by cases z) n,vs,g.h _ _ h,r.same g.f⟩
 |ins c ns ms=>obtain⟨n,dx,vs,h1,h2,n2,h3,r⟩:=l;exact⟨g.lv _ _ h1 (λ_ z=>by cases z) n,dx,vs,g.h _ _ h1,g.h _ _ h2,g.lv _ _ h2 (λ_ z=>by cases z) n2,h3,r.same g.f⟩
 |gone m=>obtain⟨r,o,h⟩:=l;exact⟨r.same g.f,o,g.f _ _ h.1,h.2⟩
theorem By.grow(S:By W F H ρ h)(g:Dc F H F' H'):By W F' H' ρ h:=⟨g.sub,S.nd,S.len,λn a m h1 h2=>(S.obj n a m h1 h2).grow g,S.tb.keep λb u e _=>g.h b u e,λt ht=>g.lv _ _ (S.tb t ht).choose_spec.1 (λ_ z=>by cases z) (S.tf t ht)⟩
def Dc.nxt(g:Dc F H F' H'):Ep F ρ F' ρ:=⟨g.f,cD _⟩
end
abbrev KP(W:Wd)(F H:Hp)(c:MV)(Q:VK):Prop:=∀F' H' v,Dc F H F' H'->Ak W F' c v->Q v H'
def vf(W:Wd)(g:MV->Option MV):V->Hp->VK->Prop:=λx H Q=>E3 λF a c=>A4 (An F H) (Bh W F H a x) (g a=some c) (KP W F H c Q)
def QD(W:Wd)(g:MV->MV->Option MV):R2:=λx y H Q=>E4 λF a b c=>A5 (An F H) (Bh W F H a x) (Bh W F H b y) (g a b=some c) (KP W F H c Q)
def GN(W:Wd)(F H:Hp):List MV->List V->Prop:=Paired (Bh W F H)
def UQ(W:Wd)(g:List MV->Option MV):List V->Hp->VK->Prop:=λxs H Q=>E3 λF as c=>A4 (An F H) (GN W F H as xs) (g as=some c) (KP W F H c Q)
def Cf.of(h:Cf X f r)(i:∀x y H Q,r' x y H Q->r x y H Q):Cf X f r':=λpins s σ H x y v u Q I rx ry q=>h pins s σ H x y v u Q I rx ry (i _ _ _ _ q)
section
theorem KP.int{i:Int}(o:KP W F H (.int i) Q)(s:An F H):Q (.int i) H:=o F H _ (.refl s) (by unfold Ak;rfl)
theorem KP.bl(o:KP W F H (.bl i) Q)(s:An F H):Q (.bl i) H:=o F H _ (.refl s) (by unfold Ak;rfl)
theorem KP.str{i:Str}(o:KP W F H (.str i) Q)(s:An F H):Q (.str i) H:=o F H _ (.refl s) (by unfold Ak;rfl)
theorem KP.lst{l:List MV}{vs:List V}{p:Addr}(o:KP W F H (.lst l) Q)(s:An F H)(n:H p=none)(r:Ad W F l vs):Q (.ref p) (upd H p (.lst vs)):=
 o _ _ _ (.new s n) (by unfold Ak;exact⟨p,vs,rfl,Ab,r.same (An.new (s.free n))⟩)
theorem KP.tup{l:List MV}{vs:List V}{p:Addr}(o:KP W F H (.tup l) Q)(s:An F H)(n:H p=none)(r:Ad W F l vs):Q (.ref p) (upd H p (.tup vs)):=
 o _ _ _ (.new s n) (by unfold Ak;exact⟨p,vs,rfl,Ab,r.same (An.new (s.free n))⟩)
def KP.same(o:KP W F H m Q)(s:An F H)(r:Ak W F m v):Q v H:=o F H v (.refl s) r
end
inductive Uh where|add|sub|mul|fdiv|mod|pow
def Uh.op:Uh->Operator
 |.add=>.Add| .sub=>.Sub| .mul=>.Mult| .fdiv=>.FloorDiv| .mod=>.Mod| .pow=>.Pow
abbrev big:Nat:=16777216
def Nt:MV->Option Int
 |.int i=>some i
 |_=>none
def UB:MV->Option Str
 |.str i=>some i
 |_=>none
def ZV:MV->Option (List MV)
 |.lst i=>some i
 |_=>none
def iw:MV->Option (List MV)
 |.tup i=>some i
 |_=>none
def ZE:List MV->Option MV
 |[a]=>some a
 |_=>none
def Ot(h:ZE l=some a):l=[a]:=by rcases l with _|⟨b,_|_⟩<;>cases h;rfl
def EF{i:Int}(h:Nt m=some i):m=.int i:=by cases m<;>cases h;rfl
def JG{i:Str}(h:UB m=some i):m=.str i:=by cases m<;>cases h;rfl
def O4(h:ZV m=some i):m=.lst i:=by cases m<;>cases h;rfl
def U2(h:iw m=some i):m=.tup i:=by cases m<;>cases h;rfl
def Nu{α:Type}(f:Int->Int->Option α)(a b:MV):Option α:=(Nt a).bind λi=>(Nt b).bind λj=>f i j
def OD{α:Type}{f:Int->Int->Option α}{a b:MV}{c:α}(h:Nu f a b=some c):∃i j,a=.int i/\b=.int j/\f i j=some c:=by
 obtain⟨i,h1,h⟩:=aB.mp h;obtain⟨j,h2,h⟩:=aB.mp h;exact⟨i,j,EF h1,EF h2,h⟩
noncomputable def ZT(a b:MV):Option MV:=match a with
 |.int i=>(Nt b).bind λj=>some (.int (i+j))
 |.str x=>(UB b).bind λy=>if x.length+y.length<=big then some (.str (x++y)) else none
 |.lst x=>(ZV b).bind λy=>if x.length+y.length<=big then some (.lst (x++y)) else none
 |.tup x=>(iw b).bind λy=>if x.length+y.length<=big then some (.tup (x++y)) else none
 |_=>none
def FG(i j:Int):Bool:=(decide (-(2^64)<i)&&decide (i<2^64))||(decide (-(2^64)<j)&&decide (j<2^64))
noncomputable def ZS(a b:MV):Option MV:=match a with
 |.int i=>(Nt b).bind λj=>if FG i j then some (.int (i*j)) else none
 |.str x=>(Nt b).bind λn=>if 0<=n/\n<=100/\x.length<=100 then some (.str (BY n.toNat x)) else none
 |.lst x=>(Nt b).bind λn=>if -(2^63)<=n/\n<2^63/\x.length*n.toNat<=big then some (.lst (List.replicate n.toNat x).flatten) else none
 |_=>none
def Jb(i j:Int):Bool:=decide (0<=j)&&decide (j<=1000000)&&decide (i.natAbs<2^64)
def xA:Uh->Int->Int->Option MV
 |.sub,i,j=>some (.int (i-j))
 |.fdiv,i,j=>if 0<j/\j<10000000000000000000000000000000000000000 then some (.int (i / j)) else none
 |.mod,i,j=>if 0<j then some (.int (i%j)) else none
 |.pow,i,j=>if Jb i j then some (.int (i^j.toNat)) else none
 |_,_,_=>none
def BD:Uh->MV->MV->Option MV
 |.add,a,b=>ZT a b
 |.mul,a,b=>ZS a b
 |o,a,b=>Nu (xA o) a b
def KJ:sizeLine=big:=dE
theorem Ad.rep(r:Ad W F x vs):∀n:Nat,Ad W F (List.replicate n x).flatten (List.replicate n vs).flatten
 |0=>by simp;exact .nil
 |n+1=>by rw[cF,cF,cG,cG];exact r.app (Ad.rep r n)
def Ap{α:Type}{c:Prop}[Decidable c]{a b:α}(h:(if c then some a else none)=some b):c/\a=b:=by
 by_cases hc:c
 ·rw[if_pos hc]at h;exact⟨hc,bM h⟩
 rw[if_neg hc]at h;cases h
def tE(hK:X.K=W.K):Cf X (binaryOp .Add) (QD W ZT):=by
 intro pins s σ H x y v u Q I rx ry ⟨F,a,b,c,sub,va,vb,hg,q⟩;unfold ZT at hg;split at hg
 ·obtain⟨j,h1,h2⟩:=aB.mp hg;cases EF h1;cases va;cases vb;cases h2;exact ZD pins s σ H _ _ v u Q I rx ry ⟨_,_,rfl,rfl,q.int sub⟩
 ·obtain⟨j,h1,h2⟩:=aB.mp hg;obtain⟨hl,rfl⟩:=Ap h2;cases JG h1;cases va;cases vb;exact MX pins s σ H _ _ v u Q I rx ry ⟨_,_,rfl,rfl,hl,q.str sub⟩
 ·obtain⟨j,h1,h2⟩:=aB.mp hg;obtain⟨hl,rfl⟩:=Ap h2;cases O4 h1;obtain⟨p,vs,rfl,hp,r⟩:=va;obtain⟨p',vs',rfl,hp',r'⟩:=vb;exact ZC pins s σ H _ _ v u Q I rx ry ⟨p,p',_,_,rfl,rfl,hp,hp',by rw[←r.len,←r'.len];exact hl,λp2 n=>q.lst sub n (r.app r')⟩
 ·obtain⟨j,h1,h2⟩:=aB.mp hg;obtain⟨hl,rfl⟩:=Ap h2;cases U2 h1;obtain⟨p,vs,rfl,hp,r⟩:=va;obtain⟨p',vs',rfl,hp',r'⟩:=vb;have g1:DG X.K H p vs:=.inl (.inl (sub _ _ hp));have g2:DG X.K H p' vs':=.inl (.inl (sub _ _ hp'));have e1:=r.len;have e2:=r'.len;cases vs' with
  |nil=>
   obtain rfl:=c9.mp e2;rw[bE]at q;have q':=q F H _ (.refl sub) (by unfold Ak;exact⟨p,vs,rfl,hp,r⟩);cases vs with
   |nil=>
    obtain rfl:=c9.mp e1;exact Ly pins s σ H _ _ v u Q I rx ry ⟨p,p',[],rfl,rfl,g1,g2,q F H _ (.refl sub) (by unfold Ak;exact⟨p',[],rfl,hp',r'⟩)⟩
   |cons k ks=>exact Os pins s σ H _ _ v u Q I rx ry ⟨p,p',_,_,rfl,rfl,g1,g2,by simp,by rw[←e1];exact hl,λ_=>q',λz=>absurd rfl z⟩
  |cons k ks=>
   refine RZ pins s σ H _ _ v u Q I rx ry ⟨p,p',_,_,rfl,rfl,g1,g2,by simp,by rw[←e1,←e2];exact hl,λz=>?_,λp2 n=>q.tup sub n (r.app r')⟩;subst z;obtain rfl:=c9.mp e1;exact q F H _ (.refl sub) (by unfold Ak;exact⟨p',_,rfl,hp',r'⟩)
 cases hg
def qY(hK:X.K=W.K):Cf X (binaryOp .Mult) (QD W ZS):=by
 intro pins s σ H x y v u Q I rx ry ⟨F,a,b,c,sub,va,vb,hg,q⟩;unfold ZS at hg;split at hg
 ·obtain⟨j,h1,h2⟩:=aB.mp hg;obtain⟨hl,rfl⟩:=Ap h2;cases EF h1;cases va;cases vb;refine Z8 pins s σ H _ _ v u Q I rx ry ⟨_,_,rfl,rfl,?_,q.int sub⟩;simp only[FG,Bool.or_eq_true,Bool.and_eq_true,decide_eq_true_eq]at hl;exact hl
 ·obtain⟨j,h1,h2⟩:=aB.mp hg;obtain⟨⟨p1,p2,p3⟩,rfl⟩:=Ap h2;cases EF h1;cases va;cases vb;exact Vy pins s σ H _ _ v u Q I rx ry ⟨_,_,rfl,rfl,p1,p2,p3,q.str sub⟩
 ·obtain⟨j,h1,h2⟩:=aB.mp hg;obtain⟨⟨p1,p2,p3⟩,rfl⟩:=Ap h2;cases EF h1;obtain⟨p,vs,rfl,hp,r⟩:=va;cases vb;exact Z5 pins s σ H _ _ v u Q I rx ry ⟨p,_,vs,rfl,rfl,hp,p1,p2,by rw[←r.len];exact p3,λp2 n=>q.lst sub n (r.rep _)⟩
 cases hg
def XA(t:QD W (Nu f) x y H Q):∃i j c,x=.int i/\y=.int j/\f i j=some c/\∃F,An F H/\KP W F H c Q:=by
 obtain⟨F,a,b,c,sub,va,vb,hg,q⟩:=t;obtain⟨i,j,rfl,rfl,hf⟩:=OD hg;exact⟨i,j,c,va,vb,hf,F,sub,q⟩
def rN{f:Int->Int->Option MV}{g:Int->Int->Int}(e:∀i j,f i j=some (.int (g i j))){x y:V}(t:QD W (Nu f) x y H Q):UR (λi j=>.int (g i j)) x y H Q:=by
 obtain⟨i,j,c,rfl,rfl,hf,F,sub,q⟩:=XA t;rw[e]at hf;cases hf;exact⟨_,_,rfl,rfl,q.int sub⟩
def bn{f:Int->Int->Option MV}{C:Int->Int->Prop}{P:Int->Int->Prop}[∀i j,Decidable (P i j)]{g:Int->Int->Int}(e:∀i j,f i j=if P i j then some (.int (g i j)) else none)(pc:∀i j,P i j->C i j){x y:V}(t:QD W (Nu f) x y H Q):rI C (λi j=>.int (g i j)) x y H Q:=by
 obtain⟨i,j,c,rfl,rfl,hf,F,sub,q⟩:=XA t;rw[e]at hf;obtain⟨hl,rfl⟩:=Ap hf;exact⟨_,_,rfl,rfl,pc _ _ hl,q.int sub⟩
def xk{X:Cx}{W:Wd}(hK:X.K=W.K)(o:Uh):Cf X (binaryOp o.op) (QD W (BD o)):=by
 have pw:∀i j,Jb i j=true->0<=j/\j<=1000000/\i.natAbs<2^64:=λi j hl=>by
  simp only[Jb,Bool.and_eq_true,decide_eq_true_eq]at hl;exact⟨hl.1.1,hl.1.2,hl.2⟩
 cases o with
 |add=>exact tE hK
 |mul=>exact qY hK
 |sub=>exact Cf.of Z4 λ_ _ _ _ t=>rN (λ_ _=>rfl) t
 |fdiv=>exact Cf.of RY λ_ _ _ _ t=>bn (P:=λ_ j=>0<j/\j<10000000000000000000000000000000000000000) (λ_ _=>rfl) (λ_ _ h=>h) t
 |mod=>exact Cf.of Z9 λ_ _ _ _ t=>bn (λ_ _=>rfl) (λ_ _ h=>h) t
 |pow=>exact Cf.of Z6 λ_ _ _ _ t=>bn (λ_ _=>rfl) pw t
end B
namespace B
open PySem L2 PySem.SeqAt
open PyProof.Rows hiding St
mutual
noncomputable def Eu:MV->PyData
 |.non=>.none
 |.bl b=>.bool b
 |.int i=>.int i
 |.str x=>.str x
 |.lst l=>.list (Fy l)
 |.tup l=>.tuple (Fy l)
 |_=>.none
noncomputable def Fy:List MV->List PyData
 |[]=>[]
 |m::ms=>Eu m::Fy ms
end
mutual
noncomputable def sh:MV->Nat->Bool
 |.non,_=>true
 |.bl _,_=>true
 |.int _,_=>true
 |.str x,_=>PyData.strOk x
 |.lst l,n+1=>De l n
 |.tup l,n+1=>De l n
 |_,_=>false
noncomputable def De:List MV->Nat->Bool
 |[],_=>true
 |m::ms,n=>sh m n&&De ms n
end
def uN:MV->Bool
 |.scr _=>false| .dic _ _ _=>false| .obj _ _ _=>false| .exc _ _ _=>false| .cls _=>false| .ty _=>false| .lam _ _=>false|_=>true
def qC{n:Nat}(q:sh m n=true):uN m=true:=by
 cases m<;>first|rfl|(cases n<;>cases q)
def Ch{m:MV}{n:Nat}{P:Prop}(h:uN m=false)(q:sh m n=true):P:=absurd (h.symm.trans (qC q)) a9
def YF{n:Nat}(q:sh (.lst l) n=true):∃k,n=k+1/\De l k=true:=by
 cases n with
 |zero=>cases q
 |succ k=>exact⟨k,rfl,q⟩
def jw{n:Nat}(q:sh (.tup l) n=true):∃k,n=k+1/\De l k=true:=by
 cases n with
 |zero=>cases q
 |succ k=>exact⟨k,rfl,q⟩
def Oh{n:Nat}(q:De (m::ms) n=true):sh m n=true/\De ms n=true:=by simpa[De]using q
section
mutual
theorem Ak.rdD(s:An F H):∀{m:MV}{v:V}{n:Nat},Ak W F m v->sh m n=true->Mw W.K H v (Eu m)
 |.non,_,_,h,_=>by unfold Ak at h;subst h;unfold Eu;exact .non
 |.bl b,_,_,h,_=>by unfold Ak at h;subst h;unfold Eu;exact .bl b
 |.int i,_,_,h,_=>by unfold Ak at h;subst h;unfold Eu;exact .int i
 |.str x,_,_,h,_=>by unfold Ak at h;subst h;unfold Eu;exact .str x
 |.lst l,_,n,h,q=>by
  unfold Ak at h;obtain⟨a,vs,rfl,e,r⟩:=h;obtain⟨_,_,q⟩:=YF q;unfold Eu;exact .lst (.inl (.inl (s _ _ e))) (Ad.rdD s r q)
 |.tup l,_,n,h,q=>by
  unfold Ak at h;obtain⟨a,vs,rfl,e,r⟩:=h;obtain⟨_,_,q⟩:=jw q;unfold Eu;exact .tup (.inl (.inl (s _ _ e))) (Ad.rdD s r q)
 |.scr _,_,_,_,q=>Ch rfl q
 |.dic _ _ _,_,_,_,q=>Ch rfl q
 |.obj _ _ _,_,_,_,q=>Ch rfl q
 |.exc _ _ _,_,_,_,q=>Ch rfl q
 |.cls _,_,_,_,q=>Ch rfl q
 |.ty _,_,_,_,q=>Ch rfl q
 |.lam _ _,_,_,_,q=>Ch rfl q
theorem Ad.rdD(s:An F H):∀{ms:List MV}{vs:List V}{n:Nat},Ad W F ms vs->De ms n=true->Ij W.K H vs (Fy ms)
 |[],_,_,h,_=>by rw[h.nil_iff];unfold Fy;exact .nil
 |m::ms,_,n,h,q=>by
  obtain⟨v,r,rfl,h1,h2⟩:=h.uncons;have q:=Oh q;unfold Fy;exact .cons (Ak.rdD s h1 q.1) (Ad.rdD s h2 q.2)
end
mutual
theorem JM:∀{m:MV}{n:Nat},sh m n=true->(Eu m).canLay0=true/\(Eu m).depth<=n
 |.non,_,_=>by unfold Eu;exact⟨by simp[PyData.canLay0],by simp[PyData.depth]⟩
 |.bl _,_,_=>by unfold Eu;exact⟨by simp[PyData.canLay0],by simp[PyData.depth]⟩
 |.int _,_,_=>by unfold Eu;exact⟨by simp[PyData.canLay0],by simp[PyData.depth]⟩
 |.str _,_,q=>by unfold Eu;exact⟨by simpa[PyData.canLay0,sh]using q,by simp[PyData.depth]⟩
 |.lst l,0,q=>by simp[sh]at q
 |.lst l,n+1,q=>by
  obtain⟨h1,h2⟩:=JL (by simpa[sh]using q);unfold Eu;exact⟨by simpa[PyData.canLay0]using h1,by simpa[PyData.depth]using h2⟩
 |.tup l,0,q=>by simp[sh]at q
 |.tup l,n+1,q=>by
  obtain⟨h1,h2⟩:=JL (by simpa[sh]using q);unfold Eu;exact⟨by simpa[PyData.canLay0]using h1,by simpa[PyData.depth]using h2⟩
 |.scr _,_,q=>Ch rfl q
 |.dic _ _ _,_,q=>Ch rfl q
 |.obj _ _ _,_,q=>Ch rfl q
 |.exc _ _ _,_,q=>Ch rfl q
 |.cls _,_,q=>Ch rfl q
 |.ty _,_,q=>Ch rfl q
 |.lam _ _,_,q=>Ch rfl q
theorem JL:∀{ms:List MV}{n:Nat},De ms n=true->PyData.canLayAll0 (Fy ms)=true/\PyData.depthAll (Fy ms)<=n
 |[],_,_=>by unfold Fy;exact⟨by simp[PyData.canLayAll0],by simp[PyData.depthAll]⟩
 |m::ms,n,q=>by
  have q:=Oh q;obtain⟨h1,h2⟩:=JM q.1;obtain⟨h3,h4⟩:=JL q.2;unfold Fy;exact⟨by simp[PyData.canLayAll0,h1,h3],by simp only[PyData.depthAll];lia⟩
end
def Gc{n:Nat}(h:sh m n=true)(hn:n<=64):shaped (Eu m)=true:=by
 obtain⟨h1,h2⟩:=JM h;unfold shaped;rw[h1,bQ (b9 h2 hn)];rfl
theorem Bh.rdD{v:V}{n:Nat}(s:An F H)(h:Bh W F H m v)(q:sh m n=true):Mw W.K H v (Eu m):=by
 cases m with
 |lst l=>
  obtain⟨a,vs,rfl,e,r⟩:=h;obtain⟨_,_,q⟩:=YF q;unfold Eu;exact .lst (.inl (.inl e)) (r.rdD s q)
 |tup l=>exact Ak.rdD (F:=F) s (by unfold Ak;exact h) q
 |non=>exact Ak.rdD (F:=F) (m:=.non) s (by unfold Ak;exact h) q
 |bl b=>exact Ak.rdD (F:=F) (m:=.bl b) s (by unfold Ak;exact h) q
 |int b=>exact Ak.rdD (F:=F) (m:=.int b) s (by unfold Ak;exact h) q
 |str b=>exact Ak.rdD (F:=F) (m:=.str b) s (by unfold Ak;exact h) q
 |_=>exact Ch rfl q
end
inductive Iq where|eq|ne|lt|le|gt|ge|is_|isnot|in_|notin
def Iq.op:Iq->CmpOp
 |.eq=>.Eq| .ne=>.NotEq| .lt=>.Lt| .le=>.LtE| .gt=>.Gt| .ge=>.GtE| .is_=>.Is| .isnot=>.IsNot| .in_=>.In| .notin=>.NotIn
def ET:MV->Bool
 |.non=>true| .bl _=>true| .int _=>true| .str _=>true|_=>false
@[elab_as_elim]def GK{P:MV->Prop}{a:MV}(h:ET a=true)(k1:P .non)(k2:∀b,P (.bl b))(k3:∀i,P (.int i))(k4:∀x,P (.str x)):P a:=by
  cases a<;>first|exact k1|exact k2 _|exact k3 _|exact k4 _|exact absurd h a9
def xC:MV->MV->Bool
 |.int _,.bl _=>true
 |.bl _,.int _=>true
 |_,_=>false
def IW(a b:MV):Bool:=ET a&&ET b&& !xC a b
noncomputable def YH:MV->MV->Bool
 |.non,.non=>true
 |.int i,.int j=>decide (i=j)
 |.bl i,.bl j=>decide (i=j)
 |.str i,.str j=>decide (i=j)
 |_,_=>false
def O3(a b:MV):Bool:=PyData.eqv (Eu a) (Eu b)
def bg:MV->Bool
 |.dic false [] []=>true
 |_=>false
def QE(a b:MV):Option Bool:=if IW a b=true then some (YH a b) else if (sh a 60&&sh b 60)=true then some (O3 a b) else if (bg a&&bg b)=true then some true else none
noncomputable def Qm:MV->MV->Bool
 |.non,.non=>true
 |.bl a,.bl b=>a ==b
 |.bl a,.int b=>(if a then 1 else 0) ==b
 |.int a,.bl b=>a ==(if b then 1 else 0)
 |.int a,.int b=>a ==b
 |.str a,.str b=>a ==b
 |_,_=>false
def LJ(a:MV)(l:List MV):Option Bool:=if (ET a&&l.all ET)=true then some (l.any λy=>Qm y a) else if (sh a 60&&De l 60)=true then some (l.any λy=>O3 y a) else none
def rO(x y:Str):Bool:=!(Builtin.Str.occurrences y x 0 y.length 1).isEmpty
def Jl:MV->Option Key
 |.int i=>some (.inl i)
 |.str x=>some (.inr x)
 |_=>none
noncomputable def Du:List MV->Option (List Key)
 |[]=>some []
 |m::ms=>match Jl m,Du ms with
  |some k,some ks=>some (k::ks)
  |_,_=>none
def look:List MV->List MV->MV->Option MV
 |k::ks,v::vs,m=>if seqK k m=true then some v else look ks vs m
 |_,_,_=>none
where
 seqK:MV->MV->Bool
 |.tup a,.tup b=>match Du a,Du b with
  |some x,some y=>decide (x=y)
  |_,_=>false
 |a,b=>match Jl a,Jl b with
  |some x,some y=>decide (x=y)
  |_,_=>false
noncomputable def gz(a:MV):MV->Option Bool
 |.str y=>match a with
  |.str x=>some (rO x y)
  |_=>none
 |.lst l=>LJ a l
 |_=>none
def SH:Iq->Int->Int->Option Bool
 |.lt,i,j=>some (decide (i<j))
 |.le,i,j=>some (decide (i<=j))
 |.gt,i,j=>some (decide (j<i))
 |.ge,i,j=>some (decide (j<=i))
 |_,_,_=>none
def ZL:MV->Option Bool
 |.non=>some true
 |.lam _ _=>none
 |_=>some false
def SC:MV->Bool
 |.non=>true
 |_=>false
def VW(h:SC m=true):m=.non:=by cases m<;>cases h;rfl
noncomputable def AK:Iq->MV->MV->Option Bool
 |.eq,a,b=>QE a b
 |.ne,a,b=>(QE a b).map (!·)
 |.is_,a,b=>if SC b=true then ZL a else none
 |.isnot,a,b=>if SC b=true then(ZL a).map (!·) else none
 |.in_,a,b=>gz a b
 |.notin,a,b=>(gz a b).map (!·)
 |o,a,b=>Nu (SH o) a b
def sC:MV->V
 |.bl b=>.bl b
 |.int i=>.int i
 |.str x=>.str x
 |_=>.non
def Pk(h:(a&&b)=true):a=true/\b=true:=by rwa[hU]at h
def lw{i j:Int}:decide (V.int i=V.int j)=decide (i=j):=by simp
def lx:decide (V.bl i=V.bl j)=decide (i=j):=by simp
def lq{i j:Str}:decide (V.str i=V.str j)=decide (i=j):=by simp
section
def NT{x:V}(va:Bh W F H a x)(h:ET a=true):x=sC a:=by
 revert va
 refine GK h ?_ (λ_=>?_) (λ_=>?_) (λ_=>?_)<;>exact id
def MM{x:V}(va:Ak W F a x)(h:ET a=true):x=sC a:=by
 revert va
 refine GK h ?_ (λ_=>?_) (λ_=>?_) (λ_=>?_)<;>(unfold Ak;exact id)
def UH{x y:V}(va:Bh W F H a x)(vb:Bh W F H b y)(h:IW a b=true):UI x y=true/\decide (x=y)=YH a b:=by
 obtain⟨h,h3⟩:=Pk h;obtain⟨h1,h2⟩:=Pk h;rw[NT va h1,NT vb h2];clear va vb h
 revert h3
 refine GK h1 ?_ (λ_=>?_) (λ_=>?_) (λ_=>?_)<;>refine GK h2 ?_ (λ_=>?_) (λ_=>?_) (λ_=>?_)<;>first|exact λ_=>⟨rfl,rfl⟩|(intro h;exact absurd h a9)|exact λ_=>⟨rfl,lw⟩|exact λ_=>⟨rfl,lx⟩|exact λ_=>⟨rfl,lq⟩
def OO{a:MV}(h:ET a=true):DE (sC a)=true:=GK h rfl (λ_=>rfl) (λ_=>rfl) (λ_=>rfl)
def ON(va:Bh W F H a x)(h:ET a=true):DE x=true:=by rw[NT va h];exact OO h
def XG(va:Ak W F a x)(h:ET a=true):DE x=true:=by rw[MM va h];exact OO h
def Wv{x y:V}(va:Ak W F a x)(vb:Bh W F H b y)(h:ET a=true)(h':ET b=true):Wu x y=Qm a b:=by
 rw[MM va h,NT vb h'];refine GK h ?_ (λ_=>?_) (λ_=>?_) (λ_=>?_)<;>refine GK h' ?_ (λ_=>?_) (λ_=>?_) (λ_=>?_)<;>rfl
theorem kK(va:Bh W F H a x)(h:ET a=true):∀{l:List MV}{vs:List V},Ad W F l vs->l.all ET=true->vs.all DE=true/\nM x vs=l.any λy=>Qm y a
 |[],_,r,_=>by rw[r.nil_iff];exact⟨rfl,rfl⟩
 |m::ms,_,r,q=>by
  obtain⟨v,vs,rfl,h1,h2⟩:=r.uncons;have q:ET m=true/\ms.all ET=true:=by simpa using q
  obtain⟨i1,i2⟩:=kK va h h2 q.2;refine⟨by simp[XG h1 q.1,i1],?_⟩;have e:=Wv h1 va q.1 h;unfold nM at i2 ⊢;rw[gQ,gQ,i2,e]
def bq(hK:X.K=W.K)(I:Ae X pins σ H s)(hu:A.units+66<cLine)(sub:An F H)(va:Bh W F H a x)(vm:Ak W F m y)(rx:AA x u)(ry:AA y v)(sa:sh a 60=true)(sm:sh m 60=true) :
 SeqAt.EqAt A s v u (O3 m a):=by
 have d1:=va.rdD sub sa;have d2:=vm.rdD sub sm;rw[←hK]at d1 d2;obtain⟨as,ra⟩:=d1.reads I rx;obtain⟨bs,rb⟩:=d2.reads I ry;obtain⟨l1,l2⟩:=JM sa;obtain⟨l3,l4⟩:=JM sm;exact PySem.SeqAt.eqAt_reads _ _ A s _ _ _ _ rb ra l3 l1 (by lia)
def vD:V->PyData
 |.bl b=>Eu (.bl b)
 |.int i=>Eu (.int i)
 |.str x=>Eu (.str x)
 |_=>Eu .non
def XH{v:V}(h:Ak W F m v)(f:ET m=true):Eu m=vD v:=by
 rw[MM h f];exact GK f rfl (λ_=>rfl) (λ_=>rfl) (λ_=>rfl)
def Tk{m:MV}{a:Addr}{P:Prop}(h:Ak W F m (.ref a))(f:ET m=true):P:=by
 have:=XG h f;cases this
def Ri{v:V}{n:Nat}(h:Ak W F m v)(q:sh m n=true)(f:ET m=false):∃l k a vs,v=.ref a/\n=k+1/\Ad W F l vs/\De l k=true/\((m=.tup l/\F a=some (.tup vs))\/(m=.lst l/\F a=some (.lst vs))):=by
 cases m<;>first|(exact absurd f Bool.noConfusion)|(exact Ch rfl q)|skip
 ·unfold Ak at h;obtain⟨a,vs,rfl,e,r⟩:=h;obtain⟨k,z,q⟩:=jw q;exact⟨_,k,a,vs,rfl,z,r,q,.inl ⟨rfl,e⟩⟩
 unfold Ak at h;obtain⟨a,vs,rfl,e,r⟩:=h;obtain⟨k,z,q⟩:=YF q;exact⟨_,k,a,vs,rfl,z,r,q,.inr ⟨rfl,e⟩⟩
def WT(W:Wd)(F:Hp)(n:Nat):Prop:=∀{m m':MV}{v:V}{n':Nat},Ak W F m v->Ak W F m' v->sh m n=true->sh m' n'=true->Eu m=Eu m'
theorem Ad.det{n:Nat}(ih:WT W F n):∀{ms ms':List MV}{vs:List V}{n':Nat},Ad W F ms vs->Ad W F ms' vs->De ms n=true->De ms' n'=true->Fy ms=Fy ms'
 |[],ms',vs,_,h,h',_,_=>by
  rw[h.nil_iff]at h';have:=h'.len;obtain rfl:=c9.mp this;rfl
 |m::ms,ms',vs,n',h,h',q,q'=>by
  obtain⟨v,r,rfl,h1,h2⟩:=h.uncons;cases ms' with
  |nil=>have:=h'.nil_iff;cases this
  |cons m' ms'=>
   obtain⟨v',r',z,h3,h4⟩:=h'.uncons;cases z;have q:=Oh q;have q':=Oh q';unfold Fy;rw[ih h1 h3 q.1 q'.1,Ad.det ih h2 h4 q.2 q'.2]
def LU{n:Nat}(ih:∀k,n=k+1->WT W F k):WT W F n:=by
 intro m m' v n' h h' q q';cases f:ET m with
 |true=>
  cases f':ET m' with
  |true=>rw[XH h f,XH h' f']
  |false=>
   obtain⟨_,_,_,_,rfl,_⟩:=Ri h' q' f';exact Tk h f
 |false=>
  obtain⟨l,k,a,vs,rfl,hn,r,ql,e⟩:=Ri h q f;cases f':ET m' with
  |true=>exact Tk h' f'
  |false=>
   obtain⟨l',k',a',vs',z,_,r',ql',e'⟩:=Ri h' q' f';cases z;clear h h' q q' f f';rcases e with⟨rfl,e⟩|⟨rfl,e⟩<;>rcases e' with⟨rfl,e'⟩|⟨rfl,e'⟩<;>(rw[e]at e';cases e')<;>(unfold Eu;rw[Ad.det (ih k hn) r r' ql ql'])
theorem OT:∀n,WT W F n
 |0=>LU λ_ e=>by cases e
 |n+1=>LU λ_ e=>by cases e;exact OT n
def Ak.det{n n':Nat}(h:Ak W F m v)(h':Ak W F m' v)(q:sh m n=true)(q':sh m' n'=true):Eu m=Eu m':=OT n h h' q q'
open Classical in
def xB(hK:X.K=W.K)(I:Ae X pins σ H s)(hu:X.A.units+70<cLine)(sub:An F H){l:List MV}{its:List Value}(va:Bh W F H a x)(rx:AA x u)(r:Ad W F l vs)(rv:Aq vs its)(sa:sh a 60=true)(sl:De l 60=true) :
 ∃e:Value->Bool,(∀y,y∈its.toArray->SeqAt.EqAt X.A.in1 s y u (e y))/\its.toArray.any e=l.any λy=>O3 y a:=by
 have each:∀{l:List MV}{i:Nat}{m:MV},De l 60=true->l[i]?=some m->sh m 60=true:=by
  intro l
  induction l with
  |nil=>intro i m _ e;simp at e
  |cons k ks ih=>
   intro i m q e;have q:sh k 60=true/\De ks 60=true:=by simpa[De]using q
   cases i with
   |zero=>simp at e;subst e;exact q.1
   |succ i=>exact ih q.2 (by simpa using e)
 have hu1:X.A.in1.units+66<cLine:=by
  have:X.A.in1.units<=X.A.units+1:=by first|exact aN _|exact cS _|simp[Around.in1]
  lia
 have lenv:=rv.length;have lenm:=r.len;refine⟨λy=>decide (∃(i:Nat) (m:MV),its[i]?=some y/\l[i]?=some m/\O3 m a=true),λy hy=>?_,?_⟩
 ·have hy:y∈its:=by simpa using hy
  obtain⟨i,hi,rfl⟩:=dW.mp hy;have e0:its[i]?=some its[i]:=by simp[hi]
  have il:i<l.length:=by lia
  have e1:l[i]?=some l[i]:=by simp[il]
  obtain⟨v,ev,rep⟩:=r.get e1;obtain⟨u',eu,ru⟩:=rv.get ev;rw[e0]at eu;cases eu;have sm:=each sl e1;have g:=bq hK I hu1 sub va rep rx ru sa sm;have ed:decide (∃(j:Nat) (m:MV),its[j]?=some its[i]/\l[j]?=some m/\O3 m a=true)=O3 l[i] a:=by
   rw[cK,eI];constructor
   ·rintro⟨j,m,h1,h2,h3⟩;obtain⟨v2,ev2,rep2⟩:=r.get h2;obtain⟨u2,eu2,ru2⟩:=rv.get ev2;rw[h1]at eu2;cases eu2;have hv:v2=v:=L2.AA.inj ru2 ru;subst hv;unfold O3 at h3 ⊢;rw[←Ak.det rep2 rep (each sl h2) sm];exact h3
   exact λh=>⟨i,_,e0,e1,h⟩
  show SeqAt.EqAt _ _ _ _ (decide _);rw[ed];exact g
 rw[List.any_toArray,cK,eV,eV];constructor
 ·rintro⟨y,hy,e⟩;obtain⟨i,m,h1,h2,h3⟩:=aY e;exact⟨m,aP h2,h3⟩
 rintro⟨m,hm,e⟩;obtain⟨i,hi,rfl⟩:=dW.mp hm;have ii:i<its.length:=by lia
 exact⟨its[i],hW ii,bQ ⟨i,l[i],by simp[ii],by simp[hi],e⟩⟩
def ky(hK:X.K=W.K)(hu:X.A.units+70<cLine){neg:Bool}{pins:Pq}{k:Bool}{x y:V}(I:Ae X pins σ H s)(rx:AA x v)(ry:AA y u)(sub:An F H)(va:Bh W F H a x)(vb:Bh W F H b y)(hg:gz a b=some k)(q:Q (.bl (if neg then !k else k)) H) :
 wpAny (model X.prog X.w) X.A (compareOp (if neg then .NotIn else .In) v u) (EP X pins σ Q) X.xe s:=by
 have seq:∀{p:Addr}{l:List MV}{vs:List V},y=.ref p->D8 X.K H p vs->Ad W F l vs->LJ a l=some k->wpAny (model X.prog X.w) X.A (compareOp (if neg then .NotIn else .In) v u) (EP X pins σ Q) X.xe s:=by
  intro p l vs ey hq r hg;subst ey;unfold LJ at hg;by_cases hf:(ET a&&l.all ET)=true
  ·rw[if_pos hf]at hg;cases hg;have hf:ET a=true/\l.all ET=true:=by simpa using hf
   obtain⟨i1,i2⟩:=kK va hf.1 r hf.2;cases neg with
   |false=>exact PM pins s σ H x _ v u Q I rx ry ⟨p,vs,rfl,.inl hq,ON va hf.1,i1,by rw[i2];exact q⟩
   |true=>exact Kf pins s σ H x _ v u Q I rx ry ⟨p,vs,rfl,.inl hq,ON va hf.1,i1,by rw[i2];exact q⟩
  rw[if_neg hf]at hg;obtain⟨hs,rfl⟩:=Ap hg;have hs:sh a 60=true/\De l 60=true:=by simpa using hs
  cases ry;obtain⟨its,rv,pl,_⟩:=I.list hq;obtain⟨e,h1,h2⟩:=xB hK I hu sub va rx r rv hs.1 hs.2;cases neg with
  |false=>exact SeqAt.in_listAt e pl.isList h1 ⟨.bl _,H,I,rfl,by rw[h2];exact q⟩
  |true=>exact SeqAt.notIn_listAt e pl.isList h1 ⟨.bl _,H,I,rfl,by rw[h2];exact q⟩
 cases b with
 |str z=>
  cases a<;>simp only[gz]at hg<;>first|(cases hg;done)|skip
  cases hg;cases va;cases vb;cases neg with
  |false=>exact PL pins s σ H _ _ v u Q I rx ry ⟨_,_,rfl,rfl,q⟩
  |true=>exact Ke pins s σ H _ _ v u Q I rx ry ⟨_,_,rfl,rfl,q⟩
 |lst l=>
  obtain⟨p,vs,e,hp,r⟩:=vb;exact seq e (.inl (.inl hp)) r hg
 |_=>cases hg
def X8(va:Bh W F H a x)(h:ZL a=some k):decide (x=.non)=k:=by
 cases a<;>cases h
 all_goals first
  |(exact va.elim)
  |(cases va;rfl)
  |(obtain⟨_,_,rfl,_⟩:=va;rfl)
  |(obtain⟨_,_,_,rfl,_⟩:=va;rfl)
def aq{α:Type}{p:Prop}[Decidable p]{x:Option α}{k:α}(h:(if p then x else none)=some k):p/\x=some k:=by
 by_cases hp:p
 ·rw[if_pos hp]at h;exact⟨hp,h⟩
 rw[if_neg hp]at h;cases h
def Yd(va:Bh W F H a x)(ha:bg a=true):∃p,x=.ref p/\Rd H p (.dK []):=by
 cases a<;>first|(exact absurd ha a9)|skip
 rename_i t ks vs;cases t<;>cases ks<;>cases vs<;>first|(exact absurd ha a9)|skip
 obtain⟨p,ws,rfl,r,h⟩:=va;rcases h with⟨kk,z,_⟩|⟨kk,_,e,h,_⟩
 ·cases z
 cases kk with
 |nil=>exact⟨p,rfl,h⟩
 |cons k kk=>cases e
def tS(K:Frag)(H:Hp)(x y:V)(j:Bool):Prop:=(UI x y=true/\decide (x=y)=j)\/(∃d e,Mw K H x d/\Mw K H y e/\shaped d=true/\shaped e=true/\PyData.eqv d e=j)\/∃p p',x=.ref p/\y=.ref p'/\Rd H p (.dK [])/\Rd H p' (.dK [])/\j=true
def Ts(sub:An F H)(va:Bh W F H a x)(vb:Bh W F H b y)(h:QE a b=some j):tS W.K H x y j:=by
 unfold QE at h;by_cases hs:IW a b=true
 ·rw[if_pos hs]at h;cases h;exact .inl (UH va vb hs)
 rw[if_neg hs]at h;by_cases hs:(sh a 60&&sh b 60)=true
 ·rw[if_pos hs]at h;cases h;obtain⟨h1,h2⟩:=Pk hs;exact .inr (.inl ⟨_,_,va.rdD sub h1,vb.rdD sub h2,Gc h1 (by decide),Gc h2 (by decide),rfl⟩)
 rw[if_neg hs]at h;obtain⟨hs,rfl⟩:=Ap h;obtain⟨h1,h2⟩:=Pk hs;obtain⟨p,rfl,hp⟩:=Yd va h1;obtain⟨p',rfl,hp'⟩:=Yd vb h2;exact .inr (.inr ⟨p,p',rfl,rfl,hp,hp',rfl⟩)
def xF(hu:X.A.units+70<cLine):Cf X (compareOp .Eq) (λx y H Q=>∃j,tS X.K H x y j/\Q (.bl j) H):=by
 intro pins s σ H x y v u Q I rx ry ⟨j,h,q⟩;rcases h with⟨h1,h2⟩|⟨d,e,h1,h2,h3,h4,h5⟩|⟨p,p',rfl,rfl,hp,hp',rfl⟩
 ·exact jZ pins s σ H x y v u Q I rx ry ⟨h1,by rw[h2];exact q⟩
 ·exact ZB (by lia) pins s σ H x y v u Q I rx ry ⟨_,_,h1,h2,h3,h4,by rw[←h5]at q;exact q⟩
 cases rx;cases ry;obtain⟨z1,lo1,vs1,r1,d1⟩:=LS I.hok hp;obtain⟨z2,lo2,vs2,r2,d2⟩:=LS I.hok hp';cases r1;cases r2;exact PySem.W.keq_eq (r:=true) lo1 lo2 d1 d2 (by lia) (λ_=>.nil) (At I q rfl)
def xm(hu:X.A.units+70<cLine):Cf X (compareOp .NotEq) (λx y H Q=>∃j,tS X.K H x y j/\Q (.bl !j) H):=by
 intro pins s σ H x y v u Q I rx ry ⟨j,h,q⟩;rcases h with⟨h1,h2⟩|⟨d,e,h1,h2,h3,h4,h5⟩|⟨p,p',rfl,rfl,hp,hp',rfl⟩
 ·exact jU pins s σ H x y v u Q I rx ry ⟨h1,by rw[h2];exact q⟩
 ·exact Z7 (by lia) pins s σ H x y v u Q I rx ry ⟨_,_,h1,h2,h3,h4,by rw[←h5]at q;exact q⟩
 cases rx;cases ry;obtain⟨z1,lo1,vs1,r1,d1⟩:=LS I.hok hp;obtain⟨z2,lo2,vs2,r2,d2⟩:=LS I.hok hp';cases r1;cases r2;exact PySem.W.keq_ne (r:=true) lo1 lo2 d1 d2 (by lia) (λ_=>.nil) (At I q rfl)
def OE(h:Nu f a b=some k)(va:Bh W F H a x)(vb:Bh W F H b y):∃i j,x=.int i/\y=.int j/\f i j=some k:=by
 obtain⟨i,j,rfl,rfl,hf⟩:=OD h;exact⟨i,j,va,vb,hf⟩
def kl{o:Option Bool}{k:Bool}{y:V}(h:(if SC b=true then o else none)=some k)(vb:Bh W F H b y):y=.non/\o=some k:=by
 obtain⟨hb,hk⟩:=aq (p:=SC b=true) h;cases VW hb;exact⟨vb,hk⟩
def sR(hK:X.K=W.K)(hu:X.A.units+70<cLine)(o:Iq):Cf X (compareOp o.op) (QD W λa b=>(AK o a b).map .bl):=by
 intro pins s σ H x y v u Q I rx ry ⟨F,a,b,c,sub,va,vb,hg,q⟩;obtain⟨k,hk,rfl⟩:=aG.mp hg;have q:=q.bl sub;clear hg;cases o with
 |eq=>exact xF hu pins s σ H x y v u Q I rx ry ⟨_,by rw[hK];exact Ts sub va vb hk,q⟩
 |ne=>
  obtain⟨j,hj,rfl⟩:=aG.mp hk;exact xm hu pins s σ H x y v u Q I rx ry ⟨_,by rw[hK];exact Ts sub va vb hj,q⟩
 |lt=>
  obtain⟨i,j,h1,h2,hf⟩:=OE (f:=SH .lt) hk va vb;cases hf;exact jV pins s σ H _ _ v u Q I rx ry ⟨_,_,h1,h2,q⟩
 |le=>
  obtain⟨i,j,h1,h2,hf⟩:=OE (f:=SH .le) hk va vb;cases hf;exact jW pins s σ H _ _ v u Q I rx ry ⟨_,_,h1,h2,q⟩
 |gt=>
  obtain⟨i,j,h1,h2,hf⟩:=OE (f:=SH .gt) hk va vb;cases hf;exact jX pins s σ H _ _ v u Q I rx ry ⟨_,_,h1,h2,q⟩
 |ge=>
  obtain⟨i,j,h1,h2,hf⟩:=OE (f:=SH .ge) hk va vb;cases hf;exact jY pins s σ H _ _ v u Q I rx ry ⟨_,_,h1,h2,q⟩
 |is_=>
  obtain⟨h1,hk⟩:=kl hk vb;exact ZA pins s σ H _ _ v u Q I rx ry ⟨h1,by rw[X8 va hk];exact q⟩
 |isnot=>
  obtain⟨h1,hk⟩:=kl hk vb;obtain⟨j,hj,rfl⟩:=aG.mp hk;exact Vx pins s σ H _ _ v u Q I rx ry ⟨h1,by rw[X8 va hj];exact q⟩
 |in_=>exact ky (neg:=false) hK hu I rx ry sub va vb hk q
 |notin=>
  obtain⟨j,hj,rfl⟩:=aG.mp hk;exact ky (neg:=true) hK hu I rx ry sub va vb hj q
end
structure Ci where
 nm:Str
 exc:Bool
 flds:List Nat
 isa:List Nat
 init:Option Nat
 mts:List (Nat×Nat)
structure Kt(cs:List Ci)(W:Wd):Prop where
 kc:∀(c:Nat) (i:Ci),cs[c]?=some i->i.exc=false->Ug W.K (W.ca c)/\findIn W.K (.ref (W.ca c)) "__class__"=some (some (.builtin "object.__class__"))/\specialIn W.K (.builtin "object.__class__") "__get__"=some (some (.builtin "getset_descriptor.__get__"))/\
  takesIn W.K (.builtin "object.__class__")=some true/\mroIn W.K (W.ca c) (.type "object")=some true
 kn:∀(c:Nat) (i:Ci) (n:Nat),cs[c]?=some i->n∈i.flds->i.exc=false->Gv W.K (W.ca c) (W.nm n)
 kx:∀(c:Nat) (i:Ci) (n:Nat),cs[c]?=some i->n∈i.flds->i.exc=true->QH W.K (W.ca c) (W.nm n)
 km:∀(c d:Nat) (i j:Ci),cs[c]?=some i->cs[d]?=some j->i.exc=true->j.exc=true->mroIn W.K (W.ca c) (.ref (W.ca d))=some (decide (d∈i.isa))
 kz:∀(d:Nat) (j:Ci),cs[d]?=some j->j.exc=true->typeIn W.K (.ref (W.ca d))=some (.type "type")/\(clsIn W.K (W.ca d)).isSome=true/\mroIn W.K (W.ca d) (.type "BaseException")=some true
 ki:∀(c d:Nat) (i j:Ci),cs[c]?=some i->cs[d]?=some j->kitOne W.K (.ref (W.ca c)) (.ref (W.ca d))=some (decide (d∈i.isa))
 k1:∀(d:Nat) (j:Ci) (k:Kd),cs[d]?=some j->kitOne W.K (.type k.nm) (.ref (W.ca d))=some false
 k2:∀(c:Nat) (i:Ci) (k:Kd),cs[c]?=some i->kitOne W.K (.ref (W.ca c)) (.type k.nm)=some false
section
inductive WM where|neg
def WM.op:WM->UnaryOp
 |.neg=>.USub
def ZO:WM->MV->Option MV
 |.neg,.int i=>some (.int (-i))
 |_,_=>none
def wP(o:WM):o6 X (unaryOp o.op) (vf W (ZO o)):=by
 intro pins s σ H x v Q I rx ⟨F,a,c,sub,va,hg,q⟩;cases o with
 |neg=>
  cases a<;>simp only[ZO]at hg<;>first|(cases hg;done)|skip
  cases va;cases hg;exact Yu pins s σ H _ v Q I rx ⟨_,rfl,q.int sub⟩
noncomputable def Nh:MV->MV->Option MV
 |.lst l,.int i=>BH l i
 |.scr l,.int i=>BH l i
 |.tup l,.int i=>BH l i
 |.str z,.int i=>if z.length<=big then(BH z.cps.toList i).map λc=>.str ⟨#[c]⟩ else none
 |_,_=>none
def NH{i:Int}(r:Ad W F l vs)(h:BH l i=some m):∃v,BH vs i=some v/\Ak W F m v:=by
 unfold BH at h ⊢;rw[r.len]at h;cases e:Mu vs.length i with
 |none=>rw[e]at h;cases h
 |some j=>
  rw[e]at h;exact r.get h
def S8(h:Jl m=some k)(va:Ak W F m v):v=kV k:=by
 cases m<;>simp only[Jl]at h<;>first|(cases h;done)|skip
 all_goals cases h;unfold Ak at va;exact va
theorem Jk:∀{ms:List MV}{ks:List Key}{vs:List V},Du ms=some ks->Ad W F ms vs->vs=ks.map kV
 |[],_,_,h,r=>by simp only[Du]at h;cases h;rw[r.nil_iff];rfl
 |m::ms,_,_,h,r=>by
  obtain⟨v,vs,rfl,h1,h2⟩:=r.uncons;unfold Du at h;cases e1:Jl m with
  |none=>rw[e1]at h;cases h
  |some k=>
   cases e2:Du ms with
   |none=>rw[e1,e2]at h;cases h
   |some ks=>
    rw[e1,e2]at h;cases h;rw[S8 e1 h1,Jk e2 h2];rfl
end
section
variable {W:Wd}
def B6(o:Iq)(a b:MV):Option Bool:=AK o a b
def Jw(hK:X.K=W.K)(hu:X.A.units+70<cLine)(o:Iq):Cf X (compareOp o.op) (QD W λa b=>(B6 o a b).map .bl):=sR hK hu o
def GC(a b:MV):Option MV:=Nh a b
def xu(hK:X.K=W.K)(hu:X.A.units+70<cLine):mq X (QD W GC):=by
 intro value slice pins s σ H x y v u Q I rx ry ⟨F,a,b,c,sub,va,vb,hg,q⟩ hs;cases a with
 |lst l=>
  cases b<;>simp only[GC,Nh]at hg<;>first|(cases hg;done)|skip
  obtain⟨p,vs,rfl,hp,r⟩:=va;cases vb;obtain⟨w',hw,rw'⟩:=NH r hg;exact OA value slice pins s σ H _ _ v u Q I rx ry ⟨p,vs,_,w',rfl,rfl,.inl (.inl hp),hw,q.same sub rw'⟩ hs
 |scr l=>
  cases b<;>simp only[GC,Nh]at hg<;>first|(cases hg;done)|skip
  obtain⟨p,vs,rfl,hp,r⟩:=va;cases vb;obtain⟨w',hw,rw'⟩:=NH r hg;exact OA value slice pins s σ H _ _ v u Q I rx ry ⟨p,vs,_,w',rfl,rfl,by rw[hK];exact hp,hw,q.same sub rw'⟩ hs
 |tup l=>
  cases b<;>simp only[GC,Nh]at hg<;>first|(cases hg;done)|skip
  obtain⟨p,vs,rfl,hp,r⟩:=va;cases vb;obtain⟨w',hw,rw'⟩:=NH r hg;exact ao value slice pins s σ H _ _ v u Q I rx ry ⟨p,vs,_,w',rfl,rfl,.inl (.inl (sub _ _ hp)),hw,q.same sub rw'⟩ hs
 |str z=>
  cases b<;>simp only[GC,Nh]at hg<;>first|(cases hg;done)|skip
  cases va;cases vb;by_cases hz:z.length<=big
  ·rw[if_pos hz]at hg;obtain⟨ch,hc,rfl⟩:=aG.mp hg;exact ap value slice pins s σ H _ _ v u Q I rx ry ⟨z,_,ch,rfl,rfl,hz,hc,q.str sub⟩ hs
  rw[if_neg hz]at hg;cases hg
 |_=>cases b<;>simp[GC,Nh]at hg
def Qs(xs:List MV)(lo hi:Option Int):List MV:=(xs.drop (HT.sIx xs.length 0 lo)).take (HT.sIx xs.length xs.length hi-HT.sIx xs.length 0 lo)
def Ad.cut{lo hi:Option Int}(r:Ad W F l vs):Ad W F (Qs l lo hi) (Qr vs lo hi):=by
 unfold Qs Qr;rw[r.len];exact(r.drop _).take _
noncomputable def Ix(m:MV)(lo hi:Option Int):Option MV:=match m with
 |.lst l=>some (.lst (Qs l lo hi))
 |.scr l=>some (.lst (Qs l lo hi))
 |.str z=>if z.length<=big then some (.str (Txt.slice z lo hi)) else none
 |_=>none
def qP(W:Wd):V->Option Int->Option Int->Hp->VK->Prop:=λx lo hi H Q=>∃F a c,An F H/\Bh W F H a x/\Ix a lo hi=some c/\KP W F H c Q
def wY(hK:X.K=W.K):o7 X (qP W):=by
 intro pins s σ H x v vl vu lo hi sl Q I rx hs pl pu ⟨F,a,c,sub,va,hg,q⟩;cases a<;>simp only[Ix]at hg<;>first|(cases hg;done)|skip
 ·cases va;obtain⟨hz,rfl⟩:=Ap hg;exact YD pins s σ H _ v vl vu lo hi sl Q I rx hs pl pu ⟨_,rfl,hz,q.str sub⟩
 ·obtain⟨p,vs,rfl,hp,r⟩:=va;cases hg;exact Og pins s σ H _ v vl vu lo hi sl Q I rx hs pl pu ⟨p,vs,rfl,.inl (.inl hp),λp2 n=>q.lst sub n r.cut⟩
 obtain⟨p,vs,rfl,hp,r⟩:=va;cases hg;exact Og pins s σ H _ v vl vu lo hi sl Q I rx hs pl pu ⟨p,vs,rfl,by rw[hK];exact hp,λp2 n=>q.lst sub n r.cut⟩
def lenV:MV->Option MV
 |.lst l=>some (.int l.length)
 |.scr l=>some (.int l.length)
 |.tup l=>some (.int l.length)
 |.str z=>if z.length<=big then some (.int z.length) else none
 |.dic t ks vs=>if t=false then some (.int vs.length) else none
 |_=>none
def L8(as:List MV):Option MV:=(ZE as).bind lenV
def GN.un1(h:GN W F H [a] xs):∃x,xs=[x]/\Bh W F H a x:=by
 cases h with
 |cons h t=>cases t;exact⟨_,rfl,h⟩
def GN.un2(h:GN W F H [a,b] xs):∃x y,xs=[x,y]/\Bh W F H a x/\Bh W F H b y:=by
 cases h with
 |cons h t=>obtain⟨y,rfl,h'⟩:=GN.un1 t;exact⟨_,_,rfl,h,h'⟩
def rE(hK:X.K=W.K):Br X (.builtin "len") (UQ W L8):=by
 intro pins s σ H xs us Q I rv ⟨F,as,c,sub,vs,hg,q⟩;obtain⟨m,h1,hg⟩:=aB.mp hg;obtain rfl:=Ot h1;obtain⟨x,rfl,va⟩:=vs.un1;cases m with
 |lst l=>
  obtain⟨p,ws,rfl,hp,r⟩:=va;cases hg;exact D5 pins s σ H _ us Q I rv ⟨p,ws,rfl,.inl (.inl (.inl hp)),by rw[←r.len];exact q.int sub⟩
 |scr l=>
  obtain⟨p,ws,rfl,hp,r⟩:=va;cases hg;exact D5 pins s σ H _ us Q I rv ⟨p,ws,rfl,.inl (by rw[hK];exact hp),by rw[←r.len];exact q.int sub⟩
 |tup l=>
  obtain⟨p,ws,rfl,hp,r⟩:=va;cases hg;exact D5 pins s σ H _ us Q I rv ⟨p,ws,rfl,.inr (.inl (.inl (sub _ _ hp))),by rw[←r.len];exact q.int sub⟩
 |str z=>
  obtain⟨hz,rfl⟩:=Ap hg;cases va;exact KH pins s σ H _ us Q I rv ⟨_,rfl,hz,q.int sub⟩
 |dic t ks vs=>
  obtain⟨p,ws,rfl,r,hq⟩:=va;obtain⟨rfl,rfl⟩:=Ap hg;rcases hq with⟨kk,z,_⟩|⟨kk,_,rfl,e,hl⟩
  ·cases z
  obtain⟨u,rfl,ru⟩:=DP rv;cases ru;have el:(kk.zip ws).length=ws.length:=by rw[List.length_zip,hl];simp
  exact ly I e λt s' I'=>⟨.int _,H,I',⟨_,rfl⟩,by rw[el,←r.len];exact q.int sub⟩
 |_=>cases hg
def X7:MV->Option Kd
 |.non=>some .non| .bl _=>some .bl| .int _=>some .int| .str _=>some .str| .lst _=>some .lst| .tup _=>some .tup
 |.dic _ _ _=>some .dct|_=>none
def LH:MV->Bool
 |.dic _ _ _=>true
 |_=>false
def SA(sub:An F H)(va:Bh W F H m x)(h:X7 m=some k)(hd:LH m=false):gp W.K H x k:=by
 cases m<;>first|(cases h;done)|skip
 all_goals cases h
 ·cases va;exact .non
 ·cases va;exact .bl _
 ·cases va;exact .int _
 ·cases va;exact .str _
 ·obtain⟨p,vs,rfl,hp,r⟩:=va;exact .tup (sub _ _ hp)
 ·obtain⟨p,vs,rfl,hp,r⟩:=va;exact .lst hp
 cases hd
def Qe{α:Type}{c:Prop}[Decidable c]{a:Option α}{b:α}(h:(if c then a else none)=some b):c/\a=some b:=by
 by_cases hc:c
 ·rw[if_pos hc]at h;exact⟨hc,h⟩
 rw[if_neg hc]at h;cases h
def lF:MV->Option (Nat×Option Nat)
 |.obj c _ _=>some (c,none)
 |.exc c n _=>some (c,some n)
 |_=>none
noncomputable def nL:List MV->Bool
 |[.ty .lst,.ty .tup]=>true
 |_=>false
def ZU(h:nL l=true):l=[.ty .lst,.ty .tup]:=by
 unfold nL at h;split at h
 ·rfl
 cases h
def dm:MV->Option Nat
 |.cls d=>some d
 |_=>none
def Pb{d:Nat}(h:dm m=some d):m=.cls d:=by cases m<;>cases h;rfl
noncomputable def U0:List MV->Option (MV×MV)
 |[a,b]=>some (a,b)
 |_=>none
def NW(h:U0 l=some p):l=[p.1,p.2]:=by
 unfold U0 at h;split at h
 ·cases h;rfl
 cases h
def Qk(cs:List Ci)(m:MV):Option Ci:=(lF m).bind λp=>p.2.bind λn=>(cs[p.1]?).bind λi=>if i.exc=true/\n∈i.flds then some i else none
def MY(cs:List Ci)(m:MV):Option Ci:=(lF m).bind λp=>(cs[p.1]?).bind λi=>if i.exc=false/\p.2=none then some i else none
noncomputable def rM(cs:List Ci)(m:MV):MV->Option MV
 |.ty k=>if (k=.int\/k=.bl\/k=.str\/k=.tup\/k=.lst)/\LH m=false then(X7 m).map λk'=>.bl (k'.isA k) else none
 |.cls d=>(cs[d]?).bind λ_=>if (lF m).isSome=true then(if (MY cs m).isSome=true then MY cs m else Qk cs m).map λi=>.bl (decide (d∈i.isa)) else(X7 m).map λ_=>.bl false
 |.tup l=>if nL l=true then(if LH m=true then none else(X7 m).map λk=>.bl !k.noSeq) else(U0 l).bind λp=>(dm p.1).bind λd=>(dm p.2).bind λd'=>(cs[d]?).bind λ_=>(cs[d']?).bind λ_=>(Qk cs m).map λi=>.bl (decide (d∈i.isa)||decide (d'∈i.isa))
 |_=>none
def Iy(cs:List Ci)(as:List MV):Option MV:=(U0 as).bind λp=>rM cs p.1 p.2
def VJ{a:Kd}:kitOne W.K (.type a.nm) (.type Kd.lst.nm)=some (a.isA .lst):=by
 cases a<;>first|exact C3|exact AC
def NE(I:Ae X pins σ H s)(r:Aq [.ref a,c] us)(hc:NB c=some cv)(h:(∃kvs,Rd H a (.dT kvs))\/∃kvs,Rd H a (.dK kvs))(hk:kitOne X.K (.type "dict") cv=some b)(q:Q (.bl b) H):wpAny (model X.prog X.w) X.A (call (.builtin "isinstance") us) (EP X pins σ Q) X.xe s:=by
 obtain⟨u,w',rfl,rx,rc⟩:=EQ r;have e:=Ia hc rc;subst e;cases rx;rcases h with⟨kvs,h⟩|⟨kvs,h⟩
 ·obtain⟨_,_,xs,_,o,es,ep,h1,h2,_⟩:=(show AN X.prog X.w H s.heap a (.dT kvs) from h.ok I.hok);exact kia_one kitx_dict I.kIn ⟨o,h1,h2.1⟩ hk (λz=>by cases z) λtk=>⟨.bl b,H,I.tok _,rfl,q⟩
 obtain⟨_,_,vs,_,p⟩:=(show AN X.prog X.w H s.heap a (.dK kvs) from h.ok I.hok);obtain⟨o,es,ep,h1,h2,_⟩:=p;exact kia_one kitx_dict I.kIn ⟨o,h1,h2.1⟩ hk (λz=>by cases z) λtk=>⟨.bl b,H,I.tok _,rfl,q⟩
def kh{c:Nat}(kt:Kt cs W)(va:Bh W F H (.obj c ns ms) x)(hi:cs[c]?=some i)(he:i.exc=false):Em W.K H x (.ref (W.ca c)):=by
 obtain⟨a,dx,vs,rfl,h1,h2,_,_⟩:=va;obtain⟨k1,k2,k3,k4,k5⟩:=kt.kc c i hi he;exact .ins h1 k1 k2 k3 k4 k5
def V1(h:MY cs m=some i):∃c ns ms,m=.obj c ns ms/\cs[c]?=some i/\i.exc=false:=by
 unfold MY at h;obtain⟨p,h1,h⟩:=aB.mp h;obtain⟨i',h2,h⟩:=aB.mp h;obtain⟨⟨h3,h4⟩,rfl⟩:=Ap h;cases m<;>cases h1
 ·exact⟨_,_,_,rfl,h2,h3⟩
 cases h4
def OS(h:Qk cs m=some i):∃c n v,m=.exc c n v/\cs[c]?=some i/\i.exc=true/\n∈i.flds:=by
 unfold Qk at h;obtain⟨p,h1,h⟩:=aB.mp h;obtain⟨n,h2,h⟩:=aB.mp h;obtain⟨i',h3,h⟩:=aB.mp h;obtain⟨⟨h4,h5⟩,rfl⟩:=Ap h;cases m<;>cases h1<;>cases h2
 exact⟨_,_,_,rfl,h3,h4,h5⟩
def rep2(rt:Ad W F [a,b] vs)(ha:∀u,Ak W F a u->u=v)(hb:∀u,Ak W F b u->u=w):vs=[v,w]:=by
 obtain⟨w1,r1,rfl,q1,rt⟩:=rt.uncons;obtain⟨w2,r2,rfl,q2,rt⟩:=rt.uncons;rw[rt.nil_iff,ha _ q1,hb _ q2]
def VL(hk:k=.int\/k=.bl\/k=.str\/k=.tup\/k=.lst):kitOne W.K (.type k'.nm) (.type k.nm)=some (Kd.isA k' k):=by
 rcases hk with h|h|h|h|h
 ·exact HL (.inl h)
 ·exact HL (.inr (.inl h))
 ·exact HL (.inr (.inr (.inl h)))
 ·exact HL (.inr (.inr (.inr h)))
 subst h;exact VJ
def VY(h:LH m=true):∃t ks vs,m=.dic t ks vs:=by cases m<;>first|(cases h;done)|exact⟨_,_,_,rfl⟩
def UF(h:X7 m=some k)(hs:k.noSeq=false)(hd:LH m=false):∃l,m=.tup l\/m=.lst l:=by
 cases m<;>first|(cases h;done)|(cases hd;done)|skip
 all_goals first|(cases h;cases hs;done)|exact⟨_,.inl rfl⟩|exact⟨_,.inr rfl⟩
def Sz{K:Fq}{c v w:Value}{a b:Bool}(h1:kitOne K c v=some a)(h2:kitOne K c w=some b):kitAny K c [v,w]=some (a||b):=by
 simp only[kitAny,h1,h2];cases a<;>cases b<;>rfl
def da(va:Bh W F H (.dic t ks vs) x):∃a,x=.ref a/\((∃kvs,Rd H a (.dT kvs))\/∃kvs,Rd H a (.dK kvs)):=by
 obtain⟨p,ws,rfl,r,hq⟩:=va;refine⟨_,rfl,?_⟩;rcases hq with⟨kk,_,_,e,_⟩|⟨kk,_,_,e,_⟩
 ·exact .inl ⟨_,e⟩
 exact .inr ⟨_,e⟩
structure ij(K:Frag)(H:Hp)(D:V->V->Bool->Prop):Prop where
 k1:∀{x y t cv b},NB y=some cv->Em K H x t->kitOne K t cv=some b->D x y b
 k2:∀{e C dx fs n y cv b},NB y=some cv->WS H e C dx fs->QH K C n->kitOne K (.ref C) cv=some b->D (.ref e) y b
 k3:∀{a y cv b},NB y=some cv->((∃kvs,Rd H a (.dT kvs))\/∃kvs,Rd H a (.dK kvs))->kitOne K (.type "dict") cv=some b->D (.ref a) y b
 k4:∀{x k tp},gp K H x k->k.noSeq=true->DG K H tp [.ty "list",.ty "tuple"]->D x (.ref tp) false
 k5:∀{a ys tp},H a=some (.tup ys)->DG K H tp [.ty "list",.ty "tuple"]->D (.ref a) (.ref tp) true
 k6:∀{a ys tp},H a=some (.lst ys)->DG K H tp [.ty "list",.ty "tuple"]->D (.ref a) (.ref tp) true
 k7:∀{e C dx fs n tp} {cs:List Addr}{b},DG K H tp (cs.map V.ref)->WS H e C dx fs->QH K C n->kitAny K (.ref C) (cs.map Value.ref)=some b->D (.ref e) (.ref tp) b
section
def bh{d:Nat}(z:ij W.K H D)(kt:Kt cs W)(sub:An F H)(va:Bh W F H m x)(hj:cs[d]?=some j)(hg:(if (lF m).isSome=true then(if (MY cs m).isSome=true then MY cs m else Qk cs m).map λi=>MV.bl (decide (d∈i.isa)) else(X7 m).map λ_=>.bl false)=some c):∃b,c=.bl b/\D x (.ref (W.ca d)) b:=by
 by_cases hc:(lF m).isSome=true
 ·rw[if_pos hc]at hg;obtain⟨i,hi,rfl⟩:=aG.mp hg;by_cases ho:(MY cs m).isSome=true
  ·rw[if_pos ho]at hi;obtain⟨c',ns,ms,rfl,hi,he⟩:=V1 hi;exact⟨_,rfl,z.k1 rfl (kh kt va hi he) (kt.ki c' d i j hi hj)⟩
  rw[if_neg ho]at hi;obtain⟨c',n,v,rfl,hi,he,hn⟩:=OS hi;obtain⟨a,dx,u,rfl,hx,r⟩:=va;exact⟨_,rfl,z.k2 rfl hx (kt.kx c' i n hi hn he) (kt.ki c' d i j hi hj)⟩
 rw[if_neg hc]at hg;obtain⟨k',h,rfl⟩:=aG.mp hg;have kk:=kt.k1 d j k' hj;cases hd:LH m with
 |false=>exact⟨_,rfl,z.k1 rfl (SA sub va h hd) kk⟩
 |true=>
  obtain⟨t,ks,vs,rfl⟩:=VY hd;cases h;obtain⟨a,rfl,e⟩:=da va;exact⟨_,rfl,z.k3 rfl e kk⟩
def bc(z:ij W.K H D)(sub:An F H)(va:Bh W F H m x)(ht:DG W.K H tp [.ty "list",.ty "tuple"])(hg:(if LH m=true then none else(X7 m).map λk=>MV.bl !k.noSeq)=some c):∃b,c=.bl b/\D x (.ref tp) b:=by
 cases hd:LH m with
 |true=>rw[hd]at hg;cases hg
 |false=>
  rw[hd]at hg;obtain⟨k',h,rfl⟩:=aG.mp (show(X7 m).map (λk=>MV.bl !k.noSeq)=some c from hg);cases hs:k'.noSeq with
  |true=>exact⟨_,rfl,z.k4 (SA sub va h hd) hs ht⟩
  |false=>
   obtain⟨l,rfl|rfl⟩:=UF h hs hd
   ·obtain⟨p,ys,rfl,hp,r⟩:=va;exact⟨_,rfl,z.k5 (sub _ _ hp) ht⟩
   obtain⟨p,ys,rfl,hp,r⟩:=va;exact⟨_,rfl,z.k6 hp ht⟩
def ba{d d':Nat}(z:ij W.K H D)(kt:Kt cs W)(va:Bh W F H m x)(ht:DG W.K H tp ([W.ca d,W.ca d'].map V.ref))(hg:((cs[d]?).bind λ_=>(cs[d']?).bind λ_=>(Qk cs m).map λi=>MV.bl (decide (d∈i.isa)||decide (d'∈i.isa)))=some c):∃b,c=.bl b/\D x (.ref tp) b:=by
 obtain⟨j,hj,hg⟩:=aB.mp hg;obtain⟨j',hj',hg⟩:=aB.mp hg;obtain⟨i,hi,rfl⟩:=aG.mp hg;obtain⟨c',n,v,rfl,hi,he,hn⟩:=OS hi;obtain⟨a,dx,u,rfl,hx,r⟩:=va;exact⟨_,rfl,z.k7 ht hx (kt.kx c' i n hi hn he) (Sz (kt.ki c' d i j hi hj) (kt.ki c' d' i j' hi hj'))⟩
def bb(z:ij W.K H D)(kt:Kt cs W)(sub:An F H)(va:Bh W F H m x)(vb:Bh W F H t y)(hg:rM cs m t=some c):∃b,c=.bl b/\D x y b:=by
 unfold rM at hg;split at hg
 ·cases vb;obtain⟨⟨hk,hd⟩,hg⟩:=Qe hg;obtain⟨k',h,rfl⟩:=aG.mp hg;exact⟨_,rfl,z.k1 rfl (SA sub va h hd) (VL hk)⟩
 ·cases vb;obtain⟨j,hj,hg⟩:=aB.mp hg;exact bh z kt sub va hj hg
 ·next l=>
  obtain⟨tp,ws,rfl,htp,rt⟩:=vb;by_cases hl:nL l=true
  ·rw[if_pos hl]at hg;obtain rfl:=ZU hl;obtain rfl:=rep2 rt (λw h=>by unfold Ak at h;exact h) (λw h=>by unfold Ak at h;exact h);exact bc z sub va (.inl (.inl (sub _ _ htp))) hg
  rw[if_neg hl]at hg;obtain⟨⟨a,b⟩,h1,hg⟩:=aB.mp hg;obtain⟨d,g2,hg⟩:=aB.mp hg;obtain⟨d',g3,hg⟩:=aB.mp hg;obtain rfl:=NW h1;obtain rfl:=Pb g2;obtain rfl:=Pb g3;obtain rfl:=rep2 rt (λw h=>by unfold Ak at h;exact h) (λw h=>by unfold Ak at h;exact h);exact ba z kt va (.inl (.inl (sub _ _ htp))) hg
 cases hg
end
def vS(hK:X.K=W.K)(kt:Kt cs W):Br X (.builtin "isinstance") (UQ W (Iy cs)):=by
 intro pins s σ H xs us Q I rv ⟨F,as,c,sub,vs,hg,q⟩;obtain⟨⟨m,t⟩,h1,h2⟩:=aB.mp hg;rw[NW h1]at vs;obtain⟨x,y,rfl,va,vb⟩:=vs.un2;have z:ij X.K H λx y b=>Aq [x,y] us->Q (.bl b) H->wpAny (model X.prog X.w) X.A (call (.builtin "isinstance") us) (EP X pins σ Q) X.xe s:=⟨λa b c rv q=>Md pins s σ H _ us Q I rv ⟨_,_,_,_,_,rfl,a,b,c,q⟩,λa b c d rv q=>TF pins s σ H _ us Q I rv ⟨_,_,_,_,_,_,_,_,rfl,a,b,c,d,q⟩,λa b c rv q=>NE I rv a b c q,λa b c rv q=>Q0 pins s σ H _ us Q I rv ⟨_,_,_,rfl,a,b,c,q⟩,λa b rv q=>Qz pins s σ H _ us Q I rv ⟨_,_,_,rfl,a,b,q⟩,λa b rv q=>Q2 pins s σ H _ us Q I rv ⟨_,_,_,rfl,a,b,q⟩,λa b c d rv q=>Qy pins s σ H _ us Q I rv ⟨_,_,_,_,_,_,_,_,rfl,a,b,c,d,q⟩⟩;rw[hK]at z;obtain⟨b,rfl,w⟩:=bb z kt sub va vb h2;exact w rv (q.bl sub)
end
section
noncomputable def DF:List MV->Option (List Bool)
 |[]=>some []
 |.bl b::ms=>(DF ms).map (b:: ·)
 |_=>none
theorem Me:∀{ms:List MV}{bs:List Bool}{vs:List V},DF ms=some bs->Ad W F ms vs->vs=bs.map V.bl
 |[],bs,vs,h,r=>by simp only[DF]at h;cases h;rw[r.nil_iff];rfl
 |m::ms,bs,vs,h,r=>by
  obtain⟨v,us,rfl,h1,h2⟩:=r.uncons;cases m<;>simp only[DF]at h<;>first|(cases h;done)|skip
  obtain⟨bs',hb,rfl⟩:=aG.mp h;unfold Ak at h1;subst h1;rw[Me hb h2];rfl
noncomputable def IJ:List MV->Option (List Int)
 |[]=>some []
 |.int b::ms=>(IJ ms).map (b:: ·)
 |_=>none
theorem OC:∀{ms:List MV}{bs:List Int}{vs:List V},IJ ms=some bs->Ad W F ms vs->vs=bs.map V.int
 |[],bs,vs,h,r=>by simp only[IJ]at h;cases h;rw[r.nil_iff];rfl
 |m::ms,bs,vs,h,r=>by
  obtain⟨v,us,rfl,h1,h2⟩:=r.uncons;cases m<;>simp only[IJ]at h<;>first|(cases h;done)|skip
  obtain⟨bs',hb,rfl⟩:=aG.mp h;unfold Ak at h1;subst h1;rw[OC hb h2];rfl
noncomputable def L9:List MV->Option MV
 |[.lst l]=>(DF l).map λbs=>.bl (bs.all id)
 |_=>none
def tD(hc:X.calm=true):Br X (.builtin "all") (UQ W L9):=by
 intro pins s σ H xs us Q I rv ⟨F,as,c,sub,vs,hg,q⟩;unfold L9 at hg;split at hg
 ·obtain⟨x,rfl,va⟩:=vs.un1;obtain⟨p,ws,rfl,hp,r⟩:=va;obtain⟨bs,hb,rfl⟩:=aG.mp hg;obtain rfl:=Me hb r;exact Q3 hc pins s σ H _ us Q I rv ⟨p,bs,rfl,.inl (.inl hp),q.bl sub⟩
 cases hg
def DI(i:Int):List Int->Int
 |[]=>i
 |j::r=>DI (max i j) r
theorem He:∀r i,i<=DI i r/\(∀a∈r,a<=DI i r)/\(DI i r=i\/DI i r∈r)
 |[],i=>⟨Int.le_refl _,by simp,.inl rfl⟩
 |j::r,i=>by
  obtain⟨h1,h2,h3⟩:=He r (max i j);unfold DI;refine⟨by lia,λa ha=>?_,?_⟩
  ·rcases aH.mp ha with rfl|ha
   ·lia
   exact h2 a ha
  rcases h3 with h|h
  ·rw[h];by_cases c:i<=j
   ·exact .inr (by rw[Int.max_eq_right c];exact aF)
   exact .inl (Int.max_eq_left (by lia))
  exact .inr (aD _ h)
noncomputable def Ng:List MV->Option MV
 |[.lst l]=>(IJ l).bind λns=>match ns with
  |[]=>none
  |i::r=>some (.int (DI i r))
 |[.int i,.int j]=>some (.int (if j>i then j else i))
 |_=>none
noncomputable def Sk:List MV->Option MV
 |[.int i,.int j]=>some (.int (if j<i then j else i))
 |_=>none
def rj(hc:X.calm=true):Br X (.builtin "max") (UQ W Ng):=by
 intro pins s σ H xs us Q I rv ⟨F,as,c,sub,vs,hg,q⟩;unfold Ng at hg;split at hg
 ·obtain⟨x,rfl,va⟩:=vs.un1;obtain⟨p,ws,rfl,hp,r⟩:=va;obtain⟨ns,hn,h2⟩:=aB.mp hg;obtain rfl:=OC hn r;cases ns with
  |nil=>cases h2
  |cons i l=>
   cases h2;refine Qw hc pins s σ H _ us Q I rv ⟨p,i::l,rfl,.inl (.inl hp),by simp,λm hm hall=>?_⟩;obtain⟨h1,h2,h3⟩:=He l i;have e:m=DI i l:=by
    have a1:=hall (DI i l) (h3.elim (λh=>by rw[h];exact aF) λh=>aD _ h);have a2:=(aH.mp hm).elim (λe=>by rw[e];exact h1) (h2 m)
    lia
   rw[e];exact q.int sub
 ·obtain⟨x,y,rfl,va,vb⟩:=vs.un2;cases va;cases vb;cases hg;exact Qx hc pins s σ H _ us Q I rv ⟨_,_,rfl,q.int sub⟩
 cases hg
def rh(hc:X.calm=true):Br X (.builtin "min") (UQ W Sk):=by
 intro pins s σ H xs us Q I rv ⟨F,as,c,sub,vs,hg,q⟩;unfold Sk at hg;split at hg
 ·obtain⟨x,y,rfl,va,vb⟩:=vs.un2;cases va;cases vb;cases hg;exact Qv hc pins s σ H _ us Q I rv ⟨_,_,rfl,q.int sub⟩
 cases hg
noncomputable def Sm:List MV->Option MV
 |[.int i]=>some (.int i)
 |[.bl k]=>some (.int (if k then 1 else 0))
 |_=>none
def kJ:Br X (.type "int") (UQ W Sm):=by
 intro pins s σ H xs us Q I rv ⟨F,as,c,sub,vs,hg,q⟩;unfold Sm at hg;split at hg
 ·obtain⟨x,rfl,va⟩:=vs.un1;cases va;cases hg;exact J0 pins s σ H _ us Q I rv (.inl ⟨_,rfl,q.int sub⟩)
 ·obtain⟨x,rfl,va⟩:=vs.un1;cases va;cases hg;exact J0 pins s σ H _ us Q I rv (.inr ⟨_,rfl,q.int sub⟩)
 cases hg
noncomputable def PZ:List MV->Option MV
 |[.lst l]=>some (.tup l)
 |[.tup l]=>some (.tup l)
 |_=>none
def pK:Br X (.type "tuple") (UQ W PZ):=by
 intro pins s σ H xs us Q I rv ⟨F,as,c,sub,vs,hg,q⟩;unfold PZ at hg;split at hg
 ·obtain⟨x,rfl,va⟩:=vs.un1;obtain⟨p,ws,rfl,hp,r⟩:=va;cases hg;exact EV pins s σ H _ us Q I rv ⟨p,ws,rfl,.inl ⟨.inl (.inl hp),λl n=>q.tup sub n r⟩⟩
 ·obtain⟨x,rfl,va⟩:=vs.un1;obtain⟨p,ws,rfl,hp,r⟩:=va;cases hg;exact EV pins s σ H _ us Q I rv ⟨p,ws,rfl,.inr ⟨.inl (.inl (sub _ _ hp)),q.same sub (by unfold Ak;exact⟨p,ws,rfl,hp,r⟩)⟩⟩
 cases hg
noncomputable def Sl:List MV->Option MV
 |[.tup l]=>some (.lst l)
 |_=>none
def lstM(hK:X.K=W.K)(hc:X.calm=true):Br X (.type "list") (UQ W Sl):=by
 intro pins s σ H xs us Q I rv ⟨F,as,c,sub,vs,hg,q⟩;unfold Sl at hg;split at hg
 ·obtain⟨x,rfl,va⟩:=vs.un1;obtain⟨p,ws,rfl,hp,r⟩:=va;cases hg;exact KG pins s σ H _ us Q I rv ⟨p,ws,rfl,.inr (.inl (.inl (sub _ _ hp))),λl n=>q.lst sub n r⟩
 cases hg
end
inductive Bf where|len|isi|all|max|min|int|tup|lst
def Bf.fn(cs:List Ci):Bf->List MV->Option MV
 |.len=>L8| .isi=>Iy cs| .all=>L9| .max=>Ng| .min=>Sk| .int=>Sm| .tup=>PZ| .lst=>Sl
def Bf.nm:Bf->Str
 |.len=> "len" | .isi=> "isinstance" | .all=> "all" | .max=> "max" | .min=> "min" | .int=> "int" | .tup=> "tuple" | .lst=> "list"
inductive Bm where|join
inductive Mm where|app|ext
inductive MT where|nm(i:Nat)|tup(is:List Nat)|lst(is:List Nat)
mutual
inductive ME where
 |var (i:Nat)|mov (i:Nat)|con (m:MV)|glo (x:Str) (m:MV)|bty (x:Str) (k:Kd)
 |tup (es:EN)|lst (es:EN)|lstL (es:EN)|dicL (t:Bool)
 |fld (e:ME) (f:Nat)|idx (a b:ME)|sli (a:ME) (lo hi:oA)
 |bin (o:Uh) (a b:ME)|una (o:WM) (a:ME)|cmp (o:Iq) (a b:ME)|cmp2 (o o':Iq) (a b c:ME)
 |not (a:ME)|and (es:EN)|or (es:EN)|ife (c a b:ME)
 |call (f:Nat) (es:EN)|make (c:Nat) (es:EN)|new0 (c:Nat)|meth (m:Nat) (o:ME) (es:EN)
 |bfn (b:Bf) (es:EN)|lenset (e:ME)|bmt (b:Bm) (o:ME) (es:EN)|mmt (b:Mm) (o:ME) (es:EN)
 |comp (xs ys:List Str) (js:List Nat) (tg:MT) (it:MI) (c:EN) (e:ME)
 |calL (f:Nat) (es:EN) (k:Nat) (js:List Nat)|calv (i:Nat) (es:EN)
inductive EN where
 |nil|cons (e:ME) (r:EN)
inductive oA where
 |no|ye (e:ME)
inductive MI where
 |of (e:ME)|rng1 (a:ME)|rng2 (a b:ME)|enu (e:ME)
end
def EN.len:EN->Nat
 |.nil=>0
 |.cons _ r=>r.len+1
noncomputable def vals:List R->Option (List MV)
 |[]=>some []
 |.v m::r=>(vals r).map (m:: ·)
 |_=>none
noncomputable def Ce(h:MH):List R->Option (List MV)
 |[]=>some []
 |x::r=>(As h x).bind λm=>(Ce h r).map (m:: ·)
abbrev Ef:=En->MH->Aw R
noncomputable def LX(g:MV->MV->Option MV)(fa fb:Ef):Ef:=λμ h=>(fa μ h).bind λx h1=>(fb μ h1).bind λy h2=>Aw.of ((As h2 x).bind λa=>(As h2 y).bind λb=>(g a b).map R.v) h2
def N9(g:MV->Option MV)(fa:Ef):Ef:=λμ h=>(fa μ h).bind λx h1=>Aw.of ((As h1 x).bind λa=>(g a).map R.v) h1
def dj(g:List MV->Option MV)(fa:En->MH->Aw (List R)):Ef:=λμ h=>(fa μ h).bind λxs h1=>Aw.of ((Ce h1 xs).bind λas=>(g as).map R.v) h1
def dh(i:Nat):Ef:=λμ h=>match μ[i]? with
 |some (some r)=>.ok r h
 |_=>.no
def MO.frz:MO->MV
 |.lst l=>.lst l
 |.ins c ns vs=>.obj c ns vs
 |.gone m=>m
noncomputable def dk(i:Nat):Ef:=λμ h=>match μ[i]? with
 |some (some (.v m))=>.ok (.v m) h
 |some (some (.r n))=>match h[n]? with
  |some o=>.ok (.v o.frz) (h.set n (.gone o.frz))
  |none=>.no
 |_=>.no
def l9(fa:En->MH->Aw (List R)):Ef:=λμ h=>(fa μ h).bind λrs h1=>Aw.of ((vals rs).bind λms=>if ms.length<=1000 then some (R.v (.tup ms)) else none) h1
def lE(fa:En->MH->Aw (List R)):Ef:=λμ h=>(fa μ h).bind λrs h1=>Aw.of ((vals rs).bind λms=>if ms.length<=1000 then some (R.v (.lst ms)) else none) h1
def XN(fa:En->MH->Aw (List R)):Ef:=λμ h=>(fa μ h).bind λrs h1=>match vals rs with
 |some ms=>if ms.length<=1000 then .ok (.r h1.length) (h1++ [.lst ms]) else .no
 |none=>.no
def XO(t:Bool):Ef:=λμ h=>if t=false then .ok (.v (.dic false [] [])) h else .no
def Ji(f:Nat):List Nat->List MV->Option MV
 |n::ns,m::ms=>if n=f then some m else Ji f ns ms
 |_,_=>none
noncomputable def Kl(cs:List Ci)(f:Nat):MV->Option MV
 |.obj c ns ms=>(cs[c]?).bind λi=>if i.exc=false/\f∈i.flds then Ji f ns ms else none
 |.exc c n m=>(cs[c]?).bind λi=>if i.exc=true/\f∈i.flds/\n=f then some m else none
 |_=>none
noncomputable def Hu:MV->Option Bool
 |.non=>some false
 |.bl b=>some b
 |.int i=>some (i !=0)
 |.str z=>if z.length<=big then some ((z.length:Int) !=0) else none
 |.lst l=>some (!l.isEmpty)
 |.tup l=>some (!l.isEmpty)
 |_=>none
def TX:R->Option Bool
 |.v (.bl b)=>some b
 |_=>none
def WE:R->Option Int
 |.v (.int b)=>some b
 |_=>none
def lC(fa:Ef):Ef:=λμ h=>(fa μ h).bind λx h1=>Aw.of ((TX x).map λb=>R.v (.bl (!b))) h1
noncomputable def lK(fa fb:Ef):Ef:=λμ h=>(fa μ h).bind λx h1=>match TX x with
 |some true=>fb μ h1
 |some false=>.ok (.v (.bl false)) h1
 |none=>.no
noncomputable def wg(fa fb:Ef):Ef:=λμ h=>(fa μ h).bind λx h1=>match TX x with
 |some false=>fb μ h1
 |some true=>.ok (.v (.bl true)) h1
 |none=>.no
abbrev Tf:=En->MH->Aw Bool
def ix(fa:Ef):Tf:=λμ h=>(fa μ h).bind λx h1=>Aw.of ((As h1 x).bind Hu) h1
def tbl(fa:Ef):Tf:=λμ h=>(fa μ h).bind λx h1=>Aw.of (TX x) h1
def iH(fa:Tf):Tf:=λμ h=>(fa μ h).bind λb h1=>.ok (!b) h1
def iJ(fa fb:Tf):Tf:=λμ h=>(fa μ h).bind λb h1=>if b=true then fb μ h1 else .ok false h1
def uE(fa fb:Tf):Tf:=λμ h=>(fa μ h).bind λb h1=>if b=true then .ok true h1 else fb μ h1
def lH(c:Tf)(fa fb:Ef):Ef:=λμ h=>(c μ h).bind λb h1=>if b=true then fa μ h1 else fb μ h1
def lA(fa:Ef)(lo hi:En->MH->Aw (Option Int)):Ef:=λμ h=>(fa μ h).bind λx h1=>(lo μ h1).bind λl h2=>(hi μ h2).bind λu h3=>Aw.of ((As h3 x).bind λa=>(Ix a l u).map R.v) h3
noncomputable def Pf(o o':Iq)(fa fb fc:Ef):Ef:=λμ h=>(fa μ h).bind λx h1=>(fb μ h1).bind λy h2=>match (As h2 x).bind λa=>(As h2 y).bind λb=>B6 o a b with
 |some true=>(fc μ h2).bind λz h3=>Aw.of ((As h3 y).bind λa=>(As h3 z).bind λb=>(B6 o' a b).map λk=>R.v (.bl k)) h3
 |some false=>.ok (.v (.bl false)) h2
 |none=>.no
abbrev Fs:=Nat->List R->MH->Aw R
noncomputable def Jx(Φ:Fs)(c f:Nat)(fa:En->MH->Aw (List R)):Ef:=λμ h=>(fa μ h).bind λrs h1=>(Φ f (.r h1.length::rs) (h1++ [.ins c [] []])).bind λx h2=>match x,h2[h1.length]? with
 |.v .non,some (.ins c' ns vs)=>if h2.length=h1.length+1 then .ok (.v (.obj c' ns vs)) (h2.take h1.length) else .no
 |.v .non,some (.gone m)=>if h2.length=h1.length+1 then .ok (.v m) (h2.take h1.length) else .no
 |_,_=>.no
def meth(cs:List Ci)(m:Nat):MV->Option Nat
 |.obj c ns _=>(cs[c]?).bind λi=>if i.exc=false/\m∉ns then i.mts.lookup m else none
 |_=>none
def T8(cs:List Ci)(Φ:Fs)(m:Nat)(fo:Ef)(fa:En->MH->Aw (List R)):Ef:=λμ h=>(fo μ h).bind λx h1=>match (As h1 x).bind (meth cs m) with
 |some f=>(fa μ h1).bind λrs h2=>Φ f (x::rs) h2
 |none=>.no
noncomputable def K6(l:List MV):Option (List (List Key)):=match l with
 |[]=>some []
 |.tup k::r=>(Du k).bind λks=>(K6 r).map (ks:: ·)
 |_=>none
def Sq(l:List MV):Option MV:=(K6 l).bind λks=>if ks.length<=2 then some (.int (cntK ks:Nat)) else none
def CG:MV->Option MV
 |.tup l=>Sq l
 |.lst l=>Sq l
 |_=>none
noncomputable def Lc:List MV->Option (List Str)
 |[]=>some []
 |.str x::r=>(Lc r).map (x:: ·)
 |_=>none
noncomputable def lO:Bm->MV->List MV->Option MV
 |.join,m,as=>(UB m).bind λz=>((ZE as).bind ZV).bind λl=>(Lc l).bind λys=>if (ys.map (·.length)).sum+ys.length*z.length<=16777216 then some (.str (Txt.join z ys)) else none
def lN:Bm->MV->Bool
 |.join,m=>(UB m).isSome
noncomputable def WA(b:Bm)(fo:Ef)(fa:En->MH->Aw (List R)):Ef:=λμ h=>(fo μ h).bind λx h1=>if ((As h1 x).map (lN b))=some true then(fa μ h1).bind λrs h2=>Aw.of ((As h2 x).bind λm=>(Ce h2 rs).bind λas=>(lO b m as).map R.v) h2 else .no
noncomputable def O0:Mm->List MV->List MV->Option (List MV)
 |.app,l,[m]=>if l.length<big then some (l++ [m]) else none
 |.ext,l,[.lst z]=>if l.length+z.length<=big then some (l++z) else none
 |_,_,_=>none
def X9:Option MO->Bool
 |some (.lst _)=>true
 |_=>false
noncomputable def T7(b:Mm)(fo:Ef)(fa:En->MH->Aw (List R)):Ef:=λμ h=>(fo μ h).bind λx h1=>if (match x with| .r n=>X9 h1[n]? |_=>false)=true then(fa μ h1).bind λrs h2=>match x with
 |.r n=>match h2[n]?,vals rs with
  |some (.lst l),some as=>(match O0 b l as with
   |some l'=>.ok (.v .non) (h2.set n (.lst l'))
   |none=>.no)
  |_,_=>.no
 |_=>.no
 else .no
def Aw.nox{α:Type}:Aw α->Aw α
 |.ok a h=>.ok a h
 |_=>.no
noncomputable def AR:MT->MV->En->Option En
 |.nm i,m,μ=>some (μ.set i (some (.v m)))
 |.tup is,.tup l,μ=>if is.length=l.length then some ((is.zip l).foldl (λμ p=>μ.set p.1 (some (.v p.2))) μ) else none
 |.lst is,.lst l,μ=>if is.length=l.length then some ((is.zip l).foldl (λμ p=>μ.set p.1 (some (.v p.2))) μ) else none
 |_,_,_=>none
structure Wk where
 ms:List MV
 src:Option Nat
def GM(z:Str):List MV:=z.cps.toList.map λc=>.str ⟨#[c]⟩
noncomputable def CM:MV->Option (List MV)
 |.lst l=>some l
 |.scr l=>some l
 |.tup l=>some l
 |.str z=>some (GM z)
 |_=>none
noncomputable def Gz(h:MH):R->Option Wk
 |.v m=>(CM m).map λl=>⟨l,none⟩
 |.r n=>match h[n]? with
  |some (.lst l)=>some ⟨l,some n⟩
  |some (.gone m)=>(CM m).map λl=>⟨l,none⟩
  |_=>none
 |.l _ _=>none
def CL(lo:Int)(n:Nat):List MV:=(List.range n).map λi=>.int (lo+(i:Nat))
noncomputable def Gg:List R->Option Wk
 |[.v (.int j)]=>if -(2^62)<=j/\j<2^62 then some ⟨CL 0 j.toNat,none⟩ else none
 |[.v (.int i),.v (.int j)]=>if -(2^62)<=i/\i<2^62/\-(2^62)<=j/\j<2^62 then some ⟨CL i (j-i).toNat,none⟩ else none
 |_=>none
def EU(l:List MV):List MV:=l.zipIdx.map λp=>.tup [.int (p.2:Nat),p.1]
def Rp:MV->Option (List MV)
 |.lst l=>some l
 |.tup l=>some l
 |_=>none
noncomputable def Tt:R->Option Wk
 |.v m=>(Rp m).map λl=>⟨EU l,none⟩
 |_=>none
open Classical in
noncomputable def Bt(src:Option Nat)(l:List MV)(h:MH):Bool:=match src with
 |none=>true
 |some n=>decide (h[n]?=some (.lst l))
noncomputable def compLoop(src:Option Nat)(all:List MV)(tg:MT)(μ0:En)(tc:Tf)(te:Ef):List MV->List MV->MH->Aw (List MV)
 |[],acc,h=>if Bt src all h=true then .ok acc h else .no
 |m::r,acc,h=>if Bt src all h=true then(match AR tg m μ0 with
  |some μ1=>(tc μ1 h).nox.bind λb h2=>if b=true then(te μ1 h2).nox.bind λx h3=>(match x with
   |.v y=>compLoop src all tg μ0 tc te r (acc++ [y]) h3
   |_=>.no) else compLoop src all tg μ0 tc te r acc h2
  |none=>.no) else .no
def startC(k:Nat)(js:List Nat)(μ:En):En:=List.replicate k none++js.map λj=>(μ[j]?).join
noncomputable def Ck(k:Nat)(js:List Nat)(tg:MT)(fi:En->MH->Aw Wk)(tc:Tf)(te:Ef):Ef:=λμ h=>(fi μ h).bind λw h1=>if w.ms.length<=big then(compLoop w.src w.ms tg (startC k js μ) tc te w.ms [] h1).bind λl h2=>.ok (.v (.lst l)) h2 else .no
noncomputable def IK(μ:En):List Nat->Option (List MV)
 |[]=>some []
 |j::js=>match μ[j]? with
  |some (some (.v m))=>(IK μ js).map (m:: ·)
  |_=>none
def noL:Aw R->Aw R
 |.ok (.l _ _) _=>.no
 |x=>x
def Kh:R->Bool
 |.l _ _=>false
 |_=>true
def XR(Φ:Fs)(f:Nat)(fa:En->MH->Aw (List R))(k:Nat)(js:List Nat):Ef:=λμ h=>(fa μ h).bind λrs h1=>match IK μ js with
 |some ms=>noL (Φ f (rs++ [.l k ms]) h1)
 |none=>.no
noncomputable def TD(Φ:Fs)(i:Nat)(fa:En->MH->Aw (List R)):Ef:=λμ h=>match μ[i]? with
 |some (some (.l k ms))=>(fa μ h).bind λrs h1=>if rs.all Kh=true then(noL (Φ k (ms.map .v++rs) h1)).nox else .no
 |_=>.no
def pr(f:Ef):Ef×Tf:=(f,ix f)
def vh(f:Ef):Ef×Tf:=(f,tbl f)
section
variable (cs:List Ci) (Φ:Fs) (ini:Nat->Option Nat)
mutual
noncomputable def e2:ME->Ef×Tf
 |.var i=>pr (dh i)
 |.mov i=>pr (dk i)
 |.con m=>pr λ_ h=>.ok (.v m) h
 |.glo _ m=>pr λ_ h=>.ok (.v m) h
 |.bty _ k=>pr λ_ h=>.ok (.v (.ty k)) h
 |.tup es=>pr (l9 (BE es))
 |.lst es=>pr (lE (BE es))
 |.lstL es=>pr (XN (BE es))
 |.dicL t=>pr (XO t)
 |.fld e f=>pr (N9 (Kl cs f) (e2 e).1)
 |.idx a b=>pr (LX GC (e2 a).1 (e2 b).1)
 |.sli a lo hi=>pr (lA (e2 a).1 (cx lo) (cx hi))
 |.bin o a b=>pr (LX (BD o) (e2 a).1 (e2 b).1)
 |.una o a=>pr (N9 (ZO o) (e2 a).1)
 |.cmp o a b=>vh (LX (λx y=>(B6 o x y).map .bl) (e2 a).1 (e2 b).1)
 |.cmp2 o o' a b c=>vh (Pf o o' (e2 a).1 (e2 b).1 (e2 c).1)
 |.not a=>(lC (e2 a).1,iH (e2 a).2)
 |.and es=>Ql es
 |.or es=>Wt es
 |.ife c a b=>(lH (e2 c).2 (e2 a).1 (e2 b).1,λ_ _=>.no)
 |.call f es=>pr λμ h=>(BE es μ h).bind λrs h1=>Φ f rs h1
 |.make c es=>pr (match ini c with
  |some f=>Jx Φ c f (BE es)
  |none=>λ_ _=>.no)
 |.new0 c=>pr (match ini c with
  |some _=>λ_ _=>.no
  |none=>λ_ h=>.ok (.v (.obj c [] [])) h)
 |.meth m o es=>pr (T8 cs Φ m (e2 o).1 (BE es))
 |.bfn b es=>pr (dj (b.fn cs) (BE es))
 |.lenset e=>pr (N9 CG (e2 e).1)
 |.bmt b o es=>pr (WA b (e2 o).1 (BE es))
 |.mmt b o es=>pr (T7 b (e2 o).1 (BE es))
 |.comp xs ys js tg it c e=>pr (Ck xs.length js tg (QG it) (M6 c) (e2 e).1)
 |.calL f es k js=>pr (XR Φ f (BE es) k js)
 |.calv i es=>pr (TD Φ i (BE es))
noncomputable def BE:EN->En->MH->Aw (List R)
 |.nil=>λ_ h=>.ok [] h
 |.cons e r=>λμ h=>((e2 e).1 μ h).bind λx h1=>(BE r μ h1).bind λxs h2=>.ok (x::xs) h2
noncomputable def Ql:EN->Ef×Tf
 |.nil=>(λ_ _=>.no,λ_ h=>.ok true h)
 |.cons e .nil=>e2 e
 |.cons e (.cons e' r)=>(lK (e2 e).1 (Ql (.cons e' r)).1,iJ (e2 e).2 (Ql (.cons e' r)).2)
noncomputable def Wt:EN->Ef×Tf
 |.nil=>(λ_ _=>.no,λ_ h=>.ok false h)
 |.cons e .nil=>e2 e
 |.cons e (.cons e' r)=>(wg (e2 e).1 (Wt (.cons e' r)).1,uE (e2 e).2 (Wt (.cons e' r)).2)
noncomputable def cx:oA->En->MH->Aw (Option Int)
 |.no=>λ_ h=>.ok none h
 |.ye e=>λμ h=>((e2 e).1 μ h).bind λx h1=>Aw.of ((WE x).map some) h1
noncomputable def QG:MI->En->MH->Aw Wk
 |.of e=>λμ h=>((e2 e).1 μ h).bind λx h1=>Aw.of (Gz h1 x) h1
 |.rng1 a=>λμ h=>((e2 a).1 μ h).bind λx h1=>Aw.of (Gg [x]) h1
 |.rng2 a b=>λμ h=>((e2 a).1 μ h).bind λx h1=>((e2 b).1 μ h1).bind λy h2=>Aw.of (Gg [x,y]) h2
 |.enu e=>λμ h=>((e2 e).1 μ h).bind λx h1=>Aw.of (Tt x) h1
noncomputable def M6:EN->Tf
 |.nil=>λ_ h=>.ok true h
 |.cons e .nil=>(e2 e).2
 |.cons _ (.cons _ _)=>λ_ _=>.no
end
end
section
theorem CU:∀{rs:List R}{ms:List MV}{vs:List V},vals rs=some ms->AI W F ρ rs vs->Ad W F ms vs
 |[],ms,vs,h,r=>by simp only[vals]at h;cases h;cases r;exact .nil
 |.v m::rs,ms,vs,h,r=>by
  obtain⟨l,hl,rfl⟩:=aG.mp (show(vals rs).map (m:: ·)=some ms from h);cases r with
  |cons q t=>exact .cons q (CU hl t)
 |.r n::rs,ms,vs,h,r=>by cases h
 |.l _ _::rs,ms,vs,h,r=>by cases h
theorem D4(S:By W F H ρ h):∀{rs:List R}{ms:List MV}{vs:List V},Ce h rs=some ms->AI W F ρ rs vs->GN W F H ms vs
 |[],ms,vs,e,r=>by simp only[Ce]at e;cases e;cases r;exact .nil
 |x::rs,ms,vs,e,r=>by
  obtain⟨m,hm,e2⟩:=aB.mp (show(As h x).bind (λm=>(Ce h rs).map (m:: ·))=some ms from e);obtain⟨l,hl,rfl⟩:=aG.mp e2;cases r with
  |cons q t=>exact .cons (S.view q hm) (D4 S hl t)
def Al.out{F:Hp}{ρ:List Addr}{h:MH}{m:MV}{Q:VK}{E:Addr->Hp->Prop}(S:By W F H ρ h)(G:GE W E F ρ (.ok (.v m) h) Q):KP W F H m Q:=λF' H' v g r=>G F' ρ H' v g.nxt (S.grow g) r
def JF(t:tM W E (LX g fa fb) σ H Q):iT (QD W g) (tM W E fa) (tM W E fb) σ H Q:=by
 obtain⟨F,ρ,μ,h,S,e,G⟩:=t;refine⟨F,ρ,μ,h,S,e,(Al.bind G).imp ?_⟩;rintro x H1 ⟨F1,ρ1,r,h1,n1,S1,q1,G1⟩;refine⟨F1,ρ1,μ,h1,S1,e.nxt n1,(Al.bind G1).imp ?_⟩;rintro y H2 ⟨F2,ρ2,r2,h2,n2,S2,q2,G2⟩;obtain⟨rr,he,G3⟩:=G2.of;obtain⟨a,ha,he⟩:=aB.mp he;obtain⟨b,hb,he⟩:=aB.mp he;obtain⟨c,hc,rfl⟩:=aG.mp he;exact⟨F2,a,b,c,S2.sub,S2.view (q1.nxt n2) ha,S2.view q2 hb,hc,G3.out S2⟩
def QX(t:tM W E (N9 g fa) σ H Q):uF (vf W g) (tM W E fa) σ H Q:=by
 obtain⟨F,ρ,μ,h,S,e,G⟩:=t;refine⟨F,ρ,μ,h,S,e,(Al.bind G).imp ?_⟩;rintro x H1 ⟨F1,ρ1,r,h1,n1,S1,q1,G1⟩;obtain⟨rr,he,G3⟩:=G1.of;obtain⟨a,ha,he⟩:=aB.mp he;obtain⟨c,hc,rfl⟩:=aG.mp he;exact⟨F1,a,c,S1.sub,S1.view q1 ha,hc,G3.out S1⟩
def CK(t:tM W E (dj g fs) σ H Q):qb (UQ W g) (Ip W E fs) σ H Q:=by
 obtain⟨F,ρ,μ,h,S,e,G⟩:=t;refine⟨F,ρ,μ,h,S,e,(Al.bind (rep:=AI W) G).imp ?_⟩;rintro xs H1 ⟨F1,ρ1,rs,h1,n1,S1,q1,G1⟩;obtain⟨rr,he,G3⟩:=G1.of;obtain⟨as,ha,he⟩:=aB.mp he;obtain⟨c,hc,rfl⟩:=aG.mp he;exact⟨F1,as,c,S1.sub,D4 S1 ha q1,hc,G3.out S1⟩
def jC(hK:X.K=W.K)(o:Uh)(ha:PE X a (tM W E fa))(hb:PE X b (tM W E fb)):PE X (.BinOp a o.op b pos) (tM W E (LX (BD o) fa fb)):=PE.of (jR (xk hK o) ha hb) λ_ _ _ t=>JF t
def j0(o:WM)(ha:PE X a (tM W E fa)):PE X (.UnaryOp o.op a pos) (tM W E (N9 (ZO o) fa)):=PE.of (jP (wP o) ha) λ_ _ _ t=>QX t
def jA(hK:X.K=W.K)(hu:X.A.units+70<cLine)(o:Iq)(ha:PE X a (tM W E fa))(hb:PE X b (tM W E fb))(hm:behindInMarks o.op b=false):PE X (.Compare a [o.op] [b] pos) (tM W E (LX (λx y=>(B6 o x y).map .bl) fa fb)):=PE.of (Vt (Jw hK hu o) ha hb hm) λ_ _ _ t=>JF t
def Xr(hK:X.K=W.K)(hu:X.A.units+70<cLine)(ha:PE X a (tM W E fa))(hb:PE X b (tM W E fb))(hs:KO b):PE X (.Subscript a b pos) (tM W E (LX GC fa fb)):=PE.of (jS (xu hK hu) ha hb hs) λ_ _ _ t=>JF t
def Xl{i:Nat}{x:Str}(hN:X.N[i]?=some x)(hv:QI X.env.scope x)(hd:(x ==("__debug__" :Str))=false)(hcd:(x ==("__classdict__" :Str))=false):PE X (.Name x pos) (tM W E (dh i)):=by
 refine PE.of (Gi hN hv hd hcd) ?_;rintro σ H Q ⟨F,ρ,μ,h,S,e,G⟩;unfold dh at G;split at G
 ·rename_i r hr;obtain⟨v,h1,h2⟩:=e.at_ i r hr;exact⟨v,h1,G.ret S h2⟩
 exact G.elim
def F7(hp:PE X e (tC v))(hr:∀F,Ak W F m v):PE X e (tM W E λ_ h=>.ok (.v m) h):=
 PE.of hp λσ H Q ⟨F,ρ,μ,h,S,e,G⟩=>G.ret S (hr F)
def IX:PA X [] (Ip W E λ_ h=>.ok [] h):=PA.of MW λσ H Q ⟨F,ρ,μ,h,S,e,G⟩=>G.ret (v:=[]) S .nil
def Fc(ha:PE X e (tM W E fa))(hr:PA X es (Ip W E fs))(hs:starEach (e::es) X.env=(false,eval e X.env)::starEach es X.env):PA X (e::es) (Ip W E λμ h=>(fa μ h).bind λx h1=>(fs μ h1).bind λxs h2=>.ok (x::xs) h2):=by
 refine PA.of (FD ha hr hs) ?_;rintro σ H Q ⟨F,ρ,μ,h,S,e,G⟩;refine⟨F,ρ,μ,h,S,e,(Al.bind (rep:=AE W) G).imp ?_⟩;rintro x H1 ⟨F1,ρ1,r,h1,n1,S1,q1,G1⟩;refine⟨F1,ρ1,μ,h1,S1,e.nxt n1,(Al.bind (rep:=AI W) G1).imp ?_⟩;rintro xs H2 ⟨F2,ρ2,rs,h2,n2,S2,q2,G2⟩;exact G2.ret S2 (.cons (q1.nxt n2) q2)
def Xm{x1:Nat}(h:PA X es (Ip W E fs)):PE X (.Tuple es x1 pos) (tM W E (l9 fs)):=by
 refine PE.of (Zw h) ?_;rintro σ H Q ⟨F,ρ,μ,h,S,e,G⟩;refine⟨F,ρ,μ,h,S,e,(Al.bind (rep:=AI W) G).imp ?_⟩;rintro xs H1 ⟨F1,ρ1,rs,h1,n1,S1,q1,G1⟩;obtain⟨rr,he,G3⟩:=G1.of;obtain⟨ms,hm,he⟩:=aB.mp he;obtain⟨hl,rfl⟩:=Ap he;have r:=CU hm q1;exact⟨by rw[←r.len,KJ];exact b9 hl (by decide),λp n=>(G3.out S1).tup S1.sub n r⟩
def Xp(h:PA X es (Ip W E fs)):PE X (.List es pos) (tM W E (lE fs)):=by
 refine PE.of (RP h) ?_;rintro σ H Q ⟨F,ρ,μ,h,S,e,G⟩;refine⟨F,ρ,μ,h,S,e,(Al.bind (rep:=AI W) G).imp ?_⟩;rintro xs H1 ⟨F1,ρ1,rs,h1,n1,S1,q1,G1⟩;obtain⟨rr,he,G3⟩:=G1.of;obtain⟨ms,hm,he⟩:=aB.mp he;obtain⟨hl,rfl⟩:=Ap he;have r:=CU hm q1;exact⟨by rw[←r.len,KJ];exact b9 hl (by decide),λp n=>(G3.out S1).lst S1.sub n r⟩
def CD.of_new{F:Hp}{p a:Addr}{o:HO}{m:MO}(n:H p=none)(l:CD W F H a m):CD W F (upd H p o) a m:=by
 cases m with
 |lst l'=>obtain⟨n1,vs,h,r⟩:=l;exact⟨n1,vs,by rw[Aa (Am h n)];exact h,r⟩
 |ins c ns ms=>obtain⟨n1,dx,vs,h1,h2,n2,h3,r⟩:=l;exact⟨n1,dx,vs,by rw[Aa (Am h1 n)];exact h1,by rw[Aa (Am h2 n)];exact h2,n2,h3,r⟩
 |gone m=>exact l
def CD.there{F:Hp}{a:Addr}{m:MO}(s:An F H)(l:CD W F H a m):∃o,H a=some o:=by
 cases m with
 |lst l'=>obtain⟨n1,vs,h,r⟩:=l;exact⟨_,h⟩
 |ins c ns ms=>obtain⟨n1,dx,vs,h1,_⟩:=l;exact⟨_,h1⟩
 |gone m=>obtain⟨_,o,h⟩:=l;exact⟨o,s _ _ h.1⟩
def By.mem{F:Hp}{ρ:List Addr}{h:MH}(S:By W F H ρ h){a:Addr}(ha:a∈ρ):∃o,H a=some o:=by
 obtain⟨n,hn,rfl⟩:=dW.mp ha;have hl:n<h.length:=by rw[←S.len];exact hn
 exact(S.obj n _ _ (by simp[hn]) (show h[n]?=some h[n] by simp[hl])).there S.sub
def By.push(S:By W F H ρ h)(n:H p=none)(l:CD W F (upd H p o) p m):By W F (upd H p o) (ρ++ [p]) (h++ [m]):=by
 refine⟨λb u e=>by rw[Aa (Am (S.sub _ _ e) n)];exact S.sub _ _ e,?_,by simp[S.len],λk a m' h1 h2=>?_,S.tb.upd (λu e=>by rw[n]at e;cases e),S.tf⟩
 ·rw[dB];refine⟨S.nd,by simp,λa ha b hb=>?_⟩;have hb:b=p:=by simpa using hb
  subst hb;obtain⟨o',e⟩:=S.mem ha;exact Am e n
 by_cases hk:k<ρ.length
 ·rw[aS hk]at h1;rw[aS (by rw[←S.len];exact hk)]at h2;exact(S.obj k a m' h1 h2).of_new n
 have hk2:k=ρ.length:=by
  have:=(aE.mp h1).1;simp at this
  lia
 subst hk2;rw[aU (aN _)]at h1;rw[aU (by rw[S.len];exact aN _)]at h2;simp[S.len]at h1 h2;subst h1 h2;exact l
def By.nxtPush:Ep F ρ F (ρ++ [p]):=⟨An.refl _,List.prefix_append _ _⟩
def By.atLast(S:By W F H ρ h):AE W F (ρ++ [p]) (.r h.length) (.ref p):=⟨p,rfl,by rw[←S.len];simp⟩
def YT(h:PA X es (Ip W E fs)):PE X (.List es pos) (tM W E (XN fs)):=by
 refine PE.of (RP h) ?_;rintro σ H Q ⟨F,ρ,μ,h,S,e,G⟩;refine⟨F,ρ,μ,h,S,e,(Al.bind (rep:=AI W) G).imp ?_⟩;rintro xs H1 ⟨F1,ρ1,rs,h1,n1,S1,q1,G1⟩;split at G1
 ·rename_i ms hm;split at G1
  ·rename_i hl;have r:=CU hm q1;refine⟨by rw[←r.len,KJ];exact b9 hl (by decide),λp n=>?_⟩;exact G1 F1 (ρ1++ [p]) _ _ By.nxtPush (S1.push n ⟨S1.sub.free n,xs,Ab,r⟩) S1.atLast
  exact G1.elim
 exact G1.elim
end
end B
namespace L2
open PySem PySem.Spec PyProof.Rows
section
def Ae.freezeK(I:Ae X pins σ H s)(e:H a=some (.dK kvs)):∃ob,Ae X pins σ (upd H a (.frz ob (.dK kvs))) s:=by
 have ok:=(show AN X.prog X.w H s.heap a (.dK kvs) from I.hok a _ e);obtain⟨z,y,vs,r,ob,es,ep,h1,h2⟩:=id ok;have ne:∀{b:Addr}{o:HO},H b=some o->o≠ .dK kvs->b≠a:=λq n=>Oy q e n;refine⟨ob,?_⟩;show Ae X pins σ (upd H a (.frz ob (.dK kvs))) {s with heap:=s.heap,gens:=s.gens,drawn:=s.drawn,toks:=s.toks};refine I.step (h':=s.heap) (t':=s.toks) (g':=s.gens) (d':=s.drawn) (ch:=[]) (λb hb=>by cases hb) (λb o _ _ _ q _=>q) (λb o _ _ _ q _=>⟨o.slots,q⟩) (λb o _ q n=>?_) (λb o _ q=>⟨o,q⟩)
  (λb xs q=>?_) (λb o u q=>?_) (λb ps q=>?_) (λm hm=>hm) (λb o q=>?_) I.bare
 ·rw[Aa (λz=>by subst z;rw[e]at n;cases n)];exact n
 ·rw[Aa (ne q (by intro z;cases z))];exact q
 ·rw[Aa (ne q (by intro z;cases z))];exact q
 ·exact⟨#[],by rw[Aa (ne q (by intro z;cases z)),q];simp⟩
 have own:∀c x,H c=some (.own x)->upd H a (.frz ob (.dK kvs)) c=some (.own x):=λc x q=>by rw[Aa (ne q (by intro z;cases z))];exact q
 have tup:∀c ys,H c=some (.tup ys)->upd H a (.frz ob (.dK kvs)) c=some (.tup ys):=λc x q=>by rw[Aa (ne q (by intro z;cases z))];exact q
 by_cases hb:b=a
 ·subst hb;rw[Ab]at q;cases q;exact⟨h1,ok.stay (λ_ _ _ q=>q) (λc q=>own c _ q) tup⟩
 rw[Aa hb]at q;exact(I.hok b o q).stay (λ_ _ _ q=>q) (λc q=>own c _ q) tup
end
end L2
namespace B
open PySem L2 PySem.SeqAt
open PyProof.Rows hiding St
section
def CD.apart(hpq:q≠p)(sF:An F F')(hF:∀b,b≠p->F' b=F b\/∃x,H b=some (.own x)/\x=p)(hH:∀b o,b≠p->H b=some o->H' b=some o)(hm:∀x,H p≠some (.own x))(l:CD W F H q m):CD W F' H' q m:=by
 have fn:∀{b:Addr},b≠p->(∀x,H b=some (.own x)->x≠p)->F b=none->F' b=none:=λhb ho n=>by
  rcases hF _ hb with h|⟨x,h1,h2⟩
  ·rw[h];exact n
  exact absurd h2 (ho x h1)
 cases m with
 |lst l'=>obtain⟨n1,vs,h,r⟩:=l;exact⟨fn hpq (λx z=>by rw[h]at z;cases z) n1,vs,hH _ _ hpq h,r.same sF⟩
 |ins c ns ms=>
  obtain⟨n1,dx,vs,h1,h2,n2,h3,r⟩:=l;have hd:dx≠p:=λz=>by subst z;exact hm _ h2
  exact⟨fn hpq (λx z=>by rw[h1]at z;cases z) n1,dx,vs,hH _ _ hpq h1,hH _ _ hd h2,fn hd (λx z=>by rw[h2]at z;cases z;exact hpq) n2,h3,r.same sF⟩
 |gone m=>obtain⟨r,o,h⟩:=l;exact⟨r.same sF,o,sF _ _ h.1,h.2⟩
def N2{α:Type}{l:List α}{n k:Nat}{x y:α}(h:(l.set n x)[k]?=some y):(k=n/\y=x)\/(k≠n/\l[k]?=some y):=by
 by_cases hk:n=k
 ·subst hk;rw[dU]at h;simp at h;exact .inl ⟨rfl,h.2.symm⟩
 rw[bI hk]at h;exact .inr ⟨λz=>hk z.symm,h⟩
def Nodup.inj{ρ:List Addr}(nd:ρ.Nodup){n k:Nat}(h1:ρ[n]?=some p)(h2:ρ[k]?=some p):n=k:=by
 obtain⟨l1,e1⟩:=aE.mp h1;obtain⟨l2,e2⟩:=aE.mp h2;have:=cP.mp nd;rcases Nat.lt_trichotomy n k with z|z|z
 ·exact absurd (e1.trans e2.symm) (this n k l1 l2 z)
 ·exact z
 exact absurd (e2.trans e1.symm) (this k n l2 l1 z)
def By.freeze{ρ:List Addr}{h:MH}{n:Nat}(S:By W F H ρ h)(hp:ρ[n]?=some p)(sub:An F' H')(sF:An F F')(hF:∀b,b≠p->F' b=F b\/∃x,H b=some (.own x)/\x=p)(hH:∀b o,b≠p->H b=some o->H' b=some o)(hm:∀x,H p≠some (.own x))(r:Ak W F' m (.ref p))(ho:∃o,F' p=some o/\∀ob,o≠AX p ob)(ht:∀u,H p=some u->M7 u->H' p=some u)(hp2:∀ps,H p≠some (.tbl ps)):By W F' H' ρ (h.set n (.gone m)):=by
 refine⟨sub,S.nd,by simp[S.len],λk q m' h1 h2=>?_,S.tb.keep λb u e t=>(if hb:b=p then by subst hb;exact ht u e t else hH b u hb e),λt ht=>by
  obtain⟨ps,e,_⟩:=S.tb t ht;rcases hF t.1 (λz=>hp2 ps (by rw[←z];exact e)) with q|⟨x,q,_⟩
  ·rw[q];exact S.tf t ht
  rw[e]at q;cases q⟩
 rcases N2 h2 with⟨rfl,rfl⟩|⟨hk,h2⟩
 ·rw[hp]at h1;cases h1;exact⟨r,ho⟩
 have hq:q≠p:=λz=>hk (Nodup.inj S.nd (by rw[←z];exact h1) hp);exact(S.obj k q m' h1 h2).apart hq sF hF hH hm
def j6{i:Nat}{x:Str}(hN:X.N[i]?=some x)(hv:QI X.env.scope x)(hd:(x ==("__debug__" :Str))=false)(hcd:(x ==("__classdict__" :Str))=false):PE X (.Name x pos) (tM W E (dk i)):=by
 intro pins s σ H Q I ⟨F,ρ,μ,h,S,e,G⟩;unfold dk at G;split at G
 ·rename_i m hm;obtain⟨v,h1,h2⟩:=e.at_ i _ hm;exact Gi hN hv hd hcd pins s σ H Q I ⟨v,h1,G.ret S h2⟩
 ·rename_i n hn;obtain⟨v,h1,p,rfl,hp⟩:=e.at_ i _ hn;split at G
  ·rename_i o ho;have l:=S.obj n p o hp ho;have go:∀{F':Hp},An F' H->An F F'->(∀b,b≠p->F' b=F b\/∃x,H b=some (.own x)/\x=p)->(∀x,H p≠some (.own x))->Ak W F' o.frz (.ref p)->(∃o,F' p=some o/\∀ob,o≠AX p ob)->(∀ps,H p≠some (.tbl ps))->wpAny (model X.prog X.w) X.A (eval (.Name x pos) X.env) (EP X pins σ Q) X.xe s:=λ{F'} sub sF hF hm r ho htb=>by
    refine Gi hN hv hd hcd pins s σ H Q I ⟨.ref p,h1,?_⟩;exact G F' ρ H (.ref p) ⟨sF,cD _⟩ (S.freeze hp sub sF hF (λb o _ q=>q) hm r ho (λ_ e _=>e) htb) r
   cases o with
   |lst l'=>
    obtain⟨n1,vs,hH,r⟩:=l;refine go (F':=upd F p (.lst vs)) (λb u z=>?_) (.new n1) (λb hb=>.inl (Aa hb)) (λx z=>by rw[hH]at z;cases z) (by unfold MO.frz Ak;exact⟨p,vs,rfl,Ab,r.same (.new n1)⟩) ⟨_,Ab,λob z=>by cases z⟩ (λps z=>by rw[hH]at z;cases z);by_cases hb:b=p
    ·subst hb;rw[Ab]at z;cases z;exact hH
    rw[Aa hb]at z;exact S.sub _ _ z
   |ins c ns ms=>
    obtain⟨n1,dx,vs,hH,hD,n2,h3,r⟩:=l;have hdp:dx≠p:=Oy hD hH (by intro z;cases z);have n2':(upd F p (.ins (W.ca c) dx ((ns.map W.nm).zip vs))) dx=none:=by rw[Aa hdp];exact n2
    have sF:An F (upd (upd F p (.ins (W.ca c) dx ((ns.map W.nm).zip vs))) dx (.own p)):=(An.new n1).trans (.new n2');refine go (F':=upd (upd F p (.ins (W.ca c) dx ((ns.map W.nm).zip vs))) dx (.own p)) (λb u z=>?_) sF (λb hb=>?_) (λx z=>by rw[hH]at z;cases z) ?_ ⟨_,by rw[Aa (bL hdp)];exact Ab,λob z=>by cases z⟩ (λps z=>by rw[hH]at z;cases z)
    ·by_cases hb:b=dx
     ·subst hb;rw[Ab]at z;cases z;exact hD
     rw[Aa hb]at z;by_cases hb2:b=p
     ·subst hb2;rw[Ab]at z;cases z;exact hH
     rw[Aa hb2]at z;exact S.sub _ _ z
    ·by_cases hb2:b=dx
     ·subst hb2;exact .inr ⟨p,hD,rfl⟩
     exact .inl (by rw[Aa hb2,Aa hb])
    unfold MO.frz Ak;exact⟨p,dx,vs,rfl,by rw[Aa (bL hdp)];exact Ab,Ab,h3,r.same sF⟩
   |gone m=>
    obtain⟨r,o,ho⟩:=l;have e2:h.set n (.gone m)=h:=by
     apply eO;intro k;by_cases hk:n=k
     ·subst hk;rename_i ho' ;rw[dU];simp[ho'];exact(aE.mp ho').1
     rw[bI hk]
    exact Gi hN hv hd hcd pins s σ H Q I ⟨.ref p,h1,G F ρ H (.ref p) .refl (by show By W F H ρ (h.set n (.gone m));rw[e2];exact S) r⟩
  exact G.elim
 exact G.elim
def YW(t:Bool):PE X (.Dict [] [] pos) (tM W E (XO t)):=by
 cases t with
 |true=>exact λpins s σ H Q I ⟨F,ρ,μ,h,S,e,G⟩=>G.elim
 |false=>
  intro pins s σ H Q I ⟨F,ρ,μ,h,S,e,G⟩;refine Bg (RU pins s σ H (λx H1=>∃p,x=.ref p/\H p=none/\H1=upd H p (.dK [])) I λp n=>⟨p,rfl,n,rfl⟩) ?_;rintro v s1 ⟨x,H1,I1,r1,p,rfl,n,rfl⟩;obtain⟨ob,I2⟩:=I1.freezeK (kvs:=[]) Ab;have e2:upd (upd H p (.dK [])) p (.frz ob (.dK []))=upd H p (.frz ob (.dK [])):=by
   funext b
   by_cases hb:b=p
   ·subst hb;rw[Ab,Ab]
   rw[Aa hb,Aa hb,Aa hb]
  rw[e2]at I2;have g:Dc F H (upd F p (.frz ob (.dK []))) (upd H p (.frz ob (.dK []))):=.new S.sub n;refine⟨.ref p,_,I2,r1,G _ ρ _ _ g.nxt (S.grow g) ?_⟩;show Ak W _ (.dic false [] []) (.ref p);unfold Ak;exact⟨p,[],rfl,.nil,.inr ⟨[],rfl,rfl,⟨ob,Ab⟩,rfl⟩⟩
theorem LA{f:Nat}:∀{ns:List Nat}{ms:List MV}{vs:List V}{m:MV},Ji f ns ms=some m->Ad W F ms vs->ns.length=vs.length->∃v,((ns.map W.nm).zip vs).lookup (W.nm f)=some v/\Ak W F m v
 |[],_,_,_,h,_,_=>by simp[Ji]at h
 |n::ns,[],_,_,h,_,_=>by simp[Ji]at h
 |n::ns,m'::ms,vs,m,h,r,hl=>by
  obtain⟨v,us,rfl,h1,h2⟩:=r.uncons;unfold Ji at h;by_cases hn:n=f
  ·rw[if_pos hn]at h;cases h;subst hn;exact⟨v,by simp,h1⟩
  rw[if_neg hn]at h;obtain⟨w',e1,e2⟩:=LA h h2 (by simpa using hl);refine⟨w',?_,e2⟩;have:(W.nm f ==W.nm n)=false:=bO.mpr λz=>hn (W.inj _ _ z).symm;simp[List.lookup_cons,this,e1]
def Xs(hK:X.K=W.K)(kt:Kt cs W){f:Nat}(he:PE X e (tM W E fa))(hb:attributeBase e (W.nm f) X.env (eval e X.env)=eval e X.env):PE X (.Attribute e (W.nm f) pos) (tM W E (N9 (Kl cs f) fa)):=by
 intro pins s σ H Q I h;refine WD hb (Bg (he pins s σ H _ I (QX h)) ?_);rintro u s1 ⟨x,H1,I1,rx,F,a,c,sub,va,hg,q⟩;cases a<;>simp only[Kl]at hg<;>first|(cases hg;done)|skip
 ·obtain⟨i,hi,h2⟩:=aB.mp hg;rename_i c' ns ms;by_cases hc:i.exc=false/\f∈i.flds
  ·rw[if_pos hc]at h2;obtain⟨p,dx,vs,rfl,hp,hd,hl,r⟩:=va;obtain rfl:u=Value.ref p:=rx;obtain⟨v,e1,e2⟩:=LA h2 r hl;exact N1 I1 hp (by rw[hK];exact(kt.kc c' i hi hc.1).1) (by rw[hK];exact kt.kn c' i f hi hc.2 hc.1) e1 λu' s2 I2 ru=>⟨v,H1,I2,ru,q.same sub e2⟩
  rw[if_neg hc]at h2;cases h2
 obtain⟨i,hi,h2⟩:=aB.mp hg;rename_i c' n m;obtain⟨⟨h3,h4,rfl⟩,rfl⟩:=Ap h2;obtain⟨p,dx,v,rfl,hx,r⟩:=va;obtain rfl:u=Value.ref p:=rx;exact Uv I1 hx (by rw[hK];exact kt.kx c' i n hi h4 h3) (by simp) λu' s2 I2 ru=>⟨v,H1,I2,ru,q.same sub r⟩
def iY(W:Wd)(E:RX)(f:En->MH->Aw (Option Int)):TO:=λσ H Q=>XY W σ H λF ρ μ h=>Al W (λ_ _ a b=>a=b) (E σ) F ρ (f μ h) Q
def PO.of{e:Option Expr}{t t':TO}(h:PO X e t)(i:∀σ H Q,t' σ H Q->t σ H Q):PO X e t':=λpins s σ H Q I q=>h pins s σ H Q I (i σ H Q q)
def j5:PO X none (iY W E λ_ h=>.ok none h):=PO.of Va λσ H Q ⟨F,ρ,μ,h,S,e,G⟩=>G.ret (v:=none) S rfl
def TW{i:Int}(h:WE r=some i)(q:AE W F ρ r v):v=.int i:=by
 unfold WE at h;split at h
 ·cases h;have q:=q;unfold Ak at q;exact q
 cases h
def Gs(h:TX r=some i)(q:AE W F ρ r v):v=.bl i:=by
 unfold TX at h;split at h
 ·cases h;have q:=q;unfold Ak at q;exact q
 cases h
def jz(h:PE X e (tM W E fa)):PO X (some e) (iY W E λμ h=>(fa μ h).bind λx h1=>Aw.of ((WE x).map some) h1):=by
 refine PO.of (UZ h) ?_;rintro σ H Q ⟨F,ρ,μ,h,S,e,G⟩;refine⟨F,ρ,μ,h,S,e,(Al.bind (rep:=AE W) G).imp ?_⟩;rintro x H1 ⟨F1,ρ1,r,h1,n1,S1,q1,G1⟩;obtain⟨rr,he,G3⟩:=G1.of;obtain⟨i,hi,rfl⟩:=aG.mp he;exact⟨i,TW hi q1,G3.ret (v:=some i) S1 rfl⟩
def j3(hK:X.K=W.K){lo hi:Option Expr}(ha:PE X a (tM W E fa))(hl:PO X lo (iY W E fl))(hh:PO X hi (iY W E fh)):PE X (.Subscript a (.Slice lo hi none p2) pos) (tM W E (lA fa fl fh)):=by
 refine PE.of (RM (wY hK) ha hl hh) ?_;rintro σ H Q ⟨F,ρ,μ,h,S,e,G⟩;refine⟨F,ρ,μ,h,S,e,(Al.bind (rep:=AE W) G).imp ?_⟩;rintro x H1 ⟨F1,ρ1,r,h1,n1,S1,q1,G1⟩;refine⟨F1,ρ1,μ,h1,S1,e.nxt n1,(Al.bind (rep:=λ_ _ a b=>a=b) G1).imp ?_⟩;rintro l H2 ⟨F2,ρ2,l',h2,n2,S2,rfl,G2⟩;refine⟨F2,ρ2,μ,h2,S2,(e.nxt n1).nxt n2,(Al.bind (rep:=λ_ _ a b=>a=b) G2).imp ?_⟩;rintro u H3 ⟨F3,ρ3,u',h3,n3,S3,rfl,G3⟩;obtain⟨rr,he,G4⟩:=G3.of;obtain⟨m,hm,he⟩:=aB.mp he;obtain⟨c,hc,rfl⟩:=aG.mp he;exact⟨F3,m,c,S3.sub,S3.view ((q1.nxt n2).nxt n3) hm,hc,G4.out S3⟩
end
section
variable {X:Cx}{W:Wd}{E:RX}{σ:St}{H F:Hp}{a b c e:Expr}{rest:List Expr}{pos:Pos}{fa fb fc:Ef}{ta tb:Tf}
abbrev cy:Hp->List Addr->Bool->Bool->Prop:=λ_ _ a b=>a=b
def PW.of(h:PW X e t)(i:∀σ H Q,t' σ H Q->t σ H Q):PW X e t':=λwh pins s σ H Q I q=>h wh pins s σ H Q I (i σ H Q q)
def JV:Expr->Bool
 |.UnaryOp .Not _ _=>false
 |.BoolOp _ _ _=>false
 |.IfExp _ _ _ _=>false
 |.Compare _ _ _ _=>false
 |_=>true
def P6(h:JV e=true):∀whole,PySem.isTrue e env whole=(do let v ←whole;standAt e.pos;holding [v] (truthy v)):=by
 intro whole;cases e with
 |UnaryOp op x p=>cases op<;>first|(cases h;done)|(unfold PySem.isTrue;rfl)
 |BoolOp _ _ _=>cases h
 |IfExp _ _ _ _=>cases h
 |Compare _ _ _ _=>cases h
 |_=>unfold PySem.isTrue;rfl
def Ad.emp(r:Ad W F l vs):l.isEmpty=vs.isEmpty:=by
 have:=r.len;cases l<;>cases vs<;>simp_all
def QU(hK:X.K=W.K)(sub:An F H)(va:Bh W F H m x)(h:Hu m=some k):fv X.K x H k:=by
 cases m<;>simp only[Hu]at h<;>first|(cases h;done)|skip
 ·cases va;cases h;rfl
 ·cases va;cases h;rfl
 ·cases va;cases h;rfl
 ·obtain⟨hz,rfl⟩:=Ap h;cases va;exact⟨hz,rfl⟩
 ·obtain⟨p,vs,rfl,hp,r⟩:=va;cases h;have e:=r.emp;exact .inr (.inl ⟨vs,.inl (.inl (sub _ _ hp)),by rw[e]⟩)
 obtain⟨p,vs,rfl,hp,r⟩:=va;cases h;have e:=r.emp;exact .inl ⟨vs,.inl (.inl hp),by rw[e]⟩
def iK(hK:X.K=W.K)(ha:PE X e (tM W E fa))(hp:JV e=true):PT X e (Gb W E (ix fa)):=by
 refine PT.of (R1 ha (P6 hp)) ?_;rintro σ H Q ⟨F,ρ,μ,h,S,e,G⟩;refine⟨F,ρ,μ,h,S,e,(Al.bind (rep:=AE W) G).imp ?_⟩;rintro x H1 ⟨F1,ρ1,r,h1,n1,S1,q1,G1⟩;obtain⟨k,he,G3⟩:=G1.of;obtain⟨m,hm,he⟩:=aB.mp he;exact⟨k,QU hK S1.sub (S1.view q1 hm) he,G3.ret (v:=k) S1 rfl⟩
def Lb(i:∀Q,tM W E f σ H Q->t σ H Q)(h:Gb W E (tbl f) σ H Q):QY t σ H Q:=by
 obtain⟨F,ρ,μ,h,S,e,G⟩:=h;refine i _ ⟨F,ρ,μ,h,S,e,(Al.bind (rep:=AE W) G).imp ?_⟩;rintro x H1 ⟨F1,ρ1,r,h1,n1,S1,q1,G1⟩;obtain⟨k,he,G3⟩:=G1.of;exact⟨k,Gs he q1,G3.ret (v:=k) S1 rfl⟩
def iN(hK:X.K=W.K)(hu:X.A.units+70<cLine)(o:Iq)(ha:PE X a (tM W E fa))(hb:PE X b (tM W E fb))(hm:behindInMarks o.op b=false):PT X (.Compare a [o.op] [b] pos) (Gb W E (tbl (LX (λx y=>(B6 o x y).map .bl) fa fb))):=
 PT.of (UV (Jw hK hu o) ha hb hm) λσ H Q t=>Lb (λQ t=>JF t) t
def Mb(t:tM W E (Pf o o' fa fb fc) σ H Q):M8 (QD W λx y=>(B6 o x y).map .bl) (QD W λx y=>(B6 o' x y).map .bl) (tM W E fa) (tM W E fb) (tM W E fc) σ H Q:=by
 obtain⟨F,ρ,μ,h,S,e,G⟩:=t;refine⟨F,ρ,μ,h,S,e,(Al.bind (rep:=AE W) G).imp ?_⟩;rintro x H1 ⟨F1,ρ1,r,h1,n1,S1,q1,G1⟩;refine⟨F1,ρ1,μ,h1,S1,e.nxt n1,(Al.bind (rep:=AE W) G1).imp ?_⟩;rintro y H2 ⟨F2,ρ2,r2,h2,n2,S2,q2,G2⟩;split at G2
 ·rename_i hk;obtain⟨a,ha,hk⟩:=aB.mp hk;obtain⟨b,hb,hk⟩:=aB.mp hk;refine⟨F2,a,b,.bl true,S2.sub,S2.view (q1.nxt n2) ha,S2.view q2 hb,by show Option.map MV.bl (B6 o a b)=_;rw[hk];rfl,λF' H' v g r=>?_⟩;unfold Ak at r;subst r;refine⟨true,rfl,ar ?_⟩;refine⟨F',ρ2,μ,h2,S2.grow g,((e.nxt n1).nxt n2).nxt g.nxt,(Al.bind (rep:=AE W) (G2.nxt g.nxt)).imp ?_⟩;rintro z H3 ⟨F3,ρ3,r3,h3,n3,S3,q3,G3⟩;obtain⟨rr,he,G4⟩:=G3.of;obtain⟨a',ha',he⟩:=aB.mp he;obtain⟨b',hb',he⟩:=aB.mp he;obtain⟨k,hk',rfl⟩:=aG.mp he;exact⟨F3,a',b',.bl k,S3.sub,S3.view ((q2.nxt g.nxt).nxt n3) ha',S3.view q3 hb',by show Option.map MV.bl (B6 o' a' b')=_;rw[hk'];rfl,G4.out S3⟩
 ·rename_i hk;obtain⟨a,ha,hk⟩:=aB.mp hk;obtain⟨b,hb,hk⟩:=aB.mp hk;refine⟨F2,a,b,.bl false,S2.sub,S2.view (q1.nxt n2) ha,S2.view q2 hb,by show Option.map MV.bl (B6 o a b)=_;rw[hk];rfl,λF' H' v g r=>?_⟩;unfold Ak at r;subst r;exact⟨false,rfl,au ((G2.out S2) F' H' _ g (by unfold Ak;rfl))⟩
 exact G2.elim
def YY(hK:X.K=W.K)(hu:X.A.units+70<cLine)(o o':Iq)(ha:PE X a (tM W E fa))(hb:PE X b (tM W E fb))(hc:PE X c (tM W E fc))(hm:lastMarks [o.op,o'.op] [b,c]=false):PE X (.Compare a [o.op,o'.op] [b,c] pos) (tM W E (Pf o o' fa fb fc)):=
 PE.of (RV (Jw hK hu o) (Jw hK hu o') ha hb hc hm) λσ H Q t=>Mb t
def Yz(hK:X.K=W.K)(hu:X.A.units+70<cLine)(o o':Iq)(ha:PE X a (tM W E fa))(hb:PE X b (tM W E fb))(hc:PE X c (tM W E fc))(hm:lastMarks [o.op,o'.op] [b,c]=false):PT X (.Compare a [o.op,o'.op] [b,c] pos) (Gb W E (tbl (Pf o o' fa fb fc))):=
 PT.of (R3 (Jw hK hu o) (Jw hK hu o') ha hb hc hm) λσ H Q t=>Lb (λQ t=>Mb t) t
def iM(ha:PT X a (Gb W E ta)):PT X (.UnaryOp .Not a pos) (Gb W E (iH ta)):=by
 refine PT.of (Zi ha) ?_;rintro σ H Q ⟨F,ρ,μ,h,S,e,G⟩;refine⟨F,ρ,μ,h,S,e,(Al.bind (rep:=cy) G).imp ?_⟩;rintro x H1 ⟨F1,ρ1,r,h1,n1,S1,rfl,G1⟩;exact G1.ret S1 rfl
def Y0(ha:PT X a (Gb W E ta)):PW X (.BoolOp .And [a] pos) (Gb W E ta):=UU ha
def iL(ha:PT X a (Gb W E ta)):PW X (.BoolOp .Or [a] pos) (Gb W E ta):=Zg ha
def iO(ha:PT X a (Gb W E ta))(hb:PW X (.BoolOp .And (b::rest) pos) (Gb W E tb)):PW X (.BoolOp .And (a::b::rest) pos) (Gb W E (iJ ta tb)):=by
 refine PW.of (Zh ha hb) ?_;rintro σ H Q ⟨F,ρ,μ,h,S,e,G⟩;refine⟨F,ρ,μ,h,S,e,(Al.bind (rep:=cy) G).imp ?_⟩;rintro x H1 ⟨F1,ρ1,r,h1,n1,S1,rfl,G1⟩;by_cases hx:r=true
 ·rw[if_pos hx]at G1 ⊢;exact⟨F1,ρ1,μ,h1,S1,e.nxt n1,G1⟩
 rw[if_neg hx]at G1 ⊢;exact G1.ret S1 rfl
def pR(ha:PT X a (Gb W E ta))(hb:PW X (.BoolOp .Or (b::rest) pos) (Gb W E tb)):PW X (.BoolOp .Or (a::b::rest) pos) (Gb W E (uE ta tb)):=by
 refine PW.of (jL ha hb) ?_;rintro σ H Q ⟨F,ρ,μ,h,S,e,G⟩;refine⟨F,ρ,μ,h,S,e,(Al.bind (rep:=cy) G).imp ?_⟩;rintro x H1 ⟨F1,ρ1,r,h1,n1,S1,rfl,G1⟩;by_cases hx:r=true
 ·rw[if_pos hx]at G1 ⊢;exact G1.ret S1 rfl
 rw[if_neg hx]at G1 ⊢;exact⟨F1,ρ1,μ,h1,S1,e.nxt n1,G1⟩
def j4(ha:PE X a (tM W E fa)):PE X (.UnaryOp .Not a pos) (tM W E (lC fa)):=by
 refine PE.of (Zx ha) ?_;rintro σ H Q ⟨F,ρ,μ,h,S,e,G⟩;refine⟨F,ρ,μ,h,S,e,(Al.bind (rep:=AE W) G).imp ?_⟩;rintro x H1 ⟨F1,ρ1,r,h1,n1,S1,q1,G1⟩;obtain⟨rr,he,G3⟩:=G1.of;obtain⟨k,hk,rfl⟩:=aG.mp he;exact⟨k,Gs hk q1,(G3.out S1).bl S1.sub⟩
def jD(ha:PE X a (tM W E fa))(hb:PE X (.BoolOp .And (b::rest) pos) (tM W E fb)):PE X (.BoolOp .And (a::b::rest) pos) (tM W E (lK fa fb)):=by
 refine PE.of (Z3 ha hb) ?_;rintro σ H Q ⟨F,ρ,μ,h,S,e,G⟩;refine⟨F,ρ,μ,h,S,e,(Al.bind (rep:=AE W) G).imp ?_⟩;rintro x H1 ⟨F1,ρ1,r,h1,n1,S1,q1,G1⟩;split at G1
 ·rename_i hk;exact⟨true,Gs hk q1,ar ⟨F1,ρ1,μ,h1,S1,e.nxt n1,G1⟩⟩
 ·rename_i hk;exact⟨false,Gs hk q1,au ((G1.out S1).bl S1.sub)⟩
 exact G1.elim
def qH(ha:PE X a (tM W E fa))(hb:PE X (.BoolOp .Or (b::rest) pos) (tM W E fb)):PE X (.BoolOp .Or (a::b::rest) pos) (tM W E (wg fa fb)):=by
 refine PE.of (jQ ha hb) ?_;rintro σ H Q ⟨F,ρ,μ,h,S,e,G⟩;refine⟨F,ρ,μ,h,S,e,(Al.bind (rep:=AE W) G).imp ?_⟩;rintro x H1 ⟨F1,ρ1,r,h1,n1,S1,q1,G1⟩;split at G1
 ·rename_i hk;exact⟨false,Gs hk q1,au ⟨F1,ρ1,μ,h1,S1,e.nxt n1,G1⟩⟩
 ·rename_i hk;exact⟨true,Gs hk q1,ar ((G1.out S1).bl S1.sub)⟩
 exact G1.elim
def j7(hc:PT X c (Gb W E ta))(ha:PE X a (tM W E fa))(hb:PE X b (tM W E fb)):PE X (.IfExp c a b pos) (tM W E (lH ta fa fb)):=by
 refine PE.of (RQ hc ha hb) ?_;rintro σ H Q ⟨F,ρ,μ,h,S,e,G⟩;refine⟨F,ρ,μ,h,S,e,(Al.bind (rep:=cy) G).imp ?_⟩;rintro x H1 ⟨F1,ρ1,r,h1,n1,S1,rfl,G1⟩;by_cases hx:r=true
 ·rw[if_pos hx]at G1 ⊢;exact⟨F1,ρ1,μ,h1,S1,e.nxt n1,G1⟩
 rw[if_neg hx]at G1 ⊢;exact⟨F1,ρ1,μ,h1,S1,e.nxt n1,G1⟩
def xG(hK:X.K=W.K)(kt:Kt cs W)(hc:X.calm=true){x:Str}(o:Bf)(hx:x=o.nm)(hg:Gl X x)(hm:X.mg x=none)(ha:PA X (e::es) (Ip W E fs))
 (he:starEach (e::es) X.env=(false,eval e X.env)::starEach es X.env)(hpl:(backTo pos (starEach es X.env)).any (·.1)=false):PE X (.Call (.Name x p) (e::es) [] pos) (tM W E (dj (o.fn cs) fs)):=by
 subst hx;cases o with
 |len=>exact PE.of (CV (rE hK) hg hm boot_len ha (by decide) (by decide) he hpl) λσ H Q t=>CK t
 |isi=>exact PE.of (CV (vS hK kt) hg hm boot_isinstance ha (by decide) (by decide) he hpl) λσ H Q t=>CK t
 |all=>exact PE.of (CV (tD hc) hg hm (by decide +kernel) ha (by decide) (by decide) he hpl) λσ H Q t=>CK t
 |max=>exact PE.of (CV (rj hc) hg hm boot_max ha (by decide) (by decide) he hpl) λσ H Q t=>CK t
 |min=>exact PE.of (CV (rh hc) hg hm boot_min ha (by decide) (by decide) he hpl) λσ H Q t=>CK t
 |int=>exact PE.of (EC kJ hg hm (by decide +kernel) ha (by decide) (by decide) he hpl) λσ H Q t=>CK t
 |tup=>exact PE.of (EC pK hg hm (by decide +kernel) ha (by decide) (by decide) he hpl) λσ H Q t=>CK t
 |lst=>exact PE.of (EC (lstM hK hc) hg hm (by decide +kernel) ha (by decide) (by decide) he hpl) λσ H Q t=>CK t
end
section
theorem O7:∀{l:List MV}{ks:List (List Key)}{vs:List V},K6 l=some ks->Ad W F l vs->∃xs:List (Addr×List Key),vs=xs.map (λx=>V.ref x.1)/\xs.map (·.2)=ks/\∀x∈xs,F x.1=some (.tup (x.2.map kV))
 |[],ks,vs,h,r=>by simp only[K6]at h;cases h;rw[r.nil_iff];exact⟨[],rfl,rfl,by simp⟩
 |m::l,ks,vs,h,r=>by
  obtain⟨v,us,rfl,h1,h2⟩:=r.uncons;cases m<;>simp only[K6]at h<;>first|(cases h;done)|skip
  obtain⟨k,hk,h⟩:=aB.mp h;obtain⟨ks',hks,rfl⟩:=aG.mp h;obtain⟨xs,rfl,e2,e3⟩:=O7 hks h2;unfold Ak at h1;obtain⟨p,ws,rfl,hp,rr⟩:=h1;refine⟨(p,k)::xs,rfl,by simp[e2],λx hx=>?_⟩;rcases aH.mp hx with rfl|hx
  ·rw[←Jk hk rr];exact hp
  exact e3 x hx
def Rs(hK:X.K=W.K)(hh:X.A.handled=none)(hu:X.A.units+64<cLine)(g1:Gl X "len")(m1:X.mg "len"=none)(g2:Gl X "set")(m2:X.mg "set"=none)(he:PE X e (tM W E fa))
 (h1:starEach [.Call (.Name "set" p2) [e] [] p3] X.env=[(false,eval (.Call (.Name "set" p2) [e] [] p3) X.env)])(h2:starEach [e] X.env=[(false,eval e X.env)]) :
 PE X (.Call (.Name "len" p1) [.Call (.Name "set" p2) [e] [] p3] [] pos) (tM W E (N9 CG fa)):=by
 refine PE.of (Vr hh hu g1 m1 g2 m2 he h1 h2) λσ H Q t=>?_;obtain⟨F,ρ,μ,h,S,ee,G⟩:=t;refine⟨F,ρ,μ,h,S,ee,(Al.bind (rep:=AE W) G).imp ?_⟩;rintro x H1 ⟨F1,ρ1,r,h1,n1,S1,q1,G1⟩;obtain⟨rr,he,G3⟩:=G1.of;obtain⟨m,hm,he⟩:=aB.mp he;obtain⟨c,hc,rfl⟩:=aG.mp he;have va:=S1.view q1 hm;have key:∀{l:List MV}{p:Addr}{vs:List V},Sq l=some c->Ad W F1 l vs->(D8 X.K H1 p vs\/DG X.K H1 p vs)->∃(a:Addr) (xs:List (Addr×List Key)),V.ref p=.ref a/\(D8 X.K H1 a (xs.map λx=>V.ref x.1)\/DG X.K H1 a (xs.map λx=>V.ref x.1))/\xs.length<=2/\(∀x∈xs,H1 x.1=some (.tup (x.2.map kV)))/\Q (.int (cntK (xs.map (·.2)):Nat)) H1:=λ{l p vs} hc r hp=>by
  obtain⟨ks,hk,hc⟩:=aB.mp (show(K6 l).bind (λks=>if ks.length<=2 then some (.int (cntK ks:Nat)) else none)=some c from hc);obtain⟨hl,rfl⟩:=Ap hc;obtain⟨xs,rfl,e2,e3⟩:=O7 hk r;have el:xs.length=ks.length:=by rw[←e2];simp
  refine⟨p,xs,rfl,hp,by lia,λx hx=>S1.sub _ _ (e3 x hx),?_⟩;rw[e2];exact(G3.out S1).int S1.sub
 cases m<;>simp only[CG]at hc<;>first|(cases hc;done)|skip
 ·obtain⟨p,vs,rfl,hp,r⟩:=va;exact key hc r (.inr (.inl (.inl (S1.sub _ _ hp))))
 obtain⟨p,vs,rfl,hp,r⟩:=va;exact key hc r (.inl (.inl (.inl hp)))
theorem Oa:∀{l:List MV}{zs:List Str}{vs:List V},Lc l=some zs->Ad W F l vs->vs=zs.map V.str
 |[],zs,vs,h,r=>by simp only[Lc]at h;cases h;rw[r.nil_iff];rfl
 |m::l,zs,vs,h,r=>by
  obtain⟨v,us,rfl,h1,h2⟩:=r.uncons;cases m<;>simp only[Lc]at h<;>first|(cases h;done)|skip
  obtain⟨zs',hz,rfl⟩:=aG.mp h;unfold Ak at h1;subst h1;rw[Oa hz h2];rfl
def Bm.ty:Bm->String
 |.join=> "str"
def Bm.id:Bm->String
 |.join=> "str.join"
def Bm.nm:Bm->Str
 |.join=> "join"
def xM(s:Shared)(v:Value)(T:String):Prop:=s.TypeIs v T/\∀a,v=.ref a->∃ob,s.heap.get? a=some ob/\ob.dict=none
def TN{b:Bm}(hK:X.K=W.K)(I:Ae X pins σ H s)(rx:AA x v)(va:Bh W F H m x)(h:lN b m=true):xM s v b.ty:=by
 cases b;obtain⟨l,hl⟩:=bX.mp h;obtain rfl:=JG hl;cases va;exact M0 I rx rfl
def ve(W:Wd)(b:Bm):V->List V->Hp->VK->Prop:=λx xs H Q=>E4 λF m as c=>A5 (An F H) (Bh W F H m x) (GN W F H as xs) (lO b m as=some c) (KP W F H c Q)
def vC(hK:X.K=W.K)(hu:X.A.units+70<cLine)(b:Bm):o9 X b.id (ve W b):=by
 intro pins s σ H x xs v us Q I rx rv ⟨F,m,as,c,sub,va,vs,hg,q⟩;cases b;obtain⟨l,h1,hg⟩:=aB.mp hg;obtain⟨x,h2,hg⟩:=aB.mp hg;obtain⟨b,h2,h3⟩:=aB.mp h2;obtain rfl:=JG h1;obtain rfl:=Ot h2;obtain rfl:=O4 h3;obtain⟨y,rfl,vb⟩:=vs.un1;cases va;obtain⟨zs,hz,hg⟩:=aB.mp hg;obtain⟨hl,rfl⟩:=Ap hg;obtain⟨p,ws,rfl,hp,r⟩:=vb;obtain rfl:=Oa hz r;exact V8 pins s σ H _ _ v us Q I rx rv ⟨_,p,zs,rfl,rfl,.inl (.inl hp),hl,q.str sub⟩
structure my(T:String)(name:Str)(id:String):Prop where
 pa:PlainAttrs T
 slot:Slot T name id
 hty:typeOf (.builtin id)=pure (.type "method_descriptor")
def lP(b:Bm):my b.ty b.nm b.id:=by
 cases b with
 |join=>exact⟨PySem.F.plainAttrs_str,PySem.F.slot_str_join,PySem.F.type_str_join⟩
def Mf{b:Bm}{μ:En}{h:MH}{ρ:List Addr}{Q:VK}(S:By W F H ρ h)(ee:B1 W F ρ μ σ)(G:GE W (E σ) F ρ (WA b fa fs μ h) Q):GE W (E σ) F ρ (fa μ h) λx H1=>∃F1 m,An F1 H1/\Bh W F1 H1 m x/\lN b m=true/\Ip W E fs σ H1 λxs H2=>ve W b x xs H2 Q:=by
 refine(Al.bind (rep:=AE W) G).imp ?_;rintro x H1 ⟨F1,ρ1,r,h1,n1,S1,q1,G1⟩;split at G1
 ·rename_i hk;obtain⟨m,hm,hb⟩:=aG.mp hk;refine⟨F1,m,S1.sub,S1.view q1 hm,hb,F1,ρ1,μ,h1,S1,ee.nxt n1,(Al.bind (rep:=AI W) G1).imp ?_⟩;rintro xs H2 ⟨F2,ρ2,rs,h2,n2,S2,q2,G2⟩;obtain⟨rr,he,G3⟩:=G2.of;obtain⟨m2,hm2,he⟩:=aB.mp he;obtain⟨as,ha,he⟩:=aB.mp he;obtain⟨c,hc,rfl⟩:=aG.mp he;exact⟨F2,m2,as,c,S2.sub,S2.view (q1.nxt n2) hm2,D4 S2 ha q2,hc,G3.out S2⟩
 exact G1.elim
def jB(hK:X.K=W.K)(hu:X.A.units+70<cLine)(b:Bm)(ho:PE X o (tM W E fa))(ha:PA X (e::es) (Ip W E fs))
 (hbase:attributeBase o b.nm X.env (eval o X.env)=eval o X.env)
 (hfew:((backTo pos (starEach (e::es) X.env)).all (λx=>!x.1)&&(backToKw pos (keywordEach [] X.env)).all (λx=>x.1.isSome)
   && decide ((e::es).length+([]:List Keyword).length+(if ([]:List Keyword).isEmpty then 0 else 1)<30))=true)
 (hline:(apos.endLine ==pos.line)=true)(hs:starEach (e::es) X.env=(false,eval e X.env)::starEach es X.env)(hplain:(backTo pos (starEach es X.env)).any (·.1)=false) :
 PE X (.Call (.Attribute o b.nm apos) (e::es) [] pos) (tM W E (WA b fa fs)):=by
 intro pins s σ H Q I ⟨F,ρ,μ,h,S,ee,G⟩;obtain⟨pa,slot,hty⟩:=lP b;refine wpAny_Call_method_late hbase hfew hline rfl (Bg (ho pins s σ H _ I ⟨F,ρ,μ,h,S,ee,Mf S ee G⟩) ?_);rintro v s1 ⟨x,H1,I1,r1,F1,m,sub1,va,hb,q1⟩;obtain⟨h1,h2⟩:=TN hK I1 r1 va hb;refine⟨b.ty,b.id,pa,slot,hty,h1,h2,?_⟩;have hA:=ha pos pins s1 σ H1 _ I1 q1;rw[hs]at hA ⊢;refine dF (by show(false||(backTo pos (starEach es X.env)).any (·.1))=false;rw[hplain]<;>rfl) (eU ?_);exact Bg hA λus s2 ⟨vs,H2,I2,r2,q2⟩=>vC hK hu b pins s2 σ H2 x vs v us Q I2 r1 r2 q2
def Zc(hK:X.K=W.K)(hu:X.A.units+70<cLine)(b:Bm)(ho:PE X o (tM W E fa))(ha:PA X [] (Ip W E fs))
 (hbase:attributeBase o b.nm X.env (eval o X.env)=eval o X.env)(hline:(apos.endLine ==pos.line)=true)(hfs:fs=λ_ h=>.ok [] h) :
 PE X (.Call (.Attribute o b.nm apos) [] [] pos) (tM W E (WA b fa fs)):=by
 subst hfs;intro pins s σ H Q I ⟨F,ρ,μ,h,S,ee,G⟩;obtain⟨pa,slot,hty⟩:=lP b;refine wpAny_Call_method0_late hbase hline (Bg (ho pins s σ H _ I ⟨F,ρ,μ,h,S,ee,Mf S ee G⟩) ?_);rintro v s1 ⟨x,H1,I1,r1,F1,m,sub1,va,hb,F2,ρ2,μ2,h2,S2,ee2,G2⟩;obtain⟨h1,h2'⟩:=TN hK I1 r1 va hb;exact⟨b.ty,b.id,pa,slot,hty,h1,h2',dF rfl (PySem.evalArgs_none (vC hK hu b pins s1 σ H1 x [] v [] Q I1 r1 .nil (G2.ret S2 .nil)))⟩
def Mm.id:Mm->String
 |.app=> "list.append" | .ext=> "list.extend"
def Mm.nm:Mm->Str
 |.app=> "append" | .ext=> "extend"
def kv(b:Mm):my "list" b.nm b.id:=by
 cases b with
 |app=>exact⟨PySem.F.plainAttrs_list,PySem.F.slot_list_append,PySem.F.type_list_append⟩
 |ext=>exact⟨PySem.F.plainAttrs_list,PySem.F.slot_list_extend,PySem.F.type_list_extend⟩
def qQ(W:Wd)(b:Mm):V->List V->Hp->VK->Prop:=λx xs H Q=>E6 λF p vs l as l'=>A8 (x=.ref p) (An F H) (F p=none) (H p=some (.lst vs)) (Ad W F l vs) (Ad W F as xs) (O0 b l as=some l') (∀vs',Ad W F l' vs'->Q .non (upd H p (.lst vs')))
def vG(b:Mm):o9 X b.id (qQ W b):=by
 intro pins s σ H x xs v us Q I rx rv h;obtain⟨F,p,vs,l,as,l',rfl,sub,nf,hp,r,ra,hg,q⟩:=h;unfold O0 at hg;split at hg
 ·obtain⟨hl,rfl⟩:=Ap hg;obtain⟨y,ys,rfl,r1,r2⟩:=ra.uncons;obtain rfl:=r2.nil_iff;exact PV pins s σ H _ _ v us Q I rx rv ⟨p,vs,y,rfl,rfl,hp,by rw[←r.len];exact hl,q _ (r.app (.cons r1 .nil))⟩
 ·obtain⟨hl,rfl⟩:=Ap hg;obtain⟨y,ys,rfl,r1,r2⟩:=ra.uncons;obtain rfl:=r2.nil_iff;unfold Ak at r1;obtain⟨p2,vs2,rfl,hp2,rr⟩:=r1;exact PU pins s σ H _ _ v us Q I rx rv ⟨p,p2,vs,vs2,rfl,rfl,hp,sub _ _ hp2,by rw[←r.len,←rr.len];exact hl,q _ (r.app rr)⟩
 cases hg
def By.wrote{n:Nat}(S:By W F H ρ h)(hp:ρ[n]?=some p)(nf:F p=none)(hH:H p=some (.lst vs))(r:Ad W F l' vs'):By W F (upd H p (.lst vs')) ρ (h.set n (.lst l')):=by
 refine⟨λb u z=>?_,S.nd,by simp[S.len],λk q m' h1 h2=>?_,S.tb.upd λu e=>by rw[hH]at e;cases e;exact id,S.tf⟩
 ·rw[Aa (λe=>by subst e;rw[nf]at z;cases z)];exact S.sub _ _ z
 rcases N2 h2 with⟨rfl,rfl⟩|⟨hk,h2⟩
 ·rw[hp]at h1;cases h1;exact⟨nf,vs',Ab,r⟩
 have hq:q≠p:=λz=>hk (Nodup.inj S.nd (by rw[←z];exact h1) hp);exact(S.obj k q m' h1 h2).apart hq (An.refl _) (λb _=>.inl rfl) (λb o hb z=>by rw[Aa hb];exact z) λx z=>by rw[hH]at z;cases z
def L5{b:Mm}{μ:En}{h:MH}{ρ:List Addr}{Q:VK}(S:By W F H ρ h)(ee:B1 W F ρ μ σ)(G:GE W (E σ) F ρ (T7 b fa fs μ h) Q):GE W (E σ) F ρ (fa μ h) λx H1=>(∃p vs,x=.ref p/\H1 p=some (.lst vs))/\Ip W E fs σ H1 λxs H2=>qQ W b x xs H2 Q:=by
 refine(Al.bind (rep:=AE W) G).imp ?_;rintro x H1 ⟨F1,ρ1,r,h1,n1,S1,q1,G1⟩;cases r with
 |v m=>exact G1.elim
 |l _ _=>exact G1.elim
 |r n=>
  by_cases hk:X9 h1[n]?=true
  ·have G1:Al W (AE W) (E σ) F1 ρ1 (if X9 h1[n]?=true then(fs μ h1).bind λrs h2=>(match h2[n]?,vals rs with
    |some (.lst l),some as=>(match O0 b l as with
     |some l'=>.ok (.v .non) (h2.set n (.lst l'))
     |none=>.no)
    |_,_=>.no) else .no) Q:=G1
   rw[if_pos hk]at G1;obtain⟨p,rfl,hp⟩:=q1;unfold X9 at hk;split at hk
   ·rename_i l0 hl0;obtain⟨nf0,vs0,hH0,r0⟩:=S1.obj n p _ hp hl0;refine⟨⟨p,vs0,rfl,hH0⟩,F1,ρ1,μ,h1,S1,ee.nxt n1,(Al.bind (rep:=AI W) G1).imp ?_⟩;rintro xs H2 ⟨F2,ρ2,rs,h2,n2,S2,q2,G2⟩;have hp2:=JU n2.p hp;split at G2
    ·rename_i l as hl ha;obtain⟨nf,vs,hH,rl⟩:=S2.obj n p _ hp2 hl;split at G2
     ·rename_i l' hg;exact⟨F2,p,vs,l,as,l',rfl,S2.sub,nf,hH,rl,CU ha q2,hg,λvs' r'=>G2 F2 ρ2 _ .non .refl (S2.wrote hp2 nf hH r') (by show Ak W F2 .non .non;unfold Ak;rfl)⟩
     exact G2.elim
    exact G2.elim
   cases hk
  have G1:Al W (AE W) (E σ) F1 ρ1 (if X9 h1[n]?=true then(fs μ h1).bind λrs h2=>(match h2[n]?,vals rs with
   |some (.lst l),some as=>(match O0 b l as with
    |some l'=>.ok (.v .non) (h2.set n (.lst l'))
    |none=>.no)
   |_,_=>.no) else .no) Q:=G1
  rw[if_neg hk]at G1;exact G1.elim
def pX(W:Wd)(E:RX)(b:Mm)(fa:Ef)(fs:En->MH->Aw (List R)):TE:=λσ H Q=>tM W E fa σ H λx H1=>(∃p vs,x=.ref p/\H1 p=some (.lst vs))/\Ip W E fs σ H1 λxs H2=>qQ W b x xs H2 Q
def Rr(b:Mm)(ho:PE X o (tM W E fa))(ha:PA X (e::es) (Ip W E fs))
 (hbase:attributeBase o b.nm X.env (eval o X.env)=eval o X.env)
 (hfew:((backTo pos (starEach (e::es) X.env)).all (λx=>!x.1)&&(backToKw pos (keywordEach [] X.env)).all (λx=>x.1.isSome)
   && decide ((e::es).length+([]:List Keyword).length+(if ([]:List Keyword).isEmpty then 0 else 1)<30))=true)
 (hline:(apos.endLine ==pos.line)=true)(hs:starEach (e::es) X.env=(false,eval e X.env)::starEach es X.env)(hplain:(backTo pos (starEach es X.env)).any (·.1)=false) :
 PE X (.Call (.Attribute o b.nm apos) (e::es) [] pos) (pX W E b fa fs):=by
 intro pins s σ H Q I t;obtain⟨pa,slot,hty⟩:=kv b;refine wpAny_Call_method_late hbase hfew hline rfl (Bg (ho pins s σ H _ I t) ?_);rintro v s1 ⟨x,H1,I1,r1,z,q1⟩;obtain⟨p,vs,rfl,hp⟩:=z;obtain⟨h1,h2⟩:=M0 I1 r1 (T:= "list") (.inl ⟨rfl,vs,.inl (.inl hp)⟩);refine⟨"list",b.id,pa,slot,hty,h1,h2,?_⟩;have hA:=ha pos pins s1 σ H1 _ I1 q1;rw[hs]at hA ⊢;refine dF (by show(false||(backTo pos (starEach es X.env)).any (·.1))=false;rw[hplain]<;>rfl) (eU ?_);exact Bg hA λus s2 ⟨vs,H2,I2,r2,q2⟩=>vG b pins s2 σ H2 _ vs v us Q I2 r1 r2 q2
def ZQ{b:Mm}{Q:VK}(t:tM W E (T7 b fa fs) σ H Q):pX W E b fa fs σ H Q:=by
 obtain⟨F,ρ,μ,h,S,ee,G⟩:=t;exact⟨F,ρ,μ,h,S,ee,L5 S ee G⟩
def Xo(b:Mm)(ho:PE X o (tM W E fa))(ha:PA X (e::es) (Ip W E fs))
 (hbase:attributeBase o b.nm X.env (eval o X.env)=eval o X.env)
 (hfew:((backTo pos (starEach (e::es) X.env)).all (λx=>!x.1)&&(backToKw pos (keywordEach [] X.env)).all (λx=>x.1.isSome)
   && decide ((e::es).length+([]:List Keyword).length+(if ([]:List Keyword).isEmpty then 0 else 1)<30))=true)
 (hline:(apos.endLine ==pos.line)=true)(hs:starEach (e::es) X.env=(false,eval e X.env)::starEach es X.env)(hplain:(backTo pos (starEach es X.env)).any (·.1)=false) :
 PE X (.Call (.Attribute o b.nm apos) (e::es) [] pos) (tM W E (T7 b fa fs)):=PE.of (Rr b ho ha hbase hfew hline hs hplain) λ_ _ _ t=>ZQ t
def YQ(b:Mm)(ho:PE X o (tM W E fa))(hbase:attributeBase o b.nm X.env (eval o X.env)=eval o X.env)(hline:(apos.endLine ==pos.line)=true)(hfs:fs=λ_ h=>.ok [] h) :
 PE X (.Call (.Attribute o b.nm apos) [] [] pos) (tM W E (T7 b fa fs)):=by
 subst hfs;intro pins s σ H Q I ⟨F,ρ,μ,h,S,ee,G⟩;obtain⟨pa,slot,hty⟩:=kv b;refine wpAny_Call_method0_late hbase hline (Bg (ho pins s σ H _ I ⟨F,ρ,μ,h,S,ee,L5 S ee G⟩) ?_);rintro v s1 ⟨x,H1,I1,r1,z,F2,ρ2,μ2,h2,S2,ee2,G2⟩;obtain⟨p,vs,rfl,hp⟩:=z;obtain⟨h1,h2'⟩:=M0 I1 r1 (T:= "list") (.inl ⟨rfl,vs,.inl (.inl hp)⟩);exact⟨"list",b.id,pa,slot,hty,h1,h2',dF rfl (PySem.evalArgs_none (vG b pins s1 σ H1 _ [] v [] Q I1 r1 .nil (G2.ret S2 .nil)))⟩
end
section
variable {W:Wd}{H F:Hp}{fa fb fc:Ef}
def gc(w:Wk)(h:MH):Prop:=match w.src with
 |none=>True
 |some n=>h[n]?=some (.lst w.ms)
def Ew{src:Option Nat}{l:List MV}{h:MH}(e:Bt src l h=true):gc ⟨l,src⟩ h:=by
 unfold Bt at e;unfold gc;cases src with
 |none=>trivial
 |some n=>simpa using e
def D7(W:Wd)(F:Hp)(ρ:List Addr)(w:Wk)(J:It):Prop:=∀(i:Nat) (F1:Hp) (ρ1:List Addr) (H1:Hp) (h1:MH),Ep F ρ F1 ρ1->By W F1 H1 ρ1 h1->gc w h1->
 (∀m,w.ms[i]?=some m->J.go i H1/\∀x H2,J.yld i H1 x H2->∃F2,An F1 F2/\By W F2 H2 ρ1 h1/\Ak W F2 m x)/\(i=w.ms.length->J.stop i H1)
def U5(W:Wd)(E:RX)(f:En->MH->Aw Wk):TI:=λσ H R=>XY W σ H λF ρ μ h=>Al W (D7 W) (E σ) F ρ (f μ h) R
def Hg{pins:Pq}{s1:Shared}{R:It->Hp->Prop}{p:Addr}{xs:List V}(I1:Ae X pins σ H s1)(hq:D8 X.K H p xs)(q:R (mw X.K p) H):wpAny (model X.prog X.w) X.A (pyIter (.ref p)) (ie X pins σ tg R) X.xe s1:=by
 obtain⟨its,rv,pl,hz⟩:=I1.list hq;refine fO pl.isList ?_;refine⟨s1.heap.objs.size,[s1.heap.objs.size],_,_,H,rfl,I1.kept (t':=s1.toks) λb o e=>aC _ e,Pv p _,⟨_,aV _ rfl,rfl,rfl⟩,λb hb=>?_,q⟩;have e:b=s1.heap.objs.size:=by simpa using hb
 subst e;exact I1.fpOk (aN _) (I1.hok.fresh (aN _))
def av{pins:Pq}{s1:Shared}{R:It->Hp->Prop}{p:Addr}{xs:List V}(I1:Ae X pins σ H s1)(hq:DG X.K H p xs)(q:R (tP X.K p) H):wpAny (model X.prog X.w) X.A (pyIter (.ref p)) (ie X pins σ tg R) X.xe s1:=by
 obtain⟨its,rv,pl,hz⟩:=I1.tuple hq;refine gM (show s1.heap.IsTuple p its.toArray from pl) ?_;refine⟨s1.heap.objs.size,[s1.heap.objs.size],_,_,H,rfl,I1.kept (t':=s1.toks) λb o e=>aC _ e,M1 p _,⟨_,aV _ rfl,rfl,rfl⟩,λb hb=>?_,q⟩;have e:b=s1.heap.objs.size:=by simpa using hb
 subst e;exact I1.fpOk (aN _) (I1.hok.fresh (aN _))
def aw{pins:Pq}{s1:Shared}{R:It->Hp->Prop}{z:Str}{t:Tok}(I1:Ae X pins σ H s1)(q:R (tQ z) H):wpAny (model X.prog X.w) X.A (pyIter (.str z t)) (ie X pins σ tg R) X.xe s1:=by
 have fp:∀b∈ [s1.heap.objs.size],EO X pins H b:=λb hb=>by
  have e:b=s1.heap.objs.size:=by simpa using hb
  subst e;exact I1.fpOk (aN _) (I1.hok.fresh (aN _))
 cases ha:z.cps.all (· <128)
 ·refine wpAny_pyIter_wide ha ?_;exact⟨s1.heap.objs.size,[s1.heap.objs.size],_,_,H,rfl,I1.kept (t':=s1.toks) λb o e=>aC _ e,KW _ _ z t (by decide) (λA' hA=>Walks.strWide hA _ z t) (λ_ _ _ _ _ st h=>wpAny_pyIter_striter_wide st h),
   ⟨_,aV _ rfl,rfl,rfl⟩,fp,q⟩
 refine wpAny_pyIter_ascii ha ?_;exact⟨s1.heap.objs.size,[s1.heap.objs.size],_,_,H,rfl,I1.kept (t':=s1.toks) λb o e=>aC _ e,KW _ _ z t (by decide) (λA' hA=>Walks.strAscii hA _ z t) (λ_ _ _ _ _ st h=>wpAny_pyIter_striter_ascii st h),
  ⟨_,aV _ rfl,rfl,rfl⟩,fp,q⟩
def JC{ρ:List Addr}{p:Addr}{vs:List V}{l:List MV}{K:Fq}(hp:D8 K F p vs)(r:Ad W F l vs):D7 W F ρ ⟨l,none⟩ (mw K p):=by
 intro i F1 ρ1 H1 h1 n S _;have hq:D8 K H1 p vs:=(n.s.trans S.sub).seq hp;refine⟨λm hm=>?_,λhi=>⟨vs,hq,by rw[hi,←r.len];exact aN _⟩⟩;obtain⟨v,hv,rv⟩:=r.get hm;refine⟨⟨vs,v,hq,hv⟩,λx H2 y=>?_⟩;obtain⟨rfl,y⟩:=y;have:=y vs hq;rw[hv]at this;cases this;exact⟨F1,An.refl _,S,rv.same n.s⟩
def Ur{ρ:List Addr}{p:Addr}{n:Nat}{l:List MV}{K:Fq}(hp:ρ[n]?=some p):D7 W F ρ ⟨l,some n⟩ (mw K p):=by
 intro i F1 ρ1 H1 h1 nx S sp;have hl:h1[n]?=some (.lst l):=sp;obtain⟨nf,vs,hH,r⟩:=S.obj n p _ (JU nx.p hp) hl;have hq:D8 K H1 p vs:=.inl (.inl hH);refine⟨λm hm=>?_,λhi=>⟨vs,hq,by rw[hi,←r.len];exact aN _⟩⟩;obtain⟨v,hv,rv⟩:=r.get hm;refine⟨⟨vs,v,hq,hv⟩,λx H2 y=>?_⟩;obtain⟨rfl,y⟩:=y;have:=y vs hq;rw[hv]at this;cases this;exact⟨F1,An.refl _,S,rv⟩
def Yj{ρ:List Addr}{p:Addr}{vs:List V}{l:List MV}{K:Fq}(hp:F p=some (.tup vs))(r:Ad W F l vs):D7 W F ρ ⟨l,none⟩ (tP K p):=by
 intro i F1 ρ1 H1 h1 n S _;have hq:DG K H1 p vs:=.inl (.inl (S.sub _ _ (n.s _ _ hp)));refine⟨λm hm=>?_,λhi=>⟨vs,hq,by rw[hi,←r.len];exact aN _⟩⟩;obtain⟨v,hv,rv⟩:=r.get hm;refine⟨⟨vs,v,hq,hv⟩,λx H2 y=>?_⟩;obtain⟨rfl,y⟩:=y;have:=y vs hq;rw[hv]at this;cases this;exact⟨F1,An.refl _,S,rv.same n.s⟩
def Yk{z:Str}:D7 W F ρ ⟨GM z,none⟩ (tQ z):=by
 intro i F1 ρ1 H1 h1 n S _;have hl:(GM z).length=z.cps.size:=by simp[GM]
 refine⟨λm hm=>?_,λhi=>by show i=z.cps.size;rw[hi];exact hl⟩;have hi:i<z.cps.size:=by rw[←hl];exact(aE.mp hm).1
 refine⟨hi,λx H2 y=>?_⟩;obtain⟨rfl,ch,hc,rfl⟩:=y;refine⟨F1,An.refl _,S,?_⟩;have e:m=.str ⟨#[ch]⟩:=by
  unfold GM at hm;rw[aM,fU,hc]at hm;cases hm;rfl
 subst e;unfold Ak;rfl
def qI(hK:X.K=W.K)(hl:PE X l (tM W E fa)):PI X tg l (U5 W E λμ h=>(fa μ h).bind λx h1=>Aw.of (Gz h1 x) h1):=by
 intro pins s σ H R I ⟨F,ρ,μ,h,S,e,G⟩;refine Bg (hl pins s σ H _ I ⟨F,ρ,μ,h,S,e,Al.bind (rep:=AE W) G⟩) ?_;rintro v s1 ⟨x,H1,I1,r1,F1,ρ1,r,h1,n1,S1,q1,G1⟩;obtain⟨w,hw,G3⟩:=G1.of;have val:∀{m:MV}{ms:List MV},Ak W F1 m x->CM m=some ms->w=⟨ms,none⟩->wpAny (model X.prog X.w) X.A (pyIter v) (ie X pins σ tg R) X.xe s1:=by
  intro m ms hr hi hw;subst hw;cases m<;>simp only[CM]at hi<;>first|(cases hi;done)|skip
  ·cases hi;unfold Ak at hr;subst hr;obtain⟨t,rfl⟩:=r1;exact aw I1 (G3.ret S1 Yk)
  ·cases hi;unfold Ak at hr;obtain⟨p,vs,rfl,hp,r⟩:=hr;cases r1;exact av I1 (.inl (.inl (S1.sub _ _ hp))) (G3.ret S1 (Yj hp r))
  ·cases hi;unfold Ak at hr;obtain⟨p,vs,rfl,hp,r⟩:=hr;cases r1;exact Hg I1 (.inl (.inl (S1.sub _ _ hp))) (G3.ret S1 (JC (.inl (.inl hp)) r))
  cases hi;unfold Ak at hr;obtain⟨p,vs,rfl,hp,r⟩:=hr;cases r1;exact Hg I1 (by rw[hK];exact S1.sub.seq hp) (G3.ret S1 (JC (by rw[hK];exact hp) r))
 cases r with
 |v m=>
  obtain⟨ms,hm,rfl⟩:=aG.mp (show(CM m).map (λl=>(⟨l,none⟩:Wk))=some w from hw);exact val q1 hm rfl
 |l _ _=>cases hw
 |r n=>
  obtain⟨p,rfl,hp⟩:=q1;unfold Gz at hw;simp only at hw;split at hw
  ·rename_i l' hl';cases hw;obtain⟨nf,vs,hH,rl⟩:=S1.obj n p _ hp hl';cases r1;exact Hg I1 (.inl (.inl hH)) (G3.ret S1 (Ur hp))
  ·rename_i m hm;obtain⟨ms,hi,rfl⟩:=aG.mp hw;obtain⟨rr,_⟩:=S1.obj n p _ hp hm;exact val rr hi rfl
  cases hw
def PI.of(h:PI X tg l t)(i:∀σ H R,t' σ H R->t σ H R):PI X tg l t':=λpins s σ H R I q=>h pins s σ H R I (i σ H R q)
def QN{lo:Int}{n:Nat}:D7 W F ρ ⟨CL lo n,none⟩ (mr lo n):=by
 intro i F1 ρ1 H1 h1 nx S _;have hl:(CL lo n).length=n:=by simp[CL]
 refine⟨λm hm=>?_,λhi=>by show n<=i;rw[hi];show n<=(CL lo n).length;rw[hl];exact aN _⟩;have hi:i<n:=by rw[←hl];exact(aE.mp hm).1
 refine⟨hi,λx H2 y=>?_⟩;obtain⟨rfl,rfl⟩:=y;refine⟨F1,An.refl _,S,?_⟩;have e:m=.int (lo+i):=by
  unfold CL at hm;rw[aM,List.getElem?_range hi]at hm;cases hm;rfl
 subst e;unfold Ak;rfl
def XU{F:Hp}{ρ:List Addr}{μ:En}{h:MH}{γ δ:Type}{rep:Hp->List Addr->γ->δ->Prop}{k:R->MH->Aw γ}{Q:δ->Hp->Prop}{E':Addr->Hp->Prop}(G:Al W rep E' F ρ ((fa μ h).bind k) Q) :
 Al W (AI W) E' F ρ ((fa μ h).bind λx h1=>(Aw.ok [] h1).bind λxs h2=>.ok (x::xs) h2) λvs H1=>E5 λF1 ρ1 r v h1=>A5 (vs=[v]) (Ep F ρ F1 ρ1) (By W F1 H1 ρ1 h1) (AE W F1 ρ1 r v) (Al W rep E' F1 ρ1 (k r h1) Q):=by
 have G2:=Al.bind (rep:=AE W) G;cases ex:fa μ h with
 |no=>rw[ex]at G2;exact G2
 |exc m h'=>rw[ex]at G2;exact G2
 |ok r h1=>
  rw[ex]at G2;show Al W (AI W) E' F ρ (.ok [r] h1) _;intro F1 ρ1 H1 vs n S q;cases q with
  |cons q t=>
   cases t;obtain⟨F2,ρ2,r2,h2,n2,S2,q2,G3⟩:=G2 F1 ρ1 H1 _ n S q;exact⟨F2,ρ2,r2,_,h2,rfl,n2,S2,q2,G3⟩
def lV{F:Hp}{ρ:List Addr}{μ:En}{h:MH}{γ δ:Type}{rep:Hp->List Addr->γ->δ->Prop}{k:R->R->MH->Aw γ}{Q:δ->Hp->Prop}{E':Addr->Hp->Prop}(G:Al W rep E' F ρ ((fa μ h).bind λx h1=>(fb μ h1).bind λy h2=>k x y h2) Q) :
 Al W (AI W) E' F ρ ((fa μ h).bind λx h1=>((fb μ h1).bind λy h2=>(Aw.ok [] h2).bind λxs h3=>.ok (y::xs) h3).bind λxs h2=>.ok (x::xs) h2) λvs H1=>E7 λF1 ρ1 r r' v v' h1=>A6 (vs=[v,v']) (Ep F ρ F1 ρ1) (By W F1 H1 ρ1 h1) (AE W F1 ρ1 r v) (AE W F1 ρ1 r' v') (Al W rep E' F1 ρ1 (k r r' h1) Q):=by
 cases ex:fa μ h with
 |no=>rw[ex]at G;exact G
 |exc m h'=>rw[ex]at G;exact G
 |ok r h1=>
  rw[ex]at G;have G:Al W rep E' F ρ ((fb μ h1).bind λy h2=>k r y h2) Q:=G;show Al W (AI W) E' F ρ (((fb μ h1).bind λy h2=>(Aw.ok [] h2).bind λxs h3=>.ok (y::xs) h3).bind λxs h2=>.ok (r::xs) h2) _;cases ey:fb μ h1 with
  |no=>rw[ey]at G;exact G
  |exc m h'=>rw[ey]at G;exact G
  |ok r' h2=>
   rw[ey]at G;have G:Al W rep E' F ρ (k r r' h2) Q:=G;show Al W (AI W) E' F ρ (.ok [r,r'] h2) _;intro F1 ρ1 H1 vs n S q;cases q with
   |cons q t=>
    cases t with
    |cons q' t'=>
     cases t';exact⟨F1,ρ1,r,r',_,_,h2,rfl,n,S,q,q',G.nxt n⟩
def YN(hg:Gl X "range")(hm:X.mg "range"=none)(ha:PE X a (tM W E fa))(hs:starEach [a] X.env=[(false,eval a X.env)]):PI X tg (.Call (.Name "range" p) [a] [] pos) (U5 W E λμ h=>(fa μ h).bind λx h1=>Aw.of (Gg [x]) h1):=by
 refine PI.of (P8 hg hm (Fc ha IX hs) hs) λσ H R ⟨F,ρ,μ,h,S,e,G⟩=>⟨F,ρ,μ,h,S,e,(XU G).imp ?_⟩;rintro vs H1 ⟨F1,ρ1,r,v,h1,rfl,n1,S1,q1,G1⟩;obtain⟨w,hw,G3⟩:=G1.of;unfold Gg at hw;split at hw
 ·rename_i j hj;cases hj;obtain⟨⟨h2,h3⟩,rfl⟩:=Ap hw;have q:=q1;unfold Ak at q;subst q;exact⟨j,rfl,h2,h3,G3.ret S1 QN⟩
 ·rename_i hj;cases hj
 cases hw
def YM(hg:Gl X "range")(hm:X.mg "range"=none)(ha:PE X a (tM W E fa))(hb:PE X b (tM W E fb))(hs:starEach [a,b] X.env=[(false,eval a X.env),(false,eval b X.env)])(hs2:starEach [b] X.env=[(false,eval b X.env)]):PI X tg (.Call (.Name "range" p) [a,b] [] pos) (U5 W E λμ h=>(fa μ h).bind λx h1=>(fb μ h1).bind λy h2=>Aw.of (Gg [x,y]) h2):=by
 refine PI.of (P7 hg hm (Fc ha (Fc hb IX hs2) (by rw[hs,hs2])) hs hs2) λσ H R ⟨F,ρ,μ,h,S,e,G⟩=>⟨F,ρ,μ,h,S,e,(lV G).imp ?_⟩;rintro vs H1 ⟨F1,ρ1,r,r',v,v',h1,rfl,n1,S1,q1,q2,G1⟩;obtain⟨w,hw,G3⟩:=G1.of;unfold Gg at hw;split at hw
 ·rename_i hj;cases hj
 ·rename_i i j hj;cases hj;obtain⟨⟨h2,h3,h4,h5⟩,rfl⟩:=Ap hw;have q:=q1;have q':=q2;unfold Ak at q q';subst q q';exact⟨i,j,rfl,⟨h2,h3,h4,h5⟩,G3.ret S1 QN⟩
 cases hw
def UG{x:V}{l:List MV}(h:Rp m=some l)(r:Ak W F m x):∃b p vs,x=.ref p/\(∀{H1:Hp}(K:Fq),An F H1->Um K H1 b p vs)/\Ad W F l vs:=by
 cases m<;>simp only[Rp]at h<;>first|(cases h;done)|skip
 ·cases h;unfold Ak at r;obtain⟨p,vs,rfl,hp,r⟩:=r;exact⟨true,p,vs,rfl,λK s=>.inl (.inl (s _ _ hp)),r⟩
 cases h;unfold Ak at r;obtain⟨p,vs,rfl,hp,r⟩:=r;exact⟨false,p,vs,rfl,λK s=>.inl (.inl (s _ _ hp)),r⟩
def Yl(S:By W F1 H1 ρ1 h1)(n:H1 q=none)(r:Ad W F1 ms vs):∃F2,An F1 F2/\By W F2 (upd H1 q (.tup vs)) ρ1 h1/\Ak W F2 (.tup ms) (.ref q):=by
 have g:Dc F1 H1 (upd F1 q (.tup vs)) (upd H1 q (.tup vs)):=.new S.sub n;exact⟨_,g.f,S.grow g,by unfold Ak;exact⟨q,vs,rfl,Ab,r.same g.f⟩⟩
def Us{ρ:List Addr}{p:Addr}{b:Bool}{vs:List V}{l:List MV}{K:Fq}(hp:∀{H1:Hp},An F H1->Um K H1 b p vs)(r:Ad W F l vs):D7 W F ρ ⟨EU l,none⟩ (gq K b p):=by
 intro i F1 ρ1 H1 h1 n S _;have hq:Um K H1 b p vs:=hp (n.s.trans S.sub);have hl:(EU l).length=l.length:=by simp[EU]
 refine⟨λm hm=>?_,λhi=>⟨vs,hq,by rw[hi];show vs.length<=(EU l).length;rw[hl,r.len];exact aN _⟩⟩;have hi:i<l.length:=by rw[←hl];exact(aE.mp hm).1
 have e0:l[i]?=some l[i]:=by simp[hi]
 obtain⟨v,hv,rv⟩:=r.get e0;refine⟨⟨vs,v,hq,hv⟩,λx H2 y=>?_⟩;obtain⟨q,w,rfl,nq,y,rfl⟩:=y;have:=y vs hq;rw[hv]at this;cases this;have em:m=.tup [.int (i:Nat),l[i]]:=by
  unfold EU at hm;simp[List.getElem?_zipIdx,e0]at hm;exact hm.symm
 subst em;exact Yl S nq (.cons (by unfold Ak;rfl) (.cons (rv.same n.s) .nil))
def j9{x1:Nat}(hK:X.K=W.K)(hg:Gl X "enumerate")(hm:X.mg "enumerate"=none)(ha:PE X a (tM W E fa))(hs:starEach [a] X.env=[(false,eval a X.env)]):PI X (.Tuple es x1 tp) (.Call (.Name "enumerate" p) [a] [] pos) (U5 W E λμ h=>(fa μ h).bind λx h1=>Aw.of (Tt x) h1):=by
 refine PI.of (R7 hg hm (Fc ha IX hs) hs) λσ H R ⟨F,ρ,μ,h,S,e,G⟩=>⟨F,ρ,μ,h,S,e,(XU G).imp ?_⟩;rintro vs H1 ⟨F1,ρ1,r,v,h1,rfl,n1,S1,q1,G1⟩;obtain⟨w,hw,G3⟩:=G1.of;unfold Tt at hw;split at hw
 ·obtain⟨l,hl,rfl⟩:=aG.mp hw;obtain⟨b,p,vs,rfl,hq,rr⟩:=UG hl q1;exact⟨b,p,rfl,⟨vs,hq _ S1.sub⟩,G3.ret S1 (Us (λs=>hq _ s) rr)⟩
 cases hw
end
section
def Ui(W:Wd)(t:MT):TG:=λv σ H Q=>E6 λF ρ μ h m μ'=>A5 (By W F H ρ h) (B1 W F ρ μ σ) (Ak W F m v) (AR t m μ=some μ') (∀σ',B1 W F ρ μ' σ'->Q σ' H)
def PG.of(h:PG X tg t)(i:∀v σ H Q,t' v σ H Q->t v σ H Q):PG X tg t':=λpins s σ H v u Q I r q=>h pins s σ H v u Q I r (i v σ H Q q)
def kP:List Nat->fz
 |[]=>kU
 |i::is=>XD (LM i) (kP is)
theorem Nz:∀{is:List Nat}{l:List MV}{xs:List V}{μ:En}{σ:St},Ad W F l xs->is.length=l.length->B1 W F ρ μ σ->(∀σ',B1 W F ρ ((is.zip l).foldl (λμ p=>μ.set p.1 (some (.v p.2))) μ) σ'->Q σ' H)->kP is xs σ H Q
 |[],l,xs,μ,σ,r,hl,e,q=>by
  obtain rfl:l=[]:=c9.mp (by simpa using hl.symm);obtain rfl:=r.nil_iff;exact⟨rfl,q σ e⟩
 |i::is,l,xs,μ,σ,r,hl,e,q=>by
  cases l with
  |nil=>simp at hl
  |cons m l=>
   obtain⟨v,vs,rfl,h1,h2⟩:=r.uncons;exact⟨v,vs,rfl,Nz h2 (by simpa using hl) (e.set (r:=.v m) h1 i) q⟩
def rV{i:Nat}{x:Str}(hN:X.N.Nodup)(hi:X.N[i]?=some x)(hx:Uo X.env.scope x)(hf:X.fn x=true\/X.env.scope.names.lookup x=some .local):PG X (.Name x pos) (Ui W (.nm i)):=by
 refine PG.of (Op hN hi hx hf) ?_;rintro v σ H Q ⟨F,ρ,μ,h,m,μ',S,e,r,hb,q⟩;cases hb;exact q _ (e.set (r:=.v m) r i)
def kS{k:Nat}(hc:X.calm=true)(h:XZ X es (kP is))(hn:(assignEach es X.env).length=is.length)(hst:(assignEach es X.env).findIdx? (·.1)=none):PG X (.Tuple es k pos) (Ui W (.tup is)):=by
 refine PG.of (Zu (n:=is.length) hc h hn hst) ?_;rintro v σ H Q ⟨F,ρ,μ,h,m,μ',S,e,r,hb,q⟩;cases m<;>simp only[AR]at hb<;>first|(cases hb;done)|skip
 obtain⟨hl,rfl⟩:=Ap hb;unfold Ak at r;obtain⟨p,vs,rfl,hp,r⟩:=r;exact⟨p,vs,rfl,.inl (.inl (S.sub _ _ hp)),by rw[←r.len];exact hl.symm,Nz r hl e q⟩
def kT{k:Nat}(hc:X.calm=true)(h:XZ X es (kP is))(hn:(assignEach es X.env).length=is.length)(hst:(assignEach es X.env).findIdx? (·.1)=none):PG X (.Tuple es k pos) (Ui W (.lst is)):=by
 refine PG.of (Vo (n:=is.length) X.K hc h rfl hn hst) ?_;rintro v σ H Q ⟨F,ρ,μ,h,m,μ',S,e,r,hb,q⟩;cases m<;>simp only[AR]at hb<;>first|(cases hb;done)|skip
 obtain⟨hl,rfl⟩:=Ap hb;unfold Ak at r;obtain⟨p,vs,rfl,hp,r⟩:=r;exact⟨p,vs,rfl,.inl (.inl (S.sub _ _ hp)),by rw[←r.len];exact hl.symm,Nz r hl e q⟩
def Al.noxb{α β γ δ:Type}{rep:Hp->List Addr->α->β->Prop}{rep2:Hp->List Addr->γ->δ->Prop}{E E':Addr->Hp->Prop}{ρ:List Addr}{x:Aw α}{k:α->MH->Aw γ}{Q:δ->Hp->Prop}
 (g:Al W rep2 E F ρ (x.nox.bind k) Q):Al W rep E' F ρ x λv H1=>mz W rep F ρ v H1 λF1 ρ1 r h1=>Al W rep2 E F1 ρ1 (k r h1) Q:=by
 cases x with
 |no=>exact g
 |exc m h=>exact False.elim g
 |ok r h=>exact λF1 ρ1 H1 v n s q=>Al.bind (rep:=rep) (x:=.ok r h) g F1 ρ1 H1 v n s q
theorem B1.startC(e:B1 W F ρ μ σ)(k:Nat)(js:List Nat):B1 W F ρ (B.startC k js μ) (F6 k js σ):=by
 unfold B.startC F6;refine⟨by simp,λi r h=>?_⟩;by_cases hi:i<k
 ·rw[aS (by simpa using hi),cL,if_pos hi]at h;cases h
 rw[aU (by simpa using hi),aM]at h;rw[aU (by simpa using hi),aM];simp only[List.length_replicate]at h ⊢;cases hj:js[i-k]? with
 |none=>rw[hj]at h;cases h
 |some j=>
  rw[hj]at h;have h:(μ[j]?).join=some r:=by simpa using h
  cases hm:μ[j]? with
  |none=>rw[hm]at h;cases h
  |some o=>
   rw[hm]at h;have h:=h;subst h;obtain⟨v,h1,h2⟩:=e.at_ j r hm;exact⟨v,by simp[h1],h2⟩
def NQ:RX:=λ_ _ _=>False
abbrev UO(W:Wd):Hp->List Addr->List MV->List V->Prop:=λF _ l vs=>Ad W F l vs
def OY{k:Nat}(tt:tM W E (Ck k js t fi tc te) σ H Q):Rb k js (U5 W E fi) (Ui W t) (Gb W NQ tc) (tM W NQ te) σ H Q:=by
 obtain⟨F,ρ,μ,h,S,e,G⟩:=tt;refine⟨F,ρ,μ,h,S,e,(Al.bind (rep:=D7 W) G).imp ?_⟩;rintro J H1 ⟨F1,ρ1,w,h1,n1,S1,yl,G1⟩;by_cases hb:w.ms.length<=big
 ·rw[if_pos hb]at G1;have G2:Al W (UO W) (E σ) F1 ρ1 (compLoop w.src w.ms t (B.startC k js μ) tc te w.ms [] h1) (λvs H''=>∀p,H'' p=none->Q (.ref p) (upd H'' p (.lst vs))):=by
   refine(Al.bind (rep:=UO W) G1).imp ?_;rintro vs H2 ⟨F2,ρ2,l,h2,n2,S2,r2,G3⟩ p n;exact(G3.out S2).lst S2.sub n r2
  have hz:=KJ;refine⟨λi m us H'=>A3 (m=w.ms.length-i) (i<=w.ms.length) (E4 λF2 ρ2 h2 acc=>A5 (Ep F1 ρ1 F2 ρ2) (By W F2 H' ρ2 h2) (Ad W F2 acc us) (acc.length<=i) (Al W (UO W) (E σ) F2 ρ2 (compLoop w.src w.ms t (B.startC k js μ) tc te (w.ms.drop i) acc h2) (λvs H''=>∀p,H'' p=none->Q (.ref p) (upd H'' p (.lst vs))))),⟨_,rfl,dX _,F1,ρ1,h1,[],.refl,S1,.nil,aN _,G2⟩,?_⟩;rintro i m us H' ⟨rfl,hi,F2,ρ2,h2,acc,n2,S2,r2,la,G3⟩;have lu:=r2.len;by_cases hlt:i<w.ms.length
  ·have ed:=fB hlt;rw[ed]at G3;unfold compLoop at G3;by_cases hsrc:Bt w.src w.ms h2=true
   ·rw[if_pos hsrc]at G3;split at G3
    ·rename_i μ1 hb1;obtain⟨y1,_⟩:=yl i F2 ρ2 H' h2 n2 S2 (Ew hsrc);obtain⟨go,y2⟩:=y1 w.ms[i] (by simp[hlt]);refine .inr ⟨go,by lia,λus' H''=>E4 λF2 ρ2 h2 acc=>A5 (Ep F1 ρ1 F2 ρ2) (By W F2 H'' ρ2 h2) (Ad W F2 acc us') (acc.length<=i+1) (Al W (UO W) (E σ) F2 ρ2 (compLoop w.src w.ms t (B.startC k js μ) tc te (w.ms.drop (i+1)) acc h2) (λvs H''=>∀p,H'' p=none->Q (.ref p) (upd H'' p (.lst vs)))),λus' H'' hN=>⟨w.ms.length-(i+1),by lia,rfl,hlt,hN⟩,λx H3 hy=>?_⟩;obtain⟨F3,s3,S3,r3⟩:=y2 x H3 hy;have n3:Ep F2 ρ2 F3 ρ2:=⟨s3,cD _⟩;refine⟨F3,ρ2,_,h2,w.ms[i],μ1,S3,(((e.nxt n1).nxt n2).nxt n3).startC k js,r3,hb1,λσ2 e2=>?_⟩;refine⟨F3,ρ2,μ1,h2,S3,e2,(Al.noxb (rep:=cy) (G3.nxt n3)).imp ?_⟩;rintro k H4 ⟨F4,ρ4,k',h4,n4,S4,rfl,G4⟩;by_cases hk:k'=true
     ·rw[if_pos hk]at G4 ⊢;refine⟨F4,ρ4,μ1,h4,S4,e2.nxt n4,(Al.noxb (rep:=AE W) G4).imp ?_⟩;rintro y H5 ⟨F5,ρ5,r5,h5,n5,S5,q5,G5⟩;cases r5 with
      |r n=>exact G5.elim
      |l _ _=>exact G5.elim
      |v m=>exact⟨F5,ρ5,h5,acc++ [m],((n2.trans n3).trans n4).trans n5,S5,(r2.same ((n3.trans n4).trans n5).s).app (.cons q5 .nil),by simp;lia,G5⟩
     rw[if_neg hk]at G4 ⊢;exact⟨F4,ρ4,h4,acc,(n2.trans n3).trans n4,S4,r2.same (n3.trans n4).s,by lia,G4⟩
    exact G3.elim
   rw[if_neg hsrc]at G3;exact G3.elim
  have ei:i=w.ms.length:=by lia
  subst ei;rw[i5]at G3;unfold compLoop at G3;by_cases hsrc:Bt w.src w.ms h2=true
  ·rw[if_pos hsrc]at G3;obtain⟨_,y2⟩:=yl w.ms.length F2 ρ2 H' h2 n2 S2 (Ew hsrc);exact .inl ⟨y2 rfl,by lia,G3.ret S2 r2⟩
  rw[if_neg hsrc]at G3;exact G3.elim
 rw[if_neg hb]at G1;exact G1.elim
def YX(CS:CT scope sc N0 xs ys js)(hc:X.calm=true)(hi:PI X tg iter (U5 W E fi))(hg:∀C s2 H fp,PG (Go X (xs++ys) scope C s2 H fp) tg (Ui W t))(hq:∀C s2 H fp,PQ (Go X (xs++ys) scope C s2 H fp) ifs (Gb W NQ tc))
 (he:∀C s2 H fp,PE (Go X (xs++ys) scope C s2 H fp) elt (tM W NQ te))(hsc:X.env.scope=sc)(hN:X.N=N0)(hs:∀x,foldedSetIterable iter X.env x=pure x) :
 PE X (.ListComp elt [⟨tg,iter,ifs,0⟩] scope pos) (tM W E (Ck xs.length js t fi tc te)):=PE.of (Vs CS hc hi hg hq he hsc hN hs) λσ H Q t=>OY t
end
section
variable {X:Cx}{W:Wd}{E:RX}{cs:List Ci}{σ:St}{H F:Hp}{a b c e o tg l:Expr}{pos apos p:Pos}{fs:En->MH->Aw (List R)}{Φ:Fs}
def Pz(W:Wd)(Φ:Fs)(f:Nat):Sp:=λvs H Q E=>E4 λF ρ h rs=>A3 (By W F H ρ h) (AI W F ρ rs vs) (GE W (λa H'=>E (.ref a) none H') F ρ (Φ f rs h) Q)
def Al.impE{α β:Type}{rep:Hp->List Addr->α->β->Prop}{E E':Addr->Hp->Prop}{ρ:List Addr}{x:Aw α}{Q:β->Hp->Prop}(g:Al W rep E F ρ x Q)(i:∀a H,E a H->E' a H):Al W rep E' F ρ x Q:=by
 cases x with
 |no=>exact g
 |exc m h=>exact λF2 ρ2 H2 a n2 s q=>i _ _ (g F2 ρ2 H2 a n2 s q)
 |ok r h=>exact g
abbrev nV(E:RX)(σ:St):XK:=λe _ H'=>∃a,e=.ref a/\E σ a H'
def Px{f:Nat}(t:tM W E (λμ h=>(fs μ h).bind λrs h1=>Φ f rs h1) σ H Q):Rc E (Pz W Φ f) (Ip W E fs) σ H Q:=by
 obtain⟨F,ρ,μ,h,S,e,G⟩:=t;refine⟨F,ρ,μ,h,S,e,(Al.bind (rep:=AI W) G).imp ?_⟩;rintro vs H1 ⟨F1,ρ1,rs,h1,n1,S1,q1,G1⟩;exact⟨F1,ρ1,h1,rs,S1,q1,G1.impE λa H' z=>⟨a,rfl,z⟩⟩
def Za{f k j:Nat}{x:Str}(Fn:Mt X.prog X.w X.K X.mg X.base x k ps (Pz W Φ f))(hc:B2 X E)(hr:Ba j X.A)(hj:k<=j)(hg:Gl X x)(ha:PA X (e::es) (Ip W E fs))(hdb:(x ==("__debug__" :Str))=false)
 (he:starEach (e::es) X.env=(false,eval e X.env)::starEach es X.env)(hpl:(backTo pos (starEach es X.env)).any (·.1)=false):PE X (.Call (.Name x p) (e::es) [] pos) (tM W E λμ h=>(fs μ h).bind λrs h1=>Φ f rs h1):=
 PE.of (Z1 Fn hc hr hj hg ha hdb he hpl) λ_ _ _ t=>Px t
def UL{f k j:Nat}{x:Str}(Fn:Mt X.prog X.w X.K X.mg X.base x k ps (Pz W Φ f))(hc:B2 X E)(hr:Ba j X.A)(hj:k<=j)(hg:Gl X x)(hdb:(x ==("__debug__" :Str))=false)(hfs:fs=λ_ h=>.ok [] h):PE X (.Call (.Name x p) [] [] pos) (tM W E λμ h=>(fs μ h).bind λrs h1=>Φ f rs h1):=by
 subst hfs;obtain⟨fd,fdd,G,hm,hk,hb⟩:=Fn.ex;intro pins s σ H Q I ⟨F,ρ,μ,h,S,e,GG⟩;refine bS (Cp I hg hm ?_ hdb);refine PySem.W.callWith_K0 I.kIn hk ?_;exact JQ (us:=[]) (vs:=[]) (E:=nV E σ) G (hr.mono hj) hb (λH s e s' J z=>hc pins σ H s e s' J z) I .nil ⟨F,ρ,h,[],S,.nil,Al.impE GG λa H' z=>⟨a,rfl,z⟩⟩
theorem By.take(S:By W F H ρ h)(n:Nat):By W F H (ρ.take n) (h.take n):=by
 refine⟨S.sub,S.nd.sublist (gV _ _),by simp[S.len],λk a m h1 h2=>?_,S.tb,S.tf⟩;rw[fH]at h1 h2;split at h1
 ·rename_i hk;rw[if_pos hk]at h2;exact S.obj k a m h1 h2
 cases h1
def By.born{c:Nat}(S:By W F H ρ h)(n1:H x=none)(n2:H dx=none)(hne:dx≠x):By W F (upd (upd H dx (.own x)) x (.ins (W.ca c) dx [])) (ρ++ [x]) (h++ [.ins c [] []]):=by
 have S1:By W F (upd H dx (.own x)) ρ h:=⟨λb u z=>by rw[Aa (Am (S.sub _ _ z) n2)];exact S.sub _ _ z,S.nd,S.len,λn a m h1 h2=>(S.obj n a m h1 h2).of_new n2,S.tb.upd (λu e=>by rw[n2]at e;cases e),S.tf⟩;have n1':upd H dx (.own x) x=none:=by rw[Aa (bL hne)];exact n1
 exact S1.push n1' ⟨S.sub.free n1,dx,[],Ab,by rw[Aa hne];exact Ab,S.sub.free n2,rfl,.nil⟩
def By.stays{ρ:List Addr}{h:MH}{n:Nat}{q:Addr}{o:MO}{m:MV}(S:By W F H ρ h)(hp:ρ[n]?=some q)(ho:h[n]?=some o)(hm:(∃c ns vs,o=.ins c ns vs/\m=.obj c ns vs)\/o=.gone m):∃F',An F F'/\By W F' H ρ (h.set n (.gone m))/\Ak W F' m (.ref q):=by
 have l:=S.obj n q o hp ho;rcases hm with⟨c,ns,ms,rfl,rfl⟩|rfl
 ·obtain⟨n1,dx,vs,hH,hD,n2,h3,r⟩:=l;have hdp:dx≠q:=Oy hD hH (by intro z;cases z);have n2':(upd F q (.ins (W.ca c) dx ((ns.map W.nm).zip vs))) dx=none:=by rw[Aa hdp];exact n2
  have sF:An F (upd (upd F q (.ins (W.ca c) dx ((ns.map W.nm).zip vs))) dx (.own q)):=(An.new n1).trans (.new n2');have rr:Ak W (upd (upd F q (.ins (W.ca c) dx ((ns.map W.nm).zip vs))) dx (.own q)) (.obj c ns ms) (.ref q):=by
   unfold Ak;exact⟨q,dx,vs,rfl,by rw[Aa (bL hdp)];exact Ab,Ab,h3,r.same sF⟩
  refine⟨_,sF,S.freeze hp (λb u z=>?_) sF (λb hb=>?_) (λb o _ z=>z) (λx z=>by rw[hH]at z;cases z) rr ⟨_,by rw[Aa (bL hdp)];exact Ab,λob z=>by cases z⟩ (λu e _=>e) (λps z=>by rw[hH]at z;cases z),rr⟩
  ·by_cases hb:b=dx
   ·subst hb;rw[Ab]at z;cases z;exact hD
   rw[Aa hb]at z;by_cases hb2:b=q
   ·subst hb2;rw[Ab]at z;cases z;exact hH
   rw[Aa hb2]at z;exact S.sub _ _ z
  by_cases hb2:b=dx
  ·subst hb2;exact .inr ⟨q,hD,rfl⟩
  exact .inl (by rw[Aa hb2,Aa hb])
 obtain⟨r,u,hu⟩:=l;have e2:h.set n (.gone m)=h:=by
  apply eO;intro k;by_cases hk:n=k
  ·subst hk;rw[dU];simp[ho];exact(aE.mp ho).1
  rw[bI hk]
 exact⟨F,An.refl _,by rw[e2];exact S,r⟩
def take_set{α:Type}{l:List α}{n:Nat}{x:α}:(l.set n x).take n=l.take n:=by
 apply eO;intro k;rw[fH,fH];split
 ·rw[bI (by lia)]
 rfl
def YS{c0 f k j:Nat}{x:Str}(M:Mk X.K (W.ca c0) fi)(Fn:DB X.prog X.w X.K X.mg X.base (Gy X.prog X.w) k fi fd ps (Pz W Φ f))(hb:CB X.K fd ps [])(hm:X.mg x=some (.ref (W.ca c0)))(hc:B2 X E)(hr:Ba j X.A)(hj:k+1<=j)(hg:Gl X x)(ha:PA X (e::es) (Ip W E fs))(hdb:(x ==("__debug__" :Str))=false)
 (he:starEach (e::es) X.env=(false,eval e X.env)::starEach es X.env)(hpl:(backTo pos (starEach es X.env)).any (·.1)=false):PE X (.Call (.Name x p) (e::es) [] pos) (tM W E (Jx Φ c0 f fs)):=by
 refine PE.of (RO M Fn hc (hr.mono hj) hg hm hb .nil ha hdb he hpl) ?_;rintro σ H Q ⟨F,ρ,μ,h,S,ee,G⟩;refine⟨F,ρ,μ,h,S,ee,(Al.bind (rep:=AI W) G).imp ?_⟩;rintro vs H1 ⟨F1,ρ1,rs,h1,n1,S1,q1,G1⟩ y dy ny ndy hne;have S2:=S1.born (c:=c0) ny ndy hne;refine⟨F1,ρ1++ [y],h1++ [.ins c0 [] []],.r h1.length::rs,S2,?_,?_⟩
 ·rw[bE];exact .cons S1.atLast (AI.nxt By.nxtPush q1)
 cases ex:Φ f (.r h1.length::rs) (h1++ [.ins c0 [] []]) with
 |no=>rw[ex]at G1;exact G1
 |exc m h'=>rw[ex]at G1;exact λF' ρ' H' a n S' r'=>⟨a,rfl,G1 F' ρ' H' a (By.nxtPush.trans n) S' r'⟩
 |ok r h2=>
  rw[ex]at G1;intro F' ρ' H' v n' S' q';have fin:∀{oo:MO}{m:MV},r=.v .non->h2[h1.length]?=some oo->h2.length=h1.length+1->((∃c ns vs,oo=.ins c ns vs/\m=.obj c ns vs)\/oo=.gone m)->GE W (E σ) F1 ρ1 (.ok (.v m) (h2.take h1.length)) Q->v=.non/\Q (.ref y) H':=by
   intro oo m hr ho hl hm G2;subst hr;have q':=q';unfold Ak at q';have el:ρ'=ρ1++ [y]:=by
    obtain⟨t,ht⟩:=n'.p;have l1:=S'.len;have l2:=S1.len;rw[←ht]at l1 ⊢;simp at l1;have:t=[]:=c9.mp (by lia);rw[this,bE]
   subst el;have hy:(ρ1++ [y])[h1.length]?=some y:=by rw[←S1.len];simp
   obtain⟨F2,s2,S3,r3⟩:=S'.stays hy ho hm;have S4:=S3.take h1.length;rw[take_set,←S1.len,List.take_left',S1.len]at S4
   ·exact⟨q',G2 F2 ρ1 H' (.ref y) ⟨n'.s.trans s2,cD _⟩ S4 r3⟩
   rfl
  simp only[Aw.bind]at G1;split at G1
  ·rename_i c' ns ms ho;split at G1
   ·rename_i hl;exact fin rfl ho hl (.inl ⟨c',ns,ms,rfl,rfl⟩) G1
   exact G1.elim
  ·rename_i m ho;split at G1
   ·rename_i hl;exact fin rfl ho hl (.inr rfl) G1
   exact G1.elim
  exact G1.elim
def YO{c0:Nat}{x:Str}(D:WO X.K X.mg x (W.ca c0))(hg:Gl X x)(hdb:(x ==("__debug__" :Str))=false):PE X (.Call (.Name x p) [] [] pos) (tM W E λ_ h=>.ok (.v (.obj c0 [] [])) h):=by
 refine PE.of (Vp D hg hdb) λσ H Q ⟨F,ρ,μ,h,S,ee,G⟩ y dy n1 n2 hne=>?_;have g1:Dc F H (upd F dy (.own y)) (upd H dy (.own y)):=.new S.sub n2;have n1':upd H dy (.own y) y=none:=by rw[Aa (bL hne)];exact n1
 have g2:Dc (upd F dy (.own y)) (upd H dy (.own y)) (upd (upd F dy (.own y)) y (.ins (W.ca c0) dy [])) (upd (upd H dy (.own y)) y (.ins (W.ca c0) dy [])):=.new g1.sub n1';refine G _ ρ _ _ (g1.nxt.trans g2.nxt) ((S.grow g1).grow g2) ?_;show Ak W _ (.obj c0 [] []) _;unfold Ak;exact⟨y,dy,[],rfl,Ab,by rw[Aa hne];exact Ab,rfl,.nil⟩
def Gp{m:Str}(hb:attributeBase o m env (eval o env)=eval o env)(hf:methodCallForm (args.length+([]:List Keyword).length) (backTo pos (starEach args env)) (backToKw pos (keywordEach [] env))=true)(hl:(apos.endLine ==pos.line)=true) :
 eval (.Call (.Attribute o m apos) args [] pos) env=(do
  let ov ←eval o env
  standAt apos.atName
  let (f,first) ←holding [ov] (getMethod ov m (do return (←importBound o env).getD true))
  callWith pos f first (backTo pos (starEach args env)) (backToKw pos (keywordEach [] env))):=by
 show(do
  let ov ←attributeBase o m env (eval o env)
  standAt apos.atName
  methodCall o m apos pos env ov (args.length+([]:List Keyword).length) (backTo pos (starEach args env)) (backToKw pos (keywordEach [] env)))=_
 rw[hb];unfold methodCall calleeOf methodCallPos;rw[hf];simp only[if_true,Bool.not_true,Bool.false_or,hl,pure_bind]
structure gi(X:Cx)(W:Wd)(Φ:Fs)(cs:List Ci)(k m:Nat):Prop where
 at_:∀(c:Nat) (i:Ci) (f:Nat),cs[c]?=some i->i.exc=false->i.mts.lookup m=some f->∃ps,mj X.prog X.w X.K X.mg X.base (Gy X.prog X.w) k (W.ca c) (W.nm m) ps (Pz W Φ f)
theorem QL{f:Nat}:∀{ns:List Nat}{vs:List V},f∉ns->((ns.map W.nm).zip vs).lookup (W.nm f)=none
 |[],_,_=>rfl
 |n::ns,[],_=>rfl
 |n::ns,v::vs,h=>by
  have h:f≠n/\f∉ns:=by simpa using h
  have e:=bO.mpr λz=>h.1 (W.inj _ _ z);rw[aX,cY,bY,e];exact QL h.2
def O1{m f:Nat}(va:Bh W F H mm x)(h:meth cs m mm=some f):E5 λc i a dx gs=>A6 (x=.ref a) (H a=some (.ins (W.ca c) dx gs)) (gs.lookup (W.nm m)=none) (cs[c]?=some i) (i.exc=false) (i.mts.lookup m=some f):=by
 cases mm<;>simp only[meth]at h<;>first|(cases h;done)|skip
 rename_i c ns ms;obtain⟨i,hi,h2⟩:=aB.mp h;by_cases hc:i.exc=false/\m∉ns
 ·rw[if_pos hc]at h2;obtain⟨a,dx,vs,rfl,h1,_,_,_⟩:=va;exact⟨c,i,a,dx,_,rfl,h1,QL hc.2,hi,hc.1,h2⟩
 rw[if_neg hc]at h2;cases h2
def YR{m k j:Nat}(T:gi X W Φ cs k m)(ho:PE X o (tM W E fa))(hc:B2 X E)(hr:Ba j X.A)(hj:k<=j)(ha:PA X (e::es) (Ip W E fs))(hst:starEach (e::es) X.env=(false,eval e X.env)::starEach es X.env)(hpl:(backTo pos (starEach es X.env)).any (·.1)=false)
 (hb:attributeBase o (W.nm m) X.env (eval o X.env)=eval o X.env)(hf:methodCallForm ((e::es).length+([]:List Keyword).length) (backTo pos (starEach (e::es) X.env)) (backToKw pos (keywordEach [] X.env))=true)(hl:(apos.endLine ==pos.line)=true) :
 PE X (.Call (.Attribute o (W.nm m) apos) (e::es) [] pos) (tM W E (T8 cs Φ m fa fs)):=by
 intro pins s σ H Q I ⟨F,ρ,μ,h,S,ee,G⟩;refine PySem.W.methodCall_KW (Bg (ho pins s σ H _ I ⟨F,ρ,μ,h,S,ee,Al.bind (rep:=AE W) G⟩) ?_) (Gp hb hf hl);rintro u s1 ⟨x,H1,I1,rx,F1,ρ1,r,h1,n1,S1,q1,G1⟩;split at G1
 ·rename_i f hf';obtain⟨mm,hm,hme⟩:=aB.mp hf';obtain⟨c,i,a,dx,gs,rfl,ha1,lk,hi,hex,hmt⟩:=O1 (S1.view q1 hm) hme;obtain rfl:u=Value.ref a:=rx;obtain⟨ps,MD⟩:=T.at_ c i f hi hex hmt;obtain⟨fa',fd,cl,hmm,Ff,hbb⟩:=MD.out;refine HV I1 ha1 cl hmm lk ?_;refine callWith_K (first:=[.ref a]) (h₀:=X.base) I.ok.mod.kin hmm.kp (Bg (ha pos pins s1 σ H1 _ I1 ⟨F1,ρ1,μ,h1,S1,ee.nxt n1,Al.bind (rep:=AI W) G1⟩) λus s2 ⟨vs,H2,I2,rv,F2,ρ2,rs,h2,n2,S2,q2,G2⟩=>⟨I2.kIn,?_⟩) hst hpl;exact JQ (us:=.ref a::us) (vs:=.ref a::vs) (E:=nV E σ) Ff (hr.mono hj) hbb (λH s e s' J z=>hc pins σ H s e s' J z) I2 (.cons rfl rv) ⟨F2,ρ2,h2,r::rs,S2,.cons (q1.nxt n2) q2,G2.impE λa H' z=>⟨a,rfl,z⟩⟩
 exact G1.elim
def UK{m k j:Nat}(T:gi X W Φ cs k m)(ho:PE X o (tM W E fa))(hc:B2 X E)(hr:Ba j X.A)(hj:k<=j)(hfs:fs=λ_ h=>.ok [] h)
 (hb:attributeBase o (W.nm m) X.env (eval o X.env)=eval o X.env)(hl:(apos.endLine ==pos.line)=true) :
 PE X (.Call (.Attribute o (W.nm m) apos) [] [] pos) (tM W E (T8 cs Φ m fa fs)):=by
 subst hfs;intro pins s σ H Q I ⟨F,ρ,μ,h,S,ee,G⟩;refine PySem.W.methodCall_KW (Bg (ho pins s σ H _ I ⟨F,ρ,μ,h,S,ee,Al.bind (rep:=AE W) G⟩) ?_) (Gp hb rfl hl);rintro u s1 ⟨x,H1,I1,rx,F1,ρ1,r,h1,n1,S1,q1,G1⟩;split at G1
 ·rename_i f hf';obtain⟨mm,hm,hme⟩:=aB.mp hf';obtain⟨c,i,a,dx,gs,rfl,ha1,lk,hi,hex,hmt⟩:=O1 (S1.view q1 hm) hme;obtain rfl:u=Value.ref a:=rx;obtain⟨ps,MD⟩:=T.at_ c i f hi hex hmt;obtain⟨fa',fd,cl,hmm,Ff,hbb⟩:=MD.out;refine HV I1 ha1 cl hmm lk ?_;exact PySem.W.callWith_K0 (first:=[.ref a]) I1.kIn hmm.kp (JQ (us:=[.ref a]) (vs:=[.ref a]) (E:=nV E σ) Ff (hr.mono hj) hbb (λH s e s' J z=>hc pins σ H s e s' J z) I1 (.cons rfl .nil) ⟨F1,ρ1,h1,[r],S1,.cons q1 .nil,Al.impE G1 λa H' z=>⟨a,rfl,z⟩⟩)
 exact G1.elim
end
inductive Fl where
 |nx (μ:En)|rt (r:R)|xc (m:MV) (μ:En)
abbrev SR:=Option (Fl×MH)
abbrev Sf:=En->MH->SR
mutual
inductive MS where
 |set (i:Nat) (e:ME)|setT (t:MT) (e:ME)|setC (i:Nat) (e:ME)|setI (o i e:ME)|setF (o:ME) (f:Nat) (e:ME)|expr (e:ME)|ret (e:ME)|ite (c:ME) (a b:QJ)|for_ (t:MT) (it:MI) (b:QJ)
 |raise (c f:Nat) (e:ME)|tryE (b:QJ) (hs:gk)
inductive QJ where
 |nil|cons (s:MS) (r:QJ)
inductive gk where
 |nil|cons (c i:Nat) (s:QJ) (r:gk)
end
def Kg{α:Type}(μ:En)(x:Aw α)(k:α->MH->SR):SR:=match x with
 |.ok a h=>k a h
 |.exc m h=>some (.xc m μ,h)
 |.no=>none
def Mg:MT->R->En->Option En
 |.nm i,r,μ=>some (μ.set i (some r))
 |t,.v m,μ=>AR t m μ
 |_,_,_=>none
def Mx(t:MT)(fe:Ef):Sf:=λμ h=>Kg μ (fe μ h) λr h1=>(Mg t r μ).map λμ'=>(.nx μ',h1)
noncomputable def WV(fo fi fe:Ef):Sf:=λμ h=>Kg μ (fe μ h) λx h1=>Kg μ (fo μ h1) λo h2=>Kg μ (fi μ h2) λi h3=>match x,o,WE i with
 |.v m,.r n,some k=>(match h3[n]? with
  |some (.lst l)=>(Mu l.length k).map λj=>(.nx μ,h3.set n (.lst (l.set j m)))
  |_=>none)
 |_,_,_=>none
noncomputable def CN(f:Nat)(v:MV):List Nat->List MV->List Nat×List MV
 |n::ns,m::ms=>if n=f then(n::ns,v::ms) else let (a,b):=CN f v ns ms;(n::a,m::b)
 |_,_=>([f],[v])
noncomputable def WW(cs:List Ci)(fo:Ef)(f:Nat)(fe:Ef):Sf:=λμ h=>Kg μ (fe μ h) λx h1=>Kg μ (fo μ h1) λo h2=>match x,o with
 |.v m,.r n=>(match h2[n]? with
  |some (.ins c ns ms)=>(cs[c]?).bind λi=>if i.exc=false/\f∈i.flds/\ns.length<1000 then some (.nx μ,h2.set n (.ins c (CN f m ns ms).1 (CN f m ns ms).2)) else none
  |_=>none)
 |_,_=>none
def WZ(fe:Ef):Sf:=λμ h=>Kg μ (fe μ h) λ_ h1=>some (.nx μ,h1)
def KT(fe:Ef):Sf:=λμ h=>Kg μ (fe μ h) λr h1=>some (.rt r,h1)
def Uu(c:Tf)(a b:Sf):Sf:=λμ h=>Kg μ (c μ h) λk h1=>if k=true then a μ h1 else b μ h1
def EL(a b:Sf):Sf:=λμ h=>match a μ h with
 |some (.nx μ',h')=>b μ' h'
 |x=>x
noncomputable def AQ(src:Option Nat)(all:List MV)(t:MT)(b:Sf):List MV->Sf
 |[],μ,h=>if Bt src all h=true then some (.nx μ,h) else none
 |m::r,μ,h=>if Bt src all h=true then(match AR t m μ with
  |some μ1=>(match b μ1 h with
   |some (.nx μ2,h2)=>AQ src all t b r μ2 h2
   |x=>x)
  |none=>none) else none
noncomputable def ip(t:MT)(fi:En->MH->Aw Wk)(b:Sf):Sf:=λμ h=>Kg μ (fi μ h) λw h1=>AQ w.src w.ms t b w.ms μ h1
noncomputable def QO(cs:List Ci)(c f:Nat)(fe:Ef):Sf:=λμ h=>Kg μ (fe μ h) λx h1=>match x,cs[c]? with
 |.v m,some i=>if i.exc=true/\f∈i.flds then some (.xc (.exc c f m) μ,h1) else none
 |_,_=>none
def Ym(fb:Sf)(fh:MV->Sf):Sf:=λμ h=>match fb μ h with
 |some (.xc m μ',h')=>fh m μ' h'
 |x=>x
noncomputable def Uw(i:Nat):SR->SR
 |some (.nx μ,h)=>some (.nx (μ.set i none),h)
 |some (.rt r,h)=>some (.rt r,h)
 |_=>none
def az(cs:List Ci)(d:Nat):MV->Option Bool
 |.exc c _ _=>(cs[c]?).bind λi=>if i.exc=true then some (decide (d∈i.isa)) else none
 |_=>none
noncomputable def QP(cs:List Ci)(d i:Nat)(fs:Sf)(fr:MV->Sf)(m:MV):Sf:=λμ h=>match az cs d m with
 |some true=>Uw i (fs (μ.set i (some (.v m))) h)
 |some false=>fr m μ h
 |none=>none
section
variable (cs:List Ci) (Φ:Fs) (ini:Nat->Option Nat)
mutual
noncomputable def ex:MS->Sf
 |.set i e=>Mx (.nm i) (e2 cs Φ ini e).1
 |.setT t e=>Mx t (e2 cs Φ ini e).1
 |.setC i e=>Mx (.nm i) (e2 cs Φ ini e).1
 |.setI o i e=>WV (e2 cs Φ ini o).1 (e2 cs Φ ini i).1 (e2 cs Φ ini e).1
 |.setF o f e=>WW cs (e2 cs Φ ini o).1 f (e2 cs Φ ini e).1
 |.expr e=>WZ (e2 cs Φ ini e).1
 |.ret e=>KT (e2 cs Φ ini e).1
 |.ite c a b=>Uu (e2 cs Φ ini c).2 (DJ a) (DJ b)
 |.for_ t it b=>ip t (QG cs Φ ini it) (DJ b)
 |.raise c f e=>QO cs c f (e2 cs Φ ini e).1
 |.tryE b hs=>Ym (DJ b) (kZ hs)
noncomputable def DJ:QJ->Sf
 |.nil=>λμ h=>some (.nx μ,h)
 |.cons s r=>EL (ex s) (DJ r)
noncomputable def kZ:gk->MV->Sf
 |.nil=>λ_ _ _=>none
 |.cons d i s r=>QP cs d i (DJ s) (kZ r)
end
end
section
variable {X:Cx}{W:Wd}{E:RX}{sa sb:Sf}{st:Stmt}{sts:List Stmt}
def GS(W:Wd)(E:RX)(D:Io)(F:Hp)(ρ:List Addr):SR->Prop
 |some (.nx μ',h')=>∀F' ρ' H' σ',Ep F ρ F' ρ'->By W F' H' ρ' h'->B1 W F' ρ' μ' σ'->D.nx σ' H'
 |some (.rt r,h')=>∀F' ρ' H' v,Ep F ρ F' ρ'->By W F' H' ρ' h'->AE W F' ρ' r v->D.rt v H'
 |some (.xc m μ',h')=>∀F' ρ' H' σ' a,Ep F ρ F' ρ'->By W F' H' ρ' h'->B1 W F' ρ' μ' σ'->Ak W F' m (.ref a)->E σ' a H'
 |none=>False
def GS.nxt(n:Ep F ρ F1 ρ1)(g:GS W E D F ρ x):GS W E D F1 ρ1 x:=by
 match x,g with
 |some (.nx μ',h'),g=>exact λF' ρ' H' σ' n'=>g F' ρ' H' σ' (n.trans n')
 |some (.rt r,h'),g=>exact λF' ρ' H' σ' n'=>g F' ρ' H' σ' (n.trans n')
 |some (.xc m μ',h'),g=>exact λF' ρ' H' σ' a n'=>g F' ρ' H' σ' a (n.trans n')
def Fa(W:Wd)(E:RX)(f:Sf):TS:=λD σ H=>XY W σ H λF ρ μ h=>GS W E D F ρ (f μ h)
def GS.bind{α β:Type}{rep:Hp->List Addr->α->β->Prop}{ρ:List Addr}{μ:En}{x:Aw α}{k:α->MH->SR}(ee:B1 W F ρ μ σ)(g:GS W E D F ρ (Kg μ x k)):Al W rep (E σ) F ρ x λv H1=>mz W rep F ρ v H1 λF1 ρ1 r h1=>GS W E D F1 ρ1 (k r h1):=by
 cases x with
 |no=>exact g
 |exc m h=>exact λF' ρ' H' a n S r=>g F' ρ' H' σ a n S (ee.nxt n) r
 |ok r h=>exact λF1 ρ1 H1 v n S q=>⟨F1,ρ1,r,h,n,S,q,GS.nxt n g⟩
def Rt(he:PE X e (tM W E fe))(hs:swapsWith e none pos.line X.env=pure false):PS X (.Expr e pos) (Fa W E (WZ fe)):=by
 refine PS.of (JT he hs) λD σ H ⟨F,ρ,μ,h,S,ee,G⟩=>⟨F,ρ,μ,h,S,ee,(GS.bind (rep:=AE W) ee G).imp ?_⟩;rintro v H1 ⟨F1,ρ1,r,h1,n1,S1,q1,G1⟩;exact G1 F1 ρ1 H1 σ .refl S1 (ee.nxt n1)
def Xn(he:PE X e (tM W E fe)):PS X (.Return (some e) pos) (Fa W E (KT fe)):=by
 refine PS.of (Zk he) λD σ H ⟨F,ρ,μ,h,S,ee,G⟩=>⟨F,ρ,μ,h,S,ee,(GS.bind (rep:=AE W) ee G).imp ?_⟩;rintro v H1 ⟨F1,ρ1,r,h1,n1,S1,q1,G1⟩;exact G1 F1 ρ1 H1 v .refl S1 q1
def MK:Df X [] (Fa W E λμ h=>some (.nx μ,h)):=
 Df.of Om λD σ H ⟨F,ρ,μ,h,S,ee,G⟩=>G F ρ H σ .refl S ee
def YG(t:Fa W E (EL sa sb) D σ H):iR (Fa W E sa) (Fa W E sb) D σ H:=by
 obtain⟨F,ρ,μ,h,S,ee,G⟩:=t;refine⟨F,ρ,μ,h,S,ee,?_⟩;unfold EL at G
 match hx:sa μ h,G with
 |none,G=>exact G
 |some (.nx μ',h'),G=>exact λF1 ρ1 H1 σ1 n1 S1 e1=>⟨F1,ρ1,μ',h',S1,e1,GS.nxt n1 G⟩
 |some (.rt r,h'),G=>exact G
 |some (.xc m μ',h'),G=>exact G
def JO(h1:PS X st (Fa W E sa))(h2:Df X sts (Fa W E sb)):Df X (st::sts) (Fa W E (EL sa sb)):=Df.of (HA h1 h2) λ_ _ _ t=>YG t
def Xq(hc:PT X c (Gb W E ta))(ha:Df X u (Fa W E sa))(hb:Df X v (Fa W E sb)):PS X (.If c u v pos) (Fa W E (Uu ta sa sb)):=by
 refine PS.of (Xu hc ha hb) λD σ H ⟨F,ρ,μ,h,S,ee,G⟩=>⟨F,ρ,μ,h,S,ee,(GS.bind (rep:=cy) ee G).imp ?_⟩;rintro k H1 ⟨F1,ρ1,k',h1,n1,S1,rfl,G1⟩;by_cases hk:k'=true
 ·rw[if_pos hk]at G1 ⊢;exact⟨F1,ρ1,μ,h1,S1,ee.nxt n1,G1⟩
 rw[if_neg hk]at G1 ⊢;exact⟨F1,ρ1,μ,h1,S1,ee.nxt n1,G1⟩
def TV{i:Nat}(t:Fa W E (Mx (.nm i) fe) D σ H):U6 (tM W E fe) (LM i) D σ H:=by
 obtain⟨F,ρ,μ,h,S,ee,G⟩:=t;refine⟨F,ρ,μ,h,S,ee,(GS.bind (rep:=AE W) ee G).imp ?_⟩;rintro v H1 ⟨F1,ρ1,r,h1,n1,S1,q1,G1⟩;exact G1 F1 ρ1 H1 _ .refl S1 ((ee.nxt n1).set q1 i)
def ML{i:Nat}{x:Str}(hN:X.N.Nodup)(hi:X.N[i]?=some x)(hx:Uo X.env.scope x)(he:PE X e (tM W E fe))(hs:swapsWith e (some (.Name x pos')) pos.line X.env=pure false)(hf:X.fn x=true\/X.env.scope.names.lookup x=some .local):PS X (.Assign [.Name x pos'] e pos) (Fa W E (Mx (.nm i) fe)):=
 PS.of (Zj hN hi hx he hs hf) λ_ _ _ t=>TV t
def YI(ht:∀i,t≠ .nm i)(he:PE X e (tM W E fe))(hg:PG X tg (Ui W t))(hs:swapsWithSole [tg] e pos.line X.env=pure false)(hw:swappedStores [tg] e X.env=pure none)(h1:(assignEach [tg] X.env).map (·.2)=[assign tg X.env]):PS X (.Assign [tg] e pos) (Fa W E (Mx t fe)):=by
 refine PS.of (R6 he hg hs hw h1) λD σ H ⟨F,ρ,μ,h,S,ee,G⟩=>⟨F,ρ,μ,h,S,ee,(GS.bind (rep:=AE W) ee G).imp ?_⟩;rintro v H1 ⟨F1,ρ1,r,h1,n1,S1,q1,G1⟩;cases r with
 |r n=>cases t<;>first|(exact absurd rfl (ht _))|(exact G1.elim)
 |l _ _=>cases t<;>first|(exact absurd rfl (ht _))|(exact G1.elim)
 |v m=>
  have e1:Mg t (.v m) μ=AR t m μ:=by cases t<;>first|(exact absurd rfl (ht _))|rfl
  rw[e1]at G1;cases hb:AR t m μ with
  |none=>rw[hb]at G1;exact G1.elim
  |some μ'=>rw[hb]at G1;exact⟨F1,ρ1,μ,h1,m,μ',S1,ee.nxt n1,q1,hb,λσ' e'=>G1 F1 ρ1 H1 σ' .refl S1 e'⟩
end
section
def YL{i:Nat}{y:Str}(CS:CT scope sc N0 xs ys js)(hc:X.calm=true)(hNd:X.N.Nodup)(hiy:X.N[i]?=some y)(hy:X.env.scope.names.lookup y=some .local)
 (hi:PI X tg iter (U5 W E fw))(hg:∀C s2 H fp,PG (Go X (xs++ys) scope C s2 H fp) tg (Ui W t))(hq:∀C s2 H fp,PQ (Go X (xs++ys) scope C s2 H fp) ifs (Gb W NQ tc))
 (he:∀C s2 H fp,PE (Go X (xs++ys) scope C s2 H fp) elt (tM W NQ te))(hsc:X.env.scope=sc)(hN:X.N=N0)(hs:∀x,foldedSetIterable iter X.env x=pure x)
 (hsw:swapsWith (.ListComp elt [⟨tg,iter,ifs,0⟩] scope pos) (some (.Name y py)) spos.line X.env=pure true) :
 PS X (.Assign [.Name y py] (.ListComp elt [⟨tg,iter,ifs,0⟩] scope pos) spos) (Fa W E (Mx (.nm i) (Ck xs.length js t fw tc te))):=
 PS.of (MQ CS hc hNd hiy hy hi hg hq he hsc hN hs hsw) λD σ H t=>OY (TV t)
def YJ(ho:PE X o (tM W E fo))(hi:PE X iter (tM W E fi))(he:PE X e (tM W E fe))
 (hsub:∀v,assign (.Subscript o iter pos') X.env v=(do
   let ov ←holding [v] (eval o X.env)
   let iv ←holding [v,ov] (eval iter X.env)
   standAt pos'
   holding [v,ov,iv] (setItem ov iv v)
   release [v,ov,iv] [])) (hs:swapsWithSole [.Subscript o iter pos'] e pos.line X.env=pure false) (hw:swappedStores [.Subscript o iter pos'] e X.env=pure none) (h1:(assignEach [.Subscript o iter pos'] X.env).map (·.2)=[assign (.Subscript o iter pos') X.env]) :
 PS X (.Assign [.Subscript o iter pos'] e pos) (Fa W E (WV fo fi fe)):=by
 refine PS.of (R6 he (Zv ho hi Ro hsub) hs hw h1) λD σ H ⟨F,ρ,μ,h,S,ee,G⟩=>⟨F,ρ,μ,h,S,ee,(GS.bind (rep:=AE W) ee G).imp ?_⟩;rintro x H1 ⟨F1,ρ1,r1,h1,n1,S1,q1,G1⟩;refine⟨F1,ρ1,μ,h1,S1,ee.nxt n1,(GS.bind (rep:=AE W) (ee.nxt n1) G1).imp ?_⟩;rintro ov H2 ⟨F2,ρ2,r2,h2,n2,S2,q2,G2⟩;refine⟨F2,ρ2,μ,h2,S2,(ee.nxt n1).nxt n2,(GS.bind (rep:=AE W) ((ee.nxt n1).nxt n2) G2).imp ?_⟩;rintro iv H3 ⟨F3,ρ3,r3,h3,n3,S3,q3,G3⟩;split at G3
 ·rename_i m n k hk;split at G3
  ·rename_i l hl;obtain⟨p,rfl,hp⟩:=q2.nxt n3;obtain⟨nf,vs,hH,r⟩:=S3.obj n p _ hp hl;cases hj:Mu l.length k with
   |none=>rw[hj]at G3;exact G3.elim
   |some j=>
    rw[hj]at G3;have rr:=(q1.nxt (r:=.v m) n2).nxt (r:=.v m) n3;refine⟨p,vs,k,j,rfl,TW hk q3,hH,by rw[←r.len];exact hj,?_⟩;exact G3 F3 ρ3 _ σ .refl (S3.wrote hp nf hH (r.set rr)) (((ee.nxt n1).nxt n2).nxt n3)
  exact G3.elim
 exact G3.elim
def By.wroteD{ρ:List Addr}{h:MH}{n:Nat}{p:Addr}{u0 u1:HO}{m:MO}(S:By W F H ρ h)(hp:ρ[n]?=some p)(nf:F p=none)(hH:H p=some u0)(hm:∀x,u0≠ .own x)(l:CD W F (upd H p u1) p m)(ht:¬M7 u0):By W F (upd H p u1) ρ (h.set n m):=by
 refine⟨λb u z=>?_,S.nd,by simp[S.len],λk q m' h1 h2=>?_,S.tb.upd λu e=>by rw[hH]at e;cases e;exact ht,S.tf⟩
 ·rw[Aa (λe=>by subst e;rw[nf]at z;cases z)];exact S.sub _ _ z
 rcases N2 h2 with⟨rfl,rfl⟩|⟨hk,h2⟩
 ·rw[hp]at h1;cases h1;exact l
 have hq:q≠p:=λz=>hk (Nodup.inj S.nd (by rw[←z];exact h1) hp);exact(S.obj k q m' h1 h2).apart hq (An.refl _) (λb _=>.inl rfl) (λb o hb z=>by rw[Aa hb];exact z) λx z=>hm x (by rw[hH]at z;cases z;rfl)
theorem Ol{f:Nat}(rv:Ak W F m v):∀{ns:List Nat}{ms:List MV}{vs:List V},Ad W F ms vs->ns.length=vs.length->∃us,DH (W.nm f) v ((ns.map W.nm).zip vs)=(((CN f m ns ms).1).map W.nm).zip us/\Ad W F (CN f m ns ms).2 us/\(CN f m ns ms).1.length=us.length
 |[],ms,vs,r,hl=>by
  obtain rfl:vs=[]:=c9.mp (by simpa using hl.symm);have:=r.len;obtain rfl:ms=[]:=c9.mp (by simpa using this);exact⟨[v],rfl,.cons rv .nil,rfl⟩
 |n::ns,ms,vs,r,hl=>by
  cases vs with
  |nil=>simp at hl
  |cons u vs=>
   cases ms with
   |nil=>have:=r.len;simp at this
   |cons q ms=>
    obtain⟨u',us',z,h1,h2⟩:=r.uncons;cases z;rw[aX,cY];unfold DH CN;by_cases e:n=f
    ·rw[if_pos (by rw[e]),if_pos e];exact⟨v::vs,rfl,.cons rv h2,by simpa using hl⟩
    rw[if_neg (λz=>e (W.inj _ _ z)),if_neg e];obtain⟨us,e1,e2,e3⟩:=Ol rv h2 (by simpa using hl);exact⟨u::us,by rw[e1];rfl,.cons h1 e2,by simpa using e3⟩
def YK(hK:X.K=W.K)(kt:Kt cs W){f:Nat}{pos':Pos}(ho:PE X o (tM W E fo))(he:PE X e (tM W E fe))(hs:swapsWith e (some (.Attribute o (W.nm f) pos')) pos.line X.env=pure false):PS X (.Assign [.Attribute o (W.nm f) pos'] e pos) (Fa W E (WW cs fo f fe)):=by
 refine PS.of (Zl ho he hs) λD σ H ⟨F,ρ,μ,h,S,ee,G⟩=>⟨F,ρ,μ,h,S,ee,(GS.bind (rep:=AE W) ee G).imp ?_⟩;rintro x H1 ⟨F1,ρ1,r1,h1,n1,S1,q1,G1⟩;refine⟨F1,ρ1,μ,h1,S1,ee.nxt n1,(GS.bind (rep:=AE W) (ee.nxt n1) G1).imp ?_⟩;rintro ov H2 ⟨F2,ρ2,r2,h2,n2,S2,q2,G2⟩;split at G2
 ·rename_i m n;split at G2
  ·rename_i c' ns ms hd;cases hi:cs[c']? with
   |none=>rw[hi]at G2;exact G2.elim
   |some i=>
    rw[hi]at G2;by_cases hc:i.exc=false/\f∈i.flds/\ns.length<1000
    ·have G2:GS W E D F2 ρ2 (if i.exc=false/\f∈i.flds/\ns.length<1000 then some (.nx μ,h2.set n (.ins c' (CN f m ns ms).1 (CN f m ns ms).2)) else none):=G2;rw[if_pos hc]at G2;obtain⟨p,rfl,hp⟩:=q2;obtain⟨nf,dx,vs,hH,hD,nd,hl,r⟩:=S2.obj n p _ hp hd;have rr:Ak W F2 m x:=q1.nxt (r:=.v m) n2;obtain⟨us,e1,e2,e3⟩:=Ol (f:=f) rr r hl;have hdp:dx≠p:=Oy hD hH (by intro z;cases z);refine⟨p,W.ca c',dx,_,rfl,hH,by rw[hK];exact(kt.kc c' i hi hc.1).1,by rw[hK];exact kt.kn c' i f hi hc.2.1 hc.1,?_,?_⟩
     ·rw[List.length_zip,aL,hl,Nat.min_self,←hl];exact hc.2.2
     refine G2 F2 ρ2 _ σ .refl (S2.wroteD hp nf hH (λx z=>by cases z) ⟨nf,dx,us,by rw[Ab,e1],by rw[Aa hdp];exact hD,nd,e3,e2⟩ (λz=>z)) ((ee.nxt n1).nxt n2)
    have G2:GS W E D F2 ρ2 (if i.exc=false/\f∈i.flds/\ns.length<1000 then some (.nx μ,h2.set n (.ins c' (CN f m ns ms).1 (CN f m ns ms).2)) else none):=G2;rw[if_neg hc]at G2;exact G2.elim
  exact G2.elim
 exact G2.elim
end
section
def j8(hp:PassesOwn (model X.prog X.w) X.A X.env X.xe)(hc:X.calm=true)(hi:PI X tg iter (U5 W E fw))(hg:PG X tg (Ui W t))(hb:Df X body (Fa W E sb))(hs:∀x,foldedSetIterable iter X.env x=pure x):PS X (.For tg iter body [] pos) (Fa W E (ip t fw sb)):=by
 refine PS.of (R5 hp hc hi hg hb hs) λD σ H ⟨F,ρ,μ,h,S,ee,G⟩=>⟨F,ρ,μ,h,S,ee,(GS.bind (rep:=D7 W) ee G).imp ?_⟩;rintro J H1 ⟨F1,ρ1,w,h1,n1,S1,yl,G1⟩;refine⟨λi m σ' H'=>A3 (m=w.ms.length-i) (i<=w.ms.length) (E4 λF2 ρ2 μ2 h2=>A4 (Ep F1 ρ1 F2 ρ2) (By W F2 H' ρ2 h2) (B1 W F2 ρ2 μ2 σ') (GS W E D F2 ρ2 (AQ w.src w.ms t sb (w.ms.drop i) μ2 h2))),⟨_,rfl,dX _,F1,ρ1,μ,h1,.refl,S1,ee.nxt n1,G1⟩,?_⟩;rintro i m σ' H' ⟨rfl,hi,F2,ρ2,μ2,h2,n2,S2,e2,G2⟩;by_cases hlt:i<w.ms.length
 ·have ed:=fB hlt;rw[ed]at G2;unfold AQ at G2;by_cases hsrc:Bt w.src w.ms h2=true
  ·rw[if_pos hsrc]at G2;split at G2
   ·rename_i μ3 hb3;obtain⟨y1,_⟩:=yl i F2 ρ2 H' h2 n2 S2 (Ew hsrc);obtain⟨go,y2⟩:=y1 w.ms[i] (by simp[hlt]);refine .inr ⟨go,λσ'' H''=>E4 λF2 ρ2 μ2 h2=>A4 (Ep F1 ρ1 F2 ρ2) (By W F2 H'' ρ2 h2) (B1 W F2 ρ2 μ2 σ'') (GS W E D F2 ρ2 (AQ w.src w.ms t sb (w.ms.drop (i+1)) μ2 h2)),λσ'' H'' hN=>⟨w.ms.length-(i+1),by lia,rfl,hlt,hN⟩,λx H3 hy=>?_⟩;obtain⟨F3,s3,S3,r3⟩:=y2 x H3 hy;have n3:Ep F2 ρ2 F3 ρ2:=⟨s3,cD _⟩;refine⟨F3,ρ2,μ2,h2,w.ms[i],μ3,S3,e2.nxt n3,r3,hb3,λσ3 e3=>⟨F3,ρ2,μ3,h2,S3,e3,?_⟩⟩;have G3:=GS.nxt n3 G2
    match hx:sb μ3 h2,G3 with
    |none,G3=>exact G3
    |some (.nx μ4,h4),G3=>exact λF4 ρ4 H4 σ4 n4 S4 e4=>⟨F4,ρ4,μ4,h4,(n2.trans n3).trans n4,S4,e4,GS.nxt n4 G3⟩
    |some (.rt r,h4),G3=>exact G3
    |some (.xc m μ4,h4),G3=>exact G3
   exact G2.elim
  rw[if_neg hsrc]at G2;exact G2.elim
 have ei:i=w.ms.length:=by lia
 subst ei;rw[i5]at G2;unfold AQ at G2;by_cases hsrc:Bt w.src w.ms h2=true
 ·rw[if_pos hsrc]at G2;obtain⟨_,y2⟩:=yl w.ms.length F2 ρ2 H' h2 n2 S2 (Ew hsrc);exact .inl ⟨y2 rfl,G2 F2 ρ2 H' σ' .refl S2 e2⟩
 rw[if_neg hsrc]at G2;exact G2.elim
def UJ{c0 f k j:Nat}{x:Str}(hE:E=λ_=>E1)(hr:Ik X (λe _ H'=>∃a,e=.ref a/\E1 a H'))(hh:X.A.handled=none)(kt:Kt cs W)(hK:X.K=W.K)(Dx:me X.prog X.w X.K X.mg X.base x k (W.nm f) (W.ca c0))(hrm:Ba (j+1) X.A)(hj:k<=j)(hg:Gl X x)(ha:PE X a (tM W E fe))(hdb:(x ==("__debug__" :Str))=false)
 (he:starEach [a] X.env=(false,eval a X.env)::starEach [] X.env):PS X (.Raise (some (.Call (.Name x p2) [a] [] pp)) none pos) (Fa W E (QO cs c0 f fe)):=by
 refine PS.of (R4 hr hh (qV Dx hrm hj hg (Fc ha IX he) hdb he rfl)) λD σ H ⟨F,ρ,μ,h,S,ee,G⟩=>⟨F,ρ,μ,h,S,ee,?_⟩;have G0:=GS.bind (rep:=AE W) ee G;have key:∀x H1,(mz W (AE W) F ρ x H1 λF1 ρ1 r h1=>GS W E D F1 ρ1 (match r,cs[c0]? with
  |.v m,some i=>if i.exc=true/\f∈i.flds then some (.xc (.exc c0 f m) μ,h1) else none
  |_,_=>none))->∀q dq,H1 q=none->H1 dq=none->dq≠q->∃a C d,V.ref q=.ref a/\(upd (upd H1 q (BN q (W.ca c0) (some dq))) dq (.xd [(W.nm f,x)])) a=some (BN a C d)/\Ei X.K C=true/\∃a',Value.ref a=.ref a'/\E1 a' (upd (upd (upd H1 q (BN q (W.ca c0) (some dq))) dq (.xd [(W.nm f,x)])) a (CO a C d)):=by
  rintro x H1 ⟨F1,ρ1,r,h1,n1,S1,q1,G1⟩ q dq nq nd hne;refine⟨q,W.ca c0,some dq,rfl,by rw[Aa (bL hne)];exact Ab,Dx.df.ok.mkk,q,rfl,?_⟩;split at G1
  ·rename_i m i hi;split at G1
   ·have eH:upd (upd (upd H1 q (BN q (W.ca c0) (some dq))) dq (.xd [(W.nm f,x)])) q (CO q (W.ca c0) (some dq))=upd (upd H1 q (CO q (W.ca c0) (some dq))) dq (.xd [(W.nm f,x)]):=by
     funext b
     by_cases hb:b=q
     ·subst hb;rw[Ab,Aa (bL hne),Ab]
     rw[Aa hb];by_cases hb2:b=dq
     ·subst hb2;rw[Ab,Ab]
     rw[Aa hb2,Aa hb2,Aa hb,Aa hb]
    rw[eH];have g1:Dc F1 H1 (upd F1 q (CO q (W.ca c0) (some dq))) (upd H1 q (CO q (W.ca c0) (some dq))):=.new S1.sub nq;have nd':upd H1 q (CO q (W.ca c0) (some dq)) dq=none:=by rw[Aa hne];exact nd
    have g2:Dc (upd F1 q (CO q (W.ca c0) (some dq))) (upd H1 q (CO q (W.ca c0) (some dq))) (upd (upd F1 q (CO q (W.ca c0) (some dq))) dq (.xd [(W.nm f,x)])) (upd (upd H1 q (CO q (W.ca c0) (some dq))) dq (.xd [(W.nm f,x)])):=.new g1.sub nd';have:=G1 _ ρ1 _ σ q (g1.nxt.trans g2.nxt) ((S1.grow g1).grow g2) ((ee.nxt n1).nxt (g1.nxt.trans g2.nxt)) (by
     unfold Ak;exact⟨q,dq,x,rfl,by rw[Aa (bL hne)];exact Ab,Ab,Ak.same (g1.f.trans g2.f) q1⟩)
    rw[hE]at this;exact this
   exact G1.elim
  exact G1.elim
 show GA W (E σ) F ρ ((fe μ h).bind λx h1=>(Aw.ok [] h1).bind λxs h2=>.ok (x::xs) h2) _;cases ex:fe μ h with
 |no=>rw[ex]at G0;exact G0
 |exc m h'=>rw[ex]at G0;exact G0
 |ok r h1=>
  rw[ex]at G0;show GA W (E σ) F ρ (.ok [r] h1) _;intro F1 ρ1 H1 vs n1 S1 q1;cases q1 with
  |cons q1 t=>
   cases t;exact⟨_,rfl,key _ H1 (G0 F1 ρ1 H1 _ n1 S1 q1)⟩
end
section
def Qq(n:∀c o,C.lookup c=some o->F c=some (AX c o)):Mo F (del F C):=λb u e hu=>BU n hu e
theorem CD.del{a:Addr}{m:MO}(n:∀c o,C.lookup c=some o->F c=some (AX c o))(s:An F H)(l:CD W F H a m):CD W (del F C) (del H C) a m:=by
 have nh:∀c o,C.lookup c=some o->H c=some (AX c o):=λc o e=>s _ _ (n c o e);have dn:∀{b:Addr},F b=none->L2.del F C b=none:=λ{b} e=>by
  cases q:C.lookup b with
  |none=>rw[Be q];exact e
  |some o=>exact CP q
 cases m with
 |lst l'=>obtain⟨n1,vs,h,r⟩:=l;exact⟨dn n1,vs,BU nh (λo z=>by cases z) h,r.sameP (Qq n)⟩
 |ins c ns ms=>obtain⟨n1,dx,vs,h1,h2,n2,h3,r⟩:=l;exact⟨dn n1,dx,vs,BU nh (λo z=>by cases z) h1,BU nh (λo z=>by cases z) h2,dn n2,h3,r.sameP (Qq n)⟩
 |gone m=>
  obtain⟨r,o,h,hn⟩:=l;exact⟨r.sameP (Qq n),o,BU n hn h,hn⟩
theorem By.del(S:By W F H ρ h)(n:∀c o,C.lookup c=some o->F c=some (AX c o))(nc:∀c o,C.lookup c=some o->∃v,o.data=.cell v):By W (del F C) (del H C) ρ h:=by
 have nh:∀c o,C.lookup c=some o->H c=some (AX c o):=λc o e=>S.sub _ _ (n c o e);refine⟨λb u e=>?_,S.nd,S.len,λk a m h1 h2=>(S.obj k a m h1 h2).del n S.sub,λt ht=>?_,λt ht=>?_⟩
 ·obtain⟨e1,e2⟩:=Tv e;rw[Be e2];exact S.sub _ _ e1
 ·obtain⟨ps,h1,h2,h3⟩:=S.tb t ht;refine⟨ps,BU nh (λo z=>by cases z) h1,h2,h3.imp id λ⟨c',oc,vs,t,a,b,c,d⟩=>⟨c',oc,vs,t,a,?_,c,d⟩⟩;cases q:C.lookup c' with
  |none=>rw[Be q];exact b
  |some o=>
   exfalso
   have e1:=nh c' o q;rw[b]at e1;cases e1;obtain⟨v,hv⟩:=nc c' _ q;rw[c]at hv;cases hv
 cases q:C.lookup t.1 with
 |none=>rw[Be q];exact S.tf t ht
 |some o=>exact CP q
def AE.del(n:∀c o,C.lookup c=some o->F c=some (AX c o)):∀{r:R}{v:V},Kh r=true->AE W F ρ r v->AE W (del F C) ρ r v
 |.v m,_,_,h=>Ak.sameP (Qq n) h
 |.r k,_,_,h=>h
 |.l _ _,_,z,_=>absurd z a9
theorem AI.del(n:∀c o,C.lookup c=some o->F c=some (AX c o)):∀{rs:List R}{vs:List V},rs.all Kh=true->AI W F ρ rs vs->AI W (del F C) ρ rs vs
 |[],_,_,h=>by cases h;exact .nil
 |r::rs,_,z,h=>by
  have z:Kh r=true/\rs.all Kh=true:=by simpa using z
  cases h with
  |cons q t=>exact .cons (AE.del n z.1 q) (AI.del n z.2 t)
theorem Ry:∀{ms:List MV}{vs:List V},Ad W F ms vs->AI W F ρ (ms.map .v) vs
 |[],vs,h=>by rw[Ad.nil_iff h];exact .nil
 |m::ms,vs,h=>by
  obtain⟨v,r,rfl,h1,h2⟩:=h.uncons;exact .cons h1 (Ry h2)
theorem Fg{α β:Type}{R:α->β->Prop}:∀{l l2:List α}{m m2:List β},Paired R l m->Paired R l2 m2->Paired R (l++l2) (m++m2)
 |[],_,_,_,h,h2=>by cases h;exact h2
 |_::_,_,_,_,h,h2=>by
  cases h with
  |cons q t=>exact .cons q (Fg t h2)
def C0{α β:Type}{R:α->β->Prop}{l:List α}{l':List β}(h:Paired R l l'):l.length=l'.length:=by
 induction h with
 |nil=>rfl
 |cons _ _ ih=>simp[ih]
def Dc.put(s:An F H)(n:∀c o,C.lookup c=some o->H c=none):Dc F H (put F C) (put H C):=by
 have nf:∀c o,C.lookup c=some o->F c=none:=λc o e=>s.free (n c o e);refine⟨λb u e=>Dj nf e,λb u e=>Dj n e,λb u e=>?_,λb u e _ f=>?_⟩
 ·cases q:C.lookup b with
  |none=>rw[Bq q]at e ⊢; exact s _ _ e
  |some o=>rw[DT q]at e ⊢; exact e
 cases q:C.lookup b with
 |none=>rw[Bq q];exact f
 |some o=>rw[n b o q]at e;cases e
def sE(r:AI W F ρ rs vs):B1 W F ρ (rs.map some++List.replicate (N.length-rs.length) none) (L2.Bs N vs):=by
 have l:=C0 r;refine⟨by simp[L2.Bs,l],λi q h=>?_⟩;unfold L2.Bs;by_cases hi:i<rs.length
 ·rw[aS (by simpa using hi),aM]at h;cases hq:rs[i]? with
  |none=>rw[hq]at h;simp at h
  |some q'=>
   rw[hq]at h;cases h;have:∀{rs:List R}{vs:List V}{i:Nat}{q:R},AI W F ρ rs vs->rs[i]?=some q->∃v,vs[i]?=some v/\AE W F ρ q v:=by
     intro rs
     induction rs with
     |nil=>intro vs i q _ e;simp at e
     |cons x rs ih=>
      intro vs i q r e;cases r with
      |cons q0 t=>
       cases i with
       |zero=>simp at e;subst e;exact⟨_,rfl,q0⟩
       |succ i=>simpa using ih t (i:=i) (by simpa using e)
   obtain⟨v,hv,rv⟩:=this r hq;exact⟨v,by rw[aS (by simp;lia),aM,hv];rfl,rv⟩
 rw[aU (by simpa using hi),cL]at h;split at h<;>cases h
def Mr(P:Program)(w:World)(K:Frag)(mg:Str->Option Value)(base:Heap)(W:Wd)(Φ:Fs)(j:Nat):Prop:=∀(F:Hp) (k:Nat) (vs:List V) (v:V),W.lamR F k vs v->∃(l:Uc) (g:Ef),gm l/\
 (∀rs h,Φ k rs h=.no\/(rs.length=l.xs.length+l.ps.length/\Φ k rs h=g (rs.map some++List.replicate ((l.xs++l.ps).length-rs.length) none) h))/\
 (∀(f c':Addr) (cl:List (Str×Addr)) (A:Around) (outer:List Env) (s:Shared) (H:Hp),Il (l.xs++l.ps) l.xs l.ps l.scope cl->Ba j (A.deeper (envX l.qual l.scope s.heap.objs.size f (.ref c') cl))->PE (ib P w K mg base (l.xs++l.ps) l.qual l.scope f (.ref c') cl A outer s H) l.body (tM W NQ g))/\
 E7 λf c' oc pm ctv cl C=>A3 (v=.ref f) (QA l oc cl C vs) (KQ l F f c' oc pm ctv cl C)
def YZ{i j:Nat}{x:Str}(hN:X.N[i]?=some x)(hv:QI X.env.scope x)(hd:(x ==("__debug__" :Str))=false)(hcd:(x ==("__classdict__" :Str))=false)(hr:Ba (j+1) X.A)(hL:Mr X.prog X.w X.K X.mg X.base W Φ j)(ha:PA X (e::es) (Ip W E fs))(he:starEach (e::es) X.env=(false,eval e X.env)::starEach es X.env)(hpl:(backTo pos (starEach es X.env)).any (·.1)=false) :
 PE X (.Call (.Name x p) (e::es) [] pos) (tM W E (TD Φ i fs)):=by
 intro pins s σ H Q I ⟨F,ρ,μ,h,S,ee,G⟩;unfold TD at G;split at G
 ·rename_i k ms hm;obtain⟨v,hσ,vs,lr,rp⟩:=ee.at_ i _ hm;obtain⟨l,g,hB,hΦ,hbd,f,c',oc,pm,ctv,cl,C,rfl,kk,lh⟩:=hL F k vs v lr;refine Vu (l:=l) hN hv hd hcd hr hB hbd ha he hpl pins s σ H Q I ⟨f,c',oc,pm,ctv,cl,C,vs,hσ,kk,F,ρ,μ,h,S,ee,(Al.bind (rep:=AI W) G).imp ?_⟩;rintro us H1 ⟨F1,ρ1,rs,h1,n1,S1,q1,G1⟩;by_cases hnl:rs.all Kh=true
  ·rw[if_pos hnl]at G1;rcases hΦ (ms.map .v++rs) h1 with z|⟨hlen,z⟩
   ·rw[z]at G1;exact G1.elim
   rw[z]at G1;have lh1:=lh.same n1.s;have l1:=C0 q1;have l2:=rp.len;have l3:=kk.len;rw[aR,aL]at hlen;refine⟨lh1.same S1.sub,by lia,del F1 C,ρ1,_,h1,S1.del lh1.cs kk.all,sE (N:=l.xs++l.ps) (Fg (Ry ((rp.same n1.s).sameP (Qq lh1.cs))) (AI.del lh1.cs hnl q1)),?_⟩;cases hg:g ((ms.map R.v++rs).map some++List.replicate ((l.xs++l.ps).length-(ms.map R.v++rs).length) none) h1 with
   |no=>rw[hg]at G1;exact G1.elim
   |exc m h'=>rw[hg]at G1;exact G1.elim
   |ok r h'=>
    rw[hg]at G1;intro F' ρ' H' v n' S' rv hno;have hnf:∀c o,C.lookup c=some o->F' c=none:=λc o e=>S'.sub.free (hno c o e);have nx:Ep F1 ρ1 (put F' C) ρ':=⟨λb u e=>by
      cases q:C.lookup b with
      |none=>rw[Bq q];exact n'.s _ _ (by rw[Be q];exact e)
      |some o=>rw[lh1.cs b o q]at e;cases e;exact DT q,n'.p⟩
    have gr:=Dc.put S'.sub hno;cases r with
    |l _ _=>exact G1.elim
    |v m=>exact G1 _ ρ' _ v nx (S'.grow gr) (AE.nxt gr.nxt rv)
    |r m=>exact G1 _ ρ' _ v nx (S'.grow gr) (AE.nxt gr.nxt rv)
  rw[if_neg hnl]at G1;exact G1.elim
 exact G.elim
def QZ(X:Cx)(W:Wd)(E:RX)(params:Arguments)(body:Expr)(scope:Scope)(lpos:Pos)(P:Addr)(fs:En->MH->Aw (List R)):TA:=λσ H Q=>XY W σ H λF ρ μ h=>GA W (E σ) F ρ (fs μ h) λvs H1=>Ra X params body scope lpos P σ H1 λv H2=>Q (vs++ [v]) H2
def YU(hp:PE X (.Lambda params body scope lpos) (Ra X params body scope lpos P)):PA X [.Lambda params body scope lpos] (QZ X W E params body scope lpos P λ_ h=>.ok [] h):=
 PA.of (FD hp MW rfl) λσ H Q ⟨F,ρ,μ,h,S,ee,G⟩=>(Al.ret (rep:=AI W) G S .nil:Ra X params body scope lpos P σ H λv H2=>Q ([]++ [v]) H2)
def YV(he:PE X e (tM W E fe))(hs:PA X es (QZ X W E params body scope lpos P fs))(hst:starEach (e::es) X.env=(false,eval e X.env)::starEach es X.env):PA X (e::es) (QZ X W E params body scope lpos P λμ h=>(fe μ h).bind λx h1=>(fs μ h1).bind λxs h2=>.ok (x::xs) h2):=by
 refine PA.of (FD he hs hst) λσ H Q ⟨F,ρ,μ,h,S,ee,G⟩=>⟨F,ρ,μ,h,S,ee,(Al.bind (rep:=AE W) G).imp ?_⟩;rintro x H1 ⟨F1,ρ1,r,h1,n1,S1,q1,G1⟩;refine⟨F1,ρ1,μ,h1,S1,ee.nxt n1,(Al.bind (rep:=AI W) G1).imp ?_⟩;rintro xs H2 ⟨F2,ρ2,rs,h2,n2,S2,q2,G2⟩;exact G2.ret S2 (.cons (q1.nxt n2) q2)
def Po(W:Wd)(k:Nat)(l:Uc):Prop:=∀(F:Hp) (f c':Addr) (oc:Obj) (pm ctv:Value) (cl:List (Str×Addr)) (C:List (Addr×Obj)) (vs:List V),QA l oc cl C vs->KQ l F f c' oc pm ctv cl C->W.lamR F k vs (.ref f)
def CD.made{F2 H':Hp}{a:Addr}{m:MO}{P:Addr}(sF:An F F2)(sH:∀b u,H b=some u->¬M7 u->H' b=some u)(lv:∀b u,H b=some u->¬M7 u->F b=none->F2 b=none)(l:CD W F H a m):CD W F2 H' a m:=by
 cases m with
 |lst l'=>obtain⟨n,vs,h,r⟩:=l;exact⟨lv _ _ h id n,vs,sH _ _ h id,r.same sF⟩
 |ins c ns ms=>obtain⟨n,dx,vs,h1,h2,n2,h3,r⟩:=l;exact⟨lv _ _ h1 id n,dx,vs,sH _ _ h1 id,sH _ _ h2 id,lv _ _ h2 id n2,h3,r.same sF⟩
 |gone m=>obtain⟨r,o,h,hn⟩:=l;exact⟨r.same sF,o,sF _ _ h,hn⟩
theorem Jz(ee:B1 W F ρ μ σ):∀{js:List Nat}{ms:List MV},IK μ js=some ms->∃cvs,Ad W F ms cvs/\cvs.length=js.length/\∀i j:Nat,js[i]?=some j->∃v,cvs[i]?=some v/\σ[j]?=some (some v)
 |[],ms,h=>by cases h;exact⟨[],.nil,rfl,λi j e=>by simp at e⟩
 |j::js,ms,h=>by
  unfold IK at h;split at h
  ·rename_i m hm;obtain⟨l,hl,rfl⟩:=aG.mp h;obtain⟨cvs,h1,h2,h3⟩:=Jz ee hl;obtain⟨v,hv,rv⟩:=ee.at_ j _ hm;refine⟨v::cvs,.cons rv h1,by simp[h2],λi j' e=>?_⟩;cases i with
   |zero=>simp at e;subst e;exact⟨v,rfl,hv⟩
   |succ i=>simpa using h3 i j' (by simpa using e)
  cases h
def kB{cl:Cq}{g:Addr->Obj}{c:Addr}{o:Obj}:(cl.map λp=>(p.2,g p.2)).lookup c=some o->(∃x,(x,c)∈cl)/\o=g c:=by
 induction cl with
 |nil=>intro h;simp at h
 |cons p cl ih=>
  intro h;rw[aX,bY]at h;split at h
  ·rename_i e;have e:=aI.mp e;cases h;exact⟨⟨p.1,by rw[e];exact aF⟩,by rw[e]⟩
  obtain⟨⟨x,hx⟩,h2⟩:=ih h;exact⟨⟨x,aD _ hx⟩,h2⟩
def ZW{cl:Cq}{g:Addr->Obj}{p:Str×Addr}(hp:p∈cl):(cl.map λp=>(p.2,g p.2)).lookup p.2=some (g p.2):=by
 induction cl with
 |nil=>simp at hp
 |cons q cl ih=>
  rw[aX,bY];by_cases e:p.2=q.2
  ·rw[←e];simp
  rw[show(p.2 ==q.2)=false from bO.mpr e];rcases aH.mp hp with z|z
  ·exact absurd (by rw[z]) e
  exact ih z
def Zb{f k j:Nat}{x:Str}{js:List Nat}{xs lps:List Str}(Fn:Mt X.prog X.w X.K X.mg X.base x j ps (Pz W Φ f))(hc:B2 X E)(hr:Ba j X.A)(hg:Gl X x)(hdb:(x ==("__debug__" :Str))=false)(hK:∃e0 es0,args=e0::es0/\starEach (e0::es0) X.env=(false,eval e0 X.env)::starEach es0 X.env/\(backTo pos (starEach es0 X.env)).any (·.1)=false)
 (ha:PA X args (QZ X W E params body scope lpos P fs))(hP:(P,X.env.qual++ "<lambda>",lpos)∈W.tl)(hone:∀t∈W.tl,t.1=P->t=(P,X.env.qual++ "<lambda>",lpos))(hfn:∀x,X.fn x=true)
 (hm:Po W k ⟨X.env.qual++ "<lambda>",params,body,scope,xs,lps⟩)(hsc:∀cl:List (Str×Addr),(∀x,scope.names.lookup x=some .free->∃c,cl.lookup x=some c)->(∀x y c,cl.lookup x=some c->cl.lookup y=some c->x=y)->Il (xs++lps) xs lps scope cl)
 (hjs:xs.length=js.length/\∀(i j:Nat) (y:Str),xs[i]?=some y->js[i]?=some j->X.N[j]?=some y/\X.env.scope.names.lookup y=some .cell) :
 PE X (.Call (.Name x p) args [] pos) (tM W E (XR Φ f fs k js)):=by
 obtain⟨fa,fdd,Ff,hmg,hk,hb⟩:=Fn.ex;obtain⟨e0,es0,rfl,he,hpl⟩:=hK;intro pins s σ H Q I ⟨F,ρ,μ,h,S,ee,G⟩;refine bS (Cp I hg hmg ?_ hdb);have G0:=Al.bind (rep:=AI W) G;refine callWith_K (h₀:=X.base) I.ok.mod.kin hk (Bg (ha pos pins s σ H (λws H2=>E9 λF2 ρ1 rs h1 ms vs g c' oc=>E2 λctv cl=>A9 (ws=vs++ [V.ref g]) (Ep F ρ F2 ρ1) (By W F2 H2 ρ1 h1) (AI W F2 ρ1 rs vs) (IK μ js=some ms) (GE W (E σ) F2 ρ1 (noL (Φ f (rs++ [.l k ms]) h1)) Q) (F2 g=some (AX g (kla_obj "<lambda>" (X.env.qual++ "<lambda>") params body scope cl ((X.mg "__name__").getD .none) c' ctv))) (F2 c'=some (AX c' oc)) (A3 ((∃vs t,oc.data=.fields vs/\vs[1]?=some (.str (X.env.qual++ "<lambda>") t))) ((∀p∈cl,X.env.cells.lookup p.1=some p.2)) (∀x,scope.names.lookup x=some .free->∃c,cl.lookup x=some c))) I ⟨F,ρ,μ,h,S,ee,G0.imp ?_⟩) λus s1 ⟨ws,H1,I1,r,q⟩=>⟨I1.kIn,?_⟩) he hpl
 ·rintro vs H1 ⟨F1,ρ1,rs,h1,n1,S1,q1,G1⟩;cases hcap:IK μ js with
  |none=>rw[hcap]at G1;exact G1.elim
  |some ms=>
   rw[hcap]at G1;obtain⟨ps,t1,t2⟩:=S1.tb _ hP;refine⟨ps,t1,t2,λH' g c' oc ctv cl L=>?_⟩;obtain⟨ps',t3,t4⟩:=L.tab;have hcP:c'≠P:=λz=>by have:=L.cd;rw[z,t3]at this;cases this
   have hgc:g≠c':=λz=>by
    have e1:=L.fn;rw[z,L.cd]at e1;cases e1;obtain⟨w,t,hw,_⟩:=L.code;cases hw
   have fc:∀u,F1 c'=some u->u=AX c' oc:=λu e=>by
    have:=L.old _ _ (S1.sub _ _ e) hcP;rw[L.cd]at this;cases this;rfl
   have sF:An F1 (upd (upd F1 c' (AX c' oc)) g (AX g (kla_obj "<lambda>" (X.env.qual++ "<lambda>") params body scope cl ((X.mg "__name__").getD .none) c' ctv))):=λb u e=>by
    rw[Aa (λz=>by have:=S1.sub _ _ e;rw[z,L.new]at this;cases this)];by_cases hb:b=c'
    ·subst hb;rw[Ab,fc u e]
    rw[Aa hb];exact e
   have sH:∀b u,H1 b=some u->¬M7 u->H' b=some u:=λb u e n=>L.old b u e λz=>by rw[z,t1]at e;cases e;exact n trivial
   have nF:∀{b:Addr},b≠g->b≠c'->F1 b=none->(upd (upd F1 c' (AX c' oc)) g (AX g (kla_obj "<lambda>" (X.env.qual++ "<lambda>") params body scope cl ((X.mg "__name__").getD .none) c' ctv))) b=none:=λ{b} h1 h2 e=>by rw[Aa h1,Aa h2];exact e
   have ng:∀{b:Addr}{u:HO},H1 b=some u->b≠g:=λ{b u} e z=>by rw[z,L.new]at e;cases e
   refine⟨_,ρ1,rs,h1,ms,vs,g,c',oc,ctv,cl,rfl,n1.trans ⟨sF,cD _⟩,⟨λb u e=>?_,S1.nd,S1.len,λn a m e1 e2=>(S1.obj n a m e1 e2).made (P:=P) sF sH λb u e hn f=>nF (ng e) (λz=>?_) f,λt ht=>?_,λt ht=>?_⟩,q1.nxt ⟨sF,cD _⟩,rfl,G1.nxt ⟨sF,cD _⟩,Ab,by rw[Aa (bL hgc)];exact Ab,L.code,L.sub,L.has⟩
   ·by_cases hb:b=g
    ·subst hb;rw[Ab]at e;cases e;exact L.fn
    rw[Aa hb]at e;by_cases hb2:b=c'
    ·subst hb2;rw[Ab]at e;cases e;exact L.cd
    rw[Aa hb2]at e;exact L.old _ _ (S1.sub _ _ e) λz=>by rw[z,S1.tf _ hP]at e;cases e
   ·have:=sH b u e hn;rw[z,L.cd]at this;cases this;exact hn trivial
   ·by_cases hp:t.1=P
    ·rw[hone t ht hp];exact⟨ps',t3,t4⟩
    obtain⟨qs,a1,a2,a3⟩:=S1.tb t ht;refine⟨qs,L.old _ _ a1 hp,a2,a3.imp id λ⟨d,od,w,t,x1,x2,x3,x4⟩=>⟨d,od,w,t,x1,L.old _ _ x2 (λz=>by rw[z,t1]at x2;cases x2),x3,x4⟩⟩
   obtain⟨qs,a1,_⟩:=S1.tb t ht;refine nF (ng a1) (λz=>?_) (S1.tf t ht);by_cases hp:t.1=P
   ·exact hcP (by rw[←z];exact hp)
   have:=L.old _ _ a1 hp;rw[z,L.cd]at this;cases this
 obtain⟨F2,ρ1,rs,h1,ms,vs,g,c',oc,ctv,cl,rfl,nx,S2,q2,hcap,G2,hg',hc',hcode,ksub,khas⟩:=q;have cellA:∀p∈cl,∃o v,s1.heap.get? p.2=some o/\o.data=.cell v:=λp hp=>by
  obtain⟨v,o,ho,hd⟩:=I1.cell p.1 p.2 (ksub p hp);exact⟨o,v,ho,hd⟩
 have cinfo:∀c o,(cl.map λp=>(p.2,(s1.heap.get? p.2).getD default)).lookup c=some o->∃p∈cl,p.2=c/\s1.heap.get? c=some o/\∃v,o.data=.cell v:=λc o e=>by
  obtain⟨⟨x,hx⟩,rfl⟩:=kB (g:=λa=>(s1.heap.get? a).getD default) e;obtain⟨o,v,ho,hd⟩:=cellA (x,c) hx;refine⟨(x,c),hx,rfl,?_⟩;rw[ho];exact⟨rfl,v,hd⟩
 have CS:JA X H1 s1 (cl.map λp=>(p.2,(s1.heap.get? p.2).getD default)):=⟨λc o e=>by
  obtain⟨p,hp,rfl,ho,_⟩:=cinfo c o e;exact⟨I1.freeC p.1 p.2 (ksub p hp),ho⟩,λc o e=>by
  obtain⟨p,hp,rfl,ho,_⟩:=cinfo c o e;exact⟨I1.ok.cab p.1 p.2 (hfn _) (ksub p hp),I1.cne p.1 p.2 (ksub p hp)⟩,λc o e=>by
  obtain⟨p,hp,rfl,ho,hv⟩:=cinfo c o e;exact hv⟩
 generalize hC:(cl.map λp=>(p.2,(s1.heap.get? p.2).getD default))=C at CS cinfo;have look:∀p∈cl,∃o,C.lookup p.2=some o/\s1.heap.get? p.2=some o:=λp hp=>by
  obtain⟨o,v,ho,hd⟩:=cellA p hp;refine⟨o,?_,ho⟩;rw[←hC,ZW (g:=λa=>(s1.heap.get? a).getD default) hp,ho];rfl
 obtain⟨cvs,rc,lc,ac⟩:=Jz (ee.nxt nx) hcap;have gr:Dc F2 H1 (put F2 C) (put H1 C):=Dc.put S2.sub λc o e=>(CS.at_ c o e).1;have sc:=hsc cl khas λx y c h1 h2=>I1.ok.inj x y c (ksub _ (PySem.mem_of_lookup h1)) (ksub _ (PySem.mem_of_lookup h2));have kk:QA ⟨X.env.qual++ "<lambda>",params,body,scope,xs,lps⟩ oc cl C cvs:=by
  refine⟨hcode,λx c e=>?_,sc,λi y v e1 e2=>?_,by rw[lc];exact hjs.1.symm,CS.cl⟩
  ·obtain⟨o,e1,e2⟩:=look _ (PySem.mem_of_lookup e);obtain⟨v,hv⟩:=CS.cl _ _ e1;exact⟨o,v,e1,hv⟩
  have hi:i<js.length:=by rw[←hjs.1];exact(aE.mp e1).1
  obtain⟨n1,n2⟩:=hjs.2 i js[i] y e1 (by simp[hi]);obtain⟨v',e3,e4⟩:=ac i js[i] (by simp[hi]);rw[show cvs[i]?=some v from e2]at e3;cases e3;obtain⟨m,_,hl⟩:=I1.loc;obtain⟨u,ru,lk⟩:=hl js[i] y v n1 e4 (.inr (.inl n2));obtain⟨c,e5⟩:=khas y (sc.cap y (aP e1));have e6:=ksub _ (PySem.mem_of_lookup e5);obtain⟨o,e7,e8⟩:=look _ (PySem.mem_of_lookup e5);rcases lk with⟨z,_⟩|⟨_,c2,e9,o2,e10,e11⟩
  ·have z:X.env.scope.names.lookup y=some .local:=z;rw[n2]at z;cases z
  rw[show X.env.cells.lookup y=some c from e6]at e9;cases e9;rw[show s1.heap.get? c=some o from e8]at e10;cases e10;exact⟨c,u,o,e5,ru,e7,e11⟩
 have lh:KQ ⟨X.env.qual++ "<lambda>",params,body,scope,xs,lps⟩ (put F2 C) g c' oc ((X.mg "__name__").getD .none) ctv cl C:=⟨gr.f _ _ hg',gr.f _ _ hc',λc o e=>DT e⟩;have back:∀{F':Hp}{ρ':List Addr},Ep (put F2 C) ρ1 F' ρ'->(∀c o,C.lookup c=some o->F' c=some (AX c o))/\Ep F2 ρ1 (del F' C) ρ':=λ{F' ρ'} n'=>by
  have nc:∀c o,C.lookup c=some o->F' c=some (AX c o):=λc o e=>n'.s _ _ (DT e);refine⟨nc,λb u e=>?_,n'.p⟩;cases q:C.lookup b with
  |none=>rw[Be q];exact n'.s _ _ (by rw[Bq q];exact e)
  |some o=>have:=S2.sub _ _ e;rw[(CS.at_ b o q).1]at this;cases this
 refine UM (E:=nV E σ) Ff hr hb (λH s e s' J z=>hc pins σ H s e s' J z) I1 CS r ⟨put F2 C,ρ1,h1,rs++ [.l k ms],S2.grow gr,Fg (AI.nxt gr.nxt q2) (.cons (show AE W (put F2 C) ρ1 (.l k ms) (.ref g) from⟨cvs,hm _ _ _ _ _ _ _ _ _ kk lh,rc.same gr.f⟩) .nil),?_⟩;cases hΦ:Φ f (rs++ [.l k ms]) h1 with
 |no=>rw[hΦ]at G2;exact G2.elim
 |exc m h'=>
  rw[hΦ]at G2;intro F' ρ' H' a n' S' rm _;obtain⟨nc,n2⟩:=back n';exact⟨a,rfl,G2 (del F' C) ρ' (del H' C) a n2 (S'.del nc CS.cl) (Ak.sameP (Qq nc) rm)⟩
 |ok rr h'=>
  rw[hΦ]at G2;intro F' ρ' H' v n' S' rv _;obtain⟨nc,n2⟩:=back n';cases rr with
  |l _ _=>exact G2.elim
  |v m=>exact G2 (del F' C) ρ' (del H' C) v n2 (S'.del nc CS.cl) (AE.del nc rfl rv)
  |r m=>exact G2 (del F' C) ρ' (del H' C) v n2 (S'.del nc CS.cl) (AE.del nc rfl rv)
end
structure Gt where
 cs:List Ci
 fns:List Str
 nm:Nat->Str
 glo:List (Str×MV)
 blt:List Str
 ini:Nat->Option Nat
 lam:Nat->List Str×List Str
 lck:Nat->Expr->Scope->Bool
 lt:Nat->Bool
structure Ct where
 N:List Str
 sc:Scope
 fn:Bool
 rz:Bool
 lp:List Pos
def kd(Γ:Ct)(x:Str):Option NameKind:=Γ.sc.names.lookup x
def odd(x:Str):Bool:=x== "__debug__" ||x== "__classdict__" ||x== "__name__"
def vis(Γ:Ct)(i:Nat)(x:Str):Bool:=decide (Γ.N[i]?=some x)&&(kd Γ x ==some .local||kd Γ x ==some .cell||kd Γ x ==some .free)&& !odd x
def sto(Γ:Ct)(i:Nat)(x:Str):Bool:=decide (Γ.N[i]?=some x)&&(kd Γ x ==some .local||(kd Γ x ==some .cell&&Γ.fn))
def gl(Γ:Ct)(x:Str):Bool:=kd Γ x ==some .globalImplicit&& !odd x
def Bw:Expr->Bool
 |.Starred _ _=>true
 |_=>false
noncomputable def Dm:Expr->Bool
 |.Call (.Name _ _) [] [] _=>false
 |_=>true
def Dl:Expr->Bool
 |.Set _ _ _=>false
 |_=>true
def CY:Expr->Bool
 |.Slice _ _ _ _=>false
 |_=>true
noncomputable def Do:Expr->Bool
 |.ListComp _ _ _ _=>false
 |.SetComp _ _ _ _=>false
 |.DictComp _ _ _ _ _=>false
 |_=>true
def Sb:Expr->Bool
 |.Tuple _ _ _=>false
 |_=>true
def H9(scope sc:Scope):Scope:={scope with names:=scope.names.map λ(n,k)=>if (k ==NameKind.free&&sc.kind== .function&&sc.names.lookup n ==some .cell) then(n,.cell) else(n,k)}
noncomputable def SE:MV->Const->Bool
 |.non,.none=>true
 |.bl b,.bool b'=>b ==b'
 |.int i,.int j=>i ==j
 |.str x,.str y=>x ==y
 |_,_=>false
def NA(scope:Scope)(Γ:Ct)(xs ys:List Str)(js:List Nat):Bool:=
 scope.kind== .function&&scope.names.all (λy=>y.2 != .cell)&&scope.names.all (λy=>y.2 != .local||scope.names.lookup y.1 ==some .local)
 && scope.names.all (λy=>y.2 != .free||Γ.sc.names.lookup y.1 ==some .cell||Γ.sc.names.lookup y.1 ==some .free)
 && decide (ys.length=js.length)&&(ys.zip js).all (λp=>decide (Γ.N[p.2]?=some p.1)&&scope.names.lookup p.1 ==some .free&&scope.names.contains (p.1,NameKind.free)&&(Γ.sc.names.lookup p.1 ==some .cell||Γ.sc.names.lookup p.1 ==some .free))
 && decide (xs++ys).Nodup
def MZ(f:Str->Pos->Bool)(e:Expr):Bool:=if h:e.ctorIdx=23 then Expr.Name.elim e h f else false
def W0(f:Const->Bool)(e:Expr):Bool:=if h:e.ctorIdx=19 then Expr.Constant.elim e h (λc _ _=>f c) else false
def M5(f:List Expr->Nat->Pos->Bool)(e:Expr):Bool:=if h:e.ctorIdx=25 then Expr.Tuple.elim e h f else false
def VC(f:List Expr->Bool)(e:Expr):Bool:=if h:e.ctorIdx=24 then Expr.List.elim e h (λl _=>f l) else false
def dc(f:List (Option Expr)->List Expr->Bool)(e:Expr):Bool:=if h:e.ctorIdx=6 then Expr.Dict.elim e h (λk v _=>f k v) else false
def Q7(f:Expr->Str->Pos->Bool)(e:Expr):Bool:=if h:e.ctorIdx=20 then Expr.Attribute.elim e h f else false
def Rf(f:Expr->Expr->Bool)(e:Expr):Bool:=if h:e.ctorIdx=21 then Expr.Subscript.elim e h (λx y _=>f x y) else false
def YC(f:Option Expr->Option Expr->Option Expr->Bool)(e:Expr):Bool:=if h:e.ctorIdx=26 then Expr.Slice.elim e h (λl h s _=>f l h s) else false
def fg(f:Expr->Operator->Expr->Bool)(e:Expr):Bool:=if h:e.ctorIdx=2 then Expr.BinOp.elim e h (λx o y _=>f x o y) else false
def Uz(f:UnaryOp->Expr->Bool)(e:Expr):Bool:=if h:e.ctorIdx=3 then Expr.UnaryOp.elim e h (λo x _=>f o x) else false
def W3(f:Expr->List CmpOp->List Expr->Bool)(e:Expr):Bool:=if h:e.ctorIdx=15 then Expr.Compare.elim e h (λx o y _=>f x o y) else false
def WB(f:BoolOp->List Expr->Bool)(e:Expr):Bool:=if h:e.ctorIdx=0 then Expr.BoolOp.elim e h (λo l _=>f o l) else false
def br(f:Expr->Expr->Expr->Bool)(e:Expr):Bool:=if h:e.ctorIdx=5 then Expr.IfExp.elim e h (λx y z _=>f x y z) else false
def VR(f:Expr->List Expr->List Keyword->Pos->Bool)(e:Expr):Bool:=if h:e.ctorIdx=16 then Expr.Call.elim e h f else false
def aa(f:Expr->List Comprehension->Scope->Bool)(e:Expr):Bool:=if h:e.ctorIdx=8 then Expr.ListComp.elim e h (λe g s _=>f e g s) else false
def af(f:Arguments->Expr->Scope->Pos->Bool)(e:Expr):Bool:=if h:e.ctorIdx=4 then Expr.Lambda.elim e h f else false
def Fj{α:Type}:List α->Bool| []=>true|_=>false
def FE{α:Type}(f:α->Bool):List α->Bool| [x]=>f x|_=>false
def Yv{α:Type}(f:α->α->Bool):List α->Bool| [x,y]=>f x y|_=>false
def GV{α:Type}(f:α->List α->Bool):List α->Bool|x::l=>f x l|_=>false
def Gq(f:Str->List Expr->Bool):Expr->Bool:=VR λg l k _=>Fj k&&MZ (λx _=>f x l) g
def Q4(f:Expr->Str->List Expr->Bool->Bool):Expr->Bool:=VR λg l k p=>Fj k&&Q7 (λo x q=>f o x l (q.endLine ==p.line)) g
def W9(Γ:Ct):List Nat->List Expr->Bool
 |[],l=>Fj l
 |i::is,l=>GV (λe es=>MZ (λx _=>sto Γ i x) e&&W9 Γ is es) l
def lG(Γ:Ct):MT->Expr->Bool
 |.nm i=>MZ λx _=>sto Γ i x
 |.tup is=>M5 λes _ _=>W9 Γ is es
 |.lst is=>M5 λes _ _=>W9 Γ is es
def SS(G:Gt)(x:Str)(c:Nat):Bool:=match G.cs[c]? with
 |some i=>i.nm ==x
 |none=>false
def cn(G:Gt)(x:Str)(i:Int):Bool:=match G.glo.lookup x with
 |some (.int j)=>i ==j
 |_=>false
def cj(G:Gt)(x:Str)(i:Str):Bool:=match G.glo.lookup x with
 |some (.str j)=>i ==j
 |_=>false
def XC(G:Gt)(x:Str):MV->Bool
 |.cls c=>SS G x c
 |.int i=>cn G x i
 |.str i=>cj G x i
 |_=>false
noncomputable def Cs(p:Arguments)(ps:List Str):Bool:=match p with
 |⟨[],as,none,[],[],none,[]⟩=>decide (as.map (·.arg)=ps)
 |_=>false
def BS(xs ps:List Str)(sc:Scope):Bool:=sc.kind== .function&& !sc.isCoroutine&& !sc.isGenerator&&decide (xs++ps).Nodup&&ps.all (λx=>sc.names.lookup x ==some .local)&&xs.all (λx=>sc.names.lookup x ==some .free)&&sc.names.all (λy=>y.2 != .cell)
noncomputable def X6(G:Gt)(k:Nat)(js:List Nat)(Γ:Ct)(a:Arguments)(b:Expr)(sc:Scope)(p:Pos):Bool:=
 Cs a (G.lam k).2&&BS (G.lam k).1 (G.lam k).2 sc&&G.lck k b sc&&decide (p∈Γ.lp)&&Γ.fn&&decide ((G.lam k).1.length=js.length)&&((G.lam k).1.zip js).all (λq=>decide (Γ.N[q.2]?=some q.1)&&kd Γ q.1 ==some .cell)&&sc.names.all (λy=>y.2 != .free||kd Γ y.1 ==some .cell)
def Pc(G:Gt)(c:Nat)(f:Ci->Bool):Bool:=(G.cs[c]?).any f
section
variable (G:Gt)
def FT(Γ:Ct)(x y:Str):Bool:=x ==y&&gl Γ x&&decide (x∈G.blt)
mutual
noncomputable def Cj:ME->Ct->Expr->Bool
 |.var i,Γ=>MZ λx _=>vis Γ i x
 |.mov i,Γ=>MZ λx _=>vis Γ i x
 |.con m,_=>W0 (SE m)
 |.glo x m,Γ=>MZ λy _=>y ==x&&gl Γ y&&XC G y m
 |.bty x k,Γ=>MZ λy _=>FT G Γ y x&&x ==Str.ofString k.nm&&(k== .int||k== .bl||k== .str||k== .tup||k== .lst||k== .dct)
 |.tup es,Γ=>M5 λl _ _=>CC es Γ l
 |.lst es,Γ=>VC (CC es Γ)
 |.lstL es,Γ=>VC (CC es Γ)
 |.dicL _,_=>dc λk v=>Fj k&&Fj v
 |.fld e f,Γ=>Q7 λo x _=>x ==G.nm f&&Cj e Γ o&&Dm o
 |.idx a b,Γ=>Rf λx y=>Cj a Γ x&&Cj b Γ y&&CY y
 |.sli a lo hi,Γ=>Rf λx y=>Cj a Γ x&&YC (λl h s=>sW lo Γ l&&sW hi Γ h&&s.isNone) y
 |.bin o a b,Γ=>fg λx p y=>p ==o.op&&Cj a Γ x&&Cj b Γ y
 |.una o a,Γ=>Uz λp x=>p ==o.op&&Cj a Γ x
 |.cmp o a b,Γ=>W3 λx p y=>decide (p=[o.op])&&Cj a Γ x&&FE (λy=>Cj b Γ y&&Dl y) y
 |.cmp2 o o' a b c,Γ=>W3 λx p y=>decide (p=[o.op,o'.op])&&Cj a Γ x&&Yv (λy z=>Cj b Γ y&&Cj c Γ z&&Dl z) y
 |.not a,Γ=>Uz λp x=>p== .Not&&Cj a Γ x
 |.and es,Γ=>WB λp l=>p== .And&&CC es Γ l&& !l.isEmpty
 |.or es,Γ=>WB λp l=>p== .Or&&CC es Γ l&& !l.isEmpty
 |.ife c a b,Γ=>br λx y z=>Cj c Γ x&&Cj a Γ y&&Cj b Γ z
 |.call f es,Γ=>Gq λx l=>decide (G.fns[f]?=some x)&&gl Γ x&&CC es Γ l
 |.make c es,Γ=>Gq λx l=>Pc G c (λi=>i.nm ==x&& !i.exc&&(G.ini c).isSome)&&gl Γ x&&CC es Γ l&& !l.isEmpty
 |.new0 c,Γ=>Gq λx l=>Pc G c (λi=>i.nm ==x&& !i.exc)&&gl Γ x&&Fj l
 |.meth m o es,Γ=>Q4 λx y l p=>y ==G.nm m&&Cj o Γ x&&CC es Γ l&&Dm x&&p&&decide (l.length<30)
 |.bfn b es,Γ=>Gq λx l=>FT G Γ x b.nm&&CC es Γ l&& !l.isEmpty
 |.lenset e,Γ=>Gq λx l=>FT G Γ x "len" &&FE (Gq λy m=>FT G Γ y "set" &&FE (λz=>Cj e Γ z&& !Bw z) m) l
 |.bmt b o es,Γ=>Q4 λx y l p=>y ==b.nm&&Cj o Γ x&&CC es Γ l&&Dm x&&p&&decide (l.length<29)
 |.mmt b o es,Γ=>Q4 λx y l p=>y ==b.nm&&Cj o Γ x&&CC es Γ l&&Dm x&&p&&decide (l.length<29)
 |.calL f es k js,Γ=>Gq λx l=>decide (G.fns[f]?=some x)&&gl Γ x&&sX es k js Γ l
 |.calv i es,Γ=>Gq λx l=>vis Γ i x&&CC es Γ l&& !l.isEmpty
 |.comp xs ys js tg it c e,Γ=>aa λelt gs scope=>FE (λg=>g.is_async ==0&&NA scope Γ xs ys js&&sY it Γ g.target g.iter&&Dl g.iter&&lG ⟨xs++ys,H9 scope Γ.sc,false,false,[]⟩ tg g.target&&CC c ⟨xs++ys,H9 scope Γ.sc,false,false,[]⟩ g.ifs&&Cj e ⟨xs++ys,H9 scope Γ.sc,false,false,[]⟩ elt) gs
noncomputable def CC:EN->Ct->List Expr->Bool
 |.nil,_=>Fj
 |.cons e r,Γ=>GV λx l=>Cj e Γ x&& !Bw x&&CC r Γ l
noncomputable def sX:EN->Nat->List Nat->Ct->List Expr->Bool
 |.nil,k,js,Γ=>FE (af (X6 G k js Γ))
 |.cons e r,k,js,Γ=>GV λx l=>Cj e Γ x&& !Bw x&&sX r k js Γ l
noncomputable def sW:oA->Ct->Option Expr->Bool
 |.no,_=>(·.isNone)
 |.ye e,Γ=>(·.any (Cj e Γ))
noncomputable def sY:MI->Ct->Expr->Expr->Bool
 |.of e,Γ,_=>Cj e Γ
 |.rng1 a,Γ,_=>Gq λf l=>FT G Γ f "range" &&FE (λx=>Cj a Γ x&& !Bw x) l
 |.rng2 a b,Γ,_=>Gq λf l=>FT G Γ f "range" &&Yv (λx y=>Cj a Γ x&&Cj b Γ y&& !Bw x&& !Bw y) l
 |.enu a,Γ,t=>Gq λf l=>FT G Γ f "enumerate" &&FE (λx=>Cj a Γ x&& !Bw x) l&&M5 (λ_ _ _=>true) t
end
end
structure Cg(G:Gt)(W:Wd)(Φ:Fs)(k:Nat)(Γ:Ct)(E:RX)(X:Cx):Prop where
 hK:X.K=W.K
 nm:W.nm=G.nm
 kt:Kt G.cs W
 nb:∀x∈G.blt,X.mg x=none
 fns:∀(f:Nat) (x:Str),G.fns[f]?=some x->∃ps,Mt X.prog X.w X.K X.mg X.base x k ps (Pz W Φ f)
 cl:∀(c:Nat) (i:Ci),G.cs[c]?=some i->X.mg i.nm=some (.ref (W.ca c))
 mkk:∀(c:Nat) (i:Ci) (f:Nat),G.cs[c]?=some i->i.exc=false->G.ini c=some f->E3 λfi fd ps=>A3 (Mk X.K (W.ca c) fi) (DB X.prog X.w X.K X.mg X.base (Gy X.prog X.w) k fi fd ps (Pz W Φ f)) (CB X.K fd ps [])
 n0:∀(c:Nat) (i:Ci),G.cs[c]?=some i->i.exc=false->G.ini c=none->WO X.K X.mg i.nm (W.ca c)
 mt:∀m,gi X W Φ G.cs k m
 gI:∀(x:Str) (j:Int),G.glo.lookup x=some (.int j)->∃t,X.mg x=some (.int j t)
 gS:∀(x:Str) (j:Str),G.glo.lookup x=some (.str j)->∃t,X.mg x=some (.str j t)
 calm:X.calm=true
 room:Ba (k+1) X.A
 hN:X.N=Γ.N
 nd:Γ.N.Nodup
 sc:X.env.scope=Γ.sc
 fn:Γ.fn=true->∀x,X.fn x=true
 own:Γ.rz=true->PassesOwn (model X.prog X.w) X.A X.env X.xe
 fr:Γ.rz=true->X.stack=X.env::X.outer/\X.env.frame=some X.env.locals
 esc:B2 X E
 lamM:∀(k:Nat) (l:Uc),l.xs=(G.lam k).1->l.ps=(G.lam k).2->Cs l.params l.ps=true->BS l.xs l.ps l.scope=true->G.lck k l.body l.scope=true->Po W k l
 lamO:Mr X.prog X.w X.K X.mg X.base W Φ k
 tab:∀p∈Γ.lp,E2 λc P=>A6 (X.env.code=.ref c) (CodeHd X.base c P) (X.base.BuiltinsAt X.mg P) (mainGlobals≠P) ((P,X.env.qual++ "<lambda>",p)∈W.tl) (∀t∈W.tl,t.1=P->t=(P,X.env.qual++ "<lambda>",p))
 ra:Γ.rz=true->∃E1,E=(λ_=>E1)/\Ik X (λe _ H'=>∃a,e=.ref a/\E1 a H')
 xs:∀(c f:Nat) (i:Ci),G.cs[c]?=some i->i.exc=true->f∈i.flds->∃k',k'<=k/\me X.prog X.w X.K X.mg X.base i.nm k' (W.nm f) (W.ca c)
 fnsH:∀(f:Nat) (x:Str),G.fns[f]?=some x->G.lt f=true->∃ps,Yc X.prog X.w X.K X.mg X.base x k ps (Pz W Φ f)
section
variable {k:Nat}
theorem Cg.hd(c:Cg G W Φ k Γ E X):X.A.handled=none:=c.room.hd
def Cg.hu(c:Cg G W Φ k Γ E X):X.A.units+70<cLine:=by have:=c.room.un;lia
def Gj{x:Str}(h:(!odd x)=true):(x ==("__debug__" :Str))=false/\(x ==("__classdict__" :Str))=false/\(x ==("__name__" :Str))=false:=by
 unfold odd at h;simp only[Bool.not_or,Bool.and_eq_true,Bool.not_eq_true']at h;exact⟨h.1.1,h.1.2,h.2⟩
theorem Cg.vis(c:Cg G W Φ k Γ E X){i:Nat}{x:Str}(h:B.vis Γ i x=true):X.N[i]?=some x/\QI X.env.scope x/\(x ==("__debug__" :Str))=false/\(x ==("__classdict__" :Str))=false:=by
 unfold B.vis kd at h;simp only[Bool.and_eq_true,Bool.or_eq_true,decide_eq_true_eq,beq_iff_eq]at h;obtain⟨⟨h1,h2⟩,h3⟩:=h;have o:=Gj h3;refine⟨by rw[c.hN];exact h1,?_,o.1,o.2.1⟩;unfold QI;rw[c.sc];rcases h2 with(h2|h2)|h2
 ·exact .inl h2
 ·exact .inr (.inl h2)
 exact .inr (.inr h2)
theorem Cg.sto(c:Cg G W Φ k Γ E X){i:Nat}{x:Str}(h:B.sto Γ i x=true):X.N[i]?=some x/\Uo X.env.scope x/\(X.fn x=true\/X.env.scope.names.lookup x=some .local):=by
 unfold B.sto kd at h;simp only[Bool.and_eq_true,Bool.or_eq_true,decide_eq_true_eq,beq_iff_eq]at h;obtain⟨h1,h2⟩:=h;refine⟨by rw[c.hN];exact h1,?_,?_⟩
 ·unfold L2.Uo;rw[c.sc];rcases h2 with h2|h2
  ·exact .inl h2
  exact .inr h2.1
 rw[c.sc];rcases h2 with h2|h2
 ·exact .inr h2
 exact .inl (c.fn h2.2 x)
theorem Cg.gl(c:Cg G W Φ k Γ E X){x:Str}(h:B.gl Γ x=true):Gl X x/\(x ==("__debug__" :Str))=false/\x≠ "__name__":=by
 unfold B.gl kd at h;simp only[Bool.and_eq_true,beq_iff_eq]at h;have o:=Gj h.2;exact⟨by show X.env.scope.names.lookup x=_;rw[c.sc];exact h.1,o.1,λz=>by have:=o.2.2;rw[z]at this;exact absurd this (by decide)⟩
def Ao(h:Bw e=false):starEach (e::es) env=(false,eval e env)::starEach es env:=by
 cases e<;>first|rfl|(cases h;done)|(exact absurd h (by simp[Bw]))
def Bc:List Expr->Bool
 |[]=>true
 |e::es=>!Bw e&&Bc es
theorem Bb:∀{es:List Expr},Bc es=true->(backTo pos (starEach es env)).any (·.1)=false
 |[],_=>rfl
 |e::es,h=>by
  have h:Bw e=false/\Bc es=true:=by simpa[Bc]using h
  rw[Ao h.1];show(false||(backTo pos (starEach es env)).any (·.1))=false;rw[Bb h.2];rfl
theorem Hy:∀{es:List Expr},Bc es=true->(backTo pos (starEach es env)).all (λx=>!x.1)=true
 |[],_=>rfl
 |e::es,h=>by
  have h:Bw e=false/\Bc es=true:=by simpa[Bc]using h
  rw[Ao h.1];show(true&&(backTo pos (starEach es env)).all (λx=>!x.1))=true;rw[Hy h.2];rfl
def KB(h:Bc es=true)(hl:es.length<29):((backTo pos (starEach es env)).all (λx=>!x.1)&&(backToKw pos (keywordEach [] env)).all (λx=>x.1.isSome)&&decide (es.length+([]:List Keyword).length+(if ([]:List Keyword).isEmpty then 0 else 1)<30))=true:=by
 rw[Hy h];simp[keywordEach,backToKw]
 lia
def Wo(h:Bc es=true)(hl:es.length<30):methodCallForm (es.length+([]:List Keyword).length) (backTo pos (starEach es env)) (backToKw pos (keywordEach [] env))=true:=by
 unfold methodCallForm;rw[Hy h];simp[keywordEach,backToKw]
 lia
def B9{f:Str}(h:Dm o=true):attributeBase o f env (eval o env)=eval o env:=by
 unfold attributeBase;split
 ·exact absurd h (by simp[Dm])
 rfl
def JN(h:Dl e=true):∀x,foldedSetIterable e env x=pure x:=by
 intro x;unfold foldedSetIterable;cases e<;>first|rfl|(exact absurd h (by simp[Dl]))
def HG(h:Dl b=true):behindInMarks op b=false:=by
 cases b<;>first|rfl|(exact absurd h (by simp[Dl]))
def Lf(h:CY b=true):KO b:=by
 intro o i;cases b<;>first|rfl|(exact absurd h (by simp[CY]))
def Ev{n:Nat}(h:Do e=true):swapsWith e t n env=pure false:=by
 unfold swapsWith;cases e<;>first|rfl|(exact absurd h (by simp[Do]))
def Rz:relabel scope env=H9 scope env.scope:=rfl
def T6(h:NA scope Γ xs ys js=true):CT scope Γ.sc Γ.N xs ys js/\(xs++ys).Nodup:=by
 unfold NA at h;simp only[Bool.and_eq_true,beq_iff_eq,decide_eq_true_eq,List.all_eq_true,bne_iff_ne,Bool.or_eq_true,List.contains_iff_mem]at h;obtain⟨⟨⟨⟨⟨⟨h1,h2⟩,h3⟩,h4⟩,h5⟩,h6⟩,h7⟩:=h;refine⟨⟨h1,h2,λy hy e=>(h3 y hy).resolve_left λz=>z e,λy hy e=>?_,h5,λp hp=>?_⟩,h7⟩
 ·rcases h4 y hy with(z|z)|z
  ·exact absurd e z
  ·exact .inl z
  exact .inr z
 obtain⟨⟨⟨a1,a2⟩,a3⟩,a4⟩:=h6 p hp;exact⟨a1,a2,a3,a4⟩
def Cg.comp(c:Cg G W Φ k Γ E X){xs ys:List Str}{fp:List Addr}(hnd:(xs++ys).Nodup):Cg G W Φ k ⟨xs++ys,H9 scope Γ.sc,false,false,[]⟩ NQ (Go X (xs++ys) scope C s2 H2 fp) where
 hK:=c.hK
 nm:=c.nm
 kt:=c.kt
 nb:=c.nb
 fns:=c.fns
 cl:=c.cl
 xs:=c.xs
 fnsH:=c.fnsH
 mkk:=c.mkk
 n0:=c.n0
 mt:=λm=>⟨(c.mt m).at_⟩
 gI:=c.gI
 gS:=c.gS
 calm:=c.calm
 room:=c.room
 hN:=rfl
 nd:=hnd
 sc:=by show relabel scope X.env=_;rw[Rz,c.sc]
 fn:=λz=>by cases z
 own:=λz=>by cases z
 fr:=λz=>by cases z
 esc:=λpins σ H s e s' I hc=>by
  obtain⟨a,H',_,_,_,_,_,_,a',_,hf⟩:=hc;exact hf.elim
 lamM:=c.lamM
 lamO:=c.lamO
 tab:=λp hp=>absurd hp (by simp)
 ra:=λz=>nomatch z
end
section
variable {k:Nat}
def Ah(h:(a&&b)=true):a=true/\b=true:=by simpa using h
def DZ(h:(!a)=true):a=false:=by simpa using h
def AU{a b c:Bool}{P:Prop}(h:(a&&b&&c)=true)(k:a=true->b=true->c=true->P):P:=have h:=Ah h;have q:=Ah h.1;k q.1 q.2 h.2
def GW{a b c d:Bool}{P:Prop}(h:(a&&b&&c&&d)=true)(k:a=true->b=true->c=true->d=true->P):P:=have h:=Ah h;AU h.1 λx y z=>k x y z h.2
def WJ{a b c d e:Bool}{P:Prop}(h:(a&&b&&c&&d&&e)=true)(k:a=true->b=true->c=true->d=true->e=true->P):P:=have h:=Ah h;GW h.1 λx y z u=>k x y z u h.2
def KM{a b c d e f:Bool}{P:Prop}(h:(a&&b&&c&&d&&e&&f)=true)(k:a=true->b=true->c=true->d=true->e=true->f=true->P):P:=have h:=Ah h;WJ h.1 λx y z u v=>k x y z u v h.2
def WI{a b c d e f g:Bool}{P:Prop}(h:(a&&b&&c&&d&&e&&f&&g)=true)(k:a=true->b=true->c=true->d=true->e=true->f=true->g=true->P):P:=have h:=Ah h;KM h.1 λx y z u v w=>k x y z u v w h.2
def Fh{P:Prop}(h:false=true):P:=(a9 h).elim
def el{c:Prop}[Decidable c]{b:c->Bool}{P:Prop}(h:(if q:c then b q else false)=true)(k:c->P):P:=if q:c then k q else Fh ((dif_neg q).symm.trans h)
@[elab_as_elim]def Bv{f:Str->Pos->Bool}{P:Expr->Prop}{e:Expr}(h:MZ f e=true)(k:∀x p,f x p=true->P (.Name x p)):P e:=el h λq=>Expr.Name.elim (motive_1:=λe=>MZ f e=true->P e) e q k h
@[elab_as_elim]def KF{P:Expr->Prop}{e:Expr}(h:W0 f e=true)(k:∀c k p,f c=true->P (.Constant c k p)):P e:=el h λq=>Expr.Constant.elim (motive_1:=λe=>W0 f e=true->P e) e q k h
@[elab_as_elim]def Et{f:List Expr->Nat->Pos->Bool}{P:Expr->Prop}{e:Expr}(h:M5 f e=true)(k:∀l k p,f l k p=true->P (.Tuple l k p)):P e:=el h λq=>Expr.Tuple.elim (motive_1:=λe=>M5 f e=true->P e) e q k h
@[elab_as_elim]def Km{f:List Expr->Bool}{P:Expr->Prop}{e:Expr}(h:VC f e=true)(k:∀l p,f l=true->P (.List l p)):P e:=el h λq=>Expr.List.elim (motive_1:=λe=>VC f e=true->P e) e q k h
@[elab_as_elim]def Wx{f:List (Option Expr)->List Expr->Bool}{P:Expr->Prop}{e:Expr}(h:dc f e=true)(k:∀k v p,f k v=true->P (.Dict k v p)):P e:=el h λq=>Expr.Dict.elim (motive_1:=λe=>dc f e=true->P e) e q k h
@[elab_as_elim]def FU{f:Expr->Str->Pos->Bool}{P:Expr->Prop}{e:Expr}(h:Q7 f e=true)(k:∀o x p,f o x p=true->P (.Attribute o x p)):P e:=el h λq=>Expr.Attribute.elim (motive_1:=λe=>Q7 f e=true->P e) e q k h
@[elab_as_elim]def GZ{f:Expr->Expr->Bool}{P:Expr->Prop}{e:Expr}(h:Rf f e=true)(k:∀x y p,f x y=true->P (.Subscript x y p)):P e:=el h λq=>Expr.Subscript.elim (motive_1:=λe=>Rf f e=true->P e) e q k h
@[elab_as_elim]def UD{f:Option Expr->Option Expr->Option Expr->Bool}{P:Expr->Prop}{e:Expr}(h:YC f e=true)(k:∀l h s p,f l h s=true->P (.Slice l h s p)):P e:=el h λq=>Expr.Slice.elim (motive_1:=λe=>YC f e=true->P e) e q k h
@[elab_as_elim]def WC{f:Expr->Operator->Expr->Bool}{P:Expr->Prop}{e:Expr}(h:fg f e=true)(k:∀x o y p,f x o y=true->P (.BinOp x o y p)):P e:=el h λq=>Expr.BinOp.elim (motive_1:=λe=>fg f e=true->P e) e q k h
@[elab_as_elim]def NV{P:Expr->Prop}{e:Expr}(h:Uz f e=true)(k:∀o x p,f o x=true->P (.UnaryOp o x p)):P e:=el h λq=>Expr.UnaryOp.elim (motive_1:=λe=>Uz f e=true->P e) e q k h
@[elab_as_elim]def OZ{f:Expr->List CmpOp->List Expr->Bool}{P:Expr->Prop}{e:Expr}(h:W3 f e=true)(k:∀x o y p,f x o y=true->P (.Compare x o y p)):P e:=el h λq=>Expr.Compare.elim (motive_1:=λe=>W3 f e=true->P e) e q k h
@[elab_as_elim]def Pi{P:Expr->Prop}{e:Expr}(h:WB f e=true)(k:∀o l p,f o l=true->P (.BoolOp o l p)):P e:=el h λq=>Expr.BoolOp.elim (motive_1:=λe=>WB f e=true->P e) e q k h
@[elab_as_elim]def Wc{f:Expr->Expr->Expr->Bool}{P:Expr->Prop}{e:Expr}(h:br f e=true)(k:∀x y z p,f x y z=true->P (.IfExp x y z p)):P e:=el h λq=>Expr.IfExp.elim (motive_1:=λe=>br f e=true->P e) e q k h
@[elab_as_elim]def O8{f:Expr->List Expr->List Keyword->Pos->Bool}{P:Expr->Prop}{e:Expr}(h:VR f e=true)(k:∀g l k p,f g l k p=true->P (.Call g l k p)):P e:=el h λq=>Expr.Call.elim (motive_1:=λe=>VR f e=true->P e) e q k h
@[elab_as_elim]def VE{f:Expr->List Comprehension->Scope->Bool}{P:Expr->Prop}{e:Expr}(h:aa f e=true)(k:∀t g s p,f t g s=true->P (.ListComp t g s p)):P e:=el h λq=>Expr.ListComp.elim (motive_1:=λe=>aa f e=true->P e) e q k h
@[elab_as_elim]def VH{P:Expr->Prop}{e:Expr}(h:af f e=true)(k:∀a b s p,f a b s p=true->P (.Lambda a b s p)):P e:=el h λq=>Expr.Lambda.elim (motive_1:=λe=>af f e=true->P e) e q k h
def AH{α:Type}{l:List α}(h:Fj l=true):l=[]:=by cases l<;>first|rfl|exact Fh h
@[elab_as_elim]def AJ{α:Type}{f:α->List α->Bool}{P:List α->Prop}{l:List α}(h:GV f l=true)(k:∀x m,f x m=true->P (x::m)):P l:=by cases l<;>first|exact Fh h|exact k _ _ h
@[elab_as_elim]def BR{α:Type}{f:α->Bool}{P:List α->Prop}{l:List α}(h:FE f l=true)(k:∀x,f x=true->P ([x])):P l:=by rcases l with _|⟨a,_|⟨b,l⟩⟩<;>first|exact Fh h|exact k _ h
@[elab_as_elim]def NX{α:Type}{f:α->α->Bool}{P:List α->Prop}{l:List α}(h:Yv f l=true)(k:∀x y,f x y=true->P ([x,y])):P l:=by rcases l with _|⟨a,_|⟨b,_|⟨c,l⟩⟩⟩<;>first|exact Fh h|exact k _ _ h
@[elab_as_elim]def Bk{f:Str->List Expr->Bool}{P:Expr->Prop}{e:Expr}(h:Gq f e=true)(k:∀x q l p,f x l=true->P (.Call (.Name x q) l [] p)):P e:=by
  refine O8 h λg l kk p h=>?_;obtain⟨h1,h2⟩:=Ah h;obtain rfl:=AH h1;exact Bv (P:=λg=>P (.Call g l [] p)) h2 λx q h=>k x q l p h
@[elab_as_elim]def EJ{f:Expr->Str->List Expr->Bool->Bool}{P:Expr->Prop}{e:Expr}(h:Q4 f e=true)(k:∀o x q l p,f o x l (q.endLine ==p.line)=true->P (.Call (.Attribute o x q) l [] p)):P e:=by
  refine O8 h λg l kk p h=>?_;obtain⟨h1,h2⟩:=Ah h;obtain rfl:=AH h1;exact FU (P:=λg=>P (.Call g l [] p)) h2 λo x q h=>k o x q l p h
def Bn(h:Bc (e::l)=true):Bw e=false/\Bc l=true:=have h:=Ah h;⟨DZ h.1,h.2⟩
def Fu{Γ:Ct}{E:RX}{X:Cx}(c:Cg G W Φ k Γ E X){x y:Str}(h:FT G Γ x y=true):x=y/\Gl X x/\X.mg x=none/\(x ==("__debug__" :Str))=false/\x≠ "__name__":=
 AU h λh1 h2 h3=>have g:=c.gl h2;⟨aI.mp h1,g.1,c.nb x (aY h3),g.2⟩
theorem MU{X:Cx}(c:Cg G W Φ k Γ E X):∀{is:List Nat}{es:List Expr},W9 Γ is es=true->XZ X es (kP is)/\(assignEach es X.env).length=is.length/\(assignEach es X.env).findIdx? (·.1)=none
 |[],l,h=>by
  obtain rfl:=AH h;exact⟨Vn,rfl,rfl⟩
 |i::is,l,h=>by
  refine AJ h λe es h=>?_;obtain⟨h1,h2⟩:=Ah h;refine Bv h1 λx pos h1=>?_;obtain⟨s1,s2,s3⟩:=c.sto h1;obtain⟨r1,r2,r3⟩:=MU c h2;refine⟨RI (Op (by rw[c.hN];exact c.nd) s1 s2 s3) r1 rfl,bW Nat.succ r2,?_⟩;show List.findIdx? (·.1) ((false,assign (.Name x pos) X.env)::assignEach es X.env)=none;rw[List.findIdx?_cons,r3];rfl
def Rk(c:Cg G W Φ k Γ E X){e:Expr}(h:lG Γ t e=true):PG X e (Ui W t):=by
 cases t with
 |nm i=>
  refine Bv h λx p h=>?_;obtain⟨s1,s2,s3⟩:=c.sto h;exact rV (by rw[c.hN];exact c.nd) s1 s2 s3
 |tup is=>
  refine Et h λl n p h=>?_;obtain⟨r1,r2,r3⟩:=MU c h;exact kS c.calm r1 r2 r3
 |lst is=>
  refine Et h λl n p h=>?_;obtain⟨r1,r2,r3⟩:=MU c h;exact kT c.calm r1 r2 r3
noncomputable abbrev sD(G:Gt)(Φ:Fs)(m:ME):Ef:=(e2 G.cs Φ G.ini m).1
noncomputable abbrev wT(G:Gt)(Φ:Fs)(m:ME):Tf:=(e2 G.cs Φ G.ini m).2
def tJ(G:Gt)(W:Wd)(Φ:Fs)(X:Cx)(E:RX)(m:ME)(e:Expr):Prop:=PE X e (tM W E (sD G Φ m))/\PT X e (Gb W E (wT G Φ m))
def A0(hK:X.K=W.K)(hp:JV e=true)(h:PE X e (tM W E f)):PE X e (tM W E (pr f).1)/\PT X e (Gb W E (pr f).2):=⟨h,iK hK h hp⟩
def Hn{Γ:Ct}{es:EN}(h:CC G es Γ []=true):BE G.cs Φ G.ini es=λ_ h=>.ok [] h:=by
 cases es with
 |nil=>rfl
 |cons e r=>exact Fh h
def Sw(h:BS xs ps sc=true)(h1:∀x,sc.names.lookup x=some .free->∃c,cl.lookup x=some c)(h2:∀x y c,cl.lookup x=some c->cl.lookup y=some c->x=y):Il (xs++ps) xs ps sc cl:=by
 unfold BS at h;simp only[Bool.and_eq_true,beq_iff_eq,decide_eq_true_eq,Bool.not_eq_true',List.all_eq_true,bne_iff_ne]at h;obtain⟨⟨⟨⟨⟨⟨a,b⟩,c⟩,d⟩,e⟩,f⟩,g⟩:=h;exact⟨by cases hk:sc.kind<;>rw[hk]at a<;>first|rfl|(exact absurd a (by decide)),b,c,d,rfl,e,f,g,h1,h2⟩
def cf(c:Cg G W Φ k Γ E X){x:Str}:∀{m:MV},XC G x m=true->Gl X x->(x ==("__debug__" :Str))=false->PE X (.Name x p) (tM W E λ_ h=>.ok (.v m) h):=by
 intro m h2 g1 g2;cases m<;>first|exact Fh h2|skip
 ·rename_i i;have h2:cn G x i=true:=h2;unfold cn at h2;split at h2
  ·rename_i j hj;obtain rfl:=aI.mp h2;exact F7 (RT g1 (c.gI x i hj) g2) λF=>by unfold Ak;rfl
  exact Fh h2
 ·rename_i i;have h2:cj G x i=true:=h2;unfold cj at h2;split at h2
  ·rename_i j hj;obtain rfl:=aI.mp h2;exact F7 (RS g1 (c.gS x i hj) g2) λF=>by unfold Ak;rfl
  exact Fh h2
 rename_i cc;have h2:SS G x cc=true:=h2;unfold SS at h2;split at h2
 ·rename_i i hi;obtain rfl:=aI.mp h2;exact F7 (FC (v:=.ref (W.ca cc)) g1 (c.cl cc i hi) rfl g2) λF=>by unfold Ak;rfl
 exact Fh h2
def T5{E:RX}{X:Cx}{v:Const}{n:Nat}{p:Pos}:∀{m:MV},SE m v=true->PE X (.Constant v n p) (tM W E λ_ h=>.ok (.v m) h):=by
 intro m h;unfold SE at h;split at h
 ·exact F7 Zy λF=>by unfold Ak;rfl
 ·obtain rfl:=aI.mp h;exact F7 jT λF=>by unfold Ak;rfl
 ·obtain rfl:=aI.mp h;exact F7 Z0 λF=>by unfold Ak;rfl
 ·obtain rfl:=aI.mp h;exact F7 RL λF=>by unfold Ak;rfl
 exact Fh h
def CQ{α:Type}{o:Option α}{f:α->Bool}(h:o.any f=true):∃a,o=some a/\f a=true:=by cases o<;>first|exact Fh h|exact⟨_,rfl,h⟩
mutual
theorem AB:∀(m:ME) {Γ:Ct}{E:RX}{X:Cx}{e:Expr},Cg G W Φ k Γ E X->Cj G m Γ e=true->tJ G W Φ X E m e
 |.var i,Γ,E,X,e,c,h=>by
  refine Bv h λx p h=>?_;obtain⟨v1,v2,v3,v4⟩:=c.vis h;exact A0 c.hK rfl (Xl v1 v2 v3 v4)
 |.mov i,Γ,E,X,e,c,h=>by
  refine Bv h λx p h=>?_;obtain⟨v1,v2,v3,v4⟩:=c.vis h;exact A0 c.hK rfl (j6 v1 v2 v3 v4)
 |.con m,Γ,E,X,e,c,h=>by
  refine KF h λv n p h=>?_;exact A0 c.hK rfl (T5 h)
 |.glo x m,Γ,E,X,e,c,h=>by
  refine Bv h λy p h=>?_;refine AU h λh1 h2 h3=>?_;obtain⟨g1,g2,g3⟩:=c.gl h2;exact A0 c.hK rfl (cf c h3 g1 g2)
 |.bty x kk,Γ,E,X,e,c,h=>by
  refine Bv h λy p h=>?_;refine AU h λh1 h4 h5=>?_;obtain⟨rfl,g1,hb,g2,g3⟩:=Fu c h1;refine A0 c.hK rfl (F7 (v:=.ty kk.nm) (Vv g1 hb (u:=.type kk.nm) ?_ rfl g3 g2) λF=>by unfold Ak;rfl);rw[aI.mp h4];cases kk<;>first|(exact absurd h5 (by decide))|(decide +kernel)
 |.tup es,Γ,E,X,e,c,h=>by
  refine Et h λl n p h=>?_;exact A0 c.hK rfl (Xm (DD es c h).1)
 |.lst es,Γ,E,X,e,c,h=>by
  refine Km h λl p h=>?_;exact A0 c.hK rfl (Xp (DD es c h).1)
 |.lstL es,Γ,E,X,e,c,h=>by
  refine Km h λl p h=>?_;exact A0 c.hK rfl (YT (DD es c h).1)
 |.dicL t,Γ,E,X,e,c,h=>by
  refine Wx h λks vs p h=>?_;obtain⟨h1,h2⟩:=Ah h;obtain rfl:=AH h1;obtain rfl:=AH h2;exact A0 c.hK rfl (YW t)
 |.fld m f,Γ,E,X,e,c,h=>by
  refine FU h λo x p h=>?_;refine AU h λh1 h2 h3=>?_;obtain rfl:=aI.mp h1;rw[←c.nm];exact A0 c.hK rfl (Xs c.hK c.kt (AB m c h2).1 (B9 h3))
 |.idx a b,Γ,E,X,e,c,h=>by
  refine GZ h λx y p h=>?_;refine AU h λh1 h2 h3=>?_;exact A0 c.hK rfl (Xr c.hK c.hu (AB a c h1).1 (AB b c h2).1 (Lf h3))
 |.sli a lo hi,Γ,E,X,e,c,h=>by
  refine GZ h λx y p h=>?_;obtain⟨h1,h⟩:=Ah h;refine UD h λl u st q h=>?_;refine AU h λh2 h3 h4=>?_;obtain rfl:=fD.mp h4;exact A0 c.hK rfl (j3 c.hK (AB a c h1).1 (jq lo c h2) (jq hi c h3))
 |.bin o a b,Γ,E,X,e,c,h=>by
  refine WC h λx op y p h=>?_;refine AU h λh1 h2 h3=>?_;obtain rfl:=aI.mp h1;exact A0 c.hK rfl (jC c.hK o (AB a c h2).1 (AB b c h3).1)
 |.una o a,Γ,E,X,e,c,h=>by
  refine NV h λop x p h=>?_;obtain⟨h1,h2⟩:=Ah h;obtain rfl:=aI.mp h1;exact A0 c.hK (by cases o<;>rfl) (j0 o (AB a c h2).1)
 |.cmp o a b,Γ,E,X,e,c,h=>by
  refine OZ h λx op y p h=>?_;refine AU h λh1 h2 h3=>?_;obtain rfl:=aY h1;refine BR h3 λy h3=>?_;obtain⟨h3,h4⟩:=Ah h3;exact⟨jA c.hK c.hu o (AB a c h2).1 (AB b c h3).1 (HG h4),iN c.hK c.hu o (AB a c h2).1 (AB b c h3).1 (HG h4)⟩
 |.cmp2 o o' a b d,Γ,E,X,e,c,h=>by
  refine OZ h λx op y p h=>?_;refine AU h λh1 h2 h3=>?_;obtain rfl:=aY h1;refine NX h3 λy z h3=>?_;refine AU h3 λh3 h4 h5=>?_;have hm:lastMarks [o.op,o'.op] [y,z]=false:=HG h5;exact⟨YY c.hK c.hu o o' (AB a c h2).1 (AB b c h3).1 (AB d c h4).1 hm,Yz c.hK c.hu o o' (AB a c h2).1 (AB b c h3).1 (AB d c h4).1 hm⟩
 |.not a,Γ,E,X,e,c,h=>by
  refine NV h λop x p h=>?_;obtain⟨h1,h2⟩:=Ah h;obtain rfl:=aI.mp h1;exact⟨j4 (AB a c h2).1,iM (AB a c h2).2⟩
 |.and es,Γ,E,X,e,c,h=>by
  refine Pi h λop l p h=>?_;refine AU h λh1 h2 h3=>?_;obtain rfl:=aI.mp h1;exact⟨(YB es c h2 (DZ h3)).1,(YB es c h2 (DZ h3)).2.pt⟩
 |.or es,Γ,E,X,e,c,h=>by
  refine Pi h λop l p h=>?_;refine AU h λh1 h2 h3=>?_;obtain rfl:=aI.mp h1;exact⟨(Rl es c h2 (DZ h3)).1,(Rl es c h2 (DZ h3)).2.pt⟩
 |.ife t a b,Γ,E,X,e,c,h=>by
  refine Wc h λx y z p h=>?_;refine AU h λh1 h2 h3=>?_;exact⟨j7 (AB t c h1).2 (AB a c h2).1 (AB b c h3).1,λpins s σ H Q I ⟨F,ρ,μ,hh,S,e,g⟩=>g.elim⟩
 |.call f es,Γ,E,X,e,c,h=>by
  refine Bk h λx q l p h=>?_;refine AU h λh1 h2 h3=>?_;obtain⟨ps,Fn⟩:=c.fns f x (aY h1);obtain⟨g1,g2,g3⟩:=c.gl h2;obtain⟨pa,ns⟩:=DD es c h3;refine A0 c.hK rfl ?_;cases l with
  |nil=>exact UL Fn c.esc c.room (cS _) g1 g2 (Hn h3)
  |cons e0 l=>exact Za Fn c.esc c.room (cS _) g1 pa g2 (Ao (Bn ns).1) (Bb (Bn ns).2)
 |.make cc es,Γ,E,X,e,c,h=>by
  refine Bk h λx q l p h=>?_;refine GW h λh1 h2 h3 h4=>?_;obtain⟨g1,g2,g3⟩:=c.gl h2;obtain⟨pa,ns⟩:=DD es c h3;obtain⟨i,hi,h1⟩:=CQ h1;refine AU h1 λh1 h5 h6=>?_;obtain rfl:=aI.mp h1;obtain⟨f,hf⟩:=bX.mp h6;obtain⟨fi,fd,ps,M,Fo,hb⟩:=c.mkk cc i f hi (DZ h5) hf;refine A0 c.hK rfl ?_;rw[hf];cases l with
  |nil=>exact Fh h4
  |cons e0 l=>exact YS M Fo hb (c.cl cc i hi) c.esc c.room (aN _) g1 pa g2 (Ao (Bn ns).1) (Bb (Bn ns).2)
 |.new0 cc,Γ,E,X,e,c,h=>by
  refine Bk h λx q l p h=>?_;refine AU h λh1 h2 h3=>?_;obtain rfl:=AH h3;obtain⟨g1,g2,g3⟩:=c.gl h2;obtain⟨i,hi,h1⟩:=CQ h1;obtain⟨h1,h5⟩:=Ah h1;obtain rfl:=aI.mp h1;refine A0 c.hK rfl ?_;cases hn:G.ini cc with
  |some f=>exact λpins s σ H Q I ⟨F,ρ,μ,hh,S,e,g⟩=>g.elim
  |none=>exact YO (c.n0 cc i hi (DZ h5) hn) g1 g2
 |.meth m o es,Γ,E,X,e,c,h=>by
  refine EJ h λx y q l p h=>?_;refine KM h λh1 h2 h3 h4 h5 h6=>?_;obtain rfl:=aI.mp h1;rw[←c.nm];obtain⟨pa,ns⟩:=DD es c h3;refine A0 c.hK rfl ?_;cases l with
  |nil=>exact UK (c.mt m) (AB o c h2).1 c.esc c.room (cS _) (Hn h3) (B9 h4) h5
  |cons e0 l=>exact YR (c.mt m) (AB o c h2).1 c.esc c.room (cS _) pa (Ao (Bn ns).1) (Bb (Bn ns).2) (B9 h4) (Wo ns (aY h6)) h5
 |.bfn b es,Γ,E,X,e,c,h=>by
  refine Bk h λx q l p h=>?_;refine AU h λh1 h2 h3=>?_;obtain⟨hx,g1,hb,g2,g3⟩:=Fu c h1;obtain⟨pa,ns⟩:=DD es c h2;refine A0 c.hK rfl ?_;cases l with
  |nil=>exact Fh h3
  |cons e0 l=>exact xG c.hK c.kt c.calm b hx g1 hb pa (Ao (Bn ns).1) (Bb (Bn ns).2)
 |.lenset m,Γ,E,X,e,c,h=>by
  refine Bk h λx q l p h=>?_;obtain⟨h1,h2⟩:=Ah h;obtain⟨rfl,g1,hb,g2,g3⟩:=Fu c h1;refine BR h2 λe h3=>?_;refine Bk h3 λy q' l p' h4=>?_;obtain⟨h5,h6⟩:=Ah h4;obtain⟨rfl,k1,kb,k2,k3⟩:=Fu c h5;refine BR h6 λz h6=>?_;obtain⟨h7,h8⟩:=Ah h6;exact A0 c.hK rfl (Rs c.hK c.hd (by have:=c.hu;lia) g1 hb k1 kb (AB m c h7).1 rfl (Ao (DZ h8)))
 |.bmt b o es,Γ,E,X,e,c,h=>by
  refine EJ h λx y q l p h=>?_;refine KM h λh1 h2 h3 h4 h5 h6=>?_;obtain rfl:=aI.mp h1;obtain⟨pa,ns⟩:=DD es c h3;refine A0 c.hK rfl ?_;cases l with
  |nil=>exact Zc c.hK c.hu b (AB o c h2).1 pa (B9 h4) h5 (Hn h3)
  |cons e0 l=>exact jB c.hK c.hu b (AB o c h2).1 pa (B9 h4) (KB ns (aY h6)) h5 (Ao (Bn ns).1) (Bb (Bn ns).2)
 |.mmt b o es,Γ,E,X,e,c,h=>by
  refine EJ h λx y q l p h=>?_;refine KM h λh1 h2 h3 h4 h5 h6=>?_;obtain rfl:=aI.mp h1;obtain⟨pa,ns⟩:=DD es c h3;refine A0 c.hK rfl ?_;cases l with
  |nil=>exact YQ b (AB o c h2).1 (B9 h4) h5 (Hn h3)
  |cons e0 l=>exact Xo b (AB o c h2).1 pa (B9 h4) (KB ns (aY h6)) h5 (Ao (Bn ns).1) (Bb (Bn ns).2)
 |.comp xs ys js tg it cd m,Γ,E,X,e,c,h=>by
  refine VE h λelt gs scope p h=>?_;refine BR h λyy h=>?_;obtain⟨t,iter,ifs,a0⟩:=yy;refine WI h λh0 h1 h2 h3 h4 h5 h6=>?_;obtain rfl:a0=0:=aI.mp h0;obtain⟨CS,nd⟩:=T6 h1;exact A0 c.hK rfl (YX CS c.calm (YA it c h2) (λC s2 H fp=>Rk (c.comp nd) h4) (λC s2 H fp=>jo cd (c.comp nd) h5) (λC s2 H fp=>(AB m (c.comp nd) h6).1) c.sc c.hN (JN h3))
 |.calL f es kk js,Γ,E,X,e,c,h=>by
  refine Bk h λx q l p h=>?_;refine AU h λh1 h2 h3=>?_;obtain⟨ps,Fn⟩:=c.fns f x (aY h1);obtain⟨g1,g2,g3⟩:=c.gl h2;obtain⟨a,b,sc,lp,hl,ns,ne,pa⟩:=jt es c h3;obtain⟨hl,l8⟩:=Ah hl;refine WI hl λl1 l2 l3 l4 l5 l6 l7=>?_;obtain⟨cc,P,t1,t2,t3,t4,t5,t6⟩:=c.tab lp (aY l4);have hkd:∀{y:Str},(kd Γ y ==some .cell)=true->X.env.scope.names.lookup y=some .cell:=λ{y} e=>by rw[c.sc];exact aI.mp e
  have hp:=Zz (X:=X) (params:=a) (body:=b) (scope:=sc) (pos:=lp) (P:=P) (c:=cc) (by
   unfold Cs at l1;split at l1
   ·rfl
   ·exact Fh l1) (λy hy e=>by
   have:=bD.mp l8 y hy;rw[e]at this;exact hkd (by simpa using this)) t1 t2 t3 t4
  refine A0 c.hK rfl (Zb (xs:=(G.lam kk).1) (lps:=(G.lam kk).2) Fn c.esc (c.room.mono (cS _)) g1 g2 ?_ (pa P hp) t5 t6 (c.fn l5) (c.lamM kk ⟨X.env.qual++ "<lambda>",a,b,sc,(G.lam kk).1,(G.lam kk).2⟩ rfl rfl l1 l2 l3) (λcl h1 h2=>Sw l2 h1 h2) ⟨aY l6,λi j y e1 e2=>?_⟩)
  ·cases l with
   |nil=>exact Fh ne.symm
   |cons e0 l=>exact⟨e0,l,rfl,Ao (Bn ns).1,Bb (Bn ns).2⟩
  obtain⟨q1,q2⟩:=Ah (bD.mp l7 _ (JB e1 e2));exact⟨by rw[c.hN];exact aY q1,hkd q2⟩
 |.calv i es,Γ,E,X,e,c,h=>by
  refine Bk h λx q l p h=>?_;refine AU h λh1 h2 h3=>?_;obtain⟨v1,v2,v3,v4⟩:=c.vis h1;obtain⟨pa,ns⟩:=DD es c h2;refine A0 c.hK rfl ?_;cases l with
  |nil=>exact Fh h3
  |cons e0 l=>exact YZ v1 v2 v3 v4 c.room c.lamO pa (Ao (Bn ns).1) (Bb (Bn ns).2)
theorem jt:∀(es:EN) {k':Nat}{js:List Nat}{Γ:Ct}{E:RX}{X:Cx}{l:List Expr},Cg G W Φ k Γ E X->sX G es k' js Γ l=true->E4 λa b sc p=>A4 (X6 G k' js Γ a b sc p=true) (Bc l=true) (l.isEmpty=false) (∀P,PE X (.Lambda a b sc p) (Ra X a b sc p P)->PA X l (QZ X W E a b sc p P (BE G.cs Φ G.ini es)))
 |.nil,k',js,Γ,E,X,l,c,h=>by
  refine BR h λe h=>?_;refine VH h λa b sc p h=>?_;exact⟨a,b,sc,p,h,rfl,rfl,λP hp=>YU hp⟩
 |.cons m r,k',js,Γ,E,X,l,c,h=>by
  refine AJ h λe l h=>?_;refine AU h λh1 h2 h3=>?_;obtain⟨a,b,sc,p,hl,ns,ne,pa⟩:=jt r c h3;exact⟨a,b,sc,p,hl,by show(!Bw e&&Bc l)=true;rw[h2,ns];rfl,rfl,λP hp=>YV (AB m c h1).1 (pa P hp) (Ao (DZ h2))⟩
theorem DD:∀(es:EN) {Γ:Ct}{E:RX}{X:Cx}{l:List Expr},Cg G W Φ k Γ E X->CC G es Γ l=true->PA X l (Ip W E (BE G.cs Φ G.ini es))/\Bc l=true
 |.nil,Γ,E,X,l,c,h=>by
  obtain rfl:=AH h;exact⟨IX,rfl⟩
 |.cons m r,Γ,E,X,l,c,h=>by
  refine AJ h λx l h=>?_;refine AU h λh1 h2 h3=>?_;obtain⟨pa,ns⟩:=DD r c h3;exact⟨Fc (AB m c h1).1 pa (Ao (DZ h2)),by show(!Bw x&&Bc l)=true;rw[h2,ns];rfl⟩
theorem YB:∀(es:EN) {Γ:Ct}{E:RX}{X:Cx}{l:List Expr}{pos:Pos},Cg G W Φ k Γ E X->CC G es Γ l=true->l.isEmpty=false->PE X (.BoolOp .And l pos) (tM W E (Ql G.cs Φ G.ini es).1)/\PW X (.BoolOp .And l pos) (Gb W E (Ql G.cs Φ G.ini es).2)
 |.nil,Γ,E,X,l,pos,c,h,hl=>by
  obtain rfl:=AH h;exact Fh hl.symm
 |.cons m .nil,Γ,E,X,l,pos,c,h,hl=>by
  refine AJ h λx l h=>?_;refine AU h λh1 h2 h3=>?_;obtain rfl:=AH h3;exact⟨RN (AB m c h1).1,Y0 (AB m c h1).2⟩
 |.cons m (.cons m' r),Γ,E,X,l,pos,c,h,hl=>by
  refine AJ h λx l h=>?_;refine AU h λh1 h2 h3=>?_;have h4:=h3
  revert h3
  refine AJ h4 λy l _ h3=>?_;have ih:=YB (.cons m' r) (pos:=pos) c h3 rfl;exact⟨jD (AB m c h1).1 ih.1,iO (AB m c h1).2 ih.2⟩
theorem Rl:∀(es:EN) {Γ:Ct}{E:RX}{X:Cx}{l:List Expr}{pos:Pos},Cg G W Φ k Γ E X->CC G es Γ l=true->l.isEmpty=false->PE X (.BoolOp .Or l pos) (tM W E (Wt G.cs Φ G.ini es).1)/\PW X (.BoolOp .Or l pos) (Gb W E (Wt G.cs Φ G.ini es).2)
 |.nil,Γ,E,X,l,pos,c,h,hl=>by
  obtain rfl:=AH h;exact Fh hl.symm
 |.cons m .nil,Γ,E,X,l,pos,c,h,hl=>by
  refine AJ h λx l h=>?_;refine AU h λh1 h2 h3=>?_;obtain rfl:=AH h3;exact⟨RN (AB m c h1).1,iL (AB m c h1).2⟩
 |.cons m (.cons m' r),Γ,E,X,l,pos,c,h,hl=>by
  refine AJ h λx l h=>?_;refine AU h λh1 h2 h3=>?_;have h4:=h3
  revert h3
  refine AJ h4 λy l _ h3=>?_;have ih:=Rl (.cons m' r) (pos:=pos) c h3 rfl;exact⟨qH (AB m c h1).1 ih.1,pR (AB m c h1).2 ih.2⟩
theorem jq:∀o {Γ:Ct}{E:RX}{X:Cx}{e:Option Expr},Cg G W Φ k Γ E X->sW G o Γ e=true->PO X e (iY W E (cx G.cs Φ G.ini o))
 |.no,Γ,E,X,e,c,h=>by
  obtain rfl:=fD.mp h;exact j5
 |.ye m,Γ,E,X,e,c,h=>by
  obtain⟨e,rfl,h⟩:=CQ h;exact jz (AB m c h).1
theorem YA:∀(i:MI) {Γ:Ct}{E:RX}{X:Cx}{tg e:Expr},Cg G W Φ k Γ E X->sY G i Γ tg e=true->PI X tg e (U5 W E (QG G.cs Φ G.ini i))
 |.of m,Γ,E,X,tg,e,c,h=>qI c.hK (AB m c h).1
 |.rng1 a,Γ,E,X,tg,e,c,h=>by
  refine Bk h λx q l p h=>?_;obtain⟨h1,h2⟩:=Ah h;obtain⟨rfl,g1,hb,g2,g3⟩:=Fu c h1;refine BR h2 λe h2=>?_;obtain⟨h1,h2⟩:=Ah h2;exact YN g1 hb (AB a c h1).1 (Ao (DZ h2))
 |.rng2 a b,Γ,E,X,tg,e,c,h=>by
  refine Bk h λx q l p h=>?_;obtain⟨h1,h2⟩:=Ah h;obtain⟨rfl,g1,hb,g2,g3⟩:=Fu c h1;refine NX h2 λd e h2=>?_;refine GW h2 λh1 h2 h3 h4=>?_;exact YM g1 hb (AB a c h1).1 (AB b c h2).1 (by rw[Ao (DZ h3),Ao (DZ h4)];rfl) (Ao (DZ h4))
 |.enu a,Γ,E,X,tg,e,c,h=>by
  refine Bk h λx q l p h=>?_;refine AU h λh1 h2 h3=>?_;obtain⟨rfl,g1,hb,g2,g3⟩:=Fu c h1;refine BR h2 λe h2=>?_;obtain⟨h1,h2⟩:=Ah h2;refine Et h3 λ_ _ _ _=>?_;exact j9 c.hK g1 hb (AB a c h1).1 (Ao (DZ h2))
theorem jo:∀(es:EN) {Γ:Ct}{E:RX}{X:Cx}{l:List Expr},Cg G W Φ k Γ E X->CC G es Γ l=true->PQ X l (Gb W E (M6 G.cs Φ G.ini es))
 |.nil,Γ,E,X,l,c,h=>by
  obtain rfl:=AH h;exact λpins s σ H Q I ⟨F,ρ,μ,hh,S,e,g⟩=>Zn pins s σ H Q I (g.ret S rfl)
 |.cons m .nil,Γ,E,X,l,c,h=>by
  refine AJ h λx l h=>?_;refine AU h λh1 h2 h3=>?_;obtain rfl:=AH h3;exact Zm (AB m c h1).2
 |.cons _ (.cons _ _),Γ,E,X,l,c,h=>λpins s σ H Q I ⟨F,ρ,μ,hh,S,e,g⟩=>g.elim
end
end
def Hr{ps:List Str}{us:List Value}{x:Str}(hl:us.length=ps.length)(hx:x∈ps):((ps.zip us).lookup x).isNone=false:=by
 induction ps generalizing us with
 |nil=>simp at hx
 |cons p ps ih=>
  cases us with
  |nil=>simp at hl
  |cons u us=>
   rw[cY,bY];by_cases e:x ==p
   ·simp[e]
   have hx:x∈ps:=by
    rcases aH.mp hx with rfl|h
    ·simp at e
    exact h
   have e:(x ==p)=false:=by simpa using e
   rw[e];exact ih (by simpa using hl) hx
theorem Hs:∀{ps:List Str}{us:List Value}{S:List (Str×Value)},us.length=ps.length->(∀p∈ps.zip us,S.lookup p.1=some p.2)->ps.filterMap (λn=>(S.lookup n).map (n,·))=ps.zip us
 |[],us,S,_,_=>rfl
 |p::ps,[],S,h,_=>by simp at h
 |p::ps,u::us,S,h,hS=>by
  rw[cY]at hS ⊢;rw[dC,hS (p,u) aF];show(p,u)::_=_;rw[Hs (by simpa using h) λq hq=>hS q (aD _ hq)]
theorem QM:∀{ps:List Str}{us:List Value},ps.Nodup->us.length=ps.length->∀q∈ps.zip us,(ps.zip us).lookup q.1=some q.2
 |[],us,_,_,q,hq=>by simp at hq
 |p::ps,[],_,h,q,hq=>by simp at h
 |p::ps,u::us,nd,h,q,hq=>by
  rw[cY]at hq ⊢;rcases aH.mp hq with rfl|hq
  ·simp[List.lookup_cons]
  have hn:q.1≠p:=λe=>(bH.mp nd).1 (by rw[←e];exact(dM hq).1);rw[bY,show(q.1 ==p)=false from bO.mpr hn];exact QM (bH.mp nd).2 (by simpa using h) q hq
theorem Jg:∀{L:List (Str×Value)},(∀p∈L,(S.lookup p.1).isNone=false)->(forIn L S λx r=>(if (r.lookup x.1).isNone=true then(pure (ForInStep.yield (r++ [(x.1,x.2)])):Sem _) else pure (ForInStep.yield r)))=(pure S:Sem _)
 |[],_=>rfl
 |p::L,h=>by
  rw[fA,h p aF];simp only[Bool.false_eq_true,if_false,pure_bind];exact Jg λq hq=>h q (aD _ hq)
def Ig{fd:FuncData}{ps:List Str}{us:List Value}{as:List Arg}{kd:List (Option Expr)}{ds:List Expr}(hp:fd.params=⟨[],as,none,[],kd,none,ds⟩)(ha:as.map (·.arg)=ps)(nd:ps.Nodup)(hl:us.length=ps.length) :
 bindArgs fd ⟨us,[]⟩=(seqItems? fd.defaults >>=λ_=>pure (ps.zip us)):=by
 unfold bindArgs;simp only[hp,List.map_nil,List.nil_append,List.append_nil,ha,List.forIn_nil,pure_bind,hl,gt_iff_lt,Nat.lt_irrefl,Option.isNone_none,decide_false,Bool.false_and,Bool.false_eq_true,if_false];congr 1
 funext d
 have hm:∀n,((ps.take n).filter λn=>((ps.zip us).lookup n).isNone)=[]:=λn=>List.filter_eq_nil_iff.mpr λx hx=>by rw[Hr hl (eW hx)];simp
 simp only[hm,List.isEmpty_nil,Bool.not_true,Bool.false_eq_true,if_false,pure_bind];rw[Jg λq hq=>Hr hl (iD (dM hq).1)];rw[pure_bind,Hs hl (QM nd hl)]
noncomputable def MJ(K:Frag)(v:Value):Bool:=match v with
 |.none=>true
 |.ref a=>(match K.lookup a with
  |some ⟨_,_,.seq _ _,_⟩=>true
  |_=>false)
 |_=>false
noncomputable def Ih(p:Arguments)(ps:List Str):Bool:=match p with
 |⟨[],as,none,[],_,none,_⟩=>decide (as.map (·.arg)=ps)
 |_=>false
def Q5{K:Fq}{fd:FuncData}{ps:List Str}(ha:Ih fd.params ps=true)(nd:ps.Nodup)(hd:MJ K fd.defaults=true):CB K fd ps []:=by
 intro s us hK hl;rw[bE]at hl ⊢;have e:bindArgs fd ⟨us,[]⟩=(seqItems? fd.defaults >>=λ_=>pure (ps.zip us)):=by
  unfold Ih at ha;split at ha
  ·rename_i as kd ds hp;exact Ig hp (aY ha) nd hl
  exact absurd ha a9
 unfold MJ at hd;split at hd
 ·rename_i hv;rw[hv]at e;exact BindsTo.of_eq (e.trans rfl)
 ·rename_i a hv;split at hd
  ·rename_i oc od it n sl hk;intro M A E Q hq;rw[e,hv];exact aA (fI (hK _ _ hk) rfl (aJ hq))
  exact absurd hd a9
 exact absurd hd a9
def uG(x:Str)(p:Pos)(Γ:Ct)(v:Expr):Bool:=match v with
 |.ListComp _ _ scope q=>Γ.sc.kind== .function&&kd Γ x ==some .local&&p.line ==q.line&& !(scope.names.any λ(n,k)=>n ==x&&(k== .local||k== .cell))
 |_=>false
def qd(x:Str)(Γ:Ct)(v:Expr):Bool:=Do v||(kd Γ x ==some .cell&&(match v with| .ListComp _ _ _ _=>true|_=>false))
def Xz:MT->Bool
 |.nm _=>false
 |_=>true
def Mi(f:Expr->Expr->Pos->Bool)(e:Stmt):Bool:=if h:e.ctorIdx=5 then Stmt.Assign.elim e h (λt v p=>FE (λt=>f t v p) t) else false
def Tn(f:Expr->Bool)(e:Stmt):Bool:=if h:e.ctorIdx=24 then Stmt.Expr.elim e h (λv _=>f v) else false
def Ze(f:Option Expr->Bool)(e:Stmt):Bool:=if h:e.ctorIdx=3 then Stmt.Return.elim e h (λv _=>f v) else false
def Wb(f:Expr->List Stmt->List Stmt->Bool)(e:Stmt):Bool:=if h:e.ctorIdx=12 then Stmt.If.elim e h (λt u v _=>f t u v) else false
def Wq(f:Expr->Expr->List Stmt->List Stmt->Bool)(e:Stmt):Bool:=if h:e.ctorIdx=9 then Stmt.For.elim e h (λt i b e _=>f t i b e) else false
def Zf(f:Str->Expr->Bool)(e:Stmt):Bool:=if h:e.ctorIdx=16 then Stmt.Raise.elim e h (λx c _=>c.isNone&&x.any (Gq λx l=>FE (f x) l)) else false
def jF(G:Gt)(c f:Nat)(x:Str):Bool:=match G.cs[c]? with
 |some i=>i.nm ==x&&i.exc&&decide (f∈i.flds)
 |none=>false
mutual
def Ec:ME->Bool
 |.var _=>true
 |.con _=>true
 |.fld e _=>Ec e
 |.idx a b=>Ec a&&Ec b
 |.glo _ (.cls _)=>true
 |.bfn .isi es=>Dt es
 |.bfn .int es=>Dt es
 |.tup es=>Dt es
 |.lst es=>Dt es
 |_=>false
def Dt:EN->Bool
 |.nil=>true
 |.cons e r=>Ec e&&Dt r
end
def ay:ME->Option EN
 |.bfn .isi es=>some es
 |_=>none
noncomputable def WH:ME->Option (Nat×ME)
 |.mmt .app (.var i) (.cons e .nil)=>some (i,e)
 |_=>none
def VT(h:ay m=some es):m=.bfn .isi es:=by
 unfold ay at h;split at h
 ·cases h;rfl
 cases h
def WG(h:WH m=some p):m=.mmt .app (.var p.1) (.cons p.2 .nil):=by
 unfold WH at h;split at h
 ·cases h;rfl
 cases h
mutual
def X5:MS->Bool
 |.set _ e=>Ec e
 |.ret e=>Ec e
 |.ite c a b=>(ay c).any Dt&&Ds a&&Ds b
 |.expr e=>(WH e).any λp=>Ec p.2
 |_=>false
def Ds:QJ->Bool
 |.nil=>true
 |.cons s r=>X5 s&&Ds r
end
noncomputable def TL:QJ->Option (Nat×Nat×ME×EN)
 |.cons (.set i (.call f (.cons e r))) .nil=>some (i,f,e,r)
 |_=>none
def TH(h:TL m=some p):m=.cons (.set p.1 (.call p.2.1 (.cons p.2.2.1 p.2.2.2))) .nil:=by
 unfold TL at h;split at h
 ·cases h;rfl
 cases h
def Yw(f:List Stmt->List ExceptHandler->Bool)(e:Stmt):Bool:=if h:e.ctorIdx=17 then Stmt.Try.elim e h (λb hs o z _=>Fj o&&Fj z&&f b hs) else false
noncomputable def bx(f:Str->Str->List Stmt->Bool):ExceptHandler->Bool
 |.ExceptHandler (some (.Name x _)) (some n) suite _=>f x n suite
 |_=>false
section
variable (G:Gt)
mutual
noncomputable def oa:MS->Ct->Stmt->Bool
 |.set i e,Γ=>Mi λt v _=>MZ (λx _=>sto Γ i x&&Cj G e Γ v&&qd x Γ v) t
 |.setT t e,Γ=>Mi λy v _=>Xz t&&lG Γ t y&&Cj G e Γ v&&Do v&&Sb v&&M5 (λ_ _ _=>true) y
 |.setC i e,Γ=>Mi λt v _=>MZ (λx p=>sto Γ i x&&Cj G e Γ v&&uG x p Γ v) t
 |.setI o i e,Γ=>Mi λt v _=>Rf (λx y=>Cj G o Γ x&&Cj G i Γ y&&Cj G e Γ v&&Do v&&CY y) t
 |.setF o f e,Γ=>Mi λt v _=>Q7 (λx y _=>y ==G.nm f&&Cj G o Γ x&&Cj G e Γ v&&Do v) t
 |.expr e,Γ=>Tn λv=>Cj G e Γ v&&Do v
 |.ret e,Γ=>Ze (·.any (Cj G e Γ))
 |.ite c a b,Γ=>Wb λt u v=>Cj G c Γ t&&Ic a Γ u&&Ic b Γ v
 |.for_ t it b,Γ=>Wq λtg iter body e=>lG Γ t tg&&sY G it Γ tg iter&&Dl iter&&Ic b Γ body&&Fj e&&Γ.rz
 |.tryE b hs,Γ=>Yw λbody l=>Ic b ⟨Γ.N,Γ.sc,Γ.fn,false,Γ.lp⟩ body&&du hs Γ l&& !l.isEmpty&&Γ.rz
 |.raise c f e,Γ=>Zf λx v=>jF G c f x&&gl Γ x&&Cj G e Γ v&& !Bw v&&Γ.rz
noncomputable def Ic:QJ->Ct->List Stmt->Bool
 |.nil,_=>Fj
 |.cons s r,Γ=>GV λx l=>oa s Γ x&&Ic r Γ l
noncomputable def du:gk->Ct->List ExceptHandler->Bool
 |.nil,_=>Fj
 |.cons d i s r,Γ=>GV λh l=>bx (λx n suite=>decide (Γ.N[i]?=some n)&&kd Γ n ==some .local&&gl Γ x&&Pc G d (λj=>j.nm ==x&&j.exc)&&(Ds s||(TL s).any λp=>G.lt p.2.1&&Dt (.cons p.2.2.1 p.2.2.2))&& !suite.isEmpty&&Ic s Γ suite) h&&du r Γ l
end
end
section
abbrev sV(D:Io)(i:Nat):Io:={nx:=λσ2 H2=>D.nx (σ2.set i none) H2,rt:=D.rt,bk:=λσ2 H2=>D.bk (σ2.set i none) H2,ct:=λσ2 H2=>D.ct (σ2.set i none) H2}
def GS.clr{i:Nat}(g:GS W E D F ρ (Uw i x)):GS W E' (sV D i) F ρ x:=by
 match x,g with
 |some (.nx μ',h'),g=>exact λF' ρ' H' σ' n S e=>g F' ρ' H' _ n S (e.setN i)
 |some (.rt r,h'),g=>exact g
 |some (.xc m μ',h'),g=>exact g.elim
 |none,g=>exact g.elim
inductive QB(W:Wd)(cs:List Ci)(E':RX):List (Nat×Addr×TS)->(MV->Sf)->Prop
 |nil:QB W cs E' [] λ_ _ _=>none
 |cons {i d:Nat}{fs:Sf}{fr:MV->Sf}{ths:List (Nat×Addr×TS)}(hd:∀(c:Nat) (i:Ci),cs[c]?=some i->i.exc=true->mroIn W.K (W.ca c) (.ref (W.ca d))=some (decide (d∈i.isa))) (r:QB W cs E' ths fr):QB W cs E' ((i,W.ca d,Fa W E' fs)::ths) (QP cs d i fs fr)
def bw(hx:QB W cs E' ths fh){c n:Nat}(S:By W F H ρ h)(ee:B1 W F ρ μ σ)(rp:Ak W F (.exc c n v) (.ref a))(g:GS W E D F ρ (fh (.exc c n v) μ h)):mZ W.K D σ a (W.ca c) H ths:=by
 induction hx with
 |nil=>exact g.elim
 |@cons i d fs fr ths hd r ih=>
  unfold QP at g;split at g
  ·rename_i hi;obtain⟨ci,h1,h2⟩:=aB.mp hi;obtain⟨h3,h4⟩:=Ap h2;refine .inl ⟨?_,F,ρ,_,h,S,B1.set (r:=.v (.exc c n v)) ee rp i,GS.clr g⟩;rw[hd c ci h1 h3,h4]
  ·rename_i hi;obtain⟨ci,h1,h2⟩:=aB.mp hi;obtain⟨h3,h4⟩:=Ap h2;refine .inr ⟨?_,ih g⟩;rw[hd c ci h1 h3,h4]
  exact g.elim
def j2(hK:X.K=W.K)(hsk:X.stack=X.env::X.outer)(hfe:X.env.frame=some X.env.locals)
 (hb:∀RX pn E',B2 (X.tr pn E') RX->Df (X.tr pn E') body (Fa W RX fb))(hh:ig X (h₀::hs) ths)(hx:QB W cs E' ths fh) :
 PS X (.Try body (h₀::hs) [] [] pos) (Fa W E (Ym fb fh)):=by
 refine PS.of (UY hsk hfe hb hh) ?_;rintro D σ H ⟨F,ρ,μ,h,S,ee,G⟩;refine⟨F,ρ,μ,h,S,ee,?_⟩;unfold Ym at G
 match hf:fb μ h,G with
 |none,G=>exact G.elim
 |some (.nx μ',h'),G=>exact G
 |some (.rt r,h'),G=>exact G
 |some (.xc m μ',h'),G=>
  intro F' ρ' H' σ' a n S' e' rp;have G':=GS.nxt n G;cases m with
  |exc c nn v=>
   have rp2:=rp;unfold Ak at rp2;obtain⟨a',dx,u,e0,e1,_,_⟩:=rp2;cases e0;exact⟨_,_,S'.sub _ _ e1,by rw[hK];exact bw hx S' e' rp G'⟩
  |_=>
   exfalso
   cases hx with
   |nil=>exact G'.elim
   |cons _ r=>exact G'.elim
end
section
variable {G:Gt}{W:Wd}{Φ:Fs}{k:Nat}
structure Cl(G:Gt)(W:Wd)(Γ:Ct)(Y:Cx):Prop where
 hK:Y.K=W.K
 nm:W.nm=G.nm
 kt:Kt G.cs W
 hN:Y.N=Γ.N
 nd:Γ.N.Nodup
 sc:Y.env.scope=Γ.sc
 fn:Γ.fn=true->∀x,Y.fn x=true
 hu:Y.A.units+70<cLine
 nb:∀x∈G.blt,Y.mg x=none
 cl:∀(c:Nat) (i:Ci),G.cs[c]?=some i->Y.mg i.nm=some (.ref (W.ca c))
theorem Cg.hdl(c:Cg G W Φ k Γ E X)(a:Addr):Cl G W Γ (X.hdl a):=⟨c.hK,c.nm,c.kt,c.hN,c.nd,c.sc,c.fn,c.hu,c.nb,c.cl⟩
theorem Cl.vis(c:Cl G W Γ Y){i:Nat}{x:Str}(h:B.vis Γ i x=true):Y.N[i]?=some x/\QI Y.env.scope x/\(x ==("__debug__" :Str))=false/\(x ==("__classdict__" :Str))=false:=by
 unfold B.vis kd at h;simp only[Bool.and_eq_true,Bool.or_eq_true,decide_eq_true_eq,beq_iff_eq]at h;obtain⟨⟨h1,h2⟩,h3⟩:=h;have o:=Gj h3;refine⟨by rw[c.hN];exact h1,?_,o.1,o.2.1⟩;unfold QI;rw[c.sc];rcases h2 with(h2|h2)|h2
 ·exact .inl h2
 ·exact .inr (.inl h2)
 exact .inr (.inr h2)
theorem Cl.sto(c:Cl G W Γ Y){i:Nat}{x:Str}(h:B.sto Γ i x=true):Y.N[i]?=some x/\Uo Y.env.scope x/\(Y.fn x=true\/Y.env.scope.names.lookup x=some .local):=by
 unfold B.sto kd at h;simp only[Bool.and_eq_true,Bool.or_eq_true,decide_eq_true_eq,beq_iff_eq]at h;obtain⟨h1,h2⟩:=h;refine⟨by rw[c.hN];exact h1,?_,?_⟩
 ·unfold L2.Uo;rw[c.sc];rcases h2 with h2|h2
  ·exact .inl h2
  exact .inr h2.1
 rw[c.sc];rcases h2 with h2|h2
 ·exact .inr h2
 exact .inl (c.fn h2.2 x)
theorem Cl.gl(c:Cl G W Γ Y){x:Str}(h:B.gl Γ x=true):Gl Y x/\(x ==("__debug__" :Str))=false/\x≠ "__name__":=by
 unfold B.gl kd at h;simp only[Bool.and_eq_true,beq_iff_eq]at h;have o:=Gj h.2;exact⟨by show Y.env.scope.names.lookup x=_;rw[c.sc];exact h.1,o.1,λz=>by have:=o.2.2;rw[z]at this;exact absurd this (by decide)⟩
def Cl.blt(c:Cl G W Γ Y){x y:Str}(h:FT G Γ x y=true):x=y/\Gl Y x/\Y.mg x=none:=
 AU h λh1 h2 h3=>⟨aI.mp h1,(c.gl h2).1,c.nb x (aY h3)⟩
theorem C1:∀{es:EN}{l:List Expr},CC G es Γ l=true->Bc l=true
 |.nil,l,h=>by
  obtain rfl:=AH h;rfl
 |.cons m r,l,h=>by
  refine AJ h λx l h=>?_;refine AU h λh1 h2 h3=>?_;show(!Bw x&&Bc l)=true;rw[h2,C1 h3];rfl
mutual
theorem G7:∀m {Γ:Ct}{E':RX}{Y:Cx}{e:Expr},Cl G W Γ Y->Ec m=true->Cj G m Γ e=true->PE Y e (tM W E' (sD G Φ m))
 |.var i,Γ,E',Y,e,c,z,h=>by
  refine Bv h λx p h=>?_;obtain⟨v1,v2,v3,v4⟩:=c.vis h;exact Xl v1 v2 v3 v4
 |.con m,Γ,E',Y,e,c,z,h=>by
  refine KF h λv n p h=>?_;exact T5 h
 |.fld m f,Γ,E',Y,e,c,z,h=>by
  refine FU h λo x p h=>?_;refine AU h λh1 h2 h3=>?_;obtain rfl:=aI.mp h1;rw[←c.nm];exact Xs c.hK c.kt (G7 m c z h2) (B9 h3)
 |.idx a b,Γ,E',Y,e,c,z,h=>by
  refine GZ h λx y p h=>?_;refine AU h λh1 h2 h3=>?_;obtain⟨z1,z2⟩:=Ah z;exact Xr c.hK c.hu (G7 a c z1 h1) (G7 b c z2 h2) (Lf h3)
 |.glo x (.cls cc),Γ,E',Y,e,c,z,h=>by
  refine Bv h λy p h=>?_;refine AU h λh1 h2 h3=>?_;obtain⟨g1,g2,_⟩:=c.gl h2;have h3:SS G y cc=true:=h3;unfold SS at h3;split at h3
  ·rename_i i hi;obtain rfl:=aI.mp h3;exact F7 (FC (v:=.ref (W.ca cc)) g1 (c.cl cc i hi) rfl g2) λF=>by unfold Ak;rfl
  exact Fh h3
 |.bfn .isi es,Γ,E',Y,e,c,z,h=>by
  refine Bk h λx q l p h=>?_;refine AU h λh1 h2 h3=>?_;obtain⟨rfl,g1,hb⟩:=c.blt h1;have pa:=Fb (E':=E') es c z h2;have ns:=C1 h2;cases l with
  |nil=>exact Fh h3
  |cons e0 l=>exact PE.of (CV (vS c.hK c.kt) g1 hb boot_isinstance pa (by decide) (by decide) (Ao (Bn ns).1) (Bb (Bn ns).2)) λσ H Q t=>CK t
 |.bfn .int es,Γ,E',Y,e,c,z,h=>by
  refine Bk h λx q l p h=>?_;refine AU h λh1 h2 h3=>?_;obtain⟨rfl,g1,hb⟩:=c.blt h1;have pa:=Fb (E':=E') es c z h2;have ns:=C1 h2;cases l with
  |nil=>exact Fh h3
  |cons e0 l=>exact PE.of (EC kJ g1 hb (by decide +kernel) pa (by decide) (by decide) (Ao (Bn ns).1) (Bb (Bn ns).2)) λσ H Q t=>CK t
 |.tup es,Γ,E',Y,e,c,z,h=>by
  refine Et h λl n p h=>?_;exact Xm (Fb es c z h)
 |.lst es,Γ,E',Y,e,c,z,h=>by
  refine Km h λl p h=>?_;exact Xp (Fb es c z h)
 |.glo _ (.non),_,_,_,_,_,z,_=>(a9 z).elim
 |.glo _ (.bl _),_,_,_,_,_,z,_=>(a9 z).elim
 |.glo _ (.int _),_,_,_,_,_,z,_=>(a9 z).elim
 |.glo _ (.str _),_,_,_,_,_,z,_=>(a9 z).elim
 |.glo _ (.tup _),_,_,_,_,_,z,_=>(a9 z).elim
 |.glo _ (.lst _),_,_,_,_,_,z,_=>(a9 z).elim
 |.glo _ (.scr _),_,_,_,_,_,z,_=>(a9 z).elim
 |.glo _ (.dic _ _ _),_,_,_,_,_,z,_=>(a9 z).elim
 |.glo _ (.obj _ _ _),_,_,_,_,_,z,_=>(a9 z).elim
 |.glo _ (.exc _ _ _),_,_,_,_,_,z,_=>(a9 z).elim
 |.glo _ (.ty _),_,_,_,_,_,z,_=>(a9 z).elim
 |.glo _ (.lam _ _),_,_,_,_,_,z,_=>(a9 z).elim
 |.bfn .len _,_,_,_,_,_,z,_=>(a9 z).elim
 |.bfn .all _,_,_,_,_,_,z,_=>(a9 z).elim
 |.bfn .max _,_,_,_,_,_,z,_=>(a9 z).elim
 |.bfn .min _,_,_,_,_,_,z,_=>(a9 z).elim
 |.bfn .tup _,_,_,_,_,_,z,_=>(a9 z).elim
 |.bfn .lst _,_,_,_,_,_,z,_=>(a9 z).elim
 |.mov _,_,_,_,_,_,z,_=>(a9 z).elim
 |.bty _ _,_,_,_,_,_,z,_=>(a9 z).elim
 |.lstL _,_,_,_,_,_,z,_=>(a9 z).elim
 |.dicL _,_,_,_,_,_,z,_=>(a9 z).elim
 |.sli _ _ _,_,_,_,_,_,z,_=>(a9 z).elim
 |.bin _ _ _,_,_,_,_,_,z,_=>(a9 z).elim
 |.una _ _,_,_,_,_,_,z,_=>(a9 z).elim
 |.cmp _ _ _,_,_,_,_,_,z,_=>(a9 z).elim
 |.cmp2 _ _ _ _ _,_,_,_,_,_,z,_=>(a9 z).elim
 |.not _,_,_,_,_,_,z,_=>(a9 z).elim
 |.and _,_,_,_,_,_,z,_=>(a9 z).elim
 |.or _,_,_,_,_,_,z,_=>(a9 z).elim
 |.ife _ _ _,_,_,_,_,_,z,_=>(a9 z).elim
 |.call _ _,_,_,_,_,_,z,_=>(a9 z).elim
 |.make _ _,_,_,_,_,_,z,_=>(a9 z).elim
 |.new0 _,_,_,_,_,_,z,_=>(a9 z).elim
 |.meth _ _ _,_,_,_,_,_,z,_=>(a9 z).elim
 |.lenset _,_,_,_,_,_,z,_=>(a9 z).elim
 |.bmt _ _ _,_,_,_,_,_,z,_=>(a9 z).elim
 |.mmt _ _ _,_,_,_,_,_,z,_=>(a9 z).elim
 |.comp _ _ _ _ _ _ _,_,_,_,_,_,z,_=>(a9 z).elim
 |.calL _ _ _ _,_,_,_,_,_,z,_=>(a9 z).elim
 |.calv _ _,_,_,_,_,_,z,_=>(a9 z).elim
theorem Fb:∀es {Γ:Ct}{E':RX}{Y:Cx}{l:List Expr},Cl G W Γ Y->Dt es=true->CC G es Γ l=true->PA Y l (Ip W E' (BE G.cs Φ G.ini es))
 |.nil,Γ,E',Y,l,c,z,h=>by
  obtain rfl:=AH h;exact IX
 |.cons m r,Γ,E',Y,l,c,z,h=>by
  refine AJ h λx l h=>?_;refine AU h λh1 h2 h3=>?_;obtain⟨z1,z2⟩:=Ah z;exact Fc (G7 m c z1 h1) (Fb r c z2 h3) (Ao (DZ h2))
end
end
section
variable {k:Nat}
def Re{Γ:Ct}{X:Cx}(sc:X.env.scope=Γ.sc){x:Str}{n:Nat}(h:qd x Γ v=true):swapsWith v (some (.Name x p)) n X.env=pure false:=by
 unfold qd at h;rcases dO _ _ |>.mp h with h|h
 ·exact Ev h
 obtain⟨h1,h2⟩:=Ah h;have h1:Γ.sc.names.lookup x=some .cell:=aI.mp h1;cases v<;>first|(exact absurd h2 a9)|skip
 have hk:X.env.kindOf x=some .cell:=by show X.env.scope.names.lookup x=_;rw[sc];exact h1
 unfold swapsWith;simp only[hk];rw[show(some NameKind.cell ==some NameKind.local)=false from rfl];simp only[Bool.and_false,Bool.false_and]
def jf(c:Cg G W Φ k Γ E X){x:Str}{n:Nat}(h:uG x p Γ v=true):(∃a b s q,v=.ListComp a b s q)/\X.env.scope.names.lookup x=some .local/\swapsWith v (some (.Name x p)) n X.env=pure true:=by
 cases v<;>first|(exact absurd (show false=true from h) a9)|skip
 rename_i elt gens scope q;have h:=h;obtain⟨h,h4⟩:=Ah h;obtain⟨h,h3⟩:=Ah h;obtain⟨h1,h2⟩:=Ah h;have h1:Γ.sc.kind=.function:=by cases hk:Γ.sc.kind<;>rw[hk]at h1<;>first|rfl|(exact absurd h1 (by decide))
 have h2:=aI.mp h2;refine⟨⟨_,_,_,_,rfl⟩,by rw[c.sc];exact h2,?_⟩;have hk:X.env.kindOf x=some .local:=by show X.env.scope.names.lookup x=_;rw[c.sc];exact h2
 have hb:X.env.blockKind=.function:=by unfold Env.blockKind;rw[c.sc,h1];rfl
 unfold swapsWith;simp only[hk,hb];have e:((Expr.ListComp elt gens scope q).pos).line=q.line:=rfl;rw[e,h3,h4];rfl
def NI(h:CY i=true):∀v,assign (.Subscript o i pos) env v=(do
 let ov ←holding [v] (eval o env)
 let iv ←holding [v,ov] (eval i env)
 standAt pos
 holding [v,ov,iv] (setItem ov iv v)
 release [v,ov,iv] []):=by
 intro v;cases i<;>first|rfl|(exact absurd h (by simp[CY]))
def Py{k:Nat}(h:Sb e=true):swappedStores [.Tuple es k p] e env=pure none:=by
 unfold swappedStores;cases e<;>first|rfl|(exact absurd h a9)
def M9:swappedStores [.Subscript o i p] e env=pure none:=by
 unfold swappedStores;cases e<;>rfl
def Oe{n:Nat}(h:Do e=true):swapsWithSole [tg] e n env=pure false:=Ev h
@[elab_as_elim]def UP{f:Str->Expr->Bool}{P:Stmt->Prop}{e:Stmt}(h:Zf f e=true)(k:∀x v p1 p2 p3,f x v=true->P (.Raise (some (.Call (.Name x p1) [v] [] p2)) none p3)):P e:=el h λq=>Stmt.Raise.elim (motive_2:=λe=>Zf f e=true->P e) e q (λx c p h=>by
  obtain⟨h1,h2⟩:=Ah h;cases c with
  |some _=>exact Fh h1
  |none=>
   cases x with
   |none=>exact Fh h2
   |some x=>exact Bk (P:=λx=>P (.Raise (some x) none p)) h2 λx q l p' h=>BR (P:=λl=>P (.Raise (some (.Call (.Name x q) l [] p')) none p)) h λv h=>k x v q p' p h) h
def W8(h:Xz t=true):∀i,t≠ .nm i:=by
 intro i e;rw[e]at h;exact absurd h a9
@[elab_as_elim]def Hm{f:Expr->Bool}{P:Stmt->Prop}{e:Stmt}(h:Tn f e=true)(k:∀v p,f v=true->P (.Expr v p)):P e:=el h λq=>Stmt.Expr.elim (motive_2:=λe=>Tn f e=true->P e) e q k h
@[elab_as_elim]def Oi{f:Option Expr->Bool}{P:Stmt->Prop}{e:Stmt}(h:Ze f e=true)(k:∀v p,f v=true->P (.Return v p)):P e:=el h λq=>Stmt.Return.elim (motive_2:=λe=>Ze f e=true->P e) e q k h
@[elab_as_elim]def K8{f:Expr->List Stmt->List Stmt->Bool}{P:Stmt->Prop}{e:Stmt}(h:Wb f e=true)(k:∀t u v p,f t u v=true->P (.If t u v p)):P e:=el h λq=>Stmt.If.elim (motive_2:=λe=>Wb f e=true->P e) e q k h
@[elab_as_elim]def OL{f:Expr->Expr->List Stmt->List Stmt->Bool}{P:Stmt->Prop}{e:Stmt}(h:Wq f e=true)(k:∀t i b o p,f t i b o=true->P (.For t i b o p)):P e:=el h λq=>Stmt.For.elim (motive_2:=λe=>Wq f e=true->P e) e q k h
@[elab_as_elim]def CI{f:Expr->Expr->Pos->Bool}{P:Stmt->Prop}{e:Stmt}(h:Mi f e=true)(k:∀t v p,f t v p=true->P (.Assign [t] v p)):P e:=el h λq=>Stmt.Assign.elim (motive_2:=λe=>Mi f e=true->P e) e q (λl v p h=>BR (P:=λl=>P (.Assign l v p)) h λt h=>k t v p h) h
mutual
theorem jr:∀(m:MS) {Γ:Ct}{E':RX}{Y:Cx}{st:Stmt},Cl G W Γ Y->X5 m=true->oa G m Γ st=true->PS Y st (Fa W E' (ex G.cs Φ G.ini m))
 |.set i e,Γ,E',Y,st,c,z,h=>by
  refine CI h λt v p h=>?_;refine Bv h λx q h=>?_;refine AU h λh1 h2 h3=>?_;obtain⟨s1,s2,s3⟩:=c.sto h1;exact ML (by rw[c.hN];exact c.nd) s1 s2 (G7 e c z h2) (Re c.sc h3) s3
 |.ret e,Γ,E',Y,st,c,z,h=>by
  refine Oi h λv p h=>?_;obtain⟨v,rfl,h⟩:=CQ h;exact Xn (G7 e c z h)
 |.ite m a b,Γ,E',Y,st,c,z,h=>by
  refine K8 h λt' u v p h=>?_;refine AU h λh1 h2 h3=>?_;refine AU z λz1 z2 z3=>?_;obtain⟨es,e1,z1⟩:=CQ z1;obtain rfl:=VT e1;have he:PE Y t' (tM W E' (sD G Φ (.bfn .isi es))):=G7 (.bfn .isi es) c z1 h1;have hp:JV t'=true:=by
   refine Bk h1 λx q l p h=>?_;rfl
  exact Xq (A0 c.hK hp he).2 (Hz a c z2 h2) (Hz b c z3 h3)
 |.expr m,Γ,E',Y,st,c,z,h=>by
  obtain⟨⟨i,e⟩,e1,z⟩:=CQ (show(WH m).any (λp=>Ec p.2)=true from z);obtain rfl:=WG e1;refine Hm h λv p h=>?_;obtain⟨h1,h2⟩:=Ah h
  revert h2
  refine EJ h1 λx y q l p h h2=>?_;refine KM h λh1 h2' h3 h4 h5 h6=>?_;obtain rfl:=aI.mp h1;have pa:=Fb (Φ:=Φ) (E':=E') (.cons e .nil) c (by show(Ec e&&true)=true;rw[show Ec e=true from z];rfl) h3;have ns:=C1 h3;cases l with
  |nil=>exact Fh h3
  |cons e0 l=>exact Rt (Xo .app (G7 (.var i) c rfl h2') pa (B9 h4) (KB ns (aY h6)) h5 (Ao (Bn ns).1) (Bb (Bn ns).2)) (Ev h2)
 |.setT _ _,_,_,_,_,_,z,_=>(a9 z).elim
 |.setC _ _,_,_,_,_,_,z,_=>(a9 z).elim
 |.setI _ _ _,_,_,_,_,_,z,_=>(a9 z).elim
 |.setF _ _ _,_,_,_,_,_,z,_=>(a9 z).elim
 |.for_ _ _ _,_,_,_,_,_,z,_=>(a9 z).elim
 |.raise _ _ _,_,_,_,_,_,z,_=>(a9 z).elim
 |.tryE _ _,_,_,_,_,_,z,_=>(a9 z).elim
theorem Hz:∀m {Γ:Ct}{E':RX}{Y:Cx}{st:List Stmt},Cl G W Γ Y->Ds m=true->Ic G m Γ st=true->Df Y st (Fa W E' (DJ G.cs Φ G.ini m))
 |.nil,Γ,E',Y,st,c,z,h=>by
  obtain rfl:=AH h;exact MK
 |.cons s r,Γ,E',Y,st,c,z,h=>by
  refine AJ h λx l h=>?_;obtain⟨h1,h2⟩:=Ah h;obtain⟨z1,z2⟩:=Ah z;exact JO (jr s c z1 h1) (Hz r c z2 h2)
end
theorem Cg.tr{Γ:Ct}{E RX:B.RX}{X:Cx}(c:Cg G W Φ k Γ E X){pn:Pq}{E':Vq}(hc:B2 (X.tr pn E') RX):Cg G W Φ k ⟨Γ.N,Γ.sc,Γ.fn,false,Γ.lp⟩ RX (X.tr pn E') where
 hK:=c.hK
 nm:=c.nm
 kt:=c.kt
 nb:=c.nb
 fns:=c.fns
 cl:=c.cl
 mkk:=c.mkk
 fnsH:=c.fnsH
 n0:=c.n0
 mt:=λm=>⟨(c.mt m).at_⟩
 gI:=c.gI
 gS:=c.gS
 calm:=c.calm
 room:=c.room
 hN:=c.hN
 nd:=c.nd
 sc:=c.sc
 fn:=c.fn
 own:=λz=>by cases z
 fr:=λz=>by cases z
 esc:=hc
 lamM:=c.lamM
 lamO:=c.lamO
 tab:=c.tab
 ra:=λz=>by cases z
 xs:=c.xs
@[elab_as_elim]def U3{f:List Stmt->List ExceptHandler->Bool}{P:Stmt->Prop}{e:Stmt}(h:Yw f e=true)(k:∀b hs p,f b hs=true->P (.Try b hs [] [] p)):P e:=el h λq=>Stmt.Try.elim (motive_2:=λe=>Yw f e=true->P e) e q (λb hs o z p h=>by
  refine AU h λh1 h2 h3=>?_;obtain rfl:=AH h1;obtain rfl:=AH h2;exact k b hs p h3) h
def We{f:Str->Str->List Stmt->Bool}{st:ExceptHandler}(h:bx f st=true):∃x n s p q,st=.ExceptHandler (some (.Name x p)) (some n) s q/\f x n s=true:=by
 unfold bx at h;split at h
 ·exact⟨_,_,_,_,_,rfl,h⟩
 cases h
def ju{X:Cx}(c:Cg G W Φ k Γ E X){i f:Nat}{st:List Stmt}(hl:G.lt f=true)(z:Dt (.cons m r)=true)(h:Ic G (.cons (.set i (.call f (.cons m r))) .nil) Γ st=true):Df (X.hdl a) st (Fa W NQ (DJ G.cs Φ G.ini (.cons (.set i (.call f (.cons m r))) .nil))):=by
 refine AJ h λx l h=>?_;obtain⟨h1,h2⟩:=Ah h;obtain rfl:=AH h2;refine JO ?_ MK;refine CI h1 λt v p h=>?_;refine Bv h λy q h=>?_;refine AU h λh1 h2 h3=>?_;obtain⟨s1,s2,s3⟩:=(c.hdl a).sto h1
 revert h3
 refine Bk h2 λx q l p h h3=>?_;refine AU h λh1 h2 h4=>?_;obtain⟨ps,Fn⟩:=c.fnsH f x (aY h1) hl;obtain⟨g1,g2,g3⟩:=c.gl h2;have pa:=Fb (Φ:=Φ) (E':=NQ) (.cons m r) (c.hdl a) z h4;have ns:=C1 h4;cases l with
 |nil=>exact Fh h4
 |cons e0 l=>
  refine ML (X:=X.hdl a) (by rw[c.hN];exact c.nd) s1 s2 (PE.of (Z2 (X:=X.hdl a) Fn c.room.h (cS _) g1 pa g2 (Ao (Bn ns).1) (Bb (Bn ns).2)) ?_) (Re (c.hdl a).sc h3) s3;rintro σ H Q ⟨F,ρ,μ,h,S,e,G⟩;refine⟨F,ρ,μ,h,S,e,(Al.bind (rep:=AI W) G).imp ?_⟩;rintro vs H1 ⟨F1,ρ1,rs,h1,n1,S1,q1,G1⟩;rw[bE];exact⟨F1,ρ1,h1,rs,S1,q1,G1.impE λa H' z=>z.elim⟩
theorem Xg{Γ:Ct}{E:RX}{X:Cx}(c:Cg G W Φ k Γ E X):∀(m:gk) {l:List ExceptHandler},du G m Γ l=true->∃ths,ig X l ths/\QB W G.cs NQ ths (kZ G.cs Φ G.ini m)
 |.nil,l,h=>⟨[],Vb,.nil⟩
 |.cons d i s r,l,h=>by
  refine AJ h λx l h=>?_;obtain⟨h1,h2⟩:=Ah h;obtain⟨ths,p1,p2⟩:=Xg c r h2;obtain⟨x,n,su,p,q,rfl,h1⟩:=We h1;refine WI h1 λk1 k2 k3 k4 k5 k6 k7=>?_;obtain⟨g1,g2,_⟩:=c.gl k3;unfold Pc at k4;obtain⟨j,hj,k4⟩:=CQ k4;obtain⟨k8,k9⟩:=Ah k4;obtain rfl:=aI.mp k8;obtain⟨z1,z2,z3⟩:=c.kt.kz d j hj k9;cases su with
  |nil=>exact Fh k6
  |cons b0 su=>
   have hs:∀a,Df (X.hdl a) (b0::su) (Fa W NQ (DJ G.cs Φ G.ini s)):=λa=>by
    rcases dO _ _ |>.mp k5 with k5|k5
    ·exact Hz s (c.hdl a) k5 k7
    obtain⟨⟨i,f,m,r⟩,e1,k5⟩:=CQ k5;obtain⟨y1,y2⟩:=Ah k5;obtain rfl:=TH e1;exact ju c y1 y2 k7
   refine⟨_,R8 (by rw[c.hN];exact c.nd) (by rw[c.hN];exact aY k1) (by rw[c.sc];exact aI.mp k2) g1 (c.cl d j hj) (by rw[c.hK];exact z1) (by rw[c.hK];exact z2) (by rw[c.hK];exact z3) hs p1 g2,.cons (λcc ci h1 h2=>c.kt.km cc d ci j h1 hj h2 k9) p2⟩
mutual
theorem jk:∀(m:MS) {Γ:Ct}{E:RX}{X:Cx}{st:Stmt},Cg G W Φ k Γ E X->oa G m Γ st=true->PS X st (Fa W E (ex G.cs Φ G.ini m))
 |.set i e,Γ,E,X,st,c,h=>by
  refine CI h λt v p h=>?_;refine Bv h λx q h=>?_;refine AU h λh1 h2 h3=>?_;obtain⟨s1,s2,s3⟩:=c.sto h1;exact ML (by rw[c.hN];exact c.nd) s1 s2 (AB e c h2).1 (Re c.sc h3) s3
 |.setT t e,Γ,E,X,st,c,h=>by
  refine CI h λy v p h=>?_;refine KM h λh1 h2 h3 h4 h5 h6=>?_
  revert h2
  refine Et h6 λes n q _ h2=>?_;exact YI (W8 h1) (AB e c h3).1 (Rk c h2) (Oe h4) (Py h5) rfl
 |.setC i e,Γ,E,X,st,c,h=>by
  refine CI h λt v p h=>?_;refine Bv h λx q h=>?_;refine AU h λh1 h2 h3=>?_;obtain⟨s1,s2,s3⟩:=c.sto h1;obtain⟨⟨a,b,sc,q',rfl⟩,hl,hsw⟩:=jf (n:=p.line) c h3;cases e with
  |comp xs ys js tg it cd m=>
   refine BR (show FE _ b=true from h2) λyy h4=>?_;obtain⟨t,iter,ifs,a0⟩:=yy;refine WI h4 λk0 k1 k2 k3 k4 k5 k6=>?_;obtain rfl:a0=0:=aI.mp k0;obtain⟨CS,nd⟩:=T6 k1;exact YL CS c.calm (by rw[c.hN];exact c.nd) s1 hl (YA it c k2) (λC s2 H fp=>Rk (c.comp nd) k4) (λC s2 H fp=>jo cd (c.comp nd) k5) (λC s2 H fp=>(AB m (c.comp nd) k6).1) c.sc c.hN (JN k3) hsw
  |_=>exact Fh h2
 |.setI o i e,Γ,E,X,st,c,h=>by
  refine CI h λt v p h=>?_;refine GZ h λx y q h=>?_;refine WJ h λh1 h2 h3 h4 h5=>?_;exact YJ (AB o c h1).1 (AB i c h2).1 (AB e c h3).1 (NI h5) (Oe h4) M9 rfl
 |.setF o f e,Γ,E,X,st,c,h=>by
  refine CI h λt v p h=>?_;refine FU h λx y q h=>?_;refine GW h λh1 h2 h3 h4=>?_;obtain rfl:=aI.mp h1;rw[←c.nm];exact YK c.hK c.kt (AB o c h2).1 (AB e c h3).1 (Ev h4)
 |.expr e,Γ,E,X,st,c,h=>by
  refine Hm h λv p h=>?_;obtain⟨h1,h2⟩:=Ah h;exact Rt (AB e c h1).1 (Ev h2)
 |.ret e,Γ,E,X,st,c,h=>by
  refine Oi h λv p h=>?_;obtain⟨v,rfl,h⟩:=CQ h;exact Xn (AB e c h).1
 |.ite t a b,Γ,E,X,st,c,h=>by
  refine K8 h λt' u v p h=>?_;refine AU h λh1 h2 h3=>?_;exact Xq (AB t c h1).2 (IU a c h2) (IU b c h3)
 |.for_ t it b,Γ,E,X,st,c,h=>by
  refine OL h λtg iter body els p h=>?_;refine KM h λh1 h2 h3 h4 h5 h6=>?_;obtain rfl:=AH h5;exact j8 (c.own h6) c.calm (YA it c h2) (Rk c h1) (IU b c h4) (JN h3)
 |.tryE b hs,Γ,E,X,st,c,h=>by
  refine U3 h λbody l p h=>?_;refine GW h λh1 h2 h3 h4=>?_;obtain⟨f1,f2⟩:=c.fr h4;obtain⟨ths,p1,p2⟩:=Xg c hs h2;cases l with
  |nil=>exact Fh h3
  |cons h0 l=>exact j2 c.hK f1 f2 (λRX pn E' hc=>IU b (c.tr hc) h1) p1 p2
 |.raise cc f e,Γ,E,X,st,c,h=>by
  refine UP h λx v p1 p2 p3 h=>?_;refine WJ h λh1 h2 h3 h4 h5=>?_;obtain⟨g1,g2,g3⟩:=c.gl h2;obtain⟨E1,hE,hr⟩:=c.ra h5;unfold jF at h1;split at h1
  ·rename_i i hi;refine AU h1 λh6 h7 h8=>?_;obtain rfl:=aI.mp h6;obtain⟨k',hk,Dx⟩:=c.xs cc f i hi h7 (aY h8);exact UJ hE hr c.hd c.kt c.hK Dx c.room hk g1 (AB e c h3).1 g2 (Ao (DZ h4))
  exact Fh h1
theorem IU:∀m {Γ:Ct}{E:RX}{X:Cx}{st:List Stmt},Cg G W Φ k Γ E X->Ic G m Γ st=true->Df X st (Fa W E (DJ G.cs Φ G.ini m))
 |.nil,Γ,E,X,st,c,h=>by
  obtain rfl:=AH h;exact MK
 |.cons s r,Γ,E,X,st,c,h=>by
  refine AJ h λx l h=>?_;obtain⟨h1,h2⟩:=Ah h;exact JO (jk s c h1) (IU r c h2)
end
end
structure Av where
 ps:List Str
 N:List Str
 body:QJ
 lp:List Pos:=[]
def B4(n:Nat)(rs:List R):En:=rs.map some++List.replicate (n-rs.length) none
noncomputable def fin(len:Nat):SR->Aw R
 |some (.rt (.v m),h)=>.ok (.v m) (h.take len)
 |some (.rt (.r k),h)=>if k<len then .ok (.r k) (h.take len) else(match h[k]? with
  |some o=>.ok (.r len) (h.take len++ [o])
  |none=>.no)
 |some (.nx _,h)=>.ok (.v .non) (h.take len)
 |some (.xc m _,h)=>.exc m (h.take len)
 |_=>.no
section
variable (G:Gt) (ds:List Av)
noncomputable def DU:Nat->Fs
 |0=>λ_ _ _=>.no
 |n+1=>λf rs h=>match ds[f]? with
  |some d=>if rs.length=d.ps.length then fin h.length (DJ G.cs (DU n) G.ini d.body (B4 d.N.length rs) h) else .no
  |none=>.no
end
section
def La(p:ρ <+: ρ'):ρ'.take ρ.length=ρ:=by
 obtain⟨t,rfl⟩:=p;exact List.take_left' rfl
def N4{n:Nat}(hn:ρ.length=n)(g:GE W E1 F ρ (fin n x) Q):GS W (λ_=>E1) {nx:=λ_ H'=>Q .non H',rt:=Q} F ρ x:=by
 subst hn;have back:∀{F' ρ' H' h'},Ep F ρ F' ρ'->By W F' H' ρ' h'->Ep F ρ F' ρ/\By W F' H' ρ (h'.take ρ.length):=λn S=>⟨⟨n.s,cD _⟩,by have:=S.take ρ.length;rwa[La n.p]at this⟩
 match x,g with
 |none,g=>exact g
 |some (.nx μ',h'),g=>exact λF' ρ' H' σ' n S e=>g F' ρ H' .non (back n S).1 (back n S).2 (by show Ak W F' .non .non;unfold Ak;rfl)
 |some (.xc m μ',h'),g=>exact λF' ρ' H' σ' a n S e r=>g F' ρ H' a (back n S).1 (back n S).2 r
 |some (.rt (.v m),h'),g=>exact λF' ρ' H' v n S r=>g F' ρ H' v (back n S).1 (back n S).2 r
 |some (.rt (.r k),h'),g=>
  intro F' ρ' H' v n S r;obtain⟨a,rfl,ha⟩:=r;have g:GE W E1 F ρ (if k<ρ.length then .ok (.r k) (h'.take ρ.length) else(match h'[k]? with|some o=>.ok (.r ρ.length) (h'.take ρ.length++ [o])|none=>.no)) Q:=g;by_cases hk:k<ρ.length
  ·rw[if_pos hk]at g;refine g F' ρ H' _ (back n S).1 (back n S).2 ⟨a,rfl,?_⟩;rw[←La n.p,fH,if_pos hk];exact ha
  rw[if_neg hk]at g;cases ho:h'[k]? with
  |none=>rw[ho]at g;exact g.elim
  |some o=>
   rw[ho]at g;have S0:=(back n S).2;have l0:(h'.take ρ.length).length=ρ.length:=S0.len.symm;refine g F' (ρ++ [a]) H' _ ⟨n.s,List.prefix_append _ _⟩ ⟨S0.sub,?_,by simp[l0],λj b m h1 h2=>?_,S0.tb,S0.tf⟩ ⟨a,rfl,by simp⟩
   ·obtain⟨t,ht⟩:=n.p;have nd:=S.nd;rw[←ht]at nd ha;rw[aU (by lia)]at ha;have hm:a∈t:=aP ha;exact nd.sublist (f7 (cI _) (List.singleton_sublist.mpr hm))
   by_cases hj:j<ρ.length
   ·rw[aS hj]at h1;rw[aS (by lia)]at h2;exact S0.obj j b m h1 h2
   rw[aU (by lia)]at h1;rw[aU (by lia),l0]at h2;have hz:j-ρ.length=0:=by
    cases hz:j-ρ.length with
    |zero=>rfl
    |succ q=>rw[hz]at h1;simp at h1
   rw[hz]at h1 h2;cases h1;cases h2;exact S.obj k a o ha ho
theorem HE{α β:Type}{R:α->β->Prop}:∀{l:List α}{l':List β},Paired R l l'->∀{i:Nat}{a:α},l[i]?=some a->∃b,l'[i]?=some b/\R a b
 |[],_,h,i,a,e=>by simp at e
 |x::l,l',h,i,a,e=>by
  cases h with
  |cons q t=>
   cases i with
   |zero=>simp at e;subst e;exact⟨_,rfl,q⟩
   |succ i=>simpa using HE t (i:=i) (a:=a) (by simpa using e)
def MA(r:AI W F ρ rs vs):B1 W F ρ (B4 N.length rs) (Bs N vs):=by
 have l:=C0 r;refine⟨by simp[B4,L2.Bs,l],λi q h=>?_⟩;unfold B4 at h;unfold L2.Bs;by_cases hi:i<rs.length
 ·rw[aS (by simpa using hi),aM]at h;cases hq:rs[i]? with
  |none=>rw[hq]at h;simp at h
  |some q'=>
   rw[hq]at h;obtain⟨v,hv,rv⟩:=HE r hq;refine⟨v,?_,?_⟩
   ·rw[aS (by simp;lia),aM,hv];rfl
   cases h;exact rv
 rw[aU (by simpa using hi),cL]at h;split at h<;>cases h
end
structure wN(K:Frag)(d:Av)(G:Gt)(f:Addr)(fd:FuncData):Prop where
 ex:∃(name qual:Str) (params:Arguments) (body:List Stmt) (scope:Scope) (dV kV doc pm:Value) (an:Option Addr) (cdv ct oc:Value) (od:Option Addr) (osl:Array (Option Value)),
  fd=fnOf name qual params body scope dV kV doc pm an cdv ct/\K.lookup f=some ⟨oc,od,.func fd,osl⟩/\codeIn K cdv qual=true/\DA d.N d.ps scope/\Ic G d.body ⟨d.N,scope,true,true,d.lp⟩ body=true
 bd:CB K fd d.ps []
 kp:keepIn K (.ref f)=true
def Gt.noL(G:Gt):Gt:={G with lck:=λ_ _ _=>false}
structure Pg(G:Gt)(W:Wd)(ds:List Av)(nf:Nat)(P:Program)(w:World)(mg:Str->Option Value)(base:Heap)(fa:Nat->Addr)(fd:Nat->FuncData):Prop where
 nm:W.nm=G.nm
 kt:Kt G.cs W
 nb:∀x∈G.blt,mg x=none
 dd:∀(f:Nat) (d:Av),f<nf->ds[f]?=some d->wN W.K d G (fa f) (fd f)
 fns:∀(f:Nat) (x:Str),G.fns[f]?=some x->(f<nf/\∃d,ds[f]?=some d)/\mg x=some (.ref (fa f))
 cl:∀(c:Nat) (i:Ci),G.cs[c]?=some i->mg i.nm=some (.ref (W.ca c))
 mkk:∀(c:Nat) (i:Ci) (f:Nat),G.cs[c]?=some i->i.exc=false->G.ini c=some f->(f<nf/\∃d,ds[f]?=some d)/\Mk W.K (W.ca c) (fa f)
 n0:∀(c:Nat) (i:Ci),G.cs[c]?=some i->i.exc=false->G.ini c=none->WO W.K mg i.nm (W.ca c)
 mt:∀(m c:Nat) (i:Ci) (f:Nat),G.cs[c]?=some i->i.exc=false->i.mts.lookup m=some f->(f<nf/\∃d,ds[f]?=some d)/\Ug W.K (W.ca c)/\gj W.K (W.ca c) (W.nm m) (fa f)
 xs:∀(c f:Nat) (i:Ci),G.cs[c]?=some i->i.exc=true->f∈i.flds->me P w W.K mg base i.nm 1 (W.nm f) (W.ca c)
 lt:∀(f:Nat) (d:Av),ds[f]?=some d->G.lt f=true->Ds d.body=true
 gI:∀(x:Str) (j:Int),G.glo.lookup x=some (.int j)->∃t,mg x=some (.int j t)
 gS:∀(x:Str) (j:Str),G.glo.lookup x=some (.str j)->∃t,mg x=some (.str j t)
 lamM:∀(k:Nat) (l:Uc),l.xs=(G.lam k).1->l.ps=(G.lam k).2->Cs l.params l.ps=true->BS l.xs l.ps l.scope=true->G.lck k l.body l.scope=true->Po W k l
 lamR:∀(F:Hp) (k:Nat) (vs:List V) (v:V),W.lamR F k vs v->∃l:Uc,l.xs=(G.lam k).1/\l.ps=(G.lam k).2/\Cs l.params l.ps=true/\BS l.xs l.ps l.scope=true/\G.lck k l.body l.scope=true/\E7 λf c' oc pm ctv cl C=>A3 (v=.ref f) (QA l oc cl C vs) (KQ l F f c' oc pm ctv cl C)
 lck:∀(k:Nat) (b:Expr) (sc:Scope),G.lck k b sc=true->E2 λm d=>A5 (ds[k]?=some d) (d.ps.length=((G.lam k).1++(G.lam k).2).length) (d.N.length=((G.lam k).1++(G.lam k).2).length) (d.body=.cons (.ret m) .nil) (Cj G.noL m ⟨(G.lam k).1++(G.lam k).2,sc,false,false,[]⟩ b=true)
 tab:∀(f:Nat) (d:Av) (p:Pos),f<nf->ds[f]?=some d->p∈d.lp->E2 λc Pt=>A6 ((fd f).code=.ref c) (CodeHd base c Pt) (base.BuiltinsAt mg Pt) (mainGlobals≠Pt) ((Pt,((fd f).qualname++ ".<locals>.")++ "<lambda>",p)∈W.tl) (∀t∈W.tl,t.1=Pt->t=(Pt,((fd f).qualname++ ".<locals>.")++ "<lambda>",p))
section
variable {nf:Nat}
def O6(h:Cs l.params l.ps=true)(nd:l.ps.Nodup):gm l:=λcl pm cdv ctv us hl=>by
 unfold Cs at h;split at h
 ·rename_i as hp;exact(Ig (fd:=PySem.W.kla_fn "<lambda>" l.qual l.params l.body l.scope cl pm cdv ctv) hp (aY h) nd hl).trans rfl
 exact absurd h a9
def Zd(t:tM W NQ (λμ h=>fin h.length (DJ cs Φ ini (.cons (.ret m) .nil) μ h)) σ H Q):tM W NQ (e2 cs Φ ini m).1 σ H Q:=by
 obtain⟨F,ρ,μ,h,S,ee,G⟩:=t;refine⟨F,ρ,μ,h,S,ee,?_⟩;have g:=N4 S.len G;cases hx:(e2 cs Φ ini m).1 μ h with
 |no=>
  have e:DJ cs Φ ini (.cons (.ret m) .nil) μ h=none:=by show EL (KT _) _ μ h=none;unfold EL KT;rw[hx];rfl
  rw[e]at g;exact g
 |exc m' h'=>
  have e:DJ cs Φ ini (.cons (.ret m) .nil) μ h=some (.xc m' μ,h'):=by show EL (KT _) _ μ h=_;unfold EL KT;rw[hx];rfl
  rw[e]at g;exact λF' ρ' H' a n S' r=>g F' ρ' H' σ a n S' (ee.nxt n) r
 |ok r h'=>
  have e:DJ cs Φ ini (.cons (.ret m) .nil) μ h=some (.rt r,h'):=by show EL (KT _) _ μ h=_;unfold EL KT;rw[hx];rfl
  rw[e]at g;exact g
def wR{u k c:Nat}(h:u+16*k+200<c):u+70<c:=by lia
def Pg.okH(pg:Pg G W ds nf P w mg base fa fd):∀n f d,f<nf->ds[f]?=some d->Ds d.body=true->Ue P w W.K mg base (2*n+1) (fa f) (fd f) d.ps (Pz W (DU G ds n) f)
 |0,f,d,_,hd,_=>⟨λvs H Q E ⟨_,_,_,_,_,_,g⟩=>g.elim,λA outer s H args us vs Q E _ _ _ _ ⟨_,_,_,_,_,_,g⟩=>g.elim⟩
 |n+1,f,d,hfn,hd,hlt=>by
  obtain⟨⟨name,qual,params,body,scope,dV,kV,doc,pm,an,cdv,ct,oc,od,osl,efd,lk,hcd,S,ck⟩,bd,kp⟩:=pg.dd f d hfn hd;rw[efd]at lk ⊢;have go:∀{rs:List R}{h:MH}{E:Addr->Hp->Prop}{F ρ Q},GE W E F ρ (DU G ds (n+1) f rs h) Q->rs.length=d.ps.length/\GE W E F ρ (fin h.length (DJ G.cs (DU G ds n) G.ini d.body (B4 d.N.length rs) h)) Q:=by
   intro rs h E F ρ Q g;simp only[DU,hd]at g;by_cases hl:rs.length=d.ps.length
   ·rw[if_pos hl]at g;exact⟨hl,g⟩
   rw[if_neg hl]at g;exact g.elim
  refine cr (k:=2*n+2) lk hcd S (λvs H Q E ⟨F,ρ,h,rs,S',r,g⟩=>by rw[←C0 r];exact(go g).1) λA outer s H vs Q E hr hsp=>?_;obtain⟨F,ρ,h,rs,S',r,g⟩:=hsp;refine⟨_,Hz (Φ:=DU G ds n) (E':=λ_ a H'=>E (.ref a) none H') d.body (Γ:=⟨d.N,scope,true,true,d.lp⟩) ?_ hlt ck,⟨F,ρ,B4 d.N.length rs,h,S',MA r,N4 S'.len (go g).2⟩⟩;exact⟨rfl,pg.nm,pg.kt,rfl,S.nd,rfl,λ_ _=>rfl,wR hr.un,pg.nb,pg.cl⟩
def Pg.cg{n:Nat}(pg:Pg G W ds nf X.prog X.w X.mg X.base fa fd)(hK:X.K=W.K)
 (ih:∀f d,f<nf->ds[f]?=some d->DB X.prog X.w W.K X.mg X.base (Gy X.prog X.w) (2*n+1) (fa f) (fd f) d.ps (Pz W (DU G ds n) f))(ihL:Mr X.prog X.w W.K X.mg X.base W (DU G ds n) (2*n+1))
 (lamM:∀k l,l.xs=(G.lam k).1->l.ps=(G.lam k).2->Cs l.params l.ps=true->BS l.xs l.ps l.scope=true->L k l.body l.scope=true->Po W k l)
 (calm:X.calm=true)(room:Ba (2*n+1+1) X.A)(hN:X.N=Γ.N)(nd:Γ.N.Nodup)(sc:X.env.scope=Γ.sc)(fn:Γ.fn=true->∀x,X.fn x=true)(own:Γ.rz=true->PassesOwn (model X.prog X.w) X.A X.env X.xe)(fr:Γ.rz=true->X.stack=X.env::X.outer/\X.env.frame=some X.env.locals)(esc:B2 X E)
 (tab:∀p∈Γ.lp,E2 λc P=>A6 (X.env.code=.ref c) (CodeHd X.base c P) (X.base.BuiltinsAt X.mg P) (mainGlobals≠P) ((P,X.env.qual++ "<lambda>",p)∈W.tl) (∀t∈W.tl,t.1=P->t=(P,X.env.qual++ "<lambda>",p)))
 (ra:Γ.rz=true->∃E1,E=(λ_=>E1)/\Ik X (λe _ H'=>∃a,e=.ref a/\E1 a H')):Cg {G with lck:=L} W (DU G ds n) (2*n+1) Γ E X where
 hK:=hK
 nm:=pg.nm
 kt:=pg.kt
 nb:=pg.nb
 fns:=λf x hx=>by
  obtain⟨⟨hf,d,hd⟩,hm⟩:=pg.fns f x hx;rw[hK];exact⟨d.ps,fa f,fd f,ih f d hf hd,hm,(pg.dd f d hf hd).kp,(pg.dd f d hf hd).bd⟩
 cl:=pg.cl
 mkk:=λc i f hc he hi=>by
  obtain⟨⟨hf,d,hd⟩,hm⟩:=pg.mkk c i f hc he hi;rw[hK];exact⟨fa f,fd f,d.ps,hm,ih f d hf hd,(pg.dd f d hf hd).bd⟩
 n0:=by rw[hK];exact pg.n0
 mt:=λm=>⟨λc i f hc he hi=>by
  obtain⟨⟨hf,d,hd⟩,hm,hn⟩:=pg.mt m c i f hc he hi;rw[hK];exact⟨d.ps,fa f,fd f,hm,hn,ih f d hf hd,(pg.dd f d hf hd).bd⟩⟩
 gI:=pg.gI
 gS:=pg.gS
 calm:=calm
 room:=room
 hN:=hN
 nd:=nd
 sc:=sc
 fn:=fn
 own:=own
 fr:=fr
 esc:=esc
 lamM:=lamM
 lamO:=by rw[hK];exact ihL
 tab:=tab
 ra:=ra
 xs:=λc f i hc he hf=>⟨1,by lia,by rw[hK];exact pg.xs c f i hc he hf⟩
 fnsH:=λf x hx hl=>by
  obtain⟨⟨hf,d,hd⟩,hm⟩:=pg.fns f x hx;rw[hK];exact⟨d.ps,fa f,fd f,pg.okH n f d hf hd (pg.lt f d hd hl),hm,(pg.dd f d hf hd).kp,(pg.dd f d hf hd).bd⟩
def Pg.cgd{n:Nat}{N ps lp}{qual:Str}(pg:Pg G W ds nf P w mg base fa fd)
 (ok:(∀f d,f<nf->ds[f]?=some d->DB P w W.K mg base (Gy P w) (2*n+1) (fa f) (fd f) d.ps (Pz W (DU G ds n) f))/\Mr P w W.K mg base W (DU G ds n) (2*n+1))(S:DA N ps scope)(hr:Ba (2*n+2) (A.deeper (envOfC qual scope s.heap.objs.size f cdv)))
 (htab:∀p∈lp,E2 λc Pt=>A6 (cdv=.ref c) (CodeHd base c Pt) (base.BuiltinsAt mg Pt) (mainGlobals≠Pt) ((Pt,(qual++ ".<locals>.")++ "<lambda>",p)∈W.tl) (∀t∈W.tl,t.1=Pt->t=(Pt,(qual++ ".<locals>.")++ "<lambda>",p))) :
 Cg G W (DU G ds n) (2*n+1) ⟨N,scope,true,true,lp⟩ (λ_ a H'=>E (.ref a) none H') (Fp (Gy P w) P w W.K mg base N qual scope f cdv A outer s H E):=
 Pg.cg (X:=Fp (Gy P w) P w W.K mg base N qual scope f cdv A outer s H E) (L:=G.lck) pg rfl ok.1 ok.2 pg.lamM rfl hr rfl S.nd rfl (λ_ _=>rfl) (λ_=>PassesOwn.leaving) (λ_=>⟨rfl,rfl⟩)
  (λpins σ H s e s' I hc=>Vw I hc λa H' ⟨a',e1,z⟩=>by cases e1;exact z) htab λ_=>⟨_,rfl,λpins σ H s a C d I ea q=>by
   obtain⟨a',e1,z⟩:=q;cases e1;exact MN pins σ H s a C d I ea z⟩
theorem Pg.ok(pg:Pg G W ds nf P w mg base fa fd):∀n:Nat,(∀f d,f<nf->ds[f]?=some d->DB P w W.K mg base (Gy P w) (2*n+1) (fa f) (fd f) d.ps (Pz W (DU G ds n) f))/\Mr P w W.K mg base W (DU G ds n) (2*n+1)
 |0=>⟨λf d _ hd=>⟨λvs H Q E ⟨_,_,_,_,_,_,g⟩=>g.elim,λA outer s H args us vs Q E _ _ _ _ ⟨_,_,_,_,_,_,g⟩=>g.elim⟩,λF k vs v hl=>by
  obtain⟨l,e1,e2,a0,a1,hck,r⟩:=pg.lamR F k vs v hl;refine⟨l,λ_ _=>.no,O6 a0 ?_,λ_ _=>.inl rfl,λf c' cl A outer s H _ _ pins s' σ H' Q I ⟨_,_,_,_,_,_,g⟩=>g.elim,r⟩;unfold BS at a1;simp only[Bool.and_eq_true,decide_eq_true_eq]at a1;exact a1.1.1.1.2.sublist (cE _ _)⟩
 |n+1=>by
  obtain⟨ih,ihL⟩:=Pg.ok pg n;refine⟨λf d hfn hd=>?_,λF k vs v hl=>?_⟩
  ·obtain⟨⟨name,qual,params,body,scope,dV,kV,doc,pm,an,cdv,ct,oc,od,osl,efd,lk,hcd,S,ck⟩,bd,kp⟩:=pg.dd f d hfn hd;have htab:=λp hp=>pg.tab f d p hfn hd hp;rw[efd]at lk htab ⊢;have go:∀{rs:List R}{h:MH}{E:Addr->Hp->Prop}{F ρ Q},GE W E F ρ (DU G ds (n+1) f rs h) Q->rs.length=d.ps.length/\GE W E F ρ (fin h.length (DJ G.cs (DU G ds n) G.ini d.body (B4 d.N.length rs) h)) Q:=by
    intro rs h E F ρ Q g;simp only[DU,hd]at g;by_cases hl:rs.length=d.ps.length
    ·rw[if_pos hl]at g;exact⟨hl,g⟩
    rw[if_neg hl]at g;exact g.elim
   refine Ti (k:=2*n+2) lk hcd S (λvs H Q E ⟨F,ρ,h,rs,S',r,g⟩=>by rw[←C0 r];exact(go g).1) λA outer s H vs Q E hr hsp=>?_;obtain⟨F,ρ,h,rs,S',r,g⟩:=hsp;refine⟨_,IU d.body (E:=λ_ a H'=>E (.ref a) none H') (Φ:=DU G ds n) (k:=2*n+1) (Γ:=⟨d.N,scope,true,true,d.lp⟩) ?_ ck,⟨F,ρ,B4 d.N.length rs,h,S',MA r,N4 S'.len (go g).2⟩⟩;exact pg.cgd ⟨ih,ihL⟩ S hr htab
  obtain⟨l,e1,e2,a0,a1,hck,r⟩:=pg.lamR F k vs v hl;obtain⟨m,d,hd,dp,dN,db,ck⟩:=pg.lck k l.body l.scope hck;have nd:(l.xs++l.ps).Nodup:=by
   have:=a1;unfold BS at this;simp only[Bool.and_eq_true,decide_eq_true_eq]at this;exact this.1.1.1.2
  refine⟨l,λμ h=>fin h.length (DJ G.cs (DU G ds n) G.ini d.body μ h),O6 a0 (nd.sublist (cE _ _)),λrs h=>?_,λf c' cl A outer s H sc hr=>?_,r⟩
  ·simp only[DU,hd];by_cases hl:rs.length=d.ps.length
   ·rw[if_pos hl];refine .inr ⟨by rw[hl,dp,←e1,←e2,aR],?_⟩;show fin _ (DJ _ _ _ _ (B4 d.N.length rs) h)=_;unfold B4;rw[dN,←e1,←e2]
   rw[if_neg hl];exact .inl rfl
  rw[db];rw[←e1,←e2]at ck;refine PE.of (AB (G:=G.noL) (W:=W) (Φ:=DU G ds n) (k:=2*n+1) (E:=NQ) m (Γ:=⟨l.xs++l.ps,l.scope,false,false,[]⟩) ?_ ck).1 λσ H Q t=>Zd t;exact Pg.cg (L:=λ_ _ _=>false) pg rfl ih ihL (λk l _ _ _ _ z=>by cases z) rfl (hr.mono (by lia)) rfl nd rfl (λz=>by cases z) (λz=>by cases z) (λz=>by cases z)
   (λpins σ H s e s' I hc=>by
     obtain⟨a,H',_,_,_,_,_,_,a',_,hf⟩:=hc;exact hf.elim) (λp hp=>absurd hp (by simp)) λz=>nomatch z
end
structure Tb where
 cs:List Ci
 names:List Str
 glo:List (Str×MV)
 blt:List Str
 fns:List Str
 mths:List (Nat×Nat)
 ds:List Av
 lds:List (List Str×List Str×ME)
def Fi(l:List Str)(i:Nat):Str:=match l[i]? with
 |some x=>x
 |none=>⟨(List.replicate (i+60) 63).toArray⟩
def Dq(l:List Str):Bool:=decide l.Nodup&&l.all λx=>decide (x.cps.size<60)
theorem C2{α:Type}:∀{l:List α}(nd:l.Nodup) {i j:Nat}{x:α},l[i]?=some x->l[j]?=some x->i=j
 |[],_,i,j,x,h,_=>by simp at h
 |a::l,nd,i,j,x,h1,h2=>by
  obtain⟨n1,n2⟩:=bH.mp nd;cases i with
  |zero=>
   cases j with
   |zero=>rfl
   |succ j=>simp at h1 h2;subst h1;exact absurd (aP h2) n1
  |succ i=>
   cases j with
   |zero=>simp at h1 h2;subst h2;exact absurd (aP h1) n1
   |succ j=>exact bW Nat.succ (C2 n2 (i:=i) (j:=j) (x:=x) (by simpa using h1) (by simpa using h2))
def Sc(h:Dq l=true):∀i j,Fi l i=Fi l j->i=j:=by
 unfold Dq at h;simp only[Bool.and_eq_true,decide_eq_true_eq,List.all_eq_true]at h;obtain⟨nd,sz⟩:=h;intro i j e;unfold Fi at e;cases hi:l[i]? with
 |none=>
  cases hj:l[j]? with
  |none=>
   rw[hi,hj]at e;have:=bW (λx:Str=>x.cps.size) e;simp at this
   lia
  |some y=>
   rw[hi,hj]at e;have:=sz y (aP hj);have e:=bW (λx:Str=>x.cps.size) e;simp at e
   lia
 |some x=>
  cases hj:l[j]? with
  |none=>
   rw[hi,hj]at e;have:=sz x (aP hi);have e:=bW (λx:Str=>x.cps.size) e;simp at e
   lia
  |some y=>
   rw[hi,hj]at e;obtain⟨l1,g1⟩:=aE.mp hi;obtain⟨l2,g2⟩:=aE.mp hj;exact C2 nd hi (by rw[hj];exact bW some e.symm)
def Tb.lam(T:Tb)(k:Nat):Option (List Str×List Str×ME):=if k<T.ds.length then none else T.lds[k-T.ds.length]?
noncomputable def Tb.gt0(T:Tb):Gt:={cs:=T.cs,fns:=T.fns,nm:=Fi T.names,glo:=T.glo,blt:=T.blt,ini:=λc=>(T.cs[c]?).bind Ci.init,lam:=λk=>((T.lam k).map λl=>(l.1,l.2.1)).getD ([],[]),lck:=λ_ _ _=>false,lt:=λf=>(T.ds[f]?).any λd=>Ds d.body}
def Tb.gt(T:Tb):Gt:={T.gt0 with lck:=λk b sc=>match T.lam k with
 |some (xs,ps,m)=>Cj T.gt0 m ⟨xs++ps,sc,false,false,[]⟩ b
 |none=>false}
def Tb.all(T:Tb):List Av:=T.ds++T.lds.map λl=>⟨l.1++l.2.1,l.1++l.2.1,.cons (.ret l.2.2) .nil,[]⟩
def Tb.all_lt{T:Tb}{f:Nat}(h:f<T.ds.length):T.all[f]?=T.ds[f]?:=aS h
def Tb.lam_all{T:Tb}{k:Nat}{l:List Str×List Str×ME}(h:T.lam k=some l):T.all[k]?=some ⟨l.1++l.2.1,l.1++l.2.1,.cons (.ret l.2.2) .nil,[]⟩:=by
 unfold Tb.lam at h;split at h
 ·cases h
 rename_i hk;unfold Tb.all;rw[aU (by lia),aM,h];rfl
def B7(K:Frag)(x:Str):Addr:=match nsIn K mainGlobals x with
 |some (some (.ref a))=>a
 |_=>0
def HF(K:Frag)(C:Addr)(m:Str):Addr:=match findIn K (.ref C) m with
 |some (some (.ref a))=>a
 |_=>0
def AZ(K:Frag)(cs:List Ci)(c:Nat):Addr:=match cs[c]? with
 |some i=>B7 K i.nm
 |none=>0
def C5(K:Frag)(T:Tb)(f:Nat):Addr:=match T.fns[f]? with
 |some x=>B7 K x
 |none=>(match T.mths[f-T.fns.length]? with
  |some (c,m)=>HF K (AZ K T.cs c) (Fi T.names m)
  |none=>0)
def Fm(K:Frag)(f:Addr):FuncData:=match K.lookup f with
 |some ⟨_,_,.func fd,_⟩=>fd
 |_=>default
def IQ(K:Frag)(f:Addr):Addr:=match (Fm K f).code with
 |.ref c=>(match K.lookup c with
  |some ⟨_,_,.fields vs,_⟩=>(match vs[11]? with
   |some (Value.ref P)=>P
   |_=>0)
  |_=>0)
 |_=>0
def Fz(K:Frag)(T:Tb):Nat->List Av->List (Addr×Str×Pos)
 |_,[]=>[]
 |f,d::ds=>(d.lp.map λp=>(IQ K (C5 K T f),((Fm K (C5 K T f)).qualname++ ".<locals>.")++ "<lambda>",p))++Fz K T (f+1) ds
theorem KY{K:Fq}{T:Tb}{f:Nat}{d:Av}{p:Pos}:∀{ds:List Av}{n:Nat},ds[f]?=some d->p∈d.lp->(IQ K (C5 K T (n+f)),((Fm K (C5 K T (n+f))).qualname++ ".<locals>.")++ "<lambda>",p)∈Fz K T n ds
 |[],n,h,_=>by simp at h
 |q::ds,n,h,hp=>by
  unfold Fz;cases f with
  |zero=>simp at h;subst h;exact bF _ (eZ (f:=λp=>(IQ K (C5 K T n),((Fm K (C5 K T n)).qualname++ ".<locals>.")++ "<lambda>",p)) hp)
  |succ f=>have:=KY (K:=K) (T:=T) (n:=n+1) (f:=f) (ds:=ds) (by simpa using h) hp;rw[show n+1+f=n+(f+1) by lia]at this;exact b7 _ this
def kF(T:Tb)(F:Hp)(k:Nat)(vs:List V)(v:V):Prop:=∃l:Uc,l.xs=(T.gt.lam k).1/\l.ps=(T.gt.lam k).2/\Cs l.params l.ps=true/\BS l.xs l.ps l.scope=true/\T.gt.lck k l.body l.scope=true/\E7 λf c' oc pm ctv cl C=>A3 (v=.ref f) (QA l oc cl C vs) (KQ l F f c' oc pm ctv cl C)
def rg(K:Frag)(T:Tb)(h:Dq T.names=true):Wd:={K:=K,ca:=AZ K T.cs,nm:=Fi T.names,inj:=Sc h,lamR:=kF T,lamS:=λs ⟨l,a,b,c,d,e,f,c',oc,pm,ctv,cl,C,x,y,z⟩=>⟨l,a,b,c,d,e,f,c',oc,pm,ctv,cl,C,x,y,z.same s⟩,tl:=Fz K T 0 T.ds}
def El{α:Type}(p:Nat->α->Bool):Nat->List α->Bool
 |_,[]=>true
 |n,a::l=>p n a&&El p (n+1) l
theorem C9{α:Type}{p:Nat->α->Bool}:∀{n:Nat}{l:List α},El p n l=true->∀{c:Nat}{i:α},l[c]?=some i->p (n+c) i=true
 |n,[],h,c,i,e=>by simp at e
 |n,a::l,h,c,i,e=>by
  obtain⟨h1,h2⟩:=Ah (show(p n a&&El p (n+1) l)=true from h);cases c with
  |zero=>simp at e;subst e;exact h1
  |succ c=>have:=C9 h2 (c:=c) (i:=i) (by simpa using e);rwa[show n+1+c=n+(c+1) by lia]at this
def Rq(N ps:List Str)(sc:Scope):Bool:=sc.kind== .function&& !sc.isCoroutine&& !sc.isGenerator&&decide N.Nodup&&decide (N.take ps.length=ps)&&ps.all (λx=>sc.names.lookup x ==some .local||sc.names.lookup x ==some .cell)&&sc.names.all (λy=>y.2 != .free)
def Ha(h:Rq N ps sc=true):DA N ps sc:=by
 unfold Rq at h;simp only[Bool.and_eq_true,beq_iff_eq,decide_eq_true_eq,Bool.not_eq_true',List.all_eq_true,Bool.or_eq_true,bne_iff_ne]at h;obtain⟨⟨⟨⟨⟨⟨a,b⟩,c⟩,d⟩,e⟩,f⟩,g⟩:=h;exact⟨by cases hk:sc.kind<;>rw[hk]at a<;>first|rfl|(exact absurd a (by decide)),b,c,d,e,f,g⟩
def Tl(K:Frag)(ps:List Str)(fd:FuncData):Bool:=fd.globals ==mainGlobals&&fd.closure.isEmpty&&fd.builtins ==builtinsNs&&codeIn K fd.code fd.qualname&&Ih fd.params ps&&MJ K fd.defaults&&decide ps.Nodup
noncomputable def cu(K:Frag)(G:Gt)(d:Av)(f:Addr):Bool:=match K.lookup f with
 |some ⟨_,_,.func fd,_⟩=>(match fd.body with
  |.stmts body=>Tl K d.ps fd&&Rq d.N d.ps fd.scope&&Ic G d.body ⟨d.N,fd.scope,true,true,d.lp⟩ body
  |_=>false)
 |_=>false
def Hl{K:Fq}{ps:List Str}{fd:FuncData}{body:List Stmt}(h:Tl K ps fd=true)(hb:fd.body=.stmts body):fd=fnOf fd.name fd.qualname fd.params body fd.scope fd.defaults fd.kwdefaults fd.doc fd.pyModule fd.annotations fd.code fd.closureTuple/\codeIn K fd.code fd.qualname=true/\CB K fd ps []:=by
 unfold Tl at h;simp only[Bool.and_eq_true,beq_iff_eq,decide_eq_true_eq]at h;obtain⟨⟨⟨⟨⟨⟨a,b⟩,c⟩,d⟩,e⟩,f⟩,g⟩:=h;refine⟨?_,d,Q5 e g f⟩;have b':fd.closure=[]:=by simpa using b
 clear b d e f;cases fd;simp only at a b' c hb;subst a b' c hb;rfl
def OM{K:Fq}{G:Gt}{d:Av}{f:Addr}(h:cu K G d f=true):wN K d G f (Fm K f):=by
 unfold cu at h;split at h
 ·rename_i oc od fd osl hk;split at h
  ·rename_i body hb;obtain⟨h,h3⟩:=Ah h;obtain⟨h1,h2⟩:=Ah h;obtain⟨e,c,bd⟩:=Hl h1 hb;have ef:Fm K f=fd:=by unfold Fm;rw[hk]
   rw[ef];exact⟨⟨_,_,_,_,_,_,_,_,_,_,_,_,oc,od,osl,e,hk,c,Ha h2,h3⟩,bd,by unfold keepIn;simp only[hk]⟩
  exact absurd h a9
 exact absurd h a9
noncomputable def Wm(K:Frag)(g:Str):Bool:=nsIn K mainGlobals g ==some (some (.ref (B7 K g)))&&PySem.W.readsIn K (B7 K g) (.type "type")&&(match PySem.W.findCls K (.ref (B7 K g)) (.type "type") "__init__" with
 |some (.val (.builtin z))=>z== "ValueError.__init__"
 |_=>false)&&specialIn K (.ref (B7 K g)) "__getattribute__" ==some (some (.builtin "type.__getattribute__"))
def Wl{K:Fq}{g:Str}{h:Heap}(X:K.In h)(N:h.Ns mainGlobals mg)(hh:Wm K g=true):Yb K mg g (B7 K g):=by
 unfold Wm at hh;obtain⟨hh,h4⟩:=Ah hh;obtain⟨hh,h3⟩:=Ah hh;obtain⟨h1,h2⟩:=Ah hh;refine⟨mg_of X N (aI.mp h1),h2,?_,aI.mp h4⟩;split at h3
 ·rename_i z hz;obtain rfl:=aI.mp h3;exact hz
 exact absurd h3 a9
def jh:Const->Bool
 |.str _=>true
 |_=>false
def UC(h:jh c=true):∃z,c=.str z:=by cases c<;>first|(exact absurd h a9)|exact⟨_,rfl⟩
noncomputable def rP(K:Frag)(sc:Scope):Stmt->Bool:=Tn (Q4 λo i l b=>MZ (λg _=>i== "__init__" &&Wm K g&&sc.names.lookup g ==some .globalImplicit&& !odd g&&b) o&&GV (λa r=>MZ (λx _=>x== "self") a&&FE (W0 jh) r) l)
def rQ(n:Str):Stmt->Bool:=Mi λt v _=>Q7 (λx y _=>MZ (λz _=>z== "self") x&&y ==n) t&&MZ (λz _=>z ==n) v
noncomputable def kL(K:Frag)(n:Str)(sc:Scope)(body:List Stmt):Bool:=GV (λs r=>rP K sc s&&FE (rQ n) r) body&& !odd n&&(sc.names.lookup n ==some .local||sc.names.lookup n ==some .cell)&&(sc.names.lookup ("self" :Str) ==some .local||sc.names.lookup ("self" :Str) ==some .cell)
def Sa{α:Type}{f:α->Bool}{l:List α}(h:FE f l=true):∃x,l=[x]/\f x=true:=by
 rcases l with _|⟨x,_|⟨y,r⟩⟩
 ·cases h
 ·exact⟨x,rfl,h⟩
 cases h
def bt{K:Fq}{sc:Scope}{s:Stmt}(h:rP K sc s=true):E9 λg p1 p2 p3 z k4 p4 p5 p6=>A5 (s=.Expr (.Call (.Attribute (.Name g p1) "__init__" p2) [.Name "self" p3,.Constant (.str z) k4 p4] [] p5) p6) (Wm K g=true) (sc.names.lookup g=some .globalImplicit) ((!odd g)=true) ((p2.endLine ==p5.line)=true):=by
 unfold rP at h;refine Hm h λv p h=>?_;refine EJ h λo i q l p' h=>?_;obtain⟨h1,h2⟩:=Ah h
 revert h2
 refine Bv h1 λg p1 h h2=>?_;refine WJ h λa b c d e=>?_;obtain rfl:=aI.mp a;refine AJ h2 λx r h=>?_;obtain⟨h3,h4⟩:=Ah h;obtain⟨w,rfl,h4⟩:=Sa h4
 revert h4
 refine Bv h3 λy p3 h h4=>?_;obtain rfl:=aI.mp h;refine KF h4 λk k4 p4 h=>?_;obtain⟨z,rfl⟩:=UC h;exact⟨g,p1,q,p3,z,k4,p4,p',p,rfl,b,aI.mp c,d,e⟩
def bu{n:Str}(h:rQ n s=true):∃p1 p2 p3 p4,s=.Assign [.Attribute (.Name "self" p1) n p2] (.Name n p3) p4:=by
 unfold rQ at h;refine CI h λt v p h=>?_;obtain⟨h1,h2⟩:=Ah h
 revert h2
 refine FU h1 λx y q h h2=>?_;obtain⟨h3,h4⟩:=Ah h;obtain rfl:=aI.mp h4
 revert h2
 refine Bv h3 λu p1 h h2=>?_;obtain rfl:=aI.mp h;refine Bv h2 λu p3 h=>?_;obtain rfl:=aI.mp h;exact⟨p1,q,p3,p,rfl⟩
noncomputable def KU(K:Frag)(C:Addr)(n:Str):Bool:=findIn K (.ref C) "__init__" ==some (some (.ref (HF K C "__init__")))&&isFn K (.ref (HF K C "__init__"))&&(match K.lookup (HF K C "__init__") with
 |some ⟨_,_,.func fd,_⟩=>(match fd.body with
  |.stmts body=>Tl K ["self",n] fd&&Rq ["self",n] ["self",n] fd.scope&&kL K n fd.scope body
  |_=>false)
 |_=>false)
def Yn{K:Fq}{n x:Str}{h:Heap}(X:K.In h)(N:h.Ns mainGlobals mg)(df:fu K mg x n C)(hh:KU K C n=true):me P w K mg base x 1 n C:=by
 unfold KU at hh;obtain⟨hh,h3⟩:=Ah hh;obtain⟨h1,h2⟩:=Ah hh;split at h3
 ·rename_i oc od fd osl hk;split at h3
  ·rename_i body hb;obtain⟨h3,h6⟩:=Ah h3;obtain⟨h4,h5⟩:=Ah h3;have bd:=(Hl h4 hb).2.2;refine⟨df,HF K C "__init__",fd,aI.mp h1,h2,?_,bd⟩;unfold kL at h6;refine GW h6 λh6 on ln ls=>?_
   revert hb
   refine AJ h6 λs1 r h hb=>?_;obtain⟨h7,h8⟩:=Ah h;obtain⟨s2,rfl,h8⟩:=Sa h8;obtain⟨g,p1,p2,p3,z,k4,p4,p5,p6,rfl,gb,lg,og,hl⟩:=bt h7;obtain⟨p7,p8,p9,p10,rfl⟩:=bu h8;have ln:fd.scope.names.lookup n=some .local\/fd.scope.names.lookup n=some .cell:=by simpa using ln
   have ls:fd.scope.names.lookup ("self" :Str)=some .local\/fd.scope.names.lookup ("self" :Str)=some .cell:=by simpa using ls
   have B:=Wl X N gb;have og:=Gj og;have on:=Gj on;obtain⟨e,c,bd⟩:=Hl h4 hb;rw[e]at hk ⊢;refine Ti (CX:=WU) (k:=0) hk c (Ha h5) (λvs H Q E hs=>?_) λA outer s H vs Q E hr hs=>?_
   ·obtain⟨e,v,rfl,_⟩:=hs;rfl
   obtain⟨e',v,rfl,he,q⟩:=hs;have vn:∀{y:Str},(fd.scope.names.lookup y=some .local\/fd.scope.names.lookup y=some .cell)->QI fd.scope y:=λz=>z.elim .inl λz=>.inr (.inl z);refine⟨_,Df.nox (HA (JT (RW (es:=[.Constant (.str z) k4 p4]) B lg (FD (pv 0 rfl (vn ls)) (FD RL MW)) og.1 rfl rfl (Gp rfl rfl hl))) (UW (UX (pv 0 rfl (vn ls)) (pv 1 rfl (vn ln) on.1 on.2.1)))),?_⟩;refine⟨_,rfl,e',C,none,_,rfl,he,df.ok.mkk,?_⟩;exact⟨_,rfl,_,rfl,e',C,rfl,he,df.ok,λdx n1 n2=>q dx n1 n2⟩
  exact absurd h3 a9
 exact absurd h3 a9
def vM:List Kd:=[.non,.bl,.int,.str,.lst,.tup,.dct]
def VQ(k:Kd):k∈vM:=by cases k<;>decide
noncomputable def FA(K:Frag)(C:Addr):Bool:=plainGet K C Str.empty&&hasDictIn K C&&PySem.W.plainOver K C&&findIn K (.ref C) "__setattr__" ==some (some (.builtin "object.__setattr__"))
 && findIn K (.ref C) "__class__" ==some (some (.builtin "object.__class__"))&&specialIn K (.builtin "object.__class__") "__get__" ==some (some (.builtin "getset_descriptor.__get__"))&&takesIn K (.builtin "object.__class__") ==some true&&mroIn K C (.type "object") ==some true
noncomputable def Kk(K:Frag)(T:Tb)(C:Addr):Option Nat->Bool
 |some f=>decide (f<T.ds.length)&&makesIn K C&&findIn K (.ref C) "__init__" ==some (some (.ref (C5 K T f)))&&isFn K (.ref (C5 K T f))&&keepIn K (.ref C)
 |none=>makesIn K C&&findIn K (.ref C) "__init__" ==some (some (.builtin "object.__init__"))&&keepIn K (.ref C)
def ZP(K:Frag)(T:Tb)(C:Addr)(m f:Nat):Bool:=decide (f<T.ds.length)&&findIn K (.ref C) (Fi T.names m) ==some (some (.ref (C5 K T f)))&&isFn K (.ref (C5 K T f))
noncomputable def C6(K:Frag)(T:Tb)(c:Nat)(i:Ci):Bool:=
 nsIn K mainGlobals i.nm ==some (some (.ref (AZ K T.cs c)))
 && El (λd _=>kitOne K (.ref (AZ K T.cs c)) (.ref (AZ K T.cs d)) ==some (decide (d∈i.isa))) 0 T.cs
 && vM.all (λk=>kitOne K (.type k.nm) (.ref (AZ K T.cs c)) ==some false&&kitOne K (.ref (AZ K T.cs c)) (.type k.nm) ==some false)
 && (match i.exc with
  |true=>keepIn K (.ref (AZ K T.cs c))&&(i.flds.all λf=>iq K (AZ K T.cs c) (Fi T.names f)&&KU K (AZ K T.cs c) (Fi T.names f))&&(typeIn K (.ref (AZ K T.cs c)) ==some (.type "type")&&(clsIn K (AZ K T.cs c)).isSome&&mroIn K (AZ K T.cs c) (.type "BaseException") ==some true)&&El (λd j=>!j.exc||mroIn K (AZ K T.cs c) (.ref (AZ K T.cs d)) ==some (decide (d∈i.isa))) 0 T.cs
  |false=>FA K (AZ K T.cs c)&&(i.flds.all λf=>findIn K (.ref (AZ K T.cs c)) (Fi T.names f) ==some none)&&Kk K T (AZ K T.cs c) i.init&&i.mts.all λp=>ZP K T (AZ K T.cs c) p.1 p.2)
noncomputable def cm(K:Frag)(p:Str×MV):Bool:=match p.2,nsIn K mainGlobals p.1 with
 |.int i,some (some (.int j _))=>i ==j
 |.str i,some (some (.str j _))=>i ==j
 |_,_=>false
noncomputable def dw(K:Frag)(c P:Addr):Bool:=match K.lookup c with
 |some o=>(match o.cls with
  |.type t=>t== "code"
  |_=>false)&&(match o.data with
  |.fields vs=>(match vs[11]? with
   |some (Value.ref P')=>P' ==P
   |_=>false)&&(match vs.getD 11 .none with
   |.ref P'=>P' ==P
   |_=>false)&&(match vs.getD 18 .none with
   |.str _ _=>true
   |_=>false)&&(match vs.getD 7 .none with
   |.int _ _=>true
   |_=>false)&&(match vs.getD 9 .none with
   |.bool _=>true
   |_=>false)&&(match vs.getD 10 .none with
   |.int _ _=>true
   |_=>false)
  |_=>false)&&c !=P
 |none=>false
def Pe{K:Fq}(X:K.In h)(hh:dw K c P=true):CodeHd h c P/\isCodeTable h P:=by
 unfold dw at hh;split at hh
 ·rename_i o ho;obtain⟨hh,h3⟩:=Ah hh;obtain⟨h1,h2⟩:=Ah hh;split at h1
  ·rename_i t ht;obtain rfl:=aI.mp h1;split at h2
   ·rename_i vs hvs;obtain⟨h2,k6⟩:=Ah h2;obtain⟨h2,k5⟩:=Ah h2;obtain⟨h2,k4⟩:=Ah h2;obtain⟨h2,k3⟩:=Ah h2;obtain⟨k1,k2⟩:=Ah h2;split at k1<;>first|(exact absurd k1 a9)|skip
    rename_i P1 e1;obtain rfl:=aI.mp k1;split at k2<;>first|(exact absurd k2 a9)|skip
    rename_i P2 e2;obtain rfl:=aI.mp k2;split at k3<;>first|(exact absurd k3 a9)|skip
    rename_i e3;split at k4<;>first|(exact absurd k4 a9)|skip
    rename_i e4;split at k5<;>first|(exact absurd k5 a9)|skip
    rename_i e5;split at k6<;>first|(exact absurd k6 a9)|skip
    rename_i e6;exact⟨⟨o,vs,_,_,_,_,_,_,_,X _ _ ho,ht,hvs,e1,e2,e3,e4,e5,e6,bne_iff_ne.mp h3⟩,c,o,vs,X _ _ ho,ht,hvs,e1⟩
   exact absurd h2 a9
  exact absurd h1 a9
 exact absurd hh a9
def lL(hbm:NR base mg)(N:base.Ns mainGlobals mg)(hn:base.get? P=none):base.BuiltinsAt mg P:=by
 obtain⟨bm,o,b1,b2,b3,b4,b5,b6⟩:=hbm;refine⟨bm,o,b1,b2,λz=>?_,(λz=>by rw[z,hn]at b3;cases b3),b3,b4,b5,b6⟩;obtain⟨o',es,ep,e,hd,_⟩:=N;rw[z,e]at b3;cases b3;rw[hd]at b6;cases b6
def EZ(K:Frag)(f:Addr):Bool:=match (Fm K f).code with
 |.ref c=>dw K c (IQ K f)&&mainGlobals !=IQ K f
 |_=>false
def QV(K:Frag)(T:Tb):Bool:=El (λf d=>d.lp.isEmpty||EZ K (C5 K T f)) 0 T.ds&&decide ((Fz K T 0 T.ds).map (·.1)).Nodup
theorem Jf{α β:Type}{g:α->β}:∀{l:List α},(l.map g).Nodup->∀{a b:α},a∈l->b∈l->g a=g b->a=b
 |[],_,a,b,h,_,_=>by simp at h
 |x::l,nd,a,b,ha,hb,e=>by
  rw[aX]at nd;obtain⟨n1,n2⟩:=bH.mp nd;rcases aH.mp ha with h1|h1
  ·rcases aH.mp hb with h2|h2
   ·rw[h1,h2]
   exact absurd (eZ (f:=g) h2) (by rw[←e,h1];exact n1)
  rcases aH.mp hb with h2|h2
  ·exact absurd (eZ (f:=g) h1) (by rw[e,h2];exact n1)
  exact Jf n2 h1 h2 e
def RJ(K:Frag)(T:Tb):Bool:=
 T.blt.all (λx=>nsIn K mainGlobals x ==some none)&&T.glo.all (cm K)&&El (λf d=>cu K T.gt d (C5 K T f)) 0 T.ds
 && decide (T.fns.length<=T.ds.length)&&T.fns.all (λx=>nsIn K mainGlobals x ==some (some (.ref (B7 K x))))&&El (C6 K T) 0 T.cs&&QV K T
theorem BL{α β:Type}[BEq α][LawfulBEq α]:∀{l:List (α×β)}{a:α}{b:β},l.lookup a=some b->(a,b)∈l
 |[],a,b,h=>by simp at h
 |(x,y)::l,a,b,h=>by
  rw[bY]at h;split at h
  ·rename_i e;obtain rfl:=aI.mp e;cases h;exact aF
  exact aD _ (BL h)
section
variable {K:Fq}{T:Tb}{P:Program}{w:World}{mg:Mq}{base h:Heap}
def Tq{f:Nat}(h:f<T.ds.length):f<T.ds.length/\∃d,T.all[f]?=some d:=⟨h,_,by rw[Tb.all_lt h];exact aZ h⟩
def T9{c:Nat}(hh:C6 K T c i=true):nsIn K mainGlobals i.nm=some (some (.ref (AZ K T.cs c))):=by
 unfold C6 at hh;exact aI.mp (Ah (Ah (Ah hh).1).1).1
def TB{c d:Nat}(hh:C6 K T c i=true)(hd:T.cs[d]?=some j):kitOne K (.ref (AZ K T.cs c)) (.ref (AZ K T.cs d))=some (decide (d∈i.isa)):=by
 unfold C6 at hh;have:=C9 (Ah (Ah (Ah hh).1).1).2 hd;rw[dI]at this;exact aI.mp this
def LZ{c:Nat}(hh:C6 K T c i=true)(k:Kd):kitOne K (.type k.nm) (.ref (AZ K T.cs c))=some false/\kitOne K (.ref (AZ K T.cs c)) (.type k.nm)=some false:=by
 unfold C6 at hh;have:=Ah (bD.mp (Ah (Ah hh).1).2 k (VQ k));exact⟨aI.mp this.1,aI.mp this.2⟩
def Ib{c:Nat}(hh:C6 K T c i=true)(he:i.exc=true):(keepIn K (.ref (AZ K T.cs c))&&(i.flds.all λf=>iq K (AZ K T.cs c) (Fi T.names f)&&KU K (AZ K T.cs c) (Fi T.names f))&&(typeIn K (.ref (AZ K T.cs c)) ==some (.type "type")&&(clsIn K (AZ K T.cs c)).isSome&&mroIn K (AZ K T.cs c) (.type "BaseException") ==some true)&&El (λd j=>!j.exc||mroIn K (AZ K T.cs c) (.ref (AZ K T.cs d)) ==some (decide (d∈i.isa))) 0 T.cs)=true:=by
 unfold C6 at hh;have:=(Ah hh).2;rw[he]at this;exact this
def Pa{c:Nat}(hh:C6 K T c i=true)(he:i.exc=true):keepIn K (.ref (AZ K T.cs c))=true/\∀f∈i.flds,iq K (AZ K T.cs c) (Fi T.names f)=true/\KU K (AZ K T.cs c) (Fi T.names f)=true:=
 GW (Ib hh he) λh1 h2 _ _=>⟨h1,λf hf=>Ah (bD.mp h2 f hf)⟩
def W4{c:Nat}(hh:C6 K T c i=true)(he:i.exc=true):typeIn K (.ref (AZ K T.cs c))=some (.type "type")/\(clsIn K (AZ K T.cs c)).isSome=true/\mroIn K (AZ K T.cs c) (.type "BaseException")=some true:=
 GW (Ib hh he) λ_ _ h _=>AU h λh1 h2 h3=>⟨aI.mp h1,h2,aI.mp h3⟩
def W5{c d:Nat}(hh:C6 K T c i=true)(he:i.exc=true)(hd:T.cs[d]?=some j)(hj:j.exc=true):mroIn K (AZ K T.cs c) (.ref (AZ K T.cs d))=some (decide (d∈i.isa)):=
 GW (Ib hh he) λ_ _ _ h=>by
  have:=C9 h hd;rw[dI,hj]at this;exact aI.mp this
def EI{c:Nat}(hh:C6 K T c i=true)(he:i.exc=false):FA K (AZ K T.cs c)=true/\(∀f∈i.flds,findIn K (.ref (AZ K T.cs c)) (Fi T.names f)=some none)/\Kk K T (AZ K T.cs c) i.init=true/\∀p∈i.mts,ZP K T (AZ K T.cs c) p.1 p.2=true:=by
 unfold C6 at hh;have:=(Ah hh).2;rw[he]at this;obtain⟨h1,h4⟩:=Ah this;obtain⟨h1,h3⟩:=Ah h1;obtain⟨h1,h2⟩:=Ah h1;exact⟨h1,λf hf=>aI.mp (bD.mp h2 f hf),h3,λp hp=>bD.mp h4 p hp⟩
def Lp(hh:FA K C=true):Ug K C/\findIn K (.ref C) "__class__"=some (some (.builtin "object.__class__"))/\specialIn K (.builtin "object.__class__") "__get__"=some (some (.builtin "getset_descriptor.__get__"))/\takesIn K (.builtin "object.__class__")=some true/\mroIn K C (.type "object")=some true:=by
 unfold FA at hh;simp only[Bool.and_eq_true,beq_iff_eq]at hh;obtain⟨⟨⟨⟨⟨⟨⟨a,b⟩,c⟩,d⟩,e⟩,f⟩,g⟩,i⟩:=hh;exact⟨⟨a,b,c,d⟩,e,f,g,i⟩
def jO(X:K.In h)(N:h.Ns mainGlobals mg)(Xb:K.In base)(Nb:base.Ns mainGlobals mg)(hbm:(Fz K T 0 T.ds).isEmpty=true\/(NR base mg/\∀t∈Fz K T 0 T.ds,base.get? t.1=none))(hn:Dq T.names=true)(hh:RJ K T=true):Pg T.gt (rg K T hn) T.all T.ds.length P w mg base (C5 K T) (λf=>Fm K (C5 K T f)):=by
 unfold RJ at hh;obtain⟨hh,h8⟩:=Ah hh;obtain⟨hh,h6⟩:=Ah hh;obtain⟨hh,h5⟩:=Ah hh;obtain⟨hh,h4⟩:=Ah hh;obtain⟨hh,h3⟩:=Ah hh;obtain⟨h1,h2⟩:=Ah hh;have ck:∀c i,T.cs[c]?=some i->C6 K T c i=true:=λc i hc=>by have:=C9 h6 hc;rwa[dI]at this
 have cl:∀c i,T.cs[c]?=some i->mg i.nm=some (.ref (AZ K T.cs c)):=λc i hc=>mg_of X N (T9 (ck c i hc));exact {
  nm:=rfl
  kt:={
   kc:=λc i hc he=>Lp (EI (ck c i hc) he).1
   kn:=λc i n hc hf he=>(EI (ck c i hc) he).2.1 n hf
   kx:=λc i n hc hf he=>QQ ((Pa (ck c i hc) he).2 n hf).1
   km:=λc d i j hc hd he hj=>W5 (ck c i hc) he hd hj
   kz:=λd j hd he=>W4 (ck d j hd) he
   ki:=λc d i j hc hd=>TB (ck c i hc) hd
   k1:=λd j k hd=>(LZ (ck d j hd) k).1
   k2:=λd j k hd=>(LZ (ck d j hd) k).2}
  nb:=λx hx=>PySem.W.mg_none_of X N (aI.mp (bD.mp h1 x hx))
  dd:=λf d hf hd=>by
   have:=C9 h3 (by rw[Tb.all_lt hf]at hd;exact hd);rw[dI]at this;exact OM this
  fns:=λf x hx=>by
   have hx:T.fns[f]?=some x:=hx;refine⟨Tq (aO (aE.mp hx).1 (aY h4)),mg_of X N ?_⟩;have e:C5 K T f=B7 K x:=by unfold C5;simp only[hx]
   rw[e];exact aI.mp (bD.mp h5 x (aP hx))
  cl:=cl
  mkk:=λc i f hc he hi=>by
   have hc:T.cs[c]?=some i:=hc;have hi:(T.cs[c]?).bind Ci.init=some f:=hi;rw[hc]at hi;have hi:i.init=some f:=hi;have:=(EI (ck c i hc) he).2.2.1;rw[hi]at this;simp only[Kk,Bool.and_eq_true,beq_iff_eq,decide_eq_true_eq]at this;obtain⟨⟨⟨⟨a,b⟩,c'⟩,d⟩,e⟩:=this;exact⟨Tq a,⟨b,c',d,e⟩⟩
  n0:=λc i hc he hi=>by
   have hc:T.cs[c]?=some i:=hc;have hi:(T.cs[c]?).bind Ci.init=none:=hi;rw[hc]at hi;have hi:i.init=none:=hi;have:=(EI (ck c i hc) he).2.2.1;rw[hi]at this;simp only[Kk,Bool.and_eq_true,beq_iff_eq]at this;obtain⟨⟨b,c'⟩,e⟩:=this;exact⟨cl c i hc,b,c',e⟩
  mt:=λm c i f hc he hm=>by
   have:=(EI (ck c i hc) he).2.2.2 _ (BL hm);simp only[ZP,Bool.and_eq_true,beq_iff_eq,decide_eq_true_eq]at this;obtain⟨⟨a,b⟩,c'⟩:=this;obtain⟨a',d,hd⟩:=Tq a;have q:=C9 h3 (by rw[Tb.all_lt a']at hd;exact hd);rw[dI]at q;exact⟨⟨a',d,hd⟩,(Lp (EI (ck c i hc) he).1).1,⟨b,c',(OM q).kp⟩⟩
  lt:=λf d hd hl=>by
   obtain⟨d',h1,h2⟩:=CQ (show(T.ds[f]?).any (λd=>Ds d.body)=true from hl);have hlt:=(aE.mp h1).1;rw[Tb.all_lt hlt,h1]at hd;cases hd;exact h2
  xs:=λc f i hc he hf=>by
   obtain⟨k1,k2⟩:=Pa (ck c i hc) he;obtain⟨k2,k3⟩:=k2 f hf;exact Yn X N ⟨cl c i hc,QQ k2,k1⟩ k3
  gI:=λx j hx=>by
   have:=bD.mp h2 _ (BL (show T.glo.lookup x=some (.int j) from hx));unfold cm at this;split at this
   ·rename_i a b t e1 e2;cases e1;obtain rfl:=aI.mp this;exact⟨_,mg_of X N e2⟩
   ·rename_i e1 e2;cases e1
   exact absurd this a9
  gS:=λx j hx=>by
   have:=bD.mp h2 _ (BL (show T.glo.lookup x=some (.str j) from hx));unfold cm at this;split at this
   ·rename_i e1 e2;cases e1
   ·rename_i a b t e1 e2;cases e1;obtain rfl:=aI.mp this;exact⟨_,mg_of X N e2⟩
   exact absurd this a9
  lamM:=λk l e1 e2 a b c F f c' oc pm ctv cl C vs kk lh=>⟨l,e1,e2,a,b,c,f,c',oc,pm,ctv,cl,C,rfl,kk,lh⟩
  lamR:=λF k vs v z=>z
  lck:=λk b sc hk=>by
   cases hl:T.lam k with
   |none=>have hk:(match T.lam k with|some (xs,ps,m)=>Cj T.gt0 m ⟨xs++ps,sc,false,false,[]⟩ b|none=>false)=true:=hk;rw[hl]at hk;exact absurd hk a9
   |some l=>
    have hk:(match T.lam k with|some (xs,ps,m)=>Cj T.gt0 m ⟨xs++ps,sc,false,false,[]⟩ b|none=>false)=true:=hk;rw[hl]at hk;have e:T.gt.lam k=(l.1,l.2.1):=by show((T.lam k).map λl=>(l.1,l.2.1)).getD ([],[])=_;rw[hl];rfl
    rw[e];exact⟨l.2.2,_,Tb.lam_all hl,rfl,rfl,rfl,hk⟩
  tab:=λf d p hf hd hp=>by
   obtain⟨t1,t2⟩:=Ah h8;rw[Tb.all_lt hf]at hd;have q:=C9 t1 hd;rw[dI]at q;have q:EZ K (C5 K T f)=true:=by
    rcases dO _ _ |>.mp q with z|z
    ·rw[i6.mp z]at hp;simp at hp
    exact z
   unfold EZ at q;split at q
   ·rename_i c hc;obtain⟨q1,q3⟩:=Ah q;have hm:=KY (K:=K) (T:=T) (n:=0) hd hp;rw[dI]at hm;refine⟨c,IQ K (C5 K T f),hc,(Pe Xb q1).1,?_,bne_iff_ne.mp q3,hm,λt ht e=>Jf (aY t2) ht hm e⟩;rcases hbm with z|⟨z1,z2⟩
    ·rw[i6.mp z]at hm;simp at hm
    exact lL z1 Nb (z2 _ hm)
   exact absurd q a9}
theorem Lk:∀{l:List Int},Ad W F (l.map .int) (l.map V.int)
 |[]=>.nil
 |i::l=>.cons (by unfold Ak;rfl) Lk
def Sv(fd:FuncData)(x:Str):Bool:=Ih fd.params [x]&&(match fd.defaults with
 |.none=>true
 |_=>false)
def Su{x:Str}(hh:Sv fd x=true)(s:Shared)(v:Value):BindsTo s fd ⟨[v],[]⟩ [(x,v)]:=by
 obtain⟨ha,hd⟩:=Ah hh;have e:bindArgs fd ⟨[v],[]⟩=(seqItems? fd.defaults >>=λ_=>pure ([x].zip [v])):=by
  unfold Ih at ha;split at ha
  ·rename_i as kd ds hp;exact Ig hp (aY ha) (by simp) rfl
  exact absurd ha a9
 split at hd
 ·rename_i hv;rw[hv]at e;exact BindsTo.of_eq (e.trans rfl)
 exact absurd hd a9
def MB(K:Frag)(TS:List (Addr×Array Value)):Sp:=λvs H Q _=>E2 λ(a:Addr) (ns:List Int)=>A5 (vs=[.ref a]) (D8 K H a (ns.map V.int)) (ns.length<=63) (∀b ps,TS.lookup b=some ps->H b=some (.tbl ps)) (∀H',Q (.bl true) H')
end
inductive Fx{α:Type}(a:α):Type where|mk
def Aw.bK{α β:Type}(k:α->MH->Aw β)(u:Fx k:=.mk)(x:Aw α):Aw β:=x.bind k
def BI{α:Type}(μ:En)(kk:α->MH->SR)(u:Fx kk:=.mk)(x:Aw α):SR:=Kg μ x kk
def DX{α:Type}(h:MH)(x:Option α):Aw α:=Aw.of x h
section
variable {α β:Type}
def Bl:(Aw.ok a h).bind k=k a h:=rfl
@[simp]def wC:(Aw.ok a h).bK k=k a h:=rfl
@[simp]def wB:(Aw.exc m h:Aw α).bK k=.exc m h:=rfl
@[simp]def vk:DX h (some a)=.ok a h:=rfl
@[simp]def nJ:BI μ (x:=.ok a h) kk=kk a h:=rfl
@[simp]def nI:BI μ (x:=(.exc m h:Aw α)) kk=some (.xc m μ,h):=rfl
@[simp]def DY:(Aw.ok a h).nox=.ok a h:=rfl
def GJ(h:MH)(n:Nat):Option MO:=h[n]?
def AY(h:MH)(n:Nat)(o:MO):MH:=h.set n o
def hnew(h:MH)(o:MO):MH:=h++ [o]
def Gm(h:MH)(n:Nat):MH:=h.take n
def hlen(h:MH):Nat:=h.length
section
variable {n k:Nat}
def SN(e:GJ h n=some o):n<hlen h:=(aE.mp e).1
@[simp]def HS:hlen (AY h n o)=hlen h:=by simp[hlen,AY]
@[simp]def BZ:hlen (hnew h o)=hlen h+1:=by simp[hlen,hnew]
@[simp]def Wf(e:n<hlen h):GJ (AY h n o) n=some o:=by simp only[GJ,AY,hlen]at *; simp[e]
@[simp]def cb(e:n≠k):GJ (AY h n o) k=GJ h k:=by simp only[GJ,AY];exact bI e
@[simp]def SI:AY (AY h n o) n q=AY h n q:=by simp[AY]
@[simp]def Cr:GJ (hnew h o) (hlen h)=some o:=by simp[GJ,hnew,hlen]
@[simp]def Hk(e:n<hlen h):GJ (hnew h o) n=GJ h n:=by simp only[GJ,hnew,hlen]at *; exact aS e
@[simp]def HU:Gm h (hlen h)=h:=cR
@[simp]def LK(e:n<=hlen h):Gm (hnew h o) n=Gm h n:=by simp only[Gm,hnew,hlen]at *; exact List.take_append_of_le_length e
@[simp]def kO(e:n<k):Gm (AY h n o) k=AY (Gm h k) n o:=by simp only[Gm,AY];exact List.take_set
@[simp]def FM(e:n<hlen h):AY (hnew h q) n o=hnew (AY h n o) q:=by
  simp only[AY,hnew,hlen]at *;rw[List.set_append,if_pos e]
@[simp]def BM:AY (hnew h q) (hlen h) o=hnew h o:=by simp[AY,hnew,hlen]
end
def seqK(b:Sf)(u:Fx b:=.mk)(x:SR):SR:=match x with
 |some (.nx μ',h')=>b μ' h'
 |x=>x
@[simp]def nD:seqK (x:=some (.nx μ,h)) b=b μ h:=rfl
@[simp]def nC:seqK (x:=some (.rt r,h)) b=some (.rt r,h):=rfl
@[simp]def nB:seqK (x:=some (.xc m μ,h)) b=some (.xc m μ,h):=rfl
@[simp]def nW:As h (.v m)=some m:=rfl
@[simp]def nX{n:Nat}:As h (.r n)=(GJ h n).bind MO.view:=rfl
@[simp]def pF:(MO.lst l).view=some (.lst l):=rfl
@[simp]def vX:(MO.lst l).frz=.lst l:=rfl
@[simp]def vY{c:Nat}:(MO.ins c ns vs).frz=.obj c ns vs:=rfl
def kR(h:MH)(x:Option (Option R)):Aw R:=match x with
 |some (some r)=>.ok r h
 |_=>.no
@[simp]def rT:kR h (some (some r))=.ok r h:=rfl
def kq(h:MH)(x:Option (Option R)):Aw R:=match x with
 |some (some (.v m))=>.ok (.v m) h
 |some (some (.r n))=>(match GJ h n with
  |some o=>.ok (.v o.frz) (AY h n (.gone o.frz))
  |none=>.no)
 |_=>.no
def kr(o:Option MO)(n:Nat)(h:MH):Aw R:=match o with
 |some o=>.ok (.v o.frz) (AY h n (.gone o.frz))
 |none=>.no
@[simp]def qZ{n:Nat}:kq h (some (some (.r n)))=kr (GJ h n) n h:=rfl
@[simp]def re{n:Nat}:kr (some o) n h=.ok (.v o.frz) (AY h n (.gone o.frz)):=rfl
@[simp]def pG:vals []=some []:=rfl
@[simp]def pH:vals (.v m::l)=(vals l).map (m:: ·):=rfl
@[simp]def lf:Ce h []=some []:=rfl
@[simp]def ll:Ce h (r::l)=(As h r).bind λm=>(Ce h l).map (m:: ·):=rfl
@[simp]def wG{k:Bool}:TX (.v (.bl k))=some k:=rfl
@[simp]def wF{i:Int}:WE (.v (.int i))=some i:=rfl
@[simp]def mX{k:Bool}:Hu (.bl k)=some k:=rfl
@[simp]def mW{k:List MV}:Hu (.lst k)=some (!k.isEmpty):=rfl
def K7{α:Type}(a b:α)(u:Fx a:=.mk)(v:Fx b:=.mk)(k:Bool):α:=if k=true then a else b
@[simp]def rH{α:Type}{a b:α}:K7 (k:=true) a b=a:=rfl
@[simp]def rJ{α:Type}{a b:α}:K7 (k:=false) a b=b:=rfl
end
section
variable {i f c:Nat}
def ZJ(μ:En)(i:Nat):Option (Option R):=μ[i]?
@[simp]def vv{a:Option R}:ZJ (a::μ) 0=some a:=rfl
@[simp]def vt{a:Option R}:ZJ (a::μ) (i+1)=ZJ μ i:=rfl
def Ma(r:R)(x:Aw (List R)):Aw (List R):=x.bind λxs h=>.ok (r::xs) h
@[simp]def wp:Ma r (.ok xs h)=.ok (r::xs) h:=rfl
@[simp]def wo:Ma r (.exc m h)=.exc m h:=rfl
@[simp high]def ue:(e2 cs Φ ini (.var 0)).1 (some r::μ) h=.ok r h:=rfl
@[simp high]def u5:BE cs Φ ini (.cons (.var 0) es) (some r::μ) h=Ma r (BE cs Φ ini es (some r::μ) h):=rfl
@[simp high]def uX:(x0::μ).set 0 y=y::μ:=rfl
@[simp high]def ud:(e2 cs Φ ini (.var 1)).1 (x0::some r::μ) h=.ok r h:=rfl
@[simp high]def uz:BE cs Φ ini (.cons (.var 1) es) (x0::some r::μ) h=Ma r (BE cs Φ ini es (x0::some r::μ) h):=rfl
@[simp high]def uW:(x0::x1::μ).set 1 y=x0::y::μ:=rfl
@[simp high]def uc:(e2 cs Φ ini (.var 2)).1 (x0::x1::some r::μ) h=.ok r h:=rfl
@[simp high]def uy:BE cs Φ ini (.cons (.var 2) es) (x0::x1::some r::μ) h=Ma r (BE cs Φ ini es (x0::x1::some r::μ) h):=rfl
@[simp high]def uV:(x0::x1::x2::μ).set 2 y=x0::x1::y::μ:=rfl
@[simp high]def ub:(e2 cs Φ ini (.var 3)).1 (x0::x1::x2::some r::μ) h=.ok r h:=rfl
@[simp high]def ux:BE cs Φ ini (.cons (.var 3) es) (x0::x1::x2::some r::μ) h=Ma r (BE cs Φ ini es (x0::x1::x2::some r::μ) h):=rfl
@[simp high]def uU:(x0::x1::x2::x3::μ).set 3 y=x0::x1::x2::y::μ:=rfl
@[simp high]def ua:(e2 cs Φ ini (.var 4)).1 (x0::x1::x2::x3::some r::μ) h=.ok r h:=rfl
@[simp high]def uw:BE cs Φ ini (.cons (.var 4) es) (x0::x1::x2::x3::some r::μ) h=Ma r (BE cs Φ ini es (x0::x1::x2::x3::some r::μ) h):=rfl
@[simp high]def uT:(x0::x1::x2::x3::x4::μ).set 4 y=x0::x1::x2::x3::y::μ:=rfl
@[simp high]def tZ:(e2 cs Φ ini (.var 5)).1 (x0::x1::x2::x3::x4::some r::μ) h=.ok r h:=rfl
@[simp high]def uv:BE cs Φ ini (.cons (.var 5) es) (x0::x1::x2::x3::x4::some r::μ) h=Ma r (BE cs Φ ini es (x0::x1::x2::x3::x4::some r::μ) h):=rfl
@[simp high]def uS:(x0::x1::x2::x3::x4::x5::μ).set 5 y=x0::x1::x2::x3::x4::y::μ:=rfl
@[simp high]def tY:(e2 cs Φ ini (.var 6)).1 (x0::x1::x2::x3::x4::x5::some r::μ) h=.ok r h:=rfl
@[simp high]def uu:BE cs Φ ini (.cons (.var 6) es) (x0::x1::x2::x3::x4::x5::some r::μ) h=Ma r (BE cs Φ ini es (x0::x1::x2::x3::x4::x5::some r::μ) h):=rfl
@[simp high]def uR:(x0::x1::x2::x3::x4::x5::x6::μ).set 6 y=x0::x1::x2::x3::x4::x5::y::μ:=rfl
@[simp high]def tX:(e2 cs Φ ini (.var 7)).1 (x0::x1::x2::x3::x4::x5::x6::some r::μ) h=.ok r h:=rfl
@[simp high]def ut:BE cs Φ ini (.cons (.var 7) es) (x0::x1::x2::x3::x4::x5::x6::some r::μ) h=Ma r (BE cs Φ ini es (x0::x1::x2::x3::x4::x5::x6::some r::μ) h):=rfl
@[simp high]def uQ:(x0::x1::x2::x3::x4::x5::x6::x7::μ).set 7 y=x0::x1::x2::x3::x4::x5::x6::y::μ:=rfl
@[simp high]def tW:(e2 cs Φ ini (.var 8)).1 (x0::x1::x2::x3::x4::x5::x6::x7::some r::μ) h=.ok r h:=rfl
@[simp high]def ur:BE cs Φ ini (.cons (.var 8) es) (x0::x1::x2::x3::x4::x5::x6::x7::some r::μ) h=Ma r (BE cs Φ ini es (x0::x1::x2::x3::x4::x5::x6::x7::some r::μ) h):=rfl
@[simp high]def uP:(x0::x1::x2::x3::x4::x5::x6::x7::x8::μ).set 8 y=x0::x1::x2::x3::x4::x5::x6::x7::y::μ:=rfl
@[simp high]def tV:(e2 cs Φ ini (.var 9)).1 (x0::x1::x2::x3::x4::x5::x6::x7::x8::some r::μ) h=.ok r h:=rfl
@[simp high]def uq:BE cs Φ ini (.cons (.var 9) es) (x0::x1::x2::x3::x4::x5::x6::x7::x8::some r::μ) h=Ma r (BE cs Φ ini es (x0::x1::x2::x3::x4::x5::x6::x7::x8::some r::μ) h):=rfl
@[simp high]def uO:(x0::x1::x2::x3::x4::x5::x6::x7::x8::x9::μ).set 9 y=x0::x1::x2::x3::x4::x5::x6::x7::x8::y::μ:=rfl
@[simp high]def oK:(e2 cs Φ ini (.var 10)).1 (x0::x1::x2::x3::x4::x5::x6::x7::x8::x9::some r::μ) h=.ok r h:=rfl
@[simp high]def pz:BE cs Φ ini (.cons (.var 10) es) (x0::x1::x2::x3::x4::x5::x6::x7::x8::x9::some r::μ) h=Ma r (BE cs Φ ini es (x0::x1::x2::x3::x4::x5::x6::x7::x8::x9::some r::μ) h):=rfl
@[simp high]def qF:(x0::x1::x2::x3::x4::x5::x6::x7::x8::x9::x10::μ).set 10 y=x0::x1::x2::x3::x4::x5::x6::x7::x8::x9::y::μ:=rfl
@[simp high]def oJ:(e2 cs Φ ini (.var 11)).1 (x0::x1::x2::x3::x4::x5::x6::x7::x8::x9::x10::some r::μ) h=.ok r h:=rfl
@[simp high]def px:BE cs Φ ini (.cons (.var 11) es) (x0::x1::x2::x3::x4::x5::x6::x7::x8::x9::x10::some r::μ) h=Ma r (BE cs Φ ini es (x0::x1::x2::x3::x4::x5::x6::x7::x8::x9::x10::some r::μ) h):=rfl
@[simp high]def qE:(x0::x1::x2::x3::x4::x5::x6::x7::x8::x9::x10::x11::μ).set 11 y=x0::x1::x2::x3::x4::x5::x6::x7::x8::x9::x10::y::μ:=rfl
@[simp high]def pq:BE cs Φ ini (.cons (.var 12) es) (x0::x1::x2::x3::x4::x5::x6::x7::x8::x9::x10::x11::some r::μ) h=Ma r (BE cs Φ ini es (x0::x1::x2::x3::x4::x5::x6::x7::x8::x9::x10::x11::some r::μ) h):=rfl
@[simp high]def qD:(x0::x1::x2::x3::x4::x5::x6::x7::x8::x9::x10::x11::x12::μ).set 12 y=x0::x1::x2::x3::x4::x5::x6::x7::x8::x9::x10::x11::y::μ:=rfl
@[simp]def oI:(e2 cs Φ ini (.var i)).1 μ h=kR h (ZJ μ i):=rfl
@[simp]def oP:(e2 cs Φ ini (.mov i)).1 μ h=kq h (ZJ μ i):=rfl
@[simp]def oW:(e2 cs Φ ini (.con m)).1 μ h=.ok (.v m) h:=rfl
@[simp]def oU{x:Str}:(e2 cs Φ ini (.glo x m)).1 μ h=.ok (.v m) h:=rfl
@[simp]def oY{x:Str}:(e2 cs Φ ini (.bty x k)).1 μ h=.ok (.v (.ty k)) h:=rfl
def ZF(h:MH)(x:Option MV):Aw R:=DX h (x.map R.v)
@[simp]def vi:ZF h (some m)=.ok (.v m) h:=rfl
def vp(h:MH)(x:Option Bool):Aw R:=DX h ((x.map .bl).map R.v)
@[simp]def vo:vp h (some k)=.ok (.v (.bl k)) h:=rfl
def iz(h:MH)(x:R):Aw Bool:=DX h ((As h x).bind Hu)
@[simp high]def uD:iz h (.v (.bl k))=.ok k h:=rfl
@[simp low]def uC:iz h x=DX h ((As h x).bind Hu):=rfl
def o5(h:MH)(x:R):Aw Bool:=DX h (TX x)
@[simp]def wE:o5 h (.v (.bl k))=.ok k h:=rfl
@[simp low]def wD:o5 h x=DX h (TX x):=rfl
def kY(cs:List Ci)(f:Nat)(h:MH)(x:R):Aw R:=DX h ((As h x).bind λa=>(Kl cs f a).map R.v)
@[simp low]def sB:kY cs f h x=DX h ((As h x).bind λa=>(Kl cs f a).map R.v):=rfl
def rG(h:MH)(x y:R):Aw R:=DX h ((As h x).bind λa=>(As h y).bind λb=>(GC a b).map R.v)
@[simp]def vP{a b:MV}:rG h (.v a) (.v b)=ZF h (GC a b):=rfl
@[simp low]def vQ:rG h x y=DX h ((As h x).bind λa=>(As h y).bind λb=>(GC a b).map R.v):=rfl
def ff(o:Uh)(h:MH)(x y:R):Aw R:=DX h ((As h x).bind λa=>(As h y).bind λb=>(BD o a b).map R.v)
@[simp]def t7{o:Uh}{a b:MV}:ff o h (.v a) (.v b)=ZF h (BD o a b):=rfl
@[simp low]def t8{o:Uh}{x y:R}:ff o h x y=DX h ((As h x).bind λa=>(As h y).bind λb=>(BD o a b).map R.v):=rfl
def iu(o:WM)(h:MH)(x:R):Aw R:=DX h ((As h x).bind λa=>(ZO o a).map R.v)
@[simp low]def pJ{o:WM}{x:R}:iu o h x=DX h ((As h x).bind λa=>(ZO o a).map R.v):=rfl
def sS(o:Iq)(h:MH)(x y:R):Aw R:=DX h ((As h x).bind λa=>(As h y).bind λb=>((B6 o a b).map .bl).map R.v)
@[simp]def wl{o:Iq}{a b:MV}:sS o h (.v a) (.v b)=vp h (B6 o a b):=rfl
@[simp low]def wm{o:Iq}{x y:R}:sS o h x y=DX h ((As h x).bind λa=>(As h y).bind λb=>((B6 o a b).map .bl).map R.v):=rfl
def qA(h:MH)(x:R)(l u:Option Int):Aw R:=DX h ((As h x).bind λa=>(Ix a l u).map R.v)
@[simp]def uL:qA h (.v m) l u=ZF h (Ix m l u):=rfl
@[simp low]def uM:qA h x l u=DX h ((As h x).bind λa=>(Ix a l u).map R.v):=rfl
def lR(cs:List Ci)(b:Bf)(h:MH)(xs:List R):Aw R:=DX h ((Ce h xs).bind λas=>(b.fn cs as).map R.v)
@[simp high]def wx:lR cs .len h [.v (.lst l)]=.ok (.v (.int l.length)) h:=rfl
@[simp]def wA{b:Bf}:lR cs b h [.v m]=ZF h (b.fn cs [m]):=rfl
@[simp]def w9{b:Bf}:lR cs b h [.v m,.v m']=ZF h (b.fn cs [m,m']):=rfl
@[simp low]def wy{b:Bf}:lR cs b h xs=DX h ((Ce h xs).bind λas=>(b.fn cs as).map R.v):=rfl
def rC(h:MH)(x:R):Aw R:=DX h ((As h x).bind λa=>(CG a).map R.v)
@[simp]def vI:rC h (.v m)=ZF h (CG m):=rfl
@[simp low]def vJ:rC h x=DX h ((As h x).bind λa=>(CG a).map R.v):=rfl
def pE(h:MH)(x:R):Aw (Option Int):=DX h ((WE x).map some)
@[simp]def u9{i:Int}:pE h (.v (.int i))=.ok (some i) h:=rfl
@[simp low]def uA:pE h x=DX h ((WE x).map some):=rfl
def M4(h:MH)(rs:List R):Aw R:=DX h ((vals rs).bind λms=>if ms.length<=1000 then some (R.v (.tup ms)) else none)
@[simp]def pQ:M4 h []=.ok (.v (.tup [])) h:=rfl
@[simp]def pP:M4 h [.v m0]=.ok (.v (.tup [m0])) h:=rfl
@[simp]def pO:M4 h [.v m0,.v m1]=.ok (.v (.tup [m0,m1])) h:=rfl
@[simp]def pN:M4 h [.v m0,.v m1,.v m2]=.ok (.v (.tup [m0,m1,m2])) h:=rfl
@[simp]def pM:M4 h [.v m0,.v m1,.v m2,.v m3]=.ok (.v (.tup [m0,m1,m2,m3])) h:=rfl
@[simp low]def pL:M4 h rs=DX h ((vals rs).bind λms=>if ms.length<=1000 then some (R.v (.tup ms)) else none):=rfl
def Ni(h:MH)(rs:List R):Aw R:=DX h ((vals rs).bind λms=>if ms.length<=1000 then some (R.v (.lst ms)) else none)
@[simp]def rA:Ni h []=.ok (.v (.lst [])) h:=rfl
@[simp]def r9:Ni h [.v m0]=.ok (.v (.lst [m0])) h:=rfl
@[simp]def r6:Ni h [.v m0,.v m1,.v m2]=.ok (.v (.lst [m0,m1,m2])) h:=rfl
@[simp]def rq:Ni h [.v m0,.v m1,.v m2,.v m3]=.ok (.v (.lst [m0,m1,m2,m3])) h:=rfl
@[simp]def rn:Ni h [.v m0,.v m1,.v m2,.v m3,.v m4,.v m5,.v m6]=.ok (.v (.lst [m0,m1,m2,m3,m4,m5,m6])) h:=rfl
@[simp low]def rk:Ni h rs=DX h ((vals rs).bind λms=>if ms.length<=1000 then some (R.v (.lst ms)) else none):=rfl
@[simp]def oN:(e2 cs Φ ini (.tup es)).1 μ h=(BE cs Φ ini es μ h).bK λrs h1=>M4 h1 rs:=rfl
@[simp]def oQ:(e2 cs Φ ini (.lst es)).1 μ h=(BE cs Φ ini es μ h).bK λrs h1=>Ni h1 rs:=rfl
def kA(h:MH)(x:Option (List MV)):Aw R:=match x with
 |some ms=>if ms.length<=1000 then .ok (.r (hlen h)) (hnew h (.lst ms)) else .no
 |none=>.no
@[simp]def rB:kA h (some ms)=if ms.length<=1000 then .ok (.r (hlen h)) (hnew h (.lst ms)) else .no:=rfl
@[simp]def mK:(e2 cs Φ ini (.lstL es)).1 μ h=(BE cs Φ ini es μ h).bK λrs h1=>kA h1 (vals rs):=rfl
@[simp]def mL:(e2 cs Φ ini (.dicL false)).1 μ h=.ok (.v (.dic false [] [])) h:=rfl
@[simp]def oV:(e2 cs Φ ini (.fld e f)).1 μ h=((e2 cs Φ ini e).1 μ h).bK λx h1=>kY cs f h1 x:=rfl
@[simp]def oS:(e2 cs Φ ini (.idx a b)).1 μ h=((e2 cs Φ ini a).1 μ h).bK λx h1=>((e2 cs Φ ini b).1 μ h1).bK λy h2=>rG h2 x y:=rfl
@[simp]def pb{o:Uh}:(e2 cs Φ ini (.bin o a b)).1 μ h=((e2 cs Φ ini a).1 μ h).bK λx h1=>((e2 cs Φ ini b).1 μ h1).bK λy h2=>ff o h2 x y:=rfl
@[simp]def oM{o:WM}:(e2 cs Φ ini (.una o a)).1 μ h=((e2 cs Φ ini a).1 μ h).bK λx h1=>iu o h1 x:=rfl
@[simp]def oX{o:Iq}:(e2 cs Φ ini (.cmp o a b)).1 μ h=((e2 cs Φ ini a).1 μ h).bK λx h1=>((e2 cs Φ ini b).1 μ h1).bK λy h2=>sS o h2 x y:=rfl
@[simp]def pi{o:Iq}:(e2 cs Φ ini (.cmp o a b)).2 μ h=((e2 cs Φ ini (.cmp o a b)).1 μ h).bK λx h1=>o5 h1 x:=rfl
@[simp]def oO{lo hi:oA}:(e2 cs Φ ini (.sli a lo hi)).1 μ h=((e2 cs Φ ini a).1 μ h).bK λx h1=>(cx cs Φ ini lo μ h1).bK λl h2=>(cx cs Φ ini hi μ h2).bK λu h3=>qA h3 x l u:=rfl
noncomputable def lD(o':Iq)(fc:Ef)(μ:En)(h2:MH)(y:R):Option Bool->Aw R
 |some true=>(fc μ h2).bind λz h3=>Aw.of ((As h3 y).bind λa=>(As h3 z).bind λb=>(B6 o' a b).map λk=>R.v (.bl k)) h3
 |some false=>.ok (.v (.bl false)) h2
 |none=>.no
@[simp]def sT:lD o' fc μ h y (some k)=K7 (k:=k) ((fc μ h).bK λz h3=>DX h3 ((As h3 y).bind λa=>(As h3 z).bind λb=>(B6 o' a b).map λk=>R.v (.bl k))) (.ok (.v (.bl false)) h):=by cases k<;>rfl
@[simp]def mM{o o':Iq}{c:ME}:(e2 cs Φ ini (.cmp2 o o' a b c)).1 μ h=((e2 cs Φ ini a).1 μ h).bK λx h1=>((e2 cs Φ ini b).1 μ h1).bK λy h2=>lD o' (e2 cs Φ ini c).1 μ h2 y ((As h2 x).bind λa=>(As h2 y).bind λb=>B6 o a b):=rfl
@[simp]def mQ{o o':Iq}{c:ME}:(e2 cs Φ ini (.cmp2 o o' a b c)).2 μ h=((e2 cs Φ ini (.cmp2 o o' a b c)).1 μ h).bK λx h1=>o5 h1 x:=rfl
@[simp]def ph:(e2 cs Φ ini (.not a)).2 μ h=((e2 cs Φ ini a).2 μ h).bK λb h1=>.ok (!b) h1:=rfl
def fm(fb:Ef)(μ:En)(h:MH):Option Bool->Aw R
 |some true=>fb μ h
 |some false=>.ok (.v (.bl false)) h
 |none=>.no
@[simp]def tB:fm fb μ h (some k)=K7 (k:=k) (fb μ h) (.ok (.v (.bl false)) h):=by cases k<;>rfl
def wI(fb:Ef)(μ:En)(h:MH)(x:R):Aw R:=fm fb μ h (TX x)
@[simp low]def wH:wI fb μ h x=fm fb μ h (TX x):=rfl
@[simp]def pe:(e2 cs Φ ini (.and es)).1 μ h=(Ql cs Φ ini es).1 μ h:=rfl
@[simp]def pk:(e2 cs Φ ini (.and es)).2 μ h=(Ql cs Φ ini es).2 μ h:=rfl
@[simp]def uh:(e2 cs Φ ini (.or es)).2 μ h=(Wt cs Φ ini es).2 μ h:=rfl
@[simp]def ug:(Ql cs Φ ini (.cons a .nil)).1 μ h=(e2 cs Φ ini a).1 μ h:=rfl
@[simp]def uo:(Ql cs Φ ini (.cons a .nil)).2 μ h=(e2 cs Φ ini a).2 μ h:=rfl
@[simp]def uf:(Ql cs Φ ini (.cons a (.cons b es))).1 μ h=((e2 cs Φ ini a).1 μ h).bK λx h1=>wI (Ql cs Φ ini (.cons b es)).1 μ h1 x:=rfl
@[simp]def um:(Ql cs Φ ini (.cons a (.cons b es))).2 μ h=((e2 cs Φ ini a).2 μ h).bK λk h1=>K7 (k:=k) ((Ql cs Φ ini (.cons b es)).2 μ h1) (.ok false h1):=rfl
@[simp]def ul:(Wt cs Φ ini (.cons a .nil)).2 μ h=(e2 cs Φ ini a).2 μ h:=rfl
@[simp]def uk:(Wt cs Φ ini (.cons a (.cons b es))).2 μ h=((e2 cs Φ ini a).2 μ h).bK λk h1=>K7 (k:=k) (.ok true h1) ((Wt cs Φ ini (.cons b es)).2 μ h1):=rfl
@[simp]def oR{c:ME}:(e2 cs Φ ini (.ife c a b)).1 μ h=((e2 cs Φ ini c).2 μ h).bK λk h1=>K7 (k:=k) ((e2 cs Φ ini a).1 μ h1) ((e2 cs Φ ini b).1 μ h1):=rfl
@[simp]def mO:(e2 cs Φ ini (.call f es)).1 μ h=(BE cs Φ ini es μ h).bK λrs h1=>Φ f rs h1:=rfl
@[simp]def Up(hi:ini c=some f):(e2 cs Φ ini (.make c es)).1 μ h=Jx Φ c f (BE cs Φ ini es) μ h:=by
  show(match ini c with|some f=>Jx Φ c f (BE cs Φ ini es)|none=>λ_ _=>Aw.no:Ef) μ h=_;rw[hi]
def X4(Φ:Fs)(fa:En->MH->Aw (List R))(μ:En)(h:MH)(x:R):Option Nat->Aw R
 |some f=>(fa μ h).bind λrs h2=>Φ f (x::rs) h2
 |none=>.no
@[simp]def nK:X4 Φ fa μ h x (some f)=(fa μ h).bK λrs h2=>Φ f (x::rs) h2:=rfl
@[simp]def mJ{m:Nat}:(e2 cs Φ ini (.meth m o es)).1 μ h=((e2 cs Φ ini o).1 μ h).bK λx h1=>X4 Φ (BE cs Φ ini es) μ h1 x ((As h1 x).bind (meth cs m)):=rfl
@[simp]def pd{b:Bf}:(e2 cs Φ ini (.bfn b es)).1 μ h=(BE cs Φ ini es μ h).bK λxs h1=>lR cs b h1 xs:=rfl
@[simp]def gv:(e2 cs Φ ini (.lenset e)).1 μ h=((e2 cs Φ ini e).1 μ h).bK λx h1=>rC h1 x:=rfl
@[simp]def oZ{b:Bm}:(e2 cs Φ ini (.bmt b o es)).1 μ h=((e2 cs Φ ini o).1 μ h).bK λx h1=>if ((As h1 x).map (lN b))=some true then(BE cs Φ ini es μ h1).bK λrs h2=>DX h2 ((As h2 x).bind λm=>(Ce h2 rs).bind λas=>(lO b m as).map R.v) else .no:=rfl
def lW(b:Mm)(n:Nat)(h:MH):Option MO->Option (List MV)->Aw R
 |some (.lst l),some as=>(match O0 b l as with
  |some l'=>.ok (.v .non) (AY h n (.lst l'))
  |none=>.no)
 |_,_=>.no
def jx(n:Nat)(h:MH):Option (List MV)->Aw R
 |some l'=>.ok (.v .non) (AY h n (.lst l'))
 |none=>.no
@[simp]def qG{n:Nat}:jx n h (some l)=.ok (.v .non) (AY h n (.lst l)):=rfl
@[simp]def t9{b:Mm}{n:Nat}{l as:List MV}:lW b n h (some (.lst l)) (some as)=jx n h (O0 b l as):=rfl
@[simp]def pA:BE cs Φ ini .nil μ h=.ok [] h:=rfl
@[simp]def pB:BE cs Φ ini (.cons (.con m) es) μ h=Ma (.v m) (BE cs Φ ini es μ h):=rfl
@[simp low]def io:BE cs Φ ini (.cons a es) μ h=((e2 cs Φ ini a).1 μ h).bK λx h1=>Ma x (BE cs Φ ini es μ h1):=rfl
@[simp]def u7:cx cs Φ ini .no μ h=.ok none h:=rfl
@[simp]def u6:cx cs Φ ini (.ye a) μ h=((e2 cs Φ ini a).1 μ h).bK λx h1=>pE h1 x:=rfl
@[simp]def vw:noL (.ok (.v m) h)=.ok (.v m) h:=rfl
def lJ(x:Option (Option R))(r:Option (List MV)):Option (List MV):=match x with
 |some (some (.v m))=>r.map (m:: ·)
 |_=>none
@[simp]def tz:lJ (some (some (.v m))) r=r.map (m:: ·):=rfl
@[simp]def tu:IK μ []=some []:=rfl
@[simp]def tx{j:Nat}:IK μ (j::js)=lJ (ZJ μ j) (IK μ js):=rfl
def XT(Φ:Fs)(f k:Nat)(rs:List R)(h:MH):Option (List MV)->Aw R
 |some ms=>noL (Φ f (rs++ [.l k ms]) h)
 |none=>.no
@[simp]def oj{k:Nat}:XT Φ f k rs h (some ms)=noL (Φ f (rs++ [.l k ms]) h):=rfl
@[simp]def mP{k:Nat}:(e2 cs Φ ini (.calL f es k js)).1 μ h=(BE cs Φ ini es μ h).bK λrs h1=>XT Φ f k rs h1 (IK μ js):=rfl
def XS(Φ:Fs)(fa:En->MH->Aw (List R))(μ:En)(h:MH):Option (Option R)->Aw R
 |some (some (.l k ms))=>(fa μ h).bind λrs h1=>if rs.all Kh=true then(noL (Φ k (ms.map .v++rs) h1)).nox else .no
 |_=>.no
@[simp]def oh{k:Nat}:XS Φ fa μ h (some (some (.l k ms)))=(fa μ h).bK λrs h1=>if rs.all Kh=true then(noL (Φ k (ms.map .v++rs) h1)).nox else .no:=rfl
@[simp]def mN:(e2 cs Φ ini (.calv i es)).1 μ h=XS Φ (BE cs Φ ini es) μ h (ZJ μ i):=rfl
@[simp]def qW:Kh (.v m)=true:=rfl
def PY{f':Nat}(e1:fa μ h=.ok rs h1)(e2:Φ f' (.r (hlen h1)::rs) (hnew h1 (.ins c [] []))=.ok (.v .non) (hnew h1 (.gone m))):Jx Φ c f' fa μ h=.ok (.v m) h1:=by
 unfold Jx;rw[e1,Bl,show Φ f' (.r h1.length::rs) (h1++ [.ins c [] []])=_ from e2,Bl];have e3:(hnew h1 (.gone m))[h1.length]?=some (.gone m):=Cr;simp only[e3];rw[if_pos (by simp[hnew])];congr 1;exact(LK (aN _)).trans HU
@[simp]def pf:(e2 cs Φ ini (.var i)).2 μ h=((e2 cs Φ ini (.var i)).1 μ h).bK λx h1=>iz h1 x:=rfl
@[simp]def mR:(e2 cs Φ ini (.call f es)).2 μ h=((e2 cs Φ ini (.call f es)).1 μ h).bK λx h1=>iz h1 x:=rfl
@[simp]def pj{b:Bf}:(e2 cs Φ ini (.bfn b es)).2 μ h=((e2 cs Φ ini (.bfn b es)).1 μ h).bK λx h1=>iz h1 x:=rfl
@[simp]def Yg:DJ cs Φ ini .nil μ h=some (.nx μ,h):=rfl
def jj(b:Sf)(i:Nat)(μ:En)(u:Fx b:=.mk)(x:Aw R):SR:=match x with
 |.ok r h=>b (μ.set i (some r)) h
 |.exc m h=>some (.xc m μ,h)
 |.no=>none
@[simp]def qx{b:Sf}{r:R}:jj b i μ (x:=.ok r h)=b (μ.set i (some r)) h:=rfl
@[simp]def uH{b:Sf}:jj b i μ (x:=.exc m h)=some (.xc m μ,h):=rfl
def nE(μ:En)(x:Aw R):SR:=match x with
 |.ok r h=>some (.rt r,h)
 |.exc m h=>some (.xc m μ,h)
 |.no=>none
@[simp]def qK:nE μ (.ok r h)=some (.rt r,h):=rfl
@[simp]def vd:nE μ (.exc m h)=some (.xc m μ,h):=rfl
def Rj{x:Aw R}{b:Sf}:seqK (x:=BI μ (x:=x) λr h1=>some (.nx (μ.set i (some r)),h1)) b=jj b i μ (x:=x):=by cases x<;>rfl
def Y9{x:Aw R}{b:Sf}:seqK (x:=BI μ (x:=x) λr h1=>some (.rt r,h1)) b=nE μ x:=by cases x<;>rfl
@[simp]def mF:DJ cs Φ ini (.cons (.set i e) ss) μ h=jj (DJ cs Φ ini ss) i μ (x:=(e2 cs Φ ini e).1 μ h):=Rj
@[simp]def ik:DJ cs Φ ini (.cons (.setC i e) ss) μ h=jj (DJ cs Φ ini ss) i μ (x:=(e2 cs Φ ini e).1 μ h):=Rj
@[simp]def mG:DJ cs Φ ini (.cons (.ret e) ss) μ h=nE μ ((e2 cs Φ ini e).1 μ h):=Y9
@[simp low]def mH:DJ cs Φ ini (.cons s ss) μ h=seqK (x:=ex cs Φ ini s μ h) (DJ cs Φ ini ss):=rfl
@[simp]def oE:ex cs Φ ini (.set i e) μ h=BI μ (x:=(e2 cs Φ ini e).1 μ h) λr h1=>some (.nx (μ.set i (some r)),h1):=rfl
@[simp]def mD:ex cs Φ ini (.setC i e) μ h=BI μ (x:=(e2 cs Φ ini e).1 μ h) λr h1=>some (.nx (μ.set i (some r)),h1):=rfl
@[simp]def m8:ex cs Φ ini (.setT t e) μ h=BI μ (x:=(e2 cs Φ ini e).1 μ h) λr h1=>(Mg t r μ).map λμ'=>(.nx μ',h1):=rfl
noncomputable def Xi(μ:En)(n:Nat)(h:MH)(m:MV)(k:Int):Option MO->SR
 |some (.lst l)=>(Mu l.length k).map λj=>(.nx μ,AY h n (.lst (l.set j m)))
 |_=>none
@[simp]def nv{n:Nat}{k:Int}:Xi μ n h m k (some (.lst l))=(Mu l.length k).map λj=>(.nx μ,AY h n (.lst (l.set j m))):=rfl
noncomputable def Xh(μ:En)(x o i:R)(h3:MH):SR:=match x,o,WE i with
 |.v m,.r n,some k=>(match h3[n]? with
  |some (.lst l)=>(Mu l.length k).map λj=>(.nx μ,h3.set n (.lst (l.set j m)))
  |_=>none)
 |_,_,_=>none
@[simp]def nu{n:Nat}{k:Int}:Xh μ (.v m) (.r n) (.v (.int k)) h=Xi μ n h m k (GJ h n):=by
  rfl
@[simp]def m9{o i:ME}:ex cs Φ ini (.setI o i e) μ h=BI μ (x:=(e2 cs Φ ini e).1 μ h) λx h1=>BI μ (x:=(e2 cs Φ ini o).1 μ h1) λo h2=>BI μ (x:=(e2 cs Φ ini i).1 μ h2) λi h3=>Xh μ x o i h3:=rfl
@[simp]def mE:ex cs Φ ini (.expr e) μ h=BI μ (x:=(e2 cs Φ ini e).1 μ h) λ_ h1=>some (.nx μ,h1):=rfl
@[simp]def oF:ex cs Φ ini (.ret e) μ h=BI μ (x:=(e2 cs Φ ini e).1 μ h) λr h1=>some (.rt r,h1):=rfl
@[simp]def oG:ex cs Φ ini (.ite e ss ss') μ h=BI μ (x:=(e2 cs Φ ini e).2 μ h) λk h1=>K7 (k:=k) (DJ cs Φ ini ss μ h1) (DJ cs Φ ini ss' μ h1):=rfl
@[simp]def oH:ex cs Φ ini (.for_ t it ss) μ h=BI μ (x:=QG cs Φ ini it μ h) λw h1=>AQ w.src w.ms t (DJ cs Φ ini ss) w.ms μ h1:=iE rfl rfl
def Yx(fh:MV->Sf)(u:Fx fh:=.mk)(x:SR):SR:=match x with
 |some (.xc m μ,h)=>fh m μ h
 |x=>x
@[simp]def mU:Yx (x:=some (.xc m μ,h)) fh=fh m μ h:=rfl
@[simp]def mV:Yx (x:=some (.nx μ,h)) fh=some (.nx μ,h):=rfl
@[simp]def oC{b:QJ}{hs:gk}:ex cs Φ ini (.tryE b hs) μ h=Yx (x:=DJ cs Φ ini b μ h) (kZ cs Φ ini hs):=rfl
def Uq{d j:Nat}{s:QJ}{r:gk}{m:MV}(e:az cs d m=some true):kZ cs Φ ini (.cons d j s r) m μ h=Uw j (DJ cs Φ ini s (μ.set j (some (.v m))) h):=by
 show QP cs d j _ _ m μ h=_;unfold QP;rw[e]
@[simp]def sU{j:Nat}:Uw j (some (.nx μ,h))=some (.nx (μ.set j none),h):=rfl
def JS(c f:Nat)(μ:En)(x:R)(h:MH):SR:=match x with
 |.v m=>some (.xc (.exc c f m) μ,h)
 |_=>none
@[simp]def qL{c f:Nat}:JS c f μ (.v m) h=some (.xc (.exc c f m) μ,h):=rfl
def Cw{i:Ci}(hc:cs[c]?=some i)(he:i.exc=true/\f∈i.flds):ex cs Φ ini (.raise c f e) μ h=BI μ (x:=(e2 cs Φ ini e).1 μ h) (JS c f μ):=by
 show Kg μ _ _=Kg μ _ _;congr 1
 funext x h1
 rw[hc];cases x with
 |v m=>exact if_pos he
 |_=>rfl
@[simp]def u8:QG cs Φ ini (.of e) μ h=((e2 cs Φ ini e).1 μ h).bK λx h1=>DX h1 (Gz h1 x):=iE rfl rfl
@[simp]def mT:QG cs Φ ini (.rng1 a) μ h=((e2 cs Φ ini a).1 μ h).bK λx h1=>DX h1 (Gg [x]):=iE rfl rfl
@[simp]def mS:QG cs Φ ini (.rng2 a b) μ h=((e2 cs Φ ini a).1 μ h).bK λx h1=>((e2 cs Φ ini b).1 μ h1).bK λy h2=>DX h2 (Gg [x,y]):=iE rfl rfl
@[simp]def pC:QG cs Φ ini (.enu e) μ h=((e2 cs Φ ini e).1 μ h).bK λx h1=>DX h1 (Tt x):=iE rfl rfl
@[simp]def wa{n:Nat}:fin n (some (.rt (.v m),h))=.ok (.v m) (Gm h n):=rfl
@[simp]def wd{n:Nat}:fin n (some (.nx μ,h))=.ok (.v .non) (Gm h n):=rfl
@[simp]def vZ{n:Nat}:fin n (some (.xc m μ,h))=.exc m (Gm h n):=rfl
@[simp]def wb{n:Nat}{o:MO}{l:MH}(hl:hlen l=n):fin n (some (.rt (.r n),hnew l o))=.ok (.r n) (hnew l o):=by
  subst hl;show(if l.length<l.length then _ else _)=_;rw[if_neg (bJ _)];simp[hnew,hlen]
end
section
variable {i:Int}{z:Str}{f n:Nat}{j:Nat}
@[simp]def xt:GC (.lst l) (.int i)=BH l i:=rfl
@[simp]def vN:GC (.scr l) (.int i)=BH l i:=rfl
@[simp]def xq:GC (.tup l) (.int i)=BH l i:=rfl
@[simp]def xr:GC (.str z) (.int i)=if z.length<=big then(BH z.cps.toList i).map λc=>.str ⟨#[c]⟩ else none:=rfl
@[simp]def XQ:B6 .eq a b=AK .eq a b:=by cases b<;>rfl
@[simp]def lI:B6 .ne a b=AK .ne a b:=by cases b<;>rfl
@[simp]def wq:B6 .lt a b=AK .lt a b:=by cases b<;>rfl
@[simp]def wt:B6 .le a b=AK .le a b:=by cases b<;>rfl
@[simp]def wv:B6 .gt a b=AK .gt a b:=by cases b<;>rfl
@[simp]def ww:B6 .ge a b=AK .ge a b:=by cases b<;>rfl
@[simp]def wu:B6 .is_ a b=AK .is_ a b:=by cases b<;>rfl
@[simp]def td:B6 .isnot a b=AK .isnot a b:=by cases b<;>rfl
@[simp]def tq:B6 .in_ a (.lst l)=AK .in_ a (.lst l):=rfl
@[simp]def tm:B6 .in_ a (.str z)=AK .in_ a (.str z):=rfl
@[simp]def dv:B6 .notin a (.lst l)=AK .notin a (.lst l):=rfl
@[simp]def xx:CM (.lst l)=some l:=rfl
@[simp]def xv:CM (.tup l)=some l:=rfl
@[simp]def xw:CM (.str z)=some (GM z):=rfl
@[simp]def wX:Rp (.lst l)=some l:=rfl
@[simp]def xK:Mg (.tup is) (.v m) μ=AR (.tup is) m μ:=rfl
@[simp]def xL:Mg (.lst is) (.v m) μ=AR (.lst is) m μ:=rfl
@[simp]def xI:AR (.nm j) m μ=some (μ.set j (some (.v m))):=rfl
@[simp]def xH:AR (.tup is) (.tup l) μ=if is.length=l.length then some ((is.zip l).foldl (λμ p=>μ.set p.1 (some (.v p.2))) μ) else none:=rfl
@[simp]def xJ:AR (.lst is) (.lst l) μ=if is.length=l.length then some ((is.zip l).foldl (λμ p=>μ.set p.1 (some (.v p.2))) μ) else none:=rfl
@[simp]def sg:CN f v (n::ns) (m::ms)=if n=f then(n::ns,v::ms) else(n::(CN f v ns ms).1,m::(CN f v ns ms).2):=rfl
@[simp]def rZ:CN f v [] ms=([f],[v]):=rfl
end
section
@[simp]def CZ:L8 [.lst l]=some (.int l.length):=rfl
@[simp]def rD:L8 [.scr l]=some (.int l.length):=rfl
@[simp]def vK:L8 [.tup l]=some (.int l.length):=rfl
@[simp]def vL{z:Str}:L8 [.str z]=if z.length<=big then some (.int z.length) else none:=rfl
@[simp]def sv:Bf.fn cs .len=L8:=rfl
@[simp]def sw:Bf.fn cs .isi=Iy cs:=rfl
@[simp]def sA:Bf.fn cs .all=L9:=rfl
@[simp]def so:Bf.fn cs .max=Ng:=rfl
@[simp]def sj:Bf.fn cs .min=Sk:=rfl
@[simp]def s9:Bf.fn cs .int=Sm:=rfl
@[simp]def si:Bf.fn cs .tup=PZ:=rfl
@[simp]def sr:Bf.fn cs .lst=Sl:=rfl
@[simp]def uB:PZ [.lst l]=some (.tup l):=rfl
@[simp]def vU:Sm [.bl k]=some (.int (if k then 1 else 0)):=rfl
@[simp]def vH{i j:Int}:Sk [.int i,.int j]=some (.int (if j<i then j else i)):=rfl
end
section
variable {i j:Int}
@[simp]def om:BD .sub (.int i) (.int j)=some (.int (i-j)):=rfl
@[simp]def oz:BD .add (.int i) (.int j)=some (.int (i+j)):=rfl
@[simp]def ou:BD .mul (.int i) (.int j)=if FG i j then some (.int (i*j)) else none:=rfl
@[simp]def lQ:BD .fdiv (.int i) (.int j)=if 0<j/\j<10000000000000000000000000000000000000000 then some (.int (i / j)) else none:=rfl
@[simp]def oy:BD .mod (.int i) (.int j)=if 0<j then some (.int (i%j)) else none:=rfl
@[simp]def oq:BD .pow (.int i) (.int j)=if Jb i j then some (.int (i^j.toNat)) else none:=rfl
@[simp]def sN:AK .lt (.int i) (.int j)=some (decide (i<j)):=rfl
@[simp]def sO:AK .le (.int i) (.int j)=some (decide (i<=j)):=rfl
@[simp]def sP:AK .gt (.int i) (.int j)=some (decide (j<i)):=rfl
@[simp]def sQ:AK .ge (.int i) (.int j)=some (decide (j<=i)):=rfl
end
@[simp]def vy{i j:Int}(h1: -(2^64)<j)(h2:j<2^64):FG i j=true:=by
  unfold FG;rw[dO];exact .inr (by rw[bQ h1,bQ h2];rfl)
@[simp]def Oz{i j:Int}(h1: -(2^64)<i)(h2:i<2^64):FG i j=true:=by
  unfold FG;rw[dO];exact .inl (by rw[bQ h1,bQ h2];rfl)
@[simp]def vz{i j p:Int}(h1:0<p)(h2:p<=2^64):FG (i%p) j=true:=by
  have a:=dA i (Int.ne_of_gt h1);have b:=cQ i h1;exact Oz (by lia) (by lia)
@[simp]def Ay{α:Type}{l:List α}{i:Int}(h:0<=i):BH l i=l[i.toNat]?:=by
  unfold BH Mu;rw[if_pos h];by_cases h1:i<l.length
  ·rw[if_pos h1];rfl
  rw[if_neg h1];exact(dP (by lia)).symm
@[simp]def vO{n:Nat}{i:Int}(h:0<=i)(h1:i<n):Mu n i=some i.toNat:=by
  unfold Mu;rw[if_pos h,if_pos h1]
theorem OJ(P:Nat->En->MH->Prop):∀{l:List MV}{all:List MV}{i:Nat}{μ:En}{h:MH},P i μ h->
 (∀j m μ h,l[j]?=some m->P (i+j) μ h->∃μ1 μ2 h2,AR t m μ=some μ1/\b μ1 h=some (.nx μ2,h2)/\P (i+j+1) μ2 h2)->∃μ' h',AQ none all t b l μ h=some (.nx μ',h')/\P (i+l.length) μ' h'
 |[],all,i,μ,h,p,_=>⟨μ,h,rfl,p⟩
 |m::l,all,i,μ,h,p,st=>by
  obtain⟨μ1,μ2,h2,e1,e2,p2⟩:=st 0 m μ h rfl p;obtain⟨μ',h',e,q⟩:=OJ P (l:=l) (all:=all) (i:=i+1) p2 λj m μ h hj hp=>by
   have:=st (j+1) m μ h (by simpa using hj) (by rw[show i+(j+1)=i+1+j by lia];exact hp)
   rwa[show i+(j+1)+1=i+1+j+1 by lia]at this
  refine⟨μ',h',?_,by rw[cC,show i+(l.length+1)=i+1+l.length by lia];exact q⟩;rw[←e];simp only[AQ,Bt,if_true,e1,e2]
theorem LY(g:MV->MV)(htc:∀μ h,tc μ h=.ok true h):∀{l all acc:List MV},(∀m∈l,∃μ1,AR tg m μ0=some μ1/\te μ1 h=.ok (.v (g m)) h)->compLoop none all tg μ0 tc te l acc h=.ok (acc++l.map g) h
 |[],all,acc,_=>by unfold compLoop;simp[Bt]
 |m::l,all,acc,st=>by
  obtain⟨μ1,e1,e2⟩:=st m aF;unfold compLoop;simp only[Bt,if_true,e1,htc,DY,Bl,e2];rw[LY g htc λq hq=>st q (aD _ hq)];simp
theorem GL(p:MV->Bool)(g:MV->MV):∀{l all acc:List MV},(∀m∈l,∃μ1,AR tg m μ0=some μ1/\tc μ1 h=.ok (p m) h/\(p m=true->te μ1 h=.ok (.v (g m)) h))->compLoop none all tg μ0 tc te l acc h=.ok (acc++(l.filter p).map g) h
 |[],all,acc,_=>by unfold compLoop;simp[Bt]
 |m::l,all,acc,st=>by
  obtain⟨μ1,e1,e2,e3⟩:=st m aF;unfold compLoop;simp only[Bt,if_true,e1,e2,DY,Bl];by_cases hp:p m=true
  ·rw[if_pos hp,e3 hp];simp only[DY,Bl];rw[GL p g λq hq=>st q (aD _ hq)];simp[hp]
  rw[if_neg hp,GL p g λq hq=>st q (aD _ hq)];simp[hp]
def IT(ns:List Str)(rs:List R):En:=B4 ns.length rs
variable{n0 n1 n2 n3 n4 n5 n6 n7 n8 n9 n10 n11 n12:Str}
@[simp]def qw:IT [n0] [r0]=[some r0]:=rfl
@[simp]def qv:IT [n0,n1] [r0]=[some r0,none]:=rfl
@[simp]def qu:IT [n0,n1] [r0,r1]=[some r0,some r1]:=rfl
@[simp]def qr:IT [n0,n1,n2] [r0,r1]=[some r0,some r1,none]:=rfl
@[simp]def qq:IT [n0,n1,n2] [r0,r1,r2]=[some r0,some r1,some r2]:=rfl
@[simp]def qp:IT [n0,n1,n2,n3] [r0]=[some r0,none,none,none]:=rfl
@[simp]def qo:IT [n0,n1,n2,n3] [r0,r1]=[some r0,some r1,none,none]:=rfl
@[simp]def qk:IT [n0,n1,n2,n3] [r0,r1,r2]=[some r0,some r1,some r2,none]:=rfl
@[simp]def qj:IT [n0,n1,n2,n3] [r0,r1,r2,r3]=[some r0,some r1,some r2,some r3]:=rfl
@[simp]def qi:IT [n0,n1,n2,n3,n4] [r0,r1]=[some r0,some r1,none,none,none]:=rfl
@[simp]def qh:IT [n0,n1,n2,n3,n4] [r0,r1,r2,r3]=[some r0,some r1,some r2,some r3,none]:=rfl
@[simp]def qg:IT [n0,n1,n2,n3,n4,n5] [r0]=[some r0,none,none,none,none,none]:=rfl
@[simp]def qf:IT [n0,n1,n2,n3,n4,n5,n6,n7,n8] [r0,r1,r2]=[some r0,some r1,some r2,none,none,none,none,none,none]:=rfl
@[simp]def qe:IT [n0,n1,n2,n3,n4,n5,n6,n7,n8] [r0,r1,r2,r3,r4]=[some r0,some r1,some r2,some r3,some r4,none,none,none,none]:=rfl
@[simp]def nr:IT [n0,n1,n2,n3,n4,n5,n6,n7,n8,n9] [r0,r1,r2]=[some r0,some r1,some r2,none,none,none,none,none,none,none]:=rfl
@[simp]def nk:IT [n0,n1,n2,n3,n4,n5,n6,n7,n8,n9,n10,n11] [r0,r1]=[some r0,some r1,none,none,none,none,none,none,none,none,none,none]:=rfl
@[simp]def nj:IT [n0,n1,n2,n3,n4,n5,n6,n7,n8,n9,n10,n11,n12] [r0,r1,r2,r3]=[some r0,some r1,some r2,some r3,none,none,none,none,none,none,none,none,none]:=rfl
def Ai{n f:Nat}(hd:ds[f]?=some d)(hl:rs.length=d.ps.length)(e:fin (hlen h) (DJ G.cs (DU G ds n) G.ini d.body (IT d.N rs) h)=x):DU G ds (n+1) f rs h=x:=by
 simp only[DU,hd,hl,if_true];exact e
mutual
def B3(l:List MV):MV->Bool
 |.non=>true| .bl _=>true| .int _=>true| .str _=>true| .cls _=>true| .ty _=>true
 |.tup r=>AF l r
 |.lst r=>decide (r.length≠l.length)&&AF l r
 |.obj _ _ r=>AF l r
 |.scr _=>false| .dic _ _ _=>false| .exc _ _ _=>false| .lam _ _=>false
def AF(l:List MV):List MV->Bool
 |[]=>true
 |m::r=>B3 l m&&AF l r
end
def SD:MV->Bool
 |.int _=>true
 |_=>false
def SL(l:List MV):Bool:=l.head?.any SD
def LW(l:List MV):R->Option R
 |.v m=>if B3 l m=true then some (.v m) else none
 |_=>none
def N7(l:List MV)(μ:En):En:=μ.map λo=>o.bind (LW l)
noncomputable def grow(μ:En):R->R->SR
 |.v (.lst l),.v m=>if (!SL l&&AF l l&&B3 l m&&(O0 .app l [m]).isSome)=true then some (.nx (N7 l μ),[]) else none
 |_,_=>none
def WX(fo fe:Ef):Sf:=λμ h=>Kg μ (fo μ h) λx h1=>Kg μ (fe μ h1) λy _=>grow μ x y
noncomputable def Eb(t:MT)(b:Sf):List MV->Sf
 |[],μ,h=>some (.nx μ,h)
 |m::r,μ,h=>match AR t m μ with
  |some μ1=>(match b μ1 h with
   |some (.nx μ2,h2)=>Eb t b r μ2 h2
   |some (.rt x,h2)=>some (.rt x,h2)
   |_=>none)
  |none=>none
def Te(t:MT)(b:Sf)(μ:En)(h:MH):R->SR
 |.v (.lst l)=>if (SL l&&l.all SD)=true then Eb t b l μ h else none
 |_=>none
def WY(t:MT)(fe:Ef)(b:Sf):Sf:=λμ h=>Kg μ (fe μ h) λx h1=>Te t b μ h1 x
inductive XW where
 |nil|o (s:MS) (r:XW)|sp (o e:ME) (r:XW)|ite (c:ME) (a b r:XW)|for_ (t:MT) (e:ME) (b r:XW)
section
variable (cs:List Ci) (Φ:Fs) (ini:Nat->Option Nat)
noncomputable def GT:XW->Sf
 |.nil=>λμ h=>some (.nx μ,h)
 |.o s r=>EL (ex cs Φ ini s) (GT r)
 |.sp o e r=>EL (WX (e2 cs Φ ini o).1 (e2 cs Φ ini e).1) (GT r)
 |.ite c a b r=>EL (Uu (e2 cs Φ ini c).2 (GT a) (GT b)) (GT r)
 |.for_ t e b r=>EL (WY t (e2 cs Φ ini e).1 (GT b)) (GT r)
end
noncomputable def W7(G:Gt):XW->Ct->List Stmt->Bool
 |.nil,_=>Fj
 |.o s r,Γ=>GV λx l=>oa G s Γ x&&W7 G r Γ l
 |.sp o e r,Γ=>GV λx l=>Tn (λv=>Q4 (λx y l p=>y ==Mm.app.nm&&Cj G o Γ x&&CC G (.cons e .nil) Γ l&&Dm x&&p&&decide (l.length<29)) v&&Do v) x&&W7 G r Γ l
 |.ite c a b r,Γ=>GV λx l=>Wb (λt u v=>Cj G c Γ t&&W7 G a Γ u&&W7 G b Γ v) x&&W7 G r Γ l
 |.for_ t e b r,Γ=>GV λx l=>Wq (λtg iter body els=>lG Γ t tg&&Cj G e Γ iter&&Dl iter&&W7 G b Γ body&&Fj els&&Γ.rz) x&&W7 G r Γ l
section
variable {X:Cx}{W:Wd}{E:RX}{σ:St}{H F:Hp}
def del(F:Hp)(p:Addr):Hp:=λb=>if b=p then none else F b
def de(h:b≠p):del F p b=F b:=if_neg h
def OU:An (del F p) F:=λb u z=>by
 unfold del at z;split at z
 ·cases z
 exact z
def Mh(hp:F p=some (.lst vs))(h:F a=some o)(n:o≠ .lst vs):del F p a=some o:=by
 rw[de λz=>n (by rw[z,hp]at h;cases h;rfl)];exact h
mutual
theorem Ak.del(hp:F p=some (.lst vs))(hl:l.length=vs.length):∀{m:MV}{v:V},Ak W F m v->B3 l m=true->Ak W (del F p) m v
 |.non,_,h,_=>by unfold Ak at h ⊢; exact h
 |.bl _,_,h,_=>by unfold Ak at h ⊢; exact h
 |.int _,_,h,_=>by unfold Ak at h ⊢; exact h
 |.str _,_,h,_=>by unfold Ak at h ⊢; exact h
 |.cls _,_,h,_=>by unfold Ak at h ⊢; exact h
 |.ty _,_,h,_=>by unfold Ak at h ⊢; exact h
 |.tup r,_,h,k=>by
  unfold Ak at h ⊢;obtain⟨a,us,e,q,r⟩:=h;exact⟨a,us,e,Mh hp q (λz=>by cases z),Ad.del hp hl r k⟩
 |.lst r,_,h,k=>by
  unfold Ak at h ⊢;obtain⟨k1,k2⟩:=Ah (show(decide (r.length≠l.length)&&AF l r)=true from k);obtain⟨a,us,e,q,r'⟩:=h;exact⟨a,us,e,Mh hp q (λz=>aY k1 (by cases z;rw[r'.len,hl])),Ad.del hp hl r' k2⟩
 |.obj c ns ms,_,h,k=>by
  unfold Ak at h ⊢;obtain⟨a,dx,us,e,h1,h2,h3,r⟩:=h;exact⟨a,dx,us,e,Mh hp h1 (λz=>by cases z),Mh hp h2 (λz=>by cases z),h3,Ad.del hp hl r k⟩
 |.scr _,_,_,k=>(a9 k).elim
 |.dic _ _ _,_,_,k=>(a9 k).elim
 |.exc _ _ _,_,_,k=>(a9 k).elim
 |.lam _ _,_,_,k=>(a9 k).elim
theorem Ad.del(hp:F p=some (.lst vs))(hl:l.length=vs.length):∀{ms:List MV}{us:List V},Ad W F ms us->AF l ms=true->Ad W (del F p) ms us
 |[],_,h,_=>by rw[h.nil_iff];exact .nil
 |m::ms,_,h,k=>by
  obtain⟨k1,k2⟩:=Ah (show(B3 l m&&AF l ms)=true from k);obtain⟨v,r,e,h1,h2⟩:=h.uncons;subst e;exact .cons (Ak.del hp hl h1 k1) (Ad.del hp hl h2 k2)
end
def bf(h:SD m=true):∃i,m=.int i:=by cases m<;>first|(exact absurd h a9)|exact⟨_,rfl⟩
theorem Ad.ints:∀{l:List MV}{vs:List V},Ad W F l vs->l.all SD=true->Ad W F' l vs
 |[],_,h,_=>by rw[h.nil_iff];exact .nil
 |m::l,_,h,k=>by
  obtain⟨v,r,rfl,h1,h2⟩:=h.uncons;obtain⟨k1,k2⟩:=Ah (show(SD m&&l.all SD)=true from k);obtain⟨i,rfl⟩:=bf k1;refine .cons ?_ (Ad.ints h2 k2);unfold Ak at h1 ⊢;exact h1
def bi:V->Bool
 |.int _=>true
 |_=>false
def XB(r:Ad W F l vs):vs.head?.any bi=SL l:=by
 cases l with
 |nil=>rw[r.nil_iff];rfl
 |cons m l=>
  obtain⟨v,us,rfl,h,_⟩:=r.uncons;show bi v=SD m;unfold Ak at h;cases m<;>first|(subst h;rfl)|(obtain⟨a,vs,rfl,_⟩:=h;rfl)|(obtain⟨a,dx,vs,rfl,_⟩:=h;rfl)|exact h.elim
def mn(Kp:Hp):Prop:=∀b o,Kp b=some o->∃vs,o=.lst vs/\vs.head?.any bi=true
def J7(W:Wd)(D:Io)(Kp:Hp):SR->Prop
 |some (.nx μ',h')=>∀F' ρ' H' σ',An Kp F'->By W F' H' ρ' h'->B1 W F' ρ' μ' σ'->D.nx σ' H'
 |some (.rt r,h')=>∀F' ρ' H' v,By W F' H' ρ' h'->AE W F' ρ' r v->D.rt v H'
 |_=>False
inductive xP(F:Hp)(P:Hp->Prop):Prop
 |mk (Kp:Hp) (s:An Kp F) (k:mn Kp) (g:P Kp)
def GO(W:Wd)(f:Sf):TS:=λD σ H=>XY W σ H λF ρ μ h=>xP F λKp=>J7 W D Kp (f μ h)
variable {D:Io}{Kp:Hp}{sa sb:Sf}{st:Stmt}{sts body:List Stmt}
def J7.gs(sk:An Kp F)(g:J7 W D Kp x):GS W E D F ρ x:=by
 match x,g with
 |some (.nx μ',h'),g=>exact λF' ρ' H' σ' n S e=>g F' ρ' H' σ' (sk.trans n.s) S e
 |some (.rt r,h'),g=>exact λF' ρ' H' v n S q=>g F' ρ' H' v S q
def jg(h:PS X st (Fa W E sa)):PS X st (GO W sa):=PS.of h λD σ H ⟨F,ρ,μ,h,S,ee,Kp,sk,ok,G⟩=>⟨F,ρ,μ,h,S,ee,G.gs sk⟩
def Y5:Df X [] (GO W λμ h=>some (.nx μ,h)):=
 Df.of Om λD σ H ⟨F,ρ,μ,h,S,ee,Kp,sk,ok,G⟩=>G F ρ H σ sk S ee
def GY(h1:PS X st (GO W sa))(h2:Df X sts (GO W sb)):Df X (st::sts) (GO W (EL sa sb)):=by
 refine Df.of (HA h1 h2) ?_;rintro D σ H ⟨F,ρ,μ,h,S,ee,Kp,sk,ok,G⟩;refine⟨F,ρ,μ,h,S,ee,Kp,sk,ok,?_⟩;unfold EL at G
 match hx:sa μ h,G with
 |none,G=>exact G
 |some (.nx μ',h'),G=>exact λF1 ρ1 H1 σ1 k1 S1 e1=>⟨F1,ρ1,μ',h',S1,e1,Kp,k1,ok,G⟩
 |some (.rt r,h'),G=>exact G
 |some (.xc m μ',h'),G=>exact G
def J7.bind{α β:Type}{rep:Hp->List Addr->α->β->Prop}{E1:Addr->Hp->Prop}{ρ:List Addr}{μ:En}{x:Aw α}{k:α->MH->SR}(g:J7 W D Kp (Kg μ x k)):Al W rep E1 F ρ x λv H1=>mz W rep F ρ v H1 λF1 ρ1 r h1=>J7 W D Kp (k r h1):=by
 cases x with
 |no=>exact g
 |exc m h=>exact g.elim
 |ok r h=>exact λF1 ρ1 H1 v n S q=>⟨F1,ρ1,r,h,n,S,q,g⟩
def Y6(hc:PT X c (Gb W E ta))(ha:Df X u (GO W sa))(hb:Df X v (GO W sb)):PS X (.If c u v pos) (GO W (Uu ta sa sb)):=by
 refine PS.of (Xu hc ha hb) λD σ H ⟨F,ρ,μ,h,S,ee,Kp,sk,ok,G⟩=>⟨F,ρ,μ,h,S,ee,(J7.bind (rep:=cy) G).imp ?_⟩;rintro k H1 ⟨F1,ρ1,k',h1,n1,S1,rfl,G1⟩;by_cases hk:k'=true
 ·rw[if_pos hk]at G1 ⊢;exact⟨F1,ρ1,μ,h1,S1,ee.nxt n1,Kp,sk.trans n1.s,ok,G1⟩
 rw[if_neg hk]at G1 ⊢;exact⟨F1,ρ1,μ,h1,S1,ee.nxt n1,Kp,sk.trans n1.s,ok,G1⟩
def Wi(g:J7 W D Kp (grow μ x y)):∃l m,x=.v (.lst l)/\y=.v m/\SL l=false/\AF l l=true/\B3 l m=true/\(O0 .app l [m]).isSome=true/\J7 W D Kp (some (.nx (N7 l μ),[])):=by
 unfold grow at g;split at g
 ·rename_i l m;by_cases hc:(!SL l&&AF l l&&B3 l m&&(O0 .app l [m]).isSome)=true
  ·rw[if_pos hc]at g;exact GW hc λh1 h2 h3 h4=>⟨l,m,rfl,rfl,by simpa using h1,h2,h3,h4,g⟩
  rw[if_neg hc]at g;exact g.elim
 exact g.elim
def Ww(hq:F q=some (.lst vs))(hl:l.length=vs.length)(ee:B1 W F ρ μ σ):B1 W (del F q) [] (N7 l μ) σ:=by
 refine⟨by rw[←ee.len];exact aL _,λi r h=>?_⟩;unfold N7 at h;rw[aM]at h;cases ho:μ[i]? with
 |none=>rw[ho]at h;cases h
 |some o=>
  rw[ho]at h;cases o with
  |none=>cases h
  |some r0=>
   have h:some (LW l r0)=some (some r):=h;cases r0 with
   |r _=>cases h
   |l _ _=>cases h
   |v m=>
    have h:some (if B3 l m=true then some (R.v m) else none)=some (some r):=h;by_cases hk:B3 l m=true
    ·rw[if_pos hk]at h;cases h;obtain⟨v,h1,h2⟩:=ee.at_ i _ ho;exact⟨v,h1,Ak.del hq hl h2 hk⟩
    rw[if_neg hk]at h;cases h
def U9{n:Nat}(hf:∀μ h,fs μ h=(fe μ h).bind λr h1=>.ok [r] h1)(hp:PE X e (pX W E .app fo fs))(hs:swapsWith e none pos.line X.env=pure false):PS X (.Expr e pos) (GO W (WX fo fe)):=by
 refine PS.of (JT hp hs) λD σ H ⟨F,ρ,μ,h,S,ee,Kp,sk,ok,G⟩=>⟨F,ρ,μ,h,S,ee,(J7.bind (rep:=AE W) G).imp ?_⟩;rintro x H1 ⟨F1,ρ1,r1,h1,n1,S1,q1,G1⟩;have hy:∃y h2,fe μ h1=.ok y h2/\J7 W D Kp (grow μ r1 y):=by
  cases hx:fe μ h1 with
  |no=>rw[hx]at G1;exact G1.elim
  |exc m h=>rw[hx]at G1;exact G1.elim
  |ok y h2=>rw[hx]at G1;exact⟨y,h2,rfl,G1⟩
 obtain⟨y,h2,ey,G2⟩:=hy;obtain⟨l,m,rfl,rfl,k1,k2,k3,k4,G3⟩:=Wi G2;have q1:=q1;unfold Ak at q1;obtain⟨p,vs,rfl,hp,r⟩:=q1;refine⟨⟨p,vs,rfl,S1.sub _ _ hp⟩,F1,ρ1,μ,h1,S1,ee.nxt n1,?_⟩;rw[hf,ey];intro F2 ρ2 H2 xs n2 S2 q2;cases q2 with
 |cons q2 q3=>
  cases q3;have hp2:=n2.s _ _ hp;have r2:=r.same n2.s;obtain⟨l',hl'⟩:=bX.mp k4;refine⟨del F2 p,p,vs,l,[m],l',rfl,OU.trans S2.sub,if_pos rfl,S2.sub _ _ hp2,r2.del hp2 r2.len k2,.cons (Ak.del hp2 r2.len q2 k3) .nil,hl',λvs' _=>?_⟩;refine G3 (del F2 p) [] _ σ (λb o hb=>?_) ⟨λb u z=>?_,fJ,rfl,λn a m h1 _=>by simp at h1,S2.tb.upd λu z=>by rw[S2.sub _ _ hp2]at z;cases z;exact id,λt ht=>?_⟩ (Ww hp2 r2.len ((ee.nxt n1).nxt n2))
  ·have h2:=n2.s _ _ (n1.s _ _ (sk _ _ hb));obtain⟨us,rfl,hu⟩:=ok _ _ hb;exact Mh hp2 h2 λz=>by cases z;rw[XB r2,k1]at hu;cases hu
  ·have hb:b≠p:=λe=>by rw[e]at z;unfold del at z;rw[if_pos rfl]at z;cases z
   rw[Aa hb];exact S2.sub b u (OU _ _ z)
  unfold del;split
  ·rfl
  exact S2.tf t ht
def U8(hl:PE X iter (tM W E fe)):PI X tg iter (λσ H R=>tM W E fe σ H λx H1=>∃p vs,x=.ref p/\D8 X.K H1 p vs/\R (mw X.K p) H1):=by
 intro pins s σ H R I t;refine Bg (hl pins s σ H _ I t) ?_;rintro v s1 ⟨x,H1,I1,r1,p,vs,rfl,hq,q⟩;cases r1;exact Hg I1 hq q
def Wp(g:J7 W D Kp (Te t sb μ h x)):∃l,x=.v (.lst l)/\SL l=true/\l.all SD=true/\J7 W D Kp (Eb t sb l μ h):=by
 unfold Te at g;split at g
 ·rename_i l;by_cases hc:(SL l&&l.all SD)=true
  ·rw[if_pos hc]at g;obtain⟨h1,h2⟩:=Ah hc;exact⟨l,rfl,h1,h2,g⟩
  rw[if_neg hc]at g;exact g.elim
 exact g.elim
def J7.more(s:An Kp Kp')(g:J7 W D Kp x):J7 W D Kp' x:=by
 match x,g with
 |some (.nx μ',h'),g=>exact λF' ρ' H' σ' k=>g F' ρ' H' σ' (s.trans k)
 |some (.rt r,h'),g=>exact g
def Y7(hp:PassesOwn (model X.prog X.w) X.A X.env X.xe)(hc:X.calm=true)(hi:PE X iter (tM W E fe))(hg:PG X tg (Ui W t))(hb:Df X body (GO W sb))(hs:∀x,foldedSetIterable iter X.env x=pure x):PS X (.For tg iter body [] pos) (GO W (WY t fe sb)):=by
 refine PS.of (R5 hp hc (U8 hi) hg hb hs) λD σ H ⟨F,ρ,μ,h,S,ee,Kp,sk,ok,G⟩=>⟨F,ρ,μ,h,S,ee,(J7.bind (rep:=AE W) G).imp ?_⟩;rintro x H1 ⟨F1,ρ1,r1,h1,n1,S1,q1,G1⟩;obtain⟨l,rfl,k1,k2,G1⟩:=Wp G1;have q1:Ak W F1 (.lst l) x:=q1;unfold Ak at q1;obtain⟨p,vs,rfl,hp,r⟩:=q1;have sk1:=sk.trans n1.s;have at_:upd Kp p (.lst vs) p=some (.lst vs):=Ab;have kk:An Kp (upd Kp p (.lst vs)):=λb o z=>by
  by_cases e:b=p
  ·subst e;rw[Ab,←hp];exact sk1 _ _ z
  rw[Aa e];exact z
 have kf:An (upd Kp p (.lst vs)) F1:=λb o z=>by
  by_cases e:b=p
  ·subst e;rw[Ab]at z;cases z;exact hp
  rw[Aa e]at z;exact sk1 _ _ z
 have ok1:mn (upd Kp p (.lst vs)):=λb o z=>by
  by_cases e:b=p
  ·subst e;rw[Ab]at z;cases z;exact⟨vs,rfl,by rw[XB r];exact k1⟩
  rw[Aa e]at z;exact ok _ _ z
 have yl:=JC (W:=W) (ρ:=[]) (K:=X.K) (.inl (.inl at_)) (r.ints (F':=upd Kp p (.lst vs)) k2);refine⟨p,vs,rfl,.inl (.inl (S1.sub _ _ hp)),λi m σ' H'=>A3 (m=l.length-i) (i<=l.length) (E4 λF2 ρ2 μ2 h2=>A4 (An (upd Kp p (.lst vs)) F2) (By W F2 H' ρ2 h2) (B1 W F2 ρ2 μ2 σ') (J7 W D (upd Kp p (.lst vs)) (Eb t sb (l.drop i) μ2 h2))),⟨_,rfl,dX _,F1,ρ1,μ,h1,kf,S1,ee.nxt n1,G1.more kk⟩,?_⟩;rintro i m σ' H' ⟨rfl,hi,F2,ρ2,μ2,h2,n2,S2,e2,G2⟩;obtain⟨y1,y0⟩:=yl i F2 ρ2 H' h2 ⟨n2,List.nil_prefix⟩ S2 trivial;by_cases hlt:i<l.length
 ·have ed:l.drop i=l[i]::l.drop (i+1):=fB hlt;rw[ed]at G2;unfold Eb at G2;cases hb3:AR t l[i] μ2 with
  |none=>rw[hb3]at G2;exact G2.elim
  |some μ3=>
   rw[hb3]at G2;have G2:J7 W D (upd Kp p (.lst vs)) (match sb μ3 h2 with
    |some (.nx μ2,h2)=>Eb t sb (l.drop (i+1)) μ2 h2
    |some (.rt x,h2)=>some (.rt x,h2)
    |_=>none):=G2
   obtain⟨go,y2⟩:=y1 l[i] (by simp[hlt]);refine .inr ⟨go,λσ'' H''=>E4 λF2 ρ2 μ2 h2=>A4 (An (upd Kp p (.lst vs)) F2) (By W F2 H'' ρ2 h2) (B1 W F2 ρ2 μ2 σ'') (J7 W D (upd Kp p (.lst vs)) (Eb t sb (l.drop (i+1)) μ2 h2)),λσ'' H'' hN=>⟨l.length-(i+1),by lia,rfl,hlt,hN⟩,λx H3 hy=>?_⟩;obtain⟨F3,s3,S3,r3⟩:=y2 x H3 hy;have n3:Ep F2 ρ2 F3 ρ2:=⟨s3,cD _⟩;refine⟨F3,ρ2,μ2,h2,l[i],μ3,S3,e2.nxt n3,r3,hb3,λσ3 e3=>⟨F3,ρ2,μ3,h2,S3,e3,_,n2.trans s3,ok1,?_⟩⟩
   match hx:sb μ3 h2,G2 with
   |none,G3=>exact G3
   |some (.nx μ4,h4),G3=>exact λF4 ρ4 H4 σ4 n4 S4 e4=>⟨F4,ρ4,μ4,h4,n4,S4,e4,G3⟩
   |some (.rt r,h4),G3=>exact G3
   |some (.xc m μ4,h4),G3=>exact G3
 have ei:i=l.length:=by lia
 subst ei;rw[i5]at G2;exact .inl ⟨y0 rfl,G2 F2 ρ2 H' σ' n2 S2 e2⟩
end
section
variable {k:Nat}
theorem Ld:∀m {Γ:Ct}{E:RX}{X:Cx}{st:List Stmt},Cg G W Φ k Γ E X->W7 G m Γ st=true->Df X st (GO W (GT G.cs Φ G.ini m))
 |.nil,Γ,E,X,st,c,h=>by
  obtain rfl:=AH h;exact Y5
 |.o s r,Γ,E,X,st,c,h=>by
  refine AJ h λx l h=>?_;obtain⟨h1,h2⟩:=Ah h;exact GY (jg (jk s c h1)) (Ld r c h2)
 |.sp o e r,Γ,E,X,st,c,h=>by
  refine AJ h λx l h=>?_;obtain⟨h1,h2⟩:=Ah h;refine GY ?_ (Ld r c h2);refine Hm h1 λv p h=>?_;obtain⟨h1,h2⟩:=Ah h
  revert h2
  refine EJ h1 λx y q l p h h2=>?_;refine KM h λh1 h2' h3 h4 h5 h6=>?_;obtain rfl:=aI.mp h1;obtain⟨pa,ns⟩:=DD (.cons e .nil) c h3;cases l with
  |nil=>exact Fh h3
  |cons e0 l=>exact U9 (n:=0) (λ_ _=>rfl) (Rr .app (AB o c h2').1 pa (B9 h4) (KB ns (aY h6)) h5 (Ao (Bn ns).1) (Bb (Bn ns).2)) (Ev h2)
 |.ite t a b r,Γ,E,X,st,c,h=>by
  refine AJ h λx l h=>?_;obtain⟨h1,h2⟩:=Ah h;refine GY ?_ (Ld r c h2);refine K8 h1 λt' u v p h=>?_;refine AU h λh1 h2 h3=>?_;exact Y6 (AB t c h1).2 (Ld a c h2) (Ld b c h3)
 |.for_ t e b r,Γ,E,X,st,c,h=>by
  refine AJ h λx l h=>?_;obtain⟨h1,h2⟩:=Ah h;refine GY ?_ (Ld r c h2);refine OL h1 λtg iter body els p h=>?_;refine KM h λh1 h2 h3 h4 h5 h6=>?_;obtain rfl:=AH h5;exact Y7 (c.own h6) c.calm (AB e c h2).1 (Rk c h1) (Ld b c h4) (JN h3)
end
structure Ub where
 p:Str
 N:List Str
 body:XW
noncomputable def Tj(K:Frag)(G:Gt)(d:Ub)(f:Addr):Bool:=match K.lookup f with
 |some ⟨_,_,.func fd,_⟩=>(match fd.body with
  |.stmts body=>Tl K [d.p] fd&&Rq d.N [d.p] fd.scope&&W7 G d.body ⟨d.N,fd.scope,true,true,[]⟩ body
  |_=>false)
 |_=>false
def WQ(T:Tb)(n:Nat)(d:Ub):Prop:=∀l:List Int,l.length<=63->∃h,GT T.gt.cs (DU T.gt T.all n) T.gt.ini d.body (B4 d.N.length [.v (.scr (l.map .int))]) []=some (.rt (.v (.bl true)),h)
section
variable {K:Fq}{T:Tb}{P:Program}{w:World}{mg:Mq}{base h:Heap}
def kC{n:Nat}{d:Ub}{TS:List (Addr×Array Value)}(hn:Dq T.names=true)(hl:WQ T n d)(X0:K.In h)(N0:h.Ns mainGlobals mg)(hfa:mg "law"=some (.ref fa))
 (hh:(RJ K T&&(nsIn K mainGlobals "law" ==some (some (.ref (B7 K "law"))))&&Tj K T.gt d (B7 K "law")&&Sv (Fm K (B7 K "law")) d.p)=true)(hts:∀t∈Fz K T 0 T.ds,TS.lookup t.1=some #[]) :
 ∃fd:FuncData,(∀s v,BindsTo s fd ⟨[v],[]⟩ [(d.p,v)])/\∀base:Heap,K.In base->base.Ns mainGlobals mg->NR base mg->(∀b ps,TS.lookup b=some ps->base.get? b=none)->DB P w K mg base WU (2*n+3) fa fd [d.p] (MB K TS):=by
 refine GW hh λhh h2 h3 hdf=>?_;have ef:B7 K "law"=fa:=by
  have e2:=mg_of X0 N0 (aI.mp h2);rw[hfa]at e2;cases e2;rfl
 rw[ef]at h3 hdf;refine⟨Fm K fa,λs v=>Su hdf s v,λbase Xb Nb hbm h0=>?_⟩;have pg:Pg T.gt (rg K T hn) T.all T.ds.length P w mg base (C5 K T) (λf=>Fm K (C5 K T f)):=jO X0 N0 Xb Nb (.inr ⟨hbm,λt ht=>h0 _ _ (hts t ht)⟩) hn hh;unfold Tj at h3;split at h3
 ·rename_i oc od fd osl hk;split at h3
  ·rename_i body hb;refine AU h3 λh1 h2 h3=>?_;obtain⟨e,c,bd⟩:=Hl h1 hb;have ef:Fm K fa=fd:=by unfold Fm;rw[hk]
   rw[ef];rw[e]at hk ⊢;have F:DB P w K mg base (Gy P w) (2*n+2+1) fa (fnOf fd.name fd.qualname fd.params body fd.scope fd.defaults fd.kwdefaults fd.doc fd.pyModule fd.annotations fd.code fd.closureTuple) [d.p] (λvs H Q E=>MB K TS vs H Q E/\∀a H',¬E (.ref a) none H'):=by
    refine Ti hk c (Ha h2) (λvs H Q E ⟨⟨a,ns,e,_,_,_,_⟩,_⟩=>by rw[e];rfl) λA outer s H vs Q E hr hsp=>?_;obtain⟨⟨a,ns,rfl,hS,hl',hT,hq⟩,hE⟩:=hsp;obtain⟨h',e⟩:=hl ns hl';refine⟨_,Ld (Φ:=DU T.gt T.all n) (k:=2*n+1) d.body (pg.cgd (pg.ok n) (Ha h2) hr (λp hp=>absurd hp (by simp))) h3,?_⟩;have sub:An (λb=>if (TS.lookup b).isSome=true then none else H b) H:=λb u z=>by
     have z:(if (TS.lookup b).isSome=true then none else H b)=some u:=z;split at z
     ·cases z
     exact z
    refine⟨λb=>if (TS.lookup b).isSome=true then none else H b,[],B4 d.N.length [.v (.scr (ns.map .int))],[],⟨sub,fJ,rfl,λn a m h1 _=>by simp at h1,λt ht=>⟨#[],hT _ _ (hts t ht),trivial,.inl rfl⟩,λt ht=>by show(if (TS.lookup t.1).isSome=true then none else H t.1)=none;rw[hts t ht];rfl⟩,MA (.cons (show Ak _ _ _ _ from ?_) .nil),λ_=>none,(λb u z=>by cases z),(λb u z=>by cases z),?_⟩
    ·unfold Ak;refine⟨a,_,rfl,?_,Lk⟩;rcases hS with hS|hS
     ·have na:TS.lookup a=none:=by
       cases q:TS.lookup a with
       |none=>rfl
       |some ps=>
        have:=hT a ps q;rcases hS with z|⟨o,z⟩<;>(rw[this]at z;cases z)
      have ea:(λb=>if (TS.lookup b).isSome=true then none else H b) a=H a:=by show(if (TS.lookup a).isSome=true then none else H a)=H a;rw[na];rfl
      exact .inl (hS.imp (λz=>by rw[ea];exact z) λ⟨o,z⟩=>⟨o,by rw[ea];exact z⟩)
     exact .inr hS
    have e:GT T.gt.cs (DU T.gt T.all n) T.gt.ini d.body (B4 d.N.length [.v (.scr (ns.map .int))]) []=_:=e;rw[e];intro F' ρ' H' v _ r;have r:Ak (rg K T hn) F' (.bl true) v:=r;unfold Ak at r;rw[r];exact hq H'
   refine⟨λvs H Q E ⟨a,ns,e,_,_,_,_⟩=>by rw[e];rfl,λA outer s H args us vs Q E hr he hb hv hs=>?_⟩;have:=F.run A outer s H args us vs Q (λ_ _ _=>False) hr he hb hv ⟨by obtain⟨a,ns,e1,e2,e3,e4,e5⟩:=hs;exact⟨a,ns,e1,e2,e3,e4,e5⟩,λ_ _ z=>z⟩;refine cA this λr s' hr=>?_
   match r,hr with
   |.ok (.ret u),hr=>exact hr
   |.ok .next,hr=>exact hr.elim
   |.ok .brk,hr=>exact hr.elim
   |.ok .cont,hr=>exact hr.elim
   |.error e,hr=>
    obtain⟨a,H',_,_,_,_,_,_,z⟩:=hr;exact z.elim
  exact absurd h3 a9
 exact absurd h3 a9
end
def sZ(K:Frag)(T:Tb)(ts:List Addr):Bool:=ts.all (λb=>(K.lookup b).isNone&&(Fz K T 0 T.ds).any λt=>t.1 ==b)&&(Fz K T 0 T.ds).all λt=>ts.contains t.1
theorem NY{K:Fq}(X:K.In h):∀{ds:List Av}{n:Nat},El (λf d=>d.lp.isEmpty||EZ K (C5 K T f)) n ds=true->∀t∈Fz K T n ds,isCodeTable h t.1
 |[],n,_,t,ht=>by simp[Fz]at ht
 |d::ds,n,hh,t,ht=>by
  obtain⟨h1,h2⟩:=Ah (show((d.lp.isEmpty||EZ K (C5 K T n))&&El (λf d=>d.lp.isEmpty||EZ K (C5 K T f)) (n+1) ds)=true from hh);unfold Fz at ht;rcases bC.mp ht with ht|ht
  ·obtain⟨p,hp,rfl⟩:=aW.mp ht;rcases dO _ _ |>.mp h1 with z|z
   ·rw[i6.mp z]at hp;simp at hp
   unfold EZ at z;split at z
   ·obtain⟨z,_⟩:=Ah z;exact(Pe X z).2
   exact absurd z a9
  exact NY X h2 t ht
def Xf{ts:List Addr}:(ts.map λb=>(b,(#[]:Array Value))).lookup b=some ps->b∈ts/\ps=#[]:=by
 induction ts with
 |nil=>intro h;simp at h
 |cons a ts ih=>
  intro h;rw[aX,bY]at h;split at h
  ·rename_i e;have e:=aI.mp e;cases h;exact⟨by rw[e];exact aF,rfl⟩
  obtain⟨h1,h2⟩:=ih h;exact⟨aD _ h1,h2⟩
def lS{ts:List Addr}(h:b∈ts):(ts.map λb=>(b,(#[]:Array Value))).lookup b=some #[]:=by
 induction ts with
 |nil=>simp at h
 |cons a ts ih=>
  rw[aX,bY];by_cases e:b=a
  ·rw[e];simp
  rw[show(b ==a)=false from bO.mpr e];exact ih ((aH.mp h).resolve_left e)
def Nj{l:PySem.W.OpenLaw}{q:Program}{loose:List Str}{XP:(Str->Option Value)->Heap->Prop}{d:DefRec}{K:Params->Frag}{as:List Addr}{e:∀P,as=(K P).map (·.1)}{ts:List Addr}{T:Tb}{n:Nat}{dd:Ub}
 (hn:l.most=some 63)(hdf:d.params.defaults=[])(hk:Ba (2*n+3) callerA)(hname:d.name=Str.ofString "law")(hnm:Dq T.names=true)(hl:WQ T n dd)
 (hc:∀w:World,((RJ (K w.params) T&&(nsIn (K w.params) mainGlobals "law" ==some (some (.ref (B7 (K w.params) "law"))))&&Tj (K w.params) T.gt dd (B7 (K w.params) "law")&&Sv (Fm (K w.params) (B7 (K w.params) "law")) dd.p)&&sZ (K w.params) T ts)=true) :
 PySem.W.WalkO q loose XP (PySem.W.kmHook K as e ts).says l.row.toRowW d [] (λf vs=>PySem.call f vs):=by
 have tin:∀(w:World) (b:Addr),b∈ts->((K w.params).lookup b).isNone=true/\∃t∈Fz (K w.params) T 0 T.ds,t.1=b:=λw b hb=>by
  obtain⟨c1,_⟩:=Ah (Ah (hc w)).2;obtain⟨a1,a2⟩:=Ah (bD.mp c1 b hb);obtain⟨t,ht,e⟩:=List.any_eq_true.mp a2;exact⟨a1,t,ht,aI.mp e⟩
 refine QR (n:=63) (x:=dd.p) (TS:=ts.map λb=>(b,#[])) (sp:=λw=>MB (K w.params) (ts.map λb=>(b,#[]))) hn (by decide) hdf hk (λw h Y=>PySem.W.km_in_of Y) (λw h Y b ps hb=>?_) (λw b ps hb=>?_) (λw mg fa h KX N hmg=>?_) λw H a ns h1 h2 h3=>⟨a,ns,rfl,h3,h1,h2,λ_=>rfl⟩
 ·obtain⟨h1,rfl⟩:=Xf hb;refine⟨PySem.W.km_tabs_of Y b h1,?_⟩;obtain⟨_,t,ht,rfl⟩:=tin w b h1;have p1:=GW (Ah (hc w)).1 λp1 _ _ _=>p1;unfold RJ QV at p1;exact NY (PySem.W.km_in_of Y) (Ah (Ah p1).2).1 t ht
 ·obtain⟨h1,rfl⟩:=Xf hb;exact fD.mp (tin w b h1).1
 obtain⟨c1,c2⟩:=Ah (hc w);refine kC hnm hl KX N (by rw[←hname];exact hmg) c1 (λt ht=>lS ?_);have:=bD.mp (Ah c2).2 t ht;exact List.contains_iff_mem.mp this
end B
namespace BK71
open PySem B
abbrev s(x:String):Str:=Str.ofString x
section
local macro_rules|`(#[])=>`(.nil)|`(#[$a])=>`(.cons $a .nil)|`(#[$a,$b,*])=>`(.cons $a #[$b,*])|`(@$n:num)=>`(.var $n)|`(↑$n:num)=>`(.con (.int $n))
noncomputable def d0:Av:=⟨["thing"],["thing"],
 #[.ret (.and #[.bfn .isi #[@0,.bty "int" .int],.not (.bfn .isi #[@0,.bty "bool" .bl])])],[]⟩
noncomputable def d1:Av:=⟨["thing"],["thing"],
 #[.ite (.or #[.not (.bfn .isi #[@0,.bty "str" .str]),.not (.cmp2 .le .le ↑1 (.bfn .len #[@0]) (.glo "LONGEST_WORD" (.int 8)))]) #[.ret (.con (.bl false))] .nil,.ret (.bfn .all #[.comp ["sign"] [] [] (.nm 0) (.of @0) .nil (.cmp .in_ @0 (.glo "LETTERS" (.str "abcdefghijklmnopqrstuvwxyz")))])],[]⟩
noncomputable def d2:Av:=⟨["thing"],["thing"],
 #[.ite (.or #[.not (.bfn .isi #[@0,.bty "tuple" .tup]),.cmp .ne (.bfn .len #[@0]) ↑2]) #[.ret (.con (.bl false))] .nil,.ret (.and #[.call 1 #[.idx @0 ↑0],.call 0 #[.idx @0 ↑1],.cmp2 .le .le ↑0 (.idx @0 ↑1) (.glo "GREATEST_NUMBER" (.int 99))])],[]⟩
noncomputable def d3:Av:=⟨[],[],
 #[.ret (.lst #[.new0 10,.new0 11,.new0 12,.new0 13])],[]⟩
noncomputable def d4:Av:=⟨["word"],["word","join"],
 #[.for_ (.nm 1) (.of (.call 3 .nil)) #[.ite (.cmp .eq (.meth 1 @1 .nil) @0) #[.ret @1] .nil],.raise 2 0 @0],[]⟩
noncomputable def d5:Av:=⟨["thing"],["thing"],
 #[.ite (.or #[.not (.bfn .isi #[@0,.tup #[.bty "list" .lst,.bty "tuple" .tup]]),.cmp .gt (.bfn .len #[@0]) (.glo "MOST_OFFERS" (.int 2))]) #[.ret (.con (.bl false))] .nil,.ret (.and #[.bfn .all #[.comp ["key"] [] [] (.nm 0) (.of @0) .nil (.call 2 #[@0])],.cmp .eq (.lenset @0) (.bfn .len #[@0])])],[]⟩
noncomputable def d6:Av:=⟨["offers"],["offers"],
 #[.ite (.cmp .is_ @0 (.con .non)) #[.ret (.tup .nil)] .nil,.ite (.not (.call 5 #[@0])) #[.raise 4 0 @0] .nil,.ret (.bfn .tup #[@0])],[]⟩
noncomputable def d7:Av:=⟨["many"],["many"],
 #[.ite (.cmp .gt @0 (.glo "MOST_BENEATH" (.int 6))) #[.raise 7 6 @0] .nil],[]⟩
noncomputable def d8:Av:=⟨["many"],["many"],
 #[.ite (.cmp .gt @0 (.glo "MOST_PARTS" (.int 30))) #[.raise 7 6 @0] .nil],[]⟩
noncomputable def d9:Av:=⟨["deep"],["deep"],
 #[.ite (.cmp .gt @0 (.glo "MOST_DEEP" (.int 6))) #[.raise 8 6 @0] .nil],[]⟩
noncomputable def d10:Av:=⟨["thing"],["thing"],
 #[.ret (.and #[.bfn .isi #[@0,.bty "tuple" .tup],.cmp .eq (.bfn .len #[@0]) ↑2,.bfn .isi #[.idx @0 ↑1,.glo "Part" (.cls 14)]])],[]⟩
noncomputable def d11:Av:=⟨["beneath"],["beneath","row"],
 #[.ite (.cmp .is_ @0 (.con .non)) #[.ret (.tup .nil)] .nil,.ite (.or #[.not (.bfn .isi #[@0,.tup #[.bty "list" .lst,.bty "tuple" .tup]]),.not (.bfn .all #[.comp ["thing"] [] [] (.nm 0) (.of @0) .nil (.call 10 #[@0])])]) #[.raise 5 0 @0] .nil,.expr (.call 7 #[.bfn .len #[@0]]),.for_ (.nm 1) (.of @0) #[.expr (.call 4 #[.idx @1 ↑0])],.ret (.bfn .tup #[@0])],[]⟩
noncomputable def d12:Av:=⟨["work"],["work","rows","word","part","road","deeper"],
 #[.set 1 (.lstL #[.tup #[.lst .nil,@0]]),.for_ (.tup [2,3]) (.of (.fld @0 7)) #[.for_ (.tup [4,5]) (.of (.call 12 #[@3])) #[.expr (.mmt .app @1 #[.tup #[.bin .add (.lst #[.tup #[@2,.fld @3 8]]) @4,@5]])]],.ret (.mov 1)],[]⟩
noncomputable def d13:Av:=⟨["work"],["work"],
 #[.ret (.bin .add ↑1 (.bfn .max #[.comp ["road","part"] [] [] (.tup [0,1]) (.of (.call 12 #[@0])) .nil (.bfn .len #[@0])]))],[]⟩
noncomputable def d14:Av:=⟨["work"],["work","names","road","part"],
 #[.set 1 (.lstL .nil),.for_ (.tup [2,3]) (.of (.call 12 #[@0])) #[.ite (.cmp .in_ (.fld @3 8) @1) #[.raise 6 8 (.fld @3 8)] .nil,.expr (.mmt .app @1 #[.fld @3 8])],.expr (.call 8 #[.bfn .len #[@1]]),.expr (.call 9 #[.call 13 #[@0]])],[]⟩
noncomputable def d15:Av:=⟨["work","name"],["work","name","row"],
 #[.for_ (.nm 2) (.of (.call 12 #[@0])) #[.ite (.cmp .eq (.fld (.idx @2 ↑1) 8) @1) #[.ret @2] .nil],.raise 3 0 @1],[]⟩
noncomputable def d16:Av:=⟨["work","name","part"],["work","name","part"],
 #[.ite (.cmp .eq (.fld @0 8) @1) #[.ret @2] .nil,.ret (.make 14 #[.fld @0 8,.fld @0 9,.comp ["word","deeper"] ["name","part"] [1,2] (.tup [0,1]) (.of (.fld @0 7)) .nil (.tup #[@0,.call 16 #[@1,@2,@3]])])],[]⟩
noncomputable def d17:Av:=⟨["work","upper","beneath"],["work","upper","beneath"],
 #[.ret (.call 16 #[@0,.fld @1 8,.make 14 #[.fld @1 8,.fld @1 9,@2]])],[]⟩
noncomputable def d18:Av:=⟨["work","part"],["work","part","names","name"],
 #[.set 2 (.meth 19 @0 .nil),.for_ (.nm 3) (.of (.meth 19 @1 .nil)) #[.ite (.cmp .in_ @3 @2) #[.raise 6 8 @3] .nil]],[]⟩
noncomputable def d19:Av:=⟨["work","under","join","part"],["work","under","join","part","upper"],
 #[.set 4 (.meth 11 @0 #[@1]),.ite (.not (.bfn .isi #[@3,.glo "Part" (.cls 14)])) #[.raise 5 0 @3] .nil,.expr (.call 4 #[@2]),.expr (.call 7 #[.bin .add (.bfn .len #[.fld @4 7]) ↑1]),.expr (.call 18 #[@0,@3]),.expr (.call 8 #[.bin .add (.bfn .len #[.meth 19 @0 .nil]) (.bfn .len #[.meth 19 @3 .nil])]),.expr (.call 9 #[.bin .add (.bin .add ↑1 (.bfn .len #[.meth 28 @0 #[@1]])) (.call 13 #[@3])]),.ret (.call 17 #[@0,@4,.bin .add (.fld @4 7) (.tup #[.tup #[@2,@3]])])],[]⟩
noncomputable def d20:Av:=⟨["work","name"],["work","name","road","names"],
 #[.set 2 (.meth 28 @0 #[@1]),.ite (.not @2) #[.raise 3 0 @1] .nil,.set 3 (.bin .add (.lst #[.fld @0 8]) (.comp ["word","lower"] [] [] (.tup [0,1]) (.of @2) .nil @1)),.ret (.meth 11 @0 #[.idx @3 (.una .neg ↑2)])],[]⟩
noncomputable def d21:Av:=⟨["work","name"],["work","name","upper"],
 #[.set 2 (.call 20 #[@0,@1]),.ret (.call 17 #[@0,@2,.comp ["word","part"] ["name"] [1] (.tup [0,1]) (.of (.fld @2 7)) #[.cmp .ne (.fld @1 8) @2] (.tup #[@0,@1])])],[]⟩
noncomputable def d22:Av:=⟨["work","name","join"],["work","name","join","upper"],
 #[.set 3 (.call 20 #[@0,@1]),.expr (.call 4 #[@2]),.ret (.call 17 #[@0,@3,.comp ["word","part"] ["name","join"] [1,2] (.tup [0,1]) (.of (.fld @3 7)) .nil (.tup #[.ife (.cmp .eq (.fld @1 8) @2) @3 @0,@1])])],[]⟩
noncomputable def d23:Av:=⟨["work","name","offers"],["work","name","offers","part"],
 #[.set 3 (.meth 11 @0 #[@1]),.ite (.not (.call 5 #[@2])) #[.raise 4 0 @2] .nil,.ret (.call 16 #[@0,.fld @3 8,.make 14 #[.fld @3 8,@2,.fld @3 7]])],[]⟩
noncomputable def d24:Av:=⟨["_law_script","_law_k"],["_law_script","_law_k"],
 #[.ite (.cmp .lt @1 (.bfn .len #[@0])) #[.ret (.idx @0 @1)] .nil,.ret (.bin .add (.bin .mul ↑7919 @1) ↑13)],[]⟩
noncomputable def d25:Av:=⟨["_law_cell_here","_law_k"],["_law_cell_here","_law_k","_law_number"],
 #[.set 2 (.bin .mod (.bin .add (.bin .add (.bin .mul (.bin .mod @0 ↑2147483629) ↑48271) (.bin .mul ↑7919 @1)) ↑101) ↑2147483647),.set 2 (.bin .mod (.bin .add (.bin .add (.bin .mul @2 @2) (.bin .mul ↑104729 @1)) ↑7) ↑2147483629),.ret (.bin .mod (.bin .mul @2 @2) ↑2147483587)],[]⟩
noncomputable def d26:Av:=⟨["_law_cell_here"],["_law_cell_here"],
 #[.ite (.cmp .ge @0 (.bin .pow ↑10 ↑18)) #[.ret (.lstL #[@0,.bin .mod @0 ↑2147483647,↑0])] .nil,.ret (.lstL #[↑0,.bin .mod @0 ↑2147483647,↑0])],[]⟩
noncomputable def d27:Av:=⟨["_law_box_here","_law_many"],["_law_box_here","_law_many","_law_number"],
 #[.ite (.cmp .gt (.idx @0 ↑0) ↑0) #[.set 2 (.bin .mod (.idx @0 ↑0) @1),.setI @0 ↑0 (.bin .fdiv (.idx @0 ↑0) @1),.ret @2] .nil,.setI @0 ↑2 (.bin .add (.idx @0 ↑2) ↑1),.ret (.bin .mod (.call 25 #[.idx @0 ↑1,.idx @0 ↑2]) @1)],[]⟩
noncomputable def d28:Av:=⟨["_law_cell_here","_law_many"],["_law_cell_here","_law_many","_law_letters","_law_box_here","_law_size","_law_at","_law_way","_law_base","_law_first","_law_found","_law_k","_law_letter"],
 #[.set 2 (.con (.str "abcdefghijklmnopqrstuvwxyz")),.set 3 (.call 26 #[@0]),.set 4 (.call 27 #[@3,↑8]),.set 5 (.call 27 #[@3,.bin .add @4 ↑1]),.set 6 (.call 27 #[@3,↑2]),.set 7 (.bmt .join (.con (.str "")) #[.comp ["_law_k"] ["_law_letters","_law_box_here"] [2,3] (.nm 0) (.rng1 @4) .nil (.idx @1 (.call 27 #[@2,↑26]))]),.set 8 (.call 27 #[@3,↑26]),.set 9 (.lstL .nil),.for_ (.nm 10) (.rng1 @1) #[.set 11 (.idx @2 (.bin .mod (.bin .add @8 (.bin .mul ↑7 @10)) ↑26)),.ite (.cmp .gt @10 ↑25) #[.expr (.mmt .app @9 #[.bin .add (.bin .add @11 (.bin .mul (.con (.str "qz")) ↑3)) (.bin .mul (.con (.str "x")) (.idx (.lst #[↑1,↑0]) (.bfn .int #[.cmp .eq @4 ↑7])))])] #[.ite (.cmp .eq @6 ↑0) #[.expr (.mmt .app @9 #[.bin .add (.bin .add (.sli @7 .no (.ye @5)) @11) (.sli @7 (.ye @5) .no)])] #[.expr (.mmt .app @9 #[.bin .add @11 (.sli @7 .no (.ye (.call 27 #[@3,.bin .add (.bfn .min #[@4,↑5]) ↑1])))])]]],.ret (.mov 9)],[]⟩
noncomputable def d29:Av:=⟨["_law_box_here","_law_keys"],["_law_box_here","_law_keys","_law_found","_law_k","_law_key"],
 #[.set 2 (.lstL .nil),.for_ (.nm 3) (.rng1 (.idx (.lst #[↑0,↑1,↑2,↑2,↑2,↑2]) (.call 27 #[@0,↑6]))) #[.ite (.cmp .ne @1 (.lst .nil)) #[.set 4 (.idx @1 (.call 27 #[@0,.bfn .len #[@1]])),.ite (.cmp .notin @4 @2) #[.expr (.mmt .app @2 #[@4])] .nil] .nil],.ret (.bfn .tup #[@2])],[]⟩
noncomputable def d30:Av:=⟨["_law_cell_here","_law_names_here","_law_keys"],["_law_cell_here","_law_names_here","_law_keys","_law_box_here","_law_many","_law_rows","_law_k","_law_above_here","_law_beneath","_law_join"],
 #[.set 3 (.call 26 #[@0]),.set 4 (.idx (.lst #[.bin .add ↑1 (.call 27 #[@3,↑8]),.bin .add ↑1 (.call 27 #[@3,.bfn .len #[@1]])]) (.bfn .int #[.cmp .eq (.call 27 #[@3,↑8]) ↑0])),.set 5 (.lstL #[.tup #[.idx @1 ↑0,.call 29 #[@3,@2],.una .neg ↑1,.con (.str ""),↑1]]),.for_ (.nm 6) (.rng2 ↑1 @4) #[.set 7 (.call 27 #[@3,.bfn .len #[@5]]),.set 8 (.bfn .len #[.comp ["_law_row"] ["_law_above_here"] [7] (.nm 0) (.of @5) #[.cmp .eq (.idx @0 ↑2) @1] @0]),.ite (.and #[.cmp .lt @8 ↑6,.cmp .lt (.idx (.idx @5 @7) ↑4) ↑6]) #[.set 9 (.idx (.lst #[.con (.str "called"),.con (.str "beside"),.con (.str "joined"),.con (.str "changed"),.con (.str "changed"),.con (.str "joined")]) (.call 27 #[@3,↑6])),.expr (.mmt .app @5 #[.tup #[.idx @1 @6,.call 29 #[@3,@2],@7,@9,.bin .add (.idx (.idx @5 @7) ↑4) ↑1]])] .nil],.ret (.mov 5)],[]⟩
noncomputable def d31:Av:=⟨["_law_rows","_law_at"],["_law_rows","_law_at","_law_beneath","_law_k","_law_row"],
 #[.set 2 (.lstL .nil),.for_ (.tup [3,4]) (.enu @0) #[.ite (.cmp .eq (.idx @4 ↑2) @1) #[.expr (.mmt .app @2 #[.tup #[.idx @4 ↑3,.call 31 #[@0,@3]]])] .nil],.ret (.tup #[.idx (.idx @0 @1) ↑0,.idx (.idx @0 @1) ↑1,.bfn .tup #[@2]])],[]⟩
noncomputable def d32:Av:=⟨["_law_nested_here"],["_law_nested_here"],
 #[.ret (.make 14 #[.idx @0 ↑0,.idx @0 ↑1,.comp ["_law_join","_law_inner"] [] [] (.tup [0,1]) (.of (.idx @0 ↑2)) .nil (.tup #[@0,.call 32 #[@1]])])],[]⟩
noncomputable def d33:Av:=⟨["_law_nested_here"],["_law_nested_here","_law_found","_law_join","_law_inner"],
 #[.set 1 (.lstL #[@0]),.for_ (.tup [2,3]) (.of (.idx @0 ↑2)) #[.expr (.mmt .ext @1 #[.call 33 #[@3]])],.ret (.mov 1)],[]⟩
noncomputable def d34:Av:=⟨["_law_nested_here"],["_law_nested_here"],
 #[.ret (.bin .add ↑1 (.bfn .max #[.bin .add (.lst #[↑0]) (.comp ["_law_join","_law_inner"] [] [] (.tup [0,1]) (.of (.idx @0 ↑2)) .nil (.call 34 #[@1]))]))],[]⟩
noncomputable def d35:Av:=⟨["_law_nested_here","_law_name","_law_change"],["_law_nested_here","_law_name","_law_change","_law_beneath"],
 #[.set 3 (.bfn .tup #[.comp ["_law_join","_law_inner"] ["_law_name","_law_change"] [1,2] (.tup [0,1]) (.of (.idx @0 ↑2)) .nil (.tup #[@0,.call 35 #[@1,@2,@3]])]),.set 0 (.tup #[.idx @0 ↑0,.idx @0 ↑1,@3]),.ite (.cmp .eq (.idx @0 ↑0) @1) #[.ret (.calv 2 #[@0])] .nil,.ret @0],[]⟩
noncomputable def d36:Av:=⟨["_law_nested_here"],["_law_nested_here"],
 #[.ret (.comp ["_law_one"] [] [] (.nm 0) (.of (.call 33 #[@0])) .nil (.idx @0 ↑0))],[]⟩
noncomputable def d37:Av:=⟨["_law_nested_here","_law_name"],["_law_nested_here","_law_name","_law_join","_law_inner"],
 #[.ite (.cmp .eq (.idx @0 ↑0) @1) #[.ret ↑1] .nil,.for_ (.tup [2,3]) (.of (.idx @0 ↑2)) #[.ite (.cmp .in_ @1 (.call 36 #[@3])) #[.ret (.bin .add ↑1 (.call 37 #[@3,@1]))] .nil],.ret ↑0],[]⟩
noncomputable def d38:Av:=⟨["_law_box_here","_law_names_here","_law_keys"],["_law_box_here","_law_names_here","_law_keys","_law_many","_law_first","_law_row","_law_found","_law_k","_law_offers_here"],
 #[.set 3 (.bin .add ↑1 (.call 27 #[@0,↑4])),.set 4 (.call 27 #[@0,.bin .add (.bin .sub (.bfn .len #[@1]) @3) ↑1]),.set 5 (.cmp .eq (.call 27 #[@0,↑2]) ↑0),.set 6 (.con .non),.for_ (.nm 7) (.rng1 @3) #[.set 8 (.bfn .tup #[.bin .mul (.lst #[.idx @2 (.call 27 #[@0,.bfn .len #[@2]])]) (.call 27 #[@0,↑2])]),.ite (.or #[.cmp .is_ @6 (.con .non),@5]) #[.set 6 (.tup #[.idx @1 (.bin .add @4 @7),@8,.ife (.cmp .is_ @6 (.con .non)) (.tup .nil) (.tup #[.tup #[.con (.str "joined"),@6]])])] #[.set 6 (.tup #[.idx @6 ↑0,.idx @6 ↑1,.bin .add (.idx @6 ↑2) (.tup #[.tup #[.con (.str "beside"),.tup #[.idx @1 (.bin .add @4 @7),@8,.tup .nil]]])])]],.ret @6],[]⟩
noncomputable def d39:Av:=⟨["_law_thing"],["_law_thing"],
 #[.ret (.and #[.bfn .isi #[@0,.bty "str" .str],.cmp .in_ @0 (.lst #[.con (.str "called"),.con (.str "beside"),.con (.str "joined"),.con (.str "changed")])])],[]⟩
noncomputable def d40:Av:=⟨["_law_work","_law_under","_law_join","_law_part_here","_law_thing"],["_law_work","_law_under","_law_join","_law_part_here","_law_thing","_law_names_here","_law_here","_law_both","_law_deep_here"],
 #[.set 5 (.call 36 #[@0]),.ite (.or #[.not (.bfn .isi #[@1,.bty "str" .str]),.cmp .notin @1 @5]) #[.ret (.lst #[.con (.str "part"),@1])] .nil,.ite (.cmp .is_ @3 (.con .non)) #[.ret (.lst #[.con (.str "beneath"),@4])] .nil,.ite (.not (.call 39 #[@2])) #[.ret (.lst #[.con (.str "join"),@2])] .nil,.set 6 (.idx (.comp ["_law_one"] ["_law_under"] [1] (.nm 0) (.of (.call 33 #[@0])) #[.cmp .eq (.idx @0 ↑0) @1] @0) ↑0),.ite (.cmp .gt (.bfn .len #[.idx @6 ↑2]) ↑5) #[.ret (.lst #[.con (.str "many"),↑7])] .nil,.setC 7 (.comp ["_law_name"] ["_law_names_here"] [5] (.nm 0) (.of (.call 36 #[@3])) #[.cmp .in_ @0 @1] @0),.ite (.cmp .ne @7 (.lst .nil)) #[.ret (.lst #[.con (.str "doubled"),.idx @7 ↑0])] .nil,.ite (.cmp .gt (.bin .add (.bfn .len #[@5]) (.bfn .len #[.call 36 #[@3]])) ↑30) #[.ret (.lst #[.con (.str "many"),.bin .add (.bfn .len #[@5]) (.bfn .len #[.call 36 #[@3]])])] .nil,.set 8 (.bin .add (.call 37 #[@0,@1]) (.call 34 #[@3])),.ite (.cmp .gt @8 ↑6) #[.ret (.lst #[.con (.str "deep"),@8])] .nil,.ret (.lst #[.con (.str "work"),.calL 35 #[@0,@1] 60 [2,3]])],[⟨341,53,341,142⟩]⟩
noncomputable def d41:Av:=⟨["_law_one","_law_name"],["_law_one","_law_name"],
 #[.ret (.tup #[.idx @0 ↑0,.idx @0 ↑1,.bfn .tup #[.comp ["_law_row"] ["_law_name"] [1] (.nm 0) (.of (.idx @0 ↑2)) #[.cmp .ne (.idx (.idx @0 ↑1) ↑0) @1] @0]])],[]⟩
noncomputable def d42:Av:=⟨["_law_one","_law_name","_law_join"],["_law_one","_law_name","_law_join"],
 #[.ret (.tup #[.idx @0 ↑0,.idx @0 ↑1,.bfn .tup #[.comp ["_law_row"] ["_law_join","_law_name"] [2,1] (.nm 0) (.of (.idx @0 ↑2)) .nil (.tup #[.idx (.lst #[.idx @0 ↑0,@1]) (.bfn .int #[.cmp .eq (.idx (.idx @0 ↑1) ↑0) @2]),.idx @0 ↑1])]])],[]⟩
noncomputable def d43:Av:=⟨["_law_work","_law_name"],["_law_work","_law_name"],
 #[.ret (.comp ["_law_one"] ["_law_name"] [1] (.nm 0) (.of (.call 33 #[@0])) #[.cmp .in_ @1 (.comp ["_law_join","_law_inner"] [] [] (.tup [0,1]) (.of (.idx @0 ↑2)) .nil (.idx @1 ↑0))] (.idx @0 ↑0))],[]⟩
noncomputable def d44:Av:=⟨["_law_work","_law_name"],["_law_work","_law_name","_law_above_here"],
 #[.set 2 (.call 43 #[@0,@1]),.ite (.cmp .eq @2 (.lst .nil)) #[.ret (.lst #[.con (.str "part"),@1])] .nil,.ret (.lst #[.con (.str "work"),.calL 35 #[@0,.idx @2 ↑0] 61 [1]])],[⟨352,61,352,107⟩]⟩
noncomputable def d45:Av:=⟨["_law_work","_law_name","_law_join"],["_law_work","_law_name","_law_join","_law_above_here"],
 #[.set 3 (.call 43 #[@0,@1]),.ite (.cmp .eq @3 (.lst .nil)) #[.ret (.lst #[.con (.str "part"),@1])] .nil,.ite (.not (.call 39 #[@2])) #[.ret (.lst #[.con (.str "join"),@2])] .nil,.ret (.lst #[.con (.str "work"),.calL 35 #[@0,.idx @3 ↑0] 62 [1,2]])],[⟨359,61,359,119⟩]⟩
noncomputable def d46:Av:=⟨["_law_work","_law_name","_law_offers_here","_law_good_here"],["_law_work","_law_name","_law_offers_here","_law_good_here"],
 #[.ite (.or #[.not (.bfn .isi #[@1,.bty "str" .str]),.cmp .notin @1 (.call 36 #[@0])]) #[.ret (.lst #[.con (.str "part"),@1])] .nil,.ite (.not @3) #[.ret (.lst #[.con (.str "offers"),@2])] .nil,.ret (.lst #[.con (.str "work"),.calL 35 #[@0,@1] 63 [2]])],[⟨365,52,365,120⟩]⟩
noncomputable def d47:Av:=⟨["_law_e"],["_law_e"],
 #[.ite (.bfn .isi #[@0,.glo "NoPart" (.cls 3)]) #[.ret (.lst #[.con (.str "part"),.fld @0 0])] .nil,.ite (.bfn .isi #[@0,.glo "BadBeneath" (.cls 5)]) #[.ret (.lst #[.con (.str "beneath"),.fld @0 0])] .nil,.ite (.bfn .isi #[@0,.glo "NoJoin" (.cls 2)]) #[.ret (.lst #[.con (.str "join"),.fld @0 0])] .nil,.ite (.bfn .isi #[@0,.glo "BadOffers" (.cls 4)]) #[.ret (.lst #[.con (.str "offers"),.fld @0 0])] .nil,.ite (.bfn .isi #[@0,.glo "Doubled" (.cls 6)]) #[.ret (.lst #[.con (.str "doubled"),.fld @0 8])] .nil,.ite (.bfn .isi #[@0,.tup #[.glo "TooMany" (.cls 7),.glo "TooDeep" (.cls 8)]]) #[.ret (.lst #[.idx (.lst #[.con (.str "many"),.con (.str "deep")]) (.bfn .int #[.bfn .isi #[@0,.glo "TooDeep" (.cls 8)]]),.fld @0 6])] .nil,.ret (.lst #[.con (.str "other"),.con .non])],[]⟩
noncomputable def d48:Av:=⟨["_law_work","_law_deed_here"],["_law_work","_law_deed_here","_law_told","_law_e"],
 #[.set 2 (.con .non),.tryE #[.ite (.cmp .eq (.idx @1 ↑0) (.con (.str "put"))) #[.set 2 (.lst #[.con (.str "work"),.call 19 #[@0,.idx @1 ↑1,.idx @1 ↑2,.idx @1 ↑3]])] #[.ite (.cmp .eq (.idx @1 ↑0) (.con (.str "out"))) #[.set 2 (.lst #[.con (.str "work"),.call 21 #[@0,.idx @1 ↑1]])] #[.ite (.cmp .eq (.idx @1 ↑0) (.con (.str "join"))) #[.set 2 (.lst #[.con (.str "work"),.call 22 #[@0,.idx @1 ↑1,.idx @1 ↑2]])] #[.set 2 (.lst #[.con (.str "work"),.call 23 #[@0,.idx @1 ↑1,.idx @1 ↑2]])]]]] (.cons 0 3 #[.set 2 (.call 47 #[@3])] .nil),.ret @2],[]⟩
noncomputable def d49:Av:=⟨["_law_box_here","_law_model","_law_names_here","_law_keys"],["_law_box_here","_law_model","_law_names_here","_law_keys","_law_some","_law_name","_law_join","_law_odd","_law_way","_law_part_here","_law_thing","_law_offers_here","_law_good_here"],
 #[.set 4 (.call 36 #[@1]),.set 5 (.idx @4 (.call 27 #[@0,.bfn .len #[@4]])),.set 6 (.idx (.lst #[.con (.str "called"),.con (.str "beside"),.con (.str "joined"),.con (.str "changed")]) (.call 27 #[@0,↑4])),.set 7 (.cmp .eq (.call 27 #[@0,↑4]) ↑0),.ite (.and #[@7,.cmp .eq (.call 27 #[@0,↑2]) ↑0]) #[.set 5 (.idx (.lst #[.con .non,↑7,.con (.str ""),.tup #[@5],.lst #[@5],.idx @4 ↑0,.idx @2 (.call 27 #[@0,.bfn .len #[@2]])]) (.call 27 #[@0,↑7]))] #[.ite @7 #[.set 6 (.idx (.lst #[.con .non,.con (.str "Called"),.con (.str ""),↑3,.tup #[.con (.str "joined")],.lst #[.con (.str "changed")],.con (.bl true)]) (.call 27 #[@0,↑7]))] .nil],.set 8 (.call 27 #[@0,↑6]),.ite (.cmp .lt @8 ↑3) #[.set 9 (.call 38 #[@0,@2,@3]),.ite (.and #[@7,.cmp .eq (.call 27 #[@0,↑3]) ↑0]) #[.set 9 (.con .non)] .nil,.set 10 (.idx (.lst #[.con .non,.con (.str "core"),.tup #[.con (.str "core"),.tup .nil,.tup .nil],.lst .nil,↑7,.con (.bl true),.dicL false]) (.call 27 #[@0,↑7])),.ite (.cmp .isnot @9 (.con .non)) #[.set 10 (.call 32 #[@9])] .nil,.ret (.tup #[.tup #[.con (.str "put"),@5,@6,@10],.call 40 #[@1,@5,@6,@9,@10]])] .nil,.ite (.cmp .eq @8 ↑3) #[.ret (.tup #[.tup #[.con (.str "out"),@5],.call 44 #[@1,@5]])] .nil,.ite (.cmp .eq @8 ↑4) #[.ret (.tup #[.tup #[.con (.str "join"),@5,@6],.call 45 #[@1,@5,@6]])] .nil,.setC 11 (.comp ["_law_k"] ["_law_keys","_law_box_here"] [3,0] (.nm 0) (.rng1 (.call 27 #[@0,↑3])) .nil (.idx @1 (.call 27 #[@2,.bfn .len #[@1]]))),.set 12 (.cmp .eq (.lenset @11) (.bfn .len #[@11])),.ite (.and #[@7,.cmp .eq (.call 27 #[@0,↑2]) ↑0]) #[.set 11 (.idx (.lst #[.con .non,.sli @3 .no (.ye ↑3),.con (.str "ab"),.idx @3 ↑0,.lst #[.con .non],.lst #[.bfn .lst #[.idx @3 ↑0]],.lst #[.tup #[.con (.str "a"),↑100]]]) (.call 27 #[@0,↑7])),.set 12 (.con (.bl false))] .nil,.ret (.tup #[.tup #[.con (.str "offers"),@5,@11],.call 46 #[@1,@5,@11,@12]])],[]⟩
noncomputable def d50:Av:=⟨["_law_work","_law_model","_law_deed_here","_law_due"],["_law_work","_law_model","_law_deed_here","_law_due","_law_found"],
 #[.set 4 (.call 48 #[@0,@2]),.ite (.or #[.cmp .ne (.meth 29 @0 .nil) @1,.cmp .is_ @4 (.con .non),.cmp .ne (.idx @4 ↑0) (.idx @3 ↑0)]) #[.ret (.con .non)] .nil,.ite (.cmp .ne (.idx @3 ↑0) (.con (.str "work"))) #[.ite (.cmp .ne (.idx @4 ↑1) (.idx @3 ↑1)) #[.ret (.con .non)] .nil,.ret (.lst #[@0,@1])] .nil,.ite (.or #[.not (.bfn .isi #[.idx @4 ↑1,.glo "Part" (.cls 14)]),.cmp .ne (.meth 29 (.idx @4 ↑1) .nil) (.idx @3 ↑1)]) #[.ret (.con .non)] .nil,.ret (.lst #[.idx @4 ↑1,.idx @3 ↑1])],[]⟩
noncomputable def d51:Av:=⟨["self"],["self"],
 #[.ret (.con (.str "called"))],[]⟩
noncomputable def d52:Av:=⟨["self"],["self"],
 #[.ret (.con (.str "beside"))],[]⟩
noncomputable def d53:Av:=⟨["self"],["self"],
 #[.ret (.con (.str "joined"))],[]⟩
noncomputable def d54:Av:=⟨["self"],["self"],
 #[.ret (.con (.str "changed"))],[]⟩
noncomputable def d55:Av:=⟨["self","name","offers","beneath"],["self","name","offers","beneath"],
 #[.ite (.not (.call 1 #[@1])) #[.raise 1 0 @1] .nil,.setF @0 8 @1,.setF @0 9 (.call 6 #[@2]),.setF @0 7 (.call 11 #[@3]),.expr (.call 14 #[.mov 0])],[]⟩
noncomputable def d56:Av:=⟨["self"],["self"],
 #[.ret (.comp ["road","part"] [] [] (.tup [0,1]) (.of (.call 12 #[@0])) .nil (.fld @1 8))],[]⟩
noncomputable def d57:Av:=⟨["self","name"],["self","name"],
 #[.ret (.idx (.call 15 #[@0,@1]) ↑1)],[]⟩
noncomputable def d58:Av:=⟨["self","name"],["self","name"],
 #[.ret (.idx (.call 15 #[@0,@1]) ↑0)],[]⟩
noncomputable def d59:Av:=⟨["self"],["self"],
 #[.ret (.tup #[.fld @0 8,.fld @0 9,.bfn .tup #[.comp ["word","part"] [] [] (.tup [0,1]) (.of (.fld @0 7)) .nil (.tup #[@0,.meth 29 @1 .nil])]])],[]⟩
noncomputable def T:Tb where
 cs:=[⟨"GrantError",true,[],[0],none,[]⟩,⟨"NoWord",true,[0],[0,1],none,[]⟩,⟨"NoJoin",true,[0],[0,2],none,[]⟩,⟨"NoPart",true,[0],[0,3],none,[]⟩,⟨"BadOffers",true,[0],[0,4],none,[]⟩,⟨"BadBeneath",true,[0],[0,5],none,[]⟩,⟨"Doubled",true,[8],[0,6],none,[]⟩,⟨"TooMany",true,[6],[0,7],none,[]⟩,⟨"TooDeep",true,[6],[0,8],none,[]⟩,⟨"Join",false,[],[9],none,[]⟩,⟨"Called",false,[],[9,10],none,[(1,51)]⟩,⟨"Beside",false,[],[9,11],none,[(1,52)]⟩,⟨"Joined",false,[],[9,12],none,[(1,53)]⟩,⟨"Changed",false,[],[9,13],none,[(1,54)]⟩,⟨"Part",false,[8,9,7],[14],some 55,[(19,56),(11,57),(28,58),(29,59)]⟩]
 names:=[s "found",s "word",s "closeness",s "lets",s "reach",s "fault",s "many",s "beneath",s "name",s "offers",s "licence",s "at",s "closeness_of",s "all_keys",s "covers",s "strings",s "bars",s "key",s "asks",s "all_names",s "coverers",s "wants_same",s "is_later",s "__init__",s "same",s "first",s "last",s "lasting",s "road",s "told"]
 glo:=[("LETTERS",(.str "abcdefghijklmnopqrstuvwxyz")),("LONGEST_WORD",(.int 8)),("GREATEST_NUMBER",(.int 99)),("MOST_OFFERS",(.int 2)),("MOST_BENEATH",(.int 6)),("MOST_PARTS",(.int 30)),("MOST_DEEP",(.int 6))]
 blt:=[s "all",s "bool",s "enumerate",s "int",s "isinstance",s "len",s "list",s "max",s "min",s "range",s "set",s "str",s "tuple"]
 fns:=[s "is_whole",s "is_word",s "is_key",s "all_joins",s "join_of",s "are_offers",s "kept_offers",s "need_few_beneath",s "need_few_parts",s "need_not_deep",s "is_joined_part",s "kept_beneath",s "walked",s "depth_of",s "need_bounds",s "row_of",s "with_part",s "with_beneath",s "need_unlike_names",s "put_beneath",s "upper_of",s "taken_out",s "rejoined",s "reoffered",s "_law_cell",s "_law_mixed",s "_law_box",s "_law_take",s "_law_words",s "_law_offers",s "_law_tree",s "_law_nested",s "_law_part",s "_law_all",s "_law_deep",s "_law_with",s "_law_names",s "_law_depth_at",s "_law_fresh",s "_law_is_join",s "_law_put_due",s "_law_cut",s "_law_tied",s "_law_above",s "_law_out_due",s "_law_join_due",s "_law_offer_due",s "_law_refused",s "_law_done",s "_law_deed",s "_law_good"]
 mths:=[(10,1),(11,1),(12,1),(13,1),(14,23),(14,19),(14,11),(14,28),(14,29)]
 ds:=[d0,d1,d2,d3,d4,d5,d6,d7,d8,d9,d10,d11,d12,d13,d14,d15,d16,d17,d18,d19,d20,d21,d22,d23,d24,d25,d26,d27,d28,d29,d30,d31,d32,d33,d34,d35,d36,d37,d38,d39,d40,d41,d42,d43,d44,d45,d46,d47,d48,d49,d50,d51,d52,d53,d54,d55,d56,d57,d58,d59]
 lds:=[([s "_law_join",s "_law_part_here"],[s "_law_one"],(.tup #[.idx @2 ↑0,.idx @2 ↑1,.bin .add (.idx @2 ↑2) (.tup #[.tup #[@0,@1]])])),([s "_law_name"],[s "_law_one"],(.call 41 #[@1,@0])),([s "_law_name",s "_law_join"],[s "_law_one"],(.call 42 #[@2,@0,@1])),([s "_law_offers_here"],[s "_law_one"],(.tup #[.idx @1 ↑0,.bfn .tup #[@0],.idx @1 ↑2]))]
noncomputable def dL:Ub:=⟨"_law_script",["_law_script","_law_names_here","_law_keys","_law_model","_law_work","_law_cell_here","_law_deed_here","_law_due","_law_both"],
 (.o (.set 1 (.call 28 #[.call 24 #[@0,↑0],↑30]))
 (.o (.setC 2 (.comp ["_law_k"] ["_law_names_here"] [1] (.nm 0) (.rng1 ↑4) .nil (.tup #[.idx @1 @0,.bin .mul ↑7 @0])))
 (.o (.set 3 (.call 31 #[.call 30 #[.call 24 #[@0,↑1],.call 28 #[.call 24 #[@0,↑2],↑30],@2],↑0]))
 (.o (.set 4 (.call 32 #[@3]))
 (.for_ (.nm 5) (.bin .add (.sli @0 (.ye ↑3) (.ye ↑43)) (.lst #[↑1,↑2,↑3])) (.o (.setT (.tup [6,7]) (.call 49 #[.call 26 #[@5],@3,@1,@2]))
 (.o (.set 8 (.call 50 #[@4,@3,@6,@7]))
 (.o (.ite (.cmp .is_ @8 (.con .non)) #[.ret (.con (.bl false))] .nil)
 (.o (.setT (.lst [4,3]) @8)
 (.ite (.and #[.cmp .eq (.idx @6 ↑0) (.con (.str "offers")),.bfn .isi #[.idx @6 ↑2,.bty "list" .lst]]) (.sp (.idx @6 ↑2) (.tup #[.con (.str "zz"),↑1]) (.o (.ite (.cmp .ne (.meth 29 @4 .nil) @3) #[.ret (.con (.bl false))] .nil)
 .nil)) .nil .nil))))) (.o (.ret (.con (.bl true)))
 .nil))))))⟩
end
noncomputable abbrev Ph(n:Nat):Fs:=DU T.gt T.all n
def X3(c k:Int):Int:=
 let a:=(c%2147483629*48271+7919*k+101)%2147483647
 let b:=(a*a+104729*k+7)%2147483629
 b*b%2147483587
def RC{n:Nat}{c k:Int}:Ph (n+1) 25 [.v (.int c),.v (.int k)] h=.ok (.v (.int (X3 c k))) h:=by
 refine Ai (d:=d25) rfl rfl ?_;simp[d25];rfl
def Kb{n:Nat}{l:List Int}{k:Int}{h:MH}(hk:0<=k):∃m,Ph (n+1) 24 [.v (.scr (l.map .int)),.v (.int k)] h=.ok (.v (.int m)) h:=by
 refine⟨if k<l.length then l.getD k.toNat 0 else 7919*k+13,Ai (d:=d24) rfl rfl ?_⟩;by_cases hc:k<l.length
 ·have:k.toNat<l.length:=by lia
  simp[d24,hc,hk,this]
 simp[d24,hc]
end BK71
namespace B
open PySem L2 PySem.SeqAt
section
variable {n:Nat}
noncomputable def ku(b:Mm)(fs:En->MH->Aw (List R))(μ:En)(h1:MH)(x:R):Aw R:=if (match x with| .r n=>X9 h1[n]? |_=>false)=true then(fs μ h1).bind λrs h2=>match x with
 |.r n=>match h2[n]?,vals rs with
  |some (.lst l),some as=>(match O0 b l as with
   |some l'=>.ok (.v .non) (h2.set n (.lst l'))
   |none=>.no)
  |_,_=>.no
 |_=>.no
 else .no
@[simp]def mI:(e2 cs Φ ini (.mmt b o es)).1 μ h=((e2 cs Φ ini o).1 μ h).bK λx h1=>ku b (BE cs Φ ini es) μ h1 x:=rfl
@[simp]def rf{n:Nat}:ku b fs μ h (.r n)=if X9 (GJ h n)=true then(fs μ h).bK λrs h2=>lW b n h2 (GJ h2 n) (vals rs) else .no:=rfl
@[simp]def vT:X9 (some (.lst l))=true:=rfl
@[simp]def vF:O0 .app l [m]=if l.length<big then some (l++ [m]) else none:=rfl
@[simp]def vE:O0 .ext l [.lst z]=if l.length+z.length<=big then some (l++z) else none:=rfl
@[simp]def nZ{i j:Int}:AK .eq (.int i) (.int j)=some (decide (i=j)):=rfl
@[simp]def nY{i j:Int}:AK .ne (.int i) (.int j)=some (!decide (i=j)):=rfl
noncomputable def Xk(cs:List Ci)(f:Nat)(μ:En)(n:Nat)(h:MH)(m:MV):Option MO->SR
 |some (.ins c ns ms)=>(cs[c]?).bind λi=>if i.exc=false/\f∈i.flds/\ns.length<1000 then some (.nx μ,AY h n (.ins c (CN f m ns ms).1 (CN f m ns ms).2)) else none
 |_=>none
noncomputable def Xj(cs:List Ci)(f:Nat)(μ:En)(x o:R)(h2:MH):SR:=match x,o with
 |.v m,.r n=>(match h2[n]? with
  |some (.ins c ns ms)=>(cs[c]?).bind λi=>if i.exc=false/\f∈i.flds/\ns.length<1000 then some (.nx μ,h2.set n (.ins c (CN f m ns ms).1 (CN f m ns ms).2)) else none
  |_=>none)
 |_,_=>none
@[simp]def nA{f m':Nat}{c:Nat}:Xk cs f μ m' h m (some (.ins c ns ms))=(cs[c]?).bind λi=>if i.exc=false/\f∈i.flds/\ns.length<1000 then some (.nx μ,AY h m' (.ins c (CN f m ns ms).1 (CN f m ns ms).2)) else none:=rfl
@[simp]def nw{f n:Nat}:Xj cs f μ (.v m) (.r n) h=Xk cs f μ n h m (GJ h n):=rfl
@[simp]def mB{f:Nat}:ex cs Φ ini (.setF o f e) μ h=BI μ (x:=(e2 cs Φ ini e).1 μ h) λx h1=>BI μ (x:=(e2 cs Φ ini o).1 μ h1) λo h2=>Xj cs f μ x o h2:=rfl
end
def Az:(e2 cs Φ ini (.comp xs ys js tg it c e)).1 μ h=Ck xs.length js tg (QG cs Φ ini it) (M6 cs Φ ini c) (e2 cs Φ ini e).1 μ h:=rfl
def Qu{k:Nat}(g:MV->MV)(htc:∀μ h,tc μ h=.ok true h)(hi:fi μ h=.ok ⟨l,none⟩ h1)(hl:l.length<=big)(st:∀m∈l,∃μ1,AR tg m (startC k js μ)=some μ1/\te μ1 h1=.ok (.v (g m)) h1):Ck k js tg fi tc te μ h=.ok (.v (.lst (l.map g))) h1:=by
 unfold Ck;rw[hi,Bl];show(if l.length<=big then(compLoop none l tg (startC k js μ) tc te l [] h1).bind λl h2=>Aw.ok (R.v (.lst l)) h2 else .no)=_;rw[if_pos hl,LY g htc st];rfl
def TZ:∀l:List MV,L9 [.lst (l.map λ_=>.bl true)]=some (.bl true):=by
 intro l;show(DF (l.map λ_=>.bl true)).map _=_;have:∀l:List MV,∃bs:List Bool,DF (l.map λ_=>MV.bl true)=some bs/\bs.all id=true:=by
  intro l
  induction l with
  |nil=>exact⟨[],rfl,rfl⟩
  |cons a l ih=>
   obtain⟨bs,h1,h2⟩:=ih;exact⟨true::bs,by show(DF (l.map λ_=>MV.bl true)).map _=_;rw[h1];rfl,by simpa using h2⟩
 obtain⟨bs,h1,h2⟩:=this l;rw[h1];simp[h2]
end B
namespace BK71
open PySem B L2
def BG(c:Nat):Prop:=97<=c/\c<=122
def AM(z:Str):Prop:=1<=z.length/\z.length<=8/\∀c∈z.cps.toList,BG c
def bo:∀c:Fin 26,rO ⟨#[97+c.val]⟩ "abcdefghijklmnopqrstuvwxyz"=true:=by decide +kernel
def Nv(c:Nat)(h:BG c):rO ⟨#[c]⟩ "abcdefghijklmnopqrstuvwxyz"=true:=by
 have:=bo ⟨c-97,by have:=h.2;lia⟩
 rwa[show 97+(c-97)=c from Nat.add_sub_cancel' h.1]at this
def JW{n:Nat}{z:Str}(hz:AM z):Ph (n+1) 1 [.v (.str z)] h=.ok (.v (.bl true)) h:=by
 refine Ai (d:=d1) rfl rfl ?_;obtain⟨h1,h2,h3⟩:=hz;have hb:z.length<=big:=by unfold big;lia
 have e1:Iy T.gt.cs [.str z,.ty .str]=some (.bl true):=rfl;have c1:(1:Int)<=z.length:=by lia
 have c2:(z.length:Int)<=8:=by lia
 have e2:Ck 1 [] (.nm 0) (QG T.gt.cs (DU T.gt T.all n) T.gt.ini (.of (.var 0))) (M6 T.gt.cs (DU T.gt T.all n) T.gt.ini .nil) (e2 T.gt.cs (DU T.gt T.all n) T.gt.ini (.cmp .in_ (.var 0) (.glo "LETTERS" (.str "abcdefghijklmnopqrstuvwxyz")))).1 [some (.v (.str z))] h=.ok (.v (.lst ((GM z).map λ_=>.bl true))) h:=by
  refine Qu (λ_=>.bl true) (λ_ _=>rfl) (by simp[Gz]) (by simp[GM];exact hb) λm hm=>?_;obtain⟨c,hc,rfl⟩:=aW.mp hm;refine⟨_,rfl,?_⟩;simp[startC,AK,gz,Nv c (h3 c hc)]
 simp[d1,e1,hb,c1,c2,Az,e2,TZ]
def Lr{n:Nat}{i:Int}:Ph (n+1) 0 [.v (.int i)] h=.ok (.v (.bl true)) h:=(show Ph (n+1) 0 [.v (.int i)] h=.ok (.v (.bl true)) (h.take h.length) from rfl).trans (by rw[cR])
def Zr{n:Nat}{z:Str}{i:Int}(hz:AM z)(h0:0<=i)(h1:i<=99):Ph (n+2) 2 [.v (.tup [.str z,.int i])] h=.ok (.v (.bl true)) h:=by
 refine Ai (d:=d2) rfl rfl ?_;have e1:Iy T.gt.cs [.tup [.str z,.int i],.ty .tup]=some (.bl true):=rfl;simp[d2,e1,JW hz,Lr,h0,h1]
end BK71
namespace B
open PySem L2 PySem.SeqAt
section
variable {i:Int}{z y:Str}
@[simp]def xy:AK .is_ .non .non=some true:=rfl
@[simp]def xz:AK .is_ (.lst l) .non=some false:=rfl
@[simp]def vR:AK .isnot .non .non=some false:=rfl
@[simp]def xE:AK .eq (.str z) (.str y)=some (decide (z=y)):=rfl
@[simp]def xl:AK .ne (.str z) (.str y)=some (!decide (z=y)):=rfl
@[simp]def Ml:BD .add (.str z) (.str y)=if z.length+y.length<=big then some (.str (z++y)) else none:=rfl
@[simp]def wK:BD .add (.lst l) (.lst l')=if l.length+l'.length<=big then some (.lst (l++l')) else none:=rfl
@[simp]def wJ:BD .add (.tup l) (.tup l')=if l.length+l'.length<=big then some (.tup (l++l')) else none:=rfl
@[simp]def vx:ZO .neg (.int i)=some (.int (-i)):=rfl
@[simp]def wO:Gz h (.v a)=(CM a).map λl=>⟨l,none⟩:=rfl
@[simp]def we:Tt (.v a)=(Rp a).map λl=>⟨EU l,none⟩:=rfl
end
@[simp]def Qh:Gm (hnew h o) (hlen h+1)=hnew h o:=by rw[←BZ (o:=o)];exact HU
def Ob(k:Sf)(u:Fx k:=.mk)(x:SR):SR:=match x with
 |some (.nx μ2,h2)=>k μ2 h2
 |x=>x
section
@[simp]def Hx:Ob (x:=some (.nx μ,h)) k=k μ h:=rfl
@[simp]def Rg:Ob (x:=some (.rt r,h)) k=some (.rt r,h):=rfl
@[simp]def ji:Ob (x:=some (.xc m μ,h)) k=some (.xc m μ,h):=rfl
def lM(k:En->SR)(u:Fx k:=.mk)(x:Option En):SR:=match x with
 |some μ=>k μ
 |none=>none
@[simp]def KI{k:En->SR}:lM (x:=some μ) k=k μ:=rfl
def Ca:AQ none all t b (m::l) μ h=lM (x:=AR t m μ) λμ1=>Ob (x:=b μ1 h) (AQ none all t b l):=rfl
def OI:AQ none all t b [] μ h=some (.nx μ,h):=rfl
end
theorem KA(P:Nat->En->MH->Prop):∀{l all:List MV}{k i:Nat}{m:MV}{μ:En}{h:MH},P i μ h->l[k]?=some m->
 (∀(j:Nat) (m:MV) (μ:En) (h:MH),j<k->l[j]?=some m->P (i+j) μ h->∃μ1 μ2 h2,AR t m μ=some μ1/\b μ1 h=some (.nx μ2,h2)/\P (i+j+1) μ2 h2)->
 (∀μ h,P (i+k) μ h->∃μ1,AR t m μ=some μ1/\b μ1 h=some (.rt r,h2))->AQ none all t b l μ h=some (.rt r,h2)
 |[],all,k,i,m,μ,h,p,e,_,_=>by simp at e
 |m'::l,all,0,i,m,μ,h,p,e,_,la=>by
  obtain⟨μ1,e1,e2⟩:=la μ h p;simp only[List.getElem?_cons_zero,Option.some.injEq]at e;subst e;rw[Ca,e1,KI,e2,Rg]
 |m'::l,all,k+1,i,m,μ,h,p,e,st,la=>by
  obtain⟨μ1,μ2,h3,e1,e2,p2⟩:=st 0 m' μ h (by lia) rfl p;rw[Ca,e1,KI,e2,Hx];refine KA P (k:=k) (i:=i+1) p2 (by simpa using e) (λj m μ h hj hm hp=>?_) (λμ h hp=>la μ h (by rw[show i+(k+1)=i+1+k by lia];exact hp));have:=st (j+1) m μ h (by lia) (by simpa using hm) (by rw[show i+(j+1)=i+1+j by lia];exact hp)
  rwa[show i+(j+1)+1=i+1+j+1 by lia]at this
def Ta(P:Nat->En->MH->Prop)(p0:P 0 μ h)(st:∀j m μ h,l[j]?=some m->P j μ h->∃μ1 μ2 h2,AR t m μ=some μ1/\b μ1 h=some (.nx μ2,h2)/\P (j+1) μ2 h2):∃μ' h',AQ none l t b l μ h=some (.nx μ',h')/\P l.length μ' h':=by
 obtain⟨μ',h',e,p⟩:=OJ (t:=t) (b:=b) P (l:=l) (all:=l) (i:=0) p0 λj m μ h hj hp=>by
  rw[dI]at hp ⊢;exact st j m μ h hj hp
 exact⟨μ',h',e,by rwa[dI]at p⟩
def Gx(s:SR)(H:MH)(E:En->Prop):Prop:=∃μ,s=some (.nx μ,H)/\E μ
@[simp]def nR:Gx (some (.nx μ,h)) H E=(h=H/\E μ):=by
  apply propext;constructor
  ·rintro⟨μ',e,p⟩
   injection e with e
   injection e with e1 e2
   injection e1 with e1
   exact⟨e2,e1▸p⟩
  rintro⟨rfl,p⟩;exact⟨μ,rfl,p⟩
def SQ(a:Gx s h E')(r:∀μ,E' μ->Gx (k μ h) H E):Gx (seqK (x:=s) k) H E:=by
 obtain⟨μ,rfl,p⟩:=a;exact r μ p
def EH{n:Nat}(a:Gx s h E)(r:∀μ,E μ->fin n (k μ h)=x):fin n (seqK (x:=s) k)=x:=by
 obtain⟨μ,rfl,p⟩:=a;exact r μ p
theorem FO{α:Type}{t:MT}{b:Sf}{h:MH}(g:α->MV)(F:α->List MV)(E:En->Prop)(B:Nat):∀{xs:List α}{all acc:List MV}{μ:En},E μ->(acc++xs.flatMap F).length<=B->
 (∀x∈xs,∀μ acc,E μ->(acc++F x).length<=B->∃μ1,AR t (g x) μ=some μ1/\Gx (b μ1 (hnew h (.lst acc))) (hnew h (.lst (acc++F x))) E)->Gx (AQ none all t b (xs.map g) μ (hnew h (.lst acc))) (hnew h (.lst (acc++xs.flatMap F))) E
 |[],all,acc,μ,p,hl,_=>⟨μ,by rw[List.flatMap_nil,bE];rfl,p⟩
 |x::xs,all,acc,μ,p,hl,st=>by
  rw[List.flatMap_cons,←cU]at hl;obtain⟨μ1,e1,μ2,e2,p2⟩:=st x aF μ acc p (by rw[aR]at hl;lia);obtain⟨μ',e,q⟩:=FO g F E B (xs:=xs) (all:=all) (acc:=acc++F x) p2 hl λy hy=>st y (aD _ hy);refine⟨μ',?_,q⟩;rw[aX,Ca,e1,KI,e2,Hx,e,List.flatMap_cons,cU]
theorem N3{α:Type}{t:MT}{b:Sf}{h:MH}(g:α->MV)(E:Nat->En->Prop):∀{xs:List α}{all:List MV}{i:Nat}{μ:En},E i μ->
 (∀(j:Nat) (x:α) (μ:En),xs[j]?=some x->E (i+j) μ->∃μ1,AR t (g x) μ=some μ1/\Gx (b μ1 h) h (E (i+j+1)))->Gx (AQ none all t b (xs.map g) μ h) h (E (i+xs.length))
 |[],all,i,μ,p,_=>⟨μ,rfl,p⟩
 |x::xs,all,i,μ,p,st=>by
  obtain⟨μ1,e1,μ2,e2,p2⟩:=st 0 x μ rfl p;obtain⟨μ',e,q⟩:=N3 g E (xs:=xs) (all:=all) (i:=i+1) p2 λj y μ hj hp=>by
   have:=st (j+1) y μ (by simpa using hj) (by rw[show i+(j+1)=i+1+j by lia];exact hp)
   rwa[show i+(j+1)+1=i+1+j+1 by lia]at this
  refine⟨μ',?_,by rw[cC,show i+(xs.length+1)=i+1+xs.length by lia];exact q⟩;rw[aX,Ca,e1,KI,e2,Hx,e]
end B
namespace BK71
open PySem B L2
def Co:Fin 4->Str
 |0=> "called"
 |1=> "beside"
 |2=> "joined"
 |3=> "changed"
def jM(j:Fin 4):MV:=.obj (10+j.val) [] []
def Lv{n:Nat}:Ph (n+1) 3 [] h=.ok (.v (.lst [jM 0,jM 1,jM 2,jM 3])) h:=(show Ph (n+1) 3 [] h=.ok (.v (.lst [jM 0,jM 1,jM 2,jM 3])) (h.take h.length) from rfl).trans (by rw[cR])
def RD{n:Nat}:∀j:Fin 4,Ph (n+1) (51+j.val) [.v (jM j)] h=.ok (.v (.str (Co j))) h
 |0=>(show Ph (n+1) 51 [.v (jM 0)] h=.ok (.v (.str (Co 0))) (h.take h.length) from rfl).trans (by rw[cR])
 |1=>(show Ph (n+1) 52 [.v (jM 1)] h=.ok (.v (.str (Co 1))) (h.take h.length) from rfl).trans (by rw[cR])
 |2=>(show Ph (n+1) 53 [.v (jM 2)] h=.ok (.v (.str (Co 2))) (h.take h.length) from rfl).trans (by rw[cR])
 |3=>(show Ph (n+1) 54 [.v (jM 3)] h=.ok (.v (.str (Co 3))) (h.take h.length) from rfl).trans (by rw[cR])
def ko:∀j:Fin 4,meth T.gt.cs 1 (jM j)=some (51+j.val)
 |0=>rfl|1=>rfl|2=>rfl|3=>rfl
def GI(j:Fin 4):∃f,meth T.gt.cs 1 (jM j)=some f/\∀n h,Ph (n+1) f [.v (jM j)] h=.ok (.v (.str (Co j))) h:=⟨_,ko j,λ_ _=>RD j⟩
def ZM:∀i j:Fin 4,(Co i=Co j)=(i=j):=by
 intro i j;apply propext;exact⟨λh=>(by decide +kernel:∀i j:Fin 4,Co i=Co j->i=j) i j h,λh=>by rw[h]⟩
def Gh{n:Nat}(j:Fin 4):Ph (n+2) 4 [.v (.str (Co j))] h=.ok (.v (jM j)) h:=by
 refine Ai (d:=d4) rfl rfl ?_;obtain⟨f0,m0,p0⟩:=GI 0;obtain⟨f1,m1,p1⟩:=GI 1;obtain⟨f2,m2,p2⟩:=GI 2;obtain⟨f3,m3,p3⟩:=GI 3;have h4:j=0\/j=1\/j=2\/j=3:=by lia
 rcases h4 with rfl|rfl|rfl|rfl<;>simp[d4,Lv,Ca,ZM,m0,m1,m2,m3,p0,p1,p2,p3]
def xp(w:Str)(i:Nat):MV:=.tup [.str w,.int (i:Int)]
abbrev Ky:=Str×Fin 100
inductive Fo where
 |nil
 |cons (j:Fin 4) (n:Str) (o:List Ky) (ks:Fo) (r:Fo)
structure Nd where
 n:Str
 o:List Ky
 ks:Fo
noncomputable def Fo.ht:Fo->Nat
 |.nil=>0
 |.cons _ _ _ ks r=>max (ks.ht+1) r.ht
def Fo.size:Fo->Nat
 |.nil=>0
 |.cons _ _ _ ks r=>ks.size+1+r.size
def Fo.items:Fo->List (Fin 4×Nd)
 |.nil=>[]
 |.cons j n o ks r=>(j,⟨n,o,ks⟩)::r.items
abbrev Rd:=List (Fin 4×Str)×Nd
def AS:Fo->List Rd
 |.nil=>[]
 |.cons j n o ks r=>(([],⟨n,o,ks⟩)::AS ks).map (λx=>((j,n)::x.1,x.2))++AS r
def Ac(d:Nd):List Rd:=([],d)::AS d.ks
def Yo(x:Fin 4×Nd)(y:Rd):Rd:=((x.1,x.2.n)::y.1,y.2)
def DO(x:Fin 4×Nd):List Rd:=(Ac x.2).map (Yo x)
theorem BA:∀f:Fo,AS f=(f.items.map DO).flatten
 |.nil=>rfl
 |.cons j n o ks r=>by
  show _=DO _++(r.items.map DO).flatten;rw[←BA r];rfl
theorem FY:∀f:Fo,(AS f).length=f.size
 |.nil=>rfl
 |.cons j n o ks r=>by
  rw[AS,aR,aL,cC,FY ks,FY r,Fo.size]
def Er(d:Nd):(Ac d).length=d.ks.size+1:=by rw[Ac,cC,FY]
theorem Eg:∀{f:Fo}{x:Fin 4×Nd},x∈f.items->x.2.ks.ht<f.ht/\x.2.ks.size<f.size
 |.nil,x,h=>by cases h
 |.cons j n o ks r,x,h=>by
  rw[Fo.ht,Fo.size];rcases aH.mp h with rfl|h
  ·dsimp only;lia
  have:=Eg h;lia
def AO(k:Ky):MV:=xp k.1 k.2.val
def Fo.mv:Fo->List MV
 |.nil=>[]
 |.cons j n o ks r=>.tup [.str (Co j),.obj 14 [8,9,7] [.str n,.tup (o.map AO),.tup ks.mv]]::r.mv
def Nd.mv(d:Nd):MV:=.obj 14 [8,9,7] [.str d.n,.tup (d.o.map AO),.tup d.ks.mv]
def Hh(x:Fin 4×Nd):MV:=.tup [.str (Co x.1),x.2.mv]
theorem CH:∀f:Fo,f.mv=f.items.map Hh
 |.nil=>rfl
 |.cons j n o ks r=>by rw[Fo.mv,CH r];rfl
def nG(x:Fin 4×Str):MV:=.tup [.str (Co x.1),.str x.2]
def BK(y:Rd):MV:=.tup [.lst (y.1.map nG),y.2.mv]
@[simp]def nU{d:Nd}:Kl T.gt.cs 8 d.mv=some (.str d.n):=rfl
@[simp]def ia{d:Nd}:Kl T.gt.cs 9 d.mv=some (.tup (d.o.map AO)):=rfl
@[simp]def cw{d:Nd}:Kl T.gt.cs 7 d.mv=some (.tup d.ks.mv):=rfl
theorem Hb:∀{f:Fo}{y:Rd},y∈AS f->y.1.length<=f.ht
 |.nil,y,h=>by cases h
 |.cons j n o ks r,y,h=>by
  rw[Fo.ht];rcases bC.mp h with h|h
  ·obtain⟨z,hz,rfl⟩:=aW.mp h;rcases aH.mp hz with rfl|hz
   ·show 0+1<=_;lia
   have:=Hb hz;show z.1.length+1<=_
   lia
  have:=Hb h;lia
theorem K9:∀f:Fo,f.ht<=f.size
 |.nil=>aN _
 |.cons j n o ks r=>by
  rw[Fo.ht,Fo.size];have:=K9 ks;have:=K9 r
  lia
def Li(h:y∈Ac d):y.1.length<=d.ks.ht:=by
 rcases aH.mp h with rfl|h
 ·exact dX _
 exact Hb h
def Pw{α:Type}{xs:List α}{i:Nat}{x:α}(h:xs[i]?=some x):xs.take (i+1)=xs.take i++ [x]:=by
 obtain⟨hi,e⟩:=aE.mp h;rw[fQ hi,e]
def ZR{α β:Type}{f:α->β}{l:List α}{j:Nat}{m:β}(h:(l.map f)[j]?=some m):∃x,l[j]?=some x/\m=f x:=by
 rw[aM]at h;obtain⟨x,hx,rfl⟩:=aG.mp h;exact⟨x,hx,rfl⟩
def Pu(d:Nd):(Ac d).map BK=[BK ([],d)]++d.ks.items.flatMap λx=>(Ac x.2).flatMap λy=>[BK (Yo x y)]:=by
 show BK ([],d)::(AS d.ks).map BK=_;rw[BA,i7,c8,fR];congr 2;apply f8;intro x _;rw[Function.comp,DO,c8];exact gD
theorem Jc:∀{n:Nat}{h:MH}(d:Nd),d.ks.ht<n->d.ks.size<=1000->Ph n 12 [.v d.mv] h=.ok (.v (.lst ((Ac d).map BK))) h
 |0,h,d,hh,hs=>by lia
 |n+1,h,d,hh,hs=>by
  refine Ai (d:=d12) rfl rfl ?_;have hL:((Ac d).map BK).length<=1001:=by rw[aL,Er];lia
  rw[Pu]at hL ⊢;have r0:BK ([],d)=.tup [.lst [],d.mv]:=rfl;rw[r0]at hL ⊢;simp[d12];rw[CH];refine EH (FO Hh (λx=>(Ac x.2).flatMap λy=>[BK (Yo x y)]) (λμ=>∃x2 x3 x4 x5,μ=[some (.v d.mv),some (.r (hlen h)),x2,x3,x4,x5]) 1001 ⟨_,_,_,_,rfl⟩ hL λx hx μ acc ⟨x2,x3,x4,x5,hμ⟩ hl=>?_) λμ ⟨x2,x3,x4,x5,hμ⟩=>?_
  ·subst hμ;have hxm:=Eg hx;refine⟨_,rfl,?_⟩;simp[@Jc n _ x.2 (by lia) (by lia)];refine SQ (FO BK (λy=>[BK (Yo x y)]) (λμ=>∃x4 x5,μ=[some (.v d.mv),some (.r (hlen h)),some (.v (.str (Co x.1))),some (.v x.2.mv),x4,x5]) 1001 ⟨_,_,rfl⟩ hl λy hy μ acc ⟨x4,x5,hμ⟩ hl=>?_) λμ ⟨y4,y5,hμ⟩=>?_
   ·subst hμ;have hyl:y.1.length<=1000:=by have:=Li hy;have:=K9 x.2.ks;lia
    have hy2:1+y.1.length<=big:=by unfold big;lia
    have hl2:acc.length<big:=by rw[aR,eQ]at hl;unfold big;lia
    refine⟨_,rfl,?_⟩;simp[hy2,hl2,BK,Yo,nG]
   subst hμ;simp
  subst hμ;simp
end BK71
namespace B
open PySem L2 PySem.SeqAt
def Ax{α:Type}{k:Nat}{js:List Nat}{tg:MT}{fi:En->MH->Aw Wk}{tc:Tf}{te:Ef}{μ:En}{h h1:MH}(xs:List α)(f g:α->MV)(htc:∀μ h,tc μ h=.ok true h)(hi:fi μ h=.ok ⟨xs.map f,none⟩ h1)(hl:xs.length<=big)(st:∀x∈xs,∃μ1,AR tg (f x) (startC k js μ)=some μ1/\te μ1 h1=.ok (.v (g x)) h1):Ck k js tg fi tc te μ h=.ok (.v (.lst (xs.map g))) h1:=by
 unfold Ck;rw[hi,Bl];show(if (xs.map f).length<=big then(compLoop none (xs.map f) tg (startC k js μ) tc te (xs.map f) [] h1).bind λl h2=>Aw.ok (R.v (.lst l)) h2 else .no)=_;rw[aL,if_pos hl];have:∀(ys:List α) (all acc:List MV),(∀x∈ys,x∈xs)->compLoop none all tg (startC k js μ) tc te (ys.map f) acc h1=.ok (acc++ys.map g) h1:=by
  intro ys
  induction ys with
  |nil=>intro all acc _;simp[compLoop,Bt]
  |cons y ys ih=>
   intro all acc hs;obtain⟨μ1,e1,e2⟩:=st y (hs y aF);rw[aX];unfold compLoop;simp only[Bt,if_true,e1,htc,DY,Bl,e2];rw[ih _ _ λx hx=>hs x (aD _ hx)];simp
 rw[this xs _ _ λ_ h=>h];rfl
def C8{α:Type}{k:Nat}{js:List Nat}{tg:MT}{fi:En->MH->Aw Wk}{tc:Tf}{te:Ef}{μ:En}{h h1:MH}(xs:List α)(f g:α->MV)(p:α->Bool)(hi:fi μ h=.ok ⟨xs.map f,none⟩ h1)(hl:xs.length<=big)(st:∀x∈xs,∃μ1,AR tg (f x) (startC k js μ)=some μ1/\tc μ1 h1=.ok (p x) h1/\(p x=true->te μ1 h1=.ok (.v (g x)) h1)):Ck k js tg fi tc te μ h=.ok (.v (.lst ((xs.filter p).map g))) h1:=by
 unfold Ck;rw[hi,Bl];show(if (xs.map f).length<=big then(compLoop none (xs.map f) tg (startC k js μ) tc te (xs.map f) [] h1).bind λl h2=>Aw.ok (R.v (.lst l)) h2 else .no)=_;rw[aL,if_pos hl];have:∀(ys:List α) (all acc:List MV),(∀x∈ys,x∈xs)->compLoop none all tg (startC k js μ) tc te (ys.map f) acc h1=.ok (acc++(ys.filter p).map g) h1:=by
  intro ys
  induction ys with
  |nil=>intro all acc _;simp[compLoop,Bt]
  |cons y ys ih=>
   intro all acc hs;obtain⟨μ1,e1,e2,e3⟩:=st y (hs y aF);rw[aX];unfold compLoop;simp only[Bt,if_true,e1,e2,DY,Bl];by_cases hp:p y=true
   ·rw[if_pos hp,e3 hp];simp only[DY,Bl];rw[ih _ _ λx hx=>hs x (aD _ hx)];simp[hp]
   rw[if_neg hp,ih _ _ λx hx=>hs x (aD _ hx)];simp[hp]
 rw[this xs _ _ λ_ h=>h];rfl
section
@[simp]def iI:M6 cs Φ ini (.cons e .nil) μ h=(e2 cs Φ ini e).2 μ h:=rfl
end
theorem Gr{α:Type}(p:α->Bool):∀xs:List α,DF (xs.map λx=>.bl (p x))=some (xs.map p)
 |[]=>rfl
 |x::xs=>by rw[aX,DF,Gr p xs];rfl
def all_map{α:Type}(p:α->Bool)(xs:List α):L9 [.lst (xs.map λx=>.bl (p x))]=some (.bl (xs.all p)):=by
 show(DF _).map _=_;rw[Gr];simp[List.all_map]
@[simp]def lX{α:Type}(xs:List α):L9 [.lst (xs.map λ_=>.bl true)]=some (.bl true):=by
  have:=all_map (λ_:α=>true) xs;rw[this];congr 2;rw[bD];exact λ_ _=>rfl
theorem FL{α:Type}(p:α->Int):∀xs:List α,IJ (xs.map λx=>.int (p x))=some (xs.map p)
 |[]=>rfl
 |x::xs=>by rw[aX,IJ,FL p xs];rfl
def Wr{α:Type}(p:α->Str)(xs:List α):(xs.map λx=>MV.str (p x)).all ET=true:=by
 rw[i8,bD];intro x _;rfl
def Hj{α:Type}(p:α->Str)(xs:List α)(z:Str):LJ (.str z) (xs.map λx=>.str (p x))=some (decide (z∈xs.map p)):=by
 unfold LJ;rw[if_pos (by rw[Wr];rfl)];congr 1;rw[gB,cK,eV,eI,List.mem_map];constructor
 ·rintro⟨x,hx,e⟩;exact⟨x,hx,by simpa[Qm]using e⟩
 rintro⟨x,hx,e⟩;exact⟨x,hx,by simp[Qm,e]⟩
def Tc{α:Type}{t:MT}{b:Sf}{h:MH}(g:α->MV)(F:α->List MV)(E:En->Prop){xs:List α}{acc:List MV}{μ:En}(p:E μ)
 (st:∀j x μ,xs[j]?=some x->E μ->∃μ1,AR t (g x) μ=some μ1/\Gx (b μ1 (hnew h (.lst (acc++(xs.take j).flatMap F)))) (hnew h (.lst (acc++(xs.take j).flatMap F++F x))) E):Gx (AQ none (xs.map g) t b (xs.map g) μ (hnew h (.lst acc))) (hnew h (.lst (acc++xs.flatMap F))) E:=by
 obtain⟨μ',h',e,p1,p2⟩:=Ta (t:=t) (b:=b) (l:=xs.map g) (μ:=μ) (h:=hnew h (.lst acc)) (λj μ h'=>E μ/\h'=hnew h (.lst (acc++(xs.take j).flatMap F))) ⟨p,by simp⟩ λj m μ h' hm ⟨q1,q2⟩=>by
  rw[aM]at hm;obtain⟨x,hx,rfl⟩:=aG.mp hm;obtain⟨μ1,e1,μ2,e2,e3⟩:=st j x μ hx q1;refine⟨μ1,μ2,_,e1,by rw[q2];exact e2,e3,?_⟩;obtain⟨hi,ex⟩:=aE.mp hx;rw[fQ hi,ex,List.flatMap_append,List.flatMap_singleton,cU]
 subst p2;refine⟨μ',?_,p1⟩;rw[e,aL,cR]
def Td{α:Type}{t:MT}{b:Sf}{h:MH}(g f:α->MV)(E:En->Prop){xs:List α}{acc:List MV}{μ:En}(p:E μ)
 (st:∀j x μ,xs[j]?=some x->E μ->∃μ1,AR t (g x) μ=some μ1/\Gx (b μ1 (hnew h (.lst (acc++(xs.take j).map f)))) (hnew h (.lst (acc++(xs.take j).map f++ [f x]))) E):Gx (AQ none (xs.map g) t b (xs.map g) μ (hnew h (.lst acc))) (hnew h (.lst (acc++xs.map f))) E:=by
 rw[gD (f:=f)];refine Tc g (λx=>[f x]) E p λj x μ hx hp=>?_;have:=st j x μ hx hp
 rwa[gD (f:=f)]at this
end B
namespace BK71
open PySem B L2
variable {n:Nat}{h:MH}
def names(d:Nd):List Str:=(Ac d).map λy=>y.2.n
structure Bd(d:Nd):Prop where
 nd:(names d).Nodup
 z:d.ks.size+1<=30
 h:d.ks.ht+1<=6
def Bd.road(b:Bd d)(hy:y∈Ac d):y.1.length<=5:=by
 have:=Li hy;have:=b.h;omega
def Bd.len(b:Bd d):(Ac d).length<=30:=by rw[Er];exact b.z
def Bd.big(b:Bd d):(Ac d).length<=big:=b9 b.len (by decide)
def Bd.wk(b:Bd d):Ph (n+6) 12 [.v d.mv] h=.ok (.v (.lst ((Ac d).map BK))) h:=Jc d (by have:=b.h;omega) (by have:=b.z;omega)
def RF(b:Bd d):∃k:Int,Ph (n+7) 13 [.v d.mv] h=.ok (.v (.int k)) h/\k<=6:=by
 have key:∃k:Int,Ng [.lst ((Ac d).map λy=>.int (y.1.length:Int))]=some (.int k)/\k<=5:=by
  show ∃k:Int,(IJ _).bind _=_/\_;rw[FL];show ∃k:Int,some (MV.int (DI _ _))=_/\_;refine⟨_,rfl,?_⟩;rcases(He ((AS d.ks).map λy=>(y.1.length:Int)) 0).2.2 with e|e
  ·show DI 0 _<=5;rw[e];decide
  obtain⟨y,hy,e⟩:=aW.mp e;show DI 0 _<=5;rw[←e];have:=b.road (aD _ hy);omega
 obtain⟨k,e,hk⟩:=key;refine⟨1+k,Ai (d:=d13) rfl rfl ?_,by omega⟩;simp[d13,Az];rw[Ax (h1:=h) (Ac d) BK (λy=>.int (y.1.length:Int)) ?_ ?_ b.big ?_]
 ·simp[e]
 ·exact λ_ _=>rfl
 ·simp[b.wk]
 intro y hy;refine⟨_,rfl,?_⟩;simp[startC]
def PJ{d:Nd}(b:Bd d):Ph (n+8) 14 [.v d.mv] h=.ok (.v .non) h:=by
 obtain⟨k,ek,hk⟩:=RF (n:=n) (h:=hnew h (.lst ((Ac d).map λy=>.str y.2.n))) b;refine Ai (d:=d14) rfl rfl ?_;simp[d14,b.wk];refine EH (Td (acc:=[]) BK (λy=>.str y.2.n) (λμ=>∃x2 x3,μ=[some (.v d.mv),some (.r (hlen h)),x2,x3]) ⟨_,_,rfl⟩ λj y μ hy ⟨x2,x3,hμ⟩=>?_) λμ ⟨x2,x3,hμ⟩=>?_
 ·subst hμ;refine⟨_,rfl,?_⟩;have hj:=(aE.mp hy).1;have hl:(((Ac d).take j).map λy=>MV.str y.2.n).length<big:=by
   rw[aL,cM];have:=b.len;unfold big;omega
  have hin:LJ (.str y.2.n) (((Ac d).take j).map λy=>MV.str y.2.n)=some false:=by
   rw[Hj];congr 1;rw[decide_eq_false_iff_not];intro hm;have hn:=b.nd;unfold names at hn;have h1:((Ac d).map λy=>y.2.n)[j]?=some y.2.n:=by rw[aM,hy];rfl
   rw[iF]at hm;obtain⟨i,hi,e⟩:=dW.mp hm;rw[cM]at hi;rw[List.getElem_take]at e;obtain⟨lj,ej⟩:=aE.mp h1;exact(cP.mp hn) i j (by omega) lj (by omega) (e.trans ej.symm)
  generalize (((Ac d).take j).map λy=>MV.str y.2.n)=acc at hl hin ⊢;simp[AK,gz,hin,hl]
 subst hμ;have e26:∀h,Ph (n+7) 8 [.v (.int ((Ac d).length:Int))] h=.ok (.v .non) h:=by
  intro h;refine Ai (d:=d8) rfl rfl ?_;have:¬(30:Int)<((Ac d).length:Int):=by have:=b.len;omega
  simp[d8,this]
 have e27:∀h,Ph (n+7) 9 [.v (.int k)] h=.ok (.v .non) h:=by
  intro h;refine Ai (d:=d9) rfl rfl ?_;have:¬(6:Int)<k:=by omega
  simp[d9,this]
 simp only[List.nil_append];simp[e26,ek,e27]
end BK71
namespace BK71
open PySem B L2
variable {n:Nat}
structure EX(o:List Ky):Prop where
 l2:o.length<=2
 nd:o.Nodup
 ok:∀k∈o,AM k.1
def jN(hk:AM k.1):Ph (n+2) 2 [.v (AO k)] h=.ok (.v (.bl true)) h:=Zr hk (cB _) (by have:=k.2.2;lia)
def Uj(k:Ky):List Key:=[.inr k.1,.inl (k.2.val:Int)]
theorem S9:∀o:List Ky,K6 (o.map AO)=some (o.map Uj)
 |[]=>rfl
 |k::o=>by
  rw[aX];show(Du [.str k.1,.int (k.2.val:Int)]).bind (λks=>(K6 (o.map AO)).map (ks:: ·))=_;rw[S9 o];rfl
def VI(h:Uj a=Uj b):a=b:=by
 unfold Uj at h
 injection h with h1 h2
 injection h2 with h2 _
 injection h1 with h1
 injection h2 with h2
 exact Prod.ext h1 (Fin.ext (by lia))
noncomputable def sq(b:Bool)(l:List MV):MV:=match b with
 |true=>.lst l
 |false=>.tup l
section
@[simp]def q9:L8 [sq b l]=some (.int l.length):=by cases b<;>rfl
@[simp]def uJ:CM (sq b l)=some l:=by cases b<;>rfl
@[simp]def qy:PZ [sq b l]=some (.tup l):=by cases b<;>rfl
@[simp]def uK:Iy T.gt.cs [sq b l,.tup [.ty .lst,.ty .tup]]=some (.bl true):=by cases b<;>rfl
@[simp]def q8:AK .is_ (sq b l) .non=some false:=by cases b<;>rfl
@[simp]def uI:CG (sq b l)=Sq l:=by cases b<;>rfl
end
def So{o:List Ky}(h2:o.length<=2):Sq (o.map AO)=some (.int (cntK (o.map Uj):Nat)):=by
 show(K6 _).bind _=_;rw[S9,Option.bind_some,if_pos (by rw[aL];exact h2)]
def XM{o:List Ky}(h2:o.length<=2):((cntK (o.map Uj):Int)=(o.length:Int))=o.Nodup:=by
 rcases o with _|⟨x,_|⟨y,_|⟨z,r⟩⟩⟩
 ·simp[cntK]
 ·simp[cntK]
 ·have e:cntK ([x,y].map Uj)=if Uj x=Uj y then 1 else 2:=rfl;rw[e];by_cases q:x=y
  ·simp[q]
  rw[if_neg (λz=>q (VI z))];simp[q]
 simp at h2
def AL{k:Nat}(h:k<=1000):k<=big:=b9 h (by decide)
def Lx{o:List Ky}(l2:o.length<=2)(hw:∀k∈o,AM k.1):Ph (n+3) 5 [.v (sq b (o.map AO))] h=.ok (.v (.bl (decide o.Nodup))) h:=by
 refine Ai (d:=d5) rfl rfl ?_;have c1:¬(2:Int)<(o.length:Int):=by lia
 simp[d5,c1,Az];rw[Ax (h1:=h) o AO (λ_=>.bl true) ?_ ?_ (AL (by lia)) ?_]
 ·simp[So l2,XM l2]
 ·exact λ_ _=>rfl
 ·simp
 intro k hk;exact⟨_,rfl,by simp[startC,jN (hw k hk)]⟩
def PF{o:List Ky}(g:EX o):Ph (n+4) 6 [.v (sq b (o.map AO))] h=.ok (.v (.tup (o.map AO))) h:=by
 refine Ai (d:=d6) rfl rfl ?_;simp[d6,Lx g.l2 g.ok,g.nd]
def Vg:Ph (n+1) 10 [.v (Hh x)] h=.ok (.v (.bl true)) h:=(show Ph (n+1) 10 [.v (Hh x)] h=.ok (.v (.bl true)) (h.take h.length) from rfl).trans (by rw[cR])
def PH{f:Fo}(h6:f.items.length<=6):Ph (n+3) 11 [.v (sq b f.mv)] h=.ok (.v (.tup f.mv)) h:=by
 refine Ai (d:=d11) rfl rfl ?_;rw[CH];simp[d11,Az];rw[Ax (h1:=h) f.items Hh (λ_=>.bl true) ?_ ?_ (AL (by lia)) ?_]
 ·have e25:Ph (n+2) 7 [.v (.int (f.items.length:Int))] h=.ok (.v .non) h:=by
   refine Ai (d:=d7) rfl rfl ?_;have:¬(6:Int)<(f.items.length:Int):=by lia
   simp[d7,this]
  simp[e25];refine EH (N3 Hh (λ_ μ=>∃x1,μ=[some (.v (sq b (f.items.map Hh))),x1]) (i:=0) ⟨_,rfl⟩ λj x μ hx ⟨x1,hμ⟩=>?_) λμ ⟨x1,hμ⟩=>?_
  ·subst hμ;refine⟨_,rfl,?_⟩;simp[Hh,Gh]
  subst hμ;simp
 ·exact λ_ _=>rfl
 ·simp
 intro k hk;exact⟨_,rfl,by simp[startC,Vg]⟩
def sM:T.gt.cs[14]?=some ⟨"Part",false,[8,9,7],[14],some 55,[(19,56),(11,57),(28,58),(29,59)]⟩:=rfl
def RA{d:Nd}(w:AM d.n)(g:EX d.o)(h6:d.ks.items.length<=6)(b:Bd d){s s':Bool}:Ph (n+9) 55 [.r (hlen h),.v (.str d.n),.v (sq s (d.o.map AO)),.v (sq s' d.ks.mv)] (hnew h (.ins 14 [] []))=.ok (.v .non) (hnew h (.gone d.mv)):=by
 refine Ai (d:=d55) rfl rfl ?_;have e:=λh=>@PJ n h d b;unfold Nd.mv at e;simp[d55,JW w,sM,PF g,PH h6,e,Nd.mv]
def EA(w:AM d.n)(g:EX d.o)(h6:d.ks.items.length<=6)(b:Bd d)(s s':Bool)(he:BE T.gt.cs (Ph (n+9)) T.gt.ini es μ h=.ok [.v (.str d.n),.v (sq s (d.o.map AO)),.v (sq s' d.ks.mv)] h1):(e2 T.gt.cs (Ph (n+9)) T.gt.ini (.make 14 es)).1 μ h=.ok (.v d.mv) h1:=by
 rw[Up (show T.gt.ini 14=some 55 from rfl)];exact PY he (RA w g h6 b)
end BK71
namespace BK71
open PySem B L2
variable {n:Nat}
def Ls(b:Bd d){k:Nat}(hy:(Ac d)[k]?=some y):Ph (n+7) 15 [.v d.mv,.v (.str y.2.n)] h=.ok (.v (BK y)) h:=by
 refine Ai (d:=d15) rfl rfl ?_;simp[d15,b.wk];rw[KA (r:=.v (BK y)) (h2:=h) (λ_ μ h'=>h'=h/\∃x2,μ=[some (.v d.mv),some (.v (.str y.2.n)),x2]) (i:=0) (k:=k) (m:=BK y) ⟨rfl,_,rfl⟩ (by rw[aM,hy];rfl) ?_ ?_]
 ·simp
 ·rintro j m μ h' hj hm ⟨rfl,x2,rfl⟩;obtain⟨z,hz,rfl⟩:=ZR hm;have ne:¬z.2.n=y.2.n:=by
   intro e;have h1:(names d)[k]?=some y.2.n:=by unfold names;rw[aM,hy];rfl
   have h2:(names d)[j]?=some z.2.n:=by unfold names;rw[aM,hz];rfl
   obtain⟨l1,e1⟩:=aE.mp h1;obtain⟨l2,e2⟩:=aE.mp h2;exact(cP.mp b.nd) j k l2 l1 hj (by rw[e1,e2,e])
  refine⟨_,[some (.v d.mv),some (.v (.str y.2.n)),some (.v (BK z))],h',rfl,?_,rfl,_,rfl⟩;simp[BK,ne]
 rintro μ h' ⟨rfl,x2,rfl⟩;exact⟨_,rfl,by simp[BK]⟩
@[simp]def v0{d:Nd}:meth T.gt.cs 29 d.mv=some 59:=rfl
@[simp]def vB{d:Nd}:meth T.gt.cs 19 d.mv=some 56:=rfl
@[simp]def vA{d:Nd}:meth T.gt.cs 11 d.mv=some 57:=rfl
@[simp]def v5{d:Nd}:meth T.gt.cs 28 d.mv=some 58:=rfl
def RB(b:Bd d):Ph (n+7) 56 [.v d.mv] h=.ok (.v (.lst ((Ac d).map λy=>.str y.2.n))) h:=by
 refine Ai (d:=d56) rfl rfl ?_;simp[d56,Az];rw[Ax (h1:=h) (Ac d) BK (λy=>.str y.2.n) ?_ ?_ b.big ?_]
 ·simp
 ·exact λ_ _=>rfl
 ·simp[b.wk]
 intro y hy;exact⟨_,rfl,by simp[startC]⟩
def HD(b:Bd d){k:Nat}(hy:(Ac d)[k]?=some y):Ph (n+8) 57 [.v d.mv,.v (.str y.2.n)] h=.ok (.v y.2.mv) h:=by
 refine Ai (d:=d57) rfl rfl ?_;simp[d57,Ls b hy,BK]
def JY(b:Bd d){k:Nat}(hy:(Ac d)[k]?=some y):Ph (n+8) 58 [.v d.mv,.v (.str y.2.n)] h=.ok (.v (.lst (y.1.map nG))) h:=by
 refine Ai (d:=d58) rfl rfl ?_;simp[d58,Ls b hy,BK]
end BK71
namespace BK71
open PySem B L2
variable {n:Nat}
def CF{z:Str}(hz:AM z):PyData.strOk z=true:=by
 unfold PyData.strOk;rw[←Array.all_toList,bD];intro c hc;have:=(hz.2.2 c hc).2;exact bQ (by lia)
def G8(hk:AM k.1)(m:Nat):sh (AO k) (m+1)=true:=by
 show(sh (.str k.1) m&&(sh (.int _) m&&De [] m))=true;unfold sh De;simp[CF hk]
theorem BQ{α:Type}{f:α->MV}{m:Nat}:∀{l:List α},(∀x∈l,sh (f x) m=true)->De (l.map f) m=true
 |[],_=>by simp[De]
 |x::l,hh=>by
  rw[aX,De,hh x aF,BQ λy hy=>hh y (aD _ hy)];rfl
def Si(a b:Ky):O3 (AO a) (AO b)=decide (a=b):=by
 have:O3 (AO a) (AO b)=(decide (a.1=b.1)&&decide (a.2.val=b.2.val)):=by
  show PyData.eqv (.tuple [.str a.1,.int _]) (.tuple [.str b.1,.int _])=_;simp[PyData.eqv,PyData.eqvAll];by_cases h1:a.1=b.1<;>by_cases h2:a.2.val=b.2.val<;>(have h3:((a.2.val:Int)=(b.2.val:Int))=(a.2.val=b.2.val):=by {apply propext;lia})<;>simp[h1,h2,h3]
 rw[this];obtain⟨x,i⟩:=a;obtain⟨y,j⟩:=b;simp only[Prod.mk.injEq,Fin.ext_iff];by_cases h1:x=y<;>by_cases h2:i.val=j.val<;>simp[h1,h2]
def bp{k:Ky}{l:List Ky}(hk:AM k.1)(hl:∀x∈l,AM x.1):LJ (AO k) (l.map AO)=some (decide (k∈l)):=by
 unfold LJ;rw[if_neg (by show ¬(ET (.tup _)&&_)=true;simp[ET]),if_pos (by rw[G8 hk,BQ λx hx=>G8 (hl x hx) _];rfl)];congr 1;rw[gB,cK,eV,eI];constructor
 ·rintro⟨x,hx,e⟩;simp only[Function.comp,Si,decide_eq_true_eq]at e;rw[←e];exact hx
 intro hx;exact⟨k,hx,by simp[Si]⟩
def W2{k:Ky}{l:List Ky}(hk:AM k.1)(hl:∀x∈l,AM x.1):B6 .notin (AO k) (.lst (l.map AO))=some (!decide (k∈l)):=by
 show(LJ (AO k) (l.map AO)).map (!·)=_;rw[bp hk hl];rfl
def V9(l:List MV):O3 (.lst l) (.lst [])=l.isEmpty:=by
 cases l with
 |nil=>show PyData.eqv (.list []) (.list [])=_;simp[PyData.eqv,PyData.eqvAll]
 |cons x l=>show PyData.eqv (.list (Eu x::Fy l)) (.list [])=_;simp[PyData.eqv,PyData.eqvAll]
def N5(hl:De l 59=true):B6 .eq (.lst l) (.lst [])=some l.isEmpty/\B6 .ne (.lst l) (.lst [])=some (!l.isEmpty):=by
 have e:QE (.lst l) (.lst [])=some l.isEmpty:=by
  unfold QE;rw[if_neg (by simp[IW,ET]),if_pos (by show(sh (.lst l) 60&&sh (.lst []) 60)=true;simp[sh,De,hl]),V9]
 exact⟨e,by show(QE _ _).map (!·)=_;rw[e];rfl⟩
end BK71
namespace BK71
open PySem B L2 PyProof.Rows
variable {n:Nat}
structure Bx where
 a:Int
 c:Int
 t:Int
def Au(x:Bx):MO:=.lst [.int x.a,.int x.c,.int x.t]
def Cm(x:Bx)(m:Int):Int:=if 0<x.a then x.a%m else X3 x.c (x.t+1)%m
def Dg(x:Bx)(m:Int):Bx:=if 0<x.a then⟨x.a / m,x.c,x.t⟩ else⟨x.a,x.c,x.t+1⟩
def Uk(c:Int):Bx:=⟨if 1000000000000000000<=c then c else 0,c%2147483647,0⟩
def FZ{m:Int}(hm:0<m):0<=Cm x m:=by unfold Cm;split<;>exact dA _ (by lia)
def IP{m:Int}(hm:0<m):Cm x m<m:=by unfold Cm;split<;>exact cQ _ hm
def Kc{c:Int}:Ph (n+1) 26 [.v (.int c)] h=.ok (.r (hlen h)) (hnew h (Au (Uk c))):=by
 refine Ai (d:=d26) rfl rfl ?_;by_cases hc:1000000000000000000<=c
 ·simp[d26,hc,Jb,Au,Uk]
 simp[d26,hc,Jb,Au,Uk]
def GX{b:Nat}{m:Int}(hb:GJ h b=some (Au x))(hm:0<m)(hm2:m<2^64):Ph (n+2) 27 [.r b,.v (.int m)] h=.ok (.v (.int (Cm x m))) (AY h b (Au (Dg x m))):=by
 refine Ai (d:=d27) rfl rfl ?_;have hb2:=SN hb;have hm3:m<10000000000000000000000000000000000000000:=by lia
 unfold Au at hb ⊢;by_cases ha:0<x.a
 ·simp[d27,hb,ha,hm,hm3,hb2,Cm,Dg]
 simp[d27,hb,ha,hm,hb2,RC,Cm,Dg]
def tk1{m:Int}(hm:0<m)(hm2:m<2^64):Ph (n+2) 27 [.r (hlen h),.v (.int m)] (hnew h (Au x))=.ok (.v (.int (Cm x m))) (hnew h (Au (Dg x m))):=by
 rw[GX Cr hm hm2,BM]
@[simp high]def xR{m:Int}(hm:0<m)(hm2:m<2^64):(e2 T.gt.cs (Ph (n+2)) T.gt.ini (.call 27 (.cons (.var 0) (.cons (.con (.int m)) .nil)))).1 (some (.r (hlen h))::μ) (hnew h (Au x))=.ok (.v (.int (Cm x m))) (hnew h (Au (Dg x m))):=by simp[tk1 hm hm2]
def tk2{m:Int}(hm:0<m)(hm2:m<2^64):Ph (n+2) 27 [.r (hlen h),.v (.int m)] (hnew (hnew h (Au x)) o)=.ok (.v (.int (Cm x m))) (hnew (hnew h (Au (Dg x m))) o):=by
 rw[GX (x:=x) (by rw[Hk (by simp)];exact Cr) hm hm2,FM (by simp),BM]
theorem O9:∀(zs:List Nat) (acc:Array Nat),(zs.map λc=>(⟨#[c]⟩:Str)).foldl (λacc p=>acc++Str.empty.cps++p.cps) acc=acc++zs.toArray
 |[],acc=>by simp
 |c::r,acc=>by
  rw[aX,i9,O9 r];show acc++ #[]++ #[c]++r.toArray=acc++(c::r).toArray;simp
def Nn(zs:List Nat)(sep:Str)(hs:sep=Str.empty):Txt.join sep (zs.map λc=>(⟨#[c]⟩:Str))=⟨zs.toArray⟩:=by
 subst hs;cases zs with
 |nil=>rfl
 |cons c r=>
  show(⟨(r.map λc=>(⟨#[c]⟩:Str)).foldl (λacc p=>acc++Str.empty.cps++p.cps) #[c]⟩:Str)=_;rw[O9];simp
def Le{z:Str}{i:Nat}(h:i<=z.cps.toList.length):Txt.slice z none (some (i:Int))=⟨(z.cps.toList.take i).toArray⟩:=by
 have:=slice_closes_to (x:=z) (j:=i) ⟨by lia,by lia⟩;have:=aI.mp this;rw[this];simp
def MC{z:Str}{i:Nat}(h:i<=z.cps.toList.length):Txt.slice z (some (i:Int)) none=⟨(z.cps.toList.drop i).toArray⟩:=by
 have hz:z.length=z.cps.toList.length:=by simp[Str.length]
 rw[slice_from_eq (x:=z) (i:=i) (b:=z.length) (by lia) (by lia) rfl];congr 2;rw[List.take_of_length_le]
 ·simp
 rw[hJ];have:z.cps.toList.length=z.length:=hz.symm
 lia
def Ii(A B:List Nat):(⟨A.toArray⟩:Str)++(⟨B.toArray⟩:Str)=⟨(A++B).toArray⟩:=by
 show(⟨A.toArray++B.toArray⟩:Str)=_;simp
abbrev Pm:Str:=Str.ofString "abcdefghijklmnopqrstuvwxyz"
def JD{L:List Nat}(h1:1<=L.length)(h2:L.length<=8)(h3:∀c∈L,BG c):AM ⟨L.toArray⟩:=⟨by show 1<=L.toArray.size;simpa using h1,by show L.toArray.size<=8;simpa using h2,by simpa using h3⟩
def KN:∀n:Fin 26,BH Pm.cps.toList (n.val:Int)=some (97+n.val):=by decide +kernel
def Pl{r r':Int}(h0:0<=r)(h1:r<26)(h0':0<=r')(h1':r'<26)(e:BH Pm.cps.toList r=BH Pm.cps.toList r'):r=r':=by
 obtain⟨n,rfl⟩:∃n:Nat,r=(n:Int):=⟨r.toNat,by lia⟩;obtain⟨n',rfl⟩:∃n:Nat,r'=(n:Int):=⟨r'.toNat,by lia⟩;have a:=KN ⟨n,by lia⟩;have b:=KN ⟨n',by lia⟩;dsimp only at a b;rw[a,b]at e;have:=bM e
 lia
def fq{r:Int}(h0:0<=r)(h1:r<26):∃c,BH Pm.cps.toList r=some c/\BG c:=by
 obtain⟨n,rfl⟩:∃n:Nat,r=(n:Int):=⟨r.toNat,by lia⟩;exact⟨_,KN ⟨n,by lia⟩,by unfold BG;dsimp only;lia⟩
def Q9(pos:Nat)(first:Int)(L:Nat)(us:List Str):Prop:=∀(j:Nat) (z:Str),us[j]?=some z->(j<26->z.cps.toList[pos]?=BH Pm.cps.toList ((first+7*(0+(j:Int)))%26)/\z.length≠L)/\(26<=j->z.cps.toList[0]?=BH Pm.cps.toList ((first+7*(0+(j:Int)))%26)/\z.length=L)
def Q9.snoc{pos L:Nat}{first:Int}{z:Str}(h:Q9 pos first L us)(e:us.length<26->z.cps.toList[pos]?=BH Pm.cps.toList ((first+7*(0+(us.length:Int)))%26)/\z.length≠L)(e':26<=us.length->z.cps.toList[0]?=BH Pm.cps.toList ((first+7*(0+(us.length:Int)))%26)/\z.length=L):Q9 pos first L (us++ [z]):=λj y hy=>by
 by_cases hj:j<us.length
 ·rw[aS hj]at hy;exact h j y hy
 have hj2:j=us.length:=by
  have:=(aE.mp hy).1;rw[aR,eQ]at this
  lia
 subst hj2;rw[aU (aN _),g9]at hy;cases hy;exact⟨e,e'⟩
def Q9.nodup{pos L:Nat}{first:Int}(h:Q9 pos first L us)(hl:us.length<=31):us.Nodup:=by
 rw[List.Nodup,List.pairwise_iff_getElem];intro i j hi hj hij e;have a:=h i us[i] (aZ hi);have b:=h j us[j] (aZ hj);rw[e]at a;by_cases h1:i<26
 ·by_cases h2:j<26
  ·have a:=(a.1 h1).1;rw[(b.1 h2).1]at a;have:=Pl (dA _ (by decide)) (cQ _ (by decide)) (dA _ (by decide)) (cQ _ (by decide)) a
   lia
  exact(a.1 h1).2 (b.2 (by lia)).2
 have a:=(a.2 (by lia)).1;rw[(b.2 (by lia)).1]at a;have:=Pl (dA _ (by decide)) (cQ _ (by decide)) (dA _ (by decide)) (cQ _ (by decide)) a
 lia
def gy:BY 3 "qz"=⟨([113,122,113,122,113,122]:List Nat).toArray⟩:=by decide +kernel
def x1:BY 1 "x"=⟨([120]:List Nat).toArray⟩:=by decide +kernel
def x0:BY 0 "x"=⟨([]:List Nat).toArray⟩:=by decide +kernel
def kE{c:Nat}(low:BG c)(k:Nat)(hk:k=0\/k=1):AM (⟨#[c]⟩++BY 3 "qz"++BY k "x":Str)/\(⟨#[c]⟩++BY 3 "qz"++BY k "x":Str).length=7+k/\(⟨#[c]⟩++BY 3 "qz"++BY k "x":Str).cps.toList[0]?=some c:=by
 rcases hk with rfl|rfl
 ·rw[gy,x0,show(⟨#[c]⟩:Str)=⟨([c]:List Nat).toArray⟩ from rfl,Ii,Ii];refine⟨JD (by simp) (by simp) (by simp[low];unfold BG;decide),by rfl,by simp⟩
 rw[gy,x1,show(⟨#[c]⟩:Str)=⟨([c]:List Nat).toArray⟩ from rfl,Ii,Ii];refine⟨JD (by simp) (by simp) (by simp[low];unfold BG;decide),by rfl,by simp⟩
end BK71
namespace B
open PySem L2 PySem.SeqAt
section
@[simp]def SM:GJ (hnew (hnew h a) b) (hlen h+1)=some b:=by rw[←BZ (o:=a)];exact Cr
@[simp]def rR:GJ (hnew (hnew (hnew h a) b) c) (hlen h+2)=some c:=by rw[show hlen h+2=hlen (hnew (hnew h a) b) from by rw[BZ,BZ]];exact Cr
@[simp]def nO:AY (hnew (hnew h a) b) (hlen h+1) o=hnew (hnew h a) o:=by rw[←BZ (o:=a)];exact BM
@[simp]def nN:AY (hnew (hnew (hnew h a) b) c) (hlen h+2) o=hnew (hnew (hnew h a) b) o:=by rw[show hlen h+2=hlen (hnew (hnew h a) b) from by rw[BZ,BZ]];exact BM
@[simp]def nQ:Gm (hnew (hnew h a) b) (hlen h+1+1)=hnew (hnew h a) b:=by rw[←BZ (o:=a)];exact Qh
end
def WR(s:SR)(P:En->MH->Prop):Prop:=∃μ h,s=some (.nx μ,h)/\P μ h
@[simp]def rS:WR (some (.nx μ,h)) P=P μ h:=by
  apply propext;constructor
  ·rintro⟨μ',h',e,p⟩
   injection e with e
   injection e with e1 e2
   injection e1 with e1
   exact e1▸e2▸p
  exact λp=>⟨μ,h,rfl,p⟩
def Im(r:Aw R)(h:MH)(Q:MV->Prop):Prop:=∃m,r=.ok (.v m) h/\Q m
@[simp]def kQ:Im (.ok (.v m) h) H Q=(h=H/\Q m):=by
  apply propext;constructor
  ·rintro⟨m',e,p⟩
   injection e with e1 e2
   injection e1 with e1
   exact⟨e2,e1▸p⟩
  rintro⟨rfl,p⟩;exact⟨m,rfl,p⟩
def Jt{n:Nat}(a:WR s P)(r:∀μ h,P μ h->Im (fin n (k μ h)) H Q):Im (fin n (seqK (x:=s) k)) H Q:=by
 obtain⟨μ,h,rfl,p⟩:=a;exact r μ h p
def Lw{n f:Nat}(hd:ds[f]?=some d)(hl:rs.length=d.ps.length)(e:Im (fin (hlen h) (DJ G.cs (DU G ds n) G.ini d.body (IT d.N rs) h)) H Q):Im (DU G ds (n+1) f rs h) H Q:=by
 rw[Ai hd hl rfl];exact e
def IM(r:Aw R)(Q:MV->MH->Prop):Prop:=∃m h,r=.ok (.v m) h/\Q m h
@[simp]def nS:IM (.ok (.v m) h) Q=Q m h:=by
  apply propext;constructor
  ·rintro⟨m',h',e,p⟩
   injection e with e1 e2
   injection e1 with e1
   exact e1▸e2▸p
  exact λp=>⟨m,h,rfl,p⟩
def FN{n:Nat}(a:WR s P)(r:∀μ h,P μ h->IM (fin n (k μ h)) Q):IM (fin n (seqK (x:=s) k)) Q:=by
 obtain⟨μ,h,rfl,p⟩:=a;exact r μ h p
def Ka{n f:Nat}(hd:ds[f]?=some d)(hl:rs.length=d.ps.length)(e:IM (fin (hlen h) (DJ G.cs (DU G ds n) G.ini d.body (IT d.N rs) h)) Q):IM (DU G ds (n+1) f rs h) Q:=by
 rw[Ai hd hl rfl];exact e
def OK{α:Type}{t:MT}{b:Sf}{xs:List α}{μ:En}{h:MH}(g:α->MV)(P:Nat->En->MH->Prop)(p:P 0 μ h)(st:∀j x μ h,xs[j]?=some x->P j μ h->∃μ1,AR t (g x) μ=some μ1/\WR (b μ1 h) (P (j+1))):WR (AQ none (xs.map g) t b (xs.map g) μ h) (P xs.length):=by
 obtain⟨μ',h',e,q⟩:=Ta (t:=t) (b:=b) (l:=xs.map g) (μ:=μ) (h:=h) P p λj m μ h hm hp=>by
  rw[aM]at hm;obtain⟨x,hx,rfl⟩:=aG.mp hm;obtain⟨μ1,e1,μ2,h2,e2,e3⟩:=st j x μ h hx hp;exact⟨μ1,μ2,h2,e1,e2,e3⟩
 exact⟨μ',h',e,by rwa[aL]at q⟩
def ND{α:Type}{k q:Nat}{js:List Nat}{tg:MT}{fi:En->MH->Aw Wk}{tc:Tf}{te:Ef}{μ:En}{h h1:MH}(xs:List α)(f g:α->MV)(p:α->Bool)(hi:fi μ h=.ok ⟨xs.map f,some q⟩ h1)(hq:GJ h1 q=some (.lst (xs.map f)))(hl:xs.length<=big)(st:∀x∈xs,∃μ1,AR tg (f x) (startC k js μ)=some μ1/\tc μ1 h1=.ok (p x) h1/\(p x=true->te μ1 h1=.ok (.v (g x)) h1)):Ck k js tg fi tc te μ h=.ok (.v (.lst ((xs.filter p).map g))) h1:=by
 unfold Ck;rw[hi,Bl];show(if (xs.map f).length<=big then(compLoop (some q) (xs.map f) tg (startC k js μ) tc te (xs.map f) [] h1).bind λl h2=>Aw.ok (R.v (.lst l)) h2 else .no)=_;rw[aL,if_pos hl];have sk:Bt (some q) (xs.map f) h1=true:=by
  simp only[Bt,decide_eq_true_eq];exact hq
 have:∀(ys:List α) (acc:List MV),(∀x∈ys,x∈xs)->compLoop (some q) (xs.map f) tg (startC k js μ) tc te (ys.map f) acc h1=.ok (acc++(ys.filter p).map g) h1:=by
  intro ys
  induction ys with
  |nil=>intro acc _;simp[compLoop,sk]
  |cons y ys ih=>
   intro acc hs;obtain⟨μ1,e1,e2,e3⟩:=st y (hs y aF);rw[aX];unfold compLoop;simp only[sk,if_true,e1,e2,DY,Bl];by_cases hp:p y=true
   ·rw[if_pos hp,e3 hp];simp only[DY,Bl];rw[ih _ λx hx=>hs x (aD _ hx)];simp[hp]
   rw[if_neg hp,ih _ λx hx=>hs x (aD _ hx)];simp[hp]
 rw[this xs _ λ_ h=>h];rfl
end B
namespace BK71
open PySem B L2 PyProof.Rows
variable {n:Nat}
def Jy{α:Type}{k:Nat}{js:List Nat}{tg:MT}{fi:En->MH->Aw Wk}{tc:Tf}{te:Ef}{μ:En}{h h1:MH}(xs:List α)(f:α->MV)(I:MH->Prop)(Q:MV->Prop)(htc:∀μ h,tc μ h=.ok true h)(hi:fi μ h=.ok ⟨xs.map f,none⟩ h1)(hl:xs.length<=big)(hI:I h1)(st:∀x∈xs,∀h,I h->E3 λμ1 m h'=>A4 (AR tg (f x) (startC k js μ)=some μ1) (te μ1 h=.ok (.v m) h') (Q m) (I h')):E2 λms h'=>A4 (Ck k js tg fi tc te μ h=.ok (.v (.lst ms)) h') (I h') (ms.length=xs.length) (∀m∈ms,Q m):=by
 have key:∀(ys:List α) (all acc:List MV) (h:MH),I h->(∀x∈ys,x∈xs)->(∀m∈acc,Q m)->∃ms h',compLoop none all tg (startC k js μ) tc te (ys.map f) acc h=.ok ms h'/\I h'/\ms.length=acc.length+ys.length/\∀m∈ms,Q m:=by
  intro ys
  induction ys with
  |nil=>intro all acc h hI _ hq;exact⟨acc,h,by simp[compLoop,Bt],hI,rfl,hq⟩
  |cons y ys ih=>
   intro all acc h hI hs hq;obtain⟨μ1,m,h',e1,e2,q,i2⟩:=st y (hs y aF) h hI;obtain⟨ms,h2,e3,i3,l3,q3⟩:=ih all (acc++ [m]) h' i2 (λx hx=>hs x (aD _ hx)) (λz hz=>by
    rcases bC.mp hz with hz|hz
    ·exact hq z hz
    rw[bA.mp hz];exact q)
   refine⟨ms,h2,?_,i3,by rw[l3];simp;lia,q3⟩;rw[aX];unfold compLoop;simp only[Bt,if_true,e1,htc,Aw.nox,Bl,e2];exact e3
 obtain⟨ms,h',e,i,l,q⟩:=key xs (xs.map f) [] h1 hI (λ_ h=>h) (λ_ h=>by cases h);refine⟨ms,h',?_,i,by simpa using l,q⟩;unfold Ck;rw[hi,Bl];show(if (xs.map f).length<=big then(compLoop none (xs.map f) tg (startC k js μ) tc te (xs.map f) [] h1).bind λl h2=>Aw.ok (R.v (.lst l)) h2 else .no)=_;rw[aL,if_pos hl,e];rfl
theorem Hw:∀zs:List Nat,Lc (zs.map λc=>.str ⟨#[c]⟩)=some (zs.map λc=>⟨#[c]⟩)
 |[]=>rfl
 |c::zs=>by rw[aX,Lc,Hw zs];rfl
theorem Lg:∀{ms:List MV},(∀m∈ms,∃c,BG c/\m=.str ⟨#[c]⟩)->∃zs:List Nat,ms=zs.map (λc=>.str ⟨#[c]⟩)/\∀c∈zs,BG c
 |[],_=>⟨[],rfl,λ_ h=>by cases h⟩
 |m::ms,hh=>by
  obtain⟨c,hc,rfl⟩:=hh m aF;obtain⟨zs,rfl,hz⟩:=Lg λx hx=>hh x (aD _ hx);exact⟨c::zs,rfl,λx hx=>by
   rcases aH.mp hx with rfl|hx
   ·exact hc
   exact hz x hx⟩
def II{zs:List Nat}(h7:zs.length<=7):lO .join (.str "") [.lst (zs.map λc=>.str ⟨#[c]⟩)]=some (.str ⟨zs.toArray⟩):=by
 have e:∀l,lO .join (.str "") [.lst l]=(Lc l).bind λys=>if (ys.map (·.length)).sum+ys.length*"".length<=16777216 then some (.str (Txt.join "" ys)) else none:=λl=>rfl;rw[e,Hw,Option.bind_some,if_pos,Nn _ _ (by decide +kernel)];have:((zs.map λc=>(⟨#[c]⟩:Str)).map (·.length)).sum=zs.length:=by
  induction zs with
  |nil=>rfl
  |cons c zs ih=>simp at h7;simp only[List.map_cons,List.sum_cons,List.length_cons,ih (by lia)];show 1+_=_;lia
 rw[this,show"".length=0 from by decide +kernel]
 lia
def IY{j:Int}(h0:0<=j)(h1:j<=1000):Gg [.v (.int j)]=some ⟨(List.range j.toNat).map λ(i:Nat)=>MV.int (i:Int),none⟩:=by
 have: -(2^62)<=j/\j<2^62:=by lia
 have e:Gg [.v (.int j)]=if -(2^62)<=j/\j<2^62 then some ⟨CL 0 j.toNat,none⟩ else none:=rfl;rw[e,if_pos this];unfold CL;congr 2;apply f8;intro i _;rw[iG]
def FW:Pm.length<=big:=by decide +kernel
def SB{r:Int}(h0:0<=r)(h1:r<26):∃c,GC (.str Pm) (.int r)=some (.str ⟨#[c]⟩)/\BG c/\BH Pm.cps.toList r=some c:=by
 obtain⟨c,e,hc⟩:=fq h0 h1;refine⟨c,?_,hc,e⟩;have:∀z r,GC (.str z) (.int r)=if z.length<=big then(BH z.cps.toList r).map λc=>.str ⟨#[c]⟩ else none:=λ_ _=>by simp only[GC,Nh]
 rw[this,if_pos FW,e];rfl
def Fv{a b:Str}(hl:a.length+b.length<=100):BD .add (.str a) (.str b)=some (.str (a++b)):=by
 rw[Ml,if_pos (b9 hl (by decide))]
def Kn(a b:Str):(a++b).length=a.length+b.length:=Array.size_append
def Sh(x:Str)(n:Int):BD .mul (.str x) (.int n)=if 0<=n/\n<=100/\x.length<=100 then some (.str (BY n.toNat x)) else none:=rfl
def Xt:BD .mul (.str "qz") (.int 3)=some (.str (BY 3 "qz")):=by
 rw[Sh,if_pos (by decide +kernel)];rfl
def Xa{k:Nat}(hk:k=0\/k=1):BD .mul (.str "x") (.int k)=some (.str (BY k "x")):=by
 rw[Sh,if_pos (by rcases hk with rfl|rfl<;>decide +kernel)];rfl
def CZ(L:List Nat):(⟨L.toArray⟩:Str).length=L.length:=bB
def Pr{z:Str}(h:∀x∈us,AM x)(hz:AM z):∀x∈us++ [z],AM x:=λx hx=>by
 rcases bC.mp hx with hx|hx
 ·exact h x hx
 rw[bA.mp hx];exact hz
def WP(c:Int)(m:Nat)(size at_ way first:Int)(zs:List Nat)(h:MH)(i:Nat)(μ:En)(h':MH):Prop:=E4 λ(x:Bx) (us:List Str) (v10 v11:Option R)=>A5 (μ=[some (.v (.int c)),some (.v (.int m)),some (.v (.str Pm)),some (.r (hlen h)),some (.v (.int size)),some (.v (.int at_)),some (.v (.int way)),some (.v (.str ⟨zs.toArray⟩)),some (.v (.int first)),some (.r (hlen h+1)),v10,v11]) (h'=hnew (hnew h (Au x)) (.lst (us.map MV.str))) (us.length=i) (∀z∈us,AM z) (Q9 (if way=0 then at_.toNat else 0) first (if size=7 then 7 else 8) us)
def Lq(c:Int){m:Nat}(hm:m<=31):Im (Ph (n+3) 28 [.v (.int c),.v (.int m)] h) h λr=>∃zs:List Str,r=.lst (zs.map MV.str)/\zs.length=m/\(∀z∈zs,AM z)/\zs.Nodup:=by
 let b1:=Dg (Uk c) 8
 let size:=Cm (Uk c) 8
 have s0:0<=size:=FZ (by decide);have s1:size<8:=IP (by decide)
 let b2:=Dg b1 (size+1)
 let at_:=Cm b1 (size+1)
 have a0:0<=at_:=FZ (by lia);have a1:at_<size+1:=IP (by lia)
 let b3:=Dg b2 2
 let way:=Cm b2 2
 have T1:Ph (n+2) 27 [.r (hlen h),.v (.int 8)] (hnew h (Au (Uk c)))=.ok (.v (.int size)) (hnew h (Au b1)):=tk1 (by decide) (by decide);have T2:Ph (n+2) 27 [.r (hlen h),.v (.int (size+1))] (hnew h (Au b1))=.ok (.v (.int at_)) (hnew h (Au b2)):=tk1 (by lia) (by lia);have T3:Ph (n+2) 27 [.r (hlen h),.v (.int 2)] (hnew h (Au b2))=.ok (.v (.int way)) (hnew h (Au b3)):=tk1 (by decide) (by decide)
 clear_value b1 size b2 at_ b3 way
 obtain⟨ms,h',eB,⟨x4,rfl⟩,lB,qB⟩:=Jy (k:=1) (js:=[2,3]) (tg:=.nm 0) (fi:=QG T.gt.cs (Ph (n+2)) T.gt.ini (.rng1 (.var 4))) (tc:=M6 T.gt.cs (Ph (n+2)) T.gt.ini .nil) (te:=(e2 T.gt.cs (Ph (n+2)) T.gt.ini (.idx (.var 1) (.call 27 (.cons (.var 2) (.cons (.con (.int 26)) .nil))))).1) (μ:=[some (.v (.int c)),some (.v (.int m)),some (.v (.str Pm)),some (.r (hlen h)),some (.v (.int size)),some (.v (.int at_)),some (.v (.int way)),none,none,none,none,none]) (h:=hnew h (Au b3)) (h1:=hnew h (Au b3)) (List.range size.toNat) (λ(i:Nat)=>MV.int (i:Int)) (λh'=>∃x,h'=hnew h (Au x)) (λm=>∃c,BG c/\m=.str ⟨#[c]⟩) (λ_ _=>rfl)
  (by simp[IY s0 (show size<=1000 by lia)])
  (by rw[bG];exact AL (by lia)) ⟨_,rfl⟩ (λi _ h' ⟨x,hx⟩=>by
   subst hx;obtain⟨c',e1,e2,_⟩:=SB (r:=Cm x 26) (FZ (by decide)) (IP (by decide));refine⟨_,.str ⟨#[c']⟩,_,rfl,?_,⟨c',e2,rfl⟩,Dg x 26,rfl⟩;simp[startC,tk1,e1])
 obtain⟨zs,rfl,hz⟩:=Lg qB;rw[bG,aL]at lB
 let x5:=Dg x4 26
 let first:=Cm x4 26
 have T4:Ph (n+2) 27 [.r (hlen h),.v (.int 26)] (hnew h (Au x4))=.ok (.v (.int first)) (hnew h (Au x5)):=tk1 (by decide) (by decide)
 clear_value x5 first
 have eJ:=II (zs:=zs) (by lia);have i3:∀z:Str,lN .join (.str z)=true:=λ_=>rfl;refine Lw (d:=d28) rfl rfl ?_;simp -implicitDefEqProofs [d28,Kc,T1,T2,T3,Az,eB,i3,eJ,T4,IY (Int.natCast_nonneg m) (show(m:Int)<=1000 by lia)];refine Jt (OK (λ(i:Nat)=>MV.int (i:Int)) (WP c m size at_ way first zs h) ⟨x5,[],none,none,rfl,rfl,rfl,(λ_ h=>by cases h),(λj z hj=>by simp at hj)⟩ ?_) ?_
 ·rintro j i μ h' hi ⟨x,us,v10,v11,rfl,rfl,hul0,hall,lett⟩;obtain⟨hj,e⟩:=aE.mp hi;rw[bG]at hj;rw[eK]at e;subst e;refine⟨_,rfl,?_⟩;have r0:0<=(first+7*(j:Int))%26:=dA _ (by decide);have r1:(first+7*(j:Int))%26<26:=cQ _ (by decide);obtain⟨c1,e1,low,e2⟩:=SB r0 r1;have m7:FG 7 (j:Int)=true:=Oz (by decide) (by decide);have hul:us.length<big:=by unfold big;lia
  have zl:(⟨zs.toArray⟩:Str).length=zs.length:=CZ zs;have zb:(⟨zs.toArray⟩:Str).length<=big:=by rw[zl];unfold big;lia
  have c1l:(⟨#[c1]⟩:Str).length=1:=rfl;have fin:∀(x':Bx) (z:Str) (y v:Option R),AM z->(us.length<26->z.cps.toList[if way=0 then at_.toNat else 0]?=some c1/\z.length≠(if size=7 then 7 else 8))->(26<=us.length->z.cps.toList[0]?=some c1/\z.length=(if size=7 then 7 else 8))->WP c m size at_ way first zs h (j+1) [some (.v (.int c)),some (.v (.int m)),some (.v (.str Pm)),some (.r (hlen h)),some (.v (.int size)),some (.v (.int at_)),some (.v (.int way)),some (.v (.str ⟨zs.toArray⟩)),some (.v (.int first)),some (.r (hlen h+1)),y,v] (hnew (hnew h (Au x')) (.lst (us.map MV.str++ [.str z]))):=λx' z y v hz l1 l2=>by
   refine⟨x',us++ [z],y,v,rfl,by rw[bT];rfl,by rw[aR,hul0];rfl,Pr hall hz,lett.snoc (λq=>?_) (λq=>?_)⟩
   ·rw[hul0,iG,e2];exact l1 q
   rw[hul0,iG,e2];exact l2 q
  by_cases h25:25<(j:Int)
  ·by_cases h7:size=7
   ·have w:=kE low 0 (.inl rfl);have A1:BD .add (.str ⟨#[c1]⟩) (.str (BY 3 "qz"))=_:=Fv (by rw[gy,CZ];show 1+6<=100;decide);have A2:BD .add (.str (⟨#[c1]⟩++BY 3 "qz")) (.str (BY 0 "x"))=_:=Fv (by rw[Kn,gy,x0,CZ,CZ];show 1+6+0<=100;decide);have X:BD .mul (.str "x") (.int 0)=_:=Xa (k:=0) (.inl rfl);have F:=fin x _ (some (.v (.int j))) (some (.v (.str ⟨#[c1]⟩))) w.1 (λq=>by lia) (λq=>⟨w.2.2,by rw[w.2.1,if_pos h7]⟩);rw[h7]at F ⊢;simp[e2,FW,h25,Xt,A1,A2,X,hul,-Ml];exact F
   have w:=kE low 1 (.inr rfl);have A1:BD .add (.str ⟨#[c1]⟩) (.str (BY 3 "qz"))=_:=Fv (by rw[gy,CZ];show 1+6<=100;decide);have A2:BD .add (.str (⟨#[c1]⟩++BY 3 "qz")) (.str (BY 1 "x"))=_:=Fv (by rw[Kn,gy,x1,CZ,CZ];show 1+6+1<=100;decide);have X:BD .mul (.str "x") (.int 1)=_:=Xa (k:=1) (.inr rfl);have F:=fin x _ (some (.v (.int j))) (some (.v (.str ⟨#[c1]⟩))) w.1 (λq=>by lia) (λq=>⟨w.2.2,by rw[w.2.1,if_neg h7]⟩);simp[e2,FW,h25,h7,Xt,A1,A2,X,hul,-Ml];exact F
  by_cases hw:way=0
  ·have hat2:at_=(at_.toNat:Int):=by lia
   have hale:at_.toNat<=zs.length:=by lia
   have S1:Txt.slice ⟨zs.toArray⟩ none (some at_)=⟨(zs.take at_.toNat).toArray⟩:=by rw[hat2];exact Le (z:=⟨zs.toArray⟩) (by simpa using hale)
   have S2:Txt.slice ⟨zs.toArray⟩ (some at_) none=⟨(zs.drop at_.toNat).toArray⟩:=by rw[hat2];exact MC (z:=⟨zs.toArray⟩) (by simpa using hale)
   have M:∀lo hi,Ix (.str ⟨zs.toArray⟩) lo hi=some (.str (Txt.slice ⟨zs.toArray⟩ lo hi)):=λlo hi=>by show(if _ then _ else _)=_;rw[if_pos zb]
   have c1e:(⟨#[c1]⟩:Str)=⟨[c1].toArray⟩:=rfl;have A1:BD .add (.str ⟨(zs.take at_.toNat).toArray⟩) (.str ⟨#[c1]⟩)=_:=Fv (by simp only[CZ,c1l,List.length_take];lia);have A2:BD .add (.str (⟨(zs.take at_.toNat).toArray⟩++⟨#[c1]⟩)) (.str ⟨(zs.drop at_.toNat).toArray⟩)=_:=Fv (by simp only[Kn,CZ,c1l,List.length_take,List.length_drop];lia);have ez:(⟨(zs.take at_.toNat).toArray⟩++⟨#[c1]⟩++⟨(zs.drop at_.toNat).toArray⟩:Str)=⟨(zs.take at_.toNat++ [c1]++zs.drop at_.toNat).toArray⟩:=by rw[c1e,Ii,Ii]
   have lz:(zs.take at_.toNat++ [c1]++zs.drop at_.toNat).length=zs.length+1:=by simp;lia
   have F:=fin x (⟨(zs.take at_.toNat).toArray⟩++⟨#[c1]⟩++⟨(zs.drop at_.toNat).toArray⟩) (some (.v (.int j))) (some (.v (.str ⟨#[c1]⟩))) (by
    rw[ez];refine JD (by lia) (by lia) λy hy=>?_;rcases bC.mp hy with hy|hy
    ·rcases bC.mp hy with hy|hy
     ·exact hz y (eW hy)
     rw[bA.mp hy];exact low
    ·exact hz y (iD hy)) (λq=>by
    rw[ez,if_pos hw];refine⟨?_,by rw[CZ,lz];split<;>lia⟩;show(zs.take at_.toNat++ [c1]++zs.drop at_.toNat)[at_.toNat]?=_;rw[cU,aU (by rw[cM];lia),cM,Nat.min_eq_left hale,g9];rfl) (λq=>by lia)
   simp[e2,FW,h25,hw,M,S1,S2,A1,A2,hul,-Ml];rw[hw]at F;exact F
  have t0:0<=Cm x ((if 5<size then 5 else size)+1):=FZ (by split<;>lia);have t1:Cm x ((if 5<size then 5 else size)+1)<(if 5<size then 5 else size)+1:=IP (by split<;>lia);have TK:=tk2 (n:=n) (h:=h) (x:=x) (m:=(if 5<size then 5 else size)+1) (o:=.lst (us.map MV.str)) (by split<;>lia) (by split<;>lia);generalize Cm x ((if 5<size then 5 else size)+1)=t at t0 t1 TK;generalize Dg x ((if 5<size then 5 else size)+1)=x' at TK;have ht2:t=(t.toNat:Int):=by lia
  have hale:t.toNat<=zs.length:=by split at t1<;>lia
  have ht5:t.toNat<=5:=by split at t1<;>lia
  have S1:Txt.slice ⟨zs.toArray⟩ none (some t)=⟨(zs.take t.toNat).toArray⟩:=by rw[ht2];exact Le (z:=⟨zs.toArray⟩) (by simpa using hale)
  have M:∀lo hi,Ix (.str ⟨zs.toArray⟩) lo hi=some (.str (Txt.slice ⟨zs.toArray⟩ lo hi)):=λlo hi=>by show(if _ then _ else _)=_;rw[if_pos zb]
  have c1e:(⟨#[c1]⟩:Str)=⟨[c1].toArray⟩:=rfl;have A1:BD .add (.str ⟨#[c1]⟩) (.str ⟨(zs.take t.toNat).toArray⟩)=_:=Fv (by simp only[CZ,c1l,List.length_take];lia);have ez:(⟨#[c1]⟩++⟨(zs.take t.toNat).toArray⟩:Str)=⟨([c1]++zs.take t.toNat).toArray⟩:=by rw[c1e,Ii]
  have lz:([c1]++zs.take t.toNat).length<=6:=by simp;lia
  have F:=fin x' (⟨#[c1]⟩++⟨(zs.take t.toNat).toArray⟩) (some (.v (.int j))) (some (.v (.str ⟨#[c1]⟩))) (by
   rw[ez];refine JD (by simp) (by lia) λy hy=>?_;rcases bC.mp hy with hy|hy
   ·rw[bA.mp hy];exact low
   ·exact hz y (eW hy)) (λq=>by
   rw[ez,if_neg hw];exact⟨rfl,by rw[CZ];split<;>lia⟩) (λq=>by lia)
  simp[e2,FW,h25,hw,M,S1,A1,TK,hul,-Ml];exact F
 rintro μ h' ⟨x,us,v10,v11,rfl,rfl,hul0,hall,lett⟩;rw[bG]at hul0;simp;exact⟨us,rfl,hul0,hall,lett.nodup (by lia)⟩
end BK71
namespace BK71
open PySem B L2 PyProof.Rows
structure Rw where
 n:Str
 o:List Ky
 ab:Int
 j:Fin 4
 dp:Nat
structure AG(rs:List Rw):Prop where
 pos:0<rs.length
 ok:∀r∈rs,AM r.n/\1<=r.dp/\r.dp<=6
 root:∀r,rs[0]?=some r->r.ab=-1/\r.dp=1
 up:∀(i:Nat) (r:Rw),rs[i]?=some r->0<i->r.j.val<4/\∃(a:Nat) (ra:Rw),r.ab=a/\a<i/\rs[a]?=some ra/\r.dp=ra.dp+1
 few:∀a:Nat,(rs.filter λr=>r.ab ==(a:Int)).length<=6
def AG.snoc{rs:List Rw}(h:AG rs){r:Rw}{a:Nat}{ra:Rw}(w:AM r.n)(ha:rs[a]?=some ra)(d6:ra.dp<6)(e1:r.ab=a)(e2:r.dp=ra.dp+1)(hj:r.j.val<4)(f6:(rs.filter λr=>r.ab ==(a:Int)).length<6):AG (rs++ [r]):=by
 have hal:=(aE.mp ha).1;refine⟨by rw[aR];have:=h.pos;lia,λx hx=>?_,λx hx=>?_,λi x hx hi=>?_,λb=>?_⟩
 ·rcases bC.mp hx with hx|hx
  ·exact h.ok x hx
  rw[bA]at hx;subst hx;exact⟨w,by lia,by lia⟩
 ·rw[aS h.pos]at hx;exact h.root x hx
 ·by_cases hl:i<rs.length
  ·rw[aS hl]at hx;obtain⟨g1,a',ra',g2,g3,g4,g5⟩:=h.up i x hx hi;exact⟨g1,a',ra',g2,g3,by rw[aS (by lia)];exact g4,g5⟩
  have e:i=rs.length:=by
   have:=(aE.mp hx).1;rw[aR,eQ]at this
   lia
  subst e;rw[aU (aN _),g9]at hx;cases hx;exact⟨hj,a,ra,e1,hal,by rw[aS hal];exact ha,e2⟩
 rw[List.filter_append,aR];by_cases e:(b:Int)=a
 ·have:b=a:=by lia
  subst this;have:(([r]:List Rw).filter λr=>r.ab ==(b:Int)).length<=1:=fV _ _
  lia
 have:(([r]:List Rw).filter λr=>r.ab ==(b:Int))=[]:=by
   rw[fS,if_neg]
   ·rfl
   rw[aI,e1];lia
 rw[this];exact h.few b
def xh:Rw:=⟨Str.ofString "",[],0,0,0⟩
def BJ(rs:List Rw)(i:Nat):Rw:=rs.getD i xh
def Ru{i:Nat}(h:rs[i]?=some r):BJ rs i=r:=by
 unfold BJ;rw[dQ,h];rfl
def Di{i:Nat}(h:i<rs.length):rs[i]?=some (BJ rs i):=by
 rw[Ru (aZ h),aZ h]
def FK(rs:List Rw)(k i:Nat):Bool:=(BJ rs i).ab ==(k:Int)
def K5(rs:List Rw)(k m:Nat):List Nat:=(List.range m).filter (FK rs k)
def Da(rs:List Rw)(k:Nat):List Nat:=K5 rs k rs.length
def FH{k i:Nat}:i∈Da rs k ↔ i<rs.length/\(BJ rs i).ab=k:=by
 unfold Da K5 FK;rw[List.mem_filter,List.mem_range,aI]
def Nm(rs:List Rw)(k:Nat):(Da rs k).Nodup:=List.Pairwise.filter _ List.nodup_range
def XF(rs:List Rw)(g:Nat->Fo):List Nat->Fo
 |[]=>.nil
 |i::is=>.cons (BJ rs i).j (BJ rs i).n (BJ rs i).o (g i) (XF rs g is)
def fo(rs:List Rw):Nat->Nat->Fo
 |0,_=>.nil
 |f+1,k=>XF rs (fo rs f) (Da rs k)
def Bo(rs:List Rw)(f k:Nat):Nd:=⟨(BJ rs k).n,(BJ rs k).o,fo rs f k⟩
theorem Gn(rs:List Rw)(f:Nat):∀is:List Nat,(XF rs (fo rs f) is).items=is.map λi=>((BJ rs i).j,Bo rs f i)
 |[]=>rfl
 |i::is=>by rw[XF,Fo.items,Gn rs f is];rfl
def Th(rs:List Rw)(f:Nat)(is:List Nat):AS (XF rs (fo rs f) is)=(is.map λi=>DO ((BJ rs i).j,Bo rs f i)).flatten:=by
 rw[BA,Gn,c8];rfl
def CW(rs:List Rw):Nat->Nat->List Nat
 |0,k=>[k]
 |f+1,k=>k::((Da rs k).map (CW rs f)).flatten
theorem Ht(rs:List Rw):∀f k,(Ac (Bo rs f k)).map (λy=>y.2.n)=(CW rs f k).map λi=>(BJ rs i).n
 |0,k=>rfl
 |f+1,k=>by
  have h:∀is:List Nat,((is.map λi=>DO ((BJ rs i).j,Bo rs f i)).flatten).map (λy=>y.2.n)=((is.map (CW rs f)).flatten).map λi=>(BJ rs i).n:=by
   intro is
   induction is with
   |nil=>rfl
   |cons i is ih=>
    rw[aX,cG,bT,ih,aX,cG,bT,←Ht rs f i];congr 1;unfold DO;rw[c8];rfl
  show((Bo rs (f+1) k).n::(AS (XF rs (fo rs f) (Da rs k))).map (λy=>y.2.n))=(BJ rs k).n::_;rw[Th,h];rfl
theorem XE(rs:List Rw):∀f k,(fo rs f k).ht<=f
 |0,k=>aN _
 |f+1,k=>by
  have h:∀is:List Nat,(XF rs (fo rs f) is).ht<=f+1:=by
   intro is
   induction is with
   |nil=>exact dX _
   |cons i is ih=>
    rw[XF,Fo.ht];have:=XE rs f i
    lia
  exact h _
def Xe(rs:List Rw)(i:Nat):Nat:=(BJ rs i).ab.toNat
def Yt(rs:List Rw):Nat->Nat->Nat
 |0,i=>i
 |m+1,i=>Xe rs (Yt rs m i)
theorem QS(rs:List Rw):∀m i,Yt rs (m+1) i=Yt rs m (Xe rs i)
 |0,i=>rfl
 |m+1,i=>by
  show Xe rs (Yt rs (m+1) i)=Xe rs (Yt rs m (Xe rs i));rw[QS rs m i]
section
def AG.kid(h:AG rs){k i:Nat}(hi:i∈Da rs k):i<rs.length/\k<i/\(BJ rs i).dp=(BJ rs k).dp+1/\(BJ rs i).j.val<4/\Xe rs i=k:=by
 obtain⟨h1,h2⟩:=FH.mp hi;have e:=Di h1;have i0:0<i:=by
  cases i with
  |zero=>have:=(h.root _ e).1;rw[h2]at this;lia
  |succ i=>lia
 obtain⟨g1,a,ra,g2,g3,g4,g5⟩:=h.up i _ e i0;rw[h2]at g2;have:a=k:=by lia
 subst this;refine⟨h1,g3,by rw[g5,Ru g4],g1,?_⟩;unfold Xe;rw[h2];rfl
theorem AG.desc(h:AG rs):∀{f k i:Nat},i∈CW rs f k->∃m,Yt rs m i=k/\(BJ rs i).dp=(BJ rs k).dp+m/\(i=k\/(i<rs.length/\0<m))
 |0,k,i,hi=>by
  rw[CW,bA]at hi;subst hi;exact⟨0,rfl,rfl,.inl rfl⟩
 |f+1,k,i,hi=>by
  rw[CW,aH]at hi;rcases hi with rfl|hi
  ·exact⟨0,rfl,rfl,.inl rfl⟩
  obtain⟨l,hl,hi⟩:=dD.mp hi;obtain⟨c,hc,rfl⟩:=aW.mp hl;obtain⟨c1,c2,c3,c4,c5⟩:=h.kid hc;obtain⟨m,m1,m2,m3⟩:=AG.desc h hi;refine⟨m+1,by show Xe rs (Yt rs m i)=k;rw[m1,c5],by lia,.inr ⟨?_,by lia⟩⟩;rcases m3 with rfl|m3
  ·exact c1
  exact m3.1
theorem L4{g:Nat->List Nat}:∀{is:List Nat},is.Nodup->(∀i∈is,(g i).Nodup)->(∀i∈is,∀j∈is,i≠j->∀x,x∈g i->x∉g j)->((is.map g).flatten).Nodup
 |[],_,_,_=>fJ
 |i::is,h1,h2,h3=>by
  rw[aX,cG,dB];obtain⟨n1,n2⟩:=bH.mp h1;refine⟨h2 i aF,L4 n2 (λj hj=>h2 j (aD _ hj)) (λa ha b hb=>h3 a (aD _ ha) b (aD _ hb)),λx hx y hy e=>?_⟩;subst e;obtain⟨l,hl,hy⟩:=dD.mp hy;obtain⟨j,hj,rfl⟩:=aW.mp hl;exact h3 i aF j (aD _ hj) (λe=>n1 (by rw[e];exact hj)) x hx hy
theorem AG.ordI_nodup(h:AG rs):∀(f k:Nat),(CW rs f k).Nodup
 |0,k=>by rw[CW];simp
 |f+1,k=>by
  rw[CW,List.nodup_cons];refine⟨λhk=>?_,L4 (Nm rs k) (λi _=>AG.ordI_nodup h f i) (λi hi j hj ne x hx hx'=>?_)⟩
  ·obtain⟨l,hl,hi⟩:=dD.mp hk;obtain⟨c,hc,rfl⟩:=aW.mp hl;obtain⟨c1,c2,c3,c4,c5⟩:=h.kid hc;obtain⟨m,m1,m2,m3⟩:=h.desc hi
   lia
  obtain⟨c1,c2,c3,c4,c5⟩:=h.kid hi;obtain⟨d1,d2,d3,d4,d5⟩:=h.kid hj;obtain⟨m,m1,m2,m3⟩:=h.desc hx;obtain⟨m',m1',m2',m3'⟩:=h.desc hx';have:m=m':=by lia
  subst this;exact ne (by rw[←m1,←m1'])
def AG.ordI_lt(h:AG rs){f k i:Nat}(hk:k<rs.length)(hi:i∈CW rs f k):i<rs.length:=by
 obtain⟨m,_,_,m3⟩:=h.desc hi;rcases m3 with rfl|m3
 ·exact hk
 exact m3.1
end
def PP:∀{n:Nat}{l:List Nat},l.Nodup->(∀i∈l,i<n)->l.length<=n:=by
 intro n
 induction n with
 |zero=>
  intro l _ h2;cases l with
  |nil=>exact aN _
  |cons x l=>have:=h2 x aF;lia
 |succ n ih=>
  intro l h1 h2;by_cases hm:n∈l
  ·have e:=List.length_erase_of_mem hm;have:=ih (h1.erase n) λi hi=>by
    obtain⟨g1,g2⟩:=h1.mem_erase_iff.mp hi;have:=h2 i g2
    lia
   lia
  have:=ih h1 λi hi=>by
   have:=h2 i hi;have:i≠n:=λe=>hm (by rw[←e];exact hi)
   lia
  lia
section
def JP{i:Nat}(h:i<rs.length):BJ rs i∈rs:=aP (Di h)
def Sg(nd:(rs.map (·.n)).Nodup){i j:Nat}(hi:i<rs.length)(hj:j<rs.length)(e:(BJ rs i).n=(BJ rs j).n):i=j:=by
 have a:(rs.map (·.n))[i]?=some (BJ rs i).n:=by rw[aM,Di hi];rfl
 have b:(rs.map (·.n))[j]?=some (BJ rs i).n:=by rw[aM,Di hj,e];rfl
 obtain⟨li,ai⟩:=aE.mp a;obtain⟨lj,bj⟩:=aE.mp b;by_cases h:i<j
 ·exact absurd (ai.trans bj.symm) ((cP.mp nd) i j li lj h)
 by_cases h2:j<i
 ·exact absurd (bj.trans ai.symm) ((cP.mp nd) j i lj li h2)
 lia
def AG.nodup_names(h:AG rs)(nd:(rs.map (·.n)).Nodup){f k:Nat}(hk:k<rs.length):(names (Bo rs f k)).Nodup:=by
 unfold names;rw[Ht,List.Nodup,List.pairwise_map];have hn:=h.ordI_nodup f k;refine List.Pairwise.imp_of_mem ?_ hn;intro a b ha hb ne e;exact ne (Sg nd (h.ordI_lt hk ha) (h.ordI_lt hk hb) e)
def AG.bd(h:AG rs)(l30:rs.length<=30)(nd:(rs.map (·.n)).Nodup){f k:Nat}(hk:k<rs.length)(hf:f<=5):Bd (Bo rs f k):=by
 refine⟨h.nodup_names nd hk,?_,?_⟩
 ·have e:(Ac (Bo rs f k)).length=(CW rs f k).length:=by
   have:=bW List.length (Ht rs f k)
   rwa[aL,aL]at this
  rw[Er]at e;have:=PP (h.ordI_nodup f k) λi hi=>h.ordI_lt hk hi
  lia
 have:=XE rs f k;show(fo rs f k).ht+1<=6
 lia
def AG.dp6(h:AG rs){k:Nat}(hk:k<rs.length):1<=(BJ rs k).dp/\(BJ rs k).dp<=6:=(h.ok _ (JP hk)).2
theorem AG.closed(h:AG rs):∀{f k a i:Nat},(BJ rs k).dp+f=6->a∈CW rs f k->i∈Da rs a->i∈CW rs f k
 |0,k,a,i,hf,ha,hi=>by
  rw[CW,bA]at ha;subst ha;obtain⟨c1,c2,c3,c4,c5⟩:=h.kid hi;have:=(h.dp6 c1).2
  lia
 |f+1,k,a,i,hf,ha,hi=>by
  rw[CW,aH]at ha;rw[CW];refine aD _ ?_;rcases ha with rfl|ha
  ·refine dD.mpr ⟨_,aW.mpr ⟨i,hi,rfl⟩,?_⟩;cases f with
   |zero=>rw[CW];exact List.mem_singleton.mpr rfl
   |succ f=>rw[CW];exact aF
  obtain⟨l,hl,ha⟩:=dD.mp ha;obtain⟨c,hc,rfl⟩:=aW.mp hl;obtain⟨c1,c2,c3,c4,c5⟩:=h.kid hc;exact dD.mpr ⟨_,aW.mpr ⟨c,hc,rfl⟩,AG.closed h (by lia) ha hi⟩
def AG.root1(h:AG rs):(BJ rs 0).dp=1:=(h.root _ (Di h.pos)).2
def AG.all_in(h:AG rs):∀i,i<rs.length->i∈CW rs 5 0:=by
 intro i
 induction i using Nat.strongRecOn with
 |ind i ih=>
  intro hi;by_cases i0:i=0
  ·subst i0;rw[CW];exact aF
  obtain⟨_,a,ra,g2,g3,g4,g5⟩:=h.up i _ (Di hi) (by lia);exact h.closed (by rw[h.root1]) (ih a g3 (by lia)) (FH.mpr ⟨hi,g2⟩)
end
def Rv(rs:List Rw):rs=(List.range rs.length).map (BJ rs):=by
 apply eO;intro i;rw[aM];by_cases hi:i<rs.length
 ·rw[Di hi,aZ (by rw[bG];exact hi),eK];rfl
 rw[dP (by lia),dP (by rw[bG];lia)];rfl
def S6(rs:List Rw)(k:Nat):(Da rs k).length=(rs.filter λr=>r.ab ==(k:Int)).length:=by
 conv=>rhs;rw[Rv rs,List.filter_map,aL]
 rfl
def HX(h:AG rs){f k:Nat}(hf:(BJ rs k).dp+f=6):(fo rs f k).items=(Da rs k).map λc=>((BJ rs c).j,Bo rs (f-1) c):=by
 cases f with
 |zero=>
  have:Da rs k=[]:=List.eq_nil_iff_forall_not_mem.mpr λc hc=>by
   obtain⟨c1,c2,c3,_⟩:=h.kid hc;have:=(h.dp6 c1).2
   lia
  rw[this];rfl
 |succ f=>exact Gn rs f _
variable {n:Nat}
def gx(x:Bx){m:Nat}(hm:0<m):∃a:Fin m,Cm x (m:Int)=(a.val:Int):=by
 have h0:=FZ (x:=x) (m:=(m:Int)) (by lia);have h1:=IP (x:=x) (m:=(m:Int)) (by lia);exact⟨⟨(Cm x m).toNat,by lia⟩,by show _=(((Cm x m).toNat:Nat):Int);lia⟩
def Rw.js(r:Rw):Str:=if r.ab<0 then Str.ofString "" else Co r.j
def F8(r:Rw):MV:=.tup [.str r.n,.tup (r.o.map AO),.int r.ab,.str r.js,.int r.dp]
def ic:BH [a,b,c,d,e] 0=some a/\BH [a,b,c,d,e] 1=some b/\BH [a,b,c,d,e] 2=some c/\BH [a,b,c,d,e] 3=some d/\BH [a,b,c,d,e] 4=some e:=⟨rfl,rfl,rfl,rfl,rfl⟩
def Ua(ks:List Ky)(o:List Ky):Prop:=EX o/\∀k∈o,k∈ks
def OP(ks:List Ky)(H:MH)(q:Nat)(m:Nat)(j:Nat)(μ:En)(h':MH):Prop:=E4 λ(x:Bx) (o:List Ky) (v3 v4:Option R)=>A5 (μ=[some (.r q),some (.v (.lst (ks.map AO))),some (.r (hlen H)),v3,v4]) (h'=hnew (AY H q (Au x)) (.lst (o.map AO))) (o.length<=j) o.Nodup (∀k∈o,k∈ks)
def OR(ks:List Ky)(H:MH)(q:Nat)(m:MV)(h':MH):Prop:=∃(o:List Ky) (x':Bx),m=.tup (o.map AO)/\Ua ks o/\h'=AY H q (Au x')
def Jd{ks:List Ky}{q:Nat}(hq:GJ H q=some (Au x))(hw:∀k∈ks,AM k.1)(h12:ks.length<=12):IM (Ph (n+3) 29 [.r q,.v (.lst (ks.map AO))] H) (OR ks H q):=by
 refine Ka (d:=d29) rfl rfl ?_;have hql:=SN hq;have ql2:∀o,q<hlen (AY H q o):=λo=>by rw[HS];exact hql
 have T0:Ph (n+2) 27 [.r q,.v (.int 6)] (hnew H (.lst []))=.ok (.v (.int (Cm x 6))) (hnew (AY H q (Au (Dg x 6))) (.lst [])):=by
  rw[GX (x:=x) (by rw[Hk hql];exact hq) (by decide) (by decide),FM hql]
 obtain⟨m,em,hm⟩:∃m:Nat,BH [MV.int 0,.int 1,.int 2,.int 2,.int 2,.int 2] (Cm x 6)=some (.int m)/\m<=2:=by
  obtain⟨a,ea⟩:∃a:Fin 6,Cm x 6=(a.val:Int):=gx _ (by decide);rw[ea];have:a=0\/a=1\/a=2\/a=3\/a=4\/a=5:=by lia
  rcases this with rfl|rfl|rfl|rfl|rfl|rfl
  ·exact⟨0,rfl,by decide⟩
  ·exact⟨1,rfl,by decide⟩
  ·exact⟨2,rfl,by decide⟩
  ·exact⟨2,rfl,by decide⟩
  ·exact⟨2,rfl,by decide⟩
  exact⟨2,rfl,by decide⟩
 simp -implicitDefEqProofs [-Ay,d29,T0,em,IY (Int.natCast_nonneg m) (show(m:Int)<=1000 by lia)];refine FN (OK (λ(i:Nat)=>MV.int (i:Int)) (OP ks H q m) ⟨Dg x 6,[],none,none,rfl,rfl,aN _,fJ,(λ_ h=>by cases h)⟩ ?_) ?_
 ·rintro j i μ h' hi ⟨x,o,v3,v4,rfl,rfl,ol,ond,oks⟩;obtain⟨hj,e⟩:=aE.mp hi;rw[bG]at hj;refine⟨_,rfl,?_⟩;have hne0:AK .ne (.lst (ks.map AO)) (.lst [])=some (!ks.isEmpty):=by
   refine(N5 (BQ λk hk=>G8 (hw k hk) 58)).2.trans ?_;cases ks<;>rfl
  by_cases h0:ks=[]
  ·subst h0;have hne:AK .ne (.lst (([]:List Ky).map AO)) (.lst [])=some false:=hne0;simp at hne;simp[hne];exact⟨x,o,_,_,rfl,rfl,by lia,ond,oks⟩
  have h0:0<ks.length:=List.length_pos_iff.mpr h0;have hne:AK .ne (.lst (ks.map AO)) (.lst [])=some true:=by
   rw[hne0];cases ks with
   |nil=>cases h0
   |cons _ _=>rfl
  have T1:Ph (n+2) 27 [.r q,.v (.int (ks.length:Int))] (hnew (AY H q (Au x)) (.lst (o.map AO)))=.ok (.v (.int (Cm x ks.length))) (hnew (AY H q (Au (Dg x ks.length))) (.lst (o.map AO))):=by
   rw[GX (x:=x) (by rw[Hk (ql2 _)];exact Wf hql) (by lia) (by lia),FM (ql2 _),SI]
  have r0:=FZ (x:=x) (m:=(ks.length:Int)) (by lia);have r1:=IP (x:=x) (m:=(ks.length:Int)) (by lia);generalize Cm x (ks.length:Int)=r at r0 r1 T1;generalize Dg x (ks.length:Int)=x' at T1;obtain⟨k,ek⟩:∃k,ks[r.toNat]?=some k:=⟨_,aZ (by lia)⟩;have eix:BH (ks.map AO) r=some (AO k):=by rw[Ay r0,aM,ek];rfl
  have hk:=aP ek;have ein:AK .notin (AO k) (.lst (o.map AO))=some (!decide (k∈o)):=W2 (hw k hk) λy hy=>hw y (oks y hy);have hob:o.length<big:=by unfold big;lia
  have hh:∀o',hlen (AY H q o')=hlen H:=λ_=>HS;have ht:∀o',GJ (hnew (AY H q (Au x')) o') (hlen H)=some o':=λo'=>by rw[←hh (Au x')];exact Cr
  have hp:∀o' o2,AY (hnew (AY H q (Au x')) o') (hlen H) o2=hnew (AY H q (Au x')) o2:=λo' o2=>by rw[←hh (Au x')];exact BM
  by_cases hin:k∈o
  ·simp[-Ay,hne,T1,eix,ein,hin,ht];exact⟨x',o,_,_,rfl,rfl,by lia,ond,oks⟩
  simp[-Ay,hne,T1,eix,ein,hin,ht,hob,hp];refine⟨x',o++ [k],_,_,rfl,by rw[bT];rfl,by simp;lia,?_,?_⟩
  ·rw[dB];exact⟨ond,by simp,λa ha b hb=>by rw[List.mem_singleton.mp hb];rintro rfl;exact hin ha⟩
  intro y hy;rcases bC.mp hy with hy|hy
  ·exact oks y hy
  rw[bA.mp hy];exact hk
 rintro μ h' ⟨x,o,v3,v4,rfl,rfl,ol,ond,oks⟩;rw[bG]at ol;have hh:hlen (AY H q (Au x))=hlen H:=HS;have ht:∀o',GJ (hnew (AY H q (Au x)) o') (hlen H)=some o':=λo'=>by rw[←hh];exact Cr
 have hc:∀o',Gm (hnew (AY H q (Au x)) o') (hlen H)=AY H q (Au x):=λo'=>by rw[←hh,LK (aN _),HU]
 simp[ht,hc];exact⟨o,x,rfl,⟨⟨by lia,ond,λk hk=>hw k (oks k hk)⟩,oks⟩,rfl⟩
end BK71
namespace BK71
open PySem B L2 PyProof.Rows
variable {n:Nat}
structure Mp(ks:List Ky)(rs:List Rw):Prop where
 t:AG rs
 o:∀r∈rs,Ua ks r.o
 l:rs.length<=30
 nd:(rs.map (·.n)).Nodup
def TP(c:Int)(zs:List Str)(ks:List Ky)(m:Nat)(h:MH)(i:Nat)(μ:En)(h':MH):Prop:=E6 λ(x:Bx) (rs:List Rw) (v6 v7 v8 v9:Option R)=>A5 (μ=[some (.v (.int c)),some (.v (.lst (zs.map MV.str))),some (.v (.lst (ks.map AO))),some (.r (hlen h)),some (.v (.int m)),some (.r (hlen h+1)),v6,v7,v8,v9]) (h'=hnew (hnew h (Au x)) (.lst (rs.map F8))) (AG rs) (∀r∈rs,Ua ks r.o) ((rs.map (·.n)).Sublist (zs.take (1+i)))
def ir{q:Nat}(e:GJ h q=some (.lst l)):Gz h (.r q)=some ⟨l,some q⟩:=by
 have e:h[q]?=some (.lst l):=e;simp only[Gz,e]
def jG{j:Nat}(h0:1<=j)(h1:j<=1000):Gg [.v (.int 1),.v (.int j)]=some ⟨(List.range (j-1)).map λ(i:Nat)=>MV.int (1+(i:Int)),none⟩:=by
 have e:∀a b,Gg [.v (.int a),.v (.int b)]=if -(2^62)<=a/\a<2^62/\-(2^62)<=b/\b<2^62 then some ⟨CL a (b-a).toNat,none⟩ else none:=λ_ _=>rfl;rw[e,if_pos (by lia)];have:((j:Int)-1).toNat=j-1:=by lia
 rw[this];rfl
def Vd(c:Int){zs:List Str}{ks:List Ky}(hz:zs.length=30)(zw:∀z∈zs,AM z)(znd:zs.Nodup)(hw:∀k∈ks,AM k.1)(h12:ks.length<=12):Im (Ph (n+4) 30 [.v (.int c),.v (.lst (zs.map MV.str)),.v (.lst (ks.map AO))] h) h λr=>∃rs,r=.lst (rs.map F8)/\Mp ks rs:=by
 refine Lw (d:=d30) rfl rfl ?_;obtain⟨a,ea⟩:∃a:Fin 8,Cm (Uk c) 8=(a.val:Int):=gx _ (by decide);obtain⟨b,eb⟩:∃a:Fin 30,Cm (Dg (Uk c) 8) 30=(a.val:Int):=gx _ (by decide);generalize hx2:Dg (Dg (Uk c) 8) 30=x2;have en:(zs.length:Int)=30:=by rw[hz];rfl
 obtain⟨m,em,hm1,hm30⟩:∃m:Nat,BH [MV.int (1+(a.val:Int)),.int (1+(b.val:Int))] (if Cm x2 8=0 then 1 else 0)=some (.int (m:Int))/\1<=m/\m<=30:=by
  split
  ·exact⟨1+b.val,by simp,by lia,by lia⟩
  exact⟨1+a.val,by simp,by lia,by lia⟩
 generalize hx:Dg x2 8=x;simp[-Ay,d30,Kc,tk1,ea,eb,hx2,en,em,hx];obtain⟨_,_,eo,o,x',rfl,oo,rfl⟩:=Jd (n:=n) (H:=hnew h (Au x)) (q:=hlen h) Cr hw h12;rw[BM]at eo;obtain⟨z0,ez0⟩:∃z,zs[0]?=some z:=⟨_,aZ (by lia)⟩;have eix:BH (zs.map MV.str) 0=some (.str z0):=by rw[Ay (by decide),aM];show(zs[0]?).map _=_;rw[ez0];rfl
 simp -implicitDefEqProofs [-Ay,eix,eo,jG hm1 (show m<=1000 by lia)];refine Jt (OK (λ(i:Nat)=>MV.int (1+(i:Int))) (TP c zs ks m h) ⟨x',[⟨z0,o,-1,0,1⟩],none,none,none,none,rfl,rfl,?_,?_,?_⟩ ?_) ?_
 ·refine⟨by simp,?_,?_,?_,?_⟩
  ·intro r hr;rw[bA.mp hr];exact⟨zw z0 (aP ez0),show(1:Nat)<=1 by decide,show(1:Nat)<=6 by decide⟩
  ·intro r hr;cases hr;exact⟨rfl,rfl⟩
  ·intro i r hr hi;cases i with
   |zero=>lia
   |succ i=>simp at hr
  intro a;exact b9 (fV _ _) (by simp)
 ·intro r hr;rw[bA.mp hr];exact oo
 ·have:zs.take 1=[z0]:=by
   cases zs with
   |nil=>simp at ez0
   |cons z zs=>simp at ez0;rw[ez0];rfl
  rw[show 1+0=1 from rfl,this];exact cI _
 ·rintro j i μ h' hi ⟨x,rs,v6,v7,v8,v9,rfl,rfl,tr,ro,sub⟩;obtain⟨hj,e⟩:=aE.mp hi;rw[bG]at hj;rw[eK]at e;subst e;refine⟨_,rfl,?_⟩;have hrl:rs.length<=30:=by
   have:=sub.length_le;rw[aL,cM]at this
   lia
  have hrp:=tr.pos;have TK:=tk2 (n:=n+1) (h:=h) (x:=x) (m:=(rs.length:Int)) (o:=.lst (rs.map F8)) (by lia) (by lia);obtain⟨above,eab⟩:=gx x hrp;generalize hx':Dg x (rs.length:Int)=x' at TK;rw[eab]at TK;obtain⟨ra,era⟩:∃r,rs[above.val]?=some r:=⟨_,aZ above.2⟩;have hra:BH (rs.map F8) (above.val:Int)=some (F8 ra):=by rw[Ay (cB _),aM,bU,era];rfl
  simp[TK,Az];rw[ND (q:=hlen h+1) (h1:=hnew (hnew h (Au x')) (.lst (rs.map F8))) rs F8 F8 (λr=>r.ab ==(above.val:Int)) ?_ SM (AL (by lia)) ?_]
  ·have ez:∃z,zs[1+j]?=some z:=⟨_,aZ (by lia)⟩;obtain⟨z,ez⟩:=ez;have ezx:BH (zs.map MV.str) (1+(j:Int))=some (.str z):=by
    have:(1+(j:Int))=((1+j:Nat):Int):=by lia
    rw[this,Ay (cB _),aM,bU,ez];rfl
   have tk1:zs.take (1+(j+1))=zs.take (1+j)++ [z]:=Pw ez;have nof:∀v8 v9,TP c zs ks m h (j+1) [some (.v (.int c)),some (.v (.lst (zs.map MV.str))),some (.v (.lst (ks.map AO))),some (.r (hlen h)),some (.v (.int m)),some (.r (hlen h+1)),some (.v (.int (1+(j:Int)))),some (.v (.int (above.val:Int))),v8,v9] (hnew (hnew h (Au x')) (.lst (rs.map F8))):=λv8 v9=>⟨x',rs,_,_,_,_,rfl,rfl,tr,ro,by rw[tk1];exact sub.trans (dZ _ _)⟩;by_cases hf:(rs.filter λr=>r.ab ==(above.val:Int)).length<6
   ·have hf':(((rs.filter λr=>r.ab ==(above.val:Int)).length:Nat):Int)<6:=by lia
    by_cases hd:ra.dp<6
    ·have hd':(ra.dp:Int)<6:=by lia
     obtain⟨jn,ej⟩:∃jn:Fin 4,BH [MV.str "called",.str "beside",.str "joined",.str "changed",.str "changed",.str "joined"] (Cm x' 6)=some (.str (Co jn)):=by
      obtain⟨a,ea⟩:∃a:Fin 6,Cm x' 6=(a.val:Int):=gx _ (by decide);rw[ea];have:a=0\/a=1\/a=2\/a=3\/a=4\/a=5:=by lia
      rcases this with rfl|rfl|rfl|rfl|rfl|rfl
      ·exact⟨0,rfl⟩
      ·exact⟨1,rfl⟩
      ·exact⟨2,rfl⟩
      ·exact⟨3,rfl⟩
      ·exact⟨3,rfl⟩
      exact⟨2,rfl⟩
     have TJ:=tk2 (n:=n+1) (h:=h) (x:=x') (m:=6) (o:=.lst (rs.map F8)) (by decide) (by decide);generalize Cm x' 6=tj at TJ ej;generalize Dg x' 6=x2 at TJ;obtain⟨_,_,eo,o,x3,rfl,oo,rfl⟩:=Jd (n:=n) (H:=hnew (hnew h (Au x2)) (.lst (rs.map F8))) (q:=hlen h) (x:=x2) (by rw[Hk (by simp)];exact Cr) hw h12;rw[FM (by simp),BM]at eo;have hrb:rs.length<big:=by unfold big;lia
     have era':F8 ra=.tup [.str ra.n,.tup (ra.o.map AO),.int ra.ab,.str ra.js,.int ra.dp]:=rfl;rw[era']at hra;simp[-Ay,hf',hra,ic,hd',TJ,ej,ezx,eo,hrb];have ejs:(⟨z,o,(above.val:Int),jn,ra.dp+1⟩:Rw).js=Co jn:=by unfold Rw.js;rw[if_neg (by simp)]
     refine⟨x3,rs++ [⟨z,o,(above.val:Int),jn,ra.dp+1⟩],_,_,_,_,rfl,?_,tr.snoc (zw z (aP ez)) era hd rfl rfl jn.2 hf,?_,?_⟩
     ·rw[bT];show _=hnew (hnew h (Au x3)) (.lst (rs.map F8++ [.tup [.str z,.tup (o.map AO),.int (above.val:Int),.str (Rw.js _),.int ((ra.dp+1:Nat):Int)]]));rw[ejs];rfl
     ·intro r hr;rcases bC.mp hr with hr|hr
      ·exact ro r hr
      rw[bA.mp hr];exact oo
     rw[tk1,bT];exact sub.append (cI _)
    have hd': ¬(ra.dp:Int)<6:=by lia
    have era':F8 ra=.tup [.str ra.n,.tup (ra.o.map AO),.int ra.ab,.str ra.js,.int ra.dp]:=rfl;rw[era']at hra;simp[-Ay,hf',hra,ic,hd'];exact nof _ _
   have hf': ¬(((rs.filter λr=>r.ab ==(above.val:Int)).length:Nat):Int)<6:=by lia
   simp[hf'];exact nof _ _
  ·simp[ir (SM (h:=h) (a:=Au x') (b:=.lst (rs.map F8)))]
  intro r _;refine⟨_,rfl,?_,λ_=>?_⟩
  ·simp[startC,F8,ic,-Ay];rfl
  simp[startC]
 rintro μ h' ⟨x,rs,v6,v7,v8,v9,rfl,rfl,tr,ro,sub⟩;have hrl:rs.length<=30:=by
  have:=sub.length_le;rw[aL,cM]at this
  lia
 simp;exact⟨rs,rfl,tr,ro,hrl,(znd.sublist (gV _ _)).sublist sub⟩
end BK71
namespace BK71
open PySem B L2
def Ag(f:Fo):List Str:=(AS f).map λy=>y.2.n
def AD(d:Nd):names d=d.n::Ag d.ks:=rfl
def Af(j:Fin 4)(n:Str)(o:List Ky)(ks r:Fo):Ag (.cons j n o ks r)=n::(Ag ks++Ag r):=by
 unfold Ag;rw[AS,bT,c8,aX,fT];rfl
noncomputable def Bi(z:Str)(e:Nd):Fo->Fo
 |.nil=>.nil
 |.cons j n o ks r=>if n=z then .cons j e.n e.o e.ks (Bi z e r) else .cons j n o (Bi z e ks) (Bi z e r)
def Bj(d:Nd)(z:Str)(e:Nd):Nd:=if d.n=z then e else⟨d.n,d.o,Bi z e d.ks⟩
theorem BX(z:Str)(e:Nd):∀f:Fo,(Bi z e f).items=f.items.map λx=>(x.1,Bj x.2 z e)
 |.nil=>rfl
 |.cons j n o ks r=>by
  have ih:=BX z e r;show(if n=z then Fo.cons j e.n e.o e.ks (Bi z e r) else .cons j n o (Bi z e ks) (Bi z e r)).items=(j,Bj ⟨n,o,ks⟩ z e)::_;by_cases c:n=z
  ·rw[if_pos c,Fo.items,ih];unfold Bj;rw[if_pos c]
  rw[if_neg c,Fo.items,ih];unfold Bj;rw[if_neg c]
def B8(z:Str)(c:Nd->Nd):Fo->Fo
 |.nil=>.nil
 |.cons j n o ks r=>let y:=if n=z then c ⟨n,o,B8 z c ks⟩ else⟨n,o,B8 z c ks⟩; .cons j y.n y.o y.ks (B8 z c r)
def DN(d:Nd)(z:Str)(c:Nd->Nd):Nd:=if d.n=z then c ⟨d.n,d.o,B8 z c d.ks⟩ else⟨d.n,d.o,B8 z c d.ks⟩
theorem DM(z:Str)(c:Nd->Nd):∀f:Fo,(B8 z c f).items=f.items.map λx=>(x.1,DN x.2 z c)
 |.nil=>rfl
 |.cons j n o ks r=>by
  show(j,_)::(B8 z c r).items=(j,DN ⟨n,o,ks⟩ z c)::_;rw[DM z c r];rfl
theorem Bu{z:Str}:∀{f:Fo},z∉Ag f->Bi z e f=f
 |.nil,_=>rfl
 |.cons j n o ks r,h=>by
  rw[Af]at h;simp only[List.mem_cons,List.mem_append,not_or]at h;rw[Bi,if_neg (λx=>h.1 x.symm),Bu h.2.1,Bu h.2.2]
theorem Cy{z:Str}:∀{f:Fo},z∉Ag f->B8 z c f=f
 |.nil,_=>rfl
 |.cons j n o ks r,h=>by
  rw[Af]at h;simp only[List.mem_cons,List.mem_append,not_or]at h;rw[B8,if_neg (λx=>h.1 x.symm),Cy h.2.1,Cy h.2.2]
def F9(h:y∈AS f):y.2.n∈Ag f:=aW.mpr ⟨y,h,rfl⟩
theorem JH{z:Str}:∀{f:Fo}{y:Rd},(Ag f).Nodup->y∈AS f->y.2.n=z->e=c y.2->
 B8 z c f=Bi z e f/\(∃A B,Ag f=A++names y.2++B/\Ag (Bi z e f)=A++names e++B)/\(Bi z e f).ht<=max f.ht (y.1.length+e.ks.ht)
 |.nil,y,_,h,_,_=>by cases h
 |.cons j n o ks r,y,nd,h,hz,he=>by
  rw[Af]at nd;obtain⟨n1,n2⟩:=bH.mp nd;obtain⟨k1,k2,k3⟩:=dB.mp n2;rcases bC.mp h with h|h
  ·obtain⟨w,hw,rfl⟩:=aW.mp h;rcases aH.mp hw with rfl|hw
   ·-- it is this one
    have hz:n=z:=hz;have zk:z∉Ag ks:=λx=>n1 (bF _ (hz▸x));have zr:z∉Ag r:=λx=>n1 (b7 _ (hz▸x));have he:e=c ⟨n,o,ks⟩:=he;refine⟨?_,⟨[],Ag r,?_,?_⟩,?_⟩
    ·rw[B8,Bi,if_pos hz,if_pos hz,Cy zk,Cy zr,Bu zr,←he]
    ·rw[Af,AD];rfl
    ·rw[Bi,if_pos hz,Af,Bu zr,AD];rfl
    rw[Bi,if_pos hz,Bu zr,Fo.ht,Fo.ht];show _<=max _ (0+1+_)
    lia
   have hz:w.2.n=z:=hz;have he:e=c w.2:=he;have zk:z∈Ag ks:=hz▸F9 hw;have nz:n≠z:=λx=>n1 (bF _ (x▸zk));have zr:z∉Ag r:=λx=>k3 z zk z x rfl;obtain⟨a1,⟨A,B,a2,a3⟩,a4⟩:=JH k1 hw hz he;refine⟨?_,⟨n::A,B++Ag r,?_,?_⟩,?_⟩
   ·rw[B8,Bi,if_neg nz,if_neg nz,a1,Cy zr,Bu zr]
   ·rw[Af,a2];simp
   ·rw[Bi,if_neg nz,Af,a3,Bu zr];simp
   rw[Bi,if_neg nz,Bu zr,Fo.ht,Fo.ht];show _<=max _ (w.1.length+1+_)
   lia
  have zr:z∈Ag r:=hz▸F9 h;have nz:n≠z:=λx=>n1 (b7 _ (x▸zr));have zk:z∉Ag ks:=λx=>k3 z x z zr rfl;obtain⟨a1,⟨A,B,a2,a3⟩,a4⟩:=JH k2 h hz he;refine⟨?_,⟨n::(Ag ks++A),B,?_,?_⟩,?_⟩
  ·rw[B8,Bi,if_neg nz,if_neg nz,a1,Cy zk,Bu zk]
  ·rw[Af,a2];simp
  ·rw[Bi,if_neg nz,Af,a3,Bu zk];simp
  rw[Bi,if_neg nz,Bu zk,Fo.ht,Fo.ht]
  lia
def Ex{z:Str}(nd:(names d).Nodup)(h:y∈Ac d)(hz:y.2.n=z)(he:e=c y.2) :
 DN d z c=Bj d z e/\(∃A B,names d=A++names y.2++B/\names (Bj d z e)=A++names e++B)/\(Bj d z e).ks.ht<=max d.ks.ht (y.1.length+e.ks.ht):=by
 rw[AD]at nd;obtain⟨n1,n2⟩:=bH.mp nd;rcases aH.mp h with rfl|h
 ·have hz:=hz;have zk:z∉Ag d.ks:=λx=>n1 (hz▸x);have he:=he;refine⟨?_,⟨[],[],by simp,?_⟩,?_⟩
  ·unfold DN Bj;rw[if_pos hz,if_pos hz,Cy zk,he]
  ·unfold Bj;rw[if_pos hz];simp
  unfold Bj;rw[if_pos hz];show _<=max _ (0+_)
  lia
 have zk:=hz▸F9 h;have nz:d.n≠z:=λx=>n1 (x▸zk);obtain⟨a1,⟨A,B,a2,a3⟩,a4⟩:=JH n2 h hz he;refine⟨?_,⟨d.n::A,B,?_,?_⟩,?_⟩
 ·unfold DN Bj;rw[if_neg nz,if_neg nz,a1]
 ·rw[AD,a2];simp
 ·unfold Bj;rw[if_neg nz,AD];show d.n::Ag (Bi z e d.ks)=_;rw[a3];simp
 unfold Bj;rw[if_neg nz];exact a4
def wL(d:Nd):Prop:=AM d.n/\EX d.o/\d.ks.items.length<=6
def Eo:Fo->Prop
 |.nil=>True
 |.cons _ n o ks r=>wL ⟨n,o,ks⟩/\Eo ks/\Eo r
def Mv(d:Nd):Prop:=wL d/\Eo d.ks
theorem Eo.mem:∀{f:Fo},Eo f->∀{x:Fin 4×Nd},x∈f.items->Mv x.2
 |.nil,_,x,h=>by cases h
 |.cons j n o ks r,s,x,h=>by
  rcases aH.mp h with rfl|h
  ·exact⟨s.1,s.2.1⟩
  exact s.2.2.mem h
theorem Eo.of:∀{f:Fo},(∀x∈f.items,Mv x.2)->Eo f
 |.nil,_=>trivial
 |.cons j n o ks r,h=>⟨(h _ aF).1,(h _ aF).2,Eo.of λx hx=>h x (aD _ hx)⟩
theorem Ez{z:Str}(se:Mv e):∀{f:Fo},Eo f->Eo (Bi z e f)
 |.nil,_=>trivial
 |.cons j n o ks r,s=>by
  rw[Bi];split
  ·exact⟨se.1,se.2,Ez se s.2.2⟩
  refine⟨⟨s.1.1,s.1.2.1,?_⟩,Ez se s.2.1,Ez se s.2.2⟩;show(Bi z e ks).items.length<=6;rw[BX,aL];exact s.1.2.2
def Ll{z:Str}(sd:Mv d)(se:Mv e):Mv (Bj d z e):=by
 unfold Bj;split
 ·exact se
 refine⟨⟨sd.1.1,sd.1.2.1,?_⟩,Ez se sd.2⟩;show(Bi z e d.ks).items.length<=6;rw[BX,aL];exact sd.1.2.2
def Bd.kid(b:Bd d)(hx:x∈d.ks.items):Bd x.2:=by
 have hh:=Eg hx;refine⟨?_,by have:=b.z;lia,by have:=b.h;lia⟩;have nd:=b.nd;rw[AD]at nd;have sub:∀{f:Fo},x∈f.items->(names x.2).Sublist (Ag f):=by
  intro f
  induction f with
  |nil=>intro h;cases h
  |cons j n o ks r _ ih=>
   intro h;rw[Af];rcases aH.mp h with rfl|h
   ·rw[AD,←fT];exact dZ _ _
   exact((ih h).trans (cE _ _)).cons _
 exact(bH.mp nd).2.sublist (sub hx)
theorem Ey:∀{f:Fo}{y:Rd},y∈AS f->∃rd j,y.1=rd++ [(j,y.2.n)]
 |.nil,y,h=>by cases h
 |.cons j n o ks r,y,h=>by
  rcases bC.mp h with h|h
  ·obtain⟨w,hw,rfl⟩:=aW.mp h;rcases aH.mp hw with rfl|hw
   ·exact⟨[],j,rfl⟩
   obtain⟨rd,i,e⟩:=Ey hw;exact⟨(j,n)::rd,i,by show(j,n)::w.1=_;rw[e];rfl⟩
  exact Ey h
theorem Ys:∀{f:Fo}{y:Rd},y∈AS f->(∃j,y.1=[(j,y.2.n)]/\(j,y.2)∈f.items)\/∃y'∈AS f,∃j,y.1=y'.1++ [(j,y.2.n)]/\(j,y.2)∈y'.2.ks.items
 |.nil,y,h=>by cases h
 |.cons j n o ks r,y,h=>by
  rcases bC.mp h with h|h
  ·obtain⟨w,hw,rfl⟩:=aW.mp h;have top:(([(j,n)],⟨n,o,ks⟩):Rd)∈AS (.cons j n o ks r):=bF _ (aW.mpr ⟨([],⟨n,o,ks⟩),aF,rfl⟩);rcases aH.mp hw with rfl|hw
   ·exact .inl ⟨j,rfl,aF⟩
   right
   rcases Ys hw with⟨i,e,hm⟩|⟨y',hy',i,e,hm⟩
   ·exact⟨_,top,i,by show(j,n)::w.1=_;rw[e];rfl,hm⟩
   exact⟨((j,n)::y'.1,y'.2),bF _ (aW.mpr ⟨y',aD _ hy',rfl⟩),i,by show(j,n)::w.1=_;rw[e];rfl,hm⟩
  rcases Ys h with⟨i,e,hm⟩|⟨y',hy',i,e,hm⟩
  ·exact .inl ⟨i,e,aD _ hm⟩
  exact .inr ⟨y',b7 _ hy',i,e,hm⟩
def pI(h:y∈Ac d)(hne:y.1≠[]):∃y'∈Ac d,∃j,y.1=y'.1++ [(j,y.2.n)]/\(j,y.2)∈y'.2.ks.items:=by
 rcases aH.mp h with rfl|h
 ·exact absurd rfl hne
 rcases Ys h with⟨j,e,hm⟩|⟨y',hy',j,e,hm⟩
 ·exact⟨_,aF,j,e,hm⟩
 exact⟨y',aD _ hy',j,e,hm⟩
def NJ(h:y∈Ac d):∃A,d.n::y.1.map (·.2)=A++ [y.2.n]:=by
 rcases aH.mp h with rfl|h
 ·exact⟨[],rfl⟩
 obtain⟨rd,j,e⟩:=Ey h;exact⟨d.n::rd.map (·.2),by rw[e,bT];rfl⟩
def Qp(h:y∈Ac d)(e:y.1=[]):y=([],d):=by
 rcases aH.mp h with rfl|h
 ·rfl
 obtain⟨rd,j,e2⟩:=Ey h;rw[e]at e2;have:=bW List.length e2;simp at this
def AT(z:Str)(d:Nd):Bool:=decide (z∈d.ks.items.map λx=>x.2.n)
def D6(z:Str)(f:Fo):List Str:=((AS f).filter λy=>AT z y.2).map λy=>y.2.n
def Gu(z:Str)(d:Nd):List Str:=((Ac d).filter λy=>AT z y.2).map λy=>y.2.n
theorem Cv:∀{f:Fo}{x:Fin 4×Nd},x∈f.items->x.2.n∈Ag f
 |.nil,x,h=>by cases h
 |.cons j n o ks r,x,h=>by
  rw[Af];rcases aH.mp h with rfl|h
  ·exact aF
  exact aD _ (b7 _ (Cv h))
def BC(z:Str)(j:Fin 4)(n:Str)(o:List Ky)(ks r:Fo):D6 z (.cons j n o ks r)=(if AT z ⟨n,o,ks⟩=true then [n] else [])++(D6 z ks++D6 z r):=by
 unfold D6;rw[AS,List.filter_append,bT,aX,fS];have e:((AS ks).map λx=>((j,n)::x.1,x.2)).filter (λy=>AT z y.2)=((AS ks).filter λy=>AT z y.2).map λx=>((j,n)::x.1,x.2):=by
  rw[List.filter_map];rfl
 rw[e];cases hk:AT z ⟨n,o,ks⟩ with
 |true=>simp
 |false=>simp
def J6(z:Str)(d:Nd):Gu z d=(if AT z d=true then [d.n] else [])++D6 z d.ks:=by
 unfold Gu D6;rw[Ac,fS];cases hk:AT z d with
 |true=>simp
 |false=>simp
theorem B0{z:Str}:∀{f:Fo},z∉Ag f->D6 z f=[]
 |.nil,_=>rfl
 |.cons j n o ks r,h=>by
  rw[Af]at h;simp only[List.mem_cons,List.mem_append,not_or]at h;have hk:AT z ⟨n,o,ks⟩=false:=bP λhm=>by
   obtain⟨x,hx,e⟩:=aW.mp hm;exact h.2.1 (e▸Cv hx)
  rw[BC,hk,B0 h.2.1,B0 h.2.2];simp
theorem D0:∀{f:Fo}{y:Rd}{x:Fin 4×Nd},y∈AS f->x∈y.2.ks.items->x.2.n∈Ag f
 |.nil,y,x,h,_=>by cases h
 |.cons j n o ks r,y,x,h,hx=>by
  rw[Af];rcases bC.mp h with h|h
  ·obtain⟨w,hw,rfl⟩:=aW.mp h;rcases aH.mp hw with rfl|hw
   ·exact aD _ (bF _ (Cv hx))
   exact aD _ (bF _ (D0 hw hx))
  exact aD _ (b7 _ (D0 h hx))
def EG{z n:Str}(h:z∉Ag ks):AT z ⟨n,o,ks⟩=false:=bP λhm=>by
 obtain⟨x,hx,e⟩:=aW.mp hm;exact h (e▸Cv hx)
theorem CA{z:Str}:∀{f:Fo},(Ag f).Nodup->z∈f.items.map (λx=>x.2.n)->D6 z f=[]
 |.nil,_,h=>by cases h
 |.cons j n o ks r,nd,h=>by
  rw[Af]at nd;obtain⟨n1,n2⟩:=bH.mp nd;obtain⟨k1,k2,k3⟩:=dB.mp n2;rcases aH.mp h with e|h
  ·have e:z=n:=e;have a:z∉Ag ks:=λx=>n1 (bF _ (e▸x));have b:z∉Ag r:=λx=>n1 (b7 _ (e▸x));rw[BC,EG a,B0 a,B0 b];simp
  have zr:z∈Ag r:=by
   obtain⟨x,hx,e⟩:=aW.mp h;exact e▸Cv hx
  have zk:z∉Ag ks:=λx=>k3 z x z zr rfl;rw[BC,EG zk,B0 zk,CA k2 h];simp
theorem Fw{z:Str}:∀{f:Fo}{y:Rd}{x:Fin 4×Nd},(Ag f).Nodup->y∈AS f->x∈y.2.ks.items->x.2.n=z->D6 z f=[y.2.n]
 |.nil,y,x,_,h,_,_=>by cases h
 |.cons j n o ks r,y,x,nd,h,hx,hz=>by
  rw[Af]at nd;obtain⟨n1,n2⟩:=bH.mp nd;obtain⟨k1,k2,k3⟩:=dB.mp n2;rcases bC.mp h with h|h
  ·obtain⟨w,hw,rfl⟩:=aW.mp h;rcases aH.mp hw with rfl|hw
   ·have hx:x∈ks.items:=hx;have zk:z∈Ag ks:=hz▸Cv hx;have zr:z∉Ag r:=λq=>k3 z zk z q rfl;have hm:z∈ks.items.map (λx=>x.2.n):=aW.mpr ⟨x,hx,hz⟩;have hk:AT z ⟨n,o,ks⟩=true:=bQ hm;rw[BC,hk,CA k1 hm,B0 zr];simp
   have hx:x∈w.2.ks.items:=hx;have zk:z∈Ag ks:=hz▸D0 hw hx;have zr:z∉Ag r:=λq=>k3 z zk z q rfl;have ih:=Fw k1 hw hx hz;have hk:AT z ⟨n,o,ks⟩=false:=by
    cases e:AT z ⟨n,o,ks⟩ with
    |false=>rfl
    |true=>rw[CA k1 (aY e)]at ih;cases ih
   rw[BC,hk,ih,B0 zr];simp
  have zr:z∈Ag r:=hz▸D0 h hx;have zk:z∉Ag ks:=λq=>k3 z q z zr rfl;rw[BC,EG zk,B0 zk,Fw k2 h hx hz];simp
def NK{z:Str}(nd:(names d).Nodup)(h:y∈Ac d)(hx:x∈y.2.ks.items)(hz:x.2.n=z):Gu z d=[y.2.n]:=by
 rw[AD]at nd;obtain⟨n1,n2⟩:=bH.mp nd;rw[J6];rcases aH.mp h with rfl|h
 ·have hx:x∈d.ks.items:=hx;have hm:z∈d.ks.items.map (λx=>x.2.n):=aW.mpr ⟨x,hx,hz⟩;have hk:AT z d=true:=bQ hm;rw[hk,CA n2 hm];simp
 have ih:=Fw n2 h hx hz;have hk:AT z d=false:=by
  cases e:AT z d with
  |false=>rfl
  |true=>rw[CA n2 (aY e)]at ih;cases ih
 rw[hk,ih];simp
def Q8{z:Str}(h:z∉Ag d.ks):Gu z d=[]:=by
 have hk:=EG (n:=d.n) (o:=d.o) h;rw[J6,hk,B0 h];simp
def BB(d:Nd):(names d).length=d.ks.size+1:=by unfold names;rw[aL,Er]
theorem JR:∀{f:Fo}{y:Rd},y∈AS f->y.1.length+y.2.ks.ht<=f.ht
 |.nil,y,h=>by cases h
 |.cons j n o ks r,y,h=>by
  rw[Fo.ht];rcases bC.mp h with h|h
  ·obtain⟨w,hw,rfl⟩:=aW.mp h;rcases aH.mp hw with rfl|hw
   ·show 0+1+ks.ht<=_;lia
   have:=JR hw;show w.1.length+1+w.2.ks.ht<=_
   lia
  have:=JR h;lia
def Lj(h:y∈Ac d):y.1.length+y.2.ks.ht<=d.ks.ht:=by
 rcases aH.mp h with rfl|h
 ·show 0+d.ks.ht<=_;lia
 exact JR h
def Pj(b:Bd d)(hy:y∈Ac d)(sub:(names e).Sublist (names y.2))(hh:e.ks.ht<=y.2.ks.ht):Bd e/\Bd (Bj d y.2.n e):=by
 obtain⟨_,⟨A,B,h1,h2⟩,h3⟩:=Ex (c:=λ_=>e) b.nd hy rfl rfl;have hr:=Lj hy;have z:=b.z;have h:=b.h;have l:=BB d;have s1:(names e).Sublist (names d):=by
  rw[h1,cU];exact sub.trans ((dZ _ _).trans (cE _ _))
 have s2:(names (Bj d y.2.n e)).Sublist (names d):=by
  rw[h1,h2];exact(f7 (f7 (cI A) sub) (cI B))
 have l1:=s1.length_le;have l2:=s2.length_le;rw[BB]at l1 l2;exact⟨⟨b.nd.sublist s1,by lia,by lia⟩,⟨b.nd.sublist s2,by lia,by lia⟩⟩
def GU(z:Str):Fo->Fo
 |.nil=>.nil
 |.cons j n o ks r=>if n=z then GU z r else .cons j n o ks (GU z r)
theorem BO(z:Str):∀f:Fo,(GU z f).items=f.items.filter λx=>decide (x.2.n≠z)
 |.nil=>rfl
 |.cons j n o ks r=>by
  rw[GU,Fo.items,fS];by_cases c:n=z
  ·rw[if_pos c,BO z r];simp[c]
  rw[if_neg c,Fo.items,BO z r];simp[c]
theorem Ft(z:Str):∀f:Fo,(Ag (GU z f)).Sublist (Ag f)/\(GU z f).ht<=f.ht
 |.nil=>⟨cI _,aN _⟩
 |.cons j n o ks r=>by
  obtain⟨a,b⟩:=Ft z r;rw[GU];split
  ·rw[Af,Fo.ht];exact⟨(a.trans (cE _ _)).cons _,by lia⟩
  rw[Af,Af,Fo.ht,Fo.ht];exact⟨(f7 (cI _) a).cons_cons _,by lia⟩
def HY(z:Str)(d:Nd):Nd:=⟨d.n,d.o,GU z d.ks⟩
def N8(z:Str)(d:Nd):(names (HY z d)).Sublist (names d):=by
 rw[AD,AD];exact(Ft z d.ks).1.cons_cons _
theorem JK:∀{f:Fo}{y:Rd},Eo f->y∈AS f->Mv y.2
 |.nil,y,_,h=>by cases h
 |.cons j n o ks r,y,s,h=>by
  rcases bC.mp h with h|h
  ·obtain⟨w,hw,rfl⟩:=aW.mp h;rcases aH.mp hw with rfl|hw
   ·exact⟨s.1,s.2.1⟩
   have:=JK s.2.1 hw;exact this
  exact JK s.2.2 h
def BW(s:Mv d)(h:y∈Ac d):Mv y.2:=by
 rcases aH.mp h with rfl|h
 ·exact s
 exact JK s.2 h
def DC(z:Str)(j:Fin 4):Fo->Fo
 |.nil=>.nil
 |.cons i n o ks r=>.cons (if n=z then j else i) n o ks (DC z j r)
def DS(z:Str)(j:Fin 4)(d:Nd):Nd:=⟨d.n,d.o,DC z j d.ks⟩
theorem BV(z:Str)(j:Fin 4):∀f:Fo,(DC z j f).items=f.items.map λx=>(if x.2.n=z then j else x.1,x.2)
 |.nil=>rfl
 |.cons i n o ks r=>by rw[DC,Fo.items,BV z j r];rfl
theorem DQ(z:Str)(j:Fin 4):∀f:Fo,Ag (DC z j f)=Ag f/\(DC z j f).ht=f.ht
 |.nil=>⟨rfl,rfl⟩
 |.cons i n o ks r=>by
  obtain⟨a,b⟩:=DQ z j r;rw[DC,Af,Af,a,Fo.ht,b];exact⟨rfl,rfl⟩
def KZ(z:Str)(j:Fin 4)(d:Nd):(names (DS z j d)).Sublist (names d):=by
 rw[AD,AD];show(d.n::Ag (DC z j d.ks)).Sublist _;rw[(DQ z j d.ks).1];exact cI _
def DW(o:List Ky)(d:Nd):Nd:=⟨d.n,o,d.ks⟩
def Fo.snoc(j:Fin 4)(e:Nd):Fo->Fo
 |.nil=>.cons j e.n e.o e.ks .nil
 |.cons i n o ks r=>.cons i n o ks (Fo.snoc j e r)
def Cz(j:Fin 4)(e d:Nd):Nd:=⟨d.n,d.o,d.ks.snoc j e⟩
theorem Bp(j:Fin 4)(e:Nd):∀f:Fo,(f.snoc j e).items=f.items++ [(j,e)]
 |.nil=>rfl
 |.cons i n o ks r=>by rw[Fo.snoc,Fo.items,Bp j e r];rfl
theorem Dh(j:Fin 4)(e:Nd):∀f:Fo,Ag (f.snoc j e)=Ag f++names e/\(f.snoc j e).ht=max f.ht (e.ks.ht+1)
 |.nil=>by
  rw[Fo.snoc,Af,AD,Fo.ht];exact⟨by show _::(_++ [])=[]++_;rw[bE];rfl,by show max _ 0=max 0 _;rw[Nat.max_comm]⟩
 |.cons i n o ks r=>by
  obtain⟨a,b⟩:=Dh j e r;rw[Fo.snoc,Af,Af,a,Fo.ht,b,Fo.ht,Nat.max_assoc,fT,cU];exact⟨rfl,rfl⟩
def Fe(j:Fin 4)(e d:Nd):names (Cz j e d)=names d++names e:=by
 rw[AD,AD];show d.n::Ag (d.ks.snoc j e)=_;rw[(Dh j e d.ks).1];rfl
def fj(b:Bd d)(be:Bd e)(hy:y∈Ac d)(dis:∀z∈names e,z∉names d)(h30:(names d).length+(names e).length<=30)(h6:1+y.1.length+(e.ks.ht+1)<=6) :
 Bd (Cz j e y.2)/\Bd (Bj d y.2.n (Cz j e y.2)):=by
 obtain⟨_,⟨A,B,h1,h2⟩,h3⟩:=Ex (e:=Cz j e y.2) (c:=λ_=>Cz j e y.2) b.nd hy rfl rfl;have hr:=Lj hy;have h:=b.h;have e1:(Cz j e y.2).ks.ht=max y.2.ks.ht (e.ks.ht+1):=(Dh j e y.2.ks).2;rw[Fe]at h2;have p2:(A++(names y.2++names e)++B).Perm (names d++names e):=by
  rw[h1];have:((names e)++B).Perm (B++names e):=List.perm_append_comm;simp only[List.append_assoc];exact(this.append_left _).append_left _
 have nn:(names d++names e).Nodup:=List.nodup_append.mpr ⟨b.nd,be.nd,λx hx z hz he=>dis z hz (he▸hx)⟩;have l1:=BB (Cz j e y.2);have l2:=BB (Bj d y.2.n (Cz j e y.2));have l3:(names (Bj d y.2.n (Cz j e y.2))).length=(names d).length+(names e).length:=by rw[h2,p2.length_eq,aR]
 have s1:(names (Cz j e y.2)).Sublist (A++(names y.2++names e)++B):=by
  rw[Fe,cU];exact(dZ _ _).trans (cE _ _)
 have l4:=s1.length_le;rw[p2.length_eq,aR]at l4;refine⟨⟨((List.Perm.nodup_iff p2).mpr nn).sublist s1,by lia,by lia⟩,⟨?_,by lia,by lia⟩⟩;rw[h2];exact(List.Perm.nodup_iff p2).mpr nn
variable {n:Nat}
structure Gd(d:Nd):Prop where
 b:Bd d
 s:Mv d
theorem Gd.kid(g:Gd d)(hx:x∈d.ks.items):Gd x.2:=⟨g.b.kid hx,g.s.2.mem hx⟩
def Gd.row(g:Gd d)(hy:y∈Ac d):Gd y.2:=⟨(Pj g.b hy (cI _) (aN _)).1,BW g.s hy⟩
def Gd.l6(g:Gd d):d.ks.items.length<=6:=g.s.1.2.2
def Ga:Fo->List MV
 |.nil=>[]
 |.cons j n o ks r=>.tup [.str (Co j),.tup [.str n,.tup (o.map AO),.tup (Ga ks)]]::Ga r
def AW(d:Nd):MV:=.tup [.str d.n,.tup (d.o.map AO),.tup (Ga d.ks)]
def G6(x:Fin 4×Nd):MV:=.tup [.str (Co x.1),AW x.2]
theorem Ar:∀f:Fo,Ga f=f.items.map G6
 |.nil=>rfl
 |.cons j n o ks r=>by rw[Ga,Ar r];rfl
theorem BF{P:Nat->Nd->Prop}(step:∀N d,(∀x∈d.ks.items,P N x.2)->P (N+1) d):∀(k:Nat) (d:Nd),d.ks.ht<=k->∀n,P (n+k+1) d
 |0,d,hk,n=>step n d λx hx=>absurd (Eg hx).1 (by lia)
 |k+1,d,hk,n=>step (n+(k+1)) d λx hx=>BF step k x.2 (by have:=(Eg hx).1;lia) n
def JX{d:Nd}(g:Gd d):Ph (n+6) 59 [.v d.mv] h=.ok (.v (AW d)) h:=by
 refine BF (P:=λN d=>Gd d->∀h,Ph N 59 [.v d.mv] h=.ok (.v (AW d)) h) (λN d ih g h=>?_) 5 d (by have:=g.b.h;lia) n g h;refine Ai (d:=d59) rfl rfl ?_;simp[d59,Az];rw[Ax (h1:=h) d.ks.items Hh G6 ?_ ?_ (AL (by have:=g.l6;lia)) ?_]
 ·simp[AW,Ar]
 ·exact λ_ _=>rfl
 ·simp[CH]
 intro x hx;exact⟨_,rfl,by simp[startC,G6,ih x hx (g.kid hx)]⟩
def On{d:Nd}(g:Gd d):Ph (n+15) 32 [.v (AW d)] h=.ok (.v d.mv) h:=by
 refine BF (P:=λN d=>Gd d->∀h,Ph (N+9) 32 [.v (AW d)] h=.ok (.v d.mv) h) (λN d ih g h=>?_) 5 d (by have:=g.b.h;lia) n g h;refine Ai (n:=N+9) (d:=d32) rfl rfl ?_;simp[d32];rw[EA (n:=N) (d:=d) (h1:=h) g.s.1.1 g.s.1.2.1 g.l6 g.b false true ?_]
 ·simp
 simp[AW,Az];rw[Ax (h1:=h) d.ks.items G6 Hh ?_ ?_ (AL (by have:=g.l6;lia)) ?_]
 ·simp[CH,sq]
 ·exact λ_ _=>rfl
 ·simp[Ar]
 intro x hx;exact⟨_,rfl,by simp[startC,ih x hx (g.kid hx),Hh]⟩
def Xv{d e:Nd}{z:Str}(gd:Gd d)(g:Gd (Bj d z e)):Ph (n+15) 16 [.v d.mv,.v (.str z),.v e.mv] h=.ok (.v (Bj d z e).mv) h:=by
 refine BF (P:=λN d=>Gd d->Gd (Bj d z e)->∀h,Ph (N+9) 16 [.v d.mv,.v (.str z),.v e.mv] h=.ok (.v (Bj d z e).mv) h) (λN d ih gd g h=>?_) 5 d (by have:=gd.b.h;lia) n gd g h;refine Ai (n:=N+9) (d:=d16) rfl rfl ?_;by_cases hz:d.n=z
 ·simp[d16,hz,Bj]
 have er:Bj d z e=⟨d.n,d.o,Bi z e d.ks⟩:=if_neg hz;have ei:(Bj d z e).ks.items=d.ks.items.map λx=>(x.1,Bj x.2 z e):=by rw[er];exact BX z e d.ks
 simp[d16,hz];rw[EA (n:=N) (d:=Bj d z e) (h1:=h) g.s.1.1 g.s.1.2.1 g.l6 g.b false true ?_]
 ·simp
 simp[Az];rw[Ax (h1:=h) d.ks.items Hh (λx=>Hh (x.1,Bj x.2 z e)) ?_ ?_ (AL (by have:=gd.l6;lia)) ?_]
 ·simp[CH,sq,er];rw[BX,c8];rfl
 ·exact λ_ _=>rfl
 ·simp[CH]
 intro x hx;exact⟨_,rfl,by simp[startC,Hh,ih x hx (gd.kid hx) (g.kid (x:=(x.1,Bj x.2 z e)) (by rw[ei];exact List.mem_map.mpr ⟨x,hx,rfl⟩))]⟩
end BK71
namespace BK71
open PySem B L2
variable {n:Nat}
section
def xb:ex T.gt.cs Φ ini (.raise 2 0 e) μ h=BI μ (x:=(e2 T.gt.cs Φ ini e).1 μ h) (JS 2 0 μ):=Cw rfl ⟨rfl,by decide⟩
def uY:ex T.gt.cs Φ ini (.raise 3 0 e) μ h=BI μ (x:=(e2 T.gt.cs Φ ini e).1 μ h) (JS 3 0 μ):=Cw rfl ⟨rfl,by decide⟩
def uZ:ex T.gt.cs Φ ini (.raise 4 0 e) μ h=BI μ (x:=(e2 T.gt.cs Φ ini e).1 μ h) (JS 4 0 μ):=Cw rfl ⟨rfl,by decide⟩
def xg:ex T.gt.cs Φ ini (.raise 5 0 e) μ h=BI μ (x:=(e2 T.gt.cs Φ ini e).1 μ h) (JS 5 0 μ):=Cw rfl ⟨rfl,by decide⟩
def xf:ex T.gt.cs Φ ini (.raise 6 8 e) μ h=BI μ (x:=(e2 T.gt.cs Φ ini e).1 μ h) (JS 6 8 μ):=Cw rfl ⟨rfl,by decide⟩
def vc:ex T.gt.cs Φ ini (.raise 7 6 e) μ h=BI μ (x:=(e2 T.gt.cs Φ ini e).1 μ h) (JS 7 6 μ):=Cw rfl ⟨rfl,by decide⟩
def xa:ex T.gt.cs Φ ini (.raise 8 6 e) μ h=BI μ (x:=(e2 T.gt.cs Φ ini e).1 μ h) (JS 8 6 μ):=Cw rfl ⟨rfl,by decide⟩
end
def Vj{k:Nat}:Ph (n+1) 7 [.v (.int k)] h=if 6<k then .exc (.exc 7 6 (.int k)) h else .ok (.v .non) h:=by
 refine Ai (d:=d7) rfl rfl ?_;by_cases c:6<k
 ·have:(6:Int)<k:=by lia
  simp[d7,vc,c,this]
 have:¬(6:Int)<k:=by lia
 simp[d7,c,this]
def Vi{k:Nat}:Ph (n+1) 8 [.v (.int k)] h=if 30<k then .exc (.exc 7 6 (.int k)) h else .ok (.v .non) h:=by
 refine Ai (d:=d8) rfl rfl ?_;by_cases c:30<k
 ·have:(30:Int)<k:=by lia
  simp[d8,vc,c,this]
 have:¬(30:Int)<k:=by lia
 simp[d8,c,this]
def Vl{k:Nat}:Ph (n+1) 9 [.v (.int k)] h=if 6<k then .exc (.exc 8 6 (.int k)) h else .ok (.v .non) h:=by
 refine Ai (d:=d9) rfl rfl ?_;by_cases c:6<k
 ·have:(6:Int)<k:=by lia
  simp[d9,xa,c,this]
 have:¬(6:Int)<k:=by lia
 simp[d9,c,this]
def Lu(b:Bd d)(hm:∀y∈Ac d,AK .eq (.str y.2.n) m=some false):Ph (n+7) 15 [.v d.mv,.v m] h=.exc (.exc 3 0 m) h:=by
 refine Ai (d:=d15) rfl rfl ?_;simp[d15,b.wk];refine EH (N3 BK (λ_ μ=>∃x2,μ=[some (.v d.mv),some (.v m),x2]) (i:=0) ⟨_,rfl⟩ λj y μ hy ⟨x2,hμ⟩=>?_) λμ ⟨x2,hμ⟩=>?_
 ·subst hμ;refine⟨_,rfl,?_⟩;simp[BK,hm y (List.mem_of_getElem? hy)]
 subst hμ;simp[uY]
def Oo(b:Bd d)(hm:∀y∈Ac d,AK .eq (.str y.2.n) m=some false):Ph (n+8) 57 [.v d.mv,.v m] h=.exc (.exc 3 0 m) h:=by
 refine Ai (d:=d57) rfl rfl ?_;simp[d57,Lu b hm]
def PB(b:Bd d)(hm:∀y∈Ac d,AK .eq (.str y.2.n) m=some false):Ph (n+8) 58 [.v d.mv,.v m] h=.exc (.exc 3 0 m) h:=by
 refine Ai (d:=d58) rfl rfl ?_;simp[d58,Lu b hm]
def Je(hm:∀j,AK .eq (.str (Co j)) m=some false):Ph (n+2) 4 [.v m] h=.exc (.exc 2 0 m) h:=by
 refine Ai (d:=d4) rfl rfl ?_;obtain⟨f0,m0,p0⟩:=GI 0;obtain⟨f1,m1,p1⟩:=GI 1;obtain⟨f2,m2,p2⟩:=GI 2;obtain⟨f3,m3,p3⟩:=GI 3;simp[d4,Lv,Ca,OI,hm,m0,m1,m2,m3,p0,p1,p2,p3,xb]
theorem Ny:∀f:Fo,f.ht=0\/∃y∈AS f,y.1.length=f.ht
 |.nil=>.inl rfl
 |.cons j n o ks r=>by
  right
  by_cases c:r.ht<=ks.ht+1
  ·rw[Fo.ht,Nat.max_eq_left c];rcases Ny ks with e|⟨y,hy,e⟩
   ·exact⟨([(j,n)],⟨n,o,ks⟩),bF _ (aW.mpr ⟨([],⟨n,o,ks⟩),aF,rfl⟩),by rw[e];rfl⟩
   exact⟨((j,n)::y.1,y.2),bF _ (aW.mpr ⟨y,aD _ hy,rfl⟩),by rw[←e];rfl⟩
  rw[Fo.ht,Nat.max_eq_right (by lia)];rcases Ny r with e|⟨y,hy,e⟩
  ·lia
  exact⟨y,b7 _ hy,e⟩
def VA(f:Fo):DI 0 ((AS f).map λy=>(y.1.length:Int))=(f.ht:Int):=by
 obtain⟨h1,h2,h3⟩:=He ((AS f).map λy=>(y.1.length:Int)) 0;have up:DI 0 ((AS f).map λy=>(y.1.length:Int))<=(f.ht:Int):=by
  rcases h3 with e|e
  ·rw[e];lia
  obtain⟨y,hy,e⟩:=aW.mp e;rw[←e];have:=Hb hy
  lia
 rcases Ny f with e|⟨y,hy,e⟩
 ·lia
 have:=h2 _ (aW.mpr ⟨y,hy,rfl⟩)
 lia
def Zs{d:Nd}(b:Bd d):Ph (n+7) 13 [.v d.mv] h=.ok (.v (.int ((d.ks.ht+1:Nat):Int))) h:=by
 have e:Ng [.lst ((Ac d).map λy=>.int (y.1.length:Int))]=some (.int d.ks.ht):=by
  show(IJ _).bind _=_;rw[FL];show some (MV.int (DI 0 ((AS d.ks).map λy=>(y.1.length:Int))))=_;rw[VA]
 refine Ai (d:=d13) rfl rfl ?_;simp[d13,Az];rw[Ax (h1:=h) (Ac d) BK (λy=>.int (y.1.length:Int)) ?_ ?_ b.big ?_]
 ·simp[e]
  lia
 ·exact λ_ _=>rfl
 ·simp[b.wk]
 intro y hy;refine⟨_,rfl,?_⟩;simp[startC]
def Hj{z:Str}{zs:List Str}:LJ (.str z) (zs.map MV.str)=some (decide (z∈zs)):=by
 unfold LJ;rw[if_pos (by rw[i8];show(true&&_)=true;rw[Bool.true_and,bD];exact λ_ _=>rfl)];congr 1;rw[gB,cK,eV,eI];constructor
 ·rintro⟨x,hx,e⟩;rw[←aI.mp (show(x ==z)=true from e)];exact hx
 exact λhx=>⟨z,hx,aI.mpr rfl⟩
def C7{z:Str}{zs:List Str}:AK .in_ (.str z) (.lst (zs.map MV.str))=some (decide (z∈zs)):=Hj
def JZ(b:Bd d):Ph (n+7) 56 [.v d.mv] h=.ok (.v (.lst ((names d).map MV.str))) h:=by
 rw[RB b];unfold names;rw[c8];rfl
def P9{d e:Nd}(b:Bd d)(b':Bd e):Ph (n+8) 18 [.v d.mv,.v e.mv] h=match (names e).find? λz=>decide (z∈names d) with
 |some z=>.exc (.exc 6 8 (.str z)) h
 |none=>.ok (.v .non) h:=by
 refine Ai (d:=d18) rfl rfl ?_;simp[d18,JZ b,JZ b'];have key:∀(xs:List Str) (al:List MV) (x3:Option R),fin (hlen h) (seqK (x:=AQ none al (.nm 3) (DJ T.gt.cs (Ph (n+7)) T.gt.ini (.cons (.ite (.cmp .in_ (.var 3) (.var 2)) (.cons (.raise 6 8 (.var 3)) .nil) .nil) .nil)) (xs.map MV.str) [some (.v d.mv),some (.v e.mv),some (.v (.lst ((names d).map MV.str))),x3] h) (DJ T.gt.cs (Ph (n+7)) T.gt.ini .nil))=match xs.find? λz=>decide (z∈names d) with
  |some z=>.exc (.exc 6 8 (.str z)) h
  |none=>.ok (.v .non) h:=by
  intro xs
  induction xs with
  |nil=>intro al x3;simp[OI]
  |cons z xs ih=>
   intro al x3;by_cases c:z∈names d
   ·simp[Ca,C7,c,xf]
   have:=ih al (some (.v (.str z)));simp[Ca,C7,c,-Yg];exact this
 exact key _ _ _
end BK71
namespace BK71
open PySem B L2
variable {n:Nat}
inductive Tg where|part|beneath|join|offers|doubled|many|deep
noncomputable def Tg.c:Tg->Nat
 |.part=>3| .beneath=>5| .join=>2| .offers=>4| .doubled=>6| .many=>7| .deep=>8
def Tg.f:Tg->Nat
 |.doubled=>8| .many=>6| .deep=>6|_=>0
def Tg.s:Tg->Str
 |.part=> "part" | .beneath=> "beneath" | .join=> "join" | .offers=> "offers" | .doubled=> "doubled" | .many=> "many" | .deep=> "deep"
inductive Oc where
 |bad (t:Tg) (v:MV)
 |ok (e:Nd)
noncomputable def Oc.res(h:MH):Oc->Aw R
 |.bad t v=>.exc (.exc t.c t.f v) h
 |.ok e=>.ok (.v e.mv) h
def Oc.due:Oc->MV
 |.bad t v=>.lst [.str t.s,v]
 |.ok e=>.lst [.str "work",AW e]
def Oc.fnd:Oc->MV
 |.bad t v=>.lst [.str t.s,v]
 |.ok e=>.lst [.str "work",e.mv]
def Oc.nx(d:Nd):Oc->Nd
 |.bad _ _=>d
 |.ok e=>e
structure gh(m:MV):Prop where
 e:∀w,AM w->AK .eq (.str w) m=some false
 i:Iy T.gt.cs [m,.ty .str]=some (.bl false)
 n:∀zs:List Str,(∀z∈zs,AM z)->LJ m (zs.map MV.str)=some false
 r:AK .ne m m=some false
inductive EK:MV->Prop where
 |s (z:Str):EK (.str z)
 |o (m:MV) (h:gh m) (n:∀z,m≠ .str z):EK m
def Gf(d:Nd):MV->Option Rd
 |.str z=>(Ac d).find? λy=>decide (y.2.n=z)
 |_=>none
def QF:MV->Option (Fin 4)
 |.str z=>[0,1,2,3].find? λj=>decide (Co j=z)
 |_=>none
def Cu(e:Gf d m=some y):m=.str y.2.n/\∃k:Nat,(Ac d)[k]?=some y:=by
 cases m<;>first|(cases e;done)|skip
 rename_i z;have e:=e;have h1:=List.find?_some e;have h2:=gX e;exact⟨by rw[aY h1],fW.mp h2⟩
def Ge(b:Mv d)(v:EK m)(e:Gf d m=none):∀y∈Ac d,AK .eq (.str y.2.n) m=some false:=by
 intro y hy;cases v with
 |s z=>
  have e:=e;have:=eM.mp e y hy;simp at this;simp[this]
 |o m o=>exact o.e _ (BW b hy).1.1
def FJ(e:QF m=some j):m=.str (Co j):=by
 cases m<;>first|(cases e;done)|skip
 rename_i z;have e:=e;have h1:=List.find?_some e;rw[aY h1]
def FF:∀j:Fin 4,AM (Co j):=by
 intro j;have h4:j=0\/j=1\/j=2\/j=3:=by lia
 rcases h4 with rfl|rfl|rfl|rfl<;>exact⟨by decide +kernel,by decide +kernel,by unfold BG;decide +kernel⟩
def LG(v:EK m)(e:QF m=none):∀j,AK .eq (.str (Co j)) m=some false:=by
 intro j;cases v with
 |s z=>
  have e:=e;have h4:j=0\/j=1\/j=2\/j=3:=by lia
  have hm:j∈ [0,1,2,3]:=by rcases h4 with rfl|rfl|rfl|rfl<;>simp
  have:=eM.mp e j hm;simp at this;simp[this]
 |o m o=>exact o.e _ (FF j)
def R9{d u e:Nd}(gd:Gd d)(ge:Gd e)(g:Gd (Bj d u.n e))(hn:e.n=u.n)(ho:e.o=u.o)(s:Bool):Ph (n+16) 17 [.v d.mv,.v u.mv,.v (sq s e.ks.mv)] h=.ok (.v (Bj d u.n e).mv) h:=by
 refine Ai (d:=d17) rfl rfl ?_;have mk:=λes μ he=>EA (n:=n+6) (h:=h) (h1:=h) (es:=es) (μ:=μ) ge.s.1.1 ge.s.1.2.1 ge.l6 ge.b false s he;rw[hn,ho]at mk;simp[d17];rw[mk _ _ (by simp[sq])];simp[Xv gd g]
noncomputable def GP(d:Nd)(m jm:MV)(p:Nd ⊕ MV):Oc:=match Gf d m with
 |none=>.bad .part m
 |some y=>match p with
  |.inr v=>.bad .beneath v
  |.inl e=>match QF jm with
   |none=>.bad .join jm
   |some j=>if 6<y.2.ks.items.length+1 then .bad .many (.int ((y.2.ks.items.length+1:Nat):Int)) else
    match (names e).find? λz=>decide (z∈names d) with
    |some z=>.bad .doubled (.str z)
    |none=>if 30<(names d).length+(names e).length then .bad .many (.int (((names d).length+(names e).length:Nat):Int)) else
     if 6<1+y.1.length+(e.ks.ht+1) then .bad .deep (.int ((1+y.1.length+(e.ks.ht+1):Nat):Int)) else .ok (Bj d y.2.n (Cz j e y.2))
def pv:Nd ⊕ MV->MV
 |.inl e=>e.mv
 |.inr v=>v
def gg:Nd ⊕ MV->Prop
 |.inl e=>Gd e
 |.inr v=>Iy T.gt.cs [v,.cls 14]=some (.bl false)/\AK .ne v v=some false
def SV(gd:Gd d)(hp:Gd e)(hy:y∈Ac d)(dis:∀z∈names e,z∉names d)(l5:y.2.ks.items.length+1<=6)(h30:(names d).length+(names e).length<=30)(h6:1+y.1.length+(e.ks.ht+1)<=6):Gd (Cz j e y.2)/\Gd (Bj d y.2.n (Cz j e y.2)):=by
 obtain⟨b1,b2⟩:=fj (j:=j) gd.b hp.b hy dis h30 h6;have s0:=BW gd.s hy;have s1:Mv (Cz j e y.2):=by
  refine⟨⟨s0.1.1,s0.1.2.1,?_⟩,Eo.of λx hx=>?_⟩
  ·show(y.2.ks.snoc j e).items.length<=6;rw[Bp,aR];exact l5
  have hx:x∈(y.2.ks.snoc j e).items:=hx;rw[Bp]at hx;rcases bC.mp hx with hx|hx
  ·exact s0.2.mem hx
  rw[bA.mp hx];exact hp.s
 exact⟨⟨b1,s1⟩,⟨b2,Ll gd.s s1⟩⟩
def Zo{d:Nd}{m jm:MV}{p:Nd ⊕ MV}(gd:Gd d)(vm:EK m)(vj:EK jm)(hp:gg p):Ph (n+17) 19 [.v d.mv,.v m,.v jm,.v (pv p)] h=(GP d m jm p).res h:=by
 refine Ai (d:=d19) rfl rfl ?_;unfold GP;cases er:Gf d m with
 |none=>
  simp[d19,Oo gd.b (Ge gd.s vm er)];rfl
 |some y=>
  obtain⟨rfl,k,hk⟩:=Cu er;have hy:y∈Ac d:=aP hk;cases p with
  |inr v=>
   have hp:Iy T.gt.cs [v,.cls 14]=some (.bl false):=hp.1;simp[d19,HD gd.b hk,pv,hp,xg];rfl
  |inl e=>
   have hp:Gd e:=hp;have i1:Iy T.gt.cs [e.mv,.cls 14]=some (.bl true):=rfl;cases ej:QF jm with
   |none=>
    simp[d19,HD gd.b hk,pv,i1,Je (LG vj ej)];rfl
   |some j=>
    obtain rfl:=FJ ej;simp[d19,HD gd.b hk,pv,i1,Gh];have ml:y.2.ks.mv.length=y.2.ks.items.length:=by rw[CH,aL]
    have e1:=@Vj (n+15) h (y.2.ks.items.length+1);rw[show((y.2.ks.items.length+1:Nat):Int)=(y.2.ks.items.length:Int)+1 by lia]at e1;rw[ml];by_cases c6:6<y.2.ks.items.length+1
    ·rw[if_pos c6]at e1 ⊢;simp[e1,Oc.res,Tg.c,Tg.f]
    rw[if_neg c6]at e1 ⊢;have e2:=@P9 (n+8) h d e gd.b hp.b;simp[e1];cases ef:(names e).find? λz=>decide (z∈names d) with
    |some z=>
     rw[ef]at e2;simp[e2,Oc.res,Tg.c,Tg.f]
    |none=>
     rw[ef]at e2;have e3:=@Vi (n+15) h ((names d).length+(names e).length);rw[show(((names d).length+(names e).length:Nat):Int)=((names d).length:Int)+((names e).length:Int) by lia]at e3;simp[e2,JZ gd.b,JZ hp.b];by_cases c30:30<(names d).length+(names e).length
     ·rw[if_pos c30]at e3 ⊢;simp[e3,Oc.res,Tg.c,Tg.f]
     rw[if_neg c30]at e3 ⊢;have e4:=@Vl (n+15) h (1+y.1.length+(e.ks.ht+1));rw[show((1+y.1.length+(e.ks.ht+1):Nat):Int)=1+(y.1.length:Int)+((e.ks.ht:Int)+1) by lia]at e4;have e5:=@Zs (n+9) h e hp.b;rw[show((e.ks.ht+1:Nat):Int)=(e.ks.ht:Int)+1 by lia]at e5;simp[e3,JY gd.b hk,e5];by_cases c7:6<1+y.1.length+(e.ks.ht+1)
     ·rw[if_pos c7]at e4 ⊢;simp[e4,Oc.res,Tg.c,Tg.f]
     rw[if_neg c7]at e4 ⊢;have dis:∀z∈names e,z∉names d:=λz hz=>by
       have:=eM.mp ef z hz;simpa using this
     obtain⟨g1,g2⟩:=SV (j:=j) gd hp hy dis (by lia) (by lia) (by lia);have em:(Cz j e y.2).ks.mv=y.2.ks.mv++ [.tup [.str (Co j),e.mv]]:=by
       show(y.2.ks.snoc j e).mv=_;rw[CH,Bp,bT,CH];rfl
     have w:=@R9 n h d y.2 (Cz j e y.2) gd g1 g2 rfl rfl false;rw[em]at w;have w:Ph (n+16) 17 [.v d.mv,.v y.2.mv,.v (.tup (y.2.ks.mv++ [.tup [.str (Co j),e.mv]]))] h=_:=w;have hb:y.2.ks.mv.length+1<=big:=AL (by rw[ml];lia);simp[e4,w,Oc.res,hb]
end BK71
namespace BK71
open PySem B L2
variable {n:Nat}
def Mz(d:Nd):MV->Option Rd
 |.str z=>(Ac d).find? λy=>AT z y.2
 |_=>none
theorem Db{α:Type}{p:α->Bool}:∀{l:List α},l.find? p=(l.filter p).head?
 |[]=>rfl
 |a::l=>by
  by_cases c:p a=true
  ·rw[List.find?_cons_of_pos c,List.filter_cons_of_pos c];rfl
  rw[List.find?_cons_of_neg c,List.filter_cons_of_neg c,Db]
def Xc{z:Str}(h:z∉Ag d.ks):Mz d (.str z)=none:=by
 have e:=Q8 h;unfold Gu at e;show(Ac d).find? (λy=>AT z y.2)=none;rw[Db,List.map_eq_nil_iff.mp e];rfl
def Yp(nd:(names d).Nodup)(hy:y∈Ac d)(hne:y.1≠[]):∃y' j,Mz d (.str y.2.n)=some y'/\y'∈Ac d/\y.1=y'.1++ [(j,y.2.n)]/\(j,y.2)∈y'.2.ks.items:=by
 obtain⟨y',hy',j,e1,hk⟩:=pI hy hne;have e:=NK nd hy' hk rfl;unfold Gu at e;refine⟨y',j,?_,hy',e1,hk⟩;show(Ac d).find? (λw=>AT y.2.n w.2)=some y';rw[Db];have hm:y'∈(Ac d).filter λw=>AT y.2.n w.2:=dJ.mpr ⟨hy',bQ (aW.mpr ⟨_,hk,rfl⟩)⟩;generalize (Ac d).filter (λw=>AT y.2.n w.2)=fl at e hm ⊢;rcases fl with _|⟨q,_|⟨r,l⟩⟩
 ·cases e
 ·rw[bA.mp hm];rfl
 simp at e
def Lh{z:Str}(h:Gf d (.str z)=none):z∉names d:=λhm=>by
 obtain⟨y,hy,e⟩:=aW.mp hm;have:=eM.mp (show(Ac d).find? (λy=>decide (y.2.n=z))=none from h) y hy;exact this (bQ e)
def Yr(h:Gf d m=none):Mz d m=none:=by
 cases m<;>first|rfl|skip
 exact Xc λz=>Lh h (by rw[AD];exact aD _ z)
def Yq(nd:(names d).Nodup):Mz d (.str d.n)=none:=Xc (by rw[AD]at nd;exact(bH.mp nd).1)
def lU{α:Type}{A:List α}{a b:α}:BH (A++ [a,b]) (-2)=some a:=by
 have e:Mu (A++ [a,b]).length (-2)=some A.length:=by
  unfold Mu;rw[if_neg (by decide),aR,if_pos (by simp;lia)];congr 1;simp
  lia
 unfold BH;rw[e];simp
def Xw{d:Nd}(gd:Gd d){m:MV}(vm:EK m):Ph (n+9) 20 [.v d.mv,.v m] h=match Mz d m with
 |none=>.exc (.exc 3 0 m) h
 |some u=>.ok (.v u.2.mv) h:=by
 refine Ai (d:=d20) rfl rfl ?_;cases er:Gf d m with
 |none=>
  rw[Yr er];simp[d20,PB gd.b (Ge gd.s vm er)]
 |some y=>
  obtain⟨rfl,k,hk⟩:=Cu er;have hy:y∈Ac d:=aP hk;have hr:=gd.b.road hy;by_cases hne:y.1=[]
  ·have:=Qp hy hne;rw[this]at hk ⊢;rw[Yq gd.b.nd];simp[d20,JY gd.b hk,uY]
  obtain⟨u,j,e,hu,e1,hm⟩:=Yp gd.b.nd hy hne;obtain⟨k',hk'⟩:=fW.mp hu;obtain⟨A,eA⟩:=NJ hu;rw[e];have el:MV.str d.n::(y.1.map λx=>MV.str x.2)=A.map MV.str++ [.str u.2.n,.str y.2.n]:=by
   have:d.n::y.1.map (·.2)=A++ [u.2.n,y.2.n]:=by
    rw[e1,bT,←fT,eA];simp
   have:=bW (List.map MV.str) this;simpa[List.map_map,Function.comp_def]using this
  have hl:y.1.isEmpty=false:=by cases q:y.1 with
   |nil=>exact absurd q hne
   |cons a l=>rfl
  simp[d20,JY gd.b hk,hl,Az];rw[Ax (h1:=h) y.1 nG (λx=>.str x.2) ?_ ?_ (AL (by lia)) ?_]
  ·have hb:1+y.1.length<=big:=AL (by lia);simp[hb,el,lU,HD gd.b hk']
  ·exact λ_ _=>rfl
  ·simp
  intro x hx;exact⟨_,rfl,by simp[startC]⟩
def IR:MV->Str
 |.str z=>z
 |_=> ""
def Es(nd:(names d).Nodup)(e:Mz d m=some u):∃z,m=.str z/\u∈Ac d:=by
 cases m<;>first|(cases e;done)|skip
 rename_i z;have e:(Ac d).find? (λy=>AT z y.2)=some u:=e;exact⟨_,rfl,gX e⟩
def Iv(d:Nd)(m:MV):Oc:=match Mz d m with
 |none=>.bad .part m
 |some u=>.ok (Bj d u.2.n (HY (IR m) u.2))
def SX(g:Gd d)(hy:y∈Ac d)(sub:(names e).Sublist (names y.2))(hh:e.ks.ht<=y.2.ks.ht)(s:Mv e):Gd e/\Gd (Bj d y.2.n e):=by
 obtain⟨b1,b2⟩:=Pj g.b hy sub hh;exact⟨⟨b1,s⟩,⟨b2,Ll g.s s⟩⟩
def SY(g:Gd d)(hy:y∈Ac d)(z:Str):Gd (HY z y.2)/\Gd (Bj d y.2.n (HY z y.2)):=by
 have s0:=BW g.s hy;refine SX g hy (N8 z y.2) (Ft z y.2.ks).2 ⟨⟨s0.1.1,s0.1.2.1,?_⟩,Eo.of λx hx=>?_⟩
 ·show(GU z y.2.ks).items.length<=6;rw[BO];exact b9 (fV _ _) s0.1.2.2
 have hx:x∈(GU z y.2.ks).items:=hx;rw[BO]at hx;exact s0.2.mem (dJ.mp hx).1
def Zp{d:Nd}{m:MV}(gd:Gd d)(vm:EK m):Ph (n+17) 21 [.v d.mv,.v m] h=(Iv d m).res h:=by
 refine Ai (d:=d21) rfl rfl ?_;have e1:=@Xw (n+7) h d gd m vm;unfold Iv;cases eu:Mz d m with
 |none=>
  rw[eu]at e1;simp[d21,e1,Oc.res,Tg.c,Tg.f]
 |some u=>
  rw[eu]at e1;obtain⟨z,rfl,hu⟩:=Es gd.b.nd eu;obtain⟨g1,g2⟩:=SY gd hu z;have w:=@R9 n h d u.2 (HY z u.2) gd g1 g2 rfl rfl true;have em:(HY z u.2).ks.mv=(u.2.ks.items.filter λx=>!decide (x.2.n=z)).map Hh:=by
   show(GU z u.2.ks).mv=_;rw[CH,BO];congr 1;exact List.filter_congr λx _=>by simp
  rw[em]at w;have w:Ph (n+16) 17 [.v d.mv,.v u.2.mv,.v (.lst ((u.2.ks.items.filter λx=>!decide (x.2.n=z)).map Hh))] h=_:=w;simp[d21,e1,Az];rw[C8 (h1:=h) u.2.ks.items Hh Hh (λx=>!decide (x.2.n=z)) ?_ (AL (by have:=(gd.row hu).l6;lia)) ?_]
  ·simp[w,Oc.res,IR]
  ·simp[CH]
  intro x hx;exact⟨_,rfl,by simp[startC],λ_=>by simp[startC,Hh]⟩
def ES(d:Nd)(m jm:MV):Oc:=match Mz d m with
 |none=>.bad .part m
 |some u=>match QF jm with
  |none=>.bad .join jm
  |some j=>.ok (Bj d u.2.n (DS (IR m) j u.2))
def OH(g:Gd d)(hy:y∈Ac d)(z:Str)(j:Fin 4):Gd (DS z j y.2)/\Gd (Bj d y.2.n (DS z j y.2)):=by
 have s0:=BW g.s hy;refine SX g hy (KZ z j y.2) (gY (DQ z j y.2.ks).2) ⟨⟨s0.1.1,s0.1.2.1,?_⟩,Eo.of λx hx=>?_⟩
 ·show(DC z j y.2.ks).items.length<=6;rw[BV,aL];exact s0.1.2.2
 have hx:x∈(DC z j y.2.ks).items:=hx;rw[BV]at hx;obtain⟨q,hq,rfl⟩:=aW.mp hx;show Mv q.2;exact s0.2.mem hq
def Vf{d:Nd}{m jm:MV}(gd:Gd d)(vm:EK m)(vj:EK jm):Ph (n+17) 22 [.v d.mv,.v m,.v jm] h=(ES d m jm).res h:=by
 refine Ai (d:=d22) rfl rfl ?_;have e1:=@Xw (n+7) h d gd m vm;unfold ES;cases eu:Mz d m with
 |none=>
  rw[eu]at e1;simp[d22,e1,Oc.res,Tg.c,Tg.f]
 |some u=>
  rw[eu]at e1;obtain⟨z,rfl,hu⟩:=Es gd.b.nd eu;cases ej:QF jm with
  |none=>simp[d22,e1,Je (LG vj ej),Oc.res,Tg.c,Tg.f]
  |some j=>
   obtain rfl:=FJ ej;obtain⟨g1,g2⟩:=OH gd hu z j;have w:=@R9 n h d u.2 (DS z j u.2) gd g1 g2 rfl rfl true;have em:(DS z j u.2).ks.mv=u.2.ks.items.map λx=>Hh (if x.2.n=z then j else x.1,x.2):=by
    show(DC z j u.2.ks).mv=_;rw[CH,BV,c8];rfl
   rw[em]at w;have w:Ph (n+16) 17 [.v d.mv,.v u.2.mv,.v (.lst (u.2.ks.items.map λx=>Hh (if x.2.n=z then j else x.1,x.2)))] h=_:=w;simp[d22,e1,Gh,Az];rw[Ax (h1:=h) u.2.ks.items Hh (λx=>Hh (if x.2.n=z then j else x.1,x.2)) ?_ ?_ (AL (by have:=(gd.row hu).l6;lia)) ?_]
   ·simp[w,Oc.res,IR]
   ·exact λ_ _=>rfl
   ·simp[CH]
   intro x hx;refine⟨_,rfl,?_⟩;by_cases c:x.2.n=z<;>simp[startC,Hh,c]
noncomputable def Iw(d:Nd)(m:MV)(ov:List Ky ⊕ MV):Oc:=match Gf d m with
 |none=>.bad .part m
 |some y=>match ov with
  |.inr v=>.bad .offers v
  |.inl o=>if o.Nodup then .ok (Bj d y.2.n (DW o y.2)) else .bad .offers (.lst (o.map AO))
def Oq:List Ky ⊕ MV->MV
 |.inl o=>.lst (o.map AO)
 |.inr v=>v
def WN:List Ky ⊕ MV->Prop
 |.inl o=>o.length<=2/\∀k∈o,AM k.1
 |.inr v=>(∀n h,Ph (n+3) 5 [.v v] h=.ok (.v (.bl false)) h)/\AK .ne v v=some false
def SW(g:Gd d)(hy:y∈Ac d)(ho:EX o):Gd (DW o y.2)/\Gd (Bj d y.2.n (DW o y.2)):=by
 have s0:=BW g.s hy;exact SX g hy (cI _) (aN _) ⟨⟨s0.1.1,ho,s0.1.2.2⟩,s0.2⟩
def Zq{d:Nd}{m:MV}{ov:List Ky ⊕ MV}(gd:Gd d)(vm:EK m)(ho:WN ov):Ph (n+17) 23 [.v d.mv,.v m,.v (Oq ov)] h=(Iw d m ov).res h:=by
 refine Ai (d:=d23) rfl rfl ?_;unfold Iw;cases er:Gf d m with
 |none=>simp[d23,Oo gd.b (Ge gd.s vm er),Oc.res,Tg.c,Tg.f]
 |some y=>
  obtain⟨rfl,k,hk⟩:=Cu er;have hy:y∈Ac d:=aP hk;cases ov with
  |inr v=>
   have ho:∀n h,Ph (n+3) 5 [.v v] h=.ok (.v (.bl false)) h:=ho.1;simp[d23,HD gd.b hk,Oq,ho (n+13),uZ,Oc.res,Tg.c,Tg.f]
  |inl o=>
   obtain⟨l2,ow⟩:=ho;have ea:Ph (n+13+3) 5 [.v (.lst (o.map AO))] h=_:=Lx (b:=true) l2 ow;by_cases nd:o.Nodup
   ·obtain⟨g1,g2⟩:=SW gd hy (o:=o) ⟨l2,nd,ow⟩;have mk:=λes μ he=>EA (n:=n+7) (h:=h) (h1:=h) (es:=es) (μ:=μ) g1.s.1.1 g1.s.1.2.1 g1.l6 g1.b true false he;simp[d23,HD gd.b hk,Oq,ea,nd];rw[mk _ _ (by simp[sq,DW])];simp[Xv (n:=n+1) gd g2,Oc.res]
   simp[d23,HD gd.b hk,Oq,ea,nd,uZ,Oc.res,Tg.c,Tg.f]
end BK71
namespace BK71
open PySem B L2
variable {n:Nat}
@[simp]def xU:GC (AW d) (.int 0)=some (.str d.n):=rfl
@[simp]def xT:GC (AW d) (.int 1)=some (.tup (d.o.map AO)):=rfl
@[simp]def xS:GC (AW d) (.int 2)=some (.tup (Ga d.ks)):=rfl
def Mj(d:Nd):(Ac d).map (λy=>AW y.2)=[AW d]++d.ks.items.flatMap λx=>(Ac x.2).map λy=>AW y.2:=by
 rw[Ac,aX,BA,i7,c8,fR];show _::_=_::_;congr 2;apply f8;intro x _;show(DO x).map _=_;unfold DO;rw[c8];rfl
def MR(g:Gd d):Ph (n+6) 33 [.v (AW d)] h=.ok (.v (.lst ((Ac d).map λy=>AW y.2))) h:=by
 refine BF (P:=λN d=>Gd d->∀h,Ph N 33 [.v (AW d)] h=.ok (.v (.lst ((Ac d).map λy=>AW y.2))) h) (λN d ih g h=>?_) 5 d (by have:=g.b.h;lia) n g h;refine Ai (d:=d33) rfl rfl ?_;have hB:([AW d]++d.ks.items.flatMap λx=>(Ac x.2).map λy=>AW y.2).length<=30:=by
  rw[←Mj,aL];exact g.b.len
 simp[d33,Ar];refine EH (FO G6 (λx=>(Ac x.2).map λy=>AW y.2) (λμ=>∃x2 x3,μ=[some (.v (AW d)),some (.r (hlen h)),x2,x3]) 30 ⟨_,_,rfl⟩ hB λx hx μ acc ⟨x2,x3,hμ⟩ hl=>?_) λμ ⟨x2,x3,hμ⟩=>?_
 ·subst hμ;refine⟨_,rfl,?_⟩;have hl:acc.length+(Ac x.2).length<=big:=by
   rw[aR,aL]at hl;exact AL (by lia)
  simp[ih x hx (g.kid hx),hl]
 subst hμ;rw[←Mj];simp
theorem Jo:∀(f:Fo) (k:Int),0<=k->DI k (f.items.map λx=>((x.2.ks.ht+1:Nat):Int))=max k (f.ht:Int)
 |.nil,k,h=>by
  show k=max k ((0:Nat):Int)
  lia
 |.cons j n o ks r,k,h=>by
  rw[Fo.items,aX,DI,Jo r _ (by lia),Fo.ht]
  lia
def RH{d:Nd}(g:Gd d):Ph (n+6) 34 [.v (AW d)] h=.ok (.v (.int ((d.ks.ht+1:Nat):Int))) h:=by
 refine BF (P:=λN d=>Gd d->∀h,Ph N 34 [.v (AW d)] h=.ok (.v (.int ((d.ks.ht+1:Nat):Int))) h) (λN d ih g h=>?_) 5 d (by have:=g.b.h;lia) n g h;refine Ai (d:=d34) rfl rfl ?_;simp[d34,Az];rw[Ax (h1:=h) d.ks.items G6 (λx=>.int ((x.2.ks.ht+1:Nat):Int)) ?_ ?_ (AL (by have:=g.l6;lia)) ?_]
 ·have hb:1+d.ks.items.length<=big:=AL (by have:=g.l6;lia);have e:Ng [.lst (MV.int 0::d.ks.items.map λx=>.int ((x.2.ks.ht+1:Nat):Int))]=some (.int (d.ks.ht:Int)):=by
   show((IJ (d.ks.items.map λx=>.int ((x.2.ks.ht+1:Nat):Int))).map (0:: ·)).bind _=_;rw[FL];show some (MV.int (DI 0 (d.ks.items.map λx=>((x.2.ks.ht+1:Nat):Int))))=_;rw[Jo _ _ (Int.le_refl _)];congr 2
  simp[-Int.natCast_add,hb,e]
  lia
 ·exact λ_ _=>rfl
 ·simp[Ar]
 intro x hx;exact⟨_,rfl,by simp[startC,ih x hx (g.kid hx)]⟩
def Cn{d:Nd}(g:Gd d):Ph (n+7) 36 [.v (AW d)] h=.ok (.v (.lst ((names d).map MV.str))) h:=by
 refine Ai (d:=d36) rfl rfl ?_;simp[d36,Az];rw[Ax (h1:=h) (Ac d) (λy=>AW y.2) (λy=>.str y.2.n) ?_ ?_ g.b.big ?_]
 ·simp[names,List.map_map,Function.comp_def]
 ·exact λ_ _=>rfl
 ·simp[MR g]
 intro y hy;exact⟨_,rfl,by simp[startC]⟩
def Ps{z:Str}(f:Fo):(B8 z c f).items.length=f.items.length:=by rw[DM,aL]
def Hc{z:Str}{k:Nat}(g:Gd d)(hc:∀n h x,x.ks.items.length<=6->Ph (n+2) k (ms.map R.v++ [.v (AW x)]) h=.ok (.v (AW (c x))) h):Ph (n+8) 35 [.v (AW d),.v (.str z),.l k ms] h=.ok (.v (AW (DN d z c))) h:=by
 refine BF (P:=λN d=>Gd d->∀h,Ph (N+2) 35 [.v (AW d),.v (.str z),.l k ms] h=.ok (.v (AW (DN d z c))) h) (λN d ih g h=>?_) 5 d (by have:=g.b.h;lia) n g h;refine Ai (n:=N+2) (d:=d35) rfl rfl ?_;simp[d35,Az];rw[Ax (h1:=h) d.ks.items G6 (λx=>G6 (x.1,DN x.2 z c)) ?_ ?_ (AL (by have:=g.l6;lia)) ?_]
 ·have e:d.ks.items.map (λx=>G6 (x.1,DN x.2 z c))=Ga (B8 z c d.ks):=by
   rw[Ar,DM,c8];rfl
  have e2:MV.tup [.str d.n,.tup (d.o.map AO),.tup (Ga (B8 z c d.ks))]=AW ⟨d.n,d.o,B8 z c d.ks⟩:=rfl;rw[e];by_cases hz:d.n=z
  ·subst hz;have w:DN d d.n c=c ⟨d.n,d.o,B8 d.n c d.ks⟩:=if_pos rfl;have:=hc N h ⟨d.n,d.o,B8 d.n c d.ks⟩ (by show(B8 d.n c d.ks).items.length<=6;rw[Ps];exact g.l6);simp[e2,this,w]
  have w:DN d z c=⟨d.n,d.o,B8 z c d.ks⟩:=if_neg hz;simp[e2,hz,w]
 ·exact λ_ _=>rfl
 ·simp[Ar]
 intro x hx;exact⟨_,rfl,by simp[startC,G6,ih x hx (g.kid hx)]⟩
def Rx{f:Fo}(hy:y∈AS f):∃(k:Nat) (x:Fin 4×Nd) (y0:Rd),f.items[k]?=some x/\y0∈Ac x.2/\y=Yo x y0:=by
 rw[BA]at hy;obtain⟨l,hl,hy⟩:=dD.mp hy;obtain⟨x,hx,rfl⟩:=aW.mp hl;obtain⟨y0,h0,rfl⟩:=aW.mp hy;obtain⟨k,hk⟩:=fW.mp hx;exact⟨k,x,y0,hk,h0,rfl⟩
def Kj(f:Fo):Ag f=f.items.flatMap λx=>names x.2:=by
 unfold Ag;rw[BA,i7,c8,fR];congr 1;apply f8;intro x _;show(DO x).map _=_;unfold DO names;rw[c8];rfl
def No(nd:(Ag f).Nodup){i k:Nat}(hi:f.items[i]?=some x)(hk:f.items[k]?=some x')(ne:i<k){z:Str}(hz:z∈names x'.2):z∉names x.2:=λhx=>by
 rw[Kj,fR]at nd;have p:=(List.pairwise_flatten.mp nd).2;rw[List.pairwise_map]at p;obtain⟨l1,e1⟩:=aE.mp hi;obtain⟨l2,e2⟩:=aE.mp hk;have:=cP.mp p i k l1 l2 ne;rw[e1,e2]at this;exact this z hx z hz rfl
def RG{d:Nd}{z:Str}(g:Gd d){y:Rd}(hy:y∈Ac d)(hz:y.2.n=z):Ph (n+13) 37 [.v (AW d),.v (.str z)] h=.ok (.v (.int ((1+y.1.length:Nat):Int))) h:=by
 refine BF (P:=λN d=>Gd d->∀(y:Rd),y∈Ac d->y.2.n=z->∀h,Ph (N+7) 37 [.v (AW d),.v (.str z)] h=.ok (.v (.int ((1+y.1.length:Nat):Int))) h) (λN d ih g y hy hz h=>?_) 5 d (by have:=g.b.h;lia) n g y hy hz h;refine Ai (n:=N+7) (d:=d37) rfl rfl ?_;have nd:=g.b.nd;rw[AD]at nd;obtain⟨n1,n2⟩:=bH.mp nd;rcases aH.mp hy with rfl|hy
 ·have hz:d.n=z:=hz;simp[d37,hz]
 obtain⟨k,x,y0,hk,h0,rfl⟩:=Rx hy;have zn:z∈Ag d.ks:=hz▸F9 hy;have hz:y0.2.n=z:=hz;have hne:¬d.n=z:=λe=>n1 (e▸zn);have hx:=aP hk;have zx:z∈names x.2:=aW.mpr ⟨y0,h0,hz⟩;simp[d37,hne,Ar];rw[KA (r:=.v (.int ((1+(1+y0.1.length):Nat):Int))) (h2:=h) (λ_ μ h'=>h'=h/\∃x2 x3,μ=[some (.v (AW d)),some (.v (.str z)),x2,x3]) (i:=0) (k:=k) (m:=G6 x) ⟨rfl,_,_,rfl⟩ ?_ ?_ ?_]
 ·simp[Yo]
  lia
 ·rw[aM,hk];rfl
 ·rintro i m μ h' hi hm ⟨rfl,x2,x3,rfl⟩;rw[aM]at hm;obtain⟨q,hq,rfl⟩:=aG.mp hm;have:=No n2 hq hk hi zx;exact⟨_,[some (.v (AW d)),some (.v (.str z)),some (.v (.str (Co q.1))),some (.v (AW q.2))],_,rfl,by simp[Cn (g.kid (List.mem_of_getElem? hq)),C7,this],rfl,_,_,rfl⟩
 rintro μ h' ⟨rfl,x2,x3,rfl⟩;exact⟨_,rfl,by simp[-Int.natCast_add,Cn (g.kid hx),C7,zx,ih x hx (g.kid hx) y0 h0 hz];lia⟩
end BK71
namespace BK71
open PySem B L2
variable {n:Nat}
def Dv{z:Str}:Iy T.gt.cs [.str z,.ty .str]=some (.bl true):=rfl
def VS{z:Str}:decide (z∈ [Co 0,Co 1,Co 2,Co 3])=(QF (.str z)).isSome:=by
 show _=([0,1,2,3].find? λj=>decide (Co j=z)).isSome;rw[cK,eI,List.find?_isSome];simp[eq_comm]
def EB(v:EK m):Ph (n+1) 39 [.v m] h=.ok (.v (.bl (QF m).isSome)) h:=by
 refine Ai (d:=d39) rfl rfl ?_;cases v with
 |s z=>
  have e:AK .in_ (.str z) (.lst [.str "called",.str "beside",.str "joined",.str "changed"])=some (QF (.str z)).isSome:=by
   rw[←VS];exact C7 (zs:=[Co 0,Co 1,Co 2,Co 3])
  simp[d39,Dv,e]
 |o m o ns=>
  have e:QF m=none:=by cases m<;>first|rfl|exact absurd rfl (ns _)
  simp[d39,o.i,e]
def Zt{z:Str}(l6:x.ks.items.length<=6):Ph (n+1) 41 [.v (AW x),.v (.str z)] h=.ok (.v (AW (HY z x))) h:=by
 refine Ai (d:=d41) rfl rfl ?_;simp[d41,Az];rw[C8 (h1:=h) x.ks.items G6 G6 (λy=>!decide (y.2.n=z)) ?_ (AL (by lia)) ?_]
 ·have e:(x.ks.items.filter λy=>!decide (y.2.n=z)).map G6=Ga (GU z x.ks):=by
   rw[Ar,BO];congr 1;exact List.filter_congr λx _=>by simp
  rw[e];simp[AW,HY]
 ·simp[Ar]
 intro y hy;exact⟨_,rfl,by simp[startC,G6],λ_=>by simp[startC]⟩
def Ve{z:Str}(l6:x.ks.items.length<=6):Ph (n+1) 42 [.v (AW x),.v (.str z),.v (.str (Co j))] h=.ok (.v (AW (DS z j x))) h:=by
 refine Ai (d:=d42) rfl rfl ?_;simp[d42,Az];rw[Ax (h1:=h) x.ks.items G6 (λy=>G6 (if y.2.n=z then j else y.1,y.2)) ?_ ?_ (AL (by lia)) ?_]
 ·have e:(x.ks.items.map λy=>G6 (if y.2.n=z then j else y.1,y.2))=Ga (DC z j x.ks):=by
   rw[Ar,BV,c8];rfl
  rw[e];simp[AW,DS]
 ·exact λ_ _=>rfl
 ·simp[Ar]
 intro y hy;refine⟨_,rfl,?_⟩;by_cases c:y.2.n=z<;>simp[startC,G6,c]
def ZX(l6:x.ks.items.length<=6):Ph (n+2) 60 ([MV.str (Co j),AW e].map R.v++ [.v (AW x)]) h=.ok (.v (AW (Cz j e x))) h:=by
 refine Ai (d:=_) rfl rfl ?_;have hb:x.ks.items.length+1<=big:=AL (by lia);have em:Ga (x.ks.snoc j e)=Ga x.ks++ [.tup [.str (Co j),AW e]]:=by
  rw[Ar,Bp,bT,Ar];rfl
 have el:(Ga x.ks).length=x.ks.items.length:=by rw[Ar,aL]
 simp[el,hb];simp[AW,Cz,em]
def ZZ{z:Str}(l6:x.ks.items.length<=6):Ph (n+2) 61 ([MV.str z].map R.v++ [.v (AW x)]) h=.ok (.v (AW (HY z x))) h:=by
 refine Ai (d:=_) rfl rfl ?_;simp[Zt l6]
def VB{z:Str}(l6:x.ks.items.length<=6):Ph (n+2) 62 ([MV.str z,MV.str (Co j)].map R.v++ [.v (AW x)]) h=.ok (.v (AW (DS z j x))) h:=by
 refine Ai (d:=_) rfl rfl ?_;simp[Ve l6]
def ZY:Ph (n+2) 63 ([MV.lst (o.map AO)].map R.v++ [.v (AW x)]) h=.ok (.v (AW (DW o x))) h:=by
 refine Ai (d:=_) rfl rfl ?_;simp;simp[AW,DW]
def WL(d:Nd):MV->List Rd
 |.str z=>(Ac d).filter λy=>AT z y.2
 |_=>[]
def Xd:Mz d m=(WL d m).head?:=by
 cases m<;>first|rfl|exact Db
def DV(g:Gd d)(v:EK m):Ph (n+7) 43 [.v (AW d),.v m] h=.ok (.v (.lst ((WL d m).map λy=>.str y.2.n))) h:=by
 refine Ai (d:=d43) rfl rfl ?_;obtain⟨p,hp,hf⟩:∃p:Rd->Bool,(∀y∈Ac d,AK .in_ m (.lst (y.2.ks.items.map λx=>.str x.2.n))=some (p y))/\(Ac d).filter p=WL d m:=by
  have mm:∀y:Rd,(y.2.ks.items.map λx=>MV.str x.2.n)=(y.2.ks.items.map λx=>x.2.n).map MV.str:=λy=>by rw[c8];rfl
  cases v with
  |s z=>exact⟨λy=>AT z y.2,λy _=>by rw[mm];exact C7,rfl⟩
  |o m o ns=>
   have hm:WL d m=[]:=by cases m<;>first|rfl|exact absurd rfl (ns _)
   refine⟨λ_=>false,λy hy=>?_,by rw[hm];simp⟩;rw[mm];refine o.n _ λz hz=>?_;obtain⟨x,hx,rfl⟩:=aW.mp hz;exact((g.row hy).kid hx).s.1.1
 simp[d43,Az];rw[C8 (h1:=h) (Ac d) (λy=>AW y.2) (λy=>.str y.2.n) p ?_ g.b.big ?_]
 ·rw[hf];simp
 ·simp[MR g]
 intro y hy;refine⟨_,rfl,?_,λ_=>by simp[startC]⟩;simp[startC,Az];rw[Ax (h1:=h) y.2.ks.items G6 (λx=>.str x.2.n) ?_ ?_ (AL (by have:=(g.row hy).l6;lia)) ?_]
 ·simp[hp y hy]
 ·exact λ_ _=>rfl
 ·simp[Ar]
 intro x hx;exact⟨_,rfl,by simp[startC]⟩
def YE{l:List Rd}(hl:∀y∈l,AM y.2.n)(k:Nat):De (l.map λy=>MV.str y.2.n) k=true:=BQ λy hy=>by unfold sh;exact CF (hl y hy)
def ft(hy:y∈WL d m):y∈Ac d:=by
 cases m<;>first|(cases hy;done)|exact(dJ.mp hy).1
def Se{d:Nd}{m:MV}(g:Gd d):B6 .eq (.lst ((WL d m).map λy=>.str y.2.n)) (.lst [])=some (Mz d m).isNone:=by
 rw[(N5 (YE (λy hy=>(BW g.s (ft hy)).1.1) 59)).1,Xd];cases WL d m<;>rfl
def md(e:Mz d m=some u):BH ((WL d m).map λy=>MV.str y.2.n) 0=some (.str u.2.n):=by
 rw[Xd]at e;cases h:WL d m with
 |nil=>rw[h]at e;cases e
 |cons a l=>rw[h]at e;cases e;rw[Ay (by decide)];rfl
def sJ(g:Gd d)(v:EK m):Ph (n+9) 44 [.v (AW d),.v m] h=.ok (.v (Iv d m).due) h:=by
 refine Ai (d:=d44) rfl rfl ?_;have e0:=Se (m:=m) g;rw[XQ]at e0;unfold Iv;cases eu:Mz d m with
 |none=>
  rw[eu]at e0;simp[d44,DV (n:=n+1) g v,e0,Oc.due,Tg.s]
 |some u=>
  rw[eu]at e0;obtain⟨z,rfl,hu⟩:=Es g.b.nd eu;have a0:=md eu;have w:=Hc (n:=n) (h:=h) (d:=d) (z:=u.2.n) (c:=HY z) (k:=61) (ms:=[.str z]) g λn h x l6=>ZZ l6;rw[(Ex (c:=HY z) g.b.nd hu rfl rfl).1]at w;simp[-Ay,d44,DV (n:=n+1) g v,e0,a0,w,Oc.due,IR]
def sK(g:Gd d)(v:EK m)(vj:EK jm):Ph (n+9) 45 [.v (AW d),.v m,.v jm] h=.ok (.v (ES d m jm).due) h:=by
 refine Ai (d:=d45) rfl rfl ?_;have e0:=Se (m:=m) g;rw[XQ]at e0;unfold ES;cases eu:Mz d m with
 |none=>
  rw[eu]at e0;simp[d45,DV (n:=n+1) g v,e0,Oc.due,Tg.s]
 |some u=>
  rw[eu]at e0;obtain⟨z,rfl,hu⟩:=Es g.b.nd eu;have a0:=md eu;cases ej:QF jm with
  |none=>simp[-Ay,d45,DV (n:=n+1) g v,e0,EB vj,ej,Oc.due,Tg.s]
  |some j=>
   obtain rfl:=FJ ej;have w:=Hc (n:=n) (h:=h) (d:=d) (z:=u.2.n) (c:=DS z j) (k:=62) (ms:=[.str z,.str (Co j)]) g λn h x l6=>VB l6;rw[(Ex (c:=DS z j) g.b.nd hu rfl rfl).1]at w;simp[-Ay,d45,DV (n:=n+1) g v,e0,a0,EB vj,ej,w,Oc.due,IR]
def vV(v:EK m):(∃z,m=.str z/\Gf d m=none/\z∉names d)\/(gh m/\Gf d m=none)\/∃(y:Rd) (k:Nat),m=.str y.2.n/\Gf d m=some y/\(Ac d)[k]?=some y/\y.2.n∈names d:=by
 cases er:Gf d m with
 |some y=>
  obtain⟨rfl,k,hk⟩:=Cu er;exact .inr (.inr ⟨y,k,rfl,rfl,hk,aW.mpr ⟨y,aP hk,rfl⟩⟩)
 |none=>
  cases v with
  |s z=>exact .inl ⟨z,rfl,rfl,Lh er⟩
  |o m o ns=>exact .inr (.inl ⟨o,rfl⟩)
def Cb{z:Str}{zs:List Str}:AK .notin (.str z) (.lst (zs.map MV.str))=some (!decide (z∈zs)):=by
 show(LJ _ _).map _=_;rw[Hj];rfl
@[simp]def dv:B6 .notin a (.lst l)=AK .notin a (.lst l):=rfl
def sL(g:Gd d)(v:EK m)(hg:gb=match ov with| .inl o=>decide o.Nodup| .inr _=>false):Ph (n+9) 46 [.v (AW d),.v m,.v (Oq ov),.v (.bl gb)] h=.ok (.v (Iw d m ov).due) h:=by
 refine Ai (d:=d46) rfl rfl ?_;unfold Iw;rcases vV (d:=d) v with⟨z,rfl,er,hz⟩|⟨o,er⟩|⟨y,k,rfl,er,hk,hz⟩
 ·rw[er];simp[d46,Dv,Cn (n:=n+1) g,Cb,hz,Oc.due,Tg.s]
 ·rw[er];simp[d46,o.i,Oc.due,Tg.s]
 rw[er];cases ov with
 |inr v'=>
  subst hg;simp[d46,Dv,Cn (n:=n+1) g,Cb,hz,Oc.due,Tg.s,Oq]
 |inl o=>
  have hg:gb=decide o.Nodup:=hg;subst hg;by_cases nd:o.Nodup
  ·have w:=Hc (n:=n) (h:=h) (d:=d) (z:=y.2.n) (c:=DW o) (k:=63) (ms:=[.lst (o.map AO)]) g λn h x _=>ZY;rw[(Ex (c:=DW o) g.b.nd (aP hk) rfl rfl).1]at w;simp[d46,Dv,Cn (n:=n+1) g,Cb,hz,nd,w,Oc.due,Oq]
  simp[d46,Dv,Cn (n:=n+1) g,Cb,hz,nd,Oc.due,Tg.s,Oq]
end BK71
namespace BK71
open PySem B L2
variable {n:Nat}
def pt:Nd ⊕ MV->MV
 |.inl e=>AW e
 |.inr _=>.non
def JE:AK .is_ (AW e) .non=some false:=rfl
def LL(g:Gd d):∀z∈names d,AM z:=λz hz=>by
 obtain⟨y,hy,rfl⟩:=aW.mp hz;exact(BW g.s hy).1.1
def Sd{zs:List Str}(hw:∀z∈zs,AM z):AK .ne (.lst (zs.map MV.str)) (.lst [])=some (!zs.isEmpty):=by
 have:=(N5 (l:=zs.map MV.str) (BQ λz hz=>by unfold sh;exact CF (hw z hz))).2;rw[lI]at this;rw[this];cases zs<;>rfl
def lb{d:Nd}{m jm:MV}{p:Nd ⊕ MV}(g:Gd d)(vm:EK m)(vj:EK jm)(hp:gg p):Ph (n+14) 40 [.v (AW d),.v m,.v jm,.v (pt p),.v (pv p)] h=.ok (.v (GP d m jm p).due) h:=by
 refine Ai (d:=d40) rfl rfl ?_;have nm:=@Cn (n+6) h d g;unfold GP;rcases vV (d:=d) vm with⟨z,rfl,er,hz⟩|⟨o,er⟩|⟨y,k,rfl,er,hk,hz⟩
 ·rw[er];simp[d40,Dv,nm,Cb,hz,Oc.due,Tg.s]
 ·rw[er];simp[d40,nm,o.i,Oc.due,Tg.s]
 rw[er];have hy:=aP hk;cases p with
 |inr v=>simp[d40,Dv,nm,Cb,hz,pt,pv,Oc.due,Tg.s]
 |inl e=>
  have ge:Gd e:=hp;have ne:=@Cn (n+6) h e ge;cases ej:QF jm with
  |none=>simp[d40,Dv,nm,Cb,hz,pt,pv,JE,EB vj,ej,Oc.due,Tg.s]
  |some j=>
   obtain rfl:=FJ ej;simp[d40,Dv,nm,Cb,hz,pt,pv,JE,EB vj,ej,Az];rw[C8 (h1:=h) (Ac d) (λw=>AW w.2) (λw=>AW w.2) (λw=>decide (w.2.n=y.2.n)) ?_ g.b.big ?_]
   ·have e0:BH (((Ac d).filter λw=>decide (w.2.n=y.2.n)).map λw=>AW w.2) 0=some (AW y.2):=by
     have:((Ac d).filter λw=>decide (w.2.n=y.2.n)).head?=some y:=by
      rw[←Db];exact er
     cases hf:(Ac d).filter λw=>decide (w.2.n=y.2.n) with
     |nil=>rw[hf]at this;cases this
     |cons a l=>rw[hf]at this;cases this;rw[Ay (by decide)];rfl
    have el:(Ga y.2.ks).length=y.2.ks.items.length:=by rw[Ar,aL]
    have l6:=(g.row hy).l6;simp[-Ay,e0,el];by_cases c6:6<y.2.ks.items.length+1
    ·have c5:(5:Int)<y.2.ks.items.length:=by lia
     have e7:(y.2.ks.items.length:Int)+1=7:=by lia
     simp[c6,c5,e7,Oc.due,Tg.s]
    have c5:¬(5:Int)<y.2.ks.items.length:=by lia
    rw[if_neg c6];simp[c5,Az];rw[C8 (h1:=h) (names e) MV.str MV.str (λz=>decide (z∈names d)) ?_ (by rw[BB];exact AL (by have:=ge.b.z;lia)) ?_]
    ·have wn:∀z∈(names e).filter λz=>decide (z∈names d),AM z:=λz hz=>LL ge z (dJ.mp hz).1;have e1:=Sd wn;rw[Db];cases hf:(names e).filter λz=>decide (z∈names d) with
     |cons z l=>
      rw[hf]at e1;have e1:AK .ne (.lst (.str z::l.map MV.str)) (.lst [])=some true:=e1;simp[e1,Oc.due,Tg.s]
     |nil=>
      rw[hf]at e1;have e1:AK .ne (.lst []) (.lst [])=some false:=e1;simp[e1,ne];by_cases c30:30<(names d).length+(names e).length
      ·have c30':(30:Int)<((names d).length:Int)+((names e).length:Int):=by lia
       simp[c30,c30',ne,Oc.due,Tg.s]
      have c30': ¬(30:Int)<((names d).length:Int)+((names e).length:Int):=by lia
      have d1:=@RG n h d y.2.n g y hy rfl;rw[show((1+y.1.length:Nat):Int)=1+(y.1.length:Int) by lia]at d1;have d2:=@RH (n+7) h e ge;rw[show((e.ks.ht+1:Nat):Int)=(e.ks.ht:Int)+1 by lia]at d2;simp[c30,c30',d1,d2];by_cases c7:6<1+y.1.length+(e.ks.ht+1)
      ·have c7':(6:Int)<1+(y.1.length:Int)+((e.ks.ht:Int)+1):=by lia
       simp[c7,c7',Oc.due,Tg.s]
      have c7': ¬(6:Int)<1+(y.1.length:Int)+((e.ks.ht:Int)+1):=by lia
      have w:=Hc (n:=n+5) (h:=h) (d:=d) (z:=y.2.n) (c:=Cz j e) (k:=60) (ms:=[.str (Co j),AW e]) g λn h x l6=>ZX l6;rw[(Ex (c:=Cz j e) g.b.nd hy rfl rfl).1]at w;simp[c7,c7',w,Oc.due]
    ·simp[ne]
    intro z hz;exact⟨_,rfl,by simp[startC,C7],λ_=>by simp[startC]⟩
   ·simp[MR g]
   intro w hw;exact⟨_,rfl,by simp[startC],λ_=>by simp[startC]⟩
end BK71
namespace BK71
open PySem B L2
variable {n:Nat}
def kX{t:Tg}{v:MV}:Kl T.gt.cs t.f (.exc t.c t.f v)=some v:=by cases t<;>rfl
def rK{t:Tg}{v:MV}:Iy T.gt.cs [.exc t.c t.f v,.cls t.c]=some (.bl true):=by cases t<;>rfl
def kI{t t':Tg}{v:MV}(e:t.c≠t'.c):Iy T.gt.cs [.exc t.c t.f v,.cls t'.c]=some (.bl false):=by
 cases t<;>cases t'<;>first|rfl|exact absurd rfl e
def rL{t:Tg}{v:MV}:Iy T.gt.cs [.exc t.c t.f v,.tup [.cls 7,.cls 8]]=some (.bl (decide (t.c=7)||decide (t.c=8))):=by cases t<;>rfl
def Dk{t:Tg}:Ph (n+1) 47 [.v (.exc t.c t.f v)] h=.ok (.v (.lst [.str t.s,v])) h:=by
 refine Ai (d:=d47) rfl rfl ?_;have x:=@kX t v;have a:=@rK t v;have b:=λt'=>@kI t t' v;have c:=@rL t v;have b3:=b .part;have b5:=b .beneath;have b2:=b .join;have b4:=b .offers;have b6:=b .doubled;have b8:=b .deep;cases t<;>simp only[Tg.c,Tg.f,ne_eq,not_true_eq_false,false_implies,Nat.reduceEqDiff,not_false_eq_true,forall_const]at x a b3 b5 b2 b4 b6 b8 c<;>simp[d47,Tg.c,Tg.f,Tg.s,x,a,b3,b5,b2,b4,b6,b8,c]
inductive Dd where
 |put (m jm:MV) (p:Nd ⊕ MV)|out (m:MV)|join (m jm:MV)|offers (m:MV) (ov:List Ky ⊕ MV)
noncomputable def Dd.mv:Dd->MV
 |.put m jm p=>.tup [.str "put",m,jm,pv p]
 |.out m=>.tup [.str "out",m]
 |.join m jm=>.tup [.str "join",m,jm]
 |.offers m ov=>.tup [.str "offers",m,Oq ov]
def Dd.oc(d:Nd):Dd->Oc
 |.put m jm p=>GP d m jm p
 |.out m=>Iv d m
 |.join m jm=>ES d m jm
 |.offers m ov=>Iw d m ov
def Dd.Ok:Dd->Prop
 |.put m jm p=>EK m/\EK jm/\gg p
 |.out m=>EK m
 |.join m jm=>EK m/\EK jm
 |.offers m ov=>EK m/\WN ov
def VU{t:Tg}:az T.gt.cs 0 (.exc t.c t.f v)=some true:=by cases t<;>rfl
def w1:¬(Str.ofString "out"=Str.ofString "put"):=by decide +kernel
def w2:¬(Str.ofString "join"=Str.ofString "put"):=by decide +kernel
def w3:¬(Str.ofString "join"=Str.ofString "out"):=by decide +kernel
def w4:¬(Str.ofString "offers"=Str.ofString "put"):=by decide +kernel
def w5:¬(Str.ofString "offers"=Str.ofString "out"):=by decide +kernel
def w6:¬(Str.ofString "offers"=Str.ofString "join"):=by decide +kernel
def Vk{d:Nd}{D:Dd}(g:Gd d)(hD:D.Ok):Ph (n+18) 48 [.v d.mv,.v D.mv] h=.ok (.v (D.oc d).fnd) h:=by
 refine Ai (d:=d48) rfl rfl ?_;cases D with
 |put m jm p=>
  obtain⟨v1,v2,v3⟩:=hD;have e:=@Zo n h d m jm p g v1 v2 v3;simp[d48,Dd.mv,Dd.oc,e];cases GP d m jm p with
  |bad t v=>simp[Oc.res,Uq VU,Dk,Oc.fnd]
  |ok e=>simp[Oc.res,Oc.fnd]
 |out m=>
  have e:=@Zp n h d m g hD;simp[d48,Dd.mv,Dd.oc,e,w1];cases Iv d m with
  |bad t v=>simp[Oc.res,Uq VU,Dk,Oc.fnd]
  |ok e=>simp[Oc.res,Oc.fnd]
 |join m jm=>
  have e:=@Vf n h d m jm g hD.1 hD.2;simp[d48,Dd.mv,Dd.oc,e,w2,w3];cases ES d m jm with
  |bad t v=>simp[Oc.res,Uq VU,Dk,Oc.fnd]
  |ok e=>simp[Oc.res,Oc.fnd]
 |offers m ov=>
  have e:=@Zq n h d m ov g hD.1 hD.2;simp[d48,Dd.mv,Dd.oc,e,w4,w5,w6];cases Iw d m ov with
  |bad t v=>simp[Oc.res,Uq VU,Dk,Oc.fnd]
  |ok e=>simp[Oc.res,Oc.fnd]
end BK71
namespace BK71
open PySem B L2
variable {n:Nat}
def Bz(hs:sh m 60=true):AK .ne m m=some false:=by
 have e:QE m m=some true:=by
  unfold QE;by_cases c:IW m m=true
  ·rw[if_pos c];cases m<;>first|(exact absurd c a9)|simp[YH]
  rw[if_neg c,if_pos (by rw[hs];rfl)];congr 1;exact PySem.SeqAt.eqv_refl (Eu m) (PySem.SeqAt.canLay_of_shaped (Gc hs (by decide)))
 show(QE m m).map (!·)=_;rw[e];rfl
def Rn(g:Gd d):sh (AW d) 60=true:=by
 refine BF (P:=λN d=>Gd d->∀k,sh (AW d) (3*N+k)=true) (λN d ih g k=>?_) 5 d (by have:=g.b.h;lia) 0 g 42;have w:=g.s.1;rw[show 3*(N+1)+k=(3*N+k)+1+1+1 by lia];show(sh (.str d.n) (3*N+k+1+1)&&(sh (.tup (d.o.map AO)) (3*N+k+1+1)&&(sh (.tup (Ga d.ks)) (3*N+k+1+1)&&De [] _)))=true;have a:sh (.str d.n) (3*N+k+1+1)=true:=by unfold sh;exact CF w.1
 have b:sh (.tup (d.o.map AO)) (3*N+k+1+1)=true:=by
  show De (d.o.map AO) (3*N+k+1)=true;exact BQ λx hx=>G8 (w.2.1.ok x hx) _
 have c:sh (.tup (Ga d.ks)) (3*N+k+1+1)=true:=by
  show De (Ga d.ks) (3*N+k+1)=true;rw[Ar];refine BQ λx hx=>?_;show(sh (.str (Co x.1)) (3*N+k)&&(sh (AW x.2) (3*N+k)&&De [] _))=true;have a:sh (.str (Co x.1)) (3*N+k)=true:=by unfold sh;exact CF (FF _)
  rw[a,ih x hx (g.kid hx) k];simp[De]
 rw[a,b,c];simp[De]
theorem EK.r(v:EK m):AK .ne m m=some false:=by
 cases v with
 |s z=>simp
 |o m o=>exact o.r
def ZH{D:Dd}(hD:D.Ok)(e:D.oc d=.bad t v):AK .ne v v=some false:=by
 cases D with
 |put m jm p=>
  obtain⟨v1,v2,v3⟩:=hD;have e:GP d m jm p=.bad t v:=e;unfold GP at e;split at e
  ·cases e;exact v1.r
  split at e
  ·cases e;exact v3.2
  split at e
  ·cases e;exact v2.r
  split at e
  ·cases e;simp
  split at e
  ·cases e;simp
  split at e
  ·cases e;simp
  split at e
  ·cases e;simp
  cases e
 |out m=>
  have e:Iv d m=.bad t v:=e;unfold Iv at e;split at e
  ·cases e;exact EK.r hD
  cases e
 |join m jm=>
  have e:ES d m jm=.bad t v:=e;unfold ES at e;split at e
  ·cases e;exact hD.1.r
  split at e
  ·cases e;exact hD.2.r
  cases e
 |offers m ov=>
  obtain⟨v1,v2⟩:=hD;have e:Iw d m ov=.bad t v:=e;unfold Iw at e;split at e
  ·cases e;exact v1.r
  split at e
  ·cases e;exact v2.2
  split at e
  ·cases e
  cases e;exact Bz (by show De (_:List MV) 59=true;exact BQ λx hx=>G8 (v2.2 x hx) _)
def Xx{D:Dd}(g:Gd d)(hD:D.Ok)(e:D.oc d=.ok e'):Gd e':=by
 cases D with
 |put m jm p=>
  obtain⟨v1,v2,v3⟩:=hD;have e:GP d m jm p=.ok e':=e;unfold GP at e;split at e
  ·cases e
  rename_i y er;obtain⟨_,k,hk⟩:=Cu er;split at e
  ·cases e
  split at e
  ·cases e
  split at e
  ·cases e
  split at e
  ·cases e
  rename_i ef;split at e
  ·cases e
  split at e
  ·cases e
  cases e;exact(SV g v3 (aP hk) (λz hz=>by simpa using eM.mp ef z hz) (by lia) (by lia) (by lia)).2
 |out m=>
  have e:Iv d m=.ok e':=e;unfold Iv at e;split at e
  ·cases e
  rename_i u eu;cases e;obtain⟨z,rfl,hu⟩:=Es g.b.nd eu;exact(SY g hu _).2
 |join m jm=>
  have e:ES d m jm=.ok e':=e;unfold ES at e;split at e
  ·cases e
  rename_i u eu;split at e
  ·cases e
  cases e;obtain⟨z,rfl,hu⟩:=Es g.b.nd eu;exact(OH g hu _ _).2
 |offers m ov=>
  obtain⟨v1,v2⟩:=hD;have e:Iw d m ov=.ok e':=e;unfold Iw at e;split at e
  ·cases e
  rename_i y er;obtain⟨_,k,hk⟩:=Cu er;split at e
  ·cases e
  split at e
  ·rename_i nd;cases e;exact(SW g (aP hk) ⟨v2.1,nd,v2.2⟩).2
  cases e
def iy:∀t:Tg,¬(t.s=Str.ofString "work"):=by intro t;cases t<;>decide +kernel
def VV{e:Nd}:Iy T.gt.cs [e.mv,.cls 14]=some (.bl true):=rfl
def Vh{d:Nd}{D:Dd}(g:Gd d)(hD:D.Ok):Ph (n+19) 50 [.v d.mv,.v (AW d),.v D.mv,.v (D.oc d).due] h=.ok (.v (.lst [((D.oc d).nx d).mv,AW ((D.oc d).nx d)])) h:=by
 refine Ai (d:=d50) rfl rfl ?_;have e1:=@Vk n h d D g hD;have e2:=@JX (n+12) h d g;have e3:=Bz (Rn g);cases eo:D.oc d with
 |bad t v=>
  rw[eo]at e1;have r:=ZH hD eo;simp[d50,e1,e2,e3,Oc.fnd,Oc.due,Oc.nx,iy,r]
 |ok e=>
  rw[eo]at e1;have ge:=Xx g hD eo;have e4:=@JX (n+12) h e ge;have e5:=Bz (Rn ge);simp[d50,e1,e2,e3,Oc.fnd,Oc.due,Oc.nx,VV,e4,e5]
end BK71
namespace BK71
open PySem B L2 PyProof.Rows
variable {n:Nat}
def sI(rs:List Rw)(i:Nat):MV:=.tup [.int (i:Int),F8 (BJ rs i)]
def Qn(rs:List Rw):EU (rs.map F8)=(List.range rs.length).map (sI rs):=by
 unfold EU;apply eO;intro i;rw[aM,aM,List.getElem?_zipIdx,aM];by_cases hi:i<rs.length
 ·rw[Di hi,aZ (by rw[bG];exact hi),eK];simp[sI]
 rw[dP (by lia),dP (by rw[bG];lia)];rfl
def lT{k:Nat}(hk:k<rs.length):BH (rs.map F8) (k:Int)=some (F8 (BJ rs k)):=by
 rw[Ay (cB _),aM,bU,Di hk];rfl
def fk{rs:List Rw}{k:Nat}(hk:k<rs.length):BH (rs.map F8) (k:Int)=some (.tup [.str (BJ rs k).n,.tup ((BJ rs k).o.map AO),.int (BJ rs k).ab,.str (BJ rs k).js,.int (BJ rs k).dp]):=lT hk
def Jj(rs:List Rw)(k:Nat)(F:Nat->MV):(Da rs k).map F=(List.range rs.length).flatMap λi=>if FK rs k i=true then [F i] else []:=by
 unfold Da K5
 induction List.range rs.length with
 |nil=>rfl
 |cons i is ih=>by_cases hi:FK rs k i=true<;>simp[hi,ih]
def ag(t:AG rs){k i:Nat}(hi:i∈Da rs k):(BJ rs i).js=Co (BJ rs i).j:=by
 have:=(FH.mp hi).2;unfold Rw.js;rw[if_neg (by rw[this];lia)]
def K4(r:Mp ks rs)(k:Nat):(Da rs k).length<=6:=by rw[S6];exact r.t.few k
def GB(r:Mp ks rs){f k N:Nat}(hk:k<rs.length)(hf:(BJ rs k).dp+f=6)(ih:∀i∈Da rs k,∀h,Ph N 31 [.v (.lst (rs.map F8)),.v (.int i)] h=.ok (.v (AW (Bo rs (f-1) i))) h):Ph (N+1) 31 [.v (.lst (rs.map F8)),.v (.int k)] h=.ok (.v (AW (Bo rs f k))) h:=by
 refine Ai (d:=d31) rfl rfl ?_;have hen:EU (rs.map F8)=_:=Qn rs;simp[d31,hen];have e0:Ga (Bo rs f k).ks=[]++(List.range rs.length).flatMap λi=>if FK rs k i=true then [G6 ((BJ rs i).j,Bo rs (f-1) i)] else []:=by
  show Ga (fo rs f k)=_;rw[Ar,HX r.t hf,c8,iA,←Jj rs k (λi=>G6 ((BJ rs i).j,Bo rs (f-1) i))];rfl
 have hB:([]++(List.range rs.length).flatMap λi=>if FK rs k i=true then [G6 ((BJ rs i).j,Bo rs (f-1) i)] else []).length<=6:=by
  rw[iA,←Jj rs k (λi=>G6 ((BJ rs i).j,Bo rs (f-1) i)),aL];exact K4 r k
 refine EH (FO (sI rs) (λi=>if FK rs k i=true then [G6 ((BJ rs i).j,Bo rs (f-1) i)] else []) (λμ=>∃x3 x4,μ=[some (.v (.lst (rs.map F8))),some (.v (.int k)),some (.r (hlen h)),x3,x4]) 6 ⟨_,_,rfl⟩ hB λi hi μ acc ⟨x3,x4,hμ⟩ hl=>?_) λμ ⟨x3,x4,hμ⟩=>?_
 ·subst hμ;refine⟨_,rfl,?_⟩;have hi:=gE.mp hi;by_cases hkd:FK rs k i=true
  ·have hm:i∈Da rs k:=by unfold Da K5;exact dJ.mpr ⟨gE.mpr hi,hkd⟩
   have hab:=(FH.mp hm).2;have hacc:acc.length<big:=by rw[if_pos hkd]at hl;simp at hl;unfold big;lia
   simp[F8,ic,-Ay,hab,ag r.t hm,hkd,hacc,G6,ih i hm]
  have hab:¬(BJ rs i).ab=(k:Int):=by unfold FK at hkd;simpa using hkd
  simp[F8,ic,-Ay,hab,hkd]
 subst hμ;rw[←e0];have ea:=fk hk;simp[-Ay,ea,ic,AW,Bo]
def PC(r:Mp ks rs):∀f k n h,k<rs.length->(BJ rs k).dp+f=6->Ph (n+f+1) 31 [.v (.lst (rs.map F8)),.v (.int k)] h=.ok (.v (AW (Bo rs f k))) h:=by
 intro f
 induction f with
 |zero=>
  intro k n h hk hf;refine GB r hk hf λi hi=>?_;obtain⟨c1,c2,c3,_⟩:=r.t.kid hi;have:=(r.t.dp6 c1).2
  lia
 |succ f ih=>
  intro k n h hk hf;refine GB r hk hf λi hi h=>?_;obtain⟨c1,c2,c3,_⟩:=r.t.kid hi;exact ih i n h c1 (by lia)
def V7(r:Mp ks rs){f k:Nat}(hk:k<rs.length)(hf:(BJ rs k).dp+f=6):Bd (Bo rs f k):=r.t.bd r.l r.nd hk (by have:=(r.t.dp6 hk).1;lia)
def Ir(rs:List Rw):Nd:=Bo rs 5 0
def Vc{ks:List Ky}{rs:List Rw}(r:Mp ks rs):Ph (n+6) 31 [.v (.lst (rs.map F8)),.v (.int 0)] h=.ok (.v (AW (Ir rs))) h:=PC r 5 0 n h r.t.pos (by rw[r.t.root1])
def Rm(r:Mp ks rs):∀f k,k<rs.length->(BJ rs k).dp+f=6->Mv (Bo rs f k):=by
 intro f
 induction f with
 |zero=>
  intro k hk hf;have hm:=JP hk;have e0:(Bo rs 0 k).ks.items=(Da rs k).map λc=>((BJ rs c).j,Bo rs (0-1) c):=HX r.t hf;refine⟨⟨(r.t.ok _ hm).1,(r.o _ hm).1,by rw[e0,aL];exact K4 r k⟩,Eo.of λx hx=>?_⟩;rw[e0]at hx;obtain⟨i,hi,rfl⟩:=aW.mp hx;obtain⟨c1,c2,c3,_⟩:=r.t.kid hi;have:=(r.t.dp6 c1).2
  lia
 |succ f ih=>
  intro k hk hf;have hm:=JP hk;have e0:(Bo rs (f+1) k).ks.items=(Da rs k).map λc=>((BJ rs c).j,Bo rs (f+1-1) c):=HX r.t hf;refine⟨⟨(r.t.ok _ hm).1,(r.o _ hm).1,by rw[e0,aL];exact K4 r k⟩,Eo.of λx hx=>?_⟩;rw[e0]at hx;obtain⟨i,hi,rfl⟩:=aW.mp hx;obtain⟨c1,c2,c3,_⟩:=r.t.kid hi;exact ih i c1 (by lia)
def Ux(r:Mp ks rs):Gd (Ir rs):=⟨V7 r r.t.pos (by rw[r.t.root1]),Rm r 5 0 r.t.pos (by rw[r.t.root1])⟩
end BK71
namespace BK71
open PySem B L2
variable {n:Nat}
def fM:Option Nd->MV
 |none=>.non
 |some e=>AW e
structure Fr(zs:List Str)(first:Nat)(row:Bool)(j:Nat)(e:Nd):Prop where
 s:Mv e
 nd:(names e).Nodup
 l:(names e).length=j
 m:∀z∈names e,∃i,i<j/\zs[first+i]?=some z
 t:e.ks.ht+1<=j
 k:row=false->e.ks.items.length+1<=j
def xQ(zs:List Str)(first:Nat)(row:Bool)(j:Nat):Option Nd->Prop
 |none=>j=0
 |some e=>Fr zs first row j e
def Fr.gd{first j:Nat}(f:Fr zs first row j e)(h4:j<=4):Gd e:=
 ⟨⟨f.nd,by have:=f.l;rw[BB]at this;lia,by have:=f.t;lia⟩,f.s⟩
def cq{first:Nat}{z:Str}(hz:zs[first]?=some z)(w:AM z)(g:EX o):Fr zs first row 1 ⟨z,o,.nil⟩:=
 ⟨⟨⟨w,g,by show(0:Nat)<=6;decide⟩,trivial⟩,by show [z].Nodup;simp,rfl,λy hy=>⟨0,by decide,by rw[List.mem_singleton.mp (show y∈ [z] from hy)];exact hz⟩,aN _,λ_=>aN _⟩
def LN(znd:zs.Nodup){first j:Nat}(f:Fr zs first row j e){z:Str}(hz:zs[first+j]?=some z):z∉names e:=λhm=>by
 obtain⟨i,hi,e1⟩:=f.m z hm;have:=B.C2 znd e1 hz
 lia
def cp(znd:zs.Nodup){first j:Nat}(f:Fr zs first true j e){z:Str}(hz:zs[first+j]?=some z)(w:AM z)(g:EX o):Fr zs first true (j+1) ⟨z,o,.cons 2 e.n e.o e.ks .nil⟩:=by
 have en:names ⟨z,o,.cons 2 e.n e.o e.ks .nil⟩=z::names e:=by
  rw[AD];show z::Ag (.cons 2 e.n e.o e.ks .nil)=_;rw[Af,AD];show z::(e.n::(Ag e.ks++ []))=_;rw[bE]
 refine⟨⟨⟨w,g,by show 1<=6;decide⟩,⟨f.s.1,f.s.2,trivial⟩⟩,?_,by rw[en,cC,f.l],λy hy=>?_,?_,λq=>by cases q⟩
 ·rw[en];exact List.nodup_cons.mpr ⟨LN znd f hz,f.nd⟩
 ·rw[en]at hy;rcases aH.mp hy with rfl|hy
  ·exact⟨j,by lia,hz⟩
  obtain⟨i,hi,e1⟩:=f.m y hy;exact⟨i,by lia,e1⟩
 show max (e.ks.ht+1) 0+1<=j+1;have:=f.t
 lia
def Wn(znd:zs.Nodup){first j:Nat}(f:Fr zs first false j e)(h4:j<4){z:Str}(hz:zs[first+j]?=some z)(w:AM z)(g:EX o):Fr zs first false (j+1) (Cz 1 ⟨z,o,.nil⟩ e):=by
 have en:names (Cz 1 ⟨z,o,.nil⟩ e)=names e++ [z]:=Fe _ _ _;have hk:=f.k rfl;refine⟨⟨⟨f.s.1.1,f.s.1.2.1,?_⟩,Eo.of λx hx=>?_⟩,?_,by rw[en,aR,f.l];rfl,λy hy=>?_,?_,λ_=>?_⟩
 ·show(e.ks.snoc 1 ⟨z,o,.nil⟩).items.length<=6;rw[Bp,aR];show _+1<=6
  lia
 ·have hx:x∈(e.ks.snoc 1 ⟨z,o,.nil⟩).items:=hx;rw[Bp]at hx;rcases bC.mp hx with hx|hx
  ·exact f.s.2.mem hx
  rw[bA.mp hx];exact⟨⟨w,g,by show(0:Nat)<=6;decide⟩,trivial⟩
 ·rw[en,dB];exact⟨f.nd,by simp,λa ha b hb=>by rw[List.mem_singleton.mp hb];rintro rfl;exact LN znd f hz ha⟩
 ·rw[en]at hy;rcases bC.mp hy with hy|hy
  ·obtain⟨i,hi,e1⟩:=f.m y hy;exact⟨i,by lia,e1⟩
  rw[bA.mp hy];exact⟨j,by lia,hz⟩
 ·show(e.ks.snoc 1 ⟨z,o,.nil⟩).ht+1<=j+1;rw[(Dh _ _ _).2];have:=f.t;show max e.ks.ht (0+1)+1<=j+1
  lia
 show(e.ks.snoc 1 ⟨z,o,.nil⟩).items.length+1<=j+1;rw[Bp,aR];show _+1+1<=_
 lia
def FP(zs:List Str)(ks:List Ky)(h:MH)(first:Nat)(m:Int)(row:Bool)(j:Nat)(μ:En)(h':MH):Prop:=E4 λ(x:Bx) (f:Option Nd) (v7 v8:Option R)=>A3 (μ=[some (.r (hlen h)),some (.v (.lst (zs.map MV.str))),some (.v (.lst (ks.map AO))),some (.v (.int m)),some (.v (.int first)),some (.v (.bl row)),some (.v (fM f)),v7,v8]) (h'=hnew h (Au x)) (xQ zs first row j f)
def FR(h:MH)(m:MV)(h':MH):Prop:=∃(e:Nd) (x:Bx),m=AW e/\Gd e/\h'=hnew h (Au x)
def NZ(x:Bx){m:Nat}(hm:0<m):∃a:Nat,a<m/\Cm x (m:Int)=(a:Int):=by
 obtain⟨a,e⟩:=gx x hm;exact⟨a.val,a.isLt,e⟩
def Oz(l:List MV)(n:Int):BD .mul (.lst l) (.int n)=if -(2^63)<=n/\n<2^63/\l.length*n.toNat<=big then some (.lst (List.replicate n.toNat l).flatten) else none:=rfl
def V0(hk:AM k.1){b:Nat}(hb:b<2):∃o:List Ky,BD .mul (.lst [AO k]) (.int (b:Int))=some (.lst (o.map AO))/\EX o:=by
 have e:=Oz [AO k] (b:Int);rw[if_pos ⟨by lia,by lia,by rw[bU];exact AL (by simp;lia)⟩,bU]at e;have:b=0\/b=1:=by lia
 rcases this with rfl|rfl
 ·exact⟨[],e,⟨by decide,fJ,λ_ h=>by cases h⟩⟩
 exact⟨[k],e,⟨by show(1:Nat)<=2;decide,by simp,λx hx=>by rw[List.mem_singleton.mp hx];exact hk⟩⟩
def RE{zs:List Str}{ks:List Ky}(hz:zs.length=30)(zw:∀z∈zs,AM z)(znd:zs.Nodup)(hw:∀k∈ks,AM k.1)(h0:0<ks.length)(h12:ks.length<=12):IM (Ph (n+3) 38 [.r (hlen h),.v (.lst (zs.map MV.str)),.v (.lst (ks.map AO))] (hnew h (Au x))) (FR h):=by
 refine Ka (d:=d38) rfl rfl ?_;obtain⟨a,a4,ea⟩:=NZ x (m:=4) (by decide);generalize hx1:Dg x 4=x1;have em:(30:Int)-(1+(a:Int))+1=((30-a:Nat):Int):=by lia
 obtain⟨b,b30,eb⟩:=NZ x1 (m:=30-a) (by lia);generalize hx2:Dg x1 ((30-a:Nat):Int)=x2;have T2:Ph (n+2) 27 [.r (hlen h),.v (.int ((30-a:Nat):Int))] (hnew h (Au x1))=.ok (.v (.int b)) (hnew h (Au x2)):=by
  rw[tk1 (by lia) (by lia),eb,hx2]
 have ea:Cm x 4=(a:Int):=ea;generalize hrow:decide (Cm x2 2=0)=row;generalize hx3:Dg x2 2=x3;have er:=IY (j:=1+(a:Int)) (by lia) (by lia);rw[show(1+(a:Int)).toNat=1+a by lia]at er;simp -dsimp -dsimp -implicitDefEqProofs [d38,tk1,ea,hx1,hz,em,T2,hrow,hx3,er];refine FN (OK (λ(i:Nat)=>MV.int (i:Int)) (FP zs ks h b (1+(a:Int)) row) ⟨x3,none,none,none,rfl,rfl,rfl⟩ ?_) ?_
 ·rintro j i μ h' hi ⟨x,f,v7,v8,rfl,rfl,hf⟩;obtain⟨hj,e⟩:=aE.mp hi;rw[bG]at hj;rw[eK]at e;subst e;refine⟨_,rfl,?_⟩;obtain⟨r,rl,er⟩:=NZ x (m:=ks.length) h0;obtain⟨k,ek⟩:∃k,ks[r]?=some k:=⟨_,aZ rl⟩;have eix:BH (ks.map AO) (r:Int)=some (AO k):=by rw[Ay (cB _),bU,aM,ek];rfl
  have T1:Ph (n+2) 27 [.r (hlen h),.v (.int (ks.length:Int))] (hnew h (Au x))=.ok (.v (.int r)) (hnew h (Au (Dg x ks.length))):=by
   rw[tk1 (by lia) (by lia),er]
  generalize Dg x ks.length=x1 at T1;obtain⟨q,ql,eq⟩:=NZ x1 (m:=2) (by decide);have eq:Cm x1 2=(q:Int):=eq;obtain⟨o,eo,go⟩:=V0 (hw k (aP ek)) ql;obtain⟨z,ez⟩:∃z,zs[b+j]?=some z:=⟨_,aZ (by lia)⟩;have wz:=zw z (aP ez);have eiz:BH (zs.map MV.str) ((b:Int)+(j:Int))=some (.str z):=by rw[show(b:Int)+(j:Int)=((b+j:Nat):Int) by lia,Ay (cB _),bU,aM,ez];rfl
  generalize hx2:Dg x1 2=x2;simp -dsimp -dsimp -implicitDefEqProofs [-Ay,T1,eix,tk1,eq,eo,hx2,eiz];cases f with
  |none=>
   have hf:j=0:=hf;subst hf;have eiz:BH (zs.map MV.str) (b:Int)=some (.str z):=by rw[←eiz];congr 1
   simp -dsimp -implicitDefEqProofs [-Ay,fM,eiz];exact⟨x2,some ⟨z,o,.nil⟩,_,_,rfl,rfl,cq ez wz go⟩
  |some e=>
   have hf:Fr zs b row j e:=hf;cases row with
   |true=>
    simp -dsimp -implicitDefEqProofs [-Ay,fM,JE,eiz];exact⟨x2,some ⟨z,o,.cons 2 e.n e.o e.ks .nil⟩,_,_,rfl,rfl,cp znd hf ez wz go⟩
   |false=>
    have el:(Ga e.ks).length+1<=big:=by
     rw[Ar,aL];have:=hf.s.1.2.2;exact AL (by lia)
    have em:Ga (e.ks.snoc 1 ⟨z,o,.nil⟩)=Ga e.ks++ [.tup [.str "beside",.tup [.str z,.tup (o.map AO),.tup []]]]:=by
     rw[Ar,Bp,bT,Ar];rfl
    simp -dsimp -implicitDefEqProofs [-Ay,fM,JE,el,eiz];exact⟨x2,some (Cz 1 ⟨z,o,.nil⟩ e),_,_,by show _=[_,_,_,_,_,_,some (R.v (MV.tup [MV.str e.n,MV.tup (e.o.map AO),MV.tup (Ga (e.ks.snoc 1 ⟨z,o,.nil⟩))])),_,_];rw[em],rfl,Wn znd hf (by lia) ez wz go⟩
 rintro μ h' ⟨x,f,v7,v8,rfl,rfl,hf⟩;rw[bG]at hf;cases f with
 |none=>exact absurd (show 1+a=0 from hf) (by lia)
 |some e=>
  have hf:Fr zs b row (1+a) e:=hf;simp[fM];exact⟨e,x,rfl,hf.gd (by lia),rfl⟩
end BK71
namespace BK71
open PySem B L2
variable {n:Nat}
def Nw(hf:ET m=true)(he:∀y,Qm (.str y) m=false)(zs:List Str):LJ m (zs.map MV.str)=some false:=by
 unfold LJ;rw[if_pos (by rw[hf,i8,Bool.true_and,bD];exact λ_ _=>rfl)];congr 1;rw[gB,gU];intro y _;simp[he]
def Wa(hf:ET m=false)(hs:sh m 60=true)(he:∀y,O3 (.str y) m=false)(zs:List Str)(hw:∀z∈zs,AM z):LJ m (zs.map MV.str)=some false:=by
 unfold LJ;rw[if_neg (by rw[hf];simp),if_pos (by rw[hs,BQ λz hz=>by unfold sh;exact CF (hw z hz)];rfl)];congr 1;rw[gB,gU];intro y _;simp[he]
def Ov:gh .non:=⟨λw _=>rfl,rfl,λzs _=>Nw rfl (λ_=>rfl) zs,rfl⟩
def Ow{i:Int}:gh (.int i):=⟨λw _=>rfl,rfl,λzs _=>Nw rfl (λ_=>rfl) zs,Bz (by simp[sh])⟩
def ZG:gh (.bl b):=⟨λw _=>rfl,rfl,λzs _=>Nw rfl (λ_=>rfl) zs,Bz (by simp[sh])⟩
def MF{z:Str}(hz:AM z)(k:Nat):sh (sq b [.str z]) (k+1)=true:=by
 cases b<;>(show(sh (.str z) k&&De [] k)=true;unfold sh De;rw[CF hz];rfl)
def O2{z y:Str}:O3 (.str y) (sq b [.str z])=false:=by
 cases b<;>(unfold O3;simp[sq,Eu,PyData.eqv])
def Hd{z:Str}(hz:AM z):gh (sq b [.str z]):=by
 refine⟨λw hw=>?_,by cases b<;>rfl,Wa (by cases b<;>rfl) (MF hz 59) (λy=>O2),Bz (MF hz 59)⟩;show QE _ _=_;unfold QE;have e:IW (.str w) (sq b [.str z])=false:=by cases b<;>rfl
 rw[if_neg (by rw[e];simp),if_pos (by rw[MF hz 59];unfold sh;rw[CF hw];rfl),O2]
def Dp(o:gh m):EK m:=.o m o λz e=>by
 have:=o.i;rw[e]at this;cases this
def FB(hm:Iy T.gt.cs [m,.ty .tup]=some (.bl false)):Ph (n+2) 2 [.v m] h=.ok (.v (.bl false)) h:=by
 refine Ai (d:=d2) rfl rfl ?_;simp[d2,hm]
def PD:Ph (n+2) 2 [.v (.tup [.str "a",.int 100])] h=.ok (.v (.bl false)) h:=by
 refine Ai (d:=d2) rfl rfl ?_;have w:AM "a":=⟨by decide +kernel,by decide +kernel,by unfold BG;decide +kernel⟩;have e1:Iy T.gt.cs [.tup [.str "a",.int 100],.ty .tup]=some (.bl true):=rfl;simp[d2,e1,JW w,Lr]
def XV(hm:Iy T.gt.cs [m,.tup [.ty .lst,.ty .tup]]=some (.bl false)):Ph (n+3) 5 [.v m] h=.ok (.v (.bl false)) h:=by
 refine Ai (d:=d5) rfl rfl ?_;simp[d5,hm]
def WF(hl:2<l.length):Ph (n+3) 5 [.v (sq b l)] h=.ok (.v (.bl false)) h:=by
 refine Ai (d:=d5) rfl rfl ?_;have:(2:Int)<(l.length:Int):=by lia
 simp[d5,this]
def TY(h2:l.length<=2)(h0:0<l.length)(hk:∀m∈l,∀n h,Ph (n+2) 2 [.v m] h=.ok (.v (.bl false)) h):Ph (n+3) 5 [.v (sq b l)] h=.ok (.v (.bl false)) h:=by
 refine Ai (d:=d5) rfl rfl ?_;have c1:¬(2:Int)<(l.length:Int):=by lia
 have ea:L9 [.lst (l.map λ_=>MV.bl false)]=some (.bl false):=by
  show(DF _).map _=_;rw[Gr (λ_=>false)];cases l with
  |nil=>cases h0
  |cons a l=>rfl
 simp[d5,c1,Az];rw[Ax (h1:=h) l id (λ_=>.bl false) ?_ ?_ (AL (by lia)) ?_]
 ·simp[ea]
 ·exact λ_ _=>rfl
 ·simp
 intro k hk';exact⟨_,rfl,by simp[startC,hk k hk' n h]⟩
end BK71
namespace BK71
open PySem B L2
variable {n:Nat}
def Gw(l:List MV):Prop:=l.length<=3/\SL l=false/\AF l l=true
def oB(v:MV):Prop:=(∃l,v=.lst l/\Gw l)\/Iy T.gt.cs [v,.ty .lst]=some (.bl false)
def DL:Dd->Prop
 |.offers _ ov=>oB (Oq ov)
 |_=>True
def DR(d:Nd)(h:MH)(m:MV)(h':MH):Prop:=E2 λ(D:Dd) (x:Bx)=>A4 (m=.tup [D.mv,(D.oc d).due]) D.Ok (DL D) (h'=hnew h (Au x))
structure tO(zs:List Str)(ks:List Ky):Prop where
 z30:zs.length=30
 zw:∀z∈zs,AM z
 znd:zs.Nodup
 k4:ks.length=4
 kw:∀k∈ks,AM k.1
def D1(d:Nd)(zs:List Str)(ks:List Ky)(h:MH)(μ:En)(h':MH):Prop:=E4 λ(x:Bx) (m jm:MV) (odd:Bool)=>A4 (μ=[some (.r (hlen h)),some (.v (AW d)),some (.v (.lst (zs.map MV.str))),some (.v (.lst (ks.map AO))),some (.v (.lst ((names d).map MV.str))),some (.v m),some (.v jm),some (.v (.bl odd)),none,none,none,none,none]) (h'=hnew h (Au x)) (EK m) (EK jm)
def ZN{j:Nat}(hj:j<4):∃i:Fin 4,BH [MV.str "called",.str "beside",.str "joined",.str "changed"] (j:Int)=some (.str (Co i)):=by
 have:j=0\/j=1\/j=2\/j=3:=by lia
 rcases this with rfl|rfl|rfl|rfl
 ·exact⟨0,rfl⟩
 ·exact⟨1,rfl⟩
 ·exact⟨2,rfl⟩
 exact⟨3,rfl⟩
def X2(g:Gd d){r:Nat}(hr:r<(names d).length):∃z,AM z/\BH ((names d).map MV.str) (r:Int)=some (.str z):=by
 refine⟨(names d)[r],LL g _ (hW _),?_⟩;rw[Ay (cB _),bU,aM,aZ hr];rfl
def UA{zs:List Str}{r:Nat}(hr:r<zs.length):∃z,BH (zs.map MV.str) (r:Int)=some (.str z):=by
 refine⟨zs[r],?_⟩;rw[Ay (cB _),bU,aM,aZ hr];rfl
def o0{P:MV->Prop}{a b c d e f g:MV}(ha:P a)(hb:P b)(hc:P c)(hd:P d)(he:P e)(hf:P f)(hg:P g){j:Nat}(hj:j<7):∃m,BH [a,b,c,d,e,f,g] (j:Int)=some m/\P m:=by
 have:j=0\/j=1\/j=2\/j=3\/j=4\/j=5\/j=6:=by lia
 rcases this with rfl|rfl|rfl|rfl|rfl|rfl|rfl
 ·exact⟨_,rfl,ha⟩
 ·exact⟨_,rfl,hb⟩
 ·exact⟨_,rfl,hc⟩
 ·exact⟨_,rfl,hd⟩
 ·exact⟨_,rfl,he⟩
 ·exact⟨_,rfl,hf⟩
 exact⟨_,rfl,hg⟩
def PR(d:Nd):0<(names d).length:=by rw[BB];lia
def xN(v:MV):Prop:=Iy T.gt.cs [v,.cls 14]=some (.bl false)/\AK .ne v v=some false
def D2(d:Nd)(zs:List Str)(ks:List Ky)(h:MH)(m jm:MV)(odd:Bool)(w:Int)(e:Nd)(μ:En)(h':MH):Prop:=E2 λ(x:Bx) (p:Option Nd)=>A3 (μ=[some (.r (hlen h)),some (.v (AW d)),some (.v (.lst (zs.map MV.str))),some (.v (.lst (ks.map AO))),some (.v (.lst ((names d).map MV.str))),some (.v m),some (.v jm),some (.v (.bl odd)),some (.v (.int w)),some (.v (fM p)),none,none,none]) (h'=hnew h (Au x)) (p=none\/p=some e)
def vW:List Ky ⊕ MV->Bool
 |.inl o=>decide o.Nodup
 |.inr _=>false
def D3(d:Nd)(zs:List Str)(ks:List Ky)(h:MH)(m jm:MV)(odd:Bool)(w:Int)(μ:En)(h':MH):Prop:=E2 λ(x:Bx) (ov:List Ky ⊕ MV)=>A4 (μ=[some (.r (hlen h)),some (.v (AW d)),some (.v (.lst (zs.map MV.str))),some (.v (.lst (ks.map AO))),some (.v (.lst ((names d).map MV.str))),some (.v m),some (.v jm),some (.v (.bl odd)),some (.v (.int w)),none,none,some (.v (Oq ov)),some (.v (.bl (vW ov)))]) (h'=hnew h (Au x)) (WN ov) (oB (Oq ov))
theorem Sx{ks:List Ky}:∀{ms:List MV},(∀m∈ms,∃k∈ks,m=AO k)->∃o:List Ky,ms=o.map AO/\∀k∈o,k∈ks
 |[],_=>⟨[],rfl,λ_ h=>by cases h⟩
 |m::ms,h=>by
  obtain⟨k,hk,rfl⟩:=h _ aF;obtain⟨o,rfl,ho⟩:=Sx λx hx=>h x (aD _ hx);exact⟨k::o,rfl,λx hx=>by
   rcases aH.mp hx with rfl|hx
   ·exact hk
   exact ho x hx⟩
theorem C4(l:List MV):∀o:List Ky,AF l (o.map AO)=true
 |[]=>rfl
 |k::o=>by
  show(B3 l (AO k)&&AF l (o.map AO))=true;rw[C4 l o];rfl
def bz(o:List Ky):SL (o.map AO)=false:=by cases o<;>rfl
def SO{o:List Ky}(h:o.length<=3):Gw (o.map AO):=⟨by rw[aL];exact h,bz o,C4 _ o⟩
def Ya(v:MV):Prop:=WN (.inr v)/\oB v
def V3:Ya .non:=⟨⟨λn h=>XV rfl,rfl⟩,.inr rfl⟩
def ZK:Ya (.str "ab"):=⟨⟨λn h=>XV rfl,Bz (by decide +kernel)⟩,.inr rfl⟩
def kj{o:List Ky}(h3:o.length=3)(hw:∀k∈o,AM k.1):Ya (.lst (o.map AO)):=⟨⟨λn h=>WF (b:=true) (by rw[aL];lia),Bz (by show De (o.map AO) 59=true;exact BQ λx hx=>G8 (hw x hx) _)⟩,.inl ⟨_,rfl,SO (by lia)⟩⟩
def V5(hk:AM k.1):Ya (AO k):=⟨⟨λn h=>TY (b:=false) (l:=[.str k.1,.int (k.2.val:Int)]) (by show(2:Nat)<=2;decide) (by show(0:Nat)<2;decide) (λm hm n h=>by
 rcases aH.mp hm with rfl|hm
 ·exact FB rfl
 rw[bA.mp hm];exact FB rfl),Bz (G8 hk 59)⟩,.inr rfl⟩
def Ki(hk:∀n h,Ph (n+2) 2 [.v m] h=.ok (.v (.bl false)) h)(hs:sh m 59=true)(hg:Gw [m]):Ya (.lst [m]):=⟨⟨λn h=>TY (b:=true) (l:=[m]) (by show(1:Nat)<=2;decide) (by show(0:Nat)<1;decide) (λx hx n h=>by rw[bA.mp hx];exact hk n h),Bz (by show(sh m 59&&De [] 59)=true;rw[hs];unfold De;rfl)⟩,.inl ⟨_,rfl,hg⟩⟩
def V4{k:Ky}(hk:AM k.1):Ya (.lst [.lst [.str k.1,.int (k.2.val:Int)]]):=Ki (λn h=>FB rfl) (by show De [.str k.1,.int _] 58=true;exact G8 hk 58) ⟨by show(1:Nat)<=3;decide,rfl,rfl⟩
def V6:Ya (.lst [.tup [.str "a",.int 100]]):=Ki (λn h=>PD) (by decide +kernel) ⟨by decide,rfl,rfl⟩
def wZ{ks:List Ky}(h:ks.length=4):Ix (.lst (ks.map AO)) none (some 3)=some (.lst ((ks.take 3).map AO)):=by
 rcases ks with _|⟨k0,_|⟨k1,_|⟨k2,_|⟨k3,_|⟨k5,r⟩⟩⟩⟩⟩<;>first|rfl|(simp at h)
def xn{ks:List Ky}(h:ks.length=4):∃k∈ks,BH (ks.map AO) 0=some (AO k):=by
 rcases ks with _|⟨k0,r⟩
 ·cases h
 exact⟨k0,aF,by rw[Ay (by decide)];rfl⟩
def Qi{s:SR}{k1 k2:Sf}{n:Nat}{P:En->MH->Prop}{Q:MV->MH->Prop}(a:WR s P)(r:∀μ h,P μ h->IM (fin n (seqK (x:=k1 μ h) k2)) Q):IM (fin n (seqK (x:=seqK (x:=s) k1) k2)) Q:=by
 obtain⟨μ,h,rfl,p⟩:=a;exact r μ h p
def Wz:sh (.tup [.str "core",.tup [],.tup []]) 60=true:=by decide +kernel
def Tz:sh (.str "core") 60=true:=by decide +kernel
def Vm(g:Gd d)(K:tO zs ks):IM (Ph (n+16) 49 [.r (hlen h),.v (AW d),.v (.lst (zs.map MV.str)),.v (.lst (ks.map AO))] (hnew h (Au x))) (DR d h):=by
 refine Ka (d:=d49) rfl rfl ?_;have np:=PR d;have nl:(names d).length<=30:=by rw[BB];exact g.b.z
 obtain⟨r,rl,er⟩:=NZ x (m:=(names d).length) np;obtain⟨z,wz,ez⟩:=X2 g rl;generalize hx1:Dg x (names d).length=x1;have T1:Ph (n+13+2) 27 [.r (hlen h),.v (.int ((names d).length:Int))] (hnew h (Au x))=.ok (.v (.int r)) (hnew h (Au x1)):=by
  rw[tk1 (by lia) (by lia),er,hx1]
 obtain⟨a,a4,ea⟩:=NZ x1 (m:=4) (by decide);have ea:Cm x1 4=(a:Int):=ea;obtain⟨j,ej⟩:=ZN a4;generalize hx2:Dg x1 4=x2;generalize hodd:decide (Cm x2 4=0)=odd;generalize hx3:Dg x2 4=x3;simp -dsimp -implicitDefEqProofs [-Ay,d49,Cn (n:=n+8) g,T1,ez,tk1,ea,ej,hx2,hodd,hx3];refine FN (P:=D1 d zs ks h) ?_ ?_
 ·cases odd with
  |false=>
   simp;exact⟨x3,.str z,.str (Co j),false,rfl,rfl,.s _,.s _⟩
  |true=>
   generalize hx4:Dg x3 2=x4;by_cases c2:Cm x3 2=0
   ·obtain⟨b,b30,eb⟩:=NZ x4 (m:=30) (by decide);have eb:Cm x4 30=(b:Int):=eb;generalize hx5:Dg x4 30=x5;obtain⟨c,c7,ec⟩:=NZ x5 (m:=7) (by decide);have ec:Cm x5 7=(c:Int):=ec;obtain⟨z1,ez1⟩:=UA (zs:=zs) (r:=b) (by rw[K.z30];exact b30);obtain⟨z2,_,ez2⟩:=X2 g np;have ez2:BH ((names d).map MV.str) 0=some (.str z2):=ez2;obtain⟨m,em,vm⟩:=o0 (P:=EK) (Dp Ov) (Dp (Ow (i:=7))) (.s "") (Dp (Hd (b:=false) wz)) (Dp (Hd (b:=true) wz)) (.s z2) (.s z1) c7;have em:BH [.non,.int 7,.str "",.tup [.str z],.lst [.str z],.str z2,.str z1] (c:Int)=some m:=em;simp -implicitDefEqProofs [-Ay,tk1,c2,hx4,K.z30,eb,hx5,ec,ez1,ez2,em];exact⟨_,m,.str (Co j),true,rfl,rfl,vm,.s _⟩
   obtain⟨c,c7,ec⟩:=NZ x4 (m:=7) (by decide);have ec:Cm x4 7=(c:Int):=ec;have wj:AM "joined":=FF 2;have wc:AM "changed":=FF 3;obtain⟨m,em,vm⟩:=o0 (P:=EK) (Dp Ov) (.s "Called") (.s "") (Dp (Ow (i:=3))) (Dp (Hd (b:=false) wj)) (Dp (Hd (b:=true) wc)) (Dp (ZG (b:=true))) c7;have em:BH [.non,.str "Called",.str "",.int 3,.tup [.str "joined"],.lst [.str "changed"],.bl true] (c:Int)=some m:=em;simp -implicitDefEqProofs [-Ay,tk1,c2,hx4,ec,em];exact⟨_,.str z,m,true,rfl,rfl,.s _,vm⟩
 clear hodd hx3 ej ea ez T1 er;rintro μ h' ⟨x,m,jm,odd,rfl,rfl,vm,vj⟩;obtain⟨w,w6,ew⟩:=NZ x (m:=6) (by decide);have ew:Cm x 6=(w:Int):=ew;generalize hx1:Dg x 6=x1;by_cases c3:w<3
 ·have c3':(w:Int)<3:=by lia
  obtain⟨_,_,ef,e,x2,rfl,ge,rfl⟩:=RE (n:=n+12) (h:=h) (x:=x1) K.z30 K.zw K.znd K.kw (by rw[K.k4];decide) (by rw[K.k4];decide);simp -dsimp -implicitDefEqProofs [-Ay,tk1,ew,hx1,c3',ef];refine Qi (P:=D2 d zs ks h m jm odd w e) ?_ ?_
  ·cases odd with
   |false=>
    simp;exact⟨x2,some e,rfl,rfl,.inr rfl⟩
   |true=>
    by_cases c:Cm x2 3=0
    ·simp[tk1,c];exact⟨_,none,rfl,rfl,.inl rfl⟩
    simp[tk1,c];exact⟨_,some e,rfl,rfl,.inr rfl⟩
  rintro μ h' ⟨x,p,rfl,rfl,hp⟩;obtain⟨c,c7,ec⟩:=NZ x (m:=7) (by decide);have ec:Cm x 7=(c:Int):=ec;generalize hx3:Dg x 7=x3;obtain⟨v,ev,hv⟩:=o0 (P:=xN) (a:=.non) (b:=.str "core") (c:=.tup [.str "core",.tup [],.tup []]) (d:=.lst []) (e:=.int 7) (f:=.bl true) (g:=.dic false [] []) ⟨rfl,rfl⟩ ⟨rfl,Bz Tz⟩ ⟨rfl,Bz Wz⟩ ⟨rfl,rfl⟩ ⟨rfl,rfl⟩ ⟨rfl,rfl⟩ ⟨rfl,rfl⟩ c7;rcases hp with rfl|rfl
  ·have dp:Ph (n+15) 40 [.v (AW d),.v m,.v jm,.v .non,.v v] (hnew h (Au x3))=.ok (.v (GP d m jm (.inr v)).due) (hnew h (Au x3)):=@lb (n+1) (hnew h (Au x3)) d m jm (.inr v) g vm vj hv;simp -dsimp -implicitDefEqProofs [-Ay,tk1,ec,hx3,ev,fM,dp];exact⟨.put m jm (.inr v),x3,rfl,⟨vm,vj,hv⟩,trivial,rfl⟩
  have dp:Ph (n+15) 40 [.v (AW d),.v m,.v jm,.v (AW e),.v e.mv] (hnew h (Au x3))=.ok (.v (GP d m jm (.inl e)).due) (hnew h (Au x3)):=@lb (n+1) (hnew h (Au x3)) d m jm (.inl e) g vm vj ge;have pp:=@On n (hnew h (Au x3)) e ge;have ti:AK .isnot (AW e) .non=some true:=rfl;simp -dsimp -implicitDefEqProofs [-Ay,tk1,ec,hx3,ev,fM,pp,ti,dp];exact⟨.put m jm (.inl e),x3,rfl,⟨vm,vj,ge⟩,trivial,rfl⟩
 have c3': ¬(w:Int)<3:=by lia
 by_cases c4:w=3
 ·simp -dsimp -implicitDefEqProofs [-Ay,tk1,ew,hx1,c4,sJ (n:=n+6) g vm];exact⟨.out m,x1,rfl,vm,trivial,rfl⟩
 have c4': ¬(w:Int)=3:=by lia
 by_cases c5:w=4
 ·simp -dsimp -implicitDefEqProofs [-Ay,tk1,ew,hx1,c5,sK (n:=n+6) g vm vj];exact⟨.join m jm,x1,rfl,⟨vm,vj⟩,trivial,rfl⟩
 have c5': ¬(w:Int)=4:=by lia
 obtain⟨q,q3,eq⟩:=NZ x1 (m:=3) (by decide);have eq:Cm x1 3=(q:Int):=eq;generalize hx2:Dg x1 3=x2;have er:=IY (j:=(q:Int)) (by lia) (by lia);rw[bU]at er;have k4:(ks.length:Int)=4:=by rw[K.k4];rfl
 have E:=Jy (k:=1) (js:=[3,0]) (tg:=.nm 0) (fi:=QG T.gt.cs (Ph (n+15)) T.gt.ini (.rng1 (.call 27 (.cons (.var 0) (.cons (.con (.int 3)) .nil))))) (tc:=M6 T.gt.cs (Ph (n+15)) T.gt.ini .nil) (te:=(e2 T.gt.cs (Ph (n+15)) T.gt.ini (.idx (.var 1) (.call 27 (.cons (.var 2) (.cons (.bfn .len (.cons (.var 1) .nil)) .nil))))).1) (μ:=[some (.r (hlen h)),some (.v (AW d)),some (.v (.lst (zs.map MV.str))),some (.v (.lst (ks.map AO))),some (.v (.lst ((names d).map MV.str))),some (.v m),some (.v jm),some (.v (.bl odd)),some (.v (.int w)),none,none,none,none]) (h:=hnew h (Au x1)) (h1:=hnew h (Au x2)) (List.range q) (λi=>MV.int (i:Int)) (λh'=>∃x,h'=hnew h (Au x)) (λv=>∃k∈ks,v=AO k) (λ_ _=>rfl) (by simp -implicitDefEqProofs [tk1,eq,hx2,er]) (by rw[bG];exact AL (by lia)) ⟨x2,rfl⟩ (by
  rintro i _ h' ⟨x,rfl⟩;obtain⟨r,r4,er⟩:=NZ x (m:=4) (by decide);have er:Cm x 4=(r:Int):=er;obtain⟨k,ek⟩:∃k,ks[r]?=some k:=⟨_,aZ (by rw[K.k4];exact r4)⟩;have eix:BH (ks.map AO) (r:Int)=some (AO k):=by rw[Ay (cB _),bU,aM,ek];rfl
  exact⟨_,AO k,hnew h (Au (Dg x 4)),rfl,by simp -implicitDefEqProofs [-Ay,startC,k4,tk1,er,eix],⟨k,aP ek,rfl⟩,⟨_,rfl⟩⟩)
 obtain⟨ms,h',eE,⟨x3,rfl⟩,lm,qm⟩:=E;rw[bG]at lm;simp -dsimp -implicitDefEqProofs [-Ay,tk1,ew,hx1,c3',c4',c5',Az,eE];obtain⟨o,rfl,ok⟩:=Sx qm;rw[aL]at lm;have l2:o.length<=2:=by lia
 have ow:∀k∈o,AM k.1:=λk hk=>K.kw k (ok k hk);have ls:CG (.lst (o.map AO))=some (.int (cntK (o.map Uj):Nat)):=So l2;simp -dsimp -implicitDefEqProofs [-Ay,ls,XM l2];refine FN (P:=D3 d zs ks h m jm odd w) ?_ ?_
 ·have old:D3 d zs ks h m jm odd w [some (.r (hlen h)),some (.v (AW d)),some (.v (.lst (zs.map MV.str))),some (.v (.lst (ks.map AO))),some (.v (.lst ((names d).map MV.str))),some (.v m),some (.v jm),some (.v (.bl odd)),some (.v (.int w)),none,none,some (.v (.lst (o.map AO))),some (.v (.bl (decide o.Nodup)))] (hnew h (Au x3)):=⟨x3,.inl o,rfl,rfl,⟨l2,ow⟩,.inl ⟨_,rfl,SO (by lia)⟩⟩;cases odd with
  |false=>
   simp;exact old
  |true=>
   generalize hx4:Dg x3 2=x4;by_cases c2:Cm x3 2=0
   ·obtain⟨c,c7,ec⟩:=NZ x4 (m:=7) (by decide);have ec:Cm x4 7=(c:Int):=ec;generalize hx5:Dg x4 7=x5;obtain⟨k0,hk0,e0⟩:=xn K.k4;have s3:=wZ K.k4;have ml:Sl [AO k0]=some (.lst [.str k0.1,.int (k0.2.val:Int)]):=rfl;obtain⟨v,ev,hv⟩:=o0 (P:=Ya) V3 (kj (o:=ks.take 3) (by rw[cM,K.k4];rfl) λk hk=>K.kw k (eW hk)) ZK (V5 (K.kw k0 hk0)) (Ki (m:=.non) (λn h=>FB rfl) rfl ⟨by decide,rfl,rfl⟩) (V4 (K.kw k0 hk0)) V6 c7;rw[iF]at ev;simp -implicitDefEqProofs [-Ay,tk1,c2,hx4,ec,hx5,e0,s3,ml,ev];exact⟨x5,.inr v,rfl,rfl,hv.1,hv.2⟩
   simp -implicitDefEqProofs [-Ay,tk1,c2,hx4];obtain⟨x',ov,e1,e2,e3,e4⟩:=old;exact⟨x4,ov,e1,rfl,e3,e4⟩
 rintro μ h' ⟨x,ov,rfl,rfl,ho,hw⟩;simp -dsimp -implicitDefEqProofs [sL (n:=n+6) g vm (ov:=ov) (gb:=vW ov) (by cases ov<;>rfl)];exact⟨.offers m ov,x,rfl,⟨vm,ho⟩,hw,rfl⟩
end BK71
namespace BK71
open PySem B L2
variable {n:Nat}
section
def Hq:GT cs Φ ini .nil μ h=some (.nx μ,h):=rfl
def QK{s:MS}{r:XW}:GT cs Φ ini (.o s r) μ h=seqK (x:=ex cs Φ ini s μ h) (GT cs Φ ini r):=rfl
def Yh:GT cs Φ ini (.ite c a b r) μ h=seqK (x:=BI μ (x:=(e2 cs Φ ini c).2 μ h) λk h1=>K7 (k:=k) (GT cs Φ ini a μ h1) (GT cs Φ ini b μ h1)) (GT cs Φ ini r):=rfl
def im:GT cs Φ ini (.sp o e r) μ h=seqK (x:=BI μ (x:=(e2 cs Φ ini o).1 μ h) λx h1=>BI μ (x:=(e2 cs Φ ini e).1 μ h1) λy _=>grow μ x y) (GT cs Φ ini r):=rfl
def Yi:GT cs Φ ini (.for_ t e b r) μ h=seqK (x:=BI μ (x:=(e2 cs Φ ini e).1 μ h) λx h1=>Te t (GT cs Φ ini b) μ h1 x) (GT cs Φ ini r):=rfl
end
theorem Jh(step:∀(i:Int) (μ:En) (h:MH),P μ h->∃μ1,AR t (.int i) μ=some μ1/\WR (b μ1 h) P):∀(l:List Int) (μ:En) (h:MH),P μ h->WR (Eb t b (l.map MV.int) μ h) P
 |[],μ,h,p=>⟨μ,h,rfl,p⟩
 |i::l,μ,h,p=>by
  obtain⟨μ1,e1,μ2,h2,e2,p2⟩:=step i μ h p;obtain⟨μ3,h3,e3,p3⟩:=Jh step l μ2 h2 p2;refine⟨μ3,h3,?_,p3⟩;rw[aX];unfold Eb;rw[e1];show(match b μ1 h with|some (.nx μ2,h2)=>Eb t b (l.map MV.int) μ2 h2|some (.rt x,h2)=>some (.rt x,h2)|_=>none)=_;rw[e2];exact e3
theorem Jn(l:List MV):∀zs:List Str,AF l (zs.map MV.str)=true
 |[]=>rfl
 |z::zs=>by
  show(B3 l (.str z)&&AF l (zs.map MV.str))=true;rw[Jn l zs];rfl
theorem HP(l:List MV):∀f:Fo,AF l (Ga f)=true
 |.nil=>rfl
 |.cons j n o ks r=>by
  show((true&&((true&&(AF l (o.map AO)&&(AF l (Ga ks)&&true)))&&true))&&AF l (Ga r))=true;rw[C4,HP l ks,HP l r];rfl
def VO(l:List MV)(d:Nd):B3 l (AW d)=true:=by
 show(true&&(AF l (d.o.map AO)&&(AF l (Ga d.ks)&&true)))=true;rw[C4,HP];rfl
theorem HQ(l:List MV):∀f:Fo,AF l f.mv=true
 |.nil=>rfl
 |.cons j n o ks r=>by
  show((true&&((true&&(AF l (o.map AO)&&(AF l ks.mv&&true)))&&true))&&AF l r.mv)=true;rw[C4,HQ l ks,HQ l r];rfl
def VP(l:List MV)(d:Nd):B3 l d.mv=true:=by
 show(true&&(AF l (d.o.map AO)&&(AF l d.ks.mv&&true)))=true;rw[C4,HQ];rfl
def LP(zs:List Str)(ks:List Ky)(μ:En)(_:MH):Prop:=E6 λ(d:Nd) (x0 x5 x6 x7 x8:Option R)=>A3 (μ=[x0,some (.v (.lst (zs.map MV.str))),some (.v (.lst (ks.map AO))),some (.v (AW d)),some (.v d.mv),x5,x6,x7,x8]) (Gd d) True
def u1:¬(Str.ofString "put"=Str.ofString "offers"):=by decide +kernel
def u2:¬(Str.ofString "out"=Str.ofString "offers"):=by decide +kernel
def u3:¬(Str.ofString "join"=Str.ofString "offers"):=by decide +kernel
def kg{D:Dd}(g:Gd d)(hD:D.Ok):Gd ((D.oc d).nx d):=by
 cases e:D.oc d with
 |bad t v=>exact g
 |ok e'=>exact Xx g hD e
def Wh(g:Gw l)(μ:En):grow μ (.v (.lst l)) (.v (.tup [.str "zz",.int 1]))=some (.nx (N7 l μ),[]):=by
 have hm:(O0 .app l [.tup [.str "zz",.int 1]]).isSome=true:=by
  show(if l.length<big then some _ else none).isSome=true;rw[if_pos (fG g.1 (by decide))];rfl
 have hk:B3 l (.tup [.str "zz",.int 1])=true:=rfl;show(if (!SL l&&AF l l&&B3 l _&&_)=true then _ else _)=_;rw[if_pos (by rw[g.2.1,g.2.2,hk,hm];rfl)]
def Wy(x0 x5 x6 x7 x8:Option R)(k1:B3 l A=true)(k2:B3 l B=true)(k3:B3 l C=true)(k4:B3 l E=true):∃y0 y5 y6 y7 y8,N7 l [x0,some (.v A),some (.v B),some (.v C),some (.v E),x5,x6,x7,x8]=[y0,some (.v A),some (.v B),some (.v C),some (.v E),y5,y6,y7,y8]:=by
 have c:∀m,B3 l m=true->(some (R.v m)).bind (LW l)=some (.v m):=λm h=>if_pos h;refine⟨x0.bind (LW l),x5.bind (LW l),x6.bind (LW l),x7.bind (LW l),x8.bind (LW l),?_⟩;unfold N7;simp only[List.map_cons,List.map_nil,c _ k1,c _ k2,c _ k3,c _ k4]
def Ss{zs:List Str}{ks:List Ky}(K:tO zs ks)(hb:b=match dL.body with
 |.o _ (.o _ (.o _ (.o _ (.for_ _ _ b _))))=>b
 |_=>.nil) (i:Int) (μ:En) (h:MH) (p:LP zs ks μ h):∃μ1,AR (.nm 5) (.int i) μ=some μ1/\WR (GT T.gt.cs (Ph (n+20)) T.gt.ini b μ1 h) (LP zs ks):=by
 obtain⟨d,x0,x5,x6,x7,x8,rfl,g,_⟩:=p;refine⟨_,rfl,?_⟩;subst hb;obtain⟨_,_,ed,D,x,rfl,hD,hL,rfl⟩:=Vm (n:=n+4) (h:=h) (x:=Uk i) g K;have eg:=@Vh (n+1) (hnew h (Au x)) d D g hD;have gd':=kg g hD;generalize (D.oc d).nx d=d' at eg gd';simp -dsimp -implicitDefEqProofs [dL,QK,Yh,Kc,ed,eg];cases D with
 |put m jm p=>
  have i0:GC (Dd.put m jm p).mv (.int 0)=some (.str "put"):=rfl;simp -dsimp -implicitDefEqProofs [i0,u1,Hq];exact⟨d',_,_,_,_,_,rfl,gd',trivial⟩
 |out m=>
  have i0:GC (Dd.out m).mv (.int 0)=some (.str "out"):=rfl;simp -dsimp -implicitDefEqProofs [i0,u2,Hq];exact⟨d',_,_,_,_,_,rfl,gd',trivial⟩
 |join m jm=>
  have i0:GC (Dd.join m jm).mv (.int 0)=some (.str "join"):=rfl;simp -dsimp -implicitDefEqProofs [i0,u3,Hq];exact⟨d',_,_,_,_,_,rfl,gd',trivial⟩
 |offers m ov=>
  have i0:GC (Dd.offers m ov).mv (.int 0)=some (.str "offers"):=rfl;have i2:GC (Dd.offers m ov).mv (.int 2)=some (Oq ov):=rfl;rcases(show oB (Oq ov) from hL) with⟨l,el,gw⟩|ni
  ·rw[el]at i2;have il:Iy T.gt.cs [.lst l,.ty .lst]=some (.bl true):=rfl;have k1:B3 l (.lst (zs.map MV.str))=true:=by
    show(decide ((zs.map MV.str).length≠l.length)&&AF l (zs.map MV.str))=true;rw[Jn,aL,K.z30,bQ (by have:=gw.1;lia)];rfl
   have k2:B3 l (.lst (ks.map AO))=true:=by
    show(decide ((ks.map AO).length≠l.length)&&AF l (ks.map AO))=true;rw[C4,aL,K.k4,bQ (by have:=gw.1;lia)];rfl
   have k3:=VO l d';have k4:=VP l d';have et:=@JX (n+14) [] d' gd';have er:=Bz (Rn gd');obtain⟨y0,y5,y6,y7,y8,ce⟩:=Wy x0 (some (.v (.int i))) (some (.v (Dd.offers m ov).mv)) (some (.v (Dd.oc d (Dd.offers m ov)).due)) (some (.v (.lst [d'.mv,AW d']))) k1 k2 k3 k4;simp -dsimp -implicitDefEqProofs [i0,i2,il,im,QK,Hq,Wh gw,ce,et,er];exact⟨d',_,_,_,_,_,rfl,gd',trivial⟩
  simp -dsimp -implicitDefEqProofs [i0,i2,ni,Hq];exact⟨d',_,_,_,_,_,rfl,gd',trivial⟩
def VM(hz:zs.length=30)(hw:∀z∈zs,AM z)(nd:zs.Nodup):∃ks:List Ky,tO zs ks/\∀i:Nat,i<4->∃z k,zs[i]?=some z/\ks[i]?=some k/\AO k=.tup [.str z,.int (7*(i:Int))]:=by
 rcases zs with _|⟨z0,_|⟨z1,_|⟨z2,_|⟨z3,r⟩⟩⟩⟩
 ·cases hz
 ·cases hz
 ·cases hz
 ·cases hz
 refine⟨[(z0,0),(z1,7),(z2,14),(z3,21)],⟨hz,hw,nd,rfl,λk hk=>?_⟩,λi hi=>?_⟩
 ·simp at hk;rcases hk with rfl|rfl|rfl|rfl<;>exact hw _ (by simp)
 have:i=0\/i=1\/i=2\/i=3:=by lia
 rcases this with rfl|rfl|rfl|rfl
 ·exact⟨z0,(z0,0),rfl,rfl,rfl⟩
 ·exact⟨z1,(z1,7),rfl,rfl,rfl⟩
 ·exact⟨z2,(z2,14),rfl,rfl,rfl⟩
 exact⟨z3,(z3,21),rfl,rfl,rfl⟩
def SK(h:js≠[]):(SL (js.map MV.int)&&(js.map MV.int).all SD)=true:=by
 have a:(js.map MV.int).all SD=true:=by rw[i8,bD];exact λ_ _=>rfl
 rw[a];cases js with
 |nil=>exact absurd rfl h
 |cons a l=>rfl
def Tx(l:List Int)(lo hi:Option Int):∃js:List Int,Qs (l.map MV.int) lo hi=js.map MV.int/\js.length<=l.length:=by
 unfold Qs;rw[aL,←List.map_drop,←iF];exact⟨_,rfl,by rw[cM,hJ];lia⟩
def Sy{ks:List Ky}(h:ks.length=4):((List.range 4).map λi=>(ks[i]?.map AO).getD .non)=ks.map AO:=by
 rcases ks with _|⟨k0,_|⟨k1,_|⟨k2,_|⟨k3,_|⟨k5,r⟩⟩⟩⟩⟩<;>first|rfl|(simp at h)
def VF:WQ T (n+20) dL:=by
 intro l hl;obtain⟨c0,e0⟩:=@Kb (n+19) l 0 [] (by decide);obtain⟨c1,e1⟩:=@Kb (n+19) l 1 [] (by decide);obtain⟨c2,e2⟩:=@Kb (n+19) l 2 [] (by decide);obtain⟨_,ew,zs,rfl,zl,zw,znd⟩:=@Lq (n+17) [] c0 30 (by decide);obtain⟨_,ew2,zt,rfl,tl,tw,tnd⟩:=@Lq (n+17) [] c2 30 (by decide);obtain⟨ks,K,kk⟩:=VM zl zw znd;obtain⟨_,et,rs,rfl,ro⟩:=@Vd (n+16) [] c1 zt ks tl tw tnd K.kw (by rw[K.k4];decide);have en:=@Vc (n+14) [] ks rs ro;have gw:=Ux ro;have ep:=@On (n+5) [] (Ir rs) gw;have ew:Ph (n+20) 28 [.v (.int c0),.v (.int 30)] []=.ok (.v (.lst (zs.map MV.str))) []:=ew;have ew2:Ph (n+20) 28 [.v (.int c2),.v (.int 30)] []=.ok (.v (.lst (zt.map MV.str))) []:=ew2;show ∃h,GT T.gt.cs (Ph (n+20)) T.gt.ini dL.body (B4 9 [.v (.scr (l.map .int))]) []=some (.rt (.v (.bl true)),h);simp -dsimp -implicitDefEqProofs [dL,B4,QK,e0,ew,Az];have er:=IY (j:=4) (by decide) (by decide);have er:Gg [.v (.int 4)]=some ⟨(List.range 4).map λ(i:Nat)=>MV.int (i:Int),none⟩:=er;rw[Ax (h1:=[]) (List.range 4) (λ(i:Nat)=>MV.int (i:Int)) (λi=>(ks[i]?.map AO).getD .non) ?_ ?_ ?_ ?_]
 ·rw[Sy K.k4];obtain⟨js,ej,jl⟩:=Tx l (some 3) (some 43);have hb:js.length+3<=big:=AL (by lia);have es:Ix (.scr (l.map MV.int)) (some 3) (some 43)=some (.lst (js.map MV.int)):=bW (λx=>some (MV.lst x)) ej;have hj:js.map MV.int++ [.int 1,.int 2,.int 3]=(js++ [1,2,3]).map MV.int:=by rw[bT];rfl
  have hd:=SK (js:=js++ [1,2,3]) (by simp);obtain⟨μ2,h2,eL,_⟩:=Jh (P:=LP zs ks) (Ss (n:=n) K rfl) (js++ [1,2,3]) [some (.v (.scr (l.map MV.int))),some (.v (.lst (zs.map MV.str))),some (.v (.lst (ks.map AO))),some (.v (AW (Ir rs))),some (.v (Ir rs).mv),none,none,none,none] [] ⟨Ir rs,_,_,_,_,_,rfl,gw,trivial⟩;have eF:∀b,Te (.nm 5) b [some (.v (.scr (l.map MV.int))),some (.v (.lst (zs.map MV.str))),some (.v (.lst (ks.map AO))),some (.v (AW (Ir rs))),some (.v (Ir rs).mv),none,none,none,none] [] (.v (.lst ((js++ [1,2,3]).map MV.int)))=Eb (.nm 5) b ((js++ [1,2,3]).map MV.int) [some (.v (.scr (l.map MV.int))),some (.v (.lst (zs.map MV.str))),some (.v (.lst (ks.map AO))),some (.v (AW (Ir rs))),some (.v (Ir rs).mv),none,none,none,none] []:=λb=>if_pos hd;simp -dsimp -implicitDefEqProofs [QK,Yi,e1,e2,ew2,et,en,ep,es,hb];rw[hj,eF];exact⟨h2,(bW (λs=>seqK (x:=s) (GT T.gt.cs (Ph (n+20)) T.gt.ini (.o (.ret (.con (.bl true))) .nil))) eL).trans (by simp[QK])⟩
 ·exact λ_ _=>rfl
 ·simp -dsimp -implicitDefEqProofs [er]
 ·rw[bG];exact AL (by decide)
 intro i hi;obtain⟨z,k,ez,ek,em⟩:=kk i (gE.mp hi);refine⟨_,rfl,?_⟩;have eix:BH (zs.map MV.str) (i:Int)=some (.str z):=by rw[Ay (cB _),bU,aM,ez];rfl
 simp -dsimp -implicitDefEqProofs [-Ay,startC,eix,ek];exact em.symm
def kD:WQ T 60 dL:=VF (n:=40)
end BK71
open PySem PySem.W PyProof.Rows
def BK71.nmsOk:B.Dq BK71.T.names=true:=by decide +kernel
set_option maxRecDepth 100000 in
set_option maxHeartbeats 0 in
theorem PySem.Challenge.cw_grantweave_k71_works_changed_holds : PySem.Challenge.rw_grantweave_k71_works_changed.Holds := by
 refine hd0 ?_
 k_fill
 refine B.Nj (l:=PySem.Challenge.rw_grantweave_k71_works_changed) (T:=BK71.T) (n:=60) (dd:=BK71.dL) rfl rfl ⟨rfl,by decide,by decide,rfl⟩ rfl BK71.nmsOk BK71.kD ?c
 case c=>intro w;kernel_rfl
