import PyProof.Rows.All
import Wide.All
import OpenK.AllK
import Wide.FinOn
import Lean
import PyProof.EqAt
import PyProof.EqKinds
import PyProof.TupleCall
import KE.KUnpack
import KE.KDictList
import KE.KIntText
import PyProof.ListMulAny
import PySem.Challenge.RW_grantweave_k74_whole_no_cheaper_joins
set_option Elab.async false
set_option linter.all false
set_option maxRecDepth 100000
set_option maxHeartbeats 4000000
set_option genSizeOf false
set_option genSizeOfSpec false
set_option bootstrap.genMatcherCode false
noncomputable section
structure PySem.W.Fast:Prop where(tw8713391626954910196 tw5739626195717705503 tw17943539121397235605 tw1741008998194515317 tw11152904326638669062 tw9632768900659266674 tw8373841501953856559 tw11888106850861212359 tw9062626581281027544 tw5966662362791651702 tw13015930234583396880 tw14187898137023643958 tw10447584918468665613 tw11720747197232559031 tw3185869582913953756 tw5601318159658986914 tw6000143607273555613 tw1838554164537151758 tw2980102011443084775 tw11278232337425182244 tw4156229352451930801 tw3706766010669580864 tw10874152194818568369 tw18147290367397153700 tw4160957199739030807 tw3022942901381618087 tw583441472157006708 tw1615924076184471826 tw17716479149052736867 tw223020342826236049 tw6660527470281727643 tw11789697341147095577 tw612364937127765401 tw13227071901600454546 tw4627479041423823756 tw11685586951587979684 tw8842242086546733728 tw13829371927093448525 tw7661124664660169420 tw10802629729105433449 tw3971922012156972942 tw10905238211048731444 tw9941514136459744991 tw17610578847793078828 tw5285489757395819198 tw15847574923925153089 tw6782027523742734422 tw17110719038900629267 tw18047528565089203365 tw922356606382211884 tw2596370662799040632 tw786981063576094907 tw7066129872393930067 tw4355841735040852268 tw16087079744826446203 tw8592140548554452514 tw14136860554356401830 tw14771839376859659486 tw9663977129751944881 tw11497177345837116578 tw5618007612968031544 tw17911588533863307035 tw5832508776450558024 tw11313497078713138715 tw2291257543682829636 tw17341609239623309946 tw9627704582884565749 tw4252169977663045275 tw3665698009234882608 tw4919487781080671454 tw11478883564062233487 tw16672519148670177033 tw7083617831582818116 tw18348148905037474353 tw9226113943594020292 tw13770350052716156465 tw15011582384126524888 tw1462773967573850350 tw13340011451143569753 tw10652496796405458254 tw16262802588840349581 tw7622391822913223209 tw2378045464174701961 tw18442005722014013261 tw12630618276668691674 tw5393121475550395192 tw18289850141423370613 tw8123009524439874510 tw1451614263686850137 tw15682508066019177742 tw12910823041287482034 tw11703946849553116357 tw8967013638586201274 tw7983620794534622403 tw13808184102158416448 tw1342577900305064113 tw15288882583462928092 tw4113567222576991741 tw17702854457708051502 tw9002683001515729680 tw3683819778173411957 tw13182568513132437690 tw6093120063684393236 tw1988565449240598284 tw10040951426872325416 tw9541152122027192069 tw6659847984067443807 tw15941785227920563837 tw12445721352917372772 tw15370762234350111362 tw17743666198821462279 tw16484855943846165014 tw10765122167621817080 tw3309028759679855867 tw18434323867194247958 tw4500104203083522813 tw15114018677019012404 tw1266495954447298505 tw2893322494920206072 tw12235533993145805961 tw12611135040708952054 tw13390131902254932412 tw3919839056308000216 tw5858404109133392029 tw6937166414653151144 tw15951587353055099671 tw6319598949848492239 tw4565245147385949819 tw14837628016822825753 tw16498307103065250416 tw7681074531902006888 tw5557774036968139327 tw10377187305671455353 tw13526074003162589632 tw4553848547887523515 tw7731925817298852060 tw6960520123380472680 tw3928013674194937137 tw8233058890657895294 tw10549742295207223959 tw1557555430674731103 tw4647623404472975188 tw5092849674616109244 tw18205422105777002901 tw14741787657295955608 tw14506245989658159522 tw10065633888325628455 tw1461606459873707642 tw10729035008275326106 tw14776143499219233427 tw3820725870930663851 tw8965119239995778102 tw16736198716411492630 tw9684613880169552369 tw9288749412287943955 tw17627951496864959334 tw2739641914956681223 tw15483942607019092153 tw3823336700741641083 tw5090906845307090850 tw11103917330301078240 tw525043111100208383 tw8557981256398128993 tw14819124143049702828 tw17583567635852867532 tw14174737360723864765 tw279756079445169927 tw12314993180385819963 tw1573441545583679899 tw437661370216980775 tw11021169983654749051 tw15474705517306154867 tw2043101222905532461 tw9404292081097708020 tw6271873781601991347 tw10503728366213045885 tw1125140694956492694 tw16874033677673482309 tw14888860021595713463 tw11897046944678048202 tw2604936045706303005 tw2190832414121937539 tw12502355842325164450 tw9170075628871775799 tw9406635394391927232 tw5235608690290759885 tw18189842565713261319 tw4451384287079430086 tw12903940807105917389 tw529416409370851517 tw688006588494323361 tw1948197898556492070 tw17487739768683733821 tw17151037125806839856 tw10571235019072029084 tw11077991197046630249 tw16089669840786573830 tw16735207192385351986 tw13029152242137601216 tw481174257805700657 tw5550559050673118243 tw9894871355127767000 tw8390365169070013089 tw1021774980023125637 tw3693407079027869518 tw8281025707836109601 tw7124507291106526476 tw9809629764694669526 tw6611835043472482458 tw6102981337759272168 tw13803012241071880223 tw4939655657603935566 tw18135851562423759829 tw9798050290976068673 tw3178436352653242033 tw14713083839286143728 tw12491400504398673448 tw6430922681618987972 tw15937535865716121717 tw9198302849802859919 tw13762491604058318343 tw11920673560134645242 tw9012717294462107005 tw2367872384476968423 tw9799457917807359876 tw11782776748754089095 tw9299788381185204813 tw14290465916260629301 tw8269677506359389440 tw16148210160322977759 tw11875304605324641872 tw15985242143473771015 tw9511261954397832277 tw2772816236992877233 tw3638571844257643750 tw6293758997067048205 tw18387724738006340493 tw18341004164740765743 tw15051894152318310387 tw17096106123627592290 tw2870207336671384484 tw14440634473794107928 tw12823950077141808297 tw5887059895268985953 tw3458618498136365133 tw14616162184963371867 tw12485393357395886658 tw9313595285701053689 tw7030313678882343654 tw2023916208428390280 tw14465727883641304398 tw16434258152867461593 tw16173667232367862019 tw8774214256074353822 tw7731469123794708647 tw12539179351802836353 tw16680480526136574221 tw9601638326077403063 tw14112772788829515430 tw12756293432383376812 tw3637240009561124700 tw6512787577383174679 tw14361703286746045598 tw17257147668252867542 tw4345652294919634407 tw450411518577382025 tw13263420615532048299 tw10463970591603187280 tw11664561743152778505 tw7729739692920381179 tw6427373628081528702 tw5678022553510330429 tw2572302131725344653 tw5536787799423034994 tw17531355168374878482 tw15266491690268181276 tw7509320478077954657 tw6400635766763508442 tw7684332388219822010 tw15561769718294875778 tw6661505059133371089 tw9755173014044884734 tw2458910493576664945 tw8283540436020619884 tw17332715489118503753 tw11770177331112724734 tw1468785509245089711 tw8027737248880907557 tw13562714135736250411 tw14830724147674655844 tw11280593580518890410 tw6566734681043465170 tw12422506848607574023 tw11647126455462417451 tw16536529492266528920 tw2289381408116437216 tw5660700524569972974 tw12954027266922453088 tw3040940663985110811 tw13315402402708665707 tw8896862986489238558 tw17629577066193410757 tw14486194724501113956 tw3086206804084465020 tw11328180896872839085 tw8602794280528207429 tw18082659822167176520 tw5737496762297978276 tw15856195192439957996 tw3207272415174655996 tw14461211489705317773 tw9464755943480301143 tw3786236138131242402 tw5807075291139566660 tw7125021623089763848 tw1929658591477328998 tw16536642500421359987 tw13621970613899877545 tw1882587148114910379 tw11153163099397063134 tw3426249590852084426 tw2263009754861099705 tw13063302518415051750 tw13833252730031642003 tw9610201010827043206 tw15061627169465771340 tw6381541318834389934 tw2908690865751000504 tw2548453333201703877 tw15696251725726037720 tw6444296416987773283 tw4674114421177698212 tw17354538005390919192 tw10316976218296715033 tw7285157935554081139 tw3795368378456084732 tw13131514283793742321 tw8187879454963655453 tw3619331353280565477 tw13882687575447164251 tw3426999359924844251 tw2255070818350208855 tw4256623550532429169 tw625746862538479663 tw10149331235060491170 tw3237827166108125441 tw5620920712397249883 tw13918670052879819114 tw5375191211671061517 tw5749822713490787765 tw6254166863204599963 tw16202941453437235700 tw7902447315231182204 tw15867269574064221447 tw4325537210522460536 tw15315119576128733319 tw1372595785810771740 tw4237017065301290142 tw11717039292368873154 tw12077927442347662574 tw15859842965220729274 tw355636719722348121 tw13595538524115326196 tw13090289589560920019 tw5260384126333234435 tw9612758840393480750 tw3381003888376236074 tw8824343456703725745 tw5993661990713086819 tw16472995892076702979 tw3283450278778863646 tw387178324511202585 tw6778423287299897521 tw11979894598924081327 tw2380204722700424274 tw14590464450496979763 tw11417419658469995487 tw10786905327605979064 tw4068335703659632365 tw10422659497721706812 tw882960669265878283 tw6154210407968059102 tw16286800957036807893 tw1759240881999828800 tw221225121100887316 tw10946563236898305687 tw11594570558899561770 tw1566846036064835940 tw10496483481207876225 tw11714466601099926836 tw3667431572505972422 tw12537989451670833535 tw17053281323326740192 tw2877540980872744967 tw16065998035683307131 tw15860415500351814310 tw17455093858502064949 tw15892251876861865190 tw16205532305656561679 tw15917118341248380725 tw15542368947824259742:True)
section
open PySem PySem.W PyProof.Rows
set_option maxHeartbeats 0 in
open_top hd0 for PySem.Challenge.rw_grantweave_k74_whole_no_cheaper_joins
end
abbrev Fq:=PySem.W.Frag
open PySem in
abbrev Pq:=List (Addr×Obj)
open PySem in
abbrev Vq:=Value->Shared->Prop
open PySem in
abbrev Mq:=Str->Option Value
open PySem in
abbrev Cq:=List (Str×Addr)
def a8:=@PySem.wpAny_bind
def a9:=@List.getElem?_eq_some_iff
def aA:=@Option.bind_eq_some_iff
def aB:=@Bool.false_ne_true
def aC:=@List.mem_cons_of_mem
def aD:=@PySem.Heap.get?_push_of_some
def aE:=@Option.map_eq_some_iff
def aF:=@List.map_cons
def aG:=@List.mem_cons_self
def aH:=@Nat.le_refl
def aI:=@List.length_map
def aJ:=@List.getElem?_map
def aK:=@PySem.Heap.get?_push_size
def aL:=@List.getElem?_append_left
def aM:=@List.length_append
def aN:=@PySem.Heap.lt_size
def aO:=@PySem.wpAny_pure
def aP:=@beq_iff_eq
def aQ:=@List.mem_of_getElem?
def aR:=@List.mem_cons
def aS:=@List.getElem?_append_right
def aU:=@List.getElem?_eq_getElem
def aV:=@Nat.le_trans
def aW:=@Nat.lt_of_lt_of_le
def aX:=@Nat.ne_of_lt
def aY:=@List.mem_singleton
def aZ:=@List.size_toArray
def b9:=@List.length_range
def bA:=@List.mem_map
def bB:=@of_decide_eq_true
def bC:=@List.length_take
def bD:=@List.mem_append_right
def bE:=@Option.some.inj
def bF:=@List.zip_cons_cons
def bG:=@beq_eq_false_iff_ne
def bH:=@List.lookup_cons
def bI:=@List.all_eq_true
def bJ:=@List.take_length
def bL:=@decide_eq_false
def bM:=@List.map_append
def bN:=@Ne.symm
def bO:=@List.pairwise_iff_getElem
def bP:=@List.mem_append
def bQ:=@congrArg
def bR:=@List.flatten_cons
def bS:=@List.mem_filter
def bT:=@List.nodup_cons
def bU:=@Option.isSome_iff_exists
def bV:=@List.length_cons
def bW:=@Int.natCast_nonneg
def bX:=@Int.emod_lt_of_pos
def bY:=@List.mem_map_of_mem
def bZ:=@PyProof.Rows.callWith_type1
def c7:=@List.getElem?_set_ne
def c8:=@PySem.wpAny_Call_Name_kw
def c9:=@List.mem_of_mem_take
def cA:=@List.prefix_refl
def cB:=@List.replicate_succ
def cC:=@PySem.wpAny_mono
def cD:=@PySem.wpAny_seqItems
def cE:=@List.length_filter_le
def cF:=@Int.emod_nonneg
def cG:=@List.getElem?_replicate
def cH:=@List.length_eq_zero_iff
def cI:=@Nat.zero_add
def cJ:=@List.map_map
def cK:=@PySem.Heap.size_push
def cL:=@decide_eq_true
def cM:=@PySem.wpAny_truthy_bool
def cN:=@List.take_sublist
def cO:=@Bool.eq_iff_iff
def cP:=@List.getElem?_eq_none
def cQ:=@List.getElem_range
def cR:=@Nat.lt_irrefl
def cS:=@Nat.zero_le
def cT:=@List.any_cons
def cU:=@PySem.wpAny_field
def cV:=@List.mem_iff_getElem
def cW:=@List.map_congr_left
def cX:=@Nat.le_succ
def cY:=@List.mem_flatten
def cZ:=@List.length_replicate
def dA:=@List.mem_append_left
def dB:=@List.of_mem_zip
def dC:=@List.nil_append
def dD:=@List.append_nil
def dE:=@List.append_assoc
def dF:=@List.ext_getElem?
def dG:=@PySem.wpAny_callSpecial?_slot
def dH:=@List.mem_range
def dI:=@PySem.sizeLine_eq
def dJ:=@PySem.wpAny_setField_rec
def dL:=@PyProof.Rows.F.plain_set_update_loop
def dO:=@List.getElem?_take
def dP:=@PySem.wpAny_passesOwn
def dQ:=@List.length_singleton
def dR:=@Bool.or_eq_true
def dS:=@List.mem_iff_getElem?
def dU:=@PySem.wpAny_holding
def dW:=@List.getD_eq_getElem?_getD
def dX:=@PySem.F.slot_tuple_iterator_next
def dY:=@PySem.wpAny_setState_of
def dZ:=@List.forall_mem_cons
def eA:=@Option.isNone_iff_eq_none
def eC:=@Nat.lt_succ_self
def eD:=@PySem.codeAny_mono
def eE:=@List.length_drop
def eF:=@List.any_eq_true
def eG:=@List.isEmpty_iff
def eI:=@PySem.wpAny_getItem_str_slice
def eK:=@decide_eq_false_iff_not
def eL:=@List.take_of_length_le
def eM:=@PySem.Calls.callWith_builtin
def eN:=@Nat.lt_succ_of_lt
def eO:=@List.getElem?_set
def eP:=@Nat.le_of_lt
def eQ:=@Bool.and_eq_true
def eR:=@PySem.wpAny_call_entry
def eT:=@List.mem_of_mem_drop
def eU:=@List.map_take
def eV:=@List.sum_cons
def eW:=@List.filterMap_cons
def eX:=@Array.length_toList
def eY:=@List.forIn_cons
def eZ:=@List.sublist_append_right
def f7:=@Nat.ne_of_gt
def f8:=@Nat.add_comm
def f9:=@PySem.tupleKind_room_in1
def fA:=@decide_eq_true_iff
def fB:=@Nat.sub_self
def fD:=@PyProof.Rows.F.entry_set_update_loop
def fE:=@List.filter_cons_of_neg
def fF:=@List.filter_cons_of_pos
def fG:=@List.nodup_append
def fH:=@Int.toNat_natCast
def fI:=@PySem.Heap.get?_update_other
def fJ:=@List.getElem_map
def fK:=@List.take_succ_eq_append_getElem
def fL:=@List.isEmpty_map
def fN:=@PySem.Heap.get?_update_self
def fO:=@List.take_append_drop
def fP:=@PySem.wpAny_call
def fQ:=@PyProof.Rows.callWith_builtin1
def fR:=@PySem.post_val_or_str
def fS:=@PySem.wpAny_updateSeq_pair
def fT:=@PySem.F.slot_zip_next
def fU:=@Nat.pow_succ
def fV:=@Nat.pow_le_pow_right
def fW:=@PySem.Calls.evalArgs_plain
def fX:=@List.eq_nil_iff_forall_not_mem
def fY:=@List.getElem?_range
def fZ:=@List.map_eq_flatMap
def g6:=@List.nodup_nil
def g9:=@PySem.F.args_tuple_iterator_next_1
def gA:=@Eq.trans
def gB:=@PySem.Calls.spliced_cons
def gC:=@PySem.F.entry_tuple_iterator_next
def gD:=@PySem.wpAny_pyIter_tuple
def gE:=@PySem.hashByValue.eq_def
def gF:=@Nat.lt_of_le_of_lt
def gG:=@PySem.Calls.Name_function_global
def gH:=@Int.fdiv_eq_ediv_of_nonneg
def gJ:=@List.all_cons
def gK:=@PySem.wpAny_onRaise
def gL:=@Option.ne_none_iff_exists'
def gM:=@forall_congr'
def gN:=@PySem.Calls.spliced_nil
def gO:=@PySem.wpAny_newObj_type
def gP:=@PySem.wpAny_pyIter_list
def gQ:=@Option.isSome_map
def gR:=@List.drop_sublist
def gT:=@List.Sublist.refl
def gU:=@List.flatMap_cons
def gV:=@List.getElem_take
def gW:=@PySem.call_meets
def gX:=@List.getElem?_zip_eq_some
def gY:=@List.forall_mem_singleton
def gZ:=@List.drop_eq_getElem_cons
def hG:=@List.mem_of_find?_eq_some
def hU:=@Nat.le_of_eq
def hV:=@List.map_nil
def hW:=@Nat.mul_comm
def hX:=@Nat.le_of_not_lt
def hZ:=@List.getElem_mem
def i4:=@PySem.Txt.slice_le
def i5:=@Nat.le_add_right
def i6:=@Option.bind_some
def i7:=@PySem.wpAny_execs_nil
def i8:=@List.foldl_cons
def i9:=@PySem.codeAny_builtin
def iA:=@List.length_zip
def iB:=@Nat.min_eq_left
def iC:=@List.sum_append
def iD:=@List.getElem?_set_self
def iE:=@List.filter_eq_nil_iff
def iF:=@Nat.div_div_eq_div_mul
def iG:=@List.getElem?_toArray
def iH:=@Array.getElem?_toList
def iI:=@List.drop_zero
def iJ:=@Array.mem_toList_iff
def iK:=@Nat.eq_of_testBit_eq
def iL:=@List.getElem?_of_mem
def iM:=@List.drop_nil
def iN:=@List.map_drop
def iO:=@Nat.min_self
def iP:=@Int.zero_add
namespace L2
open PySem PySem.Spec PyProof.Rows
inductive E2{α β:Type}(P:α->β->Prop):Prop|mk (a b) (h:P a b)
inductive E3{α β γ:Type}(P:α->β->γ->Prop):Prop|mk (a b c) (h:P a b c)
inductive E4{α β γ δ:Type}(P:α->β->γ->δ->Prop):Prop|mk (a b c d) (h:P a b c d)
inductive E5{α β γ δ ε:Type}(P:α->β->γ->δ->ε->Prop):Prop|mk (a b c d e) (h:P a b c d e)
inductive E6{α β γ δ ε ζ:Type}(P:α->β->γ->δ->ε->ζ->Prop):Prop|mk (a b c d e f) (h:P a b c d e f)
inductive E7{α β γ δ ε ζ η:Type}(P:α->β->γ->δ->ε->ζ->η->Prop):Prop|mk (a b c d e f g) (h:P a b c d e f g)
inductive E8{α β γ δ ε ζ η θ:Type}(P:α->β->γ->δ->ε->ζ->η->θ->Prop):Prop|mk (a b c d e f g h) (h:P a b c d e f g h)
inductive E9{α β γ δ ε ζ η θ ι:Type}(P:α->β->γ->δ->ε->ζ->η->θ->ι->Prop):Prop|mk (a b c d e f g h i) (h:P a b c d e f g h i)
inductive A3(a b c:Prop):Prop|mk (j:a) (k:b) (l:c)
inductive A4(a b c d:Prop):Prop|mk (j:a) (k:b) (l:c) (m:d)
inductive A5(a b c d e:Prop):Prop|mk (j:a) (k:b) (l:c) (m:d) (n:e)
inductive A6(a b c d e f:Prop):Prop|mk (j:a) (k:b) (l:c) (m:d) (n:e) (o:f)
inductive A7(a b c d e f g:Prop):Prop|mk (j:a) (k:b) (l:c) (m:d) (n:e) (o:f) (p:g)
inductive A8(a b c d e f g h:Prop):Prop|mk (j:a) (k:b) (l:c) (m:d) (n:e) (o:f) (p:g) (q:h)
inductive A9(a b c d e f g h i:Prop):Prop|mk (j:a) (k:b) (l:c) (m:d) (n:e) (o:f) (p:g) (q:h) (r:i)
abbrev Key:=Sum Int Str
noncomputable def Ia:Key->Value->Bool
 |.inl k,v=>Value.isInt k v
 |.inr x,v=>Value.isStrOf x v
noncomputable def oN(w:World):Key->Int
 |.inl k=>hashInt k
 |.inr x=>hashStr w x
def AK:∀{k:Key}{v:Value},Ia k v=true->(∃i t,k=Sum.inl i/\v=Value.int i t)\/(∃x t,k=Sum.inr x/\v=Value.str x t)
 |.inl i,v,h=>by
  obtain⟨t,e⟩:=Value.isInt_shape (k:=i) (v:=v) h;exact .inl ⟨i,t,rfl,e⟩
 |.inr x,v,h=>by
  obtain⟨t,e⟩:=Value.isStrOf_shape (x:=x) (v:=v) h;exact .inr ⟨x,t,rfl,e⟩
def Pb(i:Int)(t:Tok):Ia (.inl i) (.int i t)=true:=by simp[Ia,Value.isInt]
def Pa(x:Str)(t:Tok):Ia (.inr x) (.str x t)=true:=by simp[Ia,Value.isStrOf]
def YG(a b:Int):decide ((Sum.inl a:Key)=Sum.inl b)=(a ==b):=by
 by_cases e:a=b
 ·subst e;simp
 have h:¬(Sum.inl a:Key)=Sum.inl b:=λq=>e (Sum.inl.inj q);rw[bL h];exact(bG.mpr e).symm
def YD(a b:Str):decide ((Sum.inr a:Key)=Sum.inr b)=decide (a=b):=by
 by_cases e:a=b
 ·subst e;simp
 have h:¬(Sum.inr a:Key)=Sum.inr b:=λq=>e (Sum.inr.inj q);rw[bL h,bL e]
def YF(a:Int)(b:Str):decide ((Sum.inl a:Key)=Sum.inr b)=false:=bL (λq=>nomatch q)
def YE(a:Str)(b:Int):decide ((Sum.inr a:Key)=Sum.inl b)=false:=bL (λq=>nomatch q)
noncomputable def Aj(prog:Program)(w:World):PySem.KeyKind prog w Key where
 is:=Ia
 hash:=oN w
 inj:=λv a b ha hb=>by
  rcases AK ha with⟨i,t,rfl,rfl⟩|⟨x,t,rfl,rfl⟩
  ·rcases AK hb with⟨j,u,rfl,e⟩|⟨y,u,rfl,e⟩
   ·injection e with e1 _;rw[e1]
   exact nomatch e
  rcases AK hb with⟨j,u,rfl,e⟩|⟨y,u,rfl,e⟩
  ·exact nomatch e
  injection e with e1 _;rw[e1]
 byValue:=λk v h=>by
  rcases AK h with⟨i,t,rfl,rfl⟩|⟨x,t,rfl,rfl⟩<;>rfl
 pyHash:=λhv h=>by
  rcases AK hv with⟨i,t,rfl,rfl⟩|⟨x,t,rfl,rfl⟩
  ·exact wpAny_pyHash_int h
  exact wpAny_pyHash_str h
 eqBool:=λhu hv h=>by
  rcases AK hu with⟨i,t,rfl,rfl⟩|⟨x,t,rfl,rfl⟩
  ·rcases AK hv with⟨j,u,rfl,rfl⟩|⟨y,u,rfl,rfl⟩
   ·rw[YG]at h;exact wpAny_eqBool_int h
   rw[YF]at h;exact SeqAt.EqAt.int_str i t y u _ _ _ _ h
  rcases AK hv with⟨j,u,rfl,rfl⟩|⟨y,u,rfl,rfl⟩
  ·rw[YE]at h;exact SeqAt.EqAt.str_int x t j u _ _ _ _ h
  rw[YD]at h;exact wpAny_eqBool_str h
 «strs»:=λk x t v h=>by
  rcases AK h with⟨i,u,rfl,e⟩|⟨y,u,rfl,e⟩
  ·exact nomatch e
  injection e with e1 _
  subst e1;cases v<;>rfl
def Kz(prog:Program)(w:World)(i:Int)(t:Tok):(Aj prog w).is (.inl i) (.int i t)=true:=Pb i t
def Kx(prog:Program)(w:World)(x:Str)(t:Tok):(Aj prog w).is (.inr x) (.str x t)=true:=Pa x t
end L2
namespace L2
open PySem PySem.Spec PyProof.Rows
inductive V where
 |non|bl (b:Bool)|int (i:Int)|str (x:Str)|byt (b:Array UInt8)|flt (b:UInt64)|ref (a:Addr)|ty (n:String)
 deriving DecidableEq
def As:V->Value->Prop
 |.non,u=>u=Value.none
 |.bl b,u=>u=Value.bool b
 |.int i,u=>∃t,u=Value.int i t
 |.str x,u=>∃t,u=Value.str x t
 |.byt b,u=>∃t,u=Value.bytes b t
 |.flt b,u=>∃t,u=Value.float b t
 |.ref a,u=>u=Value.ref a
 |.ty n,u=>u=Value.type n
abbrev Al:List V->List Value->Prop:=Paired As
theorem Al.length(r:Al xs us):xs.length=us.length:=Paired.length r
theorem Al.get:∀{xs:List V}{us:List Value}{i:Nat}{x:V},Al xs us->xs[i]?=some x->∃u,us[i]?=some u/\As x u
 |_,_,_,_,.nil,e=>by simp at e
 |_,_,0,_,.cons r _,e=>by simp at e;subst e;exact⟨_,rfl,r⟩
 |_,_,i+1,x,.cons _ t,e=>by
  obtain⟨u,h1,h2⟩:=Al.get (i:=i) (x:=x) t (by simpa using e);exact⟨u,by simpa using h1,h2⟩
theorem Al.set(r:As x u):∀{xs:List V}{us:List Value} i,Al xs us->Al (xs.set i x) (us.set i u)
 |_,_,_,.nil=>.nil
 |_,_,0,.cons _ t=>.cons r t
 |_,_,i+1,.cons q t=>.cons q (Al.set r i t)
theorem Al.append:∀{xs ys:List V}{us ws:List Value},Al xs us->Al ys ws->Al (xs++ys) (us++ws)
 |_,_,_,_,.nil,s=>s
 |_,_,_,_,.cons r t,s=>.cons r (Al.append t s)
theorem Al.take:∀{xs:List V}{us:List Value} n,Al xs us->Al (xs.take n) (us.take n)
 |_,_,0,_=>.nil
 |_,_,_+1,.nil=>.nil
 |_,_,n+1,.cons r t=>.cons r (Al.take n t)
theorem Al.drop:∀{xs:List V}{us:List Value} n,Al xs us->Al (xs.drop n) (us.drop n)
 |_,_,0,r=>r
 |_,_,_+1,.nil=>.nil
 |_,_,n+1,.cons _ t=>Al.drop n t
def DN:Option V->Option Value->Prop
 |some v,some u=>As v u
 |none,none=>True
 |_,_=>False
def KV{κ:Type}:List (κ×V)->List (κ×Value)->Prop:=Paired λ(p:κ×V) (q:κ×Value)=>p.1=q.1/\As p.2 q.2
noncomputable def kV:Key->V
 |.inl i=>.int i
 |.inr x=>.str x
inductive HO where
 |lst (xs:List V)
 |tup (xs:List V)
 |dK (kvs:List (Key×V))|dT (kvs:List (List Key×V))
 |set (S:Int->Bool) (n:Nat)
 |ins (C dx:Addr) (fs:List (Str×V))
 |own (x:Addr)
 |xd (fs:List (Str×V))
 |met (f x:Addr)
 |rng (lo hi:Int)
 |frz (o:Obj) (u:HO)
 |tbl (ps:Array Value)
 |ext (φ:Heap->Prop)
abbrev Hp:=Addr->Option HO
noncomputable def upd(H:Hp)(a:Addr)(o:HO):Hp:=λb=>if b=a then some o else H b
def Ac:upd H a o a=some o:=by unfold upd;rw[if_pos rfl]
def Ab(h:b≠a):upd H a o b=H b:=by unfold upd;rw[if_neg h]
def HR{H:Hp}{a b:Addr}{o u:HO}(h:H a=some o)(h':H b=some u)(d:o≠u):a≠b:=by
 intro e;subst e;rw[h]at h';exact d (bE h')
def Ao{H:Hp}{a b:Addr}{o:HO}(h:H a=some o)(h':H b=none):a≠b:=by
 intro e;subst e;rw[h]at h';cases h'
section
variable (P:Program) (w:World)
def AG(H:Hp)(h:Heap)(a:Addr):HO->Prop
 |.lst xs=>xs.length<=sizeLine/\∃(its:List Value) (n:Nat),Al xs its/\h.get? a=some {cls:=.type "list",data:=.seq its.toArray n}
 |.tup xs=>xs.length<=sizeLine/\∃its:List Value,Al xs its/\IsTup h a its.toArray
 |.dK kvs=>kvs.length<=sizeLine/\(a ==sysModules)=false/\∃vs,KV kvs vs/\h.DictOf (Aj P w) a vs
 |.dT kvs=>kvs.length<=sizeLine/\(a ==sysModules)=false/\∃xs:List (List Key×Addr×Value),
  Paired (λ(p:List Key×V) (q:List Key×Addr×Value)=>p.1=q.1/\H q.2.1=some (.tup (p.1.map kV))/\As p.2 q.2.2) kvs xs/\
  ∃o es ep,h.get? a=some o/\o.ExactDict/\o.data=.dict es ep/\es.toList=xs.map (entryOfKey (tupleKind (Aj P w)))/\(xs.map (·.1)).Nodup
 |.set S n=>h.SetOf (intKind P w) a S n
 |.ins C dx fs=>H dx=some (.own a)/\fs.length<=1000/\dx≠a/\h.get? a=some (PySem.W.instObj C dx)/\
  ∃mA,h.Ns1 dx mA/\(∀f,DN (fs.lookup f) (mA f))/\PySem.Within mA (fs.map (·.1))
 |.own _=>∃o,h.get? a=some o
 |.xd fs=>∃mA,h.Ns1 a mA/\∀f,DN (fs.lookup f) (mA f)
 |.rng lo hi=>∃t u v,h.get? a=some {cls:=.type "range",data:=.fields #[.int lo t,.int hi u,.int 1 v]}
 |.frz o u=>h.get? a=some o/\AG H h a u
 |.tbl ps=>h.get? a=some {cls:=.none,data:=.fields ps}
 |.met f x=>h.get? a=some (PySem.W.methodObj (.ref f) (.ref x))
 |.ext φ=>φ h/\(∃o,h.get? a=some o)/\∀h1 h2:Heap,φ h1->(∀o,h1.get? a=some o->h2.get? a=some o)->φ h2
def De(H:Hp)(h:Heap):Prop:=∀a o,H a=some o->AG P w H h a o
end
section
theorem AG.lt(x:AG P w H h a o):a<h.objs.size:=by
 cases o with
 |lst xs=>obtain⟨_,_,_,_,e⟩:=x;exact aN e
 |tup xs=>obtain⟨_,_,_,p⟩:=x;exact p.lt
 |dK kvs=>obtain⟨_,_,_,_,o,_,_,e,_⟩:=x;exact aN e
 |dT kvs=>obtain⟨_,_,_,_,o,_,_,e,_⟩:=x;exact aN e
 |set S n=>obtain⟨o,_,_,_,e,_⟩:=x;exact aN e
 |ins C dx fs=>obtain⟨_,_,_,e,_⟩:=x;exact aN e
 |own y=>obtain⟨_,e⟩:=x;exact aN e
 |xd fs=>obtain⟨_,⟨_,_,_,e,_⟩,_⟩:=x;exact aN e
 |rng lo hi=>obtain⟨_,_,_,e⟩:=x;exact aN e
 |frz ob u=>obtain⟨e,_⟩:=x;exact aN e
 |tbl ps=>exact aN (show h.get? a=some _ from x)
 |met f y=>exact aN (show h.get? a=some _ from x)
 |ext φ=>obtain⟨_,⟨_,e⟩,_⟩:=x;exact aN e
theorem Paired.mapP{α β:Type}{F G:α->β->Prop}:∀{l₁:List α}{l₂:List β},Paired F l₁ l₂->(∀a b,F a b->G a b)->Paired G l₁ l₂
 |_,_,.nil,_=>.nil
 |_,_,.cons r t,f=>.cons (f _ _ r) (Paired.mapP t f)
def AG.stay(x:AG P w H h a o)(k:∀b u,(b=a\/H b=some (.own a))->h.get? b=some u->h'.get? b=some u)
 (ho:∀b,H b=some (.own a)->H' b=some (.own a))(ht:∀b xs,H b=some (.tup xs)->H' b=some (.tup xs)):AG P w H' h' a o:=by
 induction o with
 |lst xs=>obtain⟨z,its,n,r,e⟩:=x;exact⟨z,its,n,r,k _ _ (.inl rfl) e⟩
 |tup xs=>obtain⟨z,its,r,ob,e,c⟩:=x;exact⟨z,its,r,ob,k _ _ (.inl rfl) e,c⟩
 |dK kvs=>obtain⟨z,y,vs,r,ob,es,ep,e,c⟩:=x;exact⟨z,y,vs,r,ob,es,ep,k _ _ (.inl rfl) e,c⟩
 |dT kvs=>
  obtain⟨z,y,xs,r,ob,es,ep,e,c⟩:=x;exact⟨z,y,xs,Paired.mapP r λp q z=>⟨z.1,ht _ _ z.2.1,z.2.2⟩,ob,es,ep,k _ _ (.inl rfl) e,c⟩
 |set S n=>obtain⟨ob,es,ep,t,e,c⟩:=x;exact⟨ob,es,ep,t,k _ _ (.inl rfl) e,c⟩
 |ins C dx fs=>
  obtain⟨d,z,ne,e,mA,⟨od,es,ep,e2,c⟩,r⟩:=x;exact⟨ho _ d,z,ne,k _ _ (.inl rfl) e,mA,⟨od,es,ep,k _ _ (.inr d) e2,c⟩,r⟩
 |own y=>obtain⟨ob,e⟩:=x;exact⟨ob,k _ _ (.inl rfl) e⟩
 |xd fs=>obtain⟨mA,⟨od,es,ep,e,c⟩,r⟩:=x;exact⟨mA,⟨od,es,ep,k _ _ (.inl rfl) e,c⟩,r⟩
 |rng lo hi=>obtain⟨t,u,v,e⟩:=x;exact⟨t,u,v,k _ _ (.inl rfl) e⟩
 |frz ob u ih=>obtain⟨e,q⟩:=x;exact⟨k _ _ (.inl rfl) e,ih q⟩
 |tbl ps=>
  have e:=x;show h'.get? a=some {cls:=.none,data:=.fields ps};exact k a _ (.inl rfl) e
 |met f y=>
  have e:=x;show h'.get? a=some (PySem.W.methodObj (.ref f) (.ref y));exact k a _ (.inl rfl) e
 |ext φ=>obtain⟨p,⟨o,e⟩,st⟩:=x;exact⟨st _ _ p λo q=>k _ _ (.inl rfl) q,⟨o,k _ _ (.inl rfl) e⟩,st⟩
theorem De.lt(x:De P w H h)(e:H a=some o):a<h.objs.size:=(x a o e).lt
def De.fresh(x:De P w H h)(e:h.objs.size<=a):H a=none:=by
 cases q:H a with
 |none=>rfl
 |some u=>exact absurd (aW (x.lt q) e) (cR _)
def De.kept(x:De P w H h)(k:∀b u,h.get? b=some u->h'.get? b=some u):De P w H h':=λa o e=>
 (x a o e).stay (λb u _ q=>k b u q) (λ_ q=>q) λ_ _ q=>q
def De.laid(x:De P w H h)(k:∀b u,h.get? b=some u->h'.get? b=some u)(hp:h.objs.size<=a)(new:AG P w (upd H a o) h' a o):De P w (upd H a o) h':=λb u e=>by
 have hn:=x.fresh hp;by_cases hb:b=a
 ·subst hb;rw[Ac]at e;cases e;exact new
 rw[Ab hb]at e;exact(x b u e).stay (λc v _ q=>k c v q) (λc q=>by rw[Ab (Ao q hn)];exact q) λc xs q=>by rw[Ab (Ao q hn)];exact q
end
def Rd(H:Hp)(a:Addr)(u:HO):Prop:=H a=some u\/∃o,H a=some (.frz o u)
def Rd.ok(r:Rd H a u)(x:De P w H h):AG P w H h a u:=by
 rcases r with r|⟨o,r⟩
 ·exact x a u r
 obtain⟨_,q⟩:=x a _ r;exact q
def kf:Option HO->Prop
 |some (.lst _)=>True
 |some (.dK _)=>True
 |some (.dT _)=>True
 |some (.set _ _)=>True
 |some (.ins _ _ _)=>True
 |some (.ext _)=>True
 |_=>False
section
def De.write(ok:De P w H h)(mu:kf (H x))(he:e=x\/H e=some (.own x))(k:∀b u,b≠e->h.get? b=some u->h'.get? b=some u)(heo:∃u,h'.get? e=some u)
 (new:AG P w (upd H x o') h' x o'):De P w (upd H x o') h':=λb u q=>by
 have nown:∀c y,H c=some (.own y)->c≠x:=λc y r z=>by subst z;rw[r]at mu;exact mu
 have ntup:∀c xs,H c=some (.tup xs)->c≠x:=λc xs r z=>by subst z;rw[r]at mu;exact mu
 by_cases hb:b=x
 ·subst hb;rw[Ac]at q;cases q;exact new
 rw[Ab hb]at q;by_cases hbe:b=e
 ·have q':H b=some (.own x):=by
    rcases he with z|z
    ·exact absurd (hbe.trans z) hb
    rw[hbe];exact z
  rw[q]at q';cases q';obtain⟨v,hv⟩:=heo;exact⟨v,by rw[hbe];exact hv⟩
 refine(ok b u q).stay (λc v hc r=>k c v ?_ r) (λc r=>by rw[Ab (nown c b r)];exact r) λc xs r=>by rw[Ab (ntup c xs r)];exact r
 rcases hc with rfl|hc
 ·exact hbe
 rintro rfl;rcases he with z|z
 ·exact nown c b hc z
 rw[hc]at z;cases z;exact hb rfl
end
structure Un(fs ex:List Addr)(H H':Hp)(h h':Heap):Prop where
 keep:∀b o,h.get? b=some o->H b=none->b∉fs->b∉ex->h'.get? b=some o
 slot:∀b o,h.get? b=some o->H b=none->b∈fs->b∉ex->∃sl,h'.get? b=some {o with slots:=sl}
 free:∀b o,h.get? b=some o->H b=none->b∉ex->H' b=none
 there:∀b o,h.get? b=some o->b∉ex->∃o',h'.get? b=some o'
 tups:∀b xs,H b=some (.tup xs)->H' b=some (.tup xs)
 frzs:∀b o u,H b=some (.frz o u)->H' b=some (.frz o u)
 tbls:∀b ps,H b=some (.tbl ps)->∃more,H' b=some (.tbl (ps++more))
section
def Un.any(u:Un fs ex H H1 h h1)(q:h.get? b=some ob)(n:H b=none)(hx:b∉ex):∃sl,h1.get? b=some {ob with slots:=sl}:=by
 by_cases hb:b∈fs
 ·exact u.slot b ob q n hb hx
 exact⟨ob.slots,u.keep b ob q n hb hx⟩
def Un.kept(k:∀b u,h.get? b=some u->h'.get? b=some u):Un fs ex H H h h':=
 ⟨λb ob q _ _ _=>k b ob q,λb ob q _ _ _=>⟨ob.slots,k b ob q⟩,λ_ _ _ n _=>n,λb ob q _=>⟨ob,k b ob q⟩,λ_ _ q=>q,λ_ _ _ q=>q,λ_ ps q=>⟨#[],by rw[q];simp⟩⟩
def Un.refl:Un fs ex H H h h:=Un.kept λ_ _ q=>q
def Un.laid(k:∀b u,h.get? b=some u->h'.get? b=some u)(hp:h.objs.size<=a)(hn:H a=none):Un fs ex H (upd H a o) h h' where
 keep:=λb u q _ _ _=>k b u q
 slot:=λb u q _ _ _=>⟨u.slots,k b u q⟩
 free:=λb u q n _=>by rw[Ab (aX (aW (aN q) hp))];exact n
 there:=λb u q _=>⟨u,k b u q⟩
 tups:=λb xs q=>by rw[Ab (Ao q hn)];exact q
 frzs:=λb u xs q=>by rw[Ab (Ao q hn)];exact q
 tbls:=λb ps q=>⟨#[],by rw[Ab (Ao q hn),q];simp⟩
def Un.write(mu:kf (H x))(he:e=x\/H e=some (.own x))(k:∀b u,b≠e->h.get? b=some u->h'.get? b=some u)(heo:∃u,h'.get? e=some u):Un fs ex H (upd H x o) h h':=by
 have hx:∀b,H b=none->b≠x:=λb n z=>by subst z;rw[n]at mu;exact mu
 have hb:∀b,H b=none->b≠e:=λb n z=>by
  subst z;rcases he with r|r
  ·exact hx b n r
  rw[n]at r;cases r
 have hm:∀b u,H b=some u->¬kf (some u)->b≠x:=λb u q nm z=>by subst z;rw[q]at mu;exact nm mu
 refine⟨λb u q n _ _=>k b u (hb b n) q,λb u q n _ _=>⟨u.slots,k b u (hb b n) q⟩,λb u q n _=>by rw[Ab (hx b n)];exact n,λb u q _=>?_,
  λb xs q=>by rw[Ab (hm b _ q λz=>z)];exact q,λb u xs q=>by rw[Ab (hm b _ q λz=>z)];exact q,λb ps q=>⟨#[],by rw[Ab (hm b _ q λz=>z),q];simp⟩⟩
 by_cases hbe:b=e
 ·subst hbe;exact heo
 exact⟨u,k b u hbe q⟩
end
noncomputable def kX(h:Heap)(H:Hp):List Addr:=(List.range h.objs.size).filter λa=>(H a).isSome
noncomputable def FM(h:Heap)(H:Hp):Heap:=PySem.W.hideAll h (kX h H)
def Pk(h:Heap)(H:Hp):(FM h H).objs.size=h.objs.size:=PySem.W.hideAll_size _ _
def Si(e:h.get? b=some o)(n:H b=none):(FM h H).get? b=some o:=
 PySem.W.hideAll_get _ e λhm=>by
  have q:=(bS.mp hm).2;rw[n]at q;simp at q
def Nl(e:(FM h H).get? b=some o):h.get? b=some o/\H b=none:=by
 have e':h.get? b=some o:=PySem.W.of_hideAll (kX h H) e;refine⟨e',?_⟩;cases q:H b with
 |none=>rfl
 |some x=>
  have hm:b∈kX h H:=bS.mpr ⟨dH.mpr (aN e'),by simp[q]⟩;have z:(FM h H).get? b=none:=PySem.W.hideAll_none (kX h H) hm;rw[z]at e;cases e
noncomputable def VD(g h:Heap)(L:Addr):List (Addr×Obj):=(List.range h.objs.size).filterMap λa=>if a=L\/(g.get? a).isSome=true then none else(h.get? a).map λo=>(a,o)
noncomputable def rest(g h:Heap)(L d:Addr):List (Addr×Obj):=(VD g h L).filter λp=>decide (p.1≠d)
end L2
namespace L2
open PySem PySem.Spec PyProof.Rows
structure Mod(K:PySem.W.Frag)(mg:Str->Option Value)(base:Heap):Prop where
 kin:K.In base
 glob:base.Ns mainGlobals mg
 blt:∃mb,base.Ns builtinsNs mb/\∀x:Str,x≠ "__name__"->mb x=bootBuiltins x
 nolimit:base.NoLimit
structure Cx where
 prog:Program
 w:World
 K:PySem.W.Frag
 mg:Str->Option Value
 base:Heap
 A:Around
 N:List Str
 s₀:Shared
 H₀:Hp
 env:Env
 outer:List Env
 stack:List Env
 ex:List Addr
 fn:Str->Bool
 calm:Bool
 pn:List (Addr×Obj)
 xe:Value->Shared->Prop
noncomputable def KL(l:List Env):List Addr:=l.filterMap (·.frame)
noncomputable abbrev Cx.fs(X:Cx):List Addr:=KL X.outer
def W5(sc:Scope)(x:Str):Prop:=sc.names.lookup x=some .local\/sc.names.lookup x=some .cell\/sc.names.lookup x=some .free
def W7(sc:Scope)(x:Str):Prop:=sc.names.lookup x=some .local\/sc.names.lookup x=some .cell
def qC(env:Env)(h:Heap)(m:Str->Option Value)(x:Str)(u:Value):Prop:=
 (env.kindOf x=some .local/\m x=some u)\/((env.kindOf x=some .cell\/env.kindOf x=some .free)/\∃c,env.cells.lookup x=some c/\h.IsCell c (some u))
structure Cx.Ok(X:Cx):Prop where
 mod:Mod X.K X.mg X.base
 kind:X.env.scope.kind=.function
 glob:X.env.globals=mainGlobals
 blt:X.env.builtins=builtinsNs
 above:X.s₀.heap.objs.size<=X.env.locals
 inj:∀x y c,X.env.cells.lookup x=some c->X.env.cells.lookup y=some c->x=y
 has:∀x,(X.env.kindOf x=some .cell\/X.env.kindOf x=some .free)->∃c,X.env.cells.lookup x=some c
 cab:∀x c,X.fn x=true->X.env.cells.lookup x=some c->X.s₀.heap.objs.size<=c
 hd:X.calm=true->X.A.handled=none
 frames:X.A.frames=some X.stack
 stk:X.stack=X.outer\/(X.stack=X.env::X.outer/\X.env.frame=some X.env.locals)
 exf:∀b∈X.ex,b≠X.env.locals/\∀x c,X.env.cells.lookup x=some c->c≠b
 bs:∀b o,X.base.get? b=some o->X.s₀.heap.get? b=some o/\X.H₀ b=none
 bsz:X.base.objs.size<=X.s₀.heap.objs.size
 noex:∀b o,X.base.get? b=some o->b∉X.ex
 exfs:∀b∈X.ex,b∉X.fs
 funs:X.s₀.heap.FunFrames X.base X.outer
 frf:∀b∈X.fs,X.H₀ b=none
structure Af(X:Cx)(pins:List (Addr×Obj))(σ:List (Option V))(H:Hp)(s:Shared):Prop where
 ok:X.Ok
 os:s.os=X.s₀.os
 bare:AllBare s.gens
 base:Un X.fs X.ex X.H₀ H X.s₀.heap s.heap
 loc:∃m,s.heap.Ns X.env.locals m/\∀(i:Nat) (x:Str) (v:V),X.N[i]?=some x->σ[i]?=some (some v)->W5 X.env.scope x->∃u,As v u/\qC X.env s.heap m x u
 cell:∀x c,X.env.cells.lookup x=some c->∃v,s.heap.IsCell c v
 free:H X.env.locals=none
 freeC:∀x c,X.env.cells.lookup x=some c->H c=none
 pin:∀p∈X.pn++pins,s.heap.get? p.1=some p.2/\H p.1=none/\p.1≠X.env.locals/\p.1∉X.fs/\∀v,p.2.data≠ .cell v
 hok:De X.prog X.w H s.heap
 len:σ.length=X.N.length
section
variable {X:Cx}{pins:Pq}{σ:List (Option V)}{H H':Hp}{s:Shared}
def Cx.Ok.nofr(ok:X.Ok)(e:X.base.get? b=some o):b∉X.fs:=λhb=>by
 have:=(ok.funs.mem hb).1;rw[e]at this;cases this
theorem Af.bs(I:Af X pins σ H s):∀b o,X.base.get? b=some o->s.heap.get? b=some o/\H b=none:=λb o e=>
 ⟨I.base.keep b o (I.ok.bs b o e).1 (I.ok.bs b o e).2 (I.ok.nofr e) (I.ok.noex b o e),I.base.free b o (I.ok.bs b o e).1 (I.ok.bs b o e).2 (I.ok.noex b o e)⟩
def Af.bk(I:Af X pins σ H s):∀b o,X.base.get? b=some o->s.heap.get? b=some o:=λb o e=>(I.bs b o e).1
theorem Af.mod(I:Af X pins σ H s):Mod X.K X.mg X.base:=I.ok.mod
def Af.kIn(I:Af X pins σ H s):X.K.In s.heap:=I.ok.mod.kin.keeps I.bk
theorem Af.lt(I:Af X pins σ H s):X.env.locals<s.heap.objs.size:=let ⟨_,hn,_⟩:=I.loc;hn.lt
def Af.sz(I:Af X pins σ H s):X.s₀.heap.objs.size<=s.heap.objs.size:=aV I.ok.above (eP I.lt)
def Af.nofs(I:Af X pins σ H s)(h:s.heap.objs.size<=a):a∉X.fs:=λhb=>by
 obtain⟨_,o,ho,_⟩:=I.ok.funs.mem hb;exact absurd (aW (aN ho) (aV I.sz h)) (cR _)
def Af.cne(I:Af X pins σ H s):∀x c,X.env.cells.lookup x=some c->c≠X.env.locals:=λx c e z=>by
 obtain⟨v,o,ho,hd⟩:=I.cell x c e;obtain⟨m,⟨o',es,ep,ho',hd',_⟩,_⟩:=I.loc;rw[z,ho']at ho;cases ho;rw[hd']at hd;cases hd
theorem Af.funs(I:Af X pins σ H s):s.heap.FunFrames X.base X.outer:=by
 have all:∀l,(∀b∈KL l,b∈X.fs)->X.s₀.heap.FunFrames X.base l->s.heap.FunFrames X.base l:=by
  intro l
  induction l with
  |nil=>intro _ _;trivial
  |cons env r ih=>
   intro hs hl;obtain⟨hk,⟨L,o,hf,hn,ho,hd⟩,hr⟩:=hl;have hL:=hs L (by unfold KL;rw[eW,hf];exact aG);obtain⟨sl,e⟩:=I.base.slot L o ho (I.ok.frf L hL) hL λz=>I.ok.exfs L z hL;exact⟨hk,⟨L,_,hf,hn,e,hd⟩,ih (λb hb=>hs b (by unfold KL;rw[eW,hf];exact aC _ hb)) hr⟩
 exact all X.outer (λ_ hb=>hb) I.ok.funs
theorem Af.stack(I:Af X pins σ H s):s.heap.FunFrames X.base X.stack:=by
 rcases I.ok.stk with e|⟨e,hf⟩
 ·rw[e];exact I.funs
 rw[e];obtain⟨m,hn,_⟩:=I.loc;refine .cons (by rw[I.ok.kind];decide) hf hn ?_ I.funs;exact Heap.get?_none_of_le (aV I.ok.bsz I.ok.above)
def Af.stkSub(I:Af X pins σ H s):∀b∈KL X.stack,b∈X.env.locals::X.fs:=λb hb=>by
 rcases I.ok.stk with e|⟨e,hf⟩
 ·rw[e]at hb;exact aC _ hb
 rw[e]at hb;unfold KL at hb;rw[eW,hf]at hb;exact hb
def Af.stkFree(I:Af X pins σ H s):∀b∈KL X.stack,H b=none:=λb hb=>by
 rcases aR.mp (I.stkSub b hb) with e|hb
 ·rw[e];exact I.free
 obtain⟨_,o,ho,_⟩:=I.ok.funs.mem hb;exact I.base.free b o ho (I.ok.frf b hb) λz=>I.ok.exfs b z hb
def Af.step{t':Nat}{ch:List Addr}(I:Af X pins σ H s)
 (hch:∀b∈ch,(b∈X.ex\/X.s₀.heap.objs.size<=b)/\b≠X.env.locals/\(∀x c,X.env.cells.lookup x=some c->c≠b)/\∀p∈X.pn++pins,p.1≠b)
 (keep:∀b o,b≠X.env.locals->b∉X.fs->b∉ch->s.heap.get? b=some o->H b=none->h'.get? b=some o)
 (slot:∀b o,b≠X.env.locals->b∈X.fs->b∉ch->s.heap.get? b=some o->H b=none->∃sl,h'.get? b=some {o with slots:=sl})(free:∀b o,b∉ch->s.heap.get? b=some o->H b=none->H' b=none)
 (there:∀b o,b∉ch->s.heap.get? b=some o->∃o',h'.get? b=some o')
 (tups:∀b xs,H b=some (.tup xs)->H' b=some (.tup xs))(frzs:∀b o u,H b=some (.frz o u)->H' b=some (.frz o u))(tbls:∀b ps,H b=some (.tbl ps)->∃more,H' b=some (.tbl (ps++more)))
 (ns:∀m,s.heap.Ns X.env.locals m->h'.Ns X.env.locals m)(hok:De X.prog X.w H' h')(hg:AllBare g') :
 Af X pins σ H' {s with heap:=h',gens:=g',drawn:=d',toks:=t'}:=by
 have neL:∀b o,X.s₀.heap.get? b=some o->b≠X.env.locals:=λb o e=>aX (aW (aN e) I.ok.above);have neC:∀b o,X.s₀.heap.get? b=some o->b∉X.ex->b∉ch:=λb o e hx hb=>by
  rcases(hch b hb).1 with z|z
  ·exact hx z
  exact absurd (aW (aN e) z) (cR _)
 have cellK:∀x c,X.env.cells.lookup x=some c->∀v,s.heap.IsCell c v->h'.IsCell c v:=λx c e v ⟨o,ho,hd⟩=>by
  have nch:c∉ch:=λz=>(hch c z).2.2.1 x c e rfl;by_cases hc:c∈X.fs
  ·obtain⟨sl,q⟩:=slot c o (I.cne x c e) hc nch ho (I.freeC x c e);exact⟨_,q,hd⟩
  exact⟨o,keep c o (I.cne x c e) hc nch ho (I.freeC x c e),hd⟩
 refine⟨I.ok,I.os,hg,⟨λb o e n hb hx=>?_,λb o e n hb hx=>?_,λb o e n hx=>?_,λb o e hx=>?_,λb xs e=>tups b xs (I.base.tups b xs e),λb o xs e=>frzs b o xs (I.base.frzs b o xs e),λb ps e=>?_⟩,?_,λx c e=>?_,?_,λx c e=>?_,λp hp=>?_,hok,I.len⟩
 ·exact keep b o (neL b o e) hb (neC b o e hx) (I.base.keep b o e n hb hx) (I.base.free b o e n hx)
 ·obtain⟨sl,e1⟩:=I.base.slot b o e n hb hx;obtain⟨sl',e2⟩:=slot b _ (neL b o e) hb (neC b o e hx) e1 (I.base.free b o e n hx);exact⟨sl',e2⟩
 ·obtain⟨o',e1⟩:=I.base.there b o e hx;exact free b o' (neC b o e hx) e1 (I.base.free b o e n hx)
 ·obtain⟨o',e1⟩:=I.base.there b o e hx;exact there b o' (neC b o e hx) e1
 ·obtain⟨m1,e1⟩:=I.base.tbls b ps e;obtain⟨m2,e2⟩:=tbls b _ e1;exact⟨m1++m2,by rw[e2,Array.append_assoc]⟩
 ·obtain⟨m,hn,hl⟩:=I.loc;refine⟨m,ns m hn,λi x v e1 e2 e3=>?_⟩;obtain⟨u,r,l⟩:=hl i x v e1 e2 e3;refine⟨u,r,?_⟩;rcases l with l|⟨k,c,e,z⟩
  ·exact .inl l
  exact .inr ⟨k,c,e,cellK x c e _ z⟩
 ·obtain⟨v,z⟩:=I.cell x c e;exact⟨v,cellK x c e v z⟩
 ·obtain⟨m,⟨o,_,_,ho,_⟩,_⟩:=I.loc;exact free _ o (λz=>(hch _ z).2.1 rfl) ho I.free
 ·obtain⟨v,o,ho,hd⟩:=I.cell x c e;exact free c o (λz=>(hch c z).2.2.1 x c e rfl) ho (I.freeC x c e)
 obtain⟨e,n,ne,nf,d⟩:=I.pin p hp;have nch:p.1∉ch:=λz=>(hch p.1 z).2.2.2 p hp rfl;exact⟨keep p.1 p.2 ne nf nch e n,free p.1 p.2 nch e n,ne,nf,d⟩
def Af.un{t':Nat}(I:Af X pins σ H s)(u:Un X.fs [] H H' s.heap h')(hok:De X.prog X.w H' h'):Af X pins σ H' {s with heap:=h',toks:=t'}:=by
 obtain⟨m,⟨o,es,ep,ho,r⟩,_⟩:=id I.loc;obtain⟨sl,hL⟩:=u.any ho I.free (by simp);exact I.step (g':=s.gens) (d':=s.drawn) (ch:=[]) (λ_ z=>nomatch z) (λb o _ hb _ e n=>u.keep b o e n hb (by simp)) (λb o _ hb _ e n=>u.slot b o e n hb (by simp)) (λb o _ e n=>u.free b o e n (by simp)) (λb o _ e=>u.there b o e (by simp)) u.tups u.frzs u.tbls (λm' hm=>by
  obtain⟨o',es',ep',ho',r'⟩:=hm;rw[ho]at ho';cases ho';exact⟨_,es',ep',hL,r'⟩) hok I.bare
def Af.call{t':Nat}{ch:List Addr}(I:Af X pins σ H s)(u:Un (KL X.stack) ch H H' s.heap h')(hok:De X.prog X.w H' h')(hg:AllBare g')
 (hch:∀b∈ch,(b∈X.ex\/X.s₀.heap.objs.size<=b)/\b≠X.env.locals/\(∀x c,X.env.cells.lookup x=some c->c≠b)/\∀p∈X.pn++pins,p.1≠b) :
 Af X pins σ H' {s with heap:=h',gens:=g',drawn:=d',toks:=t'}:=by
 obtain⟨m,⟨o,es,ep,ho,r⟩,_⟩:=id I.loc;obtain⟨sl,hL⟩:=u.any ho I.free λz=>(hch _ z).2.1 rfl;exact I.step (ch:=ch) hch (λb o hL hb hc e n=>u.keep b o e n (λz=>(aR.mp (I.stkSub b z)).elim hL hb) hc) (λb o _ _ hc e n=>u.any e n hc) (λb o hc e n=>u.free b o e n hc) (λb o hc e=>u.there b o e hc) u.tups u.frzs u.tbls (λm' hm=>by
  obtain⟨o',es',ep',ho',r'⟩:=hm;rw[ho]at ho';cases ho';exact⟨_,es',ep',hL,r'⟩) hok hg
def Af.turned{t':Nat}{it:Addr}(I:Af X pins σ H s)(k:∀b o,b≠it->s.heap.get? b=some o->h'.get? b=some o)(hn:H it=none)(hL:it≠X.env.locals)
 (h1:it∈X.ex\/X.s₀.heap.objs.size<=it)(h2:∀x c,X.env.cells.lookup x=some c->c≠it)(h3:∀p∈X.pn++pins,p.1≠it):Af X pins σ H {s with heap:=h',toks:=t'}:=by
 have nit:∀b u,H b=some u->b≠it:=λb u e z=>by rw[z,hn]at e;cases e
 refine I.step (g':=s.gens) (d':=s.drawn) (ch:=[it]) (λb hb=>?_) (λb o _ _ hc e _=>k b o (λz=>hc (by simp[z])) e) (λb o _ _ hc e _=>⟨o.slots,k b o (λz=>hc (by simp[z])) e⟩) (λ_ _ _ _ n=>n)
  (λb o hc e=>⟨o,k b o (λz=>hc (by simp[z])) e⟩) (λ_ _ e=>e) (λ_ _ _ e=>e) (λb ps e=>⟨#[],by rw[e];simp⟩) (λm hm=>?_) (λb u e=>?_) I.bare
 ·have e:b=it:=by simpa using hb
  subst e;exact⟨h1,hL,h2,h3⟩
 ·obtain⟨o,es,ep,ho,r⟩:=hm;exact⟨o,es,ep,k _ o (bN hL) ho,r⟩
 refine(I.hok b u e).stay (λc v hc q=>k c v ?_ q) (λ_ q=>q) λ_ _ q=>q;rcases hc with z|z
 ·rw[z];exact nit b u e
 exact nit c _ z
def Af.tok(I:Af X pins σ H s)(t:Nat):Af X pins σ H {s with toks:=t}:=I.un (h':=s.heap) (t':=t) Un.refl I.hok
theorem Af.kept{t':Nat}(I:Af X pins σ H s)(k:∀b u,s.heap.get? b=some u->h'.get? b=some u):Af X pins σ H {s with heap:=h',toks:=t'}:=I.un (Un.kept k) (I.hok.kept k)
theorem Af.laid{t':Nat}(I:Af X pins σ H s)(k:∀b u,s.heap.get? b=some u->h'.get? b=some u)(hp:s.heap.objs.size<=a)(new:AG X.prog X.w (upd H a o) h' a o) :
 Af X pins σ (upd H a o) {s with heap:=h',toks:=t'}:=I.un (Un.laid k hp (I.hok.fresh hp)) (I.hok.laid k hp new)
theorem Af.write{t':Nat}(I:Af X pins σ H s)(mu:kf (H x))(he:e=x\/H e=some (.own x))(k:∀b u,b≠e->s.heap.get? b=some u->h'.get? b=some u)(heo:∃u,h'.get? e=some u)
 (new:AG X.prog X.w (upd H x o) h' x o):Af X pins σ (upd H x o) {s with heap:=h',toks:=t'}:=I.un (Un.write mu he k heo) (I.hok.write mu he k heo new)
def Af.pins_of(I:Af X pins σ H s)(h:∀p∈pins',s.heap.get? p.1=some p.2/\H p.1=none/\p.1≠X.env.locals/\p.1∉X.fs/\∀v,p.2.data≠ .cell v):Af X pins' σ H s:=
 ⟨I.ok,I.os,I.bare,I.base,I.loc,I.cell,I.free,I.freeC,λp hp=>(bP.mp hp).elim (λz=>I.pin p (dA _ z)) (h p),I.hok,I.len⟩
def Dq{N:List Str}(hN:N.Nodup){i j:Nat}{x:Str}(a:N[i]?=some x)(b:N[j]?=some x):i=j:=by
 obtain⟨h1,e1⟩:=a9.mp a;obtain⟨h2,e2⟩:=a9.mp b;exact(List.getElem_inj hN).mp (e1.trans e2.symm)
def HD{i:Nat}{x:Str}(I:Af X pins σ H s)(hN:X.N.Nodup)(hi:X.N[i]?=some x)(hx:W7 X.env.scope x)(r:As v u)
 (h:∀s',Af X pins (σ.set i (some v)) H s'->(∃a,Heap.SameBut a s.heap s'.heap/\(a=X.env.locals\/X.env.cells.lookup x=some a))->Q () s')(hf:X.fn x=true\/X.env.scope.names.lookup x=some .local:=by first|exact .inl rfl|exact .inr rfl|assumption):wpAny M A (storeName X.env x u) Q E s:=by
 obtain⟨m,hn,hl⟩:=id I.loc;have hcls:(X.env.scope.kind== .class||(X.env.scope.kind== .module&&X.env.locals !=X.env.globals))=false:=by rw[I.ok.kind];rfl
 have hiσ:i<σ.length:=by rw[I.len];exact(a9.mp hi).1
 have cne:=I.cne;have tracked:∀{a:Addr}{h':Heap},(∃o,s.heap.get? a=some o/\H a=none)->Heap.SameBut a s.heap h'->De X.prog X.w H h':=λ{a h'} ha hs b ob e=>by
  obtain⟨_,_,hfree⟩:=ha;refine(I.hok b ob e).stay (λc w' hc q=>(hs.2 c ?_).trans q) (λ_ q=>q) λ_ _ q=>q;rintro rfl;rcases hc with rfl|hc
  ·rw[hfree]at e;cases e
  rw[hfree]at hc;cases hc
 rcases hx with hk|hk
 ·refine wpAny_storeName_local hk hn (λh' hn' hs=>?_) hcls;obtain⟨oL,_,_,hoL,_⟩:=id hn;refine h _ ⟨I.ok,I.os,I.bare,⟨λb o e n hb hx=>?_,λb o e n hb hx=>?_,I.base.free,λb o e hx=>?_,I.base.tups,I.base.frzs,I.base.tbls⟩,⟨_,hn',λj y v' e1 e2 e3=>?_⟩,λy c e=>?_,I.free,I.freeC,λp hp=>?_,tracked ⟨oL,hoL,I.free⟩ hs,by simpa using I.len⟩ ⟨_,hs,.inl rfl⟩
  ·exact(hs.2 b (aX (aW (aN e) I.ok.above))).trans (I.base.keep b o e n hb hx)
  ·obtain⟨sl,e1⟩:=I.base.slot b o e n hb hx;exact⟨sl,(hs.2 b (aX (aW (aN e) I.ok.above))).trans e1⟩
  ·obtain⟨o',e1⟩:=I.base.there b o e hx;exact⟨o',(hs.2 b (aX (aW (aN e) I.ok.above))).trans e1⟩
  ·by_cases hj:j=i
   ·subst hj;rw[hi]at e1;cases e1;rw[iD hiσ]at e2;cases e2;exact⟨u,r,.inl ⟨hk,by simp⟩⟩
   rw[c7 (bN hj)]at e2;obtain⟨u',r',q⟩:=hl j y v' e1 e2 e3;refine⟨u',r',?_⟩;rcases q with⟨k,e⟩|⟨k,c,e,z⟩
   ·refine .inl ⟨k,?_⟩;have:y≠x:=λe=>hj (Dq hN e1 (e▸hi));simp[this,e]
   exact .inr ⟨k,c,e,z.sameBut hs (cne y c e)⟩
  ·obtain⟨w',z⟩:=I.cell y c e;exact⟨w',z.sameBut hs (cne y c e)⟩
  obtain⟨e,n,ne,nf,d⟩:=I.pin p hp;exact⟨(hs.2 p.1 ne).trans e,n,ne,nf,d⟩
 have hfn:X.fn x=true:=by
  rcases hf with z|z
  ·exact z
  rw[z]at hk;cases hk
 obtain⟨c,hc⟩:=I.ok.has x (.inl hk);obtain⟨w',z⟩:=I.cell x c hc;refine wpAny_storeName_cell I.ok.kind hk hc z (λh' hc' hs=>?_);obtain⟨oc,hoc,hocd⟩:=id z;refine h {s with heap:=h'} ⟨I.ok,I.os,I.bare,⟨λb o e n hb hx=>?_,λb o e n hb hx=>?_,I.base.free,λb o e hx=>?_,I.base.tups,I.base.frzs,I.base.tbls⟩,⟨m,hn.sameBut hs (bN (cne x c hc)),λj y v' e1 e2 e3=>?_⟩,λy c' e=>?_,I.free,I.freeC,λp hp=>?_,tracked ⟨oc,hoc,I.freeC x c hc⟩ hs,by simpa using I.len⟩ ⟨c,hs,.inr hc⟩
 ·exact(hs.2 b (aX (aW (aN e) (I.ok.cab x c hfn hc)))).trans (I.base.keep b o e n hb hx)
 ·obtain⟨sl,e1⟩:=I.base.slot b o e n hb hx;exact⟨sl,(hs.2 b (aX (aW (aN e) (I.ok.cab x c hfn hc)))).trans e1⟩
 ·obtain⟨o',e1⟩:=I.base.there b o e hx;exact⟨o',(hs.2 b (aX (aW (aN e) (I.ok.cab x c hfn hc)))).trans e1⟩
 ·by_cases hj:j=i
  ·subst hj;rw[hi]at e1;cases e1;rw[iD hiσ]at e2;cases e2;exact⟨u,r,.inr ⟨.inl hk,c,hc,hc'⟩⟩
  rw[c7 (bN hj)]at e2;obtain⟨u',r',q⟩:=hl j y v' e1 e2 e3;refine⟨u',r',?_⟩;rcases q with q|⟨k,c',e,z'⟩
  ·exact .inl q
  refine .inr ⟨k,c',e,z'.sameBut hs ?_⟩;rintro rfl;exact hj (Dq hN e1 (I.ok.inj _ _ _ e hc▸hi))
 ·by_cases hcc:c'=c
  ·subst hcc;exact⟨_,hc'⟩
  obtain⟨w2,z2⟩:=I.cell y c' e;exact⟨w2,z2.sameBut hs hcc⟩
 obtain⟨e,n,ne,nf,d⟩:=I.pin p hp;refine⟨(hs.2 p.1 ?_).trans e,n,ne,nf,d⟩;intro q;rw[q,hoc]at e;have q':oc=p.2:=bE e;exact d w' (by rw[←q'];exact hocd)
def JU{i:Nat}{x:Str}(I:Af X pins σ H s)(hN:X.N.Nodup)(hi:X.N[i]?=some x)(hx:W7 X.env.scope x)(r:As v u)
 (h:∀s',Af X pins (σ.set i (some v)) H s'->Q () s')(hf:X.fn x=true\/X.env.scope.names.lookup x=some .local:=by first|exact .inl rfl|exact .inr rfl|assumption):wpAny M A (storeName X.env x u) Q E s:=
 HD I hN hi hx r (λs' I' _=>h s' I') hf
def Af.call'(I:Af X pins σ H s)(ho:s'.os=s.os)(u:Un (KL X.stack) ch H H' s.heap s'.heap)(hok:De X.prog X.w H' s'.heap)(hg:AllBare s'.gens)
 (hch:∀b∈ch,(b∈X.ex\/X.s₀.heap.objs.size<=b)/\b≠X.env.locals/\(∀x c,X.env.cells.lookup x=some c->c≠b)/\∀p∈X.pn++pins,p.1≠b):Af X pins σ H' s':=by
 obtain⟨h',g',d',t',o'⟩:=s';have e:=ho;subst e;exact I.call (g':=g') (t':=t') (d':=d') u hok hg hch
end
abbrev XK:=Value->Option Addr->Hp->Prop
abbrev St:=List (Option V)
abbrev VK:=V->Hp->Prop
abbrev TE:=St->Hp->VK->Prop
abbrev TT:=St->Hp->(Bool->Hp->Prop)->Prop
abbrev TA:=St->Hp->(List V->Hp->Prop)->Prop
structure PL where
 nx:St->Hp->Prop
 rt:VK
 bk:St->Hp->Prop:=λ_ _=>False
 ct:St->Hp->Prop:=λ_ _=>False
abbrev TS:=PL->St->Hp->Prop
inductive EP(X:Cx)(pins:List (Addr×Obj))(σ:St)(Q:VK)(u:Value)(s':Shared):Prop
 |mk (v:V) (H':Hp) (a:Af X pins σ H' s') (b:As v u) (c:Q v H')
def TP(X:Cx)(pins:List (Addr×Obj))(σ:St)(Q:Bool->Hp->Prop)(b:Bool)(s':Shared):Prop:=∃H',Af X pins σ H' s'/\Q b H'
inductive AP(X:Cx)(pins:List (Addr×Obj))(σ:St)(Q:List V->Hp->Prop)(us:List Value)(s':Shared):Prop
 |mk (vs:List V) (H':Hp) (a:Af X pins σ H' s') (b:Al vs us) (c:Q vs H')
def SP(X:Cx)(pins:List (Addr×Obj))(D:PL)(f:Flow)(s':Shared):Prop:=
 match f with
 |.next=>∃σ' H',Af X pins σ' H' s'/\D.nx σ' H'
 |.brk=>∃σ' H',Af X pins σ' H' s'/\D.bk σ' H'
 |.cont=>∃σ' H',Af X pins σ' H' s'/\D.ct σ' H'
 |.ret u=>E3 λv σ' H'=>A3 (Af X pins σ' H' s') (As v u) (D.rt v H')
def PE(X:Cx)(e:Expr)(t:TE):Prop:=
 ∀(pins:List (Addr×Obj)) (s:Shared) (σ:St) (H:Hp) (Q:VK),Af X pins σ H s->t σ H Q->wpAny (model X.prog X.w) X.A (eval e X.env) (EP X pins σ Q) X.xe s
def PT(X:Cx)(e:Expr)(t:TT):Prop:=
 ∀(pins:List (Addr×Obj)) (s:Shared) (σ:St) (H:Hp) (Q:Bool->Hp->Prop),Af X pins σ H s->t σ H Q->wpAny (model X.prog X.w) X.A (isTrue e X.env (eval e X.env)) (TP X pins σ Q) X.xe s
def PW(X:Cx)(e:Expr)(t:TT):Prop:=
 ∀(whole:Sem Value) (pins:List (Addr×Obj)) (s:Shared) (σ:St) (H:Hp) (Q:Bool->Hp->Prop),Af X pins σ H s->t σ H Q->wpAny (model X.prog X.w) X.A (isTrue e X.env whole) (TP X pins σ Q) X.xe s
def PW.pt(h:PW X e t):PT X e t:=h _
def PA(X:Cx)(es:List Expr)(t:TA):Prop:=
 ∀(pos:Pos) (pins:List (Addr×Obj)) (s:Shared) (σ:St) (H:Hp) (Q:List V->Hp->Prop),Af X pins σ H s->t σ H Q->wpAny (model X.prog X.w) X.A (spliced (backTo pos (starEach es X.env))) (AP X pins σ Q) X.xe s
def PS(X:Cx)(st:Stmt)(t:TS):Prop:=
 ∀(pins:List (Addr×Obj)) (s:Shared) (σ:St) (H:Hp) (D:PL),Af X pins σ H s->t D σ H->wpAny (model X.prog X.w) X.A (exec st X.env) (SP X pins D) X.xe s
def Hj(X:Cx)(st:List Stmt)(t:TS):Prop:=
 ∀(pins:List (Addr×Obj)) (s:Shared) (σ:St) (H:Hp) (D:PL),Af X pins σ H s->t D σ H->wpAny (model X.prog X.w) X.A (execs st X.env) (SP X pins D) X.xe s
def AR{α:Type}{t:Sem α}{Q Q':α->Shared->Prop}{M:Model}{A:Around}{E:Vq}{s:Shared}(h:wpAny M A t Q E s)(hQ:∀a s,Q a s->Q' a s):wpAny M A t Q' E s:=cC h hQ λ_ _ x=>x
end L2
namespace L2
open PySem PySem.Spec PyProof.Rows
section
variable {X:Cx}
def nD(i:Nat):TE:=λσ H Q=>∃v,σ[i]?=some (some v)/\Q v H
def tC(v:V):TE:=λ_ H Q=>Q v H
def EV{i:Nat}{x:Str}(hN:X.N[i]?=some x)(hv:W5 X.env.scope x)(hd:(x ==("__debug__" :Str))=false:=by decide)(hcd:(x ==("__classdict__" :Str))=false:=by decide):PE X (.Name x pos) (nD i):=by
 intro pins s σ H Q I h;obtain⟨v,e,h⟩:=h;obtain⟨m,hn,hl⟩:=I.loc;obtain⟨u,r,l⟩:=hl i x v hN e hv;have fin:EP X pins σ Q u s:=⟨v,H,I,r,h⟩;rcases l with⟨hk,hm⟩|⟨hk,c,hc,hcell⟩
 ·exact wpAny_Name (wpAny_loadName_local I.ok.kind hk hn hm fin) hd
 rcases hk with hk|hk
 ·exact wpAny_Name (wpAny_loadName_cell I.ok.kind hk hc hcell fin) hd
 exact wpAny_Name (wpAny_loadName_free I.ok.kind hk hc hcell fin hcd) hd
def Yc{i j pos}:PE X (.Constant (.int i) j pos) (tC (.int i)):=λ_ _ _ H _ I h=>wpAny_Constant_int ⟨.int i,H,I.tok _,⟨_,rfl⟩,h⟩
def ig{b j pos}:PE X (.Constant (.bool b) j pos) (tC (.bl b)):=λ_ _ _ H _ I h=>Constant_bool ⟨.bl b,H,I,rfl,h⟩
def Ya{j pos}:PE X (.Constant .none j pos) (tC .non):=λ_ _ _ H _ I h=>Constant_none ⟨.non,H,I,rfl,h⟩
def XY{x j pos}:PE X (.Constant (.str x) j pos) (tC (.str x)):=λ_ _ _ H _ I h=>Calls.Constant_str ⟨.str x,H,I.tok _,⟨_,rfl⟩,h⟩
def Gl(X:Cx)(x:Str):Prop:=X.env.kindOf x=some .globalImplicit
def DC{x:Str}(I:Af X pins σ H s)(hg:Gl X x)(hm:X.mg x=some u)(h:Q u s)
 (hd:(x ==("__debug__" :Str))=false:=by decide):wpAny (model X.prog X.w) X.A (eval (.Name x pos) X.env) Q E s:=
 gG I.ok.kind hg (Calls.loadGlobal_global (by rw[I.ok.glob];exact I.mod.glob.keeps I.bk) hm h) hd
def Cz{x:Str}(I:Af X pins σ H s)(hg:Gl X x)(hm:X.mg x=none)(hv:bootBuiltins x=some u)(h:Q u s)
 (hn:x≠ "__name__":=by decide)(hd:(x ==("__debug__" :Str))=false:=by decide):wpAny (model X.prog X.w) X.A (eval (.Name x pos) X.env) Q E s:=by
 obtain⟨mb,h1,h2⟩:=I.mod.blt;exact gG I.ok.kind hg (Calls.loadGlobal_builtin (by rw[I.ok.glob];exact I.mod.glob.keeps I.bk) hm (by rw[I.ok.blt];exact h1.keeps I.bk) ((h2 x hn).trans hv) h) hd
def FV{x:Str}(hg:Gl X x)(hm:X.mg x=some u)(r:As v u)(hd:(x ==("__debug__" :Str))=false:=by decide):PE X (.Name x pos) (tC v):=
 λ_ _ _ H _ I h=>DC I hg hm ⟨v,H,I,r,h⟩ hd
def UH{x:Str}(hg:Gl X x)(hm:X.mg x=none)(hv:bootBuiltins x=some u)(r:As v u)(hn:x≠ "__name__":=by decide)(hd:(x ==("__debug__" :Str))=false:=by decide):PE X (.Name x pos) (tC v):=
 λ_ _ _ H _ I h=>Cz I hg hm hv ⟨v,H,I,r,h⟩ hn hd
variable {a b:Expr}{ta tb:TE}{pos:Pos}
variable {tA tB':TT}{rest:List Expr}
def nO(t u:TT):TT:=λσ H Q=>t σ H λc H1=>if c=true then u σ H1 Q else Q false H1
def t7(t u:TT):TT:=λσ H Q=>t σ H λc H1=>if c=true then Q true H1 else u σ H1 Q
def nI(t:TT):TT:=λσ H Q=>t σ H λc H1=>Q (!c) H1
def Ur(ha:PT X a tA):PW X (.BoolOp .And [a] pos) tA:=by
 intro wh pins s σ H Q I h;refine isTrue_and (AR (ha pins s σ H Q I h) λc s1 e=>?_);cases c with
 |true=>exact isTrue_and_nil e
 |false=>exact e
def XG(ha:PT X a tA):PW X (.BoolOp .Or [a] pos) tA:=by
 intro wh pins s σ H Q I h;refine isTrue_or (AR (ha pins s σ H Q I h) λc s1 e=>?_);cases c with
 |false=>exact isTrue_or_nil e
 |true=>exact e
def XH(ha:PT X a tA)(hb:PW X (.BoolOp .And (b::rest) pos) tB'):PW X (.BoolOp .And (a::b::rest) pos) (nO tA tB'):=by
 intro wh pins s σ H Q I h;refine isTrue_and (AR (ha pins s σ H _ I h) λc s1 ⟨H1,I1,q1⟩=>?_);cases c with
 |true=>exact hb wh pins s1 σ H1 Q I1 q1
 |false=>exact⟨H1,I1,q1⟩
def gq(ha:PT X a tA)(hb:PW X (.BoolOp .Or (b::rest) pos) tB'):PW X (.BoolOp .Or (a::b::rest) pos) (t7 tA tB'):=by
 intro wh pins s σ H Q I h;refine isTrue_or (AR (ha pins s σ H _ I h) λc s1 ⟨H1,I1,q1⟩=>?_);cases c with
 |true=>exact⟨H1,I1,q1⟩
 |false=>exact hb wh pins s1 σ H1 Q I1 q1
def XI(ha:PT X a tA):PT X (.UnaryOp .Not a pos) (nI tA):=by
 intro pins s σ H Q I h;exact isTrue_not (ha pins s σ H (λc H1=>Q (!c) H1) I h)
def cm(ta tb:TE):TE:=λσ H Q=>ta σ H λx H1=>∃c,x=.bl c/\if c=true then tb σ H1 Q else Q (.bl false) H1
def nH(ta tb:TE):TE:=λσ H Q=>ta σ H λx H1=>∃c,x=.bl c/\if c=true then Q (.bl true) H1 else tb σ H1 Q
def bu(ta:TE):TE:=λσ H Q=>ta σ H λx H1=>∃c,x=.bl c/\Q (.bl (!c)) H1
def Rt{op}(h:PE X a t):PE X (.BoolOp op [a] pos) t:=λpins s σ H Q I hw=>BoolOp_one (h pins s σ H Q I hw)
def Yd(ha:PE X a ta)(hb:PE X (.BoolOp .And (b::rest) pos) tb):PE X (.BoolOp .And (a::b::rest) pos) (cm ta tb):=by
 intro pins s σ H Q I h;refine BoolOp_and (AR (ha pins s σ H _ I h) λv s1 ⟨x,H1,I1,r1,q1⟩=>?_);obtain⟨c,rfl,q1⟩:=q1;cases r1;refine cM ?_;cases c with
 |true=>exact hb pins s1 σ H1 Q I1 q1
 |false=>exact⟨.bl false,H1,I1,rfl,q1⟩
def ia(ha:PE X a ta)(hb:PE X (.BoolOp .Or (b::rest) pos) tb):PE X (.BoolOp .Or (a::b::rest) pos) (nH ta tb):=by
 intro pins s σ H Q I h;refine BoolOp_or (AR (ha pins s σ H _ I h) λv s1 ⟨x,H1,I1,r1,q1⟩=>?_);obtain⟨c,rfl,q1⟩:=q1;cases r1;refine cM ?_;cases c with
 |false=>exact hb pins s1 σ H1 Q I1 q1
 |true=>exact⟨.bl true,H1,I1,rfl,q1⟩
def XZ(ha:PE X a ta):PE X (.UnaryOp .Not a pos) (bu ta):=by
 intro pins s σ H Q I h;refine UnaryOp_ (AR (ha pins s σ H _ I h) λv s1 ⟨x,H1,I1,r1,q1⟩=>?_);obtain⟨c,rfl,q1⟩:=q1;cases r1;exact not_of (cM ⟨.bl (!c),H1,I1,rfl,q1⟩)
def t9(t:TT)(ta tb:TE):TE:=λσ H Q=>t σ H λc H1=>if c=true then ta σ H1 Q else tb σ H1 Q
def Rx(hc:PT X c tA)(ha:PE X a ta)(hb:PE X b tb):PE X (.IfExp c a b pos) (t9 tA ta tb):=by
 intro pins s σ H Q I h;refine wpAny_IfExp (AR (hc pins s σ H _ I h) λd s1 ⟨H1,I1,q1⟩=>?_);cases d with
 |true=>exact ha pins s1 σ H1 Q I1 q1
 |false=>exact hb pins s1 σ H1 Q I1 q1
end
end L2
namespace L2
open PySem PySem.Spec PyProof.Rows
def D4(K:PySem.W.Frag)(H:Hp)(a:Addr)(xs:List V):Prop:=
 Rd H a (.lst xs)\/
  E3 λ(o:Obj) (its:Array Value) (n:Nat)=>A6 (K.lookup a=some o) (o.cls=.type "list") (o.dict=none) (o.data=.seq its n) (its.size<=sizeLine) (Al xs its.toList)
def Iw(K:PySem.W.Frag)(H:Hp)(a:Addr)(xs:List V):Prop:=
 Rd H a (.tup xs)\/
  E3 λ(o:Obj) (its:Array Value) (n:Nat)=>A5 (K.lookup a=some o) (o.cls=.type "tuple") (o.data=.seq its n) (its.size<=sizeLine) (Al xs its.toList)
noncomputable def qx:Value->Option V
 |.none=>some .non
 |.bool b=>some (.bl b)
 |.int i _=>some (.int i)
 |.str x _=>some (.str x)
 |.bytes b _=>some (.byt b)
 |.float b _=>some (.flt b)
 |.ref a=>some (.ref a)
 |.type n=>some (.ty n)
 |_=>none
def As.abs(r:As x u):qx u=some x:=by
 cases x with
 |non=>cases r;rfl
 |bl _=>cases r;rfl
 |int _=>obtain⟨t,rfl⟩:=r;rfl
 |str _=>obtain⟨t,rfl⟩:=r;rfl
 |byt _=>obtain⟨t,rfl⟩:=r;rfl
 |flt _=>obtain⟨t,rfl⟩:=r;rfl
 |ref _=>cases r;rfl
 |ty _=>cases r;rfl
def As.inj(r:As x u)(q:As y u):x=y:=bE (r.abs.symm.trans q.abs)
theorem Al.inj:∀{xs ys:List V}{us:List Value},Al xs us->Al ys us->xs=ys
 |_,_,_,.nil,.nil=>rfl
 |_,_,_,.cons r t,.cons r' t'=>by rw[r.inj r',Al.inj t t']
section
def Af.list(I:Af X pins σ H s)(h:D4 X.K H a xs):∃its:List Value,Al xs its/\PlainL s.heap a its.toArray/\xs.length<=sizeLine:=by
 rcases h with h|⟨o,its,n,hk,hc,hd,hs,hz,r⟩
 ·obtain⟨z,its,n,r,e⟩:=h.ok I.hok;exact⟨its,r,⟨_,n,e,rfl,rfl,rfl⟩,z⟩
 refine⟨its.toList,r,⟨o,n,I.kIn a o hk,hc,hd,by simpa using hs⟩,?_⟩;have e:=r.length;simp only[Array.length_toList]at e
 lia
def Af.tuple(I:Af X pins σ H s)(h:Iw X.K H a xs):∃its:List Value,Al xs its/\IsTup s.heap a its.toArray/\xs.length<=sizeLine:=by
 rcases h with h|⟨o,its,n,hk,hc,hs,hz,r⟩
 ·obtain⟨z,its,r,p⟩:=h.ok I.hok;exact⟨its,r,p,z⟩
 refine⟨its.toList,r,⟨o,I.kIn a o hk,hc,n,by simpa using hs⟩,?_⟩;have e:=r.length;simp only[Array.length_toList]at e
 lia
def Af.list_inj(I:Af X pins σ H s)(h:D4 X.K H a xs)(h':D4 X.K H a ys):xs=ys:=by
 obtain⟨its,r,⟨o,n,e,_,_,d⟩,_⟩:=I.list h;obtain⟨its',r',⟨o',n',e',_,_,d'⟩,_⟩:=I.list h';rw[e]at e';cases e';rw[d]at d'
 injection d' with d1 _
 have:its=its':=by simpa using bQ Array.toList d1
 subst this;exact r.inj r'
def Af.tuple_inj(I:Af X pins σ H s)(h:Iw X.K H a xs)(h':Iw X.K H a ys):xs=ys:=by
 obtain⟨its,r,⟨o,e,_,n,d⟩,_⟩:=I.tuple h;obtain⟨its',r',⟨o',e',_,n',d'⟩,_⟩:=I.tuple h';rw[e]at e';cases e';rw[d]at d'
 injection d' with d1 _
 have:its=its':=by simpa using bQ Array.toList d1
 subst this;exact r.inj r'
end
section
variable {X:Cx}{st:Stmt}{rest:List Stmt}{t u:TS}
def bv:TS:=λD σ H=>D.nx σ H
def bo(t u:TS):TS:=λD σ H=>t {D with nx:=u D} σ H
def Ut:Hj X [] bv:=λ_ _ σ H _ I h=>i7 ⟨σ,H,I,h⟩
def QI(h1:PS X st t)(h2:Hj X rest u):Hj X (st::rest) (bo t u):=by
 intro pins s σ H D I h;refine wpAny_execs_cons (AR (h1 pins s σ H {D with nx:=u D} I h) λf s1 q=>?_);cases f with
 |next=>
  obtain⟨σ',H',I',q⟩:=q;exact h2 pins s1 σ' H' D I' q
 |ret v=>exact q
 |brk=>exact q
 |cont=>exact q
def Af.quiet(I:Af X pins σ H s):interactive X.env=false:=by simp[interactive,I.ok.kind]
def ce(te:TE):TS:=λD σ H=>te σ H λ_ H1=>D.nx σ H1
def Uu(he:PE X e te)(hs:swapsWith e none pos.line X.env=pure false:=by rfl):PS X (.Expr e pos) (ce te):=by
 intro pins s σ H D I h;exact wpAny_Expr_any (AR (he pins s σ H _ I h) λv s1 ⟨x,H1,I1,r1,q1⟩=>⟨σ,H1,I1,q1⟩) I.quiet hs
def nG(te:TE):TS:=λD σ H=>te σ H D.rt
def XM(he:PE X e te):PS X (.Return (some e) pos) (nG te):=by
 intro pins s σ H D I h;exact wpAny_Return_some (AR (he pins s σ H _ I h) λv s1 ⟨x,H1,I1,r1,q1⟩=>⟨x,σ,H1,I1,r1,q1⟩)
def nL(c:TT)(t u:TS):TS:=λD σ H=>c σ H λb H1=>if b=true then t D σ H1 else u D σ H1
def gu(hc:PT X c tc)(ha:Hj X a t)(hb:Hj X b u):PS X (.If c a b pos) (nL tc t u):=by
 intro pins s σ H D I h;refine wpAny_If (AR (hc pins s σ H _ I h) λd s1 ⟨H1,I1,q1⟩=>?_);cases d with
 |true=>exact ha pins s1 σ H1 D I1 q1
 |false=>exact hb pins s1 σ H1 D I1 q1
end
abbrev TG:=V->St->Hp->(St->Hp->Prop)->Prop
abbrev aa:=List V->St->Hp->(St->Hp->Prop)->Prop
def PG(X:Cx)(target:Expr)(t:TG):Prop:=
 ∀(pins:List (Addr×Obj)) (s:Shared) (σ:St) (H:Hp) (v:V) (u:Value) (Q:St->Hp->Prop),Af X pins σ H s->As v u->t v σ H Q->
  wpAny (model X.prog X.w) X.A (assign target X.env u) (λ_ s'=>∃σ' H',Af X pins σ' H' s'/\Q σ' H') X.xe s
def ag(X:Cx)(ts:List Expr)(t:aa):Prop:=
 ∀(pins:List (Addr×Obj)) (s:Shared) (σ:St) (H:Hp) (vs:List V) (us:List Value) (Q:St->Hp->Prop),Af X pins σ H s->Al vs us->t vs σ H Q->
  wpAny (model X.prog X.w) X.A (assignInOrder ((assignEach ts X.env).map (·.2)) us) (λ_ s'=>∃σ' H',Af X pins σ' H' s'/\Q σ' H') X.xe s
abbrev jZ:=V->V->V->Hp->(Hp->Prop)->Prop
def ke(X:Cx)(t:jZ):Prop:=
 ∀(pins:List (Addr×Obj)) (s:Shared) (σ:St) (H:Hp) (o i v:V) (ov iv u:Value) (Q:Hp->Prop),Af X pins σ H s->As o ov->As i iv->As v u->t o i v H Q->
  wpAny (model X.prog X.w) X.A (setItem ov iv u) (λ_ s'=>∃H',Af X pins σ H' s'/\Q H') X.xe s
section
def KJ(i:Nat):TG:=λv σ H Q=>Q (σ.set i (some v)) H
def Nh{i:Nat}{x:Str}(hN:X.N.Nodup)(hi:X.N[i]?=some x)(hx:W7 X.env.scope x)(hf:X.fn x=true\/X.env.scope.names.lookup x=some .local:=by first|exact .inl rfl|exact .inr rfl|assumption):PG X (.Name x pos) (KJ i):=by
 intro pins s σ H v u Q I r h;exact wpAny_assign_Name (JU I hN hi hx r (λs' I'=>⟨_,H,I',h⟩) hf)
def ju:aa:=λvs σ H Q=>vs=[]/\Q σ H
def Wr(t:TG)(u:aa):aa:=λvs σ H Q=>∃v r,vs=v::r/\t v σ H λσ' H'=>u r σ' H' Q
def UA:ag X [] ju:=by
 intro pins s σ H vs us Q I r h;obtain⟨e,h⟩:=h;subst e;cases r;exact assignInOrder_nil ⟨σ,H,I,h⟩
def Rs(h1:PG X e t)(h2:ag X es u)
 (hs:(assignEach (e::es) X.env).map (·.2)=assign e X.env::(assignEach es X.env).map (·.2):=by rfl):ag X (e::es) (Wr t u):=by
 intro pins s σ H vs us Q I r h;obtain⟨v,vr,e1,h⟩:=h;subst e1;cases r with
 |cons r rr=>
  rw[hs];refine assignInOrder_cons (AR (h1 pins s σ H _ _ _ I r h) λ_ s1 ⟨σ1,H1,I1,q1⟩=>?_);exact h2 pins s1 σ1 H1 _ _ Q I1 rr q1
def pb(K:PySem.W.Frag)(n:Nat)(t:aa):TG:=λv σ H Q=>∃a xs,v=.ref a/\Iw K H a xs/\xs.length=n/\t xs σ H Q
def XV{k:Nat}{n:Nat}(hc:X.calm=true)(h:ag X es t)
 (hn:(assignEach es X.env).length=n:=by rfl)(hst:(assignEach es X.env).findIdx? (·.1)=none:=by rfl):PG X (.Tuple es k pos) (pb X.K n t):=by
 intro pins s σ H v u Q I r hw;obtain⟨a,xs,e1,hq,hl,hw⟩:=hw;subst e1;cases r;obtain⟨its,rv,ht,hz⟩:=I.tuple hq;refine assign_Tuple_tuple (I.ok.hd hc) ht (by simp[hn,←hl,rv.length]) hst λh' hx=>?_;have I1:=I.kept (t':=s.toks) λb o e=>hx b o (aX (aN e)) e;exact h pins _ σ H xs _ Q I1 (by simpa using rv) hw
def pd(to ti:TE)(t:jZ):TG:=λv σ H Q=>to σ H λo H1=>ti σ H1 λi H2=>t o i v H2 λH3=>Q σ H3
def XW(ho:PE X o to)(hi:PE X i ti)(hs:ke X t)
 (ha:∀v,assign (.Subscript o i pos) X.env v=(do
   let ov ←holding [v] (eval o X.env)
   let iv ←holding [v,ov] (eval i X.env)
   standAt pos
   holding [v,ov,iv] (setItem ov iv v)
   release [v,ov,iv] []):=by intro _;rfl):PG X (.Subscript o i pos) (pd to ti t):=by
 intro pins s σ H v u Q I r h;rw[ha];refine a8 (dU (AR (ho pins s σ H _ I h) λov s1 ⟨x,H1,I1,r1,q1⟩=>?_));refine a8 (dU (AR (hi pins s1 σ H1 _ I1 q1) λiv s2 ⟨y,H2,I2,r2,q2⟩=>?_));refine a8 (wpAny_standAt (a8 (dU (AR (hs pins s2 σ H2 x y v ov iv u _ I2 r1 r2 r q2) λ_ s3 ⟨H3,I3,q3⟩=>?_))));exact wpAny_release ⟨σ,H3,I3,q3⟩
def TQ(te:TE)(g:TG):TS:=λD σ H=>te σ H λx H1=>g x σ H1 D.nx
def XQ(he:PE X e te)(hg:PG X tg g)(hs:swapsWithSole [tg] e pos.line X.env=pure false:=by rfl)(hw:swappedStores [tg] e X.env=pure none:=by rfl)
 (h1:(assignEach [tg] X.env).map (·.2)=[assign tg X.env]:=by rfl):PS X (.Assign [tg] e pos) (TQ te g):=by
 intro pins s σ H D I h;refine wpAny_Assign_stores (AR (he pins s σ H _ I h) λv s1 ⟨x,H1,I1,r1,q1⟩=>?_) hs hw;rw[h1];exact AR (hg pins s1 σ H1 x v _ I1 r1 q1) λ_ s2 q=>q
def XJ{i:Nat}{x:Str}(hN:X.N.Nodup)(hi:X.N[i]?=some x)(hx:W7 X.env.scope x)(he:PE X e te)(hs:swapsWith e (some (.Name x pos')) pos.line X.env=pure false:=by rfl)(hf:X.fn x=true\/X.env.scope.names.lookup x=some .local:=by first|exact .inl rfl|exact .inr rfl|assumption) :
 PS X (.Assign [.Name x pos'] e pos) (TQ te (KJ i)):=by
 intro pins s σ H D I h;refine wpAny_Assign_Name (AR (he pins s σ H _ I h) λv s1 ⟨y,H1,I1,r1,q1⟩=>?_) hs;exact JU I1 hN hi hx r1 (λs2 I2=>⟨_,H1,I2,q1⟩) hf
end
section
def WO(c:TT)(tb:TS):TS:=λD σ H=>∃W:Nat->St->Hp->Prop,(∃m,W m σ H)/\∀m σ H,W m σ H->
 c σ H λb H1=>if b=true then ∃N:St->Hp->Prop,(∀σ' H',N σ' H'->∃m',m'<m/\W m' σ' H')/\tb {D with nx:=N,ct:=N,bk:=D.nx} σ H1 else D.nx σ H1
def QJ(hp:PassesOwn (model X.prog X.w) X.A X.env X.xe)(hc:PT X c tc)(hb:Hj X body tb):PS X (.While c body [] pos) (WO tc tb):=by
 intro pins s σ H D I h;obtain⟨W,⟨m0,w0⟩,turn⟩:=h;refine wpAny_While (codeAny_whileLoop (λn s'=>∃σ' H',Af X pins σ' H' s'/\W n σ' H') ?_ m0 ⟨σ,H,I,w0⟩);rintro n s1 ⟨σ1,H1,I1,w1⟩;refine dP hp (AR (hc pins s1 σ1 H1 _ I1 (turn n σ1 H1 w1)) λb s2 ⟨H2,I2,q2⟩=>?_);cases b with
 |true=>
  obtain⟨N,hN,q2⟩:=q2;rw[if_pos rfl];refine dP hp (AR (hb pins s2 σ1 H2 _ I2 q2) λf s3 q3=>?_);cases f with
  |next=>
   obtain⟨σ3,H3,I3,n3⟩:=q3;obtain⟨m',hm,w3⟩:=hN σ3 H3 n3;exact⟨m',hm,σ3,H3,I3,w3⟩
  |cont=>
   obtain⟨σ3,H3,I3,n3⟩:=q3;obtain⟨m',hm,w3⟩:=hN σ3 H3 n3;exact⟨m',hm,σ3,H3,I3,w3⟩
  |brk=>exact q3
  |ret v=>exact q3
 |false=>
  rw[if_neg aB];exact i7 ⟨σ1,H2,I2,q2⟩
end
structure It where
 go:Nat->Hp->Prop
 yld:Nat->Hp->V->Hp->Prop
 stop:Nat->Hp->Prop
def D5(X:Cx)(pins:List (Addr×Obj))(H:Hp)(b:Addr):Prop:=
 H b=none/\b≠X.env.locals/\b∉X.fs/\(b∈X.ex\/X.s₀.heap.objs.size<=b)/\(∀x c,X.env.cells.lookup x=some c->c≠b)/\∀p∈X.pn++pins,p.1≠b
def Af.fpOk(I:Af X pins σ H s)(hb:s.heap.objs.size<=b)(hn:H' b=none):D5 X pins H' b:=by
 refine⟨hn,f7 (aW I.lt hb),I.nofs hb,.inr (aV I.sz hb),λx c e z=>?_,λp hp z=>?_⟩
 ·obtain⟨v,q⟩:=I.cell x c e;exact absurd (aW q.lt (by rw[z];exact hb)) (cR _)
 exact absurd (aW (aN (I.pin p hp).1) (by rw[z];exact hb)) (cR _)
structure J6(P:Program)(w:World)(K:PySem.W.Frag)(tg:Expr)(J:It)(fp:List Addr)(it:Addr)(tn:Nat->Heap->Prop):Prop where
 mem:it∈fp
 obj:∀i h,tn i h->∀b∈fp,∃o,h.get? b=some o/\∀v,o.data≠ .cell v
 keep:∀i h h',tn i h->(∀b∈fp,∀o,h.get? b=some o->h'.get? b=some o)->tn i h'
 item:∀(X:Cx),X.prog=P->X.w=w->X.K=K->X.calm=true->∀(i:Nat) (pins:List (Addr×Obj)) (s:Shared) (σ:St) (H:Hp) (E:Value->Shared->Prop),Af X pins σ H s->(∀b∈fp,D5 X pins H b)->tn i s.heap->J.go i H->
  wpAny (model P w) X.A (pyNext (.ref it)) (λr s1=>∃u,r=some u/\
   wpAny (model P w) X.A (letOwnedTupleGo tg (.ref it) u) (λ_ s2=>E2 λx H'=>A5 (Af X pins σ H' s2) (As x u) (J.yld i H x H') (tn (i+1) s2.heap) (∀b∈fp,H' b=none)) E s1) E s
 done:∀(X:Cx),X.prog=P->X.w=w->X.K=K->X.calm=true->∀(i:Nat) (pins:List (Addr×Obj)) (s:Shared) (σ:St) (H:Hp) (E:Value->Shared->Prop),Af X pins σ H s->(∀b∈fp,D5 X pins H b)->tn i s.heap->J.stop i H->
  wpAny (model P w) X.A (pyNext (.ref it)) (λr s1=>r=none/\Af X pins σ H s1) E s
 self:∀(A:Around) (i:Nat) (s:Shared) (Q:Value->Shared->Prop) (E:Value->Shared->Prop),tn i s.heap->Q (.ref it) s->wpAny (model P w) A (pyIter (.ref it)) Q E s
abbrev TI:=St->Hp->(It->Hp->Prop)->Prop
def af(X:Cx)(pins:List (Addr×Obj))(σ:St)(tg:Expr)(R:It->Hp->Prop)(itv:Value)(s2:Shared):Prop:=
 E5 λ(it:Addr) (fp:List Addr) (tn:Nat->Heap->Prop) (J:It) (H':Hp)=>A6 (itv=.ref it) (Af X pins σ H' s2) (J6 X.prog X.w X.K tg J fp it tn) (tn 0 s2.heap) (∀b∈fp,D5 X pins H' b) (R J H')
def PI(X:Cx)(tg iter:Expr)(wi:TI):Prop:=
 ∀(pins:List (Addr×Obj)) (s:Shared) (σ:St) (H:Hp) (R:It->Hp->Prop),Af X pins σ H s->wi σ H R->
  wpAny (model X.prog X.w) X.A (eval iter X.env) (λv s1=>wpAny (model X.prog X.w) X.A (pyIter v) (af X pins σ tg R) X.xe s1) X.xe s
def KI{n:String}(ho:s.heap.get? it=some o)(hc:o.cls=.type n)(hd:o.data=.fields vs)
 (hn: ["enumerate","zip","dict_itemiterator","dict_reverseitemiterator","odict_iterator","itertools.zip_longest","itertools.pairwise"].contains n=false)(hQ:Q () s):wpAny M A (letOwnedTupleGo tg (.ref it) u) Q E s:=by
 unfold letOwnedTupleGo;cases tg<;>first
  |exact aO hQ
  |(cases u<;>first
     |exact aO hQ
     |(refine a8 (wpAny_load ho ?_)
       rw[hc,hd];show wpAny M A (if (["enumerate","zip","dict_itemiterator","dict_reverseitemiterator","odict_iterator","itertools.zip_longest","itertools.pairwise"].contains n&&vs[0]? ==some (rawInt _))=true then _ else _) Q E s;rw[if_neg (by intro h;rw[hn,Bool.false_and]at h;cases h)];exact aO hQ))
noncomputable def mx(K:PySem.W.Frag)(a:Addr):It:=
 ⟨λi H=>∃xs x,D4 K H a xs/\xs[i]?=some x,λi H x H'=>H'=H/\∀xs,D4 K H a xs->xs[i]?=some x,λi H=>∃xs,D4 K H a xs/\xs.length<=i⟩
noncomputable def qF(K:PySem.W.Frag)(a:Addr):It:=
 ⟨λi H=>∃xs x,Iw K H a xs/\xs[i]?=some x,λi H x H'=>H'=H/\∀xs,Iw K H a xs->xs[i]?=some x,λi H=>∃xs,Iw K H a xs/\xs.length<=i⟩
noncomputable def kh(lo:Int)(n:Nat):It:=⟨λi _=>i<n,λi H x H'=>H'=H/\x=.int (lo+i),λi _=>n<=i⟩
def Ot{P:Program}{w:World}{K:Fq}{tg:Expr}(a it:Addr):J6 P w K tg (mx K a) [it] it (λi h=>h.IsListIter it a i) where
 mem:=by simp
 obj:=λi h st b hb=>by
  have e:b=it:=by simpa using hb
  subst e;obtain⟨o,e,c,d⟩:=st;exact⟨o,e,λv z=>by rw[d]at z;cases z⟩
 keep:=λi h h' st k=>st.at λo e=>k it (by simp) o e
 item:=by
  intro X hP hw hK hc i pins s σ H E I hf st hg;subst hP hw hK;obtain⟨xs,x,hq,hx⟩:=hg;obtain⟨its,rv,p,hz⟩:=I.list hq;obtain⟨u,hu,ru⟩:=rv.get hx;obtain⟨f0,f1,f2,f3,f4,f5⟩:=hf it (by simp);refine wpAny_pyNext_list_item st p.isList (x:=u) (by simpa using hu) λh' st' sb=>?_;have I1:Af X pins σ H {s with heap:=h'}:=I.turned (t':=s.toks) (λb o hb e=>(sb.2 b hb).trans e) f0 f1 f3 f4 f5;obtain⟨o,e,c,d⟩:=id st';exact⟨u,rfl,KI (s:={s with heap:=h'}) e c d (by decide) ⟨x,H,I1,ru,⟨rfl,λys hy=>by rw[I.list_inj hy hq];exact hx⟩,st',λb hb=>(hf b hb).1⟩⟩
 done:=by
  intro X hP hw hK hc i pins s σ H E I hf st hg;subst hP hw hK;obtain⟨xs,hq,hx⟩:=hg;obtain⟨its,rv,p,hz⟩:=I.list hq;obtain⟨f0,f1,f2,f3,f4,f5⟩:=hf it (by simp);have hl:=rv.length;exact wpAny_pyNext_list_end (I.ok.hd hc) st p.isList (by simp;lia) λh' eb=>⟨rfl,I.turned (t':=s.toks) (λb o hb e=>eb b o hb e) f0 f1 f3 f4 f5⟩
 self:=λ_ _ _ _ _ st h=>wpAny_pyIter_listiter st h
def Lz{P:Program}{w:World}{K:Fq}{tg:Expr}(a it:Addr):J6 P w K tg (qF K a) [it] it (λi h=>h.IsTupleIter it a i) where
 mem:=by simp
 obj:=λi h st b hb=>by
  have e:b=it:=by simpa using hb
  subst e;obtain⟨o,e,c,d⟩:=st;exact⟨o,e,λv z=>by rw[d]at z;cases z⟩
 keep:=λi h h' st k=>st.at λo e=>k it (by simp) o e
 item:=by
  intro X hP hw hK hc i pins s σ H E I hf st hg;subst hP hw hK;obtain⟨xs,x,hq,hx⟩:=hg;obtain⟨its,rv,p,hz⟩:=I.tuple hq;obtain⟨u,hu,ru⟩:=rv.get hx;obtain⟨f0,f1,f2,f3,f4,f5⟩:=hf it (by simp);refine wpAny_pyNext_tuple_item st (show s.heap.IsTuple a its.toArray from p) (x:=u) (by simpa using hu) λh' st' sb=>?_;have I1:Af X pins σ H {s with heap:=h'}:=I.turned (t':=s.toks) (λb o hb e=>(sb.2 b hb).trans e) f0 f1 f3 f4 f5;obtain⟨o,e,c,d⟩:=id st';exact⟨u,rfl,KI (s:={s with heap:=h'}) e c d (by decide) ⟨x,H,I1,ru,⟨rfl,λys hy=>by rw[I.tuple_inj hy hq];exact hx⟩,st',λb hb=>(hf b hb).1⟩⟩
 done:=by
  intro X hP hw hK hc i pins s σ H E I hf st hg;subst hP hw hK;obtain⟨xs,hq,hx⟩:=hg;obtain⟨its,rv,p,hz⟩:=I.tuple hq;obtain⟨f0,f1,f2,f3,f4,f5⟩:=hf it (by simp);have hl:=rv.length;exact wpAny_pyNext_tuple_end (I.ok.hd hc) st (show s.heap.IsTuple a its.toArray from p) (by simp;lia) λh' eb=>⟨rfl,I.turned (t':=s.toks) (λb o hb e=>eb b o hb e) f0 f1 f3 f4 f5⟩
 self:=λ_ _ _ _ _ st h=>wpAny_pyIter_tupleiter st h
def L0{P:Program}{w:World}{K:Fq}{tg:Expr}(it:Addr)(lo:Int)(n:Nat):J6 P w K tg (kh lo n) [it] it (λi h=>IsRangeIter h it (lo+(i:Nat)*1) ((n:Int)-(i:Nat)) 1) where
 mem:=by simp
 obj:=λi h st b hb=>by
  have e:b=it:=by simpa using hb
  subst e;exact⟨_,st,λv z=>by
   have z':Data.fields _=Data.cell v:=z;cases z'⟩
 keep:=λi h h' st k=>k it (by simp) _ st
 item:=by
  intro X hP hw hK hc i pins s σ H E I hf st hg;subst hP hw hK;obtain⟨f0,f1,f2,f3,f4,f5⟩:=hf it (by simp);have W:=Walks.range (prog:=X.prog) (w:=X.w) (I.ok.hd hc) it lo 1 n;refine W.item i s _ _ hg st λv h' tk hv st' kk=>?_;obtain⟨t,rfl⟩:=hv;have I1:Af X pins σ H {s with heap:=h',toks:=tk}:=I.turned (λb o hb e=>kk b o (by simpa using hb) e) f0 f1 f3 f4 f5;refine⟨_,rfl,KI (s:={s with heap:=h',toks:=tk}) (n:= "range_iterator") st' rfl rfl (by decide) ⟨.int (lo+i),H,I1,⟨t,?_⟩,⟨rfl,rfl⟩,st',λb hb=>(hf b hb).1⟩⟩;rw[Int.mul_one]
 done:=by
  intro X hP hw hK hc i pins s σ H E I hf st hg;subst hP hw hK;obtain⟨f0,f1,f2,f3,f4,f5⟩:=hf it (by simp);exact wpAny_pyNext_range_end (I.ok.hd hc) st (by have:n<=i:=hg;lia) λh' eb=>⟨rfl,I.turned (t':=s.toks) (λb o hb e=>eb b o hb e) f0 f1 f3 f4 f5⟩
 self:=λ_ _ _ _ _ st h=>wpAny_pyIter_rangeiter st h
end L2
namespace L2
open PySem PySem.Spec PyProof.Rows
section
def Kh{lo hi:Int}{tk:Nat}(I:Af X pins σ H s)(h1: -(2^62)<=lo)(h2:lo<2^62)(h3: -(2^62)<=hi)(h4:hi<2^62)
 (q:R (kh lo (hi-lo).toNat) H):wpAny (model X.prog X.w) X.A (pyIter (.ref s.heap.objs.size)) (af X pins σ tg R) E {s with heap:=s.heap.push {cls:=.type "range",data:=.fields #[.int lo t,.int hi u,.int 1 v]},toks:=tk}:=by
 refine wpAny_pyIter_range (IsRange.new ..) (small_one h1 h2 h3 h4) ?_;have I1:Af X pins σ H {s with heap:=s.heap.push {cls:=.type "range",data:=.fields #[.int lo t,.int hi u,.int 1 v]},toks:=tk}:=I.kept λb o e=>aD _ e;refine⟨(s.heap.push {cls:=.type "range",data:=.fields #[.int lo t,.int hi u,.int 1 v]}).objs.size,[(s.heap.push {cls:=.type "range",data:=.fields #[.int lo t,.int hi u,.int 1 v]}).objs.size],_,_,H,rfl,
  I1.kept (t':=tk) λb o e=>aD _ e,L0 _ lo (hi-lo).toNat,?_,λb hb=>?_,q⟩
 ·have e1:lo+((0:Nat):Int)*1=lo:=by simp
  have e2:(((hi-lo).toNat:Nat):Int)-((0:Nat):Int)=Builtin.Range.rangeSize lo hi 1:=by rw[rangeSize_one];split<;>lia
  show IsRangeIter _ _ (lo+((0:Nat):Int)*1) ((((hi-lo).toNat:Nat):Int)-((0:Nat):Int)) 1;rw[e1,e2];exact aK _ rfl
 have e:b=(s.heap.push {cls:=.type "range",data:=.fields #[.int lo t,.int hi u,.int 1 v]}).objs.size:=by simpa using hb
 subst e;exact I1.fpOk (aH _) (I1.hok.fresh (aH _))
def jm(ta:TA):TI:=λσ H R=>ta σ H λvs H1=>∃j:Int,vs=[.int j]/\-(2^62)<=j/\j<2^62/\R (kh 0 j.toNat) H1
def jl(ta:TA):TI:=λσ H R=>ta σ H λvs H1=>∃i j:Int,vs=[.int i,.int j]/\(-(2^62)<=i/\i<2^62/\-(2^62)<=j/\j<2^62)/\R (kh i (j-i).toNat) H1
def O7(hg:Gl X "range")(hm:X.mg "range"=none)(ha:PA X [a] ta)(hs:starEach [a] X.env=[(false,eval a X.env)]:=by rfl):PI X tg (.Call (.Name "range" p) [a] [] pos) (jm ta):=by
 intro pins s σ H R I h;refine Call_ (Cz I hg hm boot_range (bZ (AR (ha pos pins s σ H _ I h) λus s1 ⟨vs,H1,I1,r1,q1⟩=>?_) hs rfl));obtain⟨j,e,q1,q2,q⟩:=q1;subst e;cases r1 with
 |cons r rr=>
  cases rr;obtain⟨t,rfl⟩:=r;exact call_range_1 (Kh I1 (by lia) (by lia) q1 q2 (by simpa using q))
def O6(hg:Gl X "range")(hm:X.mg "range"=none)(ha:PA X [a,b] ta)(hs:starEach [a,b] X.env=[(false,eval a X.env),(false,eval b X.env)]:=by rfl)(hs2:starEach [b] X.env=[(false,eval b X.env)]:=by rfl) :
 PI X tg (.Call (.Name "range" p) [a,b] [] pos) (jl ta):=by
 intro pins s σ H R I h;refine Call_ (Cz I hg hm boot_range (bZ (AR (ha pos pins s σ H _ I h) λus s1 ⟨vs,H1,I1,r1,q1⟩=>?_) (by rw[hs,hs2]) (by rw[hs2];rfl)));obtain⟨i,j,e,⟨q1,q2,q3,q4⟩,q⟩:=q1;subst e;cases r1 with
 |cons r rr=>
  cases rr with
  |cons r' rr=>
   cases rr;obtain⟨t,rfl⟩:=r;obtain⟨t',rfl⟩:=r';exact call_range_2 (Kh I1 q1 q2 q3 q4 q)
def nM(wi:TI)(g:TG)(tb:TS):TS:=λD σ H=>wi σ H λJ H1=>∃W:Nat->Nat->St->Hp->Prop,(∃m,W 0 m σ H1)/\∀i m σ H,W i m σ H->
 (J.stop i H/\D.nx σ H)\/(J.go i H/\∃N:St->Hp->Prop,(∀σ' H',N σ' H'->∃m',m'<m/\W (i+1) m' σ' H')/\∀x H',J.yld i H x H'->g x σ H' λσ2 H2=>tb {D with nx:=N,ct:=N,bk:=D.nx} σ2 H2)
noncomputable def Gs(fp:List Addr)(h:Heap):List (Addr×Obj):=fp.filterMap λb=>(h.get? b).map λo=>(b,o)
def CP(hb:b∈fp)(e:h.get? b=some o):(b,o)∈Gs fp h:=List.mem_filterMap.mpr ⟨b,hb,by rw[e];rfl⟩
def ON(hp:p∈Gs fp h):p.1∈fp/\h.get? p.1=some p.2:=by
 obtain⟨b,hb,e⟩:=List.mem_filterMap.mp hp;cases q:h.get? b with
 |none=>rw[q]at e;cases e
 |some o=>
  rw[q]at e;have e':=bE e;subst e';exact⟨hb,q⟩
def Af.pinned(I:Af X pins σ H s)(hf:∀b∈fp,D5 X pins H b)(ho:∀b∈fp,∃o,s.heap.get? b=some o/\∀v,o.data≠ .cell v):Af X (pins++Gs fp s.heap) σ H s:=
 I.pins_of λp hp=>(bP.mp hp).elim (λz=>I.pin p (bD _ z)) λz=>by
  obtain⟨hb,e⟩:=ON z;obtain⟨f0,f1,f2,_⟩:=hf p.1 hb;obtain⟨o,e',d⟩:=ho p.1 hb;rw[e]at e';cases e';exact⟨e,f0,f1,f2,d⟩
def Af.unpinned(I:Af X (pins++pl) σ H s):Af X pins σ H s:=I.pins_of λp hp=>I.pin p (bD _ (dA _ hp))
def XN(hp:PassesOwn (model X.prog X.w) X.A X.env X.xe)(hc:X.calm=true)(hi:PI X tg iter wi)(hg:PG X tg g)(hb:Hj X body tb)
 (hs:∀x,foldedSetIterable iter X.env x=pure x:=by intro _;rfl):PS X (.For tg iter body [] pos) (nM wi g tb):=by
 intro pins s σ H D I h;refine wpAny_For (AR (hi pins s σ H _ I h) λv s1 h1=>AR h1 λitv s2 h2=>?_) hs;obtain⟨it,fp,tn,J,H2,e,I2,T,st2,f2,W,⟨m0,w0⟩,turn⟩:=h2;subst e;have stat:∀{H':Hp},(∀b∈fp,H' b=none)->∀b∈fp,D5 X pins H' b:=λhn b hb=>⟨hn b hb,(f2 b hb).2⟩;refine codeAny_forLoop_any (λn s'=>∃i σ' H',Af X pins σ' H' s'/\tn i s'.heap/\(∀b∈fp,H' b=none)/\W i n σ' H') ?_ m0 ⟨0,σ,H2,I2,st2,λb hb=>(f2 b hb).1,w0⟩;rintro n s3 ⟨i,σ3,H3,I3,st3,fr3,w3⟩;rcases turn i n σ3 H3 w3 with⟨stop,qn⟩|⟨go,N,hN,step⟩
 ·refine dP hp (AR (T.done X rfl rfl rfl hc i pins s3 σ3 H3 X.xe I3 (stat fr3) st3 stop) λr s4 ⟨hr,I4⟩=>?_);subst hr;exact i7 ⟨σ3,H3,I4,qn⟩
 refine dP hp (AR (T.item X rfl rfl rfl hc i pins s3 σ3 H3 X.xe I3 (stat fr3) st3 go) λr s4 ⟨u,hr,h4⟩=>?_);subst hr;refine dP hp (AR h4 λ_ s5 ⟨x,H5,I5,r5,y5,st5,fr5⟩=>?_);have I5':=I5.pinned (stat fr5) (T.obj _ _ st5);refine dP hp (AR (hg _ s5 σ3 H5 x u _ I5' r5 (step x H5 y5)) λ_ s6 ⟨σ6,H6,I6,q6⟩=>?_);refine dP hp (AR (hb _ s6 σ6 H6 _ I6 q6) λf s7 q7=>?_);have again:∀{σ7:St}{H7:Hp},Af X (pins++Gs fp s5.heap) σ7 H7 s7->N σ7 H7->∃m,m<n/\∃i σ' H',Af X pins σ' H' s7/\tn i s7.heap/\(∀b∈fp,H' b=none)/\W i m σ' H':=λ{σ7 H7} I7 n7=>by
  obtain⟨m',hm,w7⟩:=hN σ7 H7 n7;refine⟨m',hm,i+1,σ7,H7,I7.unpinned,T.keep _ _ _ st5 λb hb o e=>(I7.pin (b,o) (bD _ (bD _ (CP hb e)))).1,λb hb=>?_,w7⟩;obtain⟨o,e,d⟩:=T.obj _ _ st5 b hb;exact(I7.pin (b,o) (bD _ (bD _ (CP hb e)))).2.1
 cases f with
 |next=>obtain⟨σ7,H7,I7,n7⟩:=q7;exact again I7 n7
 |cont=>obtain⟨σ7,H7,I7,n7⟩:=q7;exact again I7 n7
 |brk=>obtain⟨σ7,H7,I7,q7⟩:=q7;exact⟨σ7,H7,I7.unpinned,q7⟩
 |ret v=>obtain⟨x7,σ7,H7,I7,r7,q7⟩:=q7;exact⟨x7,σ7,H7,I7.unpinned,r7,q7⟩
end
end L2
namespace L2
open PySem PySem.Spec PyProof.Rows
abbrev R2:=V->V->Hp->VK->Prop
def BE(X:Cx)(f:Value->Value->Sem Value)(r:R2):Prop:=
 ∀(pins:List (Addr×Obj)) (s:Shared) (σ:St) (H:Hp) (x y:V) (v u:Value) (Q:VK),Af X pins σ H s->As x v->As y u->r x y H Q->
  wpAny (model X.prog X.w) X.A (f v u) (EP X pins σ Q) X.xe s
def jY(X:Cx)(f:Value->Sem Value)(r:V->Hp->VK->Prop):Prop:=
 ∀(pins:List (Addr×Obj)) (s:Shared) (σ:St) (H:Hp) (x:V) (v:Value) (Q:VK),Af X pins σ H s->As x v->r x H Q->
  wpAny (model X.prog X.w) X.A (f v) (EP X pins σ Q) X.xe s
def Bh(X:Cx)(f:Value)(r:List V->Hp->VK->Prop):Prop:=
 ∀(pins:List (Addr×Obj)) (s:Shared) (σ:St) (H:Hp) (xs:List V) (us:List Value) (Q:VK),Af X pins σ H s->Al xs us->r xs H Q->
  wpAny (model X.prog X.w) X.A (call f us) (EP X pins σ Q) X.xe s
def q9(X:Cx)(r:V->Hp->(Bool->Hp->Prop)->Prop):Prop:=
 ∀(pins:List (Addr×Obj)) (s:Shared) (σ:St) (H:Hp) (x:V) (v:Value) (Q:Bool->Hp->Prop),Af X pins σ H s->As x v->r x H Q->
  wpAny (model X.prog X.w) X.A (truthy v) (TP X pins σ Q) X.xe s
def br(r:R2)(ta tb:TE):TE:=λσ H Q=>ta σ H λx H1=>tb σ H1 λy H2=>r x y H2 Q
def rh(r:V->Hp->VK->Prop)(ta:TE):TE:=λσ H Q=>ta σ H λx H1=>r x H1 Q
def rI(C:Int->Int->Prop)(g:Int->Int->V):R2:=λx y H Q=>E2 λi j=>A4 (x=.int i) (y=.int j) (C i j) (Q (g i j) H)
def PP(g:Int->Int->V):R2:=λx y H Q=>∃i j,x=.int i/\y=.int j/\Q (g i j) H
def rU(g:Int->V):V->Hp->VK->Prop:=λx H Q=>∃i,x=.int i/\Q (g i) H
section
def Z2(ha:PE X a ta)(hb:PE X b tb){pins:Pq}{s:Shared}{σ:St}{H:Hp}{R:V->V->Hp->Prop}(I:Af X pins σ H s)
 (h:ta σ H λx H1=>tb σ H1 λy H2=>R x y H2){Q:Vq}{f:Value->Value->Sem Value}
 (hf:∀v u s2 x y H2,Af X pins σ H2 s2->As x v->As y u->R x y H2->wpAny (model X.prog X.w) X.A (f v u) Q X.xe s2) :
 wpAny (model X.prog X.w) X.A (eval a X.env) (λv s₁=>wpAny (model X.prog X.w) X.A (eval b X.env) (λu s₂=>wpAny (model X.prog X.w) X.A (f v u) Q X.xe s₂) X.xe s₁) X.xe s:=by
 refine AR (ha pins s σ H _ I h) λv s1 ⟨x,H1,I1,r1,q1⟩=>?_;refine AR (hb pins s1 σ H1 _ I1 q1) λu s2 ⟨y,H2,I2,r2,q2⟩=>?_;exact hf v u s2 x y H2 I2 r1 r2 q2
def ib{op:Operator}{r:R2}(ho:BE X (binaryOp op) r)(ha:PE X a ta)(hb:PE X b tb):PE X (.BinOp a op b pos) (br r ta tb):=by
 intro pins s σ H Q I h;exact wpAny_BinOp (Z2 ha hb I h λv u s2 x y H2 I2 rx ry q=>ho pins s2 σ H2 x y v u Q I2 rx ry q)
def gz(ho:jY X (unaryOp op) r)(ha:PE X a ta):PE X (.UnaryOp op a pos) (rh r ta):=by
 intro pins s σ H Q I h;exact UnaryOp_ (AR (ha pins s σ H _ I h) λv s1 ⟨x,H1,I1,r1,q1⟩=>ho pins s1 σ H1 x v Q I1 r1 q1)
def ZQ{C:Int->Int->Prop}{g:Int->Int->Int}
 (rule:∀(i j:Int) (t u:Tok) (s:Shared) (Q:Vq) (E:Vq),C i j->Q (.int (g i j) s.toks) {s with toks:=s.toks+1}->wpAny (model X.prog X.w) X.A (f (.int i t) (.int j u)) Q E s) :
 BE X f (rI C λi j=>.int (g i j)):=by
 intro pins s σ H x y v u Q I rx ry h;obtain⟨i,j,rfl,rfl,hc,q⟩:=h;obtain⟨t,rfl⟩:=rx;obtain⟨t',rfl⟩:=ry;exact rule i j t t' s _ _ hc ⟨.int (g i j),H,I.tok _,⟨_,rfl⟩,q⟩
def R8{g:Int->Int->Int}
 (rule:∀(i j:Int) (t u:Tok) (s:Shared) (Q:Vq) (E:Vq),Q (.int (g i j) s.toks) {s with toks:=s.toks+1}->wpAny (model X.prog X.w) X.A (f (.int i t) (.int j u)) Q E s) :
 BE X f (PP λi j=>.int (g i j)):=by
 intro pins s σ H x y v u Q I rx ry h;obtain⟨i,j,rfl,rfl,q⟩:=h;obtain⟨t,rfl⟩:=rx;obtain⟨t',rfl⟩:=ry;exact rule i j t t' s _ _ ⟨.int (g i j),H,I.tok _,⟨_,rfl⟩,q⟩
def UK{g:Int->Int->Bool}
 (rule:∀(i j:Int) (t u:Tok) (s:Shared) (Q:Vq) (E:Vq),Q (.bool (g i j)) s->wpAny (model X.prog X.w) X.A (f (.int i t) (.int j u)) Q E s) :
 BE X f (PP λi j=>.bl (g i j)):=by
 intro pins s σ H x y v u Q I rx ry h;obtain⟨i,j,rfl,rfl,q⟩:=h;obtain⟨t,rfl⟩:=rx;obtain⟨t',rfl⟩:=ry;exact rule i j t t' s _ _ ⟨.bl (g i j),H,I,rfl,q⟩
def ko(i j:Int):Prop:=0<=j/\j<=1000000/\i.natAbs<2^64
def ZK(i j:Int):Prop:=(-(2^64)<i/\i<2^64)\/(-(2^64)<j/\j<2^64)
def ZK.ok{i j:Int}(h:ZK i j):IntMulOk i j:=by
 rcases h with⟨h1,h2⟩|⟨h1,h2⟩
 ·exact .of_left (intBits_le_64 h1 h2)
 exact .of_right (intBits_le_64 h1 h2)
def Ly(k:Nat):(0:Int)<=2^k:=by
 rw[two_pow_cast];exact bW _
def Yr:BE X (binaryOp .Add) (PP λi j=>.int (i+j)):=R8 λ_ _ _ _ _ _ _ q=>add_int q
def Yf:BE X (binaryOp .Sub) (PP λi j=>.int (i-j)):=R8 λ_ _ _ _ _ _ _ q=>sub_int q
def Yl:BE X (binaryOp .Mult) (rI ZK λi j=>.int (i*j)):=ZQ λ_ _ _ _ _ _ _ hc q=>mul_int q hc.ok
def Ym:BE X (binaryOp .Mod) (rI (λ_ j=>0<j) λi j=>.int (i%j)):=ZQ λi j _ _ _ _ _ hc q=>by
 have h1:=hc;exact mod_int' (by lia) (by rw[Int.fmod_eq_emod_of_nonneg i (by lia)];exact q)
def Yj:BE X (binaryOp .Pow) (rI ko λi j=>.int (i^j.toNat)):=ZQ λ_ _ _ _ _ _ _ hc q=>pow_int_small hc.1 hc.2.1 hc.2.2 q
def Yh:BE X (binaryOp .LShift) (rI ko λi j=>.int (i*2^j.toNat)):=ZQ λ_ _ _ _ _ _ _ hc q=>lshift_int_small hc.1 hc.2.1 hc.2.2 q
def Yg:BE X (binaryOp .RShift) (rI (λ_ j=>0<=j) λi j=>.int (i / 2^j.toNat)):=ZQ λi j _ _ _ _ _ hc q=>
 rshift_int hc (by rw[gH i (Ly _)];exact q)
def Yq:BE X (binaryOp .BitAnd) (PP λi j=>.int (Builtin.bitAnd i j)):=R8 λ_ _ _ _ _ _ _ q=>and_int q
def ij:BE X (binaryOp .BitOr) (PP λi j=>.int (Builtin.bitOr i j)):=R8 λ_ _ _ _ _ _ _ q=>or_int q
def Ye:BE X (binaryOp .BitXor) (PP λi j=>.int (Builtin.bitXor i j)):=R8 λ_ _ _ _ _ _ _ q=>xor_int q
def qZ{g:Int->Int}
 (rule:∀(i:Int) (t:Tok) (s:Shared) (Q:Vq) (E:Vq),Q (.int (g i) s.toks) {s with toks:=s.toks+1}->wpAny (model X.prog X.w) X.A (f (.int i t)) Q E s) :
 jY X f (rU λi=>.int (g i)):=by
 intro pins s σ H x v Q I rx h;obtain⟨i,rfl,q⟩:=h;obtain⟨t,rfl⟩:=rx;exact rule i t s _ _ ⟨.int (g i),H,I.tok _,⟨_,rfl⟩,q⟩
def WI:jY X (unaryOp .USub) (rU λi=>.int (-i)):=qZ λ_ _ _ _ _ q=>neg_int q
def WJ:jY X (unaryOp .Invert) (rU λi=>.int (Builtin.bitNot i)):=qZ λ_ _ _ _ _ q=>invert_int q
end
noncomputable def Uc:V->V->Bool
 |.non,.non=>true| .non,.int _=>true| .int _,.non=>true| .non,.bl _=>true| .bl _,.non=>true| .non,.str _=>true| .str _,.non=>true
 |.int _,.int _=>true| .bl _,.bl _=>true| .str _,.str _=>true| .byt _,.byt _=>true
 |.int _,.str _=>true| .str _,.int _=>true| .bl _,.str _=>true| .str _,.bl _=>true
 |_,_=>false
def tI:R2:=λx y H Q=>Uc x y=true/\Q (.bl (decide (x=y))) H
def tH:R2:=λx y H Q=>Uc x y=true/\Q (.bl (!decide (x=y))) H
def NO{i j:Int}:decide (V.int i=V.int j)=(i ==j):=by
 rw[cO];simp
def S9:decide (V.bl i=V.bl j)=(i ==j):=by
 rw[cO];simp
def NN{i j:Str}:decide (V.str i=V.str j)=(i ==j):=by
 rw[cO];simp
def NP:decide (V.byt i=V.byt j)=(i.toList ==j.toList):=by
 rw[cO];cases i;cases j;simp
section
def Aw(I:Af X pins σ H s)(q:Q (.bl k) H)(e:k=k'):EP X pins σ Q (.bool k') s:=by
 subst e;exact⟨.bl k,H,I,rfl,q⟩
def ir:BE X (compareOp .Eq) tI:=by
 intro pins s σ H x y v u Q I rx ry h;obtain⟨hs,q⟩:=h;cases x with
 |non=>
  cases rx;cases y with
  |non=>cases ry;exact PySem.EqNone.eq_none_none (Aw I q (by simp))
  |bl j=>cases ry;exact PySem.EqNone.eq_none_bool (Aw I q (by simp))
  |int j=>obtain⟨t',rfl⟩:=ry;exact PySem.EqNone.eq_none_int (Aw I q (by simp))
  |str j=>obtain⟨t',rfl⟩:=ry;exact PySem.EqNone.eq_none_str (Aw I q (by simp))
  |_=>exact absurd (show false=true from hs) aB
 |bl i=>
  cases rx;cases y with
  |non=>cases ry;exact PySem.EqNone.eq_bool_none (Aw I q (by simp))
  |bl j=>cases ry;exact eq_bool (Aw I q S9)
  |str j=>obtain⟨t',rfl⟩:=ry;exact PySem.EqMixed.eq_bool_str (Aw I q (by simp))
  |_=>exact absurd (show false=true from hs) aB
 |int i=>
  obtain⟨t,rfl⟩:=rx;cases y with
  |non=>cases ry;exact PySem.EqNone.eq_int_none (Aw I q (by simp))
  |int j=>obtain⟨t',rfl⟩:=ry;exact eq_int (Aw I q NO)
  |str j=>obtain⟨t',rfl⟩:=ry;exact PySem.EqMixed.eq_int_str (Aw I q (by simp))
  |_=>exact absurd (show false=true from hs) aB
 |str i=>
  obtain⟨t,rfl⟩:=rx;cases y with
  |non=>cases ry;exact PySem.EqNone.eq_str_none (Aw I q (by simp))
  |bl j=>cases ry;exact PySem.EqMixed.eq_str_bool (Aw I q (by simp))
  |int j=>obtain⟨t',rfl⟩:=ry;exact PySem.EqMixed.eq_str_int (Aw I q (by simp))
  |str j=>obtain⟨t',rfl⟩:=ry;exact eq_str (Aw I q NN)
  |_=>exact absurd (show false=true from hs) aB
 |byt i=>
  obtain⟨t,rfl⟩:=rx;cases y with
  |byt j=>obtain⟨t',rfl⟩:=ry;exact PySem.W.eq_bytes (Aw I q NP)
  |_=>exact absurd (show false=true from hs) aB
 |_=>cases y<;>exact absurd (show false=true from hs) aB
def ik:BE X (compareOp .NotEq) tH:=by
 intro pins s σ H x y v u Q I rx ry h;obtain⟨hs,q⟩:=h;cases x with
 |non=>
  cases rx;cases y with
  |non=>cases ry;exact PySem.EqNone.ne_none_none (Aw I q (by simp))
  |bl j=>cases ry;exact PySem.EqNone.ne_none_bool (Aw I q (by simp))
  |int j=>obtain⟨t',rfl⟩:=ry;exact PySem.EqNone.ne_none_int (Aw I q (by simp))
  |str j=>obtain⟨t',rfl⟩:=ry;exact PySem.EqNone.ne_none_str (Aw I q (by simp))
  |_=>exact absurd (show false=true from hs) aB
 |bl i=>
  cases rx;cases y with
  |non=>cases ry;exact PySem.EqNone.ne_bool_none (Aw I q (by simp))
  |bl j=>cases ry;exact ne_bool (Aw I q (bQ not S9))
  |str j=>obtain⟨t',rfl⟩:=ry;exact PySem.EqMixed.ne_bool_str (Aw I q (by simp))
  |_=>exact absurd (show false=true from hs) aB
 |int i=>
  obtain⟨t,rfl⟩:=rx;cases y with
  |non=>cases ry;exact PySem.EqNone.ne_int_none (Aw I q (by simp))
  |int j=>obtain⟨t',rfl⟩:=ry;exact ne_int (Aw I q (bQ not NO))
  |str j=>obtain⟨t',rfl⟩:=ry;exact PySem.EqMixed.ne_int_str (Aw I q (by simp))
  |_=>exact absurd (show false=true from hs) aB
 |str i=>
  obtain⟨t,rfl⟩:=rx;cases y with
  |non=>cases ry;exact PySem.EqNone.ne_str_none (Aw I q (by simp))
  |bl j=>cases ry;exact PySem.EqMixed.ne_str_bool (Aw I q (by simp))
  |int j=>obtain⟨t',rfl⟩:=ry;exact PySem.EqMixed.ne_str_int (Aw I q (by simp))
  |str j=>obtain⟨t',rfl⟩:=ry;exact ne_str (Aw I q (bQ not NN))
  |_=>exact absurd (show false=true from hs) aB
 |byt i=>
  obtain⟨t,rfl⟩:=rx;cases y with
  |byt j=>obtain⟨t',rfl⟩:=ry;exact PySem.W.ne_bytes (Aw I q (bQ not NP))
  |_=>exact absurd (show false=true from hs) aB
 |_=>cases y<;>exact absurd (show false=true from hs) aB
def im:BE X (compareOp .Lt) (PP λi j=>.bl (decide (i<j))):=UK λ_ _ _ _ _ _ _ q=>lt_int q
def io:BE X (compareOp .LtE) (PP λi j=>.bl (decide (i<=j))):=UK λ_ _ _ _ _ _ _ q=>le_int q
def ip:BE X (compareOp .Gt) (PP λi j=>.bl (decide (j<i))):=UK λ_ _ _ _ _ _ _ q=>gt_int q
def iq:BE X (compareOp .GtE) (PP λi j=>.bl (decide (j<=i))):=UK λ_ _ _ _ _ _ _ q=>ge_int q
def OL:BE X (compareOp .In) (λx y H Q=>∃i j,x=.str i/\y=.str j/\Q (.bl (!(Builtin.Str.occurrences j i 0 j.length 1).isEmpty)) H):=by
 intro pins s σ H x y v u Q I rx ry h;obtain⟨i,j,rfl,rfl,q⟩:=h;obtain⟨t,rfl⟩:=rx;obtain⟨t',rfl⟩:=ry;exact in_str (Aw I q rfl)
def Yn:BE X (compareOp .Is) (λx y H Q=>y=.non/\Q (.bl (decide (x=.non))) H):=by
 intro pins s σ H x y v u Q I rx ry h;obtain⟨rfl,q⟩:=h;cases ry;refine is_none_gen (Aw I q ?_);cases x<;>first
  |(cases rx;rfl)
  |(obtain⟨t,rfl⟩:=rx;rfl)
def UI:BE X (compareOp .IsNot) (λx y H Q=>y=.non/\Q (.bl (!decide (x=.non))) H):=by
 intro pins s σ H x y v u Q I rx ry h;obtain⟨rfl,q⟩:=h;cases ry;refine isnot_none_gen (Aw I q ?_);cases x<;>first
  |(cases rx;rfl)
  |(obtain⟨t,rfl⟩:=rx;rfl)
def UE{op:CmpOp}{r:R2}(ho:BE X (compareOp op) r)(ha:PE X a ta)(hb:PE X b tb)(hm:behindInMarks op b=false):PE X (.Compare a [op] [b] pos) (br r ta tb):=by
 intro pins s σ H Q I h;exact wpAny_Compare1 (Z2 ha hb I h λv u s2 x y H2 I2 rx ry q=>ho pins s2 σ H2 x y v u Q I2 rx ry q) hm
def Qs(t:TE):TT:=λσ H Q=>t σ H λx H'=>∃k,x=.bl k/\Q k H'
def Us(ho:BE X (compareOp op) r)(ha:PE X a ta)(hb:PE X b tb)(hm:behindInMarks op b=false):PT X (.Compare a [op] [b] pos) (Qs (br r ta tb)):=by
 intro pins s σ H Q I h;refine wpAny_isTrue_Compare1 (AR (ha pins s σ H _ I h) λv s1 ⟨x,H1,I1,r1,q1⟩=>AR (hb pins s1 σ H1 _ I1 q1) λu s2 ⟨y,H2,I2,r2,q2⟩=>
  AR (ho pins s2 σ H2 x y v u _ I2 r1 r2 q2) λc s3 ⟨z,H3,I3,r3,k,e,q3⟩=>?_) hm
 subst e;cases r3;exact cM ⟨H3,I3,q3⟩
def L5(r r':R2)(ta tb tc:TE):TE:=λσ H Q=>ta σ H λx H1=>tb σ H1 λy H2=>r x y H2 λz H3=>∃k,z=.bl k/\
 (if k=true then tc σ H3 λw' H4=>r' y w' H4 Q else Q (.bl false) H3)
def R3(ho:BE X (compareOp op) r)(ho':BE X (compareOp op') r')(ha:PE X a ta)(hb:PE X b tb)(hc:PE X c tc)
 (hm:lastMarks [op,op'] [b,c]=false:=by with_unfolding_all rfl):PE X (.Compare a [op,op'] [b,c] pos) (L5 r r' ta tb tc):=by
 intro pins s σ H Q I h;refine Compare_chain (AR (ha pins s σ H _ I h) λv s1 ⟨x,H1,I1,r1,q1⟩=>chain_link (AR (hb pins s1 σ H1 _ I1 q1) λu s2 ⟨y,H2,I2,r2,q2⟩=>
  AR (ho pins s2 σ H2 x y v u _ I2 r1 r2 q2) λd s3 ⟨z,H3,I3,r3,k,e,q3⟩=>?_)) hm
 subst e;cases r3;refine cM ?_;cases k with
 |false=>exact ite_ff ⟨.bl false,H3,I3,rfl,q3⟩
 |true=>exact ite_tt (chain_last (AR (hc pins s3 σ H3 _ I3 q3) λw' s4 ⟨z',H4,I4,r4,q4⟩=>ho' pins s4 σ H4 y z' u w' Q I4 r2 r4 q4))
def QH(ho:BE X (compareOp op) r)(ho':BE X (compareOp op') r')(ha:PE X a ta)(hb:PE X b tb)(hc:PE X c tc)
 (hm:lastMarks [op,op'] [b,c]=false:=by with_unfolding_all rfl):PT X (.Compare a [op,op'] [b,c] pos) (Qs (L5 r r' ta tb tc)):=by
 intro pins s σ H Q I h;refine isTrue_chain (AR (ha pins s σ H _ I h) λv s1 ⟨x,H1,I1,r1,q1⟩=>test_link (AR (hb pins s1 σ H1 _ I1 q1) λu s2 ⟨y,H2,I2,r2,q2⟩=>
  AR (ho pins s2 σ H2 x y v u _ I2 r1 r2 q2) λd s3 ⟨z,H3,I3,r3,k,e,q3⟩=>?_)) hm
 subst e;cases r3;refine cM ?_;cases k with
 |false=>
  obtain⟨k',e',q'⟩:=q3;cases e';exact ite_ff ⟨H3,I3,q'⟩
 |true=>
  refine ite_tt (test_last (AR (hc pins s3 σ H3 _ I3 q3) λw' s4 ⟨z',H4,I4,r4,q4⟩=>AR (ho' pins s4 σ H4 y z' u w' _ I4 r2 r4 q4) λd' s5 ⟨z2,H5,I5,r5,k2,e2,q5⟩=>?_));subst e2;cases r5;exact cM ⟨H5,I5,q5⟩
def Z8(K:PySem.W.Frag)(x:V)(H:Hp)(k:Bool):Prop:=
 match x with
 |.non=>k=false
 |.bl b=>k=b
 |.int i=>k=(i !=0)
 |.str y=>y.length<=sizeLine/\k=((y.length:Int) !=0)
 |.byt y=>y.size<=sizeLine/\k=((y.size:Int) !=0)
 |.ref p=>(∃xs,D4 K H p xs/\k=!xs.isEmpty)\/(∃xs,Iw K H p xs/\k=!xs.isEmpty)\/∃kvs,H p=some (.dK kvs)/\k=!kvs.isEmpty
 |_=>False
def Mj{κ:Type}{kvs:List (κ×V)}{vs:List (κ×Value)}(r:KV kvs vs):(!vs.isEmpty)=!kvs.isEmpty:=by
 cases r<;>rfl
def GI(r:Al xs its):(!its.toArray.isEmpty)=!xs.isEmpty:=by
 cases r<;>simp
def Eb:(sizeLine:Nat)<2^63:=by rw[dI];decide
def WL:q9 X (λx H Q=>∃k,Z8 X.K x H k/\Q k H):=by
 intro pins s σ H x v Q I rx h;obtain⟨k,e,q⟩:=h;have hl:=Eb;have hs:=dI;cases x with
 |non=>
  cases rx;have e':=e;subst e';exact truthy_none ⟨H,I,q⟩
 |bl b=>
  cases rx;have e':=e;subst e';exact cM ⟨H,I,q⟩
 |int i=>
  obtain⟨t,rfl⟩:=rx;have e':=e;subst e';exact PySem.P.truthy_int ⟨H,I,q⟩
 |str y=>
  obtain⟨t,rfl⟩:=rx;obtain⟨hy,e'⟩:y.length<=sizeLine/\k=((y.length:Int) !=0):=e;subst e';exact PySem.P.truthy_str (by lia) ⟨H,I.tok _,q⟩
 |byt y=>
  obtain⟨t,rfl⟩:=rx;obtain⟨hy,e'⟩:y.size<=sizeLine/\k=((y.size:Int) !=0):=e;subst e';exact PySem.W.truthy_bytes (by lia) ⟨H,I.tok _,q⟩
 |ref p=>
  cases rx;have e':=e;rcases e' with⟨xs,hx,e'⟩|⟨xs,hx,e'⟩|⟨kvs,hx,e'⟩
  ·subst e';obtain⟨its,r,pl,hz⟩:=I.list hx;have hlen:=r.length;exact wpAny_truthy_list pl.isList (by simp only[List.size_toArray];lia) ⟨H,I.tok _,by rw[GI r];exact q⟩
  ·subst e';obtain⟨its,r,pl,hz⟩:=I.tuple hx;have hlen:=r.length;exact truthy_tuple pl (by simp only[List.size_toArray];lia) ⟨H,I.tok _,by rw[GI r];exact q⟩
  subst e';obtain⟨hz,hS,vs,r,m⟩:kvs.length<=sizeLine/\(p ==sysModules)=false/\∃vs,KV kvs vs/\s.heap.DictOf (Aj X.prog X.w) p vs:=I.hok p _ hx;have hlen:=Paired.length r;exact wpAny_truthy_dict hS m (by lia) ⟨H,I.tok _,by rw[Mj r];exact q⟩
 |_=>exact(show False from e).elim
def QG(ha:PE X a ta)(he:∀whole,isTrue a X.env whole=(do let v ←whole;standAt a.pos;holding [v] (truthy v))) :
 PT X a (λσ H Q=>ta σ H λx H'=>∃k,Z8 X.K x H' k/\Q k H'):=by
 intro pins s σ H Q I h;exact isTrue_plain (AR (ha pins s σ H _ I h) λv s1 ⟨x,H1,I1,r1,q1⟩=>WL pins s1 σ H1 x v Q I1 r1 q1) (he _)
def LM:BE X (binaryOp .Add) (λx y H Q=>∃i j,x=.str i/\y=.str j/\i.length+j.length<=sizeLine/\Q (.str (i++j)) H):=by
 intro pins s σ H x y v u Q I rx ry h;obtain⟨i,j,rfl,rfl,hz,q⟩:=h;obtain⟨t,rfl⟩:=rx;obtain⟨t',rfl⟩:=ry;exact add_str (λt' tk=>⟨.str (i++j),H,I.tok _,⟨_,rfl⟩,q⟩) hz
def C5(r:Al [x] us):∃u,us=[u]/\As x u:=by
 cases r with
 |cons r1 r2=>cases r2;exact⟨_,rfl,r1⟩
def Fw(r:Al [x,y] us):∃u w',us=[u,w']/\As x u/\As y w':=by
 cases r with
 |cons r1 r2=>
  cases r2 with
  |cons r3 r4=>cases r4;exact⟨_,_,rfl,r1,r3⟩
def P5(hc:X.calm=true):Bh X (.builtin "max") (λxs H Q=>∃i j,xs=[.int i,.int j]/\Q (.int (if j>i then j else i)) H):=by
 intro pins s σ H xs us Q I r h;obtain⟨i,j,rfl,q⟩:=h;obtain⟨u,w',rfl,⟨t,rfl⟩,⟨t',rfl⟩⟩:=Fw r;refine max_two_ints (I.ok.hd hc) λh' tk k=>⟨_,H,I.kept k,?_,q⟩;by_cases hj:j>i
 ·rw[if_pos hj,if_pos hj];exact⟨_,rfl⟩
 rw[if_neg hj,if_neg hj];exact⟨_,rfl⟩
def P3(hc:X.calm=true):Bh X (.builtin "min") (λxs H Q=>∃i j,xs=[.int i,.int j]/\Q (.int (if j<i then j else i)) H):=by
 intro pins s σ H xs us Q I r h;obtain⟨i,j,rfl,q⟩:=h;obtain⟨u,w',rfl,⟨t,rfl⟩,⟨t',rfl⟩⟩:=Fw r;refine min_two_ints (I.ok.hd hc) λh' tk k=>⟨_,H,I.kept k,?_,q⟩;by_cases hj:j<i
 ·rw[if_pos hj,if_pos hj];exact⟨_,rfl⟩
 rw[if_neg hj,if_neg hj];exact⟨_,rfl⟩
def Im:Bh X (.type "int") (λxs H Q=>(∃i,xs=[.int i]/\Q (.int i) H)\/∃k,xs=[.bl k]/\Q (.int (if k then 1 else 0)) H):=by
 intro pins s σ H xs us Q I r h;rcases h with⟨i,rfl,q⟩|⟨k,rfl,q⟩
 ·obtain⟨u,rfl,t,rfl⟩:=C5 r;exact call_int_int ⟨.int i,H,I,⟨_,rfl⟩,q⟩
 obtain⟨u,rfl,r1⟩:=C5 r;cases r1;exact call_int_bool ⟨.int (if k then 1 else 0),H,I.tok _,⟨_,rfl⟩,q⟩
end
end L2
namespace L2
open PySem PySem.Spec PyProof.Rows
structure MF(h:Heap)(x dx C:Addr)(mA:Str->Option Value):Prop where
 obj:h.get? x=some (PySem.W.instObj C dx)
 ns:h.Ns1 dx mA
 ne:dx≠x
def OY{h:Heap}(n:h.Ns1 dx mA):∃od,h.get? dx=some od/\∀name,PySem.W.lookIn name od=some (mA name):=by
 obtain⟨o,es,ep,ho,hd,hk,_,hm⟩:=n;refine⟨o,ho,λname=>?_⟩;have e:=hm name;unfold nsFind findBy at e;rw[←Array.find?_toList]at e;unfold PySem.W.lookIn;rw[hd];dsimp only;split
 ·rename_i y q;rw[q]at e;exact bQ some e
 rename_i q;rw[q]at e;have a:es.toList.any (·.refKey)=false:=by
  rw[List.any_eq_false];intro y hy;obtain⟨z,t,hkey⟩:=hk y (iJ.mp hy);simp[DictEntry.refKey,hkey]
 have a': ¬es.toList.any (·.refKey)=true:=by rw[a];exact aB
 rw[if_neg a'];exact bQ some e
def MF.look(I:MF h x dx C mA):∃od,PySem.W.InstAt h x (PySem.W.instObj C dx) C (some od)/\∀name,PySem.W.lookIn name od=some (mA name):=
 let ⟨od,ho,hl⟩:=OY I.ns
 ⟨od,⟨I.obj,rfl,rfl,ho⟩,hl⟩
section
variable {prog:Program}{w:World}{A:Around}{E:Vq}{s:Shared}{K:Fq}{x dx C f:Addr}{mA:Mq}{name:Str}{v:Value}
def Vk(X:K.In s.heap)(I:MF s.heap x dx C mA)(hg:PySem.W.plainGet K C name=true)(hh:PySem.W.hasDictIn K C=true)
 (ha:PySem.W.findIn K (.ref C) name=some none)(hv:mA name=some v)(hv':PySem.W.handedIn v=true)(h:Q v {s with toks:=s.toks+1}) :
 wpAny (model prog w) A (getAttr (.ref x) name expr) Q E s:=by
 obtain⟨od,J,hl⟩:=I.look;exact PySem.W.get_value X J (PySem.W.plainGet_of hg).1 (PySem.W.findObj_own hh ha rfl (by rw[hl,hv])) hv' h
def Sl(X:K.In s.heap)(I:MF s.heap x dx C mA)(hg:PySem.W.plainGet K C name=true)
 (hf:PySem.W.findIn K (.ref C) name=some (some (.ref f)))(ht:PySem.W.isFn K (.ref f)=true)(hv:mA name=none)(h:Q (.ref f,[.ref x]) s) :
 wpAny (model prog w) A (getMethod (.ref x) name pl) Q E s:=by
 obtain⟨od,J,hl⟩:=I.look;exact PySem.W.method_fn X J (PySem.W.plainGet_of hg).1 (PySem.W.plainGet_of hg).2 hf (aP.mp ht) (by show(PySem.W.lookIn name od).map (·.isSome)=some false;rw[hl,hv];rfl) h
def Ua(X:K.In s.heap)(I:MF s.heap x dx C mA)
 (hs:PySem.W.findIn K (.ref C) "__setattr__"=some (some (.builtin "object.__setattr__")))(hp:PySem.W.plainOver K C=true)(ht:PySem.W.takerIn K C name=some none)(hh:PySem.W.hasDictIn K C=true)
 (hw:PySem.Within mA ns)(hsz:ns.length<=sizeLine)
 (h:∀h',MF h' x dx C (λy=>if y=name then some v else mA y)->Heap.SameBut dx s.heap h'->Q () {s with heap:=h',toks:=s.toks+2}) :
 wpAny (model prog w) A (setAttr (.ref x) name v) Q E s:=by
 obtain⟨od,J,hl⟩:=I.look;refine PySem.W.set_plain X J hs (PySem.W.osa_open (s:={s with toks:=s.toks+1}) (r:=none) X J hp ht λb=>?_);obtain⟨cd,hc,hd'⟩:=PySem.W.any_some hh;have hx:=I.obj;refine a8 (aO (a8 (a8 (wpAny_loadPart hx (a8 (PySem.W.Looks.here (s:={s with toks:=s.toks+1}) (PySem.W.looks_clsIn X hc) ?_))))));rw[hd'];refine aO (a:=some dx) (a8 (aO (a8 ?_)));refine wpAny_nsSet1 (s:={s with toks:=s.toks+1}) I.ns λh' hn2 hs2=>?_;obtain⟨oD,esD,epD,hoD,hdD,hcD⟩:=hn2.count (PySem.Within.cons name v hw);refine a8 (wpAny_lookBehind hoD (by rw[hdD];exact pastItsLine_dict (aV hcD (by rw[bV];lia))) ?_);exact aO (h _ ⟨(hs2.2 _ (bN I.ne)).trans I.obj,hn2,I.ne⟩ hs2)
def RG(X:K.In s.heap)(hm:PySem.W.makesIn K C=true)
 (hi:PySem.W.findIn K (.ref C) "__init__"=some (some (.ref f)))(hf:PySem.W.typeIn K (.ref f)=some (.type "function"))
 (h:codeAny (model prog w) (A.under (.builtin "type.__call__" ⟨.ref C::vs,kw⟩)) (.call (.ref f) ⟨.ref (s.heap.objs.size+1)::vs,kw⟩) (PySem.W.InitBack (s.heap.objs.size+1) R)
   {s with heap:=(s.heap.push PySem.W.emptyDict).push (PySem.W.instObj C s.heap.objs.size)}) :
 codeAny (model prog w) A (.call (.ref C) ⟨vs,kw⟩) R s:=by
 obtain⟨hh,g,d,t,os⟩:=s;exact PySem.W.make_core (PySem.W.makes_of X hm) (PySem.W.looks_findIn X hi) (λself=>PySem.W.bind_fn X self hf) (.inl rfl) h
def OU(X:K.In s.heap)(hm:PySem.W.makesIn K C=true)
 (hi:PySem.W.findIn K (.ref C) "__init__"=some (some (.builtin "object.__init__")))
 (hb:∀self,PySem.W.Looks (model prog w) s.heap (bindSpecial (.builtin "object.__init__") self) (.builtin "object.__init__",[self]))
 (h:codeAny (model prog w) (A.under (.builtin "type.__call__" ⟨[.ref C],[]⟩)) (.call (.builtin "object.__init__") ⟨[.ref (s.heap.objs.size+1)],[]⟩) (PySem.W.InitBack (s.heap.objs.size+1) R)
   {s with heap:=(s.heap.push PySem.W.emptyDict).push (PySem.W.instObj C s.heap.objs.size)}) :
 codeAny (model prog w) A (.call (.ref C) ⟨[],[]⟩) R s:=by
 obtain⟨hh,g,d,t,os⟩:=s;exact PySem.W.make_core (PySem.W.makes_of X hm) (PySem.W.looks_findIn X hi) hb (.inr ⟨rfl,rfl⟩) h
end
noncomputable def Dg(f:Str)(v:V):List (Str×V)->List (Str×V)
 |[]=>[(f,v)]
 |(g,x)::r=>if g=f then(g,v)::r else(g,x)::Dg f v r
theorem F7(f g:Str)(v:V):∀fs:List (Str×V),(Dg f v fs).lookup g=if g=f then some v else fs.lookup g
 |[]=>by
  show List.lookup g [(f,v)]=_;by_cases h:g=f
  ·have hb:=aP.mpr h;simp only[List.lookup,hb,if_pos h]
  have hb:=bG.mpr h;simp only[List.lookup,hb,if_neg h]
 |(k,x)::r=>by
  have ih:=F7 f g v r;rw[show Dg f v ((k,x)::r)=(if k=f then(k,v)::r else(k,x)::Dg f v r) from rfl];by_cases hk:k=f
  ·rw[if_pos hk];by_cases h:g=k
   ·have hb:=aP.mpr h;simp only[List.lookup,hb,if_pos (h.trans hk)]
   have hb:=bG.mpr h;simp only[List.lookup,hb,if_neg (λe:g=f=>h (e.trans hk.symm))]
  rw[if_neg hk];by_cases h:g=k
  ·have hb:=aP.mpr h;simp only[List.lookup,hb,if_neg (λe:g=f=>hk (h.symm.trans e))]
  have hb:=bG.mpr h;simp only[List.lookup,hb];exact ih
theorem EZ(f:Str)(v:V):∀fs:List (Str×V),f∈(Dg f v fs).map (·.1)/\∀g,g∈fs.map (·.1)->g∈(Dg f v fs).map (·.1)
 |[]=>⟨by simp[Dg],λg h=>by simp at h⟩
 |(k,x)::r=>by
  obtain⟨i1,i2⟩:=EZ f v r;rw[show Dg f v ((k,x)::r)=(if k=f then(k,v)::r else(k,x)::Dg f v r) from rfl];by_cases hk:k=f
  ·rw[if_pos hk];subst hk;exact⟨by simp,λg h=>by simpa using h⟩
  rw[if_neg hk];refine⟨?_,λg h=>?_⟩
  ·rw[aF];exact aC _ i1
  rw[aF]at h ⊢;rcases aR.mp h with e|e
  ·exact List.mem_cons.mpr (.inl e)
  exact aC _ (i2 g e)
theorem FA(f:Str)(v:V):∀fs:List (Str×V),(Dg f v fs).length<=fs.length+1
 |[]=>by simp[Dg]
 |(k,x)::r=>by
  have ih:=FA f v r;rw[show Dg f v ((k,x)::r)=(if k=f then(k,v)::r else(k,x)::Dg f v r) from rfl];by_cases hk:k=f
  ·rw[if_pos hk,bV,bV];lia
  rw[if_neg hk,bV,bV];lia
def DN.some_of(r:DN (some v) o):∃u,o=some u/\As v u:=by
 cases o with
 |none=>exact(show False from r).elim
 |some u=>exact⟨u,rfl,r⟩
def DN.none_of(r:DN none o):o=none:=by
 cases o with
 |none=>rfl
 |some u=>exact(show False from r).elim
def Pl(r:As v u):PySem.W.handedIn u=true:=by
 cases v with
 |non=>cases (show u=Value.none from r);rfl
 |bl b=>cases (show u=Value.bool b from r);rfl
 |int i=>obtain⟨t,e⟩:=(show ∃t,u=Value.int i t from r);cases e;rfl
 |str x=>obtain⟨t,e⟩:=(show ∃t,u=Value.str x t from r);cases e;rfl
 |byt b=>obtain⟨t,e⟩:=(show ∃t,u=Value.bytes b t from r);cases e;rfl
 |flt b=>obtain⟨t,e⟩:=(show ∃t,u=Value.float b t from r);cases e;rfl
 |ref a=>cases (show u=Value.ref a from r);rfl
 |ty n=>cases (show u=Value.type n from r);rfl
section
def FX(hok:De P w H h)(e:H a=some (.ins C dx fs)):∃mA,A5 (MF h a dx C mA) (∀f,DN (fs.lookup f) (mA f)) (PySem.Within mA (fs.map (·.1))) (fs.length<=1000) (H dx=some (.own a)):=by
 obtain⟨d,z,ne,ob,mA,n,r,q⟩:=(show AG P w H h a (.ins C dx fs) from hok a _ e);exact⟨mA,⟨ob,n,ne⟩,r,q,z,d⟩
end
structure Tv(K:PySem.W.Frag)(C:Addr):Prop where
 pg:PySem.W.plainGet K C Str.empty=true
 hd:PySem.W.hasDictIn K C=true
 po:PySem.W.plainOver K C=true
 sa:PySem.W.findIn K (.ref C) "__setattr__"=some (some (.builtin "object.__setattr__"))
def Tv.get{K:Fq}{C:Addr}(c:Tv K C)(f:Str):PySem.W.plainGet K C f=true:=c.pg
def Fp(K:PySem.W.Frag)(C:Addr)(f:Str):Prop:=PySem.W.findIn K (.ref C) f=some none
def Fp.taker{K:Fq}{C:Addr}{f:Str}(n:Fp K C f):PySem.W.takerIn K C f=some none:=by
 unfold PySem.W.takerIn;rw[show PySem.W.findIn K (.ref C) f=some none from n];rfl
structure ZG(K:PySem.W.Frag)(C:Addr)(m:Str)(f:Addr):Prop where
 at_:PySem.W.findIn K (.ref C) m=some (some (.ref f))
 fn:PySem.W.isFn K (.ref f)=true
 kp:PySem.W.keepIn K (.ref f)=true
section
variable {f:Str}
def Mp(I:Af X pins σ H s)(e:H a=some (.ins C dx fs))(c:Tv X.K C)(n:Fp X.K C f)(l:fs.lookup f=some v)
 (h:∀u s',Af X pins σ H s'->As v u->Q u s'):wpAny (model X.prog X.w) A (getAttr (.ref a) f b) Q E s:=by
 obtain⟨mA,O,r,_,_,_⟩:=FX I.hok e;obtain⟨u,hu,ru⟩:=DN.some_of (v:=v) (o:=mA f) (by rw[←l];exact r f);exact Vk I.kIn O (c.get f) c.hd n hu (Pl ru) (h u _ (I.tok _) ru)
def GP{m:Str}(I:Af X pins σ H s)(e:H a=some (.ins C dx fs))(c:Tv X.K C)(k:ZG X.K C m g)(l:fs.lookup m=none)
 (h:Q (.ref g,[.ref a]) s):wpAny (model X.prog X.w) A (getMethod (.ref a) m pl) Q E s:=by
 obtain⟨mA,O,r,_,_,_⟩:=FX I.hok e;have hn:=DN.none_of (by rw[←l];exact r m);exact Sl I.kIn O (c.get m) k.at_ k.fn hn h
def LA(I:Af X pins σ H s)(e:H a=some (.ins C dx fs))(c:Tv X.K C)(n:Fp X.K C f)(hl:fs.length<1000)(ry:As y u)
 (h:∀s',Af X pins σ (upd H a (.ins C dx (Dg f y fs))) s'->Q () s'):wpAny (model X.prog X.w) A (setAttr (.ref a) f u) Q E s:=by
 obtain⟨mA,O,r,wi,_,ho⟩:=FX I.hok e;have hz:(fs.map (·.1)).length<=sizeLine:=by rw[aI,dI];lia
 refine Ua I.kIn O c.sa c.po n.taker c.hd wi hz λh' O' sb=>h _ ?_;have hd:∃o,h'.get? dx=some o:=let ⟨o,_,_,e',_⟩:=O'.ns;⟨o,e'⟩;refine I.write (x:=a) (e:=dx) (by rw[e];exact True.intro) (.inr ho) (λb q hb z=>(sb.2 b hb).trans z) hd ?_;refine⟨by rw[Ab O.ne];exact ho,?_,O.ne,O'.obj,_,O'.ns,λg=>?_,λg hg=>?_⟩
 ·have:=FA f y fs;lia
 ·show DN ((Dg f y fs).lookup g) (if g=f then some u else mA g);rw[F7];by_cases q:g=f
  ·rw[if_pos q,if_pos q];exact ry
  rw[if_neg q,if_neg q];exact r g
 by_cases q:g=f
 ·rw[q];exact(EZ f y fs).1
 refine(EZ f y fs).2 g (wi g λz=>hg ?_);show(if g=f then some u else mA g)=none;rw[if_neg q];exact z
def Af.made(I:Af X pins σ H s):Af X pins σ (upd (upd H s.heap.objs.size (.own (s.heap.objs.size+1))) (s.heap.objs.size+1) (.ins C s.heap.objs.size []))
 {s with heap:=(s.heap.push PySem.W.emptyDict).push (PySem.W.instObj C s.heap.objs.size)}:=by
 have e1:(s.heap.push PySem.W.emptyDict).get? s.heap.objs.size=some PySem.W.emptyDict:=aK s.heap rfl;have e2:((s.heap.push PySem.W.emptyDict).push (PySem.W.instObj C s.heap.objs.size)).get? (s.heap.objs.size+1)=some (PySem.W.instObj C s.heap.objs.size):=by
  have:=aK (s.heap.push PySem.W.emptyDict) (o:=PySem.W.instObj C s.heap.objs.size) rfl
  rwa[cK]at this
 have e3:(s.heap.push PySem.W.emptyDict).Ns s.heap.objs.size (λ_=>none):=⟨PySem.W.emptyDict,#[],_,e1,rfl,(λe he=>absurd he (by simp)),λ_=>rfl⟩;have I1:=I.laid (a:=s.heap.objs.size) (o:=.own (s.heap.objs.size+1)) (h':=s.heap.push PySem.W.emptyDict) (t':=s.toks) (λb u q=>aD _ q) (aH _) ⟨_,e1⟩;refine I1.laid (a:=s.heap.objs.size+1) (o:=.ins C s.heap.objs.size []) (t':=s.toks) (λb u q=>aD _ q) (hU (cK _ _)) ?_;have ne:s.heap.objs.size≠s.heap.objs.size+1:=aX (eC _);refine⟨by rw[Ab ne,Ac],cS _,ne,e2,λ_=>none,(Heap.Ns1.of_empty e3).at λo q=>aD _ q,λ_=>True.intro,λy hy=>absurd rfl hy⟩
def VB{f:Str}(hb:attributeBase e f env (eval e env)=eval e env)
 (h:wpAny (model prog w) A (eval e env) (λo s₁=>wpAny (model prog w) A (getAttr o f true) Q E s₁) E s):wpAny (model prog w) A (eval (.Attribute e f pos) env) Q E s:=
 Attribute_any_ h (by rw[arm_eval_Attribute,hb])
end
def oj(K:PySem.W.Frag)(ta tv:TE)(f:Str):TS:=λD σ H=>tv σ H λy H1=>ta σ H1 λx H2=>E4 λa C dx fs=>A6 (x=.ref a) (H2 a=some (.ins C dx fs)) (Tv K C) (Fp K C f) (fs.length<1000) (D.nx σ (upd H2 a (.ins C dx (Dg f y fs))))
section
variable {f:Str}
def XO(ha:PE X o ta)(hv:PE X value tv)(hs:swapsWith value (some (.Attribute o f pos')) pos.line X.env=pure false):PS X (.Assign [.Attribute o f pos'] value pos) (oj X.K ta tv f):=by
 intro pins s σ H D I h;refine plainObj_wpAny_Assign_Attribute (AR (hv pins s σ H _ I h) λu s1 ⟨y,H1,I1,ry,q⟩=>AR (ha pins s1 σ H1 _ I1 q) λov s2 ⟨x,H2,I2,rx,a,C,dx,fs,ex,ea,c,n,l,q2⟩=>?_) hs;subst ex;obtain rfl:ov=Value.ref a:=rx;exact LA I2 ea c n l ry λs3 I3=>⟨σ,_,I3,q2⟩
end
section
inductive Ei(K:PySem.W.Frag)(H:Hp):V->Value->Prop where
 |non:Ei K H .non (.type "NoneType")
 |bl (x:Bool):Ei K H (.bl x) (.type "bool")
 |int (i:Int):Ei K H (.int i) (.type "int")
 |str (x:Str):Ei K H (.str x) (.type "str")
 |flt (x:UInt64):Ei K H (.flt x) (.type "float")
 |lst {a:Addr}{xs:List V}(e:H a=some (.lst xs)):Ei K H (.ref a) (.type "list")
 |frz {a:Addr}{o:Obj}{xs:List V}(e:H a=some (.frz o (.lst xs))):Ei K H (.ref a) (.type "list")
 |tup {a:Addr}{xs:List V}(e:H a=some (.tup xs)):Ei K H (.ref a) (.type "tuple")
 |dK {a:Addr}{kvs:List (Key×V)}(e:H a=some (.dK kvs)):Ei K H (.ref a) (.type "dict")
 |dT {a:Addr}{kvs:List (List Key×V)}(e:H a=some (.dT kvs)):Ei K H (.ref a) (.type "dict")
 |ins {a C dx:Addr}{fs:List (Str×V)}(e:H a=some (.ins C dx fs)) (cl:Tv K C) (ha:PySem.W.findIn K (.ref C) "__class__"=some (some (.builtin "object.__class__")))
  (hn:PySem.W.specialIn K (.builtin "object.__class__") "__get__"=some (some (.builtin "getset_descriptor.__get__"))) (htk:PySem.W.takesIn K (.builtin "object.__class__")=some true)
  (hm:PySem.W.mroIn K C (.type "object")=some true):Ei K H (.ref a) (.ref C)
def Pe(I:Af X pins σ H s)(rx:As x u)(ty:Ei X.K H x t)(e:PySem.W.kitOne X.K t c=some b)(h:∀tk,Q (.bool b) {s with toks:=tk}) :
 wpAny (model X.prog X.w) A (call (.builtin "isinstance") [u,c]) Q E s:=by
 cases ty with
 |non=>cases (show u=Value.none from rx);exact PySem.W.kia_one PySem.W.kitx_none I.kIn True.intro e (λz=>nomatch z) h
 |bl y=>cases (show u=Value.bool y from rx);exact PySem.W.kia_one PySem.W.kitx_bool I.kIn True.intro e (λz=>nomatch z) h
 |int i=>obtain⟨t,q⟩:=(show ∃t,u=Value.int i t from rx);cases q;exact PySem.W.kia_one PySem.W.kitx_int I.kIn True.intro e (λz=>nomatch z) h
 |str y=>obtain⟨t,q⟩:=(show ∃t,u=Value.str y t from rx);cases q;exact PySem.W.kia_one PySem.W.kitx_str I.kIn True.intro e (λz=>nomatch z) h
 |flt y=>obtain⟨t,q⟩:=(show ∃t,u=Value.float y t from rx);cases q;exact PySem.W.kia_one PySem.W.kitx_float I.kIn True.intro e (λz=>nomatch z) h
 |@lst a xs ea=>
  cases (show u=Value.ref a from rx);obtain⟨_,_,n,_,h1⟩:=(show AG X.prog X.w H s.heap a (.lst xs) from I.hok a _ ea);exact PySem.W.kia_one PySem.W.kitx_list I.kIn ⟨_,h1,rfl⟩ e (λz=>nomatch z) h
 |@frz a ob xs ea=>
  cases (show u=Value.ref a from rx);obtain⟨_,_,_,n,_,h1⟩:=(show AG X.prog X.w H s.heap a (.frz ob (.lst xs)) from I.hok a _ ea);exact PySem.W.kia_one PySem.W.kitx_list I.kIn ⟨_,h1,rfl⟩ e (λz=>nomatch z) h
 |@tup a xs ea=>
  cases (show u=Value.ref a from rx);obtain⟨_,_,_,p⟩:=(show AG X.prog X.w H s.heap a (.tup xs) from I.hok a _ ea);obtain⟨o,h1,h2,_⟩:=p;exact PySem.W.kia_one PySem.W.kitx_tuple I.kIn ⟨o,h1,h2⟩ e (λz=>nomatch z) h
 |@dK a kvs ea=>
  cases (show u=Value.ref a from rx);obtain⟨_,_,vs,_,p⟩:=(show AG X.prog X.w H s.heap a (.dK kvs) from I.hok a _ ea);obtain⟨o,es,ep,h1,h2,_⟩:=p;exact PySem.W.kia_one PySem.W.kitx_dict I.kIn ⟨o,h1,h2.1⟩ e (λz=>nomatch z) h
 |@dT a kvs ea=>
  cases (show u=Value.ref a from rx);obtain⟨_,_,xs,_,o,es,ep,h1,h2,_⟩:=(show AG X.prog X.w H s.heap a (.dT kvs) from I.hok a _ ea);exact PySem.W.kia_one PySem.W.kitx_dict I.kIn ⟨o,h1,h2.1⟩ e (λz=>nomatch z) h
 |@ins a C dx fs ea cl ha hn htk hm=>
  cases (show u=Value.ref a from rx);obtain⟨mA,O,_⟩:=FX I.hok ea;obtain⟨od,J,_⟩:=O.look;exact PySem.W.kia_one (PySem.W.kitx_own (cl.get _) cl.hd ha hn htk hm) I.kIn J e (λz=>nomatch z) h
end
end L2
namespace L2
open PySem PySem.Spec PyProof.Rows
structure Bi(k:Nat)(A:Around):Prop where
 hd:A.handled=none
 dp:A.depth+3*k+5<recursionLimit
 un:A.units+16*k+200<cLine
 gd:A.guards=some []
def Bi.mono{j k:Nat}(r:Bi k A)(h:j<=k):Bi j A:=⟨r.hd,by have:=r.dp;lia,by have:=r.un;lia,r.gd⟩
theorem Bi.deeper{k:Nat}(r:Bi (k+1) A)(env:Env):Bi k (A.deeper env):=
 ⟨r.hd,by have:=r.dp;show A.depth+1+3*k+5<_;lia,by have:=r.un;show A.units+3+16*k+200<_;lia,by have:=r.gd;first|exact this|simpa[Around.deeper]using this⟩
def LW{A:Around}:(A.under (.builtin "type.__call__" ⟨.ref C::us,kw⟩)).depth=A.depth+1:=by
 first|rfl|simp[Around.under,Code.weight,Code.isCreation,Code.isGuard,Code.isCaller,Code.frames,Code.isFrame,guardIds]
def LV{A:Around}:(A.under (.builtin "type.__call__" ⟨.ref C::us,kw⟩)).units=A.units+1:=by
 first|rfl|simp[Around.under,Code.cUnits,Code.frames,Code.isFrame]
def Bi.make{k:Nat}(r:Bi (k+1) A)(C:Addr)(us:List Value)(kw:List (Str×Value)):Bi k (A.under (.builtin "type.__call__" ⟨.ref C::us,kw⟩)):=
 ⟨r.hd,by have:=r.dp;rw[LW];lia,by have:=r.un;rw[LV];lia,by have:=r.gd;first|exact this|simpa[Around.under,Code.guards,Code.isGuard,guardIds,pushGuards]using this⟩
theorem Bi.depth{k:Nat}(r:Bi k A):A.depth<recursionLimit:=by have:=r.dp;lia
def nJ:TA:=λ_ H Q=>Q [] H
def cg(ta:TE)(tr:TA):TA:=λσ H Q=>ta σ H λx H1=>tr σ H1 λxs H2=>Q (x::xs) H2
section
def IM:PA X [] nJ:=λ_ _ _ _ H Q I h=>gN ⟨[],H,I,.nil,h⟩
def ED(ha:PE X e te)(hr:PA X es t)(hs:starEach (e::es) X.env=(false,eval e X.env)::starEach es X.env:=by rfl):PA X (e::es) (cg te t):=by
 intro pos pins s σ H Q I h;rw[hs];show wpAny _ _ (spliced ((false,eval e X.env)::backTo pos (starEach es X.env))) _ _ s;refine gB (AR (ha pins s σ H _ I h) λu s1 ⟨x,H1,I1,r1,q1⟩=>?_);exact AR (hr pos pins s1 σ H1 _ I1 q1) λus s2 ⟨xs,H2,I2,r2,q2⟩=>⟨x::xs,H2,I2,.cons r1 r2,q2⟩
def nE(t:TA):TE:=λσ H Q=>t σ H λxs H1=>xs.length<=sizeLine/\∀p,H1 p=none->Q (.ref p) (upd H1 p (.tup xs))
def nK(t:TA):TE:=λσ H Q=>t σ H λxs H1=>xs.length<=sizeLine/\∀p,H1 p=none->Q (.ref p) (upd H1 p (.lst xs))
def XX{x1}(h:PA X es t):PE X (.Tuple es x1 pos) (nE t):=by
 intro pins s σ H Q I hq;refine wpAny_Tuple_spliced (AR (h pos pins s σ H _ I hq) λus s1 ⟨xs,H1,I1,r,z,q⟩=>⟨by rw[←r.length];exact z,?_⟩);have hf:=I1.hok.fresh (aH _);refine⟨.ref s1.heap.objs.size,upd H1 s1.heap.objs.size (.tup xs),I1.laid (t':=s1.toks) (λb u e=>aD _ e) (aH _) ?_,rfl,q _ hf⟩;exact⟨z,us,r,⟨_,aK _ rfl,rfl,_,rfl⟩⟩
def Ru(h:PA X es t):PE X (.List es pos) (nK t):=by
 intro pins s σ H Q I hq;refine wpAny_List_spliced (AR (h pos pins s σ H _ I hq) λus s1 ⟨xs,H1,I1,r,z,q⟩=>⟨by rw[←r.length];exact z,?_⟩);have hf:=I1.hok.fresh (aH _);refine⟨.ref s1.heap.objs.size,upd H1 s1.heap.objs.size (.lst xs),I1.laid (t':=s1.toks) (λb u e=>aD _ e) (aH _) ?_,rfl,q _ hf⟩;exact⟨z,us,0,r,aK _ rfl⟩
end
abbrev Sp:=List V->Hp->VK->XK->Prop
abbrev W8:=List Env->Hp->Shared->XK->Value->Shared->Prop
structure Hf(P:Program)(w:World)(K:PySem.W.Frag)(mg:Str->Option Value)(base:Heap)(A:Around)(outer:List Env)(s:Shared)(H:Hp):Prop where
 frames:A.frames=some outer
 mod:Mod K mg base
 bs:∀b o,base.get? b=some o->s.heap.get? b=some o/\H b=none
 bsz:base.objs.size<=s.heap.objs.size
 funs:s.heap.FunFrames base outer
 frf:∀b∈KL outer,H b=none
 hok:De P w H s.heap
 bare:AllBare s.gens
def CE(outer:List Env)(P:Program)(w:World)(H:Hp)(s:Shared)(Q:VK)(u:Value)(s':Shared):Prop:=
 E2 λv H'=>A6 (s'.os=s.os) (AllBare s'.gens) (Un (KL outer) [] H H' s.heap s'.heap) (De P w H' s'.heap) (As v u) (Q v H')
def CR(CX:W8)(outer:List Env)(P:Program)(w:World)(H:Hp)(s:Shared)(Q:VK)(E:XK)(r:Result)(s':Shared):Prop:=
 match r with
 |.ok (.ret u)=>CE outer P w H s Q u s'
 |.ok _=>False
 |.error e=>CX outer H s E e s'
structure D6(P:Program)(w:World)(K:PySem.W.Frag)(mg:Str->Option Value)(base:Heap)(CX:W8)(k:Nat)(f:Addr)(fd:FuncData)(ps:List Str)(sp:Sp):Prop where
 len:∀vs H Q E,sp vs H Q E->vs.length=ps.length
 run:∀(A:Around) (outer:List Env) (s:Shared) (H:Hp) (args:Args) (us:List Value) (vs:List V) (Q:VK) (E:XK),Bi k A->Hf P w K mg base A outer s H->BindsTo s fd args (ps.zip us)->Al vs us->sp vs H Q E->
  codeAny (model P w) A (.call (.ref f) args) (CR CX outer P w H s Q E) s
def Hf.make{P:Program}{w:World}{K:Fq}{mg:Mq}{base:Heap}{A:Around}{outer:List Env}{s:Shared}{H:Hp}(e:Hf P w K mg base A outer s H)(C:Addr)(us:List Value)(kw:List (Str×Value)) :
 Hf P w K mg base (A.under (.builtin "type.__call__" ⟨.ref C::us,kw⟩)) outer s H:=⟨by first|exact e.frames|(simpa[Around.under,Code.envs,Code.isFrame,pushEnvs]using e.frames),e.mod,e.bs,e.bsz,e.funs,e.frf,e.hok,e.bare⟩
section
def Af.env0(I:Af X pins σ H s):Hf X.prog X.w X.K X.mg X.base X.A X.stack s H:=
 ⟨I.ok.frames,I.ok.mod,I.bs,aV I.ok.bsz I.sz,I.stack,I.stkFree,I.hok,I.bare⟩
def Af.after(I:Af X pins σ H s)(h:CE X.stack X.prog X.w H s Q u s'):EP X pins σ Q u s':=by
 obtain⟨v,H',os,bare,un,hok,r,q⟩:=h;obtain⟨hh,g,d,t,os'⟩:=s';obtain rfl:os'=s.os:=os;exact⟨v,H',I.call (h':=hh) (g':=g) (d':=d) (t':=t) (ch:=[]) un hok bare (λb z=>absurd z (by simp)),r,q⟩
end
def VQ(sp:Sp)(dvs:List V)(E:XK)(t:TA):TE:=λσ H Q=>t σ H λvs H1=>sp (vs++dvs) H1 Q E
def cb(C:Addr)(sp:Sp)(dvs:List V)(E:XK)(t:TA):TE:=λσ H Q=>t σ H λvs H1=>∀x dx,H1 x=none->H1 dx=none->dx≠x->
 sp (.ref x::(vs++dvs)) (upd (upd H1 dx (.own x)) x (.ins C dx [])) (λv H2=>v=.non/\Q (.ref x) H2) E
def BF(K:PySem.W.Frag)(fd:FuncData)(ps:List Str)(ds:List Value):Prop:=
 ∀(s:Shared) (us:List Value),K.In s.heap->(us++ds).length=ps.length->BindsTo s fd ⟨us,[]⟩ (ps.zip (us++ds))
def Hb(CX:W8)(X:Cx)(E:XK):Prop:=∀(pins:List (Addr×Obj)) (σ:St) (H:Hp) (s:Shared) (e:Value) (s':Shared),Af X pins σ H s->CX X.stack H s E e s'->X.xe e s'
section
variable {k:Nat}{x m:Str}
def QA(F:D6 X.prog X.w X.K X.mg X.base CX k f fd ps sp)(hr:Bi k X.A)(hb:BF X.K fd ps ds)(hd:Al dvs ds)(hx:Hb CX X E)
 (I:Af X pins σ H s)(r:Al vs us)(h:sp (vs++dvs) H Q E):wpAny (model X.prog X.w) X.A (call (.ref f) us) (EP X pins σ Q) X.xe s:=by
 have r2:=r.append hd;have hl:(us++ds).length=ps.length:=by rw[←r2.length];exact F.len _ _ _ _ h
 refine fP (eD (F.run X.A X.stack s H ⟨us,[]⟩ (us++ds) (vs++dvs) Q E hr I.env0 (hb s us I.kIn hl) r2 h) λr s' hq=>?_);cases r with
 |error e=>exact hx pins σ H s e s' I hq
 |ok fl=>
  cases fl with
  |ret u=>exact I.after hq
  |next=>exact False.elim hq
  |brk=>exact False.elim hq
  |cont=>exact False.elim hq
def UG(F:D6 X.prog X.w X.K X.mg X.base CX k f fd ps sp)(hr:Bi k X.A)(hg:Gl X x)(hm:X.mg x=some (.ref f))(hk:PySem.W.keepIn X.K (.ref f)=true)(hb:BF X.K fd ps ds)(hd:Al dvs ds)(hx:Hb CX X E)
 (ha:PA X (e::es) t)(hdb:(x ==("__debug__" :Str))=false:=by decide)(he:starEach (e::es) X.env=(false,eval e X.env)::starEach es X.env:=by rfl)(hpl:(backTo pos (starEach es X.env)).any (·.1)=false:=by rfl) :
 PE X (.Call (.Name x p) (e::es) [] pos) (VQ sp dvs E t):=by
 intro pins s σ H Q I h;refine c8 (DC I hg hm ?_ hdb);refine PySem.W.callWith_K (h₀:=X.base) I.ok.mod.kin hk (AR (ha pos pins s σ H _ I h) λus s1 ⟨vs,H1,I1,r,q⟩=>⟨I1.kIn,?_⟩) he hpl;exact QA F hr hb hd hx I1 r q
structure Mk(K:PySem.W.Frag)(C f:Addr):Prop where
 makes:PySem.W.makesIn K C=true
 init:PySem.W.findIn K (.ref C) "__init__"=some (some (.ref f))
 fn:PySem.W.isFn K (.ref f)=true
 kp:PySem.W.keepIn K (.ref C)=true
def Q9(M:Mk X.K C f)(F:D6 X.prog X.w X.K X.mg X.base CX k f fd ps sp)(hr:Bi (k+1) X.A)(hb:BF X.K fd ps ds)(hd:Al dvs ds)
 (hx:Hb CX X E)(I:Af X pins σ H s)(r:Al vs us)
 (h:∀x dx,H x=none->H dx=none->dx≠x->sp (.ref x::(vs++dvs)) (upd (upd H dx (.own x)) x (.ins C dx [])) (λv H2=>v=.non/\Q (.ref x) H2) E) :
 wpAny (model X.prog X.w) X.A (call (.ref C) us) (EP X pins σ Q) X.xe s:=by
 have hq:=h (s.heap.objs.size+1) s.heap.objs.size (I.hok.fresh (cX _)) (I.hok.fresh (aH _)) (aX (eC _));have I2:=Af.made (C:=C) I;have r2:Al (V.ref (s.heap.objs.size+1)::(vs++dvs)) (Value.ref (s.heap.objs.size+1)::(us++ds)):=.cons rfl (r.append hd);have hl:(Value.ref (s.heap.objs.size+1)::us++ds).length=ps.length:=by
  have e:=r2.length;rw[F.len _ _ _ _ hq]at e;exact e.symm
 refine fP (RG (f:=f) I.kIn M.makes M.init (aP.mp M.fn) (eD (F.run _ X.stack _ _ ⟨Value.ref (s.heap.objs.size+1)::us,[]⟩ (Value.ref (s.heap.objs.size+1)::(us++ds)) _ _ E (hr.make C us [])
  (I2.env0.make C us []) (hb _ (Value.ref (s.heap.objs.size+1)::us) I2.kIn hl) r2 hq) λr s' hq'=>?_))
 cases r with
 |error e=>exact hx pins σ _ _ e s' I2 hq'
 |ok fl=>
  cases fl with
  |ret u=>
   obtain⟨v,H',I3,rv,ev,q3⟩:=I2.after hq';subst ev;exact⟨rv,⟨V.ref (s.heap.objs.size+1),H',I3,rfl,q3⟩⟩
  |next=>exact False.elim hq'
  |brk=>exact False.elim hq'
  |cont=>exact False.elim hq'
def UC(M:Mk X.K C f)(F:D6 X.prog X.w X.K X.mg X.base CX k f fd ps sp)(hr:Bi (k+1) X.A)(hg:Gl X x)(hm:X.mg x=some (.ref C))(hb:BF X.K fd ps ds)(hd:Al dvs ds)(hx:Hb CX X E)
 (ha:PA X (e::es) t)(hdb:(x ==("__debug__" :Str))=false:=by decide)(he:starEach (e::es) X.env=(false,eval e X.env)::starEach es X.env:=by rfl)(hpl:(backTo pos (starEach es X.env)).any (·.1)=false:=by rfl) :
 PE X (.Call (.Name x p) (e::es) [] pos) (cb C sp dvs E t):=by
 intro pins s σ H Q I h;refine c8 (DC I hg hm ?_ hdb);refine PySem.W.callWith_K (h₀:=X.base) I.ok.mod.kin M.kp (AR (ha pos pins s σ H _ I h) λus s1 ⟨vs,H1,I1,r,q⟩=>⟨I1.kIn,?_⟩) he hpl;exact Q9 M F hr hb hd hx I1 r q
end
structure Gc(N P:List Str)(sc:Scope):Prop where
 kind:sc.kind=.function
 co:sc.isCoroutine=false
 gen:sc.isGenerator=false
 nd:N.Nodup
 pre:N.take P.length=P
 par:∀x∈P,sc.names.lookup x=some .local\/sc.names.lookup x=some .cell
 nofree:∀y∈sc.names,y.2≠ .free
theorem Ip{kindOf:Str->Option NameKind}{x:Str}:∀{binds:List (Str×Value)}{m:Mq},(∀v,(x,v)∉binds)->bindL kindOf binds m x=m x
 |[],_,_=>rfl
 |(n,v)::r,m,h=>by
  unfold bindL;rw[Ip λw hw=>h w (aC _ hw)];split
  ·have:x≠n:=by rintro rfl;exact h v aG
   simp[this]
  rfl
theorem Ir{kindOf:Str->Option NameKind}{x:Str}:∀{binds:List (Str×Value)}{m:Mq},(∀v,(x,v)∉binds)->bindC kindOf binds m x=m x
 |[],_,_=>rfl
 |(n,v)::r,m,h=>by
  unfold bindC;rw[Ir λw hw=>h w (aC _ hw)];split
  ·rfl
  have:x≠n:=by rintro rfl;exact h v aG
  simp[this]
theorem Iq{kindOf:Str->Option NameKind}{x:Str}:∀{P:List Str}{vs:List Value}{i:Nat}{m:Mq},P.Nodup->P[i]?=some x->vs[i]?=some v->kindOf x=some .local->
 bindL kindOf (P.zip vs) m x=some v
 |[],_,_,_,_,h,_,_=>by simp at h
 |_::_,[],_,_,_,_,h,_=>by simp at h
 |p::P,w::vs,0,m,nd,h1,h2,hk=>by
  simp at h1 h2;subst h1;subst h2;show bindL kindOf ((p,w)::P.zip vs) m p=_;unfold bindL;rw[Ip λv hv=>(bT.mp nd).1 (dB hv).1,if_pos hk];simp
 |p::P,w::vs,i+1,m,nd,h1,h2,hk=>by
  show bindL kindOf ((p,w)::P.zip vs) m x=_;unfold bindL;exact Iq (i:=i) (bT.mp nd).2 (by simpa using h1) (by simpa using h2) hk
theorem Iu{kindOf:Str->Option NameKind}{x:Str}:∀{P:List Str}{vs:List Value}{i:Nat}{m:Mq},P.Nodup->P[i]?=some x->vs[i]?=some v->kindOf x≠some .local->
 bindC kindOf (P.zip vs) m x=some v
 |[],_,_,_,_,h,_,_=>by simp at h
 |_::_,[],_,_,_,_,h,_=>by simp at h
 |p::P,w::vs,0,m,nd,h1,h2,hk=>by
  simp at h1 h2;subst h1;subst h2;show bindC kindOf ((p,w)::P.zip vs) m p=_;unfold bindC;rw[Ir λv hv=>(bT.mp nd).1 (dB hv).1,if_neg hk];simp
 |p::P,w::vs,i+1,m,nd,h1,h2,hk=>by
  show bindC kindOf ((p,w)::P.zip vs) m x=_;unfold bindC;exact Iu (i:=i) (bT.mp nd).2 (by simpa using h1) (by simpa using h2) hk
noncomputable def B4(N:List Str)(vs:List V):St:=vs.map some++List.replicate (N.length-vs.length) none
noncomputable def SA(CX:W8)(P:Program)(w:World)(K:PySem.W.Frag)(mg:Str->Option Value)(base:Heap)(N:List Str)(qual:Str)(scope:Scope)(f:Addr)(cd:Value)(A:Around)(outer:List Env)(s:Shared)(H:Hp)(E:XK):Cx where
 prog:=P
 w:=w
 K:=K
 mg:=mg
 base:=base
 A:=A.deeper (envOfC qual scope s.heap.objs.size f cd)
 N:=N
 s₀:=s
 H₀:=H
 env:=envOfC qual scope s.heap.objs.size f cd
 outer:=outer
 stack:=envOfC qual scope s.heap.objs.size f cd::outer
 ex:=[]
 calm:=true
 fn:=λ_=>true
 pn:=[]
 xe:=λe s'=>wpAny (model P w) (A.deeper (envOfC qual scope s.heap.objs.size f cd)) (leaving (envOfC qual scope s.heap.objs.size f cd) e) (λ_ s''=>CX outer H s E e s'') (λe' s''=>CX outer H s E e' s'') s'
def Lk{sc:Scope}{n:Nat}{x:Str}(h:sc.names.lookup x=some .cell):∃c,(cellsFrom n sc.names []).lookup x=some c:=by
 have q:=PySem.W.cellsFrom_some sc.names n [] (.inl h);exact bU.mp q
def Pf{CX:W8}{P:Program}{w:World}{K:Fq}{mg:Mq}{base:Heap}{N ps:List Str}{qual:Str}{scope:Scope}{f:Addr}{cd:Value}{A:Around}{outer:List Env}{s s1:Shared}{H:Hp}{E:XK}{us:List Value}{vs:List V}
 (S:Gc N ps scope)(hd:A.handled=none)(e0:Hf P w K mg base A outer s H)(hl:vs.length=ps.length)(r:Al vs us)
 (x:InCallC s s.heap.objs.size (bindL (envOfC qual scope s.heap.objs.size f cd).kindOf (ps.zip us) λ_=>none) (cellsFrom (s.heap.objs.size+1) scope.names []) (bindC (envOfC qual scope s.heap.objs.size f cd).kindOf (ps.zip us) λ_=>none) s1) :
 Af (SA CX P w K mg base N qual scope f cd A outer s H E) [] (B4 N vs) H s1:=by
 have hpl:ps.length<=N.length:=by have:=bQ List.length S.pre;rw[bC]at this;lia
 obtain⟨h1,tk,rfl,hk⟩:=x.done;have noA:∀b:Addr,b∉(SA CX P w K mg base N qual scope f cd A outer s H E).ex:=λb z=>absurd (show b∈([]:List Addr) from z) (by simp);refine⟨⟨e0.mod,S.kind,rfl,rfl,aH _,λy z c h1 h2=>?_,λy hy=>?_,λy c _ h=>?_,λ_=>hd,Around.frames_deeper e0.frames,.inr ⟨rfl,rfl⟩,λb z=>absurd z (noA b),e0.bs,e0.bsz,λb _ _=>noA b,λb z=>absurd z (noA b),e0.funs,e0.frf⟩,
  rfl,e0.bare,Un.kept hk,⟨_,x.toInCall.ns,λi y v h1 h2 h3=>?_⟩,λy c h=>⟨_,x.cell y c h⟩,e0.hok.fresh (aH _),λy c h=>?_,λp hp=>absurd (show p∈([]:Pq) from hp) (by simp),e0.hok.kept hk,?_⟩
 ·exact name_of_addr x.apart (PySem.mem_of_lookup h1) (PySem.mem_of_lookup h2)
 ·have hy:scope.names.lookup y=some .cell\/scope.names.lookup y=some .free:=hy;rcases hy with hy|hy
  ·exact Lk hy
  exact absurd rfl (S.nofree _ (PySem.mem_of_lookup hy))
 ·exact eP (x.above y c (PySem.mem_of_lookup h))
 ·have hi:i<vs.length:=by
   unfold B4 at h2;by_cases hi:i<vs.length
   ·exact hi
   rw[aS (by simpa using hi)]at h2;rw[cG]at h2;split at h2<;>cases h2
  have ha:vs[i]?=some v:=by
   unfold B4 at h2;rw[aL (by simpa using hi),aJ]at h2;cases e:vs[i]? with
   |none=>rw[e]at h2;cases h2
   |some a=>rw[e]at h2;cases h2;rfl
  obtain⟨u,hu,rv⟩:=r.get ha;have hp:ps[i]?=some y:=by
   rw[←S.pre,List.getElem?_take_of_lt (by lia)];exact h1
  have ndP:ps.Nodup:=by rw[←S.pre];exact S.nd.sublist (cN _ _)
  refine⟨u,rv,?_⟩;rcases S.par y (aQ hp) with k|k
  ·exact .inl ⟨k,Iq ndP hp hu k⟩
  obtain⟨c,e⟩:=Lk (n:=s.heap.objs.size+1) k;refine .inr ⟨.inl k,c,e,?_⟩;have q:=x.cell y c e;rw[Iu ndP hp hu (by show scope.names.lookup y≠_;rw[k];decide)]at q;exact q
 ·exact e0.hok.fresh (eP (x.above y c (PySem.mem_of_lookup h)))
 unfold B4;show _=N.length;rw[aM,aI,cZ]
 lia
def jw{CX:W8}{P:Program}{w:World}{K:Fq}{mg:Mq}{base:Heap}{k:Nat}{f:Addr}{name qual:Str}{params:Arguments}{body:List Stmt}{scope:Scope}{dV kV doc pm cdv ct oc:Value}{an od:Option Addr}
 {osl:Array (Option Value)}{N ps:List Str}{sp:Sp}(lk:K.lookup f=some ⟨oc,od,.func (PySem.W.fnOf name qual params body scope dV kV doc pm an cdv ct),osl⟩)(hcd:PySem.W.codeIn K cdv qual=true)(S:Gc N ps scope)
 (len:∀vs H Q E,sp vs H Q E->vs.length=ps.length)
 (hbody:∀(A:Around) (outer:List Env) (s:Shared) (H:Hp) (vs:List V) (Q:VK) (E:XK),Bi k (A.deeper (envOfC qual scope s.heap.objs.size f cdv))->sp vs H Q E->
   ∃t,Hj (SA CX P w K mg base N qual scope f cdv A outer s H E) body t/\t {nx:=λ_ H'=>Q .non H',rt:=Q} (B4 N vs) H) :
 D6 P w K mg base CX (k+1) f (PySem.W.fnOf name qual params body scope dV kV doc pm an cdv ct) ps sp:=by
 refine⟨len,λA outer s H args us vs Q E hr e0 hb r hsp=>?_⟩;have hl:=len _ _ _ _ hsp;have KX:K.In s.heap:=e0.mod.kin.keeps λb o e=>(e0.bs b o e).1;have lim:s.heap.NoLimit:=e0.mod.nolimit.keeps λb o e=>(e0.bs b o e).1;have hkind:∀y∈ps.zip us,scope.names.lookup y.1=some .local\/(scope.names.lookup y.1=some .cell/\((cellsFrom (s.heap.objs.size+1) scope.names []).lookup y.1).isSome=true):=λ⟨n,v⟩ hy=>by
  rcases S.par n (dB hy).1 with q|q
  ·exact .inl q
  exact .inr ⟨q,PySem.W.cellsFrom_some _ _ _ (.inl q)⟩
 refine codeAny_call_function hr.depth (KX _ _ lk) rfl S.co S.gen rfl (PySem.W.codeRec_of KX hcd) (hb _ _ _ _ ?_);refine wpAny_newFunctionEnv_cells S.kind hkind λenv he s1 x=>?_;subst he;refine⟨lim.keeps x.toInCall.keep,codeAny_func ?_⟩;obtain⟨t,ht,hq⟩:=hbody A outer s H vs Q E (hr.deeper _) hsp;have I:Af (SA CX P w K mg base N qual scope f cdv A outer s H E) [] (B4 N vs) H s1:=Pf S hr.hd e0 hl r x;refine cC (ht [] s1 (B4 N vs) H _ I hq) (λfl s' hs=>?_) λe s' hs=>hs;have fin:∀{σ':St}{H':Hp}{v:V}{u:Value},Af (SA CX P w K mg base N qual scope f cdv A outer s H E) [] σ' H' s'->As v u->Q v H'->CE outer P w H s Q u s':=
  λ{σ' H' v u} J rv q=>⟨v,H',J.os,J.bare,J.base,J.hok,rv,q⟩
 cases fl with
 |ret u=>
  obtain⟨v,σ',H',J,rv,q⟩:=hs;exact fin J rv q
 |next=>
  obtain⟨σ',H',J,q⟩:=hs;exact fin (v:=V.non) (u:=Value.none) J rfl q
 |brk=>
  obtain⟨_,_,_,q⟩:=hs;exact False.elim q
 |cont=>
  obtain⟨_,_,_,q⟩:=hs;exact False.elim q
end L2
namespace L2
open PySem PySem.Spec PyProof.Rows
section
variable {x:Str}{id T:String}
def nN(r:List V->Hp->VK->Prop)(t:TA):TE:=λσ H Q=>t σ H λvs H1=>r vs H1 Q
def C7(hc:Bh X (.builtin id) r)(hg:Gl X x)(hm:X.mg x=none)(hv:bootBuiltins x=some (.builtin id))(ha:PA X (e::es) t)(hn:x≠ "__name__":=by decide)(hdb:(x ==("__debug__" :Str))=false:=by decide)
 (he:starEach (e::es) X.env=(false,eval e X.env)::starEach es X.env:=by rfl)(hpl:(backTo pos (starEach es X.env)).any (·.1)=false:=by rfl):PE X (.Call (.Name x p) (e::es) [] pos) (nN r t):=by
 intro pins s σ H Q I h;refine c8 (Cz I hg hm hv ?_ hn hdb);exact fQ (AR (ha pos pins s σ H _ I h) λus s1 ⟨vs,H1,I1,r1,q1⟩=>hc pins s1 σ H1 vs us Q I1 r1 q1) he hpl
def D9(hc:Bh X (.type T) r)(hg:Gl X x)(hm:X.mg x=none)(hv:bootBuiltins x=some (.type T))(ha:PA X (e::es) t)(hn:x≠ "__name__":=by decide)(hdb:(x ==("__debug__" :Str))=false:=by decide)
 (he:starEach (e::es) X.env=(false,eval e X.env)::starEach es X.env:=by rfl)(hpl:(backTo pos (starEach es X.env)).any (·.1)=false:=by rfl):PE X (.Call (.Name x p) (e::es) [] pos) (nN r t):=by
 intro pins s σ H Q I h;refine c8 (Cz I hg hm hv ?_ hn hdb);exact bZ (AR (ha pos pins s σ H _ I h) λus s1 ⟨vs,H1,I1,r1,q1⟩=>hc pins s1 σ H1 vs us Q I1 r1 q1) he hpl
end
end L2
namespace HT
open PySem PyProof.Rows
section
open PySem.SeqAt
open PySem.AutoSeq1 (wpAny_loadPart')
open PySem.MeetsSeq PySem.MeetsSeq2 PySem.MeetsSeq3
end
section
noncomputable def sIx(n d:Nat):Option Int->Nat
 |none=>d
 |some v=>if v<0 then(v+(n:Int)).toNat else min v.toNat n
end
end HT
namespace L2
open PySem PySem.Spec PyProof.Rows
abbrev TO:=St->Hp->(Option Int->Hp->Prop)->Prop
def PO(X:Cx)(e:Option Expr)(t:TO):Prop:=
 ∀(pins:List (Addr×Obj)) (s:Shared) (σ:St) (H:Hp) (Q:Option Int->Hp->Prop),Af X pins σ H s->t σ H Q->
  wpAny (model X.prog X.w) X.A (evalPart e X.env) (λu s'=>∃o H',Af X pins σ H' s'/\IsPart u o/\Q o H') X.xe s
def TN:TO:=λ_ H Q=>Q none H
def bq(t:TE):TO:=λσ H Q=>t σ H λx H1=>∃i,x=.int i/\Q (some i) H1
def GJ:∀{us:List Value},Al (ns.map V.int) us->IntsAre us ns:=by
 induction ns with
 |nil=>intro us r;rw[hV]at r;cases r;exact .nil
 |cons n ns ih=>
  intro us r;rw[aF]at r;cases r with
  |cons r1 r2=>
   obtain⟨t,e⟩:=r1;subst e;exact .cons n t (ih r2)
section
variable {X:Cx}{e:Expr}{te:TE}{lo hi:Option Expr}{tl th:TO}{pos p2:Pos}
def Ux:PO X none TN:=by
 intro pins s σ H Q I h;rw[evalPart_none];exact aO ⟨none,H,I,.none,h⟩
def Uw(h:PE X e te):PO X (some e) (bq te):=by
 intro pins s σ H Q I hw;rw[evalPart_some];refine AR (h pins s σ H _ I hw) λu s1 ⟨x,H1,I1,r1,q1⟩=>?_;obtain⟨i,rfl,q⟩:=q1;obtain⟨t,rfl⟩:=r1;exact⟨some i,H1,I1,.int i t,q⟩
def mw(X:Cx)(r:V->Option Int->Option Int->Hp->VK->Prop):Prop:=
 ∀(pins:List (Addr×Obj)) (s:Shared) (σ:St) (H:Hp) (x:V) (v vl vu:Value) (lo hi:Option Int) (sl:Addr) (Q:VK),Af X pins σ H s->As x v->s.heap.IsSliceOf sl vl vu .none->IsPart vl lo->IsPart vu hi->r x lo hi H Q->
  ∃T id,typeLookup (.type T) "__getitem__"=pure (some (.builtin id))/\s.TypeIs v T/\wpAny (model X.prog X.w) X.A (getItem v (.ref sl)) (EP X pins σ Q) X.xe s
def tz(r:V->Option Int->Option Int->Hp->VK->Prop)(te:TE)(tl th:TO):TE:=λσ H Q=>te σ H λx H1=>tl σ H1 λl H2=>th σ H2 λu H3=>r x l u H3 Q
def Kr(hr:mw X r)(he:PE X e te)(hl:PO X lo tl)(hu:PO X hi th):PE X (.Subscript e (.Slice lo hi none p2) pos) (tz r te tl th):=by
 intro pins s σ H Q I h;refine Subscript_ (AR (he pins s σ H _ I h) λv s1 ⟨x,H1,I1,r1,q1⟩=>?_);refine wpAny_Slice (AR (hl pins s1 σ H1 _ I1 q1) λvl s2 ⟨l,H2,I2,pl,q2⟩=>AR (hu pins s2 σ H2 _ I2 q2) λvu s3 ⟨u,H3,I3,pu,q3⟩=>?_);rw[evalPart_none];refine aO ?_;have I4:Af X pins σ H3 {s3 with heap:=s3.heap.push {cls:=.type "slice",data:=.fields #[vl,vu,.none]}}:=I3.kept (t':=s3.toks) λb ob q=>aD _ q;obtain⟨T,id,hT,ht,hg⟩:=hr pins {s3 with heap:=s3.heap.push {cls:=.type "slice",data:=.fields #[vl,vu,.none]}} σ H3 x v vl vu l u s3.heap.objs.size Q I4 r1 (Heap.IsSliceOf.new ..) pl pu q3;show wpAny (model X.prog X.w) X.A (subscriptTail e (.Slice lo hi none p2) v (.ref s3.heap.objs.size)) (EP X pins σ Q) X.xe {s3 with heap:=s3.heap.push {cls:=.type "slice",data:=.fields #[vl,vu,.none]}};exact tail_any (ops:=[.ref s3.heap.objs.size,v]) ht hT hg (by with_unfolding_all rfl)
noncomputable def Pu(xs:List V)(lo hi:Option Int):List V:=(xs.drop (HT.sIx xs.length 0 lo)).take (HT.sIx xs.length xs.length hi-HT.sIx xs.length 0 lo)
def Lc(xs:List V)(lo hi:Option Int):(Pu xs lo hi).length<=xs.length:=by
 unfold Pu;rw[bC,eE]
 lia
end
end L2
namespace L2
open PySem PySem.Spec PyProof.Rows
noncomputable def N9(n:Nat)(i:Int):Option Nat:=if 0<=i then(if i<n then some i.toNat else none) else if -(n:Int)<=i then some (i+n).toNat else none
noncomputable def BA{α:Type}(xs:List α)(i:Int):Option α:=(N9 xs.length i).bind λj=>xs[j]?
def N8{n:Nat}{i:Int}{j:Nat}(h:N9 n i=some j):seqIndex? i n=some j/\j<n/\-(n:Int)<=i/\i<n:=by
 unfold N9 at h;by_cases h0:0<=i
 ·rw[if_pos h0]at h;by_cases h1:i<n
  ·rw[if_pos h1]at h;have e:=bE h;exact⟨by rw[seqIndex_of h0 h1,e],by lia,by lia,h1⟩
  rw[if_neg h1]at h;cases h
 rw[if_neg h0]at h;by_cases h1: -(n:Int)<=i
 ·rw[if_pos h1]at h;have e:=bE h;exact⟨by rw[seqIndex_neg (by lia) h1,e],by lia,h1,by lia⟩
 rw[if_neg h1]at h;cases h
def J3{α:Type}{xs:List α}{i:Int}{v:α}(h:BA xs i=some v):∃j,seqIndex? i xs.length=some j/\xs[j]?=some v/\j<xs.length/\-(xs.length:Int)<=i/\i<xs.length:=by
 unfold BA at h;cases e:N9 xs.length i with
 |none=>rw[e]at h;cases h
 |some j=>
  rw[e]at h;obtain⟨h1,h2,h3,h4⟩:=N8 e;exact⟨j,h1,h,h2,h3,h4⟩
def J7(b:Expr):Prop:=∀o i,subscripted b false o i=operate [o,i] (getItem o i)
def kg(X:Cx)(r:R2):Prop:=
 ∀(value slice:Expr) (pins:List (Addr×Obj)) (s:Shared) (σ:St) (H:Hp) (x y:V) (v u:Value) (Q:VK),Af X pins σ H s->As x v->As y u->r x y H Q->
  subscripted slice false v u=operate [v,u] (getItem v u)->wpAny (model X.prog X.w) X.A (subscriptTail value slice v u) (EP X pins σ Q) X.xe s
def ah(X:Cx)(id:String)(r:V->List V->Hp->VK->Prop):Prop:=
 ∀(pins:List (Addr×Obj)) (s:Shared) (σ:St) (H:Hp) (x:V) (xs:List V) (v:Value) (us:List Value) (Q:VK),Af X pins σ H s->As x v->Al xs us->r x xs H Q->
  wpAny (model X.prog X.w) X.A (call (.builtin id) (v::us)) (EP X pins σ Q) X.xe s
section
def ic{r:R2}(hr:kg X r)(ha:PE X a ta)(hb:PE X b tb)(hs:J7 b):PE X (.Subscript a b pos) (br r ta tb):=by
 intro pins s σ H Q I h;exact Subscript_ (Z2 ha hb I h λv u s2 x y H2 I2 rx ry q=>hr a b pins s2 σ H2 x y v u Q I2 rx ry q (hs _ _))
def o0(K:PySem.W.Frag):R2:=λx y H Q=>E4 λp xs i v=>A5 (x=.ref p) (y=.int i) (D4 K H p xs) (BA xs i=some v) (Q v H)
def oy(K:PySem.W.Frag):R2:=λx y H Q=>E4 λp xs i v=>A5 (x=.ref p) (y=.int i) (Iw K H p xs) (BA xs i=some v) (Q v H)
def oz:R2:=λx y H Q=>E3 λz i c=>A5 (x=.str z) (y=.int i) (z.length<=sizeLine) (BA z.cps.toList i=some c) (Q (.str ⟨#[c]⟩) H)
def N7:kg X (o0 X.K):=by
 intro value slice pins s σ H x y v u Q I rx ry h hs;obtain⟨p,xs,i,z,rfl,rfl,hq,he,q⟩:=h;cases rx;obtain⟨t,rfl⟩:=ry;obtain⟨its,r,pl,hz⟩:=I.list hq;obtain⟨j,h1,h2,h3,h4,h5⟩:=J3 he;obtain⟨w,ew,rw'⟩:=r.get h2;have hl:=r.length;have hn:=Eb;have fin:EP X pins σ Q w s:=⟨z,H,I,rw',q⟩;by_cases h0:0<=i
 ·have hj:i.toNat=j:=by
   rw[seqIndex_of h0 h5]at h1;exact bE h1
  exact item_listR pl.isList h0 (by lia) (by rw[hj];simpa using ew) fin hs
 have hj:(i+(its.toArray.size:Int)).toNat=j:=by
  rw[seqIndex_neg (by lia) h4]at h1;rw[aZ,←hl];exact bE h1
 exact subscriptTail_builtinR (x:=w) pl.isList.typeIs slot_list_getitem.lookup
  (wpAny_getItem_list_neg (Q:=λr s'=>r=w/\EP X pins σ Q r s') pl.isList (by lia) (by rw[aZ]<;>lia) (by lia) (by rw[hj];simpa using ew) ⟨rfl,fin⟩) hs
def YH:kg X (oy X.K):=by
 intro value slice pins s σ H x y v u Q I rx ry h hs;obtain⟨p,xs,i,z,rfl,rfl,hq,he,q⟩:=h;cases rx;obtain⟨t,rfl⟩:=ry;obtain⟨its,r,pl,hz⟩:=I.tuple hq;obtain⟨j,h1,h2,h3,h4,h5⟩:=J3 he;obtain⟨w,ew,rw'⟩:=r.get h2;have hl:=r.length;have hn:=Eb;have fin:EP X pins σ Q w s:=⟨z,H,I,rw',q⟩;exact subscriptTail_builtinR (x:=w) pl.typeIs slot_tuple_getitem.lookup
  (getItem_tuple (j:=j) (Q:=λr s'=>r=w/\EP X pins σ Q r s') pl (by lia) (by lia) (by rw[aZ,←hl];exact h1) (by simpa using ew) ⟨rfl,fin⟩) hs
def YI:kg X oz:=by
 intro value slice pins s σ H x y v u Q I rx ry h hs;obtain⟨z,i,c,rfl,rfl,hz,he,q⟩:=h;obtain⟨t,rfl⟩:=rx;obtain⟨t',rfl⟩:=ry;obtain⟨j,h1,h2,h3,h4,h5⟩:=J3 he;have hl:z.cps.toList.length=z.length:=by simp[Str.length]
 rw[hl]at h1 h4 h5;have hn:=Eb;exact tail_any (typeIs_str s z t) slot_str_getitem.lookup (getItem_str (c:=c) (by
  have e1:decide (i< -(2^63:Int))=false:=bL (by lia);have e2:decide (i ≥ 2^63)=false:=bL (by lia);rw[e1,e2,Bool.or_false]) (by rw[h1];simpa using h2) ⟨.str ⟨#[c]⟩,H,I.tok _,⟨_,rfl⟩,q⟩) hs
def LU(its:List Value)(n j:Nat)(u:Value):Obj.mapSeq (·.setIfInBounds j u) {cls:=.type "list",data:=.seq its.toArray n}={cls:=.type "list",data:=.seq (its.set j u).toArray n}:=by
 simp[Obj.mapSeq]
theorem Af.lst{pins:Pq}{σ:St}{H:Hp}{s:Shared}{p:Addr}{xs:List V}(I:Af X pins σ H s)(h:H p=some (.lst xs)) :
 ∃its n,Al xs its/\s.heap.get? p=some {cls:=.type "list",data:=.seq its.toArray n}/\xs.length<=sizeLine:=by
 obtain⟨z,its,n,r,e⟩:=I.hok p _ h;exact⟨its,n,r,e,z⟩
def Af.lstUpd{s:Shared}{xs ys:List V}{its its':List Value}{n n':Nat}(I:Af X pins σ H s)(h:H p=some (.lst xs))
 (ho:s.heap.get? p=some {cls:=.type "list",data:=.seq its.toArray n})(hf:f {cls:=.type "list",data:=.seq its.toArray n}={cls:=.type "list",data:=.seq its'.toArray n'})(r:Al ys its')(hz:ys.length<=sizeLine)(t:Nat) :
 Af X pins σ (upd H p (.lst ys)) {s with heap:=s.heap.update p f,toks:=t}:=by
 have e:(s.heap.update p f).get? p=some {cls:=.type "list",data:=.seq its'.toArray n'}:=by
  rw[fN f ho (by rw[hf]<;>rfl),hf]
 refine I.write (x:=p) (e:=p) (by rw[h];trivial) (.inl rfl) (λb u hb q=>(fI _ _ (bN hb)).trans q) ⟨_,e⟩ ?_;exact⟨hz,its',n',r,e⟩
def gn:V->V->V->Hp->(Hp->Prop)->Prop:=λo i v H Q=>E4 λp xs k j=>A5 (o=.ref p) (i=.int k) (H p=some (.lst xs)) (N9 xs.length k=some j) (Q (upd H p (.lst (xs.set j v))))
def Q6:ke X gn:=by
 intro pins s σ H o i v ov iv u Q I ro ri rv h;obtain⟨p,xs,k,j,rfl,rfl,hp,hj,q⟩:=h;cases ro;obtain⟨t,rfl⟩:=ri;obtain⟨its,n,r,ho,hz⟩:=I.lst hp;obtain⟨h1,h2,h3,h4⟩:=N8 hj;have hl:=r.length;have hn:=Eb;have I':Af X pins σ (upd H p (.lst (xs.set j v))) {s with heap:=s.heap.update p (Obj.mapSeq (·.setIfInBounds j u))}:=
  I.lstUpd hp ho (LU its n j u) (r.set rv j) (by rw[List.length_set];exact hz) s.toks
 by_cases h0:0<=k
 ·have hk:k.toNat=j:=by
   rw[seqIndex_of h0 h4]at h1;exact bE h1
  exact PySem.W.ki_setAt ho h0 (by lia) (by rw[aZ,←hl];exact h4) (by rw[hk];exact⟨_,I',q⟩)
 have hk:(k+(its.toArray.size:Int)).toNat=j:=by
  rw[seqIndex_neg (by lia) h3]at h1;rw[aZ,←hl];exact bE h1
 exact PySem.W.ki_setBack ho (by lia) (by rw[aZ,←hl];exact h3) (by lia) (by rw[hk];exact⟨_,I',q⟩)
def ID(lo hi:Option Int)(n:Nat):(sliceBounds lo hi none n).1=((HT.sIx n 0 lo:Nat):Int)/\(sliceBounds lo hi none n).2.1=((HT.sIx n n hi:Nat):Int)/\(sliceBounds lo hi none n).2.2=1:=by
 refine⟨?_,?_,rfl⟩
 ·cases lo with
  |none=>simp[sliceBounds,HT.sIx]
  |some i=>
   simp only[sliceBounds,HT.sIx,Option.getD_none,show(1:Int)>0 by decide,if_true];by_cases h:i<0
   ·simp only[h,if_true]<;>lia
   simp only[h,if_false]<;>lia
 cases hi with
 |none=>simp[sliceBounds,HT.sIx]
 |some i=>
  simp only[sliceBounds,HT.sIx,Option.getD_none,show(1:Int)>0 by decide,if_true];by_cases h:i<0
  ·simp only[h,if_true]<;>lia
  simp only[h,if_false]<;>lia
def Hl(its:List Value)(lo hi:Option Int):slicePick its.toArray lo hi none=((its.drop (HT.sIx its.length 0 lo)).take (HT.sIx its.length its.length hi-HT.sIx its.length 0 lo)).toArray:=by
 obtain⟨h1,h2,h3⟩:=ID lo hi its.toArray.size;unfold slicePick;rw[h1,h2,h3];simp only[sliceRange_one,pick_run,List.size_toArray]<;>rfl
def oq(K:PySem.W.Frag):V->Option Int->Option Int->Hp->VK->Prop:=λx lo hi H Q=>∃a xs,x=.ref a/\D4 K H a xs/\∀p,H p=none->Q (.ref p) (upd H p (.lst (Pu xs lo hi)))
def MR:mw X (oq X.K):=by
 intro pins s σ H x v vl vu lo hi sl Q I rx hs pl pu h;obtain⟨a,xs,rfl,hx,q⟩:=h;cases rx;obtain⟨its,r,ht,hz⟩:=I.list hx;have hlen:=r.length;refine⟨"list",_,slot_list_getitem.lookup,ht.isList.typeIs,?_⟩;refine wpAny_getItem_list_slice ht.isList hs pl pu .none (by simp) ?_ (by rw[List.size_toArray]<;>lia);rw[Hl,←hlen];refine⟨.ref s.heap.objs.size,_,I.laid (t':=s.toks) (o:=.lst (Pu xs lo hi)) (λb ob q=>aD _ q) (aH _) ?_,rfl,q _ (I.hok.fresh (aH _))⟩;exact⟨aV (Lc xs lo hi) hz,_,0,(r.drop (HT.sIx xs.length 0 lo)).take (HT.sIx xs.length xs.length hi-HT.sIx xs.length 0 lo),aK _ rfl⟩
noncomputable def Dc:V->Bool
 |.non=>true
 |.bl _=>true
 |.int _=>true
 |.str _=>true
 |_=>false
noncomputable def Vt:V->V->Bool
 |.non,.non=>true
 |.bl a,.bl b=>a ==b
 |.bl a,.int b=>(if a then 1 else 0) ==b
 |.int a,.bl b=>a ==(if b then 1 else 0)
 |.int a,.int b=>a ==b
 |.str a,.str b=>a ==b
 |_,_=>false
def Zi(ry:As y u)(rx:As x v)(fy:Dc y=true)(fx:Dc x=true):SeqAt.EqAt A s u v (Vt y x):=by
 cases y with
 |non=>
  cases ry;cases x with
  |non=>cases rx;exact SeqAt.EqAt.same _
  |bl b=>cases rx;exact SeqAt.EqAt.none_bool b
  |int b=>obtain⟨t,rfl⟩:=rx;exact SeqAt.EqAt.none_int b t
  |str b=>obtain⟨t,rfl⟩:=rx;exact SeqAt.EqAt.none_str b t
  |_=>exact absurd (show false=true from fx) aB
 |bl a=>
  cases ry;cases x with
  |non=>cases rx;exact SeqAt.EqAt.bool_none a
  |bl b=>cases rx;exact SeqAt.EqAt.bool_bool a b
  |int b=>obtain⟨t,rfl⟩:=rx;exact SeqAt.EqAt.bool_int a b t
  |str b=>obtain⟨t,rfl⟩:=rx;exact SeqAt.EqAt.bool_str a b t
  |_=>exact absurd (show false=true from fx) aB
 |int a=>
  obtain⟨t',rfl⟩:=ry;cases x with
  |non=>cases rx;exact SeqAt.EqAt.int_none a t'
  |bl b=>cases rx;exact SeqAt.EqAt.int_bool a t' b
  |int b=>obtain⟨t,rfl⟩:=rx;exact SeqAt.EqAt.int_int a t' b t
  |str b=>obtain⟨t,rfl⟩:=rx;exact SeqAt.EqAt.int_str a t' b t
  |_=>exact absurd (show false=true from fx) aB
 |str a=>
  obtain⟨t',rfl⟩:=ry;cases x with
  |non=>cases rx;exact SeqAt.EqAt.str_none a t'
  |bl b=>cases rx;exact SeqAt.EqAt.str_bool a t' b
  |int b=>obtain⟨t,rfl⟩:=rx;exact SeqAt.EqAt.str_int a t' b t
  |str b=>obtain⟨t,rfl⟩:=rx;exact SeqAt.EqAt.str_str a t' b t
  |_=>exact absurd (show false=true from fx) aB
 |_=>exact absurd (show false=true from fy) aB
noncomputable def KS(x:V)(u:Value):Bool:=match u with
 |.none=>Vt .non x
 |.bool b=>Vt (.bl b) x
 |.int i _=>Vt (.int i) x
 |.str z _=>Vt (.str z) x
 |_=>false
def Mt(r:As y u)(f:Dc y=true):KS x u=Vt y x:=by
 cases y with
 |non=>cases r;rfl
 |bl b=>cases r;rfl
 |int i=>obtain⟨t,rfl⟩:=r;rfl
 |str z=>obtain⟨t,rfl⟩:=r;rfl
 |_=>exact absurd (show false=true from f) aB
theorem EM:∀{xs:List V}{us:List Value},Al xs us->xs.all Dc=true->us.any (KS x)=xs.any λy=>Vt y x
 |_,_,.nil,_=>rfl
 |y::xs,u::us,.cons r t,f=>by
  rw[gJ,eQ]at f;rw[cT,cT,Mt r f.1,EM t f.2]
theorem CA(rx:As x v)(fx:Dc x=true):∀{xs:List V}{us:List Value},Al xs us->xs.all Dc=true->∀u∈us,SeqAt.EqAt A s u v (KS x u)
 |_,_,.nil,_=>λu hu=>by cases hu
 |y::xs,u::us,.cons r t,f=>λu' hu=>by
  rw[gJ,eQ]at f;rcases aR.mp hu with rfl|hu
  ·rw[Mt r f.1];exact Zi r rx f.1 fx
  exact CA rx fx t f.2 u' hu
noncomputable def lG(x:V)(xs:List V):Bool:=xs.any λy=>Vt y x
def rz(K:PySem.W.Frag)(neg:Bool):R2:=λx y H Q=>E2 λp xs=>A5 (y=.ref p) (D4 K H p xs\/Iw K H p xs) (Dc x=true) (xs.all Dc=true) (Q (.bl (if neg then !lG x xs else lG x xs)) H)
def OM:BE X (compareOp .In) (rz X.K false):=by
 intro pins s σ H x y v u Q I rx ry h;obtain⟨p,xs,rfl,hq,fx,fs,q⟩:=h;cases ry;rcases hq with hq|hq
 ·obtain⟨its,r,pl,hz⟩:=I.list hq;refine SeqAt.in_listAt (KS x) pl.isList (λw hw=>CA rx fx r fs w (by simpa using hw)) ⟨.bl _,H,I,rfl,?_⟩;rw[show its.toArray.any (KS x)=its.any (KS x) by simp,EM r fs];exact q
 obtain⟨its,r,pl,hz⟩:=I.tuple hq;refine SeqAt.in_tupleAt (KS x) pl (λw hw=>CA rx fx r fs w (by simpa using hw)) ⟨.bl _,H,I,rfl,?_⟩;rw[show its.toArray.any (KS x)=its.any (KS x) by simp,EM r fs];exact q
def IQ:BE X (compareOp .NotIn) (rz X.K true):=by
 intro pins s σ H x y v u Q I rx ry h;obtain⟨p,xs,rfl,hq,fx,fs,q⟩:=h;cases ry;rcases hq with hq|hq
 ·obtain⟨its,r,pl,hz⟩:=I.list hq;refine SeqAt.notIn_listAt (KS x) pl.isList (λw hw=>CA rx fx r fs w (by simpa using hw)) ⟨.bl _,H,I,rfl,?_⟩;rw[show its.toArray.any (KS x)=its.any (KS x) by simp,EM r fs];exact q
 obtain⟨its,r,pl,hz⟩:=I.tuple hq;refine SeqAt.notIn_tupleAt (KS x) pl (λw hw=>CA rx fx r fs w (by simpa using hw)) ⟨.bl _,H,I,rfl,?_⟩;rw[show its.toArray.any (KS x)=its.any (KS x) by simp,EM r fs];exact q
def IP:BE X (compareOp .NotIn) (λx y H Q=>∃i j,x=.str i/\y=.str j/\Q (.bl (!(!(Builtin.Str.occurrences j i 0 j.length 1).isEmpty))) H):=by
 intro pins s σ H x y v u Q I rx ry h;obtain⟨i,j,rfl,rfl,q⟩:=h;obtain⟨t,rfl⟩:=rx;obtain⟨t',rfl⟩:=ry;exact notIn_str ⟨.bl _,H,I,rfl,q⟩
def CZ:Bh X (.builtin "len") (λxs H Q=>∃p ys,xs=[.ref p]/\(D4 X.K H p ys\/Iw X.K H p ys)/\Q (.int ys.length) H):=by
 intro pins s σ H xs us Q I r h;obtain⟨p,ys,rfl,hq,q⟩:=h;obtain⟨u,rfl,rx⟩:=C5 r;cases rx;have hn:=Eb;rcases hq with hq|hq
 ·obtain⟨its,r',pl,hz⟩:=I.list hq;have hlen:=r'.length;exact Calls.call_len_list pl.isList (by simp only[List.size_toArray]<;>lia) ⟨.int ys.length,H,I.tok _,⟨s.toks+1,by rw[aZ,hlen]⟩,q⟩
 obtain⟨its,r',pl,hz⟩:=I.tuple hq;have hlen:=r'.length;exact len_tuple pl (by simp only[List.size_toArray]<;>lia) ⟨.int ys.length,H,I.tok _,⟨s.toks+1,by rw[aZ,hlen]⟩,q⟩
def Jx:Bh X (.builtin "len") (λxs H Q=>∃z,xs=[.str z]/\z.length<=sizeLine/\Q (.int z.length) H):=by
 intro pins s σ H xs us Q I r h;obtain⟨z,rfl,hz,q⟩:=h;obtain⟨u,rfl,t,rfl⟩:=C5 r;have hn:=Eb;exact len_str (by lia) ⟨.int z.length,H,I.tok _,⟨_,rfl⟩,q⟩
def DQ:Bh X (.type "tuple") (λxs H Q=>∃p ys,xs=[.ref p]/\((D4 X.K H p ys/\∀l,H l=none->Q (.ref l) (upd H l (.tup ys)))\/(Iw X.K H p ys/\Q (.ref p) H))):=by
 intro pins s σ H xs us Q I r h;obtain⟨p,ys,rfl,h⟩:=h;obtain⟨u,rfl,rx⟩:=C5 r;cases rx;rcases h with⟨hq,q⟩|⟨hq,q⟩
 ·obtain⟨its,r',pl,hz⟩:=I.list hq;have hlen:=r'.length;refine call_tuple_list pl.isList (λh' kp=>?_) (by simp only[List.size_toArray]<;>lia);have I1:=I.kept (t':=s.toks) kp;have I2:Af X pins σ (upd H h'.objs.size (.tup ys)) {s with heap:=h'.push {cls:=.type "tuple",data:=.seq its.toArray}}:=
   I1.laid (t':=s.toks) (λb o e=>aD _ e) (aH _) (show AG X.prog X.w _ _ _ (.tup ys) from⟨hz,its,r',IsTup.new _ _⟩)
  exact⟨.ref h'.objs.size,_,I2,rfl,q _ (I1.hok.fresh (aH _))⟩
 obtain⟨its,r',pl,hz⟩:=I.tuple hq;exact call_tuple_same pl ⟨.ref p,H,I,rfl,q⟩
def tw(K:PySem.W.Frag)(T:String)(x:V)(H:Hp):Prop:=match x with
 |.str _=>T= "str"
 |.int _=>T= "int"
 |.ref p=>(T= "list"/\∃xs,D4 K H p xs)\/(T= "tuple"/\∃o,K.lookup p=some o/\o.cls=.type "tuple"/\o.dict=none)\/
  (T= "dict"/\((∃kvs,H p=some (.dK kvs))\/∃kvs,H p=some (.dT kvs)))\/(T= "set"/\∃S n,H p=some (.set S n))
 |_=>False
def Gg{T:String}(I:Af X pins σ H s)(r:As x v)(ty:tw X.K T x H) :
 s.TypeIs v T/\∀a,v=.ref a->∃ob,s.heap.get? a=some ob/\ob.dict=none:=by
 cases x with
 |str z=>
  obtain⟨t,rfl⟩:=r;cases (show T= "str" from ty);exact⟨typeIs_str s z t,λ_ e=>nomatch e⟩
 |int i=>
  obtain⟨t,rfl⟩:=r;cases (show T= "int" from ty);exact⟨typeIs_int s i t,λ_ e=>nomatch e⟩
 |ref p=>
  cases r;rcases ty with⟨rfl,xs,hq⟩|⟨rfl,o,hk,hc,hd⟩|⟨rfl,hk⟩|⟨rfl,S,n,hk⟩
  ·obtain⟨its,_,pl,_⟩:=I.list hq;refine⟨pl.isList.typeIs,λa e=>?_⟩;cases e;obtain⟨o,n,e,c,hd,_⟩:=pl;exact⟨o,e,hd⟩
  ·refine⟨⟨o,I.kIn p o hk,hc⟩,λa e=>?_⟩;cases e;exact⟨o,I.kIn _ o hk,hd⟩
  ·have z:∃o,s.heap.get? p=some o/\o.ExactDict:=by
    rcases hk with⟨kvs,hk⟩|⟨kvs,hk⟩
    ·obtain⟨_,_,_,_,o,_,_,e,ex,_⟩:=I.hok p _ hk;exact⟨o,e,ex⟩
    obtain⟨_,_,_,_,o,_,_,e,ex,_⟩:=I.hok p _ hk;exact⟨o,e,ex⟩
   obtain⟨o,e,ex⟩:=z;refine⟨⟨o,e,ex.1⟩,λa e2=>?_⟩;cases e2;exact⟨o,e,ex.2.1⟩
  obtain⟨o,_,_,_,e,ex,_⟩:=I.hok p _ hk;refine⟨⟨o,e,ex.1⟩,λa e2=>?_⟩;cases e2;exact⟨o,e,ex.2.1⟩
 |_=>exact False.elim ty
variable {name:Str}{T id:String}
/- xs.append(e),list.index on a module's tuple .. are ah facts of 06m -/
end
end L2
namespace L2
open PySem PySem.Spec PyProof.Rows
def sW(X:Cx)(id:String)(r:V->List V->Hp->VK->Prop):Prop:=
 ∀(pins:List (Addr×Obj)) (s:Shared) (σ:St) (H:Hp) (x:V) (xs:List V) (v:Value) (us:List Value) (Q:VK),Af X pins σ H s->As x v->Al xs us->r x xs H Q->
  wpAny (model X.prog X.w) X.A (call (.builtin id) (v::us)) (EP X pins σ Q) X.xe s
def Al.one:∀{x:V}{us:List Value},Al [x] us->∃u,us=[u]/\As x u
 |_,_,.cons r .nil=>⟨_,rfl,r⟩
theorem Al.rep(h:Al xs us):∀k:Nat,Al (List.replicate k xs).flatten (List.replicate k us).flatten
 |0=>.nil
 |k+1=>by
  rw[cB,cB,bR,bR];exact Al.append h (Al.rep h k)
theorem Ih(its:List Value):∀k acc,
 List.foldl (λx1 x2=>x1++x2) acc.toArray (List.replicate k its.toArray)=(acc++(List.replicate k its).flatten).toArray
 |0,acc=>by simp
 |k+1,acc=>by
  have e:acc.toArray++its.toArray=(acc++its).toArray:=by simp
  have e2:(acc++its)++(List.replicate k its).flatten=acc++(List.replicate (k+1) its).flatten:=by
   rw[cB,bR,dE]
  rw[←e2,←Ih its k (acc++its),←e,cB,i8]
section
def Af.lset{its its':List Value}{n:Nat}{t':Nat}(I:Af X pins σ H s)(hH:H l=some (.lst xs))
 (e:s.heap.get? l=some {cls:=.type "list",data:=.seq its.toArray n})(hf:f its.toArray=its'.toArray)(hv:Al ys its')(hz:ys.length<=sizeLine) :
 Af X pins σ (upd H l (.lst ys)) {s with heap:=s.heap.update l (Obj.mapSeq f),toks:=t'}:=by
 have q:=PySem.IsL.update e f;rw[hf]at q;refine I.write (x:=l) (e:=l) (by rw[hH];exact trivial) (.inl rfl) (λb' u hb hu=>(fI s.heap (Obj.mapSeq f) (bN hb)).trans hu) ⟨_,q⟩ ?_;exact⟨hz,its',_,hv,q⟩
def Af.lnew{t':Nat}(I:Af X pins σ H s)(hv:Al ys its)(hz:ys.length<=sizeLine) :
 Af X pins σ (upd H s.heap.objs.size (.lst ys)) {s with heap:=s.heap.push {cls:=.type "list",data:=.seq its.toArray},toks:=t'}:=
 I.laid (λ_ _ q=>aD _ q) (aH _) ⟨hz,its,0,hv,aK _ rfl⟩
theorem Af.fresh(I:Af X pins σ H s):H s.heap.objs.size=none:=I.hok.fresh (aH _)
def Af.lstM(I:Af X pins σ H s)(hH:H l=some (.lst xs)):xs.length<=sizeLine/\∃its n,Al xs its/\xs.length=its.length/\s.heap.get? l=some {cls:=.type "list",data:=.seq its.toArray n}:=by
 obtain⟨z,its,n,r,e⟩:=I.hok l _ hH;exact⟨z,its,n,r,r.length,e⟩
def Ku{n:Nat}(h:n<=sizeLine):Builtin.List.listTooLong n=false:=by
 unfold Builtin.List.listTooLong;exact bL (by lia)
end
section
def Uq:V->List V->Hp->VK->Prop:=λx vs H Q=>∃l xs y,x=.ref l/\vs=[y]/\H l=some (.lst xs)/\xs.length<sizeLine/\Q .non (upd H l (.lst (xs++ [y])))
def OT:sW X "list.append" Uq:=by
 intro pins s σ H x vs v us Q I rx rv h;obtain⟨l,xs,y,rfl,rfl,hH,hz,q⟩:=h;cases rx;obtain⟨u,rfl,ru⟩:=rv.one;obtain⟨z,its,n,r,hl,e⟩:=I.lstM hH;refine gW F.slot_list_append ⟨_,e,rfl⟩ F.entry_list_append (F.args_list_append_2 _ _) (PySem.list_append l its.toArray n u (by rw[aZ];lia)) ⟨e,?_⟩;refine⟨.non,_,I.lset (its':=its++ [u]) hH e (by simp) (r.append (.cons ru .nil)) ?_,rfl,q⟩;rw[aM,dQ]
 lia
def Up:V->List V->Hp->VK->Prop:=λx vs H Q=>E4 λl b xs zs=>A6 (x=.ref l) (vs=[.ref b]) (H l=some (.lst xs)) (H b=some (.lst zs)) (xs.length+zs.length<=sizeLine) (Q .non (upd H l (.lst (xs++zs))))
def OQ:sW X "list.extend" Up:=by
 intro pins s σ H x vs v us Q I rx rv h;obtain⟨l,b,xs,zs,rfl,rfl,hH,hB,hz,q⟩:=h;cases rx;obtain⟨u,rfl,ru⟩:=rv.one;cases ru;obtain⟨z,its,n,r,hl,e⟩:=I.lstM hH;obtain⟨z2,its2,n2,r2,hl2,e2⟩:=I.lstM hB;have hsz:its.toArray.size+its2.toArray.size<=sizeLine:=by rw[aZ,aZ];lia
 have hlong:¬(!its.toArray.isEmpty&&Builtin.List.listTooLong (its.toArray.size+its2.toArray.size))=true:=by
  rw[Ku hsz,Bool.and_false];exact aB
 refine gW F.slot_list_extend ⟨_,e,rfl⟩ F.entry_list_extend (F.args_list_extend_2 _ _)
  (AutoSeq1.list_extend_list_list_0 l its.toArray n b its2.toArray n2 hlong (by rw[aZ];lia) (by lia)) ⟨e,e2,?_⟩
 refine⟨.non,_,I.lset (its':=its++its2) hH e (by simp) (r.append r2) ?_,rfl,q⟩;rw[aM]
 lia
def o3:R2:=λx y H Q=>E4 λl b xs zs=>A6 (x=.ref l) (y=.ref b) (H l=some (.lst xs)) (H b=some (.lst zs)) (xs.length+zs.length<=sizeLine) (∀p,H p=none->Q (.ref p) (upd H p (.lst (xs++zs))))
def Yp:BE X (binaryOp .Add) o3:=by
 intro pins s σ H x y v u Q I rx ry h;obtain⟨l,b,xs,zs,rfl,rfl,hH,hB,hz,q⟩:=h;cases rx;cases ry;obtain⟨z,its,n,r,hl,e⟩:=I.lstM hH;obtain⟨z2,its2,n2,r2,hl2,e2⟩:=I.lstM hB;refine PySem.P.add_list e e2 ?_ (by rw[aZ,aZ];lia);have ea:its.toArray++its2.toArray=(its++its2).toArray:=by simp
 rw[ea];exact⟨.ref _,_,I.lnew (t':=s.toks) (r.append r2) (by rw[aM];lia),rfl,q _ I.fresh⟩
def ou:R2:=λx y H Q=>E3 λl k xs=>A7 (x=.ref l) (y=.int k) (H l=some (.lst xs)) (-(2^63)<=k) (k<2^63) (xs.length*k.toNat<=sizeLine) (∀p,H p=none->Q (.ref p) (upd H p (.lst (List.replicate k.toNat xs).flatten)))
def UW{α:Type}(xs:List α)(k:Nat):(List.replicate k xs).flatten.length=k*xs.length:=by
 induction k with
 |zero=>simp
 |succ k ih=>rw[cB,bR,aM,ih,Nat.succ_mul,f8]
def Yi:BE X (binaryOp .Mult) ou:=by
 intro pins s σ H x y v u Q I rx ry h;obtain⟨l,k,xs,rfl,rfl,hH,h1,h2,hz,q⟩:=h;cases rx;obtain⟨t,rfl⟩:=ry;obtain⟨z,its,n,r,hl,e⟩:=I.lstM hH;have hlen:its.toArray.size*k.toNat<=sizeLine:=by rw[aZ,←hl];exact hz
 have hcap:¬its.toArray.size*k.toNat>(2^63-1) / 8:=by
  have:(sizeLine:Nat)<=(2^63-1) / 8:=by decide
  lia
 have hfit:¬(!Builtin.List.listFitsIndex k)=true:=by
  rw[fitsIndex_both h1 h2];exact aB
 have hlong:¬Builtin.List.listTooLong (its.toArray.size*k.toNat)=true:=by
  rw[Ku hlen];exact aB
 have hnew:List.foldl (λx1 x2=>x1++x2) #[] (List.replicate (if its.toArray.isEmpty=true then 0 else k.toNat) its.toArray)=(List.replicate k.toNat its).flatten.toArray:=by
  have f0:∀m:Nat,List.foldl (λx1 x2=>x1++x2) #[] (List.replicate m its.toArray)=(List.replicate m its).flatten.toArray:=λm=>by
   have:=Ih its m [];rw[dC]at this;exact this
  rw[f0];cases its with
  |nil=>simp
  |cons a r'=>rw[if_neg (by simp)]
 refine wpAny_binaryOp_repeat_ref (T:= "list") (U:= "int") (by decide) ⟨_,e,rfl⟩ (λs'=>typeIs_int s' k t) noFill_list_mul F.fills_int_mul F.slot_int_rmul repeat_list F.slot_int_index.lookup
  (gW F.slot_int_rmul (typeIs_int s k t) F.entry_int_rmul (F.args_int_rmul_2 _ _) (int___rmul___int_list k t l its.toArray n)
    ⟨e,rfl,⟨_,e,rfl⟩,gW F.slot_list_mul ⟨_,e,rfl⟩ F.entry_list_mul (F.args_list_mul_2 _ _) (AutoListH.list___mul___list_int_3 l its.toArray n k t hfit hcap hlong) ⟨e,?_⟩⟩)
 rw[hnew];exact⟨.ref _,_,I.lnew (t':=s.toks) (r.rep k.toNat) (by rw[UW,hW];exact hz),rfl,q _ I.fresh⟩
end
section
set_option maxRecDepth 100000 in
end
end L2
namespace Att
open PySem PySem.W PySem.Calls PyProof.Rows
def FL:∀ns vs,WellAll P h vs (ns.map WData.int)->IntsAre vs ns:=by
 intro ns
 induction ns with
 |nil=>
  intro vs w;rw[hV]at w;cases w;exact .nil
 |cons n ns ih=>
  intro vs w;rw[aF]at w;cases w with
  |cons a b=>
   cases a;exact .cons _ _ (ih _ b)
def O1{l:OpenLaw}{n:Nat}(hn:l.most=some n){h:Heap}
 (hpre:l.row.toRowW.claim.pre args=true)(hwl:WellAll P h vals args) :
 ∃a vs ns,vals=[Value.ref a]/\args=[WData.list (ns.map WData.int)]/\h.get? a=some {cls:=.type "list",data:=.seq vs.toArray}/\IntsAre vs ns/\ns.length<=n:=by
 have hsh:WShape.hasAll [] args [.list .int]=true:=(pre_splitW hpre).1;have hc:l.pre.holds [] {args:=args}=true:=(pre_splitW hpre).2;obtain⟨d,r,rfl,h1,h2⟩:=hasAllW_cons hsh;obtain rfl:=hasAllW_nil h2;obtain⟨xs,rfl,h3⟩:=hasW_list h1;obtain⟨ns,rfl⟩:=items_int h3;have hlen:ns.length<=n:=by
  unfold OpenLaw.pre at hc;have h4:(WTm.not (.lt (.lit (.int (n:Int))) (.len (.arg 0)))).holds [] {args:=[.list (ns.map .int)]}=true:=by
   have h4:=(holds_andW hc).1;rw[hn]at h4;exact h4
  have h5:=condW_of h4 (w_not (w_lt w_lit (w_len_list (w_arg rfl))));rw[aI]at h5;refine hX λq=>?_;have q':(n:Int)<((ns.length:Nat):Int):=by lia
  first
   |(rw[cL q']at h5;exact absurd h5 (by decide))
   |(simp at h5;lia)
 cases hwl with
 |cons w1 w2=>
  cases w2;cases w1 with
  |list ho hall=>exact⟨_,_,ns,rfl,rfl,ho,FL ns _ hall,hlen⟩
def O3(l:OpenLaw)(args:List WData):l.row.toRowW.claim.post args (.bool true) args=true:=
 postW_of (r:=l.row.toRowW) (X:=(true ==true))
  (show WShape.has [] (.bool true) .bool=true by first|rfl|decide|simp[WShape.has,WShape.arms,WShape.armsAll])
  (show(WTm.eq .res (.lit (.bool true))).value [] {args:=args,res:=some (.bool true),after:=args}=some (.bool (true ==true)) from w_eq_bool (w_res rfl) w_lit) rfl
def attach_call{l:OpenLaw}{n:Nat}{d:DefRec}
 (hn:l.most=some n)(hdf:d.params.defaults=[])
 (call:∀w s₀ s₁ mg mb fa o pm cd doc a vs ns,
   Ground q loose [] XP w s₀ mg mb s₁.heap->YP w s₁.heap->
   s₁.heap.get? fa=some o->o.data=.func (docDef d.name d.params d.body d.scope pm cd doc)->s₁.heap.CodeRec cd d.name->mg d.name=some (.ref fa)->
   s₁.heap.get? a=some {cls:=.type "list",data:=.seq vs.toArray}->IntsAre vs ns->ns.length<=n->s₁.gens=#[]->
   codeAny (model l.prog w) callerA (.call (.ref fa) ⟨[.ref a],[]⟩) (λr s'=>r=.ok (.ret (.bool true))/\OldK s₁.heap s'.heap/\s'.os=s₁.os/\AllBare s'.gens) s₁) :
 WalkO q loose XP YP l.row.toRowW d [] (λf vs=>PySem.call f vs):=by
 intro w s₀ s₁ mg mb G Y fa o pm cd doc dV kV ho hd hcd hD hmg hg args vals as hpre hlay hrd hwl hlo;obtain rfl:dV=.none:=Dflts.none hD hdf;obtain rfl:kV=.none:=Dflts.noKw hD;obtain⟨a,vs,ns,rfl,rfl,hobj,hints,hlen⟩:=O1 hn hpre hwl;refine enter_call (eD (call w s₀ s₁ mg mb fa o pm cd doc a vs ns G Y ho (fd_plain hd) hcd hmg hobj hints hlen hg) λr s' hq=>?_);obtain⟨rfl,h2,h3,h4⟩:=hq;exact⟨.inl ⟨.bool true,.bool true,[],rfl,λ_=>rfl,.bool true,O3 l _,λ_=>⟨List.Pairwise.nil,λ_ hm=>(nomatch hm)⟩⟩,h2,h3,h4⟩
end Att
namespace L2
open PySem PySem.Spec PyProof.Rows
theorem HB:∀{vs:List Value}{ns:List Int},IntsAre vs ns->Al (ns.map V.int) vs
 |_,_,.nil=>.nil
 |_,_,.cons n t h=>.cons ⟨t,rfl⟩ (HB h)
end L2
namespace L2
open PySem PySem.Spec PyProof.Rows
end L2
namespace L2
open PySem PySem.Spec PyProof.Rows
abbrev Ol:W8:=λ_ _ _ _ _ _=>False
abbrev E0:XK:=λ_ _ _=>False
def R4:Hb Ol X E0:=λ_ _ _ _ _ _ _ h=>h.elim
def YL{A B:Prop}(h:B):if false=true then A else B:=by
 rw[if_neg aB];exact h
def YK{A B:Prop}(h:A):if true=true then A else B:=by
 rw[if_pos rfl];exact h
def Am(H H':Hp):Prop:=∀b o,H b=some o->H' b=some o
def Am.refl(H:Hp):Am H H:=λ_ _ h=>h
def Am.trans(a:Am H H1)(b:Am H1 H2):Am H H2:=λc o h=>b c o (a c o h)
def Am.free(e:Am H H')(h:H' l=Option.none):H l=Option.none:=by
 cases q:H l with
 |none=>rfl
 |some o=>
  rw[e l o q]at h;cases h
def Am.seq{K:Fq}{H H':Hp}{a:Addr}{xs:List V}(e:Am H H')(h:D4 K H a xs):D4 K H' a xs:=by
 rcases h with(h|⟨o,h⟩)|h
 ·exact .inl (.inl (e _ _ h))
 ·exact .inl (.inr ⟨o,e _ _ h⟩)
 exact .inr h
section
def Pw(I:Nat->Shared->Prop)
 (turn:∀n s,I n s->wpAny (model prog w) A (pyNext it) (λr s1=>match r with
   |none=>R (.ok .next) s1
   |some v=>wpAny (model prog w) A (letOwnedTupleGo target it v) (λ_ s2=>wpAny (model prog w) A (assign target env v) (λ_ s3=>
    wpAny (model prog w) A (forIn ifs true λc r=>if r=true then do let ok ←isTrue c env (eval c env);pure (ForInStep.yield ok) else pure (ForInStep.yield r)) (λok s4=>
     if ok=true then wpAny (model prog w) A (eval elt env) (λx s5=>
      wpAny (model prog w) A (call (.builtin "list.append") [acc,x]) (λ_ s6=>∃m,m<n/\I m s6) (notedBy (model prog w) A env λe s'=>R (.error e) s') s5) (notedBy (model prog w) A env λe s'=>R (.error e) s') s4
     else ∃m,m<n/\I m s4) (notedBy (model prog w) A env λe s'=>R (.error e) s') s3) (notedBy (model prog w) A env λe s'=>R (.error e) s') s2) (notedBy (model prog w) A env λe s'=>R (.error e) s') s1)
    (notedBy (model prog w) A env λe s'=>R (.error e) s') s)
 (n:Nat)(h:I n s) :
 codeAny (model prog w) A (.compLoop (.ListComp elt [⟨target,iter,ifs,0⟩] scope pos) 0 it acc env) R s:=by
 refine codeAny_loop rfl I (λn s hI=>?_) n h;show wpAny _ A ((compTurn (.ListComp elt [⟨target,iter,ifs,0⟩] scope pos) 0 it acc env).onRaise (λx=>do noteFrame x env;theTreesLotGoes x)) _ _ s;refine wpAny_noted ?_;rw[compTurn_list];refine a8 (wpAny_standAt (a8 (cC (turn n s hI) (λr s1 h1=>?_) λ_ _ h'=>h')));cases r with
 |none=>exact aO h1
 |some v=>
  refine a8 (cC h1 (λ_ s2 h2=>?_) λ_ _ h'=>h');refine a8 (cC h2 (λ_ s3 h3=>a8 (cC h3 (λok s4 h4=>?_) λ_ _ h'=>h')) λ_ _ h'=>h');cases ok with
  |false=>exact aO ⟨rfl,h4⟩
  |true=>
   exact a8 (a8 (cC h4 (λx s5 h5=>a8 (cC h5 (λ_ s6 h6=>aO (aO ⟨rfl,h6⟩)) λ_ _ h'=>h')) λ_ _ h'=>h'))
end
noncomputable def Dh(cells:List (Str×Addr)):List (Str×NameKind)->List (Str×Addr)->List (Str×Addr)
 |[],acc=>acc
 |(n,k)::r,acc=>if k== .free then(match cells.lookup n with
  |some a=>Dh cells r ((n,a)::acc)
  |none=>Dh cells r acc) else Dh cells r acc
theorem NW:∀names acc,(∀y∈names,y.2=.free->∃a,env.cells.lookup y.1=some a)->
 (forIn names acc λx r=>(if x.2== .free then do let a ←cellOf env x.1;pure (ForInStep.yield ((x.1,a)::r)) else pure (ForInStep.yield r):Sem (ForInStep (List (Str×Addr)))))=pure (Dh env.cells names acc)
 |[],acc,_=>rfl
 |(n,k)::r,acc,h=>by
  rw[eY];have ih:=λacc=>NW r acc λy hy=>h y (aC _ hy);by_cases hk:k=.free
  ·subst hk;obtain⟨a,e⟩:=h (n,.free) aG rfl;have e:=e;simp only[beq_self_eq_true,if_true,cellOf,e,Dh,pure_bind];exact ih _
  have hb:(k ==NameKind.free)=false:=by simpa using hk
  simp only[hb,Bool.false_eq_true,if_false,Dh,pure_bind];exact ih _
def V5(h:∀y∈scope.names,y.2=.free->∃a,env.cells.lookup y.1=some a):closureFor scope env=pure (Dh env.cells scope.names []):=by
 unfold closureFor;have e:=NW (env:=env) scope.names [] h;simp only[bind_pure];exact e
theorem D1{x:Str}:∀names acc,(∀y b,(y,b)∈acc->cells.lookup y=some b)->(x,c)∈Dh cells names acc->cells.lookup x=some c
 |[],acc,ha,hm=>ha x c hm
 |(n,k)::r,acc,ha,hm=>by
  unfold Dh at hm;split at hm
  ·split at hm
   ·rename_i a e;refine D1 r _ (λy b hb=>?_) hm;rcases aR.mp hb with q|q
    ·cases q;exact e
    exact ha y b q
   exact D1 r _ ha hm
  exact D1 r _ ha hm
def B2{x:Str}{l:Cq}(h:l.lookup x=some c):(x,c)∈l:=PySem.mem_of_lookup h
theorem Ga{x:Str}(hx:cells.lookup x=some c):∀names acc,((x,NameKind.free)∈names\/(x,c)∈acc)->(x,c)∈Dh cells names acc
 |[],acc,hm=>by
  rcases hm with q|q
  ·exact absurd q (by simp)
  exact q
 |(n,k)::r,acc,hm=>by
  unfold Dh;by_cases hk:k=.free
  ·subst hk;simp only[beq_self_eq_true,if_true];split
   ·rename_i a e;refine Ga hx r _ ?_;rcases hm with q|q
    ·rcases aR.mp q with q|q
     ·cases q;rw[hx]at e;cases e;exact .inr aG
     exact .inl q
    exact .inr (aC _ q)
   rename_i e;refine Ga hx r _ ?_;rcases hm with q|q
   ·rcases aR.mp q with q|q
    ·cases q;rw[hx]at e;cases e
    exact .inl q
   exact .inr q
  have hb:(k ==NameKind.free)=false:=by simpa using hk
  simp only[hb,Bool.false_eq_true,if_false];refine Ga hx r _ ?_;rcases hm with q|q
  ·rcases aR.mp q with q|q
   ·cases q;exact absurd rfl hk
   exact .inl q
  exact .inr q
theorem DP{x:Str}:∀{l:Cq},(x,c)∈l->∃d,l.lookup x=some d/\(x,d)∈l
 |[],h=>absurd h (by simp)
 |(y,b)::r,h=>by
  by_cases e:x=y
  ·subst e;exact⟨b,by simp,aG⟩
  rcases aR.mp h with q|q
  ·cases q;exact absurd rfl e
  obtain⟨d,e1,e2⟩:=DP q;refine⟨d,?_,aC _ e2⟩;rw[bH];have:(x ==y)=false:=by simpa using e
  rw[this];exact e1
def D2{x:Str}(hf:(x,NameKind.free)∈names)(hx:cells.lookup x=some c):(Dh cells names []).lookup x=some c:=by
 obtain⟨d,e1,e2⟩:=DP (Ga hx names [] (.inl hf));have e3:=D1 names [] (λ_ _ h=>absurd h (by simp)) e2;rw[hx]at e3;cases e3;exact e1
def BJ{cells:Cq}{x:Str}(h:(Dh cells names []).lookup x=some c):cells.lookup x=some c:=
 D1 names [] (λ_ _ h=>absurd h (by simp)) (B2 h)
theorem DV{env:Env}:∀{names:List (Str×NameKind)}{x:Str},names.lookup x=some .free->
 (names.map λ(n,k)=>if (k ==NameKind.free&&env.scope.kind== .function&&env.kindOf n ==some .cell) then(n,NameKind.cell) else(n,k)).lookup x=some .cell\/
 (names.map λ(n,k)=>if (k ==NameKind.free&&env.scope.kind== .function&&env.kindOf n ==some .cell) then(n,NameKind.cell) else(n,k)).lookup x=some .free
 |[],_,h=>by simp at h
 |(n,k)::r,x,h=>by
  have ih:=@DV env r x;rw[aF];cases hx:x ==n with
  |true=>
   simp only[List.lookup_cons,hx]at h;cases h;dsimp only;by_cases hc:(NameKind.free ==NameKind.free&&env.scope.kind== .function&&env.kindOf n ==some .cell)=true
   ·rw[if_pos hc];simp[List.lookup_cons,hx]
   rw[if_neg hc];simp[List.lookup_cons,hx]
  |false=>
   simp only[List.lookup_cons,hx]at h;dsimp only;by_cases hc:(k ==NameKind.free&&env.scope.kind== .function&&env.kindOf n ==some .cell)=true
   ·rw[if_pos hc];simp only[List.lookup_cons,hx];exact ih h
   rw[if_neg hc];simp only[List.lookup_cons,hx];exact ih h
theorem Gp{env:Env}:∀{names:List (Str×NameKind)}{x:Str},(∀y∈names,y.2≠ .cell)->
 ((names.map λ(n,k)=>if (k ==NameKind.free&&env.scope.kind== .function&&env.kindOf n ==some .cell) then(n,NameKind.cell) else(n,k)).lookup x=some .cell\/
 (names.map λ(n,k)=>if (k ==NameKind.free&&env.scope.kind== .function&&env.kindOf n ==some .cell) then(n,NameKind.cell) else(n,k)).lookup x=some .free)->names.lookup x=some .free
 |[],_,_,h=>by simp at h
 |(n,k)::r,x,hn,h=>by
  have ih:=@Gp env r x λy hy=>hn y (aC _ hy);rw[aF]at h;dsimp only at h;have hk:=hn (n,k) aG;cases hx:x ==n with
  |true=>
   by_cases hc:(k ==NameKind.free&&env.scope.kind== .function&&env.kindOf n ==some .cell)=true
   ·simp only[Bool.and_eq_true,beq_iff_eq]at hc;obtain⟨⟨hc,_⟩,_⟩:=hc;subst hc;simp only[List.lookup_cons,hx]
   rw[if_neg hc]at h;simp only[List.lookup_cons,hx]at h ⊢;rcases h with h|h
   ·cases h;exact absurd rfl hk
   exact h
  |false=>
   by_cases hc:(k ==NameKind.free&&env.scope.kind== .function&&env.kindOf n ==some .cell)=true
   ·rw[if_pos hc]at h;simp only[List.lookup_cons,hx]at h ⊢;exact ih h
   rw[if_neg hc]at h;simp only[List.lookup_cons,hx]at h ⊢;exact ih h
structure C3(scope sc:Scope)(N0 xs ys:List Str)(js:List Nat):Prop where
 kind:scope.kind=.function
 nocell:∀y∈scope.names,y.2≠ .cell
 loc:∀y∈scope.names,y.2=.local->scope.names.lookup y.1=some .local
 fr:∀y∈scope.names,y.2=.free->sc.names.lookup y.1=some .cell\/sc.names.lookup y.1=some .free
 cap:ys.length=js.length/\∀p∈ys.zip js,N0[p.2]?=some p.1/\scope.names.lookup p.1=some .free/\(p.1,NameKind.free)∈scope.names/\(sc.names.lookup p.1=some .cell\/sc.names.lookup p.1=some .free)
noncomputable def Ex(k:Nat)(js:List Nat)(σ:St):St:=List.replicate k none++js.map λj=>(σ[j]?).join
noncomputable def Fh(X:Cx)(N:List Str)(scope:Scope)(C:Addr)(s2:Shared)(H2:Hp)(fp:List Addr):Cx where
 prog:=X.prog
 w:=X.w
 K:=X.K
 mg:=X.mg
 base:=X.base
 A:=X.A
 N:=N
 s₀:=s2
 H₀:=H2
 env:=compEnvC scope (Dh X.env.cells scope.names []) C X.env
 outer:=X.stack
 stack:=X.stack
 ex:=fp
 fn:=λ_=>false
 calm:=X.calm
 pn:=[]
 xe:=λ_ _=>False
section
variable {tk:Nat}
def Sm(I:Af X pins σ H s2)(f:D5 X pins H b):b∉KL X.stack:=λhb=>by
 rcases aR.mp (I.stkSub b hb) with e|e
 ·exact f.2.1 e
 exact f.2.2.1 e
def Zo(I:Af X pins σ H s2)(CS:C3 scope sc N0 xs ys js)(hsc:X.env.scope=sc)(hC:s2.heap.objs.size<=C)(f:∀b∈fp,D5 X pins H b)(fl:∀b∈fp,b<s2.heap.objs.size) :
 (Fh X (xs++ys) scope C s2 H fp).Ok where
 mod:=I.ok.mod
 kind:=CS.kind
 glob:=I.ok.glob
 blt:=I.ok.blt
 above:=hC
 inj:=λx y c e1 e2=>I.ok.inj x y c (BJ e1) (BJ e2)
 has:=λx hx=>by
  have hx:=hx;have q:=Gp (env:=X.env) CS.nocell hx;have m:=PySem.mem_of_lookup q;have hk:=CS.fr _ m rfl;rw[←hsc]at hk;obtain⟨c,e⟩:=I.ok.has x hk;exact⟨c,D2 m e⟩
 cab:=λx c e _=>by cases e
 hd:=I.ok.hd
 frames:=I.ok.frames
 stk:=.inl rfl
 exf:=λb hb=>⟨aX (aW (fl b hb) hC),λx c e=>(f b hb).2.2.2.2.1 x c (BJ e)⟩
 bs:=I.bs
 bsz:=aV I.ok.bsz I.sz
 noex:=λb o e hb=>by
  rcases(f b hb).2.2.2.1 with q|q
  ·exact I.ok.noex b o e q
  exact absurd (aW (aN e) (aV I.ok.bsz q)) (cR _)
 exfs:=λb hb=>Sm I (f b hb)
 funs:=I.stack
 frf:=I.stkFree
def Sc(I:Af X pins σ H s2)(CS:C3 scope sc N0 xs ys js)(hsc:X.env.scope=sc)(hN:X.N=N0)(f:∀b∈fp,D5 X pins H b)(fl:∀b∈fp,b<s2.heap.objs.size)
 (hC:s2.heap.objs.size<=C)(hD:s2.heap.objs.size<=D)(hDC:D≠C)(hns:h1.Ns C m)(old:∀b o,s2.heap.get? b=some o->h1.get? b=some o)(hacc:h1.get? D=some oD)(hod:∀v,oD.data≠ .cell v) :
 Af (Fh X (xs++ys) scope C s2 H fp) [(D,oD)] (Ex xs.length js σ) H {s2 with heap:=h1,toks:=tk} where
 ok:=Zo I CS hsc hC f fl
 os:=rfl
 bare:=I.bare
 base:=Un.kept old
 loc:=by
  refine⟨m,hns,λi x v e1 e2 e3=>?_⟩;have e1:(xs++ys)[i]?=some x:=e1;have hi:xs.length<=i:=by
   refine hX λq=>?_;unfold Ex at e2;rw[aL (by simpa using q),cG,if_pos q]at e2;cases e2
  rw[aS hi]at e1;unfold Ex at e2;rw[aS (by simpa using hi),cZ,aJ]at e2;obtain⟨j,ej⟩:∃j,js[i-xs.length]?=some j:=by
   cases e:js[i-xs.length]? with
   |none=>rw[e]at e2;cases e2
   |some j=>exact⟨j,rfl⟩
  rw[ej]at e2;have e2:(σ[j]?).join=some v:=bE e2;have e2':σ[j]?=some (some v):=by
   cases e:σ[j]? with
   |none=>rw[e]at e2;cases e2
   |some o=>rw[e]at e2;exact bQ some e2
  have hz:(x,j)∈ys.zip js:=by
   have:(ys.zip js)[i-xs.length]?=some (x,j):=by rw[gX];exact⟨e1,ej⟩
   exact aQ this
  obtain⟨c1,c2,c3,c4⟩:=CS.cap.2 _ hz;have c1:N0[j]?=some x:=c1;have c4':X.env.kindOf x=some .cell\/X.env.kindOf x=some .free:=by
   show X.env.scope.names.lookup x=some .cell\/X.env.scope.names.lookup x=some .free;rw[hsc];exact c4
  obtain⟨m0,hn0,hl0⟩:=I.loc;obtain⟨u,ru,lu⟩:=hl0 j x v (by rw[hN];exact c1) e2' (.inr c4');refine⟨u,ru,.inr ⟨?_,?_⟩⟩
  ·exact DV c2
  rcases lu with⟨k,_⟩|⟨_,c,ec,hc⟩
  ·rcases c4' with z|z<;>(rw[k]at z;cases z)
  refine⟨c,D2 c3 ec,?_⟩;obtain⟨o,ho,hd⟩:=hc;exact⟨o,old _ _ ho,hd⟩
 cell:=λx c e=>by
  obtain⟨v,o,ho,hd⟩:=I.cell x c (BJ e);exact⟨v,o,old _ _ ho,hd⟩
 free:=I.hok.fresh hC
 freeC:=λx c e=>I.freeC x c (BJ e)
 pin:=λp hp=>by
  have hp:p∈([]:Pq)++ [(D,oD)]:=hp;have e:p=(D,oD):=by simpa using hp
  subst e;refine⟨hacc,I.hok.fresh hD,hDC,λhb=>?_,hod⟩;obtain⟨_,o,ho,_⟩:=I.stack.mem (show D∈KL X.stack from hb);exact absurd (aW (aN ho) hD) (cR _)
 hok:=I.hok.kept old
 len:=by
  unfold Ex;show _=(xs++ys).length;rw[aM,aM,cZ,aI,CS.cap.1]
end
def Ie(I:Af X pins σ H s2)(CS:C3 scope sc N0 xs ys js)(hsc:X.env.scope=sc)(hN:X.N=N0)
 (f:∀b∈fp,D5 X pins H b)(J:Af (Fh X (xs++ys) scope C s2 H fp) pp σ' H' s'):Af (Fh X (xs++ys) scope C s2 H fp) pp (Ex xs.length js σ) H' s' where
 ok:=J.ok
 os:=J.os
 bare:=J.bare
 base:=J.base
 loc:=by
  obtain⟨m,hns,_⟩:=J.loc;refine⟨m,hns,λi x v e1 e2 e3=>?_⟩;have e1:(xs++ys)[i]?=some x:=e1;have hi:xs.length<=i:=by
   refine hX λq=>?_;unfold Ex at e2;rw[aL (by simpa using q),cG,if_pos q]at e2;cases e2
  rw[aS hi]at e1;unfold Ex at e2;rw[aS (by simpa using hi),cZ,aJ]at e2;obtain⟨j,ej⟩:∃j,js[i-xs.length]?=some j:=by
   cases e:js[i-xs.length]? with
   |none=>rw[e]at e2;cases e2
   |some j=>exact⟨j,rfl⟩
  rw[ej]at e2;have e2:(σ[j]?).join=some v:=bE e2;have e2':σ[j]?=some (some v):=by
   cases e:σ[j]? with
   |none=>rw[e]at e2;cases e2
   |some o=>rw[e]at e2;exact bQ some e2
  have hz:(x,j)∈ys.zip js:=by
   have:(ys.zip js)[i-xs.length]?=some (x,j):=by rw[gX];exact⟨e1,ej⟩
   exact aQ this
  obtain⟨c1,c2,c3,c4⟩:=CS.cap.2 _ hz;have c1:N0[j]?=some x:=c1;have c4':X.env.kindOf x=some .cell\/X.env.kindOf x=some .free:=by
   show X.env.scope.names.lookup x=some .cell\/X.env.scope.names.lookup x=some .free;rw[hsc];exact c4
  obtain⟨m0,hn0,hl0⟩:=I.loc;obtain⟨u,ru,lu⟩:=hl0 j x v (by rw[hN];exact c1) e2' (.inr c4');refine⟨u,ru,.inr ⟨DV c2,?_⟩⟩;rcases lu with⟨k,_⟩|⟨_,c,ec,hc⟩
  ·rcases c4' with z|z<;>(rw[k]at z;cases z)
  refine⟨c,D2 c3 ec,?_⟩;obtain⟨o,ho,hd⟩:=hc;obtain⟨sl,e⟩:=J.base.any ho (I.freeC x c ec) λhb=>(f c hb).2.2.2.2.1 x c ec rfl;exact⟨_,e,hd⟩
 cell:=J.cell
 free:=J.free
 freeC:=J.freeC
 pin:=J.pin
 hok:=J.hok
 len:=by
  unfold Ex;show _=(xs++ys).length;rw[aM,aM,cZ,aI,CS.cap.1]
def PQ(X:Cx)(ifs:List Expr)(t:TT):Prop:=
 ∀(pins:List (Addr×Obj)) (s:Shared) (σ:St) (H:Hp) (Q:Bool->Hp->Prop),Af X pins σ H s->t σ H Q->
  wpAny (model X.prog X.w) X.A (forIn ifs true λc r=>if r=true then do let ok ←isTrue c X.env (eval c X.env);pure (ForInStep.yield ok) else pure (ForInStep.yield r)) (TP X pins σ Q) X.xe s
def TR:TT:=λ_ H Q=>Q true H
def XT:PQ X [] TR:=λ_ _ _ H _ I h=>wpAny_tests_nil ⟨H,I,h⟩
def XS(h:PT X c t):PQ X [c] t:=λpins s σ H Q I hw=>wpAny_tests_one (h pins s σ H Q I hw)
def Wv(k:Nat)(js:List Nat)(g:TG)(tc:TT)(te:TE)(σ:St)(J:It)(H1:Hp)(fin:List V->Hp->Prop):Prop:=
 ∃W:Nat->Nat->List V->Hp->Prop,(∃m,W 0 m [] H1)/\∀i m ys H,W i m ys H->
  (J.stop i H/\ys.length<=sizeLine/\fin ys H)\/
  (J.go i H/\ys.length<sizeLine/\∃N:List V->Hp->Prop,(∀ys' H',N ys' H'->∃m',m'<m/\W (i+1) m' ys' H')/\∀x H2,J.yld i H x H2->g x (Ex k js σ) H2 λσ2 H3=>tc σ2 H3 λb H4=>
    if b=true then te σ2 H4 λy H5=>N (ys++ [y]) H5 else N ys H4)
def Qw(k:Nat)(js:List Nat)(wi:TI)(g:TG)(tc:TT)(te:TE):TE:=λσ H Q=>wi σ H λJ H1=>Wv k js g tc te σ J H1 λys H'=>∀p,H' p=none->Q (.ref p) (upd H' p (.lst ys))
section
variable {X:Cx}{scope sc:Scope}{N0 xs ys:List Str}{js:List Nat}{elt tg iter:Expr}{ifs:List Expr}{pos:Pos}{wi:TI}{g:TG}{tc:TT}{te:TE}
def RJ(its:List Value)(y:Value):its.toArray.push y=(its++ [y]).toArray:=by simp
def GV{pins:Pq}{σ:St}{H:Hp}{s2:Shared}{it:Addr}{fp:List Addr}{tn:Nat->Heap->Prop}{J:It}{RR:Value->Addr->Result->Shared->Prop}{fin:List V->Hp->Prop}{E:Vq}
 (CS:C3 scope sc N0 xs ys js)(hsc:X.env.scope=sc)(hN:X.N=N0)(hc:X.calm=true)
 (I:Af X pins σ H s2)(T:J6 X.prog X.w X.K tg J fp it tn)(t0:tn 0 s2.heap)(f:∀b∈fp,D5 X pins H b)
 (hg:∀C s2 H fp,PG (Fh X (xs++ys) scope C s2 H fp) tg g)(hq:∀C s2 H fp,PQ (Fh X (xs++ys) scope C s2 H fp) ifs tc)(he:∀C s2 H fp,PE (Fh X (xs++ys) scope C s2 H fp) elt te)
 (hw:Wv xs.length js g tc te σ J H fin)
 (hR:∀(D C:Addr) (H':Hp) (vs:List V) (s':Shared),(∃m,s'.heap.Ns C m)->Af X pins σ (upd H' D (.lst vs)) s'->H' D=none->C≠D->H' C=none->C≠X.env.locals->X.s₀.heap.objs.size<=C->(∀x c,X.env.cells.lookup x=some c->c≠C)->(∀p∈X.pn++pins,p.1≠C)->fin vs H'->
   RR (.ref D) C (.ok .next) s') :
 wpAny (model X.prog X.w) X.A (newList []) (λacc s3=>wpAny (model X.prog X.w) X.A (newFunctionEnv scope X.env.globals (Dh X.env.cells scope.names []) [] X.env.qual none .none (some X.env)) (λcenv s4=>
  codeAny (model X.prog X.w) X.A (.compStart (.ListComp elt [⟨tg,iter,ifs,0⟩] scope pos) 0 (.ref it) acc {cenv with scope:=relabel scope X.env}) (RR acc cenv.locals) s4) E s3) E s2:=by
 obtain⟨W,⟨m0,w0⟩,turn⟩:=hw;have fl:∀b∈fp,b<s2.heap.objs.size:=λb hb=>by
  obtain⟨o,e,_⟩:=T.obj 0 _ t0 b hb;exact aN e
 refine gO (wpAny_newFunctionEnv CS.nocell (by intro y hy;simp at hy) (λh1 hns1 hsb1=>?_) CS.kind);dsimp only at hns1 hsb1 ⊢;generalize hH2:s2.heap.push {cls:=.type "list",dict:=none,data:=.seq ([]:List Value).toArray}=H2 at hns1 hsb1 ⊢;have hC:H2.objs.size=s2.heap.objs.size+1:=by rw[←hH2,cK]
 have hDC:s2.heap.objs.size≠H2.objs.size:=by rw[hC];exact aX (eC _)
 have hCle:s2.heap.objs.size<=H2.objs.size:=by rw[hC];exact cX _
 have below:∀b,b<s2.heap.objs.size->b≠H2.objs.size/\b≠s2.heap.objs.size:=λb hb=>⟨by rw[hC];exact aX (eN hb),aX hb⟩;have old:∀b o,s2.heap.get? b=some o->h1.get? b=some o:=λb o e=>hsb1.extBut b o (below b (aN e)).1 (aD _ (hH2▸aD _ e));have hacc:h1.get? s2.heap.objs.size=some {cls:=.type "list",data:=.seq ([]:List Value).toArray 0}:=hsb1.extBut _ _ hDC (aD _ (hH2▸aK _ rfl));have t1:tn 0 h1:=T.keep _ _ _ t0 λb _ o e=>old b o e;have fC:∀{H':Hp}{oD:Obj},(∀b∈fp,H' b=none)->∀b∈fp,D5 (Fh X (xs++ys) scope H2.objs.size s2 H fp) [(s2.heap.objs.size,oD)] H' b:=λ{H' oD} hn b hb=>
  ⟨hn b hb,(below b (fl b hb)).1,Sm I (f b hb),.inl hb,λx c e=>(f b hb).2.2.2.2.1 x c (BJ e),λp hp=>by
    have hp:p∈([]:Pq)++ [(s2.heap.objs.size,oD)]:=hp;have e:p=(s2.heap.objs.size,oD):=by simpa using hp
    subst e;exact bN (below b (fl b hb)).2⟩
 have loop:∀s3:Shared,s3={s2 with heap:=h1,toks:=s2.toks+([]:List (Str×Value)).length}->
  codeAny (model X.prog X.w) X.A (.compLoop (.ListComp elt [⟨tg,iter,ifs,0⟩] scope pos) 0 (.ref it) (.ref s2.heap.objs.size) (compEnvC scope (Dh X.env.cells scope.names []) H2.objs.size X.env))
   (RR (.ref s2.heap.objs.size) H2.objs.size) s3:=by
  rintro s3 rfl;refine Pw (λk s'=>E5 λ(i:Nat) (vs:List V) (its:List Value) (n:Nat) (H':Hp)=>A5 (Af (Fh X (xs++ys) scope H2.objs.size s2 H fp) [(s2.heap.objs.size,{cls:=.type "list",data:=.seq its.toArray n})] (Ex xs.length js σ) H' s') (Al vs its) (tn i s'.heap) (∀b∈fp,H' b=none) (W i k vs H')) ?_ m0 ⟨0,[],[],0,H,?_,.nil,t1,λb hb=>(f b hb).1,w0⟩
  ·rintro k s3 ⟨i,vs,its,n,H3,I3,rv,t3,fr3,w3⟩;have hno:∀(e:Value) (s':Shared),False->notedBy (model X.prog X.w) X.A (compEnvC scope (Dh X.env.cells scope.names []) H2.objs.size X.env) (λe s'=>RR (.ref s2.heap.objs.size) H2.objs.size (.error e) s') e s':=λ_ _ z=>z.elim;rcases turn i k vs H3 w3 with⟨stop,hz,fn⟩|⟨go,hz,N,hN',step⟩
   ·refine cC (T.done (Fh X (xs++ys) scope H2.objs.size s2 H fp) rfl rfl rfl hc i _ s3 _ H3 (λ_ _=>False) I3 (fC fr3) t3 stop) (λr s4 ⟨hr,I4⟩=>?_) hno;subst hr;have pD:=I4.pin (s2.heap.objs.size,_) (bD _ aG);obtain⟨mC,hnC,_⟩:=I4.loc;have u4:Un (KL X.stack) fp H (upd H3 s2.heap.objs.size (.lst vs)) s2.heap s4.heap:=
     ⟨I4.base.keep,I4.base.slot,λb o e n hb=>by rw[Ab (below b (aN e)).2];exact I4.base.free b o e n hb,I4.base.there,
       λb x e=>by rw[Ab (below b (I.hok.lt e)).2];exact I4.base.tups b x e,λb o x e=>by rw[Ab (below b (I.hok.lt e)).2];exact I4.base.frzs b o x e,
       λb p e=>by rw[Ab (below b (I.hok.lt e)).2];exact I4.base.tbls b p e⟩
    have hk4:De X.prog X.w (upd H3 s2.heap.objs.size (.lst vs)) s4.heap:=λb o e=>by
     by_cases hb:b=s2.heap.objs.size
     ·subst hb;rw[Ac]at e;cases e;exact⟨hz,its,n,rv,pD.1⟩
     rw[Ab hb]at e;exact(I4.hok b o e).stay (λ_ _ _ q=>q) (λc q=>by rw[Ab (Ao q pD.2.1)];exact q) λc x q=>by rw[Ab (Ao q pD.2.1)];exact q
    refine hR _ _ H3 vs s4 ⟨mC,hnC⟩ (I.call' I4.os u4 hk4 I4.bare λb hb=>⟨(f b hb).2.2.2.1,(f b hb).2.1,(f b hb).2.2.2.2.1,(f b hb).2.2.2.2.2⟩) pD.2.1 (bN hDC) I4.free ?_ ?_ ?_ ?_ fn
    ·exact bN (below _ I.lt).1
    ·exact aV I.sz hCle
    ·intro x c e;obtain⟨v,o,ho,_⟩:=I.cell x c e;exact(below c (aN ho)).1
    intro p hp;exact(below p.1 (aN (I.pin p hp).1)).1
   refine cC (T.item (Fh X (xs++ys) scope H2.objs.size s2 H fp) rfl rfl rfl hc i _ s3 _ H3 (λ_ _=>False) I3 (fC fr3) t3 go) (λr s4 ⟨u,hr,h4⟩=>?_) hno;subst hr;refine cC h4 (λ_ s5 ⟨x,H5,I5,r5,y5,t5,fr5⟩=>?_) hno;have I5':=I5.pinned (fC fr5) (T.obj _ _ t5);refine cC (hg H2.objs.size s2 H fp _ s5 _ H5 x u _ I5' r5 (step x H5 y5)) (λ_ s6 ⟨σ6,H6,I6,q6⟩=>?_) hno;refine cC (hq H2.objs.size s2 H fp _ s6 σ6 H6 _ I6 q6) (λb s7 ⟨H7,I7,q7⟩=>?_) hno;have keepI:∀{σ':St}{H':Hp}{s':Shared},Af (Fh X (xs++ys) scope H2.objs.size s2 H fp) ([(s2.heap.objs.size,{cls:=.type "list",data:=.seq its.toArray n})]++Gs fp s5.heap) σ' H' s'->tn (i+1) s'.heap/\∀b∈fp,H' b=none:=λ{σ' H' s'} J'=>
    ⟨T.keep _ _ _ t5 λb hb o e=>(J'.pin (b,o) (bD _ (bD _ (CP hb e)))).1,λb hb=>by
      obtain⟨o,e,d⟩:=T.obj _ _ t5 b hb;exact(J'.pin (b,o) (bD _ (bD _ (CP hb e)))).2.1⟩
   cases b with
   |false=>
    obtain⟨m',hm,w7⟩:=hN' _ _ q7;exact⟨m',hm,i+1,vs,its,n,H7,Ie I CS hsc hN f I7.unpinned,rv,(keepI I7).1,(keepI I7).2,w7⟩
   |true=>
    refine cC (he H2.objs.size s2 H fp _ s7 σ6 H7 _ I7 q7) (λy s8 ⟨yv,H8,I8,r8,n8⟩=>?_) hno;obtain⟨m',hm,w8⟩:=hN' _ _ n8;have pD:=I8.pin (s2.heap.objs.size,_) (bD _ (dA _ aG));refine append_at (hsz:=by show its.toArray.size<=sizeLine;rw[aZ,←rv.length];exact eP hz) pD.1 λh9 hs9 hD9=>?_;have hD9':h9.get? s2.heap.objs.size=some {cls:=.type "list",data:=.seq (its++ [y]).toArray (n+1)}:=by rw[hD9,RJ]
    have J8:=Ie I CS hsc hN f I8.unpinned;have hDf:s2.heap.objs.size∉fp:=λhb=>cR _ (fl _ hb);refine⟨m',hm,i+1,vs++ [yv],its++ [y],n+1,H8,?_,rv.append (.cons r8 .nil),T.keep _ _ _ (keepI I8).1 λb hb o e=>hs9.extBut b o (λq=>hDf (q▸hb)) e,(keepI I8).2,w8⟩;have J9:Af (Fh X (xs++ys) scope H2.objs.size s2 H fp) [] (Ex xs.length js σ) H8 s8:=J8.pins_of λp hp=>absurd hp (by simp);have J9':Af (Fh X (xs++ys) scope H2.objs.size s2 H fp) [] (Ex xs.length js σ) H8 {s8 with heap:=h9,toks:=s8.toks}:=J9.turned (it:=s2.heap.objs.size) (λb o hb e=>hs9.extBut b o hb e) pD.2.1 hDC (.inr (aH _))
     (λx c e z=>by
       obtain⟨v,o,ho,_⟩:=I.cell x c (BJ e);exact(below c (aN ho)).2 z) (λp hp=>absurd (show p∈([]:Pq)++ [] from hp) (by simp))
    refine J9'.pins_of λp hp=>?_;have e:p=(s2.heap.objs.size,{cls:=.type "list",data:=.seq (its++ [y]).toArray (n+1)}):=by simpa using hp
    subst e;exact⟨hD9',pD.2.1,hDC,pD.2.2.2.1,λv z=>by cases z⟩
  exact Sc (fp:=fp) I CS hsc hN f fl hCle (aH _) hDC hns1 old hacc (λv z=>by cases z)
 exact codeAny_compStart_list (loop _ rfl) (T.self X.A 0 _ _ _ t1 (loop _ rfl))
def Ij(ok:X.Ok)(CS:C3 scope sc N0 xs ys js)(hsc:X.env.scope=sc):closureFor scope X.env=pure (Dh X.env.cells scope.names []):=V5 λy hy e=>by
 have h:=CS.fr y hy e;rw[←hsc]at h;exact ok.has y.1 h
def KD(I:Af X pins σ H s)(hn:H C=none)(hL:C≠X.env.locals)(h0:X.s₀.heap.objs.size<=C)(hcl:∀x c,X.env.cells.lookup x=some c->c≠C)(hp:∀p∈X.pn++pins,p.1≠C)
 (hs:Heap.SameBut C s.heap h'):Af X pins σ H {s with heap:=h'}:=I.turned (t':=s.toks) (it:=C) (λb o hb e=>hs.extBut b o hb e) hn hL (.inr h0) hcl hp
def UD(CS:C3 scope sc N0 xs ys js)(hc:X.calm=true)(hi:PI X tg iter wi)(hg:∀C s2 H fp,PG (Fh X (xs++ys) scope C s2 H fp) tg g)(hq:∀C s2 H fp,PQ (Fh X (xs++ys) scope C s2 H fp) ifs tc)
 (he:∀C s2 H fp,PE (Fh X (xs++ys) scope C s2 H fp) elt te)(hsc:X.env.scope=sc:=by rfl)(hN:X.N=N0:=by rfl)(hs:∀x,foldedSetIterable iter X.env x=pure x:=by intro _;rfl) :
 PE X (.ListComp elt [⟨tg,iter,ifs,0⟩] scope pos) (Qw xs.length js wi g tc te):=by
 intro pins s σ H Q I h;rw[eval_ListComp];refine wpAny_comprehension_free (use:=none) rfl hs (Ij I.ok CS hsc) CS.kind CS.loc (AR (hi pins s σ H _ I h) λv s1 h1=>AR h1 λitv s2 h2=>?_);obtain⟨it,fp,tn,J,H2,e,I2,T,t2,f2,hw⟩:=h2;subst e;refine GV (RR:=λacc C=>compPost (model X.prog X.w) X.A X.xe none (EP X pins σ Q) acc C) CS hsc hN hc I2 T t2 f2 hg hq he hw ?_;intro D C H' vs s' hm I' hD hCD hC hL h0 hcl hp fn;obtain⟨m,hm⟩:=hm;refine⟨m,hm,λh' hs'=>⟨.ref D,_,KD I' (by rw[Ab hCD];exact hC) hL h0 hcl hp hs',rfl,fn D hD⟩⟩
def LF{i:Nat}{y:Str}(CS:C3 scope sc N0 xs ys js)(hc:X.calm=true)(hNd:X.N.Nodup)(hiy:X.N[i]?=some y)(hy:X.env.scope.names.lookup y=some .local)
 (hi:PI X tg iter wi)(hg:∀C s2 H fp,PG (Fh X (xs++ys) scope C s2 H fp) tg g)(hq:∀C s2 H fp,PQ (Fh X (xs++ys) scope C s2 H fp) ifs tc)
 (he:∀C s2 H fp,PE (Fh X (xs++ys) scope C s2 H fp) elt te)(hsc:X.env.scope=sc:=by rfl)(hN:X.N=N0:=by rfl)(hs:∀x,foldedSetIterable iter X.env x=pure x:=by intro _;rfl)
 (hsw:swapsWith (.ListComp elt [⟨tg,iter,ifs,0⟩] scope pos) (some (.Name y py)) spos.line X.env=pure true:=by rfl) :
 PS X (.Assign [.Name y py] (.ListComp elt [⟨tg,iter,ifs,0⟩] scope pos) spos) (TQ (Qw xs.length js wi g tc te) (KJ i)):=by
 intro pins s σ H Dn I h;rw[exec_Assign_Name_used _ _ _ _ hsw];refine a8 (wpAny_standAt (a8 ?_));show wpAny _ X.A (do let _ ←comprehension (.ListComp elt [⟨tg,iter,ifs,0⟩] scope pos) scope X.env _ (newList []) false (eval iter X.env) (some (assign (.Name y py) X.env))) _ _ s;refine a8 (cC (wpAny_comprehension_free (use:=some (assign (.Name y py) X.env)) (Q:=λ_ s'=>SP X pins Dn .next s') rfl hs (Ij I.ok CS hsc) CS.kind CS.loc
  (AR (hi pins s σ H _ I h) λv s1 h1=>AR h1 λitv s2 h2=>?_)) (λ_ s' hq=>aO (aO hq)) λ_ _ e=>e)
 obtain⟨it,fp,tn,J,H2,e,I2,T,t2,f2,hw⟩:=h2;subst e;refine GV (RR:=λacc C=>compPost (model X.prog X.w) X.A X.xe (some (assign (.Name y py) X.env)) (λ_ s'=>SP X pins Dn .next s') acc C) CS hsc hN hc I2 T t2 f2 hg hq he hw ?_;intro D C H' vs s' hm I' hD hCD hC hL h0 hcl hp fn;obtain⟨m,hm⟩:=hm;show wpAny _ X.A (assign (.Name y py) X.env (.ref D)) _ _ _;refine wpAny_assign_Name (HD (v:=.ref D) I' hNd hiy (.inl hy) rfl (λs2 I2 hch=>?_) (.inr hy));obtain⟨a,sb,ha⟩:=hch;have hCa:C≠a:=by
  rcases ha with ha|ha
  ·rw[ha];exact hL
  exact λz=>hcl y a ha z.symm
 refine⟨m,hm.sameBut sb hCa,λh' hs'=>?_⟩;exact⟨_,_,KD I2 (by rw[Ab hCD];exact hC) hL h0 hcl hp hs',fn D hD⟩
end
def W9(i j:Int):Prop:=0<j/\j<10000000000000000000000000000000000000000
def SO{i j:Int}(h:W9 i j):Builtin.divisionGoesByPylong i j=false:=by
 obtain⟨h1,h2⟩:=h;refine PyProof.noPylong_of_log2 ?_;have h0:j.natAbs≠0:=by lia
 have h3:j.natAbs<2^200:=by
  have e:(2:Nat)^200=1606938044258990275541962092341162602522202993782792835301376:=by decide
  rw[e]
  lia
 have:=(Nat.log2_lt h0).mpr h3
 lia
section
def R7:BE X (binaryOp .FloorDiv) (rI W9 λi j=>.int (i / j)):=ZQ λi j _ _ _ _ _ hc q=>by
 have h1:=hc.1;exact floordiv_int (by lia) (by rw[gH i (by lia)];exact q) (.inl (SO hc))
noncomputable def Zs:V->Option Value
 |.ty n=>some (.type n)
 |.ref C=>some (.ref C)
 |_=>none
def Lf(h:Zs c=some cv)(r:As c u):u=cv:=by
 cases c with
 |ty n=>cases h;exact r
 |ref C=>cases h;exact r
 |_=>cases h
def FE:Bh X (.builtin "isinstance") (λxs H Q=>E5 λx c t cv b=>A5 (xs=[x,c]) (Zs c=some cv) (Ei X.K H x t) (PySem.W.kitOne X.K t cv=some b) (Q (.bl b) H)):=by
 intro pins s σ H xs us Q I r h;obtain⟨x,c,t,cv,b,rfl,hc,ht,hk,q⟩:=h;obtain⟨u,w',rfl,rx,rc⟩:=Fw r;have e:=Lf hc rc;subst e;exact Pe I rx ht hk λtk=>⟨.bl b,H,I.tok _,rfl,q⟩
def BQ{K:Fq}{n:String}:PySem.W.kitOne K (.type n) (.type n)=some true:=by
 unfold PySem.W.kitOne;rw[if_pos (beq_self_eq_true _)]
def AE{K:Fq}{a c:String}{b:Bool}(h1:(Value.type a ==Value.type c)=false)(h2:PySem.W.kitMeta c=true)(h3:(fastBuiltinMro a).map (·.contains (Value.type c))=some b) :
 PySem.W.kitOne K (.type a) (.type c)=some b:=by
 unfold PySem.W.kitOne;rw[if_neg (by rw[h1];exact aB)];show(if PySem.W.kitMeta c=true then PySem.W.subIn K (.type a) (.type c) else none)=some b;rw[if_pos h2];exact h3
section
variable {K:Fq}
def Jj:PySem.W.kitOne K (.type "bool") (.type "int")=some true:=AE (by decide +kernel) (by decide +kernel) (by decide +kernel)
def Ja:PySem.W.kitOne K (.type "NoneType") (.type "int")=some false:=AE (by decide +kernel) (by decide +kernel) (by decide +kernel)
def K7:PySem.W.kitOne K (.type "str") (.type "int")=some false:=AE (by decide +kernel) (by decide +kernel) (by decide +kernel)
def Jc:PySem.W.kitOne K (.type "list") (.type "int")=some false:=AE (by decide +kernel) (by decide +kernel) (by decide +kernel)
def Hs:PySem.W.kitOne K (.type "tuple") (.type "int")=some false:=AE (by decide +kernel) (by decide +kernel) (by decide +kernel)
def Jh:PySem.W.kitOne K (.type "dict") (.type "int")=some false:=AE (by decide +kernel) (by decide +kernel) (by decide +kernel)
def Jf:PySem.W.kitOne K (.type "int") (.type "bool")=some false:=AE (by decide +kernel) (by decide +kernel) (by decide +kernel)
def Hv:PySem.W.kitOne K (.type "NoneType") (.type "bool")=some false:=AE (by decide +kernel) (by decide +kernel) (by decide +kernel)
def IY:PySem.W.kitOne K (.type "str") (.type "bool")=some false:=AE (by decide +kernel) (by decide +kernel) (by decide +kernel)
def Hw:PySem.W.kitOne K (.type "list") (.type "bool")=some false:=AE (by decide +kernel) (by decide +kernel) (by decide +kernel)
def G9:PySem.W.kitOne K (.type "tuple") (.type "bool")=some false:=AE (by decide +kernel) (by decide +kernel) (by decide +kernel)
def Hy:PySem.W.kitOne K (.type "dict") (.type "bool")=some false:=AE (by decide +kernel) (by decide +kernel) (by decide +kernel)
def K8:PySem.W.kitOne K (.type "int") (.type "str")=some false:=AE (by decide +kernel) (by decide +kernel) (by decide +kernel)
def Ji:PySem.W.kitOne K (.type "bool") (.type "str")=some false:=AE (by decide +kernel) (by decide +kernel) (by decide +kernel)
def IZ:PySem.W.kitOne K (.type "NoneType") (.type "str")=some false:=AE (by decide +kernel) (by decide +kernel) (by decide +kernel)
def Jb:PySem.W.kitOne K (.type "list") (.type "str")=some false:=AE (by decide +kernel) (by decide +kernel) (by decide +kernel)
def Hr:PySem.W.kitOne K (.type "tuple") (.type "str")=some false:=AE (by decide +kernel) (by decide +kernel) (by decide +kernel)
def Jg:PySem.W.kitOne K (.type "dict") (.type "str")=some false:=AE (by decide +kernel) (by decide +kernel) (by decide +kernel)
def Hx:PySem.W.kitOne K (.type "int") (.type "tuple")=some false:=AE (by decide +kernel) (by decide +kernel) (by decide +kernel)
def GF:PySem.W.kitOne K (.type "bool") (.type "tuple")=some false:=AE (by decide +kernel) (by decide +kernel) (by decide +kernel)
def GB:PySem.W.kitOne K (.type "NoneType") (.type "tuple")=some false:=AE (by decide +kernel) (by decide +kernel) (by decide +kernel)
def GC:PySem.W.kitOne K (.type "list") (.type "tuple")=some false:=AE (by decide +kernel) (by decide +kernel) (by decide +kernel)
def Hu:PySem.W.kitOne K (.type "str") (.type "tuple")=some false:=AE (by decide +kernel) (by decide +kernel) (by decide +kernel)
def GD:PySem.W.kitOne K (.type "dict") (.type "tuple")=some false:=AE (by decide +kernel) (by decide +kernel) (by decide +kernel)
end
inductive Kd where
 |non|bl|int|str|lst|tup|dct
 deriving DecidableEq
noncomputable def Kd.nm:Kd->String
 |.non=> "NoneType" | .bl=> "bool" | .int=> "int" | .str=> "str" | .lst=> "list" | .tup=> "tuple" | .dct=> "dict"
def qE(K:PySem.W.Frag)(H:Hp)(x:V)(k:Kd):Prop:=Ei K H x (.type k.nm)
noncomputable def Kd.isA:Kd->Kd->Bool
 |.bl,.int=>true
 |a,b=>decide (a=b)
def Je{K:Fq}{a c:Kd}(hc:c=.int\/c=.bl\/c=.str\/c=.tup):PySem.W.kitOne K (.type a.nm) (.type c.nm)=some (a.isA c):=by
 rcases hc with rfl|rfl|rfl|rfl
 ·cases a<;>first|exact BQ|exact Jj|exact Ja|exact K7|exact Jc|exact Hs|exact Jh
 ·cases a<;>first|exact BQ|exact Jf|exact Hv|exact IY|exact Hw|exact G9|exact Hy
 ·cases a<;>first|exact BQ|exact K8|exact IZ|exact Ji|exact Jb|exact Hr|exact Jg
 cases a<;>first|exact BQ|exact Hx|exact GB|exact GF|exact GC|exact Hu|exact GD
end
noncomputable def qG(x:Str):It:=⟨λi _=>i<x.cps.size,λi H v H'=>H'=H/\∃c,x.cps[i]?=some c/\v=.str ⟨#[c]⟩,λi _=>i=x.cps.size⟩
def JL{P:Program}{w:World}{K:Fq}{tg:Expr}(it:Addr)(ty:String)(x:Str)(t:Tok)(hty: ["enumerate","zip","dict_itemiterator","dict_reverseitemiterator","odict_iterator","itertools.zip_longest","itertools.pairwise"].contains ty=false)
 (W:∀A':Around,A'.handled=none->Walks P w A' it [it] [it] x.cps.size (SignAt x) (λi h=>h.IsStrIter it ty x t i))
 (slf:∀(A:Around) (i:Nat) (s:Shared) (Q:Vq) (E:Vq),s.heap.IsStrIter it ty x t i->Q (.ref it) s->wpAny (model P w) A (pyIter (.ref it)) Q E s) :
 J6 P w K tg (qG x) [it] it (λi h=>h.IsStrIter it ty x t i) where
 mem:=by simp
 obj:=λi h st b hb=>by
  have e:b=it:=by simpa using hb
  subst e;obtain⟨o,e,c,d⟩:=st;exact⟨o,e,λv z=>by rw[d]at z;cases z⟩
 keep:=λi h h' st k=>by
  obtain⟨o,e,r⟩:=st;exact⟨o,k it (by simp) o e,r⟩
 item:=by
  intro X hP hw hK hc i pins s σ H E I hf st hg;subst hP hw hK;obtain⟨f0,f1,f2,f3,f4,f5⟩:=hf it (by simp);refine(W X.A (I.ok.hd hc)).item i s _ _ hg st λv h' tk hv st' kk=>?_;obtain⟨c,u,ec,rfl⟩:=hv;have I1:Af X pins σ H {s with heap:=h',toks:=tk}:=I.turned (λb o hb e=>kk b o (by simpa using hb) e) f0 f1 f3 f4 f5;obtain⟨o,e,cc,d⟩:=id st';exact⟨_,rfl,KI (s:={s with heap:=h',toks:=tk}) e cc d hty ⟨.str ⟨#[c]⟩,H,I1,⟨u,rfl⟩,⟨rfl,c,ec,rfl⟩,st',λb hb=>(hf b hb).1⟩⟩
 done:=by
  intro X hP hw hK hc i pins s σ H E I hf st hg;subst hP hw hK;obtain⟨f0,f1,f2,f3,f4,f5⟩:=hf it (by simp);have e:i=x.cps.size:=hg;subst e;exact(W X.A (I.ok.hd hc)).done s _ _ st λh' tk kk=>⟨rfl,I.turned (λb o hb e=>kk b o (by simpa using hb) e) f0 f1 f3 f4 f5⟩
 self:=slf
section
theorem MK:∀{bs:List Bool}{its:List Value},Al (bs.map V.bl) its->its=bs.map Value.bool
 |[],_,.nil=>rfl
 |b::bs,_,.cons r t=>by
  cases r;rw[MK t];rfl
def P8(hc:X.calm=true):Bh X (.builtin "all") (λxs H Q=>∃(p:Addr) (bs:List Bool),xs=[.ref p]/\D4 X.K H p (bs.map V.bl)/\Q (.bl (bs.all id)) H):=by
 intro pins s σ H xs us Q I r h;obtain⟨p,bs,rfl,hq,q⟩:=h;obtain⟨u,rfl,ru⟩:=C5 r;cases ru;obtain⟨its,rv,pl,hz⟩:=I.list hq;have e:=MK rv;subst e;have hlt:p<s.heap.objs.size:=by obtain⟨o,n,e,_⟩:=pl;exact aN e
 refine call_all_walk (gP pl.isList ?_);refine⟨s.heap.objs.size,_,[s.heap.objs.size],_,_,_,λi=>bs.getD i true,rfl,Walks.list (A:=X.A.in1) (show X.A.in1.handled=none from I.ok.hd hc) s.heap.objs.size p (aX hlt) (bs.map Value.bool).toArray,⟨⟨_,aK _ rfl,rfl,rfl⟩,pl.isList.push _⟩,?_,λh' tk hk=>?_⟩
 ·intro i v s' Q' E' hP hQ';have hP:((bs.map Value.bool).toArray)[i]?=some v:=hP;rw[iG,aJ]at hP;cases e:bs[i]? with
  |none=>rw[e]at hP;cases hP
  |some b=>
   rw[e]at hP;cases hP;refine cM ?_;have e':bs.getD i true=b:=by rw[dW,e];rfl
   have hQ':Q' (bs.getD i true) s':=hQ';rw[e']at hQ';exact hQ'
 have e:(List.range (bs.map Value.bool).toArray.size).all (λi=>bs.getD i true)=bs.all id:=by
  rw[cO];simp only[List.size_toArray,List.length_map,List.all_eq_true,List.mem_range,id];constructor
  ·intro h b hb;obtain⟨i,hi,e⟩:=cV.mp hb;have:=h i hi;rw[dW,aU hi,e]at this;exact this
  intro h i hi;rw[dW,aU hi];exact h _ (hZ hi)
 rw[e];exact⟨.bl (bs.all id),H,I.kept λb o e=>hk b o (by simp;exact aX (aN e)) (aD _ e),rfl,q⟩
def OS:ah X "int.bit_length" (λx xs H Q=>∃i,x=.int i/\xs=[]/\Q (.int (Builtin.Int.intBits i)) H):=by
 intro pins s σ H x xs v us Q I rx rs h;obtain⟨i,rfl,rfl,q⟩:=h;obtain⟨t,rfl⟩:=rx;cases rs;exact call_int_bit_length ⟨.int _,H,I.tok _,⟨_,rfl⟩,q⟩
end
section
variable {κ:Type} [DecidableEq κ]
noncomputable def Ep(kvs:List (κ×V))(k:κ):Option V:=(kvs.find? λkv=>decide (kv.1=k)).map (·.2)
noncomputable def FI(kvs:List (κ×V))(k:κ)(v:V):List (κ×V):=
 if (kvs.any λkv=>decide (kv.1=k))=true then kvs.map (λkv=>if kv.1=k then(kv.1,v) else kv) else kvs++ [(k,v)]
def Dk{p:κ×V}(e:p.1=k):Ep (p::r) k=some p.2:=by simp[Ep,List.find?_cons,e]
def Dl{p:κ×V}(e:¬p.1=k):Ep (p::r) k=Ep r k:=by simp[Ep,List.find?_cons,e]
theorem JK(k:κ):∀kvs:List (κ×V),(kvs.any λkv=>decide (kv.1=k))=(Ep kvs k).isSome
 |[]=>rfl
 |p::r=>by
  rw[cT];by_cases e:p.1=k
  ·simp only[Dk e,decide_eq_true e,Bool.true_or,Option.isSome_some]
  rw[Dl e,bL e,Bool.false_or];exact JK k r
def F9(kvs:List (κ×V))(k:κ)(v:V):(FI kvs k v).length<=kvs.length+1:=by
 unfold FI;split
 ·rw[aI];lia
 rw[aM,bV,List.length_nil];lia
def DN.isSome_eq(r:DN o u):o.isSome=u.isSome:=by
 cases o with
 |none=>cases u with
  |none=>rfl
  |some _=>exact(show False from r).elim
 |some _=>cases u with
  |none=>exact(show False from r).elim
  |some _=>rfl
def KV.val(r:KV kvs vs)(k:κ):DN (Ep kvs k) (valueAt vs k):=by
 unfold KV at r
 induction r with
 |nil=>exact True.intro
 |@cons p q ps qs h t ih=>
  obtain⟨h1,h2⟩:=h;by_cases e:p.1=k
  ·have e':q.1=k:=h1.symm.trans e;have b:valueAt (q::qs) k=some q.2:=by simp[valueAt,List.find?_cons,e']
   rw[Dk e,b];exact h2
  have e': ¬q.1=k:=λz=>e (h1.trans z);have b:valueAt (q::qs) k=valueAt qs k:=by simp[valueAt,List.find?_cons,e']
  rw[Dl e,b];exact ih
theorem KV.any(r:KV kvs vs)(k:κ):(kvs.any λkv=>decide (kv.1=k))=vs.any λkv=>decide (kv.1=k):=by
 unfold KV at r
 induction r with
 |nil=>rfl
 |cons h t ih=>rw[cT,cT,ih,h.1]
def KV.repl(r:KV kvs vs)(k:κ)(ry:As y u) :
 KV (kvs.map λkv=>if kv.1=k then(kv.1,y) else kv) (vs.map λkv=>if kv.1=k then(kv.1,u) else kv):=by
 unfold KV at r ⊢
 induction r with
 |nil=>exact .nil
 |@cons p q ps qs h t ih=>
  rw[aF,aF];refine .cons ?_ ih;obtain⟨h1,h2⟩:=h;by_cases e:p.1=k
  ·rw[if_pos e,if_pos (h1.symm.trans e)];exact⟨h1,ry⟩
  rw[if_neg e,if_neg (λz=>e (h1.trans z))];exact⟨h1,h2⟩
def KV.put(r:KV kvs vs)(k:κ)(ry:As y u):KV (FI kvs k y) (stored vs k u):=by
 unfold FI stored;rw[r.any k];by_cases e:(vs.any λkv=>decide (kv.1=k))=true
 ·rw[if_pos e,if_pos e];exact r.repl k ry
 rw[if_neg e,if_neg e];exact Paired.snoc r ⟨rfl,ry⟩
theorem KV.length(r:KV kvs vs):kvs.length=vs.length:=Paired.length r
end
def KC(r:As (kV k) u):(Aj P w).is k u=true:=by
 cases k with
 |inl i=>obtain⟨t,e⟩:=(show ∃t,u=Value.int i t from r);subst e;exact Kz P w i t
 |inr x=>obtain⟨t,e⟩:=(show ∃t,u=Value.str x t from r);subst e;exact Kx P w x t
theorem Ic:∀{ks:List Key}{us:List Value},Al (ks.map kV) us->ItemsAre (Aj P w) ks us
 |[],_,r=>by rw[hV]at r;cases r;exact .nil
 |k::ks,_,r=>by
  rw[aF]at r;cases r with
  |cons h t=>exact .cons (KC h) (Ic t)
abbrev KT(H:Hp):List (List Key×V)->List (List Key×Addr×Value)->Prop:=Paired λp q=>p.1=q.1/\H q.2.1=some (.tup (p.1.map kV))/\As p.2 q.2.2
def KT.val(r:KT H kvs xs)(k:List Key):DN (Ep kvs k) ((atKey xs k).map (·.2)):=by
 induction r with
 |nil=>exact True.intro
 |@cons p q ps qs h t ih=>
  obtain⟨h1,_,h2⟩:=h;by_cases e:p.1=k
  ·have e':q.1=k:=h1.symm.trans e;have b:atKey (q::qs) k=some q.2:=by simp[atKey,List.find?_cons,e']
   rw[Dk e,b];exact h2
  have e': ¬q.1=k:=λz=>e (h1.trans z);have b:atKey (q::qs) k=atKey qs k:=by simp[atKey,List.find?_cons,e']
  rw[Dl e,b];exact ih
def KT.repl(r:KT H kvs xs)(k:List Key)(ry:As y u) :
 KT H (kvs.map λkv=>if kv.1=k then(kv.1,y) else kv) (xs.map (putAt k u)):=by
 induction r with
 |nil=>exact .nil
 |@cons p q ps qs h t ih=>
  rw[aF,aF];refine .cons ?_ ih;obtain⟨h1,h2,h3⟩:=h;unfold putAt;by_cases e:p.1=k
  ·rw[if_pos e,if_pos (h1.symm.trans e)];exact⟨h1,h2,ry⟩
  rw[if_neg e,if_neg (λz=>e (h1.trans z))];exact⟨h1,h2,h3⟩
def KT.put(r:KT H kvs xs)(k:List Key)(hb:H b=some (.tup (k.map kV)))(ry:As y u) :
 KT H (FI kvs k y) (storedH xs k b u):=by
 have e:(kvs.any λkv=>decide (kv.1=k))=(atKey xs k).isSome:=by
  rw[JK,(r.val k).isSome_eq,gQ]
 unfold FI storedH;rw[e];by_cases q:(atKey xs k).isSome=true
 ·rw[if_pos q,if_pos q];exact r.repl k ry
 rw[if_neg q,if_neg q];exact Paired.snoc r ⟨rfl,hb,ry⟩
def KT.keeps(r:KT H kvs xs)(ht:∀b ys,H b=some (.tup ys)->H' b=some (.tup ys)):KT H' kvs xs:=
 Paired.mapP r λ_ _ z=>⟨z.1,ht _ _ z.2.1,z.2.2⟩
section
def VY(ok:De P w H h)(e:Rd H a u):AG P w H h a u:=e.ok ok
def KZ(ok:De P w H h)(e:Rd H a (.dK kvs)):kvs.length<=sizeLine/\(a ==sysModules)=false/\∃vs,KV kvs vs/\h.DictOf (Aj P w) a vs:=
 show AG P w H h a (.dK kvs) from VY ok e
def j3(ok:De P w H h)(e:H a=some (.dK kvs)):kvs.length<=sizeLine/\(a ==sysModules)=false/\∃vs,KV kvs vs/\h.DictOf (Aj P w) a vs:=KZ ok (.inl e)
def Fa(ok:De P w H h)(e:H a=some (.tup (ks.map kV))):(tupleKind (Aj P w)).is h ks a:=by
 obtain⟨_,its,r,o,h1,h2,n,h3⟩:=(show AG P w H h a (.tup (ks.map kV)) from ok a _ e);exact⟨o,its.toArray,n,h1,h2,h3,by simpa using Ic r⟩
def KU(ok:De P w H h)(e:Rd H a (.dT kvs)):kvs.length<=sizeLine/\(a ==sysModules)=false/\
 ∃xs,KT H kvs xs/\h.DictOfH (tupleKind (Aj P w)) a xs:=by
 obtain⟨z,y,xs,r,o,es,ep,h1,h2,h3,h4,h5⟩:=(show AG P w H h a (.dT kvs) from VY ok e);refine⟨z,y,xs,r,o,es,ep,h1,h2,h3,h4,λx hx=>?_,h5⟩;have all:∀{l:List (List Key×V)}{m:List (List Key×Addr×Value)},KT H l m->∀x∈m,(tupleKind (Aj P w)).is h x.1 x.2.1:=by
  intro l m q
  induction q with
  |nil=>intro x hx;exact nomatch hx
  |@cons p q ps qs hq t ih=>
   intro x hx;rcases aR.mp hx with e|hx
   ·subst e;exact Fa ok (by rw[←hq.1];exact hq.2.1)
   exact ih x hx
 exact all r x hx
def j0(ok:De P w H h)(e:H a=some (.dT kvs)):kvs.length<=sizeLine/\(a ==sysModules)=false/\
 ∃xs,KT H kvs xs/\h.DictOfH (tupleKind (Aj P w)) a xs:=KU ok (.inl e)
end
def Tu(H:Hp)(a:Addr)(y:V)(r:Option V):Prop:=
 (∃kvs k,Rd H a (.dK kvs)/\y=kV k/\r=Ep kvs k)\/E3 λkvs k b=>A4 (Rd H a (.dT kvs)) (y=.ref b) (H b=some (.tup (k.map kV))) (r=Ep kvs k)
def km(H:Hp)(a:Addr)(y v:V)(H':Hp):Prop:=
 (E2 λkvs k=>A4 (H a=some (.dK kvs)) (y=kV k) (kvs.length<sizeLine) (H'=upd H a (.dK (FI kvs k v))))\/
 E3 λkvs k b=>A5 (H a=some (.dT kvs)) (y=.ref b) (H b=some (.tup (k.map kV))) (kvs.length<sizeLine) (H'=upd H a (.dT (FI kvs k v)))
section
def Af.big(I:Af X pins σ H s):sysModules<s.heap.objs.size:=by
 have h:=(I.mod.glob.keeps I.bk).lt;exact Nat.lt_trans (by decide) h
def Ps(hu:A.units+1<cLine)(I:Af X pins σ H s)(g:Tu H a y (some v))(ry:As y u)(h:∀w' s',Af X pins σ H s'->As v w'->Q w' s') :
 wpAny (model X.prog X.w) A (getItem (.ref a) u) Q E s:=by
 rcases g with⟨kvs,k,e,ey,l⟩|⟨kvs,k,b,e,ey,eb,l⟩
 ·subst ey;obtain⟨z,hd,vs,rel,dd⟩:=KZ I.hok e;obtain⟨w',hw,rw'⟩:=DN.some_of (v:=v) (o:=valueAt vs k) (by rw[l];exact rel.val k);exact wpAny_getItem_of (KC ry) dd.mapOf hw (h w' _ (I.tok _) rw')
 subst ey;cases (show u=Value.ref b from ry);obtain⟨z,hd,xs,rel,dd⟩:=KU I.hok e;obtain⟨w',hw,rw'⟩:=DN.some_of (v:=v) (o:=(atKey xs k).map (·.2)) (by rw[l];exact rel.val k);obtain⟨p,hp,hp2⟩:=aE.mp hw;refine wpAny_getItem_heap (f9 hu) (Fa I.hok eb) dd hp ?_;rw[hp2];exact h w' _ (I.tok _) rw'
def pJ(hu:A.units+1<cLine)(I:Af X pins σ H s)(g:Tu H a y o)(ry:As y u)(h:∀s',Af X pins σ H s'->Q (.bool o.isSome) s') :
 wpAny (model X.prog X.w) A (compareOp .In u (.ref a)) Q E s:=by
 rcases g with⟨kvs,k,e,ey,l⟩|⟨kvs,k,b,e,ey,eb,l⟩
 ·subst ey;obtain⟨z,hd,vs,rel,dd⟩:=KZ I.hok e;refine wpAny_in_of (KC ry) hd dd.mapOf ?_;rw[←(rel.val k).isSome_eq,←l];exact h _ (I.tok _)
 subst ey;cases (show u=Value.ref b from ry);obtain⟨z,hd,xs,rel,dd⟩:=KU I.hok e;refine wpAny_in_heap (f9 hu) (Fa I.hok eb) hd dd ?_;have q:=(rel.val k).isSome_eq;rw[gQ]at q;rw[←q,←l];exact h _ (I.tok _)
def Vz(hu:A.units+1<cLine)(I:Af X pins σ H s)(g:Tu H a y o)(ry:As y u)(h:∀s',Af X pins σ H s'->Q (.bool (!o.isSome)) s') :
 wpAny (model X.prog X.w) A (compareOp .NotIn u (.ref a)) Q E s:=by
 rcases g with⟨kvs,k,e,ey,l⟩|⟨kvs,k,b,e,ey,eb,l⟩
 ·subst ey;obtain⟨z,hd,vs,rel,dd⟩:=KZ I.hok e;refine wpAny_notIn_of (KC ry) hd dd.mapOf ?_;rw[←(rel.val k).isSome_eq,←l];exact h _ (I.tok _)
 subst ey;cases (show u=Value.ref b from ry);obtain⟨z,hd,xs,rel,dd⟩:=KU I.hok e;refine wpAny_notIn_heap (f9 hu) (Fa I.hok eb) hd dd ?_;have q:=(rel.val k).isSome_eq;rw[gQ]at q;rw[←q,←l];exact h _ (I.tok _)
def NQ{t':Nat}(I:Af X pins σ H s)(mu:kf (H a))(hs:Heap.SameBut a s.heap h')(he:∃q,h'.get? a=some q)(new:AG X.prog X.w (upd H a ob) h' a ob) :
 Af X pins σ (upd H a ob) {s with heap:=h',toks:=t'}:=
 I.write (x:=a) (e:=a) mu (.inl rfl) (λb q hb z=>(hs.2 b hb).trans z) he new
def Zk(z:kvs.length<=sizeLine)(hd:(a ==sysModules)=false)(rel:KV kvs vs)(dd:h'.DictOf (Aj P w) a vs) :
 AG P w H' h' a (.dK kvs):=⟨z,hd,vs,rel,dd⟩
def Pr(hu:A.units+1<cLine)(I:Af X pins σ H s)(g:km H a y v H')(ry:As y u)(rv:As v r)(h:∀s',Af X pins σ H' s'->Q () s') :
 wpAny (model X.prog X.w) A (setItem (.ref a) u r) Q E s:=by
 rcases g with⟨kvs,k,e,ey,l,eH⟩|⟨kvs,k,b,e,ey,eb,l,eH⟩
 ·subst ey eH;obtain⟨z,hd,vs,rel,dd⟩:=j3 I.hok e;have hz:vs.length<=sizeLine:=by rw[←rel.length];exact z
  have hl:(FI kvs k v).length<=sizeLine:=by have:=F9 kvs k v;lia
  refine wpAny_setItem_pairs (hsz:=hz) (KC ry) dd λh' dd' hs=>h _ ?_;have he:∃q,h'.get? a=some q:=let ⟨q,_,_,hq,_⟩:=dd';⟨q,hq⟩;exact NQ I (by rw[e];exact True.intro) hs he (Zk hl hd (rel.put k rv) dd')
 subst ey eH;cases (show u=Value.ref b from ry);obtain⟨z,hd,xs,rel,dd⟩:=j0 I.hok e;have hz:xs.length<=sizeLine:=by rw[←Paired.length rel];exact z
 have hl:(FI kvs k v).length<=sizeLine:=by have:=F9 kvs k v;lia
 refine wpAny_setItem_heap (hsz:=hz) (f9 hu) (Fa I.hok eb) dd λh' dd' hs=>h _ ?_;obtain⟨q,es,ep,hq,h2,h3,h4,_,h5⟩:=dd';refine NQ I (by rw[e];exact True.intro) hs ⟨q,hq⟩ ⟨hl,hd,_,(rel.put k eb rv).keeps λc ys ec=>?_,q,es,ep,hq,h2,h3,h4,h5⟩;rw[Ab (HR ec e (λz=>nomatch z))];exact ec
end
def La(I:Af X pins σ H s)(g:Tu H a y o):s.TypeIs (.ref a) "dict":=by
 rcases g with⟨kvs,k,e,_,_⟩|⟨kvs,k,b,e,_,_,_⟩
 ·obtain⟨_,_,vs,_,dd⟩:=KZ I.hok e;exact dd.typeIs
 obtain⟨_,_,xs,_,dd⟩:=KU I.hok e;exact dd.typeIs
def gf(td ty tv:TE):TS:=λD σ H=>tv σ H λv H1=>td σ H1 λx H2=>ty σ H2 λy H3=>∃a H4,x=.ref a/\km H3 a y v H4/\D.nx σ H4
section
def Uv(hu:X.A.units+1<cLine)(ho:PE X o td)(hi:PE X i ty)(hv:PE X value tv)(hs:swapsWith value (some (.Subscript o i pos')) pos.line X.env=pure false) :
 PS X (.Assign [.Subscript o i pos'] value pos) (gf td ty tv):=by
 intro pins s σ H D I h;refine wpAny_Assign_Subscript (AR (hv pins s σ H _ I h) λr s1 ⟨v,H1,I1,rv,q1⟩=>AR (ho pins s1 σ H1 _ I1 q1) λu s2 ⟨x,H2,I2,rx,q2⟩=>AR (hi pins s2 σ H2 _ I2 q2) λiv s3 ⟨y,H3,I3,ry,a,H4,ex,g,q3⟩=>?_) hs;subst ex;obtain rfl:u=Value.ref a:=rx;exact Pr hu I3 g ry rv λs4 I4=>⟨σ,H4,I4,q3⟩
end
def S6(h:Heap)(hb:sysModules<h.objs.size):AG P w H (h.push {cls:=.type "dict",data:=.dict #[]}) h.objs.size (.dK []):=
 ⟨cS _,bG.mpr (bN (aX hb)),[],.nil,Heap.DictOf.new h⟩
def Sz(h:Heap)(hb:sysModules<h.objs.size):AG P w H (h.push {cls:=.type "dict",data:=.dict #[]}) h.objs.size (.dT []):=
 ⟨cS _,bG.mpr (bN (aX hb)),[],.nil,_,#[],0,aK _ rfl,⟨rfl,rfl,rfl⟩,rfl,rfl,g6⟩
def WU:TE:=λ_ H Q=>∀p,H p=none->Q (.ref p) (upd H p (.dK []))
def WT:TE:=λ_ H Q=>∀p,H p=none->Q (.ref p) (upd H p (.dT []))
section
def R1:PE X (.Dict [] [] pos) WU:=λpins s σ H Q I h=>
 wpAny_Dict_empty ⟨.ref s.heap.objs.size,_,I.laid (a:=s.heap.objs.size) (o:=.dK []) (t':=s.toks) (λ_ _ q=>aD _ q) (aH _) (S6 s.heap I.big),rfl,h _ (I.hok.fresh (aH _))⟩
def R0:PE X (.Dict [] [] pos) WT:=λpins s σ H Q I h=>
 wpAny_Dict_empty ⟨.ref s.heap.objs.size,_,I.laid (a:=s.heap.objs.size) (o:=.dT []) (t':=s.toks) (λ_ _ q=>aD _ q) (aH _) (Sz s.heap I.big),rfl,h _ (I.hok.fresh (aH _))⟩
end
open PySem PySem.Spec PyProof.Rows PySem.SeqAt
mutual
inductive Lv(K:PySem.W.Frag)(H:Hp):V->PyData->Prop
 |non:Lv K H .non .none
 |bl (b:Bool):Lv K H (.bl b) (.bool b)
 |int (i:Int):Lv K H (.int i) (.int i)
 |str (x:Str):Lv K H (.str x) (.str x)
 |lst {a:Addr}{xs:List V}{ds:List PyData}:D4 K H a xs->Ha K H xs ds->Lv K H (.ref a) (.list ds)
 |tup {a:Addr}{xs:List V}{ds:List PyData}:Iw K H a xs->Ha K H xs ds->Lv K H (.ref a) (.tuple ds)
inductive Ha(K:PySem.W.Frag)(H:Hp):List V->List PyData->Prop
 |nil:Ha K H [] []
 |cons {x:V}{d:PyData}{xs:List V}{ds:List PyData}:Lv K H x d->Ha K H xs ds->Ha K H (x::xs) (d::ds)
end
section
mutual
theorem Lv.reads(I:Af X pins σ H s):∀{x:V}{d:PyData}{u:Value},Lv X.K H x d->As x u->∃as,Reads s.heap u d as
 |_,_,_,.non,r=>by cases r;exact⟨_,.none⟩
 |_,_,_,.bl b,r=>by cases r;exact⟨_,.bool b⟩
 |_,_,_,.int i,r=>by obtain⟨t,rfl⟩:=r;exact⟨_,.int i t⟩
 |_,_,_,.str x,r=>by obtain⟨t,rfl⟩:=r;exact⟨_,.str x t⟩
 |_,_,_,.lst hq hs,r=>by
  cases r;obtain⟨its,rv,pl,hz⟩:=I.list hq;obtain⟨as,ra⟩:=Ha.reads I hs rv;obtain⟨o,n,e,hc,hd,dd⟩:=pl;exact⟨_,.list e hc dd (by simpa using ra)⟩
 |_,_,_,.tup hq hs,r=>by
  cases r;obtain⟨its,rv,pl,hz⟩:=I.tuple hq;obtain⟨as,ra⟩:=Ha.reads I hs rv;obtain⟨o,e,hc,n,dd⟩:=pl;exact⟨_,.tuple e hc dd (by simpa using ra)⟩
theorem Ha.reads(I:Af X pins σ H s):∀{xs:List V}{ds:List PyData}{us:List Value},Ha X.K H xs ds->Al xs us->∃as,ReadsAll s.heap us ds as
 |_,_,_,.nil,.nil=>⟨_,.nil⟩
 |_,_,_,.cons h hs,.cons r rs=>by
  obtain⟨as,ra⟩:=Lv.reads I h r;obtain⟨bs,rb⟩:=Ha.reads I hs rs;exact⟨_,.cons ra rb⟩
end
end
section
def gp(K:PySem.W.Frag)(neg:Bool):R2:=λx y H Q=>∃dx dy,Lv K H x dx/\Lv K H y dy/\shaped dx=true/\shaped dy=true/\Q (.bl (if neg then !PyData.eqv dx dy else PyData.eqv dx dy)) H
def Yo(hu:X.A.units+64<cLine):BE X (compareOp .Eq) (gp X.K false):=by
 intro pins s σ H x y v u Q I rx ry h;obtain⟨dx,dy,hx,hy,sx,sy,q⟩:=h;obtain⟨as,ra⟩:=hx.reads I rx;obtain⟨bs,rb⟩:=hy.reads I ry;exact eq_dataH ra rb sx sy hu (Aw I q rfl)
def Yk(hu:X.A.units+64<cLine):BE X (compareOp .NotEq) (gp X.K true):=by
 intro pins s σ H x y v u Q I rx ry h;obtain⟨dx,dy,hx,hy,sx,sy,q⟩:=h;obtain⟨as,ra⟩:=hx.reads I rx;obtain⟨bs,rb⟩:=hy.reads I ry;exact ne_dataH ra rb sx sy hu (Aw I q rfl)
end
structure PK(P:Program)(w:World)(K:PySem.W.Frag)(mg:Str->Option Value)(base:Heap)(x:Str)(k:Nat)(ps:List Str)(sp:Sp):Prop where
 ex:E2 λ(f:Addr) (fd:FuncData)=>A4 (D6 P w K mg base Ol k f fd ps sp) (mg x=some (.ref f)) (PySem.W.keepIn K (.ref f)=true) (BF K fd ps [])
def ie{x:Str}{k j:Nat}(F:PK X.prog X.w X.K X.mg X.base x k ps sp)(hr:Bi j X.A)(hj:k<=j)(hg:Gl X x)(ha:PA X (e::es) t)
 (hdb:(x ==("__debug__" :Str))=false:=by decide)(he:starEach (e::es) X.env=(false,eval e X.env)::starEach es X.env:=by rfl)(hpl:(backTo pos (starEach es X.env)).any (·.1)=false:=by rfl) :
 PE X (.Call (.Name x p) (e::es) [] pos) (VQ sp [] E0 t):=by
 obtain⟨f,fd,G,hm,hk,hb⟩:=F.ex;exact UG G (hr.mono hj) hg hm hk hb .nil R4 ha hdb he hpl
def Am.new(h:H p=none):Am H (upd H p o):=λb u e=>by
 rw[Ab (Ao e h)];exact e
section
variable {x:Str}
def Ry{z:Str}(hg:Gl X x)(h:∃t,X.mg x=some (.str z t))(hd:(x ==("__debug__" :Str))=false:=by decide):PE X (.Name x pos) (tC (.str z)):=by
 obtain⟨t,e⟩:=h;exact FV hg e ⟨t,rfl⟩ hd
def Rz{i:Int}(hg:Gl X x)(h:∃t,X.mg x=some (.int i t))(hd:(x ==("__debug__" :Str))=false:=by decide):PE X (.Name x pos) (tC (.int i)):=by
 obtain⟨t,e⟩:=h;exact FV hg e ⟨t,rfl⟩ hd
end
section
theorem Gi:∀{ys:List Str}{us:List Value},Al (ys.map V.str) us->StrsAre us ys
 |[],_,.nil=>.nil
 |y::r,_,.cons h t=>by
  obtain⟨k,rfl⟩:=h;exact .cons y k (Gi t)
def UP:ah X "str.join" (λx xs H Q=>∃z a ys,x=.str z/\xs=[.ref a]/\D4 X.K H a (ys.map V.str)/\(ys.map (·.length)).sum+ys.length*z.length<=16777216/\Q (.str (Txt.join z ys)) H):=by
 intro pins s σ H x xs v us Q I rx rs h;obtain⟨z,a,ys,rfl,rfl,hq,hz,q⟩:=h;obtain⟨t,rfl⟩:=rx;obtain⟨u,rfl,ru⟩:=C5 rs;cases ru;obtain⟨its,rv,pl,_⟩:=I.list hq;exact join_list pl.isList (by simpa using Gi rv) hz λt' k=>⟨.str _,H,I.tok _,⟨_,rfl⟩,q⟩
end
section
def om:V->Option Int->Option Int->Hp->VK->Prop:=λx lo hi H Q=>∃z,x=.str z/\z.length<=sizeLine/\Q (.str (Txt.slice z lo hi)) H
def Xg:mw X om:=by
 intro pins s σ H x v vl vu lo hi sl Q I rx hs pl pu h;obtain⟨z,rfl,hz,q⟩:=h;obtain⟨t,rfl⟩:=rx;refine⟨"str",_,PySem.F.slot_str_getitem.lookup,typeIs_str _ _ _,?_⟩;have fin:∀t' k,EP X pins σ Q (.str (Txt.slice z lo hi) t') {s with toks:=k}:=λt' k=>⟨.str _,H,I.tok _,⟨_,rfl⟩,q⟩;cases pl with
 |none=>cases pu with
  |none=>exact eI (l:=none) (u:=none) (st:=none) hs rfl (fR ⟨aV (i4 z _ _) hz,fin⟩)
  |int j uj=>exact eI (l:=none) (u:=some (j,uj)) (st:=none) hs rfl (fR ⟨aV (i4 z _ _) hz,fin⟩)
 |int i ui=>cases pu with
  |none=>exact eI (l:=some (i,ui)) (u:=none) (st:=none) hs rfl (fR ⟨aV (i4 z _ _) hz,fin⟩)
  |int j uj=>exact eI (l:=some (i,ui)) (u:=some (j,uj)) (st:=none) hs rfl (fR ⟨aV (i4 z _ _) hz,fin⟩)
end
structure VI(K:PySem.W.Frag)(mg:Str->Option Value)(x:Str)(C:Addr):Prop where
 mg:mg x=some (.ref C)
 makes:PySem.W.makesIn K C=true
 init:PySem.W.findIn K (.ref C) "__init__"=some (some (.builtin "object.__init__"))
 kp:PySem.W.keepIn K (.ref C)=true
def bx(C:Addr):TE:=λ_ H Q=>∀x dx,H x=none->H dx=none->dx≠x->Q (.ref x) (upd (upd H dx (.own x)) x (.ins C dx []))
section
variable {x m:Str}
def UB(D:VI X.K X.mg x C)(hg:Gl X x)(hdb:(x ==("__debug__" :Str))=false:=by decide):PE X (.Call (.Name x p) [] [] pos) (bx C):=by
 intro pins s σ H Q I h;refine c8 (DC I hg D.mg ?_ hdb);refine PySem.W.callWith_K0 I.kIn D.kp ?_;have hq:=h (s.heap.objs.size+1) s.heap.objs.size (I.hok.fresh (cX _)) (I.hok.fresh (aH _)) (aX (eC _));have I2:=Af.made (C:=C) I;refine fP (OU I.kIn D.makes D.init (λself=>PySem.W.Looks.of_pure (PySem.W.oi_bind self)) ?_);have Y:=PySem.W.makes_of (M:=model X.prog X.w) I.kIn D.makes;have hx:((s.heap.push PySem.W.emptyDict).push (PySem.W.instObj C s.heap.objs.size)).get? (s.heap.objs.size+1)=some (PySem.W.instObj C s.heap.objs.size):=by
  have:=aK (s.heap.push PySem.W.emptyDict) (o:=PySem.W.instObj C s.heap.objs.size) rfl
  rwa[cK]at this
 have t1:PySem.W.Looks (model X.prog X.w) ((s.heap.push PySem.W.emptyDict).push (PySem.W.instObj C s.heap.objs.size)) (typeOf (.ref (s.heap.objs.size+1))) (.ref C):=(PySem.W.Looks.ld hx).andThen .now;have t2:PySem.W.Looks (model X.prog X.w) ((s.heap.push PySem.W.emptyDict).push (PySem.W.instObj C s.heap.objs.size)) (isInstance (.ref (s.heap.objs.size+1)) (.type "object")) true:=
  t1.andThen (Y.top.keeps λb o e=>aD _ (aD _ e))
 refine codeAny_call_builtin PySem.W.oi_plain PySem.W.entry_oi (@PySem.W.check_slot (model X.prog X.w) _ _ _ "object.__init__" "object" "__init__" (.ref (s.heap.objs.size+1)) [] [] _ PySem.W.oi_kind PySem.W.oi_split t2 (PySem.W.oi_args (.ref (s.heap.objs.size+1))) ?_);rw[PySem.W.oi_run];exact aO (And.intro rfl ⟨V.ref (s.heap.objs.size+1),_,I2,rfl,hq⟩)
structure W6(P:Program)(w:World)(K:PySem.W.Frag)(mg:Str->Option Value)(base:Heap)(CX:W8)(k:Nat)(C:Addr)(m:Str)(ps:List Str)(sp:Sp):Prop where
 out:∃(f:Addr) (fd:FuncData),Tv K C/\ZG K C m f/\D6 P w K mg base CX k f fd ps sp/\BF K fd ps []
def Um:List V->Hp->VK->Prop:=λxs H Q=>∃j:Int,xs=[.int j]/\∀p,H p=none->Q (.ref p) (upd H p (.rng 0 j))
def Ll:Bh X (.type "range") Um:=by
 intro pins s σ H xs us Q I r h;obtain⟨j,rfl,q⟩:=h;obtain⟨u,rfl,ru⟩:=C5 r;obtain⟨t,rfl⟩:=ru;have hn:=I.hok.fresh (aH _);refine call_range_1 ⟨.ref s.heap.objs.size,_,I.laid (t':=s.toks+1+1) (λb o e=>aD _ e) (aH _) ?_,rfl,q _ hn⟩;exact⟨_,_,_,aK _ rfl⟩
def QF:List V->Hp->VK->Prop:=λxs H Q=>∃(p:Addr) (n:Nat),xs=[.ref p]/\H p=some (.rng 0 n)/\n<=1000/\∀l,H l=none->Q (.ref l) (upd H l (.lst ((List.range n).map λ(i:Nat)=>V.int i)))
def Jw(hc:X.calm=true):Bh X (.type "list") QF:=by
 intro pins s σ H xs us Q I r h;obtain⟨p,n,rfl,hp,hn,q⟩:=h;obtain⟨u,rfl,ru⟩:=C5 r;obtain rfl:u=Value.ref p:=ru;obtain⟨t,u,v,e⟩:=(show AG X.prog X.w H s.heap p (.rng 0 n) from I.hok p _ hp);have hs:sizeLine=16777216:=dI;have hf:H s.heap.objs.size=none:=I.hok.fresh (aH _);refine call_list_range (a:=0) (b:=(n:Int)) (c:=1) (t:=t) (u:=u) (v:=v) (n:=n) (I.ok.hd hc) e (small_one (by lia) (by lia) (by lia) (by lia)) (by rw[rangeSize_one];split<;>lia) (by lia) λh' tk acc' c' hk hl hacc=>?_;refine⟨.ref s.heap.objs.size,_,I.laid (t':=tk) hk (aH _) ?_,rfl,q _ hf⟩;refine⟨by rw[aI,b9];lia,acc'.toList,c',?_,by rw[hl]⟩;obtain⟨h1,h2⟩:=hacc;have key:∀(l:List Value) (k:Nat),(∀i v,l[i]?=some v->∃t,v=Value.int (((k+i:Nat):Int)) t)->Al ((List.range' k l.length).map λ(i:Nat)=>V.int i) l:=by
  intro l
  induction l with
  |nil=>intro k _;exact .nil
  |cons a r ih=>
   intro k hv;refine .cons ?_ ?_
   ·obtain⟨t,e⟩:=hv 0 a rfl;exact⟨t,by rw[e];simp⟩
   refine ih (k+1) λi v e=>?_;obtain⟨t,z⟩:=hv (i+1) v (by simpa using e);exact⟨t,by rw[z];congr 1;lia⟩
 have z:=key acc'.toList 0 λi v e=>by
  obtain⟨t,z⟩:=h2 i v (by simpa using e);exact⟨t,by rw[z];congr 1;lia⟩
 rw[show acc'.toList.length=n by rw[eX];exact h1,←List.range_eq_range']at z;exact z
end
section
structure qJ(P:Program)(w:World)(K:PySem.W.Frag)(mg:Str->Option Value)(base:Heap)(x m:Str)(k:Nat)(ps:List Str)(sp:Sp):Prop where
 ex:E3 λ(G f:Addr) (fd:FuncData)=>A7 (D6 P w K mg base Ol k f fd ps sp) (mg x=some (.ref G)) (PySem.W.readsIn K G (.type "type")=true) (PySem.W.findCls K (.ref G) (.type "type") m=some (.val (.ref f))) (PySem.W.specialIn K (.ref G) "__getattribute__"=some (some (.builtin "type.__getattribute__"))) (PySem.W.keepIn K (.ref f)=true) (BF K fd ps [])
end
open PySem.Builtin.SmallTypes (nextOf)
structure Nx(P:Program)(w:World)(it l:Addr)(us:Array Value)(S:Nat->Heap->Prop):Prop where
 keep:∀k g g',S k g->(∀o,g.get? it=some o->g'.get? it=some o)->(∀o,g.get? l=some o->g'.get? l=some o)->S k g'
 item:∀(A:Around) (E:Value->Shared->Prop) (Q:Value->Shared->Prop) (s:Shared) (k:Nat) (u:Value),S k s.heap->us[k]?=some u->(∀g,S (k+1) g->Heap.SameBut it s.heap g->Q u {s with heap:=g})->wpAny (model P w) A (nextOf (.ref it)) Q E s
 fin:∀(A:Around) (E:Value->Shared->Prop) (Q:Value->Shared->Prop) (s:Shared) (k:Nat),A.handled=none->S k s.heap->us[k]?=none->
  (∀g e,Heap.ExtBut it s.heap g->(∃o,g.get? e=some o/\o.cls=.type "StopIteration")->E (.ref e) {s with heap:=g})->wpAny (model P w) A (nextOf (.ref it)) Q E s
 there:∀k g,S k g->∃o,g.get? it=some o/\∀v,o.data≠ .cell v
section
def UN(hne:l≠it):Nx P w it l us (λk g=>g.IsListIter it l k/\g.IsList l us) where
 keep:=λk g g' h h1 h2=>⟨h.1.at h1,h.2.at h2⟩
 item:=λA E Q s k u h e q=>wpAny_nextOf_list_item h.1 h.2 e λg h1 sb=>q g ⟨h1,h.2.extBut sb.extBut hne⟩ sb
 fin:=λA E Q s k hh h e q=>wpAny_nextOf_list_end hh h.1 h.2 e q
 there:=λk g h=>by
  obtain⟨o,e,_,d⟩:=h.1;exact⟨o,e,λv z=>by rw[d]at z;cases z⟩
def Qo{k:Nat}(h1:s.heap.IsTupleIter it t k)(h2:s.heap.IsTuple t us)(hu:us[k]?=some u)
 (q:∀g,g.IsTupleIter it t (k+1)->Heap.SameBut it s.heap g->Q u {s with heap:=g}):wpAny (model P w) A (nextOf (.ref it)) Q E s:=by
 obtain⟨oi,ei,ci,di⟩:=id h1;obtain⟨ot,et,_,nt,dt⟩:=h2;unfold nextOf;refine a8 (dG (name:=Str.ofString "__next__") h1.typeIs dX (eR dX h1.typeIs gC ?_ (g9 _)));show wpAny _ _ (field (.ref it) 0 >>=_) _ _ _;refine a8 (cU ei di (x:=.ref t) rfl ?_);show wpAny _ _ (if (Value.ref t ==Value.none)=true then _ else _) _ _ _;rw[if_neg (λz=>by cases z)];show wpAny _ _ (field (.ref it) 1 >>=_) _ _ _;refine a8 (cU ei di (x:=.int k 0) rfl ?_);show wpAny _ _ (seqItems? (.ref t) >>=_) _ _ _;refine a8 (cD et dt ?_);simp only[Int.toNat_natCast,hu];refine a8 (wpAny_setField ei di (by simp) (aO ⟨u,rfl,aO (q _ ?_ (Heap.SameBut.update ..))⟩));refine⟨_,fN _ ei (Obj.isFreed_of_fields (Obj.data_mapFields di _)),(Obj.cls_mapFields ..).trans ci,?_⟩;rw[Obj.data_mapFields di]<;>simp[rawInt]
def TL{k:Nat}(hh:A.handled=none)(h1:s.heap.IsTupleIter it t k)(h2:s.heap.IsTuple t us)(hu:us[k]?=none)
 (q:∀g e,Heap.ExtBut it s.heap g->(∃o,g.get? e=some o/\o.cls=.type "StopIteration")->E (.ref e) {s with heap:=g}):wpAny (model P w) A (nextOf (.ref it)) Q E s:=by
 obtain⟨oi,ei,ci,di⟩:=id h1;obtain⟨ot,et,_,nt,dt⟩:=h2;unfold nextOf;refine a8 (dG (name:=Str.ofString "__next__") h1.typeIs dX (eR dX h1.typeIs gC ?_ (g9 _)));show wpAny _ _ (field (.ref it) 0 >>=_) _ _ _;refine a8 (cU ei di (x:=.ref t) rfl ?_);show wpAny _ _ (if (Value.ref t ==Value.none)=true then _ else _) _ _ _;rw[if_neg (λz=>by cases z)];show wpAny _ _ (field (.ref it) 1 >>=_) _ _ _;refine a8 (cU ei di (x:=.int k 0) rfl ?_);show wpAny _ _ (seqItems? (.ref t) >>=_) _ _ _;refine a8 (cD et dt ?_);simp only[Int.toNat_natCast,hu];refine a8 (wpAny_rule (a8 (wpAny_setField ei di (by simp) ?_)));show wpAny _ _ (newExc (.type "StopIteration") [] >>=_) _ _ _;refine a8 ?_;simp only[newExc,newTuple];refine a8 (gO ?_ (by size_fits));refine a8 (m:=firstArgMember _ _) (wpAny_of_eq (a:=Value.none) (by first|rfl|(simp only[firstArgMember];rfl)) ?_);refine gO ?_ (by size_fits);simp only[raiseNew];refine a8 (wpAny_handled ?_)
 first|rw[show A.in1.handled=none from hh]|rw[hh]
 refine a8 (aO (wpAny_throw ?_));exact q _ _ (((Heap.SameBut.update ..).extBut.push _).push _) ⟨_,aK _ rfl,rfl⟩
def Yt(hne:l≠it):Nx P w it l us (λk g=>g.IsTupleIter it l k/\g.IsTuple l us) where
 keep:=λk g g' h h1 h2=>⟨h.1.at h1,let ⟨o,e,r⟩:=h.2;⟨o,h2 o e,r⟩⟩
 item:=λA E Q s k u h e q=>Qo h.1 h.2 e λg h1 sb=>q g ⟨h1,h.2.extBut sb.extBut hne⟩ sb
 fin:=λA E Q s k hh h e q=>TL hh h.1 h.2 e q
 there:=λk g h=>by
  obtain⟨o,e,_,d⟩:=h.1;exact⟨o,e,λv z=>by rw[d]at z;cases z⟩
end
open PySem.Builtin.SmallTypes (ownedTupleIsFree ownedTupleHandOut)
structure ZA(z TI TO i1 i2 l1 l2:Addr):Prop where
 a:TI≠z/\TO≠z/\i1≠z/\i2≠z/\l1≠z/\l2≠z
 b:TI≠TO/\i1≠TO/\i2≠TO/\l1≠TO/\l2≠TO
 c:TI≠i1/\i2≠i1/\l1≠i1/\l2≠i1
 d:TI≠i2/\l1≠i2/\l2≠i2
section
variable {P:Program}{w:World}{A:Around}{E:Vq}{s:Shared}{z TI TO i1 i2 l1 l2:Addr}{us vs:Array Value}{S1 S2:Nat->Heap->Prop}
def Om{k:Nat}{u v a b:Value}{Q:Vq}(D:ZA z TI TO i1 i2 l1 l2)(N1:Nx P w i1 l1 us S1)(N2:Nx P w i2 l2 vs S2)
 (hz:IsZip s.heap z TI TO .none)(hTI:IsPair s.heap TI (.ref i1) (.ref i2))(hTO:IsPair s.heap TO a b)(h1:S1 k s.heap)(h2:S2 k s.heap)(hu:us[k]?=some u)(hv:vs[k]?=some v)
 (q:∀g,IsZip g z TI TO (rawInt s.heap.objs.size)->IsPair g TO u v->S1 (k+1) g->S2 (k+1) g->IsPair g s.heap.objs.size u v->g.objs.size=s.heap.objs.size+1->
   (∀c o,c≠z->c≠TO->c≠i1->c≠i2->s.heap.get? c=some o->g.get? c=some o)->Q (.ref s.heap.objs.size) {s with heap:=g}) :
 wpAny (model P w) A (Builtin.«zip.__next__» ⟨[.ref z],[]⟩) (λfin s'=>∃v,fin=.done (.ret v)/\Q v s') E s:=by
 obtain⟨⟨d1,d2,d3,d4,d5,d6⟩,⟨d7,d8,d9,d10,d11⟩,⟨d12,d13,d14,d15⟩,d16,d17,d18⟩:=D;show wpAny _ _ (field (.ref z) 2 >>=_) _ _ _;refine a8 (cU hz rfl (x:=.bool false) rfl ?_);show wpAny _ _ (field (.ref z) 3 >>=_) _ _ _;refine a8 (cU hz rfl (x:=.ref TI) rfl (a8 (cD hTI rfl ?_)));show wpAny _ _ (ownedTupleIsFree (.ref z) >>=_) _ _ _;refine a8 ?_;unfold ownedTupleIsFree;refine a8 (cU hz rfl (x:=.none) rfl (aO ?_));simp only[if_true];refine a8 (wpAny_rule (a8 (cU hz rfl (x:=.ref TO) rfl (a8 (dJ hz (by simp) λg1 z1 b1=>?_)))))
 replace z1:IsZip g1 z TI TO .ellipsis:=z1
 refine a8 ?_;simp only[List.zipIdx_cons,List.zipIdx_nil,List.forIn_cons,List.forIn_nil];refine a8 (a8 (gK ?_));show wpAny _ _ (nextOf (.ref i1) >>=_) _ _ _;refine a8 (N1.item _ _ _ _ k u (N1.keep k _ _ h1 (λo e=>b1.extBut _ _ d3 e) λo e=>b1.extBut _ _ d5 e) hu λg2 n2 b2=>aO ?_);have t2:IsPair g2 TO a b:=b2.extBut _ _ (bN d8) (b1.extBut _ _ d2 hTO);refine a8 (cD t2 rfl (a8 (fS t2 λg3 t3 b3=>?_)))
 replace t3:IsPair g3 TO u b:=t3
 refine a8 (wpAny_letGo (aO (a8 (a8 (gK ?_)))));show wpAny _ _ (nextOf (.ref i2) >>=_) _ _ _;have y2:S2 k g3:=N2.keep k _ _ h2 (λo e=>b3.extBut _ _ d9 (b2.extBut _ _ d13 (b1.extBut _ _ d4 e))) λo e=>b3.extBut _ _ d11 (b2.extBut _ _ d15 (b1.extBut _ _ d6 e));refine a8 (N2.item _ _ _ _ k v y2 hv λg4 n4 b4=>aO ?_);have t4:IsPair g4 TO u b:=b4.extBut _ _ (bN d9) t3;refine a8 (cD t4 rfl (a8 (fS t4 λg5 t5 b5=>?_)))
 replace t5:IsPair g5 TO u v:=t5
 refine a8 (wpAny_letGo (aO (aO (a8 (cD t5 rfl (a8 (wpAny_newTuple ?_)))))));have sz:g5.objs.size=s.heap.objs.size:=by rw[b5.1,b4.1,b3.1,b2.1,b1.1]
 have z5:IsZip g5 z TI TO .ellipsis:=b5.extBut _ _ (bN d2) (b4.extBut _ _ (bN d4) (b3.extBut _ _ (bN d2) (b2.extBut _ _ (bN d3) z1)));have k5:∀c o,c≠z->c≠TO->c≠i1->c≠i2->s.heap.get? c=some o->g5.get? c=some o:=λc o c1 c2 c3 c4 e=>b5.extBut _ _ c2 (b4.extBut _ _ c4 (b3.extBut _ _ c2 (b2.extBut _ _ c3 (b1.extBut _ _ c1 e))));have m1:S1 (k+1) g5:=N1.keep _ _ _ n2 (λo e=>b5.extBut _ _ d8 (b4.extBut _ _ (bN d13) (b3.extBut _ _ d8 e))) λo e=>b5.extBut _ _ d10 (b4.extBut _ _ d17 (b3.extBut _ _ d10 e));have m2:S2 (k+1) g5:=N2.keep _ _ _ n4 (λo e=>b5.extBut _ _ d9 e) λo e=>b5.extBut _ _ d11 e;have lz:z<g5.objs.size:=aN z5;show wpAny _ _ (ownedTupleHandOut (.ref z) (.ref g5.objs.size) >>=_) _ _ _;refine a8 ?_;unfold ownedTupleHandOut;have z6:IsZip (g5.push {cls:=.type "tuple",data:=.seq #[u,v]}) z TI TO .ellipsis:=aD _ z5;refine a8 (dJ z6 (by simp) λg7 z7 b7=>?_)
 replace z7:IsZip g7 z TI TO (rawInt g5.objs.size):=z7
 refine dJ z7 (by simp) λg8 z8 b8=>?_
 replace z8:IsZip g8 z TI TO (rawInt g5.objs.size):=z8
 have up:∀c o,c≠z->g5.get? c=some o->g8.get? c=some o:=λc o c1 e=>b8.extBut _ _ c1 (b7.extBut _ _ c1 (aD _ e));have t8:IsPair g8 g5.objs.size u v:=b8.extBut _ _ (f7 lz) (b7.extBut _ _ (f7 lz) (aK _ rfl));have sz8:g8.objs.size=g5.objs.size+1:=by rw[b8.1,b7.1,cK]
 rw[sz]at z8 t8 sz8;refine aO ⟨_,rfl,?_⟩;show Q (.ref g5.objs.size) _;rw[sz];exact q g8 z8 (up _ _ d2 t5) (N1.keep _ _ _ m1 (λo e=>up _ o d3 e) λo e=>up _ o d5 e) (N2.keep _ _ _ m2 (λo e=>up _ o d4 e) λo e=>up _ o d6 e) t8 sz8 λc o c1 c2 c3 c4 e=>up c o c1 (k5 c o c1 c2 c3 c4 e)
def Qe{k:Nat}(hh:A.handled=none)(D:ZA z TI TO i1 i2 l1 l2)(N1:Nx P w i1 l1 us S1)(N2:Nx P w i2 l2 vs S2)
 (hz:IsZip s.heap z TI TO .none)(hTI:IsPair s.heap TI (.ref i1) (.ref i2))(hTO:IsPair s.heap TO a b)(h1:S1 k s.heap)(h2:S2 k s.heap)(hend:us[k]?=none\/vs[k]?=none)
 (q:∀g e,(∀c o,c≠z->c≠TO->c≠i1->c≠i2->s.heap.get? c=some o->g.get? c=some o)->(∃o,g.get? e=some o/\o.cls=.type "StopIteration")->E (.ref e) {s with heap:=g}) :
 wpAny (model P w) A (Builtin.«zip.__next__» ⟨[.ref z],[]⟩) Q E s:=by
 obtain⟨⟨d1,d2,d3,d4,d5,d6⟩,⟨d7,d8,d9,d10,d11⟩,⟨d12,d13,d14,d15⟩,d16,d17,d18⟩:=D;show wpAny _ _ (field (.ref z) 2 >>=_) _ _ _;refine a8 (cU hz rfl (x:=.bool false) rfl ?_);show wpAny _ _ (field (.ref z) 3 >>=_) _ _ _;refine a8 (cU hz rfl (x:=.ref TI) rfl (a8 (cD hTI rfl ?_)));show wpAny _ _ (ownedTupleIsFree (.ref z) >>=_) _ _ _;refine a8 ?_;unfold ownedTupleIsFree;refine a8 (cU hz rfl (x:=.none) rfl (aO ?_));simp only[if_true];refine a8 (wpAny_rule (a8 (cU hz rfl (x:=.ref TO) rfl (a8 (dJ hz (by simp) λg1 z1 b1=>?_)))))
 replace z1:IsZip g1 z TI TO .ellipsis:=z1
 refine a8 ?_;simp only[List.zipIdx_cons,List.zipIdx_nil,List.forIn_cons,List.forIn_nil];refine a8 (a8 (gK ?_));show wpAny _ _ (nextOf (.ref i1) >>=_) _ _ _;have y1:=N1.keep k _ _ h1 (λo e=>b1.extBut _ _ d3 e) λo e=>b1.extBut _ _ d5 e;cases hu:us[k]? with
 |none=>
  refine a8 (N1.fin _ _ _ _ k hh y1 hu λg2 e b2 he=>?_);obtain⟨oe,eo,ec⟩:=he;have z2:=b2 _ _ (bN d3) z1;have nez:e≠z:=λy=>by subst y;rw[z2]at eo;cases eo;simp at ec
  exact dJ z2 (by simp) λg3 _ b3=>q g3 e (λc o c1 _ c3 _ y=>b3.extBut _ _ c1 (b2 _ _ c3 (b1.extBut _ _ c1 y))) ⟨oe,b3.extBut _ _ nez eo,ec⟩
 |some u=>
  have hv:=hend.resolve_left λy=>by rw[hu]at y;cases y
  refine a8 (N1.item _ _ _ _ k u y1 hu λg2 n2 b2=>aO ?_);have t2:=b2.extBut _ _ (bN d8) (b1.extBut _ _ d2 hTO);refine a8 (cD t2 rfl (a8 (fS t2 λg3 t3 b3=>?_)));refine a8 (wpAny_letGo (aO (a8 (a8 (gK ?_)))));show wpAny _ _ (nextOf (.ref i2) >>=_) _ _ _;have y2:=N2.keep k _ _ h2 (λo e=>b3.extBut _ _ d9 (b2.extBut _ _ d13 (b1.extBut _ _ d4 e))) λo e=>b3.extBut _ _ d11 (b2.extBut _ _ d15 (b1.extBut _ _ d6 e));refine a8 (N2.fin _ _ _ _ k hh y2 hv λg4 e b4 he=>?_);obtain⟨oe,eo,ec⟩:=he;have z4:=b4 _ _ (bN d4) (b3.extBut _ _ (bN d2) (b2.extBut _ _ (bN d3) z1));have nez:e≠z:=λy=>by subst y;rw[z4]at eo;cases eo;simp at ec
  exact dJ z4 (by simp) λg5 _ b5=>q g5 e (λc o c1 c2 c3 c4 y=>b5.extBut _ _ c1 (b4 _ _ c4 (b3.extBut _ _ c2 (b2.extBut _ _ c3 (b1.extBut _ _ c1 y))))) ⟨oe,b5.extBut _ _ nez eo,ec⟩
def LO{k:Nat}(D:ZA z TI TO i1 i2 l1 l2)(N1:Nx P w i1 l1 us S1)(N2:Nx P w i2 l2 vs S2)
 (hz:IsZip s.heap z TI TO .none)(hTI:IsPair s.heap TI (.ref i1) (.ref i2))(hTO:IsPair s.heap TO a b)(h1:S1 k s.heap)(h2:S2 k s.heap)(hu:us[k]?=some u)(hv:vs[k]?=some v)
 (q:∀g,IsZip g z TI TO (rawInt s.heap.objs.size)->IsPair g TO u v->S1 (k+1) g->S2 (k+1) g->IsPair g s.heap.objs.size u v->g.objs.size=s.heap.objs.size+1->
   (∀c o,c≠z->c≠TO->c≠i1->c≠i2->s.heap.get? c=some o->g.get? c=some o)->Q (some (.ref s.heap.objs.size)) {s with heap:=g}):wpAny (model P w) A (pyNext (.ref z)) Q E s:=by
 have hT:s.TypeIs (.ref z) "zip":=⟨_,hz,rfl⟩;unfold pyNext;exact a8 (wpAny_attempt (dG (name:=Str.ofString "__next__") hT fT (eR fT hT F.entry_zip_next
  (Om D N1 N2 hz hTI hTO h1 h2 hu hv λg a1 a2 a3 a4 a5 a6 a7=>aO (q g a1 a2 a3 a4 a5 a6 a7)) (F.args_zip_next_1 _))))
def OO{k:Nat}(hh:A.handled=none)(D:ZA z TI TO i1 i2 l1 l2)(N1:Nx P w i1 l1 us S1)(N2:Nx P w i2 l2 vs S2)
 (hz:IsZip s.heap z TI TO .none)(hTI:IsPair s.heap TI (.ref i1) (.ref i2))(hTO:IsPair s.heap TO a b)(h1:S1 k s.heap)(h2:S2 k s.heap)(hend:us[k]?=none\/vs[k]?=none)
 (q:∀g,(∀c o,c≠z->c≠TO->c≠i1->c≠i2->s.heap.get? c=some o->g.get? c=some o)->Q none {s with heap:=g}):wpAny (model P w) A (pyNext (.ref z)) Q E s:=by
 have hT:s.TypeIs (.ref z) "zip":=⟨_,hz,rfl⟩;unfold pyNext;refine a8 (wpAny_attempt (dG (name:=Str.ofString "__next__") hT fT (eR fT hT F.entry_zip_next
  (Qe hh D N1 N2 hz hTI hTO h1 h2 hend λg e kk he=>?_) (F.args_zip_next_1 _))))
 obtain⟨o,eo,ec⟩:=he;exact a8 (wpAny_isInstance (T:= "StopIteration") (b:=true) ⟨o,eo,ec⟩ isSubtype_stop (aO (q _ kk)))
end
noncomputable def jg:Bool->String
 |false=> "list_iterator"
 |true=> "tuple_iterator"
def Di:Bool->Heap->Addr->Array Value->Prop
 |false=>Heap.IsList
 |true=>Heap.IsTuple
def Ft:Bool->Heap->Addr->Addr->Nat->Prop
 |false=>Heap.IsListIter
 |true=>Heap.IsTupleIter
theorem Di.push(h:Di b g l us)(o:Obj):Di b (g.push o) l us:=by
 cases b
 ·exact Heap.IsList.push h o
 exact Heap.IsTuple.push h o
def Di.lt(h:Di b g l us):l<g.objs.size:=by
 cases b<;>(obtain⟨o,e,_⟩:=h;exact aN e)
def Jk(h:g.get? it=some ⟨.type (jg b),dd,.fields #[.ref l,.int 0 0],sl⟩):Ft b g it l 0:=by
 cases b<;>exact⟨_,h,rfl,rfl⟩
def HP(hne:l≠it):Nx P w it l us (λk g=>Ft b g it l k/\Di b g l us):=by
 cases b
 ·exact UN hne
 exact Yt hne
noncomputable abbrev Tx(b:Bool)(l:Addr):Obj:={cls:=.type (jg b),data:=.fields #[.ref l,.int 0 0]}
noncomputable abbrev kS(g:Heap)(b1:Bool)(l1:Addr):Heap:=g.push (Tx b1 l1)
noncomputable abbrev kR(g:Heap)(b1 b2:Bool)(l1 l2:Addr):Heap:=(kS g b1 l1).push (Tx b2 l2)
noncomputable abbrev kQ(g:Heap)(b1 b2:Bool)(l1 l2:Addr):Heap:=(kR g b1 b2 l1 l2).push {cls:=.type "tuple",data:=.seq #[.ref g.objs.size,.ref (kS g b1 l1).objs.size]}
noncomputable abbrev kP(g:Heap)(b1 b2:Bool)(l1 l2:Addr):Heap:=(kQ g b1 b2 l1 l2).push {cls:=.type "tuple",data:=.seq #[.none,.none]}
noncomputable abbrev ZM(g:Heap)(b1 b2:Bool)(l1 l2:Addr):Heap:=(kP g b1 b2 l1 l2).push {cls:=.type "zip",data:=.fields #[.none,.bool false,.bool false,.ref (kR g b1 b2 l1 l2).objs.size,.ref (kQ g b1 b2 l1 l2).objs.size]}
def DE(h:Di b s.heap l us)(q:Q (.ref s.heap.objs.size) {s with heap:=s.heap.push (Tx b l)}):wpAny (model P w) A (pyIter (.ref l)) Q E s:=by
 cases b
 ·exact gP h q
 exact gD h q
def Qc(b1 b2:Bool)(l1 l2:Addr)(us vs:Array Value):Meets (Builtin.«zip.__new__» ⟨[.type "zip",.ref l1,.ref l2],[]⟩) (λ_ R s=>Di b1 s.heap l1 us/\Di b2 s.heap l2 vs/\R (.ok (.ret (.ref (kP s.heap b1 b2 l1 l2).objs.size))) {s with heap:=ZM s.heap b1 b2 l1 l2}):=
 .of_wp λP w A R s h=>by
  obtain⟨hp,g,d,tk,os⟩:=s;obtain⟨y1,y2,h⟩:=h;have ez:=sub_zip;have e1:Di b1 (Shared.heap ⟨hp,g,d,tk,os⟩) l1 us:=y1;have e2:Di b2 (Shared.heap ⟨hp.push (Tx b1 l1),g,d,tk,os⟩) l2 vs:=Di.push y2 _
  wp_walk using DE e1,DE e2
  exact⟨_,rfl,h⟩
def Pz(y1:Di b1 s.heap l1 us)(y2:Di b2 s.heap l2 vs)
 (q:∀g,IsZip g (s.heap.objs.size+4) (s.heap.objs.size+2) (s.heap.objs.size+3) .none->IsPair g (s.heap.objs.size+2) (.ref s.heap.objs.size) (.ref (s.heap.objs.size+1))->IsPair g (s.heap.objs.size+3) .none .none->
   Ft b1 g s.heap.objs.size l1 0->Ft b2 g (s.heap.objs.size+1) l2 0->(∀c o,s.heap.get? c=some o->g.get? c=some o)->Q (.ref (s.heap.objs.size+4)) {s with heap:=g}):wpAny (model P w) A (call (.type "zip") [.ref l1,.ref l2]) Q E s:=by
 refine callType_new F.called_zip (by decide) (F.typeCall_zip_2 _ _) (F.newCall_zip_2 _ _) (λobj=>F.args_object_init_3 obj _ _) F.entry_zip_new (Qc b1 b2 l1 l2 us vs) ⟨y1,y2,?_⟩;have n1:(kS s.heap b1 l1).objs.size=s.heap.objs.size+1:=cK ..;have n2:(kR s.heap b1 b2 l1 l2).objs.size=s.heap.objs.size+2:=by rw[cK,n1]
 have n3:(kQ s.heap b1 b2 l1 l2).objs.size=s.heap.objs.size+3:=by rw[cK,n2]
 have n4:(kP s.heap b1 b2 l1 l2).objs.size=s.heap.objs.size+4:=by rw[cK,n3]
 have up:=λg o c x (e:g.get? c=some x)=>aD (h:=g) o e;have p5:(ZM s.heap b1 b2 l1 l2).get? (kP s.heap b1 b2 l1 l2).objs.size=some _:=aK _ rfl;have p4:(ZM s.heap b1 b2 l1 l2).get? (kQ s.heap b1 b2 l1 l2).objs.size=some _:=up _ _ _ _ (aK _ rfl);have p3:(ZM s.heap b1 b2 l1 l2).get? (kR s.heap b1 b2 l1 l2).objs.size=some _:=up _ _ _ _ (up _ _ _ _ (aK _ rfl));have p2:(ZM s.heap b1 b2 l1 l2).get? (kS s.heap b1 l1).objs.size=some _:=up _ _ _ _ (up _ _ _ _ (up _ _ _ _ (aK _ rfl)));have p1:(ZM s.heap b1 b2 l1 l2).get? s.heap.objs.size=some _:=up _ _ _ _ (up _ _ _ _ (up _ _ _ _ (up _ _ _ _ (aK _ rfl))));show _/\_;rw[n2,n3,n4]at p5;rw[n1,n2]at p3;rw[n3]at p4;rw[n1]at p2;rw[n4];exact⟨⟨_,p5,rfl⟩,q _ p5 p3 p4 (Jk p1) (Jk p2) λc o x=>up _ _ _ _ (up _ _ _ _ (up _ _ _ _ (up _ _ _ _ (up _ _ _ _ x))))⟩
def Hi(K:PySem.W.Frag)(H:Hp):Bool->Addr->List V->Prop
 |false=>D4 K H
 |true=>Iw K H
def Af.sqb(I:Af X pins σ H s)(h:Hi X.K H b a xs):∃its:List Value,Al xs its/\Di b s.heap a its.toArray/\xs.length<=sizeLine:=by
 cases b
 ·obtain⟨its,r,p,z⟩:=I.list h;exact⟨its,r,p.isList,z⟩
 obtain⟨its,r,p,z⟩:=I.tuple h;exact⟨its,r,p,z⟩
def Af.sqb_inj(I:Af X pins σ H s)(h:Hi X.K H b a xs)(h':Hi X.K H b a ys):xs=ys:=by
 cases b
 ·exact I.list_inj h h'
 exact I.tuple_inj h h'
theorem Ft.at{k:Nat}(h:Ft b g it l k)(e:∀o,g.get? it=some o->g'.get? it=some o):Ft b g' it l k:=by
 cases b
 ·exact Heap.IsListIter.at h e
 exact Heap.IsTupleIter.at h e
def Ft.obj{k:Nat}(h:Ft b g it l k):∃o,g.get? it=some o/\∀v,o.data≠ .cell v:=by
 cases b<;>(obtain⟨o,e,_,d⟩:=h;exact⟨o,e,λv z=>by rw[d]at z;cases z⟩)
section
variable {X:Cx}{pins:Pq}{σ:St}{H H':Hp}{s:Shared}{ch:List Addr}{h':Heap}{t':Nat}
def jv(hf:∀c∈ch,D5 X pins H c)(q:H c=some o)(hd:d=c\/H d=some (.own b)):d∉ch:=λz=>by
 have e:=(hf d z).1;rcases hd with q3|q3
 ·rw[q3,q]at e;cases e
 rw[q3]at e;cases e
def Af.movedH(I:Af X pins σ H s)(hf:∀c∈ch,D5 X pins H c)(nin:∀c o,c∉ch->s.heap.get? c=some o->h'.get? c=some o)(fr:∀b,b<s.heap.objs.size->H b=none->H' b=none)(up:∀c o,H c=some o->H' c=some o)(new:∀c o,H' c=some o->H c=none->AG X.prog X.w H' h' c o) :
 Af X pins σ H' {s with heap:=h',gens:=s.gens,drawn:=s.drawn,toks:=t'}:=
 I.step (ch:=ch) (λc hc=>have f:=(hf c hc).2;⟨f.2.2.1,f.1,f.2.2.2⟩) (λc o _ _ hc q _=>nin c o hc q) (λc o _ _ hc q _=>⟨o.slots,nin c o hc q⟩) (λc o hc q n=>fr c (aN q) n) (λc o hc q=>⟨o,nin c o hc q⟩)
  (λc _ q=>up c _ q) (λc _ _ q=>up c _ q) (λc _ q=>⟨#[],(up c _ q).trans (by rw[Array.append_empty])⟩) (λm ⟨o,es',ep',ho,r⟩=>⟨o,es',ep',nin _ o (λz=>(hf _ z).2.1 rfl) ho,r⟩)
  (λc o q=>by
    cases e:H c with
    |none=>exact new c o q e
    |some o'=>
     obtain rfl:o'=o:=bE ((up c _ e).symm.trans q);exact(I.hok c _ e).stay (λd v hd r=>nin d v (jv hf e hd) r) (λd q2=>up d _ q2) λd _ q2=>up d _ q2) I.bare
def Af.moved(I:Af X pins σ H s)(hf:∀c∈ch,D5 X pins H c)(nin:∀c o,c∉ch->s.heap.get? c=some o->h'.get? c=some o):Af X pins σ H {s with heap:=h',gens:=s.gens,drawn:=s.drawn,toks:=t'}:=
 I.movedH hf nin (λ_ _ n=>n) (λ_ _ q=>q) λc o q n=>by rw[n]at q;cases q
def Af.movedT(I:Af X pins σ H s)(hf:∀c∈ch,D5 X pins H c)(nin:∀c o,c∉ch->s.heap.get? c=some o->h'.get? c=some o)(hl:xs.length<=sizeLine)(r:Al xs us)
 (hp:h'.get? s.heap.objs.size=some {cls:=.type "tuple",data:=.seq us.toArray}):Af X pins σ (upd H s.heap.objs.size (.tup xs)) {s with heap:=h',gens:=s.gens,drawn:=s.drawn,toks:=t'}:=
 I.movedH hf nin (λb hb n=>by rw[Ab (aX hb)];exact n) (λc o q=>by rw[Ab (Ao q (I.hok.fresh (aH _)))];exact q) λc o q n=>by
  by_cases hc:c=s.heap.objs.size
  ·subst hc;rw[Ac]at q;cases q;exact⟨hl,us,r,_,hp,rfl,_,rfl⟩
  rw[Ab hc,n]at q;cases q
end
noncomputable def qH(K:PySem.W.Frag)(b1 b2:Bool)(a b:Addr):It:=
 ⟨λi H=>∃xs ys x y,Hi K H b1 a xs/\Hi K H b2 b ys/\xs[i]?=some x/\ys[i]?=some y,
  λi H v H'=>∃p x y,v=.ref p/\H p=none/\(∀xs,Hi K H b1 a xs->xs[i]?=some x)/\(∀ys,Hi K H b2 b ys->ys[i]?=some y)/\H'=upd H p (.tup [x,y]),
  λi H=>∃xs ys,Hi K H b1 a xs/\Hi K H b2 b ys/\(xs.length<=i\/ys.length<=i)⟩
section
variable {b1 b2:Bool}{a b z TI TO i1 i2:Addr}{i:Nat}{h:Heap}
inductive qy(b1 b2:Bool)(a b z TI TO i1 i2:Addr)(i:Nat)(h:Heap):Prop
 |mk (u v:Value) (s1:IsZip h z TI TO .none) (s2:IsPair h TI (.ref i1) (.ref i2)) (s3:IsPair h TO u v) (s4:Ft b1 h i1 a i) (s5:Ft b2 h i2 b i)
def iz(v:Option Value):Data.fields ps≠ .cell v:=λz=>by cases z
def iy{x}(v:Option Value):Data.seq ps x≠ .cell v:=λz=>by cases z
theorem qy.obj(st:qy b1 b2 a b z TI TO i1 i2 i h):∀c∈ [z,TI,TO,i1,i2],∃o,h.get? c=some o/\∀v,o.data≠ .cell v:=by
 obtain⟨u,v,s1,s2,s3,s4,s5⟩:=st;refine dZ.mpr ⟨⟨_,s1,iz⟩,dZ.mpr ⟨⟨_,s2,iy⟩,dZ.mpr ⟨⟨_,s3,iy⟩,dZ.mpr ⟨s4.obj,gY.mpr s5.obj⟩⟩⟩⟩
def iw(hc:c∉ [z,TI,TO,i1,i2]):A4 (c≠z) (c≠TO) (c≠i1) (c≠i2):=
 ⟨λq=>hc (by simp[q]),λq=>hc (by simp[q]),λq=>hc (by simp[q]),λq=>hc (by simp[q])⟩
end
def Os{P:Program}{w:World}{K:Fq}{es:List Expr}{x1}{tp:Pos}(b1 b2:Bool)(a b z TI TO i1 i2:Addr)(D:ZA z TI TO i1 i2 a b) :
 J6 P w K (.Tuple es x1 tp) (qH K b1 b2 a b) [z,TI,TO,i1,i2] z (qy b1 b2 a b z TI TO i1 i2) where
 mem:=by simp
 obj:=λi h st=>st.obj
 keep:=λi h h' ⟨u,v,s1,s2,s3,s4,s5⟩ k=>⟨u,v,k z (by simp) _ s1,k TI (by simp) _ s2,k TO (by simp) _ s3,s4.at λo q=>k i1 (by simp) o q,s5.at λo q=>k i2 (by simp) o q⟩
 item:=by
  intro X hP hw hK hc i pins s σ H E I hf st hg;subst hP hw hK;obtain⟨xs,ys,x,y,hq,hq2,hx,hy⟩:=hg;have st':=st;obtain⟨u0,v0,s1,s2,s3,s4,s5⟩:=st;obtain⟨its,rv,p,_⟩:=I.sqb hq;obtain⟨its2,rv2,p2,_⟩:=I.sqb hq2;obtain⟨u,hu,ru⟩:=rv.get hx;obtain⟨v,hv,rv'⟩:=rv2.get hy;refine LO D (HP (b:=b1) D.c.2.2.1) (HP (b:=b2) D.d.2.2) s1 s2 s3 ⟨s4,p⟩ ⟨s5,p2⟩ (u:=u) (v:=v) (by simpa using hu) (by simpa using hv) λh' e1 e2 e3 e4 e5 sz kk=>⟨_,rfl,?_⟩;refine wpAny_letOwnedTupleGo_zip (s:={s with heap:=h'}) e1 λh2 e6 sb=>?_;have tk:∀{c:Addr}{o:Obj},c≠z->h'.get? c=some o->h2.get? c=some o:=λn q=>(sb.2 _ n).trans q;refine⟨.ref s.heap.objs.size,upd H s.heap.objs.size (.tup [x,y]),I.movedT hf (λc o hc q=>?_) (by rw[dI];simp) (.cons ru (.cons rv' .nil)) (tk (bN (aX (aN s1))) e5),rfl,
   ⟨_,x,y,rfl,I.hok.fresh (aH _),λzs hz=>by rw[I.sqb_inj hz hq];exact hx,λzs hz=>by rw[I.sqb_inj hz hq2];exact hy,rfl⟩,⟨u,v,e6,tk D.a.1 (kk TI _ D.a.1 D.b.1 D.c.1 D.d.1 s2),tk D.a.2.1 e2,e3.1.at λo q=>tk D.a.2.2.1 q,e4.1.at λo q=>tk D.a.2.2.2.1 q⟩,λc hc=>?_⟩
  ·obtain⟨n1,n2,n3,n4⟩:=iw hc;exact tk n1 (kk c o n1 n2 n3 n4 q)
  obtain⟨o,q,_⟩:=st'.obj c hc;rw[Ab (aX (aN q))];exact(hf c hc).1
 done:=by
  intro X hP hw hK hc i pins s σ H E I hf st hg;subst hP hw hK;obtain⟨xs,ys,hq,hq2,hx⟩:=hg;obtain⟨u0,v0,s1,s2,s3,s4,s5⟩:=st;obtain⟨its,rv,p,_⟩:=I.sqb hq;obtain⟨its2,rv2,p2,_⟩:=I.sqb hq2;refine OO (I.ok.hd hc) D (HP (b:=b1) D.c.2.2.1) (HP (b:=b2) D.d.2.2) s1 s2 s3 ⟨s4,p⟩ ⟨s5,p2⟩ (hx.imp (λh=>by rw[rv.length]at h;simpa using h) λh=>by rw[rv2.length]at h;simpa using h) λh' eb=>⟨rfl,I.moved hf λc o hc q=>?_⟩;obtain⟨n1,n2,n3,n4⟩:=iw hc;exact eb c o n1 n2 n3 n4 q
 self:=λA i s Q E ⟨_,_,s1,_,_,_,_⟩ h=>wpAny_pyIter_zip s1 h
def SY:bootBuiltins "zip"=some (.type "zip"):=by decide +kernel
def WC{n a b:Nat}(ha:a<n)(hb:b<n):ZA (n+4) (n+2) (n+3) n (n+1) a b:=
 have e:∀{x y:Nat},x<y->x≠y:=λh=>aX h;have e': ∀{x y:Nat},y<x->x≠y:=λh=>f7 h
 ⟨⟨e (by lia),e (by lia),e (by lia),e (by lia),e (by lia),e (by lia)⟩,⟨e (by lia),e (by lia),e (by lia),e (by lia),e (by lia)⟩,⟨e' (by lia),e' (by lia),e (by lia),e (by lia)⟩,e' (by lia),e (by lia),e (by lia)⟩
def jj(K:PySem.W.Frag)(t:TA):TI:=λσ H R=>t σ H λvs H1=>∃b1 b2 a b,vs=[.ref a,.ref b]/\(∃xs,Hi K H1 b1 a xs)/\(∃ys,Hi K H1 b2 b ys)/\R (qH K b1 b2 a b) H1
section
def Uy{a b:Expr}{ta:TA}{p pos:Pos}{es:List Expr}{x1}{tp:Pos}(hg:Gl X "zip")(hm:X.mg "zip"=none)(ha:PA X [a,b] ta)(hs:starEach [a,b] X.env=[(false,eval a X.env),(false,eval b X.env)]:=by rfl)(hs2:starEach [b] X.env=[(false,eval b X.env)]:=by rfl) :
 PI X (.Tuple es x1 tp) (.Call (.Name "zip" p) [a,b] [] pos) (jj X.K ta):=by
 intro pins s σ H R I h;refine Call_ (Cz I hg hm SY (bZ (AR (ha pos pins s σ H _ I h) λus s1 ⟨vs,H1,I1,r1,q1⟩=>?_) (by rw[hs,hs2]) (by rw[hs2];rfl)));obtain⟨b1,b2,l,m,e,⟨xs,hq⟩,⟨ys,hq2⟩,q⟩:=q1;subst e;obtain⟨u,v,rfl,ru,rv0⟩:=Fw r1;obtain rfl:u=Value.ref l:=ru;obtain rfl:v=Value.ref m:=rv0;obtain⟨its,rv,pl,_⟩:=I1.sqb hq;obtain⟨its2,rv2,pl2,_⟩:=I1.sqb hq2;refine Pz pl pl2 λh' e1 e2 e3 e4 e5 hk=>?_;refine wpAny_pyIter_zip (s:={s1 with heap:=h'}) e1 ?_;refine⟨s1.heap.objs.size+4,[s1.heap.objs.size+4,s1.heap.objs.size+2,s1.heap.objs.size+3,s1.heap.objs.size,s1.heap.objs.size+1],_,_,H1,rfl,I1.kept (t':=s1.toks) hk,Os b1 b2 l m _ _ _ _ _ (WC pl.lt pl2.lt),⟨_,_,e1,e2,e3,e4,e5⟩,λc hc=>?_,q⟩;simp only[List.mem_cons,List.not_mem_nil,or_false]at hc;have le:s1.heap.objs.size<=c:=by rcases hc with z|z|z|z|z<;>(rw[z];first|exact aH _|exact i5 _ _)
 exact I1.fpOk le (I1.hok.fresh le)
end
def Nx.draws{P:Program}{w:World}{A:Around}{it l:Addr}{us:Array Value}{S:Nat->Heap->Prop}(N:Nx P w it l us S)(hh:A.handled=none):Draws P w A it [it,l] us.size (λi v=>us[i]?=some v) S where
 live:=λi h st=>let ⟨o,e,_⟩:=N.there i h st;⟨o,e⟩
 frame:=λi h h' st k=>N.keep i h h' st (λo e=>k it (by simp) o e) λo e=>k l (by simp) o e
 item:=λi s Q E hi st q=>N.item A E Q s i us[i] st (by simp[hi]) λg n sb=>q _ g s.toks (by simp[hi]) n sb
 done:=λs Q E st q=>N.fin A E Q s us.size hh st (by simp) q
noncomputable abbrev pG(it:Addr):Obj:={cls:=.type "enumerate",data:=.fields #[.none,.bool false,.ref it,rawInt 0,.none,.none]}
def Pp(b:Bool)(l:Addr)(us:Array Value):Meets (Builtin.«enumerate.__new__» ⟨[.type "enumerate",.ref l],[]⟩) (λ_ R s=>Di b s.heap l us/\R (.ok (.ret (.ref (s.heap.push (Tx b l)).objs.size))) {s with heap:=(s.heap.push (Tx b l)).push (pG s.heap.objs.size)}):=
 .of_wp λP w A R s h=>by
  obtain⟨hp,g,d,tk,os⟩:=s;obtain⟨y1,h⟩:=h;have ez:=sub_enumerate;have e1:Di b (Shared.heap ⟨hp,g,d,tk,os⟩) l us:=y1
  wp_walk using DE e1
  refine wpAny_stack_any λst=>aO ?_;split
  ·rename_i c _ _ _ _ _;cases (c ==Value.type "enumerate")
   ·wp_walk using DE e1
    exact⟨_,rfl,h⟩
   wp_walk using DE e1
   exact⟨_,rfl,h⟩
  wp_walk using DE e1
  exact⟨_,rfl,h⟩
def M1{P:Program}{w:World}{A:Around}{E:Vq}{s:Shared}{b:Bool}{l:Addr}{us:Array Value}{Q:Vq}(y:Di b s.heap l us)
 (q:∀g,IsEnum g (s.heap.objs.size+1) s.heap.objs.size 0 .none->Ft b g s.heap.objs.size l 0->(∀c o,s.heap.get? c=some o->g.get? c=some o)->Q (.ref (s.heap.objs.size+1)) {s with heap:=g}) :
 wpAny (model P w) A (call (.type "enumerate") [.ref l]) Q E s:=by
 refine callType_new F.called_enumerate (by decide) (F.typeCall_enumerate_1 _) (F.newCall_enumerate_1 _) (λobj=>F.args_object_init_2 obj _) F.entry_enumerate_new (Pp b l us) ⟨y,?_⟩;have n1:(s.heap.push (Tx b l)).objs.size=s.heap.objs.size+1:=cK ..;have up:=λ(g:Heap) (o:Obj) (c:Addr) (x:Obj) (e:g.get? c=some x)=>aD (h:=g) o e;have p2:((s.heap.push (Tx b l)).push (pG s.heap.objs.size)).get? (s.heap.push (Tx b l)).objs.size=some _:=aK _ rfl;have p1:((s.heap.push (Tx b l)).push (pG s.heap.objs.size)).get? s.heap.objs.size=some _:=up _ _ _ _ (aK _ rfl);show _/\_;rw[n1]at p2;rw[n1];exact⟨⟨_,p2,rfl⟩,q _ p2 (Jk p1) λc o x=>up _ _ _ _ (up _ _ _ _ x)⟩
noncomputable def ZJ(K:PySem.W.Frag)(b:Bool)(a:Addr):It:=
 ⟨λi H=>∃xs x,Hi K H b a xs/\xs[i]?=some x,λi H v H'=>∃p x,v=.ref p/\H p=none/\(∀xs,Hi K H b a xs->xs[i]?=some x)/\H'=upd H p (.tup [.int i,x]),λi H=>∃xs,Hi K H b a xs/\xs.length<=i⟩
def L3{P:Program}{w:World}{K:Fq}{es:List Expr}{x1}{tp:Pos}(b:Bool)(a e it:Addr)(hne:e≠it)(hea:e≠a)(hai:a≠it):J6 P w K (.Tuple es x1 tp) (ZJ K b a) [e,it] e (λi h=>(∃old,IsEnum h e it i old)/\Ft b h it a i) where
 mem:=by simp
 obj:=λi h st=>by
  exact dZ.mpr ⟨st.1.elim λ_ q=>⟨_,q,iz⟩,gY.mpr st.2.obj⟩
 keep:=λi h h' st k=>by
  obtain⟨⟨old,st1⟩,st2⟩:=st;exact⟨⟨old,k e (by simp) _ st1⟩,st2.at λo q=>k it (by simp) o q⟩
 item:=by
  intro X hP hw hK hc i pins s σ H E I hf st hg;subst hP hw hK;obtain⟨xs,x,hq,hx⟩:=hg;obtain⟨⟨old,st1⟩,st2⟩:=st;obtain⟨its,rv,p,hz⟩:=I.sqb hq;obtain⟨u,hu,ru⟩:=rv.get hx;have hlt:i<its.toArray.size:=by simpa using(a9.mp hu).1
  refine wpAny_pyNext_enum_itemD ((HP (b:=b) (us:=its.toArray) hai).draws (I.ok.hd hc)) st1 ⟨st2,p⟩ hlt hne (by simp[hne,hea]) λu' h' tk hu' eo it' tp' sz kk=>⟨_,rfl,?_⟩;have eu:u'=u:=by
   have hu':its.toArray[i]?=some u':=hu';rw[iG,hu]at hu';exact(bE hu').symm
  subst eu;refine wpAny_letOwnedTupleGo_enum (s:={s with heap:=h',toks:=tk+1}) eo λh2 e2 sb=>?_;have tk2:∀{c:Addr}{o:Obj},c≠e->h'.get? c=some o->h2.get? c=some o:=λn q=>(sb.2 _ n).trans q;refine⟨.ref s.heap.objs.size,upd H s.heap.objs.size (.tup [.int i,x]),I.movedT hf (λc o hb q=>?_) (by rw[dI];simp) (.cons ⟨_,rfl⟩ (.cons ru .nil)) (tk2 (bN (aX (aN st1))) tp'),rfl,⟨_,x,rfl,I.hok.fresh (aH _),λys hy=>by rw[I.sqb_inj hy hq];exact hx,rfl⟩,⟨⟨_,e2⟩,it'.1.at λo q=>tk2 (bN hne) q⟩,λc hb=>?_⟩
  ·have n1:c≠e:=λz=>hb (by simp[z]);exact tk2 n1 (kk c o n1 (λz=>hb (by simp[z])) q)
  obtain⟨o,q⟩:∃o,s.heap.get? c=some o:=by
   rcases aR.mp hb with z|z
   ·exact⟨_,z▸st1⟩
   obtain⟨o,q,_⟩:=st2.obj;exact⟨o,by rw[aY.mp z];exact q⟩
  rw[Ab (aX (aN q))];exact(hf c hb).1
 done:=by
  intro X hP hw hK hc i pins s σ H E I hf st hg;subst hP hw hK;obtain⟨xs,hq,hx⟩:=hg;obtain⟨⟨old,st1⟩,st2⟩:=st;obtain⟨its,rv,p,hz⟩:=I.sqb hq;have g:=hf it (by simp);have hl:=rv.length;have hT:s.TypeIs (.ref e) "enumerate":=⟨_,st1,rfl⟩;unfold pyNext;refine a8 (wpAny_attempt (dG (name:=Str.ofString "__next__") hT F.slot_enumerate_next (eR F.slot_enumerate_next hT F.entry_enumerate_next ?_ (F.args_enumerate_next_1 _))));show wpAny _ _ (field (.ref e) 2 >>=_) _ _ _;refine a8 (cU st1 rfl (x:=.ref it) rfl ?_);refine a8 ((HP (b:=b) (us:=its.toArray) hai).fin _ _ _ _ i (I.ok.hd hc) ⟨st2,p⟩ (by simp;lia) λh' y eb ⟨o,ho,hcl⟩=>?_);refine a8 (wpAny_isInstance (T:= "StopIteration") (b:=true) ⟨o,ho,hcl⟩ isSubtype_stop (aO ?_));exact⟨rfl,I.turned (t':=s.toks) (λc o hb e=>eb c o hb e) g.1 g.2.1 g.2.2.2.1 g.2.2.2.2.1 g.2.2.2.2.2⟩
 self:=λA i s Q E st h=>by
  obtain⟨⟨old,st1⟩,st2⟩:=st;exact wpAny_pyIter_enum st1 h
def YU(K:PySem.W.Frag)(t:TA):TI:=λσ H R=>t σ H λvs H1=>∃b a,vs=[.ref a]/\(∃xs,Hi K H1 b a xs)/\R (ZJ K b a) H1
section
variable {X:Cx}
def QL{a:Expr}{ta:TA}{p pos:Pos}{es:List Expr}{x1}{tp:Pos}(hg:Gl X "enumerate")(hm:X.mg "enumerate"=none)(ha:PA X [a] ta)(hs:starEach [a] X.env=[(false,eval a X.env)]:=by rfl):PI X (.Tuple es x1 tp) (.Call (.Name "enumerate" p) [a] [] pos) (YU X.K ta):=by
 intro pins s σ H R I h;refine Call_ (Cz I hg hm boot_enumerate (bZ (AR (ha pos pins s σ H _ I h) λus s1 ⟨vs,H1,I1,r1,q1⟩=>?_) hs rfl));obtain⟨b,l,e,⟨xs,hq⟩,q⟩:=q1;subst e;obtain⟨u,rfl,ru⟩:=C5 r1;cases ru;obtain⟨its,rv,pl,hz⟩:=I1.sqb hq;have lt:=pl.lt;refine M1 pl λh' he hi hk=>?_;refine wpAny_pyIter_enum (s:={s1 with heap:=h'}) he ?_;refine⟨s1.heap.objs.size+1,[s1.heap.objs.size+1,s1.heap.objs.size],_,_,H1,rfl,I1.kept (t':=s1.toks) hk,L3 b l _ _ (Nat.succ_ne_self _) (f7 (eN lt)) (aX lt),⟨⟨_,he⟩,hi⟩,λc hb=>?_,q⟩;rcases aR.mp hb with z|z
 ·subst z;exact I1.fpOk (cX _) (I1.hok.fresh (cX _))
 have z:c=s1.heap.objs.size:=by simpa using z
 subst z;exact I1.fpOk (aH _) (I1.hok.fresh (aH _))
end
section
def Af.freezeT(I:Af X pins σ H s)(e:H a=some (.dT kvs)):∃ob,Af X pins σ (upd H a (.frz ob (.dT kvs))) s:=by
 have ok:=(show AG X.prog X.w H s.heap a (.dT kvs) from I.hok a _ e);obtain⟨z,y,xs,r,ob,es,ep,h1,h2,h3,h4,h5⟩:=id ok;have ne:∀{b:Addr}{o:HO},H b=some o->o≠ .dT kvs->b≠a:=λq n=>HR q e n;refine⟨ob,?_⟩;show Af X pins σ (upd H a (.frz ob (.dT kvs))) {s with heap:=s.heap,gens:=s.gens,drawn:=s.drawn,toks:=s.toks};refine I.step (h':=s.heap) (t':=s.toks) (g':=s.gens) (d':=s.drawn) (ch:=[]) (λb hb=>by cases hb) (λb o _ _ _ q _=>q) (λb o _ _ _ q _=>⟨o.slots,q⟩) (λb o _ q n=>?_) (λb o _ q=>⟨o,q⟩)
  (λb xs q=>?_) (λb o u q=>?_) (λb ps q=>?_) (λm hm=>hm) (λb o q=>?_) I.bare
 ·rw[Ab (λz=>by subst z;rw[e]at n;cases n)];exact n
 ·rw[Ab (ne q (by intro z;cases z))];exact q
 ·rw[Ab (ne q (by intro z;cases z))];exact q
 ·exact⟨#[],by rw[Ab (ne q (by intro z;cases z)),q];simp⟩
 have own:∀c x,H c=some (.own x)->upd H a (.frz ob (.dT kvs)) c=some (.own x):=λc x q=>by rw[Ab (ne q (by intro z;cases z))];exact q
 have tup:∀c ys,H c=some (.tup ys)->upd H a (.frz ob (.dT kvs)) c=some (.tup ys):=λc x q=>by rw[Ab (ne q (by intro z;cases z))];exact q
 by_cases hb:b=a
 ·subst hb;rw[Ac]at q;cases q;exact⟨h1,ok.stay (λ_ _ _ q=>q) (λc q=>own c _ q) tup⟩
 rw[Ab hb]at q;exact(I.hok b o q).stay (λ_ _ _ q=>q) (λc q=>own c _ q) tup
end
section
def Ox(zs:List Str):(zs.map V.str).all Dc=true:=List.all_eq_true.mpr λy hy=>by
 obtain⟨z,_,rfl⟩:=bA.mp hy;rfl
theorem JJ:∀{xs:List V}{us:List Value}{i:Nat}{x:V},Al xs us->xs[i]?=some x->∃u,us[i]?=some u/\As x u
 |_,_,i,x,.nil,h=>by simp at h
 |_,_,0,x,.cons r t,h=>by
  simp only[List.getElem?_cons_zero,Option.some.injEq]at h;subst h;exact⟨_,rfl,r⟩
 |_,_,i+1,x,.cons r t,h=>by
  simp only[List.getElem?_cons_succ]at h;exact JJ (i:=i) t h
def RE:ah X "list.index" (λx xs H Q=>E4 λ(p:Addr) (zs:List Str) (z:Str) (j:Nat)=>A6 (x=.ref p) (xs=[.str z]) (D4 X.K H p (zs.map V.str)) (zs[j]?=some z) (∀i,i<j->zs[i]?≠some z) (Q (.int (j:Nat)) H)):=by
 intro pins s σ H x xs v us Q I rx rs h;obtain⟨p,zs,z,j,rfl,rfl,hq,hj,hno,q⟩:=h;cases rx;obtain⟨u,rfl,ru⟩:=C5 rs;obtain⟨its,rv,⟨o,n,ho,hc,hd,hs⟩,hz⟩:=I.list hq;have hl:=rv.length;rw[aI]at hl hz;have hjz:=(a9.mp hj).1;have hjl:j<its.toArray.size:=by rw[aZ];lia
 have he:∀i (hi:i<its.toArray.size),KS (.str z) its.toArray[i]=decide (zs[i]?=some z):=λi hi=>by
  rw[aZ]at hi;have hiz:i<zs.length:=by lia
  obtain⟨w,hw,rw'⟩:=JJ (i:=i) rv (by rw[aJ,aU hiz];rfl);have hw':=(a9.mp hw).2;rw[List.getElem_toArray,hw',Mt rw' rfl,aU hiz];show(zs[i] ==z)=_;rw[cO,aP,fA,Option.some.injEq]
 obtain⟨oc,od,odt,osl⟩:=o;cases hc;cases hd;cases hs;refine gW F.slot_list_index ⟨_,ho,rfl⟩ F.entry_list_index (F.args_list_index_2 _ _) (SeqAt.list_indexAt p its.toArray n _ osl u (KS (.str z)) j hjl (by rw[dI]at hz;lia) ?_ ?_) ⟨ho,λw hw=>CA ru rfl rv (Ox zs) w (by simpa using hw),?_⟩
 ·rw[he j hjl];exact cL hj
 ·intro m hm hlt;rw[he m hm];exact bL (hno m hlt)
 exact⟨.int _,H,I.tok _,⟨_,rfl⟩,q⟩
end
def SX:bootBuiltins "set"=some (.type "set"):=by decide +kernel
structure VF(t:SetTable)(j1:Nat):Prop where
 mask:t.mask=7
 place:t.place=#[j1]
 dum:t.dummies=#[]
def M6(j:Nat):SetTable.below #[] j=0:=by
 unfold SetTable.below;rfl
def Td(j1 j:Nat):SetTable.below #[j1] j=if j1<j then 1 else 0:=by
 unfold SetTable.below;show SetTable.below.go #[j1] j 1 0 1=_;rw[SetTable.below.go.eq_def];show(if 0<1 then(if j1<j then SetTable.below.go #[j1] j 0 1 1 else SetTable.below.go #[j1] j 0 0 0) else 0)=_;rw[if_pos (by decide)];by_cases h:j1<j
 ·rw[if_pos h,if_pos h];rfl
 rw[if_neg h,if_neg h];rfl
def Vi(j:Nat):SetTable.has #[] j=false:=by
 unfold SetTable.has;rw[M6];rfl
def cu{t:SetTable}(hp:t.place=#[])(hd:t.dummies=#[])(j:Nat):t.slot j=.empty:=by
 unfold SetTable.slot;rw[hp,hd,M6,Vi];rfl
def MP{j1:Nat}(T:VF t j1)(j:Nat):t.slot j=if j=j1 then .live 0 else .empty:=by
 unfold SetTable.slot;rw[T.place,T.dum,Td,Vi];by_cases h:j1<j
 ·simp[h,show ¬j=j1 by lia]
 by_cases e:j=j1
 ·subst e;simp
 simp[h,e,show ¬j1=j by lia]
structure ZE(p:SetTable.Probe):Prop where
 lt:p.i<8
 j:p.j=p.i
 more:p.more=0
 dum:p.dummy=none
def jW{j1:Nat}(T:VF t j1)(R:ZE p):ZE (t.advance p)/\(t.advance p).perturb=p.perturb / 32/\(t.advance p).i=(p.i*5+1+p.perturb / 32)%8:=by
 have hb:(p.i*5+1+p.perturb / 32)%8<8:=Nat.mod_lt _ (by decide);have e:t.advance p={j:=(p.i*5+1+p.perturb / 32)%8,more:=0,i:=(p.i*5+1+p.perturb / 32)%8,perturb:=p.perturb / 32,dummy:=none}:=by
  unfold SetTable.advance SetTable.leap SetTable.runEnd;rw[T.mask,R.more,R.dum];simp only[gt_iff_lt,Nat.lt_irrefl,if_false];rw[if_neg (by lia),fB]
 rw[e];exact⟨⟨hb,rfl,rfl,rfl⟩,rfl,rfl⟩
theorem Gr{j1:Nat}(T:VF t j1){h:Int}(hne:(hashAt 0 ==h)=false):∀n F p,ZE p->p.perturb<32^n->n+2<=F->
 ∃j,j<8/\j≠j1/\SetTable.probe.go t hashAt h F p=some (.empty j none)
 |n,0,p,R,hp,hF=>by lia
 |n,F+1,p,R,hp,hF=>by
  rw[SetTable.probe.go.eq_def];simp only[MP T];by_cases e:p.j=j1
  ·simp only[e,if_true,hne,Bool.false_eq_true,if_false];obtain⟨R2,p2,i2⟩:=jW T R;cases n with
   |zero=>
    have h0:p.perturb=0:=by simpa using hp
    rw[h0]at p2 i2
    match F,hF with
    |F+1,_=>
     refine⟨(t.advance p).j,by rw[R2.j];exact R2.lt,?_,?_⟩
     ·rw[R2.j,i2,←e,R.j];have:=R.lt;lia
     rw[SetTable.probe.go.eq_def];simp only[MP T];rw[if_neg (by rw[R2.j,i2,←e,R.j];have:=R.lt;lia)];simp only[R2.dum]
   |succ n=>
    exact Gr T hne n F _ R2 (by rw[p2];rw[fU]at hp;lia) (by lia)
  simp only[e,if_false];exact⟨p.j,by rw[R.j];exact R.lt,e,by rw[R.dum]⟩
def WZ{j1:Nat}(T:VF t j1)(h:Int):ZE (t.probeStart h)/\(t.probeStart h).perturb<32^13:=by
 have hb:SetTable.bits h<2^64:=by
  unfold SetTable.bits;have:=bX h (show(0:Int)<2^64 by decide);have:=cF h (show(2^64:Int)≠0 by decide)
  lia
 have hm:SetTable.bits h%8<8:=Nat.mod_lt _ (by decide);have e:t.probeStart h={j:=SetTable.bits h%8,more:=0,i:=SetTable.bits h%8,perturb:=SetTable.bits h,dummy:=none}:=by
  unfold SetTable.probeStart SetTable.runEnd;rw[T.mask];show SetTable.Probe.mk _ _ _ _ _=_;rw[if_neg (by lia),fB]
 rw[e];exact⟨⟨hm,rfl,rfl,rfl⟩,aW hb (by decide +kernel)⟩
def O2{j1:Nat}(T:VF t j1){h:Int}(he:(hashAt 0 ==h)=true){F:Nat}(R:ZE p) :
 SetTable.probe.go t hashAt h (F+1) p=if p.j=j1 then some (.candidate j1 0 (t.advance p)) else some (.empty p.j none):=by
 rw[SetTable.probe.go.eq_def];simp only[MP T];by_cases e:p.j=j1
 ·simp only[e,if_true,he]
 simp only[e,if_false,R.dum]
def F0{j1:Nat}(T:VF t j1){h:Int}(R:ZE p)(hp:p.perturb<32^13)(e:SetTable.probe t f h p=r) :
 (∃j,j<8/\j≠j1/\r=some (.empty j none))\/(p.j=j1/\r=some (.candidate j1 0 (t.advance p))):=by
 have hF:10*SetTable.turns t.mask=219+1:=by rw[T.mask];rfl
 rw[SetTable.probe.eq_def,hF]at e;cases he:f 0 ==h with
 |false=>
  obtain⟨j,h1,h2,h3⟩:=Gr T he 13 (219+1) p R hp (by decide);exact .inl ⟨j,h1,h2,by rw[←e,h3]⟩
 |true=>
  rw[O2 T he R]at e;by_cases ej:p.j=j1
  ·rw[if_pos ej]at e;exact .inr ⟨ej,e.symm⟩
  rw[if_neg ej]at e;exact .inl ⟨p.j,by rw[R.j];exact R.lt,ej,e.symm⟩
section
theorem Dw:∀{ks:List Key}{us:List Value},ItemsAre (Aj prog w) ks us->∀u∈us,(∃i t,u=.int i t)\/(∃z t,u=.str z t)
 |_,_,.nil,u,h=>by cases h
 |_,_,.cons hk h,u,hu=>by
  rcases aR.mp hu with rfl|hu
  ·rcases AK hk with⟨i,t,_,e⟩|⟨z,t,_,e⟩
   ·exact .inl ⟨i,t,e⟩
   exact .inr ⟨z,t,e⟩
  exact Dw h u hu
def tY(hk:IsTupleKey (Aj prog w) s.heap ks a)(q:∀b,Q b s):wpAny (model prog w) A (hashByValue 8 (.ref a)) Q E s:=by
 obtain⟨o,items,n,ho,hc,hd,hi⟩:=hk;have hT:s.TypeIs (.ref a) "tuple":=⟨o,ho,hc⟩;rw[gE];show wpAny _ _ (specialOf (.ref a) (Str.ofString "__hash__") >>=_) _ _ _;refine a8 (wpAny_specialOf hT F.slot_tuple_hash.lookup ?_);show wpAny _ _ (seqItems? (.ref a) >>=_) _ _ _;refine a8 (cD ho hd ?_);show wpAny _ _ (forIn items _ _ >>=_) _ _ _;refine a8 (wpAny_forIn_array' _ (λl b s'=>(∀u∈l,(∃i t,u=Value.int i t)\/(∃z t,u=Value.str z t))/\s'=s) _ ?_ ?_ items _ ⟨λu hu=>Dw hi u (by simpa using hu),rfl⟩)
 ·rintro x rest b s' ⟨hl,rfl⟩;rcases hl x (aG) with⟨i,t,rfl⟩|⟨z,t,rfl⟩
  ·rw[gE];exact aO ⟨λu hu=>hl u (aC _ hu),rfl⟩
  rw[gE];exact aO (aO (q _))
 rintro b s' ⟨_,rfl⟩;obtain⟨b1,b2⟩:=b;cases b1 with
 |none=>exact aO (q _)
 |some r=>exact aO (q _)
def rD(hk:IsTupleKey (Aj prog w) s.heap ks a)(q:Q false s):wpAny (model prog w) A (ofAClassStatement 8 (.ref a)) Q E s:=by
 obtain⟨o,items,n,ho,hc,hd,hi⟩:=hk;rw[ofAClassStatement.eq_def];show wpAny _ _ (typeOf (.ref a) >>=_) _ _ _;refine a8 (wpAny_typeOf_ref ho ?_);rw[hc];show wpAny _ _ (seqItems? (.ref a) >>=_) _ _ _;refine a8 (cD ho hd ?_);show wpAny _ _ (forIn items _ _ >>=_) _ _ _;refine a8 (wpAny_forIn_array' _ (λl b s'=>(∀u∈l,(∃i t,u=Value.int i t)\/(∃z t,u=Value.str z t))/\b.1=none/\s'=s) _ ?_ ?_ items _ ⟨λu hu=>Dw hi u (by simpa using hu),rfl,rfl⟩)
 ·rintro x rest b s' ⟨hl,_,rfl⟩;rcases hl x (aG) with⟨i,t,rfl⟩|⟨z,t,rfl⟩
  ·rw[ofAClassStatement.eq_def];exact aO ⟨λu hu=>hl u (aC _ hu),rfl,rfl⟩
  rw[ofAClassStatement.eq_def];exact aO ⟨λu hu=>hl u (aC _ hu),rfl,rfl⟩
 rintro b s' ⟨_,e,rfl⟩;obtain⟨b1,b2⟩:=b;cases e;exact aO q
def nZ(hk:IsTupleKey (Aj prog w) s.heap ks a)(hl:∀y∈l,∃b ks',y=.ref b/\IsTupleKey (Aj prog w) s.heap ks' b)(q:Q false s) :
 wpAny (model prog w) A (searchCouldBeSeen (.ref a) l) Q E s:=by
 rw[searchCouldBeSeen.eq_def];refine a8 (wpAny_forIn_list _ (λl b s'=>(∀y∈l,∃b ks',y=.ref b/\IsTupleKey (Aj prog w) s.heap ks' b)/\b.1=none/\s'=s) _ ?_ ?_ l _ ⟨hl,rfl,rfl⟩)
 ·rintro x rest b s' ⟨hl,_,rfl⟩;obtain⟨c,ks',rfl,hc⟩:=hl x (aG);have go:∀y∈rest,∃b ks',y=.ref b/\IsTupleKey (Aj prog w) s'.heap ks' b:=λy hy=>hl y (aC _ hy);show wpAny _ _ (if (a ==c||false)=true then _ else _) _ _ _;rw[Bool.or_false];by_cases e:(a ==c)=true
  ·rw[if_pos e];exact aO ⟨go,rfl,rfl⟩
  rw[if_neg e];refine a8 ((tupleKind (Aj prog w)).quiet hk ?_);refine a8 ((tupleKind (Aj prog w)).quiet hc ?_);refine a8 (rD hk ?_);refine a8 (rD hc ?_);exact aO ⟨go,rfl,rfl⟩
 rintro b s' ⟨_,e,rfl⟩;obtain⟨b1,b2⟩:=b;cases e;exact aO q
def KQ{j1:Nat}(T:VF t j1):t.fits 1=true:=by
 unfold SetTable.fits SetTable.fill;rw[T.place,T.dum,T.mask];rfl
theorem Xc{ep:Nat}{h1:Int}{j1:Nat}(ho:s.heap.get? S=some o)(hd:o.data=.set #[(h1,.ref a)] ep t)(T:VF t j1)
 (ha:IsTupleKey (Aj prog w) s.heap ka a)(hb:IsTupleKey (Aj prog w) s.heap kb b)(ne:ka≠kb)(hu:A.units<cLine){h:Int}(q:∀j,j<8->j≠j1->Q (.free j false) s) :
 ∀F n stand p,stand.getD (t.probeStart h)=p->ZE p->p.perturb<32^n->n<=13->(n+2<=F\/(p.j≠j1/\1<=F))->
  wpAny (model prog w) A (setSearchFrom S (.ref b) h true F stand) Q E s
 |0,n,stand,p,es,R,hp,hn,hF=>by lia
 |F+1,n,stand,p,es,R,hp,hn,hF=>by
  have hp13:=aW hp (fV (by decide) hn);rw[setSearchFrom.eq_def];refine a8 (dY ho hd (KQ T) ?_);have hg:t.gaveWay=false:=by unfold SetTable.gaveWay;rw[T.mask];rfl
  show wpAny _ _ (if t.gaveWay=true then _ else _) _ _ _;rw[hg,es];show wpAny _ _ (match SetTable.probe t _ h p with|some met=>_|_=>_) _ _ _;split
  ·rename_i met heq;rcases F0 T R hp13 heq with⟨j,hj8,hj1,e⟩|⟨ej,e⟩
   ·cases e;exact aO (q j hj8 hj1)
   cases e;have R2:=jW T R;have next:wpAny (model prog w) A (setSearchFrom S (.ref b) h true F (some (t.advance p))) Q E s:=by
    rcases hF with hF|⟨hF,_⟩
    ·cases n with
     |zero=>
      have h0:p.perturb=0:=by simpa using hp
      refine Xc ho hd T ha hb ne hu q F 0 (some (t.advance p)) (t.advance p) rfl R2.1 (by rw[R2.2.1,h0];decide) (by decide) (.inr ⟨?_,by lia⟩);rw[R2.1.j,R2.2.2,h0,←ej,R.j];have:=R.lt
      lia
     |succ n=>exact Xc ho hd T ha hb ne hu q F n (some (t.advance p)) (t.advance p) rfl R2.1 (by rw[R2.2.1];rw[fU]at hp;lia) (by lia) (.inl (by lia))
    exact absurd ej hF
   have hsm:t.sameMemory t.moves t.mask=some true:=by unfold SetTable.sameMemory;rw[if_pos (by simp)]
   have hsl:t.slot j1=.live 0:=by rw[MP T,if_pos rfl]
   show wpAny _ _ (if (!t.led)=true then _ else _) _ _ _;cases hl:t.led with
   |true=>
    show wpAny _ _ (holding [Value.ref a] (eqBool (.ref a) (.ref b)) >>=_) _ _ _;refine a8 (dU ((tupleKind (Aj prog w)).eqBool hu ha hb ?_));rw[bL ne];refine a8 (dY ho hd (KQ T) ?_);show wpAny _ _ (match t.sameMemory t.moves t.mask with|some same=>_|_=>_) _ _ _;rw[hsm];show wpAny _ _ (match (if true=true then t.slot j1 else .empty) with| .live i'=>_|_=>_) _ _ _;rw[if_pos rfl,hsl];show wpAny _ _ (isSame (.ref a) (.ref a) >>=_) _ _ _;refine a8 (wpAny_isSame_ref_self ?_);exact next
   |false=>
    show wpAny _ _ (searchCouldBeSeen (.ref b) _ >>=_) _ _ _;refine a8 (nZ hb ?_ ?_)
    ·intro y hy;obtain⟨z,hz,rfl⟩:=bA.mp hy;have:=iJ.mp hz;rw[Array.mem_filter]at this;have:=this.1;simp only[List.mem_toArray,List.mem_cons,List.not_mem_nil,or_false]at this;subst this;exact⟨a,ka,rfl,ha⟩
    show wpAny _ _ (holding [Value.ref a] (eqBool (.ref a) (.ref b)) >>=_) _ _ _;refine a8 (dU ((tupleKind (Aj prog w)).eqBool hu ha hb ?_));rw[bL ne];refine a8 (dY ho hd (KQ T) ?_);show wpAny _ _ (match t.sameMemory t.moves t.mask with|some same=>_|_=>_) _ _ _;rw[hsm];show wpAny _ _ (match (if true=true then t.slot j1 else .empty) with| .live i'=>_|_=>_) _ _ _;rw[if_pos rfl,hsl];show wpAny _ _ (isSame (.ref a) (.ref a) >>=_) _ _ _;refine a8 (wpAny_isSame_ref_self ?_);exact next
  rename_i hno;rcases F0 T R hp13 rfl with⟨j,_,_,e⟩|⟨_,e⟩
  ·exact absurd e (hno _)
  exact absurd e (hno _)
noncomputable def PM(b:Bool)(t:SetTable):SetTable:=if b=true then t else {t with plain:=false}
def jX{ep:Nat}{h:Int}{F:Nat}(ho:s.heap.get? S=some o)(hd:o.data=.set es ep t)(hf:t.fits es.size=true)
 (ha:IsTupleKey (Aj prog w) s.heap ks a)(C:Nat->Prop)(hs:∀Q':SetFound->Shared->Prop,(∀j,C j->Q' (.free j false) s)->wpAny (model prog w) A (setSearch S (.ref a) h true) Q' E s)
 (full:∀j b,C j->(PM b (t.put j).1).tooFull=false)(hsz:∀j,C j->(SetTable.insertAt es (t.put j).2 (h,Value.ref a)).size<=sizeLine)
 (q:∀j b,C j->Q true {s with heap:=s.heap.update S (Obj.putSet (SetTable.insertAt es (t.put j).2 (h,.ref a)) (PM b (t.put j).1))}):wpAny (model prog w) A (setAddHashedIn S (.ref a) h (F+1)) Q E s:=by
 rw[setAddHashedIn.eq_def];refine a8 (dY ho hd hf ?_);show wpAny _ _ (setSearch S (.ref a) h true >>=_) _ _ _;refine a8 (hs _ λj hj=>?_);refine a8 (dY ho hd hf ?_);have jp:∀b,wpAny (model prog w) A (storeSet S (SetTable.insertAt es (t.put j).2 (h,.ref a)) (PM b (t.put j).1) >>=λ_=>if (!false&&(PM b (t.put j).1).tooFull)=true then(do let r ←setRelay S (SetTable.grown (es.size+1));(λ_=>pure true) r) else pure true) Q E s:=λb=>by
  refine a8 (wpAny_storeSet_of ho hd ?_ (hsz j hj));rw[full j b hj];exact aO (q j b hj)
 show wpAny _ _ (if (t.put j).1.plain=true then _ else _) _ _ _;cases (t.put j).1.plain with
 |true=>
  show wpAny _ _ (hashByValue 8 (.ref a) >>=_) _ _ _;exact a8 (tY ha λb=>jp b)
 |false=>exact jp true
def mr(h:Heap)(S:Addr):Prop:=E3 λo ep t=>A6 (h.get? S=some o) o.ExactSet (o.data=.set #[] ep t) (t.mask=7) (t.place=#[]) (t.dummies=#[])
def ae(h:Heap)(S a:Addr):Prop:=E5 λo ep t h1 j1=>A4 (h.get? S=some o) o.ExactSet (o.data=.set #[(h1,.ref a)] ep t) (VF t j1)
def Z9(h:Heap)(S:Addr)(n:Nat):Prop:=E4 λo es ep t=>A5 (h.get? S=some o) o.ExactSet (o.data=.set es ep t) (t.fits es.size=true) (es.size=n)
def mr.n(x:mr h S):Z9 h S 0:=by
 obtain⟨o,ep,t,h1,h2,h3,h4,h5,h6⟩:=x;refine⟨o,#[],ep,t,h1,h2,h3,?_,rfl⟩;unfold SetTable.fits SetTable.fill;rw[h4,h5,h6];rfl
def ae.n(x:ae h S a):Z9 h S 1:=by
 obtain⟨o,ep,t,h1,j1,h2,h3,h4,h5⟩:=x;exact⟨o,_,ep,t,h2,h3,h4,KQ h5,rfl⟩
def Ki(es:Array (Int×Value))(t:SetTable):Heap.SameBut S h (h.update S (Obj.putSet es t)):=⟨Heap.size_update _ _ _,λb hb=>fI _ _ (bN hb)⟩
def MZ{h:Heap}{o:Obj}{ep:Nat}(ho:h.get? S=some o)(hx:o.ExactSet)(hd:o.data=.set es0 ep t0) :
 ∃o',(h.update S (Obj.putSet es t)).get? S=some o'/\o'.ExactSet/\o'.data=.set es (ep+1) t:=by
 obtain⟨c,d,dt,sl⟩:=o;obtain⟨rfl,rfl,rfl⟩:=hx;cases hd;exact⟨_,fN (Obj.putSet es t) ho rfl,⟨rfl,rfl,rfl⟩,rfl⟩
def qw{ks:List Key}{h:Int}{F:Nat}{Q:Bool->Shared->Prop}(hS:mr s.heap S)(ha:IsTupleKey (Aj prog w) s.heap ks a)
 (q:∀h',Heap.SameBut S s.heap h'->ae h' S a->Q true {s with heap:=h'}):wpAny (model prog w) A (setAddHashedIn S (.ref a) h (F+1)) Q E s:=by
 obtain⟨o,ep,t,ho,hx,hd,hm,hp,hdu⟩:=hS;have put:∀j,t.put j=({t with place:=#[j]},0):=λj=>by
  unfold SetTable.put;rw[hp,hdu,M6,Vi];show(_,_)=_;rw[if_neg (by decide)];have:SetTable.insertAt (#[]:Array Nat) 0 j=#[j]:=by simp[SetTable.insertAt]
  rw[this]
 refine jX ho hd ?_ ha (λ_=>True) ?_ ?_ ?_ ?_
 ·unfold SetTable.fits SetTable.fill;rw[hm,hp,hdu];rfl
 ·intro Q' q';rw[setSearch.eq_def,setSearchFrom.eq_def];refine a8 (dY ho hd ?_ ?_)
  ·unfold SetTable.fits SetTable.fill;rw[hm,hp,hdu];rfl
  have hg:t.gaveWay=false:=by unfold SetTable.gaveWay;rw[hm];rfl
  show wpAny _ _ (if t.gaveWay=true then _ else _) _ _ _;rw[hg];show wpAny _ _ (match SetTable.probe t _ h (t.probeStart h) with|some met=>_|_=>_) _ _ _;have pr:∀f,SetTable.probe t f h (t.probeStart h)=some (.empty (t.probeStart h).j none):=λf=>by
   have hF:10*SetTable.turns t.mask=219+1:=by rw[hm];rfl
   rw[SetTable.probe.eq_def,hF,SetTable.probe.go.eq_def];simp only[cu hp hdu];rfl
  rw[pr];exact aO (q' _ trivial)
 ·intro j b _;rw[put];unfold SetTable.tooFull SetTable.fill PM;cases b<;>simp[hm,hdu]
 ·intro j _;rw[put];simp[SetTable.insertAt,sizeLine_eq]
 intro j b _;rw[put];refine q _ (Ki _ _) ?_;obtain⟨o',g1,g2,g3⟩:=MZ (es:=SetTable.insertAt #[] 0 (h,.ref a)) (t:=PM b {t with place:=#[j]}) ho hx hd;have e1:SetTable.insertAt (#[]:Array (Int×Value)) 0 (h,Value.ref a)=#[(h,.ref a)]:=by simp[SetTable.insertAt]
 rw[e1]at g1 g3;show ae (s.heap.update S (Obj.putSet (SetTable.insertAt #[] 0 (h,Value.ref a)) (PM b {t with place:=#[j]}))) S a;rw[e1];refine⟨o',ep+1,PM b {t with place:=#[j]},h,j,g1,g2,g3,?_⟩;unfold PM;cases b
 ·exact⟨hm,rfl,hdu⟩
 exact⟨hm,rfl,hdu⟩
def qv{ka kb:List Key}{h:Int}{F:Nat}{Q:Bool->Shared->Prop}(hS:ae s.heap S a)(ha:IsTupleKey (Aj prog w) s.heap ka a)(hb:IsTupleKey (Aj prog w) s.heap kb b)(ne:ka≠kb)(hu:A.units<cLine)
 (q:∀h',Heap.SameBut S s.heap h'->Z9 h' S 2->Q true {s with heap:=h'}):wpAny (model prog w) A (setAddHashedIn S (.ref b) h (F+1)) Q E s:=by
 obtain⟨o,ep,t,h1,j1,ho,hx,hd,T⟩:=hS;have put:∀j,∃pl,pl.size=2/\t.put j=({t with place:=pl},if j1<j then 1 else 0):=λj=>by
  refine⟨SetTable.insertAt #[j1] (if j1<j then 1 else 0) j,?_,?_⟩
  ·by_cases e:j1<j
   ·rw[if_pos e];simp[SetTable.insertAt]
   rw[if_neg e];simp[SetTable.insertAt]
  unfold SetTable.put;rw[T.place,T.dum,Td,Vi];show(_,_)=_;simp only[Bool.false_eq_true,if_false]
 have es2:∀j,(SetTable.insertAt #[(h1,Value.ref a)] (if j1<j then 1 else 0) (h,Value.ref b)).size=2:=λj=>by
  by_cases e:j1<j
  ·rw[if_pos e];simp[SetTable.insertAt]
  rw[if_neg e];simp[SetTable.insertAt]
 refine jX ho hd (KQ T) hb (λ_=>True) ?_ ?_ ?_ ?_
 ·intro Q' q';rw[setSearch.eq_def];obtain⟨R,hp⟩:=WZ T h;exact Xc ho hd T ha hb ne hu (λj _ _=>q' j trivial) 100000 13 none _ rfl R hp (aH _) (.inl (by decide))
 ·intro j c _;obtain⟨pl,h2,e⟩:=put j;rw[e];unfold SetTable.tooFull SetTable.fill PM;cases c<;>simp[T.mask,T.dum,h2]
 ·intro j _;obtain⟨pl,h2,e⟩:=put j;rw[e,es2,dI];decide
 intro j c _;obtain⟨pl,h2,e⟩:=put j;rw[e];refine q _ (Ki _ _) ?_;obtain⟨o',g1,g2,g3⟩:=MZ (es:=SetTable.insertAt #[(h1,Value.ref a)] (if j1<j then 1 else 0) (h,.ref b)) (t:=PM c {t with place:=pl}) ho hx hd;refine⟨o',_,_,_,g1,g2,g3,?_,es2 j⟩;rw[es2];unfold SetTable.fits SetTable.fill PM;cases c<;>simp[T.mask,T.dum,h2]
end
section
variable {prog:Program}{w:World}{A:Around}{R:Result->Shared->Prop}{I:Addr}{fp wr:List Addr}{G:Array GenState->Array GenState->Prop}{n:Nat}{P:Nat->Value->Prop}{St:Nat->Shared->Prop}
def Oz(W:WalksS prog w A.in1 I fp wr G n P St)(S:Addr)(hS:S∉fp)(SP:Nat->Heap->Prop)(stay:∀i h h',SP i h->(∀b o,b∉wr->h.get? b=some o->h'.get? b=some o)->SP i h')
 (add:∀i v s Q E,i<n->P i v->SP i s.heap->(∀h' tk b,s.toks<=tk->Heap.SameBut S s.heap h'->SP (i+1) h'->Q b {s with heap:=h',toks:=tk})->wpAny (model prog w) A.in1 (setAdd S v) Q E s) :
 ∀k i s,n-i=k->i<=n->St i s->SP i s.heap->(∀s',Moved (S::wr) G s s'->SP n s'.heap->R (.ok (.ret .none)) s')->
  codeAny (model prog w) A (.builtin "set.update.loop" ⟨[.ref S,.ref I],[]⟩) R s:=by
 have up:∀b∈wr,b∈S::wr:=λb hb=>aC _ hb;intro k
 induction k with
 |zero=>
  intro i s hk hi hst hs hR;have:i=n:=by omega
  subst this;refine i9 fD ?_;rw[Around.under_plainId dL _];show wpAny _ A.in1 (pyNext (.ref I) >>=_) _ _ s;refine a8 (W.done s _ _ hst λs' hm=>?_);show wpAny _ A.in1 (ret Value.none) _ _ s';exact aO (hR s' (hm.mono up) (stay _ _ _ hs hm.heap))
 |succ k ih=>
  intro i s hk hi hst hs hR;have hlt:i<n:=by omega
  refine i9 fD ?_;rw[Around.under_plainId dL _];show wpAny _ A.in1 (pyNext (.ref I) >>=_) _ _ s;refine a8 (W.item i s _ _ hlt hst λv s' hP hst' hm=>?_);have hs':=stay _ _ _ hs hm.heap;show wpAny _ A.in1 (holding [v] (setAdd S v) >>=_) _ _ s';refine a8 (dU ?_);refine add i v s' _ _ hlt hP hs' λh' tk b htk hsb hS2=>?_;refine aO ⟨plainId_quiet dL _,ih (i+1) _ (by omega) hlt (W.frame _ s' _ _ hst' htk λb hb o e=>?_) hS2 λs'' hm'' hS''=>?_⟩
  ·rw[hsb.2 b (λh:b=S=>hS (by rw[←h];exact hb))];exact e
  refine hR s'' (Moved.trans W.gtrans ((hm.mono up).then_heap htk λb o hb e=>?_) hm'') hS'';rw[hsb.2 b (λh:b=S=>hb (by rw[h];exact aG))];exact e
end
section
def VG(prog:Program)(w:World)(S:Addr)(xs:List (Addr×List Key))(i:Nat)(h:Heap):Prop:=(∀x∈xs,IsTupleKey (Aj prog w) h x.2 x.1)/\(match i with|0=>mr h S|1=>∃x,xs[0]?=some x/\ae h S x.1|n=>Z9 h S n)
def GH(hk:IsTupleKey (Aj prog w) h ks a)(e:∀o,h.get? a=some o->h'.get? a=some o):IsTupleKey (Aj prog w) h' ks a:=by
 obtain⟨o,it,n,ho,r⟩:=hk;exact⟨o,it,n,e o ho,r⟩
def VG.stay{xs:List (Addr×List Key)}{i:Nat}{h h':Heap}{wr:List Addr}(hS:S∉wr)(hx:∀x∈xs,x.1∉wr)(x:VG prog w S xs i h)(e:∀b o,b∉wr->h.get? b=some o->h'.get? b=some o):VG prog w S xs i h':=by
 obtain⟨h1,h2⟩:=x;refine⟨λy hy=>GH (h1 y hy) λo ho=>e _ _ (hx y hy) ho,?_⟩
 match i,h2 with
 |0,⟨o,ep,t,ho,r,u,v,y,z⟩=>exact⟨o,ep,t,e _ _ hS ho,r,u,v,y,z⟩
 |1,⟨x,e0,o,ep,t,h1,j1,ho,r,u,v⟩=>exact⟨x,e0,o,ep,t,h1,j1,e _ _ hS ho,r,u,v⟩
 |n+2,⟨o,es,ep,t,ho,r,u,v,y⟩=>exact⟨o,es,ep,t,e _ _ hS ho,r,u,v,y⟩
def VG.add{i:Nat}(hu:A.units<cLine)(h2:xs.length<=2)(nd:(xs.map (·.2)).Nodup)(hS:∀x∈xs,x.1≠S)(hi:xs[i]?=some x)(sp:VG prog w S xs i s.heap)
 (q:∀h' tk b,s.toks<=tk->Heap.SameBut S s.heap h'->VG prog w S xs (i+1) h'->Q b {s with heap:=h',toks:=tk}):wpAny (model prog w) A (setAdd S (.ref x.1)) Q E s:=by
 obtain⟨h1,hst⟩:=sp;have hx:=h1 x (aQ hi);have kp:∀{h':Heap},Heap.SameBut S s.heap h'->∀x∈xs,IsTupleKey (Aj prog w) h' x.2 x.1:=λ{h'} hs y hy=>GH (h1 y hy) λo ho=>by rw[hs.2 _ (hS y hy)];exact ho
 unfold setAdd;refine dU (a8 ((tupleKind (Aj prog w)).pyHash hu hx ?_));unfold setAddHashed;refine dU ?_;have hil:=(a9.mp hi).1
 match i,hi,hst with
 |0,hi,hst=>
  exact qw (F:=99999) (s:={s with toks:=s.toks+_}) hst hx λh' hs st=>q h' _ true (i5 _ _) hs ⟨kp hs,x,hi,st⟩
 |1,hi,⟨y,e0,st⟩=>
  have ne:y.2≠x.2:=λe=>by
   obtain⟨l0,g0⟩:=a9.mp e0;obtain⟨l1,g1⟩:=a9.mp hi;have:=(bO.mp nd) 0 1 (by rw[aI];exact l0) (by rw[aI];exact l1) (by decide);rw[fJ,fJ,g0,g1]at this;exact this e
  exact qv (F:=99999) (s:={s with toks:=s.toks+_}) st (h1 y (aQ e0)) hx ne hu λh' hs st=>q h' _ true (i5 _ _) hs ⟨kp hs,st⟩
 |n+2,hi,_=>omega
end
theorem Gf:∀{xs:List (Addr×List Key)}{us:List Value},Al (xs.map λx=>V.ref x.1) us->us=xs.map λx=>Value.ref x.1
 |[],_,r=>by rw[hV]at r;cases r;rfl
 |x::xs,_,r=>by
  rw[aF]at r;cases r with
  |cons h t=>cases h;rw[Gf t];rfl
def Jd{K:Fq}:PySem.W.kitAny K (.type "list") [.type "list",.type "tuple"]=some true:=by
 show(match PySem.W.kitOne K (.type "list") (.type "list") with|some true=>some true|some false=>PySem.W.kitAny K (.type "list") [.type "tuple"]|none=>none)=some true;rw[BQ]
def P7:Bh X (.builtin "isinstance") (λxs H Q=>∃a ys tp,xs=[.ref a,.ref tp]/\H a=some (.lst ys)/\Iw X.K H tp [.ty "list",.ty "tuple"]/\Q (.bl true) H):=by
 intro pins s σ H xs us Q I r h;obtain⟨a,ys,tp,rfl,ha,hq,q⟩:=h;obtain⟨u,w',rfl,rx,rc⟩:=Fw r;obtain rfl:u=Value.ref a:=rx;obtain rfl:w'=Value.ref tp:=rc;obtain⟨_,_,n,_,h1⟩:=(show AG X.prog X.w H s.heap a (.lst ys) from I.hok a _ ha);obtain⟨its,rv,pl,_⟩:=I.tuple hq;have ei:its=[.type "list",.type "tuple"]:=by
  cases rv with
  |cons r1 r2=>cases r2 with
   |cons r3 r4=>
    cases r4;have r1:=r1;have r3:=r3;rw[r1,r3]
 obtain⟨⟨oc,odd,odt,osl⟩,e1,hc,n1,dd⟩:=pl;dsimp only at hc dd;subst hc dd ei;exact PySem.W.kia_tup PySem.W.kitx_list I.kIn ⟨_,h1,rfl⟩ e1 Jd (λz=>nomatch z) λtk=>⟨.bl true,H,I.tok _,rfl,q⟩
def G8{K:Fq}:PySem.W.kitOne K (.type "tuple") (.type "list")=some false:=AE (by decide +kernel) (by decide +kernel) (by decide +kernel)
def Ht{K:Fq}:PySem.W.kitAny K (.type "tuple") [.type "list",.type "tuple"]=some true:=by
 show(match PySem.W.kitOne K (.type "tuple") (.type "list") with|some true=>some true|some false=>PySem.W.kitAny K (.type "tuple") [.type "tuple"]|none=>none)=some true;rw[G8];show(match PySem.W.kitOne K (.type "tuple") (.type "tuple") with|some true=>some true|some false=>PySem.W.kitAny K (.type "tuple") []|none=>none)=some true;rw[BQ]
def P6:Bh X (.builtin "isinstance") (λxs H Q=>∃a ys tp,xs=[.ref a,.ref tp]/\H a=some (.tup ys)/\Iw X.K H tp [.ty "list",.ty "tuple"]/\Q (.bl true) H):=by
 intro pins s σ H xs us Q I r h;obtain⟨a,ys,tp,rfl,ha,hq,q⟩:=h;obtain⟨u,w',rfl,rx,rc⟩:=Fw r;obtain rfl:u=Value.ref a:=rx;obtain rfl:w'=Value.ref tp:=rc;obtain⟨_,_,_,ob,h1,hcl,_⟩:=(show AG X.prog X.w H s.heap a (.tup ys) from I.hok a _ ha);obtain⟨its,rv,pl,_⟩:=I.tuple hq;have ei:its=[.type "list",.type "tuple"]:=by
  cases rv with
  |cons r1 r2=>cases r2 with
   |cons r3 r4=>
    cases r4;have r1:=r1;have r3:=r3;rw[r1,r3]
 obtain⟨⟨oc,odd,odt,osl⟩,e1,hc,n1,dd⟩:=pl;dsimp only at hc dd;subst hc dd ei;exact PySem.W.kia_tup PySem.W.kitx_tuple I.kIn ⟨_,h1,hcl⟩ e1 Ht (λz=>nomatch z) λtk=>⟨.bl true,H,I.tok _,rfl,q⟩
section
def P4(hc:X.calm=true):Bh X (.builtin "max") (λxs H Q=>∃(p:Addr) (ns:List Int),xs=[.ref p]/\D4 X.K H p (ns.map V.int)/\0<ns.length/\∀m∈ns,(∀a∈ns,a<=m)->Q (.int m) H):=by
 intro pins s σ H xs us Q I r h;obtain⟨p,ns,rfl,hq,hn,q⟩:=h;obtain⟨u,rfl,ru⟩:=C5 r;cases ru;obtain⟨its,rv,pl,hz⟩:=I.list hq;have hi:=GJ rv;obtain⟨xs,ex⟩:=hi.allInts.items;have el:numsOf its=ns:=hi.numsOf;have hl:=pl.isList;rw[ex]at hl;have nx:numsOf (intItems xs).toList=xs.toList.map (·.1):=nums_intItems xs;have en:xs.toList.map (·.1)=ns:=by rw[←nx,←ex];exact el
 have hsz:0<xs.size:=by
  have:(xs.toList.map (·.1)).length=ns.length:=by rw[en]
  rw[aI,eX]at this
  lia
 refine max_intList (I.ok.hd hc) hl hsz λv h' tk hv hk=>?_;obtain⟨t,rfl⟩:=intItems_at hv;have fe:(λi j=>decide (numAt xs i>numAt xs j))=λi j=>decide ((λk=>- numAt xs k) i<(λk=>- numAt xs k) j):=by
  funext i j
  rw[decide_eq_decide];dsimp only
  lia
 obtain⟨h1,h2⟩:=argBest_lt (λk=>- numAt xs k) (xs.size-1);rw[←fe]at h1 h2;refine⟨.int _,H,I.kept (t':=tk) hk,⟨t,rfl⟩,q _ ?_ λa ha=>?_⟩
 ·rw[←en,numAt_eq];exact getD_mem (by rw[aI,eX];lia)
 rw[←en]at ha;obtain⟨j,hj,rfl⟩:=mem_getD ha;rw[aI,eX]at hj;rw[←numAt_eq];have:=h2 j (by lia)
 lia
noncomputable def FH(n:Nat)(z:Str):Str:=⟨((List.replicate n z.cps.toList).flatten).toArray⟩
theorem GR:∀(n:Nat) (a acc:Array Nat),List.foldl (λx1 x2=>x1++x2) acc (List.replicate n a)=acc++((List.replicate n a.toList).flatten).toArray
 |0,a,acc=>by simp
 |n+1,a,acc=>by
  rw[cB,i8,GR n,cB,bR];apply Array.ext';simp
def Uk(n:Nat)(z:Str):(FH n z).length=n*z.length:=by
 show((List.replicate n z.cps.toList).flatten).toArray.size=_;rw[aZ];simp[Str.length]
def UJ:BE X (binaryOp .Mult) (λx y H Q=>∃z n,x=.str z/\y=.int n/\0<=n/\n<=100/\z.length<=100/\Q (.str (FH n.toNat z)) H):=by
 intro pins s σ H x y v u Q I rx ry h;obtain⟨z,n,rfl,rfl,h0,h1,hz,q⟩:=h;obtain⟨t,rfl⟩:=rx;obtain⟨t',rfl⟩:=ry;have hs:sizeLine=16777216:=dI;have hm:z.length*n.toNat<=100*100:=Nat.mul_le_mul hz (by lia);refine P.mul_str ?_ ?_ ?_ ?_
 ·rw[Bool.or_eq_false_iff];exact⟨bL (by lia),bL (by lia)⟩
 ·intro g1 _ g3;have e:((z.length*n.toNat:Nat):Int)=(z.length:Int)*n:=by rw[Int.natCast_mul,Int.toNat_of_nonneg h0]
  have:(z.length:Int)<=(2^63-1) / n:=Int.le_ediv_of_mul_le (by lia) (by rw[←e];lia)
  lia
 ·intro _ _;exact bL (by lia)
 have fin:∀y tk,y=FH n.toNat z->EP X pins σ Q (Value.str y s.toks) {s with toks:=tk}:=λy tk e=>⟨.str y,H,I.tok _,⟨_,rfl⟩,by rw[e];exact q⟩;by_cases g:n<1
 ·rw[if_pos g];have:n=0:=by lia
  subst this;exact⟨by show 0<=sizeLine;lia,fin _ _ rfl⟩
 rw[if_neg g];by_cases g2:(n ==1||z.length ==0)=true
 ·rw[if_pos g2];have e:z=FH n.toNat z:=by
    rw[dR,aP,aP]at g2;rcases g2 with rfl|g2
    ·show z=⟨((List.replicate 1 z.cps.toList).flatten).toArray⟩;simp
    have:z.cps=#[]:=Array.eq_empty_of_size_eq_zero g2;obtain⟨c⟩:=z;dsimp only at this;subst this;unfold FH;simp
  exact⟨.str z,H,I,⟨_,rfl⟩,by rw[←e]at q;exact q⟩
 rw[if_neg g2];have e:(⟨List.foldl (λx1 x2=>x1++x2) #[] (List.replicate n.toNat z.cps)⟩:Str)=FH n.toNat z:=by rw[GR];unfold FH;simp
 refine⟨?_,fin _ _ e⟩;rw[e,Uk,hW]
 lia
end
section
def GW{items:Array Value}{xs:List (Addr×List Key)}(hh:A.handled=none)(hu:A.units+8<cLine)(hl:s.heap.IsTuple l items)(hz:items.toList=xs.map λx=>Value.ref x.1)(hx2:xs.length<=2)(nd:(xs.map (·.2)).Nodup)(hk:∀x∈xs,IsTupleKey (Aj prog w) s.heap x.2 x.1)
 (h:∀(h':Heap) (tk:Nat),Z9 h' s.heap.objs.size xs.length->(∀b o,b<s.heap.objs.size->s.heap.get? b=some o->h'.get? b=some o)->Q (.ref s.heap.objs.size) {s with heap:=h',toks:=tk}) :
 wpAny (model prog w) A (call (.type "set") [.ref l]) Q E s:=by
 obtain⟨c,tl,hmro⟩:=F.called_set.mro;have hmade:=F.called_set.made;have hsub:=F.called_set.sub;refine fP (codeAny_of_tree ?_);show wpAny _ _ (callAny (.type "set") _) _ _ _;refine aO ⟨Code.quiet_builtin _ (by decide +kernel),i9 F.entry_type_call ?_⟩;rw[Around.under_plain (weight_type_call_type "set" [.ref l] []) rfl];have h1:=F.called_set.notType;have h2:=F.called_set.canCreate;have hct:=F.typeCall_set_1 (.ref l)
 repeat (any_goals (first|assumption|wp_step))
 refine eD (code_set_new_1 (.ref l) (E:=E) (Q₁:=λobj s₁=>∃led:Bool,obj=.ref s.heap.objs.size/\s₁={s with heap:=s.heap.push {cls:=.type "set",dict:=none,data:=.set #[] 0 (.fresh 0 0 led)}}) λled=>⟨led,rfl,rfl⟩) λr s₁ hr=>?_;cases r with
 |error e=>exact hr
 |ok fl=>
  cases fl with
  |ret obj=>
   obtain⟨led,rfl,rfl⟩:=hr;have hS:(s.heap.push {cls:=.type "set",dict:=none,data:=.set #[] 0 (.fresh 0 0 led)}).get? s.heap.objs.size=some {cls:=.type "set",dict:=none,data:=.set #[] 0 (.fresh 0 0 led)}:=aK _ rfl;have hT:Shared.TypeIs {s with heap:=s.heap.push {cls:=.type "set",dict:=none,data:=.set #[] 0 (.fresh 0 0 led)}} (.ref s.heap.objs.size) "set":=⟨_,hS,rfl⟩;have hli:=F.called_set.init.lookup;have hbi:=F.called_set.init.bind (.ref s.heap.objs.size)
   repeat (any_goals (first|assumption|wp_step))
   refine eD (codeAny_call_builtin (R:=wants (λr s₂=>r=.none/\∃h' tk,s₂={s with heap:=h',toks:=tk}/\Z9 h' s.heap.objs.size xs.length/\
    (∀b o,b<s.heap.objs.size->s.heap.get? b=some o->h'.get? b=some o)) E) F.called_set.init.plain F.entry_set_init (check_set_init_1 hT ?_)) λr₂ s₂ hr₂=>?_
   ·obtain⟨⟨ocls,odict,odata,oslots⟩,hol,hcl,nl,hdl⟩:=id hl;simp only at hcl hdl;subst hcl hdl;have hol':(s.heap.push {cls:=.type "set",dict:=none,data:=.set #[] 0 (.fresh 0 0 led)}).get? l=some {cls:=.type "tuple",dict:=odict,data:=.seq items nl,slots:=oslots}:=aD _ hol;have hsls:=F.sub_tuple_set;have hslf:=F.sub_tuple_frozenset;have hne:(Value.type "tuple" ==Value.type "dict")=false:=by decide
    have hl1:(s.heap.push {cls:=.type "set",dict:=none,data:=.set #[] 0 (.fresh 0 0 led)}).IsTuple l items:=⟨_,hol',rfl,nl,rfl⟩;unfold Builtin.«set.__init__» noKeywords Builtin.Frozenset.updateFrom;generalize hPI:pyIter=PI
    wp_walk
    subst hPI;refine gD hl1 ?_;refine a8 (wpAny_runValue ?_);have hlS:l<s.heap.objs.size:=aN hol;have hh3:A.in1.in1.in1.handled=none:=by simp[hh]
    have szp:(s.heap.push {cls:=.type "set",dict:=none,data:=.set #[] 0 (.fresh 0 0 led)}).objs.size=s.heap.objs.size+1:=cK _ _;have hneI:l≠(s.heap.push {cls:=.type "set",dict:=none,data:=.set #[] 0 (.fresh 0 0 led)}).objs.size:=by rw[szp];exact aX (eN hlS)
    have hSf:s.heap.objs.size∉ [(s.heap.push {cls:=.type "set",dict:=none,data:=.set #[] 0 (.fresh 0 0 led)}).objs.size,l]:=by
     simp only[List.mem_cons,List.not_mem_nil,or_false,not_or];exact⟨by rw[szp];exact aX (eC _),f7 hlS⟩
    have hln:xs.length=items.size:=by
     have:=bQ List.length hz;simpa using this.symm
    have hval:∀(i:Nat) (v:Value),items[i]?=some v->∃x,xs[i]?=some x/\v=.ref x.1:=λi v hv=>by
     have hv:items.toList[i]?=some v:=by rw[iH];exact hv
     rw[hz,aJ]at hv;obtain⟨x,h1,h2⟩:=aE.mp hv;exact⟨x,h1,h2.symm⟩
    have xlt:∀x∈xs,x.1<s.heap.objs.size:=λx hx=>by
     obtain⟨o,_,_,ho,_⟩:=hk x hx;exact aN ho
    refine Oz ((Walks.tuple hh3 _ l hneI items).toS) s.heap.objs.size hSf (VG prog w s.heap.objs.size xs) (λi h h'=>VG.stay ?a1 ?a2) (λi v s1 Q1 E1 hi hP sp q1=>?a3) (items.size-0) 0 _ (by lia) (cS _) ⟨⟨_,aK _ rfl,rfl,rfl⟩,(hl1.push _)⟩ ?hS0 ?hR
    case a1=>rw[szp];simp
    case a2=>
     intro x hx;rw[szp,aY];exact aX (eN (xlt x hx))
    case a3=>
     obtain⟨x,hx,rfl⟩:=hval i v hP;exact VG.add (by simp[Around.in1];lia) hx2 nd (λx hx=>aX (xlt x hx)) hx sp q1
    case hS0=>
     refine⟨λx hx=>GH (hk x hx) λo ho=>aD _ (aD _ ho),?_⟩;exact⟨_,0,_,aD _ hS,⟨rfl,rfl,rfl⟩,rfl,rfl,rfl,rfl⟩
    case hR=>
     intro s' hm hS';have hS':Z9 s'.heap s.heap.objs.size xs.length:=by
      have hS':=hS'.2;rw[←hln]at hS'
      match hn:xs.length,hS',hx2 with
      |0,hS',_=>exact hS'.n
      |1,⟨_,_,hS'⟩,_=>exact hS'.n
      |n+2,hS',_=>exact hS'
     obtain⟨h',g',d',tk',os'⟩:=s';have eg:g'=s.gens:=hm.gens;have ed:d'=s.drawn:=hm.drawn;have eo:os'=s.os:=hm.os;subst eg ed eo;show wpAny _ _ _ _ _ _;refine aO ?_;show wpAny _ _ (ret Value.none) _ _ _;refine aO ⟨rfl,h',tk',rfl,hS',λb o hb e=>?_⟩;refine hm.heap b o ?_ (aD _ (aD _ e));simp only[List.mem_cons,List.not_mem_nil,or_false,not_or];exact⟨aX hb,by rw[szp];exact aX (eN hb)⟩
   cases r₂ with
   |error e=>exact hr₂
   |ok fl₂=>
    cases fl₂ with
    |ret r=>
     obtain⟨rfl,h',tk,rfl,hS',hk'⟩:=hr₂
     repeat (any_goals (first|assumption|wp_step))
     exact h _ _ hS' hk'
    |_=>exact hr₂.elim
  |_=>exact hr.elim
end
section
def WS(K:PySem.W.Frag)(te:TE):TE:=λσ H Q=>te σ H λx H1=>∃(a:Addr) (xs:List (Addr×List Key)),x=.ref a/\Iw K H1 a (xs.map λx=>V.ref x.1)/\xs.length<=2/\(xs.map (·.2)).Nodup/\(∀x∈xs,H1 x.1=some (.tup (x.2.map kV)))/\Q (.int (xs.length:Nat)) H1
def Rv{e:Expr}{te:TE}{p1 p2 p3 pos:Pos}(hh:X.A.handled=none)(hu:X.A.units+64<cLine)(g1:Gl X "len")(m1:X.mg "len"=none)(g2:Gl X "set")(m2:X.mg "set"=none)(he:PE X e te)
 (h1:starEach [.Call (.Name "set" p2) [e] [] p3] X.env=[(false,eval (.Call (.Name "set" p2) [e] [] p3) X.env)]:=by rfl)(h2:starEach [e] X.env=[(false,eval e X.env)]:=by rfl) :
 PE X (.Call (.Name "len" p1) [.Call (.Name "set" p2) [e] [] p3] [] pos) (WS X.K te):=by
 intro pins s σ H Q I h;refine c8 (Cz I g1 m1 boot_len ?_ (by decide) (by decide));refine fQ ?_ h1 rfl;rw[h1];show wpAny _ _ (spliced ((false,eval (.Call (.Name "set" p2) [e] [] p3) X.env)::backTo pos (starEach [] X.env))) _ _ s;refine gB ?_;refine c8 (Cz I g2 m2 SX ?_ (by decide) (by decide));refine bZ ?_ h2 rfl;rw[h2];show wpAny _ _ (spliced ((false,eval e X.env)::backTo p3 (starEach [] X.env))) _ _ s;refine gB (AR (he pins s σ H _ I h) λu s1 ⟨x,H1,I1,r1,q1⟩=>?_);obtain⟨a,xs,rfl,hq,h2',nd,hk,q⟩:=q1;cases r1;refine gN ?_;obtain⟨its,rv,pl,_⟩:=I1.tuple hq;refine GW (xs:=xs) hh (by lia) pl (by simpa using Gf rv) h2' nd (λx hx=>Fa I1.hok (hk x hx)) λh' tk hS hk=>?_;refine gN ?_;obtain⟨o,es,ep,t,ho,hex,hd,hf,hn⟩:=hS;refine call_len_set (s:={s1 with heap:=h',toks:=tk}) ho hex hd hf (by lia) ?_;refine⟨.int (xs.length:Nat),H1,(I1.kept (t':=tk+1+1) λb u e=>hk b u (aN e) e),⟨_,by rw[hn]⟩,q⟩
end
noncomputable abbrev AO(a:Addr)(o:Obj):HO:=.frz o (.own a)
noncomputable def del(H:Hp)(C:List (Addr×Obj)):Hp:=λb=>if (C.lookup b).isSome=true then none else H b
noncomputable def put(H:Hp)(C:List (Addr×Obj)):Hp:=λb=>match C.lookup b with
 |some o=>some (AO b o)
 |none=>H b
section
def DW(e:C.lookup b=some o):put H C b=some (AO b o):=by unfold put;rw[e]
def AW(e:C.lookup b=none):put H C b=H b:=by unfold put;rw[e]
def CW(e:C.lookup b=some o):del H C b=none:=by unfold del;rw[e];rfl
def AZ(e:C.lookup b=none):del H C b=H b:=by unfold del;rw[e];rfl
def CL(n:∀c o,C.lookup c=some o->H c=none)(e:H b=some u):put H C b=some u:=by
 cases q:C.lookup b with
 |none=>rw[AW q];exact e
 |some o=>rw[n b o q]at e;cases e
def By(n:∀c o,C.lookup c=some o->H c=some (AO c o))(hu:∀o,u≠AO b o)(e:H b=some u):del H C b=some u:=by
 cases q:C.lookup b with
 |none=>rw[AZ q];exact e
 |some o=>rw[n b o q]at e;cases e;exact absurd rfl (hu o)
def S8(e:del H C b=some u):H b=some u/\C.lookup b=none:=by
 cases q:C.lookup b with
 |none=>rw[AZ q]at e;exact⟨e,rfl⟩
 |some o=>rw[CW q]at e;cases e
def De.del(x:De P w H h)(n:∀c o,C.lookup c=some o->H c=some (AO c o)):De P w (del H C) h:=λb u e=>by
 obtain⟨e1,e2⟩:=S8 e;exact(x b u e1).stay (λ_ _ _ q=>q) (λc q=>By n (λo z=>by cases z) q) λc xs q=>By n (λo z=>by cases z) q
def De.put(x:De P w H h)(n:∀c o,C.lookup c=some o->H c=none/\h.get? c=some o):De P w (put H C) h:=λb u e=>by
 have n1:∀c o,C.lookup c=some o->H c=none:=λc o q=>(n c o q).1;cases q:C.lookup b with
 |none=>
  rw[AW q]at e;exact(x b u e).stay (λ_ _ _ q=>q) (λc q=>CL n1 q) λc xs q=>CL n1 q
 |some o=>
  rw[DW q]at e;cases e;exact⟨(n b o q).2,o,(n b o q).2⟩
def Un.back(u:Un fs [] (del H C) H' h h')(n:∀c o,C.lookup c=some o->H c=some (AO c o)):Un fs [] H (L2.put H' C) h h':=by
 have dn:∀b,H b=none->del H C b=none/\C.lookup b=none:=λb e=>by
  cases q:C.lookup b with
  |none=>exact⟨by rw[AZ q];exact e,rfl⟩
  |some o=>rw[n b o q]at e;cases e
 have go:∀{b:Addr}{u v:HO},H b=some u->(∀o,u≠AO b o)->(del H C b=some u->H' b=some v)->L2.put H' C b=some v:=λ{b u v} e hu k=>by
  cases q:C.lookup b with
  |none=>rw[AW q];exact k (by rw[AZ q];exact e)
  |some o=>rw[n b o q]at e;cases e;exact absurd rfl (hu o)
 refine⟨λb o e z h1 h2=>u.keep b o e (dn b z).1 h1 h2,λb o e z h1 h2=>u.slot b o e (dn b z).1 h1 h2,λb o e z h2=>by rw[AW (dn b z).2];exact u.free b o e (dn b z).1 h2,u.there,
  λb xs e=>go e (λo z=>by cases z) λq=>u.tups b xs q,λb o xs e=>?_,λb ps e=>?_⟩
 ·cases q:C.lookup b with
  |none=>rw[AW q];exact u.frzs b o xs (by rw[AZ q];exact e)
  |some o'=>rw[n b o' q]at e;cases e;exact DW q
 cases q:C.lookup b with
 |none=>
  obtain⟨m,e1⟩:=u.tbls b ps (by rw[AZ q];exact e);exact⟨m,by rw[AW q];exact e1⟩
 |some o=>rw[n b o q]at e;cases e
def Un.forth(u:Un fs [] (L2.put H C) H' h h')(n:∀c o,C.lookup c=some o->H c=none/\h.get? c=some o)(hok:De P w H' h')(n': ∀c o,C.lookup c=some o->H' c=some (AO c o))(nf:∀c o,C.lookup c=some o->c∉fs):Un fs [] H (del H' C) h h':=by
 have n1:∀c o,C.lookup c=some o->H c=none:=λc o q=>(n c o q).1;refine⟨λb o e z h1 h2=>?_,λb o e z h1 h2=>?_,λb o e z h2=>?_,u.there,λb xs e=>?_,λb o xs e=>?_,λb ps e=>?_⟩
 ·cases q:C.lookup b with
  |none=>exact u.keep b o e (by rw[AW q];exact z) h1 h2
  |some o'=>
   have e1:=(n b o' q).2;rw[e]at e1;cases e1;exact(hok b _ (n' b o q)).1
 ·cases q:C.lookup b with
  |none=>exact u.slot b o e (by rw[AW q];exact z) h1 h2
  |some o'=>exact absurd h1 (nf b o' q)
 ·cases q:C.lookup b with
  |none=>rw[AZ q];exact u.free b o e (by rw[AW q];exact z) h2
  |some o'=>exact CW q
 ·exact By n' (λo z=>by cases z) (u.tups b xs (CL n1 e))
 ·cases q:C.lookup b with
  |none=>rw[AZ q];exact u.frzs b o xs (CL n1 e)
  |some o'=>rw[n1 b o' q]at e;cases e
 obtain⟨m,e1⟩:=u.tbls b ps (CL n1 e);exact⟨m,By n' (λo z=>by cases z) e1⟩
end
theorem Nr{α β:Type}[BEq α][LawfulBEq α]:∀{l:List (α×β)}{y:α}{u:β},(l.map (·.1)).Nodup->(y,u)∈l->l.lookup y=some u
 |[],_,_,_,h=>by simp at h
 |(a,b)::l,y,u,nd,h=>by
  rw[aF]at nd;obtain⟨n1,n2⟩:=bT.mp nd;rw[bH];rcases aR.mp h with e|h
  ·cases e;simp
  have:y≠a:=λz=>n1 (by rw[←z];exact bY (f:=(·.1)) h);rw[show(y ==a)=false from bG.mpr this];exact Nr n2 h
theorem I0{α β:Type}:∀{l:List α}{m:List β}{i:Nat}{a:α}{b:β},l[i]?=some a->m[i]?=some b->(a,b)∈l.zip m
 |[],_,_,_,_,h,_=>by simp at h
 |_::_,[],_,_,_,_,h=>by simp at h
 |x::l,y::m,i,a,b,h1,h2=>by
  rw[bF];cases i with
  |zero=>simp at h1 h2;subst h1 h2;exact aG
  |succ i=>exact aC _ (I0 (i:=i) (by simpa using h1) (by simpa using h2))
theorem JG{α β:Type}:∀{l:List α}{m:List β},((l.zip m).map (·.1)).Sublist l
 |[],_=>by simp
 |_::_,[]=>by simp
 |x::l,y::m=>by rw[bF,aF];exact JG.cons_cons x
structure Hc(N xs ps:List Str)(sc:Scope)(cl:List (Str×Addr)):Prop where
 kind:sc.kind=.function
 co:sc.isCoroutine=false
 gen:sc.isGenerator=false
 nd:N.Nodup
 app:N=xs++ps
 par:∀x∈ps,sc.names.lookup x=some .local
 cap:∀x∈xs,sc.names.lookup x=some .free
 nocell:∀y∈sc.names,y.2≠ .cell
 has:∀x,sc.names.lookup x=some .free->∃c,cl.lookup x=some c
 inj:∀x y c,cl.lookup x=some c->cl.lookup y=some c->x=y
noncomputable def ZX(P:Program)(w:World)(K:PySem.W.Frag)(mg:Str->Option Value)(base:Heap)(N:List Str)(qual:Str)(scope:Scope)(f:Addr)(cd:Value)(cl:List (Str×Addr))(A:Around)(outer:List Env)(s:Shared)(H:Hp):Cx where
 prog:=P
 w:=w
 K:=K
 mg:=mg
 base:=base
 A:=A.deeper (PySem.W.envX qual scope s.heap.objs.size f cd cl)
 N:=N
 s₀:=s
 H₀:=H
 env:=PySem.W.envX qual scope s.heap.objs.size f cd cl
 outer:=outer
 stack:=PySem.W.envX qual scope s.heap.objs.size f cd cl::outer
 ex:=[]
 calm:=true
 fn:=λ_=>false
 pn:=[]
 xe:=λ_ _=>False
def Ve{P:Program}{w:World}{K:Fq}{mg:Mq}{base:Heap}{N xs ps:List Str}{qual:Str}{scope:Scope}{f:Addr}{cd:Value}{cl:Cq}{A:Around}{outer:List Env}{s:Shared}{H:Hp}{us:List Value}{cvs vs:List V}{h1:Heap}{tk:Tok}
 (S:Hc N xs ps scope cl)(hd:A.handled=none)(e0:Hf P w K mg base A outer s H)(hc:cvs.length=xs.length)(hl:vs.length=ps.length)(r:Al vs us)
 (hcap:∀(i:Nat) (x:Str) (v:V),xs[i]?=some x->cvs[i]?=some v->∃c u,cl.lookup x=some c/\As v u/\s.heap.IsCell c (some u))
 (hall:∀x c,cl.lookup x=some c->(∃v,s.heap.IsCell c v)/\H c=none)
 (ns:h1.Ns s.heap.objs.size λx=>(ps.zip us).reverse.lookup x)(hk:∀b o,s.heap.get? b=some o->h1.get? b=some o) :
 Af (ZX P w K mg base N qual scope f cd cl A outer s H) [] (B4 N (cvs++vs)) H {s with heap:=h1,toks:=tk}:=by
 have noA:∀b:Addr,b∉(ZX P w K mg base N qual scope f cd cl A outer s H).ex:=λb z=>absurd (show b∈([]:List Addr) from z) (by simp);have ck:∀{c v},s.heap.IsCell c v->h1.IsCell c v:=λ⟨o,ho,hd⟩=>⟨o,hk _ _ ho,hd⟩;refine⟨⟨e0.mod,S.kind,rfl,rfl,aH _,λy z c h1 h2=>S.inj y z c h1 h2,λy hy=>?_,λy c z h=>(by cases z),λ_=>hd,Around.frames_deeper e0.frames,.inr ⟨rfl,rfl⟩,λb z=>absurd z (noA b),e0.bs,e0.bsz,λb _ _=>noA b,λb z=>absurd z (noA b),e0.funs,e0.frf⟩,
  rfl,e0.bare,Un.kept hk,⟨_,ns,λi y v h1 h2 h3=>?_⟩,λy c h=>?_,e0.hok.fresh (aH _),λy c h=>(hall y c h).2,λp hp=>absurd (show p∈([]:Pq) from hp) (by simp),e0.hok.kept hk,?_⟩
 ·have hy:scope.names.lookup y=some .cell\/scope.names.lookup y=some .free:=hy;rcases hy with hy|hy
  ·exact absurd rfl (S.nocell _ (PySem.mem_of_lookup hy))
  exact S.has y hy
 ·have hi:i<(cvs++vs).length:=by
   unfold B4 at h2;by_cases hi:i<(cvs++vs).length
   ·exact hi
   rw[aS (by simpa using hi),cG]at h2;split at h2<;>cases h2
  have ha:(cvs++vs)[i]?=some v:=by
   unfold B4 at h2;rw[aL (by simpa using hi),aJ]at h2;cases e:(cvs++vs)[i]? with
   |none=>rw[e]at h2;cases h2
   |some a=>rw[e]at h2;cases h2;rfl
  have hN:(xs++ps)[i]?=some y:=by rw[←S.app];exact h1
  by_cases hx:i<xs.length
  ·rw[aL hx]at hN;rw[aL (by lia)]at ha;obtain⟨c,u,e1,e2,e3⟩:=hcap i y v hN ha;exact⟨u,e2,.inr ⟨.inr (S.cap y (aQ hN)),c,e1,ck e3⟩⟩
  rw[aS (by lia)]at hN;rw[aS (by lia),hc]at ha;obtain⟨u,hu,rv⟩:=r.get ha;have ndP:ps.Nodup:=by have:=S.nd;rw[S.app]at this;exact this.sublist (eZ _ _)
  refine⟨u,rv,.inl ⟨S.par y (aQ hN),?_⟩⟩;show(ps.zip us).reverse.lookup y=some u;refine Nr ?_ (List.mem_reverse.mpr (I0 hN hu));rw[List.map_reverse];exact List.pairwise_reverse.mpr ((ndP.sublist JG).imp λh=>bN h)
 ·obtain⟨⟨v,z⟩,_⟩:=hall y c h;exact⟨v,ck z⟩
 unfold B4;show _=N.length;rw[aM,aI,cZ,S.app,aM,aM]
 lia
def UY{P:Program}{w:World}{K:Fq}{mg:Mq}{base:Heap}{N xs ps:List Str}{name qual:Str}{params:Arguments}{body:Expr}{scope:Scope}{f c':Addr}{oc:Obj}{pm ctv:Value}{cl:Cq}{A:Around}{outer:List Env}{s:Shared}{H:Hp}{us:List Value}{cvs vs:List V}{C:Pq}{Q:VK}{E:XK}{k:Nat}
 (hr:Bi k A)(e0:Hf P w K mg base A outer s H)(hf:H f=some (AO f (PySem.W.kla_obj name qual params body scope cl pm c' ctv)))(hcd:H c'=some (AO c' oc))(hoc:∃vs t,oc.data=.fields vs/\vs[1]?=some (.str qual t))
 (hC:∀c o,C.lookup c=some o->H c=some (AO c o))(hcl:∀x c,cl.lookup x=some c->∃o v,C.lookup c=some o/\o.data=.cell v)(S:Hc N xs ps scope cl)
 (hcap:∀(i:Nat) (x:Str) (v:V),xs[i]?=some x->cvs[i]?=some v->∃c u o,cl.lookup x=some c/\As v u/\C.lookup c=some o/\o.data=.cell (some u))
 (hb:bindArgs (PySem.W.kla_fn name qual params body scope cl pm (.ref c') ctv) ⟨us,[]⟩=pure (ps.zip us))(hc:cvs.length=xs.length)(hl:vs.length=ps.length)(r:Al vs us)
 (hbody:∃t,PE (ZX P w K mg base N qual scope f (.ref c') cl A outer s (del H C)) body t/\t (B4 N (cvs++vs)) (del H C) λv H'=>(∀c o,C.lookup c=some o->H' c=none)->Q v (put H' C)) :
 codeAny (model P w) A (.call (.ref f) ⟨us,[]⟩) (CR Ol outer P w H s Q E) s:=by
 have lim:s.heap.NoLimit:=e0.mod.nolimit.keeps λb o e=>(e0.bs b o e).1;have at_:∀{a:Addr}{o:Obj},H a=some (AO a o)->s.heap.get? a=some o:=λ{a o} e=>(e0.hok a _ e).1;have hrec:s.heap.CodeRec (.ref c') qual:=by
  obtain⟨vs,t,h1,h2⟩:=hoc;exact⟨c',oc,vs,t,rfl,at_ hcd,h1,h2⟩
 have e1:Hf P w K mg base A outer s (del H C):=by
  have dn:∀b,H b=none->del H C b=none:=λb e=>by
   cases q:C.lookup b with
   |none=>rw[AZ q];exact e
   |some o=>exact CW q
  exact⟨e0.frames,e0.mod,λb o e=>⟨(e0.bs b o e).1,dn b (e0.bs b o e).2⟩,e0.bsz,e0.funs,λb hb=>dn b (e0.frf b hb),e0.hok.del hC,e0.bare⟩
 obtain⟨t,ht,hq⟩:=hbody;refine PySem.W.kla_callFunE hr.depth (at_ hf) rfl S.co S.gen rfl hrec ?_;rw[hb];refine aO (wpAny_newFunctionEnv S.nocell (λy hy=>S.par y.1 (dB (a:=y.1) (b:=y.2) hy).1) (λh₁ hns hsb=>⟨lim.fresh _ hsb,?_⟩) S.kind);show codeAny _ _ (.expr body (PySem.W.envX qual scope s.heap.objs.size f (.ref c') cl)) _ _;have hk₁:∀b o,s.heap.get? b=some o->h₁.get? b=some o:=λb o e=>hsb.extBut b o (aX (aN e)) (aD _ e);have I:Af (ZX P w K mg base N qual scope f (.ref c') cl A outer s (del H C)) [] (B4 N (cvs++vs)) (del H C) {s with heap:=h₁,toks:=s.toks+(ps.zip us).length}:=by
  refine Ve S hr.hd e1 hc hl r (λi x v h1 h2=>?_) (λx c h=>?_) hns hk₁
  ·obtain⟨c,u,o,e1,e2,e3,e4⟩:=hcap i x v h1 h2;exact⟨c,u,e1,e2,o,at_ (hC c o e3),e4⟩
  obtain⟨o,v,e3,e4⟩:=hcl x c h;exact⟨⟨v,o,at_ (hC c o e3),e4⟩,CW e3⟩
 refine PySem.W.kla_codeExpr (cC (ht [] _ _ _ _ I hq) (λu s' ⟨v,H',J,rv,q⟩=>?_) λ_ _ z=>z.elim);have nf:∀c o,C.lookup c=some o->c∉KL outer:=λc o e z=>by have:=e0.frf c z;rw[hC c o e]at this;cases this
 have J1:Un (KL outer) [] (del H C) H' s.heap s'.heap:=J.base;exact⟨v,put H' C,J.os,J.bare,Un.back J1 hC,J.hok.put λc o e=>⟨J1.free c o (at_ (hC c o e)) (CW e) (by simp),J1.keep c o (at_ (hC c o e)) (CW e) (nf c o e) (by simp)⟩,rv,q λc o e=>J1.free c o (at_ (hC c o e)) (CW e) (by simp)⟩
theorem Mf:∀{l:List (Str×NameKind)}{cs:Cq},(∀y∈l,y.2=.free->∃c,env.cells.lookup y.1=some c)->∃cl:List (Str×Addr),(forIn l cs λy r=>(if (y.2== .free)=true then(do let c ←cellOf env y.1;pure (ForInStep.yield ((y.1,c)::r))) else(pure (ForInStep.yield r):Sem _)))=(pure cl:Sem _)/\
 (∀p∈cl,p∈cs\/env.cells.lookup p.1=some p.2)/\(∀p∈cs,p∈cl)/\∀y∈l,y.2=.free->∃c,(y.1,c)∈cl
 |[],cs,_=>⟨cs,rfl,λp hp=>.inl hp,λp hp=>hp,λy hy=>by simp at hy⟩
 |(n,k)::l,cs,h=>by
  rw[eY];by_cases hk:k=.free
  ·obtain⟨c,hc⟩:=h (n,k) aG hk;obtain⟨cl,e,h1,h2,h3⟩:=Mf (cs:=(n,c)::cs) λy hy=>h y (aC _ hy);refine⟨cl,?_,λp hp=>?_,λp hp=>h2 p (aC _ hp),λy hy hf=>?_⟩
   ·have e1:cellOf env n=pure c:=by unfold cellOf;rw[show env.cells.lookup n=some c from hc]
    simp only[hk,beq_self_eq_true,if_true,e1,pure_bind];exact e
   ·rcases h1 p hp with z|z
    ·rcases aR.mp z with rfl|z
     ·exact .inr hc
     exact .inl z
    exact .inr z
   rcases aR.mp hy with rfl|hy
   ·exact⟨c,h2 _ aG⟩
   exact h3 y hy hf
  obtain⟨cl,e,h1,h2,h3⟩:=Mf (cs:=cs) λy hy=>h y (aC _ hy);refine⟨cl,?_,h1,h2,λy hy hf=>?_⟩
  ·have hb:(k ==NameKind.free)=false:=by cases k<;>first|rfl|(exact absurd rfl hk)
   simp only[hb,Bool.false_eq_true,if_false,pure_bind];exact e
  rcases aR.mp hy with rfl|hy
  ·exact absurd hf hk
  exact h3 y hy hf
theorem F8{α:Type}:∀{l:List (Str×α)}{x:Str}{c:α},(x,c)∈l->∃c',l.lookup x=some c'
 |[],_,_,h=>by simp at h
 |(a,b)::l,x,c,h=>by
  rw[bH];by_cases e:x ==a
  ·rw[e];exact⟨b,rfl⟩
  have e:(x ==a)=false:=by simpa using e
  rw[e];rcases aR.mp h with z|z
  ·cases z;simp at e
  exact F8 z
def Mx(h:∀y∈scope.names,y.2=.free->∃c,env.cells.lookup y.1=some c):∃cl,closureFor scope env=pure cl/\(∀p∈cl,env.cells.lookup p.1=some p.2)/\∀x,scope.names.lookup x=some .free->∃c,cl.lookup x=some c:=by
 obtain⟨cl,e,h1,_,h3⟩:=Mf (cs:=[]) h;refine⟨cl,?_,λp hp=>?_,λx hx=>?_⟩
 ·unfold closureFor;simp only[pure_bind];have:(forIn scope.names ([]:Cq) λy r=>(if (y.2== .free)=true then(do let c ←cellOf env y.1;pure (ForInStep.yield ((y.1,c)::r))) else(pure (ForInStep.yield r):Sem _)))=pure cl:=e;rw[show(λx __s=>_)=(λy r=>(if (y.2== .free)=true then(do let c ←cellOf env y.1;pure (ForInStep.yield ((y.1,c)::r))) else(pure (ForInStep.yield r):Sem _))) from ?_,this,pure_bind]
  funext y r
  rfl
 ·rcases h1 p hp with z|z
  ·simp at z
  exact z
 obtain⟨c,hc⟩:=h3 (x,.free) (PySem.mem_of_lookup hx) rfl;exact F8 hc
def Lp(H:Hp)(qual:Str)(pos:Pos)(ps:Array Value):Prop:=TriplesOk ps.toList/\(codeAmong pos ps.toList=none\/E4 λc' oc vs t=>A4 (codeAmong pos ps.toList=some (.ref c')) (H c'=some (AO c' oc)) (oc.data=.fields vs) (vs[1]?=some (.str qual t)))
section
def YA(I:Af X pins σ H s)(hdef:defaultsOf params X.env=([],[]))(hfree:∀y∈scope.names,y.2=.free->∃c,X.env.cells.lookup y.1=some c)
 (hcode:X.env.code=.ref c)(Cd:PySem.W.CodeHd X.base c P)(hP:H P=some (.tbl ps))(ht:Lp H (X.env.qual++ "<lambda>") pos ps)(hbm:X.base.BuiltinsAt X.mg P)(hg:X.base.Ns mainGlobals X.mg)(hgP:mainGlobals≠P)
 (q:∀f c' oc ctv cl H' s' ps',Af X pins σ H' s'->(∀b u,H b=some u->b≠P->H' b=some u)->H f=none->H' P=some (.tbl ps')->Lp H' (X.env.qual++ "<lambda>") pos ps'->
   H' f=some (AO f (PySem.W.kla_obj "<lambda>" (X.env.qual++ "<lambda>") params body scope cl ((X.mg "__name__").getD .none) c' ctv))->H' c'=some (AO c' oc)->(∃vs t,oc.data=.fields vs/\vs[1]?=some (.str (X.env.qual++ "<lambda>") t))->closureFor scope X.env=pure cl->
   (∀p∈cl,X.env.cells.lookup p.1=some p.2)->(∀x,scope.names.lookup x=some .free->∃c,cl.lookup x=some c)->Q (.ref f) s') :
 wpAny (model X.prog X.w) X.A (eval (.Lambda params body scope pos) X.env) Q X.xe s:=by
 obtain⟨cl,hcl,k1,k2⟩:=Mx hfree;have hPh:=I.hok P _ hP;have hb:s.heap.BuiltinsAt X.mg P:=by
  obtain⟨bm,o,b1,b2,b3,b4,b5,b6⟩:=hbm;exact⟨bm,o,b1,b2,b3,b4,I.bk _ _ b5,b6⟩
 refine PySem.W.kla_eval hdef ?_;rcases ht with⟨t1,t2|⟨c',oc,vs,t,t2,t3,t4,t5⟩⟩
 ·refine PySem.W.kla_makeFunction hcl I.ok.glob (hg.keeps I.bk) hcode (Cd.keeps I.bk) hPh t1 t2 hgP hb λc' ctv h' tk hx hge hlt hrec htb=>?_;obtain⟨c₂,oc,vs,t,e2,hoc,hd,hv⟩:=hrec;cases e2;have hne:∀b,(∃u,H b=some u)->b≠c'/\b≠h'.objs.size:=λb ⟨u,e⟩=>⟨aX (aW (I.hok.lt e) hge),aX (aW (I.hok.lt e) (eP (gF hge hlt)))⟩;have hf0:=I.hok.fresh (eP (gF hge hlt));have hcf:=aX hlt;have hPc:=hne P ⟨_,hP⟩;have H'P:∀{o1 o2:HO},upd (upd (upd H P (.tbl (ps++ #[rawInt pos.line,rawInt pos.col,.ref c']))) c' o1) h'.objs.size o2 P=some (.tbl (ps++ #[rawInt pos.line,rawInt pos.col,.ref c'])):=λ{o1 o2}=>by rw[Ab hPc.2,Ab hPc.1,Ac]
  have H'o:∀{o1 o2:HO}{b:Addr}{u:HO},H b=some u->b≠P->upd (upd (upd H P (.tbl (ps++ #[rawInt pos.line,rawInt pos.col,.ref c']))) c' o1) h'.objs.size o2 b=some u:=λ{o1 o2 b u} e n=>by
   have:=hne b ⟨u,e⟩;rw[Ab this.2,Ab this.1,Ab n];exact e
  have kp:∀b o,b≠P->s.heap.get? b=some o->(h'.push (PySem.W.kla_obj "<lambda>" (X.env.qual++ "<lambda>") params body scope cl ((X.mg "__name__").getD .none) c' ctv)).get? b=some o:=λb o n e=>aD _ (hx b o n e);have nP:∀b,H b=none->b≠P:=λb e z=>by rw[z,hP]at e;cases e
  refine q h'.objs.size c' oc ctv cl (upd (upd (upd H P (.tbl (ps++ #[rawInt pos.line,rawInt pos.col,.ref c']))) c' (AO c' oc)) h'.objs.size (AO h'.objs.size (PySem.W.kla_obj "<lambda>" (X.env.qual++ "<lambda>") params body scope cl ((X.mg "__name__").getD .none) c' ctv))) _ (ps++ #[rawInt pos.line,rawInt pos.col,.ref c'])
   (I.un ⟨λb o e n _ _=>kp b o (nP b n) e,λb o e n _ _=>⟨o.slots,kp b o (nP b n) e⟩,λb o e n _=>?_,λb o e _=>?_,λb xs e=>H'o e (λz=>by rw[z,hP]at e;cases e),λb o xs e=>H'o e (λz=>by rw[z,hP]at e;cases e),λb qs e=>?_⟩ λb u e=>?_)
   (λb u e n=>H'o e n) hf0 H'P ⟨?_,.inr ⟨c',oc,vs,t,?_,by rw[Ab hcf,Ac],hd,hv⟩⟩ Ac (by rw[Ab hcf,Ac]) ⟨vs,t,hd,hv⟩ hcl k1 k2
  ·have lt:=aN e;rw[Ab (aX (aW lt (eP (gF hge hlt)))),Ab (aX (aW lt hge)),Ab (nP b n)];exact n
  ·by_cases hbP:b=P
   ·subst hbP;exact⟨_,aD _ htb⟩
   exact⟨o,kp b o hbP e⟩
  ·by_cases hbP:b=P
   ·subst hbP;rw[hP]at e;cases e;exact⟨_,H'P⟩
   exact⟨#[],by rw[H'o e hbP];simp⟩
  ·by_cases b1:b=h'.objs.size
   ·subst b1;rw[Ac]at e;cases e;exact⟨aK _ rfl,_,aK _ rfl⟩
   rw[Ab b1]at e;by_cases b2:b=c'
   ·subst b2;rw[Ac]at e;cases e;exact⟨aD _ hoc,_,aD _ hoc⟩
   rw[Ab b2]at e;by_cases b3:b=P
   ·subst b3;rw[Ac]at e;cases e;exact aD _ htb
   rw[Ab b3]at e;refine(I.hok b u e).stay (λc v hc r=>kp c v (λz=>?_) r) (λc r=>H'o r λz=>by rw[z,hP]at r;cases r) λc xs r=>H'o r λz=>by rw[z,hP]at r;cases r
   rcases hc with hc|hc
   ·exact b3 (hc▸z)
   rw[z,hP]at hc;cases hc
  ·rw[Array.toList_append];exact TriplesOk_snoc _ _ _ _ t1
  rw[Array.toList_append];exact codeAmong_snoc _ t1 t2
 refine PySem.W.kla_makeFunctionHit hcl I.ok.glob (hg.keeps I.bk) hcode (Cd.keeps I.bk) hPh t1 t2 hb λctv h' tk hk hsz=>?_;have hf0:=I.hok.fresh hsz;have H'o:∀{o2:HO}{b:Addr}{u:HO},H b=some u->upd H h'.objs.size o2 b=some u:=λ{o2 b u} e=>by rw[Ab (Ao e hf0)];exact e
 refine q h'.objs.size c' oc ctv cl (upd H h'.objs.size (AO h'.objs.size (PySem.W.kla_obj "<lambda>" (X.env.qual++ "<lambda>") params body scope cl ((X.mg "__name__").getD .none) c' ctv))) _ ps
  (I.laid (λb o e=>aD _ (hk b o e)) hsz ⟨aK _ rfl,_,aK _ rfl⟩) (λb u e _=>H'o e) hf0 (H'o hP) ⟨t1,.inr ⟨c',oc,vs,t,t2,H'o t3,t4,t5⟩⟩ Ac (H'o t3) ⟨vs,t,t4,t5⟩ hcl k1 k2
end
structure Ts where
 qual:Str
 params:Arguments
 body:Expr
 scope:Scope
 xs:List Str
 ps:List Str
noncomputable abbrev lamO(l:Ts)(cl:List (Str×Addr))(pm:Value)(c':Addr)(ctv:Value):Obj:=PySem.W.kla_obj "<lambda>" l.qual l.params l.body l.scope cl pm c' ctv
structure PH(l:Ts)(oc:Obj)(cl:List (Str×Addr))(C:List (Addr×Obj))(cvs:List V):Prop where
 code:∃vs t,oc.data=.fields vs/\vs[1]?=some (.str l.qual t)
 cells:∀x c,cl.lookup x=some c->∃o v,C.lookup c=some o/\o.data=.cell v
 sc:Hc (l.xs++l.ps) l.xs l.ps l.scope cl
 cap:∀(i:Nat) (x:Str) (v:V),l.xs[i]?=some x->cvs[i]?=some v->∃c u o,cl.lookup x=some c/\As v u/\C.lookup c=some o/\o.data=.cell (some u)
 len:cvs.length=l.xs.length
 all:∀c o,C.lookup c=some o->∃v,o.data=.cell v
structure JB(l:Ts)(H:Hp)(f c':Addr)(oc:Obj)(pm ctv:Value)(cl:List (Str×Addr))(C:List (Addr×Obj)):Prop where
 fn:H f=some (AO f (lamO l cl pm c' ctv))
 cd:H c'=some (AO c' oc)
 cs:∀c o,C.lookup c=some o->H c=some (AO c o)
def JB.same(x:JB l H f c' oc pm ctv cl C)(s:Am H H'):JB l H' f c' oc pm ctv cl C:=⟨s _ _ x.fn,s _ _ x.cd,λc o e=>s _ _ (x.cs c o e)⟩
def ZI(l:Ts):Prop:=∀(cl:List (Str×Addr)) (pm cdv ctv:Value) (us:List Value),us.length=l.ps.length->bindArgs (PySem.W.kla_fn "<lambda>" l.qual l.params l.body l.scope cl pm cdv ctv) ⟨us,[]⟩=pure (l.ps.zip us)
def cj(l:Ts)(i:Nat)(ta:TA)(tb:TE):TE:=λσ H Q=>E8 λf c' oc pm ctv cl C cvs=>A3 (σ[i]?=some (some (.ref f))) (PH l oc cl C cvs) (ta σ H λvs H1=>JB l H1 f c' oc pm ctv cl C/\vs.length=l.ps.length/\tb (B4 (l.xs++l.ps) (cvs++vs)) (del H1 C) λr H'=>(∀c o,C.lookup c=some o->H' c=none)->Q r (put H' C))
def UF{i j:Nat}{x:Str}(hN:X.N[i]?=some x)(hv:W5 X.env.scope x)(hd:(x ==("__debug__" :Str))=false)(hcd:(x ==("__classdict__" :Str))=false)(hr:Bi (j+1) X.A)(hB:ZI l)
 (hb:∀f c' cl A outer s H,Hc (l.xs++l.ps) l.xs l.ps l.scope cl->Bi j (A.deeper (PySem.W.envX l.qual l.scope s.heap.objs.size f (.ref c') cl))->PE (ZX X.prog X.w X.K X.mg X.base (l.xs++l.ps) l.qual l.scope f (.ref c') cl A outer s H) l.body tb)
 (ha:PA X (e::es) ta)(he:starEach (e::es) X.env=(false,eval e X.env)::starEach es X.env)(hpl:(backTo pos (starEach es X.env)).any (·.1)=false):PE X (.Call (.Name x p) (e::es) [] pos) (cj l i ta tb):=by
 intro pins s σ H Q I ⟨f,c',oc,pm,ctv,cl,C,cvs,hσ,kk,h⟩;refine c8 (AR (EV hN hv hd hcd pins s σ H (λv H'=>v=.ref f/\H'=H) I ⟨_,hσ,rfl,rfl⟩) λu s1 ⟨v,H1,I1,rv,ev,eH⟩=>?_);subst ev eH;obtain rfl:u=Value.ref f:=rv;have key:wpAny (model X.prog X.w) X.A (spliced (backTo pos (starEach (e::es) X.env))) (λus s2=>s2.heap.get? f=some (lamO l cl pm c' ctv)/\wpAny (model X.prog X.w) X.A (call (.ref f) ([]++us)) (EP X pins σ Q) X.xe s2) X.xe s1:=by
  refine AR (ha pos pins s1 σ H1 _ I1 h) λus s2 ⟨vs,H2,I2,r,lh,hl,hq⟩=>⟨(I2.hok f _ lh.fn).1,?_⟩;refine fP (eD (UY (E:=λ_ _ _=>False) (Q:=Q) hr I2.env0 lh.fn lh.cd kk.code lh.cs kk.cells kk.sc kk.cap (hB _ _ _ _ us (by rw[←r.length];exact hl)) kk.len hl r ⟨tb,hb f c' cl X.A X.stack s2 _ kk.sc (hr.deeper _),hq⟩) λrs s' hq=>?_)
  match rs,hq with
  |.ok (.ret u),hq=>exact I2.after hq
  |.ok .next,hq=>exact hq.elim
  |.ok .brk,hq=>exact hq.elim
  |.ok .cont,hq=>exact hq.elim
  |.error e,hq=>exact hq.elim
 show wpAny (model X.prog X.w) X.A (callWith pos (.ref f) [] (backTo pos (starEach (e::es) X.env)) []) _ _ _;rw[he]at key ⊢;exact PySem.W.callWith_of (P:=λh=>h.get? f=some (lamO l cl pm c' ctv)) (by show((false||(backTo pos (starEach es X.env)).any (·.1))||false)=false;rw[hpl];rfl)
  (λh z=>PySem.W.keeps_K (K:=[(f,lamO l cl pm c' ctv)]) (by unfold PySem.W.keepIn;simp[List.lookup]) h (λb o e=>by
    rw[bH]at e;split at e
    ·rename_i hb;obtain rfl:=aP.mp hb;cases e;exact z
    cases e)) (fW key)
structure Iy(X:Cx)(H:Hp)(s:Shared)(C:List (Addr×Obj)):Prop where
 at_:∀c o,C.lookup c=some o->H c=none/\s.heap.get? c=some o
 up:∀c o,C.lookup c=some o->X.s₀.heap.objs.size<=c/\c≠X.env.locals
 cl:∀c o,C.lookup c=some o->∃v,o.data=.cell v
def Iy.nf(I:Af X pins σ H s)(cs:Iy X H s C):∀c o,C.lookup c=some o->c∉KL X.stack:=λc o e z=>by
 obtain⟨h1,h2⟩:=cs.up c o e;rcases aR.mp (I.stkSub c z) with q|q
 ·exact h2 q
 obtain⟨_,ob,ho,_⟩:=I.ok.funs.mem q;exact absurd (aW (aN ho) h1) (cR _)
theorem Iy.env0(I:Af X pins σ H s)(cs:Iy X H s C):Hf X.prog X.w X.K X.mg X.base X.A X.stack s (put H C):=by
 have e0:=I.env0;refine⟨e0.frames,e0.mod,λb o e=>⟨(e0.bs b o e).1,?_⟩,e0.bsz,e0.funs,λb hb=>?_,e0.hok.put cs.at_,e0.bare⟩
 ·cases q:C.lookup b with
  |none=>rw[AW q];exact(e0.bs b o e).2
  |some o'=>exact absurd (aW (aN e) (aV I.ok.bsz (cs.up b o' q).1)) (cR _)
 cases q:C.lookup b with
 |none=>rw[AW q];exact e0.frf b hb
 |some o'=>exact absurd hb (cs.nf I b o' q)
def Ui{k:Nat}(F:D6 X.prog X.w X.K X.mg X.base Ol k f fd ps sp)(hr:Bi k X.A)(hb:BF X.K fd ps [])
 (I:Af X pins σ H s)(cs:Iy X H s C)(r:Al vs us)
 (h:sp vs (put H C) (λv H'=>(∀c o,C.lookup c=some o->H' c=some (AO c o))->Q v (del H' C)) E0):wpAny (model X.prog X.w) X.A (call (.ref f) us) (EP X pins σ Q) X.xe s:=by
 have hl:(us++ []).length=ps.length:=by rw[dD,←r.length];exact F.len _ _ _ _ h
 have hb2:=hb s us I.kIn hl;rw[dD]at hb2;refine fP (eD (F.run X.A X.stack s (put H C) ⟨us,[]⟩ us vs _ _ hr (cs.env0 I) hb2 r h) λrs s' hq=>?_)
 match rs,hq with
 |.ok (.ret u),hq=>
  obtain⟨v,H',os,bare,un,hok,rv,q⟩:=hq;have n': ∀c o,C.lookup c=some o->H' c=some (AO c o):=λc o e=>un.frzs c o _ (DW e);exact I.after ⟨v,del H' C,os,bare,un.forth cs.at_ hok n' (cs.nf I),hok.del n',rv,q n'⟩
 |.ok .next,hq=>exact hq.elim
 |.ok .brk,hq=>exact hq.elim
 |.ok .cont,hq=>exact hq.elim
 |.error e,hq=>exact hq.elim
structure qD(X:Cx)(params:Arguments)(body:Expr)(scope:Scope)(pos:Pos)(P:Addr)(H H':Hp)(f c':Addr)(oc:Obj)(ctv:Value)(cl:List (Str×Addr)):Prop where
 old:∀b u,H b=some u->b≠P->H' b=some u
 new:H f=none
 tab:∃ps',H' P=some (.tbl ps')/\Lp H' (X.env.qual++ "<lambda>") pos ps'
 fn:H' f=some (AO f (PySem.W.kla_obj "<lambda>" (X.env.qual++ "<lambda>") params body scope cl ((X.mg "__name__").getD .none) c' ctv))
 cd:H' c'=some (AO c' oc)
 code:∃vs t,oc.data=.fields vs/\vs[1]?=some (.str (X.env.qual++ "<lambda>") t)
 sub:∀p∈cl,X.env.cells.lookup p.1=some p.2
 has:∀x,scope.names.lookup x=some .free->∃c,cl.lookup x=some c
def Qv(X:Cx)(params:Arguments)(body:Expr)(scope:Scope)(pos:Pos)(P:Addr):TE:=λ_ H Q=>∃ps,H P=some (.tbl ps)/\Lp H (X.env.qual++ "<lambda>") pos ps/\∀H' f c' oc ctv cl,qD X params body scope pos P H H' f c' oc ctv cl->Q (.ref f) H'
def Yb(hdef:defaultsOf params X.env=([],[]))(hfree:∀y∈scope.names,y.2=.free->X.env.kindOf y.1=some .cell)(hcode:X.env.code=.ref c)(Cd:PySem.W.CodeHd X.base c P)(hbm:X.base.BuiltinsAt X.mg P)(hgP:mainGlobals≠P):PE X (.Lambda params body scope pos) (Qv X params body scope pos P):=by
 intro pins s σ H Q I ⟨ps,hP,ht,q⟩;exact YA I hdef (λy hy e=>I.ok.has y.1 (.inl (hfree y hy e))) hcode Cd hP ht hbm I.mod.glob hgP λf c' oc ctv cl H' s' ps' I' h1 h2 h3 h4 h5 h6 h7 h8 h9 h10=>⟨.ref f,H',I',rfl,q H' f c' oc ctv cl ⟨h1,h2,⟨ps',h3,h4⟩,h5,h6,h7,h9,h10⟩⟩
section
def P0(hc:X.calm=true):Bh X (.builtin "sum") (λxs H Q=>E2 λ(p:Addr) (ns:List Int)=>A3 (xs=[.ref p]) (D4 X.K H p (ns.map V.int)) (Q (.int ns.sum) H)):=by
 intro pins s σ H xs us Q I r h;obtain⟨p,ns,rfl,hq,q⟩:=h;obtain⟨u,rfl,ru⟩:=C5 r;cases ru;obtain⟨its,rv,pl,hz⟩:=I.list hq;have hi:=GJ rv;obtain⟨xs,ex⟩:=hi.allInts.items;have el:numsOf its=ns:=hi.numsOf;have hl:=pl.isList;rw[ex]at hl;have en:xs.toList.map (·.1)=ns:=by rw[←nums_intItems xs,←ex];exact el
 refine sum_intListG (I.ok.hd hc) hl λh' tk t' hk=>?_;rw[preSum_eq,eL (by simp),en];exact⟨.int _,H,I.kept (t':=tk) hk,⟨t',rfl⟩,q⟩
end
noncomputable def qI(lo:Int)(n:Nat):It:=⟨λi _=>i<n,λi H x H'=>H'=H/\x=.int (lo+i*2),λi _=>n<=i⟩
def JM{P:Program}{w:World}{K:Fq}{tg:Expr}(it:Addr)(lo:Int)(n:Nat):J6 P w K tg (qI lo n) [it] it (λi h=>IsRangeIter h it (lo+(i:Nat)*2) ((n:Int)-(i:Nat)) 2) where
 mem:=by simp
 obj:=λi h st b hb=>by
  have e:b=it:=by simpa using hb
  subst e;exact⟨_,st,λv z=>by
   have z':Data.fields _=Data.cell v:=z;cases z'⟩
 keep:=λi h h' st k=>k it (by simp) _ st
 item:=by
  intro X hP hw hK hc i pins s σ H E I hf st hg;subst hP hw hK;obtain⟨f0,f1,f2,f3,f4,f5⟩:=hf it (by simp);have W:=Walks.range (prog:=X.prog) (w:=X.w) (I.ok.hd hc) it lo 2 n;refine W.item i s _ _ hg st λv h' tk hv st' kk=>?_;obtain⟨t,rfl⟩:=hv;have I1:Af X pins σ H {s with heap:=h',toks:=tk}:=I.turned (λb o hb e=>kk b o (by simpa using hb) e) f0 f1 f3 f4 f5;exact⟨_,rfl,KI (s:={s with heap:=h',toks:=tk}) (n:= "range_iterator") st' rfl rfl (by decide) ⟨.int (lo+i*2),H,I1,⟨t,rfl⟩,⟨rfl,rfl⟩,st',λb hb=>(hf b hb).1⟩⟩
 done:=by
  intro X hP hw hK hc i pins s σ H E I hf st hg;subst hP hw hK;obtain⟨f0,f1,f2,f3,f4,f5⟩:=hf it (by simp);exact wpAny_pyNext_range_end (I.ok.hd hc) st (by have:n<=i:=hg;omega) λh' eb=>⟨rfl,I.turned (t':=s.toks) (λb o hb e=>eb b o hb e) f0 f1 f3 f4 f5⟩
 self:=λ_ _ _ _ _ st h=>wpAny_pyIter_rangeiter st h
section
def EI{i:Int}(h1: -(2^62)<=i)(h2:i<2^62):Builtin.Range.rangeFitsLong i=true:=by
 unfold Builtin.Range.rangeFitsLong;simp;omega
def JX{lo hi:Int}:Builtin.Range.rangeSize lo hi 2=(((hi-lo+1) / 2).toNat:Nat):=by
 unfold Builtin.Range.rangeSize;rw[if_pos (by decide)];split<;>omega
def Oy{lo hi:Int}(h1:0<=lo)(h2:lo<2^60)(h3:0<=hi)(h4:hi<2^60):Builtin.Range.small lo hi 2=true:=by
 unfold Builtin.Range.small;rw[JX,EI (i:=lo) (by omega) (by omega),EI (i:=hi) (by omega) (by omega),EI (i:=2) (by decide) (by decide),EI (i:=(((hi-lo+1) / 2).toNat:Nat)) (by omega) (by omega),if_pos (by decide),EI (i:=hi+(2-1)) (by omega) (by omega)];simp
def jk(ta:TA):TI:=λσ H R=>ta σ H λvs H1=>∃i j:Int,vs=[.int i,.int j,.int 2]/\(0<=i/\i<2^60/\0<=j/\j<2^60)/\R (qI i ((j-i+1) / 2).toNat) H1
def O5(hg:Gl X "range")(hm:X.mg "range"=none)(ha:PA X [a,b,c] ta)(hs:starEach [a,b,c] X.env=[(false,eval a X.env),(false,eval b X.env),(false,eval c X.env)]:=by rfl)(hs2:starEach [b,c] X.env=[(false,eval b X.env),(false,eval c X.env)]:=by rfl) :
 PI X tg (.Call (.Name "range" p) [a,b,c] [] pos) (jk ta):=by
 intro pins s σ H R I h;refine Call_ (Cz I hg hm boot_range (bZ (AR (ha pos pins s σ H _ I h) λus s1 ⟨vs,H1,I1,r1,q1⟩=>?_) (by rw[hs,hs2]) (by rw[hs2];rfl)));obtain⟨i,j,e,⟨q1,q2,q3,q4⟩,q⟩:=q1;subst e;obtain⟨u1,us,rfl,r,rr⟩:∃u1 us',us=u1::us'/\As (.int i) u1/\Al [.int j,.int 2] us':=by
  cases r1 with
  |cons r rr=>exact⟨_,_,rfl,r,rr⟩
 obtain⟨u2,u3,rfl,r',r''⟩:=Fw rr;obtain⟨t,rfl⟩:=r;obtain⟨t',rfl⟩:=r';obtain⟨t'',rfl⟩:=r'';refine call_range_3 (by decide) ?_ (.inl (PyProof.noPylong_small (by omega)));have I2:Af X pins σ H1 {s1 with heap:=s1.heap.push {cls:=.type "range",data:=.fields #[.int i t,.int j t',.int 2 t'']},toks:=s1.toks}:=I1.kept λb o e=>aD _ e;refine wpAny_pyIter_range (IsRange.new ..) (Oy q1 q2 q3 q4) ?_;refine⟨(s1.heap.push {cls:=.type "range",data:=.fields #[.int i t,.int j t',.int 2 t'']}).objs.size,[(s1.heap.push {cls:=.type "range",data:=.fields #[.int i t,.int j t',.int 2 t'']}).objs.size],_,_,H1,rfl,
  I2.kept (t':=s1.toks) λb o e=>aD _ e,JM _ i ((j-i+1) / 2).toNat,?_,λb hb=>?_,q⟩
 ·have e1:i+((0:Nat):Int)*2=i:=by simp
  have e2:((((j-i+1) / 2).toNat:Nat):Int)-((0:Nat):Int)=Builtin.Range.rangeSize i j 2:=by rw[JX];omega
  show IsRangeIter _ _ (i+((0:Nat):Int)*2) (((((j-i+1) / 2).toNat:Nat):Int)-((0:Nat):Int)) 2;rw[e1,e2];exact aK _ rfl
 have e:b=(s1.heap.push {cls:=.type "range",data:=.fields #[.int i t,.int j t',.int 2 t'']}).objs.size:=by simpa using hb
 subst e;exact I2.fpOk (aH _) (I2.hok.fresh (aH _))
end
def Lr(h:Heap)(mg:Str->Option Value):Prop:=E2 λbm o=>A6 (mg "__builtins__"=some (.ref bm)) (bm≠builtinsNs) (h.get? bm=some o) (o.cls=.type "module") (o.dict=some builtinsNs) (o.data=.plain)
def OZ{K:Fq}{TS:List (Addr×Array Value)}{k:Nat}{x:Str}{s₁:Shared}{vs:List Value}{ns:List Int}
 (KX:K.In s₁.heap)(hns:s₁.heap.Ns mainGlobals mg)(hb:s₁.heap.Ns builtinsNs mb)(hbb:∀x:Str,x≠ "__name__"->mb x=bootBuiltins x)(hlim:s₁.heap.NoLimit)(hg:s₁.gens=#[])
 (ha:s₁.heap.get? a=some {cls:=.type "list",data:=.seq vs.toArray})(hi:IntsAre vs ns)(hl:ns.length<=sizeLine)(hr:Bi k callerA)
 (hT:∀b ps,TS.lookup b=some ps->s₁.heap.get? b=some (PySem.W.tabObj ps)/\isCodeTable s₁.heap b)(hKT:∀b ps,TS.lookup b=some ps->K.lookup b=none)(hbm:Lr s₁.heap mg)
 (F:∀base:Heap,K.In base->base.Ns mainGlobals mg->Lr base mg->(∀b ps,TS.lookup b=some ps->base.get? b=none)->D6 P w K mg base CX k fa fd [x] sp)(hbind:∀s u,BindsTo s fd ⟨[u],[]⟩ [(x,u)])
 (hsp:∀H:Hp,(∀b ps,TS.lookup b=some ps->H b=some (.tbl ps))->D4 K H a (ns.map V.int)->sp [.ref a] H (λv _=>v=.bl true) λ_ _ _=>False)
 (hCX:∀H e s',CX [] H s₁ (λ_ _ _=>False) e s'->False) :
 codeAny (model P w) callerA (.call (.ref fa) ⟨[.ref a],[]⟩) (λr s'=>r=.ok (.ret (.bool true))/\OldK s₁.heap s'.heap/\s'.os=s₁.os/\AllBare s'.gens) s₁:=by
 have rv:=HB hi;have lenV:=hi.length;have hTh:∀b ps,TS.lookup b=some ps->s₁.heap.get? b=some (PySem.W.tabObj ps):=λb ps e=>(hT b ps e).1;have aT:TS.lookup a=none:=by
  cases q:TS.lookup a with
  |none=>rfl
  |some ps=>have:=hTh a ps q;rw[ha]at this;cases this
 have core:∀H:Hp,(∀b,TS.lookup b=none->(H b=none\/∃o xs,H b=some (.frz o (.lst xs))))->(∀b ps,TS.lookup b=some ps->H b=some (.tbl ps))->D4 K H a (ns.map V.int)->De P w H s₁.heap->(∀b,H b≠none->b=a\/TS.lookup b≠none)->(H a≠none->K.lookup a=none)->
  codeAny (model P w) callerA (.call (.ref fa) ⟨[.ref a],[]⟩) (λr s'=>r=.ok (.ret (.bool true))/\OldK s₁.heap s'.heap/\s'.os=s₁.os/\AllBare s'.gens) s₁:=by
  intro H hO hOt hS hok hA hK;have base_of:∀{b:Addr}{o:Obj},s₁.heap.get? b=some o->H b=none->(FM s₁.heap H).get? b=some o:=λe n=>Si e n;have noA:∀{b:Addr}{o:Obj}{es:Array DictEntry}{ep:Nat},s₁.heap.get? b=some o->o.data=.dict es ep->H b=none:=λ{b o es ep} e d=>by
   cases q:H b with
   |none=>rfl
   |some u=>
    rcases hA b (by rw[q];simp) with e'|e'
    ·subst e';rw[ha]at e;cases e;have d':Data.seq vs.toArray _=Data.dict es ep:=d;cases d'
    obtain⟨ps,e2⟩:=gL.mp e';rw[hTh b ps e2]at e;cases e;have d':Data.fields ps=Data.dict es ep:=d;cases d'
  have nsK:∀{b:Addr}{m:Mq},s₁.heap.Ns b m->(FM s₁.heap H).Ns b m:=λ{b m} ⟨o,es,ep,e,d,r⟩=>⟨o,es,ep,base_of e (noA e d),d,r⟩;have hKb:K.In (FM s₁.heap H):=λb o e=>by
   have e1:=e;have e2:TS.lookup b=none:=by
    cases q:TS.lookup b with
    |none=>rfl
    |some ps=>rw[hKT b ps q]at e;cases e
   refine base_of (KX b o e1) ?_;cases q:H b with
   |none=>rfl
   |some u=>
    rcases hA b (by rw[q];simp) with e'|e'
    ·subst e';rw[hK (by rw[q];simp)]at e1;cases e1
    exact absurd e2 e'
  have hM:Mod K mg (FM s₁.heap H):=⟨hKb,nsK hns,⟨mb,nsK hb,hbb⟩,let ⟨mc,h1,h2⟩:=hlim;⟨mc,nsK h1,h2⟩⟩;have e0:Hf P w K mg (FM s₁.heap H) callerA [] s₁ H:=⟨rfl,hM,λb o e=>Nl e,hU (Pk _ _),trivial,λb hb=>absurd (show b∈([]:List Addr) from hb) (by simp),hok,.of_eq hg⟩;have hbm':Lr (FM s₁.heap H) mg:=by
   obtain⟨bm,o,b1,b2,b3,b4,b5,b6⟩:=hbm;refine⟨bm,o,b1,b2,base_of b3 ?_,b4,b5,b6⟩;cases q:H bm with
   |none=>rfl
   |some u=>
    rcases hA bm (by rw[q];simp) with e'|e'
    ·subst e';rw[ha]at b3;cases b3;cases b6
    obtain⟨ps,e2⟩:=gL.mp e';rw[hTh bm ps e2]at b3;cases b3;cases b6
  have hno:∀b ps,TS.lookup b=some ps->(FM s₁.heap H).get? b=none:=λb ps e=>by
   cases q:(FM s₁.heap H).get? b with
   |none=>rfl
   |some o=>have:=(Nl q).2;rw[hOt b ps e]at this;cases this
  refine eD ((F _ hKb (nsK hns) hbm' hno).run callerA [] s₁ H ⟨[.ref a],[]⟩ [.ref a] [.ref a] _ _ hr e0 (hbind s₁ (.ref a)) (.cons rfl .nil) (hsp H hOt hS)) λr s' h=>?_;cases r with
  |error e=>exact(hCX H e s' h).elim
  |ok fl=>
   cases fl with
   |next=>exact False.elim h
   |brk=>exact False.elim h
   |cont=>exact False.elim h
   |ret u=>
    obtain⟨v,H',os,bare,un,hok',r',q⟩:=h;have q':v=.bl true:=q;subst q';obtain rfl:u=Value.bool true:=r';refine⟨rfl,⟨λb o e=>?_,λb o e=>un.there b o e (by simp)⟩,os,bare⟩;cases qt:TS.lookup b with
    |some ps=>
     have e1:=hTh b ps qt;rw[e]at e1;cases e1;obtain⟨more,e2⟩:=un.tbls b ps (hOt b ps qt);have e3:s'.heap.get? b=some {cls:=.none,data:=.fields (ps++more)}:=hok' b _ e2;exact .inr (.inl ⟨(hT b ps qt).2,rfl,ps,more,rfl,e3⟩)
    |none=>
     rcases hO b qt with z|⟨ob,xs,z⟩
     ·exact .inl (un.keep b o e z (by intro z;exact absurd (show b∈([]:List Addr) from z) (by simp)) (by simp))
     have z2:=un.frzs b ob _ z;obtain⟨e1,_⟩:=hok b _ z;obtain⟨e2,_⟩:=hok' b _ z2;rw[e]at e1;cases e1;exact .inl e2
 cases hk:K.lookup a with
 |some o=>
  have e:=KX a o hk;rw[ha]at e;cases e;refine core (λb=>(TS.lookup b).map HO.tbl) (λb z=>.inl (by rw[z];rfl)) (λb ps z=>by show(TS.lookup b).map HO.tbl=_;rw[z];rfl) (.inr ⟨_,vs.toArray,_,hk,rfl,rfl,rfl,by rw[aZ,lenV];exact hl,by simpa using rv⟩) (λb u z=>?_) (λb z=>.inr λq=>z (by show(TS.lookup b).map HO.tbl=none;rw[q];rfl)) λz=>absurd (by show(TS.lookup a).map HO.tbl=none;rw[aT];rfl) z;cases q:TS.lookup b with
  |none=>have z:(TS.lookup b).map HO.tbl=some u:=z;rw[q]at z;cases z
  |some ps=>have z:(TS.lookup b).map HO.tbl=some u:=z;rw[q]at z;cases z;exact hTh b ps q
 |none=>
  refine core (λb=>if b=a then some (.frz {cls:=.type "list",data:=.seq vs.toArray} (.lst (ns.map V.int))) else(TS.lookup b).map HO.tbl) (λb hb0=>?_) (λb ps z=>?_) (.inl (.inr ⟨{cls:=.type "list",data:=.seq vs.toArray},if_pos rfl⟩)) (λb u z=>?_) (λb z=>?_) λ_=>hk
  ·by_cases hb:b=a
   ·exact .inr ⟨_,_,if_pos hb⟩
   exact .inl ((if_neg hb).trans (by rw[hb0];rfl))
  ·have hb:b≠a:=λe=>by rw[e,aT]at z;cases z
   exact(if_neg hb).trans (by rw[z];rfl)
  ·by_cases hb:b=a
   ·have z':=(if_pos hb).symm.trans z;cases z';subst hb;exact⟨ha,by rw[aI];exact hl,vs,_,rv,ha⟩
   have z':=(if_neg hb).symm.trans z;cases q:TS.lookup b with
   |none=>rw[q]at z';cases z'
   |some ps=>rw[q]at z';cases z';exact hTh b ps q
  by_cases hb:b=a
  ·exact .inl hb
  refine .inr λq=>z ((if_neg hb).trans (by rw[q];rfl))
def Ql{l:PySem.W.OpenLaw}{n k:Nat}{q:Program}{loose:List Str}{XP:(Str->Option Value)->Heap->Prop}{YP:World->Heap->Prop}{d:DefRec}{K:Params->PySem.W.Frag}{TS:List (Addr×Array Value)}{sp:World->Sp}{x:Str}
 (hn:l.most=some n)(hn2:n<=sizeLine)(hdf:d.params.defaults=[])(hr:Bi k callerA)
 (hY:∀(w:World) (h:Heap),YP w h->(K w.params).In h)
 (hT:∀(w:World) (h:Heap),YP w h->∀b ps,TS.lookup b=some ps->h.get? b=some (PySem.W.tabObj ps)/\isCodeTable h b)(hKT:∀(w:World) b ps,TS.lookup b=some ps->(K w.params).lookup b=none)
 (F:∀(w:World) (mg:Mq) (fa:Addr) (h:Heap),(K w.params).In h->h.Ns mainGlobals mg->mg d.name=some (.ref fa)->
   ∃fd:FuncData,(∀(s:Shared) (u:Value),BindsTo s fd ⟨[u],[]⟩ [(x,u)])/\
    ∀base:Heap,(K w.params).In base->base.Ns mainGlobals mg->Lr base mg->(∀b ps,TS.lookup b=some ps->base.get? b=none)->D6 l.prog w (K w.params) mg base Ol k fa fd [x] (sp w))
 (hsp:∀(w:World) (H:Hp) (a:Addr) (ns:List Int),ns.length<=n->(∀b ps,TS.lookup b=some ps->H b=some (.tbl ps))->D4 (K w.params) H a (ns.map V.int)->sp w [.ref a] H (λv _=>v=.bl true) λ_ _ _=>False) :
 PySem.W.WalkO q loose XP YP l.row.toRowW d [] (λf vs=>PySem.call f vs):=by
 refine Att.attach_call hn hdf λw s₀ s₁ mg mb fa o pm cd doc a vs ns G Y ho hd hcd hmg hobj hints hlen hg=>?_;have KX:=hY w _ Y;obtain⟨fd,hb,hF⟩:=F w mg fa _ KX G.T.g hmg;exact OZ KX G.T.g G.T.b G.T.builtins G.T.nolimit hg hobj hints (aV hlen hn2) hr (hT w _ Y) (hKT w) (by obtain⟨bm,o,b1,b2,b3,b4,b5,b6⟩:=G.T.bmain;exact⟨bm,o,b1,b2,b3,b4,b5,b6⟩) hF hb (λH hO hS=>hsp w H a ns hlen hO hS) λ_ _ _ z=>z
end L2
namespace B
open PySem L2
open PyProof.Rows hiding St
inductive MV where
 |non|bl (b:Bool)|int (i:Int)|str (x:Str)
 |tup (l:List MV)|lst (l:List MV)|scr (l:List MV)|dic (t:Bool) (ks vs:List MV)
 |obj (c:Nat) (ns:List Nat) (vs:List MV)
 |cls (c:Nat)|ty (n:Kd)|lam (k:Nat) (cs:List MV)
inductive R where
 |v (m:MV)|r (n:Nat)|l (k:Nat) (ms:List MV)
inductive MO where
 |lst (l:List MV)|dic (t:Bool) (ks vs:List MV)|ins (c:Nat) (ns:List Nat) (vs:List MV)|gone (m:MV)
abbrev MH:=List MO
abbrev En:=List (Option R)
inductive AB(α:Type) where
 |ok (a:α) (h:MH)|no
noncomputable def AB.bind{α β:Type}(x:AB α)(k:α->MH->AB β):AB β:=match x with
 |.ok a h=>k a h
 |.no=>.no
noncomputable def AB.of{α:Type}(x:Option α)(h:MH):AB α:=match x with
 |some a=>.ok a h
 |none=>.no
structure Wd where
 K:PySem.W.Frag
 ca:Nat->Addr
 nm:Nat->Str
 inj:∀i j,nm i=nm j->i=j
 lamR:Hp->Nat->List V->V->Prop
 lamS:∀{F F':Hp}{k:Nat}{vs:List V}{v:V},Am F F'->lamR F k vs v->lamR F' k vs v
 tl:List (Addr×Str×Pos)
noncomputable def Cb:Key->MV
 |.inl i=>.int i
 |.inr x=>.str x
mutual
noncomputable def Ap(W:Wd)(F:Hp):MV->V->Prop
 |.non,v=>v=.non
 |.bl b,v=>v=.bl b
 |.int i,v=>v=.int i
 |.str x,v=>v=.str x
 |.tup l,v=>∃a vs,v=.ref a/\F a=some (.tup vs)/\Ad W F l vs
 |.lst l,v=>∃a vs,v=.ref a/\F a=some (.lst vs)/\Ad W F l vs
 |.scr l,v=>∃a vs,v=.ref a/\D4 W.K F a vs/\Ad W F l vs
 |.dic t ks ms,v=>∃a vs,v=.ref a/\Ad W F ms vs/\((∃kk:List (List Key),t=true/\ks=kk.map (λk=>.tup (k.map Cb))/\(∃ob,F a=some (.frz ob (.dT (kk.zip vs))))/\kk.length=vs.length)\/(∃kk:List Key,t=false/\ks=kk.map Cb/\(∃ob,F a=some (.frz ob (.dK (kk.zip vs))))/\kk.length=vs.length))
 |.obj c ns ms,v=>E3 λa dx vs=>A5 (v=.ref a) (F a=some (.ins (W.ca c) dx ((ns.map W.nm).zip vs))) (F dx=some (.own a)) (ns.length=vs.length) (Ad W F ms vs)
 |.cls c,v=>v=.ref (W.ca c)
 |.ty n,v=>v=.ty n.nm
 |.lam _ _,_=>False
noncomputable def Ad(W:Wd)(F:Hp):List MV->List V->Prop
 |[],vs=>vs=[]
 |m::ms,vs=>∃v r,vs=v::r/\Ap W F m v/\Ad W F ms r
end
section
def Lq(F F':Hp):Prop:=∀b u,F b=some u->(∀o,u≠AO b o)->F' b=some u
def Lq.seq{K:Fq}{a:Addr}{xs:List V}(s:Lq F F')(h:D4 K F a xs):D4 K F' a xs:=h.imp (λh=>h.imp (λe=>s _ _ e (λo z=>by cases z)) λ⟨o,e⟩=>⟨o,s _ _ e (λo z=>by cases z)⟩) id
mutual
theorem Ap.sameP(s:Lq F F'):∀{m:MV}{v:V},Ap W F m v->Ap W F' m v
 |.non,_,h=>by unfold Ap at h ⊢; exact h
 |.bl _,_,h=>by unfold Ap at h ⊢; exact h
 |.int _,_,h=>by unfold Ap at h ⊢; exact h
 |.str _,_,h=>by unfold Ap at h ⊢; exact h
 |.cls _,_,h=>by unfold Ap at h ⊢; exact h
 |.ty _,_,h=>by unfold Ap at h ⊢; exact h
 |.tup l,_,h=>by
  unfold Ap at h ⊢;obtain⟨a,vs,e,q,r⟩:=h;exact⟨a,vs,e,s _ _ q (λo z=>by cases z),Ad.sameP s r⟩
 |.lst l,_,h=>by
  unfold Ap at h ⊢;obtain⟨a,vs,e,q,r⟩:=h;exact⟨a,vs,e,s _ _ q (λo z=>by cases z),Ad.sameP s r⟩
 |.scr l,_,h=>by
  unfold Ap at h ⊢;obtain⟨a,vs,e,q,r⟩:=h;exact⟨a,vs,e,s.seq q,Ad.sameP s r⟩
 |.dic t ks ms,_,h=>by
  unfold Ap at h ⊢;obtain⟨a,vs,e,r,q⟩:=h;refine⟨a,vs,e,Ad.sameP s r,?_⟩;rcases q with⟨kk,e0,e1,e2,e3⟩|⟨kk,e0,e1,e2,e3⟩
  ·exact .inl ⟨kk,e0,e1,e2.imp λ_ e=>s _ _ e (λo z=>by cases z),e3⟩
  exact .inr ⟨kk,e0,e1,e2.imp λ_ e=>s _ _ e (λo z=>by cases z),e3⟩
 |.obj c ns ms,_,h=>by
  unfold Ap at h ⊢;obtain⟨a,dx,vs,e,h1,h2,h3,r⟩:=h;exact⟨a,dx,vs,e,s _ _ h1 (λo z=>by cases z),s _ _ h2 (λo z=>by cases z),h3,Ad.sameP s r⟩
 |.lam _ _,_,h=>by unfold Ap at h;exact h.elim
theorem Ad.sameP(s:Lq F F'):∀{ms:List MV}{vs:List V},Ad W F ms vs->Ad W F' ms vs
 |[],_,h=>by unfold Ad at h ⊢; exact h
 |m::ms,_,h=>by
  unfold Ad at h ⊢;obtain⟨v,r,e,h1,h2⟩:=h;exact⟨v,r,e,Ap.sameP s h1,Ad.sameP s h2⟩
end
def Ap.same(s:Am F F')(h:Ap W F m v):Ap W F' m v:=Ap.sameP (λb u e _=>s b u e) h
def Ad.same(s:Am F F')(h:Ad W F ms vs):Ad W F' ms vs:=Ad.sameP (λb u e _=>s b u e) h
def Ad.nil:Ad W F [] []:=by unfold Ad;rfl
def Ad.cons{m:MV}{ms:List MV}{v:V}{vs:List V}(h:Ap W F m v)(t:Ad W F ms vs):Ad W F (m::ms) (v::vs):=by unfold Ad;exact⟨v,vs,rfl,h,t⟩
theorem Ad.len:∀{ms:List MV}{vs:List V},Ad W F ms vs->ms.length=vs.length
 |[],_,h=>by unfold Ad at h;subst h;rfl
 |m::ms,_,h=>by
  unfold Ad at h;obtain⟨v,r,e,_,h2⟩:=h;subst e;simp[Ad.len h2]
def Ad.nil_iff(h:Ad W F [] vs):vs=[]:=by unfold Ad at h;exact h
def Ad.uncons(h:Ad W F (m::ms) vs):∃v r,vs=v::r/\Ap W F m v/\Ad W F ms r:=by unfold Ad at h;exact h
theorem Ad.app:∀{ms ks:List MV}{vs us:List V},Ad W F ms vs->Ad W F ks us->Ad W F (ms++ks) (vs++us)
 |[],_,_,_,h,t=>by rw[h.nil_iff];exact t
 |m::ms,_,_,_,h,t=>by
  obtain⟨v,r,e,h1,h2⟩:=h.uncons;subst e;exact .cons h1 (Ad.app h2 t)
theorem Ad.get:∀{ms:List MV}{vs:List V}{i:Nat}{m:MV},Ad W F ms vs->ms[i]?=some m->∃v,vs[i]?=some v/\Ap W F m v
 |[],_,_,_,_,e=>by simp at e
 |k::ms,_,0,m,h,e=>by
  obtain⟨v,r,e1,h1,h2⟩:=h.uncons;subst e1;simp at e;subst e;exact⟨v,rfl,h1⟩
 |k::ms,_,i+1,m,h,e=>by
  obtain⟨v,r,e1,h1,h2⟩:=h.uncons;subst e1;obtain⟨u,q1,q2⟩:=Ad.get (i:=i) h2 (by simpa using e);exact⟨u,by simpa using q1,q2⟩
theorem Ad.set(q:Ap W F m v):∀{ms:List MV}{vs:List V}{i:Nat},Ad W F ms vs->Ad W F (ms.set i m) (vs.set i v)
 |[],_,_,h=>by rw[h.nil_iff];exact .nil
 |k::ms,_,0,h=>by
  obtain⟨u,r,e1,h1,h2⟩:=h.uncons;subst e1;exact .cons q h2
 |k::ms,_,i+1,h=>by
  obtain⟨u,r,e1,h1,h2⟩:=h.uncons;subst e1;exact .cons h1 (Ad.set q h2)
theorem Ad.take:∀{ms:List MV}{vs:List V} n,Ad W F ms vs->Ad W F (ms.take n) (vs.take n)
 |_,_,0,_=>by simp;exact .nil
 |[],_,n+1,h=>by rw[h.nil_iff];exact .nil
 |k::ms,_,n+1,h=>by
  obtain⟨u,r,e1,h1,h2⟩:=h.uncons;subst e1;exact .cons h1 (Ad.take n h2)
theorem Ad.drop:∀{ms:List MV}{vs:List V} n,Ad W F ms vs->Ad W F (ms.drop n) (vs.drop n)
 |_,_,0,h=>h
 |[],_,n+1,h=>by rw[h.nil_iff];exact .nil
 |k::ms,_,n+1,h=>by
  obtain⟨u,r,e1,h1,h2⟩:=h.uncons;subst e1;exact Ad.drop n h2
def Cn(W:Wd)(F H:Hp)(a:Addr):MO->Prop
 |.lst l=>F a=none/\∃vs,H a=some (.lst vs)/\Ad W F l vs
 |.dic t ks ms=>F a=none/\∃vs,Ad W F ms vs/\((∃kk:List (List Key),t=true/\ks=kk.map (λk=>.tup (k.map Cb))/\H a=some (.dT (kk.zip vs))/\kk.length=vs.length)\/(∃kk:List Key,t=false/\ks=kk.map Cb/\H a=some (.dK (kk.zip vs))/\kk.length=vs.length))
 |.ins c ns ms=>F a=none/\E2 λdx vs=>A5 (H a=some (.ins (W.ca c) dx ((ns.map W.nm).zip vs))) (H dx=some (.own a)) (F dx=none) (ns.length=vs.length) (Ad W F ms vs)
 |.gone m=>Ap W F m (.ref a)/\∃o,F a=some o/\∀ob,o≠AO a ob
def JQ:HO->Prop
 |.tbl _=>True
 |.frz _ _=>True
 |_=>False
def MC(W:Wd)(H:Hp):Prop:=∀t∈W.tl,∃ps,H t.1=some (.tbl ps)/\Lp H t.2.1 t.2.2 ps
def MC.keep(t:MC W H)(k:∀b u,H b=some u->JQ u->H' b=some u):MC W H':=λx hx=>by
 obtain⟨ps,h1,h2,h3⟩:=t x hx;refine⟨ps,k _ _ h1 trivial,h2,h3.imp id λ⟨c',oc,vs,t,a,b,c,d⟩=>⟨c',oc,vs,t,a,k _ _ b trivial,c,d⟩⟩
def MC.upd(t:MC W H)(k:∀u,H p=some u->¬JQ u):MC W (upd H p o):=t.keep λb u e n=>by
 rw[Ab (λz=>by subst z;exact k u e n)];exact e
structure Bq(W:Wd)(F H:Hp)(ρ:List Addr)(h:MH):Prop where
 sub:Am F H
 nd:ρ.Nodup
 len:ρ.length=h.length
 obj:∀(n:Nat) (a:Addr) (m:MO),ρ[n]?=some a->h[n]?=some m->Cn W F H a m
 tb:MC W H
 tf:∀t∈W.tl,F t.1=none
def A0(W:Wd)(F:Hp)(ρ:List Addr):R->V->Prop
 |.v m,v=>Ap W F m v
 |.r n,v=>∃a,v=.ref a/\ρ[n]?=some a
 |.l k ms,v=>∃vs,W.lamR F k vs v/\Ad W F ms vs
def Az(W:Wd)(F:Hp)(ρ:List Addr):List R->List V->Prop:=Paired (A0 W F ρ)
structure DO(F:Hp)(ρ:List Addr)(F':Hp)(ρ':List Addr):Prop where
 s:Am F F'
 p:ρ <+: ρ'
theorem DO.refl:DO F ρ F ρ:=⟨Am.refl _,cA _⟩
theorem DO.trans(a:DO F ρ F1 ρ1)(b:DO F1 ρ1 F2 ρ2):DO F ρ F2 ρ2:=⟨a.s.trans b.s,a.p.trans b.p⟩
def IJ{α:Type}{l l':List α}(p:l <+: l'){i:Nat}{x:α}(h:l[i]?=some x):l'[i]?=some x:=by
 obtain⟨t,rfl⟩:=p;rw[aL (a9.mp h).1];exact h
def A0.nxt(n:DO F ρ F' ρ'):∀{r:R}{v:V},A0 W F ρ r v->A0 W F' ρ' r v
 |.v m,_,h=>Ap.same n.s h
 |.r k,_,⟨a,e,h⟩=>⟨a,e,IJ n.p h⟩
 |.l k ms,_,⟨vs,a,h⟩=>⟨vs,W.lamS n.s a,h.same n.s⟩
theorem Az.nxt(n:DO F ρ F' ρ')(h:Az W F ρ rs vs):Az W F' ρ' rs vs:=Paired.mapP h λ_ _ q=>A0.nxt n q
structure BS(W:Wd)(F:Hp)(ρ:List Addr)(μ:En)(σ:St):Prop where
 len:μ.length=σ.length
 at_:∀(i:Nat) (r:R),μ[i]?=some (some r)->∃v,σ[i]?=some (some v)/\A0 W F ρ r v
theorem BS.nxt(n:DO F ρ F' ρ')(e:BS W F ρ μ σ):BS W F' ρ' μ σ:=⟨e.len,λi r h=>let ⟨v,h1,h2⟩:=e.at_ i r h;⟨v,h1,h2.nxt n⟩⟩
theorem BS.set(e:BS W F ρ μ σ)(h:A0 W F ρ r v)(i:Nat):BS W F ρ (μ.set i (some r)) (σ.set i (some v)):=by
 refine⟨by simp[e.len],λj q hj=>?_⟩;by_cases hi:i=j
 ·subst hi;rw[eO]at hj;simp at hj;obtain⟨hl,rfl⟩:=hj;refine⟨v,?_,h⟩;rw[eO];simp[←e.len,hl]
 rw[c7 hi]at hj;obtain⟨u,h1,h2⟩:=e.at_ j q hj;exact⟨u,by rw[c7 hi];exact h1,h2⟩
end
def Ai{α β:Type}(W:Wd)(rep:Hp->List Addr->α->β->Prop)(F:Hp)(ρ:List Addr)(x:AB α)(Q:β->Hp->Prop):Prop:=
 match x with
 |.ok r h'=>∀F' ρ' H' v,DO F ρ F' ρ'->Bq W F' H' ρ' h'->rep F' ρ' r v->Q v H'
 |.no=>False
inductive sY{α β:Type}(W:Wd)(rep:Hp->List Addr->α->β->Prop)(F:Hp)(ρ:List Addr)(v:β)(H1:Hp)(P:Hp->List Addr->α->MH->Prop):Prop
 |mk (F1:Hp) (ρ1:List Addr) (r:α) (h1:MH) (n:DO F ρ F1 ρ1) (S:Bq W F1 H1 ρ1 h1) (q:rep F1 ρ1 r v) (G:P F1 ρ1 r h1)
theorem Ai.bind{α β γ δ:Type}{W:Wd}{rep:Hp->List Addr->α->β->Prop}{rep2:Hp->List Addr->γ->δ->Prop}{F:Hp}{ρ:List Addr}{x:AB α}{k:α->MH->AB γ}{Q:δ->Hp->Prop}
 (g:Ai W rep2 F ρ (x.bind k) Q):Ai W rep F ρ x λv H1=>sY W rep F ρ v H1 λF1 ρ1 r h1=>Ai W rep2 F1 ρ1 (k r h1) Q:=by
 cases x with
 |no=>exact g
 |ok r h=>
  intro F1 ρ1 H1 v n s q;refine⟨F1,ρ1,r,h,n,s,q,?_⟩;have g:Ai W rep2 F ρ (k r h) Q:=g;cases e:k r h with
  |no=>rw[e]at g;exact g
  |ok r2 h2=>rw[e]at g;exact λF2 ρ2 H2 a n2=>g F2 ρ2 H2 a (n.trans n2)
def Ai.ret{α β:Type}{W:Wd}{rep:Hp->List Addr->α->β->Prop}{F H:Hp}{ρ:List Addr}{r:α}{h:MH}{Q:β->Hp->Prop}{v:β}(g:Ai W rep F ρ (.ok r h) Q)(s:Bq W F H ρ h)(q:rep F ρ r v):Q v H:=
 g F ρ H v .refl s q
theorem Ai.of{α β:Type}{W:Wd}{rep:Hp->List Addr->α->β->Prop}{F:Hp}{ρ:List Addr}{o:Option α}{h:MH}{Q:β->Hp->Prop}(g:Ai W rep F ρ (AB.of o h) Q):∃r,o=some r/\Ai W rep F ρ (.ok r h) Q:=by
 cases o with
 |none=>exact False.elim g
 |some r=>exact⟨r,rfl,g⟩
def Ai.nxt{α β:Type}{W:Wd}{rep:Hp->List Addr->α->β->Prop}{F F1:Hp}{ρ ρ1:List Addr}{x:AB α}{Q:β->Hp->Prop}(n:DO F ρ F1 ρ1)(g:Ai W rep F ρ x Q):Ai W rep F1 ρ1 x Q:=by
 cases x with
 |no=>exact g
 |ok r h=>exact λF2 ρ2 H2 a n2=>g F2 ρ2 H2 a (n.trans n2)
def Ai.imp{α β:Type}{W:Wd}{rep:Hp->List Addr->α->β->Prop}{F:Hp}{ρ:List Addr}{x:AB α}{Q Q':β->Hp->Prop}(g:Ai W rep F ρ x Q)(i:∀v H,Q v H->Q' v H):Ai W rep F ρ x Q':=by
 cases x with
 |no=>exact g
 |ok r h=>exact λF2 ρ2 H2 a n2 s q=>i _ _ (g F2 ρ2 H2 a n2 s q)
abbrev GE(W:Wd):=Ai (α:=R) (β:=V) W (A0 W)
abbrev GA(W:Wd):=Ai (α:=List R) (β:=List V) W (Az W)
inductive ZC(W:Wd)(σ:St)(H:Hp)(P:Hp->List Addr->En->MH->Prop):Prop where
 |mk (F:Hp) (ρ:List Addr) (μ:En) (h:MH) (S:Bq W F H ρ h) (e:BS W F ρ μ σ) (G:P F ρ μ h)
def tM(W:Wd)(f:En->MH->AB R):TE:=λσ H Q=>ZC W σ H λF ρ μ h=>GE W F ρ (f μ h) Q
def Hk(W:Wd)(f:En->MH->AB (List R)):TA:=λσ H Q=>ZC W σ H λF ρ μ h=>GA W F ρ (f μ h) Q
def ES(W:Wd)(f:En->MH->AB Bool):TT:=λσ H Q=>ZC W σ H λF ρ μ h=>Ai W (λ_ _ a b=>a=b) F ρ (f μ h) Q
def PE.of(h:PE X e t)(i:∀σ H Q,t' σ H Q->t σ H Q):PE X e t':=λpins s σ H Q I q=>h pins s σ H Q I (i σ H Q q)
def PT.of(h:PT X e t)(i:∀σ H Q,t' σ H Q->t σ H Q):PT X e t':=λpins s σ H Q I q=>h pins s σ H Q I (i σ H Q q)
def PA.of(h:PA X e t)(i:∀σ H Q,t' σ H Q->t σ H Q):PA X e t':=λpos pins s σ H Q I q=>h pos pins s σ H Q I (i σ H Q q)
def PS.of(h:PS X e t)(i:∀D σ H,t' D σ H->t D σ H):PS X e t':=λpins s σ H D I q=>h pins s σ H D I (i D σ H q)
def Hj.of(h:Hj X e t)(i:∀D σ H,t' D σ H->t D σ H):Hj X e t':=λpins s σ H D I q=>h pins s σ H D I (i D σ H q)
def Br(W:Wd)(F H:Hp):MV->V->Prop
 |.lst l,v=>∃a vs,v=.ref a/\H a=some (.lst vs)/\Ad W F l vs
 |.scr l,v=>∃a vs,v=.ref a/\D4 W.K H a vs/\Ad W F l vs
 |.tup l,v=>∃a vs,v=.ref a/\F a=some (.tup vs)/\Ad W F l vs
 |.dic t ks ms,v=>∃a vs,v=.ref a/\Ad W F ms vs/\((∃kk:List (List Key),t=true/\ks=kk.map (λk=>.tup (k.map Cb))/\Rd H a (.dT (kk.zip vs))/\kk.length=vs.length)\/(∃kk:List Key,t=false/\ks=kk.map Cb/\Rd H a (.dK (kk.zip vs))/\kk.length=vs.length))
 |.obj c ns ms,v=>E3 λa dx vs=>A5 (v=.ref a) (H a=some (.ins (W.ca c) dx ((ns.map W.nm).zip vs))) (H dx=some (.own a)) (ns.length=vs.length) (Ad W F ms vs)
 |.non,v=>v=.non
 |.bl b,v=>v=.bl b
 |.int i,v=>v=.int i
 |.str x,v=>v=.str x
 |.cls c,v=>v=.ref (W.ca c)
 |.ty n,v=>v=.ty n.nm
 |.lam k cs,v=>Ap W F (.lam k cs) v
section
def Ap.view(s:Am F H)(h:Ap W F m v):Br W F H m v:=by
 cases m with
 |lam k cs=>exact h
 |lst l=>unfold Ap at h;obtain⟨a,vs,e,q,r⟩:=h;exact⟨a,vs,e,s _ _ q,r⟩
 |scr l=>unfold Ap at h;obtain⟨a,vs,e,q,r⟩:=h;exact⟨a,vs,e,s.seq q,r⟩
 |tup l=>unfold Ap at h;exact h
 |dic t ks ms=>
  unfold Ap at h;obtain⟨a,vs,e,r,q⟩:=h;refine⟨a,vs,e,r,?_⟩;rcases q with⟨kk,e0,e1,e2,e3⟩|⟨kk,e0,e1,e2,e3⟩
  ·exact .inl ⟨kk,e0,e1,.inr (e2.imp λ_ e=>s _ _ e),e3⟩
  exact .inr ⟨kk,e0,e1,.inr (e2.imp λ_ e=>s _ _ e),e3⟩
 |obj c ns ms=>unfold Ap at h;obtain⟨a,dx,vs,e,h1,h2,h3,r⟩:=h;exact⟨a,dx,vs,e,s _ _ h1,s _ _ h2,h3,r⟩
 |non=>unfold Ap at h;exact h
 |bl b=>unfold Ap at h;exact h
 |int b=>unfold Ap at h;exact h
 |str b=>unfold Ap at h;exact h
 |cls b=>unfold Ap at h;exact h
 |ty b=>unfold Ap at h;exact h
noncomputable def MO.view:MO->Option MV
 |.lst l=>some (.lst l)
 |.dic t ks vs=>some (.dic t ks vs)
 |.ins c ns vs=>some (.obj c ns vs)
 |.gone m=>some m
theorem Cn.view(s:Am F H)(l:Cn W F H a o)(e:o.view=some m):Br W F H m (.ref a):=by
 cases o with
 |lst l'=>cases e;obtain⟨_,vs,h,r⟩:=l;exact⟨a,vs,rfl,h,r⟩
 |dic t ks ms=>
  cases e;obtain⟨_,vs,r,q⟩:=l;refine⟨a,vs,rfl,r,?_⟩;rcases q with⟨kk,e0,e1,e2,e3⟩|⟨kk,e0,e1,e2,e3⟩
  ·exact .inl ⟨kk,e0,e1,.inl e2,e3⟩
  exact .inr ⟨kk,e0,e1,.inl e2,e3⟩
 |ins c ns ms=>cases e;obtain⟨_,dx,vs,h1,h2,_,h3,r⟩:=l;exact⟨a,dx,vs,rfl,h1,h2,h3,r⟩
 |gone m=>cases e;exact Ap.view s l.1
noncomputable def Au(h:MH):R->Option MV
 |.v m=>some m
 |.r n=>(h[n]?).bind MO.view
 |.l _ _=>none
theorem Bq.view(S:Bq W F H ρ h)(q:A0 W F ρ r v)(e:Au h r=some m):Br W F H m v:=by
 cases r with
 |v k=>cases e;exact Ap.view S.sub q
 |r n=>
  obtain⟨a,rfl,ha⟩:=q;cases ho:h[n]? with
  |none=>simp[Au,ho]at e
  |some o=>simp[Au,ho]at e;exact(S.obj n a o ha ho).view S.sub e
 |l k ms=>cases e
structure C2(F H F' H':Hp):Prop where
 f:Am F F'
 h:Am H H'
 sub:Am F' H'
 lv:∀b o,H b=some o->(∀xs,o≠ .tup xs)->F b=none->F' b=none
theorem C2.refl(s:Am F H):C2 F H F H:=⟨.refl _,.refl _,s,λ_ _ _ _ n=>n⟩
theorem C2.new(s:Am F H)(n:H p=none):C2 F H (upd F p o) (upd H p o):=by
 have nf:=s.free n;refine⟨.new nf,.new n,λb u e=>?_,λb u e _ f=>?_⟩
 ·by_cases hb:b=p
  ·subst hb;rw[Ac]at e ⊢; exact e
  rw[Ab hb]at e ⊢; exact s _ _ e
 have hb:=Ao e n;rw[Ab hb];exact f
def Cn.grow(g:C2 F H F' H')(l:Cn W F H a o):Cn W F' H' a o:=by
 cases o with
 |lst l'=>obtain⟨n,vs,h,r⟩:=l;exact⟨g.lv _ _ h (λ_ z=>by cases z) n,vs,g.h _ _ h,r.same g.f⟩
 |dic t ks ms=>
  obtain⟨n,vs,r,q⟩:=l;rcases q with⟨kk,e0,e1,e2,e3⟩|⟨kk,e0,e1,e2,e3⟩
  ·exact⟨g.lv _ _ e2 (λ_ z=>by cases z) n,vs,r.same g.f,.inl ⟨kk,e0,e1,g.h _ _ e2,e3⟩⟩
  exact⟨g.lv _ _ e2 (λ_ z=>by cases z) n,vs,r.same g.f,.inr ⟨kk,e0,e1,g.h _ _ e2,e3⟩⟩
 |ins c ns ms=>obtain⟨n,dx,vs,h1,h2,n2,h3,r⟩:=l;exact⟨g.lv _ _ h1 (λ_ z=>by cases z) n,dx,vs,g.h _ _ h1,g.h _ _ h2,g.lv _ _ h2 (λ_ z=>by cases z) n2,h3,r.same g.f⟩
 |gone m=>obtain⟨r,o,h⟩:=l;exact⟨r.same g.f,o,g.f _ _ h.1,h.2⟩
theorem Bq.grow(S:Bq W F H ρ h)(g:C2 F H F' H'):Bq W F' H' ρ h:=⟨g.sub,S.nd,S.len,λn a m h1 h2=>(S.obj n a m h1 h2).grow g,S.tb.keep λb u e _=>g.h b u e,λt ht=>g.lv _ _ (S.tb t ht).choose_spec.1 (λ_ z=>by cases z) (S.tf t ht)⟩
def C2.nxt(g:C2 F H F' H'):DO F ρ F' ρ:=⟨g.f,cA _⟩
end
abbrev JA(W:Wd)(F H:Hp)(c:MV)(Q:VK):Prop:=∀F' H' v,C2 F H F' H'->Ap W F' c v->Q v H'
def rq(W:Wd)(g:MV->Option MV):V->Hp->VK->Prop:=λx H Q=>E3 λF a c=>A4 (Am F H) (Br W F H a x) (g a=some c) (JA W F H c Q)
def PN(W:Wd)(g:MV->MV->Option MV):R2:=λx y H Q=>E4 λF a b c=>A5 (Am F H) (Br W F H a x) (Br W F H b y) (g a b=some c) (JA W F H c Q)
def FF(W:Wd)(F H:Hp):List MV->List V->Prop:=Paired (Br W F H)
def Uo(W:Wd)(g:List MV->Option MV):List V->Hp->VK->Prop:=λxs H Q=>E3 λF as c=>A4 (Am F H) (FF W F H as xs) (g as=some c) (JA W F H c Q)
def BE.of(h:BE X f r)(i:∀x y H Q,r' x y H Q->r x y H Q):BE X f r':=λpins s σ H x y v u Q I rx ry q=>h pins s σ H x y v u Q I rx ry (i _ _ _ _ q)
section
theorem JA.int{i:Int}(o:JA W F H (.int i) Q)(s:Am F H):Q (.int i) H:=o F H _ (.refl s) (by unfold Ap;rfl)
theorem JA.bl(o:JA W F H (.bl i) Q)(s:Am F H):Q (.bl i) H:=o F H _ (.refl s) (by unfold Ap;rfl)
theorem JA.str{i:Str}(o:JA W F H (.str i) Q)(s:Am F H):Q (.str i) H:=o F H _ (.refl s) (by unfold Ap;rfl)
theorem JA.lst{l:List MV}{vs:List V}{p:Addr}(o:JA W F H (.lst l) Q)(s:Am F H)(n:H p=none)(r:Ad W F l vs):Q (.ref p) (upd H p (.lst vs)):=
 o _ _ _ (.new s n) (by unfold Ap;exact⟨p,vs,rfl,Ac,r.same (Am.new (s.free n))⟩)
theorem JA.tup{l:List MV}{vs:List V}{p:Addr}(o:JA W F H (.tup l) Q)(s:Am F H)(n:H p=none)(r:Ad W F l vs):Q (.ref p) (upd H p (.tup vs)):=
 o _ _ _ (.new s n) (by unfold Ap;exact⟨p,vs,rfl,Ac,r.same (Am.new (s.free n))⟩)
def JA.same(o:JA W F H m Q)(s:Am F H)(r:Ap W F m v):Q v H:=o F H v (.refl s) r
end
inductive WA where|add|sub|mul|fdiv|mod|pow|shl|shr|and|or|xor
noncomputable def WA.op:WA->Operator
 |.add=>.Add| .sub=>.Sub| .mul=>.Mult| .fdiv=>.FloorDiv| .mod=>.Mod| .pow=>.Pow| .shl=>.LShift| .shr=>.RShift| .and=>.BitAnd| .or=>.BitOr| .xor=>.BitXor
noncomputable abbrev big:Nat:=16777216
noncomputable def Jl:MV->Option Int
 |.int i=>some i
 |_=>none
noncomputable def Qy:MV->Option Str
 |.str i=>some i
 |_=>none
noncomputable def K1:MV->Option (List MV)
 |.lst i=>some i
 |_=>none
noncomputable def UL:List MV->Option MV
 |[a]=>some a
 |_=>none
def IR(h:UL l=some a):l=[a]:=by rcases l with _|⟨b,_|_⟩<;>cases h;rfl
def Cs{i:Int}(h:Jl m=some i):m=.int i:=by cases m<;>cases h;rfl
def FS{i:Str}(h:Qy m=some i):m=.str i:=by cases m<;>cases h;rfl
def EE(h:K1 m=some i):m=.lst i:=by cases m<;>cases h;rfl
noncomputable def Pi{α:Type}(f:Int->Int->Option α)(a b:MV):Option α:=(Jl a).bind λi=>(Jl b).bind λj=>f i j
def EG{α:Type}{f:Int->Int->Option α}{a b:MV}{c:α}(h:Pi f a b=some c):∃i j,a=.int i/\b=.int j/\f i j=some c:=by
 obtain⟨i,h1,h⟩:=aA.mp h;obtain⟨j,h2,h⟩:=aA.mp h;exact⟨i,j,Cs h1,Cs h2,h⟩
noncomputable def Y4(a b:MV):Option MV:=match a with
 |.int i=>(Jl b).bind λj=>some (.int (i+j))
 |.str x=>(Qy b).bind λy=>if x.length+y.length<=big then some (.str (x++y)) else none
 |.lst x=>(K1 b).bind λy=>if x.length+y.length<=big then some (.lst (x++y)) else none
 |_=>none
noncomputable def Dt(i j:Int):Bool:=(decide (-(2^64)<i)&&decide (i<2^64))||(decide (-(2^64)<j)&&decide (j<2^64))
noncomputable def Y2(a b:MV):Option MV:=match a with
 |.int i=>(Jl b).bind λj=>if Dt i j then some (.int (i*j)) else none
 |.str x=>(Jl b).bind λn=>if 0<=n/\n<=100/\x.length<=100 then some (.str (FH n.toNat x)) else none
 |.lst x=>(Jl b).bind λn=>if -(2^63)<=n/\n<2^63/\x.length*n.toNat<=big then some (.lst (List.replicate n.toNat x).flatten) else none
 |_=>none
noncomputable def BZ(i j:Int):Bool:=decide (0<=j)&&decide (j<=1000000)&&decide (i.natAbs<2^64)
noncomputable def tW:WA->Int->Int->Option MV
 |.sub,i,j=>some (.int (i-j))
 |.fdiv,i,j=>if 0<j/\j<10000000000000000000000000000000000000000 then some (.int (i / j)) else none
 |.mod,i,j=>if 0<j then some (.int (i%j)) else none
 |.pow,i,j=>if BZ i j then some (.int (i^j.toNat)) else none
 |.shl,i,j=>if BZ i j then some (.int (i*2^j.toNat)) else none
 |.shr,i,j=>if 0<=j then some (.int (i / 2^j.toNat)) else none
 |.and,i,j=>some (.int (Builtin.bitAnd i j))
 |.or,i,j=>some (.int (Builtin.bitOr i j))
 |.xor,i,j=>some (.int (Builtin.bitXor i j))
 |_,_,_=>none
noncomputable def Ck:WA->MV->MV->Option MV
 |.add,a,b=>Y4 a b
 |.mul,a,b=>Y2 a b
 |o,a,b=>Pi (tW o) a b
def J0:sizeLine=big:=dI
theorem Ad.rep(r:Ad W F x vs):∀n:Nat,Ad W F (List.replicate n x).flatten (List.replicate n vs).flatten
 |0=>by simp;exact .nil
 |n+1=>by rw[cB,cB,bR,bR];exact r.app (Ad.rep r n)
def Aq{α:Type}{c:Prop}[Decidable c]{a b:α}(h:(if c then some a else none)=some b):c/\a=b:=by
 by_cases hc:c
 ·rw[if_pos hc]at h;exact⟨hc,bE h⟩
 rw[if_neg hc]at h;cases h
def qu(hK:X.K=W.K):BE X (binaryOp .Add) (PN W Y4):=by
 intro pins s σ H x y v u Q I rx ry ⟨F,a,b,c,sub,va,vb,hg,q⟩;unfold Y4 at hg;split at hg
 ·obtain⟨j,h1,h2⟩:=aA.mp hg;cases Cs h1;cases va;cases vb;cases h2;exact Yr pins s σ H _ _ v u Q I rx ry ⟨_,_,rfl,rfl,q.int sub⟩
 ·obtain⟨j,h1,h2⟩:=aA.mp hg;obtain⟨hl,rfl⟩:=Aq h2;cases FS h1;cases va;cases vb;exact LM pins s σ H _ _ v u Q I rx ry ⟨_,_,rfl,rfl,hl,q.str sub⟩
 ·obtain⟨j,h1,h2⟩:=aA.mp hg;obtain⟨hl,rfl⟩:=Aq h2;cases EE h1;obtain⟨p,vs,rfl,hp,r⟩:=va;obtain⟨p',vs',rfl,hp',r'⟩:=vb;exact Yp pins s σ H _ _ v u Q I rx ry ⟨p,p',_,_,rfl,rfl,hp,hp',by rw[←r.len,←r'.len];exact hl,λp2 n=>q.lst sub n (r.app r')⟩
 cases hg
def o8(hK:X.K=W.K):BE X (binaryOp .Mult) (PN W Y2):=by
 intro pins s σ H x y v u Q I rx ry ⟨F,a,b,c,sub,va,vb,hg,q⟩;unfold Y2 at hg;split at hg
 ·obtain⟨j,h1,h2⟩:=aA.mp hg;obtain⟨hl,rfl⟩:=Aq h2;cases Cs h1;cases va;cases vb;refine Yl pins s σ H _ _ v u Q I rx ry ⟨_,_,rfl,rfl,?_,q.int sub⟩;simp only[Dt,Bool.or_eq_true,Bool.and_eq_true,decide_eq_true_eq]at hl;exact hl
 ·obtain⟨j,h1,h2⟩:=aA.mp hg;obtain⟨⟨p1,p2,p3⟩,rfl⟩:=Aq h2;cases Cs h1;cases va;cases vb;exact UJ pins s σ H _ _ v u Q I rx ry ⟨_,_,rfl,rfl,p1,p2,p3,q.str sub⟩
 ·obtain⟨j,h1,h2⟩:=aA.mp hg;obtain⟨⟨p1,p2,p3⟩,rfl⟩:=Aq h2;cases Cs h1;obtain⟨p,vs,rfl,hp,r⟩:=va;cases vb;exact Yi pins s σ H _ _ v u Q I rx ry ⟨p,_,vs,rfl,rfl,hp,p1,p2,by rw[←r.len];exact p3,λp2 n=>q.lst sub n (r.rep _)⟩
 cases hg
def Wo(t:PN W (Pi f) x y H Q):∃i j c,x=.int i/\y=.int j/\f i j=some c/\∃F,Am F H/\JA W F H c Q:=by
 obtain⟨F,a,b,c,sub,va,vb,hg,q⟩:=t;obtain⟨i,j,rfl,rfl,hf⟩:=EG hg;exact⟨i,j,c,va,vb,hf,F,sub,q⟩
def Vf{f:Int->Int->Option MV}{g:Int->Int->Int}(e:∀i j,f i j=some (.int (g i j))){x y:V}(t:PN W (Pi f) x y H Q):PP (λi j=>.int (g i j)) x y H Q:=by
 obtain⟨i,j,c,rfl,rfl,hf,F,sub,q⟩:=Wo t;rw[e]at hf;cases hf;exact⟨_,_,rfl,rfl,q.int sub⟩
def Sd{f:Int->Int->Option MV}{C:Int->Int->Prop}{P:Int->Int->Prop}[∀i j,Decidable (P i j)]{g:Int->Int->Int}(e:∀i j,f i j=if P i j then some (.int (g i j)) else none)(pc:∀i j,P i j->C i j){x y:V}(t:PN W (Pi f) x y H Q):rI C (λi j=>.int (g i j)) x y H Q:=by
 obtain⟨i,j,c,rfl,rfl,hf,F,sub,q⟩:=Wo t;rw[e]at hf;obtain⟨hl,rfl⟩:=Aq hf;exact⟨_,_,rfl,rfl,pc _ _ hl,q.int sub⟩
def ZP{X:Cx}{W:Wd}(hK:X.K=W.K)(o:WA):BE X (binaryOp o.op) (PN W (Ck o)):=by
 have pw:∀i j,BZ i j=true->0<=j/\j<=1000000/\i.natAbs<2^64:=λi j hl=>by
  simp only[BZ,Bool.and_eq_true,decide_eq_true_eq]at hl;exact⟨hl.1.1,hl.1.2,hl.2⟩
 cases o with
 |add=>exact qu hK
 |mul=>exact o8 hK
 |sub=>exact BE.of Yf λ_ _ _ _ t=>Vf (λ_ _=>rfl) t
 |fdiv=>exact BE.of R7 λ_ _ _ _ t=>Sd (P:=λ_ j=>0<j/\j<10000000000000000000000000000000000000000) (λ_ _=>rfl) (λ_ _ h=>h) t
 |mod=>exact BE.of Ym λ_ _ _ _ t=>Sd (λ_ _=>rfl) (λ_ _ h=>h) t
 |pow=>exact BE.of Yj λ_ _ _ _ t=>Sd (λ_ _=>rfl) pw t
 |shl=>exact BE.of Yh λ_ _ _ _ t=>Sd (λ_ _=>rfl) pw t
 |shr=>exact BE.of Yg λ_ _ _ _ t=>Sd (λ_ _=>rfl) (λ_ _ h=>h) t
 |and=>exact BE.of Yq λ_ _ _ _ t=>Vf (λ_ _=>rfl) t
 |or=>exact BE.of ij λ_ _ _ _ t=>Vf (λ_ _=>rfl) t
 |xor=>exact BE.of Ye λ_ _ _ _ t=>Vf (λ_ _=>rfl) t
end B
namespace B
open PySem L2 PySem.SeqAt
open PyProof.Rows hiding St
mutual
noncomputable def Ej:MV->PyData
 |.non=>.none
 |.bl b=>.bool b
 |.int i=>.int i
 |.str x=>.str x
 |.lst l=>.list (Er l)
 |.tup l=>.tuple (Er l)
 |_=>.none
noncomputable def Er:List MV->List PyData
 |[]=>[]
 |m::ms=>Ej m::Er ms
end
mutual
noncomputable def sh:MV->Nat->Bool
 |.non,_=>true
 |.bl _,_=>true
 |.int _,_=>true
 |.str x,_=>PyData.strOk x
 |.lst l,n+1=>BN l n
 |.tup l,n+1=>BN l n
 |_,_=>false
noncomputable def BN:List MV->Nat->Bool
 |[],_=>true
 |m::ms,n=>sh m n&&BN ms n
end
section
mutual
theorem Ap.rdD(s:Am F H):∀{m:MV}{v:V}{n:Nat},Ap W F m v->sh m n=true->Lv W.K H v (Ej m)
 |.non,_,_,h,_=>by unfold Ap at h;subst h;unfold Ej;exact .non
 |.bl b,_,_,h,_=>by unfold Ap at h;subst h;unfold Ej;exact .bl b
 |.int i,_,_,h,_=>by unfold Ap at h;subst h;unfold Ej;exact .int i
 |.str x,_,_,h,_=>by unfold Ap at h;subst h;unfold Ej;exact .str x
 |.lst l,_,n,h,q=>by
  unfold Ap at h;obtain⟨a,vs,rfl,e,r⟩:=h;cases n with
  |zero=>simp[sh]at q
  |succ n=>
   unfold Ej;exact .lst (.inl (.inl (s _ _ e))) (Ad.rdD s r (by simpa[sh]using q))
 |.tup l,_,n,h,q=>by
  unfold Ap at h;obtain⟨a,vs,rfl,e,r⟩:=h;cases n with
  |zero=>simp[sh]at q
  |succ n=>
   unfold Ej;exact .tup (.inl (.inl (s _ _ e))) (Ad.rdD s r (by simpa[sh]using q))
 |.scr _,_,n,_,q=>by cases n<;>simp[sh]at q
 |.dic _ _ _,_,n,_,q=>by cases n<;>simp[sh]at q
 |.obj _ _ _,_,n,_,q=>by cases n<;>simp[sh]at q
 |.cls _,_,n,_,q=>by cases n<;>simp[sh]at q
 |.ty _,_,n,_,q=>by cases n<;>simp[sh]at q
 |.lam _ _,_,n,_,q=>by cases n<;>simp[sh]at q
theorem Ad.rdD(s:Am F H):∀{ms:List MV}{vs:List V}{n:Nat},Ad W F ms vs->BN ms n=true->Ha W.K H vs (Er ms)
 |[],_,_,h,_=>by rw[h.nil_iff];unfold Er;exact .nil
 |m::ms,_,n,h,q=>by
  obtain⟨v,r,rfl,h1,h2⟩:=h.uncons;have q:sh m n=true/\BN ms n=true:=by simpa[BN]using q
  unfold Er;exact .cons (Ap.rdD s h1 q.1) (Ad.rdD s h2 q.2)
end
mutual
theorem IF:∀{m:MV}{n:Nat},sh m n=true->(Ej m).canLay0=true/\(Ej m).depth<=n
 |.non,_,_=>by unfold Ej;exact⟨by simp[PyData.canLay0],by simp[PyData.depth]⟩
 |.bl _,_,_=>by unfold Ej;exact⟨by simp[PyData.canLay0],by simp[PyData.depth]⟩
 |.int _,_,_=>by unfold Ej;exact⟨by simp[PyData.canLay0],by simp[PyData.depth]⟩
 |.str _,_,q=>by unfold Ej;exact⟨by simpa[PyData.canLay0,sh]using q,by simp[PyData.depth]⟩
 |.lst l,0,q=>by simp[sh]at q
 |.lst l,n+1,q=>by
  obtain⟨h1,h2⟩:=IE (by simpa[sh]using q);unfold Ej;exact⟨by simpa[PyData.canLay0]using h1,by simpa[PyData.depth]using h2⟩
 |.tup l,0,q=>by simp[sh]at q
 |.tup l,n+1,q=>by
  obtain⟨h1,h2⟩:=IE (by simpa[sh]using q);unfold Ej;exact⟨by simpa[PyData.canLay0]using h1,by simpa[PyData.depth]using h2⟩
 |.scr _,n,q=>by cases n<;>simp[sh]at q
 |.dic _ _ _,n,q=>by cases n<;>simp[sh]at q
 |.obj _ _ _,n,q=>by cases n<;>simp[sh]at q
 |.cls _,n,q=>by cases n<;>simp[sh]at q
 |.ty _,n,q=>by cases n<;>simp[sh]at q
 |.lam _ _,n,q=>by cases n<;>simp[sh]at q
theorem IE:∀{ms:List MV}{n:Nat},BN ms n=true->PyData.canLayAll0 (Er ms)=true/\PyData.depthAll (Er ms)<=n
 |[],_,_=>by unfold Er;exact⟨by simp[PyData.canLayAll0],by simp[PyData.depthAll]⟩
 |m::ms,n,q=>by
  have q:sh m n=true/\BN ms n=true:=by simpa[BN]using q
  obtain⟨h1,h2⟩:=IF q.1;obtain⟨h3,h4⟩:=IE q.2;unfold Er;exact⟨by simp[PyData.canLayAll0,h1,h3],by simp only[PyData.depthAll];lia⟩
end
def HF{n:Nat}(h:sh m n=true)(hn:n<=64):shaped (Ej m)=true:=by
 obtain⟨h1,h2⟩:=IF h;unfold shaped;rw[h1,cL (aV h2 hn)];rfl
theorem Br.rdD{n:Nat}(s:Am F H)(h:Br W F H m v)(q:sh m n=true):Lv W.K H v (Ej m):=by
 cases m with
 |lst l=>
  obtain⟨a,vs,rfl,e,r⟩:=h;cases n with
  |zero=>simp[sh]at q
  |succ n=>unfold Ej;exact .lst (.inl (.inl e)) (r.rdD s (by simpa[sh]using q))
 |tup l=>exact Ap.rdD (F:=F) s (by unfold Ap;exact h) q
 |non=>exact Ap.rdD (F:=F) (m:=.non) s (by unfold Ap;exact h) q
 |bl b=>exact Ap.rdD (F:=F) (m:=.bl b) s (by unfold Ap;exact h) q
 |int b=>exact Ap.rdD (F:=F) (m:=.int b) s (by unfold Ap;exact h) q
 |str b=>exact Ap.rdD (F:=F) (m:=.str b) s (by unfold Ap;exact h) q
 |_=>cases n<;>simp[sh]at q
end
inductive JC where|eq|ne|lt|le|gt|ge|is_|isnot|in_|notin
noncomputable def JC.op:JC->CmpOp
 |.eq=>.Eq| .ne=>.NotEq| .lt=>.Lt| .le=>.LtE| .gt=>.Gt| .ge=>.GtE| .is_=>.Is| .isnot=>.IsNot| .in_=>.In| .notin=>.NotIn
noncomputable def Gn:MV->MV->Bool
 |.non,.non=>true| .non,.int _=>true| .int _,.non=>true| .non,.bl _=>true| .bl _,.non=>true| .non,.str _=>true| .str _,.non=>true
 |.int _,.int _=>true| .bl _,.bl _=>true| .str _,.str _=>true
 |.int _,.str _=>true| .str _,.int _=>true| .bl _,.str _=>true| .str _,.bl _=>true
 |_,_=>false
noncomputable def O0:MV->MV->Bool
 |.non,.non=>true
 |.int i,.int j=>decide (i=j)
 |.bl i,.bl j=>decide (i=j)
 |.str i,.str j=>decide (i=j)
 |_,_=>false
noncomputable def PV(a b:MV):Bool:=PyData.eqv (Ej a) (Ej b)
noncomputable def PX(a b:MV):Option Bool:=if Gn a b=true then some (O0 a b) else if (sh a 60&&sh b 60)=true then some (PV a b) else none
noncomputable def KP:MV->Bool
 |.non=>true| .bl _=>true| .int _=>true| .str _=>true|_=>false
noncomputable def Jt:MV->MV->Bool
 |.non,.non=>true
 |.bl a,.bl b=>a ==b
 |.bl a,.int b=>(if a then 1 else 0) ==b
 |.int a,.bl b=>a ==(if b then 1 else 0)
 |.int a,.int b=>a ==b
 |.str a,.str b=>a ==b
 |_,_=>false
noncomputable def Tz(a:MV)(l:List MV):Option Bool:=if (KP a&&l.all KP)=true then some (l.any λy=>Jt y a) else if (sh a 60&&BN l 60)=true then some (l.any λy=>PV y a) else none
noncomputable def oU(x y:Str):Bool:=!(Builtin.Str.occurrences y x 0 y.length 1).isEmpty
noncomputable def Bu:MV->Option Key
 |.int i=>some (.inl i)
 |.str x=>some (.inr x)
 |_=>none
noncomputable def Be:List MV->Option (List Key)
 |[]=>some []
 |m::ms=>match Bu m,Be ms with
  |some k,some ks=>some (k::ks)
  |_,_=>none
noncomputable def look:List MV->List MV->MV->Option MV
 |k::ks,v::vs,m=>if seqK k m=true then some v else look ks vs m
 |_,_,_=>none
where
 seqK:MV->MV->Bool
 |.tup a,.tup b=>match Be a,Be b with
  |some x,some y=>decide (x=y)
  |_,_=>false
 |a,b=>match Bu a,Bu b with
  |some x,some y=>decide (x=y)
  |_,_=>false
noncomputable def Y3(a:MV):MV->Option Bool
 |.str y=>match a with
  |.str x=>some (oU x y)
  |_=>none
 |.lst l=>Tz a l
 |_=>none
noncomputable def Sg:JC->Int->Int->Option Bool
 |.lt,i,j=>some (decide (i<j))
 |.le,i,j=>some (decide (i<=j))
 |.gt,i,j=>some (decide (j<i))
 |.ge,i,j=>some (decide (j<=i))
 |_,_,_=>none
noncomputable def Yv:MV->Option Bool
 |.non=>some true
 |.lam _ _=>none
 |_=>some false
noncomputable def Sb:MV->Bool
 |.non=>true
 |_=>false
def NB(h:Sb m=true):m=.non:=by cases m<;>cases h;rfl
noncomputable def AL:JC->MV->MV->Option Bool
 |.eq,a,b=>PX a b
 |.ne,a,b=>(PX a b).map (!·)
 |.is_,a,b=>if Sb b=true then Yv a else none
 |.isnot,a,b=>if Sb b=true then(Yv a).map (!·) else none
 |.in_,a,b=>Y3 a b
 |.notin,a,b=>(Y3 a b).map (!·)
 |o,a,b=>Pi (Sg o) a b
section
def Ub(va:Br W F H a x)(vb:Br W F H b y)(h:Gn a b=true):Uc x y=true/\decide (x=y)=O0 a b:=by
 cases a<;>cases b<;>first|(exact absurd h aB)|(cases va;cases vb;exact⟨rfl,by simp[O0]⟩)
def NJ(va:Br W F H a x)(h:KP a=true):Dc x=true:=by
 cases a<;>first|(exact absurd h aB)|(cases va;rfl)
def jx(va:Ap W F a x)(h:KP a=true):Dc x=true:=by
 cases a<;>first|(exact absurd h aB)|(unfold Ap at va;subst va;rfl)
def Vv(va:Ap W F a x)(vb:Br W F H b y)(h:KP a=true)(h':KP b=true):Vt x y=Jt a b:=by
 cases a<;>first|(exact absurd h aB)|(unfold Ap at va;subst va;cases b<;>first|(exact absurd h' aB)|(cases vb;rfl))
theorem jh(va:Br W F H a x)(h:KP a=true):∀{l:List MV}{vs:List V},Ad W F l vs->l.all KP=true->vs.all Dc=true/\lG x vs=l.any λy=>Jt y a
 |[],_,r,_=>by rw[r.nil_iff];exact⟨rfl,rfl⟩
 |m::ms,_,r,q=>by
  obtain⟨v,vs,rfl,h1,h2⟩:=r.uncons;have q:KP m=true/\ms.all KP=true:=by simpa using q
  obtain⟨i1,i2⟩:=jh va h h2 q.2;refine⟨by simp[jx h1 q.1,i1],?_⟩;have e:=Vv h1 va q.1 h;unfold lG at i2 ⊢;rw[cT,cT,i2,e]
def YR(hK:X.K=W.K)(I:Af X pins σ H s)(hu:A.units+66<cLine)(sub:Am F H)(va:Br W F H a x)(vm:Ap W F m y)(rx:As x u)(ry:As y v)(sa:sh a 60=true)(sm:sh m 60=true) :
 SeqAt.EqAt A s v u (PV m a):=by
 have d1:=va.rdD sub sa;have d2:=vm.rdD sub sm;rw[←hK]at d1 d2;obtain⟨as,ra⟩:=d1.reads I rx;obtain⟨bs,rb⟩:=d2.reads I ry;obtain⟨l1,l2⟩:=IF sa;obtain⟨l3,l4⟩:=IF sm;exact PySem.SeqAt.eqAt_reads _ _ A s _ _ _ _ rb ra l3 l1 (by lia)
mutual
theorem Ap.det:∀{m m':MV}{v:V}{n n':Nat},Ap W F m v->Ap W F m' v->sh m n=true->sh m' n'=true->Ej m=Ej m'
 |m,m',v,n,n',h,h',q,q'=>by
  cases m<;>first|(cases n<;>simp[sh]at q;done)|skip
  all_goals cases m'<;>first|(cases n'<;>simp[sh]at q';done)|skip
  all_goals unfold Ap at h h'
  all_goals first
   |(subst h;cases h';done)
   |(subst h;cases h';rfl)
   |(subst h;obtain⟨_,_,z,_⟩:=h';cases z;done)
   |(subst h';obtain⟨_,_,z,_⟩:=h;cases z;done)
   |skip
  ·rename_i l l';obtain⟨a,vs,rfl,e,r⟩:=h;obtain⟨a',vs',z,e',r'⟩:=h';cases z;rw[e]at e';cases e';cases n with
   |zero=>simp[sh]at q
   |succ n=>
    cases n' with
    |zero=>simp[sh]at q'
    |succ n'=>
     unfold Ej;rw[Ad.det r r' (by simpa[sh]using q) (by simpa[sh]using q')]
  ·obtain⟨a,vs,rfl,e,r⟩:=h;obtain⟨a',vs',z,e',r'⟩:=h';cases z;rw[e]at e';cases e'
  ·obtain⟨a,vs,rfl,e,r⟩:=h;obtain⟨a',vs',z,e',r'⟩:=h';cases z;rw[e]at e';cases e'
  rename_i l l';obtain⟨a,vs,rfl,e,r⟩:=h;obtain⟨a',vs',z,e',r'⟩:=h';cases z;rw[e]at e';cases e';cases n with
  |zero=>simp[sh]at q
  |succ n=>
   cases n' with
   |zero=>simp[sh]at q'
   |succ n'=>
    unfold Ej;rw[Ad.det r r' (by simpa[sh]using q) (by simpa[sh]using q')]
theorem Ad.det:∀{ms ms':List MV}{vs:List V}{n n':Nat},Ad W F ms vs->Ad W F ms' vs->BN ms n=true->BN ms' n'=true->Er ms=Er ms'
 |[],ms',vs,_,_,h,h',_,_=>by
  rw[h.nil_iff]at h';have:=h'.len;obtain rfl:=cH.mp this;rfl
 |m::ms,ms',vs,n,n',h,h',q,q'=>by
  obtain⟨v,r,rfl,h1,h2⟩:=h.uncons;cases ms' with
  |nil=>have:=h'.nil_iff;cases this
  |cons m' ms'=>
   obtain⟨v',r',z,h3,h4⟩:=h'.uncons;cases z;have q:sh m n=true/\BN ms n=true:=by simpa[BN]using q
   have q':sh m' n'=true/\BN ms' n'=true:=by simpa[BN]using q'
   unfold Er;rw[Ap.det h1 h3 q.1 q'.1,Ad.det h2 h4 q.2 q'.2]
end
open Classical in
def tX(hK:X.K=W.K)(I:Af X pins σ H s)(hu:X.A.units+70<cLine)(sub:Am F H){l:List MV}{its:List Value}(va:Br W F H a x)(rx:As x u)(r:Ad W F l vs)(rv:Al vs its)(sa:sh a 60=true)(sl:BN l 60=true) :
 ∃e:Value->Bool,(∀y,y∈its.toArray->SeqAt.EqAt X.A.in1 s y u (e y))/\its.toArray.any e=l.any λy=>PV y a:=by
 have each:∀{l:List MV}{i:Nat}{m:MV},BN l 60=true->l[i]?=some m->sh m 60=true:=by
  intro l
  induction l with
  |nil=>intro i m _ e;simp at e
  |cons k ks ih=>
   intro i m q e;have q:sh k 60=true/\BN ks 60=true:=by simpa[BN]using q
   cases i with
   |zero=>simp at e;subst e;exact q.1
   |succ i=>exact ih q.2 (by simpa using e)
 have hu1:X.A.in1.units+66<cLine:=by
  have:X.A.in1.units<=X.A.units+1:=by first|exact aH _|exact cX _|simp[Around.in1]
  lia
 have lenv:=rv.length;have lenm:=r.len;refine⟨λy=>decide (∃(i:Nat) (m:MV),its[i]?=some y/\l[i]?=some m/\PV m a=true),λy hy=>?_,?_⟩
 ·have hy:y∈its:=by simpa using hy
  obtain⟨i,hi,rfl⟩:=cV.mp hy;have e0:its[i]?=some its[i]:=by simp[hi]
  have il:i<l.length:=by lia
  have e1:l[i]?=some l[i]:=by simp[il]
  obtain⟨v,ev,rep⟩:=r.get e1;obtain⟨u',eu,ru⟩:=rv.get ev;rw[e0]at eu;cases eu;have sm:=each sl e1;have g:=YR hK I hu1 sub va rep rx ru sa sm;have ed:decide (∃(j:Nat) (m:MV),its[j]?=some its[i]/\l[j]?=some m/\PV m a=true)=PV l[i] a:=by
   rw[cO,fA];constructor
   ·rintro⟨j,m,h1,h2,h3⟩;obtain⟨v2,ev2,rep2⟩:=r.get h2;obtain⟨u2,eu2,ru2⟩:=rv.get ev2;rw[h1]at eu2;cases eu2;have hv:v2=v:=L2.As.inj ru2 ru;subst hv;unfold PV at h3 ⊢;rw[←Ap.det rep2 rep (each sl h2) sm];exact h3
   exact λh=>⟨i,_,e0,e1,h⟩
  show SeqAt.EqAt _ _ _ _ (decide _);rw[ed];exact g
 rw[List.any_toArray,cO,eF,eF];constructor
 ·rintro⟨y,hy,e⟩;obtain⟨i,m,h1,h2,h3⟩:=bB e;exact⟨m,aQ h2,h3⟩
 rintro⟨m,hm,e⟩;obtain⟨i,hi,rfl⟩:=cV.mp hm;have ii:i<its.length:=by lia
 exact⟨its[i],hZ ii,cL ⟨i,l[i],by simp[ii],by simp[hi],e⟩⟩
def iW(hK:X.K=W.K)(hu:X.A.units+70<cLine){neg:Bool}{pins:Pq}{k:Bool}{x y:V}(I:Af X pins σ H s)(rx:As x v)(ry:As y u)(sub:Am F H)(va:Br W F H a x)(vb:Br W F H b y)(hg:Y3 a b=some k)(q:Q (.bl (if neg then !k else k)) H) :
 wpAny (model X.prog X.w) X.A (compareOp (if neg then .NotIn else .In) v u) (EP X pins σ Q) X.xe s:=by
 have seq:∀{p:Addr}{l:List MV}{vs:List V},y=.ref p->D4 X.K H p vs->Ad W F l vs->Tz a l=some k->wpAny (model X.prog X.w) X.A (compareOp (if neg then .NotIn else .In) v u) (EP X pins σ Q) X.xe s:=by
  intro p l vs ey hq r hg;subst ey;unfold Tz at hg;by_cases hf:(KP a&&l.all KP)=true
  ·rw[if_pos hf]at hg;cases hg;have hf:KP a=true/\l.all KP=true:=by simpa using hf
   obtain⟨i1,i2⟩:=jh va hf.1 r hf.2;cases neg with
   |false=>exact OM pins s σ H x _ v u Q I rx ry ⟨p,vs,rfl,.inl hq,NJ va hf.1,i1,by rw[i2];exact q⟩
   |true=>exact IQ pins s σ H x _ v u Q I rx ry ⟨p,vs,rfl,.inl hq,NJ va hf.1,i1,by rw[i2];exact q⟩
  rw[if_neg hf]at hg;obtain⟨hs,rfl⟩:=Aq hg;have hs:sh a 60=true/\BN l 60=true:=by simpa using hs
  cases ry;obtain⟨its,rv,pl,_⟩:=I.list hq;obtain⟨e,h1,h2⟩:=tX hK I hu sub va rx r rv hs.1 hs.2;cases neg with
  |false=>exact SeqAt.in_listAt e pl.isList h1 ⟨.bl _,H,I,rfl,by rw[h2];exact q⟩
  |true=>exact SeqAt.notIn_listAt e pl.isList h1 ⟨.bl _,H,I,rfl,by rw[h2];exact q⟩
 cases b with
 |str z=>
  cases a<;>simp only[Y3]at hg<;>first|(cases hg;done)|skip
  cases hg;cases va;cases vb;cases neg with
  |false=>exact OL pins s σ H _ _ v u Q I rx ry ⟨_,_,rfl,rfl,q⟩
  |true=>exact IP pins s σ H _ _ v u Q I rx ry ⟨_,_,rfl,rfl,q⟩
 |lst l=>
  obtain⟨p,vs,e,hp,r⟩:=vb;exact seq e (.inl (.inl hp)) r hg
 |_=>cases hg
def BD(va:Br W F H a x)(h:Yv a=some k):decide (x=.non)=k:=by
 cases a<;>cases h
 all_goals first
  |(exact va.elim)
  |(cases va;rfl)
  |(obtain⟨_,_,rfl,_⟩:=va;rfl)
  |(obtain⟨_,_,_,rfl,_⟩:=va;rfl)
def Sa{α:Type}{p:Prop}[Decidable p]{x:Option α}{k:α}(h:(if p then x else none)=some k):p/\x=some k:=by
 by_cases hp:p
 ·rw[if_pos hp]at h;exact⟨hp,h⟩
 rw[if_neg hp]at h;cases h
def pV(hK:X.K=W.K)(hu:X.A.units+70<cLine)(o:JC):BE X (compareOp o.op) (PN W λa b=>(AL o a b).map .bl):=by
 intro pins s σ H x y v u Q I rx ry ⟨F,a,b,c,sub,va,vb,hg,q⟩;obtain⟨k,hk,rfl⟩:=aE.mp hg;have q:=q.bl sub;have data:∀{j:Bool},PX a b=some j->(Uc x y=true/\decide (x=y)=j)\/(Lv X.K H x (Ej a)/\Lv X.K H y (Ej b)/\shaped (Ej a)=true/\shaped (Ej b)=true/\PV a b=j):=by
  intro j h;unfold PX at h;by_cases hs:Gn a b=true
  ·rw[if_pos hs]at h;cases h;exact .inl (Ub va vb hs)
  rw[if_neg hs]at h;obtain⟨hs,rfl⟩:=Aq h;have hs:sh a 60=true/\sh b 60=true:=by simpa using hs
  rw[hK];exact .inr ⟨va.rdD sub hs.1,vb.rdD sub hs.2,HF hs.1 (by decide),HF hs.2 (by decide),rfl⟩
 cases o with
 |eq=>
  rcases data hk with⟨h1,h2⟩|⟨h1,h2,h3,h4,h5⟩
  ·exact ir pins s σ H x y v u Q I rx ry ⟨h1,by rw[h2];exact q⟩
  exact Yo (by lia) pins s σ H x y v u Q I rx ry ⟨_,_,h1,h2,h3,h4,by rw[←h5]at q;exact q⟩
 |ne=>
  obtain⟨j,hj,rfl⟩:=aE.mp hk;rcases data hj with⟨h1,h2⟩|⟨h1,h2,h3,h4,h5⟩
  ·exact ik pins s σ H x y v u Q I rx ry ⟨h1,by rw[h2];exact q⟩
  exact Yk (by lia) pins s σ H x y v u Q I rx ry ⟨_,_,h1,h2,h3,h4,by rw[←h5]at q;exact q⟩
 |lt=>
  obtain⟨i,j,rfl,rfl,hf⟩:=EG (f:=Sg .lt) hk;cases va;cases vb;cases hf;exact im pins s σ H _ _ v u Q I rx ry ⟨_,_,rfl,rfl,q⟩
 |le=>
  obtain⟨i,j,rfl,rfl,hf⟩:=EG (f:=Sg .le) hk;cases va;cases vb;cases hf;exact io pins s σ H _ _ v u Q I rx ry ⟨_,_,rfl,rfl,q⟩
 |gt=>
  obtain⟨i,j,rfl,rfl,hf⟩:=EG (f:=Sg .gt) hk;cases va;cases vb;cases hf;exact ip pins s σ H _ _ v u Q I rx ry ⟨_,_,rfl,rfl,q⟩
 |ge=>
  obtain⟨i,j,rfl,rfl,hf⟩:=EG (f:=Sg .ge) hk;cases va;cases vb;cases hf;exact iq pins s σ H _ _ v u Q I rx ry ⟨_,_,rfl,rfl,q⟩
 |is_=>
  obtain⟨hb,hk⟩:=Sa (p:=Sb b=true) hk;cases NB hb;cases vb;exact Yn pins s σ H _ _ v u Q I rx ry ⟨rfl,by rw[BD va hk];exact q⟩
 |isnot=>
  obtain⟨hb,hk⟩:=Sa (p:=Sb b=true) hk;cases NB hb;cases vb;obtain⟨j,hj,rfl⟩:=aE.mp hk;exact UI pins s σ H _ _ v u Q I rx ry ⟨rfl,by rw[BD va hj];exact q⟩
 |in_=>exact iW (neg:=false) hK hu I rx ry sub va vb hk q
 |notin=>
  obtain⟨j,hj,rfl⟩:=aE.mp hk;exact iW (neg:=true) hK hu I rx ry sub va vb hj q
end
structure Ci where
 nm:Str
 exc:Bool
 flds:List Nat
 isa:List Nat
 init:Option Nat
 mts:List (Nat×Nat)
structure Kt(cs:List Ci)(W:Wd):Prop where
 kc:∀(c:Nat) (i:Ci),cs[c]?=some i->i.exc=false->Tv W.K (W.ca c)/\PySem.W.findIn W.K (.ref (W.ca c)) "__class__"=some (some (.builtin "object.__class__"))/\PySem.W.specialIn W.K (.builtin "object.__class__") "__get__"=some (some (.builtin "getset_descriptor.__get__"))/\
  PySem.W.takesIn W.K (.builtin "object.__class__")=some true/\PySem.W.mroIn W.K (W.ca c) (.type "object")=some true
 kn:∀(c:Nat) (i:Ci) (n:Nat),cs[c]?=some i->n∈i.flds->i.exc=false->Fp W.K (W.ca c) (W.nm n)
 ki:∀(c d:Nat) (i j:Ci),cs[c]?=some i->cs[d]?=some j->PySem.W.kitOne W.K (.ref (W.ca c)) (.ref (W.ca d))=some (decide (d∈i.isa))
section
inductive Z7 where|neg|inv
noncomputable def Z7.op:Z7->UnaryOp
 |.neg=>.USub| .inv=>.Invert
noncomputable def We:Z7->MV->Option MV
 |.neg,.int i=>some (.int (-i))
 |.inv,.int i=>some (.int (Builtin.bitNot i))
 |_,_=>none
def tu(o:Z7):jY X (unaryOp o.op) (rq W (We o)):=by
 intro pins s σ H x v Q I rx ⟨F,a,c,sub,va,hg,q⟩;cases o with
 |neg=>
  cases a<;>simp only[We]at hg<;>first|(cases hg;done)|skip
  cases va;cases hg;exact WI pins s σ H _ v Q I rx ⟨_,rfl,q.int sub⟩
 |inv=>
  cases a<;>simp only[We]at hg<;>first|(cases hg;done)|skip
  cases va;cases hg;exact WJ pins s σ H _ v Q I rx ⟨_,rfl,q.int sub⟩
noncomputable def Ma:MV->MV->Option MV
 |.lst l,.int i=>BA l i
 |.scr l,.int i=>BA l i
 |.tup l,.int i=>BA l i
 |.str z,.int i=>if z.length<=big then(BA z.cps.toList i).map λc=>.str ⟨#[c]⟩ else none
 |.dic _ ks vs,k=>look ks vs k
 |_,_=>none
def M7{i:Int}(r:Ad W F l vs)(h:BA l i=some m):∃v,BA vs i=some v/\Ap W F m v:=by
 unfold BA at h ⊢;rw[r.len]at h;cases e:N9 vs.length i with
 |none=>rw[e]at h;cases h
 |some j=>
  rw[e]at h;exact r.get h
def RW(h:Bu m=some k)(va:Br W F H m v):v=kV k:=by
 cases m<;>simp only[Bu]at h<;>first|(cases h;done)|skip
 all_goals cases h;cases va;rfl
def KA(h:Bu m=some k)(va:Ap W F m v):v=kV k:=by
 cases m<;>simp only[Bu]at h<;>first|(cases h;done)|skip
 all_goals cases h;unfold Ap at va;exact va
theorem DD:∀{ms:List MV}{ks:List Key}{vs:List V},Be ms=some ks->Ad W F ms vs->vs=ks.map kV
 |[],_,_,h,r=>by simp only[Be]at h;cases h;rw[r.nil_iff];rfl
 |m::ms,_,_,h,r=>by
  obtain⟨v,vs,rfl,h1,h2⟩:=r.uncons;unfold Be at h;cases e1:Bu m with
  |none=>rw[e1]at h;cases h
  |some k=>
   cases e2:Be ms with
   |none=>rw[e1,e2]at h;cases h
   |some ks=>
    rw[e1,e2]at h;cases h;rw[KA e1 h1,DD e2 h2];rfl
theorem Dv:∀ks,Be (ks.map Cb)=some ks
 |[]=>rfl
 |k::ks=>by
  show(match Bu (Cb k),Be (ks.map Cb) with|some k,some ks=>some (k::ks)|_,_=>none)=_;rw[Dv ks];cases k<;>rfl
theorem RM:∀{kk:List (List Key)}{ms:List MV}{vs:List V}{q:List Key},Ad W F ms vs->kk.length=vs.length->(∃l,m=.tup l/\Be l=some q)->
 (match look (kk.map λk=>.tup (k.map Cb)) ms m,Ep (kk.zip vs) q with|some c,some v=>Ap W F c v|none,none=>True|_,_=>False)
 |[],ms,vs,q,r,e,⟨l,hl,hq⟩=>by
  obtain rfl:vs=[]:=cH.mp (by simpa using e.symm);simp[look,Ep]
 |k::kk,ms,vs,q,r,e,⟨l,hl,hq⟩=>by
  cases vs with
  |nil=>simp at e
  |cons v vs=>
   have lm:=r.len;cases ms with
   |nil=>simp at lm
   |cons c ms=>
    obtain⟨v',vs',z,h1,h2⟩:=r.uncons;cases z;subst hl;have ih:=RM (m:=.tup l) (kk:=kk) (q:=q) h2 (by simpa using e) ⟨l,rfl,hq⟩;rw[aF,bF];unfold look;have e1:look.seqK (.tup (k.map Cb)) (.tup l)=decide (k=q):=by
     simp only[look.seqK,Dv,hq]
    rw[e1];by_cases hk:k=q
    ·rw[cL hk,if_pos rfl,Dk (p:=(k,v)) hk];exact h1
    rw[bL hk,if_neg (by decide),Dl (p:=(k,v)) hk];exact ih
theorem RN(hm:Bu m=some q):∀{kk:List Key}{ms:List MV}{vs:List V},Ad W F ms vs->kk.length=vs.length->
 (match look (kk.map Cb) ms m,Ep (kk.zip vs) q with|some c,some v=>Ap W F c v|none,none=>True|_,_=>False)
 |[],ms,vs,r,e=>by
  obtain rfl:vs=[]:=cH.mp (by simpa using e.symm);simp[look,Ep]
 |k::kk,ms,vs,r,e=>by
  cases vs with
  |nil=>simp at e
  |cons v vs=>
   have lm:=r.len;cases ms with
   |nil=>simp at lm
   |cons c ms=>
    obtain⟨v',vs',z,h1,h2⟩:=r.uncons;cases z;have ih:=RN hm (kk:=kk) h2 (by simpa using e);rw[aF,bF];unfold look;have e1:look.seqK (Cb k) m=decide (k=q):=by
     unfold look.seqK;cases k<;>cases m<;>simp only[Bu]at hm<;>first|(cases hm;done)|(cases hm;simp[Cb,Bu])
    rw[e1];by_cases hk:k=q
    ·rw[cL hk,if_pos rfl,Dk (p:=(k,v)) hk];exact h1
    rw[bL hk,if_neg (by decide),Dl (p:=(k,v)) hk];exact ih
noncomputable def FN:Bool->MV->Bool
 |true,.tup l=>(Be l).isSome
 |true,_=>false
 |false,m=>(Bu m).isSome
noncomputable def DK(t:Bool)(ks vs:List MV)(m:MV):Option (Option MV):=if FN t m=true then some (look ks vs m) else none
def ZD(W:Wd)(F:Hp):Option MV->Option V->Prop
 |some c,some v=>Ap W F c v
 |none,none=>True
 |_,_=>False
def S7(sub:Am F H)(vd:Br W F H (.dic t ks vs) x)(vm:Br W F H m y)(h:DK t ks vs m=some o):∃a ov,x=.ref a/\Tu H a y ov/\ZD W F o ov:=by
 obtain⟨hd,rfl⟩:=Aq h;obtain⟨a,us,rfl,r,q⟩:=vd;rcases q with⟨kk,rfl,rfl,e,hl⟩|⟨kk,rfl,rfl,e,hl⟩
 ·cases m<;>simp only[FN]at hd<;>first|(exact absurd hd aB)|skip
  rename_i l;obtain⟨q,hq⟩:=bU.mp hd;obtain⟨b,ws,rfl,eb,rb⟩:=vm;refine⟨a,_,rfl,.inr ⟨_,q,b,e,rfl,?_,rfl⟩,?_⟩
  ·rw[←DD hq rb];exact sub _ _ eb
  have:=RM (m:=.tup l) (q:=q) r hl ⟨l,rfl,hq⟩;unfold ZD;split<;>simp_all
 obtain⟨q,hq⟩:=bU.mp (show(Bu m).isSome=true by cases m<;>exact hd);refine⟨a,_,rfl,.inl ⟨_,q,e,RW hq vm,rfl⟩,?_⟩;have:=RN hq (kk:=kk) r hl;unfold ZD;split<;>simp_all
end
section
variable {X:Cx}{W:Wd}{F H:Hp}
noncomputable def AV:JC->MV->MV->Option Bool
 |.in_,a,.dic t ks vs=>(DK t ks vs a).map Option.isSome
 |.notin,a,.dic t ks vs=>(DK t ks vs a).map λo=>!o.isSome
 |o,a,b=>AL o a b
def Ik(hK:X.K=W.K)(hu:X.A.units+70<cLine)(o:JC):BE X (compareOp o.op) (PN W λa b=>(AV o a b).map .bl):=by
 intro pins s σ H x y v u Q I rx ry ⟨F,a,b,c,sub,va,vb,hg,q⟩;have base:∀{r:Option Bool},AV o a b=AL o a b->wpAny (model X.prog X.w) X.A (compareOp o.op v u) (EP X pins σ Q) X.xe s:=λe=>by
  have hg:Option.map MV.bl (AV o a b)=some c:=hg;rw[e]at hg;exact pV hK hu o pins s σ H x y v u Q I rx ry ⟨F,a,b,c,sub,va,vb,hg,q⟩
 cases o with
 |in_=>
  cases b with
  |dic t ks vs=>
   obtain⟨k,hk,rfl⟩:=aE.mp hg;obtain⟨ov,ho,rfl⟩:=aE.mp hk;obtain⟨p,ow,rfl,g,r⟩:=S7 sub vb va ho;cases ry;have e:ov.isSome=ow.isSome:=by cases ov<;>cases ow<;>first|rfl|exact r.elim
   exact pJ (by lia) I g rx λs3 I3=>⟨.bl _,H,I3,rfl,by rw[←e];exact q.bl sub⟩
  |_=>exact base (r:=none) rfl
 |notin=>
  cases b with
  |dic t ks vs=>
   obtain⟨k,hk,rfl⟩:=aE.mp hg;obtain⟨ov,ho,rfl⟩:=aE.mp hk;obtain⟨p,ow,rfl,g,r⟩:=S7 sub vb va ho;cases ry;have e:ov.isSome=ow.isSome:=by cases ov<;>cases ow<;>first|rfl|exact r.elim
   exact Vz (by lia) I g rx λs3 I3=>⟨.bl _,H,I3,rfl,by rw[←e];exact q.bl sub⟩
  |_=>exact base (r:=none) rfl
 |_=>exact base (r:=none) (by cases b<;>rfl)
noncomputable def FW:MV->MV->Option MV
 |.dic t ks vs,k=>(DK t ks vs k).bind id
 |a,b=>Ma a b
def bb{pins:Pq}{σ:St}{T id:String}(hl:typeLookup (.type T) "__getitem__"=pure (some (.builtin id)))(hT:s.TypeIs o T)(hs:subscripted slice false o i=operate [o,i] (getItem o i))
 (h₂:wpAny (model X.prog X.w) X.A (getItem o i) Q X.xe s):wpAny (model X.prog X.w) X.A (subscriptTail value slice o i) Q X.xe s:=by
 unfold subscriptTail;refine a8 ?_;rw[getitemInPython_of_ne hT.not_modules];refine a8 (wpAny_specialOf hT hl ?_);have fin:wpAny (model X.prog X.w) X.A (subscripted slice false o i) (λr s₃=>wpAny (model X.prog X.w) X.A (letTemporaryGo value o r >>=λ_=>pure r) Q X.xe s₃) X.xe s:=by
  rw[hs];exact wpAny_operating (cC h₂ (λr s₃ h₃=>a8 (wpAny_letTemporaryGo (aO h₃))) λ_ _ x=>x)
 first
  |exact aO (a8 fin)
  |exact a8 (aO (a8 fin))
  |exact a8 fin
def tO(hK:X.K=W.K)(hu:X.A.units+70<cLine):kg X (PN W FW):=by
 intro value slice pins s σ H x y v u Q I rx ry ⟨F,a,b,c,sub,va,vb,hg,q⟩ hs;cases a with
 |dic t ks vs=>
  obtain⟨ov,ho,hc⟩:=aA.mp (show(DK t ks vs b).bind id=some c from hg);have hc:=hc;subst hc;obtain⟨p,ow,rfl,g,r⟩:=S7 sub va vb ho;cases rx;cases ow with
  |none=>exact r.elim
  |some w'=>exact bb (σ:=σ) (pins:=pins) PySem.F.slot_dict_getitem.lookup (La I g) hs (Ps (by lia) I g ry λw2 s3 I3 rw'=>⟨w',H,I3,rw',q.same sub r⟩)
 |lst l=>
  cases b<;>simp only[FW,Ma]at hg<;>first|(cases hg;done)|skip
  obtain⟨p,vs,rfl,hp,r⟩:=va;cases vb;obtain⟨w',hw,rw'⟩:=M7 r hg;exact N7 value slice pins s σ H _ _ v u Q I rx ry ⟨p,vs,_,w',rfl,rfl,.inl (.inl hp),hw,q.same sub rw'⟩ hs
 |scr l=>
  cases b<;>simp only[FW,Ma]at hg<;>first|(cases hg;done)|skip
  obtain⟨p,vs,rfl,hp,r⟩:=va;cases vb;obtain⟨w',hw,rw'⟩:=M7 r hg;exact N7 value slice pins s σ H _ _ v u Q I rx ry ⟨p,vs,_,w',rfl,rfl,by rw[hK];exact hp,hw,q.same sub rw'⟩ hs
 |tup l=>
  cases b<;>simp only[FW,Ma]at hg<;>first|(cases hg;done)|skip
  obtain⟨p,vs,rfl,hp,r⟩:=va;cases vb;obtain⟨w',hw,rw'⟩:=M7 r hg;exact YH value slice pins s σ H _ _ v u Q I rx ry ⟨p,vs,_,w',rfl,rfl,.inl (.inl (sub _ _ hp)),hw,q.same sub rw'⟩ hs
 |str z=>
  cases b<;>simp only[FW,Ma]at hg<;>first|(cases hg;done)|skip
  cases va;cases vb;by_cases hz:z.length<=big
  ·rw[if_pos hz]at hg;obtain⟨ch,hc,rfl⟩:=aE.mp hg;exact YI value slice pins s σ H _ _ v u Q I rx ry ⟨z,_,ch,rfl,rfl,hz,hc,q.str sub⟩ hs
  rw[if_neg hz]at hg;cases hg
 |_=>cases b<;>simp[FW,Ma]at hg
noncomputable def C1(xs:List MV)(lo hi:Option Int):List MV:=(xs.drop (HT.sIx xs.length 0 lo)).take (HT.sIx xs.length xs.length hi-HT.sIx xs.length 0 lo)
def Ad.cut{lo hi:Option Int}(r:Ad W F l vs):Ad W F (C1 l lo hi) (Pu vs lo hi):=by
 unfold C1 Pu;rw[r.len];exact(r.drop _).take _
noncomputable def EW(m:MV)(lo hi:Option Int):Option MV:=match m with
 |.lst l=>some (.lst (C1 l lo hi))
 |.str z=>if z.length<=big then some (.str (Txt.slice z lo hi)) else none
 |_=>none
def ox(W:Wd):V->Option Int->Option Int->Hp->VK->Prop:=λx lo hi H Q=>∃F a c,Am F H/\Br W F H a x/\EW a lo hi=some c/\JA W F H c Q
def tE(hK:X.K=W.K):mw X (ox W):=by
 intro pins s σ H x v vl vu lo hi sl Q I rx hs pl pu ⟨F,a,c,sub,va,hg,q⟩;cases a<;>simp only[EW]at hg<;>first|(cases hg;done)|skip
 ·cases va;obtain⟨hz,rfl⟩:=Aq hg;exact Xg pins s σ H _ v vl vu lo hi sl Q I rx hs pl pu ⟨_,rfl,hz,q.str sub⟩
 obtain⟨p,vs,rfl,hp,r⟩:=va;cases hg;exact MR pins s σ H _ v vl vu lo hi sl Q I rx hs pl pu ⟨p,vs,rfl,.inl (.inl hp),λp2 n=>q.lst sub n r.cut⟩
noncomputable def lenV:MV->Option MV
 |.lst l=>some (.int l.length)
 |.scr l=>some (.int l.length)
 |.tup l=>some (.int l.length)
 |.str z=>if z.length<=big then some (.int z.length) else none
 |_=>none
noncomputable def LZ(as:List MV):Option MV:=(UL as).bind lenV
def FF.un1(h:FF W F H [a] xs):∃x,xs=[x]/\Br W F H a x:=by
 cases h with
 |cons h t=>cases t;exact⟨_,rfl,h⟩
def FF.un2(h:FF W F H [a,b] xs):∃x y,xs=[x,y]/\Br W F H a x/\Br W F H b y:=by
 cases h with
 |cons h t=>obtain⟨y,rfl,h'⟩:=FF.un1 t;exact⟨_,_,rfl,h,h'⟩
def oM(hK:X.K=W.K):Bh X (.builtin "len") (Uo W LZ):=by
 intro pins s σ H xs us Q I rv ⟨F,as,c,sub,vs,hg,q⟩;obtain⟨m,h1,hg⟩:=aA.mp hg;obtain rfl:=IR h1;obtain⟨x,rfl,va⟩:=vs.un1;cases m with
 |lst l=>
  obtain⟨p,ws,rfl,hp,r⟩:=va;cases hg;exact CZ pins s σ H _ us Q I rv ⟨p,ws,rfl,.inl (.inl (.inl hp)),by rw[←r.len];exact q.int sub⟩
 |scr l=>
  obtain⟨p,ws,rfl,hp,r⟩:=va;cases hg;exact CZ pins s σ H _ us Q I rv ⟨p,ws,rfl,.inl (by rw[hK];exact hp),by rw[←r.len];exact q.int sub⟩
 |tup l=>
  obtain⟨p,ws,rfl,hp,r⟩:=va;cases hg;exact CZ pins s σ H _ us Q I rv ⟨p,ws,rfl,.inr (.inl (.inl (sub _ _ hp))),by rw[←r.len];exact q.int sub⟩
 |str z=>
  obtain⟨hz,rfl⟩:=Aq hg;cases va;exact Jx pins s σ H _ us Q I rv ⟨_,rfl,hz,q.int sub⟩
 |_=>cases hg
noncomputable def ZU:MV->Option Kd
 |.non=>some .non| .bl _=>some .bl| .int _=>some .int| .str _=>some .str| .lst _=>some .lst| .tup _=>some .tup
 |.dic _ _ _=>some .dct|_=>none
def jf(sub:Am F H)(va:Br W F H m x)(h:ZU m=some k)(hd:∀t ks vs,m=.dic t ks vs->∃a,x=.ref a/\∀o u,H a≠some (.frz o u)):qE W.K H x k:=by
 cases m<;>simp only[ZU]at h<;>first|(cases h;done)|skip
 all_goals cases h
 ·cases va;exact .non
 ·cases va;exact .bl _
 ·cases va;exact .int _
 ·cases va;exact .str _
 ·obtain⟨p,vs,rfl,hp,r⟩:=va;exact .tup (sub _ _ hp)
 ·obtain⟨p,vs,rfl,hp,r⟩:=va;exact .lst hp
 obtain⟨a,rfl,hn⟩:=hd _ _ _ rfl;obtain⟨p,vs,z,r,hq⟩:=va;cases z;rcases hq with⟨kk,_,_,e,_⟩|⟨kk,_,_,e,_⟩
 ·rcases e with e|⟨o,e⟩
  ·exact .dT e
  exact absurd e (hn _ _)
 rcases e with e|⟨o,e⟩
 ·exact .dK e
 exact absurd e (hn _ _)
def Pd{α:Type}{c:Prop}[Decidable c]{a:Option α}{b:α}(h:(if c then a else none)=some b):c/\a=some b:=by
 by_cases hc:c
 ·rw[if_pos hc]at h;exact⟨hc,h⟩
 rw[if_neg hc]at h;cases h
noncomputable def oH:List MV->Bool
 |[.ty .lst,.ty .tup]=>true
 |_=>false
def Y5(h:oH l=true):l=[.ty .lst,.ty .tup]:=by
 unfold oH at h;split at h
 ·rfl
 cases h
noncomputable def Ys:MV->Option Nat
 |.obj c _ _=>some c
 |_=>none
def UM{c:Nat}(h:Ys m=some c):∃ns ms,m=.obj c ns ms:=by
 unfold Ys at h;split at h
 ·cases h;exact⟨_,_,rfl⟩
 cases h
noncomputable def oS(cs:List Ci)(m:MV):MV->Option MV
 |.ty k=>if k=.int\/k=.bl\/k=.str\/k=.tup\/k=.lst\/k=.dct then(ZU m).map λk'=>.bl (k'.isA k) else none
 |.cls d=>(cs[d]?).bind λ_=>(Ys m).bind λc=>(cs[c]?).bind λi=>if i.exc=false then some (.bl (decide (d∈i.isa))) else none
 |.tup l=>if oH l=true/\(ZU m=some .lst\/ZU m=some .tup) then some (.bl true) else none
 |_=>none
noncomputable def WK:List MV->Option (MV×MV)
 |[a,b]=>some (a,b)
 |_=>none
def TH(h:WK l=some p):l=[p.1,p.2]:=by
 unfold WK at h;split at h
 ·cases h;rfl
 cases h
noncomputable def OX(cs:List Ci)(as:List MV):Option MV:=(WK as).bind λp=>oS cs p.1 p.2
def Va{a:Kd}:PySem.W.kitOne W.K (.type a.nm) (.type Kd.lst.nm)=some (a.isA .lst):=by
 cases a<;>first|exact BQ|exact AE (by decide +kernel) (by decide +kernel) (by decide +kernel)
def Vb{a:Kd}:PySem.W.kitOne W.K (.type a.nm) (.type Kd.dct.nm)=some (a.isA .dct):=by
 cases a<;>first|exact BQ|exact AE (by decide +kernel) (by decide +kernel) (by decide +kernel)
def M0(I:Af X pins σ H s)(r:Al [.ref a,c] us)(hc:Zs c=some cv)(h:(∃kvs,Rd H a (.dT kvs))\/∃kvs,Rd H a (.dK kvs))(hk:PySem.W.kitOne X.K (.type "dict") cv=some b)(q:Q (.bl b) H):wpAny (model X.prog X.w) X.A (call (.builtin "isinstance") us) (EP X pins σ Q) X.xe s:=by
 obtain⟨u,w',rfl,rx,rc⟩:=Fw r;have e:=Lf hc rc;subst e;cases rx;rcases h with⟨kvs,h⟩|⟨kvs,h⟩
 ·obtain⟨_,_,xs,_,o,es,ep,h1,h2,_⟩:=(show AG X.prog X.w H s.heap a (.dT kvs) from h.ok I.hok);exact PySem.W.kia_one PySem.W.kitx_dict I.kIn ⟨o,h1,h2.1⟩ hk (λz=>by cases z) λtk=>⟨.bl b,H,I.tok _,rfl,q⟩
 obtain⟨_,_,vs,_,p⟩:=(show AG X.prog X.w H s.heap a (.dK kvs) from h.ok I.hok);obtain⟨o,es,ep,h1,h2,_⟩:=p;exact PySem.W.kia_one PySem.W.kitx_dict I.kIn ⟨o,h1,h2.1⟩ hk (λz=>by cases z) λtk=>⟨.bl b,H,I.tok _,rfl,q⟩
def iu{c:Nat}(kt:Kt cs W)(va:Br W F H (.obj c ns ms) x)(hi:cs[c]?=some i)(he:i.exc=false):Ei W.K H x (.ref (W.ca c)):=by
 obtain⟨a,dx,vs,rfl,h1,h2,_,_⟩:=va;obtain⟨k1,k2,k3,k4,k5⟩:=kt.kc c i hi he;exact .ins h1 k1 k2 k3 k4 k5
def tV(hK:X.K=W.K)(kt:Kt cs W):Bh X (.builtin "isinstance") (Uo W (OX cs)):=by
 intro pins s σ H xs us Q I rv ⟨F,as,c,sub,vs,hg,q⟩;obtain⟨⟨m,t⟩,h1,h2⟩:=aA.mp hg;rw[TH h1]at vs;obtain⟨x,y,rfl,va,vb⟩:=vs.un2;clear h1 hg;have hg:oS cs m t=some c:=h2;unfold oS at hg;split at hg
 ·next k=>
  cases vb;obtain⟨hk,hg⟩:=Pd hg;obtain⟨k',h,rfl⟩:=aE.mp hg;have kk:PySem.W.kitOne X.K (.type k'.nm) (.type k.nm)=some (Kd.isA k' k):=by
   rw[hK];rcases hk with h|h|h|h|h|h
   ·exact Je (.inl h)
   ·exact Je (.inr (.inl h))
   ·exact Je (.inr (.inr (.inl h)))
   ·exact Je (.inr (.inr (.inr h)))
   ·subst h;exact Va
   subst h;exact Vb
  by_cases hd:∃t ks vs,m=.dic t ks vs
  ·obtain⟨t,ks,ms,rfl⟩:=hd;cases h;obtain⟨p,ws,rfl,r,hq⟩:=va;refine M0 I rv rfl ?_ kk (q.bl sub);rcases hq with⟨kk,_,_,e,_⟩|⟨kk,_,_,e,_⟩
   ·exact .inl ⟨_,e⟩
   exact .inr ⟨_,e⟩
  exact FE pins s σ H _ us Q I rv ⟨x,_,_,_,_,rfl,rfl,by rw[hK];exact jf sub va h (λt ks vs e=>absurd ⟨t,ks,vs,e⟩ hd),kk,q.bl sub⟩
 ·cases vb;obtain⟨j,hj,hg⟩:=aA.mp hg;obtain⟨c',ho,hg⟩:=aA.mp hg;obtain⟨i,hi,hg⟩:=aA.mp hg;obtain⟨he,rfl⟩:=Aq hg;obtain⟨ns,ms,rfl⟩:=UM ho;exact FE pins s σ H _ us Q I rv ⟨x,_,_,_,_,rfl,rfl,by rw[hK];exact iu kt va hi he,by rw[hK];exact kt.ki c' _ i j hi hj,q.bl sub⟩
 ·obtain⟨⟨hl,hm⟩,rfl⟩:=Aq hg;obtain rfl:=Y5 hl;obtain⟨tp,ws,rfl,htp,rt⟩:=vb;obtain⟨w1,r1,rfl,q1,rt⟩:=rt.uncons;obtain⟨w2,r2,rfl,q2,rt⟩:=rt.uncons;have:=rt.nil_iff;subst this;unfold Ap at q1 q2;subst q1 q2;have ht:Iw X.K H tp [.ty "list",.ty "tuple"]:=.inl (.inl (sub _ _ htp));cases m<;>simp only[ZU]at hm<;>first|(rcases hm with hm|hm<;>cases hm;done)|skip
  ·obtain⟨p,ys,rfl,hp,r⟩:=va;exact P6 pins s σ H _ us Q I rv ⟨p,ys,tp,rfl,sub _ _ hp,ht,q.bl sub⟩
  obtain⟨p,ys,rfl,hp,r⟩:=va;exact P7 pins s σ H _ us Q I rv ⟨p,ys,tp,rfl,hp,ht,q.bl sub⟩
 cases hg
end
section
noncomputable def D3:List MV->Option (List Bool)
 |[]=>some []
 |.bl b::ms=>(D3 ms).map (b:: ·)
 |_=>none
theorem Ln:∀{ms:List MV}{bs:List Bool}{vs:List V},D3 ms=some bs->Ad W F ms vs->vs=bs.map V.bl
 |[],bs,vs,h,r=>by simp only[D3]at h;cases h;rw[r.nil_iff];rfl
 |m::ms,bs,vs,h,r=>by
  obtain⟨v,us,rfl,h1,h2⟩:=r.uncons;cases m<;>simp only[D3]at h<;>first|(cases h;done)|skip
  obtain⟨bs',hb,rfl⟩:=aE.mp h;unfold Ap at h1;subst h1;rw[Ln hb h2];rfl
noncomputable def GL:List MV->Option (List Int)
 |[]=>some []
 |.int b::ms=>(GL ms).map (b:: ·)
 |_=>none
theorem Jm:∀{ms:List MV}{bs:List Int}{vs:List V},GL ms=some bs->Ad W F ms vs->vs=bs.map V.int
 |[],bs,vs,h,r=>by simp only[GL]at h;cases h;rw[r.nil_iff];rfl
 |m::ms,bs,vs,h,r=>by
  obtain⟨v,us,rfl,h1,h2⟩:=r.uncons;cases m<;>simp only[GL]at h<;>first|(cases h;done)|skip
  obtain⟨bs',hb,rfl⟩:=aE.mp h;unfold Ap at h1;subst h1;rw[Jm hb h2];rfl
noncomputable def LY:List MV->Option MV
 |[.lst l]=>(GL l).map λns=>.int ns.sum
 |_=>none
def nR(hc:X.calm=true):Bh X (.builtin "sum") (Uo W LY):=by
 intro pins s σ H xs us Q I rv ⟨F,as,c,sub,vs,hg,q⟩;unfold LY at hg;split at hg
 ·obtain⟨x,rfl,va⟩:=vs.un1;obtain⟨p,ws,rfl,hp,r⟩:=va;obtain⟨ns,hn,rfl⟩:=aE.mp hg;obtain rfl:=Jm hn r;exact P0 hc pins s σ H _ us Q I rv ⟨p,ns,rfl,.inl (.inl hp),q.int sub⟩
 cases hg
noncomputable def Mb:List MV->Option MV
 |[.lst l]=>(D3 l).map λbs=>.bl (bs.all id)
 |_=>none
def qq(hc:X.calm=true):Bh X (.builtin "all") (Uo W Mb):=by
 intro pins s σ H xs us Q I rv ⟨F,as,c,sub,vs,hg,q⟩;unfold Mb at hg;split at hg
 ·obtain⟨x,rfl,va⟩:=vs.un1;obtain⟨p,ws,rfl,hp,r⟩:=va;obtain⟨bs,hb,rfl⟩:=aE.mp hg;obtain rfl:=Ln hb r;exact P8 hc pins s σ H _ us Q I rv ⟨p,bs,rfl,.inl (.inl hp),q.bl sub⟩
 cases hg
noncomputable def FK(i:Int):List Int->Int
 |[]=>i
 |j::r=>FK (max i j) r
theorem IT:∀r i,i<=FK i r/\(∀a∈r,a<=FK i r)/\(FK i r=i\/FK i r∈r)
 |[],i=>⟨Int.le_refl _,by simp,.inl rfl⟩
 |j::r,i=>by
  obtain⟨h1,h2,h3⟩:=IT r (max i j);unfold FK;refine⟨by lia,λa ha=>?_,?_⟩
  ·rcases aR.mp ha with rfl|ha
   ·lia
   exact h2 a ha
  rcases h3 with h|h
  ·rw[h];by_cases c:i<=j
   ·exact .inr (by rw[Int.max_eq_right c];exact aG)
   exact .inl (Int.max_eq_left (by lia))
  exact .inr (aC _ h)
noncomputable def OW:List MV->Option MV
 |[.lst l]=>(GL l).bind λns=>match ns with
  |[]=>none
  |i::r=>some (.int (FK i r))
 |[.int i,.int j]=>some (.int (if j>i then j else i))
 |_=>none
noncomputable def RH:List MV->Option MV
 |[.int i,.int j]=>some (.int (if j<i then j else i))
 |_=>none
def oG(hc:X.calm=true):Bh X (.builtin "max") (Uo W OW):=by
 intro pins s σ H xs us Q I rv ⟨F,as,c,sub,vs,hg,q⟩;unfold OW at hg;split at hg
 ·obtain⟨x,rfl,va⟩:=vs.un1;obtain⟨p,ws,rfl,hp,r⟩:=va;obtain⟨ns,hn,h2⟩:=aA.mp hg;obtain rfl:=Jm hn r;cases ns with
  |nil=>cases h2
  |cons i l=>
   cases h2;refine P4 hc pins s σ H _ us Q I rv ⟨p,i::l,rfl,.inl (.inl hp),by simp,λm hm hall=>?_⟩;obtain⟨h1,h2,h3⟩:=IT l i;have e:m=FK i l:=by
    have a1:=hall (FK i l) (h3.elim (λh=>by rw[h];exact aG) λh=>aC _ h);have a2:=(aR.mp hm).elim (λe=>by rw[e];exact h1) (h2 m)
    lia
   rw[e];exact q.int sub
 ·obtain⟨x,y,rfl,va,vb⟩:=vs.un2;cases va;cases vb;cases hg;exact P5 hc pins s σ H _ us Q I rv ⟨_,_,rfl,q.int sub⟩
 cases hg
def oF(hc:X.calm=true):Bh X (.builtin "min") (Uo W RH):=by
 intro pins s σ H xs us Q I rv ⟨F,as,c,sub,vs,hg,q⟩;unfold RH at hg;split at hg
 ·obtain⟨x,y,rfl,va,vb⟩:=vs.un2;cases va;cases vb;cases hg;exact P3 hc pins s σ H _ us Q I rv ⟨_,_,rfl,q.int sub⟩
 cases hg
noncomputable def RI:List MV->Option MV
 |[.int i]=>some (.int i)
 |[.bl k]=>some (.int (if k then 1 else 0))
 |_=>none
def oT:Bh X (.type "int") (Uo W RI):=by
 intro pins s σ H xs us Q I rv ⟨F,as,c,sub,vs,hg,q⟩;unfold RI at hg;split at hg
 ·obtain⟨x,rfl,va⟩:=vs.un1;cases va;cases hg;exact Im pins s σ H _ us Q I rv (.inl ⟨_,rfl,q.int sub⟩)
 ·obtain⟨x,rfl,va⟩:=vs.un1;cases va;cases hg;exact Im pins s σ H _ us Q I rv (.inr ⟨_,rfl,q.int sub⟩)
 cases hg
noncomputable def LX:List MV->Option MV
 |[.lst l]=>some (.tup l)
 |[.tup l]=>some (.tup l)
 |_=>none
def nB:Bh X (.type "tuple") (Uo W LX):=by
 intro pins s σ H xs us Q I rv ⟨F,as,c,sub,vs,hg,q⟩;unfold LX at hg;split at hg
 ·obtain⟨x,rfl,va⟩:=vs.un1;obtain⟨p,ws,rfl,hp,r⟩:=va;cases hg;exact DQ pins s σ H _ us Q I rv ⟨p,ws,rfl,.inl ⟨.inl (.inl hp),λl n=>q.tup sub n r⟩⟩
 ·obtain⟨x,rfl,va⟩:=vs.un1;obtain⟨p,ws,rfl,hp,r⟩:=va;cases hg;exact DQ pins s σ H _ us Q I rv ⟨p,ws,rfl,.inr ⟨.inl (.inl (sub _ _ hp)),q.same sub (by unfold Ap;exact⟨p,ws,rfl,hp,r⟩)⟩⟩
 cases hg
end
inductive Bf where|len|isi|all|max|min|int|tup|sum
noncomputable def Bf.fn(cs:List Ci):Bf->List MV->Option MV
 |.len=>LZ| .isi=>OX cs| .all=>Mb| .max=>OW| .min=>RH| .int=>RI| .tup=>LX| .sum=>LY
noncomputable def Bf.nm:Bf->Str
 |.len=> "len" | .isi=> "isinstance" | .all=> "all" | .max=> "max" | .min=> "min" | .int=> "int" | .tup=> "tuple" | .sum=> "sum"
inductive Bm where|index|join|bits
inductive Mm where|app|ext
inductive MT where|nm(i:Nat)|tup(is:List Nat)
mutual
inductive ME where
 |var (i:Nat)|mov (i:Nat)|con (m:MV)|glo (x:Str) (m:MV)|bty (x:Str) (k:Kd)
 |tup (es:Em)|lst (es:Em)|lstL (es:Em)|dicL (t:Bool)
 |fld (e:ME) (f:Nat)|idx (a b:ME)|sli (a:ME) (lo hi:aj)|sliL (a:ME) (lo hi:aj)
 |bin (o:WA) (a b:ME)|una (o:Z7) (a:ME)|cmp (o:JC) (a b:ME)|cmp2 (o o':JC) (a b c:ME)
 |not (a:ME)|and (es:Em)|or (es:Em)|ife (c a b:ME)
 |call (f:Nat) (es:Em)|make (c:Nat) (es:Em) (ds:List MV)|new0 (c:Nat)|meth (m:Nat) (o:ME) (es:Em)|cfn (c m:Nat) (es:Em)
 |bfn (b:Bf) (es:Em)|lenset (e:ME)|bmt (b:Bm) (o:ME) (es:Em)|mmt (b:Mm) (o:ME) (es:Em)
 |comp (xs ys:List Str) (js:List Nat) (tg:MT) (it:MI) (c:Em) (e:ME)
 |lrng (a:ME)|calL (f:Nat) (es:Em) (k:Nat) (js:List Nat)|calv (i:Nat) (es:Em)
inductive Em where
 |nil|cons (e:ME) (r:Em)
inductive aj where
 |no|ye (e:ME)
inductive MI where
 |of (e:ME)|rng1 (a:ME)|rng2 (a b:ME)|rng3 (a b:ME)|enu (e:ME)|zip (a b:ME)
end
noncomputable def Em.len:Em->Nat
 |.nil=>0
 |.cons _ r=>r.len+1
noncomputable def vals:List R->Option (List MV)
 |[]=>some []
 |.v m::r=>(vals r).map (m:: ·)
 |_=>none
noncomputable def Cc(h:MH):List R->Option (List MV)
 |[]=>some []
 |x::r=>(Au h x).bind λm=>(Cc h r).map (m:: ·)
abbrev Ef:=En->MH->AB R
noncomputable def Ld(g:MV->MV->Option MV)(fa fb:Ef):Ef:=λμ h=>(fa μ h).bind λx h1=>(fb μ h1).bind λy h2=>AB.of ((Au h2 x).bind λa=>(Au h2 y).bind λb=>(g a b).map R.v) h2
noncomputable def Mv(g:MV->Option MV)(fa:Ef):Ef:=λμ h=>(fa μ h).bind λx h1=>AB.of ((Au h1 x).bind λa=>(g a).map R.v) h1
noncomputable def Zq(g:List MV->Option MV)(fa:En->MH->AB (List R)):Ef:=λμ h=>(fa μ h).bind λxs h1=>AB.of ((Cc h1 xs).bind λas=>(g as).map R.v) h1
noncomputable def Zp(i:Nat):Ef:=λμ h=>match μ[i]? with
 |some (some r)=>.ok r h
 |_=>.no
noncomputable def MO.frz:MO->MV
 |.lst l=>.lst l
 |.dic t ks vs=>.dic t ks vs
 |.ins c ns vs=>.obj c ns vs
 |.gone m=>m
noncomputable def Zr(i:Nat):Ef:=λμ h=>match μ[i]? with
 |some (some (.v m))=>.ok (.v m) h
 |some (some (.r n))=>match h[n]? with
  |some o=>.ok (.v o.frz) (h.set n (.gone o.frz))
  |none=>.no
 |_=>.no
noncomputable def j6(fa:En->MH->AB (List R)):Ef:=λμ h=>(fa μ h).bind λrs h1=>AB.of ((vals rs).bind λms=>if ms.length<=1000 then some (R.v (.tup ms)) else none) h1
noncomputable def jA(fa:En->MH->AB (List R)):Ef:=λμ h=>(fa μ h).bind λrs h1=>AB.of ((vals rs).bind λms=>if ms.length<=1000 then some (R.v (.lst ms)) else none) h1
noncomputable def Ww(fa:En->MH->AB (List R)):Ef:=λμ h=>(fa μ h).bind λrs h1=>match vals rs with
 |some ms=>if ms.length<=1000 then .ok (.r h1.length) (h1++ [.lst ms]) else .no
 |none=>.no
noncomputable def Wy(t:Bool):Ef:=λμ h=>.ok (.r h.length) (h++ [.dic t [] []])
noncomputable def HX(f:Nat):List Nat->List MV->Option MV
 |n::ns,m::ms=>if n=f then some m else HX f ns ms
 |_,_=>none
noncomputable def Du(cs:List Ci)(f:Nat):MV->Option MV
 |.obj c ns ms=>(cs[c]?).bind λi=>if i.exc=false/\f∈i.flds then HX f ns ms else none
 |_=>none
noncomputable def Da:MV->Option Bool
 |.non=>some false
 |.bl b=>some b
 |.int i=>some (i !=0)
 |.str z=>if z.length<=big then some ((z.length:Int) !=0) else none
 |.lst l=>some (!l.isEmpty)
 |.tup l=>some (!l.isEmpty)
 |_=>none
noncomputable def Qa:R->Option Bool
 |.v (.bl b)=>some b
 |_=>none
noncomputable def T5:R->Option Int
 |.v (.int b)=>some b
 |_=>none
noncomputable def j8(fa:Ef):Ef:=λμ h=>(fa μ h).bind λx h1=>AB.of ((Qa x).map λb=>R.v (.bl (!b))) h1
noncomputable def jF(fa fb:Ef):Ef:=λμ h=>(fa μ h).bind λx h1=>match Qa x with
 |some true=>fb μ h1
 |some false=>.ok (.v (.bl false)) h1
 |none=>.no
noncomputable def sG(fa fb:Ef):Ef:=λμ h=>(fa μ h).bind λx h1=>match Qa x with
 |some false=>fb μ h1
 |some true=>.ok (.v (.bl true)) h1
 |none=>.no
abbrev Tf:=En->MH->AB Bool
noncomputable def aw(fa:Ef):Tf:=λμ h=>(fa μ h).bind λx h1=>AB.of ((Au h1 x).bind Da) h1
noncomputable def tbl(fa:Ef):Tf:=λμ h=>(fa μ h).bind λx h1=>AB.of (Qa x) h1
noncomputable def ay(fa:Tf):Tf:=λμ h=>(fa μ h).bind λb h1=>.ok (!b) h1
noncomputable def ba(fa fb:Tf):Tf:=λμ h=>(fa μ h).bind λb h1=>if b=true then fb μ h1 else .ok false h1
noncomputable def rg(fa fb:Tf):Tf:=λμ h=>(fa μ h).bind λb h1=>if b=true then .ok true h1 else fb μ h1
noncomputable def jC(c:Tf)(fa fb:Ef):Ef:=λμ h=>(c μ h).bind λb h1=>if b=true then fa μ h1 else fb μ h1
noncomputable def j7(fa:Ef)(lo hi:En->MH->AB (Option Int)):Ef:=λμ h=>(fa μ h).bind λx h1=>(lo μ h1).bind λl h2=>(hi μ h2).bind λu h3=>AB.of ((Au h3 x).bind λa=>(EW a l u).map R.v) h3
noncomputable def Wu(fa:Ef)(lo hi:En->MH->AB (Option Int)):Ef:=λμ h=>(fa μ h).bind λx h1=>(lo μ h1).bind λl h2=>(hi μ h2).bind λu h3=>match (Au h3 x).bind K1 with
 |some ms=>.ok (.r h3.length) (h3++ [.lst (C1 ms l u)])
 |none=>.no
noncomputable def NY(o o':JC)(fa fb fc:Ef):Ef:=λμ h=>(fa μ h).bind λx h1=>(fb μ h1).bind λy h2=>match (Au h2 x).bind λa=>(Au h2 y).bind λb=>AV o a b with
 |some true=>(fc μ h2).bind λz h3=>AB.of ((Au h3 y).bind λa=>(Au h3 z).bind λb=>(AV o' a b).map λk=>R.v (.bl k)) h3
 |some false=>.ok (.v (.bl false)) h2
 |none=>.no
abbrev Fs:=Nat->List R->MH->AB R
noncomputable def EJ(Φ:Fs)(c f:Nat)(fa:En->MH->AB (List R)):Ef:=λμ h=>(fa μ h).bind λrs h1=>(Φ f (.r h1.length::rs) (h1++ [.ins c [] []])).bind λx h2=>match x,h2[h1.length]? with
 |.v .non,some (.ins c' ns vs)=>if h2.length=h1.length+1 then .ok (.v (.obj c' ns vs)) (h2.take h1.length) else .no
 |.v .non,some (.gone m)=>if h2.length=h1.length+1 then .ok (.v m) (h2.take h1.length) else .no
 |_,_=>.no
noncomputable def meth(cs:List Ci)(m:Nat):MV->Option Nat
 |.obj c ns _=>(cs[c]?).bind λi=>if i.exc=false/\m∉ns then i.mts.lookup m else none
 |_=>none
noncomputable def SF(cs:List Ci)(Φ:Fs)(m:Nat)(fo:Ef)(fa:En->MH->AB (List R)):Ef:=λμ h=>(fo μ h).bind λx h1=>match (Au h1 x).bind (meth cs m) with
 |some f=>(fa μ h1).bind λrs h2=>Φ f (x::rs) h2
 |none=>.no
noncomputable def KB(l:List MV):Option (List (List Key)):=match l with
 |[]=>some []
 |.tup k::r=>(Be k).bind λks=>(KB r).map (ks:: ·)
 |_=>none
noncomputable def DB:MV->Option MV
 |.tup l=>(KB l).bind λks=>if ks.length<=2/\ks.Nodup then some (.int ks.length) else none
 |_=>none
noncomputable def KG(a:MV):List MV->Option Nat
 |[]=>none
 |m::ms=>if Jt m a=true then some 0 else(KG a ms).map (· +1)
noncomputable def FG:List MV->Option (List Str)
 |[]=>some []
 |.str x::r=>(FG r).map (x:: ·)
 |_=>none
noncomputable def Z0:Bm->MV->List MV->Option MV
 |.index,m,as=>(K1 m).bind λl=>((UL as).bind Qy).bind λx=>(FG l).bind λ_=>(KG (.str x) l).map λ(i:Nat)=>MV.int (i:Int)
 |.join,m,as=>(Qy m).bind λz=>((UL as).bind K1).bind λl=>(FG l).bind λys=>if (ys.map (·.length)).sum+ys.length*z.length<=16777216 then some (.str (Txt.join z ys)) else none
 |.bits,m,as=>(Jl m).bind λi=>if as.isEmpty=true then some (.int (Builtin.Int.intBits i)) else none
noncomputable def Zz:Bm->MV->Bool
 |.index,m=>(K1 m).isSome
 |.join,m=>(Qy m).isSome
 |.bits,m=>(Jl m).isSome
noncomputable def V7(b:Bm)(fo:Ef)(fa:En->MH->AB (List R)):Ef:=λμ h=>(fo μ h).bind λx h1=>if ((Au h1 x).map (Zz b))=some true then(fa μ h1).bind λrs h2=>AB.of ((Au h2 x).bind λm=>(Cc h2 rs).bind λas=>(Z0 b m as).map R.v) h2 else .no
noncomputable def Tw:Mm->List MV->List MV->Option (List MV)
 |.app,l,[m]=>if l.length<big then some (l++ [m]) else none
 |.ext,l,[.lst z]=>if l.length+z.length<=big then some (l++z) else none
 |_,_,_=>none
noncomputable def Wn:Option MO->Bool
 |some (.lst _)=>true
 |_=>false
noncomputable def V4(b:Mm)(fo:Ef)(fa:En->MH->AB (List R)):Ef:=λμ h=>(fo μ h).bind λx h1=>if (match x with| .r n=>Wn h1[n]? |_=>false)=true then(fa μ h1).bind λrs h2=>match x with
 |.r n=>match h2[n]?,vals rs with
  |some (.lst l),some as=>(match Tw b l as with
   |some l'=>.ok (.v .non) (h2.set n (.lst l'))
   |none=>.no)
  |_,_=>.no
 |_=>.no
 else .no
noncomputable def Bg:MT->MV->En->Option En
 |.nm i,m,μ=>some (μ.set i (some (.v m)))
 |.tup is,.tup l,μ=>if is.length=l.length then some ((is.zip l).foldl (λμ p=>μ.set p.1 (some (.v p.2))) μ) else none
 |_,_,_=>none
structure Wk where
 ms:List MV
 src:Option Nat
noncomputable def FD(z:Str):List MV:=z.cps.toList.map λc=>.str ⟨#[c]⟩
noncomputable def CT:MV->Option (List MV)
 |.lst l=>some l
 |.tup l=>some l
 |.str z=>some (FD z)
 |_=>none
noncomputable def Fv(h:MH):R->Option Wk
 |.v m=>(CT m).map λl=>⟨l,none⟩
 |.r n=>match h[n]? with
  |some (.lst l)=>some ⟨l,some n⟩
  |some (.gone m)=>(CT m).map λl=>⟨l,none⟩
  |_=>none
 |.l _ _=>none
noncomputable def BH(lo:Int)(n:Nat):List MV:=(List.range n).map λi=>.int (lo+(i:Nat))
noncomputable def ET:List R->Option Wk
 |[.v (.int j)]=>if -(2^62)<=j/\j<2^62 then some ⟨BH 0 j.toNat,none⟩ else none
 |[.v (.int i),.v (.int j)]=>if -(2^62)<=i/\i<2^62/\-(2^62)<=j/\j<2^62 then some ⟨BH i (j-i).toNat,none⟩ else none
 |_=>none
noncomputable def Cp(lo:Int)(n:Nat):List MV:=(List.range n).map λi=>.int (lo+(i:Nat)*2)
noncomputable def Ez:R->R->Option Wk
 |.v (.int i),.v (.int j)=>if 0<=i/\i<2^60/\0<=j/\j<2^60 then some ⟨Cp i ((j-i+1) / 2).toNat,none⟩ else none
 |_,_=>none
noncomputable def Dz(l:List MV):List MV:=l.zipIdx.map λp=>.tup [.int (p.2:Nat),p.1]
noncomputable def LC:MV->Option (List MV)
 |.lst l=>some l
 |.tup l=>some l
 |_=>none
noncomputable def Sy:R->Option Wk
 |.v m=>(LC m).map λl=>⟨Dz l,none⟩
 |_=>none
noncomputable def Qd:R->R->Option Wk
 |.v a,.v b=>(LC a).bind λx=>(LC b).bind λy=>if x.length=y.length then some ⟨(x.zip y).map λp=>.tup [p.1,p.2],none⟩ else none
 |_,_=>none
open Classical in
noncomputable def Bj(src:Option Nat)(l:List MV)(h:MH):Bool:=match src with
 |none=>true
 |some n=>decide (h[n]?=some (.lst l))
noncomputable def compLoop(src:Option Nat)(all:List MV)(tg:MT)(μ0:En)(tc:Tf)(te:Ef):List MV->List MV->MH->AB (List MV)
 |[],acc,h=>if Bj src all h=true then .ok acc h else .no
 |m::r,acc,h=>if Bj src all h=true then(match Bg tg m μ0 with
  |some μ1=>(tc μ1 h).bind λb h2=>if b=true then(te μ1 h2).bind λx h3=>(match x with
   |.v y=>compLoop src all tg μ0 tc te r (acc++ [y]) h3
   |_=>.no) else compLoop src all tg μ0 tc te r acc h2
  |none=>.no) else .no
noncomputable def startC(k:Nat)(js:List Nat)(μ:En):En:=List.replicate k none++js.map λj=>(μ[j]?).join
noncomputable def BU(k:Nat)(js:List Nat)(tg:MT)(fi:En->MH->AB Wk)(tc:Tf)(te:Ef):Ef:=λμ h=>(fi μ h).bind λw h1=>if w.ms.length<=big then(compLoop w.src w.ms tg (startC k js μ) tc te w.ms [] h1).bind λl h2=>.ok (.v (.lst l)) h2 else .no
noncomputable def H9(μ:En):List Nat->Option (List MV)
 |[]=>some []
 |j::js=>match μ[j]? with
  |some (some (.v m))=>(H9 μ js).map (m:: ·)
  |_=>none
noncomputable def noL:AB R->AB R
 |.ok (.l _ _) _=>.no
 |x=>x
noncomputable def IS:R->Bool
 |.l _ _=>false
 |_=>true
noncomputable def Wz(Φ:Fs)(f:Nat)(fa:En->MH->AB (List R))(k:Nat)(js:List Nat):Ef:=λμ h=>(fa μ h).bind λrs h1=>match H9 μ js with
 |some ms=>noL (Φ f (rs++ [.l k ms]) h1)
 |none=>.no
noncomputable def SQ(Φ:Fs)(i:Nat)(fa:En->MH->AB (List R)):Ef:=λμ h=>match μ[i]? with
 |some (some (.l k ms))=>(fa μ h).bind λrs h1=>if rs.all IS=true then noL (Φ k (ms.map .v++rs) h1) else .no
 |_=>.no
noncomputable def Wx(fa:Ef):Ef:=λμ h=>(fa μ h).bind λx h1=>match T5 x with
 |some i=>if 0<=i/\i<=1000 then .ok (.v (.lst (BH 0 i.toNat))) h1 else .no
 |none=>.no
noncomputable def pr(f:Ef):Ef×Tf:=(f,aw f)
noncomputable def r9(f:Ef):Ef×Tf:=(f,tbl f)
section
variable (cs:List Ci) (Φ:Fs) (ini:Nat->Option Nat) (cf:Nat->Nat->Option Nat)
mutual
noncomputable def e2:ME->Ef×Tf
 |.var i=>pr (Zp i)
 |.mov i=>pr (Zr i)
 |.con m=>pr λ_ h=>.ok (.v m) h
 |.glo _ m=>pr λ_ h=>.ok (.v m) h
 |.bty _ k=>pr λ_ h=>.ok (.v (.ty k)) h
 |.tup es=>pr (j6 (Dy es))
 |.lst es=>pr (jA (Dy es))
 |.lstL es=>pr (Ww (Dy es))
 |.dicL t=>pr (Wy t)
 |.fld e f=>pr (Mv (Du cs f) (e2 e).1)
 |.idx a b=>pr (Ld FW (e2 a).1 (e2 b).1)
 |.sli a lo hi=>pr (j7 (e2 a).1 (Sx lo) (Sx hi))
 |.sliL a lo hi=>pr (Wu (e2 a).1 (Sx lo) (Sx hi))
 |.bin o a b=>pr (Ld (Ck o) (e2 a).1 (e2 b).1)
 |.una o a=>pr (Mv (We o) (e2 a).1)
 |.cmp o a b=>r9 (Ld (λx y=>(AV o x y).map .bl) (e2 a).1 (e2 b).1)
 |.cmp2 o o' a b c=>r9 (NY o o' (e2 a).1 (e2 b).1 (e2 c).1)
 |.not a=>(j8 (e2 a).1,ay (e2 a).2)
 |.and es=>Po es
 |.or es=>Pn es
 |.ife c a b=>(jC (e2 c).2 (e2 a).1 (e2 b).1,λ_ _=>.no)
 |.call f es=>pr λμ h=>(Dy es μ h).bind λrs h1=>Φ f rs h1
 |.make c es ds=>pr (match ini c with
  |some f=>EJ Φ c f λμ h=>(Dy es μ h).bind λrs h1=>.ok (rs++ds.map .v) h1
  |none=>λ_ _=>.no)
 |.new0 c=>pr (match ini c with
  |some _=>λ_ _=>.no
  |none=>λ_ h=>.ok (.v (.obj c [] [])) h)
 |.meth m o es=>pr (SF cs Φ m (e2 o).1 (Dy es))
 |.cfn c m es=>pr (match cf c m with
  |some f=>λμ h=>(Dy es μ h).bind λrs h1=>Φ f rs h1
  |none=>λ_ _=>.no)
 |.bfn b es=>pr (Zq (b.fn cs) (Dy es))
 |.lenset e=>pr (Mv DB (e2 e).1)
 |.bmt b o es=>pr (V7 b (e2 o).1 (Dy es))
 |.mmt b o es=>pr (V4 b (e2 o).1 (Dy es))
 |.comp xs ys js tg it c e=>pr (BU xs.length js tg (Pm it) (Ov c) (e2 e).1)
 |.lrng a=>pr (Wx (e2 a).1)
 |.calL f es k js=>pr (Wz Φ f (Dy es) k js)
 |.calv i es=>pr (SQ Φ i (Dy es))
noncomputable def Dy:Em->En->MH->AB (List R)
 |.nil=>λ_ h=>.ok [] h
 |.cons e r=>λμ h=>((e2 e).1 μ h).bind λx h1=>(Dy r μ h1).bind λxs h2=>.ok (x::xs) h2
noncomputable def Po:Em->Ef×Tf
 |.nil=>(λ_ _=>.no,λ_ h=>.ok true h)
 |.cons e .nil=>e2 e
 |.cons e (.cons e' r)=>(jF (e2 e).1 (Po (.cons e' r)).1,ba (e2 e).2 (Po (.cons e' r)).2)
noncomputable def Pn:Em->Ef×Tf
 |.nil=>(λ_ _=>.no,λ_ h=>.ok false h)
 |.cons e .nil=>e2 e
 |.cons e (.cons e' r)=>(sG (e2 e).1 (Pn (.cons e' r)).1,rg (e2 e).2 (Pn (.cons e' r)).2)
noncomputable def Sx:aj->En->MH->AB (Option Int)
 |.no=>λ_ h=>.ok none h
 |.ye e=>λμ h=>((e2 e).1 μ h).bind λx h1=>AB.of ((T5 x).map some) h1
noncomputable def Pm:MI->En->MH->AB Wk
 |.of e=>λμ h=>((e2 e).1 μ h).bind λx h1=>AB.of (Fv h1 x) h1
 |.rng1 a=>λμ h=>((e2 a).1 μ h).bind λx h1=>AB.of (ET [x]) h1
 |.rng2 a b=>λμ h=>((e2 a).1 μ h).bind λx h1=>((e2 b).1 μ h1).bind λy h2=>AB.of (ET [x,y]) h2
 |.rng3 a b=>λμ h=>((e2 a).1 μ h).bind λx h1=>((e2 b).1 μ h1).bind λy h2=>AB.of (Ez x y) h2
 |.enu e=>λμ h=>((e2 e).1 μ h).bind λx h1=>AB.of (Sy x) h1
 |.zip a b=>λμ h=>((e2 a).1 μ h).bind λx h1=>((e2 b).1 μ h1).bind λy h2=>AB.of (Qd x y) h2
noncomputable def Ov:Em->Tf
 |.nil=>λ_ h=>.ok true h
 |.cons e .nil=>(e2 e).2
 |.cons _ (.cons _ _)=>λ_ _=>.no
end
end
section
theorem C4:∀{rs:List R}{ms:List MV}{vs:List V},vals rs=some ms->Az W F ρ rs vs->Ad W F ms vs
 |[],ms,vs,h,r=>by simp only[vals]at h;cases h;cases r;exact .nil
 |.v m::rs,ms,vs,h,r=>by
  obtain⟨l,hl,rfl⟩:=aE.mp (show(vals rs).map (m:: ·)=some ms from h);cases r with
  |cons q t=>exact .cons q (C4 hl t)
 |.r n::rs,ms,vs,h,r=>by cases h
 |.l _ _::rs,ms,vs,h,r=>by cases h
theorem CV(S:Bq W F H ρ h):∀{rs:List R}{ms:List MV}{vs:List V},Cc h rs=some ms->Az W F ρ rs vs->FF W F H ms vs
 |[],ms,vs,e,r=>by simp only[Cc]at e;cases e;cases r;exact .nil
 |x::rs,ms,vs,e,r=>by
  obtain⟨m,hm,e2⟩:=aA.mp (show(Au h x).bind (λm=>(Cc h rs).map (m:: ·))=some ms from e);obtain⟨l,hl,rfl⟩:=aE.mp e2;cases r with
  |cons q t=>exact .cons (S.view q hm) (CV S hl t)
def Ai.out(S:Bq W F H ρ h)(G:GE W F ρ (.ok (.v m) h) Q):JA W F H m Q:=λF' H' v g r=>G F' ρ H' v g.nxt (S.grow g) r
def IB(t:tM W (Ld g fa fb) σ H Q):br (PN W g) (tM W fa) (tM W fb) σ H Q:=by
 obtain⟨F,ρ,μ,h,S,e,G⟩:=t;refine⟨F,ρ,μ,h,S,e,(Ai.bind G).imp ?_⟩;rintro x H1 ⟨F1,ρ1,r,h1,n1,S1,q1,G1⟩;refine⟨F1,ρ1,μ,h1,S1,e.nxt n1,(Ai.bind G1).imp ?_⟩;rintro y H2 ⟨F2,ρ2,r2,h2,n2,S2,q2,G2⟩;obtain⟨rr,he,G3⟩:=G2.of;obtain⟨a,ha,he⟩:=aA.mp he;obtain⟨b,hb,he⟩:=aA.mp he;obtain⟨c,hc,rfl⟩:=aE.mp he;exact⟨F2,a,b,c,S2.sub,S2.view (q1.nxt n2) ha,S2.view q2 hb,hc,G3.out S2⟩
def Qr(t:tM W (Mv g fa) σ H Q):rh (rq W g) (tM W fa) σ H Q:=by
 obtain⟨F,ρ,μ,h,S,e,G⟩:=t;refine⟨F,ρ,μ,h,S,e,(Ai.bind G).imp ?_⟩;rintro x H1 ⟨F1,ρ1,r,h1,n1,S1,q1,G1⟩;obtain⟨rr,he,G3⟩:=G1.of;obtain⟨a,ha,he⟩:=aA.mp he;obtain⟨c,hc,rfl⟩:=aE.mp he;exact⟨F1,a,c,S1.sub,S1.view q1 ha,hc,G3.out S1⟩
def Dm(t:tM W (Zq g fs) σ H Q):nN (Uo W g) (Hk W fs) σ H Q:=by
 obtain⟨F,ρ,μ,h,S,e,G⟩:=t;refine⟨F,ρ,μ,h,S,e,(Ai.bind (rep:=Az W) G).imp ?_⟩;rintro xs H1 ⟨F1,ρ1,rs,h1,n1,S1,q1,G1⟩;obtain⟨rr,he,G3⟩:=G1.of;obtain⟨as,ha,he⟩:=aA.mp he;obtain⟨c,hc,rfl⟩:=aE.mp he;exact⟨F1,as,c,S1.sub,CV S1 ha q1,hc,G3.out S1⟩
def ga(hK:X.K=W.K)(o:WA)(ha:PE X a (tM W fa))(hb:PE X b (tM W fb)):PE X (.BinOp a o.op b pos) (tM W (Ld (Ck o) fa fb)):=PE.of (ib (ZP hK o) ha hb) λ_ _ _ t=>IB t
def dh(o:Z7)(ha:PE X a (tM W fa)):PE X (.UnaryOp o.op a pos) (tM W (Mv (We o) fa)):=PE.of (gz (tu o) ha) λ_ _ _ t=>Qr t
def fu(hK:X.K=W.K)(hu:X.A.units+70<cLine)(o:JC)(ha:PE X a (tM W fa))(hb:PE X b (tM W fb))(hm:behindInMarks o.op b=false):PE X (.Compare a [o.op] [b] pos) (tM W (Ld (λx y=>(AV o x y).map .bl) fa fb)):=PE.of (UE (Ik hK hu o) ha hb hm) λ_ _ _ t=>IB t
def fk(hK:X.K=W.K)(hu:X.A.units+70<cLine)(ha:PE X a (tM W fa))(hb:PE X b (tM W fb))(hs:J7 b):PE X (.Subscript a b pos) (tM W (Ld FW fa fb)):=PE.of (ic (tO hK hu) ha hb hs) λ_ _ _ t=>IB t
def dg{i:Nat}{x:Str}(hN:X.N[i]?=some x)(hv:W5 X.env.scope x)(hd:(x ==("__debug__" :Str))=false)(hcd:(x ==("__classdict__" :Str))=false):PE X (.Name x pos) (tM W (Zp i)):=by
 refine PE.of (EV hN hv hd hcd) ?_;rintro σ H Q ⟨F,ρ,μ,h,S,e,G⟩;unfold Zp at G;split at G
 ·rename_i r hr;obtain⟨v,h1,h2⟩:=e.at_ i r hr;exact⟨v,h1,G.ret S h2⟩
 exact G.elim
def Fz(hp:PE X e (tC v))(hr:∀F,Ap W F m v):PE X e (tM W λ_ h=>.ok (.v m) h):=
 PE.of hp λσ H Q ⟨F,ρ,μ,h,S,e,G⟩=>G.ret S (hr F)
def HG:PA X [] (Hk W λ_ h=>.ok [] h):=PA.of IM λσ H Q ⟨F,ρ,μ,h,S,e,G⟩=>G.ret (v:=[]) S .nil
def Cw(ha:PE X e (tM W fa))(hr:PA X es (Hk W fs))(hs:starEach (e::es) X.env=(false,eval e X.env)::starEach es X.env):PA X (e::es) (Hk W λμ h=>(fa μ h).bind λx h1=>(fs μ h1).bind λxs h2=>.ok (x::xs) h2):=by
 refine PA.of (ED ha hr hs) ?_;rintro σ H Q ⟨F,ρ,μ,h,S,e,G⟩;refine⟨F,ρ,μ,h,S,e,(Ai.bind (rep:=A0 W) G).imp ?_⟩;rintro x H1 ⟨F1,ρ1,r,h1,n1,S1,q1,G1⟩;refine⟨F1,ρ1,μ,h1,S1,e.nxt n1,(Ai.bind (rep:=Az W) G1).imp ?_⟩;rintro xs H2 ⟨F2,ρ2,rs,h2,n2,S2,q2,G2⟩;exact G2.ret S2 (.cons (q1.nxt n2) q2)
def dm{x1:Nat}(h:PA X es (Hk W fs)):PE X (.Tuple es x1 pos) (tM W (j6 fs)):=by
 refine PE.of (XX h) ?_;rintro σ H Q ⟨F,ρ,μ,h,S,e,G⟩;refine⟨F,ρ,μ,h,S,e,(Ai.bind (rep:=Az W) G).imp ?_⟩;rintro xs H1 ⟨F1,ρ1,rs,h1,n1,S1,q1,G1⟩;obtain⟨rr,he,G3⟩:=G1.of;obtain⟨ms,hm,he⟩:=aA.mp he;obtain⟨hl,rfl⟩:=Aq he;have r:=C4 hm q1;exact⟨by rw[←r.len,J0];exact aV hl (by decide),λp n=>(G3.out S1).tup S1.sub n r⟩
def ff(h:PA X es (Hk W fs)):PE X (.List es pos) (tM W (jA fs)):=by
 refine PE.of (Ru h) ?_;rintro σ H Q ⟨F,ρ,μ,h,S,e,G⟩;refine⟨F,ρ,μ,h,S,e,(Ai.bind (rep:=Az W) G).imp ?_⟩;rintro xs H1 ⟨F1,ρ1,rs,h1,n1,S1,q1,G1⟩;obtain⟨rr,he,G3⟩:=G1.of;obtain⟨ms,hm,he⟩:=aA.mp he;obtain⟨hl,rfl⟩:=Aq he;have r:=C4 hm q1;exact⟨by rw[←r.len,J0];exact aV hl (by decide),λp n=>(G3.out S1).lst S1.sub n r⟩
def Cn.of_new{F:Hp}{p a:Addr}{o:HO}{m:MO}(n:H p=none)(l:Cn W F H a m):Cn W F (upd H p o) a m:=by
 cases m with
 |lst l'=>obtain⟨n1,vs,h,r⟩:=l;exact⟨n1,vs,by rw[Ab (Ao h n)];exact h,r⟩
 |dic t ks ms=>
  obtain⟨n1,vs,r,q⟩:=l;rcases q with⟨kk,e0,e1,e2,e3⟩|⟨kk,e0,e1,e2,e3⟩
  ·exact⟨n1,vs,r,.inl ⟨kk,e0,e1,by rw[Ab (Ao e2 n)];exact e2,e3⟩⟩
  exact⟨n1,vs,r,.inr ⟨kk,e0,e1,by rw[Ab (Ao e2 n)];exact e2,e3⟩⟩
 |ins c ns ms=>obtain⟨n1,dx,vs,h1,h2,n2,h3,r⟩:=l;exact⟨n1,dx,vs,by rw[Ab (Ao h1 n)];exact h1,by rw[Ab (Ao h2 n)];exact h2,n2,h3,r⟩
 |gone m=>exact l
def Cn.there{F:Hp}{a:Addr}{m:MO}(s:Am F H)(l:Cn W F H a m):∃o,H a=some o:=by
 cases m with
 |lst l'=>obtain⟨n1,vs,h,r⟩:=l;exact⟨_,h⟩
 |dic t ks ms=>
  obtain⟨n1,vs,r,q⟩:=l;rcases q with⟨kk,e0,e1,e2,e3⟩|⟨kk,e0,e1,e2,e3⟩<;>exact⟨_,e2⟩
 |ins c ns ms=>obtain⟨n1,dx,vs,h1,_⟩:=l;exact⟨_,h1⟩
 |gone m=>obtain⟨_,o,h⟩:=l;exact⟨o,s _ _ h.1⟩
def Bq.mem{F:Hp}{ρ:List Addr}{h:MH}(S:Bq W F H ρ h){a:Addr}(ha:a∈ρ):∃o,H a=some o:=by
 obtain⟨n,hn,rfl⟩:=cV.mp ha;have hl:n<h.length:=by rw[←S.len];exact hn
 exact(S.obj n _ _ (by simp[hn]) (show h[n]?=some h[n] by simp[hl])).there S.sub
def Bq.push(S:Bq W F H ρ h)(n:H p=none)(l:Cn W F (upd H p o) p m):Bq W F (upd H p o) (ρ++ [p]) (h++ [m]):=by
 refine⟨λb u e=>by rw[Ab (Ao (S.sub _ _ e) n)];exact S.sub _ _ e,?_,by simp[S.len],λk a m' h1 h2=>?_,S.tb.upd (λu e=>by rw[n]at e;cases e),S.tf⟩
 ·rw[fG];refine⟨S.nd,by simp,λa ha b hb=>?_⟩;have hb:b=p:=by simpa using hb
  subst hb;obtain⟨o',e⟩:=S.mem ha;exact Ao e n
 by_cases hk:k<ρ.length
 ·rw[aL hk]at h1;rw[aL (by rw[←S.len];exact hk)]at h2;exact(S.obj k a m' h1 h2).of_new n
 have hk2:k=ρ.length:=by
  have:=(a9.mp h1).1;simp at this
  lia
 subst hk2;rw[aS (aH _)]at h1;rw[aS (by rw[S.len];exact aH _)]at h2;simp[S.len]at h1 h2;subst h1 h2;exact l
def Bq.nxtPush:DO F ρ F (ρ++ [p]):=⟨Am.refl _,List.prefix_append _ _⟩
def Bq.atLast(S:Bq W F H ρ h):A0 W F (ρ++ [p]) (.r h.length) (.ref p):=⟨p,rfl,by rw[←S.len];simp⟩
def Xz(h:PA X es (Hk W fs)):PE X (.List es pos) (tM W (Ww fs)):=by
 refine PE.of (Ru h) ?_;rintro σ H Q ⟨F,ρ,μ,h,S,e,G⟩;refine⟨F,ρ,μ,h,S,e,(Ai.bind (rep:=Az W) G).imp ?_⟩;rintro xs H1 ⟨F1,ρ1,rs,h1,n1,S1,q1,G1⟩;split at G1
 ·rename_i ms hm;split at G1
  ·rename_i hl;have r:=C4 hm q1;refine⟨by rw[←r.len,J0];exact aV hl (by decide),λp n=>?_⟩;exact G1 F1 (ρ1++ [p]) _ _ Bq.nxtPush (S1.push n ⟨S1.sub.free n,xs,Ac,r⟩) S1.atLast
  exact G1.elim
 exact G1.elim
end
end B
namespace L2
open PySem PySem.Spec PyProof.Rows
section
def Af.freezeK(I:Af X pins σ H s)(e:H a=some (.dK kvs)):∃ob,Af X pins σ (upd H a (.frz ob (.dK kvs))) s:=by
 have ok:=(show AG X.prog X.w H s.heap a (.dK kvs) from I.hok a _ e);obtain⟨z,y,vs,r,ob,es,ep,h1,h2⟩:=id ok;have ne:∀{b:Addr}{o:HO},H b=some o->o≠ .dK kvs->b≠a:=λq n=>HR q e n;refine⟨ob,?_⟩;show Af X pins σ (upd H a (.frz ob (.dK kvs))) {s with heap:=s.heap,gens:=s.gens,drawn:=s.drawn,toks:=s.toks};refine I.step (h':=s.heap) (t':=s.toks) (g':=s.gens) (d':=s.drawn) (ch:=[]) (λb hb=>by cases hb) (λb o _ _ _ q _=>q) (λb o _ _ _ q _=>⟨o.slots,q⟩) (λb o _ q n=>?_) (λb o _ q=>⟨o,q⟩)
  (λb xs q=>?_) (λb o u q=>?_) (λb ps q=>?_) (λm hm=>hm) (λb o q=>?_) I.bare
 ·rw[Ab (λz=>by subst z;rw[e]at n;cases n)];exact n
 ·rw[Ab (ne q (by intro z;cases z))];exact q
 ·rw[Ab (ne q (by intro z;cases z))];exact q
 ·exact⟨#[],by rw[Ab (ne q (by intro z;cases z)),q];simp⟩
 have own:∀c x,H c=some (.own x)->upd H a (.frz ob (.dK kvs)) c=some (.own x):=λc x q=>by rw[Ab (ne q (by intro z;cases z))];exact q
 have tup:∀c ys,H c=some (.tup ys)->upd H a (.frz ob (.dK kvs)) c=some (.tup ys):=λc x q=>by rw[Ab (ne q (by intro z;cases z))];exact q
 by_cases hb:b=a
 ·subst hb;rw[Ac]at q;cases q;exact⟨h1,ok.stay (λ_ _ _ q=>q) (λc q=>own c _ q) tup⟩
 rw[Ab hb]at q;exact(I.hok b o q).stay (λ_ _ _ q=>q) (λc q=>own c _ q) tup
end
end L2
namespace B
open PySem L2 PySem.SeqAt
open PyProof.Rows hiding St
section
def Cn.apart(hpq:q≠p)(sF:Am F F')(hF:∀b,b≠p->F' b=F b\/∃x,H b=some (.own x)/\x=p)(hH:∀b o,b≠p->H b=some o->H' b=some o)(hm:∀x,H p≠some (.own x))(l:Cn W F H q m):Cn W F' H' q m:=by
 have fn:∀{b:Addr},b≠p->(∀x,H b=some (.own x)->x≠p)->F b=none->F' b=none:=λhb ho n=>by
  rcases hF _ hb with h|⟨x,h1,h2⟩
  ·rw[h];exact n
  exact absurd h2 (ho x h1)
 cases m with
 |lst l'=>obtain⟨n1,vs,h,r⟩:=l;exact⟨fn hpq (λx z=>by rw[h]at z;cases z) n1,vs,hH _ _ hpq h,r.same sF⟩
 |dic t ks ms=>
  obtain⟨n1,vs,r,w⟩:=l;rcases w with⟨kk,e0,e1,e2,e3⟩|⟨kk,e0,e1,e2,e3⟩
  ·exact⟨fn hpq (λx z=>by rw[e2]at z;cases z) n1,vs,r.same sF,.inl ⟨kk,e0,e1,hH _ _ hpq e2,e3⟩⟩
  exact⟨fn hpq (λx z=>by rw[e2]at z;cases z) n1,vs,r.same sF,.inr ⟨kk,e0,e1,hH _ _ hpq e2,e3⟩⟩
 |ins c ns ms=>
  obtain⟨n1,dx,vs,h1,h2,n2,h3,r⟩:=l;have hd:dx≠p:=λz=>by subst z;exact hm _ h2
  exact⟨fn hpq (λx z=>by rw[h1]at z;cases z) n1,dx,vs,hH _ _ hpq h1,hH _ _ hd h2,fn hd (λx z=>by rw[h2]at z;cases z;exact hpq) n2,h3,r.same sF⟩
 |gone m=>obtain⟨r,o,h⟩:=l;exact⟨r.same sF,o,sF _ _ h.1,h.2⟩
def Mr{α:Type}{l:List α}{n k:Nat}{x y:α}(h:(l.set n x)[k]?=some y):(k=n/\y=x)\/(k≠n/\l[k]?=some y):=by
 by_cases hk:n=k
 ·subst hk;rw[eO]at h;simp at h;exact .inl ⟨rfl,h.2.symm⟩
 rw[c7 hk]at h;exact .inr ⟨λz=>hk z.symm,h⟩
def Nodup.inj{ρ:List Addr}(nd:ρ.Nodup){n k:Nat}(h1:ρ[n]?=some p)(h2:ρ[k]?=some p):n=k:=by
 obtain⟨l1,e1⟩:=a9.mp h1;obtain⟨l2,e2⟩:=a9.mp h2;have:=bO.mp nd;rcases Nat.lt_trichotomy n k with z|z|z
 ·exact absurd (e1.trans e2.symm) (this n k l1 l2 z)
 ·exact z
 exact absurd (e2.trans e1.symm) (this k n l2 l1 z)
def Bq.freeze{ρ:List Addr}{h:MH}{n:Nat}(S:Bq W F H ρ h)(hp:ρ[n]?=some p)(sub:Am F' H')(sF:Am F F')(hF:∀b,b≠p->F' b=F b\/∃x,H b=some (.own x)/\x=p)(hH:∀b o,b≠p->H b=some o->H' b=some o)(hm:∀x,H p≠some (.own x))(r:Ap W F' m (.ref p))(ho:∃o,F' p=some o/\∀ob,o≠AO p ob)(ht:∀u,H p=some u->JQ u->H' p=some u)(hp2:∀ps,H p≠some (.tbl ps)):Bq W F' H' ρ (h.set n (.gone m)):=by
 refine⟨sub,S.nd,by simp[S.len],λk q m' h1 h2=>?_,S.tb.keep λb u e t=>(if hb:b=p then by subst hb;exact ht u e t else hH b u hb e),λt ht=>by
  obtain⟨ps,e,_⟩:=S.tb t ht;rcases hF t.1 (λz=>hp2 ps (by rw[←z];exact e)) with q|⟨x,q,_⟩
  ·rw[q];exact S.tf t ht
  rw[e]at q;cases q⟩
 rcases Mr h2 with⟨rfl,rfl⟩|⟨hk,h2⟩
 ·rw[hp]at h1;cases h1;exact⟨r,ho⟩
 have hq:q≠p:=λz=>hk (Nodup.inj S.nd (by rw[←z];exact h1) hp);exact(S.obj k q m' h1 h2).apart hq sF hF hH hm
def dw{i:Nat}{x:Str}(hN:X.N[i]?=some x)(hv:W5 X.env.scope x)(hd:(x ==("__debug__" :Str))=false)(hcd:(x ==("__classdict__" :Str))=false):PE X (.Name x pos) (tM W (Zr i)):=by
 intro pins s σ H Q I ⟨F,ρ,μ,h,S,e,G⟩;unfold Zr at G;split at G
 ·rename_i m hm;obtain⟨v,h1,h2⟩:=e.at_ i _ hm;exact EV hN hv hd hcd pins s σ H Q I ⟨v,h1,G.ret S h2⟩
 ·rename_i n hn;obtain⟨v,h1,p,rfl,hp⟩:=e.at_ i _ hn;split at G
  ·rename_i o ho;have l:=S.obj n p o hp ho;have go:∀{F':Hp},Am F' H->Am F F'->(∀b,b≠p->F' b=F b\/∃x,H b=some (.own x)/\x=p)->(∀x,H p≠some (.own x))->Ap W F' o.frz (.ref p)->(∃o,F' p=some o/\∀ob,o≠AO p ob)->(∀ps,H p≠some (.tbl ps))->wpAny (model X.prog X.w) X.A (eval (.Name x pos) X.env) (EP X pins σ Q) X.xe s:=λ{F'} sub sF hF hm r ho htb=>by
    refine EV hN hv hd hcd pins s σ H Q I ⟨.ref p,h1,?_⟩;exact G F' ρ H (.ref p) ⟨sF,cA _⟩ (S.freeze hp sub sF hF (λb o _ q=>q) hm r ho (λ_ e _=>e) htb) r
   cases o with
   |lst l'=>
    obtain⟨n1,vs,hH,r⟩:=l;refine go (F':=upd F p (.lst vs)) (λb u z=>?_) (.new n1) (λb hb=>.inl (Ab hb)) (λx z=>by rw[hH]at z;cases z) (by unfold MO.frz Ap;exact⟨p,vs,rfl,Ac,r.same (.new n1)⟩) ⟨_,Ac,λob z=>by cases z⟩ (λps z=>by rw[hH]at z;cases z);by_cases hb:b=p
    ·subst hb;rw[Ac]at z;cases z;exact hH
    rw[Ab hb]at z;exact S.sub _ _ z
   |ins c ns ms=>
    obtain⟨n1,dx,vs,hH,hD,n2,h3,r⟩:=l;have hdp:dx≠p:=HR hD hH (by intro z;cases z);have n2':(upd F p (.ins (W.ca c) dx ((ns.map W.nm).zip vs))) dx=none:=by rw[Ab hdp];exact n2
    have sF:Am F (upd (upd F p (.ins (W.ca c) dx ((ns.map W.nm).zip vs))) dx (.own p)):=(Am.new n1).trans (.new n2');refine go (F':=upd (upd F p (.ins (W.ca c) dx ((ns.map W.nm).zip vs))) dx (.own p)) (λb u z=>?_) sF (λb hb=>?_) (λx z=>by rw[hH]at z;cases z) ?_ ⟨_,by rw[Ab (bN hdp)];exact Ac,λob z=>by cases z⟩ (λps z=>by rw[hH]at z;cases z)
    ·by_cases hb:b=dx
     ·subst hb;rw[Ac]at z;cases z;exact hD
     rw[Ab hb]at z;by_cases hb2:b=p
     ·subst hb2;rw[Ac]at z;cases z;exact hH
     rw[Ab hb2]at z;exact S.sub _ _ z
    ·by_cases hb2:b=dx
     ·subst hb2;exact .inr ⟨p,hD,rfl⟩
     exact .inl (by rw[Ab hb2,Ab hb])
    unfold MO.frz Ap;exact⟨p,dx,vs,rfl,by rw[Ab (bN hdp)];exact Ac,Ac,h3,r.same sF⟩
   |gone m=>
    obtain⟨r,o,ho⟩:=l;have e2:h.set n (.gone m)=h:=by
     apply dF;intro k;by_cases hk:n=k
     ·subst hk;rename_i ho' ;rw[eO];simp[ho'];exact(a9.mp ho').1
     rw[c7 hk]
    exact EV hN hv hd hcd pins s σ H Q I ⟨.ref p,h1,G F ρ H (.ref p) .refl (by show Bq W F H ρ (h.set n (.gone m));rw[e2];exact S) r⟩
   |dic t ks ms=>
    obtain⟨n1,vs,r,w⟩:=l;have dgo:∀{u:HO},H p=some u->(∃ob,Af X pins σ (upd H p (.frz ob u)) s)->(∀x,u≠ .own x)->¬JQ u->(∀F',(∃ob,F' p=some (.frz ob u))->Am F F'->Ap W F' (.dic t ks ms) (.ref p))->wpAny (model X.prog X.w) X.A (eval (.Name x pos) X.env) (EP X pins σ Q) X.xe s:=λ{u} hu ⟨ob,I'⟩ hno hnt hr=>by
     refine EV hN hv hd hcd pins s σ _ Q I' ⟨.ref p,h1,?_⟩;have sF:Am F (upd F p (.frz ob u)):=.new n1;have rr:=hr (upd F p (.frz ob u)) ⟨ob,Ac⟩ sF;refine G (upd F p (.frz ob u)) ρ _ (.ref p) ⟨sF,cA _⟩ (S.freeze hp (λb o z=>?_) sF (λb hb=>.inl (Ab hb)) (λb o hb q=>by rw[Ab hb];exact q) (λx z=>hno x (by rw[hu]at z;cases z;rfl)) rr ⟨_,Ac,λob z=>by cases z;exact hno p rfl⟩ (λw e t=>absurd (by rw[hu]at e;cases e;exact t) hnt) (λps z=>hnt (by rw[hu]at z;cases z;trivial))) rr;by_cases hb:b=p
     ·subst hb;rw[Ac]at z ⊢; exact z
     rw[Ab hb]at z ⊢; exact S.sub _ _ z
    rcases w with⟨kk,e0,e1,e2,e3⟩|⟨kk,e0,e1,e2,e3⟩
    ·exact dgo e2 (I.freezeT e2) (λx z=>by cases z) (λz=>z) λF' hF sF=>by unfold Ap;exact⟨p,vs,rfl,r.same sF,.inl ⟨kk,e0,e1,hF,e3⟩⟩
    exact dgo e2 (I.freezeK e2) (λx z=>by cases z) (λz=>z) λF' hF sF=>by unfold Ap;exact⟨p,vs,rfl,r.same sF,.inr ⟨kk,e0,e1,hF,e3⟩⟩
  exact G.elim
 exact G.elim
def X5(t:Bool):PE X (.Dict [] [] pos) (tM W (Wy t)):=by
 cases t with
 |true=>
  refine PE.of R0 λσ H Q ⟨F,ρ,μ,h,S,e,G⟩ p n=>?_;exact G F (ρ++ [p]) _ _ Bq.nxtPush (S.push n ⟨S.sub.free n,[],.nil,.inl ⟨[],rfl,rfl,Ac,rfl⟩⟩) S.atLast
 |false=>
  refine PE.of R1 λσ H Q ⟨F,ρ,μ,h,S,e,G⟩ p n=>?_;exact G F (ρ++ [p]) _ _ Bq.nxtPush (S.push n ⟨S.sub.free n,[],.nil,.inr ⟨[],rfl,rfl,Ac,rfl⟩⟩) S.atLast
theorem K6{f:Nat}:∀{ns:List Nat}{ms:List MV}{vs:List V}{m:MV},HX f ns ms=some m->Ad W F ms vs->ns.length=vs.length->∃v,((ns.map W.nm).zip vs).lookup (W.nm f)=some v/\Ap W F m v
 |[],_,_,_,h,_,_=>by simp[HX]at h
 |n::ns,[],_,_,h,_,_=>by simp[HX]at h
 |n::ns,m'::ms,vs,m,h,r,hl=>by
  obtain⟨v,us,rfl,h1,h2⟩:=r.uncons;unfold HX at h;by_cases hn:n=f
  ·rw[if_pos hn]at h;cases h;subst hn;exact⟨v,by simp[List.lookup_cons],h1⟩
  rw[if_neg hn]at h;obtain⟨w',e1,e2⟩:=K6 h h2 (by simpa using hl);refine⟨w',?_,e2⟩;have:(W.nm f ==W.nm n)=false:=bG.mpr λz=>hn (W.inj _ _ z).symm;simp[List.lookup_cons,this,e1]
def fq(hK:X.K=W.K)(kt:Kt cs W){f:Nat}(he:PE X e (tM W fa))(hb:attributeBase e (W.nm f) X.env (eval e X.env)=eval e X.env):PE X (.Attribute e (W.nm f) pos) (tM W (Mv (Du cs f) fa)):=by
 intro pins s σ H Q I h;refine VB hb (AR (he pins s σ H _ I (Qr h)) ?_);rintro u s1 ⟨x,H1,I1,rx,F,a,c,sub,va,hg,q⟩;cases a<;>simp only[Du]at hg<;>first|(cases hg;done)|skip
 obtain⟨i,hi,h2⟩:=aA.mp hg;rename_i c' ns ms;by_cases hc:i.exc=false/\f∈i.flds
 ·rw[if_pos hc]at h2;obtain⟨p,dx,vs,rfl,hp,hd,hl,r⟩:=va;obtain rfl:u=Value.ref p:=rx;obtain⟨v,e1,e2⟩:=K6 h2 r hl;exact Mp I1 hp (by rw[hK];exact(kt.kc c' i hi hc.1).1) (by rw[hK];exact kt.kn c' i f hi hc.2 hc.1) e1 λu' s2 I2 ru=>⟨v,H1,I2,ru,q.same sub e2⟩
 rw[if_neg hc]at h2;cases h2
def WQ(W:Wd)(f:En->MH->AB (Option Int)):TO:=λσ H Q=>ZC W σ H λF ρ μ h=>Ai W (λ_ _ a b=>a=b) F ρ (f μ h) Q
def PO.of{e:Option Expr}{t t':TO}(h:PO X e t)(i:∀σ H Q,t' σ H Q->t σ H Q):PO X e t':=λpins s σ H Q I q=>h pins s σ H Q I (i σ H Q q)
def dv:PO X none (WQ W λ_ h=>.ok none h):=PO.of Ux λσ H Q ⟨F,ρ,μ,h,S,e,G⟩=>G.ret (v:=none) S rfl
def MA{i:Int}(h:T5 r=some i)(q:A0 W F ρ r v):v=.int i:=by
 unfold T5 at h;split at h
 ·cases h;have q:=q;unfold Ap at q;exact q
 cases h
def Fk(h:Qa r=some i)(q:A0 W F ρ r v):v=.bl i:=by
 unfold Qa at h;split at h
 ·cases h;have q:=q;unfold Ap at q;exact q
 cases h
def de(h:PE X e (tM W fa)):PO X (some e) (WQ W λμ h=>(fa μ h).bind λx h1=>AB.of ((T5 x).map some) h1):=by
 refine PO.of (Uw h) ?_;rintro σ H Q ⟨F,ρ,μ,h,S,e,G⟩;refine⟨F,ρ,μ,h,S,e,(Ai.bind (rep:=A0 W) G).imp ?_⟩;rintro x H1 ⟨F1,ρ1,r,h1,n1,S1,q1,G1⟩;obtain⟨rr,he,G3⟩:=G1.of;obtain⟨i,hi,rfl⟩:=aE.mp he;exact⟨i,MA hi q1,G3.ret (v:=some i) S1 rfl⟩
def dq(hK:X.K=W.K){lo hi:Option Expr}(ha:PE X a (tM W fa))(hl:PO X lo (WQ W fl))(hh:PO X hi (WQ W fh)):PE X (.Subscript a (.Slice lo hi none p2) pos) (tM W (j7 fa fl fh)):=by
 refine PE.of (Kr (tE hK) ha hl hh) ?_;rintro σ H Q ⟨F,ρ,μ,h,S,e,G⟩;refine⟨F,ρ,μ,h,S,e,(Ai.bind (rep:=A0 W) G).imp ?_⟩;rintro x H1 ⟨F1,ρ1,r,h1,n1,S1,q1,G1⟩;refine⟨F1,ρ1,μ,h1,S1,e.nxt n1,(Ai.bind (rep:=λ_ _ a b=>a=b) G1).imp ?_⟩;rintro l H2 ⟨F2,ρ2,l',h2,n2,S2,rfl,G2⟩;refine⟨F2,ρ2,μ,h2,S2,(e.nxt n1).nxt n2,(Ai.bind (rep:=λ_ _ a b=>a=b) G2).imp ?_⟩;rintro u H3 ⟨F3,ρ3,u',h3,n3,S3,rfl,G3⟩;obtain⟨rr,he,G4⟩:=G3.of;obtain⟨m,hm,he⟩:=aA.mp he;obtain⟨c,hc,rfl⟩:=aE.mp he;exact⟨F3,m,c,S3.sub,S3.view ((q1.nxt n2).nxt n3) hm,hc,G4.out S3⟩
def Xm(hK:X.K=W.K){lo hi:Option Expr}(ha:PE X a (tM W fa))(hl:PO X lo (WQ W fl))(hh:PO X hi (WQ W fh)):PE X (.Subscript a (.Slice lo hi none p2) pos) (tM W (Wu fa fl fh)):=by
 refine PE.of (Kr MR ha hl hh) ?_;rintro σ H Q ⟨F,ρ,μ,h,S,e,G⟩;refine⟨F,ρ,μ,h,S,e,(Ai.bind (rep:=A0 W) G).imp ?_⟩;rintro x H1 ⟨F1,ρ1,r,h1,n1,S1,q1,G1⟩;refine⟨F1,ρ1,μ,h1,S1,e.nxt n1,(Ai.bind (rep:=λ_ _ a b=>a=b) G1).imp ?_⟩;rintro l H2 ⟨F2,ρ2,l',h2,n2,S2,rfl,G2⟩;refine⟨F2,ρ2,μ,h2,S2,(e.nxt n1).nxt n2,(Ai.bind (rep:=λ_ _ a b=>a=b) G2).imp ?_⟩;rintro u H3 ⟨F3,ρ3,u',h3,n3,S3,rfl,G3⟩;split at G3
 ·rename_i ms hm;obtain⟨m,hm,he⟩:=aA.mp hm;obtain rfl:=EE he;obtain⟨p,ws,rfl,hp,r⟩:=S3.view ((q1.nxt n2).nxt n3) hm;exact⟨p,ws,rfl,.inl (.inl hp),λq n=>G3 F3 (ρ3++ [q]) _ _ Bq.nxtPush (S3.push n ⟨S3.sub.free n,_,Ac,r.cut⟩) S3.atLast⟩
 exact G3.elim
end
section
variable {X:Cx}{W:Wd}{σ:St}{H F:Hp}{a b c e:Expr}{rest:List Expr}{pos:Pos}{fa fb fc:Ef}{ta tb:Tf}
abbrev Zh:Hp->List Addr->Bool->Bool->Prop:=λ_ _ a b=>a=b
def PW.of(h:PW X e t)(i:∀σ H Q,t' σ H Q->t σ H Q):PW X e t':=λwh pins s σ H Q I q=>h wh pins s σ H Q I (i σ H Q q)
noncomputable def LG:Expr->Bool
 |.UnaryOp .Not _ _=>false
 |.BoolOp _ _ _=>false
 |.IfExp _ _ _ _=>false
 |.Compare _ _ _ _=>false
 |_=>true
def O4(h:LG e=true):∀whole,PySem.isTrue e env whole=(do let v ←whole;standAt e.pos;holding [v] (truthy v)):=by
 intro whole;cases e with
 |UnaryOp op x p=>cases op<;>first|(cases h;done)|(unfold PySem.isTrue;rfl)
 |BoolOp _ _ _=>cases h
 |IfExp _ _ _ _=>cases h
 |Compare _ _ _ _=>cases h
 |_=>unfold PySem.isTrue;rfl
def Ad.emp(r:Ad W F l vs):l.isEmpty=vs.isEmpty:=by
 have:=r.len;cases l<;>cases vs<;>simp_all
def Qp(hK:X.K=W.K)(sub:Am F H)(va:Br W F H m x)(h:Da m=some k):Z8 X.K x H k:=by
 cases m<;>simp only[Da]at h<;>first|(cases h;done)|skip
 ·cases va;cases h;rfl
 ·cases va;cases h;rfl
 ·cases va;cases h;rfl
 ·obtain⟨hz,rfl⟩:=Aq h;cases va;exact⟨hz,rfl⟩
 ·obtain⟨p,vs,rfl,hp,r⟩:=va;cases h;have e:=r.emp;exact .inr (.inl ⟨vs,.inl (.inl (sub _ _ hp)),by rw[e]⟩)
 obtain⟨p,vs,rfl,hp,r⟩:=va;cases h;have e:=r.emp;exact .inl ⟨vs,.inl (.inl hp),by rw[e]⟩
def be(hK:X.K=W.K)(ha:PE X e (tM W fa))(hp:LG e=true):PT X e (ES W (aw fa)):=by
 refine PT.of (QG ha (O4 hp)) ?_;rintro σ H Q ⟨F,ρ,μ,h,S,e,G⟩;refine⟨F,ρ,μ,h,S,e,(Ai.bind (rep:=A0 W) G).imp ?_⟩;rintro x H1 ⟨F1,ρ1,r,h1,n1,S1,q1,G1⟩;obtain⟨k,he,G3⟩:=G1.of;obtain⟨m,hm,he⟩:=aA.mp he;exact⟨k,Qp hK S1.sub (S1.view q1 hm) he,G3.ret (v:=k) S1 rfl⟩
def JR(i:∀Q,tM W f σ H Q->t σ H Q)(h:ES W (tbl f) σ H Q):Qs t σ H Q:=by
 obtain⟨F,ρ,μ,h,S,e,G⟩:=h;refine i _ ⟨F,ρ,μ,h,S,e,(Ai.bind (rep:=A0 W) G).imp ?_⟩;rintro x H1 ⟨F1,ρ1,r,h1,n1,S1,q1,G1⟩;obtain⟨k,he,G3⟩:=G1.of;exact⟨k,Fk he q1,G3.ret (v:=k) S1 rfl⟩
def bi(hK:X.K=W.K)(hu:X.A.units+70<cLine)(o:JC)(ha:PE X a (tM W fa))(hb:PE X b (tM W fb))(hm:behindInMarks o.op b=false):PT X (.Compare a [o.op] [b] pos) (ES W (tbl (Ld (λx y=>(AV o x y).map .bl) fa fb))):=
 PT.of (Us (Ik hK hu o) ha hb hm) λσ H Q t=>JR (λQ t=>IB t) t
def Lj(t:tM W (NY o o' fa fb fc) σ H Q):L5 (PN W λx y=>(AV o x y).map .bl) (PN W λx y=>(AV o' x y).map .bl) (tM W fa) (tM W fb) (tM W fc) σ H Q:=by
 obtain⟨F,ρ,μ,h,S,e,G⟩:=t;refine⟨F,ρ,μ,h,S,e,(Ai.bind (rep:=A0 W) G).imp ?_⟩;rintro x H1 ⟨F1,ρ1,r,h1,n1,S1,q1,G1⟩;refine⟨F1,ρ1,μ,h1,S1,e.nxt n1,(Ai.bind (rep:=A0 W) G1).imp ?_⟩;rintro y H2 ⟨F2,ρ2,r2,h2,n2,S2,q2,G2⟩;split at G2
 ·rename_i hk;obtain⟨a,ha,hk⟩:=aA.mp hk;obtain⟨b,hb,hk⟩:=aA.mp hk;refine⟨F2,a,b,.bl true,S2.sub,S2.view (q1.nxt n2) ha,S2.view q2 hb,by show Option.map MV.bl (AV o a b)=_;rw[hk];rfl,λF' H' v g r=>?_⟩;unfold Ap at r;subst r;refine⟨true,rfl,YK ?_⟩;refine⟨F',ρ2,μ,h2,S2.grow g,((e.nxt n1).nxt n2).nxt g.nxt,(Ai.bind (rep:=A0 W) (G2.nxt g.nxt)).imp ?_⟩;rintro z H3 ⟨F3,ρ3,r3,h3,n3,S3,q3,G3⟩;obtain⟨rr,he,G4⟩:=G3.of;obtain⟨a',ha',he⟩:=aA.mp he;obtain⟨b',hb',he⟩:=aA.mp he;obtain⟨k,hk',rfl⟩:=aE.mp he;exact⟨F3,a',b',.bl k,S3.sub,S3.view ((q2.nxt g.nxt).nxt n3) ha',S3.view q3 hb',by show Option.map MV.bl (AV o' a' b')=_;rw[hk'];rfl,G4.out S3⟩
 ·rename_i hk;obtain⟨a,ha,hk⟩:=aA.mp hk;obtain⟨b,hb,hk⟩:=aA.mp hk;refine⟨F2,a,b,.bl false,S2.sub,S2.view (q1.nxt n2) ha,S2.view q2 hb,by show Option.map MV.bl (AV o a b)=_;rw[hk];rfl,λF' H' v g r=>?_⟩;unfold Ap at r;subst r;exact⟨false,rfl,YL ((G2.out S2) F' H' _ g (by unfold Ap;rfl))⟩
 exact G2.elim
def X7(hK:X.K=W.K)(hu:X.A.units+70<cLine)(o o':JC)(ha:PE X a (tM W fa))(hb:PE X b (tM W fb))(hc:PE X c (tM W fc))(hm:lastMarks [o.op,o'.op] [b,c]=false):PE X (.Compare a [o.op,o'.op] [b,c] pos) (tM W (NY o o' fa fb fc)):=
 PE.of (R3 (Ik hK hu o) (Ik hK hu o') ha hb hc hm) λσ H Q t=>Lj t
def WM(hK:X.K=W.K)(hu:X.A.units+70<cLine)(o o':JC)(ha:PE X a (tM W fa))(hb:PE X b (tM W fb))(hc:PE X c (tM W fc))(hm:lastMarks [o.op,o'.op] [b,c]=false):PT X (.Compare a [o.op,o'.op] [b,c] pos) (ES W (tbl (NY o o' fa fb fc))):=
 PT.of (QH (Ik hK hu o) (Ik hK hu o') ha hb hc hm) λσ H Q t=>JR (λQ t=>Lj t) t
def bg(ha:PT X a (ES W ta)):PT X (.UnaryOp .Not a pos) (ES W (ay ta)):=by
 refine PT.of (XI ha) ?_;rintro σ H Q ⟨F,ρ,μ,h,S,e,G⟩;refine⟨F,ρ,μ,h,S,e,(Ai.bind (rep:=Zh) G).imp ?_⟩;rintro x H1 ⟨F1,ρ1,r,h1,n1,S1,rfl,G1⟩;exact G1.ret S1 rfl
def WN(ha:PT X a (ES W ta)):PW X (.BoolOp .And [a] pos) (ES W ta):=Ur ha
def bf(ha:PT X a (ES W ta)):PW X (.BoolOp .Or [a] pos) (ES W ta):=XG ha
def bn(ha:PT X a (ES W ta))(hb:PW X (.BoolOp .And (b::rest) pos) (ES W tb)):PW X (.BoolOp .And (a::b::rest) pos) (ES W (ba ta tb)):=by
 refine PW.of (XH ha hb) ?_;rintro σ H Q ⟨F,ρ,μ,h,S,e,G⟩;refine⟨F,ρ,μ,h,S,e,(Ai.bind (rep:=Zh) G).imp ?_⟩;rintro x H1 ⟨F1,ρ1,r,h1,n1,S1,rfl,G1⟩;by_cases hx:r=true
 ·rw[if_pos hx]at G1 ⊢;exact⟨F1,ρ1,μ,h1,S1,e.nxt n1,G1⟩
 rw[if_neg hx]at G1 ⊢;exact G1.ret S1 rfl
def nC(ha:PT X a (ES W ta))(hb:PW X (.BoolOp .Or (b::rest) pos) (ES W tb)):PW X (.BoolOp .Or (a::b::rest) pos) (ES W (rg ta tb)):=by
 refine PW.of (gq ha hb) ?_;rintro σ H Q ⟨F,ρ,μ,h,S,e,G⟩;refine⟨F,ρ,μ,h,S,e,(Ai.bind (rep:=Zh) G).imp ?_⟩;rintro x H1 ⟨F1,ρ1,r,h1,n1,S1,rfl,G1⟩;by_cases hx:r=true
 ·rw[if_pos hx]at G1 ⊢;exact G1.ret S1 rfl
 rw[if_neg hx]at G1 ⊢;exact⟨F1,ρ1,μ,h1,S1,e.nxt n1,G1⟩
def du(ha:PE X a (tM W fa)):PE X (.UnaryOp .Not a pos) (tM W (j8 fa)):=by
 refine PE.of (XZ ha) ?_;rintro σ H Q ⟨F,ρ,μ,h,S,e,G⟩;refine⟨F,ρ,μ,h,S,e,(Ai.bind (rep:=A0 W) G).imp ?_⟩;rintro x H1 ⟨F1,ρ1,r,h1,n1,S1,q1,G1⟩;obtain⟨rr,he,G3⟩:=G1.of;obtain⟨k,hk,rfl⟩:=aE.mp he;exact⟨k,Fk hk q1,(G3.out S1).bl S1.sub⟩
def gc(ha:PE X a (tM W fa))(hb:PE X (.BoolOp .And (b::rest) pos) (tM W fb)):PE X (.BoolOp .And (a::b::rest) pos) (tM W (jF fa fb)):=by
 refine PE.of (Yd ha hb) ?_;rintro σ H Q ⟨F,ρ,μ,h,S,e,G⟩;refine⟨F,ρ,μ,h,S,e,(Ai.bind (rep:=A0 W) G).imp ?_⟩;rintro x H1 ⟨F1,ρ1,r,h1,n1,S1,q1,G1⟩;split at G1
 ·rename_i hk;exact⟨true,Fk hk q1,YK ⟨F1,ρ1,μ,h1,S1,e.nxt n1,G1⟩⟩
 ·rename_i hk;exact⟨false,Fk hk q1,YL ((G1.out S1).bl S1.sub)⟩
 exact G1.elim
def og(ha:PE X a (tM W fa))(hb:PE X (.BoolOp .Or (b::rest) pos) (tM W fb)):PE X (.BoolOp .Or (a::b::rest) pos) (tM W (sG fa fb)):=by
 refine PE.of (ia ha hb) ?_;rintro σ H Q ⟨F,ρ,μ,h,S,e,G⟩;refine⟨F,ρ,μ,h,S,e,(Ai.bind (rep:=A0 W) G).imp ?_⟩;rintro x H1 ⟨F1,ρ1,r,h1,n1,S1,q1,G1⟩;split at G1
 ·rename_i hk;exact⟨false,Fk hk q1,YL ⟨F1,ρ1,μ,h1,S1,e.nxt n1,G1⟩⟩
 ·rename_i hk;exact⟨true,Fk hk q1,YK ((G1.out S1).bl S1.sub)⟩
 exact G1.elim
def fj(hc:PT X c (ES W ta))(ha:PE X a (tM W fa))(hb:PE X b (tM W fb)):PE X (.IfExp c a b pos) (tM W (jC ta fa fb)):=by
 refine PE.of (Rx hc ha hb) ?_;rintro σ H Q ⟨F,ρ,μ,h,S,e,G⟩;refine⟨F,ρ,μ,h,S,e,(Ai.bind (rep:=Zh) G).imp ?_⟩;rintro x H1 ⟨F1,ρ1,r,h1,n1,S1,rfl,G1⟩;by_cases hx:r=true
 ·rw[if_pos hx]at G1 ⊢;exact⟨F1,ρ1,μ,h1,S1,e.nxt n1,G1⟩
 rw[if_neg hx]at G1 ⊢;exact⟨F1,ρ1,μ,h1,S1,e.nxt n1,G1⟩
def uc(hK:X.K=W.K)(kt:Kt cs W)(hc:X.calm=true){x:Str}(o:Bf)(hx:x=o.nm)(hg:Gl X x)(hm:X.mg x=none)(ha:PA X (e::es) (Hk W fs))
 (he:starEach (e::es) X.env=(false,eval e X.env)::starEach es X.env)(hpl:(backTo pos (starEach es X.env)).any (·.1)=false):PE X (.Call (.Name x p) (e::es) [] pos) (tM W (Zq (o.fn cs) fs)):=by
 subst hx;cases o with
 |len=>exact PE.of (C7 (oM hK) hg hm boot_len ha (by decide) (by decide) he hpl) λσ H Q t=>Dm t
 |isi=>exact PE.of (C7 (tV hK kt) hg hm boot_isinstance ha (by decide) (by decide) he hpl) λσ H Q t=>Dm t
 |all=>exact PE.of (C7 (qq hc) hg hm (by decide +kernel) ha (by decide) (by decide) he hpl) λσ H Q t=>Dm t
 |max=>exact PE.of (C7 (oG hc) hg hm boot_max ha (by decide) (by decide) he hpl) λσ H Q t=>Dm t
 |min=>exact PE.of (C7 (oF hc) hg hm boot_min ha (by decide) (by decide) he hpl) λσ H Q t=>Dm t
 |int=>exact PE.of (D9 oT hg hm (by decide +kernel) ha (by decide) (by decide) he hpl) λσ H Q t=>Dm t
 |tup=>exact PE.of (D9 nB hg hm (by decide +kernel) ha (by decide) (by decide) he hpl) λσ H Q t=>Dm t
 |sum=>exact PE.of (C7 (nR hc) hg hm (by decide +kernel) ha (by decide) (by decide) he hpl) λσ H Q t=>Dm t
end
section
theorem N3:∀{l:List MV}{ks:List (List Key)}{vs:List V},KB l=some ks->Ad W F l vs->∃xs:List (Addr×List Key),vs=xs.map (λx=>V.ref x.1)/\xs.map (·.2)=ks/\∀x∈xs,F x.1=some (.tup (x.2.map kV))
 |[],ks,vs,h,r=>by simp only[KB]at h;cases h;rw[r.nil_iff];exact⟨[],rfl,rfl,by simp⟩
 |m::l,ks,vs,h,r=>by
  obtain⟨v,us,rfl,h1,h2⟩:=r.uncons;cases m<;>simp only[KB]at h<;>first|(cases h;done)|skip
  obtain⟨k,hk,h⟩:=aA.mp h;obtain⟨ks',hks,rfl⟩:=aE.mp h;obtain⟨xs,rfl,e2,e3⟩:=N3 hks h2;unfold Ap at h1;obtain⟨p,ws,rfl,hp,rr⟩:=h1;refine⟨(p,k)::xs,rfl,by simp[e2],λx hx=>?_⟩;rcases aR.mp hx with rfl|hx
  ·rw[←DD hk rr];exact hp
  exact e3 x hx
def Q8(hK:X.K=W.K)(hh:X.A.handled=none)(hu:X.A.units+64<cLine)(g1:Gl X "len")(m1:X.mg "len"=none)(g2:Gl X "set")(m2:X.mg "set"=none)(he:PE X e (tM W fa))
 (h1:starEach [.Call (.Name "set" p2) [e] [] p3] X.env=[(false,eval (.Call (.Name "set" p2) [e] [] p3) X.env)])(h2:starEach [e] X.env=[(false,eval e X.env)]) :
 PE X (.Call (.Name "len" p1) [.Call (.Name "set" p2) [e] [] p3] [] pos) (tM W (Mv DB fa)):=by
 refine PE.of (Rv hh hu g1 m1 g2 m2 he h1 h2) λσ H Q t=>?_;obtain⟨F,ρ,μ,h,S,ee,G⟩:=t;refine⟨F,ρ,μ,h,S,ee,(Ai.bind (rep:=A0 W) G).imp ?_⟩;rintro x H1 ⟨F1,ρ1,r,h1,n1,S1,q1,G1⟩;obtain⟨rr,he,G3⟩:=G1.of;obtain⟨m,hm,he⟩:=aA.mp he;obtain⟨c,hc,rfl⟩:=aE.mp he;have va:=S1.view q1 hm;cases m<;>simp only[DB]at hc<;>first|(cases hc;done)|skip
 obtain⟨ks,hk,hc⟩:=aA.mp hc;obtain⟨⟨hl,nd⟩,rfl⟩:=Aq hc;obtain⟨p,vs,rfl,hp,r⟩:=va;obtain⟨xs,rfl,e2,e3⟩:=N3 hk r;have el:xs.length=ks.length:=by rw[←e2];simp
 refine⟨p,xs,rfl,.inl (.inl (S1.sub _ _ hp)),by lia,by rw[e2];exact nd,λx hx=>S1.sub _ _ (e3 x hx),?_⟩;rw[el];exact(G3.out S1).int S1.sub
theorem IC:∀{l:List MV}{zs:List Str}{vs:List V},FG l=some zs->Ad W F l vs->vs=zs.map V.str
 |[],zs,vs,h,r=>by simp only[FG]at h;cases h;rw[r.nil_iff];rfl
 |m::l,zs,vs,h,r=>by
  obtain⟨v,us,rfl,h1,h2⟩:=r.uncons;cases m<;>simp only[FG]at h<;>first|(cases h;done)|skip
  obtain⟨zs',hz,rfl⟩:=aE.mp h;unfold Ap at h1;subst h1;rw[IC hz h2];rfl
theorem JT:∀{l:List MV}{zs:List Str},FG l=some zs->l=zs.map MV.str
 |[],zs,h=>by simp only[FG]at h;cases h;rfl
 |m::l,zs,h=>by
  cases m<;>simp only[FG]at h<;>first|(cases h;done)|skip
  obtain⟨zs',hz,rfl⟩:=aE.mp h;rw[JT hz];rfl
theorem Se{z:Str}:∀{zs:List Str}{j:Nat},KG (.str z) (zs.map MV.str)=some j->zs[j]?=some z/\∀i,i<j->zs[i]?≠some z
 |[],_,h=>by simp[KG]at h
 |y::zs,j,h=>by
  rw[aF]at h;unfold KG at h;by_cases hy:Jt (.str y) (.str z)=true
  ·rw[if_pos hy]at h;cases h;have:y=z:=by simpa[Jt]using hy
   subst this;exact⟨rfl,λi hi=>by lia⟩
  rw[if_neg hy]at h;obtain⟨k,hk,rfl⟩:=aE.mp h;obtain⟨h1,h2⟩:=Se hk;refine⟨by simpa using h1,λi hi=>?_⟩;cases i with
  |zero=>intro z';simp at z';subst z';exact hy (by simp[Jt])
  |succ i=>have:=h2 i (by lia);simpa using this
noncomputable def Bm.ty:Bm->String
 |.index=> "list" | .join=> "str" | .bits=> "int"
noncomputable def Bm.id:Bm->String
 |.index=> "list.index" | .join=> "str.join" | .bits=> "int.bit_length"
noncomputable def Bm.nm:Bm->Str
 |.index=> "index" | .join=> "join" | .bits=> "bit_length"
def uo(s:Shared)(v:Value)(T:String):Prop:=s.TypeIs v T/\∀a,v=.ref a->∃ob,s.heap.get? a=some ob/\ob.dict=none
def SZ{b:Bm}(hK:X.K=W.K)(I:Af X pins σ H s)(rx:As x v)(va:Br W F H m x)(h:Zz b m=true):uo s v b.ty:=by
 cases b
 ·obtain⟨l,hl⟩:=bU.mp h;obtain rfl:=EE hl;obtain⟨p,vs,rfl,hp,r⟩:=va;exact Gg I rx (.inl ⟨rfl,vs,.inl (.inl hp)⟩)
 ·obtain⟨l,hl⟩:=bU.mp h;obtain rfl:=FS hl;cases va;exact Gg I rx rfl
 obtain⟨l,hl⟩:=bU.mp h;obtain rfl:=Cs hl;cases va;exact Gg I rx rfl
def rn(W:Wd)(b:Bm):V->List V->Hp->VK->Prop:=λx xs H Q=>E4 λF m as c=>A5 (Am F H) (Br W F H m x) (FF W F H as xs) (Z0 b m as=some c) (JA W F H c Q)
def rS(hK:X.K=W.K)(hu:X.A.units+70<cLine)(b:Bm):ah X b.id (rn W b):=by
 intro pins s σ H x xs v us Q I rx rv ⟨F,m,as,c,sub,va,vs,hg,q⟩;cases b
 ·obtain⟨l,h1,hg⟩:=aA.mp hg;obtain⟨x,h2,hg⟩:=aA.mp hg;obtain⟨b,h2,h3⟩:=aA.mp h2;obtain rfl:=EE h1;obtain rfl:=IR h2;obtain rfl:=FS h3;obtain⟨y,rfl,vb⟩:=vs.un1;cases vb;obtain⟨zs,hz,hg⟩:=aA.mp hg;obtain⟨j,hj,rfl⟩:=aE.mp hg;obtain⟨p,ws,rfl,hp,r⟩:=va;obtain rfl:=IC hz r;obtain rfl:=JT hz;obtain⟨h1,h2⟩:=Se hj;exact RE pins s σ H _ _ v us Q I rx rv ⟨p,zs,_,j,rfl,rfl,.inl (.inl hp),h1,h2,q.int sub⟩
 ·obtain⟨l,h1,hg⟩:=aA.mp hg;obtain⟨x,h2,hg⟩:=aA.mp hg;obtain⟨b,h2,h3⟩:=aA.mp h2;obtain rfl:=FS h1;obtain rfl:=IR h2;obtain rfl:=EE h3;obtain⟨y,rfl,vb⟩:=vs.un1;cases va;obtain⟨zs,hz,hg⟩:=aA.mp hg;obtain⟨hl,rfl⟩:=Aq hg;obtain⟨p,ws,rfl,hp,r⟩:=vb;obtain rfl:=IC hz r;exact UP pins s σ H _ _ v us Q I rx rv ⟨_,p,zs,rfl,rfl,.inl (.inl hp),hl,q.str sub⟩
 obtain⟨l,h1,hg⟩:=aA.mp hg;obtain rfl:=Cs h1;obtain⟨h2,rfl⟩:=Aq hg;obtain rfl:=eG.mp h2;cases vs;cases va;exact OS pins s σ H _ _ v us Q I rx rv ⟨_,rfl,rfl,q.int sub⟩
structure kq(T:String)(name:Str)(id:String):Prop where
 pa:PlainAttrs T
 slot:Slot T name id
 hty:typeOf (.builtin id)=pure (.type "method_descriptor")
def jJ(b:Bm):kq b.ty b.nm b.id:=by
 cases b with
 |index=>exact⟨PySem.F.plainAttrs_list,PySem.F.slot_list_index,PySem.F.type_list_index⟩
 |join=>exact⟨PySem.F.plainAttrs_str,PySem.F.slot_str_join,PySem.F.type_str_join⟩
 |bits=>exact⟨PySem.F.plainAttrs_int,PySem.F.slot_int_bit_length,PySem.F.type_int_bit_length⟩
def Lo{b:Bm}{μ:En}{h:MH}{ρ:List Addr}{Q:VK}(S:Bq W F H ρ h)(ee:BS W F ρ μ σ)(G:GE W F ρ (V7 b fa fs μ h) Q):GE W F ρ (fa μ h) λx H1=>∃F1 m,Am F1 H1/\Br W F1 H1 m x/\Zz b m=true/\Hk W fs σ H1 λxs H2=>rn W b x xs H2 Q:=by
 refine(Ai.bind (rep:=A0 W) G).imp ?_;rintro x H1 ⟨F1,ρ1,r,h1,n1,S1,q1,G1⟩;split at G1
 ·rename_i hk;obtain⟨m,hm,hb⟩:=aE.mp hk;refine⟨F1,m,S1.sub,S1.view q1 hm,hb,F1,ρ1,μ,h1,S1,ee.nxt n1,(Ai.bind (rep:=Az W) G1).imp ?_⟩;rintro xs H2 ⟨F2,ρ2,rs,h2,n2,S2,q2,G2⟩;obtain⟨rr,he,G3⟩:=G2.of;obtain⟨m2,hm2,he⟩:=aA.mp he;obtain⟨as,ha,he⟩:=aA.mp he;obtain⟨c,hc,rfl⟩:=aE.mp he;exact⟨F2,m2,as,c,S2.sub,S2.view (q1.nxt n2) hm2,CV S2 ha q2,hc,G3.out S2⟩
 exact G1.elim
def fz(hK:X.K=W.K)(hu:X.A.units+70<cLine)(b:Bm)(ho:PE X o (tM W fa))(ha:PA X (e::es) (Hk W fs))
 (hbase:attributeBase o b.nm X.env (eval o X.env)=eval o X.env)
 (hfew:((backTo pos (starEach (e::es) X.env)).all (λx=>!x.1)&&(backToKw pos (keywordEach [] X.env)).all (λx=>x.1.isSome)
   && decide ((e::es).length+([]:List Keyword).length+(if ([]:List Keyword).isEmpty then 0 else 1)<30))=true)
 (hline:(apos.endLine ==pos.line)=true)(hs:starEach (e::es) X.env=(false,eval e X.env)::starEach es X.env)(hplain:(backTo pos (starEach es X.env)).any (·.1)=false) :
 PE X (.Call (.Attribute o b.nm apos) (e::es) [] pos) (tM W (V7 b fa fs)):=by
 intro pins s σ H Q I ⟨F,ρ,μ,h,S,ee,G⟩;obtain⟨pa,slot,hty⟩:=jJ b;refine wpAny_Call_method_late hbase hfew hline rfl (AR (ho pins s σ H _ I ⟨F,ρ,μ,h,S,ee,Lo S ee G⟩) ?_);rintro v s1 ⟨x,H1,I1,r1,F1,m,sub1,va,hb,q1⟩;obtain⟨h1,h2⟩:=SZ hK I1 r1 va hb;refine⟨b.ty,b.id,pa,slot,hty,h1,h2,?_⟩;have hA:=ha pos pins s1 σ H1 _ I1 q1;rw[hs]at hA ⊢;refine eM (by show(false||(backTo pos (starEach es X.env)).any (·.1))=false;rw[hplain]<;>rfl) (fW ?_);exact AR hA λus s2 ⟨vs,H2,I2,r2,q2⟩=>rS hK hu b pins s2 σ H2 x vs v us Q I2 r1 r2 q2
def XB(hK:X.K=W.K)(hu:X.A.units+70<cLine)(b:Bm)(ho:PE X o (tM W fa))(ha:PA X [] (Hk W fs))
 (hbase:attributeBase o b.nm X.env (eval o X.env)=eval o X.env)(hline:(apos.endLine ==pos.line)=true)(hfs:fs=λ_ h=>.ok [] h) :
 PE X (.Call (.Attribute o b.nm apos) [] [] pos) (tM W (V7 b fa fs)):=by
 subst hfs;intro pins s σ H Q I ⟨F,ρ,μ,h,S,ee,G⟩;obtain⟨pa,slot,hty⟩:=jJ b;refine wpAny_Call_method0_late hbase hline (AR (ho pins s σ H _ I ⟨F,ρ,μ,h,S,ee,Lo S ee G⟩) ?_);rintro v s1 ⟨x,H1,I1,r1,F1,m,sub1,va,hb,F2,ρ2,μ2,h2,S2,ee2,G2⟩;obtain⟨h1,h2'⟩:=SZ hK I1 r1 va hb;exact⟨b.ty,b.id,pa,slot,hty,h1,h2',eM rfl (PySem.evalArgs_none (rS hK hu b pins s1 σ H1 x [] v [] Q I1 r1 .nil (G2.ret S2 .nil)))⟩
noncomputable def Mm.id:Mm->String
 |.app=> "list.append" | .ext=> "list.extend"
noncomputable def Mm.nm:Mm->Str
 |.app=> "append" | .ext=> "extend"
def iV(b:Mm):kq "list" b.nm b.id:=by
 cases b with
 |app=>exact⟨PySem.F.plainAttrs_list,PySem.F.slot_list_append,PySem.F.type_list_append⟩
 |ext=>exact⟨PySem.F.plainAttrs_list,PySem.F.slot_list_extend,PySem.F.type_list_extend⟩
def rm(W:Wd)(b:Mm):V->List V->Hp->VK->Prop:=λx xs H Q=>E6 λF p vs l as l'=>A8 (x=.ref p) (Am F H) (F p=none) (H p=some (.lst vs)) (Ad W F l vs) (Ad W F as xs) (Tw b l as=some l') (∀vs',Ad W F l' vs'->Q .non (upd H p (.lst vs')))
def rW(b:Mm):ah X b.id (rm W b):=by
 intro pins s σ H x xs v us Q I rx rv h;obtain⟨F,p,vs,l,as,l',rfl,sub,nf,hp,r,ra,hg,q⟩:=h;unfold Tw at hg;split at hg
 ·obtain⟨hl,rfl⟩:=Aq hg;obtain⟨y,ys,rfl,r1,r2⟩:=ra.uncons;obtain rfl:=r2.nil_iff;exact OT pins s σ H _ _ v us Q I rx rv ⟨p,vs,y,rfl,rfl,hp,by rw[←r.len];exact hl,q _ (r.app (.cons r1 .nil))⟩
 ·obtain⟨hl,rfl⟩:=Aq hg;obtain⟨y,ys,rfl,r1,r2⟩:=ra.uncons;obtain rfl:=r2.nil_iff;unfold Ap at r1;obtain⟨p2,vs2,rfl,hp2,rr⟩:=r1;exact OQ pins s σ H _ _ v us Q I rx rv ⟨p,p2,vs,vs2,rfl,rfl,hp,sub _ _ hp2,by rw[←r.len,←rr.len];exact hl,q _ (r.app rr)⟩
 cases hg
def Bq.wrote{n:Nat}(S:Bq W F H ρ h)(hp:ρ[n]?=some p)(nf:F p=none)(hH:H p=some (.lst vs))(r:Ad W F l' vs'):Bq W F (upd H p (.lst vs')) ρ (h.set n (.lst l')):=by
 refine⟨λb u z=>?_,S.nd,by simp[S.len],λk q m' h1 h2=>?_,S.tb.upd λu e=>by rw[hH]at e;cases e;exact id,S.tf⟩
 ·rw[Ab (λe=>by subst e;rw[nf]at z;cases z)];exact S.sub _ _ z
 rcases Mr h2 with⟨rfl,rfl⟩|⟨hk,h2⟩
 ·rw[hp]at h1;cases h1;exact⟨nf,vs',Ac,r⟩
 have hq:q≠p:=λz=>hk (Nodup.inj S.nd (by rw[←z];exact h1) hp);exact(S.obj k q m' h1 h2).apart hq (Am.refl _) (λb _=>.inl rfl) (λb o hb z=>by rw[Ab hb];exact z) λx z=>by rw[hH]at z;cases z
def Kw{b:Mm}{μ:En}{h:MH}{ρ:List Addr}{Q:VK}(S:Bq W F H ρ h)(ee:BS W F ρ μ σ)(G:GE W F ρ (V4 b fa fs μ h) Q):GE W F ρ (fa μ h) λx H1=>(∃p vs,x=.ref p/\H1 p=some (.lst vs))/\Hk W fs σ H1 λxs H2=>rm W b x xs H2 Q:=by
 refine(Ai.bind (rep:=A0 W) G).imp ?_;rintro x H1 ⟨F1,ρ1,r,h1,n1,S1,q1,G1⟩;cases r with
 |v m=>exact G1.elim
 |l _ _=>exact G1.elim
 |r n=>
  by_cases hk:Wn h1[n]?=true
  ·have G1:Ai W (A0 W) F1 ρ1 (if Wn h1[n]?=true then(fs μ h1).bind λrs h2=>(match h2[n]?,vals rs with
    |some (.lst l),some as=>(match Tw b l as with
     |some l'=>.ok (.v .non) (h2.set n (.lst l'))
     |none=>.no)
    |_,_=>.no) else .no) Q:=G1
   rw[if_pos hk]at G1;obtain⟨p,rfl,hp⟩:=q1;unfold Wn at hk;split at hk
   ·rename_i l0 hl0;obtain⟨nf0,vs0,hH0,r0⟩:=S1.obj n p _ hp hl0;refine⟨⟨p,vs0,rfl,hH0⟩,F1,ρ1,μ,h1,S1,ee.nxt n1,(Ai.bind (rep:=Az W) G1).imp ?_⟩;rintro xs H2 ⟨F2,ρ2,rs,h2,n2,S2,q2,G2⟩;have hp2:=IJ n2.p hp;split at G2
    ·rename_i l as hl ha;obtain⟨nf,vs,hH,rl⟩:=S2.obj n p _ hp2 hl;split at G2
     ·rename_i l' hg;exact⟨F2,p,vs,l,as,l',rfl,S2.sub,nf,hH,rl,C4 ha q2,hg,λvs' r'=>G2 F2 ρ2 _ .non .refl (S2.wrote hp2 nf hH r') (by show Ap W F2 .non .non;unfold Ap;rfl)⟩
     exact G2.elim
    exact G2.elim
   cases hk
  have G1:Ai W (A0 W) F1 ρ1 (if Wn h1[n]?=true then(fs μ h1).bind λrs h2=>(match h2[n]?,vals rs with
   |some (.lst l),some as=>(match Tw b l as with
    |some l'=>.ok (.v .non) (h2.set n (.lst l'))
    |none=>.no)
   |_,_=>.no) else .no) Q:=G1
  rw[if_neg hk]at G1;exact G1.elim
def eh(b:Mm)(ho:PE X o (tM W fa))(ha:PA X (e::es) (Hk W fs))
 (hbase:attributeBase o b.nm X.env (eval o X.env)=eval o X.env)
 (hfew:((backTo pos (starEach (e::es) X.env)).all (λx=>!x.1)&&(backToKw pos (keywordEach [] X.env)).all (λx=>x.1.isSome)
   && decide ((e::es).length+([]:List Keyword).length+(if ([]:List Keyword).isEmpty then 0 else 1)<30))=true)
 (hline:(apos.endLine ==pos.line)=true)(hs:starEach (e::es) X.env=(false,eval e X.env)::starEach es X.env)(hplain:(backTo pos (starEach es X.env)).any (·.1)=false) :
 PE X (.Call (.Attribute o b.nm apos) (e::es) [] pos) (tM W (V4 b fa fs)):=by
 intro pins s σ H Q I ⟨F,ρ,μ,h,S,ee,G⟩;obtain⟨pa,slot,hty⟩:=iV b;refine wpAny_Call_method_late hbase hfew hline rfl (AR (ho pins s σ H _ I ⟨F,ρ,μ,h,S,ee,Kw S ee G⟩) ?_);rintro v s1 ⟨x,H1,I1,r1,z,q1⟩;obtain⟨p,vs,rfl,hp⟩:=z;obtain⟨h1,h2⟩:=Gg I1 r1 (T:= "list") (.inl ⟨rfl,vs,.inl (.inl hp)⟩);refine⟨"list",b.id,pa,slot,hty,h1,h2,?_⟩;have hA:=ha pos pins s1 σ H1 _ I1 q1;rw[hs]at hA ⊢;refine eM (by show(false||(backTo pos (starEach es X.env)).any (·.1))=false;rw[hplain]<;>rfl) (fW ?_);exact AR hA λus s2 ⟨vs,H2,I2,r2,q2⟩=>rW b pins s2 σ H2 _ vs v us Q I2 r1 r2 q2
def Xw(b:Mm)(ho:PE X o (tM W fa))(hbase:attributeBase o b.nm X.env (eval o X.env)=eval o X.env)(hline:(apos.endLine ==pos.line)=true)(hfs:fs=λ_ h=>.ok [] h) :
 PE X (.Call (.Attribute o b.nm apos) [] [] pos) (tM W (V4 b fa fs)):=by
 subst hfs;intro pins s σ H Q I ⟨F,ρ,μ,h,S,ee,G⟩;obtain⟨pa,slot,hty⟩:=iV b;refine wpAny_Call_method0_late hbase hline (AR (ho pins s σ H _ I ⟨F,ρ,μ,h,S,ee,Kw S ee G⟩) ?_);rintro v s1 ⟨x,H1,I1,r1,z,F2,ρ2,μ2,h2,S2,ee2,G2⟩;obtain⟨p,vs,rfl,hp⟩:=z;obtain⟨h1,h2'⟩:=Gg I1 r1 (T:= "list") (.inl ⟨rfl,vs,.inl (.inl hp)⟩);exact⟨"list",b.id,pa,slot,hty,h1,h2',eM rfl (PySem.evalArgs_none (rW b pins s1 σ H1 _ [] v [] Q I1 r1 .nil (G2.ret S2 .nil)))⟩
end
section
variable {W:Wd}{H F:Hp}{fa fb fc:Ef}
def ZB(w:Wk)(h:MH):Prop:=match w.src with
 |none=>True
 |some n=>h[n]?=some (.lst w.ms)
def D7{src:Option Nat}{l:List MV}{h:MH}(e:Bj src l h=true):ZB ⟨l,src⟩ h:=by
 unfold Bj at e;unfold ZB;cases src with
 |none=>trivial
 |some n=>simpa using e
def Ch(W:Wd)(F:Hp)(ρ:List Addr)(w:Wk)(J:It):Prop:=∀(i:Nat) (F1:Hp) (ρ1:List Addr) (H1:Hp) (h1:MH),DO F ρ F1 ρ1->Bq W F1 H1 ρ1 h1->ZB w h1->
 (∀m,w.ms[i]?=some m->J.go i H1/\∀x H2,J.yld i H1 x H2->∃F2,Am F1 F2/\Bq W F2 H2 ρ1 h1/\Ap W F2 m x)/\(i=w.ms.length->J.stop i H1)
def Qt(W:Wd)(f:En->MH->AB Wk):TI:=λσ H R=>ZC W σ H λF ρ μ h=>Ai W (Ch W) F ρ (f μ h) R
def NA{pins:Pq}{s1:Shared}{R:It->Hp->Prop}{p:Addr}{xs:List V}(I1:Af X pins σ H s1)(hq:D4 X.K H p xs)(q:R (mx X.K p) H):wpAny (model X.prog X.w) X.A (pyIter (.ref p)) (af X pins σ tg R) X.xe s1:=by
 obtain⟨its,rv,pl,hz⟩:=I1.list hq;refine gP pl.isList ?_;refine⟨s1.heap.objs.size,[s1.heap.objs.size],_,_,H,rfl,I1.kept (t':=s1.toks) λb o e=>aD _ e,Ot p _,⟨_,aK _ rfl,rfl,rfl⟩,λb hb=>?_,q⟩;have e:b=s1.heap.objs.size:=by simpa using hb
 subst e;exact I1.fpOk (aH _) (I1.hok.fresh (aH _))
def YM{pins:Pq}{s1:Shared}{R:It->Hp->Prop}{p:Addr}{xs:List V}(I1:Af X pins σ H s1)(hq:Iw X.K H p xs)(q:R (qF X.K p) H):wpAny (model X.prog X.w) X.A (pyIter (.ref p)) (af X pins σ tg R) X.xe s1:=by
 obtain⟨its,rv,pl,hz⟩:=I1.tuple hq;refine gD (show s1.heap.IsTuple p its.toArray from pl) ?_;refine⟨s1.heap.objs.size,[s1.heap.objs.size],_,_,H,rfl,I1.kept (t':=s1.toks) λb o e=>aD _ e,Lz p _,⟨_,aK _ rfl,rfl,rfl⟩,λb hb=>?_,q⟩;have e:b=s1.heap.objs.size:=by simpa using hb
 subst e;exact I1.fpOk (aH _) (I1.hok.fresh (aH _))
def YN{pins:Pq}{s1:Shared}{R:It->Hp->Prop}{z:Str}{t:Tok}(I1:Af X pins σ H s1)(q:R (qG z) H):wpAny (model X.prog X.w) X.A (pyIter (.str z t)) (af X pins σ tg R) X.xe s1:=by
 have fp:∀b∈ [s1.heap.objs.size],D5 X pins H b:=λb hb=>by
  have e:b=s1.heap.objs.size:=by simpa using hb
  subst e;exact I1.fpOk (aH _) (I1.hok.fresh (aH _))
 cases ha:z.cps.all (· <128)
 ·refine wpAny_pyIter_wide ha ?_;exact⟨s1.heap.objs.size,[s1.heap.objs.size],_,_,H,rfl,I1.kept (t':=s1.toks) λb o e=>aD _ e,JL _ _ z t (by decide) (λA' hA=>Walks.strWide hA _ z t) (λ_ _ _ _ _ st h=>wpAny_pyIter_striter_wide st h),
   ⟨_,aK _ rfl,rfl,rfl⟩,fp,q⟩
 refine wpAny_pyIter_ascii ha ?_;exact⟨s1.heap.objs.size,[s1.heap.objs.size],_,_,H,rfl,I1.kept (t':=s1.toks) λb o e=>aD _ e,JL _ _ z t (by decide) (λA' hA=>Walks.strAscii hA _ z t) (λ_ _ _ _ _ st h=>wpAny_pyIter_striter_ascii st h),
  ⟨_,aK _ rfl,rfl,rfl⟩,fp,q⟩
def T8{ρ:List Addr}{p:Addr}{vs:List V}{l:List MV}{K:Fq}(hp:D4 K F p vs)(r:Ad W F l vs):Ch W F ρ ⟨l,none⟩ (mx K p):=by
 intro i F1 ρ1 H1 h1 n S _;have hq:D4 K H1 p vs:=(n.s.trans S.sub).seq hp;refine⟨λm hm=>?_,λhi=>⟨vs,hq,by rw[hi,←r.len];exact aH _⟩⟩;obtain⟨v,hv,rv⟩:=r.get hm;refine⟨⟨vs,v,hq,hv⟩,λx H2 y=>?_⟩;obtain⟨rfl,y⟩:=y;have:=y vs hq;rw[hv]at this;cases this;exact⟨F1,Am.refl _,S,rv.same n.s⟩
def T7{ρ:List Addr}{p:Addr}{n:Nat}{l:List MV}{K:Fq}(hp:ρ[n]?=some p):Ch W F ρ ⟨l,some n⟩ (mx K p):=by
 intro i F1 ρ1 H1 h1 nx S sp;have hl:h1[n]?=some (.lst l):=sp;obtain⟨nf,vs,hH,r⟩:=S.obj n p _ (IJ nx.p hp) hl;have hq:D4 K H1 p vs:=.inl (.inl hH);refine⟨λm hm=>?_,λhi=>⟨vs,hq,by rw[hi,←r.len];exact aH _⟩⟩;obtain⟨v,hv,rv⟩:=r.get hm;refine⟨⟨vs,v,hq,hv⟩,λx H2 y=>?_⟩;obtain⟨rfl,y⟩:=y;have:=y vs hq;rw[hv]at this;cases this;exact⟨F1,Am.refl _,S,rv⟩
def WE{ρ:List Addr}{p:Addr}{vs:List V}{l:List MV}{K:Fq}(hp:F p=some (.tup vs))(r:Ad W F l vs):Ch W F ρ ⟨l,none⟩ (qF K p):=by
 intro i F1 ρ1 H1 h1 n S _;have hq:Iw K H1 p vs:=.inl (.inl (S.sub _ _ (n.s _ _ hp)));refine⟨λm hm=>?_,λhi=>⟨vs,hq,by rw[hi,←r.len];exact aH _⟩⟩;obtain⟨v,hv,rv⟩:=r.get hm;refine⟨⟨vs,v,hq,hv⟩,λx H2 y=>?_⟩;obtain⟨rfl,y⟩:=y;have:=y vs hq;rw[hv]at this;cases this;exact⟨F1,Am.refl _,S,rv.same n.s⟩
def WF{z:Str}:Ch W F ρ ⟨FD z,none⟩ (qG z):=by
 intro i F1 ρ1 H1 h1 n S _;have hl:(FD z).length=z.cps.size:=by simp[FD]
 refine⟨λm hm=>?_,λhi=>by show i=z.cps.size;rw[hi];exact hl⟩;have hi:i<z.cps.size:=by rw[←hl];exact(a9.mp hm).1
 refine⟨hi,λx H2 y=>?_⟩;obtain⟨rfl,ch,hc,rfl⟩:=y;refine⟨F1,Am.refl _,S,?_⟩;have e:m=.str ⟨#[ch]⟩:=by
  unfold FD at hm;rw[aJ,iH,hc]at hm;cases hm;rfl
 subst e;unfold Ap;rfl
def oh(hK:X.K=W.K)(hl:PE X l (tM W fa)):PI X tg l (Qt W λμ h=>(fa μ h).bind λx h1=>AB.of (Fv h1 x) h1):=by
 intro pins s σ H R I ⟨F,ρ,μ,h,S,e,G⟩;refine AR (hl pins s σ H _ I ⟨F,ρ,μ,h,S,e,Ai.bind (rep:=A0 W) G⟩) ?_;rintro v s1 ⟨x,H1,I1,r1,F1,ρ1,r,h1,n1,S1,q1,G1⟩;obtain⟨w,hw,G3⟩:=G1.of;have val:∀{m:MV}{ms:List MV},Ap W F1 m x->CT m=some ms->w=⟨ms,none⟩->wpAny (model X.prog X.w) X.A (pyIter v) (af X pins σ tg R) X.xe s1:=by
  intro m ms hr hi hw;subst hw;cases m<;>simp only[CT]at hi<;>first|(cases hi;done)|skip
  ·cases hi;unfold Ap at hr;subst hr;obtain⟨t,rfl⟩:=r1;exact YN I1 (G3.ret S1 WF)
  ·cases hi;unfold Ap at hr;obtain⟨p,vs,rfl,hp,r⟩:=hr;cases r1;exact YM I1 (.inl (.inl (S1.sub _ _ hp))) (G3.ret S1 (WE hp r))
  cases hi;unfold Ap at hr;obtain⟨p,vs,rfl,hp,r⟩:=hr;cases r1;exact NA I1 (.inl (.inl (S1.sub _ _ hp))) (G3.ret S1 (T8 (.inl (.inl hp)) r))
 cases r with
 |v m=>
  obtain⟨ms,hm,rfl⟩:=aE.mp (show(CT m).map (λl=>(⟨l,none⟩:Wk))=some w from hw);exact val q1 hm rfl
 |l _ _=>cases hw
 |r n=>
  obtain⟨p,rfl,hp⟩:=q1;unfold Fv at hw;simp only at hw;split at hw
  ·rename_i l' hl';cases hw;obtain⟨nf,vs,hH,rl⟩:=S1.obj n p _ hp hl';cases r1;exact NA I1 (.inl (.inl hH)) (G3.ret S1 (T7 hp))
  ·rename_i m hm;obtain⟨ms,hi,rfl⟩:=aE.mp hw;obtain⟨rr,_⟩:=S1.obj n p _ hp hm;exact val rr hi rfl
  cases hw
def PI.of(h:PI X tg l t)(i:∀σ H R,t' σ H R->t σ H R):PI X tg l t':=λpins s σ H R I q=>h pins s σ H R I (i σ H R q)
def Qf{lo:Int}{n:Nat}:Ch W F ρ ⟨BH lo n,none⟩ (kh lo n):=by
 intro i F1 ρ1 H1 h1 nx S _;have hl:(BH lo n).length=n:=by simp[BH]
 refine⟨λm hm=>?_,λhi=>by show n<=i;rw[hi];show n<=(BH lo n).length;rw[hl];exact aH _⟩;have hi:i<n:=by rw[←hl];exact(a9.mp hm).1
 refine⟨hi,λx H2 y=>?_⟩;obtain⟨rfl,rfl⟩:=y;refine⟨F1,Am.refl _,S,?_⟩;have e:m=.int (lo+i):=by
  unfold BH at hm;rw[aJ,fY hi]at hm;cases hm;rfl
 subst e;unfold Ap;rfl
def W4{F:Hp}{ρ:List Addr}{μ:En}{h:MH}{γ δ:Type}{rep:Hp->List Addr->γ->δ->Prop}{k:R->MH->AB γ}{Q:δ->Hp->Prop}(G:Ai W rep F ρ ((fa μ h).bind k) Q) :
 Ai W (Az W) F ρ ((fa μ h).bind λx h1=>(AB.ok [] h1).bind λxs h2=>.ok (x::xs) h2) λvs H1=>E5 λF1 ρ1 r v h1=>A5 (vs=[v]) (DO F ρ F1 ρ1) (Bq W F1 H1 ρ1 h1) (A0 W F1 ρ1 r v) (Ai W rep F1 ρ1 (k r h1) Q):=by
 have G2:=Ai.bind (rep:=A0 W) G;cases ex:fa μ h with
 |no=>rw[ex]at G2;exact G2
 |ok r h1=>
  rw[ex]at G2;show Ai W (Az W) F ρ (.ok [r] h1) _;intro F1 ρ1 H1 vs n S q;cases q with
  |cons q t=>
   cases t;obtain⟨F2,ρ2,r2,h2,n2,S2,q2,G3⟩:=G2 F1 ρ1 H1 _ n S q;exact⟨F2,ρ2,r2,_,h2,rfl,n2,S2,q2,G3⟩
def W3{F:Hp}{ρ:List Addr}{μ:En}{h:MH}{γ δ:Type}{rep:Hp->List Addr->γ->δ->Prop}{k:R->R->MH->AB γ}{Q:δ->Hp->Prop}(G:Ai W rep F ρ ((fa μ h).bind λx h1=>(fb μ h1).bind λy h2=>k x y h2) Q) :
 Ai W (Az W) F ρ ((fa μ h).bind λx h1=>((fb μ h1).bind λy h2=>(AB.ok [] h2).bind λxs h3=>.ok (y::xs) h3).bind λxs h2=>.ok (x::xs) h2) λvs H1=>E7 λF1 ρ1 r r' v v' h1=>A6 (vs=[v,v']) (DO F ρ F1 ρ1) (Bq W F1 H1 ρ1 h1) (A0 W F1 ρ1 r v) (A0 W F1 ρ1 r' v') (Ai W rep F1 ρ1 (k r r' h1) Q):=by
 cases ex:fa μ h with
 |no=>rw[ex]at G;exact G
 |ok r h1=>
  rw[ex]at G;have G:Ai W rep F ρ ((fb μ h1).bind λy h2=>k r y h2) Q:=G;show Ai W (Az W) F ρ (((fb μ h1).bind λy h2=>(AB.ok [] h2).bind λxs h3=>.ok (y::xs) h3).bind λxs h2=>.ok (r::xs) h2) _;cases ey:fb μ h1 with
  |no=>rw[ey]at G;exact G
  |ok r' h2=>
   rw[ey]at G;have G:Ai W rep F ρ (k r r' h2) Q:=G;show Ai W (Az W) F ρ (.ok [r,r'] h2) _;intro F1 ρ1 H1 vs n S q;cases q with
   |cons q t=>
    cases t with
    |cons q' t'=>
     cases t';exact⟨F1,ρ1,r,r',_,_,h2,rfl,n,S,q,q',G.nxt n⟩
def Xu(hg:Gl X "range")(hm:X.mg "range"=none)(ha:PE X a (tM W fa))(hs:starEach [a] X.env=[(false,eval a X.env)]):PI X tg (.Call (.Name "range" p) [a] [] pos) (Qt W λμ h=>(fa μ h).bind λx h1=>AB.of (ET [x]) h1):=by
 refine PI.of (O7 hg hm (Cw ha HG hs) hs) λσ H R ⟨F,ρ,μ,h,S,e,G⟩=>⟨F,ρ,μ,h,S,e,(W4 G).imp ?_⟩;rintro vs H1 ⟨F1,ρ1,r,v,h1,rfl,n1,S1,q1,G1⟩;obtain⟨w,hw,G3⟩:=G1.of;unfold ET at hw;split at hw
 ·rename_i j hj;cases hj;obtain⟨⟨h2,h3⟩,rfl⟩:=Aq hw;have q:=q1;unfold Ap at q;subst q;exact⟨j,rfl,h2,h3,G3.ret S1 Qf⟩
 ·rename_i hj;cases hj
 cases hw
def Xt(hg:Gl X "range")(hm:X.mg "range"=none)(ha:PE X a (tM W fa))(hb:PE X b (tM W fb))(hs:starEach [a,b] X.env=[(false,eval a X.env),(false,eval b X.env)])(hs2:starEach [b] X.env=[(false,eval b X.env)]):PI X tg (.Call (.Name "range" p) [a,b] [] pos) (Qt W λμ h=>(fa μ h).bind λx h1=>(fb μ h1).bind λy h2=>AB.of (ET [x,y]) h2):=by
 refine PI.of (O6 hg hm (Cw ha (Cw hb HG hs2) (by rw[hs,hs2])) hs hs2) λσ H R ⟨F,ρ,μ,h,S,e,G⟩=>⟨F,ρ,μ,h,S,e,(W3 G).imp ?_⟩;rintro vs H1 ⟨F1,ρ1,r,r',v,v',h1,rfl,n1,S1,q1,q2,G1⟩;obtain⟨w,hw,G3⟩:=G1.of;unfold ET at hw;split at hw
 ·rename_i hj;cases hj
 ·rename_i i j hj;cases hj;obtain⟨⟨h2,h3,h4,h5⟩,rfl⟩:=Aq hw;have q:=q1;have q':=q2;unfold Ap at q q';subst q q';exact⟨i,j,rfl,⟨h2,h3,h4,h5⟩,G3.ret S1 Qf⟩
 cases hw
def IH{x:V}{l:List MV}(h:LC m=some l)(r:Ap W F m x):∃b p vs,x=.ref p/\(∀{H1:Hp}(K:Fq),Am F H1->Hi K H1 b p vs)/\Ad W F l vs:=by
 cases m<;>simp only[LC]at h<;>first|(cases h;done)|skip
 ·cases h;unfold Ap at r;obtain⟨p,vs,rfl,hp,r⟩:=r;exact⟨true,p,vs,rfl,λK s=>.inl (.inl (s _ _ hp)),r⟩
 cases h;unfold Ap at r;obtain⟨p,vs,rfl,hp,r⟩:=r;exact⟨false,p,vs,rfl,λK s=>.inl (.inl (s _ _ hp)),r⟩
def Qg(S:Bq W F1 H1 ρ1 h1)(n:H1 q=none)(r:Ad W F1 ms vs):∃F2,Am F1 F2/\Bq W F2 (upd H1 q (.tup vs)) ρ1 h1/\Ap W F2 (.tup ms) (.ref q):=by
 have g:C2 F1 H1 (upd F1 q (.tup vs)) (upd H1 q (.tup vs)):=.new S.sub n;exact⟨_,g.f,S.grow g,by unfold Ap;exact⟨q,vs,rfl,Ac,r.same g.f⟩⟩
def T9{ρ:List Addr}{p:Addr}{b:Bool}{vs:List V}{l:List MV}{K:Fq}(hp:∀{H1:Hp},Am F H1->Hi K H1 b p vs)(r:Ad W F l vs):Ch W F ρ ⟨Dz l,none⟩ (ZJ K b p):=by
 intro i F1 ρ1 H1 h1 n S _;have hq:Hi K H1 b p vs:=hp (n.s.trans S.sub);have hl:(Dz l).length=l.length:=by simp[Dz]
 refine⟨λm hm=>?_,λhi=>⟨vs,hq,by rw[hi];show vs.length<=(Dz l).length;rw[hl,r.len];exact aH _⟩⟩;have hi:i<l.length:=by rw[←hl];exact(a9.mp hm).1
 have e0:l[i]?=some l[i]:=by simp[hi]
 obtain⟨v,hv,rv⟩:=r.get e0;refine⟨⟨vs,v,hq,hv⟩,λx H2 y=>?_⟩;obtain⟨q,w,rfl,nq,y,rfl⟩:=y;have:=y vs hq;rw[hv]at this;cases this;have em:m=.tup [.int (i:Nat),l[i]]:=by
  unfold Dz at hm;simp[List.getElem?_zipIdx,e0]at hm;exact hm.symm
 subst em;exact Qg S nq (.cons (by unfold Ap;rfl) (.cons (rv.same n.s) .nil))
def ft{x1:Nat}(hK:X.K=W.K)(hg:Gl X "enumerate")(hm:X.mg "enumerate"=none)(ha:PE X a (tM W fa))(hs:starEach [a] X.env=[(false,eval a X.env)]):PI X (.Tuple es x1 tp) (.Call (.Name "enumerate" p) [a] [] pos) (Qt W λμ h=>(fa μ h).bind λx h1=>AB.of (Sy x) h1):=by
 refine PI.of (QL hg hm (Cw ha HG hs) hs) λσ H R ⟨F,ρ,μ,h,S,e,G⟩=>⟨F,ρ,μ,h,S,e,(W4 G).imp ?_⟩;rintro vs H1 ⟨F1,ρ1,r,v,h1,rfl,n1,S1,q1,G1⟩;obtain⟨w,hw,G3⟩:=G1.of;unfold Sy at hw;split at hw
 ·obtain⟨l,hl,rfl⟩:=aE.mp hw;obtain⟨b,p,vs,rfl,hq,rr⟩:=IH hl q1;exact⟨b,p,rfl,⟨vs,hq _ S1.sub⟩,G3.ret S1 (T9 (λs=>hq _ s) rr)⟩
 cases hw
def WD{ρ:List Addr}{p p':Addr}{b b':Bool}{vs vs':List V}{l l':List MV}{K:Fq}(hp:∀{H1:Hp},Am F H1->Hi K H1 b p vs)(hp': ∀{H1:Hp},Am F H1->Hi K H1 b' p' vs')(r:Ad W F l vs)(r':Ad W F l' vs')(hl:l.length=l'.length):Ch W F ρ ⟨(l.zip l').map λp=>.tup [p.1,p.2],none⟩ (qH K b b' p p'):=by
 intro i F1 ρ1 H1 h1 n S _;have hq:Hi K H1 b p vs:=hp (n.s.trans S.sub);have hq':Hi K H1 b' p' vs':=hp' (n.s.trans S.sub);have zl:((l.zip l').map λp=>(MV.tup [p.1,p.2])).length=l.length:=by simp[hl]
 refine⟨λm hm=>?_,λhi=>⟨vs,vs',hq,hq',.inl (by rw[hi,←r.len];show l.length<=((l.zip l').map λp=>(MV.tup [p.1,p.2])).length;rw[zl];exact aH _)⟩⟩;have hi:i<l.length:=by rw[←zl];exact(a9.mp hm).1
 have e0:l[i]?=some l[i]:=by simp[hi]
 have hi':i<l'.length:=by lia
 have e0':l'[i]?=some l'[i]:=by simp[hi']
 obtain⟨v,hv,rv⟩:=r.get e0;obtain⟨v',hv',rv'⟩:=r'.get e0';refine⟨⟨vs,vs',v,v',hq,hq',hv,hv'⟩,λx H2 y=>?_⟩;obtain⟨q,w,w',rfl,nq,y,y',rfl⟩:=y;have:=y vs hq;rw[hv]at this;cases this;have:=y' vs' hq';rw[hv']at this;cases this;have em:m=.tup [l[i],l'[i]]:=by
  have ez:(l.zip l')[i]?=some (l[i],l'[i]):=List.getElem?_zip_eq_some.mpr ⟨e0,e0'⟩;rw[aJ,ez]at hm;cases hm;rfl
 subst em;exact Qg S nq (.cons (rv.same n.s) (.cons (rv'.same n.s) .nil))
def dc{x1:Nat}(hK:X.K=W.K)(hg:Gl X "zip")(hm:X.mg "zip"=none)(ha:PE X a (tM W fa))(hb:PE X b (tM W fb))(hs:starEach [a,b] X.env=[(false,eval a X.env),(false,eval b X.env)])(hs2:starEach [b] X.env=[(false,eval b X.env)]):PI X (.Tuple es x1 tp) (.Call (.Name "zip" p) [a,b] [] pos) (Qt W λμ h=>(fa μ h).bind λx h1=>(fb μ h1).bind λy h2=>AB.of (Qd x y) h2):=by
 refine PI.of (Uy hg hm (Cw ha (Cw hb HG hs2) (by rw[hs,hs2])) hs hs2) λσ H R ⟨F,ρ,μ,h,S,e,G⟩=>⟨F,ρ,μ,h,S,e,(W3 G).imp ?_⟩;rintro vs H1 ⟨F1,ρ1,r,r',v,v',h1,rfl,n1,S1,q1,q2,G1⟩;obtain⟨w,hw,G3⟩:=G1.of;unfold Qd at hw;split at hw
 ·obtain⟨l,hl,hw⟩:=aA.mp hw;obtain⟨l',hl',hw⟩:=aA.mp hw;obtain⟨hlen,rfl⟩:=Aq hw;obtain⟨b1,p1,vs1,rfl,hq1,rr1⟩:=IH hl q1;obtain⟨b2,p2,vs2,rfl,hq2,rr2⟩:=IH hl' q2;exact⟨b1,b2,p1,p2,rfl,⟨vs1,hq1 _ S1.sub⟩,⟨vs2,hq2 _ S1.sub⟩,G3.ret S1 (WD (λs=>hq1 _ s) (λs=>hq2 _ s) rr1 rr2 hlen)⟩
 cases hw
end
section
def WR(W:Wd)(t:MT):TG:=λv σ H Q=>E6 λF ρ μ h m μ'=>A5 (Bq W F H ρ h) (BS W F ρ μ σ) (Ap W F m v) (Bg t m μ=some μ') (∀σ',BS W F ρ μ' σ'->Q σ' H)
def PG.of(h:PG X tg t)(i:∀v σ H Q,t' v σ H Q->t v σ H Q):PG X tg t':=λpins s σ H v u Q I r q=>h pins s σ H v u Q I r (i v σ H Q q)
def lL:List Nat->aa
 |[]=>ju
 |i::is=>Wr (KJ i) (lL is)
theorem Sk:∀{is:List Nat}{l:List MV}{xs:List V}{μ:En}{σ:St},Ad W F l xs->is.length=l.length->BS W F ρ μ σ->(∀σ',BS W F ρ ((is.zip l).foldl (λμ p=>μ.set p.1 (some (.v p.2))) μ) σ'->Q σ' H)->lL is xs σ H Q
 |[],l,xs,μ,σ,r,hl,e,q=>by
  obtain rfl:l=[]:=cH.mp (by simpa using hl.symm);obtain rfl:=r.nil_iff;exact⟨rfl,q σ e⟩
 |i::is,l,xs,μ,σ,r,hl,e,q=>by
  cases l with
  |nil=>simp at hl
  |cons m l=>
   obtain⟨v,vs,rfl,h1,h2⟩:=r.uncons;exact⟨v,vs,rfl,Sk h2 (by simpa using hl) (e.set (r:=.v m) h1 i) q⟩
def oZ{i:Nat}{x:Str}(hN:X.N.Nodup)(hi:X.N[i]?=some x)(hx:W7 X.env.scope x)(hf:X.fn x=true\/X.env.scope.names.lookup x=some .local):PG X (.Name x pos) (WR W (.nm i)):=by
 refine PG.of (Nh hN hi hx hf) ?_;rintro v σ H Q ⟨F,ρ,μ,h,m,μ',S,e,r,hb,q⟩;cases hb;exact q _ (e.set (r:=.v m) r i)
def jt{k:Nat}(hc:X.calm=true)(h:ag X es (lL is))(hn:(assignEach es X.env).length=is.length)(hst:(assignEach es X.env).findIdx? (·.1)=none):PG X (.Tuple es k pos) (WR W (.tup is)):=by
 refine PG.of (XV (n:=is.length) hc h hn hst) ?_;rintro v σ H Q ⟨F,ρ,μ,h,m,μ',S,e,r,hb,q⟩;cases m<;>simp only[Bg]at hb<;>first|(cases hb;done)|skip
 obtain⟨hl,rfl⟩:=Aq hb;unfold Ap at r;obtain⟨p,vs,rfl,hp,r⟩:=r;exact⟨p,vs,rfl,.inl (.inl (S.sub _ _ hp)),by rw[←r.len];exact hl.symm,Sk r hl e q⟩
theorem BS.startC(e:BS W F ρ μ σ)(k:Nat)(js:List Nat):BS W F ρ (B.startC k js μ) (Ex k js σ):=by
 unfold B.startC Ex;refine⟨by simp,λi r h=>?_⟩;by_cases hi:i<k
 ·rw[aL (by simpa using hi),cG,if_pos hi]at h;cases h
 rw[aS (by simpa using hi),aJ]at h;rw[aS (by simpa using hi),aJ];simp only[List.length_replicate]at h ⊢;cases hj:js[i-k]? with
 |none=>rw[hj]at h;cases h
 |some j=>
  rw[hj]at h;have h:(μ[j]?).join=some r:=by simpa using h
  cases hm:μ[j]? with
  |none=>rw[hm]at h;cases h
  |some o=>
   rw[hm]at h;have h:=h;subst h;obtain⟨v,h1,h2⟩:=e.at_ j r hm;exact⟨v,by simp[h1],h2⟩
abbrev Ul(W:Wd):Hp->List Addr->List MV->List V->Prop:=λF _ l vs=>Ad W F l vs
def NS{k:Nat}(tt:tM W (BU k js t fi tc te) σ H Q):Qw k js (Qt W fi) (WR W t) (ES W tc) (tM W te) σ H Q:=by
 obtain⟨F,ρ,μ,h,S,e,G⟩:=tt;refine⟨F,ρ,μ,h,S,e,(Ai.bind (rep:=Ch W) G).imp ?_⟩;rintro J H1 ⟨F1,ρ1,w,h1,n1,S1,yl,G1⟩;by_cases hb:w.ms.length<=big
 ·rw[if_pos hb]at G1;have G2:Ai W (Ul W) F1 ρ1 (compLoop w.src w.ms t (B.startC k js μ) tc te w.ms [] h1) (λvs H''=>∀p,H'' p=none->Q (.ref p) (upd H'' p (.lst vs))):=by
   refine(Ai.bind (rep:=Ul W) G1).imp ?_;rintro vs H2 ⟨F2,ρ2,l,h2,n2,S2,r2,G3⟩ p n;exact(G3.out S2).lst S2.sub n r2
  have hz:=J0;refine⟨λi m us H'=>A3 (m=w.ms.length-i) (i<=w.ms.length) (E4 λF2 ρ2 h2 acc=>A5 (DO F1 ρ1 F2 ρ2) (Bq W F2 H' ρ2 h2) (Ad W F2 acc us) (acc.length<=i) (Ai W (Ul W) F2 ρ2 (compLoop w.src w.ms t (B.startC k js μ) tc te (w.ms.drop i) acc h2) (λvs H''=>∀p,H'' p=none->Q (.ref p) (upd H'' p (.lst vs))))),⟨_,rfl,cS _,F1,ρ1,h1,[],.refl,S1,.nil,aH _,G2⟩,?_⟩;rintro i m us H' ⟨rfl,hi,F2,ρ2,h2,acc,n2,S2,r2,la,G3⟩;have lu:=r2.len;by_cases hlt:i<w.ms.length
  ·have ed:=gZ hlt;rw[ed]at G3;unfold compLoop at G3;by_cases hsrc:Bj w.src w.ms h2=true
   ·rw[if_pos hsrc]at G3;split at G3
    ·rename_i μ1 hb1;obtain⟨y1,_⟩:=yl i F2 ρ2 H' h2 n2 S2 (D7 hsrc);obtain⟨go,y2⟩:=y1 w.ms[i] (by simp[hlt]);refine .inr ⟨go,by lia,λus' H''=>E4 λF2 ρ2 h2 acc=>A5 (DO F1 ρ1 F2 ρ2) (Bq W F2 H'' ρ2 h2) (Ad W F2 acc us') (acc.length<=i+1) (Ai W (Ul W) F2 ρ2 (compLoop w.src w.ms t (B.startC k js μ) tc te (w.ms.drop (i+1)) acc h2) (λvs H''=>∀p,H'' p=none->Q (.ref p) (upd H'' p (.lst vs)))),λus' H'' hN=>⟨w.ms.length-(i+1),by lia,rfl,hlt,hN⟩,λx H3 hy=>?_⟩;obtain⟨F3,s3,S3,r3⟩:=y2 x H3 hy;have n3:DO F2 ρ2 F3 ρ2:=⟨s3,cA _⟩;refine⟨F3,ρ2,_,h2,w.ms[i],μ1,S3,(((e.nxt n1).nxt n2).nxt n3).startC k js,r3,hb1,λσ2 e2=>?_⟩;refine⟨F3,ρ2,μ1,h2,S3,e2,(Ai.bind (rep:=Zh) (G3.nxt n3)).imp ?_⟩;rintro k H4 ⟨F4,ρ4,k',h4,n4,S4,rfl,G4⟩;by_cases hk:k'=true
     ·rw[if_pos hk]at G4 ⊢;refine⟨F4,ρ4,μ1,h4,S4,e2.nxt n4,(Ai.bind (rep:=A0 W) G4).imp ?_⟩;rintro y H5 ⟨F5,ρ5,r5,h5,n5,S5,q5,G5⟩;cases r5 with
      |r n=>exact G5.elim
      |l _ _=>exact G5.elim
      |v m=>exact⟨F5,ρ5,h5,acc++ [m],((n2.trans n3).trans n4).trans n5,S5,(r2.same ((n3.trans n4).trans n5).s).app (.cons q5 .nil),by simp;lia,G5⟩
     rw[if_neg hk]at G4 ⊢;exact⟨F4,ρ4,h4,acc,(n2.trans n3).trans n4,S4,r2.same (n3.trans n4).s,by lia,G4⟩
    exact G3.elim
   rw[if_neg hsrc]at G3;exact G3.elim
  have ei:i=w.ms.length:=by lia
  subst ei;rw[List.drop_length]at G3;unfold compLoop at G3;by_cases hsrc:Bj w.src w.ms h2=true
  ·rw[if_pos hsrc]at G3;obtain⟨_,y2⟩:=yl w.ms.length F2 ρ2 H' h2 n2 S2 (D7 hsrc);exact .inl ⟨y2 rfl,by lia,G3.ret S2 r2⟩
  rw[if_neg hsrc]at G3;exact G3.elim
 rw[if_neg hb]at G1;exact G1.elim
def X6(CS:C3 scope sc N0 xs ys js)(hc:X.calm=true)(hi:PI X tg iter (Qt W fi))(hg:∀C s2 H fp,PG (Fh X (xs++ys) scope C s2 H fp) tg (WR W t))(hq:∀C s2 H fp,PQ (Fh X (xs++ys) scope C s2 H fp) ifs (ES W tc))
 (he:∀C s2 H fp,PE (Fh X (xs++ys) scope C s2 H fp) elt (tM W te))(hsc:X.env.scope=sc)(hN:X.N=N0)(hs:∀x,foldedSetIterable iter X.env x=pure x) :
 PE X (.ListComp elt [⟨tg,iter,ifs,0⟩] scope pos) (tM W (BU xs.length js t fi tc te)):=PE.of (UD CS hc hi hg hq he hsc hN hs) λσ H Q t=>NS t
end
section
variable {X:Cx}{W:Wd}{cs:List Ci}{σ:St}{H F:Hp}{a b c e o tg l:Expr}{pos apos p:Pos}{fs:En->MH->AB (List R)}{Φ:Fs}
def JV(W:Wd)(Φ:Fs)(f:Nat):Sp:=λvs H Q _=>E4 λF ρ h rs=>A3 (Bq W F H ρ h) (Az W F ρ rs vs) (GE W F ρ (Φ f rs h) Q)
def JS{f:Nat}(t:tM W (λμ h=>(fs μ h).bind λrs h1=>Φ f rs h1) σ H Q):Hk W fs σ H λvs H1=>JV W Φ f vs H1 Q E0:=by
 obtain⟨F,ρ,μ,h,S,e,G⟩:=t;refine⟨F,ρ,μ,h,S,e,(Ai.bind (rep:=Az W) G).imp ?_⟩;rintro vs H1 ⟨F1,ρ1,rs,h1,n1,S1,q1,G1⟩;exact⟨F1,ρ1,h1,rs,S1,q1,G1⟩
def FT{k:Nat}(F:D6 X.prog X.w X.K X.mg X.base Ol k f fd ps sp)(hr:Bi k X.A)(hb:BF X.K fd ps [])(I:Af X pins σ H s)(r:Al vs us)(h:sp vs H Q E0):wpAny (model X.prog X.w) X.A (call (.ref f) us) (EP X pins σ Q) X.xe s:=
 QA F hr hb .nil R4 I r (by rw[dD];exact h)
def X9{f k j:Nat}{x:Str}(Fn:PK X.prog X.w X.K X.mg X.base x k ps (JV W Φ f))(hr:Bi j X.A)(hj:k<=j)(hg:Gl X x)(ha:PA X (e::es) (Hk W fs))(hdb:(x ==("__debug__" :Str))=false)
 (he:starEach (e::es) X.env=(false,eval e X.env)::starEach es X.env)(hpl:(backTo pos (starEach es X.env)).any (·.1)=false):PE X (.Call (.Name x p) (e::es) [] pos) (tM W λμ h=>(fs μ h).bind λrs h1=>Φ f rs h1):=
 PE.of (ie Fn hr hj hg ha hdb he hpl) λ_ _ _ t=>by
  show Hk W fs _ _ λvs H1=>JV W Φ f (vs++ []) H1 _ E0;simp only[List.append_nil];exact JS t
def Ug{f k j:Nat}{x:Str}(Fn:PK X.prog X.w X.K X.mg X.base x k ps (JV W Φ f))(hr:Bi j X.A)(hj:k<=j)(hg:Gl X x)(hdb:(x ==("__debug__" :Str))=false)(hfs:fs=λ_ h=>.ok [] h):PE X (.Call (.Name x p) [] [] pos) (tM W λμ h=>(fs μ h).bind λrs h1=>Φ f rs h1):=by
 subst hfs;obtain⟨fd,fdd,G,hm,hk,hb⟩:=Fn.ex;intro pins s σ H Q I ⟨F,ρ,μ,h,S,e,GG⟩;refine c8 (DC I hg hm ?_ hdb);refine PySem.W.callWith_K0 I.kIn hk ?_;exact FT (us:=[]) (vs:=[]) G (hr.mono hj) hb I .nil ⟨F,ρ,h,[],S,.nil,GG⟩
theorem Bq.take(S:Bq W F H ρ h)(n:Nat):Bq W F H (ρ.take n) (h.take n):=by
 refine⟨S.sub,S.nd.sublist (cN _ _),by simp[S.len],λk a m h1 h2=>?_,S.tb,S.tf⟩;rw[dO]at h1 h2;split at h1
 ·rename_i hk;rw[if_pos hk]at h2;exact S.obj k a m h1 h2
 cases h1
def Bq.born{c:Nat}(S:Bq W F H ρ h)(n1:H x=none)(n2:H dx=none)(hne:dx≠x):Bq W F (upd (upd H dx (.own x)) x (.ins (W.ca c) dx [])) (ρ++ [x]) (h++ [.ins c [] []]):=by
 have S1:Bq W F (upd H dx (.own x)) ρ h:=⟨λb u z=>by rw[Ab (Ao (S.sub _ _ z) n2)];exact S.sub _ _ z,S.nd,S.len,λn a m h1 h2=>(S.obj n a m h1 h2).of_new n2,S.tb.upd (λu e=>by rw[n2]at e;cases e),S.tf⟩;have n1':upd H dx (.own x) x=none:=by rw[Ab (bN hne)];exact n1
 exact S1.push n1' ⟨S.sub.free n1,dx,[],Ac,by rw[Ab hne];exact Ac,S.sub.free n2,rfl,.nil⟩
def Bq.stays{ρ:List Addr}{h:MH}{n:Nat}{q:Addr}{o:MO}{m:MV}(S:Bq W F H ρ h)(hp:ρ[n]?=some q)(ho:h[n]?=some o)(hm:(∃c ns vs,o=.ins c ns vs/\m=.obj c ns vs)\/o=.gone m):∃F',Am F F'/\Bq W F' H ρ (h.set n (.gone m))/\Ap W F' m (.ref q):=by
 have l:=S.obj n q o hp ho;rcases hm with⟨c,ns,ms,rfl,rfl⟩|rfl
 ·obtain⟨n1,dx,vs,hH,hD,n2,h3,r⟩:=l;have hdp:dx≠q:=HR hD hH (by intro z;cases z);have n2':(upd F q (.ins (W.ca c) dx ((ns.map W.nm).zip vs))) dx=none:=by rw[Ab hdp];exact n2
  have sF:Am F (upd (upd F q (.ins (W.ca c) dx ((ns.map W.nm).zip vs))) dx (.own q)):=(Am.new n1).trans (.new n2');have rr:Ap W (upd (upd F q (.ins (W.ca c) dx ((ns.map W.nm).zip vs))) dx (.own q)) (.obj c ns ms) (.ref q):=by
   unfold Ap;exact⟨q,dx,vs,rfl,by rw[Ab (bN hdp)];exact Ac,Ac,h3,r.same sF⟩
  refine⟨_,sF,S.freeze hp (λb u z=>?_) sF (λb hb=>?_) (λb o _ z=>z) (λx z=>by rw[hH]at z;cases z) rr ⟨_,by rw[Ab (bN hdp)];exact Ac,λob z=>by cases z⟩ (λu e _=>e) (λps z=>by rw[hH]at z;cases z),rr⟩
  ·by_cases hb:b=dx
   ·subst hb;rw[Ac]at z;cases z;exact hD
   rw[Ab hb]at z;by_cases hb2:b=q
   ·subst hb2;rw[Ac]at z;cases z;exact hH
   rw[Ab hb2]at z;exact S.sub _ _ z
  by_cases hb2:b=dx
  ·subst hb2;exact .inr ⟨q,hD,rfl⟩
  exact .inl (by rw[Ab hb2,Ab hb])
 obtain⟨r,u,hu⟩:=l;have e2:h.set n (.gone m)=h:=by
  apply dF;intro k;by_cases hk:n=k
  ·subst hk;rw[eO];simp[ho];exact(a9.mp ho).1
  rw[c7 hk]
 exact⟨F,Am.refl _,by rw[e2];exact S,r⟩
def take_set{α:Type}{l:List α}{n:Nat}{x:α}:(l.set n x).take n=l.take n:=by
 apply dF;intro k;rw[dO,dO];split
 ·rw[c7 (by lia)]
 rfl
def PC{α:Type}{x:AB (List R)}{g:List R->List R}{k:List R->MH->AB α}:((x.bind λrs h1=>.ok (g rs) h1).bind k)=x.bind λrs h1=>k (g rs) h1:=by cases x<;>rfl
theorem Az.dfl(r:Ad W F ds dvs):∀{rs:List R}{vs:List V},Az W F ρ rs vs->Az W F ρ (rs++ds.map .v) (vs++dvs)
 |[],_,.nil=>by
  induction ds generalizing dvs with
  |nil=>rw[r.nil_iff];exact .nil
  |cons m ms ih=>
   obtain⟨v,us,rfl,h1,h2⟩:=r.uncons;exact .cons h1 (ih h2)
 |_::_,_,.cons q t=>.cons q (Az.dfl r t)
def Xy{c0 f k j:Nat}{x:Str}(M:Mk X.K (W.ca c0) fi)(Fn:D6 X.prog X.w X.K X.mg X.base Ol k fi fd ps (JV W Φ f))(hb:BF X.K fd ps dus)(hd:Al dvs dus)(hds:∀F,Ad W F ds dvs)(hm:X.mg x=some (.ref (W.ca c0)))(hr:Bi j X.A)(hj:k+1<=j)(hg:Gl X x)(ha:PA X (e::es) (Hk W fs))(hdb:(x ==("__debug__" :Str))=false)
 (he:starEach (e::es) X.env=(false,eval e X.env)::starEach es X.env)(hpl:(backTo pos (starEach es X.env)).any (·.1)=false):PE X (.Call (.Name x p) (e::es) [] pos) (tM W (EJ Φ c0 f λμ h=>(fs μ h).bind λrs h1=>.ok (rs++ds.map .v) h1)):=by
 refine PE.of (UC M Fn (hr.mono hj) hg hm hb hd R4 ha hdb he hpl) ?_;rintro σ H Q ⟨F,ρ,μ,h,S,ee,G⟩;unfold EJ at G;rw[PC]at G;refine⟨F,ρ,μ,h,S,ee,(Ai.bind (rep:=Az W) G).imp ?_⟩;rintro vs H1 ⟨F1,ρ1,rs,h1,n1,S1,q1,G1⟩ y dy ny ndy hne;have S2:=S1.born (c:=c0) ny ndy hne;refine⟨F1,ρ1++ [y],h1++ [.ins c0 [] []],.r h1.length::(rs++ds.map .v),S2,.cons S1.atLast (Az.nxt Bq.nxtPush (.dfl (hds _) q1)),?_⟩
 cases ex:Φ f (.r h1.length::(rs++ds.map .v)) (h1++ [.ins c0 [] []]) with
 |no=>rw[ex]at G1;exact G1
 |ok r h2=>
  rw[ex]at G1;intro F' ρ' H' v n' S' q';have fin:∀{oo:MO}{m:MV},r=.v .non->h2[h1.length]?=some oo->h2.length=h1.length+1->((∃c ns vs,oo=.ins c ns vs/\m=.obj c ns vs)\/oo=.gone m)->GE W F1 ρ1 (.ok (.v m) (h2.take h1.length)) Q->v=.non/\Q (.ref y) H':=by
   intro oo m hr ho hl hm G2;subst hr;have q':=q';unfold Ap at q';have el:ρ'=ρ1++ [y]:=by
    obtain⟨t,ht⟩:=n'.p;have l1:=S'.len;have l2:=S1.len;rw[←ht]at l1 ⊢;simp at l1;have:t=[]:=cH.mp (by lia);rw[this,dD]
   subst el;have hy:(ρ1++ [y])[h1.length]?=some y:=by rw[←S1.len];simp
   obtain⟨F2,s2,S3,r3⟩:=S'.stays hy ho hm;have S4:=S3.take h1.length;rw[take_set,←S1.len,List.take_left',S1.len]at S4
   ·exact⟨q',G2 F2 ρ1 H' (.ref y) ⟨n'.s.trans s2,cA _⟩ S4 r3⟩
   rfl
  simp only[AB.bind]at G1;split at G1
  ·rename_i c' ns ms ho;split at G1
   ·rename_i hl;exact fin rfl ho hl (.inl ⟨c',ns,ms,rfl,rfl⟩) G1
   exact G1.elim
  ·rename_i m ho;split at G1
   ·rename_i hl;exact fin rfl ho hl (.inr rfl) G1
   exact G1.elim
  exact G1.elim
def Xv{c0:Nat}{x:Str}(D:VI X.K X.mg x (W.ca c0))(hg:Gl X x)(hdb:(x ==("__debug__" :Str))=false):PE X (.Call (.Name x p) [] [] pos) (tM W λ_ h=>.ok (.v (.obj c0 [] [])) h):=by
 refine PE.of (UB D hg hdb) λσ H Q ⟨F,ρ,μ,h,S,ee,G⟩ y dy n1 n2 hne=>?_;have g1:C2 F H (upd F dy (.own y)) (upd H dy (.own y)):=.new S.sub n2;have n1':upd H dy (.own y) y=none:=by rw[Ab (bN hne)];exact n1
 have g2:C2 (upd F dy (.own y)) (upd H dy (.own y)) (upd (upd F dy (.own y)) y (.ins (W.ca c0) dy [])) (upd (upd H dy (.own y)) y (.ins (W.ca c0) dy [])):=.new g1.sub n1';refine G _ ρ _ _ (g1.nxt.trans g2.nxt) ((S.grow g1).grow g2) ?_;show Ap W _ (.obj c0 [] []) _;unfold Ap;exact⟨y,dy,[],rfl,Ac,by rw[Ab hne];exact Ac,rfl,.nil⟩
def Fi{m:Str}(hb:attributeBase o m env (eval o env)=eval o env)(hf:methodCallForm (args.length+([]:List Keyword).length) (backTo pos (starEach args env)) (backToKw pos (keywordEach [] env))=true)(hl:(apos.endLine ==pos.line)=true) :
 eval (.Call (.Attribute o m apos) args [] pos) env=(do
  let ov ←eval o env
  standAt apos.atName
  let (f,first) ←holding [ov] (getMethod ov m (do return (←importBound o env).getD true))
  callWith pos f first (backTo pos (starEach args env)) (backToKw pos (keywordEach [] env))):=by
 show(do
  let ov ←attributeBase o m env (eval o env)
  standAt apos.atName
  methodCall o m apos pos env ov (args.length+([]:List Keyword).length) (backTo pos (starEach args env)) (backToKw pos (keywordEach [] env)))=_
 rw[hb];unfold methodCall calleeOf methodCallPos;rw[hf];simp only[if_true,Bool.not_true,Bool.false_or,hl,pure_bind]
structure ZF(X:Cx)(W:Wd)(Φ:Fs)(cs:List Ci)(k m:Nat):Prop where
 at_:∀(c:Nat) (i:Ci) (f:Nat),cs[c]?=some i->i.exc=false->i.mts.lookup m=some f->∃ps,W6 X.prog X.w X.K X.mg X.base Ol k (W.ca c) (W.nm m) ps (JV W Φ f)
theorem Qb{f:Nat}:∀{ns:List Nat}{vs:List V},f∉ns->((ns.map W.nm).zip vs).lookup (W.nm f)=none
 |[],_,_=>rfl
 |n::ns,[],_=>rfl
 |n::ns,v::vs,h=>by
  have h:f≠n/\f∉ns:=by simpa using h
  have e:=bG.mpr λz=>h.1 (W.inj _ _ z);rw[aF,bF,bH,e];exact Qb h.2
def No{m f:Nat}(va:Br W F H mm x)(h:meth cs m mm=some f):E5 λc i a dx gs=>A6 (x=.ref a) (H a=some (.ins (W.ca c) dx gs)) (gs.lookup (W.nm m)=none) (cs[c]?=some i) (i.exc=false) (i.mts.lookup m=some f):=by
 cases mm<;>simp only[meth]at h<;>first|(cases h;done)|skip
 rename_i c ns ms;obtain⟨i,hi,h2⟩:=aA.mp h;by_cases hc:i.exc=false/\m∉ns
 ·rw[if_pos hc]at h2;obtain⟨a,dx,vs,rfl,h1,_,_,_⟩:=va;exact⟨c,i,a,dx,_,rfl,h1,Qb hc.2,hi,hc.1,h2⟩
 rw[if_neg hc]at h2;cases h2
def Xx{m k j:Nat}(T:ZF X W Φ cs k m)(ho:PE X o (tM W fa))(hr:Bi j X.A)(hj:k<=j)(ha:PA X (e::es) (Hk W fs))(hst:starEach (e::es) X.env=(false,eval e X.env)::starEach es X.env)(hpl:(backTo pos (starEach es X.env)).any (·.1)=false)
 (hb:attributeBase o (W.nm m) X.env (eval o X.env)=eval o X.env)(hf:methodCallForm ((e::es).length+([]:List Keyword).length) (backTo pos (starEach (e::es) X.env)) (backToKw pos (keywordEach [] X.env))=true)(hl:(apos.endLine ==pos.line)=true) :
 PE X (.Call (.Attribute o (W.nm m) apos) (e::es) [] pos) (tM W (SF cs Φ m fa fs)):=by
 intro pins s σ H Q I ⟨F,ρ,μ,h,S,ee,G⟩;refine PySem.W.methodCall_KW (AR (ho pins s σ H _ I ⟨F,ρ,μ,h,S,ee,Ai.bind (rep:=A0 W) G⟩) ?_) (Fi hb hf hl);rintro u s1 ⟨x,H1,I1,rx,F1,ρ1,r,h1,n1,S1,q1,G1⟩;split at G1
 ·rename_i f hf';obtain⟨mm,hm,hme⟩:=aA.mp hf';obtain⟨c,i,a,dx,gs,rfl,ha1,lk,hi,hex,hmt⟩:=No (S1.view q1 hm) hme;obtain rfl:u=Value.ref a:=rx;obtain⟨ps,MD⟩:=T.at_ c i f hi hex hmt;obtain⟨fa',fd,cl,hmm,Ff,hbb⟩:=MD.out;refine GP I1 ha1 cl hmm lk ?_;refine PySem.W.callWith_K (first:=[.ref a]) (h₀:=X.base) I.ok.mod.kin hmm.kp (AR (ha pos pins s1 σ H1 _ I1 ⟨F1,ρ1,μ,h1,S1,ee.nxt n1,Ai.bind (rep:=Az W) G1⟩) λus s2 ⟨vs,H2,I2,rv,F2,ρ2,rs,h2,n2,S2,q2,G2⟩=>⟨I2.kIn,?_⟩) hst hpl;exact FT (us:=.ref a::us) (vs:=.ref a::vs) Ff (hr.mono hj) hbb I2 (.cons rfl rv) ⟨F2,ρ2,h2,r::rs,S2,.cons (q1.nxt n2) q2,G2⟩
 exact G1.elim
def Uf{m k j:Nat}(T:ZF X W Φ cs k m)(ho:PE X o (tM W fa))(hr:Bi j X.A)(hj:k<=j)(hfs:fs=λ_ h=>.ok [] h)
 (hb:attributeBase o (W.nm m) X.env (eval o X.env)=eval o X.env)(hl:(apos.endLine ==pos.line)=true) :
 PE X (.Call (.Attribute o (W.nm m) apos) [] [] pos) (tM W (SF cs Φ m fa fs)):=by
 subst hfs;intro pins s σ H Q I ⟨F,ρ,μ,h,S,ee,G⟩;refine PySem.W.methodCall_KW (AR (ho pins s σ H _ I ⟨F,ρ,μ,h,S,ee,Ai.bind (rep:=A0 W) G⟩) ?_) (Fi hb rfl hl);rintro u s1 ⟨x,H1,I1,rx,F1,ρ1,r,h1,n1,S1,q1,G1⟩;split at G1
 ·rename_i f hf';obtain⟨mm,hm,hme⟩:=aA.mp hf';obtain⟨c,i,a,dx,gs,rfl,ha1,lk,hi,hex,hmt⟩:=No (S1.view q1 hm) hme;obtain rfl:u=Value.ref a:=rx;obtain⟨ps,MD⟩:=T.at_ c i f hi hex hmt;obtain⟨fa',fd,cl,hmm,Ff,hbb⟩:=MD.out;refine GP I1 ha1 cl hmm lk ?_;exact PySem.W.callWith_K0 (first:=[.ref a]) I1.kIn hmm.kp (FT (us:=[.ref a]) (vs:=[.ref a]) Ff (hr.mono hj) hbb I1 (.cons rfl .nil) ⟨F1,ρ1,h1,[r],S1,.cons q1 .nil,G1⟩)
 exact G1.elim
def fv{f k j:Nat}{x m:Str}(Fn:qJ X.prog X.w X.K X.mg X.base x m k ps (JV W Φ f))(hr:Bi j X.A)(hj:k<=j)(hg:Gl X x)(ha:PA X (e::es) (Hk W fs))(hdb:(x ==("__debug__" :Str))=false)
 (hst:starEach (e::es) X.env=(false,eval e X.env)::starEach es X.env)(hpl:(backTo pos (starEach es X.env)).any (·.1)=false)
 (hf:methodCallForm ((e::es).length+([]:List Keyword).length) (backTo pos (starEach (e::es) X.env)) (backToKw pos (keywordEach [] X.env))=true)(hl:(apos.endLine ==pos.line)=true) :
 PE X (.Call (.Attribute (.Name x p) m apos) (e::es) [] pos) (tM W λμ h=>(fs μ h).bind λrs h1=>Φ f rs h1):=by
 obtain⟨G,fa',fd,Ff,hm,hrd,hfc,hga,hk,hb⟩:=Fn.ex;intro pins s σ H Q I h;have h:=JS h;refine PySem.W.methodCall_KW (AR (FV hg hm (show As (.ref G) (.ref G) from rfl) hdb pins s σ H (λv H1=>v=.ref G/\H1=H) I ⟨rfl,rfl⟩) ?_) (Fi rfl hf hl);rintro u s1 ⟨v,H1,I1,rv,ev,eH⟩;subst ev eH;obtain rfl:u=Value.ref G:=rv;refine PySem.W.method_cls I1.kIn hga (PySem.W.cls_value I1.kIn hrd hfc rfl ?_);refine PySem.W.callWith_K (first:=[]) (h₀:=X.base) I.ok.mod.kin hk (AR (ha pos pins _ σ H1 _ (I1.tok (s1.toks+1)) h) λus s2 ⟨vs,H2,I2,r,q2⟩=>⟨I2.kIn,?_⟩) hst hpl;exact FT Ff (hr.mono hj) hb I2 r q2
end
inductive Fl where
 |nx (μ:En)|rt (r:R)
abbrev SR:=Option (Fl×MH)
abbrev Sf:=En->MH->SR
mutual
inductive MS where
 |set (i:Nat) (e:ME)|setC (i:Nat) (e:ME)|setI (o i e:ME)|setD (o i e:ME)|setF (o:ME) (f:Nat) (e:ME)|expr (e:ME)|ret (e:ME)|ite (c:ME) (a b:ZH)|for_ (t:MT) (it:MI) (b:ZH)|wh (n:Nat) (c:ME) (b:ZH)
 |any
inductive ZH where
 |nil|any|cons (s:MS) (r:ZH)
end
noncomputable def Ks{α:Type}(μ:En)(x:AB α)(k:α->MH->SR):SR:=match x with
 |.ok a h=>k a h
 |.no=>none
noncomputable def jK:MT->R->En->Option En
 |.nm i,r,μ=>some (μ.set i (some r))
 |t,.v m,μ=>Bg t m μ
 |_,_,_=>none
noncomputable def Qh(t:MT)(fe:Ef):Sf:=λμ h=>Ks μ (fe μ h) λr h1=>(jK t r μ).map λμ'=>(.nx μ',h1)
noncomputable def VL(fo fi fe:Ef):Sf:=λμ h=>Ks μ (fe μ h) λx h1=>Ks μ (fo μ h1) λo h2=>Ks μ (fi μ h2) λi h3=>match x,o,T5 i with
 |.v m,.r n,some k=>(match h3[n]? with
  |some (.lst l)=>(N9 l.length k).map λj=>(.nx μ,h3.set n (.lst (l.set j m)))
  |_=>none)
 |_,_,_=>none
noncomputable def Ee(ks vs:List MV)(k v:MV):List MV×List MV:=if (ks.any λk'=>look.seqK k' k)=true then(ks,(ks.zip vs).map λp=>if look.seqK p.1 k=true then v else p.2) else(ks++ [k],vs++ [v])
noncomputable def VN(fo fi fe:Ef):Sf:=λμ h=>Ks μ (fe μ h) λx h1=>Ks μ (fo μ h1) λo h2=>Ks μ (fi μ h2) λi h3=>match x,o,i with
 |.v m,.r n,.v k=>(match h3[n]? with
  |some (.dic t ks vs)=>if FN t k=true/\vs.length<big then some (.nx μ,h3.set n (.dic t (Ee ks vs k m).1 (Ee ks vs k m).2)) else none
  |_=>none)
 |_,_,_=>none
noncomputable def C0(f:Nat)(v:MV):List Nat->List MV->List Nat×List MV
 |n::ns,m::ms=>if n=f then(n::ns,v::ms) else let (a,b):=C0 f v ns ms;(n::a,m::b)
 |_,_=>([f],[v])
noncomputable def VM(cs:List Ci)(fo:Ef)(f:Nat)(fe:Ef):Sf:=λμ h=>Ks μ (fe μ h) λx h1=>Ks μ (fo μ h1) λo h2=>match x,o with
 |.v m,.r n=>(match h2[n]? with
  |some (.ins c ns ms)=>(cs[c]?).bind λi=>if i.exc=false/\f∈i.flds/\ns.length<1000 then some (.nx μ,h2.set n (.ins c (C0 f m ns ms).1 (C0 f m ns ms).2)) else none
  |_=>none)
 |_,_=>none
noncomputable def VO(fe:Ef):Sf:=λμ h=>Ks μ (fe μ h) λ_ h1=>some (.nx μ,h1)
noncomputable def On(fe:Ef):Sf:=λμ h=>Ks μ (fe μ h) λr h1=>some (.rt r,h1)
noncomputable def aq(c:Tf)(a b:Sf):Sf:=λμ h=>Ks μ (c μ h) λk h1=>if k=true then a μ h1 else b μ h1
noncomputable def JI(a b:Sf):Sf:=λμ h=>match a μ h with
 |some (.nx μ',h')=>b μ' h'
 |x=>x
noncomputable def AJ(src:Option Nat)(all:List MV)(t:MT)(b:Sf):List MV->Sf
 |[],μ,h=>if Bj src all h=true then some (.nx μ,h) else none
 |m::r,μ,h=>if Bj src all h=true then(match Bg t m μ with
  |some μ1=>(match b μ1 h with
   |some (.nx μ2,h2)=>AJ src all t b r μ2 h2
   |x=>x)
  |none=>none) else none
noncomputable def ar(t:MT)(fi:En->MH->AB Wk)(b:Sf):Sf:=λμ h=>Ks μ (fi μ h) λw h1=>AJ w.src w.ms t b w.ms μ h1
noncomputable def Cv(c:Tf)(b:Sf):Nat->Sf
 |0,_,_=>none
 |n+1,μ,h=>Ks μ (c μ h) λk h1=>if k=true then(match b μ h1 with
  |some (.nx μ2,h2)=>Cv c b n μ2 h2
  |x=>x) else some (.nx μ,h1)
noncomputable def TB:Sf:=λ_ _=>none
section
variable (cs:List Ci) (Φ:Fs) (ini:Nat->Option Nat) (cf:Nat->Nat->Option Nat)
mutual
noncomputable def ex:MS->Sf
 |.set i e=>Qh (.nm i) (e2 cs Φ ini cf e).1
 |.setC i e=>Qh (.nm i) (e2 cs Φ ini cf e).1
 |.setI o i e=>VL (e2 cs Φ ini cf o).1 (e2 cs Φ ini cf i).1 (e2 cs Φ ini cf e).1
 |.setD o i e=>VN (e2 cs Φ ini cf o).1 (e2 cs Φ ini cf i).1 (e2 cs Φ ini cf e).1
 |.setF o f e=>VM cs (e2 cs Φ ini cf o).1 f (e2 cs Φ ini cf e).1
 |.expr e=>VO (e2 cs Φ ini cf e).1
 |.ret e=>On (e2 cs Φ ini cf e).1
 |.ite c a b=>aq (e2 cs Φ ini cf c).2 (exs a) (exs b)
 |.for_ t it b=>ar t (Pm cs Φ ini cf it) (exs b)
 |.wh n c b=>Cv (e2 cs Φ ini cf c).2 (exs b) n
 |.any=>TB
noncomputable def exs:ZH->Sf
 |.nil=>λμ h=>some (.nx μ,h)
 |.any=>TB
 |.cons s r=>JI (ex s) (exs r)
end
end
section
variable {X:Cx}{W:Wd}{sa sb:Sf}{st:Stmt}{sts:List Stmt}
def GS(W:Wd)(D:PL)(F:Hp)(ρ:List Addr):SR->Prop
 |some (.nx μ',h')=>∀F' ρ' H' σ',DO F ρ F' ρ'->Bq W F' H' ρ' h'->BS W F' ρ' μ' σ'->D.nx σ' H'
 |some (.rt r,h')=>∀F' ρ' H' v,DO F ρ F' ρ'->Bq W F' H' ρ' h'->A0 W F' ρ' r v->D.rt v H'
 |none=>False
def GS.nxt(n:DO F ρ F1 ρ1)(g:GS W D F ρ x):GS W D F1 ρ1 x:=by
 match x,g with
 |some (.nx μ',h'),g=>exact λF' ρ' H' σ' n'=>g F' ρ' H' σ' (n.trans n')
 |some (.rt r,h'),g=>exact λF' ρ' H' σ' n'=>g F' ρ' H' σ' (n.trans n')
def Fy(W:Wd)(f:Sf):TS:=λD σ H=>ZC W σ H λF ρ μ h=>GS W D F ρ (f μ h)
def GS.bind{α β:Type}{rep:Hp->List Addr->α->β->Prop}{ρ:List Addr}{μ:En}{x:AB α}{k:α->MH->SR}(ee:BS W F ρ μ σ)(g:GS W D F ρ (Ks μ x k)):Ai W rep F ρ x λv H1=>sY W rep F ρ v H1 λF1 ρ1 r h1=>GS W D F1 ρ1 (k r h1):=by
 cases x with
 |no=>exact g
 |ok r h=>exact λF1 ρ1 H1 v n S q=>⟨F1,ρ1,r,h,n,S,q,GS.nxt n g⟩
def X4(he:PE X e (tM W fe))(hs:swapsWith e none pos.line X.env=pure false):PS X (.Expr e pos) (Fy W (VO fe)):=by
 refine PS.of (Uu he hs) λD σ H ⟨F,ρ,μ,h,S,ee,G⟩=>⟨F,ρ,μ,h,S,ee,(GS.bind (rep:=A0 W) ee G).imp ?_⟩;rintro v H1 ⟨F1,ρ1,r,h1,n1,S1,q1,G1⟩;exact G1 F1 ρ1 H1 σ .refl S1 (ee.nxt n1)
def dr(he:PE X e (tM W fe)):PS X (.Return (some e) pos) (Fy W (On fe)):=by
 refine PS.of (XM he) λD σ H ⟨F,ρ,μ,h,S,ee,G⟩=>⟨F,ρ,μ,h,S,ee,(GS.bind (rep:=A0 W) ee G).imp ?_⟩;rintro v H1 ⟨F1,ρ1,r,h1,n1,S1,q1,G1⟩;exact G1 F1 ρ1 H1 v .refl S1 q1
def Xl:Hj X [] (Fy W λμ h=>some (.nx μ,h)):=
 Hj.of Ut λD σ H ⟨F,ρ,μ,h,S,ee,G⟩=>G F ρ H σ .refl S ee
def Xh(t:Fy W (JI sa sb) D σ H):bo (Fy W sa) (Fy W sb) D σ H:=by
 obtain⟨F,ρ,μ,h,S,ee,G⟩:=t;refine⟨F,ρ,μ,h,S,ee,?_⟩;unfold JI at G
 match hx:sa μ h,G with
 |none,G=>exact G
 |some (.nx μ',h'),G=>exact λF1 ρ1 H1 σ1 n1 S1 e1=>⟨F1,ρ1,μ',h',S1,e1,GS.nxt n1 G⟩
 |some (.rt r,h'),G=>exact G
def Ue(h1:PS X st (Fy W sa))(h2:Hj X sts (Fy W sb)):Hj X (st::sts) (Fy W (JI sa sb)):=Hj.of (QI h1 h2) λ_ _ _ t=>Xh t
def fg(hc:PT X c (ES W ta))(ha:Hj X u (Fy W sa))(hb:Hj X v (Fy W sb)):PS X (.If c u v pos) (Fy W (aq ta sa sb)):=by
 refine PS.of (gu hc ha hb) λD σ H ⟨F,ρ,μ,h,S,ee,G⟩=>⟨F,ρ,μ,h,S,ee,(GS.bind (rep:=Zh) ee G).imp ?_⟩;rintro k H1 ⟨F1,ρ1,k',h1,n1,S1,rfl,G1⟩;by_cases hk:k'=true
 ·rw[if_pos hk]at G1 ⊢;exact⟨F1,ρ1,μ,h1,S1,ee.nxt n1,G1⟩
 rw[if_neg hk]at G1 ⊢;exact⟨F1,ρ1,μ,h1,S1,ee.nxt n1,G1⟩
def Tg{i:Nat}(t:Fy W (Qh (.nm i) fe) D σ H):TQ (tM W fe) (KJ i) D σ H:=by
 obtain⟨F,ρ,μ,h,S,ee,G⟩:=t;refine⟨F,ρ,μ,h,S,ee,(GS.bind (rep:=A0 W) ee G).imp ?_⟩;rintro v H1 ⟨F1,ρ1,r,h1,n1,S1,q1,G1⟩;exact G1 F1 ρ1 H1 _ .refl S1 ((ee.nxt n1).set q1 i)
def Xn{i:Nat}{x:Str}(hN:X.N.Nodup)(hi:X.N[i]?=some x)(hx:W7 X.env.scope x)(he:PE X e (tM W fe))(hs:swapsWith e (some (.Name x pos')) pos.line X.env=pure false)(hf:X.fn x=true\/X.env.scope.names.lookup x=some .local):PS X (.Assign [.Name x pos'] e pos) (Fy W (Qh (.nm i) fe)):=
 PS.of (XJ hN hi hx he hs hf) λ_ _ _ t=>Tg t
end
section
def Xr{i:Nat}{y:Str}(CS:C3 scope sc N0 xs ys js)(hc:X.calm=true)(hNd:X.N.Nodup)(hiy:X.N[i]?=some y)(hy:X.env.scope.names.lookup y=some .local)
 (hi:PI X tg iter (Qt W fw))(hg:∀C s2 H fp,PG (Fh X (xs++ys) scope C s2 H fp) tg (WR W t))(hq:∀C s2 H fp,PQ (Fh X (xs++ys) scope C s2 H fp) ifs (ES W tc))
 (he:∀C s2 H fp,PE (Fh X (xs++ys) scope C s2 H fp) elt (tM W te))(hsc:X.env.scope=sc)(hN:X.N=N0)(hs:∀x,foldedSetIterable iter X.env x=pure x)
 (hsw:swapsWith (.ListComp elt [⟨tg,iter,ifs,0⟩] scope pos) (some (.Name y py)) spos.line X.env=pure true) :
 PS X (.Assign [.Name y py] (.ListComp elt [⟨tg,iter,ifs,0⟩] scope pos) spos) (Fy W (Qh (.nm i) (BU xs.length js t fw tc te))):=
 PS.of (LF CS hc hNd hiy hy hi hg hq he hsc hN hs hsw) λD σ H t=>NS (Tg t)
def Xo(ho:PE X o (tM W fo))(hi:PE X iter (tM W fi))(he:PE X e (tM W fe))
 (hsub:∀v,assign (.Subscript o iter pos') X.env v=(do
   let ov ←holding [v] (eval o X.env)
   let iv ←holding [v,ov] (eval iter X.env)
   standAt pos'
   holding [v,ov,iv] (setItem ov iv v)
   release [v,ov,iv] [])) (hs:swapsWithSole [.Subscript o iter pos'] e pos.line X.env=pure false) (hw:swappedStores [.Subscript o iter pos'] e X.env=pure none) (h1:(assignEach [.Subscript o iter pos'] X.env).map (·.2)=[assign (.Subscript o iter pos') X.env]) :
 PS X (.Assign [.Subscript o iter pos'] e pos) (Fy W (VL fo fi fe)):=by
 refine PS.of (XQ he (XW ho hi Q6 hsub) hs hw h1) λD σ H ⟨F,ρ,μ,h,S,ee,G⟩=>⟨F,ρ,μ,h,S,ee,(GS.bind (rep:=A0 W) ee G).imp ?_⟩;rintro x H1 ⟨F1,ρ1,r1,h1,n1,S1,q1,G1⟩;refine⟨F1,ρ1,μ,h1,S1,ee.nxt n1,(GS.bind (rep:=A0 W) (ee.nxt n1) G1).imp ?_⟩;rintro ov H2 ⟨F2,ρ2,r2,h2,n2,S2,q2,G2⟩;refine⟨F2,ρ2,μ,h2,S2,(ee.nxt n1).nxt n2,(GS.bind (rep:=A0 W) ((ee.nxt n1).nxt n2) G2).imp ?_⟩;rintro iv H3 ⟨F3,ρ3,r3,h3,n3,S3,q3,G3⟩;split at G3
 ·rename_i m n k hk;split at G3
  ·rename_i l hl;obtain⟨p,rfl,hp⟩:=q2.nxt n3;obtain⟨nf,vs,hH,r⟩:=S3.obj n p _ hp hl;cases hj:N9 l.length k with
   |none=>rw[hj]at G3;exact G3.elim
   |some j=>
    rw[hj]at G3;have rr:=(q1.nxt (r:=.v m) n2).nxt (r:=.v m) n3;refine⟨p,vs,k,j,rfl,MA hk q3,hH,by rw[←r.len];exact hj,?_⟩;exact G3 F3 ρ3 _ σ .refl (S3.wrote hp nf hH (r.set rr)) (((ee.nxt n1).nxt n2).nxt n3)
  exact G3.elim
 exact G3.elim
def any_map{α β:Type}{l:List α}{f:α->β}{p:β->Bool}{q:α->Bool}(h:∀a∈l,p (f a)=q a):(l.map f).any p=l.any q:=by
 induction l with
 |nil=>rfl
 |cons a l ih=>rw[aF,cT,cT,h a aG,ih λb hb=>h b (aC _ hb)]
theorem MG{κ:Type}{p:κ->Bool}:∀{kk:List κ}{vs:List V},kk.length=vs.length->((kk.zip vs).any λkv=>p kv.1)=kk.any p
 |[],_,_=>rfl
 |k::kk,[],h=>by simp at h
 |k::kk,v::vs,h=>by rw[bF,cT,cT,MG (by simpa using h)]
theorem JF{κ:Type}[DecidableEq κ]{k:κ}{v:V}:∀{kk:List κ}{vs:List V},kk.length=vs.length->(kk.zip vs).map (λkv=>if kv.1=k then(kv.1,v) else kv)=kk.zip ((kk.zip vs).map λkv=>if kv.1=k then v else kv.2)
 |[],_,_=>rfl
 |k'::kk,[],h=>by simp at h
 |k'::kk,u::vs,h=>by
  rw[bF,aF,aF,bF,JF (by simpa using h)];by_cases e:k'=k
  ·simp[e]
  simp[e]
def Na{κ:Type}[DecidableEq κ]{toM:κ->MV}{k:κ}{m mv:MV}{v:V}{kk:List κ}{ms:List MV}{vs:List V}(hs:∀k',look.seqK (toM k') m=decide (k'=k))(hk:m=toM k)(r:Ad W F ms vs)(hl:kk.length=vs.length)(rv:Ap W F mv v) :
 ∃(kk':List κ) (us:List V),FI (kk.zip vs) k v=kk'.zip us/\(Ee (kk.map toM) ms m mv).1=kk'.map toM/\Ad W F (Ee (kk.map toM) ms m mv).2 us/\kk'.length=us.length:=by
 have ea:((kk.map toM).any λk'=>look.seqK k' m)=kk.any λk'=>decide (k'=k):=any_map λa _=>hs a;have eb:((kk.zip vs).any λkv=>decide (kv.1=k))=kk.any λk'=>decide (k'=k):=MG (p:=λk'=>decide (k'=k)) hl;unfold FI Ee;rw[ea,eb];by_cases hc:(kk.any λk'=>decide (k'=k))=true
 ·rw[if_pos hc,if_pos hc];refine⟨kk,_,JF hl,rfl,?_,by simp[hl]⟩;clear ea eb hc;show Ad W F ((kk.map toM).zip ms |>.map λp=>if look.seqK p.1 m=true then mv else p.2) _
  induction kk generalizing ms vs with
  |nil=>simp;exact .nil
  |cons k' kk ih=>
   cases vs with
   |nil=>simp at hl
   |cons u vs=>
    cases ms with
    |nil=>have:=r.len;simp at this
    |cons q ms=>
     obtain⟨u',us',z,h1,h2⟩:=r.uncons;cases z;rw[aF,bF,aF,bF,aF];refine .cons ?_ (ih h2 (by simpa using hl));simp only[hs];by_cases e:k'=k
     ·simp[e];exact rv
     simp[e];exact h1
 rw[if_neg hc,if_neg hc];refine⟨kk++ [k],vs++ [v],?_,by simp[hk],r.app (.cons rv .nil),by simp[hl]⟩;rw[List.zip_append hl];rfl
def Bq.wroteD{ρ:List Addr}{h:MH}{n:Nat}{p:Addr}{u0 u1:HO}{m:MO}(S:Bq W F H ρ h)(hp:ρ[n]?=some p)(nf:F p=none)(hH:H p=some u0)(hm:∀x,u0≠ .own x)(l:Cn W F (upd H p u1) p m)(ht:¬JQ u0):Bq W F (upd H p u1) ρ (h.set n m):=by
 refine⟨λb u z=>?_,S.nd,by simp[S.len],λk q m' h1 h2=>?_,S.tb.upd λu e=>by rw[hH]at e;cases e;exact ht,S.tf⟩
 ·rw[Ab (λe=>by subst e;rw[nf]at z;cases z)];exact S.sub _ _ z
 rcases Mr h2 with⟨rfl,rfl⟩|⟨hk,h2⟩
 ·rw[hp]at h1;cases h1;exact l
 have hq:q≠p:=λz=>hk (Nodup.inj S.nd (by rw[←z];exact h1) hp);exact(S.obj k q m' h1 h2).apart hq (Am.refl _) (λb _=>.inl rfl) (λb o hb z=>by rw[Ab hb];exact z) λx z=>hm x (by rw[hH]at z;cases z;rfl)
def Xi{k:List Key}{l:List MV}{q:List Key}(hq:Be l=some q):look.seqK (.tup (k.map Cb)) (.tup l)=decide (k=q):=by simp only[look.seqK,Dv,hq]
theorem HZ:∀{l:List MV}{q:List Key},Be l=some q->l=q.map Cb
 |[],q,h=>by simp only[Be]at h;cases h;rfl
 |m::l,q,h=>by
  unfold Be at h;cases e1:Bu m with
  |none=>rw[e1]at h;cases h
  |some k=>
   cases e2:Be l with
   |none=>rw[e1,e2]at h;cases h
   |some ks=>
    rw[e1,e2]at h;cases h;rw[HZ e2];cases m<;>simp only[Bu]at e1<;>first|(cases e1;done)|(cases e1;rfl)
def RX(h:Bu m=some q):m=Cb q:=by
 cases m<;>simp only[Bu]at h<;>first|(cases h;done)|(cases h;rfl)
def Xj:look.seqK (Cb k) (Cb q)=decide (k=q):=by
 unfold look.seqK;cases k<;>cases q<;>simp[Cb,Bu]
def Xq{pos':Pos}(hu:X.A.units+1<cLine)(ho:PE X o (tM W fo))(hi:PE X iter (tM W fi))(he:PE X e (tM W fe))(hs:swapsWith e (some (.Subscript o iter pos')) pos.line X.env=pure false) :
 PS X (.Assign [.Subscript o iter pos'] e pos) (Fy W (VN fo fi fe)):=by
 refine PS.of (Uv hu ho hi he hs) λD σ H ⟨F,ρ,μ,h,S,ee,G⟩=>⟨F,ρ,μ,h,S,ee,(GS.bind (rep:=A0 W) ee G).imp ?_⟩;rintro x H1 ⟨F1,ρ1,r1,h1,n1,S1,q1,G1⟩;refine⟨F1,ρ1,μ,h1,S1,ee.nxt n1,(GS.bind (rep:=A0 W) (ee.nxt n1) G1).imp ?_⟩;rintro ov H2 ⟨F2,ρ2,r2,h2,n2,S2,q2,G2⟩;refine⟨F2,ρ2,μ,h2,S2,(ee.nxt n1).nxt n2,(GS.bind (rep:=A0 W) ((ee.nxt n1).nxt n2) G2).imp ?_⟩;rintro iv H3 ⟨F3,ρ3,r3,h3,n3,S3,q3,G3⟩;split at G3
 ·rename_i m n k;split at G3
  ·rename_i t ks ms hd;split at G3
   ·rename_i hc;obtain⟨hdk,hln⟩:=hc;obtain⟨p,rfl,hp⟩:=q2.nxt n3;obtain⟨nf,vs,r,w⟩:=S3.obj n p _ hp hd;have rr:Ap W F3 m x:=(q1.nxt (r:=.v m) n2).nxt (r:=.v m) n3;have rk:Ap W F3 k iv:=q3;rcases w with⟨kk,rfl,rfl,hH,hl⟩|⟨kk,rfl,rfl,hH,hl⟩
    ·cases k<;>simp only[FN]at hdk<;>first|(exact absurd hdk aB)|skip
     rename_i kl;obtain⟨q,hq⟩:=bU.mp hdk;obtain⟨kk',us,e1,e2,e3,e4⟩:=Na (toM:=λk:List Key=>MV.tup (k.map Cb)) (k:=q) (m:=.tup kl) (mv:=m) (λk'=>Xi hq) (by rw[HZ hq]) r hl rr;unfold Ap at rk;obtain⟨bp,ws,rfl,hb,rb⟩:=rk;refine⟨p,_,rfl,.inr ⟨_,q,bp,hH,rfl,?_,?_,rfl⟩,?_⟩
     ·rw[←DD hq rb];exact S3.sub _ _ hb
     ·rw[iA,hl,iO,←r.len];exact hln
     refine G3 F3 ρ3 _ σ .refl (S3.wroteD hp nf hH (λx z=>by cases z) ⟨nf,us,e3,.inl ⟨kk',rfl,e2,?_,e4⟩⟩ (λz=>z)) (((ee.nxt n1).nxt n2).nxt n3);rw[Ac,e1]
    obtain⟨q,hq⟩:=bU.mp (show(Bu k).isSome=true by cases k<;>exact hdk);obtain rfl:=RX hq;obtain⟨kk',us,e1,e2,e3,e4⟩:=Na (toM:=Cb) (k:=q) (m:=Cb q) (mv:=m) (λk'=>Xj) rfl r hl rr;refine⟨p,_,rfl,.inl ⟨_,q,hH,KA hq rk,?_,rfl⟩,?_⟩
    ·rw[iA,hl,iO,←r.len];exact hln
    refine G3 F3 ρ3 _ σ .refl (S3.wroteD hp nf hH (λx z=>by cases z) ⟨nf,us,e3,.inr ⟨kk',rfl,e2,?_,e4⟩⟩ (λz=>z)) (((ee.nxt n1).nxt n2).nxt n3);rw[Ac,e1]
   exact G3.elim
  exact G3.elim
 exact G3.elim
theorem Nc{f:Nat}(rv:Ap W F m v):∀{ns:List Nat}{ms:List MV}{vs:List V},Ad W F ms vs->ns.length=vs.length->∃us,Dg (W.nm f) v ((ns.map W.nm).zip vs)=(((C0 f m ns ms).1).map W.nm).zip us/\Ad W F (C0 f m ns ms).2 us/\(C0 f m ns ms).1.length=us.length
 |[],ms,vs,r,hl=>by
  obtain rfl:vs=[]:=cH.mp (by simpa using hl.symm);have:=r.len;obtain rfl:ms=[]:=cH.mp (by simpa using this);exact⟨[v],rfl,.cons rv .nil,rfl⟩
 |n::ns,ms,vs,r,hl=>by
  cases vs with
  |nil=>simp at hl
  |cons u vs=>
   cases ms with
   |nil=>have:=r.len;simp at this
   |cons q ms=>
    obtain⟨u',us',z,h1,h2⟩:=r.uncons;cases z;rw[aF,bF];unfold Dg C0;by_cases e:n=f
    ·rw[if_pos (by rw[e]),if_pos e];exact⟨v::vs,rfl,.cons rv h2,by simpa using hl⟩
    rw[if_neg (λz=>e (W.inj _ _ z)),if_neg e];obtain⟨us,e1,e2,e3⟩:=Nc rv h2 (by simpa using hl);exact⟨u::us,by rw[e1];rfl,.cons h1 e2,by simpa using e3⟩
def Xp(hK:X.K=W.K)(kt:Kt cs W){f:Nat}{pos':Pos}(ho:PE X o (tM W fo))(he:PE X e (tM W fe))(hs:swapsWith e (some (.Attribute o (W.nm f) pos')) pos.line X.env=pure false):PS X (.Assign [.Attribute o (W.nm f) pos'] e pos) (Fy W (VM cs fo f fe)):=by
 refine PS.of (XO ho he hs) λD σ H ⟨F,ρ,μ,h,S,ee,G⟩=>⟨F,ρ,μ,h,S,ee,(GS.bind (rep:=A0 W) ee G).imp ?_⟩;rintro x H1 ⟨F1,ρ1,r1,h1,n1,S1,q1,G1⟩;refine⟨F1,ρ1,μ,h1,S1,ee.nxt n1,(GS.bind (rep:=A0 W) (ee.nxt n1) G1).imp ?_⟩;rintro ov H2 ⟨F2,ρ2,r2,h2,n2,S2,q2,G2⟩;split at G2
 ·rename_i m n;split at G2
  ·rename_i c' ns ms hd;cases hi:cs[c']? with
   |none=>rw[hi]at G2;exact G2.elim
   |some i=>
    rw[hi]at G2;by_cases hc:i.exc=false/\f∈i.flds/\ns.length<1000
    ·have G2:GS W D F2 ρ2 (if i.exc=false/\f∈i.flds/\ns.length<1000 then some (.nx μ,h2.set n (.ins c' (C0 f m ns ms).1 (C0 f m ns ms).2)) else none):=G2;rw[if_pos hc]at G2;obtain⟨p,rfl,hp⟩:=q2;obtain⟨nf,dx,vs,hH,hD,nd,hl,r⟩:=S2.obj n p _ hp hd;have rr:Ap W F2 m x:=q1.nxt (r:=.v m) n2;obtain⟨us,e1,e2,e3⟩:=Nc (f:=f) rr r hl;have hdp:dx≠p:=HR hD hH (by intro z;cases z);refine⟨p,W.ca c',dx,_,rfl,hH,by rw[hK];exact(kt.kc c' i hi hc.1).1,by rw[hK];exact kt.kn c' i f hi hc.2.1 hc.1,?_,?_⟩
     ·rw[iA,aI,hl,iO,←hl];exact hc.2.2
     refine G2 F2 ρ2 _ σ .refl (S2.wroteD hp nf hH (λx z=>by cases z) ⟨nf,dx,us,by rw[Ac,e1],by rw[Ab hdp];exact hD,nd,e3,e2⟩ (λz=>z)) ((ee.nxt n1).nxt n2)
    have G2:GS W D F2 ρ2 (if i.exc=false/\f∈i.flds/\ns.length<1000 then some (.nx μ,h2.set n (.ins c' (C0 f m ns ms).1 (C0 f m ns ms).2)) else none):=G2;rw[if_neg hc]at G2;exact G2.elim
  exact G2.elim
 exact G2.elim
end
section
variable {X:Cx}{W:Wd}{σ:St}{H F:Hp}{D:PL}{st:Stmt}
def fm(hp:PassesOwn (model X.prog X.w) X.A X.env X.xe)(hc:X.calm=true)(hi:PI X tg iter (Qt W fw))(hg:PG X tg (WR W t))(hb:Hj X body (Fy W sb))(hs:∀x,foldedSetIterable iter X.env x=pure x):PS X (.For tg iter body [] pos) (Fy W (ar t fw sb)):=by
 refine PS.of (XN hp hc hi hg hb hs) λD σ H ⟨F,ρ,μ,h,S,ee,G⟩=>⟨F,ρ,μ,h,S,ee,(GS.bind (rep:=Ch W) ee G).imp ?_⟩;rintro J H1 ⟨F1,ρ1,w,h1,n1,S1,yl,G1⟩;refine⟨λi m σ' H'=>A3 (m=w.ms.length-i) (i<=w.ms.length) (E4 λF2 ρ2 μ2 h2=>A4 (DO F1 ρ1 F2 ρ2) (Bq W F2 H' ρ2 h2) (BS W F2 ρ2 μ2 σ') (GS W D F2 ρ2 (AJ w.src w.ms t sb (w.ms.drop i) μ2 h2))),⟨_,rfl,cS _,F1,ρ1,μ,h1,.refl,S1,ee.nxt n1,G1⟩,?_⟩;rintro i m σ' H' ⟨rfl,hi,F2,ρ2,μ2,h2,n2,S2,e2,G2⟩;by_cases hlt:i<w.ms.length
 ·have ed:=gZ hlt;rw[ed]at G2;unfold AJ at G2;by_cases hsrc:Bj w.src w.ms h2=true
  ·rw[if_pos hsrc]at G2;split at G2
   ·rename_i μ3 hb3;obtain⟨y1,_⟩:=yl i F2 ρ2 H' h2 n2 S2 (D7 hsrc);obtain⟨go,y2⟩:=y1 w.ms[i] (by simp[hlt]);refine .inr ⟨go,λσ'' H''=>E4 λF2 ρ2 μ2 h2=>A4 (DO F1 ρ1 F2 ρ2) (Bq W F2 H'' ρ2 h2) (BS W F2 ρ2 μ2 σ'') (GS W D F2 ρ2 (AJ w.src w.ms t sb (w.ms.drop (i+1)) μ2 h2)),λσ'' H'' hN=>⟨w.ms.length-(i+1),by lia,rfl,hlt,hN⟩,λx H3 hy=>?_⟩;obtain⟨F3,s3,S3,r3⟩:=y2 x H3 hy;have n3:DO F2 ρ2 F3 ρ2:=⟨s3,cA _⟩;refine⟨F3,ρ2,μ2,h2,w.ms[i],μ3,S3,e2.nxt n3,r3,hb3,λσ3 e3=>⟨F3,ρ2,μ3,h2,S3,e3,?_⟩⟩;have G3:=GS.nxt n3 G2
    match hx:sb μ3 h2,G3 with
    |none,G3=>exact G3
    |some (.nx μ4,h4),G3=>exact λF4 ρ4 H4 σ4 n4 S4 e4=>⟨F4,ρ4,μ4,h4,(n2.trans n3).trans n4,S4,e4,GS.nxt n4 G3⟩
    |some (.rt r,h4),G3=>exact G3
   exact G2.elim
  rw[if_neg hsrc]at G2;exact G2.elim
 have ei:i=w.ms.length:=by lia
 subst ei;rw[List.drop_length]at G2;unfold AJ at G2;by_cases hsrc:Bj w.src w.ms h2=true
 ·rw[if_pos hsrc]at G2;obtain⟨_,y2⟩:=yl w.ms.length F2 ρ2 H' h2 n2 S2 (D7 hsrc);exact .inl ⟨y2 rfl,G2 F2 ρ2 H' σ' .refl S2 e2⟩
 rw[if_neg hsrc]at G2;exact G2.elim
def oa{n:Nat}(hp:PassesOwn (model X.prog X.w) X.A X.env X.xe)(hc:PT X c (ES W ta))(hb:Hj X body (Fy W sb)):PS X (.While c body [] pos) (Fy W (Cv ta sb n)):=by
 refine PS.of (QJ hp hc hb) ?_;rintro D σ H ⟨F,ρ,μ,h,S,ee,G⟩;refine⟨λm σ' H'=>E4 λF2 ρ2 μ2 h2=>A3 (Bq W F2 H' ρ2 h2) (BS W F2 ρ2 μ2 σ') (GS W D F2 ρ2 (Cv ta sb m μ2 h2)),⟨n,F,ρ,μ,h,S,ee,G⟩,?_⟩;rintro m σ' H' ⟨F2,ρ2,μ2,h2,S2,e2,G2⟩;cases m with
 |zero=>exact G2.elim
 |succ m=>
  refine⟨F2,ρ2,μ2,h2,S2,e2,(GS.bind (rep:=Zh) e2 G2).imp ?_⟩;rintro k H3 ⟨F3,ρ3,k',h3,n3,S3,rfl,G3⟩;by_cases hk:k'=true
  ·rw[if_pos hk]at G3 ⊢;refine⟨λσ'' H''=>E4 λF2 ρ2 μ2 h2=>A3 (Bq W F2 H'' ρ2 h2) (BS W F2 ρ2 μ2 σ'') (GS W D F2 ρ2 (Cv ta sb m μ2 h2)),λσ'' H'' hN=>⟨m,eC _,hN⟩,F3,ρ3,μ2,h3,S3,e2.nxt n3,?_⟩
   match hx:sb μ2 h3,G3 with
   |none,G3=>exact G3
   |some (.nx μ4,h4),G3=>exact λF4 ρ4 H4 σ4 n4 S4 e4=>⟨F4,ρ4,μ4,h4,S4,e4,GS.nxt n4 G3⟩
   |some (.rt r,h4),G3=>exact G3
  rw[if_neg hk]at G3 ⊢;exact G3 F3 ρ3 H3 σ' .refl S3 (e2.nxt n3)
def gb:PS X st (Fy W TB):=λpins s σ H D I ⟨_,_,_,_,_,_,G⟩=>G.elim
def XC{st:List Stmt}:Hj X st (Fy W TB):=λpins s σ H D I ⟨_,_,_,_,_,_,G⟩=>G.elim
end
section
def Mu(n:∀c o,C.lookup c=some o->F c=some (AO c o)):Lq F (del F C):=λb u e hu=>By n hu e
theorem Cn.del{a:Addr}{m:MO}(n:∀c o,C.lookup c=some o->F c=some (AO c o))(s:Am F H)(l:Cn W F H a m):Cn W (del F C) (del H C) a m:=by
 have nh:∀c o,C.lookup c=some o->H c=some (AO c o):=λc o e=>s _ _ (n c o e);have dn:∀{b:Addr},F b=none->L2.del F C b=none:=λ{b} e=>by
  cases q:C.lookup b with
  |none=>rw[AZ q];exact e
  |some o=>exact CW q
 cases m with
 |lst l'=>obtain⟨n1,vs,h,r⟩:=l;exact⟨dn n1,vs,By nh (λo z=>by cases z) h,r.sameP (Mu n)⟩
 |dic t ks ms=>
  obtain⟨n1,vs,r,q⟩:=l;rcases q with⟨kk,e0,e1,e2,e3⟩|⟨kk,e0,e1,e2,e3⟩
  ·exact⟨dn n1,vs,r.sameP (Mu n),.inl ⟨kk,e0,e1,By nh (λo z=>by cases z) e2,e3⟩⟩
  exact⟨dn n1,vs,r.sameP (Mu n),.inr ⟨kk,e0,e1,By nh (λo z=>by cases z) e2,e3⟩⟩
 |ins c ns ms=>obtain⟨n1,dx,vs,h1,h2,n2,h3,r⟩:=l;exact⟨dn n1,dx,vs,By nh (λo z=>by cases z) h1,By nh (λo z=>by cases z) h2,dn n2,h3,r.sameP (Mu n)⟩
 |gone m=>
  obtain⟨r,o,h,hn⟩:=l;exact⟨r.sameP (Mu n),o,By n hn h,hn⟩
theorem Bq.del(S:Bq W F H ρ h)(n:∀c o,C.lookup c=some o->F c=some (AO c o))(nc:∀c o,C.lookup c=some o->∃v,o.data=.cell v):Bq W (del F C) (del H C) ρ h:=by
 have nh:∀c o,C.lookup c=some o->H c=some (AO c o):=λc o e=>S.sub _ _ (n c o e);refine⟨λb u e=>?_,S.nd,S.len,λk a m h1 h2=>(S.obj k a m h1 h2).del n S.sub,λt ht=>?_,λt ht=>?_⟩
 ·obtain⟨e1,e2⟩:=S8 e;rw[AZ e2];exact S.sub _ _ e1
 ·obtain⟨ps,h1,h2,h3⟩:=S.tb t ht;refine⟨ps,By nh (λo z=>by cases z) h1,h2,h3.imp id λ⟨c',oc,vs,t,a,b,c,d⟩=>⟨c',oc,vs,t,a,?_,c,d⟩⟩;cases q:C.lookup c' with
  |none=>rw[AZ q];exact b
  |some o=>
   exfalso
   have e1:=nh c' o q;rw[b]at e1;cases e1;obtain⟨v,hv⟩:=nc c' _ q;rw[c]at hv;cases hv
 cases q:C.lookup t.1 with
 |none=>rw[AZ q];exact S.tf t ht
 |some o=>exact CW q
def A0.del(n:∀c o,C.lookup c=some o->F c=some (AO c o)):∀{r:R}{v:V},IS r=true->A0 W F ρ r v->A0 W (del F C) ρ r v
 |.v m,_,_,h=>Ap.sameP (Mu n) h
 |.r k,_,_,h=>h
 |.l _ _,_,z,_=>absurd z aB
theorem Az.del(n:∀c o,C.lookup c=some o->F c=some (AO c o)):∀{rs:List R}{vs:List V},rs.all IS=true->Az W F ρ rs vs->Az W (del F C) ρ rs vs
 |[],_,_,h=>by cases h;exact .nil
 |r::rs,_,z,h=>by
  have z:IS r=true/\rs.all IS=true:=by simpa using z
  cases h with
  |cons q t=>exact .cons (A0.del n z.1 q) (Az.del n z.2 t)
theorem QD:∀{ms:List MV}{vs:List V},Ad W F ms vs->Az W F ρ (ms.map .v) vs
 |[],vs,h=>by rw[Ad.nil_iff h];exact .nil
 |m::ms,vs,h=>by
  obtain⟨v,r,rfl,h1,h2⟩:=h.uncons;exact .cons h1 (QD h2)
theorem DZ{α β:Type}{R:α->β->Prop}:∀{l l2:List α}{m m2:List β},Paired R l m->Paired R l2 m2->Paired R (l++l2) (m++m2)
 |[],_,_,_,h,h2=>by cases h;exact h2
 |_::_,_,_,_,h,h2=>by
  cases h with
  |cons q t=>exact .cons q (DZ t h2)
def CM{α β:Type}{R:α->β->Prop}{l:List α}{l':List β}(h:Paired R l l'):l.length=l'.length:=by
 induction h with
 |nil=>rfl
 |cons _ _ ih=>simp[ih]
def C2.put(s:Am F H)(n:∀c o,C.lookup c=some o->H c=none):C2 F H (put F C) (put H C):=by
 have nf:∀c o,C.lookup c=some o->F c=none:=λc o e=>s.free (n c o e);refine⟨λb u e=>CL nf e,λb u e=>CL n e,λb u e=>?_,λb u e _ f=>?_⟩
 ·cases q:C.lookup b with
  |none=>rw[AW q]at e ⊢; exact s _ _ e
  |some o=>rw[DW q]at e ⊢; exact e
 cases q:C.lookup b with
 |none=>rw[AW q];exact f
 |some o=>rw[n b o q]at e;cases e
def pF(r:Az W F ρ rs vs):BS W F ρ (rs.map some++List.replicate (N.length-rs.length) none) (L2.B4 N vs):=by
 have l:=CM r;refine⟨by simp[L2.B4,l],λi q h=>?_⟩;unfold L2.B4;by_cases hi:i<rs.length
 ·rw[aL (by simpa using hi),aJ]at h;cases hq:rs[i]? with
  |none=>rw[hq]at h;simp at h
  |some q'=>
   rw[hq]at h;cases h;have:∀{rs:List R}{vs:List V}{i:Nat}{q:R},Az W F ρ rs vs->rs[i]?=some q->∃v,vs[i]?=some v/\A0 W F ρ q v:=by
     intro rs
     induction rs with
     |nil=>intro vs i q _ e;simp at e
     |cons x rs ih=>
      intro vs i q r e;cases r with
      |cons q0 t=>
       cases i with
       |zero=>simp at e;subst e;exact⟨_,rfl,q0⟩
       |succ i=>simpa using ih t (i:=i) (by simpa using e)
   obtain⟨v,hv,rv⟩:=this r hq;exact⟨v,by rw[aL (by simp;lia),aJ,hv];rfl,rv⟩
 rw[aS (by simpa using hi),cG]at h;split at h<;>cases h
def Tq(P:Program)(w:World)(K:PySem.W.Frag)(mg:Str->Option Value)(base:Heap)(W:Wd)(Φ:Fs)(j:Nat):Prop:=∀(F:Hp) (k:Nat) (vs:List V) (v:V),W.lamR F k vs v->∃(l:Ts) (g:Ef),ZI l/\
 (∀rs h,Φ k rs h=.no\/(rs.length=l.xs.length+l.ps.length/\Φ k rs h=g (rs.map some++List.replicate ((l.xs++l.ps).length-rs.length) none) h))/\
 (∀(f c':Addr) (cl:List (Str×Addr)) (A:Around) (outer:List Env) (s:Shared) (H:Hp),Hc (l.xs++l.ps) l.xs l.ps l.scope cl->Bi j (A.deeper (PySem.W.envX l.qual l.scope s.heap.objs.size f (.ref c') cl))->PE (ZX P w K mg base (l.xs++l.ps) l.qual l.scope f (.ref c') cl A outer s H) l.body (tM W g))/\
 E7 λf c' oc pm ctv cl C=>A3 (v=.ref f) (PH l oc cl C vs) (JB l F f c' oc pm ctv cl C)
def X8{i j:Nat}{x:Str}(hN:X.N[i]?=some x)(hv:W5 X.env.scope x)(hd:(x ==("__debug__" :Str))=false)(hcd:(x ==("__classdict__" :Str))=false)(hr:Bi (j+1) X.A)(hL:Tq X.prog X.w X.K X.mg X.base W Φ j)(ha:PA X (e::es) (Hk W fs))(he:starEach (e::es) X.env=(false,eval e X.env)::starEach es X.env)(hpl:(backTo pos (starEach es X.env)).any (·.1)=false) :
 PE X (.Call (.Name x p) (e::es) [] pos) (tM W (SQ Φ i fs)):=by
 intro pins s σ H Q I ⟨F,ρ,μ,h,S,ee,G⟩;unfold SQ at G;split at G
 ·rename_i k ms hm;obtain⟨v,hσ,vs,lr,rp⟩:=ee.at_ i _ hm;obtain⟨l,g,hB,hΦ,hbd,f,c',oc,pm,ctv,cl,C,rfl,kk,lh⟩:=hL F k vs v lr;refine UF (l:=l) hN hv hd hcd hr hB hbd ha he hpl pins s σ H Q I ⟨f,c',oc,pm,ctv,cl,C,vs,hσ,kk,F,ρ,μ,h,S,ee,(Ai.bind (rep:=Az W) G).imp ?_⟩;rintro us H1 ⟨F1,ρ1,rs,h1,n1,S1,q1,G1⟩;by_cases hnl:rs.all IS=true
  ·rw[if_pos hnl]at G1;rcases hΦ (ms.map .v++rs) h1 with z|⟨hlen,z⟩
   ·rw[z]at G1;exact G1.elim
   rw[z]at G1;have lh1:=lh.same n1.s;have l1:=CM q1;have l2:=rp.len;have l3:=kk.len;rw[aM,aI]at hlen;refine⟨lh1.same S1.sub,by lia,del F1 C,ρ1,_,h1,S1.del lh1.cs kk.all,pF (N:=l.xs++l.ps) (DZ (QD ((rp.same n1.s).sameP (Mu lh1.cs))) (Az.del lh1.cs hnl q1)),?_⟩;cases hg:g ((ms.map R.v++rs).map some++List.replicate ((l.xs++l.ps).length-(ms.map R.v++rs).length) none) h1 with
   |no=>rw[hg]at G1;exact G1.elim
   |ok r h'=>
    rw[hg]at G1;intro F' ρ' H' v n' S' rv hno;have hnf:∀c o,C.lookup c=some o->F' c=none:=λc o e=>S'.sub.free (hno c o e);have nx:DO F1 ρ1 (put F' C) ρ':=⟨λb u e=>by
      cases q:C.lookup b with
      |none=>rw[AW q];exact n'.s _ _ (by rw[AZ q];exact e)
      |some o=>rw[lh1.cs b o q]at e;cases e;exact DW q,n'.p⟩
    have gr:=C2.put S'.sub hno;cases r with
    |l _ _=>exact G1.elim
    |v m=>exact G1 _ ρ' _ v nx (S'.grow gr) (A0.nxt gr.nxt rv)
    |r m=>exact G1 _ ρ' _ v nx (S'.grow gr) (A0.nxt gr.nxt rv)
  rw[if_neg hnl]at G1;exact G1.elim
 exact G.elim
def Qu(X:Cx)(W:Wd)(params:Arguments)(body:Expr)(scope:Scope)(lpos:Pos)(P:Addr)(fs:En->MH->AB (List R)):TA:=λσ H Q=>ZC W σ H λF ρ μ h=>GA W F ρ (fs μ h) λvs H1=>Qv X params body scope lpos P σ H1 λv H2=>Q (vs++ [v]) H2
def X2(hp:PE X (.Lambda params body scope lpos) (Qv X params body scope lpos P)):PA X [.Lambda params body scope lpos] (Qu X W params body scope lpos P λ_ h=>.ok [] h):=
 PA.of (ED hp IM rfl) λσ H Q ⟨F,ρ,μ,h,S,ee,G⟩=>(Ai.ret (rep:=Az W) G S .nil:Qv X params body scope lpos P σ H λv H2=>Q ([]++ [v]) H2)
def X3(he:PE X e (tM W fe))(hs:PA X es (Qu X W params body scope lpos P fs))(hst:starEach (e::es) X.env=(false,eval e X.env)::starEach es X.env):PA X (e::es) (Qu X W params body scope lpos P λμ h=>(fe μ h).bind λx h1=>(fs μ h1).bind λxs h2=>.ok (x::xs) h2):=by
 refine PA.of (ED he hs hst) λσ H Q ⟨F,ρ,μ,h,S,ee,G⟩=>⟨F,ρ,μ,h,S,ee,(Ai.bind (rep:=A0 W) G).imp ?_⟩;rintro x H1 ⟨F1,ρ1,r,h1,n1,S1,q1,G1⟩;refine⟨F1,ρ1,μ,h1,S1,ee.nxt n1,(Ai.bind (rep:=Az W) G1).imp ?_⟩;rintro xs H2 ⟨F2,ρ2,rs,h2,n2,S2,q2,G2⟩;exact G2.ret S2 (.cons (q1.nxt n2) q2)
def Tr(W:Wd)(k:Nat)(l:Ts):Prop:=∀(F:Hp) (f c':Addr) (oc:Obj) (pm ctv:Value) (cl:List (Str×Addr)) (C:List (Addr×Obj)) (vs:List V),PH l oc cl C vs->JB l F f c' oc pm ctv cl C->W.lamR F k vs (.ref f)
def Cn.made{F2 H':Hp}{a:Addr}{m:MO}{P:Addr}(sF:Am F F2)(sH:∀b u,H b=some u->¬JQ u->H' b=some u)(lv:∀b u,H b=some u->¬JQ u->F b=none->F2 b=none)(l:Cn W F H a m):Cn W F2 H' a m:=by
 cases m with
 |lst l'=>obtain⟨n,vs,h,r⟩:=l;exact⟨lv _ _ h id n,vs,sH _ _ h id,r.same sF⟩
 |dic t ks ms=>
  obtain⟨n,vs,r,q⟩:=l;rcases q with⟨kk,e0,e1,e2,e3⟩|⟨kk,e0,e1,e2,e3⟩
  ·exact⟨lv _ _ e2 id n,vs,r.same sF,.inl ⟨kk,e0,e1,sH _ _ e2 id,e3⟩⟩
  exact⟨lv _ _ e2 id n,vs,r.same sF,.inr ⟨kk,e0,e1,sH _ _ e2 id,e3⟩⟩
 |ins c ns ms=>obtain⟨n,dx,vs,h1,h2,n2,h3,r⟩:=l;exact⟨lv _ _ h1 id n,dx,vs,sH _ _ h1 id,sH _ _ h2 id,lv _ _ h2 id n2,h3,r.same sF⟩
 |gone m=>obtain⟨r,o,h,hn⟩:=l;exact⟨r.same sF,o,sF _ _ h,hn⟩
theorem Il(ee:BS W F ρ μ σ):∀{js:List Nat}{ms:List MV},H9 μ js=some ms->∃cvs,Ad W F ms cvs/\cvs.length=js.length/\∀i j:Nat,js[i]?=some j->∃v,cvs[i]?=some v/\σ[j]?=some (some v)
 |[],ms,h=>by cases h;exact⟨[],.nil,rfl,λi j e=>by simp at e⟩
 |j::js,ms,h=>by
  unfold H9 at h;split at h
  ·rename_i m hm;obtain⟨l,hl,rfl⟩:=aE.mp h;obtain⟨cvs,h1,h2,h3⟩:=Il ee hl;obtain⟨v,hv,rv⟩:=ee.at_ j _ hm;refine⟨v::cvs,.cons rv h1,by simp[h2],λi j' e=>?_⟩;cases i with
   |zero=>simp at e;subst e;exact⟨v,rfl,hv⟩
   |succ i=>simpa using h3 i j' (by simpa using e)
  cases h
def iZ{cl:Cq}{g:Addr->Obj}{c:Addr}{o:Obj}:(cl.map λp=>(p.2,g p.2)).lookup c=some o->(∃x,(x,c)∈cl)/\o=g c:=by
 induction cl with
 |nil=>intro h;simp at h
 |cons p cl ih=>
  intro h;rw[aF,bH]at h;split at h
  ·rename_i e;have e:=aP.mp e;cases h;exact⟨⟨p.1,by rw[e];exact aG⟩,by rw[e]⟩
  obtain⟨⟨x,hx⟩,h2⟩:=ih h;exact⟨⟨x,aC _ hx⟩,h2⟩
def Y6{cl:Cq}{g:Addr->Obj}{p:Str×Addr}(hp:p∈cl):(cl.map λp=>(p.2,g p.2)).lookup p.2=some (g p.2):=by
 induction cl with
 |nil=>simp at hp
 |cons q cl ih=>
  rw[aF,bH];by_cases e:p.2=q.2
  ·rw[←e];simp
  rw[show(p.2 ==q.2)=false from bG.mpr e];rcases aR.mp hp with z|z
  ·exact absurd (by rw[z]) e
  exact ih z
def XA{f k j:Nat}{x:Str}{js:List Nat}{xs lps:List Str}(Fn:PK X.prog X.w X.K X.mg X.base x j ps (JV W Φ f))(hr:Bi j X.A)(hg:Gl X x)(hdb:(x ==("__debug__" :Str))=false)(hK:∃e0 es0,args=e0::es0/\starEach (e0::es0) X.env=(false,eval e0 X.env)::starEach es0 X.env/\(backTo pos (starEach es0 X.env)).any (·.1)=false)
 (ha:PA X args (Qu X W params body scope lpos P fs))(hP:(P,X.env.qual++ "<lambda>",lpos)∈W.tl)(hone:∀t∈W.tl,t.1=P->t=(P,X.env.qual++ "<lambda>",lpos))(hfn:∀x,X.fn x=true)
 (hm:Tr W k ⟨X.env.qual++ "<lambda>",params,body,scope,xs,lps⟩)(hsc:∀cl:List (Str×Addr),(∀x,scope.names.lookup x=some .free->∃c,cl.lookup x=some c)->(∀x y c,cl.lookup x=some c->cl.lookup y=some c->x=y)->Hc (xs++lps) xs lps scope cl)
 (hjs:xs.length=js.length/\∀(i j:Nat) (y:Str),xs[i]?=some y->js[i]?=some j->X.N[j]?=some y/\X.env.scope.names.lookup y=some .cell) :
 PE X (.Call (.Name x p) args [] pos) (tM W (Wz Φ f fs k js)):=by
 obtain⟨fa,fdd,Ff,hmg,hk,hb⟩:=Fn.ex;obtain⟨e0,es0,rfl,he,hpl⟩:=hK;intro pins s σ H Q I ⟨F,ρ,μ,h,S,ee,G⟩;refine c8 (DC I hg hmg ?_ hdb);have G0:=Ai.bind (rep:=Az W) G;refine PySem.W.callWith_K (h₀:=X.base) I.ok.mod.kin hk (AR (ha pos pins s σ H (λws H2=>E9 λF2 ρ1 rs h1 ms vs g c' oc=>E2 λctv cl=>A9 (ws=vs++ [V.ref g]) (DO F ρ F2 ρ1) (Bq W F2 H2 ρ1 h1) (Az W F2 ρ1 rs vs) (H9 μ js=some ms) (GE W F2 ρ1 (noL (Φ f (rs++ [.l k ms]) h1)) Q) (F2 g=some (AO g (PySem.W.kla_obj "<lambda>" (X.env.qual++ "<lambda>") params body scope cl ((X.mg "__name__").getD .none) c' ctv))) (F2 c'=some (AO c' oc)) (A3 ((∃vs t,oc.data=.fields vs/\vs[1]?=some (.str (X.env.qual++ "<lambda>") t))) ((∀p∈cl,X.env.cells.lookup p.1=some p.2)) (∀x,scope.names.lookup x=some .free->∃c,cl.lookup x=some c))) I ⟨F,ρ,μ,h,S,ee,G0.imp ?_⟩) λus s1 ⟨ws,H1,I1,r,q⟩=>⟨I1.kIn,?_⟩) he hpl
 ·rintro vs H1 ⟨F1,ρ1,rs,h1,n1,S1,q1,G1⟩;cases hcap:H9 μ js with
  |none=>rw[hcap]at G1;exact G1.elim
  |some ms=>
   rw[hcap]at G1;obtain⟨ps,t1,t2⟩:=S1.tb _ hP;refine⟨ps,t1,t2,λH' g c' oc ctv cl L=>?_⟩;obtain⟨ps',t3,t4⟩:=L.tab;have hcP:c'≠P:=λz=>by have:=L.cd;rw[z,t3]at this;cases this
   have hgc:g≠c':=λz=>by
    have e1:=L.fn;rw[z,L.cd]at e1;cases e1;obtain⟨w,t,hw,_⟩:=L.code;cases hw
   have fc:∀u,F1 c'=some u->u=AO c' oc:=λu e=>by
    have:=L.old _ _ (S1.sub _ _ e) hcP;rw[L.cd]at this;cases this;rfl
   have sF:Am F1 (upd (upd F1 c' (AO c' oc)) g (AO g (PySem.W.kla_obj "<lambda>" (X.env.qual++ "<lambda>") params body scope cl ((X.mg "__name__").getD .none) c' ctv))):=λb u e=>by
    rw[Ab (λz=>by have:=S1.sub _ _ e;rw[z,L.new]at this;cases this)];by_cases hb:b=c'
    ·subst hb;rw[Ac,fc u e]
    rw[Ab hb];exact e
   have sH:∀b u,H1 b=some u->¬JQ u->H' b=some u:=λb u e n=>L.old b u e λz=>by rw[z,t1]at e;cases e;exact n trivial
   have nF:∀{b:Addr},b≠g->b≠c'->F1 b=none->(upd (upd F1 c' (AO c' oc)) g (AO g (PySem.W.kla_obj "<lambda>" (X.env.qual++ "<lambda>") params body scope cl ((X.mg "__name__").getD .none) c' ctv))) b=none:=λ{b} h1 h2 e=>by rw[Ab h1,Ab h2];exact e
   have ng:∀{b:Addr}{u:HO},H1 b=some u->b≠g:=λ{b u} e z=>by rw[z,L.new]at e;cases e
   refine⟨_,ρ1,rs,h1,ms,vs,g,c',oc,ctv,cl,rfl,n1.trans ⟨sF,cA _⟩,⟨λb u e=>?_,S1.nd,S1.len,λn a m e1 e2=>(S1.obj n a m e1 e2).made (P:=P) sF sH λb u e hn f=>nF (ng e) (λz=>?_) f,λt ht=>?_,λt ht=>?_⟩,q1.nxt ⟨sF,cA _⟩,rfl,G1.nxt ⟨sF,cA _⟩,Ac,by rw[Ab (bN hgc)];exact Ac,L.code,L.sub,L.has⟩
   ·by_cases hb:b=g
    ·subst hb;rw[Ac]at e;cases e;exact L.fn
    rw[Ab hb]at e;by_cases hb2:b=c'
    ·subst hb2;rw[Ac]at e;cases e;exact L.cd
    rw[Ab hb2]at e;exact L.old _ _ (S1.sub _ _ e) λz=>by rw[z,S1.tf _ hP]at e;cases e
   ·have:=sH b u e hn;rw[z,L.cd]at this;cases this;exact hn trivial
   ·by_cases hp:t.1=P
    ·rw[hone t ht hp];exact⟨ps',t3,t4⟩
    obtain⟨qs,a1,a2,a3⟩:=S1.tb t ht;refine⟨qs,L.old _ _ a1 hp,a2,a3.imp id λ⟨d,od,w,t,x1,x2,x3,x4⟩=>⟨d,od,w,t,x1,L.old _ _ x2 (λz=>by rw[z,t1]at x2;cases x2),x3,x4⟩⟩
   obtain⟨qs,a1,_⟩:=S1.tb t ht;refine nF (ng a1) (λz=>?_) (S1.tf t ht);by_cases hp:t.1=P
   ·exact hcP (by rw[←z];exact hp)
   have:=L.old _ _ a1 hp;rw[z,L.cd]at this;cases this
 obtain⟨F2,ρ1,rs,h1,ms,vs,g,c',oc,ctv,cl,rfl,nx,S2,q2,hcap,G2,hg',hc',hcode,ksub,khas⟩:=q;have cellA:∀p∈cl,∃o v,s1.heap.get? p.2=some o/\o.data=.cell v:=λp hp=>by
  obtain⟨v,o,ho,hd⟩:=I1.cell p.1 p.2 (ksub p hp);exact⟨o,v,ho,hd⟩
 have cinfo:∀c o,(cl.map λp=>(p.2,(s1.heap.get? p.2).getD default)).lookup c=some o->∃p∈cl,p.2=c/\s1.heap.get? c=some o/\∃v,o.data=.cell v:=λc o e=>by
  obtain⟨⟨x,hx⟩,rfl⟩:=iZ (g:=λa=>(s1.heap.get? a).getD default) e;obtain⟨o,v,ho,hd⟩:=cellA (x,c) hx;refine⟨(x,c),hx,rfl,?_⟩;rw[ho];exact⟨rfl,v,hd⟩
 have CS:Iy X H1 s1 (cl.map λp=>(p.2,(s1.heap.get? p.2).getD default)):=⟨λc o e=>by
  obtain⟨p,hp,rfl,ho,_⟩:=cinfo c o e;exact⟨I1.freeC p.1 p.2 (ksub p hp),ho⟩,λc o e=>by
  obtain⟨p,hp,rfl,ho,_⟩:=cinfo c o e;exact⟨I1.ok.cab p.1 p.2 (hfn _) (ksub p hp),I1.cne p.1 p.2 (ksub p hp)⟩,λc o e=>by
  obtain⟨p,hp,rfl,ho,hv⟩:=cinfo c o e;exact hv⟩
 generalize hC:(cl.map λp=>(p.2,(s1.heap.get? p.2).getD default))=C at CS cinfo;have look:∀p∈cl,∃o,C.lookup p.2=some o/\s1.heap.get? p.2=some o:=λp hp=>by
  obtain⟨o,v,ho,hd⟩:=cellA p hp;refine⟨o,?_,ho⟩;rw[←hC,Y6 (g:=λa=>(s1.heap.get? a).getD default) hp,ho];rfl
 obtain⟨cvs,rc,lc,ac⟩:=Il (ee.nxt nx) hcap;have gr:C2 F2 H1 (put F2 C) (put H1 C):=C2.put S2.sub λc o e=>(CS.at_ c o e).1;have sc:=hsc cl khas λx y c h1 h2=>I1.ok.inj x y c (ksub _ (PySem.mem_of_lookup h1)) (ksub _ (PySem.mem_of_lookup h2));have kk:PH ⟨X.env.qual++ "<lambda>",params,body,scope,xs,lps⟩ oc cl C cvs:=by
  refine⟨hcode,λx c e=>?_,sc,λi y v e1 e2=>?_,by rw[lc];exact hjs.1.symm,CS.cl⟩
  ·obtain⟨o,e1,e2⟩:=look _ (PySem.mem_of_lookup e);obtain⟨v,hv⟩:=CS.cl _ _ e1;exact⟨o,v,e1,hv⟩
  have hi:i<js.length:=by rw[←hjs.1];exact(a9.mp e1).1
  obtain⟨n1,n2⟩:=hjs.2 i js[i] y e1 (by simp[hi]);obtain⟨v',e3,e4⟩:=ac i js[i] (by simp[hi]);rw[show cvs[i]?=some v from e2]at e3;cases e3;obtain⟨m,_,hl⟩:=I1.loc;obtain⟨u,ru,lk⟩:=hl js[i] y v n1 e4 (.inr (.inl n2));obtain⟨c,e5⟩:=khas y (sc.cap y (aQ e1));have e6:=ksub _ (PySem.mem_of_lookup e5);obtain⟨o,e7,e8⟩:=look _ (PySem.mem_of_lookup e5);rcases lk with⟨z,_⟩|⟨_,c2,e9,o2,e10,e11⟩
  ·have z:X.env.scope.names.lookup y=some .local:=z;rw[n2]at z;cases z
  rw[show X.env.cells.lookup y=some c from e6]at e9;cases e9;rw[show s1.heap.get? c=some o from e8]at e10;cases e10;exact⟨c,u,o,e5,ru,e7,e11⟩
 have lh:JB ⟨X.env.qual++ "<lambda>",params,body,scope,xs,lps⟩ (put F2 C) g c' oc ((X.mg "__name__").getD .none) ctv cl C:=⟨gr.f _ _ hg',gr.f _ _ hc',λc o e=>DW e⟩;have back:∀{F':Hp}{ρ':List Addr},DO (put F2 C) ρ1 F' ρ'->(∀c o,C.lookup c=some o->F' c=some (AO c o))/\DO F2 ρ1 (del F' C) ρ':=λ{F' ρ'} n'=>by
  have nc:∀c o,C.lookup c=some o->F' c=some (AO c o):=λc o e=>n'.s _ _ (DW e);refine⟨nc,λb u e=>?_,n'.p⟩;cases q:C.lookup b with
  |none=>rw[AZ q];exact n'.s _ _ (by rw[AW q];exact e)
  |some o=>have:=S2.sub _ _ e;rw[(CS.at_ b o q).1]at this;cases this
 refine Ui Ff hr hb I1 CS r ⟨put F2 C,ρ1,h1,rs++ [.l k ms],S2.grow gr,DZ (Az.nxt gr.nxt q2) (.cons (show A0 W (put F2 C) ρ1 (.l k ms) (.ref g) from⟨cvs,hm _ _ _ _ _ _ _ _ _ kk lh,rc.same gr.f⟩) .nil),?_⟩;cases hΦ:Φ f (rs++ [.l k ms]) h1 with
 |no=>rw[hΦ]at G2;exact G2.elim
 |ok rr h'=>
  rw[hΦ]at G2;intro F' ρ' H' v n' S' rv _;obtain⟨nc,n2⟩:=back n';cases rr with
  |l _ _=>exact G2.elim
  |v m=>exact G2 (del F' C) ρ' (del H' C) v n2 (S'.del nc CS.cl) (A0.del nc rfl rv)
  |r m=>exact G2 (del F' C) ρ' (del H' C) v n2 (S'.del nc CS.cl) (A0.del nc rfl rv)
def C2.junk{p:Addr}{o:HO}(s:Am F H)(n:H p=none):C2 F H F (upd H p o):=⟨Am.refl _,.new n,λb u e=>by rw[Ab (Ao (s _ _ e) n)];exact s _ _ e,λ_ _ _ _ f=>f⟩
theorem Kb{n:Nat}:∀{l:List Nat},Ad W F (l.map λ(i:Nat)=>MV.int ((0:Int)+(i:Nat))) (l.map λ(i:Nat)=>V.int i)
 |[]=>.nil
 |i::l=>.cons (by unfold Ap;simp) (Kb (n:=n))
def X1{x y:Str}(hc:X.calm=true)(hx:x= "list")(hy:y= "range")(g1:Gl X x)(g2:Gl X y)(n1:X.mg x=none)(n2:X.mg y=none)(ha:PE X e (tM W fa))(he:starEach [e] X.env=(false,eval e X.env)::starEach [] X.env) :
 PE X (.Call (.Name x p) [.Call (.Name y p2) [e] [] pos2] [] pos) (tM W (Wx fa)):=by
 subst hx hy;refine PE.of (D9 (Jw hc) g1 n1 (by decide +kernel) (ED (D9 Ll g2 n2 PyProof.Rows.boot_range (ED ha IM he) (by decide) (by decide) he rfl) IM rfl) (by decide) (by decide) rfl rfl) λσ H Q ⟨F,ρ,μ,h,S,ee,G⟩=>⟨F,ρ,μ,h,S,ee,(Ai.bind (rep:=A0 W) G).imp ?_⟩;rintro v H1 ⟨F1,ρ1,r,h1,n1,S1,q1,G1⟩;cases hr:T5 r with
 |none=>rw[hr]at G1;exact G1.elim
 |some i=>
  rw[hr]at G1;by_cases hi:0<=i/\i<=1000
  ·have G1:Ai W (A0 W) F1 ρ1 (if 0<=i/\i<=1000 then .ok (.v (.lst (BH 0 i.toNat))) h1 else .no) Q:=G1;rw[if_pos hi]at G1;refine⟨i,by rw[MA hr q1],λq nq=>⟨q,i.toNat,rfl,by rw[Ac,show((i.toNat:Nat):Int)=i by lia],by lia,λl nl=>?_⟩⟩;have g1:C2 F1 H1 F1 (upd H1 q (.rng 0 i)):=.junk S1.sub nq;have g2:C2 F1 (upd H1 q (.rng 0 i)) (upd F1 l (.lst ((List.range i.toNat).map λ(i:Nat)=>V.int i))) (upd (upd H1 q (.rng 0 i)) l (.lst ((List.range i.toNat).map λ(i:Nat)=>V.int i))):=.new g1.sub nl;refine G1 _ ρ1 _ _ g2.nxt ((S1.grow g1).grow g2) ?_;show Ap W _ (.lst _) _;unfold Ap;exact⟨l,_,rfl,Ac,Kb (n:=0)⟩
  have G1:Ai W (A0 W) F1 ρ1 (if 0<=i/\i<=1000 then .ok (.v (.lst (BH 0 i.toNat))) h1 else .no) Q:=G1;rw[if_neg hi]at G1;exact G1.elim
end
structure Gt where
 cs:List Ci
 fns:List Str
 nm:Nat->Str
 glo:List (Str×MV)
 blt:List Str
 ini:Nat->Option Nat
 dfl:Nat->List MV
 cf:Nat->Nat->Option Nat
 lam:Nat->List Str×List Str
 lck:Nat->Expr->Scope->Bool
structure Ct where
 N:List Str
 sc:Scope
 fn:Bool
 lp:List Pos
noncomputable def kd(Γ:Ct)(x:Str):Option NameKind:=Γ.sc.names.lookup x
noncomputable def odd(x:Str):Bool:=x== "__debug__" ||x== "__classdict__" ||x== "__name__"
noncomputable def vis(Γ:Ct)(i:Nat)(x:Str):Bool:=decide (Γ.N[i]?=some x)&&(kd Γ x ==some .local||kd Γ x ==some .cell||kd Γ x ==some .free)&& !odd x
noncomputable def sto(Γ:Ct)(i:Nat)(x:Str):Bool:=decide (Γ.N[i]?=some x)&&(kd Γ x ==some .local||(kd Γ x ==some .cell&&Γ.fn))
noncomputable def gl(Γ:Ct)(x:Str):Bool:=kd Γ x ==some .globalImplicit&& !odd x
noncomputable def AS:Expr->Bool
 |.Starred _ _=>true
 |_=>false
noncomputable def DA:Expr->Bool
 |.Call (.Name _ _) [] [] _=>false
 |_=>true
noncomputable def Dp:Expr->Bool
 |.Set _ _ _=>false
 |_=>true
noncomputable def C8:Expr->Bool
 |.Slice _ _ _ _=>false
 |_=>true
noncomputable def Dr:Expr->Bool
 |.ListComp _ _ _ _=>false
 |.SetComp _ _ _ _=>false
 |.DictComp _ _ _ _ _=>false
 |_=>true
noncomputable def Gq(scope sc:Scope):Scope:={scope with names:=scope.names.map λ(n,k)=>if (k ==NameKind.free&&sc.kind== .function&&sc.names.lookup n ==some .cell) then(n,.cell) else(n,k)}
noncomputable def NC:MV->Const->Bool
 |.non,.none=>true
 |.bl b,.bool b'=>b ==b'
 |.int i,.int j=>i ==j
 |.str x,.str y=>x ==y
 |_,_=>false
noncomputable def Mw(scope:Scope)(Γ:Ct)(xs ys:List Str)(js:List Nat):Bool:=
 scope.kind== .function&&scope.names.all (λy=>y.2 != .cell)&&scope.names.all (λy=>y.2 != .local||scope.names.lookup y.1 ==some .local)
 && scope.names.all (λy=>y.2 != .free||Γ.sc.names.lookup y.1 ==some .cell||Γ.sc.names.lookup y.1 ==some .free)
 && decide (ys.length=js.length)&&(ys.zip js).all (λp=>decide (Γ.N[p.2]?=some p.1)&&scope.names.lookup p.1 ==some .free&&scope.names.contains (p.1,NameKind.free)&&(Γ.sc.names.lookup p.1 ==some .cell||Γ.sc.names.lookup p.1 ==some .free))
 && decide (xs++ys).Nodup
noncomputable def PU(f:Str->Pos->Bool)(e:Expr):Bool:=if h:e.ctorIdx=23 then Expr.Name.elim e h f else false
noncomputable def V1(f:Const->Bool)(e:Expr):Bool:=if h:e.ctorIdx=19 then Expr.Constant.elim e h (λc _ _=>f c) else false
noncomputable def Ou(f:List Expr->Nat->Pos->Bool)(e:Expr):Bool:=if h:e.ctorIdx=25 then Expr.Tuple.elim e h f else false
noncomputable def UU(f:List Expr->Bool)(e:Expr):Bool:=if h:e.ctorIdx=24 then Expr.List.elim e h (λl _=>f l) else false
noncomputable def Zl(f:List (Option Expr)->List Expr->Bool)(e:Expr):Bool:=if h:e.ctorIdx=6 then Expr.Dict.elim e h (λk v _=>f k v) else false
noncomputable def Te(f:Expr->Str->Pos->Bool)(e:Expr):Bool:=if h:e.ctorIdx=20 then Expr.Attribute.elim e h f else false
noncomputable def L6(f:Expr->Expr->Bool)(e:Expr):Bool:=if h:e.ctorIdx=21 then Expr.Subscript.elim e h (λx y _=>f x y) else false
noncomputable def TZ(f:Option Expr->Option Expr->Option Expr->Bool)(e:Expr):Bool:=if h:e.ctorIdx=26 then Expr.Slice.elim e h (λl h s _=>f l h s) else false
noncomputable def Z3(f:Expr->Operator->Expr->Bool)(e:Expr):Bool:=if h:e.ctorIdx=2 then Expr.BinOp.elim e h (λx o y _=>f x o y) else false
noncomputable def TF(f:UnaryOp->Expr->Bool)(e:Expr):Bool:=if h:e.ctorIdx=3 then Expr.UnaryOp.elim e h (λo x _=>f o x) else false
noncomputable def V3(f:Expr->List CmpOp->List Expr->Bool)(e:Expr):Bool:=if h:e.ctorIdx=15 then Expr.Compare.elim e h (λx o y _=>f x o y) else false
noncomputable def V8(f:BoolOp->List Expr->Bool)(e:Expr):Bool:=if h:e.ctorIdx=0 then Expr.BoolOp.elim e h (λo l _=>f o l) else false
noncomputable def YT(f:Expr->Expr->Expr->Bool)(e:Expr):Bool:=if h:e.ctorIdx=5 then Expr.IfExp.elim e h (λx y z _=>f x y z) else false
noncomputable def Vc(f:Expr->List Expr->List Keyword->Pos->Bool)(e:Expr):Bool:=if h:e.ctorIdx=16 then Expr.Call.elim e h f else false
noncomputable def Y9(f:Expr->List Comprehension->Scope->Bool)(e:Expr):Bool:=if h:e.ctorIdx=8 then Expr.ListComp.elim e h (λe g s _=>f e g s) else false
noncomputable def YB(f:Arguments->Expr->Scope->Pos->Bool)(e:Expr):Bool:=if h:e.ctorIdx=4 then Expr.Lambda.elim e h f else false
noncomputable def Gz{α:Type}:List α->Bool| []=>true|_=>false
noncomputable def FJ{α:Type}(f:α->Bool):List α->Bool| [x]=>f x|_=>false
noncomputable def Qn{α:Type}(f:α->α->Bool):List α->Bool| [x,y]=>f x y|_=>false
noncomputable def Pv{α:Type}(f:α->List α->Bool):List α->Bool|x::l=>f x l|_=>false
noncomputable def DM(f:Str->List Expr->Bool):Expr->Bool:=Vc λg l k _=>Gz k&&PU (λx _=>f x l) g
noncomputable def SV(f:Expr->Str->List Expr->Bool->Bool):Expr->Bool:=Vc λg l k p=>Gz k&&Te (λo x q=>f o x l (q.endLine ==p.line)) g
noncomputable def Zu(Γ:Ct):List Nat->List Expr->Bool
 |[],l=>Gz l
 |i::is,l=>Pv (λe es=>PU (λx _=>sto Γ i x) e&&Zu Γ is es) l
noncomputable def pX(Γ:Ct):MT->Expr->Bool
 |.nm i=>PU λx _=>sto Γ i x
 |.tup is=>Ou λes _ _=>Zu Γ is es
noncomputable def YZ(G:Gt)(x:Str)(c:Nat):Bool:=match G.cs[c]? with
 |some i=>i.nm ==x
 |none=>false
noncomputable def YY(G:Gt)(x:Str)(i:Int):Bool:=match G.glo.lookup x with
 |some (.int j)=>i ==j
 |_=>false
noncomputable def YW(G:Gt)(x:Str)(i:Str):Bool:=match G.glo.lookup x with
 |some (.str j)=>i ==j
 |_=>false
noncomputable def Wq(G:Gt)(x:Str):MV->Bool
 |.cls c=>YZ G x c
 |.int i=>YY G x i
 |.str i=>YW G x i
 |_=>false
noncomputable def Cu(p:Arguments)(ps:List Str):Bool:=match p with
 |⟨[],as,none,[],[],none,[]⟩=>decide (as.map (·.arg)=ps)
 |_=>false
noncomputable def BW(xs ps:List Str)(sc:Scope):Bool:=sc.kind== .function&& !sc.isCoroutine&& !sc.isGenerator&&decide (xs++ps).Nodup&&ps.all (λx=>sc.names.lookup x ==some .local)&&xs.all (λx=>sc.names.lookup x ==some .free)&&sc.names.all (λy=>y.2 != .cell)
noncomputable def Wj(G:Gt)(k:Nat)(js:List Nat)(Γ:Ct)(a:Arguments)(b:Expr)(sc:Scope)(p:Pos):Bool:=
 Cu a (G.lam k).2&&BW (G.lam k).1 (G.lam k).2 sc&&G.lck k b sc&&decide (p∈Γ.lp)&&Γ.fn&&decide ((G.lam k).1.length=js.length)&&((G.lam k).1.zip js).all (λq=>decide (Γ.N[q.2]?=some q.1)&&kd Γ q.1 ==some .cell)&&sc.names.all (λy=>y.2 != .free||kd Γ y.1 ==some .cell)
noncomputable def SI(G:Gt)(c:Nat)(f:Ci->Bool):Bool:=(G.cs[c]?).any f
noncomputable def pE:MV->MV->Bool
 |.non,.non=>true
 |.bl a,.bl b=>a ==b
 |.int a,.int b=>a ==b
 |_,_=>false
noncomputable def Vu:List MV->List MV->Bool
 |[],[]=>true
 |a::l,b::m=>pE a b&&Vu l m
 |_,_=>false
noncomputable def Qx(all ds:List MV):Bool:=Vu (all.drop (all.length-ds.length)) ds
section
variable (G:Gt)
noncomputable def Dd(Γ:Ct)(x y:Str):Bool:=x ==y&&gl Γ x&&decide (x∈G.blt)
mutual
noncomputable def BL:ME->Ct->Expr->Bool
 |.var i,Γ=>PU λx _=>vis Γ i x
 |.mov i,Γ=>PU λx _=>vis Γ i x
 |.con m,_=>V1 (NC m)
 |.glo x m,Γ=>PU λy _=>y ==x&&gl Γ y&&Wq G y m
 |.bty x k,Γ=>PU λy _=>Dd G Γ y x&&x ==Str.ofString k.nm&&(k== .int||k== .bl||k== .str||k== .tup||k== .lst||k== .dct)
 |.tup es,Γ=>Ou λl _ _=>CG es Γ l
 |.lst es,Γ=>UU (CG es Γ)
 |.lstL es,Γ=>UU (CG es Γ)
 |.dicL _,_=>Zl λk v=>Gz k&&Gz v
 |.fld e f,Γ=>Te λo x _=>x ==G.nm f&&BL e Γ o&&DA o
 |.idx a b,Γ=>L6 λx y=>BL a Γ x&&BL b Γ y&&C8 y
 |.sli a lo hi,Γ=>L6 λx y=>BL a Γ x&&TZ (λl h s=>jB lo Γ l&&jB hi Γ h&&s.isNone) y
 |.sliL a lo hi,Γ=>L6 λx y=>BL a Γ x&&TZ (λl h s=>jB lo Γ l&&jB hi Γ h&&s.isNone) y
 |.bin o a b,Γ=>Z3 λx p y=>p ==o.op&&BL a Γ x&&BL b Γ y
 |.una o a,Γ=>TF λp x=>p ==o.op&&BL a Γ x
 |.cmp o a b,Γ=>V3 λx p y=>decide (p=[o.op])&&BL a Γ x&&FJ (λy=>BL b Γ y&&Dp y) y
 |.cmp2 o o' a b c,Γ=>V3 λx p y=>decide (p=[o.op,o'.op])&&BL a Γ x&&Qn (λy z=>BL b Γ y&&BL c Γ z&&Dp z) y
 |.not a,Γ=>TF λp x=>p== .Not&&BL a Γ x
 |.and es,Γ=>V8 λp l=>p== .And&&CG es Γ l&& !l.isEmpty
 |.or es,Γ=>V8 λp l=>p== .Or&&CG es Γ l&& !l.isEmpty
 |.ife c a b,Γ=>YT λx y z=>BL c Γ x&&BL a Γ y&&BL b Γ z
 |.call f es,Γ=>DM λx l=>decide (G.fns[f]?=some x)&&gl Γ x&&CG es Γ l
 |.make c es ds,Γ=>DM λx l=>SI G c (λi=>i.nm ==x&& !i.exc&&(G.ini c).isSome)&&gl Γ x&&CG es Γ l&& !l.isEmpty&&Qx (G.dfl c) ds
 |.new0 c,Γ=>DM λx l=>SI G c (λi=>i.nm ==x&& !i.exc)&&gl Γ x&&Gz l
 |.meth m o es,Γ=>SV λx y l p=>y ==G.nm m&&BL o Γ x&&CG es Γ l&&DA x&&p&&decide (l.length<30)
 |.cfn c m es,Γ=>SV λo y l p=>y ==G.nm m&&PU (λx _=>SI G c (λi=>i.nm ==x)&&gl Γ x) o&&CG es Γ l&& !l.isEmpty&&p&&decide (l.length<30)
 |.bfn b es,Γ=>DM λx l=>Dd G Γ x b.nm&&CG es Γ l&& !l.isEmpty
 |.lenset e,Γ=>DM λx l=>Dd G Γ x "len" &&FJ (DM λy m=>Dd G Γ y "set" &&FJ (λz=>BL e Γ z&& !AS z) m) l
 |.bmt b o es,Γ=>SV λx y l p=>y ==b.nm&&BL o Γ x&&CG es Γ l&&DA x&&p&&decide (l.length<29)
 |.mmt b o es,Γ=>SV λx y l p=>y ==b.nm&&BL o Γ x&&CG es Γ l&&DA x&&p&&decide (l.length<29)
 |.lrng e,Γ=>DM λx l=>Dd G Γ x "list" &&FJ (DM λy m=>Dd G Γ y "range" &&FJ (λz=>BL e Γ z&& !AS z) m) l
 |.calL f es k js,Γ=>DM λx l=>decide (G.fns[f]?=some x)&&gl Γ x&&pY es k js Γ l
 |.calv i es,Γ=>DM λx l=>vis Γ i x&&CG es Γ l&& !l.isEmpty
 |.comp xs ys js tg it c e,Γ=>Y9 λelt gs scope=>FJ (λg=>g.is_async ==0&&Mw scope Γ xs ys js&&pZ it Γ g.target g.iter&&Dp g.iter&&pX ⟨xs++ys,Gq scope Γ.sc,false,[]⟩ tg g.target&&CG c ⟨xs++ys,Gq scope Γ.sc,false,[]⟩ g.ifs&&BL e ⟨xs++ys,Gq scope Γ.sc,false,[]⟩ elt) gs
noncomputable def CG:Em->Ct->List Expr->Bool
 |.nil,_=>Gz
 |.cons e r,Γ=>Pv λx l=>BL e Γ x&& !AS x&&CG r Γ l
noncomputable def pY:Em->Nat->List Nat->Ct->List Expr->Bool
 |.nil,k,js,Γ=>FJ (YB (Wj G k js Γ))
 |.cons e r,k,js,Γ=>Pv λx l=>BL e Γ x&& !AS x&&pY r k js Γ l
noncomputable def jB:aj->Ct->Option Expr->Bool
 |.no,_=>(·.isNone)
 |.ye e,Γ=>(·.any (BL e Γ))
noncomputable def pZ:MI->Ct->Expr->Expr->Bool
 |.of e,Γ,_=>BL e Γ
 |.rng1 a,Γ,_=>DM λf l=>Dd G Γ f "range" &&FJ (λx=>BL a Γ x&& !AS x) l
 |.rng2 a b,Γ,_=>DM λf l=>Dd G Γ f "range" &&Qn (λx y=>BL a Γ x&&BL b Γ y&& !AS x&& !AS y) l
 |.rng3 a b,Γ,_=>DM λf l=>Dd G Γ f "range" &&Pv (λx l=>Qn (λy z=>BL a Γ x&&BL b Γ y&&V1 (NC (.int 2)) z&& !AS x&& !AS y&& !AS z) l) l
 |.enu a,Γ,t=>DM λf l=>Dd G Γ f "enumerate" &&FJ (λx=>BL a Γ x&& !AS x) l&&Ou (λ_ _ _=>true) t
 |.zip a b,Γ,t=>DM λf l=>Dd G Γ f "zip" &&Qn (λx y=>BL a Γ x&&BL b Γ y&& !AS x&& !AS y) l&&Ou (λ_ _ _=>true) t
end
end
structure Cg(G:Gt)(W:Wd)(Φ:Fs)(k:Nat)(Γ:Ct)(X:Cx):Prop where
 hK:X.K=W.K
 nm:W.nm=G.nm
 kt:Kt G.cs W
 nb:∀x∈G.blt,X.mg x=none
 fns:∀(f:Nat) (x:Str),G.fns[f]?=some x->∃ps,PK X.prog X.w X.K X.mg X.base x k ps (JV W Φ f)
 cl:∀(c:Nat) (i:Ci),G.cs[c]?=some i->X.mg i.nm=some (.ref (W.ca c))
 mkk:∀(c:Nat) (i:Ci) (f:Nat) (ds:List MV),G.cs[c]?=some i->i.exc=false->G.ini c=some f->Qx (G.dfl c) ds=true->E5 λfi fd ps dvs dus=>A5 (Mk X.K (W.ca c) fi) (D6 X.prog X.w X.K X.mg X.base Ol k fi fd ps (JV W Φ f)) (BF X.K fd ps dus) (Al dvs dus) (∀F,Ad W F ds dvs)
 n0:∀(c:Nat) (i:Ci),G.cs[c]?=some i->i.exc=false->G.ini c=none->VI X.K X.mg i.nm (W.ca c)
 mt:∀m,ZF X W Φ G.cs k m
 cf:∀(c m f:Nat) (i:Ci),G.cs[c]?=some i->G.cf c m=some f->∃ps,qJ X.prog X.w X.K X.mg X.base i.nm (W.nm m) k ps (JV W Φ f)
 gI:∀(x:Str) (j:Int),G.glo.lookup x=some (.int j)->∃t,X.mg x=some (.int j t)
 gS:∀(x:Str) (j:Str),G.glo.lookup x=some (.str j)->∃t,X.mg x=some (.str j t)
 calm:X.calm=true
 room:Bi (k+1) X.A
 hN:X.N=Γ.N
 nd:Γ.N.Nodup
 sc:X.env.scope=Γ.sc
 fn:Γ.fn=true->∀x,X.fn x=true
 own:PassesOwn (model X.prog X.w) X.A X.env X.xe
 lamM:∀(k:Nat) (l:Ts),l.xs=(G.lam k).1->l.ps=(G.lam k).2->Cu l.params l.ps=true->BW l.xs l.ps l.scope=true->G.lck k l.body l.scope=true->Tr W k l
 lamO:Tq X.prog X.w X.K X.mg X.base W Φ k
 tab:∀p∈Γ.lp,E2 λc P=>A6 (X.env.code=.ref c) (PySem.W.CodeHd X.base c P) (X.base.BuiltinsAt X.mg P) (mainGlobals≠P) ((P,X.env.qual++ "<lambda>",p)∈W.tl) (∀t∈W.tl,t.1=P->t=(P,X.env.qual++ "<lambda>",p))
section
variable {k:Nat}
theorem Cg.hd(c:Cg G W Φ k Γ X):X.A.handled=none:=c.room.hd
def Cg.hu(c:Cg G W Φ k Γ X):X.A.units+70<cLine:=by have:=c.room.un;lia
def RB{x:Str}(h:(!odd x)=true):(x ==("__debug__" :Str))=false/\(x ==("__classdict__" :Str))=false/\(x ==("__name__" :Str))=false:=by
 unfold odd at h;simp only[Bool.not_or,Bool.and_eq_true,Bool.not_eq_true']at h;exact⟨h.1.1,h.1.2,h.2⟩
theorem Cg.vis(c:Cg G W Φ k Γ X){i:Nat}{x:Str}(h:B.vis Γ i x=true):X.N[i]?=some x/\W5 X.env.scope x/\(x ==("__debug__" :Str))=false/\(x ==("__classdict__" :Str))=false:=by
 unfold B.vis kd at h;simp only[Bool.and_eq_true,Bool.or_eq_true,decide_eq_true_eq,beq_iff_eq]at h;obtain⟨⟨h1,h2⟩,h3⟩:=h;have o:=RB h3;refine⟨by rw[c.hN];exact h1,?_,o.1,o.2.1⟩;unfold W5;rw[c.sc];rcases h2 with(h2|h2)|h2
 ·exact .inl h2
 ·exact .inr (.inl h2)
 exact .inr (.inr h2)
theorem Cg.sto(c:Cg G W Φ k Γ X){i:Nat}{x:Str}(h:B.sto Γ i x=true):X.N[i]?=some x/\W7 X.env.scope x/\(X.fn x=true\/X.env.scope.names.lookup x=some .local):=by
 unfold B.sto kd at h;simp only[Bool.and_eq_true,Bool.or_eq_true,decide_eq_true_eq,beq_iff_eq]at h;obtain⟨h1,h2⟩:=h;refine⟨by rw[c.hN];exact h1,?_,?_⟩
 ·unfold L2.W7;rw[c.sc];rcases h2 with h2|h2
  ·exact .inl h2
  exact .inr h2.1
 rw[c.sc];rcases h2 with h2|h2
 ·exact .inr h2
 exact .inl (c.fn h2.2 x)
theorem Cg.gl(c:Cg G W Φ k Γ X){x:Str}(h:B.gl Γ x=true):Gl X x/\(x ==("__debug__" :Str))=false/\x≠ "__name__":=by
 unfold B.gl kd at h;simp only[Bool.and_eq_true,beq_iff_eq]at h;have o:=RB h.2;exact⟨by show X.env.scope.names.lookup x=_;rw[c.sc];exact h.1,o.1,λz=>by have:=o.2.2;rw[z]at this;exact absurd this (by decide)⟩
def Ak(h:AS e=false):starEach (e::es) env=(false,eval e env)::starEach es env:=by
 cases e<;>first|rfl|(cases h;done)|(exact absurd h (by simp[AS]))
noncomputable def AX:List Expr->Bool
 |[]=>true
 |e::es=>!AS e&&AX es
theorem Bs:∀{es:List Expr},AX es=true->(backTo pos (starEach es env)).any (·.1)=false
 |[],_=>rfl
 |e::es,h=>by
  have h:AS e=false/\AX es=true:=by simpa[AX]using h
  rw[Ak h.1];show(false||(backTo pos (starEach es env)).any (·.1))=false;rw[Bs h.2];rfl
theorem Gm:∀{es:List Expr},AX es=true->(backTo pos (starEach es env)).all (λx=>!x.1)=true
 |[],_=>rfl
 |e::es,h=>by
  have h:AS e=false/\AX es=true:=by simpa[AX]using h
  rw[Ak h.1];show(true&&(backTo pos (starEach es env)).all (λx=>!x.1))=true;rw[Gm h.2];rfl
def Sv(h:AX es=true)(hl:es.length<29):((backTo pos (starEach es env)).all (λx=>!x.1)&&(backToKw pos (keywordEach [] env)).all (λx=>x.1.isSome)&&decide (es.length+([]:List Keyword).length+(if ([]:List Keyword).isEmpty then 0 else 1)<30))=true:=by
 rw[Gm h];simp[keywordEach,backToKw]
 lia
def NG(h:AX es=true)(hl:es.length<30):methodCallForm (es.length+([]:List Keyword).length) (backTo pos (starEach es env)) (backToKw pos (keywordEach [] env))=true:=by
 unfold methodCallForm;rw[Gm h];simp[keywordEach,backToKw]
 lia
def BY{f:Str}(h:DA o=true):attributeBase o f env (eval o env)=eval o env:=by
 unfold attributeBase;split
 ·exact absurd h (by simp[DA])
 rfl
def LB(h:Dp e=true):∀x,foldedSetIterable e env x=pure x:=by
 intro x;unfold foldedSetIterable;cases e<;>first|rfl|(exact absurd h (by simp[Dp]))
def G6(h:Dp b=true):behindInMarks op b=false:=by
 cases b<;>first|rfl|(exact absurd h (by simp[Dp]))
def Q4(h:C8 b=true):J7 b:=by
 intro o i;cases b<;>first|rfl|(exact absurd h (by simp[C8]))
def Eu{n:Nat}(h:Dr e=true):swapsWith e t n env=pure false:=by
 unfold swapsWith;cases e<;>first|rfl|(exact absurd h (by simp[Dr]))
def QE:relabel scope env=Gq scope env.scope:=rfl
def SE(h:Mw scope Γ xs ys js=true):C3 scope Γ.sc Γ.N xs ys js/\(xs++ys).Nodup:=by
 unfold Mw at h;simp only[Bool.and_eq_true,beq_iff_eq,decide_eq_true_eq,List.all_eq_true,bne_iff_ne,Bool.or_eq_true,List.contains_iff_mem]at h;obtain⟨⟨⟨⟨⟨⟨h1,h2⟩,h3⟩,h4⟩,h5⟩,h6⟩,h7⟩:=h;refine⟨⟨h1,h2,λy hy e=>(h3 y hy).resolve_left λz=>z e,λy hy e=>?_,h5,λp hp=>?_⟩,h7⟩
 ·rcases h4 y hy with(z|z)|z
  ·exact absurd e z
  ·exact .inl z
  exact .inr z
 obtain⟨⟨⟨a1,a2⟩,a3⟩,a4⟩:=h6 p hp;exact⟨a1,a2,a3,a4⟩
def Cg.comp(c:Cg G W Φ k Γ X)(hnd:(xs++ys).Nodup):Cg G W Φ k ⟨xs++ys,Gq scope Γ.sc,false,[]⟩ (Fh X (xs++ys) scope C s2 H2 fp) where
 hK:=c.hK
 nm:=c.nm
 kt:=c.kt
 nb:=c.nb
 fns:=c.fns
 cl:=c.cl
 mkk:=c.mkk
 n0:=c.n0
 mt:=λm=>⟨(c.mt m).at_⟩
 cf:=c.cf
 gI:=c.gI
 gS:=c.gS
 calm:=c.calm
 room:=c.room
 hN:=rfl
 nd:=hnd
 sc:=by show relabel scope X.env=_;rw[QE,c.sc]
 fn:=λz=>by cases z
 own:=PassesOwn.never
 lamM:=c.lamM
 lamO:=c.lamO
 tab:=λp hp=>absurd hp (by simp)
end
section
variable {W:Wd}{F H:Hp}{fa fb fc:Ef}
def T6{lo:Int}{n:Nat}:Ch W F ρ ⟨Cp lo n,none⟩ (qI lo n):=by
 intro i F1 ρ1 H1 h1 n1 S _;have hl:(Cp lo n).length=n:=by simp[Cp]
 refine⟨λm hm=>?_,λe=>by show n<=i;rw[e];exact hU hl.symm⟩;have hi:i<n:=by rw[←hl];exact(a9.mp hm).1
 refine⟨hi,λx H2 y=>?_⟩;obtain⟨rfl,rfl⟩:=y;refine⟨F1,Am.refl _,S,?_⟩;have e:m=.int (lo+i*2):=by
  have hm:=hm;unfold Cp at hm;rw[aJ,fY hi]at hm;cases hm;rfl
 subst e;unfold Ap;rfl
def jQ{F:Hp}{ρ:List Addr}{μ:En}{h:MH}{m:MV}{γ δ:Type}{rep:Hp->List Addr->γ->δ->Prop}{k:R->R->MH->AB γ}{Q:δ->Hp->Prop}(G:Ai W rep F ρ ((fa μ h).bind λx h1=>(fb μ h1).bind λy h2=>k x y h2) Q) :
 Ai W (Az W) F ρ ((fa μ h).bind λx h1=>((fb μ h1).bind λy h2=>((AB.ok (.v m) h2:AB R).bind λz h3=>(AB.ok [] h3).bind λxs h4=>.ok (z::xs) h4).bind λxs h3=>.ok (y::xs) h3).bind λxs h2=>.ok (x::xs) h2) λvs H1=>E8 λF1 ρ1 r r' v v' v2 h1=>A7 (vs=[v,v',v2]) (DO F ρ F1 ρ1) (Bq W F1 H1 ρ1 h1) (A0 W F1 ρ1 r v) (A0 W F1 ρ1 r' v') (Ap W F1 m v2) (Ai W rep F1 ρ1 (k r r' h1) Q):=by
 cases ex:fa μ h with
 |no=>rw[ex]at G;exact G
 |ok r h1=>
  rw[ex]at G;have G:Ai W rep F ρ ((fb μ h1).bind λy h2=>k r y h2) Q:=G;show Ai W (Az W) F ρ (((fb μ h1).bind λy h2=>(AB.ok [.v m] h2).bind λxs h3=>.ok (y::xs) h3).bind λxs h2=>.ok (r::xs) h2) _;cases ey:fb μ h1 with
  |no=>rw[ey]at G;exact G
  |ok r' h2=>
   rw[ey]at G;have G:Ai W rep F ρ (k r r' h2) Q:=G;show Ai W (Az W) F ρ (.ok [r,r',.v m] h2) _;intro F1 ρ1 H1 vs n S q;cases q with
   |cons q t=>
    cases t with
    |cons q' t'=>
     cases t' with
     |cons q2 t2=>
      cases t2;exact⟨F1,ρ1,r,r',_,_,_,h2,rfl,n,S,q,q',q2,G.nxt n⟩
def Xs(hg:Gl X "range")(hm:X.mg "range"=none)(ha:PE X a (tM W fa))(hb:PE X b (tM W fb))(hc:PE X c (tM W λ_ h=>.ok (.v (.int 2)) h))(hs:starEach [a,b,c] X.env=[(false,eval a X.env),(false,eval b X.env),(false,eval c X.env)])(hs2:starEach [b,c] X.env=[(false,eval b X.env),(false,eval c X.env)])(hs3:starEach [c] X.env=[(false,eval c X.env)]) :
 PI X tg (.Call (.Name "range" p) [a,b,c] [] pos) (Qt W λμ h=>(fa μ h).bind λx h1=>(fb μ h1).bind λy h2=>AB.of (Ez x y) h2):=by
 refine PI.of (O5 hg hm (Cw ha (Cw hb (Cw hc HG hs3) (by rw[hs2,hs3])) (by rw[hs,hs2])) hs hs2) λσ H R ⟨F,ρ,μ,h,S,e,G⟩=>⟨F,ρ,μ,h,S,e,(jQ G).imp ?_⟩;rintro vs H1 ⟨F1,ρ1,r,r',v,v',v2,h1,rfl,n1,S1,q1,q2,q3,G1⟩;obtain⟨w,hw,G3⟩:=G1.of;unfold Ez at hw;split at hw
 ·obtain⟨⟨h2,h3,h4,h5⟩,rfl⟩:=Aq hw;have q1:=q1;have q2:=q2;unfold Ap at q1 q2 q3;subst q1 q2 q3;exact⟨_,_,rfl,⟨h2,h3,h4,h5⟩,G3.ret S1 T6⟩
 cases hw
end
section
variable {k:Nat}
def An(h:(a&&b)=true):a=true/\b=true:=by simpa using h
def Cj(h:(!a)=true):a=false:=by simpa using h
def Bp{a b c:Bool}{P:Prop}(h:(a&&b&&c)=true)(k:a=true->b=true->c=true->P):P:=have h:=An h;have q:=An h.1;k q.1 q.2 h.2
def Ti{a b c d:Bool}{P:Prop}(h:(a&&b&&c&&d)=true)(k:a=true->b=true->c=true->d=true->P):P:=have h:=An h;Bp h.1 λx y z=>k x y z h.2
def VC{a b c d e:Bool}{P:Prop}(h:(a&&b&&c&&d&&e)=true)(k:a=true->b=true->c=true->d=true->e=true->P):P:=have h:=An h;Ti h.1 λx y z u=>k x y z u h.2
def PD{a b c d e f:Bool}{P:Prop}(h:(a&&b&&c&&d&&e&&f)=true)(k:a=true->b=true->c=true->d=true->e=true->f=true->P):P:=have h:=An h;VC h.1 λx y z u v=>k x y z u v h.2
def Z5{a b c d e f g:Bool}{P:Prop}(h:(a&&b&&c&&d&&e&&f&&g)=true)(k:a=true->b=true->c=true->d=true->e=true->f=true->g=true->P):P:=have h:=An h;PD h.1 λx y z u v w=>k x y z u v w h.2
def El{P:Prop}(h:false=true):P:=(aB h).elim
def el{c:Prop}[Decidable c]{b:c->Bool}{P:Prop}(h:(if q:c then b q else false)=true)(k:c->P):P:=if q:c then k q else El ((dif_neg q).symm.trans h)
@[elab_as_elim]def Cy{f:Str->Pos->Bool}{P:Expr->Prop}{e:Expr}(h:PU f e=true)(k:∀x p,f x p=true->P (.Name x p)):P e:=el h λq=>Expr.Name.elim (motive_1:=λe=>PU f e=true->P e) e q k h
@[elab_as_elim]def NR{P:Expr->Prop}{e:Expr}(h:V1 f e=true)(k:∀c k p,f c=true->P (.Constant c k p)):P e:=el h λq=>Expr.Constant.elim (motive_1:=λe=>V1 f e=true->P e) e q k h
@[elab_as_elim]def FR{f:List Expr->Nat->Pos->Bool}{P:Expr->Prop}{e:Expr}(h:Ou f e=true)(k:∀l k p,f l k p=true->P (.Tuple l k p)):P e:=el h λq=>Expr.Tuple.elim (motive_1:=λe=>Ou f e=true->P e) e q k h
@[elab_as_elim]def Nt{f:List Expr->Bool}{P:Expr->Prop}{e:Expr}(h:UU f e=true)(k:∀l p,f l=true->P (.List l p)):P e:=el h λq=>Expr.List.elim (motive_1:=λe=>UU f e=true->P e) e q k h
@[elab_as_elim]def Vx{f:List (Option Expr)->List Expr->Bool}{P:Expr->Prop}{e:Expr}(h:Zl f e=true)(k:∀k v p,f k v=true->P (.Dict k v p)):P e:=el h λq=>Expr.Dict.elim (motive_1:=λe=>Zl f e=true->P e) e q k h
@[elab_as_elim]def J2{f:Expr->Str->Pos->Bool}{P:Expr->Prop}{e:Expr}(h:Te f e=true)(k:∀o x p,f o x p=true->P (.Attribute o x p)):P e:=el h λq=>Expr.Attribute.elim (motive_1:=λe=>Te f e=true->P e) e q k h
@[elab_as_elim]def Ev{f:Expr->Expr->Bool}{P:Expr->Prop}{e:Expr}(h:L6 f e=true)(k:∀x y p,f x y=true->P (.Subscript x y p)):P e:=el h λq=>Expr.Subscript.elim (motive_1:=λe=>L6 f e=true->P e) e q k h
@[elab_as_elim]def MQ{f:Option Expr->Option Expr->Option Expr->Bool}{P:Expr->Prop}{e:Expr}(h:TZ f e=true)(k:∀l h s p,f l h s=true->P (.Slice l h s p)):P e:=el h λq=>Expr.Slice.elim (motive_1:=λe=>TZ f e=true->P e) e q k h
@[elab_as_elim]def V9{f:Expr->Operator->Expr->Bool}{P:Expr->Prop}{e:Expr}(h:Z3 f e=true)(k:∀x o y p,f x o y=true->P (.BinOp x o y p)):P e:=el h λq=>Expr.BinOp.elim (motive_1:=λe=>Z3 f e=true->P e) e q k h
@[elab_as_elim]def ML{P:Expr->Prop}{e:Expr}(h:TF f e=true)(k:∀o x p,f o x=true->P (.UnaryOp o x p)):P e:=el h λq=>Expr.UnaryOp.elim (motive_1:=λe=>TF f e=true->P e) e q k h
@[elab_as_elim]def NU{f:Expr->List CmpOp->List Expr->Bool}{P:Expr->Prop}{e:Expr}(h:V3 f e=true)(k:∀x o y p,f x o y=true->P (.Compare x o y p)):P e:=el h λq=>Expr.Compare.elim (motive_1:=λe=>V3 f e=true->P e) e q k h
@[elab_as_elim]def Oa{P:Expr->Prop}{e:Expr}(h:V8 f e=true)(k:∀o l p,f o l=true->P (.BoolOp o l p)):P e:=el h λq=>Expr.BoolOp.elim (motive_1:=λe=>V8 f e=true->P e) e q k h
@[elab_as_elim]def Vh{f:Expr->Expr->Expr->Bool}{P:Expr->Prop}{e:Expr}(h:YT f e=true)(k:∀x y z p,f x y z=true->P (.IfExp x y z p)):P e:=el h λq=>Expr.IfExp.elim (motive_1:=λe=>YT f e=true->P e) e q k h
@[elab_as_elim]def N4{f:Expr->List Expr->List Keyword->Pos->Bool}{P:Expr->Prop}{e:Expr}(h:Vc f e=true)(k:∀g l k p,f g l k p=true->P (.Call g l k p)):P e:=el h λq=>Expr.Call.elim (motive_1:=λe=>Vc f e=true->P e) e q k h
@[elab_as_elim]def UX{f:Expr->List Comprehension->Scope->Bool}{P:Expr->Prop}{e:Expr}(h:Y9 f e=true)(k:∀t g s p,f t g s=true->P (.ListComp t g s p)):P e:=el h λq=>Expr.ListComp.elim (motive_1:=λe=>Y9 f e=true->P e) e q k h
@[elab_as_elim]def UZ{P:Expr->Prop}{e:Expr}(h:YB f e=true)(k:∀a b s p,f a b s p=true->P (.Lambda a b s p)):P e:=el h λq=>Expr.Lambda.elim (motive_1:=λe=>YB f e=true->P e) e q k h
def AU{α:Type}{l:List α}(h:Gz l=true):l=[]:=by cases l<;>first|rfl|exact El h
@[elab_as_elim]def Bz{α:Type}{f:α->List α->Bool}{P:List α->Prop}{l:List α}(h:Pv f l=true)(k:∀x m,f x m=true->P (x::m)):P l:=by cases l<;>first|exact El h|exact k _ _ h
@[elab_as_elim]def B8{α:Type}{f:α->Bool}{P:List α->Prop}{l:List α}(h:FJ f l=true)(k:∀x,f x=true->P ([x])):P l:=by rcases l with _|⟨a,_|⟨b,l⟩⟩<;>first|exact El h|exact k _ h
@[elab_as_elim]def FQ{α:Type}{f:α->α->Bool}{P:List α->Prop}{l:List α}(h:Qn f l=true)(k:∀x y,f x y=true->P ([x,y])):P l:=by rcases l with _|⟨a,_|⟨b,_|⟨c,l⟩⟩⟩<;>first|exact El h|exact k _ _ h
@[elab_as_elim]def Ba{f:Str->List Expr->Bool}{P:Expr->Prop}{e:Expr}(h:DM f e=true)(k:∀x q l p,f x l=true->P (.Call (.Name x q) l [] p)):P e:=by
  refine N4 h λg l kk p h=>?_;obtain⟨h1,h2⟩:=An h;obtain rfl:=AU h1;exact Cy (P:=λg=>P (.Call g l [] p)) h2 λx q h=>k x q l p h
@[elab_as_elim]def Gb{f:Expr->Str->List Expr->Bool->Bool}{P:Expr->Prop}{e:Expr}(h:SV f e=true)(k:∀o x q l p,f o x l (q.endLine ==p.line)=true->P (.Call (.Attribute o x q) l [] p)):P e:=by
  refine N4 h λg l kk p h=>?_;obtain⟨h1,h2⟩:=An h;obtain rfl:=AU h1;exact J2 (P:=λg=>P (.Call g l [] p)) h2 λo x q h=>k o x q l p h
def BC(h:AX (e::l)=true):AS e=false/\AX l=true:=have h:=An h;⟨Cj h.1,h.2⟩
def Cf{Γ:Ct}{X:Cx}(c:Cg G W Φ k Γ X){x y:Str}(h:Dd G Γ x y=true):x=y/\Gl X x/\X.mg x=none/\(x ==("__debug__" :Str))=false/\x≠ "__name__":=
 Bp h λh1 h2 h3=>have g:=c.gl h2;⟨aP.mp h1,g.1,c.nb x (bB h3),g.2⟩
theorem Rr{X:Cx}(c:Cg G W Φ k Γ X):∀{is:List Nat}{es:List Expr},Zu Γ is es=true->ag X es (lL is)/\(assignEach es X.env).length=is.length/\(assignEach es X.env).findIdx? (·.1)=none
 |[],l,h=>by
  obtain rfl:=AU h;exact⟨UA,rfl,rfl⟩
 |i::is,l,h=>by
  refine Bz h λe es h=>?_;obtain⟨h1,h2⟩:=An h;refine Cy h1 λx pos h1=>?_;obtain⟨s1,s2,s3⟩:=c.sto h1;obtain⟨r1,r2,r3⟩:=Rr c h2;refine⟨Rs (Nh (by rw[c.hN];exact c.nd) s1 s2 s3) r1 rfl,bQ Nat.succ r2,?_⟩;show List.findIdx? (·.1) ((false,assign (.Name x pos) X.env)::assignEach es X.env)=none;rw[List.findIdx?_cons,r3];rfl
def Xd(c:Cg G W Φ k Γ X){e:Expr}(h:pX Γ t e=true):PG X e (WR W t):=by
 cases t with
 |nm i=>
  refine Cy h λx p h=>?_;obtain⟨s1,s2,s3⟩:=c.sto h;exact oZ (by rw[c.hN];exact c.nd) s1 s2 s3
 |tup is=>
  refine FR h λl n p h=>?_;obtain⟨r1,r2,r3⟩:=Rr c h;exact jt c.calm r1 r2 r3
noncomputable abbrev tZ(G:Gt)(Φ:Fs)(m:ME):Ef:=(e2 G.cs Φ G.ini G.cf m).1
noncomputable abbrev tx(G:Gt)(Φ:Fs)(m:ME):Tf:=(e2 G.cs Φ G.ini G.cf m).2
def qA(G:Gt)(W:Wd)(Φ:Fs)(X:Cx)(m:ME)(e:Expr):Prop:=PE X e (tM W (tZ G Φ m))/\PT X e (ES W (tx G Φ m))
def Av(hK:X.K=W.K)(hp:LG e=true)(h:PE X e (tM W f)):PE X e (tM W (pr f).1)/\PT X e (ES W (pr f).2):=⟨h,be hK h hp⟩
def FY{Γ:Ct}{es:Em}(h:CG G es Γ []=true):Dy G.cs Φ G.ini G.cf es=λ_ h=>.ok [] h:=by
 cases es with
 |nil=>rfl
 |cons e r=>exact El h
def RT(h:BW xs ps sc=true)(h1:∀x,sc.names.lookup x=some .free->∃c,cl.lookup x=some c)(h2:∀x y c,cl.lookup x=some c->cl.lookup y=some c->x=y):Hc (xs++ps) xs ps sc cl:=by
 unfold BW at h;simp only[Bool.and_eq_true,beq_iff_eq,decide_eq_true_eq,Bool.not_eq_true',List.all_eq_true,bne_iff_ne]at h;obtain⟨⟨⟨⟨⟨⟨a,b⟩,c⟩,d⟩,e⟩,f⟩,g⟩:=h;exact⟨by cases hk:sc.kind<;>rw[hk]at a<;>first|rfl|(exact absurd a (by decide)),b,c,d,rfl,e,f,g,h1,h2⟩
def YV(c:Cg G W Φ k Γ X){x:Str}:∀{m:MV},Wq G x m=true->Gl X x->(x ==("__debug__" :Str))=false->PE X (.Name x p) (tM W λ_ h=>.ok (.v m) h):=by
 intro m h2 g1 g2;cases m<;>first|exact El h2|skip
 ·rename_i i;have h2:YY G x i=true:=h2;unfold YY at h2;split at h2
  ·rename_i j hj;obtain rfl:=aP.mp h2;exact Fz (Rz g1 (c.gI x i hj) g2) λF=>by unfold Ap;rfl
  exact El h2
 ·rename_i i;have h2:YW G x i=true:=h2;unfold YW at h2;split at h2
  ·rename_i j hj;obtain rfl:=aP.mp h2;exact Fz (Ry g1 (c.gS x i hj) g2) λF=>by unfold Ap;rfl
  exact El h2
 rename_i cc;have h2:YZ G x cc=true:=h2;unfold YZ at h2;split at h2
 ·rename_i i hi;obtain rfl:=aP.mp h2;exact Fz (FV (v:=.ref (W.ca cc)) g1 (c.cl cc i hi) rfl g2) λF=>by unfold Ap;rfl
 exact El h2
def SD{X:Cx}{v:Const}{n:Nat}{p:Pos}:∀{m:MV},NC m v=true->PE X (.Constant v n p) (tM W λ_ h=>.ok (.v m) h):=by
 intro m h;unfold NC at h;split at h
 ·exact Fz Ya λF=>by unfold Ap;rfl
 ·obtain rfl:=aP.mp h;exact Fz ig λF=>by unfold Ap;rfl
 ·obtain rfl:=aP.mp h;exact Fz Yc λF=>by unfold Ap;rfl
 ·obtain rfl:=aP.mp h;exact Fz XY λF=>by unfold Ap;rfl
 exact El h
def GY{α:Type}{o:Option α}{f:α->Bool}(h:o.any f=true):∃a,o=some a/\f a=true:=by cases o<;>first|exact El h|exact⟨_,rfl,h⟩
mutual
theorem Ax:∀(m:ME) {Γ:Ct}{X:Cx}{e:Expr},Cg G W Φ k Γ X->BL G m Γ e=true->qA G W Φ X m e
 |.var i,Γ,X,e,c,h=>by
  refine Cy h λx p h=>?_;obtain⟨v1,v2,v3,v4⟩:=c.vis h;exact Av c.hK rfl (dg v1 v2 v3 v4)
 |.mov i,Γ,X,e,c,h=>by
  refine Cy h λx p h=>?_;obtain⟨v1,v2,v3,v4⟩:=c.vis h;exact Av c.hK rfl (dw v1 v2 v3 v4)
 |.con m,Γ,X,e,c,h=>by
  refine NR h λv n p h=>?_;exact Av c.hK rfl (SD h)
 |.glo x m,Γ,X,e,c,h=>by
  refine Cy h λy p h=>?_;refine Bp h λh1 h2 h3=>?_;obtain⟨g1,g2,g3⟩:=c.gl h2;exact Av c.hK rfl (YV c h3 g1 g2)
 |.bty x kk,Γ,X,e,c,h=>by
  refine Cy h λy p h=>?_;refine Bp h λh1 h4 h5=>?_;obtain⟨rfl,g1,hb,g2,g3⟩:=Cf c h1;refine Av c.hK rfl (Fz (v:=.ty kk.nm) (UH g1 hb (u:=.type kk.nm) ?_ rfl g3 g2) λF=>by unfold Ap;rfl);rw[aP.mp h4];cases kk<;>first|(exact absurd h5 (by decide))|(decide +kernel)
 |.tup es,Γ,X,e,c,h=>by
  refine FR h λl n p h=>?_;exact Av c.hK rfl (dm (Db es c h).1)
 |.lst es,Γ,X,e,c,h=>by
  refine Nt h λl p h=>?_;exact Av c.hK rfl (ff (Db es c h).1)
 |.lstL es,Γ,X,e,c,h=>by
  refine Nt h λl p h=>?_;exact Av c.hK rfl (Xz (Db es c h).1)
 |.dicL t,Γ,X,e,c,h=>by
  refine Vx h λks vs p h=>?_;obtain⟨h1,h2⟩:=An h;obtain rfl:=AU h1;obtain rfl:=AU h2;exact Av c.hK rfl (X5 t)
 |.fld m f,Γ,X,e,c,h=>by
  refine J2 h λo x p h=>?_;refine Bp h λh1 h2 h3=>?_;obtain rfl:=aP.mp h1;rw[←c.nm];exact Av c.hK rfl (fq c.hK c.kt (Ax m c h2).1 (BY h3))
 |.idx a b,Γ,X,e,c,h=>by
  refine Ev h λx y p h=>?_;refine Bp h λh1 h2 h3=>?_;exact Av c.hK rfl (fk c.hK c.hu (Ax a c h1).1 (Ax b c h2).1 (Q4 h3))
 |.sli a lo hi,Γ,X,e,c,h=>by
  refine Ev h λx y p h=>?_;obtain⟨h1,h⟩:=An h;refine MQ h λl u st q h=>?_;refine Bp h λh2 h3 h4=>?_;obtain rfl:=eA.mp h4;exact Av c.hK rfl (dq c.hK (Ax a c h1).1 (TY lo c h2) (TY hi c h3))
 |.sliL a lo hi,Γ,X,e,c,h=>by
  refine Ev h λx y p h=>?_;obtain⟨h1,h⟩:=An h;refine MQ h λl u st q h=>?_;refine Bp h λh2 h3 h4=>?_;obtain rfl:=eA.mp h4;exact Av c.hK rfl (Xm c.hK (Ax a c h1).1 (TY lo c h2) (TY hi c h3))
 |.bin o a b,Γ,X,e,c,h=>by
  refine V9 h λx op y p h=>?_;refine Bp h λh1 h2 h3=>?_;obtain rfl:=aP.mp h1;exact Av c.hK rfl (ga c.hK o (Ax a c h2).1 (Ax b c h3).1)
 |.una o a,Γ,X,e,c,h=>by
  refine ML h λop x p h=>?_;obtain⟨h1,h2⟩:=An h;obtain rfl:=aP.mp h1;exact Av c.hK (by cases o<;>rfl) (dh o (Ax a c h2).1)
 |.cmp o a b,Γ,X,e,c,h=>by
  refine NU h λx op y p h=>?_;refine Bp h λh1 h2 h3=>?_;obtain rfl:=bB h1;refine B8 h3 λy h3=>?_;obtain⟨h3,h4⟩:=An h3;exact⟨fu c.hK c.hu o (Ax a c h2).1 (Ax b c h3).1 (G6 h4),bi c.hK c.hu o (Ax a c h2).1 (Ax b c h3).1 (G6 h4)⟩
 |.cmp2 o o' a b d,Γ,X,e,c,h=>by
  refine NU h λx op y p h=>?_;refine Bp h λh1 h2 h3=>?_;obtain rfl:=bB h1;refine FQ h3 λy z h3=>?_;refine Bp h3 λh3 h4 h5=>?_;have hm:lastMarks [o.op,o'.op] [y,z]=false:=G6 h5;exact⟨X7 c.hK c.hu o o' (Ax a c h2).1 (Ax b c h3).1 (Ax d c h4).1 hm,WM c.hK c.hu o o' (Ax a c h2).1 (Ax b c h3).1 (Ax d c h4).1 hm⟩
 |.not a,Γ,X,e,c,h=>by
  refine ML h λop x p h=>?_;obtain⟨h1,h2⟩:=An h;obtain rfl:=aP.mp h1;exact⟨du (Ax a c h2).1,bg (Ax a c h2).2⟩
 |.and es,Γ,X,e,c,h=>by
  refine Oa h λop l p h=>?_;refine Bp h λh1 h2 h3=>?_;obtain rfl:=aP.mp h1;exact⟨(Xf es c h2 (Cj h3)).1,(Xf es c h2 (Cj h3)).2.pt⟩
 |.or es,Γ,X,e,c,h=>by
  refine Oa h λop l p h=>?_;refine Bp h λh1 h2 h3=>?_;obtain rfl:=aP.mp h1;exact⟨(Q3 es c h2 (Cj h3)).1,(Q3 es c h2 (Cj h3)).2.pt⟩
 |.ife t a b,Γ,X,e,c,h=>by
  refine Vh h λx y z p h=>?_;refine Bp h λh1 h2 h3=>?_;exact⟨fj (Ax t c h1).2 (Ax a c h2).1 (Ax b c h3).1,λpins s σ H Q I ⟨F,ρ,μ,hh,S,e,g⟩=>g.elim⟩
 |.call f es,Γ,X,e,c,h=>by
  refine Ba h λx q l p h=>?_;refine Bp h λh1 h2 h3=>?_;obtain⟨ps,Fn⟩:=c.fns f x (bB h1);obtain⟨g1,g2,g3⟩:=c.gl h2;obtain⟨pa,ns⟩:=Db es c h3;refine Av c.hK rfl ?_;cases l with
  |nil=>exact Ug Fn c.room (cX _) g1 g2 (FY h3)
  |cons e0 l=>exact X9 Fn c.room (cX _) g1 pa g2 (Ak (BC ns).1) (Bs (BC ns).2)
 |.make cc es ds,Γ,X,e,c,h=>by
  refine Ba h λx q l p h=>?_;refine VC h λh1 h2 h3 h4 hs=>?_;obtain⟨g1,g2,g3⟩:=c.gl h2;obtain⟨pa,ns⟩:=Db es c h3;obtain⟨i,hi,h1⟩:=GY h1;refine Bp h1 λh1 h5 h6=>?_;obtain rfl:=aP.mp h1;obtain⟨f,hf⟩:=bU.mp h6;obtain⟨fi,fd,ps,dvs,dus,M,Fo,hb,hd,hr⟩:=c.mkk cc i f ds hi (Cj h5) hf hs;refine Av c.hK rfl ?_;rw[hf];cases l with
  |nil=>exact El h4
  |cons e0 l=>exact Xy M Fo hb hd hr (c.cl cc i hi) c.room (aH _) g1 pa g2 (Ak (BC ns).1) (Bs (BC ns).2)
 |.new0 cc,Γ,X,e,c,h=>by
  refine Ba h λx q l p h=>?_;refine Bp h λh1 h2 h3=>?_;obtain rfl:=AU h3;obtain⟨g1,g2,g3⟩:=c.gl h2;obtain⟨i,hi,h1⟩:=GY h1;obtain⟨h1,h5⟩:=An h1;obtain rfl:=aP.mp h1;refine Av c.hK rfl ?_;cases hn:G.ini cc with
  |some f=>exact λpins s σ H Q I ⟨F,ρ,μ,hh,S,e,g⟩=>g.elim
  |none=>exact Xv (c.n0 cc i hi (Cj h5) hn) g1 g2
 |.meth m o es,Γ,X,e,c,h=>by
  refine Gb h λx y q l p h=>?_;refine PD h λh1 h2 h3 h4 h5 h6=>?_;obtain rfl:=aP.mp h1;rw[←c.nm];obtain⟨pa,ns⟩:=Db es c h3;refine Av c.hK rfl ?_;cases l with
  |nil=>exact Uf (c.mt m) (Ax o c h2).1 c.room (cX _) (FY h3) (BY h4) h5
  |cons e0 l=>exact Xx (c.mt m) (Ax o c h2).1 c.room (cX _) pa (Ak (BC ns).1) (Bs (BC ns).2) (BY h4) (NG ns (bB h6)) h5
 |.cfn cc m es,Γ,X,e,c,h=>by
  refine Gb h λx y q l p h=>?_;refine PD h λh1 h2 h3 h4 h5 h6=>?_;obtain rfl:=aP.mp h1;rw[←c.nm];refine Cy h2 λx r h2=>?_;obtain⟨h2,h7⟩:=An h2;obtain⟨i,hi,h2⟩:=GY h2;obtain rfl:=aP.mp h2;obtain⟨g1,g2,g3⟩:=c.gl h7;obtain⟨pa,ns⟩:=Db es c h3;refine Av c.hK rfl ?_;cases hf:G.cf cc m with
  |none=>exact λpins s σ H Q I ⟨F,ρ,μ,hh,S,e,g⟩=>g.elim
  |some f=>
   obtain⟨ps,Fn⟩:=c.cf cc m f i hi hf;cases l with
   |nil=>exact El h4
   |cons e0 l=>exact fv Fn c.room (cX _) g1 pa g2 (Ak (BC ns).1) (Bs (BC ns).2) (NG ns (bB h6)) h5
 |.bfn b es,Γ,X,e,c,h=>by
  refine Ba h λx q l p h=>?_;refine Bp h λh1 h2 h3=>?_;obtain⟨hx,g1,hb,g2,g3⟩:=Cf c h1;obtain⟨pa,ns⟩:=Db es c h2;refine Av c.hK rfl ?_;cases l with
  |nil=>exact El h3
  |cons e0 l=>exact uc c.hK c.kt c.calm b hx g1 hb pa (Ak (BC ns).1) (Bs (BC ns).2)
 |.lenset m,Γ,X,e,c,h=>by
  refine Ba h λx q l p h=>?_;obtain⟨h1,h2⟩:=An h;obtain⟨rfl,g1,hb,g2,g3⟩:=Cf c h1;refine B8 h2 λe h3=>?_;refine Ba h3 λy q' l p' h4=>?_;obtain⟨h5,h6⟩:=An h4;obtain⟨rfl,k1,kb,k2,k3⟩:=Cf c h5;refine B8 h6 λz h6=>?_;obtain⟨h7,h8⟩:=An h6;exact Av c.hK rfl (Q8 c.hK c.hd (by have:=c.hu;lia) g1 hb k1 kb (Ax m c h7).1 rfl (Ak (Cj h8)))
 |.bmt b o es,Γ,X,e,c,h=>by
  refine Gb h λx y q l p h=>?_;refine PD h λh1 h2 h3 h4 h5 h6=>?_;obtain rfl:=aP.mp h1;obtain⟨pa,ns⟩:=Db es c h3;refine Av c.hK rfl ?_;cases l with
  |nil=>exact XB c.hK c.hu b (Ax o c h2).1 pa (BY h4) h5 (FY h3)
  |cons e0 l=>exact fz c.hK c.hu b (Ax o c h2).1 pa (BY h4) (Sv ns (bB h6)) h5 (Ak (BC ns).1) (Bs (BC ns).2)
 |.mmt b o es,Γ,X,e,c,h=>by
  refine Gb h λx y q l p h=>?_;refine PD h λh1 h2 h3 h4 h5 h6=>?_;obtain rfl:=aP.mp h1;obtain⟨pa,ns⟩:=Db es c h3;refine Av c.hK rfl ?_;cases l with
  |nil=>exact Xw b (Ax o c h2).1 (BY h4) h5 (FY h3)
  |cons e0 l=>exact eh b (Ax o c h2).1 pa (BY h4) (Sv ns (bB h6)) h5 (Ak (BC ns).1) (Bs (BC ns).2)
 |.comp xs ys js tg it cd m,Γ,X,e,c,h=>by
  refine UX h λelt gs scope p h=>?_;refine B8 h λyy h=>?_;obtain⟨t,iter,ifs,a0⟩:=yy;refine Z5 h λh0 h1 h2 h3 h4 h5 h6=>?_;obtain rfl:a0=0:=aP.mp h0;obtain⟨CS,nd⟩:=SE h1;exact Av c.hK rfl (X6 CS c.calm (Xe it c h2) (λC s2 H fp=>Xd (c.comp nd) h4) (λC s2 H fp=>cq cd (c.comp nd) h5) (λC s2 H fp=>(Ax m (c.comp nd) h6).1) c.sc c.hN (LB h3))
 |.lrng m,Γ,X,e,c,h=>by
  refine Ba h λx q l p h=>?_;obtain⟨h1,h2⟩:=An h;obtain⟨hx,g1,hb,g2,g3⟩:=Cf c h1;refine B8 h2 λe h3=>?_;refine Ba h3 λy q' l p' h4=>?_;obtain⟨h5,h6⟩:=An h4;obtain⟨hy,k1,kb,k2,k3⟩:=Cf c h5;refine B8 h6 λz h6=>?_;obtain⟨h7,h8⟩:=An h6;exact Av c.hK rfl (X1 c.calm hx hy g1 k1 hb kb (Ax m c h7).1 (Ak (Cj h8)))
 |.calL f es kk js,Γ,X,e,c,h=>by
  refine Ba h λx q l p h=>?_;refine Bp h λh1 h2 h3=>?_;obtain⟨ps,Fn⟩:=c.fns f x (bB h1);obtain⟨g1,g2,g3⟩:=c.gl h2;obtain⟨a,b,sc,lp,hl,ns,ne,pa⟩:=cr es c h3;obtain⟨hl,l8⟩:=An hl;refine Z5 hl λl1 l2 l3 l4 l5 l6 l7=>?_;obtain⟨cc,P,t1,t2,t3,t4,t5,t6⟩:=c.tab lp (bB l4);have hkd:∀{y:Str},(kd Γ y ==some .cell)=true->X.env.scope.names.lookup y=some .cell:=λ{y} e=>by rw[c.sc];exact aP.mp e
  have hp:=Yb (X:=X) (params:=a) (body:=b) (scope:=sc) (pos:=lp) (P:=P) (c:=cc) (by
   unfold Cu at l1;split at l1
   ·rfl
   ·exact El l1) (λy hy e=>by
   have:=bI.mp l8 y hy;rw[e]at this;exact hkd (by simpa using this)) t1 t2 t3 t4
  refine Av c.hK rfl (XA (xs:=(G.lam kk).1) (lps:=(G.lam kk).2) Fn (c.room.mono (cX _)) g1 g2 ?_ (pa P hp) t5 t6 (c.fn l5) (c.lamM kk ⟨X.env.qual++ "<lambda>",a,b,sc,(G.lam kk).1,(G.lam kk).2⟩ rfl rfl l1 l2 l3) (λcl h1 h2=>RT l2 h1 h2) ⟨bB l6,λi j y e1 e2=>?_⟩)
  ·cases l with
   |nil=>exact El ne.symm
   |cons e0 l=>exact⟨e0,l,rfl,Ak (BC ns).1,Bs (BC ns).2⟩
  obtain⟨q1,q2⟩:=An (bI.mp l7 _ (I0 e1 e2));exact⟨by rw[c.hN];exact bB q1,hkd q2⟩
 |.calv i es,Γ,X,e,c,h=>by
  refine Ba h λx q l p h=>?_;refine Bp h λh1 h2 h3=>?_;obtain⟨v1,v2,v3,v4⟩:=c.vis h1;obtain⟨pa,ns⟩:=Db es c h2;refine Av c.hK rfl ?_;cases l with
  |nil=>exact El h3
  |cons e0 l=>exact X8 v1 v2 v3 v4 c.room c.lamO pa (Ak (BC ns).1) (Bs (BC ns).2)
theorem cr:∀(es:Em) {k':Nat}{js:List Nat}{Γ:Ct}{X:Cx}{l:List Expr},Cg G W Φ k Γ X->pY G es k' js Γ l=true->E4 λa b sc p=>A4 (Wj G k' js Γ a b sc p=true) (AX l=true) (l.isEmpty=false) (∀P,PE X (.Lambda a b sc p) (Qv X a b sc p P)->PA X l (Qu X W a b sc p P (Dy G.cs Φ G.ini G.cf es)))
 |.nil,k',js,Γ,X,l,c,h=>by
  refine B8 h λe h=>?_;refine UZ h λa b sc p h=>?_;exact⟨a,b,sc,p,h,rfl,rfl,λP hp=>X2 hp⟩
 |.cons m r,k',js,Γ,X,l,c,h=>by
  refine Bz h λe l h=>?_;refine Bp h λh1 h2 h3=>?_;obtain⟨a,b,sc,p,hl,ns,ne,pa⟩:=cr r c h3;exact⟨a,b,sc,p,hl,by show(!AS e&&AX l)=true;rw[h2,ns];rfl,rfl,λP hp=>X3 (Ax m c h1).1 (pa P hp) (Ak (Cj h2))⟩
theorem Db:∀(es:Em) {Γ:Ct}{X:Cx}{l:List Expr},Cg G W Φ k Γ X->CG G es Γ l=true->PA X l (Hk W (Dy G.cs Φ G.ini G.cf es))/\AX l=true
 |.nil,Γ,X,l,c,h=>by
  obtain rfl:=AU h;exact⟨HG,rfl⟩
 |.cons m r,Γ,X,l,c,h=>by
  refine Bz h λx l h=>?_;refine Bp h λh1 h2 h3=>?_;obtain⟨pa,ns⟩:=Db r c h3;exact⟨Cw (Ax m c h1).1 pa (Ak (Cj h2)),by show(!AS x&&AX l)=true;rw[h2,ns];rfl⟩
theorem Xf:∀(es:Em) {Γ:Ct}{X:Cx}{l:List Expr}{pos:Pos},Cg G W Φ k Γ X->CG G es Γ l=true->l.isEmpty=false->PE X (.BoolOp .And l pos) (tM W (Po G.cs Φ G.ini G.cf es).1)/\PW X (.BoolOp .And l pos) (ES W (Po G.cs Φ G.ini G.cf es).2)
 |.nil,Γ,X,l,pos,c,h,hl=>by
  obtain rfl:=AU h;exact El hl.symm
 |.cons m .nil,Γ,X,l,pos,c,h,hl=>by
  refine Bz h λx l h=>?_;refine Bp h λh1 h2 h3=>?_;obtain rfl:=AU h3;exact⟨Rt (Ax m c h1).1,WN (Ax m c h1).2⟩
 |.cons m (.cons m' r),Γ,X,l,pos,c,h,hl=>by
  refine Bz h λx l h=>?_;refine Bp h λh1 h2 h3=>?_;have h4:=h3
  revert h3
  refine Bz h4 λy l _ h3=>?_;have ih:=Xf (.cons m' r) (pos:=pos) c h3 rfl;exact⟨gc (Ax m c h1).1 ih.1,bn (Ax m c h1).2 ih.2⟩
theorem Q3:∀(es:Em) {Γ:Ct}{X:Cx}{l:List Expr}{pos:Pos},Cg G W Φ k Γ X->CG G es Γ l=true->l.isEmpty=false->PE X (.BoolOp .Or l pos) (tM W (Pn G.cs Φ G.ini G.cf es).1)/\PW X (.BoolOp .Or l pos) (ES W (Pn G.cs Φ G.ini G.cf es).2)
 |.nil,Γ,X,l,pos,c,h,hl=>by
  obtain rfl:=AU h;exact El hl.symm
 |.cons m .nil,Γ,X,l,pos,c,h,hl=>by
  refine Bz h λx l h=>?_;refine Bp h λh1 h2 h3=>?_;obtain rfl:=AU h3;exact⟨Rt (Ax m c h1).1,bf (Ax m c h1).2⟩
 |.cons m (.cons m' r),Γ,X,l,pos,c,h,hl=>by
  refine Bz h λx l h=>?_;refine Bp h λh1 h2 h3=>?_;have h4:=h3
  revert h3
  refine Bz h4 λy l _ h3=>?_;have ih:=Q3 (.cons m' r) (pos:=pos) c h3 rfl;exact⟨og (Ax m c h1).1 ih.1,nC (Ax m c h1).2 ih.2⟩
theorem TY:∀o {Γ:Ct}{X:Cx}{e:Option Expr},Cg G W Φ k Γ X->jB G o Γ e=true->PO X e (WQ W (Sx G.cs Φ G.ini G.cf o))
 |.no,Γ,X,e,c,h=>by
  obtain rfl:=eA.mp h;exact dv
 |.ye m,Γ,X,e,c,h=>by
  obtain⟨e,rfl,h⟩:=GY h;exact de (Ax m c h).1
theorem Xe:∀(i:MI) {Γ:Ct}{X:Cx}{tg e:Expr},Cg G W Φ k Γ X->pZ G i Γ tg e=true->PI X tg e (Qt W (Pm G.cs Φ G.ini G.cf i))
 |.of m,Γ,X,tg,e,c,h=>oh c.hK (Ax m c h).1
 |.rng1 a,Γ,X,tg,e,c,h=>by
  refine Ba h λx q l p h=>?_;obtain⟨h1,h2⟩:=An h;obtain⟨rfl,g1,hb,g2,g3⟩:=Cf c h1;refine B8 h2 λe h2=>?_;obtain⟨h1,h2⟩:=An h2;exact Xu g1 hb (Ax a c h1).1 (Ak (Cj h2))
 |.rng2 a b,Γ,X,tg,e,c,h=>by
  refine Ba h λx q l p h=>?_;obtain⟨h1,h2⟩:=An h;obtain⟨rfl,g1,hb,g2,g3⟩:=Cf c h1;refine FQ h2 λd e h2=>?_;refine Ti h2 λh1 h2 h3 h4=>?_;exact Xt g1 hb (Ax a c h1).1 (Ax b c h2).1 (by rw[Ak (Cj h3),Ak (Cj h4)];rfl) (Ak (Cj h4))
 |.rng3 a b,Γ,X,tg,e,c,h=>by
  refine Ba h λx q l p h=>?_;obtain⟨h1,h2⟩:=An h;obtain⟨rfl,g1,hb,g2,g3⟩:=Cf c h1;refine Bz h2 λd l h2=>?_;refine FQ h2 λe z h2=>?_;refine PD h2 λh1 h2 h3 h4 h5 h6=>?_;have hs3:=Ak (es:=[]) (env:=X.env) (Cj h6);have hs2:=Ak (es:=[z]) (env:=X.env) (Cj h5);refine Xs g1 hb (Ax a c h1).1 (Ax b c h2).1 ?_ (by rw[Ak (Cj h4),hs2,hs3];rfl) (by rw[hs2,hs3];rfl) hs3;exact NR h3 λv n p h=>SD h
 |.enu a,Γ,X,tg,e,c,h=>by
  refine Ba h λx q l p h=>?_;refine Bp h λh1 h2 h3=>?_;obtain⟨rfl,g1,hb,g2,g3⟩:=Cf c h1;refine B8 h2 λe h2=>?_;obtain⟨h1,h2⟩:=An h2;refine FR h3 λ_ _ _ _=>?_;exact ft c.hK g1 hb (Ax a c h1).1 (Ak (Cj h2))
 |.zip a b,Γ,X,tg,e,c,h=>by
  refine Ba h λx q l p h=>?_;refine Bp h λh1 h2 h3=>?_;obtain⟨rfl,g1,hb,g2,g3⟩:=Cf c h1;refine FQ h2 λd e h2=>?_;refine Ti h2 λh1 h2 h4 h5=>?_;refine FR h3 λ_ _ _ _=>?_;exact dc c.hK g1 hb (Ax a c h1).1 (Ax b c h2).1 (by rw[Ak (Cj h4),Ak (Cj h5)];rfl) (Ak (Cj h5))
theorem cq:∀(es:Em) {Γ:Ct}{X:Cx}{l:List Expr},Cg G W Φ k Γ X->CG G es Γ l=true->PQ X l (ES W (Ov G.cs Φ G.ini G.cf es))
 |.nil,Γ,X,l,c,h=>by
  obtain rfl:=AU h;exact λpins s σ H Q I ⟨F,ρ,μ,hh,S,e,g⟩=>XT pins s σ H Q I (g.ret S rfl)
 |.cons m .nil,Γ,X,l,c,h=>by
  refine Bz h λx l h=>?_;refine Bp h λh1 h2 h3=>?_;obtain rfl:=AU h3;exact XS (Ax m c h1).2
 |.cons _ (.cons _ _),Γ,X,l,c,h=>λpins s σ H Q I ⟨F,ρ,μ,hh,S,e,g⟩=>g.elim
end
end
def DR{ps:List Str}{us:List Value}{x:Str}(hl:us.length=ps.length)(hx:x∈ps):((ps.zip us).lookup x).isNone=false:=by
 induction ps generalizing us with
 |nil=>simp at hx
 |cons p ps ih=>
  cases us with
  |nil=>simp at hl
  |cons u us=>
   rw[bF,bH];by_cases e:x ==p
   ·simp[e]
   have hx:x∈ps:=by
    rcases aR.mp hx with rfl|h
    ·simp at e
    exact h
   have e:(x ==p)=false:=by simpa using e
   rw[e];exact ih (by simpa using hl) hx
theorem DS:∀{ps:List Str}{us:List Value}{S:List (Str×Value)},us.length=ps.length->(∀p∈ps.zip us,S.lookup p.1=some p.2)->ps.filterMap (λn=>(S.lookup n).map (n,·))=ps.zip us
 |[],us,S,_,_=>rfl
 |p::ps,[],S,h,_=>by simp at h
 |p::ps,u::us,S,h,hS=>by
  rw[bF]at hS ⊢;rw[eW,hS (p,u) aG];show(p,u)::_=_;rw[DS (by simpa using h) λq hq=>hS q (aC _ hq)]
theorem Lw:∀{ps:List Str}{us:List Value},ps.Nodup->us.length=ps.length->∀q∈ps.zip us,(ps.zip us).lookup q.1=some q.2
 |[],us,_,_,q,hq=>by simp at hq
 |p::ps,[],_,h,q,hq=>by simp at h
 |p::ps,u::us,nd,h,q,hq=>by
  rw[bF]at hq ⊢;rcases aR.mp hq with rfl|hq
  ·simp[List.lookup_cons]
  have hn:q.1≠p:=λe=>(bT.mp nd).1 (by rw[←e];exact(dB hq).1);rw[bH,show(q.1 ==p)=false from bG.mpr hn];exact Lw (bT.mp nd).2 (by simpa using h) q hq
theorem HV:∀{L:List (Str×Value)},(∀p∈L,(S.lookup p.1).isNone=false)->(forIn L S λx r=>(if (r.lookup x.1).isNone=true then(pure (ForInStep.yield (r++ [(x.1,x.2)])):Sem _) else pure (ForInStep.yield r)))=(pure S:Sem _)
 |[],_=>rfl
 |p::L,h=>by
  rw[eY,h p aG];simp only[Bool.false_eq_true,if_false,pure_bind];exact HV λq hq=>h q (aC _ hq)
def GX{fd:FuncData}{ps:List Str}{us:List Value}{as:List Arg}{kd:List (Option Expr)}{ds:List Expr}(hp:fd.params=⟨[],as,none,[],kd,none,ds⟩)(ha:as.map (·.arg)=ps)(nd:ps.Nodup)(hl:us.length=ps.length) :
 bindArgs fd ⟨us,[]⟩=(seqItems? fd.defaults >>=λ_=>pure (ps.zip us)):=by
 unfold bindArgs;simp only[hp,List.map_nil,List.nil_append,List.append_nil,ha,List.forIn_nil,pure_bind,hl,gt_iff_lt,Nat.lt_irrefl,Option.isNone_none,decide_false,Bool.false_and,Bool.false_eq_true,if_false];congr 1
 funext d
 have hm:∀n,((ps.take n).filter λn=>((ps.zip us).lookup n).isNone)=[]:=λn=>iE.mpr λx hx=>by rw[DR hl (c9 hx)];simp
 simp only[hm,List.isEmpty_nil,Bool.not_true,Bool.false_eq_true,if_false,pure_bind];rw[HV λq hq=>DR hl (eT (dB hq).1)];rw[pure_bind,DS hl (Lw nd hl)]
noncomputable def LD(K:PySem.W.Frag)(v:Value):Bool:=match v with
 |.none=>true
 |.ref a=>(match K.lookup a with
  |some ⟨_,_,.seq _ _,_⟩=>true
  |_=>false)
 |_=>false
noncomputable def Fm(p:Arguments)(ps:List Str):Bool:=match p with
 |⟨[],as,none,[],_,none,_⟩=>decide (as.map (·.arg)=ps)
 |_=>false
def PB{K:Fq}{fd:FuncData}{ps:List Str}(ha:Fm fd.params ps=true)(nd:ps.Nodup)(hd:LD K fd.defaults=true):BF K fd ps []:=by
 intro s us hK hl;rw[dD]at hl ⊢;have e:bindArgs fd ⟨us,[]⟩=(seqItems? fd.defaults >>=λ_=>pure (ps.zip us)):=by
  unfold Fm at ha;split at ha
  ·rename_i as kd ds hp;exact GX hp (bB ha) nd hl
  exact absurd ha aB
 unfold LD at hd;split at hd
 ·rename_i hv;rw[hv]at e;exact BindsTo.of_eq (e.trans rfl)
 ·rename_i a hv;split at hd
  ·rename_i oc od it n sl hk;intro M A E Q hq;rw[e,hv];exact a8 (cD (hK _ _ hk) rfl (aO hq))
  exact absurd hd aB
 exact absurd hd aB
noncomputable def rj(x:Str)(p:Pos)(Γ:Ct)(v:Expr):Bool:=match v with
 |.ListComp _ _ scope q=>Γ.sc.kind== .function&&kd Γ x ==some .local&&p.line ==q.line&& !(scope.names.any λ(n,k)=>n ==x&&(k== .local||k== .cell))
 |_=>false
noncomputable def nQ(x:Str)(Γ:Ct)(v:Expr):Bool:=Dr v||(kd Γ x ==some .cell&&(match v with| .ListComp _ _ _ _=>true|_=>false))
noncomputable def M9(f:Expr->Expr->Pos->Bool)(e:Stmt):Bool:=if h:e.ctorIdx=5 then Stmt.Assign.elim e h (λt v p=>FJ (λt=>f t v p) t) else false
noncomputable def Zf(f:Expr->Bool)(e:Stmt):Bool:=if h:e.ctorIdx=24 then Stmt.Expr.elim e h (λv _=>f v) else false
noncomputable def XE(f:Option Expr->Bool)(e:Stmt):Bool:=if h:e.ctorIdx=3 then Stmt.Return.elim e h (λv _=>f v) else false
noncomputable def YS(f:Expr->List Stmt->List Stmt->Bool)(e:Stmt):Bool:=if h:e.ctorIdx=12 then Stmt.If.elim e h (λt u v _=>f t u v) else false
noncomputable def Za(f:Expr->Expr->List Stmt->List Stmt->Bool)(e:Stmt):Bool:=if h:e.ctorIdx=9 then Stmt.For.elim e h (λt i b e _=>f t i b e) else false
noncomputable def WG(f:Expr->List Stmt->List Stmt->Bool)(e:Stmt):Bool:=if h:e.ctorIdx=11 then Stmt.While.elim e h (λt b e _=>f t b e) else false
noncomputable def o5(e:Stmt):Bool:=if h:e.ctorIdx=25 then Stmt.Pass.elim e h (λ_=>true) else false
noncomputable def qk(e:Stmt):Bool:=if h:e.ctorIdx=26 then Stmt.Break.elim e h (λ_=>true) else false
noncomputable def pQ(e:Stmt):Bool:=if h:e.ctorIdx=27 then Stmt.Continue.elim e h (λ_=>true) else false
section
variable (G:Gt)
mutual
noncomputable def sI:MS->Ct->Stmt->Bool
 |.set i e,Γ=>M9 λt v _=>PU (λx _=>sto Γ i x&&BL G e Γ v&&nQ x Γ v) t
 |.setC i e,Γ=>M9 λt v _=>PU (λx p=>sto Γ i x&&BL G e Γ v&&rj x p Γ v) t
 |.setI o i e,Γ=>M9 λt v _=>L6 (λx y=>BL G o Γ x&&BL G i Γ y&&BL G e Γ v&&Dr v&&C8 y) t
 |.setD o i e,Γ=>M9 λt v _=>L6 (λx y=>BL G o Γ x&&BL G i Γ y&&BL G e Γ v&&Dr v) t
 |.setF o f e,Γ=>M9 λt v _=>Te (λx y _=>y ==G.nm f&&BL G o Γ x&&BL G e Γ v&&Dr v) t
 |.expr e,Γ=>Zf λv=>BL G e Γ v&&Dr v
 |.ret e,Γ=>XE (·.any (BL G e Γ))
 |.ite c a b,Γ=>YS λt u v=>BL G c Γ t&&Lh a Γ u&&Lh b Γ v
 |.for_ t it b,Γ=>Za λtg iter body e=>pX Γ t tg&&pZ G it Γ tg iter&&Dp iter&&Lh b Γ body&&Gz e
 |.wh _ c b,Γ=>WG λt body e=>BL G c Γ t&&Lh b Γ body&&Gz e
 |.any,_=>λ_=>true
noncomputable def Lh:ZH->Ct->List Stmt->Bool
 |.nil,_=>Gz
 |.any,_=>λ_=>true
 |.cons s r,Γ=>Pv λx l=>sI s Γ x&&Lh r Γ l
end
end
def Md{S L:List (Str×Value)}{x:Str}:(S++L).lookup x=(S.lookup x).or (L.lookup x):=by
 induction S with
 |nil=>simp
 |cons p S ih=>
  rw[List.cons_append,bH,bH];cases x ==p.1<;>simp[ih]
def UR{L:List (Str×Value)}{x:Str}(h:x∉L.map (·.1)):L.lookup x=none:=by
 induction L with
 |nil=>rfl
 |cons p L ih=>
  simp only[List.map_cons,List.mem_cons,not_or]at h;rw[bH,show(x ==p.1)=false from bG.mpr h.1];exact ih h.2
theorem K3:∀{L S:List (Str×Value)},(L.map (·.1)).Nodup->(∀p∈L,S.lookup p.1=none)->(forIn L S λ(x:Str×Value) (r:List (Str×Value))=>(if (r.lookup x.1).isNone=true then(pure (ForInStep.yield (r++ [(x.1,x.2)])):Sem _) else pure (ForInStep.yield r)))=pure (S++L)
 |[],S,_,_=>by rw[dD];rfl
 |p::L,S,nd,h=>by
  rw[aF]at nd;obtain⟨n1,n2⟩:=bT.mp nd;rw[eY,h p aG];simp only[Option.isNone_none,if_true,pure_bind];rw[K3 n2 λq hq=>?_]
  ·rw[dE];rfl
  rw[Md,h q (aC _ hq),bH,show(q.1 ==p.1)=false from bG.mpr λe=>n1 (by rw[←e];exact bY hq)];rfl
theorem K2(nd:(L2.map (·.1)).Nodup)(h2:∀p∈L2,S.lookup p.1=none):∀{L1:List (Str×Value)},(∀p∈L1,(S.lookup p.1).isNone=false)->(forIn (L1++L2) S λx r=>(if (r.lookup x.1).isNone=true then(pure (ForInStep.yield (r++ [(x.1,x.2)])):Sem _) else pure (ForInStep.yield r)))=pure (S++L2)
 |[],_=>K3 nd h2
 |p::L1,h=>by
  rw[List.cons_append,eY,h p aG];simp only[Bool.false_eq_true,if_false,pure_bind];exact K2 nd h2 λq hq=>h q (aC _ hq)
theorem Jq{α β:Type}:∀{l:List α}{m:List β},l.length<=m.length->(l.zip m).map (·.1)=l
 |[],_,_=>rfl
 |a::l,[],h=>by simp at h
 |a::l,b::m,h=>by
  rw[bF,aF,Jq (by simpa using h)]
def I9{α β:Type}{l:List α}{us es:List β}(h:us.length<=l.length):(l.take us.length).zip us++(l.drop us.length).zip es=l.zip (us++es):=by
 induction us generalizing l with
 |nil=>simp
 |cons u us ih=>
  cases l with
  |nil=>simp at h
  |cons a l=>
   simp only[List.length_cons,List.take_succ_cons,List.zip_cons_cons,List.drop_succ_cons,List.cons_append];rw[ih (by simpa using h)]
def Tc{K:Fq}{s:Shared}{fd:FuncData}{ps:List Str}{us ds es:List Value}{as:List Arg}{kd:List (Option Expr)}{dx:List Expr}{o:Obj}{n:Nat}(hK:K.In s.heap)(hp:fd.params=⟨[],as,none,[],kd,none,dx⟩)(ha:as.map (·.arg)=ps)(nd:ps.Nodup)
 (hd:fd.defaults=.ref T)(ho:K.lookup T=some o)(hs:o.data=.seq (ds++es).toArray n)(hl:us.length+es.length=ps.length)(hl2:(ds++es).length<=ps.length):BindsTo s fd ⟨us,[]⟩ (ps.zip (us++es)):=by
 have hds:ds.length<=us.length:=by rw[aM]at hl2;lia
 have hle:us.length<=ps.length:=by lia
 have hz:ps.zip us=(ps.take us.length).zip us:=by
  have:=I9 (l:=ps) (us:=us) (es:=[]) hle;simpa using this.symm
 have hin:∀x∈ps.take us.length,((ps.zip us).lookup x).isNone=false:=λx hx=>by
  rw[hz];exact DR (by rw[bC,iB hle]) hx
 have hout:∀x∈ps.drop us.length,(ps.zip us).lookup x=none:=λx hx=>by
  rw[hz];refine UR ?_;rw[Jq (by rw[bC,iB hle];exact aH _)];intro hy;have:=(List.nodup_append.mp (by rw[fO];exact nd:(ps.take us.length++ps.drop us.length).Nodup)).2.2;exact this x hy x hx rfl
 intro M A E Q hq;unfold bindArgs;simp only[hp,List.map_nil,List.nil_append,List.append_nil,ha,List.forIn_nil,pure_bind];rw[hd];refine a8 (cD (hK _ _ ho) hs ?_);have e0:(decide (us.length>ps.length)&&(none:Option Arg).isNone)=false:=by simp;lia
 have e1:((some (ds++es).toArray).getD #[]).toList=ds++es:=by simp
 simp only[e0,e1,Bool.false_eq_true,if_false];have e2:(ds++es).length-ps.length=0:=by lia
 have e3:ps.length-(ds++es).length=us.length-ds.length:=by rw[aM];lia
 simp only[e2,List.drop_zero,e3];have hm:((ps.take (us.length-ds.length)).filter λn=>((ps.zip us).lookup n).isNone)=[]:=iE.mpr λx hx=>by
  rw[hin x ?_]
  ·simp
  exact(List.take_prefix_take_left (Nat.sub_le _ _)).subset hx
 have hc:=I9 (l:=ps.drop (us.length-ds.length)) (us:=ds) (es:=es) (by rw[eE];lia);have e4:us.length-ds.length+ds.length=us.length:=by lia
 rw[List.drop_drop,e4]at hc;simp only[hm,←hc,List.isEmpty_nil,Bool.not_true,Bool.false_eq_true,if_false,pure_bind];rw[K2 (S:=ps.zip us) ?_ (λp h=>hout _ (dB h).1) λp h=>hin _ ?_,pure_bind,hz,I9 hle,DS (us:=us++es) (by rw[aM];lia) (Lw nd (by rw[aM];lia))]
 ·exact aO hq
 ·rw[Jq (by rw[eE];lia)];exact(gR _ _).nodup nd
 have:=(dB h).1;rw[List.take_drop,e4]at this;exact eT this
section
variable {k:Nat}
def cp(c:Cg G W Φ k Γ X){x:Str}{n:Nat}(h:nQ x Γ v=true):swapsWith v (some (.Name x p)) n X.env=pure false:=by
 unfold nQ at h;rcases dR _ _ |>.mp h with h|h
 ·exact Eu h
 obtain⟨h1,h2⟩:=An h;have h1:=aP.mp h1;cases v<;>first|(exact absurd h2 aB)|skip
 have hk:X.env.kindOf x=some .cell:=by show X.env.scope.names.lookup x=_;rw[c.sc];exact h1
 unfold swapsWith;simp only[hk];rw[show(some NameKind.cell ==some NameKind.local)=false from rfl];simp only[Bool.and_false,Bool.false_and]
def cn(c:Cg G W Φ k Γ X){x:Str}{n:Nat}(h:rj x p Γ v=true):(∃a b s q,v=.ListComp a b s q)/\X.env.scope.names.lookup x=some .local/\swapsWith v (some (.Name x p)) n X.env=pure true:=by
 cases v<;>first|(exact absurd (show false=true from h) aB)|skip
 rename_i elt gens scope q;have h:=h;obtain⟨h,h4⟩:=An h;obtain⟨h,h3⟩:=An h;obtain⟨h1,h2⟩:=An h;have h1:Γ.sc.kind=.function:=by cases hk:Γ.sc.kind<;>rw[hk]at h1<;>first|rfl|(exact absurd h1 (by decide))
 have h2:=aP.mp h2;refine⟨⟨_,_,_,_,rfl⟩,by rw[c.sc];exact h2,?_⟩;have hk:X.env.kindOf x=some .local:=by show X.env.scope.names.lookup x=_;rw[c.sc];exact h2
 have hb:X.env.blockKind=.function:=by unfold Env.blockKind;rw[c.sc,h1];rfl
 unfold swapsWith;simp only[hk,hb];have e:((Expr.ListComp elt gens scope q).pos).line=q.line:=rfl;rw[e,h3,h4];rfl
def M8(h:C8 i=true):∀v,assign (.Subscript o i pos) env v=(do
 let ov ←holding [v] (eval o env)
 let iv ←holding [v,ov] (eval i env)
 standAt pos
 holding [v,ov,iv] (setItem ov iv v)
 release [v,ov,iv] []):=by
 intro v;cases i<;>first|rfl|(exact absurd h (by simp[C8]))
def L7:swappedStores [.Subscript o i p] e env=pure none:=by
 unfold swappedStores;cases e<;>rfl
def TX{n:Nat}(h:Dr e=true):swapsWithSole [tg] e n env=pure false:=Eu h
@[elab_as_elim]def Vr{f:Expr->Bool}{P:Stmt->Prop}{e:Stmt}(h:Zf f e=true)(k:∀v p,f v=true->P (.Expr v p)):P e:=el h λq=>Stmt.Expr.elim (motive_2:=λe=>Zf f e=true->P e) e q k h
@[elab_as_elim]def Uj{f:Option Expr->Bool}{P:Stmt->Prop}{e:Stmt}(h:XE f e=true)(k:∀v p,f v=true->P (.Return v p)):P e:=el h λq=>Stmt.Return.elim (motive_2:=λe=>XE f e=true->P e) e q k h
@[elab_as_elim]def Vg{f:Expr->List Stmt->List Stmt->Bool}{P:Stmt->Prop}{e:Stmt}(h:YS f e=true)(k:∀t u v p,f t u v=true->P (.If t u v p)):P e:=el h λq=>Stmt.If.elim (motive_2:=λe=>YS f e=true->P e) e q k h
@[elab_as_elim]def Vl{f:Expr->Expr->List Stmt->List Stmt->Bool}{P:Stmt->Prop}{e:Stmt}(h:Za f e=true)(k:∀t i b o p,f t i b o=true->P (.For t i b o p)):P e:=el h λq=>Stmt.For.elim (motive_2:=λe=>Za f e=true->P e) e q k h
@[elab_as_elim]def TD{f:Expr->List Stmt->List Stmt->Bool}{P:Stmt->Prop}{e:Stmt}(h:WG f e=true)(k:∀t b o p,f t b o=true->P (.While t b o p)):P e:=el h λq=>Stmt.While.elim (motive_2:=λe=>WG f e=true->P e) e q k h
@[elab_as_elim]def EL{f:Expr->Expr->Pos->Bool}{P:Stmt->Prop}{e:Stmt}(h:M9 f e=true)(k:∀t v p,f t v p=true->P (.Assign [t] v p)):P e:=el h λq=>Stmt.Assign.elim (motive_2:=λe=>M9 f e=true->P e) e q (λl v p h=>B8 (P:=λl=>P (.Assign l v p)) h λt h=>k t v p h) h
@[elab_as_elim]def l9{P:Stmt->Prop}{e:Stmt}(h:o5 e=true)(k:∀p,P (.Pass p)):P e:=el h λq=>Stmt.Pass.elim e q k
@[elab_as_elim]def md{P:Stmt->Prop}{e:Stmt}(h:qk e=true)(k:∀p,P (.Break p)):P e:=el h λq=>Stmt.Break.elim e q k
@[elab_as_elim]def lV{P:Stmt->Prop}{e:Stmt}(h:pQ e=true)(k:∀p,P (.Continue p)):P e:=el h λq=>Stmt.Continue.elim e q k
mutual
theorem nS:∀(m:MS) {Γ:Ct}{X:Cx}{st:Stmt},Cg G W Φ k Γ X->sI G m Γ st=true->PS X st (Fy W (ex G.cs Φ G.ini G.cf m))
 |.set i e,Γ,X,st,c,h=>by
  refine EL h λt v p h=>?_;refine Cy h λx q h=>?_;refine Bp h λh1 h2 h3=>?_;obtain⟨s1,s2,s3⟩:=c.sto h1;exact Xn (by rw[c.hN];exact c.nd) s1 s2 (Ax e c h2).1 (cp c h3) s3
 |.setC i e,Γ,X,st,c,h=>by
  refine EL h λt v p h=>?_;refine Cy h λx q h=>?_;refine Bp h λh1 h2 h3=>?_;obtain⟨s1,s2,s3⟩:=c.sto h1;obtain⟨⟨a,b,sc,q',rfl⟩,hl,hsw⟩:=cn (n:=p.line) c h3;cases e with
  |comp xs ys js tg it cd m=>
   refine B8 (show FJ _ b=true from h2) λyy h4=>?_;obtain⟨t,iter,ifs,a0⟩:=yy;refine Z5 h4 λk0 k1 k2 k3 k4 k5 k6=>?_;obtain rfl:a0=0:=aP.mp k0;obtain⟨CS,nd⟩:=SE k1;exact Xr CS c.calm (by rw[c.hN];exact c.nd) s1 hl (Xe it c k2) (λC s2 H fp=>Xd (c.comp nd) k4) (λC s2 H fp=>cq cd (c.comp nd) k5) (λC s2 H fp=>(Ax m (c.comp nd) k6).1) c.sc c.hN (LB k3) hsw
  |_=>exact El h2
 |.setI o i e,Γ,X,st,c,h=>by
  refine EL h λt v p h=>?_;refine Ev h λx y q h=>?_;refine VC h λh1 h2 h3 h4 h5=>?_;exact Xo (Ax o c h1).1 (Ax i c h2).1 (Ax e c h3).1 (M8 h5) (TX h4) L7 rfl
 |.setD o i e,Γ,X,st,c,h=>by
  refine EL h λt v p h=>?_;refine Ev h λx y q h=>?_;refine Ti h λh1 h2 h3 h4=>?_;exact Xq (by have:=c.hu;lia) (Ax o c h1).1 (Ax i c h2).1 (Ax e c h3).1 (Eu h4)
 |.setF o f e,Γ,X,st,c,h=>by
  refine EL h λt v p h=>?_;refine J2 h λx y q h=>?_;refine Ti h λh1 h2 h3 h4=>?_;obtain rfl:=aP.mp h1;rw[←c.nm];exact Xp c.hK c.kt (Ax o c h2).1 (Ax e c h3).1 (Eu h4)
 |.expr e,Γ,X,st,c,h=>by
  refine Vr h λv p h=>?_;obtain⟨h1,h2⟩:=An h;exact X4 (Ax e c h1).1 (Eu h2)
 |.ret e,Γ,X,st,c,h=>by
  refine Uj h λv p h=>?_;obtain⟨v,rfl,h⟩:=GY h;exact dr (Ax e c h).1
 |.ite t a b,Γ,X,st,c,h=>by
  refine Vg h λt' u v p h=>?_;refine Bp h λh1 h2 h3=>?_;exact fg (Ax t c h1).2 (HE a c h2) (HE b c h3)
 |.for_ t it b,Γ,X,st,c,h=>by
  refine Vl h λtg iter body els p h=>?_;refine VC h λh1 h2 h3 h4 h5=>?_;obtain rfl:=AU h5;exact fm c.own c.calm (Xe it c h2) (Xd c h1) (HE b c h4) (LB h3)
 |.wh n t b,Γ,X,st,c,h=>by
  refine TD h λt' body els p h=>?_;refine Bp h λh1 h2 h3=>?_;obtain rfl:=AU h3;exact oa c.own (Ax t c h1).2 (HE b c h2)
 |.any,Γ,X,st,c,h=>gb
theorem HE:∀m {Γ:Ct}{X:Cx}{st:List Stmt},Cg G W Φ k Γ X->Lh G m Γ st=true->Hj X st (Fy W (exs G.cs Φ G.ini G.cf m))
 |.nil,Γ,X,st,c,h=>by
  obtain rfl:=AU h;exact Xl
 |.any,Γ,X,st,c,h=>XC
 |.cons s r,Γ,X,st,c,h=>by
  refine Bz h λx l h=>?_;obtain⟨h1,h2⟩:=An h;exact Ue (nS s c h1) (HE r c h2)
end
end
structure Ae where
 ps:List Str
 N:List Str
 body:ZH
 lp:List Pos:=[]
 df:List MV:=[]
noncomputable def Aa(n:Nat)(rs:List R):En:=rs.map some++List.replicate (n-rs.length) none
noncomputable def fin(len:Nat):SR->AB R
 |some (.rt (.v m),h)=>.ok (.v m) (h.take len)
 |some (.rt (.r k),h)=>if k<len then .ok (.r k) (h.take len) else(match h[k]? with
  |some o=>.ok (.r len) (h.take len++ [o])
  |none=>.no)
 |some (.nx _,h)=>.ok (.v .non) (h.take len)
 |_=>.no
section
variable (G:Gt) (ds:List Ae)
noncomputable def DX:Nat->Fs
 |0=>λ_ _ _=>.no
 |n+1=>λf rs h=>match ds[f]? with
  |some d=>if rs.length=d.ps.length then fin h.length (exs G.cs (DX n) G.ini G.cf d.body (Aa d.N.length rs) h) else .no
  |none=>.no
end
section
def JP(p:ρ <+: ρ'):ρ'.take ρ.length=ρ:=by
 obtain⟨t,rfl⟩:=p;exact List.take_left' rfl
def Su{n:Nat}(hn:ρ.length=n)(g:GE W F ρ (fin n x) Q):GS W {nx:=λ_ H'=>Q .non H',rt:=Q} F ρ x:=by
 subst hn;have back:∀{F' ρ' H' h'},DO F ρ F' ρ'->Bq W F' H' ρ' h'->DO F ρ F' ρ/\Bq W F' H' ρ (h'.take ρ.length):=λn S=>⟨⟨n.s,cA _⟩,by have:=S.take ρ.length;rwa[JP n.p]at this⟩
 match x,g with
 |none,g=>exact g
 |some (.nx μ',h'),g=>exact λF' ρ' H' σ' n S e=>g F' ρ H' .non (back n S).1 (back n S).2 (by show Ap W F' .non .non;unfold Ap;rfl)
 |some (.rt (.v m),h'),g=>exact λF' ρ' H' v n S r=>g F' ρ H' v (back n S).1 (back n S).2 r
 |some (.rt (.r k),h'),g=>
  intro F' ρ' H' v n S r;obtain⟨a,rfl,ha⟩:=r;have g:GE W F ρ (if k<ρ.length then .ok (.r k) (h'.take ρ.length) else(match h'[k]? with|some o=>.ok (.r ρ.length) (h'.take ρ.length++ [o])|none=>.no)) Q:=g;by_cases hk:k<ρ.length
  ·rw[if_pos hk]at g;refine g F' ρ H' _ (back n S).1 (back n S).2 ⟨a,rfl,?_⟩;rw[←JP n.p,dO,if_pos hk];exact ha
  rw[if_neg hk]at g;cases ho:h'[k]? with
  |none=>rw[ho]at g;exact g.elim
  |some o=>
   rw[ho]at g;have S0:=(back n S).2;have l0:(h'.take ρ.length).length=ρ.length:=S0.len.symm;refine g F' (ρ++ [a]) H' _ ⟨n.s,List.prefix_append _ _⟩ ⟨S0.sub,?_,by simp[l0],λj b m h1 h2=>?_,S0.tb,S0.tf⟩ ⟨a,rfl,by simp⟩
   ·obtain⟨t,ht⟩:=n.p;have nd:=S.nd;rw[←ht]at nd ha;rw[aS (by lia)]at ha;have hm:a∈t:=aQ ha;exact nd.sublist (List.Sublist.append (gT _) (List.singleton_sublist.mpr hm))
   by_cases hj:j<ρ.length
   ·rw[aL hj]at h1;rw[aL (by lia)]at h2;exact S0.obj j b m h1 h2
   rw[aS (by lia)]at h1;rw[aS (by lia),l0]at h2;have hz:j-ρ.length=0:=by
    cases hz:j-ρ.length with
    |zero=>rfl
    |succ q=>rw[hz]at h1;simp at h1
   rw[hz]at h1 h2;cases h1;cases h2;exact S.obj k a o ha ho
theorem Gw{α β:Type}{R:α->β->Prop}:∀{l:List α}{l':List β},Paired R l l'->∀{i:Nat}{a:α},l[i]?=some a->∃b,l'[i]?=some b/\R a b
 |[],_,h,i,a,e=>by simp at e
 |x::l,l',h,i,a,e=>by
  cases h with
  |cons q t=>
   cases i with
   |zero=>simp at e;subst e;exact⟨_,rfl,q⟩
   |succ i=>simpa using Gw t (i:=i) (a:=a) (by simpa using e)
def WY(r:Az W F ρ rs vs):BS W F ρ (Aa N.length rs) (B4 N vs):=by
 have l:=CM r;refine⟨by simp[Aa,L2.B4,l],λi q h=>?_⟩;unfold Aa at h;unfold L2.B4;by_cases hi:i<rs.length
 ·rw[aL (by simpa using hi),aJ]at h;cases hq:rs[i]? with
  |none=>rw[hq]at h;simp at h
  |some q'=>
   rw[hq]at h;obtain⟨v,hv,rv⟩:=Gw r hq;refine⟨v,?_,?_⟩
   ·rw[aL (by simp;lia),aJ,hv];rfl
   cases h;exact rv
 rw[aS (by simpa using hi),cG]at h;split at h<;>cases h
end
structure sX(K:PySem.W.Frag)(d:Ae)(G:Gt)(f:Addr)(fd:FuncData):Prop where
 ex:∃(name qual:Str) (params:Arguments) (body:List Stmt) (scope:Scope) (dV kV doc pm:Value) (an:Option Addr) (cdv ct oc:Value) (od:Option Addr) (osl:Array (Option Value)),
  fd=PySem.W.fnOf name qual params body scope dV kV doc pm an cdv ct/\K.lookup f=some ⟨oc,od,.func fd,osl⟩/\PySem.W.codeIn K cdv qual=true/\Gc d.N d.ps scope/\Lh G d.body ⟨d.N,scope,true,d.lp⟩ body=true
 bd:BF K fd d.ps []
 bds:∀ds,Qx d.df ds=true->E2 λdvs dus=>A3 (BF K fd d.ps dus) (Al dvs dus) (∀(W:Wd) (F:Hp),Ad W F ds dvs)
 kp:PySem.W.keepIn K (.ref f)=true
noncomputable def Gt.noL(G:Gt):Gt:={G with lck:=λ_ _ _=>false}
structure Pg(G:Gt)(W:Wd)(ds:List Ae)(nf:Nat)(P:Program)(w:World)(mg:Str->Option Value)(base:Heap)(fa:Nat->Addr)(fd:Nat->FuncData):Prop where
 nm:W.nm=G.nm
 kt:Kt G.cs W
 nb:∀x∈G.blt,mg x=none
 dd:∀(f:Nat) (d:Ae),f<nf->ds[f]?=some d->sX W.K d G (fa f) (fd f)
 fns:∀(f:Nat) (x:Str),G.fns[f]?=some x->(f<nf/\∃d,ds[f]?=some d)/\mg x=some (.ref (fa f))
 cl:∀(c:Nat) (i:Ci),G.cs[c]?=some i->mg i.nm=some (.ref (W.ca c))
 mkk:∀(c:Nat) (i:Ci) (f:Nat),G.cs[c]?=some i->i.exc=false->G.ini c=some f->(f<nf/\∃d,ds[f]?=some d/\G.dfl c=d.df)/\Mk W.K (W.ca c) (fa f)
 n0:∀(c:Nat) (i:Ci),G.cs[c]?=some i->i.exc=false->G.ini c=none->VI W.K mg i.nm (W.ca c)
 mt:∀(m c:Nat) (i:Ci) (f:Nat),G.cs[c]?=some i->i.exc=false->i.mts.lookup m=some f->(f<nf/\∃d,ds[f]?=some d)/\Tv W.K (W.ca c)/\ZG W.K (W.ca c) (W.nm m) (fa f)
 cf:∀(c m f:Nat) (i:Ci),G.cs[c]?=some i->G.cf c m=some f->(f<nf/\∃d,ds[f]?=some d)/\PySem.W.readsIn W.K (W.ca c) (.type "type")=true/\PySem.W.findCls W.K (.ref (W.ca c)) (.type "type") (W.nm m)=some (.val (.ref (fa f)))/\PySem.W.specialIn W.K (.ref (W.ca c)) "__getattribute__"=some (some (.builtin "type.__getattribute__"))
 gI:∀(x:Str) (j:Int),G.glo.lookup x=some (.int j)->∃t,mg x=some (.int j t)
 gS:∀(x:Str) (j:Str),G.glo.lookup x=some (.str j)->∃t,mg x=some (.str j t)
 lamM:∀(k:Nat) (l:Ts),l.xs=(G.lam k).1->l.ps=(G.lam k).2->Cu l.params l.ps=true->BW l.xs l.ps l.scope=true->G.lck k l.body l.scope=true->Tr W k l
 lamR:∀(F:Hp) (k:Nat) (vs:List V) (v:V),W.lamR F k vs v->∃l:Ts,l.xs=(G.lam k).1/\l.ps=(G.lam k).2/\Cu l.params l.ps=true/\BW l.xs l.ps l.scope=true/\G.lck k l.body l.scope=true/\E7 λf c' oc pm ctv cl C=>A3 (v=.ref f) (PH l oc cl C vs) (JB l F f c' oc pm ctv cl C)
 lck:∀(k:Nat) (b:Expr) (sc:Scope),G.lck k b sc=true->E2 λm d=>A5 (ds[k]?=some d) (d.ps.length=((G.lam k).1++(G.lam k).2).length) (d.N.length=((G.lam k).1++(G.lam k).2).length) (d.body=.cons (.ret m) .nil) (BL G.noL m ⟨(G.lam k).1++(G.lam k).2,sc,false,[]⟩ b=true)
 tab:∀(f:Nat) (d:Ae) (p:Pos),f<nf->ds[f]?=some d->p∈d.lp->E2 λc Pt=>A6 ((fd f).code=.ref c) (PySem.W.CodeHd base c Pt) (base.BuiltinsAt mg Pt) (mainGlobals≠Pt) ((Pt,((fd f).qualname++ ".<locals>.")++ "<lambda>",p)∈W.tl) (∀t∈W.tl,t.1=Pt->t=(Pt,((fd f).qualname++ ".<locals>.")++ "<lambda>",p))
section
variable {nf:Nat}
def Nw(h:Cu l.params l.ps=true)(nd:l.ps.Nodup):ZI l:=λcl pm cdv ctv us hl=>by
 unfold Cu at h;split at h
 ·rename_i as hp;exact(GX (fd:=PySem.W.kla_fn "<lambda>" l.qual l.params l.body l.scope cl pm cdv ctv) hp (bB h) nd hl).trans rfl
 exact absurd h aB
def XD(t:tM W (λμ h=>fin h.length (exs cs Φ ini cf (.cons (.ret m) .nil) μ h)) σ H Q):tM W (e2 cs Φ ini cf m).1 σ H Q:=by
 obtain⟨F,ρ,μ,h,S,ee,G⟩:=t;refine⟨F,ρ,μ,h,S,ee,?_⟩;have g:=Su S.len G;cases hx:(e2 cs Φ ini cf m).1 μ h with
 |no=>
  have e:exs cs Φ ini cf (.cons (.ret m) .nil) μ h=none:=by show JI (On _) _ μ h=none;unfold JI On;rw[hx];rfl
  rw[e]at g;exact g
 |ok r h'=>
  have e:exs cs Φ ini cf (.cons (.ret m) .nil) μ h=some (.rt r,h'):=by show JI (On _) _ μ h=_;unfold JI On;rw[hx];rfl
  rw[e]at g;exact g
theorem Pg.ok(pg:Pg G W ds nf P w mg base fa fd):∀n:Nat,(∀f d,f<nf->ds[f]?=some d->D6 P w W.K mg base Ol (2*n+1) (fa f) (fd f) d.ps (JV W (DX G ds n) f))/\Tq P w W.K mg base W (DX G ds n) (2*n+1)
 |0=>⟨λf d _ hd=>⟨λvs H Q E ⟨_,_,_,_,_,_,g⟩=>g.elim,λA outer s H args us vs Q E _ _ _ _ ⟨_,_,_,_,_,_,g⟩=>g.elim⟩,λF k vs v hl=>by
  obtain⟨l,e1,e2,a0,a1,hck,r⟩:=pg.lamR F k vs v hl;refine⟨l,λ_ _=>.no,Nw a0 ?_,λ_ _=>.inl rfl,λf c' cl A outer s H _ _ pins s' σ H' Q I ⟨_,_,_,_,_,_,g⟩=>g.elim,r⟩;unfold BW at a1;simp only[Bool.and_eq_true,decide_eq_true_eq]at a1;exact a1.1.1.1.2.sublist (eZ _ _)⟩
 |n+1=>by
  obtain⟨ih,ihL⟩:=Pg.ok pg n;have hfns:∀f x,G.fns[f]?=some x->∃ps,PK P w W.K mg base x (2*n+1) ps (JV W (DX G ds n) f):=λf x hx=>by
   obtain⟨⟨hf,d,hd⟩,hm⟩:=pg.fns f x hx;exact⟨d.ps,fa f,fd f,ih f d hf hd,hm,(pg.dd f d hf hd).kp,(pg.dd f d hf hd).bd⟩
  have hmkk:∀c i f es,G.cs[c]?=some i->i.exc=false->G.ini c=some f->Qx (G.dfl c) es=true->E5 λfi fdd ps dvs dus=>A5 (Mk W.K (W.ca c) fi) (D6 P w W.K mg base Ol (2*n+1) fi fdd ps (JV W (DX G ds n) f)) (BF W.K fdd ps dus) (Al dvs dus) (∀F,Ad W F es dvs):=λc i f es hc he hi hs=>by
   obtain⟨⟨hf,d,hd,e⟩,hm⟩:=pg.mkk c i f hc he hi;rw[e]at hs;obtain⟨dvs,dus,b1,b2,b3⟩:=(pg.dd f d hf hd).bds es hs;exact⟨fa f,fd f,d.ps,dvs,dus,hm,ih f d hf hd,b1,b2,b3 W⟩
  have hmt:∀m c i f,G.cs[c]?=some i->i.exc=false->i.mts.lookup m=some f->∃ps,W6 P w W.K mg base Ol (2*n+1) (W.ca c) (W.nm m) ps (JV W (DX G ds n) f):=λm c i f hc he hi=>by
   obtain⟨⟨hf,d,hd⟩,hm,hn⟩:=pg.mt m c i f hc he hi;exact⟨d.ps,fa f,fd f,hm,hn,ih f d hf hd,(pg.dd f d hf hd).bd⟩
  have hcf:∀c m f i,G.cs[c]?=some i->G.cf c m=some f->∃ps,qJ P w W.K mg base i.nm (W.nm m) (2*n+1) ps (JV W (DX G ds n) f):=λc m f i hc hi=>by
   obtain⟨⟨hf,d,hd⟩,h1,h2,h3⟩:=pg.cf c m f i hc hi;exact⟨d.ps,W.ca c,fa f,fd f,ih f d hf hd,pg.cl c i hc,h1,h2,h3,(pg.dd f d hf hd).kp,(pg.dd f d hf hd).bd⟩
  refine⟨λf d hfn hd=>?_,λF k vs v hl=>?_⟩
  ·obtain⟨⟨name,qual,params,body,scope,dV,kV,doc,pm,an,cdv,ct,oc,od,osl,efd,lk,hcd,S,ck⟩,bd,_,kp⟩:=pg.dd f d hfn hd;have htab:=λp hp=>pg.tab f d p hfn hd hp;rw[efd]at lk htab ⊢;have go:∀{rs:List R}{h:MH}{F ρ Q},GE W F ρ (DX G ds (n+1) f rs h) Q->rs.length=d.ps.length/\GE W F ρ (fin h.length (exs G.cs (DX G ds n) G.ini G.cf d.body (Aa d.N.length rs) h)) Q:=by
    intro rs h F ρ Q g;simp only[DX,hd]at g;by_cases hl:rs.length=d.ps.length
    ·rw[if_pos hl]at g;exact⟨hl,g⟩
    rw[if_neg hl]at g;exact g.elim
   refine jw (k:=2*n+2) lk hcd S (λvs H Q E ⟨F,ρ,h,rs,S',r,g⟩=>by rw[←CM r];exact(go g).1) λA outer s H vs Q E hr hsp=>?_;obtain⟨F,ρ,h,rs,S',r,g⟩:=hsp;refine⟨_,HE d.body (Φ:=DX G ds n) (k:=2*n+1) (Γ:=⟨d.N,scope,true,d.lp⟩) ?_ ck,⟨F,ρ,Aa d.N.length rs,h,S',WY r,Su S'.len (go g).2⟩⟩;exact {
    hK:=rfl,nm:=pg.nm,kt:=pg.kt,nb:=pg.nb,fns:=hfns,cl:=pg.cl,mkk:=hmkk,n0:=pg.n0,mt:=λm=>⟨hmt m⟩,cf:=hcf
    gI:=pg.gI,gS:=pg.gS,calm:=rfl,room:=hr,hN:=rfl,nd:=S.nd,sc:=rfl,fn:=λ_ _=>rfl
    own:=PassesOwn.leaving
    lamM:=pg.lamM,lamO:=ihL
    tab:=htab}
  obtain⟨l,e1,e2,a0,a1,hck,r⟩:=pg.lamR F k vs v hl;obtain⟨m,d,hd,dp,dN,db,ck⟩:=pg.lck k l.body l.scope hck;have nd:(l.xs++l.ps).Nodup:=by
   have:=a1;unfold BW at this;simp only[Bool.and_eq_true,decide_eq_true_eq]at this;exact this.1.1.1.2
  refine⟨l,λμ h=>fin h.length (exs G.cs (DX G ds n) G.ini G.cf d.body μ h),Nw a0 (nd.sublist (eZ _ _)),λrs h=>?_,λf c' cl A outer s H sc hr=>?_,r⟩
  ·simp only[DX,hd];by_cases hl:rs.length=d.ps.length
   ·rw[if_pos hl];refine .inr ⟨by rw[hl,dp,←e1,←e2,aM],?_⟩;show fin _ (exs _ _ _ _ _ (Aa d.N.length rs) h)=_;unfold Aa;rw[dN,←e1,←e2]
   rw[if_neg hl];exact .inl rfl
  rw[db];rw[←e1,←e2]at ck;refine PE.of (Ax (G:=G.noL) (W:=W) (Φ:=DX G ds n) (k:=2*n+1) m (Γ:=⟨l.xs++l.ps,l.scope,false,[]⟩) ?_ ck).1 λσ H Q t=>XD t;exact {
   hK:=rfl,nm:=pg.nm,kt:=pg.kt,nb:=pg.nb,fns:=hfns,cl:=pg.cl,mkk:=hmkk,n0:=pg.n0,mt:=λm=>⟨hmt m⟩,cf:=hcf
   gI:=pg.gI,gS:=pg.gS,calm:=rfl,room:=hr.mono (by lia),hN:=rfl,nd:=nd,sc:=rfl,fn:=λz=>by cases z
   own:=PassesOwn.never
   lamM:=λk l _ _ _ _ z=>by cases z
   lamO:=ihL
   tab:=λp hp=>absurd hp (by simp)}
end
structure Tb where
 cs:List Ci
 names:List Str
 glo:List (Str×MV)
 blt:List Str
 cfl:List ((Nat×Nat)×Nat)
 fns:List Str
 mths:List (Nat×Nat)
 ds:List Ae
 lds:List (List Str×List Str×ME)
noncomputable def Ho(l:List Str)(i:Nat):Str:=match l[i]? with
 |some x=>x
 |none=>⟨(List.replicate (i+60) 63).toArray⟩
noncomputable def CO(l:List Str):Bool:=decide l.Nodup&&l.all λx=>decide (x.cps.size<60)
theorem Dq{α:Type}:∀{l:List α}(nd:l.Nodup) {i j:Nat}{x:α},l[i]?=some x->l[j]?=some x->i=j
 |[],_,i,j,x,h,_=>by simp at h
 |a::l,nd,i,j,x,h1,h2=>by
  obtain⟨n1,n2⟩:=bT.mp nd;cases i with
  |zero=>
   cases j with
   |zero=>rfl
   |succ j=>simp at h1 h2;subst h1;exact absurd (aQ h2) n1
  |succ i=>
   cases j with
   |zero=>simp at h1 h2;subst h2;exact absurd (aQ h1) n1
   |succ j=>exact bQ Nat.succ (Dq n2 (i:=i) (j:=j) (x:=x) (by simpa using h1) (by simpa using h2))
def RC(h:CO l=true):∀i j,Ho l i=Ho l j->i=j:=by
 unfold CO at h;simp only[Bool.and_eq_true,decide_eq_true_eq,List.all_eq_true]at h;obtain⟨nd,sz⟩:=h;intro i j e;unfold Ho at e;cases hi:l[i]? with
 |none=>
  cases hj:l[j]? with
  |none=>
   rw[hi,hj]at e;have:=bQ (λx:Str=>x.cps.size) e;simp at this
   lia
  |some y=>
   rw[hi,hj]at e;have:=sz y (aQ hj);have e:=bQ (λx:Str=>x.cps.size) e;simp at e
   lia
 |some x=>
  cases hj:l[j]? with
  |none=>
   rw[hi,hj]at e;have:=sz x (aQ hi);have e:=bQ (λx:Str=>x.cps.size) e;simp at e
   lia
  |some y=>
   rw[hi,hj]at e;obtain⟨l1,g1⟩:=a9.mp hi;obtain⟨l2,g2⟩:=a9.mp hj;exact Dq nd hi (by rw[hj];exact bQ some e.symm)
noncomputable def Tb.lam(T:Tb)(k:Nat):Option (List Str×List Str×ME):=if k<T.ds.length then none else T.lds[k-T.ds.length]?
noncomputable def Tb.gt0(T:Tb):Gt:={cs:=T.cs,fns:=T.fns,nm:=Ho T.names,glo:=T.glo,blt:=T.blt,ini:=λc=>(T.cs[c]?).bind Ci.init,dfl:=λc=>(((T.cs[c]?).bind Ci.init).bind λf=>T.ds[f]?).elim [] Ae.df,cf:=λc m=>T.cfl.lookup (c,m),lam:=λk=>((T.lam k).map λl=>(l.1,l.2.1)).getD ([],[]),lck:=λ_ _ _=>false}
noncomputable def Tb.gt(T:Tb):Gt:={T.gt0 with lck:=λk b sc=>match T.lam k with
 |some (xs,ps,m)=>BL T.gt0 m ⟨xs++ps,sc,false,[]⟩ b
 |none=>false}
noncomputable def Tb.all(T:Tb):List Ae:=T.ds++T.lds.map λl=>⟨l.1++l.2.1,l.1++l.2.1,.cons (.ret l.2.2) .nil,[],[]⟩
def Tb.all_lt{T:Tb}{f:Nat}(h:f<T.ds.length):T.all[f]?=T.ds[f]?:=aL h
def Tb.lam_all{T:Tb}{k:Nat}{l:List Str×List Str×ME}(h:T.lam k=some l):T.all[k]?=some ⟨l.1++l.2.1,l.1++l.2.1,.cons (.ret l.2.2) .nil,[],[]⟩:=by
 unfold Tb.lam at h;split at h
 ·cases h
 rename_i hk;unfold Tb.all;rw[aS (by lia),aJ,h];rfl
noncomputable def GZ(K:PySem.W.Frag)(x:Str):Addr:=match PySem.W.nsIn K mainGlobals x with
 |some (some (.ref a))=>a
 |_=>0
noncomputable def Y1(K:PySem.W.Frag)(C:Addr)(m:Str):Addr:=match PySem.W.findIn K (.ref C) m with
 |some (some (.ref a))=>a
 |_=>0
noncomputable def CI(K:PySem.W.Frag)(cs:List Ci)(c:Nat):Addr:=match cs[c]? with
 |some i=>GZ K i.nm
 |none=>0
noncomputable def B5(K:PySem.W.Frag)(T:Tb)(f:Nat):Addr:=match T.fns[f]? with
 |some x=>GZ K x
 |none=>(match T.mths[f-T.fns.length]? with
  |some (c,m)=>Y1 K (CI K T.cs c) (Ho T.names m)
  |none=>0)
noncomputable def Fe(K:PySem.W.Frag)(f:Addr):FuncData:=match K.lookup f with
 |some ⟨_,_,.func fd,_⟩=>fd
 |_=>default
noncomputable def HC(K:PySem.W.Frag)(f:Addr):Addr:=match (Fe K f).code with
 |.ref c=>(match K.lookup c with
  |some ⟨_,_,.fields vs,_⟩=>(match vs[11]? with
   |some (Value.ref P)=>P
   |_=>0)
  |_=>0)
 |_=>0
noncomputable def Es(K:PySem.W.Frag)(T:Tb):Nat->List Ae->List (Addr×Str×Pos)
 |_,[]=>[]
 |f,d::ds=>(d.lp.map λp=>(HC K (B5 K T f),((Fe K (B5 K T f)).qualname++ ".<locals>.")++ "<lambda>",p))++Es K T (f+1) ds
theorem JO{K:Fq}{T:Tb}{f:Nat}{d:Ae}{p:Pos}:∀{ds:List Ae}{n:Nat},ds[f]?=some d->p∈d.lp->(HC K (B5 K T (n+f)),((Fe K (B5 K T (n+f))).qualname++ ".<locals>.")++ "<lambda>",p)∈Es K T n ds
 |[],n,h,_=>by simp at h
 |q::ds,n,h,hp=>by
  unfold Es;cases f with
  |zero=>simp at h;subst h;exact dA _ (bY (f:=λp=>(HC K (B5 K T n),((Fe K (B5 K T n)).qualname++ ".<locals>.")++ "<lambda>",p)) hp)
  |succ f=>have:=JO (K:=K) (T:=T) (n:=n+1) (f:=f) (ds:=ds) (by simpa using h) hp;rw[show n+1+f=n+(f+1) by lia]at this;exact bD _ this
def je(T:Tb)(F:Hp)(k:Nat)(vs:List V)(v:V):Prop:=∃l:Ts,l.xs=(T.gt.lam k).1/\l.ps=(T.gt.lam k).2/\Cu l.params l.ps=true/\BW l.xs l.ps l.scope=true/\T.gt.lck k l.body l.scope=true/\E7 λf c' oc pm ctv cl C=>A3 (v=.ref f) (PH l oc cl C vs) (JB l F f c' oc pm ctv cl C)
noncomputable def lC(K:PySem.W.Frag)(T:Tb)(h:CO T.names=true):Wd:={K:=K,ca:=CI K T.cs,nm:=Ho T.names,inj:=RC h,lamR:=je T,lamS:=λs ⟨l,a,b,c,d,e,f,c',oc,pm,ctv,cl,C,x,y,z⟩=>⟨l,a,b,c,d,e,f,c',oc,pm,ctv,cl,C,x,y,z.same s⟩,tl:=Es K T 0 T.ds}
noncomputable def EN{α:Type}(p:Nat->α->Bool):Nat->List α->Bool
 |_,[]=>true
 |n,a::l=>p n a&&EN p (n+1) l
theorem CJ{α:Type}{p:Nat->α->Bool}:∀{n:Nat}{l:List α},EN p n l=true->∀{c:Nat}{i:α},l[c]?=some i->p (n+c) i=true
 |n,[],h,c,i,e=>by simp at e
 |n,a::l,h,c,i,e=>by
  obtain⟨h1,h2⟩:=An (show(p n a&&EN p (n+1) l)=true from h);cases c with
  |zero=>simp at e;subst e;exact h1
  |succ c=>have:=CJ h2 (c:=c) (i:=i) (by simpa using e);rwa[show n+1+c=n+(c+1) by lia]at this
noncomputable def Xk(N ps:List Str)(sc:Scope):Bool:=sc.kind== .function&& !sc.isCoroutine&& !sc.isGenerator&&decide N.Nodup&&decide (N.take ps.length=ps)&&ps.all (λx=>sc.names.lookup x ==some .local||sc.names.lookup x ==some .cell)&&sc.names.all (λy=>y.2 != .free)
def Ud(h:Xk N ps sc=true):Gc N ps sc:=by
 unfold Xk at h;simp only[Bool.and_eq_true,beq_iff_eq,decide_eq_true_eq,Bool.not_eq_true',List.all_eq_true,Bool.or_eq_true,bne_iff_ne]at h;obtain⟨⟨⟨⟨⟨⟨a,b⟩,c⟩,d⟩,e⟩,f⟩,g⟩:=h;exact⟨by cases hk:sc.kind<;>rw[hk]at a<;>first|rfl|(exact absurd a (by decide)),b,c,d,e,f,g⟩
noncomputable def Sw(K:PySem.W.Frag)(ps:List Str)(fd:FuncData):Bool:=fd.globals ==mainGlobals&&fd.closure.isEmpty&&fd.builtins ==builtinsNs&&PySem.W.codeIn K fd.code fd.qualname&&Fm fd.params ps&&LD K fd.defaults&&decide ps.Nodup
noncomputable def gi:MV->Value->Bool
 |.non,.none=>true
 |.bl a,.bool b=>a ==b
 |.int a,.int b _=>a ==b
 |_,_=>false
noncomputable def MY:List MV->List Value->Bool
 |[],[]=>true
 |a::l,b::m=>gi a b&&MY l m
 |_,_=>false
noncomputable def Zm(K:PySem.W.Frag)(ps:List Str)(fd:FuncData)(df:List MV):Bool:=df.isEmpty||(decide (df.length<=ps.length)&&match fd.defaults with
 |.ref T=>(match K.lookup T with
  |some ⟨_,_,.seq its _,_⟩=>MY df its.toList
  |_=>false)
 |_=>false)
noncomputable def Zb(K:PySem.W.Frag)(G:Gt)(d:Ae)(f:Addr):Bool:=match K.lookup f with
 |some ⟨_,_,.func fd,_⟩=>(match fd.body with
  |.stmts body=>Sw K d.ps fd&&Xk d.N d.ps fd.scope&&Lh G d.body ⟨d.N,fd.scope,true,d.lp⟩ body&&Zm K d.ps fd d.df
  |_=>false)
 |_=>false
def Vp{K:Fq}{ps:List Str}{fd:FuncData}{body:List Stmt}(h:Sw K ps fd=true)(hb:fd.body=.stmts body):fd=PySem.W.fnOf fd.name fd.qualname fd.params body fd.scope fd.defaults fd.kwdefaults fd.doc fd.pyModule fd.annotations fd.code fd.closureTuple/\PySem.W.codeIn K fd.code fd.qualname=true/\BF K fd ps []:=by
 unfold Sw at h;simp only[Bool.and_eq_true,beq_iff_eq,decide_eq_true_eq]at h;obtain⟨⟨⟨⟨⟨⟨a,b⟩,c⟩,d⟩,e⟩,f⟩,g⟩:=h;refine⟨?_,d,PB e g f⟩;have b':fd.closure=[]:=by simpa using b
 clear b d e f;cases fd;simp only at a b' c hb;subst a b' c hb;rfl
def Zg(h:pE a b=true):a=b:=by
 cases a<;>cases b<;>first|rfl|(exact El h)|(rw[aP.mp h])
theorem NM:∀{l m:List MV},Vu l m=true->l=m
 |[],[],_=>rfl
 |[],_::_,h=>El h
 |_::_,[],h=>El h
 |a::l,b::m,h=>by obtain⟨h1,h2⟩:=An (show(pE a b&&Vu l m)=true from h);rw[Zg h1,NM h2]
theorem Ke:∀{l:List MV}{us:List Value},MY l us=true->l.length=us.length/\∀n,∃vs,Al vs (us.drop n)/\∀W F,Ad W F (l.drop n) vs
 |[],[],_=>⟨rfl,λn=>⟨[],by rw[iM];exact .nil,λ_ _=>by rw[iM];exact .nil⟩⟩
 |[],_::_,h=>El h
 |_::_,[],h=>El h
 |a::l,u::us,h=>by
  obtain⟨h1,h2⟩:=An (show(gi a u&&MY l us)=true from h);obtain⟨i1,i2⟩:=Ke h2;refine⟨by simp[i1],λn=>?_⟩;cases n with
  |succ n=>exact i2 n
  |zero=>
   obtain⟨vs,v1,v2⟩:=i2 0;obtain⟨x,x1,x2⟩:∃x,As x u/\∀W F,Ap W F a x:=by
    cases a<;>cases u<;>first|(exact El h1)|skip
    ·exact⟨.non,rfl,λW F=>by unfold Ap;rfl⟩
    ·obtain rfl:=aP.mp h1;exact⟨.bl _,rfl,λW F=>by unfold Ap;rfl⟩
    obtain rfl:=aP.mp h1;exact⟨.int _,⟨_,rfl⟩,λW F=>by unfold Ap;rfl⟩
   exact⟨x::vs,.cons x1 v1,λW F=>.cons (x2 W F) (v2 W F)⟩
def Vy{K:Fq}{ps:List Str}{fd:FuncData}{df:List MV}(h1:Sw K ps fd=true)(bd:BF K fd ps [])(h:Zm K ps fd df=true):∀ds,Qx df ds=true->E2 λdvs dus=>A3 (BF K fd ps dus) (Al dvs dus) (∀(W:Wd) (F:Hp),Ad W F ds dvs):=by
 intro ds hs;have hs:df.drop (df.length-ds.length)=ds:=NM hs;unfold Zm at h;rcases(dR ..).mp h with h|h
 ·have e:df=[]:=eG.mp h;rw[e,iM]at hs;subst hs;exact⟨[],[],bd,.nil,λW F=>.nil⟩
 obtain⟨hl,h⟩:=An h;have hl:=bB hl;split at h
 ·rename_i T hT;split at h
  ·rename_i oc od its n sl hk;obtain⟨i1,i2⟩:=Ke h;obtain⟨vs,v1,v2⟩:=i2 (df.length-ds.length);rw[hs]at v2;refine⟨vs,_,λs us hK hlen=>?_,v1,v2⟩;unfold Sw at h1;simp only[Bool.and_eq_true,decide_eq_true_eq]at h1;obtain⟨⟨⟨_,ha⟩,_⟩,nd⟩:=h1;unfold Fm at ha;split at ha
   ·rename_i as kd dx hp;have ha:=bB ha;have e:its.toList.take (df.length-ds.length)++its.toList.drop (df.length-ds.length)=its.toList:=fO _ _;rw[aM]at hlen;exact Tc hK hp ha nd hT hk (by show Data.seq its n=_;rw[e]) hlen (by rw[e,←i1];exact hl)
   exact El ha
  exact El h
 exact El h
def NI{K:Fq}{G:Gt}{d:Ae}{f:Addr}(h:Zb K G d f=true):sX K d G f (Fe K f):=by
 unfold Zb at h;split at h
 ·rename_i oc od fd osl hk;split at h
  ·rename_i body hb;obtain⟨h,h4⟩:=An h;obtain⟨h,h3⟩:=An h;obtain⟨h1,h2⟩:=An h;obtain⟨e,c,bd⟩:=Vp h1 hb;have ef:Fe K f=fd:=by unfold Fe;rw[hk]
   rw[ef];exact⟨⟨_,_,_,_,_,_,_,_,_,_,_,_,oc,od,osl,e,hk,c,Ud h2,h3⟩,bd,Vy h1 bd h4,by unfold PySem.W.keepIn;simp only[hk]⟩
  exact absurd h aB
 exact absurd h aB
noncomputable def EA(K:PySem.W.Frag)(C:Addr):Bool:=PySem.W.plainGet K C Str.empty&&PySem.W.hasDictIn K C&&PySem.W.plainOver K C&&PySem.W.findIn K (.ref C) "__setattr__" ==some (some (.builtin "object.__setattr__"))
 && PySem.W.findIn K (.ref C) "__class__" ==some (some (.builtin "object.__class__"))&&PySem.W.specialIn K (.builtin "object.__class__") "__get__" ==some (some (.builtin "getset_descriptor.__get__"))&&PySem.W.takesIn K (.builtin "object.__class__") ==some true&&PySem.W.mroIn K C (.type "object") ==some true
noncomputable def IU(K:PySem.W.Frag)(T:Tb)(C:Addr):Option Nat->Bool
 |some f=>decide (f<T.ds.length)&&PySem.W.makesIn K C&&PySem.W.findIn K (.ref C) "__init__" ==some (some (.ref (B5 K T f)))&&PySem.W.isFn K (.ref (B5 K T f))&&PySem.W.keepIn K (.ref C)
 |none=>PySem.W.makesIn K C&&PySem.W.findIn K (.ref C) "__init__" ==some (some (.builtin "object.__init__"))&&PySem.W.keepIn K (.ref C)
noncomputable def Y0(K:PySem.W.Frag)(T:Tb)(C:Addr)(m f:Nat):Bool:=decide (f<T.ds.length)&&PySem.W.findIn K (.ref C) (Ho T.names m) ==some (some (.ref (B5 K T f)))&&PySem.W.isFn K (.ref (B5 K T f))
noncomputable def FC(K:PySem.W.Frag)(T:Tb)(c:Nat)(i:Ci):Bool:=
 PySem.W.nsIn K mainGlobals i.nm ==some (some (.ref (CI K T.cs c)))
 && EN (λd _=>PySem.W.kitOne K (.ref (CI K T.cs c)) (.ref (CI K T.cs d)) ==some (decide (d∈i.isa))) 0 T.cs
 && (match i.exc with
  |true=>true
  |false=>EA K (CI K T.cs c)&&(i.flds.all λf=>PySem.W.findIn K (.ref (CI K T.cs c)) (Ho T.names f) ==some none)&&IU K T (CI K T.cs c) i.init&&i.mts.all λp=>Y0 K T (CI K T.cs c) p.1 p.2)
noncomputable def jD(K:PySem.W.Frag)(T:Tb)(p:(Nat×Nat)×Nat):Bool:=decide (p.2<T.ds.length)&&PySem.W.readsIn K (CI K T.cs p.1.1) (.type "type")&&(match PySem.W.findCls K (.ref (CI K T.cs p.1.1)) (.type "type") (Ho T.names p.1.2) with
 |some (.val (.ref a))=>a ==B5 K T p.2
 |_=>false)&&PySem.W.specialIn K (.ref (CI K T.cs p.1.1)) "__getattribute__" ==some (some (.builtin "type.__getattribute__"))
noncomputable def YX(K:PySem.W.Frag)(p:Str×MV):Bool:=match p.2,PySem.W.nsIn K mainGlobals p.1 with
 |.int i,some (some (.int j _))=>i ==j
 |.str i,some (some (.str j _))=>i ==j
 |_,_=>false
noncomputable def Zx(K:PySem.W.Frag)(c P:Addr):Bool:=match K.lookup c with
 |some o=>(match o.cls with
  |.type t=>t== "code"
  |_=>false)&&(match o.data with
  |.fields vs=>(match vs[11]? with
   |some (Value.ref P')=>P' ==P
   |_=>false)&&(match vs.getD 11 .none with
   |.ref P'=>P' ==P
   |_=>false)&&(match vs.getD 18 .none with
   |.str _ _=>true
   |_=>false)&&(match vs.getD 7 .none with
   |.int _ _=>true
   |_=>false)&&(match vs.getD 9 .none with
   |.bool _=>true
   |_=>false)&&(match vs.getD 10 .none with
   |.int _ _=>true
   |_=>false)
  |_=>false)&&c !=P
 |none=>false
def NX{K:Fq}(X:K.In h)(hh:Zx K c P=true):PySem.W.CodeHd h c P/\isCodeTable h P:=by
 unfold Zx at hh;split at hh
 ·rename_i o ho;obtain⟨hh,h3⟩:=An hh;obtain⟨h1,h2⟩:=An hh;split at h1
  ·rename_i t ht;obtain rfl:=aP.mp h1;split at h2
   ·rename_i vs hvs;obtain⟨h2,k6⟩:=An h2;obtain⟨h2,k5⟩:=An h2;obtain⟨h2,k4⟩:=An h2;obtain⟨h2,k3⟩:=An h2;obtain⟨k1,k2⟩:=An h2;split at k1<;>first|(exact absurd k1 aB)|skip
    rename_i P1 e1;obtain rfl:=aP.mp k1;split at k2<;>first|(exact absurd k2 aB)|skip
    rename_i P2 e2;obtain rfl:=aP.mp k2;split at k3<;>first|(exact absurd k3 aB)|skip
    rename_i e3;split at k4<;>first|(exact absurd k4 aB)|skip
    rename_i e4;split at k5<;>first|(exact absurd k5 aB)|skip
    rename_i e5;split at k6<;>first|(exact absurd k6 aB)|skip
    rename_i e6;exact⟨⟨o,vs,_,_,_,_,_,_,_,X _ _ ho,ht,hvs,e1,e2,e3,e4,e5,e6,bne_iff_ne.mp h3⟩,c,o,vs,X _ _ ho,ht,hvs,e1⟩
   exact absurd h2 aB
  exact absurd h1 aB
 exact absurd hh aB
def jH(hbm:Lr base mg)(N:base.Ns mainGlobals mg)(hn:base.get? P=none):base.BuiltinsAt mg P:=by
 obtain⟨bm,o,b1,b2,b3,b4,b5,b6⟩:=hbm;refine⟨bm,o,b1,b2,λz=>?_,(λz=>by rw[z,hn]at b3;cases b3),b3,b4,b5,b6⟩;obtain⟨o',es,ep,e,hd,_⟩:=N;rw[z,e]at b3;cases b3;rw[hd]at b6;cases b6
noncomputable def DT(K:PySem.W.Frag)(f:Addr):Bool:=match (Fe K f).code with
 |.ref c=>Zx K c (HC K f)&&mainGlobals !=HC K f
 |_=>false
noncomputable def Qq(K:PySem.W.Frag)(T:Tb):Bool:=EN (λf d=>d.lp.isEmpty||DT K (B5 K T f)) 0 T.ds&&decide ((Es K T 0 T.ds).map (·.1)).Nodup
theorem C9{α β:Type}{g:α->β}:∀{l:List α},(l.map g).Nodup->∀{a b:α},a∈l->b∈l->g a=g b->a=b
 |[],_,a,b,h,_,_=>by simp at h
 |x::l,nd,a,b,ha,hb,e=>by
  rw[aF]at nd;obtain⟨n1,n2⟩:=bT.mp nd;rcases aR.mp ha with h1|h1
  ·rcases aR.mp hb with h2|h2
   ·rw[h1,h2]
   exact absurd (bY (f:=g) h2) (by rw[←e,h1];exact n1)
  rcases aR.mp hb with h2|h2
  ·exact absurd (bY (f:=g) h1) (by rw[e,h2];exact n1)
  exact C9 n2 h1 h2 e
noncomputable def OI(K:PySem.W.Frag)(T:Tb):Bool:=
 T.blt.all (λx=>PySem.W.nsIn K mainGlobals x ==some none)&&T.glo.all (YX K)&&EN (λf d=>Zb K T.gt d (B5 K T f)) 0 T.ds
 && decide (T.fns.length<=T.ds.length)&&T.fns.all (λx=>PySem.W.nsIn K mainGlobals x ==some (some (.ref (GZ K x))))&&EN (FC K T) 0 T.cs&&T.cfl.all (jD K T)&&Qq K T
theorem B2{α β:Type}[BEq α][LawfulBEq α]:∀{l:List (α×β)}{a:α}{b:β},l.lookup a=some b->(a,b)∈l
 |[],a,b,h=>by simp at h
 |(x,y)::l,a,b,h=>by
  rw[bH]at h;split at h
  ·rename_i e;obtain rfl:=aP.mp e;cases h;exact aG
  exact aC _ (B2 h)
section
variable {K:Fq}{T:Tb}{P:Program}{w:World}{mg:Mq}{base h:Heap}
def NL{f:Nat}(h:f<T.ds.length):f<T.ds.length/\∃d,T.all[f]?=some d:=⟨h,_,by rw[Tb.all_lt h];exact aU h⟩
def SG{c:Nat}(hh:FC K T c i=true):PySem.W.nsIn K mainGlobals i.nm=some (some (.ref (CI K T.cs c))):=by
 unfold FC at hh;exact aP.mp (An (An hh).1).1
def SH{c d:Nat}(hh:FC K T c i=true)(hd:T.cs[d]?=some j):PySem.W.kitOne K (.ref (CI K T.cs c)) (.ref (CI K T.cs d))=some (decide (d∈i.isa)):=by
 unfold FC at hh;have:=CJ (An (An hh).1).2 hd;rw[cI]at this;exact aP.mp this
def DH{c:Nat}(hh:FC K T c i=true)(he:i.exc=false):EA K (CI K T.cs c)=true/\(∀f∈i.flds,PySem.W.findIn K (.ref (CI K T.cs c)) (Ho T.names f)=some none)/\IU K T (CI K T.cs c) i.init=true/\∀p∈i.mts,Y0 K T (CI K T.cs c) p.1 p.2=true:=by
 unfold FC at hh;have:=(An hh).2;rw[he]at this;obtain⟨h1,h4⟩:=An this;obtain⟨h1,h3⟩:=An h1;obtain⟨h1,h2⟩:=An h1;exact⟨h1,λf hf=>aP.mp (bI.mp h2 f hf),h3,λp hp=>bI.mp h4 p hp⟩
def Kj(hh:EA K C=true):Tv K C/\PySem.W.findIn K (.ref C) "__class__"=some (some (.builtin "object.__class__"))/\PySem.W.specialIn K (.builtin "object.__class__") "__get__"=some (some (.builtin "getset_descriptor.__get__"))/\PySem.W.takesIn K (.builtin "object.__class__")=some true/\PySem.W.mroIn K C (.type "object")=some true:=by
 unfold EA at hh;simp only[Bool.and_eq_true,beq_iff_eq]at hh;obtain⟨⟨⟨⟨⟨⟨⟨a,b⟩,c⟩,d⟩,e⟩,f⟩,g⟩,i⟩:=hh;exact⟨⟨a,b,c,d⟩,e,f,g,i⟩
def gy(X:K.In h)(N:h.Ns mainGlobals mg)(Xb:K.In base)(Nb:base.Ns mainGlobals mg)(hbm:(Es K T 0 T.ds).isEmpty=true\/(Lr base mg/\∀t∈Es K T 0 T.ds,base.get? t.1=none))(hn:CO T.names=true)(hh:OI K T=true):Pg T.gt (lC K T hn) T.all T.ds.length P w mg base (B5 K T) (λf=>Fe K (B5 K T f)):=by
 unfold OI at hh;obtain⟨hh,h8⟩:=An hh;obtain⟨hh,h7⟩:=An hh;obtain⟨hh,h6⟩:=An hh;obtain⟨hh,h5⟩:=An hh;obtain⟨hh,h4⟩:=An hh;obtain⟨hh,h3⟩:=An hh;obtain⟨h1,h2⟩:=An hh;have ck:∀c i,T.cs[c]?=some i->FC K T c i=true:=λc i hc=>by have:=CJ h6 hc;rwa[cI]at this
 have cl:∀c i,T.cs[c]?=some i->mg i.nm=some (.ref (CI K T.cs c)):=λc i hc=>PySem.W.mg_of X N (SG (ck c i hc));exact {
  nm:=rfl
  kt:={
   kc:=λc i hc he=>Kj (DH (ck c i hc) he).1
   kn:=λc i n hc hf he=>(DH (ck c i hc) he).2.1 n hf
   ki:=λc d i j hc hd=>SH (ck c i hc) hd}
  nb:=λx hx=>PySem.W.mg_none_of X N (aP.mp (bI.mp h1 x hx))
  dd:=λf d hf hd=>by
   have:=CJ h3 (by rw[Tb.all_lt hf]at hd;exact hd);rw[cI]at this;exact NI this
  fns:=λf x hx=>by
   have hx:T.fns[f]?=some x:=hx;refine⟨NL (aW (a9.mp hx).1 (bB h4)),PySem.W.mg_of X N ?_⟩;have e:B5 K T f=GZ K x:=by unfold B5;simp only[hx]
   rw[e];exact aP.mp (bI.mp h5 x (aQ hx))
  cl:=cl
  mkk:=λc i f hc he hi=>by
   have hc:T.cs[c]?=some i:=hc;have hi:(T.cs[c]?).bind Ci.init=some f:=hi;rw[hc]at hi;have hi:i.init=some f:=hi;have:=(DH (ck c i hc) he).2.2.1;rw[hi]at this;simp only[IU,Bool.and_eq_true,beq_iff_eq,decide_eq_true_eq]at this;obtain⟨⟨⟨⟨a,b⟩,c'⟩,d⟩,e⟩:=this;obtain⟨hf,dd,hd⟩:=NL a;refine⟨⟨hf,dd,hd,?_⟩,⟨b,c',d,e⟩⟩;show(((T.cs[c]?).bind Ci.init).bind λf=>T.ds[f]?).elim [] Ae.df=dd.df;rw[hc,show((some i).bind Ci.init)=some f from hi,i6,←Tb.all_lt hf,hd];rfl
  n0:=λc i hc he hi=>by
   have hc:T.cs[c]?=some i:=hc;have hi:(T.cs[c]?).bind Ci.init=none:=hi;rw[hc]at hi;have hi:i.init=none:=hi;have:=(DH (ck c i hc) he).2.2.1;rw[hi]at this;simp only[IU,Bool.and_eq_true,beq_iff_eq]at this;obtain⟨⟨b,c'⟩,e⟩:=this;exact⟨cl c i hc,b,c',e⟩
  mt:=λm c i f hc he hm=>by
   have:=(DH (ck c i hc) he).2.2.2 _ (B2 hm);simp only[Y0,Bool.and_eq_true,beq_iff_eq,decide_eq_true_eq]at this;obtain⟨⟨a,b⟩,c'⟩:=this;obtain⟨a',d,hd⟩:=NL a;have q:=CJ h3 (by rw[Tb.all_lt a']at hd;exact hd);rw[cI]at q;exact⟨⟨a',d,hd⟩,(Kj (DH (ck c i hc) he).1).1,⟨b,c',(NI q).kp⟩⟩
  cf:=λc m f i hc hm=>by
   have:=bI.mp h7 _ (B2 (show T.cfl.lookup (c,m)=some f from hm));simp only[jD,Bool.and_eq_true,beq_iff_eq,decide_eq_true_eq]at this;obtain⟨⟨⟨a,b⟩,c'⟩,d⟩:=this;refine⟨NL a,b,?_,d⟩;split at c'
   ·rename_i a' ha;obtain rfl:=aP.mp c';exact ha
   exact absurd c' aB
  gI:=λx j hx=>by
   have:=bI.mp h2 _ (B2 (show T.glo.lookup x=some (.int j) from hx));unfold YX at this;split at this
   ·rename_i a b t e1 e2;cases e1;obtain rfl:=aP.mp this;exact⟨_,PySem.W.mg_of X N e2⟩
   ·rename_i e1 e2;cases e1
   exact absurd this aB
  gS:=λx j hx=>by
   have:=bI.mp h2 _ (B2 (show T.glo.lookup x=some (.str j) from hx));unfold YX at this;split at this
   ·rename_i e1 e2;cases e1
   ·rename_i a b t e1 e2;cases e1;obtain rfl:=aP.mp this;exact⟨_,PySem.W.mg_of X N e2⟩
   exact absurd this aB
  lamM:=λk l e1 e2 a b c F f c' oc pm ctv cl C vs kk lh=>⟨l,e1,e2,a,b,c,f,c',oc,pm,ctv,cl,C,rfl,kk,lh⟩
  lamR:=λF k vs v z=>z
  lck:=λk b sc hk=>by
   cases hl:T.lam k with
   |none=>have hk:(match T.lam k with|some (xs,ps,m)=>BL T.gt0 m ⟨xs++ps,sc,false,[]⟩ b|none=>false)=true:=hk;rw[hl]at hk;exact absurd hk aB
   |some l=>
    have hk:(match T.lam k with|some (xs,ps,m)=>BL T.gt0 m ⟨xs++ps,sc,false,[]⟩ b|none=>false)=true:=hk;rw[hl]at hk;have e:T.gt.lam k=(l.1,l.2.1):=by show((T.lam k).map λl=>(l.1,l.2.1)).getD ([],[])=_;rw[hl];rfl
    rw[e];exact⟨l.2.2,_,Tb.lam_all hl,rfl,rfl,rfl,hk⟩
  tab:=λf d p hf hd hp=>by
   obtain⟨t1,t2⟩:=An h8;rw[Tb.all_lt hf]at hd;have q:=CJ t1 hd;rw[cI]at q;have q:DT K (B5 K T f)=true:=by
    rcases dR _ _ |>.mp q with z|z
    ·rw[eG.mp z]at hp;simp at hp
    exact z
   unfold DT at q;split at q
   ·rename_i c hc;obtain⟨q1,q3⟩:=An q;have hm:=JO (K:=K) (T:=T) (n:=0) hd hp;rw[cI]at hm;refine⟨c,HC K (B5 K T f),hc,(NX Xb q1).1,?_,bne_iff_ne.mp q3,hm,λt ht e=>C9 (bB t2) ht hm e⟩;rcases hbm with z|⟨z1,z2⟩
    ·rw[eG.mp z]at hm;simp at hm
    exact jH z1 Nb (z2 _ hm)
   exact absurd q aB}
def Tp(T:Tb)(n f:Nat):Prop:=∀l:List Int,l.length<=63->∃h,DX T.gt T.all n f [.v (.scr (l.map .int))] []=.ok (.v (.bl true)) h
theorem Kc:∀{l:List Int},Ad W F (l.map .int) (l.map V.int)
 |[]=>.nil
 |i::l=>.cons (by unfold Ap;rfl) Kc
noncomputable def RS(fd:FuncData)(x:Str):Bool:=Fm fd.params [x]&&(match fd.defaults with
 |.none=>true
 |_=>false)
def RQ{x:Str}(hh:RS fd x=true)(s:Shared)(v:Value):BindsTo s fd ⟨[v],[]⟩ [(x,v)]:=by
 obtain⟨ha,hd⟩:=An hh;have e:bindArgs fd ⟨[v],[]⟩=(seqItems? fd.defaults >>=λ_=>pure ([x].zip [v])):=by
  unfold Fm at ha;split at ha
  ·rename_i as kd ds hp;exact GX hp (bB ha) (by simp) rfl
  exact absurd ha aB
 split at hd
 ·rename_i hv;rw[hv]at e;exact BindsTo.of_eq (e.trans rfl)
 exact absurd hd aB
def L8(K:PySem.W.Frag)(TS:List (Addr×Array Value)):Sp:=λvs H Q _=>E2 λ(a:Addr) (ns:List Int)=>A5 (vs=[.ref a]) (D4 K H a (ns.map V.int)) (ns.length<=63) (∀b ps,TS.lookup b=some ps->H b=some (.tbl ps)) (∀H',Q (.bl true) H')
def jc{n f:Nat}{x:Str}{d:Ae}{TS:List (Addr×Array Value)}(hn:CO T.names=true)(hl:Tp T n f)(hd:T.ds[f]?=some d)(hp:d.ps=[x])(hf:T.fns[f]?=some (Str.ofString "law"))(X0:K.In h)(N0:h.Ns mainGlobals mg)(hfa:mg "law"=some (.ref fa))(hh:(OI K T&&RS (Fe K (B5 K T f)) x)=true)(hts:∀t∈Es K T 0 T.ds,TS.lookup t.1=some #[]) :
 ∃fd:FuncData,(∀s v,BindsTo s fd ⟨[v],[]⟩ [(x,v)])/\∀base:Heap,K.In base->base.Ns mainGlobals mg->Lr base mg->(∀b ps,TS.lookup b=some ps->base.get? b=none)->D6 P w K mg base Ol (2*n+1) fa fd [x] (L8 K TS):=by
 obtain⟨hh,hdf⟩:=An hh;have pg:∀{base:Heap},K.In base->base.Ns mainGlobals mg->Lr base mg->(∀b ps,TS.lookup b=some ps->base.get? b=none)->Pg T.gt (lC K T hn) T.all T.ds.length P w mg base (B5 K T) (λf=>Fe K (B5 K T f)):=λ{base} Xb Nb hb h0=>gy X0 N0 Xb Nb (.inr ⟨hb,λt ht=>h0 _ _ (hts t ht)⟩) hn hh;have hlt:f<T.ds.length:=(a9.mp hd).1;have hda:T.all[f]?=some d:=by rw[Tb.all_lt hlt];exact hd
 have ef:B5 K T f=fa:=by
  have p1:=hh;unfold OI at p1;obtain⟨p1,_⟩:=An p1;obtain⟨p1,_⟩:=An p1;obtain⟨p1,_⟩:=An p1;obtain⟨_,p5⟩:=An p1;have e1:B5 K T f=GZ K (Str.ofString "law"):=by unfold B5;simp only[hf]
  have e2:=PySem.W.mg_of X0 N0 (aP.mp (bI.mp p5 _ (aQ hf)));rw[hfa]at e2;rw[e1];cases e2;rfl
 refine⟨Fe K (B5 K T f),λs v=>RQ hdf s v,λbase Xb Nb hbm h0=>?_⟩;have F:=((pg Xb Nb hbm h0).ok n).1 f d hlt hda;rw[hp]at F;rw[←ef];have go:∀{vs H Q E},L8 K TS vs H Q E->JV (lC K T hn) (DX T.gt T.all n) f vs H Q E:=by
  rintro vs H Q E ⟨a,ns,rfl,hS,hl',hT,hq⟩;obtain⟨h',e⟩:=hl ns hl';have sub:Am (λb=>if (TS.lookup b).isSome=true then none else H b) H:=λb u z=>by
   have z:(if (TS.lookup b).isSome=true then none else H b)=some u:=z;split at z
   ·cases z
   exact z
  refine⟨λb=>if (TS.lookup b).isSome=true then none else H b,[],[],[.v (.scr (ns.map .int))],⟨sub,g6,rfl,λn a m h1 _=>by simp at h1,λt ht=>⟨#[],hT _ _ (hts t ht),trivial,.inl rfl⟩,λt ht=>by show(if (TS.lookup t.1).isSome=true then none else H t.1)=none;rw[hts t ht];rfl⟩,.cons (show Ap _ _ _ _ from ?_) .nil,?_⟩
  ·unfold Ap;refine⟨a,_,rfl,?_,Kc⟩;rcases hS with hS|hS
   ·have na:TS.lookup a=none:=by
     cases q:TS.lookup a with
     |none=>rfl
     |some ps=>
      have:=hT a ps q;rcases hS with z|⟨o,z⟩<;>(rw[this]at z;cases z)
    have ea:(λb=>if (TS.lookup b).isSome=true then none else H b) a=H a:=by show(if (TS.lookup a).isSome=true then none else H a)=H a;rw[na];rfl
    exact .inl (hS.imp (λz=>by rw[ea];exact z) λ⟨o,z⟩=>⟨o,by rw[ea];exact z⟩)
   exact .inr hS
  rw[e];intro F' ρ' H' v _ _ r;have r:Ap (lC K T hn) F' (.bl true) v:=r;unfold Ap at r;rw[r];exact hq H'
 exact⟨λvs H Q E q=>F.len _ _ _ _ (go q),λA outer s H args us vs Q E hr he hb hv hs=>F.run A outer s H args us vs Q E hr he hb hv (go hs)⟩
end
inductive Fx{α:Type}(a:α):Type where|mk
noncomputable def AB.bK{α β:Type}(k:α->MH->AB β)(u:Fx k:=.mk)(x:AB α):AB β:=x.bind k
noncomputable def Ea{α:Type}(μ:En)(kk:α->MH->SR)(u:Fx kk:=.mk)(x:AB α):SR:=Ks μ x kk
noncomputable def Ek{α:Type}(h:MH)(x:Option α):AB α:=AB.of x h
section
variable {α β:Type}
def AM:(AB.ok a h).bind k=k a h:=rfl
@[simp]def sR:(AB.ok a h).bK k=k a h:=rfl
@[simp]def rC:Ek h (some a)=.ok a h:=rfl
def RA:Ks μ (.ok a h) kk=kk a h:=rfl
@[simp]def lA:Ea μ (x:=.ok a h) kk=kk a h:=rfl
noncomputable def Ec(h:MH)(n:Nat):Option MO:=h[n]?
noncomputable def AD(h:MH)(n:Nat)(o:MO):MH:=h.set n o
noncomputable def hnew(h:MH)(o:MO):MH:=h++ [o]
noncomputable def Fc(h:MH)(n:Nat):MH:=h.take n
noncomputable def hlen(h:MH):Nat:=h.length
section
variable {n k:Nat}
def GO(e:Ec h n=some o):n<hlen h:=(a9.mp e).1
@[simp]def GM:hlen (AD h n o)=hlen h:=by simp[hlen,AD]
@[simp]def Bv:hlen (hnew h o)=hlen h+1:=by simp[hlen,hnew]
@[simp]def Jp(e:n<hlen h):Ec (AD h n o) n=some o:=by simp only[Ec,AD,hlen]at *; simp[e]
@[simp]def Mo(e:n≠k):Ec (AD h n o) k=Ec h k:=by simp only[Ec,AD];exact c7 e
@[simp]def Sh:AD (AD h n o) n q=AD h n q:=by simp[AD]
def Pj(e:Ec h n=some o):AD h n o=h:=by
 apply dF;intro j;by_cases hj:n=j
 ·subst hj;rw[show(AD h n o)[n]?=some o from Jp (GO e)];exact e.symm
 rw[show(AD h n o)[j]?=h[j]? from Mo hj]
@[simp]def Bn:Ec (hnew h o) (hlen h)=some o:=by simp[Ec,hnew,hlen]
@[simp]def DF(e:n<hlen h):Ec (hnew h o) n=Ec h n:=by simp only[Ec,hnew,hlen]at *; exact aL e
@[simp]def EH:Fc h (hlen h)=h:=bJ
@[simp]def GN(e:n<=hlen h):Fc (hnew h o) n=Fc h n:=by simp only[Fc,hnew,hlen]at *; exact List.take_append_of_le_length e
@[simp]def jo(e:n<k):Fc (AD h n o) k=AD (Fc h k) n o:=by simp only[Fc,AD];exact List.take_set
@[simp]def CB(e:n<hlen h):AD (hnew h q) n o=hnew (AD h n o) q:=by
  simp only[AD,hnew,hlen]at *;rw[List.set_append,if_pos e]
@[simp]def Bl:AD (hnew h q) (hlen h) o=hnew h o:=by simp[AD,hnew,hlen]
end
noncomputable def seqK(b:Sf)(u:Fx b:=.mk)(x:SR):SR:=match x with
 |some (.nx μ',h')=>b μ' h'
 |x=>x
@[simp]def lq:seqK (x:=some (.nx μ,h)) b=b μ h:=rfl
@[simp]def ln:seqK (x:=some (.rt r,h)) b=some (.rt r,h):=rfl
@[simp]def lx:seqK (x:=none) b=none:=rfl
@[simp]def lT:Au h (.v m)=some m:=rfl
@[simp]def lU{n:Nat}:Au h (.r n)=(Ec h n).bind MO.view:=rfl
@[simp]def nw:(MO.lst l).view=some (.lst l):=rfl
@[simp]def n6:(MO.dic t ks vs).view=some (.dic t ks vs):=rfl
@[simp]def nz{c:Nat}:(MO.ins c ns vs).view=some (.obj c ns vs):=rfl
@[simp]def su:(MO.lst l).frz=.lst l:=rfl
@[simp]def sw:(MO.dic t ks vs).frz=.dic t ks vs:=rfl
@[simp]def sv{c:Nat}:(MO.ins c ns vs).frz=.obj c ns vs:=rfl
noncomputable def jr(h:MH)(x:Option (Option R)):AB R:=match x with
 |some (some r)=>.ok r h
 |_=>.no
@[simp]def oY:jr h (some (some r))=.ok r h:=rfl
noncomputable def iS(h:MH)(x:Option (Option R)):AB R:=match x with
 |some (some (.v m))=>.ok (.v m) h
 |some (some (.r n))=>(match Ec h n with
  |some o=>.ok (.v o.frz) (AD h n (.gone o.frz))
  |none=>.no)
 |_=>.no
noncomputable def iT(o:Option MO)(n:Nat)(h:MH):AB R:=match o with
 |some o=>.ok (.v o.frz) (AD h n (.gone o.frz))
 |none=>.no
@[simp]def oB{n:Nat}:iS h (some (some (.r n)))=iT (Ec h n) n h:=rfl
@[simp]def oC{n:Nat}:iT (some o) n h=.ok (.v o.frz) (AD h n (.gone o.frz)):=rfl
@[simp]def n9:vals []=some []:=rfl
@[simp]def nA:vals (.v m::l)=(vals l).map (m:: ·):=rfl
@[simp]def j4:Cc h []=some []:=rfl
@[simp]def j5:Cc h (r::l)=(Au h r).bind λm=>(Cc h l).map (m:: ·):=rfl
@[simp]def sU{k:Bool}:Qa (.v (.bl k))=some k:=rfl
@[simp]def sT{i:Int}:T5 (.v (.int i))=some i:=rfl
@[simp]def kW{k:Bool}:Da (.bl k)=some k:=rfl
@[simp]def kU{k:List MV}:Da (.lst k)=some (!k.isEmpty):=rfl
@[simp]def kT{k:List MV}:Da (.tup k)=some (!k.isEmpty):=rfl
noncomputable def H0{α:Type}(a b:α)(u:Fx a:=.mk)(v:Fx b:=.mk)(k:Bool):α:=if k=true then a else b
@[simp]def oQ{α:Type}{a b:α}:H0 (k:=true) a b=a:=rfl
@[simp]def oR{α:Type}{a b:α}:H0 (k:=false) a b=b:=rfl
end
section
variable {i f c:Nat}
noncomputable def Yu(μ:En)(i:Nat):Option (Option R):=μ[i]?
@[simp]def rG{a:Option R}:Yu (a::μ) 0=some a:=rfl
@[simp]def rF{a:Option R}:Yu (a::μ) (i+1)=Yu μ i:=rfl
@[simp]def mD:(e2 cs Φ ini cf (.var i)).1 μ h=jr h (Yu μ i):=rfl
@[simp]def mI:(e2 cs Φ ini cf (.mov i)).1 μ h=iS h (Yu μ i):=rfl
@[simp]def mO:(e2 cs Φ ini cf (.con m)).1 μ h=.ok (.v m) h:=rfl
@[simp]def mM{x:Str}:(e2 cs Φ ini cf (.glo x m)).1 μ h=.ok (.v m) h:=rfl
@[simp]def mQ{x:Str}:(e2 cs Φ ini cf (.bty x k)).1 μ h=.ok (.v (.ty k)) h:=rfl
@[simp]def mF:(e2 cs Φ ini cf (.tup es)).1 μ h=(Dy cs Φ ini cf es μ h).bK λrs h1=>Ek h1 ((vals rs).bind λms=>if ms.length<=1000 then some (R.v (.tup ms)) else none):=rfl
@[simp]def mJ:(e2 cs Φ ini cf (.lst es)).1 μ h=(Dy cs Φ ini cf es μ h).bK λrs h1=>Ek h1 ((vals rs).bind λms=>if ms.length<=1000 then some (R.v (.lst ms)) else none):=rfl
noncomputable def iY(h:MH)(x:Option (List MV)):AB R:=match x with
 |some ms=>if ms.length<=1000 then .ok (.r (hlen h)) (hnew h (.lst ms)) else .no
 |none=>.no
@[simp]def oI:iY h (some ms)=if ms.length<=1000 then .ok (.r (hlen h)) (hnew h (.lst ms)) else .no:=rfl
@[simp]def kD:(e2 cs Φ ini cf (.lstL es)).1 μ h=(Dy cs Φ ini cf es μ h).bK λrs h1=>iY h1 (vals rs):=rfl
@[simp]def kE:(e2 cs Φ ini cf (.dicL t)).1 μ h=.ok (.r (hlen h)) (hnew h (.dic t [] [])):=rfl
@[simp]def mN:(e2 cs Φ ini cf (.fld e f)).1 μ h=((e2 cs Φ ini cf e).1 μ h).bK λx h1=>Ek h1 ((Au h1 x).bind λa=>(Du cs f a).map R.v):=rfl
@[simp]def mL:(e2 cs Φ ini cf (.idx a b)).1 μ h=((e2 cs Φ ini cf a).1 μ h).bK λx h1=>((e2 cs Φ ini cf b).1 μ h1).bK λy h2=>Ek h2 ((Au h2 x).bind λa=>(Au h2 y).bind λb=>(FW a b).map R.v):=rfl
@[simp]def mS{o:WA}:(e2 cs Φ ini cf (.bin o a b)).1 μ h=((e2 cs Φ ini cf a).1 μ h).bK λx h1=>((e2 cs Φ ini cf b).1 μ h1).bK λy h2=>Ek h2 ((Au h2 x).bind λa=>(Au h2 y).bind λb=>(Ck o a b).map R.v):=rfl
@[simp]def mE{o:Z7}:(e2 cs Φ ini cf (.una o a)).1 μ h=((e2 cs Φ ini cf a).1 μ h).bK λx h1=>Ek h1 ((Au h1 x).bind λa=>(We o a).map R.v):=rfl
@[simp]def mP{o:JC}:(e2 cs Φ ini cf (.cmp o a b)).1 μ h=((e2 cs Φ ini cf a).1 μ h).bK λx h1=>((e2 cs Φ ini cf b).1 μ h1).bK λy h2=>Ek h2 ((Au h2 x).bind λa=>(Au h2 y).bind λb=>((AV o a b).map .bl).map R.v):=rfl
@[simp]def mZ{o:JC}:(e2 cs Φ ini cf (.cmp o a b)).2 μ h=((e2 cs Φ ini cf (.cmp o a b)).1 μ h).bK λx h1=>Ek h1 (Qa x):=rfl
@[simp]def mG{lo hi:aj}:(e2 cs Φ ini cf (.sli a lo hi)).1 μ h=((e2 cs Φ ini cf a).1 μ h).bK λx h1=>(Sx cs Φ ini cf lo μ h1).bK λl h2=>(Sx cs Φ ini cf hi μ h2).bK λu h3=>Ek h3 ((Au h3 x).bind λa=>(EW a l u).map R.v):=rfl
noncomputable def cw(h:MH)(l u:Option Int)(x:Option (List MV)):AB R:=match x with
 |some ms=>.ok (.r (hlen h)) (hnew h (.lst (C1 ms l u)))
 |none=>.no
@[simp]def nT:cw h l u (some ms)=.ok (.r (hlen h)) (hnew h (.lst (C1 ms l u))):=rfl
@[simp]def k9{lo hi:aj}:(e2 cs Φ ini cf (.sliL a lo hi)).1 μ h=((e2 cs Φ ini cf a).1 μ h).bK λx h1=>(Sx cs Φ ini cf lo μ h1).bK λl h2=>(Sx cs Φ ini cf hi μ h2).bK λu h3=>cw h3 l u ((Au h3 x).bind K1):=rfl
noncomputable def j9(o':JC)(fc:Ef)(μ:En)(h2:MH)(y:R):Option Bool->AB R
 |some true=>(fc μ h2).bind λz h3=>AB.of ((Au h3 y).bind λa=>(Au h3 z).bind λb=>(AV o' a b).map λk=>R.v (.bl k)) h3
 |some false=>.ok (.v (.bl false)) h2
 |none=>.no
@[simp]def pW:j9 o' fc μ h y (some k)=H0 (k:=k) ((fc μ h).bK λz h3=>Ek h3 ((Au h3 y).bind λa=>(Au h3 z).bind λb=>(AV o' a b).map λk=>R.v (.bl k))) (.ok (.v (.bl false)) h):=by cases k<;>rfl
@[simp]def kF{o o':JC}{c:ME}:(e2 cs Φ ini cf (.cmp2 o o' a b c)).1 μ h=((e2 cs Φ ini cf a).1 μ h).bK λx h1=>((e2 cs Φ ini cf b).1 μ h1).bK λy h2=>j9 o' (e2 cs Φ ini cf c).1 μ h2 y ((Au h2 x).bind λa=>(Au h2 y).bind λb=>AV o a b):=rfl
@[simp]def kK{o o':JC}{c:ME}:(e2 cs Φ ini cf (.cmp2 o o' a b c)).2 μ h=((e2 cs Φ ini cf (.cmp2 o o' a b c)).1 μ h).bK λx h1=>Ek h1 (Qa x):=rfl
@[simp]def mH:(e2 cs Φ ini cf (.not a)).1 μ h=((e2 cs Φ ini cf a).1 μ h).bK λx h1=>Ek h1 ((Qa x).map λb=>R.v (.bl (!b))):=rfl
@[simp]def mW:(e2 cs Φ ini cf (.not a)).2 μ h=((e2 cs Φ ini cf a).2 μ h).bK λb h1=>.ok (!b) h1:=rfl
noncomputable def jS(fb:Ef)(μ:En)(h:MH):Option Bool->AB R
 |some true=>fb μ h
 |some false=>.ok (.v (.bl false)) h
 |none=>.no
noncomputable def rB(fb:Ef)(μ:En)(h:MH):Option Bool->AB R
 |some false=>fb μ h
 |some true=>.ok (.v (.bl true)) h
 |none=>.no
@[simp]def qp:jS fb μ h (some k)=H0 (k:=k) (fb μ h) (.ok (.v (.bl false)) h):=by cases k<;>rfl
@[simp]def rA:rB fb μ h (some k)=H0 (k:=k) (.ok (.v (.bl true)) h) (fb μ h):=by cases k<;>rfl
@[simp]def mU:(e2 cs Φ ini cf (.and es)).1 μ h=(Po cs Φ ini cf es).1 μ h:=rfl
@[simp]def nj:(e2 cs Φ ini cf (.and es)).2 μ h=(Po cs Φ ini cf es).2 μ h:=rfl
@[simp]def qL:(e2 cs Φ ini cf (.or es)).1 μ h=(Pn cs Φ ini cf es).1 μ h:=rfl
@[simp]def qQ:(e2 cs Φ ini cf (.or es)).2 μ h=(Pn cs Φ ini cf es).2 μ h:=rfl
@[simp]def qP:(Po cs Φ ini cf (.cons a .nil)).1 μ h=(e2 cs Φ ini cf a).1 μ h:=rfl
@[simp]def qU:(Po cs Φ ini cf (.cons a .nil)).2 μ h=(e2 cs Φ ini cf a).2 μ h:=rfl
@[simp]def qO:(Po cs Φ ini cf (.cons a (.cons b es))).1 μ h=((e2 cs Φ ini cf a).1 μ h).bK λx h1=>jS (Po cs Φ ini cf (.cons b es)).1 μ h1 (Qa x):=rfl
@[simp]def qT:(Po cs Φ ini cf (.cons a (.cons b es))).2 μ h=((e2 cs Φ ini cf a).2 μ h).bK λk h1=>H0 (k:=k) ((Po cs Φ ini cf (.cons b es)).2 μ h1) (.ok false h1):=rfl
@[simp]def qN:(Pn cs Φ ini cf (.cons a .nil)).1 μ h=(e2 cs Φ ini cf a).1 μ h:=rfl
@[simp]def qS:(Pn cs Φ ini cf (.cons a .nil)).2 μ h=(e2 cs Φ ini cf a).2 μ h:=rfl
@[simp]def qM:(Pn cs Φ ini cf (.cons a (.cons b es))).1 μ h=((e2 cs Φ ini cf a).1 μ h).bK λx h1=>rB (Pn cs Φ ini cf (.cons b es)).1 μ h1 (Qa x):=rfl
@[simp]def qR:(Pn cs Φ ini cf (.cons a (.cons b es))).2 μ h=((e2 cs Φ ini cf a).2 μ h).bK λk h1=>H0 (k:=k) (.ok true h1) ((Pn cs Φ ini cf (.cons b es)).2 μ h1):=rfl
@[simp]def mK{c:ME}:(e2 cs Φ ini cf (.ife c a b)).1 μ h=((e2 cs Φ ini cf c).2 μ h).bK λk h1=>H0 (k:=k) ((e2 cs Φ ini cf a).1 μ h1) ((e2 cs Φ ini cf b).1 μ h1):=rfl
@[simp]def kH:(e2 cs Φ ini cf (.call f es)).1 μ h=(Dy cs Φ ini cf es μ h).bK λrs h1=>Φ f rs h1:=rfl
@[simp]def kA(hi:ini c=none):(e2 cs Φ ini cf (.new0 c)).1 μ h=.ok (.v (.obj c [] [])) h:=by
  show(match ini c with|some _=>λ_ _=>AB.no|none=>λ_ h=>.ok (.v (.obj c [] [])) h:Ef) μ h=_;rw[hi]
@[simp]def Iz(hi:ini c=some f):(e2 cs Φ ini cf (.make c es ds)).1 μ h=EJ Φ c f (λμ h=>(Dy cs Φ ini cf es μ h).bK λrs h1=>.ok (rs++ds.map .v) h1) μ h:=by
  show(match ini c with|some f=>EJ Φ c f (λμ h=>(Dy cs Φ ini cf es μ h).bind λrs h1=>.ok (rs++ds.map .v) h1)|none=>λ_ _=>AB.no:Ef) μ h=_;rw[hi];rfl
noncomputable def Wg(Φ:Fs)(fa:En->MH->AB (List R))(μ:En)(h:MH)(x:R):Option Nat->AB R
 |some f=>(fa μ h).bind λrs h2=>Φ f (x::rs) h2
 |none=>.no
@[simp]def lD:Wg Φ fa μ h x (some f)=(fa μ h).bK λrs h2=>Φ f (x::rs) h2:=rfl
@[simp]def kC{m:Nat}:(e2 cs Φ ini cf (.meth m o es)).1 μ h=((e2 cs Φ ini cf o).1 μ h).bK λx h1=>Wg Φ (Dy cs Φ ini cf es) μ h1 x ((Au h1 x).bind (meth cs m)):=rfl
@[simp]def mT{b:Bf}:(e2 cs Φ ini cf (.bfn b es)).1 μ h=(Dy cs Φ ini cf es μ h).bK λxs h1=>Ek h1 ((Cc h1 xs).bind λas=>(b.fn cs as).map R.v):=rfl
@[simp]def ZL:(e2 cs Φ ini cf (.lenset e)).1 μ h=((e2 cs Φ ini cf e).1 μ h).bK λx h1=>Ek h1 ((Au h1 x).bind λa=>(DB a).map R.v):=rfl
@[simp]def mR{b:Bm}:(e2 cs Φ ini cf (.bmt b o es)).1 μ h=((e2 cs Φ ini cf o).1 μ h).bK λx h1=>if ((Au h1 x).map (Zz b))=some true then(Dy cs Φ ini cf es μ h1).bK λrs h2=>Ek h2 ((Au h2 x).bind λm=>(Cc h2 rs).bind λas=>(Z0 b m as).map R.v) else .no:=rfl
noncomputable def jR(b:Mm)(n:Nat)(h:MH):Option MO->Option (List MV)->AB R
 |some (.lst l),some as=>(match Tw b l as with
  |some l'=>.ok (.v .non) (AD h n (.lst l'))
  |none=>.no)
 |_,_=>.no
noncomputable def da(n:Nat)(h:MH):Option (List MV)->AB R
 |some l'=>.ok (.v .non) (AD h n (.lst l'))
 |none=>.no
@[simp]def nY{n:Nat}:da n h (some l)=.ok (.v .non) (AD h n (.lst l)):=rfl
@[simp]def qo{b:Mm}{n:Nat}{l as:List MV}:jR b n h (some (.lst l)) (some as)=da n h (Tw b l as):=rfl
@[simp]def np:Dy cs Φ ini cf .nil μ h=.ok [] h:=rfl
@[simp]def am:Dy cs Φ ini cf (.cons a es) μ h=((e2 cs Φ ini cf a).1 μ h).bK λx h1=>(Dy cs Φ ini cf es μ h1).bK λxs h2=>.ok (x::xs) h2:=rfl
@[simp]def qW:Sx cs Φ ini cf .no μ h=.ok none h:=rfl
@[simp]def qV:Sx cs Φ ini cf (.ye a) μ h=((e2 cs Φ ini cf a).1 μ h).bK λx h1=>Ek h1 ((T5 x).map some):=rfl
@[simp]def rH:noL (.ok (.v m) h)=.ok (.v m) h:=rfl
noncomputable def jE(x:Option (Option R))(r:Option (List MV)):Option (List MV):=match x with
 |some (some (.v m))=>r.map (m:: ·)
 |_=>none
@[simp]def qi:jE (some (some (.v m))) r=r.map (m:: ·):=rfl
@[simp]def qg:H9 μ []=some []:=rfl
@[simp]def qh{j:Nat}:H9 μ (j::js)=jE (Yu μ j) (H9 μ js):=rfl
noncomputable def W2(Φ:Fs)(f k:Nat)(rs:List R)(h:MH):Option (List MV)->AB R
 |some ms=>noL (Φ f (rs++ [.l k ms]) h)
 |none=>.no
@[simp]def ma{k:Nat}:W2 Φ f k rs h (some ms)=noL (Φ f (rs++ [.l k ms]) h):=rfl
@[simp]def kI{k:Nat}:(e2 cs Φ ini cf (.calL f es k js)).1 μ h=(Dy cs Φ ini cf es μ h).bK λrs h1=>W2 Φ f k rs h1 (H9 μ js):=rfl
noncomputable def W0(Φ:Fs)(fa:En->MH->AB (List R))(μ:En)(h:MH):Option (Option R)->AB R
 |some (some (.l k ms))=>(fa μ h).bind λrs h1=>if rs.all IS=true then noL (Φ k (ms.map .v++rs) h1) else .no
 |_=>.no
@[simp]def lZ{k:Nat}:W0 Φ fa μ h (some (some (.l k ms)))=(fa μ h).bK λrs h1=>if rs.all IS=true then noL (Φ k (ms.map .v++rs) h1) else .no:=rfl
@[simp]def kG:(e2 cs Φ ini cf (.calv i es)).1 μ h=W0 Φ (Dy cs Φ ini cf es) μ h (Yu μ i):=rfl
@[simp]def o6:IS (.v m)=true:=rfl
def Nq{f':Nat}{c':Nat}(e1:fa μ h=.ok rs h1)(e2:Φ f' (.r (hlen h1)::rs) (hnew h1 (.ins c [] []))=.ok (.v .non) (hnew h1 (.ins c' ns vs))):EJ Φ c f' fa μ h=.ok (.v (.obj c' ns vs)) h1:=by
 unfold EJ;rw[e1,AM,show Φ f' (.r h1.length::rs) (h1++ [.ins c [] []])=_ from e2,AM];have e3:(hnew h1 (.ins c' ns vs))[h1.length]?=some (.ins c' ns vs):=Bn;simp only[e3];rw[if_pos (by simp[hnew])];congr 1;exact(GN (aH _)).trans EH
def OV{f':Nat}(e1:fa μ h=.ok rs h1)(e2:Φ f' (.r (hlen h1)::rs) (hnew h1 (.ins c [] []))=.ok (.v .non) (hnew h1 (.gone m))):EJ Φ c f' fa μ h=.ok (.v m) h1:=by
 unfold EJ;rw[e1,AM,show Φ f' (.r h1.length::rs) (h1++ [.ins c [] []])=_ from e2,AM];have e3:(hnew h1 (.gone m))[h1.length]?=some (.gone m):=Bn;simp only[e3];rw[if_pos (by simp[hnew])];congr 1;exact(GN (aH _)).trans EH
@[simp]def mV:(e2 cs Φ ini cf (.var i)).2 μ h=((e2 cs Φ ini cf (.var i)).1 μ h).bK λx h1=>Ek h1 ((Au h1 x).bind Da):=rfl
@[simp]def kL:(e2 cs Φ ini cf (.call f es)).2 μ h=((e2 cs Φ ini cf (.call f es)).1 μ h).bK λx h1=>Ek h1 ((Au h1 x).bind Da):=rfl
@[simp]def ni{b:Bf}:(e2 cs Φ ini cf (.bfn b es)).2 μ h=((e2 cs Φ ini cf (.bfn b es)).1 μ h).bK λx h1=>Ek h1 ((Au h1 x).bind Da):=rfl
@[simp]def kJ{m:Nat}:(e2 cs Φ ini cf (.meth m o es)).2 μ h=((e2 cs Φ ini cf (.meth m o es)).1 μ h).bK λx h1=>Ek h1 ((Au h1 x).bind Da):=rfl
@[simp]def mY:(e2 cs Φ ini cf (.fld e f)).2 μ h=((e2 cs Φ ini cf (.fld e f)).1 μ h).bK λx h1=>Ek h1 ((Au h1 x).bind Da):=rfl
@[simp]def mX:(e2 cs Φ ini cf (.idx a b)).2 μ h=((e2 cs Φ ini cf (.idx a b)).1 μ h).bK λx h1=>Ek h1 ((Au h1 x).bind Da):=rfl
@[simp]def m4:exs cs Φ ini cf .nil μ h=some (.nx μ,h):=rfl
@[simp]def k8:exs cs Φ ini cf (.cons s ss) μ h=seqK (x:=ex cs Φ ini cf s μ h) (exs cs Φ ini cf ss):=rfl
@[simp]def my:ex cs Φ ini cf (.set i e) μ h=Ea μ (x:=(e2 cs Φ ini cf e).1 μ h) λr h1=>some (.nx (μ.set i (some r)),h1):=rfl
@[simp]def kz:ex cs Φ ini cf (.setC i e) μ h=Ea μ (x:=(e2 cs Φ ini cf e).1 μ h) λr h1=>some (.nx (μ.set i (some r)),h1):=rfl
noncomputable def VT(μ:En)(n:Nat)(h:MH)(m:MV)(k:Int):Option MO->SR
 |some (.lst l)=>(N9 l.length k).map λj=>(.nx μ,AD h n (.lst (l.set j m)))
 |_=>none
@[simp]def kZ{n:Nat}{k:Int}:VT μ n h m k (some (.lst l))=(N9 l.length k).map λj=>(.nx μ,AD h n (.lst (l.set j m))):=rfl
noncomputable def VS(μ:En)(x o i:R)(h3:MH):SR:=match x,o,T5 i with
 |.v m,.r n,some k=>(match h3[n]? with
  |some (.lst l)=>(N9 l.length k).map λj=>(.nx μ,h3.set n (.lst (l.set j m)))
  |_=>none)
 |_,_,_=>none
@[simp]def kY{n:Nat}{k:Int}:VS μ (.v m) (.r n) (.v (.int k)) h=VT μ n h m k (Ec h n):=by
  rfl
@[simp]def kr{o i:ME}:ex cs Φ ini cf (.setI o i e) μ h=Ea μ (x:=(e2 cs Φ ini cf e).1 μ h) λx h1=>Ea μ (x:=(e2 cs Φ ini cf o).1 μ h1) λo h2=>Ea μ (x:=(e2 cs Φ ini cf i).1 μ h2) λi h3=>VS μ x o i h3:=rfl
@[simp]def k7:ex cs Φ ini cf (.expr e) μ h=Ea μ (x:=(e2 cs Φ ini cf e).1 μ h) λ_ h1=>some (.nx μ,h1):=rfl
@[simp]def mz:ex cs Φ ini cf (.ret e) μ h=Ea μ (x:=(e2 cs Φ ini cf e).1 μ h) λr h1=>some (.rt r,h1):=rfl
@[simp]def m6:ex cs Φ ini cf (.ite e ss ss') μ h=Ea μ (x:=(e2 cs Φ ini cf e).2 μ h) λk h1=>H0 (k:=k) (exs cs Φ ini cf ss μ h1) (exs cs Φ ini cf ss' μ h1):=rfl
@[simp]def m9:ex cs Φ ini cf (.for_ t it ss) μ h=Ea μ (x:=Pm cs Φ ini cf it μ h) λw h1=>AJ w.src w.ms t (exs cs Φ ini cf ss) w.ms μ h1:=gA rfl rfl
@[simp]def mB:ex cs Φ ini cf .any μ h=none:=rfl
@[simp]def qX:Pm cs Φ ini cf (.of e) μ h=((e2 cs Φ ini cf e).1 μ h).bK λx h1=>Ek h1 (Fv h1 x):=gA rfl rfl
@[simp]def kO:Pm cs Φ ini cf (.rng1 a) μ h=((e2 cs Φ ini cf a).1 μ h).bK λx h1=>Ek h1 (ET [x]):=gA rfl rfl
@[simp]def kN:Pm cs Φ ini cf (.rng2 a b) μ h=((e2 cs Φ ini cf a).1 μ h).bK λx h1=>((e2 cs Φ ini cf b).1 μ h1).bK λy h2=>Ek h2 (ET [x,y]):=gA rfl rfl
@[simp]def kM:Pm cs Φ ini cf (.rng3 a b) μ h=((e2 cs Φ ini cf a).1 μ h).bK λx h1=>((e2 cs Φ ini cf b).1 μ h1).bK λy h2=>Ek h2 (Ez x y):=gA rfl rfl
@[simp]def nv:Pm cs Φ ini cf (.enu e) μ h=((e2 cs Φ ini cf e).1 μ h).bK λx h1=>Ek h1 (Sy x):=gA rfl rfl
@[simp]def nu:Pm cs Φ ini cf (.zip a b) μ h=((e2 cs Φ ini cf a).1 μ h).bK λx h1=>((e2 cs Φ ini cf b).1 μ h1).bK λy h2=>Ek h2 (Qd x y):=gA rfl rfl
@[simp]def sA{n:Nat}:fin n (some (.rt (.v m),h))=.ok (.v m) (Fc h n):=rfl
@[simp]def sD{n:Nat}:fin n (some (.nx μ,h))=.ok (.v .non) (Fc h n):=rfl
@[simp]def sC{n:Nat}{o:MO}{l:MH}(hl:hlen l=n):fin n (some (.rt (.r n),hnew l o))=.ok (.r n) (hnew l o):=by
  subst hl;show(if l.length<l.length then _ else _)=_;rw[if_neg (cR _)];simp[hnew,hlen]
end
section
variable {i:Int}{z:Str}{f n:Nat}{j:Nat}
@[simp]def tN:FW (.lst l) (.int i)=BA l i:=rfl
@[simp]def sg:FW (.scr l) (.int i)=BA l i:=rfl
@[simp]def tK:FW (.tup l) (.int i)=BA l i:=rfl
@[simp]def tL:FW (.str z) (.int i)=if z.length<=big then(BA z.cps.toList i).map λc=>.str ⟨#[c]⟩ else none:=rfl
@[simp]def oO:FW (.dic t ks vs) k=(DK t ks vs k).bind id:=by simp only[FW]
@[simp]def sQ:AV .eq a b=AL .eq a b:=by cases b<;>rfl
@[simp]def sJ:AV .ne a b=AL .ne a b:=by cases b<;>rfl
@[simp]def sK:AV .lt a b=AL .lt a b:=by cases b<;>rfl
@[simp]def sM:AV .le a b=AL .le a b:=by cases b<;>rfl
@[simp]def sO:AV .gt a b=AL .gt a b:=by cases b<;>rfl
@[simp]def sP:AV .ge a b=AL .ge a b:=by cases b<;>rfl
@[simp]def sN:AV .is_ a b=AL .is_ a b:=by cases b<;>rfl
@[simp]def qc:AV .isnot a b=AL .isnot a b:=by cases b<;>rfl
@[simp]def qe:AV .in_ a (.lst l)=AL .in_ a (.lst l):=rfl
@[simp]def qd:AV .in_ a (.str z)=AL .in_ a (.str z):=rfl
@[simp]def qf:AV .in_ a (.dic t ks vs)=(DK t ks vs a).map Option.isSome:=by simp only[AV]
@[simp]def qb:AV .notin a (.lst l)=AL .notin a (.lst l):=rfl
@[simp]def Zw:AV .notin a (.dic t ks vs)=(DK t ks vs a).map λo=>!o.isSome:=by simp only[AV]
@[simp]def tR:CT (.lst l)=some l:=rfl
@[simp]def tP:CT (.tup l)=some l:=rfl
@[simp]def tQ:CT (.str z)=some (FD z):=rfl
@[simp]def tD:LC (.lst l)=some l:=rfl
@[simp]def ue:Bg (.nm j) m μ=some (μ.set j (some (.v m))):=rfl
@[simp]def ud:Bg (.tup is) (.tup l) μ=if is.length=l.length then some ((is.zip l).foldl (λμ p=>μ.set p.1 (some (.v p.2))) μ) else none:=rfl
@[simp]def ph:C0 f v (n::ns) (m::ms)=if n=f then(n::ns,v::ms) else(n::(C0 f v ns ms).1,m::(C0 f v ns ms).2):=rfl
@[simp]def pe:C0 f v [] ms=([f],[v]):=rfl
end
section
@[simp]def G7:LZ [.lst l]=some (.int l.length):=rfl
@[simp]def oK:LZ [.scr l]=some (.int l.length):=rfl
@[simp]def sd:LZ [.tup l]=some (.int l.length):=rfl
@[simp]def se{z:Str}:LZ [.str z]=if z.length<=big then some (.int z.length) else none:=rfl
@[simp]def pz:Bf.fn cs .len=LZ:=rfl
@[simp]def p6:Bf.fn cs .isi=OX cs:=rfl
@[simp]def p8:Bf.fn cs .all=Mb:=rfl
@[simp]def pv:Bf.fn cs .max=OW:=rfl
@[simp]def pq:Bf.fn cs .min=RH:=rfl
@[simp]def p7:Bf.fn cs .int=RI:=rfl
@[simp]def pi:Bf.fn cs .tup=LX:=rfl
@[simp]def pj:Bf.fn cs .sum=LY:=rfl
@[simp]def rf:LX [.lst l]=some (.tup l):=rfl
@[simp]def re:LX [.tup l]=some (.tup l):=rfl
@[simp]def sq:RI [.bl k]=some (.int (if k then 1 else 0)):=rfl
@[simp]def rX{i j:Int}:RH [.int i,.int j]=some (.int (if j<i then j else i)):=rfl
@[simp]def rY{i j:Int}:OW [.int i,.int j]=some (.int (if j>i then j else i)):=rfl
end
section
variable {i j:Int}
@[simp]def mf:Ck .sub (.int i) (.int j)=some (.int (i-j)):=rfl
@[simp]def mq:Ck .add (.int i) (.int j)=some (.int (i+j)):=rfl
@[simp]def ml:Ck .mul (.int i) (.int j)=if Dt i j then some (.int (i*j)) else none:=rfl
@[simp]def jL:Ck .fdiv (.int i) (.int j)=if 0<j/\j<10000000000000000000000000000000000000000 then some (.int (i / j)) else none:=rfl
@[simp]def mn:Ck .mod (.int i) (.int j)=if 0<j then some (.int (i%j)) else none:=rfl
@[simp]def mo:Ck .and (.int i) (.int j)=some (.int (Builtin.bitAnd i j)):=rfl
@[simp]def qm:Ck .or (.int i) (.int j)=some (.int (Builtin.bitOr i j)):=rfl
@[simp]def me:Ck .xor (.int i) (.int j)=some (.int (Builtin.bitXor i j)):=rfl
@[simp]def mj:Ck .pow (.int i) (.int j)=if BZ i j then some (.int (i^j.toNat)) else none:=rfl
@[simp]def mi:Ck .shl (.int i) (.int j)=if BZ i j then some (.int (i*2^j.toNat)) else none:=rfl
@[simp]def mh:Ck .shr (.int i) (.int j)=if 0<=j then some (.int (i / 2^j.toNat)) else none:=rfl
@[simp]def pR:AL .lt (.int i) (.int j)=some (decide (i<j)):=rfl
@[simp]def pS:AL .le (.int i) (.int j)=some (decide (i<=j)):=rfl
@[simp]def pT:AL .gt (.int i) (.int j)=some (decide (j<i)):=rfl
@[simp]def pU:AL .ge (.int i) (.int j)=some (decide (j<=i)):=rfl
end
@[simp]def rK{i j:Int}(h1: -(2^64)<j)(h2:j<2^64):Dt i j=true:=by
  unfold Dt;rw[dR];exact .inr (by rw[cL h1,cL h2];rfl)
@[simp]def Nn{i j:Int}(h1: -(2^64)<i)(h2:i<2^64):Dt i j=true:=by
  unfold Dt;rw[dR];exact .inl (by rw[cL h1,cL h2];rfl)
@[simp]def rL{i j p:Int}(h1:0<p)(h2:p<=2^64):Dt (i%p) j=true:=by
  have a:=cF i (Int.ne_of_gt h1);have b:=bX i h1;exact Nn (by lia) (by lia)
@[simp]def Ar{α:Type}{l:List α}{i:Int}(h:0<=i):BA l i=l[i.toNat]?:=by
  unfold BA N9;rw[if_pos h];by_cases h1:i<l.length
  ·rw[if_pos h1];rfl
  rw[if_neg h1];exact(cP (by lia)).symm
@[simp]def si{n:Nat}{i:Int}(h:0<=i)(h1:i<n):N9 n i=some i.toNat:=by
  unfold N9;rw[if_pos h,if_pos h1]
theorem NH(P:Nat->En->MH->Prop):∀{l:List MV}{all:List MV}{i:Nat}{μ:En}{h:MH},P i μ h->
 (∀j m μ h,l[j]?=some m->P (i+j) μ h->∃μ1 μ2 h2,Bg t m μ=some μ1/\b μ1 h=some (.nx μ2,h2)/\P (i+j+1) μ2 h2)->∃μ' h',AJ none all t b l μ h=some (.nx μ',h')/\P (i+l.length) μ' h'
 |[],all,i,μ,h,p,_=>⟨μ,h,rfl,p⟩
 |m::l,all,i,μ,h,p,st=>by
  obtain⟨μ1,μ2,h2,e1,e2,p2⟩:=st 0 m μ h rfl p;obtain⟨μ',h',e,q⟩:=NH P (l:=l) (all:=all) (i:=i+1) p2 λj m μ h hj hp=>by
   have:=st (j+1) m μ h (by simpa using hj) (by rw[show i+(j+1)=i+1+j by lia];exact hp)
   rwa[show i+(j+1)+1=i+1+j+1 by lia]at this
  refine⟨μ',h',?_,by rw[bV,show i+(l.length+1)=i+1+l.length by lia];exact q⟩;rw[←e];simp only[AJ,Bj,if_true,e1,e2]
theorem Le(g:MV->MV)(htc:∀μ h,tc μ h=.ok true h):∀{l all acc:List MV},(∀m∈l,∃μ1,Bg tg m μ0=some μ1/\te μ1 h=.ok (.v (g m)) h)->compLoop none all tg μ0 tc te l acc h=.ok (acc++l.map g) h
 |[],all,acc,_=>by unfold compLoop;simp[Bj]
 |m::l,all,acc,st=>by
  obtain⟨μ1,e1,e2⟩:=st m aG;unfold compLoop;simp only[Bj,if_true,e1,htc,AM,e2];rw[Le g htc λq hq=>st q (aC _ hq)];simp
theorem FB(p:MV->Bool)(g:MV->MV):∀{l all acc:List MV},(∀m∈l,∃μ1,Bg tg m μ0=some μ1/\tc μ1 h=.ok (p m) h/\(p m=true->te μ1 h=.ok (.v (g m)) h))->compLoop none all tg μ0 tc te l acc h=.ok (acc++(l.filter p).map g) h
 |[],all,acc,_=>by unfold compLoop;simp[Bj]
 |m::l,all,acc,st=>by
  obtain⟨μ1,e1,e2,e3⟩:=st m aG;unfold compLoop;simp only[Bj,if_true,e1,e2,AM];by_cases hp:p m=true
  ·rw[if_pos hp,e3 hp];simp only[AM];rw[FB p g λq hq=>st q (aC _ hq)];simp[hp]
  rw[if_neg hp,FB p g λq hq=>st q (aC _ hq)];simp[hp]
def Ag{n f:Nat}(hd:ds[f]?=some d)(hl:rs.length=d.ps.length)(e:fin (hlen h) (exs G.cs (DX G ds n) G.ini G.cf d.body (Aa d.N.length rs) h)=x):DX G ds (n+1) f rs h=x:=by
 simp only[DX,hd,hl,if_true];exact e
noncomputable def qa(K:PySem.W.Frag)(T:Tb)(ts:List Addr):Bool:=ts.all (λb=>(K.lookup b).isNone&&(Es K T 0 T.ds).any λt=>t.1 ==b)&&(Es K T 0 T.ds).all λt=>ts.contains t.1
theorem MM{K:Fq}(X:K.In h):∀{ds:List Ae}{n:Nat},EN (λf d=>d.lp.isEmpty||DT K (B5 K T f)) n ds=true->∀t∈Es K T n ds,isCodeTable h t.1
 |[],n,_,t,ht=>by simp[Es]at ht
 |d::ds,n,hh,t,ht=>by
  obtain⟨h1,h2⟩:=An (show((d.lp.isEmpty||DT K (B5 K T n))&&EN (λf d=>d.lp.isEmpty||DT K (B5 K T f)) (n+1) ds)=true from hh);unfold Es at ht;rcases bP.mp ht with ht|ht
  ·obtain⟨p,hp,rfl⟩:=bA.mp ht;rcases dR _ _ |>.mp h1 with z|z
   ·rw[eG.mp z]at hp;simp at hp
   unfold DT at z;split at z
   ·obtain⟨z,_⟩:=An z;exact(NX X z).2
   exact absurd z aB
  exact MM X h2 t ht
def VP{ts:List Addr}:(ts.map λb=>(b,(#[]:Array Value))).lookup b=some ps->b∈ts/\ps=#[]:=by
 induction ts with
 |nil=>intro h;simp at h
 |cons a ts ih=>
  intro h;rw[aF,bH]at h;split at h
  ·rename_i e;have e:=aP.mp e;cases h;exact⟨by rw[e];exact aG,rfl⟩
  obtain⟨h1,h2⟩:=ih h;exact⟨aC _ h1,h2⟩
def jN{ts:List Addr}(h:b∈ts):(ts.map λb=>(b,(#[]:Array Value))).lookup b=some #[]:=by
 induction ts with
 |nil=>simp at h
 |cons a ts ih=>
  rw[aF,bH];by_cases e:b=a
  ·rw[e];simp
  rw[show(b ==a)=false from bG.mpr e];exact ih ((aR.mp h).resolve_left e)
def Me{l:PySem.W.OpenLaw}{q:Program}{loose:List Str}{XP:(Str->Option Value)->Heap->Prop}{d:DefRec}{K:Params->PySem.W.Frag}{as:List Addr}{e:∀P,as=(K P).map (·.1)}{ts:List Addr}{T:Tb}{n f:Nat}{x:Str}{dd:Ae}
 (hn:l.most=some 63)(hdf:d.params.defaults=[])(hk:Bi (2*n+1) callerA)(hname:d.name=Str.ofString "law")(hnm:CO T.names=true)(hl:Tp T n f)(hd:T.ds[f]?=some dd)(hp:dd.ps=[x])(hf:T.fns[f]?=some (Str.ofString "law"))
 (hc:∀w:World,((OI (K w.params) T&&RS (Fe (K w.params) (B5 (K w.params) T f)) x)&&qa (K w.params) T ts)=true) :
 PySem.W.WalkO q loose XP (PySem.W.kmHook K as e ts).says l.row.toRowW d [] (λf vs=>PySem.call f vs):=by
 have tin:∀(w:World) (b:Addr),b∈ts->((K w.params).lookup b).isNone=true/\∃t∈Es (K w.params) T 0 T.ds,t.1=b:=λw b hb=>by
  obtain⟨c1,_⟩:=An (An (hc w)).2;obtain⟨a1,a2⟩:=An (bI.mp c1 b hb);obtain⟨t,ht,e⟩:=eF.mp a2;exact⟨a1,t,ht,aP.mp e⟩
 refine Ql (n:=63) (x:=x) (TS:=ts.map λb=>(b,#[])) (sp:=λw=>L8 (K w.params) (ts.map λb=>(b,#[]))) hn (by decide) hdf hk (λw h Y=>PySem.W.km_in_of Y) (λw h Y b ps hb=>?_) (λw b ps hb=>?_) (λw mg fa h KX N hmg=>?_) λw H a ns h1 h2 h3=>⟨a,ns,rfl,h3,h1,h2,λ_=>rfl⟩
 ·obtain⟨h1,rfl⟩:=VP hb;refine⟨PySem.W.km_tabs_of Y b h1,?_⟩;obtain⟨_,t,ht,rfl⟩:=tin w b h1;obtain⟨p1,_⟩:=An (An (hc w)).1;unfold OI Qq at p1;exact MM (PySem.W.km_in_of Y) (An (An p1).2).1 t ht
 ·obtain⟨h1,rfl⟩:=VP hb;exact eA.mp (tin w b h1).1
 obtain⟨c1,c2⟩:=An (hc w);refine jc hnm hl hd hp hf KX N (by rw[←hname];exact hmg) c1 (λt ht=>jN ?_);have:=bI.mp (An c2).2 t ht;exact List.contains_iff_mem.mp this
end B
namespace BK74
open PySem B
noncomputable abbrev s(x:String):Str:=Str.ofString x
section
local macro_rules|`(#[])=>`(.nil)|`(#[$a])=>`(.cons $a .nil)|`(#[$a,$b,*])=>`(.cons $a #[$b,*])|`(@$n:num)=>`(.var $n)|`(↑$n:num)=>`(.con (.int $n))
noncomputable def d0:Ae:=⟨["k"],["k"],
 .any,[],[]⟩
noncomputable def d1:Ae:=⟨["thing"],["thing"],
 #[.ret (.and #[.bfn .isi #[@0,.bty "int" .int],.not (.bfn .isi #[@0,.bty "bool" .bl])])],[],[]⟩
noncomputable def d2:Ae:=⟨["thing"],["thing"],
 #[.ite (.or #[.not (.bfn .isi #[@0,.bty "str" .str]),.not (.cmp2 .le .le ↑1 (.bfn .len #[@0]) (.glo "LONGEST_WORD" (.int 8)))]) #[.ret (.con (.bl false))] .nil,.ret (.bfn .all #[.comp ["sign"] [] [] (.nm 0) (.of @0) .nil (.cmp .in_ @0 (.glo "LETTERS" (.str "abcdefghijklmnopqrstuvwxyz")))])],[],[]⟩
noncomputable def d3:Ae:=⟨["thing"],["thing"],
 #[.ite (.or #[.not (.bfn .isi #[@0,.bty "tuple" .tup]),.cmp .ne (.bfn .len #[@0]) ↑2]) #[.ret (.con (.bl false))] .nil,.ret (.and #[.call 2 #[.idx @0 ↑0],.call 1 #[.idx @0 ↑1],.cmp2 .le .le ↑0 (.idx @0 ↑1) (.glo "GREATEST_NUMBER" (.int 99))])],[],[]⟩
noncomputable def d4:Ae:=⟨["thing"],["thing"],
 #[.ret (.and #[.call 1 #[@0],.cmp2 .le .le ↑0 @0 (.glo "LAST_DAY" (.int 9999))])],[],[]⟩
noncomputable def d5:Ae:=⟨["thing","many"],["thing","many"],
 #[.ret (.and #[.call 1 #[@0],.cmp .ge @0 ↑0,.cmp .le (.bmt .bits @0 .nil) @1])],[],[]⟩
noncomputable def d6:Ae:=⟨["mask"],["mask","places","place","rest"],
 #[.set 1 (.lstL .nil),.set 2 ↑0,.set 3 @0,.wh 70 (.cmp .gt @3 ↑0) #[.ite (.cmp .eq (.bin .mod @3 ↑2) ↑1) #[.expr (.mmt .app @1 #[@2])] .nil,.set 3 (.bin .fdiv @3 ↑2),.set 2 (.bin .add @2 ↑1)],.ret (.mov 1)],[],[]⟩
noncomputable def d7:Ae:=⟨["mask"],["mask","places"],
 #[.set 1 (.call 6 #[@0]),.ret (.ife @1 (.idx @1 ↑0) (.con .non))],[],[]⟩
noncomputable def d8:Ae:=⟨["places"],["places","mask","place"],
 #[.set 1 ↑0,.for_ (.nm 2) (.of @0) #[.set 1 (.bin .or @1 (.bin .shl ↑1 @2))],.ret @1],[],[]⟩
noncomputable def d9:Ae:=⟨["mask","bound"],["mask","bound"],
 #[.ret (.call 7 #[.bin .and @0 (.una .inv @1)])],[],[]⟩
noncomputable def d10:Ae:=⟨["lets","strings","bars","reach"],["lets","strings","bars","reach"],
 #[.ite (.not (.call 5 #[@0,.glo "DEED_BITS" (.int 5)])) #[.ret (.con (.bl false))] .nil,.ite (.or #[.not (.call 5 #[@1,.glo "STRING_BITS" (.int 6)]),.not (.call 5 #[@2,.glo "STRING_BITS" (.int 6)])]) #[.ret (.con (.bl false))] .nil,.ite (.cmp .ne (.bin .and @1 @2) ↑0) #[.ret (.con (.bl false))] .nil,.ret (.and #[.call 1 #[@3],.cmp2 .le .le ↑0 @3 (.glo "GREATEST_REACH" (.int 3))])],[],[]⟩
noncomputable def d11:Ae:=⟨["thing"],["thing"],
 .any,[],[]⟩
noncomputable def d12:Ae:=⟨["thing"],["thing"],
 #[.ite (.not (.bfn .isi #[@0,.bty "bool" .bl])) #[.any] .nil],[],[]⟩
noncomputable def d13:Ae:=⟨["first","last"],["first","last"],
 #[.ite (.not (.call 4 #[@0])) #[.any] .nil,.ite (.or #[.not (.call 4 #[@1]),.cmp .lt @1 @0]) #[.any] .nil],[],[]⟩
noncomputable def d14:Ae:=⟨["asks"],["asks"],
 (.cons (.ite (.cmp .is_ @0 (.con .non)) #[.ret (.tup #[↑0,↑0,↑0,↑0])] .nil) .any),[],[]⟩
noncomputable def d15:Ae:=⟨["closeness"],["closeness"],
 #[.ret (.call 8 #[.lrng (.bin .add @0 ↑1)])],[],[]⟩
noncomputable def d16:Ae:=⟨[],[],
 #[.ret (.lst #[.new0 16,.new0 17,.new0 18,.new0 19])],[],[]⟩
noncomputable def d17:Ae:=⟨["word"],["word","join"],
 #[.for_ (.nm 1) (.of (.call 16 .nil)) #[.ite (.cmp .eq (.meth 1 @1 .nil) @0) #[.ret @1] .nil],.any],[],[]⟩
noncomputable def d18:Ae:=⟨["joins"],["joins","least","join"],
 #[.set 1 (.new0 19),.for_ (.nm 2) (.of @0) #[.ite (.cmp .lt (.meth 2 @2 .nil) (.meth 2 @1 .nil)) #[.set 1 @2] .nil],.ret @1],[],[]⟩
noncomputable def d19:Ae:=⟨["licence","closeness"],["licence","closeness","deed"],
 #[.set 2 (.call 9 #[.call 15 #[@1],.fld @0 3]),.ret (.ife (.cmp .is_ @2 (.con .non)) (.con .non) (.tup #[.con (.str "deed"),@2]))],[],[]⟩
noncomputable def d20:Ae:=⟨["licence","closeness"],["licence","closeness"],
 #[.ret (.cmp .le (.fld @0 4) @1)],[],[]⟩
noncomputable def d21:Ae:=⟨["licence","closeness","other"],["licence","closeness","other","fault"],
 #[.set 3 (.call 19 #[@0,@1]),.ite (.and #[.cmp .is_ @3 (.con .non),.call 20 #[@0,@1]]) #[.ret (.meth 5 @2 #[@0])] .nil,.ret @3],[],[]⟩
noncomputable def d22:Ae:=⟨["thing"],["thing"],
 #[.ret (.and #[.call 1 #[@0],.cmp2 .le .le ↑0 @0 (.glo "GREATEST_PRICE" (.int 1000000))])],[],[]⟩
noncomputable def d23:Ae:=⟨["thing"],["thing"],
 #[.ite (.or #[.not (.bfn .isi #[@0,.tup #[.bty "list" .lst,.bty "tuple" .tup]]),.cmp .gt (.bfn .len #[@0]) (.glo "MOST_OFFERS" (.int 2))]) #[.ret (.con (.bl false))] .nil,.ret (.and #[.bfn .all #[.comp ["key"] [] [] (.nm 0) (.of @0) .nil (.call 3 #[@0])],.cmp .eq (.lenset @0) (.bfn .len #[@0])])],[],[]⟩
noncomputable def d24:Ae:=⟨["offers"],["offers"],
 #[.ite (.cmp .is_ @0 (.con .non)) #[.ret (.tup .nil)] .nil,.ite (.not (.call 23 #[@0])) #[.any] .nil,.ret (.bfn .tup #[@0])],[],[]⟩
noncomputable def d25:Ae:=⟨["many"],["many"],
 #[.ite (.cmp .gt @0 (.glo "MOST_BENEATH" (.int 6))) #[.any] .nil],[],[]⟩
noncomputable def d26:Ae:=⟨["many"],["many"],
 #[.ite (.cmp .gt @0 (.glo "MOST_PARTS" (.int 30))) #[.any] .nil],[],[]⟩
noncomputable def d27:Ae:=⟨["deep"],["deep"],
 #[.ite (.cmp .gt @0 (.glo "MOST_DEEP" (.int 6))) #[.any] .nil],[],[]⟩
noncomputable def d28:Ae:=⟨["thing"],["thing"],
 #[.ret (.and #[.bfn .isi #[@0,.bty "tuple" .tup],.cmp .eq (.bfn .len #[@0]) ↑2,.bfn .isi #[.idx @0 ↑1,.glo "Part" (.cls 20)]])],[],[]⟩
noncomputable def d29:Ae:=⟨["beneath"],["beneath","row"],
 #[.ite (.cmp .is_ @0 (.con .non)) #[.ret (.tup .nil)] .nil,.ite (.or #[.not (.bfn .isi #[@0,.tup #[.bty "list" .lst,.bty "tuple" .tup]]),.not (.bfn .all #[.comp ["thing"] [] [] (.nm 0) (.of @0) .nil (.call 28 #[@0])])]) #[.any] .nil,.expr (.call 25 #[.bfn .len #[@0]]),.for_ (.nm 1) (.of @0) #[.expr (.call 17 #[.idx @1 ↑0])],.ret (.bfn .tup #[@0])],[],[]⟩
noncomputable def d30:Ae:=⟨["work"],["work","rows","word","part","road","deeper"],
 #[.set 1 (.lstL #[.tup #[.lst .nil,@0]]),.for_ (.tup [2,3]) (.of (.fld @0 7)) #[.for_ (.tup [4,5]) (.of (.call 30 #[@3])) #[.expr (.mmt .app @1 #[.tup #[.bin .add (.lst #[.tup #[@2,.fld @3 8]]) @4,@5]])]],.ret (.mov 1)],[],[]⟩
noncomputable def d31:Ae:=⟨["work"],["work"],
 #[.ret (.bin .add ↑1 (.bfn .max #[.comp ["road","part"] [] [] (.tup [0,1]) (.of (.call 30 #[@0])) .nil (.bfn .len #[@0])]))],[],[]⟩
noncomputable def d32:Ae:=⟨["work"],["work","names","road","part"],
 #[.set 1 (.lstL .nil),.for_ (.tup [2,3]) (.of (.call 30 #[@0])) #[.ite (.cmp .in_ (.fld @3 8) @1) #[.any] .nil,.expr (.mmt .app @1 #[.fld @3 8])],.expr (.call 26 #[.bfn .len #[@1]]),.expr (.call 27 #[.call 31 #[@0]])],[],[]⟩
noncomputable def d33:Ae:=⟨["work","prices"],["work","prices","name"],
 #[.ite (.not (.bfn .isi #[@1,.bty "dict" .dct])) #[.any] .nil,.for_ (.nm 2) (.of (.sli (.meth 19 @0 .nil) (.ye ↑1) .no)) #[.ite (.or #[.cmp .notin @2 @1,.not (.call 22 #[.idx @1 @2])]) #[.any] .nil]],[],[]⟩
noncomputable def d34:Ae:=⟨["work","name"],["work","name","row"],
 #[.for_ (.nm 2) (.of (.call 30 #[@0])) #[.ite (.cmp .eq (.fld (.idx @2 ↑1) 8) @1) #[.ret @2] .nil],.any],[],[]⟩
noncomputable def d35:Ae:=⟨["road"],["road"],
 #[.ret (.meth 2 (.call 18 #[.comp ["word","name"] [] [] (.tup [0,1]) (.of @0) .nil (.call 17 #[@0])]) .nil)],[],[]⟩
noncomputable def d36:Ae:=⟨["work"],["work"],
 #[.ret (.comp ["road","part"] [] [] (.tup [0,1]) (.of (.call 30 #[@0])) #[.fld @1 9] (.tup #[@1,.call 35 #[@0]]))],[],[]⟩
noncomputable def d37:Ae:=⟨["book","work"],["book","work","road","part","offer"],
 #[.for_ (.tup [2,3]) (.of (.call 30 #[@1])) #[.for_ (.nm 4) (.of (.fld @3 9)) #[.expr (.meth 10 @0 #[@4])]]],[],[]⟩
noncomputable def d38:Ae:=⟨["book","work","key"],["book","work","key"],
 #[.expr (.meth 10 @0 #[@2]),.expr (.call 37 #[@0,@1])],[],[]⟩
noncomputable def d39:Ae:=⟨["book","part","closeness","other"],["book","part","closeness","other"],
 #[.ret (.comp ["offer"] ["book","closeness","other"] [0,2,3] (.nm 0) (.of (.fld @1 9)) .nil (.tup #[@0,.call 21 #[.meth 10 @1 #[@0],@2,@3]]))],[],[]⟩
noncomputable def d40:Ae:=⟨["faults"],["faults"],
 #[.ret (.bfn .all #[.comp ["offer","fault"] [] [] (.tup [0,1]) (.of @0) .nil (.cmp .isnot @1 (.con .non))])],[],[]⟩
noncomputable def d41:Ae:=⟨["book","work","name","key"],["book","work","name","key","closeness"],
 #[.set 4 (.ife (.cmp .eq @2 (.fld @1 8)) (.meth 12 @1 #[@2]) (.glo "LOOSE" (.int 0))),.ret (.call 39 #[@0,.meth 11 @1 #[@2],@4,.meth 10 @0 #[@3]])],[],[]⟩
noncomputable def d42:Ae:=⟨["work","faults_of"],["work","faults_of","rows","part","closeness","faults"],
 #[.set 2 (.lstL .nil),.for_ (.tup [3,4]) (.of (.call 36 #[@0])) #[.set 5 (.calv 1 #[@3,@4]),.ite (.call 40 #[@5]) #[.expr (.mmt .app @2 #[.tup #[.fld @3 8,@5]])] .nil],.ret (.mov 2)],[],[]⟩
noncomputable def d43:Ae:=⟨["book","work","key"],["book","work","key","other"],
 #[.expr (.call 38 #[@0,@1,@2]),.set 3 (.meth 10 @0 #[@2]),.ret (.calL 42 #[@1] 110 [0,3])],[⟨371,31,371,96⟩],[]⟩
noncomputable def d44:Ae:=⟨["part","stopping","prices"],["part","stopping","prices"],
 #[.ite (.cmp .in_ (.fld @0 8) @1) #[.ret (.idx @2 (.fld @0 8))] .nil,.ret (.bfn .min #[.idx @2 (.fld @0 8),.call 45 #[@0,@1,@2]])],[],[]⟩
noncomputable def d45:Ae:=⟨["part","stopping","prices"],["part","stopping","prices"],
 #[.ret (.bfn .sum #[.comp ["word","lower"] ["stopping","prices"] [1,2] (.tup [0,1]) (.of (.fld @0 7)) .nil (.call 44 #[@1,@2,@3])])],[],[]⟩
noncomputable def d46:Ae:=⟨["part","stopping","prices"],["part","stopping","prices"],
 #[.ite (.or #[.cmp .in_ (.fld @0 8) @1,.cmp .lt (.idx @2 (.fld @0 8)) (.call 45 #[@0,@1,@2])]) #[.ret (.lst #[.fld @0 8])] .nil,.ret (.call 47 #[@0,@1,@2])],[],[]⟩
noncomputable def d47:Ae:=⟨["part","stopping","prices"],["part","stopping","prices","names","word","lower"],
 #[.set 3 (.lstL .nil),.for_ (.tup [4,5]) (.of (.fld @0 7)) #[.expr (.mmt .ext @3 #[.call 46 #[@5,@1,@2]])],.ret (.mov 3)],[],[]⟩
noncomputable def d48:Ae:=⟨["part","total","stopping","prices","shares"],["part","total","stopping","prices","shares","left","word","lower","share"],
 #[.set 5 @1,.for_ (.tup [6,7]) (.of (.fld @0 7)) #[.set 8 (.bfn .min #[@5,.call 44 #[@7,@2,@3]]),.ite (.cmp .in_ (.fld @7 8) @2) #[.setD @4 (.fld @7 8) @8] #[.expr (.call 48 #[@7,@8,@2,@3,@4])],.set 5 (.bin .sub @5 @8)]],[],[]⟩
noncomputable def d49:Ae:=⟨["names","most"],["names","most","kept","name"],
 #[.ite (.not (.bfn .isi #[@0,.tup #[.bty "list" .lst,.bty "tuple" .tup]])) #[.any] .nil,.ite (.cmp .gt (.bfn .len #[@0]) @1) #[.any] .nil,.set 2 (.lstL .nil),.for_ (.nm 3) (.of @0) #[.ite (.not (.call 2 #[@3])) #[.any] .nil,.ite (.cmp .in_ @3 @2) #[.any] .nil,.expr (.mmt .app @2 #[@3])],.ret (.mov 2)],[],[]⟩
noncomputable def d50:Ae:=⟨["names"],["names"],
 #[.ret (.call 49 #[@0,.glo "STRING_BITS" (.int 6)])],[],[]⟩
noncomputable def d51:Ae:=⟨["names"],["names"],
 #[.ret (.call 49 #[@0,.glo "DUTY_BITS" (.int 6)])],[],[]⟩
noncomputable def d52:Ae:=⟨["licence","strings","duties"],["licence","strings","duties"],
 #[.ite (.not (.call 5 #[.bin .or (.fld @0 15) (.fld @0 16),.bfn .len #[@1]])) #[.any] .nil,.ite (.not (.call 5 #[.idx (.fld @0 18) (.una .neg ↑1),.bfn .len #[@2]])) #[.any] .nil],[],[]⟩
noncomputable def d53:Ae:=⟨["licences","strings","duties"],["licences","strings","duties","kept","licence"],
 #[.ite (.not (.bfn .isi #[@0,.tup #[.bty "list" .lst,.bty "tuple" .tup]])) #[.any] .nil,.ite (.cmp .gt (.bfn .len #[@0]) (.glo "MOST_LICENCES" (.int 12))) #[.any] .nil,.set 3 (.dicL true),.for_ (.nm 4) (.of @0) #[.ite (.not (.bfn .isi #[@4,.glo "Licence" (.cls 14)])) #[.any] .nil,.ite (.cmp .in_ (.fld @4 17) @3) #[.any] .nil,.expr (.call 52 #[@4,@1,@2]),.setD @3 (.fld @4 17) @4],.ret (.mov 3)],[],[]⟩
noncomputable def d54:Ae:=⟨["_law_script","_law_k"],["_law_script","_law_k"],
 #[.ite (.cmp .lt @1 (.bfn .len #[@0])) #[.ret (.idx @0 @1)] .nil,.ret (.bin .add (.bin .mul ↑7919 @1) ↑13)],[],[]⟩
noncomputable def d55:Ae:=⟨["_law_cell_here","_law_k"],["_law_cell_here","_law_k","_law_number"],
 #[.set 2 (.bin .mod (.bin .add (.bin .add (.bin .mul (.bin .mod @0 ↑2147483629) ↑48271) (.bin .mul ↑7919 @1)) ↑101) ↑2147483647),.set 2 (.bin .mod (.bin .add (.bin .add (.bin .mul @2 @2) (.bin .mul ↑104729 @1)) ↑7) ↑2147483629),.ret (.bin .mod (.bin .mul @2 @2) ↑2147483587)],[],[]⟩
noncomputable def d56:Ae:=⟨["_law_cell_here"],["_law_cell_here"],
 #[.ite (.cmp .ge @0 (.bin .pow ↑10 ↑18)) #[.ret (.lstL #[@0,.bin .mod @0 ↑2147483647,↑0])] .nil,.ret (.lstL #[↑0,.bin .mod @0 ↑2147483647,↑0])],[],[]⟩
noncomputable def d57:Ae:=⟨["_law_box_here","_law_many"],["_law_box_here","_law_many","_law_number"],
 #[.ite (.cmp .gt (.idx @0 ↑0) ↑0) #[.set 2 (.bin .mod (.idx @0 ↑0) @1),.setI @0 ↑0 (.bin .fdiv (.idx @0 ↑0) @1),.ret @2] .nil,.setI @0 ↑2 (.bin .add (.idx @0 ↑2) ↑1),.ret (.bin .mod (.call 55 #[.idx @0 ↑1,.idx @0 ↑2]) @1)],[],[]⟩
noncomputable def d58:Ae:=⟨["_law_cell_here","_law_many"],["_law_cell_here","_law_many","_law_letters","_law_box_here","_law_size","_law_at","_law_way","_law_base","_law_first","_law_found","_law_k","_law_letter"],
 #[.set 2 (.con (.str "abcdefghijklmnopqrstuvwxyz")),.set 3 (.call 56 #[@0]),.set 4 (.call 57 #[@3,↑8]),.set 5 (.call 57 #[@3,.bin .add @4 ↑1]),.set 6 (.call 57 #[@3,↑2]),.set 7 (.bmt .join (.con (.str "")) #[.comp ["_law_k"] ["_law_letters","_law_box_here"] [2,3] (.nm 0) (.rng1 @4) .nil (.idx @1 (.call 57 #[@2,↑26]))]),.set 8 (.call 57 #[@3,↑26]),.set 9 (.lstL .nil),.for_ (.nm 10) (.rng1 @1) #[.set 11 (.idx @2 (.bin .mod (.bin .add @8 (.bin .mul ↑7 @10)) ↑26)),.ite (.cmp .gt @10 ↑25) #[.expr (.mmt .app @9 #[.bin .add (.bin .add @11 (.bin .mul (.con (.str "qz")) ↑3)) (.bin .mul (.con (.str "x")) (.idx (.lst #[↑1,↑0]) (.bfn .int #[.cmp .eq @4 ↑7])))])] #[.ite (.cmp .eq @6 ↑0) #[.expr (.mmt .app @9 #[.bin .add (.bin .add (.sli @7 .no (.ye @5)) @11) (.sli @7 (.ye @5) .no)])] #[.expr (.mmt .app @9 #[.bin .add @11 (.sli @7 .no (.ye (.call 57 #[@3,.bin .add (.bfn .min #[@4,↑5]) ↑1])))])]]],.ret (.mov 9)],[],[]⟩
noncomputable def d59:Ae:=⟨["_law_box_here","_law_mask","_law_many"],["_law_box_here","_law_mask","_law_many"],
 #[.ret (.bin .and @1 (.call 57 #[@0,.bin .shl ↑1 @2]))],[],[]⟩
noncomputable def d60:Ae:=⟨["_law_box_here","_law_key","_law_known","_law_wide_here"],["_law_box_here","_law_key","_law_known","_law_wide_here","_law_lets","_law_strings","_law_bars","_law_reach","_law_same","_law_old"],
 #[.set 4 ↑31,.ite (.cmp .eq (.call 57 #[@0,↑4]) ↑0) #[.set 4 (.bin .xor ↑31 (.call 57 #[@0,↑32]))] .nil,.set 5 (.bin .and (.call 59 #[@0,.call 57 #[@0,↑64],↑6]) @3),.set 6 (.bin .and (.call 59 #[@0,.bin .xor @3 @5,↑6]) (.call 57 #[@0,↑64])),.set 7 (.idx (.lst #[↑0,↑1,↑1,↑2,↑2,↑3]) (.call 57 #[@0,↑6])),.set 8 (.cmp .eq (.call 57 #[@0,↑6]) ↑0),.ite (.and #[.cmp .ne @2 (.lst .nil),.cmp .eq (.call 57 #[@0,↑2]) ↑0]) #[.set 9 (.idx @2 (.call 57 #[@0,.bfn .len #[@2]])),.set 4 (.bin .and (.idx @9 ↑1) @4),.set 5 (.bin .and (.bin .or (.idx @9 ↑2) @5) (.bin .xor ↑63 (.idx @9 ↑3))),.set 6 (.bin .and (.bin .or (.idx @9 ↑3) @6) (.bin .xor ↑63 @5)),.set 7 (.bfn .min #[.idx @9 ↑4,@7]),.set 8 (.or #[.idx @9 ↑5,@8])] .nil,.ret (.tup #[@1,@4,@5,@6,@7,@8])],[],[]⟩
noncomputable def d61:Ae:=⟨["work","total","stopping","prices"],["work","total","stopping","prices","shares","name"],
 #[.set 4 (.dicL false),.for_ (.nm 5) (.of @2) #[.setD @4 @5 ↑0],.expr (.call 48 #[@0,@1,@2,@3,@4]),.ret (.mov 4)],[],[]⟩
noncomputable def d62:Ae:=⟨["_law_cell_here","_law_other"],["_law_cell_here","_law_other","_law_box_here","_law_words_here","_law_many","_law_shift","_law_wide_here","_law_small","_law_found","_law_k","_law_key"],
 #[.set 2 (.call 56 #[@0]),.set 3 (.call 58 #[@1,↑3]),.set 4 (.idx (.lst #[.bin .add ↑1 (.call 57 #[@2,↑6]),.call 57 #[@2,↑13]]) (.call 57 #[@2,↑2])),.set 5 (.call 57 #[@2,↑12]),.set 6 (.bin .sub (.bin .shl ↑1 (.idx (.lst #[↑6,↑6,↑6,.call 57 #[@2,↑7]]) (.call 57 #[@2,↑4]))) ↑1),.set 7 (.call 57 #[@2,↑2]),.set 8 (.lstL .nil),.for_ (.nm 9) (.rng1 @4) #[.set 10 (.tup #[.idx @3 (.call 57 #[@2,↑3]),.idx (.lst #[.bin .add (.bin .mul ↑8 (.bin .mod (.bin .add (.bin .mul ↑5 @9) @5) ↑12)) (.call 57 #[@2,↑8]),@9]) @7]),.expr (.mmt .app @8 #[.call 60 #[@2,@10,@8,@6]])],.ret (.mov 8)],[],[]⟩
noncomputable def d63:Ae:=⟨["_law_box_here","_law_keys"],["_law_box_here","_law_keys","_law_found","_law_k","_law_key"],
 #[.set 2 (.lstL .nil),.for_ (.nm 3) (.rng1 (.idx (.lst #[↑0,↑1,↑2,↑2,↑2,↑2]) (.call 57 #[@0,↑6]))) #[.ite (.cmp .ne @1 (.lst .nil)) #[.set 4 (.idx @1 (.call 57 #[@0,.bfn .len #[@1]])),.ite (.cmp .notin @4 @2) #[.expr (.mmt .app @2 #[@4])] .nil] .nil],.ret (.bfn .tup #[@2])],[],[]⟩
noncomputable def d64:Ae:=⟨["_law_cell_here","_law_names","_law_keys"],["_law_cell_here","_law_names","_law_keys","_law_box_here","_law_many","_law_rows","_law_k","_law_above","_law_beneath","_law_join"],
 #[.set 3 (.call 56 #[@0]),.set 4 (.idx (.lst #[.bin .add ↑1 (.call 57 #[@3,↑8]),.bin .add ↑1 (.call 57 #[@3,.bfn .len #[@1]])]) (.bfn .int #[.cmp .eq (.call 57 #[@3,↑8]) ↑0])),.set 5 (.lstL #[.tup #[.idx @1 ↑0,.call 63 #[@3,@2],.una .neg ↑1,.con (.str ""),↑1]]),.for_ (.nm 6) (.rng2 ↑1 @4) #[.set 7 (.call 57 #[@3,.bfn .len #[@5]]),.set 8 (.bfn .len #[.comp ["_law_row_here"] ["_law_above"] [7] (.nm 0) (.of @5) #[.cmp .eq (.idx @0 ↑2) @1] @0]),.ite (.and #[.cmp .lt @8 ↑6,.cmp .lt (.idx (.idx @5 @7) ↑4) ↑6]) #[.set 9 (.idx (.lst #[.con (.str "called"),.con (.str "beside"),.con (.str "joined"),.con (.str "changed"),.con (.str "changed"),.con (.str "joined")]) (.call 57 #[@3,↑6])),.expr (.mmt .app @5 #[.tup #[.idx @1 @6,.call 63 #[@3,@2],@7,@9,.bin .add (.idx (.idx @5 @7) ↑4) ↑1]])] .nil],.ret (.mov 5)],[],[]⟩
noncomputable def d65:Ae:=⟨["book","work","key","prices"],["book","work","key","prices","stopping","name","faults","total","names"],
 #[.setC 4 (.comp ["name","faults"] [] [] (.tup [0,1]) (.of (.call 43 #[@0,@1,@2])) .nil @0),.expr (.call 33 #[@1,@3]),.ite (.not @4) #[.ret (.tup #[.con (.str "told")])] .nil,.for_ (.nm 5) (.of @4) #[.set 6 (.call 41 #[@0,@1,@5,@2]),.ite (.call 40 #[@6]) #[.ret (.tup #[.con (.str "never"),@5,@6])] .nil],.set 7 (.call 45 #[@1,@4,@3]),.set 8 (.call 47 #[@1,@4,@3]),.ret (.tup #[.con (.str "loose"),@7,@8,.call 61 #[@1,@7,@4,@3]])],[],[]⟩
noncomputable def d66:Ae:=⟨["_law_table","_law_cell_here"],["_law_table","_law_cell_here","_law_mask","_law_row_here","_law_many"],
 #[.set 2 ↑0,.for_ (.nm 3) (.of @0) #[.set 2 (.bin .or (.bin .or @2 (.idx @3 ↑2)) (.idx @3 ↑3))],.set 4 ↑0,.wh 70 (.cmp .gt (.bin .shr @2 @4) ↑0) #[.set 4 (.bin .add @4 ↑1)],.ret (.idx (.lst #[↑6,@4]) (.bin .mod @1 ↑2))],[],[]⟩
noncomputable def d67:Ae:=⟨["_law_rows","_law_at"],["_law_rows","_law_at","_law_beneath","_law_k","_law_row_here"],
 #[.set 2 (.lstL .nil),.for_ (.tup [3,4]) (.enu @0) #[.ite (.cmp .eq (.idx @4 ↑2) @1) #[.expr (.mmt .app @2 #[.tup #[.idx @4 ↑3,.call 67 #[@0,@3]]])] .nil],.ret (.make 20 #[.idx (.idx @0 @1) ↑0,.idx (.idx @0 @1) ↑1,.bfn .tup #[@2]] [])],[],[]⟩
noncomputable def d68:Ae:=⟨["_law_rows","_law_at"],["_law_rows","_law_at"],
 #[.ite (.cmp .lt (.idx (.idx @0 @1) ↑2) ↑0) #[.ret ↑3] .nil,.ret (.bfn .min #[.bmt .index (.lst #[.con (.str "called"),.con (.str "beside"),.con (.str "joined"),.con (.str "changed")]) #[.idx (.idx @0 @1) ↑3],.call 68 #[@0,.idx (.idx @0 @1) ↑2]])],[],[]⟩
noncomputable def d69:Ae:=⟨["_law_rows","_law_at"],["_law_rows","_law_at","_law_found","_law_k","_law_row_here"],
 #[.set 2 (.lst #[@1]),.for_ (.tup [3,4]) (.enu @0) #[.ite (.cmp .eq (.idx @4 ↑2) @1) #[.set 2 (.bin .add @2 (.call 69 #[@0,@3]))] .nil],.ret @2],[],[]⟩
noncomputable def d70:Ae:=⟨["_law_mask"],["_law_mask","_law_place"],
 #[.for_ (.nm 1) (.rng1 ↑6) #[.ite (.cmp .eq (.bin .and (.bin .shr @0 @1) ↑1) ↑1) #[.ret @1] .nil],.ret (.con .non)],[],[]⟩
noncomputable def d71:Ae:=⟨["_law_row_here","_law_close_here","_law_other"],["_law_row_here","_law_close_here","_law_other","_law_deed","_law_masks","_law_word","_law_mask","_law_later"],
 #[.set 3 (.call 70 #[.bin .and (.bin .sub (.bin .shl ↑2 @1) ↑1) (.bin .xor ↑31 (.idx @0 ↑1))]),.ite (.cmp .isnot @3 (.con .non)) #[.ret (.tup #[.con (.str "deed"),@3])] .nil,.ite (.cmp .gt (.idx @0 ↑4) @1) #[.ret (.con .non)] .nil,.set 4 (.lst #[.bin .and (.idx @2 ↑1) (.bin .xor ↑31 (.idx @0 ↑1)),.bin .and (.idx @0 ↑2) (.bin .xor ↑63 (.idx @2 ↑2)),.bin .and (.idx @0 ↑3) (.bin .xor ↑63 (.idx @2 ↑3))]),.for_ (.tup [5,6]) (.zip (.lst #[.con (.str "lets"),.con (.str "string"),.con (.str "bar")]) @4) #[.ite (.cmp .gt @6 ↑0) #[.ret (.tup #[@5,.call 70 #[@6]])] .nil],.ite (.cmp .gt (.idx @2 ↑4) (.idx @0 ↑4)) #[.ret (.tup #[.con (.str "reach"),.idx @2 ↑4])] .nil,.set 7 (.and #[.idx @2 ↑5,.cmp .eq (.idx (.idx @2 ↑0) ↑0) (.idx (.idx @0 ↑0) ↑0),.cmp .ge (.idx (.idx @2 ↑0) ↑1) (.idx (.idx @0 ↑0) ↑1)]),.ite (.and #[.idx @0 ↑5,.not @7]) #[.ret (.tup #[.con (.str "same")])] .nil,.ret (.con .non)],[],[]⟩
noncomputable def d72:Ae:=⟨["_law_table","_law_key"],["_law_table","_law_key"],
 #[.ret (.idx (.comp ["_law_row_here"] ["_law_key"] [1] (.nm 0) (.of @0) #[.cmp .eq (.idx @0 ↑0) @1] @0) ↑0)],[],[]⟩
noncomputable def d73:Ae:=⟨["_law_table","_law_rows","_law_other"],["_law_table","_law_rows","_law_other","_law_found","_law_at","_law_close_here","_law_faults"],
 #[.set 3 (.lstL .nil),.for_ (.nm 4) (.of (.call 69 #[@1,↑0])) #[.set 5 (.call 68 #[@1,@4]),.setC 6 (.comp ["_law_key"] ["_law_table","_law_close_here","_law_other"] [0,5,2] (.nm 0) (.of (.idx (.idx @1 @4) ↑1)) .nil (.tup #[@0,.call 71 #[.call 72 #[@1,@0],@2,@3]])),.ite (.and #[.cmp .ne @6 (.lst .nil),.cmp .eq (.comp ["_law_key","_law_fault_here"] [] [] (.tup [0,1]) (.of @6) #[.cmp .is_ @1 (.con .non)] @0) (.lst .nil)]) #[.expr (.mmt .app @3 #[.tup #[.idx (.idx @1 @4) ↑0,@6]])] .nil],.ret (.mov 3)],[],[]⟩
noncomputable def d74:Ae:=⟨["_law_box_here","_law_rows"],["_law_box_here","_law_rows","_law_wide_here","_law_found","_law_row_here"],
 #[.set 2 (.idx (.lst #[↑7,↑7,.bin .add (.bin .pow ↑10 ↑6) ↑1]) (.call 57 #[@0,↑3])),.set 3 (.dicL false),.for_ (.nm 4) (.of (.sli @1 (.ye ↑1) .no)) #[.setD @3 (.idx @4 ↑0) (.call 57 #[@0,@2])],.ret (.mov 3)],[],[]⟩
noncomputable def d75:Ae:=⟨["_law_rows","_law_mask"],["_law_rows","_law_mask","_law_found","_law_k","_law_row_here"],
 #[.set 2 (.sliL @0 .no (.ye ↑1)),.for_ (.nm 3) (.rng2 ↑1 (.bfn .len #[@0])) #[.set 4 (.idx @0 @3),.expr (.mmt .app @2 #[.tup #[.idx @4 ↑0,.idx @4 ↑1,.idx @4 ↑2,.idx (.lst #[.idx @4 ↑3,.con (.str "called")]) (.bin .and (.bin .shr @1 @3) ↑1),.idx @4 ↑4]])],.ret (.mov 2)],[],[]⟩
noncomputable def d76:Ae:=⟨["_law_table","_law_rows","_law_prices_here","_law_other"],["_law_table","_law_rows","_law_prices_here","_law_other","_law_best","_law_mask","_law_price"],
 #[.set 4 (.con .non),.for_ (.nm 5) (.rng3 ↑0 (.bin .shl ↑1 (.bfn .len #[@1]))) #[.set 6 (.bfn .sum #[.comp ["_law_k"] ["_law_mask","_law_prices_here","_law_rows"] [5,2,1] (.nm 0) (.rng2 ↑1 (.bfn .len #[@1])) #[.cmp .eq (.bin .and (.bin .shr @1 @0) ↑1) ↑1] (.idx @2 (.idx (.idx @3 @0) ↑0))]),.ite (.or #[.cmp .is_ @4 (.con .non),.cmp .lt @6 @4]) #[.ite (.cmp .eq (.call 73 #[@0,.call 75 #[@1,@5],@3]) (.lst .nil)) #[.set 4 @6] .nil] .nil],.ret @4],[],[]⟩
noncomputable def d77:Ae:=⟨["_law_table","_law_book_here","_law_rows","_law_prices_here","_law_other"],["_law_table","_law_book_here","_law_rows","_law_prices_here","_law_other","_law_found","_law_best"],
 #[.set 5 (.call 65 #[@1,.call 67 #[@2,↑0],.idx @4 ↑0,@3]),.ite (.cmp .eq (.call 73 #[@0,@2,@4]) (.lst .nil)) #[.ret (.cmp .eq @5 (.tup #[.con (.str "told")]))] .nil,.set 6 (.call 76 #[@0,@2,@3,@4]),.ite (.cmp .is_ @6 (.con .non)) #[.ret (.cmp .eq (.idx @5 ↑0) (.con (.str "never")))] .nil,.ret (.and #[.cmp .eq (.idx @5 ↑0) (.con (.str "loose")),.bfn .isi #[.idx @5 ↑1,.bty "int" .int],.not (.bfn .isi #[.idx @5 ↑1,.bty "bool" .bl]),.cmp .eq (.idx @5 ↑1) @6])],[],[]⟩
noncomputable def d78:Ae:=⟨["_law_script"],["_law_script","_law_table","_law_words_here","_law_some","_law_other","_law_book_here","_law_names","_law_k","_law_rows","_law_prices_here"],
 #[.set 1 (.sli (.call 62 #[.call 54 #[@0,↑0],.call 54 #[@0,↑1]]) .no (.ye ↑6)),.set 2 (.call 58 #[.call 54 #[@0,↑2],↑12]),.setC 3 (.comp ["_law_row_here"] [] [] (.nm 0) (.of @1) .nil (.make 14 #[.idx @0 ↑0,.idx @0 ↑1,.idx @0 ↑2,.idx @0 ↑3,.idx @0 ↑4,.idx @0 ↑5] [.non,(.int 0),(.int 9999),(.bl true)])),.set 4 (.call 54 #[@0,↑2]),.set 5 (.make 21 #[.sli @2 .no (.ye (.call 66 #[@1,@4])),.sli @2 (.ye ↑6) (.ye (.bin .add ↑6 (.bin .mod (.bin .fdiv @4 ↑2) ↑7))),@3] []),.set 6 (.call 58 #[.call 54 #[@0,↑3],↑8]),.for_ (.nm 7) (.rng3 ↑4 (.bfn .max #[↑8,.bfn .min #[.bfn .len #[@0],↑10]])) #[.set 8 (.sli (.call 64 #[.call 54 #[@0,@7],@6,.comp ["_law_row_here"] [] [] (.nm 0) (.of @1) .nil (.idx @0 ↑0)]) .no (.ye ↑7)),.set 9 (.call 74 #[.call 56 #[.call 54 #[@0,.bin .add @7 ↑1]],@8]),.for_ (.nm 4) (.of (.sli @1 .no (.ye ↑2))) #[.ite (.not (.call 77 #[@1,@5,@8,@9,@4])) #[.ret (.con (.bl false))] .nil]],.ret (.con (.bl true))],[],[]⟩
noncomputable def d79:Ae:=⟨["self","lets","strings","bars","reach"],["self","lets","strings","bars","reach"],
 #[.ite (.not (.call 10 #[@1,@2,@3,@4])) #[.any] .nil,.setF @0 3 @1,.setF @0 15 @2,.setF @0 16 @3,.setF @0 4 @4],[],[]⟩
noncomputable def d80:Ae:=⟨["self","other"],["self","other","deed","string","bar"],
 #[.set 2 (.call 9 #[.fld @0 3,.fld @1 3]),.ite (.cmp .isnot @2 (.con .non)) #[.ret (.tup #[.con (.str "lets"),@2])] .nil,.set 3 (.call 9 #[.fld @1 15,.fld @0 15]),.ite (.cmp .isnot @3 (.con .non)) #[.ret (.tup #[.con (.str "string"),@3])] .nil,.set 4 (.call 9 #[.fld @1 16,.fld @0 16]),.ite (.cmp .isnot @4 (.con .non)) #[.ret (.tup #[.con (.str "bar"),@4])] .nil,.ite (.cmp .gt (.fld @0 4) (.fld @1 4)) #[.ret (.tup #[.con (.str "reach"),.fld @0 4])] .nil,.ite (.and #[.meth 21 @1 .nil,.not (.meth 22 @0 #[@1])]) #[.ret (.tup #[.con (.str "same")])] .nil,.ret (.con .non)],[],[]⟩
noncomputable def d81:Ae:=⟨["self","other"],["self","other"],
 .any,[],[]⟩
noncomputable def d82:Ae:=⟨["self"],["self"],
 #[.ret (.con (.bl false))],[],[]⟩
noncomputable def d83:Ae:=⟨["self","other"],["self","other"],
 #[.ret (.con (.bl false))],[],[]⟩
noncomputable def d84:Ae:=⟨["self"],["self"],
 .any,[],[]⟩
noncomputable def d85:Ae:=⟨["self","key","lets","strings","bars","reach","same","asks","first","last","lasting"],["self","key","lets","strings","bars","reach","same","asks","first","last","lasting","four_asks"],
 #[.ite (.not (.call 3 #[@1])) #[.any] .nil,.expr (.cfn 13 23 #[@0,@2,@3,@4,@5]),.expr (.call 12 #[@6]),.set 11 (.call 14 #[@7]),.expr (.call 13 #[@8,@9]),.expr (.call 12 #[@10]),.setF @0 17 @1,.setF @0 24 @6,.setF @0 18 @11,.setF @0 25 @8,.setF @0 26 @9,.setF @0 27 @10],[],[(.bl false),.non,(.int 0),(.int 9999),(.bl true)]⟩
noncomputable def d86:Ae:=⟨["self"],["self"],
 #[.ret (.fld @0 24)],[],[]⟩
noncomputable def d87:Ae:=⟨["self","other"],["self","other"],
 #[.ret (.and #[.fld @0 24,.cmp .eq (.idx (.fld @0 17) ↑0) (.idx (.fld @1 17) ↑0),.cmp .ge (.idx (.fld @0 17) ↑1) (.idx (.fld @1 17) ↑1)])],[],[]⟩
noncomputable def d88:Ae:=⟨["self"],["self"],
 .any,[],[]⟩
noncomputable def d89:Ae:=⟨["self"],["self"],
 .any,[],[]⟩
noncomputable def d90:Ae:=⟨["self"],["self"],
 #[.ret (.con (.str "called"))],[],[]⟩
noncomputable def d91:Ae:=⟨["self"],["self"],
 #[.ret ↑0],[],[]⟩
noncomputable def d92:Ae:=⟨["self"],["self"],
 #[.ret (.con (.str "beside"))],[],[]⟩
noncomputable def d93:Ae:=⟨["self"],["self"],
 #[.ret ↑1],[],[]⟩
noncomputable def d94:Ae:=⟨["self"],["self"],
 #[.ret (.con (.str "joined"))],[],[]⟩
noncomputable def d95:Ae:=⟨["self"],["self"],
 #[.ret ↑2],[],[]⟩
noncomputable def d96:Ae:=⟨["self"],["self"],
 #[.ret (.con (.str "changed"))],[],[]⟩
noncomputable def d97:Ae:=⟨["self"],["self"],
 #[.ret ↑3],[],[]⟩
noncomputable def d98:Ae:=⟨["self","name","offers","beneath"],["self","name","offers","beneath"],
 #[.ite (.not (.call 2 #[@1])) #[.any] .nil,.setF @0 8 @1,.setF @0 9 (.call 24 #[@2]),.setF @0 7 (.call 29 #[@3]),.expr (.call 32 #[.mov 0])],[],[]⟩
noncomputable def d99:Ae:=⟨["self"],["self"],
 #[.ret (.comp ["road","part"] [] [] (.tup [0,1]) (.of (.call 30 #[@0])) .nil (.fld @1 8))],[],[]⟩
noncomputable def d100:Ae:=⟨["self","name"],["self","name"],
 #[.ret (.idx (.call 34 #[@0,@1]) ↑1)],[],[]⟩
noncomputable def d101:Ae:=⟨["self","name"],["self","name"],
 #[.ret (.idx (.call 34 #[@0,@1]) ↑0)],[],[]⟩
noncomputable def d102:Ae:=⟨["self","name"],["self","name"],
 #[.ret (.call 35 #[.meth 28 @0 #[@1]])],[],[]⟩
noncomputable def d103:Ae:=⟨["self"],["self"],
 .any,[],[]⟩
noncomputable def d104:Ae:=⟨["self","strings","duties","licences"],["self","strings","duties","licences"],
 #[.setF @0 15 (.call 50 #[@1]),.setF @0 30 (.call 51 #[@2]),.setF @0 31 (.call 53 #[@3,.fld @0 15,.fld @0 30])],[],[]⟩
noncomputable def d105:Ae:=⟨["self"],["self"],
 .any,[],[]⟩
noncomputable def d106:Ae:=⟨["self"],["self"],
 .any,[],[]⟩
noncomputable def d107:Ae:=⟨["self"],["self"],
 .any,[],[]⟩
noncomputable def d108:Ae:=⟨["self","key"],["self","key"],
 #[.ite (.or #[.not (.call 3 #[@1]),.cmp .notin @1 (.fld @0 31)]) #[.any] .nil,.ret (.idx (.fld @0 31) @1)],[],[]⟩
noncomputable def d109:Ae:=⟨["self","key"],["self","key"],
 .any,[],[]⟩
noncomputable def T:Tb where
 cs:=[⟨"GrantError",true,[],[0],none,[]⟩,⟨"NoWord",true,[0],[0,1],none,[]⟩,⟨"NoKey",true,[0],[0,2],none,[]⟩,⟨"NoJoin",true,[0],[0,3],none,[]⟩,⟨"NoPart",true,[0],[0,4],none,[]⟩,⟨"NoDay",true,[0],[0,5],none,[]⟩,⟨"BadTerms",true,[0],[0,6],none,[]⟩,⟨"BadAsks",true,[0],[0,7],none,[]⟩,⟨"BadOffers",true,[0],[0,8],none,[]⟩,⟨"BadBeneath",true,[0],[0,9],none,[]⟩,⟨"Doubled",true,[8],[0,10],none,[]⟩,⟨"TooMany",true,[6],[0,11],none,[]⟩,⟨"TooDeep",true,[6],[0,12],none,[]⟩,⟨"Terms",false,[3,15,16,4],[13],some 79,[(5,80),(14,81),(21,82),(22,83),(29,84)]⟩,⟨"Licence",false,[17,24,18,25,26,27,3,15,16,4],[13,14],some 85,[(21,86),(22,87),(29,88),(5,80),(14,81)]⟩,⟨"Join",false,[],[15],none,[(32,89)]⟩,⟨"Called",false,[],[15,16],none,[(1,90),(2,91),(32,89)]⟩,⟨"Beside",false,[],[15,17],none,[(1,92),(2,93),(32,89)]⟩,⟨"Joined",false,[],[15,18],none,[(1,94),(2,95),(32,89)]⟩,⟨"Changed",false,[],[15,19],none,[(1,96),(2,97),(32,89)]⟩,⟨"Part",false,[8,9,7],[20],some 98,[(19,99),(11,100),(28,101),(12,102),(29,103)]⟩,⟨"Book",false,[15,30,31],[21],some 104,[(33,105),(34,106),(13,107),(10,108),(20,109)]⟩,⟨"NoPrice",true,[0],[0,22],none,[]⟩]
 names:=[s "found",s "word",s "closeness",s "lets",s "reach",s "fault",s "many",s "beneath",s "name",s "offers",s "licence",s "at",s "closeness_of",s "all_keys",s "covers",s "strings",s "bars",s "key",s "asks",s "all_names",s "coverers",s "wants_same",s "is_later",s "__init__",s "same",s "first",s "last",s "lasting",s "road",s "told",s "duties",s "by_key",s "need",s "string_names",s "duty_names"]
 glo:=[("LETTERS",(.str "abcdefghijklmnopqrstuvwxyz")),("LONGEST_WORD",(.int 8)),("GREATEST_NUMBER",(.int 99)),("LAST_DAY",(.int 9999)),("DEED_BITS",(.int 5)),("STRING_BITS",(.int 6)),("DUTY_BITS",(.int 6)),("GREATEST_REACH",(.int 3)),("JOIN_COUNT",(.int 4)),("MOST_OFFERS",(.int 2)),("MOST_BENEATH",(.int 6)),("MOST_PARTS",(.int 30)),("MOST_DEEP",(.int 6)),("GREATEST_PRICE",(.int 1000000)),("LOOSE",(.int 0)),("MOST_LICENCES",(.int 12))]
 blt:=[s "all",s "bool",s "dict",s "enumerate",s "int",s "isinstance",s "len",s "list",s "max",s "min",s "range",s "set",s "str",s "sum",s "tuple",s "zip"]
 cfl:=[((13,23),79)]
 fns:=[s "_wall",s "is_whole",s "is_word",s "is_key",s "is_day",s "is_mask",s "bits_of",s "least_bit",s "mask_of",s "least_beyond",s "are_terms",s "are_asks",s "need_truth",s "need_span",s "kept_asks",s "needed_deeds",s "all_joins",s "join_of",s "loosest",s "deed_fault",s "binds",s "fit_fault",s "is_price",s "are_offers",s "kept_offers",s "need_few_beneath",s "need_few_parts",s "need_not_deep",s "is_joined_part",s "kept_beneath",s "walked",s "depth_of",s "need_bounds",s "need_prices",s "row_of",s "closeness_along",s "offered_parts",s "need_known",s "need_key",s "part_faults",s "all_at_fault",s "faults_at_loosest",s "stopping_rows",s "stops",s "least_price",s "least_price_beneath",s "loose_names",s "loose_names_beneath",s "share_beneath",s "kept_names",s "kept_strings",s "kept_duties",s "need_named",s "kept_licences",s "_law_cell",s "_law_mixed",s "_law_box",s "_law_take",s "_law_words",s "_law_within",s "_law_licence",s "shared_out",s "_law_book",s "_law_offers",s "_law_tree",s "loosened",s "_law_wide",s "_law_part",s "_law_close",s "_law_order",s "_law_least",s "_law_fault",s "_law_row",s "_law_stops",s "_law_prices",s "_law_called",s "_law_cheapest",s "_law_good",s "law"]
 mths:=[(13,23),(13,5),(13,14),(13,21),(13,22),(13,29),(14,23),(14,21),(14,22),(14,29),(15,32),(16,1),(16,2),(17,1),(17,2),(18,1),(18,2),(19,1),(19,2),(20,23),(20,19),(20,11),(20,28),(20,12),(20,29),(21,23),(21,33),(21,34),(21,13),(21,10),(21,20)]
 ds:=[d0,d1,d2,d3,d4,d5,d6,d7,d8,d9,d10,d11,d12,d13,d14,d15,d16,d17,d18,d19,d20,d21,d22,d23,d24,d25,d26,d27,d28,d29,d30,d31,d32,d33,d34,d35,d36,d37,d38,d39,d40,d41,d42,d43,d44,d45,d46,d47,d48,d49,d50,d51,d52,d53,d54,d55,d56,d57,d58,d59,d60,d61,d62,d63,d64,d65,d66,d67,d68,d69,d70,d71,d72,d73,d74,d75,d76,d77,d78,d79,d80,d81,d82,d83,d84,d85,d86,d87,d88,d89,d90,d91,d92,d93,d94,d95,d96,d97,d98,d99,d100,d101,d102,d103,d104,d105,d106,d107,d108,d109]
 lds:=[([s "book",s "other"],[s "part",s "closeness"],(.call 39 #[@0,@2,@3,@1]))]
end
noncomputable abbrev Ph(n:Nat):Fs:=DX T.gt T.all n
noncomputable def Wf(c k:Int):Int:=
 let a:=(c%2147483629*48271+7919*k+101)%2147483647
 let b:=(a*a+104729*k+7)%2147483629
 b*b%2147483587
def QV{n:Nat}{c k:Int}:Ph (n+1) 55 [.v (.int c),.v (.int k)] h=.ok (.v (.int (Wf c k))) h:=by
 refine Ag (d:=d55) rfl rfl ?_;simp[d55,Aa];rfl
end BK74
namespace B
open PySem L2 PySem.SeqAt
section
variable {n:Nat}
@[simp]def qK:ex cs Φ ini cf (.wh n e ss) μ h=Cv (e2 cs Φ ini cf e).2 (exs cs Φ ini cf ss) n μ h:=rfl
noncomputable def iU(b:Mm)(fs:En->MH->AB (List R))(μ:En)(h1:MH)(x:R):AB R:=if (match x with| .r n=>Wn h1[n]? |_=>false)=true then(fs μ h1).bind λrs h2=>match x with
 |.r n=>match h2[n]?,vals rs with
  |some (.lst l),some as=>(match Tw b l as with
   |some l'=>.ok (.v .non) (h2.set n (.lst l'))
   |none=>.no)
  |_,_=>.no
 |_=>.no
 else .no
@[simp]def kB:(e2 cs Φ ini cf (.mmt b o es)).1 μ h=((e2 cs Φ ini cf o).1 μ h).bK λx h1=>iU b (Dy cs Φ ini cf es) μ h1 x:=rfl
@[simp]def oE{n:Nat}:iU b fs μ h (.r n)=if Wn (Ec h n)=true then(fs μ h).bK λrs h2=>jR b n h2 (Ec h2 n) (vals rs) else .no:=rfl
@[simp]def so:Wn (some (.lst l))=true:=rfl
@[simp]def rV:Tw .app l [m]=if l.length<big then some (l++ [m]) else none:=rfl
@[simp]def rT:Tw .ext l [.lst z]=if l.length+z.length<=big then some (l++z) else none:=rfl
@[simp]def lX{i j:Int}:AL .eq (.int i) (.int j)=some (decide (i=j)):=by simp[AL,PX,Gn,O0]
@[simp]def lW{i j:Int}:AL .ne (.int i) (.int j)=some (!decide (i=j)):=by simp[AL,PX,Gn,O0]
noncomputable def VV(cs:List Ci)(f:Nat)(μ:En)(n:Nat)(h:MH)(m:MV):Option MO->SR
 |some (.ins c ns ms)=>(cs[c]?).bind λi=>if i.exc=false/\f∈i.flds/\ns.length<1000 then some (.nx μ,AD h n (.ins c (C0 f m ns ms).1 (C0 f m ns ms).2)) else none
 |_=>none
noncomputable def VU(cs:List Ci)(f:Nat)(μ:En)(x o:R)(h2:MH):SR:=match x,o with
 |.v m,.r n=>(match h2[n]? with
  |some (.ins c ns ms)=>(cs[c]?).bind λi=>if i.exc=false/\f∈i.flds/\ns.length<1000 then some (.nx μ,h2.set n (.ins c (C0 f m ns ms).1 (C0 f m ns ms).2)) else none
  |_=>none)
 |_,_=>none
@[simp]def lf{f m':Nat}{c:Nat}:VV cs f μ m' h m (some (.ins c ns ms))=(cs[c]?).bind λi=>if i.exc=false/\f∈i.flds/\ns.length<1000 then some (.nx μ,AD h m' (.ins c (C0 f m ns ms).1 (C0 f m ns ms).2)) else none:=rfl
@[simp]def lb{f n:Nat}:VU cs f μ (.v m) (.r n) h=VV cs f μ n h m (Ec h n):=rfl
@[simp]def ku{f:Nat}:ex cs Φ ini cf (.setF o f e) μ h=Ea μ (x:=(e2 cs Φ ini cf e).1 μ h) λx h1=>Ea μ (x:=(e2 cs Φ ini cf o).1 μ h1) λo h2=>VU cs f μ x o h2:=rfl
def WB{c m f:Nat}(hi:cf c m=some f):(e2 cs Φ ini cf (.cfn c m es)).1 μ h=(Dy cs Φ ini cf es μ h).bK λrs h1=>Φ f rs h1:=by
 show(match cf c m with|some f=>(λμ h=>(Dy cs Φ ini cf es μ h).bind λrs h1=>Φ f rs h1:Ef)|none=>λ_ _=>AB.no) μ h=_;rw[hi];rfl
end
def AH:(e2 cs Φ ini cf (.comp xs ys js tg it c e)).1 μ h=BU xs.length js tg (Pm cs Φ ini cf it) (Ov cs Φ ini cf c) (e2 cs Φ ini cf e).1 μ h:=rfl
def Px{k:Nat}(g:MV->MV)(htc:∀μ h,tc μ h=.ok true h)(hi:fi μ h=.ok ⟨l,none⟩ h1)(hl:l.length<=big)(st:∀m∈l,∃μ1,Bg tg m (startC k js μ)=some μ1/\te μ1 h1=.ok (.v (g m)) h1):BU k js tg fi tc te μ h=.ok (.v (.lst (l.map g))) h1:=by
 unfold BU;rw[hi,AM];show(if l.length<=big then(compLoop none l tg (startC k js μ) tc te l [] h1).bind λl h2=>AB.ok (R.v (.lst l)) h2 else .no)=_;rw[if_pos hl,Le g htc st];rfl
def Tj:∀l:List MV,Mb [.lst (l.map λ_=>.bl true)]=some (.bl true):=by
 intro l;show(D3 (l.map λ_=>.bl true)).map _=_;have:∀l:List MV,∃bs:List Bool,D3 (l.map λ_=>MV.bl true)=some bs/\bs.all id=true:=by
  intro l
  induction l with
  |nil=>exact⟨[],rfl,rfl⟩
  |cons a l ih=>
   obtain⟨bs,h1,h2⟩:=ih;exact⟨true::bs,by show(D3 (l.map λ_=>MV.bl true)).map _=_;rw[h1];rfl,by simpa using h2⟩
 obtain⟨bs,h1,h2⟩:=this l;rw[h1];simp[h2]
theorem Qk(P:Nat->En->MH->Prop)(st:∀k μ h,P (k+1) μ h->∃μ2 h2,c μ h=.ok true h/\b μ h=some (.nx μ2,h2)/\P k μ2 h2)(en:∀μ h,P 0 μ h->c μ h=.ok false h):∀{n k:Nat}{μ:En}{h:MH},k<n->P k μ h->∃μ' h',Cv c b n μ h=some (.nx μ',h')/\P 0 μ' h'
 |0,k,μ,h,hk,p=>by lia
 |n+1,0,μ,h,hk,p=>⟨μ,h,by simp only[Cv,en μ h p,RA];rfl,p⟩
 |n+1,k+1,μ,h,hk,p=>by
  obtain⟨μ2,h2,e1,e2,p2⟩:=st k μ h p;obtain⟨μ',h',e,q⟩:=Qk P st en (n:=n) (k:=k) (by lia) p2;refine⟨μ',h',?_,q⟩;rw[←e];simp only[Cv,e1,RA,if_true,e2]
end B
namespace BK74
open PySem B
noncomputable def bl:Nat->Int->Int->List MV
 |0,_,_=>[]
 |f+1,r,p=>if r<=0 then [] else(if r%2=1 then [.int p] else [])++bl f (r / 2) (p+1)
def U9{n k:Nat}{m:Int}(h0:0<=m)(hk:m<2^k)(h1:k=0\/2^(k-1)<=m)(h2:k<=64):Ph (n+1) 6 [.v (.int m)] h=.ok (.v (.lst (bl 64 m 0))) h:=by
 refine Ag (d:=d6) rfl rfl ?_;have W:=Qk (c:=(e2 T.gt.cs (DX T.gt T.all n) T.gt.ini T.gt.cf (.cmp .gt (.var 3) (.con (.int 0)))).2) (b:=exs T.gt.cs (DX T.gt T.all n) T.gt.ini T.gt.cf (.cons (.ite (.cmp .eq (.bin .mod (.var 3) (.con (.int 2))) (.con (.int 1))) (.cons (.expr (.mmt .app (.var 1) (.cons (.var 2) .nil))) .nil) .nil) (.cons (.set 3 (.bin .fdiv (.var 3) (.con (.int 2)))) (.cons (.set 2 (.bin .add (.var 2) (.con (.int 1)))) .nil))))
  (λk μ h'=>∃p r acc f,μ=[some (.v (.int m)),some (.r (hlen h)),some (.v (.int p)),some (.v (.int r))]/\h'=hnew h (.lst acc)/\0<=r/\r<2^k/\(k=0\/2^(k-1)<=r)/\acc++bl f r p=bl 64 m 0/\k<=f/\acc.length+k<=64)
  (λk μ h' hp=>?_) (λμ h' hp=>?_) (n:=70) (k:=k) (μ:=[some (.v (.int m)),some (.r (hlen h)),some (.v (.int 0)),some (.v (.int m))]) (h:=hnew h (.lst [])) (by lia) ⟨0,m,[],64,rfl,rfl,h0,hk,h1,rfl,h2,by simpa using h2⟩
 ·obtain⟨μ',h',e,p,r,acc,f,rfl,rfl,a1,a2,a3,a4,a5,a6⟩:=W;have hr:r=0:=by simp at a2;lia
  subst hr;have:bl f 0 p=[]:=by cases f<;>simp[bl]
  rw[this,dD]at a4;simp[d6,Aa,e];exact a4
 ·obtain⟨p,r,acc,f,rfl,rfl,a1,a2,a3,a4,a5,a6⟩:=hp;have a3:2^k<=r:=by simpa using a3
  have hpos:(0:Int)<2^k:=Int.pow_pos (by decide);have hr:0<r:=by lia
  obtain⟨f,rfl⟩:∃g,f=g+1:=⟨f-1,by lia⟩;have e2k:(2:Int)^(k+1)=2*2^k:=by rw[Int.pow_succ];lia
  have e3:bl (f+1) r p=(if r%2=1 then [.int p] else [])++bl f (r / 2) (p+1):=by simp only[bl];rw[if_neg (by lia)]
  rw[e3]at a4;have b1:0<=r / 2:=by lia
  have b2:r / 2<2^k:=by lia
  have b3:k=0\/(2:Int)^(k-1)<=r / 2:=by
   rcases k with _|k
   ·exact .inl rfl
   right
   have:(2:Int)^(k+1)=2*2^k:=by rw[Int.pow_succ];lia
   simp only[Nat.add_sub_cancel]
   lia
  have al:acc.length<big:=by unfold big;lia
  by_cases h1:r%2=1
  ·rw[if_pos h1,←dE]at a4;refine⟨_,_,by simp[hr],?_,p+1,r / 2,acc++ [.int p],f,rfl,rfl,b1,b2,b3,a4,by lia,by simp;lia⟩;simp[h1,al]
  rw[if_neg h1,dC]at a4;refine⟨_,_,by simp[hr],?_,p+1,r / 2,acc,f,rfl,rfl,b1,b2,b3,a4,by lia,by lia⟩;simp[h1]
 obtain⟨p,r,acc,f,rfl,rfl,a1,a2,a3,a4,a5,a6⟩:=hp;have hr:r=0:=by simp at a2;lia
 simp[hr]
def ql(m:Int)(h:0<=m)(hm:m<2^63):∃k:Nat,m<2^k/\(k=0\/(2:Int)^(k-1)<=m)/\k<=63:=by
 have key:∀j:Nat,j<=63->m<2^j->∃k:Nat,m<2^k/\(k=0\/(2:Int)^(k-1)<=m)/\k<=63:=by
  intro j
  induction j with
  |zero=>exact λ_ h=>⟨0,h,.inl rfl,by lia⟩
  |succ j ih=>
   intro hj h;by_cases h1:m<2^j
   ·exact ih (by lia) h1
   exact⟨j+1,h,.inr (by simp only[Nat.add_sub_cancel];lia),hj⟩
 exact key 63 (by lia) hm
def Rn{n:Nat}{m:Int}{h:MH}(h0:0<=m)(hk:m<2^63):Ph (n+1) 6 [.v (.int m)] h=.ok (.v (.lst (bl 64 m 0))) h:=by
 obtain⟨k,a,b,c⟩:=ql m h0 hk;exact U9 h0 a b (by lia)
noncomputable def Mc(m:Int):MV:=match bl 64 m 0 with
 |[]=>.non
 |x::_=>x
def QX{n:Nat}{m:Int}(h0:0<=m)(hk:m<2^63):Ph (n+2) 7 [.v (.int m)] h=.ok (.v (Mc m)) h:=by
 refine Ag (d:=d7) rfl rfl ?_;have e:=@Rn n m h h0 hk;unfold Mc;cases hb:bl 64 m 0 with
 |nil=>simp[d7,Aa,e,hb]
 |cons x l=>simp[d7,Aa,e,hb]
end BK74
namespace BK74
open PySem B L2
def Do{n:Nat}{i:Int}:Ph (n+1) 1 [.v (.int i)] h=.ok (.v (.bl true)) h:=(show Ph (n+1) 1 [.v (.int i)] h=.ok (.v (.bl true)) (h.take h.length) from rfl).trans (by rw[bJ])
def Rk{n:Nat}{i:Int}(h0:0<=i)(h1:i<=9999):Ph (n+2) 4 [.v (.int i)] h=.ok (.v (.bl true)) h:=by
 refine Ag (d:=d4) rfl rfl ?_;simp[d4,Aa,Do,h0,h1]
def OH{n:Nat}{a b:Int}(h0:0<=Builtin.bitAnd a (Builtin.bitNot b))(h1:Builtin.bitAnd a (Builtin.bitNot b)<2^63):Ph (n+3) 9 [.v (.int a),.v (.int b)] h=.ok (.v (Mc (Builtin.bitAnd a (Builtin.bitNot b)))) h:=by
 refine Ag (d:=d9) rfl rfl ?_;have e:∀i:Int,We .inv (.int i)=some (.int (Builtin.bitNot i)):=λ_=>rfl;simp[d9,Aa,e,QX h0 h1]
def EB{n:Nat}{a k:Int}{h:MH}(h0:0<=a)(h1:(Builtin.Int.intBits a:Int)<=k):Ph (n+2) 5 [.v (.int a),.v (.int k)] h=.ok (.v (.bl true)) h:=by
 refine Ag (d:=d5) rfl rfl ?_;have e1:∀i:Int,Zz .bits (.int i)=true:=λ_=>rfl;have e2:∀i:Int,Z0 .bits (.int i) []=some (.int (Builtin.Int.intBits i)):=λ_=>rfl;simp[d5,Aa,Do,h0,e1,e2,h1]
def QO{n:Nat}{a b c r:Int}(a0:0<=a)(a1:(Builtin.Int.intBits a:Int)<=5)(b0:0<=b)(b1:(Builtin.Int.intBits b:Int)<=6)(c0:0<=c)(c1:(Builtin.Int.intBits c:Int)<=6)(bc:Builtin.bitAnd b c=0)(r0:0<=r)(r1:r<=3):Ph (n+3) 10 [.v (.int a),.v (.int b),.v (.int c),.v (.int r)] h=.ok (.v (.bl true)) h:=by
 refine Ag (d:=d10) rfl rfl ?_;simp[d10,Aa,Do,EB a0 a1,EB b0 b1,EB c0 c1,bc,r0,r1]
def QM{n:Nat}:Ph (n+1) 12 [.v (.bl b)] h=.ok (.v .non) h:=(show Ph (n+1) 12 [.v (.bl b)] h=.ok (.v .non) (h.take h.length) from rfl).trans (by rw[bJ])
def U1{n:Nat}{a b:Int}(h0:0<=a)(h1:a<=9999)(h2:0<=b)(h3:b<=9999)(h4:a<=b):Ph (n+3) 13 [.v (.int a),.v (.int b)] h=.ok (.v .non) h:=by
 refine Ag (d:=d13) rfl rfl ?_;have h5:¬b<a:=by lia
 simp[d13,Aa,Rk h0 h1,Rk h2 h3,h5]
def QN{n q c:Nat}{a b d r:Int}{ns:List Nat}{ms:List MV}(hq:Ec h q=some (.ins 14 [] []))(a0:0<=a)(a1:(Builtin.Int.intBits a:Int)<=5)(b0:0<=b)(b1:(Builtin.Int.intBits b:Int)<=6)(c0:0<=d)(c1:(Builtin.Int.intBits d:Int)<=6)(bc:Builtin.bitAnd b d=0)(r0:0<=r)(r1:r<=3):Ph (n+4) 79 [.r q,.v (.int a),.v (.int b),.v (.int d),.v (.int r)] h=.ok (.v .non) (AD h q (.ins 14 [3,15,16,4] [.int a,.int b,.int d,.int r])):=by
 refine Ag (d:=d79) rfl rfl ?_;have hl:=GO hq;have e:T.gt.cs[14]?=some ⟨"Licence",false,[17,24,18,25,26,27,3,15,16,4],[13,14],some 85,[(21,86),(22,87),(29,88),(5,80),(14,81)]⟩:=rfl;simp[d79,Aa,QO a0 a1 b0 b1 c0 c1 bc r0 r1,hq,hl,e]
def CQ(c:Nat):Prop:=97<=c/\c<=122
def Bw(z:Str):Prop:=1<=z.length/\z.length<=8/\∀c∈z.cps.toList,CQ c
def YO:∀c:Fin 26,oU ⟨#[97+c.val]⟩ (Str.ofString "abcdefghijklmnopqrstuvwxyz")=true:=by decide +kernel
def Ml(c:Nat)(h:CQ c):oU ⟨#[c]⟩ (Str.ofString "abcdefghijklmnopqrstuvwxyz")=true:=by
 have:=YO ⟨c-97,by have:=h.2;lia⟩
 rwa[show 97+(c-97)=c from Nat.add_sub_cancel' h.1]at this
def IK{n:Nat}{z:Str}(hz:Bw z):Ph (n+1) 2 [.v (.str z)] h=.ok (.v (.bl true)) h:=by
 refine Ag (d:=d2) rfl rfl ?_;obtain⟨h1,h2,h3⟩:=hz;have hb:z.length<=big:=by unfold big;lia
 have e1:OX T.gt.cs [.str z,.ty .str]=some (.bl true):=rfl;have c1:(1:Int)<=z.length:=by lia
 have c2:(z.length:Int)<=8:=by lia
 have e2:BU 1 [] (.nm 0) (Pm T.gt.cs (DX T.gt T.all n) T.gt.ini T.gt.cf (.of (.var 0))) (Ov T.gt.cs (DX T.gt T.all n) T.gt.ini T.gt.cf .nil) (e2 T.gt.cs (DX T.gt T.all n) T.gt.ini T.gt.cf (.cmp .in_ (.var 0) (.glo (Str.ofString "LETTERS") (.str (Str.ofString "abcdefghijklmnopqrstuvwxyz"))))).1 [some (.v (.str z))] h=.ok (.v (.lst ((FD z).map λ_=>.bl true))) h:=by
  refine Px (λ_=>.bl true) (λ_ _=>rfl) (by simp[Fv]) (by simp[FD];exact hb) λm hm=>?_;obtain⟨c,hc,rfl⟩:=bA.mp hm;refine⟨_,rfl,?_⟩;simp[startC,AL,Y3,Ml c (h3 c hc)]
 simp[d2,Aa,e1,hb,c1,c2,AH,e2,Tj]
def Rc{n:Nat}{z:Str}{i:Int}(hz:Bw z)(h0:0<=i)(h1:i<=99):Ph (n+2) 3 [.v (.tup [.str z,.int i])] h=.ok (.v (.bl true)) h:=by
 refine Ag (d:=d3) rfl rfl ?_;have e1:OX T.gt.cs [.tup [.str z,.int i],.ty .tup]=some (.bl true):=rfl;simp[d3,Aa,e1,IK hz,Do,h0,h1]
structure Li where
 w:Str
 i:Fin 100
 lets:Fin 32
 sgs:Fin 64
 bars:Fin 64
 reach:Fin 4
 same:Bool
noncomputable abbrev iv{n:Nat}(k:Fin n):MV:=.int (k.val:Int)
noncomputable def ZV(w:Str)(i:Nat):MV:=.tup [.str w,.int (i:Int)]
noncomputable def Li.key(l:Li):MV:=ZV l.w l.i.val
noncomputable def Iv:MV:=.tup [.int 0,.int 0,.int 0,.int 0]
noncomputable def Li.mv(l:Li):MV:=.obj 14 [3,15,16,4,17,24,18,25,26,27] [iv l.lets,iv l.sgs,iv l.bars,iv l.reach,l.key,.bl l.same,Iv,.int 0,.int 9999,.bl true]
noncomputable def sub(a b:Nat):Bool:=decide (a &&& b=a)
noncomputable def BD:MV->Bool
 |.non=>true
 |_=>false
noncomputable abbrev JE(a b:Nat):MV:=Mc (Builtin.bitAnd (a:Int) (Builtin.bitNot (b:Int)))
def Ob:∀a b:Fin 64,0<=Builtin.bitAnd (a.val:Int) (Builtin.bitNot (b.val:Int))/\Builtin.bitAnd (a.val:Int) (Builtin.bitNot (b.val:Int))<2^63:=by decide +kernel
def VA:∀a b:Fin 64,BD (JE a.val b.val)=sub a.val b.val:=by decide +kernel
theorem Ta:∀f r p x,x∈bl f r p->∃k,x=.int k
 |0,r,p,x,h=>by simp[bl]at h
 |f+1,r,p,x,h=>by
  unfold bl at h;split at h
  ·simp at h
  rcases bP.mp h with h|h
  ·split at h
   ·exact⟨p,by simpa using h⟩
   simp at h
  exact Ta f _ _ x h
def HU(m:Int):Mc m=.non\/∃k,Mc m=.int k:=by
 unfold Mc;cases hb:bl 64 m 0 with
 |nil=>exact .inl rfl
 |cons x l=>exact .inr (Ta 64 m 0 x (by rw[hb];exact aG))
def DJ{a b:Nat}(ha:a<64)(hb:b<64):(JE a b=.non/\sub a b=true)\/∃k,JE a b=.int k/\sub a b=false:=by
 have h:=VA ⟨a,ha⟩ ⟨b,hb⟩;rcases HU (Builtin.bitAnd (a:Int) (Builtin.bitNot (b:Int))) with e|⟨k,e⟩
 ·exact .inl ⟨e,by rw[←h];show BD (JE a b)=true;unfold JE;rw[e];rfl⟩
 exact .inr ⟨k,e,by rw[←h];show BD (JE a b)=false;unfold JE;rw[e];rfl⟩
def Gv{n:Nat}{a b:Nat}(ha:a<64)(hb:b<64):Ph (n+3) 9 [.v (.int a),.v (.int b)] h=.ok (.v (JE a b)) h:=OH (Ob ⟨a,ha⟩ ⟨b,hb⟩).1 (Ob ⟨a,ha⟩ ⟨b,hb⟩).2
noncomputable def EF(a b:Li):Bool:=a.same&&(decide (a.w=b.w)&&decide (b.i.val<=a.i.val))
noncomputable def fM(a b:Li):MV:=
 if sub a.lets.val b.lets.val=false then .tup [.str "lets",JE a.lets.val b.lets.val] else
 if sub b.sgs.val a.sgs.val=false then .tup [.str "string",JE b.sgs.val a.sgs.val] else
 if sub b.bars.val a.bars.val=false then .tup [.str "bar",JE b.bars.val a.bars.val] else
 if b.reach.val<a.reach.val then .tup [.str "reach",iv a.reach] else
 if (b.same&& !EF a b)=true then .tup [.str "same"] else .non
noncomputable def ZY(a b:Li):Bool:=sub a.lets.val b.lets.val&&(sub b.sgs.val a.sgs.val&&(sub b.bars.val a.bars.val&&(decide (a.reach.val<=b.reach.val)&&(!b.same||EF a b))))
def Ze(a b:Li):BD (fM a b)=ZY a b:=by
 unfold fM ZY;cases sub a.lets.val b.lets.val<;>cases sub b.sgs.val a.sgs.val<;>cases sub b.bars.val a.bars.val<;>simp[BD]
 by_cases h:b.reach.val<a.reach.val
 ·have h2:¬a.reach.val<=b.reach.val:=by lia
  simp[h,h2]
 have h2:a.reach.val<=b.reach.val:=by lia
 cases hs:b.same<;>cases hl:EF a b<;>simp[h,h2,BD]
def pP:T.gt.cs[14]?=some ⟨"Licence",false,[17,24,18,25,26,27,3,15,16,4],[13,14],some 85,[(21,86),(22,87),(29,88),(5,80),(14,81)]⟩:=rfl
section
variable {l:Li}
@[simp]def lQ:Du T.gt.cs 3 l.mv=some (iv l.lets):=rfl
@[simp]def p9:Du T.gt.cs 15 l.mv=some (iv l.sgs):=rfl
@[simp]def lR:Du T.gt.cs 16 l.mv=some (iv l.bars):=rfl
@[simp]def jy:Du T.gt.cs 4 l.mv=some (iv l.reach):=rfl
@[simp]def pA:Du T.gt.cs 17 l.mv=some l.key:=rfl
@[simp]def lO:Du T.gt.cs 24 l.mv=some (.bl l.same):=rfl
@[simp]def rM:meth T.gt.cs 21 l.mv=some 86:=rfl
@[simp]def rO:meth T.gt.cs 22 l.mv=some 87:=rfl
@[simp]def rP:meth T.gt.cs 5 l.mv=some 80:=rfl
end
end BK74
namespace B
open PySem L2 PySem.SeqAt
section
variable {i:Int}{z y:Str}
@[simp]def tT:AL .is_ .non .non=some true:=rfl
@[simp]def tU:AL .is_ (.int i) .non=some false:=rfl
@[simp]def tS:AL .is_ (.tup l) .non=some false:=rfl
@[simp]def sj:AL .isnot .non .non=some false:=rfl
@[simp]def sn:AL .isnot (.int i) .non=some true:=rfl
@[simp]def ua:AL .eq (.str z) (.str y)=some (decide (z=y)):=by simp[AL,PX,Gn,O0]
@[simp]def Tl:Ck .add (.str z) (.str y)=if z.length+y.length<=big then some (.str (z++y)) else none:=rfl
@[simp]def sV:Ck .add (.lst l) (.lst l')=if l.length+l'.length<=big then some (.lst (l++l')) else none:=rfl
@[simp]def rJ:We .neg (.int i)=some (.int (-i)):=rfl
@[simp]def tm:Fv h (.v a)=(CT a).map λl=>⟨l,none⟩:=rfl
@[simp]def sE:Sy (.v a)=(LC a).map λl=>⟨Dz l,none⟩:=rfl
end
noncomputable def Vd{α:Type}(k:Bool)(a b:α):α:=if k=true then a else b
def Wm{α:Type}{k:Bool}{a b:α}{u:Fx a}{v:Fx b}:H0 a b u v k=Vd k a b:=rfl
@[simp]def oP{α:Type}{a b:α}:Vd true a b=a:=rfl
section
@[simp]def oV:Vd k (AB.ok (R.v (.bl b)) h) (.ok (.v (.bl false)) h)=.ok (.v (.bl (k&&b))) h:=by cases k<;>rfl
@[simp]def sr:Vd k (AB.ok (R.v (.bl true)) h) (.ok (.v (.bl b)) h)=.ok (.v (.bl (k||b))) h:=by cases k<;>rfl
end
@[simp]def Ig:Fc (hnew h o) (hlen h+1)=hnew h o:=by rw[←Bv (o:=o)];exact EH
noncomputable def Q0(k:Sf)(u:Fx k:=.mk)(x:SR):SR:=match x with
 |some (.nx μ2,h2)=>k μ2 h2
 |x=>x
section
@[simp]def Gk:Q0 (x:=some (.nx μ,h)) k=k μ h:=rfl
@[simp]def Qz:Q0 (x:=some (.rt r,h)) k=some (.rt r,h):=rfl
noncomputable def jI(k:En->SR)(u:Fx k:=.mk)(x:Option En):SR:=match x with
 |some μ=>k μ
 |none=>none
@[simp]def Jy{k:En->SR}:jI (x:=some μ) k=k μ:=rfl
def AQ:AJ none all t b (m::l) μ h=jI (x:=Bg t m μ) λμ1=>Q0 (x:=b μ1 h) (AJ none all t b l):=rfl
def BK:AJ none all t b [] μ h=some (.nx μ,h):=rfl
end
theorem Jr(P:Nat->En->MH->Prop):∀{l all:List MV}{k i:Nat}{m:MV}{μ:En}{h:MH},P i μ h->l[k]?=some m->
 (∀(j:Nat) (m:MV) (μ:En) (h:MH),j<k->l[j]?=some m->P (i+j) μ h->∃μ1 μ2 h2,Bg t m μ=some μ1/\b μ1 h=some (.nx μ2,h2)/\P (i+j+1) μ2 h2)->
 (∀μ h,P (i+k) μ h->∃μ1,Bg t m μ=some μ1/\b μ1 h=some (.rt r,h2))->AJ none all t b l μ h=some (.rt r,h2)
 |[],all,k,i,m,μ,h,p,e,_,_=>by simp at e
 |m'::l,all,0,i,m,μ,h,p,e,_,la=>by
  obtain⟨μ1,e1,e2⟩:=la μ h p;simp only[List.getElem?_cons_zero,Option.some.injEq]at e;subst e;rw[AQ,e1,Jy,e2,Qz]
 |m'::l,all,k+1,i,m,μ,h,p,e,st,la=>by
  obtain⟨μ1,μ2,h3,e1,e2,p2⟩:=st 0 m' μ h (by lia) rfl p;rw[AQ,e1,Jy,e2,Gk];refine Jr P (k:=k) (i:=i+1) p2 (by simpa using e) (λj m μ h hj hm hp=>?_) (λμ h hp=>la μ h (by rw[show i+(k+1)=i+1+k by lia];exact hp));have:=st (j+1) m μ h (by lia) (by simpa using hm) (by rw[show i+(j+1)=i+1+j by lia];exact hp)
  rwa[show i+(j+1)+1=i+1+j+1 by lia]at this
def Sn(P:Nat->En->MH->Prop)(p0:P 0 μ h)(st:∀j m μ h,l[j]?=some m->P j μ h->∃μ1 μ2 h2,Bg t m μ=some μ1/\b μ1 h=some (.nx μ2,h2)/\P (j+1) μ2 h2):∃μ' h',AJ none l t b l μ h=some (.nx μ',h')/\P l.length μ' h':=by
 obtain⟨μ',h',e,p⟩:=NH (t:=t) (b:=b) P (l:=l) (all:=l) (i:=0) p0 λj m μ h hj hp=>by
  rw[cI]at hp ⊢;exact st j m μ h hj hp
 exact⟨μ',h',e,by rwa[cI]at p⟩
def Fu(s:SR)(H:MH)(E:En->Prop):Prop:=∃μ,s=some (.nx μ,H)/\E μ
@[simp]def lM:Fu (some (.nx μ,h)) H E=(h=H/\E μ):=by
  apply propext;constructor
  ·rintro⟨μ',e,p⟩
   injection e with e
   injection e with e1 e2
   injection e1 with e1
   exact⟨e2,e1▸p⟩
  rintro⟨rfl,p⟩;exact⟨μ,rfl,p⟩
def KH(a:Fu s h E')(r:∀μ,E' μ->Fu (k μ h) H E):Fu (seqK (x:=s) k) H E:=by
 obtain⟨μ,rfl,p⟩:=a;exact r μ p
def Bo{n:Nat}(a:Fu s h E)(r:∀μ,E μ->fin n (k μ h)=x):fin n (seqK (x:=s) k)=x:=by
 obtain⟨μ,rfl,p⟩:=a;exact r μ p
theorem CU{α:Type}{t:MT}{b:Sf}{h:MH}(g:α->MV)(F:α->List MV)(E:En->Prop)(B:Nat):∀{xs:List α}{all acc:List MV}{μ:En},E μ->(acc++xs.flatMap F).length<=B->
 (∀x∈xs,∀μ acc,E μ->(acc++F x).length<=B->∃μ1,Bg t (g x) μ=some μ1/\Fu (b μ1 (hnew h (.lst acc))) (hnew h (.lst (acc++F x))) E)->Fu (AJ none all t b (xs.map g) μ (hnew h (.lst acc))) (hnew h (.lst (acc++xs.flatMap F))) E
 |[],all,acc,μ,p,hl,_=>⟨μ,by rw[List.flatMap_nil,dD];rfl,p⟩
 |x::xs,all,acc,μ,p,hl,st=>by
  rw[gU,←dE]at hl;obtain⟨μ1,e1,μ2,e2,p2⟩:=st x aG μ acc p (by rw[aM]at hl;lia);obtain⟨μ',e,q⟩:=CU g F E B (xs:=xs) (all:=all) (acc:=acc++F x) p2 hl λy hy=>st y (aC _ hy);refine⟨μ',?_,q⟩;rw[aF,AQ,e1,Jy,e2,Gk,e,gU,dE]
theorem Ed{α:Type}{t:MT}{b:Sf}{h:MH}(g:α->MV)(E:Nat->En->Prop):∀{xs:List α}{all:List MV}{i:Nat}{μ:En},E i μ->
 (∀(j:Nat) (x:α) (μ:En),xs[j]?=some x->E (i+j) μ->∃μ1,Bg t (g x) μ=some μ1/\Fu (b μ1 h) h (E (i+j+1)))->Fu (AJ none all t b (xs.map g) μ h) h (E (i+xs.length))
 |[],all,i,μ,p,_=>⟨μ,rfl,p⟩
 |x::xs,all,i,μ,p,st=>by
  obtain⟨μ1,e1,μ2,e2,p2⟩:=st 0 x μ rfl p;obtain⟨μ',e,q⟩:=Ed g E (xs:=xs) (all:=all) (i:=i+1) p2 λj y μ hj hp=>by
   have:=st (j+1) y μ (by simpa using hj) (by rw[show i+(j+1)=i+1+j by lia];exact hp)
   rwa[show i+(j+1)+1=i+1+j+1 by lia]at this
  refine⟨μ',?_,by rw[bV,show i+(xs.length+1)=i+1+xs.length by lia];exact q⟩;rw[aF,AQ,e1,Jy,e2,Gk,e]
end B
namespace BK74
open PySem B L2
def YC(k:Fin 32):k.val<64:=by lia
variable {n:Nat}{h:MH}{a b:Li}
def gw:Ph (n+1) 86 [.v a.mv] h=.ok (.v (.bl a.same)) h:=by
 refine Ag (d:=d86) rfl rfl ?_;simp[d86,Aa]
def gx:Ph (n+1) 87 [.v a.mv,.v b.mv] h=.ok (.v (.bl (EF a b))) h:=by
 refine Ag (d:=d87) rfl rfl ?_;simp[d87,Aa,Li.key,ZV,EF,Wm]
def Ri:Ph (n+4) 80 [.v a.mv,.v b.mv] h=.ok (.v (fM a b)) h:=by
 refine Ag (d:=d80) rfl rfl ?_;unfold fM;simp[d80,Aa,Gv (YC a.lets) (YC b.lets)];rcases DJ (YC a.lets) (YC b.lets) with⟨e,s⟩|⟨k,e,s⟩
 ·simp[e,s,Gv b.sgs.2 a.sgs.2];clear e s;rcases DJ b.sgs.2 a.sgs.2 with⟨e,s⟩|⟨k,e,s⟩
  ·simp[e,s,Gv b.bars.2 a.bars.2];clear e s;rcases DJ b.bars.2 a.bars.2 with⟨e,s⟩|⟨k,e,s⟩
   ·simp[e,s];clear e s;by_cases hr:b.reach.val<a.reach.val
    ·simp[hr]
    simp[hr,gw];cases b.same
    ·simp
    simp[gx];cases EF a b<;>simp
   simp[e,s]
  simp[e,s]
 simp[e,s]
@[simp]def lF:BD .non=true:=rfl
@[simp]def lE:BD (.tup l)=false:=rfl
def NT(m:MV):Prop:=m=.non\/∃l,m=.tup l
def jz(a b:Li):NT (fM a b):=by
 unfold fM
 repeat (first|exact .inl rfl|exact .inr ⟨_,rfl⟩|split)
def NT.is(h:NT m):AL .is_ m .non=some (BD m)/\AL .isnot m .non=some (!BD m):=by
 rcases h with rfl|⟨l,rfl⟩<;>exact⟨rfl,rfl⟩
end BK74
namespace BK74
open PySem B L2
variable {n:Nat}{h:MH}{a b l o:Li}{c:Fin 4}
noncomputable def nd(c:Nat):Nat:=2^(c+1)-1
def MN:(h.take h.length).take h.length=h:=by simp
def HJ:∀c:Fin 4,Ph (n+2) 15 [.v (.int c.val)] h=.ok (.v (.int (nd c.val))) h
 |0=>(show Ph (n+2) 15 [.v (.int 0)] h=.ok (.v (.int 1)) ((h.take h.length).take h.length) from rfl).trans (by rw[MN];rfl)
 |1=>(show Ph (n+2) 15 [.v (.int 1)] h=.ok (.v (.int 3)) ((h.take h.length).take h.length) from rfl).trans (by rw[MN];rfl)
 |2=>(show Ph (n+2) 15 [.v (.int 2)] h=.ok (.v (.int 7)) ((h.take h.length).take h.length) from rfl).trans (by rw[MN];rfl)
 |3=>(show Ph (n+2) 15 [.v (.int 3)] h=.ok (.v (.int 15)) ((h.take h.length).take h.length) from rfl).trans (by rw[MN];rfl)
def RD:∀c:Fin 4,nd c.val<64:=by decide
noncomputable def dM(l:Li)(c:Nat):MV:=if sub (nd c) l.lets.val=true then .non else .tup [.str "deed",JE (nd c) l.lets.val]
def U8:Ph (n+4) 19 [.v l.mv,.v (.int c.val)] h=.ok (.v (dM l c.val)) h:=by
 refine Ag (d:=d19) rfl rfl ?_;unfold dM;rcases DJ (RD c) (YC l.lets) with⟨e1,s1⟩|⟨k,e1,s1⟩
 ·simp[d19,Aa,HJ,Gv (RD c) (YC l.lets),e1,s1]
 simp[d19,Aa,HJ,Gv (RD c) (YC l.lets),e1,s1]
def Rp:Ph (n+1) 20 [.v l.mv,.v (.int c.val)] h=.ok (.v (.bl (decide (l.reach.val<=c.val)))) h:=by
 refine Ag (d:=d20) rfl rfl ?_;simp[d20,Aa]
noncomputable def GU(l:Li)(c:Nat)(o:Li):MV:=if (sub (nd c) l.lets.val&&decide (l.reach.val<=c))=true then fM o l else dM l c
noncomputable def DL(l:Li)(c:Nat)(o:Li):Bool:=sub (nd c) l.lets.val&&(!decide (l.reach.val<=c)||ZY o l)
def Vn(l:Li)(c:Nat)(o:Li):BD (GU l c o)=DL l c o:=by
 unfold GU DL dM;cases sub (nd c) l.lets.val<;>by_cases hr:l.reach.val<=c<;>simp[hr,Ze]
def Wt(l:Li)(c:Nat):NT (dM l c):=by
 unfold dM;split
 ·exact .inl rfl
 exact .inr ⟨_,rfl⟩
def Zd(l:Li)(c:Nat)(o:Li):NT (GU l c o):=by
 unfold GU;split
 ·exact jz _ _
 exact Wt _ _
def Zn(l:Li)(c:Nat):BD (dM l c)=sub (nd c) l.lets.val:=by
 unfold dM;cases sub (nd c) l.lets.val<;>rfl
def XU:Ph (n+5) 21 [.v l.mv,.v (.int c.val),.v o.mv] h=.ok (.v (GU l c.val o)) h:=by
 refine Ag (d:=d21) rfl rfl ?_;unfold GU;cases hs:sub (nd c.val) l.lets.val<;>by_cases hr:l.reach.val<=c.val<;>simp[d21,Aa,U8,(Wt l c.val).is.1,Zn,hs,hr,Rp,Ri]
end BK74
namespace BK74
open PySem B L2
variable {n:Nat}{h:MH}{l:Li}
def M3:∀a:Fin 64,(Builtin.Int.intBits (a.val:Int):Int)<=6:=by decide +kernel
def Z1:∀a:Fin 32,(Builtin.Int.intBits (a.val:Int):Int)<=5:=by decide +kernel
structure Li.Ok(l:Li):Prop where
 w:Bw l.w
 dj:Builtin.bitAnd (l.sgs.val:Int) (l.bars.val:Int)=0
def Re:Ph (n+1) 14 [.v .non] h=.ok (.v Iv) h:=by
 refine Ag (d:=d14) rfl rfl ?_;simp[d14,Aa,Iv]
def QW(hl:l.Ok):Ph (n+6) 85 [.r (hlen h),.v l.key,.v (iv l.lets),.v (iv l.sgs),.v (iv l.bars),.v (iv l.reach),.v (.bl l.same),.v .non,.v (.int 0),.v (.int 9999),.v (.bl true)] (hnew h (.ins 14 [] []))=.ok (.v .non) (hnew h (.ins 14 [3,15,16,4,17,24,18,25,26,27] [iv l.lets,iv l.sgs,iv l.bars,iv l.reach,l.key,.bl l.same,Iv,.int 0,.int 9999,.bl true])):=by
 refine Ag (d:=d85) rfl rfl ?_;have e1:∀h,Ph (n+5) 3 [.v l.key] h=.ok (.v (.bl true)) h:=λh=>Rc hl.w (bW _) (by have:=l.i.2;lia);have e2:Ph (n+5) 79 [.r (hlen h),.v (iv l.lets),.v (iv l.sgs),.v (iv l.bars),.v (iv l.reach)] (hnew h (.ins 14 [] []))=.ok (.v .non) (hnew h (.ins 14 [3,15,16,4] [iv l.lets,iv l.sgs,iv l.bars,iv l.reach])):=by
  have:=QN (n:=n+1) (q:=hlen h) (c:=0) (ns:=[]) (ms:=[]) (h:=hnew h (.ins 14 [] [])) Bn (bW l.lets.val) (Z1 l.lets) (bW l.sgs.val) (M3 l.sgs) (bW l.bars.val) (M3 l.bars) hl.dj (bW l.reach.val) (by have:=l.reach.2;lia);rw[Bl]at this;exact this
 have e3:T.gt.cf 13 23=some 79:=rfl;have e4:∀h,Ph (n+5) 13 [.v (.int 0),.v (.int 9999)] h=.ok (.v .non) h:=λh=>U1 (n:=n+2) (by decide) (by decide) (by decide) (by decide) (by decide);simp[d85,Aa,e1,WB e3,e2,QM,Re,e4,pP]
def U4(hl:l.Ok)(he:Dy T.gt.cs (Ph (n+6)) T.gt.ini T.gt.cf es μ h=.ok [.v l.key,.v (iv l.lets),.v (iv l.sgs),.v (iv l.bars),.v (iv l.reach),.v (.bl l.same)] h):(e2 T.gt.cs (Ph (n+6)) T.gt.ini T.gt.cf (.make 14 es [.non,.int 0,.int 9999,.bl true])).1 μ h=.ok (.v l.mv) h:=by
 rw[Iz (show T.gt.ini 14=some 85 from rfl)];exact Nq (by rw[he];rfl) (QW hl)
end BK74
namespace BK74
open PySem B L2
noncomputable def Hq:Fin 4->Str
 |0=> "called"
 |1=> "beside"
 |2=> "joined"
 |3=> "changed"
noncomputable def jM(j:Fin 4):MV:=.obj (16+j.val) [] []
def Rh{n:Nat}:Ph (n+1) 16 [] h=.ok (.v (.lst [jM 0,jM 1,jM 2,jM 3])) h:=(show Ph (n+1) 16 [] h=.ok (.v (.lst [jM 0,jM 1,jM 2,jM 3])) (h.take h.length) from rfl).trans (by rw[bJ])
def Rf{n:Nat}:∀j:Fin 4,Ph (n+1) (90+2*j.val) [.v (jM j)] h=.ok (.v (.str (Hq j))) h
 |0=>(show Ph (n+1) 90 [.v (jM 0)] h=.ok (.v (.str (Hq 0))) (h.take h.length) from rfl).trans (by rw[bJ])
 |1=>(show Ph (n+1) 92 [.v (jM 1)] h=.ok (.v (.str (Hq 1))) (h.take h.length) from rfl).trans (by rw[bJ])
 |2=>(show Ph (n+1) 94 [.v (jM 2)] h=.ok (.v (.str (Hq 2))) (h.take h.length) from rfl).trans (by rw[bJ])
 |3=>(show Ph (n+1) 96 [.v (jM 3)] h=.ok (.v (.str (Hq 3))) (h.take h.length) from rfl).trans (by rw[bJ])
def OE{n:Nat}:∀j:Fin 4,Ph (n+1) (91+2*j.val) [.v (jM j)] h=.ok (.v (.int j.val)) h
 |0=>(show Ph (n+1) 91 [.v (jM 0)] h=.ok (.v (.int 0)) (h.take h.length) from rfl).trans (by rw[bJ];rfl)
 |1=>(show Ph (n+1) 93 [.v (jM 1)] h=.ok (.v (.int 1)) (h.take h.length) from rfl).trans (by rw[bJ];rfl)
 |2=>(show Ph (n+1) 95 [.v (jM 2)] h=.ok (.v (.int 2)) (h.take h.length) from rfl).trans (by rw[bJ];rfl)
 |3=>(show Ph (n+1) 97 [.v (jM 3)] h=.ok (.v (.int 3)) (h.take h.length) from rfl).trans (by rw[bJ];rfl)
def iQ:∀j:Fin 4,meth T.gt.cs 1 (jM j)=some (90+2*j.val)
 |0=>rfl|1=>rfl|2=>rfl|3=>rfl
def iR:∀j:Fin 4,meth T.gt.cs 2 (jM j)=some (91+2*j.val)
 |0=>rfl|1=>rfl|2=>rfl|3=>rfl
def N5(j:Fin 4):∃f,meth T.gt.cs 1 (jM j)=some f/\∀n h,Ph (n+1) f [.v (jM j)] h=.ok (.v (.str (Hq j))) h:=⟨_,iQ j,λ_ _=>Rf j⟩
def Mi(j:Fin 4):∃f,meth T.gt.cs 2 (jM j)=some f/\∀n h,Ph (n+1) f [.v (jM j)] h=.ok (.v (.int j.val)) h:=⟨_,iR j,λ_ _=>OE j⟩
def Yw:∀i j:Fin 4,(Hq i=Hq j)=(i=j):=by
 intro i j;apply propext;exact⟨λh=>(by decide +kernel:∀i j:Fin 4,Hq i=Hq j->i=j) i j h,λh=>by rw[h]⟩
def HM{n:Nat}(j:Fin 4):Ph (n+2) 17 [.v (.str (Hq j))] h=.ok (.v (jM j)) h:=by
 refine Ag (d:=d17) rfl rfl ?_;obtain⟨f0,m0,p0⟩:=N5 0;obtain⟨f1,m1,p1⟩:=N5 1;obtain⟨f2,m2,p2⟩:=N5 2;obtain⟨f3,m3,p3⟩:=N5 3;have h4:j=0\/j=1\/j=2\/j=3:=by lia
 rcases h4 with rfl|rfl|rfl|rfl<;>simp[d17,Aa,Rh,AQ,Yw,m0,m1,m2,m3,p0,p1,p2,p3]
abbrev Ky:=Str×Fin 100
inductive Fo where
 |nil
 |cons (j:Fin 4) (n:Str) (o:List Ky) (ks:Fo) (r:Fo)
structure Nd where
 n:Str
 o:List Ky
 ks:Fo
noncomputable def Fo.ht:Fo->Nat
 |.nil=>0
 |.cons _ _ _ ks r=>max (ks.ht+1) r.ht
noncomputable def Fo.size:Fo->Nat
 |.nil=>0
 |.cons _ _ _ ks r=>ks.size+1+r.size
noncomputable def Fo.items:Fo->List (Fin 4×Nd)
 |.nil=>[]
 |.cons j n o ks r=>(j,⟨n,o,ks⟩)::r.items
abbrev Rd:=List (Fin 4×Str)×Nd
noncomputable def BM:Fo->List Rd
 |.nil=>[]
 |.cons j n o ks r=>(([],⟨n,o,ks⟩)::BM ks).map (λx=>((j,n)::x.1,x.2))++BM r
noncomputable def AC(d:Nd):List Rd:=([],d)::BM d.ks
noncomputable def ZN(x:Fin 4×Nd)(y:Rd):Rd:=((x.1,x.2.n)::y.1,y.2)
noncomputable def Eo(x:Fin 4×Nd):List Rd:=(AC x.2).map (ZN x)
theorem Dj:∀f:Fo,BM f=(f.items.map Eo).flatten
 |.nil=>rfl
 |.cons j n o ks r=>by
  show _=Eo _++(r.items.map Eo).flatten;rw[←Dj r];rfl
theorem ER:∀f:Fo,(BM f).length=f.size
 |.nil=>rfl
 |.cons j n o ks r=>by
  rw[BM,aM,aI,bV,ER ks,ER r,Fo.size]
def EQ(d:Nd):(AC d).length=d.ks.size+1:=by rw[AC,bV,ER]
theorem Dx:∀{f:Fo}{x:Fin 4×Nd},x∈f.items->x.2.ks.ht<f.ht/\x.2.ks.size<f.size
 |.nil,x,h=>by cases h
 |.cons j n o ks r,x,h=>by
  rw[Fo.ht,Fo.size];rcases aR.mp h with rfl|h
  ·dsimp only;lia
  have:=Dx h;lia
noncomputable def AF(k:Ky):MV:=ZV k.1 k.2.val
noncomputable def Fo.mv:Fo->List MV
 |.nil=>[]
 |.cons j n o ks r=>.tup [.str (Hq j),.obj 20 [8,9,7] [.str n,.tup (o.map AF),.tup ks.mv]]::r.mv
noncomputable def Nd.mv(d:Nd):MV:=.obj 20 [8,9,7] [.str d.n,.tup (d.o.map AF),.tup d.ks.mv]
noncomputable def JD(x:Fin 4×Nd):MV:=.tup [.str (Hq x.1),x.2.mv]
theorem GT:∀f:Fo,f.mv=f.items.map JD
 |.nil=>rfl
 |.cons j n o ks r=>by rw[Fo.mv,GT r];rfl
noncomputable def ZO(x:Fin 4×Str):MV:=.tup [.str (Hq x.1),.str x.2]
noncomputable def BO(y:Rd):MV:=.tup [.lst (y.1.map ZO),y.2.mv]
@[simp]def lP{d:Nd}:Du T.gt.cs 8 d.mv=some (.str d.n):=rfl
@[simp]def ZW{d:Nd}:Du T.gt.cs 9 d.mv=some (.tup (d.o.map AF)):=rfl
@[simp]def Zc{d:Nd}:Du T.gt.cs 7 d.mv=some (.tup d.ks.mv):=rfl
theorem II:∀{f:Fo}{y:Rd},y∈BM f->y.1.length<=f.ht
 |.nil,y,h=>by cases h
 |.cons j n o ks r,y,h=>by
  rw[Fo.ht];rcases bP.mp h with h|h
  ·obtain⟨z,hz,rfl⟩:=bA.mp h;rcases aR.mp hz with rfl|hz
   ·show 0+1<=_;lia
   have:=II hz;show z.1.length+1<=_
   lia
  have:=II h;lia
theorem Jo:∀f:Fo,f.ht<=f.size
 |.nil=>aH _
 |.cons j n o ks r=>by
  rw[Fo.ht,Fo.size];have:=Jo ks;have:=Jo r
  lia
def JZ(h:y∈AC d):y.1.length<=d.ks.ht:=by
 rcases aR.mp h with rfl|h
 ·exact cS _
 exact II h
def BX{α:Type}{xs:List α}{i:Nat}{x:α}(h:xs[i]?=some x):xs.take (i+1)=xs.take i++ [x]:=by
 obtain⟨hi,e⟩:=a9.mp h;rw[fK hi,e]
def RF{α β:Type}{f:α->β}{l:List α}{j:Nat}{m:β}(h:(l.map f)[j]?=some m):∃x,l[j]?=some x/\m=f x:=by
 rw[aJ]at h;obtain⟨x,hx,rfl⟩:=aE.mp h;exact⟨x,hx,rfl⟩
def Oq(d:Nd):(AC d).map BO=[BO ([],d)]++d.ks.items.flatMap λx=>(AC x.2).flatMap λy=>[BO (ZN x y)]:=by
 show BO ([],d)::(BM d.ks).map BO=_;rw[Dj,List.map_flatten,cJ,List.flatMap_def];congr 2;apply cW;intro x _;rw[Function.comp,Eo,cJ];exact fZ
theorem HH:∀{n:Nat}{h:MH}(d:Nd),d.ks.ht<n->d.ks.size<=1000->Ph n 30 [.v d.mv] h=.ok (.v (.lst ((AC d).map BO))) h
 |0,h,d,hh,hs=>by lia
 |n+1,h,d,hh,hs=>by
  refine Ag (d:=d30) rfl rfl ?_;have hL:((AC d).map BO).length<=1001:=by rw[aI,EQ];lia
  rw[Oq]at hL ⊢;have r0:BO ([],d)=.tup [.lst [],d.mv]:=rfl;rw[r0]at hL ⊢;simp[d30,Aa];rw[GT];refine Bo (CU JD (λx=>(AC x.2).flatMap λy=>[BO (ZN x y)]) (λμ=>∃x2 x3 x4 x5,μ=[some (.v d.mv),some (.r (hlen h)),x2,x3,x4,x5]) 1001 ⟨_,_,_,_,rfl⟩ hL λx hx μ acc ⟨x2,x3,x4,x5,hμ⟩ hl=>?_) λμ ⟨x2,x3,x4,x5,hμ⟩=>?_
  ·subst hμ;have hxm:=Dx hx;refine⟨_,rfl,?_⟩;simp[@HH n _ x.2 (by lia) (by lia)];refine KH (CU BO (λy=>[BO (ZN x y)]) (λμ=>∃x4 x5,μ=[some (.v d.mv),some (.r (hlen h)),some (.v (.str (Hq x.1))),some (.v x.2.mv),x4,x5]) 1001 ⟨_,_,rfl⟩ hl λy hy μ acc ⟨x4,x5,hμ⟩ hl=>?_) λμ ⟨y4,y5,hμ⟩=>?_
   ·subst hμ;have hyl:y.1.length<=1000:=by have:=JZ hy;have:=Jo x.2.ks;lia
    have hy2:1+y.1.length<=big:=by unfold big;lia
    have hl2:acc.length<big:=by rw[aM,dQ]at hl;unfold big;lia
    refine⟨_,rfl,?_⟩;simp[hy2,hl2,Nat.add_comm,BO,ZN,ZO]
   subst hμ;simp
  subst hμ;simp
end BK74
namespace B
open PySem L2 PySem.SeqAt
def AI{α:Type}{k:Nat}{js:List Nat}{tg:MT}{fi:En->MH->AB Wk}{tc:Tf}{te:Ef}{μ:En}{h h1:MH}(xs:List α)(f g:α->MV)(htc:∀μ h,tc μ h=.ok true h)(hi:fi μ h=.ok ⟨xs.map f,none⟩ h1)(hl:xs.length<=big)(st:∀x∈xs,∃μ1,Bg tg (f x) (startC k js μ)=some μ1/\te μ1 h1=.ok (.v (g x)) h1):BU k js tg fi tc te μ h=.ok (.v (.lst (xs.map g))) h1:=by
 unfold BU;rw[hi,AM];show(if (xs.map f).length<=big then(compLoop none (xs.map f) tg (startC k js μ) tc te (xs.map f) [] h1).bind λl h2=>AB.ok (R.v (.lst l)) h2 else .no)=_;rw[aI,if_pos hl];have:∀(ys:List α) (all acc:List MV),(∀x∈ys,x∈xs)->compLoop none all tg (startC k js μ) tc te (ys.map f) acc h1=.ok (acc++ys.map g) h1:=by
  intro ys
  induction ys with
  |nil=>intro all acc _;simp[compLoop,Bj]
  |cons y ys ih=>
   intro all acc hs;obtain⟨μ1,e1,e2⟩:=st y (hs y aG);rw[aF];unfold compLoop;simp only[Bj,if_true,e1,htc,AM,e2];rw[ih _ _ λx hx=>hs x (aC _ hx)];simp
 rw[this xs _ _ λ_ h=>h];rfl
def CY{α:Type}{k:Nat}{js:List Nat}{tg:MT}{fi:En->MH->AB Wk}{tc:Tf}{te:Ef}{μ:En}{h h1:MH}(xs:List α)(f g:α->MV)(p:α->Bool)(hi:fi μ h=.ok ⟨xs.map f,none⟩ h1)(hl:xs.length<=big)(st:∀x∈xs,∃μ1,Bg tg (f x) (startC k js μ)=some μ1/\tc μ1 h1=.ok (p x) h1/\(p x=true->te μ1 h1=.ok (.v (g x)) h1)):BU k js tg fi tc te μ h=.ok (.v (.lst ((xs.filter p).map g))) h1:=by
 unfold BU;rw[hi,AM];show(if (xs.map f).length<=big then(compLoop none (xs.map f) tg (startC k js μ) tc te (xs.map f) [] h1).bind λl h2=>AB.ok (R.v (.lst l)) h2 else .no)=_;rw[aI,if_pos hl];have:∀(ys:List α) (all acc:List MV),(∀x∈ys,x∈xs)->compLoop none all tg (startC k js μ) tc te (ys.map f) acc h1=.ok (acc++(ys.filter p).map g) h1:=by
  intro ys
  induction ys with
  |nil=>intro all acc _;simp[compLoop,Bj]
  |cons y ys ih=>
   intro all acc hs;obtain⟨μ1,e1,e2,e3⟩:=st y (hs y aG);rw[aF];unfold compLoop;simp only[Bj,if_true,e1,e2,AM];by_cases hp:p y=true
   ·rw[if_pos hp,e3 hp];simp only[AM];rw[ih _ _ λx hx=>hs x (aC _ hx)];simp[hp]
   rw[if_neg hp,ih _ _ λx hx=>hs x (aC _ hx)];simp[hp]
 rw[this xs _ _ λ_ h=>h];rfl
section
@[simp]def az:Ov cs Φ ini cf (.cons e .nil) μ h=(e2 cs Φ ini cf e).2 μ h:=rfl
end
theorem Io{α:Type}(p:α->Bool):∀xs:List α,D3 (xs.map λx=>.bl (p x))=some (xs.map p)
 |[]=>rfl
 |x::xs=>by rw[aF,D3,Io p xs];rfl
def all_map{α:Type}(p:α->Bool)(xs:List α):Mb [.lst (xs.map λx=>.bl (p x))]=some (.bl (xs.all p)):=by
 show(D3 _).map _=_;rw[Io];simp[List.all_map]
@[simp]def jV{α:Type}(xs:List α):Mb [.lst (xs.map λ_=>.bl true)]=some (.bl true):=by
  have:=all_map (λ_:α=>true) xs;rw[this];congr 2;rw[bI];exact λ_ _=>rfl
theorem KF{α:Type}(p:α->Int):∀xs:List α,GL (xs.map λx=>.int (p x))=some (xs.map p)
 |[]=>rfl
 |x::xs=>by rw[aF,GL,KF p xs];rfl
def Vm{α:Type}(p:α->Str)(xs:List α):(xs.map λx=>MV.str (p x)).all KP=true:=by
 rw[List.all_map,bI];intro x _;rfl
def Jn{α:Type}(p:α->Str)(xs:List α)(z:Str):Tz (.str z) (xs.map λx=>.str (p x))=some (decide (z∈xs.map p)):=by
 unfold Tz;rw[if_pos (by rw[Vm];rfl)];congr 1;rw[List.any_map,cO,eF,fA,bA];constructor
 ·rintro⟨x,hx,e⟩;exact⟨x,hx,by simpa[Jt]using e⟩
 rintro⟨x,hx,e⟩;exact⟨x,hx,by simp[Jt,e]⟩
def So{α:Type}{t:MT}{b:Sf}{h:MH}(g:α->MV)(F:α->List MV)(E:En->Prop){xs:List α}{acc:List MV}{μ:En}(p:E μ)
 (st:∀j x μ,xs[j]?=some x->E μ->∃μ1,Bg t (g x) μ=some μ1/\Fu (b μ1 (hnew h (.lst (acc++(xs.take j).flatMap F)))) (hnew h (.lst (acc++(xs.take j).flatMap F++F x))) E):Fu (AJ none (xs.map g) t b (xs.map g) μ (hnew h (.lst acc))) (hnew h (.lst (acc++xs.flatMap F))) E:=by
 obtain⟨μ',h',e,p1,p2⟩:=Sn (t:=t) (b:=b) (l:=xs.map g) (μ:=μ) (h:=hnew h (.lst acc)) (λj μ h'=>E μ/\h'=hnew h (.lst (acc++(xs.take j).flatMap F))) ⟨p,by simp⟩ λj m μ h' hm ⟨q1,q2⟩=>by
  rw[aJ]at hm;obtain⟨x,hx,rfl⟩:=aE.mp hm;obtain⟨μ1,e1,μ2,e2,e3⟩:=st j x μ hx q1;refine⟨μ1,μ2,_,e1,by rw[q2];exact e2,e3,?_⟩;obtain⟨hi,ex⟩:=a9.mp hx;rw[fK hi,ex,List.flatMap_append,List.flatMap_singleton,dE]
 subst p2;refine⟨μ',?_,p1⟩;rw[e,aI,bJ]
def GQ{α:Type}{t:MT}{b:Sf}{h:MH}(g f:α->MV)(E:En->Prop){xs:List α}{acc:List MV}{μ:En}(p:E μ)
 (st:∀j x μ,xs[j]?=some x->E μ->∃μ1,Bg t (g x) μ=some μ1/\Fu (b μ1 (hnew h (.lst (acc++(xs.take j).map f)))) (hnew h (.lst (acc++(xs.take j).map f++ [f x]))) E):Fu (AJ none (xs.map g) t b (xs.map g) μ (hnew h (.lst acc))) (hnew h (.lst (acc++xs.map f))) E:=by
 rw[fZ (f:=f)];refine So g (λx=>[f x]) E p λj x μ hx hp=>?_;have:=st j x μ hx hp
 rwa[fZ (f:=f)]at this
end B
namespace BK74
open PySem B L2
variable {n:Nat}{h:MH}
noncomputable def names(d:Nd):List Str:=(AC d).map λy=>y.2.n
structure Bd(d:Nd):Prop where
 nd:(names d).Nodup
 z:d.ks.size+1<=30
 h:d.ks.ht+1<=6
def Bd.road(b:Bd d)(hy:y∈AC d):y.1.length<=5:=by
 have:=JZ hy;have:=b.h
 lia
def Bd.len(b:Bd d):(AC d).length<=30:=by rw[EQ];exact b.z
def Bd.big(b:Bd d):(AC d).length<=big:=aV b.len (by decide)
def Bd.wk(b:Bd d):Ph (n+6) 30 [.v d.mv] h=.ok (.v (.lst ((AC d).map BO))) h:=HH d (by have:=b.h;lia) (by have:=b.z;lia)
def Rj(b:Bd d):∃k:Int,Ph (n+7) 31 [.v d.mv] h=.ok (.v (.int k)) h/\k<=6:=by
 have key:∃k:Int,OW [.lst ((AC d).map λy=>.int (y.1.length:Int))]=some (.int k)/\k<=5:=by
  show ∃k:Int,(GL _).bind _=_/\_;rw[KF];show ∃k:Int,some (MV.int (FK _ _))=_/\_;refine⟨_,rfl,?_⟩;rcases(IT ((BM d.ks).map λy=>(y.1.length:Int)) 0).2.2 with e|e
  ·show FK 0 _<=5;rw[e];decide
  obtain⟨y,hy,e⟩:=bA.mp e;show FK 0 _<=5;rw[←e];have:=b.road (aC _ hy)
  lia
 obtain⟨k,e,hk⟩:=key;refine⟨1+k,Ag (d:=d31) rfl rfl ?_,by lia⟩;simp[d31,Aa,AH];rw[AI (h1:=h) (AC d) BO (λy=>.int (y.1.length:Int)) ?_ ?_ b.big ?_]
 ·simp[e]
 ·exact λ_ _=>rfl
 ·simp[b.wk]
 intro y hy;refine⟨_,rfl,?_⟩;simp[startC]
def OG{d:Nd}(b:Bd d):Ph (n+8) 32 [.v d.mv] h=.ok (.v .non) h:=by
 obtain⟨k,ek,hk⟩:=Rj (n:=n) (h:=hnew h (.lst ((AC d).map λy=>.str y.2.n))) b;refine Ag (d:=d32) rfl rfl ?_;simp[d32,Aa,b.wk];refine Bo (GQ (acc:=[]) BO (λy=>.str y.2.n) (λμ=>∃x2 x3,μ=[some (.v d.mv),some (.r (hlen h)),x2,x3]) ⟨_,_,rfl⟩ λj y μ hy ⟨x2,x3,hμ⟩=>?_) λμ ⟨x2,x3,hμ⟩=>?_
 ·subst hμ;refine⟨_,rfl,?_⟩;have hj:=(a9.mp hy).1;have hl:(((AC d).take j).map λy=>MV.str y.2.n).length<big:=by
   rw[aI,bC];have:=b.len;unfold big
   lia
  have hin:Tz (.str y.2.n) (((AC d).take j).map λy=>MV.str y.2.n)=some false:=by
   rw[Jn];congr 1;rw[eK];intro hm;have hn:=b.nd;unfold names at hn;have h1:((AC d).map λy=>y.2.n)[j]?=some y.2.n:=by rw[aJ,hy];rfl
   rw[eU]at hm;obtain⟨i,hi,e⟩:=cV.mp hm;rw[bC]at hi;rw[gV]at e;obtain⟨lj,ej⟩:=a9.mp h1;exact(bO.mp hn) i j (by lia) lj (by lia) (e.trans ej.symm)
  generalize (((AC d).take j).map λy=>MV.str y.2.n)=acc at hl hin ⊢;simp[AL,Y3,hin,hl]
 subst hμ;have e26:∀h,Ph (n+7) 26 [.v (.int ((AC d).length:Int))] h=.ok (.v .non) h:=by
  intro h;refine Ag (d:=d26) rfl rfl ?_;have:¬(30:Int)<((AC d).length:Int):=by have:=b.len;lia
  simp[d26,Aa,this]
 have e27:∀h,Ph (n+7) 27 [.v (.int k)] h=.ok (.v .non) h:=by
  intro h;refine Ag (d:=d27) rfl rfl ?_;have:¬(6:Int)<k:=by lia
  simp[d27,Aa,this]
 simp only[List.nil_append];simp[e26,ek,e27]
end BK74
namespace BK74
open PySem B L2
variable {n:Nat}
structure Ix(o:List Ky):Prop where
 l2:o.length<=2
 nd:o.Nodup
 ok:∀k∈o,Bw k.1
def Wa(hk:Bw k.1):Ph (n+2) 3 [.v (AF k)] h=.ok (.v (.bl true)) h:=Rc hk (bW _) (by have:=k.2.2;lia)
noncomputable def Wl(k:Ky):List Key:=[.inr k.1,.inl (k.2.val:Int)]
theorem RY:∀o:List Ky,KB (o.map AF)=some (o.map Wl)
 |[]=>rfl
 |k::o=>by
  rw[aF];show(Be [.str k.1,.int (k.2.val:Int)]).bind (λks=>(KB (o.map AF)).map (ks:: ·))=_;rw[RY o];rfl
def Ny(h:Wl a=Wl b):a=b:=by
 unfold Wl at h
 injection h with h1 h2
 injection h2 with h2 _
 injection h1 with h1
 injection h2 with h2
 exact Prod.ext h1 (Fin.ext (by lia))
def C9{α β:Type}{f:α->β}(hf:∀a b,f a=f b->a=b){l:List α}(h:l.Nodup):(l.map f).Nodup:=by
 rw[List.Nodup,List.pairwise_map];exact h.imp λne e=>ne (hf _ _ e)
def RP(g:Ix o):DB (.tup (o.map AF))=some (.int o.length):=by
 show(KB _).bind _=_;rw[RY,i6,if_pos ⟨by rw[aI];exact g.l2,C9 (λa b=>Ny) g.nd⟩,aI]
def ak:(e2 cs Φ ini cf (.lenset e)).1 μ h=((e2 cs Φ ini cf e).1 μ h).bind λx h1=>Ek h1 ((Au h1 x).bind λa=>(DB a).map R.v):=rfl
def B3{k:Nat}(h:k<=1000):k<=big:=aV h (by decide)
def Rq(g:Ix o):Ph (n+3) 23 [.v (.tup (o.map AF))] h=.ok (.v (.bl true)) h:=by
 refine Ag (d:=d23) rfl rfl ?_;have l2:=g.l2;have c1:¬(2:Int)<(o.length:Int):=by lia
 have i1:OX T.gt.cs [.tup (o.map AF),.tup [.ty .lst,.ty .tup]]=some (.bl true):=rfl;simp[d23,Aa,i1,c1,AH];rw[AI (h1:=h) o AF (λ_=>.bl true) ?_ ?_ (B3 (by lia)) ?_]
 ·simp[ak,RP g]
 ·exact λ_ _=>rfl
 ·simp
 intro k hk;exact⟨_,rfl,by simp[startC,Wa (g.ok k hk)]⟩
def OC(g:Ix o):Ph (n+4) 24 [.v (.tup (o.map AF))] h=.ok (.v (.tup (o.map AF))) h:=by
 refine Ag (d:=d24) rfl rfl ?_;simp[d24,Aa,Rq g]
def U6:Ph (n+1) 28 [.v (JD x)] h=.ok (.v (.bl true)) h:=(show Ph (n+1) 28 [.v (JD x)] h=.ok (.v (.bl true)) (h.take h.length) from rfl).trans (by rw[bJ])
def OD{f:Fo}(h6:f.items.length<=6):Ph (n+3) 29 [.v (.tup f.mv)] h=.ok (.v (.tup f.mv)) h:=by
 refine Ag (d:=d29) rfl rfl ?_;rw[GT];have i1:OX T.gt.cs [.tup (f.items.map JD),.tup [.ty .lst,.ty .tup]]=some (.bl true):=rfl;simp[d29,Aa,i1,AH];rw[AI (h1:=h) f.items JD (λ_=>.bl true) ?_ ?_ (B3 (by lia)) ?_]
 ·have e25:Ph (n+2) 25 [.v (.int (f.items.length:Int))] h=.ok (.v .non) h:=by
   refine Ag (d:=d25) rfl rfl ?_;have:¬(6:Int)<(f.items.length:Int):=by lia
   simp[d25,Aa,this]
  simp[e25];refine Bo (Ed JD (λ_ μ=>∃x1,μ=[some (.v (.tup (f.items.map JD))),x1]) (i:=0) ⟨_,rfl⟩ λj x μ hx ⟨x1,hμ⟩=>?_) λμ ⟨x1,hμ⟩=>?_
  ·subst hμ;refine⟨_,rfl,?_⟩;simp[JD,HM]
  subst hμ;simp
 ·exact λ_ _=>rfl
 ·simp
 intro k hk;exact⟨_,rfl,by simp[startC,U6]⟩
def pO:T.gt.cs[20]?=some ⟨"Part",false,[8,9,7],[20],some 98,[(19,99),(11,100),(28,101),(12,102),(29,103)]⟩:=rfl
def QR{d:Nd}(w:Bw d.n)(g:Ix d.o)(h6:d.ks.items.length<=6)(b:Bd d):Ph (n+9) 98 [.r (hlen h),.v (.str d.n),.v (.tup (d.o.map AF)),.v (.tup d.ks.mv)] (hnew h (.ins 20 [] []))=.ok (.v .non) (hnew h (.gone d.mv)):=by
 refine Ag (d:=d98) rfl rfl ?_;have e:=λh=>@OG n h d b;unfold Nd.mv at e;simp[d98,Aa,IK w,pO,OC g,OD h6,e,Nd.mv]
def OA(w:Bw d.n)(g:Ix d.o)(h6:d.ks.items.length<=6)(b:Bd d)(he:Dy T.gt.cs (Ph (n+9)) T.gt.ini T.gt.cf es μ h=.ok [.v (.str d.n),.v (.tup (d.o.map AF)),.v (.tup d.ks.mv)] h1):(e2 T.gt.cs (Ph (n+9)) T.gt.ini T.gt.cf (.make 20 es [])).1 μ h=.ok (.v d.mv) h1:=by
 rw[Iz (show T.gt.ini 20=some 98 from rfl)];exact OV (by rw[he];rfl) (QR w g h6 b)
end BK74
namespace BK74
open PySem B L2
variable {n:Nat}
noncomputable def EY(m j:Fin 4):Fin 4:=if j<m then j else m
noncomputable def PY(js:List (Fin 4)):Fin 4:=js.foldl EY 3
noncomputable def CF(rd:List (Fin 4×Str)):Fin 4:=PY (rd.map (·.1))
def LJ{js:List (Fin 4)}:Ph (n+2) 18 [.v (.lst (js.map jM))] h=.ok (.v (jM (PY js))) h:=by
 refine Ag (d:=d18) rfl rfl ?_;have e0:T.gt.ini 19=none:=rfl;simp[d18,Aa,e0];refine Bo (Ed jM (λj μ=>∃x2,μ=[some (.v (.lst (js.map jM))),some (.v (jM (PY (js.take j)))),x2]) (i:=0) ⟨none,rfl⟩ λj x μ hx ⟨x2,hμ⟩=>?_) λμ ⟨x2,hμ⟩=>?_
 ·subst hμ;refine⟨_,rfl,?_⟩;obtain⟨f1,m1,p1⟩:=Mi x;obtain⟨f2,m2,p2⟩:=Mi (PY (js.take j));have e:PY (js.take (j+1))=EY (PY (js.take j)) x:=by rw[BX hx];unfold PY;rw[List.foldl_append];rfl
  simp only[Nat.zero_add];rw[e];unfold EY;by_cases hc:x<PY (js.take j)
  ·have hc2:((x.val:Int)<(PY (js.take j)).val):=by have:x.val<(PY (js.take j)).val:=hc;lia
   simp[m1,m2,p1,p2,hc,hc2]
  have hc2:¬((x.val:Int)<(PY (js.take j)).val):=by have:¬x.val<(PY (js.take j)).val:=hc;lia
  simp[m1,m2,p1,p2,hc,hc2]
 subst hμ;simp
def Kq(hl:rd.length<=1000):Ph (n+3) 35 [.v (.lst (rd.map ZO))] h=.ok (.v (.int (CF rd).val)) h:=by
 refine Ag (d:=d35) rfl rfl ?_;simp[d35,Aa,AH];rw[AI (h1:=h) rd ZO (λx=>jM x.1) ?_ ?_ (B3 hl) ?_]
 ·have e:(rd.map λx=>jM x.1)=(rd.map (·.1)).map jM:=by rw[cJ];rfl
  obtain⟨f2,m2,p2⟩:=Mi (CF rd);have hlo:=@LJ n h (rd.map (·.1));rw[←e]at hlo;unfold CF at m2 p2 ⊢;simp[hlo,m2,p2]
 ·exact λ_ _=>rfl
 ·simp
 intro x hx;exact⟨_,rfl,by simp[startC,HM]⟩
def Km(b:Bd d){k:Nat}(hy:(AC d)[k]?=some y):Ph (n+7) 34 [.v d.mv,.v (.str y.2.n)] h=.ok (.v (BO y)) h:=by
 refine Ag (d:=d34) rfl rfl ?_;simp[d34,Aa,b.wk];rw[Jr (r:=.v (BO y)) (h2:=h) (λ_ μ h'=>h'=h/\∃x2,μ=[some (.v d.mv),some (.v (.str y.2.n)),x2]) (i:=0) (k:=k) (m:=BO y) ⟨rfl,_,rfl⟩ (by rw[aJ,hy];rfl) ?_ ?_]
 ·simp
 ·rintro j m μ h' hj hm ⟨rfl,x2,rfl⟩;obtain⟨z,hz,rfl⟩:=RF hm;have ne:¬z.2.n=y.2.n:=by
   intro e;have h1:(names d)[k]?=some y.2.n:=by unfold names;rw[aJ,hy];rfl
   have h2:(names d)[j]?=some z.2.n:=by unfold names;rw[aJ,hz];rfl
   obtain⟨l1,e1⟩:=a9.mp h1;obtain⟨l2,e2⟩:=a9.mp h2;exact(bO.mp b.nd) j k l2 l1 hj (by rw[e1,e2,e])
  refine⟨_,[some (.v d.mv),some (.v (.str y.2.n)),some (.v (BO z))],h',rfl,?_,rfl,_,rfl⟩;simp[BO,ne]
 rintro μ h' ⟨rfl,x2,rfl⟩;exact⟨_,rfl,by simp[BO]⟩
@[simp]def rR{d:Nd}:meth T.gt.cs 19 d.mv=some 99:=rfl
@[simp]def rQ{d:Nd}:meth T.gt.cs 11 d.mv=some 100:=rfl
@[simp]def rN{d:Nd}:meth T.gt.cs 28 d.mv=some 101:=rfl
@[simp]def oA{d:Nd}:meth T.gt.cs 12 d.mv=some 102:=rfl
def QT(b:Bd d):Ph (n+7) 99 [.v d.mv] h=.ok (.v (.lst ((AC d).map λy=>.str y.2.n))) h:=by
 refine Ag (d:=d99) rfl rfl ?_;simp[d99,Aa,AH];rw[AI (h1:=h) (AC d) BO (λy=>.str y.2.n) ?_ ?_ b.big ?_]
 ·simp
 ·exact λ_ _=>rfl
 ·simp[b.wk]
 intro y hy;exact⟨_,rfl,by simp[startC]⟩
def Wb(b:Bd d){k:Nat}(hy:(AC d)[k]?=some y):Ph (n+8) 100 [.v d.mv,.v (.str y.2.n)] h=.ok (.v y.2.mv) h:=by
 refine Ag (d:=d100) rfl rfl ?_;simp[d100,Aa,Km b hy,BO]
def U2(b:Bd d){k:Nat}(hy:(AC d)[k]?=some y):Ph (n+8) 101 [.v d.mv,.v (.str y.2.n)] h=.ok (.v (.lst (y.1.map ZO))) h:=by
 refine Ag (d:=d101) rfl rfl ?_;simp[d101,Aa,Km b hy,BO]
def LL{d:Nd}(b:Bd d){k:Nat}{y:Rd}(hy:(AC d)[k]?=some y):Ph (n+9) 102 [.v d.mv,.v (.str y.2.n)] h=.ok (.v (.int (CF y.1).val)) h:=by
 refine Ag (d:=d102) rfl rfl ?_;have:=b.road (aQ hy);simp[d102,Aa,U2 b hy,Kq (show y.1.length<=1000 by lia)]
noncomputable def LN(d:Nd):List Rd:=(AC d).filter λy=>!y.2.o.isEmpty
noncomputable def ZP(y:Rd):MV:=.tup [y.2.mv,.int (CF y.1).val]
def LH(b:Bd d):Ph (n+7) 36 [.v d.mv] h=.ok (.v (.lst ((LN d).map ZP))) h:=by
 refine Ag (d:=d36) rfl rfl ?_;simp[d36,Aa,AH];rw[CY (h1:=h) (AC d) BO ZP (λy=>!y.2.o.isEmpty) ?_ b.big ?_]
 ·simp[LN]
 ·simp[b.wk]
 intro y hy;have:=b.road hy;refine⟨_,rfl,?_,λ_=>?_⟩
 ·simp[startC]
 simp[startC,Kq (show y.1.length<=1000 by lia),ZP]
end BK74
namespace BK74
open PySem B L2
variable {n:Nat}
noncomputable def Li.ky(l:Li):Ky:=(l.w,l.i)
structure Bk where
 ss:List MV
 ds:List MV
 ls:List Li
noncomputable def Bk.ks(b:Bk):List Ky:=b.ls.map Li.ky
structure Bk.Ok(b:Bk):Prop where
 ok:∀l∈b.ls,l.Ok
 nd:b.ks.Nodup
 l12:b.ls.length<=12
noncomputable def Jv(ls:List Li):MV:=.dic true ((ls.map Li.ky).map AF) (ls.map Li.mv)
noncomputable def Bk.mv(b:Bk):MV:=.obj 21 [15,30,31] [.lst b.ss,.lst b.ds,Jv b.ls]
noncomputable def rZ:Li:=⟨"",0,0,0,0,0,false⟩
noncomputable def Cm(ls:List Li)(k:Ky):Li:=(ls.find? λl=>decide (l.ky=k)).getD rZ
noncomputable def Bk.lic(b:Bk)(k:Ky):Li:=Cm b.ls k
def Nu(h:k∈ls.map Li.ky):Cm ls k∈ls/\(Cm ls k).ky=k:=by
 unfold Cm;cases e:ls.find? λl=>decide (l.ky=k) with
 |none=>
  obtain⟨l,hl,rfl⟩:=bA.mp h;have:=List.find?_eq_none.mp e l hl;simp at this
 |some l=>exact⟨hG e,by simpa using List.find?_some e⟩
def Q7(a b:Ky):look.seqK (AF a) (AF b)=decide (a=b):=by
 show decide (Wl a=Wl b)=_;by_cases h:a=b
 ·subst h;simp
 have:Wl a≠Wl b:=λe=>h (Ny e);simp[h,this]
theorem K5:∀{ls:List Li}{k:Ky},k∈ls.map Li.ky->look ((ls.map Li.ky).map AF) (ls.map Li.mv) (AF k)=some (Cm ls k).mv
 |[],k,h=>by simp at h
 |l::ls,k,h=>by
  rw[aF,aF,aF,look,Q7];unfold Cm;rw[List.find?_cons];by_cases e:l.ky=k
  ·simp[e]
  have h2:k∈ls.map Li.ky:=by
   rcases aR.mp h with h|h
   ·exact absurd h.symm e
   exact h
  rw[if_neg (by simp[e]),K5 h2];simp[e,Cm]
def Ju(k:Ky):FN true (AF k)=true:=rfl
def NF(h:k∈ls.map Li.ky):DK true ((ls.map Li.ky).map AF) (ls.map Li.mv) (AF k)=some (some (Cm ls k).mv):=by
 unfold DK;rw[if_pos (Ju k),K5 h]
@[simp]def s9{b:Bk}:Du T.gt.cs 31 b.mv=some (Jv b.ls):=rfl
@[simp]def o9{b:Bk}:meth T.gt.cs 10 b.mv=some 108:=rfl
def Bk.Ok.word{b:Bk}(o:b.Ok){k:Ky}(hk:k∈b.ks):Bw k.1:=by
 obtain⟨h1,h2⟩:=Nu (ls:=b.ls) hk;rw[←h2];exact(o.ok _ h1).w
def YJ{b:Bk}(hk:k∈b.ks):FW (Jv b.ls) (AF k)=some (b.lic k).mv:=by
 have e:FW (.dic true ((b.ls.map Li.ky).map AF) (b.ls.map Li.mv)) (AF k)=(DK true ((b.ls.map Li.ky).map AF) (b.ls.map Li.mv) (AF k)).bind id:=by simp only[FW]
 exact e.trans (by rw[NF hk];rfl)
def Yy{b:Bk}(hk:k∈b.ks):AV .notin (AF k) (Jv b.ls)=some false:=by
 have e:AV .notin (AF k) (.dic true ((b.ls.map Li.ky).map AF) (b.ls.map Li.mv))=(DK true ((b.ls.map Li.ky).map AF) (b.ls.map Li.mv) (AF k)).map λo=>!o.isSome:=by simp only[AV]
 exact e.trans (by rw[NF hk];rfl)
def EU{b:Bk}(o:b.Ok)(hk:k∈b.ks):Ph (n+3) 108 [.v b.mv,.v (AF k)] h=.ok (.v (b.lic k).mv) h:=by
 refine Ag (d:=d108) rfl rfl ?_;simp[d108,Aa,Wa (o.word hk),Yy hk,YJ hk]
end BK74
namespace BK74
open PySem B L2
variable {n:Nat}
def Hd(b:Bk)(d:Nd):Prop:=∀y∈AC d,y.2.o.length<=2/\∀k∈y.2.o,k∈b.ks
def Ra(o:b.Ok)(bd:Bd d)(kn:Hd b d):Ph (n+7) 37 [.v b.mv,.v d.mv] h=.ok (.v .non) h:=by
 refine Ag (d:=d37) rfl rfl ?_;simp[d37,Aa,bd.wk];refine Bo (Ed BO (λ_ μ=>∃x2 x3 x4,μ=[some (.v b.mv),some (.v d.mv),x2,x3,x4]) (i:=0) ⟨_,_,_,rfl⟩ λj y μ hy ⟨x2,x3,x4,hμ⟩=>?_) λμ ⟨x2,x3,x4,hμ⟩=>?_
 ·subst hμ;refine⟨_,rfl,?_⟩;simp;refine KH (Ed AF (λ_ μ=>∃x4,μ=[some (.v b.mv),some (.v d.mv),some (.v (.lst (y.1.map ZO))),some (.v y.2.mv),x4]) (i:=0) ⟨_,rfl⟩ λi k μ hk ⟨x4,hμ⟩=>?_) λμ ⟨x4,hμ⟩=>?_
  ·subst hμ;refine⟨_,rfl,?_⟩;simp[EU o ((kn y (List.mem_of_getElem? hy)).2 k (List.mem_of_getElem? hk))]
  subst hμ;simp
 subst hμ;simp
def LI(o:b.Ok)(bd:Bd d)(kn:Hd b d)(hk:k∈b.ks):Ph (n+8) 38 [.v b.mv,.v d.mv,.v (AF k)] h=.ok (.v .non) h:=by
 refine Ag (d:=d38) rfl rfl ?_;simp[d38,Aa,EU o hk,Ra o bd kn]
noncomputable def OJ(b:Bk)(o:List Ky)(c:Nat)(l:Li):List MV:=o.map λk=>.tup [AF k,GU (b.lic k) c l]
def DY{b:Bk}(o:b.Ok){d:Nd}(h2:d.o.length<=2)(hk:∀k∈d.o,k∈b.ks){c:Fin 4}{l:Li}:Ph (n+6) 39 [.v b.mv,.v d.mv,.v (.int c.val),.v l.mv] h=.ok (.v (.lst (OJ b d.o c.val l))) h:=by
 refine Ag (d:=d39) rfl rfl ?_;simp[d39,Aa,AH];rw[AI (h1:=h) d.o AF (λk=>.tup [AF k,GU (b.lic k) c.val l]) ?_ ?_ (B3 (by lia)) ?_]
 ·simp[OJ]
 ·exact λ_ _=>rfl
 ·simp
 intro k hk';exact⟨_,rfl,by simp[startC,EU o (hk k hk'),XU]⟩
noncomputable def Tk(b:Bk)(o:List Ky)(c:Nat)(l:Li):Bool:=o.all λk=>!DL (b.lic k) c l
def IL(h2:o.length<=2){c:Nat}:Ph (n+1) 40 [.v (.lst (OJ b o c l))] h=.ok (.v (.bl (Tk b o c l))) h:=by
 refine Ag (d:=d40) rfl rfl ?_;simp[d40,Aa,AH];rw[AI (h1:=h) o (λk=>.tup [AF k,GU (b.lic k) c l]) (λk=>.bl (!DL (b.lic k) c l)) ?_ ?_ (B3 (by lia)) ?_]
 ·simp[all_map,Tk]
 ·exact λ_ _=>rfl
 ·simp[OJ]
 intro k _;exact⟨_,rfl,by simp[startC,(Zd (b.lic k) c l).is.2,Vn]⟩
noncomputable def Ew(b:Bk)(l:Li)(y:Rd):Bool:=Tk b y.2.o (CF y.1).val l
noncomputable def TV(b:Bk)(l:Li)(y:Rd):MV:=.tup [.str y.2.n,.lst (OJ b y.2.o (CF y.1).val l)]
noncomputable def AN(b:Bk)(d:Nd)(l:Li):List Rd:=(LN d).filter (Ew b l)
def QZ{b:Bk}(o:b.Ok){d:Nd}(h2:d.o.length<=2)(hk:∀k∈d.o,k∈b.ks){c:Fin 4}{l:Li}:Ph (n+7) 110 [.v b.mv,.v l.mv,.v d.mv,.v (.int c.val)] h=.ok (.v (.lst (OJ b d.o c.val l))) h:=by
 refine Ag (d:=_) rfl rfl ?_;simp[Aa,DY o h2 hk]
def Kk(o:b.Ok)(bd:Bd d)(kn:Hd b d):Ph (n+8) 42 [.v d.mv,.l 110 [b.mv,l.mv]] h=.ok (.v (.lst ((AN b d l).map (TV b l)))) h:=by
 refine Ag (d:=d42) rfl rfl ?_;simp[d42,Aa,LH bd];have hs:(LN d).length<=30:=aV (cE _ _) bd.len;have hfl:(AN b d l).map (TV b l)=[]++(LN d).flatMap λy=>if Ew b l y=true then [TV b l y] else []:=by
  unfold AN;rw[dC]
  induction LN d with
  |nil=>rfl
  |cons y ys ih=>by_cases hy:Ew b l y=true<;>simp[hy,ih]
 have hB:([]++(LN d).flatMap λy=>if Ew b l y=true then [TV b l y] else []).length<=30:=by
  rw[←hfl,aI];exact aV (cE _ _) hs
 rw[hfl];refine Bo (CU ZP (λy=>if Ew b l y=true then [TV b l y] else []) (λμ=>∃x3 x4 x5,μ=[some (.v d.mv),some (.l 110 [b.mv,l.mv]),some (.r (hlen h)),x3,x4,x5]) 30 ⟨_,_,_,rfl⟩ hB λy hy μ acc ⟨x3,x4,x5,hμ⟩ hl=>?_) λμ ⟨x3,x4,x5,hμ⟩=>?_
 ·subst hμ;refine⟨_,rfl,?_⟩;have hk2:=kn y ((bS.mp hy).1);by_cases hs:Ew b l y=true
  ·have hl2:acc.length<big:=by simp[hs]at hl;unfold big;lia
   have hs':=hs;unfold Ew at hs';simp[QZ o hk2.1 hk2.2,IL hk2.1,hs,hs',hl2,TV]
  have hs':Tk b y.2.o (CF y.1).val l=false:=by unfold Ew at hs;simpa using hs
  simp[QZ o hk2.1 hk2.2,IL hk2.1,hs,hs']
 subst hμ;simp
def QP(o:b.Ok)(bd:Bd d)(kn:Hd b d)(hk:k∈b.ks):Ph (n+9) 43 [.v b.mv,.v d.mv,.v (AF k)] h=.ok (.v (.lst ((AN b d (b.lic k)).map (TV b (b.lic k))))) h:=by
 refine Ag (d:=d43) rfl rfl ?_;simp[d43,Aa,LI o bd kn hk,EU o hk,Kk o bd kn]
end BK74
namespace BK74
open PySem B L2
variable {n:Nat}
noncomputable def ax(b:Bk)(d:Nd)(k:Ky):Bool:=(AN b d (b.lic k)).isEmpty
noncomputable def told(b:Bk)(d:Nd):List Ky:=b.ks.filter (ax b d)
def Bk.Ok.len{b:Bk}(o:b.Ok):b.ks.length<=12:=by unfold Bk.ks;rw[aI];exact o.l12
noncomputable def Y8(b:Bk)(t:List Ky)(k:Ky):Bool:=(t.filter λx=>ZY (b.lic k) (b.lic x)).all λx=>ZY (b.lic x) (b.lic k)
noncomputable def sf(b:Bk)(d:Nd):List Ky:=(told b d).filter (Y8 b (told b d))
end BK74
namespace BK74
open PySem B L2
variable {n:Nat}
def MJ{z:Str}(hz:Bw z):PyData.strOk z=true:=by
 unfold PyData.strOk;rw[←Array.all_toList,bI];intro c hc;have:=(hz.2.2 c hc).2;exact cL (by lia)
def Ey(hk:Bw k.1)(m:Nat):sh (AF k) (m+1)=true:=by
 show(sh (.str k.1) m&&(sh (.int _) m&&BN [] m))=true;unfold sh BN;simp[MJ hk]
theorem BV{α:Type}{f:α->MV}{m:Nat}:∀{l:List α},(∀x∈l,sh (f x) m=true)->BN (l.map f) m=true
 |[],_=>by simp[BN]
 |x::l,hh=>by
  rw[aF,BN,hh x aG,BV λy hy=>hh y (aC _ hy)];rfl
def LS(a b:Ky):PV (AF a) (AF b)=decide (a=b):=by
 have:PV (AF a) (AF b)=(decide (a.1=b.1)&&decide (a.2.val=b.2.val)):=by
  show PyData.eqv (.tuple [.str a.1,.int _]) (.tuple [.str b.1,.int _])=_;simp[PyData.eqv,PyData.eqvAll];by_cases h1:a.1=b.1<;>by_cases h2:a.2.val=b.2.val<;>(have h3:((a.2.val:Int)=(b.2.val:Int))=(a.2.val=b.2.val):=by {apply propext;lia})<;>simp[h1,h2,h3]
 rw[this];obtain⟨x,i⟩:=a;obtain⟨y,j⟩:=b;simp only[Prod.mk.injEq,Fin.ext_iff];by_cases h1:x=y<;>by_cases h2:i.val=j.val<;>simp[h1,h2]
def YQ{k:Ky}{l:List Ky}(hk:Bw k.1)(hl:∀x∈l,Bw x.1):Tz (AF k) (l.map AF)=some (decide (k∈l)):=by
 unfold Tz;rw[if_neg (by show ¬(KP (.tup _)&&_)=true;simp[KP]),if_pos (by rw[Ey hk,BV λx hx=>Ey (hl x hx) _];rfl)];congr 1;rw[List.any_map,cO,eF,fA];constructor
 ·rintro⟨x,hx,e⟩;simp only[Function.comp,LS,decide_eq_true_eq]at e;rw[←e];exact hx
 intro hx;exact⟨k,hx,by simp[LS]⟩
def V2{k:Ky}{l:List Ky}(hk:Bw k.1)(hl:∀x∈l,Bw x.1):AV .notin (AF k) (.lst (l.map AF))=some (!decide (k∈l)):=by
 show(Tz (AF k) (l.map AF)).map (!·)=_;rw[YQ hk hl];rfl
def UQ(l:List MV):PV (.lst l) (.lst [])=l.isEmpty:=by
 cases l with
 |nil=>show PyData.eqv (.list []) (.list [])=_;simp[PyData.eqv,PyData.eqvAll]
 |cons x l=>show PyData.eqv (.list (Ej x::Er l)) (.list [])=_;simp[PyData.eqv,PyData.eqvAll]
def Fg(hl:BN l 59=true):AV .eq (.lst l) (.lst [])=some l.isEmpty/\AV .ne (.lst l) (.lst [])=some (!l.isEmpty):=by
 have e:PX (.lst l) (.lst [])=some l.isEmpty:=by
  unfold PX;rw[if_neg (by simp[Gn]),if_pos (by show(sh (.lst l) 60&&sh (.lst []) 60)=true;simp[sh,BN,hl]),UQ]
 exact⟨e,by show(PX _ _).map (!·)=_;rw[e];rfl⟩
def IG{a b:Nat}(m:Nat):sh (JE a b) m=true:=by
 rcases HU (Builtin.bitAnd (a:Int) (Builtin.bitNot (b:Int))) with e|⟨k,e⟩<;>(unfold JE;rw[e];simp[sh])
def cz(a b:Li)(m:Nat):sh (fM a b) (m+1)=true:=by
 unfold fM;split
 ·show(sh (.str _) m&&(sh (JE _ _) m&&BN [] m))=true;rw[IG];simp[sh,BN];decide +kernel
 split
 ·show(sh (.str _) m&&(sh (JE _ _) m&&BN [] m))=true;rw[IG];simp[sh,BN];decide +kernel
 split
 ·show(sh (.str _) m&&(sh (JE _ _) m&&BN [] m))=true;rw[IG];simp[sh,BN];decide +kernel
 split
 ·show(sh (.str _) m&&(sh (.int _) m&&BN [] m))=true;simp[sh,BN];decide +kernel
 split
 ·show(sh (.str _) m&&BN [] m)=true;simp[sh,BN];decide +kernel
 simp[sh]
def nX(l:Li)(c:Nat)(o:Li)(m:Nat):sh (GU l c o) (m+1)=true:=by
 unfold GU;split
 ·exact cz _ _ _
 unfold dM;split
 ·simp[sh]
 show(sh (.str _) m&&(sh (JE _ _) m&&BN [] m))=true;rw[IG];simp[sh,BN];decide +kernel
theorem RL{α:Type}(f:α->Str)(g:α->MV):∀{l:List α},(l.map f).Nodup->∀x∈l,look (l.map λy=>.str (f y)) (l.map g) (.str (f x))=some (g x)
 |[],_,x,hx=>by cases hx
 |y::l,nd,x,hx=>by
  rw[aF,aF,look];show(if decide ((Sum.inr (f y):Key)=Sum.inr (f x))=true then _ else _)=_;rcases aR.mp hx with rfl|hx
  ·simp
  have ne:f y≠f x:=λe=>(bT.mp nd).1 (bA.mpr ⟨x,hx,e.symm⟩);rw[if_neg (by simp[ne]),RL f g (bT.mp nd).2 x hx]
end BK74
namespace BK74
open PySem B L2 PyProof.Rows
variable {n:Nat}
structure Bx where
 a:Int
 c:Int
 t:Int
noncomputable def Ay(x:Bx):MO:=.lst [.int x.a,.int x.c,.int x.t]
noncomputable def B7(x:Bx)(m:Int):Int:=if 0<x.a then x.a%m else Wf x.c (x.t+1)%m
noncomputable def B1(x:Bx)(m:Int):Bx:=if 0<x.a then⟨x.a / m,x.c,x.t⟩ else⟨x.a,x.c,x.t+1⟩
noncomputable def M2(c:Int):Bx:=⟨if 1000000000000000000<=c then c else 0,c%2147483647,0⟩
def BG{m:Int}(hm:0<m):0<=B7 x m:=by unfold B7;split<;>exact cF _ (by lia)
def C6{m:Int}(hm:0<m):B7 x m<m:=by unfold B7;split<;>exact bX _ hm
def FU{c:Int}:Ph (n+1) 56 [.v (.int c)] h=.ok (.r (hlen h)) (hnew h (Ay (M2 c))):=by
 refine Ag (d:=d56) rfl rfl ?_;by_cases hc:1000000000000000000<=c
 ·simp[d56,Aa,hc,BZ,Ay,M2]
 simp[d56,Aa,hc,BZ,Ay,M2]
def Et{b:Nat}{m:Int}(hb:Ec h b=some (Ay x))(hm:0<m)(hm2:m<2^64):Ph (n+2) 57 [.r b,.v (.int m)] h=.ok (.v (.int (B7 x m))) (AD h b (Ay (B1 x m))):=by
 refine Ag (d:=d57) rfl rfl ?_;have hb2:=GO hb;have hm3:m<10000000000000000000000000000000000000000:=by lia
 unfold Ay at hb ⊢;by_cases ha:0<x.a
 ·simp[d57,Aa,hb,ha,hm,hm3,hb2,B7,B1]
 simp[d57,Aa,hb,ha,hm,hb2,QV,B7,B1]
def tk1{m:Int}(hm:0<m)(hm2:m<2^64):Ph (n+2) 57 [.r (hlen h),.v (.int m)] (hnew h (Ay x))=.ok (.v (.int (B7 x m))) (hnew h (Ay (B1 x m))):=by
 rw[Et Bn hm hm2,Bl]
def tk2{m:Int}(hm:0<m)(hm2:m<2^64):Ph (n+2) 57 [.r (hlen h),.v (.int m)] (hnew (hnew h (Ay x)) o)=.ok (.v (.int (B7 x m))) (hnew (hnew h (Ay (B1 x m))) o):=by
 rw[Et (x:=x) (by rw[DF (by simp)];exact Bn) hm hm2,CB (by simp),Bl]
def u5{m:Int}(hm:0<m)(hm2:m<2^64):Ph (n+2) 57 [.r (hlen h),.v (.int m)] (hnew (hnew (hnew h (Ay x)) o) o')=.ok (.v (.int (B7 x m))) (hnew (hnew (hnew h (Ay (B1 x m))) o) o'):=by
 rw[Et (x:=x) (by rw[DF (by simp;lia),DF (by simp)];exact Bn) hm hm2,CB (by simp;lia),CB (by simp),Bl]
theorem N6:∀(zs:List Nat) (acc:Array Nat),(zs.map λc=>(⟨#[c]⟩:Str)).foldl (λacc p=>acc++Str.empty.cps++p.cps) acc=acc++zs.toArray
 |[],acc=>by simp
 |c::r,acc=>by
  rw[aF,i8,N6 r];show acc++ #[]++ #[c]++r.toArray=acc++(c::r).toArray;simp
def Mh(zs:List Nat)(sep:Str)(hs:sep=Str.empty):Txt.join sep (zs.map λc=>(⟨#[c]⟩:Str))=⟨zs.toArray⟩:=by
 subst hs;cases zs with
 |nil=>rfl
 |cons c r=>
  show(⟨(r.map λc=>(⟨#[c]⟩:Str)).foldl (λacc p=>acc++Str.empty.cps++p.cps) #[c]⟩:Str)=_;rw[N6];simp
def JW{z:Str}{i:Nat}(h:i<=z.cps.toList.length):Txt.slice z none (some (i:Int))=⟨(z.cps.toList.take i).toArray⟩:=by
 have:=slice_closes_to (x:=z) (j:=i) ⟨by lia,by lia⟩;have:=aP.mp this;rw[this];simp
def L9{z:Str}{i:Nat}(h:i<=z.cps.toList.length):Txt.slice z (some (i:Int)) none=⟨(z.cps.toList.drop i).toArray⟩:=by
 have hz:z.length=z.cps.toList.length:=by simp[Str.length]
 rw[slice_from_eq (x:=z) (i:=i) (b:=z.length) (by lia) (by lia) rfl];congr 2;rw[eL]
 ·simp
 rw[eE];have:z.cps.toList.length=z.length:=hz.symm
 lia
def Th(A B:List Nat):(⟨A.toArray⟩:Str)++(⟨B.toArray⟩:Str)=⟨(A++B).toArray⟩:=by
 show(⟨A.toArray++B.toArray⟩:Str)=_;simp
noncomputable abbrev Oh:Str:=Str.ofString "abcdefghijklmnopqrstuvwxyz"
def Qj{L:List Nat}(h1:1<=L.length)(h2:L.length<=8)(h3:∀c∈L,CQ c):Bw ⟨L.toArray⟩:=⟨by show 1<=L.toArray.size;simpa using h1,by show L.toArray.size<=8;simpa using h2,by simpa using h3⟩
def J4:∀n:Fin 26,BA Oh.cps.toList (n.val:Int)=some (97+n.val):=by decide +kernel
def Og{r r':Int}(h0:0<=r)(h1:r<26)(h0':0<=r')(h1':r'<26)(e:BA Oh.cps.toList r=BA Oh.cps.toList r'):r=r':=by
 obtain⟨n,rfl⟩:∃n:Nat,r=(n:Int):=⟨r.toNat,by lia⟩;obtain⟨n',rfl⟩:∃n:Nat,r'=(n:Int):=⟨r'.toNat,by lia⟩;have a:=J4 ⟨n,by lia⟩;have b:=J4 ⟨n',by lia⟩;dsimp only at a b;rw[a,b]at e;have:=bE e
 lia
def Z6{r:Int}(h0:0<=r)(h1:r<26):∃c,BA Oh.cps.toList r=some c/\CQ c:=by
 obtain⟨n,rfl⟩:∃n:Nat,r=(n:Int):=⟨r.toNat,by lia⟩;exact⟨_,J4 ⟨n,by lia⟩,by unfold CQ;dsimp only;lia⟩
def PF(pos:Nat)(first:Int)(L:Nat)(us:List Str):Prop:=∀(j:Nat) (z:Str),us[j]?=some z->(j<26->z.cps.toList[pos]?=BA Oh.cps.toList ((first+7*(0+(j:Int)))%26)/\z.length≠L)/\(26<=j->z.cps.toList[0]?=BA Oh.cps.toList ((first+7*(0+(j:Int)))%26)/\z.length=L)
def PF.snoc{pos L:Nat}{first:Int}{z:Str}(h:PF pos first L us)(e:us.length<26->z.cps.toList[pos]?=BA Oh.cps.toList ((first+7*(0+(us.length:Int)))%26)/\z.length≠L)(e':26<=us.length->z.cps.toList[0]?=BA Oh.cps.toList ((first+7*(0+(us.length:Int)))%26)/\z.length=L):PF pos first L (us++ [z]):=λj y hy=>by
 by_cases hj:j<us.length
 ·rw[aL hj]at hy;exact h j y hy
 have hj2:j=us.length:=by
  have:=(a9.mp hy).1;rw[aM,dQ]at this
  lia
 subst hj2;rw[aS (aH _),fB]at hy;cases hy;exact⟨e,e'⟩
def PF.nodup{pos L:Nat}{first:Int}(h:PF pos first L us)(hl:us.length<=31):us.Nodup:=by
 rw[List.Nodup,bO];intro i j hi hj hij e;have a:=h i us[i] (aU hi);have b:=h j us[j] (aU hj);rw[e]at a;by_cases h1:i<26
 ·by_cases h2:j<26
  ·have a:=(a.1 h1).1;rw[(b.1 h2).1]at a;have:=Og (cF _ (by decide)) (bX _ (by decide)) (cF _ (by decide)) (bX _ (by decide)) a
   lia
  exact(a.1 h1).2 (b.2 (by lia)).2
 have a:=(a.2 (by lia)).1;rw[(b.2 (by lia)).1]at a;have:=Og (cF _ (by decide)) (bX _ (by decide)) (cF _ (by decide)) (bX _ (by decide)) a
 lia
def u6:FH 3 (Str.ofString "qz")=⟨([113,122,113,122,113,122]:List Nat).toArray⟩:=by decide +kernel
def x1:FH 1 (Str.ofString "x")=⟨([120]:List Nat).toArray⟩:=by decide +kernel
def x0:FH 0 (Str.ofString "x")=⟨([]:List Nat).toArray⟩:=by decide +kernel
end BK74
namespace B
open PySem L2 PySem.SeqAt
section
@[simp]def Sj:Ec (hnew (hnew h a) b) (hlen h+1)=some b:=by rw[←Bv (o:=a)];exact Bn
@[simp]def oW:Ec (hnew (hnew (hnew h a) b) c) (hlen h+2)=some c:=by rw[show hlen h+2=hlen (hnew (hnew h a) b) from by rw[Bv,Bv]];exact Bn
@[simp]def lI:AD (hnew (hnew h a) b) (hlen h+1) o=hnew (hnew h a) o:=by rw[←Bv (o:=a)];exact Bl
@[simp]def lH:AD (hnew (hnew (hnew h a) b) c) (hlen h+2) o=hnew (hnew (hnew h a) b) o:=by rw[show hlen h+2=hlen (hnew (hnew h a) b) from by rw[Bv,Bv]];exact Bl
@[simp]def lK:Fc (hnew (hnew h a) b) (hlen h+1+1)=hnew (hnew h a) b:=by rw[←Bv (o:=a)];exact Ig
@[simp]def lJ:Fc (hnew (hnew (hnew h a) b) c) (hlen h+1+1+1)=hnew (hnew (hnew h a) b) c:=by rw[←Bv (o:=a),←Bv (o:=b)];exact Ig
end
def VJ(s:SR)(P:En->MH->Prop):Prop:=∃μ h,s=some (.nx μ,h)/\P μ h
@[simp]def oX:VJ (some (.nx μ,h)) P=P μ h:=by
  apply propext;constructor
  ·rintro⟨μ',h',e,p⟩
   injection e with e
   injection e with e1 e2
   injection e1 with e1
   exact e1▸e2▸p
  exact λp=>⟨μ,h,rfl,p⟩
def Vj(a:VJ s P)(r:∀μ h,P μ h->VJ (k μ h) Q):VJ (seqK (x:=s) k) Q:=by
 obtain⟨μ,h,rfl,p⟩:=a;exact r μ h p
def Df(r:AB R)(h:MH)(Q:MV->Prop):Prop:=∃m,r=.ok (.v m) h/\Q m
@[simp]def jq:Df (.ok (.v m) h) H Q=(h=H/\Q m):=by
  apply propext;constructor
  ·rintro⟨m',e,p⟩
   injection e with e1 e2
   injection e1 with e1
   exact⟨e2,e1▸p⟩
  rintro⟨rfl,p⟩;exact⟨m,rfl,p⟩
def BI{n:Nat}(a:VJ s P)(r:∀μ h,P μ h->Df (fin n (k μ h)) H Q):Df (fin n (seqK (x:=s) k)) H Q:=by
 obtain⟨μ,h,rfl,p⟩:=a;exact r μ h p
def Ca{n f:Nat}(hd:ds[f]?=some d)(hl:rs.length=d.ps.length)(e:Df (fin (hlen h) (exs G.cs (DX G ds n) G.ini G.cf d.body (Aa d.N.length rs) h)) H Q):Df (DX G ds (n+1) f rs h) H Q:=by
 rw[Ag hd hl rfl];exact e
def HA(r:AB R)(Q:MV->MH->Prop):Prop:=∃m h,r=.ok (.v m) h/\Q m h
@[simp]def lN:HA (.ok (.v m) h) Q=Q m h:=by
  apply propext;constructor
  ·rintro⟨m',h',e,p⟩
   injection e with e1 e2
   injection e1 with e1
   exact e1▸e2▸p
  exact λp=>⟨m,h,rfl,p⟩
def CC{n:Nat}(a:VJ s P)(r:∀μ h,P μ h->HA (fin n (k μ h)) Q):HA (fin n (seqK (x:=s) k)) Q:=by
 obtain⟨μ,h,rfl,p⟩:=a;exact r μ h p
def EC{n f:Nat}(hd:ds[f]?=some d)(hl:rs.length=d.ps.length)(e:HA (fin (hlen h) (exs G.cs (DX G ds n) G.ini G.cf d.body (Aa d.N.length rs) h)) Q):HA (DX G ds (n+1) f rs h) Q:=by
 rw[Ag hd hl rfl];exact e
def CD{α:Type}{t:MT}{b:Sf}{xs:List α}{μ:En}{h:MH}(g:α->MV)(P:Nat->En->MH->Prop)(p:P 0 μ h)(st:∀j x μ h,xs[j]?=some x->P j μ h->∃μ1,Bg t (g x) μ=some μ1/\VJ (b μ1 h) (P (j+1))):VJ (AJ none (xs.map g) t b (xs.map g) μ h) (P xs.length):=by
 obtain⟨μ',h',e,q⟩:=Sn (t:=t) (b:=b) (l:=xs.map g) (μ:=μ) (h:=h) P p λj m μ h hm hp=>by
  rw[aJ]at hm;obtain⟨x,hx,rfl⟩:=aE.mp hm;obtain⟨μ1,e1,μ2,h2,e2,e3⟩:=st j x μ h hx hp;exact⟨μ1,μ2,h2,e1,e2,e3⟩
 exact⟨μ',h',e,by rwa[aI]at q⟩
def Mz{α:Type}{k q:Nat}{js:List Nat}{tg:MT}{fi:En->MH->AB Wk}{tc:Tf}{te:Ef}{μ:En}{h h1:MH}(xs:List α)(f g:α->MV)(p:α->Bool)(hi:fi μ h=.ok ⟨xs.map f,some q⟩ h1)(hq:Ec h1 q=some (.lst (xs.map f)))(hl:xs.length<=big)(st:∀x∈xs,∃μ1,Bg tg (f x) (startC k js μ)=some μ1/\tc μ1 h1=.ok (p x) h1/\(p x=true->te μ1 h1=.ok (.v (g x)) h1)):BU k js tg fi tc te μ h=.ok (.v (.lst ((xs.filter p).map g))) h1:=by
 unfold BU;rw[hi,AM];show(if (xs.map f).length<=big then(compLoop (some q) (xs.map f) tg (startC k js μ) tc te (xs.map f) [] h1).bind λl h2=>AB.ok (R.v (.lst l)) h2 else .no)=_;rw[aI,if_pos hl];have sk:Bj (some q) (xs.map f) h1=true:=by
  simp only[Bj,decide_eq_true_eq];exact hq
 have:∀(ys:List α) (acc:List MV),(∀x∈ys,x∈xs)->compLoop (some q) (xs.map f) tg (startC k js μ) tc te (ys.map f) acc h1=.ok (acc++(ys.filter p).map g) h1:=by
  intro ys
  induction ys with
  |nil=>intro acc _;simp[compLoop,sk]
  |cons y ys ih=>
   intro acc hs;obtain⟨μ1,e1,e2,e3⟩:=st y (hs y aG);rw[aF];unfold compLoop;simp only[sk,if_true,e1,e2,AM];by_cases hp:p y=true
   ·rw[if_pos hp,e3 hp];simp only[AM];rw[ih _ λx hx=>hs x (aC _ hx)];simp[hp]
   rw[if_neg hp,ih _ λx hx=>hs x (aC _ hx)];simp[hp]
 rw[this xs _ λ_ h=>h];rfl
end B
namespace BK74
open PySem B L2 PyProof.Rows
variable {n:Nat}
def Py{α:Type}{k:Nat}{js:List Nat}{tg:MT}{fi:En->MH->AB Wk}{tc:Tf}{te:Ef}{μ:En}{h h1:MH}(xs:List α)(f:α->MV)(I:MH->Prop)(Q:MV->Prop)(htc:∀μ h,tc μ h=.ok true h)(hi:fi μ h=.ok ⟨xs.map f,none⟩ h1)(hl:xs.length<=big)(hI:I h1)(st:∀x∈xs,∀h,I h->E3 λμ1 m h'=>A4 (Bg tg (f x) (startC k js μ)=some μ1) (te μ1 h=.ok (.v m) h') (Q m) (I h')):E2 λms h'=>A4 (BU k js tg fi tc te μ h=.ok (.v (.lst ms)) h') (I h') (ms.length=xs.length) (∀m∈ms,Q m):=by
 have key:∀(ys:List α) (all acc:List MV) (h:MH),I h->(∀x∈ys,x∈xs)->(∀m∈acc,Q m)->∃ms h',compLoop none all tg (startC k js μ) tc te (ys.map f) acc h=.ok ms h'/\I h'/\ms.length=acc.length+ys.length/\∀m∈ms,Q m:=by
  intro ys
  induction ys with
  |nil=>intro all acc h hI _ hq;exact⟨acc,h,by simp[compLoop,Bj],hI,rfl,hq⟩
  |cons y ys ih=>
   intro all acc h hI hs hq;obtain⟨μ1,m,h',e1,e2,q,i2⟩:=st y (hs y aG) h hI;obtain⟨ms,h2,e3,i3,l3,q3⟩:=ih all (acc++ [m]) h' i2 (λx hx=>hs x (aC _ hx)) (λz hz=>by
    rcases bP.mp hz with hz|hz
    ·exact hq z hz
    rw[aY.mp hz];exact q)
   refine⟨ms,h2,?_,i3,by rw[l3];simp;lia,q3⟩;rw[aF];unfold compLoop;simp only[Bj,if_true,e1,htc,AM,e2];exact e3
 obtain⟨ms,h',e,i,l,q⟩:=key xs (xs.map f) [] h1 hI (λ_ h=>h) (λ_ h=>by cases h);refine⟨ms,h',?_,i,by simpa using l,q⟩;unfold BU;rw[hi,AM];show(if (xs.map f).length<=big then(compLoop none (xs.map f) tg (startC k js μ) tc te (xs.map f) [] h1).bind λl h2=>AB.ok (R.v (.lst l)) h2 else .no)=_;rw[aI,if_pos hl,e];rfl
theorem Gj:∀zs:List Nat,FG (zs.map λc=>.str ⟨#[c]⟩)=some (zs.map λc=>⟨#[c]⟩)
 |[]=>rfl
 |c::zs=>by rw[aF,FG,Gj zs];rfl
theorem JY:∀{ms:List MV},(∀m∈ms,∃c,CQ c/\m=.str ⟨#[c]⟩)->∃zs:List Nat,ms=zs.map (λc=>.str ⟨#[c]⟩)/\∀c∈zs,CQ c
 |[],_=>⟨[],rfl,λ_ h=>by cases h⟩
 |m::ms,hh=>by
  obtain⟨c,hc,rfl⟩:=hh m aG;obtain⟨zs,rfl,hz⟩:=JY λx hx=>hh x (aC _ hx);exact⟨c::zs,rfl,λx hx=>by
   rcases aR.mp hx with rfl|hx
   ·exact hc
   exact hz x hx⟩
def Hz{zs:List Nat}(h7:zs.length<=7):Z0 .join (.str "") [.lst (zs.map λc=>.str ⟨#[c]⟩)]=some (.str ⟨zs.toArray⟩):=by
 have e:∀l,Z0 .join (.str "") [.lst l]=(FG l).bind λys=>if (ys.map (·.length)).sum+ys.length*(Str.ofString "").length<=16777216 then some (.str (Txt.join "" ys)) else none:=λl=>rfl;rw[e,Gj,i6,if_pos,Mh _ _ (by decide +kernel)];have:((zs.map λc=>(⟨#[c]⟩:Str)).map (·.length)).sum=zs.length:=by
  induction zs with
  |nil=>rfl
  |cons c zs ih=>simp at h7;simp only[List.map_cons,List.sum_cons,List.length_cons,ih (by lia)];show 1+_=_;lia
 rw[this,show(Str.ofString "").length=0 from by decide +kernel]
 lia
def Ka{j:Int}(h0:0<=j)(h1:j<=1000):ET [.v (.int j)]=some ⟨(List.range j.toNat).map λ(i:Nat)=>MV.int (i:Int),none⟩:=by
 have: -(2^62)<=j/\j<2^62:=by lia
 have e:ET [.v (.int j)]=if -(2^62)<=j/\j<2^62 then some ⟨BH 0 j.toNat,none⟩ else none:=rfl;rw[e,if_pos this];unfold BH;congr 2;apply cW;intro i _;rw[iP]
def J5:Oh.length<=big:=by decide +kernel
def RZ{r:Int}(h0:0<=r)(h1:r<26):∃c,FW (.str Oh) (.int r)=some (.str ⟨#[c]⟩)/\CQ c/\BA Oh.cps.toList r=some c:=by
 obtain⟨c,e,hc⟩:=Z6 h0 h1;refine⟨c,?_,hc,e⟩;have:∀z r,FW (.str z) (.int r)=if z.length<=big then(BA z.cps.toList r).map λc=>.str ⟨#[c]⟩ else none:=λ_ _=>by simp only[FW,Ma]
 rw[this,if_pos J5,e];rfl
def MB{a b:Str}(hl:a.length+b.length<=100):Ck .add (.str a) (.str b)=some (.str (a++b)):=by
 rw[Tl,if_pos (aV hl (by decide))]
def IX(a b:Str):(a++b).length=a.length+b.length:=Array.size_append
def o7(x:Str)(n:Int):Ck .mul (.str x) (.int n)=if 0<=n/\n<=100/\x.length<=100 then some (.str (FH n.toNat x)) else none:=rfl
def G7(L:List Nat):(⟨L.toArray⟩:Str).length=L.length:=aZ
def Op{z:Str}(h:∀x∈us,Bw x)(hz:Bw z):∀x∈us++ [z],Bw x:=λx hx=>by
 rcases bP.mp hx with hx|hx
 ·exact h x hx
 rw[aY.mp hx];exact hz
def WP(c:Int)(m:Nat)(size at_ way first:Int)(zs:List Nat)(h:MH)(i:Nat)(μ:En)(h':MH):Prop:=E4 λ(x:Bx) (us:List Str) (v10 v11:Option R)=>A5 (μ=[some (.v (.int c)),some (.v (.int m)),some (.v (.str Oh)),some (.r (hlen h)),some (.v (.int size)),some (.v (.int at_)),some (.v (.int way)),some (.v (.str ⟨zs.toArray⟩)),some (.v (.int first)),some (.r (hlen h+1)),v10,v11]) (h'=hnew (hnew h (Ay x)) (.lst (us.map MV.str))) (us.length=i) (∀z∈us,Bw z) (PF (if way=0 then at_.toNat else 0) first (if size=7 then 7 else 8) us)
def Gu(c:Int){m:Nat}(hm:m<=26):Df (Ph (n+3) 58 [.v (.int c),.v (.int m)] h) h λr=>∃zs:List Str,r=.lst (zs.map MV.str)/\zs.length=m/\(∀z∈zs,Bw z)/\zs.Nodup:=by
 let b1:=B1 (M2 c) 8
 let size:=B7 (M2 c) 8
 have s0:0<=size:=BG (by decide);have s1:size<8:=C6 (by decide)
 let b2:=B1 b1 (size+1)
 let at_:=B7 b1 (size+1)
 have a0:0<=at_:=BG (by lia);have a1:at_<size+1:=C6 (by lia)
 let b3:=B1 b2 2
 let way:=B7 b2 2
 have T1:Ph (n+2) 57 [.r (hlen h),.v (.int 8)] (hnew h (Ay (M2 c)))=.ok (.v (.int size)) (hnew h (Ay b1)):=tk1 (by decide) (by decide);have T2:Ph (n+2) 57 [.r (hlen h),.v (.int (size+1))] (hnew h (Ay b1))=.ok (.v (.int at_)) (hnew h (Ay b2)):=tk1 (by lia) (by lia);have T3:Ph (n+2) 57 [.r (hlen h),.v (.int 2)] (hnew h (Ay b2))=.ok (.v (.int way)) (hnew h (Ay b3)):=tk1 (by decide) (by decide)
 clear_value b1 size b2 at_ b3 way
 obtain⟨ms,h',eB,⟨x4,rfl⟩,lB,qB⟩:=Py (k:=1) (js:=[2,3]) (tg:=.nm 0) (fi:=Pm T.gt.cs (Ph (n+2)) T.gt.ini T.gt.cf (.rng1 (.var 4))) (tc:=Ov T.gt.cs (Ph (n+2)) T.gt.ini T.gt.cf .nil) (te:=(e2 T.gt.cs (Ph (n+2)) T.gt.ini T.gt.cf (.idx (.var 1) (.call 57 (.cons (.var 2) (.cons (.con (.int 26)) .nil))))).1) (μ:=[some (.v (.int c)),some (.v (.int m)),some (.v (.str Oh)),some (.r (hlen h)),some (.v (.int size)),some (.v (.int at_)),some (.v (.int way)),none,none,none,none,none]) (h:=hnew h (Ay b3)) (h1:=hnew h (Ay b3)) (List.range size.toNat) (λ(i:Nat)=>MV.int (i:Int)) (λh'=>∃x,h'=hnew h (Ay x)) (λm=>∃c,CQ c/\m=.str ⟨#[c]⟩) (λ_ _=>rfl)
  (by simp[Ka s0 (show size<=1000 by lia)])
  (by rw[b9];exact B3 (by lia)) ⟨_,rfl⟩ (λi _ h' ⟨x,hx⟩=>by
   subst hx;obtain⟨c',e1,e2,_⟩:=RZ (r:=B7 x 26) (BG (by decide)) (C6 (by decide));refine⟨_,.str ⟨#[c']⟩,_,rfl,?_,⟨c',e2,rfl⟩,B1 x 26,rfl⟩;simp[startC,tk1,e1])
 obtain⟨zs,rfl,hz⟩:=JY qB;rw[b9,aI]at lB
 let x5:=B1 x4 26
 let first:=B7 x4 26
 have T4:Ph (n+2) 57 [.r (hlen h),.v (.int 26)] (hnew h (Ay x4))=.ok (.v (.int first)) (hnew h (Ay x5)):=tk1 (by decide) (by decide)
 clear_value x5 first
 have eJ:=Hz (zs:=zs) (by lia);have i3:∀z:Str,Zz .join (.str z)=true:=λ_=>rfl;refine Ca (d:=d58) rfl rfl ?_;simp -implicitDefEqProofs [d58,Aa,FU,T1,T2,T3,AH,eB,i3,eJ,T4,Ka (Int.natCast_nonneg m) (show(m:Int)<=1000 by lia)];refine BI (CD (λ(i:Nat)=>MV.int (i:Int)) (WP c m size at_ way first zs h) ⟨x5,[],none,none,rfl,rfl,rfl,(λ_ h=>by cases h),(λj z hj=>by simp at hj)⟩ ?_) ?_
 ·rintro j i μ h' hi ⟨x,us,v10,v11,rfl,rfl,hul0,hall,lett⟩;obtain⟨hj,e⟩:=a9.mp hi;rw[b9]at hj;rw[cQ]at e;subst e;refine⟨_,rfl,?_⟩;have r0:0<=(first+7*(j:Int))%26:=cF _ (by decide);have r1:(first+7*(j:Int))%26<26:=bX _ (by decide);obtain⟨c1,e1,low,e2⟩:=RZ r0 r1;have m7:Dt 7 (j:Int)=true:=Nn (by decide) (by decide);have hul:us.length<big:=by unfold big;lia
  have zl:(⟨zs.toArray⟩:Str).length=zs.length:=G7 zs;have zb:(⟨zs.toArray⟩:Str).length<=big:=by rw[zl];unfold big;lia
  have c1l:(⟨#[c1]⟩:Str).length=1:=rfl;have fin:∀(x':Bx) (z:Str) (y v:Option R),Bw z->(us.length<26->z.cps.toList[if way=0 then at_.toNat else 0]?=some c1/\z.length≠(if size=7 then 7 else 8))->(26<=us.length->z.cps.toList[0]?=some c1/\z.length=(if size=7 then 7 else 8))->WP c m size at_ way first zs h (j+1) [some (.v (.int c)),some (.v (.int m)),some (.v (.str Oh)),some (.r (hlen h)),some (.v (.int size)),some (.v (.int at_)),some (.v (.int way)),some (.v (.str ⟨zs.toArray⟩)),some (.v (.int first)),some (.r (hlen h+1)),y,v] (hnew (hnew h (Ay x')) (.lst (us.map MV.str++ [.str z]))):=λx' z y v hz l1 l2=>by
   refine⟨x',us++ [z],y,v,rfl,by rw[bM];rfl,by rw[aM,hul0];rfl,Op hall hz,lett.snoc (λq=>?_) (λq=>?_)⟩
   ·rw[hul0,iP,e2];exact l1 q
   rw[hul0,iP,e2];exact l2 q
  by_cases h25:25<(j:Int)
  ·lia
  by_cases hw:way=0
  ·have hat2:at_=(at_.toNat:Int):=by lia
   have hale:at_.toNat<=zs.length:=by lia
   have S1:Txt.slice ⟨zs.toArray⟩ none (some at_)=⟨(zs.take at_.toNat).toArray⟩:=by rw[hat2];exact JW (z:=⟨zs.toArray⟩) (by simpa using hale)
   have S2:Txt.slice ⟨zs.toArray⟩ (some at_) none=⟨(zs.drop at_.toNat).toArray⟩:=by rw[hat2];exact L9 (z:=⟨zs.toArray⟩) (by simpa using hale)
   have M:∀lo hi,EW (.str ⟨zs.toArray⟩) lo hi=some (.str (Txt.slice ⟨zs.toArray⟩ lo hi)):=λlo hi=>by show(if _ then _ else _)=_;rw[if_pos zb]
   have c1e:(⟨#[c1]⟩:Str)=⟨[c1].toArray⟩:=rfl;have A1:Ck .add (.str ⟨(zs.take at_.toNat).toArray⟩) (.str ⟨#[c1]⟩)=_:=MB (by simp only[IX,G7,c1l,List.length_take,List.length_drop,List.length_cons,List.length_nil];lia);have A2:Ck .add (.str (⟨(zs.take at_.toNat).toArray⟩++⟨#[c1]⟩)) (.str ⟨(zs.drop at_.toNat).toArray⟩)=_:=MB (by simp only[IX,G7,c1l,List.length_take,List.length_drop,List.length_cons,List.length_nil];lia);have ez:(⟨(zs.take at_.toNat).toArray⟩++⟨#[c1]⟩++⟨(zs.drop at_.toNat).toArray⟩:Str)=⟨(zs.take at_.toNat++ [c1]++zs.drop at_.toNat).toArray⟩:=by rw[c1e,Th,Th]
   have lz:(zs.take at_.toNat++ [c1]++zs.drop at_.toNat).length=zs.length+1:=by simp;lia
   have F:=fin x (⟨(zs.take at_.toNat).toArray⟩++⟨#[c1]⟩++⟨(zs.drop at_.toNat).toArray⟩) (some (.v (.int j))) (some (.v (.str ⟨#[c1]⟩))) (by
    rw[ez];refine Qj (by lia) (by lia) λy hy=>?_;rcases bP.mp hy with hy|hy
    ·rcases bP.mp hy with hy|hy
     ·exact hz y (c9 hy)
     rw[aY.mp hy];exact low
    ·exact hz y (eT hy)) (λq=>by
    rw[ez,if_pos hw];refine⟨?_,by rw[G7,lz];split<;>lia⟩;show(zs.take at_.toNat++ [c1]++zs.drop at_.toNat)[at_.toNat]?=_;rw[dE,aS (by rw[bC];lia),bC,iB hale,fB];rfl) (λq=>by lia)
   simp[e2,J5,m7,h25,hw,M,S1,S2,A1,A2,hul,-Tl];rw[hw]at F;exact F
  have t0:0<=B7 x ((if 5<size then 5 else size)+1):=BG (by split<;>lia);have t1:B7 x ((if 5<size then 5 else size)+1)<(if 5<size then 5 else size)+1:=C6 (by split<;>lia);have TK:=tk2 (n:=n) (h:=h) (x:=x) (m:=(if 5<size then 5 else size)+1) (o:=.lst (us.map MV.str)) (by split<;>lia) (by split<;>lia);generalize B7 x ((if 5<size then 5 else size)+1)=t at t0 t1 TK;generalize B1 x ((if 5<size then 5 else size)+1)=x' at TK;have ht2:t=(t.toNat:Int):=by lia
  have hale:t.toNat<=zs.length:=by split at t1<;>lia
  have ht5:t.toNat<=5:=by split at t1<;>lia
  have S1:Txt.slice ⟨zs.toArray⟩ none (some t)=⟨(zs.take t.toNat).toArray⟩:=by rw[ht2];exact JW (z:=⟨zs.toArray⟩) (by simpa using hale)
  have M:∀lo hi,EW (.str ⟨zs.toArray⟩) lo hi=some (.str (Txt.slice ⟨zs.toArray⟩ lo hi)):=λlo hi=>by show(if _ then _ else _)=_;rw[if_pos zb]
  have c1e:(⟨#[c1]⟩:Str)=⟨[c1].toArray⟩:=rfl;have A1:Ck .add (.str ⟨#[c1]⟩) (.str ⟨(zs.take t.toNat).toArray⟩)=_:=MB (by simp only[IX,G7,c1l,List.length_take,List.length_drop,List.length_cons,List.length_nil];lia);have ez:(⟨#[c1]⟩++⟨(zs.take t.toNat).toArray⟩:Str)=⟨([c1]++zs.take t.toNat).toArray⟩:=by rw[c1e,Th]
  have lz:([c1]++zs.take t.toNat).length<=6:=by simp;lia
  have F:=fin x' (⟨#[c1]⟩++⟨(zs.take t.toNat).toArray⟩) (some (.v (.int j))) (some (.v (.str ⟨#[c1]⟩))) (by
   rw[ez];refine Qj (by simp) (by lia) λy hy=>?_;rcases bP.mp hy with hy|hy
   ·rw[aY.mp hy];exact low
   ·exact hz y (c9 hy)) (λq=>by
   rw[ez,if_neg hw];exact⟨rfl,by rw[G7];split<;>lia⟩) (λq=>by lia)
  simp[e2,J5,m7,h25,hw,M,S1,A1,TK,hul,-Tl];exact F
 rintro μ h' ⟨x,us,v10,v11,rfl,rfl,hul0,hall,lett⟩;rw[b9]at hul0;simp;exact⟨us,rfl,hul0,hall,lett.nodup (by lia)⟩
end BK74
namespace BK74
open PySem B L2 PyProof.Rows
variable {n:Nat}
noncomputable def BB(l:Li):MV:=.tup [l.key,iv l.lets,iv l.sgs,iv l.bars,iv l.reach,.bl l.same]
def L4(x:Bx){m:Nat}(hm:0<m):∃a:Fin m,B7 x (m:Int)=(a.val:Int):=by
 have h0:=BG (x:=x) (m:=(m:Int)) (by lia);have h1:=C6 (x:=x) (m:=(m:Int)) (by lia);exact⟨⟨(B7 x m).toNat,by lia⟩,by show _=(((B7 x m).toNat:Nat):Int);lia⟩
def tq{m:Int}{k:Nat}(hk:k<=6):Ph (n+3) 59 [.r (hlen h),.v (.int m),.v (.int k)] (hnew (hnew h (Ay x)) o)=.ok (.v (.int (Builtin.bitAnd m (B7 x (2^k))))) (hnew (hnew h (Ay (B1 x (2^k)))) o):=by
 refine Ag (d:=d59) rfl rfl ?_;have p1:BZ 1 (k:Int)=true:=by unfold BZ;simp;lia
 have p2:(0:Int)<2^k:=Int.pow_pos (by decide);have p3:(2:Int)^k<2^64:=by
  have:(2:Nat)^k<=2^6:=fV (by decide) hk;have:((2:Nat)^k:Int)<=64:=by exact_mod_cast this
  have e:((2:Nat)^k:Int)=(2:Int)^k:=by norm_cast
  lia
 simp[d59,Aa,p1,tk2 p2 p3]
end BK74
namespace BK74
open PySem B L2 PyProof.Rows
variable {n:Nat}
def Ms{m:Nat}{i:Int}(h:0<=i/\i<m):∃k:Fin m,i=(k.val:Int):=⟨⟨i.toNat,by lia⟩,by show i=((i.toNat:Nat):Int);lia⟩
def Z4:∀a b:Fin 64,0<=Builtin.bitAnd (a.val:Int) (b.val:Int)/\Builtin.bitAnd (a.val:Int) (b.val:Int)<64:=by decide +kernel
def Wc:∀a b:Fin 64,0<=Builtin.bitOr (a.val:Int) (b.val:Int)/\Builtin.bitOr (a.val:Int) (b.val:Int)<64:=by decide +kernel
def ao:∀a:Fin 64,0<=Builtin.bitXor 63 (a.val:Int)/\Builtin.bitXor 63 (a.val:Int)<64:=by decide +kernel
def ap:∀a:Fin 32,0<=Builtin.bitXor 31 (a.val:Int)/\Builtin.bitXor 31 (a.val:Int)<32:=by decide +kernel
def jT:∀a b:Fin 32,0<=Builtin.bitAnd (a.val:Int) (b.val:Int)/\Builtin.bitAnd (a.val:Int) (b.val:Int)<32:=by decide +kernel
def pH:∀s x:Fin 64,Builtin.bitAnd (s.val:Int) (Builtin.bitAnd (x.val:Int) (Builtin.bitXor 63 (s.val:Int)))=0:=by decide +kernel
def WX:∀a t:Fin 64,sub a.val (Builtin.bitOr (a.val:Int) (t.val:Int)).toNat=true:=by decide +kernel
def ZZ(a b:Fin 64):∃k:Fin 64,Builtin.bitAnd (a.val:Int) (b.val:Int)=(k.val:Int):=Ms (Z4 a b)
def rE(a b:Fin 64):∃k:Fin 64,Builtin.bitOr (a.val:Int) (b.val:Int)=(k.val:Int)/\sub a.val k.val=true:=by
 obtain⟨k,e⟩:=Ms (Wc a b);refine⟨k,e,?_⟩;have:=WX a b
 rwa[e,fH]at this
def qY(a:Fin 64):∃k:Fin 64,Builtin.bitXor 63 (a.val:Int)=(k.val:Int):=Ms (ao a)
def sZ(a:Fin 32):∃k:Fin 32,Builtin.bitXor 31 (a.val:Int)=(k.val:Int):=Ms (ap a)
def uk(a b:Fin 32):∃k:Fin 32,Builtin.bitAnd (a.val:Int) (b.val:Int)=(k.val:Int):=Ms (jT a b)
def Oe(a b:Nat):Builtin.bitAnd (a:Int) (b:Int)=((a &&& b:Nat):Int):=rfl
def Od{a b t:Nat}(h:Builtin.bitAnd (a:Int) (b:Int)=0):Builtin.bitAnd (a:Int) (Builtin.bitAnd (b:Int) (t:Int))=0:=by
 rw[Oe]at h ⊢;rw[Oe,←Nat.and_assoc,show a &&& b=0 by exact_mod_cast h];simp
def cy(o:l.Ok)(m:Nat):sh (BB l) (m+2)=true:=by
 show(sh (AF l.ky) (m+1)&&BN [_,_,_,_,_] (m+1))=true;rw[Ey (k:=l.ky) o.w];simp[BN,sh]
def EK:BA [a,b,c,d,e,f] 0=some a/\BA [a,b,c,d,e,f] 1=some b/\BA [a,b,c,d,e,f] 2=some c/\BA [a,b,c,d,e,f] 3=some d/\BA [a,b,c,d,e,f] 4=some e/\BA [a,b,c,d,e,f] 5=some f:=⟨rfl,rfl,rfl,rfl,rfl,rfl⟩
def VE(w:Fin 64):Prop:=∀s:Fin 64,0<=Builtin.bitXor (w.val:Int) (Builtin.bitAnd (s.val:Int) (w.val:Int))/\Builtin.bitXor (w.val:Int) (Builtin.bitAnd (s.val:Int) (w.val:Int))<64/\Builtin.bitAnd (Builtin.bitAnd (s.val:Int) (w.val:Int)) (Builtin.bitXor (w.val:Int) (Builtin.bitAnd (s.val:Int) (w.val:Int)))=0
instance (w:Fin 64):Decidable (VE w):=by unfold VE;infer_instance
def av:∀w:Fin 7,∃v:Fin 64,(2:Int)^w.val-1=(v.val:Int)/\VE v:=by decide +kernel
def XF:∀a:Fin 6,∃r:Fin 4,BA [MV.int 0,.int 1,.int 1,.int 2,.int 2,.int 3] (a.val:Int)=some (iv r)
 |0=>⟨0,rfl⟩
 |1=>⟨1,rfl⟩
 |2=>⟨1,rfl⟩
 |3=>⟨2,rfl⟩
 |4=>⟨2,rfl⟩
 |5=>⟨3,rfl⟩
def LP(k:Ky)(ls:List Li)(wd:Fin 64)(h:MH)(μ:En)(h':MH):Prop:=E2 λ(x:Bx) (lets:Fin 32)=>(μ=[some (.r (hlen h)),some (.v (AF k)),some (.r (hlen h+1)),some (.v (iv wd)),some (.v (iv lets)),none,none,none,none,none])/\(h'=hnew (hnew h (Ay x)) (.lst (ls.map BB)))
def LQ(k:Ky)(ls:List Li)(wd:Fin 64)(h:MH)(μ:En)(h':MH):Prop:=E7 λ(x:Bx) (lets:Fin 32) (sgs bars:Fin 64) (reach:Fin 4) (same:Bool) (v9:Option R)=>A3 (Builtin.bitAnd (sgs.val:Int) (bars.val:Int)=0) (μ=[some (.r (hlen h)),some (.v (AF k)),some (.r (hlen h+1)),some (.v (iv wd)),some (.v (iv lets)),some (.v (iv sgs)),some (.v (iv bars)),some (.v (iv reach)),some (.v (.bl same)),v9]) (h'=hnew (hnew h (Ay x)) (.lst (ls.map BB)))
def LR(k:Ky)(ls:List Li)(h:MH)(m:MV)(h':MH):Prop:=E2 λ(x:Bx) (l:Li)=>A4 (m=BB l) l.Ok (l.ky=k) (h'=hnew (hnew h (Ay x)) (.lst (ls.map BB)))
def LK(x:Bx)(hwd:VE wd)(hw:Bw k.1)(ho:∀l∈ls,l.Ok)(hl:ls.length<=12):HA (Ph (n+4) 60 [.r (hlen h),.v (AF k),.r (hlen h+1),.v (iv wd)] (hnew (hnew h (Ay x)) (.lst (ls.map BB)))) (LR k ls h):=by
 refine EC (d:=d60) rfl rfl ?_;have hne:AL .ne (.lst (ls.map BB)) (.lst [])=some (!(ls.map BB).isEmpty):=(Fg (BV λl hl=>cy (ho l hl) 57)).2;have w6:∀x m o,Ph (n+3) 59 [.r (hlen h),.v (.int m),.v (.int 6)] (hnew (hnew h (Ay x)) o)=.ok (.v (.int (Builtin.bitAnd m (B7 x 64)))) (hnew (hnew h (Ay (B1 x 64))) o):=λx m o=>tq (k:=6) (by decide);simp[d60,Aa,tk2];refine CC (P:=LP k ls wd h) ?_ ?_
 ·by_cases h4:B7 x 4=0
  ·obtain⟨t1,e1⟩:∃a:Fin 32,B7 (B1 x 4) 32=(a.val:Int):=L4 _ (by decide);obtain⟨t2,e2⟩:=sZ t1;simp[h4,tk2,e1,e2];exact⟨_,t2,rfl,rfl⟩
  simp[h4];exact⟨_,31,rfl,rfl⟩
 rintro μ h' ⟨x,lets,rfl,rfl⟩;obtain⟨t1,e1⟩:∃a:Fin 64,B7 x 64=(a.val:Int):=L4 _ (by decide);obtain⟨t2,e2⟩:∃a:Fin 64,B7 (B1 x 64) 64=(a.val:Int):=L4 _ (by decide);obtain⟨t3,e3⟩:=ZZ t1 t2;generalize hx2:B1 (B1 x 64) 64=x2;obtain⟨q0,q1,q2⟩:=hwd t3;obtain⟨xs,exs⟩:=Ms (m:=64) ⟨q0,q1⟩;obtain⟨sgs,es⟩:=ZZ t3 wd;rw[es]at q2 exs;rw[exs]at q2;obtain⟨t4,e4⟩:∃a:Fin 64,B7 x2 64=(a.val:Int):=L4 _ (by decide);obtain⟨t5,e5⟩:∃a:Fin 64,B7 (B1 x2 64) 64=(a.val:Int):=L4 _ (by decide);obtain⟨t6,e6⟩:=ZZ xs t4;obtain⟨bars,eb⟩:=ZZ t6 t5;have hd:Builtin.bitAnd (sgs.val:Int) (bars.val:Int)=0:=by
  rw[←eb,←e6];have:=Od (t:=t4.val) q2;rw[e6]at this ⊢;exact Od this
 generalize hx4:B1 (B1 x2 64) 64=x4;obtain⟨ra,e7⟩:∃a:Fin 6,B7 x4 6=(a.val:Int):=L4 _ (by decide);obtain⟨reach,er⟩:=XF ra;generalize hx5:B1 x4 6=x5;generalize hx6:B1 x5 6=x6;simp[tk2,w6,e1,e2,e3,hx2,es,exs,e4,e5,e6,eb,hx4,e7,er,hx5,hx6,hne,-Ar];refine CC (P:=LQ k ls wd h) ?_ ?_
 ·clear e1 e2 e3 hx2 es exs e4 e5 e6 eb hx4 e7 er hx5 hx6 w6 q0 q1 q2 t1 t2 t3 t4 t5 t6 xs x x2 x4 hwd;generalize decide (B7 x5 6=0)=same;cases hE:ls.isEmpty with
  |true=>
   have:ls=[]:=by simpa using hE
   subst this;simp;exact⟨x6,lets,sgs,bars,reach,same,none,hd,rfl,rfl⟩
  |false=>
   have hlp:0<ls.length:=by cases ls with
    |nil=>cases hE
    |cons _ _=>simp
   by_cases h2:B7 x6 2=0
   ·have tl:(0:Int)<(ls.length:Int)/\(ls.length:Int)<2^64:=by lia
    have r0:=BG (x:=B1 x6 2) tl.1;have r1:=C6 (x:=B1 x6 2) tl.1;have TK:=tk2 (n:=n+1) (h:=h) (x:=B1 x6 2) (o:=.lst (ls.map BB)) tl.1 tl.2;generalize B7 (B1 x6 2) (ls.length:Int)=r at r0 r1 TK;generalize B1 (B1 x6 2) (ls.length:Int)=x8 at TK;obtain⟨l,el⟩:∃l,ls[r.toNat]?=some l:=⟨_,aU (by lia)⟩;have eix:BA (ls.map BB) r=some (BB l):=by rw[Ar r0,aJ,el];rfl
    obtain⟨lets',q1⟩:=uk l.lets lets;obtain⟨u1,q2,_⟩:=rE l.sgs sgs;obtain⟨u2,q3⟩:=qY l.bars;obtain⟨sgs',q4⟩:=ZZ u1 u2;obtain⟨u3,q5,_⟩:=rE l.bars bars;obtain⟨u4,q6⟩:=qY sgs';obtain⟨bars',q7⟩:=ZZ u3 u4;have hd':Builtin.bitAnd (sgs'.val:Int) (bars'.val:Int)=0:=by rw[←q7,←q6];exact pH sgs' u3
    obtain⟨reach',q8⟩:∃k:Fin 4,(if (reach.val:Int)<(l.reach.val:Int) then(reach.val:Int) else(l.reach.val:Int))=(k.val:Int):=by
     split
     ·exact⟨reach,rfl⟩
     exact⟨l.reach,rfl⟩
    simp only[Int.ofNat_lt]at q8;simp[hE,tk2,h2,TK,eix,BB,q1,q2,q3,q4,q5,q6,q7,q8,-Ar,EK,Wm];exact⟨x8,lets',sgs',bars',reach',l.same||same,_,hd',rfl,rfl⟩
   simp[hE,tk2,h2];exact⟨B1 x6 2,lets,sgs,bars,reach,same,none,hd,rfl,rfl⟩
 rintro μ h' ⟨x,lets,sgs,bars,reach,same,v8,hd,rfl,rfl⟩;simp;exact⟨x,⟨k.1,k.2,lets,sgs,bars,reach,same⟩,rfl,⟨hw,hd⟩,rfl,rfl⟩
end BK74
namespace BK74
open PySem B L2 PyProof.Rows
variable {n:Nat}
def Tn(ls:List Li):Prop:=(∀l∈ls,l.Ok)/\(ls.map Li.ky).Nodup/\ls.length<=12
def Oi(sm shift:Int)(j:Nat)(i:Nat):Prop:=(sm=1/\i=j)\/(sm=0/\((i / 8:Nat):Int)=(5*(j:Int)+shift)%12)
def UO{sm shift:Int}{i j a:Nat}(hi:i<12)(hj:j<12)(p:Oi sm shift i a)(q:Oi sm shift j a):i=j:=by
 rcases p with⟨p,e⟩|⟨p,e⟩<;>rcases q with⟨q,f⟩|⟨q,f⟩<;>lia
def BP(c o sm shift:Int)(m:Nat)(wd:Fin 64)(zs:List Str)(h:MH)(i:Nat)(μ:En)(h':MH):Prop:=E4 λ(x:Bx) (ls:List Li) (v9 v10:Option R)=>A5 (μ=[some (.v (.int c)),some (.v (.int o)),some (.r (hlen h)),some (.v (.lst (zs.map MV.str))),some (.v (.int m)),some (.v (.int shift)),some (.v (iv wd)),some (.v (.int sm)),some (.r (hlen h+1)),v9,v10]) (h'=hnew (hnew h (Ay x)) (.lst (ls.map BB))) (ls.length=i) (∀l∈ls,l.Ok) (∀(j:Nat) (l:Li),ls[j]?=some l->Oi sm shift j l.i.val)
def o4:∀w:Fin 7,BZ 1 (w.val:Int)=true:=by decide +kernel
def QK{i:Int}(h0:0<=i)(h1:i<2):BA [a,b] i=some (if i=0 then a else b):=by
 have:i=0\/i=1:=by lia
 rcases this with rfl|rfl<;>rfl
def gv{i:Int}(h0:0<=i)(h1:i<4):BA [a,a,a,b] i=some (if i=3 then b else a):=by
 have:i=0\/i=1\/i=2\/i=3:=by lia
 rcases this with rfl|rfl|rfl|rfl<;>rfl
def QY(c o:Int):Df (Ph (n+5) 62 [.v (.int c),.v (.int o)] h) h λr=>∃ls:List Li,r=.lst (ls.map BB)/\Tn ls:=by
 refine Ca (d:=d62) rfl rfl ?_;obtain⟨_,ew,zs,rfl,hz3,hzw,_⟩:=Gu (n:=n+1) (h:=hnew h (Ay (M2 c))) o (m:=3) (by decide);have ew:Ph (n+4) 58 [.v (.int o),.v (.int 3)] (hnew h (Ay (M2 c)))=.ok (.v (.lst (zs.map MV.str))) (hnew h (Ay (M2 c))):=ew;generalize hx0:M2 c=x0 at ew;obtain⟨a,ea⟩:∃a:Fin 6,B7 x0 6=(a.val:Int):=L4 _ (by decide);obtain⟨b,eb⟩:∃a:Fin 13,B7 (B1 x0 6) 13=(a.val:Int):=L4 _ (by decide);generalize hx2:B1 (B1 x0 6) 13=x2;have s0:=BG (x:=x2) (m:=2) (by decide);have s1:=C6 (x:=x2) (m:=2) (by decide);generalize hs:B7 x2 2=s at s0 s1;obtain⟨m,em,hm⟩:∃m:Nat,(if s=0 then MV.int (1+(a.val:Int)) else MV.int (b.val:Int))=.int (m:Int)/\m<=12:=by
  split
  ·exact⟨1+a.val,by simp,by lia⟩
  exact⟨b.val,rfl,by lia⟩
 generalize hx3:B1 x2 2=x3;generalize hsh:B7 x3 12=shift;generalize hx4:B1 x3 12=x4;obtain⟨w7,e7⟩:∃a:Fin 7,B7 x4 7=(a.val:Int):=L4 _ (by decide);have u0:=BG (x:=B1 x4 7) (m:=4) (by decide);have u1:=C6 (x:=B1 x4 7) (m:=4) (by decide);generalize hu:B7 (B1 x4 7) 4=u at u0 u1;obtain⟨w,ew2⟩:∃w:Fin 7,(if u=3 then MV.int (w7.val:Int) else MV.int 6)=.int (w.val:Int):=by
  split
  ·exact⟨w7,rfl⟩
  exact⟨6,rfl⟩
 obtain⟨wd,ewd,hwd⟩:=av w;have p1:=o4 w;generalize hx6:B1 (B1 x4 7) 4=x6;have v0:=BG (x:=x6) (m:=2) (by decide);have v1:=C6 (x:=x6) (m:=2) (by decide);generalize hv:B7 x6 2=sm at v0 v1;generalize hx7:B1 x6 2=x7;simp -implicitDefEqProofs [d62,Aa,FU,hx0,ew,tk1,ea,eb,hx2,hs,hx3,QK s0 s1,em,hsh,hx4,e7,hu,hx6,gv u0 u1,ew2,p1,ewd,hv,hx7,Ka (Int.natCast_nonneg m) (show(m:Int)<=1000 by lia),-Ar];refine BI (CD (λ(i:Nat)=>MV.int (i:Int)) (BP c o sm shift m wd zs h) ⟨x7,[],none,none,rfl,rfl,rfl,(λ_ h=>by cases h),λj l hj=>by simp at hj⟩ ?_) ?_
 ·clear ew hx0 ea eb hx2 hs em hx3 hsh hx4 e7 hu ew2 hx6 hv hx7 ewd p1;rintro j i μ h' hi ⟨x,ls,v9,v10,rfl,rfl,hll,hlo,hln⟩;obtain⟨hj,e⟩:=a9.mp hi;rw[b9]at hj;rw[cQ]at e;subst e;refine⟨_,rfl,?_⟩;have c0:=BG (x:=x) (m:=3) (by decide);have c1:=C6 (x:=x) (m:=3) (by decide);obtain⟨z,ez⟩:∃z,zs[(B7 x 3).toNat]?=some z:=⟨_,aU (by lia)⟩;have eix:BA (zs.map MV.str) (B7 x 3)=some (.str z):=by rw[Ar c0,aJ,ez];rfl
  have m5:Dt 5 (j:Int)=true:=Nn (by decide) (by decide);have m8:Dt 8 ((5*(j:Int)+shift)%12)=true:=Nn (by decide) (by decide);have a0:=cF (5*(j:Int)+shift) (show(12:Int)≠0 by decide);have a1:=bX (5*(j:Int)+shift) (show(0:Int)<12 by decide);have b0:=BG (x:=B1 x 3) (m:=8) (by decide);have b1:=C6 (x:=B1 x 3) (m:=8) (by decide);have hlb:ls.length<big:=by unfold big;lia
  obtain⟨ki,eki,hki⟩:∃ki:Fin 100,(if sm=0 then MV.int (8*((5*(j:Int)+shift)%12)+B7 (B1 x 3) 8) else MV.int (j:Int))=.int (ki.val:Int)/\Oi sm shift j ki.val:=by
   split
   ·rename_i hs;generalize hu:(5*(j:Int)+shift)%12=u at a0 a1;generalize B7 (B1 x 3) 8=v at b0 b1;refine⟨⟨(8*u+v).toNat,by lia⟩,by show MV.int _=MV.int (((8*u+v).toNat:Nat):Int);congr 1;lia,.inr ⟨hs,?_⟩⟩;rw[hu];show(((8*u+v).toNat / 8:Nat):Int)=u
    lia
   exact⟨⟨j,by lia⟩,rfl,.inl ⟨by lia,rfl⟩⟩
  obtain⟨_,_,el,x',l,rfl,lo,lk,rfl⟩:=LK (n:=n) (h:=h) (k:=(z,ki)) (ls:=ls) (B1 (B1 x 3) 8) hwd (hzw z (aQ ez)) hlo (by lia);have el:Ph (n+4) 60 [.r (hlen h),.v (.tup [.str z,.int (ki.val:Int)]),.r (hlen h+1),.v (iv wd)] (hnew (hnew h (Ay (B1 (B1 x 3) 8))) (.lst (ls.map BB)))=_:=el;simp[-Ar,tk2,eix,m5,m8,QK v0 v1,eki,el,hlb];refine⟨x',ls++ [l],_,_,rfl,by rw[bM];rfl,by rw[aM,hll];rfl,?_,?_⟩
  ·intro y hy;rcases bP.mp hy with hy|hy
   ·exact hlo y hy
   rw[aY.mp hy];exact lo
  intro i y hy;by_cases hi2:i<ls.length
  ·rw[aL hi2]at hy;exact hln i y hy
  have hi3:i=ls.length:=by
   have:=(a9.mp hy).1;rw[aM,dQ]at this
   lia
  subst hi3;rw[aS (aH _),fB]at hy;cases hy;rw[hll];have:l.i=ki:=bQ Prod.snd lk;rw[this];exact hki
 rintro μ h' ⟨x,ls,v9,v10,rfl,rfl,hll,hlo,hln⟩;rw[b9]at hll;simp;refine⟨ls,rfl,hlo,?_,by lia⟩;rw[List.Nodup,bO];intro i j hi hj hij e;rw[aI]at hi hj;rw[fJ,fJ]at e;have p:=hln i _ (aU hi);have q:=hln j _ (aU hj);have e2:(ls[i]).i=(ls[j]).i:=bQ Prod.snd e;rw[e2]at p;exact absurd (UO (by lia) (by lia) p q) (by lia)
end BK74
namespace B
open PySem L2 PySem.SeqAt
section
variable {n:Nat}
noncomputable def VX(μ:En)(n:Nat)(h:MH)(m k:MV):Option MO->SR
 |some (.dic t ks vs)=>if FN t k=true/\vs.length<big then some (.nx μ,AD h n (.dic t (Ee ks vs k m).1 (Ee ks vs k m).2)) else none
 |_=>none
noncomputable def VW(μ:En)(x o i:R)(h3:MH):SR:=match x,o,i with
 |.v m,.r n,.v k=>(match h3[n]? with
  |some (.dic t ks vs)=>if FN t k=true/\vs.length<big then some (.nx μ,h3.set n (.dic t (Ee ks vs k m).1 (Ee ks vs k m).2)) else none
  |_=>none)
 |_,_,_=>none
@[simp]def ll:VX μ n h m k (some (.dic t ks vs))=if FN t k=true/\vs.length<big then some (.nx μ,AD h n (.dic t (Ee ks vs k m).1 (Ee ks vs k m).2)) else none:=rfl
@[simp]def lg:VW μ (.v m) (.r n) (.v k) h=VX μ n h m k (Ec h n):=rfl
@[simp]def kx:ex cs Φ ini cf (.setD o i e) μ h=Ea μ (x:=(e2 cs Φ ini cf e).1 μ h) λx h1=>Ea μ (x:=(e2 cs Φ ini cf o).1 μ h1) λo h2=>Ea μ (x:=(e2 cs Φ ini cf i).1 μ h2) λi h3=>VW μ x o i h3:=rfl
end
def KW(hn:∀x∈ks,look.seqK x k=false):Ee ks vs k v=(ks++ [k],vs++ [v]):=by
 unfold Ee;rw[if_neg];intro ha;obtain⟨x,hx,e⟩:=eF.mp ha;rw[hn x hx]at e;cases e
theorem HW:∀{ks vs:List MV}{k:MV},(∀x∈ks,look.seqK x k=false)->look ks vs k=none
 |[],_,_,_=>by simp[look]
 |_::_,[],_,_=>by simp[look]
 |x::ks,v::vs,k,hn=>by
  rw[look,if_neg (by rw[hn x aG];simp),HW λy hy=>hn y (aC _ hy)]
def Ss{n:Nat}(a:VJ s P)(r:∀μ h,P μ h->fin n (k μ h)=x):fin n (seqK (x:=s) k)=x:=by
 obtain⟨μ,h,rfl,p⟩:=a;exact r μ h p
end B
namespace BK74
open PySem B L2 PyProof.Rows
variable {n:Nat}
def HL{zs:List Str}(hw:∀z∈zs,Bw z)(nd:zs.Nodup)(h6:zs.length<=6):Ph (n+2) 49 [.v (.lst (zs.map MV.str)),.v (.int 6)] h=.ok (.v (.lst (zs.map MV.str))) h:=by
 refine Ag (d:=d49) rfl rfl ?_;have i1:OX T.gt.cs [.lst (zs.map MV.str),.tup [.ty .lst,.ty .tup]]=some (.bl true):=rfl;have c6:¬(6:Int)<(zs.length:Int):=by lia
 simp[d49,Aa,i1,c6];refine Bo (GQ (acc:=[]) MV.str MV.str (λμ=>∃x3,μ=[some (.v (.lst (zs.map MV.str))),some (.v (.int 6)),some (.r (hlen h)),x3]) ⟨_,rfl⟩ λj z μ hj ⟨x3,hμ⟩=>?_) λμ ⟨x3,hμ⟩=>?_
 ·subst hμ;refine⟨_,rfl,?_⟩;have hl:((zs.take j).map MV.str).length<big:=by rw[aI,bC];unfold big;lia
  have hin:Tz (.str z) ((zs.take j).map MV.str)=some false:=by
   have:=Jn (λz:Str=>z) (zs.take j) z;rw[List.map_id']at this;refine this.trans ?_;congr 1;rw[eK];intro hm;obtain⟨i,hi,e⟩:=cV.mp hm;rw[bC]at hi;rw[gV]at e;obtain⟨lj,ej⟩:=a9.mp hj;exact(bO.mp nd) i j (by lia) lj (by lia) (e.trans ej.symm)
  generalize ((zs.take j).map MV.str)=acc at hl hin ⊢;simp[IK (hw z (List.mem_of_getElem? hj)),AL,Y3,hin,hl]
 subst hμ;simp
structure Tt(a:Nat)(l:Li):Prop where
 ok:l.Ok
 s:(Builtin.Int.intBits (Builtin.bitOr (l.sgs.val:Int) (l.bars.val:Int)):Int)<=a
def QU(f:Tt ss.length l):Ph (n+3) 52 [.v l.mv,.v (.lst ss),.v (.lst ds)] h=.ok (.v .non) h:=by
 refine Ag (d:=d52) rfl rfl ?_;have ix:FW Iv (.int (-1))=some (.int 0):=rfl;have e1:=λh=>@EB n (Builtin.bitOr (l.sgs.val:Int) (l.bars.val:Int)) (ss.length:Int) h (Wc l.sgs l.bars).1 f.s;have e2:=λh=>@EB n 0 (ds.length:Int) h (Int.le_refl _) (by show(0:Int)<=_;exact bW _);have fa:Du T.gt.cs 18 l.mv=some Iv:=rfl;simp[d52,Aa,e1,ix,e2,fa]
def Rb{ls:List Li}{ss ds:List MV}(f:∀l∈ls,Tt ss.length l)(nd:(ls.map Li.ky).Nodup)(h12:ls.length<=12):Ph (n+4) 53 [.v (.lst (ls.map Li.mv)),.v (.lst ss),.v (.lst ds)] h=.ok (.v (Jv ls)) h:=by
 refine Ag (d:=d53) rfl rfl ?_;have i1:OX T.gt.cs [.lst (ls.map Li.mv),.tup [.ty .lst,.ty .tup]]=some (.bl true):=rfl;have i2:∀l:Li,OX T.gt.cs [l.mv,.cls 14]=some (.bl true):=λ_=>rfl;have c12:¬(12:Int)<(ls.length:Int):=by lia
 simp[d53,Aa,i1,c12];refine Ss (CD Li.mv (λj μ h'=>(∃x4,μ=[some (.v (.lst (ls.map Li.mv))),some (.v (.lst ss)),some (.v (.lst ds)),some (.r (hlen h)),x4])/\h'=hnew h (.dic true (((ls.take j).map Li.ky).map AF) ((ls.take j).map Li.mv))) ⟨⟨_,rfl⟩,rfl⟩ ?_) ?_
 ·rintro j l μ h' hj ⟨⟨x4,rfl⟩,rfl⟩;refine⟨_,rfl,?_⟩;have hnk:∀x∈((ls.take j).map Li.ky).map AF,look.seqK x (AF l.ky)=false:=by
   intro x hx;obtain⟨k,hk,rfl⟩:=bA.mp hx;rw[Q7,eK];rintro rfl;rw[eU]at hk;obtain⟨i,hi,e⟩:=cV.mp hk;rw[bC]at hi;rw[gV]at e;have h1:(ls.map Li.ky)[j]?=some l.ky:=by rw[aJ,hj];rfl
   obtain⟨lj,ej⟩:=a9.mp h1;exact(bO.mp nd) i j (by lia) lj (by lia) (e.trans ej.symm)
  have hl:((ls.take j).map Li.mv).length<big:=by rw[aI,bC];unfold big;lia
  have hP:hnew h (.dic true (((ls.take (j+1)).map Li.ky).map AF) ((ls.take (j+1)).map Li.mv))=hnew h (.dic true (((ls.take j).map Li.ky).map AF++ [AF l.ky]) ((ls.take j).map Li.mv++ [l.mv])):=by
   rw[BX hj];simp
  rw[hP];generalize ((ls.take j).map Li.ky).map AF=ks at hnk ⊢;generalize (ls.take j).map Li.mv=vs at hl ⊢;have ek:l.key=AF l.ky:=rfl;have hg:DK true ks vs (AF l.ky)=some none:=by unfold DK;rw[if_pos (Ju _),HW hnk]
  simp[i2,ek,hg,QU (f l (List.mem_of_getElem? hj)),Ju,hl,KW hnk]
 rintro μ h' ⟨⟨x4,rfl⟩,rfl⟩;simp[Jv]
def pN:T.gt.cs[21]?=some ⟨"Book",false,[15,30,31],[21],some 104,[(33,105),(34,106),(13,107),(10,108),(20,109)]⟩:=rfl
def pC:Du T.gt.cs 15 (.obj 21 [15,30] [a,b])=some a:=rfl
def pB:Du T.gt.cs 30 (.obj 21 [15,30] [a,b])=some b:=rfl
def Ro{sz dz:List Str}{ls:List Li}(hs:∀z∈sz,Bw z)(ns:sz.Nodup)(l6:sz.length<=6)(hd:∀z∈dz,Bw z)(nd:dz.Nodup)(d6:dz.length<=6)(f:∀l∈ls,Tt sz.length l)(nk:(ls.map Li.ky).Nodup)(h12:ls.length<=12):Ph (n+5) 104 [.r (hlen h),.v (.lst (sz.map MV.str)),.v (.lst (dz.map MV.str)),.v (.lst (ls.map Li.mv))] (hnew h (.ins 21 [] []))=.ok (.v .non) (hnew h (.ins 21 [15,30,31] [.lst (sz.map MV.str),.lst (dz.map MV.str),Jv ls])):=by
 refine Ag (d:=d104) rfl rfl ?_;have e50:∀h,Ph (n+4) 50 [.v (.lst (sz.map MV.str))] h=.ok (.v (.lst (sz.map MV.str))) h:=λh=>by
  refine Ag (d:=d50) rfl rfl ?_;simp[d50,Aa,HL hs ns l6]
 have e51:∀h,Ph (n+4) 51 [.v (.lst (dz.map MV.str))] h=.ok (.v (.lst (dz.map MV.str))) h:=λh=>by
  refine Ag (d:=d51) rfl rfl ?_;simp[d51,Aa,HL hd nd d6]
 have e53:=λh=>@Rb n h ls (sz.map MV.str) (dz.map MV.str) (by simpa using f) nk h12;simp[d104,Aa,e50,e51,pN,pC,pB,e53]
def tF:∀a:Fin 7,HT.sIx 12 12 (some (a.val:Int))=a.val:=by decide +kernel
def nU:∀b:Fin 7,HT.sIx 12 12 (some (6+(b.val:Int)))=6+b.val:=by decide +kernel
def IN(a b:Nat):Builtin.bitOr (a:Int) (b:Int)=((a ||| b:Nat):Int):=by
 have n1:∀c:Nat,Builtin.bitNot (c:Int)=Int.negSucc c:=λc=>by show -((c:Int))-1=_;lia
 have n2:∀c:Nat,Builtin.bitNot (Int.negSucc c)=(c:Int):=λc=>by show -(Int.negSucc c)-1=_;lia
 unfold Builtin.bitOr;rw[n1,n1];have e:Builtin.bitAnd (Int.negSucc a) (Int.negSucc b)=Builtin.bitNot (((Builtin.bitNot (Int.negSucc a)).toNat ||| (Builtin.bitNot (Int.negSucc b)).toNat:Nat):Int):=rfl;rw[e,n2,n2,n1,n2];rfl
def WW{x m y:Nat}(h:sub x m=true):sub x (m ||| y)=true:=by
 unfold sub at *;simp only[decide_eq_true_eq]at *;rw[Nat.and_or_distrib_left,h];apply iK;intro i;simp[Nat.testBit_or,Nat.testBit_and];exact λa _=>a
def TU{s b m:Nat}:sub (s ||| b) (m ||| s ||| b)=true:=by
 unfold sub;simp only[decide_eq_true_eq];apply iK;intro i;simp only[Nat.testBit_or,Nat.testBit_and];cases s.testBit i<;>cases b.testBit i<;>simp
noncomputable def bw(m:Fin 64):Fin 7:=if m.val=0 then 0 else if m.val<2 then 1 else if m.val<4 then 2 else if m.val<8 then 3 else if m.val<16 then 4 else if m.val<32 then 5 else 6
def jG:∀m:Fin 64,m.val / 2^(bw m).val=0/\∀k:Fin 7,k<bw m->0<m.val / 2^k.val:=by decide +kernel
def Zy:∀m x:Fin 64,sub x.val m.val=true->(Builtin.Int.intBits (x.val:Int):Int)<=(bw m).val:=by decide +kernel
def um(ls:List Li)(c:Int)(h:MH)(i:Nat)(μ:En)(h':MH):Prop:=E2 λ(m:Fin 64) (x3:Option R)=>A3 (μ=[some (.v (.lst (ls.map BB))),some (.v (.int c)),some (.v (iv m)),x3,none]) (h'=h) (∀(j:Nat) (l:Li),j<i->ls[j]?=some l->sub (l.sgs.val ||| l.bars.val) m.val=true)
def ul(ls:List Li)(c:Int)(h:MH)(m:Fin 64)(k:Nat)(μ:En)(h':MH):Prop:=E2 λ(q:Nat) (x3:Option R)=>A3 (μ=[some (.v (.lst (ls.map BB))),some (.v (.int c)),some (.v (iv m)),x3,some (.v (.int (q:Nat)))]) (h'=h) (q+k=(bw m).val)
def Nk{a b:Nat}(ha:a<64)(hb:b<64):a ||| b<64:=Nat.or_lt_two_pow (n:=6) ha hb
def Uz{ls:List Li}(c:Int)(ho:∀l∈ls,l.Ok):Df (Ph (n+1) 66 [.v (.lst (ls.map BB)),.v (.int c)] h) h λr=>∃a:Fin 7,r=iv a/\∀l∈ls,Tt a.val l:=by
 refine Ca (d:=d66) rfl rfl ?_;simp[d66,Aa];refine BI (CD (xs:=ls) BB (um ls c h) ⟨0,none,rfl,rfl,λj l hj=>by lia⟩ ?_) ?_
 ·rintro i l μ h' hi ⟨m,x3,rfl,rfl,hm⟩;refine⟨_,rfl,?_⟩;have e1:Builtin.bitOr (Builtin.bitOr (m.val:Int) (l.sgs.val:Int)) (l.bars.val:Int)=((m.val ||| l.sgs.val ||| l.bars.val:Nat):Int):=by rw[IN,IN]
  simp[BB,EK,e1,-Ar];refine⟨⟨m.val ||| l.sgs.val ||| l.bars.val,Nk (Nk m.2 l.sgs.2) l.bars.2⟩,_,rfl,rfl,λj y hj hy=>?_⟩;by_cases e:j=i
  ·subst e;rw[hi]at hy;cases hy;exact TU
  have:=hm j y (by lia) hy;show sub _ (m.val ||| l.sgs.val ||| l.bars.val)=true;rw[Nat.or_assoc];exact WW this
 rintro μ h' ⟨m,x3,rfl,rfl,hm⟩;simp;obtain⟨b1,b2⟩:=jG m;obtain⟨μ',h2,ew,q,y3,rfl,rfl,hq⟩:=Qk (c:=(e2 T.gt.cs (DX T.gt T.all n) T.gt.ini T.gt.cf (.cmp .gt (.bin .shr (.var 2) (.var 4)) (.con (.int 0)))).2) (b:=exs T.gt.cs (DX T.gt T.all n) T.gt.ini T.gt.cf (.cons (.set 4 (.bin .add (.var 4) (.con (.int 1)))) .nil)) (ul ls c h' m) (λk μ h2 ⟨q,y3,hμ,hh,hq⟩=>by
  subst hμ hh;have:=b2 ⟨q,by have:=(bw m).2;lia⟩ (by show q<(bw m).val;lia);have e:0<(m.val:Int) / 2^q:=by
   have h1:((m.val / 2^q:Nat):Int)=(m.val:Int) / 2^q:=by norm_cast
   rw[←h1]
   exact_mod_cast this
  refine⟨[some (.v (.lst (ls.map BB))),some (.v (.int c)),some (.v (iv m)),y3,some (.v (.int ((q:Int)+1)))],h2,by simp[e],by simp,q+1,y3,by simp,rfl,by lia⟩) (λμ h2 ⟨q,y3,hμ,hh,hq⟩=>by
  subst hμ hh;have e:(m.val:Int) / 2^q=0:=by
   have h1:((m.val / 2^q:Nat):Int)=(m.val:Int) / 2^q:=by norm_cast
   rw[←h1,show q=(bw m).val by lia,b1];rfl
  simp[e]) (n:=70) (k:=(bw m).val) (by have:=(bw m).2;lia) ⟨0,x3,rfl,rfl,by simp⟩
 change Cv _ _ 70 [_,_,_,_,some (.v (.int 0))] h2=_ at ew
 rw[ew];have c0:=cF c (show(2:Int)≠0 by decide);have c1:=bX c (show(0:Int)<2 by decide);have eq:q=(bw m).val:=by lia
 subst eq;simp[QK c0 c1,-Ar];have hfit:∀l∈ls,Tt (bw m).val l:=λl hl=>by
  obtain⟨j,hj⟩:=dS.mp hl;have hs:=hm j l (a9.mp hj).1 hj;refine⟨ho l hl,?_⟩;rw[IN];exact Zy m ⟨l.sgs.val ||| l.bars.val,Nk l.sgs.2 l.bars.2⟩ hs
 by_cases e:c%2=0
 ·refine⟨6,by simp[e];rfl,λl hl=>⟨ho l hl,?_⟩⟩;rw[IN];exact M3 ⟨l.sgs.val ||| l.bars.val,Nk l.sgs.2 l.bars.2⟩
 exact⟨bw m,by simp[e],hfit⟩
end BK74
namespace BK74
open PySem B L2 PyProof.Rows
structure Rw where
 n:Str
 o:List Ky
 ab:Int
 j:Fin 4
 dp:Nat
structure Ah(rs:List Rw):Prop where
 pos:0<rs.length
 ok:∀r∈rs,Bw r.n/\1<=r.dp/\r.dp<=6
 root:∀r,rs[0]?=some r->r.ab=-1/\r.dp=1
 up:∀(i:Nat) (r:Rw),rs[i]?=some r->0<i->r.j.val<4/\∃(a:Nat) (ra:Rw),r.ab=a/\a<i/\rs[a]?=some ra/\r.dp=ra.dp+1
 few:∀a:Nat,(rs.filter λr=>r.ab ==(a:Int)).length<=6
def Ah.snoc{rs:List Rw}(h:Ah rs){r:Rw}{a:Nat}{ra:Rw}(w:Bw r.n)(ha:rs[a]?=some ra)(d6:ra.dp<6)(e1:r.ab=a)(e2:r.dp=ra.dp+1)(hj:r.j.val<4)(f6:(rs.filter λr=>r.ab ==(a:Int)).length<6):Ah (rs++ [r]):=by
 have hal:=(a9.mp ha).1;refine⟨by rw[aM];have:=h.pos;lia,λx hx=>?_,λx hx=>?_,λi x hx hi=>?_,λb=>?_⟩
 ·rcases bP.mp hx with hx|hx
  ·exact h.ok x hx
  rw[aY]at hx;subst hx;exact⟨w,by lia,by lia⟩
 ·rw[aL h.pos]at hx;exact h.root x hx
 ·by_cases hl:i<rs.length
  ·rw[aL hl]at hx;obtain⟨g1,a',ra',g2,g3,g4,g5⟩:=h.up i x hx hi;exact⟨g1,a',ra',g2,g3,by rw[aL (by lia)];exact g4,g5⟩
  have e:i=rs.length:=by
   have:=(a9.mp hx).1;rw[aM,dQ]at this
   lia
  subst e;rw[aS (aH _),fB]at hx;cases hx;exact⟨hj,a,ra,e1,hal,by rw[aL hal];exact ha,e2⟩
 rw[List.filter_append,aM];by_cases e:(b:Int)=a
 ·have:b=a:=by lia
  subst this;have:(([r]:List Rw).filter λr=>r.ab ==(b:Int)).length<=1:=cE _ _
  lia
 have:(([r]:List Rw).filter λr=>r.ab ==(b:Int))=[]:=by
   rw[List.filter_cons,if_neg]
   ·rfl
   rw[aP,e1];lia
 rw[this];exact h.few b
noncomputable def tG:Rw:=⟨Str.ofString "",[],0,0,0⟩
noncomputable def At(rs:List Rw)(i:Nat):Rw:=rs.getD i tG
def Go{i:Nat}(h:rs[i]?=some r):At rs i=r:=by
 unfold At;rw[dW,h];rfl
def Bc{i:Nat}(h:i<rs.length):rs[i]?=some (At rs i):=by
 rw[Go (aU h),aU h]
noncomputable def Cr(rs:List Rw)(k i:Nat):Bool:=(At rs i).ab ==(k:Int)
noncomputable def BR(rs:List Rw)(k m:Nat):List Nat:=(List.range m).filter (Cr rs k)
noncomputable def AY(rs:List Rw)(k:Nat):List Nat:=BR rs k rs.length
def K9(rs:List Rw)(k m:Nat):BR rs k (m+1)=BR rs k m++(if Cr rs k m=true then [m] else []):=by
 unfold BR;rw[List.range_succ,List.filter_append];congr 1;rw[List.filter_cons];split<;>rfl
def B9{k i:Nat}:i∈AY rs k ↔ i<rs.length/\(At rs i).ab=k:=by
 unfold AY BR Cr;rw[List.mem_filter,dH,aP]
def Mg(rs:List Rw)(k:Nat):(AY rs k).Nodup:=List.Pairwise.filter _ List.nodup_range
noncomputable def PZ(rs:List Rw)(g:Nat->Fo):List Nat->Fo
 |[]=>.nil
 |i::is=>.cons (At rs i).j (At rs i).n (At rs i).o (g i) (PZ rs g is)
noncomputable def fo(rs:List Rw):Nat->Nat->Fo
 |0,_=>.nil
 |f+1,k=>PZ rs (fo rs f) (AY rs k)
noncomputable def AT(rs:List Rw)(f k:Nat):Nd:=⟨(At rs k).n,(At rs k).o,fo rs f k⟩
theorem Fd(rs:List Rw)(f:Nat):∀is:List Nat,(PZ rs (fo rs f) is).items=is.map λi=>((At rs i).j,AT rs f i)
 |[]=>rfl
 |i::is=>by rw[PZ,Fo.items,Fd rs f is];rfl
def KM(rs:List Rw)(f:Nat)(is:List Nat):BM (PZ rs (fo rs f) is)=(is.map λi=>Eo ((At rs i).j,AT rs f i)).flatten:=by
 rw[Dj,Fd,cJ];rfl
noncomputable def AA(rs:List Rw):Nat->Nat->List Nat
 |0,k=>[k]
 |f+1,k=>k::((AY rs k).map (AA rs f)).flatten
theorem Gd(rs:List Rw):∀f k,(AC (AT rs f k)).map (λy=>y.2.n)=(AA rs f k).map λi=>(At rs i).n
 |0,k=>rfl
 |f+1,k=>by
  have h:∀is:List Nat,((is.map λi=>Eo ((At rs i).j,AT rs f i)).flatten).map (λy=>y.2.n)=((is.map (AA rs f)).flatten).map λi=>(At rs i).n:=by
   intro is
   induction is with
   |nil=>rfl
   |cons i is ih=>
    rw[aF,bR,bM,ih,aF,bR,bM,←Gd rs f i];congr 1;unfold Eo;rw[cJ];rfl
  show((AT rs (f+1) k).n::(BM (PZ rs (fo rs f) (AY rs k))).map (λy=>y.2.n))=(At rs k).n::_;rw[KM,h];rfl
theorem Ws(rs:List Rw):∀f k,(fo rs f k).ht<=f
 |0,k=>aH _
 |f+1,k=>by
  have h:∀is:List Nat,(PZ rs (fo rs f) is).ht<=f+1:=by
   intro is
   induction is with
   |nil=>exact cS _
   |cons i is ih=>
    rw[PZ,Fo.ht];have:=Ws rs f i
    lia
  exact h _
noncomputable def upI(rs:List Rw)(i:Nat):Nat:=(At rs i).ab.toNat
noncomputable def WH(rs:List Rw):Nat->Nat->Nat
 |0,i=>i
 |m+1,i=>upI rs (WH rs m i)
theorem Qm(rs:List Rw):∀m i,WH rs (m+1) i=WH rs m (upI rs i)
 |0,i=>rfl
 |m+1,i=>by
  show upI rs (WH rs (m+1) i)=upI rs (WH rs m (upI rs i));rw[Qm rs m i]
section
def Ah.kid(h:Ah rs){k i:Nat}(hi:i∈AY rs k):i<rs.length/\k<i/\(At rs i).dp=(At rs k).dp+1/\(At rs i).j.val<4/\upI rs i=k:=by
 obtain⟨h1,h2⟩:=B9.mp hi;have e:=Bc h1;have i0:0<i:=by
  cases i with
  |zero=>have:=(h.root _ e).1;rw[h2]at this;lia
  |succ i=>lia
 obtain⟨g1,a,ra,g2,g3,g4,g5⟩:=h.up i _ e i0;rw[h2]at g2;have:a=k:=by lia
 subst this;refine⟨h1,g3,by rw[g5,Go g4],g1,?_⟩;unfold upI;rw[h2];rfl
theorem Ah.desc(h:Ah rs):∀{f k i:Nat},i∈AA rs f k->∃m,WH rs m i=k/\(At rs i).dp=(At rs k).dp+m/\(i=k\/(i<rs.length/\0<m))
 |0,k,i,hi=>by
  rw[AA,aY]at hi;subst hi;exact⟨0,rfl,rfl,.inl rfl⟩
 |f+1,k,i,hi=>by
  rw[AA,aR]at hi;rcases hi with rfl|hi
  ·exact⟨0,rfl,rfl,.inl rfl⟩
  obtain⟨l,hl,hi⟩:=cY.mp hi;obtain⟨c,hc,rfl⟩:=bA.mp hl;obtain⟨c1,c2,c3,c4,c5⟩:=h.kid hc;obtain⟨m,m1,m2,m3⟩:=Ah.desc h hi;refine⟨m+1,by show upI rs (WH rs m i)=k;rw[m1,c5],by lia,.inr ⟨?_,by lia⟩⟩;rcases m3 with rfl|m3
  ·exact c1
  exact m3.1
theorem Kv{g:Nat->List Nat}:∀{is:List Nat},is.Nodup->(∀i∈is,(g i).Nodup)->(∀i∈is,∀j∈is,i≠j->∀x,x∈g i->x∉g j)->((is.map g).flatten).Nodup
 |[],_,_,_=>g6
 |i::is,h1,h2,h3=>by
  rw[aF,bR,fG];obtain⟨n1,n2⟩:=bT.mp h1;refine⟨h2 i aG,Kv n2 (λj hj=>h2 j (aC _ hj)) (λa ha b hb=>h3 a (aC _ ha) b (aC _ hb)),λx hx y hy e=>?_⟩;subst e;obtain⟨l,hl,hy⟩:=cY.mp hy;obtain⟨j,hj,rfl⟩:=bA.mp hl;exact h3 i aG j (aC _ hj) (λe=>n1 (by rw[e];exact hj)) x hx hy
theorem Ah.ordI_nodup(h:Ah rs):∀(f k:Nat),(AA rs f k).Nodup
 |0,k=>by rw[AA];simp
 |f+1,k=>by
  rw[AA,List.nodup_cons];refine⟨λhk=>?_,Kv (Mg rs k) (λi _=>Ah.ordI_nodup h f i) (λi hi j hj ne x hx hx'=>?_)⟩
  ·obtain⟨l,hl,hi⟩:=cY.mp hk;obtain⟨c,hc,rfl⟩:=bA.mp hl;obtain⟨c1,c2,c3,c4,c5⟩:=h.kid hc;obtain⟨m,m1,m2,m3⟩:=h.desc hi
   lia
  obtain⟨c1,c2,c3,c4,c5⟩:=h.kid hi;obtain⟨d1,d2,d3,d4,d5⟩:=h.kid hj;obtain⟨m,m1,m2,m3⟩:=h.desc hx;obtain⟨m',m1',m2',m3'⟩:=h.desc hx';have:m=m':=by lia
  subst this;exact ne (by rw[←m1,←m1'])
def Ah.ordI_lt(h:Ah rs){f k i:Nat}(hk:k<rs.length)(hi:i∈AA rs f k):i<rs.length:=by
 obtain⟨m,_,_,m3⟩:=h.desc hi;rcases m3 with rfl|m3
 ·exact hk
 exact m3.1
end
def HQ:∀{n:Nat}{l:List Nat},l.Nodup->(∀i∈l,i<n)->l.length<=n:=by
 intro n
 induction n with
 |zero=>
  intro l _ h2;cases l with
  |nil=>exact aH _
  |cons x l=>have:=h2 x aG;lia
 |succ n ih=>
  intro l h1 h2;by_cases hm:n∈l
  ·have e:=List.length_erase_of_mem hm;have:=ih (h1.erase n) λi hi=>by
    obtain⟨g1,g2⟩:=h1.mem_erase_iff.mp hi;have:=h2 i g2
    lia
   lia
  have:=ih h1 λi hi=>by
   have:=h2 i hi;have:i≠n:=λe=>hm (by rw[←e];exact hi)
   lia
  lia
section
def Co{i:Nat}(h:i<rs.length):At rs i∈rs:=aQ (Bc h)
def Ds(nd:(rs.map (·.n)).Nodup){i j:Nat}(hi:i<rs.length)(hj:j<rs.length)(e:(At rs i).n=(At rs j).n):i=j:=by
 have a:(rs.map (·.n))[i]?=some (At rs i).n:=by rw[aJ,Bc hi];rfl
 have b:(rs.map (·.n))[j]?=some (At rs i).n:=by rw[aJ,Bc hj,e];rfl
 obtain⟨li,ai⟩:=a9.mp a;obtain⟨lj,bj⟩:=a9.mp b;by_cases h:i<j
 ·exact absurd (ai.trans bj.symm) ((bO.mp nd) i j li lj h)
 by_cases h2:j<i
 ·exact absurd (bj.trans ai.symm) ((bO.mp nd) j i lj li h2)
 lia
def Ah.nodup_names(h:Ah rs)(nd:(rs.map (·.n)).Nodup){f k:Nat}(hk:k<rs.length):(names (AT rs f k)).Nodup:=by
 unfold names;rw[Gd,List.Nodup,List.pairwise_map];have hn:=h.ordI_nodup f k;refine List.Pairwise.imp_of_mem ?_ hn;intro a b ha hb ne e;exact ne (Ds nd (h.ordI_lt hk ha) (h.ordI_lt hk hb) e)
def Ah.bd(h:Ah rs)(l30:rs.length<=30)(nd:(rs.map (·.n)).Nodup){f k:Nat}(hk:k<rs.length)(hf:f<=5):Bd (AT rs f k):=by
 refine⟨h.nodup_names nd hk,?_,?_⟩
 ·have e:(AC (AT rs f k)).length=(AA rs f k).length:=by
   have:=bQ List.length (Gd rs f k)
   rwa[aI,aI]at this
  rw[EQ]at e;have:=HQ (h.ordI_nodup f k) λi hi=>h.ordI_lt hk hi
  lia
 have:=Ws rs f k;show(fo rs f k).ht+1<=6
 lia
def Ah.dp6(h:Ah rs){k:Nat}(hk:k<rs.length):1<=(At rs k).dp/\(At rs k).dp<=6:=(h.ok _ (Co hk)).2
theorem Ah.closed(h:Ah rs):∀{f k a i:Nat},(At rs k).dp+f=6->a∈AA rs f k->i∈AY rs a->i∈AA rs f k
 |0,k,a,i,hf,ha,hi=>by
  rw[AA,aY]at ha;subst ha;obtain⟨c1,c2,c3,c4,c5⟩:=h.kid hi;have:=(h.dp6 c1).2
  lia
 |f+1,k,a,i,hf,ha,hi=>by
  rw[AA,aR]at ha;rw[AA];refine aC _ ?_;rcases ha with rfl|ha
  ·refine cY.mpr ⟨_,bA.mpr ⟨i,hi,rfl⟩,?_⟩;cases f with
   |zero=>rw[AA];exact aY.mpr rfl
   |succ f=>rw[AA];exact aG
  obtain⟨l,hl,ha⟩:=cY.mp ha;obtain⟨c,hc,rfl⟩:=bA.mp hl;obtain⟨c1,c2,c3,c4,c5⟩:=h.kid hc;exact cY.mpr ⟨_,bA.mpr ⟨c,hc,rfl⟩,Ah.closed h (by lia) ha hi⟩
def Ah.root1(h:Ah rs):(At rs 0).dp=1:=(h.root _ (Bc h.pos)).2
def Ah.all_in(h:Ah rs):∀i,i<rs.length->i∈AA rs 5 0:=by
 intro i
 induction i using Nat.strongRecOn with
 |ind i ih=>
  intro hi;by_cases i0:i=0
  ·subst i0;rw[AA];exact aG
  obtain⟨_,a,ra,g2,g3,g4,g5⟩:=h.up i _ (Bc hi) (by lia);exact h.closed (by rw[h.root1]) (ih a g3 (by lia)) (B9.mpr ⟨hi,g2⟩)
end
def QB(rs:List Rw):rs=(List.range rs.length).map (At rs):=by
 apply dF;intro i;rw[aJ];by_cases hi:i<rs.length
 ·rw[Bc hi,aU (by rw[b9];exact hi),cQ];rfl
 rw[cP (by lia),cP (by rw[b9];lia)];rfl
def RU(rs:List Rw)(k:Nat):(AY rs k).length=(rs.filter λr=>r.ab ==(k:Int)).length:=by
 conv=>rhs;rw[QB rs,List.filter_map,aI]
 rfl
def Sq(h:Ah rs){f k:Nat}(hf:(At rs k).dp+f=6):(fo rs f k).items=(AY rs k).map λc=>((At rs c).j,AT rs (f-1) c):=by
 cases f with
 |zero=>
  have:AY rs k=[]:=fX.mpr λc hc=>by
   obtain⟨c1,c2,c3,_⟩:=h.kid hc;have:=(h.dp6 c1).2
   lia
  rw[this];rfl
 |succ f=>exact Fd rs f _
variable {n:Nat}
noncomputable def Rw.js(r:Rw):Str:=if r.ab<0 then Str.ofString "" else Hq r.j
noncomputable def Bb(r:Rw):MV:=.tup [.str r.n,.tup (r.o.map AF),.int r.ab,.str r.js,.int r.dp]
def Lu:BA [a,b,c,d,e] 0=some a/\BA [a,b,c,d,e] 1=some b/\BA [a,b,c,d,e] 2=some c/\BA [a,b,c,d,e] 3=some d/\BA [a,b,c,d,e] 4=some e:=⟨rfl,rfl,rfl,rfl,rfl⟩
def To(ks:List Ky)(o:List Ky):Prop:=Ix o/\∀k∈o,k∈ks
def OP(ks:List Ky)(H:MH)(q:Nat)(m:Nat)(j:Nat)(μ:En)(h':MH):Prop:=E4 λ(x:Bx) (o:List Ky) (v3 v4:Option R)=>A5 (μ=[some (.r q),some (.v (.lst (ks.map AF))),some (.r (hlen H)),v3,v4]) (h'=hnew (AD H q (Ay x)) (.lst (o.map AF))) (o.length<=j) o.Nodup (∀k∈o,k∈ks)
def OR(ks:List Ky)(H:MH)(q:Nat)(m:MV)(h':MH):Prop:=∃(o:List Ky) (x':Bx),m=.tup (o.map AF)/\To ks o/\h'=AD H q (Ay x')
def HI{ks:List Ky}{q:Nat}(hq:Ec H q=some (Ay x))(hw:∀k∈ks,Bw k.1)(h12:ks.length<=12):HA (Ph (n+3) 63 [.r q,.v (.lst (ks.map AF))] H) (OR ks H q):=by
 refine EC (d:=d63) rfl rfl ?_;have hql:=GO hq;have ql2:∀o,q<hlen (AD H q o):=λo=>by rw[GM];exact hql
 have T0:Ph (n+2) 57 [.r q,.v (.int 6)] (hnew H (.lst []))=.ok (.v (.int (B7 x 6))) (hnew (AD H q (Ay (B1 x 6))) (.lst [])):=by
  rw[Et (x:=x) (by rw[DF hql];exact hq) (by decide) (by decide),CB hql]
 obtain⟨m,em,hm⟩:∃m:Nat,BA [MV.int 0,.int 1,.int 2,.int 2,.int 2,.int 2] (B7 x 6)=some (.int m)/\m<=2:=by
  obtain⟨a,ea⟩:∃a:Fin 6,B7 x 6=(a.val:Int):=L4 _ (by decide);rw[ea];have:a=0\/a=1\/a=2\/a=3\/a=4\/a=5:=by lia
  rcases this with rfl|rfl|rfl|rfl|rfl|rfl
  ·exact⟨0,rfl,by decide⟩
  ·exact⟨1,rfl,by decide⟩
  ·exact⟨2,rfl,by decide⟩
  ·exact⟨2,rfl,by decide⟩
  ·exact⟨2,rfl,by decide⟩
  exact⟨2,rfl,by decide⟩
 simp -implicitDefEqProofs [-Ar,d63,Aa,T0,em,Ka (Int.natCast_nonneg m) (show(m:Int)<=1000 by lia)];refine CC (CD (λ(i:Nat)=>MV.int (i:Int)) (OP ks H q m) ⟨B1 x 6,[],none,none,rfl,rfl,aH _,g6,(λ_ h=>by cases h)⟩ ?_) ?_
 ·rintro j i μ h' hi ⟨x,o,v3,v4,rfl,rfl,ol,ond,oks⟩;obtain⟨hj,e⟩:=a9.mp hi;rw[b9]at hj;refine⟨_,rfl,?_⟩;have hne0:AL .ne (.lst (ks.map AF)) (.lst [])=some (!ks.isEmpty):=by
   refine(Fg (BV λk hk=>Ey (hw k hk) 58)).2.trans ?_;cases ks<;>rfl
  by_cases h0:ks=[]
  ·subst h0;have hne:AL .ne (.lst (([]:List Ky).map AF)) (.lst [])=some false:=hne0;simp at hne;simp[hne];exact⟨x,o,_,_,rfl,rfl,by lia,ond,oks⟩
  have h0:0<ks.length:=List.length_pos_iff.mpr h0;have hne:AL .ne (.lst (ks.map AF)) (.lst [])=some true:=by
   rw[hne0];cases ks with
   |nil=>cases h0
   |cons _ _=>rfl
  have T1:Ph (n+2) 57 [.r q,.v (.int (ks.length:Int))] (hnew (AD H q (Ay x)) (.lst (o.map AF)))=.ok (.v (.int (B7 x ks.length))) (hnew (AD H q (Ay (B1 x ks.length))) (.lst (o.map AF))):=by
   rw[Et (x:=x) (by rw[DF (ql2 _)];exact Jp hql) (by lia) (by lia),CB (ql2 _),Sh]
  have r0:=BG (x:=x) (m:=(ks.length:Int)) (by lia);have r1:=C6 (x:=x) (m:=(ks.length:Int)) (by lia);generalize B7 x (ks.length:Int)=r at r0 r1 T1;generalize B1 x (ks.length:Int)=x' at T1;obtain⟨k,ek⟩:∃k,ks[r.toNat]?=some k:=⟨_,aU (by lia)⟩;have eix:BA (ks.map AF) r=some (AF k):=by rw[Ar r0,aJ,ek];rfl
  have hk:=aQ ek;have ein:AL .notin (AF k) (.lst (o.map AF))=some (!decide (k∈o)):=V2 (hw k hk) λy hy=>hw y (oks y hy);have hob:o.length<big:=by unfold big;lia
  have hh:∀o',hlen (AD H q o')=hlen H:=λ_=>GM;have ht:∀o',Ec (hnew (AD H q (Ay x')) o') (hlen H)=some o':=λo'=>by rw[←hh (Ay x')];exact Bn
  have hp:∀o' o2,AD (hnew (AD H q (Ay x')) o') (hlen H) o2=hnew (AD H q (Ay x')) o2:=λo' o2=>by rw[←hh (Ay x')];exact Bl
  by_cases hin:k∈o
  ·simp[-Ar,hne,T1,eix,ein,hin,ht];exact⟨x',o,_,_,rfl,rfl,by lia,ond,oks⟩
  simp[-Ar,hne,T1,eix,ein,hin,ht,hob,hp];refine⟨x',o++ [k],_,_,rfl,by rw[bM];rfl,by simp;lia,?_,?_⟩
  ·rw[fG];exact⟨ond,by simp,λa ha b hb=>by rw[List.mem_singleton.mp hb];rintro rfl;exact hin ha⟩
  intro y hy;rcases bP.mp hy with hy|hy
  ·exact oks y hy
  rw[aY.mp hy];exact hk
 rintro μ h' ⟨x,o,v3,v4,rfl,rfl,ol,ond,oks⟩;rw[b9]at ol;have hh:hlen (AD H q (Ay x))=hlen H:=GM;have ht:∀o',Ec (hnew (AD H q (Ay x)) o') (hlen H)=some o':=λo'=>by rw[←hh];exact Bn
 have hc:∀o',Fc (hnew (AD H q (Ay x)) o') (hlen H)=AD H q (Ay x):=λo'=>by rw[←hh,GN (aH _),EH]
 simp[ht,hc];exact⟨o,x,rfl,⟨⟨by lia,ond,λk hk=>hw k (oks k hk)⟩,oks⟩,rfl⟩
end BK74
namespace BK74
open PySem B L2 PyProof.Rows
variable {n:Nat}
structure CK(ks:List Ky)(rs:List Rw):Prop where
 t:Ah rs
 o:∀r∈rs,To ks r.o
 l:rs.length<=30
 nd:(rs.map (·.n)).Nodup
def TP(c:Int)(zs:List Str)(ks:List Ky)(m:Nat)(h:MH)(i:Nat)(μ:En)(h':MH):Prop:=E6 λ(x:Bx) (rs:List Rw) (v6 v7 v8 v9:Option R)=>A5 (μ=[some (.v (.int c)),some (.v (.lst (zs.map MV.str))),some (.v (.lst (ks.map AF))),some (.r (hlen h)),some (.v (.int m)),some (.r (hlen h+1)),v6,v7,v8,v9]) (h'=hnew (hnew h (Ay x)) (.lst (rs.map Bb))) (Ah rs) (∀r∈rs,To ks r.o) ((rs.map (·.n)).Sublist (zs.take (1+i)))
def au{q:Nat}(e:Ec h q=some (.lst l)):Fv h (.r q)=some ⟨l,some q⟩:=by
 have e:h[q]?=some (.lst l):=e;simp only[Fv,e]
def QC{j:Nat}(h0:1<=j)(h1:j<=1000):ET [.v (.int 1),.v (.int j)]=some ⟨(List.range (j-1)).map λ(i:Nat)=>MV.int (1+(i:Int)),none⟩:=by
 have e:∀a b,ET [.v (.int a),.v (.int b)]=if -(2^62)<=a/\a<2^62/\-(2^62)<=b/\b<2^62 then some ⟨BH a (b-a).toNat,none⟩ else none:=λ_ _=>rfl;rw[e,if_pos (by lia)];have:((j:Int)-1).toNat=j-1:=by lia
 rw[this];rfl
def U0(c:Int){zs:List Str}{ks:List Ky}(hz:zs.length=8)(zw:∀z∈zs,Bw z)(znd:zs.Nodup)(hw:∀k∈ks,Bw k.1)(h12:ks.length<=12):Df (Ph (n+4) 64 [.v (.int c),.v (.lst (zs.map MV.str)),.v (.lst (ks.map AF))] h) h λr=>∃rs,r=.lst (rs.map Bb)/\CK ks rs:=by
 refine Ca (d:=d64) rfl rfl ?_;obtain⟨a,ea⟩:∃a:Fin 8,B7 (M2 c) 8=(a.val:Int):=L4 _ (by decide);obtain⟨b,eb⟩:∃a:Fin 8,B7 (B1 (M2 c) 8) 8=(a.val:Int):=L4 _ (by decide);generalize hx2:B1 (B1 (M2 c) 8) 8=x2;have en:(zs.length:Int)=8:=by rw[hz];rfl
 obtain⟨m,em,hm1,hm30⟩:∃m:Nat,BA [MV.int (1+(a.val:Int)),.int (1+(b.val:Int))] (if B7 x2 8=0 then 1 else 0)=some (.int (m:Int))/\1<=m/\m<=8:=by
  split
  ·exact⟨1+b.val,by simp,by lia,by lia⟩
  exact⟨1+a.val,by simp,by lia,by lia⟩
 generalize hx:B1 x2 8=x;simp[-Ar,d64,Aa,FU,tk1,ea,eb,hx2,en,em,hx];obtain⟨_,_,eo,o,x',rfl,oo,rfl⟩:=HI (n:=n) (H:=hnew h (Ay x)) (q:=hlen h) Bn hw h12;rw[Bl]at eo;obtain⟨z0,ez0⟩:∃z,zs[0]?=some z:=⟨_,aU (by lia)⟩;have eix:BA (zs.map MV.str) 0=some (.str z0):=by rw[Ar (by decide),aJ];show(zs[0]?).map _=_;rw[ez0];rfl
 simp -implicitDefEqProofs [-Ar,eix,eo,QC hm1 (show m<=1000 by lia)];refine BI (CD (λ(i:Nat)=>MV.int (1+(i:Int))) (TP c zs ks m h) ⟨x',[⟨z0,o,-1,0,1⟩],none,none,none,none,rfl,rfl,?_,?_,?_⟩ ?_) ?_
 ·refine⟨by simp,?_,?_,?_,?_⟩
  ·intro r hr;rw[aY.mp hr];exact⟨zw z0 (aQ ez0),show(1:Nat)<=1 by decide,show(1:Nat)<=6 by decide⟩
  ·intro r hr;cases hr;exact⟨rfl,rfl⟩
  ·intro i r hr hi;cases i with
   |zero=>lia
   |succ i=>simp at hr
  intro a;exact aV (cE _ _) (by simp)
 ·intro r hr;rw[aY.mp hr];exact oo
 ·have:zs.take 1=[z0]:=by
   cases zs with
   |nil=>simp at ez0
   |cons z zs=>simp at ez0;rw[ez0];rfl
  rw[show 1+0=1 from rfl,this];exact gT _
 ·rintro j i μ h' hi ⟨x,rs,v6,v7,v8,v9,rfl,rfl,tr,ro,sub⟩;obtain⟨hj,e⟩:=a9.mp hi;rw[b9]at hj;rw[cQ]at e;subst e;refine⟨_,rfl,?_⟩;have hrl:rs.length<=30:=by
   have:=sub.length_le;rw[aI,bC]at this
   lia
  have hrp:=tr.pos;have TK:=tk2 (n:=n+1) (h:=h) (x:=x) (m:=(rs.length:Int)) (o:=.lst (rs.map Bb)) (by lia) (by lia);obtain⟨above,eab⟩:=L4 x hrp;generalize hx':B1 x (rs.length:Int)=x' at TK;rw[eab]at TK;obtain⟨ra,era⟩:∃r,rs[above.val]?=some r:=⟨_,aU above.2⟩;have hra:BA (rs.map Bb) (above.val:Int)=some (Bb ra):=by rw[Ar (bW _),aJ,fH,era];rfl
  simp[TK,AH];rw[Mz (q:=hlen h+1) (h1:=hnew (hnew h (Ay x')) (.lst (rs.map Bb))) rs Bb Bb (λr=>r.ab ==(above.val:Int)) ?_ Sj (B3 (by lia)) ?_]
  ·have ez:∃z,zs[1+j]?=some z:=⟨_,aU (by lia)⟩;obtain⟨z,ez⟩:=ez;have ezx:BA (zs.map MV.str) (1+(j:Int))=some (.str z):=by
    have:(1+(j:Int))=((1+j:Nat):Int):=by lia
    rw[this,Ar (bW _),aJ,fH,ez];rfl
   have tk1:zs.take (1+(j+1))=zs.take (1+j)++ [z]:=BX ez;have nof:∀v8 v9,TP c zs ks m h (j+1) [some (.v (.int c)),some (.v (.lst (zs.map MV.str))),some (.v (.lst (ks.map AF))),some (.r (hlen h)),some (.v (.int m)),some (.r (hlen h+1)),some (.v (.int (1+(j:Int)))),some (.v (.int (above.val:Int))),v8,v9] (hnew (hnew h (Ay x')) (.lst (rs.map Bb))):=λv8 v9=>⟨x',rs,_,_,_,_,rfl,rfl,tr,ro,by rw[tk1];exact sub.trans (List.sublist_append_left _ _)⟩;by_cases hf:(rs.filter λr=>r.ab ==(above.val:Int)).length<6
   ·have hf':(((rs.filter λr=>r.ab ==(above.val:Int)).length:Nat):Int)<6:=by lia
    by_cases hd:ra.dp<6
    ·have hd':(ra.dp:Int)<6:=by lia
     obtain⟨jn,ej⟩:∃jn:Fin 4,BA [MV.str (Str.ofString "called"),.str (Str.ofString "beside"),.str (Str.ofString "joined"),.str (Str.ofString "changed"),.str (Str.ofString "changed"),.str (Str.ofString "joined")] (B7 x' 6)=some (.str (Hq jn)):=by
      obtain⟨a,ea⟩:∃a:Fin 6,B7 x' 6=(a.val:Int):=L4 _ (by decide);rw[ea];have:a=0\/a=1\/a=2\/a=3\/a=4\/a=5:=by lia
      rcases this with rfl|rfl|rfl|rfl|rfl|rfl
      ·exact⟨0,rfl⟩
      ·exact⟨1,rfl⟩
      ·exact⟨2,rfl⟩
      ·exact⟨3,rfl⟩
      ·exact⟨3,rfl⟩
      exact⟨2,rfl⟩
     have TJ:=tk2 (n:=n+1) (h:=h) (x:=x') (m:=6) (o:=.lst (rs.map Bb)) (by decide) (by decide);generalize B7 x' 6=tj at TJ ej;generalize B1 x' 6=x2 at TJ;obtain⟨_,_,eo,o,x3,rfl,oo,rfl⟩:=HI (n:=n) (H:=hnew (hnew h (Ay x2)) (.lst (rs.map Bb))) (q:=hlen h) (x:=x2) (by rw[DF (by simp)];exact Bn) hw h12;rw[CB (by simp),Bl]at eo;have hrb:rs.length<big:=by unfold big;lia
     have era':Bb ra=.tup [.str ra.n,.tup (ra.o.map AF),.int ra.ab,.str ra.js,.int ra.dp]:=rfl;rw[era']at hra;simp[-Ar,hf',hra,Lu,hd',TJ,ej,ezx,eo,hrb];have ejs:(⟨z,o,(above.val:Int),jn,ra.dp+1⟩:Rw).js=Hq jn:=by unfold Rw.js;rw[if_neg (by simp)]
     refine⟨x3,rs++ [⟨z,o,(above.val:Int),jn,ra.dp+1⟩],_,_,_,_,rfl,?_,tr.snoc (zw z (aQ ez)) era hd rfl rfl jn.2 hf,?_,?_⟩
     ·rw[bM];show _=hnew (hnew h (Ay x3)) (.lst (rs.map Bb++ [.tup [.str z,.tup (o.map AF),.int (above.val:Int),.str (Rw.js _),.int ((ra.dp+1:Nat):Int)]]));rw[ejs];rfl
     ·intro r hr;rcases bP.mp hr with hr|hr
      ·exact ro r hr
      rw[aY.mp hr];exact oo
     rw[tk1,bM];exact sub.append (gT _)
    have hd': ¬(ra.dp:Int)<6:=by lia
    have era':Bb ra=.tup [.str ra.n,.tup (ra.o.map AF),.int ra.ab,.str ra.js,.int ra.dp]:=rfl;rw[era']at hra;simp[-Ar,hf',hra,Lu,hd'];exact nof _ _
   have hf': ¬(((rs.filter λr=>r.ab ==(above.val:Int)).length:Nat):Int)<6:=by lia
   simp[hf'];exact nof _ _
  ·simp[au (Sj (h:=h) (a:=Ay x') (b:=.lst (rs.map Bb)))]
  intro r _;refine⟨_,rfl,?_,λ_=>?_⟩
  ·simp[startC,Bb,Lu,-Ar];rfl
  simp[startC]
 rintro μ h' ⟨x,rs,v6,v7,v8,v9,rfl,rfl,tr,ro,sub⟩;have hrl:rs.length<=30:=by
  have:=sub.length_le;rw[aI,bC]at this
  lia
 simp;exact⟨rs,rfl,tr,ro,hrl,(znd.sublist (cN _ _)).sublist sub⟩
end BK74
namespace BK74
open PySem B L2 PyProof.Rows
variable {n:Nat}
noncomputable def lS(rs:List Rw)(i:Nat):MV:=.tup [.int (i:Int),Bb (At rs i)]
def Ii(rs:List Rw):Dz (rs.map Bb)=(List.range rs.length).map (lS rs):=by
 unfold Dz;apply dF;intro i;rw[aJ,aJ,List.getElem?_zipIdx,aJ];by_cases hi:i<rs.length
 ·rw[Bc hi,aU (by rw[b9];exact hi),cQ];simp[lS]
 rw[cP (by lia),cP (by rw[b9];lia)];rfl
def jO{k:Nat}(hk:k<rs.length):BA (rs.map Bb) (k:Int)=some (Bb (At rs k)):=by
 rw[Ar (bW _),aJ,fH,Bc hk];rfl
def Eh{rs:List Rw}{k:Nat}(hk:k<rs.length):BA (rs.map Bb) (k:Int)=some (.tup [.str (At rs k).n,.tup ((At rs k).o.map AF),.int (At rs k).ab,.str (At rs k).js,.int (At rs k).dp]):=jO hk
def HY(rs:List Rw)(k:Nat)(F:Nat->MV):(AY rs k).map F=(List.range rs.length).flatMap λi=>if Cr rs k i=true then [F i] else []:=by
 unfold AY BR
 induction List.range rs.length with
 |nil=>rfl
 |cons i is ih=>by_cases hi:Cr rs k i=true<;>simp[hi,ih]
def RV(t:Ah rs){k i:Nat}(hi:i∈AY rs k):(At rs i).js=Hq (At rs i).j:=by
 have:=(B9.mp hi).2;unfold Rw.js;rw[if_neg (by rw[this];lia)]
def Nz(r:CK ks rs)(k:Nat):(AY rs k).length<=6:=by rw[RU];exact r.t.few k
def Nm(r:CK ks rs){f k:Nat}(hk:k<rs.length)(hf:(At rs k).dp+f=6):Bd (AT rs f k):=r.t.bd r.l r.nd hk (by have:=(r.t.dp6 hk).1;lia)
def HN(r:CK ks rs){f k N:Nat}(hk:k<rs.length)(hf:(At rs k).dp+f=6)(ih:∀i∈AY rs k,∀h,Ph (N+9) 67 [.v (.lst (rs.map Bb)),.v (.int i)] h=.ok (.v (AT rs (f-1) i).mv) h):Ph (N+10) 67 [.v (.lst (rs.map Bb)),.v (.int k)] h=.ok (.v (AT rs f k).mv) h:=by
 refine Ag (d:=d67) rfl rfl ?_;have hen:Dz (rs.map Bb)=_:=Ii rs;have hm:=Co hk;have e1:(AT rs f k).ks.items=(AY rs k).map λc=>((At rs c).j,AT rs (f-1) c):=Sq r.t hf;have hl6:(AT rs f k).ks.items.length<=6:=by rw[e1,aI];exact Nz r k
 simp[d67,Aa,hen];have e0:(AT rs f k).ks.mv=[]++(List.range rs.length).flatMap λi=>if Cr rs k i=true then [JD ((At rs i).j,AT rs (f-1) i)] else []:=by
  rw[GT,e1,cJ,dC,←HY rs k (λi=>JD ((At rs i).j,AT rs (f-1) i))];rfl
 have hB:([]++(List.range rs.length).flatMap λi=>if Cr rs k i=true then [JD ((At rs i).j,AT rs (f-1) i)] else []).length<=6:=by
  rw[dC,←HY rs k (λi=>JD ((At rs i).j,AT rs (f-1) i)),aI];exact Nz r k
 refine Bo (CU (lS rs) (λi=>if Cr rs k i=true then [JD ((At rs i).j,AT rs (f-1) i)] else []) (λμ=>∃x3 x4,μ=[some (.v (.lst (rs.map Bb))),some (.v (.int k)),some (.r (hlen h)),x3,x4]) 6 ⟨_,_,rfl⟩ hB λi hi μ acc ⟨x3,x4,hμ⟩ hl=>?_) λμ ⟨x3,x4,hμ⟩=>?_
 ·subst hμ;refine⟨_,rfl,?_⟩;have hi:=dH.mp hi;by_cases hkd:Cr rs k i=true
  ·have hm:i∈AY rs k:=by unfold AY BR;exact bS.mpr ⟨dH.mpr hi,hkd⟩
   have hab:=(B9.mp hm).2;have hacc:acc.length<big:=by rw[if_pos hkd]at hl;simp at hl;unfold big;lia
   simp[Bb,Lu,-Ar,hab,RV r.t hm,hkd,hacc,JD,ih i hm]
  have hab:¬(At rs i).ab=(k:Int):=by unfold Cr at hkd;simpa using hkd
  simp[Bb,Lu,-Ar,hab,hkd]
 subst hμ;rw[←e0];have ea:=Eh hk;have mt:∀l,LX [.lst l]=some (.tup l):=λ_=>rfl;simp;rw[OA (n:=N) (d:=AT rs f k) (h1:=hnew h (.lst (AT rs f k).ks.mv)) (r.t.ok _ hm).1 (r.o _ hm).1 hl6 (Nm r hk hf) ?_]
 ·simp
 simp[-Ar,ea,Lu,mt,AT]
def U3(r:CK ks rs):∀f k n h,k<rs.length->(At rs k).dp+f=6->Ph (n+f+10) 67 [.v (.lst (rs.map Bb)),.v (.int k)] h=.ok (.v (AT rs f k).mv) h:=by
 intro f
 induction f with
 |zero=>
  intro k n h hk hf;refine HN r hk hf λi hi=>?_;obtain⟨c1,c2,c3,_⟩:=r.t.kid hi;have:=(r.t.dp6 c1).2
  lia
 |succ f ih=>
  intro k n h hk hf;refine HN (N:=n+f+1) r hk hf λi hi h=>?_;obtain⟨c1,c2,c3,_⟩:=r.t.kid hi;exact ih i n h c1 (by lia)
end BK74
namespace BK74
open PySem B L2 PyProof.Rows
noncomputable def B0(rs:List Rw):Nd:=AT rs 5 0
abbrev Rg:=Str×List Ky×Fin 4
noncomputable def SN(c:Fin 4)(rd:List (Fin 4×Str)):Fin 4:=(rd.map (·.1)).foldl EY c
noncomputable def gm(d:Nd)(c:Fin 4):List Rg:=(AC d).map λy=>(y.2.n,y.2.o,SN c y.1)
noncomputable def ly(d:Nd):List Rg:=(AC d).map λy=>(y.2.n,y.2.o,CF y.1)
def gj(d:Nd):ly d=gm d 3:=rfl
noncomputable def R6(rs:List Rw):Nat->Nat->Fin 4->List (Nat×Fin 4)
 |0,k,c=>[(k,c)]
 |f+1,k,c=>(k,c)::((AY rs k).map λi=>R6 rs f i (EY c (At rs i).j)).flatten
theorem Kg(rs:List Rw):∀f k c,gm (AT rs f k) c=(R6 rs f k c).map λp=>((At rs p.1).n,(At rs p.1).o,p.2)
 |0,k,c=>rfl
 |f+1,k,c=>by
  have h:∀is:List Nat,((is.map λi=>Eo ((At rs i).j,AT rs f i)).flatten).map (λy=>(y.2.n,y.2.o,SN c y.1))=((is.map λi=>R6 rs f i (EY c (At rs i).j)).flatten).map λp=>((At rs p.1).n,(At rs p.1).o,p.2):=by
   intro is
   induction is with
   |nil=>rfl
   |cons i is ih=>
    rw[aF,bR,bM,ih,aF,bR,bM,←Kg rs f i];congr 1;unfold Eo;rw[cJ];rfl
  show((At rs k).n,(At rs k).o,c)::(BM (PZ rs (fo rs f) (AY rs k))).map (λy=>(y.2.n,y.2.o,SN c y.1))=((At rs k).n,(At rs k).o,c)::_;rw[KM,h]
noncomputable def lY(rs:List Rw):Nat->Nat->Fin 4
 |0,_=>3
 |f+1,i=>if i=0 then 3 else EY (lY rs f (upI rs i)) (At rs i).j
noncomputable def cl(rs:List Rw)(i:Nat):Fin 4:=lY rs i i
section
variable {rs:List Rw}(t:Ah rs)
include t
theorem Ah.up_lt{i:Nat}(h0:0<i)(hi:i<rs.length):upI rs i<i/\i∈AY rs (upI rs i):=by
 obtain⟨_,a,ra,g2,g3,g4,g5⟩:=t.up i _ (Bc hi) h0;have:upI rs i=a:=by unfold upI;rw[g2];rfl
 rw[this];exact⟨g3,B9.mpr ⟨hi,g2⟩⟩
theorem SJ:∀f i,i<=f->i<rs.length->lY rs f i=lY rs i i:=by
 intro f
 induction f using Nat.strongRecOn with
 |ind f ih=>
  intro i hif hi;cases i with
  |zero=>cases f<;>rfl
  |succ i=>
   obtain⟨f,rfl⟩:∃g,f=g+1:=⟨f-1,by lia⟩;have hu:=(t.up_lt (by lia) hi).1;show(if i+1=0 then _ else _)=(if i+1=0 then _ else _);rw[if_neg (by lia),if_neg (by lia)];congr 1;by_cases h:f=i
   ·rw[h]
   rw[ih f (by lia) _ (by lia) (by lia)];by_cases h2:i<f+1
   ·rw[ih i (by lia) _ (by lia) (by lia)]
   lia
theorem FZ{k i:Nat}(hi:i∈AY rs k):cl rs i=EY (cl rs k) (At rs i).j:=by
 obtain⟨c1,c2,c3,c4,c5⟩:=t.kid hi;obtain⟨j,rfl⟩:∃j,i=j+1:=⟨i-1,by lia⟩;unfold cl;show(if j+1=0 then _ else _)=_;rw[if_neg (by lia),c5];congr 1;exact SJ t j k (by lia) (by lia)
theorem Nj:∀f k,k<rs.length->R6 rs f k (cl rs k)=(AA rs f k).map λi=>(i,cl rs i)
 |0,k,_=>rfl
 |f+1,k,hk=>by
  rw[R6,AA,aF,List.map_flatten,cJ];congr 2;apply cW;intro i hi;rw[Function.comp,←FZ t hi];exact Nj f i (t.kid hi).1
theorem Kf:x∈ly (B0 rs) ↔ ∃i,i<rs.length/\x=((At rs i).n,(At rs i).o,cl rs i):=by
 have e:ly (B0 rs)=(AA rs 5 0).map λi=>((At rs i).n,(At rs i).o,cl rs i):=by
  rw[gj];unfold B0;rw[Kg,show(3:Fin 4)=cl rs 0 from rfl,Nj t 5 0 t.pos,cJ];rfl
 rw[e,bA];exact⟨λ⟨i,hi,e⟩=>⟨i,t.ordI_lt t.pos hi,e.symm⟩,λ⟨i,hi,e⟩=>⟨i,t.all_in i hi,e.symm⟩⟩
end
variable {n:Nat}
def ji(j:Fin 4):Z0 .index (.lst [.str (Str.ofString "called"),.str (Str.ofString "beside"),.str (Str.ofString "joined"),.str (Str.ofString "changed")]) [.str (Hq j)]=some (.int j.val):=by
 have:j=0\/j=1\/j=2\/j=3:=by lia
 rcases this with rfl|rfl|rfl|rfl<;>rfl
def Rl(r:CK ks rs):∀m i n h,i<rs.length->(At rs i).dp=m+1->Ph (n+m+1) 68 [.v (.lst (rs.map Bb)),.v (.int i)] h=.ok (.v (.int (cl rs i).val)) h:=by
 intro m
 induction m with
 |zero=>
  intro i n h hi hd;have i0:i=0:=by
   rcases Nat.eq_zero_or_pos i with e|e
   ·exact e
   have:=(r.t.kid (r.t.up_lt e hi).2);have h2:=(r.t.dp6 (k:=upI rs i) (by lia)).1
   lia
  subst i0;refine Ag (d:=d68) rfl rfl ?_;have e1:=Eh hi;have e2:=(r.t.root _ (Bc hi)).1;simp only[Int.natCast_zero]at e1;simp[d68,Aa,e1,Lu,e2,-Ar];rfl
 |succ m ih=>
  intro i n h hi hd;have hp:0<i:=by
   rcases Nat.eq_zero_or_pos i with e|e
   ·subst e;have:=r.t.root1;lia
   exact e
  obtain⟨u1,u2⟩:=r.t.up_lt hp hi;obtain⟨c1,c2,c3,c4,c5⟩:=r.t.kid u2;have hab:=(B9.mp u2).2;have ea:=Eh hi;rw[hab]at ea;have nn:¬((upI rs i:Nat):Int)<0:=by lia
  have e68:=λh=>ih (upI rs i) n h (by lia) (by lia);have b1:Zz .index (.lst [.str (Str.ofString "called"),.str (Str.ofString "beside"),.str (Str.ofString "joined"),.str (Str.ofString "changed")])=true:=rfl;refine Ag (d:=d68) rfl rfl ?_;simp[d68,Aa,ea,Lu,nn,-Ar,RV r.t u2,ji,b1,show Ph (n+(m+1)) 68 _ h=_ from e68 h,FZ r.t u2,EY];generalize cl rs (upI rs i)=a;generalize (At rs i).j=b;split<;>split<;>simp only[Fin.lt_def] at* <;>lia
noncomputable def Wp(l:List Nat):MV:=.lst (l.map λ(i:Nat)=>.int (i:Int))
noncomputable def Hn(rs:List Rw)(f k i:Nat):List Nat:=k::((BR rs k i).map λc=>AA rs (f-1) c).flatten
def OK(rs:List Rw)(f k i:Nat):Hn rs f k (i+1)=Hn rs f k i++(if Cr rs k i=true then AA rs (f-1) i else []):=by
 unfold Hn;rw[K9];by_cases h:Cr rs k i=true<;>simp[h]
theorem KO{g:Nat->List Nat}{B:Nat}:∀{l:List Nat},(∀i∈l,(g i).length<=B)->((l.map g).flatten).length<=l.length*B
 |[],_=>by simp
 |a::l,h=>by
  rw[aF,bR,aM,bV];have h1:=h a aG;have h2:=KO (l:=l) (λi hi=>h i (aC _ hi));rw[Nat.succ_mul]
  lia
def Gy(t:Ah rs){f k:Nat}(hk:k<rs.length):(AA rs f k).length<=rs.length:=HQ (t.ordI_nodup f k) λi hi=>t.ordI_lt hk hi
def Gx(r:CK ks rs){f k N:Nat}(hk:k<rs.length)(hf:(At rs k).dp+f=6)(ih:∀i∈AY rs k,∀h,Ph N 69 [.v (.lst (rs.map Bb)),.v (.int i)] h=.ok (.v (Wp (AA rs (f-1) i))) h):Ph (N+1) 69 [.v (.lst (rs.map Bb)),.v (.int k)] h=.ok (.v (Wp (AA rs f k))) h:=by
 refine Ag (d:=d69) rfl rfl ?_;have hen:Dz (rs.map Bb)=_:=Ii rs;have hl:=r.l;have e1:AA rs f k=Hn rs f k rs.length:=by
  cases f with
  |zero=>
   have:AY rs k=[]:=by
    cases hc:AY rs k with
    |nil=>rfl
    |cons c l=>
     have hm:c∈AY rs k:=by rw[hc];exact aG
     obtain⟨c1,c2,c3,_⟩:=r.t.kid hm;have:=(r.t.dp6 c1).2
     lia
   unfold Hn;rw[show BR rs k rs.length=AY rs k from rfl,this];rfl
  |succ f=>rfl
 have e0:MV.lst [.int (k:Int)]=Wp (Hn rs f k 0):=rfl;simp[d69,Aa,hen];rw[e1,e0];refine Bo (Ed (xs:=List.range rs.length) (lS rs) (λi μ=>∃x3 x4,μ=[some (.v (.lst (rs.map Bb))),some (.v (.int k)),some (.v (Wp (Hn rs f k i))),x3,x4]) (i:=0) ⟨_,_,rfl⟩ λj i μ hj ⟨x3,x4,hμ⟩=>?_) λμ ⟨x3,x4,hμ⟩=>?_
 ·subst hμ;refine⟨_,rfl,?_⟩;obtain⟨hj2,e⟩:=a9.mp hj;rw[b9]at hj2;rw[cQ]at e;subst e;rw[cI,OK];by_cases hkd:Cr rs k j=true
  ·have hm:j∈AY rs k:=by unfold AY BR;exact bS.mpr ⟨dH.mpr hj2,hkd⟩
   have hab:=(B9.mp hm).2;have l1:(Hn rs f k j).length<=1000:=by
    unfold Hn;rw[bV];have a:=KO (g:=λc=>AA rs (f-1) c) (B:=30) (l:=BR rs k j) λi hi=>aV (Gy r.t (aW (dH.mp (bS.mp hi).1) (by lia))) hl;have b:(BR rs k j).length<=j:=aV (cE _ _) (by simp)
    lia
   have l2:(AA rs (f-1) j).length<=30:=aV (Gy r.t hj2) hl;have hb:(Hn rs f k j).length+(AA rs (f-1) j).length<=big:=by unfold big;lia
   simp[Bb,Lu,-Ar,hab,hkd,ih j hm,Wp,hb]
  have hab:¬(At rs j).ab=(k:Int):=by unfold Cr at hkd;simpa using hkd
  simp[Bb,Lu,-Ar,hab,hkd]
 subst hμ;rw[cI,b9];simp
def QS(r:CK ks rs):∀f k n h,k<rs.length->(At rs k).dp+f=6->Ph (n+f+1) 69 [.v (.lst (rs.map Bb)),.v (.int k)] h=.ok (.v (Wp (AA rs f k))) h:=by
 intro f
 induction f with
 |zero=>
  intro k n h hk hf;refine Gx r hk hf λi hi=>?_;obtain⟨c1,c2,c3,_⟩:=r.t.kid hi;have:=(r.t.dp6 c1).2
  lia
 |succ f ih=>
  intro k n h hk hf;refine Gx r hk hf λi hi h=>?_;obtain⟨c1,c2,c3,_⟩:=r.t.kid hi;exact ih i n h c1 (by lia)
end BK74
namespace BK74
open PySem B L2
variable {n:Nat}
def Jz(m:Int)(k:Nat):Prop:=Builtin.bitAnd (m / 2^k) 1=1
instance (m:Int)(k:Nat):Decidable (Jz m k):=by unfold Jz;exact inferInstance
noncomputable def lw(m:Int):MV:=if Jz m 0 then .int 0 else if Jz m 1 then .int 1 else if Jz m 2 then .int 2 else if Jz m 3 then .int 3 else if Jz m 4 then .int 4 else if Jz m 5 then .int 5 else .non
def r6:ET [.v (.int 6)]=some ⟨[.int 0,.int 1,.int 2,.int 3,.int 4,.int 5],none⟩:=Ka (by decide) (by decide)
def D8(m:Int):Ph (n+1) 70 [.v (.int m)] h=.ok (.v (lw m)) h:=by
 refine Ag (d:=d70) rfl rfl ?_;unfold lw Jz;simp[d70,Aa,r6,AQ,BK];by_cases g:Builtin.bitAnd m 1=1
 ·simp[g]
 simp[g,AQ,BK];clear g;by_cases g:Builtin.bitAnd (m / 2) 1=1
 ·simp[g]
 simp[g,AQ,BK];clear g;by_cases g:Builtin.bitAnd (m / 4) 1=1
 ·simp[g]
 simp[g,AQ,BK];clear g;by_cases g:Builtin.bitAnd (m / 8) 1=1
 ·simp[g]
 simp[g,AQ,BK];clear g;by_cases g:Builtin.bitAnd (m / 16) 1=1
 ·simp[g]
 simp[g,AQ,BK];clear g;by_cases g:Builtin.bitAnd (m / 32) 1=1
 ·simp[g]
 simp[g,BK]
def K0(m:Int):lw m=.non\/∃k,lw m=.int k:=by
 unfold lw
 repeat (first|exact .inl rfl|exact .inr ⟨_,rfl⟩|split)
def iX:∀(c:Fin 4) (a:Fin 32),BD (lw (Builtin.bitAnd (nd c.val:Int) (Builtin.bitXor 31 (a.val:Int))))=sub (nd c.val) a.val:=by decide +kernel
def cx:∀c:Fin 4,(2:Int)*2^c.val-1=(nd c.val:Int):=by decide +kernel
def uf:∀a b:Fin 32,decide (0<Builtin.bitAnd (a.val:Int) (Builtin.bitXor 31 (b.val:Int)))=!sub a.val b.val:=by decide +kernel
def sS:∀a b:Fin 64,decide (0<Builtin.bitAnd (a.val:Int) (Builtin.bitXor 63 (b.val:Int)))=!sub a.val b.val:=by decide +kernel
noncomputable def jb(l o:Li):MV:=
 if sub o.lets.val l.lets.val=false then .tup [.str "lets",lw (Builtin.bitAnd (o.lets.val:Int) (Builtin.bitXor 31 (l.lets.val:Int)))] else
 if sub l.sgs.val o.sgs.val=false then .tup [.str "string",lw (Builtin.bitAnd (l.sgs.val:Int) (Builtin.bitXor 63 (o.sgs.val:Int)))] else
 if sub l.bars.val o.bars.val=false then .tup [.str "bar",lw (Builtin.bitAnd (l.bars.val:Int) (Builtin.bitXor 63 (o.bars.val:Int)))] else
 if l.reach.val<o.reach.val then .tup [.str "reach",iv o.reach] else
 if (l.same&& !EF o l)=true then .tup [.str "same"] else .non
noncomputable def Nv(l:Li)(c:Nat)(o:Li):MV:=
 if sub (nd c) l.lets.val=false then .tup [.str "deed",lw (Builtin.bitAnd (nd c:Int) (Builtin.bitXor 31 (l.lets.val:Int)))] else
 if c<l.reach.val then .non else jb l o
def Y7(l:Li)(c:Nat)(o:Li):NT (Nv l c o):=by
 unfold Nv jb
 repeat (first|exact .inl rfl|exact .inr ⟨_,rfl⟩|split)
def UV(l:Li)(c:Nat)(o:Li):BD (Nv l c o)=DL l c o:=by
 unfold Nv jb DL ZY;cases sub (nd c) l.lets.val
 ·simp
 by_cases hc:c<l.reach.val
 ·have h2:¬l.reach.val<=c:=by lia
  simp[hc,h2]
 have h2:l.reach.val<=c:=by lia
 cases sub o.lets.val l.lets.val<;>cases sub l.sgs.val o.sgs.val<;>cases sub l.bars.val o.bars.val<;>simp[hc,h2]
 by_cases h:l.reach.val<o.reach.val
 ·have h2:¬o.reach.val<=l.reach.val:=by lia
  simp[h,h2]
 have h2:o.reach.val<=l.reach.val:=by lia
 cases hs:l.same<;>cases hl:EF o l<;>simp[h,h2]
end BK74
namespace BK74
open PySem B L2
variable {n:Nat}
def tJ:∀c:Fin 4,BZ 2 (c.val:Int)=true:=by decide
def nr{a b c:Str}:Qd (.v (.lst [.str a,.str b,.str c])) (.v (.lst [x,y,z]))=some ⟨[.tup [.str a,x],.tup [.str b,y],.tup [.str c,z]],none⟩:=rfl
def jP:BA [a,b] 0=some a/\BA [a,b] 1=some b:=⟨rfl,rfl⟩
def OB(l o:Li)(c:Fin 4):Ph (n+2) 71 [.v (BB l),.v (.int c.val),.v (BB o)] h=.ok (.v (Nv l c.val o)) h:=by
 refine Ag (d:=d71) rfl rfl ?_;have a1:=cx c;have a2:=iX c l.lets;have b1:=uf o.lets l.lets;have b2:=sS l.sgs o.sgs;have b3:=sS l.bars o.bars;have p2:=tJ c;simp[d71,Aa,BB,EK,D8,a1,p2,-Ar];unfold Nv jb EF;rw[←a2];rcases K0 (Builtin.bitAnd (nd c.val:Int) (Builtin.bitXor 31 (l.lets.val:Int))) with e|⟨k,e⟩
 ·rw[e];clear a1 a2 p2 e;by_cases hc:c.val<l.reach.val
  ·simp[hc,EK,-Ar]
  simp[hc,nr,AQ,BK,EK,-Ar];generalize Builtin.bitAnd (o.lets.val:Int) (Builtin.bitXor 31 (l.lets.val:Int))=m1 at b1 ⊢;generalize Builtin.bitAnd (l.sgs.val:Int) (Builtin.bitXor 63 (o.sgs.val:Int))=m2 at b2 ⊢;generalize Builtin.bitAnd (l.bars.val:Int) (Builtin.bitXor 63 (o.bars.val:Int))=m3 at b3 ⊢;generalize sub o.lets.val l.lets.val=s1 at b1 ⊢;generalize sub l.sgs.val o.sgs.val=s2 at b2 ⊢;generalize sub l.bars.val o.bars.val=s3 at b3 ⊢;rw[b1];cases s1 with
  |false=>simp[D8]
  |true=>
  simp[AQ,b2];cases s2 with
  |false=>simp[D8]
  |true=>
  simp[AQ,BK,b3];cases s3 with
  |false=>simp[D8]
  |true=>
  clear b1 b2 b3 hc;simp[BK,EK,-Ar];by_cases hr:l.reach.val<o.reach.val
  ·simp[hr,EK,-Ar]
  simp[hr,EK,jP,Li.key,ZV,-Ar];cases ho:o.same with
  |false=>cases hs:l.same<;>simp[EK,-Ar]
  |true=>
  simp[EK,jP,Li.key,ZV,-Ar];by_cases hw:o.w=l.w<;>by_cases hi:l.i.val<=o.i.val<;>cases hs:l.same<;>simp[hw,hi,EK,jP,Li.key,ZV,-Ar]
 rw[e];simp[BD]
end BK74
namespace BK74
open PySem B L2
variable {n:Nat}
theorem KR{α:Type}{p:α->Bool}{d:α}:∀{l:List α},(∃x∈l,p x=true)->∃r,l.filter p=(l.find? p).getD d::r
 |[],h=>by obtain⟨x,hx,_⟩:=h;cases hx
 |a::l,h=>by
  cases hp:p a
  ·rw[fE (by simp[hp]),List.find?_cons_of_neg (by simp[hp])];obtain⟨x,hx,px⟩:=h;rcases aR.mp hx with rfl|hx
   ·rw[hp]at px;cases px
   exact KR ⟨x,hx,px⟩
  rw[fF hp,List.find?_cons_of_pos hp];exact⟨_,rfl⟩
def Zv(ha:Bw a.1)(hb:Bw b.1):AV .eq (AF a) (AF b)=some (decide (a=b)):=by
 show PX (AF a) (AF b)=_;unfold PX;rw[if_neg (by show ¬false=true;decide),if_pos (by rw[Ey ha,Ey hb];rfl),LS]
def U5(ho:∀l∈ls,l.Ok)(hl:ls.length<=12)(hk:k∈ls.map Li.ky):Ph (n+1) 72 [.v (.lst (ls.map BB)),.v (AF k)] h=.ok (.v (BB (Cm ls k))) h:=by
 refine Ag (d:=d72) rfl rfl ?_;simp[d72,Aa,AH];rw[CY (h1:=h) ls BB BB (λl=>decide (l.ky=k)) ?_ (B3 (by lia)) ?_]
 ·obtain⟨l,h1,h2⟩:=bA.mp hk;obtain⟨r,e⟩:=KR (d:=rZ) (p:=λl:Li=>decide (l.ky=k)) ⟨l,h1,by simp[h2]⟩;rw[e];simp[Cm]
 ·simp
 intro l hl;refine⟨_,rfl,?_⟩;have e:AL .eq l.key (AF k)=some (decide (l.ky=k)):=by
  obtain⟨l',h1,h2⟩:=bA.mp hk;exact Zv (a:=l.ky) (ho l hl).w (h2▸(ho l' h1).w)
 simp[startC,BB,EK,e,-Ar]
end BK74
namespace BK74
open PySem B L2
variable {n:Nat}
def MU(x:Int)(m:Nat):sh (lw x) m=true:=by
 rcases K0 x with e|⟨k,e⟩<;>rw[e]<;>simp[sh]
def VR(l:Li)(c:Nat)(o:Li)(m:Nat):sh (Nv l c o) (m+1)=true:=by
 have k2:∀s:Str,PyData.strOk s=true->∀x:MV,sh x m=true->sh (.tup [.str s,x]) (m+1)=true:=λs hs x hx=>by
  show(sh (.str s) m&&(sh x m&&BN [] m))=true;rw[hx];simp[sh,BN,hs]
 unfold Nv jb;split
 ·exact k2 _ (by decide +kernel) _ (MU _ _)
 split
 ·simp[sh]
 split
 ·exact k2 _ (by decide +kernel) _ (MU _ _)
 split
 ·exact k2 _ (by decide +kernel) _ (MU _ _)
 split
 ·exact k2 _ (by decide +kernel) _ (MU _ _)
 split
 ·exact k2 _ (by decide +kernel) _ (by simp[sh])
 split
 ·show(sh (.str _) m&&BN [] m)=true;simp[sh,BN];decide +kernel
 simp[sh]
theorem NK{α:Type}{p:α->Bool}:∀{l:List α},(l.filter p).isEmpty=l.all λk=>!p k
 |[]=>rfl
 |a::l=>by
  cases hp:p a
  ·rw[fE (by simp[hp]),NK,gJ,hp];rfl
  rw[fF hp,gJ,hp];rfl
noncomputable def ja(ls:List Li)(rs:List Rw)(o:Li)(i:Nat):List MV:=(At rs i).o.map λk=>.tup [AF k,Nv (Cm ls k) (cl rs i).val o]
noncomputable def IV(ls:List Li)(rs:List Rw)(o:Li)(i:Nat):Bool:=!(At rs i).o.isEmpty&&(At rs i).o.all λk=>!DL (Cm ls k) (cl rs i).val o
noncomputable def RK(ls:List Li)(rs:List Rw)(o:Li)(i:Nat):MV:=.tup [.str (At rs i).n,.lst (ja ls rs o i)]
def HK(ho:∀l∈ls,l.Ok)(hl:ls.length<=12)(r:CK (ls.map Li.ky) rs)(o:Li):Ph (n+8) 73 [.v (.lst (ls.map BB)),.v (.lst (rs.map Bb)),.v (BB o)] h=.ok (.v (.lst (((AA rs 5 0).filter (IV ls rs o)).map (RK ls rs o)))) h:=by
 refine Ag (d:=d73) rfl rfl ?_;have h0:=r.t.pos;have hd0:(At rs 0).dp=1:=(r.t.root _ (Bc h0)).2;have eo:∀h,Ph (n+7) 69 [.v (.lst (rs.map Bb)),.v (.int 0)] h=.ok (.v (Wp (AA rs 5 0))) h:=λh=>QS r 5 0 (n+1) h h0 (by rw[hd0]);have hs:(AA rs 5 0).length<=30:=aV (Gy r.t h0) r.l;have hfl:((AA rs 5 0).filter (IV ls rs o)).map (RK ls rs o)=[]++(AA rs 5 0).flatMap λi=>if IV ls rs o i=true then [RK ls rs o i] else []:=by
  rw[dC]
  induction AA rs 5 0 with
  |nil=>rfl
  |cons y ys ih=>by_cases hy:IV ls rs o y=true<;>simp[hy,ih]
 have hB:([]++(AA rs 5 0).flatMap λi=>if IV ls rs o i=true then [RK ls rs o i] else []).length<=30:=by
  rw[←hfl,aI];exact aV (cE _ _) hs
 simp[d73,Aa,eo,Wp];rw[hfl];refine Bo (CU (λi:Nat=>MV.int (i:Int)) (λi=>if IV ls rs o i=true then [RK ls rs o i] else []) (λμ=>∃x4 x5 x6,μ=[some (.v (.lst (ls.map BB))),some (.v (.lst (rs.map Bb))),some (.v (BB o)),some (.r (hlen h)),x4,x5,x6]) 30 ⟨_,_,_,rfl⟩ hB λi hi μ acc ⟨x4,x5,x6,hμ⟩ hA=>?_) λμ ⟨x4,x5,x6,hμ⟩=>?_
 ·subst hμ;refine⟨_,rfl,?_⟩;have hi2:=r.t.ordI_lt h0 hi;have ec:Ph (n+7) 68 [.v (.lst (rs.map Bb)),.v (.int i)] (hnew h (.lst acc))=.ok (.v (.int (cl rs i).val)) (hnew h (.lst acc)):=by
   obtain⟨d1,d2⟩:=r.t.dp6 hi2;have e:=Rl r ((At rs i).dp-1) i (n+7-(At rs i).dp) (hnew h (.lst acc)) hi2 (by lia);rw[show n+7-(At rs i).dp+((At rs i).dp-1)+1=n+7 by lia]at e;exact e
  obtain⟨go,gk⟩:=r.o _ (Co hi2);have g2:=go.l2;have hne:AL .ne (.lst (ja ls rs o i)) (.lst [])=some (!(At rs i).o.isEmpty):=by
   refine(Fg (BV λk hk=>?_)).2.trans ?_
   ·show(sh (AF k) 58&&(sh (Nv _ _ _) 58&&BN [] 58))=true;rw[Ey (go.ok k hk),VR];simp[BN]
   rw[fL]
  have heq:AL .eq (.lst (((At rs i).o.filter λk=>DL (Cm ls k) (cl rs i).val o).map AF)) (.lst [])=some ((At rs i).o.all λk=>!DL (Cm ls k) (cl rs i).val o):=by
   refine(Fg (BV λk hk=>Ey (go.ok k (bS.mp hk).1) 58)).1.trans ?_;rw[fL,NK]
  simp[AH,ec];rw[AI (h1:=hnew h (.lst acc)) (At rs i).o AF (λk=>.tup [AF k,Nv (Cm ls k) (cl rs i).val o]) ?_ ?_ (B3 (by lia)) ?_]
  ·rw[show(At rs i).o.map (λk=>MV.tup [AF k,Nv (Cm ls k) (cl rs i).val o])=ja ls rs o i from rfl];cases hO:(At rs i).o.isEmpty with
   |true=>
    rw[hO]at hne;have hb:IV ls rs o i=false:=by unfold IV;rw[hO];rfl
    simp[AH,hne,hb]
   |false=>
    rw[hO]at hne;have hb:IV ls rs o i=(At rs i).o.all λk=>!DL (Cm ls k) (cl rs i).val o:=by unfold IV;rw[hO];rfl
    rw[←hb]at heq;simp[AH,hne];rw[CY (h1:=hnew h (.lst acc)) (At rs i).o (λk=>.tup [AF k,Nv (Cm ls k) (cl rs i).val o]) AF (λk=>DL (Cm ls k) (cl rs i).val o) ?_ (B3 (by lia)) ?_]
    ·cases hs:IV ls rs o i
     ·rw[hs]at heq;simp[heq]
     rw[hs]at heq;have hl2:acc.length<big:=by simp[hs]at hA;unfold big;lia
     simp[heq,hl2,Eh hi2,Lu,RK,-Ar]
    ·simp[ja]
    intro k hk;have e1:=(Y7 (Cm ls k) (cl rs i).val o).is.1;rw[UV]at e1;refine⟨_,rfl,?_,λ_=>?_⟩
    ·simp[startC,e1]
    simp[startC]
  ·intro _ _;rfl
  ·simp[Eh hi2,Lu,-Ar]
  intro k hk;refine⟨_,rfl,?_⟩;simp[startC,U5 ho hl (gk k hk),OB]
 subst hμ;simp
end BK74
namespace BK74
open PySem B L2
variable {n:Nat}
abbrev Pc:=List (Str×Nat)
noncomputable def B6(p:Pc):MV:=.dic false (p.map λx=>.str x.1) (p.map λx=>.int (x.2:Nat))
noncomputable def Hh(p:Pc)(z:Str):Nat:=((p.find? λx=>decide (x.1=z)).map (·.2)).getD 0
def PJ(p:Pc)(z:Str):Prop:=z∈p.map (·.1)
def MW(a b:Str):look.seqK (.str a) (.str b)=decide (a=b):=by
 simp[look.seqK,Bu]
theorem K4:∀{p:Pc}{z:Str},PJ p z->look (p.map λx=>.str x.1) (p.map λx=>.int (x.2:Nat)) (.str z)=some (.int (Hh p z))
 |[],z,h=>by simp[PJ]at h
 |x::p,z,h=>by
  rw[aF,aF,look,MW];unfold Hh;rw[List.find?_cons];by_cases e:x.1=z
  ·simp[e]
  have h2:PJ p z:=by
   rcases aR.mp h with h|h
   ·exact absurd h.symm e
   exact h
  rw[if_neg (by simp[e]),K4 h2];simp[e,Hh]
def NE{z:Str}(h:PJ p z):DK false (p.map λx=>.str x.1) (p.map λx=>.int (x.2:Nat)) (.str z)=some (some (.int (Hh p z))):=by
 unfold DK;rw[if_pos (show FN false (.str z)=true from rfl),K4 h]
def Fb{z:Str}(h:PJ p z):FW (B6 p) (.str z)=some (.int (Hh p z)):=by
 unfold B6;rw[oO,NE h];rfl
def Yx{z:Str}(h:PJ p z):AV .notin (.str z) (B6 p)=some false:=by
 unfold B6;rw[Zw,NE h];rfl
noncomputable def sL(S:List Str):MV:=.lst (S.map .str)
def Mn{z:Str}:AV .in_ (.str z) (sL S)=some (decide (z∈S)):=by
 have:=Jn (λx:Str=>x) S z;rw[List.map_id']at this;exact this
noncomputable def F6(S:List Str)(p:Pc):Fo->Nat
 |.nil=>0
 |.cons j n o ks r=>(if n∈S then Hh p n else min (Hh p n) (F6 S p ks))+F6 S p r
noncomputable def ZS(S:List Str)(p:Pc)(d:Nd):Nat:=if d.n∈S then Hh p d.n else min (Hh p d.n) (F6 S p d.ks)
theorem HS(S:List Str)(p:Pc):∀f:Fo,F6 S p f=(f.items.map λx=>ZS S p x.2).sum
 |.nil=>rfl
 |.cons j n o ks r=>by rw[F6,HS S p r];rfl
theorem Gh{α:Type}(f:α->Nat):∀l:List α,(l.map λx=>(f x:Int)).sum=((l.map f).sum:Nat)
 |[]=>rfl
 |a::l=>by simp[Gh f l]
def He(p:Pc)(f:Fo):Prop:=∀y∈BM f,PJ p y.2.n
theorem DG:∀{f:Fo},He p f->∀{x:Fin 4×Nd},x∈f.items->PJ p x.2.n/\He p x.2.ks
 |.nil,_,x,hx=>by cases hx
 |.cons j n o ks r,hf,x,hx=>by
  rcases aR.mp hx with rfl|hx
  ·refine⟨hf ([(j,n)],⟨n,o,ks⟩) (dA _ ?_),λy hy=>hf (ZN (j,⟨n,o,ks⟩) y) (dA _ ?_)⟩
   ·exact bA.mpr ⟨([],⟨n,o,ks⟩),aG,rfl⟩
   exact bA.mpr ⟨y,aC _ hy,rfl⟩
  exact DG (λy hy=>hf y (bD _ hy)) hx
theorem GK{α:Type}(f:α->Nat):∀l:List α,GL (l.map λx=>.int (f x:Nat))=some (l.map λx=>(f x:Int))
 |[]=>rfl
 |a::l=>by rw[aF,GL,GK f l];rfl
theorem Ib:∀f:Fo,f.items.length<=f.size
 |.nil=>aH _
 |.cons j n o ks r=>by
  have:=Ib r;rw[Fo.size];show r.items.length+1<=_
  lia
theorem Ng(S:List Str)(p:Pc):∀n:Nat,(∀{h:MH}(d:Nd),2*d.ks.ht+1<n->d.ks.size<=1000->PJ p d.n->He p d.ks->Ph n 44 [.v d.mv,.v (sL S),.v (B6 p)] h=.ok (.v (.int (ZS S p d))) h)/\(∀{h:MH}(d:Nd),2*d.ks.ht<n->d.ks.size<=1000->He p d.ks->Ph n 45 [.v d.mv,.v (sL S),.v (B6 p)] h=.ok (.v (.int (F6 S p d.ks))) h)
 |0=>⟨λd h=>by lia,λd h=>by lia⟩
 |n+1=>by
  obtain⟨i1,i2⟩:=Ng S p n;refine⟨λ{h} d hn hs hp hf=>?_,λ{h} d hn hs hf=>?_⟩
  ·refine Ag (d:=d44) rfl rfl ?_;unfold ZS;by_cases e:d.n∈S
   ·simp[d44,Aa,Mn,e,Fb hp]
   simp[d44,Aa,Mn,e,Fb hp,i2 d (by lia) hs hf];split<;>lia
  refine Ag (d:=d45) rfl rfl ?_;simp[d45,Aa,AH];have hl:d.ks.items.length<=1000:=aV (Ib d.ks) hs;rw[AI (h1:=h) d.ks.items JD (λx=>.int (ZS S p x.2:Nat)) ?_ ?_ (B3 hl) ?_]
  ·simp[LY,GK,Gh,HS]
  ·exact λ_ _=>rfl
  ·simp[GT]
  intro x hx;obtain⟨a1,a2⟩:=Dx hx;obtain⟨b1,b2⟩:=DG hf hx;exact⟨_,rfl,by simp[startC,i1 x.2 (by lia) (by lia) b1 b2]⟩
end BK74
namespace BK74
open PySem B L2
variable {n:Nat}
noncomputable def US(S:List Str)(p:Pc)(z:Str)(ks:Fo)(l:List Str):List Str:=if (decide (z∈S)||decide (Hh p z<F6 S p ks))=true then [z] else l
noncomputable def UT(S:List Str)(p:Pc):Fo->List Str
 |.nil=>[]
 |.cons j n o ks r=>US S p n ks (UT S p ks)++UT S p r
noncomputable def ZT(S:List Str)(p:Pc)(d:Nd):List Str:=US S p d.n d.ks (UT S p d.ks)
theorem EX(S:List Str)(p:Pc):∀f:Fo,UT S p f=f.items.flatMap λx=>ZT S p x.2
 |.nil=>rfl
 |.cons j n o ks r=>by rw[UT,EX S p r];rfl
theorem IW(S:List Str)(p:Pc):∀f:Fo,(UT S p f).length<=f.size
 |.nil=>aH _
 |.cons j n o ks r=>by
  have a:=IW S p ks;have b:=IW S p r;rw[UT,aM,Fo.size];unfold US;split
  ·simp;lia
  lia
def KN{α:Type}(f:α->List Str)(l:List α):(l.flatMap f).map MV.str=l.flatMap λx=>(f x).map MV.str:=List.map_flatMap
theorem VZ(S:List Str)(p:Pc):∀n:Nat,(∀{h:MH}(d:Nd),2*d.ks.ht+1<n->d.ks.size<=1000->PJ p d.n->He p d.ks->Ph n 46 [.v d.mv,.v (sL S),.v (B6 p)] h=.ok (.v (.lst ((ZT S p d).map .str))) h)/\(∀{h:MH}(d:Nd),2*d.ks.ht<n->d.ks.size<=1000->He p d.ks->Ph n 47 [.v d.mv,.v (sL S),.v (B6 p)] h=.ok (.v (.lst ((UT S p d.ks).map .str))) h)
 |0=>⟨λd h=>by lia,λd h=>by lia⟩
 |n+1=>by
  obtain⟨i1,i2⟩:=VZ S p n;refine⟨λ{h} d hn hs hp hf=>?_,λ{h} d hn hs hf=>?_⟩
  ·refine Ag (d:=d46) rfl rfl ?_;have e45:=λh=>(Ng S p n).2 (h:=h) d (by lia) hs hf;unfold ZT US;by_cases e:d.n∈S
   ·simp[d46,Aa,Mn,e]
   by_cases e2:Hh p d.n<F6 S p d.ks
   ·have e3:((Hh p d.n:Nat):Int)<(F6 S p d.ks:Nat):=by lia
    simp[d46,Aa,Mn,e,e2,Fb hp,e45]
   have e3:¬((Hh p d.n:Nat):Int)<(F6 S p d.ks:Nat):=by lia
   simp[d46,Aa,Mn,e,e2,Fb hp,e45,i2 d (by lia) hs hf]
  refine Ag (d:=d47) rfl rfl ?_;have hb:=IW S p d.ks;have hB:([]++d.ks.items.flatMap λ(x:Fin 4×Nd)=>(ZT S p x.2).map MV.str).length<=1000:=by
   rw[←KN,←EX,dC,aI];lia
  simp[d47,Aa];rw[GT,EX,KN,←dC (d.ks.items.flatMap _)];refine Bo (CU JD (λx=>(ZT S p x.2).map MV.str) (λμ=>∃x4 x5,μ=[some (.v d.mv),some (.v (sL S)),some (.v (B6 p)),some (.r (hlen h)),x4,x5]) 1000 ⟨_,_,rfl⟩ hB λx hx μ acc ⟨x4,x5,hμ⟩ hl=>?_) λμ ⟨x4,x5,hμ⟩=>?_
  ·subst hμ;obtain⟨a1,a2⟩:=Dx hx;obtain⟨b1,b2⟩:=DG hf hx;have hl2:acc.length+(ZT S p x.2).length<=big:=by rw[aM,aI]at hl;unfold big;lia
   refine⟨_,rfl,?_⟩;simp[i1 x.2 (by lia) (by lia) b1 b2,hl2]
  subst hμ;simp
def KY:(Ee ks vs k v).2.length<=vs.length+1:=by
 unfold Ee;split
 ·simp;lia
 simp
noncomputable def EO(l:List (Fin 4×Nd)):Nat:=(l.map λx=>x.2.ks.size+1).sum
theorem DU:∀f:Fo,f.size=EO f.items
 |.nil=>rfl
 |.cons j n o ks r=>by rw[Fo.size,DU r];show _=(ks.size+1)+EO r.items;lia
def Oo{l:List (Fin 4×Nd)}{j:Nat}{x:Fin 4×Nd}(hx:l[j]?=some x):EO (l.take (j+1))=EO (l.take j)+(x.2.ks.size+1):=by
 rw[BX hx];simp[EO]
def TC(l:List (Fin 4×Nd))(j:Nat):EO (l.take j)<=EO l:=by
 have:EO (l.take j++l.drop j)=EO (l.take j)+EO (l.drop j):=by unfold EO;rw[bM,iC]
 rw[fO]at this
 lia
def ur(h:MH)(k:Nat)(L:Nat)(m:MV)(h':MH):Prop:=m=.non/\∃ks vs,h'=AD h k (.dic false ks vs)/\vs.length<=L
def ut(S:List Str)(p:Pc)(t:Int)(d:Nd)(k:Nat)(h:MH)(L:Nat)(μ:En)(h':MH):Prop:=E6 λ(l:Int) x6 x7 x8 ks' vs'=>A3 (μ=[some (.v d.mv),some (.v (.int t)),some (.v (sL S)),some (.v (B6 p)),some (.r k),some (.v (.int l)),x6,x7,x8]) (h'=AD h k (.dic false ks' vs')) (vs'.length<=L)
theorem Kl(S:List Str)(p:Pc):∀(n:Nat) {h:MH}(k:Nat) (ks vs:List MV) (t:Int) (d:Nd),2*d.ks.ht+2<n->vs.length+d.ks.size<=1000->He p d.ks->Ec h k=some (.dic false ks vs)->HA (Ph n 48 [.v d.mv,.v (.int t),.v (sL S),.v (B6 p),.r k] h) (ur h k (vs.length+d.ks.size))
 |0,_,_,_,_,_,d,hn,_,_,_=>by lia
 |n+1,h,k,ks,vs,t,d,hn,hs,hf,hk=>by
  refine EC (d:=d48) rfl rfl ?_;have kl:=GO hk;simp[d48,Aa];rw[GT];refine CC (CD (xs:=d.ks.items) JD (λj=>ut S p t d k h (vs.length+EO (d.ks.items.take j))) ⟨t,none,none,none,ks,vs,rfl,(Pj hk).symm,by simp[EO]⟩ λj x μ h' hx ⟨l,x6,x7,x8,ks',vs',hμ,hh,hl⟩=>?_) λμ h' ⟨l,x6,x7,x8,ks',vs',hμ,hh,hl⟩=>?_
  ·subst hμ hh;have hxm:=aQ hx;obtain⟨a1,a2⟩:=Dx hxm;obtain⟨b1,b2⟩:=DG hf hxm;have wt:=Oo hx;have hz:=DU d.ks;have hle:=TC d.ks.items (j+1);refine⟨_,rfl,?_⟩;have e44:=λh=>(Ng S p n).1 (h:=h) x.2 (by lia) (by lia) b1 b2;have hg:Ec (AD h k (.dic false ks' vs')) k=some (.dic false ks' vs'):=Jp kl;by_cases e:x.2.n∈S
   ·have hb:vs'.length<big:=by unfold big;lia
    have dk:∀z:Str,FN false (.str z)=true:=λ_=>rfl;simp[e44,Mn,e,hg,hb,dk];exact⟨_,_,_,_,_,_,rfl,rfl,aV KY (by lia)⟩
   obtain⟨m,h',em,rfl,ks2,vs2,rfl,hl2⟩:=Kl S p n (h:=AD h k (.dic false ks' vs')) k ks' vs' (if ((ZS S p x.2:Nat):Int)<l then(ZS S p x.2:Nat) else l) x.2 (by lia) (by lia) b2 hg;simp[e44,Mn,e,em];exact⟨_,_,_,_,_,_,rfl,rfl,by lia⟩
  subst hμ hh;have hz:=DU d.ks;simp;refine⟨rfl,ks',vs',by simp[kl],?_⟩;rw[bJ]at hl
  lia
end BK74
namespace BK74
open PySem B L2
variable {n:Nat}
def uq(S:List Str)(p:Pc)(t:Int)(d:Nd)(h:MH)(L:Nat)(μ:En)(h':MH):Prop:=E3 λx5 ks vs=>A3 (μ=[some (.v d.mv),some (.v (.int t)),some (.v (sL S)),some (.v (B6 p)),some (.r (hlen h)),x5]) (h'=hnew h (.dic false ks vs)) (vs.length<=L)
def Zj(z:Str):FN false (.str z)=true:=rfl
def O8(S:List Str)(p:Pc){t:Int}{d:Nd}(hn:2*d.ks.ht+2<n)(hs:S.length+d.ks.size<=1000)(hf:He p d.ks):Df (Ph (n+1) 61 [.v d.mv,.v (.int t),.v (sL S),.v (B6 p)] h) h (λ_=>True):=by
 refine Ca (d:=d61) rfl rfl ?_;simp[d61,Aa];refine BI (CD (xs:=S) MV.str (λj=>uq S p t d h j) ⟨none,[],[],rfl,rfl,aH _⟩ λj z μ h' hz ⟨x5,ks,vs,hμ,hh,hl⟩=>?_) λμ h' ⟨x5,ks,vs,hμ,hh,hl⟩=>?_
 ·subst hμ hh;have hj:=(a9.mp hz).1;have hb:vs.length<big:=by unfold big;lia
  refine⟨_,rfl,?_⟩;simp[Zj,hb];exact⟨_,_,_,rfl,rfl,aV KY (by lia)⟩
 subst hμ hh;obtain⟨m,h',em,rfl,ks2,vs2,rfl,hl2⟩:=Kl S p n (h:=hnew h (.dic false ks vs)) (hlen h) ks vs t d (by lia) (by lia) hf Bn;simp[em]
def QQ{k:Nat}(hk:k<=1000000):Ph (n+2) 22 [.v (.int (k:Nat))] h=.ok (.v (.bl true)) h:=by
 refine Ag (d:=d22) rfl rfl ?_;have h1:((k:Nat):Int)<=1000000:=by lia
 simp[d22,Aa,Do,h1]
def pM{α:Type}(f:α->MV)(a:α)(l:List α):C1 ((a::l).map f) (some 1) none=l.map f:=by
 unfold C1;have e:HT.sIx ((a::l).map f).length 0 (some 1)=1:=by
  unfold HT.sIx;simp
 rw[e];have e2:HT.sIx ((a::l).map f).length ((a::l).map f).length none=((a::l).map f).length:=rfl;rw[e2];simp;exact eL (by simp)
def Hm(b:Bd d)(hf:He p d.ks)(hp:∀y∈BM d.ks,Hh p y.2.n<=1000000):Ph (n+8) 33 [.v d.mv,.v (B6 p)] h=.ok (.v .non) h:=by
 refine Ag (d:=d33) rfl rfl ?_;have i1:OX T.gt.cs [B6 p,.ty .dct]=some (.bl true):=rfl;have e1:EW (.lst ((AC d).map λy=>.str y.2.n)) (some 1) none=some (.lst ((BM d.ks).map λy=>.str y.2.n)):=bQ (λl=>some (MV.lst l)) (pM _ _ _);simp[d33,Aa,i1,QT b,e1];refine Bo (Ed (λy:Rd=>.str y.2.n) (λ_ μ=>∃x2,μ=[some (.v d.mv),some (.v (B6 p)),x2]) (i:=0) ⟨_,rfl⟩ λj y μ hy ⟨x2,hμ⟩=>?_) λμ ⟨x2,hμ⟩=>?_
 ·subst hμ;have hy:=aQ hy;refine⟨_,rfl,?_⟩;simp[Yx (hf y hy),Fb (hf y hy),QQ (hp y hy)]
 subst hμ;simp
noncomputable def SK(y:Rd):Fin 4:=if y.1=[] then 3 else 0
theorem Ge:∀{f:Fo}{y:Rd},y∈BM f->y.1≠[]
 |.nil,y,h=>by cases h
 |.cons j n o ks r,y,h=>by
  rcases bP.mp h with h|h
  ·obtain⟨z,hz,rfl⟩:=bA.mp h;exact List.cons_ne_nil _ _
  exact Ge h
def JN(b:Bd d){i:Nat}(hy:(AC d)[i]?=some y):(y.2.n=d.n) ↔ y.1=[]:=by
 have hm:=aQ hy;rcases aR.mp hm with rfl|hm
 ·exact⟨λ_=>rfl,λ_=>rfl⟩
 refine⟨λe=>?_,λe=>absurd e (Ge hm)⟩;have nd:=b.nd;exact absurd (bA.mpr ⟨y,hm,e⟩) (bT.mp nd).1
def Kn(o:b.Ok)(bd:Bd d)(kn:Hd b d)(hk:k∈b.ks){i:Nat}(hy:(AC d)[i]?=some y):Ph (n+10) 41 [.v b.mv,.v d.mv,.v (.str y.2.n),.v (AF k)] h=.ok (.v (.lst (OJ b y.2.o (SK y).val (b.lic k)))) h:=by
 refine Ag (d:=d41) rfl rfl ?_;have hk2:=kn y (aQ hy);have ht:=JN bd hy;unfold SK;by_cases e:y.1=[]
 ·have e1:=ht.mpr e;have e2:CF y.1=3:=by rw[e];rfl
  have pf:∀h,Ph (n+9) 39 [.v b.mv,.v y.2.mv,.v (.int (((3:Fin 4).val:Nat):Int)),.v (b.lic k).mv] h=.ok (.v (.lst (OJ b y.2.o (3:Fin 4).val (b.lic k)))) h:=λh=>DY (n:=n+3) o hk2.1 hk2.2;have ec:=λh=>LL (n:=n) (h:=h) bd hy;rw[e2]at ec;have ea:=λh=>Wb (n:=n+1) (h:=h) bd hy;rw[e1]at ec ea ⊢;simp[d41,Aa,ec,ea,EU o hk,e,pf]
 have e1:¬y.2.n=d.n:=λz=>e (ht.mp z);have pf:∀h,Ph (n+9) 39 [.v b.mv,.v y.2.mv,.v (.int 0),.v (b.lic k).mv] h=.ok (.v (.lst (OJ b y.2.o 0 (b.lic k)))) h:=λh=>DY (n:=n+3) (c:=0) o hk2.1 hk2.2;simp[d41,Aa,e1,Wb bd hy,EU o hk,e,pf]
noncomputable def Hg(b:Bk)(d:Nd)(l:Li):List Str:=(AN b d l).map λy=>y.2.n
noncomputable def CN(b:Bk)(l:Li)(y:Rd):Bool:=Tk b y.2.o (SK y).val l
inductive ux(b:Bk)(d:Nd)(l:Li)(p:Pc)(m:MV):Prop
 |told (e:AN b d l=[]) (q:m=.tup [.str "told"])
 |never (y:Rd) (hy:y∈AN b d l) (e:CN b l y=true) (z w:MV) (q:m=.tup [.str "never",z,w])
 |loose (e:AN b d l≠[]) (f:∀y∈AN b d l,CN b l y=false) (z w:MV) (q:m=.tup [.str "loose",.int (F6 (Hg b d l) p d.ks:Nat),z,w])
def Ko(o:b.Ok)(bd:Bd d)(kn:Hd b d)(hk:k∈b.ks)(hf:He p d.ks)(hp:∀y∈BM d.ks,Hh p y.2.n<=1000000):Df (Ph (n+20) 65 [.v b.mv,.v d.mv,.v (AF k),.v (B6 p)] h) h (ux b d (b.lic k) p):=by
 refine Ca (d:=d65) rfl rfl ?_;have hl30:(AN b d (b.lic k)).length<=30:=aV (cE _ _) (aV (cE _ _) bd.len);have est:∀h,Ph (n+19) 43 [.v b.mv,.v d.mv,.v (AF k)] h=.ok (.v (.lst ((AN b d (b.lic k)).map (TV b (b.lic k))))) h:=λh=>QP (n:=n+10) o bd kn hk;have enp:∀h,Ph (n+19) 33 [.v d.mv,.v (B6 p)] h=.ok (.v .non) h:=λh=>Hm (n:=n+11) bd hf hp;simp[d65,Aa,AH];rw[AI (h1:=h) (AN b d (b.lic k)) (TV b (b.lic k)) (λy=>.str y.2.n) ?_ ?_ (B3 (by lia)) ?_]
 ·have eS:(AN b d (b.lic k)).map (λy=>MV.str y.2.n)=(Hg b d (b.lic k)).map .str:=by unfold Hg;rw[cJ];rfl
  rw[eS];have inw:∀y∈AN b d (b.lic k),∃i,(AC d)[i]?=some y:=λy hy=>dS.mp (bS.mp (bS.mp hy).1).1;have e41:∀y∈AN b d (b.lic k),∀h,Ph (n+19) 41 [.v b.mv,.v d.mv,.v (.str y.2.n),.v (AF k)] h=.ok (.v (.lst (OJ b y.2.o (SK y).val (b.lic k)))) h:=λy hy h=>by
   obtain⟨i,hi⟩:=inw y hy;exact Kn (n:=n+9) o bd kn hk hi
  have e40:∀y∈AN b d (b.lic k),∀h,Ph (n+19) 40 [.v (.lst (OJ b y.2.o (SK y).val (b.lic k)))] h=.ok (.v (.bl (CN b (b.lic k) y))) h:=λy hy h=>by
   obtain⟨i,hi⟩:=inw y hy;exact IL (n:=n+18) (kn y (aQ hi)).1
  have bh:=bd.h;have bz:=bd.z;have e45:∀h,Ph (n+19) 45 [.v d.mv,.v (sL (Hg b d (b.lic k))),.v (B6 p)] h=.ok (.v (.int (F6 (Hg b d (b.lic k)) p d.ks:Nat))) h:=λh=>(Ng _ p (n+19)).2 d (by lia) (by lia) hf;have e47:∀h,Ph (n+19) 47 [.v d.mv,.v (sL (Hg b d (b.lic k))),.v (B6 p)] h=.ok (.v (.lst ((UT (Hg b d (b.lic k)) p d.ks).map .str))) h:=λh=>(VZ _ p (n+19)).2 d (by lia) (by lia) hf;have hsl:(Hg b d (b.lic k)).length<=30:=by unfold Hg;rw[aI];exact hl30
  simp[enp];cases hE:(Hg b d (b.lic k)).isEmpty with
  |true=>
   simp;refine .told ?_ rfl;have:Hg b d (b.lic k)=[]:=eG.mp hE;exact List.map_eq_nil_iff.mp this
  |false=>
   have hne:AN b d (b.lic k)≠[]:=λe=>by unfold Hg at hE;rw[e]at hE;cases hE
   simp;rw[←eS];cases hF:(AN b d (b.lic k)).findIdx? (CN b (b.lic k)) with
   |none=>
    have hno:=List.findIdx?_eq_none_iff.mp hF;refine BI (CD (xs:=AN b d (b.lic k)) (λy=>MV.str y.2.n) (λ_ μ h'=>h'=h/\∃x5 x6,μ=[some (.v b.mv),some (.v d.mv),some (.v (AF k)),some (.v (B6 p)),some (.v (.lst ((AN b d (b.lic k)).map λy=>MV.str y.2.n))),x5,x6,none,none]) ⟨rfl,_,_,rfl⟩ λj y μ h' hy ⟨hh,x5,x6,hμ⟩=>?_) λμ h' ⟨hh,x5,x6,hμ⟩=>?_
    ·subst hμ hh;have hm:=aQ hy;refine⟨_,rfl,?_⟩;simp[e41 y hm,e40 y hm,hno y hm]
    subst hμ hh;obtain⟨m,em,_⟩:=O8 (n:=n+18) (h:=h') (Hg b d (b.lic k)) p (t:=(F6 (Hg b d (b.lic k)) p d.ks:Nat)) (d:=d) (by lia) (by lia) hf;rw[eS];simp[show MV.lst ((Hg b d (b.lic k)).map .str)=sL (Hg b d (b.lic k)) from rfl,e45,e47,show Ph (n+19) 61 _ _=_ from em];exact .loose hne hno _ _ rfl
   |some j=>
    obtain⟨hj,hp1,hp2⟩:=List.findIdx?_eq_some_iff_getElem.mp hF;have hm:=hZ hj;generalize hy:(AN b d (b.lic k))[j]=y at hp1 hm;rw[Jr (r:=.v (.tup [.str "never",.str y.2.n,.lst (OJ b y.2.o (SK y).val (b.lic k))])) (h2:=h) (λ_ μ h'=>h'=h/\∃x5 x6,μ=[some (.v b.mv),some (.v d.mv),some (.v (AF k)),some (.v (B6 p)),some (.v (.lst ((AN b d (b.lic k)).map λy=>MV.str y.2.n))),x5,x6,none,none]) (i:=0) (k:=j) (m:=.str y.2.n) ⟨rfl,_,_,rfl⟩ (by rw[aJ,aU hj,hy];rfl) ?_ ?_]
    ·simp;exact .never y hm hp1 _ _ rfl
    ·rintro i m μ h' hi hmi ⟨rfl,x5,x6,rfl⟩;obtain⟨z,hz,rfl⟩:=RF hmi;have hzm:=aQ hz;have hno:CN b (b.lic k) z=false:=by
      have:=hp2 i hi;rw[aU (by lia)]at hz;cases hz;simpa using this
     refine⟨_,[some (.v b.mv),some (.v d.mv),some (.v (AF k)),some (.v (B6 p)),some (.v (.lst ((AN b d (b.lic k)).map λy=>MV.str y.2.n))),some (.v (.str z.2.n)),some (.v (.lst (OJ b z.2.o (SK z).val (b.lic k)))),none,none],h',rfl,?_,rfl,_,_,rfl⟩;simp[e41 z hzm,e40 z hzm,hno]
    rintro μ h' ⟨rfl,x5,x6,rfl⟩;exact⟨_,rfl,by simp[e41 y hm,e40 y hm,hp1]⟩
 ·exact λ_ _=>rfl
 ·simp[est]
 intro y hy;exact⟨_,rfl,by simp[startC]⟩
end BK74
namespace BK74
open PySem B L2
variable {n:Nat}
def uv(rs ts:List Rw)(w:Int)(h:MH)(j:Nat)(μ:En)(h':MH):Prop:=E3 λ(x:Bx) (p:Pc) (v4:Option R)=>A4 (μ=[some (.r (hlen h)),some (.v (.lst (rs.map Bb))),some (.v (.int w)),some (.r (hlen h+1)),v4]) (h'=hnew (hnew h (Ay x)) (.dic false (p.map λx=>.str x.1) (p.map λx=>.int (x.2:Nat)))) (p.map (·.1)=(ts.take j).map (·.n)) (∀y∈p,y.2<=1000000)
def VH(rs:List Rw)(p:Pc):Prop:=p.map (·.1)=(rs.drop 1).map (·.n)/\∀y∈p,y.2<=1000000
def uu(rs:List Rw)(h:MH)(m:MV)(h':MH):Prop:=∃(p:Pc) (x':Bx),m=B6 p/\VH rs p/\h'=hnew h (Ay x')
def nV:∀k:Fin 31,0<k.val->HT.sIx k.val 0 (some 1)=1:=by decide +kernel
def pK(h0:0<ms.length)(hl:ms.length<=30):C1 ms (some 1) none=ms.drop 1:=by
 unfold C1;rw[nV ⟨ms.length,by lia⟩ h0,show HT.sIx ms.length ms.length none=ms.length from rfl];exact eL (hU eE)
def O9(x:Bx)(h0:0<rs.length)(hl:rs.length<=30)(nd:(rs.map (·.n)).Nodup):HA (Ph (n+3) 74 [.r (hlen h),.v (.lst (rs.map Bb))] (hnew h (Ay x))) (uu rs h):=by
 refine EC (d:=d74) rfl rfl ?_;have T0:Ph (n+2) 57 [.r (hlen h),.v (.int 3)] (hnew h (Ay x))=.ok (.v (.int (B7 x 3))) (hnew h (Ay (B1 x 3))):=tk1 (by decide) (by decide);obtain⟨w,ew,w0,w1⟩:∃w:Int,BA [MV.int 7,.int 7,.int 1000001] (B7 x 3)=some (.int w)/\0<w/\w<=1000001:=by
  obtain⟨a,ea⟩:∃a:Fin 3,B7 x 3=(a.val:Int):=L4 _ (by decide);rw[ea];have:a=0\/a=1\/a=2:=by lia
  rcases this with rfl|rfl|rfl
  ·exact⟨7,rfl,by decide,by decide⟩
  ·exact⟨7,rfl,by decide,by decide⟩
  exact⟨1000001,rfl,by decide,by decide⟩
 obtain⟨ts,hts⟩:∃ts,rs.drop 1=ts:=⟨_,rfl⟩;have ec:EW (.lst (rs.map Bb)) (some 1) none=some (.lst (ts.map Bb)):=by
  show some (MV.lst (C1 _ _ _))=_;rw[pK (by simpa using h0) (by simpa using hl),←iN,hts]
 simp[-Ar,d74,Aa,T0,ew,ec,BZ];refine CC (CD Bb (uv rs ts w h) ⟨B1 x 3,[],none,rfl,rfl,rfl,λ_ h=>by cases h⟩ ?_) ?_
 ·rintro j y μ h' hj ⟨x,p,v4,rfl,rfl,hp,hp2⟩;refine⟨_,rfl,?_⟩;have T1:∀o,Ph (n+2) 57 [.r (hlen h),.v (.int w)] (hnew (hnew h (Ay x)) o)=.ok (.v (.int (B7 x w))) (hnew (hnew h (Ay (B1 x w))) o):=λo=>tk2 w0 (by lia);have r0:=BG (x:=x) w0;have r1:=C6 (x:=x) w0;generalize B7 x w=r at r0 r1 T1;generalize B1 x w=x' at T1;obtain⟨q,rfl⟩:=Int.eq_ofNat_of_zero_le r0;have hpl:p.length<=30:=by
   have:=bQ List.length hp;have h2:=bQ List.length hts;simp at this h2
   lia
  have hvl:p.length<big:=by unfold big;lia
  have hnk:∀x∈p.map (λx=>MV.str x.1),look.seqK x (.str y.n)=false:=by
   intro z hz;obtain⟨a,ha,rfl⟩:=bA.mp hz;rw[MW,eK];intro e;have h1:y.n∈(ts.take j).map (·.n):=by rw[←hp,←e];exact bY ha
   have nd2:(ts.map (·.n)).Nodup:=by rw[←hts,iN];exact nd.sublist (gR _ _)
   have nd3:((ts.take (j+1)).map (·.n)).Nodup:=nd2.sublist ((cN _ _).map _);rw[BX hj,bM,fG]at nd3;exact nd3.2.2 _ h1 y.n (by simp) rfl
  have hdk:FN false (.str y.n)=true:=rfl;simp[Bb,Lu,T1,hvl,KW hnk,hdk,-Ar];refine⟨x',p++ [(y.n,q)],_,rfl,by rw[bM,bM];rfl,by rw[BX hj,bM,bM,hp];rfl,λz hz=>?_⟩;rcases bP.mp hz with hz|hz
  ·exact hp2 z hz
  rw[aY.mp hz];show q<=1000000
  lia
 rintro μ h' ⟨x,p,v4,rfl,rfl,hp,hp2⟩;simp;exact⟨p,x,rfl,⟨by rw[hp,bJ,hts],hp2⟩,rfl⟩
end BK74
namespace BK74
open PySem B L2
variable {n:Nat}
def jU(m k:Nat):Builtin.bitAnd ((m:Int) / 2^k) 1=((m / 2^k%2:Nat):Int):=by
 have h1:(m:Int) / 2^k=((m / 2^k:Nat):Int):=by norm_cast
 rw[h1,←Nat.and_one_is_mod];rfl
noncomputable def SW(rs:List Rw)(m i:Nat):Rw:=if m / 2^i%2=1 then {At rs i with j:=0} else At rs i
noncomputable def calL(rs:List Rw)(m:Nat):List Rw:=At rs 0::(List.range (rs.length-1)).map λi=>SW rs m (1+i)
def nW:∀k:Fin 31,0<k.val->HT.sIx k.val k.val (some 1)=1:=by decide +kernel
def OF(m:Nat)(t:Ah rs)(hl:rs.length<=30):Ph (n+1) 75 [.v (.lst (rs.map Bb)),.v (.int m)] h=.ok (.v (.lst ((calL rs m).map Bb))) h:=by
 refine Ag (d:=d75) rfl rfl ?_;have h0:=t.pos;have ec:C1 (rs.map Bb) none (some 1)=[Bb (At rs 0)]:=by
  unfold C1;rw[aI,nW ⟨rs.length,by lia⟩ h0,show HT.sIx rs.length 0 none=0 from rfl];cases rs with
  |nil=>cases h0
  |cons a l=>rfl
 have el:K1 (.lst (rs.map Bb))=some (rs.map Bb):=rfl;have e0:(calL rs m).map Bb=[Bb (At rs 0)]++(List.range (rs.length-1)).map λi=>Bb (SW rs m (1+i)):=by
  unfold calL;rw[aF,cJ];rfl
 simp -implicitDefEqProofs [-Ar,d75,Aa,el,ec,QC h0 (show rs.length<=1000 by lia)];rw[e0];refine Bo (GQ (λi:Nat=>MV.int (1+(i:Int))) (λi=>Bb (SW rs m (1+i))) (λμ=>∃x3 x4,μ=[some (.v (.lst (rs.map Bb))),some (.v (.int m)),some (.r (hlen h)),x3,x4]) ⟨_,_,rfl⟩ λj i μ hj ⟨x3,x4,hμ⟩=>?_) λμ ⟨x3,x4,hμ⟩=>?_
 ·subst hμ;refine⟨_,rfl,?_⟩;obtain⟨hj2,e⟩:=a9.mp hj;rw[b9]at hj2;rw[cQ]at e;subst e;have hi:1+j<rs.length:=by lia
  have ea:=Eh hi;rw[show((1+j:Nat):Int)=1+(j:Int) by lia]at ea;have eb:=jU m (1+j);have et:(1+(j:Int)).toNat=1+j:=by lia
  have ep:0<=1+(j:Int):=by lia
  obtain⟨_,a,ra,g2,_⟩:=t.up _ _ (Bc hi) (by lia);have hab:¬(At rs (1+j)).ab<0:=by rw[g2];lia
  have hacc:([Bb (At rs 0)]++((List.range (rs.length-1)).take j).map λi=>Bb (SW rs m (1+i))).length<big:=by
   simp;unfold big
   lia
  generalize [Bb (At rs 0)]++((List.range (rs.length-1)).take j).map (λi=>Bb (SW rs m (1+i)))=acc at hacc ⊢;unfold SW;by_cases hb:m / 2^(1+j)%2=1
  ·rw[hb]at eb;have eb:=eb;simp[-Ar,ea,Lu,jP,et,ep,eb,hb,hacc,Bb,Rw.js,hab,Hq]
  have hb2:m / 2^(1+j)%2=0:=by lia
  rw[hb2]at eb;have eb:=eb;simp[-Ar,ea,Lu,jP,et,ep,eb,hb2,hacc,Bb,Rw.js,hab]
 subst hμ;simp
end BK74
namespace BK74
open PySem B L2
variable {n:Nat}
section
variable {m:Nat}
def W1{i:Nat}:∃c,SW rs m i={At rs i with j:=c}:=by
 unfold SW;split
 ·exact⟨0,rfl⟩
 exact⟨(At rs i).j,rfl⟩
def CH(h0:0<rs.length):(calL rs m).length=rs.length:=by
 unfold calL;rw[bV,aI,b9]
 lia
def DI{i:Nat}(hi:i<rs.length):(calL rs m)[i]?=some (if i=0 then At rs 0 else SW rs m i):=by
 unfold calL;cases i with
 |zero=>rfl
 |succ i=>
  rw[List.getElem?_cons_succ,aJ,fY (by lia),if_neg (by lia),f8 i 1];rfl
def Eg{i:Nat}(hr:(calL rs m)[i]?=some r)(h0:0<rs.length):i<rs.length/\∃c,r={At rs i with j:=c}:=by
 have hi:i<rs.length:=by rw[←CH (m:=m) h0];exact(a9.mp hr).1
 rw[DI hi]at hr;refine⟨hi,?_⟩;split at hr
 ·next e=>subst e;exact⟨(At rs 0).j,(bE hr).symm⟩
 obtain⟨c,e⟩:=W1 (rs:=rs) (m:=m) (i:=i);exact⟨c,by rw[←e];exact(bE hr).symm⟩
def Lm{β:Type}(f:Rw->β)(hf:∀r c,f {r with j:=c}=f r)(h0:0<rs.length):(calL rs m).map f=rs.map f:=by
 apply dF;intro i;rw[aJ,aJ];by_cases hi:i<rs.length
 ·obtain⟨r,hr⟩:∃r,(calL rs m)[i]?=some r:=⟨_,DI hi⟩;obtain⟨_,c,e⟩:=Eg hr h0;rw[hr,Bc hi,e];show some (f _)=some (f _);rw[hf]
 rw[cP (by rw[CH h0];lia),cP (by lia)]
def Fj(t:Ah rs):Ah (calL rs m):=by
 have h0:=t.pos;refine⟨by rw[CH h0];exact h0,λr hr=>?_,λr hr=>?_,λi r hr hi=>?_,λa=>?_⟩
 ·obtain⟨i,hi⟩:=iL hr;obtain⟨h1,c,e⟩:=Eg hi h0;rw[e];exact t.ok (At rs i) (Co h1)
 ·obtain⟨h1,c,e⟩:=Eg hr h0;rw[e];exact t.root (At rs 0) (Bc h1)
 ·obtain⟨h1,c,e⟩:=Eg hr h0;obtain⟨_,a,ra,g2,g3,g4,g5⟩:=t.up i _ (Bc h1) hi;obtain⟨r2,hr2⟩:∃r2,(calL rs m)[a]?=some r2:=⟨_,DI (by lia)⟩;obtain⟨_,c2,e2⟩:=Eg hr2 h0;have e3:=Go g4;rw[e];refine⟨c.2,a,r2,g2,g3,hr2,?_⟩;rw[e2,e3];exact g5
 have h1:=t.few a;rw[←List.countP_eq_length_filter]at h1 ⊢;have e:∀l:List Rw,l.countP (λr=>r.ab ==(a:Int))=(l.map (·.ab)).countP (· ==(a:Int)):=λl=>by rw[List.countP_map];rfl
 rw[e,Lm (·.ab) (λ_ _=>rfl) h0,←e];exact h1
def NZ(r:CK ks rs):CK ks (calL rs m):=by
 have h0:=r.t.pos;refine⟨Fj r.t,λx hx=>?_,by rw[CH h0];exact r.l,by rw[Lm (·.n) (λ_ _=>rfl) h0];exact r.nd⟩;obtain⟨i,hi⟩:=iL hx;obtain⟨h1,c,e⟩:=Eg hi h0;rw[e];exact r.o (At rs i) (Co h1)
end
end BK74
namespace BK74
open PySem B L2
variable {n:Nat}
noncomputable def PR(rs:List Rw)(p:Pc)(m:Nat):Nat:=(((List.range (rs.length-1)).filter λi=>decide (m / 2^(1+i)%2=1)).map λi=>Hh p (At rs (1+i)).n).sum
def Oj(ls:List Li)(rs:List Rw)(o:Li)(m:Nat):Prop:=(AA (calL rs m) 5 0).filter (IV ls (calL rs m) o)=[]
def Vw(m k:Nat):(m:Int) / 2^k=((m / 2^k:Nat):Int):=by norm_cast
noncomputable def ZR:Option Nat->MV
 |none=>.non
 |some v=>.int v
def FO(ls:List Li)(rs:List Rw)(p:Pc)(o:Li)(j:Nat):Option Nat->Prop
 |none=>∀i<j,¬Oj ls rs o (2*i)
 |some v=>(∃i<j,Oj ls rs o (2*i)/\PR rs p (2*i)=v)/\∀i<j,Oj ls rs o (2*i)->v<=PR rs p (2*i)
def gh{j:Nat}(h0:j<=1000):Ez (.v (.int 0)) (.v (.int (2*j:Nat)))=some ⟨(List.range j).map λi=>MV.int ((2*i:Nat):Int),none⟩:=by
 have e:∀a b,Ez (.v (.int a)) (.v (.int b))=if 0<=a/\a<2^60/\0<=b/\b<2^60 then some ⟨Cp a ((b-a+1) / 2).toNat,none⟩ else none:=λ_ _=>rfl;rw[e,if_pos (by lia),show((((2*j:Nat):Int)-0+1) / 2).toNat=j by lia];unfold Cp;congr 2;apply cW;intro i _;congr 1
 lia
def uz(ls:List Li)(rs:List Rw)(p:Pc)(o:Li)(h:MH)(j:Nat)(μ:En)(h':MH):Prop:=E3 λ(b:Option Nat) (x5 x6:Option R)=>A3 (μ=[some (.v (.lst (ls.map BB))),some (.v (.lst (rs.map Bb))),some (.v (B6 p)),some (.v (BB o)),some (.v (ZR b)),x5,x6]) (h'=h) (FO ls rs p o j b)
def Q5(r:CK (ls.map Li.ky) rs)(o:Li){i:Nat}(hi:i<rs.length):sh (RK ls rs o i) 59=true:=by
 obtain⟨go,gk⟩:=r.o _ (Co hi);have hw:=(r.t.ok _ (Co hi)).1;have h1:BN (ja ls rs o i) 57=true:=BV λk hk=>by
  show(sh (AF k) 56&&(sh (Nv _ _ _) 56&&BN [] 56))=true;rw[Ey (go.ok k hk),VR];simp[BN]
 show(sh (.str _) 58&&(sh (.lst _) 58&&BN [] 58))=true;simp[sh,BN,h1,MJ hw]
open Classical in
def Zt(r:CK (ls.map Li.ky) rs)(o:Li)(m:Nat):AL .eq (.lst (((AA (calL rs m) 5 0).filter (IV ls (calL rs m) o)).map (RK ls (calL rs m) o))) (.lst [])=some (decide (Oj ls rs o m)):=by
 have r2:=NZ (m:=m) r;refine(Fg (BV λi hi=>Q5 r2 o (r2.t.ordI_lt r2.t.pos (bS.mp hi).1))).1.trans ?_;rw[fL];unfold Oj;cases (AA (calL rs m) 5 0).filter (IV ls (calL rs m) o)<;>simp
def FO.skip{j:Nat}:∀{b:Option Nat},FO ls rs p o j b->(¬Oj ls rs o (2*j)\/∃v,b=some v/\v<=PR rs p (2*j))->FO ls rs p o (j+1) b
 |none,h,c=>λi hi=>by
  by_cases e:i=j
  ·subst e;rcases c with c|⟨v,c,_⟩
   ·exact c
   cases c
  exact h i (by lia)
 |some v,⟨⟨i,h1,h2⟩,h3⟩,c=>⟨⟨i,by lia,h2⟩,λi hi hc=>by
  by_cases e:i=j
  ·subst e;rcases c with c|⟨v,c,h⟩
   ·exact absurd hc c
   cases c;exact h
  exact h3 i (by lia) hc⟩
def FO.take{j:Nat}:∀{b:Option Nat},FO ls rs p o j b->Oj ls rs o (2*j)->(∀v,b=some v->PR rs p (2*j)<=v)->FO ls rs p o (j+1) (some (PR rs p (2*j)))
 |none,h,c,_=>⟨⟨j,by lia,c,rfl⟩,λi hi hc=>by
  by_cases e:i=j
  ·subst e;exact aH _
  exact absurd hc (h i (by lia))⟩
 |some v,⟨_,h3⟩,c,hv=>⟨⟨j,by lia,c,rfl⟩,λi hi hc=>by
  by_cases e:i=j
  ·subst e;exact aH _
  exact aV (hv v rfl) (h3 i (by lia) hc)⟩
def Kp(ho:∀l∈ls,l.Ok)(hl:ls.length<=12)(r:CK (ls.map Li.ky) rs)(h7:rs.length<=7)(pk:VH rs p)(o:Li):Df (Ph (n+9) 76 [.v (.lst (ls.map BB)),.v (.lst (rs.map Bb)),.v (B6 p),.v (BB o)] h) h λm=>∃b,m=ZR b/\FO ls rs p o (2^(rs.length-1)) b:=by
 refine Ca (d:=d76) rfl rfl ?_;have h0:=r.t.pos;have e1:BZ 1 (rs.length:Int)=true:=by simp[BZ];lia
 have e2:(2:Int)^rs.length=((2*2^(rs.length-1):Nat):Int):=by
  have:2*2^(rs.length-1)=2^rs.length:=by rw[←Nat.pow_succ'];congr 1;lia
  rw[this]
  norm_cast
 have e3:2^(rs.length-1)<=1000:=by
  have:2^(rs.length-1)<=2^6:=fV (by decide) (by lia)
  lia
 obtain⟨J,hJ⟩:∃J,2^(rs.length-1)=J:=⟨_,rfl⟩;have er:Ez (.v (.int 0)) (.v (.int (2^rs.length)))=some ⟨(List.range J).map λi=>MV.int ((2*i:Nat):Int),none⟩:=by rw[e2,gh e3,hJ]
 rw[hJ];have hP:∀i<rs.length-1,PJ p (At rs (1+i)).n:=λi hi=>by
  unfold PJ;rw[pk.1];refine bY (dS.mpr ⟨i,?_⟩);rw[List.getElem?_drop];exact Bc (by lia)
 simp -implicitDefEqProofs [-Ar,d76,Aa,e1,er];refine BI (CD (λi:Nat=>MV.int ((2*i:Nat):Int)) (uz ls rs p o h) ⟨none,none,none,rfl,rfl,λi hi=>by lia⟩ ?_) ?_
 ·rintro j i μ h' hj ⟨b,x5,x6,rfl,rfl,hb⟩;obtain⟨hj2,e⟩:=a9.mp hj;rw[b9]at hj2;rw[cQ]at e;subst e;refine⟨_,rfl,?_⟩;have es:=Zt r o (2*j);have ecal:∀h,Ph (n+8) 75 [.v (.lst (rs.map Bb)),.v (.int ((2*j:Nat):Int))] h=.ok (.v (.lst ((calL rs (2*j)).map Bb))) h:=λh=>OF (2*j) r.t r.l;have est:∀h,Ph (n+8) 73 [.v (.lst (ls.map BB)),.v (.lst ((calL rs (2*j)).map Bb)),.v (BB o)] h=_:=λh=>HK (n:=n) (h:=h) ho hl (NZ (m:=2*j) r) o;have hsk:=FO.skip hb;have htk:=FO.take hb;generalize ((AA (calL rs (2*j)) 5 0).filter (IV ls (calL rs (2*j)) o)).map (RK ls (calL rs (2*j)) o)=L at es est;have esum:LY [.lst (((List.range (rs.length-1)).filter λi=>decide ((2*j) / 2^(1+i)%2=1)).map λi=>MV.int (Hh p (At rs (1+i)).n:Nat))]=some (.int (PR rs p (2*j))):=by
   simp only[LY,GK,Gh,PR,Option.map_some]
  generalize PR rs p (2*j)=P at esum hsk htk;generalize calL rs (2*j)=cs at ecal est;generalize hM:2*j=M at *;simp -implicitDefEqProofs [AH];rw[CY (h1:=h') (List.range (rs.length-1)) (λi:Nat=>MV.int (1+(i:Int))) (λi=>MV.int (Hh p (At rs (1+i)).n:Nat)) (λi=>decide (M / 2^(1+i)%2=1)) ?_ (B3 (by rw[b9];lia)) ?_]
  ·generalize List.map (λi=>MV.int (Hh p (At rs (1+i)).n:Nat)) (List.filter (λi=>decide (M / 2^(1+i)%2=1)) (List.range (rs.length-1)))=Q at esum ⊢;clear er e2 e3 hJ hj;simp -dsimp -implicitDefEqProofs [esum];have key:Oj ls rs o M\/¬Oj ls rs o M:=Classical.em _;cases b with
   |none=>
    simp -dsimp -implicitDefEqProofs [ZR,ecal,est,es];rcases key with hc|hc
    ·rw[@decide_eq_true _ (Classical.propDecidable _) hc];simp -dsimp -implicitDefEqProofs;exact⟨some P,_,_,rfl,rfl,htk hc λv e=>by cases e⟩
    rw[@decide_eq_false _ (Classical.propDecidable _) hc];simp -dsimp -implicitDefEqProofs;exact⟨none,_,_,rfl,rfl,hsk (.inl hc)⟩
   |some v=>
    have ei:AL .is_ (.int (v:Int)) .non=some false:=rfl;by_cases hv:P<v
    ·simp -dsimp -implicitDefEqProofs [ZR,ecal,est,es,ei,hv];rcases key with hc|hc
     ·rw[@decide_eq_true _ (Classical.propDecidable _) hc];simp -dsimp -implicitDefEqProofs;exact⟨some P,_,_,rfl,rfl,htk hc λw e=>by cases e;lia⟩
     rw[@decide_eq_false _ (Classical.propDecidable _) hc];simp -dsimp -implicitDefEqProofs;exact⟨some v,_,_,rfl,rfl,hsk (.inl hc)⟩
    simp -dsimp -implicitDefEqProofs [ZR,ei,hv];exact⟨some v,_,_,rfl,rfl,hsk (.inr ⟨v,rfl,by lia⟩)⟩
  ·simp -implicitDefEqProofs [QC r.t.pos (show rs.length<=1000 by lia)]
  intro i hi;have hi2:=dH.mp hi;have ea:=Eh (rs:=rs) (k:=1+i) (by lia);rw[show((1+i:Nat):Int)=1+(i:Int) by lia]at ea;have eb:=jU M (1+i);have et:(1+(i:Int)).toNat=1+i:=by lia
  have ep:0<=1+(i:Int):=by lia
  have eq1:(((M / 2^(1+i)%2:Nat):Int)=1)=(M / 2^(1+i)%2=1):=by apply propext;lia
  refine⟨_,rfl,?_,λ_=>?_⟩
  ·simp[startC,et,ep,eb,eq1];rw[Vw]
   lia
  simp[startC,ea,Lu,Fb (hP i hi2),-Ar]
 rintro μ h' ⟨b,x5,x6,rfl,rfl,hb⟩;rw[b9]at hb;simp;exact⟨b,rfl,hb⟩
end BK74
namespace BK74
open PySem B L2
def Yz:∀(c c':Fin 4) (l:Fin 32),c<=c'->sub (nd c'.val) l.val=true->sub (nd c.val) l.val=true:=by decide +kernel
def Sr{c c':Fin 4}(h:c<=c')(hf:DL l c'.val o=true):DL l c.val o=true:=by
 unfold DL at *;simp only[Bool.and_eq_true,Bool.or_eq_true,Bool.not_eq_true',decide_eq_false_iff_not]at *;have hc:c.val<=c'.val:=h;refine⟨Yz c c' l.lets h hf.1,?_⟩;rcases hf.2 with hr|hr
 ·exact .inl (by lia)
 exact .inr hr
noncomputable def sB(ls:List Li)(o:List Ky)(l:Li)(c:Fin 4):Bool:=!o.isEmpty&&o.all λk=>!DL (Cm ls k) c.val l
def MX{ls:List Li}{o:List Ky}{l:Li}{c c':Fin 4}(hc:c<=c')(h:sB ls o l c=true):sB ls o l c'=true:=by
 unfold sB at *;rw[eQ,bI]at *;refine⟨h.1,λk hk=>?_⟩;have:=h.2 k hk;rw[Bool.not_eq_true']at *;cases hf:DL (Cm ls k) c'.val l with
 |false=>rfl
 |true=>rw[Sr hc hf]at this;cases this
def Uh(hc:c<=c')(h:sB ls o l c'=false):sB ls o l c=false:=by
 cases hs:sB ls o l c with
 |false=>rfl
 |true=>rw[MX hc hs]at h;cases h
def Vo{α:Type}{q:α->Bool}{l:List α}:l.filter q=[] ↔ ∀x∈l,q x=false:=by
 rw[List.filter_eq_nil_iff];exact⟨λh x hx=>by simpa using h x hx,λh x hx=>by simp[h x hx]⟩
section
variable {rs:List Rw}(t:Ah rs)
include t
theorem Of:(AA rs 5 0).filter q=[] ↔ ∀i<rs.length,q i=false:=by
 rw[Vo];exact⟨λh i hi=>h i (t.all_in i hi),λh i hi=>h i (t.ordI_lt t.pos hi)⟩
theorem FP(nd:(rs.map (·.n)).Nodup)(bd:Bd (B0 rs))(hy:y∈AC (B0 rs)):∃i,i<rs.length/\y.2.n=(At rs i).n/\y.2.o=(At rs i).o/\CF y.1=cl rs i/\SK y=if i=0 then 3 else 0:=by
 obtain⟨i,hi,e⟩:=(Kf t).mp (bA.mpr ⟨y,hy,rfl⟩:(y.2.n,y.2.o,CF y.1)∈ly (B0 rs));have e1:y.2.n=(At rs i).n:=bQ Prod.fst e;refine⟨i,hi,e1,bQ (λz=>z.2.1) e,bQ (λz=>z.2.2) e,?_⟩;obtain⟨j,hj⟩:=dS.mp hy;have ht:=JN bd hj;unfold SK;by_cases h0:i=0
 ·subst h0;rw[if_pos rfl,if_pos (ht.mp e1)]
 rw[if_neg h0,if_neg];intro e2;exact h0 (Ds nd hi t.pos (by rw[←e1];exact ht.mpr e2))
theorem Q2(nd:(rs.map (·.n)).Nodup)(bd:Bd (B0 rs)){i:Nat}(hi:i<rs.length)(h:sB b.ls (At rs i).o l (cl rs i)=true):∃y∈AN b (B0 rs) l,y.2.n=(At rs i).n/\y.2.o=(At rs i).o/\SK y=if i=0 then 3 else 0:=by
 obtain⟨y,hy,e⟩:=bA.mp ((Kf t).mpr ⟨i,hi,rfl⟩);have e1:y.2.n=(At rs i).n:=bQ Prod.fst e;have e2:y.2.o=(At rs i).o:=bQ (λz=>z.2.1) e;have e3:CF y.1=cl rs i:=bQ (λz=>z.2.2) e;obtain⟨j,hj,f1,_,_,f4⟩:=FP t nd bd hy;have:j=i:=Ds nd hj hi (by rw[←f1,e1]);subst this;unfold sB at h;rw[eQ]at h;refine⟨y,bS.mpr ⟨bS.mpr ⟨hy,by rw[e2];exact h.1⟩,?_⟩,e1,e2,f4⟩;unfold Ew;rw[e2,e3];exact h.2
theorem Oc(nd:(rs.map (·.n)).Nodup)(bd:Bd (B0 rs))(hy:y∈AN b (B0 rs) l):∃i,i<rs.length/\y.2.n=(At rs i).n/\sB b.ls (At rs i).o l (cl rs i)=true/\CN b l y=sB b.ls (At rs i).o l (if i=0 then 3 else 0):=by
 obtain⟨h1,h2⟩:=bS.mp hy;obtain⟨h3,h4⟩:=bS.mp h1;obtain⟨i,hi,f1,f2,f3,f4⟩:=FP t nd bd h3;refine⟨i,hi,f1,?_,?_⟩
 ·unfold sB;rw[←f2,←f3,eQ];exact⟨h4,h2⟩
 unfold sB CN;rw[f4,←f2];show _=(!y.2.o.isEmpty&&_);rw[h4];rfl
theorem TW(nd:(rs.map (·.n)).Nodup)(bd:Bd (B0 rs)){i:Nat}(hi:i<rs.length):(At rs i).n∈Hg b (B0 rs) l ↔ sB b.ls (At rs i).o l (cl rs i)=true:=by
 unfold Hg;rw[bA];constructor
 ·rintro⟨y,hy,e⟩;obtain⟨j,hj,f1,f2,_⟩:=Oc t nd bd hy;have:j=i:=Ds nd hj hi (by rw[←f1,e]);subst this;exact f2
 intro h;obtain⟨y,hy,e,_⟩:=Q2 t nd bd hi h;exact⟨y,hy,e⟩
theorem Xa(nd:(rs.map (·.n)).Nodup)(bd:Bd (B0 rs)):AN b (B0 rs) l=[] ↔ ∀i<rs.length,sB b.ls (At rs i).o l (cl rs i)=false:=by
 constructor
 ·intro e i hi;cases hs:sB b.ls (At rs i).o l (cl rs i) with
  |false=>rfl
  |true=>
   obtain⟨y,hy,_⟩:=Q2 t nd bd hi hs;rw[e]at hy;cases hy
 intro h;refine fX.mpr λy hy=>?_;obtain⟨i,hi,_,f2,_⟩:=Oc t nd bd hy;rw[h i hi]at f2;cases f2
end
noncomputable def bt(m i:Nat):Bool:=decide (m / 2^i%2=1)
section
variable {m:Nat}
def SU{i:Nat}(hi:i<rs.length)(h0:0<i):At (calL rs m) i=SW rs m i:=by
 rw[Go (DI hi),if_neg (by lia)]
def P9(t:Ah rs){k c:Nat}(hc:c∈AY rs k):c∈AY (calL rs m) k:=by
 obtain⟨h1,h2⟩:=B9.mp hc;obtain⟨_,h3,_⟩:=t.kid hc;refine B9.mpr ⟨by rw[CH t.pos];exact h1,?_⟩;obtain⟨d,e⟩:=W1 (rs:=rs) (m:=m) (i:=c);rw[SU h1 (by lia),e];exact h2
def SS(t:Ah rs){i:Nat}(hi:i<rs.length):(At (calL rs m) i).o=(At rs i).o:=by
 obtain⟨_,c,e⟩:=Eg (rs:=rs) (m:=m) (DI hi) t.pos;rw[Go (DI hi),e]
def Lg(t:Ah rs){k c:Nat}(hc:c∈AY rs k):cl (calL rs m) c=EY (cl (calL rs m) k) (if bt m c=true then 0 else(At rs c).j):=by
 obtain⟨h1,h3,_⟩:=t.kid hc;rw[FZ (Fj t) (P9 t hc),SU h1 (by lia)];unfold SW bt;by_cases h:m / 2^c%2=1<;>simp[h]
def Wi(j:Fin 4):EY 0 j=0/\EY j 0=0:=by
 unfold EY;constructor
 ·split
  ·next h=>exact absurd h (by simp)
  rfl
 split
 ·rfl
 next h=>simp at h;exact h
noncomputable def kj(rs:List Rw)(St Bt:Nat->Bool):Nat->Nat->Prop
 |0,_=>True
 |f+1,k=>∀c∈AY rs k,Bt c=true\/(St c=false/\kj rs St Bt f c)
def R5(rs:List Rw):∀f k:Nat,k∈AA rs f k
 |0,k=>aY.mpr rfl
 |f+1,k=>aG
def Ni{q:Nat->Prop}{f k:Nat}:(∀i∈AA rs (f+1) k,q i) ↔ q k/\∀c∈AY rs k,∀i∈AA rs f c,q i:=by
 rw[AA];constructor
 ·exact λh=>⟨h k aG,λc hc i hi=>h i (aC _ (cY.mpr ⟨_,bA.mpr ⟨c,hc,rfl⟩,hi⟩))⟩
 intro ⟨h1,h2⟩ i hi;rcases aR.mp hi with rfl|hi
 ·exact h1
 obtain⟨l,hl,hi⟩:=cY.mp hi;obtain⟨c,hc,rfl⟩:=bA.mp hl;exact h2 c hc i hi
variable (t:Ah rs) {q:Nat->Fin 4->Bool}
include t
theorem JH(q0:∀i,0<i->i<rs.length->q i 0=false):∀f k,0<k->k<rs.length->cl (calL rs m) k=0->∀i∈AA rs f k,q i (cl (calL rs m) i)=false
 |0,k,k0,hk,e=>λi hi=>by
  rw[aY.mp hi,e];exact q0 k k0 hk
 |f+1,k,k0,hk,e=>Ni.mpr ⟨by rw[e];exact q0 k k0 hk,λc hc=>by
  obtain⟨h1,h3,_⟩:=t.kid hc;exact JH q0 f c (by lia) h1 (by rw[Lg t hc,e];exact(Wi _).1)⟩
theorem ND(q0:∀i,0<i->i<rs.length->q i 0=false):∀f k,k<rs.length->cl (calL rs m) k=cl rs k->q k (cl rs k)=false->((∀i∈AA rs f k,q i (cl (calL rs m) i)=false) ↔ kj rs (λi=>q i (cl rs i)) (bt m) f k)
 |0,k,hk,e,hq=>⟨λ_=>trivial,λ_ i hi=>by rw[aY.mp hi,e];exact hq⟩
 |f+1,k,hk,e,hq=>by
  rw[Ni,and_iff_right (by rw[e];exact hq)];refine gM λc=>gM λhc=>?_;obtain⟨h1,h3,_⟩:=t.kid hc;have es:=Lg (m:=m) t hc;cases hb:bt m c with
  |true=>
   rw[hb,if_pos rfl,(Wi _).2]at es;exact⟨λ_=>.inl rfl,λ_=>JH t q0 f c (by lia) h1 es⟩
  |false=>
   rw[hb,if_neg (by simp),e,←FZ t hc]at es;cases hs:q c (cl rs c) with
   |true=>
    constructor
    ·intro h;have:=h c (R5 rs f c);rw[es,hs]at this;cases this
    rintro(h|⟨h,_⟩)
    ·cases h
    exact absurd (hs.symm.trans h) (by simp)
   |false=>
    rw[ND q0 f c h1 es hs];exact⟨λh=>.inr ⟨hs,h⟩,λh=>by
     rcases h with h|⟨_,h⟩
     ·cases h
     exact h⟩
end
noncomputable def pI(rs:List Rw)(p:Pc)(i:Nat):Nat:=Hh p (At rs i).n
noncomputable def Ls(rs:List Rw)(p:Pc)(Bt:Nat->Bool)(l:List Nat):Nat:=(l.map λi=>if Bt i=true then pI rs p i else 0).sum
def V0:Ls rs p Bt (l++l')=Ls rs p Bt l+Ls rs p Bt l':=by
 unfold Ls;rw[bM,iC]
def D0{i:Nat}:Ls rs p Bt (i::l)=(if Bt i=true then pI rs p i else 0)+Ls rs p Bt l:=rfl
section
variable {rs:List Rw}{p:Pc}{S:List Str}{St Bt:Nat->Bool}
theorem Wh(t:Ah rs)(hS:∀i<rs.length,(At rs i).n∈S ↔ St i=true):∀f k,kj rs St Bt f k->F6 S p (fo rs f k)+(if Bt k=true then pI rs p k else 0)<=Ls rs p Bt (AA rs f k)
 |0,k,_=>by rw[AA,D0,fo,F6];lia
 |f+1,k,h=>by
  have g:∀is:List Nat,(∀c∈is,c∈AY rs k)->F6 S p (PZ rs (fo rs f) is)<=Ls rs p Bt ((is.map (AA rs f)).flatten):=by
   intro is
   induction is with
   |nil=>intro _;exact cS _
   |cons c is ih=>
    intro hs;have hc:=hs c aG;have i1:=ih λx hx=>hs x (aC _ hx);rw[PZ,F6,aF,bR,V0];refine Nat.add_le_add ?_ i1;have hself:(if Bt c=true then pI rs p c else 0)<=Ls rs p Bt (AA rs f c):=by
     cases f with
     |zero=>rw[AA,D0];lia
     |succ f=>rw[AA,D0];lia
    rcases h c hc with hb|⟨hst,hh⟩
    ·rw[if_pos hb]at hself;refine aV ?_ hself;show(if _ then pI rs p c else min (pI rs p c) _)<=pI rs p c;split<;>lia
    have:=Wh t hS f c hh;rw[if_neg (by rw[hS c (t.kid hc).1,hst];simp)]
    lia
  have:=g (AY rs k) λ_ h=>h;rw[AA,D0,fo]
  lia
noncomputable def V6(rs:List Rw)(p:Pc)(S:List Str):Nat->Nat->List Nat
 |0,_=>[]
 |f+1,k=>(AY rs k).flatMap λc=>if (decide ((At rs c).n∈S)||decide (pI rs p c<F6 S p (fo rs f c)))=true then [c] else V6 rs p S f c
theorem SL:∀f k,((V6 rs p S f k).map (pI rs p)).sum=F6 S p (fo rs f k)
 |0,k=>rfl
 |f+1,k=>by
  rw[V6,fo]
  induction AY rs k with
  |nil=>rfl
  |cons c is ih=>
   rw[gU,bM,iC,ih,PZ,F6];congr 1;show _=if _ then pI rs p c else min (pI rs p c) _;by_cases h1:(At rs c).n∈S
   ·simp[h1]
   by_cases h2:pI rs p c<F6 S p (fo rs f c)
   ·simp[h1,h2];lia
   simp[h1,h2,SL f c];lia
theorem SM(t:Ah rs)(hS:∀i<rs.length,(At rs i).n∈S ↔ St i=true):∀f k,(∀i∈V6 rs p S f k,Bt i=true)->kj rs St Bt f k
 |0,k,_=>trivial
 |f+1,k,h=>λc hc=>by
  have h2:∀i,i∈(if (decide ((At rs c).n∈S)||decide (pI rs p c<F6 S p (fo rs f c)))=true then [c] else V6 rs p S f c)->Bt i=true:=λi hi=>h i (List.mem_flatMap.mpr ⟨c,hc,hi⟩);split at h2
  ·exact .inl (h2 c (by simp))
  next hn=>
  refine .inr ⟨?_,SM t hS f c h2⟩;cases hs:St c with
  |false=>rfl
  |true=>exact absurd ((hS c (t.kid hc).1).mpr hs) (λh=>hn (by simp[h]))
theorem My(t:Ah rs):∀f k i,i∈V6 rs p S f k->0<i/\i<rs.length
 |0,k,i,h=>by cases h
 |f+1,k,i,h=>by
  obtain⟨c,hc,hi⟩:=List.mem_flatMap.mp h;obtain⟨h1,h3,_⟩:=t.kid hc;split at hi
  ·rw[aY.mp hi];exact⟨by lia,h1⟩
  exact My t f c i hi
theorem WV:∀l:List Nat,(l.map λ_=>0).sum=0
 |[]=>rfl
 |a::l=>by rw[aF,eV,WV l]
theorem R9{g:Nat->Nat}{c:Nat}:∀{l:List Nat},l.Nodup->(l.map λi=>if i=c then g i else 0).sum<=g c
 |[],_=>cS _
 |a::l,h=>by
  obtain⟨h1,h2⟩:=bT.mp h;rw[aF,eV];by_cases e:a=c
  ·subst e;have:(l.map λi=>if i=a then g i else 0)=l.map λ_=>0:=cW λi hi=>if_neg λe=>h1 (by rw[←e];exact hi);rw[this,if_pos rfl,WV];exact aH _
  rw[if_neg e,cI];exact R9 h2
theorem SC{l:List Nat}(nd:l.Nodup):∀(C:List Nat) (Bt:Nat->Bool),(∀i∈l,Bt i=true->i∈C)->Ls rs p Bt l<=(C.map (pI rs p)).sum
 |[],Bt,h=>by
  unfold Ls;have:(l.map λi=>if Bt i=true then pI rs p i else 0)=l.map λ_=>0:=cW λi hi=>if_neg λe=>by cases h i hi e
  rw[this,WV];exact cS _
 |c::C,Bt,h=>by
  have h1:=SC nd C (λi=>Bt i&& !decide (i=c)) λi hi hb=>by
   simp at hb;rcases aR.mp (h i hi hb.1) with e|e
   ·exact absurd e hb.2
   exact e
  have h2:=R9 (g:=pI rs p) (c:=c) nd;rw[aF,eV];refine aV ?_ (Nat.add_le_add h2 h1);unfold Ls;clear h h1 h2 nd
  induction l with
  |nil=>exact cS _
  |cons a l ih=>
   simp only[List.map_cons,List.sum_cons];have:(if Bt a=true then pI rs p a else 0)<=(if a=c then pI rs p a else 0)+(if (Bt a&& !decide (a=c))=true then pI rs p a else 0):=by
    by_cases e:a=c<;>cases Bt a<;>simp[e]
   lia
end
theorem Np(P:Nat->Bool):∀L:Nat,∀s:Nat,∃j,j<2^L/\∀i<L,bt j i=P (s+i)
 |0,s=>⟨0,by decide,λi hi=>by lia⟩
 |L+1,s=>by
  obtain⟨j,h1,h2⟩:=Np P L (s+1);refine⟨2*j+(if P s=true then 1 else 0),by rw[fU];split<;>lia,λi hi=>?_⟩;cases i with
  |zero=>
   unfold bt;rw[Nat.pow_zero,Nat.div_one,Nat.add_zero];cases P s<;>simp<;>lia
  |succ i=>
   have:=h2 i (by lia);rw[show s+(i+1)=s+1+i by lia,←this];unfold bt;rw[fU,hW (2^i) 2,←iF,show(2*j+(if P s=true then 1 else 0)) / 2=j by split<;>lia]
def ub(j i:Nat):bt (2*j) (1+i)=bt j i:=by
 unfold bt;rw[f8 1 i,fU,hW (2^i) 2,←iF,show 2*j / 2=j by lia]
def qj(j:Nat):bt (2*j) 0=false:=by
 unfold bt;simp
section
def SB(t:Ah rs):Ls rs p Bt (AA rs 5 0)=Ls rs p Bt (List.range rs.length):=by
 have h:=(List.perm_ext_iff_of_nodup (t.ordI_nodup 5 0) List.nodup_range).mpr λi=>by
  rw[dH];exact⟨λhi=>t.ordI_lt t.pos hi,λhi=>t.all_in i hi⟩
 exact(h.map _).sum_nat
theorem Js:∀l:List Nat,((l.filter q).map g).sum=(l.map λi=>if q i=true then g i else 0).sum
 |[]=>rfl
 |a::l=>by
  by_cases h:q a=true
  ·rw[fF h,aF,aF,eV,eV,Js l,if_pos h]
  rw[fE h,aF,eV,Js l,if_neg h,cI]
def Nf(t:Ah rs)(j:Nat):PR rs p (2*j)=Ls rs p (bt (2*j)) (AA rs 5 0):=by
 rw[SB t];obtain⟨L,e⟩:∃L,rs.length=L+1:=⟨rs.length-1,by have:=t.pos;lia⟩;unfold PR;rw[Js,e,List.range_succ_eq_map,D0,qj,if_neg (by simp),cI,Nat.add_sub_cancel];unfold Ls;rw[cJ];congr 1;apply cW;intro i _;show(if bt (2*j) (1+i)=true then pI rs p (1+i) else 0)=if bt (2*j) (i+1)=true then pI rs p (i+1) else 0;rw[f8]
def NV{m:Nat}(t:Ah rs):Oj ls rs l m ↔ ∀i<rs.length,sB ls (At rs i).o l (cl (calL rs m) i)=false:=by
 unfold Oj;rw[Of (Fj t),CH t.pos];refine gM λi=>gM λhi=>?_;show sB ls (At (calL rs m) i).o l (cl (calL rs m) i)=false ↔ _;rw[SS t hi]
variable {b:Bk}{l:Li}(t:Ah rs) (nd:(rs.map (·.n)).Nodup) (bd:Bd (B0 rs))
include t nd bd
theorem M4{j:Nat}(hb:FO b.ls rs p l j v)(hy:y∈AN b (B0 rs) l)(e:CN b l y=true):v=none:=by
 obtain⟨i,hi,_,_,f⟩:=Oc t nd bd hy;rw[e]at f;have hc:∀m,¬Oj b.ls rs l m:=λm h=>by
  have h1:=(NV t).mp h i hi;have h2:(if i=0 then(3:Fin 4) else 0)<=cl (calL rs m) i:=by
   by_cases h0:i=0
   ·subst h0;exact Fin.le_refl _
   rw[if_neg h0];exact Fin.zero_le _
  rw[MX h2 f.symm]at h1;cases h1
 cases v with
 |none=>rfl
 |some v=>
  obtain⟨⟨i,_,h,_⟩,_⟩:=hb;exact absurd h (hc _)
theorem M5(hb:FO b.ls rs p l (2^(rs.length-1)) v)(hn:∀y∈AN b (B0 rs) l,CN b l y=false):v=some (F6 (Hg b (B0 rs) l) p (B0 rs).ks):=by
 have hs:∀i<rs.length,sB b.ls (At rs i).o l (cl rs i)=true->sB b.ls (At rs i).o l (if i=0 then 3 else 0)=false:=λi hi h=>by
  obtain⟨y,hy,e1,e2,e3⟩:=Q2 t nd bd hi h;obtain⟨j,hj,f1,_,f3⟩:=Oc t nd bd hy;have:j=i:=Ds nd hj hi (by rw[←f1,e1]);subst this;rw[←f3,hn y hy]
 have q0:∀i,0<i->i<rs.length->sB b.ls (At rs i).o l 0=false:=λi h0 hi=>by
  cases h:sB b.ls (At rs i).o l (cl rs i) with
  |true=>have:=hs i hi h;rwa[if_neg (by lia)]at this
  |false=>exact Uh (Fin.zero_le _) h
 have qr:sB b.ls (At rs 0).o l (cl rs 0)=false:=by
  cases h:sB b.ls (At rs 0).o l (cl rs 0) with
  |false=>rfl
  |true=>exact absurd ((hs 0 t.pos h).symm.trans h) (by simp)
 have hc:∀m,Oj b.ls rs l m ↔ kj rs (λi=>sB b.ls (At rs i).o l (cl rs i)) (bt m) 5 0:=λm=>by
  rw[NV t,←ND (q:=λi c=>sB b.ls (At rs i).o l c) t q0 5 0 t.pos rfl qr];exact⟨λh i hi=>h i (t.ordI_lt t.pos hi),λh i hi=>h i (t.all_in i hi)⟩
 have hS:∀i<rs.length,(At rs i).n∈Hg b (B0 rs) l ↔ (λi=>sB b.ls (At rs i).o l (cl rs i)) i=true:=λi hi=>TW t nd bd hi;generalize Hg b (B0 rs) l=S at hS;have lo:∀j,Oj b.ls rs l (2*j)->F6 S p (B0 rs).ks<=PR rs p (2*j):=λj h=>by
  have:=Wh (p:=p) t hS 5 0 ((hc _).mp h);rw[qj]at this;rw[Nf t];exact this
 obtain⟨j,hj,hP⟩:=Np (λi=>decide (i∈V6 rs p S 5 0)) (rs.length-1) 1;have hbt:∀i<rs.length,bt (2*j) i=true ↔ i∈V6 rs p S 5 0:=λi hi=>by
  cases i with
  |zero=>
   rw[qj];exact⟨λh=>(by cases h),λh=>(by have:=(My t 5 0 0 h).1;lia)⟩
  |succ i=>
   rw[f8 i 1,ub,hP i (by lia),decide_eq_true_eq]
 have h1:=(hc _).mpr (SM t hS 5 0 λi hi=>(hbt i (My t 5 0 i hi).2).mpr hi);have h2:PR rs p (2*j)<=F6 S p (B0 rs).ks:=by
  rw[Nf t];refine aV (SC (t.ordI_nodup 5 0) (V6 rs p S 5 0) _ λi hi h=>(hbt i (t.ordI_lt t.pos hi)).mp h) ?_;rw[SL];exact aH _
 cases v with
 |none=>exact absurd h1 (hb j hj)
 |some v=>
  obtain⟨⟨i,_,g1,g2⟩,g3⟩:=hb;have a:=lo i g1;have c:=g3 j hj h1;rw[g2]at a;congr 1
  lia
end
variable {n:Nat}
def XR(hp:∀y∈p,y.2<=1000000)(z:Str):Hh p z<=1000000:=by
 unfold Hh;cases e:p.find? λx=>decide (x.1=z) with
 |none=>exact cS _
 |some y=>exact hp y (hG e)
def IA(r:CK ks rs):Bd (B0 rs):=Nm r r.t.pos (by rw[r.t.root1])
def Lx(r:CK b.ks rs):Hd b (B0 rs):=λy hy=>by
 obtain⟨i,hi,_,e,_⟩:=FP r.t r.nd (IA r) hy;rw[e];have:=r.o _ (Co hi);exact⟨this.1.l2,this.2⟩
def Qi(r:CK ks rs)(pk:VH rs p):He p (B0 rs).ks:=λy hy=>by
 obtain⟨i,hi,e,_,_,e2⟩:=FP r.t r.nd (IA r) (aC _ hy);unfold SK at e2;rw[if_neg (Ge hy)]at e2;cases i with
 |zero=>cases e2
 |succ i=>
  unfold PJ;rw[pk.1,e];refine bY (dS.mpr ⟨i,?_⟩);rw[List.getElem?_drop,f8];exact Bc hi
def RO{b:Bk}(o:b.Ok){l:Li}(hl:l∈b.ls):b.lic l.ky=l:=by
 obtain⟨h1,h2⟩:=Nu (ls:=b.ls) (bY hl);exact B.C9 o.nd h1 hl h2
def Vs:AL .eq (.tup [.str (Str.ofString "told")]) (.tup [.str (Str.ofString "told")])=some true:=by decide +kernel
def oJ:FW (BB l) (.int 0)=some l.key:=rfl
def uh:BA [a,b,c] 0=some a:=rfl
def ug:BA [a,b,c,d] 0=some a/\BA [a,b,c,d] 1=some b:=⟨rfl,rfl⟩
def U7{b:Bk}(bok:b.Ok){rs:List Rw}(r:CK b.ks rs)(h7:rs.length<=7)(pk:VH rs p)(hl:l∈b.ls):Ph (n+21) 77 [.v (.lst (b.ls.map BB)),.v b.mv,.v (.lst (rs.map Bb)),.v (B6 p),.v (BB l)] h=.ok (.v (.bl true)) h:=by
 refine Ag (d:=d77) rfl rfl ?_;have bd:=IA r;have e67:∀h,Ph (n+20) 67 [.v (.lst (rs.map Bb)),.v (.int 0)] h=.ok (.v (B0 rs).mv) h:=λh=>U3 r 5 0 (n+5) h r.t.pos (by rw[r.t.root1]);obtain⟨m,em,q⟩:=Ko (n:=n) (h:=h) bok bd (Lx r) (k:=l.ky) (bY hl) (Qi r pk) λy _=>XR pk.2 _;rw[RO bok hl]at q;have em:Ph (n+20) 65 [.v b.mv,.v (B0 rs).mv,.v l.key,.v (B6 p)] h=.ok (.v m) h:=em;have e73:∀h,Ph (n+20) 73 [.v (.lst (b.ls.map BB)),.v (.lst (rs.map Bb)),.v (BB l)] h=_:=λh=>HK (n:=n+12) (h:=h) bok.ok bok.l12 r l;have hst:AN b (B0 rs) l=[] ↔ (AA rs 5 0).filter (IV b.ls rs l)=[]:=by rw[Xa r.t r.nd bd,Of r.t];rfl
 have eqn:AL .eq (.lst (((AA rs 5 0).filter (IV b.ls rs l)).map (RK b.ls rs l))) (.lst [])=some ((AA rs 5 0).filter (IV b.ls rs l)).isEmpty:=by
  refine(Fg (BV λi hi=>Q5 r l (r.t.ordI_lt r.t.pos (bS.mp hi).1))).1.trans ?_;rw[fL]
 generalize (AA rs 5 0).filter (IV b.ls rs l)=F at e73 hst eqn;generalize F.map (RK b.ls rs l)=M at e73 eqn;obtain⟨_,e76,v,rfl,hb⟩:=Kp (n:=n+11) (h:=h) bok.ok bok.l12 r h7 pk l;have e76:Ph (n+20) 76 [.v (.lst (b.ls.map BB)),.v (.lst (rs.map Bb)),.v (B6 p),.v (BB l)] h=.ok (.v (ZR v)) h:=e76;cases q with
 |told e q=>
  subst q;rw[hst.mp e]at eqn;simp[d77,Aa,e67,oJ,-Ar,em,show Ph (n+20) 73 _ h=_ from e73 h,eqn,Vs]
 |never y hy e z w q=>
  subst q;have hne:F.isEmpty=false:=by
   cases hF:F with
   |nil=>rw[hst.mpr hF]at hy;cases hy
   |cons _ _=>rfl
  rw[hne]at eqn;have:=M4 r.t r.nd bd hb hy e;subst this;have e76:Ph (n+20) 76 _ h=.ok (.v .non) h:=e76;have ei:AL .is_ .non .non=some true:=rfl;simp[d77,Aa,e67,oJ,uh,-Ar,em,show Ph (n+20) 73 _ h=_ from e73 h,eqn,show Ph (n+20) 76 _ h=_ from e76,ei]
 |loose e f z w q=>
  subst q;have hne:F.isEmpty=false:=by
   cases hF:F with
   |nil=>exact absurd (hst.mpr hF) e
   |cons _ _=>rfl
  rw[hne]at eqn;have:=M5 r.t r.nd bd hb f;subst this;generalize F6 (Hg b (B0 rs) l) p (B0 rs).ks=Q at em e76;have e76:Ph (n+20) 76 _ h=.ok (.v (.int (Q:Int))) h:=e76;have ei:AL .is_ (.int (Q:Int)) .non=some false:=rfl;have i1:OX T.gt.cs [.int (Q:Int),.ty .int]=some (.bl true):=rfl;have i2:OX T.gt.cs [.int (Q:Int),.ty .bl]=some (.bl false):=rfl;simp[d77,Aa,e67,oJ,ug,-Ar,em,show Ph (n+20) 73 _ h=_ from e73 h,eqn,show Ph (n+20) 76 _ h=_ from e76,ei,i1,i2]
end BK74
namespace BK74
open PySem B L2
variable {n:Nat}
noncomputable def Ce(l:List Int)(k:Int):Int:=if k<l.length then l.getD k.toNat 0 else 7919*k+13
def Rm{k:Int}(hk:0<=k):Ph (n+1) 54 [.v (.scr (l.map .int)),.v (.int k)] h=.ok (.v (.int (Ce l k))) h:=by
 refine Ag (d:=d54) rfl rfl ?_;unfold Ce;by_cases hc:k<l.length
 ·have:k.toNat<l.length:=by lia
  simp[d54,Aa,hc,hk,this]
 simp[d54,Aa,hc]
def Lb{α:Type}(f:α->MV)(l:List α)(i:Int):∃k,EW (.lst (l.map f)) none (some i)=some (.lst ((l.take k).map f)):=by
 refine⟨HT.sIx (l.map f).length (l.map f).length (some i)-HT.sIx (l.map f).length 0 none,?_⟩;show some (MV.lst (C1 _ _ _))=_;unfold C1;rw[show HT.sIx (l.map f).length 0 none=0 from rfl,iI,eU]
def tB:∀k:Fin 31,HT.sIx k.val k.val (some 7)=min 7 k.val:=by decide +kernel
def pL{rs:List Rw}(h30:rs.length<=30):EW (.lst (rs.map Bb)) none (some 7)=some (.lst ((rs.take 7).map Bb)):=by
 show some (MV.lst (C1 _ _ _))=_;unfold C1;rw[aI,tB ⟨rs.length,by lia⟩,show HT.sIx rs.length 0 none=0 from rfl,iI,Nat.sub_zero,eU];congr 2;rw[List.take_eq_take_iff,aI];show min (min 7 rs.length) _=_
 lia
def Ow(t:Ah rs){m:Nat}(hm:0<m):Ah (rs.take m):=by
 have g:∀{i:Nat}{r:Rw},(rs.take m)[i]?=some r->rs[i]?=some r/\i<m:=λ{i r} h=>by
  rw[dO]at h;split at h
  ·exact⟨h,by assumption⟩
  cases h
 refine⟨by rw[bC];have:=t.pos;lia,λr hr=>t.ok r (c9 hr),λr hr=>t.root r (g hr).1,λi r hr hi=>?_,λa=>aV ?_ (t.few a)⟩
 ·obtain⟨g1,a,ra,g2,g3,g4,g5⟩:=t.up i r (g hr).1 hi;exact⟨g1,a,ra,g2,g3,by rw[dO,if_pos (by have:=(g hr).2;lia)];exact g4,g5⟩
 exact((cN m rs).filter _).length_le
def TM(r:CK ks rs){m:Nat}(hm:0<m):CK ks (rs.take m):=
 ⟨Ow r.t hm,λx hx=>r.o x (c9 hx),by rw[bC];have:=r.l;lia,r.nd.sublist ((cN m rs).map _)⟩
def gg{B:Int}(h0:0<=B)(h1:B<=1000):∃J:Nat,Ez (.v (.int 4)) (.v (.int B))=some ⟨(List.range J).map λ(i:Nat)=>MV.int (4+(i:Int)*2),none⟩:=by
 have e:∀a b,Ez (.v (.int a)) (.v (.int b))=if 0<=a/\a<2^60/\0<=b/\b<2^60 then some ⟨Cp a ((b-a+1) / 2).toNat,none⟩ else none:=λ_ _=>rfl;refine⟨((B-4+1) / 2).toNat,?_⟩;rw[e,if_pos (by lia)];rfl
def uy(l:List Int)(b:Bk)(w zs:List Str)(rs:List Rw)(p:Pc)(k:Int)(h:MH)(μ:En)(h':MH):Prop:=∃v4,μ=[some (.v (.scr (l.map .int))),some (.v (.lst (b.ls.map BB))),some (.v (.lst (w.map MV.str))),some (.v (.lst (b.ls.map Li.mv))),v4,some (.v b.mv),some (.v (.lst (zs.map MV.str))),some (.v (.int k)),some (.v (.lst (rs.map Bb))),some (.v (B6 p))]
def uw(l:List Int)(b:Bk)(w zs:List Str)(j:Nat)(μ:En)(h':MH):Prop:=E4 λv4 v7 v8 v9=>μ=[some (.v (.scr (l.map .int))),some (.v (.lst (b.ls.map BB))),some (.v (.lst (w.map MV.str))),some (.v (.lst (b.ls.map Li.mv))),v4,some (.v b.mv),some (.v (.lst (zs.map MV.str))),v7,v8,v9]
def jd:Tp T 60 78:=by
 intro l hl;obtain⟨_,eb,ls0,rfl,rok⟩:=QY (n:=54) (h:=[]) (Ce l 0) (Ce l 1)
 suffices HA (Ph 60 78 [.v (.scr (l.map .int))] []) (λm _=>m=.bl true) by
  obtain⟨m,h',e,rfl⟩:=this;exact⟨h',e⟩
 refine EC (d:=d78) rfl rfl ?_;have c0:∀k h,0<=k->Ph 59 54 [.v (.scr (l.map .int)),.v (.int k)] h=.ok (.v (.int (Ce l k))) h:=λk h hk=>Rm (n:=58) hk;obtain⟨k6,ec⟩:=Lb BB ls0 6;have rok:Tn (ls0.take k6):=⟨λx hx=>rok.1 x (c9 hx),rok.2.1.sublist ((cN _ _).map _),by rw[bC];have:=rok.2.2;lia⟩;generalize ls0.take k6=ls at ec rok;obtain⟨hok,hnk,h12⟩:=rok;obtain⟨_,ew,ws,rfl,hz,hzw,hznd⟩:=Gu (n:=56) (h:=[]) (Ce l 2) (m:=12) (by decide);have ew:Ph 59 58 [.v (.int (Ce l 2)),.v (.int 12)] []=.ok (.v (.lst (ws.map MV.str))) []:=ew;obtain⟨_,e66,a,rfl,hfit⟩:=Uz (n:=58) (h:=[]) (ls:=ls) (Ce l 2) hok;obtain⟨_,ez,zs,rfl,h8,h8w,h8nd⟩:=Gu (n:=56) (h:=[]) (Ce l 3) (m:=8) (by decide);have ez:Ph 59 58 [.v (.int (Ce l 3)),.v (.int 8)] []=.ok (.v (.lst (zs.map MV.str))) []:=ez;obtain⟨b,eb7⟩:∃b:Fin 7,Ce l 2 / 2%7=(b.val:Int):=Ms ⟨cF _ (by decide),bX _ (by decide)⟩;have s1:EW (.lst (ws.map MV.str)) none (some (a.val:Int))=some (.lst ((ws.take a.val).map MV.str)):=by
  show some (MV.lst (C1 _ _ _))=_;unfold C1;rw[aI,hz,tF,show HT.sIx 12 0 none=0 from rfl,iI,Nat.sub_zero,eU]
 have s2:EW (.lst (ws.map MV.str)) (some 6) (some (6+(b.val:Int)))=some (.lst (((ws.drop 6).take b.val).map MV.str)):=by
  show some (MV.lst (C1 _ _ _))=_;unfold C1;rw[aI,hz,nU,show HT.sIx 12 0 (some 6)=6 from rfl,Nat.add_sub_cancel_left,eU,iN]
 have l1:(ws.take a.val).length=a.val:=by rw[bC,hz];lia
 have l2:((ws.drop 6).take b.val).length=b.val:=by rw[bC,eE,hz];lia
 obtain⟨bk,hbk⟩:∃bk:Bk,bk=⟨(ws.take a.val).map MV.str,((ws.drop 6).take b.val).map MV.str,ls⟩:=⟨_,rfl⟩;have bok:bk.Ok:=by rw[hbk];exact⟨hok,hnk,h12⟩
 have bls:bk.ls=ls:=by rw[hbk]
 simp[d78,Aa,c0,eb,ec,ew,AH];rw[AI (h1:=[]) ls BB Li.mv ?_ ?_ (B3 (by lia)) ?_]
 ·simp[c0];rw[Iz (show T.gt.ini 21=some 104 from rfl),Nq (rs:=[.v (.lst ((ws.take a.val).map MV.str)),.v (.lst (((ws.drop 6).take b.val).map MV.str)),.v (.lst (ls.map Li.mv))]) (h1:=[]) (c':=21) (ns:=[15,30,31]) (vs:=[.lst ((ws.take a.val).map MV.str),.lst (((ws.drop 6).take b.val).map MV.str),Jv ls]) ?_ ?_]
  ·have ebk:MV.obj 21 [15,30,31] [.lst ((ws.take a.val).map MV.str),.lst (((ws.drop 6).take b.val).map MV.str),Jv ls]=bk.mv:=by rw[hbk];rfl
   rw[ebk];obtain⟨J,eJ⟩:=gg (B:=if 8<(if 10<(l.length:Int) then 10 else(l.length:Int)) then(if 10<(l.length:Int) then 10 else(l.length:Int)) else 8) (by lia) (by lia);simp[c0,ez,eJ];subst bls;clear hbk ebk;refine CC (CD (xs:=List.range J) (λi=>MV.int (4+(i:Int)*2)) (uw l bk ws zs) ⟨_,_,_,_,rfl⟩ ?_) ?_
   ·rintro j i μ h' hj ⟨v4,v7,v8,v9,rfl⟩;refine⟨_,rfl,?_⟩;obtain⟨k,hk,k0⟩:∃k:Int,4+(i:Int)*2=k/\0<=k:=⟨_,rfl,by lia⟩;rw[hk];obtain⟨_,et,rs0,rfl,r0⟩:=U0 (n:=55) (h:=h') (Ce l k) (zs:=zs) (ks:=bk.ks) h8 h8w h8nd (λk hk=>bok.word hk) (by unfold Bk.ks;rw[aI];exact h12);have ct:=pL r0.l;have r:=TM r0 (m:=7) (by decide);have h7:(rs0.take 7).length<=7:=by rw[bC];lia
    generalize rs0.take 7=rs at ct r h7;obtain⟨_,_,ep,p,x',rfl,pk,rfl⟩:=O9 (n:=56) (h:=h') (M2 (Ce l (k+1))) r.t.pos r.l r.nd;have ebx:Ph 59 56 [.v (.int (Ce l (k+1)))] h'= .ok (.r (hlen h')) (hnew h' (Ay (M2 (Ce l (k+1))))):=FU (n:=58);obtain⟨tl,e2,htl⟩:∃tl:List Li,EW (.lst (bk.ls.map BB)) none (some 2)=some (.lst (tl.map BB))/\∀x∈tl,x∈bk.ls:=by
       obtain⟨k2,e2⟩:=Lb BB bk.ls 2;exact⟨_,e2,λx hx=>c9 hx⟩
    have c1:=c0 (k+1) h' (by lia);simp[c0 k _ k0,AH];rw[AI (h1:=h') bk.ls BB (λl=>AF l.ky) ?_ ?_ (B3 (by lia)) ?_]
    ·have ek:bk.ls.map (λl=>AF l.ky)=bk.ks.map AF:=by unfold Bk.ks;rw[cJ];rfl
     rw[ek];simp[et,ct,c1,ebx,ep,e2];refine Vj (CD (xs:=tl) BB (λ_=>uy l bk ws zs rs p k h') ⟨_,rfl⟩ ?_) ?_
     ·rintro j2 x μ h2 hj2 ⟨v,rfl⟩;refine⟨_,rfl,?_⟩;simp[show ∀h,Ph 59 77 _ h=_ from λh=>U7 (n:=38) (h:=h) bok r h7 pk (htl x (List.mem_of_getElem? hj2))];exact⟨_,rfl⟩
     rintro μ h2 ⟨v,rfl⟩;simp;exact⟨_,_,_,_,rfl⟩
    ·exact λ_ _=>rfl
    ·simp
    intro x hx;exact⟨_,rfl,by simp[startC,BB,EK,-Ar];rfl⟩
   rintro μ h' ⟨v4,v7,v8,v9,rfl⟩;simp
  ·simp[e66,s1,eb7,s2]
  exact Ro (n:=54) (λz hz=>hzw z (c9 hz)) (hznd.sublist (cN _ _)) (by lia) (λz hz=>hzw z (eT (c9 hz))) (hznd.sublist ((cN _ _).trans (gR _ _))) (by lia) (by rw[l1];exact hfit) hnk h12
 ·exact λ_ _=>rfl
 ·simp
 intro x hx;refine⟨_,rfl,?_⟩;rw[U4 (n:=53) (hok x hx)];simp[startC,BB,EK,-Ar]
end BK74
open PySem PySem.W PyProof.Rows
def BK74.nmsOk:B.CO BK74.T.names=true:=by decide +kernel
set_option maxRecDepth 100000 in
set_option maxHeartbeats 0 in
theorem PySem.Challenge.cw_grantweave_k74_whole_no_cheaper_joins_holds : PySem.Challenge.rw_grantweave_k74_whole_no_cheaper_joins.Holds := by
 refine hd0 ?_
 k_fill
 refine B.Me (l:=PySem.Challenge.rw_grantweave_k74_whole_no_cheaper_joins) (x:= "_law_script") (T:=BK74.T) (n:=60) (f:=78) (dd:=BK74.d78) rfl rfl ⟨rfl,by decide,by decide,rfl⟩ rfl BK74.nmsOk BK74.jd rfl rfl rfl ?c
 case c=>intro w;kernel_rfl
