import PyProof.Rows.All
import Wide.All
import OpenK.AllK
import Wide.FinOn
import PyProof.EqAt
import PyProof.EqKinds
import PyProof.TupleCall
import KE.BitLaws
import Open.SpecLaws
import KE.OsHead
import KE.OsGo
import PySem.Challenge.RW_meetingbodies_s01_answers
import KE.KDictList
import KE.KDictObj
import KE.KDictSum
import PyProof.ListRange
import PyProof.ZipIter
import KE.KItemsList
import KE.IntBitsLaws
set_option Elab.async false
set_option linter.all false
set_option maxRecDepth 100000
set_option maxHeartbeats 4000000
open List (all_cons all_eq_true any_map any_nil ext_getElem? filter_filter filter_nil foldl_append forIn_toArray getElem_inj insertIdx_zero isEmpty_iff length_drop map_congr_left map_nil nodup_append not_mem_nil of_mem_zip sum_cons take_succ)
open Vbwsam (bodyAt BODIES FAR FAST bodyNums isOrder metNums noBody noBodyAt swept ticksOf)
open PySem.W (Frag)
open List renaming length_map→a7r,getElem?_map→a7t,getElem?_eq_getElem→a7u,getElem?_eq_some_iff→a7x,getD_eq_getElem?_getD→a7y,mem_cons_of_mem→a7B,mem_cons_self→a7C,mem_cons→a7D,mem_of_getElem?→a7F,range→a7J,size_toArray→a7K,length_append→a7M,mem_singleton→a7N,length_cons→a7O,map_cons→a7U,mem_filter→a7X,length_range→a70,filterMap_map→a71,append_nil→a72,contains_eq_mem→a73,length_filter_le→a75,mem_append→a77,filter_cons→a8b,mem_map→a8j,map_append→a8m,take_length→a8o,pairwise_cons→a8p,flatMap_append→a8q,map_map→a8s,mem_append_right→a8u,getElem?_eq_none→a8y,mem_flatMap→a8B,eq_nil_of_length_eq_zero→a8C,mem_range→a8G,nodup_cons→a8J,length_take→a8L,foldl_cons→a8P,getElem?_set_self→a8R,getElem?_zip_eq_some→a8S,any_cons→a8T,range_succ→a8W,getElem?_set_ne→a8X,lookup_cons→a8Y,getElem?_of_mem→a8Z,append_assoc→a82,length_singleton→a83,mem_append_left→a88,filterMap_cons→a89,cons_append→a9b,replicate→a9c,filter_append→a9e,length_set→a9g,insertIdx_succ_cons→a9j,flatMap_cons→a9l,forIn_nil→a9o,any_eq_true→a9p,nodup_nil→a9q,flatMap_singleton→a9s,zip_cons_cons→a9u,forIn_cons→a9v,find?_cons→a9w,length_zip→a9y,filter_congr→a9z,getElem?_range→a9E,lookup→a9F,length→a9G,length_replicate→a9I,filterMap_append→a9K,getElem?_append_left→a9P,getLast?_eq_getElem?→a9Q,take_of_length_le→a9Z,range_succ_eq_map→a90,mem_of_mem_take→a97
open Vbwsam renaming Body→a7s,step→a7H,State→a7T,pulled→a7V,isIndex→a78,isFixed→a79,isPlace→a8a,isSize→a8f,Pair→a8g,Root→a8r,flags→a8x,touching→a8z,inr→a8D,guarded→a8H,noneOpen→a8K,rayTo→a8N,Shape→a8U,blocked→a8V,absolute→a9h,truth→a9i,ray→a9k,clip→a9r,parts→a9D,Call→a93
open Option.some renaming inj→a7v
open PySem.Heap renaming get?_push_of_some→a7w,lt_size→a7I,get?_push_size→a7P,size_push→a8i,get?_update_other→a9a,get?_update_self→a9d,SameBut→a9B,IsList→a92
open Bool renaming and_eq_true→a7z,eq_iff_iff→a7W,false_ne_true→a7Z,false_eq_true→a8k,or_eq_true→a8v,noConfusion→a8A,not_eq_false'→a8F,true_and→a9m,false_and→a9H,or_false→a9N,eq_false_iff→a9Y,and_false→a98
open Nat renaming le_refl→a7A,le_trans→a7G,ne_of_lt→a7L,lt_of_lt_of_le→a7Y,lt_of_le_of_lt→a8l,zero_le→a8n,lt_irrefl→a8I,le_add_right→a8M,ne_of_gt→a8O,not_lt_zero→a8Q,lt_trans→a84,lt_succ_self→a9L,min_self→a9S,lt_succ_iff_lt_or_eq→a9T,le_of_succ_le→a9X
open Int renaming mul_le_mul_of_nonneg_right→a7E,mul_nonneg→a7S,mul_lt_mul_of_pos_right→a74,mul_le_mul_of_nonneg_left→a76,mul_pos→a8E,le_of_lt→a85,mul_zero→a9t,neg_mul_neg→a9x,lt_of_mul_lt_mul_right→a9M,neg_mul→a9O,add_comm→a9R,toNat_natCast→a9W,le_refl→a91,lt_of_not_ge→a95,zero_add→a96
open PySem.F renaming plainAttrs_list→a7Q,slot_list_append→a8c,type_list_append→a8d,slot_list_extend→a86,type_list_extend→a87,plain_extend_loop→a9A
open PySem.W renaming nsIn→a7R,mg_of→a8e,findIn→a8h,mg_none_of→a8t,keepIn→a80,emptyDict→a81,instObj→a9f,fnOf→a9C,codeIn→a9U,hasDictIn→a9V,plainGet→a94,callWith_K→a99
open Classical renaming byContradiction→a8w
open Array renaming length_toList→a9n,getElem?_toList→a9J
namespace PySem.W.Fast
def tw6236645359804330022:=0
def tw11934704181793111795:=0
def tw665040326298925041:=0
def tw4023739983174081734:=0
def tw5548441409890546385:=0
def tw4340199585394872197:=0
def tw12211994420438452553:=0
def tw2214002478227241359:=0
def tw12497415049443120981:=0
def tw3544448812329024308:=0
def tw3300155393865128038:=0
def tw7786674987621645534:=0
def tw15945461657548483107:=0
def tw5668074302642234427:=0
def tw10933809770109070129:=0
def tw11759540901308844179:=0
def tw6284130559239281087:=0
def tw12506961015587750964:=0
def tw15223539334113571639:=0
def tw7374415861771054265:=0
def tw7959544284230228470:=0
def tw5946310644002814257:=0
def tw2996807224408077239:=0
def tw17891186711405106900:=0
def tw16304095878338376320:=0
def tw2555770622333134986:=0
def tw12150863476791334825:=0
def tw10078505023336294653:=0
def tw16310214013329802869:=0
def tw16099484532745436478:=0
def tw17292721828869769754:=0
def tw16098457453097151731:=0
def tw3474242319331514855:=0
def tw12665745185432042815:=0
def tw10537411643377202180:=0
def tw9406011660113949036:=0
def tw13611434222142387083:=0
def tw12579773802535482690:=0
def tw15923315116219326279:=0
def tw785564832189017453:=0
def tw2352645172271259404:=0
def tw5163183326120790096:=0
def tw2556526347372019759:=0
def tw12189980040259972747:=0
def tw3037033146848339219:=0
def tw232086914721775948:=0
def tw14013130940079006001:=0
def tw12496570603423623341:=0
def tw12039659664511902990:=0
def tw1717700465487099903:=0
def tw1282082775655061799:=0
def tw13114846622841954788:=0
def tw5230157100091626704:=0
def tw11870003467511680246:=0
def tw4731980531162153200:=0
def tw15095185191906619424:=0
def tw11580536920166112083:=0
def tw14768497838563371883:=0
def tw9955733635918340373:=0
def tw8704903768457192853:=0
def tw6088589280054067660:=0
def tw17305525971546670107:=0
def tw16760006858659621382:=0
def tw12774765677688699710:=0
def tw8153060691807055531:=0
def tw10881370650689217838:=0
def tw2644238512591557478:=0
def tw17152322152423028673:=0
def tw9169878952987786586:=0
def tw10536669299572554581:=0
def tw5143108027435562400:=0
def tw10622854617245160744:=0
def tw1672813641793692982:=0
def tw254261300418923344:=0
def tw8815014726764972465:=0
def tw17776361164238042008:=0
def tw493201652641578583:=0
def tw15292396554201523752:=0
def tw10455254200642478035:=0
def tw14530377778236226697:=0
def tw2844587197464751799:=0
def tw18258100154759344865:=0
def tw7297951986226449175:=0
def tw14217931049126242321:=0
def tw16019538168862161718:=0
def tw12465865454044401845:=0
def tw5155688282153699654:=0
def tw13243714085289746584:=0
def tw13005416366529412977:=0
def tw9029306029918346411:=0
def tw4236994314397350272:=0
def tw8176462366290184828:=0
def tw13444143240864691667:=0
def tw5912466172749829769:=0
def tw5946698215675112439:=0
def tw4332504497838893457:=0
def tw13240198595687473605:=0
def tw17923365328238076088:=0
def tw50844857632719534:=0
def tw18354955243700029897:=0
def tw7811470659012261906:=0
def tw3668872062782653205:=0
def tw17263800267990081415:=0
def tw17964021822793894590:=0
def tw426072498658560563:=0
def tw12600554104560888055:=0
def tw12750129292404449222:=0
def tw16212696035809097352:=0
def tw3555911614017114396:=0
def tw4107471147992737750:=0
def tw3465336696684909700:=0
def tw9501786542369862380:=0
def tw4030049964117558408:=0
def tw17913969136998307186:=0
def tw5253023847834635535:=0
def tw4891359588284712382:=0
def tw14676870735141037806:=0
def tw18004258282062775959:=0
def tw2892661161545148028:=0
def tw5918635245010303607:=0
def tw13998017550764286312:=0
def tw15928472894117328807:=0
def tw1122469523094118911:=0
def tw18199080641215332017:=0
def tw16642299777364141979:=0
def tw5919305314414626110:=0
def tw9538499598485312935:=0
def tw6277250457572069043:=0
def tw17611037522315273055:=0
def tw1556974184771144256:=0
def tw6338077536033979062:=0
def tw8400968506965227448:=0
def tw15495634137265494471:=0
def tw14430146699894907722:=0
def tw4537913794315025180:=0
def tw183410410756921789:=0
def tw1285653411966297971:=0
def tw7466499877749284123:=0
def tw3969698723607526555:=0
def tw1626411812163688489:=0
def tw9223036339222114929:=0
def tw12467086401726681230:=0
def tw18101653974755137332:=0
def tw9473798846559801078:=0
def tw5982093535586310348:=0
def tw13943042948917848160:=0
def tw2209984865166206911:=0
def tw12743089736912004953:=0
def tw15936752516571500095:=0
def tw808676230711234347:=0
def tw11531124381973983592:=0
def tw4706471274176551311:=0
def tw973830236140905974:=0
def tw948938910635964579:=0
def tw8520104167906225295:=0
def tw11869342089978401942:=0
def tw17313667041627673777:=0
def tw14962135361290351665:=0
def tw10818031129966391424:=0
def tw16182297715805531387:=0
def tw12844885844965985313:=0
def tw12967465514874988191:=0
def tw6907600818854677359:=0
def tw8400608247038880349:=0
def tw13187229448120065270:=0
def tw2913404172255211336:=0
def tw4527052791826393157:=0
def tw11645411020407165319:=0
def tw14875237492146687361:=0
def tw1984996336206883074:=0
def tw17724905843234520811:=0
def tw13157626404731115197:=0
def tw9554174030104920784:=0
def tw17221782528050111533:=0
def tw11314944812214111807:=0
def tw3070435762909847254:=0
def tw3052370819289615921:=0
def tw14577918507082738066:=0
def tw6274572308055730533:=0
def tw14272082777149842968:=0
def tw10827056754112504609:=0
def tw9905892414387096686:=0
def tw18314925813224129785:=0
def tw17190092266493596554:=0
def tw5498711142808946825:=0
def tw17135023909489347542:=0
def tw7387727168178684710:=0
def tw13733581014902752748:=0
def tw7844540252918578121:=0
def tw6031111858493543478:=0
def tw2726450637264641609:=0
def tw13290727001138958989:=0
def tw6088342823312728259:=0
def tw2481816538363702096:=0
def tw12838064913746498726:=0
def tw7655149739834684999:=0
def tw5953627870770557326:=0
def tw18306114953727836855:=0
def tw1816566692721251115:=0
def tw15643724817571542676:=0
def tw5872482231981782347:=0
def tw5364626801759408047:=0
def tw4454216138005223031:=0
def tw10159678012173797020:=0
def tw18300488155844250028:=0
def tw17779454901994039537:=0
def tw17770748204407419025:=0
def tw16429338071715101158:=0
def tw16806997361892627673:=0
def tw5839612008293233588:=0
def tw8778640804348790918:=0
def tw2609513148831731371:=0
def tw1486834625748783177:=0
def tw1196303279516073698:=0
def tw14725819575729374274:=0
def tw2359349076503593412:=0
def tw1608771588668136071:=0
def tw13024357792201746465:=0
def tw1156696489470267436:=0
def tw2120088830198971893:=0
def tw1787596310950410817:=0
def tw4588868327524352864:=0
def tw26751204235834341:=0
def tw6755720761573730475:=0
def tw4053761664689765439:=0
def tw17195934073148225626:=0
def tw150974467885990569:=0
def tw2105793516406215319:=0
def tw13267317881899554210:=0
def tw9303737999592901632:=0
def tw9507387524488942159:=0
def tw5694599537389434908:=0
def tw17841655077466150906:=0
def tw15263073752078115933:=0
def tw9709820647859706648:=0
def tw277379180735586065:=0
def tw16704333109578396101:=0
def tw15636902662809056510:=0
def tw4467745198497699267:=0
def tw14634597767626840881:=0
def tw18153101533242538805:=0
def tw11424769269828013287:=0
def tw8117859689784873736:=0
def tw13717610610598862912:=0
def tw13549520416818165482:=0
def tw11769857762317609846:=0
def tw11709835988655810699:=0
def tw18153973942034988402:=0
def tw7033186358422438786:=0
def tw2604111767313788261:=0
def tw13810020205349537954:=0
def tw12395944232835586202:=0
def tw5516536811599731293:=0
def tw14670717406050113857:=0
def tw12832446046865303979:=0
def tw4786424651687446626:=0
def tw10930255743033102051:=0
def tw9012431547217671847:=0
def tw16653107268187690386:=0
def tw10049471644278268046:=0
def tw9826601055379528870:=0
def tw10279202360542122763:=0
def tw9542020183777688788:=0
def tw9066438519575942030:=0
def tw718659957081505824:=0
def tw6211405547991106971:=0
def tw5332658222342907907:=0
def tw4992692955736502627:=0
def tw2853129697804817111:=0
def tw2691565320371797719:=0
def tw17588469517598378775:=0
def tw1716173492551073064:=0
def tw16024313916208826682:=0
def tw14275004353063941041:=0
def tw14238518587135323938:=0
def tw13889815858702155714:=0
def tw13221308058744718371:=0
def tw12701620766713547615:=0
def tw11501584543511077253:=0
def tw1133631753561915551:=0
def tw11009998234021971372:=0
def tw10247712335833186583:=0
def tw4406070965574957044:=0
def tw9617585788814624961:=0
def tw7718152237353891830:=0
def tw6478184001234989228:=0
def tw3550054753274187087:=0
def tw2810339502921547563:=0
def tw14845189465001201799:=0
def tw10790932608664283408:=0
def tw9270299682512554570:=0
def tw6400531598951251231:=0
def tw543806236422702403:=0
def tw352203858703704866:=0
def tw2925698266762838229:=0
def tw16259006585726447489:=0
def tw15612868671064515065:=0
def tw15351289852375434538:=0
def tw1476283965858953552:=0
def tw14098379037267004144:=0
def tw14092062505910143857:=0
def tw10731917152095137823:=0
def tw2440687746642470018:=0
def tw13408001260662843072:=0
def tw10907843504656503765:=0
def tw17921876448108557832:=0
def tw12936068642305601002:=0
def tw10160045584475565466:=0
def tw7574231447880585200:=0
def tw607044801457616765:=0
def tw4631516931268790687:=0
def tw15143201855819216592:=0
def tw12157606948168898339:=0
def tw9351906235888691826:=0
def tw9310926909929712530:=0
def tw9981516503258465444:=0
def tw9579652449700552236:=0
def tw9282188350585542671:=0
def tw9006841048558672111:=0
def tw8798284824285984032:=0
def tw8757214178552607283:=0
def tw8350164512563528433:=0
def tw8149290292019547330:=0
def tw7955365689526588810:=0
def tw7732445036116979564:=0
def tw7680586580423449134:=0
def tw7665821463134708:=0
def tw7581395659468231036:=0
def tw7480422422534570942:=0
def tw7092691162440538526:=0
def tw7038960848071859886:=0
def tw7020453153668897850:=0
def tw692821653624996346:=0
def tw685858342146160256:=0
def tw6688967266101591025:=0
def tw6678043301870405685:=0
def tw6675238624900910041:=0
def tw6218399587231022779:=0
def tw6213715467889342568:=0
def tw6182477661688728215:=0
def tw6124162834723079231:=0
def tw557442658749158692:=0
def tw5535499516964075072:=0
def tw5286948191781287997:=0
def tw5236883860658560281:=0
def tw5107523633962030234:=0
def tw4776445781603602847:=0
def tw4748574071650016990:=0
def tw4360096799225400945:=0
def tw4355219424684626159:=0
def tw3965938146643336092:=0
def tw3859604200333557022:=0
def tw3827347399148125173:=0
def tw3550399368871925583:=0
def tw33476706901643651:=0
def tw2789349630677686967:=0
def tw2749399001386079582:=0
def tw2714601469311207662:=0
def tw2608985358894545548:=0
def tw2600918865236861172:=0
def tw251166176859410252:=0
def tw2489422438517357811:=0
def tw2383308263109257710:=0
def tw2340879043390844260:=0
def tw2195970430344132585:=0
def tw2157820166602426546:=0
def tw2109500103795726793:=0
def tw2090391395558350815:=0
def tw1839448145081864206:=0
def tw18303962126913762007:=0
def tw18022844774848751069:=0
def tw17541114201696333124:=0
def tw17476118729022975855:=0
def tw17352163012994748587:=0
def tw16870295082701450623:=0
def tw16771482194252751134:=0
def tw16389003890122865988:=0
def tw16180308022912935354:=0
def tw16174161932244739365:=0
def tw16141727335944448821:=0
def tw15819695950544070480:=0
def tw15696903396097426350:=0
def tw15416895356834211390:=0
def tw15388937200035735403:=0
def tw15251448713145306192:=0
def tw15137198824441458683:=0
def tw15019106309800267755:=0
def tw1482106093821689662:=0
def tw14632479446650694475:=0
def tw14523222477177594048:=0
def tw14485291145227312110:=0
def tw14470033476206047588:=0
def tw14418352350758844183:=0
def tw14167439797798517167:=0
def tw1406414215319847319:=0
def tw13976704114976973716:=0
def tw13792988169419421424:=0
def tw13748072504610842743:=0
def tw13746079622274600997:=0
def tw13460600591777678778:=0
def tw13418142628144084086:=0
def tw13121196110520829537:=0
def tw12921176166830602059:=0
def tw12591215414661374811:=0
def tw12526123415441229380:=0
def tw12280051583086079830:=0
def tw11967476339240271217:=0
def tw11951972959823972962:=0
def tw11925529453856037266:=0
def tw11897866182326161893:=0
def tw11896438113283976158:=0
def tw11793339799707072141:=0
def tw11565272969767669692:=0
def tw1121735309780661578:=0
def tw11017919297620692803:=0
def tw10463562661073828858:=0
def tw10379869084600053380:=0
def tw10341610164074930973:=0
def tw10022237727404968782:=0
end PySem.W.Fast
namespace L2
open PySem PySem.Spec PyProof.Rows
abbrev M0:=Sum Int Str
def aD6:M0->Value->Bool
 | .inl k,v=>Value.isInt k v
 | .inr x,v=>Value.isStrOf x v
def a6S(w:World):M0->Int
 | .inl k=>hashInt k
 | .inr x=>hashStr w x
theorem E4:∀{k:M0} {v:Value},aD6 k v=true->(∃i t,k=Sum.inl i/\v=Value.int i t)\/(∃x t,k=Sum.inr x/\v=Value.str x t)
 | .inl i,v,h=>by
   obtain⟨t,e⟩:=Value.isInt_shape (k:=i) (v:=v) h
   exact .inl ⟨i,t,rfl,e⟩
 | .inr x,v,h=>by
   obtain⟨t,e⟩:=Value.isStrOf_shape (x:=x) (v:=v) h
   exact .inr ⟨x,t,rfl,e⟩
theorem a1q(i:Int)(t:Tok):aD6 (.inl i) (.int i t)=true:=by simp[aD6,Value.isInt]
theorem a1r(x:Str)(t:Tok):aD6 (.inr x) (.str x t)=true:=by simp[aD6,Value.isStrOf]
theorem a42(a b:Int):decide ((Sum.inl a:M0)=Sum.inl b)=(a==b):=by
 by_cases e:a=b
 ·subst e;simp
 ·have h:¬(Sum.inl a:M0)=Sum.inl b:=λq=>e (Sum.inl.inj q)
  rw[decide_eq_false h]
  exact(beq_eq_false_iff_ne.mpr e).symm
theorem a43(a b:Str):decide ((Sum.inr a:M0)=Sum.inr b)=decide (a=b):=by
 by_cases e:a=b
 ·subst e;simp
 ·have h:¬(Sum.inr a:M0)=Sum.inr b:=λq=>e (Sum.inr.inj q)
  rw[decide_eq_false h,decide_eq_false e]
theorem a44(a:Int)(b:Str):decide ((Sum.inl a:M0)=Sum.inr b)=false:=decide_eq_false (λq=>nomatch q)
theorem a45(a:Str)(b:Int):decide ((Sum.inr a:M0)=Sum.inl b)=false:=decide_eq_false (λq=>nomatch q)
def C8(prog:Program)(w:World):PySem.KeyKind prog w M0 where
 is:=aD6
 hash:=a6S w
 inj:=λv a b ha hb=>by
  rcases E4 ha with⟨i,t,rfl,rfl⟩|⟨x,t,rfl,rfl⟩
  ·rcases E4 hb with⟨j,u,rfl,e⟩|⟨y,u,rfl,e⟩
   ·injection e with e1 _;rw[e1]
   ·exact nomatch e
  ·rcases E4 hb with⟨j,u,rfl,e⟩|⟨y,u,rfl,e⟩
   ·exact nomatch e
   ·injection e with e1 _;rw[e1]
 byValue:=λk v h=>by
  rcases E4 h with⟨i,t,rfl,rfl⟩|⟨x,t,rfl,rfl⟩<;>rfl
 pyHash:=λhv h=>by
  rcases E4 hv with⟨i,t,rfl,rfl⟩|⟨x,t,rfl,rfl⟩
  ·exact wpAny_pyHash_int h
  ·exact wpAny_pyHash_str h
 eqBool:=λhu hv h=>by
  rcases E4 hu with⟨i,t,rfl,rfl⟩|⟨x,t,rfl,rfl⟩
  ·rcases E4 hv with⟨j,u,rfl,rfl⟩|⟨y,u,rfl,rfl⟩
   ·rw[a42]at h;exact wpAny_eqBool_int h
   ·rw[a44]at h;exact SeqAt.EqAt.int_str i t y u _ _ _ _ h
  ·rcases E4 hv with⟨j,u,rfl,rfl⟩|⟨y,u,rfl,rfl⟩
   ·rw[a45]at h;exact SeqAt.EqAt.str_int x t j u _ _ _ _ h
   ·rw[a43]at h;exact wpAny_eqBool_str h
 «strs»:=λk x t v h=>by
  rcases E4 h with⟨i,u,rfl,e⟩|⟨y,u,rfl,e⟩
  ·exact nomatch e
  ·injection e with e1 _
   subst e1
   cases v<;>rfl
theorem aN6(prog:Program)(w:World)(i:Int)(t:Tok):(C8 prog w).is (.inl i) (.int i t)=true:=a1q i t
theorem aN7(prog:Program)(w:World)(x:Str)(t:Tok):(C8 prog w).is (.inr x) (.str x t)=true:=a1r x t
inductive V where
 |non|bl (b:Bool)|int (i:Int)|str (x:Str)|byt (b:Array UInt8)|flt (b:UInt64)|ref (a:Addr)|ty (n:String)
 deriving DecidableEq
def B4:V->Value->Prop
 | .non,u=>u=Value.none
 | .bl b,u=>u=Value.bool b
 | .int i,u=>∃t,u=Value.int i t
 | .str x,u=>∃t,u=Value.str x t
 | .byt b,u=>∃t,u=Value.bytes b t
 | .flt b,u=>∃t,u=Value.float b t
 | .ref a,u=>u=Value.ref a
 | .ty n,u=>u=Value.type n
abbrev y8:List V->List Value->Prop:=Paired B4
theorem y8.length{xs:List V}{us:List Value}(r:y8 xs us):xs.length=us.length:=Paired.length r
theorem y8.get:∀{xs:List V} {us:List Value} {i:Nat} {x:V},y8 xs us->xs[i]? =some x->∃u,us[i]? =some u/\B4 x u
 |_,_,_,_,.nil,e=>by simp at e
 |_,_,0,_,.cons r _,e=>by simp at e;subst e;exact⟨_,rfl,r⟩
 |_,_,i+1,x,.cons _ t,e=>by
  obtain⟨u,h1,h2⟩:=y8.get (i:=i) (x:=x) t (by simpa using e)
  exact⟨u,by simpa using h1,h2⟩
theorem y8.set{x:V}{u:Value}(r:B4 x u):∀{xs:List V} {us:List Value} (i:Nat),y8 xs us->y8 (xs.set i x) (us.set i u)
 |_,_,_,.nil=> .nil
 |_,_,0,.cons _ t=> .cons r t
 |_,_,i+1,.cons q t=> .cons q (y8.set r i t)
theorem y8.append:∀{xs ys:List V} {us ws:List Value},y8 xs us->y8 ys ws->y8 (xs++ys) (us++ws)
 |_,_,_,_,.nil,s=>s
 |_,_,_,_,.cons r t,s=> .cons r (y8.append t s)
theorem y8.take:∀{xs:List V} {us:List Value} (n:Nat),y8 xs us->y8 (xs.take n) (us.take n)
 |_,_,0,_=> .nil
 |_,_,_+1,.nil=> .nil
 |_,_,n+1,.cons r t=> .cons r (y8.take n t)
theorem y8.drop:∀{xs:List V} {us:List Value} (n:Nat),y8 xs us->y8 (xs.drop n) (us.drop n)
 |_,_,0,r=>r
 |_,_,_+1,.nil=> .nil
 |_,_,n+1,.cons _ t=>y8.drop n t
def au4:Option V->Option Value->Prop
 |some v,some u=>B4 v u
 |none,none=>True
 |_,_=>False
def KV{κ:Type}:List (κ×V)->List (κ×Value)->Prop:=Paired λ(p:κ×V) (q:κ×Value)=>p.1=q.1/\B4 p.2 q.2
def kV:M0->V
 | .inl i=> .int i
 | .inr x=> .str x
inductive HO where
 |lst (xs:List V)
 |tup (xs:List V)
 |dK (kvs:List (M0×V))|dT (kvs:List (List M0×V))
 |set (S:Int->Bool) (n:Nat)
 |ins (C dx:Addr) (fs:List (Str×V))
 |own (x:Addr)
 |xd (fs:List (Str×V))
 |met (f x:Addr)
 |rng (lo hi:Int)
 |frz (o:Obj) (u:HO)
 |tbl (ps:Array Value)
 |ext (φ:Heap->Prop)
abbrev Hp:=Addr->Option HO
def A6(H:Hp)(a:Addr)(o:HO):Hp:=λb=>if b=a then some o else H b
theorem i8{H:Hp}{a:Addr}{o:HO}:A6 H a o a=some o:=by unfold A6;rw[if_pos rfl]
theorem j6{H:Hp}{a b:Addr}{o:HO}(h:b≠a):A6 H a o b=H b:=by unfold A6;rw[if_neg h]
theorem B7{H:Hp}{a b:Addr}{o u:HO}(h:H a=some o)(h':H b=some u)(d:o≠u):a≠b:=by
 intro e;subst e;rw[h]at h';exact d (a7v h')
theorem j0{H:Hp}{a b:Addr}{o:HO}(h:H a=some o)(h':H b=none):a≠b:=by
 intro e;subst e;rw[h]at h';cases h'
section
variable(P:Program)(w:World)
def E7(H:Hp)(h:Heap)(a:Addr):HO->Prop
 | .lst xs=>xs.length<=sizeLine/\∃(its:List Value) (n:Nat),y8 xs its/\h.get? a=some {cls:= .type "list",data:= .seq its.toArray n}
 | .tup xs=>xs.length<=sizeLine/\∃its:List Value,y8 xs its/\IsTup h a its.toArray
 | .dK kvs=>kvs.length<=sizeLine/\(a==sysModules)=false/\∃vs,KV kvs vs/\h.DictOf (C8 P w) a vs
 | .dT kvs=>kvs.length<=sizeLine/\(a==sysModules)=false/\∃xs:List (List M0×Addr×Value),
  Paired (λ(p:List M0×V) (q:List M0×Addr×Value)=>p.1=q.1/\H q.2.1=some (.tup (p.1.map kV))/\B4 p.2 q.2.2) kvs xs/\
  ∃o es ep,h.get? a=some o/\o.ExactDict/\o.data= .dict es ep/\es.toList=xs.map (entryOfKey (tupleKind (C8 P w)))/\(xs.map (·.1)).Nodup
 | .set S n=>h.SetOf (intKind P w) a S n
 | .ins C dx fs=>H dx=some (.own a)/\fs.length<=1000/\dx≠a/\h.get? a=some (a9f C dx)/\
  ∃mA,h.Ns1 dx mA/\(∀f,au4 (fs.lookup f) (mA f))/\PySem.Within mA (fs.map (·.1))
 | .own _=>∃o,h.get? a=some o
 | .xd fs=>∃mA,h.Ns1 a mA/\∀f,au4 (fs.lookup f) (mA f)
 | .rng lo hi=>∃t u v,h.get? a=some {cls:= .type "range",data:= .fields #[.int lo t,.int hi u,.int 1 v]}
 | .frz o u=>h.get? a=some o/\E7 H h a u
 | .tbl ps=>h.get? a=some {cls:= .none,data:= .fields ps}
 | .met f x=>h.get? a=some (PySem.W.methodObj (.ref f) (.ref x))
 | .ext φ=>φ h/\(∃o,h.get? a=some o)/\∀h1 h2:Heap,φ h1->(∀o,h1.get? a=some o->h2.get? a=some o)->φ h2
def HOk(H:Hp)(h:Heap):Prop:=∀a o,H a=some o->E7 P w H h a o
end
section
variable{P:Program}{w:World}{H H':Hp}{h h':Heap}{a:Addr}{o:HO}
theorem E7.lt(x:E7 P w H h a o):a<h.objs.size:=by
 cases o with
 |lst xs=>obtain⟨_,_,_,_,e⟩:=x;exact a7I e
 |tup xs=>obtain⟨_,_,_,p⟩:=x;exact p.lt
 |dK kvs=>obtain⟨_,_,_,_,o,_,_,e,_⟩:=x;exact a7I e
 |dT kvs=>obtain⟨_,_,_,_,o,_,_,e,_⟩:=x;exact a7I e
 |set S n=>obtain⟨o,_,_,_,e,_⟩:=x;exact a7I e
 |ins C dx fs=>obtain⟨_,_,_,e,_⟩:=x;exact a7I e
 |own y=>obtain⟨_,e⟩:=x;exact a7I e
 |xd fs=>obtain⟨_,⟨_,_,_,e,_⟩,_⟩:=x;exact a7I e
 |rng lo hi=>obtain⟨_,_,_,e⟩:=x;exact a7I e
 |frz ob u=>obtain⟨e,_⟩:=x;exact a7I e
 |tbl ps=>exact a7I (show h.get? a=some _ from x)
 |met f y=>exact a7I (show h.get? a=some _ from x)
 |ext φ=>obtain⟨_,⟨_,e⟩,_⟩:=x;exact a7I e
theorem Paired.mapP{α β:Type}{F G:α->β->Prop}:∀{l₁:List α} {l₂:List β},Paired F l₁ l₂->(∀a b,F a b->G a b)->Paired G l₁ l₂
 |_,_,.nil,_=> .nil
 |_,_,.cons r t,f=> .cons (f _ _ r) (Paired.mapP t f)
theorem E7.stay(x:E7 P w H h a o)(k:∀b u,(b=a\/H b=some (.own a))->h.get? b=some u->h'.get? b=some u)
 (ho:∀b,H b=some (.own a)->H' b=some (.own a)) (ht:∀b xs,H b=some (.tup xs)->H' b=some (.tup xs)):E7 P w H' h' a o:=by
 induction o with
 |lst xs=>obtain⟨z,its,n,r,e⟩:=x;exact⟨z,its,n,r,k _ _ (.inl rfl) e⟩
 |tup xs=>obtain⟨z,its,r,ob,e,c⟩:=x;exact⟨z,its,r,ob,k _ _ (.inl rfl) e,c⟩
 |dK kvs=>obtain⟨z,y,vs,r,ob,es,ep,e,c⟩:=x;exact⟨z,y,vs,r,ob,es,ep,k _ _ (.inl rfl) e,c⟩
 |dT kvs=>
  obtain⟨z,y,xs,r,ob,es,ep,e,c⟩:=x
  exact⟨z,y,xs,Paired.mapP r λp q z=>⟨z.1,ht _ _ z.2.1,z.2.2⟩,ob,es,ep,k _ _ (.inl rfl) e,c⟩
 |set S n=>obtain⟨ob,es,ep,t,e,c⟩:=x;exact⟨ob,es,ep,t,k _ _ (.inl rfl) e,c⟩
 |ins C dx fs=>
  obtain⟨d,z,ne,e,mA,⟨od,es,ep,e2,c⟩,r⟩:=x
  exact⟨ho _ d,z,ne,k _ _ (.inl rfl) e,mA,⟨od,es,ep,k _ _ (.inr d) e2,c⟩,r⟩
 |own y=>obtain⟨ob,e⟩:=x;exact⟨ob,k _ _ (.inl rfl) e⟩
 |xd fs=>obtain⟨mA,⟨od,es,ep,e,c⟩,r⟩:=x;exact⟨mA,⟨od,es,ep,k _ _ (.inl rfl) e,c⟩,r⟩
 |rng lo hi=>obtain⟨t,u,v,e⟩:=x;exact⟨t,u,v,k _ _ (.inl rfl) e⟩
 |frz ob u ih=>obtain⟨e,q⟩:=x;exact⟨k _ _ (.inl rfl) e,ih q⟩
 |tbl ps=>
  have e:h.get? a=some {cls:= .none,data:= .fields ps}:=x
  show h'.get? a=some {cls:= .none,data:= .fields ps}
  exact k a _ (.inl rfl) e
 |met f y=>
  have e:h.get? a=some (PySem.W.methodObj (.ref f) (.ref y)):=x
  show h'.get? a=some (PySem.W.methodObj (.ref f) (.ref y))
  exact k a _ (.inl rfl) e
 |ext φ=>obtain⟨p,⟨o,e⟩,st⟩:=x;exact⟨st _ _ p λo q=>k _ _ (.inl rfl) q,⟨o,k _ _ (.inl rfl) e⟩,st⟩
theorem HOk.lt(x:HOk P w H h)(e:H a=some o):a<h.objs.size:=(x a o e).lt
theorem HOk.fresh(x:HOk P w H h)(e:h.objs.size<=a):H a=none:=by
 cases q:H a with
 |none=>rfl
 |some u=>exact absurd (a7Y (x.lt q) e) (a8I _)
theorem HOk.kept(x:HOk P w H h)(k:∀b u,h.get? b=some u->h'.get? b=some u):HOk P w H h':=λa o e=>
 (x a o e).stay (λb u _ q=>k b u q) (λ_ q=>q) λ_ _ q=>q
theorem HOk.laid(x:HOk P w H h)(k:∀b u,h.get? b=some u->h'.get? b=some u)(hp:h.objs.size<=a)(new:E7 P w (A6 H a o) h' a o):HOk P w (A6 H a o) h':=λb u e=>by
 have hn:=x.fresh hp
 by_cases hb:b=a
 ·subst hb;rw[i8]at e;cases e;exact new
 ·rw[j6 hb]at e
  exact(x b u e).stay (λc v _ q=>k c v q) (λc q=>by rw[j6 (j0 q hn)];exact q) λc xs q=>by rw[j6 (j0 q hn)];exact q
end
def Rd(H:Hp)(a:Addr)(u:HO):Prop:=H a=some u\/∃o,H a=some (.frz o u)
theorem Rd.ok{P:Program}{w:World}{H:Hp}{h:Heap}{a:Addr}{u:HO}(r:Rd H a u)(x:HOk P w H h):E7 P w H h a u:=by
 rcases r with r|⟨o,r⟩
 ·exact x a u r
 ·obtain⟨_,q⟩:=x a _ r
  exact q
def Mut:Option HO->Prop
 |some (.lst _)=>True
 |some (.dK _)=>True
 |some (.dT _)=>True
 |some (.set _ _)=>True
 |some (.ins _ _ _)=>True
 |some (.ext _)=>True
 |_=>False
section
variable{P:Program}{w:World}{H:Hp}{h h':Heap}{x e:Addr}{o':HO}
theorem HOk.write(ok:HOk P w H h)(mu:Mut (H x))(he:e=x\/H e=some (.own x))(k:∀b u,b≠e->h.get? b=some u->h'.get? b=some u)(heo:∃u,h'.get? e=some u)
 (new:E7 P w (A6 H x o') h' x o'):HOk P w (A6 H x o') h':=λb u q=>by
 have nown:∀c y,H c=some (.own y)->c≠x:=λc y r z=>by subst z;rw[r]at mu;exact mu
 have ntup:∀c xs,H c=some (.tup xs)->c≠x:=λc xs r z=>by subst z;rw[r]at mu;exact mu
 by_cases hb:b=x
 ·subst hb;rw[i8]at q;cases q;exact new
 ·rw[j6 hb]at q
  by_cases hbe:b=e
  ·have q':H b=some (.own x):=by
    rcases he with z|z
    ·exact absurd (hbe.trans z) hb
    ·rw[hbe];exact z
   rw[q]at q';cases q'
   obtain⟨v,hv⟩:=heo
   exact⟨v,by rw[hbe];exact hv⟩
  ·refine(ok b u q).stay (λc v hc r=>k c v ?_ r) (λc r=>by rw[j6 (nown c b r)];exact r) λc xs r=>by rw[j6 (ntup c xs r)];exact r
   rcases hc with rfl|hc
   ·exact hbe
   ·rintro rfl
    rcases he with z|z
    ·exact nown c b hc z
    ·rw[hc]at z;cases z;exact hb rfl
end
structure Un(fs ex:List Addr)(H H':Hp)(h h':Heap):Prop where
 keep:∀b o,h.get? b=some o->H b=none->b∉fs->b∉ex->h'.get? b=some o
 slot:∀b o,h.get? b=some o->H b=none->b∈fs->b∉ex->∃sl,h'.get? b=some {o with slots:=sl}
 free:∀b o,h.get? b=some o->H b=none->b∉ex->H' b=none
 there:∀b o,h.get? b=some o->b∉ex->∃o',h'.get? b=some o'
 tups:∀b xs,H b=some (.tup xs)->H' b=some (.tup xs)
 frzs:∀b o u,H b=some (.frz o u)->H' b=some (.frz o u)
 tbls:∀b ps,H b=some (.tbl ps)->∃ac3,H' b=some (.tbl (ps++ac3))
section
variable{fs fs' ex ex':List Addr}{H H1 H2:Hp}{h h1 h2 h':Heap}{a x e:Addr}{o:HO}
theorem Un.any(u:Un fs ex H H1 h h1){b:Addr}{ob:Obj}(q:h.get? b=some ob)(n:H b=none)(hx:b∉ex):∃sl,h1.get? b=some {ob with slots:=sl}:=by
 by_cases hb:b∈fs
 ·exact u.slot b ob q n hb hx
 ·exact⟨ob.slots,u.keep b ob q n hb hx⟩
theorem Un.kept(k:∀b u,h.get? b=some u->h'.get? b=some u):Un fs ex H H h h':=
 ⟨λb ob q _ _ _=>k b ob q,λb ob q _ _ _=>⟨ob.slots,k b ob q⟩,λ_ _ _ n _=>n,λb ob q _=>⟨ob,k b ob q⟩,λ_ _ q=>q,λ_ _ _ q=>q,λ_ ps q=>⟨#[],by rw[q];simp⟩⟩
theorem Un.refl:Un fs ex H H h h:=Un.kept λ_ _ q=>q
theorem Un.laid(k:∀b u,h.get? b=some u->h'.get? b=some u)(hp:h.objs.size<=a)(hn:H a=none):Un fs ex H (A6 H a o) h h' where
 keep:=λb u q _ _ _=>k b u q
 slot:=λb u q _ _ _=>⟨u.slots,k b u q⟩
 free:=λb u q n _=>by rw[j6 (a7L (a7Y (a7I q) hp))];exact n
 there:=λb u q _=>⟨u,k b u q⟩
 tups:=λb xs q=>by rw[j6 (j0 q hn)];exact q
 frzs:=λb u xs q=>by rw[j6 (j0 q hn)];exact q
 tbls:=λb ps q=>⟨#[],by rw[j6 (j0 q hn),q];simp⟩
theorem Un.write(mu:Mut (H x))(he:e=x\/H e=some (.own x))(k:∀b u,b≠e->h.get? b=some u->h'.get? b=some u)(heo:∃u,h'.get? e=some u):Un fs ex H (A6 H x o) h h':=by
 have hx:∀b,H b=none->b≠x:=λb n z=>by subst z;rw[n]at mu;exact mu
 have hb:∀b,H b=none->b≠e:=λb n z=>by
  subst z
  rcases he with r|r
  ·exact hx b n r
  ·rw[n]at r;cases r
 have hm:∀b u,H b=some u->¬Mut (some u)->b≠x:=λb u q nm z=>by subst z;rw[q]at mu;exact nm mu
 refine⟨λb u q n _ _=>k b u (hb b n) q,λb u q n _ _=>⟨u.slots,k b u (hb b n) q⟩,λb u q n _=>by rw[j6 (hx b n)];exact n,λb u q _=> ?_,
  λb xs q=>by rw[j6 (hm b _ q λz=>z)];exact q,λb u xs q=>by rw[j6 (hm b _ q λz=>z)];exact q,λb ps q=>⟨#[],by rw[j6 (hm b _ q λz=>z),q];simp⟩⟩
 by_cases hbe:b=e
 ·subst hbe;exact heo
 ·exact⟨u,k b u hbe q⟩
end
def trk(h:Heap)(H:Hp):List Addr:=(a7J h.objs.size).filter λa=>(H a).isSome
def aI2(h:Heap)(H:Hp):Heap:=PySem.W.hideAll h (trk h H)
theorem a1s(h:Heap)(H:Hp):(aI2 h H).objs.size=h.objs.size:=PySem.W.hideAll_size _ _
theorem a2k{h:Heap}{H:Hp}{b:Addr}{o:Obj}(e:h.get? b=some o)(n:H b=none):(aI2 h H).get? b=some o:=
 PySem.W.hideAll_get _ e λhm=>by
  have q:(H b).isSome=true:=(a7X.mp hm).2
  rw[n]at q;simp at q
theorem a3N{h:Heap}{H:Hp}{b:Addr}{o:Obj}(e:(aI2 h H).get? b=some o):h.get? b=some o/\H b=none:=by
 have e':h.get? b=some o:=PySem.W.of_hideAll (trk h H) e
 refine⟨e',?_⟩
 cases q:H b with
 |none=>rfl
 |some x=>
  have hm:b∈trk h H:=a7X.mpr ⟨a8G.mpr (a7I e'),by simp[q]⟩
  have z:(aI2 h H).get? b=none:=PySem.W.hideAll_none (trk h H) hm
  rw[z]at e;cases e
def a3O(g h:Heap)(L:Addr):List (Addr×Obj):=(a7J h.objs.size).filterMap λa=>if a=L\/(g.get? a).isSome=true then none else(h.get? a).map λo=>(a,o)
def rest(g h:Heap)(L d:Addr):List (Addr×Obj):=(a3O g h L).filter λp=>decide (p.1≠d)
structure Mod(K:Frag)(mg:Str->Option Value)(base:Heap):Prop where
 kin:K.In base
 glob:base.Ns mainGlobals mg
 blt:∃mb,base.Ns builtinsNs mb/\∀x:Str,x≠"__name__"->mb x=bootBuiltins x
 nolimit:base.NoLimit
structure Cx where
 prog:Program
 w:World
 K:Frag
 mg:Str->Option Value
 base:Heap
 A:Around
 N:List Str
 s_0:Shared
 H_0:Hp
 env:Env
 outer:List Env
 stack:List Env
 ex:List Addr
 fn:Str->Bool
 calm:Bool
 pn:List (Addr×Obj)
 xe:Value->Shared->Prop
def frs(l:List Env):List Addr:=l.filterMap (·.frame)
abbrev Cx.fs(X:Cx):List Addr:=frs X.outer
def Vis(sc:Scope)(x:Str):Prop:=sc.names.lookup x=some .local\/sc.names.lookup x=some .cell\/sc.names.lookup x=some .free
def Loc(sc:Scope)(x:Str):Prop:=sc.names.lookup x=some .local\/sc.names.lookup x=some .cell
def a6T(env:Env)(h:Heap)(m:Str->Option Value)(x:Str)(u:Value):Prop:=
 (env.kindOf x=some .local/\m x=some u)\/((env.kindOf x=some .cell\/env.kindOf x=some .free)/\∃c,env.cells.lookup x=some c/\h.IsCell c (some u))
structure Cx.Ok(X:Cx):Prop where
 mod:Mod X.K X.mg X.base
 kind:X.env.scope.kind= .function
 glob:X.env.globals=mainGlobals
 blt:X.env.builtins=builtinsNs
 above:X.s_0.heap.objs.size<=X.env.locals
 inj:∀x y c,X.env.cells.lookup x=some c->X.env.cells.lookup y=some c->x=y
 has:∀x,(X.env.kindOf x=some .cell\/X.env.kindOf x=some .free)->∃c,X.env.cells.lookup x=some c
 cab:∀x c,X.fn x=true->X.env.cells.lookup x=some c->X.s_0.heap.objs.size<=c
 hd:X.calm=true->X.A.handled=none
 frames:X.A.frames=some X.stack
 stk:X.stack=X.outer\/(X.stack=X.env::X.outer/\X.env.frame=some X.env.locals)
 exf:∀b∈X.ex,b≠X.env.locals/\∀x c,X.env.cells.lookup x=some c->c≠b
 bs:∀b o,X.base.get? b=some o->X.s_0.heap.get? b=some o/\X.H_0 b=none
 bsz:X.base.objs.size<=X.s_0.heap.objs.size
 noex:∀b o,X.base.get? b=some o->b∉X.ex
 exfs:∀b∈X.ex,b∉X.fs
 funs:X.s_0.heap.FunFrames X.base X.outer
 frf:∀b∈X.fs,X.H_0 b=none
structure v9(X:Cx)(a7q:List (Addr×Obj))(U:List (Option V))(H:Hp)(s:Shared):Prop where
 ok:X.Ok
 os:s.os=X.s_0.os
 bare:AllBare s.gens
 base:Un X.fs X.ex X.H_0 H X.s_0.heap s.heap
 loc:∃m,s.heap.Ns X.env.locals m/\∀(i:Nat) (x:Str) (v:V),X.N[i]? =some x->U[i]? =some (some v)->Vis X.env.scope x->∃u,B4 v u/\a6T X.env s.heap m x u
 cell:∀x c,X.env.cells.lookup x=some c->∃v,s.heap.IsCell c v
 free:H X.env.locals=none
 freeC:∀x c,X.env.cells.lookup x=some c->H c=none
 pin:∀p∈X.pn++a7q,s.heap.get? p.1=some p.2/\H p.1=none/\p.1≠X.env.locals/\p.1∉X.fs/\∀v,p.2.data≠.cell v
 hok:HOk X.prog X.w H s.heap
 len:U.length=X.N.length
section
variable{X:Cx}{a7q:List (Addr×Obj)}{U:List (Option V)}{H H':Hp}{s:Shared}{h':Heap}
theorem Cx.Ok.nofr(ok:X.Ok){b:Addr}{o:Obj}(e:X.base.get? b=some o):b∉X.fs:=λhb=>by
 have:=(ok.funs.mem hb).1
 rw[e]at this;cases this
theorem v9.bs(I:v9 X a7q U H s):∀b o,X.base.get? b=some o->s.heap.get? b=some o/\H b=none:=λb o e=>
 ⟨I.base.keep b o (I.ok.bs b o e).1 (I.ok.bs b o e).2 (I.ok.nofr e) (I.ok.noex b o e),I.base.free b o (I.ok.bs b o e).1 (I.ok.bs b o e).2 (I.ok.noex b o e)⟩
theorem v9.bk(I:v9 X a7q U H s):∀b o,X.base.get? b=some o->s.heap.get? b=some o:=λb o e=>(I.bs b o e).1
theorem v9.mod(I:v9 X a7q U H s):Mod X.K X.mg X.base:=I.ok.mod
theorem v9.kIn(I:v9 X a7q U H s):X.K.In s.heap:=I.ok.mod.kin.keeps I.bk
theorem v9.fr(I:v9 X a7q U H s):∃m,Fr X.base X.env.locals s.heap m:=
 let⟨m,hn,_⟩:=I.loc
 ⟨m,hn,I.bk,a7G I.ok.bsz I.ok.above⟩
theorem v9.lt(I:v9 X a7q U H s):X.env.locals<s.heap.objs.size:=let⟨_,hn,_⟩:=I.loc;hn.lt
theorem v9.sz(I:v9 X a7q U H s):X.s_0.heap.objs.size<=s.heap.objs.size:=a7G I.ok.above (Nat.le_of_lt I.lt)
theorem v9.nofs(I:v9 X a7q U H s){a:Addr}(h:s.heap.objs.size<=a):a∉X.fs:=λhb=>by
 obtain⟨_,o,ho,_⟩:=I.ok.funs.mem hb
 exact absurd (a7Y (a7I ho) (a7G I.sz h)) (a8I _)
theorem v9.cne(I:v9 X a7q U H s):∀x c,X.env.cells.lookup x=some c->c≠X.env.locals:=λx c e z=>by
 obtain⟨v,o,ho,hd⟩:=I.cell x c e
 obtain⟨m,⟨o',es,ep,ho',hd',_⟩,_⟩:=I.loc
 rw[z,ho']at ho;cases ho;rw[hd']at hd;cases hd
theorem v9.funs(I:v9 X a7q U H s):s.heap.FunFrames X.base X.outer:=by
 have all:∀(l:List Env),(∀b∈frs l,b∈X.fs)->X.s_0.heap.FunFrames X.base l->s.heap.FunFrames X.base l:=by
  intro l
  induction l with
  |nil=>intro _ _;trivial
  |cons env r ih=>
   intro hs hl
   obtain⟨hk,⟨L,o,hf,hn,ho,hd⟩,hr⟩:=hl
   have hL:L∈X.fs:=hs L (by unfold frs;rw[a89,hf];exact a7C)
   obtain⟨sl,e⟩:=I.base.slot L o ho (I.ok.frf L hL) hL λz=>I.ok.exfs L z hL
   exact⟨hk,⟨L,_,hf,hn,e,hd⟩,ih (λb hb=>hs b (by unfold frs;rw[a89,hf];exact a7B _ hb)) hr⟩
 exact all X.outer (λ_ hb=>hb) I.ok.funs
theorem v9.stack(I:v9 X a7q U H s):s.heap.FunFrames X.base X.stack:=by
 rcases I.ok.stk with e|⟨e,hf⟩
 ·rw[e];exact I.funs
 ·rw[e]
  obtain⟨m,hn,_⟩:=I.loc
  refine .cons (by rw[I.ok.kind];decide) hf hn ?_ I.funs
  exact Heap.get?_none_of_le (a7G I.ok.bsz I.ok.above)
theorem v9.stkSub(I:v9 X a7q U H s):∀b∈frs X.stack,b∈X.env.locals::X.fs:=λb hb=>by
 rcases I.ok.stk with e|⟨e,hf⟩
 ·rw[e]at hb;exact a7B _ hb
 ·rw[e]at hb
  unfold frs at hb
  rw[a89,hf]at hb
  exact hb
theorem v9.stkFree(I:v9 X a7q U H s):∀b∈frs X.stack,H b=none:=λb hb=>by
 rcases a7D.mp (I.stkSub b hb)with e|hb
 ·rw[e];exact I.free
 ·obtain⟨_,o,ho,_⟩:=I.ok.funs.mem hb
  exact I.base.free b o ho (I.ok.frf b hb) λz=>I.ok.exfs b z hb
theorem v9.step{g':Array GenState}{t':Nat}{d':Drawn}{ch:List Addr}(I:v9 X a7q U H s)
 (hch:∀b∈ch,(b∈X.ex\/X.s_0.heap.objs.size<=b)/\b≠X.env.locals/\(∀x c,X.env.cells.lookup x=some c->c≠b)/\∀p∈X.pn++a7q,p.1≠b)
 (keep:∀b o,b≠X.env.locals->b∉X.fs->b∉ch->s.heap.get? b=some o->H b=none->h'.get? b=some o)
 (slot:∀b o,b≠X.env.locals->b∈X.fs->b∉ch->s.heap.get? b=some o->H b=none->∃sl,h'.get? b=some {o with slots:=sl}) (free:∀b o,b∉ch->s.heap.get? b=some o->H b=none->H' b=none)
 (there:∀b o,b∉ch->s.heap.get? b=some o->∃o',h'.get? b=some o')
 (tups:∀b xs,H b=some (.tup xs)->H' b=some (.tup xs)) (frzs:∀b o u,H b=some (.frz o u)->H' b=some (.frz o u)) (tbls:∀b ps,H b=some (.tbl ps)->∃ac3,H' b=some (.tbl (ps++ac3)))
 (ns:∀m,s.heap.Ns X.env.locals m->h'.Ns X.env.locals m) (hok:HOk X.prog X.w H' h') (hg:AllBare g'):
 v9 X a7q U H' {s with heap:=h',gens:=g',drawn:=d',toks:=t'}:=by
 have neL:∀b o,X.s_0.heap.get? b=some o->b≠X.env.locals:=λb o e=>a7L (a7Y (a7I e) I.ok.above)
 have neC:∀b o,X.s_0.heap.get? b=some o->b∉X.ex->b∉ch:=λb o e hx hb=>by
  rcases(hch b hb).1 with z|z
  ·exact hx z
  ·exact absurd (a7Y (a7I e) z) (a8I _)
 have cellK:∀x c,X.env.cells.lookup x=some c->∀v,s.heap.IsCell c v->h'.IsCell c v:=λx c e v ⟨o,ho,hd⟩=>by
  have nch:c∉ch:=λz=>(hch c z).2.2.1 x c e rfl
  by_cases hc:c∈X.fs
  ·obtain⟨sl,q⟩:=slot c o (I.cne x c e) hc nch ho (I.freeC x c e)
   exact⟨_,q,hd⟩
  ·exact⟨o,keep c o (I.cne x c e) hc nch ho (I.freeC x c e),hd⟩
 refine⟨I.ok,I.os,hg,⟨λb o e n hb hx=> ?_,λb o e n hb hx=> ?_,λb o e n hx=> ?_,λb o e hx=> ?_,λb xs e=>tups b xs (I.base.tups b xs e),λb o xs e=>frzs b o xs (I.base.frzs b o xs e),λb ps e=> ?_⟩,?_,λx c e=> ?_,?_,λx c e=> ?_,λp hp=> ?_,hok,I.len⟩
 ·exact keep b o (neL b o e) hb (neC b o e hx) (I.base.keep b o e n hb hx) (I.base.free b o e n hx)
 ·obtain⟨sl,e1⟩:=I.base.slot b o e n hb hx
  obtain⟨sl',e2⟩:=slot b _ (neL b o e) hb (neC b o e hx) e1 (I.base.free b o e n hx)
  exact⟨sl',e2⟩
 ·obtain⟨o',e1⟩:=I.base.there b o e hx
  exact free b o' (neC b o e hx) e1 (I.base.free b o e n hx)
 ·obtain⟨o',e1⟩:=I.base.there b o e hx
  exact there b o' (neC b o e hx) e1
 ·obtain⟨m1,e1⟩:=I.base.tbls b ps e
  obtain⟨m2,e2⟩:=tbls b _ e1
  exact⟨m1++m2,by rw[e2,Array.append_assoc]⟩
 ·obtain⟨m,hn,hl⟩:=I.loc
  refine⟨m,ns m hn,λi x v e1 e2 e3=> ?_⟩
  obtain⟨u,r,l⟩:=hl i x v e1 e2 e3
  refine⟨u,r,?_⟩
  rcases l with l|⟨k,c,e,z⟩
  ·exact .inl l
  ·exact .inr ⟨k,c,e,cellK x c e _ z⟩
 ·obtain⟨v,z⟩:=I.cell x c e
  exact⟨v,cellK x c e v z⟩
 ·obtain⟨m,⟨o,_,_,ho,_⟩,_⟩:=I.loc
  exact free _ o (λz=>(hch _ z).2.1 rfl) ho I.free
 ·obtain⟨v,o,ho,hd⟩:=I.cell x c e
  exact free c o (λz=>(hch c z).2.2.1 x c e rfl) ho (I.freeC x c e)
 ·obtain⟨e,n,ne,nf,d⟩:=I.pin p hp
  have nch:p.1∉ch:=λz=>(hch p.1 z).2.2.2 p hp rfl
  exact⟨keep p.1 p.2 ne nf nch e n,free p.1 p.2 nch e n,ne,nf,d⟩
theorem v9.un{t':Nat}(I:v9 X a7q U H s)(u:Un X.fs [] H H' s.heap h')(hok:HOk X.prog X.w H' h'):v9 X a7q U H' {s with heap:=h',toks:=t'}:=by
 obtain⟨m,⟨o,es,ep,ho,r⟩,_⟩:=id I.loc
 obtain⟨sl,hL⟩:=u.any ho I.free (by simp)
 exact I.step (g':=s.gens) (d':=s.drawn) (ch:=[]) (λ_ z=>nomatch z) (λb o _ hb _ e n=>u.keep b o e n hb (by simp)) (λb o _ hb _ e n=>u.slot b o e n hb (by simp)) (λb o _ e n=>u.free b o e n (by simp)) (λb o _ e=>u.there b o e (by simp)) u.tups u.frzs u.tbls (λm' hm=>by
  obtain⟨o',es',ep',ho',r'⟩:=hm
  rw[ho]at ho';cases ho'
  exact⟨_,es',ep',hL,r'⟩) hok I.bare
theorem v9.call{g':Array GenState}{t':Nat}{d':Drawn}{ch:List Addr}(I:v9 X a7q U H s)(u:Un (frs X.stack) ch H H' s.heap h')(hok:HOk X.prog X.w H' h')(hg:AllBare g')
 (hch:∀b∈ch,(b∈X.ex\/X.s_0.heap.objs.size<=b)/\b≠X.env.locals/\(∀x c,X.env.cells.lookup x=some c->c≠b)/\∀p∈X.pn++a7q,p.1≠b):
 v9 X a7q U H' {s with heap:=h',gens:=g',drawn:=d',toks:=t'}:=by
 obtain⟨m,⟨o,es,ep,ho,r⟩,_⟩:=id I.loc
 obtain⟨sl,hL⟩:=u.any ho I.free λz=>(hch _ z).2.1 rfl
 exact I.step (ch:=ch) hch (λb o hL hb hc e n=>u.keep b o e n (λz=>(a7D.mp (I.stkSub b z)).elim hL hb) hc) (λb o _ _ hc e n=>u.any e n hc) (λb o hc e n=>u.free b o e n hc) (λb o hc e=>u.there b o e hc) u.tups u.frzs u.tbls (λm' hm=>by
  obtain⟨o',es',ep',ho',r'⟩:=hm
  rw[ho]at ho';cases ho'
  exact⟨_,es',ep',hL,r'⟩) hok hg
theorem v9.turned{t':Nat}{it:Addr}(I:v9 X a7q U H s)(k:∀b o,b≠it->s.heap.get? b=some o->h'.get? b=some o)(hn:H it=none)(hL:it≠X.env.locals)
 (h1:it∈X.ex\/X.s_0.heap.objs.size<=it) (h2:∀x c,X.env.cells.lookup x=some c->c≠it) (h3:∀p∈X.pn++a7q,p.1≠it):v9 X a7q U H {s with heap:=h',toks:=t'}:=by
 have nit:∀b u,H b=some u->b≠it:=λb u e z=>by rw[z,hn]at e;cases e
 refine I.step (g':=s.gens) (d':=s.drawn) (ch:=[it]) (λb hb=> ?_) (λb o _ _ hc e _=>k b o (λz=>hc (by simp[z])) e) (λb o _ _ hc e _=>⟨o.slots,k b o (λz=>hc (by simp[z])) e⟩) (λ_ _ _ _ n=>n)
  (λb o hc e=>⟨o,k b o (λz=>hc (by simp[z])) e⟩) (λ_ _ e=>e) (λ_ _ _ e=>e) (λb ps e=>⟨#[],by rw[e];simp⟩) (λm hm=> ?_) (λb u e=> ?_) I.bare
 ·have e:b=it:=by simpa using hb
  subst e
  exact⟨h1,hL,h2,h3⟩
 ·obtain⟨o,es,ep,ho,r⟩:=hm
  exact⟨o,es,ep,k _ o (Ne.symm hL) ho,r⟩
 ·refine(I.hok b u e).stay (λc v hc q=>k c v ?_ q) (λ_ q=>q) λ_ _ q=>q
  rcases hc with z|z
  ·rw[z];exact nit b u e
  ·exact nit c _ z
theorem v9.tok(I:v9 X a7q U H s)(t:Nat):v9 X a7q U H {s with toks:=t}:=I.un (h':=s.heap) (t':=t) Un.refl I.hok
theorem v9.kept{t':Nat}(I:v9 X a7q U H s)(k:∀b u,s.heap.get? b=some u->h'.get? b=some u):v9 X a7q U H {s with heap:=h',toks:=t'}:=I.un (Un.kept k) (I.hok.kept k)
theorem v9.laid{a:Addr}{o:HO}{t':Nat}(I:v9 X a7q U H s)(k:∀b u,s.heap.get? b=some u->h'.get? b=some u)(hp:s.heap.objs.size<=a)(new:E7 X.prog X.w (A6 H a o) h' a o):
 v9 X a7q U (A6 H a o) {s with heap:=h',toks:=t'}:=I.un (Un.laid k hp (I.hok.fresh hp)) (I.hok.laid k hp new)
theorem v9.write{x e:Addr}{o:HO}{t':Nat}(I:v9 X a7q U H s)(mu:Mut (H x))(he:e=x\/H e=some (.own x))(k:∀b u,b≠e->s.heap.get? b=some u->h'.get? b=some u)(heo:∃u,h'.get? e=some u)
 (new:E7 X.prog X.w (A6 H x o) h' x o):v9 X a7q U (A6 H x o) {s with heap:=h',toks:=t'}:=I.un (Un.write mu he k heo) (I.hok.write mu he k heo new)
theorem v9.weak{σ':List (Option V)}(I:v9 X a7q U H s)(hl:σ'.length=U.length)(w:∀(i:Nat) v,σ'[i]? =some (some v)->U[i]? =some (some v)):v9 X a7q σ' H s:=
 ⟨I.ok,I.os,I.bare,I.base,let⟨m,hn,hl'⟩:=I.loc;⟨m,hn,λi x v e1 e2 e3=>hl' i x v e1 (w i v e2) e3⟩,I.cell,I.free,I.freeC,I.pin,I.hok,hl.trans I.len⟩
theorem v9.pins_of{pins':List (Addr×Obj)}(I:v9 X a7q U H s)(h:∀p∈pins',s.heap.get? p.1=some p.2/\H p.1=none/\p.1≠X.env.locals/\p.1∉X.fs/\∀v,p.2.data≠.cell v):v9 X pins' U H s:=
 ⟨I.ok,I.os,I.bare,I.base,I.loc,I.cell,I.free,I.freeC,λp hp=>(a77.mp hp).elim (λz=>I.pin p (a88 _ z)) (h p),I.hok,I.len⟩
theorem au5{N:List Str}(hN:N.Nodup){i j:Nat}{x:Str}(a:N[i]? =some x)(b:N[j]? =some x):i=j:=by
 obtain⟨h1,e1⟩:=a7x.mp a
 obtain⟨h2,e2⟩:=a7x.mp b
 exact(getElem_inj hN).mp (e1.trans e2.symm)
theorem aD7{M:Model}{A:Around}{E:Value->Shared->Prop}{i:Nat}{x:Str}{v:V}{u:Value}{Q:Unit->Shared->Prop}(I:v9 X a7q U H s)(hN:X.N.Nodup)(hi:X.N[i]? =some x)(hx:Loc X.env.scope x)(r:B4 v u)
 (h:∀s',v9 X a7q (U.set i (some v)) H s'->(∃a,a9B a s.heap s'.heap/\(a=X.env.locals\/X.env.cells.lookup x=some a))->Q () s') (hf:X.fn x=true\/X.env.scope.names.lookup x=some .local:=by first|exact .inl rfl|exact .inr rfl|assumption):wpAny M A (storeName X.env x u) Q E s:=by
 obtain⟨m,hn,hl⟩:=id I.loc
 have hcls:(X.env.scope.kind== .class||(X.env.scope.kind== .module&&X.env.locals !=X.env.globals))=false:=by rw[I.ok.kind];rfl
 have hiσ:i<U.length:=by rw[I.len];exact(a7x.mp hi).1
 have cne:=I.cne
 have tracked:∀{a:Addr} {h':Heap},(∃o,s.heap.get? a=some o/\H a=none)->a9B a s.heap h'->HOk X.prog X.w H h':=λ{a h'} ha hs b ob e=>by
  obtain⟨_,_,hfree⟩:=ha
  refine(I.hok b ob e).stay (λc w' hc q=>(hs.2 c ?_).trans q) (λ_ q=>q) λ_ _ q=>q
  rintro rfl
  rcases hc with rfl|hc
  ·rw[hfree]at e;cases e
  ·rw[hfree]at hc;cases hc
 rcases hx with hk|hk
 ·refine wpAny_storeName_local hk hn (λh' hn' hs=> ?_) hcls
  obtain⟨oL,_,_,hoL,_⟩:=id hn
  refine h _ ⟨I.ok,I.os,I.bare,⟨λb o e n hb hx=> ?_,λb o e n hb hx=> ?_,I.base.free,λb o e hx=> ?_,I.base.tups,I.base.frzs,I.base.tbls⟩,⟨_,hn',λj y v' e1 e2 e3=> ?_⟩,λy c e=> ?_,I.free,I.freeC,λp hp=> ?_,tracked ⟨oL,hoL,I.free⟩ hs,by simpa using I.len⟩ ⟨_,hs,.inl rfl⟩
  ·exact(hs.2 b (a7L (a7Y (a7I e) I.ok.above))).trans (I.base.keep b o e n hb hx)
  ·obtain⟨sl,e1⟩:=I.base.slot b o e n hb hx
   exact⟨sl,(hs.2 b (a7L (a7Y (a7I e) I.ok.above))).trans e1⟩
  ·obtain⟨o',e1⟩:=I.base.there b o e hx
   exact⟨o',(hs.2 b (a7L (a7Y (a7I e) I.ok.above))).trans e1⟩
  ·by_cases hj:j=i
   ·subst hj
    rw[hi]at e1;cases e1
    rw[a8R hiσ]at e2
    cases e2
    exact⟨u,r,.inl ⟨hk,by simp⟩⟩
   ·rw[a8X (Ne.symm hj)]at e2
    obtain⟨u',r',q⟩:=hl j y v' e1 e2 e3
    refine⟨u',r',?_⟩
    rcases q with⟨k,e⟩|⟨k,c,e,z⟩
    ·refine .inl ⟨k,?_⟩
     have:y≠x:=λe=>hj (au5 hN e1 (e▸hi))
     simp[this,e]
    ·exact .inr ⟨k,c,e,z.sameBut hs (cne y c e)⟩
  ·obtain⟨w',z⟩:=I.cell y c e
   exact⟨w',z.sameBut hs (cne y c e)⟩
  ·obtain⟨e,n,ne,nf,d⟩:=I.pin p hp
   exact⟨(hs.2 p.1 ne).trans e,n,ne,nf,d⟩
 ·have hfn:X.fn x=true:=by
   rcases hf with z|z
   ·exact z
   ·rw[z]at hk;cases hk
  obtain⟨c,hc⟩:=I.ok.has x (.inl hk)
  obtain⟨w',z⟩:=I.cell x c hc
  refine wpAny_storeName_cell I.ok.kind hk hc z (λh' hc' hs=> ?_)
  obtain⟨oc,hoc,hocd⟩:=id z
  refine h {s with heap:=h'} ⟨I.ok,I.os,I.bare,⟨λb o e n hb hx=> ?_,λb o e n hb hx=> ?_,I.base.free,λb o e hx=> ?_,I.base.tups,I.base.frzs,I.base.tbls⟩,⟨m,hn.sameBut hs (Ne.symm (cne x c hc)),λj y v' e1 e2 e3=> ?_⟩,λy c' e=> ?_,I.free,I.freeC,λp hp=> ?_,tracked ⟨oc,hoc,I.freeC x c hc⟩ hs,by simpa using I.len⟩ ⟨c,hs,.inr hc⟩
  ·exact(hs.2 b (a7L (a7Y (a7I e) (I.ok.cab x c hfn hc)))).trans (I.base.keep b o e n hb hx)
  ·obtain⟨sl,e1⟩:=I.base.slot b o e n hb hx
   exact⟨sl,(hs.2 b (a7L (a7Y (a7I e) (I.ok.cab x c hfn hc)))).trans e1⟩
  ·obtain⟨o',e1⟩:=I.base.there b o e hx
   exact⟨o',(hs.2 b (a7L (a7Y (a7I e) (I.ok.cab x c hfn hc)))).trans e1⟩
  ·by_cases hj:j=i
   ·subst hj
    rw[hi]at e1;cases e1
    rw[a8R hiσ]at e2
    cases e2
    exact⟨u,r,.inr ⟨.inl hk,c,hc,hc'⟩⟩
   ·rw[a8X (Ne.symm hj)]at e2
    obtain⟨u',r',q⟩:=hl j y v' e1 e2 e3
    refine⟨u',r',?_⟩
    rcases q with q|⟨k,c',e,z'⟩
    ·exact .inl q
    ·refine .inr ⟨k,c',e,z'.sameBut hs ?_⟩
     rintro rfl
     exact hj (au5 hN e1 (I.ok.inj _ _ _ e hc▸hi))
  ·by_cases hcc:c'=c
   ·subst hcc;exact⟨_,hc'⟩
   ·obtain⟨w2,z2⟩:=I.cell y c' e
    exact⟨w2,z2.sameBut hs hcc⟩
  ·obtain⟨e,n,ne,nf,d⟩:=I.pin p hp
   refine⟨(hs.2 p.1 ?_).trans e,n,ne,nf,d⟩
   intro q
   rw[q,hoc]at e
   have q':oc=p.2:=a7v e
   exact d w' (by rw[←q'];exact hocd)
theorem aN8{M:Model}{A:Around}{E:Value->Shared->Prop}{i:Nat}{x:Str}{v:V}{u:Value}{Q:Unit->Shared->Prop}(I:v9 X a7q U H s)(hN:X.N.Nodup)(hi:X.N[i]? =some x)(hx:Loc X.env.scope x)(r:B4 v u)
 (h:∀s',v9 X a7q (U.set i (some v)) H s'->Q () s') (hf:X.fn x=true\/X.env.scope.names.lookup x=some .local:=by first|exact .inl rfl|exact .inr rfl|assumption):wpAny M A (storeName X.env x u) Q E s:=
 aD7 I hN hi hx r (λs' I' _=>h s' I') hf
theorem v9.call'{s':Shared}{ch:List Addr}(I:v9 X a7q U H s)(ho:s'.os=s.os)(u:Un (frs X.stack) ch H H' s.heap s'.heap)(hok:HOk X.prog X.w H' s'.heap)(hg:AllBare s'.gens)
 (hch:∀b∈ch,(b∈X.ex\/X.s_0.heap.objs.size<=b)/\b≠X.env.locals/\(∀x c,X.env.cells.lookup x=some c->c≠b)/\∀p∈X.pn++a7q,p.1≠b):v9 X a7q U H' s':=by
 obtain⟨h',g',d',t',o'⟩:=s'
 have e:o'=s.os:=ho
 subst e
 exact I.call (g':=g') (t':=t') (d':=d') u hok hg hch
end
abbrev XK:=Value->Option Addr->Hp->Prop
abbrev St:=List (Option V)
abbrev VK:=V->Hp->Prop
abbrev TE:=St->Hp->VK->Prop
abbrev TT:=St->Hp->(Bool->Hp->Prop)->Prop
abbrev TA:=St->Hp->(List V->Hp->Prop)->Prop
structure au6 where
 nx:St->Hp->Prop
 rt:VK
 bk:St->Hp->Prop:=λ_ _=>False
 ct:St->Hp->Prop:=λ_ _=>False
abbrev TS:=au6->St->Hp->Prop
def EP(X:Cx)(a7q:List (Addr×Obj))(U:St)(Q:VK)(u:Value)(s':Shared):Prop:=∃v H',v9 X a7q U H' s'/\B4 v u/\Q v H'
def TP(X:Cx)(a7q:List (Addr×Obj))(U:St)(Q:Bool->Hp->Prop)(b:Bool)(s':Shared):Prop:=∃H',v9 X a7q U H' s'/\Q b H'
def AP(X:Cx)(a7q:List (Addr×Obj))(U:St)(Q:List V->Hp->Prop)(us:List Value)(s':Shared):Prop:=∃vs H',v9 X a7q U H' s'/\y8 vs us/\Q vs H'
def SP(X:Cx)(a7q:List (Addr×Obj))(D:au6)(f:Flow)(s':Shared):Prop:=
 match f with
 | .next=>∃σ' H',v9 X a7q σ' H' s'/\D.nx σ' H'
 | .brk=>∃σ' H',v9 X a7q σ' H' s'/\D.bk σ' H'
 | .cont=>∃σ' H',v9 X a7q σ' H' s'/\D.ct σ' H'
 | .ret u=>∃v σ' H',v9 X a7q σ' H' s'/\B4 v u/\D.rt v H'
def PE(X:Cx)(e:Expr)(t:TE):Prop:=
 ∀(a7q:List (Addr×Obj)) (s:Shared) (U:St) (H:Hp) (Q:VK),v9 X a7q U H s->t U H Q->wpAny (model X.prog X.w) X.A (eval e X.env) (EP X a7q U Q) X.xe s
def PT(X:Cx)(e:Expr)(t:TT):Prop:=
 ∀(a7q:List (Addr×Obj)) (s:Shared) (U:St) (H:Hp) (Q:Bool->Hp->Prop),v9 X a7q U H s->t U H Q->wpAny (model X.prog X.w) X.A (isTrue e X.env (eval e X.env)) (TP X a7q U Q) X.xe s
def PW(X:Cx)(e:Expr)(t:TT):Prop:=
 ∀(whole:Sem Value) (a7q:List (Addr×Obj)) (s:Shared) (U:St) (H:Hp) (Q:Bool->Hp->Prop),v9 X a7q U H s->t U H Q->wpAny (model X.prog X.w) X.A (isTrue e X.env whole) (TP X a7q U Q) X.xe s
theorem PW.pt{X:Cx}{e:Expr}{t:TT}(h:PW X e t):PT X e t:=h _
def PA(X:Cx)(es:List Expr)(t:TA):Prop:=
 ∀(pos:Pos) (a7q:List (Addr×Obj)) (s:Shared) (U:St) (H:Hp) (Q:List V->Hp->Prop),v9 X a7q U H s->t U H Q->wpAny (model X.prog X.w) X.A (spliced (backTo pos (starEach es X.env))) (AP X a7q U Q) X.xe s
def PS(X:Cx)(st:Stmt)(t:TS):Prop:=
 ∀(a7q:List (Addr×Obj)) (s:Shared) (U:St) (H:Hp) (D:au6),v9 X a7q U H s->t D U H->wpAny (model X.prog X.w) X.A (exec st X.env) (SP X a7q D) X.xe s
def PSs(X:Cx)(st:List Stmt)(t:TS):Prop:=
 ∀(a7q:List (Addr×Obj)) (s:Shared) (U:St) (H:Hp) (D:au6),v9 X a7q U H s->t D U H->wpAny (model X.prog X.w) X.A (execs st X.env) (SP X a7q D) X.xe s
theorem F8{α:Type}{t:Sem α}{Q Q':α->Shared->Prop}{M:Model}{A:Around}{E:Value->Shared->Prop}{s:Shared}(h:wpAny M A t Q E s)(hQ:∀a s,Q a s->Q' a s):wpAny M A t Q' E s:=wpAny_mono h hQ λ_ _ x=>x
section
variable{X:Cx}
theorem bin{a b:Expr}{ta tb:TE}(ha:PE X a ta)(hb:PE X b tb){a7q:List (Addr×Obj)}{s:Shared}{U:St}{H:Hp}{R:V->V->Hp->Prop}(I:v9 X a7q U H s)(h:ta U H λx H1=>tb U H1 λy H2=>R x y H2)
 {α:Type} {Q:α->Shared->Prop} {f:Value->Value->Sem α}
 (hf:∀v u s2 x y H2,v9 X a7q U H2 s2->B4 x v->B4 y u->R x y H2->wpAny (model X.prog X.w) X.A (f v u) Q X.xe s2):
 wpAny (model X.prog X.w) X.A (eval a X.env) (λv s₁=>wpAny (model X.prog X.w) X.A (eval b X.env) (λu s₂=>wpAny (model X.prog X.w) X.A (f v u) Q X.xe s₂) X.xe s₁) X.xe s:=by
 refine F8 (ha a7q s U H _ I h) λv s1 ⟨x,H1,I1,r1,q1⟩=> ?_
 refine F8 (hb a7q s1 U H1 _ I1 q1) λu s2 ⟨y,H2,I2,r2,q2⟩=> ?_
 exact hf v u s2 x y H2 I2 r1 r2 q2
def a6a(i:Nat):TE:=λU H Q=>∃v,U[i]? =some (some v)/\Q v H
def tC(v:V):TE:=λ_ H Q=>Q v H
theorem a46{i:Nat}{x:Str}{pos:Pos}(hN:X.N[i]? =some x)(hv:Vis X.env.scope x)(hd:(x==("__debug__":Str))=false:=by decide)(hcd:(x==("__classdict__":Str))=false:=by decide):PE X (.Name x pos) (a6a i):=by
 intro a7q s U H Q I h
 obtain⟨v,e,h⟩:=h
 obtain⟨m,hn,hl⟩:=I.loc
 obtain⟨u,r,l⟩:=hl i x v hN e hv
 have O3:EP X a7q U Q u s:=⟨v,H,I,r,h⟩
 rcases l with⟨hk,hm⟩|⟨hk,c,hc,hcell⟩
 ·exact wpAny_Name (wpAny_loadName_local I.ok.kind hk hn hm O3) hd
 ·rcases hk with hk|hk
  ·exact wpAny_Name (wpAny_loadName_cell I.ok.kind hk hc hcell O3) hd
  ·exact wpAny_Name (wpAny_loadName_free I.ok.kind hk hc hcell O3 hcd) hd
theorem f6{i j pos}:PE X (.Constant (.int i) j pos) (tC (.int i)):=λ_ _ _ H _ I h=>wpAny_Constant_int ⟨.int i,H,I.tok _,⟨_,rfl⟩,h⟩
theorem aa1{b j pos}:PE X (.Constant (.bool b) j pos) (tC (.bl b)):=λ_ _ _ H _ I h=>Constant_bool ⟨.bl b,H,I,rfl,h⟩
theorem au7{j pos}:PE X (.Constant .none j pos) (tC .non):=λ_ _ _ H _ I h=>Constant_none ⟨.non,H,I,rfl,h⟩
def Gl(X:Cx)(x:Str):Prop:=X.env.kindOf x=some .globalImplicit
theorem at8{E:Value->Shared->Prop}{a7q:List (Addr×Obj)}{s:Shared}{U:St}{H:Hp}{x:Str}{u:Value}{pos:Pos}{Q:Value->Shared->Prop}(I:v9 X a7q U H s)(hg:Gl X x)(hm:X.mg x=some u)(h:Q u s)
 (hd:(x==("__debug__":Str))=false:=by decide):wpAny (model X.prog X.w) X.A (eval (.Name x pos) X.env) Q E s:=
 Calls.Name_function_global I.ok.kind hg (Calls.loadGlobal_global (by rw[I.ok.glob];exact I.mod.glob.keeps I.bk) hm h) hd
theorem X9{E:Value->Shared->Prop}{a7q:List (Addr×Obj)}{s:Shared}{U:St}{H:Hp}{x:Str}{u:Value}{pos:Pos}{Q:Value->Shared->Prop}(I:v9 X a7q U H s)(hg:Gl X x)(hm:X.mg x=none)(hv:bootBuiltins x=some u)(h:Q u s)
 (hn:x≠"__name__":=by decide) (hd:(x==("__debug__":Str))=false:=by decide):wpAny (model X.prog X.w) X.A (eval (.Name x pos) X.env) Q E s:=by
 obtain⟨mb,h1,h2⟩:=I.mod.blt
 exact Calls.Name_function_global I.ok.kind hg (Calls.loadGlobal_builtin (by rw[I.ok.glob];exact I.mod.glob.keeps I.bk) hm (by rw[I.ok.blt];exact h1.keeps I.bk) ((h2 x hn).trans hv) h) hd
theorem Y0{x:Str}{v:V}{u:Value}{pos:Pos}(hg:Gl X x)(hm:X.mg x=some u)(r:B4 v u)(hd:(x==("__debug__":Str))=false:=by decide):PE X (.Name x pos) (tC v):=
 λ_ _ _ H _ I h=>at8 I hg hm ⟨v,H,I,r,h⟩ hd
variable{a b:Expr}{ta tb:TE}{pos:Pos}
def PC(X:Cx)(op:CmpOp)(a b:Expr)(t:TE):Prop:=
 ∀(a7q:List (Addr×Obj)) (s:Shared) (U:St) (H:Hp) (Q:VK),v9 X a7q U H s->t U H Q->
  wpAny (model X.prog X.w) X.A (eval a X.env) (λv s₁=>wpAny (model X.prog X.w) X.A (eval b X.env) (λu s₂=>wpAny (model X.prog X.w) X.A (compareOp op v u) (EP X a7q U Q) X.xe s₂) X.xe s₁) X.xe s
theorem aN9(b:Expr){op:CmpOp}(h:op≠.In)(h2:op≠.NotIn):behindInMarks op b=false:=by
 have e1:(op==CmpOp.In)=false:=by cases op<;>first|rfl|exact absurd rfl h
 have e2:(op==CmpOp.NotIn)=false:=by cases op<;>first|rfl|exact absurd rfl h2
 cases b<;>simp[behindInMarks,e1,e2]
def tB(t:TE):TT:=λU H Q=>t U H λx H1=>∃c,x= .bl c/\Q c H1
theorem a47{op:CmpOp}{t:TE}(h:PC X op a b t)(h1:behindInMarks op b=false:=by first|exact aN9 _ (by decide) (by decide)|rfl):PE X (.Compare a [op] [b] pos) t:=λa7q s U H Q I hw=>wpAny_Compare1 (h a7q s U H Q I hw) h1
theorem a2l{op:CmpOp}{t:TE}(h:PC X op a b t)(h1:behindInMarks op b=false:=by first|exact aN9 _ (by decide) (by decide)|rfl):PT X (.Compare a [op] [b] pos) (tB t):=by
 intro a7q s U H Q I hw
 refine wpAny_isTrue_Compare1 (F8 (h a7q s U H _ I hw) λv s1 h1=>F8 h1 λu s2 h2=>F8 h2 λc s3 ⟨x,H1,I1,r1,q1⟩=> ?_) h1
 obtain⟨d,rfl,q⟩:=q1
 cases r1
 exact wpAny_truthy_bool ⟨H1,I1,q⟩
theorem N3{e:Expr}{t:TE}(h:PE X e t)(he:∀whole,isTrue e X.env whole=(do let v ←whole;standAt e.pos;holding [v] (truthy v)):=by intro _;rfl):PT X e (tB t):=by
 intro a7q s U H Q I hw
 refine isTrue_plain (F8 (h a7q s U H _ I hw) λv s1 ⟨x,H1,I1,r1,q1⟩=> ?_) (he _)
 obtain⟨d,rfl,q⟩:=q1
 cases r1
 exact wpAny_truthy_bool ⟨H1,I1,q⟩
variable{tA tB':TT}{rest:List Expr}
def a6U(t u:TT):TT:=λU H Q=>t U H λc H1=>if c=true then u U H1 Q else Q false H1
def tOr(t u:TT):TT:=λU H Q=>t U H λc H1=>if c=true then Q true H1 else u U H1 Q
def a6V(t:TT):TT:=λU H Q=>t U H λc H1=>Q (!c) H1
theorem P9(ha:PT X a tA):PW X (.BoolOp .And [a] pos) tA:=by
 intro wh a7q s U H Q I h
 refine isTrue_and (F8 (ha a7q s U H Q I h) λc s1 e=> ?_)
 cases c with
 |true=>exact isTrue_and_nil e
 |false=>exact e
theorem ah0(ha:PT X a tA):PW X (.BoolOp .Or [a] pos) tA:=by
 intro wh a7q s U H Q I h
 refine isTrue_or (F8 (ha a7q s U H Q I h) λc s1 e=> ?_)
 cases c with
 |false=>exact isTrue_or_nil e
 |true=>exact e
theorem S3(ha:PT X a tA)(hb:PW X (.BoolOp .And (b::rest) pos) tB'):PW X (.BoolOp .And (a::b::rest) pos) (a6U tA tB'):=by
 intro wh a7q s U H Q I h
 refine isTrue_and (F8 (ha a7q s U H _ I h) λc s1 ⟨H1,I1,q1⟩=> ?_)
 cases c with
 |true=>exact hb wh a7q s1 U H1 Q I1 q1
 |false=>exact⟨H1,I1,q1⟩
theorem aa9(ha:PT X a tA)(hb:PW X (.BoolOp .Or (b::rest) pos) tB'):PW X (.BoolOp .Or (a::b::rest) pos) (tOr tA tB'):=by
 intro wh a7q s U H Q I h
 refine isTrue_or (F8 (ha a7q s U H _ I h) λc s1 ⟨H1,I1,q1⟩=> ?_)
 cases c with
 |true=>exact⟨H1,I1,q1⟩
 |false=>exact hb wh a7q s1 U H1 Q I1 q1
theorem aI3(ha:PT X a tA):PT X (.UnaryOp .Not a pos) (a6V tA):=by
 intro a7q s U H Q I h
 exact isTrue_not (ha a7q s U H (λc H1=>Q (!c) H1) I h)
def a6b(ta tb:TE):TE:=λU H Q=>ta U H λx H1=>∃c,x= .bl c/\if c=true then tb U H1 Q else Q (.bl false) H1
theorem a48{op}{t:TE}(h:PE X a t):PE X (.BoolOp op [a] pos) t:=λa7q s U H Q I hw=>BoolOp_one (h a7q s U H Q I hw)
theorem aV4(ha:PE X a ta)(hb:PE X (.BoolOp .And (b::rest) pos) tb):PE X (.BoolOp .And (a::b::rest) pos) (a6b ta tb):=by
 intro a7q s U H Q I h
 refine BoolOp_and (F8 (ha a7q s U H _ I h) λv s1 ⟨x,H1,I1,r1,q1⟩=> ?_)
 obtain⟨c,rfl,q1⟩:=q1
 cases r1
 refine wpAny_truthy_bool ?_
 cases c with
 |true=>exact hb a7q s1 U H1 Q I1 q1
 |false=>exact⟨.bl false,H1,I1,rfl,q1⟩
def tIf(t:TT)(ta tb:TE):TE:=λU H Q=>t U H λc H1=>if c=true then ta U H1 Q else tb U H1 Q
theorem au8{c:Expr}(hc:PT X c tA)(ha:PE X a ta)(hb:PE X b tb):PE X (.IfExp c a b pos) (tIf tA ta tb):=by
 intro a7q s U H Q I h
 refine wpAny_IfExp (F8 (hc a7q s U H _ I h) λd s1 ⟨H1,I1,q1⟩=> ?_)
 cases d with
 |true=>exact ha a7q s1 U H1 Q I1 q1
 |false=>exact hb a7q s1 U H1 Q I1 q1
end
def n9(K:Frag)(H:Hp)(a:Addr)(xs:List V):Prop:=
 Rd H a (.lst xs)\/
  ∃(o:Obj) (its:Array Value) (n:Nat),K.lookup a=some o/\o.cls= .type "list"/\o.dict=none/\o.data= .seq its n/\its.size<=sizeLine/\y8 xs its.toList
def v7(K:Frag)(H:Hp)(a:Addr)(xs:List V):Prop:=
 Rd H a (.tup xs)\/
  ∃(o:Obj) (its:Array Value) (n:Nat),K.lookup a=some o/\o.cls= .type "tuple"/\o.data= .seq its n/\its.size<=sizeLine/\y8 xs its.toList
def a6W:Value->Option V
 | .none=>some .non
 | .bool b=>some (.bl b)
 | .int i _=>some (.int i)
 | .str x _=>some (.str x)
 | .bytes b _=>some (.byt b)
 | .float b _=>some (.flt b)
 | .ref a=>some (.ref a)
 | .type n=>some (.ty n)
 |_=>none
theorem B4.abs{x:V}{u:Value}(r:B4 x u):a6W u=some x:=by
 cases x with
 |non=>cases r;rfl
 |bl _=>cases r;rfl
 |int _=>obtain⟨t,rfl⟩:=r;rfl
 |str _=>obtain⟨t,rfl⟩:=r;rfl
 |byt _=>obtain⟨t,rfl⟩:=r;rfl
 |flt _=>obtain⟨t,rfl⟩:=r;rfl
 |ref _=>cases r;rfl
 |ty _=>cases r;rfl
theorem B4.inj{x y:V}{u:Value}(r:B4 x u)(q:B4 y u):x=y:=a7v (r.abs.symm.trans q.abs)
theorem y8.inj:∀{xs ys:List V} {us:List Value},y8 xs us->y8 ys us->xs=ys
 |_,_,_,.nil,.nil=>rfl
 |_,_,_,.cons r t,.cons r' t'=>by rw[r.inj r',y8.inj t t']
section
variable{X:Cx}{a7q:List (Addr×Obj)}{U:St}{H:Hp}{s:Shared}{a:Addr}{xs ys:List V}
theorem n9.of{K:Frag}(h:H a=some (.lst xs)):n9 K H a xs:= .inl (.inl h)
theorem v7.of{K:Frag}(h:H a=some (.tup xs)):v7 K H a xs:= .inl (.inl h)
theorem v9.list(I:v9 X a7q U H s)(h:n9 X.K H a xs):∃its:List Value,y8 xs its/\PlainL s.heap a its.toArray/\xs.length<=sizeLine:=by
 rcases h with h|⟨o,its,n,hk,hc,hd,hs,hz,r⟩
 ·obtain⟨z,its,n,r,e⟩:=h.ok I.hok
  exact⟨its,r,⟨_,n,e,rfl,rfl,rfl⟩,z⟩
 ·refine⟨its.toList,r,⟨o,n,I.kIn a o hk,hc,hd,by simpa using hs⟩,?_⟩
  have e:=r.length
  simp only[a9n]at e
  lia
theorem v9.tuple(I:v9 X a7q U H s)(h:v7 X.K H a xs):∃its:List Value,y8 xs its/\IsTup s.heap a its.toArray/\xs.length<=sizeLine:=by
 rcases h with h|⟨o,its,n,hk,hc,hs,hz,r⟩
 ·obtain⟨z,its,r,p⟩:=h.ok I.hok
  exact⟨its,r,p,z⟩
 ·refine⟨its.toList,r,⟨o,I.kIn a o hk,hc,n,by simpa using hs⟩,?_⟩
  have e:=r.length
  simp only[a9n]at e
  lia
theorem v9.list_inj(I:v9 X a7q U H s)(h:n9 X.K H a xs)(h':n9 X.K H a ys):xs=ys:=by
 obtain⟨its,r,⟨o,n,e,_,_,d⟩,_⟩:=I.list h
 obtain⟨its',r',⟨o',n',e',_,_,d'⟩,_⟩:=I.list h'
 rw[e]at e';cases e'
 rw[d]at d'
 injection d' with d1 _
 have:its=its':=by simpa using congrArg Array.toList d1
 subst this
 exact r.inj r'
theorem v9.tuple_inj(I:v9 X a7q U H s)(h:v7 X.K H a xs)(h':v7 X.K H a ys):xs=ys:=by
 obtain⟨its,r,⟨o,e,_,n,d⟩,_⟩:=I.tuple h
 obtain⟨its',r',⟨o',e',_,n',d'⟩,_⟩:=I.tuple h'
 rw[e]at e';cases e'
 rw[d]at d'
 injection d' with d1 _
 have:its=its':=by simpa using congrArg Array.toList d1
 subst this
 exact r.inj r'
end
abbrev Cx.wish(X:Cx)(E:Value->Shared->Prop):Cx:={X with xe:=E}
abbrev Cx.nox(X:Cx):Cx:=X.wish λ_ _=>False
theorem Cx.Ok.wish{X:Cx}(ok:X.Ok)(E:Value->Shared->Prop):(X.wish E).Ok:=
 ⟨ok.mod,ok.kind,ok.glob,ok.blt,ok.above,ok.inj,ok.has,ok.cab,ok.hd,ok.frames,ok.stk,ok.exf,ok.bs,ok.bsz,ok.noex,ok.exfs,ok.funs,ok.frf⟩
theorem Cx.Ok.unwish{X:Cx}{E:Value->Shared->Prop}(ok:(X.wish E).Ok):X.Ok:=
 ⟨ok.mod,ok.kind,ok.glob,ok.blt,ok.above,ok.inj,ok.has,ok.cab,ok.hd,ok.frames,ok.stk,ok.exf,ok.bs,ok.bsz,ok.noex,ok.exfs,ok.funs,ok.frf⟩
section
variable{X:Cx}{a7q:List (Addr×Obj)}{U:St}{H:Hp}{s:Shared}{E:Value->Shared->Prop}
theorem v9.wish(I:v9 X a7q U H s)(E:Value->Shared->Prop):v9 (X.wish E) a7q U H s:=⟨I.ok.wish E,I.os,I.bare,I.base,I.loc,I.cell,I.free,I.freeC,I.pin,I.hok,I.len⟩
theorem v9.unwish(I:v9 (X.wish E) a7q U H s):v9 X a7q U H s:=⟨I.ok.unwish,I.os,I.bare,I.base,I.loc,I.cell,I.free,I.freeC,I.pin,I.hok,I.len⟩
theorem SP.unwish{D:au6}{f:Flow}{s':Shared}(h:SP (X.wish E) a7q D f s'):SP X a7q D f s':=by
 cases f with
 |next=>obtain⟨σ',H',I,q⟩:=h;exact⟨σ',H',I.unwish,q⟩
 |brk=>obtain⟨σ',H',I,q⟩:=h;exact⟨σ',H',I.unwish,q⟩
 |cont=>obtain⟨σ',H',I,q⟩:=h;exact⟨σ',H',I.unwish,q⟩
 |ret u=>obtain⟨v,σ',H',I,r,q⟩:=h;exact⟨v,σ',H',I.unwish,r,q⟩
theorem PSs.nox{st:List Stmt}{t:TS}(h:PSs X.nox st t):PSs X st t:=λa7q s U H D I hw=>
 wpAny_mono (h a7q s U H D (I.wish _) hw) (λ_ _ q=>q.unwish) λ_ _ z=>False.elim z
end
section
variable{X:Cx}{st:Stmt}{rest:List Stmt}{t u:TS}{e:Expr}{te:TE}{pos:Pos}
def a6c:TS:=λD U H=>D.nx U H
def a6X(t u:TS):TS:=λD U H=>t {D with nx:=u D} U H
theorem v8:PSs X [] a6c:=λ_ _ U H _ I h=>wpAny_execs_nil ⟨U,H,I,h⟩
theorem e9(h1:PS X st t)(h2:PSs X rest u):PSs X (st::rest) (a6X t u):=by
 intro a7q s U H D I h
 refine wpAny_execs_cons (F8 (h1 a7q s U H {D with nx:=u D} I h) λf s1 q=> ?_)
 cases f with
 |next=>
  obtain⟨σ',H',I',q⟩:=q
  exact h2 a7q s1 σ' H' D I' q
 |ret v=>exact q
 |brk=>exact q
 |cont=>exact q
theorem f8(h1:PS X st t):PSs X [st] t:=by
 intro a7q s U H D I h
 refine wpAny_execs_cons (F8 (h1 a7q s U H D I h) λf s1 q=> ?_)
 cases f with
 |next=>exact wpAny_execs_nil q
 |ret v=>exact q
 |brk=>exact q
 |cont=>exact q
theorem v9.quiet{a7q:List (Addr×Obj)}{U:St}{H:Hp}{s:Shared}(I:v9 X a7q U H s):interactive X.env=false:=by simp[interactive,I.ok.kind]
def a6d(te:TE):TS:=λD U H=>te U H λ_ H1=>D.nx U H1
theorem C2(he:PE X e te)(hs:swapsWith e none pos.line X.env=pure false:=by rfl):PS X (.Expr e pos) (a6d te):=by
 intro a7q s U H D I h
 exact wpAny_Expr_any (F8 (he a7q s U H _ I h) λv s1 ⟨x,H1,I1,r1,q1⟩=>⟨U,H1,I1,q1⟩) I.quiet hs
def a6Y(te:TE):TS:=λD U H=>te U H D.rt
theorem l8(he:PE X e te):PS X (.Return (some e) pos) (a6Y te):=by
 intro a7q s U H D I h
 exact wpAny_Return_some (F8 (he a7q s U H _ I h) λv s1 ⟨x,H1,I1,r1,q1⟩=>⟨x,U,H1,I1,r1,q1⟩)
def a6Z(c:TT)(t u:TS):TS:=λD U H=>c U H λb H1=>if b=true then t D U H1 else u D U H1
theorem B8{c:Expr}{a b:List Stmt}{tc:TT}(hc:PT X c tc)(ha:PSs X a t)(hb:PSs X b u):PS X (.If c a b pos) (a6Z tc t u):=by
 intro a7q s U H D I h
 refine wpAny_If (F8 (hc a7q s U H _ I h) λd s1 ⟨H1,I1,q1⟩=> ?_)
 cases d with
 |true=>exact ha a7q s1 U H1 D I1 q1
 |false=>exact hb a7q s1 U H1 D I1 q1
end
abbrev TG:=V->St->Hp->(St->Hp->Prop)->Prop
abbrev TGs:=List V->St->Hp->(St->Hp->Prop)->Prop
def PG(X:Cx)(target:Expr)(t:TG):Prop:=
 ∀(a7q:List (Addr×Obj)) (s:Shared) (U:St) (H:Hp) (v:V) (u:Value) (Q:St->Hp->Prop),v9 X a7q U H s->B4 v u->t v U H Q->
  wpAny (model X.prog X.w) X.A (assign target X.env u) (λ_ s'=>∃σ' H',v9 X a7q σ' H' s'/\Q σ' H') X.xe s
def PGs(X:Cx)(ts:List Expr)(t:TGs):Prop:=
 ∀(a7q:List (Addr×Obj)) (s:Shared) (U:St) (H:Hp) (vs:List V) (us:List Value) (Q:St->Hp->Prop),v9 X a7q U H s->y8 vs us->t vs U H Q->
  wpAny (model X.prog X.w) X.A (assignInOrder ((assignEach ts X.env).map (·.2)) us) (λ_ s'=>∃σ' H',v9 X a7q σ' H' s'/\Q σ' H') X.xe s
abbrev a49:=V->V->V->Hp->(Hp->Prop)->Prop
def a5a(X:Cx)(t:a49):Prop:=
 ∀(a7q:List (Addr×Obj)) (s:Shared) (U:St) (H:Hp) (o i v:V) (ov iv u:Value) (Q:Hp->Prop),v9 X a7q U H s->B4 o ov->B4 i iv->B4 v u->t o i v H Q->
  wpAny (model X.prog X.w) X.A (setItem ov iv u) (λ_ s'=>∃H',v9 X a7q U H' s'/\Q H') X.xe s
section
variable{X:Cx}{pos:Pos}
def aj0(i:Nat):TG:=λv U H Q=>Q (U.set i (some v)) H
theorem z9{i:Nat}{x:Str}(hN:X.N.Nodup)(hi:X.N[i]? =some x)(hx:Loc X.env.scope x)(hf:X.fn x=true\/X.env.scope.names.lookup x=some .local:=by first|exact .inl rfl|exact .inr rfl|assumption):PG X (.Name x pos) (aj0 i):=by
 intro a7q s U H v u Q I r h
 exact wpAny_assign_Name (aN8 I hN hi hx r (λs' I'=>⟨_,H,I',h⟩) hf)
def a5b:TGs:=λvs U H Q=>vs=[]/\Q U H
def aD8(t:TG)(u:TGs):TGs:=λvs U H Q=>∃v r,vs=v::r/\t v U H λσ' H'=>u r σ' H' Q
theorem a0v:PGs X [] a5b:=by
 intro a7q s U H vs us Q I r h
 obtain⟨e,h⟩:=h
 subst e
 cases r
 exact assignInOrder_nil ⟨U,H,I,h⟩
theorem ab0{e:Expr}{es:List Expr}{t:TG}{u:TGs}(h1:PG X e t)(h2:PGs X es u)
 (hs:(assignEach (e::es) X.env).map (·.2)=assign e X.env::(assignEach es X.env).map (·.2):=by rfl):PGs X (e::es) (aD8 t u):=by
 intro a7q s U H vs us Q I r h
 obtain⟨v,vr,e1,h⟩:=h
 subst e1
 cases r with
 |cons r rr=>
  rw[hs]
  refine assignInOrder_cons (F8 (h1 a7q s U H _ _ _ I r h) λ_ s1 ⟨σ1,H1,I1,q1⟩=> ?_)
  exact h2 a7q s1 σ1 H1 _ _ Q I1 rr q1
def a5c(K:Frag)(n:Nat)(t:TGs):TG:=λv U H Q=>∃a xs,v= .ref a/\v7 K H a xs/\xs.length=n/\t xs U H Q
theorem a2m{es:List Expr}{k:Nat}{t:TGs}{n:Nat}(hc:X.calm=true)(h:PGs X es t)
 (hn:(assignEach es X.env).length=n:=by rfl) (hst:(assignEach es X.env).findIdx? (·.1)=none:=by rfl):PG X (.Tuple es k pos) (a5c X.K n t):=by
 intro a7q s U H v u Q I r hw
 obtain⟨a,xs,e1,hq,hl,hw⟩:=hw
 subst e1
 cases r
 obtain⟨its,rv,ht,hz⟩:=I.tuple hq
 refine assign_Tuple_tuple (I.ok.hd hc) ht (by simp[hn,←hl,rv.length]) hst λh' hx=> ?_
 have I1:v9 X a7q U H {s with heap:=h'}:=I.kept (t':=s.toks) λb o e=>hx b o (a7L (a7I e)) e
 exact h a7q _ U H xs _ Q I1 (by simpa using rv) hw
def a60(to ti:TE)(t:a49):TG:=λv U H Q=>to U H λo H1=>ti U H1 λi H2=>t o i v H2 λH3=>Q U H3
theorem a2n{o i:Expr}{to ti:TE}{t:a49}(ho:PE X o to)(hi:PE X i ti)(hs:a5a X t)
 (ha:∀v,assign (.Subscript o i pos) X.env v=(do
  let ov ←holding [v] (eval o X.env)
  let iv ←holding [v,ov] (eval i X.env)
  standAt pos
  holding [v,ov,iv] (setItem ov iv v)
  release [v,ov,iv] []):=by intro _;rfl):PG X (.Subscript o i pos) (a60 to ti t):=by
 intro a7q s U H v u Q I r h
 rw[ha]
 refine wpAny_bind (wpAny_holding (F8 (ho a7q s U H _ I h) λov s1 ⟨x,H1,I1,r1,q1⟩=> ?_))
 refine wpAny_bind (wpAny_holding (F8 (hi a7q s1 U H1 _ I1 q1) λiv s2 ⟨y,H2,I2,r2,q2⟩=> ?_))
 refine wpAny_bind (wpAny_standAt (wpAny_bind (wpAny_holding (F8 (hs a7q s2 U H2 x y v ov iv u _ I2 r1 r2 r q2) λ_ s3 ⟨H3,I3,q3⟩=> ?_))))
 exact wpAny_release ⟨U,H3,I3,q3⟩
def a5d(te:TE)(g:TG):TS:=λD U H=>te U H λx H1=>g x U H1 D.nx
theorem a2o{tg e:Expr}{te:TE}{g:TG}(he:PE X e te)(hg:PG X tg g)(hs:swapsWithSole [tg] e pos.line X.env=pure false:=by rfl)(hw:swappedStores [tg] e X.env=pure none:=by rfl)
 (h1:(assignEach [tg] X.env).map (·.2)=[assign tg X.env]:=by rfl):PS X (.Assign [tg] e pos) (a5d te g):=by
 intro a7q s U H D I h
 refine wpAny_Assign_stores (F8 (he a7q s U H _ I h) λv s1 ⟨x,H1,I1,r1,q1⟩=> ?_) hs hw
 rw[h1]
 exact F8 (hg a7q s1 U H1 x v _ I1 r1 q1) λ_ s2 q=>q
theorem j9{i:Nat}{x:Str}{e:Expr}{te:TE}{pos':Pos}(hN:X.N.Nodup)(hi:X.N[i]? =some x)(hx:Loc X.env.scope x)(he:PE X e te)(hs:swapsWith e (some (.Name x pos')) pos.line X.env=pure false:=by rfl)(hf:X.fn x=true\/X.env.scope.names.lookup x=some .local:=by first|exact .inl rfl|exact .inr rfl|assumption):
 PS X (.Assign [.Name x pos'] e pos) (a5d te (aj0 i)):=by
 intro a7q s U H D I h
 refine wpAny_Assign_Name (F8 (he a7q s U H _ I h) λv s1 ⟨y,H1,I1,r1,q1⟩=> ?_) hs
 exact aN8 I1 hN hi hx r1 (λs2 I2=>⟨_,H1,I2,q1⟩) hf
end
section
variable{X:Cx}{pos:Pos}
def a5e(c:TT)(tb:TS):TS:=λD U H=>∃W:Nat->St->Hp->Prop,(∃m,W m U H)/\∀m U H,W m U H->
 c U H λb H1=>if b=true then∃N:St->Hp->Prop,(∀σ' H',N σ' H'->∃m',m'<m/\W m' σ' H')/\tb {D with nx:=N,ct:=N,bk:=D.nx} U H1 else D.nx U H1
theorem au9{c:Expr}{body:List Stmt}{tc:TT}{tb:TS}(hp:PassesOwn (model X.prog X.w) X.A X.env X.xe)(hc:PT X c tc)(hb:PSs X body tb):PS X (.While c body [] pos) (a5e tc tb):=by
 intro a7q s U H D I h
 obtain⟨W,⟨m0,w0⟩,turn⟩:=h
 refine wpAny_While (codeAny_whileLoop (λn s'=>∃σ' H',v9 X a7q σ' H' s'/\W n σ' H') ?_ m0 ⟨U,H,I,w0⟩)
 rintro n s1 ⟨σ1,H1,I1,w1⟩
 refine wpAny_passesOwn hp (F8 (hc a7q s1 σ1 H1 _ I1 (turn n σ1 H1 w1)) λb s2 ⟨H2,I2,q2⟩=> ?_)
 cases b with
 |true=>
  obtain⟨N,hN,q2⟩:=q2
  rw[if_pos rfl]
  refine wpAny_passesOwn hp (F8 (hb a7q s2 σ1 H2 _ I2 q2) λf s3 q3=> ?_)
  cases f with
  |next=>
   obtain⟨σ3,H3,I3,n3⟩:=q3
   obtain⟨m',hm,w3⟩:=hN σ3 H3 n3
   exact⟨m',hm,σ3,H3,I3,w3⟩
  |cont=>
   obtain⟨σ3,H3,I3,n3⟩:=q3
   obtain⟨m',hm,w3⟩:=hN σ3 H3 n3
   exact⟨m',hm,σ3,H3,I3,w3⟩
  |brk=>exact q3
  |ret v=>exact q3
 |false=>
  rw[if_neg a7Z]
  exact wpAny_execs_nil ⟨σ1,H2,I2,q2⟩
end
structure It where
 go:Nat->Hp->Prop
 yld:Nat->Hp->V->Hp->Prop
 stop:Nat->Hp->Prop
def as9(X:Cx)(a7q:List (Addr×Obj))(H:Hp)(b:Addr):Prop:=
 H b=none/\b≠X.env.locals/\b∉X.fs/\(b∈X.ex\/X.s_0.heap.objs.size<=b)/\(∀x c,X.env.cells.lookup x=some c->c≠b)/\∀p∈X.pn++a7q,p.1≠b
theorem v9.fpOk{X:Cx}{a7q:List (Addr×Obj)}{U:St}{H H':Hp}{s:Shared}{b:Addr}(I:v9 X a7q U H s)(hb:s.heap.objs.size<=b)(hn:H' b=none):as9 X a7q H' b:=by
 refine⟨hn,a8O (a7Y I.lt hb),I.nofs hb,.inr (a7G I.sz hb),λx c e z=> ?_,λp hp z=> ?_⟩
 ·obtain⟨v,q⟩:=I.cell x c e
  exact absurd (a7Y q.lt (by rw[z];exact hb)) (a8I _)
 ·exact absurd (a7Y (a7I (I.pin p hp).1) (by rw[z];exact hb)) (a8I _)
structure aV5(P:Program)(w:World)(K:Frag)(tg:Expr)(J:It)(fp:List Addr)(it:Addr)(tn:Nat->Heap->Prop):Prop where
 mem:it∈fp
 obj:∀i h,tn i h->∀b∈fp,∃o,h.get? b=some o/\∀v,o.data≠.cell v
 keep:∀i h h',tn i h->(∀b∈fp,∀o,h.get? b=some o->h'.get? b=some o)->tn i h'
 item:∀(X:Cx),X.prog=P->X.w=w->X.K=K->X.calm=true->∀(i:Nat) (a7q:List (Addr×Obj)) (s:Shared) (U:St) (H:Hp) (E:Value->Shared->Prop),v9 X a7q U H s->(∀b∈fp,as9 X a7q H b)->tn i s.heap->J.go i H->
  wpAny (model P w) X.A (pyNext (.ref it)) (λr s1=>∃u,r=some u/\
   wpAny (model P w) X.A (letOwnedTupleGo tg (.ref it) u) (λ_ s2=>∃x H',v9 X a7q U H' s2/\B4 x u/\J.yld i H x H'/\tn (i+1) s2.heap/\∀b∈fp,H' b=none) E s1) E s
 done:∀(X:Cx),X.prog=P->X.w=w->X.K=K->X.calm=true->∀(i:Nat) (a7q:List (Addr×Obj)) (s:Shared) (U:St) (H:Hp) (E:Value->Shared->Prop),v9 X a7q U H s->(∀b∈fp,as9 X a7q H b)->tn i s.heap->J.stop i H->
  wpAny (model P w) X.A (pyNext (.ref it)) (λr s1=>r=none/\v9 X a7q U H s1) E s
 self:∀(A:Around) (i:Nat) (s:Shared) (Q:Value->Shared->Prop) (E:Value->Shared->Prop),tn i s.heap->Q (.ref it) s->wpAny (model P w) A (pyIter (.ref it)) Q E s
abbrev TI:=St->Hp->(It->Hp->Prop)->Prop
def PIE(X:Cx)(a7q:List (Addr×Obj))(U:St)(tg:Expr)(R:It->Hp->Prop)(itv:Value)(s2:Shared):Prop:=
 ∃(it:Addr) (fp:List Addr) (tn:Nat->Heap->Prop) (J:It) (H':Hp),itv= .ref it/\v9 X a7q U H' s2/\aV5 X.prog X.w X.K tg J fp it tn/\tn 0 s2.heap/\(∀b∈fp,as9 X a7q H' b)/\R J H'
def PI(X:Cx)(tg iter:Expr)(wi:TI):Prop:=
 ∀(a7q:List (Addr×Obj)) (s:Shared) (U:St) (H:Hp) (R:It->Hp->Prop),v9 X a7q U H s->wi U H R->
  wpAny (model X.prog X.w) X.A (eval iter X.env) (λv s1=>wpAny (model X.prog X.w) X.A (pyIter v) (PIE X a7q U tg R) X.xe s1) X.xe s
theorem a2p{M:Model}{A:Around}{E:Value->Shared->Prop}{s:Shared}{tg:Expr}{it:Addr}{u:Value}{o:Obj}{n:String}{vs:Array Value}{Q:Unit->Shared->Prop}(ho:s.heap.get? it=some o)(hc:o.cls= .type n)(hd:o.data= .fields vs)
 (hn:["enumerate","zip","dict_itemiterator","dict_reverseitemiterator","odict_iterator","itertools.zip_longest","itertools.pairwise"].contains n=false) (hQ:Q () s):wpAny M A (letOwnedTupleGo tg (.ref it) u) Q E s:=by
 unfold letOwnedTupleGo
 cases tg<;>first
  |exact wpAny_pure hQ
  |(cases u<;>first
   |exact wpAny_pure hQ
   |(refine wpAny_bind (wpAny_load ho ?_)
     rw[hc,hd]
     show wpAny M A (if(["enumerate","zip","dict_itemiterator","dict_reverseitemiterator","odict_iterator","itertools.zip_longest","itertools.pairwise"].contains n&&vs[0]? ==some (rawInt _))=true then _ else _) Q E s
     rw[if_neg (by intro h;rw[hn,a9H]at h;cases h)]
     exact wpAny_pure hQ))
def Itl(K:Frag)(a:Addr):It:=
 ⟨λi H=>∃xs x,n9 K H a xs/\xs[i]? =some x,λi H x H'=>H'=H/\∀xs,n9 K H a xs->xs[i]? =some x,λi H=>∃xs,n9 K H a xs/\xs.length<=i⟩
def Itt(K:Frag)(a:Addr):It:=
 ⟨λi H=>∃xs x,v7 K H a xs/\xs[i]? =some x,λi H x H'=>H'=H/\∀xs,v7 K H a xs->xs[i]? =some x,λi H=>∃xs,v7 K H a xs/\xs.length<=i⟩
def Itr(lo:Int)(n:Nat):It:=⟨λi _=>i<n,λi H x H'=>H'=H/\x= .int (lo+i),λi _=>n<=i⟩
theorem a1t{P:Program}{w:World}{K:Frag}{tg:Expr}(a it:Addr):aV5 P w K tg (Itl K a) [it] it (λi h=>h.IsListIter it a i)where
 mem:=by simp
 obj:=λi h st b hb=>by
  have e:b=it:=by simpa using hb
  subst e
  obtain⟨o,e,c,d⟩:=st
  exact⟨o,e,λv z=>by rw[d]at z;cases z⟩
 keep:=λi h h' st k=>st.at λo e=>k it (by simp) o e
 item:=by
  intro X hP hw hK hc i a7q s U H E I hf st hg
  subst hP hw hK
  obtain⟨xs,x,hq,hx⟩:=hg
  obtain⟨its,rv,p,hz⟩:=I.list hq
  obtain⟨u,hu,ru⟩:=rv.get hx
  obtain⟨f0,f1,f2,f3,f4,f5⟩:=hf it (by simp)
  refine wpAny_pyNext_list_item st p.isList (x:=u) (by simpa using hu) λh' st' sb=> ?_
  have I1:v9 X a7q U H {s with heap:=h'}:=I.turned (t':=s.toks) (λb o hb e=>(sb.2 b hb).trans e) f0 f1 f3 f4 f5
  obtain⟨o,e,c,d⟩:=id st'
  exact⟨u,rfl,a2p (s:={s with heap:=h'}) e c d (by decide) ⟨x,H,I1,ru,⟨rfl,λys hy=>by rw[I.list_inj hy hq];exact hx⟩,st',λb hb=>(hf b hb).1⟩⟩
 done:=by
  intro X hP hw hK hc i a7q s U H E I hf st hg
  subst hP hw hK
  obtain⟨xs,hq,hx⟩:=hg
  obtain⟨its,rv,p,hz⟩:=I.list hq
  obtain⟨f0,f1,f2,f3,f4,f5⟩:=hf it (by simp)
  have hl:=rv.length
  exact wpAny_pyNext_list_end (I.ok.hd hc) st p.isList (by simp;lia) λh' eb=>⟨rfl,I.turned (t':=s.toks) (λb o hb e=>eb b o hb e) f0 f1 f3 f4 f5⟩
 self:=λ_ _ _ _ _ st h=>wpAny_pyIter_listiter st h
theorem aV6{P:Program}{w:World}{K:Frag}{tg:Expr}(a it:Addr):aV5 P w K tg (Itt K a) [it] it (λi h=>h.IsTupleIter it a i)where
 mem:=by simp
 obj:=λi h st b hb=>by
  have e:b=it:=by simpa using hb
  subst e
  obtain⟨o,e,c,d⟩:=st
  exact⟨o,e,λv z=>by rw[d]at z;cases z⟩
 keep:=λi h h' st k=>st.at λo e=>k it (by simp) o e
 item:=by
  intro X hP hw hK hc i a7q s U H E I hf st hg
  subst hP hw hK
  obtain⟨xs,x,hq,hx⟩:=hg
  obtain⟨its,rv,p,hz⟩:=I.tuple hq
  obtain⟨u,hu,ru⟩:=rv.get hx
  obtain⟨f0,f1,f2,f3,f4,f5⟩:=hf it (by simp)
  refine wpAny_pyNext_tuple_item st (show s.heap.IsTuple a its.toArray from p) (x:=u) (by simpa using hu) λh' st' sb=> ?_
  have I1:v9 X a7q U H {s with heap:=h'}:=I.turned (t':=s.toks) (λb o hb e=>(sb.2 b hb).trans e) f0 f1 f3 f4 f5
  obtain⟨o,e,c,d⟩:=id st'
  exact⟨u,rfl,a2p (s:={s with heap:=h'}) e c d (by decide) ⟨x,H,I1,ru,⟨rfl,λys hy=>by rw[I.tuple_inj hy hq];exact hx⟩,st',λb hb=>(hf b hb).1⟩⟩
 done:=by
  intro X hP hw hK hc i a7q s U H E I hf st hg
  subst hP hw hK
  obtain⟨xs,hq,hx⟩:=hg
  obtain⟨its,rv,p,hz⟩:=I.tuple hq
  obtain⟨f0,f1,f2,f3,f4,f5⟩:=hf it (by simp)
  have hl:=rv.length
  exact wpAny_pyNext_tuple_end (I.ok.hd hc) st (show s.heap.IsTuple a its.toArray from p) (by simp;lia) λh' eb=>⟨rfl,I.turned (t':=s.toks) (λb o hb e=>eb b o hb e) f0 f1 f3 f4 f5⟩
 self:=λ_ _ _ _ _ st h=>wpAny_pyIter_tupleiter st h
theorem aV7{P:Program}{w:World}{K:Frag}{tg:Expr}(it:Addr)(lo:Int)(n:Nat):aV5 P w K tg (Itr lo n) [it] it (λi h=>IsRangeIter h it (lo+(i:Nat)*1) ((n:Int)-(i:Nat)) 1)where
 mem:=by simp
 obj:=λi h st b hb=>by
  have e:b=it:=by simpa using hb
  subst e
  exact⟨_,st,λv z=>by
   have z':Data.fields _=Data.cell v:=z
   cases z'⟩
 keep:=λi h h' st k=>k it (by simp) _ st
 item:=by
  intro X hP hw hK hc i a7q s U H E I hf st hg
  subst hP hw hK
  obtain⟨f0,f1,f2,f3,f4,f5⟩:=hf it (by simp)
  have W:=Walks.range (prog:=X.prog) (w:=X.w) (I.ok.hd hc) it lo 1 n
  refine W.item i s _ _ hg st λv h' tk hv st' kk=> ?_
  obtain⟨t,rfl⟩:=hv
  have I1:v9 X a7q U H {s with heap:=h',toks:=tk}:=I.turned (λb o hb e=>kk b o (by simpa using hb) e) f0 f1 f3 f4 f5
  refine⟨_,rfl,a2p (s:={s with heap:=h',toks:=tk}) (n:="range_iterator") st' rfl rfl (by decide) ⟨.int (lo+i),H,I1,⟨t,?_⟩,⟨rfl,rfl⟩,st',λb hb=>(hf b hb).1⟩⟩
  rw[Int.mul_one]
 done:=by
  intro X hP hw hK hc i a7q s U H E I hf st hg
  subst hP hw hK
  obtain⟨f0,f1,f2,f3,f4,f5⟩:=hf it (by simp)
  exact wpAny_pyNext_range_end (I.ok.hd hc) st (by have:n<=i:=hg;lia) λh' eb=>⟨rfl,I.turned (t':=s.toks) (λb o hb e=>eb b o hb e) f0 f1 f3 f4 f5⟩
 self:=λ_ _ _ _ _ st h=>wpAny_pyIter_rangeiter st h
section
variable{X:Cx}{tg:Expr}
def a6e(K:Frag)(tl:TE):TI:=λU H R=>tl U H λx H1=>∃a,x= .ref a/\(∃xs,n9 K H1 a xs)/\R (Itl K a) H1
def a61(K:Frag)(tl:TE):TI:=λU H R=>tl U H λx H1=>∃a,x= .ref a/\(∃xs,v7 K H1 a xs)/\R (Itt K a) H1
theorem A3{l:Expr}{tl:TE}(hl:PE X l tl):PI X tg l (a6e X.K tl):=by
 intro a7q s U H R I h
 refine F8 (hl a7q s U H _ I h) λv s1 ⟨x,H1,I1,r1,q1⟩=> ?_
 obtain⟨a,e,⟨xs,hq⟩,q⟩:=q1
 subst e
 cases r1
 obtain⟨its,rv,p,hz⟩:=I1.list hq
 refine wpAny_pyIter_list p.isList ?_
 refine⟨s1.heap.objs.size,[s1.heap.objs.size],_,_,H1,rfl,I1.kept (t':=s1.toks) λb o e=>a7w _ e,a1t a _,⟨_,a7P _ rfl,rfl,rfl⟩,λb hb=> ?_,q⟩
 have e:b=s1.heap.objs.size:=by simpa using hb
 subst e
 exact I1.fpOk (a7A _) (I1.hok.fresh (a7A _))
theorem aI4{l:Expr}{tl:TE}(hl:PE X l tl):PI X tg l (a61 X.K tl):=by
 intro a7q s U H R I h
 refine F8 (hl a7q s U H _ I h) λv s1 ⟨x,H1,I1,r1,q1⟩=> ?_
 obtain⟨a,e,⟨xs,hq⟩,q⟩:=q1
 subst e
 cases r1
 obtain⟨its,rv,p,hz⟩:=I1.tuple hq
 refine wpAny_pyIter_tuple (show s1.heap.IsTuple a its.toArray from p) ?_
 refine⟨s1.heap.objs.size,[s1.heap.objs.size],_,_,H1,rfl,I1.kept (t':=s1.toks) λb o e=>a7w _ e,aV6 a _,⟨_,a7P _ rfl,rfl,rfl⟩,λb hb=> ?_,q⟩
 have e:b=s1.heap.objs.size:=by simpa using hb
 subst e
 exact I1.fpOk (a7A _) (I1.hok.fresh (a7A _))
theorem aO0{a7q:List (Addr×Obj)}{U:St}{H:Hp}{s:Shared}{R:It->Hp->Prop}{E:Value->Shared->Prop}{lo hi:Int}{t u v:Tok}{tk:Nat}(I:v9 X a7q U H s)(h1: -(2^62)<=lo)(h2:lo<2^62)(h3: -(2^62)<=hi)(h4:hi<2^62)
 (q:R (Itr lo (hi-lo).toNat) H):wpAny (model X.prog X.w) X.A (pyIter (.ref s.heap.objs.size)) (PIE X a7q U tg R) E {s with heap:=s.heap.push {cls:= .type "range",data:= .fields #[.int lo t,.int hi u,.int 1 v]},toks:=tk}:=by
 refine wpAny_pyIter_range (IsRange.new ..) (small_one h1 h2 h3 h4) ?_
 have I1:v9 X a7q U H {s with heap:=s.heap.push {cls:= .type "range",data:= .fields #[.int lo t,.int hi u,.int 1 v]},toks:=tk}:=I.kept λb o e=>a7w _ e
 refine⟨(s.heap.push {cls:= .type "range",data:= .fields #[.int lo t,.int hi u,.int 1 v]}).objs.size,[(s.heap.push {cls:= .type "range",data:= .fields #[.int lo t,.int hi u,.int 1 v]}).objs.size],_,_,H,rfl,
  I1.kept (t':=tk) λb o e=>a7w _ e,aV7 _ lo (hi-lo).toNat,?_,λb hb=> ?_,q⟩
 ·have e1:lo+((0:Nat):Int)*1=lo:=by simp
  have e2:(((hi-lo).toNat:Nat):Int)-((0:Nat):Int)=Builtin.Range.rangeSize lo hi 1:=by rw[rangeSize_one];split<;>lia
  show IsRangeIter _ _ (lo+((0:Nat):Int)*1) ((((hi-lo).toNat:Nat):Int)-((0:Nat):Int)) 1
  rw[e1,e2]
  exact a7P _ rfl
 ·have e:b=(s.heap.push {cls:= .type "range",data:= .fields #[.int lo t,.int hi u,.int 1 v]}).objs.size:=by simpa using hb
  subst e
  exact I1.fpOk (a7A _) (I1.hok.fresh (a7A _))
def a6f(ta:TA):TI:=λU H R=>ta U H λvs H1=>∃j:Int,vs=[.int j]/\ -(2^62)<=j/\j<2^62/\R (Itr 0 j.toNat) H1
def a6g(ta:TA):TI:=λU H R=>ta U H λvs H1=>∃i j:Int,vs=[.int i,.int j]/\(-(2^62)<=i/\i<2^62/\ -(2^62)<=j/\j<2^62)/\R (Itr i (j-i).toNat) H1
theorem ae7{a:Expr}{ta:TA}{p pos:Pos}(hg:Gl X "range")(hm:X.mg "range"=none)(ha:PA X [a] ta)(hs:starEach [a] X.env=[(false,eval a X.env)]:=by rfl):PI X tg (.Call (.Name "range" p) [a] [] pos) (a6f ta):=by
 intro a7q s U H R I h
 refine Call_ (X9 I hg hm boot_range (PyProof.Rows.callWith_type1 (F8 (ha pos a7q s U H _ I h) λus s1 ⟨vs,H1,I1,r1,q1⟩=> ?_) hs rfl))
 obtain⟨j,e,q1,q2,q⟩:=q1
 subst e
 cases r1 with
 |cons r rr=>
  cases rr
  obtain⟨t,rfl⟩:=r
  exact call_range_1 (aO0 I1 (by lia) (by lia) q1 q2 (by simpa using q))
theorem a1u{a b:Expr}{ta:TA}{p pos:Pos}(hg:Gl X "range")(hm:X.mg "range"=none)(ha:PA X [a,b] ta)(hs:starEach [a,b] X.env=[(false,eval a X.env),(false,eval b X.env)]:=by rfl)(hs2:starEach [b] X.env=[(false,eval b X.env)]:=by rfl):
 PI X tg (.Call (.Name "range" p) [a,b] [] pos) (a6g ta):=by
 intro a7q s U H R I h
 refine Call_ (X9 I hg hm boot_range (PyProof.Rows.callWith_type1 (F8 (ha pos a7q s U H _ I h) λus s1 ⟨vs,H1,I1,r1,q1⟩=> ?_) (by rw[hs,hs2]) (by rw[hs2];rfl)))
 obtain⟨i,j,e,⟨q1,q2,q3,q4⟩,q⟩:=q1
 subst e
 cases r1 with
 |cons r rr=>
  cases rr with
  |cons r' rr=>
   cases rr
   obtain⟨t,rfl⟩:=r
   obtain⟨t',rfl⟩:=r'
   exact call_range_2 (aO0 I1 q1 q2 q3 q4 q)
def a62(wi:TI)(g:TG)(tb:TS):TS:=λD U H=>wi U H λJ H1=>∃W:Nat->Nat->St->Hp->Prop,(∃m,W 0 m U H1)/\∀i m U H,W i m U H->
 (J.stop i H/\D.nx U H)\/(J.go i H/\∃N:St->Hp->Prop,(∀σ' H',N σ' H'->∃m',m'<m/\W (i+1) m' σ' H')/\∀x H',J.yld i H x H'->g x U H' λσ2 H2=>tb {D with nx:=N,ct:=N,bk:=D.nx} σ2 H2)
def av0(fp:List Addr)(h:Heap):List (Addr×Obj):=fp.filterMap λb=>(h.get? b).map λo=>(b,o)
theorem ah1{fp:List Addr}{h:Heap}{b:Addr}{o:Obj}(hb:b∈fp)(e:h.get? b=some o):(b,o)∈av0 fp h:=List.mem_filterMap.mpr ⟨b,hb,by rw[e];rfl⟩
theorem a1v{fp:List Addr}{h:Heap}{p:Addr×Obj}(hp:p∈av0 fp h):p.1∈fp/\h.get? p.1=some p.2:=by
 obtain⟨b,hb,e⟩:=List.mem_filterMap.mp hp
 cases q:h.get? b with
 |none=>rw[q]at e;cases e
 |some o=>
  rw[q]at e
  have e':(b,o)=p:=a7v e
  subst e'
  exact⟨hb,q⟩
theorem v9.pinned{a7q:List (Addr×Obj)}{U:St}{H:Hp}{s:Shared}{fp:List Addr}(I:v9 X a7q U H s)(hf:∀b∈fp,as9 X a7q H b)(ho:∀b∈fp,∃o,s.heap.get? b=some o/\∀v,o.data≠.cell v):v9 X (a7q++av0 fp s.heap) U H s:=
 I.pins_of λp hp=>(a77.mp hp).elim (λz=>I.pin p (a8u _ z)) λz=>by
  obtain⟨hb,e⟩:=a1v z
  obtain⟨f0,f1,f2,_⟩:=hf p.1 hb
  obtain⟨o,e',d⟩:=ho p.1 hb
  rw[e]at e';cases e'
  exact⟨e,f0,f1,f2,d⟩
theorem v9.unpinned{a7q pl:List (Addr×Obj)}{U:St}{H:Hp}{s:Shared}(I:v9 X (a7q++pl) U H s):v9 X a7q U H s:=I.pins_of λp hp=>I.pin p (a8u _ (a88 _ hp))
theorem E9{iter:Expr}{body:List Stmt}{wi:TI}{g:TG}{tb:TS}{pos:Pos}(hp:PassesOwn (model X.prog X.w) X.A X.env X.xe)(hc:X.calm=true)(hi:PI X tg iter wi)(hg:PG X tg g)(hb:PSs X body tb)
 (hs:∀x,foldedSetIterable iter X.env x=pure x:=by intro _;rfl):PS X (.For tg iter body [] pos) (a62 wi g tb):=by
 intro a7q s U H D I h
 refine wpAny_For (F8 (hi a7q s U H _ I h) λv s1 h1=>F8 h1 λitv s2 h2=> ?_) hs
 obtain⟨it,fp,tn,J,H2,e,I2,T,st2,f2,W,⟨m0,w0⟩,turn⟩:=h2
 subst e
 have stat:∀{H':Hp},(∀b∈fp,H' b=none)->∀b∈fp,as9 X a7q H' b:=λhn b hb=>⟨hn b hb,(f2 b hb).2⟩
 refine codeAny_forLoop_any (λn s'=>∃i σ' H',v9 X a7q σ' H' s'/\tn i s'.heap/\(∀b∈fp,H' b=none)/\W i n σ' H') ?_ m0 ⟨0,U,H2,I2,st2,λb hb=>(f2 b hb).1,w0⟩
 rintro n s3 ⟨i,σ3,H3,I3,st3,fr3,w3⟩
 rcases turn i n σ3 H3 w3 with⟨stop,qn⟩|⟨go,N,hN,step⟩
 ·refine wpAny_passesOwn hp (F8 (T.done X rfl rfl rfl hc i a7q s3 σ3 H3 X.xe I3 (stat fr3) st3 stop) λr s4 ⟨hr,I4⟩=> ?_)
  subst hr
  exact wpAny_execs_nil ⟨σ3,H3,I4,qn⟩
 ·refine wpAny_passesOwn hp (F8 (T.item X rfl rfl rfl hc i a7q s3 σ3 H3 X.xe I3 (stat fr3) st3 go) λr s4 ⟨u,hr,h4⟩=> ?_)
  subst hr
  refine wpAny_passesOwn hp (F8 h4 λ_ s5 ⟨x,H5,I5,r5,y5,st5,fr5⟩=> ?_)
  have I5':=I5.pinned (stat fr5) (T.obj _ _ st5)
  refine wpAny_passesOwn hp (F8 (hg _ s5 σ3 H5 x u _ I5' r5 (step x H5 y5)) λ_ s6 ⟨σ6,H6,I6,q6⟩=> ?_)
  refine wpAny_passesOwn hp (F8 (hb _ s6 σ6 H6 _ I6 q6) λf s7 q7=> ?_)
  have again:∀{σ7:St} {H7:Hp},v9 X (a7q++av0 fp s5.heap) σ7 H7 s7->N σ7 H7->∃m,m<n/\∃i σ' H',v9 X a7q σ' H' s7/\tn i s7.heap/\(∀b∈fp,H' b=none)/\W i m σ' H':=λ{σ7 H7} I7 n7=>by
   obtain⟨m',hm,w7⟩:=hN σ7 H7 n7
   refine⟨m',hm,i+1,σ7,H7,I7.unpinned,T.keep _ _ _ st5 λb hb o e=>(I7.pin (b,o) (a8u _ (a8u _ (ah1 hb e)))).1,λb hb=> ?_,w7⟩
   obtain⟨o,e,d⟩:=T.obj _ _ st5 b hb
   exact(I7.pin (b,o) (a8u _ (a8u _ (ah1 hb e)))).2.1
  cases f with
  |next=>obtain⟨σ7,H7,I7,n7⟩:=q7;exact again I7 n7
  |cont=>obtain⟨σ7,H7,I7,n7⟩:=q7;exact again I7 n7
  |brk=>obtain⟨σ7,H7,I7,q7⟩:=q7;exact⟨σ7,H7,I7.unpinned,q7⟩
  |ret v=>obtain⟨x7,σ7,H7,I7,r7,q7⟩:=q7;exact⟨x7,σ7,H7,I7.unpinned,r7,q7⟩
end
theorem L1{K:Frag}{a:Addr}{xs:List V}{g:TG}{tb:TS}{D:au6}{U:St}{H:Hp}(Pv:Nat->St->Hp->Prop)(h0:Pv 0 U H)(hl:∀i U H,i<=xs.length->Pv i U H->n9 K H a xs)
 (hs:∀i x U H,xs[i]? =some x->Pv i U H->g x U H λσ2 H2=>tb {D with nx:=Pv (i+1),ct:=Pv (i+1),bk:=D.nx} σ2 H2) (hd:∀U H,Pv xs.length U H->D.nx U H):
 ∃W:Nat->Nat->St->Hp->Prop,(∃m,W 0 m U H)/\∀i m U H,W i m U H->
  ((Itl K a).stop i H/\D.nx U H)\/((Itl K a).go i H/\∃N:St->Hp->Prop,(∀σ' H',N σ' H'->∃m',m'<m/\W (i+1) m' σ' H')/\∀x H',(Itl K a).yld i H x H'->g x U H' λσ2 H2=>tb {D with nx:=N,ct:=N,bk:=D.nx} σ2 H2):=by
 refine⟨λi m U H=>m=xs.length-i/\i<=xs.length/\Pv i U H,⟨xs.length,by simp,a8n _,h0⟩,?_⟩
 rintro i m U H ⟨rfl,hi,p⟩
 have q:=hl i U H hi p
 by_cases hlt:i<xs.length
 ·refine .inr ⟨⟨xs,xs[i],q,by simp[hlt]⟩,Pv (i+1),λσ' H' p'=>⟨xs.length-(i+1),by lia,rfl,hlt,p'⟩,λx H' y=> ?_⟩
  obtain⟨e,y⟩:=y
  subst e
  exact hs i x U _ (y xs q) p
 ·have e:i=xs.length:=by lia
  subst e
  exact .inl ⟨⟨xs,q,a7A _⟩,hd U H p⟩
theorem aI5{K:Frag}{a:Addr}{xs:List V}{g:TG}{tb:TS}{D:au6}{U:St}{H:Hp}(Pv:Nat->St->Hp->Prop)(h0:Pv 0 U H)(hl:∀i U H,i<=xs.length->Pv i U H->v7 K H a xs)
 (hs:∀i x U H,xs[i]? =some x->Pv i U H->g x U H λσ2 H2=>tb {D with nx:=Pv (i+1),ct:=Pv (i+1),bk:=D.nx} σ2 H2) (hd:∀U H,Pv xs.length U H->D.nx U H):
 ∃W:Nat->Nat->St->Hp->Prop,(∃m,W 0 m U H)/\∀i m U H,W i m U H->
  ((Itt K a).stop i H/\D.nx U H)\/((Itt K a).go i H/\∃N:St->Hp->Prop,(∀σ' H',N σ' H'->∃m',m'<m/\W (i+1) m' σ' H')/\∀x H',(Itt K a).yld i H x H'->g x U H' λσ2 H2=>tb {D with nx:=N,ct:=N,bk:=D.nx} σ2 H2):=by
 refine⟨λi m U H=>m=xs.length-i/\i<=xs.length/\Pv i U H,⟨xs.length,by simp,a8n _,h0⟩,?_⟩
 rintro i m U H ⟨rfl,hi,p⟩
 have q:=hl i U H hi p
 by_cases hlt:i<xs.length
 ·refine .inr ⟨⟨xs,xs[i],q,by simp[hlt]⟩,Pv (i+1),λσ' H' p'=>⟨xs.length-(i+1),by lia,rfl,hlt,p'⟩,λx H' y=> ?_⟩
  obtain⟨e,y⟩:=y
  subst e
  exact hs i x U _ (y xs q) p
 ·have e:i=xs.length:=by lia
  subst e
  exact .inl ⟨⟨xs,q,a7A _⟩,hd U H p⟩
theorem ae8{lo:Int}{n:Nat}{g:TG}{tb:TS}{D:au6}{U:St}{H:Hp}(Pv:Nat->St->Hp->Prop)(h0:Pv 0 U H)
 (hs:∀i U H,i<n->Pv i U H->g (.int (lo+i)) U H λσ2 H2=>tb {D with nx:=Pv (i+1),ct:=Pv (i+1),bk:=D.nx} σ2 H2) (hd:∀U H,Pv n U H->D.nx U H):
 ∃W:Nat->Nat->St->Hp->Prop,(∃m,W 0 m U H)/\∀i m U H,W i m U H->
  ((Itr lo n).stop i H/\D.nx U H)\/((Itr lo n).go i H/\∃N:St->Hp->Prop,(∀σ' H',N σ' H'->∃m',m'<m/\W (i+1) m' σ' H')/\∀x H',(Itr lo n).yld i H x H'->g x U H' λσ2 H2=>tb {D with nx:=N,ct:=N,bk:=D.nx} σ2 H2):=by
 refine⟨λi m U H=>m=n-i/\i<=n/\Pv i U H,⟨n,by simp,a8n _,h0⟩,?_⟩
 rintro i m U H ⟨rfl,hi,p⟩
 by_cases hlt:i<n
 ·refine .inr ⟨hlt,Pv (i+1),λσ' H' p'=>⟨n-(i+1),by lia,rfl,hlt,p'⟩,λx H' y=> ?_⟩
  obtain⟨e,y⟩:=y
  subst e y
  exact hs i U _ hlt p
 ·have e:i=n:=by lia
  subst e
  exact .inl ⟨a7A _,hd U H p⟩
abbrev R2:=V->V->Hp->VK->Prop
def OpR(X:Cx)(f:Value->Value->Sem Value)(r:R2):Prop:=
 ∀(a7q:List (Addr×Obj)) (s:Shared) (U:St) (H:Hp) (x y:V) (v u:Value) (Q:VK),v9 X a7q U H s->B4 x v->B4 y u->r x y H Q->
  wpAny (model X.prog X.w) X.A (f v u) (EP X a7q U Q) X.xe s
def UnR(X:Cx)(f:Value->Sem Value)(r:V->Hp->VK->Prop):Prop:=
 ∀(a7q:List (Addr×Obj)) (s:Shared) (U:St) (H:Hp) (x:V) (v:Value) (Q:VK),v9 X a7q U H s->B4 x v->r x H Q->
  wpAny (model X.prog X.w) X.A (f v) (EP X a7q U Q) X.xe s
def N4(X:Cx)(f:Value)(r:List V->Hp->VK->Prop):Prop:=
 ∀(a7q:List (Addr×Obj)) (s:Shared) (U:St) (H:Hp) (xs:List V) (us:List Value) (Q:VK),v9 X a7q U H s->y8 xs us->r xs H Q->
  wpAny (model X.prog X.w) X.A (call f us) (EP X a7q U Q) X.xe s
def a63(X:Cx)(r:V->Hp->(Bool->Hp->Prop)->Prop):Prop:=
 ∀(a7q:List (Addr×Obj)) (s:Shared) (U:St) (H:Hp) (x:V) (v:Value) (Q:Bool->Hp->Prop),v9 X a7q U H s->B4 x v->r x H Q->
  wpAny (model X.prog X.w) X.A (truthy v) (TP X a7q U Q) X.xe s
def tOp(r:R2)(ta tb:TE):TE:=λU H Q=>ta U H λx H1=>tb U H1 λy H2=>r x y H2 Q
def tUn(r:V->Hp->VK->Prop)(ta:TE):TE:=λU H Q=>ta U H λx H1=>r x H1 Q
def rI(C:Int->Int->Prop)(g:Int->Int->V):R2:=λx y H Q=>∃i j,x= .int i/\y= .int j/\C i j/\Q (g i j) H
def rI0(g:Int->Int->V):R2:=λx y H Q=>∃i j,x= .int i/\y= .int j/\Q (g i j) H
def rU(g:Int->V):V->Hp->VK->Prop:=λx H Q=>∃i,x= .int i/\Q (g i) H
section
variable{X:Cx}{a b c:Expr}{ta tb tc:TE}{pos:Pos}
theorem a5f(ha:PE X a ta)(hb:PE X b tb){a7q:List (Addr×Obj)}{s:Shared}{U:St}{H:Hp}{R:V->V->Hp->Prop}(I:v9 X a7q U H s)
 (h:ta U H λx H1=>tb U H1 λy H2=>R x y H2) {Q:Value->Shared->Prop} {f:Value->Value->Sem Value}
 (hf:∀v u s2 x y H2,v9 X a7q U H2 s2->B4 x v->B4 y u->R x y H2->wpAny (model X.prog X.w) X.A (f v u) Q X.xe s2):
 wpAny (model X.prog X.w) X.A (eval a X.env) (λv s₁=>wpAny (model X.prog X.w) X.A (eval b X.env) (λu s₂=>wpAny (model X.prog X.w) X.A (f v u) Q X.xe s₂) X.xe s₁) X.xe s:=by
 refine F8 (ha a7q s U H _ I h) λv s1 ⟨x,H1,I1,r1,q1⟩=> ?_
 refine F8 (hb a7q s1 U H1 _ I1 q1) λu s2 ⟨y,H2,I2,r2,q2⟩=> ?_
 exact hf v u s2 x y H2 I2 r1 r2 q2
theorem m9{op:Operator}{r:R2}(ho:OpR X (binaryOp op) r)(ha:PE X a ta)(hb:PE X b tb):PE X (.BinOp a op b pos) (tOp r ta tb):=by
 intro a7q s U H Q I h
 exact wpAny_BinOp (a5f ha hb I h λv u s2 x y H2 I2 rx ry q=>ho a7q s2 U H2 x y v u Q I2 rx ry q)
theorem T9{op:UnaryOp}{r:V->Hp->VK->Prop}(ho:UnR X (unaryOp op) r)(ha:PE X a ta):PE X (.UnaryOp op a pos) (tUn r ta):=by
 intro a7q s U H Q I h
 exact UnaryOp_ (F8 (ha a7q s U H _ I h) λv s1 ⟨x,H1,I1,r1,q1⟩=>ho a7q s1 U H1 x v Q I1 r1 q1)
theorem opI{f:Value->Value->Sem Value}{C:Int->Int->Prop}{g:Int->Int->Int}
 (rule:∀(i j:Int) (t u:Tok) (s:Shared) (Q:Value->Shared->Prop) (E:Value->Shared->Prop),C i j->Q (.int (g i j) s.toks) {s with toks:=s.toks+1}->wpAny (model X.prog X.w) X.A (f (.int i t) (.int j u)) Q E s):
 OpR X f (rI C λi j=> .int (g i j)):=by
 intro a7q s U H x y v u Q I rx ry h
 obtain⟨i,j,rfl,rfl,hc,q⟩:=h
 obtain⟨t,rfl⟩:=rx
 obtain⟨t',rfl⟩:=ry
 exact rule i j t t' s _ _ hc ⟨.int (g i j),H,I.tok _,⟨_,rfl⟩,q⟩
theorem a6h{f:Value->Value->Sem Value}{g:Int->Int->Int}
 (rule:∀(i j:Int) (t u:Tok) (s:Shared) (Q:Value->Shared->Prop) (E:Value->Shared->Prop),Q (.int (g i j) s.toks) {s with toks:=s.toks+1}->wpAny (model X.prog X.w) X.A (f (.int i t) (.int j u)) Q E s):
 OpR X f (rI0 λi j=> .int (g i j)):=by
 intro a7q s U H x y v u Q I rx ry h
 obtain⟨i,j,rfl,rfl,q⟩:=h
 obtain⟨t,rfl⟩:=rx
 obtain⟨t',rfl⟩:=ry
 exact rule i j t t' s _ _ ⟨.int (g i j),H,I.tok _,⟨_,rfl⟩,q⟩
theorem a3P{f:Value->Value->Sem Value}{g:Int->Int->Bool}
 (rule:∀(i j:Int) (t u:Tok) (s:Shared) (Q:Value->Shared->Prop) (E:Value->Shared->Prop),Q (.bool (g i j)) s->wpAny (model X.prog X.w) X.A (f (.int i t) (.int j u)) Q E s):
 OpR X f (rI0 λi j=> .bl (g i j)):=by
 intro a7q s U H x y v u Q I rx ry h
 obtain⟨i,j,rfl,rfl,q⟩:=h
 obtain⟨t,rfl⟩:=rx
 obtain⟨t',rfl⟩:=ry
 exact rule i j t t' s _ _ ⟨.bl (g i j),H,I,rfl,q⟩
def a64(i j:Int):Prop:=0<j/\j<1073741824
def aO1(i j:Int):Prop:=(-(2^64)<i/\i<2^64)\/(-(2^64)<j/\j<2^64)
theorem aO1.ok{i j:Int}(h:aO1 i j):IntMulOk i j:=by
 rcases h with⟨h1,h2⟩|⟨h1,h2⟩
 ·exact .of_left (intBits_le_64 h1 h2)
 ·exact .of_right (intBits_le_64 h1 h2)
theorem B0:OpR X (binaryOp .Add) (rI0 λi j=> .int (i+j)):=a6h λ_ _ _ _ _ _ _ q=>add_int q
theorem F0:OpR X (binaryOp .Sub) (rI0 λi j=> .int (i-j)):=a6h λ_ _ _ _ _ _ _ q=>sub_int q
theorem M7:OpR X (binaryOp .Mult) (rI aO1 λi j=> .int (i*j)):=opI λ_ _ _ _ _ _ _ hc q=>mul_int q hc.ok
theorem a3Q:OpR X (binaryOp .FloorDiv) (rI a64 λi j=> .int (i/j)):=opI λi j _ _ _ _ _ hc q=>by
 have h1:(0:Int)<j:=hc.1
 have h2:j<1073741824:=hc.2
 exact floordiv_int (by lia) (by rw[Int.fdiv_eq_ediv_of_nonneg i (by lia)];exact q) (.inl (PyProof.noPylong_small (by lia)))
theorem unI{f:Value->Sem Value}{g:Int->Int}
 (rule:∀(i:Int) (t:Tok) (s:Shared) (Q:Value->Shared->Prop) (E:Value->Shared->Prop),Q (.int (g i) s.toks) {s with toks:=s.toks+1}->wpAny (model X.prog X.w) X.A (f (.int i t)) Q E s):
 UnR X f (rU λi=> .int (g i)):=by
 intro a7q s U H x v Q I rx h
 obtain⟨i,rfl,q⟩:=h
 obtain⟨t,rfl⟩:=rx
 exact rule i t s _ _ ⟨.int (g i),H,I.tok _,⟨_,rfl⟩,q⟩
theorem N5:UnR X (unaryOp .USub) (rU λi=> .int (-i)):=unI λ_ _ _ _ _ q=>neg_int q
end
def a6i:V->V->Bool
 | .non,.non=>true| .non,.int _=>true| .int _,.non=>true| .non,.bl _=>true| .bl _,.non=>true| .non,.str _=>true| .str _,.non=>true
 | .int _,.int _=>true| .bl _,.bl _=>true| .str _,.str _=>true| .byt _,.byt _=>true
 | .int _,.str _=>true| .str _,.int _=>true| .bl _,.str _=>true| .str _,.bl _=>true
 |_,_=>false
def rEq:R2:=λx y H Q=>a6i x y=true/\Q (.bl (decide (x=y))) H
def rNe:R2:=λx y H Q=>a6i x y=true/\Q (.bl (!decide (x=y))) H
theorem a0w{i j:Int}:decide (V.int i=V.int j)=(i==j):=by
 rw[a7W]
 simp
theorem a2q{i j:Bool}:decide (V.bl i=V.bl j)=(i==j):=by
 rw[a7W]
 simp
theorem a0x{i j:Str}:decide (V.str i=V.str j)=(i==j):=by
 rw[a7W]
 simp
theorem a0y{i j:Array UInt8}:decide (V.byt i=V.byt j)=(i.toList==j.toList):=by
 rw[a7W]
 cases i
 cases j
 simp
section
variable{X:Cx}{a b c:Expr}{ta tb tc:TE}{pos:Pos}
theorem C0{a7q:List (Addr×Obj)}{U:St}{H:Hp}{s:Shared}{Q:VK}{k k':Bool}(I:v9 X a7q U H s)(q:Q (.bl k) H)(e:k=k'):EP X a7q U Q (.bool k') s:=by
 subst e
 exact⟨.bl k,H,I,rfl,q⟩
theorem K5:OpR X (compareOp .Eq) rEq:=by
 intro a7q s U H x y v u Q I rx ry h
 obtain⟨hs,q⟩:=h
 cases x with
 |non=>
  cases rx
  cases y with
  |non=>cases ry;exact PySem.EqNone.eq_none_none (C0 I q (by simp))
  |bl j=>cases ry;exact PySem.EqNone.eq_none_bool (C0 I q (by simp))
  |int j=>obtain⟨t',rfl⟩:=ry;exact PySem.EqNone.eq_none_int (C0 I q (by simp))
  |str j=>obtain⟨t',rfl⟩:=ry;exact PySem.EqNone.eq_none_str (C0 I q (by simp))
  |_=>exact absurd (show false=true from hs) a7Z
 |bl i=>
  cases rx
  cases y with
  |non=>cases ry;exact PySem.EqNone.eq_bool_none (C0 I q (by simp))
  |bl j=>cases ry;exact eq_bool (C0 I q a2q)
  |str j=>obtain⟨t',rfl⟩:=ry;exact PySem.EqMixed.eq_bool_str (C0 I q (by simp))
  |_=>exact absurd (show false=true from hs) a7Z
 |int i=>
  obtain⟨t,rfl⟩:=rx
  cases y with
  |non=>cases ry;exact PySem.EqNone.eq_int_none (C0 I q (by simp))
  |int j=>obtain⟨t',rfl⟩:=ry;exact eq_int (C0 I q a0w)
  |str j=>obtain⟨t',rfl⟩:=ry;exact PySem.EqMixed.eq_int_str (C0 I q (by simp))
  |_=>exact absurd (show false=true from hs) a7Z
 |str i=>
  obtain⟨t,rfl⟩:=rx
  cases y with
  |non=>cases ry;exact PySem.EqNone.eq_str_none (C0 I q (by simp))
  |bl j=>cases ry;exact PySem.EqMixed.eq_str_bool (C0 I q (by simp))
  |int j=>obtain⟨t',rfl⟩:=ry;exact PySem.EqMixed.eq_str_int (C0 I q (by simp))
  |str j=>obtain⟨t',rfl⟩:=ry;exact eq_str (C0 I q a0x)
  |_=>exact absurd (show false=true from hs) a7Z
 |byt i=>
  obtain⟨t,rfl⟩:=rx
  cases y with
  |byt j=>obtain⟨t',rfl⟩:=ry;exact PySem.W.eq_bytes (C0 I q a0y)
  |_=>exact absurd (show false=true from hs) a7Z
 |_=>cases y<;>exact absurd (show false=true from hs) a7Z
theorem aO2:OpR X (compareOp .NotEq) rNe:=by
 intro a7q s U H x y v u Q I rx ry h
 obtain⟨hs,q⟩:=h
 cases x with
 |non=>
  cases rx
  cases y with
  |non=>cases ry;exact PySem.EqNone.ne_none_none (C0 I q (by simp))
  |bl j=>cases ry;exact PySem.EqNone.ne_none_bool (C0 I q (by simp))
  |int j=>obtain⟨t',rfl⟩:=ry;exact PySem.EqNone.ne_none_int (C0 I q (by simp))
  |str j=>obtain⟨t',rfl⟩:=ry;exact PySem.EqNone.ne_none_str (C0 I q (by simp))
  |_=>exact absurd (show false=true from hs) a7Z
 |bl i=>
  cases rx
  cases y with
  |non=>cases ry;exact PySem.EqNone.ne_bool_none (C0 I q (by simp))
  |bl j=>cases ry;exact ne_bool (C0 I q (congrArg not a2q))
  |str j=>obtain⟨t',rfl⟩:=ry;exact PySem.EqMixed.ne_bool_str (C0 I q (by simp))
  |_=>exact absurd (show false=true from hs) a7Z
 |int i=>
  obtain⟨t,rfl⟩:=rx
  cases y with
  |non=>cases ry;exact PySem.EqNone.ne_int_none (C0 I q (by simp))
  |int j=>obtain⟨t',rfl⟩:=ry;exact ne_int (C0 I q (congrArg not a0w))
  |str j=>obtain⟨t',rfl⟩:=ry;exact PySem.EqMixed.ne_int_str (C0 I q (by simp))
  |_=>exact absurd (show false=true from hs) a7Z
 |str i=>
  obtain⟨t,rfl⟩:=rx
  cases y with
  |non=>cases ry;exact PySem.EqNone.ne_str_none (C0 I q (by simp))
  |bl j=>cases ry;exact PySem.EqMixed.ne_str_bool (C0 I q (by simp))
  |int j=>obtain⟨t',rfl⟩:=ry;exact PySem.EqMixed.ne_str_int (C0 I q (by simp))
  |str j=>obtain⟨t',rfl⟩:=ry;exact ne_str (C0 I q (congrArg not a0x))
  |_=>exact absurd (show false=true from hs) a7Z
 |byt i=>
  obtain⟨t,rfl⟩:=rx
  cases y with
  |byt j=>obtain⟨t',rfl⟩:=ry;exact PySem.W.ne_bytes (C0 I q (congrArg not a0y))
  |_=>exact absurd (show false=true from hs) a7Z
 |_=>cases y<;>exact absurd (show false=true from hs) a7Z
theorem S4:OpR X (compareOp .Lt) (rI0 λi j=> .bl (decide (i<j))):=a3P λ_ _ _ _ _ _ _ q=>lt_int q
theorem aO3:OpR X (compareOp .LtE) (rI0 λi j=> .bl (decide (i<=j))):=a3P λ_ _ _ _ _ _ _ q=>le_int q
theorem aD9:OpR X (compareOp .Gt) (rI0 λi j=> .bl (decide (j<i))):=a3P λ_ _ _ _ _ _ _ q=>gt_int q
theorem av1:OpR X (compareOp .GtE) (rI0 λi j=> .bl (decide (j<=i))):=a3P λ_ _ _ _ _ _ _ q=>ge_int q
theorem a3R:OpR X (compareOp .IsNot) (λx y H Q=>y= .non/\Q (.bl (!decide (x= .non))) H):=by
 intro a7q s U H x y v u Q I rx ry h
 obtain⟨rfl,q⟩:=h
 cases ry
 refine isnot_none_gen (C0 I q ?_)
 cases x<;>first
  |(cases rx;rfl)
  |(obtain⟨t,rfl⟩:=rx;rfl)
theorem t9(b:Expr){op:CmpOp}(h:op≠.In:=by decide)(h2:op≠.NotIn:=by decide):behindInMarks op b=false:=by
 have e1:(op==CmpOp.In)=false:=by cases op<;>first|rfl|exact absurd rfl h
 have e2:(op==CmpOp.NotIn)=false:=by cases op<;>first|rfl|exact absurd rfl h2
 cases b<;>simp[behindInMarks,e1,e2]
theorem R5{op:CmpOp}{r:R2}(ho:OpR X (compareOp op) r)(ha:PE X a ta)(hb:PE X b tb)(hm:behindInMarks op b=false):PE X (.Compare a [op] [b] pos) (tOp r ta tb):=by
 intro a7q s U H Q I h
 exact wpAny_Compare1 (a5f ha hb I h λv u s2 x y H2 I2 rx ry q=>ho a7q s2 U H2 x y v u Q I2 rx ry q) hm
def a6j(t:TE):TT:=λU H Q=>t U H λx H'=>∃k,x= .bl k/\Q k H'
theorem o8{op:CmpOp}{r:R2}(ho:OpR X (compareOp op) r)(ha:PE X a ta)(hb:PE X b tb)(hm:behindInMarks op b=false):PT X (.Compare a [op] [b] pos) (a6j (tOp r ta tb)):=by
 intro a7q s U H Q I h
 refine wpAny_isTrue_Compare1 (F8 (ha a7q s U H _ I h) λv s1 ⟨x,H1,I1,r1,q1⟩=>F8 (hb a7q s1 U H1 _ I1 q1) λu s2 ⟨y,H2,I2,r2,q2⟩=>
  F8 (ho a7q s2 U H2 x y v u _ I2 r1 r2 q2) λc s3 ⟨z,H3,I3,r3,k,e,q3⟩=> ?_) hm
 subst e
 cases r3
 exact wpAny_truthy_bool ⟨H3,I3,q3⟩
def a5g(r r':R2)(ta tb tc:TE):TE:=λU H Q=>ta U H λx H1=>tb U H1 λy H2=>r x y H2 λz H3=>∃k,z= .bl k/\
 (if k=true then tc U H3 λw' H4=>r' y w' H4 Q else Q (.bl false) H3)
theorem a2r{op op':CmpOp}{r r':R2}(ho:OpR X (compareOp op) r)(ho':OpR X (compareOp op') r')(ha:PE X a ta)(hb:PE X b tb)(hc:PE X c tc)
 (hm:lastMarks [op,op'] [b,c]=false:=by with_unfolding_all rfl):PE X (.Compare a [op,op'] [b,c] pos) (a5g r r' ta tb tc):=by
 intro a7q s U H Q I h
 refine Compare_chain (F8 (ha a7q s U H _ I h) λv s1 ⟨x,H1,I1,r1,q1⟩=>chain_link (F8 (hb a7q s1 U H1 _ I1 q1) λu s2 ⟨y,H2,I2,r2,q2⟩=>
  F8 (ho a7q s2 U H2 x y v u _ I2 r1 r2 q2) λd s3 ⟨z,H3,I3,r3,k,e,q3⟩=> ?_)) hm
 subst e
 cases r3
 refine wpAny_truthy_bool ?_
 cases k with
 |false=>exact ite_ff ⟨.bl false,H3,I3,rfl,q3⟩
 |true=>exact ite_tt (chain_last (F8 (hc a7q s3 U H3 _ I3 q3) λw' s4 ⟨z',H4,I4,r4,q4⟩=>ho' a7q s4 U H4 y z' u w' Q I4 r2 r4 q4))
def a5h(K:Frag)(x:V)(H:Hp)(k:Bool):Prop:=
 match x with
 | .non=>k=false
 | .bl b=>k=b
 | .int i=>k=(i !=0)
 | .str y=>y.length<=sizeLine/\k=((y.length:Int) !=0)
 | .byt y=>y.size<=sizeLine/\k=((y.size:Int) !=0)
 | .ref p=>(∃xs,n9 K H p xs/\k= !xs.isEmpty)\/(∃xs,v7 K H p xs/\k= !xs.isEmpty)\/∃kvs,H p=some (.dK kvs)/\k= !kvs.isEmpty
 |_=>False
theorem aV8{κ:Type}{kvs:List (κ×V)}{vs:List (κ×Value)}(r:KV kvs vs):(!vs.isEmpty)= !kvs.isEmpty:=by
 cases r<;>rfl
theorem av2{xs:List V}{its:List Value}(r:y8 xs its):(!its.toArray.isEmpty)= !xs.isEmpty:=by
 cases r<;>simp
theorem am7:(sizeLine:Nat)<2^63:=by rw[sizeLine_eq];decide
theorem a5i:a63 X (λx H Q=>∃k,a5h X.K x H k/\Q k H):=by
 intro a7q s U H x v Q I rx h
 obtain⟨k,e,q⟩:=h
 have hl:=am7
 have hs:sizeLine=16777216:=sizeLine_eq
 cases x with
 |non=>
  cases rx
  have e':k=false:=e
  subst e'
  exact truthy_none ⟨H,I,q⟩
 |bl b=>
  cases rx
  have e':k=b:=e
  subst e'
  exact wpAny_truthy_bool ⟨H,I,q⟩
 |int i=>
  obtain⟨t,rfl⟩:=rx
  have e':k=(i !=0):=e
  subst e'
  exact PySem.P.truthy_int ⟨H,I,q⟩
 |str y=>
  obtain⟨t,rfl⟩:=rx
  obtain⟨hy,e'⟩:y.length<=sizeLine/\k=((y.length:Int) !=0):=e
  subst e'
  exact PySem.P.truthy_str (by lia) ⟨H,I.tok _,q⟩
 |byt y=>
  obtain⟨t,rfl⟩:=rx
  obtain⟨hy,e'⟩:y.size<=sizeLine/\k=((y.size:Int) !=0):=e
  subst e'
  exact PySem.W.truthy_bytes (by lia) ⟨H,I.tok _,q⟩
 |ref p=>
  cases rx
  have e':(∃xs,n9 X.K H p xs/\k= !xs.isEmpty)\/(∃xs,v7 X.K H p xs/\k= !xs.isEmpty)\/∃kvs,H p=some (.dK kvs)/\k= !kvs.isEmpty:=e
  rcases e' with⟨xs,hx,e'⟩|⟨xs,hx,e'⟩|⟨kvs,hx,e'⟩
  ·subst e'
   obtain⟨its,r,pl,hz⟩:=I.list hx
   have hlen:=r.length
   exact wpAny_truthy_list pl.isList (by simp only[a7K];lia) ⟨H,I.tok _,by rw[av2 r];exact q⟩
  ·subst e'
   obtain⟨its,r,pl,hz⟩:=I.tuple hx
   have hlen:=r.length
   exact truthy_tuple pl (by simp only[a7K];lia) ⟨H,I.tok _,by rw[av2 r];exact q⟩
  ·subst e'
   obtain⟨hz,hS,vs,r,m⟩:kvs.length<=sizeLine/\(p==sysModules)=false/\∃vs,KV kvs vs/\s.heap.DictOf (C8 X.prog X.w) p vs:=I.hok p _ hx
   have hlen:kvs.length=vs.length:=Paired.length r
   exact wpAny_truthy_dict hS m (by lia) ⟨H,I.tok _,by rw[aV8 r];exact q⟩
 |_=>exact(show False from e).elim
theorem Q5(ha:PE X a ta)(he:∀whole,isTrue a X.env whole=(do let v ←whole;standAt a.pos;holding [v] (truthy v))):
 PT X a (λU H Q=>ta U H λx H'=>∃k,a5h X.K x H' k/\Q k H'):=by
 intro a7q s U H Q I h
 exact isTrue_plain (F8 (ha a7q s U H _ I h) λv s1 ⟨x,H1,I1,r1,q1⟩=>a5i a7q s1 U H1 x v Q I1 r1 q1) (he _)
theorem aO4{x:V}{us:List Value}(r:y8 [x] us):∃u,us=[u]/\B4 x u:=by
 cases r with
 |cons r1 r2=>cases r2;exact⟨_,rfl,r1⟩
theorem a2s{x y:V}{us:List Value}(r:y8 [x,y] us):∃u w',us=[u,w']/\B4 x u/\B4 y w':=by
 cases r with
 |cons r1 r2=>
  cases r2 with
  |cons r3 r4=>cases r4;exact⟨_,_,rfl,r1,r3⟩
theorem W9:N4 X (.builtin "abs") (λxs H Q=>∃i,xs=[.int i]/\Q (.int (if i<0 then-i else i)) H):=by
 intro a7q s U H xs us Q I r h
 obtain⟨i,rfl,q⟩:=h
 obtain⟨u,rfl,t,rfl⟩:=aO4 r
 exact call_abs_int λu tk=>⟨.int (if i<0 then-i else i),H,I.tok _,⟨_,rfl⟩,q⟩
theorem ae9(hc:X.calm=true):N4 X (.builtin "max") (λxs H Q=>∃i j,xs=[.int i,.int j]/\Q (.int (if j>i then j else i)) H):=by
 intro a7q s U H xs us Q I r h
 obtain⟨i,j,rfl,q⟩:=h
 obtain⟨u,w',rfl,⟨t,rfl⟩,⟨t',rfl⟩⟩:=a2s r
 refine max_two_ints (I.ok.hd hc) λh' tk k=>⟨_,H,I.kept k,?_,q⟩
 by_cases hj:j>i
 ·rw[if_pos hj,if_pos hj];exact⟨_,rfl⟩
 ·rw[if_neg hj,if_neg hj];exact⟨_,rfl⟩
theorem af0(hc:X.calm=true):N4 X (.builtin "min") (λxs H Q=>∃i j,xs=[.int i,.int j]/\Q (.int (if j<i then j else i)) H):=by
 intro a7q s U H xs us Q I r h
 obtain⟨i,j,rfl,q⟩:=h
 obtain⟨u,w',rfl,⟨t,rfl⟩,⟨t',rfl⟩⟩:=a2s r
 refine min_two_ints (I.ok.hd hc) λh' tk k=>⟨_,H,I.kept k,?_,q⟩
 by_cases hj:j<i
 ·rw[if_pos hj,if_pos hj];exact⟨_,rfl⟩
 ·rw[if_neg hj,if_neg hj];exact⟨_,rfl⟩
end
structure a1w(h:Heap)(x dx C:Addr)(mA:Str->Option Value):Prop where
 obj:h.get? x=some (a9f C dx)
 ns:h.Ns1 dx mA
 ne:dx≠x
theorem a1x{h:Heap}{dx:Addr}{mA:Str->Option Value}(n:h.Ns1 dx mA):∃od,h.get? dx=some od/\∀name,PySem.W.lookIn name od=some (mA name):=by
 obtain⟨o,es,ep,ho,hd,hk,_,hm⟩:=n
 refine⟨o,ho,λname=> ?_⟩
 have e:=hm name
 unfold nsFind findBy at e
 rw[←Array.find?_toList]at e
 unfold PySem.W.lookIn
 rw[hd]
 dsimp only
 split
 ·rename_i y q
  rw[q]at e
  exact congrArg some e
 ·rename_i q
  rw[q]at e
  have a:es.toList.any (·.refKey)=false:=by
   rw[List.any_eq_false]
   intro y hy
   obtain⟨z,t,hkey⟩:=hk y (Array.mem_toList_iff.mp hy)
   simp[DictEntry.refKey,hkey]
  have a':¬es.toList.any (·.refKey)=true:=by rw[a];exact a7Z
  rw[if_neg a']
  exact congrArg some e
theorem a1w.look{h:Heap}{x dx C:Addr}{mA:Str->Option Value}(I:a1w h x dx C mA):∃od,PySem.W.InstAt h x (a9f C dx) C (some od)/\∀name,PySem.W.lookIn name od=some (mA name):=
 let⟨od,ho,hl⟩:=a1x I.ns
 ⟨od,⟨I.obj,rfl,rfl,ho⟩,hl⟩
section
variable{prog:Program}{w:World}{A:Around}{E:Value->Shared->Prop}{s:Shared}{K:Frag}{x dx C f:Addr}{mA:Str->Option Value}{name:Str}{v:Value}
theorem a3S{expr:Bool}{Q:Value->Shared->Prop}(X:K.In s.heap)(I:a1w s.heap x dx C mA)(hg:a94 K C name=true)(hh:a9V K C=true)
 (ha:a8h K (.ref C) name=some none) (hv:mA name=some v) (hv':PySem.W.handedIn v=true) (h:Q v {s with toks:=s.toks+1}):
 wpAny (model prog w) A (getAttr (.ref x) name expr) Q E s:=by
 obtain⟨od,J,hl⟩:=I.look
 exact PySem.W.get_value X J (PySem.W.plainGet_of hg).1 (PySem.W.findObj_own hh ha rfl (by rw[hl,hv])) hv' h
theorem a3T{ns:List Str}{Q:Unit->Shared->Prop}(X:K.In s.heap)(I:a1w s.heap x dx C mA)
 (hs:a8h K (.ref C) "__setattr__"=some (some (.builtin "object.__setattr__"))) (hp:PySem.W.plainOver K C=true) (ht:PySem.W.takerIn K C name=some none) (hh:a9V K C=true)
 (hw:PySem.Within mA ns) (hsz:ns.length<=sizeLine)
 (h:∀h',a1w h' x dx C (λy=>if y=name then some v else mA y)->a9B dx s.heap h'->Q () {s with heap:=h',toks:=s.toks+2}):
 wpAny (model prog w) A (setAttr (.ref x) name v) Q E s:=by
 obtain⟨od,J,hl⟩:=I.look
 refine PySem.W.set_plain X J hs (PySem.W.osa_open (s:={s with toks:=s.toks+1}) (r:=none) X J hp ht λb=> ?_)
 obtain⟨cd,hc,hd'⟩:=PySem.W.any_some hh
 have hx:s.heap.get? x=some ⟨.ref C,some dx,.plain,#[]⟩:=I.obj
 refine wpAny_bind (wpAny_pure (wpAny_bind (wpAny_bind (wpAny_loadPart hx (wpAny_bind (PySem.W.Looks.here (s:={s with toks:=s.toks+1}) (PySem.W.looks_clsIn X hc) ?_))))))
 rw[hd']
 refine wpAny_pure (a:=some dx) (wpAny_bind (wpAny_pure (wpAny_bind ?_)))
 refine wpAny_nsSet1 (s:={s with toks:=s.toks+1}) I.ns λh' hn2 hs2=> ?_
 obtain⟨oD,esD,epD,hoD,hdD,hcD⟩:=hn2.count (PySem.Within.cons name v hw)
 refine wpAny_bind (wpAny_lookBehind hoD (by rw[hdD];exact pastItsLine_dict (a7G hcD (by rw[a7O];lia))) ?_)
 exact wpAny_pure (h _ ⟨(hs2.2 _ (Ne.symm I.ne)).trans I.obj,hn2,I.ne⟩ hs2)
theorem a2t{R:Result->Shared->Prop}{vs:List Value}{kw:List (Str×Value)}(X:K.In s.heap)(hm:PySem.W.makesIn K C=true)
 (hi:a8h K (.ref C) "__init__"=some (some (.ref f))) (hf:PySem.W.typeIn K (.ref f)=some (.type "function"))
 (h:codeAny (model prog w) (A.under (.builtin "type.__call__" ⟨.ref C::vs,kw⟩)) (.call (.ref f) ⟨.ref (s.heap.objs.size+1)::vs,kw⟩) (PySem.W.InitBack (s.heap.objs.size+1) R)
  {s with heap:=(s.heap.push a81).push (a9f C s.heap.objs.size)}):
 codeAny (model prog w) A (.call (.ref C) ⟨vs,kw⟩) R s:=by
 obtain⟨hh,g,d,t,os⟩:=s
 exact PySem.W.make_core (PySem.W.makes_of X hm) (PySem.W.looks_findIn X hi) (λself=>PySem.W.bind_fn X self hf) (.inl rfl) h
end
def B2(f:Str)(v:V):List (Str×V)->List (Str×V)
 |[]=>[(f,v)]
 |(g,x)::r=>if g=f then(g,v)::r else(g,x)::B2 f v r
theorem k9(f g:Str)(v:V):∀fs:List (Str×V),(B2 f v fs).lookup g=if g=f then some v else fs.lookup g
 |[]=>by
  show a9F g [(f,v)]=_
  by_cases h:g=f
  ·have hb:(g==f)=true:=beq_iff_eq.mpr h
   simp only[a9F,hb,if_pos h]
  ·have hb:(g==f)=false:=beq_eq_false_iff_ne.mpr h
   simp only[a9F,hb,if_neg h]
 |(k,x)::r=>by
  have ih:=k9 f g v r
  rw[show B2 f v ((k,x)::r)=(if k=f then(k,v)::r else(k,x)::B2 f v r)from rfl]
  by_cases hk:k=f
  ·rw[if_pos hk]
   by_cases h:g=k
   ·have hb:(g==k)=true:=beq_iff_eq.mpr h
    simp only[a9F,hb,if_pos (h.trans hk)]
   ·have hb:(g==k)=false:=beq_eq_false_iff_ne.mpr h
    simp only[a9F,hb,if_neg (λe:g=f=>h (e.trans hk.symm))]
  ·rw[if_neg hk]
   by_cases h:g=k
   ·have hb:(g==k)=true:=beq_iff_eq.mpr h
    simp only[a9F,hb,if_neg (λe:g=f=>hk (h.symm.trans e))]
   ·have hb:(g==k)=false:=beq_eq_false_iff_ne.mpr h
    simp only[a9F,hb]
    exact ih
theorem am8(f:Str)(v:V):∀fs:List (Str×V),f∈(B2 f v fs).map (·.1)/\∀g,g∈fs.map (·.1)->g∈(B2 f v fs).map (·.1)
 |[]=>⟨by simp[B2],λg h=>by simp at h⟩
 |(k,x)::r=>by
  obtain⟨i1,i2⟩:=am8 f v r
  rw[show B2 f v ((k,x)::r)=(if k=f then(k,v)::r else(k,x)::B2 f v r)from rfl]
  by_cases hk:k=f
  ·rw[if_pos hk]
   subst hk
   exact⟨by simp,λg h=>by simpa using h⟩
  ·rw[if_neg hk]
   refine⟨?_,λg h=> ?_⟩
   ·rw[a7U]
    exact a7B _ i1
   ·rw[a7U]at h⊢
    rcases a7D.mp h with e|e
    ·exact a7D.mpr (.inl e)
    ·exact a7B _ (i2 g e)
theorem ap8(f:Str)(v:V):∀fs:List (Str×V),(B2 f v fs).length<=fs.length+1
 |[]=>by simp[B2]
 |(k,x)::r=>by
  have ih:=ap8 f v r
  rw[show B2 f v ((k,x)::r)=(if k=f then(k,v)::r else(k,x)::B2 f v r)from rfl]
  by_cases hk:k=f
  ·rw[if_pos hk,a7O,a7O];lia
  ·rw[if_neg hk,a7O,a7O];lia
theorem au4.some_of{v:V}{o:Option Value}(r:au4 (some v) o):∃u,o=some u/\B4 v u:=by
 cases o with
 |none=>exact(show False from r).elim
 |some u=>exact⟨u,rfl,r⟩
theorem a1y{v:V}{u:Value}(r:B4 v u):PySem.W.handedIn u=true:=by
 cases v with
 |non=>cases(show u=Value.none from r);rfl
 |bl b=>cases(show u=Value.bool b from r);rfl
 |int i=>obtain⟨t,e⟩:=(show∃t,u=Value.int i t from r);cases e;rfl
 |str x=>obtain⟨t,e⟩:=(show∃t,u=Value.str x t from r);cases e;rfl
 |byt b=>obtain⟨t,e⟩:=(show∃t,u=Value.bytes b t from r);cases e;rfl
 |flt b=>obtain⟨t,e⟩:=(show∃t,u=Value.float b t from r);cases e;rfl
 |ref a=>cases(show u=Value.ref a from r);rfl
 |ty n=>cases(show u=Value.type n from r);rfl
section
variable{P:Program}{w:World}{H H':Hp}{h h':Heap}{a C dx:Addr}{fs fs':List (Str×V)}
theorem a0z(hok:HOk P w H h)(e:H a=some (.ins C dx fs)):∃mA,a1w h a dx C mA/\(∀f,au4 (fs.lookup f) (mA f))/\PySem.Within mA (fs.map (·.1))/\fs.length<=1000/\H dx=some (.own a):=by
 obtain⟨d,z,ne,ob,mA,n,r,q⟩:=(show E7 P w H h a (.ins C dx fs)from hok a _ e)
 exact⟨mA,⟨ob,n,ne⟩,r,q,z,d⟩
end
structure Cls(K:Frag)(C:Addr):Prop where
 pg:a94 K C Str.empty=true
 hd:a9V K C=true
 po:PySem.W.plainOver K C=true
 sa:a8h K (.ref C) "__setattr__"=some (some (.builtin "object.__setattr__"))
theorem Cls.get{K:Frag}{C:Addr}(c:Cls K C)(f:Str):a94 K C f=true:=c.pg
def J4(K:Frag)(C:Addr)(f:Str):Prop:=a8h K (.ref C) f=some none
theorem J4.taker{K:Frag}{C:Addr}{f:Str}(n:J4 K C f):PySem.W.takerIn K C f=some none:=by
 unfold PySem.W.takerIn
 rw[show a8h K (.ref C) f=some none from n]
 rfl
section
variable{X:Cx}{a7q:List (Addr×Obj)}{U:St}{H:Hp}{s:Shared}{a C dx:Addr}{fs:List (Str×V)}{f:Str}{v:V}{A:Around}{E:Value->Shared->Prop}
theorem av3{b:Bool}{Q:Value->Shared->Prop}(I:v9 X a7q U H s)(e:H a=some (.ins C dx fs))(c:Cls X.K C)(n:J4 X.K C f)(l:fs.lookup f=some v)
 (h:∀u s',v9 X a7q U H s'->B4 v u->Q u s'):wpAny (model X.prog X.w) A (getAttr (.ref a) f b) Q E s:=by
 obtain⟨mA,O,r,_,_,_⟩:=a0z I.hok e
 obtain⟨u,hu,ru⟩:=au4.some_of (v:=v) (o:=mA f) (by rw[←l];exact r f)
 exact a3S I.kIn O (c.get f) c.hd n hu (a1y ru) (h u _ (I.tok _) ru)
theorem av4{y:V}{u:Value}{Q:Unit->Shared->Prop}(I:v9 X a7q U H s)(e:H a=some (.ins C dx fs))(c:Cls X.K C)(n:J4 X.K C f)(hl:fs.length<1000)(ry:B4 y u)
 (h:∀s',v9 X a7q U (A6 H a (.ins C dx (B2 f y fs))) s'->Q () s'):wpAny (model X.prog X.w) A (setAttr (.ref a) f u) Q E s:=by
 obtain⟨mA,O,r,wi,_,ho⟩:=a0z I.hok e
 have hz:(fs.map (·.1)).length<=sizeLine:=by rw[a7r,sizeLine_eq];lia
 refine a3T I.kIn O c.sa c.po n.taker c.hd wi hz λh' O' sb=>h _ ?_
 have hd:∃o,h'.get? dx=some o:=let⟨o,_,_,e',_⟩:=O'.ns;⟨o,e'⟩
 refine I.write (x:=a) (e:=dx) (by rw[e];exact True.intro) (.inr ho) (λb q hb z=>(sb.2 b hb).trans z) hd ?_
 refine⟨by rw[j6 O.ne];exact ho,?_,O.ne,O'.obj,_,O'.ns,λg=> ?_,λg hg=> ?_⟩
 ·have:=ap8 f y fs;lia
 ·show au4 ((B2 f y fs).lookup g) (if g=f then some u else mA g)
  rw[k9]
  by_cases q:g=f
  ·rw[if_pos q,if_pos q];exact ry
  ·rw[if_neg q,if_neg q];exact r g
 ·by_cases q:g=f
  ·rw[q];exact(am8 f y fs).1
  ·refine(am8 f y fs).2 g (wi g λz=>hg ?_)
   show(if g=f then some u else mA g)=none
   rw[if_neg q];exact z
theorem v9.made(I:v9 X a7q U H s):v9 X a7q U (A6 (A6 H s.heap.objs.size (.own (s.heap.objs.size+1))) (s.heap.objs.size+1) (.ins C s.heap.objs.size []))
 {s with heap:=(s.heap.push a81).push (a9f C s.heap.objs.size)}:=by
 have e1:(s.heap.push a81).get? s.heap.objs.size=some a81:=a7P s.heap rfl
 have e2:((s.heap.push a81).push (a9f C s.heap.objs.size)).get? (s.heap.objs.size+1)=some (a9f C s.heap.objs.size):=by
  have:=a7P (s.heap.push a81) (o:=a9f C s.heap.objs.size) rfl
  rwa [a8i]at this
 have e3:(s.heap.push a81).Ns s.heap.objs.size (λ_=>none):=⟨a81,#[],_,e1,rfl,(λe he=>absurd he (by simp)),λ_=>rfl⟩
 have I1:=I.laid (a:=s.heap.objs.size) (o:= .own (s.heap.objs.size+1)) (h':=s.heap.push a81) (t':=s.toks) (λb u q=>a7w _ q) (a7A _) ⟨_,e1⟩
 refine I1.laid (a:=s.heap.objs.size+1) (o:= .ins C s.heap.objs.size []) (t':=s.toks) (λb u q=>a7w _ q) (Nat.le_of_eq (a8i _ _)) ?_
 have ne:s.heap.objs.size≠s.heap.objs.size+1:=a7L (a9L _)
 refine⟨by rw[j6 ne,i8],a8n _,ne,e2,λ_=>none,(Heap.Ns1.of_empty e3).at λo q=>a7w _ q,λ_=>True.intro,λy hy=>absurd rfl hy⟩
theorem a3U{prog:Program}{w:World}{env:Env}{e:Expr}{f:Str}{pos:Pos}{s:Shared}{Q:Value->Shared->Prop}(hb:attributeBase e f env (eval e env)=eval e env)
 (h:wpAny (model prog w) A (eval e env) (λo s₁=>wpAny (model prog w) A (getAttr o f true) Q E s₁) E s):wpAny (model prog w) A (eval (.Attribute e f pos) env) Q E s:=
 Attribute_any_ h (by rw[arm_eval_Attribute,hb])
end
def a6k(K:Frag)(ta:TE)(f:Str):TE:=λU H Q=>ta U H λx H1=>∃a C dx fs v,x= .ref a/\H1 a=some (.ins C dx fs)/\Cls K C/\J4 K C f/\fs.lookup f=some v/\Q v H1
def a65(K:Frag)(ta tv:TE)(f:Str):TS:=λD U H=>tv U H λy H1=>ta U H1 λx H2=>∃a C dx fs,x= .ref a/\H2 a=some (.ins C dx fs)/\Cls K C/\J4 K C f/\fs.length<1000/\
 D.nx U (A6 H2 a (.ins C dx (B2 f y fs)))
def a6l(X:Cx)(op:Operator)(rd:V->V->Hp->VK->Prop):Prop:=
 ∀(a7q:List (Addr×Obj)) (s:Shared) (U:St) (H:Hp) (x y:V) (u v:Value) (Q:VK),v9 X a7q U H s->B4 x u->B4 y v->rd x y H Q->wpAny (model X.prog X.w) X.A (inplaceOp op u v) (EP X a7q U Q) X.xe s
def a3V(K:Frag)(ta tv:TE)(rd:V->V->Hp->VK->Prop)(f:Str):TS:=λD U H=>ta U H λx H1=>∃a C dx fs v,x= .ref a/\H1 a=some (.ins C dx fs)/\Cls K C/\J4 K C f/\fs.lookup f=some v/\
 tv U H1 λy H2=>rd v y H2 λz H3=>∃dx' fs',H3 a=some (.ins C dx' fs')/\fs'.length<1000/\D.nx U (A6 H3 a (.ins C dx' (B2 f z fs')))
section
variable{X:Cx}{o e value:Expr}{f:Str}{pos pos' tpos:Pos}{ta tv:TE}
theorem j7(he:PE X e ta)(hb:attributeBase e f X.env (eval e X.env)=eval e X.env):PE X (.Attribute e f pos) (a6k X.K ta f):=by
 intro a7q s U H Q I h
 refine a3U hb (F8 (he a7q s U H _ I h) λu s1 z=> ?_)
 obtain⟨x,H1,I1,rx,a,C,dx,fs,v,rfl,ea,c,n,l,q⟩:=z
 obtain rfl:u=Value.ref a:=rx
 exact av3 I1 ea c n l λu' s2 I2 ru=>⟨v,H1,I2,ru,q⟩
theorem F1(ha:PE X o ta)(hv:PE X value tv)(hs:swapsWith value (some (.Attribute o f pos')) pos.line X.env=pure false):PS X (.Assign [.Attribute o f pos'] value pos) (a65 X.K ta tv f):=by
 intro a7q s U H D I h
 refine plainObj_wpAny_Assign_Attribute (F8 (hv a7q s U H _ I h) λu s1 ⟨y,H1,I1,ry,q⟩=>F8 (ha a7q s1 U H1 _ I1 q) λov s2 z=> ?_) hs
 obtain⟨x,H2,I2,rx,a,C,dx,fs,rfl,ea,c,n,l,q2⟩:=z
 obtain rfl:ov=Value.ref a:=rx
 exact av4 I2 ea c n l ry λs3 I3=>⟨U,_,I3,q2⟩
theorem a1z{op:Operator}{rd:V->V->Hp->VK->Prop}(ha:PE X o ta)(hv:PE X value tv)(hop:a6l X op rd):PS X (.AugAssign (.Attribute o f tpos) op value pos) (a3V X.K ta tv rd f):=by
 intro a7q s U H D I h
 refine wpAny_AugAssign_AttributeAny (F8 (ha a7q s U H _ I h) λov s1 z=> ?_)
 obtain⟨x,H1,I1,rx,a,C,dx,fs,v,rfl,ea,c,n,l,q⟩:=z
 obtain rfl:ov=Value.ref a:=rx
 refine av3 I1 ea c n l λu s2 I2 ru=>F8 (hv a7q s2 U H1 _ I2 q) λw3 s3 ⟨y,H2,I3,ry,q3⟩=>F8 (hop a7q s3 U H2 v y u w3 _ I3 ru ry q3) λw4 s4 z=> ?_
 obtain⟨z,H3,I4,rz,dx',fs',ea',l',q4⟩:=z
 exact av4 I4 ea' c n l' rz λs5 I5=>⟨U,_,I5,q4⟩
def a66:V->V->Hp->VK->Prop:=λx y H Q=>∃i j,x= .int i/\y= .int j/\Q (.int (i+j)) H
theorem a5j:a6l X .Add a66:=by
 rintro a7q s U H x y u v Q I rx ry ⟨i,j,rfl,rfl,q⟩
 obtain⟨t,rfl⟩:=(show∃t,u=Value.int i t from rx)
 obtain⟨t',rfl⟩:=(show∃t',v=Value.int j t' from ry)
 exact PyProof.Rows.iadd_int ⟨.int (i+j),H,I.tok _,⟨_,rfl⟩,q⟩
end
structure N6(k:Nat)(A:Around):Prop where
 hd:A.handled=none
 dp:A.depth+3*k+5<recursionLimit
 un:A.units+16*k+200<cLine
theorem N6.mono{j k:Nat}{A:Around}(r:N6 k A)(h:j<=k):N6 j A:=⟨r.hd,by have:=r.dp;lia,by have:=r.un;lia⟩
theorem N6.deeper{k:Nat}{A:Around}(r:N6 (k+1) A)(env:Env):N6 k (A.deeper env):=
 ⟨r.hd,by have:=r.dp;show A.depth+1+3*k+5<_;lia,by have:=r.un;show A.units+3+16*k+200<_;lia⟩
theorem aV9{A:Around}{C:Addr}{us:List Value}{kw:List (Str×Value)}:(A.under (.builtin "type.__call__" ⟨.ref C::us,kw⟩)).depth=A.depth+1:=by
 first|rfl|simp[Around.under,Code.weight,Code.isCreation,Code.isGuard,Code.isCaller,Code.frames,Code.isFrame,guardIds]
theorem aW0{A:Around}{C:Addr}{us:List Value}{kw:List (Str×Value)}:(A.under (.builtin "type.__call__" ⟨.ref C::us,kw⟩)).units=A.units+1:=by
 first|rfl|simp[Around.under,Code.cUnits,Code.frames,Code.isFrame]
theorem N6.make{k:Nat}{A:Around}(r:N6 (k+1) A)(C:Addr)(us:List Value)(kw:List (Str×Value)):N6 k (A.under (.builtin "type.__call__" ⟨.ref C::us,kw⟩)):=
 ⟨r.hd,by have:=r.dp;rw[aV9];lia,by have:=r.un;rw[aW0];lia⟩
theorem N6.depth{k:Nat}{A:Around}(r:N6 k A):A.depth<recursionLimit:=by have:=r.dp;lia
theorem N6.units{k:Nat}{A:Around}(r:N6 k A):A.units+64<cLine:=by have:=r.un;lia
def a5k:TA:=λ_ H Q=>Q [] H
def a6m(ta:TE)(tr:TA):TA:=λU H Q=>ta U H λx H1=>tr U H1 λxs H2=>Q (x::xs) H2
section
variable{X:Cx}{e:Expr}{es:List Expr}{te:TE}{t:TA}{pos:Pos}
theorem f7:PA X [] a5k:=λ_ _ _ _ H Q I h=>Calls.spliced_nil ⟨[],H,I,.nil,h⟩
theorem e8(ha:PE X e te)(hr:PA X es t)(hs:starEach (e::es) X.env=(false,eval e X.env)::starEach es X.env:=by rfl):PA X (e::es) (a6m te t):=by
 intro pos a7q s U H Q I h
 rw[hs]
 show wpAny _ _ (spliced ((false,eval e X.env)::backTo pos (starEach es X.env))) _ _ s
 refine Calls.spliced_cons (F8 (ha a7q s U H _ I h) λu s1 ⟨x,H1,I1,r1,q1⟩=> ?_)
 exact F8 (hr pos a7q s1 U H1 _ I1 q1) λus s2 ⟨xs,H2,I2,r2,q2⟩=>⟨x::xs,H2,I2,.cons r1 r2,q2⟩
end
abbrev Sp:=List V->Hp->VK->XK->Prop
abbrev CXT:=List Env->Hp->Shared->XK->Value->Shared->Prop
structure aW1(P:Program)(w:World)(K:Frag)(mg:Str->Option Value)(base:Heap)(A:Around)(outer:List Env)(s:Shared)(H:Hp):Prop where
 frames:A.frames=some outer
 mod:Mod K mg base
 bs:∀b o,base.get? b=some o->s.heap.get? b=some o/\H b=none
 bsz:base.objs.size<=s.heap.objs.size
 funs:s.heap.FunFrames base outer
 frf:∀b∈frs outer,H b=none
 hok:HOk P w H s.heap
 bare:AllBare s.gens
def CE(outer:List Env)(P:Program)(w:World)(H:Hp)(s:Shared)(Q:VK)(u:Value)(s':Shared):Prop:=
 ∃v H',s'.os=s.os/\AllBare s'.gens/\Un (frs outer) [] H H' s.heap s'.heap/\HOk P w H' s'.heap/\B4 v u/\Q v H'
def CR(CX:CXT)(outer:List Env)(P:Program)(w:World)(H:Hp)(s:Shared)(Q:VK)(E:XK)(r:Result)(s':Shared):Prop:=
 match r with
 | .ok (.ret u)=>CE outer P w H s Q u s'
 | .ok _=>False
 | .error e=>CX outer H s E e s'
structure A7(P:Program)(w:World)(K:Frag)(mg:Str->Option Value)(base:Heap)(CX:CXT)(k:Nat)(f:Addr)(fd:FuncData)(ps:List Str)(sp:Sp):Prop where
 len:∀vs H Q E,sp vs H Q E->vs.length=ps.length
 run:∀(A:Around) (outer:List Env) (s:Shared) (H:Hp) (args:Args) (us:List Value) (vs:List V) (Q:VK) (E:XK),N6 k A->aW1 P w K mg base A outer s H->BindsTo s fd args (ps.zip us)->y8 vs us->sp vs H Q E->
  codeAny (model P w) A (.call (.ref f) args) (CR CX outer P w H s Q E) s
theorem A7.mono{P:Program}{w:World}{K:Frag}{mg:Str->Option Value}{base:Heap}{CX:CXT}{j k:Nat}{f:Addr}{fd:FuncData}{ps:List Str}{sp:Sp}(F:A7 P w K mg base CX j f fd ps sp)(h:j<=k):
 A7 P w K mg base CX k f fd ps sp:=⟨F.len,λA outer s H args us vs Q E hr=>F.run A outer s H args us vs Q E (hr.mono h)⟩
theorem A7.imp{P:Program}{w:World}{K:Frag}{mg:Str->Option Value}{base:Heap}{CX:CXT}{k:Nat}{f:Addr}{fd:FuncData}{ps:List Str}{sp sp':Sp}(F:A7 P w K mg base CX k f fd ps sp)
 (h:∀vs H Q E,sp' vs H Q E->sp vs H Q E):A7 P w K mg base CX k f fd ps sp':=
 ⟨λvs H Q E q=>F.len vs H Q E (h _ _ _ _ q),λA outer s H args us vs Q E hr he hb hv hs=>F.run A outer s H args us vs Q E hr he hb hv (h _ _ _ _ hs)⟩
theorem aW1.make{P:Program}{w:World}{K:Frag}{mg:Str->Option Value}{base:Heap}{A:Around}{outer:List Env}{s:Shared}{H:Hp}(e:aW1 P w K mg base A outer s H)(C:Addr)(us:List Value)(kw:List (Str×Value)):
 aW1 P w K mg base (A.under (.builtin "type.__call__" ⟨.ref C::us,kw⟩)) outer s H:=⟨by first|exact e.frames|(simpa [Around.under,Code.envs,Code.isFrame,pushEnvs]using e.frames),e.mod,e.bs,e.bsz,e.funs,e.frf,e.hok,e.bare⟩
section
variable{X:Cx}{a7q:List (Addr×Obj)}{U:St}{H:Hp}{s s':Shared}
theorem v9.env0(I:v9 X a7q U H s):aW1 X.prog X.w X.K X.mg X.base X.A X.stack s H:=
 ⟨I.ok.frames,I.ok.mod,I.bs,a7G I.ok.bsz I.sz,I.stack,I.stkFree,I.hok,I.bare⟩
theorem v9.after{Q:VK}{u:Value}(I:v9 X a7q U H s)(h:CE X.stack X.prog X.w H s Q u s'):EP X a7q U Q u s':=by
 obtain⟨v,H',os,bare,un,hok,r,q⟩:=h
 obtain⟨hh,g,d,t,os'⟩:=s'
 obtain rfl:os'=s.os:=os
 exact⟨v,H',I.call (h':=hh) (g':=g) (d':=d) (t':=t) (ch:=[]) un hok bare (λb z=>absurd z (by simp)),r,q⟩
end
def a4M(sp:Sp)(dvs:List V)(E:XK)(t:TA):TE:=λU H Q=>t U H λvs H1=>sp (vs++dvs) H1 Q E
def a0A(C:Addr)(sp:Sp)(dvs:List V)(E:XK)(t:TA):TE:=λU H Q=>t U H λvs H1=>∀x dx,H1 x=none->H1 dx=none->dx≠x->
 sp (.ref x::(vs++dvs)) (A6 (A6 H1 dx (.own x)) x (.ins C dx [])) (λv H2=>v= .non/\Q (.ref x) H2) E
def U0(K:Frag)(fd:FuncData)(ps:List Str)(ds:List Value):Prop:=
 ∀(s:Shared) (us:List Value),K.In s.heap->(us++ds).length=ps.length->BindsTo s fd ⟨us,[]⟩ (ps.zip (us++ds))
theorem U0.all{K:Frag}{fd:FuncData}{ps:List Str}(h:∀us:List Value,us.length=ps.length->bindArgs fd ⟨us,[]⟩=pure (ps.zip us)):U0 K fd ps []:=λs us _ hl=>by
 rw[a72]at hl⊢
 exact .of_eq (h us hl)
def am9(CX:CXT)(X:Cx)(E:XK):Prop:=∀(a7q:List (Addr×Obj)) (U:St) (H:Hp) (s:Shared) (e:Value) (s':Shared),v9 X a7q U H s->CX X.stack H s E e s'->X.xe e s'
section
variable{X:Cx}{CX:CXT}{k:Nat}{f C:Addr}{fd:FuncData}{ps:List Str}{sp:Sp}{dvs:List V}{ds:List Value}{E:XK}{x m:Str}{p pos apos:Pos}{e o:Expr}{es:List Expr}{ta:TE}{t:TA}
theorem a2u{a7q:List (Addr×Obj)}{U:St}{H:Hp}{s:Shared}{Q:VK}{us:List Value}{vs:List V}(F:A7 X.prog X.w X.K X.mg X.base CX k f fd ps sp)(hr:N6 k X.A)(hb:U0 X.K fd ps ds)(hd:y8 dvs ds)(hx:am9 CX X E)
 (I:v9 X a7q U H s) (r:y8 vs us) (h:sp (vs++dvs) H Q E):wpAny (model X.prog X.w) X.A (call (.ref f) us) (EP X a7q U Q) X.xe s:=by
 have r2:y8 (vs++dvs) (us++ds):=r.append hd
 have hl:(us++ds).length=ps.length:=by rw[←r2.length];exact F.len _ _ _ _ h
 refine wpAny_call (codeAny_mono (F.run X.A X.stack s H ⟨us,[]⟩ (us++ds) (vs++dvs) Q E hr I.env0 (hb s us I.kIn hl) r2 h) λr s' hq=> ?_)
 cases r with
 |error e=>exact hx a7q U H s e s' I hq
 |ok fl=>
  cases fl with
  |ret u=>exact I.after hq
  |next=>exact False.elim hq
  |brk=>exact False.elim hq
  |cont=>exact False.elim hq
theorem a3W(F:A7 X.prog X.w X.K X.mg X.base CX k f fd ps sp)(hr:N6 k X.A)(hg:Gl X x)(hm:X.mg x=some (.ref f))(hk:a80 X.K (.ref f)=true)(hb:U0 X.K fd ps ds)(hd:y8 dvs ds)(hx:am9 CX X E)
 (ha:PA X (e::es) t) (hdb:(x==("__debug__":Str))=false:=by decide) (he:starEach (e::es) X.env=(false,eval e X.env)::starEach es X.env:=by rfl) (hpl:(backTo pos (starEach es X.env)).any (·.1)=false:=by rfl):
 PE X (.Call (.Name x p) (e::es) [] pos) (a4M sp dvs E t):=by
 intro a7q s U H Q I h
 refine wpAny_Call_Name_kw (at8 I hg hm ?_ hdb)
 refine a99 (h₀:=X.base) I.ok.mod.kin hk (F8 (ha pos a7q s U H _ I h) λus s1 ⟨vs,H1,I1,r,q⟩=>⟨I1.kIn,?_⟩) he hpl
 exact a2u F hr hb hd hx I1 r q
structure Mk(K:Frag)(C f:Addr):Prop where
 makes:PySem.W.makesIn K C=true
 init:a8h K (.ref C) "__init__"=some (some (.ref f))
 fn:PySem.W.isFn K (.ref f)=true
 kp:a80 K (.ref C)=true
theorem aO5{a7q:List (Addr×Obj)}{U:St}{H:Hp}{s:Shared}{Q:VK}{us:List Value}{vs:List V}(M:Mk X.K C f)(F:A7 X.prog X.w X.K X.mg X.base CX k f fd ps sp)(hr:N6 (k+1) X.A)(hb:U0 X.K fd ps ds)(hd:y8 dvs ds)
 (hx:am9 CX X E) (I:v9 X a7q U H s) (r:y8 vs us)
 (h:∀x dx,H x=none->H dx=none->dx≠x->sp (.ref x::(vs++dvs)) (A6 (A6 H dx (.own x)) x (.ins C dx [])) (λv H2=>v= .non/\Q (.ref x) H2) E):
 wpAny (model X.prog X.w) X.A (call (.ref C) us) (EP X a7q U Q) X.xe s:=by
 have hq:=h (s.heap.objs.size+1) s.heap.objs.size (I.hok.fresh (Nat.le_succ _)) (I.hok.fresh (a7A _)) (a7L (a9L _))
 have I2:=v9.made (C:=C) I
 have r2:y8 (V.ref (s.heap.objs.size+1)::(vs++dvs)) (Value.ref (s.heap.objs.size+1)::(us++ds)):= .cons rfl (r.append hd)
 have hl:(Value.ref (s.heap.objs.size+1)::us++ds).length=ps.length:=by
  have e:=r2.length
  rw[F.len _ _ _ _ hq]at e
  exact e.symm
 refine wpAny_call (a2t (f:=f) I.kIn M.makes M.init (beq_iff_eq.mp M.fn) (codeAny_mono (F.run _ X.stack _ _ ⟨Value.ref (s.heap.objs.size+1)::us,[]⟩ (Value.ref (s.heap.objs.size+1)::(us++ds)) _ _ E (hr.make C us [])
  (I2.env0.make C us []) (hb _ (Value.ref (s.heap.objs.size+1)::us) I2.kIn hl) r2 hq) λr s' hq'=> ?_))
 cases r with
 |error e=>exact hx a7q U _ _ e s' I2 hq'
 |ok fl=>
  cases fl with
  |ret u=>
   obtain⟨v,H',I3,rv,ev,q3⟩:=I2.after hq'
   subst ev
   exact⟨rv,⟨V.ref (s.heap.objs.size+1),H',I3,rfl,q3⟩⟩
  |next=>exact False.elim hq'
  |brk=>exact False.elim hq'
  |cont=>exact False.elim hq'
theorem a3X(M:Mk X.K C f)(F:A7 X.prog X.w X.K X.mg X.base CX k f fd ps sp)(hr:N6 (k+1) X.A)(hg:Gl X x)(hm:X.mg x=some (.ref C))(hb:U0 X.K fd ps ds)(hd:y8 dvs ds)(hx:am9 CX X E)
 (ha:PA X (e::es) t) (hdb:(x==("__debug__":Str))=false:=by decide) (he:starEach (e::es) X.env=(false,eval e X.env)::starEach es X.env:=by rfl) (hpl:(backTo pos (starEach es X.env)).any (·.1)=false:=by rfl):
 PE X (.Call (.Name x p) (e::es) [] pos) (a0A C sp dvs E t):=by
 intro a7q s U H Q I h
 refine wpAny_Call_Name_kw (at8 I hg hm ?_ hdb)
 refine a99 (h₀:=X.base) I.ok.mod.kin M.kp (F8 (ha pos a7q s U H _ I h) λus s1 ⟨vs,H1,I1,r,q⟩=>⟨I1.kIn,?_⟩) he hpl
 exact aO5 M F hr hb hd hx I1 r q
theorem a2v(M:Mk X.K C f)(F:A7 X.prog X.w X.K X.mg X.base CX k f fd ps sp)(hr:N6 (k+1) X.A)(hg:Gl X x)(hm:X.mg x=some (.ref C))(hb:U0 X.K fd ps ds)(hd:y8 dvs ds)(hx:am9 CX X E)
 (hdb:(x==("__debug__":Str))=false:=by decide):PE X (.Call (.Name x p) [] [] pos) (a0A C sp dvs E a5k):=by
 intro a7q s U H Q I h
 refine wpAny_Call_Name_kw (at8 I hg hm ?_ hdb)
 exact PySem.W.callWith_K0 I.kIn M.kp (aO5 (us:=[]) M F hr hb hd hx I .nil h)
end
structure n8(N P:List Str)(sc:Scope):Prop where
 kind:sc.kind= .function
 co:sc.isCoroutine=false
 gen:sc.isGenerator=false
 nd:N.Nodup
 pre:N.take P.length=P
 par:∀x∈P,sc.names.lookup x=some .local\/sc.names.lookup x=some .cell
 nofree:∀y∈sc.names,y.2≠.free
theorem aE0{kindOf:Str->Option NameKind}{x:Str}:∀{binds:List (Str×Value)} {m:Str->Option Value},(∀v,(x,v)∉binds)->bindL kindOf binds m x=m x
 |[],_,_=>rfl
 |(n,v)::r,m,h=>by
  unfold bindL
  rw[aE0 λw hw=>h w (a7B _ hw)]
  split
  ·have:x≠n:=by rintro rfl;exact h v a7C
   simp[this]
  ·rfl
theorem aE1{kindOf:Str->Option NameKind}{x:Str}:∀{binds:List (Str×Value)} {m:Str->Option Value},(∀v,(x,v)∉binds)->bindC kindOf binds m x=m x
 |[],_,_=>rfl
 |(n,v)::r,m,h=>by
  unfold bindC
  rw[aE1 λw hw=>h w (a7B _ hw)]
  split
  ·rfl
  ·have:x≠n:=by rintro rfl;exact h v a7C
   simp[this]
theorem aE2{kindOf:Str->Option NameKind}{x:Str}{v:Value}:∀{P:List Str} {vs:List Value} {i:Nat} {m:Str->Option Value},P.Nodup->P[i]? =some x->vs[i]? =some v->kindOf x=some .local->
 bindL kindOf (P.zip vs) m x=some v
 |[],_,_,_,_,h,_,_=>by simp at h
 |_::_,[],_,_,_,_,h,_=>by simp at h
 |p::P,w::vs,0,m,nd,h1,h2,hk=>by
  simp at h1 h2;subst h1;subst h2
  show bindL kindOf ((p,w)::P.zip vs) m p=_
  unfold bindL
  rw[aE0 λv hv=>(a8J.mp nd).1 (of_mem_zip hv).1,if_pos hk]
  simp
 |p::P,w::vs,i+1,m,nd,h1,h2,hk=>by
  show bindL kindOf ((p,w)::P.zip vs) m x=_
  unfold bindL
  exact aE2 (i:=i) (a8J.mp nd).2 (by simpa using h1) (by simpa using h2) hk
theorem aE3{kindOf:Str->Option NameKind}{x:Str}{v:Value}:∀{P:List Str} {vs:List Value} {i:Nat} {m:Str->Option Value},P.Nodup->P[i]? =some x->vs[i]? =some v->kindOf x≠some .local->
 bindC kindOf (P.zip vs) m x=some v
 |[],_,_,_,_,h,_,_=>by simp at h
 |_::_,[],_,_,_,_,h,_=>by simp at h
 |p::P,w::vs,0,m,nd,h1,h2,hk=>by
  simp at h1 h2;subst h1;subst h2
  show bindC kindOf ((p,w)::P.zip vs) m p=_
  unfold bindC
  rw[aE1 λv hv=>(a8J.mp nd).1 (of_mem_zip hv).1,if_neg hk]
  simp
 |p::P,w::vs,i+1,m,nd,h1,h2,hk=>by
  show bindC kindOf ((p,w)::P.zip vs) m x=_
  unfold bindC
  exact aE3 (i:=i) (a8J.mp nd).2 (by simpa using h1) (by simpa using h2) hk
def start(N:List Str)(vs:List V):St:=vs.map some++a9c (N.length-vs.length) none
def a1A(CX:CXT)(P:Program)(w:World)(K:Frag)(mg:Str->Option Value)(base:Heap)(N:List Str)(qual:Str)(scope:Scope)(f:Addr)(cd:Value)(A:Around)(outer:List Env)(s:Shared)(H:Hp)(E:XK):Cx where
 prog:=P
 w:=w
 K:=K
 mg:=mg
 base:=base
 A:=A.deeper (envOfC qual scope s.heap.objs.size f cd)
 N:=N
 s_0:=s
 H_0:=H
 env:=envOfC qual scope s.heap.objs.size f cd
 outer:=outer
 stack:=envOfC qual scope s.heap.objs.size f cd::outer
 ex:=[]
 calm:=true
 fn:=λ_=>true
 pn:=[]
 xe:=λe s'=>wpAny (model P w) (A.deeper (envOfC qual scope s.heap.objs.size f cd)) (leaving (envOfC qual scope s.heap.objs.size f cd) e) (λ_ s''=>CX outer H s E e s'') (λe' s''=>CX outer H s E e' s'') s'
theorem aO6{sc:Scope}{n:Nat}{x:Str}(h:sc.names.lookup x=some .cell):∃c,(cellsFrom n sc.names []).lookup x=some c:=by
 have q:=PySem.W.cellsFrom_some sc.names n [] (.inl h)
 exact Option.isSome_iff_exists.mp q
theorem a1B{CX:CXT}{P:Program}{w:World}{K:Frag}{mg:Str->Option Value}{base:Heap}{N ps:List Str}{qual:Str}{scope:Scope}{f:Addr}{cd:Value}{A:Around}{outer:List Env}{s s1:Shared}{H:Hp}{E:XK}{us:List Value}{vs:List V}
 (S:n8 N ps scope) (hd:A.handled=none) (e0:aW1 P w K mg base A outer s H) (hl:vs.length=ps.length) (r:y8 vs us)
 (x:InCallC s s.heap.objs.size (bindL (envOfC qual scope s.heap.objs.size f cd).kindOf (ps.zip us) λ_=>none) (cellsFrom (s.heap.objs.size+1) scope.names []) (bindC (envOfC qual scope s.heap.objs.size f cd).kindOf (ps.zip us) λ_=>none) s1):
 v9 (a1A CX P w K mg base N qual scope f cd A outer s H E) [] (start N vs) H s1:=by
 have hpl:ps.length<=N.length:=by have:=congrArg a9G S.pre;rw[a8L]at this;lia
 obtain⟨h1,tk,rfl,hk⟩:=x.done
 have noA:∀b:Addr,b∉(a1A CX P w K mg base N qual scope f cd A outer s H E).ex:=λb z=>absurd (show b∈([]:List Addr)from z) (by simp)
 refine⟨⟨e0.mod,S.kind,rfl,rfl,a7A _,λy z c h1 h2=> ?_,λy hy=> ?_,λy c _ h=> ?_,λ_=>hd,Around.frames_deeper e0.frames,.inr ⟨rfl,rfl⟩,λb z=>absurd z (noA b),e0.bs,e0.bsz,λb _ _=>noA b,λb z=>absurd z (noA b),e0.funs,e0.frf⟩,
  rfl,e0.bare,Un.kept hk,⟨_,x.toInCall.ns,λi y v h1 h2 h3=> ?_⟩,λy c h=>⟨_,x.cell y c h⟩,e0.hok.fresh (a7A _),λy c h=> ?_,λp hp=>absurd (show p∈([]:List (Addr×Obj))from hp) (by simp),e0.hok.kept hk,?_⟩
 ·exact name_of_addr x.apart (PySem.mem_of_lookup h1) (PySem.mem_of_lookup h2)
 ·have hy:scope.names.lookup y=some .cell\/scope.names.lookup y=some .free:=hy
  rcases hy with hy|hy
  ·exact aO6 hy
  ·exact absurd rfl (S.nofree _ (PySem.mem_of_lookup hy))
 ·exact Nat.le_of_lt (x.above y c (PySem.mem_of_lookup h))
 ·have hi:i<vs.length:=by
   unfold start at h2
   by_cases hi:i<vs.length
   ·exact hi
   ·rw[List.getElem?_append_right (by simpa using hi)]at h2
    rw[List.getElem?_replicate]at h2
    split at h2<;>cases h2
  have ha:vs[i]? =some v:=by
   unfold start at h2
   rw[a9P (by simpa using hi),a7t]at h2
   cases e:vs[i]? with
   |none=>rw[e]at h2;cases h2
   |some a=>rw[e]at h2;cases h2;rfl
  obtain⟨u,hu,rv⟩:=r.get ha
  have hp:ps[i]? =some y:=by
   rw[←S.pre,List.getElem?_take_of_lt (by lia)];exact h1
  have ndP:ps.Nodup:=by rw[←S.pre];exact S.nd.sublist (List.take_sublist _ _)
  refine⟨u,rv,?_⟩
  rcases S.par y (a7F hp)with k|k
  ·exact .inl ⟨k,aE2 ndP hp hu k⟩
  ·obtain⟨c,e⟩:=aO6 (n:=s.heap.objs.size+1) k
   refine .inr ⟨.inl k,c,e,?_⟩
   have q:=x.cell y c e
   rw[aE3 ndP hp hu (by show scope.names.lookup y≠_;rw[k];decide)]at q
   exact q
 ·exact e0.hok.fresh (Nat.le_of_lt (x.above y c (PySem.mem_of_lookup h)))
 ·unfold start
  show _=N.length
  rw[a7M,a7r,a9I]
  lia
theorem a6n{CX:CXT}{P:Program}{w:World}{K:Frag}{mg:Str->Option Value}{base:Heap}{k:Nat}{f:Addr}{name qual:Str}{params:Arguments}{body:List Stmt}{scope:Scope}{dV kV doc pm cdv ct oc:Value}{an od:Option Addr}
 {osl:Array (Option Value)} {N ps:List Str} {sp:Sp} (lk:K.lookup f=some ⟨oc,od,.func (a9C name qual params body scope dV kV doc pm an cdv ct),osl⟩) (hcd:a9U K cdv qual=true) (S:n8 N ps scope)
 (len:∀vs H Q E,sp vs H Q E->vs.length=ps.length)
 (hbody:∀(A:Around) (outer:List Env) (s:Shared) (H:Hp) (vs:List V) (Q:VK) (E:XK),N6 k (A.deeper (envOfC qual scope s.heap.objs.size f cdv))->sp vs H Q E->
  ∃t,PSs (a1A CX P w K mg base N qual scope f cdv A outer s H E) body t/\t {nx:=λ_ H'=>Q .non H',rt:=Q} (start N vs) H):
 A7 P w K mg base CX (k+1) f (a9C name qual params body scope dV kV doc pm an cdv ct) ps sp:=by
 refine⟨len,λA outer s H args us vs Q E hr e0 hb r hsp=> ?_⟩
 have hl:=len _ _ _ _ hsp
 have KX:K.In s.heap:=e0.mod.kin.keeps λb o e=>(e0.bs b o e).1
 have lim:s.heap.NoLimit:=e0.mod.nolimit.keeps λb o e=>(e0.bs b o e).1
 have hkind:∀y∈ps.zip us,scope.names.lookup y.1=some .local\/(scope.names.lookup y.1=some .cell/\((cellsFrom (s.heap.objs.size+1) scope.names []).lookup y.1).isSome=true):=λ⟨n,v⟩ hy=>by
  rcases S.par n (of_mem_zip hy).1 with q|q
  ·exact .inl q
  ·exact .inr ⟨q,PySem.W.cellsFrom_some _ _ _ (.inl q)⟩
 refine codeAny_call_function hr.depth (KX _ _ lk) rfl S.co S.gen rfl (PySem.W.codeRec_of KX hcd) (hb _ _ _ _ ?_)
 refine wpAny_newFunctionEnv_cells S.kind hkind λenv he s1 x=> ?_
 subst he
 refine⟨lim.keeps x.toInCall.keep,codeAny_func ?_⟩
 obtain⟨t,ht,hq⟩:=hbody A outer s H vs Q E (hr.deeper _) hsp
 have I:v9 (a1A CX P w K mg base N qual scope f cdv A outer s H E) [] (start N vs) H s1:=a1B S hr.hd e0 hl r x
 refine wpAny_mono (ht [] s1 (start N vs) H _ I hq) (λfl s' hs=> ?_) λe s' hs=>hs
 have O3:∀{σ':St} {H':Hp} {v:V} {u:Value},v9 (a1A CX P w K mg base N qual scope f cdv A outer s H E) [] σ' H' s'->B4 v u->Q v H'->CE outer P w H s Q u s':=
  λ{σ' H' v u} J rv q=>⟨v,H',J.os,J.bare,J.base,J.hok,rv,q⟩
 cases fl with
 |ret u=>
  obtain⟨v,σ',H',J,rv,q⟩:=hs
  exact O3 J rv q
 |next=>
  obtain⟨σ',H',J,q⟩:=hs
  exact O3 (v:=V.non) (u:=Value.none) J rfl q
 |brk=>
  obtain⟨_,_,_,q⟩:=hs
  exact False.elim q
 |cont=>
  obtain⟨_,_,_,q⟩:=hs
  exact False.elim q
section
variable{X:Cx}{x:Str}{p pos:Pos}{e:Expr}{es:List Expr}{t:TA}{id T:String}{r:List V->Hp->VK->Prop}
def tCB(r:List V->Hp->VK->Prop)(t:TA):TE:=λU H Q=>t U H λvs H1=>r vs H1 Q
theorem v6(hc:N4 X (.builtin id) r)(hg:Gl X x)(hm:X.mg x=none)(hv:bootBuiltins x=some (.builtin id))(ha:PA X (e::es) t)(hn:x≠"__name__":=by decide)(hdb:(x==("__debug__":Str))=false:=by decide)
 (he:starEach (e::es) X.env=(false,eval e X.env)::starEach es X.env:=by rfl) (hpl:(backTo pos (starEach es X.env)).any (·.1)=false:=by rfl):PE X (.Call (.Name x p) (e::es) [] pos) (tCB r t):=by
 intro a7q s U H Q I h
 refine wpAny_Call_Name_kw (X9 I hg hm hv ?_ hn hdb)
 exact PyProof.Rows.callWith_builtin1 (F8 (ha pos a7q s U H _ I h) λus s1 ⟨vs,H1,I1,r1,q1⟩=>hc a7q s1 U H1 vs us Q I1 r1 q1) he hpl
theorem L6(hc:N4 X (.type T) r)(hg:Gl X x)(hm:X.mg x=none)(hv:bootBuiltins x=some (.type T))(ha:PA X (e::es) t)(hn:x≠"__name__":=by decide)(hdb:(x==("__debug__":Str))=false:=by decide)
 (he:starEach (e::es) X.env=(false,eval e X.env)::starEach es X.env:=by rfl) (hpl:(backTo pos (starEach es X.env)).any (·.1)=false:=by rfl):PE X (.Call (.Name x p) (e::es) [] pos) (tCB r t):=by
 intro a7q s U H Q I h
 refine wpAny_Call_Name_kw (X9 I hg hm hv ?_ hn hdb)
 exact PyProof.Rows.callWith_type1 (F8 (ha pos a7q s U H _ I h) λus s1 ⟨vs,H1,I1,r1,q1⟩=>hc a7q s1 U H1 vs us Q I1 r1 q1) he hpl
end
end L2
namespace HT
open PySem PyProof.Rows
section
variable{prog:Program}{w:World}{A:Around}{E:Value->Shared->Prop}{s:Shared}
def sIx(n d:Nat):Option Int->Nat
 |none=>d
 |some v=>if v<0 then(v+(n:Int)).toNat else min v.toNat n
theorem sIx_none(n d:Nat):sIx n d none=d:=rfl
theorem sIx_nat(n d k:Nat):sIx n d (some (k:Int))=min k n:=by
 show(if(k:Int)<0 then((k:Int)+(n:Int)).toNat else min (k:Int).toNat n)=min k n
 rw[if_neg (by lia),a9W]
end
end HT
namespace L2
open PySem PySem.Spec PyProof.Rows
abbrev TO:=St->Hp->(Option Int->Hp->Prop)->Prop
def PO(X:Cx)(e:Option Expr)(t:TO):Prop:=
 ∀(a7q:List (Addr×Obj)) (s:Shared) (U:St) (H:Hp) (Q:Option Int->Hp->Prop),v9 X a7q U H s->t U H Q->
  wpAny (model X.prog X.w) X.A (evalPart e X.env) (λu s'=>∃o H',v9 X a7q U H' s'/\IsPart u o/\Q o H') X.xe s
def a3Y:TO:=λ_ H Q=>Q none H
def a6o(t:TE):TO:=λU H Q=>t U H λx H1=>∃i,x= .int i/\Q (some i) H1
theorem av5{ns:List Int}:∀{us:List Value},y8 (ns.map V.int) us->IntsAre us ns:=by
 induction ns with
 |nil=>intro us r;rw[map_nil]at r;cases r;exact .nil
 |cons n ns ih=>
  intro us r
  rw[a7U]at r
  cases r with
  |cons r1 r2=>
   obtain⟨t,e⟩:=r1
   subst e
   exact .cons n t (ih r2)
section
variable{X:Cx}{e:Expr}{te:TE}{lo hi:Option Expr}{tl th:TO}{pos p2:Pos}
theorem a3Z:PO X none a3Y:=by
 intro a7q s U H Q I h
 rw[evalPart_none]
 exact wpAny_pure ⟨none,H,I,.none,h⟩
theorem aI6(h:PE X e te):PO X (some e) (a6o te):=by
 intro a7q s U H Q I hw
 rw[evalPart_some]
 refine F8 (h a7q s U H _ I hw) λu s1 ⟨x,H1,I1,r1,q1⟩=> ?_
 obtain⟨i,rfl,q⟩:=q1
 obtain⟨t,rfl⟩:=r1
 exact⟨some i,H1,I1,.int i t,q⟩
def SlR(X:Cx)(r:V->Option Int->Option Int->Hp->VK->Prop):Prop:=
 ∀(a7q:List (Addr×Obj)) (s:Shared) (U:St) (H:Hp) (x:V) (v vl vu:Value) (lo hi:Option Int) (sl:Addr) (Q:VK),v9 X a7q U H s->B4 x v->s.heap.IsSliceOf sl vl vu .none->IsPart vl lo->IsPart vu hi->r x lo hi H Q->
  ∃T id,typeLookup (.type T) "__getitem__"=pure (some (.builtin id))/\s.TypeIs v T/\wpAny (model X.prog X.w) X.A (getItem v (.ref sl)) (EP X a7q U Q) X.xe s
def tSl(r:V->Option Int->Option Int->Hp->VK->Prop)(te:TE)(tl th:TO):TE:=λU H Q=>te U H λx H1=>tl U H1 λl H2=>th U H2 λu H3=>r x l u H3 Q
theorem aO7{r:V->Option Int->Option Int->Hp->VK->Prop}(hr:SlR X r)(he:PE X e te)(hl:PO X lo tl)(hu:PO X hi th):PE X (.Subscript e (.Slice lo hi none p2) pos) (tSl r te tl th):=by
 intro a7q s U H Q I h
 refine Subscript_ (F8 (he a7q s U H _ I h) λv s1 ⟨x,H1,I1,r1,q1⟩=> ?_)
 refine wpAny_Slice (F8 (hl a7q s1 U H1 _ I1 q1) λvl s2 ⟨l,H2,I2,pl,q2⟩=>F8 (hu a7q s2 U H2 _ I2 q2) λvu s3 ⟨u,H3,I3,pu,q3⟩=> ?_)
 rw[evalPart_none]
 refine wpAny_pure ?_
 have I4:v9 X a7q U H3 {s3 with heap:=s3.heap.push {cls:= .type "slice",data:= .fields #[vl,vu,.none]}}:=I3.kept (t':=s3.toks) λb ob q=>a7w _ q
 obtain⟨T,id,hT,ht,hg⟩:=hr a7q {s3 with heap:=s3.heap.push {cls:= .type "slice",data:= .fields #[vl,vu,.none]}} U H3 x v vl vu l u s3.heap.objs.size Q I4 r1 (Heap.IsSliceOf.new ..) pl pu q3
 show wpAny (model X.prog X.w) X.A (subscriptTail e (.Slice lo hi none p2) v (.ref s3.heap.objs.size)) (EP X a7q U Q) X.xe {s3 with heap:=s3.heap.push {cls:= .type "slice",data:= .fields #[vl,vu,.none]}}
 exact tail_any (ops:=[.ref s3.heap.objs.size,v]) ht hT hg (by with_unfolding_all rfl)
def aC1(xs:List V)(lo hi:Option Int):List V:=(xs.drop (HT.sIx xs.length 0 lo)).take (HT.sIx xs.length xs.length hi-HT.sIx xs.length 0 lo)
theorem aO8(xs:List V)(lo hi:Option Int):(aC1 xs lo hi).length<=xs.length:=by
 unfold aC1
 rw[a8L,length_drop]
 lia
end
def ixN(n:Nat)(i:Int):Option Nat:=if 0<=i then(if i<n then some i.toNat else none)else if-(n:Int)<=i then some (i+n).toNat else none
def atI{α:Type}(xs:List α)(i:Int):Option α:=(ixN xs.length i).bind λj=>xs[j]?
theorem a0B{n:Nat}{i:Int}{j:Nat}(h:ixN n i=some j):seqIndex? i n=some j/\j<n/\ -(n:Int)<=i/\i<n:=by
 unfold ixN at h
 by_cases h0:0<=i
 ·rw[if_pos h0]at h
  by_cases h1:i<n
  ·rw[if_pos h1]at h
   have e:i.toNat=j:=a7v h
   exact⟨by rw[seqIndex_of h0 h1,e],by lia,by lia,h1⟩
  ·rw[if_neg h1]at h;cases h
 ·rw[if_neg h0]at h
  by_cases h1: -(n:Int)<=i
  ·rw[if_pos h1]at h
   have e:(i+n).toNat=j:=a7v h
   exact⟨by rw[seqIndex_neg (by lia) h1,e],by lia,h1,by lia⟩
  ·rw[if_neg h1]at h;cases h
theorem a0C{α:Type}{xs:List α}{i:Int}{v:α}(h:atI xs i=some v):∃j,seqIndex? i xs.length=some j/\xs[j]? =some v/\j<xs.length/\ -(xs.length:Int)<=i/\i<xs.length:=by
 unfold atI at h
 cases e:ixN xs.length i with
 |none=>rw[e]at h;cases h
 |some j=>
  rw[e]at h
  obtain⟨h1,h2,h3,h4⟩:=a0B e
  exact⟨j,h1,h,h2,h3,h4⟩
theorem z7{α:Type}{xs:List α}{j:Nat}{v:α}(h:xs[j]? =some v):atI xs (j:Int)=some v:=by
 have hj:j<xs.length:=(a7x.mp h).1
 have e:ixN xs.length (j:Int)=some j:=by
  unfold ixN
  rw[if_pos (by lia),if_pos (by lia)];simp
 unfold atI;rw[e];exact h
def aI7(b:Expr):Prop:=∀o i,subscripted b false o i=operate [o,i] (getItem o i)
def IxR(X:Cx)(r:R2):Prop:=
 ∀(value slice:Expr) (a7q:List (Addr×Obj)) (s:Shared) (U:St) (H:Hp) (x y:V) (v u:Value) (Q:VK),v9 X a7q U H s->B4 x v->B4 y u->r x y H Q->
  subscripted slice false v u=operate [v,u] (getItem v u)->wpAny (model X.prog X.w) X.A (subscriptTail value slice v u) (EP X a7q U Q) X.xe s
def MtR(X:Cx)(id:String)(r:V->List V->Hp->VK->Prop):Prop:=
 ∀(a7q:List (Addr×Obj)) (s:Shared) (U:St) (H:Hp) (x:V) (xs:List V) (v:Value) (us:List Value) (Q:VK),v9 X a7q U H s->B4 x v->y8 xs us->r x xs H Q->
  wpAny (model X.prog X.w) X.A (call (.builtin id) (v::us)) (EP X a7q U Q) X.xe s
section
variable{X:Cx}{a b:Expr}{ta tb:TE}{pos:Pos}
theorem i9{r:R2}(hr:IxR X r)(ha:PE X a ta)(hb:PE X b tb)(hs:aI7 b):PE X (.Subscript a b pos) (tOp r ta tb):=by
 intro a7q s U H Q I h
 exact Subscript_ (a5f ha hb I h λv u s2 x y H2 I2 rx ry q=>hr a b a7q s2 U H2 x y v u Q I2 rx ry q (hs _ _))
def a6p(K:Frag):R2:=λx y H Q=>∃p xs i v,x= .ref p/\y= .int i/\n9 K H p xs/\atI xs i=some v/\Q v H
def a6q(K:Frag):R2:=λx y H Q=>∃p xs i v,x= .ref p/\y= .int i/\v7 K H p xs/\atI xs i=some v/\Q v H
theorem l6:IxR X (a6p X.K):=by
 intro value slice a7q s U H x y v u Q I rx ry h hs
 obtain⟨p,xs,i,z,rfl,rfl,hq,he,q⟩:=h
 cases rx
 obtain⟨t,rfl⟩:=ry
 obtain⟨its,r,pl,hz⟩:=I.list hq
 obtain⟨j,h1,h2,h3,h4,h5⟩:=a0C he
 obtain⟨w,ew,rw'⟩:=r.get h2
 have hl:=r.length
 have hn:=am7
 have O3:EP X a7q U Q w s:=⟨z,H,I,rw',q⟩
 by_cases h0:0<=i
 ·have hj:i.toNat=j:=by
   rw[seqIndex_of h0 h5]at h1
   exact a7v h1
  exact item_listR pl.isList h0 (by lia) (by rw[hj];simpa using ew) O3 hs
 ·have hj:(i+(its.toArray.size:Int)).toNat=j:=by
   rw[seqIndex_neg (by lia) h4]at h1
   rw[a7K,←hl]
   exact a7v h1
  exact subscriptTail_builtinR (x:=w) pl.isList.typeIs slot_list_getitem.lookup
   (wpAny_getItem_list_neg (Q:=λr s'=>r=w/\EP X a7q U Q r s') pl.isList (by lia) (by rw[a7K]<;>lia) (by lia) (by rw[hj];simpa using ew) ⟨rfl,O3⟩) hs
theorem j5:IxR X (a6q X.K):=by
 intro value slice a7q s U H x y v u Q I rx ry h hs
 obtain⟨p,xs,i,z,rfl,rfl,hq,he,q⟩:=h
 cases rx
 obtain⟨t,rfl⟩:=ry
 obtain⟨its,r,pl,hz⟩:=I.tuple hq
 obtain⟨j,h1,h2,h3,h4,h5⟩:=a0C he
 obtain⟨w,ew,rw'⟩:=r.get h2
 have hl:=r.length
 have hn:=am7
 have O3:EP X a7q U Q w s:=⟨z,H,I,rw',q⟩
 exact subscriptTail_builtinR (x:=w) pl.typeIs slot_tuple_getitem.lookup
  (getItem_tuple (j:=j) (Q:=λr s'=>r=w/\EP X a7q U Q r s') pl (by lia) (by lia) (by rw[a7K,←hl];exact h1) (by simpa using ew) ⟨rfl,O3⟩) hs
theorem aW2(its:List Value)(n j:Nat)(u:Value):Obj.mapSeq (·.setIfInBounds j u) {cls:= .type "list",data:= .seq its.toArray n}={cls:= .type "list",data:= .seq (its.set j u).toArray n}:=by
 simp[Obj.mapSeq]
theorem v9.lst{a7q:List (Addr×Obj)}{U:St}{H:Hp}{s:Shared}{p:Addr}{xs:List V}(I:v9 X a7q U H s)(h:H p=some (.lst xs)):
 ∃(its:List Value) (n:Nat),y8 xs its/\s.heap.get? p=some {cls:= .type "list",data:= .seq its.toArray n}/\xs.length<=sizeLine:=by
 obtain⟨z,its,n,r,e⟩:=I.hok p _ h
 exact⟨its,n,r,e,z⟩
theorem v9.lstUpd{a7q:List (Addr×Obj)}{U:St}{H:Hp}{s:Shared}{p:Addr}{xs ys:List V}{its its':List Value}{n n':Nat}{f:Obj->Obj}(I:v9 X a7q U H s)(h:H p=some (.lst xs))
 (ho:s.heap.get? p=some {cls:= .type "list",data:= .seq its.toArray n}) (hf:f {cls:= .type "list",data:= .seq its.toArray n}={cls:= .type "list",data:= .seq its'.toArray n'}) (r:y8 ys its') (hz:ys.length<=sizeLine) (t:Nat):
 v9 X a7q U (A6 H p (.lst ys)) {s with heap:=s.heap.update p f,toks:=t}:=by
 have e:(s.heap.update p f).get? p=some {cls:= .type "list",data:= .seq its'.toArray n'}:=by
  rw[a9d f ho (by rw[hf]<;>rfl),hf]
 refine I.write (x:=p) (e:=p) (by rw[h];trivial) (.inl rfl) (λb u hb q=>(a9a _ _ (Ne.symm hb)).trans q) ⟨_,e⟩ ?_
 exact⟨hz,its',n',r,e⟩
def a6r:V->V->V->Hp->(Hp->Prop)->Prop:=λo i v H Q=>∃p xs k j,o= .ref p/\i= .int k/\H p=some (.lst xs)/\ixN xs.length k=some j/\Q (A6 H p (.lst (xs.set j v)))
theorem a2w:a5a X a6r:=by
 intro a7q s U H o i v ov iv u Q I ro ri rv h
 obtain⟨p,xs,k,j,rfl,rfl,hp,hj,q⟩:=h
 cases ro
 obtain⟨t,rfl⟩:=ri
 obtain⟨its,n,r,ho,hz⟩:=I.lst hp
 obtain⟨h1,h2,h3,h4⟩:=a0B hj
 have hl:=r.length
 have hn:=am7
 have I':v9 X a7q U (A6 H p (.lst (xs.set j v))) {s with heap:=s.heap.update p (Obj.mapSeq (·.setIfInBounds j u))}:=
  I.lstUpd hp ho (aW2 its n j u) (r.set rv j) (by rw[a9g];exact hz) s.toks
 by_cases h0:0<=k
 ·have hk:k.toNat=j:=by
   rw[seqIndex_of h0 h4]at h1
   exact a7v h1
  exact PySem.W.ki_setAt ho h0 (by lia) (by rw[a7K,←hl];exact h4) (by rw[hk];exact⟨_,I',q⟩)
 ·have hk:(k+(its.toArray.size:Int)).toNat=j:=by
   rw[seqIndex_neg (by lia) h3]at h1
   rw[a7K,←hl]
   exact a7v h1
  exact PySem.W.ki_setBack ho (by lia) (by rw[a7K,←hl];exact h3) (by lia) (by rw[hk];exact⟨_,I',q⟩)
theorem aI8(lo hi:Option Int)(n:Nat):(sliceBounds lo hi none n).1=((HT.sIx n 0 lo:Nat):Int)/\(sliceBounds lo hi none n).2.1=((HT.sIx n n hi:Nat):Int)/\(sliceBounds lo hi none n).2.2=1:=by
 refine⟨?_,?_,rfl⟩
 ·cases lo with
  |none=>simp[sliceBounds,HT.sIx]
  |some i=>
   simp only[sliceBounds,HT.sIx,Option.getD_none,show(1:Int)>0 by decide,if_true]
   by_cases h:i<0
   ·simp only[h,if_true]<;>lia
   ·simp only[h,if_false]<;>lia
 ·cases hi with
  |none=>simp[sliceBounds,HT.sIx]
  |some i=>
   simp only[sliceBounds,HT.sIx,Option.getD_none,show(1:Int)>0 by decide,if_true]
   by_cases h:i<0
   ·simp only[h,if_true]<;>lia
   ·simp only[h,if_false]<;>lia
theorem aC2(its:List Value)(lo hi:Option Int):slicePick its.toArray lo hi none=((its.drop (HT.sIx its.length 0 lo)).take (HT.sIx its.length its.length hi-HT.sIx its.length 0 lo)).toArray:=by
 obtain⟨h1,h2,h3⟩:=aI8 lo hi its.toArray.size
 unfold slicePick
 rw[h1,h2,h3]
 simp only[sliceRange_one,pick_run,a7K]<;>rfl
def a67(K:Frag):V->Option Int->Option Int->Hp->VK->Prop:=λx lo hi H Q=>∃a xs,x= .ref a/\n9 K H a xs/\∀p,H p=none->Q (.ref p) (A6 H p (.lst (aC1 xs lo hi)))
theorem a30:SlR X (a67 X.K):=by
 intro a7q s U H x v vl vu lo hi sl Q I rx hs pl pu h
 obtain⟨a,xs,rfl,hx,q⟩:=h
 cases rx
 obtain⟨its,r,ht,hz⟩:=I.list hx
 have hlen:=r.length
 refine⟨"list",_,slot_list_getitem.lookup,ht.isList.typeIs,?_⟩
 refine wpAny_getItem_list_slice ht.isList hs pl pu .none (by simp) ?_ (by rw[a7K]<;>lia)
 rw[aC2,←hlen]
 refine⟨.ref s.heap.objs.size,_,I.laid (t':=s.toks) (o:= .lst (aC1 xs lo hi)) (λb ob q=>a7w _ q) (a7A _) ?_,rfl,q _ (I.hok.fresh (a7A _))⟩
 exact⟨a7G (aO8 xs lo hi) hz,_,0,(r.drop (HT.sIx xs.length 0 lo)).take (HT.sIx xs.length xs.length hi-HT.sIx xs.length 0 lo),a7P _ rfl⟩
def ap9:V->Bool
 | .non=>true
 | .bl _=>true
 | .int _=>true
 | .str _=>true
 |_=>false
def eqV:V->V->Bool
 | .non,.non=>true
 | .bl a,.bl b=>a==b
 | .bl a,.int b=>(if a then 1 else 0)==b
 | .int a,.bl b=>a==(if b then 1 else 0)
 | .int a,.int b=>a==b
 | .str a,.str b=>a==b
 |_,_=>false
theorem a5l{A:Around}{s:Shared}{y x:V}{u v:Value}(ry:B4 y u)(rx:B4 x v)(fy:ap9 y=true)(fx:ap9 x=true):SeqAt.EqAt A s u v (eqV y x):=by
 cases y with
 |non=>
  cases ry
  cases x with
  |non=>cases rx;exact SeqAt.EqAt.same _
  |bl b=>cases rx;exact SeqAt.EqAt.none_bool b
  |int b=>obtain⟨t,rfl⟩:=rx;exact SeqAt.EqAt.none_int b t
  |str b=>obtain⟨t,rfl⟩:=rx;exact SeqAt.EqAt.none_str b t
  |_=>exact absurd (show false=true from fx) a7Z
 |bl a=>
  cases ry
  cases x with
  |non=>cases rx;exact SeqAt.EqAt.bool_none a
  |bl b=>cases rx;exact SeqAt.EqAt.bool_bool a b
  |int b=>obtain⟨t,rfl⟩:=rx;exact SeqAt.EqAt.bool_int a b t
  |str b=>obtain⟨t,rfl⟩:=rx;exact SeqAt.EqAt.bool_str a b t
  |_=>exact absurd (show false=true from fx) a7Z
 |int a=>
  obtain⟨t',rfl⟩:=ry
  cases x with
  |non=>cases rx;exact SeqAt.EqAt.int_none a t'
  |bl b=>cases rx;exact SeqAt.EqAt.int_bool a t' b
  |int b=>obtain⟨t,rfl⟩:=rx;exact SeqAt.EqAt.int_int a t' b t
  |str b=>obtain⟨t,rfl⟩:=rx;exact SeqAt.EqAt.int_str a t' b t
  |_=>exact absurd (show false=true from fx) a7Z
 |str a=>
  obtain⟨t',rfl⟩:=ry
  cases x with
  |non=>cases rx;exact SeqAt.EqAt.str_none a t'
  |bl b=>cases rx;exact SeqAt.EqAt.str_bool a t' b
  |int b=>obtain⟨t,rfl⟩:=rx;exact SeqAt.EqAt.str_int a t' b t
  |str b=>obtain⟨t,rfl⟩:=rx;exact SeqAt.EqAt.str_str a t' b t
  |_=>exact absurd (show false=true from fx) a7Z
 |_=>exact absurd (show false=true from fy) a7Z
def eqU(x:V)(u:Value):Bool:=match u with
 | .none=>eqV .non x
 | .bool b=>eqV (.bl b) x
 | .int i _=>eqV (.int i) x
 | .str z _=>eqV (.str z) x
 |_=>false
theorem a2x{x y:V}{u:Value}(r:B4 y u)(f:ap9 y=true):eqU x u=eqV y x:=by
 cases y with
 |non=>cases r;rfl
 |bl b=>cases r;rfl
 |int i=>obtain⟨t,rfl⟩:=r;rfl
 |str z=>obtain⟨t,rfl⟩:=r;rfl
 |_=>exact absurd (show false=true from f) a7Z
theorem aj1{x:V}:∀{xs:List V} {us:List Value},y8 xs us->xs.all ap9=true->us.any (eqU x)=xs.any λy=>eqV y x
 |_,_,.nil,_=>rfl
 |y::xs,u::us,.cons r t,f=>by
  rw[all_cons,a7z]at f
  rw[a8T,a8T,a2x r f.1,aj1 t f.2]
theorem ab1{A:Around}{s:Shared}{x:V}{v:Value}(rx:B4 x v)(fx:ap9 x=true):∀{xs:List V} {us:List Value},y8 xs us->xs.all ap9=true->∀u∈us,SeqAt.EqAt A s u v (eqU x u)
 |_,_,.nil,_=>λu hu=>by cases hu
 |y::xs,u::us,.cons r t,f=>λu' hu=>by
  rw[all_cons,a7z]at f
  rcases a7D.mp hu with rfl|hu
  ·rw[a2x r f.1];exact a5l r rx f.1 fx
  ·exact ab1 rx fx t f.2 u' hu
def inV(x:V)(xs:List V):Bool:=xs.any λy=>eqV y x
def rIn(K:Frag)(neg:Bool):R2:=λx y H Q=>∃p xs,y= .ref p/\(n9 K H p xs\/v7 K H p xs)/\ap9 x=true/\xs.all ap9=true/\Q (.bl (if neg then !inV x xs else inV x xs)) H
theorem a1C:OpR X (compareOp .In) (rIn X.K false):=by
 intro a7q s U H x y v u Q I rx ry h
 obtain⟨p,xs,rfl,hq,fx,fs,q⟩:=h
 cases ry
 rcases hq with hq|hq
 ·obtain⟨its,r,pl,hz⟩:=I.list hq
  refine SeqAt.in_listAt (eqU x) pl.isList (λw hw=>ab1 rx fx r fs w (by simpa using hw)) ⟨.bl _,H,I,rfl,?_⟩
  rw[show its.toArray.any (eqU x)=its.any (eqU x) by simp,aj1 r fs]
  exact q
 ·obtain⟨its,r,pl,hz⟩:=I.tuple hq
  refine SeqAt.in_tupleAt (eqU x) pl (λw hw=>ab1 rx fx r fs w (by simpa using hw)) ⟨.bl _,H,I,rfl,?_⟩
  rw[show its.toArray.any (eqU x)=its.any (eqU x) by simp,aj1 r fs]
  exact q
theorem aI9:OpR X (compareOp .NotIn) (rIn X.K true):=by
 intro a7q s U H x y v u Q I rx ry h
 obtain⟨p,xs,rfl,hq,fx,fs,q⟩:=h
 cases ry
 rcases hq with hq|hq
 ·obtain⟨its,r,pl,hz⟩:=I.list hq
  refine SeqAt.notIn_listAt (eqU x) pl.isList (λw hw=>ab1 rx fx r fs w (by simpa using hw)) ⟨.bl _,H,I,rfl,?_⟩
  rw[show its.toArray.any (eqU x)=its.any (eqU x) by simp,aj1 r fs]
  exact q
 ·obtain⟨its,r,pl,hz⟩:=I.tuple hq
  refine SeqAt.notIn_tupleAt (eqU x) pl (λw hw=>ab1 rx fx r fs w (by simpa using hw)) ⟨.bl _,H,I,rfl,?_⟩
  rw[show its.toArray.any (eqU x)=its.any (eqU x) by simp,aj1 r fs]
  exact q
theorem A4:N4 X (.builtin "len") (λxs H Q=>∃p ys,xs=[.ref p]/\(n9 X.K H p ys\/v7 X.K H p ys)/\Q (.int ys.length) H):=by
 intro a7q s U H xs us Q I r h
 obtain⟨p,ys,rfl,hq,q⟩:=h
 obtain⟨u,rfl,rx⟩:=aO4 r
 cases rx
 have hn:=am7
 rcases hq with hq|hq
 ·obtain⟨its,r',pl,hz⟩:=I.list hq
  have hlen:=r'.length
  exact Calls.call_len_list pl.isList (by simp only[a7K]<;>lia) ⟨.int ys.length,H,I.tok _,⟨s.toks+1,by rw[a7K,hlen]⟩,q⟩
 ·obtain⟨its,r',pl,hz⟩:=I.tuple hq
  have hlen:=r'.length
  exact len_tuple pl (by simp only[a7K]<;>lia) ⟨.int ys.length,H,I.tok _,⟨s.toks+1,by rw[a7K,hlen]⟩,q⟩
theorem aj2:N4 X (.type "list") (λxs H Q=>∃p ys,xs=[.ref p]/\(n9 X.K H p ys\/v7 X.K H p ys)/\∀l,H l=none->Q (.ref l) (A6 H l (.lst ys))):=by
 intro a7q s U H xs us Q I r h
 obtain⟨p,ys,rfl,hq,q⟩:=h
 obtain⟨u,rfl,rx⟩:=aO4 r
 cases rx
 have O3:∀(its:List Value),y8 ys its->ys.length<=sizeLine->∀(h':Heap) (c':Nat),(∀b o',s.heap.get? b=some o'->h'.get? b=some o')->
  h'.get? s.heap.objs.size=some {cls:= .type "list",dict:=none,data:= .seq its.toArray c',slots:= #[]}->EP X a7q U Q (.ref s.heap.objs.size) {s with heap:=h'}:=λits r' hz h' c' kp e=>
  ⟨.ref s.heap.objs.size,_,I.laid (t':=s.toks) kp (a7A _) (show E7 X.prog X.w _ h' _ (.lst ys)from⟨hz,its,c',r',e⟩),rfl,q _ (I.hok.fresh (a7A _))⟩
 rcases hq with hq|hq
 ·obtain⟨its,r',pl,hz⟩:=I.list hq
  have hlen:=r'.length
  obtain⟨o,ho,hc,n,hd⟩:=pl.isList
  exact call_list_seq p (.inl rfl) ho hc hd (λh' c' kp e=>O3 its r' hz h' c' kp e) (by simp only[a7K]<;>lia)
 ·obtain⟨its,r',pl,hz⟩:=I.tuple hq
  have hlen:=r'.length
  obtain⟨o,ho,hc,n,hd⟩:=pl
  exact call_list_seq p (.inr rfl) ho hc hd (λh' c' kp e=>O3 its r' hz h' c' kp e) (by simp only[a7K]<;>lia)
theorem aC3:N4 X (.type "tuple") (λxs H Q=>∃p ys,xs=[.ref p]/\((n9 X.K H p ys/\∀l,H l=none->Q (.ref l) (A6 H l (.tup ys)))\/(v7 X.K H p ys/\Q (.ref p) H))):=by
 intro a7q s U H xs us Q I r h
 obtain⟨p,ys,rfl,h⟩:=h
 obtain⟨u,rfl,rx⟩:=aO4 r
 cases rx
 rcases h with⟨hq,q⟩|⟨hq,q⟩
 ·obtain⟨its,r',pl,hz⟩:=I.list hq
  have hlen:=r'.length
  refine call_tuple_list pl.isList (λh' kp=> ?_) (by simp only[a7K]<;>lia)
  have I1:v9 X a7q U H {s with heap:=h'}:=I.kept (t':=s.toks) kp
  have I2:v9 X a7q U (A6 H h'.objs.size (.tup ys)) {s with heap:=h'.push {cls:= .type "tuple",data:= .seq its.toArray}}:=
   I1.laid (t':=s.toks) (λb o e=>a7w _ e) (a7A _) (show E7 X.prog X.w _ _ _ (.tup ys)from⟨hz,its,r',IsTup.new _ _⟩)
  exact⟨.ref h'.objs.size,_,I2,rfl,q _ (I1.hok.fresh (a7A _))⟩
 ·obtain⟨its,r',pl,hz⟩:=I.tuple hq
  exact call_tuple_same pl ⟨.ref p,H,I,rfl,q⟩
def tyV(K:Frag)(T:String)(x:V)(H:Hp):Prop:=match x with
 | .str _=>T="str"
 | .int _=>T="int"
 | .ref p=>(T="list"/\∃xs,n9 K H p xs)\/(T="tuple"/\∃o,K.lookup p=some o/\o.cls= .type "tuple"/\o.dict=none)\/
  (T="dict"/\((∃kvs,H p=some (.dK kvs))\/∃kvs,H p=some (.dT kvs)))\/(T="set"/\∃S n,H p=some (.set S n))
 |_=>False
theorem a5m{a7q:List (Addr×Obj)}{U:St}{H:Hp}{s:Shared}{T:String}{x:V}{v:Value}(I:v9 X a7q U H s)(r:B4 x v)(ty:tyV X.K T x H):
 s.TypeIs v T/\∀a,v= .ref a->∃ob,s.heap.get? a=some ob/\ob.dict=none:=by
 cases x with
 |str z=>
  obtain⟨t,rfl⟩:=r
  cases(show T="str" from ty)
  exact⟨typeIs_str s z t,λ_ e=>nomatch e⟩
 |int i=>
  obtain⟨t,rfl⟩:=r
  cases(show T="int" from ty)
  exact⟨typeIs_int s i t,λ_ e=>nomatch e⟩
 |ref p=>
  cases r
  rcases ty with⟨rfl,xs,hq⟩|⟨rfl,o,hk,hc,hd⟩|⟨rfl,hk⟩|⟨rfl,S,n,hk⟩
  ·obtain⟨its,_,pl,_⟩:=I.list hq
   refine⟨pl.isList.typeIs,λa e=> ?_⟩
   cases e
   obtain⟨o,n,e,c,hd,_⟩:=pl
   exact⟨o,e,hd⟩
  ·refine⟨⟨o,I.kIn p o hk,hc⟩,λa e=> ?_⟩
   cases e
   exact⟨o,I.kIn _ o hk,hd⟩
  ·have z:∃o,s.heap.get? p=some o/\o.ExactDict:=by
    rcases hk with⟨kvs,hk⟩|⟨kvs,hk⟩
    ·obtain⟨_,_,_,_,o,_,_,e,ex,_⟩:=I.hok p _ hk
     exact⟨o,e,ex⟩
    ·obtain⟨_,_,_,_,o,_,_,e,ex,_⟩:=I.hok p _ hk
     exact⟨o,e,ex⟩
   obtain⟨o,e,ex⟩:=z
   refine⟨⟨o,e,ex.1⟩,λa e2=> ?_⟩
   cases e2
   exact⟨o,e,ex.2.1⟩
  ·obtain⟨o,_,_,_,e,ex,_⟩:=I.hok p _ hk
   refine⟨⟨o,e,ex.1⟩,λa e2=> ?_⟩
   cases e2
   exact⟨o,e,ex.2.1⟩
 |_=>exact False.elim ty
def tBM(K:Frag)(T:String)(r:V->List V->Hp->VK->Prop)(to:TE)(t:TA):TE:=λU H Q=>to U H λx H1=>tyV K T x H1/\t U H1 λxs H2=>r x xs H2 Q
variable{o e:Expr}{es:List Expr}{to:TE}{t:TA}{name:Str}{apos cpos:Pos}{T id:String}{r:V->List V->Hp->VK->Prop}
theorem M1(pa:PlainAttrs T)(slot:Slot T name id)(hty:typeOf (.builtin id)=pure (.type "method_descriptor"))(hm:MtR X id r)(ho:PE X o to)(ha:PA X (e::es) t)
 (hbase:attributeBase o name X.env (eval o X.env)=eval o X.env:=by rfl)
 (hfew:((backTo cpos (starEach (e::es) X.env)).all (λx=> !x.1)&&(backToKw cpos (keywordEach [] X.env)).all (λx=>x.1.isSome)
  &&decide ((e::es).length+([]:List Keyword).length+(if([]:List Keyword).isEmpty then 0 else 1)<30))=true:=by rfl)
 (hline:(apos.endLine==cpos.line)=true:=by rfl) (hs:starEach (e::es) X.env=(false,eval e X.env)::starEach es X.env:=by rfl) (hplain:(backTo cpos (starEach es X.env)).any (·.1)=false:=by rfl):
 PE X (.Call (.Attribute o name apos) (e::es) [] cpos) (tBM X.K T r to t):=by
 intro a7q s U H Q I h
 refine wpAny_Call_method_late hbase hfew hline rfl (F8 (ho a7q s U H _ I h) λv s1 ⟨x,H1,I1,r1,ty,q1⟩=> ?_)
 obtain⟨h1,h2⟩:=a5m I1 r1 ty
 refine⟨T,id,pa,slot,hty,h1,h2,?_⟩
 have hA:=ha cpos a7q s1 U H1 _ I1 q1
 rw[hs]at hA⊢
 refine Calls.callWith_builtin (by show(false||(backTo cpos (starEach es X.env)).any (·.1))=false;rw[hplain]<;>rfl) (Calls.evalArgs_plain ?_)
 exact F8 hA λus s2 ⟨vs,H2,I2,r2,q2⟩=>hm a7q s2 U H2 x vs v us Q I2 r1 r2 q2
end
def MtM(X:Cx)(id:String)(r:V->List V->Hp->VK->Prop):Prop:=
 ∀(a7q:List (Addr×Obj)) (s:Shared) (U:St) (H:Hp) (x:V) (xs:List V) (v:Value) (us:List Value) (Q:VK),v9 X a7q U H s->B4 x v->y8 xs us->r x xs H Q->
  wpAny (model X.prog X.w) X.A (call (.builtin id) (v::us)) (EP X a7q U Q) X.xe s
theorem y8.one{x:V}{us:List Value}(h:y8 [x] us):∃u,us=[u]/\B4 x u:=by
 cases h with
 |cons r h=>cases h;exact⟨_,rfl,r⟩
theorem y8.two{x y:V}{us:List Value}(h:y8 [x,y] us):∃u v,us=[u,v]/\B4 x u/\B4 y v:=by
 cases h with
 |cons r h=>obtain⟨_,rfl,q⟩:=y8.one h;exact⟨_,_,rfl,r,q⟩
theorem y8.eraseIdx:∀{xs:List V} {us:List Value} (i:Nat),y8 xs us->y8 (xs.eraseIdx i) (us.eraseIdx i)
 |_,_,_,.nil=> .nil
 |_,_,0,.cons _ t=>t
 |_,_,i+1,.cons r t=> .cons r (y8.eraseIdx i t)
theorem aE4{α:Type}:∀(l:List α) (i:Nat),(l.eraseIdx i).length<=l.length
 |[],_=>a7A _
 |_::_,0=>Nat.le_succ _
 |_::r,i+1=>Nat.succ_le_succ (aE4 r i)
section
variable{X:Cx}{a7q:List (Addr×Obj)}{U:St}{H:Hp}{s:Shared}{l b:Addr}{xs ys zs:List V}
theorem v9.lset{its its':List Value}{n:Nat}{f:Array Value->Array Value}{t':Nat}(I:v9 X a7q U H s)(hH:H l=some (.lst xs))
 (e:s.heap.get? l=some {cls:= .type "list",data:= .seq its.toArray n}) (hf:f its.toArray=its'.toArray) (hv:y8 ys its') (hz:ys.length<=sizeLine):
 v9 X a7q U (A6 H l (.lst ys)) {s with heap:=s.heap.update l (Obj.mapSeq f),toks:=t'}:=by
 have q:=PySem.IsL.update e f
 rw[hf]at q
 refine I.write (x:=l) (e:=l) (by rw[hH];exact trivial) (.inl rfl) (λb' u hb hu=>(a9a s.heap (Obj.mapSeq f) (Ne.symm hb)).trans hu) ⟨_,q⟩ ?_
 exact⟨hz,its',_,hv,q⟩
theorem v9.lnew{its:List Value}{t':Nat}(I:v9 X a7q U H s)(hv:y8 ys its)(hz:ys.length<=sizeLine):
 v9 X a7q U (A6 H s.heap.objs.size (.lst ys)) {s with heap:=s.heap.push {cls:= .type "list",data:= .seq its.toArray},toks:=t'}:=
 I.laid (λ_ _ q=>a7w _ q) (a7A _) ⟨hz,its,0,hv,a7P _ rfl⟩
theorem v9.fresh(I:v9 X a7q U H s):H s.heap.objs.size=none:=I.hok.fresh (a7A _)
theorem v9.lstM(I:v9 X a7q U H s)(hH:H l=some (.lst xs)):xs.length<=sizeLine/\∃(its:List Value) (n:Nat),y8 xs its/\xs.length=its.length/\s.heap.get? l=some {cls:= .type "list",data:= .seq its.toArray n}:=by
 obtain⟨z,its,n,r,e⟩:=I.hok l _ hH
 exact⟨z,its,n,r,r.length,e⟩
theorem aO9{n:Nat}(h:n<=sizeLine):Builtin.List.listTooLong n=false:=by
 unfold Builtin.List.listTooLong
 exact decide_eq_false (by lia)
end
section
variable{X:Cx}
def a31:V->List V->Hp->VK->Prop:=λx vs H Q=>∃l xs y,x= .ref l/\vs=[y]/\H l=some (.lst xs)/\xs.length<sizeLine/\Q .non (A6 H l (.lst (xs++[y])))
theorem a1D:MtM X "list.append" a31:=by
 intro a7q s U H x vs v us Q I rx rv h
 obtain⟨l,xs,y,rfl,rfl,hH,hz,q⟩:=h
 cases rx
 obtain⟨u,rfl,ru⟩:=rv.one
 obtain⟨z,its,n,r,hl,e⟩:=I.lstM hH
 refine call_meets F.slot_list_append ⟨_,e,rfl⟩ F.entry_list_append (F.args_list_append_2 _ _) (PySem.list_append l its.toArray n u (by rw[a7K];lia)) ⟨e,?_⟩
 refine⟨.non,_,I.lset (its':=its++[u]) hH e (by simp) (r.append (.cons ru .nil)) ?_,rfl,q⟩
 rw[a7M,a83]
 lia
def a32:V->List V->Hp->VK->Prop:=λx vs H Q=>∃l b xs zs,x= .ref l/\vs=[.ref b]/\H l=some (.lst xs)/\H b=some (.lst zs)/\xs.length+zs.length<=sizeLine/\Q .non (A6 H l (.lst (xs++zs)))
theorem a1E:MtM X "list.extend" a32:=by
 intro a7q s U H x vs v us Q I rx rv h
 obtain⟨l,b,xs,zs,rfl,rfl,hH,hB,hz,q⟩:=h
 cases rx
 obtain⟨u,rfl,ru⟩:=rv.one
 cases ru
 obtain⟨z,its,n,r,hl,e⟩:=I.lstM hH
 obtain⟨z2,its2,n2,r2,hl2,e2⟩:=I.lstM hB
 have hsz:its.toArray.size+its2.toArray.size<=sizeLine:=by rw[a7K,a7K];lia
 have hlong:¬(!its.toArray.isEmpty&&Builtin.List.listTooLong (its.toArray.size+its2.toArray.size))=true:=by
  rw[aO9 hsz,a98]
  exact a7Z
 refine call_meets F.slot_list_extend ⟨_,e,rfl⟩ F.entry_list_extend (F.args_list_extend_2 _ _)
  (AutoSeq1.list_extend_list_list_0 l its.toArray n b its2.toArray n2 hlong (by rw[a7K];lia) (by lia)) ⟨e,e2,?_⟩
 refine⟨.non,_,I.lset (its':=its++its2) hH e (by simp) (r.append r2) ?_,rfl,q⟩
 rw[a7M]
 lia
def a5n:V->List V->Hp->VK->Prop:=λx vs H Q=>∃l xs i k y,x= .ref l/\vs=[.int i]/\H l=some (.lst xs)/\ -(2^63)<=i/\i<2^63/\seqIndex? i xs.length=some k/\xs[k]? =some y/\Q y (A6 H l (.lst (xs.eraseIdx k)))
theorem a2y:MtM X "list.pop" a5n:=by
 intro a7q s U H x vs v us Q I rx rv h
 obtain⟨l,xs,i,k,y,rfl,rfl,hH,h1,h2,hk,hy,q⟩:=h
 cases rx
 obtain⟨u,rfl,ru⟩:=rv.one
 obtain⟨t,rfl⟩:=ru
 obtain⟨z,its,n,r,hl,e⟩:=I.lstM hH
 obtain⟨w,hw,rw'⟩:=r.get hy
 refine call_meets F.slot_list_pop ⟨_,e,rfl⟩ F.entry_list_pop (F.args_list_pop_2 _ _)
  (MeetsSeq.list_pop_at l its.toArray n i t k w (fitsIndex_both h1 h2) (by rw[a7K,←hl];exact hk) (by rw[←a9J];exact hw) (by rw[a7K];lia)) ⟨e,?_⟩
 refine⟨y,_,I.lset (its':=its.eraseIdx k) hH e ?_ (r.eraseIdx k) ?_,rw',q⟩
 ·show its.toArray.eraseIdxIfInBounds k=(its.eraseIdx k).toArray
  rw[List.eraseIdxIfInBounds_toArray]
 ·have:=aE4 xs k
  lia
def a68:R2:=λx y H Q=>∃l b xs zs,x= .ref l/\y= .ref b/\H l=some (.lst xs)/\H b=some (.lst zs)/\xs.length+zs.length<=sizeLine/\∀p,H p=none->Q (.ref p) (A6 H p (.lst (xs++zs)))
theorem a2z:OpR X (binaryOp .Add) a68:=by
 intro a7q s U H x y v u Q I rx ry h
 obtain⟨l,b,xs,zs,rfl,rfl,hH,hB,hz,q⟩:=h
 cases rx
 cases ry
 obtain⟨z,its,n,r,hl,e⟩:=I.lstM hH
 obtain⟨z2,its2,n2,r2,hl2,e2⟩:=I.lstM hB
 refine PySem.P.add_list e e2 ?_ (by rw[a7K,a7K];lia)
 have ea:its.toArray++its2.toArray=(its++its2).toArray:=by simp
 rw[ea]
 exact⟨.ref _,_,I.lnew (t':=s.toks) (r.append r2) (by rw[a7M];lia),rfl,q _ I.fresh⟩
end
section
variable{prog:Program}{w:World}{A:Around}{E:Value->Shared->Prop}{s:Shared}
set_option maxRecDepth 100000 in
end
theorem y8.ints:∀{ns:List Int} {us:List Value},y8 (ns.map V.int) us->IntsAre us ns
 |[],us,h=>by
  rw[map_nil]at h
  cases h
  exact IntsAre.nil
 |n::ns,us,h=>by
  rw[a7U]at h
  cases h with
  |cons r t=>
   obtain⟨k,rfl⟩:=r
   exact IntsAre.cons n k (y8.ints t)
theorem Y2:∀{us:List Value} {ns:List Int},IntsAre us ns->y8 (ns.map V.int) us
 |_,_,.nil=>by rw[map_nil];exact Paired.nil
 |_,_,.cons n t h=>by rw[a7U];exact Paired.cons (show B4 (V.int n) (Value.int n t)from⟨t,rfl⟩) (Y2 h)
theorem y8.bls:∀{bs:List Bool} {us:List Value},y8 (bs.map V.bl) us->us=bs.map Value.bool
 |[],us,h=>by
  rw[map_nil]at h
  cases h
  rfl
 |b::bs,us,h=>by
  rw[a7U]at h
  cases h with
  |cons r t=>
   cases r
   rw[y8.bls t,a7U]
theorem y8.ref1{a:Addr}{us:List Value}(r:y8 [V.ref a] us):us=[Value.ref a]:=by
 cases r with
 |cons r t=>
  cases t
  cases r
  rfl
section
variable{prog:Program}{w:World}{A:Around}{E:Value->Shared->Prop}{s:Shared}{l:Addr}{its:List Value}{ns:List Int}{Q:Value->Shared->Prop}
theorem a33(hh:A.handled=none)(hl:s.heap.IsList l its.toArray)(hi:IntsAre its ns)
 (h:∀h' tk t',(∀b o,s.heap.get? b=some o->h'.get? b=some o)->Q (.int ns.sum t') {s with heap:=h',toks:=tk}):wpAny (model prog w) A (call (.builtin "sum") [.ref l]) Q E s:=by
 obtain⟨xs,e⟩:=hi.allInts.items
 have hn:numsOf (intItems xs).toList=ns:=by rw[←e];exact hi.numsOf
 rw[nums_intItems]at hn
 rw[e]at hl
 refine PySem.sum_intListG hh hl λh' tk t' hk=> ?_
 have:=h h' tk t' hk
 rw[preSum_eq,a9Z (by simp),hn];exact this
end
section
variable{X:Cx}
def a69(K:Frag):List V->Hp->VK->Prop:=λvs H Q=>∃(a:Addr) (ns:List Int),vs=[V.ref a]/\n9 K H a (ns.map V.int)/\Q (.int ns.sum) H
theorem aW3(hc:X.calm=true):N4 X (.builtin "sum") (a69 X.K):=by
 intro a7q s U H vs us Q I r h
 obtain⟨a,ns,rfl,hs,q⟩:=h
 obtain⟨its,rv,hl,_⟩:=I.list hs
 rw[y8.ref1 r]
 exact a33 (I.ok.hd hc) hl.isList rv.ints λh' tk t' hk=>⟨.int _,H,I.kept hk,⟨_,rfl⟩,q⟩
def a34(K:Frag):List V->Hp->VK->Prop:=λvs H Q=>∃(a:Addr) (ns:List Int),vs=[V.ref a]/\n9 K H a (ns.map V.int)/\ns.length<64/\
 ∀(ns':List Int) (p:Addr),ns'.Perm ns->ns'.Pairwise (·<=·)->H p=none->Q (.ref p) (A6 H p (.lst (ns'.map V.int)))
theorem a0D{n:Nat}(h:n<64):n<=sizeLine:=by rw[sizeLine_eq];lia
theorem a1F:N4 X (.builtin "sorted") (a34 X.K):=by
 intro a7q s U H vs us Q I r h
 obtain⟨a,ns,rfl,hs,h64,q⟩:=h
 obtain⟨its,rv,hl,_⟩:=I.list hs
 rw[y8.ref1 r]
 have hi:=rv.ints
 refine PyProof.Rows.sorted_ints hl.isList hi (by rw[hi.length];exact h64) λout ns' h1 h2 h3=> ?_
 obtain⟨ep,he'⟩:=PyProof.Rows.sortedAll_at s.heap its out
 have hlen:(ns'.map V.int).length<=sizeLine:=by rw[a7r,h2.length_eq];exact a0D h64
 exact⟨.ref _,A6 H (s.heap.objs.size+1) (.lst (ns'.map V.int)),I.laid (t':=s.toks) (λ_ _=>PyProof.Rows.sortedAll_old) (Nat.le_succ _) ⟨hlen,out.toList,ep,Y2 h1,he'⟩,rfl,q ns' _ h2 h3 (I.hok.fresh (Nat.le_succ _))⟩
end
theorem aP0{prog:Program}{w:World}{A:Around}{E:Value->Shared->Prop}{s:Shared}{l:Addr}{items:Array Value}{Q:Value->Shared->Prop}(hl:s.heap.IsList l items)
 (h:∀s₂:Shared,s₂={s with heap:=s.heap.push {cls:= .type "list_iterator",data:= .fields #[.ref l,.int 0 0]}}->
  (s₂.heap.IsListIter s.heap.objs.size l 0/\s₂.heap.IsList l items)->l≠s.heap.objs.size->Q (.ref s.heap.objs.size) s₂):wpAny (model prog w) A (pyIter (.ref l)) Q E s:=by
 have hlt:l<s.heap.objs.size:=by obtain⟨_,e,_⟩:=hl;exact a7I e
 exact wpAny_pyIter_list hl (h _ rfl ⟨⟨_,a7P _ rfl,rfl,rfl⟩,hl.push _⟩ (a7L hlt))
theorem aq0{prog:Program}{w:World}{A:Around}{bs:List Bool}{its:List Value}(e:its=bs.map Value.bool):
 TruthOf prog w A (λi v=>its.toArray[i]? =some v) (λi=>bs.getD i false):=λi v s Q E hv hq=>by
 have hv':its[i]? =some v:=by simpa using hv
 rw[e,a7t]at hv'
 obtain⟨b,hb,rfl⟩:=Option.map_eq_some_iff.mp hv'
 have hg:bs.getD i false=b:=by rw[a7y,hb]<;>rfl
 have hq':Q (bs.getD i false) s:=hq
 rw[hg]at hq'
 exact wpAny_truthy_bool hq'
theorem aE5:∀bs:List Bool,(a7J bs.length).any (λi=>bs.getD i false)=bs.any id
 |[]=>rfl
 |b::bs=>by
  rw[a7O,a90,a8T,any_map,a8T,←aE5 bs]
  all_goals rfl
theorem aE6:∀bs:List Bool,(a7J bs.length).all (λi=>bs.getD i false)=bs.all id
 |[]=>rfl
 |b::bs=>by
  rw[a7O,a90,all_cons,List.all_map,all_cons,←aE6 bs]
  all_goals rfl
section
variable{X:Cx}
def a7a(K:Frag):List V->Hp->VK->Prop:=λvs H Q=>∃(a:Addr) (bs:List Bool),vs=[V.ref a]/\n9 K H a (bs.map V.bl)/\Q (.bl (bs.any id)) H
def a7b(K:Frag):List V->Hp->VK->Prop:=λvs H Q=>∃(a:Addr) (bs:List Bool),vs=[V.ref a]/\n9 K H a (bs.map V.bl)/\Q (.bl (bs.all id)) H
theorem aW4(hc:X.calm=true):N4 X (.builtin "any") (a7a X.K):=by
 intro a7q s U H vs us Q I r h
 obtain⟨a,bs,rfl,hs,q⟩:=h
 obtain⟨its,rv,hl,_⟩:=I.list hs
 rw[y8.ref1 r]
 have hb:=rv.bls
 refine call_any_walk (aP0 hl.isList λs₂ e2 st hne=> ?_)
 subst e2
 refine⟨_,_,_,_,_,_,_,rfl,Walks.list (A:=X.A.in1) (I.ok.hd hc) _ a hne its.toArray,st,aq0 hb,λh' tk hk=> ?_⟩
 refine⟨.bl _,H,I.kept λb o eo=>hk b o (λhmem=> ?_) (a7w _ eo),?_,q⟩
 ·rcases a7D.mp hmem with e1|hmem
  ·exact absurd (e1▸a7I eo) (a8I _)
  ·cases hmem
 ·show Value.bool _=Value.bool _
  rw[←aE5,hb,a7K,a7r]
theorem a5o(hc:X.calm=true):N4 X (.builtin "all") (a7b X.K):=by
 intro a7q s U H vs us Q I r h
 obtain⟨a,bs,rfl,hs,q⟩:=h
 obtain⟨its,rv,hl,_⟩:=I.list hs
 rw[y8.ref1 r]
 have hb:=rv.bls
 refine call_all_walk (aP0 hl.isList λs₂ e2 st hne=> ?_)
 subst e2
 refine⟨_,_,_,_,_,_,_,rfl,Walks.list (A:=X.A.in1) (I.ok.hd hc) _ a hne its.toArray,st,aq0 hb,λh' tk hk=> ?_⟩
 refine⟨.bl _,H,I.kept λb o eo=>hk b o (λhmem=> ?_) (a7w _ eo),?_,q⟩
 ·rcases a7D.mp hmem with e1|hmem
  ·exact absurd (e1▸a7I eo) (a8I _)
  ·cases hmem
 ·show Value.bool _=Value.bool _
  rw[←aE6,hb,a7K,a7r]
end
mutual
inductive Dp(K:Frag)(H:Hp):V->PyData->Prop
 |non:Dp K H .non .none
 |bl (b:Bool):Dp K H (.bl b) (.bool b)
 |int (i:Int):Dp K H (.int i) (.int i)
 |str (x:Str):Dp K H (.str x) (.str x)
 |lst {a:Addr} {xs:List V} {ds:List PyData}:n9 K H a xs->aE7 K H xs ds->Dp K H (.ref a) (.list ds)
 |tup {a:Addr} {xs:List V} {ds:List PyData}:v7 K H a xs->aE7 K H xs ds->Dp K H (.ref a) (.tuple ds)
inductive aE7(K:Frag)(H:Hp):List V->List PyData->Prop
 |nil:aE7 K H [] []
 |cons {v:V} {vs:List V} {d:PyData} {ds:List PyData}:Dp K H v d->aE7 K H vs ds->aE7 K H (v::vs) (d::ds)
end
section
variable{X:Cx}{a7q:List (Addr×Obj)}{U:St}{H:Hp}{s:Shared}
mutual
theorem Dp.reads(I:v9 X a7q U H s):∀(d:PyData) (v:V) (u:Value),Dp X.K H v d->B4 v u->∃as,Reads s.heap u d as
 | .none,_,_,h,r=>by
   cases h
   cases r
   exact⟨_,Reads.none⟩
 | .bool b,_,_,h,r=>by
   cases h
   cases r
   exact⟨_,Reads.bool b⟩
 | .int i,_,_,h,r=>by
   cases h
   obtain⟨t,rfl⟩:=r
   exact⟨_,Reads.int i t⟩
 | .str x,_,_,h,r=>by
   cases h
   obtain⟨t,rfl⟩:=r
   exact⟨_,Reads.str x t⟩
 | .list ds,_,_,h,r=>by
   cases h with
   |lst hs ha=>
    cases r
    obtain⟨its,rv,⟨o,n,ho,hc,_,hd⟩,_⟩:=I.list hs
    obtain⟨as,hr⟩:=Dp.readsAll I ds _ its ha rv
    exact⟨_,Reads.list ho hc hd hr⟩
 | .tuple ds,_,_,h,r=>by
   cases h with
   |tup hs ha=>
    cases r
    obtain⟨its,rv,⟨o,ho,hc,n,hd⟩,_⟩:=I.tuple hs
    obtain⟨as,hr⟩:=Dp.readsAll I ds _ its ha rv
    exact⟨_,Reads.tuple ho hc hd hr⟩
 | .dict _,_,_,h,_=>by cases h
theorem Dp.readsAll(I:v9 X a7q U H s):∀(ds:List PyData) (vs:List V) (us:List Value),aE7 X.K H vs ds->y8 vs us->∃as,ReadsAll s.heap us ds as
 |[],_,_,h,r=>by
  cases h
  cases r
  exact⟨_,ReadsAll.nil⟩
 |d::ds,_,_,h,r=>by
  cases h with
  |cons h1 h2=>
   cases r with
   |cons r1 r2=>
    obtain⟨as,q1⟩:=Dp.reads I d _ _ h1 r1
    obtain⟨bs,q2⟩:=Dp.readsAll I ds _ _ h2 r2
    exact⟨_,ReadsAll.cons q1 q2⟩
end
end
section
variable{X:Cx}
def a7c(K:Frag):R2:=λx y H Q=>∃d e,Dp K H x d/\Dp K H y e/\SeqAt.shaped d=true/\SeqAt.shaped e=true/\Q (.bl (!PyData.eqv d e)) H
theorem a5p(hu:X.A.units+64<cLine):OpR X (compareOp .NotEq) (a7c X.K):=by
 intro a7q s U H x y v u Q I rx ry h
 obtain⟨d,e,hd,he,sd,se,q⟩:=h
 obtain⟨as,r1⟩:=Dp.reads I d x v hd rx
 obtain⟨bs,r2⟩:=Dp.reads I e y u he ry
 exact SeqAt.compareNe_shaped r1 r2 sd se hu ⟨.bl _,H,I,rfl,q⟩
end
abbrev a2A(h:Heap)(c:Addr)(v:Option Value):Prop:=h.IsCell c v
def a7d(scope sc:Scope):Scope:=
 {scope with names:=scope.names.map λ(n,k)=>if(k== .free&&sc.kind== .function&&sc.names.lookup n==some .cell)then(n,.cell)else(n,k)}
def D4(cells:List (Str×Addr)):List (Str×NameKind)->List (Str×Addr)->List (Str×Addr)
 |[],acc=>acc
 |(n,k)::r,acc=>if k== .free then D4 cells r ((n,(cells.lookup n).getD 0)::acc)else D4 cells r acc
theorem aj3(env:Env)(f:Str×NameKind->List (Str×Addr)->Sem (ForInStep (List (Str×Addr))))
 (hf:∀n k c,f (n,k) c=if k== .free then(do let a ←cellOf env n;pure (.yield ((n,a)::c)))else pure (.yield c)):
 ∀(names:List (Str×NameKind)) (acc:List (Str×Addr)),(∀y∈names,y.2= .free->∃c,env.cells.lookup y.1=some c)->forIn names acc f=pure (D4 env.cells names acc)
 |[],acc,_=>by rw[a9o];rfl
 |(n,k)::r,acc,h=>by
  rw[a9v,hf]
  have ih:=λacc=>aj3 env f hf r acc λy hy=>h y (a7B _ hy)
  unfold D4
  by_cases hk:(k==NameKind.free)=true
  ·rw[if_pos hk,if_pos hk]
   obtain⟨c,hc⟩:=h (n,k) a7C (by simpa using hk)
   have e:cellOf env n=pure c:=by unfold cellOf;rw[hc]
   rw[e]
   have e2:(env.cells.lookup n).getD 0=c:=by rw[hc];rfl
   rw[e2]
   exact ih _
  ·rw[if_neg hk,if_neg hk]
   exact ih _
theorem aW5{scope:Scope}{env:Env}(h:∀y∈scope.names,y.2= .free->∃c,env.cells.lookup y.1=some c):closureFor scope env=pure (D4 env.cells scope.names []):=by
 simp only[closureFor]
 rw[aj3 env _ (λn k c=>rfl) scope.names [] h]
 rfl
theorem ah2{α:Type}:∀{l:List (Str×α)} {n:Str} {c:α},(n,c)∈l->∃c',l.lookup n=some c'
 |(k,v)::r,n,c,h=>by
  rw[a8Y]
  cases hb:n==k with
  |true=>exact⟨_,rfl⟩
  |false=>
   rcases a7D.mp h with e|h
   ·cases e;simp at hb
   ·exact ah2 h
theorem U1{cells:List (Str×Addr)}:∀{names:List (Str×NameKind)} {acc:List (Str×Addr)} {n:Str} {c:Addr},(n,c)∈D4 cells names acc->(n,c)∈acc\/((n,.free)∈names/\c=(cells.lookup n).getD 0)
 |[],_,_,_,h=> .inl h
 |(m,k)::r,acc,n,c,h=>by
  unfold D4 at h
  split at h
  ·rename_i hk
   have hk:k= .free:=by simpa using hk
   rcases U1 h with h|⟨h1,h2⟩
   ·rcases a7D.mp h with e|h
    ·cases e;exact .inr ⟨hk▸a7C,rfl⟩
    ·exact .inl h
   ·exact .inr ⟨a7B _ h1,h2⟩
  ·rcases U1 h with h|⟨h1,h2⟩
   ·exact .inl h
   ·exact .inr ⟨a7B _ h1,h2⟩
theorem ab2{cells:List (Str×Addr)}:∀{names:List (Str×NameKind)} {acc:List (Str×Addr)} {p:Str×Addr},p∈acc->p∈D4 cells names acc
 |[],_,_,h=>h
 |(m,k)::r,acc,p,h=>by
  unfold D4
  split
  ·exact ab2 (a7B _ h)
  ·exact ab2 h
theorem ab3{cells:List (Str×Addr)}:∀{names:List (Str×NameKind)} {acc:List (Str×Addr)} {n:Str},(n,.free)∈names->(n,(cells.lookup n).getD 0)∈D4 cells names acc
 |(m,k)::r,acc,n,h=>by
  unfold D4
  rcases a7D.mp h with e|h
  ·cases e
   exact ab2 a7C
  ·split
   ·exact ab3 h
   ·exact ab3 h
theorem X0:∀{names:List (Str×NameKind)} {h:Heap} {acc:List (Str×Addr)} {x:Str} {c:Addr},(x,c)∈cellsFrom h.objs.size names acc->
 (x,c)∈acc\/((x,.cell)∈names/\h.objs.size<=c/\a2A (pushCells h names) c none)
 |[],_,_,_,_,h=> .inl h
 |(n,k)::r,h,acc,x,c,hm=>by
  unfold cellsFrom at hm
  unfold pushCells
  split at hm
  ·rename_i hk
   rw[if_pos hk]
   have hk:k= .cell:=by simpa using hk
   rw[←a8i h {cls:= .type "cell",data:= .cell none}]at hm
   rcases X0 hm with hm|⟨h1,h2,h3⟩
   ·rcases a7D.mp hm with e|hm
    ·cases e
     exact .inr ⟨hk▸a7C,a7A _,_,pushCells_keeps r _ _ _ (a7P _ rfl),rfl⟩
    ·exact .inl hm
   ·rw[a8i]at h2
    exact .inr ⟨a7B _ h1,a9X h2,h3⟩
  ·rename_i hk
   rw[if_neg hk]
   rcases X0 hm with hm|⟨h1,h2,h3⟩
   ·exact .inl hm
   ·exact .inr ⟨a7B _ h1,h2,h3⟩
theorem af1:∀{names:List (Str×NameKind)} {n:Nat} {acc:List (Str×Addr)} {p:Str×Addr},p∈acc->p∈cellsFrom n names acc
 |[],_,_,_,h=>h
 |(m,k)::r,n,acc,p,h=>by
  unfold cellsFrom
  split
  ·exact af1 (a7B _ h)
  ·exact af1 h
theorem an0:∀{names:List (Str×NameKind)} {n:Nat} {acc:List (Str×Addr)} {x:Str},(x,.cell)∈names->∃c,(x,c)∈cellsFrom n names acc
 |(m,k)::r,n,acc,x,h=>by
  unfold cellsFrom
  rcases a7D.mp h with e|h
  ·cases e
   exact⟨n,af1 a7C⟩
  ·split
   ·exact an0 h
   ·exact an0 h
theorem an1:∀{names:List (Str×NameKind)} {h:Heap} {acc:List (Str×Addr)} {x y:Str} {c:Addr},(∀p∈acc,p.2<h.objs.size)->(∀x y c,(x,c)∈acc->(y,c)∈acc->x=y)->
 (x,c)∈cellsFrom h.objs.size names acc->(y,c)∈cellsFrom h.objs.size names acc->x=y
 |[],_,_,_,_,_,_,hi,h1,h2=>hi _ _ _ h1 h2
 |(n,k)::r,h,acc,x,y,c,hl,hi,h1,h2=>by
  unfold cellsFrom at h1 h2
  split at h1
  ·rename_i hk
   rw[if_pos hk]at h2
   rw[←a8i h {cls:= .type "cell",data:= .cell none}]at h1 h2
   refine an1 (h:=h.push _) (λp hp=> ?_) (λx y c a b=> ?_) h1 h2
   ·rw[a8i]
    rcases a7D.mp hp with rfl|hp
    ·exact a9L _
    ·exact Nat.lt_succ_of_lt (hl p hp)
   ·rcases a7D.mp a with e|a<;>rcases a7D.mp b with e'|b
    ·cases e;cases e';rfl
    ·cases e;exact absurd (hl _ b) (a8I _)
    ·cases e';exact absurd (hl _ a) (a8I _)
    ·exact hi _ _ _ a b
  ·rename_i hk
   rw[if_neg hk]at h2
   exact an1 hl hi h1 h2
theorem aP1{M:Model}{A:Around}{E:Value->Shared->Prop}{s:Shared}{scope:Scope}{globals:Addr}{closure:List (Str×Addr)}{qual:Str}{func:Option Addr}{code:Value}{around:Env}{builtins:Addr}{Q:Env->Shared->Prop}
 (h:Q (newEnv scope s.heap.objs.size globals (cellsFrom (s.heap.objs.size+1) scope.names closure) qual func code (some around) builtins)
  {s with heap:=pushCells (s.heap.push {cls:= .type "dict",data:= .dict #[]}) scope.names}):
 wpAny M A (newFunctionEnv scope globals closure [] qual func code (some around) builtins) Q E s:=by
 simp only[newFunctionEnv,Option.isSome_some,if_true]
 refine wpAny_bind (wpAny_alloc ?_)
 refine wpAny_bind (wpAny_layCells _ (λn k c=>rfl) scope.names closure _ _ ?_)
 rw[show({s with heap:=s.heap.push {cls:= .type "dict",data:= .dict #[]}}:Shared).heap.objs.size=s.heap.objs.size+1 from a8i ..]
 rw[a9o]
 exact wpAny_bind (wpAny_pure (wpAny_pure h))
theorem ab4{sc:Scope}:∀{names:List (Str×NameKind)} {x:Str} {k:NameKind},
 (names.map λ(n,k)=>if(k==NameKind.free&&sc.kind== .function&&sc.names.lookup n==some .cell)then(n,NameKind.cell)else(n,k)).lookup x=some k->
 ∃k',names.lookup x=some k'/\(k=k'\/(k'= .free/\k= .cell))
 |[],_,_,h=>by simp at h
 |(n,k₀)::r,x,k,h=>by
  have ih:= @ab4 sc r x k
  have h':a9F x ((if(k₀==NameKind.free&&sc.kind== .function&&sc.names.lookup n==some .cell)=true then(n,NameKind.cell)else(n,k₀))::(r.map _))=some k:=h
  cases hx:x==n with
  |true=>
   simp only[a8Y,hx]
   by_cases hc:(k₀==NameKind.free&&sc.kind== .function&&sc.names.lookup n==some .cell)=true
   ·rw[if_pos hc]at h'
    simp only[a8Y,hx]at h'
    cases h'
    simp only[a7z,beq_iff_eq]at hc
    exact⟨k₀,rfl,.inr ⟨hc.1.1,rfl⟩⟩
   ·rw[if_neg hc]at h'
    simp only[a8Y,hx]at h'
    cases h'
    exact⟨_,rfl,.inl rfl⟩
  |false=>
   simp only[a8Y,hx]
   by_cases hc:(k₀==NameKind.free&&sc.kind== .function&&sc.names.lookup n==some .cell)=true
   ·rw[if_pos hc]at h'
    simp only[a8Y,hx]at h'
    exact ih h'
   ·rw[if_neg hc]at h'
    simp only[a8Y,hx]at h'
    exact ih h'
structure E5(N:List Str)(sc scope:Scope)(own:List (Str×Nat)):Prop where
 kind:scope.kind= .function
 uniq:∀y∈scope.names,scope.names.lookup y.1=some y.2
 ix:∀p∈own,N[p.2]? =some p.1
 free:∀y∈scope.names,y.2= .free->sc.names.lookup y.1=some .cell\/sc.names.lookup y.1=some .free
 own:∀y∈scope.names,y.2= .local\/y.2= .cell->y.1∈own.map (·.1)\/y.1∉N
def D1(U:St):List Nat->St
 |[]=>U
 |v::vs=>(D1 U vs).set v none
theorem ab5(U:St):∀vs:List Nat,(D1 U vs).length=U.length
 |[]=>rfl
 |v::vs=>by unfold D1;rw[a9g,ab5 U vs]
theorem an2{U:St}{i:Nat}{x:V}:∀{vs:List Nat},(D1 U vs)[i]? =some (some x)->U[i]? =some (some x)/\i∉vs
 |[],h=>⟨h,by simp⟩
 |v::vs,h=>by
  unfold D1 at h
  by_cases hi:v=i
  ·subst hi
   by_cases hv:v<(D1 U vs).length
   ·rw[a8R hv]at h;cases h
   ·rw[a8y (by simpa using hv)]at h;cases h
  ·rw[a8X hi]at h
   obtain⟨h1,h2⟩:=an2 h
   exact⟨h1,by simp only[a7D,not_or];exact⟨λe=>hi e.symm,h2⟩⟩
abbrev Cx.blk(X:Cx)(s:Shared)(H:Hp)(scope:Scope)(cenv:Env)(fp:List Addr):Cx:={X with s_0:=s,H_0:=H,env:=cenv,outer:=X.stack,ex:=fp,fn:=λx=>scope.names.lookup x==some .cell,pn:=[],xe:=λ_ _=>False}
section
variable{X:Cx}{a7q:List (Addr×Obj)}{U:St}{H:Hp}{s:Shared}
theorem aP2{scope:Scope}{own:List (Str×Nat)}{fp:List Addr}(I:v9 X a7q U H s)(ok:E5 X.N X.env.scope scope own)(hN:X.N.Nodup)(hfp:∀b∈fp,as9 X a7q H b/\b<s.heap.objs.size):
 v9 (X.blk s H scope (compEnvC scope (cellsFrom (s.heap.objs.size+1) scope.names (D4 X.env.cells scope.names [])) s.heap.objs.size X.env) fp) [] (D1 U (own.map (·.2))) H {s with heap:=pushCells (s.heap.push {cls:= .type "dict",data:= .dict #[]}) scope.names}:=by
 have hfree:∀y∈scope.names,y.2= .free->∃c,X.env.cells.lookup y.1=some c:=λy hy e=>by
  rcases ok.free y hy e with k|k
  ·exact I.ok.has _ (.inl k)
  ·exact I.ok.has _ (.inr k)
 generalize hcenv:compEnvC scope (cellsFrom (s.heap.objs.size+1) scope.names (D4 X.env.cells scope.names [])) s.heap.objs.size X.env=cenv
 have kp:∀b o,s.heap.get? b=some o->(pushCells (s.heap.push {cls:= .type "dict",data:= .dict #[]}) scope.names).get? b=some o:=λb o e=>pushCells_keeps _ _ _ _ (a7w _ e)
 have hL:cenv.locals=s.heap.objs.size:=by rw[←hcenv];rfl
 have hcl:cenv.cells=cellsFrom (s.heap.objs.size+1) scope.names (D4 X.env.cells scope.names []):=by rw[←hcenv];rfl
 have hsc:cenv.scope=a7d scope X.env.scope:=by rw[←hcenv];rfl
 rw[←a8i s.heap {cls:= .type "dict",data:= .dict #[]}]at hcl
 have cm:∀{y c},(y,c)∈D4 X.env.cells scope.names []->X.env.cells.lookup y=some c/\c<s.heap.objs.size:=λ{y c} hm=>by
  rcases U1 hm with hm|⟨h1,rfl⟩
  ·cases hm
  ·obtain⟨c,hc⟩:=hfree _ h1 rfl
   rw[hc]
   obtain⟨w,z⟩:=I.cell _ _ hc
   exact⟨rfl,z.lt⟩
 have mem:∀{y c},cenv.cells.lookup y=some c->(X.env.cells.lookup y=some c/\c<s.heap.objs.size)\/(s.heap.objs.size+1<=c/\a2A (pushCells (s.heap.push {cls:= .type "dict",data:= .dict #[]}) scope.names) c none):=λ{y c} e=>by
  rw[hcl]at e
  rcases X0 (PySem.mem_of_lookup e)with hm|⟨_,h2,h3⟩
  ·exact .inl (cm hm)
  ·rw[a8i]at h2;exact .inr ⟨h2,h3⟩
 have look:∀{y},scope.names.lookup y=some .free->∃c,cenv.cells.lookup y=some c/\X.env.cells.lookup y=some c:=λ{y} hl=>by
  have hy:(y,NameKind.free)∈scope.names:=PySem.mem_of_lookup hl
  obtain⟨c',e'⟩:=ah2 (af1 (names:=scope.names) (n:=(s.heap.push {cls:= .type "dict",data:= .dict #[]}).objs.size) (ab3 (cells:=X.env.cells) (acc:=[]) hy))
  rw[←hcl]at e'
  refine⟨c',e',?_⟩
  rw[hcl]at e'
  rcases X0 (PySem.mem_of_lookup e')with hm|⟨h1,_,_⟩
  ·exact(cm hm).1
  ·have:=ok.uniq _ h1
   rw[hl]at this;cases this
 have okB:(X.blk s H scope cenv fp).Ok:=by
  refine⟨I.ok.mod,by show cenv.scope.kind=_;rw[hsc];exact ok.kind,by show cenv.globals=_;rw[←hcenv];exact I.ok.glob,by show cenv.builtins=_;rw[←hcenv];exact I.ok.blt,by show s.heap.objs.size<=cenv.locals;rw[hL];exact a7A _,
   λy z c e1 e2=> ?_,λy hy=> ?_,λy c z e=> ?_,I.ok.hd,I.ok.frames,.inl rfl,λb hb=>⟨?_,λy c e z=> ?_⟩,I.bs,a7G I.ok.bsz I.sz,λb o e hb=> ?_,λb hb z=> ?_,I.stack,I.stkFree⟩
  ·have e1:cenv.cells.lookup y=some c:=e1
   have e2:cenv.cells.lookup z=some c:=e2
   rw[hcl]at e1 e2
   refine an1 (λp hp=> ?_) (λy z c a b=>I.ok.inj y z c (cm a).1 (cm b).1) (PySem.mem_of_lookup e1) (PySem.mem_of_lookup e2)
   rw[a8i]
   exact Nat.lt_succ_of_lt (cm (y:=p.1) (c:=p.2) hp).2
  ·show∃c,cenv.cells.lookup y=some c
   have key:∀k,cenv.kindOf y=some k->(k= .cell\/k= .free)->∃c,cenv.cells.lookup y=some c:=λk hk hk'=>by
    unfold Env.kindOf at hk
    rw[hsc]at hk
    obtain⟨k',e,r⟩:=ab4 hk
    have:k'= .cell\/k'= .free:=by
     rcases r with rfl|⟨rfl,_⟩
     ·exact hk'
     ·exact .inr rfl
    rcases this with rfl|rfl
    ·obtain⟨c,hm⟩:=an0 (n:=(s.heap.push {cls:= .type "dict",data:= .dict #[]}).objs.size) (acc:=D4 X.env.cells scope.names []) (PySem.mem_of_lookup e)
     obtain⟨c',e'⟩:=ah2 hm
     exact⟨c',by rw[hcl];exact e'⟩
    ·obtain⟨c,h1,_⟩:=look e
     exact⟨c,h1⟩
   rcases hy with hy|hy
   ·exact key _ hy (.inl rfl)
   ·exact key _ hy (.inr rfl)
  ·have z:(scope.names.lookup y==some NameKind.cell)=true:=z
   have z:scope.names.lookup y=some .cell:=by simpa using z
   have e:cenv.cells.lookup y=some c:=e
   rw[hcl]at e
   rcases X0 (PySem.mem_of_lookup e)with hm|⟨_,h2,_⟩
   ·rcases U1 hm with hm|⟨h1,_⟩
    ·cases hm
    ·have q:=ok.uniq _ h1
     rw[z]at q;cases q
   ·rw[a8i]at h2
    exact a9X h2
  ·show b≠cenv.locals
   rw[hL];exact a7L (hfp b hb).2
  ·have e:cenv.cells.lookup y=some c:=e
   rcases mem e with⟨h1,_⟩|⟨h1,_⟩
   ·exact(hfp b hb).1.2.2.2.2.1 y c h1 z
   ·have h2:s.heap.objs.size+1<=b:=by rw[←z];exact h1
    exact absurd (a7Y (hfp b hb).2 (a9X h2)) (a8I _)
  ·rcases(hfp b hb).1.2.2.2.1 with z|z
   ·exact I.ok.noex b o e z
   ·exact absurd (a7Y (a7I e) (a7G I.ok.bsz z)) (a8I _)
  ·rcases a7D.mp (I.stkSub b z)with z|z
   ·exact(hfp b hb).1.2.1 z
   ·exact(hfp b hb).1.2.2.1 z
 refine⟨okB,rfl,I.bare,Un.kept kp,⟨λ_=>none,?_,λi y av e1 e2 e3=> ?_⟩,λy c e=> ?_,?_,λy c e=> ?_,λp hp=> ?_,I.hok.kept kp,by rw[ab5];exact I.len⟩
 ·show Heap.Ns _ cenv.locals _
  rw[hL]
  exact Heap.Ns.keeps (Heap.Ns.new ..) λb o e=>pushCells_keeps _ _ _ _ e
 ·obtain⟨e2,hne⟩:=an2 e2
  have hfr:scope.names.lookup y=some .free/\(cenv.kindOf y=some .cell\/cenv.kindOf y=some .free):=by
   have key:∀k,cenv.scope.names.lookup y=some k->k= .local\/k= .cell\/k= .free->scope.names.lookup y=some .free/\(cenv.kindOf y=some .cell\/cenv.kindOf y=some .free):=λk hk hk'=>by
    have hk0:=hk
    rw[hsc]at hk
    obtain⟨k',e,r⟩:=ab4 hk
    have no:¬(k'= .local\/k'= .cell):=λhh=>by
     rcases ok.own _ (PySem.mem_of_lookup e) hh with e'|e'
     ·obtain⟨p,hp,hpy⟩:=a8j.mp e'
      have e3:=ok.ix p hp
      have:p.1=y:=hpy
      rw[this]at e3
      exact hne (a8j.mpr ⟨p,hp,au5 hN e3 e1⟩)
     ·exact e' (a7F e1)
    rcases r with rfl|⟨rfl,rfl⟩
    ·rcases hk' with rfl|rfl|rfl
     ·exact absurd (.inl rfl) no
     ·exact absurd (.inr rfl) no
     ·exact⟨e,.inr hk0⟩
    ·exact⟨e,.inl hk0⟩
   have e3:Vis cenv.scope y:=e3
   rcases e3 with e3|e3|e3
   ·exact key _ e3 (.inl rfl)
   ·exact key _ e3 (.inr (.inl rfl))
   ·exact key _ e3 (.inr (.inr rfl))
  obtain⟨m,hn,hl⟩:=I.loc
  have hvis:Vis X.env.scope y:=(ok.free _ (PySem.mem_of_lookup hfr.1) rfl).elim (λk=> .inr (.inl k)) (λk=> .inr (.inr k))
  obtain⟨w,r,q⟩:=hl i y av e1 e2 hvis
  refine⟨w,r,.inr ⟨hfr.2,?_⟩⟩
  obtain⟨c,h1,h2⟩:=look hfr.1
  rcases q with⟨k,_⟩|⟨_,c',e',z⟩
  ·have k:X.env.scope.names.lookup y=some .local:=k
   rcases ok.free _ (PySem.mem_of_lookup hfr.1) rfl with k'|k'<;>rw[show X.env.scope.names.lookup y=_ from k']at k<;>cases k
  ·rw[h2]at e';cases e'
   exact⟨c,h1,z.keeps kp⟩
 ·have e:cenv.cells.lookup y=some c:=e
  rcases mem e with⟨h1,_⟩|⟨_,z⟩
  ·obtain⟨w,z⟩:=I.cell y c h1
   exact⟨w,z.keeps kp⟩
  ·exact⟨_,z⟩
 ·show H cenv.locals=none
  rw[hL];exact I.hok.fresh (a7A _)
 ·have e:cenv.cells.lookup y=some c:=e
  rcases mem e with⟨h1,_⟩|⟨h1,_⟩
  ·exact I.freeC y c h1
  ·exact I.hok.fresh (a9X h1)
 ·exact absurd (show p∈([]:List (Addr×Obj))++[]from hp) (by simp)
theorem a5q{E:Value->Shared->Prop}{D:Addr}{xs:List V}{y:V}{v:Value}{Q:Value->Shared->Prop}(I:v9 X a7q U H s)(hD:H D=some (.lst xs))(hz:xs.length<sizeLine)(r:B4 y v)
 (h:∀s',v9 X a7q U (A6 H D (.lst (xs++[y]))) s'->Q .none s'):wpAny (model X.prog X.w) X.A (call (.builtin "list.append") [.ref D,v]) Q E s:=by
 obtain⟨hz',its,n,ri,e⟩:=I.hok D _ hD
 have hl:=ri.length
 refine append_at (hsz:=by rw[a7K];lia) e λh' sb ho'=> ?_
 refine h {s with heap:=h'} (I.write (t':=s.toks) (by rw[hD];trivial) (.inl rfl) (λb u hb q=>(sb.2 b hb).trans q) ⟨_,ho'⟩ ⟨by rw[a7M];exact hz,its++[v],n+1,ri.append (.cons r .nil),?_⟩)
 rw[ho']
 simp
def PTs(X:Cx)(ifs:List Expr)(t:TT):Prop:=
 ∀(a7q:List (Addr×Obj)) (s:Shared) (U:St) (H:Hp) (Q:Bool->Hp->Prop),v9 X a7q U H s->t U H Q->
  wpAny (model X.prog X.w) X.A (forIn ifs true λc r=>if r=true then do let ok ←isTrue c X.env (eval c X.env);pure (ForInStep.yield ok)else pure (ForInStep.yield r)) (TP X a7q U Q) X.xe s
def a7e:TT:=λ_ H Q=>Q true H
theorem D8:PTs X [] a7e:=λ_ _ _ H _ I h=>wpAny_tests_nil ⟨H,I,h⟩
theorem Y3{c:Expr}{t:TT}(h:PT X c t):PTs X [c] t:=λa7q s U H Q I hw=>wpAny_tests_one (h a7q s U H Q I hw)
end
theorem a1G{α:Type}{t:Sem α}{Q Q':α->Shared->Prop}{M:Model}{A:Around}{E:Value->Shared->Prop}{s:Shared}(h:wpAny M A t Q (λ_ _=>False) s)(hQ:∀a s,Q a s->Q' a s):wpAny M A t Q' E s:=wpAny_mono h hQ λ_ _ z=>False.elim z
theorem aJ0{prog:Program}{w:World}{A:Around}{R:Result->Shared->Prop}{s:Shared}{elt target iter:Expr}{ifs:List Expr}{scope:Scope}{pos:Pos}{it acc:Value}{env:Env}(I:Nat->Shared->Prop)
 (turn:∀n s,I n s->wpAny (model prog w) A (pyNext it) (λr s₁=>match r with
  |none=>R (.ok .next) s₁
  |some v=>wpAny (model prog w) A (letOwnedTupleGo target it v) (λ_ s₁'=>wpAny (model prog w) A (assign target env v) (λ_ s₂=>
   wpAny (model prog w) A (forIn ifs true λc r=>if r=true then do let ok ←isTrue c env (eval c env);pure (ForInStep.yield ok)else pure (ForInStep.yield r)) (λok s₃=>
    if ok=true then wpAny (model prog w) A (eval elt env) (λx s₄=>
     wpAny (model prog w) A (call (.builtin "list.append") [acc,x]) (λ_ s₅=>∃m,m<n/\I m s₅) (notedBy (model prog w) A env λe s'=>R (.error e) s') s₄) (notedBy (model prog w) A env λe s'=>R (.error e) s') s₃
    else∃m,m<n/\I m s₃) (notedBy (model prog w) A env λe s'=>R (.error e) s') s₂) (notedBy (model prog w) A env λe s'=>R (.error e) s') s₁') (notedBy (model prog w) A env λe s'=>R (.error e) s') s₁) (notedBy (model prog w) A env λe s'=>R (.error e) s') s)
 (n:Nat) (h:I n s):
 codeAny (model prog w) A (.compLoop (.ListComp elt [⟨target,iter,ifs,0⟩] scope pos) 0 it acc env) R s:=by
 refine codeAny_loop rfl I (λn s hI=> ?_) n h
 show wpAny _ A ((compTurn (.ListComp elt [⟨target,iter,ifs,0⟩] scope pos) 0 it acc env).onRaise (λx=>do noteFrame x env;theTreesLotGoes x)) _ _ s
 refine wpAny_noted ?_
 rw[compTurn_list]
 refine wpAny_bind (wpAny_standAt (wpAny_bind (wpAny_mono (turn n s hI) (λr s₁ h₁=> ?_) λ_ _ h'=>h')))
 cases r with
 |none=>exact wpAny_pure h₁
 |some v=>
  refine wpAny_bind (wpAny_mono h₁ (λ_ s₁' h₁'=> ?_) λ_ _ h'=>h')
  refine wpAny_bind (wpAny_mono h₁' (λ_ s₂ h₂=>wpAny_bind (wpAny_mono h₂ (λok s₃ h₃=> ?_) λ_ _ h'=>h')) λ_ _ h'=>h')
  cases ok with
  |false=>exact wpAny_pure ⟨rfl,h₃⟩
  |true=>
   exact wpAny_bind (wpAny_bind (wpAny_mono h₃ (λx s₄ h₄=>wpAny_bind (wpAny_mono h₄ (λ_ s₅ h₅=>wpAny_pure (wpAny_pure ⟨rfl,h₅⟩)) λ_ _ h'=>h')) λ_ _ h'=>h'))
section
variable{X:Cx}
def tLc(wi:TI)(g:TG)(tt:TT)(te:TE)(vs:List Nat):TE:=λU H Q=>wi U H λJ H1=>∀D,H1 D=none->∃W:Nat->Nat->Hp->Prop,(∃m,W 0 m (A6 H1 D (.lst [])))/\∀i m H,W i m H->
 (J.stop i H/\Q (.ref D) H)\/(J.go i H/\∃Nx:Hp->Prop,(∀H',Nx H'->∃m',m'<m/\W (i+1) m' H')/\∀x H',J.yld i H x H'->g x (D1 U vs) H' λσ2 H2=>D1 σ2 vs=D1 U vs/\tt σ2 H2 λb H3=>
  if b=true then te σ2 H3 λy H4=>∃acc,H4 D=some (.lst acc)/\acc.length<sizeLine/\Nx (A6 H4 D (.lst (acc++[y])))else Nx H3)
theorem a0E{a7q:List (Addr×Obj)}{s:Shared}{U:St}{H:Hp}{Q:VK}{elt tg iter:Expr}{ifs:List Expr}{scope:Scope}{own:List (Str×Nat)}{pos pos':Pos}{wi:TI}{g:TG}{tt:TT}{te:TE}{use:Option (Value->Sem Unit)}{Qf:Value->Shared->Prop}
 (hc:X.calm=true) (hN:X.N.Nodup) (I:v9 X a7q U H s) (hi:PI X tg iter wi) (ok:E5 X.N X.env.scope scope own)
 (hg:∀(s:Shared) (H:Hp) (C:Addr) (cl:List (Str×Addr)) (fp:List Addr),PG (X.blk s H scope (compEnvC scope cl C X.env) fp) tg g) (ht:∀(s:Shared) (H:Hp) (C:Addr) (cl:List (Str×Addr)) (fp:List Addr),PTs (X.blk s H scope (compEnvC scope cl C X.env) fp) ifs tt)
 (he:∀(s:Shared) (H:Hp) (C:Addr) (cl:List (Str×Addr)) (fp:List Addr),PE (X.blk s H scope (compEnvC scope cl C X.env) fp) elt te) (hs:∀x,foldedSetIterable iter X.env x=pure x)
 (h:tLc wi g tt te (own.map (·.2)) U H Q)
 (hRR:∀D C s' m H',v9 X a7q U H' s'->Q (.ref D) H'->s'.heap.Ns C m->as9 X a7q H' C->compPost (model X.prog X.w) X.A X.xe use Qf (.ref D) C (.ok .next) s'):
 wpAny (model X.prog X.w) X.A (comprehension (.ListComp elt [⟨tg,iter,ifs,0⟩] scope pos) scope X.env pos' (newList []) false (eval iter X.env) use) Qf X.xe s:=by
 have hfree:∀y∈scope.names,y.2= .free->∃c,X.env.cells.lookup y.1=some c:=λy hy e=>by
  rcases ok.free y hy e with k|k
  ·exact I.ok.has _ (.inl k)
  ·exact I.ok.has _ (.inr k)
 refine wpAny_comprehension_free (use:=use) rfl hs (aW5 hfree) ok.kind (λy hy e=>by rw[ok.uniq y hy,e])
  (F8 (hi a7q s U H _ I h) λxv s1 hx=>F8 hx λitv s2 h2=> ?_)
 obtain⟨it,fp,tn,J,H2,e,I2,T,st2,f2,q⟩:=h2
 subst e
 refine wpAny_newObj_type (aP1 ?_) (by show 0<=sizeLine;decide)
 generalize hD:s2.heap.objs.size=D
 have hDn:H2 D=none:=I2.hok.fresh (Nat.le_of_eq hD)
 obtain⟨W,⟨m0,w0⟩,turn⟩:=q D hDn
 generalize hs3:({s2 with heap:=s2.heap.push {cls:= .type "list",data:= .seq ([]:List Value).toArray}}:Shared)=s3
 have I3:v9 X a7q U (A6 H2 D (.lst [])) s3:=by
  rw[←hs3]
  refine I2.laid (t':=s2.toks) (λb o e=>a7w _ e) (Nat.le_of_eq hD) ⟨a8n _,[],0,.nil,?_⟩
  rw[←hD]
  exact a7P _ rfl
 have h3:s3.heap=s2.heap.push {cls:= .type "list",data:= .seq ([]:List Value).toArray}:=by rw[←hs3]
 have sz:∀b∈fp,b<s2.heap.objs.size:=λb hb=>by
  obtain⟨o,e,_⟩:=T.obj _ _ st2 b hb
  exact a7I e
 have f3:∀b∈fp,as9 X a7q (A6 H2 D (.lst [])) b/\b<s3.heap.objs.size:=λb hb=>by
  have hlt:=sz b hb
  refine⟨⟨?_,(f2 b hb).2⟩,by rw[h3,a8i];exact Nat.lt_succ_of_lt hlt⟩
  rw[j6 (by rw[←hD];exact a7L hlt)]
  exact(f2 b hb).1
 have st3:tn 0 s3.heap:=T.keep _ _ _ st2 λb _ o e=>by rw[h3];exact a7w _ e
 have I4:=aP2 I3 ok hN f3
 have pg:=hg s3 (A6 H2 D (.lst [])) s3.heap.objs.size (cellsFrom (s3.heap.objs.size+1) scope.names (D4 X.env.cells scope.names [])) fp
 have pt:=ht s3 (A6 H2 D (.lst [])) s3.heap.objs.size (cellsFrom (s3.heap.objs.size+1) scope.names (D4 X.env.cells scope.names [])) fp
 have pe:=he s3 (A6 H2 D (.lst [])) s3.heap.objs.size (cellsFrom (s3.heap.objs.size+1) scope.names (D4 X.env.cells scope.names [])) fp
 show codeAny _ _ (.compStart (.ListComp elt [⟨tg,iter,ifs,0⟩] scope pos) 0 (.ref it) (.ref D) (compEnvC scope (cellsFrom (s3.heap.objs.size+1) scope.names (D4 X.env.cells scope.names [])) s3.heap.objs.size X.env)) (compPost (model X.prog X.w) X.A X.xe use Qf (.ref D) s3.heap.objs.size) {s3 with heap:=pushCells (s3.heap.push {cls:= .type "dict",data:= .dict #[]}) scope.names}
 have nfp:∀b∈fp,(A6 H2 D (.lst [])) b=none:=λb hb=>(f3 b hb).1.1
 generalize hce:compEnvC scope (cellsFrom (s3.heap.objs.size+1) scope.names (D4 X.env.cells scope.names [])) s3.heap.objs.size X.env=ce at I4 pg pt pe⊢
 have cL:ce.locals=s3.heap.objs.size:=by subst hce;rfl
 generalize hH3:A6 H2 D (.lst [])=H3 at I3 I4 pg pt pe w0 nfp f3
 generalize hs4:({s3 with heap:=pushCells (s3.heap.push {cls:= .type "dict",data:= .dict #[]}) scope.names}:Shared)=s4 at I4⊢
 have st4:tn 0 s4.heap:=T.keep _ _ _ st3 λb _ o e=>by rw[←hs4];exact pushCells_keeps _ _ _ _ (a7w _ e)
 have stat:∀{σ':St} {H':Hp} {s':Shared},v9 (X.blk s3 H3 scope ce fp) [] σ' H' s'->(∀b∈fp,H' b=none)->∀b∈fp,as9 (X.blk s3 H3 scope ce fp) [] H' b:=λ{σ' H' s'} I' hn b hb=>
  ⟨hn b hb,(I'.ok.exf b hb).1,I'.ok.exfs b hb,.inl hb,λx c e=>(I'.ok.exf b hb).2 x c e,λp hp=>absurd (show p∈([]:List (Addr×Obj))++[]from hp) (by simp)⟩
 have loop:codeAny (model X.prog X.w) X.A (.compLoop (.ListComp elt [⟨tg,iter,ifs,0⟩] scope pos) 0 (.ref it) (.ref D) ce) (compPost (model X.prog X.w) X.A X.xe use Qf (.ref D) s3.heap.objs.size) s4:=by
  refine aJ0 (λn s'=>∃i H',v9 (X.blk s3 H3 scope ce fp) [] (D1 U (own.map (·.2))) H' s'/\tn i s'.heap/\(∀b∈fp,H' b=none)/\W i n H') ?_ m0 ⟨0,H3,I4,st4,nfp,w0⟩
  rintro n s5 ⟨i,H5,I5,st5,n5,w5⟩
  rcases turn i n H5 w5 with⟨stop,qq⟩|⟨go,Nx,hNx,step⟩
  ·have td:=T.done (X.blk s3 H3 scope ce fp) rfl rfl rfl hc i [] s5 _ H5 (λ_ _=>False) I5 (stat I5 n5) st5 stop
   refine a1G td λr s6 ⟨hr,I6⟩=> ?_
   subst hr
   have I7:v9 X a7q U H5 s6:=I3.call' (ch:=fp) I6.os I6.base I6.hok I6.bare λb hb=>⟨(f3 b hb).1.2.2.2.1,(f3 b hb).1.2.1,(f3 b hb).1.2.2.2.2.1,(f3 b hb).1.2.2.2.2.2⟩
   have nC:H5 s3.heap.objs.size=none:=by
    have z:H5 ce.locals=none:=I6.free
    rw[cL]at z
    exact z
   obtain⟨m,hn,_⟩:=I6.loc
   have hn:s6.heap.Ns ce.locals m:=hn
   rw[cL]at hn
   exact hRR D s3.heap.objs.size s6 m H5 I7 qq hn (I3.fpOk (a7A _) nC)
  ·have ti:=T.item (X.blk s3 H3 scope ce fp) rfl rfl rfl hc i [] s5 _ H5 (λ_ _=>False) I5 (stat I5 n5) st5 go
   refine a1G ti λr s6 ⟨u,hr,h6⟩=> ?_
   subst hr
   refine a1G h6 λ_ s7 ⟨x,H7,I7,r7,y7,st7,n7⟩=> ?_
   have I7':=I7.pinned (stat I7 n7) (T.obj _ _ st7)
   refine a1G (pg _ s7 _ H7 x u _ I7' r7 (step x H7 y7)) λ_ s8 ⟨σ8,H8,I8,hw8,q8⟩=> ?_
   refine a1G (pt _ s8 σ8 H8 _ I8 q8) λb s9 ⟨H9,I9,q9⟩=> ?_
   have O3:∀{s':Shared} {H':Hp},v9 (X.blk s3 H3 scope ce fp) ([]++av0 fp s7.heap) σ8 H' s'->Nx H'->∃m,m<n/\∃i H',v9 (X.blk s3 H3 scope ce fp) [] (D1 U (own.map (·.2))) H' s'/\tn i s'.heap/\(∀b∈fp,H' b=none)/\W i m H':=λ{s' H'} I' nx=>by
    obtain⟨m',hm,w'⟩:=hNx H' nx
    have pin':∀b∈fp,∀o,s7.heap.get? b=some o->s'.heap.get? b=some o/\H' b=none:=λb hb o e=>
     let z:=I'.pin (b,o) (a8u _ (a8u _ (ah1 hb e)))
     ⟨z.1,z.2.1⟩
    have hl:(D1 U (own.map (·.2))).length=σ8.length:=by rw[←hw8,ab5]
    refine⟨m',hm,i+1,H',(I'.unpinned (a7q:=[])).weak hl (λj v e=> ?_),T.keep _ _ _ st7 λb hb o e=>(pin' b hb o e).1,λb hb=> ?_,w'⟩
    ·rw[←hw8]at e
     exact(an2 e).1
    ·obtain⟨o,e,_⟩:=T.obj _ _ st7 b hb
     exact(pin' b hb o e).2
   cases b with
   |false=>
    simp only[a8k,if_false]at q9⊢
    exact O3 I9 q9
   |true=>
    simp only[if_true]at q9⊢
    refine a1G (pe _ s9 σ8 H9 _ I9 q9) λz s10 ⟨yv,H10,I10,r10,acc,hD10,hz10,nx⟩=> ?_
    exact a5q (X:=X.blk s3 H3 scope ce fp) I10 hD10 hz10 r10 λs11 I11=>O3 I11 nx
 exact codeAny_compStart_list loop (T.self X.A 0 _ _ _ st4 loop)
theorem R0{elt tg iter:Expr}{ifs:List Expr}{scope:Scope}{own:List (Str×Nat)}{pos:Pos}{wi:TI}{g:TG}{tt:TT}{te:TE}(hc:X.calm=true)(hN:X.N.Nodup)(hi:PI X tg iter wi)(ok:E5 X.N X.env.scope scope own)
 (hg:∀(s:Shared) (H:Hp) (C:Addr) (cl:List (Str×Addr)) (fp:List Addr),PG (X.blk s H scope (compEnvC scope cl C X.env) fp) tg g) (ht:∀(s:Shared) (H:Hp) (C:Addr) (cl:List (Str×Addr)) (fp:List Addr),PTs (X.blk s H scope (compEnvC scope cl C X.env) fp) ifs tt)
 (he:∀(s:Shared) (H:Hp) (C:Addr) (cl:List (Str×Addr)) (fp:List Addr),PE (X.blk s H scope (compEnvC scope cl C X.env) fp) elt te) (hs:∀x,foldedSetIterable iter X.env x=pure x:=by intro _;rfl):
 PE X (.ListComp elt [⟨tg,iter,ifs,0⟩] scope pos) (tLc wi g tt te (own.map (·.2))):=by
 intro a7q s U H Q I h
 rw[eval_ListComp]
 refine a0E hc hN I hi ok hg ht he hs h λD C s' m H' I' q hn f=>⟨m,hn,λh'' sb=> ?_⟩
 obtain⟨f0,f1,f2,f3,f4,f5⟩:=f
 exact⟨.ref D,H',I'.turned (t':=s'.toks) (λb o hb e=>(sb.2 b hb).trans e) f0 f1 f3 f4 f5,rfl,q⟩
theorem L3{i:Nat}{y:Str}{py:Pos}{elt tg iter:Expr}{ifs:List Expr}{scope:Scope}{own:List (Str×Nat)}{pos spos:Pos}{wi:TI}{g:TG}{tt:TT}{te:TE}(hc:X.calm=true)(hN:X.N.Nodup)(hy:X.N[i]? =some y)(hyl:X.env.scope.names.lookup y=some .local)
 (hsw:swapsWith (.ListComp elt [⟨tg,iter,ifs,0⟩] scope pos) (some (.Name y py)) spos.line X.env=pure true) (hi:PI X tg iter wi) (ok:E5 X.N X.env.scope scope own)
 (hg:∀(s:Shared) (H:Hp) (C:Addr) (cl:List (Str×Addr)) (fp:List Addr),PG (X.blk s H scope (compEnvC scope cl C X.env) fp) tg g) (ht:∀(s:Shared) (H:Hp) (C:Addr) (cl:List (Str×Addr)) (fp:List Addr),PTs (X.blk s H scope (compEnvC scope cl C X.env) fp) ifs tt)
 (he:∀(s:Shared) (H:Hp) (C:Addr) (cl:List (Str×Addr)) (fp:List Addr),PE (X.blk s H scope (compEnvC scope cl C X.env) fp) elt te) (hs:∀x,foldedSetIterable iter X.env x=pure x:=by intro _;rfl):
 PS X (.Assign [.Name y py] (.ListComp elt [⟨tg,iter,ifs,0⟩] scope pos) spos) (a5d (tLc wi g tt te (own.map (·.2))) (aj0 i)):=by
 intro a7q s U H D I h
 rw[exec_Assign_Name_used _ _ _ _ hsw]
 refine wpAny_bind (wpAny_standAt (wpAny_bind ?_))
 show wpAny _ X.A (do let _ ←comprehension (.ListComp elt [⟨tg,iter,ifs,0⟩] scope pos) scope X.env (firstIterPos [⟨tg,iter,ifs,0⟩] pos) (newList []) false (eval iter X.env) (some (assign (.Name y py) X.env))) _ _ s
 have h:tLc wi g tt te (own.map (·.2)) U H (λx H1=>aj0 i x U H1 D.nx):=h
 refine wpAny_bind (F8 (a0E (Qf:=λ_ s'=>SP X a7q D .next s') hc hN I hi ok hg ht he hs h λL C s' m H' I' q hn f=> ?_) λ_ s' hq=>wpAny_pure (wpAny_pure hq))
 show wpAny _ _ (assign (.Name y py) X.env (.ref L)) _ _ _
 refine wpAny_assign_Name (aD7 (v:=V.ref L) I' hN hy (.inl hyl) rfl (λs2 I2 ⟨a,sb,ha⟩=> ?_) (.inr hyl))
 obtain⟨f0,f1,f2,f3,f4,f5⟩:=f
 have haC:C≠a:=by
  rcases ha with z|z
  ·rw[z];exact f1
  ·exactλe=>f4 y a z e.symm
 refine⟨m,hn.sameBut sb haC,λh3 sb3=> ?_⟩
 exact⟨_,H',I2.turned (t':=s2.toks) (λb o hb e=>(sb3.2 b hb).trans e) f0 f1 f3 f4 f5,q⟩
end
theorem a2B{lo:Int}{n:Nat}{g:TG}{tt:TT}{te:TE}{vs:List Nat}{U:St}{H1:Hp}{D:Addr}{Qd:Hp->Prop}(Pv:Nat->Hp->Prop)(h0:Pv 0 (A6 H1 D (.lst [])))
 (hs:∀i H,i<n->Pv i H->g (.int (lo+i)) (D1 U vs) H λσ2 H2=>D1 σ2 vs=D1 U vs/\tt σ2 H2 λb H3=>
  if b=true then te σ2 H3 λy H4=>∃acc,H4 D=some (.lst acc)/\acc.length<sizeLine/\Pv (i+1) (A6 H4 D (.lst (acc++[y])))else Pv (i+1) H3) (hd:∀H,Pv n H->Qd H):
 ∃W:Nat->Nat->Hp->Prop,(∃m,W 0 m (A6 H1 D (.lst [])))/\∀i m H,W i m H->
  ((Itr lo n).stop i H/\Qd H)\/((Itr lo n).go i H/\∃Nx:Hp->Prop,(∀H',Nx H'->∃m',m'<m/\W (i+1) m' H')/\∀x H',(Itr lo n).yld i H x H'->g x (D1 U vs) H' λσ2 H2=>D1 σ2 vs=D1 U vs/\tt σ2 H2 λb H3=>
    if b=true then te σ2 H3 λy H4=>∃acc,H4 D=some (.lst acc)/\acc.length<sizeLine/\Nx (A6 H4 D (.lst (acc++[y])))else Nx H3):=by
 refine⟨λi m H=>m=n-i/\i<=n/\Pv i H,⟨n,by simp,a8n _,h0⟩,?_⟩
 rintro i m H ⟨rfl,hi,p⟩
 by_cases hlt:i<n
 ·refine .inr ⟨hlt,Pv (i+1),λH' p'=>⟨n-(i+1),by lia,rfl,hlt,p'⟩,λx H' y=> ?_⟩
  obtain⟨e,y⟩:=y
  subst e y
  exact hs i _ hlt p
 ·have e:i=n:=by lia
  subst e
  exact .inl ⟨a7A _,hd H p⟩
theorem a0F{K:Frag}{a:Addr}{xs:List V}{g:TG}{tt:TT}{te:TE}{vs:List Nat}{U:St}{H1:Hp}{D:Addr}{Qd:Hp->Prop}(Pv:Nat->Hp->Prop)(h0:Pv 0 (A6 H1 D (.lst [])))(hl:∀i H,i<=xs.length->Pv i H->n9 K H a xs)
 (hs:∀i x H,xs[i]? =some x->Pv i H->g x (D1 U vs) H λσ2 H2=>D1 σ2 vs=D1 U vs/\tt σ2 H2 λb H3=>
  if b=true then te σ2 H3 λy H4=>∃acc,H4 D=some (.lst acc)/\acc.length<sizeLine/\Pv (i+1) (A6 H4 D (.lst (acc++[y])))else Pv (i+1) H3) (hd:∀H,Pv xs.length H->Qd H):
 ∃W:Nat->Nat->Hp->Prop,(∃m,W 0 m (A6 H1 D (.lst [])))/\∀i m H,W i m H->
  ((Itl K a).stop i H/\Qd H)\/((Itl K a).go i H/\∃Nx:Hp->Prop,(∀H',Nx H'->∃m',m'<m/\W (i+1) m' H')/\∀x H',(Itl K a).yld i H x H'->g x (D1 U vs) H' λσ2 H2=>D1 σ2 vs=D1 U vs/\tt σ2 H2 λb H3=>
    if b=true then te σ2 H3 λy H4=>∃acc,H4 D=some (.lst acc)/\acc.length<sizeLine/\Nx (A6 H4 D (.lst (acc++[y])))else Nx H3):=by
 refine⟨λi m H=>m=xs.length-i/\i<=xs.length/\Pv i H,⟨xs.length,by simp,a8n _,h0⟩,?_⟩
 rintro i m H ⟨rfl,hi,p⟩
 have q:=hl i H hi p
 by_cases hlt:i<xs.length
 ·refine .inr ⟨⟨xs,xs[i],q,by simp[hlt]⟩,Pv (i+1),λH' p'=>⟨xs.length-(i+1),by lia,rfl,hlt,p'⟩,λx H' y=> ?_⟩
  obtain⟨e,y⟩:=y
  subst e
  exact hs i x _ (y xs q) p
 ·have e:i=xs.length:=by lia
  subst e
  exact .inl ⟨⟨xs,q,a7A _⟩,hd H p⟩
theorem a5r{K:Frag}{a:Addr}{xs:List V}{g:TG}{tt:TT}{te:TE}{vs:List Nat}{U:St}{H1:Hp}{D:Addr}{Qd:Hp->Prop}(Pv:Nat->Hp->Prop)(h0:Pv 0 (A6 H1 D (.lst [])))(hl:∀i H,i<=xs.length->Pv i H->v7 K H a xs)
 (hs:∀i x H,xs[i]? =some x->Pv i H->g x (D1 U vs) H λσ2 H2=>D1 σ2 vs=D1 U vs/\tt σ2 H2 λb H3=>
  if b=true then te σ2 H3 λy H4=>∃acc,H4 D=some (.lst acc)/\acc.length<sizeLine/\Pv (i+1) (A6 H4 D (.lst (acc++[y])))else Pv (i+1) H3) (hd:∀H,Pv xs.length H->Qd H):
 ∃W:Nat->Nat->Hp->Prop,(∃m,W 0 m (A6 H1 D (.lst [])))/\∀i m H,W i m H->
  ((Itt K a).stop i H/\Qd H)\/((Itt K a).go i H/\∃Nx:Hp->Prop,(∀H',Nx H'->∃m',m'<m/\W (i+1) m' H')/\∀x H',(Itt K a).yld i H x H'->g x (D1 U vs) H' λσ2 H2=>D1 σ2 vs=D1 U vs/\tt σ2 H2 λb H3=>
    if b=true then te σ2 H3 λy H4=>∃acc,H4 D=some (.lst acc)/\acc.length<sizeLine/\Nx (A6 H4 D (.lst (acc++[y])))else Nx H3):=by
 refine⟨λi m H=>m=xs.length-i/\i<=xs.length/\Pv i H,⟨xs.length,by simp,a8n _,h0⟩,?_⟩
 rintro i m H ⟨rfl,hi,p⟩
 have q:=hl i H hi p
 by_cases hlt:i<xs.length
 ·refine .inr ⟨⟨xs,xs[i],q,by simp[hlt]⟩,Pv (i+1),λH' p'=>⟨xs.length-(i+1),by lia,rfl,hlt,p'⟩,λx H' y=> ?_⟩
  obtain⟨e,y⟩:=y
  subst e
  exact hs i x _ (y xs q) p
 ·have e:i=xs.length:=by lia
  subst e
  exact .inl ⟨⟨xs,q,a7A _⟩,hd H p⟩
section
variable{κ:Type}[DecidableEq κ]
def J9(kvs:List (κ×V))(k:κ):Option V:=(kvs.find? λkv=>decide (kv.1=k)).map (·.2)
def K4(kvs:List (κ×V))(k:κ)(v:V):List (κ×V):=
 if(kvs.any λkv=>decide (kv.1=k))=true then kvs.map (λkv=>if kv.1=k then(kv.1,v)else kv)else kvs++[(k,v)]
theorem K0{p:κ×V}{r:List (κ×V)}{k:κ}(e:p.1=k):J9 (p::r) k=some p.2:=by simp[J9,a9w,e]
theorem K1{p:κ×V}{r:List (κ×V)}{k:κ}(e:¬p.1=k):J9 (p::r) k=J9 r k:=by simp[J9,a9w,e]
theorem Q6(k:κ):∀kvs:List (κ×V),(kvs.any λkv=>decide (kv.1=k))=(J9 kvs k).isSome
 |[]=>rfl
 |p::r=>by
  rw[a8T]
  by_cases e:p.1=k
  ·simp only[K0 e,decide_eq_true e,Bool.true_or,Option.isSome_some]
  ·rw[K1 e,decide_eq_false e,Bool.false_or];exact Q6 k r
theorem aP3(k j:κ)(y:V):∀kvs:List (κ×V),J9 (kvs.map λkv=>if kv.1=k then(kv.1,y)else kv) j=(J9 kvs j).map λx=>if j=k then y else x
 |[]=>rfl
 |p::r=>by
  have ih:=aP3 k j y r
  rw[a7U]
  by_cases h:p.1=k
  ·rw[if_pos h]
   by_cases e:p.1=j
   ·rw[K0 (p:=(p.1,y)) e,K0 e,Option.map_some,if_pos (e.symm.trans h)]
   ·rw[K1 (p:=(p.1,y)) e,K1 e,ih]
  ·rw[if_neg h]
   by_cases e:p.1=j
   ·rw[K0 (p:=p) e,K0 e,Option.map_some,if_neg (λz=>h (e.trans z))]
   ·rw[K1 (p:=p) e,K1 e,ih]
theorem aE8(k j:κ)(y:V):∀kvs:List (κ×V),J9 kvs k=none->J9 (kvs++[(k,y)]) j=if j=k then some y else J9 kvs j
 |[],_=>by
  by_cases e:k=j
  ·rw[if_pos e.symm];exact K0 (p:=(k,y)) e
  ·rw[if_neg (λz=>e z.symm)];exact K1 (p:=(k,y)) e
 |p::r,hn=>by
  rw[a9b]
  have hk:¬p.1=k:=λz=>by rw[K0 z]at hn;cases hn
  rw[K1 hk]at hn
  have ih:=aE8 k j y r hn
  by_cases e:p.1=j
  ·rw[K0 e,K0 e,if_neg (λz=>hk (e.trans z))]
  ·rw[K1 e,K1 e,ih]
theorem a2C(kvs:List (κ×V))(k j:κ)(y:V):J9 (K4 kvs k y) j=if j=k then some y else J9 kvs j:=by
 unfold K4
 by_cases a:(kvs.any λkv=>decide (kv.1=k))=true
 ·rw[if_pos a,aP3]
  rw[Q6]at a
  by_cases e:j=k
  ·obtain⟨x,hx⟩:=Option.isSome_iff_exists.mp a
   rw[if_pos e,e,hx,Option.map_some,if_pos rfl]
  ·rw[if_neg e]
   cases J9 kvs j with
   |none=>rfl
   |some x=>rw[Option.map_some,if_neg e]
 ·rw[if_neg a]
  refine aE8 k j y kvs ?_
  rw[Q6]at a
  cases q:J9 kvs k with
  |none=>rfl
  |some x=>rw[q]at a;exact(a rfl).elim
theorem U2(kvs:List (κ×V))(k:κ)(v:V):(K4 kvs k v).length<=kvs.length+1:=by
 unfold K4
 split
 ·rw[a7r];lia
 ·rw[a7M,a7O,List.length_nil];lia
theorem aP4{kvs:List (κ×V)}{k:κ}(v:V)(h:J9 kvs k=none):K4 kvs k v=kvs++[(k,v)]:=by
 unfold K4
 rw[Q6,h]
 exact if_neg (by decide)
theorem au4.isSome_eq{o:Option V}{u:Option Value}(r:au4 o u):o.isSome=u.isSome:=by
 cases o with
 |none=>cases u with
  |none=>rfl
  |some _=>exact(show False from r).elim
 |some _=>cases u with
  |none=>exact(show False from r).elim
  |some _=>rfl
theorem KV.val{kvs:List (κ×V)}{vs:List (κ×Value)}(r:KV kvs vs)(k:κ):au4 (J9 kvs k) (valueAt vs k):=by
 unfold KV at r
 induction r with
 |nil=>exact True.intro
 | @cons p q ps qs h t ih=>
   obtain⟨h1,h2⟩:=h
   by_cases e:p.1=k
   ·have e':q.1=k:=h1.symm.trans e
    have b:valueAt (q::qs) k=some q.2:=by simp[valueAt,a9w,e']
    rw[K0 e,b];exact h2
   ·have e':¬q.1=k:=λz=>e (h1.trans z)
    have b:valueAt (q::qs) k=valueAt qs k:=by simp[valueAt,a9w,e']
    rw[K1 e,b];exact ih
theorem KV.any{kvs:List (κ×V)}{vs:List (κ×Value)}(r:KV kvs vs)(k:κ):(kvs.any λkv=>decide (kv.1=k))=vs.any λkv=>decide (kv.1=k):=by
 unfold KV at r
 induction r with
 |nil=>rfl
 |cons h t ih=>rw[a8T,a8T,ih,h.1]
theorem KV.repl{kvs:List (κ×V)}{vs:List (κ×Value)}(r:KV kvs vs)(k:κ){y:V}{u:Value}(ry:B4 y u):
 KV (kvs.map λkv=>if kv.1=k then(kv.1,y)else kv) (vs.map λkv=>if kv.1=k then(kv.1,u)else kv):=by
 unfold KV at r⊢
 induction r with
 |nil=>exact .nil
 | @cons p q ps qs h t ih=>
   rw[a7U,a7U]
   refine .cons ?_ ih
   obtain⟨h1,h2⟩:=h
   by_cases e:p.1=k
   ·rw[if_pos e,if_pos (h1.symm.trans e)];exact⟨h1,ry⟩
   ·rw[if_neg e,if_neg (λz=>e (h1.trans z))];exact⟨h1,h2⟩
theorem KV.put{kvs:List (κ×V)}{vs:List (κ×Value)}(r:KV kvs vs)(k:κ){y:V}{u:Value}(ry:B4 y u):KV (K4 kvs k y) (stored vs k u):=by
 unfold K4 stored
 rw[r.any k]
 by_cases e:(vs.any λkv=>decide (kv.1=k))=true
 ·rw[if_pos e,if_pos e];exact r.repl k ry
 ·rw[if_neg e,if_neg e];exact Paired.snoc r ⟨rfl,ry⟩
theorem KV.length{kvs:List (κ×V)}{vs:List (κ×Value)}(r:KV kvs vs):kvs.length=vs.length:=Paired.length r
end
theorem a0G{P:Program}{w:World}{k:M0}{u:Value}(r:B4 (kV k) u):(C8 P w).is k u=true:=by
 cases k with
 |inl i=>obtain⟨t,e⟩:=(show∃t,u=Value.int i t from r);subst e;exact aN6 P w i t
 |inr x=>obtain⟨t,e⟩:=(show∃t,u=Value.str x t from r);subst e;exact aN7 P w x t
theorem aE9{P:Program}{w:World}:∀{ks:List M0} {us:List Value},y8 (ks.map kV) us->ItemsAre (C8 P w) ks us
 |[],_,r=>by rw[map_nil]at r;cases r;exact .nil
 |k::ks,_,r=>by
  rw[a7U]at r
  cases r with
  |cons h t=>exact .cons (a0G h) (aE9 t)
abbrev KT(H:Hp):List (List M0×V)->List (List M0×Addr×Value)->Prop:=Paired λp q=>p.1=q.1/\H q.2.1=some (.tup (p.1.map kV))/\B4 p.2 q.2.2
theorem KT.val{H:Hp}{kvs:List (List M0×V)}{xs:List (List M0×Addr×Value)}(r:KT H kvs xs)(k:List M0):au4 (J9 kvs k) ((atKey xs k).map (·.2)):=by
 induction r with
 |nil=>exact True.intro
 | @cons p q ps qs h t ih=>
   obtain⟨h1,_,h2⟩:=h
   by_cases e:p.1=k
   ·have e':q.1=k:=h1.symm.trans e
    have b:atKey (q::qs) k=some q.2:=by simp[atKey,a9w,e']
    rw[K0 e,b];exact h2
   ·have e':¬q.1=k:=λz=>e (h1.trans z)
    have b:atKey (q::qs) k=atKey qs k:=by simp[atKey,a9w,e']
    rw[K1 e,b];exact ih
theorem KT.repl{H:Hp}{kvs:List (List M0×V)}{xs:List (List M0×Addr×Value)}(r:KT H kvs xs)(k:List M0){y:V}{u:Value}(ry:B4 y u):
 KT H (kvs.map λkv=>if kv.1=k then(kv.1,y)else kv) (xs.map (putAt k u)):=by
 induction r with
 |nil=>exact .nil
 | @cons p q ps qs h t ih=>
   rw[a7U,a7U]
   refine .cons ?_ ih
   obtain⟨h1,h2,h3⟩:=h
   unfold putAt
   by_cases e:p.1=k
   ·rw[if_pos e,if_pos (h1.symm.trans e)];exact⟨h1,h2,ry⟩
   ·rw[if_neg e,if_neg (λz=>e (h1.trans z))];exact⟨h1,h2,h3⟩
theorem KT.put{H:Hp}{kvs:List (List M0×V)}{xs:List (List M0×Addr×Value)}(r:KT H kvs xs)(k:List M0){b:Addr}{y:V}{u:Value}(hb:H b=some (.tup (k.map kV)))(ry:B4 y u):
 KT H (K4 kvs k y) (storedH xs k b u):=by
 have e:(kvs.any λkv=>decide (kv.1=k))=(atKey xs k).isSome:=by
  rw[Q6,(r.val k).isSome_eq,Option.isSome_map]
 unfold K4 storedH
 rw[e]
 by_cases q:(atKey xs k).isSome=true
 ·rw[if_pos q,if_pos q];exact r.repl k ry
 ·rw[if_neg q,if_neg q];exact Paired.snoc r ⟨rfl,hb,ry⟩
theorem KT.keeps{H H':Hp}{kvs:List (List M0×V)}{xs:List (List M0×Addr×Value)}(r:KT H kvs xs)(ht:∀b ys,H b=some (.tup ys)->H' b=some (.tup ys)):KT H' kvs xs:=
 Paired.mapP r λ_ _ z=>⟨z.1,ht _ _ z.2.1,z.2.2⟩
section
variable{P:Program}{w:World}{H:Hp}{h:Heap}{a:Addr}
theorem a4N{u:HO}(ok:HOk P w H h)(e:Rd H a u):E7 P w H h a u:=e.ok ok
theorem a4O{kvs:List (M0×V)}(ok:HOk P w H h)(e:Rd H a (.dK kvs)):kvs.length<=sizeLine/\(a==sysModules)=false/\∃vs,KV kvs vs/\h.DictOf (C8 P w) a vs:=
 show E7 P w H h a (.dK kvs)from a4N ok e
theorem a6s{kvs:List (M0×V)}(ok:HOk P w H h)(e:H a=some (.dK kvs)):kvs.length<=sizeLine/\(a==sysModules)=false/\∃vs,KV kvs vs/\h.DictOf (C8 P w) a vs:=a4O ok (.inl e)
theorem aW6{ks:List M0}(ok:HOk P w H h)(e:H a=some (.tup (ks.map kV))):(tupleKind (C8 P w)).is h ks a:=by
 obtain⟨_,its,r,o,h1,h2,n,h3⟩:=(show E7 P w H h a (.tup (ks.map kV))from ok a _ e)
 exact⟨o,its.toArray,n,h1,h2,h3,by simpa using aE9 r⟩
theorem a4P{kvs:List (List M0×V)}(ok:HOk P w H h)(e:Rd H a (.dT kvs)):kvs.length<=sizeLine/\(a==sysModules)=false/\
 ∃xs,KT H kvs xs/\h.DictOfH (tupleKind (C8 P w)) a xs:=by
 obtain⟨z,y,xs,r,o,es,ep,h1,h2,h3,h4,h5⟩:=(show E7 P w H h a (.dT kvs)from a4N ok e)
 refine⟨z,y,xs,r,o,es,ep,h1,h2,h3,h4,λx hx=> ?_,h5⟩
 have all:∀{l:List (List M0×V)} {m:List (List M0×Addr×Value)},KT H l m->∀x∈m,(tupleKind (C8 P w)).is h x.1 x.2.1:=by
  intro l m q
  induction q with
  |nil=>intro x hx;exact nomatch hx
  | @cons p q ps qs hq t ih=>
    intro x hx
    rcases a7D.mp hx with e|hx
    ·subst e
     exact aW6 ok (by rw[←hq.1];exact hq.2.1)
    ·exact ih x hx
 exact all r x hx
theorem a6t{kvs:List (List M0×V)}(ok:HOk P w H h)(e:H a=some (.dT kvs)):kvs.length<=sizeLine/\(a==sysModules)=false/\
 ∃xs,KT H kvs xs/\h.DictOfH (tupleKind (C8 P w)) a xs:=a4P ok (.inl e)
end
def aW7(H:Hp)(a:Addr)(y:V)(r:Option V):Prop:=
 (∃kvs k,Rd H a (.dK kvs)/\y=kV k/\r=J9 kvs k)\/∃kvs k b,Rd H a (.dT kvs)/\y= .ref b/\H b=some (.tup (k.map kV))/\r=J9 kvs k
def aC4(H:Hp)(a:Addr)(y v:V)(H':Hp):Prop:=
 (∃kvs k,H a=some (.dK kvs)/\y=kV k/\kvs.length<sizeLine/\H'=A6 H a (.dK (K4 kvs k v)))\/
 ∃kvs k b,H a=some (.dT kvs)/\y= .ref b/\H b=some (.tup (k.map kV))/\kvs.length<sizeLine/\H'=A6 H a (.dT (K4 kvs k v))
theorem aW7.k{H:Hp}{a:Addr}{kvs:List (M0×V)}{k:M0}(e:H a=some (.dK kvs)):aW7 H a (kV k) (J9 kvs k):= .inl ⟨kvs,k,.inl e,rfl,rfl⟩
theorem aC4.k{H:Hp}{a:Addr}{kvs:List (M0×V)}{k:M0}{v:V}(e:H a=some (.dK kvs))(hl:kvs.length<sizeLine):aC4 H a (kV k) v (A6 H a (.dK (K4 kvs k v))):= .inl ⟨kvs,k,e,rfl,hl,rfl⟩
section
variable{X:Cx}{a7q:List (Addr×Obj)}{U:St}{H:Hp}{s:Shared}{a:Addr}{y v:V}{u r:Value}{o:Option V}{A:Around}{E:Value->Shared->Prop}
theorem v9.big(I:v9 X a7q U H s):sysModules<s.heap.objs.size:=by
 have h:mainGlobals<s.heap.objs.size:=(I.mod.glob.keeps I.bk).lt
 exact a84 (by decide) h
theorem a7f{Q:Value->Shared->Prop}(hu:A.units+1<cLine)(I:v9 X a7q U H s)(g:aW7 H a y o)(ry:B4 y u)(h:∀s',v9 X a7q U H s'->Q (.bool o.isSome) s'):
 wpAny (model X.prog X.w) A (compareOp .In u (.ref a)) Q E s:=by
 rcases g with⟨kvs,k,e,ey,l⟩|⟨kvs,k,b,e,ey,eb,l⟩
 ·subst ey
  obtain⟨z,hd,vs,rel,dd⟩:=a4O I.hok e
  refine wpAny_in_of (a0G ry) hd dd.mapOf ?_
  rw[←(rel.val k).isSome_eq,←l]
  exact h _ (I.tok _)
 ·subst ey
  cases(show u=Value.ref b from ry)
  obtain⟨z,hd,xs,rel,dd⟩:=a4P I.hok e
  refine wpAny_in_heap (tupleKind_room_in1 hu) (aW6 I.hok eb) hd dd ?_
  have q:=(rel.val k).isSome_eq
  rw[Option.isSome_map]at q
  rw[←q,←l]
  exact h _ (I.tok _)
theorem aJ1{h':Heap}{t':Nat}{ob:HO}(I:v9 X a7q U H s)(mu:Mut (H a))(hs:a9B a s.heap h')(he:∃q,h'.get? a=some q)(new:E7 X.prog X.w (A6 H a ob) h' a ob):
 v9 X a7q U (A6 H a ob) {s with heap:=h',toks:=t'}:=
 I.write (x:=a) (e:=a) mu (.inl rfl) (λb q hb z=>(hs.2 b hb).trans z) he new
theorem a2D{P:Program}{w:World}{H':Hp}{h':Heap}{kvs:List (M0×V)}{vs:List (M0×Value)}(z:kvs.length<=sizeLine)(hd:(a==sysModules)=false)(rel:KV kvs vs)(dd:h'.DictOf (C8 P w) a vs):
 E7 P w H' h' a (.dK kvs):=⟨z,hd,vs,rel,dd⟩
theorem a1H{H':Hp}{Q:Unit->Shared->Prop}(hu:A.units+1<cLine)(I:v9 X a7q U H s)(g:aC4 H a y v H')(ry:B4 y u)(rv:B4 v r)(h:∀s',v9 X a7q U H' s'->Q () s'):
 wpAny (model X.prog X.w) A (setItem (.ref a) u r) Q E s:=by
 rcases g with⟨kvs,k,e,ey,l,eH⟩|⟨kvs,k,b,e,ey,eb,l,eH⟩
 ·subst ey eH
  obtain⟨z,hd,vs,rel,dd⟩:=a6s I.hok e
  have hz:vs.length<=sizeLine:=by rw[←rel.length];exact z
  have hl:(K4 kvs k v).length<=sizeLine:=by have:=U2 kvs k v;lia
  refine wpAny_setItem_pairs (hsz:=hz) (a0G ry) dd λh' dd' hs=>h _ ?_
  have he:∃q,h'.get? a=some q:=let⟨q,_,_,hq,_⟩:=dd';⟨q,hq⟩
  exact aJ1 I (by rw[e];exact True.intro) hs he (a2D hl hd (rel.put k rv) dd')
 ·subst ey eH
  cases(show u=Value.ref b from ry)
  obtain⟨z,hd,xs,rel,dd⟩:=a6t I.hok e
  have hz:xs.length<=sizeLine:=by rw[←Paired.length rel];exact z
  have hl:(K4 kvs k v).length<=sizeLine:=by have:=U2 kvs k v;lia
  refine wpAny_setItem_heap (hsz:=hz) (tupleKind_room_in1 hu) (aW6 I.hok eb) dd λh' dd' hs=>h _ ?_
  obtain⟨q,es,ep,hq,h2,h3,h4,_,h5⟩:=dd'
  refine aJ1 I (by rw[e];exact True.intro) hs ⟨q,hq⟩ ⟨hl,hd,_,(rel.put k eb rv).keeps λc ys ec=> ?_,q,es,ep,hq,h2,h3,h4,h5⟩
  rw[j6 (B7 ec e (λz=>nomatch z))]
  exact ec
end
def a7g(ty td:TE):TE:=λU H Q=>ty U H λy H1=>td U H1 λx H2=>∃a o,x= .ref a/\aW7 H2 a y o/\Q (.bl o.isSome) H2
def a6u(td ty tv:TE):TS:=λD U H=>tv U H λv H1=>td U H1 λx H2=>ty U H2 λy H3=>∃a H4,x= .ref a/\aC4 H3 a y v H4/\D.nx U H4
section
variable{X:Cx}{o i e value:Expr}{pos pos' tpos:Pos}{td ty tv:TE}
theorem aW8(hu:X.A.units+1<cLine)(hi:PE X i ty)(ho:PE X o td):PC X .In i o (a7g ty td):=by
 intro a7q s U H Q I h
 refine F8 (hi a7q s U H _ I h) λiv s1 ⟨y,H1,I1,ry,q1⟩=>F8 (ho a7q s1 U H1 _ I1 q1) λu s2 ⟨x,H2,I2,rx,a,ov,ex,g,q2⟩=> ?_
 subst ex
 obtain rfl:u=Value.ref a:=rx
 exact a7f hu I2 g ry λs3 I3=>⟨.bl ov.isSome,H2,I3,rfl,q2⟩
theorem aj4(hu:X.A.units+1<cLine)(ho:PE X o td)(hi:PE X i ty)(hv:PE X value tv)(hs:swapsWith value (some (.Subscript o i pos')) pos.line X.env=pure false):
 PS X (.Assign [.Subscript o i pos'] value pos) (a6u td ty tv):=by
 intro a7q s U H D I h
 refine wpAny_Assign_Subscript (F8 (hv a7q s U H _ I h) λr s1 ⟨v,H1,I1,rv,q1⟩=>F8 (ho a7q s1 U H1 _ I1 q1) λu s2 ⟨x,H2,I2,rx,q2⟩=>F8 (hi a7q s2 U H2 _ I2 q2) λiv s3 ⟨y,H3,I3,ry,a,H4,ex,g,q3⟩=> ?_) hs
 subst ex
 obtain rfl:u=Value.ref a:=rx
 exact a1H hu I3 g ry rv λs4 I4=>⟨U,H4,I4,q3⟩
end
theorem a2E{P:Program}{w:World}{H:Hp}(h:Heap)(hb:sysModules<h.objs.size):E7 P w H (h.push {cls:= .type "dict",data:= .dict #[]}) h.objs.size (.dK []):=
 ⟨a8n _,beq_eq_false_iff_ne.mpr (Ne.symm (a7L hb)),[],.nil,Heap.DictOf.new h⟩
def a5s:TE:=λ_ H Q=>∀p,H p=none->Q (.ref p) (A6 H p (.dK []))
section
variable{X:Cx}{pos:Pos}
theorem a2F:PE X (.Dict [] [] pos) a5s:=λa7q s U H Q I h=>
 wpAny_Dict_empty ⟨.ref s.heap.objs.size,_,I.laid (a:=s.heap.objs.size) (o:= .dK []) (t':=s.toks) (λ_ _ q=>a7w _ q) (a7A _) (a2E s.heap I.big),rfl,h _ (I.hok.fresh (a7A _))⟩
end
section
variable{X:Cx}{a7q:List (Addr×Obj)}{U:St}{H:Hp}{s:Shared}{h':Heap}
theorem v9.turnedL{t':Nat}{ch:List Addr}(I:v9 X a7q U H s)(k:∀b o,b∉ch->s.heap.get? b=some o->h'.get? b=some o)(hf:∀b∈ch,as9 X a7q H b):v9 X a7q U H {s with heap:=h',toks:=t'}:=by
 have nit:∀b u,H b=some u->b∉ch:=λb u e z=>by
  have q:=(hf b z).1
  rw[q]at e;cases e
 refine I.step (g':=s.gens) (d':=s.drawn) (ch:=ch) (λb hb=>⟨(hf b hb).2.2.2.1,(hf b hb).2.1,(hf b hb).2.2.2.2.1,(hf b hb).2.2.2.2.2⟩) (λb o _ _ hc e _=>k b o hc e) (λb o _ _ hc e _=>⟨o.slots,k b o hc e⟩)
  (λ_ _ _ _ n=>n) (λb o hc e=>⟨o,k b o hc e⟩) (λ_ _ e=>e) (λ_ _ _ e=>e) (λb ps e=>⟨#[],by rw[e];simp⟩) (λm hm=> ?_) (λb u e=> ?_) I.bare
 ·obtain⟨o,es,ep,ho,r⟩:=hm
  exact⟨o,es,ep,k _ o (λz=>(hf _ z).2.1 rfl) ho,r⟩
 ·refine(I.hok b u e).stay (λc v hc q=>k c v ?_ q) (λ_ q=>q) λ_ _ q=>q
  rcases hc with z|z
  ·rw[z];exact nit b u e
  ·exact nit c _ z
theorem v9.turnedNew{t':Nat}{ch:List Addr}{T:Addr}{ob:HO}(I:v9 X a7q U H s)(k:∀b o,b∉ch->s.heap.get? b=some o->h'.get? b=some o)(hf:∀b∈ch,as9 X a7q H b)(hT:s.heap.objs.size<=T)
 (new:E7 X.prog X.w (A6 H T ob) h' T ob):v9 X a7q U (A6 H T ob) {s with heap:=h',toks:=t'}:=by
 have hn:H T=none:=I.hok.fresh hT
 have nit:∀b u,H b=some u->b∉ch:=λb u e z=>by
  have q:=(hf b z).1
  rw[q]at e;cases e
 refine I.step (g':=s.gens) (d':=s.drawn) (ch:=ch) (λb hb=>⟨(hf b hb).2.2.2.1,(hf b hb).2.1,(hf b hb).2.2.2.2.1,(hf b hb).2.2.2.2.2⟩) (λb o _ _ hc e _=>k b o hc e) (λb o _ _ hc e _=>⟨o.slots,k b o hc e⟩)
  (λb o _ e n=> ?_) (λb o hc e=>⟨o,k b o hc e⟩) (λb xs e=> ?_) (λb o u e=> ?_) (λb ps e=>⟨#[],?_⟩) (λm hm=> ?_) (λb u e=> ?_) I.bare
 ·rw[j6 (a7L (a7Y (a7I e) hT))];exact n
 ·rw[j6 (j0 e hn)];exact e
 ·rw[j6 (j0 e hn)];exact e
 ·rw[j6 (j0 e hn),e];simp
 ·obtain⟨o,es,ep,ho,r⟩:=hm
  exact⟨o,es,ep,k _ o (λz=>(hf _ z).2.1 rfl) ho,r⟩
 ·by_cases hb:b=T
  ·subst hb
   rw[i8]at e
   cases e
   exact new
  ·rw[j6 hb]at e
   refine(I.hok b u e).stay (λc v hc q=>k c v ?_ q) (λc q=>by rw[j6 (j0 q hn)];exact q) λc xs q=>by rw[j6 (j0 q hn)];exact q
   rcases hc with z|z
   ·rw[z];exact nit b u e
   ·exact nit c _ z
end
def Ite(K:Frag)(a:Addr):It:=
 ⟨λi H=>∃(xs:List V) (x:V),n9 K H a xs/\xs[i]? =some x,λi H v H'=>∃T x,v= .ref T/\H T=none/\H'=A6 H T (.tup [.int (i:Nat),x])/\∀xs,n9 K H a xs->xs[i]? =some x,λi H=>∃xs:List V,n9 K H a xs/\xs.length<=i⟩
theorem a1I{P:Program}{w:World}{K:Frag}{elts:List Expr}{kk:Nat}{tpos:Pos}(a e it:Addr):
 aV5 P w K (.Tuple elts kk tpos) (Ite K a) [e,it] e (λi h=>(∃old,IsEnum h e it ((i:Nat):Int) old)/\h.IsListIter it a i/\e≠it)where
 mem:=by simp
 obj:=λi h st b hb=>by
  obtain⟨⟨old,he⟩,⟨o,ho,hc,hd⟩,_⟩:=st
  have e':b=e\/b=it:=by simpa using hb
  rcases e' with z|z
  ·rw[z];exact⟨_,he,λv q=>nomatch q⟩
  ·rw[z];exact⟨o,ho,λv q=>by rw[hd]at q;cases q⟩
 keep:=λi h h' st k=>let⟨⟨old,he⟩,hi,hne⟩:=st;⟨⟨old,k e (by simp) _ he⟩,hi.at λo q=>k it (by simp) o q,hne⟩
 item:=by
  intro X hP hw hK hc i a7q s U H E I hf st hg
  subst hP hw hK
  obtain⟨⟨old,he⟩,hit,hne⟩:=st
  obtain⟨xs,x,hq,hx⟩:=hg
  obtain⟨its,rv,p,hz⟩:=I.list hq
  obtain⟨u,hu,ru⟩:=rv.get hx
  have hel:e<s.heap.objs.size:=a7I he
  have hil:it<s.heap.objs.size:=by obtain⟨_,q,_⟩:=hit;exact a7I q
  refine wpAny_pyNext_enum_item he hit p.isList (x:=u) (by simpa using hu) hne λh' ho hit' hT hsz hk=> ?_
  refine⟨_,rfl,wpAny_letOwnedTupleGo_enum (s:={s with heap:=h',toks:=s.toks+1}) ho λh'' he' sb=> ?_⟩
  have hT2:h''.get? s.heap.objs.size=some {cls:= .type "tuple",data:= .seq #[.int i s.toks,u]}:=(sb.2 _ (a8O hel)).trans hT
  have new:E7 X.prog X.w (A6 H s.heap.objs.size (.tup [.int (i:Nat),x])) h'' s.heap.objs.size (.tup [.int (i:Nat),x]):=
   ⟨by show 2<=sizeLine;decide,[.int i s.toks,u],.cons ⟨_,rfl⟩ (.cons ru .nil),⟨_,hT2,rfl,_,rfl⟩⟩
  have I1:v9 X a7q U (A6 H s.heap.objs.size (.tup [.int (i:Nat),x])) {s with heap:=h'',toks:=s.toks+1}:=
   I.turnedNew (ch:=[e,it]) (λb ob hb q=>(sb.2 b (λz=>hb (by simp[z]))).trans (hk b ob (λz=>hb (by simp[z])) (λz=>hb (by simp[z])) q)) hf (a7A _) new
  refine⟨.ref s.heap.objs.size,_,I1,rfl,⟨_,x,rfl,I.hok.fresh (a7A _),rfl,λys hy=>by rw[I.list_inj hy hq];exact hx⟩,⟨⟨u,?_⟩,hit'.at λo q=>(sb.2 it (Ne.symm hne)).trans q,hne⟩,λb hb=> ?_⟩
  ·have e1:((i+1:Nat):Int)=(i:Int)+1:=by lia
   rw[e1];exact he'
  ·have hb':b<s.heap.objs.size:=by
    have e':b=e\/b=it:=by simpa using hb
    rcases e' with z|z
    ·rw[z];exact hel
    ·rw[z];exact hil
   rw[j6 (a7L hb')]
   exact(hf b hb).1
 done:=by
  intro X hP hw hK hc i a7q s U H E I hf st hg
  subst hP hw hK
  obtain⟨⟨old,he⟩,hit,hne⟩:=st
  obtain⟨xs,hq,hx⟩:=hg
  obtain⟨its,rv,p,hz⟩:=I.list hq
  obtain⟨f0,f1,f2,f3,f4,f5⟩:=hf it (by simp)
  have hl:=rv.length
  exact wpAny_pyNext_enum_end (I.ok.hd hc) he hit p.isList (by simp;lia) λh' eb=>⟨rfl,I.turned (t':=s.toks) (λb o hb q=>eb b o hb q) f0 f1 f3 f4 f5⟩
 self:=λA i s Q E st h=>let⟨⟨_,he⟩,_⟩:=st;wpAny_pyIter_enum he h
def a6v(K:Frag)(ta:TA):TI:=λU H R=>ta U H λvs H1=>∃a xs,vs=[.ref a]/\n9 K H1 a xs/\R (Ite K a) H1
theorem aJ2{X:Cx}{e:Expr}{ta:TA}{p pos tpos:Pos}{elts:List Expr}{kk:Nat}(hg:Gl X "enumerate")(hm:X.mg "enumerate"=none)(ha:PA X [e] ta)(hs:starEach [e] X.env=[(false,eval e X.env)]:=by rfl):
 PI X (.Tuple elts kk tpos) (.Call (.Name "enumerate" p) [e] [] pos) (a6v X.K ta):=by
 intro a7q s U H R I h
 refine Call_ (X9 I hg hm boot_enumerate (PyProof.Rows.callWith_type1 (F8 (ha pos a7q s U H _ I h) λus s1 ⟨vs,H1,I1,r1,q1⟩=> ?_) hs rfl))
 obtain⟨a,xs,ex,hq,q⟩:=q1
 subst ex
 cases r1 with
 |cons r rr=>
  cases rr
  cases r
  obtain⟨its,rv,p',hz⟩:=I1.list hq
  refine call_enumerate_list p'.isList λh' he hit hsz hk=>wpAny_pyIter_enum he ?_
  have I2:v9 X a7q U H1 {s1 with heap:=h'}:=I1.kept (t':=s1.toks) hk
  refine⟨s1.heap.objs.size+1,[s1.heap.objs.size+1,s1.heap.objs.size],_,_,H1,rfl,I2,a1I a (s1.heap.objs.size+1) s1.heap.objs.size,⟨⟨.none,he⟩,hit,Nat.succ_ne_self _⟩,λb hb=> ?_,q⟩
  have e':b=s1.heap.objs.size+1\/b=s1.heap.objs.size:=by simpa using hb
  have hle:s1.heap.objs.size<=b:=by
   rcases e' with z|z
   ·rw[z];exact a8M _ _
   ·rw[z];exact a7A _
  exact I1.fpOk hle (I1.hok.fresh hle)
theorem an3:bootBuiltins "zip"=some (.type "zip"):=by decide+kernel
def Itz(K:Frag)(a b:Addr):It:=
 ⟨λi H=>∃(xs ys:List V) (x y:V),n9 K H a xs/\n9 K H b ys/\xs[i]? =some x/\ys[i]? =some y,
  λi H v H'=>∃T x y,v= .ref T/\H T=none/\H'=A6 H T (.tup [x,y])/\(∀xs,n9 K H a xs->xs[i]? =some x)/\∀ys,n9 K H b ys->ys[i]? =some y,
  λi H=>∃xs ys:List V,n9 K H a xs/\n9 K H b ys/\(xs.length<=i\/ys.length<=i)⟩
theorem a2G{P:Program}{w:World}{K:Frag}{elts:List Expr}{kk:Nat}{tpos:Pos}{a b z TI TO i1 i2:Addr}(D:ZipApart z TI TO i1 i2 a b):
 aV5 P w K (.Tuple elts kk tpos) (Itz K a b) [z,TI,TO,i1,i2] z (λi h=>IsZip h z TI TO .none/\IsPair h TI (.ref i1) (.ref i2)/\(∃x y,IsPair h TO x y)/\h.IsListIter i1 a i/\h.IsListIter i2 b i)where
 mem:=by simp
 obj:=λi h st c hc=>by
  obtain⟨hz,hTI,⟨x,y,hTO⟩,⟨o1,e1,_,d1⟩,⟨o2,e2,_,d2⟩⟩:=st
  have e':c=z\/c=TI\/c=TO\/c=i1\/c=i2:=by simpa using hc
  rcases e' with q|q|q|q|q
  ·rw[q];exact⟨_,hz,λv q=>nomatch q⟩
  ·rw[q];exact⟨_,hTI,λv q=>nomatch q⟩
  ·rw[q];exact⟨_,hTO,λv q=>nomatch q⟩
  ·rw[q];exact⟨o1,e1,λv q=>by rw[d1]at q;cases q⟩
  ·rw[q];exact⟨o2,e2,λv q=>by rw[d2]at q;cases q⟩
 keep:=λi h h' st k=>by
  obtain⟨hz,hTI,⟨x,y,hTO⟩,h1,h2⟩:=st
  exact⟨k z (by simp) _ hz,k TI (by simp) _ hTI,⟨x,y,k TO (by simp) _ hTO⟩,h1.at λo q=>k i1 (by simp) o q,h2.at λo q=>k i2 (by simp) o q⟩
 item:=by
  intro X hP hw hK hc i a7q s U H E I hf st hg
  subst hP hw hK
  obtain⟨hz,hTI,⟨x0,y0,hTO⟩,h1,h2⟩:=st
  obtain⟨xs,ys,x,y,hqx,hqy,hx,hy⟩:=hg
  obtain⟨its,rv,p,_⟩:=I.list hqx
  obtain⟨its2,rv2,p2,_⟩:=I.list hqy
  obtain⟨u,hu,ru⟩:=rv.get hx
  obtain⟨u2,hu2,ru2⟩:=rv2.get hy
  have hzl:z<s.heap.objs.size:=a7I hz
  refine wpAny_pyNext_zip_item D hz hTI hTO h1 h2 p.isList p2.isList (x:=u) (y:=u2) (by simpa using hu) (by simpa using hu2) λh' z' TO' h1' h2' hT hsz hk=> ?_
  refine⟨_,rfl,wpAny_letOwnedTupleGo_zip (s:={s with heap:=h'}) z' λh'' z'' sb=> ?_⟩
  have hT2:h''.get? s.heap.objs.size=some {cls:= .type "tuple",data:= .seq #[u,u2]}:=(sb.2 _ (a8O hzl)).trans hT
  have new:E7 X.prog X.w (A6 H s.heap.objs.size (.tup [x,y])) h'' s.heap.objs.size (.tup [x,y]):=
   ⟨by show 2<=sizeLine;decide,[u,u2],.cons ru (.cons ru2 .nil),⟨_,hT2,rfl,_,rfl⟩⟩
  have I1:v9 X a7q U (A6 H s.heap.objs.size (.tup [x,y])) {s with heap:=h''}:=
   I.turnedNew (t':=s.toks) (ch:=[z,TI,TO,i1,i2]) (λc o hb q=>(sb.2 c (λq'=>hb (by simp[q']))).trans (hk c o (λq'=>hb (by simp[q'])) (λq'=>hb (by simp[q'])) (λq'=>hb (by simp[q'])) (λq'=>hb (by simp[q'])) q)) hf (a7A _) new
  refine⟨.ref s.heap.objs.size,_,I1,rfl,⟨_,x,y,rfl,I.hok.fresh (a7A _),rfl,λl hl=>by rw[I.list_inj hl hqx];exact hx,λl hl=>by rw[I.list_inj hl hqy];exact hy⟩,⟨z'',?_,⟨u,u2,?_⟩,?_,?_⟩,λc hcm=> ?_⟩
  ·exact(sb.2 _ D.TIz).trans (hk _ _ D.TIz D.TITO D.TIi1 D.TIi2 hTI)
  ·exact(sb.2 _ D.TOz).trans TO'
  ·exact h1'.at λo q=>(sb.2 _ D.i1z).trans q
  ·exact h2'.at λo q=>(sb.2 _ D.i2z).trans q
  ·have hlt:c<s.heap.objs.size:=by
    have e':c=z\/c=TI\/c=TO\/c=i1\/c=i2:=by simpa using hcm
    rcases e' with q|q|q|q|q
    ·rw[q];exact hzl
    ·rw[q];exact a7I hTI
    ·rw[q];exact a7I hTO
    ·rw[q];obtain⟨_,e1,_⟩:=h1;exact a7I e1
    ·rw[q];obtain⟨_,e2,_⟩:=h2;exact a7I e2
   rw[j6 (a7L hlt)]
   exact(hf c hcm).1
 done:=by
  intro X hP hw hK hc i a7q s U H E I hf st hg
  subst hP hw hK
  obtain⟨hz,hTI,⟨x0,y0,hTO⟩,h1,h2⟩:=st
  obtain⟨xs,ys,hqx,hqy,hend⟩:=hg
  obtain⟨its,rv,p,_⟩:=I.list hqx
  obtain⟨its2,rv2,p2,_⟩:=I.list hqy
  have l1:=rv.length
  have l2:=rv2.length
  have he:its.toArray[i]? =none\/its2.toArray[i]? =none:=by
   rcases hend with q|q
   ·exact .inl (by simp;lia)
   ·exact .inr (by simp;lia)
  exact wpAny_pyNext_zip_end (I.ok.hd hc) D hz hTI hTO h1 h2 p.isList p2.isList he λh' hk=>⟨rfl,I.turnedL (t':=s.toks) (ch:=[z,TI,TO,i1,i2]) (λc o hb q=>
   hk c o (λq'=>hb (by simp[q'])) (λq'=>hb (by simp[q'])) (λq'=>hb (by simp[q'])) (λq'=>hb (by simp[q'])) q) hf⟩
 self:=λA i s Q E st h=>wpAny_pyIter_zip st.1 h
def a7h(K:Frag)(ta:TA):TI:=λU H R=>ta U H λvs H1=>∃a b xs ys,vs=[.ref a,.ref b]/\n9 K H1 a xs/\n9 K H1 b ys/\R (Itz K a b) H1
theorem aW9{X:Cx}{e e2:Expr}{ta:TA}{p pos tpos:Pos}{elts:List Expr}{kk:Nat}(hg:Gl X "zip")(hm:X.mg "zip"=none)(ha:PA X [e,e2] ta)
 (hs:starEach [e,e2] X.env=(false,eval e X.env)::starEach [e2] X.env:=by rfl) (hpl:(backTo pos (starEach [e2] X.env)).any (·.1)=false:=by rfl):
 PI X (.Tuple elts kk tpos) (.Call (.Name "zip" p) [e,e2] [] pos) (a7h X.K ta):=by
 intro a7q s U H R I h
 refine Call_ (X9 I hg hm an3 (PyProof.Rows.callWith_type1 (F8 (ha pos a7q s U H _ I h) λus s1 ⟨vs,H1,I1,r1,q1⟩=> ?_) hs hpl))
 obtain⟨a,b,xs,ys,ex,hqx,hqy,q⟩:=q1
 subst ex
 cases r1 with
 |cons r rr=>
  cases rr with
  |cons r' rr=>
   cases rr
   cases r
   cases r'
   obtain⟨its,rv,p1,_⟩:=I1.list hqx
   obtain⟨its2,rv2,p2,_⟩:=I1.list hqy
   have la:a<s1.heap.objs.size:=p1.lt
   have lb:b<s1.heap.objs.size:=p2.lt
   refine call_zip_2 p1.isList p2.isList λh' hz hTI hTO h1 h2 hsz hk=>wpAny_pyIter_zip hz ?_
   have I2:v9 X a7q U H1 {s1 with heap:=h'}:=I1.kept (t':=s1.toks) hk
   refine⟨s1.heap.objs.size+4,[s1.heap.objs.size+4,s1.heap.objs.size+2,s1.heap.objs.size+3,s1.heap.objs.size,s1.heap.objs.size+1],_,_,H1,rfl,I2,a2G (PySem.W.ktu_apart s1.heap.objs.size a b la lb),⟨hz,hTI,⟨_,_,hTO⟩,h1,h2⟩,λc hcm=> ?_,q⟩
   have e':c=s1.heap.objs.size+4\/c=s1.heap.objs.size+2\/c=s1.heap.objs.size+3\/c=s1.heap.objs.size\/c=s1.heap.objs.size+1:=by simpa using hcm
   have hle:s1.heap.objs.size<=c:=by
    rcases e' with z|z|z|z|z
    ·rw[z];exact a8M _ _
    ·rw[z];exact a8M _ _
    ·rw[z];exact a8M _ _
    ·rw[z];exact a7A _
    ·rw[z];exact a8M _ _
   exact I1.fpOk hle (I1.hok.fresh hle)
end L2
section
namespace TL
open PySem PySem.Builtin PySem.Builtin.Str PySem.StrLaws
abbrev tl(x:Str):List Nat:=x.cps.toList
def pre(S l:List Nat):Bool:=l.take S.length==S
def par(S:List Nat):List Nat->List Nat->Option (List Nat×List Nat)
 |_,[]=>none
 |acc,c::r=>if pre S (c::r)=true then some (acc,(c::r).drop S.length)else par S (acc++[c]) r
end TL
end
namespace L2
open PySem PySem.Spec PyProof.Rows
def a0H(s:Stmt)(j:Nat):Stmt:=match s with
 | .ClassDef _ _ _ body _ _ _ _ _ _ _=>body.getD j (.Pass ⟨0,0,0,0⟩)
 |_=> .Pass ⟨0,0,0,0⟩
def af2(s:Stmt):Arguments:=match s with
 | .FunctionDef _ a _ _ _ _ _ _ _ _=>a
 |_=>{posonlyargs:=[],args:=[],vararg:=none,kwonlyargs:=[],kw_defaults:=[],kwarg:=none,defaults:=[]}
def Y4(s:Stmt):List Stmt:=match s with
 | .FunctionDef _ _ b _ _ _ _ _ _ _=>b
 |_=>[]
def g9(s:Stmt):Scope:=match s with
 | .FunctionDef _ _ _ _ _ _ sc _ _ _=>sc
 |_=>{kind:= .function,names:=[],isGenerator:=false,isCoroutine:=false}
abbrev M2:CXT:=λ_ _ _ _ _ _=>False
abbrev E0:XK:=λ_ _ _=>False
theorem a0I{X:Cx}:am9 M2 X E0:=λ_ _ _ _ _ _ _ h=>h.elim
structure M3(K:Frag)(x qual:Str)(st:Stmt)(f:Addr)(fd:FuncData):Prop where
 ex:∃(oc:Value) (od:Option Addr) (kV doc pm:Value) (an:Option Addr) (cdv ct:Value) (osl:Array (Option Value)),
  fd=a9C x qual (af2 st) (Y4 st) (g9 st) .none kV doc pm an cdv ct/\K.lookup f=some ⟨oc,od,.func fd,osl⟩/\a9U K cdv qual=true
 kp:a80 K (.ref f)=true
section
variable{P:Program}{w:World}{K:Frag}{mg:Str->Option Value}{base:Heap}
theorem M3.ok{x qual:Str}{st:Stmt}{f:Addr}{fd:FuncData}{N ps:List Str}{k:Nat}{sp:Sp}(F:M3 K x qual st f fd)(S:n8 N ps (g9 st))(len:∀vs H Q E,sp vs H Q E->vs.length=ps.length)
 (hbody:∀(cdv:Value) (A:Around) (outer:List Env) (s:Shared) (H:Hp) (vs:List V) (Q:VK) (E:XK),N6 k (A.deeper (envOfC qual (g9 st) s.heap.objs.size f cdv))->sp vs H Q E->
  ∃t,PSs (a1A M2 P w K mg base N qual (g9 st) f cdv A outer s H E).nox (Y4 st) t/\t {nx:=λ_ H'=>Q .non H',rt:=Q} (start N vs) H):A7 P w K mg base M2 (k+1) f fd ps sp:=by
 obtain⟨oc,od,kV,doc,pm,an,cdv,ct,osl,rfl,lk,hcd⟩:=F.ex
 refine a6n lk hcd S len λA outer s H vs Q E hr hsp=> ?_
 obtain⟨t,h,q⟩:=hbody cdv A outer s H vs Q E hr hsp
 exact⟨t,h.nox,q⟩
theorem M3.binds{x qual:Str}{st:Stmt}{f:Addr}{fd:FuncData}{ps:List Str}(F:M3 K x qual st f fd)
 (h:∀(kV doc pm:Value) (an:Option Addr) (cdv ct:Value) (us:List Value),us.length=ps.length->bindArgs (a9C x qual (af2 st) (Y4 st) (g9 st) .none kV doc pm an cdv ct) ⟨us,[]⟩=pure (ps.zip us)):U0 K fd ps []:=by
 obtain⟨oc,od,kV,doc,pm,an,cdv,ct,osl,rfl,lk,hcd⟩:=F.ex
 exact .all (h kV doc pm an cdv ct)
theorem a2H{x qual:Str}{st:Stmt}{f:Addr}{oc:Value}{od an:Option Addr}{osl:Array (Option Value)}{kV doc pm cdv ct:Value}(l:K.lookup f=some ⟨oc,od,.func (a9C x qual (af2 st) (Y4 st) (g9 st) .none kV doc pm an cdv ct),osl⟩)
 (c:a9U K cdv qual=true) (k:a80 K (.ref f)=true):M3 K x qual st f (a9C x qual (af2 st) (Y4 st) (g9 st) .none kV doc pm an cdv ct):=⟨⟨oc,od,kV,doc,pm,an,cdv,ct,osl,rfl,l,c⟩,k⟩
end
theorem aq1{A:Around}{k:Nat}(hr:N6 k A):A.units+1<cLine:=a8l (Nat.add_le_add_left (by decide:1<=64) _) hr.units
section
variable{X:Cx}
theorem pv(i:Nat){x:Str}{pos:Pos}(hN:X.N[i]? =some x:=by rfl)(hv:Vis X.env.scope x:=by first|exact Or.inl rfl|exact Or.inr (Or.inl rfl)|exact Or.inr (Or.inr rfl))(hd:(x==("__debug__":Str))=false:=by decide)
 (hcd:(x==("__classdict__":Str))=false:=by decide):PE X (.Name x pos) (a6a i):=a46 hN hv hd hcd
end
theorem D9{A B:Prop}(h:B):if false=true then A else B:=by
 rw[if_neg a7Z]
 exact h
theorem B3{A B:Prop}(h:A):if true=true then A else B:=by
 rw[if_pos rfl]
 exact h
theorem z8{c A B:Prop}[Decidable c](h1:c->A)(h2:¬c->B):if c then A else B:=by
 by_cases h:c
 ·rw[if_pos h]
  exact h1 h
 ·rw[if_neg h]
  exact h2 h
theorem a4Q{c A B:Prop}[Decidable c](hc:c)(h:B):if(!decide c)=true then A else B:=by
 rw[decide_eq_true hc]
 exact D9 h
def f9(H H':Hp):Prop:=∀b o,H b=some o->H' b=some o
theorem f9.refl(H:Hp):f9 H H:=λ_ _ h=>h
theorem f9.trans{H H1 H2:Hp}(a:f9 H H1)(b:f9 H1 H2):f9 H H2:=λc o h=>b c o (a c o h)
theorem f9.free{H H':Hp}(e:f9 H H'){l:Addr}(h:H' l=Option.none):H l=Option.none:=by
 cases q:H l with
 |none=>rfl
 |some o=>
  rw[e l o q]at h
  cases h
theorem f9.seq{K:Frag}{H H':Hp}{a:Addr}{xs:List V}(e:f9 H H')(h:n9 K H a xs):n9 K H' a xs:=by
 rcases h with(h|⟨o,h⟩)|h
 ·exact .inl (.inl (e _ _ h))
 ·exact .inl (.inr ⟨o,e _ _ h⟩)
 ·exact .inr h
section
variable{κ:Type}[DecidableEq κ]
theorem a2I{kvs:List (κ×V)}{k:κ}(h:J9 kvs k=none):¬k∈kvs.map (·.1):=by
 intro m
 obtain⟨p,hp,e⟩:=a8j.mp m
 have q:(kvs.any λkv=>decide (kv.1=k))=true:=a9p.mpr ⟨p,hp,decide_eq_true e⟩
 rw[Q6,h]at q
 exact absurd q (by simp)
theorem a35{kvs:List (κ×V)}{k:κ}{v:V}(h:J9 kvs k=some v):k∈kvs.map (·.1):=by
 have q:(kvs.any λkv=>decide (kv.1=k))=true:=by
  rw[Q6,h]
  all_goals rfl
 obtain⟨p,hp,e⟩:=a9p.mp q
 exact a8j.mpr ⟨p,hp,of_decide_eq_true e⟩
end
theorem a2J{xs:List V}{z:Int}{j:Nat}{v:V}(e:z=(j:Int))(h:xs[j]? =some v):atI xs z=some v:=by
 rw[e]
 exact z7 h
theorem a2K{α:Type}{l:List α}(hN:l.Nodup){i j:Nat}{x:α}(a:l[i]? =some x)(b:l[j]? =some x):i=j:=by
 obtain⟨h1,e1⟩:=a7x.mp a
 obtain⟨h2,e2⟩:=a7x.mp b
 exact(getElem_inj hN).mp (e1.trans e2.symm)
end L2
namespace L2
open PySem PySem.Spec PyProof.Rows
open PySem.W (WData Codec OpenSpec Well WellAll ReadsW ReadsAllW)
mutual
inductive Dw(K:Frag)(H:Hp):V->WData->Prop
 |non:Dw K H .non .none
 |bl (b:Bool):Dw K H (.bl b) (.bool b)
 |int (i:Int):Dw K H (.int i) (.int i)
 |str (x:Str):Dw K H (.str x) (.str x)
 |byt (b:Array UInt8):Dw K H (.byt b) (.bytes b.toList)
 |lst {a:Addr} {xs:List V} {ds:List WData}:n9 K H a xs->aa2 K H xs ds->Dw K H (.ref a) (.list ds)
 |tup {a:Addr} {xs:List V} {ds:List WData}:v7 K H a xs->aa2 K H xs ds->Dw K H (.ref a) (.tuple ds)
inductive aa2(K:Frag)(H:Hp):List V->List WData->Prop
 |nil:aa2 K H [] []
 |cons {v:V} {vs:List V} {d:WData} {ds:List WData}:Dw K H v d->aa2 K H vs ds->aa2 K H (v::vs) (d::ds)
end
theorem a0J{K:Frag}{H:Hp}:∀ns:List Int,aa2 K H (ns.map V.int) (ns.map WData.int)
 |[]=> .nil
 |n::r=> .cons (.int n) (a0J r)
theorem a0K{K:Frag}{H:Hp}:∀(ns:List Int) (xs:List V),aa2 K H xs (ns.map WData.int)->xs=ns.map V.int
 |[],xs,h=>by
  cases h
  rfl
 |n::r,xs,h=>by
  cases h with
  |cons h1 h2=>
   cases h1
   rw[a0K r _ h2]<;>rfl
section
variable{P:Program}{w:World}{K:Frag}{H:Hp}{h:Heap}{R:PySem.W.WRecords}{cl:Str->Option Addr}
theorem a5t{a:Addr}{xs:List V}(hok:HOk P w H h)(KX:K.In h)(q:n9 K H a xs):∃(its:List Value) (o:Obj) (n:Nat),y8 xs its/\h.get? a=some o/\o.cls= .type "list"/\o.data= .seq its.toArray n:=by
 rcases q with q|⟨o,its,n,e,hc,_,hd,_,hv⟩
 ·obtain⟨_,its,n,hv,e⟩:=(show E7 P w H h a (.lst xs)from q.ok hok)
  exact⟨its,_,n,hv,e,rfl,rfl⟩
 ·exact⟨its.toList,o,n,hv,KX _ _ e,hc,by simp[hd]⟩
theorem a5u{a:Addr}{xs:List V}(hok:HOk P w H h)(KX:K.In h)(q:v7 K H a xs):∃(its:List Value) (o:Obj) (n:Nat),y8 xs its/\h.get? a=some o/\o.cls= .type "tuple"/\o.data= .seq its.toArray n:=by
 rcases q with q|⟨o,its,n,e,hc,hd,_,hv⟩
 ·obtain⟨_,its,hv,o,e,hc,n,hd⟩:=(show E7 P w H h a (.tup xs)from q.ok hok)
  exact⟨its,o,n,hv,e,hc,hd⟩
 ·exact⟨its.toList,o,n,hv,KX _ _ e,hc,by simp[hd]⟩
mutual
theorem Dw.reads(hok:HOk P w H h)(KX:K.In h):∀(d:WData) (v:V) (u:Value),Dw K H v d->B4 v u->∃as,ReadsW R cl h u d as
 | .none,_,_,x,r=>by
   cases x
   cases r
   exact⟨_,ReadsW.none⟩
 | .bool b,_,_,x,r=>by
   cases x
   cases r
   exact⟨_,ReadsW.bool b⟩
 | .int i,_,_,x,r=>by
   cases x
   obtain⟨t,rfl⟩:=r
   exact⟨_,ReadsW.int i t⟩
 | .str s,_,_,x,r=>by
   cases x
   obtain⟨t,rfl⟩:=r
   exact⟨_,ReadsW.str s t⟩
 | .bytes b,_,_,x,r=>by
   cases x
   obtain⟨t,rfl⟩:=r
   exact⟨_,ReadsW.bytes _ t⟩
 | .list ds,_,_,x,r=>by
   cases x with
   |lst hs ha=>
    cases r
    obtain⟨its,o,n,rv,ho,hc,hd⟩:=a5t hok KX hs
    obtain⟨as,hr⟩:=Dw.readsAll hok KX ds _ its ha rv
    exact⟨_,ReadsW.list ho hc hd hr⟩
 | .tuple ds,_,_,x,r=>by
   cases x with
   |tup hs ha=>
    cases r
    obtain⟨its,o,n,rv,ho,hc,hd⟩:=a5u hok KX hs
    obtain⟨as,hr⟩:=Dw.readsAll hok KX ds _ its ha rv
    exact⟨_,ReadsW.tuple ho hc hd hr⟩
 | .float _,_,_,x,_=>by cases x
 | .dict _,_,_,x,_=>by cases x
 | .bytearray _,_,_,x,_=>by cases x
 | .set _,_,_,x,_=>by cases x
 | .frozenset _,_,_,x,_=>by cases x
 | .obj _ _,_,_,x,_=>by cases x
theorem Dw.readsAll(hok:HOk P w H h)(KX:K.In h):∀(ds:List WData) (vs:List V) (us:List Value),aa2 K H vs ds->y8 vs us->∃as,ReadsAllW R cl h us ds as
 |[],_,_,x,r=>by
  cases x
  cases r
  exact⟨_,ReadsAllW.nil⟩
 |d::ds,_,_,x,r=>by
  cases x with
  |cons h1 h2=>
   cases r with
   |cons r1 r2=>
    obtain⟨as,q1⟩:=Dw.reads hok KX d _ _ h1 r1
    obtain⟨bs,q2⟩:=Dw.readsAll hok KX ds _ _ h2 r2
    exact⟨_,ReadsAllW.cons q1 q2⟩
end
end
mutual
def plW:WData->Bool
 | .none=>true
 | .bool _=>true
 | .int _=>true
 | .str _=>true
 | .bytes _=>true
 | .list xs=>at0 xs
 | .tuple xs=>at0 xs
 |_=>false
def at0:List WData->Bool
 |[]=>true
 |x::r=>plW x&&at0 r
end
theorem aP5{α:Type}{f:α->WData}(h:∀a,plW (f a)=true):∀l:List α,at0 (l.map f)=true
 |[]=>rfl
 |x::r=>by
  show(plW (f x)&&at0 (r.map f))=true
  rw[h x,aP5 h r]<;>rfl
theorem ab6:∀(c:Codec) (a:c.denote),plW (c.enc a)=true
 | .unit,_=>rfl
 | .bool,_=>rfl
 | .int _ _,_=>rfl
 | .nat _ _,_=>rfl
 | .u8,_=>rfl
 | .bytes _ _,_=>rfl
 | .text _ _ _ _,_=>rfl
 | .list _ _ c,a=>aP5 (λx=>ab6 c x) a
 | .pair c d,a=>by
   show(plW (c.enc a.1)&&(plW (d.enc a.2)&&true))=true
   rw[ab6 c a.1,ab6 d a.2]<;>rfl
 | .triple c d e,a=>by
   show(plW (c.enc a.1)&&(plW (d.enc a.2.1)&&(plW (e.enc a.2.2)&&true)))=true
   rw[ab6 c a.1,ab6 d a.2.1,ab6 e a.2.2]<;>rfl
 | .option c,none=>rfl
 | .option c,some x=>ab6 c x
theorem aF0:∀(cs:List Codec) (a:Codec.denoteAll cs),at0 (Codec.encAll cs a)=true
 |[],_=>rfl
 |c::cs,a=>by
  show(plW (c.enc a.1)&&at0 (Codec.encAll cs a.2))=true
  rw[ab6 c a.1,aF0 cs a.2]<;>rfl
theorem ah3:∀{xs:List WData} {d:WData},d∈xs->d.weight<=WData.weightAll xs
 |[],d,h=>absurd h (by simp)
 |x::r,d,h=>by
  show d.weight<=x.weight+1+WData.weightAll r
  rcases a7D.mp h with e|m
  ·rw[e]
   lia
  ·have z:=ah3 m
   lia
def toV:Value->V
 | .none=> .non
 | .bool b=> .bl b
 | .int i _=> .int i
 | .str x _=> .str x
 | .bytes b _=> .byt b
 | .ref a=> .ref a
 |_=> .non
def OkU(A:List Addr):Value->Prop
 | .none=>True
 | .bool _=>True
 | .int _ _=>True
 | .str _ _=>True
 | .bytes _ _=>True
 | .ref a=>a∈A
 |_=>False
theorem OkU.mono{A B:List Addr}(h:∀a∈A,a∈B):∀{u:Value},OkU A u->OkU B u:=λ{u} x=>by
 cases u with
 |ref a=>exact h a x
 |none=>trivial
 |bool b=>trivial
 |int i t=>trivial
 |str s t=>trivial
 |bytes b t=>trivial
 |_=>exact False.elim x
theorem a2L{A:List Addr}{u:Value}(x:OkU A u):B4 (toV u) u:=by
 cases u with
 |ref a=>rfl
 |none=>rfl
 |bool b=>rfl
 |int i t=>exact⟨t,rfl⟩
 |str s t=>exact⟨t,rfl⟩
 |bytes b t=>exact⟨t,rfl⟩
 |_=>exact False.elim x
theorem X1{A:List Addr}:∀{vs:List Value},(∀u∈vs,OkU A u)->y8 (vs.map toV) vs
 |[],_=> .nil
 |u::r,h=> .cons (a2L (h u (a7C ..))) (X1 λx hx=>h x (a7B _ hx))
def aa3(h:Heap)(A:List Addr)(a:Addr):Prop:=∃vs:List Value,vs.length<=sizeLine/\(∀u∈vs,OkU A u)/\
 (h.get? a=some {cls:= .type "list",data:= .seq vs.toArray}\/h.get? a=some {cls:= .type "tuple",data:= .seq vs.toArray})
theorem aa3.mono{h:Heap}{A B:List Addr}{a:Addr}(k:∀a∈A,a∈B)(x:aa3 h A a):aa3 h B a:=by
 obtain⟨vs,h1,h2,h3⟩:=x
 exact⟨vs,h1,λu hu=>(h2 u hu).mono k,h3⟩
theorem U3{P:Params}{h:Heap}:∀{vs:List Value} {ds:List WData},WellAll P h vs ds->vs.length=ds.length
 |_,_,.nil=>rfl
 |_,_,.cons _ b=>by
  show _+1=_+1
  rw[U3 b]
theorem aF1{P:Params}{h:Heap}{v:Value}{ds:List WData}(x:Well P h v (.list ds)):∃(a:Addr) (vs:List Value),v= .ref a/\h.get? a=some {cls:= .type "list",data:= .seq vs.toArray}/\WellAll P h vs ds:=by
 cases x with
 |list ho hall=>exact⟨_,_,rfl,ho,hall⟩
theorem av6{P:Params}{h:Heap}{v:Value}{ds:List WData}(x:Well P h v (.tuple ds)):∃(a:Addr) (vs:List Value),v= .ref a/\h.get? a=some {cls:= .type "tuple",data:= .seq vs.toArray}/\WellAll P h vs ds:=by
 cases x with
 |tuple ho hall=>exact⟨_,_,rfl,ho,hall⟩
theorem aF2{P:Params}{h:Heap}{us:List Value}{d:WData}{ds:List WData}(x:WellAll P h us (d::ds)):∃(v:Value) (vs:List Value),us=v::vs/\Well P h v d/\WellAll P h vs ds:=by
 cases x with
 |cons a b=>exact⟨_,_,rfl,a,b⟩
theorem a0L{n:Nat}(h:n<=1048576):n<=sizeLine:=a7G h (by decide)
section
variable{P:Params}{h:Heap}
mutual
theorem a2M:∀(d:WData) (v:Value),Well P h v d->plW d=true->d.weight<=1048576->∃A:List Addr,OkU A v/\∀a∈A,aa3 h A a
 | .none,_,x,_,_=>by
   cases x
   exact⟨[],trivial,λa m=>absurd m (by simp)⟩
 | .bool b,_,x,_,_=>by
   cases x
   exact⟨[],trivial,λa m=>absurd m (by simp)⟩
 | .int i,_,x,_,_=>by
   cases x
   exact⟨[],trivial,λa m=>absurd m (by simp)⟩
 | .str s,_,x,_,_=>by
   cases x
   exact⟨[],trivial,λa m=>absurd m (by simp)⟩
 | .bytes b,_,x,_,_=>by
   cases x
   exact⟨[],trivial,λa m=>absurd m (by simp)⟩
 | .list ds,_,x,p,z=>by
   obtain⟨a,vs,rfl,ho,hall⟩:=aF1 x
   have z2:WData.weightAll ds<=1048576:=z
   obtain⟨A,h1,h2⟩:=aj5 ds _ hall p λd hd=>a7G (ah3 hd) z2
   have k:∀b∈A,b∈a::A:=λb hb=>a7B _ hb
   refine⟨a::A,a7C ..,λb hb=> ?_⟩
   rcases a7D.mp hb with e|m
   ·rw[e]
    exact⟨vs,a0L (by rw[U3 hall];exact a7G (PySem.W.length_le_weightAllW ds) z2),λu hu=>(h1 u hu).mono k,.inl ho⟩
   ·exact(h2 b m).mono k
 | .tuple ds,_,x,p,z=>by
   obtain⟨a,vs,rfl,ho,hall⟩:=av6 x
   have z2:WData.weightAll ds<=1048576:=z
   obtain⟨A,h1,h2⟩:=aj5 ds _ hall p λd hd=>a7G (ah3 hd) z2
   have k:∀b∈A,b∈a::A:=λb hb=>a7B _ hb
   refine⟨a::A,a7C ..,λb hb=> ?_⟩
   rcases a7D.mp hb with e|m
   ·rw[e]
    exact⟨vs,a0L (by rw[U3 hall];exact a7G (PySem.W.length_le_weightAllW ds) z2),λu hu=>(h1 u hu).mono k,.inr ho⟩
   ·exact(h2 b m).mono k
 | .float _,_,_,p,_=>a8A (show false=true from p)
 | .dict _,_,_,p,_=>a8A (show false=true from p)
 | .bytearray _,_,_,p,_=>a8A (show false=true from p)
 | .set _,_,_,p,_=>a8A (show false=true from p)
 | .frozenset _,_,_,p,_=>a8A (show false=true from p)
 | .obj _ _,_,_,p,_=>a8A (show false=true from p)
theorem aj5:∀(ds:List WData) (vs:List Value),WellAll P h vs ds->at0 ds=true->(∀d∈ds,d.weight<=1048576)->∃A:List Addr,(∀u∈vs,OkU A u)/\∀a∈A,aa3 h A a
 |[],_,x,_,_=>by
  cases x
  exact⟨[],λu m=>absurd m (by simp),λa m=>absurd m (by simp)⟩
 |d::ds,_,x,p,z=>by
  obtain⟨v,vs,rfl,x1,x2⟩:=aF2 x
  have q:plW d=true/\at0 ds=true:=Bool.and_eq_true_iff.mp p
  obtain⟨A,a1,a2⟩:=a2M d v x1 q.1 (z d (a7C ..))
  obtain⟨B,b1,b2⟩:=aj5 ds vs x2 q.2 λe he=>z e (a7B _ he)
  have kA:∀b∈A,b∈A++B:=λb hb=>a77.mpr (.inl hb)
  have kB:∀b∈B,b∈A++B:=λb hb=>a77.mpr (.inr hb)
  refine⟨A++B,λu hu=> ?_,λb hb=> ?_⟩
  ·rcases a7D.mp hu with e|m
   ·rw[e]
    exact a1.mono kA
   ·exact(b1 u m).mono kB
  ·rcases a77.mp hb with m|m
   ·exact(a2 b m).mono kA
   ·exact(b2 b m).mono kB
end
end
def a36(o:Obj):Option HO:=match o.data with
 | .seq vs _=>if(o.cls==Value.type "list")=true then some (.frz o (.lst (vs.toList.map toV)))else some (.frz o (.tup (vs.toList.map toV)))
 |_=>none
def Y5(K:Frag)(h:Heap)(A:List Addr):Hp:=λb=>if b∈A then(if(K.lookup b).isNone=true then(h.get? b).bind a36 else none)else none
def aP6(H:Hp):Prop:=∀b,H b=none\/∃o u,H b=some (.frz o u)
theorem aP7(vs:List Value):a36 {cls:= .type "list",data:= .seq vs.toArray}=some (.frz {cls:= .type "list",data:= .seq vs.toArray} (.lst (vs.map toV))):=by
 show(if(Value.type "list"==Value.type "list")=true then some (HO.frz {cls:= .type "list",data:= .seq vs.toArray} (.lst (vs.toArray.toList.map toV)))else some (HO.frz {cls:= .type "list",data:= .seq vs.toArray} (.tup (vs.toArray.toList.map toV))))=_
 rw[if_pos (beq_self_eq_true _)]
theorem aP8(vs:List Value):a36 {cls:= .type "tuple",data:= .seq vs.toArray}=some (.frz {cls:= .type "tuple",data:= .seq vs.toArray} (.tup (vs.map toV))):=by
 show(if(Value.type "tuple"==Value.type "list")=true then some (HO.frz {cls:= .type "tuple",data:= .seq vs.toArray} (.lst (vs.toArray.toList.map toV)))else some (HO.frz {cls:= .type "tuple",data:= .seq vs.toArray} (.tup (vs.toArray.toList.map toV))))=_
 rw[if_neg (by decide)]
section
variable{P:Program}{w:World}{K:Frag}{h:Heap}{A:List Addr}
theorem at9{b:Addr}{o:Obj}(hb:b∈A)(hk:K.lookup b=none)(e:h.get? b=some o):Y5 K h A b=a36 o:=by
 unfold Y5
 rw[if_pos hb,hk,if_pos (show(none:Option Obj).isNone=true from rfl),e]<;>rfl
theorem a37{b:Addr}{u:HO}(q:Y5 K h A b=some u):b∈A/\K.lookup b=none:=by
 unfold Y5 at q
 by_cases hb:b∈A
 ·rw[if_pos hb]at q
  cases hk:K.lookup b with
  |none=>exact⟨hb,rfl⟩
  |some o=>
   rw[hk,if_neg (by simp)]at q
   cases q
 ·rw[if_neg hb]at q
  cases q
theorem au0(ar:∀a∈A,aa3 h A a){b:Addr}{u:HO}(q:Y5 K h A b=some u):K.lookup b=none/\∃vs:List Value,vs.length<=sizeLine/\(∀u∈vs,OkU A u)/\
 ((h.get? b=some {cls:= .type "list",data:= .seq vs.toArray}/\u= .frz {cls:= .type "list",data:= .seq vs.toArray} (.lst (vs.map toV)))\/
  (h.get? b=some {cls:= .type "tuple",data:= .seq vs.toArray}/\u= .frz {cls:= .type "tuple",data:= .seq vs.toArray} (.tup (vs.map toV)))):=by
 obtain⟨hb,hk⟩:=a37 q
 obtain⟨vs,h1,h2,h3⟩:=ar b hb
 refine⟨hk,vs,h1,h2,?_⟩
 rcases h3 with e|e
 ·rw[at9 hb hk e,aP7]at q
  exact .inl ⟨e,(a7v q).symm⟩
 ·rw[at9 hb hk e,aP8]at q
  exact .inr ⟨e,(a7v q).symm⟩
theorem a1J(ar:∀a∈A,aa3 h A a):aP6 (Y5 K h A):=λb=>by
 cases q:Y5 K h A b with
 |none=>exact .inl rfl
 |some u=>
  obtain⟨_,vs,_,_,⟨_,e⟩|⟨_,e⟩⟩:=au0 ar q
  ·exact .inr ⟨_,_,by rw[e]⟩
  ·exact .inr ⟨_,_,by rw[e]⟩
theorem a38(ar:∀a∈A,aa3 h A a):HOk P w (Y5 K h A) h:=λb u q=>by
 obtain⟨_,vs,h1,h2,⟨e,rfl⟩|⟨e,rfl⟩⟩:=au0 ar q
 ·exact⟨e,by rw[a7r];exact h1,vs,_,X1 h2,e⟩
 ·exact⟨e,by rw[a7r];exact h1,vs,X1 h2,_,e,rfl,_,rfl⟩
theorem au1{c c':Value}{vs us:List Value}(e:(some {cls:=c,data:= .seq vs.toArray}:Option Obj)=some {cls:=c',data:= .seq us.toArray}):c=c'/\vs=us:=by
 have e1:=a7v e
 have e2:c=c':=congrArg Obj.cls e1
 have e3:Data.seq vs.toArray=Data.seq us.toArray:=congrArg Obj.data e1
 injection e3 with e4
 refine⟨e2,?_⟩
 have e5:=congrArg Array.toList e4
 simpa using e5
theorem a7i(KX:K.In h)(ar:∀a∈A,aa3 h A a){a:Addr}{vs:List Value}(ha:a∈A)(e:h.get? a=some {cls:= .type "list",data:= .seq vs.toArray}):(∀u∈vs,OkU A u)/\n9 K (Y5 K h A) a (vs.map toV):=by
 obtain⟨us,h1,h2,h3⟩:=ar a ha
 have hu:us=vs:=by
  rcases h3 with q|q
  ·rw[e]at q
   exact(au1 q).2.symm
  ·rw[e]at q
   exact absurd (Value.type.inj (au1 q).1) (by decide)
 subst hu
 refine⟨h2,?_⟩
 cases hk:K.lookup a with
 |none=>exact .inl (.inr ⟨_,by rw[at9 ha hk e,aP7]⟩)
 |some o=>
  have e2:=KX a o hk
  rw[e]at e2
  obtain rfl:=a7v e2
  exact .inr ⟨_,us.toArray,_,hk,rfl,rfl,rfl,by rw[a7K];exact h1,by simpa using X1 h2⟩
theorem a7j(KX:K.In h)(ar:∀a∈A,aa3 h A a){a:Addr}{vs:List Value}(ha:a∈A)(e:h.get? a=some {cls:= .type "tuple",data:= .seq vs.toArray}):(∀u∈vs,OkU A u)/\v7 K (Y5 K h A) a (vs.map toV):=by
 obtain⟨us,h1,h2,h3⟩:=ar a ha
 have hu:us=vs:=by
  rcases h3 with q|q
  ·rw[e]at q
   exact absurd (Value.type.inj (au1 q).1) (by decide)
  ·rw[e]at q
   exact(au1 q).2.symm
 subst hu
 refine⟨h2,?_⟩
 cases hk:K.lookup a with
 |none=>exact .inl (.inr ⟨_,by rw[at9 ha hk e,aP8]⟩)
 |some o=>
  have e2:=KX a o hk
  rw[e]at e2
  obtain rfl:=a7v e2
  exact .inr ⟨_,us.toArray,_,hk,rfl,rfl,by rw[a7K];exact h1,by simpa using X1 h2⟩
mutual
theorem a5v{Pm:Params}(KX:K.In h)(ar:∀a∈A,aa3 h A a):∀(d:WData) (v:Value),Well Pm h v d->plW d=true->OkU A v->Dw K (Y5 K h A) (toV v) d
 | .none,_,x,_,_=>by
   cases x
   exact .non
 | .bool b,_,x,_,_=>by
   cases x
   exact .bl b
 | .int i,_,x,_,_=>by
   cases x
   exact .int i
 | .str s,_,x,_,_=>by
   cases x
   exact .str s
 | .bytes b,_,x,_,_=>by
   cases x
   have z:=Dw.byt (K:=K) (H:=Y5 K h A) b.toArray
   exact z
 | .list ds,_,x,p,hu=>by
   obtain⟨a,vs,rfl,ho,hall⟩:=aF1 x
   obtain⟨h2,hs⟩:=a7i KX ar hu ho
   exact .lst hs (aJ3 KX ar ds _ hall p h2)
 | .tuple ds,_,x,p,hu=>by
   obtain⟨a,vs,rfl,ho,hall⟩:=av6 x
   obtain⟨h2,hs⟩:=a7j KX ar hu ho
   exact .tup hs (aJ3 KX ar ds _ hall p h2)
 | .float _,_,_,p,_=>a8A (show false=true from p)
 | .dict _,_,_,p,_=>a8A (show false=true from p)
 | .bytearray _,_,_,p,_=>a8A (show false=true from p)
 | .set _,_,_,p,_=>a8A (show false=true from p)
 | .frozenset _,_,_,p,_=>a8A (show false=true from p)
 | .obj _ _,_,_,p,_=>a8A (show false=true from p)
theorem aJ3{Pm:Params}(KX:K.In h)(ar:∀a∈A,aa3 h A a):∀(ds:List WData) (vs:List Value),WellAll Pm h vs ds->at0 ds=true->(∀u∈vs,OkU A u)->aa2 K (Y5 K h A) (vs.map toV) ds
 |[],_,x,_,_=>by
  cases x
  exact .nil
 |d::ds,_,x,p,hu=>by
  obtain⟨v,vs,rfl,x1,x2⟩:=aF2 x
  have q:plW d=true/\at0 ds=true:=Bool.and_eq_true_iff.mp p
  exact .cons (a5v KX ar d v x1 q.1 (hu _ (a7C ..))) (aJ3 KX ar ds vs x2 q.2 λu m=>hu u (a7B _ m))
end
end
theorem a1K{P:Program}{w:World}{K:Frag}{mg mb:Str->Option Value}{CX:CXT}{k:Nat}{fa:Addr}{fd:FuncData}{ps:List Str}{sp:Sp}{s₁:Shared}{vals:List Value}{ds:List WData}{R:PySem.W.WRecords}{cl:Str->Option Addr}{d0:WData}
 (KX:K.In s₁.heap) (hns:s₁.heap.Ns mainGlobals mg) (hb:s₁.heap.Ns builtinsNs mb) (hbb:∀x:Str,x≠"__name__"->mb x=bootBuiltins x) (hlim:s₁.heap.NoLimit) (hg:s₁.gens= #[])
 (hwl:WellAll w.params s₁.heap vals ds) (hpl:at0 ds=true) (hwt:∀d∈ds,d.weight<=1048576) (hr:N6 k callerA)
 (F:∀base:Heap,K.In base->base.Ns mainGlobals mg->A7 P w K mg base CX k fa fd ps sp) (hbind:∀(s:Shared) (us:List Value),us.length=ps.length->BindsTo s fd ⟨us,[]⟩ (ps.zip us)) (hlen:ds.length=ps.length)
 (hsp:∀(H:Hp) (xs:List V),aP6 H->aa2 K H xs ds->sp xs H (λv H'=>Dw K H' v d0) λ_ _ _=>False)
 (hCX:∀H e s',CX [] H s₁ (λ_ _ _=>False) e s'->False):
 codeAny (model P w) callerA (.call (.ref fa) ⟨vals,[]⟩) (λr s'=>∃u as,r= .ok (.ret u)/\ReadsW R cl s'.heap u d0 as/\OldK s₁.heap s'.heap/\s'.os=s₁.os/\AllBare s'.gens) s₁:=by
 obtain⟨A,ho,ar⟩:=aj5 ds vals hwl hpl hwt
 have hO:aP6 (Y5 K s₁.heap A):=a1J ar
 have hok:HOk P w (Y5 K s₁.heap A) s₁.heap:=a38 ar
 have hS:=aJ3 KX ar ds vals hwl hpl ho
 have hV:=X1 ho
 have hK:∀b u,Y5 K s₁.heap A b=some u->K.lookup b=none:=λb u q=>(au0 ar q).1
 have noA:∀{b:Addr} {o:Obj} {es:Array DictEntry} {ep:Nat},s₁.heap.get? b=some o->o.data= .dict es ep->Y5 K s₁.heap A b=none:=λ{b o es ep} e d=>by
  cases q:Y5 K s₁.heap A b with
  |none=>rfl
  |some u=>
   obtain⟨_,vs,_,_,⟨e2,_⟩|⟨e2,_⟩⟩:=au0 ar q
   ·rw[e2]at e
    cases e
    have d':Data.seq vs.toArray _=Data.dict es ep:=d
    cases d'
   ·rw[e2]at e
    cases e
    have d':Data.seq vs.toArray _=Data.dict es ep:=d
    cases d'
 generalize Y5 K s₁.heap A=H at hO hok hS hK noA
 have base_of:∀{b:Addr} {o:Obj},s₁.heap.get? b=some o->H b=none->(aI2 s₁.heap H).get? b=some o:=λe n=>a2k e n
 have nsK:∀{b:Addr} {m:Str->Option Value},s₁.heap.Ns b m->(aI2 s₁.heap H).Ns b m:=λ{b m} ⟨o,es,ep,e,d,r⟩=>⟨o,es,ep,base_of e (noA e d),d,r⟩
 have nK:∀b o,K.lookup b=some o->H b=none:=λb o e=>by
  cases q:H b with
  |none=>rfl
  |some u=>
   rw[hK b u q]at e
   cases e
 have hKb:K.In (aI2 s₁.heap H):=λb o e=>base_of (KX b o e) (nK b o e)
 have hM:Mod K mg (aI2 s₁.heap H):=⟨hKb,nsK hns,⟨mb,nsK hb,hbb⟩,let⟨mc,h1,h2⟩:=hlim;⟨mc,nsK h1,h2⟩⟩
 have e0:aW1 P w K mg (aI2 s₁.heap H) callerA [] s₁ H:=⟨rfl,hM,λb o e=>a3N e,Nat.le_of_eq (a1s _ _),trivial,λb hb=>absurd (show b∈([]:List Addr)from hb) (by simp),hok,.of_eq hg⟩
 have hl:vals.length=ps.length:=by rw[U3 hwl];exact hlen
 refine codeAny_mono ((F _ hKb (nsK hns)).run callerA [] s₁ H ⟨vals,[]⟩ vals (vals.map toV) _ _ hr e0 (hbind s₁ vals hl) hV (hsp H _ hO hS)) λr s' x=> ?_
 cases r with
 |error e=>exact(hCX H e s' x).elim
 |ok fl=>
  cases fl with
  |next=>exact False.elim x
  |brk=>exact False.elim x
  |cont=>exact False.elim x
  |ret u=>
   obtain⟨v,H',os,bare,un,hok',r',q⟩:=x
   have kept:∀b o,s₁.heap.get? b=some o->s'.heap.get? b=some o:=λb o e=>by
    cases q2:H b with
    |none=>exact un.keep b o e q2 (by intro z;exact absurd (show b∈([]:List Addr)from z) (by simp)) (by simp)
    |some u2=>
     rcases hO b with z|⟨ob,u3,z⟩
     ·rw[q2]at z
      cases z
     ·have z2:=un.frzs b ob _ z
      obtain⟨e1,_⟩:=hok b _ z
      obtain⟨e2,_⟩:=hok' b _ z2
      rw[e]at e1
      cases e1
      exact e2
   have KX':K.In s'.heap:=λb o e=>kept b o (KX b o e)
   obtain⟨as,hrd⟩:=Dw.reads (R:=R) (cl:=cl) hok' KX' d0 v u q r'
   exact⟨u,as,rfl,hrd,OldK.of_keep kept,os,bare⟩
theorem av7{ds:List WData}(h:WData.layableAll ds=true):∀d∈ds,d.weight<=1048576:=λd hd=>
 (PySem.W.layableW_iff.mp (all_eq_true.mp h d hd)).2.2
theorem av8:∀(cs:List Codec) (a:Codec.denoteAll cs),(Codec.encAll cs a).length=cs.length
 |[],_=>rfl
 |c::cs,a=>by
  show(Codec.encAll cs a.2).length+1=cs.length+1
  rw[av8 cs a.2]
theorem a1L{r:OpenSpec}{k:Nat}{q:Program}{O4:List Str}{XP:(Str->Option Value)->Heap->Prop}{YP:World->Heap->Prop}{d:DefRec}{K:Params->Frag}{CX:World->CXT}{ps:List Str}{sp:World->Sp}
 (hwell:r.wellSaid=true) (hdf:d.params.defaults=[]) (hlen:r.args.length=ps.length) (hr:N6 k callerA)
 (hY:∀(w:World) (h:Heap),YP w h->(K w.params).In h)
 (F:∀(w:World) (mg:Str->Option Value) (fa:Addr) (h:Heap),YP w h->(K w.params).In h->h.Ns mainGlobals mg->mg d.name=some (.ref fa)->
  ∃fd:FuncData,(∀(s:Shared) (us:List Value),us.length=ps.length->BindsTo s fd ⟨us,[]⟩ (ps.zip us))/\
   ∀base:Heap,(K w.params).In base->base.Ns mainGlobals mg->A7 r.prog w (K w.params) mg base (CX w) k fa fd ps (sp w))
 (hsp:∀(w:World) (H:Hp) (xs:List V) (a:Codec.denoteAll r.args),aP6 H->Codec.withinAll r.args a=true->Codec.app r.args r.asked a=true->aa2 (K w.params) H xs (Codec.encAll r.args a)->
  sp w xs H (λv H'=>Dw (K w.params) H' v (r.ret.enc (Codec.app r.args r.f a))) λ_ _ _=>False)
 (hCX:∀(w:World) (H:Hp) (s:Shared) (e:Value) (s':Shared),CX w [] H s (λ_ _ _=>False) e s'->False):
 PySem.W.WalkOS q O4 XP YP r d [] (λf vs=>PySem.call f vs):=by
 intro w s_0 s₁ mg mb G Y fa o pm cd doc dV kV ho hd hcd hD hmg hg args vals as hpre hlay hrd hwl hlo
 obtain⟨a,e1,e2⟩:=PySem.W.os_pre_some hpre
 obtain⟨e3,hwi⟩:=Codec.encAll_of_decAll r.args args a e1
 subst e3
 have KX:=hY w _ Y
 obtain⟨fd,hb,hF⟩:=F w mg fa _ Y KX G.T.g hmg
 refine PySem.W.enter_call (codeAny_mono (a1K (R:=[]) (cl:=classAt s_0.heap) (d0:=r.ret.enc (Codec.app r.args r.f a)) KX G.T.g G.T.b G.T.builtins G.T.nolimit hg hwl (aF0 _ _) (av7 hlay) hr hF hb (by rw[av8];exact hlen)
  (λH xs hO hS=>hsp w H xs a hO hwi e2 hS) λH e s'=>hCX w H s₁ e s') λr' s' hq=> ?_)
 obtain⟨u,as',rfl,h1,h2,h3,h4⟩:=hq
 exact⟨.inl ⟨u,_,as',rfl,λ_=>rfl,h1,(OpenSpec.post_iff hwell hwi _ _).mpr rfl,λz=>a8A (show false=true from z)⟩,h2,h3,h4⟩
theorem aX0{r:OpenSpec}{k:Nat}{q:Program}{O4:List Str}{XP:(Str->Option Value)->Heap->Prop}{YP:World->Heap->Prop}{d:DefRec}{K:Params->Frag}{CX:CXT}{ps:List Str}{sp:Frag->Sp}
 (hwell:r.wellSaid=true) (hdf:d.params.defaults=[]) (hlen:r.args.length=ps.length) (hr:N6 k callerA)
 (hY:∀(w:World) (h:Heap),YP w h->(K w.params).In h)
 (F:∀(w:World) (mg:Str->Option Value) (fa:Addr) (h:Heap),YP w h->(K w.params).In h->h.Ns mainGlobals mg->mg d.name=some (.ref fa)->
  ∃fd:FuncData,(∀(s:Shared) (us:List Value),us.length=ps.length->BindsTo s fd ⟨us,[]⟩ (ps.zip us))/\
   ∀base:Heap,(K w.params).In base->base.Ns mainGlobals mg->A7 r.prog w (K w.params) mg base CX k fa fd ps (sp (K w.params)))
 (hsp:∀(K:Frag) (H:Hp) (xs:List V) (a:Codec.denoteAll r.args),aP6 H->Codec.withinAll r.args a=true->Codec.app r.args r.asked a=true->aa2 K H xs (Codec.encAll r.args a)->
  sp K xs H (λv H'=>Dw K H' v (r.ret.enc (Codec.app r.args r.f a))) λ_ _ _=>False)
 (hCX:∀(H:Hp) (s:Shared) (e:Value) (s':Shared),CX [] H s (λ_ _ _=>False) e s'->False):
 PySem.W.WalkOS q O4 XP YP r d [] (λf vs=>PySem.call f vs):=
 a1L (K:=K) (CX:=λ_=>CX) (sp:=λw=>sp (K w.params)) hwell hdf hlen hr hY F (λw H xs a h1 h2 h3 h4=>hsp (K w.params) H xs a h1 h2 h3 h4) λ_ H s e s'=>hCX H s e s'
end L2
namespace Mb
open Vbwsam
def l9(x y wx wy hx hy:Int):Bool:=
 if max x (x+wx)<= -hx\/min x (x+wx)≥hx then false
 else if max y (y+wy)<= -hy\/min y (y+wy)≥hy then false
 else if wx=0/\wy=0 then true
 else decide (absolute (x*wy-y*wx)<hx*absolute wy+hy*absolute wx)
def m7(x y wx wy r:Int):Bool:=
 let over:=x*x+y*y-r*r
 let nearing:= -(x*wx+y*wy)
 let length:=wx*wx+wy*wy
 if nearing<=0 then decide (over<0)
 else if nearing≥length then decide (over-2*nearing+length<0)
 else decide (over*length<nearing*nearing)
def o9(x y wx wy hx hy r:Int):Bool:=
 if l9 x y wx wy (hx+r) (hy+r)=false then false
 else if(l9 x y wx wy (hx+r) hy||l9 x y wx wy hx (hy+r))=true then true
 else [(-hx,-hy),(-hx,hy),(hx,-hy),(hx,hy)].any λc=>m7 (x-c.1) (y-c.2) wx wy r
theorem C5{n k:Int}:absolute n<k↔-k<n/\n<k:=by
 unfold absolute;split<;>lia
theorem F7{a b c:Int}(h:0<c):a*c<b*c↔a<b:=
 ⟨λq=>a9M q (a85 h),λq=>a74 q h⟩
theorem ab7{a b c:Int×Int}(ha:0<a.2)(hb:0<b.2)(hc:0<c.2)(h1:a.1*b.2<b.1*a.2)(h2:b.1*c.2<c.1*b.2):a.1*c.2<c.1*a.2:=by
 have e1:a.1*b.2*c.2<b.1*a.2*c.2:=(F7 hc).mpr h1
 have e2:b.1*c.2*a.2<c.1*b.2*a.2:=(F7 ha).mpr h2
 refine(F7 hb).mp ?_
 grind
theorem ab8{a b c:Int×Int}(ha:0<a.2)(hb:0<b.2)(hc:0<c.2)(h1:a.1*b.2<=b.1*a.2)(h2:b.1*c.2<c.1*b.2):a.1*c.2<c.1*a.2:=by
 have e1:a.1*b.2*c.2<=b.1*a.2*c.2:=a7E h1 (a85 hc)
 have e2:b.1*c.2*a.2<c.1*b.2*a.2:=(F7 ha).mpr h2
 refine(F7 hb).mp ?_
 grind
theorem at1{a b c:Int×Int}(ha:0<a.2)(hb:0<b.2)(hc:0<c.2)(h1:a.1*b.2<b.1*a.2)(h2:b.1*c.2<=c.1*b.2):a.1*c.2<c.1*a.2:=by
 have e1:a.1*b.2*c.2<b.1*a.2*c.2:=(F7 hc).mpr h1
 have e2:b.1*c.2*a.2<=c.1*b.2*a.2:=a7E h2 (a85 ha)
 refine(F7 hb).mp ?_
 grind
theorem an4{a b c:Int×Int}(ha:0<a.2)(hb:0<b.2)(hc:0<c.2):lessF (maxF a b) c=(lessF a c&&lessF b c):=by
 unfold maxF lessF
 rw[a7W]
 simp only[decide_eq_true_eq,a7z]
 split
 ·rename_i h
  exact⟨λq=>⟨ab7 ha hb hc h q,q⟩,λq=>q.2⟩
 ·rename_i h
  exact⟨λq=>⟨q,ab8 hb ha hc (by lia) q⟩,λq=>q.1⟩
theorem aF3{a b c:Int×Int}(ha:0<a.2)(hb:0<b.2)(hc:0<c.2):lessF c (minF a b)=(lessF c a&&lessF c b):=by
 unfold minF lessF
 rw[a7W]
 simp only[decide_eq_true_eq,a7z]
 split
 ·rename_i h
  exact⟨λq=>⟨ab7 hc hb ha q h,q⟩,λq=>q.2⟩
 ·rename_i h
  exact⟨λq=>⟨q,at1 hc ha hb q (by lia)⟩,λq=>q.1⟩
theorem a1M{r q:(Int×Int)×(Int×Int)}(h1:0<r.1.2)(h2:0<r.2.2)(h3:0<q.1.2)(h4:0<q.2.2):
 holdsTime (maxF r.1 q.1,minF r.2 q.2)=true↔(lessF r.1 r.2=true/\lessF r.1 q.2=true/\lessF q.1 r.2=true/\lessF q.1 q.2=true)/\(lessF r.1 (1,1)=true/\lessF q.1 (1,1)=true)/\lessF (0,1) r.2=true/\lessF (0,1) q.2=true:=by
 have hm:0<(maxF r.1 q.1).2:=by unfold maxF;split<;>assumption
 unfold holdsTime
 dsimp only
 rw[aF3 h2 h4 hm,an4 h1 h3 h2,an4 h1 h3 h4,an4 h1 h3 (by decide),aF3 h2 h4 (by decide)]
 simp only[a7z]
 constructor
 ·rintro⟨⟨⟨a,b⟩,c,d⟩,⟨e,f⟩,g,h⟩
  exact⟨⟨a,c,b,d⟩,⟨e,f⟩,g,h⟩
 ·rintro⟨⟨a,c,b,d⟩,⟨e,f⟩,g,h⟩
  exact⟨⟨⟨a,b⟩,c,d⟩,⟨e,f⟩,g,h⟩
theorem D7{x y wx wy hx hy:Int}:l9 x y wx wy hx hy=true↔
 (-hx<max x (x+wx)/\min x (x+wx)<hx)/\(-hy<max y (y+wy)/\min y (y+wy)<hy)/\
 ((wx=0/\wy=0)\/absolute (x*wy-y*wx)<hx*absolute wy+hy*absolute wx):=by
 unfold l9
 split
 ·constructor
  ·intro h;cases h
  ·rintro⟨h1,h2,h3⟩;lia
 ·split
  ·constructor
   ·intro h;cases h
   ·rintro⟨h1,h2,h3⟩;lia
  ·split
   ·rename_i a b c
    exact⟨λ_=>⟨by lia,by lia,.inl c⟩,λ_=>rfl⟩
   ·rename_i a b c
    rw[decide_eq_true_eq]
    exact⟨λh=>⟨by lia,by lia,.inr h⟩,λ⟨_,_,h⟩=>h.resolve_left c⟩
theorem M9{a b:Int×Int}:lessF a b=true↔a.1*b.2<b.1*a.2:=by unfold lessF;rw[decide_eq_true_eq]
theorem aP9{s p v:Int}(hs:0<s)(hv:0<v):slab s p v=some (some ((-s-p,v),(s-p,v))):=by
 unfold slab;rw[if_neg (by lia),if_neg (by lia),if_pos hv]
theorem aQ0{s p v:Int}(hs:0<s)(hv:v<0):slab s p v=some (some ((p-s,-v),(p+s,-v))):=by
 unfold slab;rw[if_neg (by lia),if_neg (by lia),if_neg (by lia)]
theorem aJ4{s p:Int}(hs:0<s)(h:absolute p<s):slab s p 0=some none:=by
 unfold slab;rw[if_neg (by lia),if_pos rfl,if_pos h]
theorem av9{s p:Int}(hs:0<s)(h:¬absolute p<s):slab s p 0=none:=by
 unfold slab;rw[if_neg (by lia),if_pos rfl,if_neg h]
theorem a39{x y wx wy hx hy a b c d:Int}(ha:0<c)(hb:0<d):
 holdsTime (maxF (a-hx,c) (b-hy,d),minF (a+hx,c) (b+hy,d))=true↔
  ((0<hx)/\(0<hy)/\(a-hx)*d<(b+hy)*c/\(b-hy)*c<(a+hx)*d)/\(a-hx<c/\b-hy<d)/\0<a+hx/\0<b+hy:=by
 rw[a1M (r:=((a-hx,c),(a+hx,c))) (q:=((b-hy,d),(b+hy,d))) ha ha hb hb]
 simp only[M9]
 rw[F7 ha,F7 hb]
 have e:∀z:Int,0*z<z*1↔0<z:=λz=>by lia
 constructor
 ·rintro⟨⟨q1,q2,q3,q4⟩,⟨q5,q6⟩,q7,q8⟩
  refine⟨⟨by lia,by lia,q2,q3⟩,⟨by lia,by lia⟩,by lia,by lia⟩
 ·rintro⟨⟨q1,q4,q2,q3⟩,⟨q5,q6⟩,q7,q8⟩
  refine⟨⟨by lia,q2,q3,by lia⟩,⟨by lia,by lia⟩,by lia,by lia⟩
theorem a0M{hx a c:Int}(ha:0<c):holdsTime ((a-hx,c),(a+hx,c))=true↔0<hx/\a-hx<c/\0<a+hx:=by
 unfold holdsTime
 simp only[a7z,M9]
 rw[F7 ha]
 lia
theorem aX1{x y wx wy hx hy:Int}(h1:0<hx)(h2:0<hy):pointBox hx hy ⟨x,y⟩ ⟨wx,wy⟩=l9 x y wx wy hx hy:=by
 rw[a7W,D7]
 unfold pointBox
 dsimp only
 have sx:wx≠0->∃a c:Int,0<c/\slab hx x wx=some (some ((a-hx,c),(a+hx,c)))/\((c=wx/\a= -x)\/(c= -wx/\a=x)):=λz=>by
  rcases Int.lt_or_gt_of_ne z with q|q
  ·exact⟨x,-wx,by lia,aQ0 h1 q,.inr ⟨rfl,rfl⟩⟩
  ·refine⟨-x,wx,by lia,?_,.inl ⟨rfl,rfl⟩⟩
   rw[aP9 h1 q]
   simp only[Option.some.injEq,Prod.mk.injEq,and_true]
   lia
 have sy:wy≠0->∃a c:Int,0<c/\slab hy y wy=some (some ((a-hy,c),(a+hy,c)))/\((c=wy/\a= -y)\/(c= -wy/\a=y)):=λz=>by
  rcases Int.lt_or_gt_of_ne z with q|q
  ·exact⟨y,-wy,by lia,aQ0 h2 q,.inr ⟨rfl,rfl⟩⟩
  ·refine⟨-y,wy,by lia,?_,.inl ⟨rfl,rfl⟩⟩
   rw[aP9 h2 q]
   simp only[Option.some.injEq,Prod.mk.injEq,and_true]
   lia
 by_cases zx:wx=0
 ·subst zx
  by_cases ix:absolute x<hx
  ·rw[aJ4 h1 ix]
   rw[C5]at ix
   by_cases zy:wy=0
   ·subst zy
    by_cases iy:absolute y<hy
    ·rw[aJ4 h2 iy]
     rw[C5]at iy
     refine⟨λ_=>⟨by lia,by lia,.inl ⟨rfl,rfl⟩⟩,λ_=>rfl⟩
    ·rw[av9 h2 iy]
     rw[C5]at iy
     exact⟨λh=>by simp at h,λ⟨_,q,_⟩=>by lia⟩
   ·obtain⟨a,c,hc,e,k⟩:=sy zy
    rw[e]
    show holdsTime _=true↔_
    rw[a0M hc]
    have m:absolute (x*wy-y*0)<hx*absolute wy+hy*absolute 0:=by
     have e0:absolute 0=0:=rfl
     rw[e0,C5]
     have t1:wy=absolute wy\/wy= -absolute wy:=by unfold absolute;split<;>lia
     have t2:0<absolute wy:=by unfold absolute;split<;>lia
     generalize absolute wy=u at*
     have p1:=a74 ix.1 t2
     have p2:=a74 ix.2 t2
     rw[a9O]at p1
     rcases t1 with t|t<;>subst t
     ·constructor<;>lia
     ·rw[Int.mul_neg];constructor<;>lia
    constructor
    ·rintro⟨q1,q2,q3⟩
     refine⟨by lia,?_,.inr m⟩
     rcases k with⟨rfl,rfl⟩|⟨rfl,rfl⟩<;>lia
    ·rintro⟨q1,q2,q3⟩
     rcases k with⟨rfl,rfl⟩|⟨rfl,rfl⟩<;>lia
  ·rw[av9 h1 ix]
   rw[C5]at ix
   exact⟨λh=>by simp at h,λ⟨q,_,_⟩=>by lia⟩
 ·obtain⟨a,c,hc,e,k⟩:=sx zx
  rw[e]
  clear sx
  by_cases zy:wy=0
  ·subst zy
   clear sy
   by_cases iy:absolute y<hy
   ·rw[aJ4 h2 iy]
    rw[C5]at iy
    show holdsTime _=true↔_
    rw[a0M hc]
    have m:absolute (x*0-y*wx)<hx*absolute 0+hy*absolute wx:=by
     have e0:absolute 0=0:=rfl
     rw[e0,C5]
     have t1:wx=absolute wx\/wx= -absolute wx:=by unfold absolute;split<;>lia
     have t2:0<absolute wx:=by unfold absolute;split<;>lia
     generalize absolute wx=u at*
     have p1:=a74 iy.1 t2
     have p2:=a74 iy.2 t2
     rw[a9O]at p1
     rcases t1 with t|t<;>subst t
     ·constructor<;>lia
     ·rw[Int.mul_neg];constructor<;>lia
    constructor
    ·rintro⟨q1,q2,q3⟩
     refine⟨?_,by lia,.inr m⟩
     rcases k with⟨rfl,rfl⟩|⟨rfl,rfl⟩<;>lia
    ·rintro⟨q1,q2,q3⟩
     rcases k with⟨rfl,rfl⟩|⟨rfl,rfl⟩<;>lia
   ·rw[av9 h2 iy]
    rw[C5]at iy
    exact⟨λh=>by simp at h,λ⟨_,q,_⟩=>by lia⟩
  ·obtain⟨b,d,hd,f,l⟩:=sy zy
   rw[f]
   clear sy e f
   show holdsTime _=true↔_
   rw[a39 (x:=x) (y:=y) (wx:=wx) (wy:=wy) hc hd,C5]
   rw[or_iff_right (λq=>zx q.1)]
   have ax:absolute wx=c:=by unfold absolute;split<;>lia
   have ay:absolute wy=d:=by unfold absolute;split<;>lia
   rw[ax,ay]
   rcases k with⟨rfl,rfl⟩|⟨rfl,rfl⟩<;>rcases l with⟨rfl,rfl⟩|⟨rfl,rfl⟩<;>constructor
   all_goals first
    |(rintro⟨⟨q1,q2,q3,q4⟩,⟨q5,q6⟩,q7,q8⟩;exact⟨⟨by lia,by lia⟩,⟨by lia,by lia⟩,by grind,by grind⟩)
    |(rintro⟨⟨q1,q2⟩,⟨q3,q4⟩,q5,q6⟩;exact⟨⟨h1,h2,by grind,by grind⟩,⟨by lia,by lia⟩,by lia,by lia⟩)
theorem a0N{x y wx wy r:Int}(h:0<r):pointBall r ⟨x,y⟩ ⟨wx,wy⟩=m7 x y wx wy r:=by
 rw[a7W]
 unfold pointBall m7
 simp only[dot,square,plus,h,decide_true,Bool.and_true]
 by_cases q:0<=x*wx+y*wy
 ·rw[if_pos q,if_pos (show-(x*wx+y*wy)<=0 by lia)]
  simp only[decide_eq_true_eq]
  constructor<;>intro q<;>grind
 ·rw[if_neg q,if_neg (show¬-(x*wx+y*wy)<=0 by lia)]
  by_cases q2:wx*wx+wy*wy<= -(x*wx+y*wy)
  ·rw[if_pos q2,if_pos (show-(x*wx+y*wy)≥wx*wx+wy*wy from q2)]
   simp only[decide_eq_true_eq]
   constructor<;>intro q<;>grind
  ·rw[if_neg q2,if_neg (show¬-(x*wx+y*wy)≥wx*wx+wy*wy from q2)]
   simp only[decide_eq_true_eq]
   constructor<;>intro q<;>grind
theorem p9(a:Int):0<=a*a:=by
 rcases Int.le_total 0 a with h|h
 ·exact a7S h h
 ·exact Int.mul_nonneg_of_nonpos_of_nonpos h h
theorem aQ1{a b:Int}(hb:0<=b)(h:a*a<b*b): -b<a/\a<b:=by
 constructor
 ·refine a95 λq=> ?_
  have:=a76 (show b<= -a by lia) hb
  have h2:=a7E (show b<= -a by lia) (show 0<= -a by lia)
  have e: -a* -a=a*a:=by grind
  lia
 ·refine a95 λq=> ?_
  have:=a76 q hb
  have h2:=a7E q (show 0<=a by lia)
  lia
theorem aw0{a b:Int}(h1: -b<a)(h2:a<b):a*a<b*b:=by
 rcases Int.le_total 0 a with h|h
 ·have p:=a76 (show a<=b by lia) h
  have q:=a74 h2 (show 0<b by lia)
  lia
 ·have e: -a* -a=a*a:=by grind
  have p:=a76 (show-a<=b by lia) (show 0<= -a by lia)
  have q:=a74 (show-a<b by lia) (show 0<b by lia)
  lia
theorem a1N{x y wx wy r:Int}(h:m7 x y wx wy r=true):∃n d:Int,0<d/\0<=n/\n<=d/\(x*d+wx*n)*(x*d+wx*n)+(y*d+wy*n)*(y*d+wy*n)<(r*d)*(r*d):=by
 unfold m7 at h
 dsimp only at h
 split at h
 ·rw[decide_eq_true_eq]at h
  exact⟨0,1,by decide,by decide,by decide,by grind⟩
 ·split at h
  ·rw[decide_eq_true_eq]at h
   exact⟨1,1,by decide,by decide,by decide,by grind⟩
  ·rw[decide_eq_true_eq]at h
   rename_i a b
   refine⟨-(x*wx+y*wy),wx*wx+wy*wy,by lia,by lia,by lia,?_⟩
   have hl:0<wx*wx+wy*wy:=by lia
   have e:=a74 h hl
   grind
theorem aq2{x y wx wy hx hy n d:Int}(hd:0<d)(h0:0<=n)(h1:n<=d)(a1: -(hx*d)<x*d+wx*n)(a2:x*d+wx*n<hx*d)
 (b1: -(hy*d)<y*d+wy*n) (b2:y*d+wy*n<hy*d):l9 x y wx wy hx hy=true:=by
 have key:∀{p v h:Int},-(h*d)<p*d+v*n->p*d+v*n<h*d-> -h<max p (p+v)/\min p (p+v)<h:=λ{p v h} q1 q2=>by
  have e:p*d+v*n=p*(d-n)+(p+v)*n:=by grind
  constructor
  ·refine a95 λz=> ?_
   have i1:=a7E (show p<= -h by lia) (show 0<=d-n by lia)
   have i2:=a7E (show p+v<= -h by lia) h0
   have: -h*(d-n)+ -h*n= -(h*d):=by grind
   lia
  ·refine a95 λz=> ?_
   have i1:=a7E (show h<=p by lia) (show 0<=d-n by lia)
   have i2:=a7E (show h<=p+v by lia) h0
   have:h*(d-n)+h*n=h*d:=by grind
   lia
 rw[D7]
 refine⟨key a1 a2,key b1 b2,?_⟩
 by_cases z:wx=0/\wy=0
 ·exact .inl z
 refine .inr ?_
 rw[C5]
 have mul:∀{p v h:Int},-(h*d)<p->p<h*d->(v=0->p*v=0/\h*d*absolute v=0)/\(v≠0-> -(h*d*absolute v)<p*v/\p*v<h*d*absolute v):=λ{p v h} q1 q2=>by
  refine⟨λe=> ?_,λe=> ?_⟩
  ·subst e;refine⟨a9t _,?_⟩;show h*d*0=0;exact a9t _
  ·have t1:v=absolute v\/v= -absolute v:=by unfold absolute;split<;>lia
   have t2:0<absolute v:=by unfold absolute;split<;>lia
   generalize absolute v=u at*
   have i1:=a74 q1 t2
   have i2:=a74 q2 t2
   rw[a9O]at i1
   rcases t1 with t|t<;>subst t
   ·exact⟨i1,i2⟩
   ·rw[Int.mul_neg];constructor<;>lia
 obtain⟨m1,m2⟩:=mul (v:=wy) a1 a2
 obtain⟨m3,m4⟩:=mul (v:=wx) b1 b2
 have e:(x*d+wx*n)*wy-(y*d+wy*n)*wx=(x*wy-y*wx)*d:=by grind
 have e2:hx*d*absolute wy+hy*d*absolute wx=(hx*absolute wy+hy*absolute wx)*d:=by grind
 have s: -((hx*absolute wy+hy*absolute wx)*d)<(x*wy-y*wx)*d/\(x*wy-y*wx)*d<(hx*absolute wy+hy*absolute wx)*d:=by
  rw[←e,←e2]
  by_cases zx:wx=0
  ·have k1:=m3 zx
   have k2:=m2 (λq=>z ⟨zx,q⟩)
   lia
  ·have k1:=m4 zx
   by_cases zy:wy=0
   ·have k2:=m1 zy
    lia
   ·have k2:=m2 zy
    lia
 rw[←a9O]at s
 exact⟨a9M s.1 (a85 hd),a9M s.2 (a85 hd)⟩
theorem aq3{x y wx wy hx hy cx cy r:Int}(hr:0<r)(c1: -hx<=cx)(c2:cx<=hx)(c3: -hy<=cy)(c4:cy<=hy)
 (h:m7 (x-cx) (y-cy) wx wy r=true):l9 x y wx wy (hx+r) (hy+r)=true:=by
 obtain⟨n,d,hd,h0,h1,q⟩:=a1N h
 have hrd:0<=r*d:=a7S (by lia) (by lia)
 have sx:=aQ1 (a:=(x-cx)*d+wx*n) hrd (Int.lt_of_le_of_lt (by have:=p9 ((y-cy)*d+wy*n);lia) q)
 have sy:=aQ1 (a:=(y-cy)*d+wy*n) hrd (Int.lt_of_le_of_lt (by have:=p9 ((x-cx)*d+wx*n);lia) q)
 have i1:=a7E c1 (a85 hd)
 have i2:=a7E c2 (a85 hd)
 have i3:=a7E c3 (a85 hd)
 have i4:=a7E c4 (a85 hd)
 rw[a9O]at i1 i3
 rw[Int.sub_mul]at sx sy
 refine aq2 hd h0 h1 ?_ ?_ ?_ ?_<;>rw[Int.add_mul]<;>lia
theorem aQ2{x y wx wy hx hy kx ky:Int}(h1:hx<=kx)(h2:hy<=ky)(h:l9 x y wx wy hx hy=true):l9 x y wx wy kx ky=true:=by
 rw[D7]at h⊢
 obtain⟨a,b,c⟩:=h
 refine⟨by lia,by lia,c.imp id λc=> ?_⟩
 have t1:0<=absolute wy:=by unfold absolute;split<;>lia
 have t2:0<=absolute wx:=by unfold absolute;split<;>lia
 have:=a7E h1 t1
 have:=a7E h2 t2
 lia
theorem aQ3{x y wx wy hx hy r:Int}(h1:0<hx)(h2:0<hy)(h3:0<r):pointRound hx hy r ⟨x,y⟩ ⟨wx,wy⟩=o9 x y wx wy hx hy r:=by
 unfold pointRound o9
 rw[aX1 (by lia) h2,aX1 h1 (by lia)]
 simp only[a8T,any_nil,minus,a9N]
 simp only[a0N h3]
 cases e0:l9 x y wx wy (hx+r) (hy+r)
 ·have n1:l9 x y wx wy (hx+r) hy=false:=by
   rw[a9Y];intro q;rw[aQ2 (by lia) (by lia) q]at e0;cases e0
  have n2:l9 x y wx wy hx (hy+r)=false:=by
   rw[a9Y];intro q;rw[aQ2 (by lia) (by lia) q]at e0;cases e0
  have nb:∀cx cy:Int,-hx<=cx->cx<=hx-> -hy<=cy->cy<=hy->m7 (x-cx) (y-cy) wx wy r=false:=λcx cy a b c d=>by
   rw[a9Y];intro q;rw[aq3 h3 a b c d q]at e0;cases e0
  rw[n1,n2,nb hx hy (by lia) (by lia) (by lia) (by lia),nb hx (-hy) (by lia) (by lia) (by lia) (by lia),nb (-hx) hy (by lia) (by lia) (by lia) (by lia),nb (-hx) (-hy) (by lia) (by lia) (by lia) (by lia)]
  rfl
 ·rw[if_neg (by decide)]
  cases l9 x y wx wy (hx+r) hy<;>cases l9 x y wx wy hx (hy+r)<;>cases m7 (x-hx) (y-hy) wx wy r<;>cases m7 (x-hx) (y- -hy) wx wy r<;>cases m7 (x- -hx) (y-hy) wx wy r<;>cases m7 (x- -hx) (y- -hy) wx wy r<;>rfl
theorem au2{x y wx wy hx hy:Int}(h:l9 (x+wx) (y+wy) 0 0 hx hy=true):l9 x y wx wy hx hy=true:=by
 rw[D7]at h
 obtain⟨a,b,_⟩:=h
 exact aq2 (n:=1) (d:=1) (by decide) (by decide) (by decide) (by lia) (by lia) (by lia) (by lia)
theorem aq4{x y wx wy r:Int}(h:m7 (x+wx) (y+wy) 0 0 r=true):m7 x y wx wy r=true:=by
 unfold m7 at*
 simp only[a9t,Int.add_zero,Int.neg_zero,a91,if_true,decide_eq_true_eq]at h
 dsimp only
 have e:x*x+y*y-r*r-2* -(x*wx+y*wy)+(wx*wx+wy*wy)=(x+wx)*(x+wx)+(y+wy)*(y+wy)-r*r:=by grind
 have sx:=p9 wx
 have sy:=p9 wy
 split
 ·rename_i a
  rw[decide_eq_true_eq]
  lia
 ·split
  ·rw[decide_eq_true_eq,e];exact h
  ·rename_i a b
   rw[decide_eq_true_eq]
   generalize-(x*wx+y*wy)=p at*
   generalize wx*wx+wy*wy=l at*
   generalize x*x+y*y-r*r=o at*
   have i1:=a74 (show o<2*p-l by lia) (show 0<l by lia)
   have i2:=p9 (p-l)
   grind
end Mb
namespace Mp
open PySem PySem.Spec PyProof.Rows L2
open PySem.W (Codec)
def O7(i:Nat):Stmt:=PySem.Challenge.pw_meetingbodies_s01_answers.main.body.getD i (.Pass ⟨0,0,0,0⟩)
def Sm(n:Int):Prop:= -1073741824<n/\n<1073741824
theorem Sm.l{n m:Int}(h:Sm n):aO1 n m:= .inl ⟨Int.lt_trans (by decide) h.1,Int.lt_trans h.2 (by decide)⟩
theorem Sm.r{n m:Int}(h:Sm m):aO1 n m:= .inr ⟨Int.lt_trans (by decide) h.1,Int.lt_trans h.2 (by decide)⟩
theorem aX2(i j:Int):(if j>i then j else i)=max i j:=by split<;>lia
theorem aX3(i j:Int):(if j<i then j else i)=min i j:=by split<;>lia
theorem a5w(i:Int):(if i<0 then-i else i)=a9h i:=rfl
theorem aX4{Q:VK}{H:Hp}{b c:Bool}(k:Q (.bl b) H)(e:b=c):Q (.bl c) H:=e▸k
theorem f9.tup{K:Frag}{H H':Hp}{a:Addr}{xs:List V}(e:f9 H H')(h:v7 K H a xs):v7 K H' a xs:=by
 rcases h with(h|⟨o,h⟩)|h
 ·exact .inl (.inl (e _ _ h))
 ·exact .inl (.inr ⟨o,e _ _ h⟩)
 ·exact .inr h
theorem f9.new{H:Hp}{p:Addr}{o:HO}(h:H p=Option.none):f9 H (A6 H p o):=λb u e=>by
 rw[j6 (j0 e h)];exact e
theorem aw1{a b:Int}(ha:Sm a)(hb:Sm b): -(2^60)<a*b/\a*b<2^60:=by
 obtain⟨a1,a2⟩:=ha
 obtain⟨b1,b2⟩:=hb
 have key:∀{u v:Int},0<=u->0<=v->u<1073741824->v<1073741824->u*v<2^60:=λ{u v} h1 h2 h3 h4=>by
  have p:=a76 (show v<=1073741823 by lia) h1
  have q:u*1073741823<2^60:=by lia
  lia
 rcases Int.le_total 0 a with h|h<;>rcases Int.le_total 0 b with h'|h'
 ·have:=key h h' a2 b2
  have:=a7S h h'
  lia
 ·have:=key h (show 0<= -b by lia) a2 (by lia)
  rw[Int.mul_neg]at this
  have:=a7S h (show 0<= -b by lia)
  rw[Int.mul_neg]at this
  lia
 ·have:=key (show 0<= -a by lia) h' (by lia) b2
  rw[a9O]at this
  have:=a7S (show 0<= -a by lia) h'
  rw[a9O]at this
  lia
 ·have:=key (show 0<= -a by lia) (show 0<= -b by lia) (by lia) (by lia)
  rw[a9x]at this
  have:=a7S (show 0<= -a by lia) (show 0<= -b by lia)
  rw[a9x]at this
  lia
def a6w(t:TA):TE:=λU H Q=>t U H λxs H1=>xs.length<=sizeLine/\∀p G,f9 H1 G->H1 p=Option.none->G p=some (.tup xs)->Q (.ref p) G
def a6x(t:TA):TE:=λU H Q=>t U H λxs H1=>xs.length<=sizeLine/\∀p G,f9 H1 G->H1 p=Option.none->G p=some (.lst xs)->Q (.ref p) G
def a5x:TE:=λ_ H Q=>∀p G,f9 H G->H p=Option.none->G p=some (.dK [])->Q (.ref p) G
section
variable{X:Cx}{es:List Expr}{t:TA}{pos:Pos}
theorem p8{x1}(h:PA X es t):PE X (.Tuple es x1 pos) (a6w t):=by
 intro a7q s U H Q I hq
 refine wpAny_Tuple_spliced (F8 (h pos a7q s U H _ I hq) λus s1 ⟨xs,H1,I1,r,z,q⟩=>⟨by rw[←r.length];exact z,?_⟩)
 have hf:H1 s1.heap.objs.size=none:=I1.hok.fresh (a7A _)
 refine⟨.ref s1.heap.objs.size,A6 H1 s1.heap.objs.size (.tup xs),I1.laid (t':=s1.toks) (λb u e=>a7w _ e) (a7A _) ?_,rfl,q _ _ (f9.new hf) hf i8⟩
 exact⟨z,us,r,⟨_,a7P _ rfl,rfl,_,rfl⟩⟩
theorem y6(h:PA X es t):PE X (.List es pos) (a6x t):=by
 intro a7q s U H Q I hq
 refine wpAny_List_spliced (F8 (h pos a7q s U H _ I hq) λus s1 ⟨xs,H1,I1,r,z,q⟩=>⟨by rw[←r.length];exact z,?_⟩)
 have hf:H1 s1.heap.objs.size=none:=I1.hok.fresh (a7A _)
 refine⟨.ref s1.heap.objs.size,A6 H1 s1.heap.objs.size (.lst xs),I1.laid (t':=s1.toks) (λb u e=>a7w _ e) (a7A _) ?_,rfl,q _ _ (f9.new hf) hf i8⟩
 exact⟨z,us,0,r,a7P _ rfl⟩
theorem aj6:PE X (.Dict [] [] pos) a5x:=λa7q s U H Q I h=>
 a2F a7q s U H Q I λp n=>h p _ (f9.new n) n i8
end
theorem K2{α:Type}:∀{l:List α} {i:Nat} {x:α},l[i]? =some x->l.take (i+1)=l.take i++[x]
 |[],i,x,h=>by simp at h
 |a::l,0,x,h=>by
  have e:a=x:=a7v h
  subst e
  rfl
 |a::l,i+1,x,h=>by
  have ih:=K2 (l:=l) (i:=i) (x:=x) h
  show a::l.take (i+1)=a::l.take i++[x]
  rw[ih]
  rfl
def aJ5(g:TG)(tt:TT)(te:TE)(vs:List Nat)(U:L2.St)(x:V)(o:Option V)(H:Hp):Prop:=
 ∀(Rt:Hp->Prop) (Rv:V->Hp->Prop),(o=Option.none->∀H'',f9 H H''->Rt H'')->(∀y,o=some y->∀H'',f9 H H''->Rv y H'')->
  g x (D1 U vs) H λσ2 H2=>D1 σ2 vs=D1 U vs/\tt σ2 H2 λb H3=>if b=true then te σ2 H3 Rv else Rt H3
theorem a0O{ys:List (Option V)}{i:Nat}{o:Option V}(h:ys[i]? =some o):(ys.take (i+1)).filterMap id=(ys.take i).filterMap id++o.toList:=by
 rw[K2 h,a9K]
 cases o<;>rfl
theorem a6y{ys:List (Option V)}{i:Nat}(hi:i<ys.length):((ys.take i).filterMap id).length<ys.length:=by
 refine a8l (List.length_filterMap_le _ _) ?_
 rw[a8L]
 lia
section
variable{K:Frag}{a:Addr}{xs:List V}{ys:List (Option V)}{g:TG}{tt:TT}{te:TE}{vs:List Nat}{U:L2.St}{H1:Hp}{Q:VK}
theorem aJ6{D:Addr}(nD:H1 D=Option.none)(hz:ys.length<=sizeLine){i:Nat}{x:V}{o:Option V}{H:Hp}(ho:ys[i]? =some o)
 (st:aJ5 g tt te vs U x o H) (s1:f9 H1 H) (hD:H D=some (.lst ((ys.take i).filterMap id))):
 g x (D1 U vs) H λσ2 H2=>D1 σ2 vs=D1 U vs/\tt σ2 H2 λb H3=>
   if b=true then te σ2 H3 λy H4=>∃acc,H4 D=some (.lst acc)/\acc.length<sizeLine/\(f9 H1 (A6 H4 D (.lst (acc++[y])))/\A6 H4 D (.lst (acc++[y])) D=some (.lst ((ys.take (i+1)).filterMap id)))else(f9 H1 H3/\H3 D=some (.lst ((ys.take (i+1)).filterMap id))):=by
 have hi:i<ys.length:=(a7x.mp ho).1
 refine st _ _ (λe H'' s2=> ?_) (λy e H'' s2=> ?_)
 ·refine⟨s1.trans s2,?_⟩
  rw[a0O ho,e]
  show H'' D=some (HO.lst (_++[]))
  rw[a72]
  exact s2 _ _ hD
 ·refine⟨_,s2 _ _ hD,a7Y (a6y hi) hz,λb u q=> ?_,?_⟩
  ·rw[j6 (j0 q nD)]
   exact s2 _ _ (s1 _ _ q)
  ·rw[i8,a0O ho,e]
   rfl
theorem lcL{D:Addr}{Qd:Hp->Prop}(nD:H1 D=Option.none)(hl:n9 K H1 a xs)(hlen:ys.length=xs.length)(hz:ys.length<=sizeLine)
 (st:∀(i:Nat) (x:V) (o:Option V) (H:Hp),xs[i]? =some x->ys[i]? =some o->f9 H1 H->aJ5 g tt te vs U x o H)
 (O3:∀H,f9 H1 H->H D=some (.lst (ys.filterMap id))->Qd H):
 ∃W:Nat->Nat->Hp->Prop,(∃m,W 0 m (A6 H1 D (.lst [])))/\∀i m H,W i m H->
  ((Itl K a).stop i H/\Qd H)\/((Itl K a).go i H/\∃Nx:Hp->Prop,(∀H',Nx H'->∃m',m'<m/\W (i+1) m' H')/\∀x H',(Itl K a).yld i H x H'->g x (D1 U vs) H' λσ2 H2=>D1 σ2 vs=D1 U vs/\tt σ2 H2 λb H3=>
    if b=true then te σ2 H3 λy H4=>∃acc,H4 D=some (.lst acc)/\acc.length<sizeLine/\Nx (A6 H4 D (.lst (acc++[y])))else Nx H3):=by
 refine a0F (xs:=xs) (Qd:=Qd) (λi H=>f9 H1 H/\H D=some (.lst ((ys.take i).filterMap id))) ⟨f9.new nD,i8⟩ (λi H _ h=>h.1.seq hl) (λi x H hx h=> ?_) (λH h=> ?_)
 ·have hi:i<ys.length:=by rw[hlen];exact(a7x.mp hx).1
  exact aJ6 nD hz (a7u hi) (st i x _ H hx (a7u hi) h.1) h.1 h.2
 ·refine O3 H h.1 ?_
  rw[h.2,←hlen,a8o]
theorem lcT{D:Addr}{Qd:Hp->Prop}(nD:H1 D=Option.none)(hl:v7 K H1 a xs)(hlen:ys.length=xs.length)(hz:ys.length<=sizeLine)
 (st:∀(i:Nat) (x:V) (o:Option V) (H:Hp),xs[i]? =some x->ys[i]? =some o->f9 H1 H->aJ5 g tt te vs U x o H)
 (O3:∀H,f9 H1 H->H D=some (.lst (ys.filterMap id))->Qd H):
 ∃W:Nat->Nat->Hp->Prop,(∃m,W 0 m (A6 H1 D (.lst [])))/\∀i m H,W i m H->
  ((Itt K a).stop i H/\Qd H)\/((Itt K a).go i H/\∃Nx:Hp->Prop,(∀H',Nx H'->∃m',m'<m/\W (i+1) m' H')/\∀x H',(Itt K a).yld i H x H'->g x (D1 U vs) H' λσ2 H2=>D1 σ2 vs=D1 U vs/\tt σ2 H2 λb H3=>
    if b=true then te σ2 H3 λy H4=>∃acc,H4 D=some (.lst acc)/\acc.length<sizeLine/\Nx (A6 H4 D (.lst (acc++[y])))else Nx H3):=by
 refine a5r (xs:=xs) (Qd:=Qd) (λi H=>f9 H1 H/\H D=some (.lst ((ys.take i).filterMap id))) ⟨f9.new nD,i8⟩ (λi H _ h=>f9.tup h.1 hl) (λi x H hx h=> ?_) (λH h=> ?_)
 ·have hi:i<ys.length:=by rw[hlen];exact(a7x.mp hx).1
  exact aJ6 nD hz (a7u hi) (st i x _ H hx (a7u hi) h.1) h.1 h.2
 ·refine O3 H h.1 ?_
  rw[h.2,←hlen,a8o]
end
structure Df(P:Program)(w:World)(K:Frag)(mg:Str->Option Value)(base:Heap)(x:Str)(k:Nat)(ps:List Str)(sp:Sp):Prop where
 ex:∃f fd,mg x=some (.ref f)/\a80 K (.ref f)=true/\U0 K fd ps []/\A7 P w K mg base M2 k f fd ps sp
theorem Df.mono{P:Program}{w:World}{K:Frag}{mg:Str->Option Value}{base:Heap}{x:Str}{j k:Nat}{ps:List Str}{sp:Sp}(D:Df P w K mg base x j ps sp)(h:j<=k):Df P w K mg base x k ps sp:=by
 obtain⟨f,fd,h1,h2,h3,h4⟩:=D.ex
 exact⟨f,fd,h1,h2,h3,h4.mono h⟩
section
variable{X:Cx}{x:Str}{k:Nat}{ps:List Str}{sp:Sp}{e:Expr}{es:List Expr}{t:TA}{p pos:Pos}
theorem A0(D:Df X.prog X.w X.K X.mg X.base x k ps sp)(hr:N6 k X.A)(hg:Gl X x)(ha:PA X (e::es) t)(hdb:(x==("__debug__":Str))=false:=by decide)
 (he:starEach (e::es) X.env=(false,eval e X.env)::starEach es X.env:=by rfl) (hpl:(backTo pos (starEach es X.env)).any (·.1)=false:=by rfl):
 PE X (.Call (.Name x p) (e::es) [] pos) (a4M sp [] E0 t):=by
 obtain⟨f,fd,h1,h2,h3,h4⟩:=D.ex
 exact a3W h4 hr hg h1 h2 h3 .nil a0I ha hdb he hpl
theorem J5{y:Str}{i j kk:Nat}{px py:Pos}(K:Frag)(hK:X.K=K)(hc:X.calm=true)(hN:X.N.Nodup)(hi:X.N[i]? =some x)(hj:X.N[j]? =some y)(lx:X.env.scope.names.lookup x=some .local)(ly:X.env.scope.names.lookup y=some .local):
 PG X (.Tuple [.Name x px,.Name y py] kk pos) (a5c K 2 (aD8 (aj0 i) (aD8 (aj0 j) a5b))):=
 hK▸a2m hc (ab0 (z9 hN hi (.inl lx) (.inr lx)) (ab0 (z9 hN hj (.inl ly) (.inr ly)) a0v))
end
end Mp
local macro_rules | `(tactic| walk_at "rd") => `(tactic| repeat' (first
  | refine ⟨_, rfl, ?_⟩
  | refine ⟨_, _, rfl, rfl, ?_⟩
  | refine ⟨_, _, rfl, ?_⟩
  | refine ⟨rfl, ?_⟩
  | refine And.intro (by assumption) ?_
  | refine And.intro (Mp.Sm.l (by assumption)) ?_
  | refine And.intro (Mp.Sm.r (by assumption)) ?_
  | refine ⟨_, _, _, _, rfl, rfl, by assumption, rfl, ?_⟩
  | with_reducible refine L2.B3 ?_
  | with_reducible refine L2.D9 ?_
  | refine L2.z8 (fun hh => ?_) (fun hh => ?_)))
namespace Mp
open PySem PySem.Spec PyProof.Rows L2
open PySem.W (Codec)
abbrev a5y:Stmt:=O7 6
abbrev a2N:Stmt:=O7 7
abbrev a2O:Stmt:=O7 8
structure Txt(K:Frag)(mg:Str->Option Value):Prop where
 b_max:mg "max"=none
 b_min:mg "min"=none
 b_abs:mg "abs"=none
 b_any:mg "any"=none
 b_len:mg "len"=none
section
variable{P:Program}{w:World}{K:Frag}{mg:Str->Option Value}{base:Heap}
def a0P(K:Frag):Sp:=λvs H Q _=>∃(a:Addr) (x y wx wy hx hy:Int),vs=[.ref a,.int hx,.int hy]/\v7 K H a [.int x,.int y,.int wx,.int wy]/\(Sm x/\Sm y/\Sm hx/\Sm hy)/\Q (.bl (Mb.l9 x y wx wy hx hy)) H
theorem a4R:n8 ["line","hx","hy","x","y","wx","wy"] ["line","hx","hy"] (g9 a5y):=⟨rfl,rfl,rfl,by decide+kernel,rfl,by decide+kernel,by decide+kernel⟩
theorem a5z{f:Addr}{fd:FuncData}(F:M3 K "crosses_box" "crosses_box" a5y f fd)(T:Txt K mg):A7 P w K mg base M2 1 f fd ["line","hx","hy"] (a0P K):=by
 refine F.ok a4R (λvs H Q E h=> ?_) (λcdv A outer s H vs Q E hr h=> ?_)
 ·obtain⟨a,x,y,wx,wy,hx,hy,rfl,_⟩:=h
  rfl
 ·obtain⟨a,x,y,wx,wy,hx,hy,rfl,ha,⟨b1,b2,b3,b4⟩,k⟩:=h
  have nd:=a4R.nd
  refine⟨_,(e9 (j9 (i:=3) nd rfl (Or.inl rfl) (i9 j5 (pv 0) f6 (λ_ _=>rfl)))
   (e9 (j9 (i:=4) nd rfl (Or.inl rfl) (i9 j5 (pv 0) f6 (λ_ _=>rfl)))
   (e9 (j9 (i:=5) nd rfl (Or.inl rfl) (i9 j5 (pv 0) f6 (λ_ _=>rfl)))
   (e9 (j9 (i:=6) nd rfl (Or.inl rfl) (i9 j5 (pv 0) f6 (λ_ _=>rfl)))
   (e9 (B8 (aa9 (o8 aO3 (v6 (ae9 rfl) (by rfl) T.b_max boot_max (e8 (pv 3) (e8 (m9 B0 (pv 3) (pv 5)) f7))) (T9 N5 (pv 1)) (t9 _)) (ah0 (o8 av1 (v6 (af0 rfl) (by rfl) T.b_min boot_min (e8 (pv 3) (e8 (m9 B0 (pv 3) (pv 5)) f7))) (pv 1) (t9 _)))).pt
    (f8 (l8 aa1))
    v8)
   (e9 (B8 (aa9 (o8 aO3 (v6 (ae9 rfl) (by rfl) T.b_max boot_max (e8 (pv 4) (e8 (m9 B0 (pv 4) (pv 6)) f7))) (T9 N5 (pv 2)) (t9 _)) (ah0 (o8 av1 (v6 (af0 rfl) (by rfl) T.b_min boot_min (e8 (pv 4) (e8 (m9 B0 (pv 4) (pv 6)) f7))) (pv 2) (t9 _)))).pt
    (f8 (l8 aa1))
    v8)
   (e9 (B8 (S3 (o8 K5 (pv 5) f6 (t9 _)) (P9 (o8 K5 (pv 6) f6 (t9 _)))).pt
    (f8 (l8 aa1))
    v8)
   (f8 (l8 (R5 S4 (v6 W9 (by rfl) T.b_abs boot_abs (e8 (m9 F0 (m9 M7 (pv 3) (pv 6)) (m9 M7 (pv 4) (pv 5))) f7)) (m9 B0 (m9 M7 (pv 1) (v6 W9 (by rfl) T.b_abs boot_abs (e8 (pv 6) f7))) (m9 M7 (pv 2) (v6 W9 (by rfl) T.b_abs boot_abs (e8 (pv 5) f7)))) (t9 _))))))))))),?_⟩
  walk_at "rd"
  all_goals refine aX4 k ?_
  all_goals simp only[aX2,aX3,a5w,decide_eq_true_eq,V.int.injEq]at*
  all_goals unfold Mb.l9
  ·rw[if_pos (by lia)]
  ·rw[if_pos (by lia)]
  ·rw[if_neg (by lia),if_pos (by lia)]
  ·rw[if_neg (by lia),if_pos (by lia)]
  ·rw[if_neg (by lia),if_neg (by lia),if_pos (by lia)]
  ·rw[if_neg (by lia),if_neg (by lia),if_neg (by lia)]
   exact decide_eq_decide.mpr Iff.rfl
  ·rw[if_neg (by lia),if_neg (by lia),if_neg (by lia)]
   exact decide_eq_decide.mpr Iff.rfl
def aJ7(K:Frag):Sp:=λvs H Q _=>∃(a:Addr) (x y wx wy r:Int),vs=[.ref a,.int r]/\v7 K H a [.int x,.int y,.int wx,.int wy]/\(Sm x/\Sm y/\Sm wx/\Sm wy/\Sm r)/\Q (.bl (Mb.m7 x y wx wy r)) H
theorem a2P:n8 ["line","r","x","y","wx","wy","over","nearing","length"] ["line","r"] (g9 a2N):=⟨rfl,rfl,rfl,by decide+kernel,rfl,by decide+kernel,by decide+kernel⟩
theorem a4a{f:Addr}{fd:FuncData}(F:M3 K "crosses_ball" "crosses_ball" a2N f fd)(T:Txt K mg):A7 P w K mg base M2 1 f fd ["line","r"] (aJ7 K):=by
 refine F.ok a2P (λvs H Q E h=> ?_) (λcdv A outer s H vs Q E hr h=> ?_)
 ·obtain⟨a,x,y,wx,wy,r,rfl,_⟩:=h
  rfl
 ·obtain⟨a,x,y,wx,wy,r,rfl,ha,⟨b1,b2,b3,b4,b5⟩,k⟩:=h
  have nd:=a2P.nd
  have q1:=aw1 b1 b1
  have q2:=aw1 b2 b2
  have q3:=aw1 b5 b5
  have q4:=aw1 b1 b3
  have q5:=aw1 b2 b4
  have c1:aO1 (x*x+y*y-r*r) (wx*wx+wy*wy):= .inl ⟨by lia,by lia⟩
  have c2:aO1 (-(x*wx+y*wy)) (-(x*wx+y*wy)):= .inl ⟨by lia,by lia⟩
  have c3:aO1 2 (-(x*wx+y*wy)):= .inl ⟨by decide,by decide⟩
  refine⟨_,(e9 (j9 (i:=2) nd rfl (Or.inl rfl) (i9 j5 (pv 0) f6 (λ_ _=>rfl)))
   (e9 (j9 (i:=3) nd rfl (Or.inl rfl) (i9 j5 (pv 0) f6 (λ_ _=>rfl)))
   (e9 (j9 (i:=4) nd rfl (Or.inl rfl) (i9 j5 (pv 0) f6 (λ_ _=>rfl)))
   (e9 (j9 (i:=5) nd rfl (Or.inl rfl) (i9 j5 (pv 0) f6 (λ_ _=>rfl)))
   (e9 (j9 (i:=6) nd rfl (Or.inl rfl) (m9 F0 (m9 B0 (m9 M7 (pv 2) (pv 2)) (m9 M7 (pv 3) (pv 3))) (m9 M7 (pv 1) (pv 1))))
   (e9 (j9 (i:=7) nd rfl (Or.inl rfl) (T9 N5 (m9 B0 (m9 M7 (pv 2) (pv 4)) (m9 M7 (pv 3) (pv 5)))))
   (e9 (j9 (i:=8) nd rfl (Or.inl rfl) (m9 B0 (m9 M7 (pv 4) (pv 4)) (m9 M7 (pv 5) (pv 5))))
   (e9 (B8 (o8 aO3 (pv 7) f6 (t9 _))
    (f8 (l8 (R5 S4 (pv 6) f6 (t9 _))))
    v8)
   (e9 (B8 (o8 av1 (pv 7) (pv 8) (t9 _))
    (f8 (l8 (R5 S4 (m9 B0 (m9 F0 (pv 6) (m9 M7 f6 (pv 7))) (pv 8)) f6 (t9 _))))
    v8)
   (f8 (l8 (R5 S4 (m9 M7 (pv 6) (pv 8)) (m9 M7 (pv 7) (pv 7)) (t9 _))))))))))))),?_⟩
  walk_at "rd"
  all_goals refine aX4 k ?_
  all_goals simp only[decide_eq_true_eq]at*
  all_goals unfold Mb.m7
  all_goals dsimp only
  ·rw[if_pos (by assumption)]
  ·rw[if_neg (by assumption),if_pos (by assumption)]
  ·rw[if_neg (by assumption),if_neg (by assumption)]
def aJ8(K:Frag):Sp:=λvs H Q _=>∃(a:Addr) (x y wx wy u v:Int),vs=[.ref a,.int u,.int v]/\v7 K H a [.int x,.int y,.int wx,.int wy]/\∀p G,f9 H G->H p=none->G p=some (.tup [.int (x-u),.int (y-v),.int wx,.int wy])->Q (.ref p) G
theorem a5A:n8 ["line","x","y"] ["line","x","y"] (g9 a2O):=⟨rfl,rfl,rfl,by decide+kernel,rfl,by decide+kernel,by decide+kernel⟩
theorem a4b{f:Addr}{fd:FuncData}(F:M3 K "seen_from" "seen_from" a2O f fd):A7 P w K mg base M2 1 f fd ["line","x","y"] (aJ8 K):=by
 refine F.ok a5A (λvs H Q E h=> ?_) (λcdv A outer s H vs Q E hr h=> ?_)
 ·obtain⟨a,x,y,wx,wy,r,v,rfl,_⟩:=h
  rfl
 ·obtain⟨a,x,y,wx,wy,r,v,rfl,ha,k⟩:=h
  refine⟨_,(f8 (l8 (p8 (e8 (m9 F0 (i9 j5 (pv 0) f6 (λ_ _=>rfl)) (pv 1)) (e8 (m9 F0 (i9 j5 (pv 0) f6 (λ_ _=>rfl)) (pv 2)) (e8 (i9 j5 (pv 0) f6 (λ_ _=>rfl)) (e8 (i9 j5 (pv 0) f6 (λ_ _=>rfl)) f7))))))),?_⟩
  walk_at "rd"
  exact⟨by show 4<=sizeLine;decide,λp G s1 n1 t1=>k p G s1 n1 t1⟩
end
abbrev aJ9:Stmt:=O7 9
section
variable{P:Program}{w:World}{K:Frag}{mg:Str->Option Value}{base:Heap}
def aK0(K:Frag):Sp:=λvs H Q _=>∃(a:Addr) (x y wx wy hx hy r:Int),vs=[.ref a,.int hx,.int hy,.int r]/\v7 K H a [.int x,.int y,.int wx,.int wy]/\(Sm (x+hx)/\Sm (x-hx)/\Sm (y+hy)/\Sm (y-hy)/\Sm wx/\Sm wy/\Sm (hx+r)/\Sm (hy+r)/\Sm hx/\Sm hy/\Sm r/\Sm x/\Sm y)/\∀H',f9 H H'->Q (.bl (Mb.o9 x y wx wy hx hy r)) H'
theorem a0Q:n8 ["line","hx","hy","r","corners","cx","cy"] ["line","hx","hy","r"] (g9 aJ9):=⟨rfl,rfl,rfl,by decide+kernel,rfl,by decide+kernel,by decide+kernel⟩
theorem a2Q{f:Addr}{fd:FuncData}(F:M3 K "crosses_rounded" "crosses_rounded" aJ9 f fd)(T:Txt K mg)
 (Dbox:Df P w K mg base "crosses_box" 1 ["line","hx","hy"] (a0P K)) (Dball:Df P w K mg base "crosses_ball" 1 ["line","r"] (aJ7 K)) (Dseen:Df P w K mg base "seen_from" 1 ["line","x","y"] (aJ8 K)):
 A7 P w K mg base M2 2 f fd ["line","hx","hy","r"] (aK0 K):=by
 refine F.ok a0Q (λvs H Q E h=> ?_) (λcdv A outer s H vs Q E hr h=> ?_)
 ·obtain⟨a,x,y,wx,wy,hx,hy,r,rfl,_⟩:=h
  rfl
 ·obtain⟨a,x,y,wx,wy,hx,hy,r,rfl,ha,⟨b1,b2,b3,b4,b5,b6,b7,b8,b9,b10,b11,b12,b13⟩,k⟩:=h
  have nd:=a0Q.nd
  refine⟨_,(e9 (B8 (aI3 (N3 (A0 Dbox hr (by rfl) (e8 (pv 0) (e8 (m9 B0 (pv 1) (pv 3)) (e8 (m9 B0 (pv 2) (pv 3)) f7))))))
   (f8 (l8 aa1))
   v8)
   (e9 (B8 (aa9 (N3 (A0 Dbox hr (by rfl) (e8 (pv 0) (e8 (m9 B0 (pv 1) (pv 3)) (e8 (pv 2) f7))))) (ah0 (N3 (A0 Dbox hr (by rfl) (e8 (pv 0) (e8 (pv 1) (e8 (m9 B0 (pv 2) (pv 3)) f7))))))).pt
    (f8 (l8 aa1))
    v8)
   (e9 (j9 (i:=4) nd rfl (Or.inl rfl) (p8 (e8 (p8 (e8 (T9 N5 (pv 1)) (e8 (T9 N5 (pv 2)) f7))) (e8 (p8 (e8 (T9 N5 (pv 1)) (e8 (pv 2) f7))) (e8 (p8 (e8 (pv 1) (e8 (T9 N5 (pv 2)) f7))) (e8 (p8 (e8 (pv 1) (e8 (pv 2) f7))) f7))))))
   (f8 (l8 (v6 (aW4 rfl) (by rfl) T.b_any boot_any (e8
    (R0 (own:=[("cx",5),("cy",6)]) rfl nd (aI4 (pv 4)) (by show E5 ["line","hx","hy","r","corners","cx","cy"] (g9 aJ9) _ _;exact⟨rfl,by decide+kernel,by decide+kernel,by decide+kernel,by decide+kernel⟩)
     (λ_ _ _ _ _=>by refine J5 (i:=5) (j:=6) K ?_ ?_ ?_ ?_ ?_ ?_ ?_<;>first|rfl|assumption)
     (λ_ _ _ _ _=>by exact D8)
     (λ_ _ _ _ _=>by exact A0 Dball hr (by rfl) (e8 (A0 Dseen hr (by rfl) (e8 (pv 0) (e8 (pv 5) (e8 (pv 6) f7)))) (e8 (pv 3) f7)))) f7))))))),?_⟩
  walk_at "rd"
  refine⟨a,x,y,wx,wy,hx+r,hy+r,rfl,ha,⟨b12,b13,b7,b8⟩,?_⟩
  walk_at "rd"
  ·refine aX4 (k H (f9.refl H)) ?_
   unfold Mb.o9
   rename_i h0
   rw[if_pos (by revert h0;cases Mb.l9 x y wx wy (hx+r) (hy+r)<;>simp)]
  rename_i h0
  have e0:Mb.l9 x y wx wy (hx+r) (hy+r)=true:=by revert h0;cases Mb.l9 x y wx wy (hx+r) (hy+r)<;>simp
  refine⟨a,x,y,wx,wy,hx+r,hy,rfl,ha,⟨b12,b13,b7,b10⟩,?_⟩
  walk_at "rd"
  ·rename_i h1
   refine aX4 (k H (f9.refl H)) ?_
   unfold Mb.o9
   rw[if_neg (by rw[e0];decide),if_pos (by rw[h1];rfl)]
  rename_i h1
  refine⟨a,x,y,wx,wy,hx,hy+r,rfl,ha,⟨b12,b13,b9,b8⟩,?_⟩
  walk_at "rd"
  ·rename_i h2
   refine aX4 (k H (f9.refl H)) ?_
   unfold Mb.o9
   rw[if_neg (by rw[e0];decide),if_pos (by rw[h2,Bool.or_true])]
  rename_i h2
  have e1:Mb.l9 x y wx wy (hx+r) hy=false:=by revert h1;cases Mb.l9 x y wx wy (hx+r) hy<;>simp
  have e2:Mb.l9 x y wx wy hx (hy+r)=false:=by revert h2;cases Mb.l9 x y wx wy hx (hy+r)<;>simp
  refine⟨by show 2<=sizeLine;decide,λp1 G1 s1 _ t1=> ?_⟩
  walk_at "rd"
  refine⟨by show 2<=sizeLine;decide,λp2 G2 s2 _ t2=> ?_⟩
  walk_at "rd"
  refine⟨by show 2<=sizeLine;decide,λp3 G3 s3 _ t3=> ?_⟩
  walk_at "rd"
  refine⟨by show 2<=sizeLine;decide,λp4 G4 s4 _ t4=> ?_⟩
  refine⟨by show 4<=sizeLine;decide,λc G s5 _ tc=> ?_⟩
  have t4:v7 K G p4 [.int hx,.int hy]:=v7.of (s5 _ _ t4)
  have t3:v7 K G p3 [.int hx,.int (-hy)]:=v7.of (s5 _ _ (s4 _ _ t3))
  have t2:v7 K G p2 [.int (-hx),.int hy]:=v7.of (s5 _ _ (s4 _ _ (s3 _ _ t2)))
  have t1:v7 K G p1 [.int (-hx),.int (-hy)]:=v7.of (s5 _ _ (s4 _ _ (s3 _ _ (s2 _ _ t1))))
  have tc:v7 K G c [.ref p1,.ref p2,.ref p3,.ref p4]:=v7.of tc
  have sG:f9 H G:=s1.trans (s2.trans (s3.trans (s4.trans s5)))
  let bs:=[(-hx,-hy),(-hx,hy),(hx,-hy),(hx,hy)].map λc:Int×Int=>Mb.m7 (x-c.1) (y-c.2) wx wy r
  refine⟨_,rfl,c,rfl,⟨_,tc⟩,λD nD=> ?_⟩
  refine lcT nD tc (ys:=bs.map λb=>some (V.bl b)) rfl (by show 4<=sizeLine;decide) (λi v o H' hv ho sH=> ?_) (λH' sH hD=> ?_)
  ·intro Rt Rv _ hR
   obtain⟨p,cx,cy,rfl,tp,eo,hx1,hx2,hy1,hy2⟩:∃p cx cy,v=V.ref p/\v7 K G p [.int cx,.int cy]/\o=some (V.bl (Mb.m7 (x-cx) (y-cy) wx wy r))/\(cx=hx\/cx= -hx)/\True/\(cy=hy\/cy= -hy)/\True:=by
    match i,hv,ho with
    |0,hv,ho=>cases hv;cases ho;exact⟨_,_,_,rfl,t1,rfl,.inr rfl,trivial,.inr rfl,trivial⟩
    |1,hv,ho=>cases hv;cases ho;exact⟨_,_,_,rfl,t2,rfl,.inr rfl,trivial,.inl rfl,trivial⟩
    |2,hv,ho=>cases hv;cases ho;exact⟨_,_,_,rfl,t3,rfl,.inl rfl,trivial,.inr rfl,trivial⟩
    |3,hv,ho=>cases hv;cases ho;exact⟨_,_,_,rfl,t4,rfl,.inl rfl,trivial,.inl rfl,trivial⟩
    |i+4,hv,ho=>simp at hv
   have bx:Sm (x-cx):=by rcases hx1 with rfl|rfl;exact b2;rw[Int.sub_neg];exact b1
   have bY:Sm (y-cy):=by rcases hy1 with rfl|rfl;exact b4;rw[Int.sub_neg];exact b3
   refine⟨p,_,rfl,f9.tup sH tp,rfl,_,_,rfl,_,_,rfl,rfl,rfl,?_⟩
   refine B3 (B:=Rt H') ?_
   refine⟨_,rfl,_,rfl,_,rfl,a,x,y,wx,wy,cx,cy,rfl,f9.tup (sG.trans sH) ha,λq G' sG' _ tq=> ?_⟩
   refine⟨_,rfl,q,x-cx,y-cy,wx,wy,r,rfl,v7.of tq,⟨bx,bY,b5,b6,b11⟩,hR _ eo _ sG'⟩
  ·have e:(bs.map λb=>some (V.bl b)).filterMap id=bs.map V.bl:=by simp[a71]
   rw[e]at hD
   refine⟨D,bs,rfl,n9.of hD,?_⟩
   refine aX4 (k H' (sG.trans sH)) ?_
   unfold Mb.o9
   rw[if_neg (by rw[e0];decide),if_neg (by rw[e1,e2];decide)]
   rfl
end
def aq5:a8U->Int
 | .box _ _=>0
 | .ball _=>1
def hX:a8U->Int
 | .box a _=>a
 | .ball r=>r
def hY:a8U->Int
 | .box _ b=>b
 | .ball r=>r
def GdS:a8U->Prop
 | .box a b=>(1<=a/\a<=100000)/\1<=b/\b<=100000
 | .ball r=>1<=r/\r<=100000
structure Gd(b:a7s):Prop where
 sh:GdS b.shape
 ax: -20000000<=b.at_.x/\b.at_.x<=20000000
 ay: -20000000<=b.at_.y/\b.at_.y<=20000000
def Wy(n:Int):Prop:= -2000000<=n/\n<=2000000
def bdF(b:a7s)(ha pa va:Addr):List (Str×V):=
 [("ball",.int (aq5 b.shape)),("half",.ref ha),("place",.ref pa),("kind",.int b.kind),("hard",.int (a9i b.hard)),("heavy",.int (a9i b.heavy)),("velocity",.ref va)]
structure A9(K:Frag)(C:Addr)(H:Hp)(a:Addr)(b:a7s):Prop where
 ex:∃dx ha pa va,H a=some (.ins C dx (bdF b ha pa va))/\v7 K H ha [.int (hX b.shape),.int (hY b.shape)]/\v7 K H pa [.int b.at_.x,.int b.at_.y]/\v7 K H va [.int b.v.x,.int b.v.y]
theorem A9.same{K:Frag}{C:Addr}{H H':Hp}{a:Addr}{b:a7s}(h:A9 K C H a b)(s:f9 H H'):A9 K C H' a b:=by
 obtain⟨dx,ha,pa,va,h1,h2,h3,h4⟩:=h.ex
 exact⟨dx,ha,pa,va,s _ _ h1,f9.tup s h2,f9.tup s h3,f9.tup s h4⟩
def S5:a8U->a8U->Int->Int->Int->Int->Bool
 | .box a b,.box c e,x,y,wx,wy=>Mb.l9 x y wx wy (a+c) (b+e)
 | .ball r,.ball s,x,y,wx,wy=>Mb.m7 x y wx wy (r+s)
 | .box a b,.ball r,x,y,wx,wy=>Mb.o9 x y wx wy a b r
 | .ball r,.box a b,x,y,wx,wy=>Mb.o9 x y wx wy a b r
theorem S6{s t:a8U}{x y wx wy:Int}(hs:GdS s)(ht:GdS t):swept s t ⟨x,y⟩ ⟨wx,wy⟩=S5 s t x y wx wy:=by
 cases s with
 |box a b=>
  obtain⟨⟨h1,h2⟩,h3,h4⟩:=hs
  cases t with
  |box c e=>
   obtain⟨⟨g1,g2⟩,g3,g4⟩:=ht
   exact Mb.aX1 (by lia) (by lia)
  |ball r=>exact Mb.aQ3 (by lia) (by lia) (Int.lt_of_lt_of_le (by decide) ht.1)
 |ball r=>
  have h1:1<=r:=hs.1
  cases t with
  |box c e=>
   obtain⟨⟨g1,g2⟩,g3,g4⟩:=ht
   exact Mb.aQ3 (by lia) (by lia) (by lia)
  |ball q=>
   have g1:1<=q:=ht.1
   exact Mb.a0N (by lia)
structure ab9(K:Frag)(C:Addr):Prop where
 cl:Cls K C
 ball:J4 K C "ball"
 half:J4 K C "half"
 place:J4 K C "place"
 kind:J4 K C "kind"
 hard:J4 K C "hard"
 heavy:J4 K C "heavy"
 velocity:J4 K C "velocity"
end Mp
local macro_rules | `(tactic| walk_at "rd") => `(tactic| repeat' (first
  | refine ⟨_, rfl, ?_⟩
  | refine ⟨_, _, rfl, rfl, ?_⟩
  | refine ⟨_, _, rfl, ?_⟩
  | refine ⟨rfl, ?_⟩
  | refine And.intro (by assumption) ?_
  | refine And.intro (Mp.Sm.l (by assumption)) ?_
  | refine And.intro (Mp.Sm.r (by assumption)) ?_
  | refine ⟨_, _, _, _, rfl, rfl, by assumption, rfl, ?_⟩
  | refine ⟨_, _, _, _, _, rfl, by assumption, by assumption, by assumption, rfl, ?_⟩
  | with_reducible refine L2.B3 ?_
  | with_reducible refine L2.D9 ?_
  | refine L2.z8 (fun hh => ?_) (fun hh => ?_)))
namespace Mp
open PySem PySem.Spec PyProof.Rows L2
open PySem.W (Codec)
abbrev aX5:Stmt:=O7 10
section
variable{P:Program}{w:World}{K:Frag}{mg:Str->Option Value}{base:Heap}{C:Addr}
def af3(K:Frag)(C:Addr):Sp:=λvs H Q _=>∃(i j m n:Addr) (a b:a7s) (mx my nx ny:Int),vs=[.ref i,.ref j,.ref m,.ref n]/\A9 K C H i a/\A9 K C H j b/\v7 K H m [.int mx,.int my]/\v7 K H n [.int nx,.int ny]/\
 (Gd a/\Gd b/\Wy mx/\Wy my/\Wy nx/\Wy ny)/\∀H',f9 H H'->Q (.bl (Vbwsam.clashBy a b ⟨mx,my⟩ ⟨nx,ny⟩)) H'
theorem a0R:n8 ["one","other","one_way","other_way","line"] ["one","other","one_way","other_way"] (g9 aX5):=⟨rfl,rfl,rfl,by decide+kernel,rfl,by decide+kernel,by decide+kernel⟩
theorem a2R{f:Addr}{fd:FuncData}(F:M3 K "comes_within" "comes_within" aX5 f fd)(cB:ab9 K C)
 (Dbox:Df P w K mg base "crosses_box" 2 ["line","hx","hy"] (a0P K)) (Dball:Df P w K mg base "crosses_ball" 2 ["line","r"] (aJ7 K)) (Dround:Df P w K mg base "crosses_rounded" 2 ["line","hx","hy","r"] (aK0 K)):
 A7 P w K mg base M2 3 f fd ["one","other","one_way","other_way"] (af3 K C):=by
 refine F.ok a0R (λvs H Q E h=> ?_) (λcdv A outer s H vs Q E hr h=> ?_)
 ·obtain⟨i,j,m,n,a,b,mx,my,nx,ny,rfl,_⟩:=h
  rfl
 ·obtain⟨i,j,m,n,a,b,mx,my,nx,ny,rfl,hi,hj,hm,hn,⟨ga,gb,w1,w2,w3,w4⟩,k⟩:=h
  have nd:=a0R.nd
  obtain⟨cl,c1,c2,c3,-,-,-,-⟩:=cB
  obtain⟨di,hai,pai,vai,i1,i2,i3,i4⟩:=hi.ex
  obtain⟨dj,haj,paj,vaj,j1,j2,j3,j4⟩:=hj.ex
  have k':∀H',f9 H H'->Q (.bl (S5 a.shape b.shape (b.at_.x-a.at_.x) (b.at_.y-a.at_.y) (nx-mx) (ny-my))) H':=λH' s=>by
   rw[←S6 ga.sh gb.sh]
   exact k H' s
  clear k
  obtain⟨sa,⟨x1,x2⟩,⟨x3,x4⟩⟩:=ga
  obtain⟨sb,⟨y1,y2⟩,⟨y3,y4⟩⟩:=gb
  obtain⟨w1,w1'⟩:=w1
  obtain⟨w2,w2'⟩:=w2
  obtain⟨w3,w3'⟩:=w3
  obtain⟨w4,w4'⟩:=w4
  have q1:Sm (b.at_.x-a.at_.x):=⟨by lia,by lia⟩
  have q2:Sm (b.at_.y-a.at_.y):=⟨by lia,by lia⟩
  have q3:Sm (nx-mx):=⟨by lia,by lia⟩
  have q4:Sm (ny-my):=⟨by lia,by lia⟩
  refine⟨_,(e9 (j9 (i:=4) nd rfl (Or.inl rfl) (p8 (e8 (m9 F0 (i9 j5 (j7 (pv 1) rfl) f6 (λ_ _=>rfl)) (i9 j5 (j7 (pv 0) rfl) f6 (λ_ _=>rfl))) (e8 (m9 F0 (i9 j5 (j7 (pv 1) rfl) f6 (λ_ _=>rfl)) (i9 j5 (j7 (pv 0) rfl) f6 (λ_ _=>rfl))) (e8 (m9 F0 (i9 j5 (pv 3) f6 (λ_ _=>rfl)) (i9 j5 (pv 2) f6 (λ_ _=>rfl))) (e8 (m9 F0 (i9 j5 (pv 3) f6 (λ_ _=>rfl)) (i9 j5 (pv 2) f6 (λ_ _=>rfl))) f7))))))
   (e9 (B8 (S3 (o8 K5 (j7 (pv 0) rfl) f6 (t9 _)) (P9 (o8 K5 (j7 (pv 1) rfl) f6 (t9 _)))).pt
    (f8 (l8 (A0 Dball hr (by rfl) (e8 (pv 4) (e8 (m9 B0 (i9 j5 (j7 (pv 0) rfl) f6 (λ_ _=>rfl)) (i9 j5 (j7 (pv 1) rfl) f6 (λ_ _=>rfl))) f7)))))
    v8)
   (e9 (B8 (o8 K5 (j7 (pv 0) rfl) f6 (t9 _))
    (f8 (l8 (A0 Dround hr (by rfl) (e8 (pv 4) (e8 (i9 j5 (j7 (pv 1) rfl) f6 (λ_ _=>rfl)) (e8 (i9 j5 (j7 (pv 1) rfl) f6 (λ_ _=>rfl)) (e8 (i9 j5 (j7 (pv 0) rfl) f6 (λ_ _=>rfl)) f7)))))))
    v8)
   (e9 (B8 (o8 K5 (j7 (pv 1) rfl) f6 (t9 _))
    (f8 (l8 (A0 Dround hr (by rfl) (e8 (pv 4) (e8 (i9 j5 (j7 (pv 0) rfl) f6 (λ_ _=>rfl)) (e8 (i9 j5 (j7 (pv 0) rfl) f6 (λ_ _=>rfl)) (e8 (i9 j5 (j7 (pv 1) rfl) f6 (λ_ _=>rfl)) f7)))))))
    v8)
   (f8 (l8 (A0 Dbox hr (by rfl) (e8 (pv 4) (e8 (m9 B0 (i9 j5 (j7 (pv 0) rfl) f6 (λ_ _=>rfl)) (i9 j5 (j7 (pv 1) rfl) f6 (λ_ _=>rfl))) (e8 (m9 B0 (i9 j5 (j7 (pv 0) rfl) f6 (λ_ _=>rfl)) (i9 j5 (j7 (pv 1) rfl) f6 (λ_ _=>rfl))) f7)))))))))),?_⟩
  walk_at "rd"
  refine⟨by show 4<=sizeLine;decide,λl G sG _ tl=> ?_⟩
  have tl:v7 K G l [.int (b.at_.x-a.at_.x),.int (b.at_.y-a.at_.y),.int (nx-mx),.int (ny-my)]:=v7.of tl
  have i1:=sG _ _ i1
  have j1:=sG _ _ j1
  have i2:=f9.tup sG i2
  have j2:=f9.tup sG j2
  obtain⟨sha,ka,ra,ea,pa,va⟩:=a
  obtain⟨shb,kb,rb,eb,pb,vb⟩:=b
  clear hi hj i3 i4 j3 j4 hm hn
  dsimp only at*
  cases sha with
  |box ax ay=>
   obtain⟨⟨h1,h2⟩,h3,h4⟩:=sa
   cases shb with
   |box bx b_y=>
    obtain⟨⟨g1,g2⟩,g3,g4⟩:=sb
    walk_at "rd"
    all_goals try(rename_i hh;exact absurd hh (by simp[aq5]))
    exact⟨l,_,_,_,_,_,_,rfl,tl,⟨q1,q2,⟨by show _<ax+bx;lia,by show ax+bx<_;lia⟩,⟨by show _<ay+b_y;lia,by show ay+b_y<_;lia⟩⟩,k' G sG⟩
   |ball r=>
    obtain⟨g1,g2⟩:=sb
    walk_at "rd"
    all_goals try(rename_i hh;exact absurd hh (by simp[aq5]))
    exact⟨l,_,_,_,_,_,_,_,rfl,tl,⟨⟨by show _<_+ax;lia,by show _+ax<_;lia⟩,⟨by show _<_-ax;lia,by show _-ax<_;lia⟩,⟨by show _<_+ay;lia,by show _+ay<_;lia⟩,⟨by show _<_-ay;lia,by show _-ay<_;lia⟩,q3,q4,⟨by show _<ax+r;lia,by show ax+r<_;lia⟩,⟨by show _<ay+r;lia,by show ay+r<_;lia⟩,
     ⟨by show _<ax;lia,by show ax<_;lia⟩,⟨by show _<ay;lia,by show ay<_;lia⟩,⟨by show _<r;lia,by show r<_;lia⟩,q1,q2⟩,λH' s'=>k' H' (sG.trans s')⟩
  |ball u=>
   obtain⟨h1,h2⟩:=sa
   cases shb with
   |box ax ay=>
    obtain⟨⟨g1,g2⟩,g3,g4⟩:=sb
    walk_at "rd"
    all_goals try(rename_i hh;exact absurd hh (by simp[aq5]))
    exact⟨l,_,_,_,_,_,_,_,rfl,tl,⟨⟨by show _<_+ax;lia,by show _+ax<_;lia⟩,⟨by show _<_-ax;lia,by show _-ax<_;lia⟩,⟨by show _<_+ay;lia,by show _+ay<_;lia⟩,⟨by show _<_-ay;lia,by show _-ay<_;lia⟩,q3,q4,⟨by show _<ax+u;lia,by show ax+u<_;lia⟩,⟨by show _<ay+u;lia,by show ay+u<_;lia⟩,
     ⟨by show _<ax;lia,by show ax<_;lia⟩,⟨by show _<ay;lia,by show ay<_;lia⟩,⟨by show _<u;lia,by show u<_;lia⟩,q1,q2⟩,λH' s'=>k' H' (sG.trans s')⟩
   |ball r=>
    obtain⟨g1,g2⟩:=sb
    walk_at "rd"
    all_goals try(rename_i hh;exact absurd hh (by simp[aq5]))
    exact⟨l,_,_,_,_,_,rfl,tl,⟨q1,q2,q3,q4,⟨by show _<u+r;lia,by show u+r<_;lia⟩⟩,k' G sG⟩
end
theorem f9.app{H0 H':Hp}{p:Addr}{o:HO}(n:H0 p=Option.none)(s:f9 H0 H'):f9 H0 (A6 H' p o):=λb u e=>by
 rw[j6 (j0 e n)]
 exact s _ _ e
def Kp(l:Addr)(H G:Hp):Prop:=∀b o,b≠l->H b=some o->G b=some o
theorem Kp.same{l:Addr}{H0 H G:Hp}(k:Kp l H G)(s:f9 H0 H)(n:H0 l=Option.none):f9 H0 G:=λb o e=>k b o (j0 e n) (s b o e)
theorem Kp.tup{K:Frag}{l q:Addr}{H G:Hp}{xs ys:List V}(k:Kp l H G)(hl:H l=some (.lst ys))(h:v7 K H q xs):v7 K G q xs:=by
 rcases h with(h|⟨o',h⟩)|h
 ·exact .inl (.inl (k _ _ (B7 h hl (by intro z;cases z)) h))
 ·exact .inl (.inr ⟨o',k _ _ (B7 h hl (by intro z;cases z)) h⟩)
 ·exact .inr h
theorem Kp.body{K:Frag}{C l a:Addr}{H G:Hp}{ys:List V}{b:a7s}(k:Kp l H G)(hl:H l=some (.lst ys))(h:A9 K C H a b):A9 K C G a b:=by
 obtain⟨dx,ha,pa,va,h1,h2,h3,h4⟩:=h.ex
 exact⟨dx,ha,pa,va,k _ _ (B7 h1 hl (by intro z;cases z)) h1,k.tup hl h2,k.tup hl h3,k.tup hl h4⟩
def a2S:V->List V->Hp->VK->Prop:=λx vs H Q=>∃l xs y,x= .ref l/\vs=[y]/\H l=some (.lst xs)/\xs.length<sizeLine/\∀G,Kp l H G->G l=some (.lst (xs++[y]))->Q .non G
theorem D2{X:Cx}:MtM X "list.append" a2S:=λa7q s U H x xs v us Q I rx rxs h=>by
 obtain⟨l,ys,y,e1,e2,h1,h2,k⟩:=h
 exact a1D a7q s U H x xs v us Q I rx rxs ⟨l,ys,y,e1,e2,h1,h2,k _ (λb o n e=>by rw[j6 n];exact e) i8⟩
def rc(b:a7s):List Int:=
 [min b.at_.x (b.at_.x+b.v.x)-hX b.shape,max b.at_.x (b.at_.x+b.v.x)+hX b.shape,min b.at_.y (b.at_.y+b.v.y)-hY b.shape,max b.at_.y (b.at_.y+b.v.y)+hY b.shape]
abbrev ah4:Stmt:=O7 24
abbrev an5:Stmt:=O7 25
section
variable{P:Program}{w:World}{K:Frag}{mg:Str->Option Value}{base:Heap}{C:Addr}
def aK1(K:Frag)(C:Addr):Sp:=λvs H Q _=>∃(a:Addr) (b:a7s),vs=[.ref a]/\A9 K C H a b/\∀p H',f9 H H'->H p=none->H' p=some (.lst ((rc b).map V.int))->Q (.ref p) H'
theorem aq6:n8 ["body","reach","axis","begin","end"] ["body"] (g9 ah4):=⟨rfl,rfl,rfl,by decide+kernel,rfl,by decide+kernel,by decide+kernel⟩
theorem aQ4{f:Addr}{fd:FuncData}(F:M3 K "reach_of" "reach_of" ah4 f fd)(T:Txt K mg)(cB:ab9 K C):A7 P w K mg base M2 1 f fd ["body"] (aK1 K C):=by
 refine F.ok aq6 (λvs H Q E h=> ?_) (λcdv A outer s H vs Q E hr h=> ?_)
 ·obtain⟨a,b,rfl,_⟩:=h
  rfl
 ·obtain⟨a,b,rfl,ha,k⟩:=h
  have nd:=aq6.nd
  obtain⟨cl,-,c2,c3,-,-,-,c7⟩:=cB
  refine⟨_,(e9 (j9 (i:=1) nd rfl (Or.inl rfl) (y6 f7))
   (e9 (E9 PassesOwn.never rfl (aI4 (p8 (e8 f6 (e8 f6 f7)))) (z9 (i:=2) nd rfl (Or.inl rfl))
    (e9 (j9 (i:=3) nd rfl (Or.inl rfl) (i9 j5 (j7 (pv 0) rfl) (pv 2) (λ_ _=>rfl)))
    (e9 (j9 (i:=4) nd rfl (Or.inl rfl) (m9 B0 (pv 3) (i9 j5 (j7 (pv 0) rfl) (pv 2) (λ_ _=>rfl))))
    (e9 (C2 (M1 a7Q a8c a8d D2 (pv 1) (e8 (m9 F0 (v6 (af0 rfl) (by rfl) T.b_min boot_min (e8 (pv 3) (e8 (pv 4) f7))) (i9 j5 (j7 (pv 0) rfl) (pv 2) (λ_ _=>rfl))) f7)))
    (f8 (C2 (M1 a7Q a8c a8d D2 (pv 1) (e8 (m9 B0 (v6 (ae9 rfl) (by rfl) T.b_max boot_max (e8 (pv 3) (e8 (pv 4) f7))) (i9 j5 (j7 (pv 0) rfl) (pv 2) (λ_ _=>rfl))) f7))))))))
   (f8 (l8 (pv 1))))),?_⟩
  refine⟨a8n _,λp G s1 n1 t1=> ?_⟩
  refine⟨by show 2<=sizeLine;decide,λq G2 s2 n2 t2=>⟨q,rfl,⟨_,v7.of t2⟩,aI5 (K:=K) (a:=q) (xs:=[V.int 0,V.int 1]) (λi U H'=>(∃u v w:Option V,U=[some (.ref a),some (.ref p),u,v,w])/\f9 H H'/\H' p=some (.lst (((rc b).take (2*i)).map V.int))/\v7 K H' q [.int 0,.int 1])
   ⟨⟨none,none,none,rfl⟩,s1.trans s2,s2 _ _ t1,v7.of t2⟩ (λi U H' _ h=>h.2.2.2) ?_ ?_⟩⟩
  ·rintro i x U H' hx ⟨⟨u,v,w',rfl⟩,sH,hp,hq⟩
   obtain⟨di,hai,pai,vai,i1,i2,i3,i4⟩:=(ha.same sH).ex
   match i,hx with
   |0,hx=>
    cases hx
    walk_at "rd"
    refine And.intro (.inl ⟨rfl,_,n9.of hp⟩) ?_
    walk_at "rd"
    refine⟨p,_,_,rfl,rfl,hp,by show 0<sizeLine;decide,λG1 kG tG=> ?_⟩
    have i1:=kG _ _ (B7 i1 hp (by intro z;cases z)) i1
    have i2:=kG.tup hp i2
    walk_at "rd"
    refine And.intro (.inl ⟨rfl,_,n9.of tG⟩) ?_
    walk_at "rd"
    refine⟨p,_,_,rfl,rfl,tG,by show 1<sizeLine;decide,λG3 kG3 tG3=> ?_⟩
    refine⟨⟨_,_,_,rfl⟩,kG3.same (kG.same sH n1) n1,?_,kG3.tup tG (kG.tup hp hq)⟩
    rw[tG3]
    simp only[aX2,aX3]
    rfl
   |1,hx=>
    cases hx
    walk_at "rd"
    refine And.intro (.inl ⟨rfl,_,n9.of hp⟩) ?_
    walk_at "rd"
    refine⟨p,_,_,rfl,rfl,hp,by show 2<sizeLine;decide,λG1 kG tG=> ?_⟩
    have i1:=kG _ _ (B7 i1 hp (by intro z;cases z)) i1
    have i2:=kG.tup hp i2
    walk_at "rd"
    refine And.intro (.inl ⟨rfl,_,n9.of tG⟩) ?_
    walk_at "rd"
    refine⟨p,_,_,rfl,rfl,tG,by show 3<sizeLine;decide,λG3 kG3 tG3=> ?_⟩
    refine⟨⟨_,_,_,rfl⟩,kG3.same (kG.same sH n1) n1,?_,kG3.tup tG (kG.tup hp hq)⟩
    rw[tG3]
    simp only[aX2,aX3]
    rfl
   |i+2,hx=>simp at hx
  ·rintro U H' ⟨⟨u,v,w',rfl⟩,sH,hp,hq⟩
   exact⟨_,rfl,k p H' sH n1 hp⟩
def ovl(a b:a7s):Bool:=
 decide (min a.at_.x (a.at_.x+a.v.x)-hX a.shape<max b.at_.x (b.at_.x+b.v.x)+hX b.shape)&&(decide (min b.at_.x (b.at_.x+b.v.x)-hX b.shape<max a.at_.x (a.at_.x+a.v.x)+hX a.shape)&&
 (decide (min a.at_.y (a.at_.y+a.v.y)-hY a.shape<max b.at_.y (b.at_.y+b.v.y)+hY b.shape)&&decide (min b.at_.y (b.at_.y+b.v.y)-hY b.shape<max a.at_.y (a.at_.y+a.v.y)+hY a.shape)))
def an6(K:Frag):Sp:=λvs H Q _=>∃(p q:Addr) (a b:a7s),vs=[.ref p,.ref q]/\n9 K H p ((rc a).map V.int)/\n9 K H q ((rc b).map V.int)/\Q (.bl (ovl a b)) H
theorem aX6:n8 ["one","other"] ["one","other"] (g9 an5):=⟨rfl,rfl,rfl,by decide+kernel,rfl,by decide+kernel,by decide+kernel⟩
theorem aX7{f:Addr}{fd:FuncData}(F:M3 K "overlap" "overlap" an5 f fd):A7 P w K mg base M2 1 f fd ["one","other"] (an6 K):=by
 refine F.ok aX6 (λvs H Q E h=> ?_) (λcdv A outer s H vs Q E hr h=> ?_)
 ·obtain⟨p,q,a,b,rfl,_⟩:=h
  rfl
 ·obtain⟨p,q,a,b,rfl,hp,hq,k⟩:=h
  refine⟨_,(f8 (l8 (aV4 (R5 S4 (i9 l6 (pv 0) f6 (λ_ _=>rfl)) (i9 l6 (pv 1) f6 (λ_ _=>rfl)) (t9 _)) (aV4 (R5 S4 (i9 l6 (pv 1) f6 (λ_ _=>rfl)) (i9 l6 (pv 0) f6 (λ_ _=>rfl)) (t9 _)) (aV4 (R5 S4 (i9 l6 (pv 0) f6 (λ_ _=>rfl)) (i9 l6 (pv 1) f6 (λ_ _=>rfl)) (t9 _)) (a48 (R5 S4 (i9 l6 (pv 1) f6 (λ_ _=>rfl)) (i9 l6 (pv 0) f6 (λ_ _=>rfl)) (t9 _)))))))),?_⟩
  walk_at "rd"
  all_goals refine aX4 k ?_
  all_goals simp only[decide_eq_true_eq]at*
  all_goals unfold ovl
  ·simp only[*,decide_true,a9m]
  ·simp only[*,decide_true,a9m,decide_false,a9H]
  ·simp only[*,decide_true,a9m,decide_false,a9H]
  ·simp only[*,decide_true,a9m,decide_false,a9H]
end
section
variable{K:Frag}{a:Addr}{xs:List V}{g:TG}{tt:TT}{te:TE}{vs:List Nat}{U:L2.St}{H1:Hp}{β:Type}{os:List (Option β)}{D:Addr}{Qd:Hp->Prop}
theorem Paired.monoP{α β:Type}{F G:α->β->Prop}(h:∀a b,F a b->G a b):∀{l:List α} {m:List β},Paired F l m->Paired G l m
 |_,_,.nil=> .nil
 |_,_,.cons r t=> .cons (h _ _ r) (Paired.monoP h t)
theorem Paired.at_{α β:Type}{F:α->β->Prop}:∀{l:List α} {m:List β} {i:Nat} {x:α},Paired F l m->l[i]? =some x->∃y,m[i]? =some y/\F x y
 |_,_,_,_,.nil,e=>by simp at e
 |_,_,0,x,.cons r t,e=>by
  have e:_=x:=a7v e
  subst e
  exact⟨_,rfl,r⟩
 |_,_,i+1,x,.cons r t,e=>Paired.at_ (i:=i) t e
theorem Paired.at2{α β:Type}{F:α->β->Prop}:∀{l:List α} {m:List β} {i:Nat} {y:β},Paired F l m->m[i]? =some y->∃x,l[i]? =some x/\F x y
 |_,_,_,_,.nil,e=>by simp at e
 |_,_,0,y,.cons r t,e=>by
  have e:_=y:=a7v e
  subst e
  exact⟨_,rfl,r⟩
 |_,_,i+1,y,.cons r t,e=>Paired.at2 (i:=i) t e
theorem aj7{os:List (Option β)}{i:Nat}{o:Option β}(h:os[i]? =some o):(os.take (i+1)).filterMap id=(os.take i).filterMap id++o.toList:=by
 rw[K2 h,a9K]
 cases o<;>rfl
theorem a2T{os:List (Option β)}{i:Nat}(hi:i<os.length):((os.take i).filterMap id).length<os.length:=by
 refine a8l (List.length_filterMap_le _ _) ?_
 rw[a8L]
 lia
def a0S(g:TG)(tt:TT)(te:TE)(vs:List Nat)(U:L2.St)(R:β->V->Hp->Prop)(x:V)(o:Option β)(H:Hp):Prop:=
 ∀(Rt:Hp->Prop) (Rv:V->Hp->Prop),(o=Option.none->∀G,f9 H G->Rt G)->(∀b,o=some b->∀y G,f9 H G->R b y G->Rv y G)->
  g x (D1 U vs) H λσ2 H2=>D1 σ2 vs=D1 U vs/\tt σ2 H2 λb H3=>if b=true then te σ2 H3 Rv else Rt H3
theorem lcR(nD:H1 D=Option.none)(hl:n9 K H1 a xs)(hlen:os.length=xs.length)(hz:os.length<=sizeLine)(R:β->V->Hp->Prop)
 (mono:∀b y H G ys,H D=some (.lst ys)->R b y H->Kp D H G->R b y G)
 (st:∀(i:Nat) (x:V) (o:Option β) (H:Hp) (ys:List V),xs[i]? =some x->os[i]? =some o->f9 H1 H->H D=some (.lst ys)->a0S g tt te vs U R x o H)
 (O3:∀(H:Hp) (acc:List V),f9 H1 H->H D=some (.lst acc)->Paired (λb y=>R b y H) (os.filterMap id) acc->Qd H):
 ∃W:Nat->Nat->Hp->Prop,(∃m,W 0 m (A6 H1 D (.lst [])))/\∀i m H,W i m H->
  ((Itl K a).stop i H/\Qd H)\/((Itl K a).go i H/\∃Nx:Hp->Prop,(∀H',Nx H'->∃m',m'<m/\W (i+1) m' H')/\∀x H',(Itl K a).yld i H x H'->g x (D1 U vs) H' λσ2 H2=>D1 σ2 vs=D1 U vs/\tt σ2 H2 λb H3=>
    if b=true then te σ2 H3 λy H4=>∃acc,H4 D=some (.lst acc)/\acc.length<sizeLine/\Nx (A6 H4 D (.lst (acc++[y])))else Nx H3):=by
 refine a0F (xs:=xs) (Qd:=Qd) (λi H=>f9 H1 H/\∃acc,H D=some (.lst acc)/\Paired (λb y=>R b y H) ((os.take i).filterMap id) acc) ⟨f9.new nD,[],i8,.nil⟩ (λi H _ h=>h.1.seq hl) (λi x H hx h=> ?_) (λH h=> ?_)
 ·obtain⟨s1,acc,hD,hP⟩:=h
  have hi:i<os.length:=by rw[hlen];exact(a7x.mp hx).1
  have ho:=a7u hi
  refine st i x _ H acc hx ho s1 hD _ _ (λe G s2=> ?_) (λb e y G s2 hy=> ?_)
  ·refine⟨s1.trans s2,acc,s2 _ _ hD,?_⟩
   rw[aj7 ho,e]
   show Paired _ (_++[]) _
   rw[a72]
   exact Paired.monoP (λb' y' r=>mono b' y' H G acc hD r λ_ _ _ e'=>s2 _ _ e') hP
  ·have hz':acc.length<sizeLine:=by
    rw[←Paired.length hP]
    exact a7Y (a2T hi) hz
   have hP2:Paired (λb y=>R b y G) ((os.take i).filterMap id) acc:=Paired.monoP (λb' y' r=>mono b' y' H G acc hD r λ_ _ _ e'=>s2 _ _ e') hP
   refine⟨acc,s2 _ _ hD,hz',f9.app nD (s1.trans s2),acc++[y],i8,?_⟩
   rw[aj7 ho,e]
   exact Paired.snoc (Paired.monoP (λb' y' r=>mono b' y' G _ acc (s2 _ _ hD) r λ_ _ n e'=>by rw[j6 n];exact e') hP2) (mono b y G _ acc (s2 _ _ hD) hy λ_ _ n e'=>by rw[j6 n];exact e')
 ·obtain⟨s1,acc,hD,hP⟩:=h
  rw[←hlen,a8o]at hP
  exact O3 H acc s1 hD hP
end
def T2(K:Frag)(x y:Int)(v:V)(H:Hp):Prop:=∃q,v= .ref q/\v7 K H q [.int x,.int y]
theorem T2.same{K:Frag}{x y:Int}{v:V}{H G:Hp}(h:T2 K x y v H)(s:f9 H G):T2 K x y v G:=by
 obtain⟨q,e,h⟩:=h
 exact⟨q,e,f9.tup s h⟩
theorem T2.kp{K:Frag}{x y:Int}{v:V}{H G:Hp}{l:Addr}{ys:List V}(h:T2 K x y v H)(hl:H l=some (.lst ys))(k:Kp l H G):T2 K x y v G:=by
 obtain⟨q,e,h⟩:=h
 exact⟨q,e,k.tup hl h⟩
structure A2(K:Frag)(H:Hp)(l:Addr)(ps:List (Nat×Nat)):Prop where
 ex:∃ys,H l=some (.lst ys)/\Paired (λ(p:Nat×Nat) y=>T2 K p.1 p.2 y H) ps ys
theorem A2.same{K:Frag}{H G:Hp}{l:Addr}{ps:List (Nat×Nat)}(h:A2 K H l ps)(s:f9 H G):A2 K G l ps:=by
 obtain⟨ys,h1,h2⟩:=h.ex
 exact⟨ys,s _ _ h1,Paired.monoP (λ_ _ r=>T2.same r s) h2⟩
structure m8(K:Frag)(C:Addr)(H:Hp)(l:Addr)(as:List Addr)(bs:List a7s):Prop where
 lst:H l=some (.lst (as.map V.ref))
 nd:as.Nodup
 bd:Paired (λa b=>A9 K C H a b) as bs
theorem m8.same{K:Frag}{C:Addr}{H G:Hp}{l:Addr}{as:List Addr}{bs:List a7s}(h:m8 K C H l as bs)(s:f9 H G):m8 K C G l as bs:=
 ⟨s _ _ h.lst,h.nd,Paired.monoP (λ_ _ r=>A9.same r s) h.bd⟩
theorem m8.len{K:Frag}{C:Addr}{H:Hp}{l:Addr}{as:List Addr}{bs:List a7s}(h:m8 K C H l as bs):as.length=bs.length:=Paired.length h.bd
theorem m8.item{K:Frag}{C:Addr}{H:Hp}{l:Addr}{as:List Addr}{bs:List a7s}(h:m8 K C H l as bs){i:Nat}{x:V}(e:(as.map V.ref)[i]? =some x):∃a b,x= .ref a/\as[i]? =some a/\bs[i]? =some b/\A9 K C H a b:=by
 rw[a7t]at e
 cases q:as[i]? with
 |none=>rw[q]at e;cases e
 |some a=>
  rw[q]at e
  obtain⟨b,hb,r⟩:=Paired.at_ h.bd q
  exact⟨a,b,(a7v e).symm,rfl,hb,r⟩
theorem aF4(i:Nat):∀n,(a7J n).filter (λj=>decide (i<j))=(a7J (n-(i+1))).map λk=>i+1+k
 |0=>by simp
 |n+1=>by
  rw[a8W,a9e,aF4 i n]
  by_cases h:i<n
  ·have e:n+1-(i+1)=(n-(i+1))+1:=by lia
   rw[e,a8W,a8m]
   simp[h]
   lia
  ·have e:n+1-(i+1)=0:=by lia
   have e2:n-(i+1)=0:=by lia
   rw[e,e2]
   simp[h]
def row(n i:Nat):List (Nat×Nat):=(a7J (n-(i+1))).map λk=>(i,i+1+k)
theorem ah5(n:Nat):Vbwsam.pairsOf n=(a7J n).flatMap (row n):=by
 unfold Vbwsam.pairsOf
 congr 1
 funext i
 rw[aF4,a8s]
 rfl
theorem aj8(n:Nat):∀i,((a7J i).flatMap (row n)).length<=i*n
 |0=>by simp
 |i+1=>by
  have ih:=aj8 n i
  have e:((a7J (i+1)).flatMap (row n)).length=((a7J i).flatMap (row n)).length+(row n i).length:=by
   rw[a8W,a8q,a7M]
   simp
  have e2:(row n i).length<=n:=by unfold row;rw[a7r,a70];lia
  rw[e,Nat.add_mul]
  lia
def L4(bs:List a7s):List (Nat×Nat):=(Vbwsam.pairsOf bs.length).filter λp=>ovl (bodyAt bs p.1) (bodyAt bs p.2)
theorem aw2(i:Nat):a7J (i+1)=a7J i++[i]:=a8W
theorem A2.app{K:Frag}{H G G':Hp}{l q:Addr}{ps:List (Nat×Nat)}{i j:Nat}(h:A2 K H l ps)(s:f9 H G)(hq:v7 K G q [.int i,.int j])(k:Kp l G G')
 (e:∀ys,G l=some (.lst ys)->G' l=some (.lst (ys++[.ref q]))):A2 K G' l (ps++[(i,j)]):=by
 obtain⟨ys,h1,h2⟩:=h.ex
 have h1':=s _ _ h1
 refine⟨_,e _ h1',Paired.snoc (Paired.monoP (λ_ _ r=>T2.kp (T2.same r s) h1' k) h2) ?_⟩
 exact⟨q,rfl,k.tup h1' hq⟩
abbrev R6:Stmt:=O7 26
section
variable{P:Program}{w:World}{K:Frag}{mg:Str->Option Value}{base:Heap}{C:Addr}
def aX8(K:Frag)(C:Addr):Sp:=λvs H Q _=>∃(l:Addr) (as:List Addr) (bs:List a7s),vs=[.ref l]/\m8 K C H l as bs/\bs.length<=20/\∀p H',f9 H H'->H p=none->A2 K H' p (L4 bs)->Q (.ref p) H'
theorem ag1:n8 ["bodies","reaches","pairs","lesser","greater","body"] ["bodies"] (g9 R6):=⟨rfl,rfl,rfl,by decide+kernel,rfl,by decide+kernel,by decide+kernel⟩
theorem aC5{f:Addr}{fd:FuncData}(F:M3 K "near_pairs" "near_pairs" R6 f fd)(T:Txt K mg)(b_range:mg "range"=none)
 (D_reach_of:Df P w K mg base "reach_of" 1 ["body"] (aK1 K C)) (D_overlap:Df P w K mg base "overlap" 1 ["one","other"] (an6 K)):A7 P w K mg base M2 2 f fd ["bodies"] (aX8 K C):=by
 refine F.ok ag1 (λvs H Q E h=> ?_) (λcdv A outer s H vs Q E hr h=> ?_)
 ·obtain⟨l,as,bs,rfl,_⟩:=h
  rfl
 ·obtain⟨l,as,bs,rfl,hB,h20,k⟩:=h
  have nd:=ag1.nd
  refine⟨_,(e9 (L3 (i:=1) rfl nd rfl rfl rfl (own:=[("body",5)]) (A3 (pv 0)) (by show E5 ["bodies","reaches","pairs","lesser","greater","body"] (g9 R6) _ _;exact⟨rfl,by decide+kernel,by decide+kernel,by decide+kernel,by decide+kernel⟩)
   (λ_ _ _ _ _=>by exact z9 (i:=5) nd (by rfl) (by exact Or.inl rfl) (by exact Or.inr rfl))
   (λ_ _ _ _ _=>by exact D8)
   (λ_ _ _ _ _=>by exact(A0 D_reach_of hr (by rfl) (e8 (pv 5) f7))))
   (e9 (j9 (i:=2) nd rfl (Or.inl rfl) (y6 f7))
   (e9 (E9 PassesOwn.never rfl (ae7 (by rfl) b_range (e8 (v6 A4 (by rfl) T.b_len PySem.boot_len (e8 (pv 0) f7)) f7)) (z9 (i:=3) nd rfl (Or.inl rfl))
    (f8 (E9 PassesOwn.never rfl (a1u (by rfl) b_range (e8 (m9 B0 (pv 3) f6) (e8 (v6 A4 (by rfl) T.b_len PySem.boot_len (e8 (pv 0) f7)) f7))) (z9 (i:=4) nd rfl (Or.inl rfl))
     (f8 (B8 (N3 (A0 D_overlap hr (by rfl) (e8 (i9 l6 (pv 1) (pv 3) (λ_ _=>rfl)) (e8 (i9 l6 (pv 1) (pv 4) (λ_ _=>rfl)) f7))))
      (f8 (C2 (M1 a7Q a8c a8d D2 (pv 2) (e8 (p8 (e8 (pv 3) (e8 (pv 4) f7))) f7))))
      v8)))))
   (f8 (l8 (pv 2)))))),?_⟩
  have hn:=hB.len
  refine⟨_,rfl,l,rfl,⟨_,n9.of hB.lst⟩,λD nD=> ?_⟩
  refine lcR nD (n9.of hB.lst) (os:=bs.map some) (by rw[a7r,a7r,hn]) (by rw[a7r];exact a7G h20 (by decide)) (λb y H=>∃q,y=V.ref q/\q≠D/\H q=some (.lst ((rc b).map V.int)))
   (λb y H G ys _ ⟨q,e1,e2,e3⟩ kG=>⟨q,e1,e2,kG _ _ e2 e3⟩) (λi x o H' ys hx ho sH hD=> ?_) (λG acc sG hD hP=> ?_)
  ·intro Rt Rv _ hR
   obtain⟨a,b,rfl,ha,hb,hbd⟩:=hB.item hx
   rw[a7t,hb]at ho
   refine⟨rfl,B3 (B:=Rt H') ?_⟩
   refine⟨_,rfl,a,b,rfl,hbd.same sH,λp G sG hp tp=>hR b (a7v ho).symm _ G sG ⟨p,rfl,?_,tp⟩⟩
   rintro rfl
   rw[hp]at hD
   cases hD
  ·rw[show(bs.map some).filterMap id=bs by simp[a71]]at hP
   refine⟨a8n _,λpp G2 s2 n2 t2=> ?_⟩
   have hB2:=hB.same (sG.trans s2)
   refine⟨_,rfl,l,_,rfl,.inl (n9.of hB2.lst),_,rfl,by rw[a7r,hn];lia,by rw[a7r,hn];lia,?_⟩
   let ov:=λp:Nat×Nat=>ovl (bodyAt bs p.1) (bodyAt bs p.2)
   have rc_at:∀{G3:Hp} {j:Nat},f9 G G3->j<bs.length->∃q,n9 K G3 D acc/\acc[j]? =some (V.ref q)/\n9 K G3 q ((rc (bodyAt bs j)).map V.int):=λ{G3 j} s3 hj=>by
    obtain⟨y,hy,q,rfl,_,hq⟩:=Paired.at_ hP (a7u hj)
    refine⟨q,n9.of (s3 _ _ hD),hy,n9.of ?_⟩
    have e:bodyAt bs j=bs[j]:=by unfold bodyAt;rw[a7y,a7u hj];rfl
    rw[e]
    exact s3 _ _ hq
   have e1:(((as.map V.ref).length:Nat):Int).toNat=bs.length:=by rw[a7r,hn];lia
   rw[e1]
   refine ae8 (lo:=0) (n:=bs.length) (λi U H'=>(∃u v z:Option V,U=[some (.ref l),some (.ref D),some (.ref pp),u,v,z])/\f9 G H'/\A2 K H' pp (((a7J i).flatMap (row bs.length)).filter ov))
    ⟨⟨none,none,none,rfl⟩,s2,⟨_,t2,.nil⟩⟩ ?_ ?_
   ·rintro i U H' hi ⟨⟨u,v,z,rfl⟩,s3,hPP⟩
    have hB3:=hB.same (sG.trans s3)
    refine⟨_,rfl,_,_,rfl,rfl,_,rfl,l,_,rfl,.inl (n9.of hB3.lst),_,_,rfl,⟨by lia,by lia,by lia,by rw[a7r,hn];lia⟩,?_⟩
    have e2:((((as.map V.ref).length:Nat):Int)-(0+(i:Int)+1)).toNat=bs.length-(i+1):=by rw[a7r,hn];lia
    rw[e2]
    refine ae8 (lo:=0+(i:Int)+1) (n:=bs.length-(i+1)) (λk U H'=>(∃v z:Option V,U=[some (.ref l),some (.ref D),some (.ref pp),some (.int (0+(i:Int))),v,z])/\f9 G H'/\A2 K H' pp (((a7J i).flatMap (row bs.length)).filter ov++((a7J k).map λk=>(i,i+1+k)).filter ov))
     ⟨⟨v,z,rfl⟩,s3,by rw[List.range_zero];show A2 K H' pp (_++[]);rw[a72];exact hPP⟩ ?_ ?_
    ·rintro k U H3 hk ⟨⟨v,z,rfl⟩,s4,hP4⟩
     obtain⟨q1,l1,a1,r1⟩:=rc_at s4 hi
     obtain⟨q2,l2,a2,r2⟩:=rc_at s4 (show i+1+k<bs.length by lia)
     refine⟨_,rfl,_,rfl,D,acc,_,_,rfl,rfl,l1,a2J (j:=i) (by lia) a1,?_⟩
     refine⟨_,rfl,_,rfl,D,acc,_,_,rfl,rfl,l1,a2J (j:=i+1+k) (by lia) a2,?_⟩
     refine⟨q1,q2,_,_,rfl,r1,r2,_,rfl,?_⟩
     have e3:((a7J (k+1)).map λk=>(i,i+1+k)).filter ov=((a7J k).map λk=>(i,i+1+k)).filter ov++(if ov (i,i+1+k)=true then [(i,i+1+k)]else []):=by
      rw[aw2,a8m,a9e]
      congr 1
      show List.filter ov [(i,i+1+k)]=_
      rw[a8b,filter_nil]
     refine z8 (λhh=> ?_) (λhh=> ?_)
     ·rw[e3,if_pos hh]
      refine⟨_,rfl,.inl ⟨rfl,_,n9.of hP4.ex.choose_spec.1⟩,?_⟩
      walk_at "rd"
      refine⟨by show 2<=sizeLine;decide,λq G5 s5 _ t5=> ?_⟩
      obtain⟨ys,y1,y2⟩:=hP4.ex
      have hlen:ys.length<sizeLine:=by
       rw[←Paired.length y2,a7M]
       have m1:=a75 ov ((a7J i).flatMap (row bs.length))
       have m2:=aj8 bs.length i
       have m3:=a75 ov ((a7J k).map λk=>(i,i+1+k))
       rw[a7r,a70]at m3
       have m4:i*bs.length<=20*20:=Nat.mul_le_mul (by lia) h20
       have m5:sizeLine=16777216:=sizeLine_eq
       lia
      refine⟨pp,ys,_,rfl,rfl,s5 _ _ y1,hlen,λG6 k6 t6=> ?_⟩
      refine⟨⟨_,_,rfl⟩,k6.same (s4.trans s5) n2,?_⟩
      rw[←a82]
      refine hP4.app (q:=q) s5 (v7.of ?_) k6 λys' e'=> ?_
      ·rw[t5]
       show some (HO.tup [V.int (0+(i:Int)),V.int (0+(i:Int)+1+(k:Int))])=_
       congr 4
       ·lia
       ·congr 2
        lia
      ·rw[s5 _ _ y1]at e'
       cases e'
       exact t6
     ·rw[e3,if_neg hh,a72]
      exact⟨⟨_,_,rfl⟩,s4,hP4⟩
    ·rintro U H3 ⟨⟨v,z,rfl⟩,s4,hP4⟩
     refine⟨⟨_,_,_,rfl⟩,s4,?_⟩
     rw[aw2,a8q,a9e]
     show A2 K H3 pp (_++List.filter ov (row bs.length i++[]))
     rw[a72]
     exact hP4
   ·rintro U H' ⟨⟨u,v,z,rfl⟩,s3,hPP⟩
    refine⟨_,rfl,k pp H' (sG.trans s3) (sG.free n2) ?_⟩
    unfold L4
    rw[ah5]
    exact hPP
end
theorem Paired.setP{α β:Type}{F:α->β->Prop}{x:α}{y:β}(r:F x y):∀{l:List α} {m:List β} (i:Nat),Paired F l m->Paired F (l.set i x) (m.set i y)
 |_,_,_,.nil=> .nil
 |_,_,0,.cons _ t=> .cons r t
 |_,_,i+1,.cons q t=> .cons q (Paired.setP r i t)
theorem Kp.tupD{K:Frag}{l q:Addr}{H G:Hp}{xs:List V}{kvs:List (M0×V)}(k:Kp l H G)(hl:H l=some (.dK kvs))(h:v7 K H q xs):v7 K G q xs:=by
 rcases h with(h|⟨o',h⟩)|h
 ·exact .inl (.inl (k _ _ (B7 h hl (by intro z;cases z)) h))
 ·exact .inl (.inr ⟨o',k _ _ (B7 h hl (by intro z;cases z)) h⟩)
 ·exact .inr h
theorem f9.kp{H G:Hp}(s:f9 H G)(l:Addr):Kp l H G:=λb o _ e=>s b o e
theorem Kp.trans{l:Addr}{H G G':Hp}(a:Kp l H G)(b:Kp l G G'):Kp l H G':=λc o n e=>b c o n (a c o n e)
theorem A2.kp{K:Frag}{H G:Hp}{l wl:Addr}{ps:List (Nat×Nat)}{ys:List V}(h:A2 K H l ps)(k:Kp wl H G)(n:l≠wl)(hw:H wl=some (.lst ys)):A2 K G l ps:=by
 obtain⟨zs,h1,h2⟩:=h.ex
 exact⟨zs,k _ _ n h1,Paired.monoP (λ_ _ r=>T2.kp r hw k) h2⟩
structure M8(K:Frag)(H:Hp)(l:Addr)(ws:List (Int×Int)):Prop where
 ex:∃ys,H l=some (.lst ys)/\Paired (λ(p:Int×Int) y=>T2 K p.1 p.2 y H) ws ys
theorem M8.same{K:Frag}{H G:Hp}{l:Addr}{ws:List (Int×Int)}(h:M8 K H l ws)(s:f9 H G):M8 K G l ws:=by
 obtain⟨ys,h1,h2⟩:=h.ex
 exact⟨ys,s _ _ h1,Paired.monoP (λ_ _ r=>T2.same r s) h2⟩
theorem M8.kpD{K:Frag}{H G:Hp}{l d:Addr}{ws:List (Int×Int)}{kvs:List (M0×V)}(h:M8 K H l ws)(k:Kp d H G)(hd:H d=some (.dK kvs)):M8 K G l ws:=by
 obtain⟨ys,h1,h2⟩:=h.ex
 exact⟨ys,k _ _ (B7 h1 hd (by intro z;cases z)) h1,Paired.monoP (λ_ _ ⟨q,e,r⟩=>⟨q,e,k.tupD hd r⟩) h2⟩
def a5B:V->V->V->Hp->(Hp->Prop)->Prop:=λo i v H Q=>∃p xs k j,o= .ref p/\i= .int k/\H p=some (.lst xs)/\ixN xs.length k=some j/\∀G,Kp p H G->G p=some (.lst (xs.set j v))->Q G
theorem aF5{X:Cx}:a5a X a5B:=λa7q s U H o i v ov iv u Q I ro ri rv h=>by
 obtain⟨p,xs,k,j,e1,e2,h1,h2,q⟩:=h
 exact a2w a7q s U H o i v ov iv u Q I ro ri rv ⟨p,xs,k,j,e1,e2,h1,h2,q _ (λb o n e=>by rw[j6 n];exact e) i8⟩
theorem a0T{n i:Nat}(h:i<n):ixN n (i:Int)=some i:=by
 unfold ixN
 rw[if_pos (by lia),if_pos (by lia)]
 rfl
def F2(ws:List (Int×Int))(C4:List Nat):List (Int×Int):=ws.mapIdx λn p=>if C4.contains n=true then(0,0)else p
theorem aw3(ws:List (Int×Int)):F2 ws []=ws:=by
 unfold F2
 refine ext_getElem? λi=> ?_
 rw[List.getElem?_mapIdx]
 cases ws[i]? <;>rfl
theorem S7(ws:List (Int×Int))(C4:List Nat):(F2 ws C4).length=ws.length:=by unfold F2;exact List.length_mapIdx
theorem S8{ws:List (Int×Int)}{C4:List Nat}{n:Nat}{p:Int×Int}(h:ws[n]? =some p):(F2 ws C4)[n]? =some (if C4.contains n=true then(0,0)else p):=by
 unfold F2
 rw[List.getElem?_mapIdx,h]
 rfl
theorem aq7{ws:List (Int×Int)}{C4:List Nat}{n:Nat}(h:n<ws.length):F2 ws (C4++[n])=(F2 ws C4).set n (0,0):=by
 refine ext_getElem? λi=> ?_
 by_cases hi:i<ws.length
 ·rw[S8 (a7u hi)]
  by_cases e:n=i
  ·subst e
   rw[a8R (by rw[S7];exact h)]
   simp
  ·rw[a8X e,S8 (a7u hi)]
   have e':(C4++[n]).contains i=C4.contains i:=by
    rw[a73,a73]
    have e2:¬i=n:=λq=>e q.symm
    simp[e2]
   rw[e']
 ·rw[a8y (by rw[S7];lia),a8y (by rw[a9g,S7];lia)]
theorem aw4{α:Type}{l:List α}{n:Nat}{x:α}(h:l[n]? =some x):l.set n x=l:=by
 refine ext_getElem? λi=> ?_
 by_cases e:n=i
 ·subst e
  rw[a8R (a7x.mp h).1,h]
 ·rw[a8X e]
def a0U(kvs:List (M0×V))(t:Nat->Bool):Prop:=∀n:Nat,(J9 kvs (Sum.inl (n:Int))).isSome=t n
def aw5(ws:List (Int×Int))(C4:List Nat)(n:Nat):Bool:=C4.contains n&&(match ws[n]? with|some p=> !decide (p=(0,0))|none=>false)
def F9(ps:List (Nat×Nat)):List Nat:=ps.flatMap λp=>[p.1,p.2]
def nz(ws:List (Int×Int))(n:Nat):Bool:=match ws[n]? with|some p=> !decide (p=(0,0))|none=>false
theorem S9(ws:List (Int×Int))(C4:List Nat)(n:Nat):aw5 ws C4 n=(C4.contains n&&nz ws n):=rfl
theorem aw6(ws:List (Int×Int))(C4:List Nat)(n m:Nat):aw5 ws (C4++[n]) m=if m=n then nz ws n else aw5 ws C4 m:=by
 rw[S9,S9,a73,a73]
 by_cases e:m=n
 ·subst e
  simp
 ·simp[e]
structure aC6(K:Frag)(H:Hp)(ws:List (Int×Int))(wl d:Addr)(done:List Nat)(G:Hp):Prop where
 kp:Kp wl H G
 dict:∃kvs,G d=some (.dK kvs)/\a0U kvs (aw5 ws done)/\kvs.length<=done.length
 ways:M8 K G wl (F2 ws done)
theorem aC6.skip{K:Frag}{H:Hp}{ws:List (Int×Int)}{wl d:Addr}{done:List Nat}{G G':Hp}{n:Nat}(h:aC6 K H ws wl d done G)(hn:n<ws.length)(s:f9 G G')(e:(F2 ws done)[n]? =some (0,0)):aC6 K H ws wl d (done++[n]) G':=by
 obtain⟨kvs,h1,h2,h3⟩:=h.dict
 refine⟨h.kp.trans (f9.kp s wl),⟨kvs,s _ _ h1,λm=> ?_,by rw[a7M];lia⟩,?_⟩
 ·rw[aw6,h2 m]
  split
  ·rename_i q
   subst q
   rw[S9]
   rw[S8 (a7u hn)]at e
   by_cases c:done.contains m=true
   ·rw[c];rfl
   ·rw[if_neg c]at e
    have e:ws[m]=(0,0):=a7v e
    have z:nz ws m=false:=by
     unfold nz
     rw[a7u hn]
     simp[e]
    rw[z,a98]
  ·rfl
 ·rw[aq7 hn,aw4 e]
  exact h.ways.same s
theorem aC6.put{K:Frag}{H:Hp}{ws:List (Int×Int)}{wl d z:Addr}{done:List Nat}{G G1 G2 G3:Hp}{n:Nat}{ys:List V}{kvs:List (M0×V)}(h:aC6 K H ws wl d done G)(hn:n<ws.length)(nd:H d=none)(s:f9 G G1)(hz:G1 z=some (.tup [.int 0,.int 0]))
 (e:¬(F2 ws done)[n]? =some (0,0)) (y1:G wl=some (.lst ys)) (k2:Kp wl G1 G2) (y2:G2 wl=some (.lst (ys.set n (.ref z)))) (d1:G d=some (.dK kvs)) (k3:Kp d G2 G3) (d3:G3 d=some (.dK (K4 kvs (Sum.inl (n:Int)) (.bl true)))):
 aC6 K H ws wl d (done++[n]) G3:=by
 obtain⟨kvs',h1,h2,h3⟩:=h.dict
 have ek:kvs'=kvs:=by rw[d1]at h1;cases h1;rfl
 subst ek
 have wd:wl≠d:=B7 y1 d1 (by intro q;cases q)
 have dw:d≠wl:=λq=>wd q.symm
 have d2:=k2 _ _ dw (s _ _ d1)
 refine⟨λb o nb eb=>k3 b o (j0 eb nd) (k2 b o nb (s b o (h.kp b o nb eb))),⟨_,d3,λm=> ?_,?_⟩,?_⟩
 ·rw[a2C,aw6]
  by_cases q:m=n
  ·subst q
   rw[if_pos rfl,if_pos rfl]
   rw[S8 (a7u hn)]at e
   by_cases c:done.contains m=true
   ·rw[if_pos c]at e
    exact absurd rfl e
   ·rw[if_neg c]at e
    have e:¬ws[m]=(0,0):=λq=>e (congrArg some q)
    unfold nz
    rw[a7u hn]
    simp[e]
  ·rw[if_neg (λe=>q (by have:=Sum.inl.inj e;lia)),if_neg q]
   exact h2 m
 ·have:=U2 kvs' (Sum.inl (n:Int)) (.bl true)
  rw[a7M]
  show _<=done.length+1
  lia
 ·rw[aq7 hn]
  obtain⟨zs,w1,w2⟩:=h.ways.ex
  have ez:zs=ys:=by rw[y1]at w1;cases w1;rfl
  subst ez
  have y1':=s _ _ y1
  refine⟨_,k3 _ _ wd y2,?_⟩
  have a1:Paired (λ(p:Int×Int) y=>T2 K p.1 p.2 y G2) (F2 ws done) zs:=Paired.monoP (λ_ _ r=>T2.kp (T2.same r s) y1' k2) w2
  have a2:T2 K (0,0).1 (0,0).2 (.ref z) G2:=T2.kp ⟨z,rfl,v7.of hz⟩ y1' k2
  exact Paired.monoP (λ_ _ ⟨q,e,r⟩=>⟨q,e,k3.tupD d2 r⟩) (Paired.setP (F:=λ(p:Int×Int) y=>T2 K p.1 p.2 y G2) a2 n a1)
abbrev aX9:Stmt:=O7 27
section
variable{P:Program}{w:World}{K:Frag}{mg:Str->Option Value}{base:Heap}{C:Addr}
def aY0(K:Frag):Sp:=λvs H Q _=>∃(wl pl:Addr) (ws:List (Int×Int)) (ps:List (Nat×Nat)),vs=[.ref wl,.ref pl]/\M8 K H wl ws/\A2 K H pl ps/\pl≠wl/\(∀p∈ps,p.1<ws.length/\p.2<ws.length)/\ps.length<=1000/\
 ∀d G kvs,Kp wl H G->H d=none->G d=some (.dK kvs)->a0U kvs (aw5 ws (F9 ps))->M8 K G wl (F2 ws (F9 ps))->Q (.ref d) G
theorem a0V:n8 ["ways","pairs","halted","pair","number"] ["ways","pairs"] (g9 aX9):=⟨rfl,rfl,rfl,by decide+kernel,rfl,by decide+kernel,by decide+kernel⟩
theorem aQ5:∀ps:List (Nat×Nat),(F9 ps).length=2*ps.length
 |[]=>rfl
 |p::r=>by
  have:=aQ5 r
  show([p.1,p.2]++F9 r).length=_
  rw[a7M,this,a7O]
  simp
  lia
theorem a4c{f:Addr}{fd:FuncData}(F:M3 K "halt" "halt" aX9 f fd):A7 P w K mg base M2 1 f fd ["ways","pairs"] (aY0 K):=by
 refine F.ok a0V (λvs H Q E h=> ?_) (λcdv A outer s H vs Q E hr h=> ?_)
 ·obtain⟨wl,pl,ws,ps,rfl,_⟩:=h
  rfl
 ·obtain⟨wl,pl,ws,ps,rfl,hW,hP,hne,hin,hsz,k⟩:=h
  have nd:=a0V.nd
  refine⟨_,(e9 (j9 (i:=2) nd rfl (Or.inl rfl) aj6)
   (e9 (E9 PassesOwn.never rfl (A3 (pv 1)) (z9 (i:=3) nd rfl (Or.inl rfl))
    (f8 (E9 PassesOwn.never rfl (aI4 (pv 3)) (z9 (i:=4) nd rfl (Or.inl rfl))
     (f8 (B8 (o8 (a5p hr.units) (i9 l6 (pv 0) (pv 4) (λ_ _=>rfl)) (p8 (e8 f6 (e8 f6 f7))) (t9 _))
      (e9 (a2o (p8 (e8 f6 (e8 f6 f7))) (a2n (pv 0) (pv 4) aF5))
      (f8 (aj4 (aq1 hr) (pv 2) (pv 4) aa1 rfl)))
      v8)))))
   (f8 (l8 (pv 2))))),?_⟩
  intro d G0 s0 n0 t0
  obtain⟨ys,p1,p2⟩:=hP.ex
  have pk:∀{G:Hp},Kp wl H G->A2 K G pl ps:=λ{G} kG=>hP.kp kG hne hW.ex.choose_spec.1
  have h0:aC6 K H ws wl d [] G0:=⟨f9.kp s0 wl,⟨[],t0,λn=>by rw[S9];rfl,a7A _⟩,by rw[aw3];exact hW.same s0⟩
  refine⟨_,rfl,pl,rfl,⟨_,n9.of (s0 _ _ p1)⟩,L1 (K:=K) (a:=pl) (xs:=ys) (λi U G=>(∃u v:Option V,U=[some (.ref wl),some (.ref pl),some (.ref d),u,v])/\aC6 K H ws wl d (F9 (ps.take i)) G)
   ⟨⟨none,none,rfl⟩,h0⟩ (λi U G _ h=>n9.of (h.2.kp _ _ hne p1)) ?_ ?_⟩
  ·rintro i x U G hx ⟨⟨u,v,rfl⟩,hI⟩
   obtain⟨p,hp,q,rfl,hq⟩:=Paired.at2 p2 hx
   have hq:=hI.kp
   obtain⟨zs,z1,z2⟩:=(pk hI.kp).ex
   have ez:ys=zs:=by rw[hI.kp _ _ hne p1]at z1;cases z1;rfl
   subst ez
   obtain⟨p',hp',q',e',tq⟩:=Paired.at2 z2 hx
   cases e'
   rw[hp]at hp'
   cases hp'
   have bnd:=hin p (a7F hp)
   have hi:i<ps.length:=(a7x.mp hp).1
   refine⟨_,rfl,q,rfl,⟨_,tq⟩,aI5 (K:=K) (a:=q) (xs:=[.int (p.1:Int),.int (p.2:Int)]) (λj U G=>(∃v:Option V,U=[some (.ref wl),some (.ref pl),some (.ref d),some (.ref q),v])/\aC6 K H ws wl d (F9 (ps.take i)++[p.1,p.2].take j) G)
    ⟨⟨v,rfl⟩,by show aC6 K H ws wl d (_++[]) G;rw[a72];exact hI⟩ (λj U G _ h=> ?_) ?_ ?_⟩
   ·obtain⟨zs,z1,z2⟩:=(pk h.2.kp).ex
    have ez:ys=zs:=by rw[h.2.kp _ _ hne p1]at z1;cases z1;rfl
    subst ez
    obtain⟨p',hp',q',e',tq⟩:=Paired.at2 z2 hx
    cases e'
    rw[hp]at hp'
    cases hp'
    exact tq
   ·rintro j x U G hj ⟨⟨v,rfl⟩,hJ⟩
    obtain⟨n,rfl,hn,hns⟩:∃n:Nat,x= .int (n:Int)/\n<ws.length/\[p.1,p.2].take (j+1)=[p.1,p.2].take j++[n]:=by
     match j,hj with
     |0,hj=>cases hj;exact⟨p.1,rfl,bnd.1,rfl⟩
     |1,hj=>cases hj;exact⟨p.2,rfl,bnd.2,rfl⟩
     |j+2,hj=>simp at hj
    rw[hns,←a82]
    have hlen:(F9 (ps.take i)++[p.1,p.2].take j).length<=2002:=by
     rw[a7M,aQ5,a8L]
     have:([p.1,p.2].take j).length<=2:=by rw[a8L];exact Nat.min_le_right _ _
     lia
    generalize F9 (ps.take i)++[p.1,p.2].take j=done at*
    obtain⟨vs,v1,v2⟩:=hJ.ways.ex
    obtain⟨kvs,d1,d2,d3⟩:=hJ.dict
    have hn':n<(F2 ws done).length:=by rw[S7];exact hn
    obtain⟨y,hy,qy,rfl,tqy⟩:=Paired.at_ v2 (a7u hn')
    refine⟨_,rfl,_,rfl,wl,vs,_,_,rfl,rfl,n9.of v1,z7 hy,?_⟩
    refine⟨by show 2<=sizeLine;decide,λz G1 s1 _ t1=> ?_⟩
    refine⟨.tuple [.int (F2 ws done)[n].1,.int (F2 ws done)[n].2],.tuple [.int 0,.int 0],.tup (f9.tup s1 tqy) (.cons (.int _) (.cons (.int _) .nil)),.tup (v7.of t1) (.cons (.int _) (.cons (.int _) .nil)),rfl,rfl,_,rfl,?_⟩
    have ev:(!PyData.eqv (.tuple [.int (F2 ws done)[n].1,.int (F2 ws done)[n].2]) (.tuple [.int 0,.int 0]))=true↔¬(F2 ws done)[n]? =some (0,0):=by
     rw[a7u hn']
     generalize (F2 ws done)[n]=pr
     obtain⟨a,b⟩:=pr
     simp[PyData.eqv,PyData.eqvAll]
     lia
    refine z8 (λhh=> ?_) (λhh=> ?_)
    ·have hh:=ev.mp hh
     refine⟨by show 2<=sizeLine;decide,λz2 G2 s2 _ t2=> ?_⟩
     refine⟨_,rfl,_,rfl,wl,vs,_,n,rfl,rfl,s2 _ _ (s1 _ _ v1),a0T (by rw[←Paired.length v2];exact hn'),λG3 k3 t3=> ?_⟩
     have dd:G3 d=some (.dK kvs):=k3 _ _ (B7 d1 v1 (by intro q;cases q)) (s2 _ _ (s1 _ _ d1))
     refine⟨_,rfl,_,rfl,d,_,rfl,aC4.k (k:=Sum.inl (n:Int)) dd (a8l d3 (a8l hlen (by decide))),?_⟩
     refine⟨⟨_,rfl⟩,hJ.put hn n0 (s1.trans s2) t2 hh v1 k3 t3 d1 (λb o nb eb=>by rw[j6 nb];exact eb) i8⟩
    ·have hh:(F2 ws done)[n]? =some (0,0):=Classical.not_not.mp λq=>hh (ev.mpr q)
     exact⟨⟨_,rfl⟩,hJ.skip hn s1 hh⟩
   ·rintro U G ⟨⟨v,rfl⟩,hJ⟩
    refine⟨⟨_,_,rfl⟩,?_⟩
    have e:F9 (ps.take (i+1))=F9 (ps.take i)++[p.1,p.2]:=by
     unfold F9
     rw[K2 hp,a8q]
     simp
    rw[e]
    exact hJ
  ·rintro U G ⟨⟨u,v,rfl⟩,hI⟩
   rw[←Paired.length p2,a8o]at hI
   obtain⟨kvs,d1,d2,d3⟩:=hI.dict
   exact⟨_,rfl,k d G kvs hI.kp n0 d1 d2 hI.ways⟩
end
end Mp
namespace Mp
open Vbwsam (bodyAt going clash clashBy moves zeroPair pairsOf setOf insertNum meetings)
theorem aQ6{s t:a8U}{x y wx wy:Int}(hs:GdS s)(ht:GdS t)(h:S5 s t x y wx wy=true):
 (-(hX s+hX t)<max x (x+wx)/\min x (x+wx)<hX s+hX t)/\(-(hY s+hY t)<max y (y+wy)/\min y (y+wy)<hY s+hY t):=by
 have round:∀{hx hy r:Int},Mb.o9 x y wx wy hx hy r=true->Mb.l9 x y wx wy (hx+r) (hy+r)=true:=λ{hx hy r} q=>by
  unfold Mb.o9 at q
  cases e:Mb.l9 x y wx wy (hx+r) (hy+r)with
  |true=>rfl
  |false=>rw[e,if_pos rfl]at q;cases q
 cases s with
 |box a b=>
  cases t with
  |box c e=>
   have q:=Mb.D7.mp (show Mb.l9 x y wx wy (a+c) (b+e)=true from h)
   exact⟨q.1,q.2.1⟩
  |ball r=>
   have q:=Mb.D7.mp (round (show Mb.o9 x y wx wy a b r=true from h))
   exact⟨q.1,q.2.1⟩
 |ball r=>
  have h1:1<=r:=hs.1
  cases t with
  |box c e=>
   have q:=Mb.D7.mp (round (show Mb.o9 x y wx wy c e r=true from h))
   rw[a9R c r,a9R e r]at q
   exact⟨q.1,q.2.1⟩
  |ball u=>
   have h2:1<=u:=ht.1
   have q0:Mb.m7 (x-0) (y-0) wx wy (r+u)=true:=by rw[Int.sub_zero,Int.sub_zero];exact h
   have q:=Mb.D7.mp (Mb.aq3 (hx:=0) (hy:=0) (by lia) (by lia) (by lia) (by lia) (by lia) q0)
   rw[a96]at q
   exact⟨q.1,q.2.1⟩
theorem mxl{q v n:Int}(h:n=0\/n=v):q<=max q (q+v)/\q+n<=max q (q+v):=by rcases h with rfl|rfl<;>omega
theorem mnl{q v n:Int}(h:n=0\/n=v):min q (q+v)<=q/\min q (q+v)<=q+n:=by rcases h with rfl|rfl<;>omega
theorem ovA{p q u v m n A B:Int}(hm:m=0\/m=u)(hn:n=0\/n=v)(h: -(A+B)<max (q-p) (q-p+(n-m))):min p (p+u)-A<max q (q+v)+B:=by
 have:=mnl (q:=p) hm
 have:=mxl (q:=q) hn
 omega
theorem ovB{p q u v m n A B:Int}(hm:m=0\/m=u)(hn:n=0\/n=v)(h:min (q-p) (q-p+(n-m))<A+B):min q (q+v)-B<max p (p+u)+A:=by
 have:=mxl (q:=p) hm
 have:=mnl (q:=q) hn
 omega
theorem a1O{a b:a7s}{m n:a8g}(ha:GdS a.shape)(hb:GdS b.shape)(hm:m=zeroPair\/m=a.v)(hn:n=zeroPair\/n=b.v)(h:clashBy a b m n=true):ovl a b=true:=by
 have h':S5 a.shape b.shape (b.at_.x-a.at_.x) (b.at_.y-a.at_.y) (n.x-m.x) (n.y-m.y)=true:=by
  rw[←S6 ha hb]
  exact h
 obtain⟨⟨q1,q2⟩,q3,q4⟩:=aQ6 ha hb h'
 unfold ovl
 simp only[a7z,decide_eq_true_eq]
 have x {m u:a8g} (h:m=zeroPair\/m=u):m.x=0\/m.x=u.x:=h.imp (congrArg _) (congrArg _)
 have y {m u:a8g} (h:m=zeroPair\/m=u):m.y=0\/m.y=u.y:=h.imp (congrArg _) (congrArg _)
 exact⟨ovA (x hm) (x hn) q1,ovB (x hm) (x hn) q2,ovA (y hm) (y hn) q3,ovB (y hm) (y hn) q4⟩
theorem V9{x n:Nat}:∀{l:List Nat},x∈insertNum n l↔x=n\/x∈l
 |[]=>by simp[insertNum]
 |m::r=>by
  unfold insertNum
  split
  ·simp
  ·split
   ·rename_i e
    subst e
    simp
   ·have ih:=V9 (x:=x) (n:=n) (l:=r)
    simp only[a7D,ih]
    constructor
    ·rintro(h|h|h)
     ·exact .inr (.inl h)
     ·exact .inl h
     ·exact .inr (.inr h)
    ·rintro(h|h|h)
     ·exact .inr (.inl h)
     ·exact .inl h
     ·exact .inr (.inr h)
theorem ac0{x:Nat}:∀{l acc:List Nat},x∈l.foldl (λa n=>insertNum n a) acc↔x∈l\/x∈acc
 |[],acc=>by simp
 |n::r,acc=>by
  rw[a8P,ac0,V9,a7D]
  constructor
  ·rintro(h|h|h)
   ·exact .inl (.inr h)
   ·exact .inl (.inl h)
   ·exact .inr h
  ·rintro((h|h)|h)
   ·exact .inr (.inl h)
   ·exact .inl h
   ·exact .inr (.inr h)
theorem O8{x:Nat}{l:List Nat}:x∈setOf l↔x∈l:=by
 unfold setOf
 rw[ac0]
 simp
structure Ok(bs:List a7s):Prop where
 few:bs.length<=20
 gd:∀i,i<bs.length->Gd (bodyAt bs i)
 vel:∀i,i<bs.length->(-1000<=(bodyAt bs i).v.x/\(bodyAt bs i).v.x<=1000)/\ -1000<=(bodyAt bs i).v.y/\(bodyAt bs i).v.y<=1000
 fix:∀i,i<bs.length->(bodyAt bs i).kind=0->(bodyAt bs i).v=zeroPair
 apart:∀i j,i<j->j<bs.length->clashBy (bodyAt bs i) (bodyAt bs j) zeroPair zeroPair=false
theorem Ok.moves{bs:List a7s}(o:Ok bs){i:Nat}(h:i<bs.length):moves (bodyAt bs i)=(bodyAt bs i).v:=by
 unfold Vbwsam.moves
 split
 ·rename_i e
  exact(o.fix i h e).symm
 ·rfl
theorem U4{bs:List a7s}(o:Ok bs){stay:List Nat}{i:Nat}(h:i<bs.length):going bs stay i=zeroPair\/going bs stay i=(bodyAt bs i).v:=by
 unfold going
 split
 ·exact .inl rfl
 ·exact .inr (o.moves h)
theorem J1{n:Nat}{p:Nat×Nat}:p∈pairsOf n↔p.1<p.2/\p.2<n:=by
 unfold pairsOf
 simp only[a8B,a8G,a8j,a7X,decide_eq_true_eq]
 constructor
 ·rintro⟨i,hi,j,⟨hj,hij⟩,rfl⟩
  exact⟨hij,hj⟩
 ·rintro⟨h1,h2⟩
  exact⟨p.1,by lia,p.2,⟨h2,h1⟩,rfl⟩
def y9(bs:List a7s)(stay:List Nat):List (Nat×Nat):=(pairsOf bs.length).filter λp=>clash bs stay p.1 p.2
def ac1(bs:List a7s)(stay:List Nat):List Nat:=setOf (stay++F9 (y9 bs stay))
structure a5C(bs:List a7s)(stay:List Nat)(A:Nat×Nat->Bool):Prop where
 no:∀p∈L4 bs,A p=false->clash bs stay p.1 p.2=false
theorem aC7{bs:List a7s}(o:Ok bs){stay:List Nat}{p:Nat×Nat}(hp:p∈pairsOf bs.length)(h:clash bs stay p.1 p.2=true):ovl (bodyAt bs p.1) (bodyAt bs p.2)=true:=by
 obtain⟨h1,h2⟩:=J1.mp hp
 exact a1O (o.gd _ (by lia)).sh (o.gd _ h2).sh (U4 o (by lia)) (U4 o h2) h
theorem aF6{bs:List a7s}(o:Ok bs){stay:List Nat}{A:Nat×Nat->Bool}(a:a5C bs stay A):((L4 bs).filter A).filter (λp=>clash bs stay p.1 p.2)=y9 bs stay:=by
 rw[filter_filter]
 have e1:(L4 bs).filter (λp=>clash bs stay p.1 p.2&&A p)=(L4 bs).filter (λp=>clash bs stay p.1 p.2):=by
  refine a9z λp hp=> ?_
  cases e:A p with
  |true=>rw[Bool.and_true]
  |false=>rw[a.no p hp e];rfl
 rw[e1]
 unfold L4 y9
 rw[filter_filter]
 refine a9z λp hp=> ?_
 cases e:clash bs stay p.1 p.2 with
 |false=>rfl
 |true=>rw[aC7 o hp e];rfl
theorem aK2{bs:List a7s}{stay:List Nat}(i:Nat):going bs (ac1 bs stay) i=if(F9 (y9 bs stay)).contains i=true then zeroPair else going bs stay i:=by
 unfold going ac1
 simp only[a73,decide_eq_true_eq,O8,a77]
 by_cases h1:i∈F9 (y9 bs stay)
 ·rw[if_pos h1,if_pos (.inr h1)]
 ·rw[if_neg h1]
  by_cases h2:i∈stay
  ·rw[if_pos h2,if_pos (.inl h2)]
  ·rw[if_neg h2,if_neg (λq=>q.elim h2 h1)]
def wy(p:a8g):Int×Int:=(p.x,p.y)
theorem a4d{p:a8g}:wy p=(0,0)↔p=zeroPair:=by
 obtain⟨a,b⟩:=p
 unfold wy zeroPair
 simp
def N7(bs:List a7s)(stay:List Nat):List (Int×Int):=(a7J bs.length).map λi=>wy (going bs stay i)
theorem O9(bs:List a7s)(stay:List Nat):(N7 bs stay).length=bs.length:=by unfold N7;rw[a7r,a70]
theorem P2{bs:List a7s}{stay:List Nat}{i:Nat}(h:i<bs.length):(N7 bs stay)[i]? =some (wy (going bs stay i)):=by
 unfold N7
 rw[a7t,a9E h]
 rfl
theorem a4S(bs:List a7s)(stay:List Nat):F2 (N7 bs stay) (F9 (y9 bs stay))=N7 bs (ac1 bs stay):=by
 refine ext_getElem? λi=> ?_
 by_cases h:i<bs.length
 ·rw[S8 (P2 h),P2 h,aK2]
  split<;>rfl
 ·rw[a8y (by rw[S7,O9];lia),a8y (by rw[O9];lia)]
theorem aK3{bs:List a7s}{stay:List Nat}{i:Nat}(h:i<bs.length):nz (N7 bs stay) i= !decide (going bs stay i=zeroPair):=by
 unfold nz
 rw[P2 h]
 show(!decide (wy _=(0,0)))=_
 rw[decide_eq_decide.mpr a4d]
def E3(bs:List a7s)(stay:List Nat)(i:Nat):Bool:=aw5 (N7 bs stay) (F9 (y9 bs stay)) i
theorem ac2{ps:List (Nat×Nat)}{p:Nat×Nat}(h:p∈ps):p.1∈F9 ps/\p.2∈F9 ps:=by
 unfold F9
 constructor<;>exact a8B.mpr ⟨p,h,by simp⟩
theorem aq8{bs:List a7s}(o:Ok bs){stay:List Nat}{p:Nat×Nat}(h:p∈y9 bs stay):¬(going bs stay p.1=zeroPair/\going bs stay p.2=zeroPair):=by
 rintro⟨h1,h2⟩
 obtain⟨hp,hc⟩:=a7X.mp h
 obtain⟨q1,q2⟩:=J1.mp hp
 have hc:clash bs stay p.1 p.2=true:=hc
 unfold clash at hc
 rw[h1,h2,o.apart _ _ q1 q2]at hc
 cases hc
theorem a6z{bs:List a7s}(o:Ok bs)(stay:List Nat):a5C bs (ac1 bs stay) (λp=>E3 bs stay p.1||E3 bs stay p.2):=by
 constructor
 intro p hp hA
 have hA:(E3 bs stay p.1||E3 bs stay p.2)=false:=hA
 rw[Bool.or_eq_false_iff]at hA
 have hp':p∈pairsOf bs.length:=(a7X.mp hp).1
 obtain⟨q1,q2⟩:=J1.mp hp'
 have q0:p.1<bs.length:=by lia
 have same:∀i,i<bs.length->E3 bs stay i=false->going bs (ac1 bs stay) i=going bs stay i:=λi hi e=>by
  rw[aK2]
  split
  ·rename_i c
   unfold E3 at e
   rw[S9,c,a9m,aK3 hi]at e
   have:going bs stay i=zeroPair:=by simpa using e
   exact this.symm
  ·rfl
 have e:clash bs (ac1 bs stay) p.1 p.2=clash bs stay p.1 p.2:=by
  unfold clash
  rw[same _ q0 hA.1,same _ q2 hA.2]
 rw[e]
 cases c:clash bs stay p.1 p.2 with
 |false=>rfl
 |true=>
  have hn:p∈y9 bs stay:=a7X.mpr ⟨hp',c⟩
  refine absurd ⟨?_,?_⟩ (aq8 o hn)
  ·have z:=hA.1
   unfold E3 at z
   rw[S9,a73,decide_eq_true (ac2 hn).1,a9m,aK3 q0]at z
   simpa using z
  ·have z:=hA.2
   unfold E3 at z
   rw[S9,a73,decide_eq_true (ac2 hn).2,a9m,aK3 q2]at z
   simpa using z
def N8(bs:List a7s)(stay:List Nat):Nat:=((a7J bs.length).filter λi=> !decide (going bs stay i=zeroPair)).length
theorem aF7{α:Type}{f g:α->Bool}:∀{l:List α},(∀y∈l,g y=true->f y=true)->(l.filter g).length<=(l.filter f).length
 |[],_=>a7A _
 |b::t,hb=>by
  have ih:=aF7 (f:=f) (g:=g) (l:=t) λy hy=>hb y (a7B _ hy)
  rw[a8b,a8b]
  cases e:g b with
  |true=>rw[hb b a7C e];simp;exact ih
  |false=>
   cases f b
   ·simpa using ih
   ·simp;lia
theorem W1{α:Type}{f g:α->Bool}:∀{l:List α} {x:α},(∀y∈l,g y=true->f y=true)->x∈l->f x=true->g x=false->(l.filter g).length<(l.filter f).length
 |[],x,_,hx,_,_=>by simp at hx
 |a::r,x,h,hx,h1,h2=>by
  have le:∀{l:List α},(∀y∈l,g y=true->f y=true)->(l.filter g).length<=(l.filter f).length:=λ{l}=>by
   induction l with
   |nil=>intro _;exact a7A _
   |cons b t ih=>
    intro hb
    have ih:=ih λy hy=>hb y (a7B _ hy)
    rw[a8b,a8b]
    cases e:g b with
    |true=>rw[hb b a7C e];simp;exact ih
    |false=>
     cases f b
     ·simpa using ih
     ·simp;lia
  have hr:=λy hy=>h y (a7B a hy)
  rcases a7D.mp hx with rfl|hx
  ·rw[a8b,a8b,h1,h2]
   have:=le hr
   simp
   lia
  ·have ih:=W1 hr hx h1 h2
   rw[a8b,a8b]
   cases e:g a with
   |true=>rw[h a a7C e];simp;exact ih
   |false=>
    cases f a
    ·simpa using ih
    ·simp;lia
theorem aq9{bs:List a7s}(o:Ok bs){stay:List Nat}(h:y9 bs stay≠[]):N8 bs (ac1 bs stay)<N8 bs stay:=by
 obtain⟨p,hp⟩:=List.exists_mem_of_ne_nil _ h
 obtain⟨hq,_⟩:=a7X.mp hp
 obtain⟨q1,q2⟩:=J1.mp hq
 have key:∀x,x<bs.length->x∈F9 (y9 bs stay)->¬going bs stay x=zeroPair->N8 bs (ac1 bs stay)<N8 bs stay:=λx hx hm hz=>by
  unfold N8
  refine W1 (x:=x) (λy _ hy=> ?_) (a8G.mpr hx) (by simpa using hz) ?_
  ·rw[aK2]at hy
   split at hy
   ·simp at hy
   ·exact hy
  ·rw[aK2,if_pos (by rw[a73];exact decide_eq_true hm)]
   simp
 by_cases z:going bs stay p.1=zeroPair
 ·exact key p.2 q2 (ac2 hp).2 λq=>aq8 o hp ⟨z,q⟩
 ·exact key p.1 (by lia) (ac2 hp).1 z
theorem aF8(bs:List a7s)(stay:List Nat):N8 bs stay<=bs.length:=by
 unfold N8
 exact a7G (a75 _ _) (by rw[a70];exact a7A _)
theorem Q0{bs:List a7s}{stay:List Nat}{met:List (Nat×Nat)}{f:Nat}(h:y9 bs stay≠[]):meetings bs (f+1) stay met=meetings bs f (ac1 bs stay) (met++y9 bs stay):=by
 show(if(y9 bs stay).isEmpty=true then _ else _)=_
 rw[if_neg (by intro q;exact h (isEmpty_iff.mp q))]
 rfl
theorem Q1{bs:List a7s}{stay:List Nat}{met:List (Nat×Nat)}{f:Nat}(h:y9 bs stay=[]):meetings bs (f+1) stay met=(met,stay):=by
 show(if(y9 bs stay).isEmpty=true then _ else _)=_
 rw[if_pos (by rw[h];rfl)]
end Mp
namespace Mp
open PySem PySem.Spec PyProof.Rows L2
open PySem.W (Codec)
section
variable{X:Cx}{e a b:Expr}{ta tb:TE}{pos:Pos}{f:Str}
theorem Y6(K:Frag)(hK:X.K=K)(he:PE X e ta)(hb:attributeBase e f X.env (eval e X.env)=eval e X.env):PE X (.Attribute e f pos) (a6k K ta f):=hK▸j7 he hb
theorem Q2(K:Frag)(hK:X.K=K)(ha:PE X a ta)(hb:PE X b tb)(hs:aI7 b):PE X (.Subscript a b pos) (tOp (a6p K) ta tb):=hK▸i9 l6 ha hb hs
theorem U5(K:Frag)(hK:X.K=K)(ha:PE X a ta)(hb:PE X b tb)(hs:aI7 b):PE X (.Subscript a b pos) (tOp (a6q K) ta tb):=hK▸i9 j5 ha hb hs
end
theorem Kp.bodies{K:Frag}{C l wl:Addr}{H G:Hp}{as:List Addr}{bs:List a7s}{ys:List V}(h:m8 K C H l as bs)(k:Kp wl H G)(hw:H wl=some (.lst ys))(n:l≠wl):m8 K C G l as bs:=
 ⟨k _ _ n h.lst,h.nd,Paired.monoP (λ_ _ r=>Kp.body k hw r) h.bd⟩
def a2U:V->List V->Hp->VK->Prop:=λx vs H Q=>∃l b xs zs,x= .ref l/\vs=[.ref b]/\H l=some (.lst xs)/\H b=some (.lst zs)/\xs.length+zs.length<=sizeLine/\∀G,Kp l H G->G l=some (.lst (xs++zs))->Q .non G
theorem Y7{X:Cx}:MtM X "list.extend" a2U:=λa7q s U H x xs v us Q I rx rxs h=>by
 obtain⟨l,b,ys,zs,e1,e2,h1,h2,h3,k⟩:=h
 exact a1E a7q s U H x xs v us Q I rx rxs ⟨l,b,ys,zs,e1,e2,h1,h2,h3,k _ (λb o n e=>by rw[j6 n];exact e) i8⟩
theorem Paired.app{α β:Type}{F:α->β->Prop}:∀{l l':List α} {m m':List β},Paired F l m->Paired F l' m'->Paired F (l++l') (m++m')
 |_,_,_,_,.nil,q=>q
 |_,_,_,_,.cons r t,q=> .cons r (Paired.app t q)
theorem aQ7{α:Type}(f:α->Bool):∀l:List α,(l.map λp=>if f p=true then some p else none).filterMap id=l.filter f
 |[]=>rfl
 |a::r=>by
  have ih:=aQ7 f r
  rw[a7U,a8b]
  cases f a
  ·simpa using ih
  ·simpa using ih
theorem aQ8{bs:List a7s}(h:bs.length<=20):(L4 bs).length<=400:=by
 unfold L4
 refine a7G (a75 _ _) ?_
 rw[ah5]
 exact a7G (aj8 _ _) (Nat.mul_le_mul h h)
theorem a4e{bs:List a7s}(h:bs.length<=20)(stay:List Nat):(y9 bs stay).length<=400:=by
 unfold y9
 refine a7G (a75 _ _) ?_
 rw[ah5]
 exact a7G (aj8 _ _) (Nat.mul_le_mul h h)
structure a5D(K:Frag)(H:Hp)(bs:List a7s)(nl wl ml al:Addr)(stay:List Nat)(met:List (Nat×Nat))(A:Nat×Nat->Bool)(f m:Nat)(G:Hp):Prop where
 same:f9 H G
 near:A2 K G nl (L4 bs)
 ways:M8 K G wl (N7 bs stay)
 mets:A2 K G ml met
 asked:A2 K G al ((L4 bs).filter A)
 asks:a5C bs stay A
 aw:al≠wl
 am:al≠ml
 fuel:N8 bs stay<f
 run:Vbwsam.meetings bs f stay met=Vbwsam.meetings bs (bs.length+1) [] []
 len:met.length+400*f<=400*(bs.length+1)
 meas:m=2*N8 bs stay+(if(L4 bs).filter A=[]then 0 else 1)
abbrev P3:Stmt:=O7 28
section
variable{P:Program}{w:World}{K:Frag}{mg:Str->Option Value}{base:Heap}{C:Addr}
def aY1(K:Frag)(C:Addr):Sp:=λvs H Q _=>∃(l:Addr) (as:List Addr) (bs:List a7s),vs=[.ref l]/\m8 K C H l as bs/\Ok bs/\
 ∀p ml wl G,f9 H G->H ml=none->v7 K G p [.ref ml,.ref wl]->A2 K G ml (Vbwsam.meetings bs (bs.length+1) [] []).1->M8 K G wl (N7 bs (Vbwsam.meetings bs (bs.length+1) [] []).2)->Q (.ref p) G
theorem ar0:n8 ["bodies","near","ways","met","asked","found","halted","body","i","j"] ["bodies"] (g9 P3):=⟨rfl,rfl,rfl,by decide+kernel,rfl,by decide+kernel,by decide+kernel⟩
theorem aQ9{f:Addr}{fd:FuncData}(F:M3 K "find_met" "find_met" P3 f fd)(cB:ab9 K C)
 (D_near_pairs:Df P w K mg base "near_pairs" 3 ["bodies"] (aX8 K C)) (D_comes_within:Df P w K mg base "comes_within" 3 ["one","other","one_way","other_way"] (af3 K C)) (D_halt:Df P w K mg base "halt" 3 ["ways","pairs"] (aY0 K)):
 A7 P w K mg base M2 4 f fd ["bodies"] (aY1 K C):=by
 refine F.ok ar0 (λvs H Q E h=> ?_) (λcdv A outer s H vs Q E hr h=> ?_)
 ·obtain⟨l,as,bs,rfl,_⟩:=h
  rfl
 ·obtain⟨l,as,bs,rfl,hB,ok,k⟩:=h
  have nd:=ar0.nd
  obtain⟨cl,-,-,-,-,-,-,c7⟩:=cB
  refine⟨_,(e9 (j9 (i:=1) nd rfl (Or.inl rfl) (A0 D_near_pairs hr (by rfl) (e8 (pv 0) f7)))
   (e9 (j9 (i:=2) nd rfl (Or.inr rfl) (R0 (own:=[("body",7)]) rfl nd (A3 (pv 0)) (by show E5 ["bodies","near","ways","met","asked","found","halted","body","i","j"] (g9 P3) _ _;exact⟨rfl,by decide+kernel,by decide+kernel,by decide+kernel,by decide+kernel⟩)
    (λ_ _ _ _ _=>by exact z9 (i:=7) nd (by rfl) (by exact Or.inl rfl) (by exact Or.inr rfl))
    (λ_ _ _ _ _=>by exact D8)
    (λ_ _ _ _ _=>by exact(Y6 K rfl (pv 7) rfl))))
   (e9 (j9 (i:=3) nd rfl (Or.inl rfl) (y6 f7))
   (e9 (j9 (i:=4) nd rfl (Or.inl rfl) (pv 1))
   (e9 (au9 PassesOwn.never (Q5 (pv 4) (λ_=>rfl))
    (e9 (L3 (i:=5) rfl nd rfl rfl rfl (own:=[("i",8),("j",9)]) (A3 (pv 4)) (by show E5 ["bodies","near","ways","met","asked","found","halted","body","i","j"] (g9 P3) _ _;exact⟨rfl,by decide+kernel,by decide+kernel,by decide+kernel,by decide+kernel⟩)
     (λ_ _ _ _ _=>by refine J5 (i:=8) (j:=9) K ?_ ?_ ?_ ?_ ?_ ?_ ?_<;>first|rfl|assumption)
     (λ_ _ _ _ _=>by exact(Y3 (N3 (A0 D_comes_within hr (by rfl) (e8 (Q2 K rfl (pv 0) (pv 8) (λ_ _=>rfl)) (e8 (Q2 K rfl (pv 0) (pv 9) (λ_ _=>rfl)) (e8 (Q2 K rfl (pv 2) (pv 8) (λ_ _=>rfl)) (e8 (Q2 K rfl (pv 2) (pv 9) (λ_ _=>rfl)) f7))))))))
     (λ_ _ _ _ _=>by exact(p8 (e8 (pv 8) (e8 (pv 9) f7)))))
    (e9 (C2 (M1 a7Q a86 a87 Y7 (pv 3) (e8 (pv 5) f7)))
    (e9 (j9 (i:=6) nd rfl (Or.inr rfl) (A0 D_halt hr (by rfl) (e8 (pv 2) (e8 (pv 5) f7))))
    (f8 (L3 (i:=4) rfl nd rfl rfl rfl (own:=[("i",8),("j",9)]) (A3 (pv 1)) (by show E5 ["bodies","near","ways","met","asked","found","halted","body","i","j"] (g9 P3) _ _;exact⟨rfl,by decide+kernel,by decide+kernel,by decide+kernel,by decide+kernel⟩)
     (λ_ _ _ _ _=>by refine J5 (i:=8) (j:=9) K ?_ ?_ ?_ ?_ ?_ ?_ ?_<;>first|rfl|assumption)
     (λ_ _ _ _ _=>by exact(Y3 (aa9 (a2l (aW8 (aq1 hr) (pv 8) (pv 6))) (ah0 (a2l (aW8 (aq1 hr) (pv 9) (pv 6))))).pt))
     (λ_ _ _ _ _=>by exact(p8 (e8 (pv 8) (e8 (pv 9) f7))))))))))
   (f8 (l8 (p8 (e8 (pv 3) (e8 (pv 2) f7)))))))))),?_⟩
  have hn:=hB.len
  refine⟨_,rfl,l,as,bs,rfl,hB,ok.few,λnl G1 s1 n1 hN=> ?_⟩
  have hB1:=hB.same s1
  refine⟨_,rfl,l,rfl,⟨_,n9.of hB1.lst⟩,λwl nw=> ?_⟩
  refine lcR nw (n9.of hB1.lst) (os:=(N7 bs []).map some) (by rw[a7r,a7r,O9,hn]) (by rw[a7r,O9];exact a7G ok.few (by decide)) (λp y H=>T2 K p.1 p.2 y H)
   (λb y H G ys hl r kG=>T2.kp r hl kG) (λi x o H' ys hx ho sH hD=> ?_) (λG2 acc s2 hD hW=> ?_)
  ·intro Rt Rv _ hR
   obtain⟨a,b,rfl,ha,hb,hbd⟩:=hB1.item hx
   have hi:i<bs.length:=(a7x.mp hb).1
   obtain⟨dx,hai,pai,vai,i1,i2,i3,i4⟩:=(hbd.same sH).ex
   refine⟨rfl,B3 (B:=Rt H') ?_⟩
   refine⟨_,rfl,_,_,_,_,_,rfl,i1,cl,c7,rfl,?_⟩
   rw[a7t,P2 hi]at ho
   refine hR _ (a7v ho).symm _ H' (f9.refl _) ⟨vai,rfl,?_⟩
   have e:Vbwsam.going bs [] i=b.v:=by
    have:bodyAt bs i=b:=by unfold bodyAt;rw[a7y,hb];rfl
    rw[←this]
    exact ok.moves hi
   unfold wy
   rw[e]
   exact i4
  ·rw[show((N7 bs []).map some).filterMap id=N7 bs [] by simp[a71]]at hW
   refine⟨a8n _,λml G3 s3 n3 t3=> ?_⟩
   refine⟨_,rfl,?_⟩
   have hWl:H wl=none:=s1.free nw
   have hMl:H ml=none:=(s1.trans s2).free n3
   have nlw:nl≠wl:=by rintro rfl;obtain⟨ys,y1,_⟩:=hN.ex;rw[nw]at y1;cases y1
   have mlw:ml≠wl:=by rintro rfl;rw[n3]at hD;cases hD
   have mln:ml≠nl:=by rintro rfl;obtain⟨ys,y1,_⟩:=hN.ex;have:=s2 _ _ y1;rw[n3]at this;cases this
   have lw:l≠wl:=by rintro rfl;exact absurd hB.lst (by rw[hWl];intro q;cases q)
   have lm:l≠ml:=by rintro rfl;exact absurd hB.lst (by rw[hMl];intro q;cases q)
   have f0:a5D K H bs nl wl ml nl [] [] (λ_=>true) (bs.length+1) (2*N8 bs []+(if(L4 bs).filter (λ_=>true)=[]then 0 else 1)) G3:=by
    refine⟨s1.trans (s2.trans s3),hN.same (s2.trans s3),M8.same ⟨acc,hD,hW⟩ s3,⟨_,t3,.nil⟩,?_,⟨λp _ e=>by cases e⟩,nlw,λq=>mln q.symm,Nat.lt_succ_of_le (aF8 _ _),rfl,by show 0+_<=_;lia,rfl⟩
    rw[List.filter_eq_self.mpr λ_ _=>rfl]
    exact hN.same (s2.trans s3)
   refine⟨λm U G=>∃stay met A f al,(∃u5 u6 u7 u8 u9:Option V,U=[some (.ref l),some (.ref nl),some (.ref wl),some (.ref ml),some (.ref al),u5,u6,u7,u8,u9])/\a5D K H bs nl wl ml al stay met A f m G,⟨_,_,_,_,_,_,⟨none,none,none,none,none,rfl⟩,f0⟩,?_⟩
   rintro m U G ⟨stay,met,A,f,al,⟨u5,u6,u7,u8,u9,rfl⟩,hI⟩
   obtain⟨ys,a1,a2⟩:=hI.asked.ex
   refine⟨_,rfl,_,.inl ⟨ys,n9.of a1,rfl⟩,?_⟩
   refine z8 (λhh=> ?_) (λhh=> ?_)
   ·refine⟨λσ' H'=>∃m',m'<m/\∃stay met A f al,(∃u5 u6 u7 u8 u9:Option V,σ'=[some (.ref l),some (.ref nl),some (.ref wl),some (.ref ml),some (.ref al),u5,u6,u7,u8,u9])/\a5D K H bs nl wl ml al stay met A f m' H',λσ' H' h=>h,?_⟩
    have ane:(L4 bs).filter A≠[]:=by
     intro e
     rw[e]at a2
     cases a2
     simp at hh
    refine⟨_,rfl,al,rfl,⟨_,n9.of a1⟩,λfl nf=> ?_⟩
    refine lcR nf (n9.of a1) (os:=((L4 bs).filter A).map λp=>if Vbwsam.clash bs stay p.1 p.2=true then some p else none) (by rw[a7r,Paired.length a2]) (by rw[a7r];exact a7G (a75 _ _) (a7G (aQ8 ok.few) (by decide))) (λp y H=>T2 K p.1 p.2 y H)
     (λb y H G ys hl r kG=>T2.kp r hl kG) (λi x o H' zs hx ho sH hf=> ?_) (λG4 acc4 s4 hf4 hF=> ?_)
    ·intro Rt Rv hT hR
     obtain⟨p,hp,q,rfl,tq⟩:=Paired.at2 a2 hx
     have hpn:p∈L4 bs:=(a7X.mp (a7F hp)).1
     obtain⟨p1,p2⟩:=J1.mp (a7X.mp hpn).1
     have p0:p.1<bs.length:=by lia
     rw[a7t,hp]at ho
     have ho:(if Vbwsam.clash bs stay p.1 p.2=true then some p else none)=o:=a7v ho
     have hBH:=hB.same (hI.same.trans sH)
     obtain⟨ws,w1,w2⟩:=(hI.ways.same sH).ex
     have body:∀{i:Nat},i<bs.length->∃a,(as.map V.ref)[i]? =some (.ref a)/\A9 K C H' a (bodyAt bs i):=λ{i} hi=>by
      have e:bs[i]? =some (bodyAt bs i):=by unfold bodyAt;rw[a7y,a7u hi];rfl
      obtain⟨a,ha,r⟩:=Paired.at2 hBH.bd e
      exact⟨a,by rw[a7t,ha];rfl,r⟩
     have way:∀{i:Nat},i<bs.length->∃q,ws[i]? =some (.ref q)/\v7 K H' q [.int (Vbwsam.going bs stay i).x,.int (Vbwsam.going bs stay i).y]:=λ{i} hi=>by
      obtain⟨y,hy,q,rfl,r⟩:=Paired.at_ w2 (P2 hi)
      exact⟨q,hy,r⟩
     have wyB:∀{i:Nat},i<bs.length->Wy (Vbwsam.going bs stay i).x/\Wy (Vbwsam.going bs stay i).y:=λ{i} hi=>by
      obtain⟨⟨v1,v2⟩,v3,v4⟩:=ok.vel i hi
      rcases U4 ok hi (stay:=stay)with e|e<;>rw[e]
      ·exact⟨⟨by decide,by decide⟩,⟨by decide,by decide⟩⟩
      ·exact⟨⟨by lia,by lia⟩,⟨by lia,by lia⟩⟩
     obtain⟨x1,e1,b1⟩:=body p0
     obtain⟨x2,e2,b2⟩:=body p2
     obtain⟨x3,e3,b3⟩:=way p0
     obtain⟨x4,e4,b4⟩:=way p2
     refine⟨q,_,rfl,f9.tup sH tq,rfl,_,_,rfl,_,_,rfl,rfl,rfl,?_⟩
     refine⟨_,rfl,_,rfl,l,_,_,_,rfl,rfl,n9.of hBH.lst,z7 e1,?_⟩
     refine⟨_,rfl,_,rfl,l,_,_,_,rfl,rfl,n9.of hBH.lst,z7 e2,?_⟩
     refine⟨_,rfl,_,rfl,wl,_,_,_,rfl,rfl,n9.of w1,z7 e3,?_⟩
     refine⟨_,rfl,_,rfl,wl,_,_,_,rfl,rfl,n9.of w1,z7 e4,?_⟩
     refine⟨x1,x2,x3,x4,_,_,_,_,_,_,rfl,b1,b2,b3,b4,⟨ok.gd _ p0,ok.gd _ p2,(wyB p0).1,(wyB p0).2,(wyB p2).1,(wyB p2).2⟩,λH2 sH2=> ?_⟩
     refine⟨_,rfl,?_⟩
     refine z8 (λhc=> ?_) (λhc=> ?_)
     ·have hc:Vbwsam.clash bs stay p.1 p.2=true:=hc
      rw[if_pos hc]at ho
      refine⟨_,rfl,_,rfl,by show 2<=sizeLine;decide,λz G' s' _ t'=>hR p ho.symm _ G' (sH2.trans s') ⟨z,rfl,v7.of t'⟩⟩
     ·have hc:¬Vbwsam.clash bs stay p.1 p.2=true:=hc
      rw[if_neg hc]at ho
      exact hT ho.symm H2 sH2
    ·rw[aQ7 (λp:Nat×Nat=>Vbwsam.clash bs stay p.1 p.2),aF6 ok hI.asks]at hF
     have fP:A2 K G4 fl (y9 bs stay):=⟨acc4,hf4,hF⟩
     obtain⟨ms,m1,m2⟩:=hI.mets.ex
     obtain⟨ws,w1,w2⟩:=hI.ways.ex
     have fw:fl≠wl:=by rintro rfl;rw[nf]at w1;cases w1
     have fm:fl≠ml:=by rintro rfl;rw[nf]at m1;cases m1
     have hlen:=a4e ok.few stay
     refine⟨_,rfl,.inl ⟨rfl,_,n9.of (s4 _ _ m1)⟩,_,rfl,ml,fl,ms,acc4,rfl,rfl,s4 _ _ m1,hf4,?_,λG5 k5 t5=> ?_⟩
     ·have h1:=hI.len
      have h2:=ok.few
      have h3:sizeLine=16777216:=sizeLine_eq
      rw[←Paired.length m2,←Paired.length hF]
      have:400*(bs.length+1)<=400*21:=Nat.mul_le_mul_left _ (by lia)
      lia
     have m5:A2 K G5 ml (met++y9 bs stay):=⟨_,t5,Paired.app (Paired.monoP (λ_ _ r=>T2.kp (T2.same r s4) (s4 _ _ m1) k5) m2) (Paired.monoP (λ_ _ r=>T2.kp r (s4 _ _ m1) k5) hF)⟩
     have w5:M8 K G5 wl (N7 bs stay):=⟨ws,k5 _ _ (λq=>mlw q.symm) (s4 _ _ w1),Paired.monoP (λ_ _ r=>T2.kp (T2.same r s4) (s4 _ _ m1) k5) w2⟩
     have f5:A2 K G5 fl (y9 bs stay):=fP.kp k5 fm (s4 _ _ m1)
     have n5:A2 K G5 nl (L4 bs):=(hI.near.same s4).kp k5 (λq=>mln q.symm) (s4 _ _ m1)
     have sm5:f9 H G5:=k5.same (hI.same.trans s4) hMl
     refine⟨_,rfl,_,rfl,wl,fl,_,_,rfl,w5,f5,fw,λp hp=> ?_,by lia,λd G6 kvs k6 nd6 d6 keys w6=> ?_⟩
     ·rw[O9]
      obtain⟨q1,q2⟩:=J1.mp (a7X.mp hp).1
      exact⟨by lia,q2⟩
     rw[a4S]at w6
     obtain⟨ws5,w51,_⟩:=w5.ex
     have m6:=m5.kp k6 mlw w51
     have n6:=n5.kp k6 nlw w51
     have sm6:f9 H G6:=k6.same sm5 hWl
     obtain⟨ns,n61,n62⟩:=n6.ex
     refine⟨_,rfl,nl,rfl,⟨_,n9.of n61⟩,λal' na=> ?_⟩
     refine lcR na (n9.of n61) (os:=(L4 bs).map λp=>if(E3 bs stay p.1||E3 bs stay p.2)=true then some p else none) (by rw[a7r,Paired.length n62]) (by rw[a7r];exact a7G (aQ8 ok.few) (by decide)) (λp y H=>T2 K p.1 p.2 y H)
      (λb y H G ys hl r kG=>T2.kp r hl kG) (λi x o H' zs hx ho sH hf=> ?_) (λG7 acc7 s7 ha7 hA=> ?_)
     ·intro Rt Rv hT hR
      obtain⟨p,hp,q,rfl,tq⟩:=Paired.at2 n62 hx
      rw[a7t,hp]at ho
      have ho:(if(E3 bs stay p.1||E3 bs stay p.2)=true then some p else none)=o:=a7v ho
      have dd:=sH _ _ d6
      refine⟨q,_,rfl,f9.tup sH tq,rfl,_,_,rfl,_,_,rfl,rfl,rfl,?_⟩
      refine⟨_,rfl,_,rfl,d,_,rfl,aW7.k (k:=Sum.inl (p.1:Int)) dd,_,rfl,?_⟩
      have k1:(J9 kvs (Sum.inl (p.1:Int))).isSome=E3 bs stay p.1:=keys p.1
      have k2:(J9 kvs (Sum.inl (p.2:Int))).isSome=E3 bs stay p.2:=keys p.2
      refine z8 (λhc=> ?_) (λhc=> ?_)
      ·rw[k1]at hc
       rw[if_pos (by rw[hc];rfl)]at ho
       refine B3 (B:=Rt H') ?_
       refine⟨_,rfl,_,rfl,by show 2<=sizeLine;decide,λz G' s' _ t'=>hR p ho.symm _ G' s' ⟨z,rfl,v7.of t'⟩⟩
      ·rw[k1]at hc
       have hc:E3 bs stay p.1=false:=by simpa using hc
       refine⟨_,rfl,_,rfl,d,_,rfl,aW7.k (k:=Sum.inl (p.2:Int)) dd,_,rfl,?_⟩
       refine z8 (λhc2=> ?_) (λhc2=> ?_)
       ·rw[k2]at hc2
        rw[if_pos (by rw[hc,hc2];rfl)]at ho
        refine⟨_,rfl,_,rfl,by show 2<=sizeLine;decide,λz G' s' _ t'=>hR p ho.symm _ G' s' ⟨z,rfl,v7.of t'⟩⟩
       ·rw[k2]at hc2
        rw[if_neg (by rw[hc,Bool.false_or];exact hc2)]at ho
        exact hT ho.symm H' (f9.refl _)
     ·rw[aQ7 (λp:Nat×Nat=>E3 bs stay p.1||E3 bs stay p.2)]at hA
      have aP:A2 K G7 al' ((L4 bs).filter λp=>E3 bs stay p.1||E3 bs stay p.2):=⟨acc7,ha7,hA⟩
      obtain⟨ws6,w61,_⟩:=w6.ex
      obtain⟨ms6,m61,_⟩:=m6.ex
      have aw:al'≠wl:=by rintro rfl;rw[na]at w61;cases w61
      have am:al'≠ml:=by rintro rfl;rw[na]at m61;cases m61
      have hm:m=2*N8 bs stay+1:=by have:=hI.meas;rw[if_neg ane]at this;exact this
      by_cases new:y9 bs stay=[]
      ·
       have hz:(L4 bs).filter (λp=>E3 bs stay p.1||E3 bs stay p.2)=[]:=by
        rw[List.filter_eq_nil_iff]
        intro p _
        unfold E3
        rw[new]
        simp[aw5,F9]
       refine⟨2*N8 bs stay,by lia,stay,met,_,f,al',⟨_,_,_,_,_,rfl⟩,sm6.trans s7,n6.same s7,?_,?_,aP,⟨λp hp _=> ?_⟩,aw,am,hI.fuel,hI.run,hI.len,by rw[if_pos hz];rfl⟩
       ·rw[←a4S,new]at w6
        have e:F9 ([]:List (Nat×Nat))=[]:=rfl
        rw[e,aw3]at w6
        exact w6.same s7
       ·rw[new,a72]at m6
        exact m6.same s7
       ·cases c:Vbwsam.clash bs stay p.1 p.2 with
        |false=>rfl
        |true=>
         have:p∈y9 bs stay:=a7X.mpr ⟨(a7X.mp hp).1,c⟩
         rw[new]at this
         cases this
      ·have ml:=aq9 ok new
       have hf:=hI.fuel
       obtain⟨f',rfl⟩:∃f',f=f'+1:=⟨f-1,by lia⟩
       refine⟨2*N8 bs (ac1 bs stay)+(if(L4 bs).filter (λp=>E3 bs stay p.1||E3 bs stay p.2)=[]then 0 else 1),?_,ac1 bs stay,met++y9 bs stay,_,f',al',⟨_,_,_,_,_,rfl⟩,sm6.trans s7,n6.same s7,w6.same s7,m6.same s7,aP,a6z ok stay,aw,am,by lia,?_,?_,rfl⟩
       ·split<;>lia
       ·rw[←Q0 new]
        exact hI.run
       ·have:=hI.len
        rw[a7M]
        lia
   ·
    have e:(L4 bs).filter A=[]:=by
     cases c:(L4 bs).filter A with
     |nil=>rfl
     |cons p r=>
      rw[c]at a2
      cases a2
      simp at hh
    have new:y9 bs stay=[]:=by rw[←aF6 ok hI.asks,e];rfl
    have hf:=hI.fuel
    obtain⟨f',rfl⟩:∃f',f=f'+1:=⟨f-1,by lia⟩
    have hr:=hI.run
    rw[Q1 new]at hr
    refine⟨_,rfl,_,rfl,by show 2<=sizeLine;decide,λp G' s' _ t'=>k p ml wl G' (hI.same.trans s') hMl (v7.of t') ?_ ?_⟩
    ·rw[←hr]
     exact hI.mets.same s'
    ·rw[←hr]
     exact hI.ways.same s'
end
abbrev T1:Stmt:=O7 29
section
variable{P:Program}{w:World}{K:Frag}{mg:Str->Option Value}{base:Heap}{C:Addr}
def an7(K:Frag)(C:Addr):Sp:=λvs H Q _=>∃(i j:Addr) (a b:a7s),vs=[.ref i,.ref j]/\A9 K C H i a/\A9 K C H j b/\(Gd a/\Gd b/\(Wy a.v.x/\Wy a.v.y)/\(Wy b.v.x/\Wy b.v.y))/\(Vbwsam.moves a=a.v/\Vbwsam.moves b=b.v)/\
 ∀p G,f9 H G->H p=none->G p=some (.tup [.bl (a8V a b).1,.bl (a8V a b).2])->Q (.ref p) G
theorem aa4:n8 ["one","other","in_x","in_y"] ["one","other"] (g9 T1):=⟨rfl,rfl,rfl,by decide+kernel,rfl,by decide+kernel,by decide+kernel⟩
theorem at3{f:Addr}{fd:FuncData}(F:M3 K "blocked_axes" "blocked_axes" T1 f fd)(cB:ab9 K C)
 (D_comes_within:Df P w K mg base "comes_within" 3 ["one","other","one_way","other_way"] (af3 K C)):A7 P w K mg base M2 4 f fd ["one","other"] (an7 K C):=by
 refine F.ok aa4 (λvs H Q E h=> ?_) (λcdv A outer s H vs Q E hr h=> ?_)
 ·obtain⟨i,j,a,b,rfl,_⟩:=h
  rfl
 ·obtain⟨i,j,a,b,rfl,hi,hj,⟨ga,gb,⟨v1,v2⟩,v3,v4⟩,⟨m1,m2⟩,k⟩:=h
  have nd:=aa4.nd
  obtain⟨cl,-,-,-,-,-,-,c7⟩:=cB
  have z0:Wy 0:=⟨by decide,by decide⟩
  refine⟨_,(e9 (j9 (i:=2) nd rfl (Or.inl rfl) (A0 D_comes_within hr (by rfl) (e8 (pv 0) (e8 (pv 1) (e8 (p8 (e8 (i9 j5 (j7 (pv 0) rfl) f6 (λ_ _=>rfl)) (e8 f6 f7))) (e8 (p8 (e8 (i9 j5 (j7 (pv 1) rfl) f6 (λ_ _=>rfl)) (e8 f6 f7))) f7))))))
   (e9 (j9 (i:=3) nd rfl (Or.inl rfl) (A0 D_comes_within hr (by rfl) (e8 (pv 0) (e8 (pv 1) (e8 (p8 (e8 f6 (e8 (i9 j5 (j7 (pv 0) rfl) f6 (λ_ _=>rfl)) f7))) (e8 (p8 (e8 f6 (e8 (i9 j5 (j7 (pv 1) rfl) f6 (λ_ _=>rfl)) f7))) f7))))))
   (e9 (B8 (aa9 (Q5 (pv 2) (λ_=>rfl)) (ah0 (Q5 (pv 3) (λ_=>rfl)))).pt
    (f8 (l8 (p8 (e8 (pv 2) (e8 (pv 3) f7)))))
    v8)
   (f8 (l8 (p8 (e8 aa1 (e8 aa1 f7)))))))),?_⟩
  obtain⟨di,hai,pai,vai,i1,i2,i3,i4⟩:=hi.ex
  obtain⟨dj,haj,paj,vaj,j1,j2,j3,j4⟩:=hj.ex
  walk_at "rd"
  refine⟨by show 2<=sizeLine;decide,λp1 G1 s1 _ t1=> ?_⟩
  have i1:=s1 _ _ i1
  have j1:=s1 _ _ j1
  have i4:=f9.tup s1 i4
  have j4:=f9.tup s1 j4
  walk_at "rd"
  refine⟨by show 2<=sizeLine;decide,λp2 G2 s2 _ t2=> ?_⟩
  refine⟨i,j,p1,p2,a,b,a.v.x,0,b.v.x,0,rfl,hi.same (s1.trans s2),hj.same (s1.trans s2),v7.of (s2 _ _ t1),v7.of t2,⟨ga,gb,v1,z0,v3,z0⟩,λG3 s3=> ?_⟩
  have i1:=s3 _ _ (s2 _ _ i1)
  have j1:=s3 _ _ (s2 _ _ j1)
  have i4:=f9.tup s3 (f9.tup s2 i4)
  have j4:=f9.tup s3 (f9.tup s2 j4)
  walk_at "rd"
  refine⟨by show 2<=sizeLine;decide,λp4 G4 s4 _ t4=> ?_⟩
  have i1:=s4 _ _ i1
  have j1:=s4 _ _ j1
  have i4:=f9.tup s4 i4
  have j4:=f9.tup s4 j4
  walk_at "rd"
  refine⟨by show 2<=sizeLine;decide,λp5 G5 s5 _ t5=> ?_⟩
  have sA:=s1.trans (s2.trans (s3.trans (s4.trans s5)))
  refine⟨i,j,p4,p5,a,b,0,a.v.y,0,b.v.y,rfl,hi.same sA,hj.same sA,v7.of (s5 _ _ t4),v7.of t5,⟨ga,gb,z0,v2,z0,v4⟩,λG6 s6=> ?_⟩
  have eb:a8V a b=if(Vbwsam.clashBy a b ⟨a.v.x,0⟩ ⟨b.v.x,0⟩||Vbwsam.clashBy a b ⟨0,a.v.y⟩ ⟨0,b.v.y⟩)=true then(Vbwsam.clashBy a b ⟨a.v.x,0⟩ ⟨b.v.x,0⟩,Vbwsam.clashBy a b ⟨0,a.v.y⟩ ⟨0,b.v.y⟩)else(true,true):=by
   unfold a8V
   rw[m1,m2]
   rfl
  have sB:=sA.trans s6
  generalize Vbwsam.clashBy a b ⟨a.v.x,0⟩ ⟨b.v.x,0⟩=x at*
  generalize Vbwsam.clashBy a b ⟨0,a.v.y⟩ ⟨0,b.v.y⟩=y at*
  refine⟨_,rfl,x,rfl,?_⟩
  refine z8 (λhx=> ?_) (λhx=> ?_)
  ·rw[hx]at eb⊢
   refine B3 ?_
   refine⟨_,rfl,_,rfl,by show 2<=sizeLine;decide,λp7 G7 s7 n7 t7=>k p7 G7 (sB.trans s7) (sB.free n7) ?_⟩
   rw[eb]
   exact t7
  ·refine⟨_,rfl,y,rfl,?_⟩
   have hx:x=false:=by simpa using hx
   refine z8 (λhy=> ?_) (λhy=> ?_)
   ·refine⟨_,rfl,_,rfl,by show 2<=sizeLine;decide,λp7 G7 s7 n7 t7=>k p7 G7 (sB.trans s7) (sB.free n7) ?_⟩
    rw[eb,if_pos (by rw[hy,Bool.or_true])]
    exact t7
   ·refine⟨by show 2<=sizeLine;decide,λp7 G7 s7 n7 t7=>k p7 G7 (sB.trans s7) (sB.free n7) ?_⟩
    rw[eb,if_neg (by rw[hx,Bool.false_or];exact hy)]
    exact t7
end
end Mp
namespace Mp
open Vbwsam (bodyAt setOf insertNum grow groupOf isFixed)
theorem aF9{n:Nat}:∀{l:List Nat},l.Pairwise (·<·)->(insertNum n l).Pairwise (·<·)
 |[],_=>by simp[insertNum]
 |m::r,h=>by
  obtain⟨h1,h2⟩:=a8p.mp h
  unfold insertNum
  split
  ·rename_i q
   refine a8p.mpr ⟨λx hx=> ?_,h⟩
   rcases a7D.mp hx with rfl|hx
   ·exact q
   ·exact a84 q (h1 x hx)
  ·split
   ·exact h
   ·rename_i q1 q2
    refine a8p.mpr ⟨λx hx=> ?_,aF9 h2⟩
    rcases V9.mp hx with rfl|hx
    ·lia
    ·exact h1 x hx
theorem a0W:∀{l acc:List Nat},acc.Pairwise (·<·)->(l.foldl (λa n=>insertNum n a) acc).Pairwise (·<·)
 |[],acc,h=>h
 |n::r,acc,h=>a0W (l:=r) (aF9 h)
theorem aw7(l:List Nat):(setOf l).Pairwise (·<·):=a0W (l:=l) List.Pairwise.nil
theorem aK4:∀{l m:List Nat},l.Pairwise (·<·)->m.Pairwise (·<·)->(∀x,x∈l↔x∈m)->l=m
 |[],[],_,_,_=>rfl
 |[],b::m,_,_,h=>by have:=(h b).mpr a7C;cases this
 |a::l,[],_,_,h=>by have:=(h a).mp a7C;cases this
 |a::l,b::m,hl,hm,h=>by
  obtain⟨l1,l2⟩:=a8p.mp hl
  obtain⟨m1,m2⟩:=a8p.mp hm
  have e:a=b:=by
   rcases a7D.mp ((h a).mp a7C)with q|q
   ·exact q
   ·rcases a7D.mp ((h b).mpr a7C)with z|z
    ·exact z.symm
    ·have:=m1 a q
     have:=l1 b z
     lia
  subst e
  refine congrArg (a::·) (aK4 l2 m2 λx=> ?_)
  constructor
  ·intro hx
   rcases a7D.mp ((h x).mp (a7B _ hx))with q|q
   ·subst q;exact absurd (l1 x hx) (a8I _)
   ·exact q
  ·intro hx
   rcases a7D.mp ((h x).mpr (a7B _ hx))with q|q
   ·subst q;exact absurd (m1 x hx) (a8I _)
   ·exact q
theorem af4(n:Nat)(S:Nat->Bool):((a7J n).filter S).Pairwise (·<·):=List.Pairwise.filter _ List.pairwise_lt_range
theorem aj9{n:Nat}{s:List Nat}(h:s.Pairwise (·<·))(hb:∀x∈s,x<n):s=(a7J n).filter λx=>s.contains x:=by
 refine aK4 h (af4 n _) λx=> ?_
 rw[a7X,a8G,a73,decide_eq_true_eq]
 exact⟨λq=>⟨hb x q,q⟩,λq=>q.2⟩
theorem a5E{n:Nat}{s:List Nat}(h:s.Pairwise (·<·))(hb:∀x∈s,x<n):s.length<=n:=by
 rw[aj9 h hb]
 exact a7G (a75 _ _) (by rw[a70];exact a7A _)
theorem a6A{n:Nat}{s t:List Nat}(hs:s.Pairwise (·<·))(ht:t.Pairwise (·<·))(bs:∀x∈s,x<n)(bt:∀x∈t,x<n)(sub:∀x∈s,x∈t){x:Nat}(h1:x∈t)(h2:x∉s):s.length<t.length:=by
 have e1:=congrArg a9G (aj9 hs bs)
 have e2:=congrArg a9G (aj9 ht bt)
 rw[e1,e2]
 refine W1 (x:=x) (λy _ hy=> ?_) (a8G.mpr (bt x h1)) (by simpa using h1) (by simpa using h2)
 have hy:y∈s:=by simpa using hy
 simpa using sub y hy
theorem a6B{n:Nat}{s t:List Nat}(hs:s.Pairwise (·<·))(ht:t.Pairwise (·<·))(bs:∀x∈s,x<n)(bt:∀x∈t,x<n)(sub:∀x∈s,x∈t):s.length<=t.length:=by
 have e1:=congrArg a9G (aj9 hs bs)
 have e2:=congrArg a9G (aj9 ht bt)
 rw[e1,e2]
 refine aF7 λy _ hy=> ?_
 have hy:y∈s:=by simpa using hy
 simpa using sub y hy
def aK5(l:List a7s)(es:List (Nat×Nat))(S:Nat->Prop):Prop:=∀p∈es,isFixed l p.1=false->isFixed l p.2=false->(S p.1↔S p.2)
def ac3(l:List a7s)(es:List (Nat×Nat))(s:List Nat):List Nat:=es.flatMap λp=>if isFixed l p.1=true\/isFixed l p.2=true then []else if s.contains p.1=true then [p.2]else if s.contains p.2=true then [p.1]else []
theorem a1P(l:List a7s)(es:List (Nat×Nat))(f:Nat)(s:List Nat):grow l es (f+1) s=if(setOf (s++ac3 l es s)).length=s.length then s else grow l es f (setOf (s++ac3 l es s)):=rfl
theorem aR0{l:List a7s}{es:List (Nat×Nat)}{s:List Nat}{x:Nat}(h:x∈ac3 l es s):∃p∈es,isFixed l p.1=false/\isFixed l p.2=false/\((p.1∈s/\x=p.2)\/(p.2∈s/\x=p.1)):=by
 obtain⟨p,hp,hx⟩:=a8B.mp h
 split at hx
 ·cases hx
 ·rename_i nf
  have f1:isFixed l p.1=false:=by cases e:isFixed l p.1 with|false=>rfl|true=>exact absurd (.inl e) nf
  have f2:isFixed l p.2=false:=by cases e:isFixed l p.2 with|false=>rfl|true=>exact absurd (.inr e) nf
  refine⟨p,hp,f1,f2,?_⟩
  split at hx
  ·rename_i c
   exact .inl ⟨by simpa using c,by simpa using hx⟩
  ·split at hx
   ·rename_i c
    exact .inr ⟨by simpa using c,by simpa using hx⟩
   ·cases hx
theorem a4f{l:List a7s}{es:List (Nat×Nat)}{s:List Nat}{p:Nat×Nat}(hp:p∈es)(f1:isFixed l p.1=false)(f2:isFixed l p.2=false):(p.1∈s->p.2∈ac3 l es s)/\(p.2∈s->p.1∈s\/p.1∈ac3 l es s):=by
 have nf:¬(isFixed l p.1=true\/isFixed l p.2=true):=by rw[f1,f2];simp
 constructor
 ·intro h
  refine a8B.mpr ⟨p,hp,?_⟩
  rw[if_neg nf,if_pos (by simpa using h)]
  exact a7N.mpr rfl
 ·intro h
  by_cases c:p.1∈s
  ·exact .inl c
  ·refine .inr (a8B.mpr ⟨p,hp,?_⟩)
   rw[if_neg nf,if_neg (by simpa using c),if_pos (by simpa using h)]
   exact a7N.mpr rfl
theorem aG0{l:List a7s}{es:List (Nat×Nat)}{n:Nat}(he:∀p∈es,p.1<n/\p.2<n):∀(f:Nat) (s:List Nat),s.Pairwise (·<·)->(∀x∈s,x<n)->n+1<=s.length+f->
 (grow l es f s).Pairwise (·<·)/\(∀x∈grow l es f s,x<n)/\(∀x∈s,x∈grow l es f s)/\aK5 l es (·∈grow l es f s)/\∀S:Nat->Prop,aK5 l es S->(∀x∈s,S x)->∀x∈grow l es f s,S x
 |0,s,h1,h2,h3=>by have:=a5E h1 h2;lia
 |f+1,s,h1,h2,h3=>by
  have mb:∀x∈ac3 l es s,x<n:=λx hx=>by
   obtain⟨p,hp,_,_,h⟩:=aR0 hx
   rcases h with⟨_,rfl⟩|⟨_,rfl⟩
   ·exact(he p hp).2
   ·exact(he p hp).1
  have tb:∀x∈setOf (s++ac3 l es s),x<n:=λx hx=>by
   rcases a77.mp (O8.mp hx)with q|q
   ·exact h2 x q
   ·exact mb x q
  rw[a1P]
  by_cases hl:(setOf (s++ac3 l es s)).length=s.length
  ·rw[if_pos hl]
   have sub:∀x∈ac3 l es s,x∈s:=λx hx=>by
    by_cases q:x∈s
    ·exact q
    ·exfalso
     have:=a6A h1 (aw7 (s++ac3 l es s)) h2 tb (λy hy=>O8.mpr (a88 _ hy)) (O8.mpr (a8u _ hx)) q
     lia
   refine⟨h1,h2,λx hx=>hx,λp hp f1 f2=> ?_,λS _ hS x hx=>hS x hx⟩
   obtain⟨a,b⟩:=a4f (s:=s) hp f1 f2
   exact⟨λq=>sub _ (a q),λq=>(b q).elim id (sub _)⟩
  ·rw[if_neg hl]
   have hlt:s.length<(setOf (s++ac3 l es s)).length:=by
    exact Nat.lt_of_le_of_ne (a6B h1 (aw7 (s++ac3 l es s)) h2 tb λy hy=>O8.mpr (a88 _ hy)) (λq=>hl q.symm)
   obtain⟨a,b,c,d,e⟩:=aG0 he f (setOf (s++ac3 l es s)) (aw7 _) tb (by lia)
   refine⟨a,b,λx hx=>c x (O8.mpr (a88 _ hx)),d,λS hS hs x hx=>e S hS (λy hy=> ?_) x hx⟩
   rcases a77.mp (O8.mp hy)with q|q
   ·exact hs y q
   ·obtain⟨p,hp,f1,f2,h⟩:=aR0 q
    rcases h with⟨z,rfl⟩|⟨z,rfl⟩
    ·exact(hS p hp f1 f2).mp (hs _ z)
    ·exact(hS p hp f1 f2).mpr (hs _ z)
def J6(L:List Nat)(i j:Nat):List Nat:=L.map λx=>if x=L.getD j 0 then L.getD i 0 else x
def C7(l:List a7s)(es:List (Nat×Nat))(L:List Nat):List Nat:=es.foldl (λL p=>if isFixed l p.1=false/\isFixed l p.2=false then J6 L p.1 p.2 else L) L
theorem U6(L:List Nat)(i j:Nat):(J6 L i j).length=L.length:=a7r _
theorem ar1{L:List Nat}{i j a:Nat}(h:a<L.length):(J6 L i j).getD a 0=if L.getD a 0=L.getD j 0 then L.getD i 0 else L.getD a 0:=by
 unfold J6
 rw[a7y,a7t,a7u h]
 have e:L.getD a 0=L[a]:=by rw[a7y,a7u h];rfl
 rw[e]
 rfl
theorem U7{l:List a7s}{n:Nat}:∀(es:List (Nat×Nat)) (L:List Nat),L.length=n->(∀p∈es,p.1<n/\p.2<n)->
 (C7 l es L).length=n/\(∀a b,a<n->b<n->L.getD a 0=L.getD b 0->(C7 l es L).getD a 0=(C7 l es L).getD b 0)/\
 (∀p∈es,isFixed l p.1=false->isFixed l p.2=false->(C7 l es L).getD p.1 0=(C7 l es L).getD p.2 0)/\
 ∀S:Nat->Prop,aK5 l es S->(∀a b,a<n->b<n->L.getD a 0=L.getD b 0->(S a↔S b))->∀a b,a<n->b<n->(C7 l es L).getD a 0=(C7 l es L).getD b 0->(S a↔S b)
 |[],L,hL,_=>⟨hL,λ_ _ _ _ h=>h,λp hp=>(by cases hp),λS _ h=>h⟩
 |p::es,L,hL,he=>by
  have hp:=he p a7C
  have he':=λq hq=>he q (a7B p hq)
  show((C7 l es (if isFixed l p.1=false/\isFixed l p.2=false then J6 L p.1 p.2 else L)).length=n/\_)
  by_cases hf:isFixed l p.1=false/\isFixed l p.2=false
  ·have e:C7 l (p::es) L=C7 l es (J6 L p.1 p.2):=by
    show C7 l es (if isFixed l p.1=false/\isFixed l p.2=false then J6 L p.1 p.2 else L)=_
    rw[if_pos hf]
   rw[if_pos hf,e]
   obtain⟨a1,a2,a3,a4⟩:=U7 (l:=l) es (J6 L p.1 p.2) (by rw[U6];exact hL) he'
   have g:∀{a},a<n->(J6 L p.1 p.2).getD a 0=if L.getD a 0=L.getD p.2 0 then L.getD p.1 0 else L.getD a 0:=λ{a} h=>ar1 (by rw[hL];exact h)
   refine⟨a1,λa b ha hb h=>a2 a b ha hb (by rw[g ha,g hb,h]),λq hq f1 f2=> ?_,λS hS h=>a4 S (λq hq=>hS q (a7B _ hq)) λa b ha hb hab=> ?_⟩
   ·rcases a7D.mp hq with rfl|hq
    ·refine a2 _ _ hp.1 hp.2 ?_
     rw[g hp.1,g hp.2,if_pos rfl]
     split<;>rfl
    ·exact a3 q hq f1 f2
   ·have ij:=hS p a7C hf.1 hf.2
    rw[g ha,g hb]at hab
    split at hab
    ·rename_i c1
     split at hab
     ·rename_i c2
      exact h a b ha hb (c1.trans c2.symm)
     ·exact(h a p.2 ha hp.2 c1).trans (ij.symm.trans (h p.1 b hp.1 hb hab))
    ·split at hab
     ·rename_i c2
      exact(h a p.1 ha hp.1 hab).trans (ij.trans (h p.2 b hp.2 hb c2.symm))
     ·exact h a b ha hb hab
  ·have e:C7 l (p::es) L=C7 l es L:=by
    show C7 l es (if isFixed l p.1=false/\isFixed l p.2=false then J6 L p.1 p.2 else L)=_
    rw[if_neg hf]
   rw[if_neg hf,e]
   obtain⟨a1,a2,a3,a4⟩:=U7 (l:=l) es L hL he'
   refine⟨a1,a2,λq hq f1 f2=> ?_,λS hS h=>a4 S (λq hq=>hS q (a7B _ hq)) h⟩
   rcases a7D.mp hq with rfl|hq
   ·exact absurd ⟨f1,f2⟩ hf
   ·exact a3 q hq f1 f2
def P4(es:List (Nat×Nat))(i:Nat):Bool:=(F9 es).contains i
def L5(l:List a7s)(es:List (Nat×Nat)):List Nat:=C7 l es (a7J l.length)
def aY2(l:List a7s)(es:List (Nat×Nat))(lab:Nat):List Nat:=(a7J l.length).filter λj=>P4 es j&&(!isFixed l j&&decide ((L5 l es).getD j 0=lab))
theorem aw8{n a:Nat}(h:a<n):(a7J n).getD a 0=a:=by
 rw[a7y,a9E h]
 rfl
theorem a2V{l:List a7s}{es:List (Nat×Nat)}(he:∀p∈es,p.1<l.length/\p.2<l.length){i:Nat}(hi:i<l.length)(hp:P4 es i=true)(hf:isFixed l i=false):groupOf l es i=aY2 l es ((L5 l es).getD i 0):=by
 obtain⟨a1,a2,a3,a4⟩:=U7 (l:=l) es (a7J l.length) a70 he
 obtain⟨g1,g2,g3,g4,g5⟩:=aG0 (l:=l) (es:=es) he l.length [i] (List.pairwise_singleton _ _) (λx hx=>by rw[a7N.mp hx];exact hi) (by show _<=1+_;lia)
 have gen:∀S:Nat->Prop,aK5 l es S->∀a b,a<l.length->b<l.length->(L5 l es).getD a 0=(L5 l es).getD b 0->(S a↔S b):=λS hS=>a4 S hS λa b ha hb h=>by
  rw[aw8 ha,aw8 hb]at h
  rw[h]
 refine aK4 g1 (af4 _ _) λx=> ?_
 unfold aY2
 rw[a7X,a8G]
 simp only[a7z,Bool.not_eq_true',decide_eq_true_eq]
 constructor
 ·intro hx
  have hx':x∈grow l es l.length [i]:=hx
  refine⟨g2 x hx,?_,?_,?_⟩
  ·refine g5 (λx=>P4 es x=true) (λp hp _ _=> ?_) (λy hy=>by rw[a7N.mp hy];exact hp) x hx
   have:=ac2 hp
   unfold P4
   simp[this.1,this.2]
  ·refine g5 (λx=>isFixed l x=false) (λp hp f1 f2=>by simp[f1,f2]) (λy hy=>by rw[a7N.mp hy];exact hf) x hx
  ·refine g5 (λx=>(L5 l es).getD x 0=(L5 l es).getD i 0) (λp hp f1 f2=> ?_) (λy hy=>by rw[a7N.mp hy]) x hx
   have:=a3 p hp f1 f2
   have this:(L5 l es).getD p.1 0=(L5 l es).getD p.2 0:=this
   show(L5 l es).getD p.1 0=_↔(L5 l es).getD p.2 0=_
   rw[this]
 ·rintro⟨h1,_,_,h4⟩
  exact(gen (·∈grow l es l.length [i]) g4 x i h1 hi h4).mpr (g3 i (a7N.mpr rfl))
end Mp
namespace Mp
open PySem PySem.Spec PyProof.Rows L2
theorem aG1:∀(n:Nat) (l:List Nat),l.Nodup->(∀x∈l,x<n)->l.length<=n
 |0,l,_,hb=>by
  cases l with
  |nil=>exact a7A _
  |cons a r=>exact absurd (hb a a7C) (a8Q _)
 |n+1,l,hn,hb=>by
  have e:=List.length_eq_countP_add_countP (λx:Nat=>decide (x<n)) (l:=l)
  have h1:(l.filter λx=>decide (x<n)).length<=n:=aG1 n _ (hn.sublist List.filter_sublist) λx hx=>by simpa using(a7X.mp hx).2
  rw[←List.countP_eq_length_filter]at h1
  have h2:List.countP (λa=>decide ¬decide (a<n)=true) l<=List.count n l:=by
   rw[List.count_eq_countP]
   refine List.countP_mono_left λx hx h=> ?_
   have:=hb x hx
   have h:¬x<n:=by simpa using h
   have:x=n:=by lia
   simp[this]
  have h3:=List.nodup_iff_count.mp hn n
  lia
def L7(kvs:List (M0×V))(done:List Nat):Prop:=∃ns:List Nat,kvs.map (·.1)=ns.map (λn:Nat=>(Sum.inl (n:Int):M0))/\ns.Nodup/\∀n,n∈ns↔n∈done
theorem ar2:L7 [] []:=⟨[],rfl,a9q,λ_=>Iff.rfl⟩
theorem a2W{kvs:List (M0×V)}{k:M0}{v:V}(h:(J9 kvs k).isSome=true):(K4 kvs k v).map (·.1)=kvs.map (·.1):=by
 unfold K4
 rw[Q6,if_pos h,a8s]
 refine map_congr_left λp _=> ?_
 show(if p.1=k then(p.1,v)else p).1=p.1
 split<;>rfl
theorem L7.look{kvs:List (M0×V)}{done:List Nat}(h:L7 kvs done)(n:Nat):(J9 kvs (Sum.inl (n:Int))).isSome=done.contains n:=by
 obtain⟨ns,e,nd,hm⟩:=h
 have key:(Sum.inl (n:Int):M0)∈kvs.map (·.1)↔n∈done:=by
  rw[e,a8j,←hm n]
  constructor
  ·rintro⟨m,h1,h2⟩
   have:m=n:=by have:=Sum.inl.inj h2;lia
   rw[←this]
   exact h1
  ·exactλh=>⟨n,h,rfl⟩
 rw[a73]
 cases v:J9 kvs (Sum.inl (n:Int))with
 |none=>
  have:¬n∈done:=λq=>a2I v (key.mpr q)
  simp[this]
 |some y=>
  have:n∈done:=key.mp (a35 v)
  simp[this]
theorem L7.put{kvs:List (M0×V)}{done:List Nat}(h:L7 kvs done)(n:Nat)(v:V):L7 (K4 kvs (Sum.inl (n:Int)) v) (done++[n]):=by
 have hl:=h.look n
 obtain⟨ns,e,nd,hm⟩:=h
 cases c:J9 kvs (Sum.inl (n:Int))with
 |some y=>
  rw[c]at hl
  have hn:n∈done:=by simpa using hl.symm
  refine⟨ns,by rw[a2W (by rw[c];rfl),e],nd,λm=> ?_⟩
  rw[hm m,a77,a7N]
  exact⟨.inl,λq=>q.elim id λq=>q▸hn⟩
 |none=>
  rw[c]at hl
  have hn:¬n∈done:=by simpa using hl.symm
  refine⟨ns++[n],by rw[aP4 v c,a8m,a8m,e];rfl,?_,λm=> ?_⟩
  ·rw[nodup_append]
   refine⟨nd,a8J.mpr ⟨by simp,a9q⟩,λa ha b hb=> ?_⟩
   rw[a7N.mp hb]
   rintro rfl
   exact hn ((hm a).mp ha)
  ·rw[a77,a77,hm m]
theorem L7.len{kvs:List (M0×V)}{done:List Nat}{n:Nat}(h:L7 kvs done)(hb:∀x∈done,x<n):kvs.length<=n:=by
 obtain⟨ns,e,nd,hm⟩:=h
 have:kvs.length=ns.length:=by rw[←a7r (f:=(·.1)) (as:=kvs),e,a7r]
 rw[this]
 exact aG1 n ns nd λx hx=>hb x ((hm x).mp hx)
theorem aR1{n:Nat}{ns:List Nat}{done:List Nat}{zs:List Int}(nd:ns.Nodup)(hm:∀x,x∈ns↔x∈done)(hb:∀x∈done,x<n)(hp:zs.Perm (ns.map λx:Nat=>(x:Int)))(hs:zs.Pairwise (·<=·)):
 zs=((a7J n).filter λx=>done.contains x).map λx:Nat=>(x:Int):=by
 have mem:∀z,z∈zs↔∃x∈ns,(x:Int)=z:=λz=>by rw[hp.mem_iff,a8j]
 have e:zs=(zs.map Int.toNat).map λx:Nat=>(x:Int):=by
  rw[a8s]
  refine(List.map_id'' (λz=>rfl) zs).symm.trans ?_
  refine map_congr_left λz hz=> ?_
  obtain⟨x,_,rfl⟩:=(mem z).mp hz
  rfl
 rw[e]
 refine congrArg _ (aK4 ?_ (af4 n _) λx=> ?_)
 ·have nz:zs.Nodup:=by
   rw[hp.nodup_iff]
   exact List.Pairwise.map _ (λa b h q=>h (by lia)) nd
  have lt:zs.Pairwise (·<·):=by
   refine List.Pairwise.imp₂ (R:=(·<=·)) (S:=(·≠·)) (λa b h1 h2=> ?_) hs nz
   lia
  refine List.Pairwise.map _ (λa b h=>h) ?_
  refine List.Pairwise.imp_of_mem (λ{a b} ha hb h=> ?_) lt
  obtain⟨x,_,rfl⟩:=(mem a).mp ha
  obtain⟨y,_,rfl⟩:=(mem b).mp hb
  lia
 ·rw[a8j,a7X,a8G,a73,decide_eq_true_eq]
  constructor
  ·rintro⟨z,hz,rfl⟩
   obtain⟨y,hy,rfl⟩:=(mem z).mp hz
   have:=(hm y).mp hy
   exact⟨hb y this,this⟩
  ·rintro⟨_,h⟩
   exact⟨(x:Int),(mem _).mpr ⟨x,(hm x).mpr h,rfl⟩,rfl⟩
def ah6:List (Nat×List Nat)->Nat->Nat->List (Nat×List Nat)
 |[],lab,n=>[(lab,[n])]
 |(a,g)::r,lab,n=>if a=lab then(a,g++[n])::r else(a,g)::ah6 r lab n
def M4(L:List Nat)(dn:List Nat):List (Nat×List Nat):=dn.foldl (λab n=>ah6 ab (L.getD n 0) n) []
theorem ar3(L dn:List Nat)(n:Nat):M4 L (dn++[n])=ah6 (M4 L dn) (L.getD n 0) n:=by
 unfold M4
 rw[foldl_append]
 rfl
theorem aw9:∀{ab:List (Nat×List Nat)} {lab n:Nat},(∀e∈ab,e.1≠lab)->ah6 ab lab n=ab++[(lab,[n])]
 |[],_,_,_=>rfl
 |(a,g)::r,lab,n,h=>by
  unfold ah6
  rw[if_neg (h (a,g) a7C),aw9 λe he=>h e (a7B _ he)]
  rfl
theorem ax0:∀{ab:List (Nat×List Nat)} {lab n t:Nat} {g:List Nat},(ab.map (·.1)).Nodup->ab[t]? =some (lab,g)->ah6 ab lab n=ab.set t (lab,g++[n])
 |[],_,_,_,_,_,h=>by simp at h
 |(a,g')::r,lab,n,0,g,_,h=>by
  cases h
  unfold ah6
  rw[if_pos rfl]
  rfl
 |(a,g')::r,lab,n,t+1,g,nd,h=>by
  obtain⟨h1,h2⟩:=a8J.mp nd
  have ne:¬a=lab:=λq=>h1 (a8j.mpr ⟨(lab,g),a7F (l:=r) (i:=t) h,q.symm⟩)
  unfold ah6
  rw[if_neg ne,ax0 h2 (t:=t) h]
  rfl
structure aY3(L dn:List Nat)(ab:List (Nat×List Nat)):Prop where
 nd:(ab.map (·.1)).Nodup
 all:∀n∈dn,∃e∈ab,e.1=L.getD n 0
 is:∀e∈ab,e.2=dn.filter (λn=>decide (L.getD n 0=e.1))/\e.2≠[]
theorem a2X(L:List Nat):aY3 L [] []:=⟨a9q,λn h=>(by cases h),λe h=>(by cases h)⟩
theorem aY3.add{L dn:List Nat}{ab:List (Nat×List Nat)}(h:aY3 L dn ab)(n:Nat):aY3 L (dn++[n]) (ah6 ab (L.getD n 0) n):=by
 by_cases c:∃e∈ab,e.1=L.getD n 0
 ·obtain⟨e,he,ee⟩:=c
  obtain⟨t,ht⟩:=a8Z he
  obtain⟨lab,g⟩:=e
  have ee:lab=L.getD n 0:=ee
  subst ee
  rw[ax0 h.nd ht]
  have tl:t<ab.length:=(a7x.mp ht).1
  have keys:(ab.set t (L.getD n 0,g++[n])).map (·.1)=ab.map (·.1):=by
   rw[List.map_set]
   refine aw4 ?_
   rw[a7t,ht]
   rfl
  refine⟨by rw[keys];exact h.nd,λm hm=> ?_,λe he=> ?_⟩
  ·have key:∃e∈ab,e.1=L.getD m 0:=by
    rcases a77.mp hm with q|q
    ·exact h.all m q
    ·rw[a7N.mp q];exact⟨_,he,rfl⟩
   obtain⟨e,h1,h2⟩:=key
   have:L.getD m 0∈(ab.set t (L.getD n 0,g++[n])).map (·.1):=by rw[keys];exact a8j.mpr ⟨e,h1,h2⟩
   obtain⟨e',h3,h4⟩:=a8j.mp this
   exact⟨e',h3,h4⟩
  ·rw[a9e]
   obtain⟨i,hi⟩:=a8Z he
   by_cases ti:t=i
   ·subst ti
    rw[a8R tl]at hi
    cases hi
    have:=(h.is _ (a7F ht)).1
    have this:g=dn.filter (λm=>decide (L.getD m 0=L.getD n 0)):=this
    refine⟨?_,by simp⟩
    show g++[n]=_
    rw[←this]
    simp
   ·rw[a8X ti]at hi
    have h1:=h.is e (a7F hi)
    have ne:¬L.getD n 0=e.1:=λq=>by
     have a1:(ab.map (·.1))[t]? =some (L.getD n 0):=by rw[a7t,ht];rfl
     have a2:(ab.map (·.1))[i]? =some (L.getD n 0):=by rw[a7t,hi,q];rfl
     exact ti (a2K h.nd a1 a2)
    refine⟨?_,h1.2⟩
    rw[h1.1]
    simp only[a8b,filter_nil,ne,decide_false,a8k,if_false,a72]
 ·have no:∀e∈ab,e.1≠L.getD n 0:=λe he q=>c ⟨e,he,q⟩
  rw[aw9 no]
  refine⟨?_,λm hm=> ?_,λe he=> ?_⟩
  ·rw[a8m,nodup_append]
   refine⟨h.nd,a8J.mpr ⟨by simp,a9q⟩,λa ha b hb=> ?_⟩
   obtain⟨e,he,rfl⟩:=a8j.mp ha
   rw[a7N.mp hb]
   exact no e he
  ·rcases a77.mp hm with q|q
   ·obtain⟨e,h1,h2⟩:=h.all m q
    exact⟨e,a88 _ h1,h2⟩
   ·rw[a7N.mp q]
    exact⟨_,a8u _ (a7N.mpr rfl),rfl⟩
  ·rw[a9e]
   rcases a77.mp he with q|q
   ·have h1:=h.is e q
    have ne:¬L.getD n 0=e.1:=λz=>no e q z.symm
    refine⟨?_,h1.2⟩
    simp only[a8b,filter_nil,ne,decide_false,a8k,if_false,a72]
    exact h1.1
   ·rw[a7N.mp q]
    refine⟨?_,by simp⟩
    have z:dn.filter (λm=>decide (L.getD m 0=L.getD n 0))=[]:=by
     rw[List.filter_eq_nil_iff]
     intro m hm q
     obtain⟨e,h1,h2⟩:=h.all m hm
     exact no e h1 (h2.trans (by simpa using q))
    show [n]=_++_
    rw[z]
    simp
theorem a5F(L:List Nat):∀dn:List Nat,aY3 L dn (M4 L dn):=by
 have key:∀(r dn:List Nat),aY3 L dn (M4 L dn)->aY3 L (dn++r) (M4 L (dn++r)):=λr=>by
  induction r with
  |nil=>intro dn h;rw[a72];exact h
  |cons n r ih=>
   intro dn h
   have:=ih (dn++[n]) (by rw[ar3];exact h.add n)
   rw[a82]at this
   exact this
 intro dn
 exact key dn [] (a2X L)
def C4(g:List Nat):List V:=g.map λn:Nat=>V.int (n:Int)
def ak0(ab:List (Nat×List Nat))(qs:List Addr):List (M0×V):=List.zipWith (λ(e:Nat×List Nat) (q:Addr)=>((Sum.inl (e.1:Int):M0),V.ref q)) ab qs
structure GD(H0:Hp)(d:Addr)(ab:List (Nat×List Nat))(qs:List Addr)(G:Hp):Prop where
 dict:G d=some (.dK (ak0 ab qs))
 nd:qs.Nodup
 new:∀q∈qs,H0 q=Option.none
 lst:Paired (λ(e:Nat×List Nat) q=>G q=some (.lst (C4 e.2))) ab qs
theorem aR2:∀{ab:List (Nat×List Nat)} {qs:List Addr},ab.length=qs.length->(ak0 ab qs).map (·.2)=qs.map V.ref
 |[],[],_=>rfl
 |[],_::_,h=>by cases h
 |_::_,[],h=>by cases h
 |e::ab,q::qs,h=>congrArg (V.ref q::·) (aR2 (Nat.succ.inj h))
theorem aG2:∀{ab:List (Nat×List Nat)} {qs:List Addr} {e:Nat×List Nat} {q:Addr},ab.length=qs.length->ak0 (ab++[e]) (qs++[q])=ak0 ab qs++[(Sum.inl (e.1:Int),V.ref q)]
 |[],[],_,_,_=>rfl
 |[],_::_,_,_,h=>by cases h
 |_::_,[],_,_,h=>by cases h
 |a::ab,p::qs,e,q,h=>congrArg ((Sum.inl (a.1:Int),V.ref p)::·) (aG2 (Nat.succ.inj h))
theorem aR3:∀{ab:List (Nat×List Nat)} {qs:List Addr} {t lab:Nat} {g g':List Nat},ab[t]? =some (lab,g)->ak0 (ab.set t (lab,g')) qs=ak0 ab qs
 |[],_,_,_,_,_,h=>by simp at h
 |_::_,[],0,_,_,_,h=>rfl
 |_::_,[],t+1,_,_,_,h=>rfl
 |a::ab,p::qs,0,_,_,_,h=>by cases h;rfl
 |a::ab,p::qs,t+1,_,_,_,h=>congrArg ((Sum.inl (a.1:Int),V.ref p)::·) (aR3 (ab:=ab) (qs:=qs) (t:=t) h)
theorem an8:∀{ab:List (Nat×List Nat)} {qs:List Addr} (lab:Nat),ab.length=qs.length->(∃(t:Nat) (g:List Nat) (q:Addr),ab[t]? =some (lab,g)/\qs[t]? =some q/\J9 (ak0 ab qs) (Sum.inl (lab:Int))=some (V.ref q))\/((∀e∈ab,e.1≠lab)/\J9 (ak0 ab qs) (Sum.inl (lab:Int))=Option.none)
 |[],[],_,_=> .inr ⟨λe h=>(by cases h),rfl⟩
 |[],_::_,_,h=>by cases h
 |_::_,[],_,h=>by cases h
 |(a,g)::ab,q::qs,lab,h=>by
  by_cases e:a=lab
  ·subst e
   exact .inl ⟨0,g,q,rfl,rfl,K0 rfl⟩
  ·have ne:¬(Sum.inl (a:Int):M0)=Sum.inl (lab:Int):=λz=>e (by have:=Sum.inl.inj z;lia)
   have ev:J9 (ak0 ((a,g)::ab) (q::qs)) (Sum.inl (lab:Int))=J9 (ak0 ab qs) (Sum.inl (lab:Int)):=K1 ne
   rcases an8 (ab:=ab) (qs:=qs) lab (Nat.succ.inj h)with⟨t,g',q',h1,h2,h3⟩|⟨h1,h2⟩
   ·exact .inl ⟨t+1,g',q',h1,h2,ev.trans h3⟩
   ·refine .inr ⟨λz hz=> ?_,ev.trans h2⟩
    rcases a7D.mp hz with rfl|hz
    ·exact e
    ·exact h1 z hz
theorem a2Y{ab:List (Nat×List Nat)}{qs:List Addr}(h:ab.length=qs.length):(ak0 ab qs).length=ab.length:=by
 unfold ak0
 rw[List.length_zipWith,h,a9S]
theorem GD.old{H0:Hp}{d q:Addr}{ab:List (Nat×List Nat)}{qs:List Addr}{G G1 G2:Hp}{t lab n:Nat}{g:List Nat}(h:GD H0 d ab qs G)(nk:(ab.map (·.1)).Nodup)(s1:f9 G G1)(ht:ab[t]? =some (lab,g))(hq:qs[t]? =some q)
 (k:Kp q G1 G2) (e:G2 q=some (.lst (C4 g++[V.int (n:Int)]))):GD H0 d (ah6 ab lab n) qs G2:=by
 have eq:G q=some (.lst (C4 g)):=by
  obtain⟨e',he',r⟩:=Paired.at2 h.lst hq
  rw[ht]at he'
  cases he'
  exact r
 rw[ax0 nk ht]
 refine⟨?_,h.nd,h.new,?_⟩
 ·rw[aR3 ht]
  exact k _ _ (B7 (s1 _ _ h.dict) (s1 _ _ eq) (by intro z;cases z)) (s1 _ _ h.dict)
 ·have e2:qs=qs.set t q:=(aw4 hq).symm
  have key:∀{l:List (Nat×List Nat)} {m:List Addr} (t:Nat),Paired (λ(e:Nat×List Nat) q=>G q=some (.lst (C4 e.2))) l m->m.Nodup->m[t]? =some q->Paired (λ(e:Nat×List Nat) q=>G2 q=some (.lst (C4 e.2))) (l.set t (lab,g++[n])) m:=by
   intro l m t p
   induction p generalizing t with
   |nil=>intro _ z;simp at z
   | @cons a b l1 l2 r p ih=>
     intro nd hm
     obtain⟨n1,n2⟩:=a8J.mp nd
     cases t with
     |zero=>
      cases hm
      refine .cons (by rw[e];unfold C4;rw[a8m];rfl) ?_
      have nq:∀b∈l2,b≠q:=λb hb z=>n1 (z▸hb)
      clear ih nd n1 n2
      induction p with
      |nil=>exact .nil
      | @cons a' b' l1' l2' r' p' ih'=>exact .cons (k _ _ (nq b' a7C) (s1 _ _ r')) (ih' λb hb=>nq b (a7B _ hb))
     |succ t=>
      refine .cons (k _ _ (λz=>n1 ?_) (s1 _ _ r)) (ih t n2 hm)
      rw[z]
      exact a7F (l:=l2) (i:=t) hm
  exact key t h.lst h.nd hq
theorem GD.add{H0:Hp}{d z:Addr}{ab:List (Nat×List Nat)}{qs:List Addr}{G G1 G2 G3:Hp}{lab n:Nat}(h:GD H0 d ab qs G)(hlen:ab.length=qs.length)(nz0:H0 z=Option.none)(s1:f9 G G1)(nz:G z=Option.none)(hz:G1 z=some (.lst []))(no:∀e∈ab,e.1≠lab)
 (k2:∀b o,b≠d->G1 b=some o->G2 b=some o) (d2:G2 d=some (.dK (ak0 ab qs++[(Sum.inl (lab:Int),V.ref z)]))) (k3:Kp z G2 G3) (e3:G3 z=some (.lst (([]:List V)++[V.int (n:Int)]))):GD H0 d (ah6 ab lab n) (qs++[z]) G3:=by
 have dz:d≠z:=by rintro rfl;exact absurd h.dict (by rw[nz];intro q;cases q)
 have notin:∀q∈qs,q≠z:=λq hq e=>by
  subst e
  obtain⟨t,ht⟩:=a8Z hq
  obtain⟨e',_,r⟩:=Paired.at2 h.lst ht
  rw[nz]at r
  cases r
 rw[aw9 no]
 refine⟨?_,?_,λq hq=> ?_,?_⟩
 ·rw[aG2 hlen]
  exact k3 _ _ dz d2
 ·rw[nodup_append]
  refine⟨h.nd,a8J.mpr ⟨by simp,a9q⟩,λa ha b hb=> ?_⟩
  rw[a7N.mp hb]
  exact notin a ha
 ·rcases a77.mp hq with q'|q'
  ·exact h.new q q'
  ·rw[a7N.mp q']
   exact nz0
 ·refine Paired.snoc ?_ (by rw[e3];rfl)
  have dd:=s1 _ _ h.dict
  have ps:=h.lst
  clear hlen no d2
  have key:∀{l:List (Nat×List Nat)} {m:List Addr},Paired (λ(e:Nat×List Nat) q=>G q=some (.lst (C4 e.2))) l m->(∀q∈m,q≠z)->Paired (λ(e:Nat×List Nat) q=>G3 q=some (.lst (C4 e.2))) l m:=by
   intro l m p
   induction p with
   |nil=>intro _;exact .nil
   | @cons a b l1 l2 r p ih=>
     intro hm
     refine .cons (k3 _ _ (hm b a7C) (k2 _ _ (B7 (s1 _ _ r) dd (by intro z;cases z)) (s1 _ _ r))) (ih λq hq=>hm q (a7B _ hq))
  exact key ps notin
theorem ac4:∀{xs:List V} {us:List Value},xs.length=us.length->(∀(i:Nat) (x:V) (u:Value),xs[i]? =some x->us[i]? =some u->B4 x u)->y8 xs us
 |[],[],_,_=> .nil
 |[],_::_,h,_=>by cases h
 |_::_,[],h,_=>by cases h
 |x::xs,u::us,h,k=> .cons (k 0 x u rfl rfl) (ac4 (Nat.succ.inj h) λi x u a b=>k (i+1) x u a b)
theorem ar4:∀{us:List Value} {ns:List Int},us.length=ns.length->(∀(i:Nat) (u:Value) (n:Int),us[i]? =some u->ns[i]? =some n->∃t,u=Value.int n t)->IntsAre us ns
 |[],[],_,_=> .nil
 |[],_::_,h,_=>by cases h
 |_::_,[],h,_=>by cases h
 |u::us,n::ns,h,k=>by
  obtain⟨t,e⟩:=k 0 u n rfl rfl
  subst e
  exact .cons _ _ (ar4 (Nat.succ.inj h) λi u n a b=>k (i+1) u n a b)
theorem Paired.at2L{α β:Type}{F:α->β->Prop}:∀{l:List α} {m:List β} {i:Nat} {y:β},Paired F l m->m[i]? =some y->∃x,l[i]? =some x/\F x y
 |_,_,_,_,.nil,e=>by simp at e
 |_,_,0,y,.cons r t,e=>by
  have e:_=y:=a7v e
  subst e
  exact⟨_,rfl,r⟩
 |_,_,i+1,y,.cons r t,e=>Paired.at2L (i:=i) t e
section
variable{X:Cx}
def a5G:List V->Hp->VK->Prop:=λxs H Q=>∃j:Int,xs=[.int j]/\∀r G,f9 H G->H r=Option.none->G r=some (.rng 0 j)->Q (.ref r) G
theorem ar5:N4 X (.type "range") a5G:=by
 intro a7q s U H xs us Q I r h
 obtain⟨j,rfl,q⟩:=h
 obtain⟨u,rfl,t,rfl⟩:=aO4 r
 have hf:=I.hok.fresh (a7A s.heap.objs.size)
 exact call_range_1 ⟨.ref s.heap.objs.size,_,I.laid (o:= .rng 0 j) (λ_ _ e=>a7w _ e) (a7A _) ⟨_,_,_,a7P _ rfl⟩,rfl,q _ _ (f9.new hf) hf i8⟩
def a5H:List V->Hp->VK->Prop:=λxs H Q=>∃(p:Addr) (j:Nat),xs=[.ref p]/\H p=some (.rng 0 (j:Int))/\j<=1000/\∀l G,f9 H G->H l=Option.none->G l=some (.lst ((a7J j).map λi:Nat=>V.int (i:Int)))->Q (.ref l) G
theorem ax1(hc:X.calm=true):N4 X (.type "list") a5H:=by
 intro a7q s U H xs us Q I r h
 obtain⟨p,j,rfl,hp,hj,q⟩:=h
 rw[y8.ref1 r]
 obtain⟨t,u,v,hob⟩:∃t u v,s.heap.get? p=some {cls:= .type "range",data:= .fields #[.int 0 t,.int (j:Int) u,.int 1 v]}:=I.hok p _ hp
 have hf:=I.hok.fresh (a7A s.heap.objs.size)
 refine call_list_range (a:=0) (b:=(j:Int)) (c:=1) (n:=j) (I.ok.hd hc) hob (small_one (by lia) (by lia) (by lia) (by lia)) (by rw[rangeSize_one];split<;>lia) (by lia) λh' tk acc' c' hk hS hacc=> ?_
 have hlen:acc'.toList.length=j:=by rw[a9n];exact hacc.1
 have hv:y8 ((a7J j).map λi:Nat=>V.int (i:Int)) acc'.toList:=by
  refine ac4 (by rw[a7r,a70,hlen]) λi x y hx hy=> ?_
  rw[a7t]at hx
  have hi:i<j:=by
   have:=(a7x.mp hy).1
   lia
  rw[a9E hi]at hx
  obtain⟨tk',e⟩:=hacc.2 i y (by rw[←a9J];exact hy)
  cases hx
  exact⟨tk',by rw[e];congr 1;lia⟩
 refine⟨.ref s.heap.objs.size,_,I.laid (o:= .lst ((a7J j).map λi:Nat=>V.int (i:Int))) hk (a7A _) ⟨by rw[a7r,a70];exact a7G hj (by decide),acc'.toList,c',hv,by simpa using hS⟩,rfl,q _ _ (f9.new hf) hf i8⟩
def a2Z:List V->Hp->VK->Prop:=λxs H Q=>∃(d:Addr) (kvs:List (M0×V)) (ns:List Int),xs=[.ref d]/\H d=some (.dK kvs)/\kvs.map (·.1)=ns.map Sum.inl/\ns.length<64/\
 ∀(ns':List Int) (l:Addr) (G:Hp),ns'.Perm ns->ns'.Pairwise (·<=·)->f9 H G->H l=Option.none->G l=some (.lst (ns'.map V.int))->Q (.ref l) G
theorem aY4(hc:X.calm=true):N4 X (.builtin "sorted") a2Z:=by
 intro a7q s U H xs us Q I r h
 obtain⟨d,kvs,ns,rfl,hd,hk,h64,q⟩:=h
 rw[y8.ref1 r]
 obtain⟨hz,hS,vs,rv,hm⟩:kvs.length<=sizeLine/\(d==sysModules)=false/\∃vs,KV kvs vs/\s.heap.DictOf (C8 X.prog X.w) d vs:=I.hok d _ hd
 have hlen:kvs.length=vs.length:=Paired.length rv
 have hln:ns.length=vs.length:=by rw[←hlen,←a7r (f:=(·.1)) (as:=kvs),hk,a7r]
 obtain⟨ep,hat⟩:=hm.dictAt
 refine Calls.call_function_entry kind_sorted plain_sorted entry_sorted (args_sorted1 _) ?_
 unfold Builtin.«sorted»
 refine wpAny_bind (m:=checkCount "sorted" 1 1 _) (wpAny_pure ?_)
 refine wpAny_bind (PySem.W.kdu_collect (PySem.W.kdl_dict (knd:=C8 X.prog X.w) (kvs:=vs) (ep:=ep) hS) (I.ok.hd hc) hat (by rw[←hlen];exact hz) λh' tk acc hkp hacc=> ?_)
 have hl:acc.toList.length=vs.length:=by rw[a9n];exact hacc.1
 refine wpAny_bind (wpAny_newList ?_)
 have hoL:(h'.push (seqObj "list" acc.toList.toArray 0)).get? h'.objs.size=some (seqObj "list" acc.toList.toArray 0):=a7P _ rfl
 have hI:IntsAre acc.toList ns:=by
  refine ar4 (by rw[hl,hln]) λi v n hv hn=> ?_
  obtain⟨k,x,hx,hkey⟩:=hacc.2 i v (by rw[←a9J];exact hv)
  obtain⟨p,hp,e1,_⟩:=Paired.at2L rv hx
  have:(kvs.map (·.1))[i]? =some k:=by rw[a7t,hp];exact congrArg some e1
  rw[hk,a7t,hn]at this
  have e:Sum.inl n=k:=a7v this
  subst e
  rcases E4 (k:=Sum.inl n) (v:=v) hkey with⟨i',t,e1,rfl⟩|⟨x',t,e1,_⟩
  ·cases e1
   exact⟨t,rfl⟩
  ·cases e1
 refine wpAny_bind (wpAny_holding (wpAny_call_entry slot_list_sort ⟨_,hoL,rfl⟩ entry_list_sort (list_sort_tree hoL hI (by rw[hl,←hln];exact h64) λout ns' a1 a2 a3=>⟨_,rfl,?_⟩) (args_list_sort _)))
 have I1:v9 X a7q U H {s with heap:=h',toks:=tk}:=I.kept hkp
 obtain⟨ep',he'⟩:=sortedHeap_at (vs:=acc.toList) (out:=out) hoL
 have hf:=I1.hok.fresh (a7A h'.objs.size)
 have hl2:(ns'.map V.int).length<=sizeLine:=by rw[a7r,a2.length_eq];exact a0D h64
 refine wpAny_pure ⟨_,rfl,.ref h'.objs.size,_,I1.laid (o:= .lst (ns'.map V.int)) (t':=tk) (λb u e=> ?_) (a7A h'.objs.size) ⟨hl2,out.toList,ep',Y2 a1,he'⟩,rfl,q ns' _ _ a2 a3 (f9.new hf) hf i8⟩
 have e:h'.get? b=some u:=e
 have hb:b<h'.objs.size:=a7I e
 have hlt:(h'.push (seqObj "list" acc.toList.toArray 0)).get? b=some u:=a7w _ e
 rw[sortedHeap_old (a7L hb) (a7I hlt)]
 exact hlt
def a4g:V->List V->Hp->VK->Prop:=λx xs H Q=>∃(d:Addr) (kvs:List (M0×V)) (k:M0) (z:V),x= .ref d/\xs=[kV k,z]/\H d=some (.dK kvs)/\kvs.length<sizeLine/\
 (∀v,J9 kvs k=some v->Q v H)/\(J9 kvs k=Option.none->∀G,(∀b o,b≠d->H b=some o->G b=some o)->G d=some (.dK (K4 kvs k z))->Q z G)
theorem aC8:MtR X "dict.setdefault" a4g:=by
 intro a7q s U H x xs v us Q I rx rxs h
 obtain⟨d,kvs,k,z,rfl,rfl,hd,hz,q1,q2⟩:=h
 obtain rfl:v=Value.ref d:=rx
 obtain⟨uk,uz,rfl,rk,rz⟩:=a2s rxs
 obtain⟨hz',hS,vs,rel,dd⟩:kvs.length<=sizeLine/\(d==sysModules)=false/\∃vs,KV kvs vs/\s.heap.DictOf (C8 X.prog X.w) d vs:=I.hok d _ hd
 have hl:vs.length<=sizeLine:=by rw[←Paired.length rel];exact hz'
 refine call_meetsIn PySem.F.slot_dict_setdefault dd.typeIs PySem.F.entry_dict_setdefault (PySem.F.args_dict_setdefault_3 _ _ _) (PySem.kt_meets_setdefault (C8 X.prog X.w) d (a0G rk) hS uz) ⟨vs,dd,hl,λv' hv'=> ?_,λhn h' dd' hs=> ?_⟩
 ·have rv:=rel.val k
  rw[hv']at rv
  cases e:J9 kvs k with
  |none=>rw[e]at rv;exact False.elim rv
  |some y=>
   rw[e]at rv
   exact⟨y,H,I.tok _,rv,q1 y e⟩
 ·have rv:=rel.val k
  rw[hn]at rv
  cases e:J9 kvs k with
  |some y=>rw[e]at rv;exact False.elim rv
  |none=>
   have he:∃q,h'.get? d=some q:=let⟨q,_,_,hq,_⟩:=dd';⟨q,hq⟩
   have hl2:(K4 kvs k z).length<=sizeLine:=by have:=U2 kvs k z;lia
   exact⟨z,_,aJ1 (t':=s.toks+1) I (by rw[hd];exact True.intro) hs he (a2D hl2 hS (rel.put k rz) dd'),rz,q2 e _ (λb o nb eb=>by rw[j6 nb];exact eb) i8⟩
def a0X(r d:Addr):HO:= .ext λh=>h.IsValuesView r d
def a6C(td:TE):TE:=λU H Q=>td U H λx H1=>∃d kvs,x= .ref d/\H1 d=some (.dK kvs)/\∀r G,f9 H1 G->H1 r=Option.none->G r=some (a0X r d)->Q (.ref r) G
theorem a1Q{e:Expr}{apos cpos:Pos}{td:TE}(he:PE X e td)(hbase:attributeBase e "values" X.env (eval e X.env)=eval e X.env:=by rfl)(hline:(apos.endLine==cpos.line)=true:=by rfl):PE X (.Call (.Attribute e "values" apos) [] [] cpos) (a6C td):=by
 intro a7q s U H Q I h
 refine wpAny_Call_method (T:="dict") (id:="dict.values") hbase rfl hline F.plainAttrs_dict F.slot_dict_values F.type_dict_values (F8 (he a7q s U H _ I h) λu s1 ⟨x,H1,I1,rx,d,kvs,ex,hd,q⟩=> ?_)
 subst ex
 obtain rfl:u=Value.ref d:=rx
 obtain⟨hz',hS,vs,rel,dd⟩:kvs.length<=sizeLine/\(d==sysModules)=false/\∃vs,KV kvs vs/\s1.heap.DictOf (C8 X.prog X.w) d vs:=I1.hok d _ hd
 refine⟨dd.typeIs,dd.mapOf.noDict,?_⟩
 have hf:=I1.hok.fresh (a7A s1.heap.objs.size)
 have O3:EP X a7q U Q (.ref s1.heap.objs.size) {s1 with heap:=s1.heap.push {cls:= .type "dict_values",data:= .fields #[.ref d]}}:=by
  refine⟨.ref s1.heap.objs.size,_,I1.laid (o:=a0X s1.heap.objs.size d) (t':=s1.toks) (λ_ _ e=>a7w _ e) (a7A _) ?_,rfl,q _ _ (f9.new hf) hf i8⟩
  exact⟨⟨_,a7P _ rfl,rfl,rfl⟩,⟨_,a7P _ rfl⟩,λh1 h2 ⟨o,ho,hr⟩ k=>⟨o,k o ho,hr⟩⟩
 show wpAny _ _ (callWith cpos (.builtin "dict.values") [.ref d] [] []) _ X.xe s1
 exact method_meetsIn F.slot_dict_values F.entry_dict_values rfl (PySem.evalArgs_none ⟨rfl,dd.typeIs,F.args_dict_values_1 _,_,meets_dict_values (C8 X.prog X.w) d hS,⟨vs,dd⟩,O3⟩)
def a5I:List V->Hp->VK->Prop:=λxs H Q=>∃(r d:Addr) (kvs:List (M0×V)),xs=[.ref r]/\H r=some (a0X r d)/\H d=some (.dK kvs)/\∀l G,f9 H G->H l=Option.none->G l=some (.lst (kvs.map (·.2)))->Q (.ref l) G
theorem aY5(hc:X.calm=true):N4 X (.type "list") a5I:=by
 intro a7q s U H xs us Q I rr h
 obtain⟨r,d,kvs,rfl,hr,hd,q⟩:=h
 rw[y8.ref1 rr]
 obtain⟨hz',hS,vs,rel,dd⟩:kvs.length<=sizeLine/\(d==sysModules)=false/\∃vs,KV kvs vs/\s.heap.DictOf (C8 X.prog X.w) d vs:=I.hok d _ hd
 have hv:s.heap.IsValuesView r d:=(show E7 X.prog X.w H s.heap r (a0X r d)from I.hok r _ hr).1
 have hln:kvs.length=vs.length:=Paired.length rel
 obtain⟨ep,hat⟩:=dd.dictAt
 have hf:=I.hok.fresh (a7A s.heap.objs.size)
 refine PySem.W.kdl_call (PySem.W.kdl_values (knd:=C8 X.prog X.w) (kvs:=vs) (ep:=ep)) (I.ok.hd hc) ⟨hv,hat⟩ (by rw[←hln];exact hz') λh' tk acc' c' hk hL hacc=> ?_
 have hl:acc'.toList.length=vs.length:=by rw[a9n];exact hacc.1
 have hvl:y8 (kvs.map (·.2)) acc'.toList:=by
  refine ac4 (by rw[a7r,hl,hln]) λi x u hx hu=> ?_
  obtain⟨k,hk'⟩:=hacc.2 i u (by rw[←a9J];exact hu)
  obtain⟨p,hp,e1,e2⟩:=Paired.at2L rel hk'
  rw[a7t,hp]at hx
  have e:p.2=x:=a7v hx
  subst e
  exact e2
 exact⟨.ref s.heap.objs.size,_,I.laid (o:= .lst (kvs.map (·.2))) hk (a7A _) ⟨by rw[a7r];exact hz',acc'.toList,c',hvl,by simpa using hL⟩,rfl,q _ _ (f9.new hf) hf i8⟩
end
end Mp
namespace Mp
open PySem PySem.Spec PyProof.Rows L2
open PySem.W (Codec)
theorem B5{X:Cx}{x:Str}{i:Int}{pos:Pos}(hm:∃t,X.mg x=some (.int i t))(hg:Gl X x)(hd:(x==("__debug__":Str))=false:=by decide):PE X (.Name x pos) (tC (.int i)):=by
 obtain⟨t,e⟩:=hm
 exact Y0 hg e ⟨t,rfl⟩ hd
def O4(bs:List a7s)(es:List (Nat×Nat)):List Nat:=(a7J bs.length).filter λj=>P4 es j&& !a79 bs j
def ak1(bs:List a7s)(es:List (Nat×Nat)):List (List Nat):=(M4 (L5 bs es) (O4 bs es)).map (·.2)
theorem aR4:∀(ab:List (Nat×List Nat)) (lab n:Nat),(ah6 ab lab n).length<=ab.length+1
 |[],_,_=>a7A _
 |(a,g)::r,lab,n=>by
  unfold ah6
  split
  ·exact Nat.le_succ _
  ·have:=aR4 r lab n
   rw[a7O,a7O]
   lia
theorem aY6(L:List Nat)(dn:List Nat):(M4 L dn).length<=dn.length:=by
 have key:∀(dn:List Nat) (ab:List (Nat×List Nat)),(dn.foldl (λab n=>ah6 ab (L.getD n 0) n) ab).length<=ab.length+dn.length:=λdn=>by
  induction dn with
  |nil=>intro ab;exact a7A _
  |cons n r ih=>
   intro ab
   have h1:=ih (ah6 ab (L.getD n 0) n)
   have h2:=aR4 ab (L.getD n 0) n
   rw[a8P,a7O]
   lia
 have:=key dn []
 rw[List.length_nil,Nat.zero_add]at this
 exact this
theorem aR5(l:List a7s)(es:List (Nat×Nat))(p:Nat×Nat)(L:List Nat):C7 l (es++[p]) L=if a79 l p.1=false/\a79 l p.2=false then J6 (C7 l es L) p.1 p.2 else C7 l es L:=by
 unfold C7
 rw[foldl_append]
 rfl
theorem ac5{L:List Nat}{i:Nat}(h:i<L.length):(C4 L)[i]? =some (V.int ((L.getD i 0:Nat):Int)):=by
 unfold C4
 rw[a7t,a7y,a7u h]
 rfl
theorem ag2{l:List a7s}{es:List (Nat×Nat)}{n:Nat}{L:List Nat}(hL:L.length=n)(he:∀p∈es,p.1<n/\p.2<n):(C7 l es L).length=n:=(U7 (l:=l) es L hL he).1
theorem a1R(ps:List (Nat×Nat))(p:Nat×Nat):F9 (ps++[p])=F9 ps++[p.1]++[p.2]:=by
 unfold F9
 rw[a8q]
 simp
theorem ax3{es:List (Nat×Nat)}{n:Nat}(h:∀p∈es,p.1<n/\p.2<n):∀x∈F9 es,x<n:=λx hx=>by
 obtain⟨p,hp,hq⟩:=a8B.mp hx
 have:=h p hp
 rcases a7D.mp hq with rfl|hq
 ·exact this.1
 ·rw[a7N.mp hq]
  exact this.2
abbrev U8:Stmt:=O7 30
section
variable{P:Program}{w:World}{K:Frag}{mg:Str->Option Value}{base:Heap}{C:Addr}
def ax4(K:Frag)(C:Addr):Sp:=λvs H Q _=>∃(l pl:Addr) (as:List Addr) (bs:List a7s) (es:List (Nat×Nat)),vs=[.ref l,.ref pl]/\m8 K C H l as bs/\A2 K H pl es/\bs.length<=20/\(∀p∈es,p.1<bs.length/\p.2<bs.length)/\
 ∀gl qs G,f9 H G->H gl=none->(∀q∈qs,H q=none)->G gl=some (.lst (qs.map V.ref))->Paired (λ(g:List Nat) q=>G q=some (.lst (C4 g))) (ak1 bs es) qs->Q (.ref gl) G
theorem ak2:n8 ["bodies","pairs","labels","paired","i","j","kept","gone","groups","number","label"] ["bodies","pairs"] (g9 U8):=⟨rfl,rfl,rfl,by decide+kernel,rfl,by decide+kernel,by decide+kernel⟩
theorem aK6{f:Addr}{fd:FuncData}(F:M3 K "groups_of" "groups_of" U8 f fd)(T:Txt K mg)(cB:ab9 K C)(b_range:mg "range"=none)(b_list:mg "list"=none)(b_sorted:mg "sorted"=none)(c_FIXED:∃t,mg "FIXED"=some (.int 0 t)):
 A7 P w K mg base M2 1 f fd ["bodies","pairs"] (ax4 K C):=by
 refine F.ok ak2 (λvs H Q E h=> ?_) (λcdv A outer s H vs Q E hr h=> ?_)
 ·obtain⟨l,pl,as,bs,es,rfl,_⟩:=h
  rfl
 ·obtain⟨l,pl,as,bs,es,rfl,hB,hP,h20,hes,k⟩:=h
  have nd:=ak2.nd
  obtain⟨cl,-,-,-,c4,-,-,-⟩:=cB
  refine⟨_,(e9 (j9 (i:=2) nd rfl (Or.inl rfl) (L6 (ax1 rfl) (by rfl) b_list PyProof.Rows.boot_list (e8 (L6 ar5 (by rfl) b_range boot_range (e8 (v6 A4 (by rfl) T.b_len PySem.boot_len (e8 (pv 0) f7)) f7)) f7)))
   (e9 (j9 (i:=3) nd rfl (Or.inl rfl) aj6)
   (e9 (E9 PassesOwn.never rfl (A3 (pv 1)) (by refine J5 (i:=4) (j:=5) K ?_ ?_ ?_ ?_ ?_ ?_ ?_<;>first|rfl|assumption)
    (e9 (aj4 (aq1 hr) (pv 3) (pv 4) aa1 rfl)
    (e9 (aj4 (aq1 hr) (pv 3) (pv 5) aa1 rfl)
    (f8 (B8 (S3 (o8 aO2 (j7 (i9 l6 (pv 0) (pv 4) (λ_ _=>rfl)) rfl) (B5 c_FIXED (by rfl)) (t9 _)) (P9 (o8 aO2 (j7 (i9 l6 (pv 0) (pv 5) (λ_ _=>rfl)) rfl) (B5 c_FIXED (by rfl)) (t9 _)))).pt
     (e9 (j9 (i:=6) nd rfl (Or.inr rfl) (i9 l6 (pv 2) (pv 4) (λ_ _=>rfl)))
     (e9 (j9 (i:=7) nd rfl (Or.inr rfl) (i9 l6 (pv 2) (pv 5) (λ_ _=>rfl)))
     (f8 (L3 (i:=2) rfl nd rfl rfl rfl (own:=[("label",10)]) (A3 (pv 2)) (by show E5 ["bodies","pairs","labels","paired","i","j","kept","gone","groups","number","label"] (g9 U8) _ _;exact⟨rfl,by decide+kernel,by decide+kernel,by decide+kernel,by decide+kernel⟩)
     (λ_ _ _ _ _=>by exact z9 (i:=10) nd (by rfl) (by exact Or.inl rfl) (by exact Or.inr rfl))
     (λ_ _ _ _ _=>by exact D8)
     (λ_ _ _ _ _=>by exact(au8 (o8 K5 (pv 10) (pv 7) (t9 _)) (pv 6) (pv 10)))))))
     v8)))))
   (e9 (j9 (i:=8) nd rfl (Or.inl rfl) aj6)
   (e9 (E9 PassesOwn.never rfl (A3 (v6 (aY4 rfl) (by rfl) b_sorted boot_sorted (e8 (pv 3) f7))) (z9 (i:=9) nd rfl (Or.inl rfl))
    (f8 (B8 (o8 aO2 (j7 (i9 l6 (pv 0) (pv 9) (λ_ _=>rfl)) rfl) (B5 c_FIXED (by rfl)) (t9 _))
     (f8 (C2 (M1 a7Q a8c a8d D2 (M1 PySem.F.plainAttrs_dict PySem.F.slot_dict_setdefault PySem.F.type_dict_setdefault aC8 (pv 8) (e8 (i9 l6 (pv 2) (pv 9) (λ_ _=>rfl)) (e8 (y6 f7) f7))) (e8 (pv 9) f7))))
     v8)))
   (f8 (l8 (L6 (aY5 rfl) (by rfl) b_list PyProof.Rows.boot_list (e8 (a1Q (pv 8)) f7))))))))),?_⟩
  have hn:=hB.len
  refine⟨_,rfl,l,_,rfl,.inl (n9.of hB.lst),_,rfl,λr G1 s1 n1 t1=> ?_⟩
  refine⟨r,bs.length,rfl,by rw[t1,a7r,hn],by lia,λll G2 s2 n2 t2=> ?_⟩
  intro pd G3 s3 n3 t3
  have s03:=s1.trans (s2.trans s3)
  have npd:H pd=none:=(s1.trans s2).free n3
  obtain⟨ys,p1,p2⟩:=hP.ex
  have body:∀{G:Hp},f9 H G->∀{i:Nat},i<bs.length->∃a,(as.map V.ref)[i]? =some (.ref a)/\A9 K C G a (bodyAt bs i):=λ{G} sG {i} hi=>by
   have e:bs[i]? =some (bodyAt bs i):=by unfold bodyAt;rw[a7y,a7u hi];rfl
   obtain⟨a,ha,r⟩:=Paired.at2 (hB.same sG).bd e
   exact⟨a,by rw[a7t,ha];rfl,r⟩
  have kindT:∀i,(!decide (V.int ((bodyAt bs i).kind:Int)=V.int 0))=true↔a79 bs i=false:=λi=>by
   unfold a79
   simp
  refine⟨_,rfl,pl,rfl,⟨_,n9.of (s03 _ _ p1)⟩,L1 (K:=K) (a:=pl) (xs:=ys) (λi U G=>∃ll kvs,(∃u4 u5 u6 u7 u10:Option V,U=[some (.ref l),some (.ref pl),some (.ref ll),some (.ref pd),u4,u5,u6,u7,none,none,u10])/\f9 H G/\G ll=some (.lst (C4 (C7 bs (es.take i) (a7J bs.length))))/\G pd=some (.dK kvs)/\L7 kvs (F9 (es.take i)))
   ⟨ll,[],⟨none,none,none,none,none,rfl⟩,s03,s3 _ _ t2,t3,ar2⟩ (λi U G _ ⟨_,_,_,h,_⟩=>n9.of (h _ _ p1)) ?_ ?_⟩
  ·rintro i x U G hx ⟨ll,kvs,⟨u4,u5,u6,u7,u10,rfl⟩,sG,hll,hpd,hk⟩
   obtain⟨p,hp,q,rfl,tq⟩:=Paired.at2 p2 hx
   have bnd:=hes p (a7F hp)
   have hkb:∀x∈F9 (es.take i),x<bs.length:=ax3 λp' hp'=>hes p' (a97 hp')
   refine⟨q,_,rfl,f9.tup sG tq,rfl,_,_,rfl,_,_,rfl,rfl,?_⟩
   refine⟨_,rfl,_,rfl,pd,_,rfl,aC4.k (k:=Sum.inl (p.1:Int)) hpd (a8l (hk.len hkb) (a8l h20 (by decide))),?_⟩
   have hk1:=hk.put p.1 (.bl true)
   have hkb1:∀x∈F9 (es.take i)++[p.1],x<bs.length:=λx hx=>by
    rcases a77.mp hx with q|q
    ·exact hkb x q
    ·rw[a7N.mp q];exact bnd.1
   refine⟨_,rfl,_,rfl,pd,_,rfl,aC4.k (k:=Sum.inl (p.2:Int)) i8 (a8l (hk1.len hkb1) (a8l h20 (by decide))),?_⟩
   have hk2:=hk1.put p.2 (.bl true)
   rw[←a1R,←K2 hp]at hk2
   have nlp:ll≠pd:=B7 hll hpd (by intro z;cases z)
   have sG5:f9 H (A6 (A6 G pd (.dK (K4 kvs (Sum.inl (p.1:Int)) (.bl true)))) pd (.dK (K4 (K4 kvs (Sum.inl (p.1:Int)) (.bl true)) (Sum.inl (p.2:Int)) (.bl true)))):=f9.app npd (f9.app npd sG)
   have hll5:(A6 (A6 G pd (.dK (K4 kvs (Sum.inl (p.1:Int)) (.bl true)))) pd (.dK (K4 (K4 kvs (Sum.inl (p.1:Int)) (.bl true)) (Sum.inl (p.2:Int)) (.bl true)))) ll=some (.lst (C4 (C7 bs (es.take i) (a7J bs.length)))):=by rw[j6 nlp,j6 nlp];exact hll
   have hpd5:(A6 (A6 G pd (.dK (K4 kvs (Sum.inl (p.1:Int)) (.bl true)))) pd (.dK (K4 (K4 kvs (Sum.inl (p.1:Int)) (.bl true)) (Sum.inl (p.2:Int)) (.bl true)))) pd=some (.dK (K4 (K4 kvs (Sum.inl (p.1:Int)) (.bl true)) (Sum.inl (p.2:Int)) (.bl true))):=i8
   generalize A6 (A6 G pd (.dK (K4 kvs (Sum.inl (p.1:Int)) (.bl true)))) pd (.dK (K4 (K4 kvs (Sum.inl (p.1:Int)) (.bl true)) (Sum.inl (p.2:Int)) (.bl true)))=G5 at*
   generalize K4 (K4 kvs (Sum.inl (p.1:Int)) (.bl true)) (Sum.inl (p.2:Int)) (.bl true)=kvs5 at*
   have hB5:=hB.same sG5
   have eL:C7 bs (es.take (i+1)) (a7J bs.length)=if a79 bs p.1=false/\a79 bs p.2=false then J6 (C7 bs (es.take i) (a7J bs.length)) p.1 p.2 else C7 bs (es.take i) (a7J bs.length):=by rw[K2 hp,aR5]
   have lenL:(C7 bs (es.take i) (a7J bs.length)).length=bs.length:=ag2 a70 λp' hp'=>hes p' (a97 hp')
   generalize C7 bs (es.take i) (a7J bs.length)=L at*
   obtain⟨x1,e1,b1⟩:=body sG5 bnd.1
   obtain⟨x2,e2,b2⟩:=body sG5 bnd.2
   obtain⟨d1,ha1,pa1,va1,i1,_⟩:=b1.ex
   obtain⟨d2,ha2,pa2,va2,j1,_⟩:=b2.ex
   refine⟨_,rfl,_,rfl,l,_,_,_,rfl,rfl,n9.of hB5.lst,z7 e1,_,_,_,_,_,rfl,i1,cl,c4,rfl,rfl,_,rfl,?_⟩
   refine z8 (λhh=> ?_) (λhh=> ?_)
   ·have f1:=(kindT p.1).mp hh
    refine⟨_,rfl,_,rfl,l,_,_,_,rfl,rfl,n9.of hB5.lst,z7 e2,_,_,_,_,_,rfl,j1,cl,c4,rfl,rfl,_,rfl,?_⟩
    refine z8 (λhh=> ?_) (λhh=> ?_)
    ·have f2:=(kindT p.2).mp hh
     rw[if_pos ⟨f1,f2⟩]at eL
     refine⟨_,rfl,_,rfl,ll,_,_,_,rfl,rfl,n9.of hll5,z7 (ac5 (by rw[lenL];exact bnd.1)),?_⟩
     refine⟨_,rfl,_,rfl,ll,_,_,_,rfl,rfl,n9.of hll5,z7 (ac5 (by rw[lenL];exact bnd.2)),?_⟩
     refine⟨_,rfl,ll,rfl,⟨_,n9.of hll5⟩,λD nD=> ?_⟩
     refine lcL nD (n9.of hll5) (ys:=(C4 (J6 L p.1 p.2)).map some) (by unfold C4;rw[a7r,a7r,a7r,U6]) (by unfold C4;rw[a7r,a7r,U6,lenL];exact a7G h20 (by decide)) (λt x o H' hx ho sH=> ?_) (λG6 s6 hD=> ?_)
     ·intro Rt Rv _ hR
      have ht:t<L.length:=by
       have:=(a7x.mp hx).1
       unfold C4 at this
       rw[a7r]at this
       exact this
      rw[ac5 ht]at hx
      cases hx
      rw[a7t,ac5 (by rw[U6];exact ht),ar1 ht]at ho
      refine⟨rfl,B3 (B:=Rt H') ?_⟩
      refine⟨_,rfl,_,rfl,rfl,_,rfl,?_⟩
      refine z8 (λhc=> ?_) (λhc=> ?_)
      ·have hc:L.getD t 0=L.getD p.2 0:=by
        have:=of_decide_eq_true hc
        have:=V.int.inj this
        lia
       rw[if_pos hc]at ho
       exact⟨_,rfl,hR _ (a7v ho).symm H' (f9.refl _)⟩
      ·have hc:¬L.getD t 0=L.getD p.2 0:=λq=>hc (by rw[q];exact decide_eq_true rfl)
       rw[if_neg hc]at ho
       exact⟨_,rfl,hR _ (a7v ho).symm H' (f9.refl _)⟩
     ·rw[show((C4 (J6 L p.1 p.2)).map some).filterMap id=C4 (J6 L p.1 p.2) by simp[a71]]at hD
      rw[←eL]at hD
      exact⟨D,kvs5,⟨_,_,_,_,_,rfl⟩,sG5.trans s6,hD,s6 _ _ hpd5,hk2⟩
    ·have f2:¬a79 bs p.2=false:=λq=>hh ((kindT p.2).mpr q)
     rw[if_neg (λq=>f2 q.2)]at eL
     exact⟨ll,kvs5,⟨_,_,_,_,_,rfl⟩,sG5,by rw[eL];exact hll5,hpd5,hk2⟩
   ·have f1:¬a79 bs p.1=false:=λq=>hh ((kindT p.1).mpr q)
    rw[if_neg (λq=>f1 q.1)]at eL
    exact⟨ll,kvs5,⟨_,_,_,_,_,rfl⟩,sG5,by rw[eL];exact hll5,hpd5,hk2⟩
  ·rintro U G ⟨ll,kvs,⟨u4,u5,u6,u7,u10,rfl⟩,sG,hll,hpd,hk⟩
   rw[←Paired.length p2,a8o]at hll hk
   intro gd G4 s4 n4 t4
   have hpd4:=s4 _ _ hpd
   have hll4:=s4 _ _ hll
   have ngd:H gd=none:=sG.free n4
   have hkb:∀x∈F9 es,x<bs.length:=ax3 hes
   have hlen:=hk.len hkb
   obtain⟨ns,k1,k2,k3⟩:=hk
   have lns:ns.length=kvs.length:=by rw[←a7r (f:=(·.1)) (as:=kvs),k1,a7r]
   refine⟨_,rfl,pd,kvs,ns.map (λx:Nat=>(x:Int)),rfl,hpd4,by rw[k1,a8s];rfl,by rw[a7r,lns];lia,λzs sl G5 hperm hsort s5 n5 t5=> ?_⟩
   have ez:=aR1 (n:=bs.length) k2 k3 hkb hperm hsort
   subst ez
   have t5:G5 sl=some (.lst (C4 ((a7J bs.length).filter λx=>(F9 es).contains x))):=by rw[t5,a8s];rfl
   have hL:L5 bs es=C7 bs es (a7J bs.length):=rfl
   rw[←hL]at hll4
   have lenL:(L5 bs es).length=bs.length:=ag2 a70 hes
   have hll5:=s5 _ _ hll4
   have hgd5:=s5 _ _ t4
   have nsg:sl≠gd:=B7 t5 hgd5 (by intro z;cases z)
   have nlg:ll≠gd:=B7 hll5 hgd5 (by intro z;cases z)
   refine⟨sl,rfl,⟨_,n9.of t5⟩,L1 (K:=K) (a:=sl) (xs:=C4 ((a7J bs.length).filter λx=>(F9 es).contains x))
    (λi U G=>(∃u9:Option V,U=[some (.ref l),some (.ref pl),some (.ref ll),some (.ref pd),u4,u5,u6,u7,some (.ref gd),u9,u10])/\Kp gd G5 G/\
     ∃qs,GD G5 gd (M4 (L5 bs es) ((((a7J bs.length).filter λx=>(F9 es).contains x).take i).filter λx=> !a79 bs x)) qs G) ?_ (λi U G _ ⟨_,h,_⟩=>n9.of (h _ _ nsg t5)) ?_ ?_⟩
   ·exact⟨⟨none,rfl⟩,λ_ _ _ e=>e,[],s5 _ _ t4,a9q,(λ_ h=>by cases h),.nil⟩
   ·rintro i x U G hx ⟨⟨u9,rfl⟩,kG,qs,hD⟩
    obtain⟨m,hm,rfl⟩:∃m,((a7J bs.length).filter λx=>(F9 es).contains x)[i]? =some m/\x=V.int (m:Int):=by
     unfold C4 at hx
     rw[a7t]at hx
     cases q:((a7J bs.length).filter λx=>(F9 es).contains x)[i]? with
     |none=>rw[q]at hx;cases hx
     |some m=>rw[q]at hx;exact⟨m,rfl,(a7v hx).symm⟩
    have hmb:m<bs.length:=by
     have:=a7F hm
     rw[a7X,a8G]at this
     exact this.1
    have sHG:f9 H G:=kG.same (sG.trans (s4.trans s5)) ngd
    have hBG:=hB.same sHG
    obtain⟨x1,e1,b1⟩:=body sHG hmb
    obtain⟨d1,ha1,pa1,va1,i1,_⟩:=b1.ex
    have hllG:=kG _ _ nlg hll5
    rw[K2 hm,a9e]
    generalize hdn:(((a7J bs.length).filter λx=>(F9 es).contains x).take i).filter (λx=> !a79 bs x)=dn at*
    refine⟨_,rfl,_,rfl,l,_,_,_,rfl,rfl,n9.of hBG.lst,z7 e1,_,_,_,_,_,rfl,i1,cl,c4,rfl,rfl,_,rfl,?_⟩
    refine z8 (λhh=> ?_) (λhh=> ?_)
    ·have f1:=(kindT m).mp hh
     have e3:dn++[m].filter (λx=> !a79 bs x)=dn++[m]:=by rw[a8b,f1];rfl
     rw[e3,ar3]
     have hga:=a5F (L5 bs es) dn
     have hlenq:(M4 (L5 bs es) dn).length=qs.length:=Paired.length hD.lst
     have hdl:dn.length<=20:=by
      rw[←hdn]
      refine a7G (a75 _ _) ?_
      rw[a8L]
      refine a7G (Nat.min_le_right _ _) (a7G (a75 _ _) ?_)
      rw[a70]
      exact h20
     have hsl:sizeLine=16777216:=sizeLine_eq
     have hsz:(ak0 (M4 (L5 bs es) dn) qs).length<sizeLine:=by
      rw[a2Y hlenq]
      have:=aY6 (L5 bs es) dn
      lia
     refine⟨_,rfl,.inr (.inr (.inl ⟨rfl,.inl ⟨_,hD.dict⟩⟩)),?_⟩
     refine⟨_,rfl,_,rfl,ll,_,_,_,rfl,rfl,n9.of hllG,z7 (ac5 (by rw[lenL];exact hmb)),?_⟩
     refine⟨a8n _,λz G6 s6 n6 t6=> ?_⟩
     refine⟨gd,_,Sum.inl (((L5 bs es).getD m 0:Nat):Int),.ref z,rfl,rfl,s6 _ _ hD.dict,hsz,λv hv=> ?_,λhv G7 k7 d7=> ?_⟩
     ·rcases an8 (ab:=M4 (L5 bs es) dn) (qs:=qs) ((L5 bs es).getD m 0) hlenq with⟨t,g,q,a1,a2,a3⟩|⟨a1,a2⟩
      ·rw[a3]at hv
       cases hv
       have eq:G q=some (.lst (C4 g)):=by
        obtain⟨e',he',r⟩:=Paired.at2 hD.lst a2
        rw[a1]at he'
        cases he'
        exact r
       refine⟨.inl ⟨rfl,_,n9.of (s6 _ _ eq)⟩,_,rfl,q,_,_,rfl,rfl,s6 _ _ eq,?_,λG8 k8 t8=> ?_⟩
       ·unfold C4
        have eg:g=dn.filter (λn=>decide ((L5 bs es).getD n 0=(L5 bs es).getD m 0)):=(hga.is _ (a7F a1)).1
        have:=a75 (λn=>decide ((L5 bs es).getD n 0=(L5 bs es).getD m 0)) dn
        rw[←eg]at this
        rw[a7r]
        lia
       have hq0:=hD.new q (a7F a2)
       exact⟨⟨_,rfl⟩,λb o nb eb=>k8 b o (j0 eb hq0) (s6 _ _ (kG b o nb eb)),qs,hD.old hga.nd s6 a1 a2 k8 t8⟩
      ·rw[a2]at hv
       cases hv
     ·rcases an8 (ab:=M4 (L5 bs es) dn) (qs:=qs) ((L5 bs es).getD m 0) hlenq with⟨t,g,q,a1,a2,a3⟩|⟨a1,a2⟩
      ·rw[a3]at hv
       cases hv
      ·have zg:z≠gd:=by rintro rfl;exact absurd hD.dict (by rw[n6];intro q;cases q)
       have t7:=k7 _ _ zg t6
       refine⟨.inl ⟨rfl,_,n9.of t7⟩,_,rfl,z,_,_,rfl,rfl,t7,by show 0<sizeLine;decide,λG8 k8 t8=> ?_⟩
       have z5:G5 z=none:=by
        cases q:G5 z with
        |none=>rfl
        |some o=>have:=kG z o zg q;rw[n6]at this;cases this
       refine⟨⟨_,rfl⟩,λb o nb eb=>k8 b o (j0 eb z5) (k7 b o nb (s6 _ _ (kG b o nb eb))),qs++[z],hD.add hlenq z5 s6 n6 t6 a1 k7 ?_ k8 t8⟩
       rw[d7,aP4 _ hv]
    ·have f1:a79 bs m=true:=by
      cases e:a79 bs m with
      |true=>rfl
      |false=>exact absurd ((kindT m).mpr e) hh
     have e3:dn++[m].filter (λx=> !a79 bs x)=dn:=by rw[a8b,f1];simp
     rw[e3]
     exact⟨⟨_,rfl⟩,kG,qs,hD⟩
   ·rintro U G ⟨⟨u9,rfl⟩,kG,qs,hD⟩
    have sHG:f9 H G:=kG.same (sG.trans (s4.trans s5)) ngd
    have hlenq:=Paired.length hD.lst
    refine⟨_,rfl,gd,_,rfl,hD.dict,λr G6 s6 n6 t6=> ?_⟩
    refine⟨r,gd,_,rfl,t6,s6 _ _ hD.dict,λgl G7 s7 n7 t7=> ?_⟩
    rw[aR2 hlenq]at t7
    refine k gl qs G7 (sHG.trans (s6.trans s7)) ((sHG.trans s6).free n7) (λq hq=>(sG.trans (s4.trans s5)).free (hD.new q hq)) t7 ?_
    have e4:((((a7J bs.length).filter λx=>(F9 es).contains x).take (C4 ((a7J bs.length).filter λx=>(F9 es).contains x)).length).filter λx=> !a79 bs x)=O4 bs es:=by
     unfold C4 O4 P4
     rw[a7r,a8o,filter_filter]
     refine a9z λx _=> ?_
     rw[Bool.and_comm]
    have pl:=hD.lst
    rw[e4]at pl
    unfold ak1
    have key:∀{l:List (Nat×List Nat)} {m:List Addr},Paired (λ(e:Nat×List Nat) q=>G q=some (.lst (C4 e.2))) l m->Paired (λ(g:List Nat) q=>G7 q=some (.lst (C4 g))) (l.map (·.2)) m:=by
     intro l m p
     induction p with
     |nil=>exact .nil
     |cons r p ih=>exact .cons (s7 _ _ (s6 _ _ r)) ih
    exact key pl
end
def K6(bs:List a7s)(p:Nat×Nat):List Nat:=(if a79 bs p.1=true then [p.2]else [])++(if a79 bs p.2=true then [p.1]else [])
def I0(bs:List a7s)(es:List (Nat×Nat)):List Nat:=es.flatMap (K6 bs)
theorem aR6(bs:List a7s)(es:List (Nat×Nat))(p:Nat×Nat):I0 bs (es++[p])=I0 bs es++K6 bs p:=by
 unfold I0
 rw[a8q]
 simp
theorem aK7{bs:List a7s}{es:List (Nat×Nat)}{n:Nat}(h:∀p∈es,p.1<n/\p.2<n):∀x∈I0 bs es,x<n:=λx hx=>by
 obtain⟨p,hp,hq⟩:=a8B.mp hx
 have b:=h p hp
 unfold K6 at hq
 rcases a77.mp hq with q|q
 ·split at q
  ·rw[a7N.mp q];exact b.2
  ·cases q
 ·split at q
  ·rw[a7N.mp q];exact b.1
  ·cases q
abbrev ah7:Stmt:=O7 31
section
variable{P:Program}{w:World}{K:Frag}{mg:Str->Option Value}{base:Heap}{C:Addr}
def aY7(K:Frag)(C:Addr):Sp:=λvs H Q _=>∃(l pl:Addr) (as:List Addr) (bs:List a7s) (es:List (Nat×Nat)),vs=[.ref l,.ref pl]/\m8 K C H l as bs/\A2 K H pl es/\bs.length<=20/\(∀p∈es,p.1<bs.length/\p.2<bs.length)/\
 ∀d kvs G,f9 H G->H d=none->G d=some (.dK kvs)->L7 kvs (I0 bs es)->Q (.ref d) G
theorem ar6:n8 ["bodies","pairs","held","i","j"] ["bodies","pairs"] (g9 ah7):=⟨rfl,rfl,rfl,by decide+kernel,rfl,by decide+kernel,by decide+kernel⟩
theorem aR7{f:Addr}{fd:FuncData}(F:M3 K "at_fixed" "at_fixed" ah7 f fd)(cB:ab9 K C)(c_FIXED:∃t,mg "FIXED"=some (.int 0 t)):A7 P w K mg base M2 1 f fd ["bodies","pairs"] (aY7 K C):=by
 refine F.ok ar6 (λvs H Q E h=> ?_) (λcdv A outer s H vs Q E hr h=> ?_)
 ·obtain⟨l,pl,as,bs,es,rfl,_⟩:=h
  rfl
 ·obtain⟨l,pl,as,bs,es,rfl,hB,hP,h20,hes,k⟩:=h
  have nd:=ar6.nd
  obtain⟨cl,-,-,-,c4,-,-,-⟩:=cB
  refine⟨_,(e9 (j9 (i:=2) nd rfl (Or.inl rfl) aj6)
   (e9 (E9 PassesOwn.never rfl (A3 (pv 1)) (by refine J5 (i:=3) (j:=4) K ?_ ?_ ?_ ?_ ?_ ?_ ?_<;>first|rfl|assumption)
    (e9 (B8 (o8 K5 (j7 (i9 l6 (pv 0) (pv 3) (λ_ _=>rfl)) rfl) (B5 c_FIXED (by rfl)) (t9 _))
     (f8 (aj4 (aq1 hr) (pv 2) (pv 4) aa1 rfl))
     v8)
    (f8 (B8 (o8 K5 (j7 (i9 l6 (pv 0) (pv 4) (λ_ _=>rfl)) rfl) (B5 c_FIXED (by rfl)) (t9 _))
     (f8 (aj4 (aq1 hr) (pv 2) (pv 3) aa1 rfl))
     v8))))
   (f8 (l8 (pv 2))))),?_⟩
  intro pd G3 s3 n3 t3
  obtain⟨ys,p1,p2⟩:=hP.ex
  have body:∀{G:Hp},f9 H G->∀{i:Nat},i<bs.length->∃a,(as.map V.ref)[i]? =some (.ref a)/\A9 K C G a (bodyAt bs i):=λ{G} sG {i} hi=>by
   have e:bs[i]? =some (bodyAt bs i):=by unfold bodyAt;rw[a7y,a7u hi];rfl
   obtain⟨a,ha,r⟩:=Paired.at2 (hB.same sG).bd e
   exact⟨a,by rw[a7t,ha];rfl,r⟩
  have kindT:∀i,decide (V.int ((bodyAt bs i).kind:Int)=V.int 0)=true↔a79 bs i=true:=λi=>by
   unfold a79
   simp
  refine⟨_,rfl,pl,rfl,⟨_,n9.of (s3 _ _ p1)⟩,L1 (K:=K) (a:=pl) (xs:=ys) (λi U G=>∃kvs,(∃u4 u5:Option V,U=[some (.ref l),some (.ref pl),some (.ref pd),u4,u5])/\f9 H G/\G pd=some (.dK kvs)/\L7 kvs (I0 bs (es.take i)))
   ⟨[],⟨none,none,rfl⟩,s3,t3,ar2⟩ (λi U G _ ⟨_,_,h,_⟩=>n9.of (h _ _ p1)) ?_ ?_⟩
  ·rintro i x U G hx ⟨kvs,⟨u4,u5,rfl⟩,sG,hpd,hk⟩
   obtain⟨p,hp,q,rfl,tq⟩:=Paired.at2 p2 hx
   have bnd:=hes p (a7F hp)
   have hkb:∀x∈I0 bs (es.take i),x<bs.length:=aK7 λp' hp'=>hes p' (a97 hp')
   have sz:∀{kvs:List (M0×V)} {done:List Nat},L7 kvs done->(∀x∈done,x<bs.length)->kvs.length<sizeLine:=λh hb=>a8l (h.len hb) (a8l h20 (by decide))
   rw[K2 hp,aR6]
   have hBG:=hB.same sG
   obtain⟨x1,e1,b1⟩:=body sG bnd.1
   obtain⟨d1,ha1,pa1,va1,i1,_⟩:=b1.ex
   refine⟨q,_,rfl,f9.tup sG tq,rfl,_,_,rfl,_,_,rfl,rfl,?_⟩
   have second:∀(G':Hp) (kvs':List (M0×V)) (a:List Nat),f9 H G'->G' pd=some (.dK kvs')->L7 kvs' (I0 bs (es.take i)++a)->(∀x∈I0 bs (es.take i)++a,x<bs.length)->
    ∃x2:Addr,(as.map V.ref)[p.2]? =some (.ref x2)/\(∃d2 fs,G' x2=some (.ins C d2 fs)/\fs.lookup ("kind":Str)=some (V.int ((bodyAt bs p.2).kind:Int)))/\G' l=some (.lst (as.map V.ref))/\kvs'.length<sizeLine:=λG' kvs' a sG' hpd' hk' hb'=>by
    obtain⟨x2,e2,b2⟩:=body sG' bnd.2
    obtain⟨d2,ha2,pa2,va2,j1,_⟩:=b2.ex
    exact⟨x2,e2,⟨d2,_,j1,rfl⟩,(hB.same sG').lst,sz hk' hb'⟩
   refine⟨_,rfl,_,rfl,l,_,_,_,rfl,rfl,n9.of hBG.lst,z7 e1,_,_,_,_,_,rfl,i1,cl,c4,rfl,rfl,_,rfl,?_⟩
   refine z8 (λhh=> ?_) (λhh=> ?_)
   ·have f1:=(kindT p.1).mp hh
    refine⟨_,rfl,_,rfl,pd,_,rfl,aC4.k (k:=Sum.inl (p.2:Int)) hpd (sz hk hkb),?_⟩
    have hk1:=hk.put p.2 (.bl true)
    have hkb1:∀x∈I0 bs (es.take i)++[p.2],x<bs.length:=λx hx=>by
     rcases a77.mp hx with q|q
     ·exact hkb x q
     ·rw[a7N.mp q];exact bnd.2
    obtain⟨x2,e2,⟨d2,fs,j1,j2⟩,hl,hz⟩:=second _ _ [p.2] (f9.app n3 sG) i8 hk1 hkb1
    refine⟨_,rfl,_,rfl,l,_,_,_,rfl,rfl,n9.of hl,z7 e2,_,_,_,_,_,rfl,j1,cl,c4,j2,rfl,_,rfl,?_⟩
    refine z8 (λhh=> ?_) (λhh=> ?_)
    ·have f2:=(kindT p.2).mp hh
     refine⟨_,rfl,_,rfl,pd,_,rfl,aC4.k (k:=Sum.inl (p.1:Int)) i8 hz,?_⟩
     refine⟨_,⟨_,_,rfl⟩,f9.app n3 (f9.app n3 sG),i8,?_⟩
     have:=hk1.put p.1 (.bl true)
     rw[a82]at this
     have e:K6 bs p=[p.2]++[p.1]:=by unfold K6;rw[if_pos f1,if_pos f2]
     rw[e]
     exact this
    ·have f2:¬a79 bs p.2=true:=λq=>hh ((kindT p.2).mpr q)
     refine⟨_,⟨_,_,rfl⟩,f9.app n3 sG,i8,?_⟩
     have e:K6 bs p=[p.2]:=by unfold K6;rw[if_pos f1,if_neg f2];rfl
     rw[e]
     exact hk1
   ·have f1:¬a79 bs p.1=true:=λq=>hh ((kindT p.1).mpr q)
    obtain⟨x2,e2,⟨d2,fs,j1,j2⟩,hl,hz⟩:=second _ _ [] sG hpd (by rw[a72];exact hk) (by rw[a72];exact hkb)
    refine⟨_,rfl,_,rfl,l,_,_,_,rfl,rfl,n9.of hl,z7 e2,_,_,_,_,_,rfl,j1,cl,c4,j2,rfl,_,rfl,?_⟩
    refine z8 (λhh=> ?_) (λhh=> ?_)
    ·have f2:=(kindT p.2).mp hh
     refine⟨_,rfl,_,rfl,pd,_,rfl,aC4.k (k:=Sum.inl (p.1:Int)) hpd hz,?_⟩
     refine⟨_,⟨_,_,rfl⟩,f9.app n3 sG,i8,?_⟩
     have e:K6 bs p=[p.1]:=by unfold K6;rw[if_neg f1,if_pos f2];rfl
     rw[e]
     exact hk.put p.1 (.bl true)
    ·have f2:¬a79 bs p.2=true:=λq=>hh ((kindT p.2).mpr q)
     have e:K6 bs p=[]:=by unfold K6;rw[if_neg f1,if_neg f2];rfl
     rw[e,a72]
     exact⟨kvs,⟨_,_,rfl⟩,sG,hpd,hk⟩
  ·rintro U G ⟨kvs,⟨u4,u5,rfl⟩,sG,hpd,hk⟩
   rw[←Paired.length p2,a8o]at hk
   exact⟨_,rfl,k pd kvs G sG n3 hpd hk⟩
end
section
variable{K:Frag}{a b:Addr}{xs ys:List V}{g:TG}{tt:TT}{te:TE}{vs:List Nat}{U:L2.St}{H1:Hp}{β:Type}{os:List (Option β)}{D:Addr}{Qd:Hp->Prop}
theorem lcZ(nD:H1 D=Option.none)(hx:n9 K H1 a xs)(hy:n9 K H1 b ys)(hxy:ys.length=xs.length)(hlen:os.length=xs.length)(hz:os.length<=sizeLine)(R:β->V->Hp->Prop)
 (mono:∀b y H G ys,H D=some (.lst ys)->R b y H->Kp D H G->R b y G)
 (st:∀(i:Nat) (x y:V) (o:Option β) (H:Hp) (zs:List V) (T:Addr),xs[i]? =some x->ys[i]? =some y->os[i]? =some o->f9 H1 H->H D=some (.lst zs)->H T=some (.tup [x,y])->a0S g tt te vs U R (.ref T) o H)
 (O3:∀(H:Hp) (acc:List V),f9 H1 H->H D=some (.lst acc)->Paired (λb y=>R b y H) (os.filterMap id) acc->Qd H):
 ∃W:Nat->Nat->Hp->Prop,(∃m,W 0 m (A6 H1 D (.lst [])))/\∀i m H,W i m H->
  ((Itz K a b).stop i H/\Qd H)\/((Itz K a b).go i H/\∃Nx:Hp->Prop,(∀H',Nx H'->∃m',m'<m/\W (i+1) m' H')/\∀x H',(Itz K a b).yld i H x H'->g x (D1 U vs) H' λσ2 H2=>D1 σ2 vs=D1 U vs/\tt σ2 H2 λb H3=>
    if b=true then te σ2 H3 λy H4=>∃acc,H4 D=some (.lst acc)/\acc.length<sizeLine/\Nx (A6 H4 D (.lst (acc++[y])))else Nx H3):=by
 let Pv:Nat->Hp->Prop:=λi H=>f9 H1 H/\∃acc,H D=some (.lst acc)/\Paired (λb y=>R b y H) ((os.take i).filterMap id) acc
 refine⟨λi m H=>m=xs.length-i/\i<=xs.length/\Pv i H,⟨xs.length,by simp,a8n _,f9.new nD,[],i8,.nil⟩,?_⟩
 rintro i m H ⟨rfl,hi,s1,acc,hD,hP⟩
 have qx:=s1.seq hx
 have qy:=s1.seq hy
 by_cases hlt:i<xs.length
 ·have hlt2:i<ys.length:=by lia
  refine .inr ⟨⟨xs,ys,xs[i],ys[i],qx,qy,by simp[hlt],by simp[hlt2]⟩,Pv (i+1),λH' p'=>⟨xs.length-(i+1),by lia,rfl,hlt,p'⟩,λv H' yl=> ?_⟩
  obtain⟨T,x,y,rfl,nT,rfl,ex,ey⟩:=yl
  have hxx:=ex xs qx
  have hyy:=ey ys qy
  have hio:i<os.length:=by lia
  have ho:=a7u hio
  have s2:f9 H (A6 H T (.tup [x,y])):=f9.new nT
  have hD2:=s2 _ _ hD
  refine st i x y _ _ acc T hxx hyy ho (s1.trans s2) hD2 i8 _ _ (λe G s3=> ?_) (λb' e y' G s3 hy'=> ?_)
  ·refine⟨s1.trans (s2.trans s3),acc,s3 _ _ hD2,?_⟩
   rw[aj7 ho,e]
   show Paired _ (_++[]) _
   rw[a72]
   exact Paired.monoP (λb' y' r=>mono b' y' H G acc hD r λ_ _ _ e'=>s3 _ _ (s2 _ _ e')) hP
  ·have hz':acc.length<sizeLine:=by
    rw[←Paired.length hP]
    exact a7Y (a2T hio) hz
   have hP2:Paired (λb y=>R b y G) ((os.take i).filterMap id) acc:=Paired.monoP (λb' y' r=>mono b' y' H G acc hD r λ_ _ _ e'=>s3 _ _ (s2 _ _ e')) hP
   refine⟨acc,s3 _ _ hD2,hz',f9.app nD (s1.trans (s2.trans s3)),acc++[y'],i8,?_⟩
   rw[aj7 ho,e]
   exact Paired.snoc (Paired.monoP (λb' y' r=>mono b' y' G _ acc (s3 _ _ hD2) r λ_ _ n e'=>by rw[j6 n];exact e') hP2) (mono b' y' G _ acc (s3 _ _ hD2) hy' λ_ _ n e'=>by rw[j6 n];exact e')
 ·have e:i=xs.length:=by lia
  subst e
  refine .inl ⟨⟨xs,ys,qx,qy,.inl (a7A _)⟩,O3 H acc s1 hD ?_⟩
  rw[←hlen,a8o]at hP
  exact hP
end
def gsp(bm:List a7s)(v:List Int)(held:Bool):List Int:=
 if held=true then(if bm.length=1/\(bodyAt bm 0).hard=true then [-(v.getD 0 0)]else v.map λ_=>0)
 else
  let dr:=((bm.zip v).filter λp=>p.1.kind==2).map (·.2)
  if dr.length=1 then v.map λ_=>dr.getD 0 0
  else if bm.length=2/\(bodyAt bm 0).hard=true/\(bodyAt bm 1).hard=true then [v.getD 1 0,v.getD 0 0]else v.map λ_=>0
abbrev E6:Stmt:=O7 32
section
variable{P:Program}{w:World}{K:Frag}{mg:Str->Option Value}{base:Heap}{C:Addr}
def a5J(K:Frag)(C:Addr):Sp:=λvs H Q _=>∃(l sl:Addr) (as:List Addr) (bm:List a7s) (v:List Int) (held:Bool),vs=[.ref l,.ref sl,.bl held]/\H l=some (.lst (as.map V.ref))/\Paired (λa b=>A9 K C H a b) as bm/\H sl=some (.lst (v.map V.int))/\bm.length=v.length/\(0<bm.length/\bm.length<=20)/\
 ∀p G,f9 H G->H p=none->G p=some (.lst ((gsp bm v held).map V.int))->Q (.ref p) G
theorem aa5:n8 ["members","speeds","held","driven","member","speed"] ["members","speeds","held"] (g9 E6):=⟨rfl,rfl,rfl,by decide+kernel,rfl,by decide+kernel,by decide+kernel⟩
theorem at4{f:Addr}{fd:FuncData}(F:M3 K "group_speeds" "group_speeds" E6 f fd)(T:Txt K mg)(cB:ab9 K C)(b_zip:mg "zip"=none)(c_DRIVER:∃t,mg "DRIVER"=some (.int 2 t)):A7 P w K mg base M2 1 f fd ["members","speeds","held"] (a5J K C):=by
 refine F.ok aa5 (λvs H Q E h=> ?_) (λcdv A outer s H vs Q E hr h=> ?_)
 ·obtain⟨l,sl,as,bm,v,held,rfl,_⟩:=h
  rfl
 ·obtain⟨l,sl,as,bm,v,held,rfl,hl,hB,hs,hlen,⟨h0,h20⟩,k⟩:=h
  have nd:=aa5.nd
  obtain⟨cl,-,-,-,c4,c5,-,-⟩:=cB
  refine⟨_,(e9 (B8 (Q5 (pv 2) (λ_=>rfl))
   (e9 (B8 (S3 (o8 K5 (v6 A4 (by rfl) T.b_len PySem.boot_len (e8 (pv 0) f7)) f6 (t9 _)) (P9 (o8 K5 (j7 (i9 l6 (pv 0) f6 (λ_ _=>rfl)) rfl) f6 (t9 _)))).pt
    (f8 (l8 (y6 (e8 (T9 N5 (i9 l6 (pv 1) f6 (λ_ _=>rfl))) f7))))
    v8)
   (f8 (l8 (R0 (own:=[("speed",5)]) rfl nd (A3 (pv 1)) (by show E5 ["members","speeds","held","driven","member","speed"] (g9 E6) _ _;exact⟨rfl,by decide+kernel,by decide+kernel,by decide+kernel,by decide+kernel⟩)
    (λ_ _ _ _ _=>by exact z9 (i:=5) nd (by rfl) (by exact Or.inl rfl) (by exact Or.inr rfl))
    (λ_ _ _ _ _=>by exact D8)
    (λ_ _ _ _ _=>by exact f6)))))
   v8)
   (e9 (j9 (i:=3) nd rfl (Or.inr rfl) (R0 (own:=[("member",4),("speed",5)]) rfl nd (aW9 (by rfl) b_zip (e8 (pv 0) (e8 (pv 1) f7))) (by show E5 ["members","speeds","held","driven","member","speed"] (g9 E6) _ _;exact⟨rfl,by decide+kernel,by decide+kernel,by decide+kernel,by decide+kernel⟩)
    (λ_ _ _ _ _=>by refine J5 (i:=4) (j:=5) K ?_ ?_ ?_ ?_ ?_ ?_ ?_<;>first|rfl|assumption)
    (λ_ _ _ _ _=>by exact(Y3 (o8 K5 (Y6 K rfl (pv 4) rfl) (B5 c_DRIVER (by rfl)) (t9 _))))
    (λ_ _ _ _ _=>by exact(pv 5))))
   (e9 (B8 (o8 K5 (v6 A4 (by rfl) T.b_len PySem.boot_len (e8 (pv 3) f7)) f6 (t9 _))
    (f8 (l8 (R0 (own:=[("speed",5)]) rfl nd (A3 (pv 1)) (by show E5 ["members","speeds","held","driven","member","speed"] (g9 E6) _ _;exact⟨rfl,by decide+kernel,by decide+kernel,by decide+kernel,by decide+kernel⟩)
     (λ_ _ _ _ _=>by exact z9 (i:=5) nd (by rfl) (by exact Or.inl rfl) (by exact Or.inr rfl))
     (λ_ _ _ _ _=>by exact D8)
     (λ_ _ _ _ _=>by exact(Q2 K rfl (pv 3) f6 (λ_ _=>rfl))))))
    v8)
   (e9 (B8 (S3 (o8 K5 (v6 A4 (by rfl) T.b_len PySem.boot_len (e8 (pv 0) f7)) f6 (t9 _)) (S3 (o8 K5 (j7 (i9 l6 (pv 0) f6 (λ_ _=>rfl)) rfl) f6 (t9 _)) (P9 (o8 K5 (j7 (i9 l6 (pv 0) f6 (λ_ _=>rfl)) rfl) f6 (t9 _))))).pt
    (f8 (l8 (y6 (e8 (i9 l6 (pv 1) f6 (λ_ _=>rfl)) (e8 (i9 l6 (pv 1) f6 (λ_ _=>rfl)) f7)))))
    v8)
   (f8 (l8 (R0 (own:=[("speed",5)]) rfl nd (A3 (pv 1)) (by show E5 ["members","speeds","held","driven","member","speed"] (g9 E6) _ _;exact⟨rfl,by decide+kernel,by decide+kernel,by decide+kernel,by decide+kernel⟩)
    (λ_ _ _ _ _=>by exact z9 (i:=5) nd (by rfl) (by exact Or.inl rfl) (by exact Or.inr rfl))
    (λ_ _ _ _ _=>by exact D8)
    (λ_ _ _ _ _=>by exact f6)))))))),?_⟩
  have hla:as.length=bm.length:=Paired.length hB
  have lenT:∀n:Int,decide (V.int (((as.map V.ref).length:Nat):Int)=V.int n)=true↔(bm.length:Int)=n:=λn=>by
   rw[decide_eq_true_eq,a7r,hla]
   exact⟨λq=>V.int.inj q,λq=>congrArg V.int q⟩
  have hardT:∀i,decide (V.int (a9i (bodyAt bm i).hard)=V.int 1)=true↔(bodyAt bm i).hard=true:=λi=>by
   unfold a9i
   cases(bodyAt bm i).hard<;>simp
  have body:∀{G:Hp},f9 H G->∀{i:Nat},i<bm.length->∃a,(as.map V.ref)[i]? =some (.ref a)/\A9 K C G a (bodyAt bm i):=λ{G} sG {i} hi=>by
   have e:bm[i]? =some (bodyAt bm i):=by unfold bodyAt;rw[a7y,a7u hi];rfl
   obtain⟨a,ha,r⟩:=Paired.at2 hB e
   exact⟨a,by rw[a7t,ha];rfl,r.same sG⟩
  have sp:∀{i:Nat},i<v.length->(v.map V.int)[i]? =some (V.int (v.getD i 0)):=λ{i} hi=>by
   rw[a7t,a7y,a7u hi]
   rfl
  obtain⟨x0,e0,b0⟩:=body (f9.refl H) h0
  obtain⟨d0,ha0,pa0,va0,i0,_⟩:=b0.ex
  refine⟨_,rfl,held,rfl,?_⟩
  refine z8 (λhh=> ?_) (λhh=> ?_)
  ·refine⟨_,rfl,l,_,rfl,.inl (n9.of hl),rfl,_,rfl,?_⟩
   refine z8 (λh1=> ?_) (λh1=> ?_)
   ·have h1:=(lenT 1).mp h1
    refine⟨_,rfl,l,_,_,_,rfl,rfl,n9.of hl,z7 (j:=0) e0,_,_,_,_,_,rfl,i0,cl,c5,rfl,rfl,_,rfl,?_⟩
    refine z8 (λh2=> ?_) (λh2=> ?_)
    ·have h2:=(hardT 0).mp h2
     refine⟨_,rfl,sl,_,_,_,rfl,rfl,n9.of hs,z7 (j:=0) (sp (by lia)),_,rfl,by show 1<=sizeLine;decide,λp G sG np t=>k p G sG np ?_⟩
     rw[t]
     unfold gsp
     rw[if_pos hh,if_pos ⟨by lia,h2⟩]
     rfl
    ·have h2:¬(bodyAt bm 0).hard=true:=λq=>h2 ((hardT 0).mpr q)
     refine⟨_,rfl,sl,rfl,⟨_,n9.of hs⟩,λD nD=> ?_⟩
     refine lcL nD (n9.of hs) (ys:=(v.map λ_=>V.int (0)).map some) (by rw[a7r,a7r,a7r]) (by rw[a7r,a7r,←hlen];exact a7G h20 (by decide)) (λt x o H' hx ho sH=> ?_) (λG6 s6 hD=> ?_)
     ·intro Rt Rv _ hR
      have eo:o=some (V.int (0)):=by
       rw[a7t,a7t]at ho
       cases q:v[t]? with
       |none=>rw[q]at ho;cases ho
       |some z=>rw[q]at ho;exact(a7v ho).symm
      refine⟨rfl,B3 (B:=Rt H') ?_⟩
      exact hR _ eo H' (f9.refl _)
     ·rw[show((v.map λ_=>V.int (0)).map some).filterMap id=v.map λ_=>V.int (0) by simp[a71]]at hD
      refine k D G6 s6 nD ?_
      rw[hD]
      congr 2
      unfold gsp
      rw[if_pos hh,if_neg (λq=>h2 q.2),a8s]
      rfl
   ·have h1:¬(bm.length:Int)=1:=λq=>h1 ((lenT 1).mpr q)
    refine⟨_,rfl,sl,rfl,⟨_,n9.of hs⟩,λD nD=> ?_⟩
    refine lcL nD (n9.of hs) (ys:=(v.map λ_=>V.int (0)).map some) (by rw[a7r,a7r,a7r]) (by rw[a7r,a7r,←hlen];exact a7G h20 (by decide)) (λt x o H' hx ho sH=> ?_) (λG6 s6 hD=> ?_)
    ·intro Rt Rv _ hR
     have eo:o=some (V.int (0)):=by
      rw[a7t,a7t]at ho
      cases q:v[t]? with
      |none=>rw[q]at ho;cases ho
      |some z=>rw[q]at ho;exact(a7v ho).symm
     refine⟨rfl,B3 (B:=Rt H') ?_⟩
     exact hR _ eo H' (f9.refl _)
    ·rw[show((v.map λ_=>V.int (0)).map some).filterMap id=v.map λ_=>V.int (0) by simp[a71]]at hD
     refine k D G6 s6 nD ?_
     rw[hD]
     congr 2
     unfold gsp
     rw[if_pos hh,if_neg (λq=>h1 (by lia)),a8s]
     rfl
  ·
   refine⟨_,rfl,_,rfl,l,sl,_,_,rfl,n9.of hl,n9.of hs,λdl ndl=> ?_⟩
   have hzl:(bm.zip v).length=bm.length:=by rw[a9y,hlen,a9S]
   refine lcZ ndl (n9.of hl) (n9.of hs) (by rw[a7r,a7r,hla,hlen]) (os:=(bm.zip v).map λp=>if(p.1.kind==2)=true then some p.2 else none) (by rw[a7r,a7r,hzl,hla]) (by rw[a7r,hzl];exact a7G h20 (by decide)) (λn y _=>y=V.int n)
    (λ_ _ _ _ _ _ r _=>r) (λi x y o H' zs T' hx hy ho sH hD hT=> ?_) (λG1 acc s1 hdl hdr=> ?_)
   ·intro Rt Rv hRt hR
    have hi:i<bm.length:=by
     have:=(a7x.mp hx).1
     rw[a7r,hla]at this
     exact this
    obtain⟨a,ea,ba⟩:=body sH hi
    rw[ea]at hx
    cases hx
    rw[sp (by lia)]at hy
    cases hy
    have ez:(bm.zip v)[i]? =some (bodyAt bm i,v.getD i 0):=by
     rw[a8S]
     refine⟨?_,?_⟩
     ·unfold bodyAt;rw[a7y,a7u hi];rfl
     ·rw[a7y,a7u (show i<v.length by lia)];rfl
    rw[a7t,ez]at ho
    have ho:(if((bodyAt bm i).kind==2)=true then some (v.getD i 0)else none)=o:=a7v ho
    obtain⟨da,haa,paa,vaa,ia,_⟩:=ba.ex
    refine⟨T',_,rfl,v7.of hT,rfl,_,_,rfl,_,_,rfl,rfl,rfl,?_⟩
    refine⟨_,rfl,_,_,_,_,_,rfl,ia,cl,c4,rfl,rfl,_,rfl,?_⟩
    have kT:decide (V.int ((bodyAt bm i).kind:Int)=V.int 2)=true↔((bodyAt bm i).kind==2)=true:=by
     rw[decide_eq_true_eq,beq_iff_eq]
     exact⟨λq=>by have:=V.int.inj q;lia,λq=>by rw[q];rfl⟩
    refine z8 (λhc=> ?_) (λhc=> ?_)
    ·rw[if_pos (kT.mp hc)]at ho
     exact⟨_,rfl,hR _ ho.symm _ H' (f9.refl _) rfl⟩
    ·rw[if_neg (λq=>hc (kT.mpr q))]at ho
     exact hRt ho.symm H' (f9.refl _)
   ·have edr:((bm.zip v).map λp=>if(p.1.kind==2)=true then some p.2 else none).filterMap id=((bm.zip v).filter λp=>p.1.kind==2).map (·.2):=by
     generalize bm.zip v=z
     induction z with
     |nil=>rfl
     |cons p r ih=>
      rw[a7U,a8b]
      cases p.1.kind==2
      ·simpa using ih
      ·simpa using ih
    rw[edr]at hdr
    generalize hdrE:((bm.zip v).filter λp=>p.1.kind==2).map (·.2)=dr at*
    have eacc:acc=dr.map V.int:=by
     clear hdl hdrE edr
     induction hdr with
     |nil=>rfl
     |cons r p ih=>rw[a7U,←ih,r]
    subst eacc
    have hl1:=s1 _ _ hl
    have hs1:=s1 _ _ hs
    have hdl':dr.length<=20:=by
     rw[←hdrE,a7r]
     refine a7G (a75 _ _) ?_
     rw[hzl]
     exact h20
    have eg:gsp bm v held=if dr.length=1 then v.map λ_=>dr.getD 0 0 else if bm.length=2/\(bodyAt bm 0).hard=true/\(bodyAt bm 1).hard=true then [v.getD 1 0,v.getD 0 0]else v.map λ_=>0:=by
     unfold gsp
     rw[if_neg hh,hdrE]
    refine⟨_,rfl,dl,_,rfl,.inl (n9.of hdl),rfl,_,rfl,?_⟩
    refine z8 (λh1=> ?_) (λh1=> ?_)
    ·have h1:dr.length=1:=by
      have:=V.int.inj (of_decide_eq_true h1)
      rw[a7r]at this
      lia
     have hd0:(dr.map V.int)[0]? =some (V.int (dr.getD 0 0)):=by
      rw[a7t,a7y,a7u (show 0<dr.length by lia)]
      rfl
     refine⟨_,rfl,sl,rfl,⟨_,n9.of hs1⟩,λD nD=> ?_⟩
     refine lcL nD (n9.of hs1) (ys:=(v.map λ_=>V.int (dr.getD 0 0)).map some) (by rw[a7r,a7r,a7r]) (by rw[a7r,a7r,←hlen];exact a7G h20 (by decide)) (λt x o H' hx ho sH=> ?_) (λG6 s6 hD=> ?_)
     ·intro Rt Rv _ hR
      have eo:o=some (V.int (dr.getD 0 0)):=by
       rw[a7t,a7t]at ho
       cases q:v[t]? with
       |none=>rw[q]at ho;cases ho
       |some z=>rw[q]at ho;exact(a7v ho).symm
      refine⟨rfl,B3 (B:=Rt H') ?_⟩
      exact⟨_,rfl,dl,_,_,_,rfl,rfl,n9.of (sH _ _ hdl),z7 (j:=0) hd0,hR _ eo H' (f9.refl _)⟩
     ·rw[show((v.map λ_=>V.int (dr.getD 0 0)).map some).filterMap id=v.map λ_=>V.int (dr.getD 0 0) by simp[a71]]at hD
      refine k D G6 (s1.trans s6) (s1.free nD) ?_
      rw[hD]
      congr 2
      rw[eg,if_pos h1,a8s]
      rfl
    ·have h1:¬dr.length=1:=λq=>h1 (decide_eq_true (by rw[a7r,q];rfl))
     rw[if_neg h1]at eg
     have zero:∀(c:¬(bm.length=2/\(bodyAt bm 0).hard=true/\(bodyAt bm 1).hard=true)),gsp bm v held=v.map λ_=>0:=λc=>by rw[eg,if_neg c]
     refine⟨_,rfl,l,_,rfl,.inl (n9.of hl1),rfl,_,rfl,?_⟩
     refine z8 (λh2=> ?_) (λh2=> ?_)
     ·have h2:=(lenT 2).mp h2
      have i01:=s1 _ _ i0
      obtain⟨x1,e1,b1⟩:=body s1 (show 1<bm.length by lia)
      obtain⟨d1,ha1,pa1,va1,i11,_⟩:=b1.ex
      refine⟨_,rfl,l,_,_,_,rfl,rfl,n9.of hl1,z7 (j:=0) e0,_,_,_,_,_,rfl,i01,cl,c5,rfl,rfl,_,rfl,?_⟩
      refine z8 (λh3=> ?_) (λh3=> ?_)
      ·have h3:=(hardT 0).mp h3
       refine⟨_,rfl,l,_,_,_,rfl,rfl,n9.of hl1,z7 (j:=1) e1,_,_,_,_,_,rfl,i11,cl,c5,rfl,rfl,_,rfl,?_⟩
       refine z8 (λh4=> ?_) (λh4=> ?_)
       ·have h4:=(hardT 1).mp h4
        refine⟨_,rfl,sl,_,_,_,rfl,rfl,n9.of hs1,z7 (j:=1) (sp (by lia)),_,rfl,sl,_,_,_,rfl,rfl,n9.of hs1,z7 (j:=0) (sp (by lia)),by show 2<=sizeLine;decide,λp G sG np t=>k p G (s1.trans sG) (s1.free np) ?_⟩
        rw[t,eg,if_pos ⟨by lia,h3,h4⟩]
        rfl
       ·have c:=zero λq=>h4 ((hardT 1).mpr q.2.2)
        refine⟨_,rfl,sl,rfl,⟨_,n9.of hs1⟩,λD nD=> ?_⟩
        refine lcL nD (n9.of hs1) (ys:=(v.map λ_=>V.int (0)).map some) (by rw[a7r,a7r,a7r]) (by rw[a7r,a7r,←hlen];exact a7G h20 (by decide)) (λt x o H' hx ho sH=> ?_) (λG6 s6 hD=> ?_)
        ·intro Rt Rv _ hR
         have eo:o=some (V.int (0)):=by
          rw[a7t,a7t]at ho
          cases q:v[t]? with
          |none=>rw[q]at ho;cases ho
          |some z=>rw[q]at ho;exact(a7v ho).symm
         refine⟨rfl,B3 (B:=Rt H') ?_⟩
         exact hR _ eo H' (f9.refl _)
        ·rw[show((v.map λ_=>V.int (0)).map some).filterMap id=v.map λ_=>V.int (0) by simp[a71]]at hD
         refine k D G6 (s1.trans s6) (s1.free nD) ?_
         rw[hD]
         congr 2
         rw[c,a8s]
         rfl
      ·have c:=zero λq=>h3 ((hardT 0).mpr q.2.1)
       refine⟨_,rfl,sl,rfl,⟨_,n9.of hs1⟩,λD nD=> ?_⟩
       refine lcL nD (n9.of hs1) (ys:=(v.map λ_=>V.int (0)).map some) (by rw[a7r,a7r,a7r]) (by rw[a7r,a7r,←hlen];exact a7G h20 (by decide)) (λt x o H' hx ho sH=> ?_) (λG6 s6 hD=> ?_)
       ·intro Rt Rv _ hR
        have eo:o=some (V.int (0)):=by
         rw[a7t,a7t]at ho
         cases q:v[t]? with
         |none=>rw[q]at ho;cases ho
         |some z=>rw[q]at ho;exact(a7v ho).symm
        refine⟨rfl,B3 (B:=Rt H') ?_⟩
        exact hR _ eo H' (f9.refl _)
       ·rw[show((v.map λ_=>V.int (0)).map some).filterMap id=v.map λ_=>V.int (0) by simp[a71]]at hD
        refine k D G6 (s1.trans s6) (s1.free nD) ?_
        rw[hD]
        congr 2
        rw[c,a8s]
        rfl
     ·have c:=zero λq=>h2 ((lenT 2).mpr (by lia))
      refine⟨_,rfl,sl,rfl,⟨_,n9.of hs1⟩,λD nD=> ?_⟩
      refine lcL nD (n9.of hs1) (ys:=(v.map λ_=>V.int (0)).map some) (by rw[a7r,a7r,a7r]) (by rw[a7r,a7r,←hlen];exact a7G h20 (by decide)) (λt x o H' hx ho sH=> ?_) (λG6 s6 hD=> ?_)
      ·intro Rt Rv _ hR
       have eo:o=some (V.int (0)):=by
        rw[a7t,a7t]at ho
        cases q:v[t]? with
        |none=>rw[q]at ho;cases ho
        |some z=>rw[q]at ho;exact(a7v ho).symm
       refine⟨rfl,B3 (B:=Rt H') ?_⟩
       exact hR _ eo H' (f9.refl _)
      ·rw[show((v.map λ_=>V.int (0)).map some).filterMap id=v.map λ_=>V.int (0) by simp[a71]]at hD
       refine k D G6 (s1.trans s6) (s1.free nD) ?_
       rw[hD]
       congr 2
       rw[c,a8s]
       rfl
end
def a5K(K:Frag):List V->Hp->VK->Prop:=λxs H Q=>∃p ys,xs=[.ref p]/\n9 K H p ys/\∀l G,f9 H G->H l=Option.none->G l=some (.lst ys)->Q (.ref l) G
theorem aY8{X:Cx}:N4 X (.type "list") (a5K X.K):=λa7q s U H xs us Q I r h=>by
 obtain⟨p,ys,e,hq,k⟩:=h
 exact aj2 a7q s U H xs us Q I r ⟨p,ys,e,.inl hq,λl n=>k l _ (f9.new n) n i8⟩
theorem a4h{K:Frag}{a b:Addr}{xs ys:List V}{g:TG}{tb:TS}{D:au6}{U:L2.St}{H:Hp}(Pv:Nat->L2.St->Hp->Prop)(h0:Pv 0 U H)(hl:∀i U H,i<=xs.length->Pv i U H->n9 K H a xs/\n9 K H b ys)(hxy:ys.length=xs.length)
 (hs:∀(i:Nat) (x y:V) (U:L2.St) (H G:Hp) (T:Addr),xs[i]? =some x->ys[i]? =some y->Pv i U H->f9 H G->H T=Option.none->G T=some (.tup [x,y])->g (.ref T) U G λσ2 H2=>tb {D with nx:=Pv (i+1),ct:=Pv (i+1),bk:=D.nx} σ2 H2) (hd:∀U H,Pv xs.length U H->D.nx U H):
 ∃W:Nat->Nat->L2.St->Hp->Prop,(∃m,W 0 m U H)/\∀i m U H,W i m U H->
  ((Itz K a b).stop i H/\D.nx U H)\/((Itz K a b).go i H/\∃N:L2.St->Hp->Prop,(∀σ' H',N σ' H'->∃m',m'<m/\W (i+1) m' σ' H')/\∀x H',(Itz K a b).yld i H x H'->g x U H' λσ2 H2=>tb {D with nx:=N,ct:=N,bk:=D.nx} σ2 H2):=by
 refine⟨λi m U H=>m=xs.length-i/\i<=xs.length/\Pv i U H,⟨xs.length,by simp,a8n _,h0⟩,?_⟩
 rintro i m U H ⟨rfl,hi,p⟩
 obtain⟨qx,qy⟩:=hl i U H hi p
 by_cases hlt:i<xs.length
 ·have hlt2:i<ys.length:=by lia
  refine .inr ⟨⟨xs,ys,xs[i],ys[i],qx,qy,by simp[hlt],by simp[hlt2]⟩,Pv (i+1),λσ' H' p'=>⟨xs.length-(i+1),by lia,rfl,hlt,p'⟩,λv H' yl=> ?_⟩
  obtain⟨T,x,y,rfl,nT,rfl,ex,ey⟩:=yl
  exact hs i x y U H _ T (ex xs qx) (ey ys qy) p (f9.new nT) nT i8
 ·have e:i=xs.length:=by lia
  subst e
  exact .inl ⟨⟨xs,ys,qx,qy,.inl (a7A _)⟩,hd U H p⟩
def a1S(b:List Int)(g:List Nat)(vals:List Int):List Int:=(g.zip vals).foldl (λb p=>b.set p.1 p.2) b
def F3(bs:List a7s)(x:Bool):List Int:=bs.map λb=>Vbwsam.part x b.v
def O5(bs:List a7s)(es:List (Nat×Nat))(x:Bool)(g:List Nat):List Int:=gsp (g.map (bodyAt bs)) (g.map λn=>Vbwsam.part x (bodyAt bs n).v) (g.any λn=>(I0 bs es).contains n)
def ac6(bs:List a7s)(es:List (Nat×Nat))(x:Bool)(b:List Int)(g:List Nat):List Int:=a1S b g (O5 bs es x g)
def N9(bs:List a7s)(es:List (Nat×Nat))(x:Bool):List Int:=(ak1 bs es).foldl (ac6 bs es x) (F3 bs x)
theorem a0Y{bm:List a7s}{v:List Int}{held:Bool}(h:bm.length=v.length):(gsp bm v held).length=v.length:=by
 unfold gsp
 split
 ·split
  ·rename_i q
   show 1=_
   lia
  ·exact a7r _
 ·dsimp only
  split
  ·exact a7r _
  ·split
   ·rename_i q
    show 2=_
    lia
   ·exact a7r _
theorem T4:∀(ps:List (Nat×Int)) (b:List Int),(ps.foldl (λb p=>b.set p.1 p.2) b).length=b.length
 |[],_=>rfl
 |p::r,b=>by rw[a8P,T4 r,a9g]
abbrev E1:Stmt:=O7 33
def a20(x:Bool):Int:=if x=true then 0 else 1
section
variable{P:Program}{w:World}{K:Frag}{mg:Str->Option Value}{base:Heap}{C:Addr}
def a5L(K:Frag)(C:Addr):Sp:=λvs H Q _=>∃(l pl:Addr) (as:List Addr) (bs:List a7s) (es:List (Nat×Nat)) (x:Bool),vs=[.ref l,.ref pl,.int (a20 x)]/\m8 K C H l as bs/\A2 K H pl es/\bs.length<=20/\(∀p∈es,p.1<bs.length/\p.2<bs.length)/\
 ∀p G,f9 H G->H p=none->G p=some (.lst ((N9 bs es x).map V.int))->Q (.ref p) G
theorem X2:n8 ["bodies","pairs","axis","before","behind","held","group","members","speeds","group_held","number","speed","body"] ["bodies","pairs","axis"] (g9 E1):=⟨rfl,rfl,rfl,by decide+kernel,rfl,by decide+kernel,by decide+kernel⟩
theorem an9{f:Addr}{fd:FuncData}(F:M3 K "speeds_behind" "speeds_behind" E1 f fd)(T:Txt K mg)(cB:ab9 K C)(b_zip:mg "zip"=none)(b_list:mg "list"=none)
 (D_at_fixed:Df P w K mg base "at_fixed" 1 ["bodies","pairs"] (aY7 K C)) (D_groups_of:Df P w K mg base "groups_of" 1 ["bodies","pairs"] (ax4 K C)) (D_group_speeds:Df P w K mg base "group_speeds" 1 ["members","speeds","held"] (a5J K C)):
 A7 P w K mg base M2 2 f fd ["bodies","pairs","axis"] (a5L K C):=by
 refine F.ok X2 (λvs H Q E h=> ?_) (λcdv A outer s H vs Q E hr h=> ?_)
 ·obtain⟨l,pl,as,bs,es,x,rfl,_⟩:=h
  rfl
 ·obtain⟨l,pl,as,bs,es,x,rfl,hB,hP,h20,hes,k⟩:=h
  have nd:=X2.nd
  obtain⟨cl,-,-,-,-,-,-,c7⟩:=cB
  refine⟨_,(e9 (j9 (i:=3) nd rfl (Or.inr rfl) (R0 (own:=[("body",12)]) rfl nd (A3 (pv 0)) (by show E5 ["bodies","pairs","axis","before","behind","held","group","members","speeds","group_held","number","speed","body"] (g9 E1) _ _;exact⟨rfl,by decide+kernel,by decide+kernel,by decide+kernel,by decide+kernel⟩)
   (λ_ _ _ _ _=>by exact z9 (i:=12) nd (by rfl) (by exact Or.inl rfl) (by exact Or.inr rfl))
   (λ_ _ _ _ _=>by exact D8)
   (λ_ _ _ _ _=>by exact(U5 K rfl (Y6 K rfl (pv 12) rfl) (pv 2) (λ_ _=>rfl)))))
   (e9 (j9 (i:=4) nd rfl (Or.inl rfl) (L6 aY8 (by rfl) b_list PyProof.Rows.boot_list (e8 (pv 3) f7)))
   (e9 (j9 (i:=5) nd rfl (Or.inr rfl) (A0 D_at_fixed hr (by rfl) (e8 (pv 0) (e8 (pv 1) f7))))
   (e9 (E9 PassesOwn.never rfl (A3 (A0 D_groups_of hr (by rfl) (e8 (pv 0) (e8 (pv 1) f7)))) (z9 (i:=6) nd rfl (Or.inl rfl))
    (e9 (L3 (i:=7) rfl nd rfl rfl rfl (own:=[("number",10)]) (A3 (pv 6)) (by show E5 ["bodies","pairs","axis","before","behind","held","group","members","speeds","group_held","number","speed","body"] (g9 E1) _ _;exact⟨rfl,by decide+kernel,by decide+kernel,by decide+kernel,by decide+kernel⟩)
     (λ_ _ _ _ _=>by exact z9 (i:=10) nd (by rfl) (by exact Or.inl rfl) (by exact Or.inr rfl))
     (λ_ _ _ _ _=>by exact D8)
     (λ_ _ _ _ _=>by exact(Q2 K rfl (pv 0) (pv 10) (λ_ _=>rfl))))
    (e9 (L3 (i:=8) rfl nd rfl rfl rfl (own:=[("number",10)]) (A3 (pv 6)) (by show E5 ["bodies","pairs","axis","before","behind","held","group","members","speeds","group_held","number","speed","body"] (g9 E1) _ _;exact⟨rfl,by decide+kernel,by decide+kernel,by decide+kernel,by decide+kernel⟩)
     (λ_ _ _ _ _=>by exact z9 (i:=10) nd (by rfl) (by exact Or.inl rfl) (by exact Or.inr rfl))
     (λ_ _ _ _ _=>by exact D8)
     (λ_ _ _ _ _=>by exact(Q2 K rfl (pv 3) (pv 10) (λ_ _=>rfl))))
    (e9 (j9 (i:=9) nd rfl (Or.inl rfl) (v6 (aW4 rfl) (by rfl) T.b_any boot_any (e8 (R0 (own:=[("number",10)]) rfl nd (A3 (pv 6)) (by show E5 ["bodies","pairs","axis","before","behind","held","group","members","speeds","group_held","number","speed","body"] (g9 E1) _ _;exact⟨rfl,by decide+kernel,by decide+kernel,by decide+kernel,by decide+kernel⟩)
     (λ_ _ _ _ _=>by exact z9 (i:=10) nd (by rfl) (by exact Or.inl rfl) (by exact Or.inr rfl))
     (λ_ _ _ _ _=>by exact D8)
     (λ_ _ _ _ _=>by exact(a47 (aW8 (aq1 hr) (pv 10) (pv 5))))) f7)))
    (f8 (E9 PassesOwn.never rfl (aW9 (by rfl) b_zip (e8 (pv 6) (e8 (A0 D_group_speeds hr (by rfl) (e8 (pv 7) (e8 (pv 8) (e8 (pv 9) f7)))) f7))) (by refine J5 (i:=10) (j:=11) K ?_ ?_ ?_ ?_ ?_ ?_ ?_<;>first|rfl|assumption)
     (f8 (a2o (pv 11) (a2n (pv 4) (pv 10) aF5)))))))))
   (f8 (l8 (pv 4))))))),?_⟩
  have hn:=hB.len
  refine⟨_,rfl,l,rfl,⟨_,n9.of hB.lst⟩,λbl nb=> ?_⟩
  refine lcL nb (n9.of hB.lst) (ys:=((F3 bs x).map V.int).map some) (by unfold F3;rw[a7r,a7r,a7r,a7r,hn]) (by unfold F3;rw[a7r,a7r,a7r];exact a7G h20 (by decide)) (λi y o H' hx ho sH=> ?_) (λG1 s1 hb=> ?_)
  ·intro Rt Rv _ hR
   obtain⟨a,b,rfl,ha,hb,hbd⟩:=hB.item hx
   obtain⟨dx,hai,pai,vai,i1,i2,i3,i4⟩:=(hbd.same sH).ex
   unfold F3 at ho
   rw[a7t,a7t,a7t,hb]at ho
   refine⟨rfl,B3 (B:=Rt H') ?_⟩
   refine⟨_,rfl,_,_,_,_,_,rfl,i1,cl,c7,rfl,?_⟩
   cases x with
   |true=>exact⟨_,rfl,vai,_,_,_,rfl,rfl,i4,rfl,hR _ (a7v ho).symm H' (f9.refl _)⟩
   |false=>exact⟨_,rfl,vai,_,_,_,rfl,rfl,i4,rfl,hR _ (a7v ho).symm H' (f9.refl _)⟩
  rw[show(((F3 bs x).map V.int).map some).filterMap id=(F3 bs x).map V.int by simp[a71]]at hb
  refine⟨_,rfl,bl,_,rfl,n9.of hb,λrl G2 s2 n2 t2=> ?_⟩
  refine⟨_,rfl,_,rfl,l,pl,as,bs,es,rfl,hB.same (s1.trans s2),hP.same (s1.trans s2),h20,hes,λd kvs G3 s3 n3 d3 hk=> ?_⟩
  refine⟨_,rfl,_,rfl,l,pl,as,bs,es,rfl,hB.same (s1.trans (s2.trans s3)),hP.same (s1.trans (s2.trans s3)),h20,hes,λgl qs G4 s4 ngl nqs t4 hg=> ?_⟩
  have s04:=s1.trans (s2.trans (s3.trans s4))
  have nrl:H rl=none:=s1.free n2
  have t24:=s4 _ _ (s3 _ _ t2)
  have hb4:=s4 _ _ (s3 _ _ (s2 _ _ hb))
  have hd4:=s4 _ _ d3
  have hbr:bl≠rl:=by rintro rfl;rw[n2]at hb;cases hb
  have qr:∀q∈qs,q≠rl:=λq hq e=>by
   subst e
   have:=nqs q hq
   rw[s3 _ _ t2]at this
   cases this
  have glr:gl≠rl:=by rintro rfl;rw[s3 _ _ t2]at ngl;cases ngl
  have gin:∀g∈ak1 bs es,g≠[]/\g.length<=20/\∀n∈g,n<bs.length:=λg hg=>by
   obtain⟨e,he,rfl⟩:=a8j.mp hg
   obtain⟨h1,h2⟩:=(a5F (L5 bs es) (O4 bs es)).is e he
   refine⟨h2,?_,λn hn=> ?_⟩
   ·rw[h1]
    refine a7G (a75 _ _) (a7G (a75 _ _) ?_)
    rw[a70]
    exact h20
   ·rw[h1]at hn
    have:=(a7X.mp hn).1
    unfold O4 at this
    rw[a7X,a8G]at this
    exact this.1
  have lenB:(F3 bs x).length=bs.length:=by unfold F3;rw[a7r]
  have curlen:∀(gs:List (List Nat)) (b:List Int),(gs.foldl (ac6 bs es x) b).length=b.length:=λgs=>by
   induction gs with
   |nil=>intro b;rfl
   |cons g r ih=>intro b;rw[a8P,ih];exact T4 _ _
  refine⟨gl,rfl,⟨_,n9.of t4⟩,L1 (K:=K) (a:=gl) (xs:=qs.map V.ref) (λi U G=>(∃u6 u7 u8 u9 u10 u11 u12:Option V,U=[some (.ref l),some (.ref pl),some (.int (a20 x)),some (.ref bl),some (.ref rl),some (.ref d),u6,u7,u8,u9,u10,u11,u12])/\Kp rl G4 G/\G rl=some (.lst ((((ak1 bs es).take i).foldl (ac6 bs es x) (F3 bs x)).map V.int)))
   ⟨⟨none,none,none,none,none,none,none,rfl⟩,λ_ _ _ e=>e,t24⟩ (λi U G _ ⟨_,h,_⟩=>n9.of (h _ _ glr t4)) ?_ ?_⟩
  ·rintro i y U G hy ⟨⟨u6,u7,u8,u9,u10,u11,u12,rfl⟩,kG,hrl⟩
   obtain⟨q,hq,rfl⟩:∃q,qs[i]? =some q/\y=V.ref q:=by
    rw[a7t]at hy
    cases e:qs[i]? with
    |none=>rw[e]at hy;cases hy
    |some q=>rw[e]at hy;exact⟨q,rfl,(a7v hy).symm⟩
   obtain⟨g,hgi,hgq⟩:=Paired.at2 hg hq
   obtain⟨gne,g20,gb⟩:=gin g (a7F hgi)
   have hqG:G q=some (.lst (C4 g)):=kG _ _ (qr q (a7F hq)) hgq
   have sHG:f9 H G:=kG.same s04 nrl
   have hbG:=kG _ _ hbr hb4
   have hdG:G d=some (.dK kvs):=kG _ _ (B7 hd4 t24 (by intro z;cases z)) hd4
   have hBG:=hB.same sHG
   rw[K2 hgi,foldl_append]
   have hcl:((ak1 bs es).take i).foldl (ac6 bs es x) (F3 bs x)=((ak1 bs es).take i).foldl (ac6 bs es x) (F3 bs x):=rfl
   have hcurl:=curlen ((ak1 bs es).take i) (F3 bs x)
   generalize ((ak1 bs es).take i).foldl (ac6 bs es x) (F3 bs x)=cur at*
   have num:∀{t:Nat} {v:V},(C4 g)[t]? =some v->∃n,g[t]? =some n/\v=V.int (n:Int)/\n<bs.length:=λ{t v} h=>by
    unfold C4 at h
    rw[a7t]at h
    cases e:g[t]? with
    |none=>rw[e]at h;cases h
    |some n=>rw[e]at h;exact⟨n,rfl,(a7v h).symm,gb n (a7F e)⟩
   have asat:∀{n:Nat},n<bs.length->as[n]? =some (as.getD n 0):=λ{n} h=>by
    rw[a7y,a7u (show n<as.length by lia)]
    rfl
   have bsat:∀{n:Nat},n<bs.length->bs[n]? =some (bodyAt bs n):=λ{n} h=>by
    unfold bodyAt
    rw[a7y,a7u h]
    rfl
   have gsz:g.length<=sizeLine:=a7G g20 (by decide)
   refine⟨_,rfl,q,rfl,⟨_,n9.of hqG⟩,λml nml=> ?_⟩
   refine lcL nml (n9.of hqG) (ys:=(g.map λn=>V.ref (as.getD n 0)).map some) (by unfold C4;rw[a7r,a7r,a7r]) (by rw[a7r,a7r];exact gsz) (λt v o H' hv ho sH=> ?_) (λG5 s5 h5=> ?_)
   ·intro Rt Rv _ hR
    obtain⟨n,hn1,rfl,hn2⟩:=num hv
    rw[a7t,a7t,hn1]at ho
    refine⟨rfl,B3 (B:=Rt H') ?_⟩
    exact⟨_,rfl,_,rfl,l,_,_,_,rfl,rfl,n9.of (sH _ _ hBG.lst),z7 (j:=n) (by rw[a7t,asat hn2];rfl),hR _ (a7v ho).symm H' (f9.refl _)⟩
   rw[show((g.map λn=>V.ref (as.getD n 0)).map some).filterMap id=g.map λn=>V.ref (as.getD n 0) by simp[a71]]at h5
   refine⟨_,rfl,q,rfl,⟨_,n9.of (s5 _ _ hqG)⟩,λvl nvl=> ?_⟩
   refine lcL nvl (n9.of (s5 _ _ hqG)) (ys:=(g.map λn=>V.int (Vbwsam.part x (bodyAt bs n).v)).map some) (by unfold C4;rw[a7r,a7r,a7r]) (by rw[a7r,a7r];exact gsz) (λt v o H' hv ho sH=> ?_) (λG6 s6 h6=> ?_)
   ·intro Rt Rv _ hR
    obtain⟨n,hn1,rfl,hn2⟩:=num hv
    rw[a7t,a7t,hn1]at ho
    refine⟨rfl,B3 (B:=Rt H') ?_⟩
    exact⟨_,rfl,_,rfl,bl,_,_,_,rfl,rfl,n9.of (sH _ _ (s5 _ _ hbG)),z7 (j:=n) (by unfold F3;rw[a7t,a7t,bsat hn2];rfl),hR _ (a7v ho).symm H' (f9.refl _)⟩
   rw[show((g.map λn=>V.int (Vbwsam.part x (bodyAt bs n).v)).map some).filterMap id=g.map λn=>V.int (Vbwsam.part x (bodyAt bs n).v) by simp[a71]]at h6
   have s56:=s5.trans s6
   refine⟨_,rfl,q,rfl,⟨_,n9.of (s56 _ _ hqG)⟩,λal nal=> ?_⟩
   refine lcL nal (n9.of (s56 _ _ hqG)) (ys:=((g.map λn=>(I0 bs es).contains n).map V.bl).map some) (by unfold C4;rw[a7r,a7r,a7r,a7r]) (by rw[a7r,a7r,a7r];exact gsz) (λt v o H' hv ho sH=> ?_) (λG7 s7 h7=> ?_)
   ·intro Rt Rv _ hR
    obtain⟨n,hn1,rfl,hn2⟩:=num hv
    rw[a7t,a7t,a7t,hn1]at ho
    refine⟨rfl,B3 (B:=Rt H') ?_⟩
    refine⟨_,rfl,_,rfl,d,_,rfl,aW7.k (k:=Sum.inl (n:Int)) (sH _ _ (s56 _ _ hdG)),hR _ ?_ H' (f9.refl _)⟩
    rw[hk.look n]
    exact(a7v ho).symm
   rw[show(((g.map λn=>(I0 bs es).contains n).map V.bl).map some).filterMap id=(g.map λn=>(I0 bs es).contains n).map V.bl by simp[a71]]at h7
   refine⟨al,_,rfl,n9.of h7,?_⟩
   have s57:=s56.trans s7
   have eany:(g.map λn=>(I0 bs es).contains n).any id=g.any λn=>(I0 bs es).contains n:=by rw[any_map];rfl
   rw[eany]
   have hm7:G7 ml=some (.lst ((g.map λn=>as.getD n 0).map V.ref)):=by rw[s7 _ _ (s6 _ _ h5),a8s];rfl
   have hv7:G7 vl=some (.lst ((g.map λn=>Vbwsam.part x (bodyAt bs n).v).map V.int)):=by rw[s7 _ _ h6,a8s];rfl
   have hbm:Paired (λa b=>A9 K C G7 a b) (g.map λn=>as.getD n 0) (g.map (bodyAt bs)):=by
    have:∀g:List Nat,(∀n∈g,n<bs.length)->Paired (λa b=>A9 K C G7 a b) (g.map λn=>as.getD n 0) (g.map (bodyAt bs)):=λg=>by
     induction g with
     |nil=>intro _;exact .nil
     |cons n r ih=>
      intro h
      have hn2:=h n a7C
      obtain⟨b,hb1,hb2⟩:=Paired.at_ (hBG.same s57).bd (asat hn2)
      rw[bsat hn2]at hb1
      cases hb1
      exact .cons hb2 (ih λm hm=>h m (a7B _ hm))
    exact this g gb
   refine⟨_,rfl,_,rfl,_,rfl,_,rfl,ml,vl,_,_,_,_,rfl,hm7,hbm,hv7,by rw[a7r,a7r],⟨by rw[a7r];exact List.length_pos_iff.mpr gne,by rw[a7r];exact g20⟩,λwl G8 s8 nw8 t8=> ?_⟩
   have evals:gsp (g.map (bodyAt bs)) (g.map λn=>Vbwsam.part x (bodyAt bs n).v) (g.any λn=>(I0 bs es).contains n)=O5 bs es x g:=rfl
   rw[evals]at t8
   have lvals:(O5 bs es x g).length=g.length:=by unfold O5;rw[a0Y (by rw[a7r,a7r]),a7r]
   have s58:=s57.trans s8
   have hq8:=s58 _ _ hqG
   have hr8:=s58 _ _ hrl
   have rq:q≠rl:=qr q (a7F hq)
   have wr:wl≠rl:=by rintro rfl;rw[s57 _ _ hrl]at nw8;cases nw8
   refine⟨q,wl,_,_,rfl,n9.of hq8,n9.of t8,a4h (K:=K) (a:=q) (b:=wl) (xs:=C4 g) (ys:=(O5 bs es x g).map V.int) (λj U G'=>(∃u10 u11:Option V,U=[some (.ref l),some (.ref pl),some (.int (a20 x)),some (.ref bl),some (.ref rl),some (.ref d),some (.ref q),some (.ref ml),some (.ref vl),some (.bl (g.any λn=>(I0 bs es).contains n)),u10,u11,u12])/\Kp rl G8 G'/\G' rl=some (.lst ((((g.zip (O5 bs es x g)).take j).foldl (λb p=>b.set p.1 p.2) cur).map V.int)))
    ⟨⟨_,_,rfl⟩,λ_ _ _ e=>e,hr8⟩ (λj U G' _ ⟨_,h,_⟩=>⟨n9.of (h _ _ rq hq8),n9.of (h _ _ wr t8)⟩) (by unfold C4;rw[a7r,a7r,lvals]) ?_ ?_⟩
   ·rintro j v1 v2 U G' G9 T' hv1 hv2 ⟨⟨u10,u11,rfl⟩,kG',hr'⟩ s9 nT hT
    obtain⟨n,hn1,rfl,hn2⟩:=num hv1
    obtain⟨z,hz1,rfl⟩:∃z,(O5 bs es x g)[j]? =some z/\v2=V.int z:=by
     rw[a7t]at hv2
     cases e:(O5 bs es x g)[j]? with
     |none=>rw[e]at hv2;cases hv2
     |some z=>rw[e]at hv2;exact⟨z,rfl,(a7v hv2).symm⟩
    have ez:(g.zip (O5 bs es x g))[j]? =some (n,z):=by rw[a8S];exact⟨hn1,hz1⟩
    rw[K2 ez,foldl_append]
    have lc:=T4 ((g.zip (O5 bs es x g)).take j) cur
    generalize ((g.zip (O5 bs es x g)).take j).foldl (λb p=>b.set p.1 p.2) cur=c2 at*
    refine⟨T',_,rfl,v7.of hT,rfl,_,_,rfl,_,_,rfl,rfl,?_⟩
    refine⟨_,rfl,_,rfl,_,rfl,rl,_,_,n,rfl,rfl,s9 _ _ hr',a0T (by rw[a7r,lc,hcurl,lenB];exact hn2),λG10 k10 t10=> ?_⟩
    refine⟨⟨_,_,rfl⟩,λb o nb eb=>k10 b o nb (s9 _ _ (kG' b o nb eb)),?_⟩
    rw[t10]
    show _=some (HO.lst ((c2.set n z).map V.int))
    rw[List.map_set]
   ·rintro U G' ⟨⟨u10,u11,rfl⟩,kG',hr'⟩
    refine⟨⟨_,_,_,_,_,_,_,rfl⟩,λb o nb eb=>kG' b o nb (s58 _ _ (kG b o nb eb)),?_⟩
    have el:(C4 g).length=(g.zip (O5 bs es x g)).length:=by unfold C4;rw[a7r,a9y,lvals,a9S]
    rw[el,a8o]at hr'
    exact hr'
  ·rintro U G ⟨⟨u6,u7,u8,u9,u10,u11,u12,rfl⟩,kG,hrl⟩
   have el:(qs.map V.ref).length=(ak1 bs es).length:=by rw[a7r,Paired.length hg]
   rw[el,a8o]at hrl
   exact⟨_,rfl,k rl G (kG.same s04 nrl) nrl hrl⟩
end
end Mp
namespace Mp
open Vbwsam (bodyAt isFixed groupOf part)
theorem ah8:∀{ps:List (Nat×Int)} {b:List Int} {i:Nat},(∀p∈ps,p.1≠i)->(ps.foldl (λb p=>b.set p.1 p.2) b)[i]? =b[i]?
 |[],_,_,_=>rfl
 |p::r,b,i,h=>by
  rw[a8P,ah8 λq hq=>h q (a7B _ hq)]
  exact a8X (h p a7C)
theorem aG3:∀{ps:List (Nat×Int)} {b:List Int} {i k:Nat} {z:Int},(ps.map (·.1)).Nodup->ps[k]? =some (i,z)->i<b.length->(ps.foldl (λb p=>b.set p.1 p.2) b)[i]? =some z
 |[],_,_,_,_,_,h,_=>by simp at h
 |p::r,b,i,0,z,nd,h,hb=>by
  cases h
  have no:∀q∈r,q.1≠i:=λq hq e=>(a8J.mp nd).1 (a8j.mpr ⟨q,hq,e⟩)
  rw[a8P,ah8 no]
  exact a8R hb
 |p::r,b,i,k+1,z,nd,h,hb=>by
  rw[a8P]
  exact aG3 (k:=k) (a8J.mp nd).2 h (by rw[a9g];exact hb)
theorem a0Z{g:List Nat}{v:List Int}(h:v.length=g.length):(g.zip v).map (·.1)=g:=by
 rw[List.map_fst_zip]
 lia
section
variable{bs:List a7s}{es:List (Nat×Nat)}{x:Bool}
theorem ao0(g:List Nat):(O5 bs es x g).length=g.length:=by
 unfold O5
 rw[a0Y (by rw[a7r,a7r]),a7r]
theorem a1T(b:List Int)(g:List Nat):(ac6 bs es x b g).length=b.length:=T4 _ _
theorem a1U{b:List Int}{g:List Nat}{i:Nat}(h:i∉g):(ac6 bs es x b g)[i]? =b[i]? :=by
 refine ah8 λp hp e=>h ?_
 rw[←e,←a0Z (ao0 (bs:=bs) (es:=es) (x:=x) g)]
 exact a8j.mpr ⟨p,hp,rfl⟩
theorem ax5:∀{gs:List (List Nat)} {b:List Int} {i:Nat},(∀g∈gs,i∉g)->(gs.foldl (ac6 bs es x) b)[i]? =b[i]?
 |[],_,_,_=>rfl
 |g::r,b,i,h=>by
  rw[a8P,ax5 λq hq=>h q (a7B _ hq)]
  exact a1U (h g a7C)
theorem a00:∀{gs:List (List Nat)} {b:List Int} {i t k:Nat} {g:List Nat},(∀(s:Nat) (g':List Nat),gs[s]? =some g'->s≠t->i∉g')->gs[t]? =some g->g.Nodup->g[k]? =some i->i<b.length->(gs.foldl (ac6 bs es x) b)[i]? =(O5 bs es x g)[k]?
 |[],_,_,_,_,_,_,h,_,_,_=>by simp at h
 |g'::r,b,i,0,k,g,h,ht,nd,hk,hb=>by
  have eg:g'=g:=a7v ht
  subst eg
  rw[a8P,ax5 λq hq=>by
   obtain⟨s,hs⟩:=a8Z hq
   exact h (s+1) q hs (by lia)]
  have hkl:k<(O5 bs es x g').length:=by rw[ao0];exact(a7x.mp hk).1
  have hz:=a7u hkl
  rw[hz]
  refine aG3 (k:=k) (by rw[a0Z (ao0 g')];exact nd) ?_ hb
  rw[a8S]
  exact⟨hk,hz⟩
 |g'::r,b,i,t+1,k,g,h,ht,nd,hk,hb=>by
  rw[a8P]
  exact a00 (t:=t) (λs q hs ne=>h (s+1) q hs (by lia)) ht nd hk (by rw[a1T];exact hb)
theorem ao1{i:Nat}:i∈O4 bs es↔i<bs.length/\P4 es i=true/\isFixed bs i=false:=by
 unfold O4
 rw[a7X,a8G,a7z,Bool.not_eq_true']
theorem ax6(i:Nat):(es.any λp=>p.1==i||p.2==i)=P4 es i:=by
 rw[a7W,a9p]
 unfold P4 F9
 rw[a73,decide_eq_true_eq,a8B]
 constructor
 ·rintro⟨p,hp,h⟩
  refine⟨p,hp,?_⟩
  rw[a8v,beq_iff_eq,beq_iff_eq]at h
  rcases h with h|h<;>simp[h]
 ·rintro⟨p,hp,h⟩
  refine⟨p,hp,?_⟩
  rw[a8v,beq_iff_eq,beq_iff_eq]
  rcases a7D.mp h with h|h
  ·exact .inl h.symm
  ·exact .inr (a7N.mp h).symm
theorem a4i(g:List Nat):(es.any λp=>(g.contains p.1&&isFixed bs p.2)||(g.contains p.2&&isFixed bs p.1))=g.any λn=>(I0 bs es).contains n:=by
 rw[a7W,a9p,a9p]
 constructor
 ·rintro⟨p,hp,h⟩
  rw[a8v,a7z,a7z,a73,a73,decide_eq_true_eq,decide_eq_true_eq]at h
  rcases h with⟨h1,h2⟩|⟨h1,h2⟩
  ·refine⟨p.1,h1,?_⟩
   rw[a73,decide_eq_true_eq]
   refine a8B.mpr ⟨p,hp,?_⟩
   unfold K6
   rw[if_pos h2]
   exact a8u _ (a7N.mpr rfl)
  ·refine⟨p.2,h1,?_⟩
   rw[a73,decide_eq_true_eq]
   refine a8B.mpr ⟨p,hp,?_⟩
   unfold K6
   rw[if_pos h2]
   exact a88 _ (a7N.mpr rfl)
 ·rintro⟨n,hn,h⟩
  rw[a73,decide_eq_true_eq]at h
  obtain⟨p,hp,hq⟩:=a8B.mp h
  refine⟨p,hp,?_⟩
  rw[a8v,a7z,a7z,a73,a73,decide_eq_true_eq,decide_eq_true_eq]
  unfold K6 at hq
  rcases a77.mp hq with q|q
  ·split at q
   ·rename_i c
    rw[a7N.mp q]at hn
    exact .inr ⟨hn,c⟩
   ·cases q
  ·split at q
   ·rename_i c
    rw[a7N.mp q]at hn
    exact .inl ⟨hn,c⟩
   ·cases q
theorem ax7(f:Nat->Int):∀g:List Nat,(((g.map (bodyAt bs)).zip (g.map f)).filter λp=>p.1.kind==2).map (·.2)=(g.filter λj=>(bodyAt bs j).kind==2).map f
 |[]=>rfl
 |n::r=>by
  have ih:=ax7 f r
  rw[a7U,a7U,a9u,a8b,a8b]
  cases e:(bodyAt bs n).kind==2
  ·simpa [e]using ih
  ·simpa [e]using ih
theorem ah9{g:List Nat}{k n:Nat}(h:g[k]? =some n):bodyAt (g.map (bodyAt bs)) k=bodyAt bs n:=by
 show(g.map (bodyAt bs)).getD k noBody=_
 rw[a7y,a7t,h]
 rfl
theorem a21{g:List Nat}{k n:Nat}{f:Nat->Int}(h:g[k]? =some n):(g.map f).getD k 0=f n:=by
 rw[a7y,a7t,h]
 rfl
theorem X3{α:Type}{v:List α}{k:Nat}{c:Int}(h:k<v.length):(v.map λ_=>c)[k]? =some c:=by
 rw[a7t,a7u h]
 rfl
def a6D(bs:List a7s)(x:Bool)(i:Nat):List Nat->Int
 |[a,b]=>if(bodyAt bs a).hard=true/\(bodyAt bs b).hard=true then part x (bodyAt bs (if i=a then b else a)).v else 0
 |_=>0
theorem a01{g:List Nat}{i k:Nat}(hk:g[k]? =some i)(nd:g.Nodup):
 (if g.length=2/\(bodyAt (g.map (bodyAt bs)) 0).hard=true/\(bodyAt (g.map (bodyAt bs)) 1).hard=true then [(g.map λn=>part x (bodyAt bs n).v).getD 1 0,(g.map λn=>part x (bodyAt bs n).v).getD 0 0]else(g.map λn=>part x (bodyAt bs n).v).map λ_=>0)[k]? =
  some (a6D bs x i g):=by
 have hkl:k<g.length:=(a7x.mp hk).1
 have hkm:k<(g.map λn=>part x (bodyAt bs n).v).length:=by rw[a7r];exact hkl
 match g,hk,nd,hkl,hkm with
 |[],hk,_,hkl,_=>exact absurd hkl (a8Q _)
 |[a],hk,_,hkl,hkm=>rw[if_neg (by simp)];exact X3 hkm
 |[a,b],hk,nd,hkl,hkm=>
  have e0:bodyAt ([a,b].map (bodyAt bs)) 0=bodyAt bs a:=ah9 rfl
  have e1:bodyAt ([a,b].map (bodyAt bs)) 1=bodyAt bs b:=ah9 rfl
  rw[e0,e1]
  by_cases c:(bodyAt bs a).hard=true/\(bodyAt bs b).hard=true
  ·rw[if_pos ⟨rfl,c⟩]
   show _=some (if(bodyAt bs a).hard=true/\(bodyAt bs b).hard=true then part x (bodyAt bs (if i=a then b else a)).v else 0)
   rw[if_pos c]
   match k,hk,hkl with
   |0,hk,_=>
    have:a=i:=a7v hk
    subst this
    rw[if_pos rfl]
    rfl
   |1,hk,_=>
    have:b=i:=a7v hk
    subst this
    have ne:¬b=a:=λq=>by subst q;exact absurd nd (by simp)
    rw[if_neg ne]
    rfl
   |k+2,_,hkl=>exact absurd hkl (by simp)
  ·rw[if_neg (λq=>c q.2)]
   show _=some (if(bodyAt bs a).hard=true/\(bodyAt bs b).hard=true then part x (bodyAt bs (if i=a then b else a)).v else 0)
   rw[if_neg c]
   exact X3 hkm
 |a::b::d::r,hk,_,hkl,hkm=>rw[if_neg (by simp)];exact X3 hkm
theorem a22{g:List Nat}{i k:Nat}(hg:groupOf bs es i=g)(hp:P4 es i=true)(hk:g[k]? =some i)(nd:g.Nodup):(O5 bs es x g)[k]? =some (Vbwsam.behind bs x es i):=by
 have hkl:k<g.length:=(a7x.mp hk).1
 have hkm:k<(g.map λn=>part x (bodyAt bs n).v).length:=by rw[a7r];exact hkl
 unfold Vbwsam.behind
 dsimp only
 rw[ax6,hp,if_neg (by decide),hg,a4i]
 unfold O5 gsp
 rw[a7r]
 by_cases hw:(g.any λn=>(I0 bs es).contains n)=true
 ·rw[if_pos hw,if_pos hw]
  by_cases h1:g.length=1
  ·have k0:k=0:=by lia
   subst k0
   rw[ah9 hk,a21 hk]
   by_cases h2:(bodyAt bs i).hard=true
   ·rw[if_pos ⟨h1,h2⟩,if_pos ⟨h1,h2⟩]
    rfl
   ·rw[if_neg (λq=>h2 q.2),if_neg (λq=>h2 q.2)]
    exact X3 hkm
  ·rw[if_neg (λq=>h1 q.1),if_neg (λq=>h1 q.1)]
   exact X3 hkm
 ·rw[if_neg hw,if_neg hw]
  dsimp only
  rw[ax7]
  cases hd:g.filter λj=>(bodyAt bs j).kind==2 with
  |cons j r=>
   cases r with
   |nil=>
    rw[if_pos (by simp)]
    exact X3 hkm
   |cons j' r=>
    rw[if_neg (by simp)]
    refine(a01 hk nd).trans (congrArg some ?_)
    rcases g with _|⟨a,_|⟨b,_|⟨c,r⟩⟩⟩<;>rfl
  |nil=>
   rw[if_neg (by simp)]
   refine(a01 hk nd).trans (congrArg some ?_)
   rcases g with _|⟨a,_|⟨b,_|⟨c,r⟩⟩⟩<;>rfl
theorem aG4(he:∀p∈es,p.1<bs.length/\p.2<bs.length){i:Nat}(hi:i<bs.length):(N9 bs es x)[i]? =some (if isFixed bs i=true then part x (bodyAt bs i).v else Vbwsam.behind bs x es i):=by
 have hb:(F3 bs x)[i]? =some (part x (bodyAt bs i).v):=by
  unfold F3 bodyAt
  rw[a7t,a7y,a7u hi]
  rfl
 have hbl:i<(F3 bs x).length:=by unfold F3;rw[a7r];exact hi
 have hga:=a5F (L5 bs es) (O4 bs es)
 by_cases hl:i∈O4 bs es
 ·obtain⟨_,hp,hf⟩:=ao1.mp hl
  rw[if_neg (by rw[hf];decide)]
  obtain⟨e,he1,he2⟩:=hga.all i hl
  obtain⟨t,ht⟩:=a8Z he1
  have eg:e.2=groupOf bs es i:=by
   rw[(hga.is e he1).1,a2V he hi hp hf,he2]
   unfold O4 aY2
   rw[filter_filter]
   refine a9z λj _=> ?_
   rw[Bool.and_comm,Bool.and_assoc]
  have hig:i∈e.2:=by
   rw[(hga.is e he1).1,a7X]
   exact⟨hl,by rw[he2];exact decide_eq_true rfl⟩
  obtain⟨k,hk⟩:=a8Z hig
  have nd:e.2.Nodup:=by
   rw[(hga.is e he1).1]
   exact List.Pairwise.imp (λh=>a7L h) (List.Pairwise.filter _ (af4 bs.length _))
  unfold N9
  rw[a00 (t:=t) (k:=k) (g:=e.2) (λs g' hs ne hin=> ?_) (by unfold ak1;rw[a7t,ht];rfl) nd hk hbl]
  ·exact a22 eg.symm hp hk nd
  ·unfold ak1 at hs
   rw[a7t]at hs
   cases q:(M4 (L5 bs es) (O4 bs es))[s]? with
   |none=>rw[q]at hs;cases hs
   |some e'=>
    rw[q]at hs
    have e2:e'.2=g':=a7v hs
    subst e2
    have hm':=a7F q
    rw[(hga.is e' hm').1,a7X]at hin
    have lab:(L5 bs es).getD i 0=e'.1:=by simpa using hin.2
    have a1:((M4 (L5 bs es) (O4 bs es)).map (·.1))[t]? =some ((L5 bs es).getD i 0):=by rw[a7t,ht,←he2];rfl
    have a2:((M4 (L5 bs es) (O4 bs es)).map (·.1))[s]? =some ((L5 bs es).getD i 0):=by rw[a7t,q,lab];rfl
    exact ne (L2.a2K hga.nd a2 a1)
 ·have no:∀g∈ak1 bs es,i∉g:=λg hg hin=>by
   obtain⟨e,h1,rfl⟩:=a8j.mp hg
   rw[(hga.is e h1).1,a7X]at hin
   exact hl hin.1
  unfold N9
  rw[ax5 no,hb]
  by_cases hf:isFixed bs i=true
  ·rw[if_pos hf]
  ·rw[if_neg hf]
   have hp:P4 es i=false:=by
    cases c:P4 es i with
    |false=>rfl
    |true=>exact absurd (ao1.mpr ⟨hi,c,by simpa using hf⟩) hl
   unfold Vbwsam.behind
   dsimp only
   rw[ax6,hp,if_pos rfl]
end
end Mp
namespace Mp
open Vbwsam (bodyAt going clash clashBy moves zeroPair meetings partOnce part behind edges)
theorem aG5{x y wx wy hx hy r:Int}(h:Mb.o9 (x+wx) (y+wy) 0 0 hx hy r=true):Mb.o9 x y wx wy hx hy r=true:=by
 unfold Mb.o9 at h⊢
 cases e0:Mb.l9 (x+wx) (y+wy) 0 0 (hx+r) (hy+r)with
 |false=>rw[e0,if_pos rfl]at h;cases h
 |true=>
  rw[e0,if_neg (by decide)]at h
  rw[Mb.au2 e0,if_neg (by decide)]
  split at h
  ·rename_i c
   rw[a8v]at c
   rw[if_pos]
   rw[a8v]
   exact c.imp Mb.au2 Mb.au2
  ·split
   ·rfl
   ·obtain⟨c,hc,hb⟩:=a9p.mp h
    refine a9p.mpr ⟨c,hc,Mb.aq4 ?_⟩
    have e1:x-c.1+wx=x+wx-c.1:=by lia
    have e2:y-c.2+wy=y+wy-c.2:=by lia
    rw[e1,e2]
    exact hb
theorem a1V{s t:a8U}{x y wx wy:Int}(h:S5 s t (x+wx) (y+wy) 0 0=true):S5 s t x y wx wy=true:=by
 cases s<;>cases t
 ·exact Mb.au2 h
 ·exact aG5 h
 ·exact aG5 h
 ·exact Mb.aq4 h
structure OkR(r:Int)(bs:List a7s):Prop where
 few:bs.length<=20
 sh:∀i,i<bs.length->GdS (bodyAt bs i).shape
 at_:∀i,i<bs.length->(-r<=(bodyAt bs i).at_.x/\(bodyAt bs i).at_.x<=r)/\ -r<=(bodyAt bs i).at_.y/\(bodyAt bs i).at_.y<=r
 vel:∀i,i<bs.length->(-1000<=(bodyAt bs i).v.x/\(bodyAt bs i).v.x<=1000)/\ -1000<=(bodyAt bs i).v.y/\(bodyAt bs i).v.y<=1000
 fix:∀i,i<bs.length->(bodyAt bs i).kind=0->(bodyAt bs i).v=zeroPair
 apart:∀i j,i<j->j<bs.length->clashBy (bodyAt bs i) (bodyAt bs j) zeroPair zeroPair=false
theorem OkR.ok{r:Int}{bs:List a7s}(o:OkR r bs)(h:r<=20000000):Ok bs:=
 ⟨o.few,λi hi=>⟨o.sh i hi,by have:=o.at_ i hi;lia,by have:=o.at_ i hi;lia⟩,o.vel,o.fix,o.apart⟩
theorem OkR.mono{r q:Int}{bs:List a7s}(o:OkR r bs)(h:r<=q):OkR q bs:=
 ⟨o.few,o.sh,λi hi=>by have:=o.at_ i hi;lia,o.vel,o.fix,o.apart⟩
theorem aR8{bs:List a7s}(o:Ok bs):∀(f:Nat) (stay:List Nat) (met:List (Nat×Nat)),N8 bs stay<f->y9 bs (meetings bs f stay met).2=[]
 |0,_,_,h=>absurd h (a8Q _)
 |f+1,stay,met,h=>by
  by_cases new:y9 bs stay=[]
  ·rw[Q1 new]
   exact new
  ·rw[Q0 new]
   have:=aq9 o new
   exact aR8 o f _ _ (by lia)
def E8(bs:List a7s):List Nat:=(meetings bs (bs.length+1) [] []).2
def aC9(bs:List a7s):List (Nat×Nat):=(meetings bs (bs.length+1) [] []).1
theorem ax8(bs:List a7s):(partOnce bs).1.length=bs.length:=by
 unfold partOnce
 dsimp only
 rw[a7r,a70]
def T5(bs:List a7s)(i:Nat):a7s:=
 if(bodyAt bs i).kind=0 then bodyAt bs i else{bodyAt bs i with at_:=Vbwsam.plus (bodyAt bs i).at_ (going bs (E8 bs) i),v:=⟨behind bs true (edges bs true (aC9 bs)) i,behind bs false (edges bs false (aC9 bs)) i⟩}
theorem U9{bs:List a7s}{i:Nat}(h:i<bs.length):bodyAt (partOnce bs).1 i=T5 bs i:=by
 show(partOnce bs).1.getD i noBody=_
 unfold partOnce
 dsimp only
 rw[a7y,a7t,a9E h]
 rfl
theorem Q7(bs:List a7s)(i:Nat):(T5 bs i).shape=(bodyAt bs i).shape:=by unfold T5;split<;>rfl
theorem ax9(bs:List a7s)(i:Nat):(T5 bs i).kind=(bodyAt bs i).kind:=by unfold T5;split<;>rfl
theorem ak3(bs:List a7s)(i:Nat):(T5 bs i).at_=Vbwsam.plus (bodyAt bs i).at_ (going bs (E8 bs) i):=by
 unfold T5
 split
 ·rename_i h
  have e:going bs (E8 bs) i=zeroPair:=by
   unfold going moves
   rw[if_pos h]
   split<;>rfl
  rw[e]
  unfold Vbwsam.plus zeroPair
  simp
 ·rfl
theorem aY9{bs:List a7s}{r:Int}(o:OkR r bs)(x:Bool)(i:Nat): -1000<=part x (bodyAt bs i).v/\part x (bodyAt bs i).v<=1000:=by
 by_cases hi:i<bs.length
 ·have:=o.vel i hi
  unfold part
  split<;>lia
 ·have e:bodyAt bs i=noBody:=by
   show bs.getD i noBody=_
   rw[a7y,a8y (by lia)]
   rfl
  rw[e]
  unfold part
  split<;>exact⟨by decide,by decide⟩
theorem ak4{bs:List a7s}{r:Int}(o:OkR r bs)(x:Bool)(es:List (Nat×Nat))(i:Nat): -1000<=behind bs x es i/\behind bs x es i<=1000:=by
 have b:=aY9 o x
 unfold behind
 dsimp only
 have bi:=b i
 split
 ·exact bi
 ·split
  ·split
   ·lia
   ·exact⟨by decide,by decide⟩
  ·split
   ·exact b _
   ·split
    ·split
     ·exact b _
     ·exact⟨by decide,by decide⟩
    ·exact⟨by decide,by decide⟩
theorem a4j{bs:List a7s}{r:Int}(o:OkR r bs)(h:r<=20000000):OkR (r+1000) (partOnce bs).1:=by
 have ok:=o.ok h
 have hl:=ax8 bs
 have done:y9 bs (E8 bs)=[]:=aR8 ok _ _ _ (Nat.lt_succ_of_le (aF8 _ _))
 have gb:∀i,i<bs.length->(-1000<=(going bs (E8 bs) i).x/\(going bs (E8 bs) i).x<=1000)/\ -1000<=(going bs (E8 bs) i).y/\(going bs (E8 bs) i).y<=1000:=λi hi=>by
  rcases U4 ok hi (stay:=E8 bs)with e|e<;>rw[e]
  ·exact⟨⟨by decide,by decide⟩,by decide,by decide⟩
  ·exact o.vel i hi
 refine⟨by rw[hl];exact o.few,λi hi=> ?_,λi hi=> ?_,λi hi=> ?_,λi hi hk=> ?_,λi j hij hj=> ?_⟩
 ·rw[hl]at hi
  rw[U9 hi,Q7]
  exact o.sh i hi
 ·rw[hl]at hi
  rw[U9 hi,ak3]
  have a:=o.at_ i hi
  have g:=gb i hi
  show(-(r+1000)<=(bodyAt bs i).at_.x+(going bs (E8 bs) i).x/\(bodyAt bs i).at_.x+(going bs (E8 bs) i).x<=r+1000)/\ -(r+1000)<=(bodyAt bs i).at_.y+(going bs (E8 bs) i).y/\(bodyAt bs i).at_.y+(going bs (E8 bs) i).y<=r+1000
  lia
 ·rw[hl]at hi
  rw[U9 hi]
  unfold T5
  split
  ·exact o.vel i hi
  ·exact⟨ak4 o true _ i,ak4 o false _ i⟩
 ·rw[hl]at hi
  rw[U9 hi,ax9]at hk
  rw[U9 hi]
  unfold T5
  rw[if_pos hk]
  exact o.fix i hi hk
 ·rw[hl]at hj
  have hi:i<bs.length:=by lia
  rw[U9 hi,U9 hj]
  have c:clash bs (E8 bs) i j=false:=by
   cases e:clash bs (E8 bs) i j with
   |false=>rfl
   |true=>
    have:(i,j)∈y9 bs (E8 bs):=a7X.mpr ⟨J1.mpr ⟨hij,hj⟩,e⟩
    rw[done]at this
    cases this
  have si:=o.sh i hi
  have sj:=o.sh j hj
  rw[a9Y]
  intro q
  unfold clashBy at q
  rw[Q7,Q7,ak3,ak3]at q
  have q:swept (bodyAt bs i).shape (bodyAt bs j).shape ⟨(bodyAt bs j).at_.x+(going bs (E8 bs) j).x-((bodyAt bs i).at_.x+(going bs (E8 bs) i).x),(bodyAt bs j).at_.y+(going bs (E8 bs) j).y-((bodyAt bs i).at_.y+(going bs (E8 bs) i).y)⟩ ⟨0,0⟩=true:=q
  rw[S6 si sj]at q
  have e1:(bodyAt bs j).at_.x+(going bs (E8 bs) j).x-((bodyAt bs i).at_.x+(going bs (E8 bs) i).x)=((bodyAt bs j).at_.x-(bodyAt bs i).at_.x)+((going bs (E8 bs) j).x-(going bs (E8 bs) i).x):=by lia
  have e2:(bodyAt bs j).at_.y+(going bs (E8 bs) j).y-((bodyAt bs i).at_.y+(going bs (E8 bs) i).y)=((bodyAt bs j).at_.y-(bodyAt bs i).at_.y)+((going bs (E8 bs) j).y-(going bs (E8 bs) i).y):=by lia
  rw[e1,e2]at q
  have q:=a1V q
  rw[←S6 si sj]at q
  have q:clash bs (E8 bs) i j=true:=q
  rw[c]at q
  cases q
end Mp
namespace Zp
open PySem
open Sem (wp)
theorem ay0(a b c:Value):checkTypeCall "zip" ⟨[a,b,c],[]⟩=pure ():=by kernel_rfl
theorem aD0(a b c:Value):checkBuiltinCall "zip.__new__" ⟨[.type "zip",a,b,c],[]⟩=pure ():=by kernel_rfl
theorem ai0(a b c d:Value):argsOk "object.__init__" ⟨[a,b,c,d],[]⟩:=by
 unfold argsOk;rw[signature?_of (id:="object.__init__") (n:=['_','_','t','i','n','i','_','_']) (o:=['t','c','e','j','b','o']) (by kernel_rfl) F.owner_object];kernel_rfl
abbrev K7(h:Heap)(T:Addr)(a b c:Value):Prop:=h.get? T=some {cls:= .type "tuple",data:= .seq #[a,b,c]}
section
variable{prog:Program}{w:World}{A:Around}{E:Value->Shared->Prop}{s:Shared}
theorem W2{T:Addr}{a b c x:Value}{k:Nat}{Q:Unit->Shared->Prop}(hT:K7 s.heap T a b c)
 (h:∀h',h'.get? T=some {cls:= .type "tuple",data:= .seq ((#[a,b,c]:Array Value).setIfInBounds k x)}->a9B T s.heap h'->Q () {s with heap:=h'}):
 wpAny (model prog w) A (updateSeq T (·.setIfInBounds k x)) Q E s:=by
 refine wpAny_updateSeq hT rfl (h _ ?_ (Heap.SameBut.update ..))
 rw[a9d _ hT rfl]
 simp[Obj.mapSeq]
structure ay1(z TI TO i1 i2 i3 l1 l2 l3:Addr):Prop where
 TIz:TI≠z
 TOz:TO≠z
 i1z:i1≠z
 i2z:i2≠z
 i3z:i3≠z
 TITO:TI≠TO
 TIi1:TI≠i1
 TIi2:TI≠i2
 TIi3:TI≠i3
 TOi1:TO≠i1
 TOi2:TO≠i2
 TOi3:TO≠i3
 i12:i1≠i2
 i13:i1≠i3
 i23:i2≠i3
 l1z:l1≠z
 l1TO:l1≠TO
 l1i1:l1≠i1
 l1i2:l1≠i2
 l1i3:l1≠i3
 l2z:l2≠z
 l2TO:l2≠TO
 l2i1:l2≠i1
 l2i2:l2≠i2
 l2i3:l2≠i3
 l3z:l3≠z
 l3TO:l3≠TO
 l3i1:l3≠i1
 l3i2:l3≠i2
 l3i3:l3≠i3
theorem a1W{z TI TO i1 i2 i3 l1 l2 l3:Addr}{k1 k2 k3:Nat}{xs ys zs:Array Value}{x y u a b c:Value}{Q:Value->Shared->Prop}(D:ay1 z TI TO i1 i2 i3 l1 l2 l3)
 (hz:IsZip s.heap z TI TO .none) (hTI:K7 s.heap TI (.ref i1) (.ref i2) (.ref i3)) (hTO:K7 s.heap TO a b c)
 (h1:s.heap.IsListIter i1 l1 k1) (h2:s.heap.IsListIter i2 l2 k2) (h3:s.heap.IsListIter i3 l3 k3) (hl1:s.heap.IsList l1 xs) (hl2:s.heap.IsList l2 ys) (hl3:s.heap.IsList l3 zs) (hx:xs[k1]? =some x) (hy:ys[k2]? =some y) (hu:zs[k3]? =some u)
 (hQ:∀h',IsZip h' z TI TO (rawInt s.heap.objs.size)->K7 h' TO x y u->h'.IsListIter i1 l1 (k1+1)->h'.IsListIter i2 l2 (k2+1)->h'.IsListIter i3 l3 (k3+1)->K7 h' s.heap.objs.size x y u->h'.objs.size=s.heap.objs.size+1->
  (∀c o,c≠z->c≠TO->c≠i1->c≠i2->c≠i3->s.heap.get? c=some o->h'.get? c=some o)->Q (.ref s.heap.objs.size) {s with heap:=h'}):
 wpAny (model prog w) A (Builtin.«zip.__next__» ⟨[.ref z],[]⟩) (λO3 s'=>∃v,O3= .done (.ret v)/\Q v s') E s:=by
 show wpAny _ _ (field (.ref z) 2>>=_) _ _ _
 refine wpAny_bind (wpAny_field hz rfl (x:= .bool false) rfl ?_)
 show wpAny _ _ (field (.ref z) 3>>=_) _ _ _
 refine wpAny_bind (wpAny_field hz rfl (x:= .ref TI) rfl ?_)
 refine wpAny_bind (wpAny_seqItems hTI rfl ?_)
 show wpAny _ _ (Builtin.SmallTypes.ownedTupleIsFree (.ref z)>>=_) _ _ _
 refine wpAny_bind ?_
 unfold Builtin.SmallTypes.ownedTupleIsFree
 refine wpAny_bind (wpAny_field hz rfl (x:= .none) rfl (wpAny_pure ?_))
 simp only[if_true]
 refine wpAny_bind (wpAny_rule ?_)
 refine wpAny_bind (wpAny_field hz rfl (x:= .ref TO) rfl ?_)
 refine wpAny_bind (wpAny_setField_rec hz (by simp) λh₁ hz₁ hs₁=> ?_)
 replace hz₁:IsZip h₁ z TI TO .ellipsis:=hz₁
 refine wpAny_bind ?_
 simp only[List.zipIdx_cons,List.zipIdx_nil,a9v,a9o]
 refine wpAny_bind (wpAny_bind (wpAny_onRaise ?_))
 show wpAny _ _ (Builtin.SmallTypes.nextOf (.ref i1)>>=_) _ _ _
 refine wpAny_bind (wpAny_nextOf_list_item (h1.extBut hs₁.extBut D.i1z) (hl1.extBut hs₁.extBut D.l1z) hx λh₂ h1₂ hs₂=>wpAny_pure ?_)
 have hTO₂:K7 h₂ TO a b c:=hs₂.extBut _ _ D.TOi1 (hs₁.extBut _ _ D.TOz hTO)
 refine wpAny_bind (wpAny_seqItems hTO₂ rfl ?_)
 refine wpAny_bind (W2 hTO₂ λh₃ hTO₃ hs₃=> ?_)
 replace hTO₃:K7 h₃ TO x b c:=hTO₃
 refine wpAny_bind (wpAny_letGo (wpAny_pure ?_))
 refine wpAny_bind (wpAny_bind (wpAny_onRaise ?_))
 show wpAny _ _ (Builtin.SmallTypes.nextOf (.ref i2)>>=_) _ _ _
 refine wpAny_bind (wpAny_nextOf_list_item (((h2.extBut hs₁.extBut D.i2z).extBut hs₂.extBut D.i12.symm).extBut hs₃.extBut D.TOi2.symm)
  (((hl2.extBut hs₁.extBut D.l2z).extBut hs₂.extBut D.l2i1).extBut hs₃.extBut D.l2TO) hy λh₄ h2₄ hs₄=>wpAny_pure ?_)
 have hTO₄:K7 h₄ TO x b c:=hs₄.extBut _ _ D.TOi2 hTO₃
 refine wpAny_bind (wpAny_seqItems hTO₄ rfl ?_)
 refine wpAny_bind (W2 hTO₄ λh₅ hTO₅ hs₅=> ?_)
 replace hTO₅:K7 h₅ TO x y c:=hTO₅
 refine wpAny_bind (wpAny_letGo (wpAny_pure ?_))
 refine wpAny_bind (wpAny_bind (wpAny_onRaise ?_))
 show wpAny _ _ (Builtin.SmallTypes.nextOf (.ref i3)>>=_) _ _ _
 refine wpAny_bind (wpAny_nextOf_list_item (((((h3.extBut hs₁.extBut D.i3z).extBut hs₂.extBut D.i13.symm).extBut hs₃.extBut D.TOi3.symm).extBut hs₄.extBut D.i23.symm).extBut hs₅.extBut D.TOi3.symm)
  (((((hl3.extBut hs₁.extBut D.l3z).extBut hs₂.extBut D.l3i1).extBut hs₃.extBut D.l3TO).extBut hs₄.extBut D.l3i2).extBut hs₅.extBut D.l3TO) hu λh₆ h3₆ hs₆=>wpAny_pure ?_)
 have hTO₆:K7 h₆ TO x y c:=hs₆.extBut _ _ D.TOi3 hTO₅
 refine wpAny_bind (wpAny_seqItems hTO₆ rfl ?_)
 refine wpAny_bind (W2 hTO₆ λh₇ hTO₇ hs₇=> ?_)
 replace hTO₇:K7 h₇ TO x y u:=hTO₇
 refine wpAny_bind (wpAny_letGo (wpAny_pure (wpAny_pure ?_)))
 refine wpAny_bind (wpAny_seqItems hTO₇ rfl ?_)
 refine wpAny_bind (wpAny_newTuple ?_)
 have hsz:h₇.objs.size=s.heap.objs.size:=by rw[hs₇.1,hs₆.1,hs₅.1,hs₄.1,hs₃.1,hs₂.1,hs₁.1]
 have hz₇:IsZip h₇ z TI TO .ellipsis:=hs₇.extBut _ _ D.TOz.symm (hs₆.extBut _ _ D.i3z.symm (hs₅.extBut _ _ D.TOz.symm (hs₄.extBut _ _ D.i2z.symm (hs₃.extBut _ _ D.TOz.symm (hs₂.extBut _ _ D.i1z.symm hz₁)))))
 have hk₇:∀c o,c≠z->c≠TO->c≠i1->c≠i2->c≠i3->s.heap.get? c=some o->h₇.get? c=some o:=λc o c1 c2 c3 c4 c5 e=>
  hs₇.extBut _ _ c2 (hs₆.extBut _ _ c5 (hs₅.extBut _ _ c2 (hs₄.extBut _ _ c4 (hs₃.extBut _ _ c2 (hs₂.extBut _ _ c3 (hs₁.extBut _ _ c1 e))))))
 have h1₇:h₇.IsListIter i1 l1 (k1+1):=((((h1₂.extBut hs₃.extBut D.TOi1.symm).extBut hs₄.extBut D.i12).extBut hs₅.extBut D.TOi1.symm).extBut hs₆.extBut D.i13).extBut hs₇.extBut D.TOi1.symm
 have h2₇:h₇.IsListIter i2 l2 (k2+1):=((h2₄.extBut hs₅.extBut D.TOi2.symm).extBut hs₆.extBut D.i23).extBut hs₇.extBut D.TOi2.symm
 have h3₇:h₇.IsListIter i3 l3 (k3+1):=h3₆.extBut hs₇.extBut D.TOi3.symm
 have hzlt:z<h₇.objs.size:=a7I hz₇
 show wpAny _ _ (Builtin.SmallTypes.ownedTupleHandOut (.ref z) (.ref h₇.objs.size)>>=_) _ _ _
 refine wpAny_bind ?_
 unfold Builtin.SmallTypes.ownedTupleHandOut
 have hz₈:IsZip (h₇.push {cls:= .type "tuple",data:= .seq #[x,y,u]}) z TI TO .ellipsis:=a7w _ hz₇
 refine wpAny_bind (wpAny_setField_rec hz₈ (by simp) λh₉ hz₉ hs₉=> ?_)
 replace hz₉:IsZip h₉ z TI TO (rawInt h₇.objs.size):=hz₉
 refine wpAny_setField_rec hz₉ (by simp) λhA hzA hsA=> ?_
 replace hzA:IsZip hA z TI TO (rawInt h₇.objs.size):=hzA
 have up:∀c o,c≠z->h₇.get? c=some o->hA.get? c=some o:=λc o c1 e=>hsA.extBut _ _ c1 (hs₉.extBut _ _ c1 (a7w _ e))
 have hTA:K7 hA h₇.objs.size x y u:=hsA.extBut _ _ (a8O hzlt) (hs₉.extBut _ _ (a8O hzlt) (a7P _ rfl))
 have hzs:hA.objs.size=h₇.objs.size+1:=by rw[hsA.1,hs₉.1,a8i]
 rw[hsz]at hzA hTA hzs
 refine wpAny_pure ⟨_,rfl,?_⟩
 show Q (.ref h₇.objs.size) _
 rw[hsz]
 exact hQ hA hzA (up _ _ D.TOz hTO₇) (h1₇.at λo e=>up _ o D.i1z e) (h2₇.at λo e=>up _ o D.i2z e) (h3₇.at λo e=>up _ o D.i3z e) hTA hzs λc o c1 c2 c3 c4 c5 e=>up c o c1 (hk₇ c o c1 c2 c3 c4 c5 e)
theorem a23{z TI TO i1 i2 i3 l1 l2 l3:Addr}{k1 k2 k3:Nat}{xs ys zs:Array Value}{a b c:Value}{Q:Fin->Shared->Prop}(hh:A.handled=none)(D:ay1 z TI TO i1 i2 i3 l1 l2 l3)
 (hz:IsZip s.heap z TI TO .none) (hTI:K7 s.heap TI (.ref i1) (.ref i2) (.ref i3)) (hTO:K7 s.heap TO a b c)
 (h1:s.heap.IsListIter i1 l1 k1) (hl1:s.heap.IsList l1 xs) (hend:xs[k1]? =none)
 (hE:∀h' e,(∀c o,c≠z->c≠TO->c≠i1->c≠i2->c≠i3->s.heap.get? c=some o->h'.get? c=some o)->(∃o,h'.get? e=some o/\o.cls= .type "StopIteration")->E (.ref e) {s with heap:=h'}):
 wpAny (model prog w) A (Builtin.«zip.__next__» ⟨[.ref z],[]⟩) Q E s:=by
 show wpAny _ _ (field (.ref z) 2>>=_) _ _ _
 refine wpAny_bind (wpAny_field hz rfl (x:= .bool false) rfl ?_)
 show wpAny _ _ (field (.ref z) 3>>=_) _ _ _
 refine wpAny_bind (wpAny_field hz rfl (x:= .ref TI) rfl ?_)
 refine wpAny_bind (wpAny_seqItems hTI rfl ?_)
 show wpAny _ _ (Builtin.SmallTypes.ownedTupleIsFree (.ref z)>>=_) _ _ _
 refine wpAny_bind ?_
 unfold Builtin.SmallTypes.ownedTupleIsFree
 refine wpAny_bind (wpAny_field hz rfl (x:= .none) rfl (wpAny_pure ?_))
 simp only[if_true]
 refine wpAny_bind (wpAny_rule ?_)
 refine wpAny_bind (wpAny_field hz rfl (x:= .ref TO) rfl ?_)
 refine wpAny_bind (wpAny_setField_rec hz (by simp) λh₁ hz₁ hs₁=> ?_)
 replace hz₁:IsZip h₁ z TI TO .ellipsis:=hz₁
 refine wpAny_bind ?_
 simp only[List.zipIdx_cons,List.zipIdx_nil,a9v,a9o]
 refine wpAny_bind (wpAny_bind (wpAny_onRaise ?_))
 show wpAny _ _ (Builtin.SmallTypes.nextOf (.ref i1)>>=_) _ _ _
 refine wpAny_bind (wpAny_nextOf_list_end hh (h1.extBut hs₁.extBut D.i1z) (hl1.extBut hs₁.extBut D.l1z) hend λh₂ e hs₂ he=> ?_)
 obtain⟨oe,hoe,hce⟩:=he
 have hz₂:IsZip h₂ z TI TO .ellipsis:=hs₂ _ _ D.i1z.symm hz₁
 have hez:e≠z:=λx=>by subst x;rw[hz₂]at hoe;cases hoe;simp at hce
 exact wpAny_setField_rec hz₂ (by simp) λh₃ _ hs₃=>hE h₃ e (λc o c1 _ c3 _ _ x=>hs₃.extBut _ _ c1 (hs₂ _ _ c3 (hs₁.extBut _ _ c1 x))) ⟨oe,hs₃.extBut _ _ hez hoe,hce⟩
theorem aR9{z TI TO i1 i2 i3 l1 l2 l3:Addr}{k1 k2 k3:Nat}{xs ys zs:Array Value}{x y u a b c:Value}{Q:Option Value->Shared->Prop}(D:ay1 z TI TO i1 i2 i3 l1 l2 l3)
 (hz:IsZip s.heap z TI TO .none) (hTI:K7 s.heap TI (.ref i1) (.ref i2) (.ref i3)) (hTO:K7 s.heap TO a b c)
 (h1:s.heap.IsListIter i1 l1 k1) (h2:s.heap.IsListIter i2 l2 k2) (h3:s.heap.IsListIter i3 l3 k3) (hl1:s.heap.IsList l1 xs) (hl2:s.heap.IsList l2 ys) (hl3:s.heap.IsList l3 zs) (hx:xs[k1]? =some x) (hy:ys[k2]? =some y) (hu:zs[k3]? =some u)
 (hQ:∀h',IsZip h' z TI TO (rawInt s.heap.objs.size)->K7 h' TO x y u->h'.IsListIter i1 l1 (k1+1)->h'.IsListIter i2 l2 (k2+1)->h'.IsListIter i3 l3 (k3+1)->K7 h' s.heap.objs.size x y u->h'.objs.size=s.heap.objs.size+1->
  (∀c o,c≠z->c≠TO->c≠i1->c≠i2->c≠i3->s.heap.get? c=some o->h'.get? c=some o)->Q (some (.ref s.heap.objs.size)) {s with heap:=h'}):
 wpAny (model prog w) A (pyNext (.ref z)) Q E s:=by
 have hT:s.TypeIs (.ref z) "zip":=⟨_,hz,rfl⟩
 unfold pyNext
 exact wpAny_bind (wpAny_attempt (wpAny_callSpecial?_slot (name:=Str.ofString "__next__") hT F.slot_zip_next
  (wpAny_call_entry F.slot_zip_next hT F.entry_zip_next
   (a1W D hz hTI hTO h1 h2 h3 hl1 hl2 hl3 hx hy hu λh' a1 a2 a3 a4 a5 a6 a7 a8=>wpAny_pure (hQ h' a1 a2 a3 a4 a5 a6 a7 a8)) (F.args_zip_next_1 _))))
theorem aZ0{z TI TO i1 i2 i3 l1 l2 l3:Addr}{k1:Nat}{xs:Array Value}{a b c:Value}{Q:Option Value->Shared->Prop}(hh:A.handled=none)(D:ay1 z TI TO i1 i2 i3 l1 l2 l3)
 (hz:IsZip s.heap z TI TO .none) (hTI:K7 s.heap TI (.ref i1) (.ref i2) (.ref i3)) (hTO:K7 s.heap TO a b c)
 (h1:s.heap.IsListIter i1 l1 k1) (hl1:s.heap.IsList l1 xs) (hend:xs[k1]? =none)
 (hQ:∀h',(∀c o,c≠z->c≠TO->c≠i1->c≠i2->c≠i3->s.heap.get? c=some o->h'.get? c=some o)->Q none {s with heap:=h'}):wpAny (model prog w) A (pyNext (.ref z)) Q E s:=by
 have hT:s.TypeIs (.ref z) "zip":=⟨_,hz,rfl⟩
 unfold pyNext
 refine wpAny_bind (wpAny_attempt (wpAny_callSpecial?_slot (name:=Str.ofString "__next__") hT F.slot_zip_next
  (wpAny_call_entry F.slot_zip_next hT F.entry_zip_next (a23 (k2:=0) (k3:=0) (ys:= #[]) (zs:= #[]) hh D hz hTI hTO h1 hl1 hend λh' e hk he=> ?_) (F.args_zip_next_1 _))))
 obtain⟨o,ho,hc⟩:=he
 refine wpAny_bind (wpAny_isInstance (T:="StopIteration") (b:=true) ⟨o,ho,hc⟩ isSubtype_stop ?_)
 exact wpAny_pure (hQ _ hk)
end
abbrev zH1(h:Heap)(l1:Addr):Heap:=h.push {cls:= .type "list_iterator",data:= .fields #[.ref l1,.int 0 0]}
abbrev zH2(h:Heap)(l1 l2:Addr):Heap:=(zH1 h l1).push {cls:= .type "list_iterator",data:= .fields #[.ref l2,.int 0 0]}
abbrev zH3(h:Heap)(l1 l2 l3:Addr):Heap:=(zH2 h l1 l2).push {cls:= .type "list_iterator",data:= .fields #[.ref l3,.int 0 0]}
abbrev zH4(h:Heap)(l1 l2 l3:Addr):Heap:=(zH3 h l1 l2 l3).push {cls:= .type "tuple",data:= .seq #[.ref h.objs.size,.ref (zH1 h l1).objs.size,.ref (zH2 h l1 l2).objs.size]}
abbrev zH5(h:Heap)(l1 l2 l3:Addr):Heap:=(zH4 h l1 l2 l3).push {cls:= .type "tuple",data:= .seq #[.none,.none,.none]}
abbrev zH6(h:Heap)(l1 l2 l3:Addr):Heap:=(zH5 h l1 l2 l3).push {cls:= .type "zip",data:= .fields #[.none,.bool false,.bool false,.ref (zH3 h l1 l2 l3).objs.size,.ref (zH4 h l1 l2 l3).objs.size]}
theorem a1X(l1 l2 l3:Addr)(xs ys zs:Array Value):
 Meets (Builtin.«zip.__new__» ⟨[.type "zip",.ref l1,.ref l2,.ref l3],[]⟩) (λ_ R s=>s.heap.IsList l1 xs/\s.heap.IsList l2 ys/\s.heap.IsList l3 zs/\
  R (.ok (.ret (.ref (zH5 s.heap l1 l2 l3).objs.size))) {s with heap:=zH6 s.heap l1 l2 l3}):=
 .of_wp λprog w A R s h=>by
  obtain⟨hp,g,d,tk,os⟩:=s;obtain⟨hl1,hl2,hl3,h⟩:=h
  have hsub:=sub_zip
  have hL1:a92 (Shared.heap ⟨hp,g,d,tk,os⟩) l1 xs:=hl1
  have hL2:a92 (Shared.heap ⟨hp.push {cls:= .type "list_iterator",data:= .fields #[.ref l1,.int 0 0]},g,d,tk,os⟩) l2 ys:=Heap.IsList.push hl2 _
  have hL3:a92 (Shared.heap ⟨(hp.push {cls:= .type "list_iterator",data:= .fields #[.ref l1,.int 0 0]}).push {cls:= .type "list_iterator",data:= .fields #[.ref l2,.int 0 0]},g,d,tk,os⟩) l3 zs:=Heap.IsList.push (Heap.IsList.push hl3 _) _
  wp_walk using wpAny_pyIter_list hL1,wpAny_pyIter_list hL2,wpAny_pyIter_list hL3
  exact⟨_,rfl,h⟩
section
variable{prog:Program}{w:World}{A:Around}{E:Value->Shared->Prop}{s:Shared}
theorem aZ1{l1 l2 l3:Addr}{xs ys zs:Array Value}{Q:Value->Shared->Prop}(hl1:s.heap.IsList l1 xs)(hl2:s.heap.IsList l2 ys)(hl3:s.heap.IsList l3 zs)
 (h:∀h',IsZip h' (s.heap.objs.size+5) (s.heap.objs.size+3) (s.heap.objs.size+4) .none->K7 h' (s.heap.objs.size+3) (.ref s.heap.objs.size) (.ref (s.heap.objs.size+1)) (.ref (s.heap.objs.size+2))->
  K7 h' (s.heap.objs.size+4) .none .none .none->h'.IsListIter s.heap.objs.size l1 0->h'.IsListIter (s.heap.objs.size+1) l2 0->h'.IsListIter (s.heap.objs.size+2) l3 0->h'.objs.size=s.heap.objs.size+6->
  (∀c o,s.heap.get? c=some o->h'.get? c=some o)->Q (.ref (s.heap.objs.size+5)) {s with heap:=h'}):
 wpAny (model prog w) A (call (.type "zip") [.ref l1,.ref l2,.ref l3]) Q E s:=by
 refine callType_new F.called_zip (by decide) (ay0 _ _ _) (aD0 _ _ _) (λobj=>ai0 obj _ _ _) F.entry_zip_new
  (a1X l1 l2 l3 xs ys zs) ⟨hl1,hl2,hl3,?_⟩
 have z1:(zH1 s.heap l1).objs.size=s.heap.objs.size+1:=a8i ..
 have z2:(zH2 s.heap l1 l2).objs.size=s.heap.objs.size+2:=by rw[a8i,z1]
 have z3:(zH3 s.heap l1 l2 l3).objs.size=s.heap.objs.size+3:=by rw[a8i,z2]
 have z4:(zH4 s.heap l1 l2 l3).objs.size=s.heap.objs.size+4:=by rw[a8i,z3]
 have z5:(zH5 s.heap l1 l2 l3).objs.size=s.heap.objs.size+5:=by rw[a8i,z4]
 have z6:(zH6 s.heap l1 l2 l3).objs.size=s.heap.objs.size+6:=by rw[a8i,z5]
 have g6:(zH6 s.heap l1 l2 l3).get? (zH5 s.heap l1 l2 l3).objs.size=some _:=a7P _ rfl
 have g5:(zH6 s.heap l1 l2 l3).get? (zH4 s.heap l1 l2 l3).objs.size=some _:=a7w _ (a7P _ rfl)
 have g4:(zH6 s.heap l1 l2 l3).get? (zH3 s.heap l1 l2 l3).objs.size=some _:=a7w _ (a7w _ (a7P _ rfl))
 have g3:(zH6 s.heap l1 l2 l3).get? (zH2 s.heap l1 l2).objs.size=some _:=a7w _ (a7w _ (a7w _ (a7P _ rfl)))
 have g2:(zH6 s.heap l1 l2 l3).get? (zH1 s.heap l1).objs.size=some _:=a7w _ (a7w _ (a7w _ (a7w _ (a7P _ rfl))))
 have g1:(zH6 s.heap l1 l2 l3).get? s.heap.objs.size=some _:=a7w _ (a7w _ (a7w _ (a7w _ (a7w _ (a7P _ rfl)))))
 show _/\_
 rw[z3,z4,z5]at g6
 rw[z1,z2,z3]at g4
 rw[z4]at g5
 rw[z2]at g3
 rw[z1]at g2
 rw[z5]
 exact⟨⟨_,g6,rfl⟩,h _ g6 g4 g5 ⟨_,g1,rfl,rfl⟩ ⟨_,g2,rfl,rfl⟩ ⟨_,g3,rfl,rfl⟩ z6 λc o x=>
  a7w _ (a7w _ (a7w _ (a7w _ (a7w _ (a7w _ x)))))⟩
end
end Zp
namespace Mp
open PySem PySem.Spec PyProof.Rows L2
def a24(K:Frag)(a b c:Addr):It:=
 ⟨λi H=>∃(xs ys zs:List V) (x y z:V),n9 K H a xs/\n9 K H b ys/\n9 K H c zs/\xs[i]? =some x/\ys[i]? =some y/\zs[i]? =some z,
  λi H v H'=>∃T x y z,v= .ref T/\H T=none/\H'=A6 H T (.tup [x,y,z])/\(∀xs,n9 K H a xs->xs[i]? =some x)/\(∀ys,n9 K H b ys->ys[i]? =some y)/\∀zs,n9 K H c zs->zs[i]? =some z,
  λi H=>∃xs:List V,n9 K H a xs/\xs.length<=i⟩
theorem a1Y{P:Program}{w:World}{K:Frag}{elts:List Expr}{kk:Nat}{tpos:Pos}{a b c z TI TO i1 i2 i3:Addr}(D:Zp.ay1 z TI TO i1 i2 i3 a b c):
 aV5 P w K (.Tuple elts kk tpos) (a24 K a b c) [z,TI,TO,i1,i2,i3] z (λi h=>IsZip h z TI TO .none/\Zp.K7 h TI (.ref i1) (.ref i2) (.ref i3)/\(∃x y u,Zp.K7 h TO x y u)/\h.IsListIter i1 a i/\h.IsListIter i2 b i/\h.IsListIter i3 c i)where
 mem:=by simp
 obj:=λi h st d hc=>by
  obtain⟨hz,hTI,⟨x,y,u,hTO⟩,⟨o1,e1,_,d1⟩,⟨o2,e2,_,d2⟩,⟨o3,e3,_,d3⟩⟩:=st
  have e':d=z\/d=TI\/d=TO\/d=i1\/d=i2\/d=i3:=by simpa using hc
  rcases e' with q|q|q|q|q|q
  ·rw[q];exact⟨_,hz,λv q=>nomatch q⟩
  ·rw[q];exact⟨_,hTI,λv q=>nomatch q⟩
  ·rw[q];exact⟨_,hTO,λv q=>nomatch q⟩
  ·rw[q];exact⟨o1,e1,λv q=>by rw[d1]at q;cases q⟩
  ·rw[q];exact⟨o2,e2,λv q=>by rw[d2]at q;cases q⟩
  ·rw[q];exact⟨o3,e3,λv q=>by rw[d3]at q;cases q⟩
 keep:=λi h h' st k=>by
  obtain⟨hz,hTI,⟨x,y,u,hTO⟩,h1,h2,h3⟩:=st
  exact⟨k z (by simp) _ hz,k TI (by simp) _ hTI,⟨x,y,u,k TO (by simp) _ hTO⟩,h1.at λo q=>k i1 (by simp) o q,h2.at λo q=>k i2 (by simp) o q,h3.at λo q=>k i3 (by simp) o q⟩
 item:=by
  intro X hP hw hK hc i a7q s U H E I hf st hg
  subst hP hw hK
  obtain⟨hz,hTI,⟨x0,y0,u0,hTO⟩,h1,h2,h3⟩:=st
  obtain⟨xs,ys,zs,x,y,v,hqx,hqy,hqz,hx,hy,hv⟩:=hg
  obtain⟨its,rv,p,_⟩:=I.list hqx
  obtain⟨its2,rv2,p2,_⟩:=I.list hqy
  obtain⟨its3,rv3,p3,_⟩:=I.list hqz
  obtain⟨u,hu,ru⟩:=rv.get hx
  obtain⟨u2,hu2,ru2⟩:=rv2.get hy
  obtain⟨u3,hu3,ru3⟩:=rv3.get hv
  have hzl:z<s.heap.objs.size:=a7I hz
  refine Zp.aR9 D hz hTI hTO h1 h2 h3 p.isList p2.isList p3.isList (x:=u) (y:=u2) (u:=u3) (by simpa using hu) (by simpa using hu2) (by simpa using hu3) λh' z' TO' h1' h2' h3' hT hsz hk=> ?_
  refine⟨_,rfl,wpAny_letOwnedTupleGo_zip (s:={s with heap:=h'}) z' λh'' z'' sb=> ?_⟩
  have hT2:h''.get? s.heap.objs.size=some {cls:= .type "tuple",data:= .seq #[u,u2,u3]}:=(sb.2 _ (a8O hzl)).trans hT
  have new:E7 X.prog X.w (A6 H s.heap.objs.size (.tup [x,y,v])) h'' s.heap.objs.size (.tup [x,y,v]):=
   ⟨by show 3<=sizeLine;decide,[u,u2,u3],.cons ru (.cons ru2 (.cons ru3 .nil)),⟨_,hT2,rfl,_,rfl⟩⟩
  have I1:v9 X a7q U (A6 H s.heap.objs.size (.tup [x,y,v])) {s with heap:=h''}:=
   I.turnedNew (t':=s.toks) (ch:=[z,TI,TO,i1,i2,i3]) (λd o hb q=>(sb.2 d (λq'=>hb (by simp[q']))).trans (hk d o (λq'=>hb (by simp[q'])) (λq'=>hb (by simp[q'])) (λq'=>hb (by simp[q'])) (λq'=>hb (by simp[q'])) (λq'=>hb (by simp[q'])) q)) hf (a7A _) new
  refine⟨.ref s.heap.objs.size,_,I1,rfl,⟨_,x,y,v,rfl,I.hok.fresh (a7A _),rfl,λl hl=>by rw[I.list_inj hl hqx];exact hx,λl hl=>by rw[I.list_inj hl hqy];exact hy,λl hl=>by rw[I.list_inj hl hqz];exact hv⟩,⟨z'',?_,⟨u,u2,u3,?_⟩,?_,?_,?_⟩,λd hcm=> ?_⟩
  ·exact(sb.2 _ D.TIz).trans (hk _ _ D.TIz D.TITO D.TIi1 D.TIi2 D.TIi3 hTI)
  ·exact(sb.2 _ D.TOz).trans TO'
  ·exact h1'.at λo q=>(sb.2 _ D.i1z).trans q
  ·exact h2'.at λo q=>(sb.2 _ D.i2z).trans q
  ·exact h3'.at λo q=>(sb.2 _ D.i3z).trans q
  ·have hlt:d<s.heap.objs.size:=by
    have e':d=z\/d=TI\/d=TO\/d=i1\/d=i2\/d=i3:=by simpa using hcm
    rcases e' with q|q|q|q|q|q
    ·rw[q];exact hzl
    ·rw[q];exact a7I hTI
    ·rw[q];exact a7I hTO
    ·rw[q];obtain⟨_,e1,_⟩:=h1;exact a7I e1
    ·rw[q];obtain⟨_,e2,_⟩:=h2;exact a7I e2
    ·rw[q];obtain⟨_,e3,_⟩:=h3;exact a7I e3
   rw[j6 (a7L hlt)]
   exact(hf d hcm).1
 done:=by
  intro X hP hw hK hc i a7q s U H E I hf st hg
  subst hP hw hK
  obtain⟨hz,hTI,⟨x0,y0,u0,hTO⟩,h1,h2,h3⟩:=st
  obtain⟨xs,hqx,hend⟩:=hg
  obtain⟨its,rv,p,_⟩:=I.list hqx
  have l1:=rv.length
  exact Zp.aZ0 (I.ok.hd hc) D hz hTI hTO h1 p.isList (by simp;lia) λh' hk=>⟨rfl,I.turnedL (t':=s.toks) (ch:=[z,TI,TO,i1,i2,i3]) (λd o hb q=>
   hk d o (λq'=>hb (by simp[q'])) (λq'=>hb (by simp[q'])) (λq'=>hb (by simp[q'])) (λq'=>hb (by simp[q'])) (λq'=>hb (by simp[q'])) q) hf⟩
 self:=λA i s Q E st h=>wpAny_pyIter_zip st.1 h
theorem a25(n a b c:Nat)(la:a<n)(lb:b<n)(lc:c<n):Zp.ay1 (n+5) (n+3) (n+4) n (n+1) (n+2) a b c:=by
 constructor<;>(intro q;have q: @Eq Nat _ _:=q;lia)
def a6E(K:Frag)(ta:TA):TI:=λU H R=>ta U H λvs H1=>∃a b c xs ys zs,vs=[.ref a,.ref b,.ref c]/\n9 K H1 a xs/\n9 K H1 b ys/\n9 K H1 c zs/\R (a24 K a b c) H1
theorem a4k{X:Cx}{e e2 e3:Expr}{ta:TA}{p pos tpos:Pos}{elts:List Expr}{kk:Nat}(hg:Gl X "zip")(hm:X.mg "zip"=none)(ha:PA X [e,e2,e3] ta)
 (hs:starEach [e,e2,e3] X.env=(false,eval e X.env)::starEach [e2,e3] X.env:=by rfl) (hpl:(backTo pos (starEach [e2,e3] X.env)).any (·.1)=false:=by rfl):
 PI X (.Tuple elts kk tpos) (.Call (.Name "zip" p) [e,e2,e3] [] pos) (a6E X.K ta):=by
 intro a7q s U H R I h
 refine Call_ (X9 I hg hm an3 (PyProof.Rows.callWith_type1 (F8 (ha pos a7q s U H _ I h) λus s1 ⟨vs,H1,I1,r1,q1⟩=> ?_) hs hpl))
 obtain⟨a,b,c,xs,ys,zs,ex,hqx,hqy,hqz,q⟩:=q1
 subst ex
 cases r1 with
 |cons r rr=>
  cases rr with
  |cons r' rr=>
   cases rr with
   |cons r'' rr=>
    cases rr
    cases r
    cases r'
    cases r''
    obtain⟨its,rv,p1,_⟩:=I1.list hqx
    obtain⟨its2,rv2,p2,_⟩:=I1.list hqy
    obtain⟨its3,rv3,p3,_⟩:=I1.list hqz
    have la:a<s1.heap.objs.size:=p1.lt
    have lb:b<s1.heap.objs.size:=p2.lt
    have lc:c<s1.heap.objs.size:=p3.lt
    refine Zp.aZ1 p1.isList p2.isList p3.isList λh' hz hTI hTO h1 h2 h3 hsz hk=>wpAny_pyIter_zip hz ?_
    have I2:v9 X a7q U H1 {s1 with heap:=h'}:=I1.kept (t':=s1.toks) hk
    have D:Zp.ay1 (s1.heap.objs.size+5) (s1.heap.objs.size+3) (s1.heap.objs.size+4) s1.heap.objs.size (s1.heap.objs.size+1) (s1.heap.objs.size+2) a b c:=by
     exact a25 _ a b c la lb lc
    refine⟨s1.heap.objs.size+5,[s1.heap.objs.size+5,s1.heap.objs.size+3,s1.heap.objs.size+4,s1.heap.objs.size,s1.heap.objs.size+1,s1.heap.objs.size+2],_,_,H1,rfl,I2,a1Y D,⟨hz,hTI,⟨_,_,_,hTO⟩,h1,h2,h3⟩,λd hcm=> ?_,q⟩
    have e':d=s1.heap.objs.size+5\/d=s1.heap.objs.size+3\/d=s1.heap.objs.size+4\/d=s1.heap.objs.size\/d=s1.heap.objs.size+1\/d=s1.heap.objs.size+2:=by simpa using hcm
    have hle:s1.heap.objs.size<=d:=by
     rcases e' with z|z|z|z|z|z
     ·rw[z];exact a8M _ _
     ·rw[z];exact a8M _ _
     ·rw[z];exact a8M _ _
     ·rw[z];exact a7A _
     ·rw[z];exact a8M _ _
     ·rw[z];exact a8M _ _
    exact I1.fpOk hle (I1.hok.fresh hle)
theorem a26{K:Frag}{a b c:Addr}{xs ys zs:List V}{g:TG}{tb:TS}{D:au6}{U:L2.St}{H:Hp}(Pv:Nat->L2.St->Hp->Prop)(h0:Pv 0 U H)(hl:∀i U H,i<=xs.length->Pv i U H->n9 K H a xs/\n9 K H b ys/\n9 K H c zs)(hxy:ys.length=xs.length)(hxz:zs.length=xs.length)
 (hs:∀(i:Nat) (x y z:V) (U:L2.St) (H G:Hp) (T:Addr),xs[i]? =some x->ys[i]? =some y->zs[i]? =some z->Pv i U H->f9 H G->H T=Option.none->G T=some (.tup [x,y,z])->g (.ref T) U G λσ2 H2=>tb {D with nx:=Pv (i+1),ct:=Pv (i+1),bk:=D.nx} σ2 H2) (hd:∀U H,Pv xs.length U H->D.nx U H):
 ∃W:Nat->Nat->L2.St->Hp->Prop,(∃m,W 0 m U H)/\∀i m U H,W i m U H->
  ((a24 K a b c).stop i H/\D.nx U H)\/((a24 K a b c).go i H/\∃N:L2.St->Hp->Prop,(∀σ' H',N σ' H'->∃m',m'<m/\W (i+1) m' σ' H')/\∀x H',(a24 K a b c).yld i H x H'->g x U H' λσ2 H2=>tb {D with nx:=N,ct:=N,bk:=D.nx} σ2 H2):=by
 refine⟨λi m U H=>m=xs.length-i/\i<=xs.length/\Pv i U H,⟨xs.length,by simp,a8n _,h0⟩,?_⟩
 rintro i m U H ⟨rfl,hi,p⟩
 obtain⟨qx,qy,qz⟩:=hl i U H hi p
 by_cases hlt:i<xs.length
 ·have hlt2:i<ys.length:=by lia
  have hlt3:i<zs.length:=by lia
  refine .inr ⟨⟨xs,ys,zs,xs[i],ys[i],zs[i],qx,qy,qz,by simp[hlt],by simp[hlt2],by simp[hlt3]⟩,Pv (i+1),λσ' H' p'=>⟨xs.length-(i+1),by lia,rfl,hlt,p'⟩,λv H' yl=> ?_⟩
  obtain⟨T,x,y,z,rfl,nT,rfl,ex,ey,ez⟩:=yl
  exact hs i x y z U H _ T (ex xs qx) (ey ys qy) (ez zs qz) p (f9.new nT) nT i8
 ·have e:i=xs.length:=by lia
  subst e
  exact .inl ⟨⟨xs,qx,a7A _⟩,hd U H p⟩
theorem aZ2{X:Cx}{x y z:Str}{i j k kk:Nat}{px py pz pos:Pos}(K:Frag)(hK:X.K=K)(hc:X.calm=true)(hN:X.N.Nodup)(hi:X.N[i]? =some x)(hj:X.N[j]? =some y)(hk:X.N[k]? =some z)(lx:X.env.scope.names.lookup x=some .local)(ly:X.env.scope.names.lookup y=some .local)(lz:X.env.scope.names.lookup z=some .local):
 PG X (.Tuple [.Name x px,.Name y py,.Name z pz] kk pos) (a5c K 3 (aD8 (aj0 i) (aD8 (aj0 j) (aD8 (aj0 k) a5b)))):=
 hK▸a2m hc (ab0 (z9 hN hi (.inl lx) (.inr lx)) (ab0 (z9 hN hj (.inl ly) (.inr ly)) (ab0 (z9 hN hk (.inl lz) (.inr lz)) a0v)))
end Mp
namespace Zp
open PySem
open Sem (wp)
section
variable{prog:Program}{w:World}{A:Around}{E:Value->Shared->Prop}{s:Shared}
abbrev IsZ(h:Heap)(z TI TO:Addr)(f0:Value)(f1:Bool):Prop:=
 h.get? z=some {cls:= .type "zip",dict:=none,data:= .fields #[f0,.bool f1,.bool false,.ref TI,.ref TO],slots:= #[]}
theorem aZ3{z TI TO i1 i2 l1 l2 T0:Addr}{f1:Bool}{o0:Obj}{k1 k2:Nat}{xs ys:Array Value}{x y:Value}{Q:Value->Shared->Prop}(D:ZipApart z TI TO i1 i2 l1 l2)
 (hz:IsZ s.heap z TI TO (rawInt T0) f1) (h0:s.heap.get? T0=some o0) (hTI:IsPair s.heap TI (.ref i1) (.ref i2))
 (h1:s.heap.IsListIter i1 l1 k1) (h2:s.heap.IsListIter i2 l2 k2) (hl1:s.heap.IsList l1 xs) (hl2:s.heap.IsList l2 ys) (hx:xs[k1]? =some x) (hy:ys[k2]? =some y)
 (hQ:∀h',IsZ h' z TI TO (rawInt T0) true->h'.IsListIter i1 l1 (k1+1)->h'.IsListIter i2 l2 (k2+1)->IsPair h' s.heap.objs.size x y->h'.objs.size=s.heap.objs.size+1->
  (∀c o,c≠z->c≠i1->c≠i2->s.heap.get? c=some o->h'.get? c=some o)->Q (.ref s.heap.objs.size) {s with heap:=h'}):
 wpAny (model prog w) A (Builtin.«zip.__next__» ⟨[.ref z],[]⟩) (λO3 s'=>∃v,O3= .done (.ret v)/\Q v s') E s:=by
 show wpAny _ _ (field (.ref z) 2>>=_) _ _ _
 refine wpAny_bind (wpAny_field hz rfl (x:= .bool false) rfl ?_)
 show wpAny _ _ (field (.ref z) 3>>=_) _ _ _
 refine wpAny_bind (wpAny_field hz rfl (x:= .ref TI) rfl ?_)
 refine wpAny_bind (wpAny_seqItems hTI rfl ?_)
 show wpAny _ _ (Builtin.SmallTypes.ownedTupleIsFree (.ref z)>>=_) _ _ _
 refine wpAny_bind ?_
 unfold Builtin.SmallTypes.ownedTupleIsFree
 refine wpAny_bind (wpAny_field hz rfl (x:=rawInt T0) rfl ?_)
 show wpAny _ _ (loadIfAlive (T0:Int).toNat>>=_) _ _ _
 have h0':s.heap.get? (T0:Int).toNat=some o0:=by rw[a9W];exact h0
 refine wpAny_bind (PySem.W.kdx_alive h0' ?_)
 simp only[Option.isNone_some,a8k,if_false]
 refine wpAny_bind (wpAny_field hz rfl (x:= .bool f1) rfl ?_)
 cases f1 with
 |true=>
  have hne:(Value.bool true !=Value.bool true)=false:=rfl
  simp only[hne,a8k,if_false]
  have hz₁:=hz
  have hs₁:a9B z s.heap s.heap:=⟨rfl,λ_ _=>rfl⟩
  refine wpAny_pure ?_
  simp only[a8k,if_false]
  refine wpAny_bind ?_
  simp only[forIn_toArray,a9v,a9o]
  refine wpAny_bind (wpAny_bind (wpAny_holding ?_))
  show wpAny _ _ (Builtin.SmallTypes.nextOf (.ref i1)>>=_) _ _ _
  refine wpAny_bind (wpAny_nextOf_list_item (h1.extBut hs₁.extBut D.i1z) (hl1.extBut hs₁.extBut D.l1z) hx λh₂ h1₂ hs₂=>wpAny_pure ?_)
  refine wpAny_pure ?_
  refine wpAny_bind (wpAny_bind (wpAny_holding ?_))
  show wpAny _ _ (Builtin.SmallTypes.nextOf (.ref i2)>>=_) _ _ _
  refine wpAny_bind (wpAny_nextOf_list_item ((h2.extBut hs₁.extBut D.i2z).extBut hs₂.extBut D.i12.symm) ((hl2.extBut hs₁.extBut D.l2z).extBut hs₂.extBut D.l2i1) hy λh₃ h2₃ hs₃=>wpAny_pure ?_)
  refine wpAny_pure (wpAny_pure ?_)
  refine wpAny_bind (wpAny_newTuple ?_ (by show 2<=sizeLine;decide))
  have hsz:h₃.objs.size=s.heap.objs.size:=by rw[hs₃.1,hs₂.1,hs₁.1]
  refine wpAny_pure ⟨_,rfl,?_⟩
  show Q (.ref h₃.objs.size) {s with heap:=h₃.push {cls:= .type "tuple",data:= .seq #[x,y]}}
  have up:∀c o,c≠z->c≠i1->c≠i2->s.heap.get? c=some o->(h₃.push {cls:= .type "tuple",data:= .seq #[x,y]}).get? c=some o:=λc o c1 c2 c3 e=>a7w _ (hs₃.extBut _ _ c3 (hs₂.extBut _ _ c2 (hs₁.extBut _ _ c1 e)))
  have hT:IsPair (h₃.push {cls:= .type "tuple",data:= .seq #[x,y]}) h₃.objs.size x y:=a7P _ rfl
  rw[hsz]at hT
  rw[show(Value.ref h₃.objs.size)= .ref s.heap.objs.size by rw[hsz]]
  exact hQ _ (a7w _ (hs₃.extBut _ _ D.i2z.symm (hs₂.extBut _ _ D.i1z.symm hz₁))) ((h1₂.extBut hs₃.extBut D.i12).at λo e=>a7w _ e) (h2₃.at λo e=>a7w _ e) hT (by rw[a8i,hsz]) up
 |false=>
  have hne:(Value.bool false !=Value.bool true)=true:=rfl
  simp only[hne,if_true]
  refine wpAny_bind (wpAny_setField_rec hz (by simp) λh₁ hz₁ hs₁=> ?_)
  replace hz₁:IsZ h₁ z TI TO (rawInt T0) true:=hz₁
  refine wpAny_pure ?_
  simp only[a8k,if_false]
  refine wpAny_bind ?_
  simp only[forIn_toArray,a9v,a9o]
  refine wpAny_bind (wpAny_bind (wpAny_holding ?_))
  show wpAny _ _ (Builtin.SmallTypes.nextOf (.ref i1)>>=_) _ _ _
  refine wpAny_bind (wpAny_nextOf_list_item (h1.extBut hs₁.extBut D.i1z) (hl1.extBut hs₁.extBut D.l1z) hx λh₂ h1₂ hs₂=>wpAny_pure ?_)
  refine wpAny_pure ?_
  refine wpAny_bind (wpAny_bind (wpAny_holding ?_))
  show wpAny _ _ (Builtin.SmallTypes.nextOf (.ref i2)>>=_) _ _ _
  refine wpAny_bind (wpAny_nextOf_list_item ((h2.extBut hs₁.extBut D.i2z).extBut hs₂.extBut D.i12.symm) ((hl2.extBut hs₁.extBut D.l2z).extBut hs₂.extBut D.l2i1) hy λh₃ h2₃ hs₃=>wpAny_pure ?_)
  refine wpAny_pure (wpAny_pure ?_)
  refine wpAny_bind (wpAny_newTuple ?_ (by show 2<=sizeLine;decide))
  have hsz:h₃.objs.size=s.heap.objs.size:=by rw[hs₃.1,hs₂.1,hs₁.1]
  refine wpAny_pure ⟨_,rfl,?_⟩
  show Q (.ref h₃.objs.size) {s with heap:=h₃.push {cls:= .type "tuple",data:= .seq #[x,y]}}
  have up:∀c o,c≠z->c≠i1->c≠i2->s.heap.get? c=some o->(h₃.push {cls:= .type "tuple",data:= .seq #[x,y]}).get? c=some o:=λc o c1 c2 c3 e=>a7w _ (hs₃.extBut _ _ c3 (hs₂.extBut _ _ c2 (hs₁.extBut _ _ c1 e)))
  have hT:IsPair (h₃.push {cls:= .type "tuple",data:= .seq #[x,y]}) h₃.objs.size x y:=a7P _ rfl
  rw[hsz]at hT
  rw[show(Value.ref h₃.objs.size)= .ref s.heap.objs.size by rw[hsz]]
  exact hQ _ (a7w _ (hs₃.extBut _ _ D.i2z.symm (hs₂.extBut _ _ D.i1z.symm hz₁))) ((h1₂.extBut hs₃.extBut D.i12).at λo e=>a7w _ e) (h2₃.at λo e=>a7w _ e) hT (by rw[a8i,hsz]) up
theorem a1Z{z TI TO i1 i2 l1 l2 T0:Addr}{f1:Bool}{o0:Obj}{k1:Nat}{xs:Array Value}{Q:Fin->Shared->Prop}(hh:A.handled=none)(D:ZipApart z TI TO i1 i2 l1 l2)
 (hz:IsZ s.heap z TI TO (rawInt T0) f1) (h0:s.heap.get? T0=some o0) (hTI:IsPair s.heap TI (.ref i1) (.ref i2))
 (h1:s.heap.IsListIter i1 l1 k1) (hl1:s.heap.IsList l1 xs) (hend:xs[k1]? =none)
 (hE:∀h' e,(∀c o,c≠z->c≠i1->s.heap.get? c=some o->h'.get? c=some o)->(∃o,h'.get? e=some o/\o.cls= .type "StopIteration")->E (.ref e) {s with heap:=h'}):
 wpAny (model prog w) A (Builtin.«zip.__next__» ⟨[.ref z],[]⟩) Q E s:=by
 show wpAny _ _ (field (.ref z) 2>>=_) _ _ _
 refine wpAny_bind (wpAny_field hz rfl (x:= .bool false) rfl ?_)
 show wpAny _ _ (field (.ref z) 3>>=_) _ _ _
 refine wpAny_bind (wpAny_field hz rfl (x:= .ref TI) rfl ?_)
 refine wpAny_bind (wpAny_seqItems hTI rfl ?_)
 show wpAny _ _ (Builtin.SmallTypes.ownedTupleIsFree (.ref z)>>=_) _ _ _
 refine wpAny_bind ?_
 unfold Builtin.SmallTypes.ownedTupleIsFree
 refine wpAny_bind (wpAny_field hz rfl (x:=rawInt T0) rfl ?_)
 show wpAny _ _ (loadIfAlive (T0:Int).toNat>>=_) _ _ _
 have h0':s.heap.get? (T0:Int).toNat=some o0:=by rw[a9W];exact h0
 refine wpAny_bind (PySem.W.kdx_alive h0' ?_)
 simp only[Option.isNone_some,a8k,if_false]
 refine wpAny_bind (wpAny_field hz rfl (x:= .bool f1) rfl ?_)
 cases f1 with
 |true=>
  have hne:(Value.bool true !=Value.bool true)=false:=rfl
  simp only[hne,a8k,if_false]
  have hs₁:a9B z s.heap s.heap:=⟨rfl,λ_ _=>rfl⟩
  refine wpAny_pure ?_
  simp only[a8k,if_false]
  refine wpAny_bind ?_
  simp only[forIn_toArray,a9v,a9o]
  refine wpAny_bind (wpAny_bind (wpAny_holding ?_))
  show wpAny _ _ (Builtin.SmallTypes.nextOf (.ref i1)>>=_) _ _ _
  refine wpAny_bind (wpAny_nextOf_list_end hh (h1.extBut hs₁.extBut D.i1z) (hl1.extBut hs₁.extBut D.l1z) hend λh₂ e hs₂ he=> ?_)
  exact hE h₂ e (λc o c1 c2 x=>hs₂ _ _ c2 (hs₁.extBut _ _ c1 x)) he
 |false=>
  have hne:(Value.bool false !=Value.bool true)=true:=rfl
  simp only[hne,if_true]
  refine wpAny_bind (wpAny_setField_rec hz (by simp) λh₁ hz₁ hs₁=> ?_)
  refine wpAny_pure ?_
  simp only[a8k,if_false]
  refine wpAny_bind ?_
  simp only[forIn_toArray,a9v,a9o]
  refine wpAny_bind (wpAny_bind (wpAny_holding ?_))
  show wpAny _ _ (Builtin.SmallTypes.nextOf (.ref i1)>>=_) _ _ _
  refine wpAny_bind (wpAny_nextOf_list_end hh (h1.extBut hs₁.extBut D.i1z) (hl1.extBut hs₁.extBut D.l1z) hend λh₂ e hs₂ he=> ?_)
  exact hE h₂ e (λc o c1 c2 x=>hs₂ _ _ c2 (hs₁.extBut _ _ c1 x)) he
theorem aK8{z TI TO i1 i2 l1 l2 T0:Addr}{f1:Bool}{o0:Obj}{k1 k2:Nat}{xs ys:Array Value}{x y:Value}{Q:Option Value->Shared->Prop}(D:ZipApart z TI TO i1 i2 l1 l2)
 (hz:IsZ s.heap z TI TO (rawInt T0) f1) (h0:s.heap.get? T0=some o0) (hTI:IsPair s.heap TI (.ref i1) (.ref i2))
 (h1:s.heap.IsListIter i1 l1 k1) (h2:s.heap.IsListIter i2 l2 k2) (hl1:s.heap.IsList l1 xs) (hl2:s.heap.IsList l2 ys) (hx:xs[k1]? =some x) (hy:ys[k2]? =some y)
 (hQ:∀h',IsZ h' z TI TO (rawInt T0) true->h'.IsListIter i1 l1 (k1+1)->h'.IsListIter i2 l2 (k2+1)->IsPair h' s.heap.objs.size x y->h'.objs.size=s.heap.objs.size+1->
  (∀c o,c≠z->c≠i1->c≠i2->s.heap.get? c=some o->h'.get? c=some o)->Q (some (.ref s.heap.objs.size)) {s with heap:=h'}):wpAny (model prog w) A (pyNext (.ref z)) Q E s:=by
 have hT:s.TypeIs (.ref z) "zip":=⟨_,hz,rfl⟩
 unfold pyNext
 exact wpAny_bind (wpAny_attempt (wpAny_callSpecial?_slot (name:=Str.ofString "__next__") hT F.slot_zip_next
  (wpAny_call_entry F.slot_zip_next hT F.entry_zip_next (aZ3 D hz h0 hTI h1 h2 hl1 hl2 hx hy λh' a1 a2 a3 a4 a5 a6=>wpAny_pure (hQ h' a1 a2 a3 a4 a5 a6)) (F.args_zip_next_1 _))))
theorem aS0{z TI TO i1 i2 l1 l2 T0:Addr}{f1:Bool}{o0:Obj}{k1:Nat}{xs:Array Value}{Q:Option Value->Shared->Prop}(hh:A.handled=none)(D:ZipApart z TI TO i1 i2 l1 l2)
 (hz:IsZ s.heap z TI TO (rawInt T0) f1) (h0:s.heap.get? T0=some o0) (hTI:IsPair s.heap TI (.ref i1) (.ref i2))
 (h1:s.heap.IsListIter i1 l1 k1) (hl1:s.heap.IsList l1 xs) (hend:xs[k1]? =none)
 (hQ:∀h',(∀c o,c≠z->c≠i1->s.heap.get? c=some o->h'.get? c=some o)->Q none {s with heap:=h'}):wpAny (model prog w) A (pyNext (.ref z)) Q E s:=by
 have hT:s.TypeIs (.ref z) "zip":=⟨_,hz,rfl⟩
 unfold pyNext
 refine wpAny_bind (wpAny_attempt (wpAny_callSpecial?_slot (name:=Str.ofString "__next__") hT F.slot_zip_next
  (wpAny_call_entry F.slot_zip_next hT F.entry_zip_next (a1Z hh D hz h0 hTI h1 hl1 hend λh' e hk he=> ?_) (F.args_zip_next_1 _))))
 obtain⟨o,ho,hc⟩:=he
 refine wpAny_bind (wpAny_isInstance (T:="StopIteration") (b:=true) ⟨o,ho,hc⟩ isSubtype_stop ?_)
 exact wpAny_pure (hQ _ hk)
end
structure ZSt(h:Heap)(z TI TO i1 i2 l1 l2 S:Addr)(k:Nat)(xs ys:Array Value):Prop where
 ti:IsPair h TI (.ref i1) (.ref i2)
 it1:h.IsListIter i1 l1 k
 it2:h.IsListIter i2 l2 k
 ls1:h.IsList l1 xs
 ls2:h.IsList l2 ys
 zip:(IsZip h z TI TO .none/\∃a b,IsPair h TO a b)\/∃(T0:Addr) (f1:Bool) (o0:Obj),IsZ h z TI TO (rawInt T0) f1/\h.get? T0=some o0/\T0≠z/\T0≠TO/\T0≠i1/\T0≠i2/\T0≠S
theorem ZSt.isz{h:Heap}{z TI TO i1 i2 l1 l2 S:Addr}{k:Nat}{xs ys:Array Value}(x:ZSt h z TI TO i1 i2 l1 l2 S k xs ys):∃f0 f1,IsZ h z TI TO f0 f1:=by
 rcases x.zip with⟨hz,_⟩|⟨T0,f1,o0,hz,_⟩
 ·exact⟨_,_,hz⟩
 ·exact⟨_,_,hz⟩
theorem ZSt.keep{h h':Heap}{z TI TO i1 i2 l1 l2 S:Addr}{k:Nat}{xs ys:Array Value}(x:ZSt h z TI TO i1 i2 l1 l2 S k xs ys)(hk:∀b o,b≠S->h.get? b=some o->h'.get? b=some o)
 (n1:z≠S) (n2:TI≠S) (n3:TO≠S) (n4:i1≠S) (n5:i2≠S) (n6:l1≠S) (n7:l2≠S):ZSt h' z TI TO i1 i2 l1 l2 S k xs ys:=by
 refine⟨hk _ _ n2 x.ti,x.it1.at λo e=>hk _ o n4 e,x.it2.at λo e=>hk _ o n5 e,x.ls1.at λo e=>hk _ o n6 e,x.ls2.at λo e=>hk _ o n7 e,?_⟩
 rcases x.zip with⟨hz,a,b,hTO⟩|⟨T0,f1,o0,hz,h0,t1,t2,t3,t4,t5⟩
 ·exact .inl ⟨hk _ _ n1 hz,a,b,hk _ _ n3 hTO⟩
 ·exact .inr ⟨T0,f1,o0,hk _ _ n1 hz,hk _ _ t5 h0,t1,t2,t3,t4,t5⟩
section
variable{prog:Program}{w:World}{A:Around}{E:Value->Shared->Prop}{s:Shared}
theorem a27{z TI TO i1 i2 l1 l2 S:Addr}{k:Nat}{xs ys:Array Value}{x y:Value}{Q:Option Value->Shared->Prop}(D:ZipApart z TI TO i1 i2 l1 l2)(st:ZSt s.heap z TI TO i1 i2 l1 l2 S k xs ys)(hS:S<s.heap.objs.size)
 (hx:xs[k]? =some x) (hy:ys[k]? =some y)
 (hQ:∀h',ZSt h' z TI TO i1 i2 l1 l2 S (k+1) xs ys->IsPair h' s.heap.objs.size x y->h'.objs.size=s.heap.objs.size+1->
  (∀c o,c≠z->c≠TO->c≠i1->c≠i2->s.heap.get? c=some o->h'.get? c=some o)->Q (some (.ref s.heap.objs.size)) {s with heap:=h'}):wpAny (model prog w) A (pyNext (.ref z)) Q E s:=by
 have lt:∀{c o},s.heap.get? c=some o->s.heap.objs.size≠c:=λe=>a8O (a7I e)
 have g1:s.heap.objs.size≠i1:=by obtain⟨_,e,_⟩:=st.it1;exact lt e
 have g2:s.heap.objs.size≠i2:=by obtain⟨_,e,_⟩:=st.it2;exact lt e
 rcases st.zip with⟨hz,a,b,hTO⟩|⟨T0,f1,o0,hz,h0,t1,t2,t3,t4,t5⟩
 ·refine wpAny_pyNext_zip_item D hz st.ti hTO st.it1 st.it2 st.ls1 st.ls2 hx hy λh' a1 a2 a3 a4 a5 a6 hk=>hQ h' ⟨hk _ _ D.TIz D.TITO D.TIi1 D.TIi2 st.ti,a3,a4,st.ls1.at λo e=>hk _ o D.l1z D.l1TO D.l1i1 D.l1i2 e,st.ls2.at λo e=>hk _ o D.l2z D.l2TO D.l2i1 D.l2i2 e,.inr ⟨_,false,_,a1,a5,lt hz,lt hTO,g1,g2,a8O hS⟩⟩ a5 a6 hk
 ·refine aK8 D hz h0 st.ti st.it1 st.it2 st.ls1 st.ls2 hx hy λh' a1 a2 a3 a4 a5 hk=>hQ h' ⟨hk _ _ D.TIz D.TIi1 D.TIi2 st.ti,a2,a3,st.ls1.at λo e=>hk _ o D.l1z D.l1i1 D.l1i2 e,st.ls2.at λo e=>hk _ o D.l2z D.l2i1 D.l2i2 e,.inr ⟨T0,true,o0,a1,hk _ _ t1 t3 t4 h0,t1,t2,t3,t4,t5⟩⟩ a4 a5 λc o c1 _ c3 c4 e=>hk c o c1 c3 c4 e
theorem a28{z TI TO i1 i2 l1 l2 S:Addr}{k:Nat}{xs ys:Array Value}{Q:Option Value->Shared->Prop}(hh:A.handled=none)(D:ZipApart z TI TO i1 i2 l1 l2)(st:ZSt s.heap z TI TO i1 i2 l1 l2 S k xs ys)(hx:xs[k]? =none)
 (hQ:∀h',(∀c o,c≠z->c≠TO->c≠i1->c≠i2->s.heap.get? c=some o->h'.get? c=some o)->Q none {s with heap:=h'}):wpAny (model prog w) A (pyNext (.ref z)) Q E s:=by
 rcases st.zip with⟨hz,a,b,hTO⟩|⟨T0,f1,o0,hz,h0,t1,t2,t3,t4,t5⟩
 ·exact wpAny_pyNext_zip_end hh D hz st.ti hTO st.it1 st.it2 st.ls1 st.ls2 (.inl hx) hQ
 ·exact aS0 hh D hz h0 st.ti st.it1 st.ls1 hx λh' hk=>hQ h' λc o c1 _ c3 _ e=>hk c o c1 c3 e
end
theorem aZ4:typeLookup (.type "zip") "__len__"=pure none:=by rw[typeLookup_type,builtinLookup_eq_fast];kernel_rfl
theorem aS1:typeLookup (.type "zip") "__length_hint__"=pure none:=by rw[typeLookup_type,builtinLookup_eq_fast];kernel_rfl
structure ZG(xs ys:Array Value)(lo:Addr)(h:Heap)(as:List Addr):Prop where
 rise:as.Pairwise (·<·)
 above:∀a∈as,lo<a
 pairs:∀(j:Nat) (a:Addr),as[j]? =some a->∃x y,xs[j]? =some x/\ys[j]? =some y/\IsPair h a x y
section
variable{prog:Program}{w:World}{A:Around}{s:Shared}{R:Result->Shared->Prop}
theorem a29{z TI TO i1 i2 l1 l2 S:Addr}{xs ys:Array Value}(hh:A.handled=none)(D:ZipApart z TI TO i1 i2 l1 l2)(hxy:ys.size=xs.size)(hn:xs.size<=sizeLine)
 (b1:z<S) (b2:TI<S) (b3:TO<S) (b4:i1<S) (b5:i2<S) (b6:l1<S) (b7:l2<S) (res:Value) {h₁:Heap}
 (hR:∀h' tk acc c as,(∀b o,b≠S->b≠z->b≠TO->b≠i1->b≠i2->h₁.get? b=some o->h'.get? b=some o)->h'.get? S=some {cls:= .type "list",dict:=none,data:= .seq acc c,slots:= #[]}->as.length=xs.size->ZG xs ys S h' as->
  acc.toList=as.map Value.ref->R (.ok (.ret res)) {s with heap:=h',toks:=tk}):
 ∀(k i:Nat) (h:Heap) (tk c:Nat) (acc:Array Value) (as:List Addr),xs.size-i=k->i<=xs.size->ZSt h z TI TO i1 i2 l1 l2 S i xs ys->(∀b o,b≠S->b≠z->b≠TO->b≠i1->b≠i2->h₁.get? b=some o->h.get? b=some o)->
  h.get? S=some {cls:= .type "list",dict:=none,data:= .seq acc c,slots:= #[]}->acc.toList=as.map Value.ref->as.length=i->ZG xs ys S h as->
  codeAny (model prog w) A (.builtin "list.extend.loop" ⟨[.ref S,.ref z,res],[]⟩) R {s with heap:=h,toks:=tk}:=by
 have n1:z≠S:=a7L b1
 have n2:TI≠S:=a7L b2
 have n3:TO≠S:=a7L b3
 have n4:i1≠S:=a7L b4
 have n5:i2≠S:=a7L b5
 have n6:l1≠S:=a7L b6
 have n7:l2≠S:=a7L b7
 have off:∀{a:Addr},S<a->a≠z/\a≠TO/\a≠i1/\a≠i2:=λ{a} h=>⟨a8O (a84 b1 h),a8O (a84 b3 h),a8O (a84 b4 h),a8O (a84 b5 h)⟩
 intro k
 induction k with
 |zero=>
  intro i h tk c acc as hk hi hst hkeep hS hacc hal hG
  have hin:i=xs.size:=by lia
  refine codeAny_builtin PySem.F.entry_extend_loop ?_
  rw[Around.under_plainId a9A _]
  show wpAny _ A.in1 (pyNext (.ref z)>>=_) _ _ _
  refine wpAny_bind (a28 (s:={s with heap:=h,toks:=tk}) (A:=A.in1) hh D hst (Array.getElem?_eq_none (by lia)) λh' he=> ?_)
  refine wpAny_pure (hR h' tk acc c as (λb o h1 h2 h3 h4 h5 e=>he b o h2 h3 h4 h5 (hkeep b o h1 h2 h3 h4 h5 e)) (he S _ n1.symm n3.symm n4.symm n5.symm hS) (by lia) ⟨hG.rise,hG.above,λj a hj=> ?_⟩ hacc)
  obtain⟨x,y,e1,e2,e3⟩:=hG.pairs j a hj
  obtain⟨o1,o2,o3,o4⟩:=off (hG.above a (a7F hj))
  exact⟨x,y,e1,e2,he a _ o1 o2 o3 o4 e3⟩
 |succ k ih=>
  intro i h tk c acc as hk hi hst hkeep hS hacc hal hG
  have hlt:i<xs.size:=by lia
  have hx:xs[i]? =some xs[i]:=Array.getElem?_eq_getElem hlt
  have hlt2:i<ys.size:=by lia
  have hy:ys[i]? =some ys[i]:=Array.getElem?_eq_getElem hlt2
  have hsz:acc.size=i:=by rw[←a9n,hacc,a7r,hal]
  have hSl:S<h.objs.size:=a7I hS
  refine codeAny_builtin PySem.F.entry_extend_loop ?_
  rw[Around.under_plainId a9A _]
  show wpAny _ A.in1 (pyNext (.ref z)>>=_) _ _ _
  refine wpAny_bind (a27 (s:={s with heap:=h,toks:=tk}) D hst hSl hx hy λh' hst' ht hz hkp=> ?_)
  dsimp only at ht hz hkp⊢
  have hS':=hkp S _ n1.symm n3.symm n4.symm n5.symm hS
  have up:∀b o,b≠S->h'.get? b=some o->(h'.update S (Obj.mapSeq (·.push (Value.ref h.objs.size)))).get? b=some o:=λb o hb e=>(a9a _ _ (Ne.symm hb)).trans e
  show wpAny _ A.in1 (updateSeq S (·.push (Value.ref h.objs.size))>>=_) _ _ _
  refine wpAny_bind ?_
  refine wpAny_updateSeq hS' rfl (wpAny_pure ⟨plainId_quiet a9A _,ih (i+1) _ tk _ (acc.push (Value.ref h.objs.size)) (as++[h.objs.size]) (by lia) hlt (hst'.keep up n1 n2 n3 n4 n5 n6 n7)
   (λb o h1 h2 h3 h4 h5 e=>up b o h1 (hkp b o h2 h3 h4 h5 (hkeep b o h1 h2 h3 h4 h5 e))) (a9d _ hS' rfl) (by rw[Array.toList_push,hacc,a8m];rfl) (by rw[a7M,hal];rfl) ⟨?_,?_,?_⟩⟩) (by rw[hsz];lia) (by show(acc.push (Value.ref h.objs.size)).size<=sizeLine+1;rw[Array.size_push,hsz];lia)
  ·refine List.pairwise_append.mpr ⟨hG.rise,List.pairwise_singleton _ _,λa ha b hb=> ?_⟩
   rw[a7N.mp hb]
   obtain⟨j,hj⟩:=a8Z ha
   obtain⟨_,_,_,_,e3⟩:=hG.pairs j a hj
   exact a7I e3
  ·intro a ha
   rcases a77.mp ha with ha|ha
   ·exact hG.above a ha
   ·rw[a7N.mp ha];exact hSl
  ·intro j b hj
   rcases Nat.lt_trichotomy j as.length with h1|h1|h1
   ·rw[a9P h1]at hj
    obtain⟨x,y,e1,e2,e3⟩:=hG.pairs j b hj
    have hb:=hG.above b (a7F hj)
    obtain⟨o1,o2,o3,o4⟩:=off hb
    exact⟨x,y,e1,e2,up b _ (a8O hb) (hkp b _ o1 o2 o3 o4 e3)⟩
   ·subst h1
    have hb:h.objs.size=b:=by simpa using hj
    subst hb
    exact⟨_,_,by rw[hal];exact hx,by rw[hal];exact hy,up _ _ (a8O hSl) ht⟩
   ·have hnone:(as++[h.objs.size])[j]? =none:=a8y (by rw[a7M,a83];lia)
    rw[hnone]at hj;cases hj
end
section
variable{prog:Program}{w:World}{A:Around}{E:Value->Shared->Prop}{s:Shared}
theorem aZ5{R:Result->Shared->Prop}{z TI TO i1 i2 l1 l2 S:Addr}{xs ys:Array Value}{c₀:Nat}(hh:A.handled=none)(D:ZipApart z TI TO i1 i2 l1 l2)(hxy:ys.size=xs.size)(hn:xs.size<=sizeLine)
 (b1:z<S) (b2:TI<S) (b3:TO<S) (b4:i1<S) (b5:i2<S) (b6:l1<S) (b7:l2<S) (res:Value) (st:ZSt s.heap z TI TO i1 i2 l1 l2 S 0 xs ys)
 (hS:s.heap.get? S=some {cls:= .type "list",data:= .seq #[] c₀})
 (hR:∀h' tk acc c as,(∀b o,b≠S->b≠z->b≠TO->b≠i1->b≠i2->s.heap.get? b=some o->h'.get? b=some o)->h'.get? S=some {cls:= .type "list",dict:=none,data:= .seq acc c,slots:= #[]}->as.length=xs.size->ZG xs ys S h' as->
  acc.toList=as.map Value.ref->R (.ok (.ret res)) {s with heap:=h',toks:=tk}):
 wpAny (model prog w) A.in1 (Builtin.List.listExtendWith (.ref S) (.ref z) res)
  (λO3 s'=>match O3 with| .done f=>R (.ok f) s'| .again c'=>c'.quiet=true/\codeAny (model prog w) A c' R s') (λe s'=>R (.error e) s') s:=by
 obtain⟨f0,f1,hz⟩:=st.isz
 have hT:s.TypeIs (.ref z) "zip":=⟨_,hz,rfl⟩
 have n1:z≠S:=a7L b1
 unfold Builtin.List.listExtendWith
 refine wpAny_bind (wpAny_typeOf hT ?_)
 have h1:Builtin.List.listSameRef (.ref S) (.ref z)=false:=by simp[Builtin.List.listSameRef,n1.symm]
 have h2:(Value.type "zip"==Value.type "list")=false:=by decide
 have h3:(Value.type "zip"==Value.type "tuple")=false:=by decide
 simp only[h1,h2,h3,a9N,a8k,if_false]
 refine wpAny_bind (wpAny_pyIter_slot hT F.slot_zip_iter (wpAny_call_entry F.slot_zip_iter hT F.entry_zip_iter ?_ (F.args_zip_iter_1 _)))
 show wpAny _ _ (ret (.ref z)) _ _ s
 refine wpAny_pure ⟨_,rfl,"zip",_,hT,F.slot_zip_next.lookup,?_⟩
 refine wpAny_bind (wpAny_holding ?_)
 unfold Builtin.List.listLengthHint
 refine wpAny_bind (wpAny_specialOf hT aZ4 ?_)
 show wpAny _ A.in1 (specialOf (Value.ref z) (Str.ofString "__length_hint__")>>=_) _ _ _
 refine wpAny_bind (wpAny_specialOf hT aS1 ?_)
 refine wpAny_pure ?_
 show wpAny _ A.in1 (rule "list.extend.makes-room">>=λ_=>Builtin.List.listTouch (.ref S)>>=λ_=>again (.builtin "list.extend.loop" ⟨[.ref S,.ref z,res],[]⟩)) _ _ _
 refine wpAny_bind (wpAny_rule ?_)
 refine wpAny_bind ?_
 show wpAny _ A.in1 (updateSeq S (·.push .none)>>=λ_=>updateSeq S (·.pop)) _ _ _
 refine wpAny_bind (wpAny_updateSeq hS rfl ?_)
 have hS₂:=a9d (Obj.mapSeq (·.push Value.none)) hS rfl
 refine wpAny_updateSeq (hz:=by seq_fits) hS₂ rfl ?_
 have hS₃:=a9d (Obj.mapSeq (·.pop)) hS₂ rfl
 have oth:∀b o,b≠S->s.heap.get? b=some o->((s.heap.update S (Obj.mapSeq (·.push Value.none))).update S (Obj.mapSeq (·.pop))).get? b=some o:=
  λb o hb e=>(a9a _ _ (Ne.symm hb)).trans ((a9a _ _ (Ne.symm hb)).trans e)
 refine wpAny_pure ⟨plainId_quiet a9A _,a29 (s:=s) (h₁:=s.heap) hh D hxy hn b1 b2 b3 b4 b5 b6 b7 res hR xs.size 0 _ _ _ #[] [] (Nat.sub_zero _) (a8n _)
  (st.keep oth n1 (a7L b2) (a7L b3) (a7L b4) (a7L b5) (a7L b6) (a7L b7)) (λb o hb _ _ _ _ e=>oth b o hb e) hS₃ rfl rfl ⟨List.Pairwise.nil,(λ_ ha=>nomatch ha),(λj a hj=>by simp at hj)⟩⟩
theorem a3a{R:Result->Shared->Prop}{z TI TO i1 i2 l1 l2 S:Addr}{xs ys:Array Value}(hh:A.handled=none)(D:ZipApart z TI TO i1 i2 l1 l2)(hxy:ys.size=xs.size)(hn:xs.size<=sizeLine)
 (b1:z<S) (b2:TI<S) (b3:TO<S) (b4:i1<S) (b5:i2<S) (b6:l1<S) (b7:l2<S) (st:ZSt s.heap z TI TO i1 i2 l1 l2 S 0 xs ys)
 (hS:s.heap.get? S=some {cls:= .type "list",data:= .seq #[]})
 (hR:∀h' tk acc c as,(∀b o,b≠S->b≠z->b≠TO->b≠i1->b≠i2->s.heap.get? b=some o->h'.get? b=some o)->h'.get? S=some {cls:= .type "list",dict:=none,data:= .seq acc c,slots:= #[]}->as.length=xs.size->ZG xs ys S h' as->
  acc.toList=as.map Value.ref->R (.ok (.ret .none)) {s with heap:=h',toks:=tk}):
 wpAny (model prog w) A.in1 (Builtin.«list.__init__» ⟨[.ref S,.ref z],[]⟩)
  (λO3 s'=>match O3 with| .done f=>R (.ok f) s'| .again c'=>c'.quiet=true/\codeAny (model prog w) A c' R s') (λe s'=>R (.error e) s') s:=by
 show wpAny _ _ (do let old ←Builtin.List.listItems (.ref S);Builtin.List.listUpdate (.ref S) (λ_=> #[]);letGo old.toList.reverse;Builtin.List.listExtendWith (.ref S) (.ref z) .none) _ _ s
 refine wpAny_bind ?_
 unfold Builtin.List.listItems
 refine wpAny_bind (wpAny_seqItems hS rfl (wpAny_pure ?_))
 show wpAny _ _ (updateSeq S (λ_=> #[])>>=λ_=>letGo (#[]:Array Value).toList.reverse>>=λ_=>Builtin.List.listExtendWith (.ref S) (.ref z) .none) _ _ s
 refine wpAny_bind (wpAny_updateSeq hS rfl ?_)
 have hS₂:=a9d (Obj.mapSeq (λ_=>(#[]:Array Value))) hS rfl
 have oth:∀b o,b≠S->s.heap.get? b=some o->(s.heap.update S (Obj.mapSeq (λ_=>(#[]:Array Value)))).get? b=some o:=
  λb o hb e=>(a9a _ _ (Ne.symm hb)).trans e
 refine wpAny_bind (wpAny_letGo ?_)
 refine aZ5 hh D hxy hn b1 b2 b3 b4 b5 b6 b7 .none (st.keep oth (a7L b1) (a7L b2) (a7L b3) (a7L b4) (a7L b5) (a7L b6) (a7L b7)) hS₂ (λh' tk acc c as hk hS' hl hG hacc=> ?_)
 exact hR h' tk acc c as (λb o hb h2 h3 h4 h5 e=>hk b o hb h2 h3 h4 h5 (oth b o hb e)) hS' hl hG hacc
theorem aD1{Q:Value->Shared->Prop}{z TI TO i1 i2 l1 l2:Addr}{xs ys:Array Value}(hh:A.handled=none)(D:ZipApart z TI TO i1 i2 l1 l2)(hxy:ys.size=xs.size)(hn:xs.size<=sizeLine)
 (st:ZSt s.heap z TI TO i1 i2 l1 l2 s.heap.objs.size 0 xs ys) (hTO:TO<s.heap.objs.size)
 (hQ:∀h' tk acc c as,(∀b o,b≠z->b≠TO->b≠i1->b≠i2->s.heap.get? b=some o->h'.get? b=some o)->h'.get? s.heap.objs.size=some {cls:= .type "list",dict:=none,data:= .seq acc c,slots:= #[]}->as.length=xs.size->ZG xs ys s.heap.objs.size h' as->
  acc.toList=as.map Value.ref->Q (.ref s.heap.objs.size) {s with heap:=h',toks:=tk}):
 wpAny (model prog w) A (call (.type "list") [.ref z]) Q E s:=by
 refine callType_codes (Q₁:=λobj s₁=>obj= .ref s.heap.objs.size/\s₁={s with heap:=s.heap.push {cls:= .type "list",data:= .seq #[]}}) PySem.F.called_list (PySem.F.typeCall_list_1 _) PySem.F.entry_list_init
  (code_list_new _ ⟨rfl,rfl⟩) λobj s₁ h₁=> ?_
 obtain⟨rfl,rfl⟩:=h₁
 have hS:(s.heap.push {cls:= .type "list",data:= .seq #[]}).get? s.heap.objs.size=some {cls:= .type "list",data:= .seq #[]}:=a7P _ rfl
 obtain⟨f0,f1,hz⟩:=st.isz
 have bz:=a7I hz
 have bTI:=a7I st.ti
 have bi1:i1<s.heap.objs.size:=by obtain⟨_,e,_⟩:=st.it1;exact a7I e
 have bi2:i2<s.heap.objs.size:=by obtain⟨_,e,_⟩:=st.it2;exact a7I e
 have bl1:l1<s.heap.objs.size:=by obtain⟨_,e,_⟩:=st.ls1;exact a7I e
 have bl2:l2<s.heap.objs.size:=by obtain⟨_,e,_⟩:=st.ls2;exact a7I e
 refine⟨⟨_,hS,rfl⟩,PySem.F.args_list_init_2 _ _,a3a (A:=A.in1) hh D hxy hn bz bTI hTO bi1 bi2 bl1 bl2 (st.keep (λb o _ e=>a7w _ e) (a7L bz) (a7L bTI) (a7L hTO) (a7L bi1) (a7L bi2) (a7L bl1) (a7L bl2)) hS (λh' tk acc c as hk hS' hl hG hacc=> ?_)⟩
 exact⟨rfl,hQ h' tk acc c as (λb o h2 h3 h4 h5 e=>hk b o (a7L (a7I e)) h2 h3 h4 h5 (a7w _ e)) hS' hl hG hacc⟩
end
end Zp
namespace Mp
open PySem PySem.Spec PyProof.Rows L2
section
variable{X:Cx}{a7q:List (Addr×Obj)}{U:L2.St}{H H':Hp}{s:Shared}{h':Heap}
theorem a7k{t':Nat}(I:v9 X a7q U H s)(k:∀b u,s.heap.get? b=some u->h'.get? b=some u)(old:∀b,b<s.heap.objs.size->H' b=H b)
 (new:∀b o,s.heap.objs.size<=b->H' b=some o->E7 X.prog X.w H' h' b o):v9 X a7q U H' {s with heap:=h',toks:=t'}:=by
 have up:∀b o,H b=some o->H' b=some o:=λb o e=>by rw[old b (I.hok.lt e)];exact e
 refine I.un ⟨λb o q _ _ _=>k b o q,λb o q _ _ _=>⟨o.slots,k b o q⟩,λb o q n _=>by rw[old b (a7I q)];exact n,λb o q _=>⟨o,k b o q⟩,λb xs q=>up b _ q,λb o u q=>up b _ q,λb ps q=>⟨#[],by rw[up b _ q];simp⟩⟩ λb o e=> ?_
 rcases Nat.lt_or_ge b s.heap.objs.size with hb|hb
 ·rw[old b hb]at e
  exact(I.hok b o e).stay (λc v _ q=>k c v q) (λc q=>up c _ q) λc xs q=>up c _ q
 ·exact new b o hb e
end
def tLZ(K:Frag)(ta:TA):TE:=λU H Q=>ta U H λvs H1=>∃a b xs ys,vs=[.ref a,.ref b]/\n9 K H1 a xs/\n9 K H1 b ys/\ys.length=xs.length/\
 ∀(l:Addr) (ts:List Addr) (G:Hp),f9 H1 G->H1 l=Option.none->G l=some (.lst (ts.map V.ref))->ts.length=xs.length->(∀(j:Nat) (t:Addr),ts[j]? =some t->∃x y,xs[j]? =some x/\ys[j]? =some y/\G t=some (.tup [x,y]))->Q (.ref l) G
theorem ay2{α:Type}:∀{ts:List Addr} {vs:List α} {j:Nat} {t:Addr} {v:α},ts.Nodup->ts[j]? =some t->vs[j]? =some v->(ts.zip vs).lookup t=some v
 |[],_,_,_,_,_,h,_=>by simp at h
 |_::_,[],_,_,_,_,_,h=>by simp at h
 |a::ts,b::vs,0,t,v,_,h1,h2=>by cases h1;cases h2;simp
 |a::ts,b::vs,j+1,t,v,nd,h1,h2=>by
  obtain⟨n1,n2⟩:=a8J.mp nd
  have ne:¬t=a:=λq=>n1 (q▸a7F (l:=ts) (i:=j) h1)
  rw[a9u,a8Y]
  have:(t==a)=false:=by simpa using ne
  rw[this]
  exact ay2 n2 (j:=j) h1 h2
theorem ai1{α:Type}:∀{ts:List Addr} {vs:List α} {t:Addr} {v:α},(ts.zip vs).lookup t=some v->∃j:Nat,ts[j]? =some t/\vs[j]? =some v
 |[],_,_,_,h=>by simp at h
 |_::_,[],_,_,h=>by simp at h
 |a::ts,b::vs,t,v,h=>by
  rw[a9u,a8Y]at h
  by_cases e:t=a
  ·subst e
   simp at h
   exact⟨0,rfl,congrArg some h⟩
  ·have:(t==a)=false:=by simpa using e
   rw[this]at h
   obtain⟨j,h1,h2⟩:=ai1 h
   exact⟨j+1,h1,h2⟩
theorem aG6:∀as:List Addr,y8 (as.map V.ref) (as.map Value.ref)
 |[]=> .nil
 |a::r=> .cons rfl (aG6 r)
theorem aZ6{X:Cx}{e e2:Expr}{ta:TA}{p p2 pos pos2:Pos}(hc:X.calm=true)(hg:Gl X "zip")(hm:X.mg "zip"=none)(hgl:Gl X "list")(hml:X.mg "list"=none)(ha:PA X [e,e2] ta)
 (hs:starEach [e,e2] X.env=(false,eval e X.env)::starEach [e2] X.env:=by rfl) (hpl:(backTo pos2 (starEach [e2] X.env)).any (·.1)=false:=by rfl)
 (hs1:starEach [Expr.Call (.Name "zip" p2) [e,e2] [] pos2] X.env=[(false,eval (Expr.Call (.Name "zip" p2) [e,e2] [] pos2) X.env)]:=by rfl):
 PE X (.Call (.Name "list" p) [.Call (.Name "zip" p2) [e,e2] [] pos2] [] pos) (tLZ X.K ta):=by
 intro a7q s U H Q I h
 refine wpAny_Call_Name_kw (X9 I hgl hml PyProof.Rows.boot_list ?_)
 refine PyProof.Rows.callWith_type1 ?_ (by rw[hs1];rfl) rfl
 rw[hs1]
 refine Calls.spliced_cons ?_
 refine wpAny_Call_Name_kw (X9 I hg hm an3 ?_)
 refine PyProof.Rows.callWith_type1 (F8 (ha pos2 a7q s U H _ I h) λus s1 ⟨vs,H1,I1,r1,q1⟩=> ?_) hs hpl
 obtain⟨a,b,xs,ys,ex,hqx,hqy,hxy,q⟩:=q1
 subst ex
 cases r1 with
 |cons r rr=>
  cases rr with
  |cons r' rr=>
   cases rr
   cases r
   cases r'
   obtain⟨its,rv,p1,hz1⟩:=I1.list hqx
   obtain⟨its2,rv2,p2',hz2⟩:=I1.list hqy
   have la:a<s1.heap.objs.size:=p1.lt
   have lb:b<s1.heap.objs.size:=p2'.lt
   refine call_zip_2 p1.isList p2'.isList λh2 hz hTI hTO h1 h2' hsz hk=> ?_
   refine Calls.spliced_nil ?_
   have D:=PySem.W.ktu_apart s1.heap.objs.size a b la lb
   have lx:=rv.length
   have ly:=rv2.length
   have nb:∀(k:Nat),s1.heap.objs.size+k<h2.objs.size\/5<=k:=λk=>by
    rw[hsz]
    rcases Nat.lt_or_ge k 5 with z|z
    ·exact .inl (Nat.add_lt_add_left z _)
    ·exact .inr z
   refine Zp.aD1 (s:={s1 with heap:=h2}) (xs:=its.toArray) (ys:=its2.toArray) (I.ok.hd hc) D (by simp only[a7K];lia) (by simp only[a7K];lia)
    ⟨hTI,h1,h2',p1.isList.at λo e=>hk _ o e,p2'.isList.at λo e=>hk _ o e,.inl ⟨hz,_,_,hTO⟩⟩ (a7I hTO) λh' tk acc c as hkp hL hal hG hacc=> ?_
   have keep:∀d o,s1.heap.get? d=some o->h'.get? d=some o:=λd o e=>by
    have hd:d<s1.heap.objs.size:=a7I e
    have off:∀k:Nat,d≠s1.heap.objs.size+k:=λk=>a7L (a7Y hd (a8M _ _))
    exact hkp d o (off 4) (off 3) (off 0) (off 1) (hk d o e)
   show EP X a7q U Q (.ref h2.objs.size) {s1 with heap:=h',toks:=tk}
   have hL:h'.get? h2.objs.size=some {cls:= .type "list",dict:=none,data:= .seq acc c,slots:= #[]}:=hL
   have hG:Zp.ZG its.toArray its2.toArray h2.objs.size h' as:=hG
   have hal:as.length=xs.length:=by rw[hal,a7K];lia
   have sL:s1.heap.objs.size<=h2.objs.size:=by rw[hsz];exact a8M _ _
   have nd:as.Nodup:=List.Pairwise.imp (λh=>a7L h) hG.rise
   generalize h2.objs.size=L at*
   let tv:List (List V):=(xs.zip ys).map λp=>[p.1,p.2]
   have tvat:∀{j:Nat} {x y:V},xs[j]? =some x->ys[j]? =some y->tv[j]? =some [x,y]:=λ{j x y} e1 e2=>by
    show((xs.zip ys).map λp=>[p.1,p.2])[j]? =_
    rw[a7t]
    have:(xs.zip ys)[j]? =some (x,y):=by rw[a8S];exact⟨e1,e2⟩
    rw[this]
    rfl
   let H':Hp:=λd=>if d=L then some (.lst (as.map V.ref))else match(as.zip tv).lookup d with|some t=>some (.tup t)|none=>H1 d
   have inAs:∀{d:Addr} {t:List V},(as.zip tv).lookup d=some t->L<d:=λ{d t} e=>by
    obtain⟨j,h1,_⟩:=ai1 e
    exact hG.above d (a7F h1)
   have old:∀d,d<s1.heap.objs.size->H' d=H1 d:=λd hd=>by
    have n1:d≠L:=a7L (a7Y hd sL)
    have n2:(as.zip tv).lookup d=none:=by
     cases e:(as.zip tv).lookup d with
     |none=>rfl
     |some t=>exact absurd (a7Y hd sL) (Nat.not_lt_of_gt (inAs e))
    show(if d=L then _ else _)=_
    rw[if_neg n1,n2]
   have atL:H' L=some (.lst (as.map V.ref)):=by show(if L=L then _ else _)=_;rw[if_pos rfl]
   have atT:∀{j:Nat} {t:Addr},as[j]? =some t->∃x y,xs[j]? =some x/\ys[j]? =some y/\H' t=some (.tup [x,y]):=λ{j t} ht=>by
    have hj:j<xs.length:=by rw[←hal];exact(a7x.mp ht).1
    have hj2:j<ys.length:=by lia
    have e1:=a7u hj
    have e2:=a7u hj2
    refine⟨_,_,e1,e2,?_⟩
    have n1:t≠L:=a8O (hG.above t (a7F ht))
    show(if t=L then _ else _)=_
    rw[if_neg n1,ay2 nd ht (tvat e1 e2)]
   have same:f9 H1 H':=λd o e=>by rw[old d (I1.hok.lt e)];exact e
   refine⟨.ref L,H',a7k I1 keep old (λd o hd e=> ?_),rfl,q L as H' same (I1.hok.fresh sL) atL hal λj t ht=>atT ht⟩
   have e:(if d=L then some (.lst (as.map V.ref))else match(as.zip tv).lookup d with|some t=>some (HO.tup t)|none=>H1 d)=some o:=e
   by_cases c1:d=L
   ·subst c1
    rw[if_pos rfl]at e
    cases e
    refine⟨by rw[a7r,hal];exact hz1,acc.toList,c,?_,by simpa using hL⟩
    rw[hacc]
    exact aG6 as
   ·rw[if_neg c1]at e
    cases c2:(as.zip tv).lookup d with
    |none=>
     rw[c2]at e
     exact absurd (I1.hok.lt e) (Nat.not_lt_of_ge hd)
    |some t=>
     rw[c2]at e
     cases e
     obtain⟨j,h1,h2⟩:=ai1 c2
     obtain⟨u1,u2,g1,g2,g3⟩:=hG.pairs j d h1
     have hj:j<xs.length:=by rw[←hal];exact(a7x.mp h1).1
     have hj2:j<ys.length:=by lia
     have e1:=a7u hj
     have e2:=a7u hj2
     rw[tvat e1 e2]at h2
     cases h2
     obtain⟨w1,q1,r1⟩:=rv.get e1
     obtain⟨w2,q2,r2⟩:=rv2.get e2
     have z1:u1=w1:=by
      have:its[j]? =some u1:=by simpa using g1
      rw[q1]at this
      exact(a7v this).symm
     have z2:u2=w2:=by
      have:its2[j]? =some u2:=by simpa using g2
      rw[q2]at this
      exact(a7v this).symm
     subst z1 z2
     exact⟨by show 2<=sizeLine;decide,[u1,u2],.cons r1 (.cons r2 .nil),⟨_,g3,rfl,_,rfl⟩⟩
end Mp
namespace Mp
open PySem PySem.Spec PyProof.Rows L2
open PySem.W (Codec)
def a6F(K:Frag)(ta:TE):TT:=λU H Q=>ta U H λx H'=>∃k,a5h K x H' k/\Q k H'
theorem aG7{X:Cx}{a:Expr}{ta:TE}(K:Frag)(hK:X.K=K)(ha:PE X a ta)(he:∀whole,isTrue a X.env whole=(do let v ←whole;standAt a.pos;holding [v] (truthy v))):PT X a (a6F K ta):=hK▸Q5 ha he
def T3(K:Frag)(bs:List a7s)(p:Nat×Nat)(v:V)(H:Hp):Prop:=∃q ax,v= .ref q/\v7 K H q [.int (p.1:Int),.int (p.2:Int),.ref ax]/\v7 K H ax [.bl (a8V (bodyAt bs p.1) (bodyAt bs p.2)).1,.bl (a8V (bodyAt bs p.1) (bodyAt bs p.2)).2]
def ay3(bs:List a7s)(met:List (Nat×Nat)):List (Int×Int):=(N9 bs (Vbwsam.edges bs true met) true).zip (N9 bs (Vbwsam.edges bs false met) false)
theorem N0(bs:List a7s)(es:List (Nat×Nat))(x:Bool):(N9 bs es x).length=bs.length:=by
 unfold N9
 have:∀(gs:List (List Nat)) (b:List Int),(gs.foldl (ac6 bs es x) b).length=b.length:=λgs=>by
  induction gs with
  |nil=>intro b;rfl
  |cons g r ih=>intro b;rw[a8P,ih];exact T4 _ _
 rw[this]
 unfold F3
 exact a7r _
theorem a02{K:Frag}{G:Hp}:∀{A B:List Int} {ts:List Addr},B.length=A.length->ts.length=A.length->(∀(j:Nat) (t:Addr),ts[j]? =some t->∃x y,(A.map V.int)[j]? =some x/\(B.map V.int)[j]? =some y/\G t=some (.tup [x,y]))->
 Paired (λ(w:Int×Int) y=>∃q,y=V.ref q/\v7 K G q [.int w.1,.int w.2]) (A.zip B) (ts.map V.ref)
 |[],[],[],_,_,_=> .nil
 |a::A,b::B,t::ts,h1,h2,h=>by
  refine .cons ⟨t,rfl,?_⟩ (a02 (by simpa using h1) (by simpa using h2) (λj u hu=> ?_))
  ·obtain⟨x,y,e1,e2,e3⟩:=h 0 t rfl
   cases e1
   cases e2
   exact v7.of e3
  ·obtain⟨x,y,e1,e2,e3⟩:=h (j+1) u (by simpa using hu)
   exact⟨x,y,by simpa using e1,by simpa using e2,e3⟩
 |[],_::_,_,h,_,_=>by simp at h
 |_::_,[],_,h,_,_=>by simp at h
 |[],[],_::_,_,h,_=>by simp at h
 |_::_,_::_,[],_,h,_=>by simp at h
abbrev C3:Stmt:=O7 34
section
variable{P:Program}{w:World}{K:Frag}{mg:Str->Option Value}{base:Heap}{C:Addr}
def a5M(K:Frag)(C:Addr):Sp:=λvs H Q _=>∃(l pl:Addr) (as:List Addr) (bs:List a7s) (met:List (Nat×Nat)),vs=[.ref l,.ref pl]/\m8 K C H l as bs/\A2 K H pl met/\Ok bs/\(∀p∈met,p.1<bs.length/\p.2<bs.length)/\met.length<=10000/\
 ∀p G,f9 H G->H p=none->M8 K G p (ay3 bs met)->Q (.ref p) G
theorem Q8:n8 ["bodies","met","blocked","in_x","in_y","i","j","axes"] ["bodies","met"] (g9 C3):=⟨rfl,rfl,rfl,by decide+kernel,rfl,by decide+kernel,by decide+kernel⟩
theorem ac7{f:Addr}{fd:FuncData}(F:M3 K "velocities_behind" "velocities_behind" C3 f fd)(b_zip:mg "zip"=none)(b_list:mg "list"=none)
 (D_blocked_axes:Df P w K mg base "blocked_axes" 4 ["one","other"] (an7 K C)) (D_speeds_behind:Df P w K mg base "speeds_behind" 4 ["bodies","pairs","axis"] (a5L K C)):A7 P w K mg base M2 5 f fd ["bodies","met"] (a5M K C):=by
 refine F.ok Q8 (λvs H Q E h=> ?_) (λcdv A outer s H vs Q E hr h=> ?_)
 ·obtain⟨l,pl,as,bs,met,rfl,_⟩:=h
  rfl
 ·obtain⟨l,pl,as,bs,met,rfl,hB,hP,ok,hmet,hml,k⟩:=h
  have nd:=Q8.nd
  refine⟨_,(e9 (L3 (i:=2) rfl nd rfl rfl rfl (own:=[("i",5),("j",6)]) (A3 (pv 1)) (by show E5 ["bodies","met","blocked","in_x","in_y","i","j","axes"] (g9 C3) _ _;exact⟨rfl,by decide+kernel,by decide+kernel,by decide+kernel,by decide+kernel⟩)
   (λ_ _ _ _ _=>by refine J5 (i:=5) (j:=6) K ?_ ?_ ?_ ?_ ?_ ?_ ?_<;>first|rfl|assumption)
   (λ_ _ _ _ _=>by exact D8)
   (λ_ _ _ _ _=>by exact(p8 (e8 (pv 5) (e8 (pv 6) (e8 (A0 D_blocked_axes hr (by rfl) (e8 (Q2 K rfl (pv 0) (pv 5) (λ_ _=>rfl)) (e8 (Q2 K rfl (pv 0) (pv 6) (λ_ _=>rfl)) f7))) f7))))))
   (e9 (j9 (i:=3) nd rfl (Or.inl rfl) (A0 D_speeds_behind hr (by rfl) (e8 (pv 0) (e8 (R0 (own:=[("i",5),("j",6),("axes",7)]) rfl nd (A3 (pv 2)) (by show E5 ["bodies","met","blocked","in_x","in_y","i","j","axes"] (g9 C3) _ _;exact⟨rfl,by decide+kernel,by decide+kernel,by decide+kernel,by decide+kernel⟩)
    (λ_ _ _ _ _=>by refine aZ2 (i:=5) (j:=6) (k:=7) K ?_ ?_ ?_ ?_ ?_ ?_ ?_ ?_ ?_<;>first|rfl|assumption)
    (λ_ _ _ _ _=>by exact(Y3 (aG7 K rfl (U5 K rfl (pv 7) f6 (λ_ _=>rfl)) (λ_=>rfl))))
    (λ_ _ _ _ _=>by exact(p8 (e8 (pv 5) (e8 (pv 6) f7))))) (e8 f6 f7)))))
   (e9 (j9 (i:=4) nd rfl (Or.inl rfl) (A0 D_speeds_behind hr (by rfl) (e8 (pv 0) (e8 (R0 (own:=[("i",5),("j",6),("axes",7)]) rfl nd (A3 (pv 2)) (by show E5 ["bodies","met","blocked","in_x","in_y","i","j","axes"] (g9 C3) _ _;exact⟨rfl,by decide+kernel,by decide+kernel,by decide+kernel,by decide+kernel⟩)
    (λ_ _ _ _ _=>by refine aZ2 (i:=5) (j:=6) (k:=7) K ?_ ?_ ?_ ?_ ?_ ?_ ?_ ?_ ?_<;>first|rfl|assumption)
    (λ_ _ _ _ _=>by exact(Y3 (aG7 K rfl (U5 K rfl (pv 7) f6 (λ_ _=>rfl)) (λ_=>rfl))))
    (λ_ _ _ _ _=>by exact(p8 (e8 (pv 5) (e8 (pv 6) f7))))) (e8 f6 f7)))))
   (f8 (l8 (aZ6 rfl (by rfl) b_zip (by rfl) b_list (e8 (pv 3) (e8 (pv 4) f7)))))))),?_⟩
  have hmz:met.length<=sizeLine:=a7G hml (by decide)
  obtain⟨ys,p1,p2⟩:=hP.ex
  refine⟨_,rfl,pl,rfl,⟨_,n9.of p1⟩,λkl nkl=> ?_⟩
  refine lcR nkl (n9.of p1) (os:=met.map some) (by rw[a7r,Paired.length p2]) (by rw[a7r];exact hmz) (λp y H=>T3 K bs p y H)
   (λp y H G ys hl ⟨q,ax,e,t1,t2⟩ kG=>⟨q,ax,e,kG.tup hl t1,kG.tup hl t2⟩) (λi v o H' zs hv ho sH hD=> ?_) (λG1 acc s1 hkl hk=> ?_)
  ·intro Rt Rv _ hR
   obtain⟨p,hp,q,rfl,tq⟩:=Paired.at2 p2 hv
   rw[a7t,hp]at ho
   have bnd:=hmet p (a7F hp)
   have hBH:=hB.same sH
   have body:∀{i:Nat},i<bs.length->∃a,(as.map V.ref)[i]? =some (.ref a)/\A9 K C H' a (bodyAt bs i):=λ{i} hi=>by
    have e:bs[i]? =some (bodyAt bs i):=by unfold bodyAt;rw[a7y,a7u hi];rfl
    obtain⟨a,ha,r⟩:=Paired.at2 hBH.bd e
    exact⟨a,by rw[a7t,ha];rfl,r⟩
   have wyB:∀{i:Nat},i<bs.length->Wy (bodyAt bs i).v.x/\Wy (bodyAt bs i).v.y:=λ{i} hi=>by
    obtain⟨⟨v1,v2⟩,v3,v4⟩:=ok.vel i hi
    exact⟨⟨by lia,by lia⟩,⟨by lia,by lia⟩⟩
   obtain⟨x1,e1,b1⟩:=body bnd.1
   obtain⟨x2,e2,b2⟩:=body bnd.2
   refine⟨q,_,rfl,f9.tup sH tq,rfl,_,_,rfl,_,_,rfl,rfl,rfl,B3 (B:=Rt H') ?_⟩
   refine⟨_,rfl,_,rfl,?_⟩
   refine⟨_,rfl,_,rfl,l,_,_,_,rfl,rfl,n9.of hBH.lst,z7 e1,?_⟩
   refine⟨_,rfl,_,rfl,l,_,_,_,rfl,rfl,n9.of hBH.lst,z7 e2,?_⟩
   refine⟨x1,x2,_,_,rfl,b1,b2,⟨ok.gd _ bnd.1,ok.gd _ bnd.2,wyB bnd.1,wyB bnd.2⟩,⟨ok.moves bnd.1,ok.moves bnd.2⟩,λax G' s' _ tax=> ?_⟩
   refine⟨by show 3<=sizeLine;decide,λt G2 s2 _ tt=>hR p (a7v ho).symm _ G2 (s'.trans s2) ⟨t,ax,rfl,v7.of tt,v7.of (s2 _ _ tax)⟩⟩
  rw[show(met.map some).filterMap id=met by simp[a71]]at hk
  refine⟨_,rfl,_,rfl,kl,rfl,⟨_,n9.of hkl⟩,λel nel=> ?_⟩
  refine lcR nel (n9.of hkl) (os:=met.map λp=>if(a8V (bodyAt bs p.1) (bodyAt bs p.2)).1=true then some p else none) (by rw[a7r,Paired.length hk]) (by rw[a7r];exact hmz) (λp y H=>T2 K p.1 p.2 y H)
   (λb y H G ys hl r kG=>T2.kp r hl kG) (λi v o H' zs hv ho sH hD=> ?_) (λG2 acc s2 hE hEp=> ?_)
  ·intro Rt Rv hRt hR
   obtain⟨p,hp,q,ax,rfl,tq,tax⟩:=Paired.at2 hk hv
   rw[a7t,hp]at ho
   have ho:(if(a8V (bodyAt bs p.1) (bodyAt bs p.2)).1=true then some p else none)=o:=a7v ho
   have tq':=f9.tup (sH) tq
   have tax':=f9.tup (sH) tax
   refine⟨q,_,rfl,tq',rfl,_,_,rfl,_,_,rfl,_,_,rfl,rfl,rfl,?_⟩
   refine⟨_,rfl,ax,_,_,_,rfl,rfl,tax',rfl,_,rfl,?_⟩
   refine z8 (λhc=> ?_) (λhc=> ?_)
   ·rw[if_pos hc]at ho
    exact⟨_,rfl,_,rfl,by show 2<=sizeLine;decide,λz G' s' _ t'=>hR p ho.symm _ G' s' ⟨z,rfl,v7.of t'⟩⟩
   ·rw[if_neg hc]at ho
    exact hRt ho.symm H' (f9.refl _)
  rw[aQ7 (λp:Nat×Nat=>(a8V (bodyAt bs p.1) (bodyAt bs p.2)).1)]at hEp
  have hEx:A2 K G2 el (Vbwsam.edges bs true met):=⟨acc,hE,hEp⟩
  have hes:∀x:Bool,∀p∈Vbwsam.edges bs x met,p.1<bs.length/\p.2<bs.length:=λx p hp=>hmet p (a7X.mp hp).1
  refine⟨l,el,as,bs,_,true,rfl,hB.same (s1.trans s2),hEx,ok.few,hes true,λxl G3 s3 n3 tx=> ?_⟩
  have hkl3:=s3 _ _ (s2 _ _ hkl)
  have s23:=s2.trans s3
  refine⟨_,rfl,_,rfl,kl,rfl,⟨_,n9.of hkl3⟩,λel nel=> ?_⟩
  refine lcR nel (n9.of hkl3) (os:=met.map λp=>if(a8V (bodyAt bs p.1) (bodyAt bs p.2)).2=true then some p else none) (by rw[a7r,Paired.length hk]) (by rw[a7r];exact hmz) (λp y H=>T2 K p.1 p.2 y H)
   (λb y H G ys hl r kG=>T2.kp r hl kG) (λi v o H' zs hv ho sH hD=> ?_) (λG4 acc s4 hE hEp=> ?_)
  ·intro Rt Rv hRt hR
   obtain⟨p,hp,q,ax,rfl,tq,tax⟩:=Paired.at2 hk hv
   rw[a7t,hp]at ho
   have ho:(if(a8V (bodyAt bs p.1) (bodyAt bs p.2)).2=true then some p else none)=o:=a7v ho
   have tq':=f9.tup (s23.trans sH) tq
   have tax':=f9.tup (s23.trans sH) tax
   refine⟨q,_,rfl,tq',rfl,_,_,rfl,_,_,rfl,_,_,rfl,rfl,rfl,?_⟩
   refine⟨_,rfl,ax,_,_,_,rfl,rfl,tax',rfl,_,rfl,?_⟩
   refine z8 (λhc=> ?_) (λhc=> ?_)
   ·rw[if_pos hc]at ho
    exact⟨_,rfl,_,rfl,by show 2<=sizeLine;decide,λz G' s' _ t'=>hR p ho.symm _ G' s' ⟨z,rfl,v7.of t'⟩⟩
   ·rw[if_neg hc]at ho
    exact hRt ho.symm H' (f9.refl _)
  rw[aQ7 (λp:Nat×Nat=>(a8V (bodyAt bs p.1) (bodyAt bs p.2)).2)]at hEp
  have hEy:A2 K G4 el (Vbwsam.edges bs false met):=⟨acc,hE,hEp⟩
  refine⟨l,el,as,bs,_,false,rfl,hB.same (s1.trans (s23.trans s4)),hEy,ok.few,hes false,λyl G5 s5 n5 ty=> ?_⟩
  have tx5:=s5 _ _ (s4 _ _ tx)
  have sA:=s1.trans (s23.trans (s4.trans s5))
  refine⟨_,rfl,_,rfl,xl,yl,_,_,rfl,n9.of tx5,n9.of ty,by rw[a7r,a7r,N0,N0],λrl ts G6 s6 n6 t6 hlen hts=>k rl G6 (sA.trans s6) (sA.free n6) ⟨_,t6,?_⟩⟩
  exact a02 (by rw[N0,N0]) (by rw[hlen,a7r]) hts
end
end Mp
namespace Mp
open PySem PySem.Spec PyProof.Rows L2
open PySem.W (Codec)
open Vbwsam (bodyAt going clash clashBy moves zeroPair meetings partOnce part behind edges pairsOf)
theorem a3b(bs:List a7s):∀(f:Nat) (stay:List Nat) (met:List (Nat×Nat)),(∀p∈met,p.1<bs.length/\p.2<bs.length)->∀p∈(Vbwsam.meetings bs f stay met).1,p.1<bs.length/\p.2<bs.length
 |0,stay,met,h=>h
 |f+1,stay,met,h=>by
  by_cases e:y9 bs stay=[]
  ·rw[Q1 e];exact h
  ·rw[Q0 e]
   refine a3b bs f _ _ (λp hp=> ?_)
   rcases a77.mp hp with q|q
   ·exact h p q
   ·have:=J1.mp (a7X.mp q).1
    lia
theorem a15(n:Nat):(pairsOf n).length<=n*n:=by
 have:∀l:List Nat,(l.flatMap λi=>((a7J n).filter λj=>decide (i<j)).map λj=>(i,j)).length<=l.length*n:=λl=>by
  induction l with
  |nil=>simp
  |cons a r ih=>
   rw[a9l,a7M,a7r,a7O,Nat.succ_mul]
   have:=a75 (λj=>decide (a<j)) (a7J n)
   rw[a70]at this
   lia
 have h:=this (a7J n)
 rw[a70]at h
 exact h
theorem a03(bs:List a7s)(hn:bs.length<=20):∀(f:Nat) (stay:List Nat) (met:List (Nat×Nat)),(Vbwsam.meetings bs f stay met).1.length<=met.length+f*400
 |0,stay,met=>by show met.length<=_;lia
 |f+1,stay,met=>by
  by_cases e:y9 bs stay=[]
  ·rw[Q1 e];show met.length<=_;lia
  ·rw[Q0 e]
   refine a7G (a03 bs hn f _ _) ?_
   rw[a7M]
   have h1:(y9 bs stay).length<=(pairsOf bs.length).length:=a75 _ _
   have h2:=a15 bs.length
   have h3:bs.length*bs.length<=20*20:=Nat.mul_le_mul hn hn
   lia
theorem a04(bs:List a7s):∀p∈aC9 bs,p.1<bs.length/\p.2<bs.length:=a3b bs _ _ _ (λp h=>by cases h)
theorem ay4(bs:List a7s)(hn:bs.length<=20):(aC9 bs).length<=10000:=by
 have:=a03 bs hn (bs.length+1) [] []
 have e:(aC9 bs).length<=0+(bs.length+1)*400:=this
 lia
theorem aZ7(bs:List a7s)(i:Nat):(T5 bs i).hard=(bodyAt bs i).hard/\(T5 bs i).heavy=(bodyAt bs i).heavy:=by unfold T5;split<;>exact⟨rfl,rfl⟩
theorem a4l(bs:List a7s){i:Nat}(hi:i<bs.length):(ay3 bs (aC9 bs))[i]? =some (wy (T5 bs i).v):=by
 have he:∀x:Bool,∀p∈edges bs x (aC9 bs),p.1<bs.length/\p.2<bs.length:=λx p hp=>a04 bs p (a7X.mp hp).1
 unfold ay3
 refine a8S.mpr ?_
 rw[aG4 (he true) hi,aG4 (he false) hi]
 unfold T5 a79
 by_cases c:(bodyAt bs i).kind=0
 ·simp[c,wy,Vbwsam.part]
 ·simp[c,wy]
theorem a3c(bs:List a7s):ay3 bs []=bs.map λb=>wy b.v:=by
 have e:∀x:Bool,N9 bs (edges bs x []) x=F3 bs x:=λx=>by
  have hl:O4 bs []=[]:=by
   refine List.eq_nil_iff_forall_not_mem.mpr λi hi=> ?_
   have:=(ao1.mp hi).2.1
   simp[P4,F9]at this
  show N9 bs [] x=_
  unfold N9 ak1
  rw[hl]
  rfl
 unfold ay3
 rw[e true,e false]
 unfold F3
 rw[List.zip_map']
 rfl
theorem R9{α:Type}{F:α->a7s->Prop}:∀{as:List α} {bs:List a7s},as.length=bs.length->(∀(k:Nat) (a:α),as[k]? =some a->F a (bodyAt bs k))->Paired F as bs
 |[],[],_,_=> .nil
 |a::as,b::bs,h,hF=> .cons (hF 0 a rfl) (R9 (by simpa using h) λk x hx=>hF (k+1) x hx)
 |[],_::_,h,_=>by simp at h
 |_::_,[],h,_=>by simp at h
def Bt(as:List Addr)(H G:Hp):Prop:=∀b o,b∉as->H b=some o->G b=some o
theorem Bt.refl{as:List Addr}{H:Hp}:Bt as H H:=λ_ _ _ h=>h
theorem Bt.trans{as:List Addr}{H G L:Hp}(k:Bt as H G)(k':Bt as G L):Bt as H L:=λb o n h=>k' b o n (k b o n h)
theorem Bt.of{as:List Addr}{H G:Hp}(s:f9 H G):Bt as H G:=λb o _ h=>s b o h
theorem Bt.put{as:List Addr}{H:Hp}{a:Addr}{o:HO}(h:a∈as):Bt as H (A6 H a o):=λb u n e=>by
 have z:b≠a:=λz=>n (by rw[z];exact h)
 rw[j6 z]
 exact e
theorem m8.ins{K:Frag}{C:Addr}{H:Hp}{l:Addr}{as:List Addr}{bs:List a7s}(h:m8 K C H l as bs){a:Addr}(ha:a∈as):∃dx fs,H a=some (.ins C dx fs):=by
 obtain⟨k,hk⟩:=a8Z ha
 obtain⟨b,_,r⟩:=Paired.at_ h.bd hk
 obtain⟨dx,ha,pa,va,h1,_⟩:=r.ex
 exact⟨_,_,h1⟩
def a6G(t:TS):TS:=λD U H=>∃R:L2.St->Hp->Prop,t {D with nx:=R} U H/\∀σ' H',R σ' H'->D.nx σ' H'
theorem aK9{X:Cx}{st:Stmt}{t:TS}(h:PS X st t):PS X st (a6G t):=by
 intro a7q s U H D I ⟨R,h1,h2⟩
 refine F8 (h a7q s U H {D with nx:=R} I h1) λf s1 q=> ?_
 cases f with
 |next=>
  obtain⟨σ',H',I',q⟩:=q
  exact⟨σ',H',I',h2 _ _ q⟩
 |ret v=>exact q
 |brk=>exact q
 |cont=>exact q
theorem a5N{b b':a7s}{ha pa va pa' va':Addr}(hs:b'.shape=b.shape)(hk:b'.kind=b.kind)(hh:b'.hard=b.hard)(hv:b'.heavy=b.heavy):B2 "velocity" (.ref va') (B2 "place" (.ref pa') (bdF b ha pa va))=bdF b' ha pa' va':=by
 unfold bdF
 rw[hs,hk,hh,hv]
 rfl
theorem C9{K:Frag}{H:Hp}{a q C dx:Addr}{fs:List (Str×V)}{xs:List V}{o:HO}(ha:H a=some (.ins C dx fs))(h:v7 K H q xs):v7 K (A6 H a o) q xs:=by
 rcases h with(h|⟨o',h⟩)|h
 ·exact .inl (.inl (by rw[j6 (B7 h ha (by intro z;cases z))];exact h))
 ·exact .inl (.inr ⟨o',by rw[j6 (B7 h ha (by intro z;cases z))];exact h⟩)
 ·exact .inr h
theorem ak5{K:Frag}{H:Hp}{a a' C dx:Addr}{fs:List (Str×V)}{b:a7s}{o:HO}(ha:H a=some (.ins C dx fs))(n:a'≠a)(h:A9 K C H a' b):A9 K C (A6 H a o) a' b:=by
 obtain⟨dx,x1,x2,x3,h1,h2,h3,h4⟩:=h.ex
 exact⟨dx,x1,x2,x3,by rw[j6 n];exact h1,C9 ha h2,C9 ha h3,C9 ha h4⟩
theorem Bt.lst{K:Frag}{C:Addr}{H G:Hp}{l q:Addr}{as:List Addr}{bs:List a7s}{xs:List V}(k:Bt as H G)(hB:m8 K C H l as bs)(h:H q=some (.lst xs)):G q=some (.lst xs):=by
 refine k _ _ (λm=> ?_) h
 obtain⟨dx,fs,e⟩:=hB.ins m
 rw[h]at e
 cases e
theorem Bt.tup{K:Frag}{C:Addr}{H G:Hp}{l q:Addr}{as:List Addr}{bs:List a7s}{xs:List V}(k:Bt as H G)(hB:m8 K C H l as bs)(h:v7 K H q xs):v7 K G q xs:=by
 have f:∀{o:HO},H q=some o->(∀dx fs,o≠.ins C dx fs)->G q=some o:=λ{o} e ne=>by
  refine k _ _ (λm=> ?_) e
  obtain⟨dx,fs,e'⟩:=hB.ins m
  rw[e]at e'
  exact ne dx fs (a7v e')
 rcases h with(h|⟨o',h⟩)|h
 ·exact .inl (.inl (f h (by intro _ _ z;cases z)))
 ·exact .inl (.inr ⟨o',f h (by intro _ _ z;cases z)⟩)
 ·exact .inr h
theorem Bt.pairs{K:Frag}{C:Addr}{H G:Hp}{l q:Addr}{as:List Addr}{bs:List a7s}{ps:List (Nat×Nat)}(k:Bt as H G)(hB:m8 K C H l as bs)(h:A2 K H q ps):A2 K G q ps:=by
 obtain⟨ys,h1,h2⟩:=h.ex
 exact⟨ys,k.lst hB h1,Paired.monoP (λ_ _ ⟨q,e,t⟩=>⟨q,e,k.tup hB t⟩) h2⟩
abbrev af5:Stmt:=O7 35
section
variable{P:Program}{w:World}{K:Frag}{mg:Str->Option Value}{base:Heap}{C:Addr}
def a5O(K:Frag)(C:Addr):Sp:=λvs H Q _=>∃(l:Addr) (as:List Addr) (bs:List a7s),vs=[.ref l]/\m8 K C H l as bs/\Ok bs/\
 ∀p G,Bt as H G->H p=none->m8 K C G l as (partOnce bs).1->A2 K G p (partOnce bs).2->Q (.ref p) G
theorem ay5:n8 ["bodies","found","met","ways","velocities","body","way","velocity"] ["bodies"] (g9 af5):=⟨rfl,rfl,rfl,by decide+kernel,rfl,by decide+kernel,by decide+kernel⟩
theorem aZ8{f:Addr}{fd:FuncData}(F:M3 K "do_part" "do_part" af5 f fd)(cB:ab9 K C)(b_zip:mg "zip"=none)
 (D_find_met:Df P w K mg base "find_met" 5 ["bodies"] (aY1 K C)) (D_velocities_behind:Df P w K mg base "velocities_behind" 5 ["bodies","met"] (a5M K C)):A7 P w K mg base M2 6 f fd ["bodies"] (a5O K C):=by
 refine F.ok ay5 (λvs H Q E h=> ?_) (λcdv A outer s H vs Q E hr h=> ?_)
 ·obtain⟨l,as,bs,rfl,_⟩:=h
  rfl
 ·obtain⟨l,as,bs,rfl,hB,ok,k⟩:=h
  have nd:=ay5.nd
  obtain⟨cl,-,-,c3,-,-,-,c7⟩:=cB
  refine⟨_,(e9 (j9 (i:=1) nd rfl (Or.inl rfl) (A0 D_find_met hr (by rfl) (e8 (pv 0) f7)))
   (e9 (j9 (i:=2) nd rfl (Or.inl rfl) (i9 j5 (pv 1) f6 (λ_ _=>rfl)))
   (e9 (j9 (i:=3) nd rfl (Or.inl rfl) (i9 j5 (pv 1) f6 (λ_ _=>rfl)))
   (e9 (aK9 (B8 (Q5 (pv 2) (λ_=>rfl))
    (f8 (j9 (i:=4) nd rfl (Or.inl rfl) (A0 D_velocities_behind hr (by rfl) (e8 (pv 0) (e8 (pv 2) f7)))))
    (f8 (L3 (i:=4) rfl nd rfl rfl rfl (own:=[("body",5)]) (A3 (pv 0)) (by show E5 ["bodies","found","met","ways","velocities","body","way","velocity"] (g9 af5) _ _;exact⟨rfl,by decide+kernel,by decide+kernel,by decide+kernel,by decide+kernel⟩)
     (λ_ _ _ _ _=>by exact z9 (i:=5) nd (by rfl) (by exact Or.inl rfl) (by exact Or.inr rfl))
     (λ_ _ _ _ _=>by exact D8)
     (λ_ _ _ _ _=>by exact(Y6 K rfl (pv 5) rfl))))))
   (e9 (E9 PassesOwn.never rfl (a4k (by rfl) b_zip (e8 (pv 0) (e8 (pv 3) (e8 (pv 4) f7)))) (by refine aZ2 (i:=5) (j:=6) (k:=7) K ?_ ?_ ?_ ?_ ?_ ?_ ?_ ?_ ?_<;>first|rfl|assumption)
    (e9 (F1 (pv 5) (p8 (e8 (m9 B0 (i9 j5 (j7 (pv 5) rfl) f6 (λ_ _=>rfl)) (i9 j5 (pv 6) f6 (λ_ _=>rfl))) (e8 (m9 B0 (i9 j5 (j7 (pv 5) rfl) f6 (λ_ _=>rfl)) (i9 j5 (pv 6) f6 (λ_ _=>rfl))) f7))) rfl)
    (f8 (F1 (pv 5) (pv 7) rfl))))
   (f8 (l8 (pv 2)))))))),?_⟩
  have hn:=hB.len
  refine⟨_,rfl,l,as,bs,rfl,hB,ok,λp ml wl G1 s1 nml tp hM hW=> ?_⟩
  refine⟨_,rfl,p,_,_,_,rfl,rfl,tp,rfl,?_⟩
  refine⟨_,rfl,p,_,_,_,rfl,rfl,tp,rfl,?_⟩
  obtain⟨ys,m1,m2⟩:=hM.ex
  have hB1:=hB.same s1
  refine⟨λσ' G=>∃vl,σ'=[some (.ref l),some (.ref p),some (.ref ml),some (.ref wl),some (.ref vl),none,none,none]/\f9 G1 G/\M8 K G vl (ay3 bs (aC9 bs)),?_,?_⟩
  ·refine⟨_,rfl, !ys.isEmpty,.inl ⟨ys,n9.of m1,rfl⟩,?_⟩
   refine z8 (λhh=> ?_) (λhh=> ?_)
   ·exact⟨_,rfl,_,rfl,l,ml,as,bs,aC9 bs,rfl,hB1,hM,ok,a04 bs,ay4 bs ok.few,λvl G2 s2 n2 h2=>⟨vl,rfl,s2,h2⟩⟩
   ·have e:aC9 bs=[]:=by
     have:ys=[]:=by simpa using hh
     subst this
     have:=Paired.length m2
     exact a8C this
    refine⟨_,rfl,l,rfl,⟨_,n9.of hB1.lst⟩,λvl nv=> ?_⟩
    refine lcR nv (n9.of hB1.lst) (os:=(bs.map λb=>wy b.v).map some) (by rw[a7r,a7r,a7r,hn]) (by rw[a7r,a7r];exact a7G ok.few (by decide)) (λp y H=>T2 K p.1 p.2 y H)
     (λb y H G ys hl r kG=>T2.kp r hl kG) (λi y o H' zs hv ho sH hD=> ?_) (λG2 acc s2 hE hEp=> ?_)
    ·intro Rt Rv _ hR
     obtain⟨a,b,rfl,ha,hb,hbd⟩:=hB1.item hv
     obtain⟨dx,hai,pai,vai,i1,i2,i3,i4⟩:=(hbd.same sH).ex
     rw[a7t,a7t,hb]at ho
     refine⟨rfl,B3 (B:=Rt H') ?_⟩
     exact⟨_,rfl,_,_,_,_,_,rfl,i1,cl,c7,rfl,hR _ (a7v ho).symm _ H' (f9.refl _) ⟨vai,rfl,i4⟩⟩
    rw[show((bs.map λb=>wy b.v).map some).filterMap id=bs.map λb=>wy b.v by simp[a71]]at hEp
    refine⟨vl,rfl,s2,?_⟩
    rw[e,a3c]
    exact⟨acc,hE,hEp⟩
  ·rintro σ' G2 ⟨vl,rfl,s2,hV⟩
   have hB2:=hB1.same s2
   obtain⟨ws,w1,w2⟩:=(hW.same s2).ex
   obtain⟨vs,v1,v2⟩:=hV.ex
   have lw:ws.length=bs.length:=by rw[←Paired.length w2,O9]
   have lv:vs.length=bs.length:=by rw[←Paired.length v2];unfold ay3;rw[a9y,N0,N0,a9S]
   have lx:(as.map V.ref).length=bs.length:=by rw[a7r,hn]
   refine⟨_,rfl,_,rfl,_,rfl,l,wl,vl,_,_,_,rfl,n9.of hB2.lst,n9.of w1,n9.of v1,a26 (K:=K) (a:=l) (b:=wl) (c:=vl) (xs:=as.map V.ref) (ys:=ws) (zs:=vs) (λi U G=>(∃u5 u6 u7:Option V,U=[some (.ref l),some (.ref p),some (.ref ml),some (.ref wl),some (.ref vl),u5,u6,u7])/\Bt as G2 G/\∀(j:Nat) (a:Addr),as[j]? =some a->A9 K C G a (if j<i then T5 bs j else bodyAt bs j))
    ⟨⟨none,none,none,rfl⟩,Bt.refl,λj a ha=> ?_⟩ (λi U G _ ⟨_,h,_⟩=>⟨n9.of (h.lst hB2 hB2.lst),n9.of (h.lst hB2 w1),n9.of (h.lst hB2 v1)⟩) (by rw[lw,lx]) (by rw[lv,lx]) ?_ ?_⟩
   ·rw[if_neg (a8Q _)]
    obtain⟨b,hb,r⟩:=Paired.at_ hB2.bd ha
    have:bodyAt bs j=b:=by unfold bodyAt;rw[a7y,hb];rfl
    rw[this]
    exact r
   ·rintro i x y z U G G' T hx hy hz ⟨⟨u5,u6,u7,rfl⟩,bG,hbs⟩ sG nT hT
    obtain⟨a,b,rfl,ha,hb,-⟩:=hB2.item hx
    have hi:i<bs.length:=(a7x.mp hb).1
    obtain⟨w0,hw0,wq,rfl,tw⟩:=Paired.at2 w2 hy
    obtain⟨v0,hv0,vq,rfl,tv⟩:=Paired.at2 v2 hz
    rw[show(meetings bs (bs.length+1) [] []).2=E8 bs from rfl,P2 hi]at hw0
    rw[a4l bs hi]at hv0
    cases hw0
    cases hv0
    have tw':=f9.tup sG (bG.tup hB2 tw)
    have tv':=f9.tup sG (bG.tup hB2 tv)
    have hbi:=hbs i a ha
    rw[if_neg (a8I _)]at hbi
    obtain⟨dx,hai,pai,vai,i1,i2,i3,i4⟩:=(hbi.same sG).ex
    refine⟨T,_,rfl,v7.of hT,rfl,_,_,rfl,_,_,rfl,_,_,rfl,rfl,?_⟩
    walk_at "rd"
    refine⟨by show 2<=sizeLine;decide,λt G3 s3 _ ht=> ?_⟩
    have j1:=s3 _ _ i1
    refine⟨_,rfl,a,C,_,_,rfl,j1,cl,c3,by show 7<1000;decide,?_⟩
    refine⟨_,rfl,_,rfl,a,C,_,_,rfl,i8,cl,c7,by show 7<1000;decide,?_⟩
    have am:a∈as:=a7F ha
    refine⟨⟨_,_,_,rfl⟩,bG.trans ((Bt.of (sG.trans s3)).trans ((Bt.put am).trans (Bt.put am))),λj a' ha'=> ?_⟩
    by_cases hji:j=i
    ·subst hji
     rw[ha]at ha'
     cases ha'
     rw[if_pos (a9L _)]
     obtain⟨r1,r2⟩:=aZ7 bs j
     refine⟨dx,hai,t,vq,?_,?_,?_,?_⟩
     ·rw[i8,a5N (Q7 bs j) (ax9 bs j) r1 r2]
     ·rw[Q7]
      exact C9 i8 (C9 j1 (f9.tup s3 i2))
     ·rw[ak3]
      exact C9 i8 (C9 j1 (v7.of ht))
     ·exact C9 i8 (C9 j1 (f9.tup s3 tv'))
    ·have ne:a'≠a:=by
      rintro rfl
      have h1:=a7x.mp ha
      have h2:=a7x.mp ha'
      obtain⟨l1,e1⟩:=h1
      obtain⟨l2,e2⟩:=h2
      exact hji ((getElem_inj hB.nd).mp (e2.trans e1.symm))
     have:=ak5 (o:=HO.ins C dx (B2 "velocity" (.ref vq) (B2 "place" (.ref t) (bdF (bodyAt bs i) hai pai vai)))) i8 ne (ak5 (o:=HO.ins C dx (B2 "place" (.ref t) (bdF (bodyAt bs i) hai pai vai))) j1 ne (((hbs j a' ha').same sG).same s3))
     by_cases hlt:j<i
     ·rw[if_pos hlt]at this
      rw[if_pos (by lia)]
      exact this
     ·rw[if_neg hlt]at this
      rw[if_neg (by lia)]
      exact this
   ·rintro U G ⟨⟨u5,u6,u7,rfl⟩,bG,hbs⟩
    refine⟨_,rfl,k ml G ((Bt.of (s1.trans s2)).trans bG) nml ⟨bG.lst hB2 hB2.lst,hB.nd,R9 (by rw[ax8,hn]) λj a ha=> ?_⟩ (bG.pairs hB2 (hM.same s2))⟩
    have hj:j<bs.length:=by rw[←hn];exact(a7x.mp ha).1
    have:=hbs j a ha
    rw[if_pos (by rw[lx];exact hj)]at this
    rw[U9 hj]
    exact this
end
abbrev a3d:Stmt:=O7 39
abbrev W3:Stmt:=O7 40
structure X4(K:Frag)(W:Addr):Prop where
 cl:Cls K W
 parts:J4 K W "parts"
 pull:J4 K W "pull"
 bodies:J4 K W "bodies"
 ticks:J4 K W "ticks"
 met:J4 K W "met"
theorem A1{bs:List a7s}{j:Nat}{b:a7s}(hb:bs[j]? =some b):bodyAt bs j=b:=by unfold bodyAt;rw[a7y,hb];rfl
theorem a4T{b b':a7s}{ha pa va va':Addr}(hs:b'.shape=b.shape)(hk:b'.kind=b.kind)(hh:b'.hard=b.hard)(hv:b'.heavy=b.heavy):B2 "velocity" (.ref va') (bdF b ha pa va)=bdF b' ha pa va':=by
 unfold bdF
 rw[hs,hk,hh,hv]
 rfl
theorem a4U{b:a7s}:decide (V.int (b.kind:Int)=V.int 1)=true↔b.kind=1:=by
 rw[decide_eq_true_iff,V.int.injEq]
 lia
theorem a3e{b:a7s}:decide (V.int (a9i b.heavy)=V.int 1)=true↔b.heavy=true:=by
 rw[decide_eq_true_iff,V.int.injEq]
 cases b.heavy<;>simp[a9i]
section
variable{P:Program}{w:World}{K:Frag}{mg:Str->Option Value}{base:Heap}{C W:Addr}
def a3f:Sp:=λvs H Q _=>∃n,vs=[.int n]/\Q (.int (a9r n)) H
theorem a3g:n8 ["speed"] ["speed"] (g9 a3d):=⟨rfl,rfl,rfl,by decide+kernel,rfl,by decide+kernel,by decide+kernel⟩
theorem a5P{f:Addr}{fd:FuncData}(F:M3 K "cut" "cut" a3d f fd)(T:Txt K mg)(c_FASTEST:∃t,mg "FASTEST"=some (.int 1000 t)):A7 P w K mg base M2 1 f fd ["speed"] a3f:=by
 refine F.ok a3g (λvs H Q E h=> ?_) (λcdv A outer s H vs Q E hr h=> ?_)
 ·obtain⟨n,rfl,_⟩:=h
  rfl
 ·obtain⟨n,rfl,k⟩:=h
  have nd:=a3g.nd
  refine⟨_,(f8 (l8 (v6 (ae9 rfl) (by rfl) T.b_max boot_max (e8 (T9 N5 (B5 c_FASTEST (by rfl))) (e8 (v6 (af0 rfl) (by rfl) T.b_min boot_min (e8 (B5 c_FASTEST (by rfl)) (e8 (pv 0) f7))) f7))))),?_⟩
  walk_at "rd"
  have e:(if(if n<1000 then n else 1000)> -1000 then if n<1000 then n else 1000 else(-1000:Int))=a9r n:=by
   unfold a9r FAST
   lia
  show Q _ H
  rw[e]
  exact k
def aZ9(K:Frag)(C W:Addr):Sp:=λvs H Q _=>∃(wa dx l pq:Addr) (fs:List (Str×V)) (as:List Addr) (bs:List a7s) (g:a8g),vs=[.ref wa]/\H wa=some (.ins W dx fs)/\fs.lookup ("bodies":Str)=some (V.ref l)/\fs.lookup ("pull":Str)=some (V.ref pq)/\v7 K H pq [.int g.x,.int g.y]/\m8 K C H l as bs/\wa∉as/\
 ∀G,Bt as H G->m8 K C G l as (bs.map (a7V g))->Q .non G
theorem ac8:n8 ["world","body"] ["world"] (g9 W3):=⟨rfl,rfl,rfl,by decide+kernel,rfl,by decide+kernel,by decide+kernel⟩
theorem ay6{f:Addr}{fd:FuncData}(F:M3 K "pull_bodies" "pull_bodies" W3 f fd)(cB:ab9 K C)(cW:X4 K W)(c_FREE:∃t,mg "FREE"=some (.int 1 t))(D_cut:Df P w K mg base "cut" 1 ["speed"] a3f):A7 P w K mg base M2 2 f fd ["world"] (aZ9 K C W):=by
 refine F.ok ac8 (λvs H Q E h=> ?_) (λcdv A outer s H vs Q E hr h=> ?_)
 ·obtain⟨wa,dx,l,pq,fs,as,bs,g,rfl,_⟩:=h
  rfl
 ·obtain⟨wa,dxw,l,pq,fs,as,bs,g,rfl,hw,f1,f2,tq,hB,nw,k⟩:=h
  have nd:=ac8.nd
  obtain⟨cl,-,-,-,c4,-,c6,c7⟩:=cB
  obtain⟨wl,-,w2,w3,-,-⟩:=cW
  refine⟨_,(f8 (E9 PassesOwn.never rfl (A3 (j7 (pv 0) rfl)) (z9 (i:=1) nd rfl (Or.inl rfl))
   (f8 (B8 (S3 (o8 K5 (j7 (pv 1) rfl) (B5 c_FREE (by rfl)) (t9 _)) (P9 (o8 K5 (j7 (pv 1) rfl) f6 (t9 _)))).pt
    (f8 (F1 (pv 1) (p8 (e8 (A0 D_cut hr (by rfl) (e8 (m9 B0 (i9 j5 (j7 (pv 1) rfl) f6 (λ_ _=>rfl)) (i9 j5 (j7 (pv 0) rfl) f6 (λ_ _=>rfl))) f7)) (e8 (A0 D_cut hr (by rfl) (e8 (m9 B0 (i9 j5 (j7 (pv 1) rfl) f6 (λ_ _=>rfl)) (i9 j5 (j7 (pv 0) rfl) f6 (λ_ _=>rfl))) f7)) f7))) rfl))
    v8)))),?_⟩
  have hn:=hB.len
  refine⟨_,rfl,_,_,_,_,_,rfl,hw,wl,w3,f1,l,rfl,⟨_,n9.of hB.lst⟩,L1 (K:=K) (a:=l) (xs:=as.map V.ref) (λi U G=>(∃u1:Option V,U=[some (.ref wa),u1])/\Bt as H G/\∀(j:Nat) (a:Addr),as[j]? =some a->A9 K C G a (if j<i then a7V g (bodyAt bs j)else bodyAt bs j))
   ⟨⟨none,rfl⟩,Bt.refl,λj a ha=> ?_⟩ (λi U G _ ⟨_,h,_⟩=>n9.of (h.lst hB hB.lst)) ?_ ?_⟩
  ·rw[if_neg (a8Q _)]
   obtain⟨b,hb,r⟩:=Paired.at_ hB.bd ha
   rw[A1 hb]
   exact r
  ·rintro i y U G hy ⟨⟨u1,rfl⟩,bG,hbs⟩
   obtain⟨a,b,rfl,ha,hb,-⟩:=hB.item hy
   have hi:i<bs.length:=(a7x.mp hb).1
   have hbi:=hbs i a ha
   rw[if_neg (a8I _),A1 hb]at hbi
   obtain⟨dx,hai,pai,vai,i1,i2,i3,i4⟩:=hbi.ex
   have tq':=bG.tup hB tq
   have hw':=bG _ _ nw hw
   have O3:∀Z,A9 K C Z a (a7V g b)->(∀j a',a'≠a->as[j]? =some a'->A9 K C Z a' (if j<i then a7V g (bodyAt bs j)else bodyAt bs j))->∀(j:Nat) (a':Addr),as[j]? =some a'->A9 K C Z a' (if j<i+1 then a7V g (bodyAt bs j)else bodyAt bs j):=λZ h1 h2 j a' ha'=>by
    by_cases hji:j=i
    ·subst hji
     rw[ha]at ha'
     cases ha'
     rw[if_pos (a9L _),A1 hb]
     exact h1
    ·have ne:a'≠a:=by
      rintro rfl
      obtain⟨l1,e1⟩:=a7x.mp ha
      obtain⟨l2,e2⟩:=a7x.mp ha'
      exact hji ((getElem_inj hB.nd).mp (e2.trans e1.symm))
     have:=h2 j a' ne ha'
     by_cases hlt:j<i
     ·rw[if_pos hlt]at this
      rw[if_pos (by lia)]
      exact this
     ·rw[if_neg hlt]at this
      rw[if_neg (by lia)]
      exact this
   walk_at "rd"
   ·rename_i h1 h2
    have hv:a7V g b={b with v:=⟨a9r (b.v.x+g.x),a9r (b.v.y+g.y)⟩}:=by
     unfold a7V
     rw[if_pos]
     exact⟨a3e.mp h2,a4U.mp h1⟩
    refine⟨wa,W,_,_,_,rfl,hw',wl,w2,f2,?_⟩
    walk_at "rd"
    refine⟨wa,W,_,_,_,rfl,hw',wl,w2,f2,?_⟩
    walk_at "rd"
    refine⟨by show 2<=sizeLine;decide,λt G3 s3 _ ht=> ?_⟩
    have j1:=s3 _ _ i1
    refine⟨_,rfl,a,C,_,_,rfl,j1,cl,c7,by show 7<1000;decide,?_⟩
    have am:a∈as:=a7F ha
    refine⟨⟨_,rfl⟩,bG.trans ((Bt.of s3).trans (Bt.put am)),O3 _ ?_ λj a' ne ha'=>ak5 j1 ne ((hbs j a' ha').same s3)⟩
    rw[hv]
    refine⟨dx,hai,pai,t,?_,?_,?_,?_⟩
    ·rw[i8]
     exact congrArg (λz=>some (HO.ins C dx z)) (a4T rfl rfl rfl rfl)
    ·exact C9 j1 (f9.tup s3 i2)
    ·exact C9 j1 (f9.tup s3 i3)
    ·exact C9 j1 (v7.of ht)
   ·rename_i h1 h2
    have hv:a7V g b=b:=by
     unfold a7V
     rw[if_neg]
     exactλe=>h2 (a3e.mpr e.1)
    exact⟨⟨_,rfl⟩,bG,O3 G (by rw[hv];exact hbi) λj a' _ ha'=>hbs j a' ha'⟩
   ·rename_i h1
    have hv:a7V g b=b:=by
     unfold a7V
     rw[if_neg]
     exactλe=>h1 (a4U.mpr e.2)
    exact⟨⟨_,rfl⟩,bG,O3 G (by rw[hv];exact hbi) λj a' _ ha'=>hbs j a' ha'⟩
  ·rintro U G ⟨⟨u1,rfl⟩,bG,hbs⟩
   refine k G bG ⟨bG.lst hB hB.lst,hB.nd,R9 (by rw[a7r,hn]) λj a ha=> ?_⟩
   have hj:j<bs.length:=by rw[←hn];exact(a7x.mp ha).1
   have:=hbs j a ha
   rw[if_pos (by rw[a7r,hn];exact hj)]at this
   have e:bodyAt (bs.map (a7V g)) j=a7V g (bodyAt bs j):=by
    refine A1 ?_
    rw[a7t,a7u hj,A1 (a7u hj)]
    rfl
   rw[e]
   exact this
end
def J2:Nat->List a7s->List a7s
 |0,l=>l
 |n+1,l=>(partOnce (J2 n l)).1
theorem ay7:∀(n:Nat) (l:List a7s),J2 (n+1) l=J2 n (partOnce l).1
 |0,_=>rfl
 |n+1,l=>by
  show(partOnce (J2 (n+1) l)).1=(partOnce (J2 n (partOnce l).1)).1
  rw[ay7 n l]
theorem ac9:∀(n:Nat) (l:List a7s),a9D n l=(J2 n l,(a7J n).map λk=>(partOnce (J2 k l)).2)
 |0,_=>rfl
 |n+1,l=>by
  have e:a9D (n+1) l=((a9D n (partOnce l).1).1,(partOnce l).2::(a9D n (partOnce l).1).2):=rfl
  rw[e,ac9 n,ay7,a90,a7U,a8s]
  refine Prod.ext rfl ?_
  show _::_=_::_
  refine congrArg _ (map_congr_left λk _=> ?_)
  show _=(partOnce (J2 (k+1) l)).2
  rw[ay7]
def V0(l:List a7s)(n:Nat):List (Nat×Nat×Nat):=(a7J n).flatMap λk=>(partOnce (J2 k l)).2.map λp=>(k,p.1,p.2)
theorem ay8(l:List a7s)(n:Nat):V0 l (n+1)=V0 l n++(partOnce (J2 n l)).2.map λp=>(n,p.1,p.2):=by
 unfold V0
 rw[a8W,a8q,a9s]
theorem ao2(l:List a7s):∀n,(J2 n l).length=l.length
 |0=>rfl
 |n+1=>by show(partOnce _).1.length=_;rw[ax8,ao2 l n]
theorem ao3(l:List a7s)(h:l.length<=20):∀n,(V0 l n).length<=n*10000
 |0=>a7A _
 |n+1=>by
  rw[ay8,a7M,a7r]
  have h1:=ao3 l h n
  have h2:(partOnce (J2 n l)).2.length<=10000:=ay4 (J2 n l) (by rw[ao2];exact h)
  lia
theorem S0(g:a8g){bs:List a7s}{i:Nat}(hi:i<bs.length):bodyAt (bs.map (a7V g)) i=a7V g (bodyAt bs i):=by
 refine A1 ?_
 rw[a7t,a7u hi,A1 (a7u hi)]
 rfl
theorem aG8{r:Int}{bs:List a7s}(g:a8g)(o:OkR r bs):OkR r (bs.map (a7V g)):=by
 have e:∀b,(a7V g b).shape=b.shape/\(a7V g b).at_=b.at_/\(a7V g b).kind=b.kind:=λb=>by unfold a7V;split<;>exact⟨rfl,rfl,rfl⟩
 refine⟨by rw[a7r];exact o.few,λi hi=> ?_,λi hi=> ?_,λi hi=> ?_,λi hi hk=> ?_,λi j hij hj=> ?_⟩
 ·rw[a7r]at hi;rw[S0 g hi,(e _).1];exact o.sh i hi
 ·rw[a7r]at hi;rw[S0 g hi,(e _).2.1];exact o.at_ i hi
 ·rw[a7r]at hi
  rw[S0 g hi]
  unfold a7V
  split
  ·show(_<=a9r _/\a9r _<=_)/\_<=a9r _/\a9r _<=_
   unfold a9r FAST
   lia
  ·exact o.vel i hi
 ·rw[a7r]at hi
  rw[S0 g hi]at hk⊢
  rw[(e _).2.2]at hk
  unfold a7V
  rw[if_neg (by rw[hk];intro z;exact absurd z.2 (by decide))]
  exact o.fix i hi hk
 ·rw[a7r]at hj
  rw[S0 g hj,S0 g (a84 hij hj)]
  have:=o.apart i j hij hj
  unfold Vbwsam.clashBy at this⊢
  rw[(e _).1,(e _).1,(e _).2.1,(e _).2.1]
  exact this
theorem ay9{r:Int}{bs:List a7s}(o:OkR r bs):∀n:Nat,r+1000*n<=20001000->OkR (r+1000*n) (J2 n bs)
 |0,_=>o.mono (by lia)
 |n+1,h=>by
  have:=a4j (ay9 o n (by lia)) (by lia)
  exact this.mono (by lia)
def X5(K:Frag)(H:Hp)(l:Addr)(ts:List (Nat×Nat×Nat)):Prop:=∃ys,H l=some (.lst ys)/\Paired (λ(t:Nat×Nat×Nat) y=>∃q,y=V.ref q/\v7 K H q [.int (t.1:Int),.int (t.2.1:Int),.int (t.2.2:Int)]) ts ys
theorem ak6(f:Str)(v:V):∀fs:List (Str×V),(B2 f v fs).length<=fs.length+1
 |[]=>a7A _
 |(g,x)::r=>by
  unfold B2
  split
  ·show r.length+1<=r.length+1+1;lia
  ·show(B2 f v r).length+1<=r.length+1+1
   have:=ak6 f v r
   lia
theorem aG9{K:Frag}{H:Hp}{a a' C W dx:Addr}{fs:List (Str×V)}{b:a7s}{o:HO}(ha:H a=some (.ins W dx fs))(n:a'≠a)(h:A9 K C H a' b):A9 K C (A6 H a o) a' b:=by
 obtain⟨dx,x1,x2,x3,h1,h2,h3,h4⟩:=h.ex
 exact⟨dx,x1,x2,x3,by rw[j6 n];exact h1,C9 ha h2,C9 ha h3,C9 ha h4⟩
theorem Y8{K:Frag}{H:Hp}{a l C W dx:Addr}{as:List Addr}{fs:List (Str×V)}{bs:List a7s}{o:HO}(ha:H a=some (.ins W dx fs))(n:a∉as)(h:m8 K C H l as bs):m8 K C (A6 H a o) l as bs:=by
 refine⟨by rw[j6 (B7 h.lst ha (by intro z;cases z))];exact h.lst,h.nd,R9 h.len λj a' ha'=> ?_⟩
 obtain⟨b,hb,r⟩:=Paired.at_ h.bd ha'
 rw[A1 hb]
 exact aG9 ha (λz=>n (by rw[←z];exact a7F ha')) r
theorem aS2{K:Frag}{H:Hp}{a l W dx:Addr}{fs:List (Str×V)}{ts:List (Nat×Nat×Nat)}{o:HO}(ha:H a=some (.ins W dx fs))(h:X5 K H l ts):X5 K (A6 H a o) l ts:=by
 obtain⟨ys,h1,h2⟩:=h
 exact⟨ys,by rw[j6 (B7 h1 ha (by intro z;cases z))];exact h1,Paired.monoP (λ_ _ ⟨q,e,t⟩=>⟨q,e,C9 ha t⟩) h2⟩
abbrev ao4:Stmt:=O7 41
section
variable{P:Program}{w:World}{K:Frag}{mg:Str->Option Value}{base:Heap}{C W:Addr}
def az0(fs:List (Str×V))(t:Int)(ml:Addr):List (Str×V):=B2 "ticks" (.int (t+1)) (B2 "met" (.ref ml) fs)
def a0a(K:Frag)(C W:Addr):Sp:=λvs H Q _=>∃(wa dx l pq:Addr) (fs:List (Str×V)) (as:List Addr) (bs:List a7s) (g:a8g) (n:Nat) (t r:Int),vs=[.ref wa]/\H wa=some (.ins W dx fs)/\fs.length<900/\fs.lookup ("bodies":Str)=some (V.ref l)/\fs.lookup ("pull":Str)=some (V.ref pq)/\fs.lookup ("parts":Str)=some (V.int (n:Int))/\fs.lookup ("ticks":Str)=some (V.int t)/\v7 K H pq [.int g.x,.int g.y]/\m8 K C H l as bs/\wa∉as/\OkR r bs/\r+16000<=20000000/\n<=16/\
 ∀ml G,Bt (wa::as) H G->H ml=none->G wa=some (.ins W dx (az0 fs t ml))->m8 K C G l as (J2 n (bs.map (a7V g)))->X5 K G ml (V0 (bs.map (a7V g)) n)->Q .non G
theorem az1:n8 ["world","met","part","lesser","greater"] ["world"] (g9 ao4):=⟨rfl,rfl,rfl,by decide+kernel,rfl,by decide+kernel,by decide+kernel⟩
theorem a0b{f:Addr}{fd:FuncData}(F:M3 K "do_tick" "do_tick" ao4 f fd)(cW:X4 K W)(b_range:mg "range"=none)(D_pull_bodies:Df P w K mg base "pull_bodies" 6 ["world"] (aZ9 K C W))(D_do_part:Df P w K mg base "do_part" 6 ["bodies"] (a5O K C)):A7 P w K mg base M2 7 f fd ["world"] (a0a K C W):=by
 refine F.ok az1 (λvs H Q E h=> ?_) (λcdv A outer s H vs Q E hr h=> ?_)
 ·obtain⟨wa,dx,l,pq,fs,as,bs,g,n,t,r,rfl,_⟩:=h
  rfl
 ·obtain⟨wa,dx,l,pq,fs,as,bs,g,n,t,r,rfl,hw,fl,f1,f2,f3,f4,tq,hB,nw,ok,hr16,hn16,k⟩:=h
  have nd:=az1.nd
  obtain⟨wl,w1,w2,w3,w4,w5⟩:=cW
  refine⟨_,(e9 (C2 (A0 D_pull_bodies hr (by rfl) (e8 (pv 0) f7)))
   (e9 (j9 (i:=1) nd rfl (Or.inl rfl) (y6 f7))
   (e9 (E9 PassesOwn.never rfl (ae7 (by rfl) b_range (e8 (j7 (pv 0) rfl) f7)) (z9 (i:=2) nd rfl (Or.inl rfl))
    (f8 (E9 PassesOwn.never rfl (A3 (A0 D_do_part hr (by rfl) (e8 (j7 (pv 0) rfl) f7))) (by refine J5 (i:=3) (j:=4) K ?_ ?_ ?_ ?_ ?_ ?_ ?_<;>first|rfl|assumption)
     (f8 (C2 (M1 a7Q a8c a8d D2 (pv 1) (e8 (p8 (e8 (pv 2) (e8 (pv 3) (e8 (pv 4) f7)))) f7)))))))
   (e9 (F1 (pv 0) (pv 1) rfl)
   (f8 (a1z (pv 0) f6 a5j)))))),?_⟩
  refine⟨_,rfl,wa,dx,l,pq,fs,as,bs,g,rfl,hw,f1,f2,tq,hB,nw,λG1 b1 hB1=> ?_⟩
  refine⟨a8n _,λml G2 s2 n2 t2=> ?_⟩
  have hw2:G2 wa=some (.ins W dx fs):=s2 _ _ (b1 _ _ nw hw)
  have hB2:=hB1.same s2
  have ok1:=aG8 g ok
  generalize bs.map (a7V g)=bs1 at*
  have mn:ml∉as:=λm=>by
   obtain⟨dx',fs',e⟩:=hB1.ins m
   rw[n2]at e
   cases e
  have mw:ml≠wa:=by
   rintro rfl
   rw[b1 _ _ nw hw]at n2
   cases n2
  have lm:l≠ml:=by
   rintro rfl
   have:=hB1.lst
   rw[n2]at this
   cases this
  refine⟨_,rfl,_,_,_,_,_,rfl,hw2,wl,w1,f3,_,rfl,by lia,by lia,?_⟩
  refine ae8 (lo:=0) (n:=n) (λi U G=>(∃u2 u3 u4:Option V,U=[some (.ref wa),some (.ref ml),u2,u3,u4])/\Bt (ml::as) G2 G/\m8 K C G l as (J2 i bs1)/\X5 K G ml (V0 bs1 i))
   ⟨⟨none,none,none,rfl⟩,Bt.refl,hB2,⟨_,t2,.nil⟩⟩ ?_ ?_
  ·rintro i U G hi ⟨⟨u2,u3,u4,rfl⟩,bG,hBG,ys,hm,hT⟩
   have hwG:G wa=some (.ins W dx fs):=bG _ _ (λz=>by rcases a7D.mp z with z|z;exact mw z.symm;exact nw z) hw2
   have okI:=ay9 ok1 i (by lia)
   refine⟨_,rfl,_,_,_,_,_,rfl,hwG,wl,w3,f1,l,as,_,rfl,hBG,okI.ok (by lia),λpl G3 b3 n3 hB3 hP3=> ?_⟩
   obtain⟨zs,p1,p2⟩:=hP3.ex
   have hm3:=b3.lst hBG hm
   have plm:pl≠ml:=by
    rintro rfl
    rw[hm]at n3
    cases n3
   have hT3:Paired (λ(t:Nat×Nat×Nat) y=>∃q,y=V.ref q/\v7 K G3 q [.int (t.1:Int),.int (t.2.1:Int),.int (t.2.2:Int)]) (V0 bs1 i) ys:=Paired.monoP (λ_ _ ⟨q,e,t⟩=>⟨q,e,b3.tup hBG t⟩) hT
   refine⟨pl,rfl,⟨_,n9.of p1⟩,L1 (K:=K) (a:=pl) (xs:=zs) (λj U Z=>(∃u3 u4:Option V,U=[some (.ref wa),some (.ref ml),some (.int (0+(i:Int))),u3,u4])/\Kp ml G3 Z/\X5 K Z ml (V0 bs1 i++((partOnce (J2 i bs1)).2.take j).map λp=>(i,p.1,p.2)))
    ⟨⟨_,_,rfl⟩,λ_ _ _ e=>e,⟨ys,hm3,by simpa using hT3⟩⟩ (λj U Z _ ⟨_,h,_⟩=>n9.of (h _ _ plm p1)) ?_ ?_⟩
   ·rintro j y U Z hy ⟨⟨u3,u4,rfl⟩,kZ,us,hu,hU⟩
    obtain⟨p,hp,q,rfl,tq⟩:=Paired.at2 p2 hy
    have tq':=kZ.tup hm3 tq
    have ulen:us.length<sizeLine:=by
     have e:=Paired.length hU
     rw[a7M,a7r]at e
     have h1:=ao3 bs1 ok1.few i
     have h2:(partOnce (J2 i bs1)).2.length<=10000:=ay4 (J2 i bs1) (by rw[ao2];exact ok1.few)
     have h3:=List.length_take_le' j (partOnce (J2 i bs1)).2
     have h4:(200000:Nat)<sizeLine:=by decide
     lia
    refine⟨q,_,rfl,tq',rfl,_,_,rfl,_,_,rfl,rfl,?_⟩
    refine⟨_,rfl,.inl ⟨rfl,_,n9.of hu⟩,_,rfl,_,rfl,_,rfl,by show 3<=sizeLine;decide,λt' Z1 s1 nt ht=> ?_⟩
    refine⟨ml,us,_,rfl,rfl,s1 _ _ hu,ulen,λZ2 k2 t2'=> ?_⟩
    refine⟨⟨_,_,rfl⟩,λb o ne e=>k2 _ _ ne (s1 _ _ (kZ _ _ ne e)),⟨_,t2',?_⟩⟩
    rw[take_succ,hp,Option.toList_some,a8m,←a82]
    refine Paired.app (Paired.monoP (λ_ _ ⟨q,e,t⟩=>⟨q,e,k2.tup (s1 _ _ hu) (f9.tup s1 t)⟩) hU) (.cons ⟨t',rfl,?_⟩ .nil)
    have:=k2.tup (s1 _ _ hu) (v7.of (K:=K) ht)
    rw[a96]at this
    exact this
   ·rintro U Z ⟨⟨u3,u4,rfl⟩,kZ,hU⟩
    refine⟨⟨_,_,_,rfl⟩,λb o ne e=> ?_,?_,?_⟩
    ·have n1:b≠ml:=λz=>ne (by rw[z];exact a7C)
     have n2:b∉as:=λz=>ne (a7B _ z)
     exact kZ _ _ n1 (b3 _ _ n2 (bG _ _ ne e))
    ·exact⟨kZ _ _ lm hB3.lst,hB3.nd,Paired.monoP (λ_ _ r=>Kp.body kZ hm3 r) hB3.bd⟩
    ·rw[ay8]
     have e:zs.length=(partOnce (J2 i bs1)).2.length:=(Paired.length p2).symm
     rw[e,a8o]at hU
     exact hU
  ·rintro U G ⟨⟨u2,u3,u4,rfl⟩,bG,hBG,hT⟩
   have hwG:G wa=some (.ins W dx fs):=bG _ _ (λz=>by rcases a7D.mp z with z|z;exact mw z.symm;exact nw z) hw2
   refine⟨_,rfl,_,rfl,wa,W,dx,fs,rfl,hwG,wl,w5,by lia,?_⟩
   refine⟨_,rfl,wa,W,dx,_,V.int t,rfl,i8,wl,w4,?_,_,_,rfl,rfl,dx,_,i8,?_,?_⟩
   ·rw[k9,if_neg (by decide)]
    exact f4
   ·have:=ak6 "met" (.ref ml) fs
    lia
   ·refine k ml _ (λb o ne e=> ?_) ?_ i8 ?_ ?_
    ·have n1:b≠wa:=λz=>ne (by rw[z];exact a7C)
     have n2':b∉as:=λz=>ne (a7B _ z)
     rw[j6 n1,j6 n1]
     have e1:=b1 _ _ n2' e
     refine bG _ _ (λz=> ?_) (s2 _ _ e1)
     rcases a7D.mp z with z|z
     ·rw[z,n2]at e1
      cases e1
     ·exact n2' z
    ·cases e:H ml with
     |none=>rfl
     |some o=>rw[b1 _ _ mn e]at n2;cases n2
    ·exact Y8 i8 nw (Y8 hwG nw hBG)
    ·exact aS2 i8 (aS2 hwG hT)
end
abbrev ad0:Stmt:=O7 61
abbrev W4:Stmt:=O7 63
def ao5(b:a7s):List Int:=[b.at_.x,b.at_.y,b.v.x,b.v.y]
section
variable{P:Program}{w:World}{K:Frag}{mg:Str->Option Value}{base:Heap}{C W:Addr}
def ak7(K:Frag)(C:Addr):Sp:=λvs H Q _=>∃(a:Addr) (b:a7s),vs=[.ref a]/\A9 K C H a b/\∀p G,f9 H G->H p=none->G p=some (.lst ((ao5 b).map V.int))->Q (.ref p) G
theorem ak8:n8 ["body"] ["body"] (g9 ad0):=⟨rfl,rfl,rfl,by decide+kernel,rfl,by decide+kernel,by decide+kernel⟩
theorem aL0{f:Addr}{fd:FuncData}(F:M3 K "motion_of" "motion_of" ad0 f fd)(cB:ab9 K C):A7 P w K mg base M2 1 f fd ["body"] (ak7 K C):=by
 refine F.ok ak8 (λvs H Q E h=> ?_) (λcdv A outer s H vs Q E hr h=> ?_)
 ·obtain⟨a,b,rfl,_⟩:=h
  rfl
 ·obtain⟨a,b,rfl,ha,k⟩:=h
  have nd:=ak8.nd
  obtain⟨cl,-,-,c3,-,-,-,c7⟩:=cB
  obtain⟨dx,hai,pai,vai,i1,i2,i3,i4⟩:=ha.ex
  refine⟨_,(f8 (l8 (y6 (e8 (i9 j5 (j7 (pv 0) rfl) f6 (λ_ _=>rfl)) (e8 (i9 j5 (j7 (pv 0) rfl) f6 (λ_ _=>rfl)) (e8 (i9 j5 (j7 (pv 0) rfl) f6 (λ_ _=>rfl)) (e8 (i9 j5 (j7 (pv 0) rfl) f6 (λ_ _=>rfl)) f7))))))),?_⟩
  walk_at "rd"
  exact⟨by show 4<=sizeLine;decide,λp G s n t=>k p G s n t⟩
def aS3(K:Frag)(C W:Addr):Sp:=λvs H Q _=>∃(wa dx l:Addr) (nv:V) (fs:List (Str×V)) (as:List Addr) (bs:List a7s),vs=[.ref wa,nv]/\H wa=some (.ins W dx fs)/\fs.lookup ("bodies":Str)=some (V.ref l)/\m8 K C H l as bs/\bs.length<=20/\
 ∀p G,f9 H G->H p=none->G p=some (.lst ((0::bs.flatMap ao5).map V.int))->Q (.ref p) G
theorem ad1:n8 ["world","numbers","answer","body"] ["world","numbers"] (g9 W4):=⟨rfl,rfl,rfl,by decide+kernel,rfl,by decide+kernel,by decide+kernel⟩
theorem az2:∀bs:List a7s,(bs.flatMap ao5).length=4*bs.length
 |[]=>rfl
 |b::r=>by rw[a9l,a7M,az2 r,a7O];show 4+_=_;lia
theorem az3{f:Addr}{fd:FuncData}(F:M3 K "call_places" "call_places" W4 f fd)(cW:X4 K W)(D_motion_of:Df P w K mg base "motion_of" 1 ["body"] (ak7 K C)):A7 P w K mg base M2 2 f fd ["world","numbers"] (aS3 K C W):=by
 refine F.ok ad1 (λvs H Q E h=> ?_) (λcdv A outer s H vs Q E hr h=> ?_)
 ·obtain⟨wa,dx,l,nv,fs,as,bs,rfl,_⟩:=h
  rfl
 ·obtain⟨wa,dx,l,nv,fs,as,bs,rfl,hw,f1,hB,h20,k⟩:=h
  have nd:=ad1.nd
  obtain⟨wl,-,-,w3,-,-⟩:=cW
  refine⟨_,(e9 (j9 (i:=2) nd rfl (Or.inl rfl) (y6 (e8 f6 f7)))
   (e9 (E9 PassesOwn.never rfl (A3 (j7 (pv 0) rfl)) (z9 (i:=3) nd rfl (Or.inl rfl))
    (f8 (C2 (M1 a7Q a86 a87 Y7 (pv 2) (e8 (A0 D_motion_of hr (by rfl) (e8 (pv 3) f7)) f7)))))
   (f8 (l8 (pv 2))))),?_⟩
  have hn:=hB.len
  refine⟨by show 1<=sizeLine;decide,λrl G1 s1 n1 t1=> ?_⟩
  have hB1:=hB.same s1
  have lr:l≠rl:=by
   rintro rfl
   have:=hB.lst
   rw[n1]at this
   cases this
  refine⟨_,rfl,_,_,_,_,_,rfl,s1 _ _ hw,wl,w3,f1,l,rfl,⟨_,n9.of hB1.lst⟩,L1 (K:=K) (a:=l) (xs:=as.map V.ref) (λi U G=>(∃u3:Option V,U=[some (.ref wa),some nv,some (.ref rl),u3])/\Kp rl G1 G/\G rl=some (.lst ((0::(bs.take i).flatMap ao5).map V.int)))
   ⟨⟨none,rfl⟩,λ_ _ _ e=>e,t1⟩ (λi U G _ ⟨_,h,_⟩=>n9.of (h _ _ lr hB1.lst)) ?_ ?_⟩
  ·rintro i y U G hy ⟨⟨u3,rfl⟩,kG,hrl⟩
   obtain⟨a,b,rfl,ha,hb,hbd⟩:=hB1.item hy
   have hbG:=Kp.body kG t1 hbd
   refine⟨_,rfl,.inl ⟨rfl,_,n9.of hrl⟩,_,rfl,a,b,rfl,hbG,λq G2 s2 n2 t2=> ?_⟩
   refine⟨rl,q,_,_,rfl,rfl,s2 _ _ hrl,t2,?_,λG3 k3 t3=> ?_⟩
   ·rw[a7r,a7O,az2,a7r]
    have h1:=List.length_take_le' i bs
    have h2:(1000:Nat)<=sizeLine:=by decide
    show 4*_+1+4<=_
    lia
   ·refine⟨⟨_,rfl⟩,λb o ne e=>k3 _ _ ne (s2 _ _ (kG _ _ ne e)),?_⟩
    rw[t3,take_succ,hb,Option.toList_some,a8q,a9s,←a8m,a9b]
  ·rintro U G ⟨⟨u3,rfl⟩,kG,hrl⟩
   refine⟨_,rfl,k rl G (kG.same s1 n1) n1 ?_⟩
   rw[a7r,hn,a8o]at hrl
   exact hrl
end
abbrev Y9:Stmt:=O7 54
abbrev ai2:Stmt:=O7 59
abbrev ad2:Stmt:=O7 62
theorem a3h{bs:List a7s}{i:Nat}{b:a7s}(h:i<bs.length):bodyAt (bs.set i b) i=b:=A1 (a8R h)
theorem a3i{bs:List a7s}{i j:Nat}{b:a7s}(h:j≠i):bodyAt (bs.set i b) j=bodyAt bs j:=by
 unfold bodyAt
 rw[a7y,a7y,a8X (λz=>h z.symm)]
section
variable{P:Program}{w:World}{K:Frag}{mg:Str->Option Value}{base:Heap}{C W:Addr}
def Ans(H:Hp)(Q:VK)(ns:List Int):Prop:=∀p G,f9 H G->H p=none->G p=some (.lst (ns.map V.int))->Q (.ref p) G
def a05(K:Frag)(W:Addr):Sp:=λvs H Q _=>∃(wa dx nl:Addr) (fs:List (Str×V)) (n:Nat) (a0 a1 a2:Int),vs=[.ref wa,.ref nl]/\H wa=some (.ins W dx fs)/\fs.length<900/\fs.lookup ("parts":Str)=some (V.int (n:Int))/\n9 K H nl [.int a0,.int a1,.int a2]/\
 (0<n->Ans H Q [-5])/\(n=0->∀q G,Kp wa H G->G wa=some (.ins W dx (B2 "pull" (.ref q) (B2 "parts" (.int a0) fs)))->v7 K G q [.int a1,.int a2]->Ans G Q [0])
theorem ag3:n8 ["world","numbers"] ["world","numbers"] (g9 Y9):=⟨rfl,rfl,rfl,by decide+kernel,rfl,by decide+kernel,by decide+kernel⟩
theorem a4m{K:Frag}{H:Hp}{a q W dx:Addr}{fs:List (Str×V)}{xs:List V}{o:HO}(ha:H a=some (.ins W dx fs))(h:n9 K H q xs):n9 K (A6 H a o) q xs:=by
 rcases h with(h|⟨o',h⟩)|h
 ·exact .inl (.inl (by rw[j6 (B7 h ha (by intro z;cases z))];exact h))
 ·exact .inl (.inr ⟨o',by rw[j6 (B7 h ha (by intro z;cases z))];exact h⟩)
 ·exact .inr h
theorem aD2{f:Addr}{fd:FuncData}(F:M3 K "call_begin" "call_begin" Y9 f fd)(cW:X4 K W)(c_BEGUN:∃t,mg "BEGUN"=some (.int (-5) t)):A7 P w K mg base M2 1 f fd ["world","numbers"] (a05 K W):=by
 refine F.ok ag3 (λvs H Q E h=> ?_) (λcdv A outer s H vs Q E hr h=> ?_)
 ·obtain⟨wa,dx,nl,fs,n,a0,a1,a2,rfl,_⟩:=h
  rfl
 ·obtain⟨wa,dx,nl,fs,n,a0,a1,a2,rfl,hw,fl,f1,hnl,k1,k2⟩:=h
  have nd:=ag3.nd
  obtain⟨wl,w1,w2,-,-,-⟩:=cW
  refine⟨_,(e9 (B8 (o8 aD9 (j7 (pv 0) rfl) f6 (t9 _))
   (f8 (l8 (y6 (e8 (B5 c_BEGUN (by rfl)) f7))))
   v8)
   (e9 (F1 (pv 0) (i9 l6 (pv 1) f6 (λ_ _=>rfl)) rfl)
   (e9 (F1 (pv 0) (p8 (e8 (i9 l6 (pv 1) f6 (λ_ _=>rfl)) (e8 (i9 l6 (pv 1) f6 (λ_ _=>rfl)) f7))) rfl)
   (f8 (l8 (y6 (e8 f6 f7))))))),?_⟩
  refine⟨_,rfl,_,_,_,_,_,rfl,hw,wl,w1,f1,?_⟩
  refine⟨_,_,rfl,rfl,_,rfl,?_⟩
  refine z8 (λhh=> ?_) (λhh=> ?_)
  ·exact⟨by show 1<=sizeLine;decide,λp G s1 n1 t1=>k1 (by have:=of_decide_eq_true hh;lia) p G s1 n1 t1⟩
  ·have hn0:n=0:=by
    have:¬((n:Int)>0):=λz=>hh (decide_eq_true z)
    lia
   refine⟨_,rfl,nl,_,_,_,rfl,rfl,hnl,rfl,_,rfl,wa,W,dx,fs,rfl,hw,wl,w1,by lia,?_⟩
   have hn1:n9 K (A6 H wa (.ins W dx (B2 "parts" (.int a0) fs))) nl [.int a0,.int a1,.int a2]:=a4m hw hnl
   refine⟨_,rfl,nl,_,_,_,rfl,rfl,hn1,rfl,_,rfl,nl,_,_,_,rfl,rfl,hn1,rfl,by show 2<=sizeLine;decide,λq G1 s1 nq tq=> ?_⟩
   have hw1:G1 wa=some (.ins W dx (B2 "parts" (.int a0) fs)):=s1 _ _ i8
   refine⟨_,rfl,wa,W,dx,_,rfl,hw1,wl,w2,by have:=ak6 "parts" (.int a0) fs;lia,?_⟩
   refine⟨by show 1<=sizeLine;decide,λp G s2 n2 t2=>k2 hn0 q _ (λb o ne e=> ?_) i8 (C9 hw1 (v7.of tq)) p G s2 n2 t2⟩
   rw[j6 ne]
   exact s1 _ _ (by rw[j6 ne];exact e)
def a4V(K:Frag)(C W:Addr):Sp:=λvs H Q _=>∃(wa dx l nl:Addr) (fs:List (Str×V)) (as:List Addr) (bs:List a7s) (i:Nat) (vx vy:Int),vs=[.ref wa,.ref nl]/\H wa=some (.ins W dx fs)/\fs.lookup ("bodies":Str)=some (V.ref l)/\m8 K C H l as bs/\n9 K H nl [.int (i:Int),.int vx,.int vy]/\i<bs.length/\
 ((bodyAt bs i).kind=0->Ans H Q [-7])/\((bodyAt bs i).kind≠0->∀G,Bt as H G->m8 K C G l as (bs.set i {bodyAt bs i with v:=⟨vx,vy⟩})->Ans G Q [0])
theorem ar7:n8 ["world","numbers","body"] ["world","numbers"] (g9 ai2):=⟨rfl,rfl,rfl,by decide+kernel,rfl,by decide+kernel,by decide+kernel⟩
theorem aS4{f:Addr}{fd:FuncData}(F:M3 K "call_aim" "call_aim" ai2 f fd)(T:Txt K mg)(cB:ab9 K C)(cW:X4 K W)(c_IS_FIXED:∃t,mg "IS_FIXED"=some (.int (-7) t))(c_FIXED:∃t,mg "FIXED"=some (.int 0 t)):A7 P w K mg base M2 1 f fd ["world","numbers"] (a4V K C W):=by
 refine F.ok ar7 (λvs H Q E h=> ?_) (λcdv A outer s H vs Q E hr h=> ?_)
 ·obtain⟨wa,dx,l,nl,fs,as,bs,i,vx,vy,rfl,_⟩:=h
  rfl
 ·obtain⟨wa,dx,l,nl,fs,as,bs,i,vx,vy,rfl,hw,f1,hB,hnl,hi,k2,k3⟩:=h
  have nd:=ar7.nd
  obtain⟨cl,-,-,-,c4,-,-,c7⟩:=cB
  obtain⟨wl,-,-,w3,-,-⟩:=cW
  refine⟨_,(e9 (j9 (i:=2) nd rfl (Or.inl rfl) (i9 l6 (j7 (pv 0) rfl) (i9 l6 (pv 1) f6 (λ_ _=>rfl)) (λ_ _=>rfl)))
   (e9 (B8 (o8 K5 (j7 (pv 2) rfl) (B5 c_FIXED (by rfl)) (t9 _))
    (f8 (l8 (y6 (e8 (B5 c_IS_FIXED (by rfl)) f7))))
    v8)
   (e9 (F1 (pv 2) (p8 (e8 (i9 l6 (pv 1) f6 (λ_ _=>rfl)) (e8 (i9 l6 (pv 1) f6 (λ_ _=>rfl)) f7))) rfl)
   (f8 (l8 (y6 (e8 f6 f7))))))),?_⟩
  have hn:=hB.len
  obtain⟨a,ha,hbd⟩:∃a,as[i]? =some a/\A9 K C H a (bodyAt bs i):=by
   have e:bs[i]? =some (bodyAt bs i):=by rw[A1 (a7u hi)];exact a7u hi
   obtain⟨a,ha,r⟩:=Paired.at2 hB.bd e
   exact⟨a,ha,r⟩
  have haV:(as.map V.ref)[i]? =some (.ref a):=by rw[a7t,ha];rfl
  obtain⟨dxb,hai,pai,vai,i1,i2,i3,i4⟩:=hbd.ex
  refine⟨_,rfl,_,_,_,_,_,rfl,hw,wl,w3,f1,_,rfl,nl,_,_,_,rfl,rfl,hnl,rfl,l,_,_,_,rfl,rfl,n9.of hB.lst,z7 haV,?_⟩
  refine⟨_,rfl,_,_,_,_,_,rfl,i1,cl,c4,rfl,?_⟩
  refine⟨by first|rfl|trivial|exact⟨rfl,rfl⟩|(refine⟨?_,?_⟩<;>trivial),_,rfl,?_⟩
  refine z8 (λhk=> ?_) (λhk=> ?_)
  ·have hk0:(bodyAt bs i).kind=0:=by
    have:=of_decide_eq_true hk
    rw[V.int.injEq]at this
    lia
   exact⟨by show 1<=sizeLine;decide,k2 hk0⟩
  ·have hk0:(bodyAt bs i).kind≠0:=λz=>hk (decide_eq_true (by rw[V.int.injEq];lia))
   refine⟨_,rfl,nl,_,_,_,rfl,rfl,hnl,rfl,_,rfl,nl,_,_,_,rfl,rfl,hnl,rfl,by show 2<=sizeLine;decide,λt G1 s1 nt ht=> ?_⟩
   have j1:=s1 _ _ i1
   refine⟨_,rfl,a,C,_,_,rfl,j1,cl,c7,by show 7<1000;decide,?_⟩
   have am:a∈as:=a7F ha
   have hB1:=hB.same s1
   refine⟨by show 1<=sizeLine;decide,k3 hk0 _ ((Bt.of s1).trans (Bt.put am)) ⟨by rw[j6 (B7 hB1.lst j1 (by intro z;cases z))];exact hB1.lst,hB.nd,R9 (by rw[a9g,hn]) λj a' ha'=> ?_⟩⟩
   have hj:j<bs.length:=by rw[←hn];exact(a7x.mp ha').1
   by_cases hji:j=i
   ·subst hji
    rw[ha]at ha'
    cases ha'
    rw[a3h hi]
    refine⟨dxb,hai,pai,t,?_,C9 j1 (f9.tup s1 i2),C9 j1 (f9.tup s1 i3),C9 j1 (v7.of ht)⟩
    rw[i8]
    exact congrArg (λz=>some (HO.ins C dxb z)) (a4T rfl rfl rfl rfl)
   ·have ne:a'≠a:=by
     rintro rfl
     obtain⟨l1,e1⟩:=a7x.mp ha
     obtain⟨l2,e2⟩:=a7x.mp ha'
     exact hji ((getElem_inj hB.nd).mp (e2.trans e1.symm))
    obtain⟨b',hb',r'⟩:=Paired.at_ hB1.bd ha'
    rw[a3i hji,A1 hb']
    exact ak5 j1 ne r'
end
abbrev ad3:Stmt:=O7 60
theorem J3{f:Str}{v u:V}:∀{fs:List (Str×V)},fs.lookup f=some u->(B2 f v fs).length=fs.length
 |[],h=>by cases h
 |(g,x)::r,h=>by
  unfold B2
  by_cases e:g=f
  ·rw[if_pos e];rfl
  ·rw[if_neg e]
   have hne:(f==g)=false:=by
    cases q:f==g with
    |false=>rfl
    |true=>exact absurd (LawfulBEq.eq_of_beq q).symm e
   rw[a8Y,hne]at h
   show _+1=_+1
   rw[J3 h]
structure WAt(K:Frag)(C W:Addr)(H:Hp)(wa dx l ml:Addr)(as:List Addr)(n:Nat)(g:a8g)(bs:List a7s)(t:Nat)(ts:List (Nat×Nat×Nat)):Prop where
 ex:∃pq fs,H wa=some (.ins W dx fs)/\fs.length<800/\fs.lookup ("bodies":Str)=some (V.ref l)/\fs.lookup ("pull":Str)=some (V.ref pq)/\fs.lookup ("parts":Str)=some (V.int (n:Int))/\fs.lookup ("ticks":Str)=some (V.int (t:Int))/\fs.lookup ("met":Str)=some (V.ref ml)/\v7 K H pq [.int g.x,.int g.y]/\X5 K H ml ts
 bd:m8 K C H l as bs
 nw:wa∉as
def tkB(n:Nat)(g:a8g)(bs:List a7s):Nat->List a7s
 |0=>bs
 |j+1=>J2 n ((tkB n g bs j).map (a7V g))
def tkM(n:Nat)(g:a8g)(bs:List a7s)(ts:List (Nat×Nat×Nat)):Nat->List (Nat×Nat×Nat)
 |0=>ts
 |j+1=>V0 ((tkB n g bs j).map (a7V g)) n
theorem aL1{r:Int}{n:Nat}{g:a8g}{bs:List a7s}(o:OkR r bs)(hn:n<=16):∀j:Nat,r+16000*j<=20000000->OkR (r+16000*j) (tkB n g bs j)
 |0,_=>o.mono (by lia)
 |j+1,h=>(ay9 (aG8 g (aL1 o hn j (by lia))) n (by lia)).mono (by lia)
section
variable{P:Program}{w:World}{K:Frag}{mg:Str->Option Value}{base:Heap}{C W:Addr}
def a06(K:Frag)(C W:Addr):Sp:=λvs H Q _=>∃(wa dx l ml nl:Addr) (as:List Addr) (n:Nat) (g:a8g) (bs:List a7s) (t:Nat) (ts:List (Nat×Nat×Nat)) (k:Nat),vs=[.ref wa,.ref nl]/\WAt K C W H wa dx l ml as n g bs t ts/\OkR (1000000+16000*t) bs/\n<=16/\n9 K H nl [.int (k:Int)]/\
 (1000<t+k->Ans H Q [-8])/\(t+k<=1000->∀ml' G,(ml'=ml\/H ml'=none)->Bt (wa::as) H G->WAt K C W G wa dx l ml' as n g (tkB n g bs k) (t+k) (tkM n g bs ts k)->Ans G Q [0,(tkM n g bs ts k).length])
theorem ak9:n8 ["world","numbers","tick"] ["world","numbers"] (g9 ad3):=⟨rfl,rfl,rfl,by decide+kernel,rfl,by decide+kernel,by decide+kernel⟩
theorem aL2{f:Addr}{fd:FuncData}(F:M3 K "call_tick" "call_tick" ad3 f fd)(T:Txt K mg)(cW:X4 K W)(b_range:mg "range"=none)(c_MOST:∃t,mg "MOST_TICKS"=some (.int 1000 t))(c_LONG:∃t,mg "TOO_LONG"=some (.int (-8) t))(D_do_tick:Df P w K mg base "do_tick" 7 ["world"] (a0a K C W)):A7 P w K mg base M2 8 f fd ["world","numbers"] (a06 K C W):=by
 refine F.ok ak9 (λvs H Q E h=> ?_) (λcdv A outer s H vs Q E hr h=> ?_)
 ·obtain⟨wa,dx,l,ml,nl,as,n,g,bs,t,ts,k,rfl,_⟩:=h
  rfl
 ·obtain⟨wa,dx,l,ml,nl,as,n,g,bs,t,ts,k,rfl,hW,ok,hn,hnl,k1,k2⟩:=h
  have nd:=ak9.nd
  obtain⟨wl,w1,w2,w3,w4,w5⟩:=cW
  refine⟨_,(e9 (B8 (o8 aD9 (m9 B0 (j7 (pv 0) rfl) (i9 l6 (pv 1) f6 (λ_ _=>rfl))) (B5 c_MOST (by rfl)) (t9 _))
   (f8 (l8 (y6 (e8 (B5 c_LONG (by rfl)) f7))))
   v8)
   (e9 (E9 PassesOwn.never rfl (ae7 (by rfl) b_range (e8 (i9 l6 (pv 1) f6 (λ_ _=>rfl)) f7)) (z9 (i:=2) nd rfl (Or.inl rfl))
    (f8 (C2 (A0 D_do_tick hr (by rfl) (e8 (pv 0) f7)))))
   (f8 (l8 (y6 (e8 f6 (e8 (v6 A4 (by rfl) T.b_len PySem.boot_len (e8 (j7 (pv 0) rfl) f7)) f7))))))),?_⟩
  obtain⟨pq,fs,hw,fl,f1,f2,f3,f4,f5,tq,hT⟩:=hW.ex
  refine⟨_,rfl,_,_,_,_,_,rfl,hw,wl,w4,f4,_,rfl,nl,_,_,_,rfl,rfl,hnl,rfl,_,_,rfl,rfl,_,_,rfl,rfl,_,rfl,?_⟩
  refine z8 (λhh=> ?_) (λhh=> ?_)
  ·exact⟨by show 1<=sizeLine;decide,k1 (by have:=of_decide_eq_true hh;lia)⟩
  ·have hk:t+k<=1000:=by
    have:¬((t:Int)+(k:Int)>1000):=λz=>hh (decide_eq_true z)
    lia
   refine⟨_,rfl,nl,_,_,_,rfl,rfl,hnl,rfl,_,rfl,by lia,by lia,?_⟩
   refine ae8 (lo:=0) (n:=k) (λi U G=>(∃u2:Option V,U=[some (.ref wa),some (.ref nl),u2])/\Bt (wa::as) H G/\∃mi,(mi=ml\/H mi=none)/\WAt K C W G wa dx l mi as n g (tkB n g bs i) (t+i) (tkM n g bs ts i))
    ⟨⟨none,rfl⟩,Bt.refl,ml,.inl rfl,hW⟩ ?_ ?_
   ·rintro i U G hi ⟨⟨u2,rfl⟩,bG,mi,hmi,hG⟩
    obtain⟨pq,fs,hw,fl,f1,f2,f3,f4,f5,tq,hT⟩:=hG.ex
    have okI:=aL1 (g:=g) ok hn i (by lia)
    refine⟨_,rfl,wa,dx,l,pq,fs,as,_,g,n,_,_,rfl,hw,by lia,f1,f2,f3,f4,tq,hG.bd,hG.nw,okI,by lia,hn,λml' G' b' n' hw' hB' hT'=> ?_⟩
    refine⟨⟨_,rfl⟩,bG.trans b',ml',.inr ?_,⟨⟨pq,_,hw',?_,?_,?_,?_,?_,?_,?_,hT'⟩,hB',hG.nw⟩⟩
    ·cases q:H ml' with
     |none=>rfl
     |some o=>
      have nm:ml'∉wa::as:=λm=>by
       rcases a7D.mp m with m|m
       ·rw[m,hw]at n';cases n'
       ·obtain⟨dx',fs',e'⟩:=hG.bd.ins m
        rw[n']at e';cases e'
      rw[bG _ _ nm q]at n'
      cases n'
    ·unfold az0
     rw[J3 (u:=V.int ((t+i:Nat):Int)),J3 f5]
     ·exact fl
     ·rw[k9,if_neg (by decide)];exact f4
    ·unfold az0
     rw[k9,if_neg (by decide),k9,if_neg (by decide)];exact f1
    ·unfold az0
     rw[k9,if_neg (by decide),k9,if_neg (by decide)];exact f2
    ·unfold az0
     rw[k9,if_neg (by decide),k9,if_neg (by decide)];exact f3
    ·unfold az0
     rw[k9,if_pos rfl]
     rfl
    ·unfold az0
     rw[k9,if_neg (by decide),k9,if_pos rfl]
    ·have hq:∀o,G pq=some o->(∀W' dx' fs',o≠.ins W' dx' fs')->G' pq=some o:=λo e ne=>b' _ _ (λm=>by
      rcases a7D.mp m with m|m
      ·rw[m,hw]at e
       exact ne _ _ _ (a7v e).symm
      ·obtain⟨dx',fs',e'⟩:=hG.bd.ins m
       rw[e]at e'
       exact ne _ _ _ (a7v e')) e
     rcases tq with(h|⟨o',h⟩)|h
     ·exact .inl (.inl (hq _ h (by intro _ _ _ z;cases z)))
     ·exact .inl (.inr ⟨o',hq _ h (by intro _ _ _ z;cases z)⟩)
     ·exact .inr h
   ·rintro U G ⟨⟨u2,rfl⟩,bG,mi,hmi,hG⟩
    obtain⟨pq,fs,hw,fl,f1,f2,f3,f4,f5,tq,ys,hm,hT⟩:=hG.ex
    refine⟨_,rfl,_,_,_,_,_,rfl,hw,wl,w5,f5,mi,_,rfl,.inl (n9.of hm),by show 2<=sizeLine;decide,?_⟩
    have e:=Paired.length hT
    rw[←e]
    exact k2 hk mi G hmi bG hG
end
section
variable{P:Program}{w:World}{K:Frag}{mg:Str->Option Value}{base:Heap}{C W:Addr}
def a4W(b:a7s):List Int:=[0,(b.kind:Int),a9i b.hard,a9i b.heavy,aq5 b.shape,hX b.shape,hY b.shape]
theorem a3j(b:a7s):a4W b++ao5 b=0::bodyNums b:=by
 unfold a4W ao5 bodyNums
 cases b.shape<;>rfl
def a07(K:Frag)(C W:Addr):Sp:=λvs H Q _=>∃(wa dx l nl:Addr) (fs:List (Str×V)) (as:List Addr) (bs:List a7s) (i:Nat),vs=[.ref wa,.ref nl]/\H wa=some (.ins W dx fs)/\fs.lookup ("bodies":Str)=some (V.ref l)/\m8 K C H l as bs/\n9 K H nl [.int (i:Int)]/\i<bs.length/\Ans H Q (0::bodyNums (bodyAt bs i))
theorem al0:n8 ["world","numbers","body"] ["world","numbers"] (g9 ad2):=⟨rfl,rfl,rfl,by decide+kernel,rfl,by decide+kernel,by decide+kernel⟩
theorem aL3{f:Addr}{fd:FuncData}(F:M3 K "call_body" "call_body" ad2 f fd)(cB:ab9 K C)(cW:X4 K W)(D_motion_of:Df P w K mg base "motion_of" 1 ["body"] (ak7 K C)):A7 P w K mg base M2 2 f fd ["world","numbers"] (a07 K C W):=by
 refine F.ok al0 (λvs H Q E h=> ?_) (λcdv A outer s H vs Q E hr h=> ?_)
 ·obtain⟨wa,dx,l,nl,fs,as,bs,i,rfl,_⟩:=h
  rfl
 ·obtain⟨wa,dx,l,nl,fs,as,bs,i,rfl,hw,f1,hB,hnl,hi,k2⟩:=h
  have nd:=al0.nd
  obtain⟨cl,c1,c2,c3,c4,c5,c6,c7⟩:=cB
  obtain⟨wl,-,-,w3,-,-⟩:=cW
  refine⟨_,(e9 (j9 (i:=2) nd rfl (Or.inl rfl) (i9 l6 (j7 (pv 0) rfl) (i9 l6 (pv 1) f6 (λ_ _=>rfl)) (λ_ _=>rfl)))
   (f8 (l8 (m9 a2z (y6 (e8 f6 (e8 (j7 (pv 2) rfl) (e8 (j7 (pv 2) rfl) (e8 (j7 (pv 2) rfl) (e8 (j7 (pv 2) rfl) (e8 (i9 j5 (j7 (pv 2) rfl) f6 (λ_ _=>rfl)) (e8 (i9 j5 (j7 (pv 2) rfl) f6 (λ_ _=>rfl)) f7)))))))) (A0 D_motion_of hr (by rfl) (e8 (pv 2) f7)))))),?_⟩
  have hn:=hB.len
  obtain⟨a,ha,hbd⟩:∃a,as[i]? =some a/\A9 K C H a (bodyAt bs i):=by
   have e:bs[i]? =some (bodyAt bs i):=by rw[A1 (a7u hi)];exact a7u hi
   obtain⟨a,ha,r⟩:=Paired.at2 hB.bd e
   exact⟨a,ha,r⟩
  have haV:(as.map V.ref)[i]? =some (.ref a):=by rw[a7t,ha];rfl
  obtain⟨dxb,hai,pai,vai,i1,i2,i3,i4⟩:=hbd.ex
  refine⟨_,rfl,_,_,_,_,_,rfl,hw,wl,w3,f1,_,rfl,nl,_,_,_,rfl,rfl,hnl,rfl,l,_,_,_,rfl,rfl,n9.of hB.lst,z7 haV,?_⟩
  walk_at "rd"
  refine⟨by show 7<=sizeLine;decide,λq G1 s1 n1 t1=> ?_⟩
  refine⟨_,rfl,a,_,rfl,hbd.same s1,λp2 G2 s2 n2 t2=> ?_⟩
  refine⟨q,p2,_,_,rfl,rfl,s2 _ _ t1,t2,by show 7+4<=sizeLine;decide,λp n3=> ?_⟩
  refine k2 p _ (λb o e=> ?_) ((s1.trans s2).free n3) ?_
  ·have e2:=(s1.trans s2) _ _ e
   rw[j6 (j0 e2 n3)]
   exact e2
  ·rw[i8,←a3j]
   rfl
end
theorem a3k(n:Nat)(g:a8g)(bs:List a7s):∀k,tkB n g bs (k+1)=tkB n g (J2 n (bs.map (a7V g))) k
 |0=>rfl
 |k+1=>by
  show J2 n ((tkB n g bs (k+1)).map _)=J2 n ((tkB n g (J2 n (bs.map (a7V g))) k).map _)
  rw[a3k n g bs k]
theorem az4(n:Nat)(g:a8g):∀(k:Nat) (bs:List a7s),ticksOf n g (k+1) bs=a9D n ((tkB n g bs k).map (a7V g))
 |0,_=>rfl
 |k+1,bs=>by
  have e:ticksOf n g (k+2) bs=ticksOf n g (k+1) (a9D n (bs.map (a7V g))).1:=rfl
  rw[e,az4 n g k,ac9 n (bs.map (a7V g)),a3k]
theorem al1(n:Nat)(g:a8g)(bs:List a7s){k:Nat}(h:0<k):(ticksOf n g k bs).1=tkB n g bs k:=by
 obtain⟨j,rfl⟩:∃j,k=j+1:=⟨k-1,by lia⟩
 rw[az4,ac9]
 rfl
theorem aS5(l:List a7s)(f:Nat->List (Nat×Nat)):∀ks:List Nat,((ks.zip (ks.map f)).flatMap λx=>x.2.flatMap λp=>[(x.1:Int),(p.1:Int),(p.2:Int)])=(ks.flatMap λk=>(f k).map λp=>(k,p.1,p.2)).flatMap λt=>[(t.1:Int),(t.2.1:Int),(t.2.2:Int)]
 |[]=>rfl
 |k::r=>by
  rw[a7U,a9u,a9l,a9l,a8q,aS5 l f r,List.flatMap_map]
theorem a4n(l:List a7s)(n:Nat):metNums (a9D n l).2=(V0 l n).flatMap λt=>[(t.1:Int),(t.2.1:Int),(t.2.2:Int)]:=by
 rw[ac9]
 unfold metNums V0
 rw[a7r,a70]
 exact aS5 l _ _
theorem a3l(l:List a7s)(n:Nat):((a9D n l).2.map a9G).sum=(V0 l n).length:=by
 rw[ac9]
 unfold V0
 rw[List.length_flatMap,a8s]
 refine congrArg _ (map_congr_left λk _=> ?_)
 simp
theorem a5Q(n:Nat)(g:a8g)(bs:List a7s)(ts:List (Nat×Nat×Nat)){k:Nat}(h:0<k):metNums (ticksOf n g k bs).2=(tkM n g bs ts k).flatMap (λt=>[(t.1:Int),(t.2.1:Int),(t.2.2:Int)])/\((ticksOf n g k bs).2.map a9G).sum=(tkM n g bs ts k).length:=by
 obtain⟨j,rfl⟩:∃j,k=j+1:=⟨k-1,by lia⟩
 rw[az4]
 exact⟨a4n _ _,a3l _ _⟩
end Mp
namespace Mb
open Vbwsam
def J7(n:Int):Int:=if n>0 then 1 else if n<0 then-1 else 0
def J0(w s:Int):Int:=if w≥0 then J7 (w+s)else J7 (s-w*w)
def a3m(s t:Root):Int:=
 let ahead:=s.b*t.a-t.b*s.a
 let plus:=t.d*s.a*s.a
 let minus:=s.d*t.a*t.a
 if ahead*(plus-minus)≥0 then J7 (ahead+plus-minus)
 else J7 ahead*J0 (ahead*ahead-plus-minus) (4*plus*minus)
def E2(s t:Root):Bool:=decide (a3m s t>0)
theorem P5{n:Int}:J7 n>0↔n>0:=by
 unfold J7;split
 ·lia
 ·split<;>lia
theorem az5{n:Int}:J7 n<0↔n<0:=by
 unfold J7;split
 ·lia
 ·split<;>lia
theorem aL4{w s:Int}:J0 w s>0↔(w≥0/\w+s>0)\/(w<0/\s-w*w>0):=by
 unfold J0;split
 ·rw[P5];lia
 ·rw[P5];lia
theorem aL5{w s:Int}:J0 w s<0↔(w≥0/\w+s<0)\/(w<0/\s-w*w<0):=by
 unfold J0;split
 ·rw[az5];lia
 ·rw[az5];lia
theorem az6{a b:Int}(h1: -b<=a)(h2:a<=b):a*a<=b*b:=by
 have h:=a7S (show 0<=b-a by lia) (show 0<=b+a by lia)
 have e:(b-a)*(b+a)=b*b-a*a:=by grind
 lia
theorem K3{l p q:Int}:lessRoots l p q=true↔(0<=l/\0<p-l*l-q/\4*l*l*q<(p-l*l-q)*(p-l*l-q))\/(l<0/\(q-l*l-p<0\/(q-l*l-p)*(q-l*l-p)<4*l*l*p)):=by
 unfold lessRoots
 by_cases h:0<=l
 ·simp only[h,if_true,a7z,decide_eq_true_eq,true_and]
  constructor
  ·intro z;exact .inl z
  ·rintro(z|z)
   ·exact z
   ·lia
 ·simp only[h,if_false,a8v,decide_eq_true_eq,false_and,false_or]
  constructor
  ·intro z;exact⟨by lia,z⟩
  ·intro z;exact z.2
theorem a16{A P M:Int}(hP:0<=P)(hM:0<=M):
 (if A*(P-M)≥0 then J7 (A+P-M)else J7 A*J0 (A*A-P-M) (4*P*M))>0↔lessRoots (-A) P M=true:=by
 rw[K3]
 rcases Int.lt_trichotomy A 0 with h|h|h
 ·
  have eA:J7 A= -1:=by unfold J7;rw[if_neg (by lia),if_pos h]
  by_cases c:P<=M
  ·have:=a7S (show 0<= -A by lia) (show 0<=M-P by lia)
   have e:(-A)*(M-P)=A*(P-M):=by grind
   rw[if_pos (by lia),P5]
   have:=p9 (-A)
   constructor
   ·intro z;lia
   ·rintro(z|z)
    ·lia
    ·lia
  ·have:=a8E (show 0< -A by lia) (show 0<P-M by lia)
   have e:(-A)*(P-M)= -(A*(P-M)):=by grind
   rw[if_neg (by lia),eA]
   have e1:(-1*J0 (A*A-P-M) (4*P*M)>0)↔J0 (A*A-P-M) (4*P*M)<0:=by lia
   rw[e1,aL5]
   have pm:=a7S (show 0<=4*P by lia) hM
   have e2:(-A)*(-A)=A*A:=by grind
   have e3:4*(-A)*(-A)*M=4*(A*A)*M:=by grind
   rw[e2,e3]
   have e4:(P-A*A-M)*(P-A*A-M)-4*(A*A)*M=(A*A-P-M)*(A*A-P-M)-4*P*M:=by grind
   constructor
   ·rintro(z|⟨z1,z2⟩)
    ·lia
    ·refine .inl ⟨by lia,?_,by lia⟩
     apply a8w
     intro z
     have k:=az6 (a:=P+M-A*A) (b:=2*M) (by lia) (by lia)
     have k2:=a76 (show M<=P by lia) (show 0<=4*M by lia)
     have e5:(P+M-A*A)*(P+M-A*A)=(A*A-P-M)*(A*A-P-M):=by grind
     have e6:2*M*(2*M)=4*M*M:=by grind
     have e7:4*M*P=4*P*M:=by grind
     lia
   ·rintro(⟨_,z1,z2⟩|z)
    ·exact .inr ⟨by lia,by lia⟩
    ·lia
 ·subst h
  rw[if_pos (by lia),P5]
  simp only[Int.neg_zero,a9t,Int.zero_mul]
  constructor
  ·intro z
   exact .inl ⟨by lia,by lia,a8E (by lia) (by lia)⟩
  ·rintro(z|z)
   ·lia
   ·lia
 ·
  have eA:J7 A=1:=by unfold J7;rw[if_pos h]
  have sA:=a8E h h
  have e2:(-A)*(-A)=A*A:=by grind
  have e3:4*(-A)*(-A)*P=4*(A*A)*P:=by grind
  rw[e2,e3]
  by_cases c:M<=P
  ·have:=a7S (show 0<=A by lia) (show 0<=P-M by lia)
   rw[if_pos (by lia),P5]
   constructor
   ·intro _;exact .inr ⟨by lia,.inl (by lia)⟩
   ·intro _;lia
  ·have:=a8E h (show 0<M-P by lia)
   have e:A*(M-P)= -(A*(P-M)):=by grind
   rw[if_neg (by lia),eA,Int.one_mul,aL4]
   have e4:(M-A*A-P)*(M-A*A-P)-4*(A*A)*P=(A*A-P-M)*(A*A-P-M)-4*P*M:=by grind
   have pm:=a7S (show 0<=4*P by lia) hM
   constructor
   ·rintro(⟨z1,z2⟩|⟨z1,z2⟩)
    ·refine .inr ⟨by lia,.inl ?_⟩
     by_cases p0:P=0
     ·subst p0
      simp only[a9t,Int.zero_mul]at z2
      lia
     ·lia
    ·exact .inr ⟨by lia,.inr (by lia)⟩
   ·rintro(z|⟨_,z⟩)
    ·lia
    ·by_cases w:A*A-P-M≥0
     ·refine .inl ⟨w,?_⟩
      by_cases p0:P=0
      ·subst p0
       rcases z with z|z
       ·lia
       ·have:=p9 (M-A*A-0)
        lia
      ·have:=a8E (show 0<4*P by lia) (show 0<M by lia)
       lia
     ·refine .inr ⟨by lia,?_⟩
      rcases z with z|z
      ·have k:=aw0 (a:=P+M-A*A) (b:=2*P) (by lia) (by lia)
       have k2:=a76 (show P<=M by lia) (show 0<=4*P by lia)
       have e5:(P+M-A*A)*(P+M-A*A)=(A*A-P-M)*(A*A-P-M):=by grind
       have e6:2*P*(2*P)=4*P*P:=by grind
       lia
      ·lia
theorem ag4{a d:Int}(h:0<=d):0<=d*a*a:=by
 have:=a7S h (p9 a)
 have e:d*(a*a)=d*a*a:=by grind
 lia
def X6(t:Root):Prop:=0<t.a/\0<=t.d
theorem al2{s t:Root}(hs:X6 s)(ht:X6 t):E2 s t=earlier t s:=by
 have k:=a16 (A:=s.b*t.a-t.b*s.a) (ag4 (a:=s.a) ht.2) (ag4 (a:=t.a) hs.2)
 have e:earlier t s=lessRoots (-(s.b*t.a-t.b*s.a)) (t.d*s.a*s.a) (s.d*t.a*t.a):=by
  unfold earlier square
  have e1:t.b*s.a-s.b*t.a= -(s.b*t.a-t.b*s.a):=by lia
  have e2:s.a*s.a*t.d=t.d*s.a*s.a:=by grind
  have e3:t.a*t.a*s.d=s.d*t.a*t.a:=by grind
  rw[e1,e2,e3]
 rw[e]
 unfold E2 a3m
 exact a7W.mpr (decide_eq_true_eq.to_iff.trans k)
theorem a6H(n:Nat):∃e:Nat,e*e<=n/\n<(e+1)*(e+1):=by
 induction n with
 |zero=>exact⟨0,by decide,by decide⟩
 |succ n ih=>
  obtain⟨e,h1,h2⟩:=ih
  by_cases c:n+1<(e+1)*(e+1)
  ·exact⟨e,by lia,c⟩
  ·refine⟨e+1,by lia,?_⟩
   have:(e+1+1)*(e+1+1)=(e+1)*(e+1)+2*e+3:=by grind
   lia
theorem a3n{n:Int}(h:0<=n):∃e:Int,0<=e/\e*e<=n/\n<(e+1)*(e+1):=by
 obtain⟨e,h1,h2⟩:=a6H n.toNat
 refine⟨(e:Int),by lia,?_,?_⟩
 ·have:((e*e:Nat):Int)<=(n.toNat:Int):=by lia
  rw[Int.natCast_mul]at this
  lia
 ·have:(n.toNat:Int)<(((e+1)*(e+1):Nat):Int):=by lia
  rw[Int.natCast_mul]at this
  push_cast at this
  lia
theorem a08{e p N:Int}(he:0<=e)(hp:0<=p)(hN:0<=N)(h:e*e<=p*(N*N)):e<=p*N:=by
 apply a8w
 intro z
 have hpN:=a7S hp hN
 have k:=aw0 (a:=p*N) (b:=e) (by lia) (by lia)
 rcases Int.lt_or_le p 1 with c|c
 ·have:p=0:=by lia
  subst this
  simp only[Int.zero_mul]at*
  lia
 ·have k2:=a7E c (a7S hp (p9 N))
  have e1:p*(p*(N*N))=p*N*(p*N):=by grind
  lia
theorem a6I{l p q:Int}(hp:0<=p)(hq:0<=q)(h:lessRoots l p q=true):
 ∃N k:Int,0<N/\0<k/\q*(N*N)<k*k/\(l*N+k<=0\/(l*N+k)*(l*N+k)<=p*(N*N)):=by
 rw[K3]at h
 rcases h with⟨hl,h1,h2⟩|⟨hl,h⟩
 ·
  obtain⟨m,hm⟩:∃m,m=p-l*l-q:=⟨_,rfl⟩
  rw[←hm]at h1 h2
  obtain⟨g,hg⟩:∃g,g=2*l+2*q+1:=⟨_,rfl⟩
  obtain⟨N,hN⟩:∃N,N=2*m*g:=⟨_,rfl⟩
  have hNp:0<N:=by rw[hN];exact a8E (by lia) (by lia)
  obtain⟨e,e0,e1,e2⟩:=a3n (n:=q*(N*N)) (a7S hq (p9 N))
  refine⟨N,e+1,hNp,by lia,e2,.inr ?_⟩
  apply a8w
  intro z
  have hel:=a08 e0 hq (by lia) e1
  obtain⟨c,hc⟩:∃c,c=2*l*N+2*e+1:=⟨_,rfl⟩
  have x1:(l*N+(e+1))*(l*N+(e+1))=l*l*(N*N)+2*l*N*e+e*e+c:=by rw[hc];grind
  have x2:p*(N*N)=m*(N*N)+l*l*(N*N)+q*(N*N):=by rw[hm];grind
  have x3:2*l*N*e+c>m*(N*N):=by lia
  have lN:=a7S hl (show 0<=N by lia)
  have x4:c<=g*N:=by
   have:g*N=2*l*N+2*(q*N)+N:=by rw[hg];grind
   lia
  have c0:0<=c:=by
   have:2*l*N=2*(l*N):=by grind
   lia
  have x5:2*m*c<=N*N:=by
   have k:=a76 x4 (show 0<=2*m by lia)
   have:2*m*(g*N)=N*N:=by rw[hN];grind
   lia
  have NN:=a8E hNp hNp
  have x6:c<=m*(N*N):=by
   have k1:=a7E (show 1<=m by lia) c0
   have k2:=a7E (show 1<=m by lia) (show 0<=N*N by lia)
   have:2*m*c=2*(m*c):=by grind
   lia
  have x7:=aw0 (a:=m*(N*N)-c) (b:=2*l*N*e) (by
   have:=a7S lN e0
   have:2*l*N*e=2*(l*N*e):=by grind
   lia) (by lia)
  have x8:2*l*N*e*(2*l*N*e)=4*l*l*(N*N)*(e*e):=by grind
  have x9:4*l*l*(N*N)*(e*e)<=4*l*l*(N*N)*(q*(N*N)):=a76 e1 (by
   have:=a7S (p9 l) (p9 N)
   have:4*l*l*(N*N)=4*(l*l*(N*N)):=by grind
   lia)
  have x10:(4*l*l*q+1)*((N*N)*(N*N))<=m*m*((N*N)*(N*N)):=a7E (by lia) (p9 _)
  have x11:(4*l*l*q+1)*((N*N)*(N*N))=4*l*l*(N*N)*(q*(N*N))+(N*N)*(N*N):=by grind
  have x12:(m*(N*N)-c)*(m*(N*N)-c)=m*m*((N*N)*(N*N))-(2*m*c)*(N*N)+c*c:=by grind
  have x13:(2*m*c)*(N*N)<=(N*N)*(N*N):=a7E x5 (by lia)
  have:=p9 c
  lia
 ·
  obtain⟨k,hk⟩:∃k,k= -l:=⟨_,rfl⟩
  have kp:0<k:=by lia
  obtain⟨m,hm⟩:∃m,m=q-l*l-p:=⟨_,rfl⟩
  rw[←hm]at h
  have ll:l*l=k*k:=by rw[hk];grind
  obtain⟨g,hg⟩:∃g,g=2*p+2*k:=⟨_,rfl⟩
  have key:∀N:Int,0<N->(0<=m->2*m*g*N+g*g<N*N)->∃N k:Int,0<N/\0<k/\q*(N*N)<k*k/\(l*N+k<=0\/(l*N+k)*(l*N+k)<=p*(N*N)):=by
   intro N hNp hbig
   obtain⟨e,e0,e1,e2⟩:=a3n (n:=p*(N*N)) (a7S hp (p9 N))
   have kN:=a8E kp hNp
   refine⟨N,e+k*N,hNp,by lia,?_,.inr ?_⟩
   ·apply a8w
    intro z
    have hel:=a08 e0 hp (by lia) e1
    have x1:(e+k*N)*(e+k*N)=e*e+2*(e*(k*N))+k*k*(N*N):=by grind
    have x2:q*(N*N)=m*(N*N)+k*k*(N*N)+p*(N*N):=by rw[hm,ll];grind
    have x3:(e+1)*(e+1)=e*e+2*e+1:=by grind
    have x4:2*(e*(k*N))<=m*(N*N)+2*e:=by lia
    have NN:=a8E hNp hNp
    have ekN:=a7S e0 (show 0<=k*N-1 by lia)
    have ekN2:e*(k*N-1)=e*(k*N)-e:=by grind
    have mneg:¬m<0:=by
     intro mn
     have:=a74 mn NN
     lia
    have hb:=hbig (by lia)
    have hm2:m*m<4*l*l*p:=by
     rcases h with h|h
     ·lia
     ·exact h
    have ll4:4*l*l*p=4*(k*k)*p:=by
     have:4*l*l*p=4*(l*l)*p:=by grind
     rw[this,ll]
    obtain⟨c,hc⟩:∃c,c=2*e+2*(k*N):=⟨_,rfl⟩
    have c0:0<=c:=by lia
    have x5:c<=g*N:=by
     have:g*N=2*(p*N)+2*(k*N):=by rw[hg];grind
     lia
    have x6:2*k*N*(e+1)<=m*(N*N)+c:=by
     have:2*k*N*(e+1)=2*(e*(k*N))+2*(k*N):=by grind
     lia
    have x7:(m*m+1)*(N*N)<=4*(k*k)*p*(N*N):=a7E (by lia) (by lia)
    have x8:4*(k*k)*p*(N*N)=4*(k*k)*(p*(N*N)):=by grind
    have x9:4*(k*k)*(p*(N*N))<=4*(k*k)*((e+1)*(e+1)):=a76 (by lia) (by have:=p9 k;lia)
    have x10:(m*m+1)*(N*N)*(N*N)<=4*(k*k)*((e+1)*(e+1))*(N*N):=a7E (by lia) (by lia)
    have x11:4*(k*k)*((e+1)*(e+1))*(N*N)=2*k*N*(e+1)*(2*k*N*(e+1)):=by grind
    have x12:=az6 (a:=2*k*N*(e+1)) (b:=m*(N*N)+c) (by
     have:=a7S (show 0<=m by lia) (show 0<=N*N by lia)
     have:=a7S (show 0<=k*N by lia) (show 0<=e+1 by lia)
     have:2*k*N*(e+1)=2*(k*N*(e+1)):=by grind
     lia) x6
    have x13:(m*(N*N)+c)*(m*(N*N)+c)=m*m*((N*N)*(N*N))+2*m*c*(N*N)+c*c:=by grind
    have x14:(m*m+1)*(N*N)*(N*N)=m*m*((N*N)*(N*N))+(N*N)*(N*N):=by grind
    have x15:2*m*c*(N*N)<=2*m*(g*N)*(N*N):=a7E (a76 x5 (by lia)) (by lia)
    have x16:=az6 (a:=c) (b:=g*N) (by lia) x5
    have x17:(2*m*g*N+g*g+1)*(N*N)<=(N*N)*(N*N):=a7E (by lia) (by lia)
    have x18:(2*m*g*N+g*g+1)*(N*N)=2*m*(g*N)*(N*N)+g*N*(g*N)+N*N:=by grind
    lia
   ·have:l*N+(e+k*N)=e:=by rw[hk];grind
    rw[this]
    exact e1
  by_cases mn:0<=m
  ·have g0:0<g:=by lia
   have mg:=a7S mn (show 0<=g by lia)
   refine key (2*m*g+g+1) (by have:2*m*g=2*(m*g):=by grind
                              lia) (λ_=> ?_)
   have e1:(2*m*g+g+1)*(2*m*g+g+1)=2*m*g*(2*m*g+g+1)+(g*g+2*(m*g)*g+2*(m*g)+2*g+1):=by grind
   have:=a7S mg (show 0<=g by lia)
   have e2:2*(m*g)*g=2*(m*g*g):=by grind
   lia
  ·exact key 1 (by decide) (λz=>absurd z mn)
def aS6(t:Root)(p q:Int):Prop:=0<q*t.b-p*t.a/\q*q*t.d<(q*t.b-p*t.a)*(q*t.b-p*t.a)
theorem ar8{a b:Int}(h:0<a):a*b<=0↔b<=0:=by
 constructor
 ·intro z
  apply a8w
  intro y
  have:=a8E h (show 0<b by lia)
  lia
 ·intro z
  have:=a7S (show 0<=a by lia) (show 0<= -b by lia)
  have e:a* -b= -(a*b):=by grind
  lia
theorem a5R{s t:Root}(hs:X6 s)(ht:X6 t)(h:earlier t s=true):∃p q:Int,0<q/\aS6 s p q/\¬aS6 t p q:=by
 obtain⟨as,ds⟩:=hs
 obtain⟨at',dt⟩:=ht
 unfold earlier square at h
 obtain⟨N,k,hN,hk,h1,h2⟩:=a6I (a7S (p9 s.a) dt) (a7S (p9 t.a) ds) h
 have aa:=a8E at' as
 refine⟨N*(s.b*t.a)-k,N*(t.a*s.a),a8E hN aa,⟨?_,?_⟩,?_⟩
 ·have e:N*(t.a*s.a)*s.b-(N*(s.b*t.a)-k)*s.a=k*s.a:=by grind
  rw[e]
  exact a8E hk as
 ·have e:N*(t.a*s.a)*s.b-(N*(s.b*t.a)-k)*s.a=k*s.a:=by grind
  rw[e]
  have k1:=a74 h1 (a8E as as)
  have e1:t.a*t.a*s.d*(N*N)*(s.a*s.a)=N*(t.a*s.a)*(N*(t.a*s.a))*s.d:=by grind
  have e2:k*k*(s.a*s.a)=k*s.a*(k*s.a):=by grind
  lia
 ·rintro⟨z1,z2⟩
  have e:N*(t.a*s.a)*t.b-(N*(s.b*t.a)-k)*t.a=t.a*((t.b*s.a-s.b*t.a)*N+k):=by grind
  rw[e]at z1 z2
  rcases h2 with h2|h2
  ·have:=(ar8 at').mpr h2
   lia
  ·have k1:=a7E h2 (p9 t.a)
   have e1:((t.b*s.a-s.b*t.a)*N+k)*((t.b*s.a-s.b*t.a)*N+k)*(t.a*t.a)=t.a*((t.b*s.a-s.b*t.a)*N+k)*(t.a*((t.b*s.a-s.b*t.a)*N+k)):=by grind
   have e2:s.a*s.a*t.d*(N*N)*(t.a*t.a)=N*(t.a*s.a)*(N*(t.a*s.a))*t.d:=by grind
   lia
theorem L8{q a b:Int}(hq:0<q):q*q*a<q*q*b↔a<b:=by
 have:=a8E hq hq
 constructor
 ·intro h;exact Int.lt_of_mul_lt_mul_left h (by lia)
 ·intro h;exact Int.mul_lt_mul_of_pos_left h this
theorem az7{s t:Root}(hs:X6 s)(ht:X6 t){p q:Int}(hq:0<q)(h1:aS6 s p q)(h2:¬aS6 t p q):earlier t s=true:=by
 obtain⟨as,ds⟩:=hs
 obtain⟨at',dt⟩:=ht
 obtain⟨a1,a2⟩:=h1
 obtain⟨ms,hms⟩:∃ms,ms=q*s.b-p*s.a:=⟨_,rfl⟩
 obtain⟨mt,hmt⟩:∃mt,mt=q*t.b-p*t.a:=⟨_,rfl⟩
 rw[←hms]at a1 a2
 have b2:mt<=0\/mt*mt<=q*q*t.d:=by
  apply a8w
  intro z
  refine h2 ⟨by lia,?_⟩
  rw[←hmt]
  lia
 unfold earlier square
 obtain⟨l,hl⟩:∃l,l=t.b*s.a-s.b*t.a:=⟨_,rfl⟩
 obtain⟨P,hP⟩:∃P,P=s.a*s.a*t.d:=⟨_,rfl⟩
 obtain⟨R,hR⟩:∃R,R=t.a*t.a*s.d:=⟨_,rfl⟩
 obtain⟨Y,hY⟩:∃Y,Y=s.a*mt:=⟨_,rfl⟩
 obtain⟨Z,hZ⟩:∃Z,Z=t.a*ms:=⟨_,rfl⟩
 rw[←hl,←hP,←hR,K3]
 have eL:q*l=Y-Z:=by rw[hl,hY,hZ,hms,hmt];grind
 have Zp:0<Z:=by rw[hZ];exact a8E at' a1
 have R1:q*q*R<Z*Z:=by
  have k:=a74 a2 (a8E at' at')
  have e1:q*q*s.d*(t.a*t.a)=q*q*R:=by rw[hR];grind
  have e2:ms*ms*(t.a*t.a)=Z*Z:=by rw[hZ];grind
  lia
 have P0:0<=P:=by rw[hP];exact a7S (p9 _) dt
 have qP0:0<=q*q*P:=a7S (p9 _) P0
 have Y1:Y<=0\/Y*Y<=q*q*P:=by
  rcases b2 with b|b
  ·exact .inl (by rw[hY];exact(ar8 as).mpr b)
  ·right
   have k:=a7E b (p9 s.a)
   have e1:q*q*t.d*(s.a*s.a)=q*q*P:=by rw[hP];grind
   have e2:mt*mt*(s.a*s.a)=Y*Y:=by rw[hY];grind
   lia
 have eLL:q*q*(l*l)=(Y-Z)*(Y-Z):=by rw[←eL];grind
 by_cases c:0<=l
 ·left
  have cL:=a7S (show 0<=q by lia) c
  have hYZ:Z<=Y:=by lia
  have hYY:Y*Y<=q*q*P:=by
   rcases Y1 with y|y
   ·lia
   ·exact y
  have ZL:=a7S (show 0<=Z by lia) cL
  have m1:q*q*(P-l*l-R)>2*(Z*(q*l)):=by
   have e1:q*q*(P-l*l-R)=q*q*P-q*q*(l*l)-q*q*R:=by grind
   have e2:2*(Z*(q*l))=2*(Z*Y)-2*(Z*Z):=by rw[eL];grind
   have e3:(Y-Z)*(Y-Z)=Y*Y-2*(Z*Y)+Z*Z:=by grind
   lia
  refine⟨c,?_,?_⟩
  ·rw[←L8 hq]
   lia
  ·have k1:=aw0 (a:=2*(Z*(q*l))) (b:=q*q*(P-l*l-R)) (by lia) m1
   have k2:=a76 (a85 R1) (show 0<=4*(q*q*(l*l)) by have:=a7S (p9 q) (p9 l);lia)
   have e1:4*(q*q*(l*l))*(Z*Z)=2*(Z*(q*l))*(2*(Z*(q*l))):=by grind
   have e2:4*(q*q*(l*l))*(q*q*R)=q*q*(q*q*(4*l*l*R)):=by grind
   have e3:q*q*(P-l*l-R)*(q*q*(P-l*l-R))=q*q*(q*q*((P-l*l-R)*(P-l*l-R))):=by grind
   rw[←L8 hq,←L8 hq]
   lia
 ·right
  refine⟨by lia,?_⟩
  have cL:q*l<0:=by
   have:=a8E hq (show 0< -l by lia)
   have e:q* -l= -(q*l):=by grind
   lia
  have e1:q*q*(R-l*l-P)=q*q*R-q*q*(l*l)-q*q*P:=by grind
  have e3:(Y-Z)*(Y-Z)=Y*Y-2*(Z*Y)+Z*Z:=by grind
  by_cases y0:Y<=0
  ·left
   have:=a7S (show 0<=Z by lia) (show 0<= -Y by lia)
   have e4:Z* -Y= -(Z*Y):=by grind
   have:=p9 Y
   have m1:q*q*(R-l*l-P)<0:=by lia
   have:q*q*(R-l*l-P)<q*q*0:=by lia
   exact(L8 hq).mp this
  ·have hYY:Y*Y<=q*q*P:=by
    rcases Y1 with y|y
    ·lia
    ·exact y
   by_cases m0:R-l*l-P<0
   ·exact .inl m0
   ·right
    have m1:q*q*(R-l*l-P)<2*(Y*(Z-Y)):=by
     have e5:2*(Y*(Z-Y))=2*(Z*Y)-2*(Y*Y):=by grind
     lia
    have m2:=a7S (p9 q) (show 0<=R-l*l-P by lia)
    have k1:=aw0 (a:=q*q*(R-l*l-P)) (b:=2*(Y*(Z-Y))) (by lia) m1
    have e4:2*(Y*(Z-Y))*(2*(Y*(Z-Y)))=4*((Y-Z)*(Y-Z))*(Y*Y):=by grind
    have k2:=a76 hYY (show 0<=4*((Y-Z)*(Y-Z)) by have:=p9 (Y-Z);lia)
    have e5:4*((Y-Z)*(Y-Z))*(q*q*P)=q*q*(q*q*(4*l*l*P)):=by rw[←eLL];grind
    have e6:q*q*(R-l*l-P)*(q*q*(R-l*l-P))=q*q*(q*q*((R-l*l-P)*(R-l*l-P))):=by grind
    rw[←L8 hq,←L8 hq]
    lia
theorem W5{s t u:Root}(hs:X6 s)(ht:X6 t)(hu:X6 u)(h1:earlier t s=false)(h2:earlier u t=false):earlier u s=false:=by
 cases c:earlier u s with
 |false=>rfl
 |true=>
  obtain⟨p,q,hq,b1,b2⟩:=a5R hs hu c
  have b3:aS6 t p q:=by
   apply a8w
   intro z
   rw[az7 hs ht hq b1 z]at h1
   cases h1
  rw[az7 ht hu hq b3 b2]at h2
  cases h2
theorem at5{l p q:Int}(h:lessRoots l p q=true):lessRoots (-l) q p=false:=by
 cases c:lessRoots (-l) q p with
 |false=>rfl
 |true=>
  rw[K3]at h c
  have e:(-l)*(-l)=l*l:=by grind
  have e1:4*(-l)*(-l)*p=4*l*l*p:=by grind
  have e2:4*(-l)*(-l)*q=4*l*l*q:=by grind
  rw[e,e1,e2]at c
  rcases h with⟨h0,h1,h2⟩|⟨h0,h1⟩<;>rcases c with⟨c0,c1,c2⟩|⟨c0,c1⟩
  ·have:l=0:=by lia
   subst this
   lia
  ·rcases c1 with c1|c1
   ·lia
   ·lia
  ·rcases h1 with h1|h1
   ·lia
   ·lia
  ·lia
theorem ag5{s t:Root}(h:earlier s t=true):earlier t s=false:=by
 unfold earlier at*
 have e:t.b*s.a-s.b*t.a= -(s.b*t.a-t.b*s.a):=by lia
 rw[e]
 exact at5 h
theorem N1(a b a' b':Int):E2 ⟨a,b,0⟩ ⟨a',b',0⟩=lessF (b',a') (b,a):=by
 unfold E2 a3m lessF
 simp only[Int.zero_mul,Int.sub_zero,a9t,Int.add_zero,ge_iff_le,a91,if_true]
 refine a7W.mpr ?_
 rw[decide_eq_true_eq,decide_eq_true_eq,P5]
 lia
def END:Root:=⟨1,1,0⟩
def F6(p w:Int):Int:=if w>0 then p else-p
def Q9(p h w:Int):Root:=⟨absolute w,-h-F6 p w,0⟩
def aa6(p h w:Int):Root:=⟨absolute w,h-F6 p w,0⟩
def C1(s t:Root):Root:=if E2 t s=true then t else s
def axB(p h w:Int):List Root:=if w=0 then []else [Q9 p h w]
def axE(p h w:Int):List Root:=if w=0 then []else [aa6 p h w]
def O3(u:Root)(es:List Root):Option Root:=if u.b<0\/E2 u END=true\/es.any (λe=>E2 u e)=true then none else some u
def aL6(bs es:List Root):Option Root:=match bs.head?,bs.getLast? with
 |some s,some t=>O3 (C1 s t) es
 |_,_=>none
def Q3(x y wx wy hx hy:Int):Option Root:=
 if wx=0/\absolute x>hx then none
 else if wy=0/\absolute y>hy then none
 else aL6 (axB x hx wx++axB y hy wy) (axE x hx wx++axE y hy wy)
def range(s p v:Int):Option ((Int×Int)×(Int×Int)):=if v=0 then(if absolute p<=s then some ((-1,1),(2,1))else none)else if 0<v then some ((-s-p,v),(s-p,v))else some ((p-s,-v),(p+s,-v))
theorem aH0(hx hy:Int)(d w:Pair):rayBox hx hy d w=match range hx d.x w.x,range hy d.y w.y with
 |some r,some q=>
  let lo:=maxF r.1 q.1
  let hi:=minF r.2 q.2
  if(lessF hi lo||(lessF lo (0,1)||lessF (1,1) lo))=true then none else some ⟨lo.2,lo.1,0⟩
 |_,_=>none:=rfl
theorem ad4{s p v:Int}(h:v≠0):range s p v=some (((Q9 p s v).b,(Q9 p s v).a),((aa6 p s v).b,(aa6 p s v).a)):=by
 unfold range Q9 aa6 F6 absolute
 rw[if_neg h]
 by_cases c:0<v
 ·rw[if_pos c,if_neg (by lia),if_pos (by lia)]
 ·rw[if_neg c,if_pos (by lia),if_neg (by lia)]
  have e1:p-s= -s- -p:=by lia
  have e2:p+s=s- -p:=by lia
  rw[e1,e2]
theorem Z0{v:Int}(h:v≠0):0<absolute v:=by unfold absolute;split<;>lia
theorem ao6{a b c:Int×Int}(ha:0<a.2)(hb:0<b.2)(hc:0<c.2):lessF (minF a b) c=(lessF a c||lessF b c):=by
 unfold minF
 refine a7W.mpr ?_
 split
 ·rename_i h
  rw[M9]at h
  rw[a8v,M9,M9]
  exact⟨.inr,λz=>z.elim (λz=>ab7 hb ha hc h z) id⟩
 ·rename_i h
  rw[M9]at h
  rw[a8v,M9,M9]
  exact⟨.inl,λz=>z.elim id (λz=>ab8 ha hb hc (by lia) z)⟩
theorem al3(r:Root)(h:r.d=0):(⟨r.a,r.b,0⟩:Root)=r:=by cases r;simp_all
theorem a0c{s t:Root}(hs:s.d=0)(ht:t.d=0):C1 s t=⟨(maxF (s.b,s.a) (t.b,t.a)).2,(maxF (s.b,s.a) (t.b,t.a)).1,0⟩:=by
 unfold C1 maxF
 have e:E2 t s=lessF (s.b,s.a) (t.b,t.a):=by
  rw[←al3 s hs,←al3 t ht]
  exact N1 _ _ _ _
 rw[e]
 split
 ·exact(al3 t ht).symm
 ·exact(al3 s hs).symm
theorem az8{a b:Int}:E2 ⟨a,b,0⟩ END=lessF (1,1) (b,a):=N1 _ _ _ _
theorem az9(x y wx wy hx hy:Int):Q3 x y wx wy hx hy=rayBox hx hy ⟨x,y⟩ ⟨wx,wy⟩:=by
 rw[aH0]
 show Q3 x y wx wy hx hy=(match range hx x wx,range hy y wy with
  |some r,some q=>
   let lo:=maxF r.1 q.1
   let hi:=minF r.2 q.2
   if(lessF hi lo||(lessF lo (0,1)||lessF (1,1) lo))=true then none else some (Root.mk lo.2 lo.1 0)
  |_,_=>none)
 unfold Q3
 by_cases h1:wx=0
 ·subst h1
  by_cases a1:absolute x>hx
  ·rw[if_pos ⟨rfl,a1⟩]
   have:range hx x 0=none:=by unfold range;rw[if_pos rfl,if_neg (by lia)]
   rw[this]
  ·rw[if_neg (λz=>a1 z.2)]
   have rx:range hx x 0=some ((-1,1),(2,1)):=by unfold range;rw[if_pos rfl,if_pos (by lia)]
   rw[rx]
   by_cases h2:wy=0
   ·subst h2
    by_cases a2:absolute y>hy
    ·rw[if_pos ⟨rfl,a2⟩]
     have:range hy y 0=none:=by unfold range;rw[if_pos rfl,if_neg (by lia)]
     rw[this]
    ·rw[if_neg (λz=>a2 z.2)]
     have ry:range hy y 0=some ((-1,1),(2,1)):=by unfold range;rw[if_pos rfl,if_pos (by lia)]
     rw[ry]
     rfl
   ·rw[if_neg (λz=>h2 z.1),ad4 h2]
    have w0:=Z0 h2
    have ex:axB x hx 0=[]:=rfl
    have ex':axE x hx 0=[]:=rfl
    have ey:axB y hy wy=[Q9 y hy wy]:=if_neg h2
    have ey':axE y hy wy=[aa6 y hy wy]:=if_neg h2
    rw[ex,ey,ex',ey']
    show O3 (C1 (Q9 y hy wy) (Q9 y hy wy)) _=_
    have el:C1 (Q9 y hy wy) (Q9 y hy wy)=Q9 y hy wy:=by unfold C1;split<;>rfl
    rw[el]
    unfold O3
    simp only[List.nil_append,a8T,any_nil,a9N]
    obtain⟨a,ha⟩:∃a,a=absolute wy:=⟨_,rfl⟩
    obtain⟨b,hb⟩:∃b,b= -hy-F6 y wy:=⟨_,rfl⟩
    obtain⟨c,hc⟩:∃c,c=hy-F6 y wy:=⟨_,rfl⟩
    have e1:Q9 y hy wy=⟨a,b,0⟩:=by rw[ha,hb];rfl
    have e2:aa6 y hy wy=⟨a,c,0⟩:=by rw[ha,hc];rfl
    rw[e1,e2,az8,N1]
    rw[←ha]at w0
    show _=if(lessF (minF (2,1) (c,a)) (maxF (-1,1) (b,a))||(lessF (maxF (-1,1) (b,a)) (0,1)||lessF (1,1) (maxF (-1,1) (b,a))))=true then _ else _
    rw[ao6 (by decide) w0 (by unfold maxF;split;exact w0;decide)]
    unfold maxF
    simp only[lessF,a8v,decide_eq_true_eq]
    by_cases q: -1*a<b*1
    ·simp only[q,if_true]
     have w:(b<0\/1*a<b*1\/c*a<b*a)↔((2*a<b*1\/c*a<b*a)\/b*1<0*a\/1*a<b*1):=by lia
     by_cases z:b<0\/1*a<b*1\/c*a<b*a
     ·rw[if_pos z,if_pos (w.mp z)]
     ·rw[if_neg z,if_neg (λv=>z (w.mpr v))]
    ·simp only[q,if_false]
     rw[if_pos (.inl (by lia)),if_pos (.inr (.inl (by lia)))]
 ·rw[if_neg (λz=>h1 z.1),ad4 h1]
  have v0:=Z0 h1
  have ex:axB x hx wx=[Q9 x hx wx]:=if_neg h1
  have ex':axE x hx wx=[aa6 x hx wx]:=if_neg h1
  obtain⟨a,ha⟩:∃a,a=absolute wx:=⟨_,rfl⟩
  obtain⟨b,hb⟩:∃b,b= -hx-F6 x wx:=⟨_,rfl⟩
  obtain⟨c,hc⟩:∃c,c=hx-F6 x wx:=⟨_,rfl⟩
  have e1:Q9 x hx wx=⟨a,b,0⟩:=by rw[ha,hb];rfl
  have e2:aa6 x hx wx=⟨a,c,0⟩:=by rw[ha,hc];rfl
  rw[ex,ex',e1,e2]
  rw[←ha]at v0
  by_cases h2:wy=0
  ·subst h2
   by_cases a2:absolute y>hy
   ·rw[if_pos ⟨rfl,a2⟩]
    have:range hy y 0=none:=by unfold range;rw[if_pos rfl,if_neg (by lia)]
    rw[this]
   ·rw[if_neg (λz=>a2 z.2)]
    have ry:range hy y 0=some ((-1,1),(2,1)):=by unfold range;rw[if_pos rfl,if_pos (by lia)]
    rw[ry]
    have ey:axB y hy 0=[]:=rfl
    have ey':axE y hy 0=[]:=rfl
    rw[ey,ey']
    show O3 (C1 ⟨a,b,0⟩ ⟨a,b,0⟩) _=_
    have el:C1 ⟨a,b,0⟩ ⟨a,b,0⟩=⟨a,b,0⟩:=by unfold C1;split<;>rfl
    rw[el]
    unfold O3
    simp only[a72,a8T,any_nil,a9N]
    rw[az8,N1]
    show _=if(lessF (minF (c,a) (2,1)) (maxF (b,a) (-1,1))||(lessF (maxF (b,a) (-1,1)) (0,1)||lessF (1,1) (maxF (b,a) (-1,1))))=true then _ else _
    rw[ao6 v0 (by decide) (by unfold maxF;split;decide;exact v0)]
    unfold maxF
    simp only[lessF,a8v,decide_eq_true_eq]
    by_cases q:b*1< -1*a
    ·simp only[q,if_true]
     rw[if_pos (.inl (by lia)),if_pos (.inr (.inl (by lia)))]
    ·simp only[q,if_false]
     have w:(b<0\/1*a<b*1\/c*a<b*a)↔((c*a<b*a\/2*a<b*1)\/b*1<0*a\/1*a<b*1):=by lia
     by_cases z:b<0\/1*a<b*1\/c*a<b*a
     ·rw[if_pos z,if_pos (w.mp z)]
     ·rw[if_neg z,if_neg (λv=>z (w.mpr v))]
  ·rw[if_neg (λz=>h2 z.1),ad4 h2]
   have w0:=Z0 h2
   have ey:axB y hy wy=[Q9 y hy wy]:=if_neg h2
   have ey':axE y hy wy=[aa6 y hy wy]:=if_neg h2
   obtain⟨a',ha'⟩:∃a,a=absolute wy:=⟨_,rfl⟩
   obtain⟨b',hb'⟩:∃b,b= -hy-F6 y wy:=⟨_,rfl⟩
   obtain⟨c',hc'⟩:∃c,c=hy-F6 y wy:=⟨_,rfl⟩
   have e1':Q9 y hy wy=⟨a',b',0⟩:=by rw[ha',hb'];rfl
   have e2':aa6 y hy wy=⟨a',c',0⟩:=by rw[ha',hc'];rfl
   rw[ey,ey',e1',e2']
   rw[←ha']at w0
   show O3 (C1 ⟨a,b,0⟩ ⟨a',b',0⟩) _=if(lessF (minF (c,a) (c',a')) (maxF (b,a) (b',a'))||(lessF (maxF (b,a) (b',a')) (0,1)||lessF (1,1) (maxF (b,a) (b',a'))))=true then _ else _
   rw[a0c rfl rfl]
   have m0:0<(maxF (b,a) (b',a')).2:=by unfold maxF;split;exact w0;exact v0
   rw[ao6 v0 w0 m0]
   show O3 ⟨(maxF (b,a) (b',a')).2,(maxF (b,a) (b',a')).1,0⟩ _=if _ then _ else some ⟨(maxF (b,a) (b',a')).2,(maxF (b,a) (b',a')).1,0⟩
   obtain⟨B,hB⟩:∃B,B=(maxF (b,a) (b',a')).1:=⟨_,rfl⟩
   obtain⟨A,hA⟩:∃A,A=(maxF (b,a) (b',a')).2:=⟨_,rfl⟩
   have eM:maxF (b,a) (b',a')=(B,A):=by rw[hA,hB]
   rw[eM]
   show(if B<0\/E2 ⟨A,B,0⟩ END=true\/([Root.mk a c 0]++[Root.mk a' c' 0]).any (λe=>E2 ⟨A,B,0⟩ e)=true then none else some (Root.mk A B 0))=_
   simp only[a9b,List.nil_append,a8T,any_nil,a9N]
   rw[az8,N1,N1]
   simp only[lessF,a8v,decide_eq_true_eq]
   have w:(B<0\/1*A<B*1\/c*A<B*a\/c'*A<B*a')↔((c*A<B*a\/c'*A<B*a')\/B*1<0*A\/1*A<B*1):=by lia
   by_cases z:B<0\/1*A<B*1\/c*A<B*a\/c'*A<B*a'
   ·rw[if_pos z,if_pos (w.mp z)]
   ·rw[if_neg z,if_neg (λv=>z (w.mpr v))]
def ad5(x y wx wy r:Int):Option Root:=
 let a:=wx*wx+wy*wy
 let b:= -(x*wx+y*wy)
 let c:=x*x+y*y-r*r
 let d:=b*b-a*c
 if a=0\/b<0\/c<0\/d<0\/E2 ⟨a,b,d⟩ END=true then none else some ⟨a,b,d⟩
theorem a17{a b d:Int}(ha:0<a)(hd:0<=d):E2 ⟨a,b,d⟩ END=true↔0<b-a/\d<square (b-a):=by
 rw[al2 (s:=⟨a,b,d⟩) (t:=END) ⟨ha,hd⟩ ⟨by decide,by decide⟩]
 unfold earlier END square
 rw[K3]
 simp only[Int.one_mul,a9t,Int.mul_one]
 have e:(a-b)*(a-b)=(b-a)*(b-a):=by grind
 have:=p9 (a-b)
 have:=p9 (d-(a-b)*(a-b)-0)
 constructor
 ·rintro(z|⟨z1,z2|z2⟩)
  ·lia
  ·exact⟨by lia,by lia⟩
  ·lia
 ·rintro⟨z1,z2⟩
  exact .inr ⟨by lia,.inl (by lia)⟩
theorem ar9(x y wx wy r:Int):ad5 x y wx wy r=rayBall r ⟨x,y⟩ ⟨wx,wy⟩:=by
 have ha:=Int.add_nonneg (p9 wx) (p9 wy)
 unfold ad5 rayBall
 show(if _ then _ else _)=if dot ⟨wx,wy⟩ ⟨wx,wy⟩=0\/_ then _ else _
 have e1:dot ⟨wx,wy⟩ ⟨wx,wy⟩=wx*wx+wy*wy:=rfl
 have e2:dot ⟨x,y⟩ ⟨wx,wy⟩=x*wx+y*wy:=rfl
 have e3:dot ⟨x,y⟩ ⟨x,y⟩-square r=x*x+y*y-r*r:=rfl
 rw[e1,e2,e3]
 obtain⟨a,ea⟩:∃a,a=wx*wx+wy*wy:=⟨_,rfl⟩
 obtain⟨b,eb⟩:∃b,b= -(x*wx+y*wy):=⟨_,rfl⟩
 obtain⟨c,ec⟩:∃c,c=x*x+y*y-r*r:=⟨_,rfl⟩
 rw[←ea,←eb,←ec]
 rw[←ea]at ha
 obtain⟨d,ed⟩:∃d,d=b*b-a*c:=⟨_,rfl⟩
 show(if a=0\/b<0\/c<0\/b*b-a*c<0\/E2 ⟨a,b,b*b-a*c⟩ END=true then none else some (⟨a,b,b*b-a*c⟩:Root))=if a=0\/c<0\/b<0\/b*b-a*c<0\/(0<b-a/\b*b-a*c<square (b-a))then none else some ⟨a,b,b*b-a*c⟩
 rw[←ed]
 by_cases z:a=0\/c<0\/b<0\/d<0
 ·rw[if_pos (by lia),if_pos (by lia)]
 ·have w:=a17 (a:=a) (b:=b) (d:=d) (by lia) (by lia)
  by_cases q:E2 ⟨a,b,d⟩ END=true
  ·rw[if_pos (.inr (.inr (.inr (.inr q)))),if_pos (.inr (.inr (.inr (.inr (w.mp q)))))]
  ·have q':¬(0<b-a/\d<square (b-a)):=λv=>q (w.mpr v)
   rw[if_neg (λv=>by rcases v with v|v|v|v|v<;>first|exact q v|lia),if_neg (λv=>by rcases v with v|v|v|v|v<;>first|exact q' v|lia)]
theorem aL7{r:Int}{d w:Pair}{t:Root}(h:rayBall r d w=some t):X6 t:=by
 unfold rayBall at h
 simp only at h
 split at h
 ·cases h
 ·rename_i z
  cases h
  have:0<=dot w w:=Int.add_nonneg (p9 _) (p9 _)
  exact⟨by show 0<dot w w;lia,by show 0<= -dot d w* -dot d w-dot w w*(dot d d-square r);lia⟩
theorem aA0{s p v:Int}{r:(Int×Int)×(Int×Int)}(h:range s p v=some r):0<r.1.2:=by
 unfold range at h
 split at h
 ·split at h
  ·cases h;decide
  ·cases h
 ·split at h
  ·cases h;assumption
  ·cases h
   show 0< -v
   lia
theorem aS7{hx hy:Int}{d w:Pair}{t:Root}(h:rayBox hx hy d w=some t):X6 t:=by
 rw[aH0]at h
 split at h
 ·rename_i r q h1 h2
  simp only at h
  split at h
  ·cases h
  ·cases h
   have g1:=aA0 h1
   have g2:=aA0 h2
   refine⟨?_,a91 0⟩
   show 0<(maxF _ _).2
   unfold maxF
   split
   ·exact g2
   ·exact g1
 ·cases h
theorem aA1{b:Body}{p w:Pair}{t:Root}(h:rayTo b p w=some t):X6 t:=by
 unfold rayTo at h
 split at h
 ·exact aS7 h
 ·exact aL7 h
abbrev Hit:=Nat×Root
def aA2(hits:List Hit)(x:Hit):List Hit:=hits.insertIdx ((hits.filter λh=> !E2 h.2 x.2).length) x
structure Ord(l:List Hit):Prop where
 good:∀h∈l,X6 h.2
 ord:l.Pairwise λa b=>earlier b.2 a.2=false
theorem aL8{x y:Hit}:∀{l:List Hit},y∈putHit x l↔y=x\/y∈l
 |[]=>by simp[putHit]
 |z::r=>by
  unfold putHit
  split
  ·simp
  ·rw[a7D,aL8 (l:=r),a7D]
   constructor
   ·rintro(h|h|h)
    ·exact .inr (.inl h)
    ·exact .inl h
    ·exact .inr (.inr h)
   ·rintro(h|h|h)
    ·exact .inr (.inl h)
    ·exact .inl h
    ·exact .inr (.inr h)
theorem a09{x:Hit}(gx:X6 x.2):∀{l:List Hit},Ord l->Ord (putHit x l)
 |[],_=>⟨λh m=>by rw[a7N.mp m];exact gx,by simp[putHit]⟩
 |y::r,o=>by
  have o':Ord r:=⟨λh m=>o.good h (a7B _ m),(a8p.mp o.ord).2⟩
  have gy:=o.good y a7C
  unfold putHit
  split
  ·rename_i e
   refine⟨λh m=> ?_,a8p.mpr ⟨λz m=> ?_,o.ord⟩⟩
   ·rcases a7D.mp m with m|m
    ·rw[m];exact gx
    ·exact o.good h m
   ·rcases a7D.mp m with m|m
    ·rw[m];exact ag5 e
    ·exact W5 gx gy (o.good z (a7B _ m)) (ag5 e) ((a8p.mp o.ord).1 z m)
  ·rename_i e
   have ih:=a09 gx o'
   refine⟨λh m=> ?_,a8p.mpr ⟨λz m=> ?_,ih.ord⟩⟩
   ·rcases a7D.mp m with m|m
    ·rw[m];exact gy
    ·exact ih.good h m
   ·rcases aL8.mp m with m|m
    ·rw[m];simpa using e
    ·exact(a8p.mp o.ord).1 z m
theorem as0{x:Hit}(gx:X6 x.2):∀{l:List Hit},(∀h∈l,earlier x.2 h.2=true)->(∀h∈l,X6 h.2)->(l.filter λh=> !E2 h.2 x.2)=[]
 |[],_,_=>rfl
 |y::r,h,g=>by
  rw[List.filter_cons_of_neg,as0 gx (λz m=>h z (a7B _ m)) (λz m=>g z (a7B _ m))]
  rw[al2 (g y a7C) gx,h y a7C]
  decide
theorem a1a{x:Hit}(gx:X6 x.2):∀{l:List Hit},Ord l->aA2 l x=putHit x l
 |[],_=>rfl
 |y::r,o=>by
  have o':Ord r:=⟨λh m=>o.good h (a7B _ m),(a8p.mp o.ord).2⟩
  have gy:=o.good y a7C
  have ly:E2 y.2 x.2=earlier x.2 y.2:=al2 gy gx
  unfold putHit
  split
  ·rename_i e
   have all:∀h∈y::r,earlier x.2 h.2=true:=λz m=>by
    rcases a7D.mp m with m|m
    ·rw[m];exact e
    ·cases c:earlier x.2 z.2 with
     |true=>rfl
     |false=>
      have gz:=o'.good z m
      have:=W5 gy gz gx ((a8p.mp o.ord).1 z m) c
      rw[this]at e
      cases e
   unfold aA2
   rw[as0 gx all o.good]
   rfl
  ·rename_i e
   have e':earlier x.2 y.2=false:=by simpa using e
   unfold aA2
   rw[List.filter_cons_of_pos (by rw[ly,e'];rfl)]
   show y::(aA2 r x)=_
   rw[a1a gx o']
def M5(r:Root)(n:Int):Bool:= !(earlier r ⟨1000,n,0⟩)
theorem ao7(n:Int):X6 ⟨1000,n,0⟩:=⟨by show(0:Int)<1000;decide,a91 0⟩
theorem aL9{r:Root}(hr:X6 r){n m:Int}(h:n<=m)(hm:M5 r m=true):M5 r n=true:=by
 unfold M5 at*
 have e1:earlier ⟨1000,m,0⟩ ⟨1000,n,0⟩=false:=by
  cases c:earlier ⟨1000,m,0⟩ ⟨1000,n,0⟩with
  |false=>rfl
  |true=>
   unfold earlier square at c
   rw[K3]at c
   simp only[a9t,Int.sub_zero]at c
   have:=p9 (m*1000-n*1000)
   lia
 have:=W5 (ao7 n) (ao7 m) hr e1 (by simpa using hm)
 rw[this]
 rfl
theorem aS8{f:Nat->Bool}:∀{N t:Nat},t<=N->(t=0\/f t=true)->(∀n,t<n->n<=N->f n=false)->((a7J (N+1)).reverse.find? f).getD 0=t
 |0,t,h,_,_=>by
  have:t=0:=by lia
  subst this
  show(List.find? f [0]).getD 0=0
  cases c:f 0<;>simp[List.find?,c]
 |N+1,t,h,h1,h2=>by
  rw[a8W,List.reverse_append]
  show(List.find? f ((N+1)::(a7J (N+1)).reverse)).getD 0=t
  rw[a9w]
  by_cases c:t=N+1
  ·subst c
   rcases h1 with h1|h1
   ·lia
   ·rw[h1];rfl
  ·rw[h2 (N+1) (by lia) (a7A _)]
   exact aS8 (by lia) h1 (λn a b=>h2 n a (by lia))
theorem a4o{r:Root}{t:Nat}(h:t<=1000)(h1:t=0\/M5 r (t:Int)=true)(h2:∀n:Nat,t<n->n<=1000->M5 r (n:Int)=false):thousandths r=t:=
 aS8 (f:=λ(n:Nat)=> !(earlier r ⟨1000,(n:Int),0⟩)) h h1 h2
theorem aA3{α:Type}{p q:Prop}[Decidable p] [Decidable q]{a b c d:α}(h:p↔q)(e1:a=c)(e2:b=d):(if p then a else b)=if q then c else d:=by
 subst e1 e2
 by_cases z:p
 ·rw[if_pos z,if_pos (h.mp z)]
 ·rw[if_neg z,if_neg (λv=>z (h.mpr v))]
theorem R7(n:Int):absolute (-n)=absolute n:=by unfold absolute;split<;>split<;>omega
theorem au3(x y wx wy hx hy:Int):l9 (-x) (-y) (-wx) (-wy) hx hy=l9 x y wx wy hx hy:=by
 unfold l9
 have e1:(max (-x) (-x+ -wx)<= -hx\/min (-x) (-x+ -wx)≥hx)↔(max x (x+wx)<= -hx\/min x (x+wx)≥hx):=by omega
 have e2:(max (-y) (-y+ -wy)<= -hy\/min (-y) (-y+ -wy)≥hy)↔(max y (y+wy)<= -hy\/min y (y+wy)≥hy):=by omega
 have e3:(-wx=0/\ -wy=0)↔(wx=0/\wy=0):=by omega
 refine aA3 e1 rfl (aA3 e2 rfl (aA3 e3 rfl ?_))
 rw[a9x,a9x,R7,R7]
theorem aS9(x y wx wy r:Int):m7 (-x) (-y) (-wx) (-wy) r=m7 x y wx wy r:=by
 unfold m7
 simp only[a9x]
theorem aH1(x y wx wy hx hy r:Int):o9 (-x) (-y) (-wx) (-wy) hx hy r=o9 x y wx wy hx hy r:=by
 unfold o9
 rw[au3,au3,au3]
 refine aA3 Iff.rfl rfl (aA3 Iff.rfl rfl ?_)
 have c:∀cx cy:Int,m7 (-x-cx) (-y-cy) (-wx) (-wy) r=m7 (x- -cx) (y- -cy) wx wy r:=λcx cy=>by
  have e1: -x-cx= -(x- -cx):=by omega
  have e2: -y-cy= -(y- -cy):=by omega
  rw[e1,e2,aS9]
 simp only[a8T,any_nil,c,Int.neg_neg,a9N]
 cases m7 (x-hx) (y-hy) wx wy r<;>cases m7 (x-hx) (y- -hy) wx wy r<;>cases m7 (x- -hx) (y-hy) wx wy r<;>cases m7 (x- -hx) (y- -hy) wx wy r<;>rfl
theorem al4(x y hx hy:Int):l9 x y 0 0 hx hy=(decide (absolute x<hx)&&decide (absolute y<hy)):=by
 unfold l9
 refine a7W.mpr ?_
 have e:(decide (absolute x<hx)&&decide (absolute y<hy))=true↔(-hx<x/\x<hx)/\ -hy<y/\y<hy:=by
  rw[a7z,decide_eq_true_eq,decide_eq_true_eq,C5,C5]
 rw[e]
 split
 ·constructor
  ·intro z;cases z
  ·intro z;omega
 ·split
  ·constructor
   ·intro z;cases z
   ·intro z;omega
  ·rw[if_pos ⟨rfl,rfl⟩]
   constructor
   ·intro _;omega
   ·intro _;rfl
theorem aH2(x y r:Int):m7 x y 0 0 r=decide (x*x+y*y<r*r):=by
 unfold m7
 simp only[a9t,Int.add_zero,Int.neg_zero,a91,if_true]
 refine a7W.mpr ?_
 rw[decide_eq_true_eq,decide_eq_true_eq]
 omega
theorem aA4{x h b:Int}(hh:0<=h)(hb:b=absolute x-h)(h0:0<=b):b*b<=(x-h)*(x-h)/\b*b<=(x- -h)*(x- -h)/\(b*b=(x-h)*(x-h)\/b*b=(x- -h)*(x- -h)):=by
 unfold absolute at hb
 by_cases c:x<0
 ·rw[if_pos c]at hb
  have e:(x- -h)*(x- -h)=b*b:=by rw[hb];grind
  refine⟨?_,by omega,.inr (by omega)⟩
  have:=az6 (a:=b) (b:= -(x-h)) (by omega) (by omega)
  rw[a9x]at this
  exact this
 ·rw[if_neg c]at hb
  have e:(x-h)*(x-h)=b*b:=by rw[hb]
  refine⟨by omega,?_,.inl (by omega)⟩
  exact az6 (a:=b) (b:=x- -h) (by omega) (by omega)
theorem aA5{x y hx hy r:Int}(h1:0<hx)(h2:0<hy)(h3:0<r):o9 x y 0 0 hx hy r=decide (square (beyond hx x)+square (beyond hy y)<square r):=by
 obtain⟨bx,ebx⟩:∃b,b=beyond hx x:=⟨_,rfl⟩
 obtain⟨yb,eby⟩:∃b,b=beyond hy y:=⟨_,rfl⟩
 rw[←ebx,←eby]
 have x0:0<=bx:=by rw[ebx];unfold beyond;omega
 have y0:0<=yb:=by rw[eby];unfold beyond;omega
 have qx:=p9 bx
 have qy:=p9 yb
 unfold o9 square
 rw[al4,al4,al4]
 by_cases c1:(decide (absolute x<hx+r)&&decide (absolute y<hy+r))=false
 ·rw[if_pos c1,Bool.and_eq_false_iff,decide_eq_false_iff_not,decide_eq_false_iff_not]at*
  refine(decide_eq_false ?_).symm
  rcases c1 with c|c
  ·have:=az6 (a:=r) (b:=bx) (by omega) (by rw[ebx];unfold beyond;omega)
   omega
  ·have:=az6 (a:=r) (b:=yb) (by omega) (by rw[eby];unfold beyond;omega)
   omega
 ·rw[if_neg c1]
  have c1':(decide (absolute x<hx+r)&&decide (absolute y<hy+r))=true:=by simpa using c1
  rw[a7z,decide_eq_true_eq,decide_eq_true_eq]at c1'
  obtain⟨p1,p2⟩:=c1'
  by_cases c2:((decide (absolute x<hx+r)&&decide (absolute y<hy))||(decide (absolute x<hx)&&decide (absolute y<hy+r)))=true
  ·rw[if_pos c2]
   refine(decide_eq_true ?_).symm
   simp only[a8v,a7z,decide_eq_true_eq]at c2
   rcases c2 with⟨c,d⟩|⟨c,d⟩
   ·have:yb=0:=by rw[eby];unfold beyond;omega
    rw[this]
    have:=aw0 (a:=bx) (b:=r) (by omega) (by rw[ebx];unfold beyond;omega)
    omega
   ·have:bx=0:=by rw[ebx];unfold beyond;omega
    rw[this]
    have:=aw0 (a:=yb) (b:=r) (by omega) (by rw[eby];unfold beyond;omega)
    omega
  ·rw[if_neg c2]
   simp only[a8v,a7z,decide_eq_true_eq,not_or,not_and]at c2
   have g1:=c2.1 p1
   have g2:¬absolute x<hx:=λz=>c2.2 z p2
   have vx:bx=absolute x-hx:=by rw[ebx];unfold beyond;omega
   have vy:yb=absolute y-hy:=by rw[eby];unfold beyond;omega
   obtain⟨a1,a2,a3⟩:=aA4 (a85 h1) vx x0
   obtain⟨b1,b2,b3⟩:=aA4 (a85 h2) vy y0
   refine a7W.mpr ?_
   simp only[a8T,any_nil,aH2,a8v,decide_eq_true_eq,a8k,or_false]
   constructor
   ·rintro(z|z|z|z)<;>omega
   ·intro z
    rcases a3 with a3|a3<;>rcases b3 with b3|b3<;>omega
theorem aT0(s t:Shape)(x y:Int):within s t ⟨x,y⟩=within t s ⟨-x,-y⟩:=by
 have bn:∀h n,beyond h (-n)=beyond h n:=λh n=>by unfold beyond;rw[R7]
 cases s<;>cases t<;>simp only[within,dot,R7,bn,a9x,a9R]
 all_goals (try rfl)
end Mb
namespace Mp
open PySem PySem.Spec PyProof.Rows L2
open PySem.W (Codec)
section
open PySem.AutoSeq1 (wpAny_loadPart')
theorem a0d(l:Addr)(items:Array Value)(n:Nat)(b:Addr)(items2:Array Value)(n2:Nat)(dd:Option Addr)(sl:Array (Option Value))(hs0:¬(!items.isEmpty&&Builtin.List.listTooLong (items.size+items2.size))=true)(hs1:items.size<=sizeLine)(hs2:items.size+items2.size<=sizeLine+1):
 Meets (Builtin.«list.extend» ⟨[.ref l,.ref b],[]⟩) (λ_ R s=>s.heap.get? l=some {cls:= .type "list",dict:=none,data:= .seq items n,slots:= #[]}/\s.heap.get? b=some {cls:= .type "tuple",dict:=dd,data:= .seq items2 n2,slots:=sl}/\R (.ok (.ret Value.none)) {s with heap:=s.heap.update l (Obj.mapSeq λx=>x++items2),toks:=s.toks}):=
 .of_wp λprog w A R s h=>by
  obtain⟨hp,g,d,tk,os⟩:=s
  obtain⟨hl,hb,h⟩:=h
  have f1:=PySem.AutoSeq1.idx_int
  have f2:=PySem.AutoSeq1.sub_tuple_tuple
  have f3:=PySem.AutoSeq1.sub_list_list
  have f4:=PySem.AutoSeq1.sub_tuple_list
  have f5:=PySem.AutoSeq1.sub_list_tuple
  have hz':(items++items2).size<=sizeLine+1:=by rw[Array.size_append];exact hs2
  wp_walk using(wpAny_updateSeq hl rfl (hz:=hs1) (_hz':=hz')),wpAny_loadPart' hl,wpAny_loadPart' hb
  exact⟨_,rfl,h⟩
end
def a3o(K:Frag):V->List V->Hp->VK->Prop:=λx vs H Q=>∃l b xs zs,x= .ref l/\vs=[.ref b]/\H l=some (.lst xs)/\v7 K H b zs/\xs.length+zs.length<=sizeLine/\∀G,Kp l H G->G l=some (.lst (xs++zs))->Q .non G
theorem aA6{X:Cx}:MtM X "list.extend" (a3o X.K):=by
 intro a7q s U H x vs v us Q I rx rv h
 obtain⟨l,b,xs,zs,rfl,rfl,hH,hB,hz,q⟩:=h
 cases rx
 obtain⟨u,rfl,ru⟩:=rv.one
 cases ru
 obtain⟨z,its,n,r,hl,e⟩:=I.lstM hH
 obtain⟨its2,r2,⟨⟨c2,dd,dt,sl⟩,ho2,hc2,n2,hd2⟩,z2⟩:=I.tuple hB
 have hl2:=r2.length
 cases hc2
 cases hd2
 have hsz:its.toArray.size+its2.toArray.size<=sizeLine:=by rw[a7K,a7K];lia
 have hlong:¬(!its.toArray.isEmpty&&Builtin.List.listTooLong (its.toArray.size+its2.toArray.size))=true:=by
  rw[aO9 hsz,a98]
  exact a7Z
 refine call_meets F.slot_list_extend ⟨_,e,rfl⟩ F.entry_list_extend (F.args_list_extend_2 _ _)
  (a0d l its.toArray n b its2.toArray n2 dd sl hlong (by rw[a7K];lia) (by lia)) ⟨e,ho2,?_⟩
 refine⟨.non,_,I.lset (its':=its++its2) hH e (by simp) (r.append r2) ?_,rfl,q _ (λb o n e=>by rw[j6 n];exact e) i8⟩
 rw[a7M]
 lia
theorem y8.ins{x:V}{u:Value}(r:B4 x u):∀{xs:List V} {us:List Value} (i:Nat),y8 xs us->y8 (xs.insertIdx i x) (us.insertIdx i u)
 |_,_,0,t=>by rw[insertIdx_zero,insertIdx_zero];exact .cons r t
 |_,_,i+1,.nil=> .nil
 |_,_,i+1,.cons q t=>by rw[a9j,a9j];exact .cons q (y8.ins r i t)
theorem aT1:∀{us:List Value} {u:Value} {k:Nat},k<=us.length->us.insertIdx k u=us.take k++[u]++us.drop k
 |us,u,0,_=>rfl
 |[],u,k+1,h=>absurd h (by simp)
 |a::us,u,k+1,h=>by
  rw[a9j,aT1 (k:=k) (by simpa using h)]
  rfl
def a4p:V->List V->Hp->VK->Prop:=λx vs H Q=>∃l k xs y,x= .ref l/\vs=[.int ((k:Nat):Int),y]/\H l=some (.lst xs)/\k<=xs.length/\xs.length<sizeLine/\∀G,Kp l H G->G l=some (.lst (xs.insertIdx k y))->Q .non G
theorem a18{X:Cx}:MtM X "list.insert" a4p:=by
 intro a7q s U H x vs v us Q I rx rv h
 obtain⟨l,k,xs,y,rfl,rfl,hH,hk,hz,q⟩:=h
 cases rx
 obtain⟨u1,u,rfl,⟨t,rfl⟩,ru⟩:=rv.two
 obtain⟨z,its,n,r,hl,e⟩:=I.lstM hH
 have hn:=am7
 have hfit:¬(!Builtin.List.listFitsIndex (k:Int))=true:=by
  have:=fitsIndex_both (k:=(k:Int)) (by lia) (by lia)
  rw[this]
  decide
 have hz2:its.toArray.size<=sizeLine:=by rw[a7K];lia
 obtain⟨kk,ek⟩:∃kk:Int,kk=(k:Int):=⟨_,rfl⟩
 rw[←ek]at hfit⊢
 have m:=PySem.AutoListH.list_insert_list_int_val_1 l its.toArray n kk t u hfit hz2
 refine call_meets F.slot_list_insert ⟨_,e,rfl⟩ F.entry_list_insert (F.args_list_insert_3 _ _ _) m ⟨e,?_⟩
 subst ek
 refine⟨.non,_,I.lset (its':=its.insertIdx k u) (ys:=xs.insertIdx k y) hH e ?_ (y8.ins ru k r) ?_,rfl,q _ (λb o n e=>by rw[j6 n];exact e) i8⟩
 ·rw[aT1 (by lia)]
  have e1:(if((k:Nat):Int)<0 then(((k:Nat):Int)+((its.toArray.size:Nat):Int)).toNat else min ((k:Nat):Int).toNat its.toArray.size)=k:=by
   rw[if_neg (by lia),a7K]
   lia
  show(have k':=if((k:Nat):Int)<0 then(((k:Nat):Int)+((its.toArray.size:Nat):Int)).toNat else min ((k:Nat):Int).toNat its.toArray.size;(its.toArray.extract 0 k').push u++its.toArray.extract k')=_
  rw[e1]
  simp[List.extract_eq_take_drop]
  exact a9Z (by rw[length_drop];exact a7A _)
 ·rw[List.length_insertIdx,if_pos (by lia)]
  lia
def a7l(fam:Addr->Sp->Prop)(tf:TE)(t:TA):TE:=λU H Q=>tf U H λx H1=>∃f sp,x= .ref f/\fam f sp/\t U H1 λvs H2=>sp vs H2 Q E0
theorem a0e{X:Cx}{fam:Addr->Sp->Prop}{k:Nat}{ps:List Str}{a b e:Expr}{es:List Expr}{tf:TE}{t:TA}{p pos:Pos}(hf:PE X (.Subscript a b p) tf)
 (F:∀f sp,fam f sp->a80 X.K (.ref f)=true/\∃fd,U0 X.K fd ps []/\A7 X.prog X.w X.K X.mg X.base M2 k f fd ps sp) (hr:N6 k X.A) (ha:PA X (e::es) t)
 (he:starEach (e::es) X.env=(false,eval e X.env)::starEach es X.env:=by rfl) (hpl:(backTo pos (starEach es X.env)).any (·.1)=false:=by rfl):
 PE X (.Call (.Subscript a b p) (e::es) [] pos) (a7l fam tf t):=by
 intro a7q s U H Q I h
 show wpAny _ _ (do callWith pos (←eval (.Subscript a b p) X.env) [] (backTo pos (starEach (e::es) X.env)) (backToKw pos (keywordEach [] X.env))) _ _ s
 refine wpAny_bind (F8 (hf a7q s U H _ I h) λu s1 ⟨x,H1,I1,rx,f,sp,ex,hfam,q⟩=> ?_)
 subst ex
 obtain rfl:u=Value.ref f:=rx
 obtain⟨hk,fd,hb,G⟩:=F f sp hfam
 refine a99 (h₀:=X.base) I1.ok.mod.kin hk (F8 (ha pos a7q s1 U H1 _ I1 q) λus s2 ⟨vs,H2,I2,r,q2⟩=>⟨I2.kIn,?_⟩) he hpl
 exact a2u G hr hb .nil a0I I2 r (by rw[a72];exact q2)
def K8(i j:Int):Prop:=Builtin.Int.intBits i<=10000/\Builtin.Int.intBits j<=10000
theorem K8.ok{i j:Int}(h:K8 i j):IntMulOk i j:=IntMulOk.of_le h.1 h.2 (by decide)
theorem D5{X:Cx}:OpR X (binaryOp .Mult) (rI K8 λi j=> .int (i*j)):=opI λ_ _ _ _ _ _ _ hc q=>mul_int q hc.ok
theorem aT2{K:Frag}{a:Addr}{xs:List V}{g:TG}{tb:TS}{D:au6}{U:L2.St}{H:Hp}(Pv:Nat->L2.St->Hp->Prop)(h0:Pv 0 U H)(hl:∀i U H,i<=xs.length->Pv i U H->n9 K H a xs)
 (hs:∀(i:Nat) (x:V) (U:L2.St) (H G:Hp) (T:Addr),xs[i]? =some x->Pv i U H->f9 H G->H T=Option.none->G T=some (.tup [.int ((i:Nat):Int),x])->g (.ref T) U G λσ2 H2=>tb {D with nx:=Pv (i+1),ct:=Pv (i+1),bk:=D.nx} σ2 H2) (hd:∀U H,Pv xs.length U H->D.nx U H):
 ∃W:Nat->Nat->L2.St->Hp->Prop,(∃m,W 0 m U H)/\∀i m U H,W i m U H->
  ((Ite K a).stop i H/\D.nx U H)\/((Ite K a).go i H/\∃N:L2.St->Hp->Prop,(∀σ' H',N σ' H'->∃m',m'<m/\W (i+1) m' σ' H')/\∀x H',(Ite K a).yld i H x H'->g x U H' λσ2 H2=>tb {D with nx:=N,ct:=N,bk:=D.nx} σ2 H2):=by
 refine⟨λi m U H=>m=xs.length-i/\i<=xs.length/\Pv i U H,⟨xs.length,by simp,a8n _,h0⟩,?_⟩
 rintro i m U H ⟨rfl,hi,p⟩
 have qx:=hl i U H hi p
 by_cases hlt:i<xs.length
 ·refine .inr ⟨⟨xs,xs[i],qx,by simp[hlt]⟩,Pv (i+1),λσ' H' p'=>⟨xs.length-(i+1),by lia,rfl,hlt,p'⟩,λv H' yl=> ?_⟩
  obtain⟨T,x,rfl,nT,rfl,ex⟩:=yl
  exact hs i x U H _ T (ex xs qx) p (f9.new nT) nT i8
 ·have e:i=xs.length:=by lia
  subst e
  exact .inl ⟨⟨xs,qx,a7A _⟩,hd U H p⟩
section
variable{K:Frag}{a:Addr}{xs:List V}{ys:List (Option V)}{g:TG}{tt:TT}{te:TE}{vs:List Nat}{U:L2.St}{H1:Hp}{Q:VK}
theorem lcE{D:Addr}{Qd:Hp->Prop}(nD:H1 D=Option.none)(hl:n9 K H1 a xs)(hlen:ys.length=xs.length)(hz:ys.length<=sizeLine)
 (st:∀(i:Nat) (x:V) (o:Option V) (H:Hp) (T:Addr),xs[i]? =some x->ys[i]? =some o->f9 H1 H->H T=some (.tup [.int ((i:Nat):Int),x])->aJ5 g tt te vs U (.ref T) o H)
 (O3:∀H,f9 H1 H->H D=some (.lst (ys.filterMap id))->Qd H):
 ∃W:Nat->Nat->Hp->Prop,(∃m,W 0 m (A6 H1 D (.lst [])))/\∀i m H,W i m H->
  ((Ite K a).stop i H/\Qd H)\/((Ite K a).go i H/\∃Nx:Hp->Prop,(∀H',Nx H'->∃m',m'<m/\W (i+1) m' H')/\∀x H',(Ite K a).yld i H x H'->g x (D1 U vs) H' λσ2 H2=>D1 σ2 vs=D1 U vs/\tt σ2 H2 λb H3=>
    if b=true then te σ2 H3 λy H4=>∃acc,H4 D=some (.lst acc)/\acc.length<sizeLine/\Nx (A6 H4 D (.lst (acc++[y])))else Nx H3):=by
 let Pv:Nat->Hp->Prop:=λi H=>f9 H1 H/\H D=some (.lst ((ys.take i).filterMap id))
 refine⟨λi m H=>m=xs.length-i/\i<=xs.length/\Pv i H,⟨xs.length,by simp,a8n _,f9.new nD,i8⟩,?_⟩
 rintro i m H ⟨rfl,hi,s1,hD⟩
 have qx:=s1.seq hl
 by_cases hlt:i<xs.length
 ·refine .inr ⟨⟨xs,xs[i],qx,by simp[hlt]⟩,Pv (i+1),λH' p'=>⟨xs.length-(i+1),by lia,rfl,hlt,p'⟩,λv H' yl=> ?_⟩
  obtain⟨T,x,rfl,nT,rfl,ex⟩:=yl
  have hxx:=ex xs qx
  have hio:i<ys.length:=by lia
  have ho:=a7u hio
  have s2:f9 H (A6 H T (.tup [.int ((i:Nat):Int),x])):=f9.new nT
  exact aJ6 nD hz ho (st i x _ _ T hxx ho (s1.trans s2) i8) (s1.trans s2) (s2 _ _ hD)
 ·have e:i=xs.length:=by lia
  subst e
  refine .inl ⟨⟨xs,qx,a7A _⟩,O3 H s1 ?_⟩
  rw[←hlen,a8o]at hD
  exact hD
end
def a4q(K:Frag):List V->Hp->VK->Prop:=λxs H Q=>∃p ys,xs=[.ref p]/\v7 K H p ys/\∀l G,f9 H G->H l=Option.none->G l=some (.lst ys)->Q (.ref l) G
theorem aT3{X:Cx}:N4 X (.type "list") (a4q X.K):=λa7q s U H xs us Q I r h=>by
 obtain⟨p,ys,e,hq,k⟩:=h
 exact aj2 a7q s U H xs us Q I r ⟨p,ys,e,.inr hq,λl n=>k l _ (f9.new n) n i8⟩
def a6J(K:Frag):List V->Hp->VK->Prop:=λxs H Q=>∃p ys,xs=[.ref p]/\n9 K H p ys/\∀l G,f9 H G->H l=Option.none->G l=some (.tup ys)->Q (.ref l) G
theorem aH3{X:Cx}:N4 X (.type "tuple") (a6J X.K):=λa7q s U H xs us Q I r h=>by
 obtain⟨p,ys,e,hq,k⟩:=h
 exact aC3 a7q s U H xs us Q I r ⟨p,ys,e,.inl ⟨hq,λl n=>k l _ (f9.new n) n i8⟩⟩
def a6K(K:Frag):V->Option Int->Option Int->Hp->VK->Prop:=λx lo hi H Q=>∃a xs,x= .ref a/\n9 K H a xs/\∀p G,f9 H G->H p=Option.none->G p=some (.lst (aC1 xs lo hi))->Q (.ref p) G
theorem aT4{X:Cx}:SlR X (a6K X.K):=λa7q s U H x v vl vu lo hi sl Q I rx hs h1 h2 h=>by
 obtain⟨a,xs,e,hq,k⟩:=h
 exact a30 a7q s U H x v vl vu lo hi sl Q I rx hs h1 h2 ⟨a,xs,e,hq,λp n=>k p _ (f9.new n) n i8⟩
def a6L:R2:=λx y H Q=>∃l b xs zs,x= .ref l/\y= .ref b/\H l=some (.lst xs)/\H b=some (.lst zs)/\xs.length+zs.length<=sizeLine/\∀p G,f9 H G->H p=Option.none->G p=some (.lst (xs++zs))->Q (.ref p) G
theorem a1b{X:Cx}:OpR X (binaryOp .Add) a6L:=λa7q s U H x y v u Q I rx ry h=>by
 obtain⟨l,b,xs,zs,e1,e2,h1,h2,hz,k⟩:=h
 exact a2z a7q s U H x y v u Q I rx ry ⟨l,b,xs,zs,e1,e2,h1,h2,hz,λp n=>k p _ (f9.new n) n i8⟩
def a6M:V->List V->Hp->VK->Prop:=λx vs H Q=>∃l xs k y,x= .ref l/\vs=[.int ((k:Nat):Int)]/\H l=some (.lst xs)/\xs[k]? =some y/\∀G,Kp l H G->G l=some (.lst (xs.eraseIdx k))->Q y G
theorem a4r{X:Cx}:MtM X "list.pop" a6M:=λa7q s U H x xs v us Q I rx rxs h=>by
 obtain⟨l,ys,k,y,e1,e2,h1,h2,q⟩:=h
 have hk:k<ys.length:=(a7x.mp h2).1
 have hz:=(I.lstM h1).1
 have hn:(sizeLine:Int)<=2^62:=by decide
 exact a2y a7q s U H x xs v us Q I rx rxs ⟨l,ys,(k:Int),k,y,e1,e2,h1,by lia,by lia,by rw[seqIndex_of (by lia) (by lia)];rfl,h2,q _ (λb o n e=>by rw[j6 n];exact e) i8⟩
end Mp
namespace Mp
open PySem PySem.Spec PyProof.Rows L2
open PySem.W (Codec)
open Vbwsam (bodyAt going clash clashBy moves zeroPair meetings partOnce part behind edges pairsOf)
abbrev ao8:Stmt:=O7 13
abbrev P6:Stmt:=O7 14
abbrev ao9:Stmt:=O7 15
abbrev ai3:Stmt:=O7 16
abbrev ai4:Stmt:=O7 17
abbrev Bi(n:Nat)(x:Int):Prop:=Builtin.Int.intBits x<=n
theorem Bi.up{m n:Nat}{x:Int}(h:Bi m x)(l:m<=n):Bi n x:=a7G h l
theorem Bi.mul{m n k:Nat}{x y:Int}(h:Bi m x)(h':Bi n y)(l:m+n<=k):Bi k (x*y):=a7G (intBits_mul_le h h') l
theorem Bi.sub{m n k:Nat}{x y:Int}(h:Bi m x)(h':Bi n y)(l:max m n+1<=k):Bi k (x-y):=a7G (intBits_sub_le h h') l
theorem Bi.add{m n k:Nat}{x y:Int}(h:Bi m x)(h':Bi n y)(l:max m n+1<=k):Bi k (x+y):=a7G (intBits_add_le h h') l
theorem Bi.neg{m:Nat}{x:Int}(h:Bi m x):Bi m (-x):=intBits_neg_le h
theorem Bi.of{n:Nat}{x:Int}(h:x.natAbs<2^n):Bi n x:=intBits_le_iff.mpr h
structure RB(t:a8r):Prop where
 a:Bi 300 t.a
 b:Bi 300 t.b
 d:Bi 700 t.d
theorem a3p{Q:VK}{H:Hp}{b c:Int}(k:Q (.int b) H)(e:b=c):Q (.int c) H:=e▸k
theorem aH4(n:Int):Bi 2 (Mb.J7 n):=by
 unfold Mb.J7
 split
 ·exact Bi.of (by decide)
 ·split
  ·exact Bi.of (by decide)
  ·exact Bi.of (by decide)
theorem a19(w s:Int):Bi 2 (Mb.J0 w s):=by
 unfold Mb.J0
 split<;>exact aH4 _
def R3(t:a8r):List V:=[.int t.a,.int t.b,.int t.d]
section
variable{P:Program}{w:World}{K:Frag}{mg:Str->Option Value}{base:Heap}{C W:Addr}
def aM0:Sp:=λvs H Q _=>∃n,vs=[.int n]/\Q (.int (Mb.J7 n)) H
theorem aA7:n8 ["number"] ["number"] (g9 ao8):=⟨rfl,rfl,rfl,by decide+kernel,rfl,by decide+kernel,by decide+kernel⟩
theorem a0f{f:Addr}{fd:FuncData}(F:M3 K "sign_of" "sign_of" ao8 f fd):A7 P w K mg base M2 1 f fd ["number"] aM0:=by
 refine F.ok aA7 (λvs H Q E h=> ?_) (λcdv A outer s H vs Q E hr h=> ?_)
 ·obtain⟨n,rfl,_⟩:=h
  rfl
 ·obtain⟨n,rfl,k⟩:=h
  have nd:=aA7.nd
  refine⟨_,(e9 (B8 (o8 aD9 (pv 0) f6 (t9 _))
   (f8 (l8 f6))
   v8)
   (e9 (B8 (o8 S4 (pv 0) f6 (t9 _))
    (f8 (l8 (T9 N5 f6)))
    v8)
   (f8 (l8 f6)))),?_⟩
  walk_at "rd"
  all_goals refine a3p k ?_
  all_goals simp only[decide_eq_true_eq]at*
  all_goals unfold Mb.J7
  ·rw[if_pos (by omega)]
  ·rw[if_neg (by omega),if_pos (by omega)]
  ·rw[if_neg (by omega),if_neg (by omega)]
def aM1:Sp:=λvs H Q _=>∃n m,vs=[.int n,.int m]/\Bi 5000 n/\Q (.int (Mb.J0 n m)) H
theorem V2:n8 ["whole","square"] ["whole","square"] (g9 P6):=⟨rfl,rfl,rfl,by decide+kernel,rfl,by decide+kernel,by decide+kernel⟩
theorem al5{f:Addr}{fd:FuncData}(F:M3 K "sign_with_root" "sign_with_root" P6 f fd)(D_sign_of:Df P w K mg base "sign_of" 1 ["number"] aM0):A7 P w K mg base M2 2 f fd ["whole","square"] aM1:=by
 refine F.ok V2 (λvs H Q E h=> ?_) (λcdv A outer s H vs Q E hr h=> ?_)
 ·obtain⟨n,m,rfl,_⟩:=h
  rfl
 ·obtain⟨n,m,rfl,hb,k⟩:=h
  have nd:=V2.nd
  have c1:K8 n n:=⟨hb.up (by decide),hb.up (by decide)⟩
  refine⟨_,(e9 (B8 (o8 av1 (pv 0) f6 (t9 _))
   (f8 (l8 (A0 D_sign_of hr (by rfl) (e8 (m9 B0 (pv 0) (pv 1)) f7))))
   v8)
   (f8 (l8 (A0 D_sign_of hr (by rfl) (e8 (m9 F0 (pv 1) (m9 D5 (pv 0) (pv 0))) f7))))),?_⟩
  walk_at "rd"
  all_goals refine a3p k ?_
  all_goals simp only[decide_eq_true_eq]at*
  all_goals unfold Mb.J0
  ·rw[if_pos (by omega)]
  ·rw[if_neg (by omega)]
def ap0(K:Frag):Sp:=λvs H Q _=>∃(p q:Addr) (x y:a8r),vs=[.ref p,.ref q]/\v7 K H p (R3 x)/\v7 K H q (R3 y)/\RB x/\RB y/\Q (.int (Mb.a3m x y)) H
theorem aA8:n8 ["one","other","ahead","plus","minus"] ["one","other"] (g9 ao9):=⟨rfl,rfl,rfl,by decide+kernel,rfl,by decide+kernel,by decide+kernel⟩
theorem a0g{f:Addr}{fd:FuncData}(F:M3 K "compare" "compare" ao9 f fd)(D_sign_of:Df P w K mg base "sign_of" 2 ["number"] aM0)(D_sign_with_root:Df P w K mg base "sign_with_root" 2 ["whole","square"] aM1):A7 P w K mg base M2 3 f fd ["one","other"] (ap0 K):=by
 refine F.ok aA8 (λvs H Q E h=> ?_) (λcdv A outer s H vs Q E hr h=> ?_)
 ·obtain⟨p,q,x,y,rfl,_⟩:=h
  rfl
 ·obtain⟨p,q,⟨a,b,d⟩,⟨a',b',d'⟩,rfl,hp,hq,⟨xa,xb,xd⟩,⟨ya,yb,yd⟩,k⟩:=h
  have nd:=aA8.nd
  have hp:v7 K H p [.int a,.int b,.int d]:=hp
  have hq:v7 K H q [.int a',.int b',.int d']:=hq
  have ah:Bi 601 (b*a'-b'*a):=Bi.sub (Bi.mul xb ya (a7A _)) (Bi.mul yb xa (a7A _)) (by decide)
  have p1:Bi 1000 (d'*a):=Bi.mul yd xa (by decide)
  have p2:Bi 1300 (d'*a*a):=Bi.mul p1 xa (by decide)
  have m1:Bi 1000 (d*a'):=Bi.mul xd ya (by decide)
  have m2:Bi 1300 (d*a'*a'):=Bi.mul m1 ya (by decide)
  have c1:K8 b a':=⟨xb.up (by decide),ya.up (by decide)⟩
  have c2:K8 b' a:=⟨yb.up (by decide),xa.up (by decide)⟩
  have c3:K8 d' a:=⟨yd.up (by decide),xa.up (by decide)⟩
  have c4:K8 (d'*a) a:=⟨p1.up (by decide),xa.up (by decide)⟩
  have c5:K8 d a':=⟨xd.up (by decide),ya.up (by decide)⟩
  have c6:K8 (d*a') a':=⟨m1.up (by decide),ya.up (by decide)⟩
  have c7:K8 (b*a'-b'*a) (d'*a*a-d*a'*a'):=⟨ah.up (by decide),Bi.sub p2 m2 (by decide)⟩
  have c8:K8 (b*a'-b'*a) (b*a'-b'*a):=⟨ah.up (by decide),ah.up (by decide)⟩
  have c9:K8 4 (d'*a*a):=⟨Bi.of (by decide),p2.up (by decide)⟩
  have c10:K8 (4*(d'*a*a)) (d*a'*a'):=⟨Bi.mul (m:=3) (Bi.of (by decide)) p2 (by decide),m2.up (by decide)⟩
  have w1:Bi 5000 ((b*a'-b'*a)*(b*a'-b'*a)-d'*a*a-d*a'*a'):=Bi.sub (m:=1400) (Bi.sub (Bi.mul ah ah (a7A _)) p2 (by decide)) m2 (by decide)
  have c11:K8 (Mb.J7 (b*a'-b'*a)) (Mb.J0 ((b*a'-b'*a)*(b*a'-b'*a)-d'*a*a-d*a'*a') (4*(d'*a*a)*(d*a'*a'))):=⟨(aH4 _).up (by decide),(a19 _ _).up (by decide)⟩
  refine⟨_,(e9 (j9 (i:=2) nd rfl (Or.inl rfl) (m9 F0 (m9 D5 (i9 j5 (pv 0) f6 (λ_ _=>rfl)) (i9 j5 (pv 1) f6 (λ_ _=>rfl))) (m9 D5 (i9 j5 (pv 1) f6 (λ_ _=>rfl)) (i9 j5 (pv 0) f6 (λ_ _=>rfl)))))
   (e9 (j9 (i:=3) nd rfl (Or.inl rfl) (m9 D5 (m9 D5 (i9 j5 (pv 1) f6 (λ_ _=>rfl)) (i9 j5 (pv 0) f6 (λ_ _=>rfl))) (i9 j5 (pv 0) f6 (λ_ _=>rfl))))
   (e9 (j9 (i:=4) nd rfl (Or.inl rfl) (m9 D5 (m9 D5 (i9 j5 (pv 0) f6 (λ_ _=>rfl)) (i9 j5 (pv 1) f6 (λ_ _=>rfl))) (i9 j5 (pv 1) f6 (λ_ _=>rfl))))
   (e9 (B8 (o8 av1 (m9 D5 (pv 2) (m9 F0 (pv 3) (pv 4))) f6 (t9 _))
    (f8 (l8 (A0 D_sign_of hr (by rfl) (e8 (m9 F0 (m9 B0 (pv 2) (pv 3)) (pv 4)) f7))))
    v8)
   (f8 (l8 (m9 D5 (A0 D_sign_of hr (by rfl) (e8 (pv 2) f7)) (A0 D_sign_with_root hr (by rfl) (e8 (m9 F0 (m9 F0 (m9 D5 (pv 2) (pv 2)) (pv 3)) (pv 4)) (e8 (m9 D5 (m9 D5 f6 (pv 3)) (pv 4)) f7)))))))))),?_⟩
  walk_at "rd"
  all_goals refine a3p k ?_
  all_goals simp only[decide_eq_true_eq]at*
  all_goals unfold Mb.a3m
  ·dsimp only
   rw[if_pos (by assumption)]
  ·dsimp only
   rw[if_neg (by assumption)]
def Z3(K:Frag):Sp:=λvs H Q _=>∃(p q:Addr) (x y:a8r),vs=[.ref p,.ref q]/\v7 K H p (R3 x)/\v7 K H q (R3 y)/\RB x/\RB y/\Q (.bl (Mb.E2 x y)) H
theorem as1:n8 ["one","other"] ["one","other"] (g9 ai3):=⟨rfl,rfl,rfl,by decide+kernel,rfl,by decide+kernel,by decide+kernel⟩
theorem aT5{f:Addr}{fd:FuncData}(F:M3 K "is_later" "is_later" ai3 f fd)(D_compare:Df P w K mg base "compare" 3 ["one","other"] (ap0 K)):A7 P w K mg base M2 4 f fd ["one","other"] (Z3 K):=by
 refine F.ok as1 (λvs H Q E h=> ?_) (λcdv A outer s H vs Q E hr h=> ?_)
 ·obtain⟨p,q,x,y,rfl,_⟩:=h
  rfl
 ·obtain⟨p,q,x,y,rfl,hp,hq,hx,hy,k⟩:=h
  have nd:=as1.nd
  refine⟨_,(f8 (l8 (R5 aD9 (A0 D_compare hr (by rfl) (e8 (pv 0) (e8 (pv 1) f7))) f6 (t9 _)))),?_⟩
  refine⟨_,rfl,_,rfl,p,q,x,y,rfl,hp,hq,hx,hy,_,_,rfl,rfl,?_⟩
  exact k
def ap1(K:Frag):Sp:=λvs H Q _=>∃(p q:Addr) (x y:a8r),vs=[.ref p,.ref q]/\v7 K H p (R3 x)/\v7 K H q (R3 y)/\RB x/\RB y/\∀t,v7 K H t (R3 (Mb.C1 x y))->Q (.ref t) H
theorem as2:n8 ["one","other"] ["one","other"] (g9 ai4):=⟨rfl,rfl,rfl,by decide+kernel,rfl,by decide+kernel,by decide+kernel⟩
theorem aT6{f:Addr}{fd:FuncData}(F:M3 K "later_of" "later_of" ai4 f fd)(D_is_later:Df P w K mg base "is_later" 4 ["one","other"] (Z3 K)):A7 P w K mg base M2 5 f fd ["one","other"] (ap1 K):=by
 refine F.ok as2 (λvs H Q E h=> ?_) (λcdv A outer s H vs Q E hr h=> ?_)
 ·obtain⟨p,q,x,y,rfl,_⟩:=h
  rfl
 ·obtain⟨p,q,x,y,rfl,hp,hq,hx,hy,k⟩:=h
  have nd:=as2.nd
  refine⟨_,(f8 (l8 (au8 (N3 (A0 D_is_later hr (by rfl) (e8 (pv 1) (e8 (pv 0) f7)))) (pv 1) (pv 0)))),?_⟩
  refine⟨_,rfl,_,rfl,q,p,y,x,rfl,hq,hp,hy,hx,_,rfl,?_⟩
  refine z8 (λhh=> ?_) (λhh=> ?_)
  ·refine⟨_,rfl,k q ?_⟩
   unfold Mb.C1
   rw[if_pos hh]
   exact hq
  ·refine⟨_,rfl,k p ?_⟩
   unfold Mb.C1
   rw[if_neg hh]
   exact hp
end
abbrev T6:Stmt:=O7 19
abbrev P7:Stmt:=O7 22
theorem Sm.bi{n:Int}(h:Sm n):Bi 31 n:=Bi.of (by obtain⟨h1,h2⟩:=h;omega)
def Z4(K:Frag)(H:Hp)(Q:VK)(o:Option a8r):Prop:=
 (o=none->∀G,f9 H G->Q .non G)/\∀t,o=some t->∀G q,f9 H G->v7 K G q (R3 t)->Q (.ref q) G
def a0h(K:Frag)(mg:Str->Option Value):Prop:=∃e,mg "END"=some (.ref e)/\∀H,v7 K H e (R3 Mb.END)
theorem a3q:RB Mb.END:=⟨Bi.up (m:=2) (Bi.of (by decide)) (by decide),Bi.up (m:=2) (Bi.of (by decide)) (by decide),Bi.up (m:=2) (Bi.of (by decide)) (by decide)⟩
section
variable{P:Program}{w:World}{K:Frag}{mg:Str->Option Value}{base:Heap}{C W:Addr}
def aM2(K:Frag):Sp:=λvs H Q _=>∃(p:Addr) (x y wx wy r:Int),vs=[.ref p,.int r]/\v7 K H p [.int x,.int y,.int wx,.int wy]/\(Sm x/\Sm y/\Sm wx/\Sm wy/\Sm r)/\Z4 K H Q (Mb.ad5 x y wx wy r)
theorem aa7:n8 ["line","r","a","b","c","d"] ["line","r"] (g9 T6):=⟨rfl,rfl,rfl,by decide+kernel,rfl,by decide+kernel,by decide+kernel⟩
theorem as3{x y wx wy r a b c d:Int}(ha:a=wx*wx+wy*wy)(hb:b= -(x*wx+y*wy))(hc:c=x*x+y*y-r*r)(hd:d=b*b-a*c):
 Mb.ad5 x y wx wy r=if a=0\/b<0\/c<0\/d<0\/Mb.E2 ⟨a,b,d⟩ Mb.END=true then none else some ⟨a,b,d⟩:=by
 subst ha hb hc hd
 rfl
theorem at6{f:Addr}{fd:FuncData}(F:M3 K "time_to_ball" "time_to_ball" T6 f fd)(cE:a0h K mg)(D_is_later:Df P w K mg base "is_later" 4 ["one","other"] (Z3 K)):A7 P w K mg base M2 5 f fd ["line","r"] (aM2 K):=by
 refine F.ok aa7 (λvs H Q E h=> ?_) (λcdv A outer s H vs Q E hr h=> ?_)
 ·obtain⟨p,x,y,wx,wy,r,rfl,_⟩:=h
  rfl
 ·obtain⟨p,x,y,wx,wy,r,rfl,hp,⟨b1,b2,b3,b4,b5⟩,k1,k2⟩:=h
  obtain⟨e,hE,tE⟩:=cE
  have nd:=aa7.nd
  have i1:Bi 62 (wx*wx):=b3.bi.mul b3.bi (by decide)
  have i2:Bi 62 (wy*wy):=b4.bi.mul b4.bi (by decide)
  have i3:Bi 62 (x*wx):=b1.bi.mul b3.bi (by decide)
  have i4:Bi 62 (y*wy):=b2.bi.mul b4.bi (by decide)
  have i5:Bi 62 (x*x):=b1.bi.mul b1.bi (by decide)
  have i6:Bi 62 (y*y):=b2.bi.mul b2.bi (by decide)
  have i7:Bi 62 (r*r):=b5.bi.mul b5.bi (by decide)
  have ia:Bi 63 (wx*wx+wy*wy):=i1.add i2 (by decide)
  have ib:Bi 63 (-(x*wx+y*wy)):=(i3.add i4 (by decide)).neg
  have ic:Bi 64 (x*x+y*y-r*r):=Bi.sub (m:=63) (i5.add i6 (by decide)) i7 (by decide)
  have id':Bi 128 (-(x*wx+y*wy)* -(x*wx+y*wy)-(wx*wx+wy*wy)*(x*x+y*y-r*r)):=Bi.sub (m:=126) (n:=127) (ib.mul ib (by decide)) (ia.mul ic (by decide)) (by decide)
  have c1:K8 wx wx:=⟨b3.bi.up (by decide),b3.bi.up (by decide)⟩
  have c2:K8 wy wy:=⟨b4.bi.up (by decide),b4.bi.up (by decide)⟩
  have c3:K8 x wx:=⟨b1.bi.up (by decide),b3.bi.up (by decide)⟩
  have c4:K8 y wy:=⟨b2.bi.up (by decide),b4.bi.up (by decide)⟩
  have c5:K8 x x:=⟨b1.bi.up (by decide),b1.bi.up (by decide)⟩
  have c6:K8 y y:=⟨b2.bi.up (by decide),b2.bi.up (by decide)⟩
  have c7:K8 r r:=⟨b5.bi.up (by decide),b5.bi.up (by decide)⟩
  have c8:K8 (-(x*wx+y*wy)) (-(x*wx+y*wy)):=⟨ib.up (by decide),ib.up (by decide)⟩
  have c9:K8 (wx*wx+wy*wy) (x*x+y*y-r*r):=⟨ia.up (by decide),ic.up (by decide)⟩
  refine⟨_,(e9 (j9 (i:=2) nd rfl (Or.inl rfl) (m9 B0 (m9 D5 (i9 j5 (pv 0) f6 (λ_ _=>rfl)) (i9 j5 (pv 0) f6 (λ_ _=>rfl))) (m9 D5 (i9 j5 (pv 0) f6 (λ_ _=>rfl)) (i9 j5 (pv 0) f6 (λ_ _=>rfl)))))
   (e9 (j9 (i:=3) nd rfl (Or.inl rfl) (T9 N5 (m9 B0 (m9 D5 (i9 j5 (pv 0) f6 (λ_ _=>rfl)) (i9 j5 (pv 0) f6 (λ_ _=>rfl))) (m9 D5 (i9 j5 (pv 0) f6 (λ_ _=>rfl)) (i9 j5 (pv 0) f6 (λ_ _=>rfl))))))
   (e9 (j9 (i:=4) nd rfl (Or.inl rfl) (m9 F0 (m9 B0 (m9 D5 (i9 j5 (pv 0) f6 (λ_ _=>rfl)) (i9 j5 (pv 0) f6 (λ_ _=>rfl))) (m9 D5 (i9 j5 (pv 0) f6 (λ_ _=>rfl)) (i9 j5 (pv 0) f6 (λ_ _=>rfl)))) (m9 D5 (pv 1) (pv 1))))
   (e9 (j9 (i:=5) nd rfl (Or.inl rfl) (m9 F0 (m9 D5 (pv 3) (pv 3)) (m9 D5 (pv 2) (pv 4))))
   (e9 (B8 (aa9 (o8 K5 (pv 2) f6 (t9 _)) (aa9 (o8 S4 (pv 3) f6 (t9 _)) (aa9 (o8 S4 (pv 4) f6 (t9 _)) (aa9 (o8 S4 (pv 5) f6 (t9 _)) (ah0 (N3 (A0 D_is_later hr (by rfl) (e8 (p8 (e8 (pv 2) (e8 (pv 3) (e8 (pv 5) f7)))) (e8 (Y0 (v:= .ref e) (by rfl) hE rfl) f7))))))))).pt
    (f8 (l8 au7))
    v8)
   (f8 (l8 (p8 (e8 (pv 2) (e8 (pv 3) (e8 (pv 5) f7))))))))))),?_⟩
  have ei:=as3 (x:=x) (y:=y) (wx:=wx) (wy:=wy) (r:=r) rfl rfl rfl rfl
  walk_at "rd"
  ·refine k1 ?_ H (f9.refl H)
   rw[ei,if_pos]
   simp only[decide_eq_true_eq,V.int.injEq]at*
   exact .inl (by assumption)
  ·refine k1 ?_ H (f9.refl H)
   rw[ei,if_pos]
   simp only[decide_eq_true_eq,V.int.injEq]at*
   exact .inr (.inl (by assumption))
  ·refine k1 ?_ H (f9.refl H)
   rw[ei,if_pos]
   simp only[decide_eq_true_eq,V.int.injEq]at*
   exact .inr (.inr (.inl (by assumption)))
  ·refine k1 ?_ H (f9.refl H)
   rw[ei,if_pos]
   simp only[decide_eq_true_eq,V.int.injEq]at*
   exact .inr (.inr (.inr (.inl (by assumption))))
  ·rename_i h1 h2 h3 h4
   simp only[decide_eq_true_eq,V.int.injEq]at h1 h2 h3 h4
   refine⟨by show 3<=sizeLine;decide,λt G1 s1 n1 t1=> ?_⟩
   have rb:RB ⟨wx*wx+wy*wy,-(x*wx+y*wy),-(x*wx+y*wy)* -(x*wx+y*wy)-(wx*wx+wy*wy)*(x*x+y*y-r*r)⟩:=⟨ia.up (by decide),ib.up (by decide),id'.up (by decide)⟩
   refine⟨t,e,⟨wx*wx+wy*wy,-(x*wx+y*wy),-(x*wx+y*wy)* -(x*wx+y*wy)-(wx*wx+wy*wy)*(x*x+y*y-r*r)⟩,Mb.END,rfl,v7.of t1,tE _,rb,a3q,_,rfl,?_⟩
   refine z8 (λhh=> ?_) (λhh=> ?_)
   ·refine k1 ?_ G1 s1
    rw[ei,if_pos]
    exact .inr (.inr (.inr (.inr hh)))
   ·refine⟨_,rfl,_,rfl,_,rfl,by show 3<=sizeLine;decide,λt2 G2 s2 n2 t2'=> ?_⟩
    refine k2 ⟨wx*wx+wy*wy,-(x*wx+y*wy),-(x*wx+y*wy)* -(x*wx+y*wy)-(wx*wx+wy*wy)*(x*x+y*y-r*r)⟩ ?_ G2 t2 (s1.trans s2) (v7.of t2')
    rw[ei,if_neg]
    rintro(z|z|z|z|z)
    ·exact h1 z
    ·exact h2 z
    ·exact h3 z
    ·exact h4 z
    ·exact hh z
def a0i(K:Frag):Sp:=λvs H Q _=>∃(p:Addr) (t:a8r),vs=[.ref p]/\v7 K H p (R3 t)/\RB t/\Mb.X6 t/\∀G,f9 H G->Q (.int (Vbwsam.thousandths t:Int)) G
theorem V3:n8 ["time","least","most","middle"] ["time"] (g9 P7):=⟨rfl,rfl,rfl,by decide+kernel,rfl,by decide+kernel,by decide+kernel⟩
theorem al6{f:Addr}{fd:FuncData}(F:M3 K "thousandths_of" "thousandths_of" P7 f fd)(D_is_later:Df P w K mg base "is_later" 4 ["one","other"] (Z3 K)):A7 P w K mg base M2 5 f fd ["time"] (a0i K):=by
 refine F.ok V3 (λvs H Q E h=> ?_) (λcdv A outer s H vs Q E hr h=> ?_)
 ·obtain⟨p,t,rfl,_⟩:=h
  rfl
 ·obtain⟨p,t,rfl,hp,rb,gt,k⟩:=h
  have nd:=V3.nd
  refine⟨_,(e9 (j9 (i:=1) nd rfl (Or.inl rfl) f6)
   (e9 (j9 (i:=2) nd rfl (Or.inl rfl) f6)
   (e9 (au9 PassesOwn.never (o8 S4 (pv 1) (pv 2) (t9 _))
    (e9 (j9 (i:=3) nd rfl (Or.inl rfl) (m9 a3Q (m9 B0 (m9 B0 (pv 1) (pv 2)) f6) f6))
    (f8 (B8 (N3 (A0 D_is_later hr (by rfl) (e8 (p8 (e8 f6 (e8 (pv 3) (e8 f6 f7)))) (e8 (pv 0) f7))))
     (f8 (j9 (i:=2) nd rfl (Or.inl rfl) (m9 F0 (pv 3) f6)))
     (f8 (j9 (i:=1) nd rfl (Or.inl rfl) (pv 3)))))))
   (f8 (l8 (pv 1)))))),?_⟩
  refine⟨λm U G=>∃(lo hi:Nat) (u:Option V),U=[some (.ref p),some (.int (lo:Int)),some (.int (hi:Int)),u]/\m=hi-lo/\lo<=hi/\hi<=1000/\f9 H G/\(lo=0\/Mb.M5 t (lo:Int)=true)/\∀n:Nat,hi<n->n<=1000->Mb.M5 t (n:Int)=false,
   ⟨1000,0,1000,none,rfl,rfl,by decide,by decide,f9.refl H,.inl rfl,λn h1 h2=>absurd h1 (by omega)⟩,?_⟩
  rintro m U G ⟨lo,hi,u,rfl,rfl,hl,hh,sG,i1,i2⟩
  refine⟨_,rfl,_,rfl,_,_,rfl,rfl,_,rfl,?_⟩
  refine z8 (λc=> ?_) (λc=> ?_)
  ·have c':lo<hi:=by have:=of_decide_eq_true c;omega
   obtain⟨md,emd⟩:∃md:Nat,md=(lo+hi+1)/2:=⟨_,rfl⟩
   have em:((lo:Int)+(hi:Int)+1)/2=(md:Int):=by omega
   refine⟨_,λσ' G' h=>h,?_⟩
   refine⟨_,rfl,_,rfl,_,_,rfl,rfl,_,_,rfl,rfl,_,_,rfl,rfl,⟨by decide,by decide⟩,?_⟩
   refine⟨_,rfl,by show 3<=sizeLine;decide,λq G1 s1 n1 t1=> ?_⟩
   have rq:RB ⟨1000,((lo:Int)+(hi:Int)+1)/2,0⟩:=⟨Bi.up (m:=20) (Bi.of (by show(1000:Int).natAbs<1048576;decide)) (by decide),Bi.up (m:=20) (Bi.of (by show(((lo:Int)+(hi:Int)+1)/2).natAbs<1048576;omega)) (by decide),Bi.up (m:=20) (Bi.of (by show(0:Int).natAbs<1048576;decide)) (by decide)⟩
   refine⟨_,rfl,q,p,⟨1000,((lo:Int)+(hi:Int)+1)/2,0⟩,t,rfl,v7.of t1,f9.tup (sG.trans s1) hp,rq,rb,_,rfl,?_⟩
   have el:Mb.E2 ⟨1000,((lo:Int)+(hi:Int)+1)/2,0⟩ t= !Mb.M5 t (md:Int):=by
    rw[Mb.al2 (Mb.ao7 _) gt]
    unfold Mb.M5
    rw[Bool.not_not,em]
   rw[el]
   refine z8 (λd=> ?_) (λd=> ?_)
   ·have d':Mb.M5 t (md:Int)=false:=by simpa using d
    refine⟨_,rfl,_,_,rfl,rfl,?_⟩
    refine⟨md-1-lo,by omega,lo,md-1,some (.int (((lo:Int)+(hi:Int)+1)/2)),?_,rfl,by omega,by omega,sG.trans s1,i1,λn h1 h2=> ?_⟩
    ·have e3:V.int (((lo:Int)+(hi:Int)+1)/2-1)=V.int ((md-1:Nat):Int):=congrArg V.int (by omega)
     exact congrArg (λz=>[some (V.ref p),some (V.int (lo:Int)),some z,some (V.int (((lo:Int)+(hi:Int)+1)/2))]) e3
    ·cases e:Mb.M5 t (n:Int)with
     |false=>rfl
     |true=>rw[Mb.aL9 gt (n:=(md:Int)) (m:=(n:Int)) (by omega) e]at d';cases d'
   ·have d':Mb.M5 t (md:Int)=true:=by simpa using d
    refine⟨_,rfl,?_⟩
    refine⟨hi-md,by omega,md,hi,some (.int (((lo:Int)+(hi:Int)+1)/2)),?_,rfl,by omega,hh,sG.trans s1,.inr d',i2⟩
    exact congrArg (λz=>[some (V.ref p),some (V.int z),some (V.int (hi:Int)),some (V.int (((lo:Int)+(hi:Int)+1)/2))]) em
  ·have c':lo=hi:=by
    have:¬((lo:Int)<(hi:Int)):=λz=>c (decide_eq_true z)
    omega
   subst c'
   refine⟨_,rfl,?_⟩
   have:=k G sG
   rw[Mb.a4o hh i1 i2]at this
   exact this
end
abbrev Q4:Stmt:=O7 18
abbrev T7:Stmt:=O7 20
def Tm3(K:Frag)(t:a8r)(v:V)(H:Hp):Prop:=∃q,v= .ref q/\v7 K H q (R3 t)
theorem Tm3.same{K:Frag}{t:a8r}{v:V}{H G:Hp}(h:Tm3 K t v H)(s:f9 H G):Tm3 K t v G:=by
 obtain⟨q,e,h⟩:=h
 exact⟨q,e,f9.tup s h⟩
theorem Tm3.kp{K:Frag}{t:a8r}{v:V}{H G:Hp}{l:Addr}{ys:List V}(h:Tm3 K t v H)(hl:H l=some (.lst ys))(k:Kp l H G):Tm3 K t v G:=by
 obtain⟨q,e,h⟩:=h
 exact⟨q,e,k.tup hl h⟩
def a1c(K:Frag)(H:Hp)(l:Addr)(ts:List a8r):Prop:=∃ys,H l=some (.lst ys)/\Paired (λt y=>Tm3 K t y H) ts ys
def ax2(x y:Int)(i:Nat):Int:=if i=0 then x else y
def ad6(x y wx wy hx hy:Int)(n:Nat):List a8r:=(a7J n).flatMap λi=>Mb.axB (ax2 x y i) (ax2 hx hy i) (ax2 wx wy i)
def R4(x y wx wy hx hy:Int)(n:Nat):List a8r:=(a7J n).flatMap λi=>Mb.axE (ax2 x y i) (ax2 hx hy i) (ax2 wx wy i)
theorem S2(x y wx wy hx hy:Int)(n:Nat):ad6 x y wx wy hx hy (n+1)=ad6 x y wx wy hx hy n++Mb.axB (ax2 x y n) (ax2 hx hy n) (ax2 wx wy n):=by
 unfold ad6;rw[a8W,a8q];simp
theorem P8(x y wx wy hx hy:Int)(n:Nat):R4 x y wx wy hx hy (n+1)=R4 x y wx wy hx hy n++Mb.axE (ax2 x y n) (ax2 hx hy n) (ax2 wx wy n):=by
 unfold R4;rw[a8W,a8q];simp
theorem a4s(p h v:Int):(Mb.axB p h v).length<=1:=by unfold Mb.axB;split<;>simp
theorem a4t(p h v:Int):(Mb.axE p h v).length<=1:=by unfold Mb.axE;split<;>simp
theorem aA9(x y wx wy hx hy:Int):∀n,(ad6 x y wx wy hx hy n).length<=n
 |0=>a7A _
 |n+1=>by
  rw[S2,a7M]
  have:=aA9 x y wx wy hx hy n
  have:=a4s (ax2 x y n) (ax2 hx hy n) (ax2 wx wy n)
  lia
theorem af6(x y wx wy hx hy:Int):∀n,(R4 x y wx wy hx hy n).length<=n
 |0=>a7A _
 |n+1=>by
  rw[P8,a7M]
  have:=af6 x y wx wy hx hy n
  have:=a4t (ax2 x y n) (ax2 hx hy n) (ax2 wx wy n)
  lia
def aT7(x y wx wy hx hy:Int)(i:Nat):Prop:=ax2 wx wy i=0/\a9h (ax2 x y i)>ax2 hx hy i
theorem a4u{x y wx wy hx hy:Int}{i:Nat}(h:aT7 x y wx wy hx hy i)(hi:i<2):Mb.Q3 x y wx wy hx hy=none:=by
 unfold Mb.Q3
 by_cases c:wx=0/\a9h x>hx
 ·rw[if_pos c]
 ·rw[if_neg c]
  have:i=1:=by
   apply a8w
   intro z
   have:i=0:=by lia
   subst this
   exact c h
  subst this
  have h':wy=0/\a9h y>hy:=h
  rw[if_pos h']
theorem a5S{x y wx wy hx hy:Int}(h0:¬aT7 x y wx wy hx hy 0)(h1:¬aT7 x y wx wy hx hy 1):Mb.Q3 x y wx wy hx hy=Mb.aL6 (ad6 x y wx wy hx hy 2) (R4 x y wx wy hx hy 2):=by
 have h0':¬(wx=0/\a9h x>hx):=h0
 have h1':¬(wy=0/\a9h y>hy):=h1
 unfold Mb.Q3
 rw[if_neg h0',if_neg h1']
 have e1:ad6 x y wx wy hx hy 2=Mb.axB x hx wx++Mb.axB y hy wy:=by
  rw[S2,S2];rfl
 have e2:R4 x y wx wy hx hy 2=Mb.axE x hx wx++Mb.axE y hy wy:=by
  rw[P8,P8];rfl
 rw[e1,e2]
theorem a3r{n:Int}(h:Sm n):Bi 31 (a9h n):=Bi.of (by obtain⟨h1,h2⟩:=h;unfold a9h;split<;>lia)
theorem a4X{p v:Int}(h:Sm p):Bi 31 (Mb.F6 p v):=by unfold Mb.F6;split;exact h.bi;exact h.bi.neg
theorem a0j{p h v:Int}(sp:Sm p)(sh:Sm h)(sv:Sm v):RB (Mb.Q9 p h v):=⟨(a3r sv).up (by decide),Bi.sub sh.bi.neg (a4X sp) (by decide),Bi.up (m:=2) (Bi.of (by show(0:Int).natAbs<4;decide)) (by decide)⟩
theorem a5T{p h v:Int}(sp:Sm p)(sh:Sm h)(sv:Sm v):RB (Mb.aa6 p h v):=⟨(a3r sv).up (by decide),Bi.sub sh.bi (a4X sp) (by decide),Bi.up (m:=2) (Bi.of (by show(0:Int).natAbs<4;decide)) (by decide)⟩
theorem ap2{x y:Int}(hx:Sm x)(hy:Sm y)(i:Nat):Sm (ax2 x y i):=by unfold ax2;split;exact hx;exact hy
theorem a1d{x y wx wy hx hy:Int}(b1:Sm x)(b2:Sm y)(b3:Sm wx)(b4:Sm wy)(b5:Sm hx)(b6:Sm hy){n:Nat}{t:a8r}(h:t∈ad6 x y wx wy hx hy n):RB t:=by
 unfold ad6 at h
 obtain⟨i,_,hi⟩:=a8B.mp h
 unfold Mb.axB at hi
 split at hi
 ·cases hi
 ·rw[a7N.mp hi]
  exact a0j (ap2 b1 b2 i) (ap2 b5 b6 i) (ap2 b3 b4 i)
theorem a3s{x y wx wy hx hy:Int}(b1:Sm x)(b2:Sm y)(b3:Sm wx)(b4:Sm wy)(b5:Sm hx)(b6:Sm hy){n:Nat}{t:a8r}(h:t∈R4 x y wx wy hx hy n):RB t:=by
 unfold R4 at h
 obtain⟨i,_,hi⟩:=a8B.mp h
 unfold Mb.axE at hi
 split at hi
 ·cases hi
 ·rw[a7N.mp hi]
  exact a5T (ap2 b1 b2 i) (ap2 b5 b6 i) (ap2 b3 b4 i)
theorem at2{x y:Int}{i:Nat}(h:i<2):atI [V.int x,V.int y] (i:Int)=some (.int (ax2 x y i)):=by
 match i,h with
 |0,_=>rfl
 |1,_=>rfl
theorem a5U{x y z u:Int}{i:Nat}(h:i<2):atI [V.int x,V.int y,V.int z,V.int u] (i:Int)=some (.int (ax2 x y i)):=by
 match i,h with
 |0,_=>rfl
 |1,_=>rfl
theorem a7m{x y z u:Int}{i:Nat}(h:i<2):atI [V.int x,V.int y,V.int z,V.int u] ((i:Int)+2)=some (.int (ax2 z u i)):=by
 match i,h with
 |0,_=>rfl
 |1,_=>rfl
theorem Paired.head{α β:Type}{F:α->β->Prop}{l:List α}{m:List β}{a:α}(h:Paired F l m)(e:l.head? =some a):∃b,atI m 0=some b/\F a b:=by
 cases h with
 |nil=>cases e
 |cons r t=>
  cases e
  exact⟨_,z7 (j:=0) rfl,r⟩
theorem a4v{α:Type}:∀{m:List α} {b:α},m.getLast? =some b->atI m (-1)=some b:=by
 intro m b h
 have hne:m≠[]:=by rintro rfl;cases h
 have hl:0<m.length:=List.length_pos_iff.mpr hne
 unfold atI ixN
 rw[if_neg (by decide),if_pos (by lia)]
 show m[(-1+(m.length:Int)).toNat]? =some b
 rw[show(-1+(m.length:Int)).toNat=m.length-1 by lia,←a9Q]
 exact h
theorem Paired.last{α β:Type}{F:α->β->Prop}:∀{l:List α} {m:List β} {a:α},Paired F l m->l.getLast? =some a->∃b,m.getLast? =some b/\F a b:=by
 intro l m a h e
 have hl:=Paired.length h
 rw[a9Q]at e
 obtain⟨b,hb,r⟩:=Paired.at_ h e
 refine⟨b,?_,r⟩
 rw[a9Q,←hl]
 exact hb
theorem a4Y{c A B:Prop}[Decidable c](hc:¬c)(h:A):if(!decide c)=true then A else B:=by
 rw[decide_eq_false hc]
 exact h
theorem aT8{s t:a8r}(hs:RB s)(ht:RB t):RB (Mb.C1 s t):=by unfold Mb.C1;split;exact ht;exact hs
theorem aT9{p h v pl:Int}(e:pl=Mb.F6 p v):[V.int (if v<0 then-v else v),V.int (-h-pl),V.int 0]=R3 (Mb.Q9 p h v):=by subst e;rfl
theorem aU0{p h v pl:Int}(e:pl=Mb.F6 p v):[V.int (if v<0 then-v else v),V.int (h-pl),V.int 0]=R3 (Mb.aa6 p h v):=by subst e;rfl
section
variable{P:Program}{w:World}{K:Frag}{mg:Str->Option Value}{base:Heap}{C W:Addr}
def a0k(K:Frag):Sp:=λvs H Q _=>∃(p h:Addr) (x y wx wy hx hy:Int),vs=[.ref p,.ref h]/\v7 K H p [.int x,.int y,.int wx,.int wy]/\v7 K H h [.int hx,.int hy]/\(Sm x/\Sm y/\Sm wx/\Sm wy/\Sm hx/\Sm hy)/\Z4 K H Q (Mb.Q3 x y wx wy hx hy)
theorem ad7:n8 ["line","half","begins","ends","axis","way","place","time","end"] ["line","half"] (g9 Q4):=⟨rfl,rfl,rfl,by decide+kernel,rfl,by decide+kernel,by decide+kernel⟩
theorem aB0{f:Addr}{fd:FuncData}(F:M3 K "time_to_box" "time_to_box" Q4 f fd)(T:Txt K mg)(cE:a0h K mg)(D_is_later:Df P w K mg base "is_later" 5 ["one","other"] (Z3 K))(D_later_of:Df P w K mg base "later_of" 5 ["one","other"] (ap1 K)):A7 P w K mg base M2 6 f fd ["line","half"] (a0k K):=by
 refine F.ok ad7 (λvs H Q E h=> ?_) (λcdv A outer s H vs Q E hr h=> ?_)
 ·obtain⟨p,h,x,y,wx,wy,hx,hy,rfl,_⟩:=h
  rfl
 ·obtain⟨p,h,x,y,wx,wy,hx,hy,rfl,hp,hh,⟨b1,b2,b3,b4,b5,b6⟩,k1,k2⟩:=h
  obtain⟨e,hE,tE⟩:=cE
  have nd:=ad7.nd
  refine⟨_,(e9 (j9 (i:=2) nd rfl (Or.inl rfl) (y6 f7))
   (e9 (j9 (i:=3) nd rfl (Or.inl rfl) (y6 f7))
   (e9 (E9 PassesOwn.never rfl (aI4 (p8 (e8 f6 (e8 f6 f7)))) (z9 (i:=4) nd rfl (Or.inl rfl))
    (e9 (j9 (i:=5) nd rfl (Or.inl rfl) (i9 j5 (pv 0) (m9 B0 (pv 4) f6) (λ_ _=>rfl)))
    (e9 (B8 (S3 (o8 K5 (pv 5) f6 (t9 _)) (P9 (o8 aD9 (v6 W9 (by rfl) T.b_abs boot_abs (e8 (i9 j5 (pv 0) (pv 4) (λ_ _=>rfl)) f7)) (i9 j5 (pv 1) (pv 4) (λ_ _=>rfl)) (t9 _)))).pt
     (f8 (l8 au7))
     v8)
    (f8 (B8 (o8 aO2 (pv 5) f6 (t9 _))
     (e9 (j9 (i:=6) nd rfl (Or.inl rfl) (au8 (o8 aD9 (pv 5) f6 (t9 _)) (i9 j5 (pv 0) (pv 4) (λ_ _=>rfl)) (T9 N5 (i9 j5 (pv 0) (pv 4) (λ_ _=>rfl)))))
     (e9 (C2 (M1 a7Q a8c a8d D2 (pv 2) (e8 (p8 (e8 (v6 W9 (by rfl) T.b_abs boot_abs (e8 (pv 5) f7)) (e8 (m9 F0 (T9 N5 (i9 j5 (pv 1) (pv 4) (λ_ _=>rfl))) (pv 6)) (e8 f6 f7)))) f7)))
     (f8 (C2 (M1 a7Q a8c a8d D2 (pv 3) (e8 (p8 (e8 (v6 W9 (by rfl) T.b_abs boot_abs (e8 (pv 5) f7)) (e8 (m9 F0 (i9 j5 (pv 1) (pv 4) (λ_ _=>rfl)) (pv 6)) (e8 f6 f7)))) f7))))))
     v8)))))
   (e9 (B8 (aI3 (Q5 (pv 2) (λ_=>rfl)))
    (f8 (l8 au7))
    v8)
   (e9 (j9 (i:=7) nd rfl (Or.inr rfl) (A0 D_later_of hr (by rfl) (e8 (i9 l6 (pv 2) f6 (λ_ _=>rfl)) (e8 (i9 l6 (pv 2) (T9 N5 f6) (λ_ _=>rfl)) f7))))
   (e9 (B8 (aa9 (o8 S4 (i9 j5 (pv 7) f6 (λ_ _=>rfl)) f6 (t9 _)) (aa9 (N3 (A0 D_is_later hr (by rfl) (e8 (pv 7) (e8 (Y0 (v:= .ref e) (by rfl) hE rfl) f7)))) (ah0 (N3 (v6 (aW4 rfl) (by rfl) T.b_any boot_any (e8 (R0 (own:=[("end",8)]) rfl nd (A3 (pv 3)) (by show E5 ["line","half","begins","ends","axis","way","place","time","end"] (g9 Q4) _ _;exact⟨rfl,by decide+kernel,by decide+kernel,by decide+kernel,by decide+kernel⟩)
    (λ_ _ _ _ _=>by exact z9 (i:=8) nd (by rfl) (by exact Or.inl rfl) (by exact Or.inr rfl))
    (λ_ _ _ _ _=>by exact D8)
    (λ_ _ _ _ _=>by exact(A0 D_is_later hr (by rfl) (e8 (pv 7) (e8 (pv 8) f7))))) f7)))))).pt
    (f8 (l8 au7))
    v8)
   (f8 (l8 (pv 7))))))))),?_⟩
  refine⟨by show 0<=sizeLine;decide,λbl G1 s1 n1 t1=> ?_⟩
  refine⟨by show 0<=sizeLine;decide,λel G2 s2 n2 t2=> ?_⟩
  refine⟨by show 2<=sizeLine;decide,λax G3 s3 n3 t3=> ?_⟩
  have hbe:bl≠el:=j0 t1 n2
  have sH:f9 H G3:=s1.trans (s2.trans s3)
  have nbl:H bl=Option.none:=n1
  have nel:H el=Option.none:=s1.free n2
  refine⟨ax,rfl,⟨_,v7.of t3⟩,aI5 (K:=K) (a:=ax) (xs:=[.int 0,.int 1]) (λi U G=>(∃u4 u5 u6:Option V,U=[some (.ref p),some (.ref h),some (.ref bl),some (.ref el),u4,u5,u6,none,none])/\(∀b o,b≠bl->b≠el->G3 b=some o->G b=some o)/\a1c K G bl (ad6 x y wx wy hx hy i)/\a1c K G el (R4 x y wx wy hx hy i)/\∀j,j<i->¬aT7 x y wx wy hx hy j)
   ⟨⟨none,none,none,rfl⟩,λb o _ _ q=>q,⟨[],s3 _ _ (s2 _ _ t1),.nil⟩,⟨[],s3 _ _ t2,.nil⟩,λj hj=>absurd hj (a8Q _)⟩ ?_ ?_ ?_⟩
  ·rintro i U G hi ⟨_,kG,_⟩
   exact v7.of (kG _ _ (B7 t3 (s3 _ _ (s2 _ _ t1)) (by intro z;cases z)) (B7 t3 (s3 _ _ t2) (by intro z;cases z)) t3)
  ·rintro i v U G hv ⟨⟨u4,u5,u6,rfl⟩,kG,⟨bys,hb1,hb2⟩,⟨eys,he1,he2⟩,hout⟩
   obtain⟨hi,rfl⟩:i<2/\v=V.int (i:Int):=by
    match i,hv with
    |0,hv=>cases hv;exact⟨by decide,rfl⟩
    |1,hv=>cases hv;exact⟨by decide,rfl⟩
    |i+2,hv=>simp at hv
   have hbl3:=s3 _ _ (s2 _ _ t1)
   have hel3:=s3 _ _ t2
   have tupG:∀{q:Addr} {xs:List V},v7 K H q xs->v7 K G q xs:=λ{q xs} hq=>by
    rcases f9.tup sH hq with(z|⟨o',z⟩)|z
    ·exact .inl (.inl (kG _ _ (B7 z hbl3 (by intro y;cases y)) (B7 z hel3 (by intro y;cases y)) z))
    ·exact .inl (.inr ⟨o',kG _ _ (B7 z hbl3 (by intro y;cases y)) (B7 z hel3 (by intro y;cases y)) z⟩)
    ·exact .inr z
   have hp':=tupG hp
   have hh':=tupG hh
   have sHG:f9 H G:=λb o q=>kG _ _ (j0 q nbl) (j0 q nel) (sH _ _ q)
   refine⟨_,rfl,_,rfl,_,_,rfl,rfl,p,_,_,_,rfl,rfl,hp',a7m hi,?_⟩
   refine⟨_,rfl,rfl,_,rfl,?_⟩
   refine z8 (λw0=> ?_) (λw0=> ?_)
   ·have w0':ax2 wx wy i=0:=by have:=of_decide_eq_true w0;rw[V.int.injEq]at this;exact this
    refine⟨_,rfl,_,rfl,p,_,_,_,rfl,rfl,hp',a5U hi,_,rfl,_,rfl,_,rfl,h,_,_,_,rfl,rfl,hh',at2 hi,_,_,rfl,rfl,_,rfl,?_⟩
    refine z8 (λc=> ?_) (λc=> ?_)
    ·exact k1 (a4u ⟨w0',of_decide_eq_true c⟩ hi) G sHG
    ·have nout:¬aT7 x y wx wy hx hy i:=λz=>c (decide_eq_true z.2)
     refine⟨_,rfl,rfl,_,rfl,?_⟩
     refine a4Q (of_decide_eq_true w0) ?_
     refine⟨⟨_,_,_,rfl⟩,kG,⟨bys,hb1,?_⟩,⟨eys,he1,?_⟩,λj hj=> ?_⟩
     ·rw[S2];unfold Mb.axB;rw[if_pos w0',a72];exact hb2
     ·rw[P8];unfold Mb.axE;rw[if_pos w0',a72];exact he2
     ·rcases a9T.mp hj with z|z
      ·exact hout j z
      ·rw[z];exact nout
   ·have w0':¬ax2 wx wy i=0:=λz=>w0 (decide_eq_true (congrArg V.int z))
    refine D9 ?_
    refine⟨_,rfl,rfl,_,rfl,?_⟩
    refine a4Y (λz=>w0 (decide_eq_true z)) ?_
    refine⟨_,rfl,_,_,rfl,rfl,_,rfl,?_⟩
    refine z8 (λc=> ?_) (λc=> ?_)
    ·have epl:ax2 x y i=Mb.F6 (ax2 x y i) (ax2 wx wy i):=by unfold Mb.F6;rw[if_pos (of_decide_eq_true c)]
     refine⟨_,rfl,_,rfl,p,_,_,_,rfl,rfl,hp',a5U hi,?_⟩
     have lb:bys.length<sizeLine:=by
      rw[←Paired.length hb2]
      exact a8l (aA9 x y wx wy hx hy i) (a84 hi (by decide))
     have le:eys.length<sizeLine:=by
      rw[←Paired.length he2]
      exact a8l (af6 x y wx wy hx hy i) (a84 hi (by decide))
     refine⟨_,rfl,.inl ⟨rfl,_,n9.of hb1⟩,_,rfl,_,rfl,_,rfl,_,rfl,h,_,_,_,rfl,rfl,hh',at2 hi,_,rfl,_,rfl,_,_,rfl,rfl,by show 3<=sizeLine;decide,λq1 G4 s4 n4 t4=> ?_⟩
     refine⟨bl,bys,.ref q1,rfl,rfl,s4 _ _ hb1,lb,λG5 k5 t5=> ?_⟩
     have hh5:=k5.tup (s4 _ _ hb1) (f9.tup s4 hh')
     have he5:G5 el=some (.lst eys):=k5 _ _ (Ne.symm hbe) (s4 _ _ he1)
     refine⟨_,rfl,.inl ⟨rfl,_,n9.of he5⟩,_,rfl,_,rfl,_,rfl,_,rfl,h,_,_,_,rfl,rfl,hh5,at2 hi,_,rfl,_,_,rfl,rfl,by show 3<=sizeLine;decide,λq2 G6 s6 n6 t6=> ?_⟩
     refine⟨el,eys,.ref q2,rfl,rfl,s6 _ _ he5,le,λG7 k7 t7=> ?_⟩
     have up:∀{q:Addr} {xs:List V},v7 K G5 q xs->v7 K G7 q xs:=λhq=>k7.tup (s6 _ _ he5) (f9.tup s6 hq)
     have upT:∀{r:a8r} {v:V},Tm3 K r v G->Tm3 K r v G7:=λhq=>(((hq.same s4).kp (s4 _ _ hb1) k5).same s6).kp (s6 _ _ he5) k7
     refine⟨⟨_,_,_,rfl⟩,λb o m1 m2 q=>k7 _ _ m2 (s6 _ _ (k5 _ _ m1 (s4 _ _ (kG _ _ m1 m2 q)))),⟨bys++[.ref q1],k7 _ _ hbe (s6 _ _ t5),?_⟩,⟨eys++[.ref q2],t7,?_⟩,λj hj=> ?_⟩
     ·rw[S2]
      unfold Mb.axB
      rw[if_neg w0']
      refine Paired.snoc (Paired.monoP (λ_ _ r=>upT r) hb2) ⟨q1,rfl,?_⟩
      rw[←aT9 epl]
      exact up (k5.tup (s4 _ _ hb1) (v7.of t4))
     ·rw[P8]
      unfold Mb.axE
      rw[if_neg w0']
      refine Paired.snoc (Paired.monoP (λ_ _ r=>upT r) he2) ⟨q2,rfl,?_⟩
      rw[←aU0 epl]
      exact k7.tup (s6 _ _ he5) (v7.of t6)
     ·rcases a9T.mp hj with z|z
      ·exact hout j z
      ·rw[z];exactλz=>w0' z.1
    ·have epl: -(ax2 x y i)=Mb.F6 (ax2 x y i) (ax2 wx wy i):=by unfold Mb.F6;rw[if_neg (λz=>c (decide_eq_true z))]
     refine⟨_,rfl,_,rfl,p,_,_,_,rfl,rfl,hp',a5U hi,_,rfl,?_⟩
     have lb:bys.length<sizeLine:=by
      rw[←Paired.length hb2]
      exact a8l (aA9 x y wx wy hx hy i) (a84 hi (by decide))
     have le:eys.length<sizeLine:=by
      rw[←Paired.length he2]
      exact a8l (af6 x y wx wy hx hy i) (a84 hi (by decide))
     refine⟨_,rfl,.inl ⟨rfl,_,n9.of hb1⟩,_,rfl,_,rfl,_,rfl,_,rfl,h,_,_,_,rfl,rfl,hh',at2 hi,_,rfl,_,rfl,_,_,rfl,rfl,by show 3<=sizeLine;decide,λq1 G4 s4 n4 t4=> ?_⟩
     refine⟨bl,bys,.ref q1,rfl,rfl,s4 _ _ hb1,lb,λG5 k5 t5=> ?_⟩
     have hh5:=k5.tup (s4 _ _ hb1) (f9.tup s4 hh')
     have he5:G5 el=some (.lst eys):=k5 _ _ (Ne.symm hbe) (s4 _ _ he1)
     refine⟨_,rfl,.inl ⟨rfl,_,n9.of he5⟩,_,rfl,_,rfl,_,rfl,_,rfl,h,_,_,_,rfl,rfl,hh5,at2 hi,_,rfl,_,_,rfl,rfl,by show 3<=sizeLine;decide,λq2 G6 s6 n6 t6=> ?_⟩
     refine⟨el,eys,.ref q2,rfl,rfl,s6 _ _ he5,le,λG7 k7 t7=> ?_⟩
     have up:∀{q:Addr} {xs:List V},v7 K G5 q xs->v7 K G7 q xs:=λhq=>k7.tup (s6 _ _ he5) (f9.tup s6 hq)
     have upT:∀{r:a8r} {v:V},Tm3 K r v G->Tm3 K r v G7:=λhq=>(((hq.same s4).kp (s4 _ _ hb1) k5).same s6).kp (s6 _ _ he5) k7
     refine⟨⟨_,_,_,rfl⟩,λb o m1 m2 q=>k7 _ _ m2 (s6 _ _ (k5 _ _ m1 (s4 _ _ (kG _ _ m1 m2 q)))),⟨bys++[.ref q1],k7 _ _ hbe (s6 _ _ t5),?_⟩,⟨eys++[.ref q2],t7,?_⟩,λj hj=> ?_⟩
     ·rw[S2]
      unfold Mb.axB
      rw[if_neg w0']
      refine Paired.snoc (Paired.monoP (λ_ _ r=>upT r) hb2) ⟨q1,rfl,?_⟩
      rw[←aT9 epl]
      exact up (k5.tup (s4 _ _ hb1) (v7.of t4))
     ·rw[P8]
      unfold Mb.axE
      rw[if_neg w0']
      refine Paired.snoc (Paired.monoP (λ_ _ r=>upT r) he2) ⟨q2,rfl,?_⟩
      rw[←aU0 epl]
      exact k7.tup (s6 _ _ he5) (v7.of t6)
     ·rcases a9T.mp hj with z|z
      ·exact hout j z
      ·rw[z];exactλz=>w0' z.1
  ·rintro U G ⟨⟨u4,u5,u6,rfl⟩,kG,⟨bys,hb1,hb2⟩,⟨eys,he1,he2⟩,hout⟩
   have eB:=a5S (hout 0 (by decide)) (hout 1 (by decide))
   have hb2:Paired (λt y=>Tm3 K t y G) (ad6 x y wx wy hx hy 2) bys:=hb2
   have he2:Paired (λt y=>Tm3 K t y G) (R4 x y wx wy hx hy 2) eys:=he2
   have sHG:f9 H G:=λb o q=>kG _ _ (j0 q nbl) (j0 q nel) (sH _ _ q)
   refine⟨_,rfl, !bys.isEmpty,.inl ⟨bys,n9.of hb1,rfl⟩,?_⟩
   refine z8 (λc=> ?_) (λc=> ?_)
   ·have hnil:ad6 x y wx wy hx hy 2=[]:=by
     have:bys=[]:=by simpa using c
     subst this
     exact a8C (Paired.length hb2)
    refine k1 ?_ G sHG
    rw[eB,hnil]
    rfl
   ·have hne:ad6 x y wx wy hx hy 2≠[]:=by
     intro z
     rw[z]at hb2
     have:=Paired.length hb2
     have:bys=[]:=a8C this.symm
     subst this
     exact c rfl
    obtain⟨r1,hr1⟩:∃r,(ad6 x y wx wy hx hy 2).head?=some r:=by
     cases q:ad6 x y wx wy hx hy 2 with
     |nil=>exact absurd q hne
     |cons a l=>exact⟨a,rfl⟩
    obtain⟨r2,hr2⟩:∃r,(ad6 x y wx wy hx hy 2).getLast?=some r:=⟨_,List.getLast?_eq_some_getLast hne⟩
    have m1:r1∈ad6 x y wx wy hx hy 2:=List.mem_of_head? hr1
    have m2:r2∈ad6 x y wx wy hx hy 2:=List.mem_of_getLast? hr2
    have rb1:=a1d b1 b2 b3 b4 b5 b6 m1
    have rb2:=a1d b1 b2 b3 b4 b5 b6 m2
    have rbL:=aT8 rb1 rb2
    obtain⟨v1,a1,q1,rfl,h1⟩:=Paired.head hb2 hr1
    obtain⟨v2,a2',q2,rfl,h2⟩:=Paired.last hb2 hr2
    have a2:=a4v a2'
    have eF:Mb.Q3 x y wx wy hx hy=Mb.O3 (Mb.C1 r1 r2) (R4 x y wx wy hx hy 2):=by
     rw[eB]
     unfold Mb.aL6
     rw[hr1,hr2]
    refine⟨_,rfl,bl,_,_,_,rfl,rfl,n9.of hb1,a1,_,rfl,_,rfl,bl,_,_,_,rfl,rfl,n9.of hb1,a2,q1,q2,r1,r2,rfl,h1,h2,rb1,rb2,λu hu=> ?_⟩
    refine⟨_,rfl,u,_,_,_,rfl,rfl,hu,rfl,_,_,rfl,rfl,_,rfl,?_⟩
    refine z8 (λd1=> ?_) (λd1=> ?_)
    ·refine B3 ?_
     refine k1 ?_ G sHG
     rw[eF]
     unfold Mb.O3
     rw[if_pos (.inl (of_decide_eq_true d1))]
    refine⟨_,rfl,u,e,Mb.C1 r1 r2,Mb.END,rfl,hu,tE _,rbL,a3q,_,rfl,?_⟩
    refine z8 (λd2=> ?_) (λd2=> ?_)
    ·refine B3 ?_
     refine k1 ?_ G sHG
     rw[eF]
     unfold Mb.O3
     rw[if_pos (.inr (.inl d2))]
    refine⟨_,rfl,el,rfl,⟨_,n9.of he1⟩,λal nal=> ?_⟩
    refine lcL nal (n9.of he1) (ys:=(((R4 x y wx wy hx hy 2).map λt=>Mb.E2 (Mb.C1 r1 r2) t).map V.bl).map some) (by rw[a7r,a7r,a7r,Paired.length he2]) (by rw[a7r,a7r,a7r];exact a7G (af6 x y wx wy hx hy 2) (by decide)) (λi y' o H' hx' ho sH'=> ?_) (λG9 s9 hb9=> ?_)
    ·intro Rt Rv _ hR
     obtain⟨r,hr',qe,rfl,hq⟩:=Paired.at2 he2 hx'
     rw[a7t,a7t,a7t,hr']at ho
     refine⟨rfl,B3 (B:=Rt H') ?_⟩
     exact⟨_,rfl,_,rfl,u,qe,Mb.C1 r1 r2,r,rfl,f9.tup sH' hu,f9.tup sH' hq,rbL,a3s b1 b2 b3 b4 b5 b6 (a7F hr'),hR _ (a7v ho).symm H' (f9.refl _)⟩
    rw[show((((R4 x y wx wy hx hy 2).map λt=>Mb.E2 (Mb.C1 r1 r2) t).map V.bl).map some).filterMap id=((R4 x y wx wy hx hy 2).map λt=>Mb.E2 (Mb.C1 r1 r2) t).map V.bl by simp[a71]]at hb9
    refine⟨al,_,rfl,n9.of hb9,_,rfl,?_⟩
    rw[show(((R4 x y wx wy hx hy 2).map λt=>Mb.E2 (Mb.C1 r1 r2) t)).any id=(R4 x y wx wy hx hy 2).any (λt=>Mb.E2 (Mb.C1 r1 r2) t) by rw[any_map];rfl]
    refine z8 (λd3=> ?_) (λd3=> ?_)
    ·refine k1 ?_ G9 (sHG.trans s9)
     rw[eF]
     unfold Mb.O3
     rw[if_pos (.inr (.inr d3))]
    ·refine⟨_,rfl,k2 (Mb.C1 r1 r2) ?_ G9 u (sHG.trans s9) (f9.tup s9 hu)⟩
     rw[eF]
     unfold Mb.O3
     rw[if_neg]
     rintro(z|z|z)
     ·exact d1 (decide_eq_true z)
     ·exact d2 z
     ·exact d3 z
end
theorem Z4.mono{K:Frag}{H G:Hp}{Q:VK}{o:Option a8r}(h:Z4 K H Q o)(s:f9 H G):Z4 K G Q o:=
 ⟨λe G' s'=>h.1 e G' (s.trans s'),λt e G' q s' hq=>h.2 t e G' q (s.trans s') hq⟩
def Ln(x y wx wy:Int):Prop:=(-1000000<=x/\x<=1000000)/\(-1000000<=y/\y<=1000000)/\(-1000000<=wx/\wx<=1000000)/\(-1000000<=wy/\wy<=1000000)
theorem a4Z{s:a8U}:decide (V.int (aq5 s)=V.int 1)=true↔∃r,s= .ball r:=by
 rw[decide_eq_true_iff,V.int.injEq]
 cases s with
 |box a b=>exact⟨λh=>absurd h (by show¬((0:Int)=1);decide),λ⟨r,h⟩=>nomatch h⟩
 |ball r=>exact⟨λ_=>⟨r,rfl⟩,λ_=>rfl⟩
section
variable{P:Program}{w:World}{K:Frag}{mg:Str->Option Value}{base:Heap}{C W:Addr}
def aM3(K:Frag)(C:Addr):Sp:=λvs H Q _=>∃(p a:Addr) (x y wx wy:Int) (b:a7s),vs=[.ref p,.ref a]/\v7 K H p [.int x,.int y,.int wx,.int wy]/\A9 K C H a b/\Gd b/\Ln x y wx wy/\Z4 K H Q (a8N b ⟨x,y⟩ ⟨wx,wy⟩)
theorem aa8:n8 ["line","body","seen"] ["line","body"] (g9 T7):=⟨rfl,rfl,rfl,by decide+kernel,rfl,by decide+kernel,by decide+kernel⟩
theorem at7{f:Addr}{fd:FuncData}(F:M3 K "time_to_body" "time_to_body" T7 f fd)(cB:ab9 K C)(D_seen_from:Df P w K mg base "seen_from" 6 ["line","x","y"] (aJ8 K))(D_time_to_ball:Df P w K mg base "time_to_ball" 6 ["line","r"] (aM2 K))(D_time_to_box:Df P w K mg base "time_to_box" 6 ["line","half"] (a0k K)):A7 P w K mg base M2 7 f fd ["line","body"] (aM3 K C):=by
 refine F.ok aa8 (λvs H Q E h=> ?_) (λcdv A outer s H vs Q E hr h=> ?_)
 ·obtain⟨p,a,x,y,wx,wy,b,rfl,_⟩:=h
  rfl
 ·obtain⟨p,a,x,y,wx,wy,b,rfl,hp,hb,gb,⟨l1,l2,l3,l4⟩,k⟩:=h
  have nd:=aa8.nd
  obtain⟨cl,c1,c2,c3,-,-,-,-⟩:=cB
  obtain⟨dx,ha,pa,va,i1,i2,i3,i4⟩:=hb.ex
  obtain⟨gs,⟨g1,g2⟩,⟨g3,g4⟩⟩:=gb
  have q1:Sm (x-b.at_.x):=⟨by lia,by lia⟩
  have q2:Sm (y-b.at_.y):=⟨by lia,by lia⟩
  have q3:Sm wx:=⟨by lia,by lia⟩
  have q4:Sm wy:=⟨by lia,by lia⟩
  refine⟨_,(e9 (j9 (i:=2) nd rfl (Or.inl rfl) (A0 D_seen_from hr (by rfl) (e8 (pv 0) (e8 (i9 j5 (j7 (pv 1) rfl) f6 (λ_ _=>rfl)) (e8 (i9 j5 (j7 (pv 1) rfl) f6 (λ_ _=>rfl)) f7)))))
   (e9 (B8 (o8 K5 (j7 (pv 1) rfl) f6 (t9 _))
    (f8 (l8 (A0 D_time_to_ball hr (by rfl) (e8 (pv 2) (e8 (i9 j5 (j7 (pv 1) rfl) f6 (λ_ _=>rfl)) f7)))))
    v8)
   (f8 (l8 (A0 D_time_to_box hr (by rfl) (e8 (pv 2) (e8 (j7 (pv 1) rfl) f7))))))),?_⟩
  walk_at "rd"
  refine⟨p,x,y,wx,wy,b.at_.x,b.at_.y,rfl,hp,λt G1 s1 n1 t1=> ?_⟩
  have i1':=s1 _ _ i1
  have i2':=f9.tup s1 i2
  have ht:v7 K G1 t [.int (x-b.at_.x),.int (y-b.at_.y),.int wx,.int wy]:=v7.of t1
  refine⟨_,rfl,_,_,_,_,_,rfl,i1',cl,c1,rfl,rfl,_,rfl,?_⟩
  refine z8 (λhh=> ?_) (λhh=> ?_)
  ·obtain⟨r,er⟩:=a4Z.mp hh
   rw[er]at i2' gs
   refine⟨_,rfl,_,rfl,_,_,_,_,_,rfl,i1',cl,c2,rfl,ha,_,_,_,rfl,rfl,i2',rfl,t,_,_,_,_,_,rfl,ht,⟨q1,q2,q3,q4,⟨by have:1<=r:=gs.1;show-1073741824<r;lia,by have:r<=100000:=gs.2;show r<1073741824;lia⟩⟩,?_⟩
   show Z4 K G1 Q (Mb.ad5 (x-b.at_.x) (y-b.at_.y) wx wy r)
   rw[Mb.ar9]
   have e:a8N b ⟨x,y⟩ ⟨wx,wy⟩=Vbwsam.rayBall r ⟨x-b.at_.x,y-b.at_.y⟩ ⟨wx,wy⟩:=by unfold a8N;rw[er];rfl
   rw[←e]
   exact k.mono s1
  ·obtain⟨hx,hy,er⟩:∃hx hy,b.shape= .box hx hy:=by
    cases q:b.shape with
    |box u v=>exact⟨u,v,rfl⟩
    |ball r=>exact absurd (a4Z.mpr ⟨r,q⟩) hh
   rw[er]at i2' gs
   obtain⟨⟨e1,e2⟩,e3,e4⟩:=gs
   refine⟨_,rfl,_,rfl,_,_,_,_,_,rfl,i1',cl,c2,rfl,t,ha,_,_,_,_,hx,hy,rfl,ht,i2',⟨q1,q2,q3,q4,⟨by lia,by lia⟩,⟨by lia,by lia⟩⟩,?_⟩
   rw[Mb.az9]
   have e:a8N b ⟨x,y⟩ ⟨wx,wy⟩=Vbwsam.rayBox hx hy ⟨x-b.at_.x,y-b.at_.y⟩ ⟨wx,wy⟩:=by unfold a8N;rw[er];rfl
   rw[←e]
   exact k.mono s1
end
abbrev V4:Stmt:=O7 21
def ag6(K:Frag)(h:Mb.Hit)(v:V)(H:Hp):Prop:=∃q t,v= .ref q/\v7 K H q [.int (h.1:Int),.ref t]/\v7 K H t (R3 h.2)
theorem ag6.same{K:Frag}{h:Mb.Hit}{v:V}{H G:Hp}(x:ag6 K h v H)(s:f9 H G):ag6 K h v G:=by
 obtain⟨q,t,e,h1,h2⟩:=x
 exact⟨q,t,e,f9.tup s h1,f9.tup s h2⟩
theorem ag6.kp{K:Frag}{h:Mb.Hit}{v:V}{H G:Hp}{l:Addr}{ys:List V}(x:ag6 K h v H)(hl:H l=some (.lst ys))(k:Kp l H G):ag6 K h v G:=by
 obtain⟨q,t,e,h1,h2⟩:=x
 exact⟨q,t,e,k.tup hl h1,k.tup hl h2⟩
def a3t(K:Frag)(H:Hp)(l:Addr)(hs:List Mb.Hit):Prop:=∃ys,H l=some (.lst ys)/\Paired (λh y=>ag6 K h y H) hs ys
theorem Paired.ins{α β:Type}{F:α->β->Prop}{a:α}{b:β}(r:F a b):∀{l:List α} {m:List β} (k:Nat),Paired F l m->Paired F (l.insertIdx k a) (m.insertIdx k b)
 |_,_,0,t=>by rw[insertIdx_zero,insertIdx_zero];exact .cons r t
 |_,_,k+1,.nil=> .nil
 |_,_,k+1,.cons q t=>by rw[a9j,a9j];exact .cons q (Paired.ins r k t)
def a3u(bs:List a7s)(p w:a8g)(i:Nat):Option Mb.Hit:=(a8N (bodyAt bs i) p w).map λr=>(i,r)
def O6(bs:List a7s)(p w:a8g)(n:Nat):List Mb.Hit:=((a7J n).filterMap (a3u bs p w)).foldl (λa x=>Vbwsam.putHit x a) []
theorem aM4(bs:List a7s)(p w:a8g):O6 bs p w bs.length=a9k bs p w:=rfl
theorem Z5{bs:List a7s}{p w:a8g}{n:Nat}(h:a8N (bodyAt bs n) p w=none):O6 bs p w (n+1)=O6 bs p w n:=by
 unfold O6
 have e:a3u bs p w n=none:=by unfold a3u;rw[h];rfl
 rw[a8W,a9K,a89,e,List.filterMap_nil,a72]
theorem Z6{bs:List a7s}{p w:a8g}{n:Nat}{t:a8r}(h:a8N (bodyAt bs n) p w=some t):O6 bs p w (n+1)=Vbwsam.putHit (n,t) (O6 bs p w n):=by
 unfold O6
 have e:a3u bs p w n=some (n,t):=by unfold a3u;rw[h];rfl
 rw[a8W,a9K,a89,e,List.filterMap_nil,foldl_append]
 rfl
theorem af7(bs:List a7s)(p w:a8g):∀n,Mb.Ord (O6 bs p w n)
 |0=>⟨λh m=>(by cases m),List.Pairwise.nil⟩
 |n+1=>by
  cases h:a8N (bodyAt bs n) p w with
  |none=>rw[Z5 h];exact af7 bs p w n
  |some t=>rw[Z6 h];exact Mb.a09 (Mb.aA1 h) (af7 bs p w n)
theorem a1e(x:Mb.Hit):∀l:List Mb.Hit,(Vbwsam.putHit x l).length=l.length+1
 |[]=>rfl
 |y::r=>by
  unfold Vbwsam.putHit
  split
  ·rfl
  ·rw[a7O,a1e x r];rfl
theorem af8(bs:List a7s)(p w:a8g):∀n,(O6 bs p w n).length<=n
 |0=>a7A _
 |n+1=>by
  have ih:=af8 bs p w n
  cases h:a8N (bodyAt bs n) p w with
  |none=>rw[Z5 h];lia
  |some t=>rw[Z6 h,a1e];lia
theorem aU1{b:a7s}{x y wx wy:Int}{t:a8r}(gb:Gd b)(ln:Ln x y wx wy)(h:a8N b ⟨x,y⟩ ⟨wx,wy⟩=some t):RB t:=by
 obtain⟨gs,⟨g1,g2⟩,⟨g3,g4⟩⟩:=gb
 obtain⟨l1,l2,l3,l4⟩:=ln
 have q1:Sm (x-b.at_.x):=⟨by lia,by lia⟩
 have q2:Sm (y-b.at_.y):=⟨by lia,by lia⟩
 have q3:Sm wx:=⟨by lia,by lia⟩
 have q4:Sm wy:=⟨by lia,by lia⟩
 cases er:b.shape with
 |ball r=>
  rw[er]at gs
  have e:a8N b ⟨x,y⟩ ⟨wx,wy⟩=Vbwsam.rayBall r ⟨x-b.at_.x,y-b.at_.y⟩ ⟨wx,wy⟩:=by unfold a8N;rw[er];rfl
  rw[e,←Mb.ar9,as3 rfl rfl rfl rfl]at h
  have b5:Sm r:=⟨by have:1<=r:=gs.1;lia,by have:r<=100000:=gs.2;lia⟩
  have i1:Bi 62 (wx*wx):=q3.bi.mul q3.bi (by decide)
  have i2:Bi 62 (wy*wy):=q4.bi.mul q4.bi (by decide)
  have i3:Bi 62 ((x-b.at_.x)*wx):=q1.bi.mul q3.bi (by decide)
  have i4:Bi 62 ((y-b.at_.y)*wy):=q2.bi.mul q4.bi (by decide)
  have i5:Bi 62 ((x-b.at_.x)*(x-b.at_.x)):=q1.bi.mul q1.bi (by decide)
  have i6:Bi 62 ((y-b.at_.y)*(y-b.at_.y)):=q2.bi.mul q2.bi (by decide)
  have i7:Bi 62 (r*r):=b5.bi.mul b5.bi (by decide)
  have ia:Bi 63 (wx*wx+wy*wy):=i1.add i2 (by decide)
  have ib:Bi 63 (-((x-b.at_.x)*wx+(y-b.at_.y)*wy)):=(i3.add i4 (by decide)).neg
  have ic:Bi 64 ((x-b.at_.x)*(x-b.at_.x)+(y-b.at_.y)*(y-b.at_.y)-r*r):=Bi.sub (m:=63) (i5.add i6 (by decide)) i7 (by decide)
  split at h
  ·cases h
  ·cases h
   exact⟨ia.up (by decide),ib.up (by decide),Bi.sub (m:=126) (n:=127) (ib.mul ib (by decide)) (ia.mul ic (by decide)) (by decide)⟩
 |box hx hy=>
  rw[er]at gs
  obtain⟨⟨e1,e2⟩,e3,e4⟩:=gs
  have b5:Sm hx:=⟨by lia,by lia⟩
  have b6:Sm hy:=⟨by lia,by lia⟩
  have e:a8N b ⟨x,y⟩ ⟨wx,wy⟩=Vbwsam.rayBox hx hy ⟨x-b.at_.x,y-b.at_.y⟩ ⟨wx,wy⟩:=by unfold a8N;rw[er];rfl
  rw[e,←Mb.az9]at h
  unfold Mb.Q3 at h
  split at h
  ·cases h
  ·split at h
   ·cases h
   ·unfold Mb.aL6 at h
    have all:∀r∈Mb.axB (x-b.at_.x) hx wx++Mb.axB (y-b.at_.y) hy wy,RB r:=λr m=>by
     rcases a77.mp m with m|m
     ·unfold Mb.axB at m
      split at m
      ·cases m
      ·rw[a7N.mp m];exact a0j q1 b5 q3
     ·unfold Mb.axB at m
      split at m
      ·cases m
      ·rw[a7N.mp m];exact a0j q2 b6 q4
    split at h
    ·rename_i r1 r2 h1 h2
     unfold Mb.O3 at h
     split at h
     ·cases h
     ·cases h
      exact aT8 (all _ (List.mem_of_head? h1)) (all _ (List.mem_of_getLast? h2))
    ·cases h
theorem aB1{bs:List a7s}{x y wx wy:Int}(ln:Ln x y wx wy):∀n,(∀i,i<n->Gd (bodyAt bs i))->∀h∈O6 bs ⟨x,y⟩ ⟨wx,wy⟩ n,RB h.2
 |0,_,h,m=>by cases m
 |n+1,g,h,m=>by
  have ih:=aB1 ln n (λi hi=>g i (by lia))
  cases e:a8N (bodyAt bs n) ⟨x,y⟩ ⟨wx,wy⟩with
  |none=>rw[Z5 e]at m;exact ih h m
  |some t=>
   rw[Z6 e]at m
   rcases Mb.aL8.mp m with m|m
   ·rw[m];exact aU1 (g n (by lia)) ln e
   ·exact ih h m
theorem aB2{t:a8r}{F:Mb.Hit->V->Prop}:∀{hs:List Mb.Hit} {ys:List V},Paired F hs ys->(((hs.zip ys).map λz=>if Mb.E2 z.1.2 t=true then none else some z.2).filterMap id).length=(hs.filter λh=> !Mb.E2 h.2 t).length
 |_,_,.nil=>rfl
 |_,_,.cons (a:=a) _ q=>by
  rw[a9u,a7U,a89,a8b]
  cases c:Mb.E2 a.2 t with
  |true=>
   simp only[Bool.not_true,a8k,if_false,if_true,id]
   exact aB2 q
  |false=>
   simp only[Bool.not_false,if_true,a8k,if_false,id,a7O]
   rw[aB2 q]
section
variable{P:Program}{w:World}{K:Frag}{mg:Str->Option Value}{base:Heap}{C W:Addr}
def aM5(K:Frag)(C:Addr):Sp:=λvs H Q _=>∃(l p:Addr) (as:List Addr) (bs:List a7s) (x y wx wy:Int),vs=[.ref l,.ref p]/\m8 K C H l as bs/\bs.length<=20/\(∀i,i<bs.length->Gd (bodyAt bs i))/\v7 K H p [.int x,.int y,.int wx,.int wy]/\Ln x y wx wy/\
 ∀hl G,f9 H G->H hl=none->a3t K G hl (a9k bs ⟨x,y⟩ ⟨wx,wy⟩)->Q (.ref hl) G
theorem al7:n8 ["bodies","line","hits","number","body","time","ahead","hit"] ["bodies","line"] (g9 V4):=⟨rfl,rfl,rfl,by decide+kernel,rfl,by decide+kernel,by decide+kernel⟩
theorem aM6{f:Addr}{fd:FuncData}(F:M3 K "find_hits" "find_hits" V4 f fd)(T:Txt K mg)(b_enumerate:mg "enumerate"=none)(D_time_to_body:Df P w K mg base "time_to_body" 7 ["line","body"] (aM3 K C))(D_is_later:Df P w K mg base "is_later" 7 ["one","other"] (Z3 K)):A7 P w K mg base M2 8 f fd ["bodies","line"] (aM5 K C):=by
 refine F.ok al7 (λvs H Q E h=> ?_) (λcdv A outer s H vs Q E hr h=> ?_)
 ·obtain⟨l,p,as,bs,x,y,wx,wy,rfl,_⟩:=h
  rfl
 ·obtain⟨l,p,as,bs,x,y,wx,wy,rfl,hB,h20,gds,hp,ln,k⟩:=h
  have nd:=al7.nd
  refine⟨_,(e9 (j9 (i:=2) nd rfl (Or.inl rfl) (y6 f7))
   (e9 (E9 PassesOwn.never rfl (aJ2 (by rfl) b_enumerate (e8 (pv 0) f7)) (by refine J5 (i:=3) (j:=4) K ?_ ?_ ?_ ?_ ?_ ?_ ?_<;>first|rfl|assumption)
    (e9 (j9 (i:=5) nd rfl (Or.inr rfl) (A0 D_time_to_body hr (by rfl) (e8 (pv 1) (e8 (pv 4) f7))))
    (f8 (B8 (o8 a3R (pv 5) au7 (t9 _))
     (e9 (L3 (i:=6) rfl nd rfl rfl rfl (own:=[("hit",7)]) (A3 (pv 2)) (by show E5 ["bodies","line","hits","number","body","time","ahead","hit"] (g9 V4) _ _;exact⟨rfl,by decide+kernel,by decide+kernel,by decide+kernel,by decide+kernel⟩)
     (λ_ _ _ _ _=>by exact z9 (i:=7) nd (by rfl) (by exact Or.inl rfl) (by exact Or.inr rfl))
     (λ_ _ _ _ _=>by exact(Y3 (aI3 (N3 (A0 D_is_later hr (by rfl) (e8 (U5 K rfl (pv 7) f6 (λ_ _=>rfl)) (e8 (pv 5) f7)))))))
     (λ_ _ _ _ _=>by exact(pv 7)))
     (f8 (C2 (M1 a7Q PySem.F.slot_list_insert PySem.F.type_list_insert a18 (pv 2) (e8 (v6 A4 (by rfl) T.b_len PySem.boot_len (e8 (pv 6) f7)) (e8 (p8 (e8 (pv 3) (e8 (pv 5) f7))) f7))))))
     v8))))
   (f8 (l8 (pv 2))))),?_⟩
  have hn:=hB.len
  refine⟨by show 0<=sizeLine;decide,λhl G1 s1 n1 t1=> ?_⟩
  have hB1:=hB.same s1
  have lh:l≠hl:=by
   rintro rfl
   have:=hB.lst
   rw[n1]at this
   cases this
  refine⟨_,rfl,l,_,rfl,n9.of hB1.lst,aT2 (K:=K) (a:=l) (xs:=as.map V.ref) (λi U G=>(∃u3 u4 u5 u6 u7:Option V,U=[some (.ref l),some (.ref p),some (.ref hl),u3,u4,u5,u6,u7])/\Kp hl G1 G/\a3t K G hl (O6 bs ⟨x,y⟩ ⟨wx,wy⟩ i))
   ⟨⟨none,none,none,none,none,rfl⟩,λ_ _ _ e=>e,[],t1,.nil⟩ (λi U G _ ⟨_,h,_⟩=>n9.of (h _ _ lh hB1.lst)) ?_ ?_⟩
  ·rintro i v U G0 G TT hv ⟨⟨u3,u4,u5,u6,u7,rfl⟩,kG0,ys,hh0,hP0⟩ sG nT hT
   obtain⟨a,b,rfl,ha,hb,hbd⟩:=hB1.item hv
   have hi:i<bs.length:=(a7x.mp hb).1
   have eb:bodyAt bs i=b:=A1 hb
   have kG:Kp hl G1 G:=λb o n e=>sG _ _ (kG0 _ _ n e)
   have hh:=sG _ _ hh0
   have hP:Paired (λh y=>ag6 K h y G) (O6 bs ⟨x,y⟩ ⟨wx,wy⟩ i) ys:=Paired.monoP (λ_ _ r=>r.same sG) hP0
   have hbG:=Kp.body kG t1 hbd
   have hpG:=kG.tup t1 (f9.tup s1 hp)
   have gb:Gd b:=eb▸gds i hi
   have lys:ys.length=(O6 bs ⟨x,y⟩ ⟨wx,wy⟩ i).length:=(Paired.length hP).symm
   have l20:ys.length<=20:=by
    rw[lys]
    exact a7G (af8 bs _ _ i) (by lia)
   have sz:(20:Nat)<sizeLine:=by decide
   refine⟨TT,_,rfl,v7.of hT,rfl,_,_,rfl,_,_,rfl,rfl,?_⟩
   refine⟨_,rfl,_,rfl,p,a,x,y,wx,wy,b,rfl,hpG,hbG,gb,ln,?_⟩
   refine⟨λeN G2 s2=> ?_,λt eS G2 q s2 hq=> ?_⟩
   ·refine⟨_,rfl,rfl,_,rfl,?_⟩
    refine a4Q rfl ?_
    refine⟨⟨_,_,_,_,_,rfl⟩,λb o n e=>s2 _ _ (kG _ _ n e),ys,s2 _ _ hh,?_⟩
    rw[Z5 (by rw[eb];exact eN)]
    exact Paired.monoP (λ_ _ r=>r.same s2) hP
   ·have rbt:=aU1 gb ln eS
    have hh2:=s2 _ _ hh
    have hP2:Paired (λh y=>ag6 K h y G2) (O6 bs ⟨x,y⟩ ⟨wx,wy⟩ i) ys:=Paired.monoP (λ_ _ r=>r.same s2) hP
    refine⟨_,rfl,rfl,_,rfl,?_⟩
    refine a4Y (by intro z;cases z) ?_
    refine⟨_,rfl,hl,rfl,⟨_,n9.of hh2⟩,λal nal=> ?_⟩
    refine lcL nal (n9.of hh2) (ys:=((O6 bs ⟨x,y⟩ ⟨wx,wy⟩ i).zip ys).map λz=>if Mb.E2 z.1.2 t=true then none else some z.2) (by rw[a7r,a9y,lys,a9S]) (by rw[a7r,a9y];lia) (λj v o H' hv ho sH=> ?_) (λG3 s3 hb3=> ?_)
    ·intro Rt Rv hT' hR
     obtain⟨hj,hjm,qj,tj,rfl,hq1,hq2⟩:=Paired.at2 hP2 hv
     have ez:((O6 bs ⟨x,y⟩ ⟨wx,wy⟩ i).zip ys)[j]? =some (hj,V.ref qj):=by rw[a8S];exact⟨hjm,hv⟩
     rw[a7t,ez]at ho
     have ho:(if Mb.E2 hj.2 t=true then none else some (V.ref qj))=o:=a7v ho
     refine⟨rfl,?_⟩
     refine⟨_,rfl,qj,_,_,_,rfl,rfl,f9.tup sH hq1,rfl,_,rfl,tj,q,hj.2,t,rfl,f9.tup sH hq2,f9.tup sH hq,aB1 ln i (λi' hi'=>gds i' (by lia)) hj (a7F hjm),rbt,_,rfl,?_⟩
     cases c:Mb.E2 hj.2 t with
     |true=>
      rw[c,if_pos rfl]at ho
      exact D9 (hT' ho.symm H' (f9.refl _))
     |false=>
      rw[c,if_neg (by decide)]at ho
      exact B3 ⟨_,rfl,hR _ ho.symm H' (f9.refl _)⟩
    ·have hh3:=s3 _ _ hh2
     have hk:=aB2 (t:=t) hP2
     have hkle:((((O6 bs ⟨x,y⟩ ⟨wx,wy⟩ i).zip ys).map λz=>if Mb.E2 z.1.2 t=true then none else some z.2).filterMap id).length<=ys.length:=by
      rw[hk,lys]
      exact a75 _ _
     refine⟨_,rfl,.inl ⟨rfl,_,n9.of hh3⟩,_,rfl,al,_,rfl,.inl (n9.of hb3),_,rfl,_,rfl,by show 2<=sizeLine;decide,λq2 G4 s4 n4 t4=> ?_⟩
     refine⟨hl,_,ys,.ref q2,rfl,rfl,s4 _ _ hh3,hkle,by lia,λG5 k5 t5=> ?_⟩
     refine⟨⟨_,_,_,_,_,rfl⟩,λb o n e=>k5 _ _ n (s4 _ _ (s3 _ _ (s2 _ _ (kG _ _ n e)))),_,t5,?_⟩
     rw[Z6 (by rw[eb];exact eS),←Mb.a1a (Mb.aA1 eS) (af7 bs _ _ i)]
     unfold Mb.aA2
     rw[hk]
     refine Paired.ins ⟨q2,q,rfl,k5.tup (s4 _ _ hh3) (v7.of t4),k5.tup (s4 _ _ hh3) (f9.tup (s3.trans s4) hq)⟩ _ (Paired.monoP (λ_ _ r=>ag6.kp (r.same (s3.trans s4)) (s4 _ _ hh3) k5) hP2)
  ·rintro U G ⟨⟨u3,u4,u5,u6,u7,rfl⟩,kG,hH⟩
   refine⟨_,rfl,k hl G (kG.same s1 n1) n1 ?_⟩
   rw[a7r,hn,aM4]at hH
   exact hH
end
abbrev ad8:Stmt:=a0H (O7 4) 0
abbrev Z7:Stmt:=a0H (O7 38) 0
structure CDf(P:Program)(w:World)(K:Frag)(mg:Str->Option Value)(base:Heap)(x:Str)(C:Addr)(k:Nat)(ps:List Str)(sp:Sp):Prop where
 ex:∃f fd,mg x=some (.ref C)/\Mk K C f/\U0 K fd ps []/\A7 P w K mg base M2 k f fd ps sp
theorem CDf.mono{P:Program}{w:World}{K:Frag}{mg:Str->Option Value}{base:Heap}{x:Str}{C:Addr}{j k:Nat}{ps:List Str}{sp:Sp}(D:CDf P w K mg base x C j ps sp)(h:j<=k):CDf P w K mg base x C k ps sp:=by
 obtain⟨f,fd,h1,h2,h3,h4⟩:=D.ex
 exact⟨f,fd,h1,h2,h3,h4.mono h⟩
section
variable{X:Cx}{x:Str}{C:Addr}{k:Nat}{ps:List Str}{sp:Sp}{e:Expr}{es:List Expr}{t:TA}{p pos:Pos}
theorem a3v(D:CDf X.prog X.w X.K X.mg X.base x C k ps sp)(hr:N6 (k+1) X.A)(hg:Gl X x)(ha:PA X (e::es) t)(hdb:(x==("__debug__":Str))=false:=by decide)
 (he:starEach (e::es) X.env=(false,eval e X.env)::starEach es X.env:=by rfl) (hpl:(backTo pos (starEach es X.env)).any (·.1)=false:=by rfl):
 PE X (.Call (.Name x p) (e::es) [] pos) (a0A C sp [] E0 t):=by
 obtain⟨f,fd,h1,h2,h3,h4⟩:=D.ex
 exact a3X h2 h4 hr hg h1 h3 .nil a0I ha hdb he hpl
theorem a5V(D:CDf X.prog X.w X.K X.mg X.base x C k ps sp)(hr:N6 (k+1) X.A)(hg:Gl X x)(hdb:(x==("__debug__":Str))=false:=by decide):
 PE X (.Call (.Name x p) [] [] pos) (a0A C sp [] E0 a5k):=by
 obtain⟨f,fd,h1,h2,h3,h4⟩:=D.ex
 exact a2v h2 h4 hr hg h1 h3 .nil a0I hdb
end
theorem Kp.insT{K:Frag}{a q C dx:Addr}{H G:Hp}{fs:List (Str×V)}{xs:List V}(k:Kp a H G)(ha:H a=some (.ins C dx fs))(h:v7 K H q xs):v7 K G q xs:=by
 rcases h with(h|⟨o',h⟩)|h
 ·exact .inl (.inl (k _ _ (B7 h ha (by intro z;cases z)) h))
 ·exact .inl (.inr ⟨o',k _ _ (B7 h ha (by intro z;cases z)) h⟩)
 ·exact .inr h
theorem Kp.of{a:Addr}{H G:Hp}(s:f9 H G):Kp a H G:=λb o _ e=>s _ _ e
section
variable{P:Program}{w:World}{K:Frag}{mg:Str->Option Value}{base:Heap}{C W:Addr}
def a5W(ball:Int)(ha pa:Addr)(k0 k1 k2:Int)(va:Addr):List (Str×V):=
 [("ball",.int ball),("half",.ref ha),("place",.ref pa),("kind",.int k0),("hard",.int k1),("heavy",.int k2),("velocity",.ref va)]
def al8(K:Frag)(C:Addr):Sp:=λvs H Q _=>∃(x dx ha pa na:Addr) (ball k0 k1 k2:Int),vs=[.ref x,.int ball,.ref ha,.ref pa,.ref na]/\H x=some (.ins C dx [])/\v7 K H na [.int k0,.int k1,.int k2]/\
 ∀va G,Kp x H G->G x=some (.ins C dx (a5W ball ha pa k0 k1 k2 va))->v7 K G va [.int 0,.int 0]->Q .non G
theorem al9:n8 ["self","ball","half","place","nature"] ["self","ball","half","place","nature"] (g9 ad8):=⟨rfl,rfl,rfl,by decide+kernel,rfl,by decide+kernel,by decide+kernel⟩
theorem aM7{f:Addr}{fd:FuncData}(F:M3 K "__init__" "Body.__init__" ad8 f fd)(cB:ab9 K C):A7 P w K mg base M2 1 f fd ["self","ball","half","place","nature"] (al8 K C):=by
 refine F.ok al9 (λvs H Q E h=> ?_) (λcdv A outer s H vs Q E hr h=> ?_)
 ·obtain⟨x,dx,ha,pa,na,ball,k0,k1,k2,rfl,_⟩:=h
  rfl
 ·obtain⟨x,dx,ha,pa,na,ball,k0,k1,k2,rfl,hx,hna,k⟩:=h
  have nd:=al9.nd
  obtain⟨cl,c1,c2,c3,c4,c5,c6,c7⟩:=cB
  refine⟨_,(e9 (F1 (pv 0) (pv 1) rfl)
   (e9 (F1 (pv 0) (pv 2) rfl)
   (e9 (F1 (pv 0) (pv 3) rfl)
   (e9 (F1 (pv 0) (i9 j5 (pv 4) f6 (λ_ _=>rfl)) rfl)
   (e9 (F1 (pv 0) (i9 j5 (pv 4) f6 (λ_ _=>rfl)) rfl)
   (e9 (F1 (pv 0) (i9 j5 (pv 4) f6 (λ_ _=>rfl)) rfl)
   (f8 (F1 (pv 0) (p8 (e8 f6 (e8 f6 f7))) rfl)))))))),?_⟩
  refine⟨_,rfl,_,rfl,x,C,dx,_,rfl,hx,cl,c1,by show 0<1000;decide,?_⟩
  have k1':Kp x H (A6 H x (.ins C dx (B2 "ball" (.int ball) []))):=λb o n e=>by rw[j6 n];exact e
  have g1:A6 H x (.ins C dx (B2 "ball" (.int ball) [])) x=some (.ins C dx [("ball",.int ball)]):=i8
  generalize A6 H x (.ins C dx (B2 "ball" (.int ball) []))=H1 at*
  refine⟨_,rfl,_,rfl,x,C,dx,_,rfl,g1,cl,c2,by show 1<1000;decide,?_⟩
  have k2':Kp x H1 (A6 H1 x (.ins C dx (B2 "half" (.ref ha) [("ball",.int ball)]))):=λb o n e=>by rw[j6 n];exact e
  have g2:A6 H1 x (.ins C dx (B2 "half" (.ref ha) [("ball",.int ball)])) x=some (.ins C dx [("ball",.int ball),("half",.ref ha)]):=i8
  generalize A6 H1 x (.ins C dx (B2 "half" (.ref ha) [("ball",.int ball)]))=H2 at*
  refine⟨_,rfl,_,rfl,x,C,dx,_,rfl,g2,cl,c3,by show 2<1000;decide,?_⟩
  have k3':Kp x H2 (A6 H2 x (.ins C dx (B2 "place" (.ref pa) [("ball",.int ball),("half",.ref ha)]))):=λb o n e=>by rw[j6 n];exact e
  have g3:A6 H2 x (.ins C dx (B2 "place" (.ref pa) [("ball",.int ball),("half",.ref ha)])) x=some (.ins C dx [("ball",.int ball),("half",.ref ha),("place",.ref pa)]):=i8
  generalize A6 H2 x (.ins C dx (B2 "place" (.ref pa) [("ball",.int ball),("half",.ref ha)]))=H3 at*
  have n3:=(k1'.trans (k2'.trans k3')).insT hx hna
  refine⟨_,rfl,na,_,_,_,rfl,rfl,n3,rfl,_,rfl,x,C,dx,_,rfl,g3,cl,c4,by show 3<1000;decide,?_⟩
  have k4':Kp x H3 (A6 H3 x (.ins C dx (B2 "kind" (.int k0) [("ball",.int ball),("half",.ref ha),("place",.ref pa)]))):=λb o n e=>by rw[j6 n];exact e
  have g4:A6 H3 x (.ins C dx (B2 "kind" (.int k0) [("ball",.int ball),("half",.ref ha),("place",.ref pa)])) x=some (.ins C dx [("ball",.int ball),("half",.ref ha),("place",.ref pa),("kind",.int k0)]):=i8
  generalize A6 H3 x (.ins C dx (B2 "kind" (.int k0) [("ball",.int ball),("half",.ref ha),("place",.ref pa)]))=H4 at*
  have n4:=k4'.insT g3 n3
  refine⟨_,rfl,na,_,_,_,rfl,rfl,n4,rfl,_,rfl,x,C,dx,_,rfl,g4,cl,c5,by show 4<1000;decide,?_⟩
  have k5':Kp x H4 (A6 H4 x (.ins C dx (B2 "hard" (.int k1) [("ball",.int ball),("half",.ref ha),("place",.ref pa),("kind",.int k0)]))):=λb o n e=>by rw[j6 n];exact e
  have g5:A6 H4 x (.ins C dx (B2 "hard" (.int k1) [("ball",.int ball),("half",.ref ha),("place",.ref pa),("kind",.int k0)])) x=some (.ins C dx [("ball",.int ball),("half",.ref ha),("place",.ref pa),("kind",.int k0),("hard",.int k1)]):=i8
  generalize A6 H4 x (.ins C dx (B2 "hard" (.int k1) [("ball",.int ball),("half",.ref ha),("place",.ref pa),("kind",.int k0)]))=H5 at*
  have n5:=k5'.insT g4 n4
  refine⟨_,rfl,na,_,_,_,rfl,rfl,n5,rfl,_,rfl,x,C,dx,_,rfl,g5,cl,c6,by show 5<1000;decide,?_⟩
  have k6':Kp x H5 (A6 H5 x (.ins C dx (B2 "heavy" (.int k2) [("ball",.int ball),("half",.ref ha),("place",.ref pa),("kind",.int k0),("hard",.int k1)]))):=λb o n e=>by rw[j6 n];exact e
  have g6:A6 H5 x (.ins C dx (B2 "heavy" (.int k2) [("ball",.int ball),("half",.ref ha),("place",.ref pa),("kind",.int k0),("hard",.int k1)])) x=some (.ins C dx [("ball",.int ball),("half",.ref ha),("place",.ref pa),("kind",.int k0),("hard",.int k1),("heavy",.int k2)]):=i8
  generalize A6 H5 x (.ins C dx (B2 "heavy" (.int k2) [("ball",.int ball),("half",.ref ha),("place",.ref pa),("kind",.int k0),("hard",.int k1)]))=H6 at*
  refine⟨by show 2<=sizeLine;decide,λva G7 s7 n7 t7=> ?_⟩
  have g7:=s7 _ _ g6
  refine⟨_,rfl,x,C,dx,_,rfl,g7,cl,c7,by show 6<1000;decide,?_⟩
  have kA:Kp x H G7:=(k1'.trans (k2'.trans (k3'.trans (k4'.trans (k5'.trans k6'))))).trans (Kp.of s7)
  refine k va _ (λb o n e=>by rw[j6 n];exact kA _ _ n e) i8 ?_
  exact C9 g7 (v7.of t7)
theorem aB3{H1 G:Hp}{x dx ha pa va:Addr}{sh:a8U}{px py k0 k1 k2:Int}(nx:H1 x=none)(nd:H1 dx=none)
 (hk:Kp x (A6 (A6 H1 dx (.own x)) x (.ins C dx [])) G) (hG:G x=some (.ins C dx (a5W (aq5 sh) ha pa k0 k1 k2 va))) (hv:v7 K G va [.int 0,.int 0])
 (hh:v7 K H1 ha [.int (hX sh),.int (hY sh)]) (hp:v7 K H1 pa [.int px,.int py]) (b0:0<=k0) (b1:k1=0\/k1=1) (b2:k2=0\/k2=1):
 f9 H1 G/\A9 K C G x ⟨sh,k0.toNat,k1==1,k2==1,⟨px,py⟩,zeroPair⟩:=by
 have s:f9 H1 G:=λb o e=>hk _ _ (j0 e nx) (by rw[j6 (j0 e nx),j6 (j0 e nd)];exact e)
 refine⟨s,dx,ha,pa,va,?_,f9.tup s hh,f9.tup s hp,hv⟩
 rw[hG]
 have e0:((k0.toNat:Nat):Int)=k0:=by lia
 have e1:a9i (k1==1)=k1:=by rcases b1 with rfl|rfl<;>rfl
 have e2:a9i (k2==1)=k2:=by rcases b2 with rfl|rfl<;>rfl
 unfold a5W bdF
 rw[e0,e1,e2]
end
abbrev L9:Stmt:=O7 55
abbrev aB4:Stmt:=O7 56
abbrev ai5:Stmt:=O7 57
abbrev ad9:Stmt:=O7 58
abbrev ae0:Stmt:=O7 66
def nwL(b:a7s)(bs:List a7s):List Nat:=(a7J bs.length).filter λi=>clashBy b (bodyAt bs i) ⟨0,0⟩ ⟨0,0⟩
theorem a4w(b:a7s)(bs:List a7s):(nwL b bs).length<=bs.length:=by
 unfold nwL
 refine a7G (a75 _ _) ?_
 rw[a70]
 exact a7A _
theorem aH5{α:Type}{p:Nat->Bool}{g:Nat->α}:∀l:List Nat,(l.map λi=>if p i=true then some (g i)else none).filterMap id=(l.filter p).map g
 |[]=>rfl
 |a::r=>by
  rw[a7U,a89,a8b,aH5 r]
  cases c:p a<;>simp
theorem aH6{n i:Nat}(h:i<n):(a7J n)[i]? =some i:=a9E h
section
variable{P:Program}{w:World}{K:Frag}{mg:Str->Option Value}{base:Heap}{C W:Addr}
def a4x(K:Frag)(C W:Addr):Sp:=λvs H Q _=>∃(wa dx l a:Addr) (fs:List (Str×V)) (as:List Addr) (bs:List a7s) (b:a7s),vs=[.ref wa,.ref a]/\H wa=some (.ins W dx fs)/\fs.lookup ("bodies":Str)=some (V.ref l)/\m8 K C H l as bs/\A9 K C H a b/\bs.length<=20/\Gd b/\(∀i,i<bs.length->Gd (bodyAt bs i))/\
 ∀p G,f9 H G->H p=none->G p=some (.lst ((nwL b bs).map λ(i:Nat)=>V.int (i:Int)))->Q (.ref p) G
theorem V5:n8 ["world","shape","number","body"] ["world","shape"] (g9 L9):=⟨rfl,rfl,rfl,by decide+kernel,rfl,by decide+kernel,by decide+kernel⟩
theorem am0{f:Addr}{fd:FuncData}(F:M3 K "numbers_within" "numbers_within" L9 f fd)(cW:X4 K W)(b_enumerate:mg "enumerate"=none)(D_comes_within:Df P w K mg base "comes_within" 3 ["one","other","one_way","other_way"] (af3 K C)):A7 P w K mg base M2 4 f fd ["world","shape"] (a4x K C W):=by
 refine F.ok V5 (λvs H Q E h=> ?_) (λcdv A outer s H vs Q E hr h=> ?_)
 ·obtain⟨wa,dx,l,a,fs,as,bs,b,rfl,_⟩:=h
  rfl
 ·obtain⟨wa,dx,l,a,fs,as,bs,b,rfl,hw,f1,hB,ha,h20,gb,gbs,k⟩:=h
  have nd:=V5.nd
  obtain⟨wl,-,-,w3,-,-⟩:=cW
  refine⟨_,(f8 (l8 (R0 (own:=[("number",2),("body",3)]) rfl nd (aJ2 (by rfl) b_enumerate (e8 (j7 (pv 0) rfl) f7)) (by show E5 ["world","shape","number","body"] (g9 L9) _ _;exact⟨rfl,by decide+kernel,by decide+kernel,by decide+kernel,by decide+kernel⟩)
   (λ_ _ _ _ _=>by refine J5 (i:=2) (j:=3) K ?_ ?_ ?_ ?_ ?_ ?_ ?_<;>first|rfl|assumption)
   (λ_ _ _ _ _=>by exact(Y3 (N3 (A0 D_comes_within hr (by rfl) (e8 (pv 1) (e8 (pv 3) (e8 (p8 (e8 f6 (e8 f6 f7))) (e8 (p8 (e8 f6 (e8 f6 f7))) f7))))))))
   (λ_ _ _ _ _=>by exact(pv 2))))),?_⟩
  have hn:=hB.len
  have z0:Wy 0:=⟨by decide,by decide⟩
  refine⟨_,rfl,_,_,_,_,_,rfl,hw,wl,w3,f1,l,_,rfl,n9.of hB.lst,λal nal=> ?_⟩
  refine lcE nal (n9.of hB.lst) (ys:=(a7J bs.length).map λi=>if clashBy b (bodyAt bs i) ⟨0,0⟩ ⟨0,0⟩=true then some (V.int (i:Int))else none) (by rw[a7r,a7r,a70,hn]) (by rw[a7r,a70];exact a7G h20 (by decide)) (λi y o H' T hx ho sH hT=> ?_) (λG1 s1 hb=> ?_)
  ·intro Rt Rv hN hR
   obtain⟨a2,b2,rfl,ha2,hb2,hbd⟩:=hB.item hx
   have hi:i<bs.length:=(a7x.mp hb2).1
   have eb:bodyAt bs i=b2:=A1 hb2
   rw[a7t,aH6 hi]at ho
   have ho:(if clashBy b (bodyAt bs i) ⟨0,0⟩ ⟨0,0⟩=true then some (V.int (i:Int))else none)=o:=a7v ho
   rw[eb]at ho
   refine⟨T,_,rfl,v7.of hT,rfl,_,_,rfl,_,_,rfl,rfl,rfl,?_⟩
   refine⟨_,rfl,_,rfl,by show 2<=sizeLine;decide,λp1 G1 s1 n1 t1=>⟨by show 2<=sizeLine;decide,λp2 G2 s2 n2 t2=> ?_⟩⟩
   have sA:=sH.trans (s1.trans s2)
   refine⟨a,a2,p1,p2,b,b2,0,0,0,0,rfl,ha.same sA,hbd.same sA,v7.of (s2 _ _ t1),v7.of t2,⟨gb,eb▸gbs i hi,z0,z0,z0,z0⟩,λG3 s3=>⟨_,rfl,?_⟩⟩
   have sT:=s1.trans (s2.trans s3)
   cases c:clashBy b b2 ⟨0,0⟩ ⟨0,0⟩with
   |true=>
    rw[c,if_pos rfl]at ho
    exact B3 ⟨_,rfl,hR _ ho.symm G3 sT⟩
   |false=>
    rw[c,if_neg (by decide)]at ho
    exact D9 (hN ho.symm G3 sT)
  ·rw[aH5]at hb
   exact k al G1 s1 nal hb
def a1f(K:Frag)(C W:Addr):Sp:=λvs H Q _=>∃(wa dx l a:Addr) (fs:List (Str×V)) (as:List Addr) (bs:List a7s) (b:a7s),vs=[.ref wa,.ref a]/\H wa=some (.ins W dx fs)/\fs.lookup ("bodies":Str)=some (V.ref l)/\m8 K C H l as bs/\A9 K C H a b/\a∉as/\bs.length<=20/\Gd b/\(∀i,i<bs.length->Gd (bodyAt bs i))/\
 (20<=bs.length->Ans H Q [-4])/\(bs.length<20->nwL b bs≠[]->Ans H Q [-6])/\(bs.length<20->nwL b bs=[]->∀G,Kp l H G->m8 K C G l (as++[a]) (bs++[b])->Ans G Q [0,(bs.length:Int)])
theorem aH7:n8 ["world","body"] ["world","body"] (g9 aB4):=⟨rfl,rfl,rfl,by decide+kernel,rfl,by decide+kernel,by decide+kernel⟩
theorem a2a{f:Addr}{fd:FuncData}(F:M3 K "put_in" "put_in" aB4 f fd)(T:Txt K mg)(cW:X4 K W)(c_MOST:∃t,mg "MOST_BODIES"=some (.int 20 t))(c_FULL:∃t,mg "FULL"=some (.int (-4) t))(c_NO_ROOM:∃t,mg "NO_ROOM"=some (.int (-6) t))(D_numbers_within:Df P w K mg base "numbers_within" 4 ["world","shape"] (a4x K C W)):A7 P w K mg base M2 5 f fd ["world","body"] (a1f K C W):=by
 refine F.ok aH7 (λvs H Q E h=> ?_) (λcdv A outer s H vs Q E hr h=> ?_)
 ·obtain⟨wa,dx,l,a,fs,as,bs,b,rfl,_⟩:=h
  rfl
 ·obtain⟨wa,dx,l,a,fs,as,bs,b,rfl,hw,f1,hB,ha,na,h20,gb,gbs,k1,k2,k3⟩:=h
  have nd:=aH7.nd
  have cW':=cW
  obtain⟨wl,-,-,w3,-,-⟩:=cW
  refine⟨_,(e9 (B8 (o8 av1 (v6 A4 (by rfl) T.b_len PySem.boot_len (e8 (j7 (pv 0) rfl) f7)) (B5 c_MOST (by rfl)) (t9 _))
   (f8 (l8 (y6 (e8 (B5 c_FULL (by rfl)) f7))))
   v8)
   (e9 (B8 (Q5 (A0 D_numbers_within hr (by rfl) (e8 (pv 0) (e8 (pv 1) f7))) (λ_=>rfl))
    (f8 (l8 (y6 (e8 (B5 c_NO_ROOM (by rfl)) f7))))
    v8)
   (e9 (C2 (M1 a7Q a8c a8d D2 (j7 (pv 0) rfl) (e8 (pv 1) f7)))
   (f8 (l8 (y6 (e8 f6 (e8 (m9 F0 (v6 A4 (by rfl) T.b_len PySem.boot_len (e8 (j7 (pv 0) rfl) f7)) f6) f7)))))))),?_⟩
  have hn:=hB.len
  refine⟨_,rfl,_,_,_,_,_,rfl,hw,wl,w3,f1,l,_,rfl,.inl (n9.of hB.lst),_,_,rfl,rfl,_,rfl,?_⟩
  refine z8 (λhh=> ?_) (λhh=> ?_)
  ·exact⟨by show 1<=sizeLine;decide,k1 (by have:=of_decide_eq_true hh;rw[a7r,hn]at this;lia)⟩
  have hlt:bs.length<20:=by
   have:¬((((as.map V.ref).length:Nat):Int)≥20):=λz=>hh (decide_eq_true z)
   rw[a7r,hn]at this
   lia
  refine⟨_,rfl,_,rfl,wa,dx,l,a,fs,as,bs,b,rfl,hw,f1,hB,ha,h20,gb,gbs,λal G1 s1 nal hal=> ?_⟩
  refine⟨_,.inl ⟨_,n9.of hal,rfl⟩,?_⟩
  refine z8 (λh2=> ?_) (λh2=> ?_)
  ·have h2':nwL b bs≠[]:=by
    intro z
    rw[z]at h2
    exact absurd h2 (by decide)
   exact⟨by show 1<=sizeLine;decide,λp G s n t=>k2 hlt h2' p G (s1.trans s) (s1.free n) t⟩
  ·have h2':nwL b bs=[]:=by
    cases c:nwL b bs with
    |nil=>rfl
    |cons u v=>rw[c]at h2;exact absurd rfl h2
   have hB1:=hB.same s1
   have hw1:=s1 _ _ hw
   refine⟨_,rfl,_,_,_,_,_,rfl,hw1,wl,w3,f1,.inl ⟨rfl,_,n9.of hB1.lst⟩,_,rfl,l,_,_,rfl,rfl,hB1.lst,by rw[a7r,hn];exact a84 hlt (by decide),λG2 kp t2=> ?_⟩
   have hw2:=kp _ _ (B7 hw1 hB1.lst (by intro z;cases z)) hw1
   refine⟨_,rfl,_,_,_,_,_,rfl,hw2,wl,w3,f1,l,_,rfl,.inl (n9.of t2),_,_,rfl,rfl,by show 2<=sizeLine;decide,?_⟩
   have e:(((as.map V.ref++[V.ref a]).length:Nat):Int)-1=(bs.length:Int):=by
    rw[a7M,a7r,hn]
    show((bs.length+1:Nat):Int)-1=_
    lia
   have e':(λi j=>V.int (i-j)) (((as.map V.ref++[V.ref a]).length:Nat):Int) 1=V.int (bs.length:Int):=congrArg V.int e
   rw[e']
   refine k3 hlt h2' G2 (λb' o ne e=>kp _ _ ne (s1 _ _ e)) ⟨by rw[t2,a8m];rfl,?_,?_⟩
   ·rw[nodup_append]
    exact⟨hB.nd,by simp,λx hx y hy z=>by rw[a7N]at hy;subst hy;subst z;exact na hx⟩
   ·exact Paired.app (Paired.monoP (λ_ _ r=>Kp.body kp hB1.lst r) hB1.bd) (.cons (Kp.body kp hB1.lst (ha.same s1)) .nil)
def a0l(K:Frag)(C:Addr)(H:Hp)(Q:VK)(l:Addr)(as:List Addr)(bs:List a7s)(b:a7s):Prop:=
 (20<=bs.length->∀G,f9 H G->Ans G Q [-4])/\(bs.length<20->nwL b bs≠[]->∀G,f9 H G->Ans G Q [-6])/\(bs.length<20->nwL b bs=[]->∀G a,Kp l H G->H a=none->m8 K C G l (as++[a]) (bs++[b])->Ans G Q [0,(bs.length:Int)])
def ap3(sh:a8U)(x y k h g:Int):a7s:=⟨sh,k.toNat,h==1,g==1,⟨x,y⟩,zeroPair⟩
def a3w(K:Frag)(C W:Addr):Sp:=λvs H Q _=>∃(wa dx l nl:Addr) (fs:List (Str×V)) (as:List Addr) (bs:List a7s) (x y hx hy k h g:Int),vs=[.ref wa,.ref nl]/\H wa=some (.ins W dx fs)/\fs.lookup ("bodies":Str)=some (V.ref l)/\m8 K C H l as bs/\bs.length<=20/\(∀i,i<bs.length->Gd (bodyAt bs i))/\
 n9 K H nl [.int x,.int y,.int hx,.int hy,.int k,.int h,.int g]/\Gd (ap3 (.box hx hy) x y k h g)/\0<=k/\(h=0\/h=1)/\(g=0\/g=1)/\a0l K C H Q l as bs (ap3 (.box hx hy) x y k h g)
theorem as4:n8 ["world","numbers","place","half"] ["world","numbers"] (g9 ai5):=⟨rfl,rfl,rfl,by decide+kernel,rfl,by decide+kernel,by decide+kernel⟩
theorem aU2{f:Addr}{fd:FuncData}(F:M3 K "call_box" "call_box" ai5 f fd)(D_Body:CDf P w K mg base "Body" C 4 ["self","ball","half","place","nature"] (al8 K C))(D_put_in:Df P w K mg base "put_in" 5 ["world","body"] (a1f K C W)):A7 P w K mg base M2 6 f fd ["world","numbers"] (a3w K C W):=by
 refine F.ok as4 (λvs H Q E h=> ?_) (λcdv A outer s H vs Q E hr h=> ?_)
 ·obtain⟨wa,dx,l,nl,fs,as,bs,x,y,hx,hy,k,h,g,rfl,_⟩:=h
  rfl
 ·obtain⟨wa,dx,l,nl,fs,as,bs,x,y,hx,hy,k,h,g,rfl,hw,f1,hB,h20,gbs,hnl,gb,b0,b1,b2,k1,k2,k3⟩:=h
  have nd:=as4.nd
  refine⟨_,(e9 (j9 (i:=2) nd rfl (Or.inl rfl) (p8 (e8 (i9 l6 (pv 1) f6 (λ_ _=>rfl)) (e8 (i9 l6 (pv 1) f6 (λ_ _=>rfl)) f7))))
   (e9 (j9 (i:=3) nd rfl (Or.inl rfl) (p8 (e8 (i9 l6 (pv 1) f6 (λ_ _=>rfl)) (e8 (i9 l6 (pv 1) f6 (λ_ _=>rfl)) f7))))
   (f8 (l8 (A0 D_put_in hr (by rfl) (e8 (pv 0) (e8 (a3v D_Body hr (by rfl) (e8 f6 (e8 (pv 3) (e8 (pv 2) (e8 (p8 (e8 (i9 l6 (pv 1) f6 (λ_ _=>rfl)) (e8 (i9 l6 (pv 1) f6 (λ_ _=>rfl)) (e8 (i9 l6 (pv 1) f6 (λ_ _=>rfl)) f7)))) f7))))) f7))))))),?_⟩
  walk_at "rd"
  refine⟨by show 2<=sizeLine;decide,λpa G1 s1 n1 t1=> ?_⟩
  have hnl1:=s1.seq hnl
  walk_at "rd"
  refine⟨by show 2<=sizeLine;decide,λha G2 s2 n2 t2=> ?_⟩
  have hnl2:=s2.seq hnl1
  walk_at "rd"
  refine⟨by show 3<=sizeLine;decide,λna G3 s3 n3 t3=> ?_⟩
  intro z dz nz ndz ne
  have s03:f9 H G3:=s1.trans (s2.trans s3)
  have sU:f9 G3 (A6 (A6 G3 dz (.own z)) z (.ins C dz [])):=λb o e=>by rw[j6 (j0 e nz),j6 (j0 e ndz)];exact e
  refine⟨z,dz,ha,pa,na,0,k,h,g,rfl,i8,f9.tup sU (v7.of t3),λva G4 k4 g4 v4=>⟨rfl,?_⟩⟩
  obtain⟨s4,hb4⟩:=aB3 (sh:= .box hx hy) nz ndz k4 g4 v4 (v7.of (s3 _ _ t2)) (v7.of (s3 _ _ (s2 _ _ t1))) b0 b1 b2
  have s04:=s03.trans s4
  have hzn:H z=none:=s03.free nz
  refine⟨wa,dx,l,z,fs,as,bs,ap3 (.box hx hy) x y k h g,rfl,s04 _ _ hw,f1,hB.same s04,hb4,λm=> ?_,h20,gb,gbs,λc=>k1 c G4 s04,λc d=>k2 c d G4 s04,λc d G5 k5 h5=>k3 c d G5 z (λb o n e=>k5 _ _ n (s04 _ _ e)) hzn h5⟩
  obtain⟨dx',fs',e'⟩:=hB.ins m
  rw[hzn]at e'
  cases e'
def a1g(K:Frag)(C W:Addr):Sp:=λvs H Q _=>∃(wa dx l nl:Addr) (fs:List (Str×V)) (as:List Addr) (bs:List a7s) (x y r k h g:Int),vs=[.ref wa,.ref nl]/\H wa=some (.ins W dx fs)/\fs.lookup ("bodies":Str)=some (V.ref l)/\m8 K C H l as bs/\bs.length<=20/\(∀i,i<bs.length->Gd (bodyAt bs i))/\
 n9 K H nl [.int x,.int y,.int r,.int k,.int h,.int g]/\Gd (ap3 (.ball r) x y k h g)/\0<=k/\(h=0\/h=1)/\(g=0\/g=1)/\a0l K C H Q l as bs (ap3 (.ball r) x y k h g)
theorem am1:n8 ["world","numbers","place","half"] ["world","numbers"] (g9 ad9):=⟨rfl,rfl,rfl,by decide+kernel,rfl,by decide+kernel,by decide+kernel⟩
theorem aM8{f:Addr}{fd:FuncData}(F:M3 K "call_ball" "call_ball" ad9 f fd)(D_Body:CDf P w K mg base "Body" C 4 ["self","ball","half","place","nature"] (al8 K C))(D_put_in:Df P w K mg base "put_in" 5 ["world","body"] (a1f K C W)):A7 P w K mg base M2 6 f fd ["world","numbers"] (a1g K C W):=by
 refine F.ok am1 (λvs H Q E h=> ?_) (λcdv A outer s H vs Q E hr h=> ?_)
 ·obtain⟨wa,dx,l,nl,fs,as,bs,x,y,r,k,h,g,rfl,_⟩:=h
  rfl
 ·obtain⟨wa,dx,l,nl,fs,as,bs,x,y,r,k,h,g,rfl,hw,f1,hB,h20,gbs,hnl,gb,b0,b1,b2,k1,k2,k3⟩:=h
  have nd:=am1.nd
  refine⟨_,(e9 (j9 (i:=2) nd rfl (Or.inl rfl) (p8 (e8 (i9 l6 (pv 1) f6 (λ_ _=>rfl)) (e8 (i9 l6 (pv 1) f6 (λ_ _=>rfl)) f7))))
   (e9 (j9 (i:=3) nd rfl (Or.inl rfl) (p8 (e8 (i9 l6 (pv 1) f6 (λ_ _=>rfl)) (e8 (i9 l6 (pv 1) f6 (λ_ _=>rfl)) f7))))
   (f8 (l8 (A0 D_put_in hr (by rfl) (e8 (pv 0) (e8 (a3v D_Body hr (by rfl) (e8 f6 (e8 (pv 3) (e8 (pv 2) (e8 (p8 (e8 (i9 l6 (pv 1) f6 (λ_ _=>rfl)) (e8 (i9 l6 (pv 1) f6 (λ_ _=>rfl)) (e8 (i9 l6 (pv 1) f6 (λ_ _=>rfl)) f7)))) f7))))) f7))))))),?_⟩
  walk_at "rd"
  refine⟨by show 2<=sizeLine;decide,λpa G1 s1 n1 t1=> ?_⟩
  have hnl1:=s1.seq hnl
  walk_at "rd"
  refine⟨by show 2<=sizeLine;decide,λha G2 s2 n2 t2=> ?_⟩
  have hnl2:=s2.seq hnl1
  walk_at "rd"
  refine⟨by show 3<=sizeLine;decide,λna G3 s3 n3 t3=> ?_⟩
  intro z dz nz ndz ne
  have s03:f9 H G3:=s1.trans (s2.trans s3)
  have sU:f9 G3 (A6 (A6 G3 dz (.own z)) z (.ins C dz [])):=λb o e=>by rw[j6 (j0 e nz),j6 (j0 e ndz)];exact e
  refine⟨z,dz,ha,pa,na,1,k,h,g,rfl,i8,f9.tup sU (v7.of t3),λva G4 k4 g4 v4=>⟨rfl,?_⟩⟩
  obtain⟨s4,hb4⟩:=aB3 (sh:= .ball r) nz ndz k4 g4 v4 (v7.of (s3 _ _ t2)) (v7.of (s3 _ _ (s2 _ _ t1))) b0 b1 b2
  have s04:=s03.trans s4
  have hzn:H z=none:=s03.free nz
  refine⟨wa,dx,l,z,fs,as,bs,ap3 (.ball r) x y k h g,rfl,s04 _ _ hw,f1,hB.same s04,hb4,λm=> ?_,h20,gb,gbs,λc=>k1 c G4 s04,λc d=>k2 c d G4 s04,λc d G5 k5 h5=>k3 c d G5 z (λb o n e=>k5 _ _ n (s04 _ _ e)) hzn h5⟩
  obtain⟨dx',fs',e'⟩:=hB.ins m
  rw[hzn]at e'
  cases e'
def a3x(K:Frag)(C W:Addr):Sp:=λvs H Q _=>∃(wa dx l nl:Addr) (fs:List (Str×V)) (as:List Addr) (bs:List a7s) (x y hx hy:Int),vs=[.ref wa,.ref nl]/\H wa=some (.ins W dx fs)/\fs.lookup ("bodies":Str)=some (V.ref l)/\m8 K C H l as bs/\bs.length<=20/\(∀i,i<bs.length->Gd (bodyAt bs i))/\
 n9 K H nl [.int x,.int y,.int hx,.int hy]/\Gd (ap3 (.box hx hy) x y 0 0 0)/\Ans H Q (0::(nwL (ap3 (.box hx hy) x y 0 0 0) bs).map Int.ofNat)
theorem am2:n8 ["world","numbers","place","half"] ["world","numbers"] (g9 ae0):=⟨rfl,rfl,rfl,by decide+kernel,rfl,by decide+kernel,by decide+kernel⟩
theorem aM9{f:Addr}{fd:FuncData}(F:M3 K "call_room" "call_room" ae0 f fd)(c_FIXED:∃t,mg "FIXED"=some (.int 0 t))(D_Body:CDf P w K mg base "Body" C 3 ["self","ball","half","place","nature"] (al8 K C))(D_numbers_within:Df P w K mg base "numbers_within" 4 ["world","shape"] (a4x K C W)):A7 P w K mg base M2 5 f fd ["world","numbers"] (a3x K C W):=by
 refine F.ok am2 (λvs H Q E h=> ?_) (λcdv A outer s H vs Q E hr h=> ?_)
 ·obtain⟨wa,dx,l,nl,fs,as,bs,x,y,hx,hy,rfl,_⟩:=h
  rfl
 ·obtain⟨wa,dx,l,nl,fs,as,bs,x,y,hx,hy,rfl,hw,f1,hB,h20,gbs,hnl,gb,k⟩:=h
  have nd:=am2.nd
  refine⟨_,(e9 (j9 (i:=2) nd rfl (Or.inl rfl) (p8 (e8 (i9 l6 (pv 1) f6 (λ_ _=>rfl)) (e8 (i9 l6 (pv 1) f6 (λ_ _=>rfl)) f7))))
   (e9 (j9 (i:=3) nd rfl (Or.inl rfl) (p8 (e8 (i9 l6 (pv 1) f6 (λ_ _=>rfl)) (e8 (i9 l6 (pv 1) f6 (λ_ _=>rfl)) f7))))
   (f8 (l8 (m9 a1b (y6 (e8 f6 f7)) (A0 D_numbers_within hr (by rfl) (e8 (pv 0) (e8 (a3v D_Body hr (by rfl) (e8 f6 (e8 (pv 3) (e8 (pv 2) (e8 (p8 (e8 (B5 c_FIXED (by rfl)) (e8 f6 (e8 f6 f7)))) f7))))) f7)))))))),?_⟩
  walk_at "rd"
  refine⟨by show 2<=sizeLine;decide,λpa G1 s1 n1 t1=> ?_⟩
  have hnl1:=s1.seq hnl
  walk_at "rd"
  refine⟨by show 2<=sizeLine;decide,λha G2 s2 n2 t2=> ?_⟩
  refine⟨by show 1<=sizeLine;decide,λzl G2' s2' n2' t2'=> ?_⟩
  walk_at "rd"
  refine⟨by show 3<=sizeLine;decide,λna G3 s3 n3 t3=> ?_⟩
  intro z dz nz ndz ne
  have s03:f9 H G3:=s1.trans (s2.trans (s2'.trans s3))
  have sU:f9 G3 (A6 (A6 G3 dz (.own z)) z (.ins C dz [])):=λb o e=>by rw[j6 (j0 e nz),j6 (j0 e ndz)];exact e
  refine⟨z,dz,ha,pa,na,0,0,0,0,rfl,i8,f9.tup sU (v7.of t3),λva G4 k4 g4 v4=>⟨rfl,?_⟩⟩
  obtain⟨s4,hb4⟩:=aB3 (sh:= .box hx hy) nz ndz k4 g4 v4 (v7.of ((s2'.trans s3) _ _ t2)) (v7.of ((s2'.trans s3) _ _ (s2 _ _ t1))) (a91 0) (.inl rfl) (.inl rfl)
  have s04:=s03.trans s4
  refine⟨wa,dx,l,z,fs,as,bs,ap3 (.box hx hy) x y 0 0 0,rfl,s04 _ _ hw,f1,hB.same s04,hb4,h20,gb,gbs,λal G5 s5 n5 h5=> ?_⟩
  refine⟨zl,al,_,_,rfl,rfl,(s3.trans (s4.trans s5)) _ _ t2',h5,?_,λp G6 s6 n6 h6=> ?_⟩
  ·rw[a7r]
   have h1:=a4w (ap3 (.box hx hy) x y 0 0 0) bs
   have h2:(1000:Nat)<=sizeLine:=by decide
   show 1+_<=_
   lia
  ·have s05:=s04.trans s5
   refine k p G6 (s05.trans s6) (s05.free n6) ?_
   rw[h6,a7U,a8s]
   rfl
end
abbrev ai6:Stmt:=O7 64
abbrev Z8:Stmt:=O7 65
abbrev ae1:Stmt:=O7 68
abbrev W6:Stmt:=O7 71
def a3y(t:Nat×Nat×Nat):List Int:=[(t.1:Int),(t.2.1:Int),(t.2.2:Int)]
theorem a1h:∀ts:List (Nat×Nat×Nat),(ts.flatMap a3y).length=3*ts.length
 |[]=>rfl
 |t::r=>by rw[a9l,a7M,a1h r,a7O];show 3+_=_;lia
section
variable{P:Program}{w:World}{K:Frag}{mg:Str->Option Value}{base:Heap}{C W:Addr}
def a5X(pq l ml:Addr):List (Str×V):=[("parts",.int 0),("pull",.ref pq),("bodies",.ref l),("ticks",.int 0),("met",.ref ml)]
def aN0(K:Frag)(W:Addr):Sp:=λvs H Q _=>∃(x dx:Addr),vs=[.ref x]/\H x=some (.ins W dx [])/\
 ∀pq l ml G,Kp x H G->G x=some (.ins W dx (a5X pq l ml))->v7 K G pq [.int 0,.int 0]->G l=some (.lst [])->G ml=some (.lst [])->l≠ml->H l=none->H ml=none->Q .non G
theorem ag7:n8 ["self"] ["self"] (g9 Z7):=⟨rfl,rfl,rfl,by decide+kernel,rfl,by decide+kernel,by decide+kernel⟩
theorem aD3{f:Addr}{fd:FuncData}(F:M3 K "__init__" "World.__init__" Z7 f fd)(cW:X4 K W):A7 P w K mg base M2 1 f fd ["self"] (aN0 K W):=by
 refine F.ok ag7 (λvs H Q E h=> ?_) (λcdv A outer s H vs Q E hr h=> ?_)
 ·obtain⟨x,dx,rfl,_⟩:=h
  rfl
 ·obtain⟨x,dx,rfl,hx,k⟩:=h
  have nd:=ag7.nd
  obtain⟨cl,c1,c2,c3,c4,c5⟩:=cW
  refine⟨_,(e9 (F1 (pv 0) f6 rfl)
   (e9 (F1 (pv 0) (p8 (e8 f6 (e8 f6 f7))) rfl)
   (e9 (F1 (pv 0) (y6 f7) rfl)
   (e9 (F1 (pv 0) f6 rfl)
   (f8 (F1 (pv 0) (y6 f7) rfl)))))),?_⟩
  refine⟨_,rfl,x,W,dx,_,rfl,hx,cl,c1,by show 0<1000;decide,?_⟩
  have k1':Kp x H (A6 H x (.ins W dx (B2 "parts" (.int 0) []))):=λb o n e=>by rw[j6 n];exact e
  have g1:A6 H x (.ins W dx (B2 "parts" (.int 0) [])) x=some (.ins W dx [("parts",.int 0)]):=i8
  generalize A6 H x (.ins W dx (B2 "parts" (.int 0) []))=H1 at*
  refine⟨by show 2<=sizeLine;decide,λpq G1 s1 n1 t1=> ?_⟩
  have g1':=s1 _ _ g1
  refine⟨_,rfl,x,W,dx,_,rfl,g1',cl,c2,by show 1<1000;decide,?_⟩
  have k2':Kp x G1 (A6 G1 x (.ins W dx (B2 "pull" (.ref pq) [("parts",.int 0)]))):=λb o n e=>by rw[j6 n];exact e
  have g2:A6 G1 x (.ins W dx (B2 "pull" (.ref pq) [("parts",.int 0)])) x=some (.ins W dx [("parts",.int 0),("pull",.ref pq)]):=i8
  have p2:=k2'.insT g1' (v7.of (K:=K) t1)
  generalize A6 G1 x (.ins W dx (B2 "pull" (.ref pq) [("parts",.int 0)]))=H2 at*
  refine⟨by show 0<=sizeLine;decide,λl G2 s2 n2 t2=> ?_⟩
  have g2':=s2 _ _ g2
  refine⟨_,rfl,x,W,dx,_,rfl,g2',cl,c3,by show 2<1000;decide,?_⟩
  have k3':Kp x G2 (A6 G2 x (.ins W dx (B2 "bodies" (.ref l) [("parts",.int 0),("pull",.ref pq)]))):=λb o n e=>by rw[j6 n];exact e
  have g3:A6 G2 x (.ins W dx (B2 "bodies" (.ref l) [("parts",.int 0),("pull",.ref pq)])) x=some (.ins W dx [("parts",.int 0),("pull",.ref pq),("bodies",.ref l)]):=i8
  have l3:=k3' _ _ (B7 t2 g2' (by intro z;cases z)) t2
  have p3:=k3'.insT g2' (f9.tup s2 p2)
  generalize A6 G2 x (.ins W dx (B2 "bodies" (.ref l) [("parts",.int 0),("pull",.ref pq)]))=H3 at*
  refine⟨_,rfl,x,W,dx,_,rfl,g3,cl,c4,by show 3<1000;decide,?_⟩
  have k4':Kp x H3 (A6 H3 x (.ins W dx (B2 "ticks" (.int 0) [("parts",.int 0),("pull",.ref pq),("bodies",.ref l)]))):=λb o n e=>by rw[j6 n];exact e
  have g4:A6 H3 x (.ins W dx (B2 "ticks" (.int 0) [("parts",.int 0),("pull",.ref pq),("bodies",.ref l)])) x=some (.ins W dx [("parts",.int 0),("pull",.ref pq),("bodies",.ref l),("ticks",.int 0)]):=i8
  have l4:=k4' _ _ (B7 l3 g3 (by intro z;cases z)) l3
  have p4:=k4'.insT g3 p3
  generalize A6 H3 x (.ins W dx (B2 "ticks" (.int 0) [("parts",.int 0),("pull",.ref pq),("bodies",.ref l)]))=H4 at*
  refine⟨by show 0<=sizeLine;decide,λml G4 s4 n4 t4=> ?_⟩
  have g4':=s4 _ _ g4
  refine⟨_,rfl,x,W,dx,_,rfl,g4',cl,c5,by show 4<1000;decide,?_⟩
  have kA:Kp x H G4:=k1'.trans ((Kp.of s1).trans (k2'.trans ((Kp.of s2).trans (k3'.trans (k4'.trans (Kp.of s4))))))
  have l5:=s4 _ _ l4
  have kB:Kp x H H2:=k1'.trans ((Kp.of s1).trans k2')
  have kC:Kp x H H4:=kB.trans ((Kp.of s2).trans (k3'.trans k4'))
  have fr:∀{z:Addr} {G:Hp} {fs:List (Str×V)},Kp x H G->G x=some (.ins W dx fs)->G z=none->H z=none:=λ{z G fs} kk gx gz=>by
   cases q:H z with
   |none=>rfl
   |some o=>
    by_cases e:z=x
    ·rw[e,gx]at gz;cases gz
    ·rw[kk _ _ e q]at gz;cases gz
  refine k pq l ml _ (λb o n e=>by rw[j6 n];exact kA _ _ n e) i8 (C9 g4' (f9.tup s4 p4)) ?_ ?_ (j0 l4 n4) (fr kB g2 n2) (fr kC g4 n4)
  ·rw[j6 (B7 l5 g4' (by intro z;cases z))];exact l5
  ·rw[j6 (B7 t4 g4' (by intro z;cases z))];exact t4
def a40(K:Frag)(W:Addr):Sp:=λvs H Q _=>∃(wa dx ml:Addr) (nv:V) (fs:List (Str×V)) (ts:List (Nat×Nat×Nat)),vs=[.ref wa,nv]/\H wa=some (.ins W dx fs)/\fs.lookup ("met":Str)=some (V.ref ml)/\X5 K H ml ts/\ts.length<=200000/\Ans H Q (0::ts.flatMap a3y)
theorem as5:n8 ["world","numbers","answer","meeting"] ["world","numbers"] (g9 ai6):=⟨rfl,rfl,rfl,by decide+kernel,rfl,by decide+kernel,by decide+kernel⟩
theorem aU3{f:Addr}{fd:FuncData}(F:M3 K "call_met" "call_met" ai6 f fd)(cW:X4 K W):A7 P w K mg base M2 1 f fd ["world","numbers"] (a40 K W):=by
 refine F.ok as5 (λvs H Q E h=> ?_) (λcdv A outer s H vs Q E hr h=> ?_)
 ·obtain⟨wa,dx,ml,nv,fs,ts,rfl,_⟩:=h
  rfl
 ·obtain⟨wa,dx,ml,nv,fs,ts,rfl,hw,f5,⟨ys,hm,hT⟩,hlen,k⟩:=h
  have nd:=as5.nd
  obtain⟨wl,-,-,-,-,w5⟩:=cW
  refine⟨_,(e9 (j9 (i:=2) nd rfl (Or.inl rfl) (y6 (e8 f6 f7)))
   (e9 (E9 PassesOwn.never rfl (A3 (j7 (pv 0) rfl)) (z9 (i:=3) nd rfl (Or.inl rfl))
    (f8 (C2 (M1 a7Q a86 a87 aA6 (pv 2) (e8 (pv 3) f7)))))
   (f8 (l8 (pv 2))))),?_⟩
  refine⟨by show 1<=sizeLine;decide,λrl G1 s1 n1 t1=> ?_⟩
  have hm1:=s1 _ _ hm
  have lr:ml≠rl:=j0 hm n1
  refine⟨_,rfl,_,_,_,_,_,rfl,s1 _ _ hw,wl,w5,f5,ml,rfl,⟨_,n9.of hm1⟩,L1 (K:=K) (a:=ml) (xs:=ys) (λi U G=>(∃u3:Option V,U=[some (.ref wa),some nv,some (.ref rl),u3])/\Kp rl G1 G/\G rl=some (.lst ((0::(ts.take i).flatMap a3y).map V.int)))
   ⟨⟨none,rfl⟩,λ_ _ _ e=>e,t1⟩ (λi U G _ ⟨_,h,_⟩=>n9.of (h _ _ lr hm1)) ?_ ?_⟩
  ·rintro i y U G hy ⟨⟨u3,rfl⟩,kG,hrl⟩
   obtain⟨t,ht,q,rfl,hq⟩:=Paired.at2 hT hy
   have hqG:=kG.tup t1 (f9.tup s1 hq)
   have hi:i<ts.length:=(a7x.mp ht).1
   refine⟨_,rfl,.inl ⟨rfl,_,n9.of hrl⟩,_,rfl,rl,q,_,_,rfl,rfl,hrl,hqG,?_,λG3 k3 t3=> ?_⟩
   ·rw[a7r,a7O,a1h,a8L]
    have h2:(1000000:Nat)<=sizeLine:=by decide
    show 3*_+1+3<=_
    lia
   ·refine⟨⟨_,rfl⟩,λb o ne e=>k3 _ _ ne (kG _ _ ne e),?_⟩
    rw[t3,take_succ,ht,Option.toList_some,a8q,a9s,←a9b,a8m]
    rfl
  ·rintro U G ⟨⟨u3,rfl⟩,kG,hrl⟩
   refine⟨_,rfl,k rl G (kG.same s1 n1) n1 ?_⟩
   rw[←Paired.length hT,a8o]at hrl
   exact hrl
def W7(bs:List a7s)(i:Nat)(dx dy:Int)(n:Nat):List Nat:=(a7J n).filter λj=>j !=i&&clashBy (bodyAt bs i) (bodyAt bs j) ⟨dx,dy⟩ ⟨0,0⟩
def a1i(K:Frag)(C W:Addr):Sp:=λvs H Q _=>∃(wa dx l nl:Addr) (fs:List (Str×V)) (as:List Addr) (bs:List a7s) (i:Nat) (vx vy:Int),vs=[.ref wa,.ref nl]/\H wa=some (.ins W dx fs)/\fs.lookup ("bodies":Str)=some (V.ref l)/\m8 K C H l as bs/\bs.length<=20/\(∀i,i<bs.length->Gd (bodyAt bs i))/\n9 K H nl [.int (i:Int),.int vx,.int vy]/\Wy vx/\Wy vy/\i<bs.length/\
 Ans H Q (0::(W7 bs i vx vy bs.length).map Int.ofNat)
theorem ag8:n8 ["world","numbers","mover","way","answer","number","body"] ["world","numbers"] (g9 Z8):=⟨rfl,rfl,rfl,by decide+kernel,rfl,by decide+kernel,by decide+kernel⟩
theorem ae2(bs:List a7s)(i:Nat)(dx dy:Int)(n:Nat):W7 bs i dx dy (n+1)=W7 bs i dx dy n++if(n !=i&&clashBy (bodyAt bs i) (bodyAt bs n) ⟨dx,dy⟩ ⟨0,0⟩)=true then [n]else []:=by
 unfold W7
 rw[a8W,a9e,a8b,filter_nil]
theorem a0m(bs:List a7s)(i:Nat)(dx dy:Int)(n:Nat):(W7 bs i dx dy n).length<=n:=by
 unfold W7
 refine a7G (a75 _ _) ?_
 rw[a70]
 exact a7A _
theorem aD4{f:Addr}{fd:FuncData}(F:M3 K "call_would" "call_would" Z8 f fd)(cW:X4 K W)(b_enumerate:mg "enumerate"=none)(D_comes_within:Df P w K mg base "comes_within" 3 ["one","other","one_way","other_way"] (af3 K C)):A7 P w K mg base M2 4 f fd ["world","numbers"] (a1i K C W):=by
 refine F.ok ag8 (λvs H Q E h=> ?_) (λcdv A outer s H vs Q E hr h=> ?_)
 ·obtain⟨wa,dx,l,nl,fs,as,bs,i,vx,vy,rfl,_⟩:=h
  rfl
 ·obtain⟨wa,dx,l,nl,fs,as,bs,i,vx,vy,rfl,hw,f1,hB,h20,gbs,hnl,wyx,wyy,hi,k⟩:=h
  have nd:=ag8.nd
  obtain⟨wl,-,-,w3,-,-⟩:=cW
  refine⟨_,(e9 (j9 (i:=2) nd rfl (Or.inl rfl) (i9 l6 (j7 (pv 0) rfl) (i9 l6 (pv 1) f6 (λ_ _=>rfl)) (λ_ _=>rfl)))
   (e9 (j9 (i:=3) nd rfl (Or.inl rfl) (p8 (e8 (i9 l6 (pv 1) f6 (λ_ _=>rfl)) (e8 (i9 l6 (pv 1) f6 (λ_ _=>rfl)) f7))))
   (e9 (j9 (i:=4) nd rfl (Or.inl rfl) (y6 (e8 f6 f7)))
   (e9 (E9 PassesOwn.never rfl (aJ2 (by rfl) b_enumerate (e8 (j7 (pv 0) rfl) f7)) (by refine J5 (i:=5) (j:=6) K ?_ ?_ ?_ ?_ ?_ ?_ ?_<;>first|rfl|assumption)
    (f8 (B8 (S3 (o8 aO2 (pv 5) (i9 l6 (pv 1) f6 (λ_ _=>rfl)) (t9 _)) (P9 (N3 (A0 D_comes_within hr (by rfl) (e8 (pv 2) (e8 (pv 6) (e8 (pv 3) (e8 (p8 (e8 f6 (e8 f6 f7))) f7)))))))).pt
     (f8 (C2 (M1 a7Q a8c a8d D2 (pv 4) (e8 (pv 5) f7))))
     v8)))
   (f8 (l8 (pv 4))))))),?_⟩
  have hn:=hB.len
  have z0:Wy 0:=⟨by decide,by decide⟩
  obtain⟨a,ha,hbd⟩:∃a,as[i]? =some a/\A9 K C H a (bodyAt bs i):=by
   have e:bs[i]? =some (bodyAt bs i):=by rw[A1 (a7u hi)];exact a7u hi
   obtain⟨a,ha,r⟩:=Paired.at2 hB.bd e
   exact⟨a,ha,r⟩
  have haV:(as.map V.ref)[i]? =some (.ref a):=by rw[a7t,ha];rfl
  refine⟨_,rfl,_,_,_,_,_,rfl,hw,wl,w3,f1,_,rfl,nl,_,_,_,rfl,rfl,hnl,rfl,l,_,_,_,rfl,rfl,n9.of hB.lst,z7 haV,?_⟩
  refine⟨_,rfl,nl,_,_,_,rfl,rfl,hnl,rfl,_,rfl,nl,_,_,_,rfl,rfl,hnl,rfl,by show 2<=sizeLine;decide,λwp G1 s1 n1 t1=> ?_⟩
  refine⟨by show 1<=sizeLine;decide,λrl G2 s2 n2 t2=> ?_⟩
  have s02:=s1.trans s2
  have hB2:=hB.same s02
  have lr:l≠rl:=j0 hB.lst (s1.free n2)
  have nr:∀{q:Addr} {xs:List V} {G:Hp},Kp rl G2 G->n9 K H q xs->n9 K G q xs:=λ{q xs G} kG hq=>by
   rcases hq with(h|⟨o',h⟩)|h
   ·exact .inl (.inl (kG _ _ (j0 h (s1.free n2)) (s02 _ _ h)))
   ·exact .inl (.inr ⟨o',kG _ _ (j0 h (s1.free n2)) (s02 _ _ h)⟩)
   ·exact .inr h
  refine⟨_,rfl,_,_,_,_,_,rfl,s02 _ _ hw,wl,w3,f1,l,_,rfl,n9.of hB2.lst,aT2 (K:=K) (a:=l) (xs:=as.map V.ref) (λj U G=>(∃u5 u6:Option V,U=[some (.ref wa),some (.ref nl),some (.ref a),some (.ref wp),some (.ref rl),u5,u6])/\Kp rl G2 G/\G rl=some (.lst ((0::(W7 bs i vx vy j).map Int.ofNat).map V.int)))
   ⟨⟨none,none,rfl⟩,λ_ _ _ e=>e,t2⟩ (λj U G _ ⟨_,h,_⟩=>n9.of (h _ _ lr hB2.lst)) ?_ ?_⟩
  ·rintro j v U G0 G TT hv ⟨⟨u5,u6,rfl⟩,kG0,hrl0⟩ sG nT hT
   obtain⟨a2,b2,rfl,ha2,hb2,hbd2⟩:=hB2.item hv
   have hj:j<bs.length:=(a7x.mp hb2).1
   have eb:bodyAt bs j=b2:=A1 hb2
   have kG:Kp rl G2 G:=λb o n e=>sG _ _ (kG0 _ _ n e)
   have hrl:=sG _ _ hrl0
   have hnlG:=nr kG hnl
   have sz:(1000:Nat)<=sizeLine:=by decide
   have hl1:((0::(W7 bs i vx vy j).map Int.ofNat).map V.int).length<sizeLine:=by
    rw[a7r,a7O,a7r]
    have:=a0m bs i vx vy j
    lia
   refine⟨TT,_,rfl,v7.of hT,rfl,_,_,rfl,_,_,rfl,rfl,?_⟩
   refine⟨_,rfl,_,rfl,nl,_,_,_,rfl,rfl,hnlG,rfl,rfl,_,rfl,?_⟩
   by_cases hji:j=i
   ·subst hji
    rw[show(!decide (V.int (j:Int)=V.int (j:Int)))=false by simp]
    refine D9 (D9 ?_)
    refine⟨⟨_,_,rfl⟩,kG,?_⟩
    rw[hrl,ae2,show(j !=j)=false by simp,a9H,if_neg (by decide),a72]
   ·rw[show(!decide (V.int (j:Int)=V.int (i:Int)))=true by simp;lia]
    refine B3 ?_
    refine⟨_,rfl,_,rfl,_,rfl,by show 2<=sizeLine;decide,λp2 G3 s3 n3 t3=> ?_⟩
    refine⟨a,a2,wp,p2,bodyAt bs i,b2,vx,vy,0,0,rfl,(Kp.body kG t2 (hbd.same s02)).same s3,(Kp.body kG t2 hbd2).same s3,f9.tup s3 (kG.tup t2 (v7.of (s2 _ _ t1))),v7.of t3,⟨gbs i hi,eb▸gbs j hj,wyx,wyy,z0,z0⟩,λG4 s4=>⟨_,rfl,?_⟩⟩
    have hrl4:=(s3.trans s4) _ _ hrl
    refine z8 (λc=> ?_) (λc=> ?_)
    ·refine⟨_,rfl,.inl ⟨rfl,_,n9.of hrl4⟩,_,rfl,rl,_,_,rfl,rfl,hrl4,hl1,λG5 k5 t5=> ?_⟩
     refine⟨⟨_,_,rfl⟩,λb o n e=>k5 _ _ n ((s3.trans s4) _ _ (kG _ _ n e)),?_⟩
     rw[t5,ae2,eb,c,show(j !=i)=true by simp[hji],a9m,if_pos rfl,a8m,←a9b,a8m]
     rfl
    ·refine⟨⟨_,_,rfl⟩,λb o n e=>(s3.trans s4) _ _ (kG _ _ n e),?_⟩
     have c':clashBy (bodyAt bs i) b2 ⟨vx,vy⟩ ⟨0,0⟩=false:=by simpa using c
     rw[hrl4,ae2,eb,c',a98,if_neg (by decide),a72]
  ·rintro U G ⟨⟨u5,u6,rfl⟩,kG,hrl⟩
   refine⟨_,rfl,k rl G (kG.same s02 (s1.free n2)) (s1.free n2) ?_⟩
   rw[a7r,hn]at hrl
   exact hrl
def aU4(K:Frag)(W:Addr):Sp:=λvs H Q _=>∃(wa dx l pq:Addr) (nv:V) (fs:List (Str×V)) (n t:Nat) (g:a8g) (ys:List V),vs=[.ref wa,nv]/\H wa=some (.ins W dx fs)/\fs.lookup ("bodies":Str)=some (V.ref l)/\fs.lookup ("pull":Str)=some (V.ref pq)/\fs.lookup ("parts":Str)=some (V.int (n:Int))/\fs.lookup ("ticks":Str)=some (V.int (t:Int))/\v7 K H pq [.int g.x,.int g.y]/\H l=some (.lst ys)/\Ans H Q [0,(n:Int),g.x,g.y,(ys.length:Int),(t:Int)]
theorem ae3:n8 ["world","numbers"] ["world","numbers"] (g9 W6):=⟨rfl,rfl,rfl,by decide+kernel,rfl,by decide+kernel,by decide+kernel⟩
theorem aB5{f:Addr}{fd:FuncData}(F:M3 K "call_totals" "call_totals" W6 f fd)(T:Txt K mg)(cW:X4 K W):A7 P w K mg base M2 1 f fd ["world","numbers"] (aU4 K W):=by
 refine F.ok ae3 (λvs H Q E h=> ?_) (λcdv A outer s H vs Q E hr h=> ?_)
 ·obtain⟨wa,dx,l,pq,nv,fs,n,t,g,ys,rfl,_⟩:=h
  rfl
 ·obtain⟨wa,dx,l,pq,nv,fs,n,t,g,ys,rfl,hw,f1,f2,f3,f4,tq,hl,k⟩:=h
  have nd:=ae3.nd
  obtain⟨wl,w1,w2,w3,w4,w5⟩:=cW
  refine⟨_,(f8 (l8 (y6 (e8 f6 (e8 (j7 (pv 0) rfl) (e8 (i9 j5 (j7 (pv 0) rfl) f6 (λ_ _=>rfl)) (e8 (i9 j5 (j7 (pv 0) rfl) f6 (λ_ _=>rfl)) (e8 (v6 A4 (by rfl) T.b_len PySem.boot_len (e8 (j7 (pv 0) rfl) f7)) (e8 (j7 (pv 0) rfl) f7))))))))),?_⟩
  refine⟨_,rfl,_,_,_,_,_,rfl,hw,wl,w1,f3,_,rfl,_,_,_,_,_,rfl,hw,wl,w2,f2,pq,_,_,_,rfl,rfl,tq,rfl,_,rfl,_,_,_,_,_,rfl,hw,wl,w2,f2,pq,_,_,_,rfl,rfl,tq,rfl,_,rfl,_,_,_,_,_,rfl,hw,wl,w3,f1,l,_,rfl,.inl (n9.of hl),_,rfl,_,_,_,_,_,rfl,hw,wl,w4,f4,by show 6<=sizeLine;decide,λp G s n t=>k p G s n t⟩
def a3z(K:Frag)(C W:Addr):Sp:=λvs H Q _=>∃(wa dx l nl:Addr) (fs:List (Str×V)) (as:List Addr) (bs:List a7s) (i:Nat),vs=[.ref wa,.ref nl]/\H wa=some (.ins W dx fs)/\fs.length<900/\fs.lookup ("bodies":Str)=some (V.ref l)/\m8 K C H l as bs/\wa∉as/\n9 K H nl [.int (i:Int)]/\i<bs.length/\
 ∀ml G,(∀b o,b≠wa->b≠l->H b=some o->G b=some o)->H ml=none->G wa=some (.ins W dx (B2 "met" (.ref ml) fs))->m8 K C G l (as.eraseIdx i) (bs.eraseIdx i)->G ml=some (.lst [])->Ans G Q [0]
theorem am3:n8 ["world","numbers"] ["world","numbers"] (g9 ae1):=⟨rfl,rfl,rfl,by decide+kernel,rfl,by decide+kernel,by decide+kernel⟩
theorem Paired.monoM{α β:Type}{F G:α->β->Prop}:∀{l:List α} {m:List β},(∀a b,a∈l->F a b->G a b)->Paired F l m->Paired G l m
 |_,_,_,.nil=> .nil
 |_,_,h,.cons r t=> .cons (h _ _ a7C r) (Paired.monoM (λa b m=>h a b (a7B _ m)) t)
theorem Paired.erase{α β:Type}{F:α->β->Prop}:∀{l:List α} {m:List β} (k:Nat),Paired F l m->Paired F (l.eraseIdx k) (m.eraseIdx k)
 |_,_,_,.nil=> .nil
 |_,_,0,.cons _ t=>t
 |_,_,k+1,.cons r t=> .cons r (Paired.erase k t)
theorem aH8{α β:Type}(f:α->β):∀(l:List α) (k:Nat),(l.map f).eraseIdx k=(l.eraseIdx k).map f
 |[],_=>rfl
 |_::_,0=>rfl
 |a::l,k+1=>by rw[a7U,List.eraseIdx_cons_succ,List.eraseIdx_cons_succ,a7U,aH8 f l k]
theorem aN1{f:Addr}{fd:FuncData}(F:M3 K "call_drop" "call_drop" ae1 f fd)(cW:X4 K W):A7 P w K mg base M2 1 f fd ["world","numbers"] (a3z K C W):=by
 refine F.ok am3 (λvs H Q E h=> ?_) (λcdv A outer s H vs Q E hr h=> ?_)
 ·obtain⟨wa,dx,l,nl,fs,as,bs,i,rfl,_⟩:=h
  rfl
 ·obtain⟨wa,dx,l,nl,fs,as,bs,i,rfl,hw,fl,f1,hB,nw,hnl,hi,k⟩:=h
  have nd:=am3.nd
  obtain⟨wl,-,-,w3,-,w5⟩:=cW
  refine⟨_,(e9 (C2 (M1 a7Q PySem.F.slot_list_pop PySem.F.type_list_pop a4r (j7 (pv 0) rfl) (e8 (i9 l6 (pv 1) f6 (λ_ _=>rfl)) f7)))
   (e9 (F1 (pv 0) (y6 f7) rfl)
   (f8 (l8 (y6 (e8 f6 f7)))))),?_⟩
  have hn:=hB.len
  obtain⟨a,ha⟩:∃a,as[i]? =some a:=⟨_,a7u (by lia)⟩
  refine⟨_,rfl,_,_,_,_,_,rfl,hw,wl,w3,f1,.inl ⟨rfl,_,n9.of hB.lst⟩,_,rfl,nl,_,_,_,rfl,rfl,hnl,rfl,l,_,i,.ref a,rfl,rfl,hB.lst,by rw[a7t,ha];rfl,λG1 k1 t1=> ?_⟩
  have hw1:=k1 _ _ (B7 hw hB.lst (by intro z;cases z)) hw
  refine⟨by show 0<=sizeLine;decide,λml G2 s2 n2 t2=> ?_⟩
  have hw2:=s2 _ _ hw1
  refine⟨_,rfl,wa,W,dx,_,rfl,hw2,wl,w5,by lia,?_⟩
  have lw:l≠wa:=B7 hB.lst hw (by intro z;cases z)
  have hml:H ml=none:=by
   cases q:H ml with
   |none=>rfl
   |some o=>
    by_cases e:ml=l
    ·rw[e,t1]at n2;cases n2
    ·rw[k1 _ _ e q]at n2;cases n2
  refine⟨by show 1<=sizeLine;decide,k ml _ (λb o m1 m2 e=>by rw[j6 m1];exact s2 _ _ (k1 _ _ m2 e)) hml i8 ⟨?_,List.Nodup.sublist (List.eraseIdx_sublist as i) hB.nd,?_⟩ ?_⟩
  ·rw[j6 lw,←aH8];exact s2 _ _ t1
  ·refine Paired.erase i (Paired.monoM (λa' b' m r=> ?_) hB.bd)
   exact aG9 hw2 (λz=>nw (z▸m)) ((Kp.body k1 hB.lst r).same s2)
  ·rw[j6 (B7 t2 hw2 (by intro z;cases z))];exact t2
end
abbrev M6:Stmt:=O7 69
def a7n(K:Frag):R2:=λx y H Q=>∃(a b:Addr) (ns ms:List Int),x= .ref a/\y= .ref b/\n9 K H a (ns.map V.int)/\n9 K H b (ms.map V.int)/\Q (.bl (!decide (ns=ms))) H
theorem a5Y{X:Cx}(hu:X.A.units+64<cLine):OpR X (compareOp .NotEq) (a7n X.K):=by
 intro a7q s U H x y v u Q I rx ry h
 obtain⟨a,b,ns,ms,rfl,rfl,ha,hb,q⟩:=h
 cases rx
 cases ry
 obtain⟨its,r,pl,hz⟩:=I.list ha
 obtain⟨its2,r2,pl2,hz2⟩:=I.list hb
 exact PySem.W.ne_intsK pl.isList (av5 r) pl2.isList (av5 r2) hu ⟨.bl (!decide (ns=ms)),H,I,rfl,q⟩
theorem as6:∀{r l:List Int},r.Nodup->(∀a∈r,a∈l)->l.length=r.length->l.Perm r
 |[],l,_,_,h=>by rw[a8C h]
 |a::r,l,nd,sub,h=>by
  have ha:a∈l:=sub a a7C
  have p:=List.perm_cons_erase ha
  have nd':=a8J.mp nd
  refine p.trans (List.Perm.cons a (as6 nd'.2 (λb hb=> ?_) ?_))
  ·have hne:b≠a:=λe=>nd'.1 (e▸hb)
   exact(List.mem_erase_of_ne hne).mpr (sub b (a7B _ hb))
  ·rw[List.length_erase_of_mem ha,h]
   rfl
theorem aH9:∀{l m:List Int},l.Pairwise (·<=·)->m.Pairwise (·<=·)->l.Perm m->l=m
 |[],m,_,_,p=>by rw[List.nil_perm.mp p]
 |a::l,[],_,_,p=>absurd (List.perm_nil.mp p) (by simp)
 |a::l,b::m,hl,hm,p=>by
  have h1:=a8p.mp hl
  have h2:=a8p.mp hm
  have e:a=b:=by
   have ha:a∈b::m:=p.subset a7C
   have hb:b∈a::l:=p.symm.subset a7C
   rcases a7D.mp ha with e|ha
   ·exact e
   ·rcases a7D.mp hb with e|hb
    ·exact e.symm
    ·exact Int.le_antisymm (h1.1 b hb) (h2.1 a ha)
  subst e
  rw[aH9 h1.2 h2.2 (List.Perm.cons_inv p)]
def ae4(n:Nat):List Int:=(a7J n).map λ(i:Nat)=>(i:Int)
theorem aB6(n:Nat):(ae4 n).Nodup:=by
 unfold ae4
 refine List.Pairwise.map _ (λa b h=> ?_) List.nodup_range
 intro e
 exact h (by lia)
theorem aU5(n:Nat):(ae4 n).Pairwise (·<=·):=by
 unfold ae4
 refine List.Pairwise.map _ (λa b h=> ?_) List.pairwise_lt_range
 lia
theorem Z9{n:Nat}{l:List Int}:isOrder n l=true↔l.Perm (ae4 n):=by
 unfold isOrder
 rw[a7z,all_eq_true]
 constructor
 ·rintro⟨h1,h2⟩
  have h1:l.length=n:=by simpa using h1
  refine as6 (aB6 n) (λa ha=> ?_) ?_
  ·unfold ae4 at ha
   obtain⟨i,hi,rfl⟩:=a8j.mp ha
   exact List.contains_iff_mem.mp (h2 i hi)
  ·unfold ae4
   rw[a7r,a70,h1]
 ·intro p
  refine⟨?_,λi hi=> ?_⟩
  ·have:=p.length_eq
   unfold ae4 at this
   rw[a7r,a70]at this
   simpa using this
  ·refine List.contains_iff_mem.mpr (p.symm.subset ?_)
   unfold ae4
   exact a8j.mpr ⟨i,hi,rfl⟩
theorem a3A{n:Nat}{l l':List Int}(p:l'.Perm l)(s:l'.Pairwise (·<=·)):decide (l'=ae4 n)=isOrder n l:=by
 refine a7W.mpr ?_
 rw[decide_eq_true_eq,Z9]
 constructor
 ·intro e
  rw[←e]
  exact p.symm
 ·intro q
  exact aH9 s (aU5 n) (p.trans q)
theorem T8{n:Nat}{l:List Int}(h:isOrder n l=true){z:Int}(m:z∈l):∃i:Nat,z=(i:Int)/\i<n:=by
 have:=(Z9.mp h).subset m
 unfold ae4 at this
 obtain⟨i,hi,rfl⟩:=a8j.mp this
 exact⟨i,rfl,a8G.mp hi⟩
theorem a2b{α:Type}(l:List α)(d:α):(ae4 l.length).map (λz=>l.getD z.toNat d)=l:=by
 unfold ae4
 rw[a8s]
 refine ext_getElem? λi=> ?_
 rw[a7t]
 by_cases h:i<l.length
 ·rw[aH6 h]
  show some (l.getD ((i:Int)).toNat d)=_
  rw[a9W,a7y,a7u h]
  rfl
 ·rw[a8y (by rw[a70];lia),a8y (by lia)]
  rfl
theorem aU6{α:Type}{as:List α}{d:α}{l:List Int}(h:isOrder as.length l=true)(nd:as.Nodup):(l.map λz=>as.getD z.toNat d).Nodup:=by
 have p:=(Z9.mp h).map λz=>as.getD z.toNat d
 rw[a2b]at p
 exact p.nodup_iff.mpr nd
section
variable{P:Program}{w:World}{K:Frag}{mg:Str->Option Value}{base:Heap}{C W:Addr}
def a1j(K:Frag)(C W:Addr):Sp:=λvs H Q _=>∃(wa dx l nl:Addr) (fs:List (Str×V)) (as:List Addr) (bs:List a7s) (m:Int) (ns:List Int),vs=[.ref wa,.ref nl]/\H wa=some (.ins W dx fs)/\fs.length<900/\fs.lookup ("bodies":Str)=some (V.ref l)/\m8 K C H l as bs/\wa∉as/\bs.length<=20/\n9 K H nl ((m::ns).map V.int)/\ns.length<=30/\
 (isOrder bs.length ns=false->∀G,f9 H G->Ans G Q [-5])/\(isOrder bs.length ns=true->∀l' ml G,Kp wa H G->H l'=none->H ml=none->l'≠ml->G wa=some (.ins W dx (B2 "met" (.ref ml) (B2 "bodies" (.ref l') fs)))->m8 K C G l' (ns.map λz=>as.getD z.toNat 0) (ns.map λz=>bodyAt bs z.toNat)->G ml=some (.lst [])->Ans G Q [0])
theorem X7:n8 ["world","numbers","order","number"] ["world","numbers"] (g9 M6):=⟨rfl,rfl,rfl,by decide+kernel,rfl,by decide+kernel,by decide+kernel⟩
theorem ap4{f:Addr}{fd:FuncData}(F:M3 K "call_renumber" "call_renumber" M6 f fd)(T:Txt K mg)(cW:X4 K W)(b_sorted:mg "sorted"=none)(b_list:mg "list"=none)(b_range:mg "range"=none)(c_NOT_ALL:∃t,mg "NOT_ALL"=some (.int (-5) t)):A7 P w K mg base M2 1 f fd ["world","numbers"] (a1j K C W):=by
 refine F.ok X7 (λvs H Q E h=> ?_) (λcdv A outer s H vs Q E hr h=> ?_)
 ·obtain⟨wa,dx,l,nl,fs,as,bs,m,ns,rfl,_⟩:=h
  rfl
 ·obtain⟨wa,dx,l,nl,fs,as,bs,m,ns,rfl,hw,fl,f1,hB,nw,h20,hnl,h30,k1,k2⟩:=h
  have nd:=X7.nd
  obtain⟨wl,-,-,w3,-,w5⟩:=cW
  refine⟨_,(e9 (j9 (i:=2) nd rfl (Or.inl rfl) (aO7 aT4 (pv 1) (aI6 f6) a3Z))
   (e9 (B8 (o8 (a5Y hr.units) (v6 a1F (by rfl) b_sorted boot_sorted (e8 (pv 2) f7)) (L6 (ax1 rfl) (by rfl) b_list PyProof.Rows.boot_list (e8 (L6 ar5 (by rfl) b_range boot_range (e8 (v6 A4 (by rfl) T.b_len PySem.boot_len (e8 (j7 (pv 0) rfl) f7)) f7)) f7)) (t9 _))
    (f8 (l8 (y6 (e8 (B5 c_NOT_ALL (by rfl)) f7))))
    v8)
   (e9 (F1 (pv 0) (R0 (own:=[("number",3)]) rfl nd (A3 (pv 2)) (by show E5 ["world","numbers","order","number"] (g9 M6) _ _;exact⟨rfl,by decide+kernel,by decide+kernel,by decide+kernel,by decide+kernel⟩)
    (λ_ _ _ _ _=>by exact z9 (i:=3) nd (by rfl) (by exact Or.inl rfl) (by exact Or.inr rfl))
    (λ_ _ _ _ _=>by exact D8)
    (λ_ _ _ _ _=>by exact(Q2 K rfl (Y6 K rfl (pv 0) rfl) (pv 3) (λ_ _=>rfl)))) rfl)
   (e9 (F1 (pv 0) (y6 f7) rfl)
   (f8 (l8 (y6 (e8 f6 f7)))))))),?_⟩
  have hn:=hB.len
  refine⟨_,rfl,_,rfl,nl,_,rfl,hnl,λol G1 s1 n1 t1=> ?_⟩
  have ecut:aC1 ((m::ns).map V.int) (some 1) none=ns.map V.int:=by
   unfold aC1
   rw[HT.sIx_none,show HT.sIx ((m::ns).map V.int).length 0 (some 1)=min 1 ((m::ns).map V.int).length from HT.sIx_nat _ _ 1,a7r,a7O,Nat.min_eq_left (by lia),a7U,List.drop_succ_cons,List.drop_zero]
   exact a9Z (by rw[a7r];lia)
  have t1:G1 ol=some (.lst (ns.map V.int)):=by rw[t1];exact congrArg (λz=>some (HO.lst z)) ecut
  refine⟨_,rfl,ol,ns,rfl,n9.of t1,by lia,λns' sl hperm hsort nsl=> ?_⟩
  have s2:f9 G1 (A6 G1 sl (.lst (ns'.map V.int))):=f9.new nsl
  have t2:A6 G1 sl (.lst (ns'.map V.int)) sl=some (.lst (ns'.map V.int)):=i8
  generalize A6 G1 sl (.lst (ns'.map V.int))=G2 at*
  have s02:=s1.trans s2
  refine⟨_,rfl,_,_,_,_,_,rfl,s02 _ _ hw,wl,w3,f1,l,_,rfl,.inl (n9.of (s02 _ _ hB.lst)),_,rfl,λrg G3 s3 n3 t3=> ?_⟩
  refine⟨rg,bs.length,rfl,by rw[t3,a7r,hn],by lia,λrl G4 s4 n4 t4=> ?_⟩
  have t2':=(s3.trans s4) _ _ t2
  have e4:((a7J bs.length).map λi:Nat=>V.int (i:Int))=(ae4 bs.length).map V.int:=by unfold ae4;rw[a8s];rfl
  refine⟨sl,rl,ns',ae4 bs.length,rfl,rfl,n9.of t2',n9.of (by rw[t4,e4]),_,rfl,?_⟩
  rw[a3A hperm hsort]
  have s04:=s02.trans (s3.trans s4)
  refine z8 (λc=> ?_) (λc=> ?_)
  ·refine⟨by show 1<=sizeLine;decide,k1 (by simpa using c) G4 s04⟩
  ·have c':isOrder bs.length ns=true:=by simpa using c
   have hB4:=hB.same s04
   have hw4:=s04 _ _ hw
   have hol:=(s2.trans (s3.trans s4)) _ _ t1
   refine⟨_,rfl,ol,rfl,⟨_,n9.of hol⟩,λl' nl'=> ?_⟩
   refine lcL nl' (n9.of hol) (ys:=(ns.map λz=>V.ref (as.getD z.toNat 0)).map some) (by rw[a7r,a7r,a7r]) (by rw[a7r,a7r];exact a7G h30 (by decide)) (λj y o H' hy ho sH=> ?_) (λG5 s5 hb=> ?_)
   ·intro Rt Rv _ hR
    rw[a7t]at hy
    cases e:ns[j]? with
    |none=>rw[e]at hy;cases hy
    |some z=>
     rw[e]at hy
     have hy:V.int z=y:=a7v hy
     subst hy
     obtain⟨i,rfl,hi⟩:=T8 c' (a7F e)
     rw[a7t,a7t,e]at ho
     have hiA:i<as.length:=by lia
     have haV:(as.map V.ref)[i]? =some (.ref (as.getD i 0)):=by
      rw[a7t,a7y,a7u hiA]
      rfl
     refine⟨rfl,B3 (B:=Rt H') ?_⟩
     exact⟨_,rfl,_,_,_,_,_,rfl,sH _ _ hw4,wl,w3,f1,_,rfl,l,_,_,_,rfl,rfl,n9.of (sH _ _ hB4.lst),z7 haV,hR _ (a7v ho).symm H' (f9.refl _)⟩
   ·rw[show((ns.map λz=>V.ref (as.getD z.toNat 0)).map some).filterMap id=(ns.map λz=>as.getD z.toNat 0).map V.ref by rw[a8s,a71,a8s];simp[Function.comp_def]]at hb
    have hw5:=s5 _ _ hw4
    refine⟨_,rfl,wa,W,dx,_,rfl,hw5,wl,w3,by lia,?_⟩
    have k6:Kp wa G5 (A6 G5 wa (.ins W dx (B2 "bodies" (.ref l') fs))):=λb o n e=>by rw[j6 n];exact e
    have g6:A6 G5 wa (.ins W dx (B2 "bodies" (.ref l') fs)) wa=some (.ins W dx (B2 "bodies" (.ref l') fs)):=i8
    have hB5:=Y8 (o:= .ins W dx (B2 "bodies" (.ref l') fs)) hw5 nw (hB4.same s5)
    have hb6:A6 G5 wa (.ins W dx (B2 "bodies" (.ref l') fs)) l'=some (.lst ((ns.map λz=>as.getD z.toNat 0).map V.ref)):=by rw[j6 (B7 hb hw5 (by intro z;cases z))];exact hb
    generalize A6 G5 wa (.ins W dx (B2 "bodies" (.ref l') fs))=G6 at*
    refine⟨by show 0<=sizeLine;decide,λml G7 s7 n7 t7=> ?_⟩
    have g7:=s7 _ _ g6
    refine⟨_,rfl,wa,W,dx,_,rfl,g7,wl,w5,by have:=ak6 "bodies" (.ref l') fs;lia,?_⟩
    have hml5:G5 ml=none:=by
     cases q:G5 ml with
     |none=>rfl
     |some o=>
      by_cases e:ml=wa
      ·rw[e,g6]at n7;cases n7
      ·rw[k6 _ _ e q]at n7;cases n7
    have s05:=s04.trans s5
    have hw0:l'≠wa:=B7 hb hw5 (by intro z;cases z)
    have hnew:m8 K C G7 l' (ns.map λz=>as.getD z.toNat 0) (ns.map λz=>bodyAt bs z.toNat):=by
     refine⟨s7 _ _ hb6,aU6 (by rw[hn];exact c') hB.nd,?_⟩
     have hB7:=hB5.same s7
     refine R9 (by rw[a7r,a7r]) λj a ha=> ?_
     rw[a7t]at ha
     cases e:ns[j]? with
     |none=>rw[e]at ha;cases ha
     |some z=>
      rw[e]at ha
      obtain⟨i,rfl,hi⟩:=T8 c' (a7F e)
      have ha:as.getD i 0=a:=a7v ha
      have hiA:i<as.length:=by lia
      have e1:as[i]? =some a:=by rw[←ha,a7y,a7u hiA];rfl
      obtain⟨b,hb',r⟩:=Paired.at_ hB7.bd e1
      have e2:bodyAt (ns.map λz=>bodyAt bs z.toNat) j=b:=by
       have:(ns.map λz=>bodyAt bs z.toNat)[j]? =some (bodyAt bs i):=by rw[a7t,e];rfl
       rw[A1 this,A1 hb']
      rw[e2]
      exact r
    refine⟨by show 1<=sizeLine;decide,k2 c' l' ml _ (λb o n e=> ?_) (s04.free nl') (s05.free hml5) (j0 hb6 n7) i8 (Y8 g7 (λmm=> ?_) hnew) ?_⟩
    ·rw[j6 n]
     exact s7 _ _ (k6 _ _ n (s05 _ _ e))
    ·obtain⟨z,hz,e⟩:=a8j.mp mm
     obtain⟨i,rfl,hi⟩:=T8 c' hz
     have hiA:i<as.length:=by lia
     refine nw (e▸?_)
     show as.getD i 0∈as
     rw[a7y,a7u hiA]
     exact List.getElem_mem hiA
    ·rw[j6 (B7 t7 g7 (by intro z;cases z))]
     exact t7
end
abbrev N2:Stmt:=O7 70
abbrev ai7:Stmt:=O7 67
abbrev aa0:Stmt:=O7 72
def vxs(bs:List a7s):List Int:=bs.map λb=>b.v.x
def vys(bs:List a7s):List Int:=bs.map λb=>b.v.y
def a3B(h:Mb.Hit):List Int:=[(h.1:Int),(Vbwsam.thousandths h.2:Int)]
def a3C(h:Mb.Hit):List Int:=[(h.1:Int),h.2.a,h.2.b,h.2.d]
theorem aB7{α:Type}(f:α->List Int)(k:Nat)(h:∀a,(f a).length=k):∀l:List α,(l.flatMap f).length=k*l.length
 |[]=>by simp
 |a::r=>by rw[a9l,a7M,aB7 f k h r,h a,a7O,Nat.mul_succ,Nat.add_comm]
section
variable{P:Program}{w:World}{K:Frag}{mg:Str->Option Value}{base:Heap}{C W:Addr}
def a3D(K:Frag)(C W:Addr):Sp:=λvs H Q _=>∃(wa dx l:Addr) (nv:V) (fs:List (Str×V)) (as:List Addr) (bs:List a7s),vs=[.ref wa,nv]/\H wa=some (.ins W dx fs)/\fs.lookup ("bodies":Str)=some (V.ref l)/\m8 K C H l as bs/\bs.length<=20/\(∀b∈bs,Sm b.v.x/\Sm b.v.y)/\
 Ans H Q [0,(vxs bs).sum,(vys bs).sum,((vxs bs++vys bs).map λn=>n*n).sum]
theorem am4:n8 ["world","numbers","in_x","in_y","body","speed"] ["world","numbers"] (g9 N2):=⟨rfl,rfl,rfl,by decide+kernel,rfl,by decide+kernel,by decide+kernel⟩
theorem aN2{f:Addr}{fd:FuncData}(F:M3 K "call_sums" "call_sums" N2 f fd)(cB:ab9 K C)(cW:X4 K W)(b_sum:mg "sum"=none):A7 P w K mg base M2 1 f fd ["world","numbers"] (a3D K C W):=by
 refine F.ok am4 (λvs H Q E h=> ?_) (λcdv A outer s H vs Q E hr h=> ?_)
 ·obtain⟨wa,dx,l,nv,fs,as,bs,rfl,_⟩:=h
  rfl
 ·obtain⟨wa,dx,l,nv,fs,as,bs,rfl,hw,f1,hB,h20,hsm,k⟩:=h
  have nd:=am4.nd
  obtain⟨wl,-,-,w3,-,-⟩:=cW
  obtain⟨cl,-,-,-,-,-,-,c7⟩:=cB
  refine⟨_,(e9 (L3 (i:=2) rfl nd rfl rfl rfl (own:=[("body",4)]) (A3 (j7 (pv 0) rfl)) (by show E5 ["world","numbers","in_x","in_y","body","speed"] (g9 N2) _ _;exact⟨rfl,by decide+kernel,by decide+kernel,by decide+kernel,by decide+kernel⟩)
   (λ_ _ _ _ _=>by exact z9 (i:=4) nd (by rfl) (by exact Or.inl rfl) (by exact Or.inr rfl))
   (λ_ _ _ _ _=>by exact D8)
   (λ_ _ _ _ _=>by exact(U5 K rfl (Y6 K rfl (pv 4) rfl) f6 (λ_ _=>rfl))))
   (e9 (L3 (i:=3) rfl nd rfl rfl rfl (own:=[("body",4)]) (A3 (j7 (pv 0) rfl)) (by show E5 ["world","numbers","in_x","in_y","body","speed"] (g9 N2) _ _;exact⟨rfl,by decide+kernel,by decide+kernel,by decide+kernel,by decide+kernel⟩)
    (λ_ _ _ _ _=>by exact z9 (i:=4) nd (by rfl) (by exact Or.inl rfl) (by exact Or.inr rfl))
    (λ_ _ _ _ _=>by exact D8)
    (λ_ _ _ _ _=>by exact(U5 K rfl (Y6 K rfl (pv 4) rfl) f6 (λ_ _=>rfl))))
   (f8 (l8 (y6 (e8 f6 (e8 (v6 (aW3 rfl) (by rfl) b_sum boot_sum (e8 (pv 2) f7)) (e8 (v6 (aW3 rfl) (by rfl) b_sum boot_sum (e8 (pv 3) f7)) (e8 (v6 (aW3 rfl) (by rfl) b_sum boot_sum (e8 (R0 (own:=[("speed",5)]) rfl nd (A3 (m9 a1b (pv 2) (pv 3))) (by show E5 ["world","numbers","in_x","in_y","body","speed"] (g9 N2) _ _;exact⟨rfl,by decide+kernel,by decide+kernel,by decide+kernel,by decide+kernel⟩)
    (λ_ _ _ _ _=>by exact z9 (i:=5) nd (by rfl) (by exact Or.inl rfl) (by exact Or.inr rfl))
    (λ_ _ _ _ _=>by exact D8)
    (λ_ _ _ _ _=>by exact(m9 M7 (pv 5) (pv 5)))) f7)) f7))))))))),?_⟩
  have hn:=hB.len
  have sz:(1000:Nat)<=sizeLine:=by decide
  refine⟨_,rfl,_,_,_,_,_,rfl,hw,wl,w3,f1,l,rfl,⟨_,n9.of hB.lst⟩,λxl nxl=> ?_⟩
  refine lcL nxl (n9.of hB.lst) (ys:=((vxs bs).map V.int).map some) (by unfold vxs;rw[a7r,a7r,a7r,a7r,hn]) (by unfold vxs;rw[a7r,a7r,a7r];lia) (λi y o H' hv ho sH=> ?_) (λG1 s1 t1=> ?_)
  ·intro Rt Rv _ hR
   obtain⟨a,b,rfl,ha,hb,hbd⟩:=hB.item hv
   obtain⟨dxb,hai,pai,vai,i1,i2,i3,i4⟩:=(hbd.same sH).ex
   unfold vxs at ho
   rw[a7t,a7t,a7t,hb]at ho
   refine⟨rfl,B3 (B:=Rt H') ?_⟩
   exact⟨_,rfl,_,_,_,_,_,rfl,i1,cl,c7,rfl,vai,_,_,_,rfl,rfl,i4,rfl,hR _ (a7v ho).symm H' (f9.refl _)⟩
  rw[show(((vxs bs).map V.int).map some).filterMap id=(vxs bs).map V.int by simp[a71]]at t1
  have hB1:=hB.same s1
  refine⟨_,rfl,_,_,_,_,_,rfl,s1 _ _ hw,wl,w3,f1,l,rfl,⟨_,n9.of hB1.lst⟩,λyl nyl=> ?_⟩
  refine lcL nyl (n9.of hB1.lst) (ys:=((vys bs).map V.int).map some) (by unfold vys;rw[a7r,a7r,a7r,a7r,hn]) (by unfold vys;rw[a7r,a7r,a7r];lia) (λi y o H' hv ho sH=> ?_) (λG2 s2 t2=> ?_)
  ·intro Rt Rv _ hR
   obtain⟨a,b,rfl,ha,hb,hbd⟩:=hB1.item hv
   obtain⟨dxb,hai,pai,vai,i1,i2,i3,i4⟩:=(hbd.same sH).ex
   unfold vys at ho
   rw[a7t,a7t,a7t,hb]at ho
   refine⟨rfl,B3 (B:=Rt H') ?_⟩
   exact⟨_,rfl,_,_,_,_,_,rfl,i1,cl,c7,rfl,vai,_,_,_,rfl,rfl,i4,rfl,hR _ (a7v ho).symm H' (f9.refl _)⟩
  rw[show(((vys bs).map V.int).map some).filterMap id=(vys bs).map V.int by simp[a71]]at t2
  have t1':=s2 _ _ t1
  refine⟨_,rfl,xl,vxs bs,rfl,n9.of t1',_,rfl,yl,vys bs,rfl,n9.of t2,_,rfl,_,rfl,xl,yl,_,_,rfl,rfl,t1',t2,?_,λcl' G3 s3 n3 t3=>⟨cl',rfl,⟨_,n9.of t3⟩,λal nal=> ?_⟩⟩
  ·unfold vxs vys
   rw[a7r,a7r,a7r,a7r]
   lia
  have e3:(vxs bs).map V.int++(vys bs).map V.int=(vxs bs++vys bs).map V.int:=(a8m).symm
  rw[e3]at t3
  refine lcL nal (xs:=(vxs bs++vys bs).map V.int) (n9.of t3) (ys:=(((vxs bs++vys bs).map λn=>n*n).map V.int).map some) (by rw[a7r,a7r,a7r,a7r]) (by unfold vxs vys;rw[a7r,a7r,a7r,a7M,a7r,a7r];lia) (λi y o H' hv ho sH=> ?_) (λG4 s4 t4=> ?_)
  ·intro Rt Rv _ hR
   rw[a7t]at hv
   cases e:(vxs bs++vys bs)[i]? with
   |none=>rw[e]at hv;cases hv
   |some z=>
    rw[e]at hv
    have hv:V.int z=y:=a7v hv
    subst hv
    have hz:Sm z:=by
     rcases a77.mp (a7F e)with m|m
     ·obtain⟨b,hb,rfl⟩:=a8j.mp m
      exact(hsm b hb).1
     ·obtain⟨b,hb,rfl⟩:=a8j.mp m
      exact(hsm b hb).2
    rw[a7t,a7t,a7t,e]at ho
    refine⟨rfl,B3 (B:=Rt H') ?_⟩
    exact⟨_,rfl,_,rfl,_,_,rfl,rfl,hz.l,hR _ (a7v ho).symm H' (f9.refl _)⟩
  rw[show((((vxs bs++vys bs).map λn=>n*n).map V.int).map some).filterMap id=((vxs bs++vys bs).map λn=>n*n).map V.int by simp[a71]]at t4
  refine⟨al,_,rfl,n9.of t4,by show 4<=sizeLine;decide,λp G s n t=> ?_⟩
  have sA:=s1.trans (s2.trans (s3.trans s4))
  exact k p G (sA.trans s) (sA.free n) t
def aU7(K:Frag)(C W:Addr)(f:Mb.Hit->List Int):Sp:=λvs H Q _=>∃(wa dx l nl:Addr) (fs:List (Str×V)) (as:List Addr) (bs:List a7s) (x y wx wy:Int),vs=[.ref wa,.ref nl]/\H wa=some (.ins W dx fs)/\fs.lookup ("bodies":Str)=some (V.ref l)/\m8 K C H l as bs/\bs.length<=20/\(∀i,i<bs.length->Gd (bodyAt bs i))/\n9 K H nl [.int x,.int y,.int wx,.int wy]/\Ln x y wx wy/\
 Ans H Q (0::(a9k bs ⟨x,y⟩ ⟨wx,wy⟩).flatMap f)
theorem as7:n8 ["world","numbers","answer","number","time"] ["world","numbers"] (g9 ai7):=⟨rfl,rfl,rfl,by decide+kernel,rfl,by decide+kernel,by decide+kernel⟩
theorem aU8{f:Addr}{fd:FuncData}(F:M3 K "call_ray" "call_ray" ai7 f fd)(cW:X4 K W)(b_tuple:mg "tuple"=none)(D_find_hits:Df P w K mg base "find_hits" 8 ["bodies","line"] (aM5 K C))(D_thousandths_of:Df P w K mg base "thousandths_of" 8 ["time"] (a0i K)):A7 P w K mg base M2 9 f fd ["world","numbers"] (aU7 K C W a3B):=by
 refine F.ok as7 (λvs H Q E h=> ?_) (λcdv A outer s H vs Q E hr h=> ?_)
 ·obtain⟨wa,dx,l,nl,fs,as,bs,x,y,wx,wy,rfl,_⟩:=h
  rfl
 ·obtain⟨wa,dx,l,nl,fs,as,bs,x,y,wx,wy,rfl,hw,f1,hB,h20,gbs,hnl,ln,k⟩:=h
  have nd:=as7.nd
  obtain⟨wl,-,-,w3,-,-⟩:=cW
  refine⟨_,(e9 (j9 (i:=2) nd rfl (Or.inl rfl) (y6 (e8 f6 f7)))
   (e9 (E9 PassesOwn.never rfl (A3 (A0 D_find_hits hr (by rfl) (e8 (j7 (pv 0) rfl) (e8 (L6 aH3 (by rfl) b_tuple PyProof.Rows.boot_tuple (e8 (pv 1) f7)) f7)))) (by refine J5 (i:=3) (j:=4) K ?_ ?_ ?_ ?_ ?_ ?_ ?_<;>first|rfl|assumption)
    (e9 (C2 (M1 a7Q a8c a8d D2 (pv 2) (e8 (pv 3) f7)))
    (f8 (C2 (M1 a7Q a8c a8d D2 (pv 2) (e8 (A0 D_thousandths_of hr (by rfl) (e8 (pv 4) f7)) f7))))))
   (f8 (l8 (pv 2))))),?_⟩
  have sz:(1000:Nat)<=sizeLine:=by decide
  refine⟨by show 1<=sizeLine;decide,λrl G1 s1 n1 t1=> ?_⟩
  refine⟨_,rfl,_,_,_,_,_,rfl,s1 _ _ hw,wl,w3,f1,_,rfl,nl,_,rfl,s1.seq hnl,λtp G2 s2 n2 t2=> ?_⟩
  have s02:=s1.trans s2
  refine⟨l,tp,as,bs,x,y,wx,wy,rfl,hB.same s02,h20,gbs,v7.of t2,ln,λhl G3 s3 n3 hH=> ?_⟩
  have tr3:=(s2.trans s3) _ _ t1
  have hlr:hl≠rl:=λz=>by rw[z,s2 _ _ t1]at n3;cases n3
  obtain⟨ys,hh,hP⟩:=hH
  have hR20:(a9k bs ⟨x,y⟩ ⟨wx,wy⟩).length<=20:=by
   rw[←aM4]
   exact a7G (af8 bs _ _ _) h20
  refine⟨hl,rfl,⟨_,n9.of hh⟩,L1 (K:=K) (a:=hl) (xs:=ys) (λi U G=>(∃u3 u4:Option V,U=[some (.ref wa),some (.ref nl),some (.ref rl),u3,u4])/\Kp rl G3 G/\G rl=some (.lst ((0::((a9k bs ⟨x,y⟩ ⟨wx,wy⟩).take i).flatMap a3B).map V.int)))
   ⟨⟨none,none,rfl⟩,λ_ _ _ e=>e,tr3⟩ (λi U G _ ⟨_,h,_⟩=>n9.of (h _ _ hlr hh)) ?_ ?_⟩
  ·rintro i v U G hv ⟨⟨u3,u4,rfl⟩,kG,hrl⟩
   obtain⟨h',hm,q,t,rfl,hq1,hq2⟩:=Paired.at2 hP hv
   have hi:i<(a9k bs ⟨x,y⟩ ⟨wx,wy⟩).length:=(a7x.mp hm).1
   have hq1:=kG.tup tr3 hq1
   have hq2:=kG.tup tr3 hq2
   have hmem:h'∈O6 bs ⟨x,y⟩ ⟨wx,wy⟩ bs.length:=a7F hm
   have rb:=aB1 ln bs.length gbs h' hmem
   have gd:=(af7 bs ⟨x,y⟩ ⟨wx,wy⟩ bs.length).good h' hmem
   have ll:((0::((a9k bs ⟨x,y⟩ ⟨wx,wy⟩).take i).flatMap a3B).map V.int).length<=100:=by
    rw[a7r,a7O,aB7 a3B 2 (λ_=>rfl),a8L]
    lia
   refine⟨q,_,rfl,hq1,rfl,_,_,rfl,_,_,rfl,rfl,?_⟩
   refine⟨_,rfl,.inl ⟨rfl,_,n9.of hrl⟩,_,rfl,rl,_,_,rfl,rfl,hrl,by lia,λG4 k4 t4=> ?_⟩
   refine⟨_,rfl,.inl ⟨rfl,_,n9.of t4⟩,_,rfl,t,h'.2,rfl,k4.tup hrl hq2,rb,gd,λG5 s5=> ?_⟩
   refine⟨rl,_,_,rfl,rfl,s5 _ _ t4,by rw[a7M,a83];lia,λG6 k6 t6=> ?_⟩
   refine⟨⟨_,_,rfl⟩,λb o n e=>k6 _ _ n (s5 _ _ (k4 _ _ n (kG _ _ n e))),?_⟩
   rw[t6,take_succ,hm,Option.toList_some,a8q,a9s,←a9b,a8m,a82]
   rfl
  ·rintro U G ⟨⟨u3,u4,rfl⟩,kG,hrl⟩
   have n03:H rl=none:=n1
   refine⟨_,rfl,k rl G (λb o e=>kG _ _ (j0 e n1) ((s02.trans s3) _ _ e)) n1 ?_⟩
   rw[←Paired.length hP,a8o]at hrl
   exact hrl
theorem ag9:n8 ["world","numbers","answer","number","time"] ["world","numbers"] (g9 aa0):=⟨rfl,rfl,rfl,by decide+kernel,rfl,by decide+kernel,by decide+kernel⟩
theorem aD5{f:Addr}{fd:FuncData}(F:M3 K "call_order" "call_order" aa0 f fd)(cW:X4 K W)(b_tuple:mg "tuple"=none)(D_find_hits:Df P w K mg base "find_hits" 8 ["bodies","line"] (aM5 K C)):A7 P w K mg base M2 9 f fd ["world","numbers"] (aU7 K C W a3C):=by
 refine F.ok ag9 (λvs H Q E h=> ?_) (λcdv A outer s H vs Q E hr h=> ?_)
 ·obtain⟨wa,dx,l,nl,fs,as,bs,x,y,wx,wy,rfl,_⟩:=h
  rfl
 ·obtain⟨wa,dx,l,nl,fs,as,bs,x,y,wx,wy,rfl,hw,f1,hB,h20,gbs,hnl,ln,k⟩:=h
  have nd:=ag9.nd
  obtain⟨wl,-,-,w3,-,-⟩:=cW
  refine⟨_,(e9 (j9 (i:=2) nd rfl (Or.inl rfl) (y6 (e8 f6 f7)))
   (e9 (E9 PassesOwn.never rfl (A3 (A0 D_find_hits hr (by rfl) (e8 (j7 (pv 0) rfl) (e8 (L6 aH3 (by rfl) b_tuple PyProof.Rows.boot_tuple (e8 (pv 1) f7)) f7)))) (by refine J5 (i:=3) (j:=4) K ?_ ?_ ?_ ?_ ?_ ?_ ?_<;>first|rfl|assumption)
    (e9 (C2 (M1 a7Q a8c a8d D2 (pv 2) (e8 (pv 3) f7)))
    (f8 (C2 (M1 a7Q a86 a87 aA6 (pv 2) (e8 (pv 4) f7))))))
   (f8 (l8 (pv 2))))),?_⟩
  have sz:(1000:Nat)<=sizeLine:=by decide
  refine⟨by show 1<=sizeLine;decide,λrl G1 s1 n1 t1=> ?_⟩
  refine⟨_,rfl,_,_,_,_,_,rfl,s1 _ _ hw,wl,w3,f1,_,rfl,nl,_,rfl,s1.seq hnl,λtp G2 s2 n2 t2=> ?_⟩
  have s02:=s1.trans s2
  refine⟨l,tp,as,bs,x,y,wx,wy,rfl,hB.same s02,h20,gbs,v7.of t2,ln,λhl G3 s3 n3 hH=> ?_⟩
  have tr3:=(s2.trans s3) _ _ t1
  have hlr:hl≠rl:=λz=>by rw[z,s2 _ _ t1]at n3;cases n3
  obtain⟨ys,hh,hP⟩:=hH
  have hR20:(a9k bs ⟨x,y⟩ ⟨wx,wy⟩).length<=20:=by
   rw[←aM4]
   exact a7G (af8 bs _ _ _) h20
  refine⟨hl,rfl,⟨_,n9.of hh⟩,L1 (K:=K) (a:=hl) (xs:=ys) (λi U G=>(∃u3 u4:Option V,U=[some (.ref wa),some (.ref nl),some (.ref rl),u3,u4])/\Kp rl G3 G/\G rl=some (.lst ((0::((a9k bs ⟨x,y⟩ ⟨wx,wy⟩).take i).flatMap a3C).map V.int)))
   ⟨⟨none,none,rfl⟩,λ_ _ _ e=>e,tr3⟩ (λi U G _ ⟨_,h,_⟩=>n9.of (h _ _ hlr hh)) ?_ ?_⟩
  ·rintro i v U G hv ⟨⟨u3,u4,rfl⟩,kG,hrl⟩
   obtain⟨h',hm,q,t,rfl,hq1,hq2⟩:=Paired.at2 hP hv
   have hi:i<(a9k bs ⟨x,y⟩ ⟨wx,wy⟩).length:=(a7x.mp hm).1
   have hq1:=kG.tup tr3 hq1
   have hq2:=kG.tup tr3 hq2
   have ll:((0::((a9k bs ⟨x,y⟩ ⟨wx,wy⟩).take i).flatMap a3C).map V.int).length<=100:=by
    rw[a7r,a7O,aB7 a3C 4 (λ_=>rfl),a8L]
    lia
   refine⟨q,_,rfl,hq1,rfl,_,_,rfl,_,_,rfl,rfl,?_⟩
   refine⟨_,rfl,.inl ⟨rfl,_,n9.of hrl⟩,_,rfl,rl,_,_,rfl,rfl,hrl,by lia,λG4 k4 t4=> ?_⟩
   refine⟨_,rfl,.inl ⟨rfl,_,n9.of t4⟩,_,rfl,rl,t,_,R3 h'.2,rfl,rfl,t4,k4.tup hrl hq2,by rw[a7M,a83];show _+1+3<=_;lia,λG6 k6 t6=> ?_⟩
   refine⟨⟨_,_,rfl⟩,λb o n e=>k6 _ _ n (k4 _ _ n (kG _ _ n e)),?_⟩
   rw[t6,take_succ,hm,Option.toList_some,a8q,a9s,←a9b,a8m,a82]
   rfl
  ·rintro U G ⟨⟨u3,u4,rfl⟩,kG,hrl⟩
   refine⟨_,rfl,k rl G (λb o e=>kG _ _ (j0 e n1) ((s02.trans s3) _ _ e)) n1 ?_⟩
   rw[←Paired.length hP,a8o]at hrl
   exact hrl
end
abbrev V6:Stmt:=O7 78
abbrev V7:Stmt:=O7 79
abbrev Rg:=Int×Int
def P1:Rg:=(-1000000,1000000)
def V1:Rg:=(-1000,1000)
def S1:Rg:=(1,100000)
def I1:Rg:=(0,19)
def B1:Rg:=(0,1)
def D0:List (List Rg):=[[(1,16),(-100,100),(-100,100)],[P1,P1,S1,S1,(0,2),B1,B1],[P1,P1,S1,(0,2),B1,B1],[I1,V1,V1],[(1,20)],[I1],[],[],[I1,P1,P1],[P1,P1,S1,S1],[P1,P1,P1,P1],[I1],[(0,20)],[],[],[P1,P1,P1,P1]]
def O0(c m:Nat):List Rg:=D0.getD c []++if c=12 then a9c m I1 else []
def X8(ns:List Int)(rs:List Rg):Bool:=(ns.zip rs).all λz=>decide (z.2.1<=z.1)&&decide (z.1<=z.2.2)
def a5Z(K:Frag)(H:Hp)(l:Addr)(rs:List Rg):Prop:=∃ys,H l=some (.lst ys)/\Paired (λ(r:Rg) y=>T2 K r.1 r.2 y H) rs ys
structure aI0(K:Frag)(mg:Str->Option Value):Prop where
 ex:∃R rs,mg "RANGES"=some (.ref R)/\(∀H,v7 K H R (rs.map V.ref))/\Paired (λ(r:Addr) (rg:List Rg)=>∃ys,(∀H,v7 K H r ys)/\Paired (λ(z:Rg) y=>∀H,T2 K z.1 z.2 y H) rg ys) rs D0
theorem as8:D0.length=16:=rfl
theorem a3E(c:Nat):(D0.getD c []).length<=7:=by
 by_cases h:c<16
 ·have:∀c:Fin 16,(D0.getD c.1 []).length<=7:=by decide
  exact this ⟨c,h⟩
 ·rw[a7y,a8y (by rw[as8];lia)]
  decide
section
variable{P:Program}{w:World}{K:Frag}{mg:Str->Option Value}{base:Heap}{C W:Addr}
def a3F(K:Frag):Sp:=λvs H Q _=>∃(nl rl:Addr) (ns:List Int) (rs:List Rg),vs=[.ref nl,.ref rl]/\n9 K H nl (ns.map V.int)/\a5Z K H rl rs/\ns.length=rs.length/\ns.length<=100/\∀G,f9 H G->Q (.bl (X8 ns rs)) G
theorem am5:n8 ["numbers","ranges","number","limits"] ["numbers","ranges"] (g9 V7):=⟨rfl,rfl,rfl,by decide+kernel,rfl,by decide+kernel,by decide+kernel⟩
theorem aN3{f:Addr}{fd:FuncData}(F:M3 K "in_ranges" "in_ranges" V7 f fd)(b_all:mg "all"=none)(b_zip:mg "zip"=none):A7 P w K mg base M2 1 f fd ["numbers","ranges"] (a3F K):=by
 refine F.ok am5 (λvs H Q E h=> ?_) (λcdv A outer s H vs Q E hr h=> ?_)
 ·obtain⟨nl,rl,ns,rs,rfl,_⟩:=h
  rfl
 ·obtain⟨nl,rl,ns,rs,rfl,hnl,⟨ys,hrl,hP⟩,hlen,h100,k⟩:=h
  have nd:=am5.nd
  refine⟨_,(f8 (l8 (v6 (a5o rfl) (by rfl) b_all boot_all (e8 (R0 (own:=[("number",2),("limits",3)]) rfl nd (aW9 (by rfl) b_zip (e8 (pv 0) (e8 (pv 1) f7))) (by show E5 ["numbers","ranges","number","limits"] (g9 V7) _ _;exact⟨rfl,by decide+kernel,by decide+kernel,by decide+kernel,by decide+kernel⟩)
   (λ_ _ _ _ _=>by refine J5 (i:=2) (j:=3) K ?_ ?_ ?_ ?_ ?_ ?_ ?_<;>first|rfl|assumption)
   (λ_ _ _ _ _=>by exact D8)
   (λ_ _ _ _ _=>by exact(a2r aO3 aO3 (U5 K rfl (pv 3) f6 (λ_ _=>rfl)) (pv 2) (U5 K rfl (pv 3) f6 (λ_ _=>rfl))))) f7)))),?_⟩
  have ly:ys.length=rs.length:=(Paired.length hP).symm
  have sz:(100:Nat)<=sizeLine:=by decide
  refine⟨_,rfl,_,rfl,nl,rl,_,_,rfl,hnl,n9.of hrl,λal nal=> ?_⟩
  refine lcZ nal hnl (n9.of hrl) (by rw[a7r,ly,hlen]) (os:=(ns.zip rs).map λz=>some (decide (z.2.1<=z.1)&&decide (z.1<=z.2.2))) (by rw[a7r,a7r,a9y,hlen,a9S]) (by rw[a7r,a9y];lia) (λ(b:Bool) y _=>y=V.bl b)
   (λb y H G ys _ r _=>r) (λi x y o H' zs T hx hy ho sH hD hT=> ?_) (λG1 acc s1 hb hA=> ?_)
  ·intro Rt Rv _ hR
   rw[a7t]at hx
   cases e:ns[i]? with
   |none=>rw[e]at hx;cases hx
   |some n=>
    rw[e]at hx
    have hx:V.int n=x:=a7v hx
    subst hx
    obtain⟨r,hr',q,rfl,hq⟩:=Paired.at2 hP hy
    have hq:=f9.tup sH hq
    have ez:(ns.zip rs)[i]? =some (n,r):=by rw[a8S];exact⟨e,hr'⟩
    rw[a7t,ez]at ho
    have ho:some (decide (r.1<=n)&&decide (n<=r.2))=o:=a7v ho
    refine⟨T,_,rfl,v7.of hT,rfl,_,_,rfl,_,_,rfl,rfl,rfl,B3 (B:=Rt H') ?_⟩
    refine⟨_,rfl,q,_,_,_,rfl,rfl,hq,rfl,_,rfl,_,_,rfl,rfl,_,rfl,?_⟩
    by_cases c:r.1<=n
    ·rw[decide_eq_true c]
     refine B3 ⟨_,rfl,q,_,_,_,rfl,rfl,hq,rfl,_,_,rfl,rfl,?_⟩
     refine hR _ ho.symm _ H' (f9.refl _) ?_
     rw[decide_eq_true c,a9m]
    ·rw[decide_eq_false c]
     refine D9 ?_
     refine hR _ ho.symm _ H' (f9.refl _) ?_
     rw[decide_eq_false c,a9H]
  ·have e1:acc=((ns.zip rs).map λz=>decide (z.2.1<=z.1)&&decide (z.1<=z.2.2)).map V.bl:=by
    have e2:((ns.zip rs).map λz=>some (decide (z.2.1<=z.1)&&decide (z.1<=z.2.2))).filterMap id=(ns.zip rs).map λz=>decide (z.2.1<=z.1)&&decide (z.1<=z.2.2):=by
     rw[a71]
     simp[Function.comp_def]
    rw[e2]at hA
    clear e2 hb
    revert hA
    generalize ((ns.zip rs).map λz=>decide (z.2.1<=z.1)&&decide (z.1<=z.2.2))=bl
    intro hA
    induction hA with
    |nil=>rfl
    |cons r _ ih=>rw[a7U,←ih,r]
   rw[e1]at hb
   refine⟨al,_,rfl,n9.of hb,?_⟩
   have:=k G1 s1
   unfold X8 at this
   rw[List.all_map]
   exact this
def a0n(K:Frag):Sp:=λvs H Q _=>∃(cl:Addr) (at_ c m:Nat) (l:List Int),vs=[.ref cl,.int (at_:Int)]/\n9 K H cl (l.map V.int)/\l[at_]? =some (c:Int)/\c<16/\(c=12->l[at_+1]? =some (m:Int))/\m<=30/\
 ∀rl G,f9 H G->H rl=none->a5Z K G rl (O0 c m)->Q (.ref rl) G
theorem am6:n8 ["calls","at","ranges","number"] ["calls","at"] (g9 V6):=⟨rfl,rfl,rfl,by decide+kernel,rfl,by decide+kernel,by decide+kernel⟩
theorem aN4{f:Addr}{fd:FuncData}(F:M3 K "ranges_at" "ranges_at" V6 f fd)(b_list:mg "list"=none)(b_range:mg "range"=none)(c_RANGES:aI0 K mg)(c_RENUMBER:∃t,mg "RENUMBER"=some (.int 12 t)):A7 P w K mg base M2 1 f fd ["calls","at"] (a0n K):=by
 refine F.ok am6 (λvs H Q E h=> ?_) (λcdv A outer s H vs Q E hr h=> ?_)
 ·obtain⟨cl,at_,c,m,l,rfl,_⟩:=h
  rfl
 ·obtain⟨cl,at_,c,m,l,rfl,hcl,hc,hc16,hm,hm30,k⟩:=h
  obtain⟨R,rs,hR,tR,pR⟩:=c_RANGES.ex
  have nd:=am6.nd
  refine⟨_,(e9 (j9 (i:=2) nd rfl (Or.inl rfl) (L6 aT3 (by rfl) b_list PyProof.Rows.boot_list (e8 (i9 j5 (Y0 (v:= .ref R) (by rfl) hR rfl) (i9 l6 (pv 0) (pv 1) (λ_ _=>rfl)) (λ_ _=>rfl)) f7)))
   (e9 (B8 (o8 K5 (i9 l6 (pv 0) (pv 1) (λ_ _=>rfl)) (B5 c_RENUMBER (by rfl)) (t9 _))
    (f8 (C2 (M1 a7Q a86 a87 Y7 (pv 2) (e8 (R0 (own:=[("number",3)]) rfl nd (ae7 (by rfl) b_range (e8 (i9 l6 (pv 0) (m9 B0 (pv 1) f6) (λ_ _=>rfl)) f7)) (by show E5 ["calls","at","ranges","number"] (g9 V6) _ _;exact⟨rfl,by decide+kernel,by decide+kernel,by decide+kernel,by decide+kernel⟩)
     (λ_ _ _ _ _=>by exact z9 (i:=3) nd (by rfl) (by exact Or.inl rfl) (by exact Or.inr rfl))
     (λ_ _ _ _ _=>by exact D8)
     (λ_ _ _ _ _=>by exact(p8 (e8 f6 (e8 f6 f7))))) f7))))
    v8)
   (f8 (l8 (pv 2))))),?_⟩
  have hcV:(l.map V.int)[at_]? =some (.int (c:Int)):=by rw[a7t,hc];rfl
  have lR:rs.length=16:=(Paired.length pR).trans as8
  obtain⟨r,hr1⟩:∃r,rs[c]? =some r:=⟨_,a7u (by lia)⟩
  obtain⟨rg,hrg,ys,ty,py⟩:=Paired.at_ pR hr1
  have erg:D0.getD c []=rg:=by rw[a7y,hrg];rfl
  have hrV:(rs.map V.ref)[c]? =some (.ref r):=by rw[a7t,hr1];rfl
  have l7:ys.length<=7:=by rw[←Paired.length py,←erg];exact a3E c
  have sz:(1000:Nat)<=sizeLine:=by decide
  refine⟨_,rfl,_,rfl,cl,_,_,_,rfl,rfl,hcl,z7 hcV,R,_,_,_,rfl,rfl,tR _,z7 hrV,r,_,rfl,ty _,λrl G1 s1 n1 t1=> ?_⟩
  have py1:∀G,Paired (λ(z:Rg) y=>T2 K z.1 z.2 y G) rg ys:=λG=>Paired.monoP (λ_ _ h=>h G) py
  have hcl1:=s1.seq hcl
  refine⟨_,rfl,_,rfl,cl,_,_,_,rfl,rfl,hcl1,z7 hcV,rfl,_,rfl,?_⟩
  refine z8 (λd=> ?_) (λd=> ?_)
  ·have c12:c=12:=by have:=of_decide_eq_true d;rw[V.int.injEq]at this;lia
   have hmV:(l.map V.int)[at_+1]? =some (.int (m:Int)):=by rw[a7t,hm c12];rfl
   have e1:((at_:Int)+1)=((at_+1:Nat):Int):=by lia
   refine⟨_,rfl,.inl ⟨rfl,_,n9.of t1⟩,_,rfl,_,rfl,_,_,rfl,rfl,cl,_,_,_,rfl,rfl,hcl1,a2J e1 hmV,_,rfl,by lia,by lia,λal nal=> ?_⟩
   have em:((m:Int)).toNat=m:=by lia
   rw[em]
   refine a2B (lo:=0) (n:=m) (λi G=>f9 G1 G/\∃acc,G al=some (.lst acc)/\Paired (λ(z:Rg) y=>T2 K z.1 z.2 y G) (a9c i I1) acc) ⟨f9.new nal,[],i8,.nil⟩ (λi G hi ⟨sG,acc,ha,hP⟩=> ?_) (λG ⟨sG,acc,ha,hP⟩=> ?_)
   ·refine⟨rfl,?_⟩
    refine B3 (B:=f9 G1 G/\∃acc,G al=some (.lst acc)/\Paired (λ(z:Rg) y=>T2 K z.1 z.2 y G) (a9c (i+1) I1) acc) ?_
    refine⟨by show 2<=sizeLine;decide,λq G2 s2 n2 t2=> ?_⟩
    have ha2:=s2 _ _ ha
    refine⟨acc,ha2,by rw[←Paired.length hP,a9I];lia,f9.app nal (sG.trans s2),_,i8,?_⟩
    have kU:Kp al G2 (A6 G2 al (.lst (acc++[V.ref q]))):=λb o n e=>by rw[j6 n];exact e
    rw[List.replicate_succ']
    exact Paired.snoc (Paired.monoP (λ_ _ r=>T2.kp (T2.same r s2) ha2 kU) hP) ⟨q,rfl,kU.tup ha2 (v7.of t2)⟩
   ·have la:acc.length=m:=by rw[←Paired.length hP,a9I]
    refine⟨rl,al,_,_,rfl,rfl,sG _ _ t1,ha,by lia,λG3 k3 t3=> ?_⟩
    refine⟨_,rfl,k rl G3 (λb o e=>k3 _ _ (j0 e n1) (sG _ _ (s1 _ _ e))) n1 ⟨_,t3,?_⟩⟩
    unfold O0
    rw[erg,if_pos c12]
    exact Paired.app (py1 G3) (Paired.monoP (λ_ _ r=>T2.kp r (sG _ _ t1) k3) hP)
  ·have c12:¬c=12:=λz=>d (decide_eq_true (by rw[V.int.injEq];lia))
   refine⟨_,rfl,k rl G1 s1 n1 ⟨_,t1,?_⟩⟩
   unfold O0
   rw[erg,if_neg c12,a72]
   exact py1 G1
end
theorem g8{s:a7T}{x:Int×Bool}{l:List (Int×Bool)}{k:Unit->a7T×List Int}(h:x.2=false):a8H s (x::l) k=a8H s l k:=by
 unfold a8H
 rw[List.find?_cons_of_neg (by rw[h];decide)]
theorem C6{s:a7T}{x:Int×Bool}{l:List (Int×Bool)}{k:Unit->a7T×List Int}(h:x.2=true):a8H s (x::l) k=(s,[x.1]):=by
 unfold a8H
 rw[List.find?_cons_of_pos h]
theorem B9{s:a7T}{k:Unit->a7T×List Int}:a8H s [] k=k ():=rfl
theorem B6{s:a7T}{l:List (Int×Bool)}{k:Unit->a7T×List Int}{R:a7T->Prop}(h0:R s)(h1:(∀x∈l,x.2=false)->R (k ()).1):R (a8H s l k).1:=by
 unfold a8H
 split
 ·exact h0
 ·rename_i e
  exact h1 λx m=>by simpa using List.find?_eq_none.mp e x m
theorem ai8{a b:a7s}(ha:GdS a.shape)(hb:GdS b.shape):clashBy a b ⟨0,0⟩ ⟨0,0⟩=Vbwsam.within a.shape b.shape (Vbwsam.minus b.at_ a.at_):=by
 have e:clashBy a b ⟨0,0⟩ ⟨0,0⟩=S5 a.shape b.shape (b.at_.x-a.at_.x) (b.at_.y-a.at_.y) 0 0:=(S6 (wx:=0) (wy:=0) ha hb).symm▸rfl
 rw[e]
 unfold Vbwsam.minus
 cases sa:a.shape with
 |box p q=>
  rw[sa]at ha
  cases sb:b.shape with
  |box u v=>exact Mb.al4 _ _ _ _
  |ball r=>
   rw[sb]at hb
   exact Mb.aA5 (by have:=ha.1.1;lia) (by have:=ha.2.1;lia) (by have:1<=r:=hb.1;lia)
 |ball r=>
  rw[sa]at ha
  cases sb:b.shape with
  |box u v=>
   rw[sb]at hb
   exact Mb.aA5 (by have:=hb.1.1;lia) (by have:=hb.2.1;lia) (by have:1<=r:=ha.1;lia)
  |ball q=>exact Mb.aH2 _ _ _
theorem ap5{a b:a7s}(ha:GdS a.shape)(hb:GdS b.shape):clashBy a b ⟨0,0⟩ ⟨0,0⟩=clashBy b a ⟨0,0⟩ ⟨0,0⟩:=by
 rw[ai8 ha hb,ai8 hb ha]
 unfold Vbwsam.minus
 rw[Mb.aT0]
 have e1: -(b.at_.x-a.at_.x)=a.at_.x-b.at_.x:=by lia
 have e2: -(b.at_.y-a.at_.y)=a.at_.y-b.at_.y:=by lia
 rw[e1,e2]
theorem a0o(s t:a8U)(x y wx wy:Int):S5 s t x y wx wy=S5 t s (-x) (-y) (-wx) (-wy):=by
 cases s with
 |box a b=>
  cases t with
  |box c e=>
   show Mb.l9 x y wx wy (a+c) (b+e)=Mb.l9 (-x) (-y) (-wx) (-wy) (c+a) (e+b)
   rw[Mb.au3,a9R a c,a9R b e]
  |ball r=>exact(Mb.aH1 _ _ _ _ _ _ _).symm
 |ball r=>
  cases t with
  |box c e=>exact(Mb.aH1 _ _ _ _ _ _ _).symm
  |ball q=>
   show Mb.m7 x y wx wy (r+q)=Mb.m7 (-x) (-y) (-wx) (-wy) (q+r)
   rw[Mb.aS9,a9R r q]
theorem a0p{a b:a7s}(ha:GdS a.shape)(hb:GdS b.shape)(dx dy:Int):clashBy a b ⟨dx,dy⟩ ⟨0,0⟩=clashBy b a zeroPair ⟨dx,dy⟩:=by
 have e1:clashBy a b ⟨dx,dy⟩ ⟨0,0⟩=S5 a.shape b.shape (b.at_.x-a.at_.x) (b.at_.y-a.at_.y) (0-dx) (0-dy):=S6 ha hb
 have e2:clashBy b a zeroPair ⟨dx,dy⟩=S5 b.shape a.shape (a.at_.x-b.at_.x) (a.at_.y-b.at_.y) (dx-0) (dy-0):=S6 hb ha
 rw[e1,e2,a0o]
 have q1: -(b.at_.x-a.at_.x)=a.at_.x-b.at_.x:=by lia
 have q2: -(b.at_.y-a.at_.y)=a.at_.y-b.at_.y:=by lia
 have q3: -(0-dx)=dx-0:=by lia
 have q4: -(0-dy)=dy-0:=by lia
 rw[q1,q2,q3,q4]
theorem ae5{bs:List a7s}{b:a7s}(hb:GdS b.shape)(h:∀i,i<bs.length->GdS (bodyAt bs i).shape):nwL b bs=a8z bs b.shape b.at_:=by
 unfold nwL a8z
 refine a9z λi hi=> ?_
 have hi':=a8G.mp hi
 rw[ap5 hb (h i hi'),ai8 (h i hi') hb]
theorem OkR.ap{r:Int}{bs:List a7s}(o:OkR r bs){i j:Nat}(n:i≠j)(hi:i<bs.length)(hj:j<bs.length):clashBy (bodyAt bs i) (bodyAt bs j) ⟨0,0⟩ ⟨0,0⟩=false:=by
 rcases Nat.lt_or_gt_of_ne n with h|h
 ·exact o.apart i j h hj
 ·rw[ap5 (o.sh i hi) (o.sh j hj)]
  exact o.apart j i h hi
theorem a1k(r:Int):OkR r []:=⟨a8n _,λi h=>absurd h (a8Q _),λi h=>absurd h (a8Q _),λi h=>absurd h (a8Q _),λi h=>absurd h (a8Q _),λi j _ h=>absurd h (a8Q _)⟩
theorem aU9{r:Int}{bs cs:List a7s}(o:OkR r bs)(f:Nat->Nat)(hf:∀j,j<cs.length->f j<bs.length/\bodyAt cs j=bodyAt bs (f j))(inj:∀i j,i<cs.length->j<cs.length->i≠j->f i≠f j)(few:cs.length<=20):OkR r cs:=
 ⟨few,λi hi=>by rw[(hf i hi).2];exact o.sh _ (hf i hi).1,λi hi=>by rw[(hf i hi).2];exact o.at_ _ (hf i hi).1,λi hi=>by rw[(hf i hi).2];exact o.vel _ (hf i hi).1,λi hi=>by rw[(hf i hi).2];exact o.fix _ (hf i hi).1,
  λi j hij hj=>by
   have hi:i<cs.length:=by lia
   rw[(hf i hi).2,(hf j hj).2]
   exact o.ap (inj i j hi hj (by lia)) (hf i hi).1 (hf j hj).1⟩
theorem a2c{r:Int}{bs:List a7s}(o:OkR r bs)(i:Nat):OkR r (bs.eraseIdx i):=by
 have hl:=List.length_eraseIdx_le bs i
 refine aU9 o (λj=>if j<i then j else j+1) (λj hj=> ?_) (λa b _ _ n=> ?_) (a7G hl o.few)
 ·have e:(bs.eraseIdx i)[j]? =bs[if j<i then j else j+1]? :=by
   rw[List.getElem?_eraseIdx]
   split<;>rfl
  rw[a7u hj]at e
  have h1:(if j<i then j else j+1)<bs.length:=(a7x.mp e.symm).1
  refine⟨h1,?_⟩
  rw[A1 (a7u hj),A1 e.symm]
 ·split<;>split<;>lia
theorem a2d{r:Int}{bs:List a7s}{l:List Int}(o:OkR r bs)(h:isOrder bs.length l=true):OkR r (l.map λz=>bodyAt bs z.toNat):=by
 have p:=Z9.mp h
 have hl:l.length=bs.length:=by
  have:=p.length_eq
  unfold ae4 at this
  rw[a7r,a70]at this
  exact this
 have nd:l.Nodup:=p.nodup_iff.mpr (aB6 _)
 refine aU9 o (λj=>(l.getD j 0).toNat) (λj hj=> ?_) (λa b ha hb n=> ?_) (by rw[a7r,hl];exact o.few)
 ·rw[a7r]at hj
  have e:=a7u hj
  obtain⟨i,hi,hlt⟩:=T8 h (a7F e)
  have eg:l.getD j 0=(i:Int):=by rw[a7y,e,←hi];rfl
  refine⟨by rw[eg];exact hlt,?_⟩
  have:(l.map λz=>bodyAt bs z.toNat)[j]? =some (bodyAt bs (l.getD j 0).toNat):=by rw[a7t,e,a7y,e];rfl
  exact A1 this
 ·rw[a7r]at ha hb
  have e1:=a7u ha
  have e2:=a7u hb
  obtain⟨i,hi,_⟩:=T8 h (a7F e1)
  obtain⟨j,hj,_⟩:=T8 h (a7F e2)
  have g1:l.getD a 0=(i:Int):=by rw[a7y,e1,←hi];rfl
  have g2:l.getD b 0=(j:Int):=by rw[a7y,e2,←hj];rfl
  intro q
  have q:(l.getD a 0).toNat=(l.getD b 0).toNat:=q
  rw[g1,g2]at q
  have q:i=j:=q
  rw[hi]at e1
  rw[hj,←q]at e2
  exact n (a2K nd e1 e2)
theorem ai9{bs:List a7s}{b:a7s}{i:Nat}(h:i<(bs++[b]).length):(i<bs.length/\bodyAt (bs++[b]) i=bodyAt bs i)\/(i=bs.length/\bodyAt (bs++[b]) i=b):=by
 rw[a7M,a83]at h
 by_cases c:i<bs.length
 ·left
  refine⟨c,?_⟩
  have:(bs++[b])[i]? =some (bodyAt bs i):=by rw[a9P c,A1 (a7u c)];exact a7u c
  exact A1 this
 ·right
  have e:i=bs.length:=by lia
  refine⟨e,?_⟩
  have:(bs++[b])[i]? =some b:=by rw[e,List.getElem?_append_right (a7A _),Nat.sub_self];rfl
  exact A1 this
theorem a4y{r:Int}{bs:List a7s}{b:a7s}(o:OkR r bs)(hl:bs.length<20)(hs:GdS b.shape)(ha:(-r<=b.at_.x/\b.at_.x<=r)/\ -r<=b.at_.y/\b.at_.y<=r)(hv:b.v=zeroPair)(ht:a8z bs b.shape b.at_=[]):OkR r (bs++[b]):=by
 rw[←ae5 hs o.sh]at ht
 refine⟨by rw[a7M,a83];lia,λi hi=> ?_,λi hi=> ?_,λi hi=> ?_,λi hi hk=> ?_,λi j hij hj=> ?_⟩
 ·rcases ai9 hi with⟨h,e⟩|⟨h,e⟩<;>rw[e]
  ·exact o.sh i h
  ·exact hs
 ·rcases ai9 hi with⟨h,e⟩|⟨h,e⟩<;>rw[e]
  ·exact o.at_ i h
  ·exact ha
 ·rcases ai9 hi with⟨h,e⟩|⟨h,e⟩<;>rw[e]
  ·exact o.vel i h
  ·rw[hv]
   exact⟨⟨by decide,by decide⟩,by decide,by decide⟩
 ·rcases ai9 hi with⟨h,e⟩|⟨h,e⟩<;>rw[e]at hk⊢
  ·exact o.fix i h hk
  ·exact hv
 ·rcases ai9 hj with⟨h,e⟩|⟨h,e⟩
  ·rcases ai9 (i:=i) (b:=b) (bs:=bs) (by lia)with⟨h',e'⟩|⟨h',e'⟩
   ·rw[e,e']
    exact o.apart i j hij h
   ·lia
  ·rcases ai9 (i:=i) (b:=b) (bs:=bs) (by lia)with⟨h',e'⟩|⟨h',e'⟩
   ·rw[e,e']
    show clashBy (bodyAt bs i) b ⟨0,0⟩ ⟨0,0⟩=false
    rw[ap5 (o.sh i h') hs]
    cases c:clashBy b (bodyAt bs i) ⟨0,0⟩ ⟨0,0⟩with
    |false=>rfl
    |true=>
     have:i∈nwL b bs:=by
      unfold nwL
      exact a7X.mpr ⟨a8G.mpr h',c⟩
     rw[ht]at this
     cases this
   ·lia
theorem a4z{r:Int}{bs:List a7s}{i:Nat}{vx vy:Int}(o:OkR r bs)(hi:i<bs.length)(hk:(bodyAt bs i).kind≠0)(hx: -1000<=vx/\vx<=1000)(hy: -1000<=vy/\vy<=1000):OkR r (bs.set i {bodyAt bs i with v:=⟨vx,vy⟩}):=by
 have cs:∀j,(j=i/\bodyAt (bs.set i {bodyAt bs i with v:=⟨vx,vy⟩}) j={bodyAt bs i with v:=⟨vx,vy⟩})\/(j≠i/\bodyAt (bs.set i {bodyAt bs i with v:=⟨vx,vy⟩}) j=bodyAt bs j):=λj=>by
  by_cases e:j=i
  ·left;subst e;exact⟨rfl,a3h hi⟩
  ·right;exact⟨e,a3i e⟩
 have same:∀j,(bodyAt (bs.set i {bodyAt bs i with v:=⟨vx,vy⟩}) j).shape=(bodyAt bs j).shape/\(bodyAt (bs.set i {bodyAt bs i with v:=⟨vx,vy⟩}) j).at_=(bodyAt bs j).at_/\(bodyAt (bs.set i {bodyAt bs i with v:=⟨vx,vy⟩}) j).kind=(bodyAt bs j).kind:=λj=>by
  rcases cs j with⟨e,q⟩|⟨e,q⟩
  ·rw[q,e];exact⟨rfl,rfl,rfl⟩
  ·rw[q];exact⟨rfl,rfl,rfl⟩
 refine⟨by rw[a9g];exact o.few,λj hj=> ?_,λj hj=> ?_,λj hj=> ?_,λj hj h0=> ?_,λj k hjk hk'=> ?_⟩
 all_goals rw[a9g]at*
 ·rw[(same j).1];exact o.sh j hj
 ·rw[(same j).2.1];exact o.at_ j hj
 ·rcases cs j with⟨e,q⟩|⟨e,q⟩<;>rw[q]
  ·exact⟨hx,hy⟩
  ·exact o.vel j hj
 ·rcases cs j with⟨e,q⟩|⟨e,q⟩
  ·rw[(same j).2.2,e]at h0
   exact absurd h0 hk
  ·rw[q]at h0⊢
   exact o.fix j hj h0
 ·have:=o.apart j k hjk hk'
  unfold clashBy at this⊢
  rw[(same j).1,(same k).1,(same j).2.1,(same k).2.1]
  exact this
structure SOk(s:a7T):Prop where
 parts:s.parts<=16
 ticks:s.ticks<=1000
 ok:OkR (1000000+16000*s.ticks) s.bodies
 shut:s.parts=0->s.bodies=[]/\s.ticks=0/\s.met=[]
theorem a2e:SOk Vbwsam.start:=⟨by decide,by decide,a1k _,λ_=>⟨rfl,rfl,rfl⟩⟩
theorem A8{n lo hi:Int}:a8D n lo hi=true↔lo<=n/\n<=hi:=by
 unfold a8D
 rw[a7z,decide_eq_true_eq,decide_eq_true_eq]
theorem a1l{s:a7T}(o:SOk s){sh:a8U}{x y k h g:Int}(hp:s.parts≠0)(hl:s.bodies.length<20)(hs:GdS sh)(hx: -1000000<=x/\x<=1000000)(hy: -1000000<=y/\y<=1000000)(ht:a8z s.bodies sh ⟨x,y⟩=[]):SOk (Vbwsam.added s sh x y k h g).1:=
 ⟨o.parts,o.ticks,a4y (b:=⟨sh,k.toNat,h==1,g==1,⟨x,y⟩,zeroPair⟩) o.ok hl hs (by show(_<=x/\x<=_)/\_<=y/\y<=_;lia) rfl ht,λz=>absurd z hp⟩
theorem a3G{s:a7T}(o:SOk s)(c:a93):SOk (a7H s c).1:=by
 have bnot:∀{b:Bool},(!b)=false->b=true:=λ{b} h=>by simpa using h
 have nz:(s.parts==0)=false->s.parts≠0:=λh z=>by rw[z]at h;exact absurd h (by decide)
 cases c with
 |open_ n gx gy=>
  refine B6 (R:=SOk) o λh=> ?_
  have h1:=bnot (h _ (a7C))
  rw[a7z,A8]at h1
  refine⟨?_,by show 0<=1000;decide,a1k _,λ_=>⟨rfl,rfl,rfl⟩⟩
  show n.toNat<=16
  lia
 |box x y hx hy k h' g=>
  refine B6 (R:=SOk) o λh=> ?_
  have h1:=bnot (h (-1, !(a8a x y&&(a8f hx&&(a8f hy&&a8x k h' g)))) (by simp))
  have h2:(s.parts==0)=false:=h (a8K s) (by simp)
  have h3:decide (BODIES<=s.bodies.length)=false:=h (-4,decide (BODIES<=s.bodies.length)) (by simp)
  have h4:=bnot (h (-6, !(a8z s.bodies (.box hx hy) ⟨x,y⟩).isEmpty) (by simp))
  simp only[a8a,a8f,a8x,a7z,A8,FAR]at h1
  have h3:¬20<=s.bodies.length:=of_decide_eq_false h3
  exact a1l o (nz h2) (by lia) ⟨⟨by lia,by lia⟩,by lia,by lia⟩ (by lia) (by lia) (isEmpty_iff.mp h4)
 |ball x y r k h' g=>
  refine B6 (R:=SOk) o λh=> ?_
  have h1:=bnot (h (-1, !(a8a x y&&(a8f r&&a8x k h' g))) (by simp))
  have h2:(s.parts==0)=false:=h (a8K s) (by simp)
  have h3:decide (BODIES<=s.bodies.length)=false:=h (-4,decide (BODIES<=s.bodies.length)) (by simp)
  have h4:=bnot (h (-6, !(a8z s.bodies (.ball r) ⟨x,y⟩).isEmpty) (by simp))
  simp only[a8a,a8f,a8x,a7z,A8,FAR]at h1
  have h3:¬20<=s.bodies.length:=of_decide_eq_false h3
  exact a1l o (nz h2) (by lia) ⟨by lia,by lia⟩ (by lia) (by lia) (isEmpty_iff.mp h4)
 |aim i vx vy=>
  refine B6 (R:=SOk) o λh=> ?_
  have h1:=bnot (h (-1, !(a78 i&&(a8D vx (-FAST) FAST&&a8D vy (-FAST) FAST))) (by simp))
  have h2:(s.parts==0)=false:=h (a8K s) (by simp)
  have h3:decide ((s.bodies.length:Int)<=i)=false:=h (noBodyAt s i) (by simp)
  have h4:((bodyAt s.bodies i.toNat).kind==0)=false:=h (-7,(bodyAt s.bodies i.toNat).kind==0) (by simp)
  simp only[a78,a7z,A8,FAST]at h1
  have h3:¬(s.bodies.length:Int)<=i:=of_decide_eq_false h3
  exact⟨o.parts,o.ticks,a4z o.ok (by lia) (by simpa using h4) (by lia) (by lia),λz=>absurd z (nz h2)⟩
 |tick n=>
  refine B6 (R:=SOk) o λh=> ?_
  have h1:=bnot (h (-1, !a8D n 1 20) (by simp))
  have h2:(s.parts==0)=false:=h (a8K s) (by simp)
  have h3:decide (1000<s.ticks+n.toNat)=false:=h (-8,decide (1000<s.ticks+n.toNat)) (by simp)
  rw[A8]at h1
  have h3:¬1000<s.ticks+n.toNat:=of_decide_eq_false h3
  refine⟨o.parts,by show s.ticks+n.toNat<=1000;lia,?_,λz=>absurd z (nz h2)⟩
  show OkR (1000000+16000*((s.ticks+n.toNat:Nat):Int)) (ticksOf s.parts s.pull n.toNat s.bodies).1
  rw[al1 s.parts s.pull s.bodies (by lia)]
  exact(aL1 o.ok o.parts n.toNat (by lia)).mono (by lia)
 |body i=>exact B6 (R:=SOk) o λ_=>o
 |places=>exact B6 (R:=SOk) o λ_=>o
 |met=>exact B6 (R:=SOk) o λ_=>o
 |would i dx dy=>exact B6 (R:=SOk) o λ_=>o
 |room x y hx hy=>exact B6 (R:=SOk) o λ_=>o
 |ray x y dx dy=>exact B6 (R:=SOk) o λ_=>o
 |drop i=>
  refine B6 (R:=SOk) o λh=> ?_
  have h2:(s.parts==0)=false:=h (a8K s) (by simp)
  exact⟨o.parts,o.ticks,a2c o.ok _,λz=>absurd z (nz h2)⟩
 |renumber l=>
  refine B6 (R:=SOk) o λh=> ?_
  have h2:(s.parts==0)=false:=h (a8K s) (by simp)
  have h3:=bnot (h (-5, !isOrder s.bodies.length l) (by simp))
  exact⟨o.parts,o.ticks,a2d o.ok h3,λz=>absurd z (nz h2)⟩
 |sums=>exact B6 (R:=SOk) o λ_=>o
 |totals=>exact o
 |order x y dx dy=>exact B6 (R:=SOk) o λ_=>o
structure Wst(K:Frag)(C W:Addr)(H:Hp)(wa:Addr)(s:a7T)(own:List Addr):Prop where
 ex:∃dx l ml as ts,own=wa::l::ml::as/\WAt K C W H wa dx l ml as s.parts s.pull s.bodies s.ticks ts/\metNums s.met=ts.flatMap a3y/\ts.length<=160000/\l≠ml
def Fr(H G:Hp)(own own':List Addr):Prop:=(∀b o,b∉own->H b=some o->G b=some o)/\∀b∈own',b∈own\/H b=none
theorem X5.same{K:Frag}{H G:Hp}{l:Addr}{ts:List (Nat×Nat×Nat)}(h:X5 K H l ts)(s:f9 H G):X5 K G l ts:=by
 obtain⟨ys,h1,h2⟩:=h
 exact⟨ys,s _ _ h1,Paired.monoP (λ_ _ ⟨q,e,hq⟩=>⟨q,e,f9.tup s hq⟩) h2⟩
theorem WAt.same{K:Frag}{C W:Addr}{H G:Hp}{wa dx l ml:Addr}{as:List Addr}{n:Nat}{g:a8g}{bs:List a7s}{t:Nat}{ts:List (Nat×Nat×Nat)}(h:WAt K C W H wa dx l ml as n g bs t ts)(s:f9 H G):WAt K C W G wa dx l ml as n g bs t ts:=by
 obtain⟨⟨pq,fs,h1,h2,h3,h4,h5,h6,h7,h8,h9⟩,hb,hn⟩:=h
 exact⟨⟨pq,fs,s _ _ h1,h2,h3,h4,h5,h6,h7,f9.tup s h8,h9.same s⟩,hb.same s,hn⟩
theorem Wst.same{K:Frag}{C W:Addr}{H G:Hp}{wa:Addr}{s:a7T}{own:List Addr}(h:Wst K C W H wa s own)(e:f9 H G):Wst K C W G wa s own:=by
 obtain⟨dx,l,ml,as,ts,h1,h2,h3,h4,h5⟩:=h.ex
 exact⟨dx,l,ml,as,ts,h1,h2.same e,h3,h4,h5⟩
def R8(K:Frag)(C W:Addr)(H:Hp)(Q:VK)(wa:Addr)(s:a7T)(own:List Addr)(c:a93):Prop:=
 ∀G p own',Fr H G own own'->Wst K C W G wa (a7H s c).1 own'->(∀b o,b∉own->H b=some o->b≠p)->G p=some (.lst ((a7H s c).2.map V.int))->Q (.ref p) G
section
variable{K:Frag}{C W:Addr}{H:Hp}{Q:VK}{wa:Addr}{s:a7T}{own:List Addr}{c:a93}
theorem R8.ans(k:R8 K C W H Q wa s own c)(w:Wst K C W H wa s own){ns:List Int}(e:a7H s c=(s,ns)){G1:Hp}(s1:f9 H G1):Ans G1 Q ns:=λp G sG n t=>by
 refine k G p own ⟨λb o _ h=>(s1.trans sG) _ _ h,λb m=> .inl m⟩ ?_ (λb o _ h z=> ?_) ?_
 ·rw[e];exact w.same (s1.trans sG)
 ·rw[←z,s1 _ _ h]at n;cases n
 ·rw[e];exact t
theorem R8.ans2(k:R8 K C W H Q wa s own c){s':a7T}{ns:List Int}(e:a7H s c=(s',ns)){G1:Hp}{own':List Addr}(f:Fr H G1 own own')(w1:Wst K C W G1 wa s' own'):Ans G1 Q ns:=λp G sG n t=>by
 refine k G p own' ⟨λb o m h=>sG _ _ (f.1 b o m h),f.2⟩ ?_ (λb o m h z=> ?_) ?_
 ·rw[e];exact w1.same sG
 ·rw[←z,f.1 b o m h]at n;cases n
 ·rw[e];exact t
end
def V8(c:Nat)(ns:List Int):a93:=match c,ns with
 |0,[n,x,y]=> .open_ n x y
 |1,[x,y,a,b,k,h,g]=> .box x y a b k h g
 |2,[x,y,r,k,h,g]=> .ball x y r k h g
 |3,[i,x,y]=> .aim i x y
 |4,[n]=> .tick n
 |5,[i]=> .body i
 |6,[]=> .places
 |7,[]=> .met
 |8,[i,x,y]=> .would i x y
 |9,[x,y,a,b]=> .room x y a b
 |10,[x,y,a,b]=> .ray x y a b
 |11,[i]=> .drop i
 |12,_::l=> .renumber l
 |13,[]=> .sums
 |15,[x,y,a,b]=> .order x y a b
 |_,_=> .totals
def aN5(c:Nat)(ns:List Int):Prop:=(c≠12->ns.length=(D0.getD c []).length)/\(c=12->∃l:List Int,ns=(l.length:Int)::l/\l.length<=30)
structure Pre(c:Nat)(s:a7T)(ns:List Int):Prop where
 form:aN5 c ns
 rng:X8 ns (O0 c (ns.length-1))=true
 opened:c≠0->c≠14->s.parts≠0
 body:c=3\/c=5\/c=8\/c=11->∀i:Int,ns.head? =some i->i<s.bodies.length
def J8(K:Frag)(C W:Addr)(c:Nat):Sp:=λvs H Q _=>∃(wa nl:Addr) (s:a7T) (ns:List Int) (own:List Addr),vs=[.ref wa,.ref nl]/\Wst K C W H wa s own/\SOk s/\n9 K H nl (ns.map V.int)/\Pre c s ns/\R8 K C W H Q wa s own (V8 c ns)
theorem A5{n:Int}{ns:List Int}{r:Rg}{rs:List Rg}:X8 (n::ns) (r::rs)=true↔(r.1<=n/\n<=r.2)/\X8 ns rs=true:=by
 unfold X8
 rw[a9u,all_cons,a7z,a7z,decide_eq_true_eq,decide_eq_true_eq]
theorem o0{α:Type}{l:List α}(h:l.length=0):l=[]:=a8C h
theorem oS{α:Type}{n:Nat}:∀{l:List α},l.length=n+1->∃a t,l=a::t/\t.length=n
 |a::t,h=>⟨a,t,rfl,Nat.succ.inj h⟩
theorem o1{α:Type}{l:List α}(h:l.length=1):∃a,l=[a]:=by
 obtain⟨a,t,rfl,k⟩:=oS h
 exact⟨a,congrArg _ (o0 k)⟩
theorem o2{α:Type}{l:List α}(h:l.length=2):∃a b,l=[a,b]:=by
 obtain⟨a,t,rfl,k⟩:=oS h
 obtain⟨b,rfl⟩:=o1 k
 exact⟨_,_,rfl⟩
theorem o3{α:Type}{l:List α}(h:l.length=3):∃a b c,l=[a,b,c]:=by
 obtain⟨a,t,rfl,k⟩:=oS h
 obtain⟨b,c,rfl⟩:=o2 k
 exact⟨_,_,_,rfl⟩
theorem o4{α:Type}{l:List α}(h:l.length=4):∃a b c d,l=[a,b,c,d]:=by
 obtain⟨a,t,rfl,k⟩:=oS h
 obtain⟨b,c,d,rfl⟩:=o3 k
 exact⟨_,_,_,_,rfl⟩
theorem o5{α:Type}{l:List α}(h:l.length=5):∃a b c d e,l=[a,b,c,d,e]:=by
 obtain⟨a,t,rfl,k⟩:=oS h
 obtain⟨b,c,d,e,rfl⟩:=o4 k
 exact⟨_,_,_,_,_,rfl⟩
theorem o6{α:Type}{l:List α}(h:l.length=6):∃a b c d e f,l=[a,b,c,d,e,f]:=by
 obtain⟨a,t,rfl,k⟩:=oS h
 obtain⟨b,c,d,e,f,rfl⟩:=o5 k
 exact⟨_,_,_,_,_,_,rfl⟩
theorem o7{α:Type}{l:List α}(h:l.length=7):∃a b c d e f g,l=[a,b,c,d,e,f,g]:=by
 obtain⟨a,t,rfl,k⟩:=oS h
 obtain⟨b,c,d,e,f,g,rfl⟩:=o6 k
 exact⟨_,_,_,_,_,_,_,rfl⟩
theorem Pre.form_rng{c:Nat}{s:a7T}{ns:List Int}(p:Pre c s ns)(h:c≠12):ns.length=(D0.getD c []).length/\X8 ns (D0.getD c [])=true:=by
 have:=p.rng
 unfold O0 at this
 rw[if_neg h,a72]at this
 exact⟨p.form.1 h,this⟩
section
variable{K:Frag}{C W:Addr}
theorem SOk.gd{s:a7T}(o:SOk s):∀i,i<s.bodies.length->Gd (bodyAt s.bodies i):=(o.ok.ok (by have:=o.ticks;lia)).gd
theorem a4A(vs:List V)(H:Hp)(Q:VK)(E:XK)(h:J8 K C W 0 vs H Q E):a05 K W vs H Q E:=by
 obtain⟨wa,nl,s,ns,own,rfl,hW,hO,hnl,pre,k⟩:=h
 obtain⟨hl,hr⟩:=pre.form_rng (by decide)
 obtain⟨n,x,y,rfl⟩:=o3 hl
 have hr':=hr
 change X8 [n,x,y] [(1,16),(-100,100),(-100,100)]=true at hr'
 rw[A5,A5,A5]at hr'
 obtain⟨⟨r1,r2⟩,⟨r3,r4⟩,⟨r5,r6⟩,_⟩:=hr'
 have k:R8 K C W H Q wa s own (.open_ n x y):=k
 have r1:1<=n:=r1
 have r2:n<=16:=r2
 have g1:(!(a8D n 1 16&&(a8D x (-100) 100&&a8D y (-100) 100)))=false:=by
  rw[a8F,a7z,a7z,A8,A8,A8]
  exact⟨⟨r1,r2⟩,⟨r3,r4⟩,r5,r6⟩
 obtain⟨dx,l,ml,as,ts,rfl,hA,hm,hts,hne⟩:=hW.ex
 obtain⟨⟨pq,fs,hw,fl,f1,f2,f3,f4,f5,tq,hT⟩,hB,hnw⟩:=hA
 refine⟨wa,dx,nl,fs,s.parts,n,x,y,rfl,hw,by lia,f3,hnl,λh0=> ?_,λh0 q G kG hG tG=> ?_⟩
 ·refine k.ans hW ?_ (f9.refl H)
  rw[a7H]
  rw[g8 g1,C6 (by simp;lia)]
 ·obtain⟨e1,e2,e3⟩:=hO.shut h0
  have es:a7H s (.open_ n x y)=(⟨n.toNat,⟨x,y⟩,[],0,[]⟩,[0]):=by
   rw[a7H]
   rw[g8 g1,g8 (by simp;lia),B9]
  have ea:as=[]:=by
   have:=hB.len
   rw[e1]at this
   exact a8C this
  subst ea
  have lw:l≠wa:=B7 hB.lst hw (by intro z;cases z)
  obtain⟨ys,hy1,hy2⟩:=hT
  have mw:ml≠wa:=B7 hy1 hw (by intro z;cases z)
  refine k.ans2 (own':=[wa,l,ml]) es ⟨λb o m h=>kG _ _ (λz=>m (by rw[z];exact a7C)) h,λb m=> .inl m⟩ ⟨dx,l,ml,[],ts,rfl,⟨⟨q,_,hG,?_,?_,?_,?_,?_,?_,tG,?_⟩,⟨kG _ _ lw hB.lst,a9q,.nil⟩,by simp⟩,?_,hts,hne⟩
  ·rw[J3 (u:=V.ref pq),J3 f3]
   ·exact fl
   ·rw[k9,if_neg (by decide)];exact f2
  ·rw[k9,if_neg (by decide),k9,if_neg (by decide)];exact f1
  ·rw[k9,if_pos rfl]
  ·rw[k9,if_neg (by decide),k9,if_pos rfl]
   have:((n.toNat:Nat):Int)=n:=by lia
   show some (V.int n)=some (V.int ((n.toNat:Nat):Int))
   rw[this]
  ·rw[k9,if_neg (by decide),k9,if_neg (by decide),f4,e2]
  ·rw[k9,if_neg (by decide),k9,if_neg (by decide)];exact f5
  ·exact⟨ys,kG _ _ mw hy1,Paired.monoP (λ_ _ ⟨q',e,hq⟩=>⟨q',e,kG.insT hw hq⟩) hy2⟩
  ·rw[←hm,e3]
end
section
variable{K:Frag}{C W:Addr}
theorem D6{s:a7T}(h:s.parts≠0):(a8K s).2=false:=by
 show(s.parts==0)=false
 simpa using h
theorem here{s:a7T}{i:Int}(h:i<s.bodies.length):(noBodyAt s i).2=false:=by
 show decide ((s.bodies.length:Int)<=i)=false
 exact decide_eq_false (by lia)
theorem a3H{H G:Hp}{q:Addr}{xs:List V}{P:Addr->Prop}(k:∀b o,¬P b->H b=some o->G b=some o)(n:∀b ys,P b->H b≠some (.tup ys)/\∀o,H b≠some (.frz o (.tup ys)))(h:v7 K H q xs):v7 K G q xs:=by
 rcases h with(h|⟨o',h⟩)|h
 ·exact .inl (.inl (k _ _ (λp=>(n _ _ p).1 h) h))
 ·exact .inl (.inr ⟨o',k _ _ (λp=>(n _ _ p).2 _ h) h⟩)
 ·exact .inr h
theorem X5.kp{H G:Hp}{l ml:Addr}{ts:List (Nat×Nat×Nat)}{ys:List V}(h:X5 K H ml ts)(hl:H l=some (.lst ys))(n:ml≠l)(k:Kp l H G):X5 K G ml ts:=by
 obtain⟨zs,h1,h2⟩:=h
 exact⟨zs,k _ _ n h1,Paired.monoP (λ_ _ ⟨q,e,hq⟩=>⟨q,e,k.tup hl hq⟩) h2⟩
theorem a1m{H:Hp}{Q:VK}{wa:Addr}{s:a7T}{own:List Addr}{c:a93}{dx l ml:Addr}{as:List Addr}{ts:List (Nat×Nat×Nat)}{b:a7s}(hW:Wst K C W H wa s own)(hO:SOk s)(k:R8 K C W H Q wa s own c)(eo:own=wa::l::ml::as)(hA:WAt K C W H wa dx l ml as s.parts s.pull s.bodies s.ticks ts)(hm:metNums s.met=ts.flatMap a3y)(hts:ts.length<=160000)(hne:l≠ml)(gb:Gd b)
 (e4:20<=s.bodies.length->a7H s c=(s,[-4])) (e6:s.bodies.length<20->a8z s.bodies b.shape b.at_≠[]->a7H s c=(s,[-6]))
 (e0:s.bodies.length<20->a8z s.bodies b.shape b.at_=[]->a7H s c=({s with bodies:=s.bodies++[b]},[0,(s.bodies.length:Int)])):a0l K C H Q l as s.bodies b:=by
 have et:=ae5 (bs:=s.bodies) gb.sh hO.ok.sh
 refine⟨λh G sG=>k.ans hW (e4 h) sG,λh h' G sG=>k.ans hW (e6 h (et▸h')) sG,λh h' G a kG na hB'=> ?_⟩
 subst eo
 obtain⟨⟨pq,fs,hw,fl,f1,f2,f3,f4,f5,tq,hT⟩,hB,hnw⟩:=hA
 have wl:wa≠l:=B7 hw hB.lst (by intro z;cases z)
 refine k.ans2 (e0 h (et▸h')) (own':=wa::l::ml::(as++[a])) ⟨λb o m e=>kG _ _ (λz=>m (by rw[z];simp)) e,λb m=> ?_⟩ ⟨dx,l,ml,as++[a],ts,rfl,⟨⟨pq,fs,kG _ _ wl hw,fl,f1,f2,f3,f4,f5,kG.tup hB.lst tq,hT.kp hB.lst (Ne.symm hne) kG⟩,hB',?_⟩,hm,hts,hne⟩
 ·simp only[a7D,a77,not_mem_nil,or_false]at m⊢
  rcases m with m|m|m|m|m
  ·exact .inl (.inl m)
  ·exact .inl (.inr (.inl m))
  ·exact .inl (.inr (.inr (.inl m)))
  ·exact .inl (.inr (.inr (.inr m)))
  ·rw[m];exact .inr na
 ·intro m
  rcases a77.mp m with m|m
  ·exact hnw m
  ·rw[a7N]at m
   rw[←m,hw]at na
   cases na
theorem a50(vs:List V)(H:Hp)(Q:VK)(E:XK)(h:J8 K C W 1 vs H Q E):a3w K C W vs H Q E:=by
 obtain⟨wa,nl,s,ns,own,rfl,hW,hO,hnl,pre,k⟩:=h
 obtain⟨hl,hr⟩:=pre.form_rng (by decide)
 have hp:=pre.opened (by decide) (by decide)
 obtain⟨x,y,hx,hy,kd,hd,hv,rfl⟩:=o7 hl
 have hr':=hr
 change X8 [x,y,hx,hy,kd,hd,hv] [P1,P1,S1,S1,(0,2),B1,B1]=true at hr'
 simp only[A5,P1,S1,B1]at hr'
 obtain⟨⟨a1,a2⟩,⟨a3,a4⟩,⟨a5,a6⟩,⟨a7,a8⟩,⟨a9,a10⟩,⟨a11,a12⟩,⟨a13,a14⟩,_⟩:=hr'
 have k:R8 K C W H Q wa s own (.box x y hx hy kd hd hv):=k
 have g1:(!(a8a x y&&(a8f hx&&(a8f hy&&a8x kd hd hv))))=false:=by
  simp only[a8F,a8a,a8f,a8x,a7z,A8,FAR]
  omega
 obtain⟨dx,l,ml,as,ts,eo,hA,hm,hts,hne⟩:=hW.ex
 have hA':=hA
 obtain⟨⟨pq,fs,hw,fl,f1,f2,f3,f4,f5,tq,hT⟩,hB,hnw⟩:=hA'
 have gb:Gd (ap3 (.box hx hy) x y kd hd hv):=⟨⟨⟨a5,a6⟩,a7,a8⟩,⟨by show-20000000<=x;lia,by show x<=20000000;lia⟩,⟨by show-20000000<=y;lia,by show y<=20000000;lia⟩⟩
 refine⟨wa,dx,l,nl,fs,as,s.bodies,x,y,hx,hy,kd,hd,hv,rfl,hw,f1,hB,hO.ok.few,hO.gd,hnl,gb,a9,by lia,by lia,a1m hW hO k eo hA hm hts hne gb (λh=> ?_) (λh h'=> ?_) (λh h'=> ?_)⟩
 ·rw[a7H,g8 g1,g8 (D6 hp),C6 (decide_eq_true h)]
 ·rw[a7H,g8 g1,g8 (D6 hp),g8 (decide_eq_false (by show¬20<=_;lia)),C6]
  have h':a8z s.bodies (.box hx hy) ⟨x,y⟩≠[]:=h'
  cases c:a8z s.bodies (.box hx hy) ⟨x,y⟩with
  |nil=>exact absurd c h'
  |cons u v=>rfl
 ·have h':a8z s.bodies (.box hx hy) ⟨x,y⟩=[]:=h'
  rw[a7H,g8 g1,g8 (D6 hp),g8 (decide_eq_false (by show¬20<=_;lia)),g8 (by rw[h'];rfl),B9]
  rfl
theorem a4B(vs:List V)(H:Hp)(Q:VK)(E:XK)(h:J8 K C W 2 vs H Q E):a1g K C W vs H Q E:=by
 obtain⟨wa,nl,s,ns,own,rfl,hW,hO,hnl,pre,k⟩:=h
 obtain⟨hl,hr⟩:=pre.form_rng (by decide)
 have hp:=pre.opened (by decide) (by decide)
 obtain⟨x,y,r,kd,hd,hv,rfl⟩:=o6 hl
 have hr':=hr
 change X8 [x,y,r,kd,hd,hv] [P1,P1,S1,(0,2),B1,B1]=true at hr'
 simp only[A5,P1,S1,B1]at hr'
 obtain⟨⟨a1,a2⟩,⟨a3,a4⟩,⟨a5,a6⟩,⟨a9,a10⟩,⟨a11,a12⟩,⟨a13,a14⟩,_⟩:=hr'
 have k:R8 K C W H Q wa s own (.ball x y r kd hd hv):=k
 have g1:(!(a8a x y&&(a8f r&&a8x kd hd hv)))=false:=by
  simp only[a8F,a8a,a8f,a8x,a7z,A8,FAR]
  omega
 obtain⟨dx,l,ml,as,ts,eo,hA,hm,hts,hne⟩:=hW.ex
 have hA':=hA
 obtain⟨⟨pq,fs,hw,fl,f1,f2,f3,f4,f5,tq,hT⟩,hB,hnw⟩:=hA'
 have gb:Gd (ap3 (.ball r) x y kd hd hv):=⟨⟨a5,a6⟩,⟨by show-20000000<=x;lia,by show x<=20000000;lia⟩,⟨by show-20000000<=y;lia,by show y<=20000000;lia⟩⟩
 refine⟨wa,dx,l,nl,fs,as,s.bodies,x,y,r,kd,hd,hv,rfl,hw,f1,hB,hO.ok.few,hO.gd,hnl,gb,a9,by lia,by lia,a1m hW hO k eo hA hm hts hne gb (λh=> ?_) (λh h'=> ?_) (λh h'=> ?_)⟩
 ·rw[a7H,g8 g1,g8 (D6 hp),C6 (decide_eq_true h)]
 ·rw[a7H,g8 g1,g8 (D6 hp),g8 (decide_eq_false (by show¬20<=_;lia)),C6]
  have h':a8z s.bodies (.ball r) ⟨x,y⟩≠[]:=h'
  cases c:a8z s.bodies (.ball r) ⟨x,y⟩with
  |nil=>exact absurd c h'
  |cons u v=>rfl
 ·have h':a8z s.bodies (.ball r) ⟨x,y⟩=[]:=h'
  rw[a7H,g8 g1,g8 (D6 hp),g8 (decide_eq_false (by show¬20<=_;lia)),g8 (by rw[h'];rfl),B9]
  rfl
theorem a51(vs:List V)(H:Hp)(Q:VK)(E:XK)(h:J8 K C W 3 vs H Q E):a4V K C W vs H Q E:=by
 obtain⟨wa,nl,s,ns,own,rfl,hW,hO,hnl,pre,k⟩:=h
 obtain⟨hl,hr⟩:=pre.form_rng (by decide)
 have hp:=pre.opened (by decide) (by decide)
 obtain⟨i,vx,vy,rfl⟩:=o3 hl
 have hib:=pre.body (.inl rfl) i rfl
 have hr':=hr
 change X8 [i,vx,vy] [I1,V1,V1]=true at hr'
 simp only[A5,I1,V1]at hr'
 obtain⟨⟨a1,a2⟩,⟨a3,a4⟩,⟨a5,a6⟩,_⟩:=hr'
 have k:R8 K C W H Q wa s own (.aim i vx vy):=k
 have g1:(!(a78 i&&(a8D vx (-FAST) FAST&&a8D vy (-FAST) FAST)))=false:=by
  simp only[a8F,a78,a7z,A8,FAST]
  lia
 obtain⟨dx,l,ml,as,ts,rfl,hA,hm,hts,hne⟩:=hW.ex
 obtain⟨⟨pq,fs,hw,fl,f1,f2,f3,f4,f5,tq,hT⟩,hB,hnw⟩:=hA
 have ei:((i.toNat:Nat):Int)=i:=by lia
 have hnl:n9 K H nl [.int ((i.toNat:Nat):Int),.int vx,.int vy]:=by rw[ei];exact hnl
 refine⟨wa,dx,l,nl,fs,as,s.bodies,i.toNat,vx,vy,rfl,hw,f1,hB,hnl,by lia,λh0=> ?_,λh0 G bG hB'=> ?_⟩
 ·refine k.ans hW ?_ (f9.refl H)
  rw[a7H,g8 g1,g8 (D6 hp),g8 (here hib),C6 (by show((bodyAt s.bodies i.toNat).kind==0)=true;rw[h0];rfl)]
 ·have es:a7H s (.aim i vx vy)=({s with bodies:=s.bodies.set i.toNat {bodyAt s.bodies i.toNat with v:=⟨vx,vy⟩}},[0]):=by
   rw[a7H,g8 g1,g8 (D6 hp),g8 (here hib),g8 (by show((bodyAt s.bodies i.toNat).kind==0)=false;simpa using h0),B9]
  obtain⟨ys,hy1,hy2⟩:=hT
  exact k.ans2 es (own':=wa::l::ml::as) ⟨λb o m e=>bG _ _ (λz=>m (by simp[z])) e,λb m=> .inl m⟩ ⟨dx,l,ml,as,ts,rfl,⟨⟨pq,fs,bG _ _ hnw hw,fl,f1,f2,f3,f4,f5,bG.tup hB tq,ys,bG.lst hB hy1,Paired.monoP (λ_ _ ⟨q,e,hq⟩=>⟨q,e,bG.tup hB hq⟩) hy2⟩,hB',hnw⟩,hm,hts,hne⟩
theorem a4C(vs:List V)(H:Hp)(Q:VK)(E:XK)(h:J8 K C W 4 vs H Q E):a06 K C W vs H Q E:=by
 obtain⟨wa,nl,s,ns,own,rfl,hW,hO,hnl,pre,k⟩:=h
 obtain⟨hl,hr⟩:=pre.form_rng (by decide)
 have hp:=pre.opened (by decide) (by decide)
 obtain⟨n,rfl⟩:=o1 hl
 have hr':=hr
 change X8 [n] [(1,20)]=true at hr'
 simp only[A5]at hr'
 obtain⟨⟨a1,a2⟩,_⟩:=hr'
 have k:R8 K C W H Q wa s own (.tick n):=k
 have g1:(!a8D n 1 20)=false:=by
  rw[a8F,A8]
  exact⟨a1,a2⟩
 obtain⟨dx,l,ml,as,ts,rfl,hA,hm,hts,hne⟩:=hW.ex
 have hB:=hA.bd
 have en:((n.toNat:Nat):Int)=n:=by lia
 have n0:0<n.toNat:=by lia
 have hnl:n9 K H nl [.int ((n.toNat:Nat):Int)]:=by rw[en];exact hnl
 obtain⟨tk1,tk2⟩:=a5Q s.parts s.pull s.bodies ts n0
 refine⟨wa,dx,l,ml,nl,as,s.parts,s.pull,s.bodies,s.ticks,ts,n.toNat,rfl,hA,hO.ok,hO.parts,hnl,λh8=> ?_,λh8 ml' G hml bG hA'=> ?_⟩
 ·refine k.ans hW ?_ (f9.refl H)
  rw[a7H,g8 g1,g8 (D6 hp),C6 (decide_eq_true h8)]
 ·have es:a7H s (.tick n)=({s with bodies:=(ticksOf s.parts s.pull n.toNat s.bodies).1,ticks:=s.ticks+n.toNat,met:=(ticksOf s.parts s.pull n.toNat s.bodies).2},[0,((((ticksOf s.parts s.pull n.toNat s.bodies).2.map a9G).sum:Nat):Int)]):=by
   rw[a7H,g8 g1,g8 (D6 hp),g8 (decide_eq_false (by lia)),B9]
  rw[al1 s.parts s.pull s.bodies n0,tk2]at es
  have hl':l≠ml':=by
   rcases hml with z|z
   ·rw[z];exact hne
   ·exact j0 hB.lst z
  refine k.ans2 es (own':=wa::l::ml'::as) ⟨λb o m e=>bG _ _ (λz=>m (by rcases a7D.mp z with z|z<;>simp[z])) e,λb m=> ?_⟩ ⟨dx,l,ml',as,_,rfl,hA',tk1,?_,hl'⟩
  ·simp only[a7D]at m⊢
   rcases m with m|m|m|m
   ·exact .inl (.inl m)
   ·exact .inl (.inr (.inl m))
   ·rcases hml with z|z
    ·exact .inl (.inr (.inr (.inl (m.trans z))))
    ·rw[m];exact .inr z
   ·exact .inl (.inr (.inr (.inr m)))
  ·obtain⟨j,hj⟩:∃j,n.toNat=j+1:=⟨n.toNat-1,by lia⟩
   rw[hj]
   show(V0 ((tkB s.parts s.pull s.bodies j).map (a7V s.pull)) s.parts).length<=160000
   have hlen:((tkB s.parts s.pull s.bodies j).map (a7V s.pull)).length<=20:=by
    rw[a7r]
    exact(aL1 hO.ok hO.parts j (by lia)).few
   have h1:=ao3 _ hlen s.parts
   have h2:=hO.parts
   lia
theorem a4D(vs:List V)(H:Hp)(Q:VK)(E:XK)(h:J8 K C W 5 vs H Q E):a07 K C W vs H Q E:=by
 obtain⟨wa,nl,s,ns,own,rfl,hW,hO,hnl,pre,k⟩:=h
 obtain⟨hl,hr⟩:=pre.form_rng (by decide)
 have hp:=pre.opened (by decide) (by decide)
 obtain⟨i,rfl⟩:=o1 hl
 have hib:=pre.body (.inr (.inl rfl)) i rfl
 have hr':=hr
 change X8 [i] [I1]=true at hr'
 simp only[A5,I1]at hr'
 obtain⟨⟨a1,a2⟩,_⟩:=hr'
 have k:R8 K C W H Q wa s own (.body i):=k
 have g1:(!a78 i)=false:=by
  rw[a8F,a78,A8]
  exact⟨a1,a2⟩
 obtain⟨dx,l,ml,as,ts,eo,hA,hm,hts,hne⟩:=hW.ex
 obtain⟨⟨pq,fs,hw,fl,f1,f2,f3,f4,f5,tq,hT⟩,hB,hnw⟩:=hA
 have ei:((i.toNat:Nat):Int)=i:=by lia
 have hnl:n9 K H nl [.int ((i.toNat:Nat):Int)]:=by rw[ei];exact hnl
 refine⟨wa,dx,l,nl,fs,as,s.bodies,i.toNat,rfl,hw,f1,hB,hnl,by lia,k.ans hW ?_ (f9.refl H)⟩
 rw[a7H,g8 g1,g8 (D6 hp),g8 (here hib),B9]
theorem a2f(vs:List V)(H:Hp)(Q:VK)(E:XK)(h:J8 K C W 6 vs H Q E):aS3 K C W vs H Q E:=by
 obtain⟨wa,nl,s,ns,own,rfl,hW,hO,hnl,pre,k⟩:=h
 obtain⟨hl,hr⟩:=pre.form_rng (by decide)
 have hp:=pre.opened (by decide) (by decide)
 obtain rfl:=o0 hl
 have k:R8 K C W H Q wa s own .places:=k
 obtain⟨dx,l,ml,as,ts,eo,hA,hm,hts,hne⟩:=hW.ex
 obtain⟨⟨pq,fs,hw,fl,f1,f2,f3,f4,f5,tq,hT⟩,hB,hnw⟩:=hA
 refine⟨wa,dx,l,.ref nl,fs,as,s.bodies,rfl,hw,f1,hB,hO.ok.few,k.ans hW ?_ (f9.refl H)⟩
 rw[a7H,g8 (D6 hp),B9]
 rfl
theorem a52(vs:List V)(H:Hp)(Q:VK)(E:XK)(h:J8 K C W 7 vs H Q E):a40 K W vs H Q E:=by
 obtain⟨wa,nl,s,ns,own,rfl,hW,hO,hnl,pre,k⟩:=h
 obtain⟨hl,hr⟩:=pre.form_rng (by decide)
 have hp:=pre.opened (by decide) (by decide)
 obtain rfl:=o0 hl
 have k:R8 K C W H Q wa s own .met:=k
 obtain⟨dx,l,ml,as,ts,eo,hA,hm,hts,hne⟩:=hW.ex
 obtain⟨⟨pq,fs,hw,fl,f1,f2,f3,f4,f5,tq,hT⟩,hB,hnw⟩:=hA
 refine⟨wa,dx,ml,.ref nl,fs,ts,rfl,hw,f5,hT,by lia,k.ans hW ?_ (f9.refl H)⟩
 rw[a7H,g8 (D6 hp),B9,hm]
theorem a3I(vs:List V)(H:Hp)(Q:VK)(E:XK)(h:J8 K C W 8 vs H Q E):a1i K C W vs H Q E:=by
 obtain⟨wa,nl,s,ns,own,rfl,hW,hO,hnl,pre,k⟩:=h
 obtain⟨hl,hr⟩:=pre.form_rng (by decide)
 have hp:=pre.opened (by decide) (by decide)
 obtain⟨i,vx,vy,rfl⟩:=o3 hl
 have hib:=pre.body (.inr (.inr (.inl rfl))) i rfl
 have hr':=hr
 change X8 [i,vx,vy] [I1,P1,P1]=true at hr'
 simp only[A5,I1,P1]at hr'
 obtain⟨⟨a1,a2⟩,⟨a3,a4⟩,⟨a5,a6⟩,_⟩:=hr'
 have k:R8 K C W H Q wa s own (.would i vx vy):=k
 have g1:(!(a78 i&&(a8D vx (-FAR) FAR&&a8D vy (-FAR) FAR)))=false:=by
  simp only[a8F,a78,a7z,A8,FAR]
  lia
 obtain⟨dx,l,ml,as,ts,eo,hA,hm,hts,hne⟩:=hW.ex
 obtain⟨⟨pq,fs,hw,fl,f1,f2,f3,f4,f5,tq,hT⟩,hB,hnw⟩:=hA
 have ei:((i.toNat:Nat):Int)=i:=by lia
 have hnl:n9 K H nl [.int ((i.toNat:Nat):Int),.int vx,.int vy]:=by rw[ei];exact hnl
 refine⟨wa,dx,l,nl,fs,as,s.bodies,i.toNat,vx,vy,rfl,hw,f1,hB,hO.ok.few,hO.gd,hnl,⟨by lia,by lia⟩,⟨by lia,by lia⟩,by lia,k.ans hW ?_ (f9.refl H)⟩
 rw[a7H,g8 g1,g8 (D6 hp),g8 (here hib),B9]
 show(s,0::Vbwsam.ints _)=(s,0::(W7 s.bodies i.toNat vx vy s.bodies.length).map Int.ofNat)
 unfold Vbwsam.ints W7
 refine congrArg (λz=>(s,(0:Int)::List.map Int.ofNat z)) (a9z λj hj=> ?_)
 rw[a0p (hO.ok.sh _ (by lia)) (hO.ok.sh j (a8G.mp hj))]
theorem a4E(vs:List V)(H:Hp)(Q:VK)(E:XK)(h:J8 K C W 9 vs H Q E):a3x K C W vs H Q E:=by
 obtain⟨wa,nl,s,ns,own,rfl,hW,hO,hnl,pre,k⟩:=h
 obtain⟨hl,hr⟩:=pre.form_rng (by decide)
 have hp:=pre.opened (by decide) (by decide)
 obtain⟨x,y,hx,hy,rfl⟩:=o4 hl
 have hr':=hr
 change X8 [x,y,hx,hy] [P1,P1,S1,S1]=true at hr'
 simp only[A5,P1,S1]at hr'
 obtain⟨⟨a1,a2⟩,⟨a3,a4⟩,⟨a5,a6⟩,⟨a7,a8⟩,_⟩:=hr'
 have k:R8 K C W H Q wa s own (.room x y hx hy):=k
 have g1:(!(a8a x y&&(a8f hx&&a8f hy)))=false:=by
  simp only[a8F,a8a,a8f,a7z,A8,FAR]
  lia
 obtain⟨dx,l,ml,as,ts,eo,hA,hm,hts,hne⟩:=hW.ex
 obtain⟨⟨pq,fs,hw,fl,f1,f2,f3,f4,f5,tq,hT⟩,hB,hnw⟩:=hA
 have gb:Gd (ap3 (.box hx hy) x y 0 0 0):=⟨⟨⟨a5,a6⟩,a7,a8⟩,⟨by show-20000000<=x;lia,by show x<=20000000;lia⟩,⟨by show-20000000<=y;lia,by show y<=20000000;lia⟩⟩
 refine⟨wa,dx,l,nl,fs,as,s.bodies,x,y,hx,hy,rfl,hw,f1,hB,hO.ok.few,hO.gd,hnl,gb,k.ans hW ?_ (f9.refl H)⟩
 rw[a7H,g8 g1,g8 (D6 hp),B9,ae5 gb.sh hO.ok.sh]
 rfl
theorem a1n{f:Mb.Hit->List Int}{c:Nat}{vs:List V}{H:Hp}{Q:VK}{E:XK}(h:J8 K C W c vs H Q E)(hc:c=10\/c=15)(hs:∀(s:a7T) (x y dx dy:Int),a7H s (V8 c [x,y,dx,dy])=a8H s [(-1, !(a8a x y&&(a8D dx (-FAR) FAR&&a8D dy (-FAR) FAR))),a8K s] λ_=>(s,0::(a9k s.bodies ⟨x,y⟩ ⟨dx,dy⟩).flatMap f)):aU7 K C W f vs H Q E:=by
 obtain⟨wa,nl,s,ns,own,rfl,hW,hO,hnl,pre,k⟩:=h
 obtain⟨hl,hr⟩:=pre.form_rng (by lia)
 have hp:=pre.opened (by lia) (by lia)
 have eT:D0.getD c []=[P1,P1,P1,P1]:=by rcases hc with rfl|rfl<;>rfl
 rw[eT]at hl hr
 obtain⟨x,y,wx,wy,rfl⟩:=o4 hl
 simp only[A5,P1]at hr
 obtain⟨⟨a1,a2⟩,⟨a3,a4⟩,⟨a5,a6⟩,⟨a7,a8⟩,_⟩:=hr
 have g1:(!(a8a x y&&(a8D wx (-FAR) FAR&&a8D wy (-FAR) FAR)))=false:=by
  simp only[a8F,a8a,a7z,A8,FAR]
  lia
 obtain⟨dx,l,ml,as,ts,eo,hA,hm,hts,hne⟩:=hW.ex
 obtain⟨⟨pq,fs,hw,fl,f1,f2,f3,f4,f5,tq,hT⟩,hB,hnw⟩:=hA
 refine⟨wa,dx,l,nl,fs,as,s.bodies,x,y,wx,wy,rfl,hw,f1,hB,hO.ok.few,hO.gd,hnl,⟨⟨a1,a2⟩,⟨a3,a4⟩,⟨a5,a6⟩,a7,a8⟩,k.ans hW ?_ (f9.refl H)⟩
 rw[hs,g8 g1,g8 (D6 hp),B9]
theorem a53(vs:List V)(H:Hp)(Q:VK)(E:XK)(h:J8 K C W 10 vs H Q E):aU7 K C W a3B vs H Q E:=a1n h (.inl rfl) (λs x y dx dy=>by show a7H s (.ray x y dx dy)=_;rw[a7H];rfl)
theorem a3J(vs:List V)(H:Hp)(Q:VK)(E:XK)(h:J8 K C W 15 vs H Q E):aU7 K C W a3C vs H Q E:=a1n h (.inr rfl) (λs x y dx dy=>by show a7H s (.order x y dx dy)=_;rw[a7H];rfl)
theorem a4F(vs:List V)(H:Hp)(Q:VK)(E:XK)(h:J8 K C W 11 vs H Q E):a3z K C W vs H Q E:=by
 obtain⟨wa,nl,s,ns,own,rfl,hW,hO,hnl,pre,k⟩:=h
 obtain⟨hl,hr⟩:=pre.form_rng (by decide)
 have hp:=pre.opened (by decide) (by decide)
 obtain⟨i,rfl⟩:=o1 hl
 have hib:=pre.body (.inr (.inr (.inr rfl))) i rfl
 have hr':=hr
 change X8 [i] [I1]=true at hr'
 simp only[A5,I1]at hr'
 obtain⟨⟨a1,a2⟩,_⟩:=hr'
 have k:R8 K C W H Q wa s own (.drop i):=k
 have g1:(!a78 i)=false:=by
  rw[a8F,a78,A8]
  exact⟨a1,a2⟩
 obtain⟨dx,l,ml,as,ts,rfl,hA,hm,hts,hne⟩:=hW.ex
 obtain⟨⟨pq,fs,hw,fl,f1,f2,f3,f4,f5,tq,hT⟩,hB,hnw⟩:=hA
 have ei:((i.toNat:Nat):Int)=i:=by lia
 have hnl:n9 K H nl [.int ((i.toNat:Nat):Int)]:=by rw[ei];exact hnl
 refine⟨wa,dx,l,nl,fs,as,s.bodies,i.toNat,rfl,hw,by lia,f1,hB,hnw,hnl,by lia,λml' G kG nm hG hB' hml=> ?_⟩
 have es:a7H s (.drop i)=({s with bodies:=s.bodies.eraseIdx i.toNat,met:=[]},[0]):=by
  rw[a7H,g8 g1,g8 (D6 hp),g8 (here hib),B9]
 have tqG:v7 K G pq [.int s.pull.x,.int s.pull.y]:=a3H (P:=λb=>b=wa\/b=l) (λb o n e=>kG b o (λz=>n (.inl z)) (λz=>n (.inr z)) e) (λb ys z=>by
  rcases z with z|z<;>subst z
  ·rw[hw];exact⟨(by intro q;cases q),(by intro o q;cases q)⟩
  ·rw[hB.lst];exact⟨(by intro q;cases q),(by intro o q;cases q)⟩) tq
 refine k.ans2 es (own':=wa::l::ml'::as.eraseIdx i.toNat) ⟨λb o m e=>kG _ _ (λz=>m (by simp[z])) (λz=>m (by simp[z])) e,λb m=> ?_⟩ ⟨dx,l,ml',as.eraseIdx i.toNat,[],rfl,⟨⟨pq,_,hG,?_,?_,?_,?_,?_,?_,tqG,[],hml,.nil⟩,hB',λm=>hnw (List.mem_of_mem_eraseIdx m)⟩,rfl,a8n _,j0 hB.lst nm⟩
 ·simp only[a7D]at m⊢
  rcases m with m|m|m|m
  ·exact .inl (.inl m)
  ·exact .inl (.inr (.inl m))
  ·rw[m];exact .inr nm
  ·exact .inl (.inr (.inr (.inr (List.mem_of_mem_eraseIdx m))))
 ·rw[J3 f5];exact fl
 ·rw[k9,if_neg (by decide)];exact f1
 ·rw[k9,if_neg (by decide)];exact f2
 ·rw[k9,if_neg (by decide)];exact f3
 ·rw[k9,if_neg (by decide)];exact f4
 ·rw[k9,if_pos rfl]
theorem a1o:∀{l:List Int},X8 l (a9c l.length I1)=true->∀z∈l,0<=z/\z<=19
 |[],_,z,hz=>by cases hz
 |a::r,h,z,hz=>by
  rw[a7O,List.replicate_succ,A5]at h
  rcases a7D.mp hz with e|hz
  ·rw[e];exact h.1
  ·exact a1o h.2 z hz
theorem aV0(vs:List V)(H:Hp)(Q:VK)(E:XK)(h:J8 K C W 12 vs H Q E):a1j K C W vs H Q E:=by
 obtain⟨wa,nl,s,ns,own,rfl,hW,hO,hnl,pre,k⟩:=h
 have hp:=pre.opened (by decide) (by decide)
 obtain⟨l0,rfl,h30⟩:=pre.form.2 rfl
 have hr:=pre.rng
 have k:R8 K C W H Q wa s own (.renumber l0):=k
 have hr1:X8 ((l0.length:Int)::l0) ((0,20)::a9c l0.length I1)=true:=hr
 rw[A5]at hr1
 obtain⟨⟨b1,b2⟩,hr2⟩:=hr1
 have b2:(l0.length:Int)<=20:=b2
 have hall:=a1o hr2
 have g1:(!(decide (l0.length<=20)&&l0.all a78))=false:=by
  rw[a8F,a7z,decide_eq_true_eq,all_eq_true]
  refine⟨by lia,λz hz=> ?_⟩
  rw[a78,A8]
  exact hall z hz
 obtain⟨dx,l,ml,as,ts,rfl,hA,hm,hts,hne⟩:=hW.ex
 obtain⟨⟨pq,fs,hw,fl,f1,f2,f3,f4,f5,tq,hT⟩,hB,hnw⟩:=hA
 refine⟨wa,dx,l,nl,fs,as,s.bodies,_,l0,rfl,hw,by lia,f1,hB,hnw,hO.ok.few,hnl,h30,λh5 G sG=> ?_,λh5 l' ml' G kG nl' nm hne' hG hB' hml=> ?_⟩
 ·refine k.ans hW ?_ sG
  rw[a7H,g8 g1,g8 (D6 hp),C6 (by rw[h5];rfl)]
 ·have es:a7H s (.renumber l0)=({s with bodies:=l0.map λi=>bodyAt s.bodies i.toNat,met:=[]},[0]):=by
   rw[a7H,g8 g1,g8 (D6 hp),g8 (by rw[h5];rfl),B9]
  have sub:∀b∈l0.map λz=>as.getD z.toNat 0,b∈as:=λb m=>by
   obtain⟨z,hz,e⟩:=a8j.mp m
   obtain⟨i,rfl,hi⟩:=T8 h5 hz
   have hiA:i<as.length:=by rw[hB.len];exact hi
   rw[←e]
   show as.getD i 0∈as
   rw[a7y,a7u hiA]
   exact List.getElem_mem hiA
  refine k.ans2 es (own':=wa::l'::ml'::(l0.map λz=>as.getD z.toNat 0)) ⟨λb o m e=>kG _ _ (λz=>m (by simp[z])) e,λb m=> ?_⟩ ⟨dx,l',ml',_,[],rfl,⟨⟨pq,_,hG,?_,?_,?_,?_,?_,?_,kG.insT hw tq,[],hml,.nil⟩,hB',λm=>hnw (sub _ m)⟩,rfl,a8n _,hne'⟩
  ·simp only[a7D]at m⊢
   rcases m with m|m|m|m
   ·exact .inl (.inl m)
   ·rw[m];exact .inr nl'
   ·rw[m];exact .inr nm
   ·exact .inl (.inr (.inr (.inr (sub _ m))))
  ·rw[J3 (u:=V.ref ml),J3 f1]
   ·exact fl
   ·rw[k9,if_neg (by decide)];exact f5
  ·rw[k9,if_neg (by decide),k9,if_pos rfl]
  ·rw[k9,if_neg (by decide),k9,if_neg (by decide)];exact f2
  ·rw[k9,if_neg (by decide),k9,if_neg (by decide)];exact f3
  ·rw[k9,if_neg (by decide),k9,if_neg (by decide)];exact f4
  ·rw[k9,if_pos rfl]
theorem af9(f:a7s->Int):∀(l:List a7s) (a:Int),(∀b∈l,b.kind=0->f b=0)->(l.filter λb=>b.kind !=0).foldl (λn b=>n+f b) a=a+(l.map f).sum
 |[],a,_=>by simp
 |b::r,a,h=>by
  have ih:=λa=>af9 f r a (λc m=>h c (a7B _ m))
  rw[a7U,sum_cons]
  by_cases c:b.kind=0
  ·rw[List.filter_cons_of_neg (by simp[c]),ih,h b a7C c]
   lia
  ·rw[List.filter_cons_of_pos (by simpa using c),a8P,ih]
   lia
theorem aV1:∀l:List a7s,((vxs l++vys l).map λn=>n*n).sum=(l.map λb=>Vbwsam.dot b.v b.v).sum
 |[]=>rfl
 |b::r=>by
  have ih:=aV1 r
  unfold vxs vys at*
  rw[a8m,List.sum_append]at*
  rw[a7U,a7U,a7U,a7U,a7U,sum_cons,sum_cons,sum_cons]
  show _=(b.v.x*b.v.x+b.v.y*b.v.y)+_
  lia
theorem a4G(vs:List V)(H:Hp)(Q:VK)(E:XK)(h:J8 K C W 13 vs H Q E):a3D K C W vs H Q E:=by
 obtain⟨wa,nl,s,ns,own,rfl,hW,hO,hnl,pre,k⟩:=h
 obtain⟨hl,hr⟩:=pre.form_rng (by decide)
 have hp:=pre.opened (by decide) (by decide)
 obtain rfl:=o0 hl
 have k:R8 K C W H Q wa s own .sums:=k
 obtain⟨dx,l,ml,as,ts,eo,hA,hm,hts,hne⟩:=hW.ex
 obtain⟨⟨pq,fs,hw,fl,f1,f2,f3,f4,f5,tq,hT⟩,hB,hnw⟩:=hA
 have mem:∀b∈s.bodies,∃i,i<s.bodies.length/\bodyAt s.bodies i=b:=λb hb=>by
  obtain⟨i,hi,e⟩:=List.getElem_of_mem hb
  exact⟨i,hi,A1 (by rw[a7u hi,e])⟩
 have fix:∀b∈s.bodies,b.kind=0->b.v=zeroPair:=λb hb h0=>by
  obtain⟨i,hi,e⟩:=mem b hb
  rw[←e]at h0⊢
  exact hO.ok.fix i hi h0
 refine⟨wa,dx,l,.ref nl,fs,as,s.bodies,rfl,hw,f1,hB,hO.ok.few,λb hb=> ?_,k.ans hW ?_ (f9.refl H)⟩
 ·obtain⟨i,hi,e⟩:=mem b hb
  have:=hO.ok.vel i hi
  rw[e]at this
  exact⟨⟨by lia,by lia⟩,⟨by lia,by lia⟩⟩
 ·rw[a7H,g8 (D6 hp),B9]
  show(s,[0,(s.bodies.filter λb=>b.kind !=0).foldl (λn b=>n+b.v.x) 0,(s.bodies.filter λb=>b.kind !=0).foldl (λn b=>n+b.v.y) 0,(s.bodies.filter λb=>b.kind !=0).foldl (λn b=>n+Vbwsam.dot b.v b.v) 0])=_
  rw[af9 (λb=>b.v.x) s.bodies 0 (λb hb h0=>by rw[fix b hb h0];rfl),af9 (λb=>b.v.y) s.bodies 0 (λb hb h0=>by rw[fix b hb h0];rfl),af9 (λb=>Vbwsam.dot b.v b.v) s.bodies 0 (λb hb h0=>by rw[fix b hb h0];rfl),aV1,a96,a96,a96]
  rfl
theorem a2g(vs:List V)(H:Hp)(Q:VK)(E:XK)(h:J8 K C W 14 vs H Q E):aU4 K W vs H Q E:=by
 obtain⟨wa,nl,s,ns,own,rfl,hW,hO,hnl,pre,k⟩:=h
 obtain⟨hl,hr⟩:=pre.form_rng (by decide)
 obtain rfl:=o0 hl
 have k:R8 K C W H Q wa s own .totals:=k
 obtain⟨dx,l,ml,as,ts,eo,hA,hm,hts,hne⟩:=hW.ex
 obtain⟨⟨pq,fs,hw,fl,f1,f2,f3,f4,f5,tq,hT⟩,hB,hnw⟩:=hA
 refine⟨wa,dx,l,pq,.ref nl,fs,s.parts,s.ticks,s.pull,as.map V.ref,rfl,hw,f1,f2,f3,f4,tq,hB.lst,k.ans hW ?_ (f9.refl H)⟩
 rw[a7r,hB.len]
 rfl
end
abbrev W8:Stmt:=O7 80
theorem K9{rs:List Rg}:X8 [] rs=true:=by unfold X8;rw[List.zip_nil_left];rfl
theorem F5{c m:Nat}(h:c≠12):O0 c m=D0.getD c []:=by unfold O0;rw[if_neg h,a72]
theorem O1{s:a7T}{c:Nat}{ns:List Int}{g:Bool}{rest:List (Int×Bool)}{k:Unit->a7T×List Int}(hs:a7H s (V8 c ns)=a8H s ((-1, !g)::a8K s::rest) k)(e:g=X8 ns (O0 c (ns.length-1)))(hb:c=3\/c=5\/c=8\/c=11->∃i rest',ns.head? =some i/\rest=noBodyAt s i::rest'):
 ∃rest k,a7H s (V8 c ns)=a8H s ((-1, !X8 ns (O0 c (ns.length-1)))::a8K s::rest) k/\(c=3\/c=5\/c=8\/c=11->∃i rest',ns.head? =some i/\rest=noBodyAt s i::rest'):=⟨rest,k,e▸hs,hb⟩
theorem aB8{s:a7T}{c:Nat}{rest:List (Int×Bool)}{k:Unit->a7T×List Int}(hs:a7H s (V8 c [])=a8H s (a8K s::rest) k)(hb:¬(c=3\/c=5\/c=8\/c=11)):
 ∃rest k,a7H s (V8 c [])=a8H s ((-1, !X8 [] (O0 c (([]:List Int).length-1)))::a8K s::rest) k/\(c=3\/c=5\/c=8\/c=11->∃i rest',([]:List Int).head?=some i/\rest=noBodyAt s i::rest'):=⟨rest,k,by rw[g8 (x:=(-1,_)) (by rw[K9];rfl)];exact hs,λh=>absurd h hb⟩
theorem aI1:∀l:List Int,(∀x∈l,a78 x=true)↔X8 l (a9c l.length I1)=true
 |[]=>⟨λ_=>K9,λ_ x hx=>by cases hx⟩
 |a::r=>by
  rw[a7O,List.replicate_succ,A5,←aI1 r]
  constructor
  ·intro h
   have:=h a a7C
   rw[a78,A8]at this
   exact⟨this,λx hx=>h x (a7B _ hx)⟩
  ·rintro⟨h1,h2⟩ x hx
   rcases a7D.mp hx with q|hx
   ·rw[q,a78,A8];exact h1
   ·exact h2 x hx
theorem a54:∀c<16,c=0\/c=1\/c=2\/c=3\/c=4\/c=5\/c=6\/c=7\/c=8\/c=9\/c=10\/c=11\/c=12\/c=13\/c=14\/c=15:=by decide
theorem ap6{s:a7T}{c:Nat}{ns:List Int}(hc:c<16)(f:aN5 c ns)(h0:c≠0)(h14:c≠14):
 ∃rest k,a7H s (V8 c ns)=a8H s ((-1, !X8 ns (O0 c (ns.length-1)))::a8K s::rest) k/\(c=3\/c=5\/c=8\/c=11->∃i rest',ns.head? =some i/\rest=noBodyAt s i::rest'):=by
 rcases a54 c hc with rfl|rfl|rfl|rfl|rfl|rfl|rfl|rfl|rfl|rfl|rfl|rfl|rfl|rfl|rfl|rfl
 ·exact absurd rfl h0
 ·obtain⟨x,y,a,b,k,h,g,rfl⟩:=o7 (f.1 (by decide))
  refine O1 (c:=1) (ns:=[x,y,a,b,k,h,g]) (Vbwsam.step.eq_2 ..) ?_ (absurd · (by decide))
  rw[F5 (by decide)]
  show _=X8 _ [P1,P1,S1,S1,(0,2),B1,B1]
  rw[a7W]
  simp only[A5,K9,a8a,a8f,a8x,a78,a7z,A8,FAR,FAST,P1,S1,B1,I1,V1,and_true,and_assoc]
 ·obtain⟨x,y,r,k,h,g,rfl⟩:=o6 (f.1 (by decide))
  refine O1 (c:=2) (ns:=[x,y,r,k,h,g]) (Vbwsam.step.eq_3 ..) ?_ (absurd · (by decide))
  rw[F5 (by decide)]
  show _=X8 _ [P1,P1,S1,(0,2),B1,B1]
  rw[a7W]
  simp only[A5,K9,a8a,a8f,a8x,a78,a7z,A8,FAR,FAST,P1,S1,B1,I1,V1,and_true,and_assoc]
 ·obtain⟨i,x,y,rfl⟩:=o3 (f.1 (by decide))
  refine O1 (c:=3) (ns:=[i,x,y]) (Vbwsam.step.eq_4 ..) ?_ (λ_=>⟨_,_,rfl,rfl⟩)
  rw[F5 (by decide)]
  show _=X8 _ [I1,V1,V1]
  rw[a7W]
  simp only[A5,K9,a8a,a8f,a8x,a78,a7z,A8,FAR,FAST,P1,S1,B1,I1,V1,and_true,and_assoc]
 ·obtain⟨n,rfl⟩:=o1 (f.1 (by decide))
  refine O1 (c:=4) (ns:=[n]) (Vbwsam.step.eq_5 ..) ?_ (absurd · (by decide))
  rw[F5 (by decide)]
  show _=X8 _ [(1,20)]
  rw[a7W]
  simp only[A5,K9,a8a,a8f,a8x,a78,a7z,A8,FAR,FAST,P1,S1,B1,I1,V1,and_true,and_assoc]
 ·obtain⟨i,rfl⟩:=o1 (f.1 (by decide))
  refine O1 (c:=5) (ns:=[i]) (Vbwsam.step.eq_6 ..) ?_ (λ_=>⟨_,_,rfl,rfl⟩)
  rw[F5 (by decide)]
  show _=X8 _ [I1]
  rw[a7W]
  simp only[A5,K9,a8a,a8f,a8x,a78,a7z,A8,FAR,FAST,P1,S1,B1,I1,V1,and_true,and_assoc]
 ·obtain rfl:=o0 (f.1 (by decide))
  exact aB8 (c:=6) (Vbwsam.step.eq_7 ..) (by lia)
 ·obtain rfl:=o0 (f.1 (by decide))
  exact aB8 (c:=7) (Vbwsam.step.eq_8 ..) (by lia)
 ·obtain⟨i,x,y,rfl⟩:=o3 (f.1 (by decide))
  refine O1 (c:=8) (ns:=[i,x,y]) (Vbwsam.step.eq_9 ..) ?_ (λ_=>⟨_,_,rfl,rfl⟩)
  rw[F5 (by decide)]
  show _=X8 _ [I1,P1,P1]
  rw[a7W]
  simp only[A5,K9,a8a,a8f,a8x,a78,a7z,A8,FAR,FAST,P1,S1,B1,I1,V1,and_true,and_assoc]
 ·obtain⟨x,y,a,b,rfl⟩:=o4 (f.1 (by decide))
  refine O1 (c:=9) (ns:=[x,y,a,b]) (Vbwsam.step.eq_10 ..) ?_ (absurd · (by decide))
  rw[F5 (by decide)]
  show _=X8 _ [P1,P1,S1,S1]
  rw[a7W]
  simp only[A5,K9,a8a,a8f,a8x,a78,a7z,A8,FAR,FAST,P1,S1,B1,I1,V1,and_true,and_assoc]
 ·obtain⟨x,y,a,b,rfl⟩:=o4 (f.1 (by decide))
  refine O1 (c:=10) (ns:=[x,y,a,b]) (Vbwsam.step.eq_11 ..) ?_ (absurd · (by decide))
  rw[F5 (by decide)]
  show _=X8 _ [P1,P1,P1,P1]
  rw[a7W]
  simp only[A5,K9,a8a,a8f,a8x,a78,a7z,A8,FAR,FAST,P1,S1,B1,I1,V1,and_true,and_assoc]
 ·obtain⟨i,rfl⟩:=o1 (f.1 (by decide))
  refine O1 (c:=11) (ns:=[i]) (Vbwsam.step.eq_12 ..) ?_ (λ_=>⟨_,_,rfl,rfl⟩)
  rw[F5 (by decide)]
  show _=X8 _ [I1]
  rw[a7W]
  simp only[A5,K9,a8a,a8f,a8x,a78,a7z,A8,FAR,FAST,P1,S1,B1,I1,V1,and_true,and_assoc]
 ·obtain⟨l,rfl,h30⟩:=f.2 rfl
  refine O1 (c:=12) (ns:=(l.length:Int)::l) (Vbwsam.step.eq_13 ..) ?_ (absurd · (by decide))
  have e0:O0 12 (((l.length:Int)::l).length-1)=(0,20)::a9c l.length I1:=rfl
  rw[e0,a7W,A5,a7z,decide_eq_true_eq,all_eq_true,aI1]
  show _↔((0:Int)<=(l.length:Int)/\(l.length:Int)<=20)/\_
  constructor
  ·rintro⟨h1,h2⟩;exact⟨⟨by lia,by lia⟩,h2⟩
  ·rintro⟨⟨h1,h2⟩,h3⟩;exact⟨by lia,h3⟩
 ·obtain rfl:=o0 (f.1 (by decide))
  exact aB8 (c:=13) (Vbwsam.step.eq_14 ..) (by lia)
 ·exact absurd rfl h14
 ·obtain⟨x,y,a,b,rfl⟩:=o4 (f.1 (by decide))
  refine O1 (c:=15) (ns:=[x,y,a,b]) (Vbwsam.step.eq_16 ..) ?_ (absurd · (by decide))
  rw[F5 (by decide)]
  show _=X8 _ [P1,P1,P1,P1]
  rw[a7W]
  simp only[A5,K9,a8a,a8f,a8x,a78,a7z,A8,FAR,FAST,P1,S1,B1,I1,V1,and_true,and_assoc]
theorem a3K{s:a7T}{c:Nat}{ns:List Int}(hc:c<16)(f:aN5 c ns)(h:X8 ns (O0 c (ns.length-1))=false):a7H s (V8 c ns)=(s,[-1]):=by
 by_cases h14:c=14
 ·subst h14
  rw[F5 (by decide)]at h
  match ns,f.1 (by decide),h with
  |[],_,h=>rw[K9]at h;cases h
 ·by_cases h0:c=0
  ·subst h0
   match ns,f.1 (by decide),h with
   |[n,x,y],_,h=>
    show a7H s (.open_ n x y)=_
    rw[a7H,C6]
    have e:(a8D n 1 16&&(a8D x (-100) 100&&a8D y (-100) 100))=X8 [n,x,y] [(1,16),(-100,100),(-100,100)]:=by
     rw[a7W]
     simp only[A5,K9,a7z,A8,and_true]
    have h:X8 [n,x,y] [(1,16),(-100,100),(-100,100)]=false:=h
    show(!_)=true
    rw[e,h]
    rfl
  ·obtain⟨rest,k,e,_⟩:=ap6 (s:=s) hc f h0 h14
   rw[e,C6 (by rw[h];rfl)]
theorem a2h{s:a7T}{c:Nat}{ns:List Int}(hc:c<16)(f:aN5 c ns)(h:X8 ns (O0 c (ns.length-1))=true)(h0:c≠0)(h14:c≠14)(hp:s.parts=0):a7H s (V8 c ns)=(s,[-2]):=by
 obtain⟨rest,k,e,_⟩:=ap6 (s:=s) hc f h0 h14
 rw[e,g8 (by rw[h];rfl),C6 (by show(s.parts==0)=true;rw[hp];rfl)]
 rfl
theorem aV2{s:a7T}{c:Nat}{ns:List Int}(f:aN5 c ns)(h:X8 ns (O0 c (ns.length-1))=true)(hc:c=3\/c=5\/c=8\/c=11)(hp:s.parts≠0){i:Int}(hi:ns.head? =some i)(hl:(s.bodies.length:Int)<=i):a7H s (V8 c ns)=(s,[-3]):=by
 obtain⟨rest,k,e,b⟩:=ap6 (s:=s) (by lia) f (by lia) (by lia)
 obtain⟨i',rest',e1,rfl⟩:=b hc
 rw[hi]at e1
 cases e1
 rw[e,g8 (by rw[h];rfl),g8 (D6 hp),C6 (decide_eq_true hl)]
 rfl
def a4H(K:Frag)(mg:Str->Option Value)(x:Str)(xs:List V):Prop:=∃e,mg x=some (.ref e)/\∀H,v7 K H e xs
structure aV3(P:Program)(w:World)(K:Frag)(mg:Str->Option Value)(base:Heap)(C W:Addr)(k:Nat):Prop where
 ex:∃(e:Addr) (fa:List Addr),mg "CALLS"=some (.ref e)/\(∀H,v7 K H e (fa.map V.ref))/\fa.length=16/\∀c f,fa[c]? =some f->a80 K (.ref f)=true/\∃fd,U0 K fd ["world","numbers"] []/\A7 P w K mg base M2 k f fd ["world","numbers"] (J8 K C W c)
theorem a6N{c:Nat}(h:c<16):inV (.int (c:Int)) [.int 0,.int 14]=decide (c=0\/c=14):=by
 have:∀c:Fin 16,inV (.int (c.1:Int)) [.int 0,.int 14]=decide (c.1=0\/c.1=14):=by decide
 exact this ⟨c,h⟩
theorem a6O{c:Nat}(h:c<16):inV (.int (c:Int)) [.int 3,.int 5,.int 8,.int 11]=decide (c=3\/c=5\/c=8\/c=11):=by
 have:∀c:Fin 16,inV (.int (c.1:Int)) [.int 3,.int 5,.int 8,.int 11]=decide (c.1=3\/c.1=5\/c.1=8\/c.1=11):=by decide
 exact this ⟨c,h⟩
section
variable{P:Program}{w:World}{K:Frag}{mg:Str->Option Value}{base:Heap}{C W:Addr}
def a55(K:Frag)(C W:Addr):Sp:=λvs H Q _=>∃(wa nl rl:Addr) (s:a7T) (c:Nat) (ns:List Int) (own:List Addr),vs=[.ref wa,.int (c:Int),.ref nl,.ref rl]/\c<16/\Wst K C W H wa s own/\SOk s/\n9 K H nl (ns.map V.int)/\a5Z K H rl (O0 c (ns.length-1))/\aN5 c ns/\ns.length=(O0 c (ns.length-1)).length/\ns.length<=100/\R8 K C W H Q wa s own (V8 c ns)
theorem ae6:n8 ["world","call","numbers","ranges"] ["world","call","numbers","ranges"] (g9 W8):=⟨rfl,rfl,rfl,by decide+kernel,rfl,by decide+kernel,by decide+kernel⟩
theorem R8.mono{H G:Hp}{Q:VK}{wa:Addr}{s:a7T}{own:List Addr}{c:a93}(k:R8 K C W H Q wa s own c)(sG:f9 H G):R8 K C W G Q wa s own c:=λG' p own' f hW hp ht=>
 k G' p own' ⟨λb o m e=>f.1 b o m (sG _ _ e),λb m=>(f.2 b m).imp id (λz=>sG.free z)⟩ hW (λb o m e=>hp b o m (sG _ _ e)) ht
theorem aB9{f:Addr}{fd:FuncData}(F:M3 K "answer_call" "answer_call" W8 f fd)(T:Txt K mg)(cW:X4 K W)(c_BAD:∃t,mg "BAD_NUMBER"=some (.int (-1) t))(c_NOT_BEGUN:∃t,mg "NOT_BEGUN"=some (.int (-2) t))(c_NO_BODY:∃t,mg "NO_BODY"=some (.int (-3) t))(c_UN:a4H K mg "UNOPENED" [.int 0,.int 14])(c_OF:a4H K mg "OF_A_BODY" [.int 3,.int 5,.int 8,.int 11])
 (c_CALLS:aV3 P w K mg base C W 9) (D_in_ranges:Df P w K mg base "in_ranges" 9 ["numbers","ranges"] (a3F K)):A7 P w K mg base M2 10 f fd ["world","call","numbers","ranges"] (a55 K C W):=by
 refine F.ok ae6 (λvs H Q E h=> ?_) (λcdv A outer s H vs Q E hr h=> ?_)
 ·obtain⟨wa,nl,rl,st,c,ns,own,rfl,_⟩:=h
  rfl
 ·obtain⟨wa,nl,rl,st,c,ns,own,rfl,hc,hW,hO,hnl,hrl,hf,hlen,h100,k⟩:=h
  obtain⟨eu,hU,tU⟩:=c_UN
  obtain⟨eo,hOf,tO⟩:=c_OF
  obtain⟨ec,fa,hC,tC',lC,pC⟩:=c_CALLS.ex
  have nd:=ae6.nd
  obtain⟨wl,w1,-,w3,-,-⟩:=cW
  refine⟨_,(e9 (B8 (aI3 (N3 (A0 D_in_ranges hr (by rfl) (e8 (pv 2) (e8 (pv 3) f7)))))
   (f8 (l8 (y6 (e8 (B5 c_BAD (by rfl)) f7))))
   v8)
   (e9 (aK9 (B8 (S3 (o8 K5 (j7 (pv 0) rfl) f6 (t9 _)) (P9 (o8 aI9 (pv 1) (Y0 (v:= .ref eu) (by rfl) hU rfl) (by rfl)))).pt
    (f8 (l8 (y6 (e8 (B5 c_NOT_BEGUN (by rfl)) f7))))
    v8))
   (e9 (aK9 (B8 (S3 (o8 a1C (pv 1) (Y0 (v:= .ref eo) (by rfl) hOf rfl) (by rfl)) (P9 (o8 av1 (i9 l6 (pv 2) f6 (λ_ _=>rfl)) (v6 A4 (by rfl) T.b_len PySem.boot_len (e8 (j7 (pv 0) rfl) f7)) (t9 _)))).pt
    (f8 (l8 (y6 (e8 (B5 c_NO_BODY (by rfl)) f7))))
    v8))
   (f8 (l8 (a0e (fam:=λf sp=>∃c,fa[c]? =some f/\sp=J8 K C W c) (k:=9) (ps:=["world","numbers"]) (i9 j5 (Y0 (v:= .ref ec) (by rfl) hC rfl) (pv 1) (λ_ _=>rfl)) (λf sp ⟨c,h1,h2⟩=>h2▸pC c f h1) hr (e8 (pv 0) (e8 (pv 2) f7)))))))),?_⟩
  refine⟨_,rfl,_,rfl,nl,rl,ns,_,rfl,hnl,hrl,hlen,h100,λG sG=>⟨_,rfl,?_⟩⟩
  have hWG:=hW.same sG
  refine z8 (λd=> ?_) (λd=> ?_)
  ·exact⟨by show 1<=sizeLine;decide,k.ans hW (a3K hc hf (by simpa using d)) sG⟩
  have hin:X8 ns (O0 c (ns.length-1))=true:=by simpa using d
  obtain⟨dx,l,ml,as,ts,eo',hA,hm,hts,hne⟩:=hWG.ex
  obtain⟨⟨pq,fs,hw,fl,f1,f2,f3,f4,f5,tq,hT⟩,hB,hnw⟩:=hA
  have hnlG:=sG.seq hnl
  have lB:((as.map V.ref).length:Nat)=st.bodies.length:=by rw[a7r,hB.len]
  refine⟨λσ' G'=>σ'=[some (V.ref wa),some (V.int (c:Int)),some (V.ref nl),some (V.ref rl)]/\G'=G/\(st.parts=0->c=0\/c=14),?_,?_⟩
  ·refine⟨_,rfl,_,_,_,_,_,rfl,hw,wl,w1,f3,rfl,_,rfl,?_⟩
   refine z8 (λp0=> ?_) (λp0=> ?_)
   ·have p0':st.parts=0:=by have:=of_decide_eq_true p0;rw[V.int.injEq]at this;lia
    refine⟨_,rfl,eu,_,rfl,.inr (tU _),rfl,rfl,_,rfl,?_⟩
    show if(if true=true then !inV (V.int (c:Int)) [.int 0,.int 14]else inV (V.int (c:Int)) [.int 0,.int 14])=true then _ else _
    have e:(if true=true then !inV (V.int (c:Int)) [.int 0,.int 14]else inV (V.int (c:Int)) [.int 0,.int 14])= !decide (c=0\/c=14):=congrArg not (a6N hc)
    rw[e]
    refine z8 (λq=> ?_) (λq=> ?_)
    ·have q':¬(c=0\/c=14):=by simpa using q
     exact⟨by show 1<=sizeLine;decide,k.ans hW (a2h hc hf hin (λz=>q' (.inl z)) (λz=>q' (.inr z)) p0') sG⟩
    ·refine⟨rfl,rfl,λ_=>a8w λz=>q ?_⟩
     rw[decide_eq_false z]
     rfl
   ·refine D9 ?_
    exact⟨rfl,rfl,λz=>absurd (decide_eq_true (by rw[z];rfl)) p0⟩
  ·rintro σ' G' ⟨rfl,rfl,hop⟩
   refine⟨λσ' G''=>σ'=[some (V.ref wa),some (V.int (c:Int)),some (V.ref nl),some (V.ref rl)]/\G''=G'/\(c=3\/c=5\/c=8\/c=11->∀i:Int,ns.head? =some i->i<st.bodies.length),?_,?_⟩
   ·refine⟨_,rfl,eo,_,rfl,.inr (tO _),rfl,rfl,_,rfl,?_⟩
    show if(if false=true then !inV (V.int (c:Int)) [.int 3,.int 5,.int 8,.int 11]else inV (V.int (c:Int)) [.int 3,.int 5,.int 8,.int 11])=true then _ else _
    have e:(if false=true then !inV (V.int (c:Int)) [.int 3,.int 5,.int 8,.int 11]else inV (V.int (c:Int)) [.int 3,.int 5,.int 8,.int 11])=decide (c=3\/c=5\/c=8\/c=11):=a6O hc
    rw[e]
    refine z8 (λq=> ?_) (λq=> ?_)
    ·have q':=of_decide_eq_true q
     have hp:st.parts≠0:=λz=>by rcases hop z with z|z<;>lia
     obtain⟨i,tl,ens⟩:∃i tl,ns=i::tl:=by
      have:ns.length≠0:=by
       rw[hf.1 (by lia)]
       rcases q' with rfl|rfl|rfl|rfl<;>decide
      cases ns with
      |nil=>exact absurd rfl this
      |cons i tl=>exact⟨i,tl,rfl⟩
     subst ens
     refine⟨_,rfl,nl,_,_,_,rfl,rfl,hnlG,z7 (j:=0) (v:=V.int i) rfl,_,rfl,_,_,_,_,_,rfl,hw,wl,w3,f1,l,_,rfl,.inl (n9.of hB.lst),_,_,rfl,rfl,_,rfl,?_⟩
     refine z8 (λd'=> ?_) (λd'=> ?_)
     ·have d':=of_decide_eq_true d'
      rw[lB]at d'
      exact⟨by show 1<=sizeLine;decide,k.ans hW (aV2 hf hin q' hp rfl d') sG⟩
     ·refine⟨rfl,rfl,λ_ i' hi'=> ?_⟩
      have hi':i=i':=a7v hi'
      rw[←hi']
      have:¬(((as.map V.ref).length:Nat):Int)<=i:=λz=>d' (decide_eq_true z)
      rw[lB]at this
      lia
    ·refine D9 ?_
     exact⟨rfl,rfl,λz=>absurd (decide_eq_true z) q⟩
   ·rintro σ' G'' ⟨rfl,rfl,hbd⟩
    obtain⟨fc,hfc⟩:∃f,fa[c]? =some f:=⟨_,a7u (by lia)⟩
    have hfV:(fa.map V.ref)[c]? =some (.ref fc):=by rw[a7t,hfc];rfl
    refine⟨_,rfl,ec,_,_,_,rfl,rfl,tC' _,z7 hfV,fc,_,rfl,⟨c,hfc,rfl⟩,_,rfl,_,rfl,?_⟩
    exact⟨wa,nl,st,ns,own,rfl,hWG,hO,hnlG,⟨hf,hin,λn0 n14 z=>by rcases hop z with q|q;exact n0 q;exact n14 q,hbd⟩,k.mono sG⟩
end
abbrev ag0:Stmt:=O7 81
def a0q(c:Nat)(ns:List Int):List (List Int):=if c=12 then [[12],ns.tail]else [(c:Int)::ns]
theorem a0r{p:Int}{nk:Nat×Nat}(h:PyVbwsam.shape p=some nk):∃c:Nat,c<16/\p=(c:Int)/\nk=if c=12 then(0,1)else((D0.getD c []).length,0):=by
 unfold PyVbwsam.shape at h
 by_cases h0:p=0
 ·rw[if_pos h0]at h
  exact⟨0,by decide,h0,(a7v h).symm⟩
 rw[if_neg h0]at h
 by_cases h1:p=1
 ·rw[if_pos h1]at h
  exact⟨1,by decide,h1,(a7v h).symm⟩
 rw[if_neg h1]at h
 by_cases h2:p=2
 ·rw[if_pos h2]at h
  exact⟨2,by decide,h2,(a7v h).symm⟩
 rw[if_neg h2]at h
 by_cases h3:p=3
 ·rw[if_pos h3]at h
  exact⟨3,by decide,h3,(a7v h).symm⟩
 rw[if_neg h3]at h
 by_cases h4:p=4
 ·rw[if_pos h4]at h
  exact⟨4,by decide,h4,(a7v h).symm⟩
 rw[if_neg h4]at h
 by_cases h5:p=5
 ·rw[if_pos h5]at h
  exact⟨5,by decide,h5,(a7v h).symm⟩
 rw[if_neg h5]at h
 by_cases h6:p=6
 ·rw[if_pos h6]at h
  exact⟨6,by decide,h6,(a7v h).symm⟩
 rw[if_neg h6]at h
 by_cases h7:p=7
 ·rw[if_pos h7]at h
  exact⟨7,by decide,h7,(a7v h).symm⟩
 rw[if_neg h7]at h
 by_cases h8:p=8
 ·rw[if_pos h8]at h
  exact⟨8,by decide,h8,(a7v h).symm⟩
 rw[if_neg h8]at h
 by_cases h9:p=9
 ·rw[if_pos h9]at h
  exact⟨9,by decide,h9,(a7v h).symm⟩
 rw[if_neg h9]at h
 by_cases h10:p=10
 ·rw[if_pos h10]at h
  exact⟨10,by decide,h10,(a7v h).symm⟩
 rw[if_neg h10]at h
 by_cases h11:p=11
 ·rw[if_pos h11]at h
  exact⟨11,by decide,h11,(a7v h).symm⟩
 rw[if_neg h11]at h
 by_cases h12:p=12
 ·rw[if_pos h12]at h
  exact⟨12,by decide,h12,(a7v h).symm⟩
 rw[if_neg h12]at h
 by_cases h13:p=13
 ·rw[if_pos h13]at h
  exact⟨13,by decide,h13,(a7v h).symm⟩
 rw[if_neg h13]at h
 by_cases h14:p=14
 ·rw[if_pos h14]at h
  exact⟨14,by decide,h14,(a7v h).symm⟩
 rw[if_neg h14]at h
 by_cases h15:p=15
 ·rw[if_pos h15]at h
  exact⟨15,by decide,h15,(a7v h).symm⟩
 rw[if_neg h15]at h
 cases h
theorem a0s{f:Nat}{p:Int}{r:List Int}{cs:List (List (List Int))}(h:PyFlat.calls PyVbwsam.shape f (p::r)=some cs)(hb:PyInside.calls PyVbwsam.bound cs=true):
 ∃(c:Nat) (ns t:List Int) (cs':List (List (List Int))) (f':Nat),c<16/\p=(c:Int)/\r=ns++t/\aN5 c ns/\cs=a0q c ns::cs'/\PyFlat.calls PyVbwsam.shape f' t=some cs'/\PyInside.calls PyVbwsam.bound cs'=true:=by
 cases f with
 |zero=>cases h
 |succ f=>
  rw[PyFlat.calls]at h
  cases hc:PyFlat.call PyVbwsam.shape (p::r)with
  |none=>rw[hc]at h;cases h
  |some ct=>
   obtain⟨c0,t⟩:=ct
   rw[hc]at h
   dsimp only at h
   cases hr:PyFlat.calls PyVbwsam.shape f t with
   |none=>rw[hr]at h;cases h
   |some cs'=>
    rw[hr]at h
    have h:c0::cs'=cs:=a7v h
    subst h
    unfold PyInside.calls at hb
    rw[all_cons,a7z]at hb
    rw[PyFlat.call]at hc
    cases hs:PyVbwsam.shape p with
    |none=>rw[hs]at hc;cases hc
    |some nk=>
     obtain⟨c,c16,hp,enk⟩:=a0r hs
     rw[hs]at hc
     by_cases c12:c=12
     ·subst c12
      rw[if_pos rfl]at enk
      subst enk
      change(if r.length<0 then none else match PyFlat.rows 1 (r.drop 0)with|none=>none|some (xs,t)=>some ((p::r.take 0)::xs,t))=some (c0,t)at hc
      rw[if_neg (a8Q _),List.drop_zero,List.take_zero]at hc
      cases r with
      |nil=>cases hc
      |cons m r'=>
       unfold PyFlat.rows PyFlat.row at hc
       dsimp only at hc
       by_cases hm:0<=m/\m.toNat<=r'.length
       ·rw[if_pos hm]at hc
        have hc:=a7v hc
        have e1:[p]::[r'.take m.toNat]=c0:=congrArg Prod.fst hc
        have e2:r'.drop m.toNat=t:=congrArg Prod.snd hc
        have lt:(r'.take m.toNat).length=m.toNat:=by rw[a8L];lia
        have hb1:=hb.1
        rw[←e1,hp]at hb1
        have hb2:(decide (0<=(r'.take m.toNat).length)&&decide ((r'.take m.toNat).length<=30)&&(r'.take m.toNat).all (PyInside.within (-1000000000000000000) 1000000000000000000)&&true)=true:=hb1
        rw[a7z,a7z,a7z,decide_eq_true_eq,decide_eq_true_eq]at hb2
        refine⟨12,m::r'.take m.toNat,r'.drop m.toNat,cs',f,by decide,hp,by rw[a9b,List.take_append_drop],⟨λz=>absurd rfl z,λ_=>⟨r'.take m.toNat,?_,hb2.1.1.2⟩⟩,?_,by rw[e2];exact hr,hb.2⟩
        ·rw[lt]
         have:((m.toNat:Nat):Int)=m:=by lia
         rw[this]
        ·rw[←e1,hp]
         rfl
       ·rw[if_neg hm]at hc
        cases hc
     ·rw[if_neg c12]at enk
      subst enk
      change(if r.length<(D0.getD c []).length then none else match PyFlat.rows 0 (r.drop (D0.getD c []).length)with|none=>none|some (xs,t)=>some ((p::r.take (D0.getD c []).length)::xs,t))=some (c0,t)at hc
      by_cases hl:r.length<(D0.getD c []).length
      ·rw[if_pos hl]at hc
       cases hc
      ·rw[if_neg hl]at hc
       have hc:=a7v hc
       have e1:[p::r.take (D0.getD c []).length]=c0:=congrArg Prod.fst hc
       have e2:r.drop (D0.getD c []).length=t:=congrArg Prod.snd hc
       refine⟨c,r.take (D0.getD c []).length,r.drop (D0.getD c []).length,cs',f,c16,hp,(List.take_append_drop _ _).symm,⟨λ_=>by rw[a8L];lia,λz=>absurd z c12⟩,?_,by rw[e2];exact hr,hb.2⟩
       unfold a0q
       rw[if_neg c12,←e1,hp]
theorem a0t{s:a7T}{c:Nat}{ns:List Int}(hc:c<16)(f:aN5 c ns):VbwsamNeutral.step s (PyVbwsam.whole (a0q c ns))=a7H s (V8 c ns):=by
 rcases a54 c hc with rfl|rfl|rfl|rfl|rfl|rfl|rfl|rfl|rfl|rfl|rfl|rfl|rfl|rfl|rfl|rfl
 ·obtain⟨n,x,y,rfl⟩:=o3 (f.1 (by decide))
  rfl
 ·obtain⟨x,y,a,b,k,h,g,rfl⟩:=o7 (f.1 (by decide))
  rfl
 ·obtain⟨x,y,r,k,h,g,rfl⟩:=o6 (f.1 (by decide))
  rfl
 ·obtain⟨i,x,y,rfl⟩:=o3 (f.1 (by decide))
  rfl
 ·obtain⟨n,rfl⟩:=o1 (f.1 (by decide))
  rfl
 ·obtain⟨n,rfl⟩:=o1 (f.1 (by decide))
  rfl
 ·obtain rfl:=o0 (f.1 (by decide))
  rfl
 ·obtain rfl:=o0 (f.1 (by decide))
  rfl
 ·obtain⟨i,x,y,rfl⟩:=o3 (f.1 (by decide))
  rfl
 ·obtain⟨x,y,a,b,rfl⟩:=o4 (f.1 (by decide))
  rfl
 ·obtain⟨x,y,a,b,rfl⟩:=o4 (f.1 (by decide))
  rfl
 ·obtain⟨n,rfl⟩:=o1 (f.1 (by decide))
  rfl
 ·obtain⟨l,rfl,_⟩:=f.2 rfl
  rfl
 ·obtain rfl:=o0 (f.1 (by decide))
  rfl
 ·obtain rfl:=o0 (f.1 (by decide))
  rfl
 ·obtain⟨x,y,a,b,rfl⟩:=o4 (f.1 (by decide))
  rfl
theorem a3L{c:Nat}{ns:List Int}(f:aN5 c ns):ns.length=(O0 c (ns.length-1)).length/\ns.length<=31:=by
 by_cases c12:c=12
 ·subst c12
  obtain⟨l,rfl,h⟩:=f.2 rfl
  refine⟨?_,by rw[a7O];lia⟩
  show _=((0,20)::a9c ((l.length+1)-1) I1).length
  rw[a7O,a7O,a9I]
  rfl
 ·rw[F5 c12]
  exact⟨f.1 c12,by rw[f.1 c12];exact a7G (a3E c) (by decide)⟩
theorem a2i(a:List Int)(l:List (List Int)):PyFlat.told (a::l)=((a.length:Int)::a)++PyFlat.told l:=by
 unfold PyFlat.told
 rw[a9l]
theorem a2j{l:List Int}{i:Nat}(h:i<l.length):∃p r,l.drop i=p::r/\l[i]? =some p/\l.drop (i+1)=r:=by
 refine⟨l[i],l.drop (i+1),?_,a7u h,rfl⟩
 exact List.drop_eq_getElem_cons h
theorem a4I{l:List Int}{i k:Nat}(h:i+1+k<=l.length):aC1 (l.map V.int) (some ((i:Int)+1)) (some ((i:Int)+1+(k:Int)))=((l.drop (i+1)).take k).map V.int:=by
 unfold aC1
 have e1:HT.sIx (l.map V.int).length 0 (some ((i:Int)+1))=i+1:=by
  have:((i:Int)+1)=((i+1:Nat):Int):=by lia
  rw[this,HT.sIx_nat,a7r]
  lia
 have e2:HT.sIx (l.map V.int).length (l.map V.int).length (some ((i:Int)+1+(k:Int)))=i+1+k:=by
  have:((i:Int)+1+(k:Int))=((i+1+k:Nat):Int):=by lia
  rw[this,HT.sIx_nat,a7r]
  lia
 rw[e1,e2,List.map_take,List.map_drop]
 congr 1
 lia
section
variable{P:Program}{w:World}{K:Frag}{mg:Str->Option Value}{base:Heap}{C W:Addr}
theorem Wst.kp{G G':Hp}{wa q:Addr}{st:a7T}{own:List Addr}{ys:List V}(h:Wst K C W G wa st own)(k:Kp q G G')(hq:G q=some (.lst ys))(n:q∉own):Wst K C W G' wa st own:=by
 obtain⟨dx,l,ml,as,ts,rfl,⟨⟨pq,fs,hw,fl,f1,f2,f3,f4,f5,tq,hT⟩,hB,hnw⟩,hm,hts,hne⟩:=h.ex
 simp only[a7D,not_or]at n
 obtain⟨n1,n2,n3,n4⟩:=n
 exact⟨dx,l,ml,as,ts,rfl,⟨⟨pq,fs,k _ _ (Ne.symm n1) hw,fl,f1,f2,f3,f4,f5,k.tup hq tq,hT.kp hq (Ne.symm n3) k⟩,Kp.bodies hB k hq (Ne.symm n2),hnw⟩,hm,hts,hne⟩
structure a6P(K:Frag)(C W:Addr)(H:Hp)(l:List Int)(wa q:Addr)(at_:Nat)(G:Hp):Prop where
 ex:∃(s:a7T) (own:List Addr) (cs:List (List (List Int))) (f:Nat) (A:List Int),Wst K C W G wa s own/\SOk s/\G q=some (.lst (A.map V.int))/\q∉own/\(∀b∈own,H b=none)/\PyFlat.calls PyVbwsam.shape f (l.drop at_)=some cs/\PyInside.calls PyVbwsam.bound cs=true/\PyVbwsam.answers l=A++PyFlat.told (PyFlat.played VbwsamNeutral.step s (cs.map PyVbwsam.whole))
 same:f9 H G
 le:at_<=l.length
def a1p(K:Frag):Sp:=λvs H Q _=>∃(a:Addr) (l:List Int),vs=[.ref a]/\n9 K H a (l.map V.int)/\PyVbwsam.answers_asked l=true/\l.length<=16000/\∀H' p,H' p=some (.lst ((PyVbwsam.answers l).map V.int))->Q (.ref p) H'
theorem aC0:n8 ["calls","world","answered","at","ranges","end","answer"] ["calls"] (g9 ag0):=⟨rfl,rfl,rfl,by decide+kernel,rfl,by decide+kernel,by decide+kernel⟩
theorem a0u{f:Addr}{fd:FuncData}(F:M3 K "answers" "answers" ag0 f fd)(T:Txt K mg)(D_World:CDf P w K mg base "World" W 9 ["self"] (aN0 K W))(D_ranges_at:Df P w K mg base "ranges_at" 10 ["calls","at"] (a0n K))(D_answer_call:Df P w K mg base "answer_call" 10 ["world","call","numbers","ranges"] (a55 K C W)):A7 P w K mg base M2 11 f fd ["calls"] (a1p K):=by
 refine F.ok aC0 (λvs H Q E h=> ?_) (λcdv A outer s H vs Q E hr h=> ?_)
 ·obtain⟨a,l,rfl,_⟩:=h
  rfl
 ·obtain⟨a,l,rfl,ha,hask,h16,k⟩:=h
  have nd:=aC0.nd
  obtain⟨raw,hraw,hbnd,hshort⟩:∃raw,PyFlat.calls PyVbwsam.shape l.length l=some raw/\PyInside.calls PyVbwsam.bound raw=true/\(PyVbwsam.answers l).length<=10000000:=by
   unfold PyVbwsam.answers_asked at hask
   cases e:PyFlat.calls PyVbwsam.shape l.length l with
   |none=>rw[e]at hask;cases hask
   |some raw=>
    rw[e]at hask
    dsimp only at hask
    rw[a7z,a7z,a7z]at hask
    exact⟨raw,rfl,hask.1.1.2,of_decide_eq_true hask.2⟩
  have hans:PyVbwsam.answers l=PyFlat.told (PyFlat.played VbwsamNeutral.step Vbwsam.start (raw.map PyVbwsam.whole)):=by
   unfold PyVbwsam.answers PyVbwsam.calls
   rw[hraw]
   rfl
  have sz:(10000010:Nat)<=sizeLine:=by decide
  refine⟨_,(e9 (j9 (i:=1) nd rfl (Or.inl rfl) (a5V D_World hr (by rfl)))
   (e9 (j9 (i:=2) nd rfl (Or.inl rfl) (y6 f7))
   (e9 (j9 (i:=3) nd rfl (Or.inl rfl) f6)
   (e9 (au9 PassesOwn.never (o8 S4 (pv 3) (v6 A4 (by rfl) T.b_len PySem.boot_len (e8 (pv 0) f7)) (t9 _))
    (e9 (j9 (i:=4) nd rfl (Or.inl rfl) (A0 D_ranges_at hr (by rfl) (e8 (pv 0) (e8 (pv 3) f7))))
    (e9 (j9 (i:=5) nd rfl (Or.inl rfl) (m9 B0 (m9 B0 (pv 3) f6) (v6 A4 (by rfl) T.b_len PySem.boot_len (e8 (pv 4) f7))))
    (e9 (j9 (i:=6) nd rfl (Or.inl rfl) (A0 D_answer_call hr (by rfl) (e8 (pv 1) (e8 (i9 l6 (pv 0) (pv 3) (λ_ _=>rfl)) (e8 (aO7 aT4 (pv 0) (aI6 (m9 B0 (pv 3) f6)) (aI6 (pv 5))) (e8 (pv 4) f7))))))
    (e9 (C2 (M1 a7Q a8c a8d D2 (pv 2) (e8 (v6 A4 (by rfl) T.b_len PySem.boot_len (e8 (pv 6) f7)) f7)))
    (e9 (C2 (M1 a7Q a86 a87 Y7 (pv 2) (e8 (pv 6) f7)))
    (f8 (j9 (i:=3) nd rfl (Or.inl rfl) (pv 5)))))))))
   (f8 (l8 (pv 2))))))),?_⟩
  intro wa dx nwa ndx ne
  refine⟨wa,dx,rfl,i8,λpq bl ml G1 k1 hG1 tq hbl hml hne nbl nml=>⟨rfl,?_⟩⟩
  have s1:f9 H G1:=λb o e=>k1 _ _ (j0 e nwa) (by rw[j6 (j0 e nwa),j6 (j0 e ndx)];exact e)
  have fresh:∀{z:Addr},A6 (A6 H dx (.own wa)) wa (.ins W dx []) z=none->H z=none:=λ{z} e=>by
   cases q:H z with
   |none=>rfl
   |some o=>rw[j6 (j0 q nwa),j6 (j0 q ndx),q]at e;cases e
  refine⟨by show 0<=sizeLine;decide,λq G2 s2 n2 t2=> ?_⟩
  have W0:Wst K C W G2 wa Vbwsam.start [wa,bl,ml]:=Wst.same ⟨dx,bl,ml,[],[],rfl,⟨⟨pq,_,hG1,by show 5<800;decide,rfl,rfl,rfl,rfl,rfl,tq,[],hml,.nil⟩,⟨hbl,a9q,.nil⟩,by simp⟩,rfl,by decide,hne⟩ s2
  have L0:a6P K C W H l wa q 0 G2:=by
   refine⟨⟨Vbwsam.start,[wa,bl,ml],raw,l.length,[],W0,a2e,t2,?_,?_,hraw,hbnd,hans⟩,s1.trans s2,a8n _⟩
   ·intro m
    simp only[a7D,not_mem_nil,or_false]at m
    rcases m with m|m|m
    ·rw[m,hG1]at n2;cases n2
    ·rw[m,hbl]at n2;cases n2
    ·rw[m,hml]at n2;cases n2
   ·intro b m
    simp only[a7D,not_mem_nil,or_false]at m
    rcases m with m|m|m
    ·rw[m];exact nwa
    ·rw[m];exact fresh nbl
    ·rw[m];exact fresh nml
  refine⟨λm U G=>∃(at_:Nat) (u4 u5 u6:Option V),U=[some (.ref a),some (.ref wa),some (.ref q),some (.int (at_:Int)),u4,u5,u6]/\m=l.length-at_/\a6P K C W H l wa q at_ G,⟨l.length,0,none,none,none,rfl,rfl,L0⟩,?_⟩
  rintro m U G ⟨at_,u4,u5,u6,rfl,rfl,L⟩
  obtain⟨⟨st,own,cs,fu,B,hW,hO,hq,hqo,hown,hcs,hb,hans'⟩,sG,hle⟩:=L
  have haG:=sG.seq ha
  refine⟨_,rfl,_,rfl,a,_,rfl,.inl haG,_,_,rfl,rfl,_,rfl,?_⟩
  refine z8 (λc=> ?_) (λc=> ?_)
  ·have hlt:at_<l.length:=by
    have:=of_decide_eq_true c
    rw[a7r]at this
    lia
   refine⟨_,λσ' G' h=>h,?_⟩
   obtain⟨p,r,ed,ep,er⟩:=a2j hlt
   rw[ed]at hcs
   obtain⟨c',ns,t,cs',fu',c16,rfl,hrt,hform,ecs,hcs',hb'⟩:=a0s hcs hb
   obtain⟨flen,f31⟩:=a3L hform
   have lnt:ns.length+t.length=l.length-(at_+1):=by
    have:(l.drop (at_+1)).length=(ns++t).length:=by rw[er,hrt]
    rw[length_drop,a7M]at this
    lia
   have hend:at_+1+ns.length<=l.length:=by lia
   have ens:(l.drop (at_+1)).take ns.length=ns:=by rw[er,hrt,List.take_left]
   have edt:l.drop (at_+1+ns.length)=t:=by rw[←List.drop_drop,er,hrt,List.drop_left]
   have hpV:(l.map V.int)[at_]? =some (.int (c':Int)):=by rw[a7t,ep];rfl
   have hm12:c'=12->l[at_+1]? =some (((ns.length-1:Nat)):Int):=λz=>by
    obtain⟨l0,e0,_⟩:=hform.2 z
    have:(l.drop (at_+1))[0]? =some ((l0.length:Int)):=by rw[er,hrt,e0];rfl
    rw[List.getElem?_drop]at this
    rw[e0,a7O]
    exact this
   refine⟨_,rfl,_,rfl,a,at_,c',ns.length-1,l,rfl,haG,ep,c16,hm12,by lia,λrl G3 s3 n3 hrl=> ?_⟩
   obtain⟨rys,hr1,hr2⟩:=hrl
   have lrl:rys.length=ns.length:=by rw[←Paired.length hr2,←flen]
   refine⟨_,rfl,_,_,rfl,rfl,_,rfl,rl,_,rfl,.inl (n9.of hr1),_,_,rfl,rfl,?_⟩
   have ha3:=s3.seq haG
   refine⟨_,rfl,_,rfl,_,rfl,a,_,_,_,rfl,rfl,ha3,z7 hpV,_,rfl,_,rfl,_,_,rfl,rfl,_,rfl,_,rfl,_,rfl,a,_,rfl,ha3,λnl G4 s4 n4 t4=> ?_⟩
   have ecut:aC1 (l.map V.int) (some ((at_:Int)+1)) (some ((at_:Int)+1+(rys.length:Int)))=ns.map V.int:=by rw[lrl,a4I hend,ens]
   have t4:G4 nl=some (.lst (ns.map V.int)):=by rw[t4];exact congrArg (λz=>some (HO.lst z)) ecut
   have s34:=s3.trans s4
   have hq4:=s34 _ _ hq
   have s04:=sG.trans s34
   have hqH:H q=none:=s1.free n2
   obtain⟨st',est'⟩:∃st',st'=(a7H st (V8 c' ns)).1:=⟨_,rfl⟩
   obtain⟨an,ean⟩:∃an,an=(a7H st (V8 c' ns)).2:=⟨_,rfl⟩
   have hnext:PyVbwsam.answers l=(B++((an.length:Int)::an))++PyFlat.told (PyFlat.played VbwsamNeutral.step st' (cs'.map PyVbwsam.whole)):=by
    rw[hans',ecs,a7U,PyFlat.played,a2i,a0t c16 hform,←est',←ean,a82]
   have hlen:B.length+(an.length+1)<=10000000:=by
    have:=hshort
    rw[hnext,a7M,a7M,a7O]at this
    lia
   have hO':SOk st':=by rw[est'];exact a3G hO _
   refine⟨_,rfl,wa,nl,rl,st,c',ns,own,rfl,c16,hW.same s34,hO,n9.of t4,⟨rys,s4 _ _ hr1,Paired.monoP (λ_ _ r=>T2.same r s4) hr2⟩,hform,flen,by lia,λG5 pa own' fr hW5 hpp hp5=> ?_⟩
   rw[←est']at hW5
   rw[←ean]at hp5
   have hq5:=fr.1 q _ hqo hq4
   have hqp:q≠pa:=hpp q _ hqo hq4
   have hqo':q∉own':=λm=>by
    rcases fr.2 q m with z|z
    ·exact hqo z
    ·rw[hq4]at z;cases z
   refine⟨_,rfl,.inl ⟨rfl,_,n9.of hq5⟩,_,rfl,pa,_,rfl,.inl (n9.of hp5),q,_,_,rfl,rfl,hq5,by rw[a7r];lia,λG6 k6 t6=> ?_⟩
   have hp6:=k6 _ _ (Ne.symm hqp) hp5
   refine⟨_,rfl,.inl ⟨rfl,_,n9.of t6⟩,_,rfl,q,pa,_,_,rfl,rfl,t6,hp6,by rw[a7M,a7r,a7r,a83];lia,λG7 k7 t7=> ?_⟩
   refine⟨_,rfl,?_⟩
   have ee:((at_:Int)+1+(rys.length:Int))=((at_+1+ns.length:Nat):Int):=by rw[lrl];lia
   refine⟨l.length-(at_+1+ns.length),by lia,at_+1+ns.length,some (.ref rl),some (.int ((at_:Int)+1+(rys.length:Int))),some (.ref pa),congrArg (λz=>[some (V.ref a),some (V.ref wa),some (V.ref q),some (V.int z),some (V.ref rl),some (V.int ((at_:Int)+1+(rys.length:Int))),some (V.ref pa)]) ee,rfl,?_⟩
   refine⟨⟨st',own',cs',fu',B++((an.length:Int)::an),(hW5.kp k6 hq5 hqo').kp k7 t6 hqo',hO',?_,hqo',λb m=> ?_,by rw[edt];exact hcs',hb',hnext⟩,λb o e=> ?_,hend⟩
   ·rw[t7,a8m,a7U,a82,a7r]
    rfl
   ·rcases fr.2 b m with z|z
    ·exact hown b z
    ·exact s04.free z
   ·have hbo:b∉own:=λm=>by rw[hown b m]at e;cases e
    have hbq:b≠q:=λz=>by rw[z,hqH]at e;cases e
    exact k7 _ _ hbq (k6 _ _ hbq (fr.1 b o hbo (s04 _ _ e)))
  ·have hge:at_=l.length:=by
    have:¬((at_:Int)<(((l.map V.int).length:Nat):Int)):=λz=>c (decide_eq_true z)
    rw[a7r]at this
    lia
   subst hge
   rw[List.drop_length]at hcs
   have ecs:cs=[]:=by
    cases fu with
    |zero=>exact(a7v hcs).symm
    |succ n=>exact(a7v hcs).symm
   subst ecs
   refine⟨_,rfl,k G q ?_⟩
   rw[hq,hans']
   have:B++PyFlat.told (PyFlat.played VbwsamNeutral.step st (([]:List (List (List Int))).map PyVbwsam.whole))=B:=a72 B
   rw[this]
end
structure Dx(K:Frag)(x:Str)(st:Stmt)(f:Addr):Prop where
 ns:a7R K mainGlobals x=some (some (.ref f))
 kp:a80 K (.ref f)=true
 fn:∃fd,M3 K x x st f fd
theorem a41{K:Frag}{x:Str}{st:Stmt}{f:Addr}{oc:Value}{od an:Option Addr}{osl:Array (Option Value)}{kV doc pm cdv ct:Value}(a:a7R K mainGlobals x=some (some (.ref f)))(l:K.lookup f=some ⟨oc,od,.func (a9C x x (af2 st) (Y4 st) (g9 st) .none kV doc pm an cdv ct),osl⟩)
 (c:a9U K cdv x=true) (k:a80 K (.ref f)=true):Dx K x st f:=⟨a,k,_,a2H l c k⟩
structure Cx2(K:Frag)(x:Str)(qual:Str)(st:Stmt)(C:Addr):Prop where
 ns:a7R K mainGlobals x=some (some (.ref C))
 cl:Cls K C
 fn:∃f fd,Mk K C f/\M3 K "__init__" qual st f fd
theorem a6Q{K:Frag}{x qual:Str}{st:Stmt}{C f:Addr}{oc:Value}{od an:Option Addr}{osl:Array (Option Value)}{kV doc pm cdv ct:Value}(a:a7R K mainGlobals x=some (some (.ref C)))
 (i:a8h K (.ref C) "__init__"=some (some (.ref f))) (fn:PySem.W.isFn K (.ref f)=true) (l:K.lookup f=some ⟨oc,od,.func (a9C "__init__" qual (af2 st) (Y4 st) (g9 st) .none kV doc pm an cdv ct),osl⟩) (c:a9U K cdv qual=true) (k:a80 K (.ref f)=true)
 (pg:a94 K C Str.empty=true) (hd:a9V K C=true) (po:PySem.W.plainOver K C=true) (sa:a8h K (.ref C) "__setattr__"=some (some (.builtin "object.__setattr__"))) (mk:PySem.W.makesIn K C=true) (kc:a80 K (.ref C)=true):Cx2 K x qual st C:=
 ⟨a,⟨pg,hd,po,sa⟩,f,_,⟨mk,i,fn,kc⟩,a2H l c k⟩
theorem F4{K:Frag}{e:Addr}{d:Option Addr}{its:Array Value}{n:Nat}{sl:Array (Option Value)}{xs:List V}(l:K.lookup e=some ⟨.type "tuple",d,.seq its n,sl⟩)(z:its.size<=100)(v:y8 xs its.toList):∀H,v7 K H e xs:=λH=>
 .inr ⟨_,its,n,l,rfl,rfl,a7G z (by decide),v⟩
section
variable{P:Program}{w:World}{K:Frag}{mg:Str->Option Value}{base h:Heap}{C W:Addr}
theorem lzs{n:Nat}{p:List Value->Prop}(h:∀a t,t.length=n->p (a::t)):∀us:List Value,us.length=n+1->p us
 |[],e=>nomatch e
 |a::t,e=>h a t (Nat.succ.inj e)
theorem lz0{p:List Value->Prop}(h:p []):∀us:List Value,us.length=0->p us:=λ_ e=>(a8C e).symm▸h
theorem lz1{p:List Value->Prop}(h:∀a,p [a]):∀us:List Value,us.length=1->p us:=lzs λa=>lz0 (p:=λt=>p (a::t)) (h a)
theorem lz2{p:List Value->Prop}(h:∀a b,p [a,b]):∀us:List Value,us.length=2->p us:=lzs λa=>lz1 (p:=λt=>p (a::t)) (h a)
theorem lz3{p:List Value->Prop}(h:∀a b c,p [a,b,c]):∀us:List Value,us.length=3->p us:=lzs λa=>lz2 (p:=λt=>p (a::t)) (h a)
theorem lz4{p:List Value->Prop}(h:∀a b c d,p [a,b,c,d]):∀us:List Value,us.length=4->p us:=lzs λa=>lz3 (p:=λt=>p (a::t)) (h a)
theorem lz5{p:List Value->Prop}(h:∀a b c d e,p [a,b,c,d,e]):∀us:List Value,us.length=5->p us:=lzs λa=>lz4 (p:=λt=>p (a::t)) (h a)
theorem D3{x:Str}{st:Stmt}{f:Addr}{k:Nat}{ps:List Str}{sp:Sp}(X:K.In h)(G:h.Ns mainGlobals mg)(D:Dx K x st f)(hb:∀fd,M3 K x x st f fd->U0 K fd ps [])(ok:∀fd,M3 K x x st f fd->A7 P w K mg base M2 k f fd ps sp):Df P w K mg base x k ps sp:=by
 obtain⟨fd,F⟩:=D.fn
 exact⟨f,fd,a8e X G D.ns,D.kp,hb fd F,ok fd F⟩
theorem a3M{x qual:Str}{st:Stmt}{k:Nat}{ps:List Str}{sp:Sp}(X:K.In h)(G:h.Ns mainGlobals mg)(D:Cx2 K x qual st C)(hb:∀f fd,M3 K "__init__" qual st f fd->U0 K fd ps [])(ok:∀f fd,M3 K "__init__" qual st f fd->A7 P w K mg base M2 k f fd ps sp):CDf P w K mg base x C k ps sp:=by
 obtain⟨f,fd,M,F⟩:=D.fn
 exact⟨f,fd,a8e X G D.ns,M,hb f fd F,ok f fd F⟩
structure Top(K:Frag)(C W:Addr)(fc:List Addr):Prop where
 nb_ball:a8h K (.ref C) "ball"=some none
 nb_half:a8h K (.ref C) "half"=some none
 nb_place:a8h K (.ref C) "place"=some none
 nb_kind:a8h K (.ref C) "kind"=some none
 nb_hard:a8h K (.ref C) "hard"=some none
 nb_heavy:a8h K (.ref C) "heavy"=some none
 nb_velocity:a8h K (.ref C) "velocity"=some none
 nw_parts:a8h K (.ref W) "parts"=some none
 nw_pull:a8h K (.ref W) "pull"=some none
 nw_bodies:a8h K (.ref W) "bodies"=some none
 nw_ticks:a8h K (.ref W) "ticks"=some none
 nw_met:a8h K (.ref W) "met"=some none
 mB:Cx2 K "Body" "Body.__init__" ad8 C
 mW:Cx2 K "World" "World.__init__" Z7 W
 b_abs:a7R K mainGlobals "abs"=some none
 b_all:a7R K mainGlobals "all"=some none
 b_any:a7R K mainGlobals "any"=some none
 b_enumerate:a7R K mainGlobals "enumerate"=some none
 b_len:a7R K mainGlobals "len"=some none
 b_list:a7R K mainGlobals "list"=some none
 b_max:a7R K mainGlobals "max"=some none
 b_min:a7R K mainGlobals "min"=some none
 b_range:a7R K mainGlobals "range"=some none
 b_sorted:a7R K mainGlobals "sorted"=some none
 b_sum:a7R K mainGlobals "sum"=some none
 b_tuple:a7R K mainGlobals "tuple"=some none
 b_zip:a7R K mainGlobals "zip"=some none
 c_BAD_NUMBER:∃t,a7R K mainGlobals "BAD_NUMBER"=some (some (.int (-1) t))
 c_BEGUN:∃t,a7R K mainGlobals "BEGUN"=some (some (.int (-5) t))
 c_DRIVER:∃t,a7R K mainGlobals "DRIVER"=some (some (.int 2 t))
 c_FASTEST:∃t,a7R K mainGlobals "FASTEST"=some (some (.int 1000 t))
 c_FIXED:∃t,a7R K mainGlobals "FIXED"=some (some (.int 0 t))
 c_FREE:∃t,a7R K mainGlobals "FREE"=some (some (.int 1 t))
 c_FULL:∃t,a7R K mainGlobals "FULL"=some (some (.int (-4) t))
 c_IS_FIXED:∃t,a7R K mainGlobals "IS_FIXED"=some (some (.int (-7) t))
 c_MOST_BODIES:∃t,a7R K mainGlobals "MOST_BODIES"=some (some (.int 20 t))
 c_MOST_TICKS:∃t,a7R K mainGlobals "MOST_TICKS"=some (some (.int 1000 t))
 c_NOT_ALL:∃t,a7R K mainGlobals "NOT_ALL"=some (some (.int (-5) t))
 c_NOT_BEGUN:∃t,a7R K mainGlobals "NOT_BEGUN"=some (some (.int (-2) t))
 c_NO_BODY:∃t,a7R K mainGlobals "NO_BODY"=some (some (.int (-3) t))
 c_NO_ROOM:∃t,a7R K mainGlobals "NO_ROOM"=some (some (.int (-6) t))
 c_RENUMBER:∃t,a7R K mainGlobals "RENUMBER"=some (some (.int 12 t))
 c_TOO_LONG:∃t,a7R K mainGlobals "TOO_LONG"=some (some (.int (-8) t))
 c_END:∃e,a7R K mainGlobals "END"=some (some (.ref e))/\∀H,v7 K H e [.int 1,.int 1,.int 0]
 c_UNOPENED:∃e,a7R K mainGlobals "UNOPENED"=some (some (.ref e))/\∀H,v7 K H e [.int 0,.int 14]
 c_OF_A_BODY:∃e,a7R K mainGlobals "OF_A_BODY"=some (some (.ref e))/\∀H,v7 K H e [.int 3,.int 5,.int 8,.int 11]
 c_CALLS:∃e,a7R K mainGlobals "CALLS"=some (some (.ref e))/\∀H,v7 K H e (fc.map V.ref)
 c_RANGES:∃e rs,a7R K mainGlobals "RANGES"=some (some (.ref e))/\(∀H,v7 K H e (rs.map V.ref))/\Paired (λ(r:Addr) (rg:List Rg)=>∃ys,(∀H,v7 K H r ys)/\Paired (λ(z:Rg) y=>∀H,T2 K z.1 z.2 y H) rg ys) rs D0
structure a4J(K:Frag)(fc:List Addr):Prop where
 x0:∃f,fc[0]? =some f/\Dx K "call_begin" Y9 f
 x1:∃f,fc[1]? =some f/\Dx K "call_box" ai5 f
 x2:∃f,fc[2]? =some f/\Dx K "call_ball" ad9 f
 x3:∃f,fc[3]? =some f/\Dx K "call_aim" ai2 f
 x4:∃f,fc[4]? =some f/\Dx K "call_tick" ad3 f
 x5:∃f,fc[5]? =some f/\Dx K "call_body" ad2 f
 x6:∃f,fc[6]? =some f/\Dx K "call_places" W4 f
 x7:∃f,fc[7]? =some f/\Dx K "call_met" ai6 f
 x8:∃f,fc[8]? =some f/\Dx K "call_would" Z8 f
 x9:∃f,fc[9]? =some f/\Dx K "call_room" ae0 f
 x10:∃f,fc[10]? =some f/\Dx K "call_ray" ai7 f
 x11:∃f,fc[11]? =some f/\Dx K "call_drop" ae1 f
 x12:∃f,fc[12]? =some f/\Dx K "call_renumber" M6 f
 x13:∃f,fc[13]? =some f/\Dx K "call_sums" N2 f
 x14:∃f,fc[14]? =some f/\Dx K "call_totals" W6 f
 x15:∃f,fc[15]? =some f/\Dx K "call_order" aa0 f
 len:fc.length=16
structure a6R(K:Frag)(fc:List Addr):Prop where
 d_crosses_box:∃f,Dx K "crosses_box" a5y f
 d_crosses_ball:∃f,Dx K "crosses_ball" a2N f
 d_seen_from:∃f,Dx K "seen_from" a2O f
 d_crosses_rounded:∃f,Dx K "crosses_rounded" aJ9 f
 d_comes_within:∃f,Dx K "comes_within" aX5 f
 d_reach_of:∃f,Dx K "reach_of" ah4 f
 d_overlap:∃f,Dx K "overlap" an5 f
 d_near_pairs:∃f,Dx K "near_pairs" R6 f
 d_halt:∃f,Dx K "halt" aX9 f
 d_find_met:∃f,Dx K "find_met" P3 f
 d_blocked_axes:∃f,Dx K "blocked_axes" T1 f
 d_groups_of:∃f,Dx K "groups_of" U8 f
 d_at_fixed:∃f,Dx K "at_fixed" ah7 f
 d_group_speeds:∃f,Dx K "group_speeds" E6 f
 d_speeds_behind:∃f,Dx K "speeds_behind" E1 f
 d_velocities_behind:∃f,Dx K "velocities_behind" C3 f
 d_do_part:∃f,Dx K "do_part" af5 f
 d_cut:∃f,Dx K "cut" a3d f
 d_pull_bodies:∃f,Dx K "pull_bodies" W3 f
 d_do_tick:∃f,Dx K "do_tick" ao4 f
 d_motion_of:∃f,Dx K "motion_of" ad0 f
 d_sign_of:∃f,Dx K "sign_of" ao8 f
 d_sign_with_root:∃f,Dx K "sign_with_root" P6 f
 d_compare:∃f,Dx K "compare" ao9 f
 d_is_later:∃f,Dx K "is_later" ai3 f
 d_later_of:∃f,Dx K "later_of" ai4 f
 d_time_to_ball:∃f,Dx K "time_to_ball" T6 f
 d_thousandths_of:∃f,Dx K "thousandths_of" P7 f
 d_time_to_box:∃f,Dx K "time_to_box" Q4 f
 d_time_to_body:∃f,Dx K "time_to_body" T7 f
 d_find_hits:∃f,Dx K "find_hits" V4 f
 d_numbers_within:∃f,Dx K "numbers_within" L9 f
 d_put_in:∃f,Dx K "put_in" aB4 f
 d_in_ranges:∃f,Dx K "in_ranges" V7 f
 d_ranges_at:∃f,Dx K "ranges_at" V6 f
 d_answer_call:∃f,Dx K "answer_call" W8 f
 calls:a4J K fc
theorem a56{fa:Addr}{fc:List Addr}{fd:FuncData}(X:K.In h)(G:h.Ns mainGlobals mg)(tp:Top K C W fc)(df:a6R K fc)(F:M3 K "answers" "answers" ag0 fa fd):A7 P w K mg base M2 11 fa fd ["calls"] (a1p K):=by
 have B_abs:=a8t X G tp.b_abs
 have B_all:=a8t X G tp.b_all
 have B_any:=a8t X G tp.b_any
 have B_enumerate:=a8t X G tp.b_enumerate
 have B_len:=a8t X G tp.b_len
 have B_list:=a8t X G tp.b_list
 have B_max:=a8t X G tp.b_max
 have B_min:=a8t X G tp.b_min
 have B_range:=a8t X G tp.b_range
 have B_sorted:=a8t X G tp.b_sorted
 have B_sum:=a8t X G tp.b_sum
 have B_tuple:=a8t X G tp.b_tuple
 have B_zip:=a8t X G tp.b_zip
 have K_BAD_NUMBER:∃t,mg "BAD_NUMBER"=some (.int (-1) t):=let⟨t,e⟩:=tp.c_BAD_NUMBER;⟨t,a8e X G e⟩
 have K_BEGUN:∃t,mg "BEGUN"=some (.int (-5) t):=let⟨t,e⟩:=tp.c_BEGUN;⟨t,a8e X G e⟩
 have K_DRIVER:∃t,mg "DRIVER"=some (.int 2 t):=let⟨t,e⟩:=tp.c_DRIVER;⟨t,a8e X G e⟩
 have K_FASTEST:∃t,mg "FASTEST"=some (.int 1000 t):=let⟨t,e⟩:=tp.c_FASTEST;⟨t,a8e X G e⟩
 have K_FIXED:∃t,mg "FIXED"=some (.int 0 t):=let⟨t,e⟩:=tp.c_FIXED;⟨t,a8e X G e⟩
 have K_FREE:∃t,mg "FREE"=some (.int 1 t):=let⟨t,e⟩:=tp.c_FREE;⟨t,a8e X G e⟩
 have K_FULL:∃t,mg "FULL"=some (.int (-4) t):=let⟨t,e⟩:=tp.c_FULL;⟨t,a8e X G e⟩
 have K_IS_FIXED:∃t,mg "IS_FIXED"=some (.int (-7) t):=let⟨t,e⟩:=tp.c_IS_FIXED;⟨t,a8e X G e⟩
 have K_MOST_BODIES:∃t,mg "MOST_BODIES"=some (.int 20 t):=let⟨t,e⟩:=tp.c_MOST_BODIES;⟨t,a8e X G e⟩
 have K_MOST_TICKS:∃t,mg "MOST_TICKS"=some (.int 1000 t):=let⟨t,e⟩:=tp.c_MOST_TICKS;⟨t,a8e X G e⟩
 have K_NOT_ALL:∃t,mg "NOT_ALL"=some (.int (-5) t):=let⟨t,e⟩:=tp.c_NOT_ALL;⟨t,a8e X G e⟩
 have K_NOT_BEGUN:∃t,mg "NOT_BEGUN"=some (.int (-2) t):=let⟨t,e⟩:=tp.c_NOT_BEGUN;⟨t,a8e X G e⟩
 have K_NO_BODY:∃t,mg "NO_BODY"=some (.int (-3) t):=let⟨t,e⟩:=tp.c_NO_BODY;⟨t,a8e X G e⟩
 have K_NO_ROOM:∃t,mg "NO_ROOM"=some (.int (-6) t):=let⟨t,e⟩:=tp.c_NO_ROOM;⟨t,a8e X G e⟩
 have K_RENUMBER:∃t,mg "RENUMBER"=some (.int 12 t):=let⟨t,e⟩:=tp.c_RENUMBER;⟨t,a8e X G e⟩
 have K_TOO_LONG:∃t,mg "TOO_LONG"=some (.int (-8) t):=let⟨t,e⟩:=tp.c_TOO_LONG;⟨t,a8e X G e⟩
 have cB:ab9 K C:=⟨tp.mB.cl,tp.nb_ball,tp.nb_half,tp.nb_place,tp.nb_kind,tp.nb_hard,tp.nb_heavy,tp.nb_velocity⟩
 have cW:X4 K W:=⟨tp.mW.cl,tp.nw_parts,tp.nw_pull,tp.nw_bodies,tp.nw_ticks,tp.nw_met⟩
 have T:Txt K mg:=⟨B_max,B_min,B_abs,B_any,B_len⟩
 have hE:a0h K mg:=let⟨e,h1,h2⟩:=tp.c_END;⟨e,a8e X G h1,h2⟩
 have hT_UNOPENED:a4H K mg "UNOPENED" _:=let⟨e,h1,h2⟩:=tp.c_UNOPENED;⟨e,a8e X G h1,h2⟩
 have hT_OF_A_BODY:a4H K mg "OF_A_BODY" _:=let⟨e,h1,h2⟩:=tp.c_OF_A_BODY;⟨e,a8e X G h1,h2⟩
 have hR:aI0 K mg:=let⟨e,rs,h1,h2,h3⟩:=tp.c_RANGES;⟨e,rs,a8e X G h1,h2,h3⟩
 have D_crosses_box:Df P w K mg base "crosses_box" 1 ["line","hx","hy"] (a0P K):=let⟨f,d⟩:=df.d_crosses_box;D3 X G d (λ_ F=>F.binds λ_ _ _ _ _ _=>lz3 λ_ _ _=>rfl) (λ_ F=>a5z F T)
 have D_crosses_ball:Df P w K mg base "crosses_ball" 1 ["line","r"] (aJ7 K):=let⟨f,d⟩:=df.d_crosses_ball;D3 X G d (λ_ F=>F.binds λ_ _ _ _ _ _=>lz2 λ_ _=>rfl) (λ_ F=>a4a F T)
 have D_seen_from:Df P w K mg base "seen_from" 1 ["line","x","y"] (aJ8 K):=let⟨f,d⟩:=df.d_seen_from;D3 X G d (λ_ F=>F.binds λ_ _ _ _ _ _=>lz3 λ_ _ _=>rfl) (λ_ F=>a4b F)
 have D_crosses_rounded:Df P w K mg base "crosses_rounded" 2 ["line","hx","hy","r"] (aK0 K):=let⟨f,d⟩:=df.d_crosses_rounded;D3 X G d (λ_ F=>F.binds λ_ _ _ _ _ _=>lz4 λ_ _ _ _=>rfl) (λ_ F=>a2Q F T D_crosses_box D_crosses_ball D_seen_from)
 have D_comes_within:Df P w K mg base "comes_within" 3 ["one","other","one_way","other_way"] (af3 K C):=let⟨f,d⟩:=df.d_comes_within;D3 X G d (λ_ F=>F.binds λ_ _ _ _ _ _=>lz4 λ_ _ _ _=>rfl) (λ_ F=>a2R F cB (D_crosses_box.mono (by decide)) (D_crosses_ball.mono (by decide)) D_crosses_rounded)
 have D_reach_of:Df P w K mg base "reach_of" 1 ["body"] (aK1 K C):=let⟨f,d⟩:=df.d_reach_of;D3 X G d (λ_ F=>F.binds λ_ _ _ _ _ _=>lz1 λ_=>rfl) (λ_ F=>aQ4 F T cB)
 have D_overlap:Df P w K mg base "overlap" 1 ["one","other"] (an6 K):=let⟨f,d⟩:=df.d_overlap;D3 X G d (λ_ F=>F.binds λ_ _ _ _ _ _=>lz2 λ_ _=>rfl) (λ_ F=>aX7 F)
 have D_near_pairs:Df P w K mg base "near_pairs" 2 ["bodies"] (aX8 K C):=let⟨f,d⟩:=df.d_near_pairs;D3 X G d (λ_ F=>F.binds λ_ _ _ _ _ _=>lz1 λ_=>rfl) (λ_ F=>aC5 F T B_range D_reach_of D_overlap)
 have D_halt:Df P w K mg base "halt" 1 ["ways","pairs"] (aY0 K):=let⟨f,d⟩:=df.d_halt;D3 X G d (λ_ F=>F.binds λ_ _ _ _ _ _=>lz2 λ_ _=>rfl) (λ_ F=>a4c F)
 have D_find_met:Df P w K mg base "find_met" 4 ["bodies"] (aY1 K C):=let⟨f,d⟩:=df.d_find_met;D3 X G d (λ_ F=>F.binds λ_ _ _ _ _ _=>lz1 λ_=>rfl) (λ_ F=>aQ9 F cB (D_near_pairs.mono (by decide)) D_comes_within (D_halt.mono (by decide)))
 have D_blocked_axes:Df P w K mg base "blocked_axes" 4 ["one","other"] (an7 K C):=let⟨f,d⟩:=df.d_blocked_axes;D3 X G d (λ_ F=>F.binds λ_ _ _ _ _ _=>lz2 λ_ _=>rfl) (λ_ F=>at3 F cB D_comes_within)
 have D_groups_of:Df P w K mg base "groups_of" 1 ["bodies","pairs"] (ax4 K C):=let⟨f,d⟩:=df.d_groups_of;D3 X G d (λ_ F=>F.binds λ_ _ _ _ _ _=>lz2 λ_ _=>rfl) (λ_ F=>aK6 F T cB B_range B_list B_sorted K_FIXED)
 have D_at_fixed:Df P w K mg base "at_fixed" 1 ["bodies","pairs"] (aY7 K C):=let⟨f,d⟩:=df.d_at_fixed;D3 X G d (λ_ F=>F.binds λ_ _ _ _ _ _=>lz2 λ_ _=>rfl) (λ_ F=>aR7 F cB K_FIXED)
 have D_group_speeds:Df P w K mg base "group_speeds" 1 ["members","speeds","held"] (a5J K C):=let⟨f,d⟩:=df.d_group_speeds;D3 X G d (λ_ F=>F.binds λ_ _ _ _ _ _=>lz3 λ_ _ _=>rfl) (λ_ F=>at4 F T cB B_zip K_DRIVER)
 have D_speeds_behind:Df P w K mg base "speeds_behind" 2 ["bodies","pairs","axis"] (a5L K C):=let⟨f,d⟩:=df.d_speeds_behind;D3 X G d (λ_ F=>F.binds λ_ _ _ _ _ _=>lz3 λ_ _ _=>rfl) (λ_ F=>an9 F T cB B_zip B_list D_at_fixed D_groups_of D_group_speeds)
 have D_velocities_behind:Df P w K mg base "velocities_behind" 5 ["bodies","met"] (a5M K C):=let⟨f,d⟩:=df.d_velocities_behind;D3 X G d (λ_ F=>F.binds λ_ _ _ _ _ _=>lz2 λ_ _=>rfl) (λ_ F=>ac7 F B_zip B_list D_blocked_axes (D_speeds_behind.mono (by decide)))
 have D_do_part:Df P w K mg base "do_part" 6 ["bodies"] (a5O K C):=let⟨f,d⟩:=df.d_do_part;D3 X G d (λ_ F=>F.binds λ_ _ _ _ _ _=>lz1 λ_=>rfl) (λ_ F=>aZ8 F cB B_zip (D_find_met.mono (by decide)) D_velocities_behind)
 have D_cut:Df P w K mg base "cut" 1 ["speed"] a3f:=let⟨f,d⟩:=df.d_cut;D3 X G d (λ_ F=>F.binds λ_ _ _ _ _ _=>lz1 λ_=>rfl) (λ_ F=>a5P F T K_FASTEST)
 have D_pull_bodies:Df P w K mg base "pull_bodies" 2 ["world"] (aZ9 K C W):=let⟨f,d⟩:=df.d_pull_bodies;D3 X G d (λ_ F=>F.binds λ_ _ _ _ _ _=>lz1 λ_=>rfl) (λ_ F=>ay6 F cB cW K_FREE D_cut)
 have D_do_tick:Df P w K mg base "do_tick" 7 ["world"] (a0a K C W):=let⟨f,d⟩:=df.d_do_tick;D3 X G d (λ_ F=>F.binds λ_ _ _ _ _ _=>lz1 λ_=>rfl) (λ_ F=>a0b F cW B_range (D_pull_bodies.mono (by decide)) D_do_part)
 have D_motion_of:Df P w K mg base "motion_of" 1 ["body"] (ak7 K C):=let⟨f,d⟩:=df.d_motion_of;D3 X G d (λ_ F=>F.binds λ_ _ _ _ _ _=>lz1 λ_=>rfl) (λ_ F=>aL0 F cB)
 have D_sign_of:Df P w K mg base "sign_of" 1 ["number"] aM0:=let⟨f,d⟩:=df.d_sign_of;D3 X G d (λ_ F=>F.binds λ_ _ _ _ _ _=>lz1 λ_=>rfl) (λ_ F=>a0f F)
 have D_sign_with_root:Df P w K mg base "sign_with_root" 2 ["whole","square"] aM1:=let⟨f,d⟩:=df.d_sign_with_root;D3 X G d (λ_ F=>F.binds λ_ _ _ _ _ _=>lz2 λ_ _=>rfl) (λ_ F=>al5 F D_sign_of)
 have D_compare:Df P w K mg base "compare" 3 ["one","other"] (ap0 K):=let⟨f,d⟩:=df.d_compare;D3 X G d (λ_ F=>F.binds λ_ _ _ _ _ _=>lz2 λ_ _=>rfl) (λ_ F=>a0g F (D_sign_of.mono (by decide)) D_sign_with_root)
 have D_is_later:Df P w K mg base "is_later" 4 ["one","other"] (Z3 K):=let⟨f,d⟩:=df.d_is_later;D3 X G d (λ_ F=>F.binds λ_ _ _ _ _ _=>lz2 λ_ _=>rfl) (λ_ F=>aT5 F D_compare)
 have D_later_of:Df P w K mg base "later_of" 5 ["one","other"] (ap1 K):=let⟨f,d⟩:=df.d_later_of;D3 X G d (λ_ F=>F.binds λ_ _ _ _ _ _=>lz2 λ_ _=>rfl) (λ_ F=>aT6 F D_is_later)
 have D_time_to_ball:Df P w K mg base "time_to_ball" 5 ["line","r"] (aM2 K):=let⟨f,d⟩:=df.d_time_to_ball;D3 X G d (λ_ F=>F.binds λ_ _ _ _ _ _=>lz2 λ_ _=>rfl) (λ_ F=>at6 F hE D_is_later)
 have D_thousandths_of:Df P w K mg base "thousandths_of" 5 ["time"] (a0i K):=let⟨f,d⟩:=df.d_thousandths_of;D3 X G d (λ_ F=>F.binds λ_ _ _ _ _ _=>lz1 λ_=>rfl) (λ_ F=>al6 F D_is_later)
 have D_time_to_box:Df P w K mg base "time_to_box" 6 ["line","half"] (a0k K):=let⟨f,d⟩:=df.d_time_to_box;D3 X G d (λ_ F=>F.binds λ_ _ _ _ _ _=>lz2 λ_ _=>rfl) (λ_ F=>aB0 F T hE (D_is_later.mono (by decide)) D_later_of)
 have D_time_to_body:Df P w K mg base "time_to_body" 7 ["line","body"] (aM3 K C):=let⟨f,d⟩:=df.d_time_to_body;D3 X G d (λ_ F=>F.binds λ_ _ _ _ _ _=>lz2 λ_ _=>rfl) (λ_ F=>at7 F cB (D_seen_from.mono (by decide)) (D_time_to_ball.mono (by decide)) D_time_to_box)
 have D_find_hits:Df P w K mg base "find_hits" 8 ["bodies","line"] (aM5 K C):=let⟨f,d⟩:=df.d_find_hits;D3 X G d (λ_ F=>F.binds λ_ _ _ _ _ _=>lz2 λ_ _=>rfl) (λ_ F=>aM6 F T B_enumerate D_time_to_body (D_is_later.mono (by decide)))
 have D_Body:CDf P w K mg base "Body" C 1 ["self","ball","half","place","nature"] (al8 K C):=a3M X G tp.mB (λ_ _ F=>F.binds λ_ _ _ _ _ _=>lz5 λ_ _ _ _ _=>rfl) (λ_ _ F=>aM7 F cB)
 have D_numbers_within:Df P w K mg base "numbers_within" 4 ["world","shape"] (a4x K C W):=let⟨f,d⟩:=df.d_numbers_within;D3 X G d (λ_ F=>F.binds λ_ _ _ _ _ _=>lz2 λ_ _=>rfl) (λ_ F=>am0 F cW B_enumerate D_comes_within)
 have D_put_in:Df P w K mg base "put_in" 5 ["world","body"] (a1f K C W):=let⟨f,d⟩:=df.d_put_in;D3 X G d (λ_ F=>F.binds λ_ _ _ _ _ _=>lz2 λ_ _=>rfl) (λ_ F=>a2a F T cW K_MOST_BODIES K_FULL K_NO_ROOM D_numbers_within)
 have D_World:CDf P w K mg base "World" W 1 ["self"] (aN0 K W):=a3M X G tp.mW (λ_ _ F=>F.binds λ_ _ _ _ _ _=>lz1 λ_=>rfl) (λ_ _ F=>aD3 F cW)
 have D_in_ranges:Df P w K mg base "in_ranges" 1 ["numbers","ranges"] (a3F K):=let⟨f,d⟩:=df.d_in_ranges;D3 X G d (λ_ F=>F.binds λ_ _ _ _ _ _=>lz2 λ_ _=>rfl) (λ_ F=>aN3 F B_all B_zip)
 have D_ranges_at:Df P w K mg base "ranges_at" 1 ["calls","at"] (a0n K):=let⟨f,d⟩:=df.d_ranges_at;D3 X G d (λ_ F=>F.binds λ_ _ _ _ _ _=>lz2 λ_ _=>rfl) (λ_ F=>aN4 F B_list B_range hR K_RENUMBER)
 have hC:aV3 P w K mg base C W 9:=by
  obtain⟨e,h1,h2⟩:=tp.c_CALLS
  refine⟨e,fc,a8e X G h1,h2,df.calls.len,λc f hf=> ?_⟩
  have hc:c<16:=by rw[←df.calls.len];exact(a7x.mp hf).1
  rcases a54 c hc with rfl|rfl|rfl|rfl|rfl|rfl|rfl|rfl|rfl|rfl|rfl|rfl|rfl|rfl|rfl|rfl
  ·obtain⟨f',e',D⟩:=df.calls.x0
   rw[hf]at e';cases e'
   obtain⟨fd,F⟩:=D.fn
   exact⟨D.kp,fd,F.binds λ_ _ _ _ _ _=>lz2 λ_ _=>rfl,((aD2 (P:=P) (w:=w) (mg:=mg) (base:=base) F cW K_BEGUN).imp a4A).mono (by decide)⟩
  ·obtain⟨f',e',D⟩:=df.calls.x1
   rw[hf]at e';cases e'
   obtain⟨fd,F⟩:=D.fn
   exact⟨D.kp,fd,F.binds λ_ _ _ _ _ _=>lz2 λ_ _=>rfl,((aU2 (P:=P) (w:=w) (mg:=mg) (base:=base) F (D_Body.mono (by decide)) D_put_in).imp a50).mono (by decide)⟩
  ·obtain⟨f',e',D⟩:=df.calls.x2
   rw[hf]at e';cases e'
   obtain⟨fd,F⟩:=D.fn
   exact⟨D.kp,fd,F.binds λ_ _ _ _ _ _=>lz2 λ_ _=>rfl,((aM8 (P:=P) (w:=w) (mg:=mg) (base:=base) F (D_Body.mono (by decide)) D_put_in).imp a4B).mono (by decide)⟩
  ·obtain⟨f',e',D⟩:=df.calls.x3
   rw[hf]at e';cases e'
   obtain⟨fd,F⟩:=D.fn
   exact⟨D.kp,fd,F.binds λ_ _ _ _ _ _=>lz2 λ_ _=>rfl,((aS4 (P:=P) (w:=w) (mg:=mg) (base:=base) F T cB cW K_IS_FIXED K_FIXED).imp a51).mono (by decide)⟩
  ·obtain⟨f',e',D⟩:=df.calls.x4
   rw[hf]at e';cases e'
   obtain⟨fd,F⟩:=D.fn
   exact⟨D.kp,fd,F.binds λ_ _ _ _ _ _=>lz2 λ_ _=>rfl,((aL2 (P:=P) (w:=w) (mg:=mg) (base:=base) F T cW B_range K_MOST_TICKS K_TOO_LONG D_do_tick).imp a4C).mono (by decide)⟩
  ·obtain⟨f',e',D⟩:=df.calls.x5
   rw[hf]at e';cases e'
   obtain⟨fd,F⟩:=D.fn
   exact⟨D.kp,fd,F.binds λ_ _ _ _ _ _=>lz2 λ_ _=>rfl,((aL3 (P:=P) (w:=w) (mg:=mg) (base:=base) F cB cW D_motion_of).imp a4D).mono (by decide)⟩
  ·obtain⟨f',e',D⟩:=df.calls.x6
   rw[hf]at e';cases e'
   obtain⟨fd,F⟩:=D.fn
   exact⟨D.kp,fd,F.binds λ_ _ _ _ _ _=>lz2 λ_ _=>rfl,((az3 (P:=P) (w:=w) (mg:=mg) (base:=base) F cW D_motion_of).imp a2f).mono (by decide)⟩
  ·obtain⟨f',e',D⟩:=df.calls.x7
   rw[hf]at e';cases e'
   obtain⟨fd,F⟩:=D.fn
   exact⟨D.kp,fd,F.binds λ_ _ _ _ _ _=>lz2 λ_ _=>rfl,((aU3 (P:=P) (w:=w) (mg:=mg) (base:=base) F cW).imp a52).mono (by decide)⟩
  ·obtain⟨f',e',D⟩:=df.calls.x8
   rw[hf]at e';cases e'
   obtain⟨fd,F⟩:=D.fn
   exact⟨D.kp,fd,F.binds λ_ _ _ _ _ _=>lz2 λ_ _=>rfl,((aD4 (P:=P) (w:=w) (mg:=mg) (base:=base) F cW B_enumerate D_comes_within).imp a3I).mono (by decide)⟩
  ·obtain⟨f',e',D⟩:=df.calls.x9
   rw[hf]at e';cases e'
   obtain⟨fd,F⟩:=D.fn
   exact⟨D.kp,fd,F.binds λ_ _ _ _ _ _=>lz2 λ_ _=>rfl,((aM9 (P:=P) (w:=w) (mg:=mg) (base:=base) F K_FIXED (D_Body.mono (by decide)) D_numbers_within).imp a4E).mono (by decide)⟩
  ·obtain⟨f',e',D⟩:=df.calls.x10
   rw[hf]at e';cases e'
   obtain⟨fd,F⟩:=D.fn
   exact⟨D.kp,fd,F.binds λ_ _ _ _ _ _=>lz2 λ_ _=>rfl,((aU8 (P:=P) (w:=w) (mg:=mg) (base:=base) F cW B_tuple D_find_hits (D_thousandths_of.mono (by decide))).imp a53).mono (by decide)⟩
  ·obtain⟨f',e',D⟩:=df.calls.x11
   rw[hf]at e';cases e'
   obtain⟨fd,F⟩:=D.fn
   exact⟨D.kp,fd,F.binds λ_ _ _ _ _ _=>lz2 λ_ _=>rfl,((aN1 (P:=P) (w:=w) (mg:=mg) (base:=base) F cW).imp a4F).mono (by decide)⟩
  ·obtain⟨f',e',D⟩:=df.calls.x12
   rw[hf]at e';cases e'
   obtain⟨fd,F⟩:=D.fn
   exact⟨D.kp,fd,F.binds λ_ _ _ _ _ _=>lz2 λ_ _=>rfl,((ap4 (P:=P) (w:=w) (mg:=mg) (base:=base) F T cW B_sorted B_list B_range K_NOT_ALL).imp aV0).mono (by decide)⟩
  ·obtain⟨f',e',D⟩:=df.calls.x13
   rw[hf]at e';cases e'
   obtain⟨fd,F⟩:=D.fn
   exact⟨D.kp,fd,F.binds λ_ _ _ _ _ _=>lz2 λ_ _=>rfl,((aN2 (P:=P) (w:=w) (mg:=mg) (base:=base) F cB cW B_sum).imp a4G).mono (by decide)⟩
  ·obtain⟨f',e',D⟩:=df.calls.x14
   rw[hf]at e';cases e'
   obtain⟨fd,F⟩:=D.fn
   exact⟨D.kp,fd,F.binds λ_ _ _ _ _ _=>lz2 λ_ _=>rfl,((aB5 (P:=P) (w:=w) (mg:=mg) (base:=base) F T cW).imp a2g).mono (by decide)⟩
  ·obtain⟨f',e',D⟩:=df.calls.x15
   rw[hf]at e';cases e'
   obtain⟨fd,F⟩:=D.fn
   exact⟨D.kp,fd,F.binds λ_ _ _ _ _ _=>lz2 λ_ _=>rfl,((aD5 (P:=P) (w:=w) (mg:=mg) (base:=base) F cW B_tuple D_find_hits).imp a3J).mono (by decide)⟩
 have D_answer_call:Df P w K mg base "answer_call" 10 ["world","call","numbers","ranges"] (a55 K C W):=let⟨f,d⟩:=df.d_answer_call;D3 X G d (λ_ F=>F.binds λ_ _ _ _ _ _=>lz4 λ_ _ _ _=>rfl) (λ_ F=>aB9 F T cW K_BAD_NUMBER K_NOT_BEGUN K_NO_BODY hT_UNOPENED hT_OF_A_BODY hC (D_in_ranges.mono (by decide)))
 exact a0u F T (D_World.mono (by decide)) (D_ranges_at.mono (by decide)) D_answer_call
theorem j8{a:Addr}:L2.B4 (.ref a) (.ref a):=rfl
theorem O2{i:Int}{t:Tok}:L2.B4 (.int i) (.int i t):=⟨t,rfl⟩
theorem ap7{r:Addr}{ps:List Addr}{rg:List Rg}(t:∀H,v7 K H r (ps.map V.ref))(q:Paired (λ(z:Rg) p=>∀H,v7 K H p [.int z.1,.int z.2]) rg ps):∃ys,(∀H,v7 K H r ys)/\Paired (λ(z:Rg) y=>∀H,T2 K z.1 z.2 y H) rg ys:=by
 refine⟨_,t,?_⟩
 clear t
 induction q with
 |nil=>exact .nil
 |cons h _ ih=>exact .cons (λH=>⟨_,rfl,h H⟩) ih
theorem a4K{r:Addr}(t:∀H,v7 K H r []):∃ys,(∀H,v7 K H r ys)/\Paired (λ(z:Rg) y=>∀H,T2 K z.1 z.2 y H) [] ys:=
 ap7 (ps:=[]) t .nil
theorem a4L{r p0:Addr}{z0:Rg}(t:∀H,v7 K H r [.ref p0])(q0:∀H,v7 K H p0 [.int z0.1,.int z0.2]):∃ys,(∀H,v7 K H r ys)/\Paired (λ(z:Rg) y=>∀H,T2 K z.1 z.2 y H) [z0] ys:=
 ap7 (ps:=[p0]) t (.cons q0 .nil)
theorem a57{r p0 p1 p2:Addr}{z0 z1 z2:Rg}(t:∀H,v7 K H r [.ref p0,.ref p1,.ref p2])(q0:∀H,v7 K H p0 [.int z0.1,.int z0.2])(q1:∀H,v7 K H p1 [.int z1.1,.int z1.2])(q2:∀H,v7 K H p2 [.int z2.1,.int z2.2]):∃ys,(∀H,v7 K H r ys)/\Paired (λ(z:Rg) y=>∀H,T2 K z.1 z.2 y H) [z0,z1,z2] ys:=
 ap7 (ps:=[p0,p1,p2]) t (.cons q0 (.cons q1 (.cons q2 .nil)))
theorem a58{r p0 p1 p2 p3:Addr}{z0 z1 z2 z3:Rg}(t:∀H,v7 K H r [.ref p0,.ref p1,.ref p2,.ref p3])(q0:∀H,v7 K H p0 [.int z0.1,.int z0.2])(q1:∀H,v7 K H p1 [.int z1.1,.int z1.2])(q2:∀H,v7 K H p2 [.int z2.1,.int z2.2])(q3:∀H,v7 K H p3 [.int z3.1,.int z3.2]):∃ys,(∀H,v7 K H r ys)/\Paired (λ(z:Rg) y=>∀H,T2 K z.1 z.2 y H) [z0,z1,z2,z3] ys:=
 ap7 (ps:=[p0,p1,p2,p3]) t (.cons q0 (.cons q1 (.cons q2 (.cons q3 .nil))))
theorem a7o{r p0 p1 p2 p3 p4 p5:Addr}{z0 z1 z2 z3 z4 z5:Rg}(t:∀H,v7 K H r [.ref p0,.ref p1,.ref p2,.ref p3,.ref p4,.ref p5])(q0:∀H,v7 K H p0 [.int z0.1,.int z0.2])(q1:∀H,v7 K H p1 [.int z1.1,.int z1.2])(q2:∀H,v7 K H p2 [.int z2.1,.int z2.2])(q3:∀H,v7 K H p3 [.int z3.1,.int z3.2])(q4:∀H,v7 K H p4 [.int z4.1,.int z4.2])(q5:∀H,v7 K H p5 [.int z5.1,.int z5.2]):∃ys,(∀H,v7 K H r ys)/\Paired (λ(z:Rg) y=>∀H,T2 K z.1 z.2 y H) [z0,z1,z2,z3,z4,z5] ys:=
 ap7 (ps:=[p0,p1,p2,p3,p4,p5]) t (.cons q0 (.cons q1 (.cons q2 (.cons q3 (.cons q4 (.cons q5 .nil))))))
theorem a7p{r p0 p1 p2 p3 p4 p5 p6:Addr}{z0 z1 z2 z3 z4 z5 z6:Rg}(t:∀H,v7 K H r [.ref p0,.ref p1,.ref p2,.ref p3,.ref p4,.ref p5,.ref p6])(q0:∀H,v7 K H p0 [.int z0.1,.int z0.2])(q1:∀H,v7 K H p1 [.int z1.1,.int z1.2])(q2:∀H,v7 K H p2 [.int z2.1,.int z2.2])(q3:∀H,v7 K H p3 [.int z3.1,.int z3.2])(q4:∀H,v7 K H p4 [.int z4.1,.int z4.2])(q5:∀H,v7 K H p5 [.int z5.1,.int z5.2])(q6:∀H,v7 K H p6 [.int z6.1,.int z6.2]):∃ys,(∀H,v7 K H r ys)/\Paired (λ(z:Rg) y=>∀H,T2 K z.1 z.2 y H) [z0,z1,z2,z3,z4,z5,z6] ys:=
 ap7 (ps:=[p0,p1,p2,p3,p4,p5,p6]) t (.cons q0 (.cons q1 (.cons q2 (.cons q3 (.cons q4 (.cons q5 (.cons q6 .nil)))))))
theorem a59{e r0 r1 r2 r3 r4 r5 r6 r7 r8 r9 r10 r11 r12 r13 r14 r15:Addr}(a:a7R K mainGlobals "RANGES"=some (some (.ref e)))(t:∀H,v7 K H e [.ref r0,.ref r1,.ref r2,.ref r3,.ref r4,.ref r5,.ref r6,.ref r7,.ref r8,.ref r9,.ref r10,.ref r11,.ref r12,.ref r13,.ref r14,.ref r15])
 (w0:∃ys,(∀H,v7 K H r0 ys)/\Paired (λ(z:Rg) y=>∀H,T2 K z.1 z.2 y H) ([(1,16),(-100,100),(-100,100)]:List Rg) ys)
 (w1:∃ys,(∀H,v7 K H r1 ys)/\Paired (λ(z:Rg) y=>∀H,T2 K z.1 z.2 y H) ([P1,P1,S1,S1,(0,2),B1,B1]:List Rg) ys)
 (w2:∃ys,(∀H,v7 K H r2 ys)/\Paired (λ(z:Rg) y=>∀H,T2 K z.1 z.2 y H) ([P1,P1,S1,(0,2),B1,B1]:List Rg) ys)
 (w3:∃ys,(∀H,v7 K H r3 ys)/\Paired (λ(z:Rg) y=>∀H,T2 K z.1 z.2 y H) ([I1,V1,V1]:List Rg) ys)
 (w4:∃ys,(∀H,v7 K H r4 ys)/\Paired (λ(z:Rg) y=>∀H,T2 K z.1 z.2 y H) ([(1,20)]:List Rg) ys)
 (w5:∃ys,(∀H,v7 K H r5 ys)/\Paired (λ(z:Rg) y=>∀H,T2 K z.1 z.2 y H) ([I1]:List Rg) ys)
 (w6:∃ys,(∀H,v7 K H r6 ys)/\Paired (λ(z:Rg) y=>∀H,T2 K z.1 z.2 y H) ([]:List Rg) ys)
 (w7:∃ys,(∀H,v7 K H r7 ys)/\Paired (λ(z:Rg) y=>∀H,T2 K z.1 z.2 y H) ([]:List Rg) ys)
 (w8:∃ys,(∀H,v7 K H r8 ys)/\Paired (λ(z:Rg) y=>∀H,T2 K z.1 z.2 y H) ([I1,P1,P1]:List Rg) ys)
 (w9:∃ys,(∀H,v7 K H r9 ys)/\Paired (λ(z:Rg) y=>∀H,T2 K z.1 z.2 y H) ([P1,P1,S1,S1]:List Rg) ys)
 (w10:∃ys,(∀H,v7 K H r10 ys)/\Paired (λ(z:Rg) y=>∀H,T2 K z.1 z.2 y H) ([P1,P1,P1,P1]:List Rg) ys)
 (w11:∃ys,(∀H,v7 K H r11 ys)/\Paired (λ(z:Rg) y=>∀H,T2 K z.1 z.2 y H) ([I1]:List Rg) ys)
 (w12:∃ys,(∀H,v7 K H r12 ys)/\Paired (λ(z:Rg) y=>∀H,T2 K z.1 z.2 y H) ([(0,20)]:List Rg) ys)
 (w13:∃ys,(∀H,v7 K H r13 ys)/\Paired (λ(z:Rg) y=>∀H,T2 K z.1 z.2 y H) ([]:List Rg) ys)
 (w14:∃ys,(∀H,v7 K H r14 ys)/\Paired (λ(z:Rg) y=>∀H,T2 K z.1 z.2 y H) ([]:List Rg) ys)
 (w15:∃ys,(∀H,v7 K H r15 ys)/\Paired (λ(z:Rg) y=>∀H,T2 K z.1 z.2 y H) ([P1,P1,P1,P1]:List Rg) ys)
 :∃e rs,a7R K mainGlobals "RANGES"=some (some (.ref e))/\(∀H,v7 K H e (rs.map V.ref))/\Paired (λ(r:Addr) (rg:List Rg)=>∃ys,(∀H,v7 K H r ys)/\Paired (λ(z:Rg) y=>∀H,T2 K z.1 z.2 y H) rg ys) rs D0:=
 ⟨e,[r0,r1,r2,r3,r4,r5,r6,r7,r8,r9,r10,r11,r12,r13,r14,r15],a,t,(.cons w0 (.cons w1 (.cons w2 (.cons w3 (.cons w4 (.cons w5 (.cons w6 (.cons w7 (.cons w8 (.cons w9 (.cons w10 (.cons w11 (.cons w12 (.cons w13 (.cons w14 (.cons w15 .nil))))))))))))))))⟩
theorem O3{C W fa fA:Addr}{fc:List Addr}(X:K.In h)(G:h.Ns mainGlobals mg)(hfa:mg "answers"=some (.ref fa))(tp:Top K C W fc)(df:a6R K fc)(dA:Dx K "answers" ag0 fA):
 ∃fd:FuncData,(∀(s:Shared) (us:List Value),us.length=(["calls"]:List Str).length->BindsTo s fd ⟨us,[]⟩ ((["calls"]:List Str).zip us))/\∀base:Heap,K.In base->base.Ns mainGlobals mg->A7 P w K mg base M2 11 fa fd ["calls"] (a1p K):=by
 have e:=hfa.symm.trans (a8e X G dA.ns)
 cases e
 obtain⟨fd,F⟩:=dA.fn
 obtain⟨oc,od,kV,doc,pm,an,cdv,ct,osl,e1,lk,hcd⟩:=F.ex
 refine⟨fd,λs us hu=> ?_,λbase _ _=>a56 X G tp df F⟩
 rw[e1]
 revert us
 exact lz1 λ_=> .of_eq rfl
end
end Mp
open PySem PySem.W PyProof.Rows
local macro_rules | `(tactic| walk_at "dx") => `(tactic| (refine' Mp.a41 ?a ?l ?c ?k; (case a => k_is); (case l => k_is); (case c => k_is); (case k => k_is)))
local macro_rules | `(tactic| walk_at "ed") => `(tactic| (refine' ⟨_, Mp.a41 ?a ?l ?c ?k⟩; (case a => k_is); (case l => k_is); (case c => k_is); (case k => k_is)))
local macro_rules | `(tactic| walk_at "cx") => `(tactic| (refine' Mp.a6Q ?a ?i ?fn ?l ?c ?k ?pg ?hd ?po ?sa ?mk ?kc; (case a => k_is); (case i => k_is); (case fn => k_is); (case l => k_is); (case c => k_is); (case k => k_is); (case pg => k_is); (case hd => k_is); (case po => k_is); (case sa => k_is); (case mk => k_is); (case kc => k_is)))
local macro_rules | `(tactic| walk_at "ci") => `(tactic| (exact ⟨_, by k_is⟩))
local macro_rules | `(tactic| walk_at "t2") => `(tactic| (refine' Mp.F4 ?l ?z ?v; (case l => k_is); (case v => exact .cons Mp.O2 (.cons Mp.O2 .nil)); (case z => decide)))
set_option maxRecDepth 100000 in
set_option maxHeartbeats 0 in
theorem PySem.Challenge.cw_meetingbodies_s01_answers_holds : PySem.Challenge.rw_meetingbodies_s01_answers.Holds := by
 w_on;k_headS;(case hw=>exact⟨[.list [.int 14]],by decide+kernel,by decide+kernel⟩)
 k_fillS
 refine L2.aX0 (r:=PySem.Challenge.rw_meetingbodies_s01_answers) (k:=11) (CX:=L2.M2) (ps:=["calls"]) (sp:=Mp.a1p) (by decide+kernel) rfl rfl ⟨rfl,by decide,by decide⟩ (λw h Y=>PySem.W.kIn_of Y) ?F ?S (λ_ _ _ _ z=>z)
 case F=>
  intro w mg fa h Y KX G hmg
  refine' Mp.O3 (fc:=[_,_,_,_,_,_,_,_,_,_,_,_,_,_,_,_]) KX G hmg ?tp ?df ?dA
  (case dA=>walk_at "dx")
  case df=>
   refine'{d_crosses_box:= ?d0,d_crosses_ball:= ?d1,d_seen_from:= ?d2,d_crosses_rounded:= ?d3,d_comes_within:= ?d4,d_reach_of:= ?d5,d_overlap:= ?d6,d_near_pairs:= ?d7,d_halt:= ?d8,d_find_met:= ?d9,d_blocked_axes:= ?d10,d_groups_of:= ?d11,d_at_fixed:= ?d12,d_group_speeds:= ?d13,d_speeds_behind:= ?d14,d_velocities_behind:= ?d15,d_do_part:= ?d16,d_cut:= ?d17,d_pull_bodies:= ?d18,d_do_tick:= ?d19,d_motion_of:= ?d20,d_sign_of:= ?d21,d_sign_with_root:= ?d22,d_compare:= ?d23,d_is_later:= ?d24,d_later_of:= ?d25,d_time_to_ball:= ?d26,d_thousandths_of:= ?d27,d_time_to_box:= ?d28,d_time_to_body:= ?d29,d_find_hits:= ?d30,d_numbers_within:= ?d31,d_put_in:= ?d32,d_in_ranges:= ?d33,d_ranges_at:= ?d34,d_answer_call:= ?d35,calls:={x0:=⟨_,rfl,?x0⟩,x1:=⟨_,rfl,?x1⟩,x2:=⟨_,rfl,?x2⟩,x3:=⟨_,rfl,?x3⟩,x4:=⟨_,rfl,?x4⟩,x5:=⟨_,rfl,?x5⟩,x6:=⟨_,rfl,?x6⟩,x7:=⟨_,rfl,?x7⟩,x8:=⟨_,rfl,?x8⟩,x9:=⟨_,rfl,?x9⟩,x10:=⟨_,rfl,?x10⟩,x11:=⟨_,rfl,?x11⟩,x12:=⟨_,rfl,?x12⟩,x13:=⟨_,rfl,?x13⟩,x14:=⟨_,rfl,?x14⟩,x15:=⟨_,rfl,?x15⟩,len:=rfl}}
   (case d0=>walk_at "ed")
   (case d1=>walk_at "ed")
   (case d2=>walk_at "ed")
   (case d3=>walk_at "ed")
   (case d4=>walk_at "ed")
   (case d5=>walk_at "ed")
   (case d6=>walk_at "ed")
   (case d7=>walk_at "ed")
   (case d8=>walk_at "ed")
   (case d9=>walk_at "ed")
   (case d10=>walk_at "ed")
   (case d11=>walk_at "ed")
   (case d12=>walk_at "ed")
   (case d13=>walk_at "ed")
   (case d14=>walk_at "ed")
   (case d15=>walk_at "ed")
   (case d16=>walk_at "ed")
   (case d17=>walk_at "ed")
   (case d18=>walk_at "ed")
   (case d19=>walk_at "ed")
   (case d20=>walk_at "ed")
   (case d21=>walk_at "ed")
   (case d22=>walk_at "ed")
   (case d23=>walk_at "ed")
   (case d24=>walk_at "ed")
   (case d25=>walk_at "ed")
   (case d26=>walk_at "ed")
   (case d27=>walk_at "ed")
   (case d28=>walk_at "ed")
   (case d29=>walk_at "ed")
   (case d30=>walk_at "ed")
   (case d31=>walk_at "ed")
   (case d32=>walk_at "ed")
   (case d33=>walk_at "ed")
   (case d34=>walk_at "ed")
   (case d35=>walk_at "ed")
   (case x0=>walk_at "dx")
   (case x1=>walk_at "dx")
   (case x2=>walk_at "dx")
   (case x3=>walk_at "dx")
   (case x4=>walk_at "dx")
   (case x5=>walk_at "dx")
   (case x6=>walk_at "dx")
   (case x7=>walk_at "dx")
   (case x8=>walk_at "dx")
   (case x9=>walk_at "dx")
   (case x10=>walk_at "dx")
   (case x11=>walk_at "dx")
   (case x12=>walk_at "dx")
   (case x13=>walk_at "dx")
   (case x14=>walk_at "dx")
   (case x15=>walk_at "dx")
  case tp=>
   refine'{mB:= ?mB,mW:= ?mW,nb_ball:= ?nb_ball,nb_half:= ?nb_half,nb_place:= ?nb_place,nb_kind:= ?nb_kind,nb_hard:= ?nb_hard,nb_heavy:= ?nb_heavy,nb_velocity:= ?nb_velocity,nw_parts:= ?nw_parts,nw_pull:= ?nw_pull,nw_bodies:= ?nw_bodies,nw_ticks:= ?nw_ticks,nw_met:= ?nw_met,b_abs:= ?b_abs,b_all:= ?b_all,b_any:= ?b_any,b_enumerate:= ?b_enumerate,b_len:= ?b_len,b_list:= ?b_list,b_max:= ?b_max,b_min:= ?b_min,b_range:= ?b_range,b_sorted:= ?b_sorted,b_sum:= ?b_sum,b_tuple:= ?b_tuple,b_zip:= ?b_zip,c_BAD_NUMBER:= ?c_BAD_NUMBER,c_BEGUN:= ?c_BEGUN,c_DRIVER:= ?c_DRIVER,c_FASTEST:= ?c_FASTEST,c_FIXED:= ?c_FIXED,c_FREE:= ?c_FREE,c_FULL:= ?c_FULL,c_IS_FIXED:= ?c_IS_FIXED,c_MOST_BODIES:= ?c_MOST_BODIES,c_MOST_TICKS:= ?c_MOST_TICKS,c_NOT_ALL:= ?c_NOT_ALL,c_NOT_BEGUN:= ?c_NOT_BEGUN,c_NO_BODY:= ?c_NO_BODY,c_NO_ROOM:= ?c_NO_ROOM,c_RENUMBER:= ?c_RENUMBER,c_TOO_LONG:= ?c_TOO_LONG,c_END:=⟨_,?e1,Mp.F4 ?l1 ?z1 ?v1⟩,c_UNOPENED:=⟨_,?e2,Mp.F4 ?l2 ?z2 ?v2⟩,c_OF_A_BODY:=⟨_,?e3,Mp.F4 ?l3 ?z3 ?v3⟩,c_CALLS:=⟨_,?e4,Mp.F4 ?l4 ?z4 ?v4⟩,c_RANGES:=Mp.a59 ?e5 (Mp.F4 ?l5 ?z5 ?v5) ?w0 ?w1 ?w2 ?w3 ?w4 ?w5 ?w6 ?w7 ?w8 ?w9 ?w10 ?w11 ?w12 ?w13 ?w14 ?w15}
   (case mB=>walk_at "cx")
   (case mW=>walk_at "cx")
   (case nb_ball=>k_is)
   (case nb_half=>k_is)
   (case nb_place=>k_is)
   (case nb_kind=>k_is)
   (case nb_hard=>k_is)
   (case nb_heavy=>k_is)
   (case nb_velocity=>k_is)
   (case nw_parts=>k_is)
   (case nw_pull=>k_is)
   (case nw_bodies=>k_is)
   (case nw_ticks=>k_is)
   (case nw_met=>k_is)
   (case b_abs=>k_is)
   (case b_all=>k_is)
   (case b_any=>k_is)
   (case b_enumerate=>k_is)
   (case b_len=>k_is)
   (case b_list=>k_is)
   (case b_max=>k_is)
   (case b_min=>k_is)
   (case b_range=>k_is)
   (case b_sorted=>k_is)
   (case b_sum=>k_is)
   (case b_tuple=>k_is)
   (case b_zip=>k_is)
   (case c_BAD_NUMBER=>walk_at "ci")
   (case c_BEGUN=>walk_at "ci")
   (case c_DRIVER=>walk_at "ci")
   (case c_FASTEST=>walk_at "ci")
   (case c_FIXED=>walk_at "ci")
   (case c_FREE=>walk_at "ci")
   (case c_FULL=>walk_at "ci")
   (case c_IS_FIXED=>walk_at "ci")
   (case c_MOST_BODIES=>walk_at "ci")
   (case c_MOST_TICKS=>walk_at "ci")
   (case c_NOT_ALL=>walk_at "ci")
   (case c_NOT_BEGUN=>walk_at "ci")
   (case c_NO_BODY=>walk_at "ci")
   (case c_NO_ROOM=>walk_at "ci")
   (case c_RENUMBER=>walk_at "ci")
   (case c_TOO_LONG=>walk_at "ci")
   (case e1=>k_is)
   (case l1=>k_is)
   (case v1=>exact(.cons Mp.O2 (.cons Mp.O2 (.cons Mp.O2 .nil))))
   (case z1=>decide)
   (case e2=>k_is)
   (case l2=>k_is)
   (case v2=>exact(.cons Mp.O2 (.cons Mp.O2 .nil)))
   (case z2=>decide)
   (case e3=>k_is)
   (case l3=>k_is)
   (case v3=>exact(.cons Mp.O2 (.cons Mp.O2 (.cons Mp.O2 (.cons Mp.O2 .nil)))))
   (case z3=>decide)
   (case e4=>k_is)
   (case l4=>k_is)
   (case v4=>exact(.cons Mp.j8 (.cons Mp.j8 (.cons Mp.j8 (.cons Mp.j8 (.cons Mp.j8 (.cons Mp.j8 (.cons Mp.j8 (.cons Mp.j8 (.cons Mp.j8 (.cons Mp.j8 (.cons Mp.j8 (.cons Mp.j8 (.cons Mp.j8 (.cons Mp.j8 (.cons Mp.j8 (.cons Mp.j8 .nil)))))))))))))))))
   (case z4=>decide)
   (case e5=>k_is)
   (case l5=>k_is)
   (case v5=>exact(.cons Mp.j8 (.cons Mp.j8 (.cons Mp.j8 (.cons Mp.j8 (.cons Mp.j8 (.cons Mp.j8 (.cons Mp.j8 (.cons Mp.j8 (.cons Mp.j8 (.cons Mp.j8 (.cons Mp.j8 (.cons Mp.j8 (.cons Mp.j8 (.cons Mp.j8 (.cons Mp.j8 (.cons Mp.j8 .nil)))))))))))))))))
   (case z5=>decide)
   case w0=>
    refine' Mp.a57 (Mp.F4 ?m ?y ?u) ?q0 ?q1 ?q2
    (case m=>k_is)
    (case u=>exact(.cons Mp.j8 (.cons Mp.j8 (.cons Mp.j8 .nil))))
    (case y=>decide)
    (case q0=>walk_at "t2")
    (case q1=>walk_at "t2")
    (case q2=>walk_at "t2")
   case w1=>
    refine' Mp.a7p (Mp.F4 ?m ?y ?u) ?q0 ?q1 ?q2 ?q3 ?q4 ?q5 ?q6
    (case m=>k_is)
    (case u=>exact(.cons Mp.j8 (.cons Mp.j8 (.cons Mp.j8 (.cons Mp.j8 (.cons Mp.j8 (.cons Mp.j8 (.cons Mp.j8 .nil))))))))
    (case y=>decide)
    (case q0=>walk_at "t2")
    (case q1=>walk_at "t2")
    (case q2=>walk_at "t2")
    (case q3=>walk_at "t2")
    (case q4=>walk_at "t2")
    (case q5=>walk_at "t2")
    (case q6=>walk_at "t2")
   case w2=>
    refine' Mp.a7o (Mp.F4 ?m ?y ?u) ?q0 ?q1 ?q2 ?q3 ?q4 ?q5
    (case m=>k_is)
    (case u=>exact(.cons Mp.j8 (.cons Mp.j8 (.cons Mp.j8 (.cons Mp.j8 (.cons Mp.j8 (.cons Mp.j8 .nil)))))))
    (case y=>decide)
    (case q0=>walk_at "t2")
    (case q1=>walk_at "t2")
    (case q2=>walk_at "t2")
    (case q3=>walk_at "t2")
    (case q4=>walk_at "t2")
    (case q5=>walk_at "t2")
   case w3=>
    refine' Mp.a57 (Mp.F4 ?m ?y ?u) ?q0 ?q1 ?q2
    (case m=>k_is)
    (case u=>exact(.cons Mp.j8 (.cons Mp.j8 (.cons Mp.j8 .nil))))
    (case y=>decide)
    (case q0=>walk_at "t2")
    (case q1=>walk_at "t2")
    (case q2=>walk_at "t2")
   case w4=>
    refine' Mp.a4L (Mp.F4 ?m ?y ?u) ?q0
    (case m=>k_is)
    (case u=>exact(.cons Mp.j8 .nil))
    (case y=>decide)
    (case q0=>walk_at "t2")
   case w5=>
    refine' Mp.a4L (Mp.F4 ?m ?y ?u) ?q0
    (case m=>k_is)
    (case u=>exact(.cons Mp.j8 .nil))
    (case y=>decide)
    (case q0=>walk_at "t2")
   case w6=>
    refine' Mp.a4K (Mp.F4 ?m ?y ?u)
    (case m=>k_is)
    (case u=>exact .nil)
    (case y=>decide)
   case w7=>
    refine' Mp.a4K (Mp.F4 ?m ?y ?u)
    (case m=>k_is)
    (case u=>exact .nil)
    (case y=>decide)
   case w8=>
    refine' Mp.a57 (Mp.F4 ?m ?y ?u) ?q0 ?q1 ?q2
    (case m=>k_is)
    (case u=>exact(.cons Mp.j8 (.cons Mp.j8 (.cons Mp.j8 .nil))))
    (case y=>decide)
    (case q0=>walk_at "t2")
    (case q1=>walk_at "t2")
    (case q2=>walk_at "t2")
   case w9=>
    refine' Mp.a58 (Mp.F4 ?m ?y ?u) ?q0 ?q1 ?q2 ?q3
    (case m=>k_is)
    (case u=>exact(.cons Mp.j8 (.cons Mp.j8 (.cons Mp.j8 (.cons Mp.j8 .nil)))))
    (case y=>decide)
    (case q0=>walk_at "t2")
    (case q1=>walk_at "t2")
    (case q2=>walk_at "t2")
    (case q3=>walk_at "t2")
   case w10=>
    refine' Mp.a58 (Mp.F4 ?m ?y ?u) ?q0 ?q1 ?q2 ?q3
    (case m=>k_is)
    (case u=>exact(.cons Mp.j8 (.cons Mp.j8 (.cons Mp.j8 (.cons Mp.j8 .nil)))))
    (case y=>decide)
    (case q0=>walk_at "t2")
    (case q1=>walk_at "t2")
    (case q2=>walk_at "t2")
    (case q3=>walk_at "t2")
   case w11=>
    refine' Mp.a4L (Mp.F4 ?m ?y ?u) ?q0
    (case m=>k_is)
    (case u=>exact(.cons Mp.j8 .nil))
    (case y=>decide)
    (case q0=>walk_at "t2")
   case w12=>
    refine' Mp.a4L (Mp.F4 ?m ?y ?u) ?q0
    (case m=>k_is)
    (case u=>exact(.cons Mp.j8 .nil))
    (case y=>decide)
    (case q0=>walk_at "t2")
   case w13=>
    refine' Mp.a4K (Mp.F4 ?m ?y ?u)
    (case m=>k_is)
    (case u=>exact .nil)
    (case y=>decide)
   case w14=>
    refine' Mp.a4K (Mp.F4 ?m ?y ?u)
    (case m=>k_is)
    (case u=>exact .nil)
    (case y=>decide)
   case w15=>
    refine' Mp.a58 (Mp.F4 ?m ?y ?u) ?q0 ?q1 ?q2 ?q3
    (case m=>k_is)
    (case u=>exact(.cons Mp.j8 (.cons Mp.j8 (.cons Mp.j8 (.cons Mp.j8 .nil)))))
    (case y=>decide)
    (case q0=>walk_at "t2")
    (case q1=>walk_at "t2")
    (case q2=>walk_at "t2")
    (case q3=>walk_at "t2")
 case S=>
  intro K H xs a hO hwi hask hx
  cases hx with
  |cons h1 h2=>
   cases h2
   cases h1 with
   |lst hs ha=>
    have e:=L2.a0K a.1 _ ha
    subst e
    have q:((Codec.inLen 0 16000 a.1&&a.1.all (Codec.inInt (-1000000000000000000) 1000000000000000000))&&true)=true:=hwi
    rw[a7z,a7z]at q
    exact⟨_,a.1,rfl,hs,hask,(Codec.inNat_iff.mp q.1.1).2,λH' p hp=> .lst (L2.n9.of hp) (L2.a0J _)⟩
