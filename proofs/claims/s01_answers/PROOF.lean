import PyProof.Rows.All
import VbwsagSpec
import PyProof.SetScanFacts
import PyProof.SetRoads
import PyProof.DictKinds
import PyProof.Rows.SetFrom
import PyProof.CollectIter
import PyProof.DictWalks
import PyProof.Rows.SortShellAny
import Wide.All
import OpenK.AllK
import Wide.FinOn
import PyProof.EqAt
import PyProof.EqKinds
import PyProof.TupleCall
import KE.BitLaws
import Open.SpecLaws
import KE.OsHead
import KE.OsGo
import KE.KSortKeyAny
import KE.KSortTupG
import KE.KLam
import PyProof.TupleKey
import PyProof.CompMap
import PyProof.IsRules
import PySem.Challenge.RW_seenareas_s01_answers
import KE.KDictSum
import PyProof.DictUpdate
import PyProof.ListRange
import PyProof.ExcBaseAll.Exception
import PyVbwsag
import KE.KNestM
set_option Elab.async false
set_option linter.all false
set_option maxRecDepth 100000
set_option maxHeartbeats 4000000
theorem iQ {c : Prop} {h : Decidable c} (n : ¬c) {α : Sort u} {t e : α} : ite c t e = e := if_neg n
theorem aB {a b : Prop} (x : a) (y : ¬a) : b := absurd x y
theorem jN {c : Prop} {h : Decidable c} (n : c) {α : Sort u} {t e : α} : ite c t e = t := if_pos n
structure PySem.W.Fast:Prop where (tw4701663429251151254 tw8486125944380147046 tw15207044518442543195 tw9196736070696007178 tw585414373245867277 tw15745308050179553926 tw2473196097704313135 tw8832245573913293564 tw11754224327712756426 tw1666047761560153573 tw13444920777585496809 tw4254324356330493678 tw8301211781450312548 tw13128998174635546488 tw623095349782493085 tw15025206961379322579 tw904087315775731728 tw3320307105551944025 tw15423658829972809964 tw14238945843051287956 tw17049962880264665665 tw10130955976350271014 tw10049098831391401789 tw12316509652368770921 tw401208875908518330 tw7791027949961653476 tw1770099278220995833 tw14017376822549238684 tw12260892613064248903 tw7769902974479397897 tw16938947528097859804 tw3252194909636837015 tw5233685621352056109 tw9828639065941164490 tw10422398050668017206 tw5004148512059276003 tw12653476841993818218 tw16466520401069769548 tw16031594882007207259 tw11054150824347985797 tw2055799707476016484 tw923161564089032092 tw3894338727556731564 tw10544674312838262749 tw5882821142444950677 tw2451807706502097673 tw9891710835118904798 tw1794837620949228426 tw8031485770292526030 tw10195443564765861348 tw2867824775345892898 tw13457599636033203232 tw10352657998873544426 tw9915098996322158922 tw17138426557442520154 tw12636318648442106121 tw12222835211362574428 tw7930586900696047230 tw12818690120856644181 tw15627521481782064500 tw11959223378996146467 tw11300467622294383955 tw8806865939674419707 tw5113185001529592934 tw15478533252872106821 tw10490735801511358496 tw14463265259760388447 tw5682795689224405454 tw12077253745709232639 tw18003935324884304832 tw14401866409145114970 tw14572347164279477868 tw12695571262170367000 tw6907549177317229875 tw16438106425891663649 tw1022991026303107219 tw10606230797100898290 tw17449299878267682657 tw2961816728552253264 tw9540614436804161993 tw7677892505089842382 tw3003039040229331080 tw7002301254660537724 tw2136228659923323573 tw3911148169493511009 tw16948987891942043717 tw6963297431523094163 tw11374678768611915866 tw13699785737310926202 tw1434008171479441547 tw14308553460369004636 tw10327621054429005126 tw10407366737064347498 tw2612466821516043395 tw13049494674481141385 tw18367645032078708331 tw3244567431676540915 tw3583837151948811048 tw17880758589504086127 tw3494802450654303432 tw6633656212140729620 tw12328248849488887684 tw14328291783491818410 tw11419989269238291765 tw16919481448445513949 tw14156131673380966177 tw12513263371274067372 tw7775429962518821536 tw17304043879295701663 tw1157768362849928328 tw6366823860213478896 tw2121629690852616219 tw13594159737158912781 tw12876789242746477231 tw2175779275510455226 tw1516919839296155151 tw14540771985802386935 tw8771539869350351681 tw7830861464501393595 tw1922494535509163353 tw17965460260718109048 tw17203468735934861513 tw5463207703604501706 tw10251157546794006374 tw11361750068026920902 tw12898815416174125144 tw13904313404727072097 tw14826829284368762364 tw3340210924035223340 tw11375941604873938860 tw11422971154491145148 tw519411767020570455 tw12001137973219529925 tw14464318330717203689 tw11244464031489684763 tw4786477652403217614 tw7563762541445655526 tw5842058781858585529 tw199229058019919060 tw145083803697711734 tw16500980417842153388 tw15234946176951286344 tw11023482312877272282 tw6735842079716513759 tw1666474827715998740 tw13192408194483502494 tw4695741501857826660 tw4714014636391334287 tw7882088526469028535 tw13309924696399152302 tw6846093295714808648 tw6306693135164732904 tw660125466354144932 tw3463025593011002143 tw1181763181736012105 tw17561513449271233718 tw4945006049133630633 tw17260073978342015523 tw4059263446226328373 tw9886882573062387316 tw9125726010661172016 tw9858751742368564311 tw6220836193171268909 tw17962606606282627949 tw4933684936855391867 tw17530428880673476216 tw14235105567270827961 tw9082747543175253108 tw8652008638961200515 tw16331706561691296555 tw7250093693931083131 tw8473822353467411845 tw11378744500172854204 tw15121062838229063792 tw6439738635474490857 tw2380493581456489702 tw14342275134988609173 tw18111967742119174109 tw6231576181925599087 tw14160470768905866299 tw10724373192133488393 tw14723119356830125394 tw16710993089867103400 tw16186885462988543380 tw17894016634507521091 tw3453149151031860434 tw10492195287494989470 tw11828949289196630637 tw18290357218758128748 tw12085545297544751573 tw11288215686983866370 tw16293594738995634333 tw18316392199875835092 tw10022477703549126967 tw6127979724579002398 tw12481552411130211701 tw11418841634771117450 tw1438021556143661036 tw6980226198145474288 tw3877881161129327202 tw17902177901528547797 tw13440578442216697878 tw18437977479653692237 tw913682018692753792 tw10749793251281812133 tw5901803139844748560 tw15130166909903797179 tw148843369572963564 tw8605492290912553192 tw17217338873087591105 tw3979734115580424977 tw14024899004265574106 tw16381018559051648216 tw14652565584345088486 tw13955606422825470481 tw4697471465719812701 tw1762223237239818145 tw13431268870982702520 tw6445984739171233829 tw13985525583767922389 tw6526270113292283679 tw16673351131025190083 tw2799313980178248325 tw3740917234785001657 tw12350429682114854695 tw181325380430897268 tw7168166457827149144 tw1179663640468652378 tw2513894122631332084 tw4383984096933205578 tw8037104562594200955 tw15580005271925999327 tw12161839282285714539 tw9988667552687016556 tw3911129885443136654 tw2390053778472947545 tw3562534356732646669 tw18303248920808027029 tw5724395422429190253 tw7856614163003331167 tw7016783236872273608 tw5713388498410593731 tw2646979678918599494 tw2128830734668918230 tw13814659778045344661 tw12985637795679257471 tw10343384225511953899 tw6807029688782916104 tw5038444797424043510 tw11239157930238090861 tw16979898536573775256 tw2616593321516715564 tw421523161906135959 tw17035903882241542622 tw6794901856374461308 tw285306778474131340 tw2371533201193437597 tw5027646488001327407 tw8441576210008875580 tw13008376430941916542 tw12403991949729168132 tw8301682208628065185 tw2053632907555506107 tw1962140642884381253 tw17778270846053668195 tw17188045081887177408 tw15971167405051914412 tw1486039477568832529 tw13381355153562395771 tw1300616458702357905 tw11158792691719235205 tw5299352306736237648 tw15676295562573699517 tw12870293953590256691 tw2896457349880003753 tw4401374335643084510 tw6642357811556363639 tw6300569777939358195 tw13140480706594542741 tw1144964797449499056 tw11384832460465251919 tw12397163570125693168 tw12594522686621047540 tw3464887999037543671 tw4526152329785356682 tw8210259495237211387 tw16147269280519215559 tw7188785525629024986 tw4390800188920069562 tw12793047715797179530 tw18204889743423148983 tw9485347771671509482 tw5696720816667369357 tw16532002771564885651 tw2655439820932569762 tw15434289621302589972 tw12570441859032973462 tw6733694721162493161 tw1912571455046513625 tw16993152469426537829 tw16071000681239847999 tw6044201662485221115 tw4701727838238938101 tw15883588638395683466 tw15547442144807843590 tw11706365480744540750 tw11408153862221047914 tw5361976079508240278 tw6103482332234661786 tw9057120054241958739 tw8210539741332058131 tw7916746931035978635 tw6789575196392001346 tw4568590999748399393 tw15689641419465094127 tw13841574737667739326 tw11145210212042826604 tw8565764989034715021 tw196559074345240780 tw7958227043429607057 tw4415600352313237119 tw2818348053235781768 tw16314966696742740106 tw9778788726189489765 tw6714818322084069887 tw6487404322395251550 tw6389382932279473193 tw6247091066988121797 tw5941222710026113157 tw5622573659490640230 tw561212775864457165 tw4744827148565749304 tw385887133009475795 tw360797938789915291 tw3200837566162640154 tw2736704524091604476 tw2464887925915440882 tw2229164711216460865 tw18107495990120692441 tw1749198855596629995:True)
def V1{p:α->Prop}{G:Prop}(h:∃x,p x)(k:∀x,p x->G):G:=let⟨_,h⟩:=h;k _ h
def V2{p:α->β->Prop}{G:Prop}(h:∃x y,p x y)(k:∀x y,p x y->G):G:=let⟨_,_,h⟩:=h;k _ _ h
def V3{p:α->β->γ->Prop}{G:Prop}(h:∃x y z,p x y z)(k:∀x y z,p x y z->G):G:=let⟨_,_,_,h⟩:=h;k _ _ _ h
def V4{p:α->β->γ->δ->Prop}{G:Prop}(h:∃x y z u,p x y z u)(k:∀x y z u,p x y z u->G):G:=let⟨_,_,_,_,h⟩:=h;k _ _ _ _ h
def V5{p:α->β->γ->δ->ε->Prop}{G:Prop}(h:∃x y z u v,p x y z u v)(k:∀x y z u v,p x y z u v->G):G:=let⟨_,_,_,_,_,h⟩:=h;k _ _ _ _ _ h
def V6{p:α->β->γ->δ->ε->ζ->Prop}{G:Prop}(h:∃x y z u v w,p x y z u v w)(k:∀x y z u v w,p x y z u v w->G):G:=let⟨_,_,_,_,_,_,h⟩:=h;k _ _ _ _ _ _ h
def X1{G:Prop}(h:a∧b)(k:a->b->G):G:=k h.1 h.2
def X2{G:Prop}(h:a∧b∧c)(k:a->b->c->G):G:=X1 h.2 (k h.1)
def X3{G:Prop}(h:a∧b∧c∧d)(k:a->b->c->d->G):G:=X2 h.2 (k h.1)
def X4{G:Prop}(h:a∧b∧c∧d∧e)(k:a->b->c->d->e->G):G:=X3 h.2 (k h.1)
def X5{G:Prop}(h:a∧b∧c∧d∧e∧f)(k:a->b->c->d->e->f->G):G:=X4 h.2 (k h.1)
def X6{G:Prop}(h:a∧b∧c∧d∧e∧f∧g)(k:a->b->c->d->e->f->g->G):G:=X5 h.2 (k h.1)
def X7{G:Prop}(h:a∧b∧c∧d∧e∧f∧g∧i)(k:a->b->c->d->e->f->g->i->G):G:=X6 h.2 (k h.1)
def V11{a b:α->Prop}{G:Prop}(h:∃x,a x∧b x)(k:∀x,a x->b x->G):G:=let⟨_,h,i⟩:=h;k _ h i
def V12{a b c:α->Prop}{G:Prop}(h:∃x,a x∧b x∧c x)(k:∀x,a x->b x->c x->G):G:=let⟨_,h,i,j⟩:=h;k _ h i j
def V13{a b c d:α->Prop}{G:Prop}(h:∃x,a x∧b x∧c x∧d x)(k:∀x,a x->b x->c x->d x->G):G:=let⟨_,h,i,j,l⟩:=h;k _ h i j l
def V21{a b:α->β->Prop}{G:Prop}(h:∃x y,a x y∧b x y)(k:∀x y,a x y->b x y->G):G:=let⟨_,_,h,i⟩:=h;k _ _ h i
def V22{a b c:α->β->Prop}{G:Prop}(h:∃x y,a x y∧b x y∧c x y)(k:∀x y,a x y->b x y->c x y->G):G:=let⟨_,_,h,i,j⟩:=h;k _ _ h i j
def V23{a b c d:α->β->Prop}{G:Prop}(h:∃x y,a x y∧b x y∧c x y∧d x y)(k:∀x y,a x y->b x y->c x y->d x y->G):G:=let⟨_,_,h,i,j,l⟩:=h;k _ _ h i j l
def V31{a b:α->β->γ->Prop}{G:Prop}(h:∃x y z,a x y z∧b x y z)(k:∀x y z,a x y z->b x y z->G):G:=let⟨_,_,_,h,i⟩:=h;k _ _ _ h i
def V32{a b c:α->β->γ->Prop}{G:Prop}(h:∃x y z,a x y z∧b x y z∧c x y z)(k:∀x y z,a x y z->b x y z->c x y z->G):G:=let⟨_,_,_,h,i,j⟩:=h;k _ _ _ h i j
def V33{a b c d:α->β->γ->Prop}{G:Prop}(h:∃x y z,a x y z∧b x y z∧c x y z∧d x y z)(k:∀x y z,a x y z->b x y z->c x y z->d x y z->G):G:=let⟨_,_,_,h,i,j,l⟩:=h;k _ _ _ h i j l
def V41{a b:α->β->γ->δ->Prop}{G:Prop}(h:∃x y z u,a x y z u∧b x y z u)(k:∀x y z u,a x y z u->b x y z u->G):G:=let⟨_,_,_,_,h,i⟩:=h;k _ _ _ _ h i
def V42{a b c:α->β->γ->δ->Prop}{G:Prop}(h:∃x y z u,a x y z u∧b x y z u∧c x y z u)(k:∀x y z u,a x y z u->b x y z u->c x y z u->G):G:=let⟨_,_,_,_,h,i,j⟩:=h;k _ _ _ _ h i j
def V43{a b c d:α->β->γ->δ->Prop}{G:Prop}(h:∃x y z u,a x y z u∧b x y z u∧c x y z u∧d x y z u)(k:∀x y z u,a x y z u->b x y z u->c x y z u->d x y z u->G):G:=let⟨_,_,_,_,h,i,j,l⟩:=h;k _ _ _ _ h i j l
def WB{p:α->β->Prop}(x y)(h:p x y):∃x y,p x y:=⟨_,_,h⟩
def WC{p:α->β->γ->Prop}(x y z)(h:p x y z):∃x y z,p x y z:=⟨_,_,_,h⟩
def WD{p:α->β->γ->δ->Prop}(x y z u)(h:p x y z u):∃x y z u,p x y z u:=⟨_,_,_,_,h⟩
def WE{p:α->β->γ->δ->ε->Prop}(x y z u v)(h:p x y z u v):∃x y z u v,p x y z u v:=⟨_,_,_,_,_,h⟩
def WF{p:α->β->γ->δ->ε->ζ->Prop}(x y z u v w)(h:p x y z u v w):∃x y z u v w,p x y z u v w:=⟨_,_,_,_,_,_,h⟩
def WG{p:α->β->γ->δ->ε->ζ->η->Prop}(x y z u v w t)(h:p x y z u v w t):∃x y z u v w t,p x y z u v w t:=⟨_,_,_,_,_,_,_,h⟩
def WH{a b c d e f:α->β->γ->δ->ε->Prop}(x y z u v)(h:a x y z u v)(i:b x y z u v)(j:c x y z u v)(l:d x y z u v)(m:e x y z u v)(n:f x y z u v):∃x y z u v,a x y z u v∧b x y z u v∧c x y z u v∧d x y z u v∧e x y z u v∧f x y z u v:=⟨_,_,_,_,_,h,i,j,l,m,n⟩
def WI{a b c d e:α->β->γ->δ->Prop}(x y z u)(h:a x y z u)(i:b x y z u)(j:c x y z u)(l:d x y z u)(m:e x y z u):∃x y z u,a x y z u∧b x y z u∧c x y z u∧d x y z u∧e x y z u:=⟨_,_,_,_,h,i,j,l,m⟩
def WJ{a b c:α->β->Prop}(x y)(h:a x y)(i:b x y)(j:c x y):∃x y,a x y∧b x y∧c x y:=⟨_,_,h,i,j⟩
def WK{a b c d e f:α->β->γ->δ->Prop}(x y z u)(h:a x y z u)(i:b x y z u)(j:c x y z u)(l:d x y z u)(m:e x y z u)(n:f x y z u):∃x y z u,a x y z u∧b x y z u∧c x y z u∧d x y z u∧e x y z u∧f x y z u:=⟨_,_,_,_,h,i,j,l,m,n⟩
def WL{a b:α->Prop}(x)(h:a x)(i:b x):∃x,a x∧b x:=⟨_,h,i⟩
def WM{a b c d e f g:α->β->γ->δ->ε->Prop}(x y z u v)(h:a x y z u v)(i:b x y z u v)(j:c x y z u v)(l:d x y z u v)(m:e x y z u v)(n:f x y z u v)(o:g x y z u v):∃x y z u v,a x y z u v∧b x y z u v∧c x y z u v∧d x y z u v∧e x y z u v∧f x y z u v∧g x y z u v:=⟨_,_,_,_,_,h,i,j,l,m,n,o⟩
def WN{a b c d:α->β->Prop}(x y)(h:a x y)(i:b x y)(j:c x y)(l:d x y):∃x y,a x y∧b x y∧c x y∧d x y:=⟨_,_,h,i,j,l⟩
def WO{a b c d:α->β->γ->δ->ε->Prop}(x y z u v)(h:a x y z u v)(i:b x y z u v)(j:c x y z u v)(l:d x y z u v):∃x y z u v,a x y z u v∧b x y z u v∧c x y z u v∧d x y z u v:=⟨_,_,_,_,_,h,i,j,l⟩
def WP{a b c d:α->β->γ->δ->Prop}(x y z u)(h:a x y z u)(i:b x y z u)(j:c x y z u)(l:d x y z u):∃x y z u,a x y z u∧b x y z u∧c x y z u∧d x y z u:=⟨_,_,_,_,h,i,j,l⟩
def WQ{a b c d e:α->β->γ->Prop}(x y z)(h:a x y z)(i:b x y z)(j:c x y z)(l:d x y z)(m:e x y z):∃x y z,a x y z∧b x y z∧c x y z∧d x y z∧e x y z:=⟨_,_,_,h,i,j,l,m⟩
def WS{a b c:α->β->γ->Prop}(x y z)(h:a x y z)(i:b x y z)(j:c x y z):∃x y z,a x y z∧b x y z∧c x y z:=⟨_,_,_,h,i,j⟩
def WT{a b c d:α->β->γ->Prop}(x y z)(h:a x y z)(i:b x y z)(j:c x y z)(l:d x y z):∃x y z,a x y z∧b x y z∧c x y z∧d x y z:=⟨_,_,_,h,i,j,l⟩
def WU{a b c:α->Prop}(x)(h:a x)(i:b x)(j:c x):∃x,a x∧b x∧c x:=⟨_,h,i,j⟩
open Array renaming length_toList→aC,getElem?_toList→ci,getElem?_eq_getElem→cA,size_setIfInBounds→gn,getElem?_eq_some_iff→gU,mem_toList_iff→jr,replicate→lQ,forIn_toList→lX,getElem_toList→n8,size_push→oK,size_map→pH,getD→rZ,toList_filterMap→DR,getElem?_eq_none→DS,mem_iff_getElem→Ea,toList_append→Gw
open Bool renaming true→ae,false→af,false_ne_true→ba,false_eq_true→bE,and_eq_true→ca,noConfusion→eG,false_and→gu,true_and→gW,and_eq_true_iff→iD,eq_iff_iff→iL,or_eq_true→iM,or_false→qV,not_true→wv
open Decidable renaming byContradiction→dW
open False renaming elim→dE
open ForInStep renaming yield→qU
open Int renaming mul_assoc→kD,neg_nonneg_of_nonpos→lU,mul_comm→ny,toNat→qe,mul_nonneg→qk,fdiv_eq_ediv_of_nonneg→qm,ediv_le_ediv→rY,natCast_nonneg→xg,toNat_natCast→ye,neg_mul_neg→zR,natCast_add→z4,natCast_mul→z5,mul_le_mul→BU,gcd→E9,natAbs_of_nonneg→HL,ediv_mul_cancel→HQ,toNat_of_nonneg→HR
open List renaming length_map→aj,mem_cons_of_mem→au,mem_cons→az,mem_cons_self→aD,length_cons→aK,mem_map→aM,length_append→aQ,pairwise_cons→a7,not_mem_nil→bc,getElem?_eq_some_iff→bf,getD_eq_getElem?_getD→bh,size_toArray→bi,mem_of_getElem?→bj,getElem?_eq_getElem→br,mem_append_right→bt,map_cons→bB,length_drop→bC,range→bH,nodup_cons→bR,map_append→bU,pairwise_map→bY,getElem?_map→bZ,take_length→cg,mem_append→cF,length_take→cO,mem_filter→cW,length_filter_le→cY,filter_cons→dB,append_nil→dM,flatMap_cons→dN,mem_singleton→dP,replicate→eL,mem_of_find?_eq_some→eR,foldl_cons→eX,mem_filterMap→fL,mem_range→fM,Pairwise→fP,all_eq_true→fV,drop_eq_getElem_cons→fX,mem_iff_getElem→gJ,lookup_cons→gK,map_map→gZ,append_assoc→g0,length_range→g9,filterMap_cons→hX,getElem?_eq_none→ii,Perm→ip,length_take_le'→iE,drop_drop→iF,filter_sublist→iT,toList_toArray→iU,take_append_drop→i8,contains_iff_mem→jb,find?_cons→jt,length_nil→ju,lookup→jz,length_eq_zero_iff→jQ,getElem?_cons_zero→jR,nodup_nil→jS,take_of_length_le→kg,drop_eq_nil_of_le→ki,of_mem_zip→ky,mem_append_left→ll,mem_flatMap→lw,any_eq_true→lA,replicate_succ→lJ,map_congr_left→lK,any_cons→lR,find?_some→lT,length_set→lV,length→mz,getElem?_cons_succ→mB,getElem?_set_self→mU,getElem?_set_ne→ox,mem_of_mem_take→oy,range_succ→oR,flatMap_append→pA,map_nil→pE,find?_eq_none→pV,perm_ext_iff_of_nodup→pW,filter_append→pX,getElem?_append_right→qd,getElem?_append_left→qu,foldl_append→qI,nodup_append→qJ,flatten_cons→qN,map_id→qQ,all_cons→qR,getElem_mem→rL,flatMap_nil→rN,drop_length→rO,nodup_range→rP,flatMap→ss,filterMap_append→ui,mem_of_mem_drop→uI,drop_succ_cons→vt,map_take→wB,length_range'→wE,take_sublist→xH,take_add_one→xK,length_zip→zD,forIn_nil→AU,Nodup→AZ,pairwise_iff_getElem→BV,mem_or_eq_of_mem_set→B4,find?_cons_of_pos→D0,find?_cons_of_neg→D1,range_succ_eq_map→D7,all_map→D8,sum_replicate_nat→Ed,perm_append_comm→Fa,lookup_cons_self→Fj,eraseIdx_sublist→Fk,getElem?_range→HK,length_flatMap→HM
open List.Nodup renaming length_le_of_subset→jB
open List.Pairwise renaming nil→eJ
open List.Perm renaming refl→iW,cons→x6
open Nat renaming le_refl→aH,zero_le→aR,ne_of_lt→bn,le_trans→bq,lt_of_lt_of_le→bQ,le_add_right→cT,le_of_lt→dY,mod_eq_of_lt→fi,pow_succ→fW,le_of_lt_succ→gi,lt_irrefl→gY,lt_succ_of_lt→ia,lt_of_le_of_lt→iA,mod_lt→iN,ne_of_gt→iZ,succ_pos→jE,mul_comm→kq,lt_succ_self→lF,zero_add→nz,le_succ→oN,le_of_eq→pI,le_of_succ_le→qT,lt_trans→tO,sub_self→tS,div_lt_of_lt_mul→u7,mod_eq_sub_mod→xh,zero_div→x8,add_zero→x9,add_comm→yf,not_lt_zero→zS,mul_assoc→DQ,lt_or_ge→Fi,mod_mul_right_mod→Gu,add_mod→HF,pow_le_pow_right→HG,mul_le_mul_left→HZ
open Ne renaming symm→jl
open Option renaming some→aa,none→ac,isSome_iff_exists→bF,some→bJ,map_eq_some_iff→eP,isSome_map→ge,map_some→kf,none→nS,map→pB,isNone_iff_eq_none→zT
open Option.some renaming inj→a6
open Or renaming inl→eu,inr→xO
open Prod renaming snd→qa,fst→xI,mk→xS
open Prod.mk renaming injEq→uJ,inj→DW
open PyFlat renaming calls→iV,played→A6,rows→Ee,told→Ef
open PyProof.Rows renaming seqObj→fR,callWith_type1→iC,arrOf→lP,IntsAre→mG,boot_sorted→nN,envOfC→rC,seqObj→rM,IntsAre→sj,AllBare→vc,listUpdate_at→yz,get?_update_seq→DY,Constant_none→HI,subscriptTail→HJ,subscriptTail_builtinR→Ku,boot_min→Mp,boot_max→Mq,boot_all→Mr
open PyProof.Rows.F renaming plain_set_update_loop→tU,entry_set_update_loop→Gv
open PyProof.Rows.G renaming tupKindC→DX
open PySem renaming Value→ag,SetTable→ah,wpAny_bind→ai,Shared→aw,wpAny_pure→aG,sizeLine→aI,Program→aO,wpAny→a8,Paired→a9,model→bd,starEach→bp,Around→b0,Builtin→ck,mem_of_lookup→cD,boot_len→cM,wpAny_setState_of→dh,Spec→dq,mainGlobals→eM,PassesOwn→eO,wpAny_holding→eV,cellsFrom→eY,NameKind→fA,scanBound→fB,attributeBase→fY,compareOp→gh,FuncData→gr,wpAny_mono→gy,IsTupleKey→gz,wpAny_truthy_bool→gA,sysModules→iG,backTo→iO,codeAny_mono→i9,tupleKeyHash→ja,DictEntry→ji,wpAny_askSetting→jk,wpAny_Call_Name_kw→js,wpAny_storeSet_of→jP,wpAny_call_entry→kr,Scope→ku,tupleKind_room_in1→kI,codeAny_builtin→kY,wpAny_passesOwn→kZ,behindInMarks→lm,fits_of_scanBound→ly,wpAny_Call_method→lz,wpAny_isInstance→lW,Keyword→lZ,PyData→mC,binaryOp→mJ,wpAny_execs_nil→mY,sizeLine_eq→nI,putSet_of→nJ,keywordEach→nL,intKind→nT,relayAll→n9,isSubtype_type→oh,rawInt→oj,wpAny_newObj_type→on,cLine→oq,call_meetsIn→or,assignEach→pk,hashInt→pC,Spec→pF,sliceBounds→pJ,compEnvC→pK,bootBuiltins→qK,codeAny→qM,pushCells→qS,Spec→r8,tupleKind→ur,backToKw→uu,wpAny_rule→u9,setsByText→va,wpAny_call→vd,evalArgs_none→ve,CmpOp→vn,letOwnedTupleGo→vo,pushCells_keeps→vp,Within→xi,ElemsOf→xJ,swapsWith→xM,valueAt→xN,TriplesOk→xQ,wpAny_setEntries_of→ya,plainId_quiet→yw,wpAny_newList→yx,layNew→zr,call_meets→zu,setAddHashed→zU,wpAny_typeOf→zV,wpAny_dictEntries→zW,wpAny_setEpoch_of→zX,wpAny_pyIter_list→zZ,foldedSetIterable→z0,ofAClassStatement→z3,pickOrder→BW,pyIter→BX,wpAny_execs_cons→BY,inplaceOp→BZ,Params→B1,Spec→B2,wpAny_forIn_list→B3,subscripted→B8,wpAny_specialOf→DT,codeAny_of_tree→DV,holding→D3,getItem→D6,notedBy→D9,entryFor_alias→Fb,pyNext→Fc,wpAny_setField→Fd,Operator→Fe,atKey→Fg,method_meetsIn→Fh,wpAny_attempt→HH,isSubtype→HS,wpAny_callSpecial?_slot→HU,bindL→HV,bindC→HW,Arguments→HX,codeAmong→Ia,BindsTo→Ks,seqIndex_neg→Kt,callerA→Kx,builtinLookup_eq_fast→KE,wpAny_isTrue_Compare1→KG,weight_type_call_type→KI,wpAny_eqIsQuiet_tuple→KJ,storeSet→Md,wpAny_alloc→Me,entryFor→Mf,GenState→Mg,wpAny_loadName_local→Mh,seqIndex_of→Mi,Reads→Mj,callWith→Ml,codeAny_call_builtin→Mm,hashByValue→Mn,wpAny_loadName_cell→Nt
open PySem.Around renaming under_plainId→kJ,under→B7,frames_deeper→D5
open PySem.Builtin renaming sorted→wA
open PySem.Builtin.Frozenset renaming addrOf→dX,updateFrom→fQ,isAnySet→gp,copyOf→nQ,baseOf→vb,slot1→vq
open PySem.Builtin.List renaming listTooLong→kK,listLengthHint→ww,listExtendWith→wx,listSameRef→xL
open PySem.Calls renaming spliced_cons→ke,evalArgs_plain→k8,spliced_nil→mO,callWith_builtin→mP,Name_function_global→zY,call_function_entry→AY
open PySem.Challenge renaming rw_seenareas_s01_answers→bG
open PySem.Code renaming isFrame→D4
open PySem.F renaming called_set→fG,slot_dict_get→i4,plainAttrs_dict→lS,entry_dict_get→mD,slot_dict_values→qO,plainAttrs_list→qP,plainAttrs_dict→zw,slot_dict_delitem→zB,slot_dict_getitem→zC,args_dict_get_2→AW,args_dict_get_3→AX,slot_dict_pop→B9,type_dict_get→Ca,args_dict_values_1→Kv,entry_dict_values→KH
open PySem.Heap renaming get?_push_of_some→aE,lt_size→aW,get?_push_size→aY,SameBut→bO,get?_update_self→dD,size_push→dQ,get?_update_other→mX,FlyingW→Ec
open PySem.Heap.SameBut renaming update→cX,refl→oM
open PySem.NameKind renaming free→nA,cell→zA
open PySem.Obj renaming mapSeq→dg,putSet→fz,mapFields→lY
open PySem.Paired renaming length→cB,snoc→qo
open PySem.PassesOwn renaming never→cQ,leaving→vg
open PySem.PyData renaming int→rR,eqv→zz
open PySem.SeqAt renaming EqAt→fj,shaped→DU
open PySem.SetTable renaming below→aV,Probe→bT,sizeAbove→cE,probe→cH,layClean→cR,leap→cV,bits→dv,insertAt→dJ,grown→eC,runEnd→eK,turns→gg,fill→lx,has→l9,insertAt_perm→me,laid→pY,slot→pZ,freeSlot→vk,advance→wD,fits→zy
open PySem.SetTable.below renaming go→n6
open PySem.SetTable.layClean renaming free→cC
open PySem.SetTable.probe renaming go→bV
open PySem.SetTable.sizeAbove renaming go→fE
open PySem.Shared renaming TypeIs→AV
open PySem.Str renaming ofString→tR
open PySem.Value renaming ref→bI,int→iY,type→jF,none→kX,isInt→oe,isInt_shape→qt,bool→r9,str→yb
open PySem.W renaming Frag→am,emptyDict→gQ,findIn→iy,keepIn→iz,instObj→jd,fnOf→jm,WData→jv,nsIn→lc,Codec→lO,callWith_K→pq,codeIn→pw,hasDictIn→qc,plainGet→qL,CodeHd→rD,hideAll_get→ut,mg_of→uK,WellAll→vf,methodObj→wy,plainOver→wz,ReadsW→xj,takerIn→yc,makesIn→yd,length_le_weightAllW→yg,lookIn→zt,tabObj→zx,cellsFrom_some→B0,kdu_collect→Eb,ReadsAllW→HY,kla_fn→Kw
open PySem.W.Codec renaming encAll→pz,denoteAll→sk,app→yh
open PySem.W.WData renaming weightAll→so
open PyVbwsag renaming shape→di,answers→mZ,whole→su,answers_asked→A5
open Std.Legacy renaming Range→qb
open Std.Legacy.Range renaming size→pD
open Sum renaming inl→aA,inr→vm
open Sum.inl renaming inj→fF
open True renaming intro→dR
open Vbwsag renaming Player→aq,playerAt→aJ,Thing→aN,Message→aT,inside→aX,World→aZ,thingAt→bg,Told→bv,messageBytes→bw,takeMessages→bz,toldAt→bA,takeNum→bK,no→bL,aboutOf→bM,isPlace→bP,takeWhileRoom→bW,takeVals→bX,step→b9,isThing→cK,Call→cZ,sinceOf→dn,putPlayer→dw,heard→dz,due→dC,dues→dH,placeOf→dO,Wall→dU,«ints»→dZ,num→eQ,folded→eZ,minus→fg,isVal→fu,served→fJ,ticked→fK,thingAt→fU,bitsOf→gj,looked→gk,minus→gv,numberOk→gw,takeMessage→gB,toldAt→gH,Point→gS,Thing→ic,teamSight→ij,placed→ir,hearAll→iB,readStream→iH,removed→i5,toldRow→i6,unfolded→jn,cellBefore→jp,cross→jq,valsOk→jA,putTold→jM,concerned→jO,differing→ko,within2→kL,readNum→kN,mates→lq,kindOf→lL,byte→l0,queue→mH,headBytes→nM,BIG→nO,fits→nU,putTold→nZ,cross→oT,union→oU,start→oV,putThing→pG,Frac→qp,Index→qr,maskOf→qv,Player→rB,sight→rQ,onPlayer→sg,within2→sh,putCell→u6,putNum→vh,Point→vj,differing→xP,dropThing→xR,firstHit→yy,putNum→zq,takeCell→zQ,teamed→A0,rankOf→A3,chosen→A4,Index→Cb,Message→D2,removed→Kq,varint→Kr
open Vbwsag.Frac renaming made→eU,made→kC
open Vbwsag.Thing renaming id→lg
open Vbwsag.Told renaming id→kx
open VbwsagNeutral renaming step→iK,asked1→mF,asked→zE
section
open Lean in
local macro_rules|`(tactic|let ($a,$p,*):=$e)=>do
 let p:=#[a]++p.getElems
 let n:=p.size
 let mut b:Array Ident:=#[]
 let mut s:Array (TSyntax `tactic):=#[]
 let k<-`(tactic|skip)
 for x in p do
  let i:=mkIdent (<-Macro.addMacroScope (.mkSimple s!"x{b.size}"))
  if x.raw.isIdent&&x.raw.getId != `rfl&& !x.raw==e.raw then b:=b.push ⟨x⟩;s:=s.push k
  else b:=b.push i;s:=s.push (<-if x.raw==e.raw then `(tactic|(revert $i;intro $x:term)) else if x.raw.isIdent then `(tactic|obtain $(mkIdent `rfl):ident:=$i) else if x.raw.isOfKind `Lean.Parser.Term.hole then pure k else `(tactic|let $x:term:=$i))
 let k<-if e.raw.isIdent then `(tactic|try clear $e) else pure k
 let mut t<-`(tactic|(rcases $e:term with ⟨$[$b:ident],*⟩;($[$s];*)))
 let mut d:=#[]
 for m in [1:min n 8] do
  let q:=p[m+1:].toArray
  let u<-if m+1==n then pure (b,s) else do let r:=mkIdent (<-Macro.addMacroScope `r);pure (b[:m].toArray.push r,s[:m].toArray.push (<-`(tactic|let ($(p[m]!),$q,*):=$r)))
  d:=d++#[(s!"X{m}",u),(s!"V{m}",u)]
 for m in [1:n-1] do d:=d.push (s!"V{m}{n-1-m}",b,s)
 for (l,c,u) in d do t<-`(tactic|first|(refine $(mkIdent (.mkSimple l)) $e fun $c* => ?_;$k;($[$u];*))|($t:tactic))
 return t
local macro_rules|`(tactic|let $x:ident:=$e)=>`(tactic|have $x:ident:=$e)
local macro_rules|`(tactic|let $x:ident : $t :=$e)=>`(tactic|have $x:ident : $t :=$e)
local macro_rules|`(tactic|omega)=>`(tactic|first|assumption|lia|omega +splitDisjunctions)
local macro_rules|`(⋯)=>`(by omega)
local macro_rules|`(tactic|exact ($a,$b,*))=>`(tactic|refine ⟨$a,$b,*⟩)|`(tactic|exact $e)=>`(tactic|refine $e)
set_option bootstrap.genMatcherCode false
set_option genSizeOf false
namespace Sp
open Vbwsag
variable {a b c:Cell} {l:List ic} {n:Nat} {e:Cell×List Nat} {w:World} {p:vj} {row:List Nat}
abbrev wC (l:List Nat):Prop:=l.Pairwise (· < ·)
theorem oW {n m:Nat}:∀{l:List Nat},m∈zq n l↔m=n\/m∈l
 |[]=>by simp[zq]
 |k::l=>by
  unfold zq;split
  ·simp
  ·split
   ·rename_i b a;subst a;simp
   ·simp only[az,oW (l:=l)];constructor
    ·rintro(h|h|h)
     ·exact .inr (.inl h)
     ·exact .inl h
     ·exact .inr (.inr h)
    ·rintro(h|h|h)
     ·exact .inr (.inl h)
     ·exact .inl h
     ·exact .inr (.inr h)
theorem uL {n:Nat}:∀{l:List Nat},wC l->wC (zq n l)
 |[],_=>by simp[zq]
 |k::l,h=>by
  let c:=a7.mp h;unfold zq;split
  ·rename_i b;exact a7.mpr ⟨λa ha=>?_,h⟩;rcases az.mp ha with rfl|ha
   ·exact b
   ·exact tO b (c.1 a ha)
  ·split
   ·exact h
   ·rename_i d e;exact a7.mpr ⟨λa ha=>?_,uL c.2⟩;rcases oW.mp ha with rfl|ha
    ·omega
    ·exact c.1 a ha
theorem sv {m:Nat}:∀{b a:List Nat},m∈b.foldl (λs n=>zq n s) a↔m∈a\/m∈b
 |[],a=>by simp
 |n::b,a=>by
  rw[eX,sv (b:=b),oW,az];constructor
  ·rintro((h|h)|h)
   ·exact .inr (.inl h)
   ·exact .inl h
   ·exact .inr (.inr h)
  ·rintro(h|h|h)
   ·exact .inl (.inr h)
   ·exact .inl (.inl h)
   ·exact .inr h
theorem sw:∀{b a:List Nat},wC a->wC (b.foldl (λs n=>zq n s) a)
 |[],_,h=>h
 |_::b,_,h=>by rw[eX];exact sw (uL h)
theorem Gx {a b:List Nat}{m:Nat}:m∈union a b↔m∈a\/m∈b:=sv
theorem Gy {a b:List Nat}(h:wC a):wC (union a b):=sw h
theorem Fl:∀{a b:List Nat},wC a->wC b->(∀n,n∈a↔n∈b)->a=b
 |[],[],_,_,_=>rfl
 |[],y::b,_,_,h=>aB ((h y).mpr (aD ..)) (by simp)
 |x::a,[],_,_,h=>aB ((h x).mp (aD ..)) (by simp)
 |x::a,y::b,i,j,h=>by
  let c:=a7.mp i;let d:=a7.mp j;let f:x=y:=by
   rcases az.mp ((h x).mp (aD ..)) with e|e
   ·exact e
   ·rcases az.mp ((h y).mpr (aD ..)) with e'|e'
    ·exact e'.symm
    ·have:=d.1 x e;have:=c.1 y e';omega
  subst f;congr 1;exact Fl c.2 d.2 λn=>?_
  constructor
  ·intro hn;rcases az.mp ((h n).mp (au _ hn)) with e|e
   ·subst e;exact aB (c.1 n hn) (gY _)
   ·exact e
  ·intro hn;rcases az.mp ((h n).mpr (au _ hn)) with e|e
   ·subst e;exact aB (d.1 n hn) (gY _)
   ·exact e
theorem wC.nodup {l:List Nat}(h:wC l):l.Nodup:=h.imp λh=>bn h
theorem yA {l:List Nat}(h:wC l)(p:Nat->Bool):wC (l.filter p):=h.sublist iT
abbrev rS (l:List ic):Prop:=l.Pairwise λa b=>a.id<b.id
theorem m5 {t:ic}(h:fU l n=aa t):t.id=n:=by
 have:=lT h;simpa using this
theorem pL {t:ic}(h:fU l n=aa t):t∈l:=eR h
theorem fh {u:ic}:fU (u::l) n=if u.id=n then aa u else fU l n:=by
 unfold fU;by_cases e:u.id=n
 ·rw[jN e,D0 (by simp[e])]
 ·rw[iQ e,D1 (by simp[e])]
theorem sA:fU [] n=ac:=rfl
theorem mh (h:rS l){t:ic}(ht:t∈l):fU l t.id=aa t:=by
 induction l with
 |nil=>simp at ht
 |cons u l b=>
  let a:=a7.mp h;rw[fh];rcases az.mp ht with e|ht
  ·subst e;rw[jN rfl]
  ·rw[iQ (bn (a.1 t ht))];exact b a.2 ht
theorem A7:fU l n=ac↔∀t∈l,t.id≠n:=by
 unfold fU;rw[pV];simp
theorem vv {t u:ic}:∀{l:List ic},u∈pG t l->u=t\/u∈l
 |[],h=>by simp[pG] at h;exact .inl h
 |v::l,h=>by
  unfold pG at h;split at h
  ·rcases az.mp h with e|h
   ·exact .inl e
   ·exact .inr h
  ·split at h
   ·rcases az.mp h with e|h
    ·exact .inl e
    ·exact .inr (au _ h)
   ·rcases az.mp h with e|h
    ·exact .inr (e▸aD ..)
    ·rcases vv h with e|h
     ·exact .inl e
     ·exact .inr (au _ h)
theorem vw {t:ic}:∀{l:List ic},rS l->rS (pG t l)
 |[],_=>by simp[pG]
 |u::l,h=>by
  let b:=a7.mp h;unfold pG;split
  ·rename_i c;exact a7.mpr ⟨λa ha=>?_,h⟩;rcases az.mp ha with rfl|ha
   ·exact c
   ·exact tO c (b.1 a ha)
  ·split
   ·rename_i _ e;exact a7.mpr ⟨λa ha=>by rw[e];exact b.1 a ha,b.2⟩
   ·rename_i d f;exact a7.mpr ⟨λa ha=>?_,vw b.2⟩;rcases vv ha with rfl|ha
    ·omega
    ·exact b.1 a ha
theorem kE {t:ic}{n:Nat}:∀{l:List ic},rS l->fU (pG t l) n=if t.id=n then aa t else fU l n
 |[],_=>by
  show fU [t] n=_;rw[fh,sA]
 |u::l,h=>by
  let b:=a7.mp h;unfold pG;split
  ·rw[fh]
  ·split
   ·rename_i _ e;rw[fh];by_cases q:t.id=n
    ·rw[jN q,jN q]
    ·rw[iQ q,iQ q,fh,iQ (by rw[<-e];exact q)]
   ·rename_i c d;rw[fh,kE b.2];by_cases q:u.id=n
    ·rw[jN q,iQ ⋯,fh,jN q]
    ·rw[iQ q];by_cases a:t.id=n
     ·rw[jN a,jN a]
     ·rw[iQ a,iQ a,fh,iQ q]
theorem qW {n m:Nat}:∀{l:List ic},fU (dropThing n l) m=if m=n then ac else fU l m
 |[]=>by
  show fU [] m=_;rw[sA];split<;>rfl
 |u::l=>by
  let b:=qW (n:=n) (m:=m) (l:=l);unfold dropThing at b⊢;rw[dB];by_cases e:u.id=n
  ·rw[iQ (by simp[e]),b];by_cases q:m=n
   ·rw[jN q,jN q]
   ·rw[iQ q,iQ q,fh,iQ (by rw[e];exact λz=>q z.symm)]
  ·rw[jN (by simp[e]),fh,b];by_cases q:u.id=m
   ·rw[jN q,iQ (by rw[<-q];exact e),fh,jN q]
   ·rw[iQ q];by_cases a:m=n
    ·rw[jN a,jN a]
    ·rw[iQ a,iQ a,fh,iQ q]
theorem zF (h:rS l)(n:Nat):rS (dropThing n l):=h.sublist iT
theorem xT {t:ic}:∀{l:List ic},rS l->(pG t l).length=if(fU l t.id).isSome=ae then l.length else l.length+1
 |[],_=>rfl
 |u::l,h=>by
  let a:=a7.mp h;unfold pG;split
  ·rename_i b;let hn:fU (u::l) t.id=ac:=A7.mpr λv hv=>by
    rcases az.mp hv with rfl|hv
    ·omega
    ·have:=a.1 v hv;omega
   rw[hn];rfl
  ·split
   ·rename_i _ e;rw[fh,jN e.symm];rfl
   ·rename_i d c;rw[aK,xT a.2,fh,iQ (show¬u.id=t.id from λz=>c z.symm)];split<;>simp
theorem KL (h:rS l):wC (l.map ic.id):=bY.mpr h
theorem RB (h:rS l):n∈l.map ic.id↔(fU l n).isSome=ae:=by
 constructor
 ·intro hn;let(t,a,rfl):=aM.mp hn;rw[mh h a];rfl
 ·intro b;let(t,a):=bF.mp b;exact aM.mpr ⟨t,pL a,m5 a⟩
def In (x:qr)(c:Cell)(n:Nat):Prop:=∃e∈x,e.1=c/\n∈e.2
theorem In.nil:¬In [] c n:=λx'=>V11 x' λ_ h _=>by simp at h
theorem In.cons {x:qr}:In (e::x) c n↔(e.1=c/\n∈e.2)\/In x c n:=by
 constructor
 ·intro x';let(f,hf,h):=x';rcases az.mp hf with rfl|hf
  ·exact .inl h
  ·exact .inr ⟨f,hf,h⟩
 ·rintro(h|⟨f,hf,h⟩)
  ·exact(e,aD ..,h)
  ·exact(f,au _ hf,h)
theorem Eg:jp a b=ae↔a.cx<b.cx\/(a.cx=b.cx/\a.cy<b.cy):=by
 unfold jp;simp
theorem Ib (h:jp a b=ae)(h':jp b c=ae):jp a c=ae:=by
 rw[Eg] at *;omega
theorem Pk (h:jp a b=ae):a≠b:=by
 rintro rfl;rw[Eg] at h;omega
theorem Ic (h:¬jp a b=ae)(h':a≠b):jp b a=ae:=by
 rw[Eg] at *;let(d,e):=a;let(f,c):=b;have:¬(d=f/\e=c):=λz=>h' (by rw[z.1,z.2])
 simp only at *;omega
structure uv (l:List ic)(x:qr):Prop where
 cs:x.Pairwise λa b=>jp a.1 b.1=ae
 ne:∀e∈x,e.2≠[]/\wC e.2
 mem:∀c n,In x c n↔∃t,fU l n=aa t/\cellOf (placeOf t)=c
theorem Eh {c:Cell}{n:Nat}{d:Cell}{m:Nat}:∀{x:qr},In (u6 c n x) d m↔(c=d/\m=n)\/In x d m
 |[]=>by
  show In [(c,[n])] d m↔_;rw[In.cons];simp[In.nil]
 |e::x=>by
  unfold u6;split
  ·rw[In.cons];simp
  ·split
   ·rename_i _ h;subst h;rw[In.cons,In.cons];simp only[oW];constructor
    ·rintro(⟨a,h2|h2⟩|h)
     ·exact .inl ⟨a,h2⟩
     ·exact .inr (.inl ⟨a,h2⟩)
     ·exact .inr (.inr h)
    ·rintro(⟨a,h2⟩|⟨a,h2⟩|h)
     ·exact .inl ⟨a,.inl h2⟩
     ·exact .inl ⟨a,.inr h2⟩
     ·exact .inr h
   ·rw[In.cons,In.cons,Eh];constructor
    ·rintro(h|h|h)
     ·exact .inr (.inl h)
     ·exact .inl h
     ·exact .inr (.inr h)
    ·rintro(h|h|h)
     ·exact .inr (.inl h)
     ·exact .inl h
     ·exact .inr (.inr h)
theorem Cc {c:Cell}{n:Nat}{e:Cell×List Nat}:∀{x:qr},e∈u6 c n x->e.1=c\/e∈x
 |[],h=>by
  let a:e∈[(c,[n])]:=h;simp at a;exact .inl (by rw[a])
 |f::x,h=>by
  unfold u6 at h;split at h
  ·rcases az.mp h with z|h
   ·exact .inl (by rw[z])
   ·exact .inr h
  ·split at h
   ·rename_i _ q;rcases az.mp h with z|h
    ·exact .inl (by rw[z];exact q.symm)
    ·exact .inr (au _ h)
   ·rcases az.mp h with z|h
    ·exact .inr (z▸aD ..)
    ·rcases Cc h with z|h
     ·exact .inl z
     ·exact .inr (au _ h)
theorem Ei {c:Cell}{n:Nat}:∀{x:qr},x.Pairwise (λa b=>jp a.1 b.1=ae)->(u6 c n x).Pairwise λa b=>jp a.1 b.1=ae
 |[],_=>by simp[u6]
 |e::x,h=>by
  let d:=a7.mp h;unfold u6;split
  ·rename_i f;exact a7.mpr ⟨λa ha=>?_,h⟩;rcases az.mp ha with rfl|ha
   ·exact f
   ·exact Ib f (d.1 a ha)
  ·split
   ·exact a7.mpr ⟨λa ha=>d.1 a ha,d.2⟩
   ·rename_i f i;exact a7.mpr ⟨λa ha=>?_,Ei d.2⟩;rcases Cc ha with z|ha
    ·rw[z];exact Ic f i
    ·exact d.1 a ha
theorem Ej {c:Cell}{n:Nat}:∀{x:qr},(∀e∈x,e.2≠[]/\wC e.2)->∀e∈u6 c n x,e.2≠[]/\wC e.2
 |[],_,e,he=>by
  let a:e∈[(c,[n])]:=he;simp at a;subst a;exact(by simp,by simp)
 |f::x,h,e,he=>by
  let b:=h f (aD ..);let d:∀e∈x,e.2≠[]/\wC e.2:=λe he=>h e (au _ he)
  unfold u6 at he;split at he
  ·rcases az.mp he with rfl|he
   ·exact(by simp,by simp)
   ·exact h e he
  ·split at he
   ·rcases az.mp he with rfl|he
    ·exact(λz=>?_,uL b.2);have:n∈zq n f.2:=oW.mpr (.inl rfl);simp only at z;rw[z] at this;simp at this
    ·exact d e he
   ·rcases az.mp he with rfl|he
    ·exact b
    ·exact Ej d e he
theorem vx {x:qr}:e∈zQ c n x↔(e∈x/\e.1≠c)\/(e.1=c/\e.2≠[]/\∃r,(c,r)∈x/\e.2=r.filter λm=>m !=n):=by
 unfold zQ;rw[fL];constructor
 ·intro x';let(f,d,h):=x';split at h
  ·rename_i q;simp only at h;split at h
   ·cases h
   ·rename_i j;cases h;exact .inr ⟨q,λz=>j (by simp only at z;rw[z];rfl),f.2,?_,rfl⟩;rw[<-q];exact d
  ·rename_i q;cases h;exact .inl ⟨d,q⟩
 ·rintro(⟨a,b⟩|⟨a,b,r,l,i⟩)
  ·exact(e,a,by rw[iQ b])
  ·exact((c,r),l,?_);rw[jN rfl];simp only;rw[iQ (by rw[<-i];simpa using b),<-i,<-a]
theorem Fm {x:qr}{d:Cell}{m:Nat}:In (zQ c n x) d m↔In x d m/\¬(d=c/\m=n):=by
 constructor
 ·intro x';let(e,j,a,f):=x';rcases vx.mp j with⟨i,l⟩|⟨i,l,r,o,p⟩
  ·exact(⟨e,i,a,f⟩,λz=>l (a.trans z.1))
  ·rw[p] at f;let(s,u):=cW.mp f;exact(⟨(c,r),o,i.symm.trans a,s⟩,λz=>?_);simp[z.2] at u
 ·intro x';let((e,j,a,f),i):=x';by_cases q:e.1=c
  ·let v:m≠n:=λz=>i ⟨a.symm.trans q,z⟩
   let b:m∈e.2.filter λm=>m !=n:=cW.mpr ⟨f,by simpa using v⟩
   exact((c,e.2.filter λm=>m !=n),vx.mpr (.inr ⟨rfl,λz=>?_,e.2,by rw[<-q];exact j,rfl⟩),q.symm.trans a,b);simp only at z;rw[z] at b;simp at b
  ·exact(e,vx.mpr (.inl ⟨j,q⟩),a,f)
theorem Fn {x:qr}(h:x.Pairwise λa b=>jp a.1 b.1=ae):(zQ c n x).Pairwise λa b=>jp a.1 b.1=ae:=by
 unfold zQ;exact fP.filterMap _ (λa b i e j f l=>?_) h;let d:∀(g e:Cell×List Nat),(if g.1=c then(let r:=g.2.filter λm=>m !=n;if r.isEmpty=ae then ac else aa (g.1,r)) else aa g)=aa e->e.1=g.1:=by
  intro g e h;split at h
  ·simp only at h;split at h
   ·cases h
   ·cases h;rfl
  ·cases h;rfl
 rw[d a e j,d b f l];exact i
theorem Fo {x:qr}(h:∀e∈x,e.2≠[]/\wC e.2):∀e∈zQ c n x,e.2≠[]/\wC e.2:=by
 intro e a;rcases vx.mp a with⟨b,_⟩|⟨_,d,r,f,i⟩
 ·exact h e b
 ·exact(d,?_);rw[i];exact yA (h _ f).2 _
theorem RC:uv [] []:=⟨.nil,λ_ h=>by simp at h,λc n=>⟨λh=>aB h In.nil,λx'=>V11 x' λt h _=>by simp[sA] at h⟩⟩
theorem Nu {t:ic}(d:rS w.things)(h:uv w.things w.index):uv (placed w t).things (placed w t).index:=by
 unfold placed;simp only
 cases e:fU w.things t.id with
 |none=>
  simp only;exact(Ei h.cs,Ej h.ne,λc n=>?_);rw[Eh,h.mem];constructor
  ·rintro(⟨a,b⟩|⟨u,a,b⟩)
   ·exact(t,by rw[kE d,jN b.symm],a)
   ·exact(u,?_,b);rw[kE d,iQ (λz=>by rw[z,a] at e;cases e)];exact a
  ·intro x';let(u,a,b):=x';rw[kE d] at a;by_cases q:t.id=n
   ·rw[jN q] at a;cases a;exact .inl ⟨b,q.symm⟩
   ·rw[iQ q] at a;exact .inr ⟨u,a,b⟩
 |some v=>
  simp only;let f:=m5 e;exact(Ei (Fn h.cs),Ej (Fo h.ne),λc n=>?_);rw[Eh,Fm,h.mem];constructor
  ·rintro(⟨a,b⟩|⟨⟨u,a,b⟩,i⟩)
   ·exact(t,by rw[kE d,jN b.symm],a)
   ·exact(u,?_,b);rw[kE d,iQ (λz=>?_)]
    ·exact a
    ·rw[z,a] at e;cases e;exact i ⟨b.symm,(m5 a).symm⟩
  ·intro x';let(u,a,b):=x';rw[kE d] at a;by_cases q:t.id=n
   ·rw[jN q] at a;cases a;exact .inl ⟨b,q.symm⟩
   ·rw[iQ q] at a;exact .inr ⟨⟨u,a,b⟩,λz=>q (by rw[z.2,f])⟩
theorem Nv {t:ic}(a:rS w.things):rS (placed w t).things:=vw a
theorem Mu (h:uv w.things w.index):uv (Kq w n).things (Kq w n).index:=by
 unfold Kq
 cases e:fU w.things n with
 |none=>exact h
 |some v=>
  simp only;exact(Fn h.cs,Fo h.ne,λc m=>?_);rw[Fm,h.mem];constructor
  ·intro x';let((u,a,b),d):=x';exact(u,?_,b);rw[qW,iQ (λz=>?_)]
   ·exact a
   ·subst z;rw[a] at e;cases e;exact d ⟨b.symm,rfl⟩
  ·intro x';let(u,a,b):=x';rw[qW] at a;by_cases q:m=n
   ·rw[jN q] at a;cases a
   ·rw[iQ q] at a;exact(⟨u,a,b⟩,λz=>q z.2)
theorem Mw (a:rS w.things):rS (Kq w n).things:=by
 unfold Kq;split
 ·exact zF a n
 ·exact a
theorem My {a b r:Int}(d:0<=r)(h:a*a+b*b<=r*r): -r<=a/\a<=r:=by
 let e:0<=b*b:=by
  rcases Int.le_total 0 b with z|z
  ·exact qk z z
  ·have:=qk (lU z) (lU z);rw[zR] at this;exact this
 constructor
 ·apply dW;intro q;let c:r+1<= -a:=⋯
  have:=BU c c ⋯ ⋯;rw[zR,Int.add_mul,Int.mul_add] at this;omega
 ·apply dW;intro q;let c:r+1<=a:=⋯
  have:=BU c c ⋯ ⋯;rw[Int.add_mul,Int.mul_add] at this;omega
theorem Ek {q:vj}{r:Nat}:sh p q r=ae↔(p.x-q.x)*(p.x-q.x)+(p.y-q.y)*(p.y-q.y)<=(r:Int)*(r:Int):=by
 unfold sh far2;simp
theorem Cd {x:qr}{r:Nat}:n∈inCells x p r↔∃e∈x,(((cellOf ⟨p.x-(r:Int),p.y-(r:Int)⟩).cx<=e.1.cx/\e.1.cx<=(cellOf ⟨p.x+(r:Int),p.y+(r:Int)⟩).cx/\(cellOf ⟨p.x-(r:Int),p.y-(r:Int)⟩).cy<=e.1.cy/\e.1.cy<=(cellOf ⟨p.x+(r:Int),p.y+(r:Int)⟩).cy))/\n∈e.2:=by
 unfold inCells;simp only;rw[lw];constructor
 ·intro x';let(e,a,h):=x';split at h
  ·rename_i q;exact(e,a,q,h)
  ·simp at h
 ·intro x';let(e,a,q,h):=x';exact WL e a (by rw[jN q];exact h)
theorem z7 {x:qr}(c:rS l)(h:uv l x)(p:vj)(r:Nat):around l x p r=(l.filter λt=>sh (placeOf t) p r).map ic.id:=by
 unfold around;exact Fl (sw .nil) ?_ λn=>?_
 ·exact bY.mpr (c.sublist iT)
 ·rw[sv,cW];constructor
  ·rintro(b|⟨b,a⟩)
   ·simp at b
   ·cases e:fU l n with
    |none=>simp[e] at a
    |some t=>
     simp only[e] at a;exact aM.mpr ⟨t,cW.mpr ⟨pL e,a⟩,m5 e⟩
  ·intro hn;let(t,d,rfl):=aM.mp hn;let(b,a):=cW.mp d;let e:=mh c b;exact .inr ⟨?_,by simp only[e];exact a⟩;let(f,i,hc,j):=(h.mem (cellOf (placeOf t)) t.id).mpr ⟨t,e,rfl⟩;exact Cd.mpr ⟨f,i,?_,j⟩;rw[hc];let hw:=Ek.mp a;let o:=My (xg r) hw;rw[Int.add_comm] at hw;let q:=My (xg r) hw;unfold cellOf SIZE;simp only;exact(rY (by decide) ⋯,rY (by decide) ⋯,rY (by decide) ⋯,rY (by decide) ⋯)
theorem Mz {x:qr}(h:uv l x):(x.map λe=>e.1).Nodup:=by
 exact bY.mpr (h.cs.imp λq=>Pk q)
theorem O5 {x:qr}(f:rS l)(h:uv l x):c∈x.map (λe=>e.1)↔∃t∈l,cellOf (placeOf t)=c:=by
 constructor
 ·intro hc;let(e,a,rfl):=aM.mp hc;let(n,hn):=List.exists_mem_of_ne_nil _ (h.ne e a).1;let(t,b,d):=(h.mem e.1 n).mp ⟨e,a,rfl,hn⟩;exact(t,pL b,d)
 ·intro x';let(t,b,d):=x';let(e,a,i,_):=(h.mem c t.id).mpr ⟨t,mh f b,d⟩;exact aM.mpr ⟨e,a,i⟩
theorem O6 {α:Type}{a b:List α}(d:a.Nodup)(e:b.Nodup)(h:∀c,c∈a↔c∈b):a.length=b.length:=((pW d e).mpr h).length_eq
abbrev xU (l:List Told):Prop:=l.Pairwise λa b=>a.id<b.id
theorem yB:gH [] n=ac:=rfl
theorem gX {u:Told}{l:List Told}:gH (u::l) n=if u.id=n then aa u else gH l n:=by
 unfold gH;by_cases e:u.id=n
 ·rw[jN e,D0 (by simp[e])]
 ·rw[iQ e,D1 (by simp[e])]
theorem z8 {l:List Told}{t:Told}(h:gH l n=aa t):t.id=n:=by
 have:=lT h;simpa using this
theorem Nw {l:List Told}{t:Told}(h:gH l n=aa t):t∈l:=eR h
theorem Ky {l:List Told}(h:xU l){t:Told}(ht:t∈l):gH l t.id=aa t:=by
 induction l with
 |nil=>simp at ht
 |cons u l b=>
  let a:=a7.mp h;rw[gX];rcases az.mp ht with e|ht
  ·subst e;rw[jN rfl]
  ·rw[iQ (bn (a.1 t ht))];exact b a.2 ht
theorem xk {t u:Told}:∀{l:List Told},u∈nZ t l->u=t\/u∈l
 |[],h=>by simp[nZ] at h;exact .inl h
 |v::l,h=>by
  unfold nZ at h;split at h
  ·rcases az.mp h with e|h
   ·exact .inl e
   ·exact .inr h
  ·split at h
   ·rcases az.mp h with e|h
    ·exact .inl e
    ·exact .inr (au _ h)
   ·rcases az.mp h with e|h
    ·exact .inr (e▸aD ..)
    ·rcases xk h with e|h
     ·exact .inl e
     ·exact .inr (au _ h)
theorem sB {t:Told}:∀{l:List Told},xU l->xU (nZ t l)
 |[],_=>by simp[nZ]
 |u::l,h=>by
  let b:=a7.mp h;unfold nZ;split
  ·rename_i c;exact a7.mpr ⟨λa ha=>?_,h⟩;rcases az.mp ha with rfl|ha
   ·exact c
   ·exact tO c (b.1 a ha)
  ·split
   ·rename_i _ e;exact a7.mpr ⟨λa ha=>by rw[e];exact b.1 a ha,b.2⟩
   ·rename_i d f;exact a7.mpr ⟨λa ha=>?_,sB b.2⟩;rcases xk ha with rfl|ha
    ·omega
    ·exact b.1 a ha
theorem oX {t:Told}{n:Nat}:∀{l:List Told},xU l->gH (nZ t l) n=if t.id=n then aa t else gH l n
 |[],_=>by
  show gH [t] n=_;rw[gX,yB]
 |u::l,h=>by
  let b:=a7.mp h;unfold nZ;split
  ·rw[gX]
  ·split
   ·rename_i _ e;rw[gX];by_cases q:t.id=n
    ·rw[jN q,jN q]
    ·rw[iQ q,iQ q,gX,iQ (by rw[<-e];exact q)]
   ·rename_i c d;rw[gX,oX b.2];by_cases q:u.id=n
    ·rw[jN q,iQ ⋯,gX,jN q]
    ·rw[iQ q];by_cases a:t.id=n
     ·rw[jN a,jN a]
     ·rw[iQ a,iQ a,gX,iQ q]
theorem pM {n m:Nat}:∀{l:List Told},gH (l.filter λt=>t.id !=n) m=if m=n then ac else gH l m
 |[]=>by
  show gH [] m=_;rw[yB];split<;>rfl
 |u::l=>by
  let b:=pM (n:=n) (m:=m) (l:=l);rw[dB];by_cases e:u.id=n
  ·rw[iQ (by simp[e]),b];by_cases q:m=n
   ·rw[jN q,jN q]
   ·rw[iQ q,iQ q,gX,iQ (by rw[e];exact λz=>q z.symm)]
  ·rw[jN (by simp[e]),gX,b];by_cases q:u.id=m
   ·rw[jN q,iQ (by rw[<-q];exact e),gX,jN q]
   ·rw[iQ q];by_cases a:m=n
    ·rw[jN a,jN a]
    ·rw[iQ a,iQ a,gX,iQ q]
theorem z9 {l:List Told}(h:xU l)(m:D2):xU (heard l m):=by
 cases m with
 |enter n k v=>exact sB h
 |change n d v=>
  show xU (match gH l n with
   |none=>l
   |some t=>nZ {t with vals:=(d.zip v).foldl (λr x=>r.set x.1 x.2) t.vals} l)
  split
  ·exact h
  ·exact sB h
 |leave n=>exact h.sublist iT
theorem El:∀{ms:List D2} {l:List Told},xU l->xU (ms.foldl heard l)
 |[],_,h=>h
 |m::ms,l,h=>by rw[eX];exact El (z9 h m)
theorem xV {l:List Told}(h:xU l){m:D2}(hn:aboutOf m≠n):gH (heard l m) n=gH l n:=by
 cases m with
 |enter k b v=>
  show gH (nZ ⟨k,b,v⟩ l) n=_;rw[oX h,iQ (show¬k=n from hn)]
 |change k d v=>
  let a:k≠n:=hn;show gH (match gH l k with
   |none=>l
   |some t=>nZ {t with vals:=(d.zip v).foldl (λr x=>r.set x.1 x.2) t.vals} l) n=_
  split
  ·rfl
  ·rename_i t c;let e:=z8 c;rw[oX h,iQ (by show¬t.id=n;rw[e];exact a)]
 |leave k=>
  let a:k≠n:=hn;show gH (l.filter λt=>t.id !=k) n=_;rw[pM,iQ (λz=>a z.symm)]
theorem wF:∀{ms:List D2} {l:List Told} {n:Nat},xU l->(∀m∈ms,aboutOf m≠n)->gH (ms.foldl heard l) n=gH l n
 |[],_,_,_,_=>rfl
 |m::ms,l,n,h,hn=>by
  rw[eX,wF (z9 h m) (λk a=>hn k (au _ a)),xV h (hn m (aD ..))]
theorem zG {l:List Int}{i:Nat}{z:Int}(h:i<l.length):(l.set i z).getD i 0=z:=by
 rw[bh,mU h];rfl
theorem Ce {l:List Int}{i j:Nat}{z:Int}(h:i≠j):(l.set i z).getD j 0=l.getD j 0:=by
 rw[bh,ox h,bh]
theorem vy:∀(ps:List (Nat×Int)) (l:List Int),(ps.foldl (λr x=>r.set x.1 x.2) l).length=l.length
 |[],_=>rfl
 |p::ps,l=>by rw[eX,vy ps,lV]
theorem uw (b:List Int){j:Nat}:∀(ds:List Nat) (l:List Int),(∀d∈ds,d<l.length)->((ds.map λi=>(i,b.getD i 0)).foldl (λr x=>r.set x.1 x.2) l).getD j 0=if j∈ds then b.getD j 0 else l.getD j 0
 |[],l,_=>by simp
 |d::ds,l,h=>by
  rw[bB,eX,uw b ds _ (λe c=>by rw[lV];exact h e (au _ c))];by_cases q:j∈ds
  ·rw[jN q,jN (au _ q)]
  ·rw[iQ q];by_cases a:d=j
   ·subst a;rw[jN (aD ..)];exact zG (h d (aD ..))
   ·rw[iQ (λz=>(az.mp z).elim (λz=>a z.symm) q)];exact Ce a
theorem vz {α β:Type}(f:α->β):∀l:List α,l.zip (l.map f)=l.map λi=>(i,f i)
 |[]=>rfl
 |a::l=>by rw[bB,List.zip_cons_cons,vz f l,bB]
theorem Cf {a b:List Int}(h:a.length=b.length)(e:∀j,a.getD j 0=b.getD j 0):a=b:=by
 exact List.ext_getElem h λi c d=>?_
 have:=e i;rw[bh,br c,bh,br d] at this;exact this
theorem nB {a b:List Int}{i:Nat}:i∈ko a b↔i<8/\a.getD i 0≠b.getD i 0:=by
 unfold ko;rw[cW,fM];simp[VALS]
theorem Kz {a b:List Int}(c:a.length=8)(d:b.length=8):(ko a b).isEmpty=ae↔a=b:=by
 rw[List.isEmpty_iff];constructor
 ·intro h;exact Cf (c.trans d.symm) λj=>?_
  apply dW;intro q;by_cases e:j<8
  ·have:j∈ko a b:=nB.mpr ⟨e,q⟩;rw[h] at this;simp at this
  ·apply q;rw[bh,ii ⋯,bh,ii ⋯]
 ·rintro rfl;exact List.eq_nil_iff_forall_not_mem.mpr λi f=>(nB.mp f).2 rfl
theorem KN {a b:List Int}(f:a.length=8)(c:b.length=8):((ko a b).zip ((ko a b).map λi=>a.getD i 0)).foldl (λr x=>r.set x.1 x.2) b=a:=by
 rw[vz];exact Cf (by rw[vy,f,c]) λj=>?_
 rw[uw a _ _ (λd l=>by rw[c];exact(nB.mp l).1)];by_cases q:j∈ko a b
 ·rw[jN q]
 ·rw[iQ q];apply dW;intro z;by_cases o:j<8
  ·exact q (nB.mpr ⟨o,λe=>z e.symm⟩)
  ·apply z;rw[bh,ii ⋯,bh,ii ⋯]
def Cg (l:List ic)(p:rB)(n:Nat):Option ic:=if p.sees.contains n=ae then fU l n else ac
theorem Ie (l:List ic)(p:rB)(n:Nat):due l p n=match Cg l p n,gH p.told n with
 |some t,ac=>aa (.enter n t.kind t.vals)
 |some t,aa u=>if t.kind≠u.kind then aa (.leave n) else if(ko t.vals u.vals).isEmpty=ae then ac else aa (.change n (ko t.vals u.vals) ((ko t.vals u.vals).map λi=>t.vals.getD i 0))
 |none,aa _=>aa (.leave n)
 |none,ac=>ac:=rfl
theorem O7 {p:rB}{m:D2}(h:due l p n=aa m):aboutOf m=n:=by
 rw[Ie] at h;split at h
 ·cases h;rfl
 ·split at h
  ·cases h;rfl
  ·split at h
   ·cases h
   ·cases h;rfl
 ·cases h;rfl
 ·cases h
theorem Pl {p:rB}{m:D2}{d:List Told}(o:xU d)(hn:gH d n=gH p.told n)(v:∀t,fU l n=aa t->t.vals.length=8)(e:∀t,gH p.told n=aa t->t.vals.length=8)(h:due l p n=aa m):gH (heard d m) n=match m with
   | .leave _=>ac
   |_=>(Cg l p n).map λt=>⟨n,t.kind,t.vals⟩:=by
 let f:∀t,Cg l p n=aa t->t.vals.length=8:=λt c=>by
  unfold Cg at c;split at c
  ·exact v t c
  ·cases c
 rw[Ie] at h
 cases b:Cg l p n with
 |none=>
  cases a:gH p.told n with
  |none=>rw[b,a] at h;cases h
  |some u=>
   rw[b,a] at h;cases h;show gH (d.filter λt=>t.id !=n) n=ac;rw[pM,jN rfl]
 |some t=>
  cases a:gH p.told n with
  |none=>
   rw[b,a] at h;cases h;show gH (nZ ⟨n,t.kind,t.vals⟩ d) n=_;rw[oX o,jN rfl];rfl
  |some u=>
   rw[b,a] at h;simp only at h;split at h
   ·cases h;show gH (d.filter λt=>t.id !=n) n=ac;rw[pM,jN rfl]
   ·rename_i w;let j:t.kind=u.kind:=Decidable.not_not.mp w;split at h
    ·cases h
    ·cases h;show gH (match gH d n with
      |none=>d
      |some q=>nZ {q with vals:=(((ko t.vals u.vals)).zip ((ko t.vals u.vals).map λi=>t.vals.getD i 0)).foldl (λr x=>r.set x.1 x.2) q.vals} d) n=_
     rw[hn,a];simp only;let s:=z8 a;rw[oX o,jN s,KN (f t b) (e u a)];show aa (Told.mk u.id u.kind t.vals)=aa (Told.mk n t.kind t.vals);rw[s,j]
theorem yC {a b:Int×Nat}:sooner a b=ae↔a.1<b.1\/(a.1=b.1/\a.2<b.2):=by
 unfold sooner;simp
theorem oY (a:Int×Nat):∀l:List (Int×Nat),(insertKey a l).Perm (a::l)
 |[]=>iW _
 |b::l=>by
  unfold insertKey;split
  ·exact iW _
  ·exact(x6 b (oY a l)).trans (ip.swap a b l)
theorem qX:∀l:List (Int×Nat),(l.foldr insertKey []).Perm l
 |[]=>iW _
 |a::l=>by
  rw[List.foldr_cons];exact(oY a _).trans (x6 a (qX l))
abbrev jZ (a b:Int×Nat):Prop:=a.1<b.1\/(a.1=b.1/\a.2<=b.2)
theorem qw (a:Int×Nat):∀{l:List (Int×Nat)},l.Pairwise jZ->(insertKey a l).Pairwise jZ
 |[],_=>by simp[insertKey]
 |b::l,h=>by
  let d:=a7.mp h;unfold insertKey;split
  ·rename_i e;let f:=yC.mp e;exact a7.mpr ⟨λc hc=>?_,h⟩;rcases az.mp hc with rfl|hc
   ·show jZ a c;unfold jZ;omega
   ·have:=d.1 c hc;unfold jZ at this⊢;omega
  ·rename_i e;let f:¬(a.1<b.1\/(a.1=b.1/\a.2<b.2)):=λz=>e (yC.mpr z)
   exact a7.mpr ⟨λc hc=>?_,qw a d.2⟩;rcases az.mp ((oY a l).mem_iff.mp hc) with rfl|hc
   ·unfold jZ;omega
   ·exact d.1 c hc
theorem sC:∀l:List (Int×Nat),(l.foldr insertKey []).Pairwise jZ
 |[]=>eJ
 |a::l=>by rw[List.foldr_cons];exact qw a (sC l)
theorem vA {a b:Int×Nat}(h:jZ a b)(h':jZ b a):a=b:=by
 unfold jZ at *;let(c,d):=a;let(e,f):=b;simp only at h h';let i:c=e:=⋯
 let j:d=f:=⋯
 rw[i,j]
theorem O8 {l q:List (Int×Nat)}(c:q.Perm l)(d:q.Pairwise jZ):inTurn l=q.map λx=>x.2:=by
 unfold inTurn;have:l.foldr insertKey []=q:=by
  exact ip.eq_of_pairwise (le:=jZ) (λa b _ _ h e=>vA h e) (sC l) d ((qX l).trans c.symm)
 rw[this]
theorem Ny (r:Ranks)(l:List ic)(p:rB)(now:Nat):(queue r l p now).Perm (dues l p):=by
 unfold queue inTurn;have:=(qX ((dues l p).map λn=>(keyOf r l p now n,n))).map λx=>x.2
 rw[gZ] at this;simpa [Function.comp_def] using this
theorem Aa {n d:Int}(a:0<d):∃g:Int,0<g/\n=(eU n d).num*g/\d=((eU n d).den:Int)*g:=by
 let c:0<E9 n d:=Int.gcd_pos_of_ne_zero_right n ⋯;exact(E9 n d,⋯,?_,?_)
 ·unfold eU;rw[iQ ⋯,jN a];exact(HQ (Int.gcd_dvd_left ..)).symm
 ·unfold eU;rw[iQ ⋯,jN a];simp only;let b:0<=d/(E9 n d:Int):=Int.ediv_nonneg ⋯ ⋯;rw[HR b];exact(HQ (Int.gcd_dvd_right ..)).symm
theorem Ch {n d:Int}(a:d<0):eU n d=eU (-n) (-d):=by
 unfold eU;rw[iQ ⋯,iQ ⋯,iQ ⋯,jN ⋯];rw[Int.gcd_neg,Int.neg_gcd]
theorem Ig {a b d c g g':Int}(i:0<g)(e:0<g'):(a*g)*(c*g')<(d*g')*(b*g)↔a*c<d*b:=by
 let j:(a*g)*(c*g')=(a*c)*(g*g'):=by
  rw[kD,kD,<-kD g,ny g c,kD]
 let l:(d*g')*(b*g)=(d*b)*(g*g'):=by
  rw[kD,kD,<-kD g',ny g' b,kD,ny g' g]
 rw[j,l];let f:0<g*g':=Int.mul_pos i e;constructor
 ·exact λh=>Int.lt_of_mul_lt_mul_right h (Int.le_of_lt f)
 ·exact λh=>Int.mul_lt_mul_of_pos_right h f
theorem yi {n d c d':Int}(o:0<d)(e:0<d'):(eU n d).lt (eU c d')=decide (n*d'<c*d):=by
 let(g,p,j,l):=Aa (n:=n) o;let(q,i,a,b):=Aa (n:=c) e;generalize eU n d=f at j l⊢;generalize eU c d'=r at a b⊢;unfold Frac.lt;exact decide_eq_decide.mpr ?_;rw[j,b,a,l];exact(Ig p i).symm
theorem Gz (a b:Frac):a.le b= !(b.lt a):=by
 unfold Frac.le Frac.lt;rw[<-decide_not];exact decide_eq_decide.mpr ⋯
theorem A8 {n d b d':Int}(c:0<d)(a:0<d'):(eU n d).le (eU b d')=decide (n*d'<=b*d):=by
 rw[Gz,yi a c,<-decide_not];exact decide_eq_decide.mpr ⋯
theorem GA {d:Int}(a:0<d):zero=eU 0 d:=by
 unfold eU;rw[iQ ⋯,jN a];let e:((E9 0 d:Nat):Int)=d:=by rw[Int.gcd_zero_left];omega
 rw[e];show Frac.mk 0 1=_;rw[Int.zero_ediv,Int.ediv_self ⋯];rfl
theorem Ci:one=eU 1 1:=by decide
theorem qY:zero=eU 0 1:=by decide
theorem oz {n d:Int}(a:0<d):between (eU n d)=(decide (0<=n)&&decide (n<=d)):=by
 unfold between;rw[qY,Ci,A8 (by decide) a,A8 a (by decide)];congr 1
 ·exact decide_eq_decide.mpr ⋯
 ·exact decide_eq_decide.mpr ⋯
def Ih (p q:vj)(w:Wall):Option (Int×Int):=
 let d:=fg q p
 let e:=fg w.b w.a
 let s:=fg w.a p
 let k:=jq d e
 if k≠0 then
  (if k<0 then(if 0<= -jq s e/\ -jq s e<= -k/\0<= -jq s d/\ -jq s d<= -k then aa (-jq s e, -k) else ac)
   else(if 0<=jq s e/\jq s e<=k/\0<=jq s d/\jq s d<=k then aa (jq s e,k) else ac))
 else if p=q then(if onWall p w=ae then aa (0,1) else ac)
 else if jq s d≠0 then ac
 else
  let a:=dot s d
  let b:=a+dot e d
  if max a b<0\/dot d d<min a b then ac else aa (max (min a b) 0,dot d d)
theorem Fp {q:vj}(h:p≠q):0<dot (fg q p) (fg q p):=by
 let(a,b):=p;let(c,d):=q;show 0<(c-a)*(c-a)+(d-b)*(d-b);let f:∀z:Int,0<=z*z:=λz=>by
  rcases Int.le_total 0 z with h|h
  ·exact qk h h
  ·have:=qk (lU h) (lU h);rw[zR] at this;exact this
 let i:∀z:Int,z≠0->0<z*z:=λz j=>by
  let l:=f z;let o:z*z≠0:=λe=>(Int.mul_eq_zero.mp e).elim j j
  omega
 let l:=f (c-a);let o:=f (d-b);by_cases e:c-a=0
 ·by_cases r:d-b=0
  ·exact aB (show(vj.mk a b)=vj.mk c d by rw[show a=c by omega,show b=d by omega]) h
  ·have:=i _ r;omega
 ·have:=i _ e;omega
theorem GB (p:vj)(w:Wall)(d:vj):dot (fg w.b p) d=dot (fg w.a p) d+dot (fg w.b w.a) d:=by
 unfold dot fg;simp only;simp only[Int.sub_mul];omega
theorem Ii (p q:vj)(w:Wall):hitAt p q w=(Ih p q w).map λx=>eU x.1 x.2:=by
 unfold hitAt Ih;simp only;by_cases c:p=q
 ·subst c;let v:jq (fg p p) (fg w.b w.a)=0:=by
   unfold jq fg;simp
  rw[jN rfl,iQ (show¬(jq (fg p p) (fg w.b w.a)≠0) from λz=>z v),jN rfl];by_cases o:onWall p w=ae
  ·rw[jN o,jN o,kf,<-qY]
  ·rw[iQ o,iQ o];rfl
 ·rw[iQ c];by_cases r:jq (fg q p) (fg w.b w.a)=0
  ·rw[jN r,iQ (show¬(jq (fg q p) (fg w.b w.a)≠0) from λz=>z r),iQ c];by_cases s:jq (fg w.a p) (fg q p)≠0
   ·rw[jN s,jN s];rfl
   ·rw[iQ s,iQ s];let d:=Fp c;rw[GB];generalize dot (fg q p) (fg q p)=L at d⊢;generalize A:dot (fg w.a p) (fg q p)=a;generalize B:a+dot (fg w.b w.a) (fg q p)=b;simp only[A8 d d];let i:(a*L<=b*L)↔a<=b:=⟨λh=>Int.le_of_mul_le_mul_right h d,λh=>Int.mul_le_mul_of_nonneg_right h (Int.le_of_lt d)⟩;let j:∀lo l:Int,lo<=l->(if(eU l L).lt zero=ae\/one.lt (eU lo L)=ae then ac else aa (if(eU lo L).lt zero=ae then zero else eU lo L))=(if l<0\/L<lo then ac else aa (max lo 0,L)).map λx:Int×Int=>eU x.1 x.2:=by
     intro lo l y;rw[qY,Ci,yi d (by decide),yi (by decide) d,yi d (by decide)];simp only[decide_eq_true_eq];by_cases hc:l<0\/L<lo
     ·rw[jN hc,jN ⋯];rfl
     ·rw[iQ hc,iQ ⋯,kf];by_cases C:lo<0
      ·rw[jN ⋯];let e:max lo 0=0:=⋯
       rw[e,<-GA d,<-qY]
      ·rw[iQ ⋯];let e:max lo 0=lo:=⋯
       rw[e]
    by_cases f:a<=b
    ·let u:decide (a*L<=b*L)=ae:=decide_eq_true (i.mpr f);simp only[u,if_true];rw[show max a b=b by omega,show min a b=a by omega];exact j a b f
    ·let u:decide (a*L<=b*L)=af:=decide_eq_false (λh=>f (i.mp h));simp only[u,bE,if_false];rw[show max a b=a by omega,show min a b=b by omega];exact j b a ⋯
  ·rw[iQ r,jN r];by_cases hn:jq (fg q p) (fg w.b w.a)<0
   ·rw[jN hn,Ch hn,Ch (n:=jq (fg w.a p) (fg q p)) hn,oz ⋯,oz ⋯];simp only[ca,decide_eq_true_eq];by_cases hc:0<= -jq (fg w.a p) (fg w.b w.a)/\ -jq (fg w.a p) (fg w.b w.a)<= -jq (fg q p) (fg w.b w.a)/\0<= -jq (fg w.a p) (fg q p)/\ -jq (fg w.a p) (fg q p)<= -jq (fg q p) (fg w.b w.a)
    ·rw[jN hc,jN ⟨⟨hc.1,hc.2.1⟩,hc.2.2⟩];rfl
    ·rw[iQ hc,iQ (λz=>hc ⟨z.1.1,z.1.2,z.2⟩)];rfl
   ·rw[iQ hn,oz ⋯,oz ⋯];simp only[ca,decide_eq_true_eq];by_cases hc:0<=jq (fg w.a p) (fg w.b w.a)/\jq (fg w.a p) (fg w.b w.a)<=jq (fg q p) (fg w.b w.a)/\0<=jq (fg w.a p) (fg q p)/\jq (fg w.a p) (fg q p)<=jq (fg q p) (fg w.b w.a)
    ·rw[jN hc,jN ⟨⟨hc.1,hc.2.1⟩,hc.2.2⟩];rfl
    ·rw[iQ hc,iQ (λz=>hc ⟨z.1.1,z.1.2,z.2⟩)];rfl
theorem Pn {q:vj}{w:Wall}{x:Int×Int}(h:Ih p q w=aa x):0<x.2:=by
 unfold Ih at h;simp only at h;split at h
 ·rename_i b;split at h
  ·split at h
   ·cases h;show 0< -_;omega
   ·cases h
  ·split at h
   ·cases h;show 0<jq _ _;omega
   ·cases h
 ·split at h
  ·split at h
   ·cases h;decide
   ·cases h
  ·rename_i a;split at h
   ·cases h
   ·split at h
    ·cases h
    ·cases h;exact Fp a
theorem Nz (ws:List Wall)(p q:vj):blocked ws p q=ws.any λw=>(Ih p q w).isSome:=by
 unfold blocked;congr 1;funext w;rw[Ii,ge]
theorem A9 {k m:Nat}(h:m<128):Kr k m=[m]:=by
 cases k with
 |zero=>show[m%128]=[m];rw[fi h]
 |succ k=>show(if m<128 then[m] else _)=[m];rw[jN h]
theorem Em {k m:Nat}(h:128<=m):Kr (k+1) m=(m%128+128)::Kr k (m/128):=by
 show(if m<128 then[m] else _)=_
 rw[iQ ⋯]
structure Wr (n:Nat)(row:List Nat)(m:Nat):Prop where
 ex:∃k,row++Kr k m=num n/\m<128^(k+1)/\row.length+k=9
theorem Wr.start (h:n<2^70):Wr n [] n:=⟨9,rfl,h,rfl⟩
theorem Wr.turn {m:Nat}(w:Wr n row m)(h:128<=m):Wr n (row++[m%128+128]) (m/128):=by
 let(k,e,a,b):=w.ex
 cases k with
 |zero=>exact aB a (by simp;omega)
 |succ k=>
  exact(k,?_,?_,by simp;omega)
  ·rw[Em h] at e;rw[g0];exact e
  ·rw[fW] at a;exact u7 (by rw[kq];exact a)
theorem Wr.done {m:Nat}(w:Wr n row m)(h:m<128):row++[m]=num n:=by
 let(k,e,_,_):=w.ex;rw[A9 h] at e;exact e
theorem Wr.len {m:Nat}(w:Wr n row m):row.length<=9:=by
 let(k,_,_,a):=w.ex;omega
theorem En (k:Nat):∀m,(Kr k m).length<=k+1:=by
 induction k with
 |zero=>intro m;exact aH _
 |succ k a=>
  intro m;show(if m<128 then[m] else(m%128+128)::Kr k (m/128)).length<=_
  split
  ·simp
  ·have:=a (m/128);simp;omega
theorem RD (n:Nat):(num n).length<=10:=En 9 n
def Po (a b:List Int)(i:Nat):List Nat:=(bH i).filter λj=>a.getD j 0 !=b.getD j 0
theorem RE (a b:List Int):ko a b=Po a b 8:=rfl
theorem Pp (a b:List Int)(i:Nat):Po a b (i+1)=if a.getD i 0≠b.getD i 0 then Po a b i++[i] else Po a b i:=by
 unfold Po;rw[oR,pX];split
 ·rename_i h;rw[dB,jN (by simpa using h)];rfl
 ·rename_i h;rw[dB,iQ (by simpa using h)];simp
theorem O9 (l:List Nat)(i:Nat):maskOf (l++[i])=maskOf l+2^i:=by
 unfold maskOf;rw[qI];rfl
theorem Cj (z:Int):(folded z:Int)=if 0<=z then 2*z else -2*z-1:=by
 unfold folded;split
 ·omega
 ·omega
theorem Pa {z:Int}(h: -2147483647<=z/\z<=2147483647):folded z<2^70:=by
 have:=Cj z;have:(folded z:Int)<2^70:=by
  rw[this];split<;>omega
 omega
end Sp
namespace St
open PySem
variable {i mask fuel j ep:Nat} {owner:Array (Option Nat)} {a S:Addr} {es:Array (Int×ag)} {L:List Int} {o:Obj} {Q:ag->aw->Prop}
def U:Nat->Nat->Nat
 |0,i=>i
 |r+1,i=>U r (5*i+1)
theorem Ij:∀(a b i:Nat),U (a+b) i=U b (U a i)
 |0,b,i=>by rw[nz];rfl
 |a+1,b,i=>by rw[Nat.succ_add];exact Ij a b _
theorem MA:∀k:Nat,∃c d:Nat,c=2*d+1/\∀i,U (2^k) i=i+2^k*c*(4*i+1)
 |0=>⟨1,0,rfl,λi=>by show 5*i+1=i+2^0*1*(4*i+1);rw[Nat.pow_zero];omega⟩
 |k+1=>by
  let(c,d,hc,h):=MA k;exact(c*(1+2^(k+1)*c),d+2^k*c*c,?_,λi=>?_)
  ·rw[fW,Nat.mul_add,Nat.mul_one];generalize 2^k=p;let e:c*(p*2*c)=2*(p*c*c):=by
    rw[kq p 2,DQ 2 p c,Nat.mul_left_comm c 2,kq c (p*c)]
   rw[e,Nat.mul_add];omega
  ·rw[fW,Nat.mul_two,Ij,h,h];generalize 2^k=p
   grind
theorem KO {c d:Nat}(h:c=2*d+1):∃e,c*(4*i+1)=2*e+1:=by
 subst h;exact(d*(4*i+1)+2*i,by grind)
theorem NA (k i:Nat):U (2^k) i%2^(k+1)=(i+2^k)%2^(k+1):=by
 let(c,d,hc,h):=MA k;let(e,a):=KO (i:=i) hc;rw[h,DQ,a,fW];have:i+2^k*(2*e+1)=(i+2^k)+2^k*2*e:=by grind
 rw[this,Nat.add_mul_mod_self_left]
theorem MB (r i m:Nat):U r (i%m)%m=U r i%m:=by
 induction r generalizing i with
 |zero=>show i%m%m=i%m;rw[Nat.mod_mod]
 |succ r a=>
  show U r (5*(i%m)+1)%m=U r (5*i+1)%m;rw[<-a (5*(i%m)+1),<-a (5*i+1)];congr 2;rw[HF,Nat.mul_mod,Nat.mod_mod,<-Nat.mul_mod,<-HF]
theorem Ik:∀(k i j:Nat),∃r,r<2^k/\U r i%2^k=j%2^k
 |0,i,j=>⟨0,by decide,by rw[Nat.pow_zero,Nat.mod_one,Nat.mod_one]⟩
 |k+1,i,j=>by
  let(r,l,h):=Ik k i j;let o:0<2^k:=Nat.two_pow_pos k;by_cases q:U r i%2^(k+1)=j%2^(k+1)
  ·exact(r,by rw[fW];omega,q)
  ·exact(r+2^k,by rw[fW];omega,?_);rw[Ij,NA,fW] at *;generalize U r i=x at *;generalize 2^k=p at *;let c:x%p=(x%(p*2))%p:=(Gu x p 2).symm;let d:j%p=(j%(p*2))%p:=(Gu j p 2).symm;rw[HF];let s:x%(p*2)<p*2:=iN _ ⋯;let u:j%(p*2)<p*2:=iN _ ⋯;rw[c,d] at h;generalize x%(p*2)=a at *;generalize j%(p*2)=b at *;rw[fi (show p<p*2 by omega)];let e:a%p=if a<p then a else a-p:=by
    split
    ·exact fi (by assumption)
    ·rw[xh ⋯,fi ⋯]
   let f:b%p=if b<p then b else b-p:=by
    split
    ·exact fi (by assumption)
    ·rw[xh ⋯,fi ⋯]
   rw[e,f] at h;split at h<;>split at h
   ·exact aB h q
   ·rw[fi ⋯];omega
   ·rw[xh ⋯,fi ⋯];omega
   ·omega
theorem Ab (mask i:Nat):i<=eK mask i:=by
 unfold eK;split<;>omega
theorem Ac (h:i<=mask):eK mask i<=mask:=by
 unfold eK;split<;>omega
abbrev wG (owner:Array (Option Nat))(j:Nat):Prop:=(owner.getD j (aa 0)).isNone=ae
theorem vB (mask:Nat)(owner:Array (Option Nat))(fuel i p:Nat):cC mask owner (fuel+1) i p=match (bH (eK mask i+1-i)).find? λk=>(owner.getD (i+k) (aa 0)).isNone with
  |some k=>aa (i+k)
  |none=>cC mask owner fuel (cV mask i p).1 (cV mask i p).2:=rfl
theorem uM {mask:Nat}{owner:Array (Option Nat)}:∀{fuel i p j:Nat},i<=mask->cC mask owner fuel i p=aa j->j<=mask/\wG owner j
 |0,_,_,_,_,h=>by cases h
 |fuel+1,i,p,j,b,h=>by
  rw[vB] at h;split at h
  ·rename_i k a;cases h;let c:=lT a;let d:=eR a;rw[fM] at d;have:=Ac b;exact(⋯,c)
  ·exact uM (gi (iN _ (jE _))) h
theorem GC {p:Nat}(h:wG owner i):∃j,cC mask owner (fuel+1) i p=aa j:=by
 rw[vB]
 cases e:(bH (eK mask i+1-i)).find? λk=>(owner.getD (i+k) (aa 0)).isNone with
 |some k=>exact(_,rfl)
 |none=>
  rw[pV] at e;have:=e 0 (fM.mpr (by have:=Ab mask i;omega));exact aB h this
theorem Ad {mask:Nat}{owner:Array (Option Nat)}:∀(r i:Nat) (fuel:Nat),r<fuel->wG owner (U r i%(mask+1))->i<=mask->∃j,cC mask owner fuel i 0=aa j
 |_,_,0,h,_,_=>aB h (zS _)
 |0,i,fuel+1,_,h,a=>by
  let e:U 0 i%(mask+1)=i:=fi (by show i<mask+1;omega);rw[e] at h;exact GC h
 |r+1,i,fuel+1,d,h,a=>by
  rw[vB];split
  ·exact(_,rfl)
  ·let b:(cV mask i 0).1=(5*i+1)%(mask+1):=by
    show(i*5+1+0/32)%(mask+1)=_;rw[x8,x9,kq]
   let c:(cV mask i 0).2=0:=x8 32;rw[b,c];exact Ad r _ fuel ⋯ ?_ (gi (iN _ (jE _)));rw[MB];exact h
theorem Ck {mask:Nat}{owner:Array (Option Nat)}{fuel:Nat}(h:∀i,i<=mask->∃j,cC mask owner fuel i 0=aa j):∀(t i p:Nat),i<=mask->p<32^t->∃j,cC mask owner (fuel+t) i p=aa j
 |0,i,p,b,a=>by
  let e:p=0:=by simpa using a
  subst e;exact h i b
 |t+1,i,p,b,a=>by
  show∃j,cC mask owner ((fuel+t)+1) i p=aa j;rw[vB];split
  ·exact(_,rfl)
  ·exact Ck h t _ _ (gi (iN _ (jE _))) ?_;show p/32<32^t;rw[fW] at a;exact u7 (by rw[kq];exact a)
def Eo {k:Nat}(c:mask+1=2^k){a:Nat}(q:a<=mask)(d:wG owner a)(h:Int):
  ∃j,cC mask owner (gg mask) (dv h%(mask+1)) (dv h)=aa j:=by
 let f:dv h<32^13:=by
  unfold dv;let s:(h%(2^64:Int))<2^64:=Int.emod_lt_of_pos _ (by decide);let u:0<=h%(2^64:Int):=Int.emod_nonneg _ (by decide);let l:(32:Nat)^13=2^65:=by decide
  rw[l];omega
 let e:gg mask=(mask+2)+13:=rfl;rw[e];exact Ck (λi o=>?_) 13 _ _ (gi (iN _ (jE _))) f;let(r,p,b):=Ik k i a;rw[<-c] at p b;exact Ad r i _ ⋯ ?_ o;rw[b,fi ⋯];exact d
theorem vC {α β:Type}{f g:α->Option β}:∀{l:List α},(∀a∈l,f a=g a)->l.filterMap f=l.filterMap g
 |[],_=>rfl
 |a::l,h=>by
  rw[hX,hX,h a (aD ..),vC λb c=>h b (au _ c)]
theorem ux {g g':Nat->Option Nat}{j k:Nat}(c:g j=ac)(a:∀i,g' i=if i=j then aa k else g i):∀n,j<n->((bH n).filterMap g').Perm (k::(bH n).filterMap g)
 |0,h=>aB h (zS _)
 |n+1,h=>by
  rw[oR,ui,ui];by_cases q:j=n
  ·subst q;let d:(bH j).filterMap g'=(bH j).filterMap g:=by
    exact vC λi e=>?_
    rw[a,iQ (bn (fM.mp e))]
   let b:[j].filterMap g'=[k]:=by simp[a]
   let f:[j].filterMap g=[]:=by simp[c]
   rw[d,b,f,dM];exact Fa
  ·let b:[n].filterMap g'=[n].filterMap g:=by
    rw[hX,hX,a,iQ (λz=>q z.symm)];rfl
   rw[b];exact(ux c a n ⋯).append_right _
def Fq (mask:Nat)(owner:Array (Option Nat)):List Nat:=(bH (mask+1)).filterMap λj=>owner.getD j ac
def jT (h:j<owner.size)(d:Option Nat):owner.getD j d=owner[j]:=by
 unfold rZ;rw[dif_pos h];rfl
def KP {k:Nat}(d:owner.size=mask+1)(e:j<=mask)(c:wG owner j):(Fq mask (owner.setIfInBounds j (aa k))).Perm (k::Fq mask owner):=by
 let a:j<owner.size:=⋯
 let hn:owner.getD j ac=ac:=by
  have:(owner.getD j (aa 0)).isNone=ae:=c;rw[jT a] at this⊢;exact zT.mp this
 unfold Fq;exact ux hn (λi=>?_) (mask+1) ⋯;by_cases q:i=j
 ·subst q;rw[jN rfl,jT (by rw[gn];exact a)];simp
 ·rw[iQ q];by_cases b:i<owner.size
  ·rw[jT (by rw[gn];exact b),jT b];exact Array.getElem_setIfInBounds_ne b (λz=>q z.symm)
  ·unfold rZ;rw[dif_neg b,dif_neg (by rw[gn];exact b)]
theorem sD {g:Nat->Option Nat}:∀n,(∀i,i<n->(g i).isSome=ae)->((bH n).filterMap g).length=n
 |0,_=>rfl
 |n+1,h=>by
  rw[oR,ui,aQ,sD n λi b=>h i ⋯];let(v,a):=bF.mp (h n (lF n));simp[a]
def Il (a:owner.size=mask+1)(h:(Fq mask owner).length<=mask):∃j,j<=mask/\wG owner j:=by
 apply dW;intro q;have:(Fq mask owner).length=mask+1:=sD (mask+1) λi b=>by
  cases e:(owner.getD i ac) with
  |some v=>rfl
  |none=>
   exact aB ⟨i,⋯,?_⟩ q;show(owner.getD i (aa 0)).isNone=ae;rw[jT ⋯] at e⊢;rw[e];rfl
 omega
abbrev oA (mask:Nat):Option (Array (Option Nat)×Nat)->Int->Option (Array (Option Nat)×Nat):=λa h=>do
  let (owner,k)<-a
  let j<-cC mask owner (gg mask) (dv h%(mask+1)) (dv h)
  pure (owner.setIfInBounds j (aa k),k+1)
theorem Cm {mask e:Nat}(p:mask+1=2^e):∀(b:List Int) (owner:Array (Option Nat)) (k:Nat),owner.size=mask+1->(Fq mask owner).Perm (bH k)->k+b.length<=mask->
  ∃a,b.foldl (oA mask) (aa (owner,k))=aa (a,k+b.length)/\a.size=mask+1/\(Fq mask a).Perm (bH (k+b.length))
 |[],owner,k,c,d,_=>⟨owner,rfl,c,d⟩
 |h::b,owner,k,c,d,r=>by
  rw[aK] at r;let s:(Fq mask owner).length<=mask:=by rw[d.length_eq,g9];omega
  let(z,f,i):=Il c s;let(j,q):=Eo p f i h;let(l,o):=uM (gi (iN _ (jE _))) q;let u:(Fq mask (owner.setIfInBounds j (aa k))).Perm (bH (k+1)):=by
   rw[oR];exact(KP c l o).trans ((x6 k d).trans (Fa (l₁:=[k])))
  let(v,w,x,y):=Cm p b (owner.setIfInBounds j (aa k)) (k+1) (by rw[gn];exact c) u ⋯;exact(v,?_,x,?_)
  ·rw[eX];have:oA mask (aa (owner,k)) h=aa (owner.setIfInBounds j (aa k),k+1):=by
    show(do let j<-cC mask owner (gg mask) (dv h%(mask+1)) (dv h);pure (owner.setIfInBounds j (aa k),k+1))=_
    rw[q];rfl
   rw[this,w,aK];congr 2;omega
  ·rw[aK];rw[show k+(b.length+1)=k+1+b.length by omega];exact y
abbrev uN (a:Array Nat):Prop:=a.toList.Pairwise (· < ·)
def Fs {e:Nat}(o:mask+1=2^e)(finger moves:Nat)(led plain:Bool)(c:Array Int)(s:c.size<=mask):
  ∃t eD,pY mask finger moves led plain c=aa (t,eD)/\eD.toList.Perm (bH c.size)/\uN t.place/\t.place.size=c.size/\t.mask=mask/\t.dummies= #[]/\t.led=led/\t.plain=plain:=by
 let p:(Fq mask (lQ (mask+1) ac)).Perm (bH 0):=by
  have:Fq mask (lQ (mask+1) ac)=[]:=by
   unfold Fq;rw[List.filterMap_eq_nil_iff];intro j q;rw[jT (by rw[Array.size_replicate];exact fM.mp q)];simp
  rw[this];exact iW _
 let(b,l,u,i):=Cm o c.toList (lQ (mask+1) ac) 0 (by simp) p (by rw[aC];omega);rw[nz,aC] at l i;let r:cR mask c=aa b:=by
  unfold cR;have:c.foldl (oA mask) (aa (lQ (mask+1) ac,0))=aa (b,c.size):=by
   rw[<-Array.foldl_toList];exact l
  show pB (·.1) (c.foldl (oA mask) (aa (lQ (mask+1) ac,0)))=aa b;rw[this];rfl
 let' a:=(bH (mask+1)).filterMap λj=>(b.getD j ac).map (j,·)
 let d:a.map (·.2)=Fq mask b:=by
  show((bH (mask+1)).filterMap λj=>(b.getD j ac).map (j,·)).map (·.2)=_;rw[List.map_filterMap];unfold Fq;exact vC λj _=>?_
  cases b.getD j ac<;>rfl
 let f:a.map (·.1)=(bH (mask+1)).filter λj=>(b.getD j ac).isSome:=by
  show((bH (mask+1)).filterMap λj=>(b.getD j ac).map (j,·)).map (·.1)=_;rw[List.map_filterMap,<-List.filterMap_eq_filter];exact vC λj _=>?_
  show pB (·.1) (pB (j,·) (b.getD j ac))=if(b.getD j ac).isSome=ae then aa j else ac
  generalize b.getD j ac=z;cases z<;>rfl
 exact WN {mask,place:=(a.map (·.1)).toArray,dummies:= #[],finger,led,moves,plain} ((a.map (·.2)).toArray) ?_ ?_ ?_ ⟨?_,rfl,rfl,rfl,rfl⟩
 ·unfold pY;rw[r];rfl
 ·show((a.map (·.2)).toArray).toList.Perm _;rw[iU,d];exact i
 ·show((a.map (·.1)).toArray).toList.Pairwise _;rw[iU,f];exact(List.pairwise_lt_range).sublist iT
 ·show((a.map (·.1)).toArray).size=_;have:a.length=c.size:=by
   have:=congrArg mz d;rw[aj] at this;rw[this,i.length_eq,g9]
  simp[this]
def oB {α:Type}{es:Array α}{eD:Array Nat}(h:eD.toList.Perm (bH es.size)):(eD.filterMap (es[·]?)).toList.Perm es.toList:=by
 rw[DR];exact(h.filterMap _).trans ?_;rw[filterMap_getElem?_range]
theorem uy {n:Nat}:∀(fuel a:Nat),∃b,fE n fuel (2^a)=2^b
 |0,a=>⟨a,rfl⟩
 |fuel+1,a=>by
  unfold fE;split
  ·rw[<-fW];exact uy fuel (a+1)
  ·exact(a,rfl)
theorem vD:∀(fuel a n:Nat),n<2^(a+fuel)->n<fE n fuel (2^a)
 |0,a,n,h=>h
 |fuel+1,a,n,h=>by
  unfold fE;split
  ·rw[<-fW];exact vD fuel (a+1) n (by rw[Nat.add_right_comm];exact h)
  ·omega
theorem vE:∀(fuel a n:Nat),2^a<=2*n+8->fE n fuel (2^a)<=2*n+8
 |0,a,n,h=>h
 |fuel+1,a,n,h=>by
  unfold fE;split
  ·rw[<-fW];exact vE fuel (a+1) n (by rw[fW];omega)
  ·exact h
def oZ {n:Nat}(h:n<2^60):(∃e,cE n=2^e)/\n<cE n/\cE n<=2*n+8:=by
 unfold cE;exact(uy 64 3,vD 64 3 n ?_,vE 64 3 n ⋯);exact bQ h (HG (by decide) (by decide))
theorem rE (n:Nat):∀(fuel a:Nat),8<=a->8<=fE n fuel a
 |0,a,h=>h
 |fuel+1,a,h=>by
  unfold fE;split
  ·exact rE n fuel _ ⋯
  ·exact h
def vF (n:Nat):8<=cE n:=rE n 64 8 (aH _)
theorem yD {a:Array Nat}(h:uN a)(b:i<j)(c:j<a.size):a[i]<a[j]:=by
 have:=BV.mp h i j (by rw[aC];omega) (by rw[aC];exact c) b;simpa using this
theorem yE {a:Array Nat}(h:uN a){j:Nat}:∀(fuel lo b:Nat),b-lo<=fuel->lo<=b->b<=a.size->(∀i (c:i<a.size),i<lo->a[i]<j)->(∀i (c:i<a.size),b<=i->j<=a[i])->
  n6 a j fuel lo b<=a.size/\(∀i (c:i<a.size),i<n6 a j fuel lo b->a[i]<j)/\∀i (c:i<a.size),n6 a j fuel lo b<=i->j<=a[i]
 |0,lo,b,s,o,d,f,l=>by
  let e:lo=b:=⋯
  subst e;exact(d,f,l)
 |fuel+1,lo,b,s,o,d,f,l=>by
  unfold n6;split
  ·rename_i u;let r:(lo+b)/2<a.size:=⋯
   let v:a.getD ((lo+b)/2) j=a[(lo+b)/2]:=by unfold rZ;rw[dif_pos r];rfl
   simp only;rw[v];split
   ·rename_i p;exact yE h fuel _ b ⋯ ⋯ d (λi c w=>?_) l;by_cases q:i=(lo+b)/2
    ·subst q;exact p
    ·exact tO (yD h ⋯ r) p
   ·rename_i p;exact yE h fuel lo _ ⋯ ⋯ ⋯ f λi c x=>?_
    by_cases q:i=(lo+b)/2
    ·subst q;omega
    ·have:=yD h (show(lo+b)/2<i by omega) c;omega
  ·let e:lo=b:=⋯
   subst e;exact(d,f,l)
def m6 {a:Array Nat}(h:uN a)(j:Nat):aV a j<=a.size/\(∀i (b:i<a.size),i<aV a j->a[i]<j)/\∀i (b:i<a.size),aV a j<=i->j<=a[i]:=by
 unfold aV;exact yE h a.size 0 a.size ⋯ (aR _) (aH _) (λi b h=>aB h (zS _)) λi b h=>aB b ⋯
def yF {a:Array Nat}(h:uN a)(c:i<a.size):aV a (a[i]+1)=i+1:=by
 let(j,d,e):=m6 h (a[i]+1);apply dW;intro q;by_cases f:aV a (a[i]+1)<=i
 ·have:=e i c f;omega
 ·let b:i+1<a.size:=⋯
  have:=d (i+1) b ⋯;have:=yD h (show i<i+1 by omega) b;omega
def yG {a:Array Nat}(h:uN a):aV a 0=0:=by
 let(c,b,_):=m6 h 0;apply dW;intro q;have:=b 0 ⋯ ⋯;omega
def sE {α:Type}(xs:Array α)(p:Nat)(x:α):(dJ xs p x).toList=xs.toList.take p++x::xs.toList.drop p:=by
 rw[ah.toList_insertAt]
def Ep {a:Array Nat}(h:uN a)(s:a[aV a j]?≠aa j):uN (dJ a (aV a j) j):=by
 let(x,u,e):=m6 h j;show(dJ a (aV a j) j).toList.Pairwise _;rw[sE];let r:a.toList.Pairwise (· < ·):=h;exact List.pairwise_append.mpr ⟨r.sublist (xH _ _),a7.mpr ⟨λb f=>?_,r.sublist (List.drop_sublist _ _)⟩,λb f c hc=>?_⟩
 ·let(i,l,rfl):=gJ.mp f;rw[bC,aC] at l;rw[List.getElem_drop,n8];let d:aV a j+i<a.size:=⋯
  have:=e _ d ⋯;by_cases q:j=a[aV a j+i]
  ·exfalso;by_cases v:i=0
   ·subst v;apply s;rw[cA ⋯];simp only[x9] at q;rw[<-q]
   ·let o:aV a j<a.size:=⋯
    let y:=e _ o (aH _);let z:=yD h (show aV a j<aV a j+i by omega) d;omega
  ·omega
 ·let(i,l,rfl):=gJ.mp f;rw[cO,aC] at l;rw[List.getElem_take,n8];let p:=u i ⋯ ⋯;rcases az.mp hc with rfl|hc
  ·exact p
  ·let(k,w,rfl):=gJ.mp hc;rw[bC,aC] at w;rw[List.getElem_drop,n8];have:=e (aV a j+k) ⋯ ⋯;omega
structure lB (t:ah):Prop where
 ris:uN t.place
 dum:t.dummies= #[]
def oC {t:ah}(h:lB t)(j:Nat):t.slot j≠.dummy:=by
 unfold pZ;simp only;split
 ·intro q;cases q
 ·rw[h.dum];have:l9 #[] j=af:=by
   unfold l9;simp
  rw[this];simp
theorem Cn {t:ah}(h:lB t){hashAt:Nat->Int}{hh:Int}:∀(fuel:Nat) (p:bT) (j:Nat) (d:Option Nat),p.dummy=ac->bV t hashAt hh fuel p=aa (.empty j d)->d=ac/\t.slot j=.empty
 |0,p,j,d,_,e=>by cases e
 |fuel+1,p,j,d,a,e=>by
  unfold bV at e;split at e
  ·rename_i b;cases e;exact(a,b)
  ·rename_i b;exact aB b (oC h p.j)
  ·split at e
   ·cases e
   ·exact Cn h fuel _ j d ?_ e;unfold wD;split
    ·exact a
    ·exact a
def yH {t:ah}(h:lB t){hh:Int}{b:Bool}(e:t.freeSlot hh=aa (j,b)):b=af/\t.place[aV t.place j]?≠aa j:=by
 unfold vk at e;split at e
 ·rename_i c d i;let(rfl,a):=Cn h _ _ c d rfl i;let f:=a6 e;let l:c=j:=congrArg xI f;let o:af=b:=congrArg qa f;exact(o.symm,?_);rw[<-l];intro q;unfold pZ at a;simp only at a;rw[jN (by rw[q];simp)] at a;cases a
 ·cases e
def Im {t:ah}(h:lB t)(a:t.place[aV t.place j]?≠aa j):lB (t.put j).1:=by
 exact(Ep h.ris a,?_);show(if l9 t.dummies j=ae then _ else t.dummies)= #[]
 rw[h.dum];have:l9 #[] j=af:=by
  unfold l9;simp
 rw[this];rfl
theorem Cp {t:ah}(h:lB t):∀n,(∀j,j<n->t.place[aV t.place j]?=aa j)->aV t.place n=n
 |0,_=>yG h.ris
 |n+1,b=>by
  let c:=Cp h n λj d=>b j ⋯
  let e:=b n (lF n);rw[c] at e;let(a,e):=gU.mp e;have:=yF h.ris a;rw[e] at this;exact this
def GD {t:ah}(h:lB t)(a:t.place.size<=t.mask):∃j,j<=t.mask/\t.slot j=.empty:=by
 apply dW;intro q;have:=Cp h (t.mask+1) λj b=>by
  apply dW;intro z;exact q ⟨j,⋯,?_⟩;unfold pZ;simp only;rw[iQ (by simpa using z),h.dum]
  have:l9 #[] j=af:=by
   unfold l9;simp
  rw[this];rfl
 let c:=(m6 h.ris (t.mask+1)).1;omega
abbrev Er (t:ah)(p:bT):bT:={p with j:=(cV t.mask p.i p.perturb).1,more:=eK t.mask (cV t.mask p.i p.perturb).1-(cV t.mask p.i p.perturb).1,i:=(cV t.mask p.i p.perturb).1,perturb:=(cV t.mask p.i p.perturb).2}
abbrev yI (x:Option ah.Met):Prop:=∃j d,x=aa (.empty j d)
def yJ {t:ah}{hh:Int}{p:bT}(h:t.slot p.j=.empty):yI (bV t (λ_=>hh+1) hh (fuel+1) p):=by
 exact(p.j,p.dummy,?_);unfold bV;rw[h]
def Ba {t:ah}{hh:Int}{p:bT}(hT:lB t)(h:t.slot p.j≠.empty):bV t (λ_=>hh+1) hh (fuel+1) p=bV t (λ_=>hh+1) hh fuel (t.advance p):=by
 conv=>lhs;unfold bV
 cases e:t.slot p.j with
 |empty=>exact aB e h
 |dummy=>exact aB e (oC hT p.j)
 |live i=>
  simp only;rw[iQ (by simp;omega)]
theorem Es {t:ah}{hh:Int}(hT:lB t):∀(m fuel:Nat) (p:bT),p.more=m->yI (bV t (λ_=>hh+1) hh (fuel+m+1) p)\/bV t (λ_=>hh+1) hh (fuel+m+1) p=bV t (λ_=>hh+1) hh fuel (Er t p)
 |0,fuel,p,a=>by
  by_cases q:t.slot p.j=.empty
  ·exact .inl (yJ q)
  ·exact .inr ?_;rw[x9,Ba hT q];unfold wD;rw[iQ ⋯]
 |m+1,fuel,p,a=>by
  by_cases q:t.slot p.j=.empty
  ·exact .inl (yJ q)
  ·rw[Ba hT q];let e:t.advance p={p with j:=p.j+1,more:=m}:=by
    unfold wD;rw[jN ⋯,a];rfl
   rw[e];exact Es hT m fuel {p with j:=p.j+1,more:=m} rfl
def yK (mask i:Nat):eK mask i-i<=9:=by
 unfold eK;split<;>omega
theorem Ft {t:ah}{hh:Int}(hT:lB t):∀(r F:Nat) (p:bT),p.j=p.i->p.more<=9->p.perturb=0->p.i<=t.mask->t.slot (U r p.i%(t.mask+1))=.empty->10*(r+1)<=F->yI (bV t (λ_=>hh+1) hh F p)
 |0,F,p,d,f,c,l,b,o=>by
  obtain⟨a,rfl⟩:∃a,F=a+1:=⟨F-1,⋯⟩;exact yJ ?_;let e:U 0 p.i%(t.mask+1)=p.i:=fi (by show p.i<t.mask+1;omega);rw[e] at b;rw[d];exact b
 |r+1,F,p,d,f,c,l,b,o=>by
  obtain⟨a,rfl⟩:∃a,F=a+p.more+1:=⟨F-p.more-1,⋯⟩;rcases Es (hh:=hh) hT p.more a p rfl with h|h
  ·exact h
  ·rw[h];let q:(cV t.mask p.i p.perturb).1=(5*p.i+1)%(t.mask+1):=by
    rw[c];show(p.i*5+1+0/32)%(t.mask+1)=_;rw[x8,x9,kq]
   let s:(cV t.mask p.i p.perturb).2=0:=by rw[c];exact x8 32
   exact Ft hT r a (Er t p) rfl (yK _ _) s (gi (iN _ (jE _))) ?_ ⋯;show t.slot (U r (cV t.mask p.i p.perturb).1%(t.mask+1))=.empty;rw[q,MB];exact b
theorem Io {t:ah}{hh:Int}(hT:lB t){B:Nat}(h:∀(F:Nat) (p:bT),p.j=p.i->p.more<=9->p.perturb=0->p.i<=t.mask->B<=F->yI (bV t (λ_=>hh+1) hh F p)):
  ∀(k F:Nat) (p:bT),p.j=p.i->p.more<=9->p.perturb<32^k->p.i<=t.mask->B+10*k<=F->yI (bV t (λ_=>hh+1) hh F p)
 |0,F,p,c,d,a,e,f=>h F p c d (by simpa using a) e ⋯
 |k+1,F,p,c,d,a,e,f=>by
  obtain⟨b,rfl⟩:∃b,F=b+p.more+1:=⟨F-p.more-1,⋯⟩;rcases Es (hh:=hh) hT p.more b p rfl with h'|h'
  ·exact h'
  ·rw[h'];exact Io hT h k b (Er t p) rfl (yK _ _) ?_ (gi (iN _ (jE _))) ⋯;show p.perturb/32<32^k;rw[fW] at a;exact u7 (by rw[kq];exact a)
def KQ (h:Int):dv h<32^13:=by
 unfold dv;let b:(h%(2^64:Int))<2^64:=Int.emod_lt_of_pos _ (by decide);let c:0<=h%(2^64:Int):=Int.emod_nonneg _ (by decide);let a:(32:Nat)^13=2^65:=by decide
 rw[a];omega
def uz {t:ah}{e:Nat}(hT:lB t)(l:t.mask+1=2^e)(o:t.place.size<=t.mask)(hh:Int):∃j b,t.freeSlot hh=aa (j,b):=by
 let(q,x,s):=GD hT o;have:yI (t.probe (λ_=>hh+1) hh (t.probeStart hh)):=by
  unfold cH;exact Io hT (B:=10*(t.mask+2)) (λF p u a c v y=>?_) 13 _ _ rfl (yK _ _) (KQ hh) (gi (iN _ (jE _))) ?_
  ·let(r,w,f):=Ik e p.i q;rw[<-l] at w f;exact Ft hT r F p u a c v ?_ ⋯;rw[f,fi ⋯];exact s
  ·show 10*(t.mask+2)+10*13<=10*(t.mask+15);omega
 let(j,d,c):=this;unfold vk;rw[c];exact(_,_,rfl)
structure rV (t:ah):Prop where
 ok:lB t
 pow:∃e,t.mask+1=2^e
 big:7<=t.mask
 room:t.place.size*5<t.mask*3
 plain:t.plain=ae
theorem rV.fits {t:ah}(g:rV t){n:Nat}(h:t.place.size=n):t.fits n=ae:=by
 unfold zy lx;rw[g.ok.dum,h];have:=g.room;simp;omega
def qZ (led:Bool):rV (.fresh 0 0 led):=⟨⟨by show([]:List Nat).Pairwise _;exact .nil,rfl⟩,⟨3,rfl⟩,aH _,(by show 0*5<7*3;decide),rfl⟩
def Cq {t:ah}(g:rV t)(l:t.place.size=es.size)(hh:Int)(x:ag):
  lB (zr t es hh x).2.1/\(zr t es hh x).2.1.led=t.led/\(zr t es hh x).2.1.plain=ae/\(zr t es hh x).2.1.mask=t.mask/\(zr t es hh x).2.1.place.size=es.size+1/\(zr t es hh x).2.2.1=af:=by
 let(e,o):=g.pow;let s:=g.room;let u:=g.big;let(j,b,f):=uz g.ok o ⋯ hh;let(rfl,p):=yH g.ok f;let q:(zr t es hh x)=(dJ es (t.put j).2 (hh,x),(t.put j).1.orStandIn (dJ es (t.put j).2 (hh,x)).size,af,!(t.put j).1.fits (dJ es (t.put j).2 (hh,x)).size):=by
  unfold zr;rw[f]
 let i:=Im g.ok p;let a:(t.put j).1.place.size=es.size+1:=by
  show(dJ t.place (aV t.place j) j).size=_;rw[<-aC,(me t.place _ j).length_eq,aC,oK,l]
 let d:(dJ es (t.put j).2 (hh,x)).size=es.size+1:=by
  rw[<-aC,(me es _ _).length_eq,aC,oK]
 let c:(t.put j).1.fits (es.size+1)=ae:=by
  unfold zy lx;rw[i.dum,a];show(es.size+1==es.size+1&&decide (es.size+1+(#[]:Array Nat).size<=t.mask))=ae;simp;omega
 let r:(t.put j).1.orStandIn (es.size+1)=(t.put j).1:=by
  unfold ah.orStandIn;rw[jN c]
 rw[q,d,r];exact(i,rfl,g.plain,rfl,a,rfl)
def sF {t:ah}(es:Array (Int×ag)){wanted:Nat}(hw:2*es.size<=wanted)(d:wanted<2^60)(e:t.plain=ae):
  ∃t' eD,t.relaid (es.map (·.1)) wanted=aa (t',eD)/\eD.toList.Perm (bH es.size)/\rV t'/\t'.led=t.led/\t'.place.size=es.size/\t'.mask=cE wanted-1:=by
 let((j,p),q,r):=oZ (n:=wanted) d;let v:8<=cE wanted:=vF wanted;let l:(cE wanted-1)+1=2^j:=⋯
 let(t',eD,s,o,u,f,a,b,i,c):=Fs l t.finger (t.movedTo (cE wanted-1)) t.led t.plain (es.map (·.1)) (by rw[pH];omega);rw[pH] at o f;exact(t',eD,s,o,⟨⟨u,b⟩,⟨j,by rw[a];exact l⟩,by rw[a];omega,by rw[a,f];omega,by rw[c,e]⟩,i,f,a)
def zH {t:ah}(hn:es.size<4096)(b:t.plain=ae):rV (n9 t es (eC es.size)).2.1/\(n9 t es (eC es.size)).2.1.led=t.led/\(n9 t es (eC es.size)).2.1.place.size=es.size:=by
 let l:eC es.size=es.size*4:=by
  unfold eC;rw[iQ ⋯]
 let(d,eD,i,e,g,j,f,_):=sF (t:=t) es (wanted:=eC es.size) ⋯ ⋯ b;let a:=oB (es:=es) e;let c:(eD.filterMap (es[·]?)).size=es.size:=by rw[<-aC,a.length_eq,aC]
 let hc:(coversAll eD es.size&&d.fits (eD.filterMap (es[·]?)).size)=ae:=by
  rw[ca];exact(?_,by rw[c];exact g.fits f);unfold coversAll;exact List.isPerm_iff.mpr e
 have:n9 t es (eC es.size)=(eD.filterMap (es[·]?),d,af):=by
  unfold n9;rw[i];dsimp only;rw[jN hc]
 rw[this];exact(g,j,f)
def nm:ag->Int
 | .int n _=>n
 |_=>0
abbrev zI (w:World):Bool:=w.params.followText "set-order"
def iI (prog:aO)(w:World)(h:Heap)(a:Addr)(L:List Int):Prop:=
 ∃o es ep t,h.get? a=aa o/\o.ExactSet/\o.data=.set es ep t/\xJ (intKind prog w) es.toList/\es.toList.map (λe=>nm e.2)=L/\L.Nodup/\es.size<fB/\rV t/\t.place.size=es.size/\
  (zI w=ae\/t.led=ae)
section
variable {prog:aO} {w:World} {A:b0} {E:ag->aw->Prop} {s:aw}
def yL {es:List (Int×ag)}(h:xJ (intKind prog w) es){e:Int×ag}(b:e∈es):∃t,e.2=.int (nm e.2) t/\e.1=pC (nm e.2):=by
 let((k,c,d),_):=h e b;let(t,a):=qt (show oe k e.2=ae from c);exact(t,by rw[a];rfl,by rw[a,d];rfl)
def iI.len {h:Heap}(x:iI prog w h a L):L.length<fB:=by
 let(o,es,ep,t,_,_,_,_,e,_,b,_):=x;rw[<-e,aj,aC];exact b
def iI.keep {h h':Heap}(x:iI prog w h a L)(k:∀o,h.get? a=aa o->h'.get? a=aa o):iI prog w h' a L:=by
 let(o,es,ep,t,b,r):=x;exact WD o es ep t ⟨k o b,r⟩
def iI.typeIs (x:iI prog w s.heap a L):s.TypeIs (.ref a) "set":=by
 let(o,es,ep,t,b,c,_):=x;exact(o,b,c.1)
def MC (h:Heap)(a:Addr)(n:Nat):Prop:=∀o es ep t,h.get? a=aa o->o.data=.set es ep t->n*5<t.mask*3
def Ip {t:ah}{wanted:Nat}{Q:Unit->aw->Prop}(u:s.heap.get? a=aa o)(D:o.ExactSet)(r:o.data=.set es ep t)(v:xJ (intKind prog w) es.toList)(H:es.toList.map (λe=>nm e.2)=L)(hN:L.Nodup)(I:es.size<fB)(z:rV t)(x:t.place.size=es.size)(i:zI w=ae\/t.led=ae){n:Nat}(hw:2*es.size<=wanted)(hn:2*n=wanted)(J:wanted<=20000)(h:∀h' B,bO a s.heap h'->iI prog w h' a B->B.Perm L->MC h' a n->Q () {s with heap:=h'}):a8 (bd prog w) A (setRelay a wanted) Q E s:=by
 let(_,M,N):=oZ (n:=wanted) ⋯;let(c,eD,O,T,Y,y,hs,d):=sF (t:=t) es hw ⋯ z.plain;let b:=oB (es:=es) T;let f:(eD.filterMap (es[·]?)).size=es.size:=by
  rw[<-aC,b.length_eq,aC]
 unfold setRelay;exact ai (dh u r (z.fits x) ?_);dsimp only;rw[iQ (by have:=nI;omega),O];exact ai (m:=(do
  let aa (t,eD):=aa (c,eD)|unsupported "internal:set-table-without-room"
  let j:=eD.filterMap (es[·]?)
  if j.size !=es.size then unsupported "internal:set-table-lost-an-element"
  pure (j,t):Sem (Array (Int×ag)×ah))) ?_
 dsimp only;rw[f];simp only[bne_self_eq_false,bE,if_false];exact aG ?_;dsimp only;let l:(eD.filterMap (es[·]?)).size<fB:=by rw[f];exact I
 exact jP u r ?_ (ly l);let p:(s.heap.update a (fz (eD.filterMap (es[·]?)) c)).get? a=aa {o with data:=.set (eD.filterMap (es[·]?)) (ep+1) c}:=by
  have:=dD (fz (eD.filterMap (es[·]?)) c) u (by rw[nJ _ c r];rfl);rw[nJ _ c r] at this;exact this
 let q:((eD.filterMap (es[·]?)).toList.map (λe=>nm e.2)).Perm L:=by rw[<-H];exact b.map _
 exact h _ _ (cX ..) (WK _ _ (ep+1) c p D rfl (v.perm b) rfl ⟨q.nodup_iff.mpr hN,l,Y,by rw[f];exact hs,?_⟩) q ?_
 ·rw[y];exact i
 ·intro o2 a1 a2 t2 C h2;rw[p] at C;cases C;cases h2;let h8:=vF wanted;rw[d];omega
def Fu {more:Nat}{Q:Unit->aw->Prop}(q:iI prog w s.heap a L)(D:L.length+more<=8192)(h:∀h' r,bO a s.heap h'->iI prog w h' a r->r.Perm L->MC h' a (L.length+more)->Q () {s with heap:=h'}):a8 (bd prog w) A (setRoomFor a more) Q E s:=by
 let(o,es,ep,t,f,y,i,j,u,hN,z,l,b,d):=id q;let e:L.length=es.size:=by rw[<-u,aj,aC]
 unfold setRoomFor;exact ai (dh f i (l.fits b) ?_);dsimp only;unfold ah.roomFor;split
 ·rename_i wn c;split at c
  ·cases c;exact Ip f y i j u hN z l b d (by rw[b];omega) (by rw[b];omega) (by rw[b];omega) h
  ·cases c
 ·rename_i c;exact aG (h s.heap L (oM a s.heap) q (iW _) ?_);intro H B C I v x;rw[f] at v;cases v;rw[i] at x;cases x;split at c
  ·exact(c _ rfl).elim
  ·rename_i p;unfold lx at p;rw[l.ok.dum,b] at p;simp at p;rw[e];omega
def Iq {g:Bool->Sem Unit}(T:∀(b:Bool) (M:aw) (N:Unit->aw->Prop),N () M->a8 (bd prog w) A (g b) N E M){t:ah}(O:s.heap.get? a=aa o)(hex:o.ExactSet)(D:o.data=.set es ep t){c:Array (Int×ag)}{d:ah}(p:xJ (intKind prog w) c.toList)(hN:(c.toList.map (λe=>nm e.2)).Nodup)(j:c.size<fB)(H:d.place.size=c.size)(hT:lB d)(I:∃e,d.mask+1=2^e)(x:7<=d.mask)(y:d.plain=ae)(q:zI w=ae\/d.led=ae){R:Option Bool->aw->Prop}(h:∀h' Q,bO a s.heap h'->iI prog w h' a Q->Q.Perm (c.toList.map (λe=>nm e.2))->R (aa ae) {s with heap:=h'}):
  a8 (bd prog w) A (do
      Md a c d
      if(!af&&d.tooFull)=ae then do
         g (n9 d c (eC c.size)).2.2
         Md a (n9 d c (eC c.size)).1 (n9 d c (eC c.size)).2.1
         pure (aa ae)
       else pure (aa ae)) R E s:=by
 exact ai (jP O D ?_ (ly j));let u:(s.heap.update a (fz c d)).get? a=aa {o with data:=.set c (ep+1) d}:=by
  have:=dD (fz c d) O (by rw[nJ c d D];rfl);rw[nJ c d D] at this;exact this
 let r:=cX s.heap a (fz c d);split
 ·let v:=relayAll_perm d c (eC c.size);let i:=zH (t:=d) (es:=c) j y;generalize Y:n9 d c (eC c.size)=Rl at v i⊢;let(f,C,J):=Rl;dsimp only at v i⊢;let z:f.size=c.size:=by rw[<-aC,v.length_eq,aC]
  let B:f.size<fB:=by rw[z];exact j
  exact ai (T _ _ _ ?_);exact ai (jP u rfl ?_ (ly B));let L:((s.heap.update a (fz c d)).update a (fz f C)).get? a=aa {o with data:=.set f (ep+1+1) C}:=
   dD (fz f C) u rfl
  exact aG (h _ (f.toList.map (λe=>nm e.2)) (r.trans (cX _ a _)) (WK _ f _ C L hex rfl (p.perm v) rfl ⟨(v.map _).nodup_iff.mpr hN,B,i.1,by rw[z];exact i.2.2,by rw[i.2.1];exact q⟩) (v.map _))
 ·rename_i l;let hr:d.place.size*5<d.mask*3:=by
   unfold ah.tooFull lx at l;rw[hT.dum] at l;simp at l;exact l
  exact aG (h _ _ r (WK _ c _ d u hex rfl p rfl ⟨hN,j,⟨hT,I,x,hr,y⟩,H,q⟩) (iW _))
def Et {k:Int}{v:ag}:(intKind prog w).is k v=ae↔∃t,v=.int k t:=by
 constructor
 ·exact λh=>qt (show oe k v=ae from h)
 ·intro x';let(t,rfl):=x';exact(by simp[intKind,oe])
def Ir {k:Int}{tk:Tok}{Q:Bool->aw->Prop}(hS:iI prog w s.heap a L)(ab:L.length+1<fB)(h:∀h' i b,bO a s.heap h'->iI prog w h' a i->(∀x,x∈i↔x∈L\/x=k)->i.length<=L.length+1->Q b {s with heap:=h'}):
  a8 (bd prog w) A (zU a (.int k tk) (pC k)) Q E s:=by
 let(o,es,ep,t,ho,hex,hd,l,hL,hN,hb,hg,J,M):=id hS;let hf:=hg.fits J;let b1:L.length=es.size:=by rw[<-hL,aj,aC]
 let bb:es.size+1<fB:=⋯
 let p:(intKind prog w).is k (.int k tk)=ae:=(by simp[intKind,oe]);let v:(iY k tk).scannable=ae:=rfl;let r:∀x,x∈L↔∃e∈es.toList,(intKind prog w).is x e.2=ae:=λx=>by
  rw[<-hL,aM];constructor
  ·intro x';let(e,H,rfl):=x';let(t,ht,_):=yL l H;exact(e,H,Et.mpr ⟨t,ht⟩)
  ·intro x';let(e,H,q):=x';let(t,ht):=Et.mp q;exact(e,H,by rw[ht];rfl)
 unfold zU setAddHashedIn;exact eV (ai (dh ho hd hf ?_));dsimp only;rw[byScan_of v hb l];simp only[↓reduceIte];unfold setAddByScan;exact ai ?_;exact ai (u9 ?_);exact ai (wpAny_setScan_of (knd:=intKind prog w) (k:=k) p ho hd hf l ?_)
 cases hr:List.findIdx? (λe=>(intKind prog w).is k e.2) es.toList with
 |some j=>
  dsimp only;let(hj,as,_):=List.findIdx?_eq_some_iff_getElem.mp hr;let N:k∈L:=(r k).mpr ⟨es.toList[j],rL hj,as⟩;exact aG (aG ?_);exact h s.heap L af (oM a s.heap) hS (λx=>⟨.inl,λq=>q.elim id λe=>e▸N⟩) (oN _)
 |none=>
  dsimp only;let N:k∉L:=λN=>by
   let(e,H,hp):=(r k).mp N;have:=List.findIdx?_eq_none_iff.mp hr e H;rw[hp] at this;exact eG this
  let av:∀(b:Bool) {s₁:aw} {Q':Unit->aw->Prop},Q' () s₁->a8 (bd prog w) A (match b with|true=>rule "set.scan.the-table-gave-way"|false=>pure ()) Q' E s₁:=
   λb s₁ Q' u=>by cases b<;>first|exact aG u|exact u9 u
  let c:=layNew_perm t es (pC k) (.int k tk);let f:=layNew_fits t es (pC k) (.int k tk);let z:=Cq hg J (pC k) (.int k tk);generalize bm:zr t es (pC k) (.int k tk)=LN at c f z⊢;let(d,t1,I,b3):=LN;dsimp only at c f z⊢;rw[Array.toList_push] at c;let O:xJ (intKind prog w) d.toList:=(l.push (x:=.int k tk) p v).perm c;let T:(d.toList.map (λe=>nm e.2)).Perm (L++[k]):=by
   exact(c.map _).trans ?_;rw[bU,hL];exact iW _
  let ax:(d.toList.map (λe=>nm e.2)).Nodup:=by
   exact T.nodup_iff.mpr ?_;rw[qJ];exact(hN,by simp,λx hx y hy=>by rw[dP] at hy;subst hy;exact λe=>N (e▸hx))
  let Y:d.size=es.size+1:=by rw[<-aC,c.length_eq,aQ,aC];rfl
  let a0:d.size<fB:=⋯
  let a1:∀h' i,bO a s.heap h'->iI prog w h' a i->i.Perm (d.toList.map (λe=>nm e.2))->Q ae {s with heap:=h'}:=by
   intro h' i B C D;let u:=D.trans T;exact h h' i ae B C (λx=>?_) (by rw[u.length_eq];simp);rw[u.mem_iff,cF,dP]
  let(k1,k2,k3,k4,k5,k6):=z;subst k6;exact ai (av _ ?_);rw[k3];simp only[if_true];exact ai ?_;rw[hashByValue_scannable 8 v];exact aG ?_;show a8 _ _ ((do
    Md a d t1
    if(!af&&t1.tooFull)=ae then do
       _
       Md a (n9 t1 d (eC d.size)).1 (n9 t1 d (eC d.size)).2.1
       pure (aa ae)
     else pure (aa ae)):Sem (Option Bool)) _ _ _
  exact Iq ?_ ho hex hd O ax a0 (by rw[k5,Y]) k1 (by rw[k4];exact hg.pow) (by rw[k4];exact hg.big) k3 (by rw[k2];exact M) ?_
  ·intro b s₁ Q' u;cases b<;>first|exact aG u|exact u9 u
  ·intro h' i B C D;dsimp only;exact aG (a1 h' i B C D)
end
section
variable {prog:aO} {w:World} {A:b0} {E:ag->aw->Prop} {s:aw}
theorem Bb {α:Type}{a:α->PUnit->Sem (ForInStep PUnit)}{Q:PUnit->aw->Prop}(I:Nat->aw->Prop):∀(xs:List α) (i:Nat) (s:aw),I i s->
  (∀(j:Nat) (x:α) (s:aw),xs[j]?=aa x->I (i+j) s->a8 (bd prog w) A (a x ⟨⟩) (λr s'=>r=.yield ⟨⟩/\I (i+j+1) s') E s)->(∀s,I (i+xs.length) s->Q ⟨⟩ s)->a8 (bd prog w) A (forIn xs PUnit.unit a) Q E s
 |[],i,s,h,_,b=>by
  rw[AU];exact aG (b s h)
 |x::xs,i,s,h,f,b=>by
  rw[List.forIn_cons];exact ai (gy (f 0 x s rfl h) (λr s' l=>?_) λ_ _ e=>e);let(rfl,o):=l;exact Bb I xs (i+1) s' o (λj y c p d=>?_) λc d=>b c ?_
  ·have:=f (j+1) y c (by rw[mB];exact p) (by rw[show i+(j+1)=i+1+j by omega];exact d);rw[show i+(j+1)+1=i+1+j+1 by omega] at this;exact this
  ·rw[aK,show i+(xs.length+1)=i+1+xs.length by omega];exact d
def KD (es:Array ji)(ks:List Int):Prop:=es.toList.map (λe=>nm e.key)=ks/\∀e∈es.toList,∃t,e.key=.int (nm e.key) t/\e.hash=pC (nm e.key)
def Bc:HS (.type "dict") (.type "set")=pure af:=by rw[oh];kernel_rfl
def uO:HS (.type "dict") (.type "frozenset")=pure af:=by rw[oh];kernel_rfl
def sI:HS (.type "set") (.type "set")=pure ae:=by rw[oh];kernel_rfl
def Cr {d:Addr}{id:String}{l:Obj}{c:Array ji}{I:Nat}{ks:List Int}{Q:Unit->aw->Prop}(hS:iI prog w s.heap a L)(r:s.heap.get? d=aa l)(hc:l.cls=.type "dict")(e:l.data=.dict c I)(J:KD c ks)(o:a≠d)(u:(d==iG)=af)(M:L.length+ks.length+1<fB)(h:∀h' p,bO a s.heap h'->iI prog w h' a p->(∀x,x∈p↔x∈L\/x∈ks)->p.length<=L.length+ks.length->Q () {s with heap:=h'}):a8 (bd prog w) A (fQ id a (.ref d)) Q E s:=by
 let a4:ks.length=c.size:=by rw[<-J.1,aj,aC]
 let hT:s.TypeIs (.ref d) "dict":=⟨l,r,hc⟩;unfold fQ gp;exact ai (ai (lW hT Bc ?_));show a8 _ _ (isInstance (bI d) (jF "frozenset")) _ _ _;exact lW hT uO ?_;simp only[bE,if_false];exact ai (zV hT ?_);rw[jN (by decide)];exact ai (u9 ?_);exact ai (m:=dX (.ref d)) (aG ?_);rw[u];simp only[bE,if_false];exact ai (wpAny_dictEpoch r e ?_);exact ai (zW r e ?_);exact ai (Fu hS (by have:fB=4096:=rfl;omega) λh1 L1 v S1 p1 _=>?_);let N:h1.get? d=aa l:=(v.2 d o.symm).trans r;exact ai (zW N e ?_);rw[qb.forIn_eq_forIn_range'];exact ai (Bb (λi s'=>∃h' p,s'={s with heap:=h'}/\bO a s.heap h'/\iI prog w h' a p/\(∀x,x∈p↔x∈L\/x∈ks.take i)/\p.length<=L.length+i) _ 0 _ ?pN ?turn ?done)
 case pN=>exact WN h1 L1 rfl v S1 ⟨λx=>by rw[p1.mem_iff];simp,by rw[p1.length_eq];omega⟩
 case turn=>
  intro j x s2 O x';let(T,L2,rfl,f,Y,H,l2):=x';let(hj,O):=bf.mp O;simp only[pD,wE] at hj;let z:j<c.size:=⋯
  let ex:x=j:=by rw[<-O,List.getElem_range'];show 0+1*j=j;omega
  subst ex;rw[nz] at H l2⊢;let B:T.get? d=aa l:=(f.2 d o.symm).trans r;exact ai (zW B e ?_);rw[cA z];dsimp only;let(t,C,q):=J.2 c[x] (by rw[<-n8];exact rL _);let a1:ks[x]?=aa (nm c[x].key):=by
   rw[<-J.1,bZ,ci,cA z];rfl
  rw[C,q];let a2:L2.length+1<fB:=⋯
  exact ai (eV (Ir Y a2 λh3 L3 b D S3 m3 l3=>?_));let a3:h3.get? d=aa l:=(D.2 d o.symm).trans B;exact ai (wpAny_dictEpoch a3 e ?_);simp only[bne_self_eq_false,bE,if_false];exact aG ⟨rfl,WN h3 L3 rfl (f.trans D) S3 ⟨λy=>?_,⋯⟩⟩;rw[m3,H,xK,a1];simp only[Option.toList_some,cF,dP];exact or_assoc
 case done=>
  intro s2 x';let(T,L2,rfl,f,Y,H,l2):=x';exact aG (h T L2 f Y (λx=>?_) ?_)
  ·rw[H];simp only[pD,wE];rw[kg ⋯]
  ·simp only[pD,wE] at l2;omega
def wH {Q:Bool->aw->Prop}(hT:s.TypeIs (.ref a) "set")(h:Q ae s):a8 (bd prog w) A (gp (.ref a)) Q E s:=by
 unfold gp;exact ai (lW hT sI ?_);show a8 _ _ (pure ae) _ _ _;exact aG h
theorem Fv {α:Type}(next:Nat->Nat):∀(fuel k:Nat) (left:List α) (out:Array α),left.length=fuel->(BW.go next fuel k left out).toList.Perm (out.toList++left)
 |0,k,left,out,h=>by
  let e:left=[]:=jQ.mp h;subst e;show out.toList.Perm (out.toList++[]);rw[dM]
 |fuel+1,k,left,out,h=>by
  let b:next k%left.length<left.length:=iN _ ⋯;unfold BW.go;rw[br b];dsimp only;let c:=Fv next fuel (k+1) (left.eraseIdx (next k%left.length)) (out.push left[next k%left.length]) (by rw[List.length_eraseIdx_of_lt b];omega);exact c.trans ?_;rw[Array.toList_push,g0];exact ip.append_left _ ?_;rw[List.eraseIdx_eq_take_drop_succ];let e:=i8 (next k%left.length) left;rw[fX b] at e;have:=(List.perm_middle (a:=left[next k%left.length]) (l₁:=left.take (next k%left.length)) (l₂:=left.drop (next k%left.length+1))).symm;rw[e] at this;exact this
def GF {α:Type}(next:Nat->Nat)(xs:Array α):(BW next xs).toList.Perm xs.toList:=by
 unfold BW;exact(Fv next xs.size 0 xs.toList #[] (aC ..)).trans (ip.of_eq (by simp))
def eD (w:World)(a:Addr)(ep:Nat)(es:Array (Int×ag)):Array (Int×ag):=if zI w=ae then BW (w.params.setOrder a ep) es else es
def m7 (w:World)(a:Addr)(ep:Nat)(es:Array (Int×ag)):(eD w a ep es).toList.Perm es.toList:=by
 unfold eD;split
 ·exact GF _ _
 ·exact iW _
def uP {t:ah}{Q:Array (Int×ag)->aw->Prop}(j:s.heap.get? a=aa o)(l:o.data=.set es ep t)(i:rV t)(f:t.place.size=es.size)(c:zI w=ae\/t.led=ae)(h:Q (eD w a ep es) s):a8 (bd prog w) A (setWalk a) Q E s:=by
 unfold setWalk va;exact ai (dh j l (i.fits f) ?_);dsimp only;exact ai (ai (jk (aG ?_)));unfold eD at h;by_cases d:zI w=ae
 ·rw[jN d] at h;let b:(bd prog w).w.params.followText "set-order"=ae:=d;rw[b];simp only[if_true];exact ai (jk (aG h))
 ·rw[iQ d] at h;let b:(bd prog w).w.params.followText "set-order"=af:=by
   cases e:(bd prog w).w.params.followText "set-order" with
   |false=>rfl
   |true=>exact aB e d
  rw[b];simp only[bE,if_false];let p:t.led=ae:=c.resolve_left d;show a8 _ _ (if(!t.plain&&decide (es.size>1))=ae then _ else((if(!t.led&&decide (es.size>1))=ae then unsupported "set:maker-not-led" else pure ()) >>= λ_=>pure es)) _ _ _
  rw[i.plain,p];simp only[wv,gu,bE,if_false];exact ai (aG (aG h))
def wI {t:ah}{b:List Addr}{c:Option Addr}{Q:Array (Int×ag)->aw->Prop}(i:s.heap.get? a=aa o)(j:o.data=.set es ep t)(f:rV t)(e:t.place.size=es.size)(d:zI w=ae\/t.led=ae)(h:Q (eD w a ep es) s):a8 (bd prog w) A (setWalkUnseen a b c) Q E s:=by
 unfold setWalkUnseen;exact ai (dh i j (f.fits e) ?_);dsimp only;unfold va;exact ai (ai (jk (aG ?_)));let hc:((bd prog w).w.params.followText "set-order"||(t.led&&t.plain)||decide (es.size<=1))=ae:=by
  rw[f.plain];rcases d with z|z
  ·let l:(bd prog w).w.params.followText "set-order"=ae:=z;rw[l];rfl
  ·rw[z];simp
 rw[jN hc];exact uP i j f e d h
end
section
variable {prog:aO} {w:World} {A:b0} {E:ag->aw->Prop} {s:aw}
def GG (h:∀h',h'.objs.size=s.heap.objs.size+1->(∀b o,s.heap.get? b=aa o->h'.get? b=aa o)->iI prog w h' s.heap.objs.size []->Q (.ref s.heap.objs.size) {s with heap:=h'}):a8 (bd prog w) A (newSet (.type "set")) Q E s:=by
 unfold newSet va;exact ai (ai (jk (aG ?_)));dsimp only;simp only[newObj];exact ai (Me (aG (h _ (dQ _ _) (λb o e=>aE _ e) ?_)));exact WK _ (#[]) 0 _ (aY _ rfl) ⟨rfl,rfl,rfl⟩ rfl (λe a=>by simp at a) rfl ⟨.nil,by decide,qZ _,rfl,?_⟩;show zI w=ae\/(!(bd prog w).w.params.followText "set-order")=ae;by_cases z:zI w=ae
 ·exact .inl z
 ·exact .inr ?_
  cases e:(bd prog w).w.params.followText "set-order" with
  |false=>rfl
  |true=>exact aB e z
def Cs {b:Addr}{La I:List Int}{a1:Sem Unit}{ob:Obj}{Q:Unit->aw->Prop}(hA:iI prog w s.heap a La)(hB:iI prog w s.heap b I)(J:s.heap.get? b=aa ob)(L:a≠b)(c6:La.length+I.length+1<fB)(al:∀(s':aw) (Q':Unit->aw->Prop),s'.heap.get? b=aa ob->Q' () s'->a8 (bd prog w) A a1 Q' E s')(h:∀h' L',bO a s.heap h'->iI prog w h' a L'->(∀x,x∈L'↔x∈La\/x∈I)->L'.length<=La.length+I.length->Q () {s with heap:=h'}):a8 (bd prog w) A (setMerge a b a1) Q E s:=by
 let(o,d,ap,p,ho,d0,ar,C,M,b5,as,f,u,D):=id hB;rw[J] at ho;cases ho;let av:I.length=d.size:=by rw[<-M,aj,aC]
 unfold setMerge;rw[iQ (by simpa using L)]
 exact ai (dh J ar (f.fits u) ?_);dsimp only;by_cases he:d.isEmpty=ae
 ·rw[jN he];have:d.size=0:=by simpa [Array.isEmpty] using he
  let c8:I=[]:=jQ.mp ⋯;exact aG (h s.heap La (oM ..) hA (λx=>by rw[c8];simp) ⋯)
 ·rw[iQ he];let d1:fB=4096:=rfl;exact ai (Fu hA (more:=d.size) ⋯ λh1 L1 N A1 p1 ry=>?_);let b6:h1.get? b=aa ob:=(N.2 b L.symm).trans J;let(oa,ea,ax,c,v,b7,l,cx,cd,d3,d4,B,b8,ay):=id A1;let ce:L1.length=ea.size:=by rw[<-cd,aj,aC]
  let d5:=ry oa ea ax c v l;exact ai (dh (s:={s with heap:=h1}) v l (B.fits b8) ?_)
  dsimp only;unfold ah.road;by_cases hf:(c.fill !=0)=ae
  ·rw[jN hf];dsimp only;exact ai (wI (s:={s with heap:=h1}) b6 ar f u D ?_)
   let O:=m7 w b ap d;let a3:xJ (intKind prog w) (eD w b ap d).toList:=C.perm O;generalize eD w b ap d=H at O a3⊢;let d6:H.toList.length=I.length:=by rw[O.length_eq,aC,av]
   rw[<-lX];exact ai (Bb (λi s'=>∃h' L',s'={s with heap:=h'}/\bO a s.heap h'/\iI prog w h' a L'/\(∀x,x∈L'↔x∈La\/x∈(H.toList.take i).map (λe=>nm e.2))/\L'.length<=La.length+i) H.toList 0 _ ?pN ?turn ?done)
   case pN=>exact WN h1 L1 rfl N A1 ⟨λx=>by rw[p1.mem_iff];simp,by rw[p1.length_eq];omega⟩
   case turn=>
    intro j x s2 hx x';let(h2,L2,rfl,T,S2,m2,l2):=x';rw[nz] at m2 l2⊢;let(hj,d8):=bf.mp hx;let(tk,e1,e2):=yL a3 (bj hx);let(hh,xv):=x;simp only at e1 e2;dsimp only;rw[e2,e1];let cl:L2.length+1<fB:=⋯
    let bk:h2.get? b=aa ob:=(T.2 b L.symm).trans J;exact ai (eV (Ir (s:={s with heap:=h2}) S2 cl λh3 L3 bb bl S3 m3 l3=>?_))
    let a4:h3.get? b=aa ob:=(bl.2 b L.symm).trans bk;exact ai (al {s with heap:=h3} _ a4 ?_)
    exact ai (dh (s:={s with heap:=h3}) a4 ar (f.fits u) ?_)
    dsimp only;simp only[bne_self_eq_false,bE,if_false];exact aG ⟨rfl,WN h3 L3 rfl (T.trans bl) S3 ⟨λy=>?_,⋯⟩⟩;rw[m3,m2,xK,hx];simp only[Option.toList_some,bU,cF,bB,pE,dP,nm];exact or_assoc
   case done=>
    intro s2 x';let(h2,L2,rfl,T,S2,m2,l2):=x';exact aG (h h2 L2 T S2 (λx=>?_) ⋯);rw[m2,nz,cg,(O.map (λe=>nm e.2)).mem_iff,M]
  ·rw[iQ hf];let cm:c.place.size=0:=by
    let z:c.fill=0:=by simpa using hf
    unfold lx at z;omega
   let cn:L1=[]:=jQ.mp ⋯;let a5:La=[]:=by
    have:=p1.length_eq;rw[cn] at this;exact jQ.mp this.symm
   let ab:zI w=ae\/(c.led&&p.led)=ae:=by
    rcases ay with z|z
    ·exact .inl z
    ·rcases D with z'|z'
     ·exact .inl z'
     ·exact .inr (by rw[z,z'];rfl)
   by_cases hr:(c.mask==p.mask&&p.dummies.isEmpty)=ae
   ·rw[jN hr];dsimp only;exact jP (s:={s with heap:=h1}) v l ?_ (ly as)
    let a':(h1.update a (fz d {p with finger:=c.finger,led:=c.led&&p.led,moves:=c.moves,plain:=c.plain&&p.plain})).get? a=aa {oa with data:=.set d (ax+1) {p with finger:=c.finger,led:=c.led&&p.led,moves:=c.moves,plain:=c.plain&&p.plain}}:=by
     have:=dD (fz d {p with finger:=c.finger,led:=c.led&&p.led,moves:=c.moves,plain:=c.plain&&p.plain}) v (by rw[nJ _ _ l];rfl)
     rw[nJ _ _ l] at this;exact this
    exact h _ I (N.trans (cX ..)) (WK _ d _ _ a' b7 rfl C M ⟨b5,as,⟨⟨f.ok.ris,f.ok.dum⟩,f.pow,f.big,f.room,?_⟩,u,ab⟩) (λx=>by rw[a5];simp) ⋯;show(c.plain&&p.plain)=ae;rw[B.plain,f.plain];rfl
   ·rw[iQ hr];dsimp only;let(ex,hex):=B.pow;let Y:d.size*5<c.mask*3:=⋯
    let(t',H,e1,hp,co,hs,q,bm,cq,bu):=Fs hex c.finger c.moves (c.led&&p.led) (c.plain&&p.plain) (d.map (·.1)) (by rw[pH];have:=B.big;omega);rw[pH] at hp hs;let r:=oB (es:=d) hp;let b2:(H.filterMap (d[·]?)).size=d.size:=by rw[<-aC,r.length_eq,aC]
    rw[e1];exact ai (m:=(do
     let aa (t,eD):=aa (t',H)|unsupported "internal:set-table-without-room"
     let bx:=eD.filterMap (d[·]?)
     if bx.size !=d.size then unsupported "internal:set-table-lost-an-element"
     pure (bx,t):Sem (Array (Int×ag)×ah))) ?_
    dsimp only;rw[b2];simp only[bne_self_eq_false,bE,if_false];exact aG ?_;dsimp only;let b':(H.filterMap (d[·]?)).size<fB:=by rw[b2];exact as
    exact jP (s:={s with heap:=h1}) v l ?_ (ly b')
    let a':(h1.update a (fz (H.filterMap (d[·]?)) t')).get? a=aa {oa with data:=.set (H.filterMap (d[·]?)) (ax+1) t'}:=by
     have:=dD (fz (H.filterMap (d[·]?)) t') v (by rw[nJ _ t' l];rfl);rw[nJ _ t' l] at this;exact this
    let b3:((H.filterMap (d[·]?)).toList.map (λe=>nm e.2)).Perm I:=by rw[<-M];exact r.map _
    exact h _ _ (N.trans (cX ..)) (WK _ _ _ t' a' b7 rfl (C.perm r) rfl ⟨b3.nodup_iff.mpr b5,b',⟨⟨co,bm⟩,⟨ex,by rw[q];exact hex⟩,by rw[q];exact B.big,by rw[q,hs];exact Y,by rw[bu,B.plain,f.plain];rfl⟩,by rw[b2];exact hs,by rw[cq];exact ab⟩) (λx=>by rw[b3.mem_iff,a5];simp) (by rw[b3.length_eq];omega)
def Eu (hT:s.TypeIs (.ref a) "set")(h:Q (.type "set") s):a8 (bd prog w) A (vb a) Q E s:=by
 unfold vb;exact ai (lW hT sI (aG h))
def GH (c:iI prog w s.heap a L)(p:L.length+1<fB)(h:∀h' d,(∀b o,s.heap.get? b=aa o->h'.get? b=aa o)->iI prog w h' s.heap.objs.size d->(∀x,x∈d↔x∈L)->d.length<=L.length->Q (.ref s.heap.objs.size) {s with heap:=h'}):a8 (bd prog w) A (nQ a) Q E s:=by
 unfold nQ;exact ai (Eu c.typeIs ?_);exact ai (GG λq r f u=>?_);exact ai (m:=dX (.ref s.heap.objs.size)) (aG ?_);let(o,_,_,_,l,_):=id c;let i:a<s.heap.objs.size:=aW l;exact ai (Cs (s:={s with heap:=q}) (ob:=o) u (c.keep λo e=>f _ _ e) (f _ _ l) (iZ i) (by simpa using p) (λD H _ v=>aG v) λy L2 j z B C=>?_)
 exact aG (h y L2 (λb o e=>?_) z (λx=>by rw[B];simp) (by simpa using C))
 rw[j.2 b (bn (aW e))];exact f _ _ e
def Bd:Mf table "set.__or__"=aa Builtin.«frozenset.__or__»:=Fb (id':= "frozenset.__or__") (by kernel_rfl) rfl (by decide +kernel) (by kernel_rfl)
end
def kO:Slot "set_iterator" "__next__" "set_iterator.__next__":=
 .of (owner:= "set_iterator") (n:= "__next__") (by rw[typeLookup_type,KE];kernel_rfl) (by decide +kernel) (by decide +kernel) (by decide +kernel)
  (by first|exact .inl (by decide +kernel)|exact .inr (by decide +kernel)) (by rw[oh];kernel_rfl)
def vG:Slot "set_iterator" "__iter__" "set_iterator.__iter__":=
 .of (owner:= "set_iterator") (n:= "__iter__") (by rw[typeLookup_type,KE];kernel_rfl) (by decide +kernel) (by decide +kernel) (by decide +kernel)
  (by first|exact .inl (by decide +kernel)|exact .inr (by decide +kernel)) (by rw[oh];kernel_rfl)
def Ct:Manifest.owners.lookup (String.ofList ['r','o','t','a','r','e','t','i','_','t','e','s'].reverse)=aa Manifest.sig_set_iterator:=by kernel_rfl
def uA:Mf table "set_iterator.__next__"=aa Builtin.«set_iterator.__next__»:=entryFor_of_tree (by kernel_rfl)
def zJ:Mf table "set_iterator.__iter__"=aa Builtin.«dict_keyiterator.__iter__»:=Fb (id':= "dict_keyiterator.__iter__") (by kernel_rfl) rfl (by decide +kernel) (by kernel_rfl)
def vH (a:ag):argsOk "set_iterator.__next__" ⟨[a],[]⟩:=by
 unfold argsOk;rw[signature?_of (id:= "set_iterator.__next__") (n:=['_','_','t','x','e','n','_','_']) (o:=['r','o','t','a','r','e','t','i','_','t','e','s']) (by kernel_rfl) Ct];kernel_rfl
def Be (a:ag):argsOk "set_iterator.__iter__" ⟨[a],[]⟩:=by
 unfold argsOk;rw[signature?_of (id:= "set_iterator.__iter__") (n:=['_','_','r','e','t','i','_','_']) (o:=['r','o','t','a','r','e','t','i','_','t','e','s']) (by kernel_rfl) Ct];kernel_rfl
def yM:Mf table "set.__iter__"=aa Builtin.«frozenset.__iter__»:=Fb (id':= "frozenset.__iter__") (by kernel_rfl) rfl (by decide +kernel) (by kernel_rfl)
abbrev qz (slot i n ep:Nat)(S:Addr):Obj:={cls:=.type "set_iterator",data:=.fields #[oj slot,oj i,.ref S,oj n,oj ep]}
section
variable {prog:aO} {w:World} {A:b0} {E:ag->aw->Prop} {s:aw}
def Bf {slot:Nat}{t:ah}{e:Int×ag}{Q:Option (ag×Nat)->aw->Prop}(q:s.heap.get? S=aa o)(r:o.data=.set es ep t)(l:rV t)(d:t.place.size=es.size)(a:zI w=ae\/t.led=ae)(u:zI w=ae\/aV t.place slot=i)(f:(eD w S ep es)[i]?=aa e)(h:∀next,(zI w=ae\/aV t.place next=i+1)->Q (aa (e.2,next)) s):a8 (bd prog w) A (setNext S slot i ep) Q E s:=by
 unfold setNext va;exact ai (dh q r (l.fits d) ?_);dsimp only;exact ai (ai (jk (aG ?_)));by_cases c:zI w=ae
 ·let b:(bd prog w).w.params.followText "set-order"=ae:=c;rw[b];simp only[if_true,bne_self_eq_false,bE,if_false];exact ai (uP q r l d a (aG ?_));rw[f];exact h slot (.inl c)
 ·let b:(bd prog w).w.params.followText "set-order"=af:=by
   cases e:(bd prog w).w.params.followText "set-order" with
   |false=>rfl
   |true=>exact aB e c
  rw[b];simp only[bE,if_false];let v:t.led=ae:=a.resolve_left c;let p:=u.resolve_left c;show a8 _ _ (if(!t.plain&&decide (es.size>1))=ae then _ else((if(!t.led&& !es.isEmpty)=ae then unsupported "set:maker-not-led" else pure ()) >>= λ_=>_)) _ _ _
  rw[l.plain,v];simp only[wv,gu,bE,if_false];exact ai (aG (aG ?_));rw[p];unfold eD at f;rw[iQ c] at f;let(y,x):=gU.mp f;let j:i<t.place.size:=⋯
  rw[f,cA j];exact h _ (.inr (yF l.ok.ris j))
def Cu {slot:Nat}{t:ah}{Q:Option (ag×Nat)->aw->Prop}(p:s.heap.get? S=aa o)(q:o.data=.set es ep t)(j:rV t)(c:t.place.size=es.size)(a:zI w=ae\/t.led=ae)(r:zI w=ae\/aV t.place slot=i)(f:(eD w S ep es)[i]?=ac)(h:Q ac s):a8 (bd prog w) A (setNext S slot i ep) Q E s:=by
 unfold setNext va;exact ai (dh p q (j.fits c) ?_);dsimp only;exact ai (ai (jk (aG ?_)));by_cases d:zI w=ae
 ·let b:(bd prog w).w.params.followText "set-order"=ae:=d;rw[b];simp only[if_true,bne_self_eq_false,bE,if_false];exact ai (uP p q j c a (aG ?_));rw[f];exact h
 ·let b:(bd prog w).w.params.followText "set-order"=af:=by
   cases e:(bd prog w).w.params.followText "set-order" with
   |false=>rfl
   |true=>exact aB e d
  rw[b];simp only[bE,if_false];let u:t.led=ae:=a.resolve_left d;let l:=r.resolve_left d;show a8 _ _ (if(!t.plain&&decide (es.size>1))=ae then _ else((if(!t.led&& !es.isEmpty)=ae then unsupported "set:maker-not-led" else pure ()) >>= λ_=>_)) _ _ _
  rw[j.plain,u];simp only[wv,gu,bE,if_false];exact ai (aG (aG ?_));rw[l];unfold eD at f;rw[iQ d] at f;rw[f];exact h
def KR (w:World)(h:Heap)(I S:Addr)(es:Array (Int×ag))(ep:Nat)(t:ah)(i:Nat):Prop:=
 (∃slot,h.get? I=aa (qz slot i es.size ep S)/\(zI w=ae\/aV t.place slot=i))/\∃o,h.get? S=aa o/\o.data=.set es ep t
def Bg {I:Addr}{t:ah}(x:KR w s.heap I S es ep t i):s.TypeIs (.ref I) "set_iterator":=by
 let((slot,h,_),_):=x;exact(_,h,rfl)
def Iu:HS (.type "StopIteration") (.type "StopIteration")=pure ae:=by rw[oh];kernel_rfl
def GJ (hh:A.handled=ac)(I S:Addr)(x:S≠I)(es:Array (Int×ag))(ep:Nat)(t:ah)(u:rV t)(c:t.place.size=es.size)(d:zI w=ae\/t.led=ae):
  Walks prog w A I [I,S] [I] es.size (λi v=>∃e,(eD w S ep es)[i]?=aa e/\v=e.2) (λi h=>KR w h I S es ep t i) where
 sub:=λb p=>by simp at p;simp[p]
 frame:=λi h M st B=>by
  let((slot,f,r),o,j,l):=st;exact(⟨slot,B I (by simp) _ f,r⟩,o,B S (by simp) _ j,l)
 item:=λi s Q E N st hQ=>by
  let hT:=Bg st;let((slot,f,r),o,j,l):=st;let y:(eD w S ep es).size=es.size:=by rw[<-aC,(m7 w S ep es).length_eq,aC]
  obtain⟨e,C⟩:∃e,(eD w S ep es)[i]?=aa e:=⟨_,cA ⋯⟩;unfold Fc;exact ai (HH (HU (name:=tR "__next__") hT kO
   (kr kO hT uA ?_ (vH _))))
  unfold Builtin.«set_iterator.__next__»;exact ai (m:=slotArgs "__next__" 0 ⟨[.ref I],[]⟩) (aG ?_);dsimp only;exact ai (wpAny_fieldsOf f rfl ?_);dsimp only;exact ai (ya j l (u.fits c) ?_);simp only[bne_self_eq_false,bE,if_false,oj];exact ai (Bf j l u c d (by simpa using r) (by simpa using C) λnext hn=>?_)
  dsimp only;exact ai (Fd f rfl (by simp) ?_);let D:(s.heap.update I (lY (·.setIfInBounds 0 (oj next)))).get? I=aa (qz next i es.size ep S):=by
   have:=dD (lY (·.setIfInBounds 0 (oj next))) f rfl;exact this
  exact ai (Fd D rfl (by simp) ?_);let J:((s.heap.update I (lY (·.setIfInBounds 0 (oj next)))).update I (lY (·.setIfInBounds 1 (oj ((i:Int)+1))))).get? I=aa (qz next (i+1) es.size ep S):=by
   have:=dD (lY (·.setIfInBounds 1 (oj ((i:Int)+1)))) D rfl;exact this
  let H:=(cX s.heap I (lY (·.setIfInBounds 0 (oj next)))).trans (cX _ I (lY (·.setIfInBounds 1 (oj ((i:Int)+1)))));exact aG ⟨_,rfl,aG (hQ _ _ s.toks ⟨e,C,rfl⟩ ⟨⟨next,J,hn⟩,o,?_,l⟩ λb L p q=>?_)⟩
  ·exact(H.2 S x).trans j
  ·exact(H.2 b (λz=>p (by simp[z]))).trans q
 done:=λs Q E st hQ=>by
  let hT:=Bg st;let((slot,f,r),o,j,l):=st;let y:(eD w S ep es).size=es.size:=by rw[<-aC,(m7 w S ep es).length_eq,aC]
  unfold Fc;exact ai (HH (HU (name:=tR "__next__") hT kO
   (kr kO hT uA ?_ (vH _))))
  unfold Builtin.«set_iterator.__next__»;exact ai (m:=slotArgs "__next__" 0 ⟨[.ref I],[]⟩) (aG ?_);dsimp only;exact ai (wpAny_fieldsOf f rfl ?_);dsimp only;exact ai (ya j l (u.fits c) ?_);simp only[bne_self_eq_false,bE,if_false,oj];exact ai (Cu j l u c d (by simpa using r) (by simpa using DS ⋯) ?_)
  dsimp only;exact ai (Fd f rfl (by simp) ?_);show a8 _ _ (newExc (.type "StopIteration") [] >>= _) _ _ _;exact ai ?_;simp only[newExc,newTuple];exact ai (on ?_ (by size_fits));exact ai (m:=firstArgMember _ _) (wpAny_of_eq (a:=kX) (by first|rfl|(simp only[firstArgMember];rfl)) ?_)
  exact on ?_ (by size_fits);simp only[raiseNew];exact ai (wpAny_handled ?_);rw[show A.in1.handled=ac from hh];exact ai (aG (wpAny_throw ?_));exact ai (lW (T:= "StopIteration") (b:=ae) ⟨_,aY _ rfl,rfl⟩ Iu ?_);exact aG (hQ _ s.toks λb L p q=>?_);exact aE _ (aE _ (((cX ..).2 b (λz=>p (by simp[z]))).trans q))
 self:=λi s Q E st hQ=>by
  let hT:=Bg st;exact wpAny_pyIter_slot hT vG (kr vG hT zJ ?_ (Be _));show a8 _ _ (ret (.ref I)) _ _ s;exact aG ⟨_,rfl,"set_iterator",_,hT,kO.lookup,hQ⟩
end
section
variable {prog:aO} {w:World} {A:b0} {E:ag->aw->Prop} {s:aw}
def Ev {t:ah}(b:s.heap.get? S=aa o)(i:o.ExactSet)(d:o.data=.set es ep t)(c:rV t)(a:t.place.size=es.size)(h:KR w (s.heap.push (qz 0 0 es.size ep S)) s.heap.objs.size S es ep t 0->Q (.ref s.heap.objs.size) {s with heap:=s.heap.push (qz 0 0 es.size ep S)}):a8 (bd prog w) A (BX (.ref S)) Q E s:=by
 let hT:s.TypeIs (.ref S) "set":=⟨o,b,i.1⟩;exact wpAny_pyIter_slot hT F.slot_set_iter (kr F.slot_set_iter hT yM ?_ (F.args_set_iter_1 _));unfold Builtin.«frozenset.__iter__» ck.Frozenset.slot0 ck.Frozenset.sizeOf;exact ai (ai (m:=slotArgs "__iter__" 0 ⟨[.ref S],[]⟩) (aG (aG ?_)));exact ai (ai (ya b d (c.fits a) (aG ?_)));exact ai ?_;unfold setDrawn va;exact ai (dh b d (c.fits a) ?_);dsimp only;exact ai (ai (jk (aG ?_)));exact aG ?_;let e:((!(bd prog w).w.params.followText "set-order")&&(!t.plain&&decide (es.size>1)))=af:=by rw[c.plain];simp
 show a8 _ _ (if((!(bd prog w).w.params.followText "set-order")&&(!t.plain&&decide (es.size>1)))=ae then _ else _) _ _ _
 rw[e];simp only[bE,if_false];exact ai (aG ?_);exact ai (zX b d (c.fits a) ?_);unfold newFields;exact ai ?_;exact on ?_ (by size_fits);let f:(s.heap.push (qz 0 0 es.size ep S)).get? s.heap.objs.size=aa (qz 0 0 es.size ep S):=aY _ rfl;exact aG ⟨_,rfl,WJ "set_iterator" _ ⟨_,f,rfl⟩ kO.lookup (h ⟨⟨0,f,.inr (yG c.ok.ris)⟩,o,aE _ b,d⟩)⟩
def Iv {Q:Bool->aw->Prop}(hT:s.TypeIs (.ref S) "set")(h:Q af s):a8 (bd prog w) A (ww (.ref S)) Q E s:=by
 unfold ww;exact ai (DT hT F.slot_set_len.lookup ?_)
 (generalize a:("set.__len__":String)=c;(fail_if_success (clear a c));wp_delta;rw[show splitId c=aa ("set","__len__") from by subst a;decide +kernel];subst a)
 exact ai (lW (b:=ae) hT sI ?_);rw[iQ (by decide)];dsimp only;rw[jN (by decide +kernel)];exact ai (zV hT (aG h))
def Cv {Q:List ag->aw->Prop}(hh:A.handled=ac)(hS:iI prog w s.heap S L)(h:∀(h':Heap) (tk:Nat) (vs:List ag) (ns:List Int),s.heap.objs.size<=h'.objs.size->(∀b o,s.heap.get? b=aa o->h'.get? b=aa o)->mG vs ns->ns.Perm L->Q vs {s with heap:=h',toks:=tk}):a8 (bd prog w) A (collect (.ref S)) Q E s:=by
 let(o,es,ep,t,ho,N,hd,O,hL,hN,c,hg,x,y):=id hS;let d:S<s.heap.objs.size:=aW ho;let av:L.length=es.size:=by rw[<-hL,aj,aC]
 let hn:es.size<=aI:=ly c;unfold collect;exact ai (wpAny_runValue (kY F.entry_proto_collect ?_));rw[kJ F.plain_proto_collect _];show a8 _ A.in1 (newList [] >>= λl=>again (.builtin "list.__iadd__" ⟨[l,.ref S],[]⟩)) _ _ s;exact ai (on ?_);exact aG ⟨yw F.plain_list_iadd _,kY F.entry_list_iadd ?_⟩;rw[kJ F.plain_list_iadd _];let p:s.heap.objs.size≠S:=iZ d;let h1:xL (.ref s.heap.objs.size) (.ref S)=af:=by simp[xL,p]
 let q:(s.heap.push {cls:=.type "list",data:=.seq ([]:List ag).toArray}).get? S=aa o:=aE _ ho;let T:(s.heap.push {cls:=.type "list",data:=.seq ([]:List ag).toArray}).get? s.heap.objs.size=aa {cls:=.type "list",data:=.seq ([]:List ag).toArray}:=aY _ rfl;let Y:AV {s with heap:=s.heap.push {cls:=.type "list",data:=.seq ([]:List ag).toArray}} (.ref S) "set":=⟨o,q,N.1⟩
 show a8 _ A.in1 (wx (.ref s.heap.objs.size) (.ref S) (.ref s.heap.objs.size)) _ _ _;unfold wx;exact ai (zV Y ?_);rw[iQ (by rw[h1];decide)];exact ai (Ev (s:={s with heap:=s.heap.push {cls:=.type "list",data:=.seq ([]:List ag).toArray}}) q N hd hg x λa0=>?_)
 let f:(s.heap.push {cls:=.type "list",data:=.seq ([]:List ag).toArray}).objs.size=s.heap.objs.size+1:=dQ _ _;let a1:((s.heap.push {cls:=.type "list",data:=.seq ([]:List ag).toArray}).push (qz 0 0 es.size ep S)).get? S=aa o:=aE _ q;let B:((s.heap.push {cls:=.type "list",data:=.seq ([]:List ag).toArray}).push (qz 0 0 es.size ep S)).get? s.heap.objs.size=aa {cls:=.type "list",data:=.seq ([]:List ag).toArray}:=aE _ T;exact ai (eV (Iv (s:={s with heap:=(s.heap.push {cls:=.type "list",data:=.seq ([]:List ag).toArray}).push (qz 0 0 es.size ep S)}) ⟨o,a1,N.1⟩ ?_))
 rw[jN (by decide +kernel)];exact ai (u9 ?_);exact ai ?_;show a8 _ A.in1 (updateSeq s.heap.objs.size (·.push .none) >>= λ_=>updateSeq s.heap.objs.size (·.pop)) _ _ _;exact ai (wpAny_updateSeq B rfl ?_);let C:=dD (dg (·.push kX)) B rfl;exact wpAny_updateSeq C rfl ?_;let a2:=dD (dg (·.pop)) C rfl;let hI:(s.heap.push {cls:=.type "list",data:=.seq ([]:List ag).toArray}).objs.size≠s.heap.objs.size:=⋯
 let a3:A.in1.handled=ac:=by simpa using hh
 let W:=(GJ (prog:=prog) (A:=A.in1) a3 (s.heap.push {cls:=.type "list",data:=.seq ([]:List ag).toArray}).objs.size S (bn (by rw[f];exact ia d)) es ep t hg x y).toS;let r:∀b u,b≠s.heap.objs.size->((s.heap.push {cls:=.type "list",data:=.seq ([]:List ag).toArray}).push (qz 0 0 es.size ep S)).get? b=aa u->
   ((((s.heap.push {cls:=.type "list",data:=.seq ([]:List ag).toArray}).push (qz 0 0 es.size ep S)).update s.heap.objs.size (dg (·.push kX))).update s.heap.objs.size (dg (·.pop))).get? b=aa u:=
  λb u c e=>(mX _ _ (jl c)).trans ((mX _ _ (jl c)).trans e)
 let a4:s.heap.objs.size∉[(s.heap.push {cls:=.type "list",data:=.seq ([]:List ag).toArray}).objs.size,S]:=by
  simp only[az,bc,or_false,not_or];exact(λz=>hI z.symm,p)
 let a5:KR w ((((s.heap.push {cls:=.type "list",data:=.seq ([]:List ag).toArray}).push (qz 0 0 es.size ep S)).update s.heap.objs.size (dg (·.push kX))).update s.heap.objs.size (dg (·.pop))) (s.heap.push {cls:=.type "list",data:=.seq ([]:List ag).toArray}).objs.size S es ep t 0:=by
  let((slot,g1,g2),o',g3,g4):=a0;exact(⟨slot,r _ _ hI g1,g2⟩,o',r _ _ p.symm g3,g4)
 exact aG ⟨yw F.plain_extend_loop _,codeAny_extend_loopS W hn _ a4 _ es.size 0 _ _ _ rfl (aR _) a5 a2 (ItemsOf.nil _) λs' a c' I D i=>?_⟩;show a8 _ A (load s.heap.objs.size >>= _) _ _ s';exact ai (wpAny_load D ?_);let(h',g',d',ab,al):=s';let eg:g'=s.gens:=I.gens;let ed:d'=s.drawn:=I.drawn;let eo:al=s.os:=I.os;subst eg;subst ed;subst eo;exact aG ?_;let bx:(eD w S ep es).size=es.size:=by rw[<-aC,(m7 w S ep es).length_eq,aC]
 let hv:a.toList=(eD w S ep es).toList.map (λe=>e.2):=by
  exact List.ext_getElem? λj=>?_
  rw[ci,bZ,ci]
  cases J:a[j]? with
  |some v=>
   let(e,M,rfl):=i.2 j v J;rw[M];rfl
  |none=>
   let hj:a.size<=j:=Array.getElem?_eq_none_iff.mp J;rw[i.1] at hj;rw[DS ⋯];rfl
 let H:xJ (intKind prog w) (eD w S ep es).toList:=O.perm (m7 w S ep es);let an:∀l:List (Int×ag),xJ (intKind prog w) l->mG (l.map (λe=>e.2)) (l.map (λe=>nm e.2)):=by
  intro l
  induction l with
  |nil=>intro _;exact .nil
  |cons e l ih=>
   intro M;let(tk,J,_):=yL M (aD ..);rw[bB,bB];have:=mG.cons (nm e.2) tk (ih M.tail);rw[<-J] at this;exact this
 exact h h' ab a.toList _ (dY (aW D)) (λb u e=>?_) (by rw[hv];exact an _ H) ?_
 ·let c:b<s.heap.objs.size:=aW e;exact I.heap b u ?_ (r b u (bn c) (aE _ (aE _ e)));simp only[az,bc,or_false,not_or];exact(bn c,bn (by rw[f];exact ia c))
 ·rw[<-hL];exact(m7 w S ep es).map _
end
end St
namespace L2
open PySem PySem.Spec PyProof.Rows
variable {us:List ag} {a b C:Addr} {u:ag} {P:aO} {w:World} {h base:Heap} {t' i:Nat} {ch fp:List Addr} {N ps:List Str} {M:Model} {A:b0} {E:ag->aw->Prop} {e tg:Expr} {s:aw} {pins:List (Addr×Obj)} {pos:Pos} {op:vn} {K:am} {body:List Stmt} {mA mg:Str->Option ag} {kw:List (Str×ag)} {outer:List Env}
abbrev ef:=Sum Int Str
def xl:ef->ag->Bool
 | .inl k,v=>oe k v
 | .inr x,v=>ag.isStrOf x v
def RN (w:World):ef->Int
 | .inl k=>pC k
 | .inr x=>hashStr w x
theorem iP:∀{k:ef} {v:ag},xl k v=ae->(∃i t,k=aA i/\v=iY i t)\/(∃x t,k=vm x/\v=yb x t)
 | .inl i,v,h=>by
   let(t,e):=qt (k:=i) (v:=v) h;exact .inl ⟨i,t,rfl,e⟩
 | .inr x,v,h=>by
   let(t,e):=ag.isStrOf_shape (x:=x) (v:=v) h;exact .inr ⟨x,t,rfl,e⟩
def oO (i:Int)(t:Tok):xl (.inl i) (.int i t)=ae:=by simp[xl,oe]
def GK (x:Str)(t:Tok):xl (.inr x) (.str x t)=ae:=by simp[xl,ag.isStrOf]
def NB (a b:Int):decide ((aA a:ef)=aA b)=(a==b):=by
 by_cases e:a=b
 ·subst e;simp
 ·let h:¬(aA a:ef)=aA b:=λq=>e (fF q)
  rw[decide_eq_false h];exact(beq_eq_false_iff_ne.mpr e).symm
def NC (a b:Str):decide ((vm a:ef)=vm b)=decide (a=b):=by
 by_cases e:a=b
 ·subst e;simp
 ·let h:¬(vm a:ef)=vm b:=λq=>e (vm.inj q)
  rw[decide_eq_false h,decide_eq_false e]
def ND (a:Int)(b:Str):decide ((aA a:ef)=vm b)=af:=decide_eq_false (λq=>nomatch q)
def NE (a:Str)(b:Int):decide ((vm a:ef)=aA b)=af:=decide_eq_false (λq=>nomatch q)
def dF (prog:aO)(w:World):PySem.KeyKind prog w ef where
 is:=xl
 hash:=RN w
 inj:=λv a b l f=>by
  rcases iP l with⟨i,t,rfl,rfl⟩|⟨x,t,rfl,rfl⟩
  ·rcases iP f with⟨j,u,rfl,e⟩|⟨y,u,rfl,e⟩
   ·injection e with c _;rw[c]
   ·exact nomatch e
  ·rcases iP f with⟨j,u,rfl,e⟩|⟨y,u,rfl,e⟩
   ·exact nomatch e
   ·injection e with c _;rw[c]
 byValue:=λk v h=>by
  rcases iP h with⟨i,t,rfl,rfl⟩|⟨x,t,rfl,rfl⟩<;>rfl
 pyHash:=λd h=>by
  rcases iP d with⟨i,t,rfl,rfl⟩|⟨x,t,rfl,rfl⟩
  ·exact wpAny_pyHash_int h
  ·exact wpAny_pyHash_str h
 eqBool:=λo d h=>by
  rcases iP o with⟨i,t,rfl,rfl⟩|⟨x,t,rfl,rfl⟩
  ·rcases iP d with⟨j,u,rfl,rfl⟩|⟨y,u,rfl,rfl⟩
   ·rw[NB] at h;exact wpAny_eqBool_int h
   ·rw[ND] at h;exact fj.int_str i t y u _ _ _ _ h
  ·rcases iP d with⟨j,u,rfl,rfl⟩|⟨y,u,rfl,rfl⟩
   ·rw[NE] at h;exact fj.str_int x t j u _ _ _ _ h
   ·rw[NC] at h;exact wpAny_eqBool_str h
 «strs»:=λk x t v h=>by
  rcases iP h with⟨i,u,rfl,e⟩|⟨y,u,rfl,e⟩
  ·exact nomatch e
  ·injection e with c _
   subst c;cases v<;>rfl
def Cw (prog:aO)(w:World)(i:Int)(t:Tok):(dF prog w).is (.inl i) (.int i t)=ae:=oO i t
def Cy (prog:aO)(w:World)(x:Str)(t:Tok):(dF prog w).is (.inr x) (.str x t)=ae:=GK x t
inductive V where
 |non|bl (b:Bool)|int (i:Int)|str (x:Str)|byt (b:Array UInt8)|flt (b:UInt64)|ref (a:Addr)|ty (n:String)
 deriving DecidableEq
def eA:V->ag->Prop
 | .non,u=>u=kX
 | .bl b,u=>u=r9 b
 | .int i,u=>∃t,u=iY i t
 | .str x,u=>∃t,u=yb x t
 | .byt b,u=>∃t,u=ag.bytes b t
 | .flt b,u=>∃t,u=ag.float b t
 | .ref a,u=>u=bI a
 | .ty n,u=>u=jF n
abbrev eI:List V->List ag->Prop:=a9 eA
theorem eI.length {xs:List V}(r:eI xs us):xs.length=us.length:=cB r
theorem eI.get:∀{xs:List V} {us:List ag} {i:Nat} {x:V},eI xs us->xs[i]?=aa x->∃u,us[i]?=aa u/\eA x u
 |_,_,_,_,.nil,e=>by simp at e
 |_,_,0,_,.cons r _,e=>by simp at e;subst e;exact(_,rfl,r)
 |_,_,i+1,x,.cons _ t,e=>by
  let(u,a,b):=eI.get (i:=i) (x:=x) t (by simpa using e)
  exact(u,by simpa using a,b)
theorem eI.set {x:V}{u:ag}(r:eA x u):∀{xs:List V} {us:List ag} (i:Nat),eI xs us->eI (xs.set i x) (us.set i u)
 |_,_,_,.nil=>.nil
 |_,_,0,.cons _ t=>.cons r t
 |_,_,i+1,.cons q t=>.cons q (eI.set r i t)
theorem eI.append:∀{xs ys:List V} {us ws:List ag},eI xs us->eI ys ws->eI (xs++ys) (us++ws)
 |_,_,_,_,.nil,s=>s
 |_,_,_,_,.cons r t,s=>.cons r (eI.append t s)
theorem eI.take:∀{xs:List V} {us:List ag} (n:Nat),eI xs us->eI (xs.take n) (us.take n)
 |_,_,0,_=>.nil
 |_,_,_+1,.nil=>.nil
 |_,_,n+1,.cons r t=>.cons r (eI.take n t)
theorem eI.drop:∀{xs:List V} {us:List ag} (n:Nat),eI xs us->eI (xs.drop n) (us.drop n)
 |_,_,0,r=>r
 |_,_,_+1,.nil=>.nil
 |_,_,n+1,.cons _ t=>eI.drop n t
def uj:Option V->Option ag->Prop
 |some v,aa u=>eA v u
 |none,ac=>True
 |_,_=>False
def KV {κ:Type}:List (κ×V)->List (κ×ag)->Prop:=a9 λ(p:κ×V) (q:κ×ag)=>p.1=q.1/\eA p.2 q.2
def kV:ef->V
 | .inl i=>.int i
 | .inr x=>.str x
inductive HO where
  |lst (xs:List V)
  |tup (xs:List V)
  |dK (kvs:List (ef×V))|dT (kvs:List (List ef×V))
  |set (S:Int->Bool) (n:Nat)
  |ins (C dx:Addr) (fs:List (Str×V))
  |own (x:Addr)
  |xd (fs:List (Str×V))
  |met (f x:Addr)
  |rng (lo hi:Int)
  |frz (o:Obj) (u:HO)
  |tbl (ps:Array ag)
  |ext (φ:Heap->Prop)
abbrev Hp:=Addr->Option HO
def bD (H:Hp)(a:Addr)(o:HO):Hp:=λb=>if b=a then aa o else H b
variable {H:Hp} {o:HO}
def ak:bD H a o a=aa o:=by unfold bD;rw[jN rfl]
def aF (h:b≠a):bD H a o b=H b:=by unfold bD;rw[iQ h]
def je {u:HO}:bD (bD H a o) a u=bD H a u:=by
 funext b;unfold bD;split<;>rfl
def jf {u:HO}(h:H a=aa o)(h':H b=aa u)(d:o≠u):a≠b:=by
 intro e;subst e;rw[h] at h';exact d (a6 h')
def aL (h:H a=aa o)(h':H b=ac):a≠b:=by
 intro e;subst e;rw[h] at h';cases h'
section
variable (P:aO) (w:World)
def iJ (H:Hp)(h:Heap)(a:Addr):HO->Prop
 | .lst d=>d.length<=aI/\∃(b:List ag) (n:Nat),eI d b/\h.get? a=aa {cls:=.type "list",data:=.seq b.toArray n}
 | .tup d=>d.length<=aI/\∃b:List ag,eI d b/\IsTup h a b.toArray
 | .dK c=>c.length<=aI/\(a==iG)=af/\∃j,KV c j/\h.DictOf (dF P w) a j
 | .dT c=>c.length<=aI/\(a==iG)=af/\∃d:List (List ef×Addr×ag),
   a9 (λ(p:List ef×V) (q:List ef×Addr×ag)=>p.1=q.1/\H q.2.1=aa (.tup (p.1.map kV))/\eA p.2 q.2.2) c d/\
   ∃o l y,h.get? a=aa o/\o.ExactDict/\o.data=.dict l y/\l.toList=d.map (entryOfKey (ur (dF P w)))/\(d.map (·.1)).Nodup
 | .set S n=>h.SetOf (intKind P w) a S n
 | .ins C i e=>H i=aa (.own a)/\e.length<=1000/\i≠a/\h.get? a=aa (jd C i)/\
   ∃mA,h.Ns1 i mA/\(∀f,uj (e.lookup f) (mA f))/\xi mA (e.map (·.1))
 | .own _=>∃o,h.get? a=aa o
 | .xd e=>∃mA,h.Ns1 a mA/\∀f,uj (e.lookup f) (mA f)
 | .rng lo z=>∃t u v,h.get? a=aa {cls:=.type "range",data:=.fields #[.int lo t,.int z u,.int 1 v]}
 | .frz o u=>h.get? a=aa o/\iJ H h a u
 | .tbl ps=>h.get? a=aa {cls:=.none,data:=.fields ps}
 | .met f x=>h.get? a=aa (wy (.ref f) (.ref x))
 | .ext φ=>φ h/\(∃o,h.get? a=aa o)/\∀r s:Heap,φ r->(∀o,r.get? a=aa o->s.get? a=aa o)->φ s
def oE (H:Hp)(h:Heap):Prop:=∀a o,H a=aa o->iJ P w H h a o
end
section
variable {P:aO} {w:World} {H H':Hp} {h h':Heap} {a:Addr} {o:HO}
theorem iJ.lt (x:iJ P w H h a o):a<h.objs.size:=by
 cases o with
 |lst c=>let(_,_,_,_,e):=x;exact aW e
 |tup c=>let(_,_,_,p):=x;exact p.lt
 |dK b=>let(_,_,_,_,o,_,_,e,_):=x;exact aW e
 |dT b=>let(_,_,_,_,o,_,_,e,_):=x;exact aW e
 |set S n=>let(o,_,_,_,e,_):=x;exact aW e
 |ins C i d=>let(_,_,_,e,_):=x;exact aW e
 |own y=>let(_,e):=x;exact aW e
 |xd d=>let(_,(_,_,_,e,_),_):=x;exact aW e
 |rng lo j=>let(_,_,_,e):=x;exact aW e
 |frz l u=>let(e,_):=x;exact aW e
 |tbl ps=>exact aW (show h.get? a=aa _ from x)
 |met f y=>exact aW (show h.get? a=aa _ from x)
 |ext φ=>let(_,(_,e),_):=x;exact aW e
theorem a9.mapP {α β:Type}{F G:α->β->Prop}:∀{l₁:List α} {l₂:List β},a9 F l₁ l₂->(∀a b,F a b->G a b)->a9 G l₁ l₂
 |_,_,.nil,_=>.nil
 |_,_,.cons r t,f=>.cons (f _ _ r) (a9.mapP t f)
theorem iJ.stay (x:iJ P w H h a o)(k:∀b u,(b=a\/H b=aa (.own a))->h.get? b=aa u->h'.get? b=aa u)
  (D:∀b,H b=aa (.own a)->H' b=aa (.own a)) (E:∀b xs,H b=aa (.tup xs)->H' b=aa (.tup xs)):iJ P w H' h' a o:=by
 induction o with
 |lst xs=>let(z,s,n,r,e):=x;exact(z,s,n,r,k _ _ (.inl rfl) e)
 |tup xs=>let(z,s,r,i,e,c):=x;exact(z,s,r,i,k _ _ (.inl rfl) e,c)
 |dK A=>let(z,y,I,r,i,j,l,e,c):=x;exact(z,y,I,r,WC i j l ⟨k _ _ (.inl rfl) e,c⟩)
 |dT A=>
  let(z,y,xs,r,i,j,l,e,c):=x;exact(z,y,xs,a9.mapP r λp q z=>⟨z.1,E _ _ z.2.1,z.2.2⟩,WC i j l ⟨k _ _ (.inl rfl) e,c⟩)
 |set S n=>let(i,j,l,t,e,c):=x;exact WD i j l t ⟨k _ _ (.inl rfl) e,c⟩
 |ins C O J=>
  let(d,z,L,e,mA,(B,j,l,M,c),r):=x;exact(D _ d,z,L,k _ _ (.inl rfl) e,mA,(WC B j l ⟨k _ _ (.inr d) M,c⟩),r)
 |own y=>let(i,e):=x;exact(i,k _ _ (.inl rfl) e)
 |xd J=>let(mA,(B,j,l,e,c),r):=x;exact(mA,(WC B j l ⟨k _ _ (.inl rfl) e,c⟩),r)
 |rng lo Q=>let(t,u,v,e):=x;exact(t,u,v,k _ _ (.inl rfl) e)
 |frz i u N=>let(e,q):=x;exact(k _ _ (.inl rfl) e,N q)
 |tbl ps=>
  let e:h.get? a=aa {cls:=.none,data:=.fields ps}:=x;show h'.get? a=aa {cls:=.none,data:=.fields ps};exact k a _ (.inl rfl) e
 |met f y=>
  let e:h.get? a=aa (wy (.ref f) (.ref y)):=x;show h'.get? a=aa (wy (.ref f) (.ref y));exact k a _ (.inl rfl) e
 |ext φ=>let(p,(o,e),st):=x;exact(st _ _ p λo q=>k _ _ (.inl rfl) q,⟨o,k _ _ (.inl rfl) e⟩,st)
theorem oE.lt (x:oE P w H h)(e:H a=aa o):a<h.objs.size:=(x a o e).lt
def oE.fresh (x:oE P w H h)(e:h.objs.size<=a):H a=ac:=by
 cases q:H a with
 |none=>rfl
 |some u=>exact aB (bQ (x.lt q) e) (gY _)
def oE.kept (x:oE P w H h)(k:∀b u,h.get? b=aa u->h'.get? b=aa u):oE P w H h':=λa o e=>
 (x a o e).stay (λb u _ q=>k b u q) (λ_ q=>q) λ_ _ q=>q
def oE.laid (x:oE P w H h)(k:∀b u,h.get? b=aa u->h'.get? b=aa u)(i:h.objs.size<=a)(d:iJ P w (bD H a o) h' a o):oE P w (bD H a o) h':=λb u e=>by
 let hn:=x.fresh i;by_cases f:b=a
 ·subst f;rw[ak] at e;cases e;exact d
 ·rw[aF f] at e;exact(x b u e).stay (λc v _ q=>k c v q) (λc q=>by rw[aF (aL q hn)];exact q) λc j q=>by rw[aF (aL q hn)];exact q
end
def Rd (H:Hp)(a:Addr)(u:HO):Prop:=H a=aa u\/∃o,H a=aa (.frz o u)
def Rd.ok {u:HO}(r:Rd H a u)(x:oE P w H h):iJ P w H h a u:=by
 rcases r with r|⟨o,r⟩
 ·exact x a u r
 ·let(_,q):=x a _ r;exact q
def KS:Option HO->Prop
 |some (.lst _)=>True
 |some (.dK _)=>True
 |some (.dT _)=>True
 |some (.set _ _)=>True
 |some (.ins _ _ _)=>True
 |some (.ext _)=>True
 |_=>False
section
variable {P:aO} {w:World} {H:Hp} {h h':Heap} {x e:Addr} {o':HO}
def oE.write (B:oE P w H h)(i:KS (H x))(s:e=x\/H e=aa (.own x))(k:∀b u,b≠e->h.get? b=aa u->h'.get? b=aa u)(o:∃u,h'.get? e=aa u)
  (p:iJ P w (bD H x o') h' x o'):oE P w (bD H x o') h':=λb u q=>by
 let d:∀c y,H c=aa (.own y)->c≠x:=λc y r z=>by subst z;rw[r] at i;exact i
 let f:∀c j,H c=aa (.tup j)->c≠x:=λc j r z=>by subst z;rw[r] at i;exact i
 by_cases l:b=x
 ·subst l;rw[ak] at q;cases q;exact p
 ·rw[aF l] at q;by_cases a:b=e
  ·let A:H b=aa (.own x):=by
    rcases s with z|z
    ·exact aB (a.trans z) l
    ·rw[a];exact z
   rw[q] at A;cases A;let(v,C):=o;exact(v,by rw[a];exact C)
  ·exact(B b u q).stay (λc v hc r=>k c v ?_ r) (λc r=>by rw[aF (d c b r)];exact r) λc j r=>by rw[aF (f c j r)];exact r
   rcases hc with rfl|hc
   ·exact a
   ·rintro rfl;rcases s with z|z
    ·exact d c b hc z
    ·rw[hc] at z;cases z;exact l rfl
end
structure Un (fs ex:List Addr)(H H':Hp)(h h':Heap):Prop where
 keep:∀b o,h.get? b=aa o->H b=ac->b∉fs->b∉ex->h'.get? b=aa o
 slot:∀b o,h.get? b=aa o->H b=ac->b∈fs->b∉ex->∃sl,h'.get? b=aa {o with slots:=sl}
 free:∀b o,h.get? b=aa o->H b=ac->b∉ex->H' b=ac
 there:∀b o,h.get? b=aa o->b∉ex->∃o',h'.get? b=aa o'
 tups:∀b xs,H b=aa (.tup xs)->H' b=aa (.tup xs)
 frzs:∀b o u,H b=aa (.frz o u)->H' b=aa (.frz o u)
 tbls:∀b ps,H b=aa (.tbl ps)->∃more,H' b=aa (.tbl (ps++more))
section
variable {fs fs' ex ex':List Addr} {H H1 H2:Hp} {h h1 h2 h':Heap} {a x e:Addr} {o:HO}
def Un.any (u:Un fs ex H H1 h h1){ob:Obj}(q:h.get? b=aa ob)(n:H b=ac)(a:b∉ex):∃d,h1.get? b=aa {ob with slots:=d}:=by
 by_cases c:b∈fs
 ·exact u.slot b ob q n c a
 ·exact(ob.slots,u.keep b ob q n c a)
def Un.kept (k:∀b u,h.get? b=aa u->h'.get? b=aa u):Un fs ex H H h h':=
 ⟨λb a q _ _ _=>k b a q,λb a q _ _ _=>⟨a.slots,k b a q⟩,λ_ _ _ n _=>n,λb a q _=>⟨a,k b a q⟩,λ_ _ q=>q,λ_ _ _ q=>q,λ_ ps q=>⟨#[],by rw[q];simp⟩⟩
def Un.refl:Un fs ex H H h h:=Un.kept λ_ _ q=>q
def Un.laid (k:∀b u,h.get? b=aa u->h'.get? b=aa u)(c:h.objs.size<=a)(hn:H a=ac):Un fs ex H (bD H a o) h h' where
 keep:=λb u q _ _ _=>k b u q
 slot:=λb u q _ _ _=>⟨u.slots,k b u q⟩
 free:=λb u q n _=>by rw[aF (bn (bQ (aW q) c))];exact n
 there:=λb u q _=>⟨u,k b u q⟩
 tups:=λb d q=>by rw[aF (aL q hn)];exact q
 frzs:=λb u d q=>by rw[aF (aL q hn)];exact q
 tbls:=λb ps q=>⟨#[],by rw[aF (aL q hn),q];simp⟩
def Un.write (c:KS (H x))(l:e=x\/H e=aa (.own x))(k:∀b u,b≠e->h.get? b=aa u->h'.get? b=aa u)(d:∃u,h'.get? e=aa u):Un fs ex H (bD H x o) h h':=by
 let i:∀b,H b=ac->b≠x:=λb n z=>by subst z;rw[n] at c;exact c
 let j:∀b,H b=ac->b≠e:=λb n z=>by
  subst z;rcases l with r|r
  ·exact i b n r
  ·rw[n] at r;cases r
 let f:∀b u,H b=aa u->¬KS (aa u)->b≠x:=λb u q nm z=>by subst z;rw[q] at c;exact nm c
 exact⟨λb u q n _ _=>k b u (j b n) q,λb u q n _ _=>⟨u.slots,k b u (j b n) q⟩,λb u q n _=>by rw[aF (i b n)];exact n,λb u q _=>?_,
  λb p q=>by rw[aF (f b _ q λz=>z)];exact q,λb u p q=>by rw[aF (f b _ q λz=>z)];exact q,λb ps q=>⟨#[],by rw[aF (f b _ q λz=>z),q];simp⟩⟩
 by_cases a:b=e
 ·subst a;exact d
 ·exact(u,k b u a q)
end
def RF (h:Heap)(H:Hp):List Addr:=(bH h.objs.size).filter λa=>(H a).isSome
def yN (h:Heap)(H:Hp):Heap:=PySem.W.hideAll h (RF h H)
def GL (h:Heap)(H:Hp):(yN h H).objs.size=h.objs.size:=PySem.W.hideAll_size _ _
def Iw {o:Obj}(e:h.get? b=aa o)(n:H b=ac):(yN h H).get? b=aa o:=
 ut _ e λa=>by
  let q:(H b).isSome=ae:=(cW.mp a).2;rw[n] at q;simp at q
def KU {o:Obj}(e:(yN h H).get? b=aa o):h.get? b=aa o/\H b=ac:=by
 let a:h.get? b=aa o:=PySem.W.of_hideAll (RF h H) e;exact(a,?_)
 cases q:H b with
 |none=>rfl
 |some x=>
  let c:b∈RF h H:=cW.mpr ⟨fM.mpr (aW a),by simp[q]⟩;let z:(yN h H).get? b=ac:=PySem.W.hideAll_none (RF h H) c;rw[z] at e;cases e
structure RG (K:am)(mg:Str->Option ag)(base:Heap):Prop where
 kin:K.In base
 glob:base.Ns eM mg
 blt:∃mb,base.Ns builtinsNs mb/\∀x:Str,x≠ "__name__"->mb x=qK x
 nolimit:base.NoLimit
structure Cx where
 prog:aO
 w:World
 K:am
 mg:Str->Option ag
 base:Heap
 A:b0
 N:List Str
 s_0:aw
 H_0:Hp
 env:Env
 outer:List Env
 stack:List Env
 ex:List Addr
 fn:Str->Bool
 calm:Bool
 pn:List (Addr×Obj)
 xe:ag->aw->Prop
def wJ (l:List Env):List Addr:=l.filterMap (·.frame)
abbrev Cx.fs (X:Cx):List Addr:=wJ X.outer
def MD (a:ku)(x:Str):Prop:=a.names.lookup x=aa .local\/a.names.lookup x=aa .cell\/a.names.lookup x=aa .free
def ME (a:ku)(x:Str):Prop:=a.names.lookup x=aa .local\/a.names.lookup x=aa .cell
def Pq (env:Env)(h:Heap)(m:Str->Option ag)(x:Str)(u:ag):Prop:=
 (env.kindOf x=aa .local/\m x=aa u)\/((env.kindOf x=aa .cell\/env.kindOf x=aa .free)/\∃c,env.cells.lookup x=aa c/\h.IsCell c (aa u))
structure Cx.Ok (X:Cx):Prop where
 mod:RG X.K X.mg X.base
 kind:X.env.scope.kind=.function
 glob:X.env.globals=eM
 blt:X.env.builtins=builtinsNs
 above:X.s_0.heap.objs.size<=X.env.locals
 inj:∀x y c,X.env.cells.lookup x=aa c->X.env.cells.lookup y=aa c->x=y
 has:∀x,(X.env.kindOf x=aa .cell\/X.env.kindOf x=aa .free)->∃c,X.env.cells.lookup x=aa c
 cab:∀x c,X.fn x=ae->X.env.cells.lookup x=aa c->X.s_0.heap.objs.size<=c
 hd:X.calm=ae->X.A.handled=ac
 frames:X.A.frames=aa X.stack
 stk:X.stack=X.outer\/(X.stack=X.env::X.outer/\X.env.frame=aa X.env.locals)
 exf:∀b∈X.ex,b≠X.env.locals/\∀x c,X.env.cells.lookup x=aa c->c≠b
 bs:∀b o,X.base.get? b=aa o->X.s_0.heap.get? b=aa o/\X.H_0 b=ac
 bsz:X.base.objs.size<=X.s_0.heap.objs.size
 noex:∀b o,X.base.get? b=aa o->b∉X.ex
 exfs:∀b∈X.ex,b∉X.fs
 funs:X.s_0.heap.FunFrames X.base X.outer
 frf:∀b∈X.fs,X.H_0 b=ac
structure cz (X:Cx)(pins:List (Addr×Obj))(σ:List (Option V))(H:Hp)(s:aw):Prop where
 ok:X.Ok
 os:s.os=X.s_0.os
 bare:vc s.gens
 base:Un X.fs X.ex X.H_0 H X.s_0.heap s.heap
 loc:∃m,s.heap.Ns X.env.locals m/\∀(i:Nat) (x:Str) (v:V),X.N[i]?=aa x->σ[i]?=aa (aa v)->MD X.env.scope x->∃u,eA v u/\Pq X.env s.heap m x u
 cell:∀x c,X.env.cells.lookup x=aa c->∃v,s.heap.IsCell c v
 free:H X.env.locals=ac
 freeC:∀x c,X.env.cells.lookup x=aa c->H c=ac
 pin:∀p∈X.pn++pins,s.heap.get? p.1=aa p.2/\H p.1=ac/\p.1≠X.env.locals/\p.1∉X.fs/\∀v,p.2.data≠.cell v
 hok:oE X.prog X.w H s.heap
 len:σ.length=X.N.length
variable {v:V}
section
variable {X:Cx} {pins:List (Addr×Obj)} {σ:List (Option V)} {H H':Hp} {s:aw} {h':Heap}
def Cx.Ok.nofr (a:X.Ok){o:Obj}(e:X.base.get? b=aa o):b∉X.fs:=λc=>by
 have:=(a.funs.mem c).1;rw[e] at this;cases this
theorem cz.bs (I:cz X pins σ H s):∀b o,X.base.get? b=aa o->s.heap.get? b=aa o/\H b=ac:=λb o e=>
 ⟨I.base.keep b o (I.ok.bs b o e).1 (I.ok.bs b o e).2 (I.ok.nofr e) (I.ok.noex b o e),I.base.free b o (I.ok.bs b o e).1 (I.ok.bs b o e).2 (I.ok.noex b o e)⟩
def cz.bk (I:cz X pins σ H s):∀b o,X.base.get? b=aa o->s.heap.get? b=aa o:=λb o e=>(I.bs b o e).1
theorem cz.mod (I:cz X pins σ H s):RG X.K X.mg X.base:=I.ok.mod
def cz.kIn (I:cz X pins σ H s):X.K.In s.heap:=I.ok.mod.kin.keeps I.bk
def cz.fr (I:cz X pins σ H s):∃m,Fr X.base X.env.locals s.heap m:=
 let ⟨m,hn,_⟩:=I.loc
 ⟨m,hn,I.bk,bq I.ok.bsz I.ok.above⟩
theorem cz.lt (I:cz X pins σ H s):X.env.locals<s.heap.objs.size:=let ⟨_,hn,_⟩:=I.loc;hn.lt
def cz.sz (I:cz X pins σ H s):X.s_0.heap.objs.size<=s.heap.objs.size:=bq I.ok.above (dY I.lt)
def cz.nofs (I:cz X pins σ H s)(h:s.heap.objs.size<=a):a∉X.fs:=λb=>by
 let(_,o,c,_):=I.ok.funs.mem b;exact aB (bQ (aW c) (bq I.sz h)) (gY _)
def cz.cne (I:cz X pins σ H s):∀x c,X.env.cells.lookup x=aa c->c≠X.env.locals:=λx c e z=>by
 let(v,o,d,f):=I.cell x c e;let(m,(i,j,l,a,b,_),_):=I.loc;rw[z,a] at d;cases d;rw[b] at f;cases f
theorem cz.funs (I:cz X pins σ H s):s.heap.FunFrames X.base X.outer:=by
 let all:∀(l:List Env),(∀b∈wJ l,b∈X.fs)->X.s_0.heap.FunFrames X.base l->s.heap.FunFrames X.base l:=by
  intro l
  induction l with
  |nil=>intro _ _;trivial
  |cons i r j=>
   intro f p;let(q,(L,o,a,hn,u,v),w):=p;let c:L∈X.fs:=f L (by unfold wJ;rw[hX,a];exact aD);let(x,e):=I.base.slot L o u (I.ok.frf L c) c λz=>I.ok.exfs L z c
   exact(q,(WN L _ a hn e v),j (λb d=>f b (by unfold wJ;rw[hX,a];exact au _ d)) w)
 exact all X.outer (λ_ d=>d) I.ok.funs
theorem cz.stack (I:cz X pins σ H s):s.heap.FunFrames X.base X.stack:=by
 rcases I.ok.stk with e|⟨e,a⟩
 ·rw[e];exact I.funs
 ·rw[e];let(m,hn,_):=I.loc;exact .cons (by rw[I.ok.kind];decide) a hn ?_ I.funs;exact Heap.get?_none_of_le (bq I.ok.bsz I.ok.above)
def cz.stkSub (I:cz X pins σ H s):∀b∈wJ X.stack,b∈X.env.locals::X.fs:=λb a=>by
 rcases I.ok.stk with e|⟨e,c⟩
 ·rw[e] at a;exact au _ a
 ·rw[e] at a;unfold wJ at a;rw[hX,c] at a;exact a
def cz.stkFree (I:cz X pins σ H s):∀b∈wJ X.stack,H b=ac:=λb hb=>by
 rcases az.mp (I.stkSub b hb) with e|hb
 ·rw[e];exact I.free
 ·let(_,o,a,_):=I.ok.funs.mem hb;exact I.base.free b o a (I.ok.frf b hb) λz=>I.ok.exfs b z hb
def cz.step {g':Array Mg}{d':Drawn}(I:cz X pins σ H s)(f:∀b∈ch,(b∈X.ex\/X.s_0.heap.objs.size<=b)/\b≠X.env.locals/\(∀x c,X.env.cells.lookup x=aa c->c≠b)/\∀p∈X.pn++pins,p.1≠b)(keep:∀b o,b≠X.env.locals->b∉X.fs->b∉ch->s.heap.get? b=aa o->H b=ac->h'.get? b=aa o)(slot:∀b o,b≠X.env.locals->b∈X.fs->b∉ch->s.heap.get? b=aa o->H b=ac->∃L,h'.get? b=aa {o with slots:=L})(free:∀b o,b∉ch->s.heap.get? b=aa o->H b=ac->H' b=ac)(there:∀b o,b∉ch->s.heap.get? b=aa o->∃o',h'.get? b=aa o')(tups:∀b xs,H b=aa (.tup xs)->H' b=aa (.tup xs))(frzs:∀b o u,H b=aa (.frz o u)->H' b=aa (.frz o u))(tbls:∀b ps,H b=aa (.tbl ps)->∃more,H' b=aa (.tbl (ps++more)))(ns:∀m,s.heap.Ns X.env.locals m->h'.Ns X.env.locals m)(M:oE X.prog X.w H' h')(hg:vc g'):
  cz X pins σ H' {s with heap:=h',gens:=g',drawn:=d',toks:=t'}:=by
 let E:∀b o,X.s_0.heap.get? b=aa o->b≠X.env.locals:=λb o e=>bn (bQ (aW e) I.ok.above)
 let A:∀b o,X.s_0.heap.get? b=aa o->b∉X.ex->b∉ch:=λb o e a C=>by
  rcases(f b C).1 with z|z
  ·exact a z
  ·exact aB (bQ (aW e) z) (gY _)
 let j:∀x c,X.env.cells.lookup x=aa c->∀v,s.heap.IsCell c v->h'.IsCell c v:=λx c e v x'=>V11 x' λo D N=>by
  let y:c∉ch:=λz=>(f c z).2.2.1 x c e rfl
  by_cases hc:c∈X.fs
  ·let(L,q):=slot c o (I.cne x c e) hc y D (I.freeC x c e);exact(_,q,N)
  ·exact(o,keep c o (I.cne x c e) hc y D (I.freeC x c e),N)
 exact(I.ok,I.os,hg,⟨λb o e n C a=>?_,λb o e n C a=>?_,λb o e n a=>?_,λb o e a=>?_,λb xs e=>tups b xs (I.base.tups b xs e),λb o xs e=>frzs b o xs (I.base.frzs b o xs e),λb ps e=>?_⟩,?_,λx c e=>?_,?_,λx c e=>?_,λp Q=>?_,M,I.len)
 ·exact keep b o (E b o e) C (A b o e a) (I.base.keep b o e n C a) (I.base.free b o e n a)
 ·let(L,B):=I.base.slot b o e n C a;let(O,J):=slot b _ (E b o e) C (A b o e a) B (I.base.free b o e n a);exact(O,J)
 ·let(o',B):=I.base.there b o e a;exact free b o' (A b o e a) B (I.base.free b o e n a)
 ·let(o',B):=I.base.there b o e a;exact there b o' (A b o e a) B
 ·let(m1,B):=I.base.tbls b ps e;let(m2,J):=tbls b _ B;exact(m1++m2,by rw[J,Array.append_assoc])
 ·let(m,hn,hl):=I.loc;exact(m,ns m hn,λi x v B J e3=>?_);let(u,r,l):=hl i x v B J e3;exact(u,r,?_);rcases l with l|⟨k,c,e,z⟩
  ·exact .inl l
  ·exact .inr ⟨k,c,e,j x c e _ z⟩
 ·let(v,z):=I.cell x c e;exact(v,j x c e v z)
 ·let(m,(o,_,_,D,_),_):=I.loc;exact free _ o (λz=>(f _ z).2.1 rfl) D I.free
 ·let(v,o,D,N):=I.cell x c e;exact free c o (λz=>(f c z).2.2.1 x c e rfl) D (I.freeC x c e)
 ·let(e,n,T,Y,d):=I.pin p Q;let y:p.1∉ch:=λz=>(f p.1 z).2.2.2 p Q rfl
  exact(keep p.1 p.2 T Y y e n,free p.1 p.2 y e n,T,Y,d)
def cz.un (I:cz X pins σ H s)(u:Un X.fs [] H H' s.heap h')(c:oE X.prog X.w H' h'):cz X pins σ H' {s with heap:=h',toks:=t'}:=by
 let(m,(o,v,x,j,r),_):=id I.loc;let(y,l):=u.any j I.free (by simp);exact I.step (g':=s.gens) (d':=s.drawn) (ch:=[]) (λ_ z=>nomatch z) (λb o _ d _ e n=>u.keep b o e n d (by simp)) (λb o _ d _ e n=>u.slot b o e n d (by simp)) (λb o _ e n=>u.free b o e n (by simp)) (λb o _ e=>u.there b o e (by simp)) u.tups u.frzs u.tbls (λA p=>by
  let(B,f,i,a,q):=p;rw[j] at a;cases a;exact WC _ f i ⟨l,q⟩) c I.bare
def cz.call {g':Array Mg}{d':Drawn}(I:cz X pins σ H s)(u:Un (wJ X.stack) ch H H' s.heap h')(f:oE X.prog X.w H' h')(v:vc g')(a:∀b∈ch,(b∈X.ex\/X.s_0.heap.objs.size<=b)/\b≠X.env.locals/\(∀x c,X.env.cells.lookup x=aa c->c≠b)/\∀p∈X.pn++pins,p.1≠b):
  cz X pins σ H' {s with heap:=h',gens:=g',drawn:=d',toks:=t'}:=by
 let(m,(o,C,D,q,r),_):=id I.loc;let(E,i):=u.any q I.free λz=>(a _ z).2.1 rfl
 exact I.step (ch:=ch) a (λb o i y hc e n=>u.keep b o e n (λz=>(az.mp (I.stkSub b z)).elim i y) hc) (λb o _ _ hc e n=>u.any e n hc) (λb o hc e n=>u.free b o e n hc) (λb o hc e=>u.there b o e hc) u.tups u.frzs u.tbls (λJ A=>by
  let(L,j,l,d,B):=A;rw[q] at d;cases d;exact WC _ j l ⟨i,B⟩) f v
def cz.turned {a:Addr}(I:cz X pins σ H s)(k:∀b o,b≠a->s.heap.get? b=aa o->h'.get? b=aa o)(hn:H a=ac)(f:a≠X.env.locals)(h1:a∈X.ex\/X.s_0.heap.objs.size<=a)(i:∀x c,X.env.cells.lookup x=aa c->c≠a)(j:∀p∈X.pn++pins,p.1≠a):cz X pins σ H {s with heap:=h',toks:=t'}:=by
 let d:∀b u,H b=aa u->b≠a:=λb u e z=>by rw[z,hn] at e;cases e
 exact I.step (g':=s.gens) (d':=s.drawn) (ch:=[a]) (λb l=>?_) (λb o _ _ hc e _=>k b o (λz=>hc (by simp[z])) e) (λb o _ _ hc e _=>⟨o.slots,k b o (λz=>hc (by simp[z])) e⟩) (λ_ _ _ _ n=>n)
  (λb o hc e=>⟨o,k b o (λz=>hc (by simp[z])) e⟩) (λ_ _ e=>e) (λ_ _ _ e=>e) (λb ps e=>⟨#[],by rw[e];simp⟩) (λm w=>?_) (λb u e=>?_) I.bare
 ·let e:b=a:=by simpa using l
  subst e;exact(h1,f,i,j)
 ·let(o,y,A,B,r):=w;exact WC o y A ⟨k _ o (jl f) B,r⟩
 ·exact(I.hok b u e).stay (λc v hc q=>k c v ?_ q) (λ_ q=>q) λ_ _ q=>q
  rcases hc with z|z
  ·rw[z];exact d b u e
  ·exact d c _ z
def cz.tok (I:cz X pins σ H s)(t:Nat):cz X pins σ H {s with toks:=t}:=I.un (h':=s.heap) (t':=t) Un.refl I.hok
theorem cz.kept (I:cz X pins σ H s)(k:∀b u,s.heap.get? b=aa u->h'.get? b=aa u):cz X pins σ H {s with heap:=h',toks:=t'}:=I.un (Un.kept k) (I.hok.kept k)
theorem cz.laid (I:cz X pins σ H s)(k:∀b u,s.heap.get? b=aa u->h'.get? b=aa u)(c:s.heap.objs.size<=a)(d:iJ X.prog X.w (bD H a o) h' a o):
  cz X pins σ (bD H a o) {s with heap:=h',toks:=t'}:=I.un (Un.laid k c (I.hok.fresh c)) (I.hok.laid k c d)
theorem cz.write {x e:Addr}(I:cz X pins σ H s)(d:KS (H x))(f:e=x\/H e=aa (.own x))(k:∀b u,b≠e->s.heap.get? b=aa u->h'.get? b=aa u)(a:∃u,h'.get? e=aa u)(c:iJ X.prog X.w (bD H x o) h' x o):cz X pins σ (bD H x o) {s with heap:=h',toks:=t'}:=I.un (Un.write d f k a) (I.hok.write d f k a c)
def cz.weak {a:List (Option V)}(I:cz X pins σ H s)(c:a.length=σ.length)(w:∀(i:Nat) v,a[i]?=aa (aa v)->σ[i]?=aa (aa v)):cz X pins a H s:=
 ⟨I.ok,I.os,I.bare,I.base,let ⟨m,hn,b⟩:=I.loc;⟨m,hn,λi x v d e f=>b i x v d (w i v e) f⟩,I.cell,I.free,I.freeC,I.pin,I.hok,c.trans I.len⟩
def cz.pins_of {a:List (Addr×Obj)}(I:cz X pins σ H s)(h:∀p∈a,s.heap.get? p.1=aa p.2/\H p.1=ac/\p.1≠X.env.locals/\p.1∉X.fs/\∀v,p.2.data≠.cell v):cz X a σ H s:=
 ⟨I.ok,I.os,I.bare,I.base,I.loc,I.cell,I.free,I.freeC,λp b=>(cF.mp b).elim (λz=>I.pin p (ll _ z)) (h p),I.hok,I.len⟩
def yO (hN:N.Nodup){j:Nat}{x:Str}(a:N[i]?=aa x)(b:N[j]?=aa x):i=j:=by
 let(e,c):=bf.mp a;let(f,d):=bf.mp b;exact(List.getElem_inj hN).mp (c.trans d.symm)
def GN {x:Str}{Q:Unit->aw->Prop}(I:cz X pins σ H s)(hN:X.N.Nodup)(hi:X.N[i]?=aa x)(C:ME X.env.scope x)(r:eA v u)(h:∀s',cz X pins (σ.set i (aa v)) H s'->(∃a,bO a s.heap s'.heap/\(a=X.env.locals\/X.env.cells.lookup x=aa a))->Q () s')(hf:X.fn x=ae\/X.env.scope.names.lookup x=aa .local:=by first|exact .inl rfl|exact .inr rfl|assumption):a8 M A (storeName X.env x u) Q E s:=by
 let(m,hn,hl):=id I.loc;let a1:(X.env.scope.kind== .class||(X.env.scope.kind== .module&&X.env.locals !=X.env.globals))=af:=by rw[I.ok.kind];rfl
 let a2:i<σ.length:=by rw[I.len];exact(bf.mp hi).1
 let L:=I.cne;let l:∀{a:Addr} {h':Heap},(∃o,s.heap.get? a=aa o/\H a=ac)->bO a s.heap h'->oE X.prog X.w H h':=λ{a h'} ha f b ob e=>by
  let(_,_,D):=ha;exact(I.hok b ob e).stay (λc w' hc q=>(f.2 c ?_).trans q) (λ_ q=>q) λ_ _ q=>q
  rintro rfl;rcases hc with rfl|hc
  ·rw[D] at e;cases e
  ·rw[D] at hc;cases hc
 rcases C with hk|hk
 ·exact wpAny_storeName_local hk hn (λh' ar f=>?_) a1;let(oL,_,_,as,_):=id hn;exact h _ ⟨I.ok,I.os,I.bare,⟨λb o e n O C=>?_,λb o e n O C=>?_,I.base.free,λb o e C=>?_,I.base.tups,I.base.frzs,I.base.tbls⟩,⟨_,ar,λj y v' B J e3=>?_⟩,λy c e=>?_,I.free,I.freeC,λp hp=>?_,l ⟨oL,as,I.free⟩ f,by simpa using I.len⟩ ⟨_,f,.inl rfl⟩
  ·exact(f.2 b (bn (bQ (aW e) I.ok.above))).trans (I.base.keep b o e n O C)
  ·let(sl,B):=I.base.slot b o e n O C;exact(sl,(f.2 b (bn (bQ (aW e) I.ok.above))).trans B)
  ·let(o',B):=I.base.there b o e C;exact(o',(f.2 b (bn (bQ (aW e) I.ok.above))).trans B)
  ·by_cases T:j=i
   ·subst T;rw[hi] at B;cases B;rw[mU a2] at J;cases J;exact(u,r,.inl ⟨hk,by simp⟩)
   ·rw[ox (jl T)] at J;let(u',r',q):=hl j y v' B J e3;exact(u',r',?_);rcases q with⟨k,e⟩|⟨k,c,e,z⟩
    ·exact .inl ⟨k,?_⟩;have:y≠x:=λe=>T (yO hN B (e▸hi))
     simp[this,e]
    ·exact .inr ⟨k,c,e,z.sameBut f (L y c e)⟩
  ·let(w',z):=I.cell y c e;exact(w',z.sameBut f (L y c e))
  ·let(e,n,ne,nf,d):=I.pin p hp;exact((f.2 p.1 ne).trans e,n,ne,nf,d)
 ·let Y:X.fn x=ae:=by
   rcases hf with z|z
   ·exact z
   ·rw[z] at hk;cases hk
  let(c,hc):=I.ok.has x (.inl hk);let(w',z):=I.cell x c hc;exact wpAny_storeName_cell I.ok.kind hk hc z (λh' a3 f=>?_);let(oc,a4,a5):=id z;exact h {s with heap:=h'} ⟨I.ok,I.os,I.bare,⟨λb o e n O C=>?_,λb o e n O C=>?_,I.base.free,λb o e C=>?_,I.base.tups,I.base.frzs,I.base.tbls⟩,⟨m,hn.sameBut f (jl (L x c hc)),λj y v' B J e3=>?_⟩,λy c' e=>?_,I.free,I.freeC,λp hp=>?_,l ⟨oc,a4,I.freeC x c hc⟩ f,by simpa using I.len⟩ ⟨c,f,.inr hc⟩
  ·exact(f.2 b (bn (bQ (aW e) (I.ok.cab x c Y hc)))).trans (I.base.keep b o e n O C)
  ·let(sl,B):=I.base.slot b o e n O C;exact(sl,(f.2 b (bn (bQ (aW e) (I.ok.cab x c Y hc)))).trans B)
  ·let(o',B):=I.base.there b o e C;exact(o',(f.2 b (bn (bQ (aW e) (I.ok.cab x c Y hc)))).trans B)
  ·by_cases T:j=i
   ·subst T;rw[hi] at B;cases B;rw[mU a2] at J;cases J;exact(u,r,.inr ⟨.inl hk,c,hc,a3⟩)
   ·rw[ox (jl T)] at J;let(u',r',q):=hl j y v' B J e3;exact(u',r',?_);rcases q with q|⟨k,c',e,z'⟩
    ·exact .inl q
    ·exact .inr ⟨k,c',e,z'.sameBut f ?_⟩;rintro rfl;exact T (yO hN B (I.ok.inj _ _ _ e hc▸hi))
  ·by_cases ab:c'=c
   ·subst ab;exact(_,a3)
   ·let(w2,z2):=I.cell y c' e;exact(w2,z2.sameBut f ab)
  ·let(e,n,ne,nf,d):=I.pin p hp;exact((f.2 p.1 ?_).trans e,n,ne,nf,d);intro q;rw[q,a4] at e;let q':oc=p.2:=a6 e;exact d w' (by rw[<-q'];exact a5)
def vI {x:Str}{Q:Unit->aw->Prop}(I:cz X pins σ H s)(hN:X.N.Nodup)(a:X.N[i]?=aa x)(b:ME X.env.scope x)(r:eA v u)(h:∀s',cz X pins (σ.set i (aa v)) H s'->Q () s')(c:X.fn x=ae\/X.env.scope.names.lookup x=aa .local:=by first|exact .inl rfl|exact .inr rfl|assumption):a8 M A (storeName X.env x u) Q E s:=
 GN I hN a b r (λs' d _=>h s' d) c
def cz.call' {s':aw}(I:cz X pins σ H s)(f:s'.os=s.os)(u:Un (wJ X.stack) ch H H' s.heap s'.heap)(a:oE X.prog X.w H' s'.heap)(i:vc s'.gens)(d:∀b∈ch,(b∈X.ex\/X.s_0.heap.objs.size<=b)/\b≠X.env.locals/\(∀x c,X.env.cells.lookup x=aa c->c≠b)/\∀p∈X.pn++pins,p.1≠b):cz X pins σ H' s':=by
 let(h',g',d',t',j):=s';let e:j=s.os:=f;subst e;exact I.call (g':=g') (t':=t') (d':=d') u a i d
end
abbrev XK:=ag->Option Addr->Hp->Prop
abbrev St:=List (Option V)
abbrev VK:=V->Hp->Prop
abbrev TE:=St->Hp->VK->Prop
abbrev TT:=St->Hp->(Bool->Hp->Prop)->Prop
abbrev TA:=St->Hp->(List V->Hp->Prop)->Prop
structure xW where
 nx:St->Hp->Prop
 rt:VK
 bk:St->Hp->Prop:=λ_ _=>False
 ct:St->Hp->Prop:=λ_ _=>False
abbrev TS:=xW->St->Hp->Prop
def EP (X:Cx)(pins:List (Addr×Obj))(σ:St)(Q:VK)(u:ag)(s':aw):Prop:=∃v a,cz X pins σ a s'/\eA v u/\Q v a
def TP (X:Cx)(pins:List (Addr×Obj))(σ:St)(Q:Bool->Hp->Prop)(b:Bool)(s':aw):Prop:=∃a,cz X pins σ a s'/\Q b a
def AP (X:Cx)(pins:List (Addr×Obj))(σ:St)(Q:List V->Hp->Prop)(us:List ag)(s':aw):Prop:=∃a b,cz X pins σ b s'/\eI a us/\Q a b
def SP (X:Cx)(pins:List (Addr×Obj))(D:xW)(f:Flow)(s':aw):Prop:=
 match f with
 | .next=>∃b a,cz X pins b a s'/\D.nx b a
 | .brk=>∃b a,cz X pins b a s'/\D.bk b a
 | .cont=>∃b a,cz X pins b a s'/\D.ct b a
 | .ret u=>∃v b a,cz X pins b a s'/\eA v u/\D.rt v a
def PE (X:Cx)(e:Expr)(t:TE):Prop:=
 ∀(pins:List (Addr×Obj)) (s:aw) (σ:St) (H:Hp) (Q:VK),cz X pins σ H s->t σ H Q->a8 (bd X.prog X.w) X.A (eval e X.env) (EP X pins σ Q) X.xe s
def PT (X:Cx)(e:Expr)(t:TT):Prop:=
 ∀(pins:List (Addr×Obj)) (s:aw) (σ:St) (H:Hp) (Q:Bool->Hp->Prop),cz X pins σ H s->t σ H Q->a8 (bd X.prog X.w) X.A (isTrue e X.env (eval e X.env)) (TP X pins σ Q) X.xe s
def PW (X:Cx)(e:Expr)(t:TT):Prop:=
 ∀(whole:Sem ag) (pins:List (Addr×Obj)) (s:aw) (σ:St) (H:Hp) (Q:Bool->Hp->Prop),cz X pins σ H s->t σ H Q->a8 (bd X.prog X.w) X.A (isTrue e X.env whole) (TP X pins σ Q) X.xe s
variable {X:Cx}
def PW.pt {t:TT}(h:PW X e t):PT X e t:=h _
def PA (X:Cx)(es:List Expr)(t:TA):Prop:=
 ∀(pos:Pos) (pins:List (Addr×Obj)) (s:aw) (σ:St) (H:Hp) (Q:List V->Hp->Prop),cz X pins σ H s->t σ H Q->a8 (bd X.prog X.w) X.A (spliced (iO pos (bp es X.env))) (AP X pins σ Q) X.xe s
def PS (X:Cx)(st:Stmt)(t:TS):Prop:=
 ∀(pins:List (Addr×Obj)) (s:aw) (σ:St) (H:Hp) (D:xW),cz X pins σ H s->t D σ H->a8 (bd X.prog X.w) X.A (exec st X.env) (SP X pins D) X.xe s
def B5 (X:Cx)(st:List Stmt)(t:TS):Prop:=
 ∀(pins:List (Addr×Obj)) (s:aw) (σ:St) (H:Hp) (D:xW),cz X pins σ H s->t D σ H->a8 (bd X.prog X.w) X.A (execs st X.env) (SP X pins D) X.xe s
def hJ {α:Type}{t:Sem α}{Q b:α->aw->Prop}(h:a8 M A t Q E s)(hQ:∀a s,Q a s->b a s):a8 M A t b E s:=gy h hQ λ_ _ x=>x
variable {σ:St} {R:V->V->Hp->Prop}
section
variable {X:Cx}
def Uj {a b:Expr}{i tb:TE}(j:PE X a i)(l:PE X b tb)(I:cz X pins σ H s)(h:i σ H λx e=>tb σ e λy c=>R x y c){α:Type}{Q:α->aw->Prop}{f:ag->ag->Sem α}(o:∀v u d x y c,cz X pins σ c d->eA x v->eA y u->R x y c->a8 (bd X.prog X.w) X.A (f v u) Q X.xe d):
  a8 (bd X.prog X.w) X.A (eval a X.env) (λv p=>a8 (bd X.prog X.w) X.A (eval b X.env) (λu q=>a8 (bd X.prog X.w) X.A (f v u) Q X.xe q) X.xe p) X.xe s:=by
 exact hJ (j pins s σ H _ I h) λv r x'=>V22 x' λx e z B C=>?_
 exact hJ (l pins r σ e _ z C) λu d x'=>V22 x' λy c D E J=>?_
 exact o v u d x y c D B E J
def xX (i:Nat):TE:=λσ H Q=>∃v,σ[i]?=aa (aa v)/\Q v H
def tC (v:V):TE:=λ_ H Q=>Q v H
def NF {x:Str}(hN:X.N[i]?=aa x)(j:MD X.env.scope x)(d:(x==("__debug__":Str))=af:=by decide)(f:(x==("__classdict__":Str))=af:=by decide):PE X (.Name x pos) (xX i):=by
 intro pins s σ H Q I h;let(v,e,h):=h;let(m,hn,o):=I.loc;let(u,r,l):=o i x v hN e j;let b:EP X pins σ Q u s:=⟨v,H,I,r,h⟩;rcases l with⟨hk,p⟩|⟨hk,c,hc,a⟩
 ·exact wpAny_Name (Mh I.ok.kind hk hn p b) d
 ·rcases hk with hk|hk
  ·exact wpAny_Name (Nt I.ok.kind hk hc a b) d
  ·exact wpAny_Name (wpAny_loadName_free I.ok.kind hk hc a b f) d
def be {i j pos}:PE X (.Constant (.int i) j pos) (tC (.int i)):=λ_ _ _ H _ I h=>wpAny_Constant_int (WJ (.int i) H (I.tok _) ⟨_,rfl⟩ h)
def Ix {b j pos}:PE X (.Constant (.bool b) j pos) (tC (.bl b)):=λ_ _ _ H _ I h=>Constant_bool ⟨.bl b,H,I,rfl,h⟩
def uQ {j pos}:PE X (.Constant .none j pos) (tC .non):=λ_ _ _ H _ I h=>HI ⟨.non,H,I,rfl,h⟩
def wK {x j pos}:PE X (.Constant (.str x) j pos) (tC (.str x)):=λ_ _ _ H _ I h=>Calls.Constant_str (WJ (.str x) H (I.tok _) ⟨_,rfl⟩ h)
def Gl (X:Cx)(x:Str):Prop:=X.env.kindOf x=aa .globalImplicit
def oF {x:Str}{Q:ag->aw->Prop}(I:cz X pins σ H s)(a:Gl X x)(b:X.mg x=aa u)(h:Q u s)(c:(x==("__debug__":Str))=af:=by decide):a8 (bd X.prog X.w) X.A (eval (.Name x pos) X.env) Q E s:=
 zY I.ok.kind a (Calls.loadGlobal_global (by rw[I.ok.glob];exact I.mod.glob.keeps I.bk) b h) c
def uR {x:Str}{Q:ag->aw->Prop}(I:cz X pins σ H s)(a:Gl X x)(b:X.mg x=ac)(c:qK x=aa u)(h:Q u s)(hn:x≠ "__name__":=by decide)(d:(x==("__debug__":Str))=af:=by decide):a8 (bd X.prog X.w) X.A (eval (.Name x pos) X.env) Q E s:=by
 let(i,e,f):=I.mod.blt;exact zY I.ok.kind a (Calls.loadGlobal_builtin (by rw[I.ok.glob];exact I.mod.glob.keeps I.bk) b (by rw[I.ok.blt];exact e.keeps I.bk) ((f x hn).trans c) h) d
def Bh {x:Str}(a:Gl X x)(b:X.mg x=aa u)(r:eA v u)(c:(x==("__debug__":Str))=af:=by decide):PE X (.Name x pos) (tC v):=
 λ_ _ _ H _ I h=>oF I a b ⟨v,H,I,r,h⟩ c
variable {a b:Expr} {ta tb:TE} {pos:Pos}
def PC (X:Cx)(op:vn)(a b:Expr)(t:TE):Prop:=
 ∀(pins:List (Addr×Obj)) (s:aw) (σ:St) (H:Hp) (Q:VK),cz X pins σ H s->t σ H Q->
  a8 (bd X.prog X.w) X.A (eval a X.env) (λv c=>a8 (bd X.prog X.w) X.A (eval b X.env) (λu d=>a8 (bd X.prog X.w) X.A (gh op v u) (EP X pins σ Q) X.xe d) X.xe c) X.xe s
def Cz (b:Expr)(h:op≠.In)(a:op≠.NotIn):lm op b=af:=by
 let c:(op==vn.In)=af:=by cases op<;>first|rfl|exact aB rfl h
 let d:(op==vn.NotIn)=af:=by cases op<;>first|rfl|exact aB rfl a
 cases b<;>simp[lm,c,d]
def RO (ta:TE):TE:=λσ H Q=>ta σ H λx a=>Q (.bl (decide (x=.non))) a
def Pr (ta:TE):TE:=λσ H Q=>ta σ H λx a=>Q (.bl (!decide (x=.non))) a
def eA.none_iff {x:V}{v:ag}(r:eA x v):(v==kX)=decide (x=.non):=by
 cases x with
 |non=>cases r;rfl
 |bl _=>cases r;rfl
 |int _=>let(t,rfl):=r;rfl
 |str _=>let(t,rfl):=r;rfl
 |byt _=>let(t,rfl):=r;rfl
 |flt _=>let(t,rfl):=r;rfl
 |ref _=>cases r;rfl
 |ty _=>cases r;rfl
def m9 {j b}(c:PE X a ta):PC X .Is a (.Constant .none j b) (RO ta):=by
 intro pins s σ H Q I h;exact hJ (c pins s σ H _ I h) λv l x'=>V22 x' λx d e f i=>?_
 exact HI (is_none_gen ⟨.bl _,d,e,by rw[f.none_iff];rfl,i⟩)
def Fw {j b}(c:PE X a ta):PC X .IsNot a (.Constant .none j b) (Pr ta):=by
 intro pins s σ H Q I h;exact hJ (c pins s σ H _ I h) λv l x'=>V22 x' λx d e f i=>?_
 exact HI (isnot_none_gen ⟨.bl _,d,e,by rw[f.none_iff];rfl,i⟩)
def tB (t:TE):TT:=λσ H Q=>t σ H λx a=>∃c,x=.bl c/\Q c a
def NG {t:TE}(h:PC X op a b t)(h1:lm op b=af:=by first|exact Cz _ (by decide) (by decide)|rfl):PE X (.Compare a [op] [b] pos) t:=λpins s σ H Q I hw=>wpAny_Compare1 (h pins s σ H Q I hw) h1
def iu {t:TE}(h:PC X op a b t)(h1:lm op b=af:=by first|exact Cz _ (by decide) (by decide)|rfl):PT X (.Compare a [op] [b] pos) (tB t):=by
 intro pins s σ H Q I hw;exact KG (hJ (h pins s σ H _ I hw) λv o h1=>hJ h1 λu p e=>hJ e λc r x'=>V22 x' λx f i j l=>?_) h1;let(d,rfl,q):=l;cases j;exact gA ⟨f,i,q⟩
def mj {t:TE}(h:PE X e t)(a:∀whole,isTrue e X.env whole=(do let v<-whole;standAt e.pos;D3 [v] (truthy v)):=by intro _;rfl):PT X e (tB t):=by
 intro pins s σ H Q I hw;exact isTrue_plain (hJ (h pins s σ H _ I hw) λv j x'=>V22 x' λx b c f i=>?_) (a _);let(d,rfl,q):=i;cases f;exact gA ⟨b,c,q⟩
variable {tA tB':TT} {rest:List Expr}
def RP (t u:TT):TT:=λσ H Q=>t σ H λc a=>if c=ae then u σ a Q else Q af a
def T3 (t u:TT):TT:=λσ H Q=>t σ H λc a=>if c=ae then Q ae a else u σ a Q
def RQ (t:TT):TT:=λσ H Q=>t σ H λc a=>Q (!c) a
def oG (b:PT X a tA):PW X (.BoolOp .And [a] pos) tA:=by
 intro d pins s σ H Q I h;exact isTrue_and (hJ (b pins s σ H Q I h) λc f e=>?_)
 cases c with
 |true=>exact isTrue_and_nil e
 |false=>exact e
def Ew (b:PT X a tA):PW X (.BoolOp .Or [a] pos) tA:=by
 intro d pins s σ H Q I h;exact isTrue_or (hJ (b pins s σ H Q I h) λc f e=>?_)
 cases c with
 |false=>exact isTrue_or_nil e
 |true=>exact e
def qf (i:PT X a tA)(j:PW X (.BoolOp .And (b::rest) pos) tB'):PW X (.BoolOp .And (a::b::rest) pos) (RP tA tB'):=by
 intro l pins s σ H Q I h;exact isTrue_and (hJ (i pins s σ H _ I h) λc o x'=>V11 x' λd e f=>?_)
 cases c with
 |true=>exact j l pins o σ d Q e f
 |false=>exact(d,e,f)
def Iy (i:PT X a tA)(j:PW X (.BoolOp .Or (b::rest) pos) tB'):PW X (.BoolOp .Or (a::b::rest) pos) (T3 tA tB'):=by
 intro l pins s σ H Q I h;exact isTrue_or (hJ (i pins s σ H _ I h) λc o x'=>V11 x' λd e f=>?_)
 cases c with
 |true=>exact(d,e,f)
 |false=>exact j l pins o σ d Q e f
def nV (b:PT X a tA):PT X (.UnaryOp .Not a pos) (RQ tA):=by
 intro pins s σ H Q I h;exact isTrue_not (b pins s σ H (λc d=>Q (!c) d) I h)
def Ps (ta tb:TE):TE:=λσ H Q=>ta σ H λx a=>∃c,x=.bl c/\if c=ae then tb σ a Q else Q (.bl af) a
def Ex {op}{t:TE}(h:PE X a t):PE X (.BoolOp op [a] pos) t:=λpins s σ H Q I hw=>BoolOp_one (h pins s σ H Q I hw)
def sJ (i:PE X a ta)(j:PE X (.BoolOp .And (b::rest) pos) tb):PE X (.BoolOp .And (a::b::rest) pos) (Ps ta tb):=by
 intro pins s σ H Q I h;exact BoolOp_and (hJ (i pins s σ H _ I h) λv l x'=>V22 x' λx e f o d=>?_);let(c,rfl,d):=d;cases o;exact gA ?_
 cases c with
 |true=>exact j pins l σ e Q f d
 |false=>exact(.bl af,e,f,rfl,d)
def T4 (t:TT)(ta tb:TE):TE:=λσ H Q=>t σ H λc a=>if c=ae then ta σ a Q else tb σ a Q
def o0 {c:Expr}(hc:PT X c tA)(l:PE X a ta)(o:PE X b tb):PE X (.IfExp c a b pos) (T4 tA ta tb):=by
 intro pins s σ H Q I h;exact wpAny_IfExp (hJ (hc pins s σ H _ I h) λd e x'=>V11 x' λf i j=>?_)
 cases d with
 |true=>exact l pins e σ f Q i j
 |false=>exact o pins e σ f Q i j
end
def dL (K:am)(H:Hp)(a:Addr)(xs:List V):Prop:=
 Rd H a (.lst xs)\/
  ∃(o:Obj) (b:Array ag) (n:Nat),K.lookup a=aa o/\o.cls=.type "list"/\o.dict=ac/\o.data=.seq b n/\b.size<=aI/\eI xs b.toList
def o4 (K:am)(H:Hp)(a:Addr)(xs:List V):Prop:=
 Rd H a (.tup xs)\/
  ∃(o:Obj) (b:Array ag) (n:Nat),K.lookup a=aa o/\o.cls=.type "tuple"/\o.data=.seq b n/\b.size<=aI/\eI xs b.toList
def RR:ag->Option V
 | .none=>aa .non
 | .bool b=>aa (.bl b)
 | .int i _=>aa (.int i)
 | .str x _=>aa (.str x)
 | .bytes b _=>aa (.byt b)
 | .float b _=>aa (.flt b)
 | .ref a=>aa (.ref a)
 | .type n=>aa (.ty n)
 |_=>ac
def eA.abs {x:V}(r:eA x u):RR u=aa x:=by
 cases x with
 |non=>cases r;rfl
 |bl _=>cases r;rfl
 |int _=>let(t,rfl):=r;rfl
 |str _=>let(t,rfl):=r;rfl
 |byt _=>let(t,rfl):=r;rfl
 |flt _=>let(t,rfl):=r;rfl
 |ref _=>cases r;rfl
 |ty _=>cases r;rfl
def eA.inj {x y:V}(r:eA x u)(q:eA y u):x=y:=a6 (r.abs.symm.trans q.abs)
theorem eI.inj:∀{xs ys:List V} {us:List ag},eI xs us->eI ys us->xs=ys
 |_,_,_,.nil,.nil=>rfl
 |_,_,_,.cons r t,.cons a t'=>by rw[r.inj a,eI.inj t t']
section
variable {X:Cx} {pins:List (Addr×Obj)} {σ:St} {H:Hp} {s:aw} {a:Addr} {xs ys:List V}
def dL.of (h:H a=aa (.lst xs)):dL K H a xs:=.inl (.inl h)
def o4.of (h:H a=aa (.tup xs)):o4 K H a xs:=.inl (.inl h)
def cz.list (I:cz X pins σ H s)(h:dL X.K H a xs):∃b:List ag,eI xs b/\PlainL s.heap a b.toArray/\xs.length<=aI:=by
 rcases h with h|⟨o,b,n,c,hc,d,f,i,r⟩
 ·let(z,b,n,r,e):=h.ok I.hok;exact(b,r,⟨_,n,e,rfl,rfl,rfl⟩,z)
 ·exact(b.toList,r,⟨o,n,I.kIn a o c,hc,d,by simpa using f⟩,?_)
  let e:=r.length;simp only[aC] at e;omega
def cz.tuple (I:cz X pins σ H s)(h:o4 X.K H a xs):∃b:List ag,eI xs b/\IsTup s.heap a b.toArray/\xs.length<=aI:=by
 rcases h with h|⟨o,b,n,c,hc,d,f,r⟩
 ·let(z,b,r,p):=h.ok I.hok;exact(b,r,p,z)
 ·exact(b.toList,r,⟨o,I.kIn a o c,hc,n,by simpa using d⟩,?_)
  let e:=r.length;simp only[aC] at e;omega
def cz.list_inj (I:cz X pins σ H s)(h:dL X.K H a xs)(h':dL X.K H a ys):xs=ys:=by
 let(c,r,(o,n,e,_,_,d),_):=I.list h;let(b,j,(p,q,f,_,_,i),_):=I.list h';rw[e] at f;cases f;rw[d] at i;injection i with l _
 have:c=b:=by simpa using congrArg Array.toList l
 subst this;exact r.inj j
end
abbrev Cx.wish (X:Cx)(E:ag->aw->Prop):Cx:={X with xe:=E}
abbrev Cx.nox (X:Cx):Cx:=X.wish λ_ _=>False
theorem Cx.Ok.wish (a:X.Ok)(E:ag->aw->Prop):(X.wish E).Ok:=
 ⟨a.mod,a.kind,a.glob,a.blt,a.above,a.inj,a.has,a.cab,a.hd,a.frames,a.stk,a.exf,a.bs,a.bsz,a.noex,a.exfs,a.funs,a.frf⟩
def Cx.Ok.unwish (a:(X.wish E).Ok):X.Ok:=
 ⟨a.mod,a.kind,a.glob,a.blt,a.above,a.inj,a.has,a.cab,a.hd,a.frames,a.stk,a.exf,a.bs,a.bsz,a.noex,a.exfs,a.funs,a.frf⟩
variable {D:xW}
section
variable {X:Cx} {pins:List (Addr×Obj)} {σ:St} {H:Hp} {s:aw} {E:ag->aw->Prop}
theorem cz.wish (I:cz X pins σ H s)(E:ag->aw->Prop):cz (X.wish E) pins σ H s:=⟨I.ok.wish E,I.os,I.bare,I.base,I.loc,I.cell,I.free,I.freeC,I.pin,I.hok,I.len⟩
theorem cz.unwish (I:cz (X.wish E) pins σ H s):cz X pins σ H s:=⟨I.ok.unwish,I.os,I.bare,I.base,I.loc,I.cell,I.free,I.freeC,I.pin,I.hok,I.len⟩
theorem SP.unwish {f:Flow}{s':aw}(h:SP (X.wish E) pins D f s'):SP X pins D f s':=by
 cases f with
 |next=>let(a,b,I,q):=h;exact(a,b,I.unwish,q)
 |brk=>let(a,b,I,q):=h;exact(a,b,I.unwish,q)
 |cont=>let(a,b,I,q):=h;exact(a,b,I.unwish,q)
 |ret u=>let(v,a,b,I,r,q):=h;exact WS v a b I.unwish r q
theorem B5.nox {st:List Stmt}{t:TS}(h:B5 X.nox st t):B5 X st t:=λpins s σ H D I hw=>
 gy (h pins s σ H D (I.wish _) hw) (λ_ _ q=>q.unwish) λ_ _ z=>dE z
end
section
variable {X:Cx} {st:Stmt} {rest:List Stmt} {t u:TS} {e:Expr} {te:TE} {pos:Pos}
def MF:TS:=λD σ H=>D.nx σ H
def NH (t u:TS):TS:=λD σ H=>t {D with nx:=u D} σ H
def bS:B5 X [] MF:=λ_ _ σ H _ I h=>mY ⟨σ,H,I,h⟩
def ao (h1:PS X st t)(a:B5 X rest u):B5 X (st::rest) (NH t u):=by
 intro pins s σ H D I h;exact BY (hJ (h1 pins s σ H {D with nx:=u D} I h) λf b q=>?_)
 cases f with
 |next=>
  let(c,d,e,q):=q;exact a pins b c d D e q
 |ret v=>exact q
 |brk=>exact q
 |cont=>exact q
def bN (h1:PS X st t):B5 X [st] t:=by
 intro pins s σ H D I h;exact BY (hJ (h1 pins s σ H D I h) λf a q=>?_)
 cases f with
 |next=>exact mY q
 |ret v=>exact q
 |brk=>exact q
 |cont=>exact q
def NI:TS:=λD σ H=>D.bk σ H
def Iz:PS X (.Break pos) NI:=λ_ _ σ H _ I h=>wpAny_Break ⟨σ,H,I,h⟩
def cz.quiet (I:cz X pins σ H s):interactive X.env=af:=by simp[interactive,I.ok.kind]
def Pt (te:TE):TS:=λD σ H=>te σ H λ_ a=>D.nx σ a
def gL (a:PE X e te)(b:xM e ac pos.line X.env=pure af:=by rfl):PS X (.Expr e pos) (Pt te):=by
 intro pins s σ H D I h;exact wpAny_Expr_any (hJ (a pins s σ H _ I h) λv i x'=>V22 x' λx c d j f=>⟨σ,c,d,f⟩) I.quiet b
def NJ (te:TE):TS:=λD σ H=>te σ H D.rt
def lr (a:PE X e te):PS X (.Return (aa e) pos) (NJ te):=by
 intro pins s σ H D I h;exact wpAny_Return_some (hJ (a pins s σ H _ I h) λv i x'=>V22 x' λx b c d f=>(WS x (σ) b c d f))
def NK (c:TT)(t u:TS):TS:=λD σ H=>c σ H λb a=>if b=ae then t D σ a else u D σ a
def dG {c:Expr}{a b:List Stmt}{e:TT}(hc:PT X c e)(o:B5 X a t)(p:B5 X b u):PS X (.If c a b pos) (NK e t u):=by
 intro pins s σ H D I h;exact wpAny_If (hJ (hc pins s σ H _ I h) λd f x'=>V11 x' λi j l=>?_)
 cases d with
 |true=>exact o pins f σ i D j l
 |false=>exact p pins f σ i D j l
def NL:TS:=λ_ _ _=>False
def GO {a:List Stmt}:B5 X a NL:=λ_ _ _ _ _ _ h=>h.elim
end
abbrev TG:=V->St->Hp->(St->Hp->Prop)->Prop
abbrev MG:=List V->St->Hp->(St->Hp->Prop)->Prop
def PG (X:Cx)(a:Expr)(t:TG):Prop:=
 ∀(pins:List (Addr×Obj)) (s:aw) (σ:St) (H:Hp) (v:V) (u:ag) (Q:St->Hp->Prop),cz X pins σ H s->eA v u->t v σ H Q->
  a8 (bd X.prog X.w) X.A (assign a X.env u) (λ_ d=>∃b c,cz X pins b c d/\Q b c) X.xe s
def Pu (X:Cx)(d:List Expr)(t:MG):Prop:=
 ∀(pins:List (Addr×Obj)) (s:aw) (σ:St) (H:Hp) (a:List V) (us:List ag) (Q:St->Hp->Prop),cz X pins σ H s->eI a us->t a σ H Q->
  a8 (bd X.prog X.w) X.A (assignInOrder ((pk d X.env).map (·.2)) us) (λ_ e=>∃b c,cz X pins b c e/\Q b c) X.xe s
abbrev NM:=V->V->V->Hp->(Hp->Prop)->Prop
def Pw (X:Cx)(t:NM):Prop:=
 ∀(pins:List (Addr×Obj)) (s:aw) (σ:St) (H:Hp) (o i v:V) (a iv u:ag) (Q:Hp->Prop),cz X pins σ H s->eA o a->eA i iv->eA v u->t o i v H Q->
  a8 (bd X.prog X.w) X.A (setItem a iv u) (λ_ c=>∃b,cz X pins σ b c/\Q b) X.xe s
abbrev RH:=V->V->Hp->VK->Prop
def TK (X:Cx)(op:Fe)(t:RH):Prop:=
 ∀(pins:List (Addr×Obj)) (s:aw) (σ:St) (H:Hp) (x y:V) (v u:ag) (Q:VK),cz X pins σ H s->eA x v->eA y u->t x y H Q->
  a8 (bd X.prog X.w) X.A (BZ op v u) (EP X pins σ Q) X.xe s
variable {g:TG}
section
variable {X:Cx} {pos:Pos}
def CA (i:Nat):TG:=λv σ H Q=>Q (σ.set i (aa v)) H
def fC {x:Str}(hN:X.N.Nodup)(a:X.N[i]?=aa x)(b:ME X.env.scope x)(c:X.fn x=ae\/X.env.scope.names.lookup x=aa .local:=by first|exact .inl rfl|exact .inr rfl|assumption):PG X (.Name x pos) (CA i):=by
 intro pins s σ H v u Q I r h;exact wpAny_assign_Name (vI I hN a b r (λe d=>⟨_,H,d,h⟩) c)
def RS:MG:=λa σ H Q=>a=[]/\Q σ H
def Px (t:TG)(u:MG):MG:=λa σ H Q=>∃v r,a=v::r/\t v σ H λb c=>u r b c Q
def vJ:Pu X [] RS:=by
 intro pins s σ H a us Q I r h;let(e,h):=h;subst e;cases r;exact assignInOrder_nil ⟨σ,H,I,h⟩
def lC {es:List Expr}{t:TG}{u:MG}(h1:PG X e t)(a:Pu X es u)(b:(pk (e::es) X.env).map (·.2)=assign e X.env::(pk es X.env).map (·.2):=by rfl):Pu X (e::es) (Px t u):=by
 intro pins s σ H p us Q I r h;let(v,q,c,h):=h;subst c
 cases r with
 |cons r d=>
  rw[b];exact assignInOrder_cons (hJ (h1 pins s σ H _ _ _ I r h) λ_ f x'=>V21 x' λi j l o=>?_);exact a pins f i j _ _ Q l d o
def Py (K:am)(n:Nat)(t:MG):TG:=λv σ H Q=>∃a b,v=.ref a/\o4 K H a b/\b.length=n/\t b σ H Q
def Bi {es:List Expr}{k:Nat}{t:MG}{n:Nat}(hc:X.calm=ae)(h:Pu X es t)
  (hn:(pk es X.env).length=n:=by rfl) (c:(pk es X.env).findIdx? (·.1)=ac:=by rfl):PG X (.Tuple es k pos) (Py X.K n t):=by
 intro pins s σ H v u Q I r hw;let(a,f,i,j,l,hw):=hw;subst i;cases r;let(p,d,q,z):=I.tuple j;exact assign_Tuple_tuple (I.ok.hd hc) q (by simp[hn,<-l,d.length]) c λw x=>?_
 let y:cz X pins σ H {s with heap:=w}:=I.kept (t':=s.toks) λb o e=>x b o (bn (aW e)) e
 exact h pins _ σ H f _ Q y (by simpa using d) hw
def RT (a b:TE)(t:NM):TG:=λv σ H Q=>a σ H λo c=>b σ c λi d=>t o i v d λe=>Q σ e
def NN {o i:Expr}{b c:TE}{t:NM}(d:PE X o b)(e:PE X i c)(f:Pw X t)
  (j:∀v,assign (.Subscript o i pos) X.env v=(do
   let a<-D3 [v] (eval o X.env)
   let iv<-D3 [v,a] (eval i X.env)
   standAt pos
   D3 [v,a,iv] (setItem a iv v)
   release [v,a,iv] []):=by intro _;rfl):PG X (.Subscript o i pos) (RT b c t):=by
 intro pins s σ H v u Q I r h;rw[j];exact ai (eV (hJ (d pins s σ H _ I h) λa l x'=>V22 x' λx p q w z=>?_));exact ai (eV (hJ (e pins l σ p _ q z) λiv A x'=>V22 x' λy B C D E=>?_));exact ai (wpAny_standAt (ai (eV (hJ (f pins A σ B x y v a iv u _ C w D r E) λ_ N x'=>V11 x' λJ L M=>?_))));exact wpAny_release ⟨σ,J,L,M⟩
def NO (te:TE)(g:TG):TS:=λD σ H=>te σ H λx a=>g x σ a D.nx
def NP {te:TE}(a:PE X e te)(b:PG X tg g)(c:swapsWithSole [tg] e pos.line X.env=pure af:=by rfl)(hw:swappedStores [tg] e X.env=pure ac:=by rfl)(h1:(pk [tg] X.env).map (·.2)=[assign tg X.env]:=by rfl):PS X (.Assign [tg] e pos) (NO te g):=by
 intro pins s σ H D I h;exact wpAny_Assign_stores (hJ (a pins s σ H _ I h) λv d x'=>V22 x' λx f i j l=>?_) c hw;rw[h1];exact hJ (b pins d σ f x v _ i j l) λ_ o q=>q
def nW {x:Str}{te:TE}{a:Pos}(hN:X.N.Nodup)(b:X.N[i]?=aa x)(c:ME X.env.scope x)(d:PE X e te)(f:xM e (aa (.Name x a)) pos.line X.env=pure af:=by rfl)(j:X.fn x=ae\/X.env.scope.names.lookup x=aa .local:=by first|exact .inl rfl|exact .inr rfl|assumption):
  PS X (.Assign [.Name x a] e pos) (NO te (CA i)):=by
 intro pins s σ H D I h;exact wpAny_Assign_Name (hJ (d pins s σ H _ I h) λv u x'=>V22 x' λy l o p q=>?_) f;exact vI o hN b c p (λw r=>⟨_,l,r,q⟩) j
def RU (i:Nat)(te:TE)(a:RH):TS:=λD σ H=>∃x,σ[i]?=aa (aa x)/\te σ H λy b=>a x y b λz c=>D.nx (σ.set i (aa z)) c
def Bj {x:Str}{te:TE}{op:Fe}{f:RH}{b:Pos}(hN:X.N.Nodup)(j:X.N[i]?=aa x)(d:ME X.env.scope x)(o:PE X e te)(p:TK X op f)(q:X.fn x=ae\/X.env.scope.names.lookup x=aa .local:=by first|exact .inl rfl|exact .inr rfl|assumption):
  PS X (.AugAssign (.Name x b) op e pos) (RU i te f):=by
 intro pins s σ H D I h;let(v,B,h):=h;let(m,hn,C):=I.loc;let MH:MD X.env.scope x:=by rcases d with k|k;exact .inl k;exact .inr (.inl k)
 let(u,r,l):=C i x v j B MH;exact wpAny_AugAssign_Name ?_;let go:a8 (bd X.prog X.w) X.A (eval e X.env) (λw E=>a8 (bd X.prog X.w) X.A (BZ op u w) (λr J=>a8 (bd X.prog X.w) X.A (storeName X.env x r) (λ_=>SP X pins D .next) X.xe J) X.xe E) X.xe s:=by
  exact hJ (o pins s σ H _ I h) λw L x'=>V22 x' λy M O Q T=>?_
  exact hJ (p pins L σ M v y u w _ O r Q T) λz s2 x'=>V22 x' λzv Y I2 r2 q2=>?_
  exact vI I2 hN j d r2 (λs3 I3=>⟨_,Y,I3,q2⟩) q
 rcases l with⟨hk,hm⟩|⟨hk,c,hc,a⟩
 ·exact Mh I.ok.kind hk hn hm go
 ·rcases hk with hk|hk
  ·exact Nt I.ok.kind hk hc a go
  ·rcases d with k|k
   ·have:X.env.scope.names.lookup x=aa .free:=hk;rw[k] at this;cases this
   ·have:X.env.scope.names.lookup x=aa .free:=hk;rw[k] at this;cases this
def T5 (f:Int->Int->Int):RH:=λx y H Q=>∃i j,x=.int i/\y=.int j/\Q (.int (f i j)) H
def NQ:TK X .Add (T5 λi j=>i+j):=by
 intro pins s σ H x y v u Q I a b h;let(i,j,c,d,q):=h;subst c;subst d;let(t,rfl):=a;let(t',rfl):=b;exact iadd_int (WJ (.int _) H (I.tok _) ⟨_,rfl⟩ q)
end
variable {tb:TS}
section
variable {X:Cx} {pos:Pos}
def IA (c:TT)(tb:TS):TS:=λD σ H=>∃W:Nat->St->Hp->Prop,(∃m,W m σ H)/\∀m σ H,W m σ H->
 c σ H λb a=>if b=ae then∃N:St->Hp->Prop,(∀d e,N d e->∃f,f<m/\W f d e)/\tb {D with nx:=N,ct:=N,bk:=D.nx} σ a else D.nx σ a
def sK {c:Expr}{x:TT}(y:eO (bd X.prog X.w) X.A X.env X.xe)(hc:PT X c x)(L:B5 X body tb):PS X (.While c body [] pos) (IA x tb):=by
 intro pins s σ H D I h;let(W,(M,O),a):=h;exact wpAny_While (codeAny_whileLoop (λn Q=>∃z B,cz X pins z B Q/\W n z B) ?_ M ⟨σ,H,I,O⟩);intro n T x';let(i,C,Y,w1):=x';exact kZ y (hJ (hc pins T i C _ Y (a n i C w1)) λb s2 x'=>V11 x' λE J j=>?_)
 cases b with
 |true=>
  let(N,hN,j):=j;rw[jN rfl];exact kZ y (hJ (L pins s2 i E _ J j) λf s3 l=>?_)
  cases f with
  |next=>
   let(d,e,o,p):=l;let(q,r,u):=hN d e p;exact(q,r,d,e,o,u)
  |cont=>
   let(d,e,o,p):=l;let(q,r,u):=hN d e p;exact(q,r,d,e,o,u)
  |brk=>exact l
  |ret v=>exact l
 |false=>
  rw[iQ ba];exact mY ⟨i,E,J,j⟩
end
structure It where
 go:Nat->Hp->Prop
 yld:Nat->Hp->V->Hp->Prop
 stop:Nat->Hp->Prop
def ul (X:Cx)(pins:List (Addr×Obj))(H:Hp)(b:Addr):Prop:=
 H b=ac/\b≠X.env.locals/\b∉X.fs/\(b∈X.ex\/X.s_0.heap.objs.size<=b)/\(∀x c,X.env.cells.lookup x=aa c->c≠b)/\∀p∈X.pn++pins,p.1≠b
def cz.fpOk {d:Hp}(I:cz X pins σ H s)(a:s.heap.objs.size<=b)(hn:d b=ac):ul X pins d b:=by
 exact(hn,iZ (bQ I.lt a),I.nofs a,.inr (bq I.sz a),λx c e z=>?_,λp f z=>?_)
 ·let(v,q):=I.cell x c e;exact aB (bQ q.lt (by rw[z];exact a)) (gY _)
 ·exact aB (bQ (aW (I.pin p f).1) (by rw[z];exact a)) (gY _)
structure CB (P:aO)(w:World)(K:am)(tg:Expr)(J:It)(fp:List Addr)(it:Addr)(tn:Nat->Heap->Prop):Prop where
 mem:it∈fp
 obj:∀i h,tn i h->∀b∈fp,∃o,h.get? b=aa o/\∀v,o.data≠.cell v
 keep:∀i h h',tn i h->(∀b∈fp,∀o,h.get? b=aa o->h'.get? b=aa o)->tn i h'
 item:∀(X:Cx),X.prog=P->X.w=w->X.K=K->X.calm=ae->∀(i:Nat) (pins:List (Addr×Obj)) (s:aw) (σ:St) (H:Hp) (E:ag->aw->Prop),cz X pins σ H s->(∀b∈fp,ul X pins H b)->tn i s.heap->J.go i H->
  a8 (bd P w) X.A (Fc (.ref it)) (λr s1=>∃u,r=aa u/\
   a8 (bd P w) X.A (vo tg (.ref it) u) (λ_ s2=>∃x H',cz X pins σ H' s2/\eA x u/\J.yld i H x H'/\tn (i+1) s2.heap/\∀b∈fp,H' b=ac) E s1) E s
 done:∀(X:Cx),X.prog=P->X.w=w->X.K=K->X.calm=ae->∀(i:Nat) (pins:List (Addr×Obj)) (s:aw) (σ:St) (H:Hp) (E:ag->aw->Prop),cz X pins σ H s->(∀b∈fp,ul X pins H b)->tn i s.heap->J.stop i H->
  a8 (bd P w) X.A (Fc (.ref it)) (λr s1=>r=ac/\cz X pins σ H s1) E s
 self:∀(A:b0) (i:Nat) (s:aw) (Q:ag->aw->Prop) (E:ag->aw->Prop),tn i s.heap->Q (.ref it) s->a8 (bd P w) A (BX (.ref it)) Q E s
abbrev TI:=St->Hp->(It->Hp->Prop)->Prop
def Pz (X:Cx)(pins:List (Addr×Obj))(σ:St)(tg:Expr)(R:It->Hp->Prop)(a:ag)(d:aw):Prop:=
 ∃(e:Addr) (fp:List Addr) (f:Nat->Heap->Prop) (J:It) (c:Hp),a=.ref e/\cz X pins σ c d/\CB X.prog X.w X.K tg J fp e f/\f 0 d.heap/\(∀b∈fp,ul X pins c b)/\R J c
def PI (X:Cx)(tg iter:Expr)(a:TI):Prop:=
 ∀(pins:List (Addr×Obj)) (s:aw) (σ:St) (H:Hp) (R:It->Hp->Prop),cz X pins σ H s->a σ H R->
  a8 (bd X.prog X.w) X.A (eval iter X.env) (λv b=>a8 (bd X.prog X.w) X.A (BX v) (Pz X pins σ tg R) X.xe b) X.xe s
def IB {a:Addr}{o:Obj}{n:String}{vs:Array ag}{Q:Unit->aw->Prop}(b:s.heap.get? a=aa o)(hc:o.cls=.type n)(c:o.data=.fields vs)(hn:["enumerate","zip","dict_itemiterator","dict_reverseitemiterator","odict_iterator","itertools.zip_longest","itertools.pairwise"].contains n=af)(hQ:Q () s):a8 M A (vo tg (.ref a) u) Q E s:=by
 unfold vo;cases tg<;>first
  |exact aG hQ
  |(cases u<;>first
    |exact aG hQ
    |(exact ai (wpAny_load b ?_)
      rw[hc,c];show a8 M A (if(["enumerate","zip","dict_itemiterator","dict_reverseitemiterator","odict_iterator","itertools.zip_longest","itertools.pairwise"].contains n&&vs[0]?==aa (oj _))=ae then _ else _) Q E s
      rw[iQ (by intro h;rw[hn,gu] at h;cases h)];exact aG hQ))
def Fx (K:am)(a:Addr):It:=
 ⟨λi H=>∃b x,dL K H a b/\b[i]?=aa x,λi H x c=>c=H/\∀b,dL K H a b->b[i]?=aa x,λi H=>∃b,dL K H a b/\b.length<=i⟩
def KW (lo:Int)(n:Nat):It:=⟨λi _=>i<n,λi H x a=>a=H/\x=.int (lo+i),λi _=>n<=i⟩
def GP (a f:Addr):CB P w K tg (Fx K a) [f] f (λi h=>h.IsListIter f a i) where
 mem:=by simp
 obj:=λi h st b j=>by
  let e:b=f:=by simpa using j
  subst e;let(o,e,c,d):=st;exact(o,e,λv z=>by rw[d] at z;cases z)
 keep:=λi h q st k=>st.at λo e=>k f (by simp) o e
 item:=by
  intro X A hw B hc i pins s σ H E I r st C;subst A hw B;let(Y,x,y,D):=C;let(J,L,p,hz):=I.list y;let(u,hu,ru):=L.get D;let(M,N,f2,O,Q,T):=r f (by simp);exact wpAny_pyNext_list_item st p.isList (x:=u) (by simpa using hu) λq l sb=>?_
  let I1:cz X pins σ H {s with heap:=q}:=I.turned (t':=s.toks) (λb o j e=>(sb.2 b j).trans e) M N O Q T
  let(o,e,c,d):=id l;exact WL u rfl (IB (s:={s with heap:=q}) e c d (by decide) (WN x H I1 ru ⟨rfl,λys hy=>by rw[I.list_inj hy y];exact D⟩ ⟨l,λb j=>(r b j).1⟩))
 done:=by
  intro X A hw B hc i pins s σ H E I r st C;subst A hw B;let(Y,y,D):=C;let(J,L,p,hz):=I.list y;let(M,N,f2,O,Q,T):=r f (by simp);let hl:=L.length;exact wpAny_pyNext_list_end (I.ok.hd hc) st p.isList (by simp;omega) λq eb=>⟨rfl,I.turned (t':=s.toks) (λb o j e=>eb b o j e) M N O Q T⟩
 self:=λ_ _ _ _ _ st h=>wpAny_pyIter_listiter st h
def Ey (a:Addr)(lo:Int)(n:Nat):CB P w K tg (KW lo n) [a] a (λi h=>IsRangeIter h a (lo+(i:Nat)*1) ((n:Int)-(i:Nat)) 1) where
 mem:=by simp
 obj:=λi h st b c=>by
  let e:b=a:=by simpa using c
  subst e;exact⟨_,st,λv z=>by
   let B:Data.fields _=Data.cell v:=z;cases B⟩
 keep:=λi h f st k=>k a (by simp) _ st
 item:=by
  intro X l hw p hc i pins s σ H E I j st q;subst l hw p;let(r,u,C,x,y,A):=j a (by simp);let W:=Walks.range (prog:=X.prog) (w:=X.w) (I.ok.hd hc) a lo 1 n;exact W.item i s _ _ q st λv f tk D d J=>?_
  let(t,rfl):=D;let L:cz X pins σ H {s with heap:=f,toks:=tk}:=I.turned (λb o c e=>J b o (by simpa using c) e) r u x y A
  exact WL _ rfl (IB (s:={s with heap:=f,toks:=tk}) (n:= "range_iterator") d rfl rfl (by decide) (WN (.int (lo+i)) H L ⟨t,?_⟩ ⟨rfl,rfl⟩ ⟨d,λb c=>(j b c).1⟩))
  rw[Int.mul_one]
 done:=by
  intro X l hw p hc i pins s σ H E I j st q;subst l hw p;let(r,u,C,x,y,A):=j a (by simp);exact wpAny_pyNext_range_end (I.ok.hd hc) st (by have:n<=i:=q;omega) λf M=>⟨rfl,I.turned (t':=s.toks) (λb o c e=>M b o c e) r u x y A⟩
 self:=λ_ _ _ _ _ st h=>wpAny_pyIter_rangeiter st h
section
variable {X:Cx} {tg:Expr}
def PB (K:am)(c:TE):TI:=λσ H R=>c σ H λx b=>∃a,x=.ref a/\(∃d,dL K b a d)/\R (Fx K a) b
def jg {l:Expr}{f:TE}(i:PE X l f):PI X tg l (PB X.K f):=by
 intro pins s σ H R I h;exact hJ (i pins s σ H _ I h) λv c x'=>V22 x' λx j d r u=>?_
 let(a,e,(A,w),q):=u;subst e;cases r;let(y,B,p,C):=d.list w;exact zZ p.isList ?_;exact WH c.heap.objs.size [c.heap.objs.size] _ _ j rfl (d.kept (t':=c.toks) λb o e=>aE _ e) (GP a _) ⟨_,aY _ rfl,rfl,rfl⟩ (λb z=>?_) q;let e:b=c.heap.objs.size:=by simpa using z
 subst e;exact d.fpOk (aH _) (d.hok.fresh (aH _))
def IC {R:It->Hp->Prop}{lo a:Int}{t u v:Tok}{tk:Nat}(I:cz X pins σ H s)(h1: -(2^62)<=lo)(d:lo<2^62)(f: -(2^62)<=a)(i:a<2^62)(q:R (KW lo (a-lo).toNat) H):a8 (bd X.prog X.w) X.A (BX (.ref s.heap.objs.size)) (Pz X pins σ tg R) E {s with heap:=s.heap.push {cls:=.type "range",data:=.fields #[.int lo t,.int a u,.int 1 v]},toks:=tk}:=by
 exact wpAny_pyIter_range (IsRange.new ..) (small_one h1 d f i) ?_;let c:cz X pins σ H {s with heap:=s.heap.push {cls:=.type "range",data:=.fields #[.int lo t,.int a u,.int 1 v]},toks:=tk}:=I.kept λb o e=>aE _ e
 exact WH ((s.heap.push {cls:=.type "range",data:=.fields #[.int lo t,.int a u,.int 1 v]}).objs.size) [(s.heap.push {cls:=.type "range",data:=.fields #[.int lo t,.int a u,.int 1 v]}).objs.size] _ _ H rfl (
  c.kept (t':=tk) λb o e=>aE _ e) (Ey _ lo (a-lo).toNat) ?_ (λb j=>?_) q
 ·let l:lo+((0:Nat):Int)*1=lo:=by simp
  let p:(((a-lo).toNat:Nat):Int)-((0:Nat):Int)=ck.Range.rangeSize lo a 1:=by rw[rangeSize_one];split<;>omega
  show IsRangeIter _ _ (lo+((0:Nat):Int)*1) ((((a-lo).toNat:Nat):Int)-((0:Nat):Int)) 1;rw[l,p];exact aY _ rfl
 ·let e:b=(s.heap.push {cls:=.type "range",data:=.fields #[.int lo t,.int a u,.int 1 v]}).objs.size:=by simpa using j
  subst e;exact c.fpOk (aH _) (c.hok.fresh (aH _))
def PD (a:TA):TI:=λσ H R=>a σ H λb c=>∃j:Int,b=[.int j]/\ -(2^62)<=j/\j<2^62/\R (KW 0 j.toNat) c
def GQ {a:Expr}{c:TA}{p:Pos}(d:Gl X "range")(f:X.mg "range"=ac)(i:PA X [a] c)(l:bp [a] X.env=[(af,eval a X.env)]:=by rfl):PI X tg (.Call (.Name "range" p) [a] [] pos) (PD c):=by
 intro pins s σ H R I h;exact Call_ (uR I d f boot_range (iC (hJ (i pos pins s σ H _ I h) λus x x'=>V22 x' λy z o u b=>?_) l rfl));let(j,e,b,v,q):=b;subst e
 cases u with
 |cons r w=>
  cases w;let(t,rfl):=r;exact call_range_1 (IC o ⋯ ⋯ b v (by simpa using q))
def RV (d:TI)(g:TG)(tb:TS):TS:=λD σ H=>d σ H λJ e=>∃W:Nat->Nat->St->Hp->Prop,(∃m,W 0 m σ e)/\∀i m σ H,W i m σ H->
 (J.stop i H/\D.nx σ H)\/(J.go i H/\∃N:St->Hp->Prop,(∀b a,N b a->∃c,c<m/\W (i+1) c b a)/\∀x a,J.yld i H x a->g x σ a λf j=>tb {D with nx:=N,ct:=N,bk:=D.nx} f j)
def yP (fp:List Addr)(h:Heap):List (Addr×Obj):=fp.filterMap λb=>(h.get? b).map λo=>(b,o)
def uS {o:Obj}(a:b∈fp)(e:h.get? b=aa o):(b,o)∈yP fp h:=fL.mpr ⟨b,a,by rw[e];rfl⟩
def GR {p:Addr×Obj}(a:p∈yP fp h):p.1∈fp/\h.get? p.1=aa p.2:=by
 let(b,c,e):=fL.mp a
 cases q:h.get? b with
 |none=>rw[q] at e;cases e
 |some o=>
  rw[q] at e;let d:(b,o)=p:=a6 e;subst d;exact(c,q)
def cz.pinned (I:cz X pins σ H s)(f:∀b∈fp,ul X pins H b)(i:∀b∈fp,∃o,s.heap.get? b=aa o/\∀v,o.data≠.cell v):cz X (pins++yP fp s.heap) σ H s:=
 I.pins_of λp j=>(cF.mp j).elim (λz=>I.pin p (bt _ z)) λz=>by
  let(a,e):=GR z;let(l,q,r,_):=f p.1 a;let(o,c,d):=i p.1 a;rw[e] at c;cases c;exact(e,l,q,r,d)
def cz.unpinned {pl:List (Addr×Obj)}(I:cz X (pins++pl) σ H s):cz X pins σ H s:=I.pins_of λp a=>I.pin p (bt _ (ll _ a))
def kj {iter:Expr}{wi:TI}(B:eO (bd X.prog X.w) X.A X.env X.xe)(hc:X.calm=ae)(hi:PI X tg iter wi)(hg:PG X tg g)(a:B5 X body tb)(hs:∀x,z0 iter X.env x=pure x:=by intro _;rfl):PS X (.For tg iter body [] pos) (RV wi g tb):=by
 intro pins s σ H D I h;exact wpAny_For (hJ (hi pins s σ H _ I h) λv s1 h1=>hJ h1 λb2 s2 h2=>?_) hs;let(it,fp,tn,J,H2,e,I2,T,a0,f2,W,(m0,w0),C):=h2;subst e;let c:∀{q:Hp},(∀b∈fp,q b=ac)->∀b∈fp,ul X pins q b:=λhn b a=>⟨hn b a,(f2 b a).2⟩
 exact codeAny_forLoop_any (λn s'=>∃i E q,cz X pins E q s'/\tn i s'.heap/\(∀b∈fp,q b=ac)/\W i n E q) ?_ m0 (WT 0 (σ) H2 I2 a0 (λb a=>(f2 b a).1) w0);intro n s3 x';let(i,L,Y,I3,M,O,w3):=x';rcases C i n L Y w3 with⟨stop,qn⟩|⟨go,N,hN,step⟩
 ·exact kZ B (hJ (T.done X rfl rfl rfl hc i pins s3 L Y X.xe I3 (c O) M stop) λr s4 ⟨hr,I4⟩=>?_);subst hr;exact mY ⟨L,Y,I4,qn⟩
 ·exact kZ B (hJ (T.item X rfl rfl rfl hc i pins s3 L Y X.xe I3 (c O) M go) λr s4 x'=>V11 x' λu hr h4=>?_);subst hr;exact kZ B (hJ h4 λ_ s5 x'=>V2 x' λx H5 x'=>X4 x' λI5 r5 y5 z a2=>?_);let a3:=I5.pinned (c a2) (T.obj _ _ z);exact kZ B (hJ (hg _ s5 L H5 x u _ a3 r5 (step x H5 y5)) λ_ s6 ⟨σ6,H6,I6,q6⟩=>?_);exact kZ B (hJ (a _ s6 σ6 H6 _ I6 q6) λf s7 y=>?_);let again:∀{j:St} {l:Hp},cz X (pins++yP fp s5.heap) j l s7->N j l->∃m,m<n/\∃i E q,cz X pins E q s7/\tn i s7.heap/\(∀b∈fp,q b=ac)/\W i m E q:=λ{j l} p Q=>by
   let(m',hm,w7):=hN j l Q;exact(m',hm,WT (i+1) j l p.unpinned (T.keep _ _ _ z λb a o e=>(p.pin (b,o) (bt _ (bt _ (uS a e)))).1) (λb a=>?_) w7);let(o,e,d):=T.obj _ _ z b a;exact(p.pin (b,o) (bt _ (bt _ (uS a e)))).2.1
  cases f with
  |next=>let(j,l,p,Q):=y;exact again p Q
  |cont=>let(j,l,p,Q):=y;exact again p Q
  |brk=>let(j,l,p,y):=y;exact(j,l,p.unpinned,y)
  |ret v=>let(x7,j,l,p,r7,y):=y;exact WS x7 j l p.unpinned r7 y
end
def ka {xs:List V}(Pv:Nat->St->Hp->Prop)(o:Pv 0 σ H)(r:∀i σ H,i<=xs.length->Pv i σ H->dL K H a xs)(s:∀i x σ H,xs[i]?=aa x->Pv i σ H->g x σ H λd f=>tb {D with nx:=Pv (i+1),ct:=Pv (i+1),bk:=D.nx} d f)(u:∀σ H,Pv xs.length σ H->D.nx σ H):
  ∃W:Nat->Nat->St->Hp->Prop,(∃m,W 0 m σ H)/\∀i m σ H,W i m σ H->
   ((Fx K a).stop i H/\D.nx σ H)\/((Fx K a).go i H/\∃N:St->Hp->Prop,(∀j b,N j b->∃l,l<m/\W (i+1) l j b)/\∀x b,(Fx K a).yld i H x b->g x σ b λd f=>tb {D with nx:=N,ct:=N,bk:=D.nx} d f):=by
 exact WL (λi m σ H=>m=xs.length-i/\i<=xs.length/\Pv i σ H) ⟨xs.length,by simp,aR _,o⟩ ?_;intro i m σ H x';let(rfl,v,p):=x';let q:=r i σ H v p;by_cases c:i<xs.length
 ·exact .inr ⟨⟨xs,xs[i],q,by simp[c]⟩,WL (Pv (i+1)) (λj b w=>⟨xs.length-(i+1),⋯,rfl,c,w⟩) λx b y=>?_⟩;let(e,y):=y;subst e;exact s i x σ _ (y xs q) p
 ·let e:i=xs.length:=⋯
  subst e;exact .inl ⟨⟨xs,q,aH _⟩,u σ H p⟩
def Pb {lo:Int}{n:Nat}(Pv:Nat->St->Hp->Prop)(l:Pv 0 σ H)(o:∀i σ H,i<n->Pv i σ H->g (.int (lo+i)) σ H λc d=>tb {D with nx:=Pv (i+1),ct:=Pv (i+1),bk:=D.nx} c d)(q:∀σ H,Pv n σ H->D.nx σ H):
  ∃W:Nat->Nat->St->Hp->Prop,(∃m,W 0 m σ H)/\∀i m σ H,W i m σ H->
   ((KW lo n).stop i H/\D.nx σ H)\/((KW lo n).go i H/\∃N:St->Hp->Prop,(∀f a,N f a->∃j,j<m/\W (i+1) j f a)/\∀x a,(KW lo n).yld i H x a->g x σ a λc d=>tb {D with nx:=N,ct:=N,bk:=D.nx} c d):=by
 exact WL (λi m σ H=>m=n-i/\i<=n/\Pv i σ H) ⟨n,by simp,aR _,l⟩ ?_;intro i m σ H x';let(rfl,s,p):=x';by_cases b:i<n
 ·exact .inr ⟨b,WL (Pv (i+1)) (λf a r=>⟨n-(i+1),⋯,rfl,b,r⟩) λx a y=>?_⟩;let(e,y):=y;subst e y;exact o i σ _ b p
 ·let e:i=n:=⋯
  subst e;exact .inl ⟨aH _,q σ H p⟩
def CC {c:TT}(Pv:St->Hp->Prop)(μ:St->Hp->Nat)(j:Pv σ H)(o:∀σ H,Pv σ H->c σ H λb a=>if b=ae then tb {D with nx:=λd e=>Pv d e/\μ d e<μ σ H,ct:=λd e=>Pv d e/\μ d e<μ σ H,bk:=D.nx} σ a else D.nx σ a)(f:∀σ H Q i,(∀b a,Q b a->i b a)->c σ H Q->c σ H i):IA c tb D σ H:=by
 exact(λm σ H=>m=μ σ H/\Pv σ H,⟨_,rfl,j⟩,?_);intro m σ H x';let(rfl,p):=x';exact f σ H _ _ (λb a q=>?_) (o σ H p)
 cases b with
 |true=>exact(_,λd e ⟨r,l⟩=>⟨_,l,rfl,r⟩,q)
 |false=>exact q
abbrev R2:=V->V->Hp->VK->Prop
def tV (X:Cx)(f:ag->ag->Sem ag)(r:R2):Prop:=
 ∀(pins:List (Addr×Obj)) (s:aw) (σ:St) (H:Hp) (x y:V) (v u:ag) (Q:VK),cz X pins σ H s->eA x v->eA y u->r x y H Q->
  a8 (bd X.prog X.w) X.A (f v u) (EP X pins σ Q) X.xe s
def RW (X:Cx)(f:ag->Sem ag)(r:V->Hp->VK->Prop):Prop:=
 ∀(pins:List (Addr×Obj)) (s:aw) (σ:St) (H:Hp) (x:V) (v:ag) (Q:VK),cz X pins σ H s->eA x v->r x H Q->
  a8 (bd X.prog X.w) X.A (f v) (EP X pins σ Q) X.xe s
def o5 (X:Cx)(f:ag)(r:List V->Hp->VK->Prop):Prop:=
 ∀(pins:List (Addr×Obj)) (s:aw) (σ:St) (H:Hp) (a:List V) (us:List ag) (Q:VK),cz X pins σ H s->eI a us->r a H Q->
  a8 (bd X.prog X.w) X.A (call f us) (EP X pins σ Q) X.xe s
def KY (r:R2)(a tb:TE):TE:=λσ H Q=>a σ H λx b=>tb σ b λy c=>r x y c Q
def T6 (r:V->Hp->VK->Prop)(a:TE):TE:=λσ H Q=>a σ H λx b=>r x b Q
def rI (C:Int->Int->Prop)(g:Int->Int->V):R2:=λx y H Q=>∃i j,x=.int i/\y=.int j/\C i j/\Q (g i j) H
def HN (g:Int->Int->V):R2:=λx y H Q=>∃i j,x=.int i/\y=.int j/\Q (g i j) H
def rU (g:Int->V):V->Hp->VK->Prop:=λx H Q=>∃i,x=.int i/\Q (g i) H
variable {r:R2}
section
variable {X:Cx} {a b c:Expr} {ta tb tc:TE} {pos:Pos}
def NR (i:PE X a ta)(j:PE X b tb)(I:cz X pins σ H s)(h:ta σ H λx e=>tb σ e λy c=>R x y c){Q:ag->aw->Prop}{f:ag->ag->Sem ag}(l:∀v u d x y c,cz X pins σ c d->eA x v->eA y u->R x y c->a8 (bd X.prog X.w) X.A (f v u) Q X.xe d):
  a8 (bd X.prog X.w) X.A (eval a X.env) (λv o=>a8 (bd X.prog X.w) X.A (eval b X.env) (λu p=>a8 (bd X.prog X.w) X.A (f v u) Q X.xe p) X.xe o) X.xe s:=by
 exact hJ (i pins s σ H _ I h) λv q x'=>V22 x' λx e r z B=>?_
 exact hJ (j pins q σ e _ r B) λu d x'=>V22 x' λy c C D E=>?_
 exact l v u d x y c C z D E
def cI {op:Fe}(c:tV X (mJ op) r)(d:PE X a ta)(e:PE X b tb):PE X (.BinOp a op b pos) (KY r ta tb):=by
 intro pins s σ H Q I h;exact wpAny_BinOp (NR d e I h λv u f x y i j l o q=>c pins f σ i x y v u Q j l o q)
def yQ {op:UnaryOp}{r:V->Hp->VK->Prop}(b:RW X (unaryOp op) r)(c:PE X a ta):PE X (.UnaryOp op a pos) (T6 r ta):=by
 intro pins s σ H Q I h;exact UnaryOp_ (hJ (c pins s σ H _ I h) λv d x'=>V22 x' λx e f i j=>b pins d σ e x v Q f i j)
def PF {f:ag->ag->Sem ag}{C:Int->Int->Prop}{g:Int->Int->Int}
  (rule:∀(i j:Int) (t u:Tok) (s:aw) (Q:ag->aw->Prop) (E:ag->aw->Prop),C i j->Q (.int (g i j) s.toks) {s with toks:=s.toks+1}->a8 (bd X.prog X.w) X.A (f (.int i t) (.int j u)) Q E s):
  tV X f (rI C λi j=>.int (g i j)):=by
 intro pins s σ H x y v u Q I a b h;let(i,j,rfl,rfl,hc,q):=h;let(t,rfl):=a;let(t',rfl):=b;exact rule i j t t' s _ _ hc (WJ (.int (g i j)) H (I.tok _) ⟨_,rfl⟩ q)
def KZ {f:ag->ag->Sem ag}{g:Int->Int->Int}
  (rule:∀(i j:Int) (t u:Tok) (s:aw) (Q:ag->aw->Prop) (E:ag->aw->Prop),Q (.int (g i j) s.toks) {s with toks:=s.toks+1}->a8 (bd X.prog X.w) X.A (f (.int i t) (.int j u)) Q E s):
  tV X f (HN λi j=>.int (g i j)):=by
 intro pins s σ H x y v u Q I a b h;let(i,j,rfl,rfl,q):=h;let(t,rfl):=a;let(t',rfl):=b;exact rule i j t t' s _ _ (WJ (.int (g i j)) H (I.tok _) ⟨_,rfl⟩ q)
def K0 {f:ag->ag->Sem ag}{g:Int->Int->Bool}
  (rule:∀(i j:Int) (t u:Tok) (s:aw) (Q:ag->aw->Prop) (E:ag->aw->Prop),Q (.bool (g i j)) s->a8 (bd X.prog X.w) X.A (f (.int i t) (.int j u)) Q E s):
  tV X f (HN λi j=>.bl (g i j)):=by
 intro pins s σ H x y v u Q I a b h;let(i,j,rfl,rfl,q):=h;let(t,rfl):=a;let(t',rfl):=b;exact rule i j t t' s _ _ ⟨.bl (g i j),H,I,rfl,q⟩
def RX (i j:Int):Prop:=0<j/\j<1073741824
def ID (i j:Int):Prop:=(-(2^64)<i/\i<2^64)\/(-(2^64)<j/\j<2^64)
def ID.ok {i j:Int}(h:ID i j):IntMulOk i j:=by
 rcases h with⟨a,b⟩|⟨a,b⟩
 ·exact .of_left (intBits_le_64 a b)
 ·exact .of_right (intBits_le_64 a b)
def Ez (k:Nat):(0:Int)<=2^k:=by
 rw[two_pow_cast];exact xg _
def o6:tV X (mJ .Add) (HN λi j=>.int (i+j)):=KZ λ_ _ _ _ _ _ _ q=>add_int q
def jU:tV X (mJ .Sub) (HN λi j=>.int (i-j)):=KZ λ_ _ _ _ _ _ _ q=>sub_int q
def lu:tV X (mJ .Mult) (rI ID λi j=>.int (i*j)):=PF λ_ _ _ _ _ _ _ hc q=>mul_int q hc.ok
def vK:tV X (mJ .FloorDiv) (rI RX λi j=>.int (i/j)):=PF λi j _ _ _ _ _ hc q=>by
 let a:(0:Int)<j:=hc.1;let b:j<1073741824:=hc.2;exact floordiv_int ⋯ (by rw[qm i ⋯];exact q) (.inl (PyProof.noPylong_small ⋯))
def Bk:tV X (mJ .Mod) (rI (λ_ j=>0<j) λi j=>.int (i%j)):=PF λi j _ _ _ _ _ hc q=>by
 let a:(0:Int)<j:=hc;exact mod_int' ⋯ (by rw[Int.fmod_eq_emod_of_nonneg i ⋯];exact q)
def NS:tV X (mJ .RShift) (rI (λ_ j=>0<=j) λi j=>.int (i/2^j.toNat)):=PF λi j _ _ _ _ _ hc q=>
 rshift_int hc (by rw[qm i (Ez _)];exact q)
def Fy:tV X (BZ .Add) (HN λi j=>.int (i+j)):=KZ λ_ _ _ _ _ _ _ q=>iadd_int q
def K1:tV X (BZ .Sub) (HN λi j=>.int (i-j)):=KZ λ_ _ _ _ _ _ _ q=>isub_int q
def T7 {f:ag->Sem ag}{g:Int->Int}
  (rule:∀(i:Int) (t:Tok) (s:aw) (Q:ag->aw->Prop) (E:ag->aw->Prop),Q (.int (g i) s.toks) {s with toks:=s.toks+1}->a8 (bd X.prog X.w) X.A (f (.int i t)) Q E s):
  RW X f (rU λi=>.int (g i)):=by
 intro pins s σ H x v Q I a h;let(i,rfl,q):=h;let(t,rfl):=a;exact rule i t s _ _ (WJ (.int (g i)) H (I.tok _) ⟨_,rfl⟩ q)
def uT:RW X (unaryOp .USub) (rU λi=>.int (-i)):=T7 λ_ _ _ _ _ q=>neg_int q
end
def PH:V->V->Bool
 | .non,.non=>ae| .non,.int _=>ae| .int _,.non=>ae| .non,.bl _=>ae| .bl _,.non=>ae| .non,.str _=>ae| .str _,.non=>ae
 | .int _,.int _=>ae| .bl _,.bl _=>ae| .str _,.str _=>ae| .byt _,.byt _=>ae
 | .int _,.str _=>ae| .str _,.int _=>ae| .bl _,.str _=>ae| .str _,.bl _=>ae
 |_,_=>af
def T8:R2:=λx y H Q=>PH x y=ae/\Q (.bl (decide (x=y))) H
def T9:R2:=λx y H Q=>PH x y=ae/\Q (.bl (!decide (x=y))) H
def Bl {i j:Int}:decide (V.int i=V.int j)=(i==j):=by
 rw[iL];simp
def IE {i j:Bool}:decide (V.bl i=V.bl j)=(i==j):=by
 rw[iL];simp
def Fz {i j:Str}:decide (V.str i=V.str j)=(i==j):=by
 rw[iL];simp
def FA {i j:Array UInt8}:decide (V.byt i=V.byt j)=(i.toList==j.toList):=by
 rw[iL];cases i;cases j;simp
variable {Q:VK}
section
variable {X:Cx} {a b c:Expr} {ta tb tc:TE} {pos:Pos}
def gG {k a:Bool}(I:cz X pins σ H s)(q:Q (.bl k) H)(e:k=a):EP X pins σ Q (.bool a) s:=by
 subst e;exact(.bl k,H,I,rfl,q)
def lD:tV X (gh .Eq) T8:=by
 intro pins s σ H x y v u Q I c a h;let(b,q):=h
 cases x with
 |non=>
  cases c
  cases y with
  |non=>cases a;exact PySem.EqNone.eq_none_none (gG I q (by simp))
  |bl j=>cases a;exact PySem.EqNone.eq_none_bool (gG I q (by simp))
  |int j=>let(t',rfl):=a;exact PySem.EqNone.eq_none_int (gG I q (by simp))
  |str j=>let(t',rfl):=a;exact PySem.EqNone.eq_none_str (gG I q (by simp))
  |_=>exact aB (show af=ae from b) ba
 |bl i=>
  cases c
  cases y with
  |non=>cases a;exact PySem.EqNone.eq_bool_none (gG I q (by simp))
  |bl j=>cases a;exact eq_bool (gG I q IE)
  |str j=>let(t',rfl):=a;exact PySem.EqMixed.eq_bool_str (gG I q (by simp))
  |_=>exact aB (show af=ae from b) ba
 |int i=>
  let(t,rfl):=c
  cases y with
  |non=>cases a;exact PySem.EqNone.eq_int_none (gG I q (by simp))
  |int j=>let(t',rfl):=a;exact eq_int (gG I q Bl)
  |str j=>let(t',rfl):=a;exact PySem.EqMixed.eq_int_str (gG I q (by simp))
  |_=>exact aB (show af=ae from b) ba
 |str i=>
  let(t,rfl):=c
  cases y with
  |non=>cases a;exact PySem.EqNone.eq_str_none (gG I q (by simp))
  |bl j=>cases a;exact PySem.EqMixed.eq_str_bool (gG I q (by simp))
  |int j=>let(t',rfl):=a;exact PySem.EqMixed.eq_str_int (gG I q (by simp))
  |str j=>let(t',rfl):=a;exact eq_str (gG I q Fz)
  |_=>exact aB (show af=ae from b) ba
 |byt i=>
  let(t,rfl):=c
  cases y with
  |byt j=>let(t',rfl):=a;exact PySem.W.eq_bytes (gG I q FA)
  |_=>exact aB (show af=ae from b) ba
 |_=>cases y<;>exact aB (show af=ae from b) ba
def yR:tV X (gh .NotEq) T9:=by
 intro pins s σ H x y v u Q I c a h;let(b,q):=h
 cases x with
 |non=>
  cases c
  cases y with
  |non=>cases a;exact PySem.EqNone.ne_none_none (gG I q (by simp))
  |bl j=>cases a;exact PySem.EqNone.ne_none_bool (gG I q (by simp))
  |int j=>let(t',rfl):=a;exact PySem.EqNone.ne_none_int (gG I q (by simp))
  |str j=>let(t',rfl):=a;exact PySem.EqNone.ne_none_str (gG I q (by simp))
  |_=>exact aB (show af=ae from b) ba
 |bl i=>
  cases c
  cases y with
  |non=>cases a;exact PySem.EqNone.ne_bool_none (gG I q (by simp))
  |bl j=>cases a;exact ne_bool (gG I q (congrArg not IE))
  |str j=>let(t',rfl):=a;exact PySem.EqMixed.ne_bool_str (gG I q (by simp))
  |_=>exact aB (show af=ae from b) ba
 |int i=>
  let(t,rfl):=c
  cases y with
  |non=>cases a;exact PySem.EqNone.ne_int_none (gG I q (by simp))
  |int j=>let(t',rfl):=a;exact ne_int (gG I q (congrArg not Bl))
  |str j=>let(t',rfl):=a;exact PySem.EqMixed.ne_int_str (gG I q (by simp))
  |_=>exact aB (show af=ae from b) ba
 |str i=>
  let(t,rfl):=c
  cases y with
  |non=>cases a;exact PySem.EqNone.ne_str_none (gG I q (by simp))
  |bl j=>cases a;exact PySem.EqMixed.ne_str_bool (gG I q (by simp))
  |int j=>let(t',rfl):=a;exact PySem.EqMixed.ne_str_int (gG I q (by simp))
  |str j=>let(t',rfl):=a;exact ne_str (gG I q (congrArg not Fz))
  |_=>exact aB (show af=ae from b) ba
 |byt i=>
  let(t,rfl):=c
  cases y with
  |byt j=>let(t',rfl):=a;exact PySem.W.ne_bytes (gG I q (congrArg not FA))
  |_=>exact aB (show af=ae from b) ba
 |_=>cases y<;>exact aB (show af=ae from b) ba
def rF:tV X (gh .Lt) (HN λi j=>.bl (decide (i<j))):=K0 λ_ _ _ _ _ _ _ q=>lt_int q
def gC:tV X (gh .LtE) (HN λi j=>.bl (decide (i<=j))):=K0 λ_ _ _ _ _ _ _ q=>le_int q
def MI:tV X (gh .Gt) (HN λi j=>.bl (decide (j<i))):=K0 λ_ _ _ _ _ _ _ q=>gt_int q
def FC:tV X (gh .GtE) (HN λi j=>.bl (decide (j<=i))):=K0 λ_ _ _ _ _ _ _ q=>ge_int q
def dS (b:Expr)(h:op≠.In:=by decide)(a:op≠.NotIn:=by decide):lm op b=af:=by
 let c:(op==vn.In)=af:=by cases op<;>first|rfl|exact aB rfl h
 let d:(op==vn.NotIn)=af:=by cases op<;>first|rfl|exact aB rfl a
 cases b<;>simp[lm,c,d]
def vL (c:tV X (gh op) r)(d:PE X a ta)(e:PE X b tb)(f:lm op b=af):PE X (.Compare a [op] [b] pos) (KY r ta tb):=by
 intro pins s σ H Q I h;exact wpAny_Compare1 (NR d e I h λv u i x y j l o p q=>c pins i σ j x y v u Q l o p q) f
def IF (t:TE):TT:=λσ H Q=>t σ H λx a=>∃k,x=.bl k/\Q k a
def df (d:tV X (gh op) r)(f:PE X a ta)(i:PE X b tb)(j:lm op b=af):PT X (.Compare a [op] [b] pos) (IF (KY r ta tb)):=by
 intro pins s σ H Q I h;exact KG (hJ (f pins s σ H _ I h) λv l x'=>V22 x' λx o p q w=>hJ (i pins l σ o _ p w) λu A x'=>V22 x' λy B C D E=>
  hJ (d pins A σ B x y v u _ C q D E) λc O x'=>V22 x' λz J L M x'=>V11 x' λk e N=>?_) j
 subst e;cases M;exact gA ⟨J,L,N⟩
def IG (r b:R2)(ta tb tc:TE):TE:=λσ H Q=>ta σ H λx c=>tb σ c λy d=>r x y d λz a=>∃k,z=.bl k/\
 (if k=ae then tc σ a λe f=>b y e f Q else Q (.bl af) a)
def mm {f:vn}{j:R2}(w:tV X (gh op) r)(i:tV X (gh f) j)(A:PE X a ta)(B:PE X b tb)(hc:PE X c tc)(C:lastMarks [op,f] [b,c]=af:=by with_unfolding_all rfl):PE X (.Compare a [op,f] [b,c] pos) (IG r j ta tb tc):=by
 intro pins s σ H Q I h;exact Compare_chain (hJ (A pins s σ H _ I h) λv D x'=>V22 x' λx E J L M=>chain_link (hJ (B pins D σ E _ J M) λu N x'=>V22 x' λy O T l Y=>
  hJ (w pins N σ O x y v u _ T L l Y) λd s3 x'=>V22 x' λz o p r3 x'=>V11 x' λk e q=>?_)) C
 subst e;cases r3;exact gA ?_
 cases k with
 |false=>exact ite_ff ⟨.bl af,o,p,rfl,q⟩
 |true=>exact ite_tt (chain_last (hJ (hc pins s3 σ o _ p q) λw' s4 x'=>V22 x' λz' H4 I4 r4 q4=>i pins s4 σ H4 y z' u w' Q I4 l r4 q4))
def kF {f:vn}{j:R2}(w:tV X (gh op) r)(i:tV X (gh f) j)(A:PE X a ta)(B:PE X b tb)(hc:PE X c tc)(C:lastMarks [op,f] [b,c]=af:=by with_unfolding_all rfl):PT X (.Compare a [op,f] [b,c] pos) (IF (IG r j ta tb tc)):=by
 intro pins s σ H Q I h;exact isTrue_chain (hJ (A pins s σ H _ I h) λv D x'=>V22 x' λx E J L M=>test_link (hJ (B pins D σ E _ J M) λu N x'=>V22 x' λy O T l Y=>
  hJ (w pins N σ O x y v u _ T L l Y) λd s3 x'=>V22 x' λz o p r3 x'=>V11 x' λk e q=>?_)) C
 subst e;cases r3;exact gA ?_
 cases k with
 |false=>
  let(k',e',q'):=q;cases e';exact ite_ff ⟨o,p,q'⟩
 |true=>
  exact ite_tt (test_last (hJ (hc pins s3 σ o _ p q) λw' s4 x'=>V22 x' λz' H4 I4 r4 q4=>hJ (i pins s4 σ H4 y z' u w' _ I4 l r4 q4) λd' s5 x'=>V22 x' λz2 H5 I5 r5 x'=>V11 x' λk2 e2 q5=>?_));subst e2;cases r5;exact gA ⟨H5,I5,q5⟩
def Bm:(aI:Nat)<2^63:=by rw[nI];decide
def MJ {x:V}(r:eI [x] us):∃u,us=[u]/\eA x u:=by
 cases r with
 |cons a b=>cases b;exact(_,rfl,a)
def MK {x y:V}(r:eI [x,y] us):∃u a,us=[u,a]/\eA x u/\eA y a:=by
 cases r with
 |cons b c=>
  cases c with
  |cons d e=>cases e;exact(_,_,rfl,b,d)
def tW (hc:X.calm=ae):o5 X (.builtin "max") (λxs H Q=>∃i j,xs=[.int i,.int j]/\Q (.int (if j>i then j else i)) H):=by
 intro pins s σ H xs us Q I r h;let(i,j,rfl,q):=h;let(u,b,rfl,(t,rfl),(t',rfl)):=MK r;exact max_two_ints (I.ok.hd hc) λc tk k=>(WJ _ H (I.kept k) ?_ q)
 by_cases a:j>i
 ·rw[jN a,jN a];exact(_,rfl)
 ·rw[iQ a,iQ a];exact(_,rfl)
def tX (hc:X.calm=ae):o5 X (.builtin "min") (λxs H Q=>∃i j,xs=[.int i,.int j]/\Q (.int (if j<i then j else i)) H):=by
 intro pins s σ H xs us Q I r h;let(i,j,rfl,q):=h;let(u,b,rfl,(t,rfl),(t',rfl)):=MK r;exact min_two_ints (I.ok.hd hc) λc tk k=>(WJ _ H (I.kept k) ?_ q)
 by_cases a:j<i
 ·rw[jN a,jN a];exact(_,rfl)
 ·rw[iQ a,iQ a];exact(_,rfl)
end
structure GS (h:Heap)(x dx C:Addr)(mA:Str->Option ag):Prop where
 obj:h.get? x=aa (jd C dx)
 ns:h.Ns1 dx mA
 ne:dx≠x
def GU {dx:Addr}(n:h.Ns1 dx mA):∃c,h.get? dx=aa c/\∀name,zt name c=aa (mA name):=by
 let(o,d,s,f,i,j,_,l):=n;exact(o,f,λname=>?_);let e:=l name;unfold nsFind findBy at e;rw[<-Array.find?_toList] at e;unfold zt;rw[i];dsimp only;split
 ·rename_i y q;rw[q] at e;exact congrArg aa e
 ·rename_i q;rw[q] at e;let a:d.toList.any (·.refKey)=af:=by
   rw[List.any_eq_false];intro y p;let(z,t,b):=j y (jr.mp p);simp[ji.refKey,b]
  let r:¬d.toList.any (·.refKey)=ae:=by rw[a];exact ba
  rw[iQ r];exact congrArg aa e
def GS.look {x dx:Addr}(I:GS h x dx C mA):∃a,PySem.W.InstAt h x (jd C dx) C (aa a)/\∀name,zt name a=aa (mA name):=
 let ⟨a,b,c⟩:=GU I.ns
 ⟨a,⟨I.obj,rfl,rfl,b⟩,c⟩
section
variable {prog:aO} {w:World} {A:b0} {E:ag->aw->Prop} {s:aw} {K:am} {x dx C f:Addr} {mA:Str->Option ag} {name:Str} {v:ag}
def K2 {a:Bool}{Q:ag->aw->Prop}(X:K.In s.heap)(I:GS s.heap x dx C mA)(c:qL K C name=ae)(hh:qc K C=ae)
  (d:iy K (.ref C) name=aa ac) (e:mA name=aa v) (b:PySem.W.handedIn v=ae) (h:Q v {s with toks:=s.toks+1}):
  a8 (bd prog w) A (getAttr (.ref x) name a) Q E s:=by
 let(i,J,f):=I.look;exact PySem.W.get_value X J (PySem.W.plainGet_of c).1 (PySem.W.findObj_own hh d rfl (by rw[f,e])) b h
def K3 {ns:List Str}{Q:Unit->aw->Prop}(X:K.In s.heap)(I:GS s.heap x dx C mA)
  (l:iy K (.ref C) "__setattr__"=aa (aa (.builtin "object.__setattr__"))) (o:wz K C=ae) (p:yc K C name=aa ac) (hh:qc K C=ae)
  (hw:xi mA ns) (hsz:ns.length<=aI)
  (h:∀h',GS h' x dx C (λy=>if y=name then aa v else mA y)->bO dx s.heap h'->Q () {s with heap:=h',toks:=s.toks+2}):
  a8 (bd prog w) A (setAttr (.ref x) name v) Q E s:=by
 let(B,J,D):=I.look;exact PySem.W.set_plain X J l (PySem.W.osa_open (s:={s with toks:=s.toks+1}) (r:=ac) X J o p λb=>?_)
 let(H,hc,e):=PySem.W.any_some hh;let q:s.heap.get? x=aa ⟨.ref C,aa dx,.plain,#[]⟩:=I.obj;exact ai (aG (ai (ai (wpAny_loadPart q (ai (PySem.W.Looks.here (s:={s with toks:=s.toks+1}) (PySem.W.looks_clsIn X hc) ?_))))))
 rw[e];exact aG (a:=aa dx) (ai (aG (ai ?_)));exact wpAny_nsSet1 (s:={s with toks:=s.toks+1}) I.ns λh' c d=>?_
 let(L,u,z,f,i,j):=c.count (xi.cons name v hw);exact ai (wpAny_lookBehind f (by rw[i];exact pastItsLine_dict (bq j (by rw[aK];omega))) ?_);exact aG (h _ ⟨(d.2 _ (jl I.ne)).trans I.obj,c,I.ne⟩ d)
def IH {R:Result->aw->Prop}{vs:List ag}(X:K.In s.heap)(b:yd K C=ae)(c:iy K (.ref C) "__init__"=aa (aa (.ref f)))(e:PySem.W.typeIn K (.ref f)=aa (.type "function"))(h:qM (bd prog w) (A.under (.builtin "type.__call__" ⟨.ref C::vs,kw⟩)) (.call (.ref f) ⟨.ref (s.heap.objs.size+1)::vs,kw⟩) (PySem.W.InitBack (s.heap.objs.size+1) R)
   {s with heap:=(s.heap.push gQ).push (jd C s.heap.objs.size)}):
  qM (bd prog w) A (.call (.ref C) ⟨vs,kw⟩) R s:=by
 let(i,g,d,t,os):=s;exact PySem.W.make_core (PySem.W.makes_of X b) (PySem.W.looks_findIn X c) (λa=>PySem.W.bind_fn X a e) (.inl rfl) h
end
def fI (f:Str)(v:V):List (Str×V)->List (Str×V)
 |[]=>[(f,v)]
 |(g,x)::r=>if g=f then(g,v)::r else(g,x)::fI f v r
theorem xn (f g:Str)(v:V):∀fs:List (Str×V),(fI f v fs).lookup g=if g=f then aa v else fs.lookup g
 |[]=>by
  show jz g [(f,v)]=_;by_cases h:g=f
  ·let a:(g==f)=ae:=beq_iff_eq.mpr h;simp only[jz,a,jN h]
  ·let a:(g==f)=af:=beq_eq_false_iff_ne.mpr h;simp only[jz,a,iQ h]
 |(k,x)::r=>by
  let c:=xn f g v r;rw[show fI f v ((k,x)::r)=(if k=f then(k,v)::r else(k,x)::fI f v r) from rfl]
  by_cases b:k=f
  ·rw[jN b];by_cases h:g=k
   ·let a:(g==k)=ae:=beq_iff_eq.mpr h;simp only[jz,a,jN (h.trans b)]
   ·let a:(g==k)=af:=beq_eq_false_iff_ne.mpr h;simp only[jz,a,iQ (λe:g=f=>h (e.trans b.symm))]
  ·rw[iQ b];by_cases h:g=k
   ·let a:(g==k)=ae:=beq_iff_eq.mpr h;simp only[jz,a,iQ (λe:g=f=>b (h.symm.trans e))]
   ·let a:(g==k)=af:=beq_eq_false_iff_ne.mpr h;simp only[jz,a];exact c
theorem wL (f:Str)(v:V):∀fs:List (Str×V),f∈(fI f v fs).map (·.1)/\∀g,g∈fs.map (·.1)->g∈(fI f v fs).map (·.1)
 |[]=>⟨by simp[fI],λg h=>by simp at h⟩
 |(k,x)::r=>by
  let(b,c):=wL f v r;rw[show fI f v ((k,x)::r)=(if k=f then(k,v)::r else(k,x)::fI f v r) from rfl]
  by_cases a:k=f
  ·rw[jN a];subst a;exact(by simp,λg h=>by simpa using h)
  ·rw[iQ a];exact(?_,λg h=>?_)
   ·rw[bB];exact au _ b
   ·rw[bB] at h⊢;rcases az.mp h with e|e
    ·exact az.mpr (.inl e)
    ·exact au _ (c g e)
theorem xp (f:Str)(v:V):∀fs:List (Str×V),(fI f v fs).length<=fs.length+1
 |[]=>by simp[fI]
 |(k,x)::r=>by
  let b:=xp f v r;rw[show fI f v ((k,x)::r)=(if k=f then(k,v)::r else(k,x)::fI f v r) from rfl]
  by_cases a:k=f
  ·rw[jN a,aK,aK];omega
  ·rw[iQ a,aK,aK];omega
def uj.some_of {o:Option ag}(r:uj (aa v) o):∃u,o=aa u/\eA v u:=by
 cases o with
 |none=>exact(show False from r).elim
 |some u=>exact(u,rfl,r)
def GV (r:eA v u):PySem.W.handedIn u=ae:=by
 cases v with
 |non=>cases (show u=kX from r);rfl
 |bl b=>cases (show u=r9 b from r);rfl
 |int i=>let(t,e):=(show∃t,u=iY i t from r);cases e;rfl
 |str x=>let(t,e):=(show∃t,u=yb x t from r);cases e;rfl
 |byt b=>let(t,e):=(show∃t,u=ag.bytes b t from r);cases e;rfl
 |flt b=>let(t,e):=(show∃t,u=ag.float b t from r);cases e;rfl
 |ref a=>cases (show u=bI a from r);rfl
 |ty n=>cases (show u=jF n from r);rfl
section
variable {P:aO} {w:World} {H H':Hp} {h h':Heap} {a C dx:Addr} {fs fs':List (Str×V)}
def vM (b:oE P w H h)(e:H a=aa (.ins C dx fs)):∃mA,GS h a dx C mA/\(∀f,uj (fs.lookup f) (mA f))/\xi mA (fs.map (·.1))/\fs.length<=1000/\H dx=aa (.own a):=by
 let(d,z,c,i,mA,n,r,q):=(show iJ P w H h a (.ins C dx fs) from b a _ e);exact(mA,⟨i,n,c⟩,r,q,z,d)
end
structure K4 (K:am)(C:Addr):Prop where
 pg:qL K C Str.empty=ae
 hd:qc K C=ae
 po:wz K C=ae
 sa:iy K (.ref C) "__setattr__"=aa (aa (.builtin "object.__setattr__"))
def K4.get (c:K4 K C)(f:Str):qL K C f=ae:=c.pg
def eW (K:am)(C:Addr)(f:Str):Prop:=iy K (.ref C) f=aa ac
def eW.taker {f:Str}(n:eW K C f):yc K C f=aa ac:=by
 unfold yc;rw[show iy K (.ref C) f=aa ac from n];rfl
section
variable {X:Cx} {pins:List (Addr×Obj)} {σ:St} {H:Hp} {s:aw} {a C dx:Addr} {fs:List (Str×V)} {f:Str} {v:V} {A:b0} {E:ag->aw->Prop}
def yS {b:Bool}{Q:ag->aw->Prop}(I:cz X pins σ H s)(e:H a=aa (.ins C dx fs))(c:K4 X.K C)(n:eW X.K C f)(l:fs.lookup f=aa v)
  (h:∀u s',cz X pins σ H s'->eA v u->Q u s'):a8 (bd X.prog X.w) A (getAttr (.ref a) f b) Q E s:=by
 let(mA,O,r,_,_,_):=vM I.hok e;let(u,i,d):=uj.some_of (v:=v) (o:=mA f) (by rw[<-l];exact r f);exact K2 I.kIn O (c.get f) c.hd n i (GV d) (h u _ (I.tok _) d)
def yT {y:V}{Q:Unit->aw->Prop}(I:cz X pins σ H s)(e:H a=aa (.ins C dx fs))(c:K4 X.K C)(n:eW X.K C f)(N:fs.length<1000)(l:eA y u)(h:∀s',cz X pins σ (bD H a (.ins C dx (fI f y fs))) s'->Q () s'):a8 (bd X.prog X.w) A (setAttr (.ref a) f u) Q E s:=by
 let(mA,O,r,i,_,j):=vM I.hok e;let p:(fs.map (·.1)).length<=aI:=by rw[aj,nI];omega
 exact K3 I.kIn O c.sa c.po n.taker c.hd i p λv d B=>h _ ?_
 let D:∃o,v.get? dx=aa o:=let ⟨o,_,_,J,_⟩:=d.ns;⟨o,J⟩;exact I.write (x:=a) (e:=dx) (by rw[e];exact dR) (.inr j) (λb q L z=>(B.2 b L).trans z) D ?_;exact(by rw[aF O.ne];exact j,?_,O.ne,d.obj,_,d.ns,λg=>?_,λg M=>?_)
 ·have:=xp f y fs;omega
 ·show uj ((fI f y fs).lookup g) (if g=f then aa u else mA g)
  rw[xn];by_cases q:g=f
  ·rw[jN q,jN q];exact l
  ·rw[iQ q,iQ q];exact r g
 ·by_cases q:g=f
  ·rw[q];exact(wL f y fs).1
  ·exact(wL f y fs).2 g (i g λz=>M ?_);show(if g=f then aa u else mA g)=ac
   rw[iQ q];exact z
def cz.made (I:cz X pins σ H s):cz X pins σ (bD (bD H s.heap.objs.size (.own (s.heap.objs.size+1))) (s.heap.objs.size+1) (.ins C s.heap.objs.size []))
  {s with heap:=(s.heap.push gQ).push (jd C s.heap.objs.size)}:=by
 let c:(s.heap.push gQ).get? s.heap.objs.size=aa gQ:=aY s.heap rfl;let f:((s.heap.push gQ).push (jd C s.heap.objs.size)).get? (s.heap.objs.size+1)=aa (jd C s.heap.objs.size):=by
  have:=aY (s.heap.push gQ) (o:=jd C s.heap.objs.size) rfl
  rwa [dQ] at this
 let i:(s.heap.push gQ).Ns s.heap.objs.size (λ_=>ac):=(WT gQ (#[]) _ c rfl (λe j=>aB j (by simp)) λ_=>rfl);let l:=I.laid (a:=s.heap.objs.size) (o:=.own (s.heap.objs.size+1)) (h':=s.heap.push gQ) (t':=s.toks) (λb u q=>aE _ q) (aH _) ⟨_,c⟩;exact l.laid (a:=s.heap.objs.size+1) (o:=.ins C s.heap.objs.size []) (t':=s.toks) (λb u q=>aE _ q) (pI (dQ _ _)) ?_;let d:s.heap.objs.size≠s.heap.objs.size+1:=bn (lF _);exact(by rw[aF d,ak],aR _,d,f,λ_=>ac,(Heap.Ns1.of_empty i).at λo q=>aE _ q,λ_=>dR,λy p=>aB rfl p)
def K5 {prog:aO}{env:Env}{f:Str}{s:aw}{Q:ag->aw->Prop}(a:fY e f env (eval e env)=eval e env)(h:a8 (bd prog w) A (eval e env) (λo b=>a8 (bd prog w) A (getAttr o f ae) Q E b) E s):a8 (bd prog w) A (eval (.Attribute e f pos) env) Q E s:=
 Attribute_any_ h (by rw[arm_eval_Attribute,a])
end
def EA (K:am)(d:TE)(f:Str):TE:=λσ H Q=>d σ H λx b=>∃a C e c v,x=.ref a/\b a=aa (.ins C e c)/\K4 K C/\eW K C f/\c.lookup f=aa v/\Q v b
def RY (K:am)(e i:TE)(f:Str):TS:=λD σ H=>i σ H λy j=>e σ j λx c=>∃a C d b,x=.ref a/\c a=aa (.ins C d b)/\K4 K C/\eW K C f/\b.length<1000/\
 D.nx σ (bD c a (.ins C d (fI f y b)))
def PJ (X:Cx)(op:Fe)(a:V->V->Hp->VK->Prop):Prop:=
 ∀(pins:List (Addr×Obj)) (s:aw) (σ:St) (H:Hp) (x y:V) (u v:ag) (Q:VK),cz X pins σ H s->eA x u->eA y v->a x y H Q->a8 (bd X.prog X.w) X.A (BZ op u v) (EP X pins σ Q) X.xe s
def K6 (K:am)(j l:TE)(o:V->V->Hp->VK->Prop)(f:Str):TS:=λD σ H=>j σ H λx d=>∃a C p e v,x=.ref a/\d a=aa (.ins C p e)/\K4 K C/\eW K C f/\e.lookup f=aa v/\
 l σ d λy q=>o v y q λz i=>∃c b,i a=aa (.ins C c b)/\b.length<1000/\D.nx σ (bD i a (.ins C c (fI f z b)))
section
variable {X:Cx} {o e value:Expr} {f:Str} {pos pos' tpos:Pos} {ta tv:TE}
def nX (b:PE X e ta)(d:fY e f X.env (eval e X.env)=eval e X.env):PE X (.Attribute e f pos) (EA X.K ta f):=by
 intro pins s σ H Q I h;exact K5 d (hJ (b pins s σ H _ I h) λu z x'=>V22 x' λx i j o x'=>V5 x' λa C A B v x'=>X5 x' λp r c n l q=>?_);subst p;obtain rfl:u=bI a:=o;exact yS j r c n l λD E w y=>⟨v,i,w,y,q⟩
def fN (b:PE X o ta)(d:PE X value tv)(e:xM value (aa (.Attribute o f pos')) pos.line X.env=pure af):PS X (.Assign [.Attribute o f pos'] value pos) (RY X.K ta tv f):=by
 intro pins s σ H D I h;exact plainObj_wpAny_Assign_Attribute (hJ (d pins s σ H _ I h) λu i x'=>V22 x' λy j p r q=>hJ (b pins i σ j _ p q) λv L x'=>V22 x' λx M w z x'=>V4 x' λa C N O x'=>X5 x' λA B c n l E=>?_) e;subst A;obtain rfl:v=bI a:=z;exact yT w B c n l r λQ J=>⟨σ,_,J,E⟩
def Ae {op:Fe}{e:V->V->Hp->VK->Prop}(i:PE X o ta)(j:PE X value tv)(b:PJ X op e):PS X (.AugAssign (.Attribute o f tpos) op value pos) (K6 X.K ta tv e f):=by
 intro pins s σ H D I h;exact wpAny_AugAssign_AttributeAny (hJ (i pins s σ H _ I h) λp s1 x'=>V22 x' λx r w A x'=>V5 x' λa C dx fs v x'=>X5 x' λB E c n l q=>?_);subst B;obtain rfl:p=bI a:=A;exact yS w E c n l λu J L M=>hJ (j pins J σ r _ L q) λN O x'=>V22 x' λy Q T Y q3=>hJ (b pins O σ Q v y u N _ T M Y q3) λw4 s4 x'=>V22 x' λz H3 I4 rz x'=>V22 x' λa3 a4 d l' q4=>?_
 exact yT I4 d c n l' rz λs5 I5=>⟨σ,_,I5,q4⟩
def RZ:V->V->Hp->VK->Prop:=λx y H Q=>∃i j,x=.int i/\y=.int j/\Q (.int (i+j)) H
def II:PJ X .Add RZ:=by
 intro pins s σ H x y u v Q I a b x';let(i,j,rfl,rfl,q):=x';let(t,rfl):=(show∃t,u=iY i t from a);let(t',rfl):=(show∃t',v=iY j t' from b);exact PyProof.Rows.iadd_int (WJ (.int (i+j)) H (I.tok _) ⟨_,rfl⟩ q)
end
section
variable {X:Cx} {pins:List (Addr×Obj)} {σ:St} {H:Hp} {s:aw} {A:b0} {E:ag->aw->Prop} {Q:ag->aw->Prop} {c:ag} {b:Bool}
end
structure jC (k:Nat)(A:b0):Prop where
 hd:A.handled=ac
 dp:A.depth+3*k+5<recursionLimit
 un:A.units+16*k+200<oq
def jC.mono {j k:Nat}(r:jC k A)(h:j<=k):jC j A:=⟨r.hd,by have:=r.dp;omega,by have:=r.un;omega⟩
theorem jC.deeper {k:Nat}(r:jC (k+1) A)(env:Env):jC k (A.deeper env):=
 ⟨r.hd,by have:=r.dp;show A.depth+1+3*k+5<_;omega,by have:=r.un;show A.units+3+16*k+200<_;omega⟩
theorem jC.in1 {k:Nat}(r:jC (k+1) A):jC k A.in1:=
 ⟨r.hd,by have:=r.dp;show A.depth+3*k+5<_;omega,by have:=r.un;show A.units+1+16*k+200<_;omega⟩
def EB:(A.under (.builtin "type.__call__" ⟨.ref C::us,kw⟩)).depth=A.depth+1:=by
 first|rfl|simp[B7,Code.weight,Code.isCreation,Code.isGuard,Code.isCaller,Code.frames,D4,guardIds]
def EC:(A.under (.builtin "type.__call__" ⟨.ref C::us,kw⟩)).units=A.units+1:=by
 first|rfl|simp[B7,Code.cUnits,Code.frames,D4]
def jC.make {k:Nat}(r:jC (k+1) A)(C:Addr)(us:List ag)(kw:List (Str×ag)):jC k (A.under (.builtin "type.__call__" ⟨.ref C::us,kw⟩)):=
 ⟨r.hd,by have:=r.dp;rw[EB];omega,by have:=r.un;rw[EC];omega⟩
theorem jC.depth {k:Nat}(r:jC k A):A.depth<recursionLimit:=by have:=r.dp;omega
theorem jC.units {k:Nat}(r:jC k A):A.units+64<oq:=by have:=r.un;omega
def Bo:TA:=λ_ H Q=>Q [] H
def vN (a:TE)(b:TA):TA:=λσ H Q=>a σ H λx c=>b σ c λd e=>Q (x::d) e
section
variable {X:Cx} {e:Expr} {es:List Expr} {te:TE} {t:TA} {pos:Pos}
def ng:PA X [] Bo:=λ_ _ _ _ H Q I h=>mO ⟨[],H,I,.nil,h⟩
def aS (a:PE X e te)(b:PA X es t)(c:bp (e::es) X.env=(af,eval e X.env)::bp es X.env:=by rfl):PA X (e::es) (vN te t):=by
 intro pos pins s σ H Q I h;rw[c];show a8 _ _ (spliced ((af,eval e X.env)::iO pos (bp es X.env))) _ _ s;exact ke (hJ (a pins s σ H _ I h) λu d x'=>V22 x' λx f i j l=>?_);exact hJ (b pos pins d σ f _ i l) λus w x'=>V22 x' λo p q r v=>⟨x::o,p,q,.cons j r,v⟩
def R0 (t:TA):TE:=λσ H Q=>t σ H λa b=>a.length<=aI/\∀p,b p=ac->Q (.ref p) (bD b p (.tup a))
def R1 (t:TA):TE:=λσ H Q=>t σ H λa b=>a.length<=aI/\∀p,b p=ac->Q (.ref p) (bD b p (.lst a))
def lM {x1}(h:PA X es t):PE X (.Tuple es x1 pos) (R0 t):=by
 intro pins s σ H Q I f;exact wpAny_Tuple_spliced (hJ (h pos pins s σ H _ I f) λus a x'=>V23 x' λi c d r z q=>⟨by rw[<-r.length];exact z,?_⟩);let j:c a.heap.objs.size=ac:=d.hok.fresh (aH _);exact WJ (.ref a.heap.objs.size) (bD c a.heap.objs.size (.tup i)) (d.laid (t':=a.toks) (λb u e=>aE _ e) (aH _) ?_) rfl (q _ j);exact(z,us,r,⟨_,aY _ rfl,rfl,_,rfl⟩)
def cr (h:PA X es t):PE X (.List es pos) (R1 t):=by
 intro pins s σ H Q I f;exact wpAny_List_spliced (hJ (h pos pins s σ H _ I f) λus a x'=>V23 x' λi c d r z q=>⟨by rw[<-r.length];exact z,?_⟩);let j:c a.heap.objs.size=ac:=d.hok.fresh (aH _);exact WJ (.ref a.heap.objs.size) (bD c a.heap.objs.size (.lst i)) (d.laid (t':=a.toks) (λb u e=>aE _ e) (aH _) ?_) rfl (q _ j);exact(z,us,0,r,aY _ rfl)
end
abbrev Sp:=List V->Hp->VK->XK->Prop
abbrev HP:=List Env->Hp->aw->XK->ag->aw->Prop
structure wM (P:aO)(w:World)(K:am)(mg:Str->Option ag)(base:Heap)(A:b0)(outer:List Env)(s:aw)(H:Hp):Prop where
 frames:A.frames=aa outer
 mod:RG K mg base
 bs:∀b o,base.get? b=aa o->s.heap.get? b=aa o/\H b=ac
 bsz:base.objs.size<=s.heap.objs.size
 funs:s.heap.FunFrames base outer
 frf:∀b∈wJ outer,H b=ac
 hok:oE P w H s.heap
 bare:vc s.gens
def CE (outer:List Env)(P:aO)(w:World)(H:Hp)(s:aw)(Q:VK)(u:ag)(s':aw):Prop:=
 ∃v a,s'.os=s.os/\vc s'.gens/\Un (wJ outer) [] H a s.heap s'.heap/\oE P w a s'.heap/\eA v u/\Q v a
def CR (a:HP)(outer:List Env)(P:aO)(w:World)(H:Hp)(s:aw)(Q:VK)(E:XK)(r:Result)(s':aw):Prop:=
 match r with
 | .ok (.ret u)=>CE outer P w H s Q u s'
 | .ok _=>False
 | .error e=>a outer H s E e s'
structure du (P:aO)(w:World)(K:am)(mg:Str->Option ag)(base:Heap)(CX:HP)(k:Nat)(f:Addr)(fd:gr)(ps:List Str)(sp:Sp):Prop where
 len:∀vs H Q E,sp vs H Q E->vs.length=ps.length
 run:∀(A:b0) (outer:List Env) (s:aw) (H:Hp) (args:Args) (us:List ag) (vs:List V) (Q:VK) (E:XK),jC k A->wM P w K mg base A outer s H->Ks s fd args (ps.zip us)->eI vs us->sp vs H Q E->
  qM (bd P w) A (.call (.ref f) args) (CR CX outer P w H s Q E) s
theorem du.mono {b:HP}{j k:Nat}{f:Addr}{fd:gr}{sp:Sp}(F:du P w K mg base b j f fd ps sp)(h:j<=k):
  du P w K mg base b k f fd ps sp:=⟨F.len,λA outer s H a us c Q E d=>F.run A outer s H a us c Q E (d.mono h)⟩
def wM.make (e:wM P w K mg base A outer s H)(C:Addr)(us:List ag)(kw:List (Str×ag)):
  wM P w K mg base (A.under (.builtin "type.__call__" ⟨.ref C::us,kw⟩)) outer s H:=⟨by first|exact e.frames|(simpa [B7,Code.envs,D4,pushEnvs] using e.frames),e.mod,e.bs,e.bsz,e.funs,e.frf,e.hok,e.bare⟩
theorem wM.in1 (e:wM P w K mg base A outer s H):
  wM P w K mg base A.in1 outer s H:=⟨e.frames,e.mod,e.bs,e.bsz,e.funs,e.frf,e.hok,e.bare⟩
section
variable {X:Cx} {pins:List (Addr×Obj)} {σ:St} {H:Hp} {s s':aw}
def cz.env0 (I:cz X pins σ H s):wM X.prog X.w X.K X.mg X.base X.A X.stack s H:=
 ⟨I.ok.frames,I.ok.mod,I.bs,bq I.ok.bsz I.sz,I.stack,I.stkFree,I.hok,I.bare⟩
def cz.after (I:cz X pins σ H s)(h:CE X.stack X.prog X.w H s Q u s'):EP X pins σ Q u s':=by
 let(v,f,os,a,i,c,r,q):=h;let(j,g,d,t,e):=s';obtain rfl:e=s.os:=os;exact(v,f,I.call (h':=j) (g':=g) (d':=d) (t':=t) (ch:=[]) i c a (λb z=>aB z (by simp)),r,q)
end
def FD (sp:Sp)(a:List V)(E:XK)(t:TA):TE:=λσ H Q=>t σ H λb c=>sp (b++a) c Q E
def xq (C:Addr)(sp:Sp)(b:List V)(E:XK)(t:TA):TE:=λσ H Q=>t σ H λd c=>∀x a,c x=ac->c a=ac->a≠x->
 sp (.ref x::(d++b)) (bD (bD c a (.own x)) x (.ins C a [])) (λv e=>v=.non/\Q (.ref x) e) E
def rG (K:am)(fd:gr)(ps:List Str)(ds:List ag):Prop:=
 ∀(s:aw) (us:List ag),K.In s.heap->(us++ds).length=ps.length->Ks s fd ⟨us,[]⟩ (ps.zip (us++ds))
def rG.all {fd:gr}(h:∀us:List ag,us.length=ps.length->bindArgs fd ⟨us,[]⟩=pure (ps.zip us)):rG K fd ps []:=λs us _ a=>by
 rw[dM] at a⊢;exact .of_eq (h us a)
def sL (b:HP)(X:Cx)(E:XK):Prop:=∀(pins:List (Addr×Obj)) (σ:St) (H:Hp) (s:aw) (e:ag) (a:aw),cz X pins σ H s->b X.stack H s E e a->X.xe e a
variable {vs:List V}
section
variable {X:Cx} {CX:HP} {k:Nat} {f C:Addr} {fd:gr} {ps:List Str} {sp:Sp} {dvs:List V} {ds:List ag} {E:XK} {x m:Str} {p pos apos:Pos} {e o:Expr} {es:List Expr} {ta:TE} {t:TA}
def IJ (F:du X.prog X.w X.K X.mg X.base CX k f fd ps sp)(c:jC k X.A)(d:rG X.K fd ps ds)(i:eI dvs ds)(j:sL CX X E)(I:cz X pins σ H s)(r:eI vs us)(h:sp (vs++dvs) H Q E):a8 (bd X.prog X.w) X.A (call (.ref f) us) (EP X pins σ Q) X.xe s:=by
 let b:eI (vs++dvs) (us++ds):=r.append i;let l:(us++ds).length=ps.length:=by rw[<-b.length];exact F.len _ _ _ _ h
 exact vd (i9 (F.run X.A X.stack s H ⟨us,[]⟩ (us++ds) (vs++dvs) Q E c I.env0 (d s us I.kIn l) b h) λr o a=>?_)
 cases r with
 |error e=>exact j pins σ H s e o I a
 |ok fl=>
  cases fl with
  |ret u=>exact I.after a
  |next=>exact dE a
  |brk=>exact dE a
  |cont=>exact dE a
def FE (F:du X.prog X.w X.K X.mg X.base CX k f fd ps sp)(d:jC k X.A)(i:Gl X x)(j:X.mg x=aa (.ref f))(l:iz X.K (.ref f)=ae)(o:rG X.K fd ps ds)(u:eI dvs ds)(v:sL CX X E)
  (y:PA X (e::es) t) (a:(x==("__debug__":Str))=af:=by decide) (z:bp (e::es) X.env=(af,eval e X.env)::bp es X.env:=by rfl) (b:(iO pos (bp es X.env)).any (·.1)=af:=by rfl):
  PE X (.Call (.Name x p) (e::es) [] pos) (FD sp dvs E t):=by
 intro pins s σ H Q I h;exact js (oF I i j ?_ a);exact pq (h₀:=X.base) I.ok.mod.kin l (hJ (y pos pins s σ H _ I h) λus B x'=>V22 x' λvs C c r q=>⟨c.kIn,?_⟩) z b;exact IJ F d o u v c r q
structure Mk (K:am)(C f:Addr):Prop where
 makes:yd K C=ae
 init:iy K (.ref C) "__init__"=aa (aa (.ref f))
 fn:PySem.W.isFn K (.ref f)=ae
 kp:iz K (.ref C)=ae
theorem CD (M:Mk X.K C f)(F:du X.prog X.w X.K X.mg X.base CX k f fd ps sp)(i:jC (k+1) X.A)(j:rG X.K fd ps ds)(l:eI dvs ds)(o:sL CX X E)(I:cz X pins σ H s)(r:eI vs us)(h:∀x dx,H x=ac->H dx=ac->dx≠x->sp (.ref x::(vs++dvs)) (bD (bD H dx (.own x)) x (.ins C dx [])) (λv p=>v=.non/\Q (.ref x) p) E):
  a8 (bd X.prog X.w) X.A (call (.ref C) us) (EP X pins σ Q) X.xe s:=by
 let c:=h (s.heap.objs.size+1) s.heap.objs.size (I.hok.fresh (oN _)) (I.hok.fresh (aH _)) (bn (lF _));let b:=cz.made (C:=C) I;let d:eI (V.ref (s.heap.objs.size+1)::(vs++dvs)) (bI (s.heap.objs.size+1)::(us++ds)):=.cons rfl (r.append l);let q:(bI (s.heap.objs.size+1)::us++ds).length=ps.length:=by
  let e:=d.length;rw[F.len _ _ _ _ c] at e;exact e.symm
 exact vd (IH (f:=f) I.kIn M.makes M.init (beq_iff_eq.mp M.fn) (i9 (F.run _ X.stack _ _ ⟨bI (s.heap.objs.size+1)::us,[]⟩ (bI (s.heap.objs.size+1)::(us++ds)) _ _ E (i.make C us [])
  (b.env0.make C us []) (j _ (bI (s.heap.objs.size+1)::us) b.kIn q) d c) λr y a=>?_))
 cases r with
 |error e=>exact o pins σ _ _ e y b a
 |ok fl=>
  cases fl with
  |ret u=>
   let(v,z,B,D,J,L):=b.after a;subst J;exact(D,⟨V.ref (s.heap.objs.size+1),z,B,rfl,L⟩)
  |next=>exact dE a
  |brk=>exact dE a
  |cont=>exact dE a
def tY (M:Mk X.K C f)(F:du X.prog X.w X.K X.mg X.base CX k f fd ps sp)(d:jC (k+1) X.A)(i:Gl X x)(j:X.mg x=aa (.ref C))(l:rG X.K fd ps ds)(o:eI dvs ds)(u:sL CX X E)
  (v:PA X (e::es) t) (a:(x==("__debug__":Str))=af:=by decide) (y:bp (e::es) X.env=(af,eval e X.env)::bp es X.env:=by rfl) (b:(iO pos (bp es X.env)).any (·.1)=af:=by rfl):
  PE X (.Call (.Name x p) (e::es) [] pos) (xq C sp dvs E t):=by
 intro pins s σ H Q I h;exact js (oF I i j ?_ a);exact pq (h₀:=X.base) I.ok.mod.kin M.kp (hJ (v pos pins s σ H _ I h) λus z x'=>V22 x' λvs B c r q=>⟨c.kIn,?_⟩) y b;exact CD M F d l o u c r q
def IK (M:Mk X.K C f)(F:du X.prog X.w X.K X.mg X.base CX k f fd ps sp)(b:jC (k+1) X.A)(c:Gl X x)(d:X.mg x=aa (.ref C))(e:rG X.K fd ps ds)(i:eI dvs ds)(j:sL CX X E)
  (a:(x==("__debug__":Str))=af:=by decide):PE X (.Call (.Name x p) [] [] pos) (xq C sp dvs E Bo):=by
 intro pins s σ H Q I h;exact js (oF I c d ?_ a);exact PySem.W.callWith_K0 I.kIn M.kp (CD (us:=[]) M F b e i j I .nil h)
end
section
variable {X:Cx} {CX:HP} {k:Nat} {f C:Addr} {fd:gr} {ps ks:List Str} {sp:Sp} {E:XK} {x m:Str} {p pos apos kpos:Pos} {e o:Expr} {es:List Expr} {kws:List lZ} {te ta:TE} {t tk:TA} {nm:Option Str}
variable {g:List ag->List ag->List ag} {gV:List V->List V->List V}
end
structure bo (N P:List Str)(sc:ku):Prop where
 kind:sc.kind=.function
 co:sc.isCoroutine=af
 gen:sc.isGenerator=af
 nd:N.Nodup
 pre:N.take P.length=P
 par:∀x∈P,sc.names.lookup x=aa .local\/sc.names.lookup x=aa .cell
 nofree:∀y∈sc.names,y.2≠.free
theorem Af {kindOf:Str->Option fA}{x:Str}:∀{a:List (Str×ag)} {m:Str->Option ag},(∀v,(x,v)∉a)->HV kindOf a m x=m x
 |[],_,_=>rfl
 |(n,v)::r,m,h=>by
  unfold HV;rw[Af λw hw=>h w (au _ hw)];split
  ·have:x≠n:=by rintro rfl;exact h v aD
   simp[this]
  ·rfl
theorem Ag {kindOf:Str->Option fA}{x:Str}:∀{a:List (Str×ag)} {m:Str->Option ag},(∀v,(x,v)∉a)->HW kindOf a m x=m x
 |[],_,_=>rfl
 |(n,v)::r,m,h=>by
  unfold HW;rw[Ag λw hw=>h w (au _ hw)];split
  ·rfl
  ·have:x≠n:=by rintro rfl;exact h v aD
   simp[this]
theorem Ah {kindOf:Str->Option fA}{x:Str}{v:ag}:∀{P:List Str} {vs:List ag} {i:Nat} {m:Str->Option ag},P.Nodup->P[i]?=aa x->vs[i]?=aa v->kindOf x=aa .local->
  HV kindOf (P.zip vs) m x=aa v
 |[],_,_,_,_,h,_,_=>by simp at h
 |_::_,[],_,_,_,_,h,_=>by simp at h
 |p::P,w::vs,0,m,c,a,b,d=>by
  simp at a b;subst a;subst b;show HV kindOf ((p,w)::P.zip vs) m p=_;unfold HV;rw[Af λv e=>(bR.mp c).1 (ky e).1,jN d];simp
 |p::P,w::vs,i+1,m,c,a,b,d=>by
  show HV kindOf ((p,w)::P.zip vs) m x=_;unfold HV;exact Ah (i:=i) (bR.mp c).2 (by simpa using a) (by simpa using b) d
theorem Ai {kindOf:Str->Option fA}{x:Str}{v:ag}:∀{P:List Str} {vs:List ag} {i:Nat} {m:Str->Option ag},P.Nodup->P[i]?=aa x->vs[i]?=aa v->kindOf x≠aa .local->
  HW kindOf (P.zip vs) m x=aa v
 |[],_,_,_,_,h,_,_=>by simp at h
 |_::_,[],_,_,_,_,h,_=>by simp at h
 |p::P,w::vs,0,m,c,a,b,d=>by
  simp at a b;subst a;subst b;show HW kindOf ((p,w)::P.zip vs) m p=_;unfold HW;rw[Ag λv e=>(bR.mp c).1 (ky e).1,iQ d];simp
 |p::P,w::vs,i+1,m,c,a,b,d=>by
  show HW kindOf ((p,w)::P.zip vs) m x=_;unfold HW;exact Ai (i:=i) (bR.mp c).2 (by simpa using a) (by simpa using b) d
def pN (N:List Str)(vs:List V):St:=vs.map aa++eL (N.length-vs.length) ac
def um (c:HP)(P:aO)(w:World)(K:am)(mg:Str->Option ag)(base:Heap)(N:List Str)(qual:Str)(a:ku)(f:Addr)(cd:ag)(A:b0)(outer:List Env)(s:aw)(H:Hp)(E:XK):Cx where
 prog:=P
 w:=w
 K:=K
 mg:=mg
 base:=base
 A:=A.deeper (rC qual a s.heap.objs.size f cd)
 N:=N
 s_0:=s
 H_0:=H
 env:=rC qual a s.heap.objs.size f cd
 outer:=outer
 stack:=rC qual a s.heap.objs.size f cd::outer
 ex:=[]
 calm:=ae
 fn:=λ_=>ae
 pn:=[]
 xe:=λe d=>a8 (bd P w) (A.deeper (rC qual a s.heap.objs.size f cd)) (leaving (rC qual a s.heap.objs.size f cd) e) (λ_ b=>c outer H s E e b) (λi b=>c outer H s E i b) d
def CG {a:ku}{n:Nat}{x:Str}(h:a.names.lookup x=aa .cell):∃c,(eY n a.names []).lookup x=aa c:=by
 let q:=B0 a.names n [] (.inl h);exact bF.mp q
def GW {J:HP}{qual:Str}{d:ku}{f:Addr}{cd:ag}{L:aw}{E:XK}(S:bo N ps d)(Q:A.handled=ac)(l:wM P w K mg base A outer s H)(hl:vs.length=ps.length)(r:eI vs us)(x:InCallC s s.heap.objs.size (HV (rC qual d s.heap.objs.size f cd).kindOf (ps.zip us) λ_=>ac) (eY (s.heap.objs.size+1) d.names []) (HW (rC qual d s.heap.objs.size f cd).kindOf (ps.zip us) λ_=>ac) L):
  cz (um J P w K mg base N qual d f cd A outer s H E) [] (pN N vs) H L:=by
 let T:ps.length<=N.length:=by have:=congrArg mz S.pre;rw[cO] at this;omega
 let(D,tk,rfl,M):=x.done;let o:∀b:Addr,b∉(um J P w K mg base N qual d f cd A outer s H E).ex:=λb z=>aB (show b∈([]:List Addr) from z) (by simp)
 exact⟨⟨l.mod,S.kind,rfl,rfl,aH _,λy z c D j=>?_,λy hy=>?_,λy c _ h=>?_,λ_=>Q,D5 l.frames,.inr ⟨rfl,rfl⟩,λb z=>aB z (o b),l.bs,l.bsz,λb _ _=>o b,λb z=>aB z (o b),l.funs,l.frf⟩,
  rfl,l.bare,Un.kept M,(WL _ x.toInCall.ns λi y v D j h3=>?_),λy c h=>⟨_,x.cell y c h⟩,l.hok.fresh (aH _),λy c h=>?_,λp B=>aB (show p∈([]:List (Addr×Obj)) from B) (by simp),l.hok.kept M,?_⟩
 ·exact name_of_addr x.apart (cD D) (cD j)
 ·let hy:d.names.lookup y=aa .cell\/d.names.lookup y=aa .free:=hy;rcases hy with hy|hy
  ·exact CG hy
  ·exact aB rfl (S.nofree _ (cD hy))
 ·exact dY (x.above y c (cD h))
 ·let I:i<vs.length:=by
   unfold pN at j;by_cases I:i<vs.length
   ·exact I
   ·rw[qd (by simpa using I)] at j
    rw[List.getElem?_replicate] at j;split at j<;>cases j
  let Y:vs[i]?=aa v:=by
   unfold pN at j;rw[qu (by simpa using I),bZ] at j
   cases e:vs[i]? with
   |none=>rw[e] at j;cases j
   |some a=>rw[e] at j;cases j;rfl
  let(u,O,rv):=r.get Y;let B:ps[i]?=aa y:=by
   rw[<-S.pre,List.getElem?_take_of_lt ⋯];exact D
  let C:ps.Nodup:=by rw[<-S.pre];exact S.nd.sublist (xH _ _)
  exact(u,rv,?_);rcases S.par y (bj B) with k|k
  ·exact .inl ⟨k,Ah C B O k⟩
  ·let(c,e):=CG (n:=s.heap.objs.size+1) k;exact .inr ⟨.inl k,c,e,?_⟩;let q:=x.cell y c e;rw[Ai C B O (by show d.names.lookup y≠_;rw[k];decide)] at q;exact q
 ·exact l.hok.fresh (dY (x.above y c (cD h)))
 ·unfold pN;show _=N.length;rw[aQ,aj,List.length_replicate];omega
theorem IL {L:HP}{k:Nat}{f:Addr}{name qual:Str}{d:HX}{a:ku}{dV kV z pm c ct oc:ag}{an od:Option Addr}{O:Array (Option ag)}{sp:Sp}(lk:K.lookup f=aa ⟨oc,od,.func (jm name qual d body a dV kV z pm an c ct),O⟩)(T:pw K c qual=ae)(S:bo N ps a)(len:∀vs H Q E,sp vs H Q E->vs.length=ps.length)(j:∀(A:b0) (outer:List Env) (s:aw) (H:Hp) (vs:List V) (Q:VK) (E:XK),jC k (A.deeper (rC qual a s.heap.objs.size f c))->sp vs H Q E->
   ∃t,B5 (um L P w K mg base N qual a f c A outer s H E) body t/\t {nx:=λ_ i=>Q .non i,rt:=Q} (pN N vs) H):
  du P w K mg base L (k+1) f (jm name qual d body a dV kV z pm an c ct) ps sp:=by
 exact(len,λA outer s H ab us vs Q E Y B hb r C=>?_);let hl:=len _ _ _ _ C;let KX:K.In s.heap:=B.mod.kin.keeps λb o e=>(B.bs b o e).1
 let a0:s.heap.NoLimit:=B.mod.nolimit.keeps λb o e=>(B.bs b o e).1
 let l:∀y∈ps.zip us,a.names.lookup y.1=aa .local\/(a.names.lookup y.1=aa .cell/\((eY (s.heap.objs.size+1) a.names []).lookup y.1).isSome=ae):=λ⟨n,v⟩ hy=>by
  rcases S.par n (ky hy).1 with q|q
  ·exact .inl q
  ·exact .inr ⟨q,B0 _ _ _ (.inl q)⟩
 exact codeAny_call_function Y.depth (KX _ _ lk) rfl S.co S.gen rfl (PySem.W.codeRec_of KX T) (hb _ _ _ _ ?_);exact wpAny_newFunctionEnv_cells S.kind l λa' he s1 x=>?_
 subst he;exact(a0.keeps x.toInCall.keep,codeAny_func ?_);let(t,ht,hq):=j A outer s H vs Q E (Y.deeper _) C;let I:cz (um L P w K mg base N qual a f c A outer s H E) [] (pN N vs) H s1:=GW S Y.hd B hl r x;exact gy (ht [] s1 (pN N vs) H _ I hq) (λfl s' p=>?_) λe s' p=>p
 let D:∀{M:St} {i:Hp} {v:V} {u:ag},cz (um L P w K mg base N qual a f c A outer s H E) [] M i s'->eA v u->Q v i->CE outer P w H s Q u s':=
  λ{M i v u} J rv q=>⟨v,i,J.os,J.bare,J.base,J.hok,rv,q⟩
 cases fl with
 |ret u=>
  let(v,M,i,J,rv,q):=p;exact D J rv q
 |next=>
  let(M,i,J,q):=p;exact D (v:=V.non) (u:=kX) J rfl q
 |brk=>
  let(_,_,_,q):=p;exact dE q
 |cont=>
  let(_,_,_,q):=p;exact dE q
section
variable {X:Cx} {x:Str} {p pos:Pos} {e:Expr} {es:List Expr} {t:TA} {id T:String} {r:List V->Hp->VK->Prop}
def TM (r:List V->Hp->VK->Prop)(t:TA):TE:=λσ H Q=>t σ H λvs a=>r vs a Q
def cJ (hc:o5 X (.builtin id) r)(c:Gl X x)(d:X.mg x=ac)(f:qK x=aa (.builtin id))(i:PA X (e::es) t)(hn:x≠ "__name__":=by decide)(a:(x==("__debug__":Str))=af:=by decide)
  (j:bp (e::es) X.env=(af,eval e X.env)::bp es X.env:=by rfl) (b:(iO pos (bp es X.env)).any (·.1)=af:=by rfl):PE X (.Call (.Name x p) (e::es) [] pos) (TM r t):=by
 intro pins s σ H Q I h;exact js (uR I c d f ?_ hn a);exact PyProof.Rows.callWith_builtin1 (hJ (i pos pins s σ H _ I h) λus l x'=>V22 x' λvs o q u v=>hc pins l σ o vs us Q q u v) j b
def nh (hc:o5 X (.type T) r)(c:Gl X x)(d:X.mg x=ac)(f:qK x=aa (.type T))(i:PA X (e::es) t)(hn:x≠ "__name__":=by decide)(a:(x==("__debug__":Str))=af:=by decide)
  (j:bp (e::es) X.env=(af,eval e X.env)::bp es X.env:=by rfl) (b:(iO pos (bp es X.env)).any (·.1)=af:=by rfl):PE X (.Call (.Name x p) (e::es) [] pos) (TM r t):=by
 intro pins s σ H Q I h;exact js (uR I c d f ?_ hn a);exact iC (hJ (i pos pins s σ H _ I h) λus l x'=>V22 x' λvs o q u v=>hc pins l σ o vs us Q q u v) j b
end
end L2
namespace HT
open PySem PyProof.Rows
section
open PySem.SeqAt
open PySem.AutoSeq1 (wpAny_loadPart')
open PySem.MeetsSeq PySem.MeetsSeq2 PySem.MeetsSeq3
end
section
variable {prog:aO} {w:World} {A:b0} {E:ag->aw->Prop} {s:aw}
def CH (n d:Nat):Option Int->Nat
 |none=>d
 |some v=>if v<0 then(v+(n:Int)).toNat else min v.toNat n
def CI (n d:Nat):CH n d ac=d:=rfl
def yj (n d k:Nat):CH n d (aa (k:Int))=min k n:=by
 show(if(k:Int)<0 then((k:Int)+(n:Int)).toNat else min (k:Int).toNat n)=min k n
 rw[iQ ⋯,ye]
end
end HT
namespace L2
open PySem PySem.Spec PyProof.Rows
variable {α:Type} {n t' kk:Nat} {pins:List (Addr×Obj)} {s:aw} {its:List ag} {A:b0} {u:ag} {a:Addr} {prog P:aO} {w:World} {E Q:ag->aw->Prop} {scope:ku} {env:Env} {elt iter tg:Expr} {ifs elts:List Expr} {pos tpos:Pos}
abbrev TO:=St->Hp->(Option Int->Hp->Prop)->Prop
def PO (X:Cx)(e:Option Expr)(t:TO):Prop:=
 ∀(pins:List (Addr×Obj)) (s:aw) (σ:St) (H:Hp) (Q:Option Int->Hp->Prop),cz X pins σ H s->t σ H Q->
  a8 (bd X.prog X.w) X.A (evalPart e X.env) (λu b=>∃o a,cz X pins σ a b/\IsPart u o/\Q o a) X.xe s
def K7:TO:=λ_ H Q=>Q ac H
def PL (t:TE):TO:=λσ H Q=>t σ H λx a=>∃i,x=.int i/\Q (aa i) a
section
variable {X:Cx} {e:Expr} {te:TE} {lo hi:Option Expr} {tl th:TO} {pos p2:Pos}
def mn:PO X ac K7:=by
 intro pins s σ H Q I h;rw[evalPart_none];exact aG ⟨ac,H,I,.none,h⟩
def jV (h:PE X e te):PO X (aa e) (PL te):=by
 intro pins s σ H Q I hw;rw[evalPart_some];exact hJ (h pins s σ H _ I hw) λu f x'=>V22 x' λx a b c d=>?_
 let(i,rfl,q):=d;let(t,rfl):=c;exact(aa i,a,b,.int i t,q)
def TN (X:Cx)(r:V->Option Int->Option Int->Hp->VK->Prop):Prop:=
 ∀(pins:List (Addr×Obj)) (s:aw) (σ:St) (H:Hp) (x:V) (v a b:ag) (lo hi:Option Int) (c:Addr) (Q:VK),cz X pins σ H s->eA x v->s.heap.IsSliceOf c a b .none->IsPart a lo->IsPart b hi->r x lo hi H Q->
  ∃T id,typeLookup (.type T) "__getitem__"=pure (aa (.builtin id))/\s.TypeIs v T/\a8 (bd X.prog X.w) X.A (D6 v (.ref c)) (EP X pins σ Q) X.xe s
def Ua (r:V->Option Int->Option Int->Hp->VK->Prop)(te:TE)(tl th:TO):TE:=λσ H Q=>te σ H λx a=>tl σ a λl b=>th σ b λu c=>r x l u c Q
def jG {r:V->Option Int->Option Int->Hp->VK->Prop}(i:TN X r)(j:PE X e te)(o:PO X lo tl)(p:PO X hi th):PE X (.Subscript e (.Slice lo hi ac p2) pos) (Ua r te tl th):=by
 intro pins s σ H Q I h;exact Subscript_ (hJ (j pins s σ H _ I h) λv y x'=>V22 x' λx z B C D=>?_);exact wpAny_Slice (hJ (o pins y σ z _ B D) λc E x'=>V22 x' λl J L M N=>hJ (p pins E σ J _ L N) λd a x'=>V22 x' λu f O Y q3=>?_);rw[evalPart_none];exact aG ?_;let I4:cz X pins σ f {a with heap:=a.heap.push {cls:=.type "slice",data:=.fields #[c,d,.none]}}:=O.kept (t':=a.toks) λb ob q=>aE _ q
 let(T,id,hT,ht,hg):=i pins {a with heap:=a.heap.push {cls:=.type "slice",data:=.fields #[c,d,.none]}} σ f x v c d l u a.heap.objs.size Q I4 C (Heap.IsSliceOf.new ..) M Y q3
 show a8 (bd X.prog X.w) X.A (HJ e (.Slice lo hi ac p2) v (.ref a.heap.objs.size)) (EP X pins σ Q) X.xe {a with heap:=a.heap.push {cls:=.type "slice",data:=.fields #[c,d,.none]}}
 exact tail_any (ops:=[.ref a.heap.objs.size,v]) ht hT hg (by with_unfolding_all rfl)
def rW (xs:List V)(lo hi:Option Int):List V:=(xs.drop (HT.CH xs.length 0 lo)).take (HT.CH xs.length xs.length hi-HT.CH xs.length 0 lo)
def CJ (xs:List V)(lo hi:Option Int):(rW xs lo hi).length<=xs.length:=by
 unfold rW;rw[cO,bC];omega
end
def K8 (n:Nat)(i:Int):Option Nat:=if 0<=i then(if i<n then aa i.toNat else ac) else if -(n:Int)<=i then aa (i+n).toNat else ac
def yk (xs:List α)(i:Int):Option α:=(K8 xs.length i).bind λj=>xs[j]?
def Bp {i:Int}{j:Nat}(h:K8 n i=aa j):seqIndex? i n=aa j/\j<n/\ -(n:Int)<=i/\i<n:=by
 unfold K8 at h;by_cases b:0<=i
 ·rw[jN b] at h;by_cases a:i<n
  ·rw[jN a] at h;let e:i.toNat=j:=a6 h;exact(by rw[Mi b a,e],⋯,⋯,a)
  ·rw[iQ a] at h;cases h
 ·rw[iQ b] at h;by_cases a: -(n:Int)<=i
  ·rw[jN a] at h;let e:(i+n).toNat=j:=a6 h;exact(by rw[Kt ⋯ a,e],⋯,a,⋯)
  ·rw[iQ a] at h;cases h
def FF {xs:List α}{i:Int}{v:α}(h:yk xs i=aa v):∃j,seqIndex? i xs.length=aa j/\xs[j]?=aa v/\j<xs.length/\ -(xs.length:Int)<=i/\i<xs.length:=by
 unfold yk at h
 cases e:K8 xs.length i with
 |none=>rw[e] at h;cases h
 |some j=>
  rw[e] at h;let(a,b,c,d):=Bp e;exact(j,a,h,b,c,d)
def ib {xs:List α}{j:Nat}{v:α}(h:xs[j]?=aa v):yk xs (j:Int)=aa v:=by
 let a:j<xs.length:=(bf.mp h).1;let e:K8 xs.length (j:Int)=aa j:=by
  unfold K8;rw[jN ⋯,jN ⋯];simp
 unfold yk;rw[e];exact h
def FG (b:Expr):Prop:=∀o i,B8 b af o i=operate [o,i] (D6 o i)
def RI (X:Cx)(r:R2):Prop:=
 ∀(b a:Expr) (pins:List (Addr×Obj)) (s:aw) (σ:St) (H:Hp) (x y:V) (v u:ag) (Q:VK),cz X pins σ H s->eA x v->eA y u->r x y H Q->
  B8 a af v u=operate [v,u] (D6 v u)->a8 (bd X.prog X.w) X.A (HJ b a v u) (EP X pins σ Q) X.xe s
def Ub (X:Cx)(id:String)(r:V->List V->Hp->VK->Prop):Prop:=
 ∀(pins:List (Addr×Obj)) (s:aw) (σ:St) (H:Hp) (x:V) (a:List V) (v:ag) (b:List ag) (Q:VK),cz X pins σ H s->eA x v->eI a b->r x a H Q->
  a8 (bd X.prog X.w) X.A (call (.builtin id) (v::b)) (EP X pins σ Q) X.xe s
variable {σ:St} {H:Hp} {xs:List V} {y:V}
section
variable {X:Cx} {a b:Expr} {ta tb:TE} {pos:Pos}
def ot {r:R2}(c:RI X r)(d:PE X a ta)(e:PE X b tb)(f:FG b):PE X (.Subscript a b pos) (KY r ta tb):=by
 intro pins s σ H Q I h;exact Subscript_ (NR d e I h λv u i x y j l o p q=>c a b pins i σ j x y v u Q l o p q (f _ _))
def NT (K:am):R2:=λx y H Q=>∃p xs i v,x=.ref p/\y=.int i/\dL K H p xs/\yk xs i=aa v/\Q v H
def PM (K:am):R2:=λx y H Q=>∃p xs i v,x=.ref p/\y=.int i/\o4 K H p xs/\yk xs i=aa v/\Q v H
def rb:RI X (NT X.K):=by
 intro c d pins s σ H x y v u Q I C D h o;let(p,xs,i,z,rfl,rfl,E,J,q):=h;cases C;let(t,rfl):=D;let(its,r,e,Y):=I.list E;let(j,b,L,h3,M,N):=FF J;let(w,A,f):=r.get L;let O:=r.length;let hn:=Bm;let a:EP X pins σ Q w s:=⟨z,H,I,f,q⟩;by_cases B:0<=i
 ·let l:i.toNat=j:=by
   rw[Mi B N] at b;exact a6 b
  exact item_listR e.isList B ⋯ (by rw[l];simpa using A) a o
 ·let l:(i+(its.toArray.size:Int)).toNat=j:=by
   rw[Kt ⋯ M] at b;rw[bi,<-O];exact a6 b
  exact Ku (x:=w) e.isList.typeIs slot_list_getitem.lookup
   (wpAny_getItem_list_neg (Q:=λr T=>r=w/\EP X pins σ Q r T) e.isList ⋯ (by rw[bi]<;>omega) ⋯ (by rw[l];simpa using A) ⟨rfl,a⟩) o
def ED:RI X (PM X.K):=by
 intro a b pins s σ H x y v u Q I f l h o;let(p,xs,i,z,rfl,rfl,A,B,q):=h;cases f;let(t,rfl):=l;let(its,r,e,M):=I.tuple A;let(j,C,D,N,O,T):=FF B;let(w,E,c):=r.get D;let J:=r.length;let hn:=Bm;let d:EP X pins σ Q w s:=⟨z,H,I,c,q⟩;exact Ku (x:=w) e.typeIs slot_tuple_getitem.lookup
  (getItem_tuple (j:=j) (Q:=λr L=>r=w/\EP X pins σ Q r L) e ⋯ ⋯ (by rw[bi,<-J];exact C) (by simpa using E) ⟨rfl,d⟩) o
def EE (its:List ag)(n j:Nat)(u:ag):dg (·.setIfInBounds j u) {cls:=.type "list",data:=.seq its.toArray n}={cls:=.type "list",data:=.seq (its.set j u).toArray n}:=by
 simp[dg]
theorem cz.lst {p:Addr}(I:cz X pins σ H s)(h:H p=aa (.lst xs)):
  ∃(its:List ag) (n:Nat),eI xs its/\s.heap.get? p=aa {cls:=.type "list",data:=.seq its.toArray n}/\xs.length<=aI:=by
 let(z,its,n,r,e):=I.hok p _ h;exact(its,n,r,e,z)
def cz.lstUpd {p:Addr}{ys:List V}{its':List ag}{a:Nat}{f:Obj->Obj}(I:cz X pins σ H s)(h:H p=aa (.lst xs))(d:s.heap.get? p=aa {cls:=.type "list",data:=.seq its.toArray n})(c:f {cls:=.type "list",data:=.seq its.toArray n}={cls:=.type "list",data:=.seq its'.toArray a})(r:eI ys its')(i:ys.length<=aI)(t:Nat):
  cz X pins σ (bD H p (.lst ys)) {s with heap:=s.heap.update p f,toks:=t}:=by
 let e:(s.heap.update p f).get? p=aa {cls:=.type "list",data:=.seq its'.toArray a}:=by
  rw[dD f d (by rw[c]<;>rfl),c]
 exact I.write (x:=p) (e:=p) (by rw[h];trivial) (.inl rfl) (λb u j q=>(mX _ _ (jl j)).trans q) ⟨_,e⟩ ?_;exact(i,its',a,r,e)
def PN:V->V->V->Hp->(Hp->Prop)->Prop:=λo i v H Q=>∃p xs k j,o=.ref p/\i=.int k/\H p=aa (.lst xs)/\K8 xs.length k=aa j/\Q (bD H p (.lst (xs.set j v)))
def IN:Pw X PN:=by
 intro pins s σ H o i v D iv u Q I y z A h;let(p,xs,k,j,rfl,rfl,e,B,q):=h;cases y;let(t,rfl):=z;let(its,n,r,b,C):=I.lst e;let(a,E,f,l):=Bp B;let c:=r.length;let hn:=Bm;let w:cz X pins σ (bD H p (.lst (xs.set j v))) {s with heap:=s.heap.update p (dg (·.setIfInBounds j u))}:=
  I.lstUpd e b (EE its n j u) (r.set A j) (by rw[lV];exact C) s.toks
 by_cases x:0<=k
 ·let d:k.toNat=j:=by
   rw[Mi x l] at a;exact a6 a
  exact PySem.W.ki_setAt b x ⋯ (by rw[bi,<-c];exact l) (by rw[d];exact(_,w,q))
 ·let d:(k+(its.toArray.size:Int)).toNat=j:=by
   rw[Kt ⋯ f] at a;rw[bi,<-c];exact a6 a
  exact PySem.W.ki_setBack b ⋯ (by rw[bi,<-c];exact f) ⋯ (by rw[d];exact(_,w,q))
def Bq (lo a:Option Int)(n:Nat):(pJ lo a ac n).1=((HT.CH n 0 lo:Nat):Int)/\(pJ lo a ac n).2.1=((HT.CH n n a:Nat):Int)/\(pJ lo a ac n).2.2=1:=by
 exact(?_,?_,rfl)
 ·cases lo with
  |none=>simp[pJ,HT.CH]
  |some i=>
   simp only[pJ,HT.CH,Option.getD_none,show(1:Int)>0 by decide,if_true];by_cases h:i<0
   ·simp only[h,if_true]<;>omega
   ·simp only[h,if_false]<;>omega
 ·cases a with
  |none=>simp[pJ,HT.CH]
  |some i=>
   simp only[pJ,HT.CH,Option.getD_none,show(1:Int)>0 by decide,if_true];by_cases h:i<0
   ·simp only[h,if_true]<;>omega
   ·simp only[h,if_false]<;>omega
def zK (its:List ag)(lo a:Option Int):slicePick its.toArray lo a ac=((its.drop (HT.CH its.length 0 lo)).take (HT.CH its.length its.length a-HT.CH its.length 0 lo)).toArray:=by
 let(b,c,d):=Bq lo a its.toArray.size;unfold slicePick;rw[b,c,d];simp only[sliceRange_one,pick_run,bi]<;>rfl
def R3 (K:am):V->Option Int->Option Int->Hp->VK->Prop:=λx lo b H Q=>∃a xs,x=.ref a/\dL K H a xs/\∀p,H p=ac->Q (.ref p) (bD H p (.lst (rW xs lo b)))
def kQ:TN X (R3 X.K):=by
 intro pins s σ H x v w y lo d z Q I f i j l h;let(a,xs,rfl,p,q):=h;cases f;let(its,r,e,u):=I.list p;let c:=r.length;exact WJ "list" _ slot_list_getitem.lookup e.isList.typeIs ?_;exact wpAny_getItem_list_slice e.isList i j l .none (by simp) ?_ (by rw[bi]<;>omega);rw[zK,<-c];exact WJ (.ref s.heap.objs.size) _ (I.laid (t':=s.toks) (o:=.lst (rW xs lo d)) (λb A q=>aE _ q) (aH _) ?_) rfl (q _ (I.hok.fresh (aH _)));exact(bq (CJ xs lo d) u,_,0,(r.drop (HT.CH xs.length 0 lo)).take (HT.CH xs.length xs.length d-HT.CH xs.length 0 lo),aY _ rfl)
def xr:V->Bool
 | .non=>ae
 | .bl _=>ae
 | .int _=>ae
 | .str _=>ae
 |_=>af
def ML:V->V->Bool
 | .non,.non=>ae
 | .bl a,.bl b=>a==b
 | .bl a,.int b=>(if a then 1 else 0)==b
 | .int a,.bl b=>a==(if b then 1 else 0)
 | .int a,.int b=>a==b
 | .str a,.str b=>a==b
 |_,_=>af
def NU {x:V}{v:ag}(d:eA y u)(c:eA x v)(f:xr y=ae)(e:xr x=ae):fj A s u v (ML y x):=by
 cases y with
 |non=>
  cases d
  cases x with
  |non=>cases c;exact fj.same _
  |bl b=>cases c;exact fj.none_bool b
  |int b=>let(t,rfl):=c;exact fj.none_int b t
  |str b=>let(t,rfl):=c;exact fj.none_str b t
  |_=>exact aB (show af=ae from e) ba
 |bl a=>
  cases d
  cases x with
  |non=>cases c;exact fj.bool_none a
  |bl b=>cases c;exact fj.bool_bool a b
  |int b=>let(t,rfl):=c;exact fj.bool_int a b t
  |str b=>let(t,rfl):=c;exact fj.bool_str a b t
  |_=>exact aB (show af=ae from e) ba
 |int a=>
  let(t',rfl):=d
  cases x with
  |non=>cases c;exact fj.int_none a t'
  |bl b=>cases c;exact fj.int_bool a t' b
  |int b=>let(t,rfl):=c;exact fj.int_int a t' b t
  |str b=>let(t,rfl):=c;exact fj.int_str a t' b t
  |_=>exact aB (show af=ae from e) ba
 |str a=>
  let(t',rfl):=d
  cases x with
  |non=>cases c;exact fj.str_none a t'
  |bl b=>cases c;exact fj.str_bool a t' b
  |int b=>let(t,rfl):=c;exact fj.str_int a t' b t
  |str b=>let(t,rfl):=c;exact fj.str_str a t' b t
  |_=>exact aB (show af=ae from e) ba
 |_=>exact aB (show af=ae from f) ba
def EF (x:V)(u:ag):Bool:=match u with
 | .none=>ML .non x
 | .bool b=>ML (.bl b) x
 | .int i _=>ML (.int i) x
 | .str z _=>ML (.str z) x
 |_=>af
def IP {x:V}(r:eA y u)(f:xr y=ae):EF x u=ML y x:=by
 cases y with
 |non=>cases r;rfl
 |bl b=>cases r;rfl
 |int i=>let(t,rfl):=r;rfl
 |str z=>let(t,rfl):=r;rfl
 |_=>exact aB (show af=ae from f) ba
theorem vO {x:V}:∀{xs:List V} {us:List ag},eI xs us->xs.all xr=ae->us.any (EF x)=xs.any λy=>ML y x
 |_,_,.nil,_=>rfl
 |y::xs,u::us,.cons r t,f=>by
  rw[qR,ca] at f;rw[lR,lR,IP r f.1,vO t f.2]
theorem sM {A:b0}{s:aw}{x:V}{v:ag}(a:eA x v)(b:xr x=ae):∀{xs:List V} {us:List ag},eI xs us->xs.all xr=ae->∀u∈us,fj A s u v (EF x u)
 |_,_,.nil,_=>λu hu=>by cases hu
 |y::xs,u::us,.cons r t,f=>λc hu=>by
  rw[qR,ca] at f;rcases az.mp hu with rfl|hu
  ·rw[IP r f.1];exact NU r a f.1 b
  ·exact sM a b t f.2 c hu
def K9 (x:V)(xs:List V):Bool:=xs.any λy=>ML y x
def TQ (K:am)(a:Bool):R2:=λx y H Q=>∃p xs,y=.ref p/\(dL K H p xs\/o4 K H p xs)/\xr x=ae/\xs.all xr=ae/\Q (.bl (if a then !K9 x xs else K9 x xs)) H
def GX:tV X (gh .In) (TQ X.K af):=by
 intro pins s σ H x y v u Q I c e h;let(p,xs,rfl,hq,d,a,q):=h;cases e;rcases hq with hq|hq
 ·let(its,r,b,f):=I.list hq;exact SeqAt.in_listAt (EF x) b.isList (λw hw=>sM c d r a w (by simpa using hw)) ⟨.bl _,H,I,rfl,?_⟩
  rw[show its.toArray.any (EF x)=its.any (EF x) by simp,vO r a];exact q
 ·let(its,r,b,f):=I.tuple hq;exact SeqAt.in_tupleAt (EF x) b (λw hw=>sM c d r a w (by simpa using hw)) ⟨.bl _,H,I,rfl,?_⟩
  rw[show its.toArray.any (EF x)=its.any (EF x) by simp,vO r a];exact q
def Br:tV X (gh .NotIn) (TQ X.K ae):=by
 intro pins s σ H x y v u Q I c e h;let(p,xs,rfl,hq,d,a,q):=h;cases e;rcases hq with hq|hq
 ·let(its,r,b,f):=I.list hq;exact SeqAt.notIn_listAt (EF x) b.isList (λw hw=>sM c d r a w (by simpa using hw)) ⟨.bl _,H,I,rfl,?_⟩
  rw[show its.toArray.any (EF x)=its.any (EF x) by simp,vO r a];exact q
 ·let(its,r,b,f):=I.tuple hq;exact SeqAt.notIn_tupleAt (EF x) b (λw hw=>sM c d r a w (by simpa using hw)) ⟨.bl _,H,I,rfl,?_⟩
  rw[show its.toArray.any (EF x)=its.any (EF x) by simp,vO r a];exact q
def eN:o5 X (.builtin "len") (λxs H Q=>∃p ys,xs=[.ref p]/\(dL X.K H p ys\/o4 X.K H p ys)/\Q (.int ys.length) H):=by
 intro pins s σ H xs f Q I r h;let(p,ys,rfl,hq,q):=h;let(u,rfl,d):=MJ r;cases d;let hn:=Bm;rcases hq with hq|hq
 ·let(its,b,c,e):=I.list hq;let a:=b.length;exact Calls.call_len_list c.isList (by simp only[bi]<;>omega) (WJ (.int ys.length) H (I.tok _) ⟨s.toks+1,by rw[bi,a]⟩ q)
 ·let(its,b,c,e):=I.tuple hq;let a:=b.length;exact len_tuple c (by simp only[bi]<;>omega) (WJ (.int ys.length) H (I.tok _) ⟨s.toks+1,by rw[bi,a]⟩ q)
def TR (K:am)(T:String)(x:V)(H:Hp):Prop:=match x with
 | .str _=>T= "str"
 | .int _=>T= "int"
 | .ref p=>(T= "list"/\∃xs,dL K H p xs)\/(T= "tuple"/\∃o,K.lookup p=aa o/\o.cls=.type "tuple"/\o.dict=ac)\/
   (T= "dict"/\((∃a,H p=aa (.dK a))\/∃a,H p=aa (.dT a)))\/(T= "set"/\∃S n,H p=aa (.set S n))
 |_=>False
theorem NV {T:String}{x:V}{v:ag}(I:cz X pins σ H s)(r:eA x v)(f:TR X.K T x H):
  s.TypeIs v T/\∀a,v=.ref a->∃ob,s.heap.get? a=aa ob/\ob.dict=ac:=by
 cases x with
 |str z=>
  let(t,rfl):=r;cases (show T= "str" from f);exact(typeIs_str s z t,λ_ e=>nomatch e)
 |int i=>
  let(t,rfl):=r;cases (show T= "int" from f);exact(typeIs_int s i t,λ_ e=>nomatch e)
 |ref p=>
  cases r;rcases f with⟨rfl,xs,w⟩|⟨rfl,o,b,hc,j⟩|⟨rfl,b⟩|⟨rfl,S,n,b⟩
  ·let(its,_,u,_):=I.list w;exact(u.isList.typeIs,λa e=>?_);cases e;let(o,n,e,c,j,_):=u;exact(o,e,j)
  ·exact(⟨o,I.kIn p o b,hc⟩,λa e=>?_);cases e;exact(o,I.kIn _ o b,j)
  ·let z:∃o,s.heap.get? p=aa o/\o.ExactDict:=by
    rcases b with⟨l,b⟩|⟨l,b⟩
    ·let(_,_,_,_,o,_,_,e,d,_):=I.hok p _ b;exact(o,e,d)
    ·let(_,_,_,_,o,_,_,e,d,_):=I.hok p _ b;exact(o,e,d)
   let(o,e,d):=z;exact(⟨o,e,d.1⟩,λa q=>?_);cases q;exact(o,e,d.2.1)
  ·let(o,_,_,_,e,d,_):=I.hok p _ b;exact(⟨o,e,d.1⟩,λa q=>?_);cases q;exact(o,e,d.2.1)
 |_=>exact dE f
def PP (K:am)(T:String)(r:V->List V->Hp->VK->Prop)(b:TE)(t:TA):TE:=λσ H Q=>b σ H λx a=>TR K T x a/\t σ a λxs c=>r x xs c Q
variable {o e:Expr} {es:List Expr} {to:TE} {t:TA} {name:Str} {apos cpos:Pos} {T id:String} {r:V->List V->Hp->VK->Prop}
def FH (p:PlainAttrs T)(slot:Slot T name id)(f:typeOf (.builtin id)=pure (.type "method_descriptor"))(q:Ub X id r)(u:PE X o to)(w:PA X (e::es) t)
  (b:fY o name X.env (eval o X.env)=eval o X.env:=by rfl)
  (d:((iO cpos (bp (e::es) X.env)).all (λx=> !x.1)&&(uu cpos (nL [] X.env)).all (λx=>x.1.isSome)
   &&decide ((e::es).length+([]:List lZ).length+(if([]:List lZ).isEmpty then 0 else 1)<30))=ae:=by rfl)
  (c:(apos.endLine==cpos.line)=ae:=by rfl) (y:bp (e::es) X.env=(af,eval e X.env)::bp es X.env:=by rfl) (a:(iO cpos (bp es X.env)).any (·.1)=af:=by rfl):
  PE X (.Call (.Attribute o name apos) (e::es) [] cpos) (PP X.K T r to t):=by
 intro pins s σ H Q I h;exact wpAny_Call_method_late b d c rfl (hJ (u pins s σ H _ I h) λv z x'=>V23 x' λx A i j B C=>?_);let(D,E):=NV i j B;exact WN T id p slot f ⟨D,E,?_⟩;let l:=w cpos pins z σ A _ i C;rw[y] at l⊢;exact mP (by show(af||(iO cpos (bp es X.env)).any (·.1))=af;rw[a]<;>rfl) (k8 ?_)
 exact hJ l λJ L x'=>V22 x' λM N O Y q2=>q pins L σ N x M v J Q O j Y q2
end
def RJ (X:Cx)(id:String)(r:V->List V->Hp->VK->Prop):Prop:=
 ∀(pins:List (Addr×Obj)) (s:aw) (σ:St) (H:Hp) (x:V) (xs:List V) (v:ag) (a:List ag) (Q:VK),cz X pins σ H s->eA x v->eI xs a->r x xs H Q->
  a8 (bd X.prog X.w) X.A (call (.builtin id) (v::a)) (EP X pins σ Q) X.xe s
theorem eI.one:∀{x:V} {us:List ag},eI [x] us->∃u,us=[u]/\eA x u
 |_,_,.cons r .nil=>⟨_,rfl,r⟩
theorem eI.eraseIdx:∀{xs:List V} {us:List ag} (i:Nat),eI xs us->eI (xs.eraseIdx i) (us.eraseIdx i)
 |_,_,_,.nil=>.nil
 |_,_,0,.cons _ t=>t
 |_,_,i+1,.cons r t=>.cons r (eI.eraseIdx i t)
theorem eI.rep {xs:List V}{us:List ag}(h:eI xs us):∀k:Nat,eI (eL k xs).flatten (eL k us).flatten
 |0=>.nil
 |k+1=>by
  rw[lJ,lJ,qN,qN];exact eI.append h (eI.rep h k)
theorem Aj {α:Type}:∀(l:List α) (i:Nat),(l.eraseIdx i).length<=l.length
 |[],_=>aH _
 |_::_,0=>oN _
 |_::r,i+1=>Nat.succ_le_succ (Aj r i)
theorem Ak (its:List ag):∀(k:Nat) (acc:List ag),
  List.foldl (λa b=>a++b) acc.toArray (eL k its.toArray)=(acc++(eL k its).flatten).toArray
 |0,acc=>by simp
 |k+1,acc=>by
  let e:acc.toArray++its.toArray=(acc++its).toArray:=by simp
  let c:(acc++its)++(eL k its).flatten=acc++(eL (k+1) its).flatten:=by
   rw[lJ,qN,g0]
  rw[<-c,<-Ak its k (acc++its),<-e,lJ,eX]
section
variable {X:Cx} {pins:List (Addr×Obj)} {σ:St} {H:Hp} {s:aw} {l b:Addr} {xs ys zs:List V}
def cz.lset {its':List ag}{f:Array ag->Array ag}(I:cz X pins σ H s)(a:H l=aa (.lst xs))(e:s.heap.get? l=aa {cls:=.type "list",data:=.seq its.toArray n})(b:f its.toArray=its'.toArray)(c:eI ys its')(d:ys.length<=aI):
  cz X pins σ (bD H l (.lst ys)) {s with heap:=s.heap.update l (dg f),toks:=t'}:=by
 let q:=PySem.IsL.update e f;rw[b] at q;exact I.write (x:=l) (e:=l) (by rw[a];exact trivial) (.inl rfl) (λo u i j=>(mX s.heap (dg f) (jl i)).trans j) ⟨_,q⟩ ?_;exact(d,its',_,c,q)
def cz.lnew (I:cz X pins σ H s)(a:eI ys its)(b:ys.length<=aI):
  cz X pins σ (bD H s.heap.objs.size (.lst ys)) {s with heap:=s.heap.push {cls:=.type "list",data:=.seq its.toArray},toks:=t'}:=
 I.laid (λ_ _ q=>aE _ q) (aH _) ⟨b,its,0,a,aY _ rfl⟩
theorem cz.fresh (I:cz X pins σ H s):H s.heap.objs.size=ac:=I.hok.fresh (aH _)
def cz.lstM (I:cz X pins σ H s)(a:H l=aa (.lst xs)):xs.length<=aI/\∃(its:List ag) (n:Nat),eI xs its/\xs.length=its.length/\s.heap.get? l=aa {cls:=.type "list",data:=.seq its.toArray n}:=by
 let(z,its,n,r,e):=I.hok l _ a;exact(z,its,n,r,r.length,e)
def CK (h:n<=aI):kK n=af:=by
 unfold kK;exact decide_eq_false ⋯
end
section
variable {X:Cx}
def FI:V->List V->Hp->VK->Prop:=λx a H Q=>∃l xs y,x=.ref l/\a=[y]/\H l=aa (.lst xs)/\xs.length<aI/\Q .non (bD H l (.lst (xs++[y])))
def GY:RJ X "list.append" FI:=by
 intro pins s σ H x f v i Q I b c h;let(l,xs,y,rfl,rfl,a,j,q):=h;cases b;let(u,rfl,d):=c.one;let(z,its,n,r,o,e):=I.lstM a;exact zu F.slot_list_append ⟨_,e,rfl⟩ F.entry_list_append (F.args_list_append_2 _ _) (PySem.list_append l its.toArray n u (by rw[bi];omega)) ⟨e,?_⟩;exact WJ .non _ (I.lset (its':=its++[u]) a e (by simp) (r.append (.cons d .nil)) ?_) rfl q;rw[aQ,List.length_singleton];omega
def FJ:V->List V->Hp->VK->Prop:=λx a H Q=>∃l b xs zs,x=.ref l/\a=[.ref b]/\H l=aa (.lst xs)/\H b=aa (.lst zs)/\xs.length+zs.length<=aI/\Q .non (bD H l (.lst (xs++zs)))
def GZ:RJ X "list.extend" FJ:=by
 intro pins s σ H x C v D Q I i j h;let(l,b,xs,zs,rfl,rfl,f,o,E,q):=h;cases i;let(u,rfl,p):=j.one;cases p;let(z,its,n,r,J,e):=I.lstM f;let(L,a,w,y,A,B):=I.lstM o;let d:its.toArray.size+a.toArray.size<=aI:=by rw[bi,bi];omega
 let c:¬(!its.toArray.isEmpty&&kK (its.toArray.size+a.toArray.size))=ae:=by
  rw[CK d,Bool.and_false];exact ba
 exact zu F.slot_list_extend ⟨_,e,rfl⟩ F.entry_list_extend (F.args_list_extend_2 _ _)
  (AutoSeq1.list_extend_list_list_0 l its.toArray n b a.toArray w c (by rw[bi];omega) ⋯) ⟨e,B,?_⟩
 exact WJ .non _ (I.lset (its':=its++a) f e (by simp) (r.append y) ?_) rfl q;rw[aQ];omega
def IQ:V->List V->Hp->VK->Prop:=λx a H Q=>∃l xs i k y,x=.ref l/\a=[.int i]/\H l=aa (.lst xs)/\ -(2^63)<=i/\i<2^63/\seqIndex? i xs.length=aa k/\xs[k]?=aa y/\Q y (bD H l (.lst (xs.eraseIdx k)))
def IR:RJ X "list.pop" IQ:=by
 intro pins s σ H x C v D Q I c d h;let(l,xs,i,k,y,rfl,rfl,b,f,j,o,p,q):=h;cases c;let(u,rfl,A):=d.one;let(t,rfl):=A;let(z,its,n,r,B,e):=I.lstM b;let(w,hw,a):=r.get p;exact zu F.slot_list_pop ⟨_,e,rfl⟩ F.entry_list_pop (F.args_list_pop_2 _ _)
  (MeetsSeq.list_pop_at l its.toArray n i t k w (fitsIndex_both f j) (by rw[bi,<-B];exact o) (by rw[<-ci];exact hw) (by rw[bi];omega)) ⟨e,?_⟩
 exact WJ y _ (I.lset (its':=its.eraseIdx k) b e ?_ (r.eraseIdx k) ?_) a q
 ·show its.toArray.eraseIdxIfInBounds k=(its.eraseIdx k).toArray;rw[List.eraseIdxIfInBounds_toArray]
 ·have:=Aj xs k;omega
def R4:R2:=λx y H Q=>∃l b xs zs,x=.ref l/\y=.ref b/\H l=aa (.lst xs)/\H b=aa (.lst zs)/\xs.length+zs.length<=aI/\∀p,H p=ac->Q (.ref p) (bD H p (.lst (xs++zs)))
def iX:tV X (mJ .Add) R4:=by
 intro pins s σ H x y v u Q I c d h;let(l,b,xs,zs,rfl,rfl,f,i,A,q):=h;cases c;cases d;let(z,its,n,r,B,e):=I.lstM f;let(C,a,D,j,o,p):=I.lstM i;exact PySem.P.add_list e p ?_ (by rw[bi,bi];omega);let w:its.toArray++a.toArray=(its++a).toArray:=by simp
 rw[w];exact WJ (.ref _) _ (I.lnew (t':=s.toks) (r.append j) (by rw[aQ];omega)) rfl (q _ I.fresh)
def R5:R2:=λx y H Q=>∃l k xs,x=.ref l/\y=.int k/\H l=aa (.lst xs)/\ -(2^63)<=k/\k<2^63/\xs.length*k.toNat<=aI/\
 ∀p,H p=ac->Q (.ref p) (bD H p (.lst (eL k.toNat xs).flatten))
def Lc (xs:List α)(k:Nat):(eL k xs).flatten.length=k*xs.length:=by
 induction k with
 |zero=>simp
 |succ k a=>rw[lJ,qN,aQ,a,Nat.succ_mul,yf]
def NW:tV X (mJ .Mult) R5:=by
 intro pins s σ H x y v u Q I w A h;let(l,k,xs,rfl,rfl,B,C,D,p,q):=h;cases w;let(t,rfl):=A;let(z,its,n,r,E,e):=I.lstM B;let c:its.toArray.size*k.toNat<=aI:=by rw[bi,<-E];exact p
 let d:¬its.toArray.size*k.toNat>(2^63-1)/8:=by
  have:(aI:Nat)<=(2^63-1)/8:=by decide
  omega
 let f:¬(!ck.List.listFitsIndex k)=ae:=by
  rw[fitsIndex_both C D];exact ba
 let b:¬kK (its.toArray.size*k.toNat)=ae:=by
  rw[CK c];exact ba
 let i:List.foldl (λj o=>j++o) #[] (eL (if its.toArray.isEmpty=ae then 0 else k.toNat) its.toArray)=(eL k.toNat its).flatten.toArray:=by
  let J:∀m:Nat,List.foldl (λj o=>j++o) #[] (eL m its.toArray)=(eL m its).flatten.toArray:=λm=>by
   have:=Ak its m [];rw[List.nil_append] at this;exact this
  rw[J]
  cases its with
  |nil=>simp
  |cons a M=>rw[iQ (by simp)]
 exact wpAny_binaryOp_repeat_ref (T:= "list") (U:= "int") (by decide) ⟨_,e,rfl⟩ (λL=>typeIs_int L k t) noFill_list_mul F.fills_int_mul F.slot_int_rmul repeat_list F.slot_int_index.lookup
  (zu F.slot_int_rmul (typeIs_int s k t) F.entry_int_rmul (F.args_int_rmul_2 _ _) (int___rmul___int_list k t l its.toArray n)
   ⟨e,rfl,⟨_,e,rfl⟩,zu F.slot_list_mul ⟨_,e,rfl⟩ F.entry_list_mul (F.args_list_mul_2 _ _) (AutoListH.list___mul___list_int_3 l its.toArray n k t f d b) ⟨e,?_⟩⟩)
 rw[i];exact WJ (.ref _) _ (I.lnew (t':=s.toks) (r.rep k.toNat) (by rw[Lc,kq];exact p)) rfl (q _ I.fresh)
end
section
variable {prog:aO} {w:World} {A:b0} {E:ag->aw->Prop} {s:aw}
end
section
variable {X:Cx}
end
theorem Bs:∀{us:List ag} {ns:List Int},sj us ns->eI (ns.map V.int) us
 |_,_,.nil=>by rw[pE];exact a9.nil
 |_,_,.cons n t h=>by rw[bB];exact a9.cons (show eA (V.int n) (iY n t) from⟨t,rfl⟩) (Bs h)
theorem eI.bls:∀{bs:List Bool} {us:List ag},eI (bs.map V.bl) us->us=bs.map r9
 |[],us,h=>by
  rw[pE] at h;cases h;rfl
 |b::bs,us,h=>by
  rw[bB] at h
  cases h with
  |cons r t=>
   cases r;rw[eI.bls t,bB]
def eI.ref1 {us:List ag}(r:eI [V.ref a] us):us=[bI a]:=by
 cases r with
 |cons r t=>
  cases t;cases r;rfl
section
variable {prog:aO} {w:World} {A:b0} {E:ag->aw->Prop} {s:aw} {l:Addr} {its:List ag} {ns:List Int} {Q:ag->aw->Prop}
end
section
variable {X:Cx}
end
section
variable {X:Cx}
end
section
variable {X:Cx}
end
def IS {l:Addr}{items:Array ag}(b:s.heap.IsList l items)(h:∀a:aw,a={s with heap:=s.heap.push {cls:=.type "list_iterator",data:=.fields #[.ref l,.int 0 0]}}->
   (a.heap.IsListIter s.heap.objs.size l 0/\a.heap.IsList l items)->l≠s.heap.objs.size->Q (.ref s.heap.objs.size) a):a8 (bd prog w) A (BX (.ref l)) Q E s:=by
 let c:l<s.heap.objs.size:=by let(_,e,_):=b;exact aW e
 exact zZ b (h _ rfl ⟨⟨_,aY _ rfl,rfl,rfl⟩,b.push _⟩ (bn c))
def CL {bs:List Bool}(e:its=bs.map r9):
  TruthOf prog w A (λi v=>its.toArray[i]?=aa v) (λi=>bs.getD i af):=λi v s Q E d f=>by
 let a:its[i]?=aa v:=by simpa using d
 rw[e,bZ] at a;let(b,j,rfl):=eP.mp a;let l:bs.getD i af=b:=by rw[bh,j]<;>rfl
 let c:Q (bs.getD i af) s:=f;rw[l] at c;exact gA c
theorem G0:∀bs:List Bool,(bH bs.length).any (λi=>bs.getD i af)=bs.any id
 |[]=>rfl
 |b::bs=>by
  rw[aK,D7,lR,List.any_map,lR,<-G0 bs]
  all_goals rfl
theorem Al:∀bs:List Bool,(bH bs.length).all (λi=>bs.getD i af)=bs.all id
 |[]=>rfl
 |b::bs=>by
  rw[aK,D7,qR,D8,qR,<-Al bs]
  all_goals rfl
section
variable {X:Cx}
def PQ (K:am):List V->Hp->VK->Prop:=λb H Q=>∃(a:Addr) (bs:List Bool),b=[V.ref a]/\dL K H a (bs.map V.bl)/\Q (.bl (bs.all id)) H
def Bt (hc:X.calm=ae):o5 X (.builtin "all") (PQ X.K):=by
 intro pins s σ H v w Q I r h;let(a,bs,rfl,f,q):=h;let(its,i,j,_):=I.list f;rw[eI.ref1 r];let d:=i.bls;exact call_all_walk (IS j.isList λx l st c=>?_);subst l;exact WG _ _ _ _ _ _ _ ⟨rfl,Walks.list (A:=X.A.in1) (I.ok.hd hc) _ a c its.toArray,st,CL d,λy tk p=>?_⟩;exact WJ (.bl _) H (I.kept λb o e=>p b o (λhmem=>?_) (aE _ e)) ?_ q
 ·rcases az.mp hmem with u|hmem
  ·exact aB (u▸aW e) (gY _)
  ·cases hmem
 ·show r9 _=r9 _;rw[<-Al,d,bi,aj]
end
mutual
inductive Dp (K:am)(H:Hp):V->mC->Prop
 |non:Dp K H .non .none
 |bl (b:Bool):Dp K H (.bl b) (.bool b)
 |int (i:Int):Dp K H (.int i) (.int i)
 |str (x:Str):Dp K H (.str x) (.str x)
 |lst {a:Addr} {xs:List V} {ds:List mC}:dL K H a xs->Am K H xs ds->Dp K H (.ref a) (.list ds)
 |tup {a:Addr} {xs:List V} {ds:List mC}:o4 K H a xs->Am K H xs ds->Dp K H (.ref a) (.tuple ds)
inductive Am (K:am)(H:Hp):List V->List mC->Prop
 |nil:Am K H [] []
 |cons {v:V} {vs:List V} {d:mC} {ds:List mC}:Dp K H v d->Am K H vs ds->Am K H (v::vs) (d::ds)
end
section
variable {X:Cx} {pins:List (Addr×Obj)} {σ:St} {H:Hp} {s:aw}
mutual
theorem Dp.reads (I:cz X pins σ H s):∀(d:mC) (v:V) (u:ag),Dp X.K H v d->eA v u->∃as,Mj s.heap u d as
 | .none,_,_,h,r=>by
   cases h;cases r;exact(_,Mj.none)
 | .bool b,_,_,h,r=>by
   cases h;cases r;exact(_,Mj.bool b)
 | .int i,_,_,h,r=>by
   cases h;let(t,rfl):=r;exact(_,Mj.int i t)
 | .str x,_,_,h,r=>by
   cases h;let(t,rfl):=r;exact(_,Mj.str x t)
 | .list ds,_,_,h,r=>by
   cases h with
   |lst hs ha=>
    cases r;let(its,rv,(o,n,ho,hc,_,hd),_):=I.list hs;let(as,hr):=Dp.readsAll I ds _ its ha rv;exact(_,Mj.list ho hc hd hr)
 | .tuple ds,_,_,h,r=>by
   cases h with
   |tup hs ha=>
    cases r;let(its,rv,(o,ho,hc,n,hd),_):=I.tuple hs;let(as,hr):=Dp.readsAll I ds _ its ha rv;exact(_,Mj.tuple ho hc hd hr)
 | .dict _,_,_,h,_=>by cases h
theorem Dp.readsAll (I:cz X pins σ H s):∀(ds:List mC) (vs:List V) (us:List ag),Am X.K H vs ds->eI vs us->∃as,ReadsAll s.heap us ds as
 |[],_,_,h,r=>by
  cases h;cases r;exact(_,ReadsAll.nil)
 |d::ds,_,_,h,r=>by
  cases h with
  |cons h1 h2=>
   cases r with
   |cons r1 r2=>
    let(as,q1):=Dp.reads I d _ _ h1 r1;let(bs,q2):=Dp.readsAll I ds _ _ h2 r2;exact(_,ReadsAll.cons q1 q2)
end
end
section
variable {X:Cx}
def R6 (K:am):R2:=λx y H Q=>∃d e,Dp K H x d/\Dp K H y e/\DU d=ae/\DU e=ae/\Q (.bl (zz d e)) H
def IT (a:X.A.units+64<oq):tV X (gh .Eq) (R6 X.K):=by
 intro pins s σ H x y v u Q I b c h;let(d,e,f,i,j,l,q):=h;let(r,o):=Dp.reads I d x v f b;let(bs,p):=Dp.reads I e y u i c;exact SeqAt.compareEq_shaped o p j l a ⟨.bl _,H,I,rfl,q⟩
end
abbrev IU (h:Heap)(c:Addr)(v:Option ag):Prop:=h.IsCell c v
def R7 (scope a:ku):ku:=
 {scope with names:=scope.names.map λ(n,k)=>if(k== .free&&a.kind== .function&&a.names.lookup n==aa .cell) then(n,.cell) else(n,k)}
def ik (cells:List (Str×Addr)):List (Str×fA)->List (Str×Addr)->List (Str×Addr)
 |[],a=>a
 |(n,k)::r,a=>if k== .free then ik cells r ((n,(cells.lookup n).getD 0)::a) else ik cells r a
theorem vP (env:Env)(f:Str×fA->List (Str×Addr)->Sem (ForInStep (List (Str×Addr))))
  (d:∀n k c,f (n,k) c=if k== .free then(do let a<-cellOf env n;pure (.yield ((n,a)::c))) else pure (.yield c)):
  ∀(names:List (Str×fA)) (acc:List (Str×Addr)),(∀y∈names,y.2=.free->∃c,env.cells.lookup y.1=aa c)->forIn names acc f=pure (ik env.cells names acc)
 |[],acc,_=>by rw[AU];rfl
 |(n,k)::r,acc,h=>by
  rw[List.forIn_cons,d];let i:=λacc=>vP env f d r acc λy j=>h y (au _ j)
  unfold ik;by_cases b:(k==nA)=ae
  ·rw[jN b,jN b];let(c,hc):=h (n,k) aD (by simpa using b)
   let e:cellOf env n=pure c:=by unfold cellOf;rw[hc]
   rw[e];let l:(env.cells.lookup n).getD 0=c:=by rw[hc];rfl
   rw[l];exact i _
  ·rw[iQ b,iQ b];exact i _
def EG (h:∀y∈scope.names,y.2=.free->∃c,env.cells.lookup y.1=aa c):closureFor scope env=pure (ik env.cells scope.names []):=by
 simp only[closureFor];rw[vP env _ (λn k c=>rfl) scope.names [] h];rfl
theorem uU {α:Type}:∀{l:List (Str×α)} {n:Str} {c:α},(n,c)∈l->∃a,l.lookup n=aa a
 |(k,v)::r,n,c,h=>by
  rw[gK]
  cases b:n==k with
  |true=>exact(_,rfl)
  |false=>
   rcases az.mp h with e|h
   ·cases e;simp at b
   ·exact uU h
theorem pO {cells:List (Str×Addr)}:∀{names:List (Str×fA)} {acc:List (Str×Addr)} {n:Str} {c:Addr},(n,c)∈ik cells names acc->(n,c)∈acc\/((n,.free)∈names/\c=(cells.lookup n).getD 0)
 |[],_,_,_,h=>.inl h
 |(m,k)::r,acc,n,c,h=>by
  unfold ik at h;split at h
  ·rename_i a;let a:k=.free:=by simpa using a
   rcases pO h with h|⟨b,d⟩
   ·rcases az.mp h with e|h
    ·cases e;exact .inr ⟨a▸aD,rfl⟩
    ·exact .inl h
   ·exact .inr ⟨au _ b,d⟩
  ·rcases pO h with h|⟨b,d⟩
   ·exact .inl h
   ·exact .inr ⟨au _ b,d⟩
theorem sN {cells:List (Str×Addr)}:∀{names:List (Str×fA)} {acc:List (Str×Addr)} {p:Str×Addr},p∈acc->p∈ik cells names acc
 |[],_,_,h=>h
 |(m,k)::r,acc,p,h=>by
  unfold ik;split
  ·exact sN (au _ h)
  ·exact sN h
theorem sO {cells:List (Str×Addr)}:∀{names:List (Str×fA)} {acc:List (Str×Addr)} {n:Str},(n,.free)∈names->(n,(cells.lookup n).getD 0)∈ik cells names acc
 |(m,k)::r,acc,n,h=>by
  unfold ik;rcases az.mp h with e|h
  ·cases e;exact sN aD
  ·split
   ·exact sO h
   ·exact sO h
theorem qA:∀{names:List (Str×fA)} {h:Heap} {acc:List (Str×Addr)} {x:Str} {c:Addr},(x,c)∈eY h.objs.size names acc->
  (x,c)∈acc\/((x,.cell)∈names/\h.objs.size<=c/\IU (qS h names) c ac)
 |[],_,_,_,_,h=>.inl h
 |(n,k)::r,h,acc,x,c,hm=>by
  unfold eY at hm;unfold qS;split at hm
  ·rename_i a;rw[jN a];let a:k=.cell:=by simpa using a
   rw[<-dQ h {cls:=.type "cell",data:=.cell ac}] at hm;rcases qA hm with hm|⟨d,b,f⟩
   ·rcases az.mp hm with e|hm
    ·cases e;exact .inr ⟨a▸aD,aH _,_,vp r _ _ _ (aY _ rfl),rfl⟩
    ·exact .inl hm
   ·rw[dQ] at b;exact .inr ⟨au _ d,qT b,f⟩
  ·rename_i a;rw[iQ a];rcases qA hm with hm|⟨d,b,f⟩
   ·exact .inl hm
   ·exact .inr ⟨au _ d,b,f⟩
theorem tZ:∀{names:List (Str×fA)} {n:Nat} {acc:List (Str×Addr)} {p:Str×Addr},p∈acc->p∈eY n names acc
 |[],_,_,_,h=>h
 |(m,k)::r,n,acc,p,h=>by
  unfold eY;split
  ·exact tZ (au _ h)
  ·exact tZ h
theorem wN:∀{names:List (Str×fA)} {n:Nat} {acc:List (Str×Addr)} {x:Str},(x,.cell)∈names->∃c,(x,c)∈eY n names acc
 |(m,k)::r,n,acc,x,h=>by
  unfold eY;rcases az.mp h with e|h
  ·cases e;exact(n,tZ aD)
  ·split
   ·exact wN h
   ·exact wN h
theorem wO:∀{names:List (Str×fA)} {h:Heap} {acc:List (Str×Addr)} {x y:Str} {c:Addr},(∀p∈acc,p.2<h.objs.size)->(∀x y c,(x,c)∈acc->(y,c)∈acc->x=y)->
  (x,c)∈eY h.objs.size names acc->(y,c)∈eY h.objs.size names acc->x=y
 |[],_,_,_,_,_,_,i,f,d=>i _ _ _ f d
 |(n,k)::r,h,acc,x,y,c,j,i,f,d=>by
  unfold eY at f d;split at f
  ·rename_i l;rw[jN l] at d;rw[<-dQ h {cls:=.type "cell",data:=.cell ac}] at f d;exact wO (h:=h.push _) (λp hp=>?_) (λx y c a b=>?_) f d
   ·rw[dQ];rcases az.mp hp with rfl|hp
    ·exact lF _
    ·exact ia (j p hp)
   ·rcases az.mp a with e|a<;>rcases az.mp b with o|b
    ·cases e;cases o;rfl
    ·cases e;exact aB (j _ b) (gY _)
    ·cases o;exact aB (j _ a) (gY _)
    ·exact i _ _ _ a b
  ·rename_i l;rw[iQ l] at d;exact wO j i f d
def CN {M:Model}{globals:Addr}{a:List (Str×Addr)}{qual:Str}{d:Option Addr}{code:ag}{around:Env}{b:Addr}{Q:Env->aw->Prop}(h:Q (newEnv scope s.heap.objs.size globals (eY (s.heap.objs.size+1) scope.names a) qual d code (aa around) b)
   {s with heap:=qS (s.heap.push {cls:=.type "dict",data:=.dict #[]}) scope.names}):
  a8 M A (newFunctionEnv scope globals a [] qual d code (aa around) b) Q E s:=by
 simp only[newFunctionEnv,Option.isSome_some,if_true];exact ai (Me ?_);exact ai (wpAny_layCells _ (λn k c=>rfl) scope.names a _ _ ?_);rw[show({s with heap:=s.heap.push {cls:=.type "dict",data:=.dict #[]}}:aw).heap.objs.size=s.heap.objs.size+1 from dQ ..]
 rw[AU];exact ai (aG (aG h))
theorem sP {b:ku}:∀{names:List (Str×fA)} {x:Str} {k:fA},
  (names.map λ(n,k)=>if(k==nA&&b.kind== .function&&b.names.lookup n==aa .cell) then(n,zA) else(n,k)).lookup x=aa k->
  ∃e,names.lookup x=aa e/\(k=e\/(e=.free/\k=.cell))
 |[],_,_,h=>by simp at h
 |(n,d)::r,x,k,h=>by
  let f:= @sP b r x k;let a:jz x ((if(d==nA&&b.kind== .function&&b.names.lookup n==aa .cell)=ae then(n,zA) else(n,d))::(r.map _))=aa k:=h
  cases c:x==n with
  |true=>
   simp only[gK,c];by_cases hc:(d==nA&&b.kind== .function&&b.names.lookup n==aa .cell)=ae
   ·rw[jN hc] at a;simp only[gK,c] at a;cases a;simp only[ca,beq_iff_eq] at hc;exact(d,rfl,.inr ⟨hc.1.1,rfl⟩)
   ·rw[iQ hc] at a;simp only[gK,c] at a;cases a;exact(_,rfl,.inl rfl)
  |false=>
   simp only[gK,c];by_cases hc:(d==nA&&b.kind== .function&&b.names.lookup n==aa .cell)=ae
   ·rw[jN hc] at a;simp only[gK,c] at a;exact f a
   ·rw[iQ hc] at a;simp only[gK,c] at a;exact f a
structure FK (N:List Str)(sc scope:ku)(own:List (Str×Nat)):Prop where
 kind:scope.kind=.function
 uniq:∀y∈scope.names,scope.names.lookup y.1=aa y.2
 ix:∀p∈own,N[p.2]?=aa p.1
 free:∀y∈scope.names,y.2=.free->sc.names.lookup y.1=aa .cell\/sc.names.lookup y.1=aa .free
 own:∀y∈scope.names,y.2=.local\/y.2=.cell->y.1∈own.map (·.1)\/y.1∉N
def hU (σ:St):List Nat->St
 |[]=>σ
 |v::a=>(hU σ a).set v ac
theorem sQ (σ:St):∀vs:List Nat,(hU σ vs).length=σ.length
 |[]=>rfl
 |v::vs=>by unfold hU;rw[lV,sQ σ vs]
theorem wP {σ:St}{i:Nat}{x:V}:∀{vs:List Nat},(hU σ vs)[i]?=aa (aa x)->σ[i]?=aa (aa x)/\i∉vs
 |[],h=>⟨h,by simp⟩
 |v::vs,h=>by
  unfold hU at h;by_cases a:v=i
  ·subst a;by_cases b:v<(hU σ vs).length
   ·rw[mU b] at h;cases h
   ·rw[ii (by simpa using b)] at h;cases h
  ·rw[ox a] at h;let(c,d):=wP h;exact(c,by simp only[az,not_or];exact(λe=>a e.symm,d))
abbrev Cx.blk (X:Cx)(s:aw)(H:Hp)(scope:ku)(a:Env)(b:List Addr):Cx:={X with s_0:=s,H_0:=H,env:=a,outer:=X.stack,ex:=b,fn:=λx=>scope.names.lookup x==aa .cell,pn:=[],xe:=λ_ _=>False}
section
variable {X:Cx} {pins:List (Addr×Obj)} {σ:St} {H:Hp} {s:aw}
def CO {own:List (Str×Nat)}{fp:List Addr}(I:cz X pins σ H s)(C:FK X.N X.env.scope scope own)(hN:X.N.Nodup)(u:∀b∈fp,ul X pins H b/\b<s.heap.objs.size):
  cz (X.blk s H scope (pK scope (eY (s.heap.objs.size+1) scope.names (ik X.env.cells scope.names [])) s.heap.objs.size X.env) fp) [] (hU σ (own.map (·.2))) H {s with heap:=qS (s.heap.push {cls:=.type "dict",data:=.dict #[]}) scope.names}:=by
 let M:∀y∈scope.names,y.2=.free->∃c,X.env.cells.lookup y.1=aa c:=λy hy e=>by
  rcases C.free y hy e with k|k
  ·exact I.ok.has _ (.inl k)
  ·exact I.ok.has _ (.inr k)
 generalize f:pK scope (eY (s.heap.objs.size+1) scope.names (ik X.env.cells scope.names [])) s.heap.objs.size X.env=d;let kp:∀b o,s.heap.get? b=aa o->(qS (s.heap.push {cls:=.type "dict",data:=.dict #[]}) scope.names).get? b=aa o:=λb o e=>vp _ _ _ _ (aE _ e)
 let hL:d.locals=s.heap.objs.size:=by rw[<-f];rfl
 let l:d.cells=eY (s.heap.objs.size+1) scope.names (ik X.env.cells scope.names []):=by rw[<-f];rfl
 let O:d.scope=R7 scope X.env.scope:=by rw[<-f];rfl
 rw[<-dQ s.heap {cls:=.type "dict",data:=.dict #[]}] at l;let cm:∀{y c},(y,c)∈ik X.env.cells scope.names []->X.env.cells.lookup y=aa c/\c<s.heap.objs.size:=λ{y c} v=>by
  rcases pO v with v|⟨j,rfl⟩
  ·cases v
  ·let(c,hc):=M _ j rfl;rw[hc];let(w,z):=I.cell _ _ hc;exact(rfl,z.lt)
 let Q:∀{y c},d.cells.lookup y=aa c->(X.env.cells.lookup y=aa c/\c<s.heap.objs.size)\/(s.heap.objs.size+1<=c/\IU (qS (s.heap.push {cls:=.type "dict",data:=.dict #[]}) scope.names) c ac):=λ{y c} e=>by
  rw[l] at e;rcases qA (cD e) with v|⟨_,A,h3⟩
  ·exact .inl (cm v)
  ·rw[dQ] at A;exact .inr ⟨A,h3⟩
 let D:∀{y},scope.names.lookup y=aa .free->∃c,d.cells.lookup y=aa c/\X.env.cells.lookup y=aa c:=λ{y} hl=>by
  let hy:(y,nA)∈scope.names:=cD hl;let(c',e'):=uU (tZ (names:=scope.names) (n:=(s.heap.push {cls:=.type "dict",data:=.dict #[]}).objs.size) (sO (cells:=X.env.cells) (acc:=[]) hy));rw[<-l] at e';exact(c',e',?_);rw[l] at e';rcases qA (cD e') with v|⟨j,_,_⟩
  ·exact(cm v).1
  ·have:=C.uniq _ j;rw[hl] at this;cases this
 let ap:(X.blk s H scope d fp).Ok:=by
  exact⟨I.ok.mod,by show d.scope.kind=_;rw[O];exact C.kind,by show d.globals=_;rw[<-f];exact I.ok.glob,by show d.builtins=_;rw[<-f];exact I.ok.blt,by show s.heap.objs.size<=d.locals;rw[hL];exact aH _,
   λy z c E J=>?_,λy hy=>?_,λy c z e=>?_,I.ok.hd,I.ok.frames,.inl rfl,λb L=>⟨?_,λy c e z=>?_⟩,I.bs,bq I.ok.bsz I.sz,λb o e L=>?_,λb L z=>?_,I.stack,I.stkFree⟩
  ·let E:d.cells.lookup y=aa c:=E;let J:d.cells.lookup z=aa c:=J;rw[l] at E J;exact wO (λp hp=>?_) (λy z c a b=>I.ok.inj y z c (cm a).1 (cm b).1) (cD E) (cD J);rw[dQ];exact ia (cm (y:=p.1) (c:=p.2) hp).2
  ·show∃c,d.cells.lookup y=aa c;let x:∀k,d.kindOf y=aa k->(k=.cell\/k=.free)->∃c,d.cells.lookup y=aa c:=λk T Y=>by
    unfold Env.kindOf at T;rw[O] at T;let(k',e,r):=sP T;have:k'=.cell\/k'=.free:=by
     rcases r with rfl|⟨rfl,_⟩
     ·exact Y
     ·exact .inr rfl
    rcases this with rfl|rfl
    ·let(c,v):=wN (n:=(s.heap.push {cls:=.type "dict",data:=.dict #[]}).objs.size) (acc:=ik X.env.cells scope.names []) (cD e);let(c',e'):=uU v;exact(c',by rw[l];exact e')
    ·let(c,j,_):=D e;exact(c,j)
   rcases hy with hy|hy
   ·exact x _ hy (.inl rfl)
   ·exact x _ hy (.inr rfl)
  ·let z:(scope.names.lookup y==aa zA)=ae:=z;let z:scope.names.lookup y=aa .cell:=by simpa using z
   let e:d.cells.lookup y=aa c:=e;rw[l] at e;rcases qA (cD e) with v|⟨_,A,_⟩
   ·rcases pO v with v|⟨j,_⟩
    ·cases v
    ·let q:=C.uniq _ j;rw[z] at q;cases q
   ·rw[dQ] at A;exact qT A
  ·show b≠d.locals;rw[hL];exact bn (u b L).2
  ·let e:d.cells.lookup y=aa c:=e;rcases Q e with⟨j,_⟩|⟨j,_⟩
   ·exact(u b L).1.2.2.2.2.1 y c j z
   ·let A:s.heap.objs.size+1<=b:=by rw[<-z];exact j
    exact aB (bQ (u b L).2 (qT A)) (gY _)
  ·rcases(u b L).1.2.2.2.1 with z|z
   ·exact I.ok.noex b o e z
   ·exact aB (bQ (aW e) (bq I.ok.bsz z)) (gY _)
  ·rcases az.mp (I.stkSub b z) with z|z
   ·exact(u b L).1.2.1 z
   ·exact(u b L).1.2.2.1 z
 exact(ap,rfl,I.bare,Un.kept kp,(WL (λ_=>ac) ?_ λi y av E J e3=>?_),λy c e=>?_,?_,λy c e=>?_,λp hp=>?_,I.hok.kept kp,by rw[sQ];exact I.len)
 ·show Heap.Ns _ d.locals _;rw[hL];exact Heap.Ns.keeps (Heap.Ns.new ..) λb o e=>vp _ _ _ _ e
 ·let(J,ar):=wP J;let B:scope.names.lookup y=aa .free/\(d.kindOf y=aa .cell\/d.kindOf y=aa .free):=by
   let x:∀k,d.scope.names.lookup y=aa k->k=.local\/k=.cell\/k=.free->scope.names.lookup y=aa .free/\(d.kindOf y=aa .cell\/d.kindOf y=aa .free):=λk T Y=>by
    let a2:=T;rw[O] at T;let(k',e,r):=sP T;let no:¬(k'=.local\/k'=.cell):=λhh=>by
     rcases C.own _ (cD e) hh with e'|e'
     ·let(p,hp,as):=aM.mp e';let e3:=C.ix p hp;have:p.1=y:=as;rw[this] at e3;exact ar (aM.mpr ⟨p,hp,yO hN e3 E⟩)
     ·exact e' (bj E)
    rcases r with rfl|⟨rfl,rfl⟩
    ·rcases Y with rfl|rfl|rfl
     ·exact aB (.inl rfl) no
     ·exact aB (.inr rfl) no
     ·exact(e,.inr a2)
    ·exact(e,.inl a2)
   let e3:MD d.scope y:=e3;rcases e3 with e3|e3|e3
   ·exact x _ e3 (.inl rfl)
   ·exact x _ e3 (.inr (.inl rfl))
   ·exact x _ e3 (.inr (.inr rfl))
  let(m,hn,hl):=I.loc;let a3:MD X.env.scope y:=(C.free _ (cD B.1) rfl).elim (λk=>.inr (.inl k)) (λk=>.inr (.inr k));let(w,r,q):=hl i y av E J a3;exact(w,r,.inr ⟨B.2,?_⟩);let(c,j,A):=D B.1;rcases q with⟨k,_⟩|⟨_,c',e',z⟩
  ·let k:X.env.scope.names.lookup y=aa .local:=k;rcases C.free _ (cD B.1) rfl with k'|k'<;>rw[show X.env.scope.names.lookup y=_ from k'] at k<;>cases k
  ·rw[A] at e';cases e';exact(c,j,z.keeps kp)
 ·let e:d.cells.lookup y=aa c:=e;rcases Q e with⟨j,_⟩|⟨_,z⟩
  ·let(w,z):=I.cell y c j;exact(w,z.keeps kp)
  ·exact(_,z)
 ·show H d.locals=ac;rw[hL];exact I.hok.fresh (aH _)
 ·let e:d.cells.lookup y=aa c:=e;rcases Q e with⟨j,_⟩|⟨j,_⟩
  ·exact I.freeC y c j
  ·exact I.hok.fresh (qT j)
 ·exact aB (show p∈([]:List (Addr×Obj))++[] from hp) (by simp)
def NX {D:Addr}{v:ag}(I:cz X pins σ H s)(c:H D=aa (.lst xs))(f:xs.length<aI)(r:eA y v)(h:∀s',cz X pins σ (bD H D (.lst (xs++[y]))) s'->Q .none s'):a8 (bd X.prog X.w) X.A (call (.builtin "list.append") [.ref D,v]) Q E s:=by
 let(i,its,n,d,e):=I.hok D _ c;let p:=d.length;exact append_at (hsz:=by rw[bi];omega) e λj l a=>?_
 exact h {s with heap:=j} (I.write (t':=s.toks) (by rw[c];trivial) (.inl rfl) (λb u o q=>(l.2 b o).trans q) ⟨_,a⟩ ⟨by rw[aQ];exact f,its++[v],n+1,d.append (.cons r .nil),?_⟩)
 rw[a];simp
def RK (X:Cx)(ifs:List Expr)(t:TT):Prop:=
 ∀(pins:List (Addr×Obj)) (s:aw) (σ:St) (H:Hp) (Q:Bool->Hp->Prop),cz X pins σ H s->t σ H Q->
  a8 (bd X.prog X.w) X.A (forIn ifs ae λc r=>if r=ae then do let a<-isTrue c X.env (eval c X.env);pure (qU a) else pure (qU r)) (TP X pins σ Q) X.xe s
def NY:TT:=λ_ H Q=>Q ae H
def t7:RK X [] NY:=λ_ _ _ H _ I h=>wpAny_tests_nil ⟨H,I,h⟩
def Bu {c:Expr}{t:TT}(h:PT X c t):RK X [c] t:=λpins s σ H Q I hw=>wpAny_tests_one (h pins s σ H Q I hw)
end
def EH {t:Sem α}{Q b:α->aw->Prop}{M:Model}(h:a8 M A t Q (λ_ _=>False) s)(hQ:∀a s,Q a s->b a s):a8 M A t b E s:=gy h hQ λ_ _ z=>dE z
theorem Bv {R:Result->aw->Prop}{a:Expr}{j acc:ag}(I:Nat->aw->Prop)(d:∀n s,I n s->a8 (bd prog w) A (Fc j) (λr l=>match r with
   |none=>R (.ok .next) l
   |some v=>a8 (bd prog w) A (vo a j v) (λ_ f=>a8 (bd prog w) A (assign a env v) (λ_ q=>
     a8 (bd prog w) A (forIn ifs ae λc r=>if r=ae then do let i<-isTrue c env (eval c env);pure (qU i) else pure (qU r)) (λi o=>
      if i=ae then a8 (bd prog w) A (eval elt env) (λx u=>
       a8 (bd prog w) A (call (.builtin "list.append") [acc,x]) (λ_ y=>∃m,m<n/\I m y) (D9 (bd prog w) A env λe s'=>R (.error e) s') u) (D9 (bd prog w) A env λe s'=>R (.error e) s') o
      else∃m,m<n/\I m o) (D9 (bd prog w) A env λe s'=>R (.error e) s') q) (D9 (bd prog w) A env λe s'=>R (.error e) s') f) (D9 (bd prog w) A env λe s'=>R (.error e) s') l) (D9 (bd prog w) A env λe s'=>R (.error e) s') s) (n:Nat) (h:I n s):
  qM (bd prog w) A (.compLoop (.ListComp elt [⟨a,iter,ifs,0⟩] scope pos) 0 j acc env) R s:=by
 exact codeAny_loop rfl I (λn s C=>?_) n h;show a8 _ A ((compTurn (.ListComp elt [⟨a,iter,ifs,0⟩] scope pos) 0 j acc env).onRaise (λx=>do noteFrame x env;theTreesLotGoes x)) _ _ s
 exact wpAny_noted ?_;rw[compTurn_list];exact ai (wpAny_standAt (ai (gy (d n s C) (λr l z=>?_) λ_ _ b=>b)))
 cases r with
 |none=>exact aG z
 |some v=>
  exact ai (gy z (λ_ f p=>?_) λ_ _ b=>b);exact ai (gy p (λ_ q D=>ai (gy D (λi o B=>?_) λ_ _ b=>b)) λ_ _ b=>b)
  cases i with
  |false=>exact aG ⟨rfl,B⟩
  |true=>
   exact ai (ai (gy B (λx u E=>ai (gy E (λ_ y H=>aG (aG ⟨rfl,H⟩)) λ_ _ b=>b)) λ_ _ b=>b))
variable {g:TG} {tt:TT} {te:TE}
section
variable {X:Cx}
def TU (p:TI)(g:TG)(tt:TT)(te:TE)(vs:List Nat):TE:=λσ H Q=>p σ H λJ f=>∀D,f D=ac->∃W:Nat->Nat->Hp->Prop,(∃m,W 0 m (bD f D (.lst [])))/\∀i m H,W i m H->
 (J.stop i H/\Q (.ref D) H)\/(J.go i H/\∃d:Hp->Prop,(∀c,d c->∃j,j<m/\W (i+1) j c)/\∀x c,J.yld i H x c->g x (hU σ vs) c λe q=>hU e vs=hU σ vs/\tt e q λb l=>
  if b=ae then te e l λy o=>∃a,o D=aa (.lst a)/\a.length<aI/\d (bD o D (.lst (a++[y]))) else d l)
def Ld {Q:VK}{own:List (Str×Nat)}{al:Pos}{wi:TI}{use:Option (ag->Sem Unit)}{Qf:ag->aw->Prop}(hc:X.calm=ae)(hN:X.N.Nodup)(I:cz X pins σ H s)(hi:PI X tg iter wi)(ok:FK X.N X.env.scope scope own)(hg:∀(s:aw) (H:Hp) (C:Addr) (cl:List (Str×Addr)) (d:List Addr),PG (X.blk s H scope (pK scope cl C X.env) d) tg g)(ht:∀(s:aw) (H:Hp) (C:Addr) (cl:List (Str×Addr)) (d:List Addr),RK (X.blk s H scope (pK scope cl C X.env) d) ifs tt)(he:∀(s:aw) (H:Hp) (C:Addr) (cl:List (Str×Addr)) (d:List Addr),PE (X.blk s H scope (pK scope cl C X.env) d) elt te)(hs:∀x,z0 iter X.env x=pure x)(h:TU wi g tt te (own.map (·.2)) σ H Q)(c2:∀D C s' m l,cz X pins σ l s'->Q (.ref D) l->s'.heap.Ns C m->ul X pins l C->compPost (bd X.prog X.w) X.A X.xe use Qf (.ref D) C (.ok .next) s'):
  a8 (bd X.prog X.w) X.A (comprehension (.ListComp elt [⟨tg,iter,ifs,0⟩] scope pos) scope X.env al (newList []) af (eval iter X.env) use) Qf X.xe s:=by
 let a0:∀y∈scope.names,y.2=.free->∃c,X.env.cells.lookup y.1=aa c:=λy hy e=>by
  rcases ok.free y hy e with k|k
  ·exact I.ok.has _ (.inl k)
  ·exact I.ok.has _ (.inr k)
 exact wpAny_comprehension_free (use:=use) rfl hs (EG a0) ok.kind (λy hy e=>by rw[ok.uniq y hy,e])
  (hJ (hi pins s σ H _ I h) λxv s1 hx=>hJ hx λd8 s2 h2=>?_)
 let(it,d,tn,J,M,e,I2,T,an,f2,q):=h2;subst e;exact on (CN ?_) (by show 0<=aI;decide);generalize hD:s2.heap.objs.size=D;let c4:M D=ac:=I2.hok.fresh (pI hD);let(W,(m0,w0),ap):=q D c4;generalize ar:({s2 with heap:=s2.heap.push {cls:=.type "list",data:=.seq ([]:List ag).toArray}}:aw)=a
 let I3:cz X pins σ (bD M D (.lst [])) a:=by
  rw[<-ar];exact I2.laid (t':=s2.toks) (λb o e=>aE _ e) (pI hD) ⟨aR _,[],0,.nil,?_⟩;rw[<-hD];exact aY _ rfl
 let h3:a.heap=s2.heap.push {cls:=.type "list",data:=.seq ([]:List ag).toArray}:=by rw[<-ar]
 let sz:∀b∈d,b<s2.heap.objs.size:=λb f=>by
  let(o,e,_):=T.obj _ _ an b f;exact aW e
 let f3:∀b∈d,ul X pins (bD M D (.lst [])) b/\b<a.heap.objs.size:=λb f=>by
  let as:=sz b f;exact(⟨?_,(f2 b f).2⟩,by rw[h3,dQ];exact ia as);rw[aF (by rw[<-hD];exact bn as)];exact(f2 b f).1
 let c5:tn 0 a.heap:=T.keep _ _ _ an λb _ o e=>by rw[h3];exact aE _ e
 let I4:=CO I3 ok hN f3;let pg:=hg a (bD M D (.lst [])) a.heap.objs.size (eY (a.heap.objs.size+1) scope.names (ik X.env.cells scope.names [])) d;let pt:=ht a (bD M D (.lst [])) a.heap.objs.size (eY (a.heap.objs.size+1) scope.names (ik X.env.cells scope.names [])) d;let pe:=he a (bD M D (.lst [])) a.heap.objs.size (eY (a.heap.objs.size+1) scope.names (ik X.env.cells scope.names [])) d;show qM _ _ (.compStart (.ListComp elt [⟨tg,iter,ifs,0⟩] scope pos) 0 (.ref it) (.ref D) (pK scope (eY (a.heap.objs.size+1) scope.names (ik X.env.cells scope.names [])) a.heap.objs.size X.env)) (compPost (bd X.prog X.w) X.A X.xe use Qf (.ref D) a.heap.objs.size) {a with heap:=qS (a.heap.push {cls:=.type "dict",data:=.dict #[]}) scope.names}
 let av:∀b∈d,(bD M D (.lst [])) b=ac:=λb f=>(f3 b f).1.1
 generalize c9:pK scope (eY (a.heap.objs.size+1) scope.names (ik X.env.cells scope.names [])) a.heap.objs.size X.env=B at I4 pg pt pe⊢;let cL:B.locals=a.heap.objs.size:=by subst c9;rfl
 generalize dd:bD M D (.lst [])=L at I3 I4 pg pt pe w0 av f3;generalize cb:({a with heap:=qS (a.heap.push {cls:=.type "dict",data:=.dict #[]}) scope.names}:aw)=s4 at I4⊢
 let ax:tn 0 s4.heap:=T.keep _ _ _ c5 λb _ o e=>by rw[<-cb];exact vp _ _ _ _ (aE _ e)
 let E:∀{σ':St} {l:Hp} {s':aw},cz (X.blk a L scope B d) [] σ' l s'->(∀b∈d,l b=ac)->∀b∈d,ul (X.blk a L scope B d) [] l b:=λ{σ' l s'} I' hn b f=>
  ⟨hn b f,(I'.ok.exf b f).1,I'.ok.exfs b f,.inl f,λx c e=>(I'.ok.exf b f).2 x c e,λp hp=>aB (show p∈([]:List (Addr×Obj))++[] from hp) (by simp)⟩
 let O:qM (bd X.prog X.w) X.A (.compLoop (.ListComp elt [⟨tg,iter,ifs,0⟩] scope pos) 0 (.ref it) (.ref D) B) (compPost (bd X.prog X.w) X.A X.xe use Qf (.ref D) a.heap.objs.size) s4:=by
  exact Bv (λn s'=>∃i l,cz (X.blk a L scope B d) [] (hU σ (own.map (·.2))) l s'/\tn i s'.heap/\(∀b∈d,l b=ac)/\W i n l) ?_ m0 (WN 0 L I4 ax av w0);intro n s5 x';let(i,H5,I5,ay,n5,w5):=x';rcases ap i n H5 w5 with⟨stop,qq⟩|⟨go,Nx,cc,step⟩
  ·let td:=T.done (X.blk a L scope B d) rfl rfl rfl hc i [] s5 _ H5 (λ_ _=>False) I5 (E I5 n5) ay stop;exact EH td λr s6 ⟨hr,I6⟩=>?_
   subst hr;let I7:cz X pins σ H5 s6:=I3.call' (ch:=d) I6.os I6.base I6.hok I6.bare λb f=>⟨(f3 b f).1.2.2.2.1,(f3 b f).1.2.1,(f3 b f).1.2.2.2.2.1,(f3 b f).1.2.2.2.2.2⟩
   let nC:H5 a.heap.objs.size=ac:=by
    let z:H5 B.locals=ac:=I6.free;rw[cL] at z;exact z
   let(m,hn,_):=I6.loc;let hn:s6.heap.Ns B.locals m:=hn;rw[cL] at hn;exact c2 D a.heap.objs.size s6 m H5 I7 qq hn (I3.fpOk (aH _) nC)
  ·let ti:=T.item (X.blk a L scope B d) rfl rfl rfl hc i [] s5 _ H5 (λ_ _=>False) I5 (E I5 n5) ay go;exact EH ti λr s6 x'=>V11 x' λu hr h6=>?_
   subst hr;exact EH h6 λ_ s7 x'=>V2 x' λx H7 x'=>X4 x' λI7 r7 y7 a3 n7=>?_
   let cj:=I7.pinned (E I7 n7) (T.obj _ _ a3);exact EH (pg _ s7 _ H7 x u _ cj r7 (step x H7 y7)) λ_ s8 ⟨σ8,H8,I8,a',q8⟩=>?_
   exact EH (pt _ s8 σ8 H8 _ I8 q8) λb s9 x'=>V11 x' λH9 I9 q9=>?_
   let b1:∀{s':aw} {l:Hp},cz (X.blk a L scope B d) ([]++yP d s7.heap) σ8 l s'->Nx l->∃m,m<n/\∃i l,cz (X.blk a L scope B d) [] (hU σ (own.map (·.2))) l s'/\tn i s'.heap/\(∀b∈d,l b=ac)/\W i m l:=λ{s' l} I' nx=>by
    let(m',hm,w'):=cc l nx;let Y:∀b∈d,∀o,s7.heap.get? b=aa o->s'.heap.get? b=aa o/\l b=ac:=λb f o e=>
     let z:=I'.pin (b,o) (bt _ (bt _ (uS f e)))
     ⟨z.1,z.2.1⟩
    let hl:(hU σ (own.map (·.2))).length=σ8.length:=by rw[<-a',sQ]
    exact(m',hm,WN (i+1) l ((I'.unpinned (pins:=[])).weak hl (λj v e=>?_)) (T.keep _ _ _ a3 λb f o e=>(Y b f o e).1) (λb f=>?_) w')
    ·rw[<-a'] at e;exact(wP e).1
    ·let(o,e,_):=T.obj _ _ a3 b f;exact(Y b f o e).2
   cases b with
   |false=>
    simp only[bE,if_false] at q9⊢;exact b1 I9 q9
   |true=>
    simp only[if_true] at q9⊢;exact EH (pe _ s9 σ8 H9 _ I9 q9) λz e8 x'=>V22 x' λyv e9 cn co x'=>V12 x' λea b2 b3 nx=>?_
    exact NX (X:=X.blk a L scope B d) cn b2 b3 co λeb cp=>b1 cp nx
 exact codeAny_compStart_list O (T.self X.A 0 _ _ _ ax O)
def vQ {own:List (Str×Nat)}{c:TI}(hc:X.calm=ae)(hN:X.N.Nodup)(d:PI X tg iter c)(i:FK X.N X.env.scope scope own)(j:∀(s:aw) (H:Hp) (C:Addr) (cl:List (Str×Addr)) (a:List Addr),PG (X.blk s H scope (pK scope cl C X.env) a) tg g)(l:∀(s:aw) (H:Hp) (C:Addr) (cl:List (Str×Addr)) (a:List Addr),RK (X.blk s H scope (pK scope cl C X.env) a) ifs tt)(p:∀(s:aw) (H:Hp) (C:Addr) (cl:List (Str×Addr)) (a:List Addr),PE (X.blk s H scope (pK scope cl C X.env) a) elt te)(r:∀x,z0 iter X.env x=pure x:=by intro _;rfl):
  PE X (.ListComp elt [⟨tg,iter,ifs,0⟩] scope pos) (TU c g tt te (own.map (·.2))):=by
 intro pins s σ H Q I h;rw[eval_ListComp];exact Ld hc hN I d i j l p r h λD C u m v w q hn f=>⟨m,hn,λy z=>?_⟩
 let(A,B,O,E,J,L):=f;exact WJ (.ref D) v (w.turned (t':=u.toks) (λb o M e=>(z.2 b M).trans e) A B E J L) rfl q
end
def IV {lo:Int}{vs:List Nat}{q:Hp}{D:Addr}{r:Hp->Prop}(Pv:Nat->Hp->Prop)(u:Pv 0 (bD q D (.lst [])))(v:∀i H,i<n->Pv i H->g (.int (lo+i)) (hU σ vs) H λa l=>hU a vs=hU σ vs/\tt a l λb f=>
   if b=ae then te a f λy j=>∃acc,j D=aa (.lst acc)/\acc.length<aI/\Pv (i+1) (bD j D (.lst (acc++[y]))) else Pv (i+1) f) (w:∀H,Pv n H->r H):
  ∃W:Nat->Nat->Hp->Prop,(∃m,W 0 m (bD q D (.lst [])))/\∀i m H,W i m H->
   ((KW lo n).stop i H/\r H)\/((KW lo n).go i H/\∃o:Hp->Prop,(∀c,o c->∃s,s<m/\W (i+1) s c)/\∀x c,(KW lo n).yld i H x c->g x (hU σ vs) c λa l=>hU a vs=hU σ vs/\tt a l λb f=>
     if b=ae then te a f λy j=>∃acc,j D=aa (.lst acc)/\acc.length<aI/\o (bD j D (.lst (acc++[y]))) else o f):=by
 exact WL (λi m H=>m=n-i/\i<=n/\Pv i H) ⟨n,by simp,aR _,u⟩ ?_;intro i m H x';let(rfl,A,p):=x';by_cases d:i<n
 ·exact .inr ⟨d,WL (Pv (i+1)) (λc z=>⟨n-(i+1),⋯,rfl,d,z⟩) λx c y=>?_⟩;let(e,y):=y;subst e y;exact v i _ d p
 ·let e:i=n:=⋯
  subst e;exact .inl ⟨aH _,w H p⟩
def FL {K:am}{vs:List Nat}{s:Hp}{D:Addr}{u:Hp->Prop}(Pv:Nat->Hp->Prop)(w:Pv 0 (bD s D (.lst [])))(z:∀i H,i<=xs.length->Pv i H->dL K H a xs)(A:∀i x H,xs[i]?=aa x->Pv i H->g x (hU σ vs) H λc o=>hU c vs=hU σ vs/\tt c o λb f=>
   if b=ae then te c f λy j=>∃acc,j D=aa (.lst acc)/\acc.length<aI/\Pv (i+1) (bD j D (.lst (acc++[y]))) else Pv (i+1) f) (B:∀H,Pv xs.length H->u H):
  ∃W:Nat->Nat->Hp->Prop,(∃m,W 0 m (bD s D (.lst [])))/\∀i m H,W i m H->
   ((Fx K a).stop i H/\u H)\/((Fx K a).go i H/\∃r:Hp->Prop,(∀d,r d->∃v,v<m/\W (i+1) v d)/\∀x d,(Fx K a).yld i H x d->g x (hU σ vs) d λc o=>hU c vs=hU σ vs/\tt c o λb f=>
     if b=ae then te c f λy j=>∃acc,j D=aa (.lst acc)/\acc.length<aI/\r (bD j D (.lst (acc++[y]))) else r f):=by
 exact WL (λi m H=>m=xs.length-i/\i<=xs.length/\Pv i H) ⟨xs.length,by simp,aR _,w⟩ ?_;intro i m H x';let(rfl,C,p):=x';let q:=z i H C p;by_cases l:i<xs.length
 ·exact .inr ⟨⟨xs,xs[i],q,by simp[l]⟩,WL (Pv (i+1)) (λd E=>⟨xs.length-(i+1),⋯,rfl,l,E⟩) λx d y=>?_⟩;let(e,y):=y;subst e;exact A i x _ (y xs q) p
 ·let e:i=xs.length:=⋯
  subst e;exact .inl ⟨⟨xs,q,aH _⟩,B H p⟩
def yU (N:List Str)(a scope:ku)(own:List (Str×Nat)):Bool:=
 (match scope.kind with| .function=>ae|_=>af)&&(scope.names.all λy=>decide (scope.names.lookup y.1=aa y.2))&&(own.all λp=>decide (N[p.2]?=aa p.1))&&
  (scope.names.all λy=>match y.2 with
   | .free=>(match a.names.lookup y.1 with|some .cell=>ae|some .free=>ae|_=>af)
   | .local=>decide (y.1∈own.map (·.1))||decide (y.1∉N)
   | .cell=>decide (y.1∈own.map (·.1))||decide (y.1∉N)
   |_=>ae)
def mo {N:List Str}{b:ku}{own:List (Str×Nat)}(h:yU N b scope own=ae):FK N b scope own:=by
 unfold yU at h;simp only[ca,fV,decide_eq_true_eq] at h;let(((c,f),i),d):=h;exact(?_,f,i,λy a e=>?_,λy a e=>?_)
 ·split at c
  ·assumption
  ·cases c
 ·let q:=d y a;simp only[e] at q;split at q<;>first|exact .inl (by assumption)|exact .inr (by assumption)|cases q
 ·let q:=d y a;rcases e with e|e<;>(simp only[e,iM,decide_eq_true_eq] at q;exact q)
section
variable {prog:aO} {w:World} {A:b0} {R:Result->aw->Prop} {s:aw} {elt t0 i0 t1 i1:Expr} {ifs0 ifs1:List Expr} {scope:ku} {pos:Pos} {it acc:ag} {env:Env}
end
section
variable {X:Cx}
end
variable {o:Option V}
section
variable {κ:Type} [DecidableEq κ]
def eE (kvs:List (κ×V))(k:κ):Option V:=(kvs.find? λa=>decide (a.1=k)).map (·.2)
def jW (kvs:List (κ×V))(k:κ)(v:V):List (κ×V):=
 if(kvs.any λa=>decide (a.1=k))=ae then kvs.map (λa=>if a.1=k then(a.1,v) else a) else kvs++[(k,v)]
def lh (kvs:List (κ×V))(k:κ):List (κ×V):=kvs.filter λa=>decide (a.1≠k)
def sR {k:κ}:eE ([]:List (κ×V)) k=ac:=rfl
def ie {p:κ×V}{r:List (κ×V)}{k:κ}(e:p.1=k):eE (p::r) k=aa p.2:=by simp[eE,jt,e]
def gM {p:κ×V}{r:List (κ×V)}{k:κ}(e:¬p.1=k):eE (p::r) k=eE r k:=by simp[eE,jt,e]
theorem o8 (k:κ):∀kvs:List (κ×V),(kvs.any λa=>decide (a.1=k))=(eE kvs k).isSome
 |[]=>rfl
 |p::r=>by
  rw[lR];by_cases e:p.1=k
  ·simp only[ie e,decide_eq_true e,Bool.true_or,Option.isSome_some]
  ·rw[gM e,decide_eq_false e,Bool.false_or];exact o8 k r
theorem CQ (k j:κ)(y:V):∀kvs:List (κ×V),eE (kvs.map λa=>if a.1=k then(a.1,y) else a) j=(eE kvs j).map λx=>if j=k then y else x
 |[]=>rfl
 |p::r=>by
  let b:=CQ k j y r;rw[bB];by_cases h:p.1=k
  ·rw[jN h];by_cases e:p.1=j
   ·rw[ie (p:=(p.1,y)) e,ie e,kf,jN (e.symm.trans h)]
   ·rw[gM (p:=(p.1,y)) e,gM e,b]
  ·rw[iQ h];by_cases e:p.1=j
   ·rw[ie (p:=p) e,ie e,kf,iQ (λz=>h (e.trans z))]
   ·rw[gM (p:=p) e,gM e,b]
theorem An (k j:κ)(y:V):∀kvs:List (κ×V),eE kvs k=ac->eE (kvs++[(k,y)]) j=if j=k then aa y else eE kvs j
 |[],_=>by
  by_cases e:k=j
  ·rw[jN e.symm];exact ie (p:=(k,y)) e
  ·rw[iQ (λz=>e z.symm)];exact gM (p:=(k,y)) e
 |p::r,hn=>by
  rw[List.cons_append];let a:¬p.1=k:=λz=>by rw[ie z] at hn;cases hn
  rw[gM a] at hn;let b:=An k j y r hn;by_cases e:p.1=j
  ·rw[ie e,ie e,iQ (λz=>a (e.trans z))]
  ·rw[gM e,gM e,b]
def vR (kvs:List (κ×V))(k j:κ)(y:V):eE (jW kvs k y) j=if j=k then aa y else eE kvs j:=by
 unfold jW;by_cases a:(kvs.any λb=>decide (b.1=k))=ae
 ·rw[jN a,CQ];rw[o8] at a;by_cases e:j=k
  ·let(x,c):=bF.mp a;rw[jN e,e,c,kf,jN rfl]
  ·rw[iQ e]
   cases eE kvs j with
   |none=>rfl
   |some x=>rw[kf,iQ e]
 ·rw[iQ a];exact An k j y kvs ?_;rw[o8] at a
  cases q:eE kvs k with
  |none=>rfl
  |some x=>rw[q] at a;exact(a rfl).elim
def sS (kvs:List (κ×V))(k:κ)(v:V):(jW kvs k v).length<=kvs.length+1:=by
 unfold jW;split
 ·rw[aj];omega
 ·rw[aQ,aK,ju];omega
def vS {kvs:List (κ×V)}{k:κ}(v:V)(h:eE kvs k=ac):jW kvs k v=kvs++[(k,v)]:=by
 unfold jW;rw[o8,h];exact iQ (by decide)
def uj.isSome_eq {u:Option ag}(r:uj o u):o.isSome=u.isSome:=by
 cases o with
 |none=>cases u with
  |none=>rfl
  |some _=>exact(show False from r).elim
 |some _=>cases u with
  |none=>exact(show False from r).elim
  |some _=>rfl
theorem uj.getD {u:Option ag}{d:V}{d':ag}(r:uj o u)(a:eA d d'):eA (o.getD d) (u.getD d'):=by
 cases o with
 |none=>cases u with
  |none=>exact a
  |some _=>exact(show False from r).elim
 |some _=>cases u with
  |none=>exact(show False from r).elim
  |some _=>exact r
def KV.val {kvs:List (κ×V)}{vs:List (κ×ag)}(r:KV kvs vs)(k:κ):uj (eE kvs k) (xN vs k):=by
 unfold KV at r
 induction r with
 |nil=>exact dR
 | @cons p q j a h t f=>
   let(d,i):=h;by_cases e:p.1=k
   ·let c:q.1=k:=d.symm.trans e;let b:xN (q::a) k=aa q.2:=by simp[xN,jt,c]
    rw[ie e,b];exact i
   ·let c:¬q.1=k:=λz=>e (d.trans z)
    let b:xN (q::a) k=xN a k:=by simp[xN,jt,c]
    rw[gM e,b];exact f
theorem KV.any {kvs:List (κ×V)}{vs:List (κ×ag)}(r:KV kvs vs)(k:κ):(kvs.any λa=>decide (a.1=k))=vs.any λa=>decide (a.1=k):=by
 unfold KV at r
 induction r with
 |nil=>rfl
 |cons h t b=>rw[lR,lR,b,h.1]
theorem KV.repl {kvs:List (κ×V)}{vs:List (κ×ag)}(r:KV kvs vs)(k:κ)(c:eA y u):
  KV (kvs.map λa=>if a.1=k then(a.1,y) else a) (vs.map λa=>if a.1=k then(a.1,u) else a):=by
 unfold KV at r⊢
 induction r with
 |nil=>exact .nil
 | @cons p q i j h t d=>
   rw[bB,bB];exact .cons ?_ d;let(b,f):=h;by_cases e:p.1=k
   ·rw[jN e,jN (b.symm.trans e)];exact(b,c)
   ·rw[iQ e,iQ (λz=>e (b.trans z))];exact(b,f)
def KV.put {kvs:List (κ×V)}{vs:List (κ×ag)}(r:KV kvs vs)(k:κ)(a:eA y u):KV (jW kvs k y) (stored vs k u):=by
 unfold jW stored;rw[r.any k];by_cases e:(vs.any λb=>decide (b.1=k))=ae
 ·rw[jN e,jN e];exact r.repl k a
 ·rw[iQ e,iQ e];exact qo r ⟨rfl,a⟩
def KV.drop {kvs:List (κ×V)}{vs:List (κ×ag)}(r:KV kvs vs)(k:κ):KV (lh kvs k) (without vs k):=by
 unfold KV at r⊢;unfold lh without
 induction r with
 |nil=>exact .nil
 | @cons p q j l h t d=>
   let(c,f):=h;rw[dB,dB];by_cases e:p.1=k
   ·let a:¬decide (p.1≠k)=ae:=by simp[e]
    let b:¬decide (q.1≠k)=ae:=by simp[c.symm.trans e]
    rw[iQ a,iQ b];exact d
   ·let i:¬q.1=k:=λz=>e (c.trans z)
    let a:decide (p.1≠k)=ae:=by simp[e]
    let b:decide (q.1≠k)=ae:=by simp[i]
    rw[jN a,jN b];exact .cons ⟨c,f⟩ d
theorem KV.keys {kvs:List (κ×V)}{vs:List (κ×ag)}(r:KV kvs vs):kvs.map (·.1)=vs.map (·.1):=by
 unfold KV at r
 induction r with
 |nil=>rfl
 |cons h t a=>rw[bB,bB,a,h.1]
theorem KV.length {kvs:List (κ×V)}{vs:List (κ×ag)}(r:KV kvs vs):kvs.length=vs.length:=cB r
def CS (kvs:List (κ×V))(k:κ):(lh kvs k).length<=kvs.length:=cY _ _
end
def uB {k:ef}(r:eA (kV k) u):(dF P w).is k u=ae:=by
 cases k with
 |inl i=>let(t,e):=(show∃t,u=iY i t from r);subst e;exact Cw P w i t
 |inr x=>let(t,e):=(show∃t,u=yb x t from r);subst e;exact Cy P w x t
theorem Ao {P:aO}{w:World}:∀{ks:List ef} {us:List ag},eI (ks.map kV) us->ItemsAre (dF P w) ks us
 |[],_,r=>by rw[pE] at r;cases r;exact .nil
 |k::ks,_,r=>by
  rw[bB] at r
  cases r with
  |cons h t=>exact .cons (uB h) (Ao t)
abbrev KT (H:Hp):List (List ef×V)->List (List ef×Addr×ag)->Prop:=a9 λp q=>p.1=q.1/\H q.2.1=aa (.tup (p.1.map kV))/\eA p.2 q.2.2
def KT.val {kvs:List (List ef×V)}{xs:List (List ef×Addr×ag)}(r:KT H kvs xs)(k:List ef):uj (eE kvs k) ((Fg xs k).map (·.2)):=by
 induction r with
 |nil=>exact dR
 | @cons p q j a h t f=>
   let(d,_,i):=h;by_cases e:p.1=k
   ·let c:q.1=k:=d.symm.trans e;let b:Fg (q::a) k=aa q.2:=by simp[Fg,jt,c]
    rw[ie e,b];exact i
   ·let c:¬q.1=k:=λz=>e (d.trans z)
    let b:Fg (q::a) k=Fg a k:=by simp[Fg,jt,c]
    rw[gM e,b];exact f
theorem KT.repl {kvs:List (List ef×V)}{xs:List (List ef×Addr×ag)}(r:KT H kvs xs)(k:List ef)(d:eA y u):
  KT H (kvs.map λb=>if b.1=k then(b.1,y) else b) (xs.map (putAt k u)):=by
 induction r with
 |nil=>exact .nil
 | @cons p q j l h t f=>
   rw[bB,bB];exact .cons ?_ f;let(a,c,i):=h;unfold putAt;by_cases e:p.1=k
   ·rw[jN e,jN (a.symm.trans e)];exact(a,c,d)
   ·rw[iQ e,iQ (λz=>e (a.trans z))];exact(a,c,i)
def KT.put {kvs:List (List ef×V)}{xs:List (List ef×Addr×ag)}(r:KT H kvs xs)(k:List ef){b:Addr}(c:H b=aa (.tup (k.map kV)))(a:eA y u):
  KT H (jW kvs k y) (storedH xs k b u):=by
 let e:(kvs.any λd=>decide (d.1=k))=(Fg xs k).isSome:=by
  rw[o8,(r.val k).isSome_eq,ge]
 unfold jW storedH;rw[e];by_cases q:(Fg xs k).isSome=ae
 ·rw[jN q,jN q];exact r.repl k a
 ·rw[iQ q,iQ q];exact qo r ⟨rfl,c,a⟩
def KT.keeps {a:Hp}{kvs:List (List ef×V)}{xs:List (List ef×Addr×ag)}(r:KT H kvs xs)(c:∀b ys,H b=aa (.tup ys)->a b=aa (.tup ys)):KT a kvs xs:=
 a9.mapP r λ_ _ z=>⟨z.1,c _ _ z.2.1,z.2.2⟩
variable {kvs:List (ef×V)}
section
variable {P:aO} {w:World} {H:Hp} {h:Heap} {a:Addr}
def MM {u:HO}(b:oE P w H h)(e:Rd H a u):iJ P w H h a u:=e.ok b
def pb (b:oE P w H h)(e:Rd H a (.dK kvs)):kvs.length<=aI/\(a==iG)=af/\∃vs,KV kvs vs/\h.DictOf (dF P w) a vs:=
 show iJ P w H h a (.dK kvs) from MM b e
def CU (b:oE P w H h)(e:H a=aa (.dK kvs)):kvs.length<=aI/\(a==iG)=af/\∃vs,KV kvs vs/\h.DictOf (dF P w) a vs:=pb b (.inl e)
def uV {ks:List ef}(b:oE P w H h)(e:H a=aa (.tup (ks.map kV))):(ur (dF P w)).is h ks a:=by
 let(_,its,r,o,c,d,n,f):=(show iJ P w H h a (.tup (ks.map kV)) from b a _ e);exact WT o its.toArray n c d f (by simpa using Ao r)
def xu {kvs:List (List ef×V)}(b:oE P w H h)(e:Rd H a (.dT kvs)):kvs.length<=aI/\(a==iG)=af/\
  ∃xs,KT H kvs xs/\h.DictOfH (ur (dF P w)) a xs:=by
 let(z,y,xs,r,o,d,f,i,j,s,u,v):=(show iJ P w H h a (.dT kvs) from MM b e);exact(z,y,xs,r,WQ o d f i j s u ⟨λx hx=>?_,v⟩);let all:∀{l:List (List ef×V)} {m:List (List ef×Addr×ag)},KT H l m->∀x∈m,(ur (dF P w)).is h x.1 x.2.1:=by
  intro l m q
  induction q with
  |nil=>intro x hx;exact nomatch hx
  | @cons p q B C c t A=>
    intro x hx;rcases az.mp hx with e|hx
    ·subst e;exact uV b (by rw[<-c.1];exact c.2.1)
    ·exact A x hx
 exact all r x hx
def PR {kvs:List (List ef×V)}(b:oE P w H h)(e:H a=aa (.dT kvs)):kvs.length<=aI/\(a==iG)=af/\
  ∃xs,KT H kvs xs/\h.DictOfH (ur (dF P w)) a xs:=xu b (.inl e)
end
def gD (H:Hp)(a:Addr)(y:V)(r:Option V):Prop:=
 (∃kvs k,Rd H a (.dK kvs)/\y=kV k/\r=eE kvs k)\/∃kvs k b,Rd H a (.dT kvs)/\y=.ref b/\H b=aa (.tup (k.map kV))/\r=eE kvs k
def uo (H:Hp)(a:Addr)(y v:V)(c:Hp):Prop:=
 (∃kvs k,H a=aa (.dK kvs)/\y=kV k/\kvs.length<aI/\c=bD H a (.dK (jW kvs k v)))\/
 ∃kvs k b,H a=aa (.dT kvs)/\y=.ref b/\H b=aa (.tup (k.map kV))/\kvs.length<aI/\c=bD H a (.dT (jW kvs k v))
theorem gD.k {k:ef}(e:H a=aa (.dK kvs)):gD H a (kV k) (eE kvs k):=.inl ⟨kvs,k,.inl e,rfl,rfl⟩
theorem uo.k {k:ef}{v:V}(e:H a=aa (.dK kvs))(b:kvs.length<aI):uo H a (kV k) v (bD H a (.dK (jW kvs k v))):=.inl (WN kvs k e rfl b rfl)
section
variable {X:Cx} {pins:List (Addr×Obj)} {σ:St} {H:Hp} {s:aw} {a:Addr} {y v:V} {u r:ag} {o:Option V} {A:b0} {E:ag->aw->Prop}
def cz.big (I:cz X pins σ H s):iG<s.heap.objs.size:=by
 let h:eM<s.heap.objs.size:=(I.mod.glob.keeps I.bk).lt;exact tO (by decide) h
def G1 (x:A.units+1<oq)(I:cz X pins σ H s)(g:gD H a y (aa v))(r:eA y u)(h:∀f s',cz X pins σ H s'->eA v f->Q f s'):
  a8 (bd X.prog X.w) A (D6 (.ref a) u) Q E s:=by
 rcases g with⟨kvs,k,e,i,l⟩|⟨kvs,k,b,e,i,B,l⟩
 ·subst i;let(z,C,D,c,j):=pb I.hok e;let(f,hw,d):=uj.some_of (v:=v) (o:=xN D k) (by rw[l];exact c.val k);exact wpAny_getItem_of (uB r) j.mapOf hw (h f _ (I.tok _) d)
 ·subst i;cases (show u=bI b from r);let(z,C,xs,c,j):=xu I.hok e;let(f,hw,d):=uj.some_of (v:=v) (o:=(Fg xs k).map (·.2)) (by rw[l];exact c.val k);let(p,J,q):=eP.mp hw;exact wpAny_getItem_heap (kI x) (uV I.hok B) j J ?_;rw[q];exact h f _ (I.tok _) d
def R8 (p:A.units+1<oq)(I:cz X pins σ H s)(g:gD H a y o)(j:eA y u)(h:∀s',cz X pins σ H s'->Q (.bool o.isSome) s'):
  a8 (bd X.prog X.w) A (gh .In u (.ref a)) Q E s:=by
 rcases g with⟨kvs,k,e,d,l⟩|⟨kvs,k,b,e,d,r,l⟩
 ·subst d;let(z,f,v,c,i):=pb I.hok e;exact wpAny_in_of (uB j) f i.mapOf ?_;rw[<-(c.val k).isSome_eq,<-l];exact h _ (I.tok _)
 ·subst d;cases (show u=bI b from j);let(z,f,xs,c,i):=xu I.hok e;exact wpAny_in_heap (kI p) (uV I.hok r) f i ?_;let q:=(c.val k).isSome_eq;rw[ge] at q;rw[<-q,<-l];exact h _ (I.tok _)
def Le (p:A.units+1<oq)(I:cz X pins σ H s)(g:gD H a y o)(j:eA y u)(h:∀s',cz X pins σ H s'->Q (.bool (!o.isSome)) s'):
  a8 (bd X.prog X.w) A (gh .NotIn u (.ref a)) Q E s:=by
 rcases g with⟨kvs,k,e,d,l⟩|⟨kvs,k,b,e,d,r,l⟩
 ·subst d;let(z,f,v,c,i):=pb I.hok e;exact wpAny_notIn_of (uB j) f i.mapOf ?_;rw[<-(c.val k).isSome_eq,<-l];exact h _ (I.tok _)
 ·subst d;cases (show u=bI b from j);let(z,f,xs,c,i):=xu I.hok e;exact wpAny_notIn_heap (kI p) (uV I.hok r) f i ?_;let q:=(c.val k).isSome_eq;rw[ge] at q;rw[<-q,<-l];exact h _ (I.tok _)
def t9 {h':Heap}{ob:HO}(I:cz X pins σ H s)(d:KS (H a))(f:bO a s.heap h')(i:∃q,h'.get? a=aa q)(c:iJ X.prog X.w (bD H a ob) h' a ob):
  cz X pins σ (bD H a ob) {s with heap:=h',toks:=t'}:=
 I.write (x:=a) (e:=a) d (.inl rfl) (λb q j z=>(f.2 b j).trans z) i c
def wQ {c:Hp}{h':Heap}{vs:List (ef×ag)}(z:kvs.length<=aI)(d:(a==iG)=af)(b:KV kvs vs)(dd:h'.DictOf (dF P w) a vs):
  iJ P w c h' a (.dK kvs):=⟨z,d,vs,b,dd⟩
def G2 {J:Hp}{Q:Unit->aw->Prop}(Y:A.units+1<oq)(I:cz X pins σ H s)(g:uo H a y v J)(L:eA y u)(M:eA v r)(h:∀s',cz X pins σ J s'->Q () s'):
  a8 (bd X.prog X.w) A (setItem (.ref a) u r) Q E s:=by
 rcases g with⟨kvs,k,e,j,l,o⟩|⟨kvs,k,b,e,j,N,l,o⟩
 ·subst j o;let(z,p,vs,d,x):=CU I.hok e;let B:vs.length<=aI:=by rw[<-d.length];exact z
  let C:(jW kvs k v).length<=aI:=by have:=sS kvs k v;omega
  exact wpAny_setItem_pairs (hsz:=B) (uB L) x λO f D=>h _ ?_
  let he:∃q,O.get? a=aa q:=let ⟨q,_,_,i,_⟩:=f;⟨q,i⟩;exact t9 I (by rw[e];exact dR) D he (wQ C p (d.put k M) f)
 ·subst j o;cases (show u=bI b from L);let(z,p,xs,d,x):=PR I.hok e;let B:xs.length<=aI:=by rw[<-cB d];exact z
  let C:(jW kvs k v).length<=aI:=by have:=sS kvs k v;omega
  exact wpAny_setItem_heap (hsz:=B) (kI Y) (uV I.hok N) x λO f D=>h _ ?_
  let(q,es,ep,i,h2,h3,h4,_,h5):=f;exact t9 I (by rw[e];exact dR) D ⟨q,i⟩ ⟨C,p,_,(d.put k N M).keeps λc ys T=>?_,WQ q es ep i h2 h3 h4 h5⟩;rw[aF (jf T e (λz=>nomatch z))];exact T
end
section
variable {X:Cx} {pins:List (Addr×Obj)} {σ:St} {H:Hp} {s:aw} {a:Addr} {kvs:List (ef×V)} {k:ef} {u:ag} {A:b0} {E:ag->aw->Prop}
def Pc {Q:Unit->aw->Prop}(I:cz X pins σ H s)(e:H a=aa (.dK kvs))(f:eA (kV k) u)(l:(eE kvs k).isSome=ae)(h:∀s',cz X pins σ (bD H a (.dK (lh kvs k))) s'->Q () s'):
  a8 (bd X.prog X.w) A (delItem (.ref a) u) Q E s:=by
 let(z,i,j,b,d):=CU I.hok e;exact wpAny_delItem_slot d.typeIs (by decide) zB
  (or zB d.typeIs PySem.F.entry_dict_delitem (PySem.F.args_dict_delitem_2 _ _) (meets_dict_delitem_pairs (dF X.prog X.w) a (uB f)) ⟨j,d,by rw[<-b.length];exact z,by rw[<-(b.val k).isSome_eq];exact l,λo c p=>h _ ?_⟩)
 let r:∃q,o.get? a=aa q:=let ⟨q,_,_,v,_⟩:=c;⟨q,v⟩;exact t9 I (by rw[e];exact dR) p r (wQ (bq (CS kvs k) z) i (b.drop k) c)
def PU {v:V}{more:List ag}(I:cz X pins σ H s)(e:H a=aa (.dK kvs))(f:eA (kV k) u)(l:eE kvs k=aa v)(p:more=[]\/∃x,more=[x])(h:∀c s',cz X pins σ (bD H a (.dK (lh kvs k))) s'->eA v c->Q c s'):a8 (bd X.prog X.w) A (call (.builtin "dict.pop") (.ref a::u::more)) Q E s:=by
 let(z,B,r,b,y):=CU I.hok e;let(c,hw,j):=uj.some_of (v:=v) (o:=xN r k) (by rw[<-l];exact b.val k);let C:(keyPart u).isSome=ae:=by
  cases k with
  |inl i=>let(t,q):=(show∃t,u=iY i t from f);subst q;rfl
  |inr x=>let(t,q):=(show∃t,u=yb x t from f);subst q;rfl
 let D:argsOk "dict.pop" ⟨.ref a::u::more,[]⟩:=by
  rcases p with q|⟨x,q⟩
  ·subst q;exact PySem.F.args_dict_pop_2 _ _
  ·subst q;exact PySem.F.args_dict_pop_3 _ _ _
 exact or B9 y.typeIs PySem.F.entry_dict_pop D (meets_dict_pop_there (dF X.prog X.w) a (uB f) more p C)
  (WN r c y (by rw[<-b.length];exact z) hw λJ d L=>h c _ ?_ j)
 let M:∃q,J.get? a=aa q:=let ⟨q,_,_,N,_⟩:=d;⟨q,N⟩;exact t9 I (by rw[e];exact dR) L M (wQ (bq (CS kvs k) z) B (b.drop k) d)
def PV (I:cz X pins σ H s)(e:Rd H a (.dK kvs))(h:∀t s',cz X pins σ H s'->Q (.int kvs.length t) s'):a8 (bd X.prog X.w) A (call (.builtin "len") [.ref a]) Q E s:=by
 let(z,c,f,b,d):=pb I.hok e;exact call_len_dict c d (by rw[<-b.length];rw[nI] at z;omega) ?_;rw[<-b.length];exact h _ _ (I.tok _)
end
def NZ (i:Expr):Prop:=∀a iv,B8 i af a iv=operate [a,iv] (D6 a iv)
def FM {b a:Expr}{T id:String}(l:typeLookup (.type T) "__getitem__"=pure (aa (.builtin id)))(p:NZ a)(h:a8 (bd prog w) A (eval b env) (λo f=>a8 (bd prog w) A (eval a env) (λi d=>d.TypeIs o T/\a8 (bd prog w) A (D6 o i) Q E d) E f) E s):
  a8 (bd prog w) A (eval (.Subscript b a pos) env) Q E s:=by
 exact Subscript_ (gy h (λo f q=>gy q (λi d e=>?_) λ_ _ x=>x) λ_ _ x=>x);let(hT,e):=e;unfold HJ;exact ai ?_;rw[getitemInPython_of_ne hT.not_modules];exact ai (DT hT l ?_);let c:a8 (bd prog w) A (B8 a af o i) (λr j=>a8 (bd prog w) A (letTemporaryGo b o r >>= λ_=>pure r) Q E j) E d:=by
  rw[p o i];exact wpAny_operating (gy e (λr j u=>ai (wpAny_letTemporaryGo (aG u))) λ_ _ x=>x)
 first
  |exact aG (ai c)
  |exact ai (aG (ai c))
  |exact ai c
variable {X:Cx}
def CV (I:cz X pins σ H s)(g:gD H a y o):s.TypeIs (.ref a) "dict":=by
 rcases g with⟨kvs,k,e,_,_⟩|⟨kvs,k,b,e,_,_,_⟩
 ·let(_,_,d,_,c):=pb I.hok e;exact c.typeIs
 ·let(_,_,xs,_,c):=xu I.hok e;exact c.typeIs
def MN (td c:TE):TE:=λσ H Q=>td σ H λx d=>c σ d λy b=>∃a v,x=.ref a/\gD b a y (aa v)/\Q v b
def R9 (c td:TE):TE:=λσ H Q=>c σ H λy d=>td σ d λx b=>∃a o,x=.ref a/\gD b a y o/\Q (.bl o.isSome) b
def Lf (c td:TE):TE:=λσ H Q=>c σ H λy d=>td σ d λx b=>∃a o,x=.ref a/\gD b a y o/\Q (.bl (!o.isSome)) b
def PX (td c d:TE):TS:=λD σ H=>d σ H λv e=>td σ e λx f=>c σ f λy i=>∃a b,x=.ref a/\uo i a y v b/\D.nx σ b
section
variable {X:Cx} {o i e value:Expr} {pos pos' tpos:Pos} {td ty tv:TE}
def jh (d:X.A.units+1<oq)(e:PE X o td)(f:PE X i ty)(j:NZ i):PE X (.Subscript o i pos) (MN td ty):=by
 intro pins s σ H Q I h;exact FM zC.lookup j (hJ (e pins s σ H _ I h) λu l x'=>V22 x' λx p q r w=>hJ (f pins l σ p _ q w) λiv J x'=>V22 x' λy z c B x'=>V22 x' λa v C g D=>?_);subst C;obtain rfl:u=bI a:=r;exact(CV c g,G1 d c g B λL M E b=>⟨v,z,E,b,D⟩)
def Bw (b:X.A.units+1<oq)(c:PE X i ty)(d:PE X o td):PC X .In i o (R9 ty td):=by
 intro pins s σ H Q I h;exact hJ (c pins s σ H _ I h) λiv e x'=>V22 x' λy f j l p=>hJ (d pins e σ f _ j p) λu D x'=>V22 x' λx q r v x'=>V22 x' λa w z g B=>?_
 subst z;obtain rfl:u=bI a:=v;exact R8 b r g l λE C=>⟨.bl w.isSome,q,C,rfl,B⟩
def qB (b:X.A.units+1<oq)(c:PE X i ty)(d:PE X o td):PC X .NotIn i o (Lf ty td):=by
 intro pins s σ H Q I h;exact hJ (c pins s σ H _ I h) λiv e x'=>V22 x' λy f j l p=>hJ (d pins e σ f _ j p) λu D x'=>V22 x' λx q r v x'=>V22 x' λa w z g B=>?_
 subst z;obtain rfl:u=bI a:=v;exact Le b r g l λE C=>⟨.bl (!w.isSome),q,C,rfl,B⟩
def lG (b:X.A.units+1<oq)(c:PE X o td)(d:PE X i ty)(e:PE X value tv)(f:xM value (aa (.Subscript o i pos')) pos.line X.env=pure af):
  PS X (.Assign [.Subscript o i pos'] value pos) (PX td ty tv):=by
 intro pins s σ H D I h;exact wpAny_Assign_Subscript (hJ (e pins s σ H _ I h) λr j x'=>V22 x' λv l p q w=>hJ (c pins j σ l _ p w) λu z x'=>V22 x' λx B C E J=>hJ (d pins z σ B _ C J) λiv Y x'=>V22 x' λy H3 L M x'=>V22 x' λa N O g Q=>?_) f;subst O;obtain rfl:u=bI a:=E;exact G2 b L g M q λs4 T=>⟨σ,N,T,Q⟩
end
def CW (h:Heap)(a:iG<h.objs.size):iJ P w H (h.push {cls:=.type "dict",data:=.dict #[]}) h.objs.size (.dK []):=
 ⟨aR _,beq_eq_false_iff_ne.mpr (jl (bn a)),[],.nil,Heap.DictOf.new h⟩
def N0:TE:=λ_ H Q=>∀p,H p=ac->Q (.ref p) (bD H p (.dK []))
section
variable {X:Cx} {pos:Pos}
def jH:PE X (.Dict [] [] pos) N0:=λpins s σ H Q I h=>
 wpAny_Dict_empty (WJ (.ref s.heap.objs.size) _ (I.laid (a:=s.heap.objs.size) (o:=.dK []) (t':=s.toks) (λ_ _ q=>aE _ q) (aH _) (CW s.heap I.big)) rfl (h _ (I.hok.fresh (aH _))))
end
def EI:List (TE×TE)->St->Hp->(List (V×V)->Hp->Prop)->Prop
 |[],_,H,Q=>Q [] H
 |(tk,a)::r,σ,H,Q=>tk σ H λx b=>a σ b λy c=>EI r σ c λd e=>Q ((x,y)::d) e
abbrev VV:List (V×V)->List (ag×ag)->Prop:=a9 λp q=>eA p.1 q.1/\eA p.2 q.2
def RL (X:Cx)(pos:Pos)(b:List (Option Expr))(a:List Expr)(c:List (TE×TE)):Prop:=
 ∀(pins:List (Addr×Obj)) (s:aw) (σ:St) (H:Hp) (Q:List (V×V)->Hp->Prop),cz X pins σ H s->EI c σ H Q->
  a8 (bd X.prog X.w) X.A (evalPairs (pairTrees b a X.env pos)) (λf i=>∃d e,cz X pins σ e i/\VV d f/\Q d e) X.xe s
def Lg:RL X pos [] [] []:=λpins s σ H Q I h=>pairTrees_nil_walk ⟨[],H,I,.nil,h⟩
variable {trs:List (TE×TE)}
def IW {k v:Expr}{ks:List (Option Expr)}{vs:List Expr}{tk b:TE}(c:PE X k tk)(d:PE X v b)(e:RL X pos ks vs trs):
  RL X pos (aa k::ks) (v::vs) ((tk,b)::trs):=λpins s σ H Q I h=>
 pairTrees_cons_walk (hJ (c pins s σ H _ I h) λu f x'=>V22 x' λx i j l o=>hJ (d pins f σ i _ j o) λE p x'=>V22 x' λy q r w z=>
  hJ (e pins p σ q _ r z) λJ L x'=>V22 x' λA B C a D=>⟨(x,y)::A,B,C,.cons ⟨l,w⟩ a,D⟩)
def ni (kvs more:List (ef×V)):List (ef×V):=more.foldl (λa b=>jW a b.1 b.2) kvs
def KV.merge:∀{more:List (ef×V)} {a:List (ef×ag)} {kvs:List (ef×V)} {vs:List (ef×ag)},KV more a->KV kvs vs->KV (ni kvs more) (merged vs a):=by
 intro more a kvs vs r;unfold KV at r
 induction r generalizing kvs vs with
 |nil=>intro q;exact q
 | @cons p q d f h t b=>
   intro c;let e:KV (jW kvs p.1 p.2) (stored vs q.1 q.2):=by
    have:=c.put p.1 h.2;rw[<-h.1];exact this
   exact b e
theorem nD:∀(more kvs:List (ef×V)),(ni kvs more).length<=kvs.length+more.length
 |[],kvs=>by show kvs.length<=kvs.length+0;omega
 |p::r,kvs=>by
  let a:=nD r (jW kvs p.1 p.2);let b:=sS kvs p.1 p.2;show(ni (jW kvs p.1 p.2) r).length<=_;rw[aK];omega
theorem yV {P:aO}{w:World}:∀{kvs:List (ef×V)} {ws:List (ag×ag)},VV (kvs.map λe=>(kV e.1,e.2)) ws->∃d,Carries (dF P w) ws d/\KV kvs d
 |[],_,r=>by rw[pE] at r;cases r;exact([],dR,.nil)
 |p::kvs,_,r=>by
  rw[bB] at r
  cases r with
  | @cons a b i bs h t=>
    let(d,c,q):=yV (P:=P) (w:=w) t;let(j,f):=b;exact((p.1,f)::d,⟨uB h.1,rfl,c⟩,.cons ⟨rfl,h.2⟩ q)
def PY (trs:List (TE×TE)):TE:=λσ H Q=>∀p,H p=ac->EI trs σ (bD H p (.dK [])) λc a=>a p=aa (.dK [])/\∃kvs:List (ef×V),c=kvs.map (λb=>(kV b.1,b.2))/\kvs.length<=15/\Q (.ref p) (bD a p (.dK (ni [] kvs)))
def Lh {b:List (Option Expr)}{d:List Expr}(h:RL X pos b d trs)(f:b.all (·.isSome)=ae)(r:b.length=d.length)(u:b≠[])(j:b.length<=15):PE X (.Dict b d pos) (PY trs):=by
 intro pins s σ H Q I q;let hn:=I.hok.fresh (aH s.heap.objs.size);let v:=I.laid (a:=s.heap.objs.size) (o:=.dK []) (h':=s.heap.push {cls:=.type "dict",data:=.dict #[]}) (t':=s.toks) (λ_ _ q=>aE _ q) (aH _) (CW s.heap I.big);exact wpAny_Dict_walk (knd:=dF X.prog X.w) f r u j (hJ (h pins _ σ _ _ v (q _ hn)) λY s2 x'=>V23 x' λps H2 p l e x'=>V12 x' λkvs x lk y=>?_);subst x;let(A,c,B):=yV (P:=X.prog) (w:=X.w) l;let(z,C,D,E,J):=CU p.hok e;cases E;exact(A,c,J,λh' i L=>(WJ (.ref s.heap.objs.size) _ ?_ rfl y));let M:(ni [] kvs).length<=aI:=by
  let N:=nD kvs [];rw[ju] at N;rw[nI];omega
 let O:∃q,h'.get? s.heap.objs.size=aa q:=let ⟨q,_,_,T,_⟩:=i;⟨q,T⟩;exact t9 p (by rw[e];exact dR) L O (wQ M C (B.merge .nil) i)
structure M1 (X:Cx)(o:Expr)(m:Str)(apos:Pos)(e:Expr)(cpos:Pos):Prop where
 base:fY o m X.env (eval o X.env)=eval o X.env
 few:((iO cpos (bp [e] X.env)).all (λx=> !x.1)&&(uu cpos (nL [] X.env)).all (λx=>x.1.isSome)
  &&decide (([e]:List Expr).length+([]:List lZ).length+(if([]:List lZ).isEmpty then 0 else 1)<30))=ae
 line:(apos.endLine==cpos.line)=ae
 trees:iO cpos (bp [e] X.env)=[(af,eval e X.env)]
structure M2 (X:Cx)(o:Expr)(m:Str)(apos:Pos)(e f:Expr)(cpos:Pos):Prop where
 base:fY o m X.env (eval o X.env)=eval o X.env
 few:((iO cpos (bp [e,f] X.env)).all (λx=> !x.1)&&(uu cpos (nL [] X.env)).all (λx=>x.1.isSome)
  &&decide (([e,f]:List Expr).length+([]:List lZ).length+(if([]:List lZ).isEmpty then 0 else 1)<30))=ae
 line:(apos.endLine==cpos.line)=ae
 trees:iO cpos (bp [e,f] X.env)=[(af,eval e X.env),(af,eval f X.env)]
def RM (H:Hp)(a:Addr):Prop:=(∃kvs,Rd H a (.dK kvs))\/∃kvs,Rd H a (.dT kvs)
def EJ (I:cz X pins σ H s)(d:RM H a):
  s.TypeIs (.ref a) "dict"/\(∀b,bI a=.ref b->∃ob,s.heap.get? b=aa ob/\ob.dict=ac)/\(a==iG)=af:=by
 rcases d with⟨kvs,e⟩|⟨kvs,e⟩
 ·let(_,f,l,_,c):=pb I.hok e;exact(c.typeIs,λb q=>?_,f);cases q;let(ob,_,_,i,j,_):=c;exact(ob,i,j.2.1)
 ·let(_,f,xs,_,c):=xu I.hok e;exact(c.typeIs,λb q=>?_,f);cases q;let(ob,_,_,i,j,_):=c;exact(ob,i,j.2.1)
section
variable {X:Cx} {pins:List (Addr×Obj)} {σ:St} {H:Hp} {s:aw} {a:Addr} {y d:V} {u r:ag} {o:Option V} {A:b0} {E:ag->aw->Prop}
def N2 (q:A.units+1<oq)(I:cz X pins σ H s)(g:gD H a y o)(j:eA y u)(h:∀p s',cz X pins σ H s'->eA (o.getD .non) p->Q p s'):
  a8 (bd X.prog X.w) A (call (.builtin "dict.get") [.ref a,u]) Q E s:=by
 rcases g with⟨kvs,k,e,f,l⟩|⟨kvs,k,b,e,f,r,l⟩
 ·subst f;let(z,i,v,c,d):=pb I.hok e;exact or i4 d.typeIs mD (AW _ _) (meets_dict_get (dF X.prog X.w) a (uB j) i) ⟨_,d.mapOf,h _ _ (I.tok _) ?_⟩;rw[l];exact(c.val k).getD rfl
 ·subst f;cases (show u=bI b from j);let(z,i,xs,c,d):=xu I.hok e;exact or i4 d.typeIs mD (AW _ _) (meetsH_dict_get (ur (dF X.prog X.w)) a b i) ⟨kI q,WJ k xs (uV I.hok r) d (h _ _ (I.tok _) ?_)⟩;rw[l];exact(c.val k).getD rfl
def N3 (x:A.units+1<oq)(I:cz X pins σ H s)(g:gD H a y o)(p:eA y u)(q:eA d r)(h:∀v s',cz X pins σ H s'->eA (o.getD d) v->Q v s'):
  a8 (bd X.prog X.w) A (call (.builtin "dict.get") [.ref a,u,r]) Q E s:=by
 rcases g with⟨kvs,k,e,i,l⟩|⟨kvs,k,b,e,i,B,l⟩
 ·subst i;let(z,j,C,c,f):=pb I.hok e;exact or i4 f.typeIs mD (AX _ _ _) (meets_dict_get_default (dF X.prog X.w) a (uB p) j r) ⟨_,f.mapOf,h _ _ (I.tok _) ?_⟩;rw[l];exact(c.val k).getD q
 ·subst i;cases (show u=bI b from p);let(z,j,xs,c,f):=xu I.hok e;exact or i4 f.typeIs mD (AX _ _ _) (meetsH_dict_get_default (ur (dF X.prog X.w)) a b j r) ⟨kI x,WJ k xs (uV I.hok B) f (h _ _ (I.tok _) ?_)⟩;rw[l];exact(c.val k).getD q
end
def N4 (td d:TE):TE:=λσ H Q=>td σ H λx b=>∃a,x=.ref a/\RM b a/\d σ b λy c=>∃o,gD c a y o/\Q (o.getD .non) c
def N5 (td d e:TE):TE:=λσ H Q=>td σ H λx b=>∃a,x=.ref a/\RM b a/\d σ b λy f=>e σ f λz c=>∃o,gD c a y o/\Q (o.getD z) c
def N6 (td d:TE):TE:=λσ H Q=>td σ H λx b=>∃a,x=.ref a/\RM b a/\d σ b λy c=>∃kvs k v,c a=aa (.dK kvs)/\y=kV k/\eE kvs k=aa v/\Q v (bD c a (.dK (lh kvs k)))
section
variable {X:Cx} {o e f:Expr} {apos cpos:Pos} {td ty tx:TE}
def nP (f:X.A.units+1<oq)(i:PE X o td)(j:PE X e ty)(m:M1 X o "get" apos e cpos):PE X (.Call (.Attribute o "get" apos) [e] [] cpos) (N4 td ty):=by
 intro pins s σ H Q I h;exact lz m.base m.few m.line lS i4 Ca (hJ (i pins s σ H _ I h) λu l x'=>V22 x' λx p c q x'=>V12 x' λa r d v=>?_);subst r;obtain rfl:u=bI a:=q;let(w,z,_):=EJ c d;exact(w,z,?_);rw[m.trees];exact mP rfl (k8 (ke (hJ (j pins l σ p _ c v) λiv L x'=>V22 x' λy B C D x'=>V11 x' λM g E=>mO ?_)));exact N2 f C g D λN O J b=>⟨_,B,J,b,E⟩
def CY (i:X.A.units+1<oq)(j:PE X o td)(l:PE X e ty)(p:PE X f tx)(m:M2 X o "get" apos e f cpos):PE X (.Call (.Attribute o "get" apos) [e,f] [] cpos) (N5 td ty tx):=by
 intro pins s σ H Q I h;exact lz m.base m.few m.line lS i4 Ca (hJ (j pins s σ H _ I h) λu q x'=>V22 x' λx r c v x'=>V12 x' λa w d B=>?_);subst w;obtain rfl:u=bI a:=v;let(C,D,_):=EJ c d;exact(C,D,?_);rw[m.trees];exact mP rfl (k8 (ke (hJ (l pins q σ r _ c B) λiv E x'=>V22 x' λy J L M N=>
  ke (hJ (p pins E σ J _ L N) λfv s3 x'=>V22 x' λz O T Y x'=>V11 x' λov g q3=>mO ?_))))
 exact N3 i T g M Y λw' s4 I4 b=>⟨_,O,I4,b,q3⟩
def vT (f:PE X o td)(i:PE X e ty)(m:M1 X o "pop" apos e cpos):PE X (.Call (.Attribute o "pop" apos) [e] [] cpos) (N6 td ty):=by
 intro pins s σ H Q I h;exact lz m.base m.few m.line lS B9 PySem.F.type_dict_pop (hJ (f pins s σ H _ I h) λu j x'=>V22 x' λx p c q x'=>V12 x' λa r d w=>?_);subst r;obtain rfl:u=bI a:=q;let(z,A,_):=EJ c d;exact(z,A,?_);rw[m.trees];exact mP rfl (k8 (ke (hJ (i pins j σ p _ c w) λiv M x'=>V22 x' λy N B C x'=>V33 x' λkvs k v D E l J=>mO ?_)));subst E;exact PU B D C l (.inl rfl) λO T L b=>⟨v,_,L,b,J⟩
end
section
variable {X:Cx} {pins:List (Addr×Obj)} {σ:St} {H:Hp} {s:aw} {a:Addr} {kvs:List (ef×V)} {A:b0} {E:ag->aw->Prop}
def IX (I:cz X pins σ H s)(e:Rd H a (.dK kvs))(h:∀p s',H p=ac->cz X pins σ (bD H p (.dK kvs)) s'->Q (.ref p) s'):a8 (bd X.prog X.w) A (call (.type "dict") [.ref a]) Q E s:=by
 let(z,i,r,c,j):=pb I.hok e;exact kt_call_dict i j (by rw[<-c.length];exact z) λu d l=>?_
 exact h _ _ (I.hok.fresh (aH _)) (I.laid (a:=s.heap.objs.size) (o:=.dK kvs) (t':=s.toks) (λb q f=>?_) (aH _) (wQ z (beq_eq_false_iff_ne.mpr (jl (bn I.big))) c d));exact(l.2 b (bn (aW f))).trans (aE _ f)
end
section
variable {X:Cx} {pins:List (Addr×Obj)} {σ:St} {H:Hp} {s:aw} {a:Addr} {y:V} {u:ag} {A:b0} {E:ag->aw->Prop}
end
section
variable {prog:aO} {w:World} {A:b0} {E:ag->aw->Prop}
end
section
variable {X:Cx}
end
section
variable {X:Cx} {pins:List (Addr×Obj)} {σ:St} {H:Hp} {s:aw} {h':Heap}
def cz.turnedL {ch:List Addr}(I:cz X pins σ H s)(k:∀b o,b∉ch->s.heap.get? b=aa o->h'.get? b=aa o)(a:∀b∈ch,ul X pins H b):cz X pins σ H {s with heap:=h',toks:=t'}:=by
 let d:∀b u,H b=aa u->b∉ch:=λb u e z=>by
  let q:=(a b z).1;rw[q] at e;cases e
 exact I.step (g':=s.gens) (d':=s.drawn) (ch:=ch) (λb f=>⟨(a b f).2.2.2.1,(a b f).2.1,(a b f).2.2.2.2.1,(a b f).2.2.2.2.2⟩) (λb o _ _ hc e _=>k b o hc e) (λb o _ _ hc e _=>⟨o.slots,k b o hc e⟩)
  (λ_ _ _ _ n=>n) (λb o hc e=>⟨o,k b o hc e⟩) (λ_ _ e=>e) (λ_ _ _ e=>e) (λb w e=>⟨#[],by rw[e];simp⟩) (λm i=>?_) (λb u e=>?_) I.bare
 ·let(o,j,l,p,r):=i;exact WC o j l ⟨k _ o (λz=>(a _ z).2.1 rfl) p,r⟩
 ·exact(I.hok b u e).stay (λc v hc q=>k c v ?_ q) (λ_ q=>q) λ_ _ q=>q
  rcases hc with z|z
  ·rw[z];exact d b u e
  ·exact d c _ z
def cz.turnedNew {ch:List Addr}{T:Addr}{ob:HO}(I:cz X pins σ H s)(k:∀b o,b∉ch->s.heap.get? b=aa o->h'.get? b=aa o)(d:∀b∈ch,ul X pins H b)(hT:s.heap.objs.size<=T)(i:iJ X.prog X.w (bD H T ob) h' T ob):cz X pins σ (bD H T ob) {s with heap:=h',toks:=t'}:=by
 let hn:H T=ac:=I.hok.fresh hT;let f:∀b u,H b=aa u->b∉ch:=λb u e z=>by
  let q:=(d b z).1;rw[q] at e;cases e
 exact I.step (g':=s.gens) (d':=s.drawn) (ch:=ch) (λb a=>⟨(d b a).2.2.2.1,(d b a).2.1,(d b a).2.2.2.2.1,(d b a).2.2.2.2.2⟩) (λb o _ _ hc e _=>k b o hc e) (λb o _ _ hc e _=>⟨o.slots,k b o hc e⟩)
  (λb o _ e n=>?_) (λb o hc e=>⟨o,k b o hc e⟩) (λb xs e=>?_) (λb o u e=>?_) (λb y e=>⟨#[],?_⟩) (λm j=>?_) (λb u e=>?_) I.bare
 ·rw[aF (bn (bQ (aW e) hT))];exact n
 ·rw[aF (aL e hn)];exact e
 ·rw[aF (aL e hn)];exact e
 ·rw[aF (aL e hn),e];simp
 ·let(o,l,p,x,r):=j;exact WC o l p ⟨k _ o (λz=>(d _ z).2.1 rfl) x,r⟩
 ·by_cases a:b=T
  ·subst a;rw[ak] at e;cases e;exact i
  ·rw[aF a] at e;exact(I.hok b u e).stay (λc v hc q=>k c v ?_ q) (λc q=>by rw[aF (aL q hn)];exact q) λc xs q=>by rw[aF (aL q hn)];exact q
   rcases hc with z|z
   ·rw[z];exact f b u e
   ·exact f c _ z
def cz.lock {d:Addr}{u:HO}(I:cz X pins σ H s)(h:H d=aa u)(c:KS (aa u)):∃a,cz X pins σ (bD H d (.frz a u)) s:=by
 let x:=I.hok d u h;let i:∃a,s.heap.get? d=aa a:=by
  cases u with
  |lst xs=>let(_,_,_,_,e):=x;exact(_,e)
  |dK kvs=>let(_,_,_,_,o,_,_,e,_):=x;exact(o,e)
  |dT kvs=>let(_,_,_,_,o,_,_,e,_):=x;exact(o,e)
  |set S n=>let(o,_,_,_,e,_):=x;exact(o,e)
  |ins C j l=>let(_,_,_,e,_):=x;exact(_,e)
  |ext φ=>let(_,(_,e),_):=x;exact(_,e)
  |_=>exact dE c
 let(a,e):=i;let f:iJ X.prog X.w (bD H d (.frz a u)) s.heap d (.frz a u):=by
  exact(e,x.stay (λb v _ q=>q) (λb q=>?_) λb xs q=>?_)
  ·rw[aF (λz=>by rw[z,h] at q;cases q;exact c)];exact q
  ·rw[aF (λz=>by rw[z,h] at q;cases q;exact c)];exact q
 exact(a,I.write (x:=d) (e:=d) (t':=s.toks) (h':=s.heap) (by rw[h];exact c) (.inl rfl) (λb v _ q=>q) ⟨a,e⟩ f)
def cz.nofrz {d:Addr}{u:HO}(I:cz X pins σ H s)(h:H d=aa u)(b:KS (aa u)):∀o' a,X.H_0 d≠aa (.frz o' a):=λo' a e=>by
 let q:=I.base.frzs d o' a e;rw[h] at q;cases q;exact b
def cz.unlock {d:Addr}{w:Obj}{u:HO}(I:cz X pins σ H s)(h:H d=aa (.frz w u))(hn:∀o' f,X.H_0 d≠aa (.frz o' f)):cz X pins σ (bD H d u) s:=by
 let a:∀b o,H b=aa o->(∀o' f,o≠.frz o' f)->b≠d:=λb o e i z=>by
  rw[z,h] at e;cases e;exact i _ _ rfl
 let neN:∀b,H b=ac->b≠d:=λb e z=>by rw[z,h] at e;cases e
 exact(I.ok,I.os,I.bare,⟨I.base.keep,I.base.slot,λb o e n l=>?_,I.base.there,λb xs e=>?_,λb o x e=>?_,λb y e=>?_⟩,I.loc,I.cell,?_,λx c e=>?_,λp A=>?_,λb o e=>?_,I.len)
 ·rw[aF (neN b (I.base.free b o e n l))];exact I.base.free b o e n l
 ·let q:=I.base.tups b xs e;rw[aF (a b _ q (λ_ _ z=>nomatch z))];exact q
 ·let q:=I.base.frzs b o x e;rw[aF (λz=>by rw[z] at e;exact hn _ _ e)];exact q
 ·let(m,q):=I.base.tbls b y e;exact(m,by rw[aF (a b _ q (λ_ _ z=>nomatch z))];exact q)
 ·rw[aF (neN _ I.free)];exact I.free
 ·rw[aF (neN c (I.freeC x c e))];exact I.freeC x c e
 ·let(e,n,r):=I.pin p A;exact(e,by rw[aF (neN _ n)];exact n,r)
 ·by_cases j:b=d
  ·rw[j,ak] at e;cases e;rw[j];let(_,x):=I.hok d _ h;exact x.stay (λc v _ q=>q) (λc q=>by rw[aF (a c _ q (λ_ _ z=>nomatch z))];exact q) λc xs q=>by rw[aF (a c _ q (λ_ _ z=>nomatch z))];exact q
  ·rw[aF j] at e;exact(I.hok b o e).stay (λc v _ q=>q) (λc q=>by rw[aF (a c _ q (λ_ _ z=>nomatch z))];exact q) λc xs q=>by rw[aF (a c _ q (λ_ _ z=>nomatch z))];exact q
end
def PZ (t:TS):TS:=λD σ H=>∃d u,H d=aa u/\KS (aa u)/\∀b,t ⟨λc a=>a d=aa (.frz b u)/\D.nx c (bD a d u),λv a=>a d=aa (.frz b u)/\D.rt v (bD a d u),λc a=>a d=aa (.frz b u)/\D.bk c (bD a d u),λc a=>a d=aa (.frz b u)/\D.ct c (bD a d u)⟩ σ (bD H d (.frz b u))
def N7 (t:TE):TE:=λσ H Q=>∃d u,H d=aa u/\KS (aa u)/\∀a,t σ (bD H d (.frz a u)) λv b=>b d=aa (.frz a u)/\Q v (bD b d u)
section
variable {X:Cx}
def Bx {st:Stmt}{t:TS}(h:PS X st t):PS X st (PZ t):=by
 intro pins s σ H D I hw;let(d,u,c,i,hw):=hw;let(l,o):=I.lock c i;exact hJ (h pins s σ _ _ o (hw l)) λf p q=>?_
 cases f with
 |next=>let(a,j,b,e,q):=q;exact(a,_,b.unlock e (I.nofrz c i),q)
 |brk=>let(a,j,b,e,q):=q;exact(a,_,b.unlock e (I.nofrz c i),q)
 |cont=>let(a,j,b,e,q):=q;exact(a,_,b.unlock e (I.nofrz c i),q)
 |ret v=>let(x,a,j,b,r,e,q):=q;exact WS x a _ (b.unlock e (I.nofrz c i)) r q
def FN {e:Expr}{t:TE}(h:PE X e t):PE X e (N7 t):=by
 intro pins s σ H Q I hw;let(d,u,a,b,hw):=hw;let(c,f):=I.lock a b;exact hJ (h pins s σ _ _ f (hw c)) λv l x'=>V23 x' λx o i r j q=>?_
 exact(x,_,i.unlock j (I.nofrz a b),r,q)
def IY {R:It->Hp->Prop}{J:It}{a:Nat->Heap->Prop}{tk:Nat}(I:cz X pins σ H s)(o:Obj)(T:CB X.prog X.w X.K tg J [s.heap.objs.size] s.heap.objs.size a)(st:a 0 (s.heap.push o))(q:R J H):Pz X pins σ tg R (.ref s.heap.objs.size) {s with heap:=s.heap.push o,toks:=tk}:=by
 exact WH s.heap.objs.size [s.heap.objs.size] a J H rfl (I.kept λb d e=>aE _ e) T st (λb c=>?_) q;let e:b=s.heap.objs.size:=by simpa using c
 subst e;exact I.fpOk (aH _) (I.hok.fresh (aH _))
end
section
variable {X:Cx} {tg:Expr}
end
section
variable {X:Cx} {tg:Expr}
end
section
variable {prog:aO} {w:World} {A:b0} {E:ag->aw->Prop} {s:aw}
end
def IZ {κ:Type}{kvs:List (κ×V)}{vs:List (κ×ag)}(h:KV kvs vs):∀{i:Nat} {k:κ} {v:V},kvs[i]?=aa (k,v)->∃u,vs[i]?=aa (k,u)/\eA v u:=by
 unfold KV at h
 induction h with
 |nil=>intro i k v e;simp at e
 | @cons a b d f r t c=>
   intro i k v e
   cases i with
   |zero=>
    simp only[jR,bJ.injEq] at e;subst e;exact(b.2,?_,r.2);simp only[jR];exact congrArg aa (Prod.ext r.1.symm rfl)
   |succ j=>
    simp only[mB] at e⊢;exact c e
def EK {β:Type}{G:α->β->Prop}{l₁:List α}{l₂:List β}(h:a9 G l₁ l₂):∀{i:Nat} {a:α},l₁[i]?=aa a->∃b,l₂[i]?=aa b/\G a b:=by
 induction h with
 |nil=>intro i a e;simp at e
 | @cons a b l₁ l₂ r t c=>
   intro i d e
   cases i with
   |zero=>
    simp only[jR,bJ.injEq] at e;subst e;exact(b,rfl,r)
   |succ j=>
    simp only[mB] at e⊢;exact c e
def CZ {k:ef}(h:xl k u=ae):eA (kV k) u:=by
 rcases iP h with⟨i,t,rfl,rfl⟩|⟨x,t,rfl,rfl⟩
 ·exact(t,rfl)
 ·exact(t,rfl)
section
variable {X:Cx} {pins:List (Addr×Obj)} {σ:St} {H:Hp} {s:aw} {d:Addr} {o:Obj}
def cz.frzK (I:cz X pins σ H s)(h:H d=aa (.frz o (.dK kvs))):
  (d==iG)=af/\s.heap.get? d=aa o/\o.ExactDict/\∃(es:Array ji) (ep:Nat) (vs:List (ef×ag)),o.data=.dict es ep/\es.size=kvs.length/\KV kvs vs/\s.heap.DictAt (dF X.prog X.w) d vs ep:=by
 let(b,z,i,vs,c,l,es,ep,e,f,a,r):=I.hok d _ h;rw[b] at e;cases e;exact(i,b,f,WT es ep vs a ?_ c (WN o es b f a r));let j:=r.2.1.length;let p:kvs.length=vs.length:=cB c;rw[aC] at j;omega
end
def MO (d:Addr)(o:Obj)(kvs:List (ef×V)):It:=
 ⟨λi H=>H d=aa (.frz o (.dK kvs))/\i<kvs.length,λi H x a=>a=H/\∃k,kvs[i]?=aa (k,x),λi H=>H d=aa (.frz o (.dK kvs))/\kvs.length<=i⟩
def MP (d:Addr)(o:Obj)(kvs:List (ef×V)):It:=
 ⟨λi H=>H d=aa (.frz o (.dK kvs))/\i<kvs.length,λi H x a=>∃T k v,kvs[i]?=aa (k,v)/\x=.ref T/\H T=ac/\a=bD H T (.tup [kV k,v]),λi H=>H d=aa (.frz o (.dK kvs))/\kvs.length<=i⟩
def yl {o:Obj}{es a:Array ji}{ep b:Nat}(h:o.data=.dict es ep)(h':o.data=.dict a b):a=es/\b=ep:=by
 rw[h] at h';cases h';exact(rfl,rfl)
section
variable {P:aO} {w:World} {K:am} {tg:Expr} {d:Addr} {o:Obj} {es:Array ji} {ep:Nat}
def G3 (a:Addr)(l:o.data=.dict es ep):CB P w K tg (MO d o kvs) [a] a (λi h=>h.IsValIter a d i kvs.length ep) where
 mem:=by simp
 obj:=λi h st b f=>by
  let e:b=a:=by simpa using f
  subst e;let(y,e,c,J):=st;exact(y,e,λv z=>by rw[J] at z;cases z)
 keep:=λi h q st k=>st.at λy e=>k a (by simp) y e
 item:=by
  intro X L hw M hc i pins s σ H E I B st N;subst L hw M;let(O,hi):=N;let(T,Y,f2,f3,f4,f5):=B a (by simp);let(hs,a3,hx,a4,a5,vs,j,al,C,hm):=I.frzK O;let(rfl,rfl):=yl l j;obtain⟨⟨k,v⟩,r⟩:∃p,kvs[i]?=aa p:=⟨kvs[i],br hi⟩;let(u,hu,ru):=IZ C r;let D:kvs.length=vs.length:=cB C;rw[D] at st;exact wpAny_pyNext_values_item st hm hu λq x sb=>?_
  let I1:cz X pins σ H {s with heap:=q}:=I.turned (t':=s.toks) (λb ob f e=>(sb.2 b f).trans e) T Y f3 f4 f5
  let(y,e,c,J):=id x;exact WL u rfl (IB (s:={s with heap:=q}) e c J (by decide) (WN v H I1 ru ⟨rfl,k,r⟩ ⟨?_,λb f=>(B b f).1⟩))
  show q.IsValIter a d (i+1) kvs.length _;rw[D];exact x
 done:=by
  intro X L hw M hc i pins s σ H E I B st N;subst L hw M;let(O,hi):=N;let(T,Y,f2,f3,f4,f5):=B a (by simp);let(hs,a3,hx,a4,a5,vs,j,al,C,hm):=I.frzK O;let(rfl,rfl):=yl l j;let D:kvs.length=vs.length:=cB C;rw[D] at st;exact wpAny_pyNext_values_end (I.ok.hd hc) st hm (ii ⋯) λq eb=>⟨rfl,I.turned (t':=s.toks) (λb ob f e=>eb b ob f e) T Y f3 f4 f5⟩
 self:=λA i s Q E st h=>wpAny_pyIter_valiter st h
def EL (a:Addr)(y:o.data=.dict es ep):
  CB P w K (.Tuple elts kk tpos) (MP d o kvs) [a] a (λi h=>∃q r,IsItemIter h a d i kvs.length ep q r) where
 mem:=by simp
 obj:=λi h st b f=>by
  let e:b=a:=by simpa using f
  subst e;let(q,r,e):=st;exact(_,e,λv z=>nomatch z)
 keep:=λi h N st k=>let ⟨q,r,e⟩:=st;⟨q,r,k a (by simp) _ e⟩
 item:=by
  intro X O hw T hc i pins s σ H E I J st Y;subst O hw T;let(hd,hi):=Y;let(hs,a1,hx,a2,a3,vs,j,a5,L,hm):=I.frzK hd;let(rfl,rfl):=yl y j;obtain⟨⟨k,v⟩,B⟩:∃p,kvs[i]?=aa p:=⟨kvs[i],br hi⟩;let(u,hu,ru):=IZ L B;let M:kvs.length=vs.length:=cB L;let(q,r,x):=st;rw[M] at x;let C:a<s.heap.objs.size:=aW x;exact wpAny_pyNext_items_item x hm hu λc N D ho hT hz hk=>?_
  exact WL _ rfl (wpAny_letOwnedTupleGo_items (s:={s with heap:=N}) ho λl al sb=>?_)
  let an:l.get? s.heap.objs.size=aa {cls:=.type "tuple",data:=.seq #[c,u]}:=(sb.2 _ (iZ C)).trans hT;let ap:iJ X.prog X.w (bD H s.heap.objs.size (.tup [kV k,v])) l s.heap.objs.size (.tup [kV k,v]):=
   ⟨by show 2<=aI;decide,[c,u],.cons (CZ (show xl k c=ae from D)) (.cons ru .nil),⟨_,an,rfl,_,rfl⟩⟩
  let I1:cz X pins σ (bD H s.heap.objs.size (.tup [kV k,v])) {s with heap:=l}:=
   I.turnedNew (t':=s.toks) (ch:=[a]) (λb ob f e=>(sb.2 b (by simpa using f)).trans (hk b ob (by simpa using f) e)) J (aH _) ap
  exact WN (.ref s.heap.objs.size) _ I1 rfl (WT _ k v B rfl (I.hok.fresh (aH _)) rfl) ⟨⟨c,u,?_⟩,λb f=>?_⟩
  ·rw[M];exact al
  ·let e:b=a:=by simpa using f
   rw[e,aF (bn C)];exact(J a (by simp)).1
 done:=by
  intro X O hw T hc i pins s σ H E I J st Y;subst O hw T;let(hd,hi):=Y;let(f0,f1,f2,f3,f4,f5):=J a (by simp);let(hs,a1,hx,a2,a3,vs,j,a5,L,hm):=I.frzK hd;let(rfl,rfl):=yl y j;let M:kvs.length=vs.length:=cB L;let(q,r,x):=st;rw[M] at x;exact wpAny_pyNext_items_end (I.ok.hd hc) x hm (ii ⋯) λN eb=>⟨rfl,I.turned (t':=s.toks) (λb ob f e=>eb b ob f e) f0 f1 f3 f4 f5⟩
 self:=λA i s Q E st h=>let ⟨_,_,e⟩:=st;PySem.W.kcp_self e h
end
def P0 (td:TE):TI:=λσ H R=>td σ H λx a=>∃d o kvs,x=.ref d/\a d=aa (.frz o (.dK kvs))/\R (MO d o kvs) a
def N8 (td:TE):TI:=λσ H R=>td σ H λx a=>∃d o kvs,x=.ref d/\a d=aa (.frz o (.dK kvs))/\R (MP d o kvs) a
section
variable {X:Cx} {tg e:Expr} {td:TE} {apos cpos:Pos}
def ua (v:PE X e td)(c:fY e "values" X.env (eval e X.env)=eval e X.env:=by rfl)(f:(apos.endLine==cpos.line)=ae:=by rfl):PI X tg (.Call (.Attribute e "values" apos) [] [] cpos) (P0 td):=by
 intro pins s σ H R I h;exact lz (T:= "dict") (id:= "dict.values") c rfl f zw qO F.type_dict_values (hJ (v pins s σ H _ I h) λu a x'=>V22 x' λx y p z x'=>V32 x' λd o kvs B C q=>?_);subst B;obtain rfl:u=bI d:=z;let(D,E,O,Q,Y,r,j,J,L,i):=p.frzK C;let M:kvs.length=r.length:=cB L;exact(i.dictOf.typeIs,i.dictOf.mapOf.noDict,?_);let N:cz X pins σ y {a with heap:=a.heap.push {cls:=.type "dict_values",data:=.fields #[.ref d]}}:=p.kept (t':=a.toks) λb ob q=>aE _ q
 let l:a8 (bd X.prog X.w) X.A (BX (.ref a.heap.objs.size)) (Pz X pins σ tg R) X.xe {a with heap:=a.heap.push {cls:=.type "dict_values",data:=.fields #[.ref d]}}:=by
  exact wpAny_pyIter_values (d:=d) (knd:=dF X.prog X.w) ⟨_,aY _ rfl,rfl,rfl⟩ (i.push _) (IY (tk:=a.toks) N _ (G3 _ j) (WU _ (aY _ rfl) rfl ?_) q);rw[M]<;>rfl
 show a8 _ _ (Ml cpos (.builtin "dict.values") [.ref d] [] []) _ X.xe a;exact Fh qO KH rfl (ve ⟨rfl,i.dictOf.typeIs,Kv _,_,meets_dict_values (dF X.prog X.w) d D,⟨r,i.dictOf⟩,l⟩)
def C0 (v:PE X e td)(c:fY e "items" X.env (eval e X.env)=eval e X.env:=by rfl)(f:(apos.endLine==cpos.line)=ae:=by rfl):
  PI X (.Tuple elts kk tpos) (.Call (.Attribute e "items" apos) [] [] cpos) (N8 td):=by
 intro pins s σ H R I h;exact lz (T:= "dict") (id:= "dict.items") c rfl f zw F.slot_dict_items F.type_dict_items (hJ (v pins s σ H _ I h) λu a x'=>V22 x' λx y p z x'=>V32 x' λd o kvs B C q=>?_);subst B;obtain rfl:u=bI d:=z;let(D,E,O,Q,Y,r,j,J,L,i):=p.frzK C;let M:kvs.length=r.length:=cB L;exact(i.dictOf.typeIs,i.dictOf.mapOf.noDict,?_);let N:cz X pins σ y {a with heap:=a.heap.push {cls:=.type "dict_items",data:=.fields #[.ref d]}}:=p.kept (t':=a.toks) λb ob q=>aE _ q
 let l:a8 (bd X.prog X.w) X.A (BX (.ref a.heap.objs.size)) (Pz X pins σ (.Tuple elts kk tpos) R) X.xe {a with heap:=a.heap.push {cls:=.type "dict_items",data:=.fields #[.ref d]}}:=by
  exact wpAny_pyIter_items (d:=d) (knd:=dF X.prog X.w) ⟨_,aY _ rfl,rfl,rfl⟩ (i.push _) (IY (tk:=a.toks) N _ (EL _ j) (WB .none .none ?_) q);rw[M];exact aY _ rfl
 show a8 _ _ (Ml cpos (.builtin "dict.items") [.ref d] [] []) _ X.xe a;exact Fh F.slot_dict_items F.entry_dict_items rfl (ve ⟨rfl,i.dictOf.typeIs,F.args_dict_items_1 _,_,meets_dict_items (dF X.prog X.w) d D,⟨r,i.dictOf⟩,l⟩)
end
def MQ (K:am)(a:Addr):It:=
 ⟨λi H=>∃(xs:List V) (x:V),dL K H a xs/\xs[i]?=aa x,λi H v b=>∃T x,v=.ref T/\H T=ac/\b=bD H T (.tup [.int (i:Nat),x])/\∀xs,dL K H a xs->xs[i]?=aa x,λi H=>∃xs:List V,dL K H a xs/\xs.length<=i⟩
def G4 {K:am}(a e f:Addr):
  CB P w K (.Tuple elts kk tpos) (MQ K a) [e,f] e (λi h=>(∃c,IsEnum h e f ((i:Nat):Int) c)/\h.IsListIter f a i/\e≠f) where
 mem:=by simp
 obj:=λi h st b j=>by
  let((c,l),(o,L,hc,hd),_):=st;let M:b=e\/b=f:=by simpa using j
  rcases M with z|z
  ·rw[z];exact(_,l,λv q=>nomatch q)
  ·rw[z];exact(o,L,λv q=>by rw[hd] at q;cases q)
 keep:=λi h N st k=>let ⟨⟨c,l⟩,hi,d⟩:=st;⟨⟨c,k e (by simp) _ l⟩,hi.at λo q=>k f (by simp) o q,d⟩
 item:=by
  intro X O hw T hc i pins s σ H E I D st Y;subst O hw T;let((c,l),r,d):=st;let(xs,x,J,hx):=Y;let(its,rv,p,hz):=I.list J;let(u,hu,ru):=rv.get hx;let B:e<s.heap.objs.size:=aW l;let a2:f<s.heap.objs.size:=by let(_,q,_):=r;exact aW q
  exact wpAny_pyNext_enum_item l r p.isList (x:=u) (by simpa using hu) d λN L C hT ax hk=>?_
  exact WL _ rfl (wpAny_letOwnedTupleGo_enum (s:={s with heap:=N,toks:=s.toks+1}) L λy a3 sb=>?_)
  let a5:y.get? s.heap.objs.size=aa {cls:=.type "tuple",data:=.seq #[.int i s.toks,u]}:=(sb.2 _ (iZ B)).trans hT;let ab:iJ X.prog X.w (bD H s.heap.objs.size (.tup [.int (i:Nat),x])) y s.heap.objs.size (.tup [.int (i:Nat),x]):=
   ⟨by show 2<=aI;decide,[.int i s.toks,u],.cons ⟨_,rfl⟩ (.cons ru .nil),⟨_,a5,rfl,_,rfl⟩⟩
  let I1:cz X pins σ (bD H s.heap.objs.size (.tup [.int (i:Nat),x])) {s with heap:=y,toks:=s.toks+1}:=
   I.turnedNew (ch:=[e,f]) (λb ob j q=>(sb.2 b (λz=>j (by simp[z]))).trans (hk b ob (λz=>j (by simp[z])) (λz=>j (by simp[z])) q)) D (aH _) ab
  exact WN (.ref s.heap.objs.size) _ I1 rfl (WN _ x rfl (I.hok.fresh (aH _)) rfl λys hy=>by rw[I.list_inj hy J];exact hx) ⟨⟨⟨u,?_⟩,C.at λo q=>(sb.2 f (jl d)).trans q,d⟩,λb j=>?_⟩
  ·let e1:((i+1:Nat):Int)=(i:Int)+1:=⋯
   rw[e1];exact a3
  ·let al:b<s.heap.objs.size:=by
    let M:b=e\/b=f:=by simpa using j
    rcases M with z|z
    ·rw[z];exact B
    ·rw[z];exact a2
   rw[aF (bn al)];exact(D b j).1
 done:=by
  intro X O hw T hc i pins s σ H E I D st Y;subst O hw T;let((c,l),r,d):=st;let(xs,J,hx):=Y;let(its,rv,p,hz):=I.list J;let(f0,f1,f2,f3,f4,f5):=D f (by simp);let hl:=rv.length;exact wpAny_pyNext_enum_end (I.ok.hd hc) l r p.isList (by simp;omega) λN eb=>⟨rfl,I.turned (t':=s.toks) (λb o j q=>eb b o j q) f0 f1 f3 f4 f5⟩
 self:=λA i s Q E st h=>let ⟨⟨_,l⟩,_⟩:=st;wpAny_pyIter_enum l h
def P1 (K:am)(c:TA):TI:=λσ H R=>c σ H λd b=>∃a xs,d=[.ref a]/\dL K b a xs/\R (MQ K a) b
def FO {e:Expr}{j:TA}{p:Pos}(u:Gl X "enumerate")(v:X.mg "enumerate"=ac)(w:PA X [e] j)(x:bp [e] X.env=[(af,eval e X.env)]:=by rfl):
  PI X (.Tuple elts kk tpos) (.Call (.Name "enumerate" p) [e] [] pos) (P1 X.K j):=by
 intro pins s σ H R I h;exact Call_ (uR I u v boot_enumerate (iC (hJ (w pos pins s σ H _ I h) λT c x'=>V22 x' λY l f y A=>?_) x rfl));let(a,xs,B,C,q):=A;subst B
 cases y with
 |cons r D=>
  cases D;cases r;let(its,rv,E,hz):=f.list C;exact call_enumerate_list E.isList λJ o i L M=>wpAny_pyIter_enum o ?_
  let N:cz X pins σ l {c with heap:=J}:=f.kept (t':=c.toks) M
  exact WH (c.heap.objs.size+1) [c.heap.objs.size+1,c.heap.objs.size] _ _ l rfl N (G4 a (c.heap.objs.size+1) c.heap.objs.size) ⟨⟨.none,o⟩,i,Nat.succ_ne_self _⟩ (λb O=>?_) q;let Q:b=c.heap.objs.size+1\/b=c.heap.objs.size:=by simpa using O
  let d:c.heap.objs.size<=b:=by
   rcases Q with z|z
   ·rw[z];exact cT _ _
   ·rw[z];exact aH _
  exact f.fpOk d (f.hok.fresh d)
def G5:qK "zip"=aa (.type "zip"):=by decide +kernel
def P2 (K:am)(a b:Addr):It:=
 ⟨λi H=>∃(xs c:List V) (x y:V),dL K H a xs/\dL K H b c/\xs[i]?=aa x/\c[i]?=aa y,
  λi H v d=>∃T x y,v=.ref T/\H T=ac/\d=bD H T (.tup [x,y])/\(∀xs,dL K H a xs->xs[i]?=aa x)/\∀c,dL K H b c->c[i]?=aa y,
  λi H=>∃xs c:List V,dL K H a xs/\dL K H b c/\(xs.length<=i\/c.length<=i)⟩
def Ja {K:am}{b z TI TO r B:Addr}(D:ZipApart z TI TO r B a b):
  CB P w K (.Tuple elts kk tpos) (P2 K a b) [z,TI,TO,r,B] z (λi h=>IsZip h z TI TO .none/\IsPair h TI (.ref r) (.ref B)/\(∃x y,IsPair h TO x y)/\h.IsListIter r a i/\h.IsListIter B b i) where
 mem:=by simp
 obj:=λi h st c hc=>by
  let(L,d,(x,y,e),(o1,e1,_,d1),(o2,e2,_,d2)):=st;let e':c=z\/c=TI\/c=TO\/c=r\/c=B:=by simpa using hc
  rcases e' with q|q|q|q|q
  ·rw[q];exact(_,L,λv q=>nomatch q)
  ·rw[q];exact(_,d,λv q=>nomatch q)
  ·rw[q];exact(_,e,λv q=>nomatch q)
  ·rw[q];exact(o1,e1,λv q=>by rw[d1] at q;cases q)
  ·rw[q];exact(o2,e2,λv q=>by rw[d2] at q;cases q)
 keep:=λi h h' st k=>by
  let(L,d,(x,y,e),T,Y):=st;exact(k z (by simp) _ L,k TI (by simp) _ d,⟨x,y,k TO (by simp) _ e⟩,T.at λo q=>k r (by simp) o q,Y.at λo q=>k B (by simp) o q)
 item:=by
  intro X hP hw hK hc i pins s σ H E I hf st hg;subst hP hw hK;let(L,d,(x0,y0,e),T,Y):=st;let(xs,ys,x,y,C,J,hx,hy):=hg;let(its,rv,p,_):=I.list C;let(M,N,p2,_):=I.list J;let(u,hu,ru):=rv.get hx;let(u2,b1,b2):=N.get hy;let a1:z<s.heap.objs.size:=aW L;exact wpAny_pyNext_zip_item D L d e T Y p.isList p2.isList (x:=u) (y:=u2) (by simpa using hu) (by simpa using b1) λh' z' b3 b5 b6 hT cb hk=>?_
  exact WL _ rfl (wpAny_letOwnedTupleGo_zip (s:={s with heap:=h'}) z' λO b7 sb=>?_)
  let b8:O.get? s.heap.objs.size=aa {cls:=.type "tuple",data:=.seq #[u,u2]}:=(sb.2 _ (iZ a1)).trans hT;let bb:iJ X.prog X.w (bD H s.heap.objs.size (.tup [x,y])) O s.heap.objs.size (.tup [x,y]):=
   ⟨by show 2<=aI;decide,[u,u2],.cons ru (.cons b2 .nil),⟨_,b8,rfl,_,rfl⟩⟩
  let I1:cz X pins σ (bD H s.heap.objs.size (.tup [x,y])) {s with heap:=O}:=
   I.turnedNew (t':=s.toks) (ch:=[z,TI,TO,r,B]) (λc o j q=>(sb.2 c (λf=>j (by simp[f]))).trans (hk c o (λf=>j (by simp[f])) (λf=>j (by simp[f])) (λf=>j (by simp[f])) (λf=>j (by simp[f])) q)) hf (aH _) bb
  exact WN (.ref s.heap.objs.size) _ I1 rfl (WQ _ x y rfl (I.hok.fresh (aH _)) rfl (λl hl=>by rw[I.list_inj hl C];exact hx) λl hl=>by rw[I.list_inj hl J];exact hy) ⟨⟨b7,?_,⟨u,u2,?_⟩,?_,?_⟩,λc a2=>?_⟩
  ·exact(sb.2 _ D.TIz).trans (hk _ _ D.TIz D.TITO D.TIi1 D.TIi2 d)
  ·exact(sb.2 _ D.TOz).trans b3
  ·exact b5.at λo q=>(sb.2 _ D.i1z).trans q
  ·exact b6.at λo q=>(sb.2 _ D.i2z).trans q
  ·let bl:c<s.heap.objs.size:=by
    let e':c=z\/c=TI\/c=TO\/c=r\/c=B:=by simpa using a2
    rcases e' with q|q|q|q|q
    ·rw[q];exact a1
    ·rw[q];exact aW d
    ·rw[q];exact aW e
    ·rw[q];let(_,e1,_):=T;exact aW e1
    ·rw[q];let(_,e2,_):=Y;exact aW e2
   rw[aF (bn bl)];exact(hf c a2).1
 done:=by
  intro X hP hw hK hc i pins s σ H E I hf st hg;subst hP hw hK;let(L,d,(x0,y0,e),T,Y):=st;let(xs,ys,C,J,a3):=hg;let(its,rv,p,_):=I.list C;let(M,N,p2,_):=I.list J;let l1:=rv.length;let l2:=N.length;let he:its.toArray[i]?=ac\/M.toArray[i]?=ac:=by
   rcases a3 with q|q
   ·exact .inl (by simp;omega)
   ·exact .inr (by simp;omega)
  exact wpAny_pyNext_zip_end (I.ok.hd hc) D L d e T Y p.isList p2.isList he λh' hk=>⟨rfl,I.turnedL (t':=s.toks) (ch:=[z,TI,TO,r,B]) (λc o j q=>
   hk c o (λf=>j (by simp[f])) (λf=>j (by simp[f])) (λf=>j (by simp[f])) (λf=>j (by simp[f])) q) hf⟩
 self:=λA i s Q E st h=>wpAny_pyIter_zip st.1 h
def Sa (K:am)(d:TA):TI:=λσ H R=>d σ H λe c=>∃a b xs f,e=[.ref a,.ref b]/\dL K c a xs/\dL K c b f/\R (P2 K a b) c
def N9 {e f:Expr}{A:TA}{p:Pos}(L:Gl X "zip")(M:X.mg "zip"=ac)(N:PA X [e,f] A)(O:bp [e,f] X.env=(af,eval e X.env)::bp [f] X.env:=by rfl)(l:(iO pos (bp [f] X.env)).any (·.1)=af:=by rfl):
  PI X (.Tuple elts kk tpos) (.Call (.Name "zip" p) [e,f] [] pos) (Sa X.K A):=by
 intro pins s σ H R I h;exact Call_ (uR I L M G5 (iC (hJ (N pos pins s σ H _ I h) λus d x'=>V22 x' λvs B i Q T=>?_) O l));let(a,b,xs,ys,Y,o,u,q):=T;subst Y
 cases Q with
 |cons r v=>
  cases v with
  |cons r' v=>
   cases v;cases r;cases r';let(its,rv,C,_):=i.list o;let(D,a1,E,_):=i.list u;let la:a<d.heap.objs.size:=C.lt;let lb:b<d.heap.objs.size:=E.lt;exact call_zip_2 C.isList E.isList λh' J w x h1 h2 al hk=>wpAny_pyIter_zip J ?_
   let I2:cz X pins σ B {d with heap:=h'}:=i.kept (t':=d.toks) hk
   exact WH (d.heap.objs.size+4) [d.heap.objs.size+4,d.heap.objs.size+2,d.heap.objs.size+3,d.heap.objs.size,d.heap.objs.size+1] _ _ B rfl I2 (Ja (PySem.W.ktu_apart d.heap.objs.size a b la lb)) ⟨J,w,⟨_,_,x⟩,h1,h2⟩ (λc y=>?_) q;let e':c=d.heap.objs.size+4\/c=d.heap.objs.size+2\/c=d.heap.objs.size+3\/c=d.heap.objs.size\/c=d.heap.objs.size+1:=by simpa using y
   let j:d.heap.objs.size<=c:=by
    rcases e' with z|z|z|z|z
    ·rw[z];exact cT _ _
    ·rw[z];exact cT _ _
    ·rw[z];exact cT _ _
    ·rw[z];exact aH _
    ·rw[z];exact cT _ _
   exact i.fpOk j (i.hok.fresh j)
end L2
section
namespace Bits
open PySem PyProof.Rows
end Bits
end
section
namespace TL
open PySem PySem.Builtin PySem.Builtin.Str PySem.StrLaws
end TL
end
namespace L2
open PySem PySem.Spec PyProof.Rows
section
variable {X:Cx} {pins:List (Addr×Obj)} {σ:St} {H:Hp} {s:aw} {Q:VK}
end
section
variable {X:Cx}
end
section
variable {X:Cx} {o e:Expr} {to te:TE}
end
section
variable {X:Cx}
end
end L2
namespace Att
open PySem PySem.W PySem.Calls PyProof.Rows
section
variable {prog:aO} {w:World} {A:b0} {E:ag->aw->Prop} {s:aw} {K:Frag}
end
end Att
namespace L2
open PySem PySem.Spec PyProof.Rows
theorem wR:∀{vs:List ag} {ns:List Int},sj vs ns->eI (ns.map V.int) vs
 |_,_,.nil=>.nil
 |_,_,.cons n t h=>.cons ⟨t,rfl⟩ (wR h)
def jX (s:Stmt)(j:Nat):Stmt:=match s with
 | .ClassDef _ _ _ a _ _ _ _ _ _ _=>a.getD j (.Pass ⟨0,0,0,0⟩)
 |_=>.Pass ⟨0,0,0,0⟩
def pP (s:Stmt):HX:=match s with
 | .FunctionDef _ a _ _ _ _ _ _ _ _=>a
 |_=>{posonlyargs:=[],args:=[],vararg:=ac,kwonlyargs:=[],kw_defaults:=[],kwarg:=ac,defaults:=[]}
def lH (s:Stmt):List Stmt:=match s with
 | .FunctionDef _ _ b _ _ _ _ _ _ _=>b
 |_=>[]
def aP (s:Stmt):ku:=match s with
 | .FunctionDef _ _ _ _ _ _ a _ _ _=>a
 |_=>{kind:=.function,names:=[],isGenerator:=af,isCoroutine:=af}
abbrev jw:HP:=λ_ _ _ _ _ _=>False
abbrev E0:XK:=λ_ _ _=>False
def rH {X:Cx}:sL jw X E0:=λ_ _ _ _ _ _ _ h=>h.elim
structure Li (K:am)(x qual:Str)(st:Stmt)(f:Addr)(fd:gr):Prop where
 ex:∃(oc:ag) (od:Option Addr) (kV doc pm:ag) (an:Option Addr) (cdv ct:ag) (osl:Array (Option ag)),
  fd=jm x qual (pP st) (lH st) (aP st) .none kV doc pm an cdv ct/\K.lookup f=aa ⟨oc,od,.func fd,osl⟩/\pw K cdv qual=ae
 kp:iz K (.ref f)=ae
section
variable {P:aO} {w:World} {K:am} {mg:Str->Option ag} {base:Heap}
def Li.ok {x qual:Str}{st:Stmt}{f:Addr}{fd:gr}{N ps:List Str}{k:Nat}{sp:Sp}(F:Li K x qual st f fd)(S:bo N ps (aP st))(len:∀vs H Q E,sp vs H Q E->vs.length=ps.length)
  (b:∀(a:ag) (A:b0) (outer:List Env) (s:aw) (H:Hp) (vs:List V) (Q:VK) (E:XK),jC k (A.deeper (rC qual (aP st) s.heap.objs.size f a))->sp vs H Q E->
   ∃t,B5 (um jw P w K mg base N qual (aP st) f a A outer s H E).nox (lH st) t/\t {nx:=λ_ e=>Q .non e,rt:=Q} (pN N vs) H):du P w K mg base jw (k+1) f fd ps sp:=by
 let(o,p,kV,i,r,u,a,v,j,rfl,lk,c):=F.ex;exact IL lk c S len λA outer s H vs Q E l d=>?_
 let(t,h,q):=b a A outer s H vs Q E l d;exact(t,h.nox,q)
def Jb {x qual:Str}{st:Stmt}{f:Addr}{j:ag}{o e:Option Addr}{d:Array (Option ag)}{kV b i a ct:ag}(l:K.lookup f=aa ⟨j,o,.func (jm x qual (pP st) (lH st) (aP st) .none kV b i e a ct),d⟩)
  (c:pw K a qual=ae) (k:iz K (.ref f)=ae):Li K x qual st f (jm x qual (pP st) (lH st) (aP st) .none kV b i e a ct):=⟨(WG j o kV b i e a (WJ ct d rfl l c)),k⟩
end
def jx {A:b0}{k:Nat}(a:jC k A):A.units+1<oq:=iA (Nat.add_le_add_left (by decide:1<=64) _) a.units
def dI {n:Nat}(h:n<=1000):n<aI:=iA h (by decide)
section
variable {X:Cx}
def pv (i:Nat){x:Str}{pos:Pos}(hN:X.N[i]?=aa x:=by rfl)(b:MD X.env.scope x:=by first|exact eu rfl|exact xO (eu rfl)|exact xO (xO rfl))(c:(x==("__debug__":Str))=af:=by decide)
  (a:(x==("__classdict__":Str))=af:=by decide):PE X (.Name x pos) (xX i):=NF hN b c a
def oP:o5 X (.builtin "len") (λxs H Q=>∃a kvs,xs=[V.ref a]/\H a=aa (.dK kvs)/\Q (.int kvs.length) H):=by
 intro b s σ H xs f Q I r h;let(a,kvs,rfl,c,q):=h;let(u,rfl,d):=MJ r;cases d;exact PV I (.inl c) λt i e=>⟨.int kvs.length,H,e,⟨t,rfl⟩,q⟩
end
def i7 {A B:Prop}(h:B):if af=ae then A else B:=by
 rw[iQ ba];exact h
def jD {A B:Prop}(h:A):if ae=ae then A else B:=by
 rw[jN rfl];exact h
def Lj {c A B:Prop}[Decidable c](h1:c->A)(a:¬c->B):if c then A else B:=by
 by_cases h:c
 ·rw[jN h];exact h1 h
 ·rw[iQ h];exact a h
def aU (H a:Hp):Prop:=∀b o,H b=aa o->a b=aa o
def aU.refl (H:Hp):aU H H:=λ_ _ h=>h
variable {H:Hp}
def aU.trans {d e:Hp}(a:aU H d)(b:aU d e):aU H e:=λc o h=>b c o (a c o h)
def aU.free {a:Hp}(e:aU H a){l:Addr}(h:a l=nS):H l=nS:=by
 cases q:H l with
 |none=>rfl
 |some o=>
  rw[e l o q] at h;cases h
def aU.seq {K:am}{b:Hp}{a:Addr}{xs:List V}(e:aU H b)(h:dL K H a xs):dL K b a xs:=by
 rcases h with(h|⟨o,h⟩)|h
 ·exact .inl (.inl (e _ _ h))
 ·exact .inl (.inr ⟨o,e _ _ h⟩)
 ·exact .inr h
section
variable {κ:Type} [DecidableEq κ]
def C2 {kvs:List (κ×V)}{k:κ}(h:eE kvs k=ac):¬k∈kvs.map (·.1):=by
 intro m;let(p,a,e):=aM.mp m;let q:(kvs.any λb=>decide (b.1=k))=ae:=lA.mpr ⟨p,a,decide_eq_true e⟩;rw[o8,h] at q;exact aB q (by simp)
def yn {kvs:List (κ×V)}{k:κ}{v:V}(h:eE kvs k=aa v):k∈kvs.map (·.1):=by
 let q:(kvs.any λa=>decide (a.1=k))=ae:=by
  rw[o8,h]
  all_goals rfl
 let(p,b,e):=lA.mp q;exact aM.mpr ⟨p,b,of_decide_eq_true e⟩
theorem FP:∀{l:List κ} {k:κ},l.Nodup->¬k∈l->(l++[k]).Nodup
 |[],k,_,_=>by simp
 |a::r,k,h,b=>by
  let(c,d):=bR.mp h;show(a::(r++[k])).Nodup;exact bR.mpr ⟨λm=>?_,FP d λm=>b (az.mpr (xO m))⟩;rcases cF.mp m with q|q
  ·exact c q
  ·exact b (az.mpr (eu (dP.mp q).symm))
def Lk {kvs:List (κ×V)}{k:κ}(v:V)(hn:(kvs.map (·.1)).Nodup)(h:eE kvs k=ac):((jW kvs k v).map (·.1)).Nodup:=by
 rw[vS v h,bU];exact FP hn (C2 h)
def Ap {p:κ×V}{r:List (κ×V)}{k:κ}(e:p.1=k):lh (p::r) k=lh r k:=by
 unfold lh;rw[dB,iQ (by simp[e])]
def Aq {p:κ×V}{r:List (κ×V)}{k:κ}(e:¬p.1=k):lh (p::r) k=p::lh r k:=by
 unfold lh;rw[dB,jN (by simp[e])]
def Ar {kvs:List (κ×V)}{k:κ}{p:κ×V}(h:p∈lh kvs k):p∈kvs:=(cW.mp h).1
theorem yW:∀{kvs:List (κ×V)} {k:κ},(kvs.map (·.1)).Nodup->((lh kvs k).map (·.1)).Nodup
 |[],_,_=>jS
 |p::r,k,h=>by
  let h:(p.1::r.map (·.1)).Nodup:=h;let(b,a):=bR.mp h;by_cases e:p.1=k
  ·rw[Ap e];exact yW a
  ·rw[Aq e];show(p.1::(lh r k).map (·.1)).Nodup;exact bR.mpr ⟨λm=>b ?_,yW a⟩;let(q,c,d):=aM.mp m;exact aM.mpr ⟨q,Ar c,d⟩
end
def aU.made {a:Hp}{x dx C:Addr}(nx:H x=nS)(c:H dx=nS)(k:∀b o,(bD (bD H dx (.own x)) x (.ins C dx [])) b=aa o->b≠x->a b=aa o):aU H a:=λb o e=>
 k b o (by rw[aF (aL e nx),aF (aL e c)];exact e) (aL e nx)
end L2
section
namespace L2
open PySem PySem.Spec PyProof.Rows
open PySem.W (WData Codec OpenSpec Well WellAll ReadsW ReadsAllW)
variable {a:Addr} {A:List Addr} {h:Heap} {vs:List ag}
mutual
inductive Dw (K:am)(H:Hp):V->jv->Prop
 |non:Dw K H .non .none
 |bl (b:Bool):Dw K H (.bl b) (.bool b)
 |int (i:Int):Dw K H (.int i) (.int i)
 |str (x:Str):Dw K H (.str x) (.str x)
 |byt (b:Array UInt8):Dw K H (.byt b) (.bytes b.toList)
 |lst {a:Addr} {xs:List V} {ds:List jv}:dL K H a xs->rJ K H xs ds->Dw K H (.ref a) (.list ds)
 |tup {a:Addr} {xs:List V} {ds:List jv}:o4 K H a xs->rJ K H xs ds->Dw K H (.ref a) (.tuple ds)
inductive rJ (K:am)(H:Hp):List V->List jv->Prop
 |nil:rJ K H [] []
 |cons {v:V} {vs:List V} {d:jv} {ds:List jv}:Dw K H v d->rJ K H vs ds->rJ K H (v::vs) (d::ds)
end
theorem FQ {K:am}{H:Hp}:∀ns:List Int,rJ K H (ns.map V.int) (ns.map jv.int)
 |[]=>.nil
 |n::r=>.cons (.int n) (FQ r)
theorem FR {K:am}{H:Hp}:∀(ns:List Int) (xs:List V),rJ K H xs (ns.map jv.int)->xs=ns.map V.int
 |[],xs,h=>by
  cases h;rfl
 |n::r,xs,h=>by
  cases h with
  |cons a b=>
   cases a;rw[FR r _ b]<;>rfl
section
variable {P:aO} {w:World} {K:am} {H:Hp} {h:Heap} {R:PySem.W.WRecords} {cl:Str->Option Addr}
def Oa {xs:List V}(c:oE P w H h)(f:K.In h)(q:dL K H a xs):∃(b:List ag) (o:Obj) (n:Nat),eI xs b/\h.get? a=aa o/\o.cls=.type "list"/\o.data=.seq b.toArray n:=by
 rcases q with q|⟨o,b,n,e,hc,_,i,_,d⟩
 ·let(_,b,n,d,e):=(show iJ P w H h a (.lst xs) from q.ok c);exact WT b _ n d e rfl rfl
 ·exact WT b.toList o n d (f _ _ e) hc (by simp[i])
def Ob {xs:List V}(c:oE P w H h)(i:K.In h)(q:o4 K H a xs):∃(b:List ag) (o:Obj) (n:Nat),eI xs b/\h.get? a=aa o/\o.cls=.type "tuple"/\o.data=.seq b.toArray n:=by
 rcases q with q|⟨o,b,n,e,hc,d,_,f⟩
 ·let(_,b,f,o,e,hc,n,d):=(show iJ P w H h a (.tup xs) from q.ok c);exact WT b o n f e hc d
 ·exact WT b.toList o n f (i _ _ e) hc (by simp[d])
mutual
theorem Dw.reads (hok:oE P w H h)(KX:K.In h):∀(d:jv) (v:V) (u:ag),Dw K H v d->eA v u->∃as,xj R cl h u d as
 | .none,_,_,x,r=>by
   cases x;cases r;exact(_,xj.none)
 | .bool b,_,_,x,r=>by
   cases x;cases r;exact(_,xj.bool b)
 | .int i,_,_,x,r=>by
   cases x;let(t,rfl):=r;exact(_,xj.int i t)
 | .str s,_,_,x,r=>by
   cases x;let(t,rfl):=r;exact(_,xj.str s t)
 | .bytes b,_,_,x,r=>by
   cases x;let(t,rfl):=r;exact(_,xj.bytes _ t)
 | .list ds,_,_,x,r=>by
   cases x with
   |lst hs ha=>
    cases r;let(its,o,n,rv,ho,hc,hd):=Oa hok KX hs;let(as,hr):=Dw.readsAll hok KX ds _ its ha rv;exact(_,xj.list ho hc hd hr)
 | .tuple ds,_,_,x,r=>by
   cases x with
   |tup hs ha=>
    cases r;let(its,o,n,rv,ho,hc,hd):=Ob hok KX hs;let(as,hr):=Dw.readsAll hok KX ds _ its ha rv;exact(_,xj.tuple ho hc hd hr)
 | .float _,_,_,x,_=>by cases x
 | .dict _,_,_,x,_=>by cases x
 | .bytearray _,_,_,x,_=>by cases x
 | .set _,_,_,x,_=>by cases x
 | .frozenset _,_,_,x,_=>by cases x
 | .obj _ _,_,_,x,_=>by cases x
theorem Dw.readsAll (hok:oE P w H h)(KX:K.In h):∀(ds:List jv) (vs:List V) (us:List ag),rJ K H vs ds->eI vs us->∃as,HY R cl h us ds as
 |[],_,_,x,r=>by
  cases x;cases r;exact(_,HY.nil)
 |d::ds,_,_,x,r=>by
  cases x with
  |cons h1 h2=>
   cases r with
   |cons r1 r2=>
    let(as,q1):=Dw.reads hok KX d _ _ h1 r1;let(bs,q2):=Dw.readsAll hok KX ds _ _ h2 r2;exact(_,HY.cons q1 q2)
end
end
mutual
def FS:jv->Bool
 | .none=>ae
 | .bool _=>ae
 | .int _=>ae
 | .str _=>ae
 | .bytes _=>ae
 | .list xs=>xY xs
 | .tuple xs=>xY xs
 |_=>af
def xY:List jv->Bool
 |[]=>ae
 |x::r=>FS x&&xY r
end
theorem C3 {α:Type}{f:α->jv}(h:∀a,FS (f a)=ae):∀l:List α,xY (l.map f)=ae
 |[]=>rfl
 |x::r=>by
  show(FS (f x)&&xY (r.map f))=ae;rw[h x,C3 h r]<;>rfl
theorem sV:∀(c:lO) (a:c.denote),FS (c.enc a)=ae
 | .unit,_=>rfl
 | .bool,_=>rfl
 | .int _ _,_=>rfl
 | .nat _ _,_=>rfl
 | .u8,_=>rfl
 | .bytes _ _,_=>rfl
 | .text _ _ _ _,_=>rfl
 | .list _ _ c,a=>C3 (λx=>sV c x) a
 | .pair c d,a=>by
   show(FS (c.enc a.1)&&(FS (d.enc a.2)&&ae))=ae;rw[sV c a.1,sV d a.2]<;>rfl
 | .triple c d e,a=>by
   show(FS (c.enc a.1)&&(FS (d.enc a.2.1)&&(FS (e.enc a.2.2)&&ae)))=ae;rw[sV c a.1,sV d a.2.1,sV e a.2.2]<;>rfl
 | .option c,ac=>rfl
 | .option c,aa x=>sV c x
theorem As:∀(b:List lO) (a:sk b),xY (pz b a)=ae
 |[],_=>rfl
 |c::b,a=>by
  show(FS (c.enc a.1)&&xY (pz b a.2))=ae;rw[sV c a.1,As b a.2]<;>rfl
theorem uW:∀{xs:List jv} {d:jv},d∈xs->d.weight<=so xs
 |[],d,h=>aB h (by simp)
 |x::r,d,h=>by
  show d.weight<=x.weight+1+so r;rcases az.mp h with e|m
  ·rw[e];omega
  ·let z:=uW m;omega
def B6:ag->V
 | .none=>.non
 | .bool b=>.bl b
 | .int i _=>.int i
 | .str x _=>.str x
 | .bytes b _=>.byt b
 | .ref a=>.ref a
 |_=>.non
def G6 (A:List Addr):ag->Prop
 | .none=>True
 | .bool _=>True
 | .int _ _=>True
 | .str _ _=>True
 | .bytes _ _=>True
 | .ref a=>a∈A
 |_=>False
def G6.mono {B:List Addr}(h:∀a∈A,a∈B):∀{u:ag},G6 A u->G6 B u:=λ{u} x=>by
 cases u with
 |ref a=>exact h a x
 |none=>trivial
 |bool b=>trivial
 |int i t=>trivial
 |str s t=>trivial
 |bytes b t=>trivial
 |_=>exact dE x
def Jc {u:ag}(x:G6 A u):eA (B6 u) u:=by
 cases u with
 |ref a=>rfl
 |none=>rfl
 |bool b=>rfl
 |int i t=>exact(t,rfl)
 |str s t=>exact(t,rfl)
 |bytes b t=>exact(t,rfl)
 |_=>exact dE x
theorem qC {A:List Addr}:∀{vs:List ag},(∀u∈vs,G6 A u)->eI (vs.map B6) vs
 |[],_=>.nil
 |u::r,h=>.cons (Jc (h u (aD ..))) (qC λx a=>h x (au _ a))
def rK (h:Heap)(A:List Addr)(a:Addr):Prop:=∃vs:List ag,vs.length<=aI/\(∀u∈vs,G6 A u)/\
 (h.get? a=aa {cls:=.type "list",data:=.seq vs.toArray}\/h.get? a=aa {cls:=.type "tuple",data:=.seq vs.toArray})
theorem rK.mono {B:List Addr}(k:∀a∈A,a∈B)(x:rK h A a):rK h B a:=by
 let(vs,b,c,d):=x;exact(vs,b,λu e=>(c u e).mono k,d)
theorem pQ {P:B1}{h:Heap}:∀{vs:List ag} {ds:List jv},vf P h vs ds->vs.length=ds.length
 |_,_,.nil=>rfl
 |_,_,.cons _ b=>by
  show _+1=_+1;rw[pQ b]
def At {P:B1}{v:ag}{ds:List jv}(x:Well P h v (.list ds)):∃(a:Addr) (vs:List ag),v=.ref a/\h.get? a=aa {cls:=.type "list",data:=.seq vs.toArray}/\vf P h vs ds:=by
 cases x with
 |list c b=>exact(_,_,rfl,c,b)
def yX {P:B1}{v:ag}{ds:List jv}(x:Well P h v (.tuple ds)):∃(a:Addr) (vs:List ag),v=.ref a/\h.get? a=aa {cls:=.type "tuple",data:=.seq vs.toArray}/\vf P h vs ds:=by
 cases x with
 |tuple c b=>exact(_,_,rfl,c,b)
def Au {P:B1}{us:List ag}{d:jv}{ds:List jv}(x:vf P h us (d::ds)):∃(v:ag) (vs:List ag),us=v::vs/\Well P h v d/\vf P h vs ds:=by
 cases x with
 |cons a b=>exact(_,_,rfl,a,b)
def FT {n:Nat}(h:n<=1048576):n<=aI:=bq h (by decide)
section
variable {P:B1} {h:Heap}
mutual
theorem Jd:∀(d:jv) (v:ag),Well P h v d->FS d=ae->d.weight<=1048576->∃A:List Addr,G6 A v/\∀a∈A,rK h A a
 | .none,_,x,_,_=>by
   cases x;exact([],trivial,λa m=>aB m (by simp))
 | .bool b,_,x,_,_=>by
   cases x;exact([],trivial,λa m=>aB m (by simp))
 | .int i,_,x,_,_=>by
   cases x;exact([],trivial,λa m=>aB m (by simp))
 | .str s,_,x,_,_=>by
   cases x;exact([],trivial,λa m=>aB m (by simp))
 | .bytes b,_,x,_,_=>by
   cases x;exact([],trivial,λa m=>aB m (by simp))
 | .list ds,_,x,p,z=>by
   let(a,vs,rfl,ho,hall):=At x;let z2:so ds<=1048576:=z;let(A,h1,h2):=vU ds _ hall p λd hd=>bq (uW hd) z2
   let k:∀b∈A,b∈a::A:=λb hb=>au _ hb
   exact(a::A,aD ..,λb hb=>?_);rcases az.mp hb with e|m
   ·rw[e];exact(vs,FT (by rw[pQ hall];exact bq (yg ds) z2),λu hu=>(h1 u hu).mono k,.inl ho)
   ·exact(h2 b m).mono k
 | .tuple ds,_,x,p,z=>by
   let(a,vs,rfl,ho,hall):=yX x;let z2:so ds<=1048576:=z;let(A,h1,h2):=vU ds _ hall p λd hd=>bq (uW hd) z2
   let k:∀b∈A,b∈a::A:=λb hb=>au _ hb
   exact(a::A,aD ..,λb hb=>?_);rcases az.mp hb with e|m
   ·rw[e];exact(vs,FT (by rw[pQ hall];exact bq (yg ds) z2),λu hu=>(h1 u hu).mono k,.inr ho)
   ·exact(h2 b m).mono k
 | .float _,_,_,p,_=>eG (show af=ae from p)
 | .dict _,_,_,p,_=>eG (show af=ae from p)
 | .bytearray _,_,_,p,_=>eG (show af=ae from p)
 | .set _,_,_,p,_=>eG (show af=ae from p)
 | .frozenset _,_,_,p,_=>eG (show af=ae from p)
 | .obj _ _,_,_,p,_=>eG (show af=ae from p)
theorem vU:∀(ds:List jv) (vs:List ag),vf P h vs ds->xY ds=ae->(∀d∈ds,d.weight<=1048576)->∃A:List Addr,(∀u∈vs,G6 A u)/\∀a∈A,rK h A a
 |[],_,x,_,_=>by
  cases x;exact([],λu m=>aB m (by simp),λa m=>aB m (by simp))
 |d::ds,_,x,p,z=>by
  let(v,vs,rfl,x1,x2):=Au x;let q:FS d=ae/\xY ds=ae:=iD.mp p;let(A,a1,a2):=Jd d v x1 q.1 (z d (aD ..));let(B,b1,b2):=vU ds vs x2 q.2 λe he=>z e (au _ he)
  let kA:∀b∈A,b∈A++B:=λb hb=>cF.mpr (.inl hb)
  let kB:∀b∈B,b∈A++B:=λb hb=>cF.mpr (.inr hb)
  exact(A++B,λu hu=>?_,λb hb=>?_)
  ·rcases az.mp hu with e|m
   ·rw[e];exact a1.mono kA
   ·exact(b1 u m).mono kB
  ·rcases cF.mp hb with m|m
   ·exact(a2 b m).mono kA
   ·exact(b2 b m).mono kB
end
end
def Ll (o:Obj):Option HO:=match o.data with
 | .seq vs _=>if(o.cls==jF "list")=ae then aa (.frz o (.lst (vs.toList.map B6))) else aa (.frz o (.tup (vs.toList.map B6)))
 |_=>ac
def qD (K:am)(h:Heap)(A:List Addr):Hp:=λb=>if b∈A then(if(K.lookup b).isNone=ae then(h.get? b).bind Ll else ac) else ac
def MR (H:Hp):Prop:=∀b,H b=ac\/∃o u,H b=aa (.frz o u)
def C4 (vs:List ag):Ll {cls:=.type "list",data:=.seq vs.toArray}=aa (.frz {cls:=.type "list",data:=.seq vs.toArray} (.lst (vs.map B6))):=by
 show(if(jF "list"==jF "list")=ae then aa (HO.frz {cls:=.type "list",data:=.seq vs.toArray} (.lst (vs.toArray.toList.map B6))) else aa (HO.frz {cls:=.type "list",data:=.seq vs.toArray} (.tup (vs.toArray.toList.map B6))))=_
 rw[jN (beq_self_eq_true _)]
def C5 (vs:List ag):Ll {cls:=.type "tuple",data:=.seq vs.toArray}=aa (.frz {cls:=.type "tuple",data:=.seq vs.toArray} (.tup (vs.map B6))):=by
 show(if(jF "tuple"==jF "list")=ae then aa (HO.frz {cls:=.type "tuple",data:=.seq vs.toArray} (.lst (vs.toArray.toList.map B6))) else aa (HO.frz {cls:=.type "tuple",data:=.seq vs.toArray} (.tup (vs.toArray.toList.map B6))))=_
 rw[iQ (by decide)]
section
variable {P:aO} {w:World} {K:am} {h:Heap} {A:List Addr}
def yo {b:Addr}{o:Obj}(a:b∈A)(c:K.lookup b=ac)(e:h.get? b=aa o):qD K h A b=Ll o:=by
 unfold qD;rw[jN a,c,jN (show(ac:Option Obj).isNone=ae from rfl),e]<;>rfl
def Lm {b:Addr}{u:HO}(q:qD K h A b=aa u):b∈A/\K.lookup b=ac:=by
 unfold qD at q;by_cases a:b∈A
 ·rw[jN a] at q
  cases c:K.lookup b with
  |none=>exact(a,rfl)
  |some o=>
   rw[c,iQ (by simp)] at q;cases q
 ·rw[iQ a] at q;cases q
def yp (f:∀a∈A,rK h A a){b:Addr}{u:HO}(q:qD K h A b=aa u):K.lookup b=ac/\∃vs:List ag,vs.length<=aI/\(∀u∈vs,G6 A u)/\
  ((h.get? b=aa {cls:=.type "list",data:=.seq vs.toArray}/\u=.frz {cls:=.type "list",data:=.seq vs.toArray} (.lst (vs.map B6)))\/
   (h.get? b=aa {cls:=.type "tuple",data:=.seq vs.toArray}/\u=.frz {cls:=.type "tuple",data:=.seq vs.toArray} (.tup (vs.map B6)))):=by
 let(c,d):=Lm q;let(vs,i,j,l):=f b c;exact(d,vs,i,j,?_);rcases l with e|e
 ·rw[yo c d e,C4] at q;exact .inl ⟨e,(a6 q).symm⟩
 ·rw[yo c d e,C5] at q;exact .inr ⟨e,(a6 q).symm⟩
def G7 (c:∀a∈A,rK h A a):MR (qD K h A):=λb=>by
 cases q:qD K h A b with
 |none=>exact .inl rfl
 |some u=>
  obtain⟨_,vs,_,_,⟨_,e⟩|⟨_,e⟩⟩:=yp c q
  ·exact .inr ⟨_,_,by rw[e]⟩
  ·exact .inr ⟨_,_,by rw[e]⟩
def Ln (f:∀a∈A,rK h A a):oE P w (qD K h A) h:=λb u q=>by
 obtain⟨_,vs,c,d,⟨e,rfl⟩|⟨e,rfl⟩⟩:=yp f q
 ·exact(e,by rw[aj];exact c,vs,_,qC d,e)
 ·exact(e,by rw[aj];exact c,vs,qC d,_,e,rfl,_,rfl)
def yq {c a:ag}{us:List ag}(e:(aa {cls:=c,data:=.seq vs.toArray}:Option Obj)=aa {cls:=a,data:=.seq us.toArray}):c=a/\vs=us:=by
 let b:=a6 e;let d:c=a:=congrArg Obj.cls b;let f:Data.seq vs.toArray=Data.seq us.toArray:=congrArg Obj.data b;injection f with i
 exact(d,?_);let j:=congrArg Array.toList i;simpa using j
def Sb (j:K.In h)(l:∀a∈A,rK h A a)(c:a∈A)(e:h.get? a=aa {cls:=.type "list",data:=.seq vs.toArray}):(∀u∈vs,G6 A u)/\dL K (qD K h A) a (vs.map B6):=by
 let(d,p,f,r):=l a c;let s:d=vs:=by
  rcases r with q|q
  ·rw[e] at q;exact(yq q).2.symm
  ·rw[e] at q;exact aB (jF.inj (yq q).1) (by decide)
 subst s;exact(f,?_)
 cases b:K.lookup a with
 |none=>exact .inl (.inr ⟨_,by rw[yo c b e,C4]⟩)
 |some o=>
  let i:=j a o b;rw[e] at i;obtain rfl:=a6 i;exact .inr (WQ _ d.toArray _ b rfl rfl rfl ⟨by rw[bi];exact p,by simpa using qC f⟩)
def Sc (j:K.In h)(l:∀a∈A,rK h A a)(c:a∈A)(e:h.get? a=aa {cls:=.type "tuple",data:=.seq vs.toArray}):(∀u∈vs,G6 A u)/\o4 K (qD K h A) a (vs.map B6):=by
 let(d,p,f,r):=l a c;let s:d=vs:=by
  rcases r with q|q
  ·rw[e] at q;exact aB (jF.inj (yq q).1) (by decide)
  ·rw[e] at q;exact(yq q).2.symm
 subst s;exact(f,?_)
 cases b:K.lookup a with
 |none=>exact .inl (.inr ⟨_,by rw[yo c b e,C5]⟩)
 |some o=>
  let i:=j a o b;rw[e] at i;obtain rfl:=a6 i;exact .inr (WQ _ d.toArray _ b rfl rfl (by rw[bi];exact p) (by simpa using qC f))
mutual
theorem Oc {Pm:B1}(KX:K.In h)(ar:∀a∈A,rK h A a):∀(d:jv) (v:ag),Well Pm h v d->FS d=ae->G6 A v->Dw K (qD K h A) (B6 v) d
 | .none,_,x,_,_=>by
   cases x;exact .non
 | .bool b,_,x,_,_=>by
   cases x;exact .bl b
 | .int i,_,x,_,_=>by
   cases x;exact .int i
 | .str s,_,x,_,_=>by
   cases x;exact .str s
 | .bytes b,_,x,_,_=>by
   cases x;let z:=Dw.byt (K:=K) (H:=qD K h A) b.toArray;exact z
 | .list ds,_,x,p,hu=>by
   let(a,vs,rfl,ho,hall):=At x;let(h2,hs):=Sb KX ar hu ho;exact .lst hs (By KX ar ds _ hall p h2)
 | .tuple ds,_,x,p,hu=>by
   let(a,vs,rfl,ho,hall):=yX x;let(h2,hs):=Sc KX ar hu ho;exact .tup hs (By KX ar ds _ hall p h2)
 | .float _,_,_,p,_=>eG (show af=ae from p)
 | .dict _,_,_,p,_=>eG (show af=ae from p)
 | .bytearray _,_,_,p,_=>eG (show af=ae from p)
 | .set _,_,_,p,_=>eG (show af=ae from p)
 | .frozenset _,_,_,p,_=>eG (show af=ae from p)
 | .obj _ _,_,_,p,_=>eG (show af=ae from p)
theorem By {Pm:B1}(KX:K.In h)(ar:∀a∈A,rK h A a):∀(ds:List jv) (vs:List ag),vf Pm h vs ds->xY ds=ae->(∀u∈vs,G6 A u)->rJ K (qD K h A) (vs.map B6) ds
 |[],_,x,_,_=>by
  cases x;exact .nil
 |d::ds,_,x,p,hu=>by
  let(v,vs,rfl,x1,x2):=Au x;let q:FS d=ae/\xY ds=ae:=iD.mp p;exact .cons (Oc KX ar d v x1 q.1 (hu _ (aD ..))) (By KX ar ds vs x2 q.2 λu m=>hu u (au _ m))
end
end
def yY {ds:List jv}(h:jv.layableAll ds=ae):∀d∈ds,d.weight<=1048576:=λd a=>
 (PySem.W.layableW_iff.mp (fV.mp h d a)).2.2
theorem yZ:∀(b:List lO) (a:sk b),(pz b a).length=b.length
 |[],_=>rfl
 |c::b,a=>by
  show(pz b a.2).length+1=b.length+1;rw[yZ b a.2]
end L2
end
namespace L2
open PySem PySem.Spec PyProof.Rows
section
variable {X:Cx} {e a:Expr} {te:TE} {pos p2:Pos} {x f:Str} {k:Int}
def jY {N P:List Str}{i:ku}(h:i.kind=.function/\i.isCoroutine=af/\i.isGenerator=af/\N.Nodup/\N.take P.length=P/\(∀x∈P,i.names.lookup x=aa .local\/i.names.lookup x=aa .cell)/\∀y∈i.names,y.2≠.free:=by decide +kernel):bo N P i:=let ⟨a,b,c,d,e,f,g⟩:=h;⟨a,b,c,d,e,f,g⟩
def il {j}(b:PE X a te):PE X (.Subscript a (.Constant (.int k) j p2) pos) (KY (NT X.K) te (tC (.int k))):=ot rb b be (λ_ _=>rfl)
def iq {j}(b:PE X a te):PE X (.Subscript a (.Constant (.int k) j p2) pos) (KY (PM X.K) te (tC (.int k))):=ot ED b be (λ_ _=>rfl)
def fl (a:PE X e te)(b:fY e f X.env (eval e X.env)=eval e X.env:=by rfl):PE X (.Attribute e f pos) (EA X.K te f):=nX a b
def cU (a:PE X e te)(b:bp [e] X.env=[(af,eval e X.env)]:=by rfl):PA X [e] (vN te Bo):=aS a ng b
def rt (a:PE X e te):B5 X [.Return (aa e) pos] (NJ te):=bN (lr a)
def sT (i:Nat)(hN:X.N.Nodup)(a:PE X e te)(b:X.N[i]?=aa x:=by rfl)(c:ME X.env.scope x:=by exact eu rfl)(d:xM e (aa (.Name x p2)) pos.line X.env=pure af:=by rfl)(f:X.fn x=ae\/X.env.scope.names.lookup x=aa .local:=by first|exact .inl rfl|exact .inr rfl|assumption):
  PS X (.Assign [.Name x p2] e pos) (NO te (CA i)):=nW hN b c a d f
abbrev wn:List Str:=["world","numbers"]
end
end L2
namespace St
open PySem
variable {Q:ag->aw->Prop}
section
variable {prog:aO} {w:World} {A:b0} {E:ag->aw->Prop} {s:aw}
abbrev gE (w:World):Obj:={cls:=.type "set",dict:=ac,data:=.set #[] 0 (.fresh 0 0 (!w.params.followText "set-order"))}
def vV (a:ag){Q₁:ag->aw->Prop}
  (h:Q₁ (.ref s.heap.objs.size) {s with heap:=s.heap.push (gE w)}):
  qM (bd prog w) A (.call (.builtin "set.__new__") ⟨[.type "set",a],[]⟩) (wants Q₁ E) s:=by
 exact DV ?_;show a8 _ A.in1 (do checkBuiltinCall "set.__new__" ⟨[.type "set",a],[]⟩;again (.builtin "set.__new__" ⟨[.type "set",a],[]⟩)) _ _ s
 exact ai (wpAny_of_eq (F.newCall_set_1 a) (aG ⟨yw F.plain_set_new _,kY F.entry_set_new ?_⟩));rw[kJ F.plain_set_new _];unfold Builtin.«set.__new__» ck.Frozenset.newClass;let b:=sub_set_self;let(c,g,d,tk,os):=s;dsimp only
 wp_walk
 exact jk (aG ?_);dsimp only;simp only[newObj];exact ai (Me (aG ?_));exact aG h
def G8 (h:Heap):iI prog w (h.push (gE w)) h.objs.size []:=by
 exact WK _ (#[]) 0 _ (aY _ rfl) ⟨rfl,rfl,rfl⟩ rfl (λe a=>by simp at a) rfl ⟨.nil,by decide,qZ _,rfl,?_⟩;show zI w=ae\/(!w.params.followText "set-order")=ae;by_cases z:zI w=ae
 ·exact .inl z
 ·exact .inr ?_
  cases e:w.params.followText "set-order" with
  |false=>rfl
  |true=>exact aB e z
def KA {d:Addr}{u:Obj}{i:Array ji}{v:Nat}{ks:List Int}(J:s.heap.get? d=aa u)(hc:u.cls=.type "dict")(y:u.data=.dict i v)(Y:KD i ks)(j:(d==iG)=af)(a:ks.length+1<fB)(h:∀(h':Heap) (tk:Nat) (L:List Int),iI prog w h' s.heap.objs.size L->(∀x,x∈L↔x∈ks)->L.length<=ks.length->(∀b o,s.heap.get? b=aa o->h'.get? b=aa o)->Q (.ref s.heap.objs.size) {s with heap:=h',toks:=tk}):
  a8 (bd prog w) A (call (.type "set") [.ref d]) Q E s:=by
 let(c,tl,M):=fG.mro;let z:=fG.made;let N:=fG.sub;exact vd (DV ?_);show a8 _ _ (callAny (.type "set") _) _ _ _;exact aG ⟨Code.quiet_builtin _ (by decide +kernel),kY F.entry_type_call ?_⟩;rw[b0.under_plain (KI "set" [.ref d] []) rfl];let h1:=fG.notType;let h2:=fG.canCreate;let a0:=F.typeCall_set_1 (.ref d)
 repeat (any_goals (first|assumption|wp_step))
 exact i9 (vV (.ref d) (E:=E) (Q₁:=λp O=>p=.ref s.heap.objs.size/\O={s with heap:=s.heap.push (gE w)}) ⟨rfl,rfl⟩) λr O B=>?_
 cases r with
 |error e=>exact B
 |ok fl=>
  cases fl with
  |ret p=>
   let(rfl,rfl):=B;let hS:(s.heap.push (gE w)).get? s.heap.objs.size=aa (gE w):=aY _ rfl;let hT:AV {s with heap:=s.heap.push (gE w)} (.ref s.heap.objs.size) "set":=⟨_,hS,rfl⟩
   let a2:=fG.init.lookup;let a3:=fG.init.bind (.ref s.heap.objs.size)
   repeat (any_goals (first|assumption|wp_step))
   exact i9 (Mm (R:=wants (λr T=>r=.none/\∃h' tk L,T={s with heap:=h',toks:=tk}/\
     iI prog w h' s.heap.objs.size L/\(∀x,x∈L↔x∈ks)/\L.length<=ks.length/\
     (∀b o,s.heap.get? b=aa o->h'.get? b=aa o)) E) fG.init.plain F.entry_set_init (check_set_init_1 hT ?_)) λr₂ T f=>?_
   ·let C:(s.heap.push (gE w)).get? d=aa u:=aE _ J;let q:d<s.heap.objs.size:=aW J;let D:rV (.fresh 0 0 (!w.params.followText "set-order")):=qZ _;unfold Builtin.«set.__init__» noKeywords;generalize H:fQ=UF
    wp_walk
    subst H;exact Cr (s:={s with heap:=s.heap.push (gE w)}) (L:=[]) (G8 s.heap) C hc y Y (iZ q) j (by simpa using a) λh' L sb SA m l=>?_
    exact aG ⟨rfl,WQ h' s.toks L rfl SA (λx=>by rw[m];simp) (by simpa using l) λb o e=>?_⟩
    exact(sb.2 b (bn (aW e))).trans (aE _ e)
   ·cases r₂ with
    |error e=>exact f
    |ok I=>
     cases I with
     |ret r=>
      let(rfl,h',tk,L,rfl,S1,S2,S3,S4):=f
      repeat (any_goals (first|assumption|wp_step))
      exact h _ _ _ S1 S2 S3 S4
     |_=>exact f.elim
  |_=>exact B.elim
def Sd {a b:Addr}{I q:List Int}(hA:iI prog w s.heap a I)(J:iI prog w s.heap b q)(M:a≠b)(N:I.length+q.length+1<fB)(h:∀h' L,(∀b o,s.heap.get? b=aa o->h'.get? b=aa o)->iI prog w h' s.heap.objs.size L->(∀x,x∈L↔x∈I\/x∈q)->L.length<=I.length+q.length->Q (.ref s.heap.objs.size) {s with heap:=h'}):
  a8 (bd prog w) A (mJ .BitOr (.ref a) (.ref b)) Q E s:=by
 let p:=hA.typeIs;let u:=J.typeIs;exact wpAny_binaryOp_same (T:= "set") (id:= "set.__or__") p u F.fills_set_or F.slot_set_or ?_;exact kr F.slot_set_or p Bd ?_ (F.args_set_or_2 _ _);show a8 _ _ (do
  let (i,d)<-vq "__or__" ⟨[.ref a,.ref b],[]⟩
  let (l,r):=if af then(d,i) else(i,d)
  if !(<-gp l <&&> gp r) then rule s!"frozenset.{"__or__"}.declined";return<-ret .notImplemented
  ret (<-(do
   let c<-nQ (<-dX l)
   if r != .ref (<-dX l) then D3 [c] (fQ s!"frozenset.{"__or__"}" (<-dX c) r)
   return c:Sem ag))) _ _ _
 exact ai (m:=vq "__or__" ⟨[.ref a,.ref b],[]⟩) (aG ?_);simp only[bE,if_false];exact ai (ai (wH p ?_));show a8 _ _ (gp (.ref b)) _ _ _;exact wH u ?_;simp only[wv,bE,if_false];exact ai ?_;exact ai (m:=dX (.ref a)) (aG ?_);exact ai (GH hA ⋯ λv L1 O S1 m1 l1=>?_);exact ai (m:=dX (.ref a)) (aG ?_);let y:(bI b !=bI a)=ae:=by
  have:¬(bI b=bI a):=λz=>M (by injection z with z;exact z.symm)
  simpa using this
 rw[jN y];let(ob,eb,ap,tb,B,Y,C,a5,ar,as,av,D,j,a0):=id J;let a1:iI prog w v b q:=J.keep λo e=>O _ _ e
 let f:v.get? b=aa ob:=O _ _ B;let H:b<s.heap.objs.size:=aW B;exact ai (m:=dX (.ref s.heap.objs.size)) (aG ?_);exact ai (eV ?_);unfold fQ;exact ai (wH (s:={s with heap:=v}) ⟨ob,f,Y.1⟩ ?_)
 simp only[if_true];exact ai (m:=dX (.ref b)) (aG ?_);unfold ck.Frozenset.merge;exact ai (zX (s:={s with heap:=v}) f C (D.fits j) ?_)
 exact Cs (s:={s with heap:=v}) (ob:=ob) S1 a1 f (iZ H) ⋯ (λs' Q' a2 hq=>?_) λh2 L2 a3 S2 m2 l2=>?_
 ·unfold ck.Frozenset.unchanged;exact ai (zX a2 C (D.fits j) ?_);simp only[bne_self_eq_false,bE,if_false];exact aG hq
 ·exact aG (aG ⟨_,rfl,?_,h h2 L2 (λb o e=>?_) S2 (λx=>by rw[m2,m1]) ⋯⟩)
  ·intro z;cases z
  ·exact(a3.2 b (bn (aW e))).trans (O _ _ e)
def Od {a:Addr}{L:List Int}(hh:A.handled=ac)(q:iI prog w s.heap a L)(h:∀(h':Heap) (tk:Nat) (D:Addr) (out:List ag) (ns:List Int) (e:Nat),(∀b o,s.heap.get? b=aa o->h'.get? b=aa o)->s.heap.objs.size<=D->h'.get? D=aa {cls:=.type "list",data:=.seq out.toArray e}->mG out ns->ns.Perm L->ns.Pairwise (·<=·)->
   Q (.ref D) {s with heap:=h',toks:=tk}):a8 (bd prog w) A (call (.builtin "sorted") [.ref a]) Q E s:=by
 let r:=q.len;let x:=nI;let y:fB=4096:=rfl;exact AY PyProof.Rows.kind_sorted PyProof.Rows.plain_sorted PyProof.Rows.entry_sorted (PyProof.Rows.args_sorted1 _) ?_;unfold Builtin.«sorted»;exact ai (m:=checkCount "sorted" 1 1 _) (aG ?_);exact ai (Cv (by simpa using hh) q λd f vs ns z B u v=>?_)
 let C:vs.length=L.length:=by rw[<-v.length_eq];exact u.length
 exact ai (yx ?_ ⋯);let c:(d.push (rM "list" vs.toArray 0)).get? d.objs.size=aa (rM "list" vs.toArray 0):=aY _ rfl;exact ai (eV (kr PyProof.Rows.slot_list_sort ⟨_,c,rfl⟩ PyProof.Rows.entry_list_sort
  (PyProof.Rows.list_sort_treeAny (s:={s with heap:=d.push (rM "list" vs.toArray 0),toks:=f}) c u ⋯ λout l H I J=>(WL _ rfl ?_)) (PyProof.Rows.args_list_sort _)))
 let(M,p):=PyProof.Rows.sortedHeap_at (vs:=vs) (out:=out) c;exact aG ⟨_,rfl,h _ f d.objs.size out.toList l M (λb o e=>?_) ?_ ?_ H (I.trans v) J⟩
 ·let i:=B _ _ e;let j:b<d.objs.size:=aW i;rw[PyProof.Rows.sortedHeap_old (bn j) (Nat.lt_of_lt_of_eq (ia j) (dQ _ _).symm)];exact aE _ i
 ·exact z
 ·exact p
end
end St
namespace L2
open PySem PySem.Spec PyProof.Rows
def Bz (P:aO)(w:World)(a:Addr)(L:List Int):HO:=.ext λh=>St.iI P w h a L
def FV {P:aO}{w:World}{H:Hp}{h:Heap}{a:Addr}{L:List Int}(x:St.iI P w h a L):iJ P w H h a (Bz P w a L):=by
 let(o,_,_,_,b,_):=id x;exact(x,⟨o,b⟩,λc d y k=>St.iI.keep y k)
section
variable {X:Cx}
def lI (kvs:List (ef×V))(ks:List Int):Prop:=kvs.map (·.1)=ks.map aA
theorem MS {P:aO}{w:World}:∀{kvs:List (ef×V)} {ks:List Int} {vs:List (ef×ag)} {es:List ji},lI kvs ks->KV kvs vs->(∀e∈es,∃k,(dF P w).is k e.key=ae/\e.hash=(dF P w).hash k)->Pairs (dF P w) es vs->
  es.map (λe=>St.nm e.key)=ks/\∀e∈es,∃t,e.key=.int (St.nm e.key) t/\e.hash=pC (St.nm e.key)
 |[],ks,vs,es,f,r,i,j=>by
  cases r;cases j;have:ks=[]:=by
   unfold lI at f;exact List.map_eq_nil_iff.mp f.symm
  exact(by rw[this];rfl,λe l=>by simp at l)
 |p::kvs,ks,vs,es,f,r,i,j=>by
  cases r with
  |cons a y=>
   rename_i q z
   cases j with
   |cons b c d=>
    rename_i e A
    cases ks with
    |nil=>unfold lI at f;simp at f
    |cons k ks=>
     unfold lI at f;rw[bB,bB] at f;injection f with o s
     let(B,C):=MS (kvs:=kvs) (ks:=ks) s y (λe l=>i e (au _ l)) d;let D:q.1=aA k:=a.1.symm.trans o;rw[D] at b;let(t,v):=qt (show oe k e.key=ae from b);let hn:St.nm e.key=k:=by rw[v];rfl
     let(x,u,E):=i e (aD ..);let H:x=aA k:=(dF P w).inj e.key x (aA k) u b;subst H;exact(by rw[bB,hn,B],λI he'=>?_);rcases az.mp he' with rfl|he'
     ·exact(t,by rw[hn];exact v,by rw[hn];exact E)
     ·exact C I he'
def P4 {P:aO}{w:World}{kvs:List (ef×V)}{ks:List Int}{vs:List (ef×ag)}{es:Array ji}(a:lI kvs ks)(r:KV kvs vs)(h1:KeysOf (dF P w) es)(b:Pairs (dF P w) es.toList vs):St.KD es ks:=
 MS a r (λe c=>h1 e (jr.mp c)) b
def Av:o5 X (.type "set") (λxs H Q=>∃d kvs ks,xs=[.ref d]/\H d=aa (.dK kvs)/\lI kvs ks/\ks.length+1<fB/\∀p L,H p=ac->(∀x,x∈L↔x∈ks)->L.length<=ks.length->Q (.ref p) (bD H p (Bz X.prog X.w p L))):=by
 intro c s σ H xs M Q I e h;let(d,kvs,ks,rfl,f,i,a,q):=h
 cases e with
 |cons j l=>
  cases l;cases j;let(N,o,O,r,T,u,v,y,z,b,A,B,Y):=I.hok d _ f;exact St.KA y z.1 b (P4 i r A B) o a λh' tk L C D E J=>?_
  exact WJ (.ref _) _ (I.laid (t':=tk) J (aH _) (FV C)) rfl (q _ L (I.hok.fresh (aH _)) D E)
def Je:tV X (mJ .BitOr) (λx y H Q=>∃a b d e,x=.ref a/\y=.ref b/\H a=aa (Bz X.prog X.w a d)/\H b=aa (Bz X.prog X.w b e)/\a≠b/\d.length+e.length+1<fB/\
  ∀p L,H p=ac->(∀x,x∈L↔x∈d\/x∈e)->Q (.ref p) (bD H p (Bz X.prog X.w p L))):=by
 intro i s σ H x y v u Q I j l h;let(a,b,d,e,rfl,rfl,o,r,f,c,q):=h;cases j;cases l;let(z,_):=I.hok a _ o;let(A,_):=I.hok b _ r;exact St.Sd z A f c λD L k B C E=>?_
 exact WJ (.ref _) _ (I.laid (t':=s.toks) k (aH _) (FV B)) rfl (q _ L (I.hok.fresh (aH _)) C)
def EM {L ns:List Int}(h:ns.Perm L)(hn:L.Nodup)(a:ns.Pairwise (·<=·)):ns.Pairwise (· < ·):=by
 let b:ns.Nodup:=h.nodup_iff.mpr hn;exact(fP.and a b).imp λh=>by have:=h.1;have:=h.2;omega
def BA:o5 X (.builtin "sorted") (λxs H Q=>∃a L,xs=[.ref a]/\H a=aa (Bz X.prog X.w a L)/\X.A.handled=ac/\∀(p:Addr) (ns:List Int),H p=ac->(∀x,x∈ns↔x∈L)->ns.Pairwise (· < ·)->Q (.ref p) (bD H p (.lst (ns.map V.int)))):=by
 intro i s σ H xs J Q I l h;let(a,L,rfl,r,u,q):=h
 cases l with
 |cons v y=>
  cases y;cases v;let(b,_):=I.hok a _ r;let j:=b.len;let hN:L.Nodup:=let ⟨_,_,_,_,_,_,_,_,_,hN,_⟩:=b;hN;exact St.Od u b λM tk D c ns e k z B C d E=>?_
  let f:ns.length=L.length:=d.length_eq;exact WJ (.ref D) _ (I.laid (t':=tk) (o:=.lst (ns.map V.int)) k z ⟨?_,c,e,wR C,B⟩) rfl (q D ns (I.hok.fresh z) (λx=>d.mem_iff) (EM d hN E));rw[aj,f,nI];have:fB=4096:=rfl;omega
end
end L2
namespace St
open PySem
variable {j mask:Nat} {es:Array (Int×ag)} {hashAt:Nat->Int} {b:Addr} {Q:Bool->aw->Prop} {h':Heap}
def Jf (mask:Nat)(p:bT):bT:=if p.more>0 then{p with j:=p.j+1,more:=p.more-1} else{p with j:=(cV mask p.i p.perturb).1,more:=eK mask (cV mask p.i p.perturb).1-(cV mask p.i p.perturb).1,i:=(cV mask p.i p.perturb).1,perturb:=(cV mask p.i p.perturb).2}
def Oe (t:ah)(p:bT):t.advance p=Jf t.mask p:=rfl
def ou (mask:Nat):Nat->bT->bT
 |0,p=>p
 |n+1,p=>ou mask n (Jf mask p)
theorem y3 (mask:Nat):∀(n:Nat) (p:bT),ou mask (n+1) p=Jf mask (ou mask n p)
 |0,_=>rfl
 |n+1,p=>y3 mask n (Jf mask p)
theorem yr (mask:Nat):∀(a b:Nat) (p:bT),ou mask (a+b) p=ou mask b (ou mask a p)
 |0,b,p=>by rw[nz];rfl
 |a+1,b,p=>by rw[Nat.add_right_comm];exact yr mask a b (Jf mask p)
def Aw (mask:Nat)(p:bT):(Jf mask p).dummy=p.dummy:=by unfold Jf;split<;>rfl
theorem wS (mask:Nat):∀(n:Nat) (p:bT),(ou mask n p).dummy=p.dummy
 |0,_=>rfl
 |n+1,p=>(wS mask n _).trans (Aw mask p)
def EN (mask:Nat)(h:Int):bT:={j:=dv h%(mask+1),more:=eK mask (dv h%(mask+1))-dv h%(mask+1),i:=dv h%(mask+1),perturb:=dv h,dummy:=ac}
def Jg {a:Array Nat}(h:uN a){i:Nat}(e:a[i]?=aa j):aV a j=i:=by
 let(b,l):=gU.mp e;let(o,d,f):=m6 h j;rcases Nat.lt_trichotomy (aV a j) i with c|c|c
 ·let p:=f (aV a j) ⋯ (aH _);let q:=yD h c b;omega
 ·exact c
 ·have:=d i b c;omega
def BB {t:ah}(h:lB t){i:Nat}(e:t.place[i]?=aa j):t.slot j=.live i:=by
 unfold pZ;simp only;rw[Jg h.ris e,jN (by rw[e];exact beq_self_eq_true _)]
def Ax {t:ah}{i:Nat}(e:t.slot j=.live i):t.place[i]?=aa j:=by
 unfold pZ at e;simp only at e;split at e
 ·rename_i c;cases e;exact eq_of_beq c
 ·split at e<;>cases e
def C6 {t:ah}(h:lB t):t.slot j≠.empty↔j∈t.place.toList:=by
 constructor
 ·intro q
  cases e:t.slot j with
  |empty=>exact aB e q
  |dummy=>exact aB e (oC h j)
  |live i=>
   have:=Ax e;let(a,b):=gU.mp this;exact jr.mpr (b▸Array.getElem_mem a)
 ·intro q;let(i,a,e):=Ea.mp (jr.mp q);rw[BB h (i:=i) (by rw[cA a,e])];intro z;cases z
theorem Jh {t:ah}(hT:lB t){hashAt:Nat->Int}{h:Int}:∀(N F:Nat) (p:bT),p.dummy=ac->(∀m,m<N->t.slot (ou t.mask m p).j≠.empty)->t.slot (ou t.mask N p).j=.empty->N<F->
  (bV t hashAt h F p=aa (.empty (ou t.mask N p).j ac)/\∀m,m<N->∀i,t.slot (ou t.mask m p).j=.live i->hashAt i≠h)\/
  ∃m i,m<N/\t.slot (ou t.mask m p).j=.live i/\hashAt i=h/\bV t hashAt h F p=aa (.candidate (ou t.mask m p).j i (ou t.mask (m+1) p))/\∀d,d<m->∀i,t.slot (ou t.mask d p).j=.live i->hashAt i≠h
 |0,F,p,f,_,l,u=>by
  obtain⟨F,rfl⟩:∃o,F=o+1:=⟨F-1,⋯⟩;exact .inl ⟨?_,λm q=>⋯⟩;unfold bV;rw[show t.slot p.j=.empty from l,<-f];rfl
 |N+1,F,p,f,hn,l,u=>by
  obtain⟨F,rfl⟩:∃o,F=o+1:=⟨F-1,⋯⟩;let v:t.slot p.j≠.empty:=hn 0 ⋯
  cases e:t.slot p.j with
  |empty=>exact aB e v
  |dummy=>exact aB e (oC hT p.j)
  |live i=>
   by_cases c:hashAt i=h
   ·exact .inr (WN 0 i ⋯ e c ⟨?_,λm q=>⋯⟩);unfold bV;rw[e];simp only;rw[jN (by rw[c];exact beq_self_eq_true _)];rfl
   ·let w:bV t hashAt h (F+1) p=bV t hashAt h F (Jf t.mask p):=by
     conv=>lhs;unfold bV
     rw[e];simp only;rw[iQ (by rw[beq_iff_eq];exact c),Oe]
    rw[w];rcases Jh hT (hashAt:=hashAt) (h:=h) N F (Jf t.mask p) ((Aw _ _).trans f) (λm q=>hn (m+1) ⋯) l ⋯ with⟨s,r⟩|⟨m,x,s,r,y,z,A⟩
    ·exact .inl ⟨s,λm q a b=>?_⟩
     cases m with
     |zero=>rw[show t.slot (ou t.mask 0 p).j=.live i from e] at b;cases b;exact c
     |succ m=>exact r m ⋯ a b
    ·exact .inr (WN (m+1) x ⋯ r y ⟨z,λd B a b=>?_⟩)
     cases d with
     |zero=>rw[show t.slot (ou t.mask 0 p).j=.live i from e] at b;cases b;exact c
     |succ d=>exact A d ⋯ a b
theorem Ji {t:ah}(hT:lB t){hh:Int}:∀(F:Nat) (p:bT),yI (bV t (λ_=>hh+1) hh F p)->∃N,N<F/\(∀m,m<N->t.slot (ou t.mask m p).j≠.empty)/\t.slot (ou t.mask N p).j=.empty
 |0,p,h=>by
  let(j,d,e):=h;cases e
 |F+1,p,h=>by
  by_cases c:t.slot p.j=.empty
  ·exact(0,⋯,λm a=>⋯,c)
  ·rw[Ba hT c] at h;let(N,i,b,f):=Ji hT F (t.advance p) h;exact(N+1,⋯,λm a=>?_,f)
   cases m with
   |zero=>exact c
   |succ m=>exact b m ⋯
def G9 {t:ah}(g:rV t)(h:Int):∃N,N<10*gg t.mask/\(∀m,m<N->t.slot (ou t.mask m (EN t.mask h)).j≠.empty)/\t.slot (ou t.mask N (EN t.mask h)).j=.empty:=by
 let(e,c):=g.pow;let l:=g.room;let o:=g.big;let(j,b,a):=uz g.ok c ⋯ h;exact Ji (hh:=h) g.ok _ _ ?_;unfold vk at a;split at a
 ·rename_i f d i;exact(f,d,i)
 ·cases a
def Of (mask:Nat)(pl:List Nat)(h:Int)(j:Nat):Prop:=∃n,(ou mask n (EN mask h)).j=j/\∀m,m<n->(ou mask m (EN mask h)).j∈pl
def Of.mono {pl a:List Nat}{h:Int}(r:Of mask pl h j)(s:∀x∈pl,x∈a):Of mask a h j:=let ⟨n,e,k⟩:=r;⟨n,e,λm b=>s _ (k m b)⟩
def uX (mask:Nat)(pl:List Nat)(es:List (Int×ag)):Prop:=∀(i j:Nat) (e:Int×ag),pl[i]?=aa j->es[i]?=aa e->Of mask pl e.1 j
def vM {α:Type}{l:List α}{p:Nat}(a:p<=l.length)(x:α)(i:Nat):(l.take p++x::l.drop p)[i]?=if i<p then l[i]? else if i=p then aa x else l[i-1]?:=by
 rw[List.getElem?_append,cO,Nat.min_eq_left a];by_cases c:i<p
 ·rw[jN c,jN c,List.getElem?_take,jN c]
 ·rw[iQ c,iQ c];by_cases d:i=p
  ·rw[jN d,d,tS];rfl
  ·rw[iQ d,show i-p=(i-1-p)+1 by omega,mB,List.getElem?_drop];congr 1;omega
def uX.put {pl:List Nat}{es:List (Int×ag)}(h:uX mask pl es){p:Nat}{e:Int×ag}(u:p<=pl.length)(v:pl.length=es.length)(r:Of mask pl e.1 j):uX mask (pl.take p++j::pl.drop p) (es.take p++e::es.drop p):=by
 let f:∀x∈pl,x∈pl.take p++j::pl.drop p:=λx l=>by
  rw[<-i8 p pl] at l;rcases cF.mp l with q|q
  ·exact ll _ q
  ·exact bt _ (au _ q)
 intro i o s a b;rw[vM u] at a;rw[vM ⋯] at b;by_cases c:i<p
 ·rw[jN c] at a b;exact(h i o s a b).mono f
 ·rw[iQ c] at a b;by_cases d:i=p
  ·rw[jN d] at a b;cases a;cases b;exact r.mono f
  ·rw[iQ d] at a b;exact(h _ o s a b).mono f
theorem vW (mask:Nat)(p:bT):∀k,k<=p.more->ou mask k p={p with j:=p.j+k,more:=p.more-k}
 |0,_=>rfl
 |k+1,h=>by
  rw[y3,vW mask p k ⋯];unfold Jf;rw[jN (by show p.more-k>0;omega)];simp only[bT.mk.injEq,and_self,and_true];omega
def xw {o:Array (Option Nat)}{x:Nat}(a:x<o.size)(h:¬(o.getD x (aa 0)).isNone=ae):(o.getD x ac).isSome=ae:=by
 rw[jT a] at h⊢
 cases e:o[x] with
 |none=>rw[e] at h;exact aB rfl h
 |some _=>rfl
theorem C7 {mask:Nat}{owner:Array (Option Nat)}(B:owner.size=mask+1):∀(fuel i q j:Nat) (p:bT),i<=mask->cC mask owner fuel i q=aa j->p.i=i->p.j=i->p.more=eK mask i-i->p.perturb=q->
  ∃n,(ou mask n p).j=j/\∀m,m<n->(owner.getD (ou mask m p).j ac).isSome=ae
 |0,_,_,_,_,_,h,_,_,_,_=>by cases h
 |fuel+1,i,q,j,p,C,h,D,v,L,E=>by
  rw[vB] at h;let H:=Ac C;let I:=Ab mask i;split at h
  ·rename_i k e;cases h;let(M,s,bs,a,f):=List.find?_eq_some_iff_append.mp e;let o:=eR e;rw[fM] at o;exact(k,by rw[vW mask p k ⋯];show p.j+k=i+k;rw[v],λm w=>?_);rw[vW mask p m ⋯];show(owner.getD (p.j+m) ac).isSome=ae;rw[v];exact xw ⋯ ?_;let y:s.length=k:=by
    let b:=congrArg (λl=>l[s.length]?) a;simp only[qd (aH _),tS,jR] at b;let(_,A):=bf.mp b;rw[List.getElem_range] at A;exact A
   let x:m∈s:=by
    let b:(bH (eK mask i+1-i))[m]?=(s++k::bs)[m]?:=by rw[<-a]
    rw[HK ⋯,qu ⋯] at b;exact bj b.symm
   intro z;have:=f m x;rw[z] at this;cases this
  ·rename_i e;rw[pV] at e;let r:∀m,m<=p.more->(owner.getD (ou mask m p).j ac).isSome=ae:=λm w=>by
    rw[vW mask p m w];show(owner.getD (p.j+m) ac).isSome=ae;rw[v];exact xw ⋯ (e m (fM.mpr ⋯))
   let u:ou mask (p.more+1) p={p with j:=(cV mask i q).1,more:=eK mask (cV mask i q).1-(cV mask i q).1,i:=(cV mask i q).1,perturb:=(cV mask i q).2}:=by
    rw[y3,vW mask p p.more (aH _)];unfold Jf;rw[iQ (by show¬p.more-p.more>0;omega)];simp only[D,E]
   let(n,b,J):=C7 B fuel _ _ j (ou mask (p.more+1) p) (gi (iN _ (jE _))) h (by rw[u];rfl) (by rw[u];rfl) (by rw[u];rfl) (by rw[u]);exact(p.more+1+n,by rw[yr];exact b,λm w=>?_);by_cases c:m<=p.more
   ·exact r m c
   ·obtain⟨d,rfl⟩:∃d,m=p.more+1+d:=⟨m-(p.more+1),⋯⟩;rw[yr];exact J d ⋯
def FW (mask:Nat)(a:List Int)(owner:Array (Option Nat)):Prop:=∀j k,owner.getD j ac=aa k->∃h,a[k]?=aa h/\∃n,(ou mask n (EN mask h)).j=j/\∀m,m<n->(owner.getD (ou mask m (EN mask h)).j ac).isSome=ae
theorem C8 (mask:Nat):∀a:List Int,a.foldl (oA mask) ac=ac
 |[]=>rfl
 |_::a=>C8 mask a
def C9 {o:Array (Option Nat)}{k x:Nat}(b:j<o.size):(o.setIfInBounds j (aa k)).getD x ac=if x=j then aa k else o.getD x ac:=by
 by_cases a:x<o.size
 ·rw[jT (by rw[gn];exact a),jT a,Array.getElem_setIfInBounds];by_cases c:x=j
  ·rw[jN c,jN c.symm]
  ·rw[iQ c,iQ (λz=>c z.symm)]
 ·let c:x≠j:=⋯
  rw[iQ c];unfold rZ;rw[dif_neg (by rw[gn];exact a),dif_neg a]
theorem FX {mask:Nat}:∀(d done:List Int) (owner o':Array (Option Nat)) (k f:Nat),owner.size=mask+1->done.length=k->FW mask done owner->d.foldl (oA mask) (aa (owner,k))=aa (o',f)->FW mask (done++d) o'/\o'.size=mask+1
 |[],done,owner,o',k,f,o,q,r,h=>by
  cases h;rw[dM];exact(r,o)
 |x::d,done,owner,o',k,f,o,q,r,h=>by
  rw[eX] at h;let s:oA mask (aa (owner,k)) x=(cC mask owner (gg mask) (dv x%(mask+1)) (dv x)).bind λj=>aa (owner.setIfInBounds j (aa k),k+1):=rfl
  rw[s] at h
  cases e:cC mask owner (gg mask) (dv x%(mask+1)) (dv x) with
  |none=>
   rw[e] at h;let h:d.foldl (oA mask) ac=aa (o',f):=h;rw[C8] at h;cases h
  |some j=>
   rw[e] at h;let z:dv x%(mask+1)<=mask:=gi (iN _ (jE _));let(J,u):=uM z e;let i:=C7 o _ _ _ _ (EN mask x) z e rfl rfl rfl rfl;let l:j<owner.size:=⋯
   let a:∀y,(owner.getD y ac).isSome=ae->((owner.setIfInBounds j (aa k)).getD y ac).isSome=ae:=λy C=>by
    rw[C9 l];split
    ·rfl
    ·exact C
   let D:FW mask (done++[x]) (owner.setIfInBounds j (aa k)):=λA E b=>by
    rw[C9 l] at b;by_cases c:A=j
    ·rw[jN c] at b;cases b;let(n,p,v):=i;exact(x,by rw[qd ⋯,q,tS];rfl,n,by rw[c];exact p,λm w=>a _ (v m w))
    ·rw[iQ c] at b;let(y,p,n,v,H):=r A E b;exact(y,?_,n,v,λm w=>a _ (H m w));rw[qu (bf.mp p).1];exact p
   let(B,I):=FX d (done++[x]) (owner.setIfInBounds j (aa k)) o' (k+1) f (by rw[gn];exact o) (by rw[aQ,q];rfl) D h;rw[g0] at B;exact(B,I)
theorem Jj {α β:Type}{f:α->Option β}:∀{l:List α},(∀x∈l,(f x).isSome=ae)->∀i:Nat,(l.filterMap f)[i]?=l[i]?.bind f
 |[],_,i=>by simp
 |x::l,h,i=>by
  let(y,a):=bF.mp (h x (aD ..));rw[hX,a]
  cases i with
  |zero=>simp[a]
  |succ i=>simpa using Jj (λz b=>h z (au _ b)) i
def Jk {f moves:Nat}{led plain:Bool}{t:ah}{eD:Array Nat}(e:pY mask f moves led plain (es.map (·.1))=aa (t,eD)):uX t.mask t.place.toList (eD.filterMap (es[·]?)).toList:=by
 unfold pY at e
 cases q:cR mask (es.map (·.1)) with
 |none=>rw[q] at e;cases e
 |some r=>
  rw[q] at e;let B:=a6 e;let C:=congrArg xI B;let D:=congrArg qa B;simp only at C D;subst C;subst D;let s:FW mask (es.map (·.1)).toList r/\r.size=mask+1:=by
   let q:pB (·.1) ((es.map (·.1)).foldl (oA mask) (aa (lQ (mask+1) ac,0)))=aa r:=q;rw[<-Array.foldl_toList] at q;let((T,E),H,I):=eP.mp q;cases I;exact FX _ [] _ _ 0 E (by simp) rfl (λj k h=>?_) H;unfold rZ at h;split at h
   ·simp at h
   ·cases h
  let(z,J):=s;generalize b:((bH (mask+1)).filterMap λj=>(r.getD j ac).map (j,·))=a;let L:∀x∈a,r.getD x.1 ac=aa x.2:=λx l=>by
   rw[<-b] at l;let(j,_,M):=fL.mp l;let(k,o,rfl):=eP.mp M;exact o
  let A:∀y,(r.getD y ac).isSome=ae->y∈a.map (·.1):=λy N=>by
   let(k,o):=bF.mp N;exact aM.mpr ⟨(y,k),?_,rfl⟩;rw[<-b];exact fL.mpr ⟨y,fM.mpr ?_,by rw[o];rfl⟩;by_cases c:y<r.size
   ·omega
   ·unfold rZ at o;rw[dif_neg c] at o;cases o
  let u:∀x∈a,∃e,es[x.2]?=aa e/\Of mask (a.map (·.1)) e.1 x.1:=λx l=>by
   let(h,p,n,d,v):=z x.1 x.2 (L x l);rw[Array.toList_map,bZ] at p;let(e,w,rfl):=eP.mp p;rw[ci] at w;exact(e,w,n,d,λm O=>A _ (v m O))
  intro i j e p d;let p:((a.map (·.1)).toArray.toList)[i]?=aa j:=p;let d:(((a.map (·.2)).toArray.filterMap (es[·]?)).toList)[i]?=aa e:=d;show Of mask ((a.map (·.1)).toArray.toList) e.1 j;rw[iU] at p⊢;rw[DR,iU,Jj (λk o=>?_)] at d
  ·rw[bZ] at p d;let(x,l,rfl):=eP.mp p;rw[l] at d;let(Q,v,w):=u x (bj l);let d:es[x.2]?=aa e:=d;rw[v] at d;cases d;exact w
  ·let(x,l,rfl):=aM.mp o;let(Q,v,_):=u x l;rw[v];rfl
section
variable {prog:aO} {w:World} {A:b0} {E:ag->aw->Prop} {s:aw}
def Ha (prog:aO)(w:World)(h:Heap)(e:Int×ag)(k:List Int):Prop:=∃b,e.2=.ref b/\gz (intKind prog w) h k b/\e.1=ja (intKind prog w) k
def Db {t:ah}{h:Int}{p:bT}{a:Option ah.Met}(b:t.probe hashAt h p=a)(hT:lB t){N:Nat}(d:p.dummy=ac)(h1:∀m,m<N->t.slot (ou t.mask m p).j≠.empty)(e:t.slot (ou t.mask N p).j=.empty)(f:N<10*gg t.mask):
  (a=aa (.empty (ou t.mask N p).j ac)/\∀m,m<N->∀i,t.slot (ou t.mask m p).j=.live i->hashAt i≠h)\/
  ∃m i,m<N/\t.slot (ou t.mask m p).j=.live i/\hashAt i=h/\a=aa (.candidate (ou t.mask m p).j i (ou t.mask (m+1) p))/\∀c,c<m->∀i,t.slot (ou t.mask c p).j=.live i->hashAt i≠h:=by
 subst b;exact Jh hT N _ p d h1 e f
def Jl {t:ah}{h:Int}{p:bT}(no:∀a,t.probe hashAt h p=aa a->False)(hT:lB t){N:Nat}(c:p.dummy=ac)(h1:∀m,m<N->t.slot (ou t.mask m p).j≠.empty)(d:t.slot (ou t.mask N p).j=.empty)(e:N<10*gg t.mask):False:=by
 rcases Db (hashAt:=hashAt) (h:=h) rfl hT c h1 d e with⟨b,_⟩|⟨m,i,_,_,_,b,_⟩
 ·exact no _ b
 ·exact no _ b
theorem ub {α β:Type}{F:α->β->Prop}:∀{l:List α} {r:List β} {i:Nat} {a:α},a9 F l r->l[i]?=aa a->∃b,r[i]?=aa b/\F a b
 |_,_,_,_,.nil,e=>by simp at e
 |_,_,0,_,.cons h _,e=>by simp at e;subst e;exact(_,rfl,h)
 |_,_,i+1,_,.cons _ t,e=>by
  let(b,c,d):=ub (i:=i) t (by simpa using e)
  exact(b,by simpa using c,d)
theorem _root_.PySem.Paired.of_at {α β:Type}{F:α->β->Prop}:∀{l:List α} {r:List β} {i:Nat} {b:β},a9 F l r->r[i]?=aa b->∃a,l[i]?=aa a/\F a b
 |_,_,_,_,.nil,e=>by simp at e
 |_,_,0,_,.cons h _,e=>by simp at e;subst e;exact(_,rfl,h)
 |_,_,i+1,_,.cons _ t,e=>by
  let(b,c,d):=PySem.Paired.of_at (i:=i) t (by simpa using e)
  exact(b,by simpa using c,d)
def Dc {k:List Int}(l:gz (intKind prog w) s.heap k b)(h:Q af s):a8 (bd prog w) A (z3 8 (.ref b)) Q E s:=by
 let hT:=l.typeIs;let(o,d,n,p,_,q,x):=l;unfold z3;exact ai (zV hT ?_);dsimp only;rw[jN (beq_self_eq_true _)];exact ai (aG ?_);rw[iQ (by decide)];exact ai (wpAny_seqItems p q ?_);dsimp only;exact ai ?_;rw[<-lX];exact B3 _ (λrest r f=>r.1=ac/\f=s/\∀v∈rest,carriedByValue v=ae) _ ?_ ?_ _ _ ⟨rfl,rfl,x.byValue⟩
 ·intro v rest r f x';let(i,rfl,c):=x';let y:=c v aD;let e:z3 7 v=pure af:=by
   cases v with
   |ref a=>cases y
   |_=>rfl
  rw[e];exact ai (aG ?_);rw[iQ ba];exact aG ⟨rfl,rfl,λu j=>c u (au _ j)⟩
 ·intro x' f j';let(z,B):=x';let(i,rfl,_):=j';simp only at i;subst i;exact aG h
def Lo {k:List Int}{ys:List ag}(l:gz (intKind prog w) s.heap k b)(o:∀y∈ys,∃c e,y=.ref c/\gz (intKind prog w) s.heap e c)(h:Q af s):a8 (bd prog w) A (searchCouldBeSeen (.ref b) ys) Q E s:=by
 unfold searchCouldBeSeen;exact ai ?_;exact B3 _ (λrest r f=>r.1=ac/\f=s/\∀y∈rest,∃c e,y=.ref c/\gz (intKind prog w) s.heap e c) _ ?_ ?_ _ _ ⟨rfl,rfl,o⟩
 ·intro v rest r f x';let(i,rfl,d):=x';let(c,e,rfl,hc):=d v aD;let a:∀y∈rest,∃c e,y=bI c/\gz (intKind prog w) f.heap e c:=λu j=>d u (au _ j)
  dsimp only;split
  ·exact aG ⟨rfl,rfl,a⟩
  ·exact ai (KJ l ?_);rw[iQ (by decide)];exact ai (KJ hc ?_);rw[iQ (by decide)];exact ai (Dc l ?_);rw[iQ ba];exact ai (Dc hc ?_);rw[iQ ba];exact aG ⟨rfl,rfl,a⟩
 ·intro x' f j';let(p,q):=x';let(i,rfl,_):=j';simp only at i;subst i;exact aG h
theorem Ay {a:Addr}{o:Obj}{es:Array (Int×ag)}{ep:Nat}{t:ah}{ks:List (List Int)}(ho:s.heap.get? a=aa o)(hd:o.data=.set es ep t)(g:rV t)(p:t.place.size=es.size)(hP:uX t.mask t.place.toList es.toList)
  (J:a9 (Ha prog w s.heap) es.toList ks) {k:List Int} {b:Addr} (hk:gz (intKind prog w) s.heap k b) (hu:A.units<oq) {H:Int} (hH:H=ja (intKind prog w) k)
  {N:Nat} (hN:N<10*gg t.mask) (n1:∀m,m<N->t.slot (ou t.mask m (EN t.mask H)).j≠.empty) (L:t.slot (ou t.mask N (EN t.mask H)).j=.empty) {Q:SetFound->aw->Prop}
  (q1:k∈ks->Q (.there ac) s) (q2:k∉ks->Q (.free (ou t.mask N (EN t.mask H)).j af) s):
  ∀(fuel n:Nat) (d:Option bT),d.getD (t.probeStart H)=ou t.mask n (EN t.mask H)->n<=N->N-n<fuel->(∀m,m<n->∀i,t.slot (ou t.mask m (EN t.mask H)).j=.live i->ks[i]?≠aa k)->
  a8 (bd prog w) A (setSearchFrom a (.ref b) H ae fuel d) Q E s
 |0,n,d,_,_,hf,_=>⋯
 |fuel+1,n,d,ar,hn,hf,hc=>by
  let u:=g.fits p;unfold setSearchFrom;exact ai (dh ho hd u ?_);dsimp only;let as:t.gaveWay=af:=by
   let(e,he):=g.pow;let hb:=g.big;unfold ah.gaveWay
   cases e with
   |zero=>omega
   |succ e=>rw[fW] at he;simp;omega
  rw[as,iQ ba,ar];let f:∀m,ou t.mask m (ou t.mask n (EN t.mask H))=ou t.mask (n+m) (EN t.mask H):=λm=>(yr _ n m _).symm
  let Y:∀i j,t.slot j=.live i->∃e v,es[i]?=aa e/\ks[i]?=aa v/\Ha prog w s.heap e v:=λi j M=>by
   let h1:=Ax M;let hi:i<es.size:=by rw[<-p];exact(gU.mp h1).1
   let(v,h2,h3):=ub J (i:=i) (a:=es[i]) (by rw[ci,cA hi]);exact(es[i],v,cA hi,h2,h3)
  split
  ·rename_i c7 ax;rcases Db ax g.ok (N:=N-n) (by rw[wS];rfl) (λm hm=>by rw[f];exact n1 _ ⋯) (by rw[f,show n+(N-n)=N by omega];exact L) ⋯ with⟨e1,e2⟩|⟨m,i,hm,M,hh,e1,e2⟩
   ·cases e1;dsimp only;exact aG ?_;rw[f,show n+(N-n)=N by omega];exact q2 λb1=>?_
    let(i,hi,ei):=gJ.mp b1;let q:ks[i]?=aa k:=by rw[br hi,ei]
    let hl:=J.length;let(c,f1,_,f2,_,f3):=J.of_at q;let a1:i<t.place.size:=by rw[p,<-aC];exact(bf.mp f1).1
    let(l,r1,r2):=hP i t.place[i] c (by rw[ci,cA a1]) f1;rw[f3,<-hH] at r1 r2;let B:t.slot t.place[i]=.live i:=BB g.ok (cA a1);let h0:l<N:=by
     rcases Fi l N with z|z
     ·exact z
     ·exfalso;rcases Fi N l with z'|z'
      ·exact(C6 g.ok).mpr (r2 N z') L
      ·obtain rfl:l=N:=⋯
       rw[r1,B] at L;cases L
    let cb:n<=l:=by
     rcases Fi l n with z|z
     ·exact aB q (hc l z i (by rw[r1];exact B))
     ·exact z
    exact e2 (l-n) ⋯ i (by rw[f,show n+(l-n)=l by omega,r1];exact B) ?_;show Option.getD (pB _ es[i]?) 0=H;rw[show es[i]?=aa c by rw[<-ci];exact f1,hH,<-f3];rfl
   ·cases e1;dsimp only;rw[f] at M;rw[f,f];let(e,v,g1,g2,b',g3,g4,g5):=Y i _ M;let(eh,ev):=e;dsimp only at g3 g5;subst g3;let ce:n+m<N:=⋯
    let C:∀y∈(Array.filter (λx=>x.1==H) es).toList.map (λx=>x.2),∃c v,y=bI c/\gz (intKind prog w) s.heap v c:=λy hy=>by
     let(x,hx,rfl):=aM.mp hy;let hx:=(Array.mem_filter.mp (jr.mp hx)).1;let(O,b5,ex):=Ea.mp hx;let(k2,_,c,h3,h4,_):=ub J (i:=O) (a:=x) (by rw[ci,cA b5,ex]);exact(c,k2,h3,h4)
    by_cases hl:(!t.led)=ae;rw[jN hl];exact ai (Lo hk C ?_);rw[iQ ba]
    rotate_left
    rw[iQ hl]
    all_goals
     rw[g1];dsimp only;exact ai (eV (wpAny_eqBool_tuple hu g4 hk ?_));exact ai (dh ho hd u ?_);dsimp only;by_cases D:v=k
     ·subst D;rw[decide_eq_true rfl,jN (show(ae&&ae)=ae from rfl)];exact aG (q1 (bj g2))
     ·rw[decide_eq_false D,iQ (show¬(ae&&af)=ae by decide)];let b6:t.sameMemory t.moves t.mask=aa ae:=by unfold ah.sameMemory;rw[jN (beq_self_eq_true _)]
      rw[b6];dsimp only;rw[jN rfl,M];dsimp only;rw[g1];dsimp only;exact ai (wpAny_isSame_ref_self ?_);exact ai (aG ?_);rw[jN rfl];dsimp only;rw[iQ ba];exact Ay ho hd g p hP J hk hu hH hN n1 L q1 q2 fuel (n+m+1) _ rfl ⋯ ⋯ λT cm O r=>?_
      by_cases z:T<n
      ·exact hc T z O r
      ·by_cases z2:T=n+m
       ·subst z2;rw[M] at r;cases r;rw[g2];exact λz=>D (a6 z)
       ·let h7:=e2 (T-n) ⋯ O (by rw[f,show n+(T-n)=T by omega];exact r);intro q;exact h7 ?_;let(c,f1,_,f2,_,f3):=J.of_at q;show Option.getD (pB _ es[O]?) 0=H;rw[show es[O]?=aa c by rw[<-ci];exact f1,hH,<-f3];rfl
  ·rename_i I;exact(Jl I g.ok (N:=N-n) (by rw[wS];rfl) (λm hm=>by rw[f];exact n1 _ ⋯) (by rw[f,show n+(N-n)=N by omega];exact L) ⋯).elim
end
section
variable {prog:aO} {w:World} {A:b0} {E:ag->aw->Prop} {s:aw}
def rc (prog:aO)(w:World)(h:Heap)(a:Addr)(ks:List (List Int)):Prop:=∃o es b t,h.get? a=aa o/\o.ExactSet/\o.data=.set es b t/\a9 (Ha prog w h) es.toList ks/\ks.Nodup/\rV t/\t.place.size=es.size/\t.mask<=8*es.size+7/\uX t.mask t.place.toList es.toList
def Az {h:Heap}{a:Addr}{o:Obj}{k:List Int}{ep:Nat}{t:ah}(i:h.get? a=aa o)(j:o.data=.set es ep t)(l:bO a h h')(x:gz (intKind prog w) h k b):gz (intKind prog w) h' k b:=by
 let(p,c,n,d,hc,e,q):=x;let f:b≠a:=by
  rintro rfl;rw[i] at d;cases d;rw[j] at e;cases e
 exact WT p c n ((l.2 b f).trans d) hc e q
theorem uY {α β:Type}{F G:α->β->Prop}(k:∀a b,F a b->G a b):∀{l:List α} {r:List β},a9 F l r->a9 G l r
 |_,_,.nil=>.nil
 |_,_,.cons h t=>.cons (k _ _ h) (uY k t)
def AA {h:Heap}{a:Addr}{o:Obj}{ep:Nat}{t:ah}(c:h.get? a=aa o)(d:o.data=.set es ep t)(e:bO a h h'){l:List (Int×ag)}{ks:List (List Int)}(p:a9 (Ha prog w h) l ks):a9 (Ha prog w h') l ks:=
 uY (λ_ _ x'=>V12 x' λb f i j=>⟨b,f,Az c d e i,j⟩) p
theorem y4 {α β:Type}{F:α->β->Prop}:∀{l a:List α} {r b:List β},a9 F l r->a9 F a b->a9 F (l++a) (r++b)
 |_,_,_,_,.nil,q=>q
 |_,_,_,_,.cons h t,q=>.cons h (y4 t q)
theorem xy {α β:Type}{F:α->β->Prop}:∀{l:List α} {r:List β} (n:Nat),a9 F l r->a9 F (l.take n) (r.take n)
 |_,_,0,_=>.nil
 |_,_,_+1,.nil=>.nil
 |_,_,n+1,.cons h t=>.cons h (xy n t)
theorem xz {α β:Type}{F:α->β->Prop}:∀{l:List α} {r:List β} (n:Nat),a9 F l r->a9 F (l.drop n) (r.drop n)
 |_,_,0,p=>p
 |_,_,_+1,.nil=>.nil
 |_,_,n+1,.cons _ t=>xz n t
def Dd {α β:Type}{F:α->β->Prop}{l d:List α}(p:l.Perm d):∀{r:List β},a9 F l r->∃a,a9 F d a/\a.Perm r:=by
 induction p with
 |nil=>exact λq=>⟨_,q,.refl _⟩
 |cons x _ e=>
  intro r q
  cases q with
  |cons h t=>
   let(a,b,c):=e t;exact(_,.cons h b,c.cons _)
 |swap x y l=>
  intro r q
  cases q with
  |cons h t=>
   cases t with
   |cons h' f=>exact(_,.cons h' (.cons h f),.swap _ _ _)
 |trans _ _ i j=>
  intro r q;let(v,b,c):=i q;let(o,s,u):=j b;exact(o,s,u.trans c)
def Jm {k:List Int}(q:gz (intKind prog w) s.heap k b)(h:Q ae s):a8 (bd prog w) A (Mn 8 (.ref b)) Q E s:=by
 let hT:=q.typeIs;let(o,a,n,x,_,y,z):=q;unfold Mn;exact ai (DT hT F.slot_tuple_hash.lookup ?_);show a8 _ _ (seqItems? (.ref b) >>= _) _ _ s;exact ai (wpAny_seqItems x y ?_);exact ai ?_;show a8 _ _ (forIn a _ _) _ _ s;rw[<-lX];let d:∀v∈a.toList,∃n t,v=iY n t:=by
  intro v hv;let(i,B,e):=gJ.mp hv;clear h x y hT;generalize a.toList=l at z hv
  induction z with
  |nil=>cases hv
  |cons C _ D=>
   rcases az.mp hv with rfl|hv
   ·let(t,e):=Et.mp C;exact(_,t,e)
   ·exact D hv
 exact B3 _ (λrest r f=>r.1=ac/\f=s/\∀v∈rest,∃n t,v=iY n t) _ ?_ ?_ _ _ ⟨rfl,rfl,d⟩
 ·intro v rest r f x';let(j,rfl,c):=x';let(n,t,rfl):=c v aD;rw[show Mn 7 (iY n t)=pure ae from rfl];exact ai (aG ?_);rw[iQ (by decide)];exact aG ⟨rfl,rfl,λu p=>c u (au _ p)⟩
 ·intro x' f j';let(H,I):=x';let(j,rfl,_):=j';simp only at j;subst j;exact aG h
def P5 {a:Addr}{ks:List (List Int)}{k:List Int}(hS:rc prog w s.heap a ks)(hk:gz (intKind prog w) s.heap k b)(hu:A.units<oq)(hl:ks.length<=1000)(h:∀h' d r,bO a s.heap h'->rc prog w h' a d->(∀x,x∈d↔x∈ks\/x=k)->d.length<=ks.length+1->Q r {s with heap:=h'}):
  a8 (bd prog w) A (zU a (.ref b) (ja (intKind prog w) k)) Q E s:=by
 let(o,es,ep,t,T,hx,H,hK,hN,g,v,hm,hP):=id hS;let hf:=g.fits v;let b':es.size=ks.length:=by rw[<-hK.length,aC]
 let(N,w1,w2,w3):=G9 g (ja (intKind prog w) k);unfold zU setAddHashedIn;exact eV (ai (dh T H hf ?_));dsimp only;rw[show byScan (bI b) es=af from rfl,iQ ba];unfold setSearch;let c6:10*gg t.mask<100000:=by unfold gg;omega
 exact ai (Ay T H g v hP hK hk hu rfl w1 w2 w3 (λax=>?_) (λY=>?_) 100000 0 ac rfl (aR _) ⋯ λm hm=>⋯)
 ·exact aG (h s.heap ks af (oM a s.heap) hS (λx=>⟨.inl,λq=>q.elim id λe=>e▸ax⟩) (oN _))
 ·generalize hj:(ou t.mask N (EN t.mask (ja (intKind prog w) k))).j=j at *;dsimp only;exact ai (dh T H hf ?_);dsimp only;let ay:t.place[aV t.place j]?≠aa j:=λe=>by rw[BB g.ok e] at w3;cases w3
  let I:=Im g.ok ay;let hb:=g.big;let a':=g.room;let b1:=(m6 g.ok.ris j).1;let z:(dJ es (t.put j).2 (ja (intKind prog w) k,bI b)).toList=es.toList.take (aV t.place j)++(ja (intKind prog w) k,bI b)::es.toList.drop (aV t.place j):=sE _ _ _;let a0:(t.put j).1.place.toList=t.place.toList.take (aV t.place j)++j::t.place.toList.drop (aV t.place j):=sE _ _ _;let b2:uX t.mask (t.put j).1.place.toList (dJ es (t.put j).2 (ja (intKind prog w) k,bI b)).toList:=by
   rw[z,a0];exact hP.put (by rw[aC];exact b1) (by rw[aC,aC];exact v) ⟨N,hj,λm hm=>(C6 g.ok).mp (w2 m hm)⟩
  let b3:a9 (Ha prog w s.heap) (dJ es (t.put j).2 (ja (intKind prog w) k,bI b)).toList (ks.take (aV t.place j)++k::ks.drop (aV t.place j)):=by
   rw[z];exact y4 (xy _ hK) (.cons ⟨b,rfl,hk,rfl⟩ (xz _ hK))
  let a1:(ks.take (aV t.place j)++k::ks.drop (aV t.place j)).Perm (k::ks):=by
   exact List.perm_middle.trans (.cons _ ?_);rw[i8]
  let a2:(ks.take (aV t.place j)++k::ks.drop (aV t.place j)).Nodup:=a1.nodup_iff.mpr (bR.mpr ⟨Y,hN⟩);let B:∀h' d,bO a s.heap h'->rc prog w h' a d->d.Perm (ks.take (aV t.place j)++k::ks.drop (aV t.place j))->Q ae {s with heap:=h'}:=λh' d sb S p=>by
   let p:=p.trans a1;exact h h' d ae sb S (λx=>?_) (by rw[p.length_eq];exact aH _);rw[p.mem_iff,az];exact or_comm
  let a3:(dJ es (t.put j).2 (ja (intKind prog w) k,bI b)).size=es.size+1:=by
   rw[<-aC,(me es _ _).length_eq,aC,oK]
  let a4:(t.put j).1.place.size=es.size+1:=by
   show(dJ t.place (aV t.place j) j).size=_;rw[<-aC,(me t.place _ j).length_eq,aC,oK,v]
  rw[show(t.put j).1.plain=ae from g.plain,jN rfl];exact ai (Jm hk ?_);simp only[if_true];let J:(t.put j).1.mask=t.mask:=rfl;let a5:(t.put j).1.plain=ae:=g.plain;generalize (t.put j).1=f at *;generalize dJ es (t.put j).2 (ja (intKind prog w) k,bI b)=c at *;generalize ks.take (aV t.place j)++k::ks.drop (aV t.place j)=b5 at *;let cb:=nI;exact ai (jP T H ?_ ⋯);let i:(s.heap.update a (fz c f)).get? a=aa {o with data:=.set c (ep+1) f}:=by
   have:=dD (fz c f) T (by rw[nJ c f H];rfl);rw[nJ c f H] at this;exact this
  let l:=cX s.heap a (fz c f);let ab:=AA T H l b3;split
  ·let hw:eC (es.size+1)=(es.size+1)*4:=by unfold eC;rw[iQ ⋯]
   rw[hw];exact ai ?_;let(_,cc,cd):=oZ (n:=(es.size+1)*4) ⋯;let(L,eD,e1,hp,g',ch,hs,b6):=sF (t:=f) c (wanted:=(es.size+1)*4) ⋯ ⋯ a5;let al:=Jk (show pY _ _ _ _ _ (c.map (·.1))=aa (L,eD) from e1);let u:=oB (es:=c) hp;let M:(eD.filterMap (c[·]?)).size=c.size:=by rw[<-aC,u.length_eq,aC]
   let(b7,b8,C):=Dd u.symm ab;let O:f.fits c.size=ae:=by
    unfold zy lx;rw[I.dum,a4,a3];simp;omega
   unfold setRelay;exact ai (dh i rfl O ?_);dsimp only;rw[iQ ⋯,e1];exact ai (m:=(do
    let aa (t,eD):=aa (L,eD)|unsupported "internal:set-table-without-room"
    let an:=eD.filterMap (c[·]?)
    if an.size !=c.size then unsupported "internal:set-table-lost-an-element"
    pure (an,t):Sem (Array (Int×ag)×ah))) ?_
   dsimp only;rw[M];simp only[bne_self_eq_false,bE,if_false];exact aG ?_;dsimp only;exact jP i rfl ?_ ⋯;let bb:((s.heap.update a (fz c f)).update a (fz (eD.filterMap (c[·]?)) L)).get? a=aa {o with data:=.set (eD.filterMap (c[·]?)) (ep+1+1) L}:=
    dD (fz (eD.filterMap (c[·]?)) L) i rfl
   let D:=cX (s.heap.update a (fz c f)) a (fz (eD.filterMap (c[·]?)) L);exact aG (B _ b7 (l.trans D) (WK _ _ _ L bb hx rfl (AA i rfl D b8) (C.nodup_iff.mpr a2) ⟨g',by rw[M];exact hs,by rw[M];omega,al⟩) C)
  ·rename_i y;let hr:f.place.size*5<f.mask*3:=by
    unfold ah.tooFull lx at y;rw[I.dum] at y;simp at y;exact y
   exact aG (B _ b5 l (WK _ c _ f i hx rfl ab a2 ⟨⟨I,by rw[J];exact g.pow,by rw[J];exact hb,hr,a5⟩,by rw[a4,a3],⋯,by rw[J];exact b2⟩) (iW _))
end
open PySem PyProof.Rows
section
variable {prog:aO} {w:World} {A:b0} {R:Result->aw->Prop} {I:Addr} {fp wr:List Addr} {G:Array Mg->Array Mg->Prop} {n:Nat} {P:Nat->ag->Prop} {St:Nat->aw->Prop}
def AB {h:Heap}{S:Addr}{ks:List (List Int)}(x:rc prog w h S ks)(kS:∀o,h.get? S=aa o->h'.get? S=aa o)(e:∀b o,h.get? b=aa o->o.cls=.type "tuple"->h'.get? b=aa o):rc prog w h' S ks:=by
 let(o,es,f,t,i,j,l,p,q):=x;exact WI o es f t (kS o i) j l (uY (λ_ _ ⟨b,r,⟨c,a,m,s,d,u⟩,v⟩=>⟨b,r,(WS c a m (e b c s d) d u),v⟩) p) q
theorem Og (W:WalksS prog w A.in1 I fp wr G n P St)(hw:∀i s b o,St i s->b∈wr->s.heap.get? b=aa o->o.cls≠.type "tuple")(S:Addr)(C:S∉fp)(ks:Nat->List Int)(d:Nat->Addr)(D:∀i v,P i v->v=.ref (d i))(B:n<=1000)(hu:A.in1.units<oq):
  ∀(k i:Nat) (s:aw) (L:List (List Int)),n-i=k->i<=n->St i s->(∀j,j<n->gz (intKind prog w) s.heap (ks j) (d j))->rc prog w s.heap S L->(∀x,x∈L↔∃j,j<i/\x=ks j)->L.length<=i->
   (∀s' O,Moved (S::wr) G s s'->rc prog w s'.heap S O->(∀x,x∈O↔∃j,j<n/\x=ks j)->R (.ok (.ret .none)) s')->
   qM (bd prog w) A (.builtin "set.update.loop" ⟨[.ref S,.ref I],[]⟩) R s:=by
 let E:S∉wr:=λh=>C (W.sub _ h)
 let p:∀b∈wr,b∈S::wr:=λb B=>au _ B
 intro k
 induction k with
 |zero=>
  intro i s L hk hi f q Q T hl Y;let a0:i=n:=⋯
  subst a0;exact kY Gv ?_;rw[kJ tU _];show a8 _ A.in1 (Fc (.ref I) >>= _) _ _ s;exact ai (W.done s _ _ f λs' u=>?_);show a8 _ A.in1 (ret kX) _ _ s';exact aG (Y s' L (u.mono p) (AB Q (λo e=>u.heap S o E e) λb o e hc=>u.heap b o (λz=>hw _ s b o f z e hc) e) T)
 |succ k ih=>
  intro i s L hk hi f q Q T hl Y;let l:i<n:=⋯
  exact kY Gv ?_;rw[kJ tU _];show a8 _ A.in1 (Fc (.ref I) >>= _) _ _ s;exact ai (W.item i s _ _ l f λv s' hP H u=>?_);obtain rfl:=D i v hP;let kt:∀b o,s.heap.get? b=aa o->o.cls=.type "tuple"->s'.heap.get? b=aa o:=λb o e hc=>u.heap b o (λz=>hw _ s b o f z e hc) e
  let J:=AB Q (λo e=>u.heap S o E e) kt;let a:∀j,j<n->gz (intKind prog w) s'.heap (ks j) (d j):=λj hj=>let ⟨o,it,m,q1,q2,q3⟩:=q j hj;(WS o it m (kt _ o q1 q2) q2 q3)
  show a8 _ A.in1 (D3 [bI (d i)] (setAdd S (.ref (d i))) >>= _) _ _ s';exact ai (eV ?_);unfold setAdd;exact eV ?_;exact ai (wpAny_pyHash_tuple hu (a i l) ?_);exact P5 (s:={s' with toks:=s'.toks+((ks i).length+1)}) J (a i l) hu ⋯ λh' O r y a2 a3 b6=>?_
  let(oS,_,_,_,a4,_,a5,_):=id J;let ab:∀j,j<n->gz (intKind prog w) h' (ks j) (d j):=λj hj=>Az a4 a5 y (a j hj)
  exact aG ⟨yw tU _,ih (i+1) _ O ⋯ l (W.frame _ s' _ _ H (cT _ _) λb B o e=>?_) ab a2 (λx=>?_) ⋯ λal an M N hx=>?_⟩
  ·rw[y.2 b (λh:b=S=>C (by rw[<-h];exact B))];exact e
  ·rw[a3,T];constructor
   ·rintro(⟨j,h1,h2⟩|h2)
    ·exact(j,⋯,h2)
    ·exact(i,⋯,h2)
   ·intro x';let(j,h1,h2):=x';by_cases c:j=i
    ·exact .inr (c▸h2)
    ·exact .inl ⟨j,⋯,h2⟩
  ·exact Y al an (Moved.trans W.gtrans ((u.mono p).then_heap (cT _ _) λb o B e=>?_) M) N hx;rw[y.2 b (λh:b=S=>B (by rw[h];exact aD))];exact e
end
section
variable {prog:aO} {w:World} {A:b0} {E:ag->aw->Prop} {s:aw}
def Lq (prog:aO)(w:World)(h:Heap):List ag->List (List Int)->Prop:=a9 λv k=>∃b,v=.ref b/\gz (intKind prog w) h k b
theorem Lr {l:Addr}{items:Array ag}{ks:List (List Int)}{Q:ag->aw->Prop}
  (hh:A.handled=ac) (hl:s.heap.IsList l items) (hi:Lq prog w s.heap items.toList ks) (p:items.size<=1000) (hu:A.units+8<oq)
  (h:∀(h':Heap) (tk:Nat) (L:List (List Int)),rc prog w h' s.heap.objs.size L->(∀x,x∈L↔x∈ks)->(∀b o,s.heap.get? b=aa o->h'.get? b=aa o)->Q (.ref s.heap.objs.size) {s with heap:=h',toks:=tk}):
  a8 (bd prog w) A (call (.type "set") [.ref l]) Q E s:=by
 let(c,tl,av):=fG.mro;let O:=fG.made;let ax:=fG.sub;exact vd (DV ?_);show a8 _ _ (callAny (.type "set") _) _ _ _;exact aG ⟨Code.quiet_builtin _ (by decide +kernel),kY F.entry_type_call ?_⟩;rw[b0.under_plain (KI "set" [.ref l] []) rfl];let h1:=fG.notType;let h2:=fG.canCreate;let bk:=F.typeCall_set_1 (.ref l)
 repeat (any_goals (first|assumption|wp_step))
 exact i9 (vV (.ref l) (E:=E) (Q₁:=λB s₁=>B=.ref s.heap.objs.size/\s₁={s with heap:=s.heap.push (gE w)}) ⟨rfl,rfl⟩) λr s₁ T=>?_
 cases r with
 |error e=>exact T
 |ok fl=>
  cases fl with
  |ret B=>
   let(rfl,rfl):=T;let hS:(s.heap.push (gE w)).get? s.heap.objs.size=aa (gE w):=aY _ rfl;let hT:AV {s with heap:=s.heap.push (gE w)} (.ref s.heap.objs.size) "set":=⟨_,hS,rfl⟩
   let bl:=fG.init.lookup;let bm:=fG.init.bind (.ref s.heap.objs.size)
   repeat (any_goals (first|assumption|wp_step))
   exact i9 (Mm (R:=wants (λr s₂=>r=.none/\∃h' tk L,s₂={s with heap:=h',toks:=tk}/\
     rc prog w h' s.heap.objs.size L/\(∀x,x∈L↔x∈ks)/\
     (∀b o,s.heap.get? b=aa o->h'.get? b=aa o)) E) fG.init.plain F.entry_set_init (check_set_init_1 hT ?_)) λr₂ s₂ u=>?_
   ·let d:l<s.heap.objs.size:=let ⟨_,q,_⟩:=hl;aW q;let y:(s.heap.push (gE w)).IsList l items:=hl.push _;let(ol,b',C,nl,D):=id y;let(b5,Y,a0,M):=ol;simp only at C D;subst C;subst D;let b6:=F.sub_list_set;let b7:=F.sub_list_frozenset;let c2:(jF "list"==jF "dict")=af:=by decide
    unfold Builtin.«set.__init__» noKeywords fQ;generalize a1:BX=PI
    wp_walk
    subst a1;exact zZ y ?_;exact ai (wpAny_runValue ?_);let z:(s.heap.push (gE w)).objs.size=s.heap.objs.size+1:=dQ _ _;let a2:A.in1.in1.in1.handled=ac:=by simp[hh]
    let kp:∀b o,s.heap.get? b=aa o->((s.heap.push (gE w)).push {cls:=.type "list_iterator",data:=.fields #[.ref l,.int 0 0]}).get? b=aa o:=λb o e=>aE _ (aE _ e)
    let bb:items.size=ks.length:=by rw[<-hi.length,aC]
    let H:∀i,i<items.size->∃b,items[i]?=aa (.ref b)/\gz (intKind prog w) s.heap (ks.getD i []) b:=λi d=>by
     let(k,f,b,I,q3):=ub hi (i:=i) (a:=items[i]) (by rw[ci,cA d]);exact(b,by rw[cA d,I],?_);rw[bh,f];exact q3
    exact Og (n:=items.size) ((Walks.list a2 (s.heap.push (gE w)).objs.size l (by rw[z];exact bn (ia d)) items).toS) (λi s b o st p e=>?_) s.heap.objs.size ?_ (λi=>ks.getD i []) (λi=>match items[i]? with|some (.ref b)=>b|_=>0) (λi v J=>?_) p ?_
     (items.size-0) 0 _ [] ⋯ (aR _) ⟨⟨_,aY _ rfl,rfl,rfl⟩,y.push _⟩ (λj hj=>?_) ?_ (λx=>?_) (aH _) λs' L N a5 hx=>?_
    ·rw[dP] at p;subst p;let(o',f,I,_):=st.1;rw[f] at e;cases e;rw[I];decide
    ·rw[z];simp only[az,bc,or_false,not_or];exact(bn (lF _),iZ d)
    ·let d:i<items.size:=(gU.mp J).1;let(b,f,_):=H i d;let J:items[i]?=aa v:=J;rw[J] at f;cases f;rw[J]
    ·show A.units+1+1+1<oq;omega
    ·let(b,f,o,it,m,I,q3):=H j hj;dsimp only;rw[f];exact WC o it m ⟨kp b o I,q3⟩
    ·exact WK (gE w) (#[]) 0 _ (aE _ hS) ⟨rfl,rfl,rfl⟩ rfl .nil .nil ⟨qZ _,rfl,(by show 7<=8*0+7;decide),λi j e h1 h2=>?_⟩;simp at h2
    ·simp
    ·let(h',g',d',ab,al):=s';let eg:g'=s.gens:=N.gens;let ed:d'=s.drawn:=N.drawn;let eo:al=s.os:=N.os;subst eg;subst ed;subst eo;show a8 _ _ _ _ _ _;exact aG ?_;show a8 _ _ (ret kX) _ _ _;exact aG ⟨rfl,WT h' ab L rfl a5 (λx=>?_) λb o e=>?_⟩
     ·rw[hx];constructor
      ·intro x';let(j,h1,rfl):=x';rw[bh,br ⋯];exact rL _
      ·intro an;let(j,hj,rfl):=gJ.mp an;exact(j,⋯,by rw[bh,br hj];rfl)
     ·let p:=aW e;exact N.heap b o ?_ (kp b o e);rw[z];simp only[az,bc,or_false,not_or];exact(bn p,bn (ia p))
   ·cases r₂ with
    |error e=>exact u
    |ok ap=>
     cases ap with
     |ret r=>
      let(rfl,h',tk,L,rfl,S1,S2,S4):=u
      repeat (any_goals (first|assumption|wp_step))
      exact h _ _ _ S1 S2 S4
     |_=>exact u.elim
  |_=>exact T.elim
end
end St
namespace L2
open PySem PySem.Spec PyProof.Rows
def Oh (a:Addr)(n:Nat):HO:=.ext λh=>∃o b c t,h.get? a=aa o/\o.ExactSet/\o.data=.set b c t/\b.size=n/\t.fits b.size=ae
section
variable {X:Cx}
def Ls {P:aO}{w:World}{H:Hp}{h:Heap}{b:Addr}{k:List Int}(c:oE P w H h)(e:H b=aa (.tup (k.map V.int))):gz (intKind P w) h k b:=by
 let(i,a,r,o,d,hc,n,f):=c b _ e;exact WT o _ n d hc f ?_;rw[iU];clear c e d hc f i
 induction k generalizing a with
 |nil=>cases r;exact .nil
 |cons x k j=>
  cases r with
  |cons l p=>
   let(t,rfl):=l;exact .cons (St.Et.mpr ⟨t,rfl⟩) (j _ p)
theorem Hb (z:jC 0 X.A):o5 X (.type "set") (λxs H Q=>∃(a:Addr) (d:List Addr) (ks:List (List Int)),xs=[.ref a]/\H a=aa (.lst (d.map V.ref))/\a9 (λb k=>H b=aa (.tup (k.map V.int))) d ks/\d.length<=1000/\
  ∀(p:Addr) (L:List (List Int)),H p=ac->L.Nodup->(∀x,x∈L↔x∈ks)->Q (.ref p) (bD H p (Oh p L.length))):=by
 intro B s σ H xs us Q I J h;let(a,d,ks,rfl,C,M,N,q):=h
 cases J with
 |cons j l=>
  cases l;cases j;let(u,c,n,r,D):=I.hok a _ C;let f:c.length=d.length:=by rw[<-r.length,aj]
  let O:St.Lq X.prog X.w s.heap c ks:=by
   let T:=I.hok;clear C D N q f u
   induction M generalizing c with
   |nil=>cases r;exact .nil
   |cons e _ Y=>
    cases r with
    |cons j l=>
     cases j;exact .cons ⟨_,rfl,Ls T e⟩ (Y _ l)
  exact St.Lr (ks:=ks) (items:=c.toArray) z.hd ⟨_,D,rfl,n,rfl⟩ O (by rw[bi];omega) (by have:=z.un;omega) λh' tk L S1 S2 S3=>?_
  let(o,i,v,t,E,h2,h3,h4,h5,g,y,_):=S1;let u:i.size=L.length:=by rw[<-h4.length,aC]
  exact WJ (.ref _) _ (I.laid (t':=tk) (o:=Oh s.heap.objs.size L.length) S3 (aH _) ⟨(WI o i v t E h2 h3 u (g.fits y)),⟨o,E⟩,λg1 g2 ⟨o,i,v,t,q1,q2⟩ k=>(WD o i v t ⟨k o q1,q2⟩)⟩) rfl (q _ L (I.hok.fresh (aH _)) h5 S2)
def Hc:o5 X (.builtin "len") (λxs H Q=>∃(a:Addr) (n:Nat),xs=[.ref a]/\H a=aa (Oh a n)/\n<=1000/\Q (.int n) H):=by
 intro b s σ H xs u Q I c h;let(a,n,rfl,d,hn,q):=h
 cases c with
 |cons e f=>
  cases f;cases e;let((o,i,v,t,j,l,p,rfl,r),_):=I.hok a _ d;exact PySem.call_len_set j l p r (by have:(1000:Int)<2^63:=(by decide);omega +splitDisjunctions) ?_;exact WJ (.int i.size) H (I.tok _) ⟨_,rfl⟩ q
end
end L2
namespace SA
open PySem PySem.Spec PyProof.Rows L2
def ig (i:Nat):Stmt:=PySem.Challenge.pw_seenareas_s01_answers.main.body.getD i (.Pass ⟨0,0,0,0⟩)
structure Df (K:am)(mg:Str->Option ag)(x:Str)(i:Nat)(ps:List Str)(f:Addr)(fd:gr):Prop where
 F:Li K x x (ig i) f fd
 m:mg x=aa (.ref f)
 b:rG K fd ps []
def GI (mg:Str->Option ag)(x:Str)(i:Int):Prop:=∃t,mg x=aa (.int i t)
structure CF (K:am)(mg:Str->Option ag)(x q:Str)(i:Nat)(C f:Addr)(fd:gr)(ps:List Str):Prop where
 cl:K4 K C
 m:mg x=aa (.ref C)
 ma:Mk K C f
 F:Li K "__init__" q (jX (ig i) 0) f fd
 b:rG K fd ps []
set_option genInjectivity false in
structure Mo (K:am)(mg:Str->Option ag) where
 fn:Nat->Addr
 fd:Nat->gr
 cl:Nat->Addr
 tb:Nat->Addr
 tP:Addr
 cP:Addr
 cN:Addr
 d28:Df K mg "are_places" 28 ["numbers"] (fn 28) (fd 28)
 d29:Df K mg "are_values" 29 ["numbers"] (fn 29) (fd 29)
 d30:Df K mg "is_state" 30 ["numbers"] (fn 30) (fd 30)
 d31:Df K mg "make_thing" 31 wn (fn 31) (fd 31)
 d32:Df K mg "drop_thing" 32 wn (fn 32) (fd 32)
 d33:Df K mg "move_thing" 33 wn (fn 33) (fd 33)
 d34:Df K mg "set_value" 34 wn (fn 34) (fd 34)
 d35:Df K mg "put_wall" 35 wn (fn 35) (fd 35)
 d36:Df K mg "take_wall" 36 wn (fn 36) (fd 36)
 d37:Df K mg "rank_kind" 37 wn (fn 37) (fd 37)
 d38:Df K mg "is_player" 38 ["numbers"] (fn 38) (fd 38)
 d39:Df K mg "join_player" 39 wn (fn 39) (fd 39)
 d40:Df K mg "part_player" 40 wn (fn 40) (fd 40)
 d46:Df K mg "whole_bytes" 46 ["number"] (fn 46) (fd 46)
 d47:Df K mg "value_bytes" 47 ["value"] (fn 47) (fd 47)
 d48:Df K mg "enters_bytes" 48 ["n","thing"] (fn 48) (fd 48)
 d49:Df K mg "changes_bytes" 49 ["n","told","thing"] (fn 49) (fd 49)
 d50:Df K mg "leaves_bytes" 50 ["n"] (fn 50) (fd 50)
 d51:Df K mg "stream_bytes" 51 ["tick","messages"] (fn 51) (fd 51)
 d58:Df K mg "take_byte" 58 ["source"] (fn 58) (fd 58)
 d59:Df K mg "take_whole" 59 ["source"] (fn 59) (fd 59)
 d60:Df K mg "take_value" 60 ["source"] (fn 60) (fd 60)
 d61:Df K mg "take_values" 61 ["source","indexes"] (fn 61) (fd 61)
 d62:Df K mg "take_indexes" 62 ["source"] (fn 62) (fd 62)
 d63:Df K mg "take_message" 63 ["source"] (fn 63) (fd 63)
 d64:Df K mg "read_stream" 64 ["row"] (fn 64) (fd 64)
 d66:Df K mg "are_bytes" 66 ["numbers"] (fn 66) (fd 66)
 d67:Df K mg "is_fitting" 67 ["things","message"] (fn 67) (fd 67)
 d68:Df K mg "hear_message" 68 ["things","message"] (fn 68) (fd 68)
 d69:Df K mg "things_behind" 69 ["mirror","messages"] (fn 69) (fd 69)
 d70:Df K mg "feed_mirror" 70 wn (fn 70) (fd 70)
 d71:Df K mg "clear_mirror" 71 wn (fn 71) (fd 71)
 d74:Df K mg "cross" 74 ["a","b"] (fn 74) (fd 74)
 d75:Df K mg "dot" 75 ["a","b"] (fn 75) (fd 75)
 d76:Df K mg "crossing" 76 ["upper","part","turn"] (fn 76) (fd 76)
 d77:Df K mg "is_on" 77 ["x","y","wall"] (fn 77) (fd 77)
 d78:Df K mg "overlap" 78 ["along","offset","wall_along"] (fn 78) (fd 78)
 d79:Df K mg "meeting" 79 ["line","wall"] (fn 79) (fd 79)
 d80:Df K mg "is_less" 80 ["share","other"] (fn 80) (fd 80)
 d81:Df K mg "first_meeting" 81 ["line","walls"] (fn 81) (fd 81)
 d82:Df K mg "least_terms" 82 ["share"] (fn 82) (fd 82)
 d84:Df K mg "is_within" 84 ["place","other","radius"] (fn 84) (fd 84)
 d85:Df K mg "is_hidden" 85 ["walls","place","other"] (fn 85) (fd 85)
 d86:Df K mg "seen_alone" 86 ["world","player"] (fn 86) (fd 86)
 d87:Df K mg "seen_with_team" 87 ["world","player"] (fn 87) (fd 87)
 d88:Df K mg "look" 88 ["world"] (fn 88) (fd 88)
 d92:Df K mg "with_count" 92 ["things"] (fn 92) (fd 92)
 d93:Df K mg "in_full" 93 ["things"] (fn 93) (fd 93)
 d94:Df K mg "what_is_seen" 94 wn (fn 94) (fd 94)
 d95:Df K mg "what_waits" 95 wn (fn 95) (fd 95)
 d96:Df K mg "what_was_told" 96 wn (fn 96) (fd 96)
 d97:Df K mg "what_is_around" 97 wn (fn 97) (fd 97)
 d98:Df K mg "what_is_met" 98 wn (fn 98) (fd 98)
 d99:Df K mg "what_is_mirrored" 99 wn (fn 99) (fd 99)
 UD:Df K mg "what_is_there" 100 wn (fn 100) (fd 100)
 U6:Df K mg "count_squares" 101 ["things"] (fn 101) (fd 101)
 UE:Df K mg "world_in_brief" 102 wn (fn 102) (fd 102)
 UG:Df K mg "what_is_due" 108 ["player","n"] (fn 108) (fd 108)
 US:Df K mg "due_things" 109 ["player"] (fn 109) (fd 109)
 U7:Df K mg "waiting_since" 110 ["player","tick"] (fn 110) (fd 110)
 U8:Df K mg "kind_for_rank" 111 ["player","n"] (fn 111) (fd 111)
 U9:Df K mg "in_turn" 112 ["player","ranks","since"] (fn 112) (fd 112)
 Va:Df K mg "message_due" 113 ["player","n"] (fn 113) (fd 113)
 Vb:Df K mg "mark_told" 114 ["player","n"] (fn 114) (fd 114)
 Vc:Df K mg "tell_in_turn" 115 ["player","turn"] (fn 115) (fd 115)
 Vd:Df K mg "still_waiting" 116 ["player","since"] (fn 116) (fd 116)
 Ve:Df K mg "tell" 117 ["player","ranks","tick"] (fn 117) (fd 117)
 UH:Df K mg "run_tick" 120 wn (fn 120) (fd 120)
 UI:Df K mg "last_stream" 121 wn (fn 121) (fd 121)
 Vf:Df K mg "perform" 126 ["world","call","numbers"] (fn 126) (fd 126)
 UT:Df K mg "answers" 127 ["calls"] (fn 127) (fd 127)
 k11:CF K mg "Thing" "Thing.__init__" 11 (cl 11) (fn 11) (fd 11) ["self","kind","state"]
 Up:eW K (cl 11) "kind"
 Ul:eW K (cl 11) "state"
 k12:CF K mg "Player" "Player.__init__" 12 (cl 12) (fn 12) (fd 12) ["self","own","team","inner","outer","budget"]
 UU:eW K (cl 12) "own"
 UJ:eW K (cl 12) "team"
 Vg:eW K (cl 12) "inner"
 Vh:eW K (cl 12) "outer"
 Vi:eW K (cl 12) "budget"
 Uy:eW K (cl 12) "alone"
 Ur:eW K (cl 12) "seen"
 Us:eW K (cl 12) "told"
 Uz:eW K (cl 12) "waiting"
 UK:eW K (cl 12) "sent"
 k13:CF K mg "Mirror" "Mirror.__init__" 13 (cl 13) (fn 13) (fd 13) ["self","tick","things"]
 UV:eW K (cl 13) "tick"
 UW:eW K (cl 13) "things"
 k14:CF K mg "World" "World.__init__" 14 (cl 14) (fn 14) (fd 14) ["self"]
 UA:eW K (cl 14) "tick"
 Um:eW K (cl 14) "things"
 Ut:eW K (cl 14) "walls"
 UX:eW K (cl 14) "ranks"
 Uo:eW K (cl 14) "players"
 Uw:eW K (cl 14) "mirror"
 k55:CF K mg "Source" "Source.__init__" 55 (cl 55) (fn 55) (fd 55) ["self","row"]
 UY:eW K (cl 55) "row"
 UC:eW K (cl 55) "at"
 k56:CF K mg "Message" "Message.__init__" 56 (cl 56) (fn 56) (fd 56) ["self","what","n","kind","fresh"]
 UL:eW K (cl 56) "what"
 UZ:eW K (cl 56) "n"
 Vj:eW K (cl 56) "kind"
 UM:eW K (cl 56) "fresh"
 k57:CF K mg "Stream" "Stream.__init__" 57 (cl 57) (fn 57) (fd 57) ["self","tick","messages"]
 U0:eW K (cl 57) "tick"
 U1:eW K (cl 57) "messages"
 Uq:GI mg "MISSING" (-1)
 Uu:GI mg "WRONG" (-2)
 Vk:GI mg "TAKEN" (-3)
 U2:GI mg "FULL" (-4)
 Vt:GI mg "ENDED" (-5)
 Vu:GI mg "UNREADABLE" (-6)
 Vv:GI mg "OVERTAKEN" (-7)
 Vw:GI mg "UNFITTING" (-8)
 U3:GI mg "KINDS" 8
 UN:GI mg "STATE_SIZE" 8
 Vx:GI mg "MOST_THINGS" 64
 Vy:GI mg "MOST_WALLS" 32
 Vz:GI mg "MOST_PLAYERS" 8
 Vl:GI mg "LAST_THING" 9999
 VA:GI mg "LAST_PLAYER" 99
 VB:GI mg "LAST_TEAM" 9
 Vm:GI mg "FARTHEST" 100000
 Vn:GI mg "GREATEST_VALUE" 2147483647
 VC:GI mg "GREATEST_RANK" 100
 VD:GI mg "GREATEST_RADIUS" 10000
 VE:GI mg "LEAST_BUDGET" 64
 VF:GI mg "GREATEST_BUDGET" 4096
 Ux:GI mg "ENTERS" 1
 UO:GI mg "CHANGES" 2
 UB:GI mg "LEAVES" 3
 VG:GI mg "TOO_GREAT" 1099511627776
 VH:GI mg "GREATEST_DISTANCE" 200000
 Vo:GI mg "SQUARE" 64
 U4:GI mg "NOTHING" 0
 VI:GI mg "HEAD_ROOM" 8
 VJ:GI mg "RANKS_A_TICK" 10
 VL:GI mg "LAST_TICK" 100000
 Uk:mg "len"=ac
 UP:mg "all"=ac
 Vp:mg "range"=ac
 Vq:mg "list"=ac
 Vr:mg "dict"=ac
 U5:mg "set"=ac
 Uv:mg "sorted"=ac
 VM:mg "zip"=ac
 Vs:mg "enumerate"=ac
 UQ:mg "min"=ac
 UR:mg "max"=ac
section
variable {X:Cx}
def cS {x:Str}{i:Int}{pos:Pos}(a:GI X.mg x i)(b:Gl X x:=by rfl)(c:(x==("__debug__":Str))=af:=by decide):PE X (.Name x pos) (tC (.int i)):=by
 let(t,a):=a;exact Bh (v:=.int i) b a ⟨t,rfl⟩ c
def dA {k:Nat}{f:Addr}{fd:gr}{x:Str}{i:Nat}{ps:List Str}{sp:Sp}{e:Expr}{es:List Expr}{t:TA}{p pos:Pos}(D:Df X.K X.mg x i ps f fd)(F:du X.prog X.w X.K X.mg X.base jw k f fd ps sp)(d:jC k X.A)(j:PA X (e::es) t)
  (l:Gl X x:=by rfl) (a:(x==("__debug__":Str))=af:=by decide) (o:bp (e::es) X.env=(af,eval e X.env)::bp es X.env:=by rfl) (c:(iO pos (bp es X.env)).any (·.1)=af:=by rfl):
  PE X (.Call (.Name x p) (e::es) [] pos) (FD sp [] E0 t):=FE F d l D.m D.F.kp D.b .nil rH j a o c
variable {o e:Expr} {to te:TE} {apos cpos:Pos}
def wT (f:PE X o to)(i:PE X e te)(a:fY o "append" X.env (eval o X.env)=eval o X.env:=by rfl)
  (c:((iO cpos (bp [e] X.env)).all (λx=> !x.1)&&(uu cpos (nL [] X.env)).all (λx=>x.1.isSome)&&decide (([e]:List Expr).length+([]:List lZ).length+(if([]:List lZ).isEmpty then 0 else 1)<30))=ae:=by rfl)
  (b:(apos.endLine==cpos.line)=ae:=by rfl) (d:bp [e] X.env=(af,eval e X.env)::bp [] X.env:=by rfl):
  PE X (.Call (.Attribute o "append" apos) [e] [] cpos) (PP X.K "list" FI to (vN te Bo)):=FH qP PySem.F.slot_list_append PySem.F.type_list_append GY f (aS i ng d) a c b d rfl
def uZ (f:PE X o to)(i:PE X e te)(a:fY o "extend" X.env (eval o X.env)=eval o X.env:=by rfl)
  (c:((iO cpos (bp [e] X.env)).all (λx=> !x.1)&&(uu cpos (nL [] X.env)).all (λx=>x.1.isSome)&&decide (([e]:List Expr).length+([]:List lZ).length+(if([]:List lZ).isEmpty then 0 else 1)<30))=ae:=by rfl)
  (b:(apos.endLine==cpos.line)=ae:=by rfl) (d:bp [e] X.env=(af,eval e X.env)::bp [] X.env:=by rfl):
  PE X (.Call (.Attribute o "extend" apos) [e] [] cpos) (PP X.K "list" FJ to (vN te Bo)):=FH qP PySem.F.slot_list_extend PySem.F.type_list_extend GZ f (aS i ng d) a c b d rfl
def xA {n:Nat}(h:n<=100000):n<aI:=iA h (by decide)
end
end SA
namespace L2
open PySem PySem.Spec PyProof.Rows
def aU.new {H:Hp}{p:Addr}{o:HO}(h:H p=nS):aU H (bD H p o):=λb u e=>by
 rw[aF (aL e h)];exact e
def aU.old {H a:Hp}{p:Addr}{o:HO}(s:aU H a)(h:H p=nS):aU H (bD a p o):=λb u e=>by
 rw[aF (aL e h)];exact s b u e
def aU.t {H a:Hp}{p:Addr}{o:HO}(s:aU H a)(h:a p=nS):aU H (bD a p o):=s.old (s.free h)
end L2
namespace SA
open PySem PySem.Spec PyProof.Rows L2
variable {c A B:Prop}
abbrev nb (l:List Nat):List V:=l.map λ(b:Nat)=>V.int (b:Int)
abbrev iv (l:List Int):List V:=l.map V.int
def wU (a b:List Nat):nb (a++b)=nb a++nb b:=bU
def re (a b:List Int):iv (a++b)=iv a++iv b:=bU
def y6 (xs:List V)(H:Hp)(Q:VK):Prop:=∀(a:Hp) (p:Addr),aU H a->H p=ac->a p=aa (.lst xs)->Q (.ref p) a
abbrev Rg:=Addr->Prop
def Kp (R:Rg)(H a:Hp):Prop:=∀b o,¬R b->H b=aa o->a b=aa o
variable {R:Rg} {H:Hp}
def Kp.refl:Kp R H H:=λ_ _ _ h=>h
def Kp.trans {d e:Hp}(a:Kp R H d)(b:Kp R d e):Kp R H e:=λc o n h=>b c o n (a c o n h)
variable {H':Hp}
def Kp.of (s:aU H H'):Kp R H H':=λb o _ h=>s b o h
def Kp.put {a:Addr}{o:HO}(k:Kp R H H')(h:R a):Kp R H (bD H' a o):=λb u n e=>by
 rw[aF (show b≠a from λq=>n (by rw[q];exact h))];exact k b u n e
def Kp.new {a:Addr}{o:HO}(k:Kp R H H')(h:H a=ac):Kp R H (bD H' a o):=λb u n e=>by
 rw[aF (aL e h)];exact k b u n e
def Kp.mono {a:Rg}(k:Kp R H H')(h:∀b,R b->a b):Kp a H H':=λb o n e=>k b o (λq=>n (h b q)) e
def fO [Decidable c](h1:c->A)(a:¬c->B):if decide c=ae then A else B:=Lj (λh=>h1 (of_decide_eq_true h)) λh=>a λq=>h (decide_eq_true q)
def vX [Decidable c](h1:¬c->A)(a:c->B):if(!decide c)=ae then A else B:=by
 by_cases h:c
 ·rw[iQ (by simp[h])];exact a h
 ·rw[jN (by simp[h])];exact h1 h
def De [Decidable c](hc:c)(h:A):if decide c=ae then A else B:=fO (λ_=>h) λn=>aB hc n
def AC [Decidable c](hc:¬c)(h:B):if decide c=ae then A else B:=fO (λq=>aB q hc) λ_=>h
def Dg {b:Bool}(h1:b=ae->A)(a:b=af->B):if b=ae then A else B:=by
 cases b with
 |true=>rw[jN rfl];exact h1 rfl
 |false=>rw[iQ (by simp)];exact a rfl
def y9 {b:Bool}(h1:b=af->A)(a:b=ae->B):if(!b)=ae then A else B:=by
 cases b with
 |true=>exact i7 (a rfl)
 |false=>exact jD (h1 rfl)
def tf (k v:V):List (Str×V):=[("kind",k),("state",v)]
def nE (k v:V):(tf k v).lookup ("kind":Str)=aa k:=by
 unfold tf;rw[Fj]
def gN (k v:V):(tf k v).lookup ("state":Str)=aa v:=by
 unfold tf;rw[gK,show(("state":Str)==("kind":Str))=af by decide,Fj]
def EO (C:Addr)(R:Rg)(H:Hp)(a:Addr)(k:Nat)(vs:List Int):Prop:=∃b l,¬R a/\¬R l/\H a=aa (.ins C b (tf (.int k) (.ref l)))/\H l=aa (.lst (iv vs))
def EO.keep {C:Addr}{a:Addr}{k:Nat}{vs:List Int}(t:EO C R H a k vs)(h:Kp R H H'):EO C R H' a k vs:=
 let ⟨d,l,b,c,e,f⟩:=t;(WN d l b c (h _ _ b e) (h _ _ c f))
end SA
namespace L2
open PySem PySem.Spec PyProof.Rows
variable {kvs:List (ef×V)} {w:World}
section
variable {K:am} {a b:Addr} {xs ys:List V} {g:TG} {tb:TS} {D:xW} {σ:St} {H:Hp}
def Lu (Pv:Nat->St->Hp->Prop)(u:Pv 0 σ H)(e:xs.length=ys.length)(v:∀i σ H,Pv i σ H->dL K H a xs/\dL K H b ys)
  (w:∀i x y T σ H,xs[i]?=aa x->ys[i]?=aa y->Pv i σ H->H T=ac->g (.ref T) σ (bD H T (.tup [x,y])) λj l=>tb {D with nx:=Pv (i+1),ct:=Pv (i+1),bk:=D.nx} j l) (A:∀σ H,Pv xs.length σ H->D.nx σ H):
  ∃W:Nat->Nat->St->Hp->Prop,(∃m,W 0 m σ H)/\∀i m σ H,W i m σ H->
   ((P2 K a b).stop i H/\D.nx σ H)\/((P2 K a b).go i H/\∃N:St->Hp->Prop,(∀o c,N o c->∃s,s<m/\W (i+1) s o c)/\∀x c,(P2 K a b).yld i H x c->g x σ c λj l=>tb {D with nx:=N,ct:=N,bk:=D.nx} j l):=by
 exact WL (λi m σ H=>m=xs.length-i/\i<=xs.length/\Pv i σ H) ⟨xs.length,by simp,aR _,u⟩ ?_;intro i m σ H x';let(rfl,L,p):=x';let(q,r):=v i σ H p;by_cases d:i<xs.length
 ·exact .inr ⟨(WP xs ys (xs[i]) (ys[i]) q r (by simp[d]) (by simp)),WL (Pv (i+1)) (λo c B=>⟨xs.length-(i+1),⋯,rfl,d,B⟩) λx c z=>?_⟩;let(T,C,E,rfl,f,rfl,I,J):=z;exact w i C E T σ _ (I xs q) (J ys r) p f
 ·let e:i=xs.length:=⋯
  subst e;exact .inl ⟨⟨xs,ys,q,r,.inl (aH _)⟩,A σ H p⟩
def Jn (Pv:Nat->St->Hp->Prop)(r:Pv 0 σ H)(s:∀i σ H,Pv i σ H->dL K H a xs)
  (u:∀i x T σ H,xs[i]?=aa x->Pv i σ H->H T=ac->g (.ref T) σ (bD H T (.tup [.int (i:Nat),x])) λd j=>tb {D with nx:=Pv (i+1),ct:=Pv (i+1),bk:=D.nx} d j) (v:∀σ H,Pv xs.length σ H->D.nx σ H):
  ∃W:Nat->Nat->St->Hp->Prop,(∃m,W 0 m σ H)/\∀i m σ H,W i m σ H->
   ((MQ K a).stop i H/\D.nx σ H)\/((MQ K a).go i H/\∃N:St->Hp->Prop,(∀l b,N l b->∃q,q<m/\W (i+1) q l b)/\∀x b,(MQ K a).yld i H x b->g x σ b λd j=>tb {D with nx:=N,ct:=N,bk:=D.nx} d j):=by
 exact WL (λi m σ H=>m=xs.length-i/\i<=xs.length/\Pv i σ H) ⟨xs.length,by simp,aR _,r⟩ ?_;intro i m σ H x';let(rfl,B,p):=x';let o:=s i σ H p;by_cases c:i<xs.length
 ·exact .inr ⟨⟨xs,xs[i],o,by simp[c]⟩,WL (Pv (i+1)) (λl b w=>⟨xs.length-(i+1),⋯,rfl,c,w⟩) λx b z=>?_⟩;let(T,y,rfl,f,rfl,A):=z;exact u i y T σ _ (A xs o) p f
 ·let e:i=xs.length:=⋯
  subst e;exact .inl ⟨⟨xs,o,aH _⟩,v σ H p⟩
def za {o:Obj}(Pv:Nat->St->Hp->Prop)(r:Pv 0 σ H)(s:∀i σ H,Pv i σ H->H a=aa (.frz o (.dK kvs)))(u:∀i k x σ H,kvs[i]?=aa (k,x)->Pv i σ H->g x σ H λd f=>tb {D with nx:=Pv (i+1),ct:=Pv (i+1),bk:=D.nx} d f)(v:∀σ H,Pv kvs.length σ H->D.nx σ H):
  ∃W:Nat->Nat->St->Hp->Prop,(∃m,W 0 m σ H)/\∀i m σ H,W i m σ H->
   ((MO a o kvs).stop i H/\D.nx σ H)\/((MO a o kvs).go i H/\∃N:St->Hp->Prop,(∀j b,N j b->∃l,l<m/\W (i+1) l j b)/\∀x b,(MO a o kvs).yld i H x b->g x σ b λd f=>tb {D with nx:=N,ct:=N,bk:=D.nx} d f):=by
 exact WL (λi m σ H=>m=kvs.length-i/\i<=kvs.length/\Pv i σ H) ⟨kvs.length,by simp,aR _,r⟩ ?_;intro i m σ H x';let(rfl,A,p):=x';let q:=s i σ H p;by_cases c:i<kvs.length
 ·exact .inr ⟨⟨q,c⟩,WL (Pv (i+1)) (λj b w=>⟨kvs.length-(i+1),⋯,rfl,c,w⟩) λx b z=>?_⟩;let(rfl,k,y):=z;exact u i k x σ _ y p
 ·let e:i=kvs.length:=⋯
  subst e;exact .inl ⟨⟨q,aH _⟩,v σ H p⟩
def Hd {o:Obj}(Pv:Nat->St->Hp->Prop)(s:Pv 0 σ H)(u:∀i σ H,Pv i σ H->H a=aa (.frz o (.dK kvs)))(w:∀i k x T σ H,kvs[i]?=aa (k,x)->Pv i σ H->H T=ac->g (.ref T) σ (bD H T (.tup [kV k,x])) λd j=>tb {D with nx:=Pv (i+1),ct:=Pv (i+1),bk:=D.nx} d j)(y:∀σ H,Pv kvs.length σ H->D.nx σ H):
  ∃W:Nat->Nat->St->Hp->Prop,(∃m,W 0 m σ H)/\∀i m σ H,W i m σ H->
   ((MP a o kvs).stop i H/\D.nx σ H)\/((MP a o kvs).go i H/\∃N:St->Hp->Prop,(∀l b,N l b->∃q,q<m/\W (i+1) q l b)/\∀x b,(MP a o kvs).yld i H x b->g x σ b λd j=>tb {D with nx:=N,ct:=N,bk:=D.nx} d j):=by
 exact WL (λi m σ H=>m=kvs.length-i/\i<=kvs.length/\Pv i σ H) ⟨kvs.length,by simp,aR _,s⟩ ?_;intro i m σ H x';let(rfl,C,p):=x';let r:=u i σ H p;by_cases c:i<kvs.length
 ·exact .inr ⟨⟨r,c⟩,WL (Pv (i+1)) (λl b A=>⟨kvs.length-(i+1),⋯,rfl,c,A⟩) λx b z=>?_⟩;let(T,k,v,B,rfl,f,rfl):=z;exact w i k v T σ _ B p f
 ·let e:i=kvs.length:=⋯
  subst e;exact .inl ⟨⟨r,aH _⟩,y σ H p⟩
end
section
variable {K:am} {a:Addr} {xs:List V} {g:TG} {tt:TT} {te:TE} {vs:List Nat} {σ:St} {H1:Hp} {D:Addr} {Qd:Hp->Prop} {o:Obj} {kvs:List (ef×V)}
def Lv (Pv:Nat->Hp->Prop)(v:Pv 0 (bD H1 D (.lst [])))(w:∀i H,Pv i H->dL K H a xs)
  (z:∀i x T H,xs[i]?=aa x->Pv i H->H T=ac->g (.ref T) (hU σ vs) (bD H T (.tup [.int (i:Nat),x])) λc r=>hU c vs=hU σ vs/\tt c r λb j=>
   if b=ae then te c j λy l=>∃acc,l D=aa (.lst acc)/\acc.length<aI/\Pv (i+1) (bD l D (.lst (acc++[y]))) else Pv (i+1) j) (A:∀H,Pv xs.length H->Qd H):
  ∃W:Nat->Nat->Hp->Prop,(∃m,W 0 m (bD H1 D (.lst [])))/\∀i m H,W i m H->
   ((MQ K a).stop i H/\Qd H)\/((MQ K a).go i H/\∃s:Hp->Prop,(∀d,s d->∃u,u<m/\W (i+1) u d)/\∀x d,(MQ K a).yld i H x d->g x (hU σ vs) d λc r=>hU c vs=hU σ vs/\tt c r λb j=>
     if b=ae then te c j λy l=>∃acc,l D=aa (.lst acc)/\acc.length<aI/\s (bD l D (.lst (acc++[y]))) else s j):=by
 exact WL (λi m H=>m=xs.length-i/\i<=xs.length/\Pv i H) ⟨xs.length,by simp,aR _,v⟩ ?_;intro i m H x';let(rfl,I,p):=x';let q:=w i H p;by_cases o:i<xs.length
 ·exact .inr ⟨⟨xs,xs[i],q,by simp[o]⟩,WL (Pv (i+1)) (λd B=>⟨xs.length-(i+1),⋯,rfl,o,B⟩) λx d y=>?_⟩;let(T,C,rfl,f,rfl,E):=y;exact z i C T _ (E xs q) p f
 ·let e:i=xs.length:=⋯
  subst e;exact .inl ⟨⟨xs,q,aH _⟩,A H p⟩
def Lw (Pv:Nat->Hp->Prop)(v:Pv 0 (bD H1 D (.lst [])))(w:∀i H,Pv i H->H a=aa (.frz o (.dK kvs)))
  (z:∀i k x H,kvs[i]?=aa (k,x)->Pv i H->g x (hU σ vs) H λc r=>hU c vs=hU σ vs/\tt c r λb f=>
   if b=ae then te c f λy j=>∃acc,j D=aa (.lst acc)/\acc.length<aI/\Pv (i+1) (bD j D (.lst (acc++[y]))) else Pv (i+1) f) (A:∀H,Pv kvs.length H->Qd H):
  ∃W:Nat->Nat->Hp->Prop,(∃m,W 0 m (bD H1 D (.lst [])))/\∀i m H,W i m H->
   ((MO a o kvs).stop i H/\Qd H)\/((MO a o kvs).go i H/\∃s:Hp->Prop,(∀d,s d->∃u,u<m/\W (i+1) u d)/\∀x d,(MO a o kvs).yld i H x d->g x (hU σ vs) d λc r=>hU c vs=hU σ vs/\tt c r λb f=>
     if b=ae then te c f λy j=>∃acc,j D=aa (.lst acc)/\acc.length<aI/\s (bD j D (.lst (acc++[y]))) else s f):=by
 exact WL (λi m H=>m=kvs.length-i/\i<=kvs.length/\Pv i H) ⟨kvs.length,by simp,aR _,v⟩ ?_;intro i m H x';let(rfl,E,p):=x';let q:=w i H p;by_cases l:i<kvs.length
 ·exact .inr ⟨⟨q,l⟩,WL (Pv (i+1)) (λd B=>⟨kvs.length-(i+1),⋯,rfl,l,B⟩) λx d y=>?_⟩;let(rfl,k,C):=y;exact z i k x _ C p
 ·let e:i=kvs.length:=⋯
  subst e;exact .inl ⟨⟨q,aH _⟩,A H p⟩
def Jo (Pv:Nat->Hp->Prop)(z:Pv 0 (bD H1 D (.lst [])))(A:∀i H,Pv i H->H a=aa (.frz o (.dK kvs)))
  (B:∀i k x T H,kvs[i]?=aa (k,x)->Pv i H->H T=ac->g (.ref T) (hU σ vs) (bD H T (.tup [kV k,x])) λc s=>hU c vs=hU σ vs/\tt c s λb j=>
   if b=ae then te c j λy l=>∃acc,l D=aa (.lst acc)/\acc.length<aI/\Pv (i+1) (bD l D (.lst (acc++[y]))) else Pv (i+1) j) (C:∀H,Pv kvs.length H->Qd H):
  ∃W:Nat->Nat->Hp->Prop,(∃m,W 0 m (bD H1 D (.lst [])))/\∀i m H,W i m H->
   ((MP a o kvs).stop i H/\Qd H)\/((MP a o kvs).go i H/\∃u:Hp->Prop,(∀d,u d->∃w,w<m/\W (i+1) w d)/\∀x d,(MP a o kvs).yld i H x d->g x (hU σ vs) d λc s=>hU c vs=hU σ vs/\tt c s λb j=>
     if b=ae then te c j λy l=>∃acc,l D=aa (.lst acc)/\acc.length<aI/\u (bD l D (.lst (acc++[y]))) else u j):=by
 exact WL (λi m H=>m=kvs.length-i/\i<=kvs.length/\Pv i H) ⟨kvs.length,by simp,aR _,z⟩ ?_;intro i m H x';let(rfl,J,p):=x';let q:=A i H p;by_cases r:i<kvs.length
 ·exact .inr ⟨⟨q,r⟩,WL (Pv (i+1)) (λd E=>⟨kvs.length-(i+1),⋯,rfl,r,E⟩) λx d y=>?_⟩;let(T,k,v,I,rfl,f,rfl):=y;exact B i k v T _ I p f
 ·let e:i=kvs.length:=⋯
  subst e;exact .inl ⟨⟨q,aH _⟩,C H p⟩
end
variable {vs:List (ef×ag)}
def u0 {P:aO}{h:Heap}{a:Addr}(d:h.DictOf (dF P w) a vs):∃ep,h.DictAt (dF P w) a vs ep:=let ⟨o,b,ep,r⟩:=d;(WC ep o b r)
def uC {P:aO}{ks:List Int}{acc:List ag}(f:lI kvs ks)(r:KV kvs vs)(d:acc.length=vs.length)(h:∀(j:Nat) (v:ag),acc[j]?=aa v->∃k x,vs[j]?=aa (k,x)/\(dF P w).is k v=ae):sj acc ks:=by
 let c:vs.map (·.1)=ks.map aA:=by rw[<-r.keys];exact f
 clear f r
 induction acc generalizing vs ks with
 |nil=>
  have:vs=[]:=jQ.mp d.symm;subst this;have:ks=[]:=by
   cases ks with
   |nil=>rfl
   |cons a b=>simp at c
  subst this;exact .nil
 |cons v acc i=>
  cases vs with
  |nil=>simp at d
  |cons q vs=>
   cases ks with
   |nil=>simp at c
   |cons k ks=>
    simp only[bB,List.cons.injEq] at c;let(l,x,o,p):=h 0 v rfl;cases a6 o;let s:l=aA k:=c.1;subst s;let(t,rfl):=CZ (k:=aA k) p;exact .cons k t (i (ks:=ks) (vs:=vs) (by simpa using d) (λj u e=>h (j+1) u e) c.2)
theorem FY:∀{kvs:List (ef×V)} {vs:List (ef×ag)},KV kvs vs->eI (kvs.map (·.2)) (vs.map (·.2))
 |_,_,.nil=>.nil
 |_,_,.cons r t=>.cons r.2 (FY t)
section
variable {X:Cx}
def nj (hc:X.A.handled=ac):o5 X (.builtin "sorted") (λxs H Q=>∃d kvs ks,xs=[.ref d]/\Rd H d (.dK kvs)/\lI kvs ks/\∀(p:Addr) (ns:List Int),H p=ac->ns.Perm ks->ns.Pairwise (·<=·)->Q (.ref p) (bD H p (.lst (ns.map V.int)))):=by
 intro B s σ H xs us Q I Y h;let(d,kvs,ks,rfl,hd,hk,q):=h;let(u,rfl,ru):=Y.one;obtain rfl:u=bI d:=ru;let(z,C,vs,D,dd):=pb I.hok hd;let(ep,da):=u0 dd;let c:vs.length<=aI:=by rw[<-D.length];exact z
 exact AY kind_sorted plain_sorted entry_sorted (args_sorted1 _) ?_;unfold Builtin.«sorted»;exact ai (m:=checkCount "sorted" 1 1 _) (aG ?_);exact ai (Eb (A:=X.A.in1) (PySem.W.kdl_dict (knd:=dF X.prog X.w) (kvs:=vs) (ep:=ep) C) (by simpa using hc) da c λy l a k1 i=>?_)
 let f:a.toList.length=vs.length:=by rw[aC];exact i.1
 let N:sj a.toList ks:=uC (P:=X.prog) (w:=X.w) hk D f λj v e=>i.2 j v (by rw[<-ci];exact e)
 exact ai (yx ?_ (by rw[f];exact c));let r:(y.push (fR "list" a.toList.toArray 0)).get? y.objs.size=aa (fR "list" a.toList.toArray 0):=aY _ rfl;exact ai (eV (kr slot_list_sort ⟨_,r,rfl⟩ entry_list_sort
  (list_sort_treeAny (s:={s with heap:=y.push (fR "list" a.toList.toArray 0),toks:=l}) r N (by rw[f];exact c) λout x a1 O a3=>(WL _ rfl ?_)) (args_list_sort _)))
 let(J,L):=sortedHeap_at (vs:=a.toList) (out:=out) r;exact aG ⟨_,rfl,?_⟩;let T:cz X B σ H {s with heap:=y,toks:=l}:=I.kept k1
 let M:x.length=vs.length:=by rw[O.length_eq,<-f];exact N.length.symm
 exact WJ (.ref y.objs.size) _ (T.laid (t':=l) (o:=.lst (x.map V.int)) (λb o e=>?_) (aH _) ⟨by rw[aj,M];exact c,out.toList,J,wR a1,L⟩) rfl (q _ x (T.hok.fresh (aH _)) O a3);let E:b<y.objs.size:=aW e;show(sortedHeap _ _ _ _).get? b=aa o;rw[sortedHeap_old (bn E) (Nat.lt_of_lt_of_eq (ia E) (dQ _ _).symm)];exact aE _ e
def zb:o5 X (.type "dict") (λxs H Q=>∃d kvs,xs=[.ref d]/\Rd H d (.dK kvs)/\∀p,H p=ac->Q (.ref p) (bD H p (.dK kvs))):=by
 intro a s σ H xs j Q I b h;let(d,kvs,rfl,c,q):=h;let(u,rfl,e):=b.one;obtain rfl:u=bI d:=e;exact IX I c λp l f i=>⟨.ref p,_,i,rfl,q p f⟩
def FZ:V->List V->Hp->VK->Prop:=λx vs H Q=>∃d e kvs a,x=.ref d/\vs=[.ref e]/\d≠e/\H d=aa (.dK kvs)/\Rd H e (.dK a)/\kvs.length+a.length<=aI/\Q .non (bD H d (.dK (ni kvs a)))
def He:RJ X "dict.update" FZ:=by
 intro p s σ H x vs v T Q I B C h;let(d,e,kvs,c,rfl,rfl,l,r,D,y,q):=h;obtain rfl:v=bI d:=B;let(u,rfl,E):=C.one;obtain rfl:u=bI e:=E;let(z,f,J,i,A):=CU I.hok r;let(Y,b,L,a,M):=pb I.hok D;exact or F.slot_dict_update A.typeIs F.entry_dict_update (F.args_dict_update_2 _ _) (meets_dict_update (dF X.prog X.w) d e l b) (WN J L A M (by rw[<-i.length,<-a.length];exact y) λh' j N O=>?_);exact(.non,_,t9 (t':=s.toks) I (by rw[r];exact dR) O (let ⟨o,_,_,e,_⟩:=j;⟨o,e⟩) (wQ ?_ f (KV.merge a i) j),rfl,q);exact bq (nD c kvs) y
def Se (b:TA):TE:=λσ H Q=>b σ H λvs a=>∃j:Int,vs=[.int j]/\∀p,a p=ac->Q (.ref p) (bD a p (.rng 0 j))
def Hf {a:Expr}{d:TA}{p pos:Pos}(i:Gl X "range")(l:X.mg "range"=ac)(u:PA X [a] d)(v:bp [a] X.env=[(af,eval a X.env)]:=by rfl):PE X (.Call (.Name "range" p) [a] [] pos) (Se d):=by
 intro c s σ H Q I h;exact Call_ (uR I i l boot_range (iC (hJ (u pos c s σ H _ I h) λA w x'=>V22 x' λvs B f x y=>?_) v rfl));let(j,e,q):=y;subst e
 cases x with
 |cons r z=>
  cases z;let(t,rfl):=r;exact call_range_1 (WJ (.ref w.heap.objs.size) _ (f.laid (o:=.rng 0 j) (λb o e=>aE _ e) (aH _) (WC _ _ _ (aY _ rfl))) rfl (q _ (f.hok.fresh (aH _))))
theorem zc:∀{n:Nat} {l:List ag} {a:Nat},l.length=n->(∀(i:Nat) (v:ag),l[i]?=aa v->∃t,v=.int ((a:Int)+i) t)->eI ((List.range' a n).map λ(i:Nat)=>V.int i) l
 |0,[],_,_,_=>.nil
 |0,_::_,_,h,_=>by simp at h
 |n+1,[],_,h,_=>by simp at h
 |n+1,v::l,a,h,b=>by
  rw[List.range'_succ,bB];let(t,e):=b 0 v rfl;exact .cons ⟨t,by rw[e];simp⟩ (zc (by simpa using h) λi u e=>?_)
  let(t,e):=b (i+1) u e;exact(t,by rw[e];congr 1;omega)
def EQ (hc:X.A.handled=ac):o5 X (.type "list") (λxs H Q=>∃(r:Addr) (n:Nat),xs=[.ref r]/\H r=aa (.rng 0 (n:Int))/\n<=1000/\∀p,H p=ac->Q (.ref p) (bD H p (.lst ((bH n).map λ(i:Nat)=>V.int i)))):=by
 intro j s σ H xs C Q I l h;let(r,n,rfl,w,hn,q):=h;let(u,rfl,x):=l.one;obtain rfl:u=bI r:=x;let(t,u,v,y):=I.hok r _ w;exact call_list_range (a:=0) (b:=(n:Int)) (c:=1) (n:=n) hc y (small_one ⋯ ⋯ ⋯ ⋯) ?_ ⋯ λD tk f z k B d=>?_
 ·rw[rangeSize_one];split<;>omega
 ·exact WJ (.ref s.heap.objs.size) _ (I.laid (t':=tk) (o:=.lst ((bH n).map λ(i:Nat)=>V.int i)) k (aH _) ⟨?_,f.toList,z,?_,B⟩) rfl (q _ I.fresh)
  ·rw[aj,g9];exact dY (dI hn)
  ·rw[List.range_eq_range'];exact zc (by rw[aC];exact d.1) λi v e=>?_
   let(t,e):=d.2 i v (by rw[<-ci];exact e);exact(t,by rw[e];simp)
def Jp (v d:Addr):HO:=.ext λh=>h.IsValuesView v d
def P6 (td:TE):TE:=λσ H Q=>td σ H λx a=>∃d kvs,x=.ref d/\Rd a d (.dK kvs)/\∀p,a p=ac->Q (.ref p) (bD a p (Jp p d))
def Hg {e:Expr}{td:TE}{c a:Pos}(y:PE X e td)(f:fY e "values" X.env (eval e X.env)=eval e X.env:=by rfl)(i:(c.endLine==a.line)=ae:=by rfl):PE X (.Call (.Attribute e "values" c) [] [] a) (P6 td):=by
 intro j s σ H Q I h;exact lz (T:= "dict") (id:= "dict.values") f rfl i zw qO F.type_dict_values (hJ (y j s σ H _ I h) λu l x'=>V22 x' λx J r A x'=>V22 x' λd kvs B v q=>?_);subst B;obtain rfl:u=bI d:=A;let(z,C,vs,D,p):=pb r.hok v;exact(p.typeIs,p.mapOf.noDict,?_);show a8 _ _ (Ml a (.builtin "dict.values") [.ref d] [] []) _ X.xe l;exact Fh qO KH rfl (ve ⟨rfl,p.typeIs,Kv _,_,meets_dict_values (dF X.prog X.w) d C,⟨vs,p⟩,?_⟩);exact WJ (.ref l.heap.objs.size) _ (r.laid (t':=l.toks) (o:=Jp l.heap.objs.size d) (λb o e=>aE _ e) (aH _) ⟨⟨_,aY _ rfl,rfl,rfl⟩,⟨_,aY _ rfl⟩,?_⟩) rfl (q _ r.fresh);intro L M x' k;let(o,E,hc,v):=x';exact(o,k o E,hc,v)
def ER (hc:X.A.handled=ac):o5 X (.type "list") (λxs H Q=>∃(v d:Addr) (kvs:List (ef×V)),xs=[.ref v]/\H v=aa (Jp v d)/\Rd H d (.dK kvs)/\∀p,H p=ac->Q (.ref p) (bD H p (.lst (kvs.map (·.2))))):=by
 intro l s σ H xs M Q I x h;let(v,d,kvs,rfl,y,B,q):=h;let(u,rfl,C):=x.one;obtain rfl:u=bI v:=C;let(z,r,vs,f,D):=pb I.hok B;let(ep,E):=u0 D;let(c,_):=I.hok v _ y;let i:vs.length<=aI:=by rw[<-f.length];exact z
 exact PySem.W.kdl_call (PySem.W.kdl_values (knd:=dF X.prog X.w) (kvs:=vs) (ep:=ep)) hc ⟨c,E⟩ i λN tk a J k L b=>?_
 exact WJ (.ref s.heap.objs.size) _ (I.laid (t':=tk) (o:=.lst (kvs.map (·.2))) k (aH _) ⟨by rw[aj];exact z,a.toList,J,?_,L⟩) rfl (q _ I.fresh);let e:a.toList=vs.map (·.2):=PySem.W.kdl_vals_eq _ (by rw[aC];exact b.1) λj v e=>b.2 j v (by rw[<-ci];exact e)
 rw[e];exact FY f
end
section
variable {X:Cx} {a b c d:Expr} {ta tb tc td:TE} {pos:Pos}
def Lx (r e a:R2)(ta tb tc td:TE):TE:=λσ H Q=>ta σ H λx f=>tb σ f λy i=>r x y i λz b=>∃k,z=.bl k/\
 (if k=ae then tc σ b λu j=>e y u j λl c=>∃d,l=.bl d/\(if d=ae then td σ c λv o=>a u v o Q else Q (.bl af) c) else Q (.bl af) b)
theorem Hh {p j i:vn}{r w l:R2}(T:tV X (gh p) r)(q:tV X (gh j) w)(o:tV X (gh i) l)(Y:PE X a ta)(hb:PE X b tb)(hc:PE X c tc)(hd:PE X d td)
  (hm:lastMarks [p,j,i] [b,c,d]=af:=by with_unfolding_all rfl):PE X (.Compare a [p,j,i] [b,c,d] pos) (Lx r w l ta tb tc td):=by
 intro f s σ H Q I h;exact Compare_chain (hJ (Y f s σ H _ I h) λv s1 x'=>V22 x' λx H1 I1 r1 q1=>chain_link (hJ (hb f s1 σ H1 _ I1 q1) λu s2 x'=>V22 x' λy H2 I2 A q2=>
  hJ (T f s2 σ H2 x y v u _ I2 r1 A q2) λd s3 x'=>V22 x' λz B C r3 x'=>V11 x' λk e D=>?_)) hm
 subst e;cases r3;exact gA ?_
 cases k with
 |false=>exact ite_ff ⟨.bl af,B,C,rfl,D⟩
 |true=>
  exact ite_tt (chain_link (hJ (hc f s3 σ B _ C D) λE s4 x'=>V22 x' λJ H4 I4 L q4=>hJ (q f s4 σ H4 y J u E _ I4 A L q4) λd' s5 x'=>V22 x' λy' M N r5 x'=>V11 x' λk' e' O=>?_));subst e';cases r5;exact gA ?_
  cases k' with
  |false=>exact ite_ff ⟨.bl af,M,N,rfl,O⟩
  |true=>exact ite_tt (chain_last (hJ (hd f s5 σ M _ N O) λw2 s6 x'=>V22 x' λz6 H6 I6 r6 q6=>o f s6 σ H6 J z6 E w2 Q I6 L r6 q6))
end
def BC (K:am)(d:Addr)(l:List (Int×Addr)):Prop:=(d==iG)=af/\∃(a:Array ji) (b:Nat),K.lookup d=aa {cls:=.type "dict",data:=.dict a b}/\
 a9 (λ(e:ji) (p:Int×Addr)=>e.hash=pC p.1/\(∃t,e.key=.int p.1 t)/\e.val=.ref p.2) a.toList l
theorem Dh {P:aO}{w:World}{k:Int}:∀{es:List ji} {l:List (Int×Addr)},a9 (λ(e:ji) (p:Int×Addr)=>e.hash=pC p.1/\(∃t,e.key=.int p.1 t)/\e.val=.ref p.2) es l->
  (es.find? λe=>(nT P w).is k e.key).map (·.val)=(l.lookup k).map bI
 |_,_,.nil=>rfl
 |e::es,(n,f)::l,.cons ⟨_,⟨t,a⟩,b⟩ r=>by
  rw[jt,gK];let c:(nT P w).is k e.key=(k==n):=by
   rw[a];by_cases q:k=n
   ·subst q;rw[beq_self_eq_true];exact oO k t
   ·rw[beq_eq_false_iff_ne.mpr q]
    cases d:(nT P w).is k (iY n t) with
    |false=>rfl
    |true=>exact aB ((nT P w).inj _ _ _ d (oO n t)) q
  rw[c]
  cases k==n with
  |true=>show aa e.val=_;rw[b];rfl
  |false=>exact Dh r
theorem BC.map {K:am}{d:Addr}{l:List (Int×Addr)}(T:BC K d l){P:aO}{h:Heap}(X:K.In h):h.MapOf (nT P w) d λk=>(l.lookup k).map bI:=by
 let(_,b,c,f,a):=T;exact WQ _ b c (X _ _ f) ⟨rfl,rfl,rfl⟩ rfl (λe j=>?_) λk=>?_
 ·let(i,o):=List.getElem?_of_mem (jr.mpr j);let(p,_,q,(t,r),_):=EK a o;exact(p.1,by rw[r];exact oO p.1 t,q)
 ·unfold findBy;rw[<-Array.find?_toList];exact Dh a
section
variable {X:Cx} {d:Addr} {l:List (Int×Addr)} {x:Str} {i:Expr} {ti:TE} {p pos:Pos}
def ES (hT:BC X.K d l)(f:X.mg x=aa (.ref d))(j:PE X i ti)(o:Gl X x:=by rfl)(b:(x==("__debug__":Str))=af:=by decide):PC X .In i (.Name x p) (λσ H Q=>ti σ H λy c=>∃n,y=.int n/\Q (.bl (l.lookup n).isSome) c):=by
 intro a s σ H Q I h;exact hJ (j a s σ H _ I h) λiv v x'=>V22 x' λy c e q x'=>V11 x' λn r u=>?_
 subst r;let(t,rfl):=q;exact oF e o f ?_ b;exact wpAny_in_of (knd:=nT X.prog X.w) (k:=n) (oO n t) hT.1 (hT.map e.kIn) ?_;rw[ge];exact WJ (.bl (l.lookup n).isSome) c (e.tok _) rfl u
end
end L2
namespace SA
open PySem PySem.Spec PyProof.Rows L2
variable {i:Nat} {l:List Int} {a:Addr}
section
variable {P:aO} {w:World} {K:am} {mg:Str->Option ag} {base:Heap} (m:Mo K mg)
def Ly:Sp:=λa H Q _=>∃n:Nat,a=[.int n]/\n<2^70/\y6 (nb (eQ n)) H Q
def Oi:bo ["number","row"] ["number"] (aP (ig 46)):=jY
include m in
def ET:du P w K mg base jw 1 (m.fn 46) (m.fd 46) ["number"] Ly:=by
 exact m.d46.F.ok Oi (λv H Q E h=>?_) (λy A l s H v Q E M h=>?_)
 ·let(n,rfl,_):=h;rfl
 ·let(n,rfl,hn,k):=h;exact⟨_,ao (nW (i:=1) Oi.nd rfl (eu rfl) (cr ng))
   (ao (sK cQ (df FC (pv 0) be (dS _))
    (ao (gL (wT (pv 1) (cI o6 (cI Bk (pv 0) be) be)))
    (bN (nW (i:=0) Oi.nd rfl (eu rfl) (cI vK (pv 0) be)))))
   (ao (gL (wT (pv 1) (pv 0)))
   (rt (pv 1)))),?_⟩
  exact(aR _,λp e=>?_);exact CC (λσ r=>∃(m:Nat) (a:List Nat),σ=[aa (.int m),aa (.ref p)]/\Sp.Wr n a m/\aU H r/\r p=aa (.lst (nb a))) (λσ _=>match σ with|some (.int m)::_=>m.toNat|_=>0)
   (WN n [] rfl (Sp.Wr.start hn) (aU.new e) ak) ?_ ?_
  ·intro σ z x';let(m,a,rfl,f,u,c):=x';exact WL _ rfl (WJ _ _ rfl rfl (WL _ rfl (Lj (λo=>?_) λo=>?_)))
   ·let d:128<=m:=by have:=of_decide_eq_true o;omega
    exact WU _ rfl (.inl ⟨rfl,_,dL.of c⟩) (WL _ rfl (WN _ _ rfl rfl (by show(0:Int)<128;decide) (WJ _ _ rfl rfl (WQ p _ _ rfl rfl c (by rw[aj];have:=f.len;exact dI ⋯) ?_))));exact WL _ rfl (WN _ _ rfl rfl ⟨by decide,by decide⟩ ?_);exact((WN (m/128) (a++[m%128+128]) ?_ (f.turn d) (u.old e) ?_),?_)
    ·show[aa (V.int ((m:Int)/128)),aa (V.ref p)]=[aa (V.int ((m/128:Nat):Int)),aa (V.ref p)];congr 3
    ·rw[ak,wU];rfl
    ·show(((m:Int)/128)).toNat<(m:Int).toNat;omega
   ·let d:m<128:=by
     have:¬(128:Int)<=m:=λq=>o (decide_eq_true q)
     omega
    exact(_,rfl,.inl ⟨rfl,_,dL.of c⟩,_,rfl,WQ p _ _ rfl rfl c (by rw[aj];have:=f.len;exact dI ⋯) ?_);exact(_,rfl,?_);exact k _ p (u.old e) e ?_;rw[ak,<-f.done d,wU];rfl
  ·intro σ z Q N B x';let(x,C,i,j,D,I,b,J,L):=x';exact(x,C,i,j,D,I,b,J,B _ _ L)
def Lz:Sp:=λa H Q _=>∃z:Int,a=[.int z]/\eZ z<2^70/\y6 (nb (eQ (eZ z))) H Q
def Sf:bo ["value"] ["value"] (aP (ig 47)):=jY
include m in
def P7:du P w K mg base jw 2 (m.fn 47) (m.fd 47) ["value"] Lz:=by
 exact m.d47.F.ok Sf (λf H Q E h=>?_) (λi A b s H f Q E j h=>?_)
 ·let(n,rfl,_):=h;rfl
 ·let(z,rfl,d,k):=h;exact(_,bN (lr (dA m.d46 (ET m) j (cU (o0 (df FC (pv 0) be (dS _)) (cI lu be (pv 0)) (cI jU (cI lu (yQ uT be) (pv 0)) be))))),?_);let e:=Sp.Cj z;exact(_,rfl,WJ _ _ rfl rfl ⟨_,rfl,Lj (λc=>?_) λc=>?_⟩)
  ·let a:(0:Int)<=z:=of_decide_eq_true c;rw[jN a] at e;exact(_,rfl,WN _ _ rfl rfl (.inl ⟨by decide,by decide⟩) ⟨eZ z,?_,d,k⟩);show[V.int (2*z)]=_;rw[e]
  ·let a:¬(0:Int)<=z:=λq=>c (decide_eq_true q)
   rw[iQ a] at e;exact(_,rfl,_,rfl,WN _ _ rfl rfl (.inl ⟨by decide,by decide⟩) (WJ _ _ rfl rfl ⟨eZ z,?_,d,k⟩));show[V.int (-2*z-1)]=_;rw[e]
end
theorem eB {α:Type}:∀{l:List α} {i:Nat} {x:α},l[i]?=aa x->l.take (i+1)=l.take i++[x]
 |[],i,x,h=>by simp at h
 |a::l,0,x,h=>by
  let e:a=x:=a6 h;subst e;rfl
 |a::l,i+1,x,h=>by
  let b:=eB (l:=l) (i:=i) (x:=x) h;show a::l.take (i+1)=a::l.take i++[x];rw[b];rfl
def km {α:Type}{f:α->V}{l:List α}{y:V}(h:(l.map f)[i]?=aa y):∃z,l[i]?=aa z/\y=f z:=by
 rw[bZ] at h
 cases e:l[i]? with
 |none=>rw[e] at h;cases h
 |some z=>rw[e] at h;exact(z,rfl,(a6 h).symm)
def nn (l:List Int):List Nat:=l.flatMap λz=>eQ (eZ z)
def xB (l:List Int)(z:Int):nn (l++[z])=nn l++eQ (eZ z):=by
 unfold nn;rw[pA,dN,rN,dM]
theorem rf:∀l:List Int,(nn l).length<=10*l.length
 |[]=>aH _
 |z::l=>by
  let h:=rf l;let a:=Sp.RD (eZ z);show(eQ (eZ z)++nn l).length<=_;rw[aQ,aK];omega
def kG (l:List Nat):(nb l).length=l.length:=aj _
def fw (l:List Int):(iv l).length=l.length:=aj _
def Jq (h:l.length<=8)(i:Nat):(nn (l.take i)).length<=80:=by
 have:=rf (l.take i);have:(l.take i).length<=l.length:=iE i l;omega
section
variable {P:aO} {w:World} {K:am} {mg:Str->Option ag} {base:Heap} (m:Mo K mg)
def LA (C:Addr):Sp:=λc H Q _=>∃(n k:Nat) (a:Addr) (b:List Int) (R:Rg),c=[.int n,.ref a]/\EO C R H a k b/\n<2^70/\k<2^70/\b.length<=8/\(∀z∈b,eZ z<2^70)/\
 y6 (nb (bw (.enter n k b))) H Q
def Oj:bo ["n","thing","row","value"] ["n","thing"] (aP (ig 48)):=jY
include m in
def Sg:du P w K mg base jw 3 (m.fn 48) (m.fd 48) ["n","thing"] (LA (m.cl 11)):=by
 exact m.d48.F.ok Oj (λvs H Q E h=>?_) (λa1 A r s H vs Q E C h=>?_)
 ·let(n,k,a,b,R,rfl,_):=h;rfl
 ·let(n,e,a,b,R,rfl,(D,l,n1,n2,I,J),hn,hk,h8,hv,k):=h;let f:=C.mono (show 1<=2 by decide);exact⟨_,ao (nW (i:=2) Oj.nd rfl (eu rfl) (cI iX (cI iX (cr (cU (cS m.Ux))) (dA m.d46 (ET m) f (cU (pv 0)))) (dA m.d46 (ET m) f (cU (fl (pv 1))))))
   (ao (kj cQ rfl (jg (fl (pv 1))) (fC (i:=3) Oj.nd rfl (eu rfl)) (bN (gL (uZ (pv 2) (dA m.d47 (P7 m) C (cU (pv 3)))))))
   (rt (pv 2))),?_⟩
  exact((by show 1<=aI;decide),λL f1=>⟨_,rfl,WU n rfl hn λH1 p2 M f2 e2=>?_⟩);let e1:=M _ _ (ak (H:=H) (a:=L) (o:=.lst [.int 1]));exact WK L p2 _ _ rfl rfl e1 e2 (by rw[kG];have:=Sp.RD n;exact dY (dI (by show 1+_<=_;omega))) λN f3=>?_;let u:aU H (bD H1 N (.lst ([.int 1]++nb (eQ n)))):=((aU.new f1).trans M).t f3;exact WL _ rfl (WH a _ D _ _ rfl (u _ _ I) m.k11.cl m.Up (nE _ _) (WU e rfl hk λH4 p4 x f4 e4=>?_));exact WK N p4 _ _ rfl rfl (x _ _ ak) e4 (by rw[aQ,kG,kG];have:=Sp.RD n;have:=Sp.RD e;exact dY (dI (by show 1+_+_<=_;omega))) λc O=>?_;let B:aU H (bD H4 c (.lst (([.int 1]++nb (eQ n))++nb (eQ e)))):=(u.trans x).t O;let j:H c=ac:=(u.trans x).free O;exact WL _ rfl (WH a _ D _ _ rfl (B _ _ I) m.k11.cl m.Ul (gN _ _) (WU l rfl ⟨_,dL.of (B _ _ J)⟩ (ka (K:=K) (a:=l) (xs:=iv b)
   (λi σ d=>∃v:Option V,σ=[aa (.int n),aa (.ref a),aa (.ref c),v]/\aU H d/\d c=aa (.lst (nb (1::(eQ n++(eQ e++nn (b.take i)))))))
   ⟨ac,rfl,B,?_⟩ (λi σ d _ x'=>V12 x' λ_ _ p _=>dL.of (p _ _ J)) ?_ ?_)))
  ·rw[ak];simp[nb,nn]
  ·intro i y σ d hi x';let(v,rfl,p,q):=x';let(z,T,rfl):=km hi;exact WU _ rfl (.inl ⟨rfl,_,dL.of q⟩) ⟨_,rfl,WU z rfl (hv z (bj T)) λH7 p7 Y f7 e7=>?_⟩;exact WK c p7 _ _ rfl rfl (Y _ _ q) e7 ?_ ?_
   ·rw[kG,kG,aK,aQ,aQ];have:=Sp.RD n;have:=Sp.RD e;have:=Sp.RD (eZ z);have:=Jq h8 i;exact dY (dI ⋯)
   ·exact WU _ rfl ((p.trans Y).old j) ?_;rw[ak,eB T,xB,<-wU];simp
  ·intro σ d x';let(v,rfl,p,q):=x';rw[fw,cg] at q;exact(_,rfl,k d c p j q)
def LB:Sp:=λa H Q _=>∃n:Nat,a=[.int n]/\n<2^70/\y6 (nb (bw (.leave n))) H Q
def Sh:bo ["n"] ["n"] (aP (ig 50)):=jY
include m in
def Si:du P w K mg base jw 2 (m.fn 50) (m.fd 50) ["n"] LB:=by
 exact m.d50.F.ok Sh (λe H Q E h=>?_) (λf A a s H e Q E i h=>?_)
 ·let(n,rfl,_):=h;rfl
 ·let(n,rfl,hn,k):=h;exact(_,bN (lr (cI iX (cr (cU (cS m.UB))) (dA m.d46 (ET m) i (cU (pv 0))))),?_);exact((by show 1<=aI;decide),λj c=>⟨_,rfl,n,rfl,hn,λq l b r o=>?_⟩);exact WK j l _ _ rfl rfl (b _ _ ak) o (by rw[kG];have:=Sp.RD n;exact dY (dI (by show 1+_<=_;omega))) λp d=>?_;exact k _ p (((aU.new c).trans b).t d) (((aU.new c).trans b).free d) ak
end
section
variable {P:aO} {w:World} {K:am} {mg:Str->Option ag} {base:Heap} (m:Mo K mg)
def Jr (C:Addr):Sp:=λe H Q _=>∃(n k f:Nat) (a b:Addr) (d c:List Int) (R:Rg),e=[.int n,.ref a,.ref b]/\EO C R H a k d/\EO C R H b f c/\n<2^70/\d.length=8/\c.length=8/\(∀z∈c,eZ z<2^70)/\
 y6 (nb (bw (.change n (xP c d) ((xP c d).map λi=>c.getD i 0)))) H Q
def P8:bo ["n","told","thing","changed","bit","tail","old","new"] ["n","told","thing"] (aP (ig 49)):=jY
def BD {z:Int}(h:l[i]?=aa z):l.getD i 0=z:=by
 rw[bh,h];rfl
def F0 (a b:List Int)(i:Nat):(Sp.Po a b i).length<=i:=by
 have:=cY (λj=>a.getD j 0 !=b.getD j 0) (bH i);rw[g9] at this;exact this
include m in
def Sj:du P w K mg base jw 3 (m.fn 49) (m.fd 49) ["n","told","thing"] (Jr (m.cl 11)):=by
 exact m.d49.F.ok P8 (λvs H Q E h=>?_) (λbb A a0 s H vs Q E hr h=>?_)
 ·let(n,k,k2,a,b,d,c,R,rfl,_):=h;rfl
 ·let(n,k1,k2,a,b,d,c,R,rfl,(dx,l,_,_,h1,h2),(a1,l',_,_,a2,I),hn,hu,ht,hv,k):=h;let a4:=hr.mono (show 1<=2 by decide);let r:=P8.nd;exact⟨_,ao (sT 3 r be) (ao (sT 4 r be) (ao (sT 5 r (cr ng))
   (ao (kj cQ rfl (N9 rfl m.VM (aS (fl (pv 1)) (cU (fl (pv 2))))) (Bi rfl (lC (fC (i:=6) r rfl (eu rfl)) (lC (fC (i:=7) r rfl (eu rfl)) vJ)))
    (ao (dG (df yR (pv 6) (pv 7) (dS _)) (ao (Bj (i:=3) r rfl (eu rfl) (pv 4) NQ) (bN (gL (uZ (pv 5) (dA m.d47 (P7 m) hr (cU (pv 7))))))) bS)
    (bN (sT 4 r (cI lu (pv 4) be)))))
   (rt (cI iX (cI iX (cI iX (cr (cU (cS m.UO))) (dA m.d46 (ET m) a4 (cU (pv 0)))) (cr (cU (pv 3)))) (pv 5)))))),?_⟩
  exact(aR _,λp f=>?_);let J:aU H (bD H p (.lst [])):=aU.new f;exact WL _ rfl (WH a _ dx _ _ rfl (J _ _ h1) m.k11.cl m.Ul (gN _ _) (WL _ rfl (WH b _ a1 _ _ rfl (J _ _ a2) m.k11.cl m.Ul (gN _ _) (WP l l' _ _ rfl (dL.of (J _ _ h2)) (dL.of (J _ _ I)) (
   Lu (K:=K) (a:=l) (b:=l') (xs:=iv d) (ys:=iv c) (λi σ j=>∃v v':Option V,σ=[aa (.int n),aa (.ref a),aa (.ref b),aa (.int (qv (Sp.Po c d i):Nat)),aa (.int ((2^i:Nat):Int)),aa (.ref p),v,v']/\i<=8/\aU H j/\
    j p=aa (.lst (nb (nn ((Sp.Po c d i).map λi=>c.getD i 0)))))
   (WN ac ac rfl (by decide) J ak) (by rw[fw,fw,hu,ht]) (λi σ j x'=>V23 x' λ_ _ _ _ u _=>⟨dL.of (u _ _ h2),dL.of (u _ _ I)⟩) ?_ ?_)))))
  ·intro i x y T σ j hx hy x' fT;let(v,v',rfl,hi,u,D):=x';let(z,hz,rfl):=km hx;let(e,B,rfl):=km hy;let L:i+1<=8:=by have:=(bf.mp hz).1;omega
   let M:aU H (bD j T (.tup [V.int z,V.int e])):=u.t fT;let ab:p≠T:=aL D fT;let N:bD j T (.tup [V.int z,V.int e]) p=aa (.lst (nb (nn ((Sp.Po c d i).map λi=>c.getD i 0)))):=by rw[aF ab];exact D
   exact WN T _ rfl (o4.of ak) rfl (WB _ _ ⟨rfl,WJ _ _ rfl rfl ?_⟩);exact WL _ rfl (WU _ rfl rfl (WL _ rfl ?_));let C:=Sp.Pp c d i;rw[BD B,BD hz] at C;let eb:((2^i:Nat):Int)*2=((2^(i+1):Nat):Int):=by rw[fW];omega
   let hb:(2^i:Nat)<=2^8:=HG (by decide) hi;let o:ID ((2^i:Nat):Int) 2:=.inr ⟨by decide,by decide⟩;exact Lj (λhc=>?_) λhc=>?_
   ·let al:e≠z:=λq=>by rw[q] at hc;simp at hc
    rw[jN al] at C;exact WL _ rfl (WL _ rfl (WJ _ _ rfl rfl ?_));exact WU _ rfl (.inl ⟨rfl,_,dL.of N⟩) (WL _ rfl (WU e rfl (hv e (bj B)) λH4 O s4 f4 e4=>?_));let Y:(nn ((Sp.Po c d i).map λi=>c.getD i 0)).length<=80:=by
     have:=rf ((Sp.Po c d i).map λi=>c.getD i 0);rw[aj] at this;have:=F0 c d i;omega
    exact WK p O _ _ rfl rfl (s4 _ _ N) e4 (by rw[kG,kG];have:=Sp.RD (eZ e);exact dY (dI ⋯)) ?_;exact WL _ rfl (WN _ _ rfl rfl o (WN (aa (.int z)) (aa (.int e)) ?_ L ((M.trans s4).old f) ?_))
    ·show[_,_,_,aa (V.int (((qv (Sp.Po c d i):Nat):Int)+((2^i:Nat):Int))),aa (V.int (((2^i:Nat):Int)*2)),_,_,_]=_;rw[eb,C,Sp.O9,z4]
    ·rw[ak,C,bU,bB,pE,xB,BD B,wU]
   ·let ap:e=z:=by
     by_cases q:e=z
     ·exact q
     ·exact aB (show(!decide (V.int z=V.int e))=ae by simp;exact λq'=>q q'.symm) hc
    rw[iQ (λq=>q ap)] at C;exact WL _ rfl (WN _ _ rfl rfl o (WN (aa (.int z)) (aa (.int e)) ?_ L M ?_))
    ·show[_,_,_,_,aa (V.int (((2^i:Nat):Int)*2)),_,_,_]=_;rw[eb,C]
    ·rw[C];exact N
  ·intro σ j x';let(v,v',rfl,hi,u,D):=x';rw[fw,hu] at D;let fp:j p≠ac:=by rw[D];simp
   exact((by show 1<=aI;decide),λp1 f1=>⟨_,rfl,WU n rfl hn λH1 p2 M f2 N=>?_⟩);exact WK p1 p2 _ _ rfl rfl (M _ _ ak) N (by rw[kG];have:=Sp.RD n;exact dY (dI (by show 1+_<=_;omega))) λp3 f3=>?_;exact WU _ rfl (by show 1<=aI;decide) λO f4=>?_;let as:p3≠O:=aL ak f4;exact WK p3 O _ _ rfl rfl (by rw[aF as,ak]) ak (by rw[aQ,kG];have:=Sp.RD n;exact dY (dI (by show 1+_+1<=_;omega))) λp5 f5=>?_;let s5:aU j (bD (bD (bD H1 p3 (.lst ([.int 2]++nb (eQ n)))) O (.lst [.int ((qv (Sp.Po c d (iv d).length):Nat):Int)])) p5 (.lst (([.int 2]++nb (eQ n))++[.int ((qv (Sp.Po c d (iv d).length):Nat):Int)]))):=
    ((((aU.new f1).trans M).t f3).t f4).t f5
   let e5:=s5 _ _ D;let Y:(nn ((Sp.Po c d 8).map λi=>c.getD i 0)).length<=80:=by
    have:=rf ((Sp.Po c d 8).map λi=>c.getD i 0);rw[aj] at this;have:=F0 c d 8;omega
   exact(_,rfl,WK p5 p _ _ rfl rfl ak e5 (by rw[aQ,aQ,kG,kG];have:=Sp.RD n;exact dY (dI (by show 1+_+1+_<=_;omega))) λp6 f6=>?_);exact k _ p6 ((u.trans s5).t f6) ((u.trans s5).free f6) ?_;rw[ak,fw,hu,Sp.RE];simp[nb,bw,nn]
end
theorem Di {α:Type}(B:Nat)(f:α->List Nat):∀l:List α,(∀x∈l,(f x).length<=B)->(l.flatMap f).length<=B*l.length
 |[],_=>aH _
 |x::l,h=>by
  let b:=Di B f l λy a=>h y (au _ a)
  let c:=h x (aD ..);rw[dN,aQ,aK,Nat.mul_succ];omega
variable {H H':Hp}
section
variable {P:aO} {w:World} {K:am} {mg:Str->Option ag} {base:Heap} (m:Mo K mg)
def xZ (H:Hp)(b:List Addr)(c:List (List Nat)):Prop:=a9 (λa r=>H a=aa (.lst (nb r))) b c
def xZ.keep {a:List Addr}{b:List (List Nat)}(r:xZ H a b)(s:aU H H'):xZ H' a b:=a9.mapP r λ_ _ h=>s _ _ h
theorem xZ.at_ {H:Hp}:∀{b:List Addr} {c:List (List Nat)} {i:Nat} {a:Addr},xZ H b c->b[i]?=aa a->∃r,c[i]?=aa r/\H a=aa (.lst (nb r))
 |_,_,i,a,.nil,h=>by simp at h
 |_,_,0,a,.cons h _,e=>⟨_,rfl,by rw[<-a6 e];exact h⟩
 |_,_,i+1,a,.cons _ r,e=>xZ.at_ (i:=i) r e
def Js:Sp:=λd H Q _=>∃(t:Nat) (a:Addr) (c:List Addr) (b:List (List Nat)),d=[.int t,.ref a]/\t<2^70/\H a=aa (.lst (c.map V.ref))/\xZ H c b/\(∀r∈b,r.length<=5000)/\b.length<=3000/\
 y6 (nb (nM t b.length++b.flatten)) H Q
def Ol:bo ["tick","messages","row","message"] ["tick","messages"] (aP (ig 51)):=jY
include m in
def Sk:du P w K mg base jw 2 (m.fn 51) (m.fd 51) ["tick","messages"] Js:=by
 exact m.d51.F.ok Ol (λN H Q E h=>?_) (λO A o s H N Q E C h=>?_)
 ·let(t,a,p,c,rfl,_):=h;rfl
 ·let(t,a,p,c,rfl,T,q,D,I,h3,k):=h;let J:p.length=c.length:=cB D;exact⟨_,ao (nW (i:=2) Ol.nd rfl (eu rfl) (cI iX (dA m.d46 (ET m) C (cU (pv 0))) (dA m.d46 (ET m) C (cU (cJ eN (by rfl) m.Uk cM (cU (pv 1)))))))
   (ao (kj cQ rfl (jg (pv 1)) (fC (i:=3) Ol.nd rfl (eu rfl)) (bN (gL (uZ (pv 2) (pv 3)))))
   (rt (pv 2))),?_⟩
  exact WL _ rfl (WU t rfl T λH1 Y u f1 e1=>(WL _ rfl (WJ a _ rfl (.inl (dL.of (u _ _ q))) (WU c.length ?_ ⋯ λH2 p2 z f2 e2=>?_))))
  ·rw[aj,J];rfl
  exact WK Y p2 _ _ rfl rfl (z _ _ e1) e2 (by rw[kG,kG];have:=Sp.RD t;have:=Sp.RD c.length;exact dY (dI ⋯)) λe L=>?_;let M:aU H (bD H2 e (.lst (nb (eQ t)++nb (eQ c.length)))):=(u.trans z).t L;let f:=(u.trans z).free L;exact WL _ rfl (WU a rfl ⟨_,dL.of (M _ _ q)⟩ (ka (K:=K) (a:=a) (xs:=p.map V.ref)
   (λi σ H'=>∃v:Option V,σ=[aa (.int t),aa (.ref a),aa (.ref e),v]/\aU H H'/\H' e=aa (.lst (nb (nM t c.length++(c.take i).flatten))))
   ⟨ac,rfl,M,?_⟩ (λi σ H' _ x'=>V12 x' λ_ _ d _=>dL.of (d _ _ q)) ?_ ?_))
  ·rw[ak];simp[nb,nM]
  ·intro i y σ H' hi x';let(v,rfl,d,j):=x';let(b,hb,rfl):=km hi;let(r,l,er):=D.at_ hb;exact WU _ rfl (.inl ⟨rfl,_,dL.of j⟩) ⟨_,rfl,WK e b _ _ rfl rfl j (d _ _ er) ?_ ?_⟩
   ·rw[kG,kG,aQ,nM,aQ];have:=Sp.RD t;have:=Sp.RD c.length;have:=I r (bj l);let h9:=Di 5000 id (c.take i) λx hx=>I x (oy hx)
    let ap:(c.take i).length<=c.length:=iE i c;rw[List.flatMap_id] at h9;have:5000*(c.take i).length<=5000*3000:=HZ _ ⋯;let B:aI=16777216:=by decide
    rw[B];omega
   ·exact(_,rfl,d.old f,?_);rw[ak,eB l,<-wU,List.flatten_append];simp
  ·intro σ H' x';let(v,rfl,d,j):=x';rw[aj,J,cg] at j;exact(_,rfl,k H' e d f j)
end
def Sm (x:Int):Prop:= -(2^64)<x/\x<2^64
def F1 {a b:Int}{A B:Nat}(c: -(A:Int)<=a/\a<=A)(d: -(B:Int)<=b/\b<=B): -((A*B:Nat):Int)<=a*b/\a*b<=((A*B:Nat):Int):=by
 let e:(a*b).natAbs<=A*B:=by
  rw[Int.natAbs_mul];exact Nat.mul_le_mul ⋯ ⋯
 omega
def Co (z:Int):Prop:= -100000<=z/\z<=100000
def LC {x y c d:Int}(h1: -200000<=x/\x<=200000)(e: -200000<=y/\y<=200000)(f: -200000<=c/\c<=200000)(i: -200000<=d/\d<=200000): -80000000000<=x*d-y*c/\x*d-y*c<=80000000000:=by
 let a:=F1 (A:=200000) (B:=200000) h1 i;let b:=F1 (A:=200000) (B:=200000) e f;omega
def P9 {x y c d:Int}(h1: -200000<=x/\x<=200000)(e: -200000<=y/\y<=200000)(f: -200000<=c/\c<=200000)(i: -200000<=d/\d<=200000): -80000000000<=x*c+y*d/\x*c+y*d<=80000000000:=by
 let a:=F1 (A:=200000) (B:=200000) h1 f;let b:=F1 (A:=200000) (B:=200000) e i;omega
def BE (a b:Int):(if b>a then b else a)=max a b:=by split<;>omega
def BF (a b:Int):(if b<a then b else a)=min a b:=by split<;>omega
def LT (K:am)(H:Hp)(a:Addr)(xs:List V):Prop:=dL K H a xs\/o4 K H a xs
def Qa (K:am):R2:=λx y H Q=>∃p a i v,x=.ref p/\y=.int i/\LT K H p a/\yk a i=aa v/\Q v H
def xC {X:Cx}:RI X (Qa X.K):=by
 intro a b c s σ H x y v u Q I d e h f;obtain⟨p,j,i,z,l,o,q|q,r,k⟩:=h
 ·exact rb a b c s σ H x y v u Q I d e (WI p j i z l o q r k) f
 ·exact ED a b c s σ H x y v u Q I d e (WI p j i z l o q r k) f
def o4.same {K:am}{xs:List V}(e:aU H H')(h:o4 K H a xs):o4 K H' a xs:=by
 rcases h with(h|⟨o,h⟩)|h
 ·exact .inl (.inl (e _ _ h))
 ·exact .inl (.inr ⟨o,e _ _ h⟩)
 ·exact .inr h
theorem LT.same {K:am}{xs:List V}(e:aU H H')(h:LT K H a xs):LT K H' a xs:=h.elim (λh=>.inl (e.seq h)) λh=>.inr (SA.o4.same e h)
section
variable {P:aO} {w:World} {K:am} {mg:Str->Option ag} {base:Heap} (m:Mo K mg)
def LD:Sp:=λe H Q _=>∃(a b:Addr) (x y c d:Int),e=[.ref a,.ref b]/\H a=aa (.tup [.int x,.int y])/\H b=aa (.tup [.int c,.int d])/\Sm x/\Sm y/\Q (.int (x*d-y*c)) H
def Qb:Sp:=λe H Q _=>∃(a b:Addr) (x y c d:Int),e=[.ref a,.ref b]/\H a=aa (.tup [.int x,.int y])/\H b=aa (.tup [.int c,.int d])/\Sm x/\Sm y/\Q (.int (x*c+y*d)) H
def Sl:bo ["a","b"] ["a","b"] (aP (ig 74)):=jY
def Sn:bo ["a","b"] ["a","b"] (aP (ig 75)):=jY
def MT {x y:V}:yk [x,y] 0=aa x:=ib (j:=0) rfl
def LF {x y:V}:yk [x,y] 1=aa y:=ib (j:=1) rfl
include m in
def Jt:du P w K mg base jw 1 (m.fn 74) (m.fd 74) ["a","b"] LD:=by
 exact m.d74.F.ok Sl (λf H Q E h=>?_) (λi A c s H f Q E q h=>?_)
 ·let(a,b,x,y,j,l,rfl,_):=h;rfl
 ·let(a,b,x,y,j,l,rfl,d,e,o,p,k):=h;exact(_,bN (lr (cI jU (cI lu (iq (pv 0)) (iq (pv 1))) (cI lu (iq (pv 0)) (iq (pv 1))))),?_);exact(_,rfl,WI a _ _ _ rfl rfl (o4.of d) MT ⟨_,rfl,WI b _ _ _ rfl rfl (o4.of e) LF (WN _ _ rfl rfl (.inl o) ⟨_,rfl,WI a _ _ _ rfl rfl (o4.of d) LF ⟨_,rfl,WI b _ _ _ rfl rfl (o4.of e) MT (WN _ _ rfl rfl (.inl p) (WJ _ _ rfl rfl k))⟩⟩)⟩)
include m in
def Om:du P w K mg base jw 1 (m.fn 75) (m.fd 75) ["a","b"] Qb:=by
 exact m.d75.F.ok Sn (λf H Q E h=>?_) (λi A c s H f Q E q h=>?_)
 ·let(a,b,x,y,j,l,rfl,_):=h;rfl
 ·let(a,b,x,y,j,l,rfl,d,e,o,p,k):=h;exact(_,bN (lr (cI o6 (cI lu (iq (pv 0)) (iq (pv 1))) (cI lu (iq (pv 0)) (iq (pv 1))))),?_);exact(_,rfl,WI a _ _ _ rfl rfl (o4.of d) MT ⟨_,rfl,WI b _ _ _ rfl rfl (o4.of e) MT (WN _ _ rfl rfl (.inl o) ⟨_,rfl,WI a _ _ _ rfl rfl (o4.of d) LF ⟨_,rfl,WI b _ _ _ rfl rfl (o4.of e) LF (WN _ _ rfl rfl (.inl p) (WJ _ _ rfl rfl k))⟩⟩)⟩)
def vY (o:Option (Int×Int))(H:Hp)(Q:VK):Prop:=match o with
 |none=>∀H',aU H H'->Q .non H'
 |some x=>∀(H':Hp) (p:Addr),aU H H'->H p=ac->H' p=aa (.tup [.int x.1,.int x.2])->Q (.ref p) H'
def u1 (u p t:Int):Option (Int×Int):=if 0<=u/\u<=t/\0<=p/\p<=t then aa (u,t) else ac
def LG:Sp:=λa H Q _=>∃u p t:Int,a=[.int u,.int p,.int t]/\0<t/\vY (u1 u p t) H Q
def Oo:Sp:=λa H Q _=>∃u p t:Int,a=[.int u,.int p,.int t]/\t≠0/\vY (if t<0 then u1 (-u) (-p) (-t) else u1 u p t) H Q
def Qc:bo ["upper","part","turn"] ["upper","part","turn"] (aP (ig 76)):=jY
include m in
def Qe:du P w K mg base jw 1 (m.fn 76) (m.fd 76) ["upper","part","turn"] LG:=by
 exact m.d76.F.ok Qc (λi H Q E h=>?_) (λj A b s H i Q E l h=>?_)
 ·let(u,p,t,rfl,_):=h;rfl
 ·let(u,p,t,rfl,o,k):=h;exact⟨_,ao (dG (df rF (pv 2) be (dS _)) GO bS)
   (ao (dG (qf (kF gC gC be (pv 0) (pv 2)) (oG (kF gC gC be (pv 1) (pv 2)))).pt (rt (lM (aS (pv 0) (cU (pv 2))))) bS)
   (rt uQ)),?_⟩
  exact(_,rfl,WJ _ _ rfl rfl ⟨_,rfl,AC ⋯ ?_⟩);let a:¬(0<=u/\u<=t/\0<=p/\p<=t)->Q .non H:=λh=>by
   unfold vY u1 at k;rw[iQ h] at k;exact k H (aU.refl H)
  exact(_,rfl,WJ _ _ rfl rfl (WL _ rfl (fO (λc1=>?_) λc1=>?_)))
  ·exact(_,rfl,WJ _ _ rfl rfl ⟨_,rfl,fO (λc=>?_) λc=>?_⟩)
   ·exact(_,rfl,WJ _ _ rfl rfl (WL _ rfl (fO (λd=>?_) λd=>?_)))
    ·exact(_,rfl,WJ _ _ rfl rfl ⟨_,rfl,fO (λe=>?_) λe=>?_⟩)
     ·exact(_,rfl,WU _ rfl (by show 2<=aI;decide) λq f=>?_);unfold vY u1 at k;rw[jN ⟨c1,c,d,e⟩] at k;exact k _ q (aU.new f) f ak
     ·exact a λx'=>X3 x' λ_ _ _ h=>e h
    ·exact(_,rfl,i7 (a λx'=>X3 x' λ_ _ h _=>d h))
   ·exact i7 (a λx'=>X2 x' λ_ h _=>c h)
  ·exact(_,rfl,i7 (a λ⟨h,_⟩=>c1 h))
include m in
def So:du P w K mg base jw 2 (m.fn 76) (m.fd 76) ["upper","part","turn"] Oo:=by
 exact m.d76.F.ok Qc (λj H Q E h=>?_) (λl A b s H j Q E o h=>?_)
 ·let(u,p,t,rfl,_):=h;rfl
 ·let(u,p,t,rfl,r,k):=h;exact⟨_,ao (dG (df rF (pv 2) be (dS _)) (rt (dA m.d76 (Qe m) o (aS (yQ uT (pv 0)) (aS (yQ uT (pv 1)) (cU (yQ uT (pv 2))))))) bS)
   (ao (dG (qf (kF gC gC be (pv 0) (pv 2)) (oG (kF gC gC be (pv 1) (pv 2)))).pt (rt (lM (aS (pv 0) (cU (pv 2))))) bS)
   (rt uQ)),?_⟩
  exact(_,rfl,WJ _ _ rfl rfl ⟨_,rfl,fO (λc=>?_) λc=>?_⟩)
  ·rw[jN c] at k;exact(_,rfl,_,rfl,_,rfl,_,rfl,_,rfl,_,rfl,WS (-u) (-p) (-t) rfl ⋯ k)
  rw[iQ c] at k;let a:¬(0<=u/\u<=t/\0<=p/\p<=t)->Q .non H:=λh=>by
   unfold vY u1 at k;rw[iQ h] at k;exact k H (aU.refl H)
  exact(_,rfl,WJ _ _ rfl rfl (WL _ rfl (fO (λc1=>?_) λc1=>?_)))
  ·exact(_,rfl,WJ _ _ rfl rfl ⟨_,rfl,fO (λd=>?_) λd=>?_⟩)
   ·exact(_,rfl,WJ _ _ rfl rfl (WL _ rfl (fO (λe=>?_) λe=>?_)))
    ·exact(_,rfl,WJ _ _ rfl rfl ⟨_,rfl,fO (λf=>?_) λf=>?_⟩)
     ·exact(_,rfl,WU _ rfl (by show 2<=aI;decide) λq i=>?_);unfold vY u1 at k;rw[jN ⟨c1,d,e,f⟩] at k;exact k _ q (aU.new i) i ak
     ·exact a λx'=>X3 x' λ_ _ _ h=>f h
    ·exact(_,rfl,i7 (a λx'=>X3 x' λ_ _ h _=>e h))
   ·exact i7 (a λx'=>X2 x' λ_ h _=>d h)
  ·exact(_,rfl,i7 (a λ⟨h,_⟩=>c1 h))
end
def b4 {a b c d:V}:yk [a,b,c,d] 0=aa a/\yk [a,b,c,d] 1=aa b/\yk [a,b,c,d] 2=aa c/\yk [a,b,c,d] 3=aa d:=⟨ib (j:=0) rfl,ib (j:=1) rfl,ib (j:=2) rfl,ib (j:=3) rfl⟩
section
variable {P:aO} {w:World} {K:am} {mg:Str->Option ag} {base:Heap} (m:Mo K mg)
def Pd (H:Hp)(a:Addr)(W:dU):Prop:=H a=aa (.lst [.int W.a.x,.int W.a.y,.int W.b.x,.int W.b.y])
def Op (W:dU):Prop:=Co W.a.x/\Co W.a.y/\Co W.b.x/\Co W.b.y
def Sq:Sp:=λb H Q _=>∃(x y:Int) (a:Addr) (W:dU),b=[.int x,.int y,.ref a]/\Pd H a W/\Co x/\Co y/\Op W/\∀H',aU H H'->Q (.bl (Vbwsag.onWall ⟨x,y⟩ W)) H'
def Qg:bo ["x","y","wall","along"] ["x","y","wall"] (aP (ig 77)):=jY
include m in
def Sr:du P w K mg base jw 2 (m.fn 77) (m.fd 77) ["x","y","wall"] Sq:=by
 exact m.d77.F.ok Qg (λT H Q E h=>?_) (λY A C s H T Q E hr h=>?_)
 ·let(x,y,a,W,rfl,_):=h;rfl
 ·let(x,y,a,((j,l),(p,r)),rfl,hw,hx,hy,(h0,h1,h2,h3),k):=h;let hw:H a=aa (.lst [.int j,.int l,.int p,.int r]):=hw;dsimp only at h0 h1 h2 h3;let(z,B,D,I):=b4 (a:=V.int j) (b:=.int l) (c:=.int p) (d:=.int r);exact⟨_,ao (nW (i:=3) Qg.nd rfl (eu rfl) (lM (aS (cI jU (il (pv 2)) (il (pv 2))) (cU (cI jU (il (pv 2)) (il (pv 2)))))))
   (rt (sJ (vL lD (dA m.d74 (Jt m) hr (aS (pv 3) (cU (lM (aS (cI jU (pv 0) (il (pv 2))) (cU (cI jU (pv 1) (il (pv 2))))))))) be (dS _))
    (sJ (mm gC gC (cJ (tX rfl) (by rfl) m.UQ Mp (aS (il (pv 2)) (cU (il (pv 2))))) (pv 0) (cJ (tW rfl) (by rfl) m.UR Mq (aS (il (pv 2)) (cU (il (pv 2))))))
    (Ex (mm gC gC (cJ (tX rfl) (by rfl) m.UQ Mp (aS (il (pv 2)) (cU (il (pv 2))))) (pv 1) (cJ (tW rfl) (by rfl) m.UR Mq (aS (il (pv 2)) (cU (il (pv 2)))))))))),?_⟩
  exact WL _ rfl (WI a _ _ _ rfl rfl (dL.of hw) D (WL _ rfl (WI a _ _ _ rfl rfl (dL.of hw) z (WJ _ _ rfl rfl (WL _ rfl (WI a _ _ _ rfl rfl (dL.of hw) I (WL _ rfl (WI a _ _ _ rfl rfl (dL.of hw) B (WN _ _ rfl rfl (by show 2<=aI;decide) λt ft=>?_)))))))));let M:aU H (bD H t (.tup [.int (p-j),.int (r-l)])):=aU.new ft;let u:=M _ _ hw;exact WL _ rfl (WL _ rfl (WL _ rfl (WI a _ _ _ rfl rfl (dL.of u) z (WJ _ _ rfl rfl (WL _ rfl (WL _ rfl (WI a _ _ _ rfl rfl (dL.of u) B (WN _ _ rfl rfl (by show 2<=aI;decide) λN v=>?_))))))));let O:=M.t (o:=.tup [.int (x-j),.int (y-l)]) v;let e:=O _ _ hw;let tt:t≠N:=aL ak v;exact WF t N (p-j) (r-l) (x-j) (y-l) ⟨rfl,(by rw[aF tt,ak]),ak,(by unfold Co at *;unfold Sm;omega),(by unfold Co at *;unfold Sm;omega),rfl,WL _ rfl ?_⟩;let f:=k _ O;unfold Vbwsag.onWall oT gv at f;dsimp only at f;exact fO (λc=>?_) λc=>?_
  ·let c:(p-j)*(y-l)-(r-l)*(x-j)=0:=V.int.inj c;rw[c] at f;simp only[beq_self_eq_true,gW] at f;exact WL _ rfl (WI a _ _ _ rfl rfl (dL.of e) z (WL _ rfl (WI a _ _ _ rfl rfl (dL.of e) D (WB _ _ ⟨rfl,WL _ rfl (WJ _ _ rfl rfl (WL _ rfl ?_))⟩))));rw[BF];exact fO (λc1=>?_) λc1=>?_
   ·simp only[decide_eq_true c1,gW] at f;exact WL _ rfl (WI a _ _ _ rfl rfl (dL.of e) z (WL _ rfl (WI a _ _ _ rfl rfl (dL.of e) D (WB _ _ ⟨rfl,WJ _ _ rfl rfl (WL _ rfl ?_)⟩))));rw[BE];exact fO (λJ=>?_) λJ=>?_
    ·simp only[decide_eq_true J,gW] at f;exact WL _ rfl (WI a _ _ _ rfl rfl (dL.of e) B (WL _ rfl (WI a _ _ _ rfl rfl (dL.of e) I (WB _ _ ⟨rfl,WL _ rfl (WJ _ _ rfl rfl (WL _ rfl ?_))⟩))));rw[BF];exact fO (λL=>?_) λL=>?_
     ·simp only[decide_eq_true L,gW] at f;exact(_,rfl,WI a _ _ _ rfl rfl (dL.of e) B ⟨_,rfl,WI a _ _ _ rfl rfl (dL.of e) I (WB _ _ ⟨rfl,WJ _ _ rfl rfl ?_⟩)⟩);rw[BE];exact f
     ·simpa only[decide_eq_false L,gu] using f
    ·simpa only[decide_eq_false J,gu] using f
   ·exact WL _ rfl (i7 ?_);simpa only[decide_eq_false c1,gu] using f
  ·let c:¬(p-j)*(y-l)-(r-l)*(x-j)=0:=λq=>c (by rw[q])
   simpa only[beq_eq_false_iff_ne.mpr c,gu] using f
end
section
variable {P:aO} {w:World} {K:am} {mg:Str->Option ag} {base:Heap} (m:Mo K mg)
def Ju (dx c d e ex f:Int):Option (Int×Int):=
 let l:=dx*dx+c*c
 let a:=dx*d+c*e
 let b:=a+(dx*ex+c*f)
 if max a b<0\/l<min a b then ac else aa (max (min a b) 0,l)
def Oq:Sp:=λo H Q _=>∃(a b c:Addr) (d e f i j l:Int),o=[.ref a,.ref b,.ref c]/\H a=aa (.tup [.int d,.int e])/\H b=aa (.tup [.int f,.int i])/\H c=aa (.tup [.int j,.int l])/\Sm d/\Sm e/\vY (Ju d e f i j l) H Q
def Qh:bo ["along","offset","wall_along","length","start","end"] ["along","offset","wall_along"] (aP (ig 78)):=jY
include m in
def Ss:du P w K mg base jw 2 (m.fn 78) (m.fd 78) ["along","offset","wall_along"] Oq:=by
 exact m.d78.F.ok Qh (λC H Q E h=>?_) (λD A i s H C Q E j h=>?_)
 ·let(a,b,c,d,e,v,x,y,z,rfl,_):=h;rfl
 ·let(a,b,c,d,e,v,x,y,z,rfl,f,I,J,l,o,k):=h;let r:=Qh.nd;exact⟨_,ao (sT 3 r (dA m.d75 (Om m) j (aS (pv 0) (cU (pv 0)))))
   (ao (sT 4 r (dA m.d75 (Om m) j (aS (pv 0) (cU (pv 1)))))
   (ao (sT 5 r (cI o6 (pv 4) (dA m.d75 (Om m) j (aS (pv 0) (cU (pv 2))))))
   (ao (dG (Iy (df rF (cJ (tW rfl) (by rfl) m.UR Mq (aS (pv 4) (cU (pv 5)))) be (dS _)) (Ew (df MI (cJ (tX rfl) (by rfl) m.UQ Mp (aS (pv 4) (cU (pv 5)))) (pv 3) (dS _)))).pt (rt uQ) bS)
   (rt (lM (aS (cJ (tW rfl) (by rfl) m.UR Mq (aS (cJ (tX rfl) (by rfl) m.UQ Mp (aS (pv 4) (cU (pv 5)))) (cU be))) (cU (pv 3)))))))),?_⟩
  exact(_,rfl,_,rfl,WF a a d e d e ⟨rfl,f,f,l,o,?_⟩);exact(_,rfl,_,rfl,WF a b d e v x ⟨rfl,f,I,l,o,?_⟩);exact(_,rfl,_,rfl,_,rfl,WF a c d e y z ⟨rfl,f,J,l,o,WJ _ _ rfl rfl ?_⟩);unfold vY Ju at k;dsimp only at k;exact(_,rfl,WL _ rfl (WB _ _ ⟨rfl,WJ _ _ rfl rfl (WL _ rfl ?_)⟩));rw[BE];exact fO (λc1=>?_) λc1=>?_
  ·rw[jN (.inl c1)] at k;exact jD (k H (aU.refl H))
  exact(_,rfl,_,rfl,WB _ _ ⟨rfl,_,rfl,WJ _ _ rfl rfl (WL _ rfl ?_)⟩);rw[BF];exact fO (λu=>?_) λu=>?_
  ·rw[jN (.inr u)] at k;exact k H (aU.refl H)
  rw[iQ (λq=>q.elim c1 u)] at k;exact(_,rfl,_,rfl,WB _ _ ⟨rfl,WB _ _ ⟨rfl,?_⟩⟩);rw[BF,BE];exact WU _ rfl (by show 2<=aI;decide) λp B=>k _ p (aU.new B) B ak
def TV (K:am)(H:Hp)(a:Addr)(p q:gS):Prop:=LT K H a [.int p.x,.int p.y,.int q.x,.int q.y]
def F2 (p:gS):Prop:=Co p.x/\Co p.y
def Ot (K:am):Sp:=λc H Q _=>∃(a b:Addr) (p q:gS) (W:dU),c=[.ref a,.ref b]/\TV K H a p q/\Pd H b W/\F2 p/\F2 q/\Op W/\vY (Sp.Ih p q W) H Q
def Qi:bo ["line","wall","along","wall_along","offset","turn"] ["line","wall"] (aP (ig 79)):=jY
def vY.weak {o:Option (Int×Int)}{Q:VK}(k:vY o H Q)(s:aU H H'):vY o H' Q:=by
 cases o with
 |none=>exact λa b=>k a (s.trans b)
 |some x=>exact λa p b f e=>k a p (s.trans b) (s.free f) e
include m in
def Qj:du P w K mg base jw 3 (m.fn 79) (m.fd 79) ["line","wall"] (Ot K):=by
 exact m.d79.F.ok Qi (λvs H Q E h=>?_) (λcb A b3 s H vs Q E hr h=>?_)
 ·let(a,b,p,q,W,rfl,_):=h;rfl
 ·let(a,b,(e,f),(i,j),((r,x),(B,C)),rfl,L,hw,(c0,c1),(c2,c3),(d0,d1,d2,d3),k):=h;let hw:H b=aa (.lst [.int r,.int x,.int B,.int C]):=hw;let L:LT K H a [.int e,.int f,.int i,.int j]:=L;dsimp only at c0 c1 c2 c3 d0 d1 d2 d3;let D:=hr.mono (show 1<=2 by decide);let nd:=Qi.nd;let(i0,i1,i2,i3):=b4 (a:=V.int r) (b:=.int x) (c:=.int B) (d:=.int C);let(j0,j1,j2,j3):=b4 (a:=V.int e) (b:=.int f) (c:=.int i) (d:=.int j);exact⟨_,ao (sT 2 nd (lM (aS (cI jU (ot xC (pv 0) be (λ_ _=>rfl)) (ot xC (pv 0) be (λ_ _=>rfl))) (cU (cI jU (ot xC (pv 0) be (λ_ _=>rfl)) (ot xC (pv 0) be (λ_ _=>rfl)))))))
   (ao (sT 3 nd (lM (aS (cI jU (il (pv 1)) (il (pv 1))) (cU (cI jU (il (pv 1)) (il (pv 1)))))))
   (ao (sT 4 nd (lM (aS (cI jU (il (pv 1)) (ot xC (pv 0) be (λ_ _=>rfl))) (cU (cI jU (il (pv 1)) (ot xC (pv 0) be (λ_ _=>rfl)))))))
   (ao (sT 5 nd (dA m.d74 (Jt m) D (aS (pv 2) (cU (pv 3)))))
   (ao (dG (df yR (pv 5) be (dS _)) (rt (dA m.d76 (So m) hr (aS (dA m.d74 (Jt m) D (aS (pv 4) (cU (pv 3)))) (aS (dA m.d74 (Jt m) D (aS (pv 4) (cU (pv 2)))) (cU (pv 5)))))) bS)
   (ao (dG (df (IT hr.units) (pv 2) (lM (aS be (cU be))) (dS _)) (rt (o0 (mj (dA m.d77 (Sr m) hr (aS (ot xC (pv 0) be (λ_ _=>rfl)) (aS (ot xC (pv 0) be (λ_ _=>rfl)) (cU (pv 1)))))) (lM (aS be (cU be))) uQ)) bS)
   (ao (dG (df yR (dA m.d74 (Jt m) D (aS (pv 4) (cU (pv 2)))) be (dS _)) (rt uQ) bS)
   (rt (dA m.d78 (Ss m) hr (aS (pv 2) (aS (pv 4) (cU (pv 3))))))))))))
   ,?_⟩
  exact WL _ rfl (WI a _ _ _ rfl rfl L j2 (WL _ rfl (WI a _ _ _ rfl rfl L j0 (WJ _ _ rfl rfl (WL _ rfl (WI a _ _ _ rfl rfl L j3 (WL _ rfl (WI a _ _ _ rfl rfl L j1 (WN _ _ rfl rfl (by show 2<=aI;decide) λt ft=>?_)))))))));let s1:aU H (bD H t (.tup [.int (i-e),.int (j-f)])):=aU.new ft;let I:=s1 _ _ hw;exact WL _ rfl (WI b _ _ _ rfl rfl (dL.of I) i2 (WL _ rfl (WI b _ _ _ rfl rfl (dL.of I) i0 (WJ _ _ rfl rfl (WL _ rfl (WI b _ _ _ rfl rfl (dL.of I) i3 (WL _ rfl (WI b _ _ _ rfl rfl (dL.of I) i1 (WN _ _ rfl rfl (by show 2<=aI;decide) λt2 al=>?_)))))))));let s2:=s1.t (o:=.tup [.int (B-r),.int (C-x)]) al;let an:=s2 _ _ hw;let ap:=L.same s2;exact WL _ rfl (WI b _ _ _ rfl rfl (dL.of an) i0 (WL _ rfl (WI a _ _ _ rfl rfl ap j0 (WJ _ _ rfl rfl (WL _ rfl (WI b _ _ _ rfl rfl (dL.of an) i1 (WL _ rfl (WI a _ _ _ rfl rfl ap j1 (WN _ _ rfl rfl (by show 2<=aI;decide) λt3 O=>?_)))))))));let s3:=s2.t (o:=.tup [.int (r-e),.int (x-f)]) O;generalize T:bD (bD (bD H t (.tup [.int (i-e),.int (j-f)])) t2 (.tup [.int (B-r),.int (C-x)])) t3 (.tup [.int (r-e),.int (x-f)])=H3 at s3⊢;let Y:H3 t3=aa (.tup [.int (r-e),.int (x-f)]):=by rw[<-T];exact ak
  let a0:H3 t2=aa (.tup [.int (B-r),.int (C-x)]):=by rw[<-T];exact aU.new O _ _ ak
  let et:H3 t=aa (.tup [.int (i-e),.int (j-f)]):=by rw[<-T];exact aU.new O _ _ (aU.new al _ _ ak)
  let bk:=s3 _ _ hw;let bl:=L.same s3;let z:∀{u v:Int},Co u->Co v->Sm (u-v):=λhu hv=>by unfold Co at *;unfold Sm;omega
  exact(_,rfl,WL _ rfl (WF t t2 _ _ _ _ ⟨rfl,et,a0,z c2 c0,z c3 c1,?_⟩));let kk:=k.weak s3;unfold Sp.Ih oT gv Vbwsag.dot at kk;dsimp only at kk;exact WU _ rfl rfl (WL _ rfl (vX (λM=>?_) λM=>?_))
  ·let M:(i-e)*(C-x)-(j-f)*(B-r)≠0:=λq=>M (by rw[q])
   rw[jN M] at kk;exact WL _ rfl (WL _ rfl (WF t3 t2 _ _ _ _ ⟨rfl,Y,a0,z d0 c0,z d1 c1,WL _ rfl (WL _ rfl (WF t3 t _ _ _ _ ⟨rfl,Y,et,z d0 c0,z d1 c1,WL _ rfl (WS _ _ _ rfl M kk)⟩))⟩))
  let M:(i-e)*(C-x)-(j-f)*(B-r)=0:=V.int.inj M;rw[iQ (λq=>q M)] at kk;exact WU _ rfl (by show 2<=aI;decide) λt4 bm=>?_;let N:=aU.new (o:=.tup [.int 0,.int 0]) bm;exact WN (.tuple [.int (i-e),.int (j-f)]) (.tuple [.int 0,.int 0]) (.tup (o4.of (N _ _ et)) (.cons (.int _) (.cons (.int _) .nil))) (.tup (o4.of ak) (.cons (.int _) (.cons (.int _) .nil))) rfl ⟨rfl,WL _ rfl ?_⟩;let l:=kk.weak N;generalize cl:bD H3 t4 (.tup [.int 0,.int 0])=H4 at N l⊢;let ee:zz (.tuple [.int (i-e),.int (j-f)]) (.tuple [.int 0,.int 0])=(decide (i-e=0)&&(decide (j-f=0)&&ae)):=rfl;rw[ee];exact Dg (λn2=>?_) λn2=>?_
  ·let n2:i-e=0/\j-f=0:=by simpa using n2
   let e1:i=e:=⋯
   let e2:j=f:=⋯
   rw[jN (by rw[e1,e2])] at l;let bx:=N _ _ bk;let as:=bl.same N;exact WL _ rfl (WI a _ _ _ rfl rfl as j0 (WL _ rfl (WI a _ _ _ rfl rfl as j1 ⟨_,rfl,WK e f b ⟨⟨r,x⟩,⟨B,C⟩⟩ rfl bx c0 c1 ⟨d0,d1,d2,d3⟩ λH5 s5=>(WL _ rfl ?_)⟩)));let J:=l.weak s5;exact Dg (λy=>?_) λy=>?_
   ·rw[jN y] at J;exact((by show 2<=aI;decide),λt6 av=>J _ t6 (aU.new av) av ak)
   ·rw[iQ (by rw[y];simp)] at J;exact J H5 (aU.refl _)
  ·let n2:¬(i-e=0/\j-f=0):=by
    intro q;simp[q.1,q.2] at n2
   rw[iQ (λq=>by injection q with q1 q2;omega)] at l
   let e3:=N _ _ Y;let e2:=N _ _ a0;let e1:=N _ _ et;exact(_,rfl,WL _ rfl (WF t3 t _ _ _ _ ⟨rfl,e3,e1,z d0 c0,z d1 c1,rfl,WL _ rfl (vX (λy=>?_) λy=>?_)⟩))
   ·let y:(r-e)*(j-f)-(x-f)*(i-e)≠0:=λq=>y (by rw[q])
    rw[jN y] at l;exact l H4 (aU.refl _)
   ·let y:(r-e)*(j-f)-(x-f)*(i-e)=0:=V.int.inj y;rw[iQ (λq=>q y)] at l;exact(_,rfl,_,rfl,_,rfl,WG t t3 t2 _ _ _ _ (WN _ _ rfl e1 e3 ⟨e2,z c2 c0,z c3 c1,?_⟩));unfold Ju;dsimp only;rw[ny (i-e) (r-e),ny (j-f) (x-f),ny (i-e) (B-r),ny (j-f) (C-x)];exact l
end
def Hi {j:Int}(b:0<j)(h:j<2^64):j.natAbs.log2<9000:=by
 let a:j.natAbs≠0:=⋯
 let c:j.natAbs.log2<64:=(Nat.log2_lt a).mpr ⋯;omega
def Dj {X:Cx}:tV X (mJ .FloorDiv) (rI (λ_ j=>0<j/\j<2^64) λi j=>.int (i/j)):=PF λi j _ _ _ _ _ hc q=>by
 exact floordiv_int ⋯ ?_ (.inl (PyProof.noPylong_of_log2 (Hi hc.1 hc.2)));rw[qm _ ⋯];exact q
abbrev FU:=Option (Nat×(Int×Int))
def mR (p q:gS)(a:FU)(x:Nat×dU):FU:=match Sp.Ih p q x.2 with
 |none=>a
 |some f=>match a with
  |none=>aa (x.1,f)
  |some b=>if f.1*b.2.2<b.2.1*f.2 then aa (x.1,f) else a
def EU (ws:List dU)(p q:gS):FU:=((bH ws.length).zip ws).foldl (mR p q) ac
theorem pc (p q:gS):∀(l:List (Nat×dU)) (b:FU),(∀x,b=aa x->0<x.2.2)->
  l.foldl (λa x=>match Vbwsag.hitAt p q x.2 with
   |none=>a
   |some f=>match a with
    |none=>aa (x.1,f)
    |some b=>if f.lt b.2=ae then aa (x.1,f) else a) (b.map λx=>(x.1,kC x.2.1 x.2.2))=(l.foldl (mR p q) b).map λx=>(x.1,kC x.2.1 x.2.2)
 |[],b,_=>rfl
 |x::l,b,i=>by
  rw[eX,eX,Sp.Ii]
  cases e:Sp.Ih p q x.2 with
  |none=>
   let d:mR p q b x=b:=by unfold mR;rw[e]
   rw[d];exact pc p q l b i
  |some f=>
   let j:=Sp.Pn e
   cases b with
   |none=>
    let d:mR p q ac x=aa (x.1,f):=by unfold mR;rw[e]
    rw[d];exact pc p q l (aa (x.1,f)) λy o=>by cases o;exact j
   |some b=>
    let r:=i b rfl;let d:mR p q (aa b) x=if f.1*b.2.2<b.2.1*f.2 then aa (x.1,f) else aa b:=by unfold mR;rw[e]
    rw[d];simp only[kf,Sp.yi j r,decide_eq_true_eq];by_cases c:f.1*b.2.2<b.2.1*f.2
    ·rw[jN c,jN c];exact pc p q l (aa (x.1,f)) λy o=>by cases o;exact j
    ·rw[iQ c,iQ c];exact pc p q l (aa b) i
def Dl (ws:List dU)(p q:gS):yy ws p q=(EU ws p q).map λx=>(x.1,kC x.2.1 x.2.2):=pc p q _ ac λ_ h=>by cases h
def zL (x:Int×Int):Prop:=0<=x.1/\x.1<=x.2/\0<x.2/\x.2<=80000000000
def F3 {p q:gS}{W:dU}{x:Int×Int}(H:F2 p)(I:F2 q)(hw:Op W)(h:Sp.Ih p q W=aa x):zL x:=by
 let((i,j),(l,o)):=W;let(b,c):=p;let(d,e):=q;let(c0,c1):=H;let(r,s):=I;let(w,y,z,A):=hw;dsimp only at c0 c1 r s w y z A;let f:∀{u v:Int},Co u->Co v-> -200000<=u-v/\u-v<=200000:=λL M=>by unfold Co at *;omega
 let a:=Sp.Pn h;let B:=LC (f r c0) (f s c1) (f z w) (f A y);let C:=P9 (f r c0) (f s c1) (f r c0) (f s c1);let B: -80000000000<=oT (gv ⟨d,e⟩ ⟨b,c⟩) (gv ⟨l,o⟩ ⟨i,j⟩)/\oT (gv ⟨d,e⟩ ⟨b,c⟩) (gv ⟨l,o⟩ ⟨i,j⟩)<=80000000000:=B;let C: -80000000000<=Vbwsag.dot (gv ⟨d,e⟩ ⟨b,c⟩) (gv ⟨d,e⟩ ⟨b,c⟩)/\Vbwsag.dot (gv ⟨d,e⟩ ⟨b,c⟩) (gv ⟨d,e⟩ ⟨b,c⟩)<=80000000000:=C;unfold Sp.Ih at h;dsimp only at h;unfold zL;by_cases D:oT (gv ⟨d,e⟩ ⟨b,c⟩) (gv ⟨l,o⟩ ⟨i,j⟩)≠0
 ·rw[jN D] at h;by_cases E:oT (gv ⟨d,e⟩ ⟨b,c⟩) (gv ⟨l,o⟩ ⟨i,j⟩)<0
  ·rw[jN E] at h;split at h
   ·rename_i J;cases h;dsimp only at a⊢;omega
   ·cases h
  ·rw[iQ E] at h;split at h
   ·rename_i J;cases h;dsimp only at a⊢;omega
   ·cases h
 ·rw[iQ D] at h;split at h
  ·split at h
   ·cases h;exact(by decide,by decide,by decide,by decide)
   ·cases h
  ·split at h
   ·cases h
   ·split at h
    ·cases h
    ·rename_i N;cases h;dsimp only at a⊢;omega
theorem wV {p q:gS}(d:F2 p)(i:F2 q):∀(l:List (Nat×dU)) (b:FU),(∀x∈l,Op x.2)->(∀x,b=aa x->zL x.2)->∀x,l.foldl (mR p q) b=aa x->zL x.2
 |[],b,_,c,x,h=>c x h
 |y::l,b,j,c,x,h=>by
  exact wV d i l (mR p q b y) (λz a=>j z (au _ a)) (λz a=>?_) x h;unfold mR at a
  cases e:Sp.Ih p q y.2 with
  |none=>rw[e] at a;exact c z a
  |some f=>
   let o:=F3 d i (j y (aD ..)) e;rw[e] at a
   cases b with
   |none=>cases a;exact o
   |some b=>
    simp only at a;split at a
    ·cases a;exact o
    ·exact c z a
section
variable {P:aO} {w:World} {K:am} {mg:Str->Option ag} {base:Heap} (m:Mo K mg)
def Ou:Sp:=λc H Q _=>∃(a b:Addr) (x y:Int×Int),c=[.ref a,.ref b]/\H a=aa (.tup [.int x.1,.int x.2])/\H b=aa (.tup [.int y.1,.int y.2])/\zL x/\zL y/\Q (.bl (decide (x.1*y.2<y.1*x.2))) H
def Su:bo ["share","other"] ["share","other"] (aP (ig 80)):=jY
def zL.sm {x:Int×Int}(h:zL x):Sm x.1:=by
 let(a,b,c,d):=h;unfold Sm;omega
include m in
def Sv:du P w K mg base jw 1 (m.fn 80) (m.fd 80) ["share","other"] Ou:=by
 exact m.d80.F.ok Su (λf H Q E h=>?_) (λi A c s H f Q E o h=>?_)
 ·let(a,b,x,y,rfl,_):=h;rfl
 ·let(a,b,x,y,rfl,d,e,j,l,k):=h;exact(_,bN (lr (vL rF (cI lu (iq (pv 0)) (iq (pv 1))) (cI lu (iq (pv 1)) (iq (pv 0))) (dS _))),?_);exact(_,rfl,WI a _ _ _ rfl rfl (o4.of d) MT ⟨_,rfl,WI b _ _ _ rfl rfl (o4.of e) LF (WN _ _ rfl rfl (.inl j.sm) ⟨_,rfl,WI b _ _ _ rfl rfl (o4.of e) MT ⟨_,rfl,WI a _ _ _ rfl rfl (o4.of d) LF (WN _ _ rfl rfl (.inl l.sm) (WJ _ _ rfl rfl k))⟩⟩)⟩)
def Hj (H:Hp)(b:List Addr)(ws:List dU):Prop:=a9 (λa W=>Pd H a W) b ws
theorem Hj.at_ {H:Hp}:∀{b:List Addr} {ws:List dU} {i:Nat} {a:Addr},Hj H b ws->b[i]?=aa a->∃W,ws[i]?=aa W/\Pd H a W
 |_,_,i,a,.nil,h=>by simp at h
 |_,_,0,a,.cons h _,e=>⟨_,rfl,by rw[<-a6 e];exact h⟩
 |_,_,i+1,a,.cons _ r,e=>Hj.at_ (i:=i) r e
def Ov (H:Hp)(v:V):FU->Prop
 |none=>v=.non
 |some x=>∃T S,v=.ref T/\H T=aa (.tup [.int x.1,.ref S])/\H S=aa (.tup [.int x.2.1,.int x.2.2])
def Ov.same {v:V}{o:FU}(h:Ov H v o)(s:aU H H'):Ov H' v o:=by
 cases o with
 |none=>exact h
 |some x=>let(T,S,e,a,b):=h;exact WJ T S e (s _ _ a) (s _ _ b)
def LH (K:am):Sp:=λe H Q _=>∃(a b:Addr) (p q:gS) (d:List Addr) (c:List dU),e=[.ref a,.ref b]/\TV K H a p q/\H b=aa (.lst (d.map V.ref))/\Hj H d c/\F2 p/\F2 q/\(∀W∈c,Op W)/\
 ∀H' v,aU H H'->Ov H' v (EU c p q)->Q v H'
def Qk:bo ["line","walls","first","i","wall","share"] ["line","walls"] (aP (ig 81)):=jY
def Ow {ws:List dU}{W:dU}(h:ws[i]?=aa W):((bH ws.length).zip ws)[i]?=aa (i,W):=by
 let a:=(bf.mp h).1;rw[List.getElem?_zip_eq_some];exact(by rw[HK a],h)
include m in
def Sw:du P w K mg base jw 4 (m.fn 81) (m.fd 81) ["line","walls"] (LH K):=by
 exact m.d81.F.ok Qk (λvs H Q E h=>?_) (λb2 A L s H vs Q E hr h=>?_)
 ·let(a,b,p,q,I,d,rfl,_):=h;rfl
 ·let(a,b,p,q,I,d,rfl,hl,hb,hW,M,N,O,k):=h;let u:=Qk.nd;let Y:=hr.mono (show 1<=3 by decide);let el:I.length=d.length:=cB hW;exact⟨_,ao (sT 2 u uQ)
   (ao (kj cQ rfl (FO rfl m.Vs (cU (pv 1))) (Bi rfl (lC (fC (i:=3) u rfl (eu rfl)) (lC (fC (i:=4) u rfl (eu rfl)) vJ)))
    (ao (sT 5 u (dA m.d79 (Qj m) hr (aS (pv 0) (cU (pv 4)))))
    (bN (dG (qf (iu (Fw (pv 5))) (oG (Iy (iu (m9 (pv 2))) (Ew (mj (dA m.d80 (Sv m) Y (aS (pv 5) (cU (iq (pv 2)))))))).pt)).pt (bN (sT 2 u (lM (aS (pv 3) (cU (pv 5)))))) bS))))
   (rt (pv 2))),?_⟩
  exact WL _ rfl (WJ b _ rfl (dL.of hb) (Jn (K:=K) (a:=b) (xs:=I.map V.ref) (λi σ H'=>∃(v:V) (v1 v2 v3:Option V),σ=[aa (.ref a),aa (.ref b),aa v,v1,v2,v3]/\aU H H'/\Ov H' v ((((bH d.length).zip d).take i).foldl (mR p q) ac))
   (WD .non ac ac ac ⟨rfl,aU.refl _,rfl⟩) (λi σ H' x'=>V42 x' λ_ _ _ _ _ y _=>dL.of (y _ _ hb)) ?_ ?_))
  ·intro i x T σ J z x' fT;let(v,v1,v2,v3,rfl,s1,r):=x';let(c,hc,rfl):=km z;let(W,hw,ew):=hW.at_ hc;let y:aU J (bD J T (.tup [.int (i:Nat),.ref c])):=aU.new fT;let l:=s1.trans y;exact WN T _ rfl (o4.of ak) rfl (WB _ _ ⟨rfl,WJ _ _ rfl rfl ?_⟩);exact WL _ rfl (WL _ rfl (WM a c p q W rfl (hl.same l) (l _ _ ew) M N (O W (bj hw)) ?_));let ft:(((bH d.length).zip d).take (i+1)).foldl (mR p q) ac=mR p q ((((bH d.length).zip d).take i).foldl (mR p q) ac) (i,W):=by
    rw[eB (Ow hw),qI];rfl
   let hF:∀x,(((bH d.length).zip d).take i).foldl (mR p q) ac=aa x->zL x.2:=wV M N _ ac (λx z=>O x.2 (ky (oy z)).2) λx z=>by cases z
   rw[ft];generalize (((bH d.length).zip d).take i).foldl (mR p q) ac=B at r hF⊢;unfold mR vY;dsimp only
   cases e:Sp.Ih p q W with
   |none=>
    intro H3 C;exact WL _ rfl (WL _ rfl (i7 (i7 (WD v _ _ _ ⟨rfl,l.trans C,(r.same y).same C⟩))))
   |some f=>
    intro H3 S C fS eS;let o:=l.trans C;let f3:=(r.same y).same C;exact WL _ rfl (WL _ rfl (jD ?_))
    cases B with
    |none=>
     let ev:v=.non:=f3;subst ev;exact WL _ rfl (WL _ rfl (jD (jD ?_)));exact WL _ rfl (WU _ rfl (by show 2<=aI;decide) λD j=>?_);exact WD (.ref D) _ _ _ ⟨rfl,o.t j,WJ D S rfl ak (aU.new j _ _ eS)⟩
    |some a5=>
     let(T0,S0,rfl,h1,h2):=f3;exact WL _ rfl (WL _ rfl (i7 ?_));exact WL _ rfl (WL _ rfl (WI T0 _ _ _ rfl rfl (o4.of h1) LF (WK S S0 f a5.2 rfl eS h2 (F3 M N (O W (bj hw)) e) (hF _ rfl) (WL _ rfl (fO (λc1=>?_) λc1=>?_)))))
     ·exact WL _ rfl (WU _ rfl (by show 2<=aI;decide) λD j=>?_);exact WD (.ref D) _ _ _ ⟨rfl,o.t j,?_⟩;show Ov _ _ (if _ then _ else _)
      rw[jN c1];exact WJ D S rfl ak (aU.new j _ _ eS)
     ·exact WD (.ref T0) _ _ _ ⟨rfl,o,?_⟩;show Ov _ _ (if _ then _ else _)
      rw[iQ c1];exact WJ T0 S0 rfl h1 h2
  ·intro σ J x';let(v,v1,v2,v3,rfl,s1,r):=x';exact(_,rfl,k J v s1 ?_);let e1:(I.map V.ref).length=((bH d.length).zip d).length:=by rw[aj,zD,g9,el,Nat.min_self]
   rw[e1,cg] at r;exact r
def LI:Sp:=λb H Q _=>∃(a:Addr) (x:Int×Int),b=[.ref a]/\H a=aa (.tup [.int x.1,.int x.2])/\zL x/\y6 [.int (kC x.1 x.2).num,.int (kC x.1 x.2).den] H Q
def Ql:bo ["share","divisor","rest","smaller"] ["share"] (aP (ig 82)):=jY
include m in
def Sx:du P w K mg base jw 1 (m.fn 82) (m.fd 82) ["share"] LI:=by
 exact m.d82.F.ok Ql (λB H Q E h=>?_) (λC A j s H B Q E Y h=>?_)
 ·let(a,x,rfl,_):=h;rfl
 ·let(a,(n,d),rfl,e,(o,l,u,I),k):=h;dsimp only at e o l u I k;let f:=Ql.nd;exact⟨_,ao (sT 1 f (iq (pv 0)))
   (ao (sT 2 f (iq (pv 0)))
   (ao (sK cQ (df yR (pv 2) be (dS _))
    (ao (sT 3 f (cI Bk (pv 1) (pv 2)))
    (ao (sT 1 f (pv 2)) (bN (sT 2 f (pv 3))))))
   (rt (cr (aS (cI Dj (iq (pv 0)) (pv 1)) (cU (cI Dj (iq (pv 0)) (pv 1)))))))),?_⟩
  exact(_,rfl,WI a _ _ _ rfl rfl (o4.of e) LF ⟨_,rfl,WI a _ _ _ rfl rfl (o4.of e) MT ?_⟩);exact CC (λσ H'=>H'=H/\∃(D R:Nat) (v:Option V),σ=[aa (.ref a),aa (.int D),aa (.int R),v]/\0<D/\Nat.gcd R D=Nat.gcd n.natAbs d.natAbs) (λσ _=>match σ with|[_,_,aa (.int r),_]=>r.toNat|_=>0)
   ⟨rfl,WS d.natAbs n.natAbs ac ?_ ⋯ rfl⟩ ?_ ?_
  ·rw[HL o,HL ⋯];rfl
  ·intro σ H' x';let(rfl,D,R,v,rfl,hD,i):=x';exact WU _ rfl rfl (WL _ rfl (vX (λc=>?_) λc=>?_))
   ·let y:R≠0:=λq=>c (by rw[q];rfl)
    exact WL _ rfl (WL _ rfl (WN _ _ rfl rfl (by show(0:Int)<R;omega) ?_));exact WL _ rfl (WU _ rfl ⟨rfl,WS R (D%R) _ rfl ⋯ ?_⟩ ?_)
    ·rw[<-i];exact(Nat.gcd_rec R D).symm
    ·show((D:Int)%(R:Int)).toNat<(R:Int).toNat;have:D%R<R:=iN _ ⋯;omega
   ·let y:R=0:=by have:=V.int.inj c;omega
    subst y;rw[Nat.gcd_zero_left] at i;let J:D<=d.natAbs:=by rw[i];exact Nat.gcd_le_right _ ⋯
    let hc:0<(D:Int)/\(D:Int)<2^64:=⋯
    exact(_,rfl,WI a _ _ _ rfl rfl (o4.of e) MT ⟨_,rfl,WN _ _ rfl rfl hc ⟨_,rfl,WI a _ _ _ rfl rfl (o4.of e) LF ⟨_,rfl,WN _ _ rfl rfl hc ⟨(by show 2<=aI;decide),λp z=>k _ p (aU.new z) z ?_⟩⟩⟩⟩);rw[ak];unfold kC;rw[iQ ⋯,jN u];let L:(E9 n d:Nat)=D:=i.symm;dsimp only;rw[L,HR (Int.ediv_nonneg ⋯ ⋯)]
  ·intro σ H1 Q Q' M x';let(x,N,O,b,T,l):=x';exact(x,N,O,b,T,M _ _ l)
end
def XY (K:am)(H:Hp)(a:Addr)(p:gS):Prop:=∃b,dL K H a b/\yk b 0=aa (.int p.x)/\yk b 1=aa (.int p.y)
def zd {vs:List Int}(h:i<vs.length):yk (iv vs) (i:Int)=aa (.int (vs.getD i 0)):=by
 exact ib (j:=i) ?_;rw[bZ,br h,bh,br h];rfl
theorem XY.of {K:am}{vs:List Int}(h:H a=aa (.lst (iv vs)))(b:2<=vs.length):XY K H a ⟨vs.getD 0 0,vs.getD 1 0⟩:=⟨_,dL.of h,zd (i:=0) ⋯,zd (i:=1) ⋯⟩
section
variable {P:aO} {w:World} {K:am} {mg:Str->Option ag} {base:Heap} (m:Mo K mg)
def Dm (K:am):Sp:=λc H Q _=>∃(a b:Addr) (p q:gS) (r:Nat),c=[.ref a,.ref b,.int r]/\XY K H a p/\XY K H b q/\F2 p/\F2 q/\r<=200000/\Q (.bl (kL p q r)) H
def Qm:bo ["place","other","radius","x","y"] ["place","other","radius"] (aP (ig 84)):=jY
include m in
def Qn:du P w K mg base jw 1 (m.fn 84) (m.fd 84) ["place","other","radius"] (Dm K):=by
 exact m.d84.F.ok Qm (λj H Q E h=>?_) (λl A c s H j Q E I h=>?_)
 ·let(a,b,p,q,r,rfl,_):=h;rfl
 ·let(a,b,p,q,r,rfl,(J,d,o,x),(L,e,y,z),(c0,c1),(B,C),D,k):=h;let f:=Qm.nd;let i:∀{u v:Int},Co u->Co v->Sm (u-v):=λM N=>by unfold Co at *;unfold Sm;omega
  exact⟨_,ao (sT 3 f (cI jU (il (pv 0)) (il (pv 1))))
   (ao (sT 4 f (cI jU (il (pv 0)) (il (pv 1))))
   (rt (vL gC (cI o6 (cI lu (pv 3) (pv 3)) (cI lu (pv 4) (pv 4))) (cI lu (pv 2) (pv 2)) (dS _)))),?_⟩
  exact(_,rfl,WI a _ _ _ rfl rfl d o ⟨_,rfl,WI b _ _ _ rfl rfl e y (WJ _ _ rfl rfl ?_)⟩);exact(_,rfl,WI a _ _ _ rfl rfl d x ⟨_,rfl,WI b _ _ _ rfl rfl e z (WJ _ _ rfl rfl ?_)⟩);exact(_,rfl,_,rfl,WN _ _ rfl rfl (.inl (i c0 B)) ⟨_,rfl,_,rfl,WN _ _ rfl rfl (.inl (i c1 C)) (WJ _ _ rfl rfl ⟨_,rfl,_,rfl,WN _ _ rfl rfl (.inl ⟨⋯,⋯⟩) (WJ _ _ rfl rfl ?_)⟩)⟩);exact k
def Jv (K:am):Sp:=λf H Q _=>∃(a b c:Addr) (p q:gS) (e:List Addr) (d:List dU),f=[.ref a,.ref b,.ref c]/\H a=aa (.lst (e.map V.ref))/\Hj H e d/\XY K H b p/\XY K H c q/\F2 p/\F2 q/\(∀W∈d,Op W)/\
 ∀H',aU H H'->Q (.bl (Vbwsag.blocked d p q)) H'
def Qo:bo ["walls","place","other","line","wall"] ["walls","place","other"] (aP (ig 85)):=jY
include m in
def Sy:du P w K mg base jw 4 (m.fn 85) (m.fd 85) ["walls","place","other"] (Jv K):=by
 exact m.d85.F.ok Qo (λN H Q E h=>?_) (λO A o s H N Q E T h=>?_)
 ·let(a,b,c,p,q,r,u,rfl,_):=h;rfl
 ·let(a,b,c,p,q,r,u,rfl,B,C,(xs,D,Y,x1),(ys,I,y0,y1),cp,cq,cw,k):=h;let J:=Qo.nd;let el:r.length=u.length:=cB C;exact⟨_,ao (sT 3 J (lM (aS (il (pv 1)) (aS (il (pv 1)) (aS (il (pv 2)) (cU (il (pv 2))))))))
   (ao (kj cQ rfl (jg (pv 0)) (fC (i:=4) J rfl (eu rfl)) (bN (dG (iu (Fw (dA m.d79 (Qj m) T (aS (pv 3) (cU (pv 4)))))) (rt Ix) bS)))
   (rt Ix)),?_⟩
  exact WL _ rfl (WI b _ _ _ rfl rfl D Y (WL _ rfl (WI b _ _ _ rfl rfl D x1 (WL _ rfl (WI c _ _ _ rfl rfl I y0 (WL _ rfl (WK c _ _ _ rfl rfl I y1 (by show 4<=aI;decide) λt ft=>?_)))))));let L:aU H (bD H t (.tup [.int p.x,.int p.y,.int q.x,.int q.y])):=aU.new ft;exact WL _ rfl (WU a rfl ⟨_,dL.of (L _ _ B)⟩ (ka (K:=K) (a:=a) (xs:=r.map V.ref) (λi σ H'=>∃v:Option V,σ=[aa (.ref a),aa (.ref b),aa (.ref c),aa (.ref t),v]/\aU H H'/\H' t=aa (.tup [.int p.x,.int p.y,.int q.x,.int q.y])/\(u.take i).any (λW=>(Sp.Ih p q W).isSome)=af)
   ⟨ac,rfl,L,ak,rfl⟩ (λi σ H' _ x'=>V12 x' λ_ _ j _=>dL.of (j _ _ B)) ?_ ?_))
  ·intro i y σ H' hi x';let(v,rfl,j,z,hn):=x';let(d,hd,rfl):=km hi;let(W,hw,ew):=C.at_ hd;exact WL _ rfl (WL _ rfl (WM t d p q W rfl (.inr (o4.of z)) (j _ _ ew) cp cq (cw W (bj hw)) ?_));unfold vY
   cases e:Sp.Ih p q W with
   |none=>
    intro M l;exact WL _ rfl (i7 ⟨_,rfl,j.trans l,l _ _ z,?_⟩);rw[eB hw,List.any_append,hn];simp[e]
   |some f=>
    intro M S l fS eS;exact WL _ rfl (jD ?_);let h:=k M (j.trans l);rw[Sp.Nz,lA.mpr ⟨W,bj hw,by rw[e];rfl⟩] at h;exact h
  ·intro σ H' x';let(v,rfl,j,z,hn):=x';rw[aj,el,cg] at hn;let h:=k H' j;rw[Sp.Nz,hn] at h;exact h
end
section
variable {P:aO} {w:World} {K:am} {mg:Str->Option ag} {base:Heap} (m:Mo K mg)
def Jw (K:am)(p:Int->Bool):Sp:=λb H Q _=>∃(a:Addr) (l:List Int),b=[.ref a]/\dL K H a (iv l)/\l.length<=100000/\∀H',aU H H'->Q (.bl (l.all p)) H'
def Ox:bo ["numbers","number"] ["numbers"] (aP (ig 28)):=jY
def BG {K:am}{g:TG}{te:TE}{σ:L2.St}{vs:List Nat}{p:Int->Bool}{Q:V->Hp->Prop}(u:dL K H a (iv l))(w:l.length<=100000)(k:∀H',aU H H'->Q (.bl (l.all p)) H')(A:∀(z:Int) (H:Hp) (R:V->Hp->Prop),R (.bl (p z)) H->g (.int z) (hU σ vs) H λc d=>hU c vs=hU σ vs/\te c d R)(B:∀(z:Int) (H:Hp) (R o:L2.St->Hp->Prop),(∀c d,R c d->o c d)->g (.int z) (hU σ vs) H R->g (.int z) (hU σ vs) H o):
  ∀D,H D=ac->∃W:Nat->Nat->Hp->Prop,(∃m,W 0 m (bD H D (.lst [])))/\∀i m H,W i m H->
   ((Fx K a).stop i H/\(λv C=>PQ K [v] C Q) (.ref D) H)\/((Fx K a).go i H/\∃j:Hp->Prop,(∀H',j H'->∃q,q<m/\W (i+1) q H')/\∀x H',(Fx K a).yld i H x H'->g x (hU σ vs) H' λc d=>hU c vs=hU σ vs/\NY c d λb r=>
     if b=ae then te c r λy f=>∃acc,f D=aa (.lst acc)/\acc.length<aI/\j (bD f D (.lst (acc++[y]))) else j r):=by
 intro D fD;exact FL (K:=K) (a:=a) (xs:=iv l) (λi H'=>aU H H'/\H' D=aa (.lst (((l.take i).map p).map V.bl))) ⟨aU.new fD,ak⟩ (λi H' _ ⟨s,_⟩=>s.seq u) ?_ ?_
 ·intro i y H' E x';let(s,e):=x';let(z,I,rfl):=km E;exact B z H' _ _ ?_ (A z H' (λy f=>∃acc,f D=aa (.lst acc)/\acc.length<aI/\(aU H (bD f D (.lst (acc++[y])))/\bD f D (.lst (acc++[y])) D=aa (.lst (((l.take (i+1)).map p).map V.bl)))) ?_)
  ·intro c d x';let(J,L):=x';exact(J,?_);unfold NY;dsimp only;rw[jN rfl];exact L
  ·exact(_,e,?_,s.old fD,?_)
   ·rw[aj,aj];exact xA (bq (iE _ _) w)
   ·rw[ak,eB I,bU,bU];rfl
 ·intro H' x';let(s,e):=x';rw[fw,cg] at e;exact(D,l.map p,rfl,dL.of e,?_);rw[D8];exact k H' s
include m in
def Jx:du P w K mg base jw 1 (m.fn 28) (m.fd 28) ["numbers"] (Jw K bP):=by
 exact m.d28.F.ok Ox (λd H Q E h=>?_) (λf A b s H d Q E p h=>?_)
 ·let(a,l,rfl,_):=h;rfl
 ·let(a,l,rfl,c,j,k):=h;exact⟨_,bN (lr (cJ (Bt rfl) (by rfl) m.UP Mr (cU (vQ (own:=[("number",1)]) rfl Ox.nd (jg (pv 0)) (mo (by show yU ["numbers","number"] (aP (ig 28)) _ _=ae;decide +kernel)) (λ_ _ _ _ _=>fC (i:=1) Ox.nd rfl (eu rfl)) (λ_ _ _ _ _=>t7)
   (λ_ _ _ _ _=>mm gC gC (yQ uT (cS m.Vm)) (pv 1) (cS m.Vm)))))),?_⟩
  exact WL _ rfl (WU a rfl ⟨_,c⟩ (BG c j k (λz H R h=>⟨rfl,_,rfl,_,rfl,WJ _ _ rfl rfl ⟨_,rfl,fO (λc1=>?_) λc1=>?_⟩⟩) (λz H R q o h=>o _ _ h)))
  ·let e:bP z=decide (z<=100000):=by
    show(decide (-100000<=z)&&decide (z<=100000))=_;rw[decide_eq_true c1,gW]
   rw[e] at h;exact(_,_,rfl,rfl,h)
  ·let e:bP z=af:=by
    show(decide (-100000<=z)&&decide (z<=100000))=_;rw[decide_eq_false c1,gu]
   rw[e] at h;exact h
def Oy:bo ["numbers","number"] ["numbers"] (aP (ig 29)):=jY
include m in
def Qp:du P w K mg base jw 1 (m.fn 29) (m.fd 29) ["numbers"] (Jw K fu):=by
 exact m.d29.F.ok Oy (λd H Q E h=>?_) (λf A b s H d Q E p h=>?_)
 ·let(a,l,rfl,_):=h;rfl
 ·let(a,l,rfl,c,j,k):=h;exact⟨_,bN (lr (cJ (Bt rfl) (by rfl) m.UP Mr (cU (vQ (own:=[("number",1)]) rfl Oy.nd (jg (pv 0)) (mo (by show yU ["numbers","number"] (aP (ig 29)) _ _=ae;decide +kernel)) (λ_ _ _ _ _=>fC (i:=1) Oy.nd rfl (eu rfl)) (λ_ _ _ _ _=>t7)
   (λ_ _ _ _ _=>mm gC gC (yQ uT (cS m.Vn)) (pv 1) (cS m.Vn)))))),?_⟩
  exact WL _ rfl (WU a rfl ⟨_,c⟩ (BG c j k (λz H R h=>⟨rfl,_,rfl,_,rfl,WJ _ _ rfl rfl ⟨_,rfl,fO (λc1=>?_) λc1=>?_⟩⟩) (λz H R q o h=>o _ _ h)))
  ·let e:fu z=decide (z<=2147483647):=by
    show(decide (-2147483647<=z)&&decide (z<=2147483647))=_;rw[decide_eq_true c1,gW]
   rw[e] at h;exact(_,_,rfl,rfl,h)
  ·let e:fu z=af:=by
    show(decide (-2147483647<=z)&&decide (z<=2147483647))=_;rw[decide_eq_false c1,gu]
   rw[e] at h;exact h
def Oz:bo ["numbers","number"] ["numbers"] (aP (ig 66)):=jY
include m in
def Sz:du P w K mg base jw 1 (m.fn 66) (m.fd 66) ["numbers"] (Jw K l0):=by
 exact m.d66.F.ok Oz (λd H Q E h=>?_) (λf A b s H d Q E p h=>?_)
 ·let(a,l,rfl,_):=h;rfl
 ·let(a,l,rfl,c,j,k):=h;exact⟨_,bN (lr (cJ (Bt rfl) (by rfl) m.UP Mr (cU (vQ (own:=[("number",1)]) rfl Oz.nd (jg (pv 0)) (mo (by show yU ["numbers","number"] (aP (ig 66)) _ _=ae;decide +kernel)) (λ_ _ _ _ _=>fC (i:=1) Oz.nd rfl (eu rfl)) (λ_ _ _ _ _=>t7)
   (λ_ _ _ _ _=>mm gC gC be (pv 1) be))))),?_⟩
  exact WL _ rfl (WU a rfl ⟨_,c⟩ (BG c j k (λz H R h=>⟨rfl,_,rfl,WJ _ _ rfl rfl ⟨_,rfl,fO (λc1=>?_) λc1=>?_⟩⟩) (λz H R q o h=>o _ _ h)))
  ·let e:l0 z=decide (z<=255):=by
    show(decide (0<=z)&&decide (z<=255))=_;rw[decide_eq_true c1,gW]
   rw[e] at h;exact(_,_,rfl,rfl,h)
  ·let e:l0 z=af:=by
    show(decide (0<=z)&&decide (z<=255))=_;rw[decide_eq_false c1,gu]
   rw[e] at h;exact h
def LJ (K:am):Sp:=λb H Q _=>∃(a:Addr) (l:List Int),b=[.ref a]/\dL K H a (iv l)/\l.length<=100000/\∀H',aU H H'->Q (.bl (jA l)) H'
def SD:bo ["numbers"] ["numbers"] (aP (ig 30)):=jY
def BH (l:List Int)(j:Nat):rW (iv l) ac (aa (j:Int))=iv (l.take j):=by
 unfold rW;rw[HT.CI,HT.yj,List.drop_zero,Nat.sub_zero,<-wB,fw];congr 1;rw[<-List.take_take,cg]
def qE (l:List Int)(j:Nat):rW (iv l) (aa (j:Int)) ac=iv (l.drop j):=by
 unfold rW;rw[HT.CI,HT.yj,fw,<-List.map_drop,<-wB];congr 1;rw[kg (by rw[bC];omega)];by_cases h:j<=l.length
 ·rw[Nat.min_eq_left h]
 ·rw[Nat.min_eq_right ⋯,rO,List.drop_of_length_le ⋯]
def Hk (l:List Int):jA l=(l.length==8&&((l.take 2).all bP&&(l.drop 2).all fu)):=by
 unfold jA
 cases h:(l.take 2).all bP with
 |false=>rfl
 |true=>
  let e:l.all fu=(l.drop 2).all fu:=by
   let a:l.all fu=((l.take 2).all fu&&(l.drop 2).all fu):=by
    rw[<-List.all_append,i8]
   rw[a];let b:(l.take 2).all fu=ae:=fV.mpr λz c=>by
    have:=fV.mp h z c;unfold bP fu aX Vbwsag.FAR Vbwsag.MOST at *;simp only[ca,decide_eq_true_eq] at *;omega
   rw[b,gW]
  rw[e];rfl
include m in
def SE:du P w K mg base jw 2 (m.fn 30) (m.fd 30) ["numbers"] (LJ K):=by
 exact m.d30.F.ok SD (λv H Q E h=>?_) (λy A b s H v Q E j h=>?_)
 ·let(a,l,rfl,_):=h;rfl
 ·let(a,l,rfl,e,I,k):=h;exact⟨_,bN (lr (sJ (vL lD (cJ eN (by rfl) m.Uk cM (cU (pv 0))) (cS m.UN) (dS _))
   (sJ (dA m.d28 (Jx m) j (cU (jG kQ (pv 0) mn (jV be)))) (Ex (dA m.d29 (Qp m) j (cU (jG kQ (pv 0) (jV be) mn))))))),?_⟩
  rw[Hk] at k;exact WL _ rfl (WN a _ rfl (.inl e) rfl (WL _ rfl (fO (λc=>?_) λc=>?_)))
  ·let f:l.length=8:=by
    have:=V.int.inj c;rw[fw] at this;omega
   simp only[f,beq_self_eq_true,gW] at k;exact(_,rfl,_,rfl,WJ a _ rfl e λp o=>(WN p (l.take 2) rfl ?_ (by rw[cO];omega) λz r=>(WL _ rfl (Dg (λd=>?_) λd=>?_))))
   ·exact dL.of ?_;rw[ak];exact congrArg (λx=>aa (HO.lst x)) (BH l 2)
   ·rw[d] at k;simp only[gW] at k;let u:=(aU.new o).trans r;exact(_,rfl,_,rfl,WJ a _ rfl (u.seq e) λB i=>(WN B (l.drop 2) rfl ?_ (by rw[bC];omega) λC D=>k C ((u.t i).trans D)));exact dL.of ?_;rw[ak];exact congrArg (λx=>aa (HO.lst x)) (qE l 2)
   ·rw[d] at k;exact k z ((aU.new o).trans r)
  ·let f:(l.length==8)=af:=by
    exact beq_eq_false_iff_ne.mpr λq=>c ?_
    rw[fw,q];rfl
   rw[f] at k;exact k H (aU.refl H)
end
end SA
namespace L2
open PySem PySem.Spec PyProof.Rows
def iJ.obj {P:aO}{w:World}{H:Hp}{h:Heap}{a:Addr}{o:HO}(x:iJ P w H h a o):∃ob,h.get? a=aa ob:=by
 cases o with
 |lst c=>let(_,_,_,_,e):=x;exact(_,e)
 |tup c=>let(_,_,_,o,e,_):=x;exact(o,e)
 |dK b=>let(_,_,_,_,o,_,_,e,_):=x;exact(_,e)
 |dT b=>let(_,_,_,_,o,_,_,e,_):=x;exact(_,e)
 |set S n=>let(o,_,_,_,e,_):=x;exact(_,e)
 |ins C i d=>let(_,_,_,e,_):=x;exact(_,e)
 |own y=>exact x
 |xd d=>let(_,(_,_,_,e,_),_):=x;exact(_,e)
 |rng lo j=>let(_,_,_,e):=x;exact(_,e)
 |frz ob u=>let(e,_):=x;exact(_,e)
 |tbl l=>exact(_,show h.get? a=aa _ from x)
 |met f y=>exact(_,show h.get? a=aa _ from x)
 |ext φ=>exact x.2.1
def Hl (P:aO)(w:World)(C:Addr):HP:=λa H s E e c=>∃(i:Addr) (j:ag) (f:Hp) (B:Heap),e=.ref i/\c.os=s.os/\vc c.gens/\Un (wJ a) [] H f s.heap c.heap/\oE P w f c.heap/\
 Ec B a i (.ref C) j c.heap/\(∀b o,s.heap.get? b=aa o->b∉wJ a->∀d,c.heap.get? b=aa d->B.get? b=aa d)/\(∀b u,f b=aa u->∀d,c.heap.get? b=aa d->B.get? b=aa d)/\E (.ref C) ac f
def LK (K:am)(C:Addr):Prop:=∃(nm q:Str) (N:Addr) (bs:List ag) (b:Bool) (c:List Str) (sub:List ag) (d:Bool) (a:Option Bool) (e:Option Addr) (f i j l o:Option ag),
 K.lookup C=aa (excClassObj nm q C N bs [.type "Exception",.type "BaseException",.type "object"] b c sub d a e f i j l o "Exception.__new__")/\PySem.W.nsOkIn K N=ae/\lc K N "__init__"=aa ac
section
variable {P:aO} {w:World} {K:am} {mg:Str->Option ag} {base:Heap} {N:List Str} {qual:Str} {scope:ku} {f:Addr} {cd:ag} {A:b0} {outer:List Env} {s0:aw} {H0:Hp} {E:XK} {C:Addr}
abbrev uc (P:aO)(w:World)(C:Addr)(K:am)(mg:Str->Option ag)(base:Heap)(N:List Str)(qual:Str)(scope:ku)(f:Addr)(cd:ag)(A:b0)(outer:List Env)(s0:aw)(H0:Hp)(E:XK):Cx:=
 um (Hl P w C) P w K mg base N qual scope f cd A outer s0 H0 E
def Jy {env:Env}{outer:List Env}{L b:Addr}(c:env.frame=aa L)(h:b∈wJ (env::outer)):b=L\/b∈wJ outer:=by
 let(e,he,a):=fL.mp h;rcases az.mp he with rfl|he
 ·exact .inl (a6 (a.symm.trans c))
 ·exact .inr (fL.mpr ⟨e,he,a⟩)
def Dn {pins:List (Addr×Obj)}{σ:St}{H y:Hp}{s s':aw}{v:Heap}{B:Heap}{O:Addr}{a0:ag}(I:cz (uc P w C K mg base N qual scope f cd A outer s0 H0 E) pins σ H s)(ho:s'.os=s.os)(hg:vc s'.gens)
  (p:Un (wJ (uc P w C K mg base N qual scope f cd A outer s0 H0 E).stack) [] H y s.heap s'.heap) (z:oE P w y s'.heap)
  (c1:∀b o,s.heap.get? b=aa o->b∉wJ (uc P w C K mg base N qual scope f cd A outer s0 H0 E).stack->∀o',s'.heap.get? b=aa o'->B.get? b=aa o') (Q:∀b u,y b=aa u->∀o',s'.heap.get? b=aa o'->B.get? b=aa o')
  (ff:s'.heap.FunFrames B (uc P w C K mg base N qual scope f cd A outer s0 H0 E).stack) (fl:Ec B outer O (.ref C) a0 v) (up:s'.heap.UpToSlots v) (q:E (.ref C) ac y):
  Hl P w C outer H0 s0 E (.ref O) {s' with heap:=v}:=by
 let T:(rC qual scope s0.heap.objs.size f cd).frame=aa s0.heap.objs.size:=rfl;let x:∀b o,s0.heap.get? b=aa o->b≠s0.heap.objs.size:=λb o e=>bn (aW e)
 let j:∀b o,s0.heap.get? b=aa o->b∉wJ outer->b∉wJ (uc P w C K mg base N qual scope f cd A outer s0 H0 E).stack:=λb o e a hm=>(Jy T hm).elim (x b o e) a
 let r:∀b,b∈wJ outer->b∈wJ (uc P w C K mg base N qual scope f cd A outer s0 H0 E).stack:=λb a=>by
  let(e,he,Y):=fL.mp a;exact fL.mpr ⟨e,.tail _ he,Y⟩
 let bs:=I.base;let st:=fl.1;exact WK O a0 y B rfl (ho.trans I.os) hg ⟨?_,?_,?_,?_,?_,?_,?_⟩ ?_ ⟨fl,?_,?_,q⟩
 ·intro b o e n a _;let d:=bs.keep b o e n a (by simp[uc,um]);let n1:=bs.free b o e n (by simp[uc,um]);let nb:=j b o e a;exact st b o (c1 b o d nb o (p.keep b o d n1 nb (by simp)))
 ·intro b o e n a _;let(sl,d):=bs.slot b o e n a (by simp[uc,um]);let n1:=bs.free b o e n (by simp[uc,um]);let(b1,i):=p.slot b _ d n1 (r b a) (by simp);let(_,o3,D,nf):=ff.mem (r b a);rw[i] at D;cases D;let(J,e4):=up b _ i nf;exact(J,e4)
 ·intro b o e n _;let(sl,d):=bs.any e n (by simp[uc,um]);exact p.free b _ d (bs.free b o e n (by simp[uc,um])) (by simp)
 ·intro b o e _;let(L,d):=bs.there b o e (by simp[uc,um]);let(l,i):=p.there b L d (by simp);by_cases a:b∈wJ (uc P w C K mg base N qual scope f cd A outer s0 H0 E).stack
  ·let(_,o3,D,nf):=ff.mem a;rw[i] at D;cases D;let(J,e4):=up b _ i nf;exact(_,e4)
  ·exact(_,st b l (c1 b L d a l i))
 ·exact λb xs e=>p.tups b xs (bs.tups b xs e)
 ·exact λb o u e=>p.frzs b o u (bs.frzs b o u e)
 ·intro b ps e;let(m1,d):=bs.tbls b ps e;let(m2,i):=p.tbls b _ d;exact(m1++m2,by rw[i,Array.append_assoc])
 ·intro b u e;exact(z b u e).stay (λc o hc eo=>?_) (λ_ h=>h) λ_ _ h=>h
  rcases hc with rfl|hc
  ·exact st c o (Q c u e o eo)
  ·exact st c o (Q c _ hc o eo)
 ·intro b o e a o' e';let(L,d):=bs.there b o e (by simp[uc,um]);let(l,i):=p.there b L d (by simp);let M:=c1 b L d (j b o e a) l i;let h4:=st b l M;let h5:aa l=aa o':=h4.symm.trans e';rw[<-a6 h5];exact M
 ·intro b u e o' e';let(l,i):=(z b u e).obj;let M:=Q b u e l i;let h5:aa l=aa o':=(st b l M).symm.trans e';rw[<-a6 h5];exact M
def Qq:sL (Hl P w C) (uc P w C K mg base N qual scope f cd A outer s0 H0 E) E:=by
 intro c σ H s e d I x';let(i,v,x,B,rfl,j,l,o,a,fl,c1,p,q):=x';show a8 _ _ (leaving _ (.ref i)) _ _ d;exact wpAny_leaves_onW (L:=s0.heap.objs.size) I.ok.frames rfl fl λr b u=>?_
 exact Dn I j l o a c1 p fl.2.2.1 b u q
def qF {x:Str}{a:Expr}{ta:TE}{np p pos:Pos}(hC:LK K C)(hm:mg x=aa (.ref C))(hh:A.handled=ac)(ha:PE (uc P w C K mg base N qual scope f cd A outer s0 H0 E) a ta)
  (hg:Gl (uc P w C K mg base N qual scope f cd A outer s0 H0 E) x:=by rfl) (Q:(x==("__debug__":Str))=af:=by decide) (hs:bp [a] (uc P w C K mg base N qual scope f cd A outer s0 H0 E).env=[(af,eval a (uc P w C K mg base N qual scope f cd A outer s0 H0 E).env)]:=by rfl):
  PS (uc P w C K mg base N qual scope f cd A outer s0 H0 E) (.Raise (aa (.Call (.Name x np) [a] [] p)) ac pos) (λD σ H=>ta σ H λ_ O=>E (.ref C) ac O):=by
 intro v s σ H D I h;let(nm,q,N',bs,hd,sn,sub,ab,col,dd,k0,k1,k2,k3,k5,hl,d,T):=hC;exact wpAny_Raise_call_sub (C:=C) (nm:=nm) (q:=q) (N:=N') (bs:=bs) (hdct:=hd) (sn:=sn) (sub:=sub) (ab:=ab) (col:=col) (dd:=dd) (k0:=k0) (k1:=k1) (k2:=k2) (k3:=k3) (k5:=k5) (mN:=base.nsMap N') F.excBase_Exception (by exact hh) (by rw[hs];rfl)
  (PySem.W.nsMap_none_of_in I.mod.kin d T) ?_
 exact oF I hg hm ⟨rfl,?_⟩ Q;rw[hs];exact k8 ?_;exact ke (hJ (ha v s σ H _ I h) λu i x'=>V22 x' λy O c r1 q1=>?_);exact mO ⟨rfl,by show 1<=aI;decide,c.kIn _ _ hl,?_,λz e hx=>?_⟩
 ·let(o,es,ep,ho,r):=Heap.Ns.of_isNs (PySem.W.isNs_of_in I.mod.kin d);exact WC o es ep ⟨c.bk _ _ ho,r⟩
 ·show a8 _ _ (leaving _ (.ref e)) _ _ {i with heap:=z}
  let Y:=c.stack;let a0:∀j∈(uc P w C K mg base N qual scope f cd A outer s0 H0 E).stack,∀b,j.frame=aa b->b∈wJ (uc P w C K mg base N qual scope f cd A outer s0 H0 E).stack:=λj he b B=>fL.mpr ⟨j,he,B⟩
  let J:=PySem.W.funFrames_hide Y a0;exact wpAny_leaves_madeW (s:={i with heap:=z}) (h:=i.heap) (base:=PySem.W.hideAll i.heap (wJ (uc P w C K mg base N qual scope f cd A outer s0 H0 E).stack)) (L:=s0.heap.objs.size) c.ok.frames rfl (λb o q=>PySem.W.of_hideAll _ q) J hx λb5 t fl _ _ up=>?_
  let k:=hx.keeps;let un:Un (wJ (uc P w C K mg base N qual scope f cd A outer s0 H0 E).stack) [] O O i.heap z:=Un.kept k;let same:∀b o,i.heap.get? b=aa o->∀l,z.get? b=aa l->o=l:=λb o e l M=>a6 ((k b o e).symm.trans M)
  exact Dn (s':={i with heap:=z}) c rfl c.bare un (c.hok.kept k) (λb o e B l M=>?_) (λb u e l M=>?_) ?_ fl up q1
  ·rw[<-same b o e l M];exact ut _ e B
  ·let(o,eo):=(c.hok b u e).obj;rw[<-same b o eo l M];exact ut _ eo λB=>by rw[c.stkFree b B] at e;cases e
  ·exact J.of_keeps λb o e _=>⟨o,k b o e,rfl⟩
def Li.okX {x:Str}{st:Stmt}{fd:gr}{N ps:List Str}{k:Nat}{sp:Sp}(F:Li K x qual st f fd)(S:bo N ps (aP st))(len:∀vs H Q E,sp vs H Q E->vs.length=ps.length)
  (b:∀(a:ag) (A:b0) (outer:List Env) (s:aw) (H:Hp) (vs:List V) (Q:VK) (E:XK),jC k (A.deeper (rC qual (aP st) s.heap.objs.size f a))->sp vs H Q E->
   ∃t,B5 (uc P w C K mg base N qual (aP st) f a A outer s H E) (lH st) t/\t {nx:=λ_ e=>Q .non e,rt:=Q} (pN N vs) H):du P w K mg base (Hl P w C) (k+1) f fd ps sp:=by
 let(o,p,kV,i,q,r,a,u,j,rfl,lk,c):=F.ex;exact IL lk c S len λA outer s H vs Q E l d=>b a A outer s H vs Q E l d
end
end L2
namespace SA
open PySem PySem.Spec PyProof.Rows L2
section
variable {P:aO} {w:World} {K:am} {mg:Str->Option ag} {base:Heap} {N:List Str} {qual:Str} {scope:ku} {g:Addr} {cd:ag} {A:b0} {outer:List Env} {s0:aw} {H0:Hp} {E:XK} {C:Addr}
def mq {k:Nat}{f:Addr}{fd:gr}{x:Str}{i:Nat}{ps:List Str}{sp:Sp}{e:Expr}{es:List Expr}{t:TA}{p pos:Pos}(D:Df K mg x i ps f fd)(F:du P w K mg base (Hl P w C) k f fd ps sp)(d:jC k (uc P w C K mg base N qual scope g cd A outer s0 H0 E).A)
  (j:PA (uc P w C K mg base N qual scope g cd A outer s0 H0 E) (e::es) t)
  (l:Gl (uc P w C K mg base N qual scope g cd A outer s0 H0 E) x:=by rfl) (a:(x==("__debug__":Str))=af:=by decide) (o:bp (e::es) (uc P w C K mg base N qual scope g cd A outer s0 H0 E).env=(af,eval e (uc P w C K mg base N qual scope g cd A outer s0 H0 E).env)::bp es (uc P w C K mg base N qual scope g cd A outer s0 H0 E).env:=by rfl)
  (c:(iO pos (bp es (uc P w C K mg base N qual scope g cd A outer s0 H0 E).env)).any (·.1)=af:=by rfl):
  PE (uc P w C K mg base N qual scope g cd A outer s0 H0 E) (.Call (.Name x p) (e::es) [] pos) (FD sp [] E t):=FE F d l D.m D.F.kp D.b .nil Qq j a o c
end
end SA
namespace L2
open PySem PySem.Spec PyProof.Rows
variable {pins:List (Addr×Obj)}
def Qr {fs:List Addr}{H r:Hp}{h h' c B:Heap}(d:Un fs [] H r h h')(c1:∀b o,h.get? b=aa o->b∉fs->∀o',h'.get? b=aa o'->B.get? b=aa o')(s:∀b∈fs,∃o,h'.get? b=aa o/\∀vs,o.data≠.fields vs)
  (st:B.StaysIn c) (u:h'.UpToSlots c):Un fs [] H r h c:=by
 exact(?_,?_,d.free,?_,d.tups,d.frzs,d.tbls)
 ·intro b o e n a i;exact st b o (c1 b o e a o (d.keep b o e n a i))
 ·intro b o e n a i;let(w,f):=d.slot b _ e n a i;let(x,j,p):=s b a;rw[f] at j;cases j;let(l,q):=u b _ f p;exact(l,q)
 ·intro b o e i;let(v,f):=d.there b o e i;by_cases a:b∈fs
  ·let(x,j,p):=s b a;rw[f] at j;cases j;let(l,q):=u b _ f p;exact(_,q)
  ·exact(_,st b v (c1 b o e a v f))
def OA {P:aO}{w:World}{d:Hp}{h' a B:Heap}(f:oE P w d h')(i:∀b u,d b=aa u->∀o',h'.get? b=aa o'->B.get? b=aa o')(st:B.StaysIn a):oE P w d a:=by
 intro b u e;exact(f b u e).stay (λc o hc j=>?_) (λ_ h=>h) λ_ _ h=>h
 rcases hc with rfl|hc
 ·exact st c o (i c u e o j)
 ·exact st c o (i c _ hc o j)
abbrev Cx.marked (X:Cx)(e:ag):Cx:={X with A:=X.A.mark (aa e),calm:=af,xe:=λ_ _=>False}
theorem cz.marked {X:Cx}{σ:St}{H:Hp}{s:aw}(I:cz X pins σ H s)(e:ag):cz (X.marked e) pins σ H s:=by
 let a:=I.ok;exact(⟨a.mod,a.kind,a.glob,a.blt,a.above,a.inj,a.has,a.cab,(λh=>by cases h),a.frames,a.stk,a.exf,a.bs,a.bsz,a.noex,a.exfs,a.funs,a.frf⟩,I.os,I.bare,I.base,I.loc,I.cell,I.free,I.freeC,I.pin,I.hok,I.len)
def SP.unmarked {X:Cx}{e:ag}{D:xW}{f:Flow}{s':aw}(h:SP (X.marked e) pins D f s')(hc:X.calm=ae->X.A.handled=ac):SP X pins D f s':=by
 let d:∀{σ H},cz (X.marked e) pins σ H s'->cz X pins σ H s':=λI=>by
  let a:=I.ok;exact(⟨a.mod,a.kind,a.glob,a.blt,a.above,a.inj,a.has,a.cab,hc,a.frames,a.stk,a.exf,a.bs,a.bsz,a.noex,a.exfs,a.funs,a.frf⟩,I.os,I.bare,I.base,I.loc,I.cell,I.free,I.freeC,I.pin,I.hok,I.len)
 cases f with
 |next=>let(b,c,I,q):=h;exact(b,c,d I,q)
 |brk=>let(b,c,I,q):=h;exact(b,c,d I,q)
 |cont=>let(b,c,I,q):=h;exact(b,c,d I,q)
 |ret u=>let(v,b,c,I,r,q):=h;exact WS v b c (d I) r q
section
variable {X:Cx} {C:Addr}
theorem OB {k:Nat}{f:Addr}{fd:gr}{x y xc:Str}{i:Nat}{ps:List Str}{sp:Sp}{e:Expr}{es:List Expr}{ta:TA}{ts:TS}{p py a J np a1 pos:Pos}{b₀:Stmt}{c:List Stmt}(j:X.stack=X.env::X.outer/\X.env.frame=aa X.env.locals)
  (F:du X.prog X.w X.K X.mg X.base (Hl X.prog X.w C) k f fd ps sp) (hr:jC k X.A) (hm:X.mg x=aa (.ref f)) (hk:iz X.K (.ref f)=ae) (hb:rG X.K fd ps []) (ha:PA X.nox (e::es) ta)
  (hC:LK X.K C) (av:X.mg xc=aa (.ref C)) (ax:∀ev,B5 (X.marked ev) (b₀::c) ts) (hN:X.N.Nodup) (hi:X.N[i]?=aa y) (hy:ME X.env.scope y)
  (hf:X.fn y=ae\/X.env.scope.names.lookup y=aa .local:=by first|exact .inl rfl|exact .inr rfl|assumption)
  (hg:Gl X x:=by rfl) (ay:Gl X xc:=by rfl) (a':(x==("__debug__":Str))=af:=by decide) (b1:(xc==("__debug__":Str))=af:=by decide)
  (he:bp (e::es) X.env=(af,eval e X.env)::bp es X.env:=by rfl) (b2:(iO a (bp es X.env)).any (·.1)=af:=by rfl)
  (hs:xM (.Call (.Name x p) (e::es) [] a) (aa (.Name y py)) J.line X.env=pure af:=by rfl):
  PS X.nox (.Try [.Assign [.Name y py] (.Call (.Name x p) (e::es) [] a) J] [.ExceptHandler (aa (.Name xc np)) ac (b₀::c) a1] [] [] pos)
   (λD σ H=>ta σ H λvs H1=>sp vs H1 (λv H2=>D.nx (σ.set i (aa v)) H2) (λ_ _ H2=>ts D σ H2)):=by
 intro pins s σ H D I h;let I0:cz X pins σ H s:=I.unwish;exact wpAny_Try_except ?_;exact BY (wpAny_Assign_Name (js (oF I hg hm ?_ a')) hs);exact pq (h₀:=X.base) I.ok.mod.kin hk (EH (ha a pins s σ H _ I h) λus s1 x'=>V22 x' λvs H1 I1 r q=>⟨I1.kIn,?_⟩) he b2;let O:cz X pins σ H1 s1:=I1.unwish;let hl:us.length=ps.length:=by rw[<-r.length];exact F.len _ _ _ _ q
 exact vd (i9 (F.run X.A X.stack s1 H1 ⟨us,[]⟩ us vs _ _ hr O.env0 (by simpa using hb s1 us I1.kIn (by simpa using hl)) r q) λb6 s' hq=>?_)
 cases b6 with
 |ok fl=>
  cases fl with
  |ret u=>
   let(v,H2,I2,rv,q2):=O.after hq;exact vI (X:=X.nox) (I2.wish _) hN hi hy rv (λs3 I3=>?_) hf;exact mY ?_;show a8 _ _ (execs [] _) _ _ s3;exact mY ⟨_,H2,I3,q2⟩
  |next=>exact dE hq
  |brk=>exact dE hq
  |cont=>exact dE hq
 |error ev=>
  let(ea,a0,E,B,rfl,ho,b8,un,bb,fl,c1,c2,q2):=hq;let bk:X.A.frames=aa (X.env::X.outer):=by rw[<-j.1];exact I0.ok.frames
  let ff:∀b∈wJ X.stack,∃o,s'.heap.get? b=aa o/\∀vs,o.data≠.fields vs:=λb hb=>(fl.2.2.1.mem hb).2
  let a5:∀l,B.StaysIn l->s'.heap.UpToSlots l->cz X pins σ E {s' with heap:=l}:=λl st up=>
   O.call' (ch:=[]) (s':={s' with heap:=l}) ho (Qr un c1 ff st up) (OA bb c2 st) b8 (by simp)
  let bl:Ec B (X.env::X.outer) ea (.ref C) a0 s'.heap:=by rw[<-j.1];exact fl
  exact wpAny_looks_onW (L:=X.env.locals) bk j.2 bl λh4 Q bm=>?_
  exact wpAny_landsW Q λh5 T bx=>?_
  let M:=bm.trans bx;let I5:=a5 h5 T.1 M;let(ob,b',al):=T.there;let(nm,q,N',bs,hd,sn,sub,ab,d4,dd,k0,k1,k2,k3,k5,c3,_,_):=hC;exact wpAny_handleBy_cons (codeAny_handlers_test ?_) (by intro q;cases q);let IM:=I5.marked (.ref ea);exact oF (X:=X.marked (.ref ea)) IM ay av ?_ b1;exact wpAny_excMatches_sub_self (h:=h5) (g:=s'.gens) (d:=s'.drawn) (t:=s'.toks) (os:=s'.os) (I5.kIn _ _ c3) b' al (by decide) ?_;exact codeAny_handlers_suite (lands_againW (s:={s' with heap:=h5}) T λh6 c4 c5=>?_)
  let I6:=(a5 h6 c4.1 (M.trans c5)).marked (.ref ea);exact gy (ax (.ref ea) pins _ σ E D I6 q2) (λc6 s7 q7=>?_) λ_ _ z=>dE z
  have:=q7.unmarked I0.ok.hd
  cases c6 with
  |next=>let(Y,E,I,q):=this;exact(Y,E,I.wish _,q)
  |brk=>let(Y,E,I,q):=this;exact(Y,E,I.wish _,q)
  |cont=>let(Y,E,I,q):=this;exact(Y,E,I.wish _,q)
  |ret u=>let(v,Y,E,I,r,q):=this;exact WS v Y E (I.wish _) r q
end
end L2
namespace SA
open PySem PySem.Spec PyProof.Rows L2
variable {l:List bv} {C a CT CP pa dx:Addr} {n:Int} {r:List Nat} {vs ans:List Int} {p:aq} {as:List Addr} {pos:Pos} {ps:List (Int×Addr×Addr)} {W:aZ} {i:Nat}
def Dk (kvs:List (ef×V)):Prop:=(kvs.map (·.1)).Nodup/\∀k∈kvs.map (·.1),∃n:Int,k=aA n
variable {kvs:List (ef×V)}
def oQ {k:ef}:eE kvs k=ac↔k∉kvs.map (·.1):=by
 constructor
 ·exact C2
 ·intro h
  cases e:eE kvs k with
  |none=>rfl
  |some v=>exact aB (yn e) h
theorem ph:∀{kvs:List (ef×V)} {k:ef} {v:V},(kvs.map (·.1)).Nodup->(k,v)∈kvs->eE kvs k=aa v
 |[],_,_,_,h=>by simp at h
 |p::r,k,v,hn,h=>by
  rw[bB,bR] at hn;rcases az.mp h with e|h
  ·subst e;exact ie rfl
  ·rw[gM (λq=>hn.1 (by rw[q];exact aM.mpr ⟨_,h,rfl⟩))];exact ph hn.2 h
theorem sW:∀{kvs:List (ef×V)} {k:ef} {v:V},eE kvs k=aa v->(k,v)∈kvs
 |[],_,_,h=>by rw[sR] at h;cases h
 |p::r,k,v,h=>by
  by_cases e:p.1=k
  ·rw[ie e] at h;cases h;subst e;exact aD ..
  ·rw[gM e] at h;exact au _ (sW h)
def Hm {k:ef}{v:V}(h:k∈kvs.map (·.1)):(jW kvs k v).map (·.1)=kvs.map (·.1):=by
 unfold jW;let(p,a,e):=aM.mp h;rw[jN (lA.mpr ⟨p,a,decide_eq_true e⟩),gZ];exact lK λq _=>?_
 show(if q.1=k then(q.1,v) else q).1=q.1
 split<;>rfl
def Dk.put (d:Dk kvs)(n:Int)(v:V):Dk (jW kvs (aA n) v):=by
 by_cases h:(aA n:ef)∈kvs.map (·.1)
 ·unfold Dk;rw[Hm h];exact d
 ·let a:=oQ.mpr h;exact(Lk v d.1 a,λk hk=>?_);rw[vS v a,bU,cF] at hk;rcases hk with hk|hk
  ·exact d.2 k hk
  ·exact(n,by simpa using hk)
def AD (kvs:List (ef×V))(k j:ef):eE (lh kvs k) j=if j=k then ac else eE kvs j:=by
 induction kvs with
 |nil=>rw[show lh ([]:List (ef×V)) k=[] from rfl,sR];split<;>rfl
 |cons p r a=>
  by_cases e:p.1=k
  ·rw[Ap e,a];by_cases q:j=k
   ·rw[jN q,jN q]
   ·rw[iQ q,iQ q,gM (λz=>q (z.symm.trans e))]
  ·rw[Aq e];by_cases q:p.1=j
   ·rw[ie q,ie q,iQ (λz=>e (q.trans z))]
   ·rw[gM q,gM q,a]
def Dk.drop (d:Dk kvs)(k:ef):Dk (lh kvs k):=⟨yW d.1,λa b=>by
 let(p,c,e):=aM.mp b;exact d.2 a (aM.mpr ⟨p,Ar c,e⟩)⟩
def Dk.nil:Dk []:=⟨jS,λ_ h=>by simp at h⟩
theorem Dk.ks (d:Dk kvs):∃ks:List Int,lI kvs ks/\ks.Nodup/\∀n,n∈ks↔(eE kvs (aA n)).isSome=ae:=by
 obtain⟨ks,e⟩:∃ks:List Int,kvs.map (·.1)=ks.map aA:=by
  let h:=d.2;generalize kvs.map (·.1)=l at h
  induction l with
  |nil=>exact([],rfl)
  |cons k r a=>
   let(ks,e):=a λb c=>h b (au _ c)
   let(n,rfl):=h k (aD ..);exact(n::ks,by rw[e];rfl)
 exact(ks,e,?_,λn=>?_)
 ·have:=d.1;rw[e] at this;exact(bY.mp this).imp λh q=>h (by rw[q])
 ·rw[<-Option.isNone_eq_false_iff,Bool.eq_false_iff,ne_eq,zT,oQ,e,Classical.not_not];constructor
  ·exact λh=>aM.mpr ⟨n,h,rfl⟩
  ·intro h;let(m,f,q):=aM.mp h;cases q;exact f
def qg (kvs:List (ef×V))(l:List Nat):Prop:=Dk kvs/\Sp.wC l/\∀n:Int,(eE kvs (aA n)).isSome=ae↔∃j∈l,n=(j:Int)
theorem qg.ks {l:List Nat}(h:qg kvs l):∃ks:List Int,lI kvs ks/\ks.Perm (l.map λ(j:Nat)=>(j:Int)):=by
 let(ks,c,d,f):=h.1.ks;exact(ks,c,(pW d ?_).mpr λn=>?_)
 ·exact bY.mpr ((Sp.wC.nodup h.2.1).imp λa q=>a ⋯)
 ·rw[f,h.2.2];constructor
  ·intro x';let(j,b,rfl):=x';exact aM.mpr ⟨j,b,rfl⟩
  ·intro q;let(j,b,e):=aM.mp q;exact(j,b,e.symm)
def qg.len {l:List Nat}(h:qg kvs l):kvs.length=l.length:=by
 let(a,b,c):=h.ks;let d:(kvs.map (·.1)).length=(a.map (aA:Int->ef)).length:=congrArg mz b;let e:=c.length_eq;simp only[aj] at d e;omega
def nu {l:List Nat}(c:Sp.wC l){ns:List Int}(d:ns.Perm (l.map λ(j:Nat)=>(j:Int)))(e:ns.Pairwise (·<=·)):ns=l.map λ(j:Nat)=>(j:Int):=by
 exact d.eq_of_pairwise (λa b _ _ f i=>Int.le_antisymm f i) e ?_;exact bY.mpr (c.imp λh=>⋯)
abbrev TF:=Int->Option (Nat×List Int)
def LL (C:Addr)(R:Rg)(H:Hp):Option V->Option (Nat×List Int)->Prop
 |none,ac=>True
 |some v,aa r=>∃a,v=.ref a/\EO C R H a r.1 r.2
 |_,_=>False
structure fZ (C:Addr)(R:Rg)(H:Hp)(kvs:List (ef×V))(f:TF):Prop where
 dk:Dk kvs
 at_:∀n,LL C R H (eE kvs (aA n)) (f n)
variable {R:Rg} {H H':Hp}
theorem LL.keep {o:Option V}{r:Option (Nat×List Int)}(t:LL C R H o r)(k:Kp R H H'):LL C R H' o r:=by
 cases o<;>cases r
 ·exact t
 ·exact t
 ·exact t
 ·let(a,e,h):=t;exact(a,e,h.keep k)
variable {f:TF}
theorem fZ.keep (d:fZ C R H kvs f)(k:Kp R H H'):fZ C R H' kvs f:=⟨d.dk,λn=>(d.at_ n).keep k⟩
def fZ.none_ (d:fZ C R H kvs f)(h:f n=ac):eE kvs (aA n)=ac:=by
 have:=d.at_ n;rw[h] at this
 cases e:eE kvs (aA n) with
 |none=>rfl
 |some v=>rw[e] at this;exact this.elim
def fZ.some_ (d:fZ C R H kvs f){r:Nat×List Int}(h:f n=aa r):∃a,eE kvs (aA n)=aa (.ref a)/\EO C R H a r.1 r.2:=by
 have:=d.at_ n;rw[h] at this
 cases e:eE kvs (aA n) with
 |none=>rw[e] at this;exact this.elim
 |some v=>
  rw[e] at this;let(a,rfl,t):=this;exact(a,rfl,t)
theorem fZ.isSome (d:fZ C R H kvs f)(n:Int):(eE kvs (aA n)).isSome=(f n).isSome:=by
 cases h:f n with
 |none=>rw[d.none_ h];rfl
 |some r=>let(a,e,_):=d.some_ h;rw[e];rfl
theorem fZ.put (d:fZ C R H kvs f){k:Nat}(t:EO C R H a k vs):fZ C R H (jW kvs (aA n) (.ref a)) λj=>if j=n then aa (k,vs) else f j:=by
 exact(d.dk.put n _,λj=>?_);rw[vR];by_cases h:j=n
 ·subst h;rw[jN rfl,jN rfl];exact(a,rfl,t)
 ·rw[iQ (λq=>h (fF q)),iQ h];exact d.at_ j
theorem fZ.drop (d:fZ C R H kvs f)(n:Int):fZ C R H (lh kvs (aA n)) λj=>if j=n then ac else f j:=by
 exact(d.dk.drop _,λj=>?_);rw[AD];by_cases h:j=n
 ·subst h;rw[jN rfl,jN rfl];exact dR
 ·rw[iQ (λq=>h (fF q)),iQ h];exact d.at_ j
theorem fZ.nil:fZ C R H [] λ_=>ac:=⟨Dk.nil,λ_=>dR⟩
def fZ.of_eq {g:TF}(d:fZ C R H kvs f)(h:∀n,f n=g n):fZ C R H kvs g:=by
 let e:f=g:=funext h;rw[<-e];exact d
def fT (l:List aN):TF:=λn=>if 0<=n then(bg l n.toNat).map λt=>(t.kind,t.vals) else ac
def fD (l:List bv):TF:=λn=>if 0<=n then(bA l n.toNat).map λt=>(t.kind,t.vals) else ac
def fZ.ris {l:List aN}(d:fZ C R H kvs (fT l))(a:Sp.rS l):qg kvs (l.map lg):=by
 exact(d.dk,Sp.KL a,λn=>?_);rw[d.isSome];unfold fT;by_cases b:0<=n
 ·rw[jN b,ge,<-Sp.RB a];constructor
  ·exact λh=>⟨_,h,⋯⟩
  ·intro x';let(j,c,rfl):=x';simpa using c
 ·rw[iQ b];constructor
  ·intro h;cases h
  ·intro x';let(j,_,rfl):=x';omega
def Do (h:Sp.xU l):Sp.wC (l.map kx):=bY.mpr h
def Dq (h:Sp.xU l){n:Nat}:n∈l.map kx↔(bA l n).isSome=ae:=by
 constructor
 ·intro hn;let(t,a,rfl):=aM.mp hn;rw[Sp.Ky h a];rfl
 ·intro b;let(t,a):=bF.mp b;exact aM.mpr ⟨t,Sp.Nw a,Sp.z8 a⟩
def fZ.risD (d:fZ C R H kvs (fD l))(a:Sp.xU l):qg kvs (l.map kx):=by
 exact(d.dk,Do a,λn=>?_);rw[d.isSome];unfold fD;by_cases b:0<=n
 ·rw[jN b,ge,<-Dq a];constructor
  ·exact λh=>⟨_,h,⋯⟩
  ·intro x';let(j,c,rfl):=x';simpa using c
 ·rw[iQ b];constructor
  ·intro h;cases h
  ·intro x';let(j,_,rfl):=x';omega
def wf (t td wl rk pd mi:V):List (Str×V):=[("tick",t),("things",td),("walls",wl),("ranks",rk),("players",pd),("mirror",mi)]
def mf (t a:V):List (Str×V):=[("tick",t),("things",a)]
def pf (own team inner outer budget b seen c a d:V):List (Str×V):=[("own",own),("team",team),("inner",inner),("outer",outer),("budget",budget),("alone",b),("seen",seen),("told",c),("waiting",a),("sent",d)]
section
variable {t td wl rk pd mi:V}
def gR:(wf t td wl rk pd mi).lookup ("things":Str)=aa td:=rfl
def pi:(wf t td wl rk pd mi).lookup ("walls":Str)=aa wl:=rfl
def Jz:(wf t td wl rk pd mi).lookup ("ranks":Str)=aa rk:=rfl
def jo:(wf t td wl rk pd mi).lookup ("players":Str)=aa pd:=rfl
def ud:(wf t td wl rk pd mi).lookup ("mirror":Str)=aa mi:=rfl
def Dr (v:V):fI "tick" v (wf t td wl rk pd mi)=wf v td wl rk pd mi:=rfl
def uD (v:V):fI "mirror" v (wf t td wl rk pd mi)=wf t td wl rk pd v:=rfl
end
section
variable {own team inner outer budget alone seen told waiting sent:V}
def JA:(pf own team inner outer budget alone seen told waiting sent).lookup ("own":Str)=aa own:=rfl
def BI:(pf own team inner outer budget alone seen told waiting sent).lookup ("team":Str)=aa team:=rfl
def JB:(pf own team inner outer budget alone seen told waiting sent).lookup ("inner":Str)=aa inner:=rfl
def JC:(pf own team inner outer budget alone seen told waiting sent).lookup ("outer":Str)=aa outer:=rfl
def Hn:(pf own team inner outer budget alone seen told waiting sent).lookup ("budget":Str)=aa budget:=rfl
def vZ:(pf own team inner outer budget alone seen told waiting sent).lookup ("alone":Str)=aa alone:=rfl
def rh:(pf own team inner outer budget alone seen told waiting sent).lookup ("seen":Str)=aa seen:=rfl
def pR:(pf own team inner outer budget alone seen told waiting sent).lookup ("told":Str)=aa told:=rfl
def rj:(pf own team inner outer budget alone seen told waiting sent).lookup ("waiting":Str)=aa waiting:=rfl
def F4:(pf own team inner outer budget alone seen told waiting sent).lookup ("sent":Str)=aa sent:=rfl
def BJ (v:V):fI "alone" v (pf own team inner outer budget alone seen told waiting sent)=pf own team inner outer budget v seen told waiting sent:=rfl
def Dt (v:V):fI "seen" v (pf own team inner outer budget alone seen told waiting sent)=pf own team inner outer budget alone v told waiting sent:=rfl
def ze (v:V):fI "waiting" v (pf own team inner outer budget alone seen told waiting sent)=pf own team inner outer budget alone seen told v sent:=rfl
def Du (v:V):fI "sent" v (pf own team inner outer budget alone seen told waiting sent)=pf own team inner outer budget alone seen told waiting v:=rfl
end
structure WA where
 a:Addr
 dx:Addr
 td:Addr
 wl:Addr
 rk:Addr
 pd:Addr
 mi:Addr
 tb:Addr
 ps:List (Int×Addr×Addr)
def WA.muts (A:WA):List Addr:=A.a::A.td::A.wl::A.rk::A.pd::A.tb::A.ps.flatMap λx=>[x.2.1,x.2.2]
def WA.rg (A:WA):Rg:=λb=>b∈A.muts
variable {A:WA}
def WA.r_a:A.rg A.a:=.head _
def WA.r_td:A.rg A.td:=.tail _ (.head _)
def WA.r_wl:A.rg A.wl:=.tail _ (.tail _ (.head _))
def WA.r_rk:A.rg A.rk:=.tail _ (.tail _ (.tail _ (.head _)))
def WA.r_pd:A.rg A.pd:=.tail _ (.tail _ (.tail _ (.tail _ (.head _))))
def WA.r_tb:A.rg A.tb:=.tail _ (.tail _ (.tail _ (.tail _ (.tail _ (.head _)))))
def WA.r_ps {x:Int×Addr×Addr}(h:x∈A.ps):A.rg x.2.1/\A.rg x.2.2:=by
 let a:∀b∈[x.2.1,x.2.2],b∈A.ps.flatMap λx=>[x.2.1,x.2.2]:=λb c=>lw.mpr ⟨x,h,c⟩
 exact(.tail _ (.tail _ (.tail _ (.tail _ (.tail _ (.tail _ (a _ (.head _))))))),.tail _ (.tail _ (.tail _ (.tail _ (.tail _ (.tail _ (a _ (.tail _ (.head _)))))))))
structure WA.Ds (A:WA):Prop where
 a_td:A.a≠A.td
 a_wl:A.a≠A.wl
 a_rk:A.a≠A.rk
 a_pd:A.a≠A.pd
 a_tb:A.a≠A.tb
 td_wl:A.td≠A.wl
 td_rk:A.td≠A.rk
 td_pd:A.td≠A.pd
 td_tb:A.td≠A.tb
 wl_rk:A.wl≠A.rk
 wl_pd:A.wl≠A.pd
 wl_tb:A.wl≠A.tb
 rk_pd:A.rk≠A.pd
 rk_tb:A.rk≠A.tb
 pd_tb:A.pd≠A.tb
 ps:∀x∈A.ps,∀b∈[A.a,A.td,A.wl,A.rk,A.pd,A.tb],x.2.1≠b/\x.2.2≠b
 pp:(A.ps.flatMap λx=>[x.2.1,x.2.2]).Nodup
def WA.ds (h:A.muts.Nodup):A.Ds:=by
 unfold WA.muts at h;let(a,h):=bR.mp h;let(c,h):=bR.mp h;let(d,h):=bR.mp h;let(j,h):=bR.mp h;let(l,h):=bR.mp h;let(o,h):=bR.mp h;simp only[az,not_or] at a c d j l;exact(a.1,a.2.1,a.2.2.1,a.2.2.2.1,a.2.2.2.2.1,c.1,c.2.1,c.2.2.1,c.2.2.2.1,d.1,d.2.1,d.2.2.1,j.1,j.2.1,l.1,λx p b q=>?_,h);let f:x.2.1∈A.ps.flatMap λx=>[x.2.1,x.2.2]:=lw.mpr ⟨x,p,.head _⟩
 let i:x.2.2∈A.ps.flatMap λx=>[x.2.1,x.2.2]:=lw.mpr ⟨x,p,.tail _ (.head _)⟩
 simp only[az,bc,or_false] at q;rcases q with rfl|rfl|rfl|rfl|rfl|rfl
 ·exact(λe=>a.2.2.2.2.2 (e▸f),λe=>a.2.2.2.2.2 (e▸i))
 ·exact(λe=>c.2.2.2.2 (e▸f),λe=>c.2.2.2.2 (e▸i))
 ·exact(λe=>d.2.2.2 (e▸f),λe=>d.2.2.2 (e▸i))
 ·exact(λe=>j.2.2 (e▸f),λe=>j.2.2 (e▸i))
 ·exact(λe=>l.2 (e▸f),λe=>l.2 (e▸i))
 ·exact(λe=>o (e▸f),λe=>o (e▸i))
def Qs (kvs:List (ef×V))(l:List (Nat×Nat)):Prop:=qg kvs (l.map (·.1))/\∀x∈l,eE kvs (aA (x.1:Int))=aa (.int x.2)
structure JD (CT CP:Addr)(R:Rg)(H:Hp)(pa to:Addr)(p:aq):Prop where
 ex:∃(dx al se wa sn:Addr) (kal kse kto kwa:List (ef×V)),H pa=aa (.ins CP dx (pf (.int p.thing) (.int p.team) (.int p.inner) (.int p.outer) (.int p.budget) (.ref al) (.ref se) (.ref to) (.ref wa) (.ref sn)))/\H to=aa (.dK kto)/\
  (¬R al/\¬R se/\¬R wa/\¬R sn)/\H al=aa (.dK kal)/\qg kal p.near/\H se=aa (.dK kse)/\qg kse p.sees/\fZ CT R H kto (fD p.told)/\H wa=aa (.dK kwa)/\Qs kwa p.waits/\H sn=aa (.lst (nb p.out))
theorem JD.keep {a:Addr}(h:JD CT CP R H pa a p)(k:Kp R H H')(h1:H' pa=H pa)(q:H' a=H a):JD CT CP R H' pa a p:=by
 let(dx,r,s,u,v,b,c,d,e,w,x,(i,j,l,o),y,z,A,B,C,D,E,f):=h;exact(dx,r,s,u,v,b,c,d,e,h1.trans w,q.trans x,⟨i,j,l,o⟩,k _ _ i y,z,k _ _ j A,B,C.keep k,k _ _ l D,E,k _ _ o f)
def zM (CT CP:Addr)(R:Rg)(H:Hp)(ps:List (Int×Addr×Addr))(n:Int):Option V->Option aq->Prop
 |none,ac=>True
 |some v,aa p=>∃pa a,v=.ref pa/\(n,pa,a)∈ps/\JD CT CP R H pa a p
 |_,_=>False
def JE (R:Rg)(H:Hp)(as:List Addr)(ws:List dU):Prop:=a9 (λa W=>¬R a/\Pd H a W) as ws
theorem JE.ws {ws:List dU}(h:JE R H as ws):Hj H as ws:=a9.mapP h λ_ _ q=>q.2
def JE.keep {ws:List dU}(h:JE R H as ws)(k:Kp R H H'):JE R H' as ws:=a9.mapP h λ_ _ q=>⟨q.1,k _ _ q.1 q.2⟩
def OC (CT b:Addr)(R:Rg)(H:Hp)(mi:Addr)(x:Nat×List bv):Prop:=∃(c a:Addr) (kvs:List (ef×V)),¬R mi/\¬R a/\H mi=aa (.ins b c (mf (.int x.1) (.ref a)))/\H a=aa (.dK kvs)/\fZ CT R H kvs (fD x.2)
theorem OC.keep {a:Addr}{mi:Addr}{x:Nat×List bv}(h:OC CT a R H mi x)(k:Kp R H H'):OC CT a R H' mi x:=
 let ⟨d,e,kvs,b,c,f,i,j⟩:=h;(WQ d e kvs b c (k _ _ b f) (k _ _ c i) (j.keep k))
def JF (q:Str)(c:Addr):HO:=.ext λh=>h.CodeRec (.ref c) q
def uq (pos:Pos)(q:Str)(R:Rg)(H:Hp)(T:Addr):Prop:=∃ps:Array ag,H T=aa (.tbl ps)/\xQ ps.toList/\(Ia pos ps.toList=ac\/∃c,Ia pos ps.toList=aa (.ref c)/\¬R c/\H c=aa (JF q c))
def uq.keep {q:Str}{T:Addr}(h:uq pos q R H T)(k:Kp R H H')(e:H' T=H T):uq pos q R H' T:=by
 obtain⟨ps,b,d,a|⟨c,a,f,i⟩⟩:=h
 ·exact(ps,e.trans b,d,.inl a)
 ·exact(ps,e.trans b,d,.inr ⟨c,a,f,k _ _ f i⟩)
structure DZ (l:List Int):Prop where
 len:l.length=8
 x:Co (l.getD 0 0)
 y:Co (l.getD 1 0)
 v:∀z∈l, -2147483647<=z/\z<=2147483647
structure MU (p:aq):Prop where
 thing:p.thing<=9999
 team:p.team<=9
 io:p.inner<=p.outer
 outer:p.outer<=10000
 b1:64<=p.budget
 b2:p.budget<=4096
 near:Sp.wC p.near
 sees:Sp.wC p.sees
 told:Sp.xU p.told
 tv:∀t∈p.told,t.id<=9999/\t.kind<=7/\DZ t.vals
 waits:Sp.wC (p.waits.map (·.1))
 wl:p.waits.length<=10000
 wt:∀x∈p.waits,x.2<=100000
 out:p.out.length<=5000
structure uE (N:Nat)(W:aZ):Prop where
 rt:Sp.rS W.things
 ix:Sp.uv W.things W.index
 tl:W.things.length<=64
 tv:∀t∈W.things,t.id<=9999/\t.kind<=7/\DZ t.vals
 wl:W.walls.length<=32
 wc:∀w∈W.walls,Op w
 rl:W.ranks.length=8
 rv:∀r∈W.ranks,r<=100
 pr:W.players.Pairwise λa b=>a.1<b.1
 pl:W.players.length<=8
 pv:∀x∈W.players,x.1<=99/\MU x.2
 now:W.now<=100000
 mr:Sp.xU W.mirror.2
 m8:∀t∈W.mirror.2,t.vals.length=8
 ml:W.mirror.2.length<=2500*N
 ev:∃M:List Nat,M.length<=N/\(∀t∈W.things,t.id∈M)/\∀x∈W.players,(∀n∈x.2.near,n∈M)/\(∀n∈x.2.sees,n∈M)/\∀t∈x.2.told,t.id∈M
def qh:Pos:=match lH (ig 112) with
 |[.Return (aa (.Call _ _ [⟨_,.Lambda _ _ _ pos,_⟩] _)) _]=>pos
 |_=>⟨0,0,0,0⟩
def BK:Str:=("in_turn":Str)++ ".<locals>."++ "<lambda>"
variable {Q:VK}
section
variable {K:am} {mg:Str->Option ag} {m:Mo K mg}
structure WR (m:Mo K mg)(H:Hp)(A:WA)(W:aZ):Prop where
 nd:A.muts.Nodup
 live:∀b∈A.muts,∃o,H b=aa o
 tbl:A.tb=m.tP
 obj:H A.a=aa (.ins (m.cl 14) A.dx (wf (.int W.now) (.ref A.td) (.ref A.wl) (.ref A.rk) (.ref A.pd) (.ref A.mi)))
 th:∃kvs,H A.td=aa (.dK kvs)/\fZ (m.cl 11) A.rg H kvs (fT W.things)
 wa:∃as,H A.wl=aa (.lst (as.map V.ref))/\JE A.rg H as W.walls
 rk:H A.rk=aa (.lst (nb W.ranks))
 pl:∃kvs,H A.pd=aa (.dK kvs)/\Dk kvs/\∀n,zM (m.cl 11) (m.cl 12) A.rg H A.ps n (eE kvs (aA n)) (aJ W n)
 mi:OC (m.cl 11) (m.cl 13) A.rg H A.mi W.mirror
 tb:uq qh BK A.rg H A.tb
theorem zM.keep {o:Option V}{p:Option aq}(h:zM CT CP R H ps n o p)(k:Kp R H H')(e:∀x∈ps,H' x.2.1=H x.2.1/\H' x.2.2=H x.2.2):zM CT CP R H' ps n o p:=by
 cases o<;>cases p
 ·exact h
 ·exact h
 ·exact h
 ·let(pa,b,c,a,d):=h;exact(pa,b,c,a,d.keep k (e _ a).1 (e _ a).2)
def LM {b:Addr}(s:aU H H')(h:∃o,H b=aa o):H' b=H b:=let ⟨o,e⟩:=h;(s b o e).trans e.symm
def WR.same (w:WR m H A W)(s:aU H H'):WR m H' A W:=by
 let k:Kp A.rg H H':=Kp.of s;let e:∀b∈A.muts,H' b=H b:=λb a=>LM s (w.live b a)
 let(d,f,i):=w.th;let(as,j,l):=w.wa;let(p,q,r,u):=w.pl;exact(w.nd,λb a=>let ⟨o,h⟩:=w.live b a;⟨o,s b o h⟩,w.tbl,s _ _ w.obj,⟨d,s _ _ f,i.keep k⟩,⟨as,s _ _ j,l.keep k⟩,s _ _ w.rk,⟨p,s _ _ q,r,λn=>(u n).keep k λx c=>?_⟩,w.mi.keep k,w.tb.keep k (e _ WA.r_tb));exact(e _ (WA.r_ps c).1,e _ (WA.r_ps c).2)
def EV (m:Mo K mg)(A:WA)(H:Hp)(d:aZ)(ans:List Int)(Q:VK):Prop:=∀(H':Hp) (c:WA) (p:Addr),WR m H' c d->c.a=A.a->Kp A.rg H H'->(∀b,c.rg b->A.rg b\/H b=ac)->H p=ac->H' p=aa (.lst (iv ans))->Q (.ref p) H'
theorem EV.same {p:Addr}(k:EV m A H W ans Q)(w:WR m H A W)(s:aU H H')(f:H p=ac)(e:H' p=aa (.lst (iv ans))):Q (.ref p) H':=
 k H' A p (w.same s) rfl (Kp.of s) (λ_ h=>.inl h) f e
def EV.new (k:EV m A H W ans Q)(w:WR m H A W)(s:aU H H'):∀p,H' p=ac->Q (.ref p) (bD H' p (.lst (iv ans))):=λp f=>
 k.same w (s.t f) (s.free f) ak
def v7 (m:Mo K mg)(f:List Int->Option cZ):Sp:=λvs H Q _=>∃(A:WA) (W:aZ) (N:Nat) (b:Addr) (l:List Int) (c:cZ),vs=[.ref A.a,.ref b]/\WR m H A W/\uE N W/\N<=300/\H b=aa (.lst (iv l))/\¬A.rg b/\f l=aa c/\l.length<=5000/\
 EV m A H (b9 W c).1 (b9 W c).2 Q
def im {f:List Int->Option cZ}(vs:List V)(H:Hp)(Q:VK)(E:XK)(h:v7 m f vs H Q E):vs.length=2:=by
 let(A,W,N,b,l,c,rfl,_):=h;rfl
theorem WR.things (w:WR m H A W){l:List aN}{x:Cb}(s:aU H H')(e:fZ (m.cl 11) A.rg (bD H' A.td (.dK kvs)) kvs (fT l)):WR m (bD H' A.td (.dK kvs)) A {W with things:=l,index:=x}:=by
 let a:=w.same s;let D:=A.ds w.nd;let k:Kp A.rg H' (bD H' A.td (.dK kvs)):=Kp.refl.put WA.r_td;let(as,c,d):=a.wa;let(f,i,j,p):=a.pl;exact⟨w.nd,λb r=>?_,w.tbl,by rw[aF D.a_td];exact a.obj,⟨kvs,ak,e⟩,⟨as,by rw[aF D.td_wl.symm];exact c,d.keep k⟩,by rw[aF D.td_rk.symm];exact a.rk,
  ⟨f,by rw[aF D.td_pd.symm];exact i,j,λn=>(p n).keep k λx u=>?_⟩,a.mi.keep k,a.tb.keep k (aF D.td_tb.symm)⟩
 ·by_cases q:b=A.td
  ·exact(_,by rw[q];exact ak)
  ·let(o,h):=a.live b r;exact(o,by rw[aF q];exact h)
 ·have:=D.ps x u A.td (.tail _ (.head _));exact(aF this.1,aF this.2)
end
variable {o:HO}
section
variable {P:aO} {w:World} {K:am} {mg:Str->Option ag} {base:Heap} (m:Mo K mg)
def F5 (C:Addr):Sp:=λvs H Q _=>∃(p dx:Addr) (a b:V),vs=[.ref p,a,b]/\H p=aa (.ins C dx [])/\Q .non (bD H p (.ins C dx (tf a b)))
def SF:bo ["self","kind","state"] ["self","kind","state"] (aP (jX (ig 11) 0)):=jY
include m in
def SG:du P w K mg base jw 1 (m.fn 11) (m.fd 11) ["self","kind","state"] (F5 (m.cl 11)):=by
 exact m.k11.F.ok SF (λvs H Q E h=>?_) (λb A a s H vs Q E f h=>?_)
 ·let(p,dx,c,d,rfl,_):=h;rfl
 ·let(p,dx,c,d,rfl,e,k):=h;exact(_,ao (fN (pv 0) (pv 1) rfl) (bN (fN (pv 0) (pv 2) rfl)),?_);exact(_,rfl,_,rfl,WK p _ dx _ rfl e m.k11.cl m.Up (by show 0<1000;decide) ?_);exact(_,rfl,_,rfl,WK p _ dx _ rfl ak m.k11.cl m.Ul (by show 1<1000;decide) ?_);rw[je];exact k
variable {X:Cx} {e1 e2:Expr} {t:TA} {p pos:Pos}
def jI {a:Hp}{x:Addr}(c:a x=ac)(d:a dx=ac):aU a (bD (bD (bD a dx (.own x)) x (.ins C dx [])) x o):=λb u e=>by
 rw[aF (aL e c),aF (aL e c),aF (aL e d)];exact e
def sX (m:Mo X.K X.mg)(c:jC 2 X.A)(d:PA X [e1,e2] t)(e:Gl X "Thing":=by rfl)(f:bp [e1,e2] X.env=(af,eval e1 X.env)::bp [e2] X.env:=by rfl)(a:(iO pos (bp [e2] X.env)).any (·.1)=af:=by rfl):
  PE X (.Call (.Name "Thing" p) [e1,e2] [] pos) (xq (m.cl 11) (F5 (m.cl 11)) [] E0 t):=tY (X:=X) (pos:=pos) (p:=p) m.k11.ma (SG m) c e m.k11.m m.k11.b .nil rH d (by decide) f a
end
def OD {l:List aN}(b:Sp.rS l)(t:aN)(n:Int):(if n=(t.id:Int) then aa (t.kind,t.vals) else fT l n)=fT (Vbwsag.putThing t l) n:=by
 unfold fT;by_cases a:0<=n
 ·rw[jN a,jN a,Sp.kE b];by_cases h:n=(t.id:Int)
  ·rw[jN h,jN ⋯];rfl
  ·rw[iQ h,iQ ⋯]
 ·rw[iQ a,iQ a,iQ ⋯]
def LO {l:List aN}(k:Nat)(n:Int):(if n=(k:Int) then ac else fT l n)=fT (xR k l) n:=by
 unfold fT;by_cases a:0<=n
 ·rw[jN a,jN a,Sp.qW];by_cases h:n=(k:Int)
  ·rw[jN h,jN ⋯];rfl
  ·rw[iQ h,iQ ⋯]
 ·rw[iQ a,iQ a,iQ ⋯]
def AE (n:Int):(fT W.things n).isSome=cK W n:=by
 unfold fT cK;by_cases a:0<=n
 ·rw[jN a,ge,decide_eq_true a,gW]
 ·rw[iQ a,decide_eq_false a,gu];rfl
def F6 {l:List aN}{r:Nat×List Int}(h:fT l n=aa r):0<=n/\∃t,bg l n.toNat=aa t/\r=(t.kind,t.vals):=by
 unfold fT at h;by_cases a:0<=n
 ·rw[jN a] at h;let(t,b,c):=eP.mp h;exact(a,t,b,c.symm)
 ·rw[iQ a] at h;cases h
section
variable {P:aO} {w:World} {K:am} {mg:Str->Option ag} {base:Heap} (m:Mo K mg)
def MV:List Int->Option cZ
 |[n]=>aa (.drop n)
 |_=>ac
def Qt:bo ["world","numbers","n"] wn (aP (ig 32)):=jY
def sY {x:V}:yk [x] 0=aa x:=ib (j:=0) rfl
include m in
def SH:du P w K mg base jw 1 (m.fn 32) (m.fd 32) wn (v7 m MV):=by
 exact m.d32.F.ok Qt im (λD A u s H vs Q E I h=>?_);let(A,W,N,b,l,c,rfl,d,ok,hN,J,nb,hc,h5,k):=h
 match l,hc with
 |[n],hc=>
  cases hc;let L:=jx I;let(z,v,x):=d.th;exact⟨_,ao (nW (i:=2) Qt.nd rfl (eu rfl) (il (pv 1)))
   (ao (dG (iu (qB L (pv 2) (fl (pv 0))) (by with_unfolding_all rfl)) (rt (cr (cU (cS m.Uq)))) bS)
   (ao (gL (vT (fl (pv 0)) (pv 2) ⟨rfl,rfl,rfl,rfl⟩))
   (rt (cr (cU be))))),?_⟩
  exact(_,rfl,WI b _ _ _ rfl rfl (dL.of J) sY ?_);exact(_,rfl,WL _ rfl (WH A.a _ A.dx _ _ rfl d.obj m.k14.cl m.Um gR (WJ A.td _ rfl (gD.k (k:=aA n) v) (WL _ rfl ?_))));rw[x.isSome,AE]
  cases y:cK W n with
  |false=>
   let e:b9 W (.drop n)=bL W (-1):=by
    show(if cK W n=af then _ else _)=_
    rw[jN y]
   rw[e] at k;exact jD ⟨(by show 1<=aI;decide),k.new d (aU.refl H)⟩
  |true=>
   let e:b9 W (.drop n)=(i5 W n.toNat,[0]):=by
    show(if cK W n=af then _ else _)=_
    rw[iQ (by rw[y];simp)]
   rw[e] at k;exact i7 ?_;let M:(fT W.things n).isSome=ae:=by rw[AE];exact y
   let(r,f):=bF.mp M;let(h0,t,O,_):=F6 f;let(a,T,e2):=x.some_ f;exact WL _ rfl (WH A.a _ A.dx _ _ rfl d.obj m.k14.cl m.Um gR ⟨A.td,rfl,.inl ⟨_,.inl v⟩,_,rfl,WT _ (aA n) _ v rfl T ?_⟩);exact((by show 1<=aI;decide),λp o=>?_);let Y:i5 W n.toNat={W with things:=xR n.toNat W.things,index:=Vbwsag.takeCell (Vbwsag.cellOf (dO t)) n.toNat W.index}:=by
    unfold i5;rw[O]
   let B:Kp A.rg H (bD H A.td (.dK (lh z (aA n)))):=Kp.refl.put WA.r_td;let w1:WR m (bD H A.td (.dK (lh z (aA n)))) A (i5 W n.toNat):=by
    rw[Y];exact d.things (aU.refl H) (((x.keep B).drop n).of_eq λj=>?_);let q:=LO (l:=W.things) n.toNat j;rw[show((n.toNat:Nat):Int)=n by omega] at q;exact q
   let C:H p=ac:=by
    by_cases q:p=A.td
    ·rw[q,ak] at o;cases o
    ·rw[aF q] at o;exact o
   exact k _ A p (w1.same (aU.new o)) rfl (B.new C) (λ_ h=>.inl h) C ak
end
def jJ {p:Addr}(h:bD H a o p=ac):p≠a/\H p=ac:=by
 by_cases q:p=a
 ·rw[q,ak] at h;cases h
 ·rw[aF q] at h;exact(q,h)
def cG {lo a:Int}:aX n lo a=ae↔lo<=n/\n<=a:=by
 unfold aX;rw[ca,decide_eq_true_eq,decide_eq_true_eq]
section
variable {P:aO} {w:World} {K:am} {mg:Str->Option ag} {base:Heap} (m:Mo K mg)
def WR.fresh {m:Mo K mg}(w:WR m H A W){p:Addr}(h:H p=ac):¬A.rg p:=λq=>by
 let(o,e):=w.live p q;rw[h] at e;cases e
def zf {m:Mo K mg}{a:Hp}{b:List (ef×V)}{t:aN}{x:Addr}(o:WR m H A W)(c:Sp.rS W.things)(d:aU H a)(q:fZ (m.cl 11) A.rg a b (fT W.things))(hn:n=(t.id:Int))(r:EO (m.cl 11) A.rg a x t.kind t.vals)(k:EV m A H (ir W t) [0] Q):∀p,bD a A.td (.dK (jW b (aA n) (.ref x))) p=ac->Q (.ref p) (bD (bD a A.td (.dK (jW b (aA n) (.ref x)))) p (.lst [.int 0])):=by
 intro p i;let(_,e):=jJ i;let f:Kp A.rg a (bD a A.td (.dK (jW b (aA n) (.ref x)))):=Kp.refl.put WA.r_td;let s:WR m (bD a A.td (.dK (jW b (aA n) (.ref x)))) A (ir W t):=by
  unfold ir;exact o.things d (((q.keep f).put (n:=n) (r.keep f)).of_eq λj=>?_);rw[hn];exact OD c t j
 let l:=d.free e;exact k _ A p (s.same (aU.new i)) rfl (((Kp.of d).trans f).new l) (λ_ h=>.inl h) l ak
def JG:List Int->Option cZ
 |n::k::v=>aa (.make n k v)
 |_=>ac
def Qu:bo ["world","numbers","n","kind","state"] wn (aP (ig 31)):=jY
include m in
def SI:du P w K mg base jw 3 (m.fn 31) (m.fd 31) wn (v7 m JG):=by
 exact m.d31.F.ok Qu im (λb1 A a0 s H vs Q E hr h=>?_);let(A,W,N,b,l,c,rfl,u,M,hN,hb,nb,hc,h5,k):=h
 match l,hc with
 |n::d::v,hc=>
  cases hc;let hu:=jx hr;let nd:=Qu.nd;let hv:v.length<=5000:=by simp at h5;omega
  let(kT,t1,O):=u.th;exact⟨_,ao (sT 2 nd (il (pv 1)))
   (ao (sT 3 nd (il (pv 1)))
   (ao (sT 4 nd (jG kQ (pv 1) (jV be) mn))
   (ao (dG (nV (qf (kF gC gC be (pv 2) (cS m.Vl)) (qf (kF gC rF be (pv 3) (cS m.U3)) (oG (mj (dA m.d30 (SE m) hr (cU (pv 4))))))).pt) (rt (cr (cU (cS m.Uu)))) bS)
   (ao (dG (iu (Bw hu (pv 2) (fl (pv 0))) (by with_unfolding_all rfl)) (rt (cr (cU (cS m.Vk)))) bS)
   (ao (dG (df lD (cJ oP (by rfl) m.Uk cM (cU (fl (pv 0)))) (cS m.Vx) (dS _)) (rt (cr (cU (cS m.U2)))) bS)
   (ao (lG hu (fl (pv 0)) (pv 2) (sX m hr (aS (pv 3) (cU (pv 4)))) rfl)
   (rt (cr (cU be))))))))),?_⟩
  exact WL _ rfl (WI b _ _ _ rfl rfl (dL.of hb) (ib (j:=0) rfl) ?_);exact WL _ rfl (WI b _ _ _ rfl rfl (dL.of hb) (ib (j:=1) rfl) ?_);exact WL _ rfl (WL _ rfl (WJ b _ rfl (dL.of hb) λq fq=>?_));let eq:rW (iv (n::d::v)) (aa 2) ac=iv v:=qE (n::d::v) 2;rw[eq];let o:aU H (bD H q (.lst (iv v))):=aU.new fq;let w1:=u.same o;let nq:¬A.rg q:=u.fresh fq;generalize a4:bD H q (.lst (iv v))=C at o w1⊢;let D:C q=aa (.lst (iv v)):=by rw[<-a4];exact ak
  let f:(gw n=af\/aX d 0 7=af\/jA v=af)->∀r,aU H r->(1<=aI/\∀p,r p=ac->Q (.ref p) (bD r p (.lst [.int (-2)]))):=λI r B=>by
   let e:b9 W (.make n d v)=bL W (-2):=by
    show(if gw n=af\/aX d 0 7=af\/jA v=af then _ else _)=_
    rw[jN I]
   rw[e] at k;exact(by decide,k.new u B)
  exact WL _ rfl (WJ _ _ rfl rfl (WL _ rfl (fO (λc1=>?_) λc1=>?_)))
  ·exact WJ _ _ rfl rfl (WL _ rfl (fO (λc2=>?_) λc2=>?_))
   ·exact WL _ rfl (WJ _ _ rfl rfl (WL _ rfl (fO (λc3=>?_) λc3=>?_)))
    ·exact WJ _ _ rfl rfl (WL _ rfl (fO (λc4=>?_) λc4=>?_))
     ·exact WL _ rfl (WN q v rfl (dL.of D) ⋯ λr B=>(WL _ rfl (y9 (λc5=>?_) λc5=>?_)))
      ·exact f (.inr (.inr c5)) r (o.trans B)
      ·let T:=w1.same B;let i:=o.trans B;let J:=i _ _ t1;let b7:=O.keep (Kp.of (R:=A.rg) i);let o1:gw n=ae:=cG.mpr ⟨c1,c2⟩;let o2:aX d 0 7=ae:=cG.mpr ⟨c3,⋯⟩;let es:b9 W (.make n d v)=(if cK W n=ae then bL W (-3) else if Vbwsag.THINGS<=W.things.length then bL W (-4) else(ir W ⟨n.toNat,d.toNat,v⟩,[0])):=by
        show(if gw n=af\/aX d 0 7=af\/jA v=af then _ else _)=_
        rw[iQ (by rw[o1,o2,c5];simp)]
       rw[es] at k;exact WL _ rfl (WL _ rfl (WH A.a _ A.dx _ _ rfl T.obj m.k14.cl m.Um gR (WJ A.td _ rfl (gD.k (k:=aA n) J) (WL _ rfl ?_))));rw[O.isSome,AE]
       cases hi:cK W n with
       |true=>
        rw[jN hi] at k;exact jD ⟨(by show 1<=aI;decide),k.new u i⟩
       |false=>
        rw[iQ (by rw[hi];simp)] at k;exact i7 ?_;exact WL _ rfl (WH A.a _ A.dx _ _ rfl T.obj m.k14.cl m.Um gR (WN A.td _ rfl J rfl (WL _ rfl ?_)));let el:=(O.ris M.rt).len;rw[aj] at el;rw[el];exact fO (λL=>?_) λL=>?_
        ·let L:(W.things.length:Int)=64:=V.int.inj L;rw[jN (by show 64<=W.things.length;omega)] at k;exact((by show 1<=aI;decide),k.new u i)
        ·let L:W.things.length≠64:=λq=>L (by rw[q];rfl)
         rw[iQ (by have:=M.tl;show¬64<=W.things.length;omega)] at k;exact WL _ rfl (WL _ rfl λx dx fx fd _=>(WP x dx _ _ rfl ak rfl ?_));obtain⟨Y,y⟩:∃Y,Y=bD (bD (bD r dx (.own x)) x (.ins (m.cl 11) dx [])) x (.ins (m.cl 11) dx (tf (.int d) (.ref q))):=⟨_,rfl⟩;let s3:aU r Y:=by rw[y];exact jI fx fd
         let ex:Y x=aa (.ins (m.cl 11) dx (tf (.int d) (.ref q))):=by rw[y];exact ak
         rw[<-y];let z:=i.trans s3;let w3:=T.same s3;exact WL _ rfl (WH A.a _ A.dx _ _ rfl w3.obj m.k14.cl m.Um gR ⟨_,rfl,WJ A.td _ rfl (uo.k (k:=aA n) (z _ _ t1) ?_) ?_⟩)
         ·rw[el];exact dI (by have:=M.tl;omega)
         ·exact((by show 1<=aI;decide),zf (t:=⟨n.toNat,d.toNat,v⟩) u M.rt z (O.keep (Kp.of z)) (by show n=((n.toNat:Nat):Int);omega) (WN dx q (T.fresh fx) nq ?_ (s3 _ _ (B _ _ D))) k);rw[ex];show aa (HO.ins _ _ (tf (.int d) _))=aa (HO.ins _ _ (tf (.int ((d.toNat:Nat):Int)) _));rw[show((d.toNat:Nat):Int)=d by omega]
     ·exact jD (f (.inr (.inl (by cases h:aX d 0 7 with|false=>rfl|true=>have:=cG.mp h;omega))) C o)
    ·exact WL _ rfl (i7 (jD (f (.inr (.inl (by cases h:aX d 0 7 with|false=>rfl|true=>have:=cG.mp h;omega))) C o)))
   ·exact jD (f (.inl (by cases h:gw n with|false=>rfl|true=>have:=cG.mp h;omega)) C o)
  ·exact WL _ rfl (i7 (jD (f (.inl (by cases h:gw n with|false=>rfl|true=>have:=cG.mp h;omega)) C o)))
end
theorem Qv:∀{l:List Int} (x y:Int),2<=l.length->[x,y]++l.drop 2=(l.set 0 x).set 1 y
 |a::b::l,x,y,_=>rfl
 |[],_,_,h=>by simp at h
 |[a],_,_,h=>by simp at h
theorem JH:∀{l:List Int} {i:Nat} (z:Int),i<l.length->l.take i++[z]++l.drop (i+1)=l.set i z
 |a::l,0,z,_=>rfl
 |a::l,i+1,z,h=>by
  have:=JH (l:=l) (i:=i) z (by simpa using h)
  show a::(l.take i++[z]++l.drop (i+1))=a::l.set i z;rw[this]
 |[],_,_,h=>by simp at h
section
variable {P:aO} {w:World} {K:am} {mg:Str->Option ag} {base:Heap} (m:Mo K mg)
def F7 (c:cK W n=ae):∃t,bg W.things n.toNat=aa t/\0<=n/\t.id=n.toNat/\fT W.things n=aa (t.kind,t.vals):=by
 let d:(fT W.things n).isSome=ae:=by rw[AE];exact c
 let(r,a):=bF.mp d;let(f,t,b,e):=F6 a;exact(t,b,f,Sp.m5 b,by rw[a,e])
def MW:List Int->Option cZ
 |[n,x,y]=>aa (.move n x y)
 |_=>ac
def Qw:bo ["world","numbers","n","place","thing"] wn (aP (ig 33)):=jY
include m in
def SJ:du P w K mg base jw 3 (m.fn 33) (m.fd 33) wn (v7 m MW):=by
 exact m.d33.F.ok Qw im (λbm A a1 s H vs Q E hr h=>?_);let(A,W,N,b,l,c,rfl,z,O,hN,hb,nb,hc,h5,k):=h
 match l,hc with
 |[n,x,y],hc=>
  cases hc;let hu:=jx hr;let nd:=Qw.nd;let a5:=hr.mono (show 1<=2 by decide);let(kT,t1,T):=z.th;exact⟨_,ao (sT 2 nd (il (pv 1)))
   (ao (sT 3 nd (jG kQ (pv 1) (jV be) mn))
   (ao (dG (iu (qB hu (pv 2) (fl (pv 0))) (by with_unfolding_all rfl)) (rt (cr (cU (cS m.Uq)))) bS)
   (ao (dG (nV (mj (dA m.d28 (Jx m) a5 (cU (pv 3))))) (rt (cr (cU (cS m.Uu)))) bS)
   (ao (sT 4 nd (jh hu (fl (pv 0)) (pv 2) (λ_ _=>rfl)))
   (ao (lG hu (fl (pv 0)) (pv 2) (sX m hr (aS (fl (pv 4)) (cU (cI iX (pv 3) (jG kQ (fl (pv 4)) (jV be) mn))))) rfl)
   (rt (cr (cU be)))))))),?_⟩
  exact WL _ rfl (WI b _ _ _ rfl rfl (dL.of hb) (ib (j:=0) rfl) ?_);exact WL _ rfl (WL _ rfl (WJ b _ rfl (dL.of hb) λq fq=>?_));let eq:rW (iv [n,x,y]) (aa 1) ac=iv [x,y]:=qE [n,x,y] 1;rw[eq];obtain⟨Y,f⟩:∃Y,Y=bD H q (.lst (iv [x,y])):=⟨_,rfl⟩;let B:aU H Y:=by rw[f];exact aU.new fq
  let C:Y q=aa (.lst (iv [x,y])):=by rw[f];exact ak
  rw[<-f];let w1:=z.same B;exact WL _ rfl (WL _ rfl (WH A.a _ A.dx _ _ rfl w1.obj m.k14.cl m.Um gR (WJ A.td _ rfl (gD.k (k:=aA n) (B _ _ t1)) (WL _ rfl ?_))));rw[T.isSome,AE];let e:b9 W (.move n x y)=(match (if cK W n=ae then bg W.things n.toNat else ac) with
   |none=>bL W (-1)
   |some t=>if bP x=af\/bP y=af then bL W (-2) else(ir W {t with vals:=(t.vals.set 0 x).set 1 y},[0])):=rfl
  cases hi:cK W n with
  |false=>
   rw[hi] at e;rw[e] at k;exact jD ⟨(by show 1<=aI;decide),k.new z B⟩
  |true=>
   let(t,ht,h0,b',hf):=F7 hi;rw[hi,jN rfl,ht] at e;dsimp only at e;let(a,e1,D,ls,na,c6,ea,I):=T.some_ hf;dsimp only at ea I;let tk:=(O.tv t (Sp.pL ht)).2.2;exact i7 ?_;exact WL _ rfl (WN q [x,y] rfl (dL.of C) (by simp) λH2 s2=>(WL _ rfl (y9 (λc5=>?_) λc5=>?_)))
   ·rw[jN (by cases hx:bP x with|false=>exact .inl rfl|true=>exact .inr (by simpa [hx] using c5))] at e
    rw[e] at k;exact((by show 1<=aI;decide),k.new z (B.trans s2))
   ·rw[iQ (by simpa using c5)] at e
    rw[e] at k;let d:=B.trans s2;let w2:=w1.same s2;exact WL _ rfl (WH A.a _ A.dx _ _ rfl w2.obj m.k14.cl m.Um gR ⟨_,rfl,WJ A.td _ rfl (by have:=gD.k (k:=aA n) (d _ _ t1);rw[e1] at this;exact this) ?_⟩);exact WL _ rfl (WH a _ D _ _ rfl (d _ _ ea) m.k11.cl m.Up (nE _ _) (WL _ rfl (WL _ rfl (WH a _ D _ _ rfl (d _ _ ea) m.k11.cl m.Ul (gN _ _) (WL _ rfl (WJ ls _ rfl (dL.of (d _ _ I)) λq3 f3=>?_))))));let av:rW (iv t.vals) (aa 2) ac=iv (t.vals.drop 2):=qE t.vals 2;rw[av];obtain⟨u,i⟩:∃u,u=bD H2 q3 (.lst (iv (t.vals.drop 2))):=⟨_,rfl⟩;let s3:aU H2 u:=by rw[i];exact aU.new f3
    let e3:u q3=aa (.lst (iv (t.vals.drop 2))):=by rw[i];exact ak
    rw[<-i];exact WK q q3 _ _ rfl rfl (s3 _ _ (s2 _ _ C)) e3 (by rw[fw,fw,bC,tk.len];show 2+(8-2)<=aI;decide) λJ f4=>?_;rw[<-re,Qv x y (by rw[tk.len];decide)];obtain⟨v,o⟩:∃v,v=bD u J (.lst (iv ((t.vals.set 0 x).set 1 y))):=⟨_,rfl⟩;let s4:aU u v:=by rw[o];exact aU.new f4
    let e4:v J=aa (.lst (iv ((t.vals.set 0 x).set 1 y))):=by rw[o];exact ak
    rw[<-o];exact λL dx fx fd _=>(WP L dx _ _ rfl ak rfl ?_)
    obtain⟨M,p⟩:∃M,M=bD (bD (bD v dx (.own L)) L (.ins (m.cl 11) dx [])) L (.ins (m.cl 11) dx (tf (.int (t.kind:Nat)) (.ref J))):=⟨_,rfl⟩;let s5:aU v M:=by rw[p];exact jI fx fd
    let ex:M L=aa (.ins (m.cl 11) dx (tf (.int (t.kind:Nat)) (.ref J))):=by rw[p];exact ak
    rw[<-p];let a':aU H2 M:=(s3.trans s4).trans s5;let r:=d.trans a';let w3:=w2.same s3;let w4:=w3.same s4;let w5:=w4.same s5;exact WL _ rfl (WH A.a _ A.dx _ _ rfl w5.obj m.k14.cl m.Um gR ⟨_,rfl,WJ A.td _ rfl (uo.k (k:=aA n) (r _ _ t1) ?_) ?_⟩)
    ·let el:=(T.ris O.rt).len;rw[aj] at el;rw[el];exact dI (by have:=O.tl;omega)
    ·exact((by show 1<=aI;decide),zf (t:={t with vals:=(t.vals.set 0 x).set 1 y}) z O.rt r (T.keep (Kp.of r)) (by show n=(t.id:Int);omega) (WN dx J (w4.fresh fx) (w3.fresh f4) ex (s5 _ _ e4)) k)
def Qx:List Int->Option cZ
 |[n,i,z]=>aa (.set_ n i z)
 |_=>ac
def Qy:bo ["world","numbers","n","i","thing"] wn (aP (ig 34)):=jY
include m in
def SK:du P w K mg base jw 3 (m.fn 34) (m.fd 34) wn (v7 m Qx):=by
 exact m.d34.F.ok Qy im (λc6 A an s H vs Q E hr h=>?_);let(A,W,N,b,l,c,rfl,f,ok,hN,hb,nb,hc,h5,k):=h
 match l,hc with
 |[n,i,z],hc=>
  cases hc;let hu:=jx hr;let nd:=Qy.nd;let av:=hr.mono (show 1<=2 by decide);let(kT,t1,t2):=f.th;exact⟨_,ao (sT 2 nd (il (pv 1)))
   (ao (sT 3 nd (il (pv 1)))
   (ao (dG (iu (qB hu (pv 2) (fl (pv 0))) (by with_unfolding_all rfl)) (rt (cr (cU (cS m.Uq)))) bS)
   (ao (dG (nV (qf (kF gC rF be (pv 3) (cS m.UN)) (oG (mj (dA m.d29 (Qp m) av (cU (jG kQ (pv 1) (jV be) mn)))))).pt) (rt (cr (cU (cS m.Uu)))) bS)
   (ao (sT 4 nd (jh hu (fl (pv 0)) (pv 2) (λ_ _=>rfl)))
   (ao (lG hu (fl (pv 0)) (pv 2) (sX m hr (aS (fl (pv 4)) (cU (cI iX (cI iX (jG kQ (fl (pv 4)) mn (jV (pv 3))) (jG kQ (pv 1) (jV be) mn)) (jG kQ (fl (pv 4)) (jV (cI o6 (pv 3) be)) mn))))) rfl)
   (rt (cr (cU be)))))))),?_⟩
  exact WL _ rfl (WI b _ _ _ rfl rfl (dL.of hb) (ib (j:=0) rfl) ?_);exact WL _ rfl (WI b _ _ _ rfl rfl (dL.of hb) (ib (j:=1) rfl) ?_);exact WL _ rfl (WL _ rfl (WH A.a _ A.dx _ _ rfl f.obj m.k14.cl m.Um gR (WJ A.td _ rfl (gD.k (k:=aA n) t1) (WL _ rfl ?_))));rw[t2.isSome,AE];let r:b9 W (.set_ n i z)=(match (if cK W n=ae then bg W.things n.toNat else ac) with
   |none=>bL W (-1)
   |some t=>if aX i 2 7=af\/fu z=af then bL W (-2) else(ir W {t with vals:=t.vals.set i.toNat z},[0])):=rfl
  cases hi:cK W n with
  |false=>
   rw[hi] at r;rw[r] at k;exact jD ⟨(by show 1<=aI;decide),k.new f (aU.refl H)⟩
  |true=>
   let(t,ht,h0,c7,hf):=F7 hi;rw[hi,jN rfl,ht] at r;dsimp only at r;let(a,e1,v,ls,na,cb,ea,x):=t2.some_ hf;dsimp only at ea x;let tk:=(ok.tv t (Sp.pL ht)).2.2;let y:(aX i 2 7=af\/fu z=af)->∀u,aU H u->(1<=aI/\∀p,u p=ac->Q (.ref p) (bD u p (.lst [.int (-2)]))):=λO u s2=>by
    rw[jN O] at r;rw[r] at k;exact(by decide,k.new f s2)
   exact i7 ?_;let cf:rW (iv [n,i,z]) (aa 2) ac=iv [z]:=qE [n,i,z] 2;exact WL _ rfl (WJ _ _ rfl rfl (WL _ rfl (fO (λc1=>?_) λc1=>?_)))
   ·exact WJ _ _ rfl rfl (WL _ rfl (fO (λc2=>?_) λc2=>?_))
    ·exact WL _ rfl (WL _ rfl (WJ b _ rfl (dL.of hb) λq fq=>?_));rw[cf];exact WN q [z] rfl (dL.of ak) (by simp) λu s2=>(WL _ rfl (y9 (λT=>?_) λT=>?_))
     ·exact y (.inr (by simpa using T)) u ((aU.new fq).trans s2)
     ·let T:fu z=ae:=by simpa using T
      let o1:aX i 2 7=ae:=cG.mpr ⟨c1,⋯⟩;rw[iQ (by rw[o1,T];simp)] at r;rw[r] at k;let d:=(aU.new fq).trans s2;let w2:=f.same d;exact WL _ rfl (WH A.a _ A.dx _ _ rfl w2.obj m.k14.cl m.Um gR (WL _ rfl (WJ A.td _ rfl (by have:=gD.k (k:=aA n) (d _ _ t1);rw[e1] at this;exact this) ?_)));exact WL _ rfl (WH a _ v _ _ rfl (d _ _ ea) m.k11.cl m.Up (nE _ _) (WL _ rfl (WH a _ v _ _ rfl (d _ _ ea) m.k11.cl m.Ul (gN _ _) (WL _ rfl (WL _ rfl (WJ ls _ rfl (dL.of (d _ _ x)) λq3 f3=>?_))))));let ei:i=((i.toNat:Nat):Int):=⋯
      let b1:rW (iv t.vals) ac (aa i)=iv (t.vals.take i.toNat):=by rw[ei];exact BH t.vals i.toNat
      rw[b1];obtain⟨Y,B⟩:∃Y,Y=bD u q3 (.lst (iv (t.vals.take i.toNat))):=⟨_,rfl⟩;let s3:aU u Y:=by rw[B];exact aU.new f3
      let e3:Y q3=aa (.lst (iv (t.vals.take i.toNat))):=by rw[B];exact ak
      rw[<-B];let a0:=d.trans s3;exact WL _ rfl (WL _ rfl (WJ b _ rfl (dL.of (a0 _ _ hb)) λq4 f4=>?_));rw[cf];exact WK q3 q4 _ _ rfl rfl (aU.new f4 _ _ e3) ak (by rw[fw,fw,cO,tk.len];exact dY (dI (by show _+1<=_;omega))) λq5 f5=>?_;rw[<-re];let e:=(a0.t (o:=.lst (iv [z])) f4).t (o:=.lst (iv (t.vals.take i.toNat++[z]))) f5;exact WL _ rfl (WH a _ v _ _ rfl (e _ _ ea) m.k11.cl m.Ul (gN _ _) (WL _ rfl (WJ _ _ rfl rfl (WL _ rfl (WJ ls _ rfl (dL.of (e _ _ x)) λq6 f6=>?_)))));let b3:rW (iv t.vals) (aa (i+1)) ac=iv (t.vals.drop (i.toNat+1)):=by
       rw[show i+1=((i.toNat+1:Nat):Int) by omega];exact qE t.vals (i.toNat+1)
      rw[b3];exact WK q5 q6 _ _ rfl rfl (aU.new f6 _ _ ak) ak (by rw[fw,fw,aQ,cO,bC,tk.len];exact dY (dI (by show _+1+_<=_;omega))) λL f7=>?_;rw[<-re,JH z (by rw[tk.len];omega)];let C:=(e.t (o:=.lst (iv (t.vals.drop (i.toNat+1)))) f6).t (o:=.lst (iv (t.vals.set i.toNat z))) f7;obtain⟨M,D⟩:∃M,M=bD (bD (bD (bD Y q4 (.lst (iv [z]))) q5 (.lst (iv (t.vals.take i.toNat++[z])))) q6 (.lst (iv (t.vals.drop (i.toNat+1))))) L (.lst (iv (t.vals.set i.toNat z))):=⟨_,rfl⟩;let e7:M L=aa (.lst (iv (t.vals.set i.toNat z))):=by rw[D];exact ak
      let w7:WR m M A W:=by rw[D];exact f.same C
      let n7:¬A.rg L:=(f.same (e.t (o:=.lst (iv (t.vals.drop (i.toNat+1)))) f6)).fresh f7;rw[<-D] at C⊢;exact λxx dx fx fd _=>(WP xx dx _ _ rfl ak rfl ?_)
      obtain⟨H8,I⟩:∃H8,H8=bD (bD (bD M dx (.own xx)) xx (.ins (m.cl 11) dx [])) xx (.ins (m.cl 11) dx (tf (.int (t.kind:Nat)) (.ref L))):=⟨_,rfl⟩;let s8:aU M H8:=by rw[I];exact jI fx fd
      let ex:H8 xx=aa (.ins (m.cl 11) dx (tf (.int (t.kind:Nat)) (.ref L))):=by rw[I];exact ak
      rw[<-I];let J:=C.trans s8;let w8:=w7.same s8;exact WL _ rfl (WH A.a _ A.dx _ _ rfl w8.obj m.k14.cl m.Um gR ⟨_,rfl,WJ A.td _ rfl (uo.k (k:=aA n) (J _ _ t1) ?_) ?_⟩)
      ·let el:=(t2.ris ok.rt).len;rw[aj] at el;rw[el];exact dI (by have:=ok.tl;omega)
      ·exact((by show 1<=aI;decide),zf (t:={t with vals:=t.vals.set i.toNat z}) f ok.rt J (t2.keep (Kp.of J)) (by show n=(t.id:Int);omega) (WN dx L (w7.fresh fx) n7 ex (s8 _ _ e7)) k)
    ·exact jD (y (.inl (by cases h:aX i 2 7 with|false=>rfl|true=>have:=cG.mp h;omega)) H (aU.refl H))
   ·exact WL _ rfl (i7 (jD (y (.inl (by cases h:aX i 2 7 with|false=>rfl|true=>have:=cG.mp h;omega)) H (aU.refl H))))
end
theorem xD {α β:Type}{F:α->β->Prop}:∀{l:List α} {r:List β} {a:α} {b:β},a9 F l r->F a b->a9 F (l++[a]) (r++[b])
 |_,_,_,_,.nil,h=>.cons h .nil
 |_,_,_,_,.cons h t,c=>.cons h (xD t c)
theorem v9 {α β:Type}{F:α->β->Prop}:∀{l:List α} {r:List β} (i:Nat),a9 F l r->a9 F (l.eraseIdx i) (r.eraseIdx i)
 |_,_,_,.nil=>.nil
 |_,_,0,.cons _ t=>t
 |_,_,i+1,.cons h t=>.cons h (v9 i t)
section
variable {P:aO} {w:World} {K:am} {mg:Str->Option ag} {base:Heap} (m:Mo K mg)
theorem WR.walls {m:Mo K mg}(w:WR m H A W){ws:List dU}(s:aU H H')(e:JE A.rg (bD H' A.wl (.lst (as.map V.ref))) as ws):WR m (bD H' A.wl (.lst (as.map V.ref))) A {W with walls:=ws}:=by
 let a:=w.same s;let D:=A.ds w.nd;let k:Kp A.rg H' (bD H' A.wl (.lst (as.map V.ref))):=Kp.refl.put WA.r_wl;let(c,d,f):=a.th;let(i,j,l,p):=a.pl;exact⟨w.nd,λb r=>?_,w.tbl,by rw[aF D.a_wl];exact a.obj,⟨c,by rw[aF D.td_wl];exact d,f.keep k⟩,⟨as,ak,e⟩,by rw[aF D.wl_rk.symm];exact a.rk,
  ⟨i,by rw[aF D.wl_pd.symm];exact j,l,λn=>(p n).keep k λx u=>?_⟩,a.mi.keep k,a.tb.keep k (aF D.wl_tb.symm)⟩
 ·by_cases q:b=A.wl
  ·exact(_,by rw[q];exact ak)
  ·let(o,h):=a.live b r;exact(o,by rw[aF q];exact h)
 ·have:=D.ps x u A.wl (.tail _ (.tail _ (.head _)));exact(aF this.1,aF this.2)
theorem WR.ranks {m:Mo K mg}(w:WR m H A W){c:List Nat}(s:aU H H'):WR m (bD H' A.rk (.lst (nb c))) A {W with ranks:=c}:=by
 let a:=w.same s;let D:=A.ds w.nd;let k:Kp A.rg H' (bD H' A.rk (.lst (nb c))):=Kp.refl.put WA.r_rk;let(d,e,f):=a.th;let(as,i,j):=a.wa;let(l,p,r,u):=a.pl;exact⟨w.nd,λb v=>?_,w.tbl,by rw[aF D.a_rk];exact a.obj,⟨d,by rw[aF D.td_rk];exact e,f.keep k⟩,⟨as,by rw[aF D.wl_rk];exact i,j.keep k⟩,ak,
  ⟨l,by rw[aF D.rk_pd.symm];exact p,r,λn=>(u n).keep k λx y=>?_⟩,a.mi.keep k,a.tb.keep k (aF D.rk_tb.symm)⟩
 ·by_cases q:b=A.rk
  ·exact(_,by rw[q];exact ak)
  ·let(o,h):=a.live b v;exact(o,by rw[aF q];exact h)
 ·have:=D.ps x y A.rk (.tail _ (.tail _ (.tail _ (.head _))));exact(aF this.1,aF this.2)
def wb {m:Mo K mg}{b:Hp}{c:aZ}(i:A.rg a)(d:aU H b)(j:WR m (bD b a o) A c)(k:EV m A H c ans Q):∀p,bD b a o p=ac->Q (.ref p) (bD (bD b a o) p (.lst (iv ans))):=by
 intro p e;let f:=d.free (jJ e).2;exact k _ A p (j.same (aU.new e)) rfl (((Kp.of d).put i).new f) (λ_ h=>.inl h) f ak
def MX:List Int->Option cZ
 |[a,b,c,d]=>aa (.wall a b c d)
 |_=>ac
def Qz:bo wn wn (aP (ig 35)):=jY
include m in
def SM:du P w K mg base jw 2 (m.fn 35) (m.fd 35) wn (v7 m MX):=by
 exact m.d35.F.ok Qz im (λO A x s H vs Q E T h=>?_);let(A,W,N,b,l,c,rfl,r,Y,hN,C,nb,hc,h5,k):=h
 match l,hc with
 |[i,j,o,d],hc=>
  cases hc;let nd:=Qz.nd;let(as,y,I):=r.wa;let z:as.length=W.walls.length:=cB I;exact⟨_,ao (dG (nV (mj (dA m.d28 (Jx m) T (cU (pv 1))))) (rt (cr (cU (cS m.Uu)))) bS)
   (ao (dG (df lD (cJ eN (by rfl) m.Uk cM (cU (fl (pv 0)))) (cS m.Vy) (dS _)) (rt (cr (cU (cS m.U2)))) bS)
   (ao (gL (wT (fl (pv 0)) (pv 1)))
   (rt (cr (cU (cI jU (cJ eN (by rfl) m.Uk cM (cU (fl (pv 0)))) be)))))),?_⟩
  exact WL _ rfl (WN b [i,j,o,d] rfl (dL.of C) (by simp) λv f=>(WL _ rfl (y9 (λc1=>?_) λc1=>?_)))
  ·let e:b9 W (.wall i j o d)=bL W (-2):=by
    show(if[i,j,o,d].all bP=af then _ else _)=_
    rw[jN c1]
   rw[e] at k;exact((by show 1<=aI;decide),k.new r f)
  ·let e:b9 W (.wall i j o d)=(if Vbwsag.WALLS<=W.walls.length then bL W (-4) else({W with walls:=W.walls++[⟨⟨i,j⟩,⟨o,d⟩⟩]},[(W.walls.length:Int)])):=by
    show(if[i,j,o,d].all bP=af then _ else _)=_
    rw[iQ (by rw[c1];simp)]
   rw[e] at k;let J:=r.same f;exact WL _ rfl (WH A.a _ A.dx _ _ rfl J.obj m.k14.cl m.Ut pi (WN A.wl _ rfl (.inl (dL.of (f _ _ y))) rfl (WL _ rfl ?_)));rw[aj,z];exact fO (λu=>?_) λu=>?_
   ·let u:(W.walls.length:Int)=32:=V.int.inj u;rw[jN (by show 32<=W.walls.length;omega)] at k;exact((by show 1<=aI;decide),k.new r f)
   ·let u:W.walls.length≠32:=λq=>u (by rw[q];rfl)
    let a0:=Y.wl;rw[iQ (by show¬32<=W.walls.length;omega)] at k;exact WL _ rfl (WM A.a _ A.dx _ _ rfl J.obj m.k14.cl m.Ut pi (.inl ⟨rfl,_,dL.of (f _ _ y)⟩) ⟨_,rfl,WQ A.wl _ _ rfl rfl (f _ _ y) (by rw[aj,z];exact dI ⋯) ?_⟩);let ea:as.map V.ref++[V.ref b]=(as++[b]).map V.ref:=by rw[bU];rfl
    rw[ea];let k1:Kp A.rg v (bD v A.wl (.lst ((as++[b]).map V.ref))):=Kp.refl.put WA.r_wl;let L:Kp A.rg H (bD v A.wl (.lst ((as++[b]).map V.ref))):=(Kp.of f).trans k1;let B:¬A.rg b/\Pd (bD v A.wl (.lst ((as++[b]).map V.ref))) b ⟨⟨i,j⟩,⟨o,d⟩⟩:=⟨nb,L _ _ nb C⟩;let M:=r.walls (ws:=W.walls++[⟨⟨i,j⟩,⟨o,d⟩⟩]) f (xD (I.keep L) B);let D:=A.ds r.nd;exact WL _ rfl (WH A.a _ A.dx _ _ rfl M.obj m.k14.cl m.Ut pi (WJ A.wl _ rfl (.inl (dL.of ak)) (WN _ _ rfl rfl (by show 1<=aI;decide) λp hp=>?_)));let h9:=wb WA.r_wl f M k p hp;rw[aj,aQ,z];let e9:(((W.walls.length+[b].length:Nat):Int)-1)=(W.walls.length:Int):=by simp
    show Q (.ref p) (bD _ p (.lst [.int (((W.walls.length+[b].length:Nat):Int)-1)]));rw[e9];exact h9
def F8:List Int->Option cZ
 |[i]=>aa (.unwall i)
 |_=>ac
def QA:bo ["world","numbers","i"] wn (aP (ig 36)):=jY
theorem AF {α β:Type}(f:α->β):∀(l:List α) (i:Nat),(l.map f).eraseIdx i=(l.eraseIdx i).map f
 |[],_=>rfl
 |_::_,0=>rfl
 |a::l,i+1=>by
  show f a::(l.map f).eraseIdx i=f a::(l.eraseIdx i).map f;rw[AF f l i]
variable {X:Cx} {o e:Expr} {to te:TE} {apos cpos:Pos}
def JI (f:PE X o to)(i:PE X e te)(a:fY o "pop" X.env (eval o X.env)=eval o X.env:=by rfl)
  (c:((iO cpos (bp [e] X.env)).all (λx=> !x.1)&&(uu cpos (nL [] X.env)).all (λx=>x.1.isSome)&&decide (([e]:List Expr).length+([]:List lZ).length+(if([]:List lZ).isEmpty then 0 else 1)<30))=ae:=by rfl)
  (b:(apos.endLine==cpos.line)=ae:=by rfl) (d:bp [e] X.env=(af,eval e X.env)::bp [] X.env:=by rfl):
  PE X (.Call (.Attribute o "pop" apos) [e] [] cpos) (PP X.K "list" IQ to (vN te Bo)):=FH qP PySem.F.slot_list_pop PySem.F.type_list_pop IR f (aS i ng d) a c b d rfl
include m in
def SN:du P w K mg base jw 1 (m.fn 36) (m.fd 36) wn (v7 m F8):=by
 exact m.d36.F.ok QA im (λx A q s H vs Q E M h=>?_);let(A,W,N,b,l,c,rfl,d,y,hN,z,nb,hc,O,k):=h
 match l,hc with
 |[i],hc=>
  cases hc;let B:=QA.nd;let(as,r,v):=d.wa;let C:as.length=W.walls.length:=cB v;exact⟨_,ao (sT 2 B (il (pv 1)))
   (ao (dG (nV (kF gC rF be (pv 2) (cJ eN (by rfl) m.Uk cM (cU (fl (pv 0)))))) (rt (cr (cU (cS m.Uq)))) bS)
   (ao (gL (JI (fl (pv 0)) (pv 2)))
   (rt (cr (cU be))))),?_⟩
  let f:aX i 0 ((W.walls.length:Int)-1)=af->1<=aI/\∀p,H p=ac->Q (.ref p) (bD H p (.lst [.int (-1)])):=λo=>by
   let e:b9 W (.unwall i)=bL W (-1):=by
    show(if aX i 0 ((W.walls.length:Int)-1)=af then _ else _)=_
    rw[jN o]
   rw[e] at k;exact(by decide,k.new d (aU.refl H))
  exact(_,rfl,WI b _ _ _ rfl rfl (dL.of z) sY ?_);exact WL _ rfl (WJ _ _ rfl rfl (WL _ rfl (fO (λc1=>?_) λc1=>?_)))
  ·exact WL _ rfl (WH A.a _ A.dx _ _ rfl d.obj m.k14.cl m.Ut pi (WJ A.wl _ rfl (.inl (dL.of r)) (WJ _ _ rfl rfl (WL _ rfl ?_))));rw[aj,C];exact vX (λD=>?_) λD=>?_
   ·exact f (by cases h:aX i 0 ((W.walls.length:Int)-1) with|false=>rfl|true=>have:=cG.mp h;omega)
   ·let e:b9 W (.unwall i)=({W with walls:=W.walls.eraseIdx i.toNat},[0]):=by
     show(if aX i 0 ((W.walls.length:Int)-1)=af then _ else _)=_
     rw[iQ (by rw[cG.mpr ⟨c1,⋯⟩];simp)]
    rw[e] at k;let I:=y.wl;let u:i.toNat<as.length:=⋯
    exact(_,rfl,WM A.a _ A.dx _ _ rfl d.obj m.k14.cl m.Ut pi (.inl ⟨rfl,_,dL.of r⟩) ⟨_,rfl,WM A.wl _ i i.toNat (.ref as[i.toNat]) rfl rfl r ⋯ ⋯ ((Bp (i:=i) (j:=i.toNat) (n:=(as.map V.ref).length) ?_).1) ⟨?_,?_⟩⟩)
    ·unfold K8;rw[jN c1,jN (by rw[aj];omega)]
    ·rw[bZ,br u];rfl
    ·rw[AF];let J:Kp A.rg H (bD H A.wl (.lst ((as.eraseIdx i.toNat).map V.ref))):=Kp.refl.put WA.r_wl;let L:=d.walls (ws:=W.walls.eraseIdx i.toNat) (aU.refl H) (v9 i.toNat (v.keep J));exact((by show 1<=aI;decide),wb WA.r_wl (aU.refl H) L k)
  ·exact WL _ rfl (jD (f (by cases h:aX i 0 ((W.walls.length:Int)-1) with|false=>rfl|true=>have:=cG.mp h;omega)))
def MY:List Int->Option cZ
 |[k,r]=>aa (.rank k r)
 |_=>ac
def QB:bo ["world","numbers","kind","rank"] wn (aP (ig 37)):=jY
include m in
def SO:du P w K mg base jw 1 (m.fn 37) (m.fd 37) wn (v7 m MY):=by
 exact m.d37.F.ok QB im (λC A v s H vs Q E M h=>?_);let(A,W,N,b,l,c,rfl,o,D,hN,x,I,hc,O,k):=h
 match l,hc with
 |[d,r],hc=>
  cases hc;let y:=QB.nd;exact⟨_,ao (sT 2 y (il (pv 1)))
   (ao (sT 3 y (il (pv 1)))
   (ao (dG (nV (qf (kF gC rF be (pv 2) (cS m.U3)) (oG (kF gC gC be (pv 3) (cS m.VC)))).pt) (rt (cr (cU (cS m.Uu)))) bS)
   (ao (NP (pv 3) (NN (fl (pv 0)) (pv 2) IN))
   (rt (cr (cU be)))))),?_⟩
  let f:(aX d 0 7=af\/aX r 0 100=af)->1<=aI/\∀p,H p=ac->Q (.ref p) (bD H p (.lst [.int (-2)])):=λi=>by
   let e:b9 W (.rank d r)=bL W (-2):=by
    show(if aX d 0 7=af\/aX r 0 100=af then _ else _)=_
    rw[jN i]
   rw[e] at k;exact(by decide,k.new o (aU.refl H))
  let no:∀{n lo u:Int},¬(lo<=n/\n<=u)->aX n lo u=af:=λ{n lo u} h=>by
   cases q:aX n lo u with
   |false=>rfl
   |true=>exact aB (cG.mp q) h
  exact(_,rfl,WI b _ _ _ rfl rfl (dL.of x) (ib (j:=0) rfl) ?_);exact(_,rfl,WI b _ _ _ rfl rfl (dL.of x) (ib (j:=1) rfl) ?_);exact WL _ rfl (WJ _ _ rfl rfl (WL _ rfl (fO (λc1=>?_) λc1=>?_)))
  ·exact WJ _ _ rfl rfl (WL _ rfl (fO (λJ=>?_) λJ=>?_))
   ·exact WL _ rfl (WJ _ _ rfl rfl (WL _ rfl (fO (λz=>?_) λz=>?_)))
    ·exact WJ _ _ rfl rfl (WL _ rfl (vX (λB=>?_) λB=>?_))
     ·exact f (.inr (no ⋯))
     ·let e:b9 W (.rank d r)=({W with ranks:=W.ranks.set d.toNat r.toNat},[0]):=by
       show(if aX d 0 7=af\/aX r 0 100=af then _ else _)=_
       rw[iQ (by rw[cG.mpr ⟨c1,(by omega:d<=7)⟩,cG.mpr ⟨z,B⟩];simp)]
      rw[e] at k;exact(_,rfl,_,rfl,WH A.a _ A.dx _ _ rfl o.obj m.k14.cl m.UX Jz ⟨_,rfl,WI A.rk _ d d.toNat rfl rfl o.rk ?_ ?_⟩)
      ·unfold K8;rw[jN c1,jN (by rw[kG,D.rl];omega)]
      ·let L:(nb W.ranks).set d.toNat (V.int r)=nb (W.ranks.set d.toNat r.toNat):=by
        show _=(W.ranks.set d.toNat r.toNat).map _;rw[List.map_set,show(((r.toNat:Nat):Int))=r by omega]
       rw[L];exact((by show 1<=aI;decide),wb WA.r_rk (aU.refl H) (o.ranks (aU.refl H)) k)
    ·exact WL _ rfl (jD (f (.inr (no ⋯))))
   ·exact jD (f (.inl (no ⋯)))
  ·exact WL _ rfl (i7 (jD (f (.inl (no ⋯)))))
end
abbrev uN (l:List (Nat×aq)):Prop:=l.Pairwise λa b=>a.1<b.1
def rX (l:List (Nat×aq))(n:Nat):Option aq:=(l.find? λx=>x.1==n).map λx=>x.2
def jc {x:Nat×aq}{l:List (Nat×aq)}{n:Nat}:rX (x::l) n=if x.1=n then aa x.2 else rX l n:=by
 unfold rX;rw[jt];by_cases h:x.1=n
 ·rw[beq_iff_eq.mpr h,jN h];rfl
 ·rw[beq_eq_false_iff_ne.mpr h,iQ h]
theorem Dv {n:Nat}{p:aq}{j:Nat}:∀{l:List (Nat×aq)},uN l->rX (dw n p l) j=if n=j then aa p else rX l j
 |[],_=>by
  show rX [(n,p)] j=_;rw[jc]
 |x::l,h=>by
  unfold dw;let(d,c):=a7.mp h;by_cases c1:n<x.1
  ·rw[jN c1,jc]
  ·rw[iQ c1];by_cases b:n=x.1
   ·rw[jN b,jc,jc];by_cases a:n=j
    ·rw[jN a,jN a]
    ·rw[iQ a,iQ a,iQ ⋯]
   ·rw[iQ b,jc,jc,Dv c];by_cases a:x.1=j
    ·rw[jN a,jN a,iQ ⋯]
    ·rw[iQ a,iQ a]
theorem wW {n j:Nat}:∀{l:List (Nat×aq)},rX (l.filter λx=>x.1 !=n) j=if j=n then ac else rX l j
 |[]=>by simp[rX]
 |x::l=>by
  rw[dB];by_cases c:x.1=n
  ·rw[iQ (by simp[c]),wW,jc];by_cases a:j=n
   ·rw[jN a,jN a]
   ·rw[iQ a,iQ a,iQ ⋯]
  ·rw[jN (by simp[c]),jc,jc,wW];by_cases a:x.1=j
   ·rw[jN a,jN a,iQ ⋯]
   ·rw[iQ a,iQ a]
def eF (W:aZ)(n:Int):aJ W n=if n<0 then ac else rX W.players n.toNat:=rfl
def qG {l:List (Nat×aq)}{n:Nat}(h:rX l n=aa p):(n,p)∈l:=by
 unfold rX at h;let(x,c,d):=eP.mp h;let e:x.1=n:=by simpa using lT c
 let f:x∈l:=eR c;let(a,b):=x;cases e;cases d;exact f
theorem pS:∀{l:List (Nat×aq)} {x:Nat×aq},uN l->x∈l->rX l x.1=aa x.2
 |y::l,x,h,hx=>by
  let(a,b):=a7.mp h;rw[jc];rcases az.mp hx with e|hx
  ·rw[e,jN rfl]
  ·rw[iQ (by have:=a x hx;omega)];exact pS b hx
def pT (a:uN W.players)(c:Dk kvs)(h:∀n:Int,(eE kvs (aA n)).isSome=(aJ W n).isSome):qg kvs (W.players.map (·.1)):=by
 exact(c,bY.mpr a,λn=>?_);rw[h,eF];by_cases b:n<0
 ·rw[jN b];constructor
  ·intro q;cases q
  ·intro x';let(j,_,rfl):=x';omega
 ·rw[iQ b];constructor
  ·intro q;let(p,d):=bF.mp q;exact(n.toNat,aM.mpr ⟨_,qG d,rfl⟩,⋯)
  ·intro x';let(j,e,rfl):=x';let(x,f,rfl):=aM.mp e;rw[show((x.1:Nat):Int).toNat=x.1 by omega,pS a f];rfl
structure Mv (R R':Rg)(H H':Hp):Prop where
 k:Kp R H H'
 g:∀b,R' b->R b\/H b=ac
variable {R':Rg}
def Mv.at_ (v:Mv R R' H H'){b:Addr}(n:¬R b)(h:H b=aa o):¬R' b/\H' b=aa o:=⟨λq=>(v.g b q).elim n λz=>(by rw[h] at z;cases z),v.k b o n h⟩
def EO.move {k:Nat}(t:EO C R H a k vs)(v:Mv R R' H H'):EO C R' H' a k vs:=
 let ⟨dx,l,b,c,d,e⟩:=t;(WN dx l ((v.at_ b d).1) ((v.at_ c e).1) ((v.at_ b d).2) ((v.at_ c e).2))
theorem fZ.move (d:fZ C R H kvs f)(v:Mv R R' H H'):fZ C R' H' kvs f:=by
 exact(d.dk,λn=>?_);let t:=d.at_ n;generalize eE kvs (aA n)=o at t⊢;generalize f n=r at t⊢;cases o<;>cases r
 ·exact t
 ·exact t
 ·exact t
 ·let(a,e,h):=t;exact(a,e,h.move v)
def JE.move {ws:List dU}(h:JE R H as ws)(v:Mv R R' H H'):JE R' H' as ws:=a9.mapP h λ_ _ q=>v.at_ q.1 q.2
theorem OC.move {a:Addr}{mi:Addr}{x:Nat×List bv}(h:OC CT a R H mi x)(v:Mv R R' H H'):OC CT a R' H' mi x:=
 let ⟨f,i,kvs,b,c,d,e,j⟩:=h;(WQ f i kvs ((v.at_ b d).1) ((v.at_ c e).1) ((v.at_ b d).2) ((v.at_ c e).2) (j.move v))
def uq.move {q:Str}{T:Addr}(h:uq pos q R H T)(v:Mv R R' H H')(e:H' T=H T):uq pos q R' H' T:=by
 obtain⟨ps,b,d,a|⟨c,a,f,i⟩⟩:=h
 ·exact(ps,e.trans b,d,.inl a)
 ·exact(ps,e.trans b,d,.inr ⟨c,a,(v.at_ f i).1,(v.at_ f i).2⟩)
theorem JD.move {b:Addr}(h:JD CT CP R H pa b p)(v:Mv R R' H H')(h1:H' pa=H pa)(u:H' b=H b):JD CT CP R' H' pa b p:=by
 let(dx,w,x,y,z,c,d,e,f,A,B,(i,j,l,o),q,C,r,D,E,s,I,a):=h;exact(dx,w,x,y,z,c,d,e,f,h1.trans A,u.trans B,⟨(v.at_ i q).1,(v.at_ j r).1,(v.at_ l s).1,(v.at_ o a).1⟩,(v.at_ i q).2,C,(v.at_ j r).2,D,E.move v,(v.at_ l s).2,I,(v.at_ o a).2)
section
variable {P:aO} {w:World} {K:am} {mg:Str->Option ag} {base:Heap} (m:Mo K mg)
def MZ:List Int->Option cZ
 |[n]=>aa (.part n)
 |_=>ac
theorem zM.isSome {o:Option V}{p:Option aq}(h:zM CT CP R H ps n o p):o.isSome=p.isSome:=by
 cases o<;>cases p
 ·rfl
 ·exact h.elim
 ·exact h.elim
 ·rfl
theorem WR.players {m:Mo K mg}(w:WR m H A W){l:List (Nat×aq)}(a:Dk kvs)(c:∀n,zM (m.cl 11) (m.cl 12) A.rg (bD H A.pd (.dK kvs)) A.ps n (eE kvs (aA n)) (aJ {W with players:=l} n)):WR m (bD H A.pd (.dK kvs)) A {W with players:=l}:=by
 let D:=A.ds w.nd;let k:Kp A.rg H (bD H A.pd (.dK kvs)):=Kp.refl.put WA.r_pd;let(d,e,f):=w.th;let(as,i,j):=w.wa;exact(w.nd,λb p=>?_,w.tbl,by rw[aF D.a_pd];exact w.obj,⟨d,by rw[aF D.td_pd];exact e,f.keep k⟩,⟨as,by rw[aF D.wl_pd];exact i,j.keep k⟩,by rw[aF D.rk_pd];exact w.rk,⟨kvs,ak,a,c⟩,w.mi.keep k,w.tb.keep k (aF D.pd_tb.symm));by_cases q:b=A.pd
 ·exact(_,by rw[q];exact ak)
 ·let(o,h):=w.live b p;exact(o,by rw[aF q];exact h)
def QC:bo ["world","numbers","n"] wn (aP (ig 40)):=jY
include m in
def SQ:du P w K mg base jw 1 (m.fn 40) (m.fd 40) wn (v7 m MZ):=by
 exact m.d40.F.ok QC im (λI A u s H vs Q E J h=>?_);let(A,W,N,b,l,c,rfl,e,ok,hN,L,nb,hc,h5,k):=h
 match l,hc with
 |[n],hc=>
  cases hc;let M:=jx J;let(O,y,T,B):=e.pl;exact⟨_,ao (nW (i:=2) QC.nd rfl (eu rfl) (il (pv 1)))
   (ao (dG (iu (qB M (pv 2) (fl (pv 0))) (by with_unfolding_all rfl)) (rt (cr (cU (cS m.Uq)))) bS)
   (ao (gL (vT (fl (pv 0)) (pv 2) ⟨rfl,rfl,rfl,rfl⟩))
   (rt (cr (cU be))))),?_⟩
  exact(_,rfl,WI b _ _ _ rfl rfl (dL.of L) sY ?_);exact(_,rfl,WL _ rfl (WH A.a _ A.dx _ _ rfl e.obj m.k14.cl m.Uo jo (WJ A.pd _ rfl (gD.k (k:=aA n) y) (WL _ rfl ?_))));rw[(B n).isSome];let o:b9 W (.part n)=(match aJ W n with
   |none=>bL W (-1)
   |some _=>({W with players:=W.players.filter λx=>x.1 !=n.toNat},[0])):=rfl
  cases f:aJ W n with
  |none=>
   rw[f] at o;rw[o] at k;exact jD ⟨(by show 1<=aI;decide),k.new e (aU.refl H)⟩
  |some p=>
   rw[f] at o;rw[o] at k;exact i7 ?_;let hn:=B n;rw[f] at hn
   cases C:eE O (aA n) with
   |none=>rw[C] at hn;exact hn.elim
   |some v=>
    exact WL _ rfl (WH A.a _ A.dx _ _ rfl e.obj m.k14.cl m.Uo jo ⟨A.pd,rfl,.inl ⟨_,.inl y⟩,_,rfl,WT _ (aA n) _ y rfl C ?_⟩);exact((by show 1<=aI;decide),wb WA.r_pd (aU.refl H) (e.players (T.drop _) λj=>?_) k);let D:=A.ds e.nd;let h0:¬n<0:=λq=>by rw[eF,jN q] at f;cases f
    rw[AD];let Y:aJ {W with players:=W.players.filter λx=>x.1 !=n.toNat} j=if j=n then ac else aJ W j:=by
     rw[eF,eF];by_cases r:j<0
     ·rw[jN r,jN r];split<;>rfl
     ·rw[iQ r,iQ r];show rX (W.players.filter _) _=_;rw[wW];by_cases d:j=n
      ·rw[jN d,jN (by rw[d])]
      ·rw[iQ d,iQ ⋯]
    rw[Y];by_cases d:j=n
    ·rw[jN (by rw[d]),jN d];exact dR
    ·rw[iQ (λz=>d (fF z)),iQ d];exact(B j).keep (Kp.refl.put WA.r_pd) λx hx=>?_
     have:=D.ps x hx A.pd (.tail _ (.tail _ (.tail _ (.tail _ (.head _)))));exact(aF this.1,aF this.2)
end
def M0 (n t a i o b:Int):Prop:=(0<=n/\n<=99)/\(0<=t/\t<=9999)/\(0<=a/\a<=9)/\(0<=i/\i<=o/\o<=10000)/\(64<=b/\b<=4096)
instance (n t tm i o b:Int):Decidable (M0 n t tm i o b):=by unfold M0;infer_instance
section
variable {P:aO} {w:World} {K:am} {mg:Str->Option ag} {base:Heap} (m:Mo K mg)
def QD:Sp:=λvs H Q _=>∃(a:Addr) (n t c i o b:Int),vs=[.ref a]/\H a=aa (.lst (iv [n,t,c,i,o,b]))/\Q (.bl (decide (M0 n t c i o b))) H
def QE:bo ["numbers","inner","outer"] ["numbers"] (aP (ig 38)):=jY
include m in
def SR:du P w K mg base jw 1 (m.fn 38) (m.fd 38) ["numbers"] QD:=by
 exact m.d38.F.ok QE (λvs H Q E h=>?_) (λI A l s H vs Q E L h=>?_)
 ·let(a,n,t,c,i,o,b,rfl,_):=h;rfl
 ·let(a,n,t,c,i,o,b,rfl,f,k):=h;let D:=QE.nd;let g:∀(j:Nat) (z:Int),([n,t,c,i,o,b]:List Int)[j]?=aa z->yk (iv [n,t,c,i,o,b]) (j:Int)=aa (V.int z):=λj z h=>ib (j:=j) (by rw[bZ,h];rfl)
  exact⟨_,ao (sT 1 D (il (pv 0))) (ao (sT 2 D (il (pv 0)))
   (rt (sJ (mm gC gC be (il (pv 0)) (cS m.VA)) (sJ (mm gC gC be (il (pv 0)) (cS m.Vl))
    (sJ (mm gC gC be (il (pv 0)) (cS m.VB)) (sJ (Hh gC gC gC be (pv 1) (pv 2) (cS m.VD))
    (Ex (mm gC gC (cS m.VE) (il (pv 0)) (cS m.VF))))))))),?_⟩
  let no:¬M0 n t c i o b->Q (.bl af) H:=λh=>by rw[decide_eq_false h] at k;exact k
  exact(_,rfl,WI a _ _ _ rfl rfl (dL.of f) (g 3 i rfl) ?_);exact(_,rfl,WI a _ _ _ rfl rfl (dL.of f) (g 4 o rfl) ?_);exact(_,rfl,WI a _ _ _ rfl rfl (dL.of f) (g 0 n rfl) (WJ _ _ rfl rfl (WL _ rfl (fO (λc1=>?_) λc1=>(WL _ rfl (i7 (no λh=>c1 h.1.1)))))));exact WJ _ _ rfl rfl (WL _ rfl (fO (λp=>?_) λp=>no λh=>p h.1.2));exact(_,rfl,WI a _ _ _ rfl rfl (dL.of f) (g 1 t rfl) (WJ _ _ rfl rfl (WL _ rfl (fO (λr=>?_) λr=>(WL _ rfl (i7 (no λh=>r h.2.1.1)))))));exact WJ _ _ rfl rfl (WL _ rfl (fO (λu=>?_) λu=>no λh=>u h.2.1.2));exact(_,rfl,WI a _ _ _ rfl rfl (dL.of f) (g 2 c rfl) (WJ _ _ rfl rfl (WL _ rfl (fO (λv=>?_) λv=>(WL _ rfl (i7 (no λh=>v h.2.2.1.1)))))));exact WJ _ _ rfl rfl (WL _ rfl (fO (λx=>?_) λx=>no λh=>x h.2.2.1.2));exact(_,rfl,WJ _ _ rfl rfl (WL _ rfl (fO (λy=>?_) λy=>(WL _ rfl (i7 (no λh=>y h.2.2.2.1.1))))));exact(_,rfl,WJ _ _ rfl rfl (WL _ rfl (fO (λB=>?_) λB=>(WL _ rfl (i7 (no λh=>B h.2.2.2.1.2.1))))));exact WJ _ _ rfl rfl (WL _ rfl (fO (λC=>?_) λC=>no λh=>C h.2.2.2.1.2.2));exact(_,rfl,WI a _ _ _ rfl rfl (dL.of f) (g 5 b rfl) (WJ _ _ rfl rfl ⟨_,rfl,fO (λd=>?_) λd=>no λh=>d h.2.2.2.2.1⟩));exact(_,_,rfl,rfl,?_);let e:decide (M0 n t c i o b)=decide (b<=4096):=by
   by_cases q:b<=4096
   ·let J:M0 n t c i o b:=⟨⟨c1,p⟩,⟨r,u⟩,⟨v,x⟩,⟨y,B,C⟩,d,q⟩;rw[decide_eq_true q,decide_eq_true J]
   ·rw[decide_eq_false q,decide_eq_false λh:M0 n t c i o b=>q h.2.2.2.2.2]
  rw[e] at k;exact k
def JJ (C:Addr):Sp:=λvs H Q _=>∃(p dx:Addr) (f d inner c a:V),vs=[.ref p,f,d,inner,c,a]/\H p=aa (.ins C dx [])/\
 ∀(i j e l q:Addr) (H':Hp),(H i=ac/\H j=ac/\H e=ac/\H l=ac/\H q=ac)->(i≠e/\j≠e/\l≠e/\q≠e)->(∀b o,H b=aa o->b≠p->H' b=aa o)->
  H' p=aa (.ins C dx (pf f d inner c a (.ref i) (.ref j) (.ref e) (.ref l) (.ref q)))->H' i=aa (.dK [])->H' j=aa (.dK [])->H' e=aa (.dK [])->H' l=aa (.dK [])->H' q=aa (.lst [])->Q .non H'
def SS:bo ["self","own","team","inner","outer","budget"] ["self","own","team","inner","outer","budget"] (aP (jX (ig 12) 0)):=jY
def sZ {p d:Addr}{o':HO}(h:H p=aa o)(f:H d=ac)(x:HO):d≠p/\(∀b u,H b=aa u->b≠p->bD (bD H d x) p o' b=aa u)/\bD (bD H d x) p o' p=aa o'/\bD (bD H d x) p o' d=aa x/\∀b,bD (bD H d x) p o' b=ac->b≠d/\H b=ac:=by
 let a:d≠p:=(aL h f).symm;exact(a,λb u e c=>?_,ak,by rw[aF a,ak],λb e=>?_)
 ·rw[aF c,aF (aL e f)];exact e
 ·let(_,e):=jJ e;exact jJ e
include m in
def SU:du P w K mg base jw 1 (m.fn 12) (m.fd 12) ["self","own","team","inner","outer","budget"] (JJ (m.cl 12)):=by
 exact m.k12.F.ok SS (λvs H Q E h=>?_) (λb7 A I s H vs Q E hr h=>?_)
 ·let(p,dx,z,j,inner,c,a,rfl,_):=h;rfl
 ·let(p,dx,z,j,inner,c,a,rfl,hp,k):=h;exact⟨_,ao (fN (pv 0) (pv 1) rfl) (ao (fN (pv 0) (pv 2) rfl) (ao (fN (pv 0) (pv 3) rfl) (ao (fN (pv 0) (pv 4) rfl) (ao (fN (pv 0) (pv 5) rfl)
   (ao (fN (pv 0) jH rfl) (ao (fN (pv 0) jH rfl) (ao (fN (pv 0) jH rfl) (ao (fN (pv 0) jH rfl) (bN (fN (pv 0) (cr ng) rfl)))))))))),?_⟩
  exact WL _ rfl (WL _ rfl (WK p _ dx _ rfl hp m.k12.cl m.UU (by show 0<1000;decide) ?_));exact WL _ rfl (WL _ rfl (WK p _ dx _ rfl ak m.k12.cl m.UJ (by show 1<1000;decide) ?_));rw[je];exact WL _ rfl (WL _ rfl (WK p _ dx _ rfl ak m.k12.cl m.Vg (by show 2<1000;decide) ?_));rw[je];exact WL _ rfl (WL _ rfl (WK p _ dx _ rfl ak m.k12.cl m.Vh (by show 3<1000;decide) ?_));rw[je];exact WL _ rfl (WL _ rfl (WK p _ dx _ rfl ak m.k12.cl m.Vi (by show 4<1000;decide) ?_));rw[je];let k0:∀(o:HO) b u,H b=aa u->b≠p->bD H p o b=aa u:=λo b u e l=>by rw[aF l];exact e
  intro M q;let e0:∀o,bD H p o p=aa o:=λo=>ak
  exact WL _ rfl (WK p _ dx _ rfl (aU.new q _ _ ak) m.k12.cl m.Uy (by show 5<1000;decide) ?_);let(J,k1,N,a1,v):=sZ (o':=.ins (m.cl 12) dx (fI "alone" (.ref M) _)) (e0 _) q (.dK []);generalize bD (bD (bD H p _) M _) p _=H1 at k1 N a1 v⊢;intro O r;exact WL _ rfl (WK p _ dx _ rfl (aU.new r _ _ N) m.k12.cl m.Ur (by show 6<1000;decide) ?_);let(T,Y,p2,a2,x):=sZ (o':=.ins (m.cl 12) dx (fI "seen" (.ref O) _)) N r (.dK []);generalize bD (bD H1 O _) p _=H2 at Y p2 a2 x⊢;intro to d;exact(_,rfl,WK p _ dx _ rfl (aU.new d _ _ p2) m.k12.cl m.Us (by show 7<1000;decide) ?_);let(n3,L,p3,a3,B):=sZ (o':=.ins (m.cl 12) dx (fI "told" (.ref to) _)) p2 d (.dK []);generalize bD (bD H2 to _) p _=H3 at L p3 a3 B⊢;intro wa f;exact(_,rfl,WK p _ dx _ rfl (aU.new f _ _ p3) m.k12.cl m.Uz (by show 8<1000;decide) ?_);let(n4,C,p4,a4,f4):=sZ (o':=.ins (m.cl 12) dx (fI "waiting" (.ref wa) _)) p3 f (.dK []);generalize bD (bD H3 wa _) p _=H4 at C p4 a4 f4⊢;exact(aR _,λsn i=>?_);exact(_,rfl,WK p _ dx _ rfl (aU.new i _ _ p4) m.k12.cl m.UK (by show 9<1000;decide) ?_);let(n5,y,p5,a5,f5):=sZ (o':=.ins (m.cl 12) dx (fI "sent" (.ref sn) _)) p4 i (.lst []);generalize bD (bD H4 sn _) p _=H5 at y p5 a5 f5⊢;let D:∀{b},bD H p (.ins (m.cl 12) dx (fI "budget" a (fI "outer" c (fI "inner" inner (fI "team" j (fI "own" z [])))))) b=ac->H b=ac:=λh=>(jJ h).2
  exact k M O to wa sn H5 ⟨D q,D (v _ r).2,D (v _ (x _ d).2).2,D (v _ (x _ (B _ f).2).2).2,D (v _ (x _ (B _ (f4 _ i).2).2).2).2⟩
   ⟨(v _ (x _ d).2).1.symm,(x _ d).1.symm,(B _ f).1,(B _ (f4 _ i).2).1⟩ (λb u e l=>y b u (C b u (L b u (Y b u (k1 b u (k0 _ b u e l) l) l) l) l) l) p5
   (y _ _ (C _ _ (L _ _ (Y _ _ a1 J) J) J) J) (y _ _ (C _ _ (L _ _ a2 T) T) T) (y _ _ (C _ _ a3 n3) n3) (y _ _ a4 n4) a5
end
theorem qg.nil:qg [] []:=⟨Dk.nil,eJ,λn=>⟨λh=>(by rw[sR] at h;cases h),λx'=>V11 x' λj a _=>(by simp at a)⟩⟩
section
variable {P:aO} {w:World} {K:am} {mg:Str->Option ag} {base:Heap} (m:Mo K mg)
def WR.join {m:Mo K mg}{y:Hp}(w:WR m H A W)(hr:uN W.players)(s:aU H y){n:Nat}{L M c N sn:Addr}{kP:List (ef×V)}(p1:H A.pd=aa (.dK kP))(p2:Dk kP)(p3:∀j,zM (m.cl 11) (m.cl 12) A.rg H A.ps j (eE kP (aA j)) (aJ W j))(f:H pa=ac/\H c=ac)(a3:pa≠c)(l:(L≠c/\M≠c/\N≠c/\sn≠c)/\(L≠pa/\M≠pa/\N≠pa/\sn≠pa))(I:H L=ac/\H M=ac/\H N=ac/\H sn=ac)(h0:y pa=aa (.ins (m.cl 12) dx (pf (.int p.thing) (.int p.team) (.int p.inner) (.int p.outer) (.int p.budget) (.ref L) (.ref M) (.ref c) (.ref N) (.ref sn))))(h1:y L=aa (.dK []))(h2:y M=aa (.dK []))(h3:y c=aa (.dK []))(h4:y N=aa (.dK []))(h5:y sn=aa (.lst []))(hp:p.near=[]/\p.sees=[]/\p.told=[]/\p.waits=[]/\p.out=[]):
  WR m (bD y A.pd (.dK (jW kP (aA (n:Int)) (.ref pa)))) {A with ps:=((n:Int),pa,c)::A.ps} {W with players:=dw n p W.players}:=by
 let D:=A.ds w.nd;let w2:=w.same s;let(kT,t1,t2):=w.th;let(as,a1,a2):=w.wa;let a4:=w.fresh f.1;let a5:=w.fresh f.2;let J:∀b,({A with ps:=((n:Int),pa,c)::A.ps}:WA).rg b↔b=pa\/b=c\/A.rg b:=λb=>by
  unfold WA.rg WA.muts;simp only[az,dN,cF,bc,or_false];constructor
  ·rintro(h|h|h|h|h|h|(h|h)|h)
   ·exact .inr (.inr (.inl h))
   ·exact .inr (.inr (.inr (.inl h)))
   ·exact .inr (.inr (.inr (.inr (.inl h))))
   ·exact .inr (.inr (.inr (.inr (.inr (.inl h)))))
   ·exact .inr (.inr (.inr (.inr (.inr (.inr (.inl h))))))
   ·exact .inr (.inr (.inr (.inr (.inr (.inr (.inr (.inl h)))))))
   ·exact .inl h
   ·exact .inr (.inl h)
   ·exact .inr (.inr (.inr (.inr (.inr (.inr (.inr (.inr h)))))))
  ·rintro(h|h|h|h|h|h|h|h|h)
   ·exact .inr (.inr (.inr (.inr (.inr (.inr (.inl (.inl h)))))))
   ·exact .inr (.inr (.inr (.inr (.inr (.inr (.inl (.inr h)))))))
   ·exact .inl h
   ·exact .inr (.inl h)
   ·exact .inr (.inr (.inl h))
   ·exact .inr (.inr (.inr (.inl h)))
   ·exact .inr (.inr (.inr (.inr (.inl h))))
   ·exact .inr (.inr (.inr (.inr (.inr (.inl h)))))
   ·exact .inr (.inr (.inr (.inr (.inr (.inr (.inr h))))))
 let v:Mv A.rg ({A with ps:=((n:Int),pa,c)::A.ps}:WA).rg H (bD y A.pd (.dK (jW kP (aA (n:Int)) (.ref pa)))):=⟨(Kp.of s).put WA.r_pd,λb B=>by
  rcases(J b).mp B with rfl|rfl|h
  ·exact .inr f.1
  ·exact .inr f.2
  ·exact .inl h⟩
 let r:∀{b:Addr},H b=ac->b≠A.pd:=λ{b} B q=>by rw[q,p1] at B;cases B
 let u:∀{b:Addr} {o:HO},b≠A.pd->y b=aa o->bD y A.pd (.dK (jW kP (aA (n:Int)) (.ref pa))) b=aa o:=λB e=>by rw[aF B];exact e
 let same:∀b∈A.muts,b≠A.pd->bD y A.pd (.dK (jW kP (aA (n:Int)) (.ref pa))) b=H b:=λb B hn=>by
  let(o,e):=w.live b B;rw[aF hn,s _ _ e,e]
 let E:∀{b:Addr},H b=ac->b≠c->b≠pa->¬({A with ps:=((n:Int),pa,c)::A.ps}:WA).rg b:=λ{b} B C q2 q=>by
  rcases(J b).mp q with h|h|h
  ·exact q2 h
  ·exact C h
  ·exact w.fresh B h
 exact(?_,λb B=>?_,w.tbl,?_,(WL kT ?_ (t2.move v)),(WL as ?_ (a2.move v)),?_,(WU _ ak (p2.put _ _) λj=>?_),w.mi.move v,w.tb.move v (same _ WA.r_tb D.pd_tb.symm))
 ·let Q:=w.nd;unfold WA.muts at Q⊢;let T:pa∉A.a::A.td::A.wl::A.rk::A.pd::A.tb::A.ps.flatMap λx=>[x.2.1,x.2.2]:=a4
  let Y:c∉A.a::A.td::A.wl::A.rk::A.pd::A.tb::A.ps.flatMap λx=>[x.2.1,x.2.2]:=a5
  let pm:(A.a::A.td::A.wl::A.rk::A.pd::A.tb::(((n:Int),pa,c)::A.ps).flatMap λx=>[x.2.1,x.2.2]).Perm (pa::c::A.a::A.td::A.wl::A.rk::A.pd::A.tb::A.ps.flatMap λx=>[x.2.1,x.2.2]):=by
   rw[dN];exact(List.perm_append_comm_assoc [A.a,A.td,A.wl,A.rk,A.pd,A.tb] [pa,c] (A.ps.flatMap λx=>[x.2.1,x.2.2]))
  exact pm.nodup_iff.mpr (bR.mpr ⟨?_,bR.mpr ⟨Y,Q⟩⟩);intro q;rcases az.mp q with q|q
  ·exact a3 q
  ·exact T q
 ·rcases(J b).mp B with rfl|rfl|h
  ·exact(_,u (r f.1) h0)
  ·exact(_,u (r f.2) h3)
  ·by_cases q:b=A.pd
   ·exact(_,by rw[q];exact ak)
   ·let(o,e):=w.live b h;exact(o,by rw[same b h q];exact e)
 ·exact(same _ WA.r_a D.a_pd).trans w.obj
 ·exact(same _ WA.r_td D.td_pd).trans t1
 ·exact(same _ WA.r_wl D.wl_pd).trans a1
 ·exact(same _ WA.r_rk D.rk_pd).trans w.rk
 ·let ep:aJ {W with players:=dw n p W.players} j=if j=(n:Int) then aa p else aJ W j:=by
   rw[eF,eF];by_cases q0:j<0
   ·rw[jN q0,jN q0,iQ ⋯]
   ·rw[iQ q0,iQ q0];show rX (dw n p W.players) _=_;rw[Dv hr];by_cases C:j=(n:Int)
    ·rw[jN C,jN ⋯]
    ·rw[iQ C,iQ ⋯]
  rw[ep,vR];by_cases C:j=(n:Int)
  ·rw[jN (by rw[C]),jN C];let(e1,O,e3,e4,e5):=hp;exact WJ pa c rfl (by rw[C];exact .head _) ⟨dx,L,M,N,sn,[],[],[],[],u (r f.1) h0,u (r f.2) h3,⟨E I.1 l.1.1 l.2.1,E I.2.1 l.1.2.1 l.2.2.1,E I.2.2.1 l.1.2.2.1 l.2.2.2.1,E I.2.2.2 l.1.2.2.2 l.2.2.2.2⟩,u (r I.1) h1,by rw[e1];exact qg.nil,u (r I.2.1) h2,by rw[O];exact qg.nil,?_,u (r I.2.2.1) h4,?_,by rw[e5];exact u (r I.2.2.2) h5⟩
   ·rw[e3];exact fZ.nil.of_eq λi=>?_
    unfold fD;rw[Sp.yB];split<;>rfl
   ·rw[e4];exact(qg.nil,λ_ h=>by simp at h)
  ·rw[iQ (λz=>C (fF z)),iQ C];let h:=p3 j;generalize eE kP (aA j)=o at h⊢;generalize aJ W j=pl at h⊢;cases o<;>cases pl
   ·exact h
   ·exact h
   ·exact h
   ·let(ap,ar,e1,O,e3):=h;let d:=D.ps _ O A.pd (.tail _ (.tail _ (.tail _ (.tail _ (.head _)))));exact WJ ap ar e1 (.tail _ O) (e3.move v (same _ (WA.r_ps O).1 d.1) (same _ (WA.r_ps O).2 d.2))
def M3:List Int->Option cZ
 |[n,t,a,i,o,b]=>aa (.join n t a i o b)
 |_=>ac
def QF:bo ["world","numbers","n"] wn (aP (ig 39)):=jY
include m in
def SV:du P w K mg base jw 3 (m.fn 39) (m.fd 39) wn (v7 m M3):=by
 exact m.d39.F.ok QF im (λay A outer s H vs Q E M h=>?_);let(A,W,N,b,l,c,rfl,u,O,hN,r,nb,hc,h5,k):=h
 match l,hc with
 |[n,t,d,i,o,e],hc=>
  cases hc;let nd:=QF.nd;let hu:=jx M;let T:=M.mono (show 1<=2 by decide);let(kP,I,p2,Y):=u.pl;let g:∀(j:Nat) (z:Int),([n,t,d,i,o,e]:List Int)[j]?=aa z->yk (iv [n,t,d,i,o,e]) (j:Int)=aa (V.int z):=λj z h=>ib (j:=j) (by rw[bZ,h];rfl)
  exact⟨_,ao (sT 2 nd (il (pv 1)))
   (ao (dG (nV (mj (dA m.d38 (SR m) T (cU (pv 1))))) (rt (cr (cU (cS m.Uu)))) bS)
   (ao (dG (iu (Bw hu (pv 2) (fl (pv 0))) (by with_unfolding_all rfl)) (rt (cr (cU (cS m.Vk)))) bS)
   (ao (dG (df lD (cJ oP (by rfl) m.Uk cM (cU (fl (pv 0)))) (cS m.Vz) (dS _)) (rt (cr (cU (cS m.U2)))) bS)
   (ao (lG hu (fl (pv 0)) (pv 2) (tY m.k12.ma (SU m) M rfl m.k12.m m.k12.b .nil rH (aS (il (pv 1)) (aS (il (pv 1)) (aS (il (pv 1)) (aS (il (pv 1)) (cU (il (pv 1)))))))) rfl)
   (rt (cr (cU be))))))),?_⟩
  exact(_,rfl,WI b _ _ _ rfl rfl (dL.of r) (g 0 n rfl) ?_);let J:b9 W (.join n t d i o e)=(if aX n 0 99=af\/gw t=af\/aX d 0 9=af\/aX i 0 10000=af\/aX o i 10000=af\/aX e 64 4096=af then bL W (-2)
   else if(aJ W n).isSome=ae then bL W (-3) else if Vbwsag.PLAYERS<=W.players.length then bL W (-4)
   else({W with players:=dw n.toNat {thing:=t.toNat,team:=d.toNat,inner:=i.toNat,outer:=o.toNat,budget:=e.toNat} W.players},[0])):=rfl
  let y:∀{n lo L:Int},aX n lo L=af↔¬(lo<=n/\n<=L):=λ{n lo L}=>by
   rw[<-cG];cases aX n lo L<;>simp
  exact WL _ rfl (WG b n t d i o e ⟨rfl,r,WL _ rfl (vX (λc1=>?_) λc1=>?_)⟩)
  ·rw[jN (by unfold gw;simp only[y];unfold M0 at c1;omega)] at J;rw[J] at k;exact((by show 1<=aI;decide),k.new u (aU.refl H))
  ·let((j1,j2),(j3,j4),(j5,j6),(j7,j8,j9),b1,b2):=c1;rw[iQ (by unfold gw;simp only[y];omega)] at J;rw[J] at k;exact WL _ rfl (WL _ rfl (WH A.a _ A.dx _ _ rfl u.obj m.k14.cl m.Uo jo (WJ A.pd _ rfl (gD.k (k:=aA n) I) (WL _ rfl ?_))));rw[(Y n).isSome];exact Dg (λc2=>?_) λc2=>?_
   ·rw[jN c2] at k;exact((by show 1<=aI;decide),k.new u (aU.refl H))
   ·rw[iQ (by rw[c2];simp)] at k;let el:=(pT (W:=W) O.pr p2 λn=>(Y n).isSome).len;rw[aj] at el;exact WL _ rfl (WH A.a _ A.dx _ _ rfl u.obj m.k14.cl m.Uo jo (WN A.pd _ rfl I rfl (WL _ rfl ?_)));rw[el];exact fO (λB=>?_) λB=>?_
    ·let B:(W.players.length:Int)=8:=V.int.inj B;rw[jN (by show 8<=W.players.length;omega)] at k;exact((by show 1<=aI;decide),k.new u (aU.refl H))
    ·let B:W.players.length≠8:=λq=>B (by rw[q];rfl)
     let b3:=O.pl;rw[iQ (by show¬8<=W.players.length;omega)] at k;exact WL _ rfl (WI b _ _ _ rfl rfl (dL.of r) (g 1 t rfl) (WL _ rfl (WI b _ _ _ rfl rfl (dL.of r) (g 2 d rfl) (WL _ rfl (WI b _ _ _ rfl rfl (dL.of r) (g 3 i rfl) (WL _ rfl (WI b _ _ _ rfl rfl (dL.of r) (g 4 o rfl) (WL _ rfl (WI b _ _ _ rfl rfl (dL.of r) (g 5 e rfl) λx dx fx fd hd=>?_)))))))));exact WG x dx _ _ _ _ _ ⟨rfl,ak,λal se to wa sn H' ⟨f1,f2,f3,f4,f5⟩ ⟨n1,n2,n3,n4⟩ kp hx e1 e2 e3 e4 e5=>⟨rfl,?_⟩⟩;let C:aU H H':=aU.made fx fd kp;let f:∀{b:Addr},bD (bD H dx (.own x)) x (.ins (m.cl 12) dx []) b=ac->b≠x/\H b=ac:=λh=>⟨(jJ h).1,(jJ (jJ h).2).2⟩
     let w1:=u.same C;exact WL _ rfl (WH A.a _ A.dx _ _ rfl w1.obj m.k14.cl m.Uo jo ⟨_,rfl,WJ A.pd _ rfl (uo.k (k:=aA n) (C _ _ I) (by rw[el];exact dI ⋯)) ?_⟩);exact((by show 1<=aI;decide),λp hp=>?_);let wj:=u.join (n:=n.toNat) (p:={thing:=t.toNat,team:=d.toNat,inner:=i.toNat,outer:=o.toNat,budget:=e.toNat}) O.pr C I p2 Y ⟨fx,(f f3).2⟩ (f f3).1.symm ⟨⟨n1,n2,n3,n4⟩,(f f1).1,(f f2).1,(f f4).1,(f f5).1⟩ ⟨(f f1).2,(f f2).2,(f f4).2,(f f5).2⟩
      (by rw[hx];show aa (HO.ins _ _ (pf (.int t) (.int d) (.int i) (.int o) (.int e) _ _ _ _ _))=aa (HO.ins _ _ (pf (.int ((t.toNat:Nat):Int)) (.int ((d.toNat:Nat):Int)) (.int ((i.toNat:Nat):Int)) (.int ((o.toNat:Nat):Int)) (.int ((e.toNat:Nat):Int)) _ _ _ _ _))
          rw[show((t.toNat:Nat):Int)=t by omega,show((d.toNat:Nat):Int)=d by omega,show((i.toNat:Nat):Int)=i by omega,show((o.toNat:Nat):Int)=o by omega,show((e.toNat:Nat):Int)=e by omega]) e1 e2 e3 e4 e5 ⟨rfl,rfl,rfl,rfl,rfl⟩
     rw[show((n.toNat:Nat):Int)=n by omega] at wj;let fp:=C.free (jJ hp).2;exact k _ _ p (wj.same (aU.new hp)) rfl (((Kp.of C).put WA.r_pd).new fp) (λb r=>?_) fp ak;let D:b∈A.a::A.td::A.wl::A.rk::A.pd::A.tb::((n,x,to)::A.ps).flatMap λx=>[x.2.1,x.2.2]:=r
     by_cases q:A.rg b
     ·exact .inl q
     ·right
      let v:b∉A.a::A.td::A.wl::A.rk::A.pd::A.tb::A.ps.flatMap λx=>[x.2.1,x.2.2]:=q
      simp only[az,dN,cF,bc,or_false,not_or] at D v;rcases D with h|h|h|h|h|h|(h|h)|h
      ·exact aB h v.1
      ·exact aB h v.2.1
      ·exact aB h v.2.2.1
      ·exact aB h v.2.2.2.1
      ·exact aB h v.2.2.2.2.1
      ·exact aB h v.2.2.2.2.2.1
      ·rw[h];exact fx
      ·rw[h];exact(f f3).2
      ·exact aB h v.2.2.2.2.2.2
end
def F9 (l:List Nat):nb l=iv (l.map λ(j:Nat)=>(j:Int)):=by
 show l.map _=(l.map _).map _;rw[gZ];rfl
section
variable {P:aO} {w:World} {K:am} {mg:Str->Option ag} {base:Heap} (m:Mo K mg)
def LP:Sp:=λvs H Q _=>∃(d:Addr) (kvs:List (ef×V)) (l:List Nat),vs=[.ref d]/\H d=aa (.dK kvs)/\qg kvs l/\l.length<=1000000/\y6 (nb (l.length::l)) H Q
def SW:bo ["things"] ["things"] (aP (ig 92)):=jY
def Ho {n:Nat}(h:n<=16000000):n<=aI:=bq h (by decide)
include m in
def QG:du P w K mg base jw 1 (m.fn 92) (m.fd 92) ["things"] LP:=by
 exact m.d92.F.ok SW (λvs H Q E h=>?_) (λp A a s H vs Q E q h=>?_)
 ·let(d,kvs,l,rfl,_):=h;rfl
 ·let(d,kvs,l,rfl,i,b,I,k):=h;exact(_,bN (lr (cI iX (cr (cU (cJ oP (by rfl) m.Uk cM (cU (pv 0))))) (cJ (nj q.hd) (by rfl) m.Uv nN (cU (pv 0))))),?_);exact(_,rfl,WN d kvs rfl i (by show 1<=aI;decide) λr u=>?_);let(v,x,y):=b.ks;let c:=aU.new (o:=.lst [.int kvs.length]) u;exact(_,rfl,WT d kvs v rfl (.inl (c _ _ i)) x λz J f B C=>?_);let e:=nu b.2.1 (B.trans y) C;subst e;exact WK r z _ _ rfl rfl (aU.new f _ _ ak) ak (by show 1+_<=_;rw[aj,aj];exact Ho ⋯) λD j=>k _ D ((c.t f).t j) ((c.t f).free j) ?_;rw[ak,b.len,F9];rfl
def OE (C:Addr):Sp:=λvs H Q _=>∃(d:Addr) (kvs:List (ef×V)) (l:List bv) (R:Rg),vs=[.ref d]/\H d=aa (.dK kvs)/\fZ C R H kvs (fD l)/\Sp.xU l/\(∀t∈l,t.vals.length=8)/\l.length<=1000000/\y6 (iv ((l.length:Int)::l.flatMap i6)) H Q
def QH:bo ["things","row","n"] ["things"] (aP (ig 93)):=jY
def QI (a:Sp.xU l){t:bv}(b:t∈l):fD l (t.id:Int)=aa (t.kind,t.vals):=by
 unfold fD;rw[jN ⋯,show((t.id:Nat):Int).toNat=t.id by omega,Sp.Ky a b];rfl
def Dx (h:∀t∈l,t.vals.length=8):(l.flatMap i6).length=10*l.length:=by
 induction l with
 |nil=>rfl
 |cons t l a=>
  rw[dN,aQ,a λu b=>h u (au _ b),aK];have:=h t (aD ..);unfold i6;simp only[aK];omega
include m in
def QJ:du P w K mg base jw 1 (m.fn 93) (m.fd 93) ["things"] (OE (m.cl 11)):=by
 exact m.d93.F.ok QH (λvs H Q E h=>?_) (λar A D s H vs Q E hr h=>?_)
 ·let(d,kvs,l,R,rfl,_):=h;rfl
 ·let(d,kvs,l,R,rfl,q,hD,hl,I,hm,k):=h;let r:=jx hr;let nd:=QH.nd;let J:=hD.risD hl;exact⟨_,ao (sT 1 nd (cr (cU (cJ oP (by rfl) m.Uk cM (cU (pv 0))))))
   (ao (kj cQ rfl (jg (cJ (nj hr.hd) (by rfl) m.Uv nN (cU (pv 0)))) (fC (i:=2) nd rfl (eu rfl))
    (bN (gL (uZ (pv 1) (cI iX (cr (aS (pv 2) (cU (nX (jh r (pv 0) (pv 2) (λ_ _=>rfl)) rfl)))) (nX (jh r (pv 0) (pv 2) (λ_ _=>rfl)) rfl))))))
   (rt (pv 1))),?_⟩
  exact(_,rfl,WN d kvs rfl q (by show 1<=aI;decide) λf L=>?_);let(ks,i1,i2):=J.ks;let s1:=aU.new (o:=.lst [.int kvs.length]) L;exact WL _ rfl (WT d kvs ks rfl (.inl (s1 _ _ q)) i1 λx ns M hp hs=>?_);let e:=nu J.2.1 (hp.trans i2) hs;subst e;let s2:=s1.t (o:=.lst ((l.map kx).map (λ(j:Nat)=>(j:Int)) |>.map V.int)) M
  let N:f≠x:=aL ak M;exact WU x rfl ⟨_,dL.of ak⟩ (ka (K:=K) (a:=x) (xs:=((l.map kx).map λ(j:Nat)=>(j:Int)).map V.int)
   (λi σ H'=>∃v:Option V,σ=[aa (.ref d),aa (.ref f),v]/\aU H H'/\H' x=aa (.lst (((l.map kx).map λ(j:Nat)=>(j:Int)).map V.int))/\H' f=aa (.lst (iv ((l.length:Int)::(l.take i).flatMap i6))))
   ⟨ac,rfl,s2,ak,?_⟩ (λi σ H' _ x'=>V13 x' λ_ _ _ h _=>dL.of h) ?_ ?_)
  ·rw[aU.new M _ _ ak,J.len,aj];rfl
  ·intro i y σ H' hi x';let(v,rfl,b,e2,p):=x';let(z,c,rfl):=km hi;rw[bZ,bZ] at c
   cases B:l[i]? with
   |none=>rw[B] at c;simp at c
   |some t=>
    rw[B] at c;let c:((t.id:Nat):Int)=z:=by simpa using c
    subst c;let O:=bj B;let(a,ea,dx,ls,_,_,h1,h2):=hD.some_ (QI hl O);let hg:gD H' d (.int (t.id:Int)) (aa (.ref a)):=by
     have:=gD.k (k:=aA ((t.id:Nat):Int)) (b _ _ q);rw[ea] at this;exact this
    exact WU _ rfl (.inl ⟨rfl,_,dL.of p⟩) (WL _ rfl (WL _ rfl (WL _ rfl (WJ d _ rfl hg (WM a _ dx _ _ rfl (b _ _ h1) m.k11.cl m.Up (nE _ _) (by show 2<=aI;decide) λp3 f3=>?_)))));let C:=aU.new (o:=.lst [.int (t.id:Int),.int (t.kind:Nat)]) f3;let T:gD (bD H' p3 (.lst [.int (t.id:Int),.int (t.kind:Nat)])) d (.int (t.id:Int)) (aa (.ref a)):=by
     have:=gD.k (k:=aA ((t.id:Nat):Int)) (C _ _ (b _ _ q));rw[ea] at this;exact this
    exact WL _ rfl (WL _ rfl (WJ d _ rfl T (WH a _ dx _ _ rfl (C _ _ (b _ _ h1)) m.k11.cl m.Ul (gN _ _) (WK p3 ls _ _ rfl rfl ak (C _ _ (b _ _ h2)) (by rw[fw,I t O];show 2+8<=aI;decide) λp4 f4=>?_))));let Y:=C.t (o:=.lst ([.int (t.id:Int),.int (t.kind:Nat)]++iv t.vals)) f4;let a0:H f=ac:=L;exact WK f p4 _ _ rfl rfl (Y _ _ p) ak ?_ ?_
    ·rw[fw,aQ,fw,I t O,aK,Dx λu r=>I u (oy r)];have:(l.take i).length<=l.length:=iE i l;exact Ho (by show 10*_+1+(2+8)<=_;omega)
    ·exact(_,rfl,(b.trans Y).old a0,?_,?_)
     ·rw[aF N.symm];exact Y _ _ e2
     ·rw[ak,eB B,pA,dN,rN,dM];show aa (HO.lst (iv _++([V.int _,V.int _]++iv t.vals)))=aa (HO.lst (iv (((l.length:Int)::ss i6 (l.take i))++i6 t)));rw[re];rfl
  ·intro σ H' x';let(v,rfl,b,e2,p):=x';rw[aj,aj,aj,cg] at p;exact(_,rfl,k H' f b L p)
end
section
variable {P:aO} {w:World} {K:am} {mg:Str->Option ag} {base:Heap} (m:Mo K mg)
def kR {N:Nat}(a:uE N W)(h:aJ W n=aa p):MU p/\(n.toNat,p)∈W.players/\0<=n:=by
 rw[eF] at h;by_cases q:n<0
 ·rw[jN q] at h;cases h
 ·rw[iQ q] at h;have:=qG h;exact((a.pv _ this).2,this,⋯)
def jK {o:Option V}(h:zM CT CP R H ps n o (aa p)):∃pa a,o=aa (.ref pa)/\(n,pa,a)∈ps/\JD CT CP R H pa a p:=by
 cases o with
 |none=>exact h.elim
 |some v=>
  let(pa,a,rfl,b,c):=h;exact WJ pa a rfl b c
def wX {o:Option V}(h:zM CT CP R H ps n o ac):o=ac:=by
 cases o with
 |none=>rfl
 |some v=>exact h.elim
def wC.le_mem {l M:List Nat}(h:Sp.wC l)(a:∀n∈l,n∈M):l.length<=M.length:=jB (Sp.wC.nodup h) a
def tj {N:Nat}(d:uE N W){x:Nat×aq}(e:x∈W.players):x.2.near.length<=N/\x.2.sees.length<=N/\x.2.told.length<=N:=by
 let(M,f,_,i):=d.ev;let(a,b,c):=i x e;let pv:=(d.pv x e).2;exact(bq (wC.le_mem pv.near a) f,bq (wC.le_mem pv.sees b) f,?_);have:=wC.le_mem (Do pv.told) (M:=M) λn hn=>by
  let(t,j,rfl):=aM.mp hn;exact c t j
 rw[aj] at this;omega
def BL (l:List Nat):iv (dZ l)=nb l:=(F9 l).symm
def c1 (f:Int->cZ):List Int->Option cZ
 |[n]=>aa (f n)
 |_=>ac
def QK:bo ["world","numbers","player"] wn (aP (ig 94)):=jY
include m in
def SX:du P w K mg base jw 2 (m.fn 94) (m.fd 94) wn (v7 m (c1 .sees)):=by
 exact m.d94.F.ok QK im (λJ A j s H vs Q E q h=>?_);let(A,W,N,b,l,c,rfl,f,z,hN,L,M,hc,h5,k):=h
 match l,hc with
 |[n],hc=>
  cases hc;let O:=jx q;let T:=QK.nd;let(kP,B,p2,Y):=f.pl;exact⟨_,ao (sT 2 T (nP O (fl (pv 0)) (il (pv 1)) ⟨rfl,rfl,rfl,rfl⟩))
   (ao (dG (iu (m9 (pv 2))) (rt (cr (cU (cS m.Uq)))) bS)
   (rt (cI iX (cI iX (cr (cU be)) (dA m.d92 (QG m) q (cU (fl (pv 2))))) (dA m.d92 (QG m) q (cU (fl (pv 2))))))),?_⟩
  let i:b9 W (.sees n)=(match aJ W n with
   |none=>bL W (-1)
   |some p=>(W,0::(p.near.length:Int)::dZ p.near++((p.sees.length:Int)::dZ p.sees))):=rfl
  exact WL _ rfl (WH A.a _ A.dx _ _ rfl f.obj m.k14.cl m.Uo jo ⟨A.pd,rfl,.inl ⟨_,.inl B⟩,_,rfl,WI b _ _ _ rfl rfl (dL.of L) sY ⟨_,gD.k (k:=aA n) B,_,rfl,WL _ rfl ?_⟩⟩);let hn:=Y n
  cases r:aJ W n with
  |none=>
   rw[r] at hn i;rw[i] at k;rw[wX hn];exact jD ⟨(by show 1<=aI;decide),k.new f (aU.refl H)⟩
  |some p=>
   rw[r] at hn i;rw[i] at k;let(pa,to,ev,_,dx,al,se,wa,sn,u,v,a3,a4,C,e2,_,e3,e4,e5,e6,_):=jK hn;let(po,pm,_):=kR z r;let d:=tj z pm;rw[ev];exact i7 ⟨(by show 1<=aI;decide),λq1 f1=>?_⟩;let x:=aU.new (o:=.lst [.int 0]) f1;exact WL _ rfl (WH pa _ dx _ _ rfl (x _ _ C) m.k12.cl m.Uy vZ (WQ al u p.near rfl (x _ _ e3) e4 (by have:=d.1;simp only at this;omega) λH2 q2 D f2 g2=>?_));exact WK q1 q2 _ _ rfl rfl (D _ _ ak) g2 (by show 1+_<=_;rw[aj,aK];exact Ho (by have:=d.1;simp only at this;omega)) λq3 f3=>?_;let y:=(x.trans D).t (o:=.lst ([.int 0]++nb (p.near.length::p.near))) f3;exact WL _ rfl (WH pa _ dx _ _ rfl (y _ _ C) m.k12.cl m.Ur rh (WQ se v p.sees rfl (y _ _ e5) e6 (by have:=d.2.1;simp only at this;omega) λH4 q4 I f4 g4=>?_));exact WK q3 q4 _ _ rfl rfl (I _ _ ak) g4 (by simp only[aQ,aj,aK,ju];exact Ho (by have:=d.1;have:=d.2.1;simp only at *;omega)) λq5 f5=>?_;let e:[V.int 0]++nb (p.near.length::p.near)++nb (p.sees.length::p.sees)=iv (0::(p.near.length:Int)::dZ p.near++((p.sees.length:Int)::dZ p.sees)):=by
    show _=iv ((0::(p.near.length:Int)::dZ p.near)++((p.sees.length:Int)::dZ p.sees));rw[re];show _=(V.int 0::V.int p.near.length::iv (dZ p.near))++(V.int p.sees.length::iv (dZ p.sees));rw[BL,BL];rfl
   rw[e];exact k.new f (y.trans I) q5 f5
def QL:bo ["world","numbers","player"] wn (aP (ig 96)):=jY
include m in
def SY:du P w K mg base jw 2 (m.fn 96) (m.fd 96) wn (v7 m (c1 .told)):=by
 exact m.d96.F.ok QL im (λB A i s H vs Q E r h=>?_);let(A,W,N,b,l,c,rfl,d,u,hN,C,D,hc,h5,k):=h
 match l,hc with
 |[n],hc=>
  cases hc;let I:=jx r;let J:=QL.nd;let(kP,v,p2,L):=d.pl;exact⟨_,ao (sT 2 J (nP I (fl (pv 0)) (il (pv 1)) ⟨rfl,rfl,rfl,rfl⟩))
   (ao (dG (iu (m9 (pv 2))) (rt (cr (cU (cS m.Uq)))) bS)
   (rt (cI iX (cr (cU be)) (dA m.d93 (QJ m) r (cU (fl (pv 2))))))),?_⟩
  let e:b9 W (.told n)=(match aJ W n with
   |none=>bL W (-1)
   |some p=>(W,0::(p.told.length:Int)::p.told.flatMap i6)):=rfl
  exact WL _ rfl (WH A.a _ A.dx _ _ rfl d.obj m.k14.cl m.Uo jo ⟨A.pd,rfl,.inl ⟨_,.inl v⟩,_,rfl,WI b _ _ _ rfl rfl (dL.of C) sY ⟨_,gD.k (k:=aA n) v,_,rfl,WL _ rfl ?_⟩⟩);let hn:=L n
  cases j:aJ W n with
  |none=>
   rw[j] at hn e;rw[e] at k;rw[wX hn];exact jD ⟨(by show 1<=aI;decide),k.new d (aU.refl H)⟩
  |some p=>
   rw[j] at hn e;rw[e] at k;let(pa,M,O,_,dx,al,se,wa,sn,T,Y,q,a0,e1,e2,_,e3,e4,e5,e6,e7,_):=jK hn;let(x,pm,_):=kR u j;let nl:=(tj u pm).2.2;simp only at nl;let y:∀t∈p.told,t.vals.length=8:=λt ht=>(x.tv t ht).2.2.len
   rw[O];exact i7 ⟨(by show 1<=aI;decide),λq1 f1=>?_⟩;let f:=aU.new (o:=.lst [.int 0]) f1;exact WL _ rfl (WH pa _ dx _ _ rfl (f _ _ e1) m.k12.cl m.Us pR (WK M q p.told A.rg rfl (f _ _ e2) (e7.keep (Kp.of f)) x.told y ⟨⋯,λH2 q2 z f2 g2=>?_⟩));exact WK q1 q2 _ _ rfl rfl (z _ _ ak) g2 (by show 1+_<=_;rw[fw,aK,Dx y];exact Ho ⋯) λq3 f3=>?_;exact k.new d (f.trans z) q3 f3
def c0 (f:cZ):List Int->Option cZ
 |[]=>aa f
 |_=>ac
def QM:bo wn wn (aP (ig 99)):=jY
include m in
def S5:du P w K mg base jw 2 (m.fn 99) (m.fd 99) wn (v7 m (c0 .mirror)):=by
 exact m.d99.F.ok QM im (λr A i s H vs Q E u h=>?_);let(A,W,N,b,l,c,rfl,e,f,hN,T,v,hc,Y,k):=h
 match l,hc with
 |[],hc=>
  cases hc;let nd:=QM.nd;let(j,x,y,r1,r2,p,z,B):=e.mi;exact(_,bN (lr (cI iX (cr (aS be (cU (nX (fl (pv 0)) rfl)))) (dA m.d93 (QJ m) u (cU (nX (fl (pv 0)) rfl))))),?_);let C:b9 W .mirror=(W,0::(W.mirror.1:Int)::(W.mirror.2.length:Int)::W.mirror.2.flatMap i6):=rfl;rw[C] at k;let ml:=f.ml;exact WL _ rfl (WH A.a _ A.dx _ _ rfl e.obj m.k14.cl m.Uw ud (WM A.mi _ j _ _ rfl p m.k13.cl m.UV rfl (by show 2<=aI;decide) λD I=>?_));let d:=aU.new (o:=.lst [.int 0,.int W.mirror.1]) I;exact WL _ rfl (WH A.a _ A.dx _ _ rfl (d _ _ e.obj) m.k14.cl m.Uw ud (WH A.mi _ j _ _ rfl (d _ _ p) m.k13.cl m.UW rfl (WK x y W.mirror.2 A.rg rfl (d _ _ z) (B.keep (Kp.of d)) f.mr f.m8 ⟨⋯,λH2 J q f2 L=>?_⟩)));exact WK D J _ _ rfl rfl (q _ _ ak) L (by show 2+_<=_;rw[fw,aK,Dx f.m8];exact Ho ⋯) λM O=>?_;exact k.new e (d.trans q) M O
def M4:bo ["world","numbers","thing"] wn (aP (ig 100)):=jY
def JK:fT W.things n=(if cK W n=ae then bg W.things n.toNat else ac).map λt=>(t.kind,t.vals):=by
 unfold fT cK;by_cases h:0<=n
 ·rw[jN h,decide_eq_true h,gW];cases bg W.things n.toNat<;>rfl
 ·rw[iQ h,decide_eq_false h];rfl
include m in
def QN:du P w K mg base jw 1 (m.fn 100) (m.fd 100) wn (v7 m (c1 .thing)):=by
 exact m.UD.F.ok M4 im (λx A j s H vs Q E y h=>?_);let(A,W,N,b,l,c,rfl,e,z,hN,B,C,hc,h5,k):=h
 match l,hc with
 |[n],hc=>
  cases hc;let D:=jx y;let I:=M4.nd;let(kT,q,u):=e.th;exact⟨_,ao (sT 2 I (nP D (fl (pv 0)) (il (pv 1)) ⟨rfl,rfl,rfl,rfl⟩))
   (ao (dG (iu (m9 (pv 2))) (rt (cr (cU (cS m.Uq)))) bS)
   (rt (cI iX (cr (aS be (cU (fl (pv 2))))) (fl (pv 2))))),?_⟩
  let f:b9 W (.thing n)=(match (if cK W n=ae then bg W.things n.toNat else ac) with
   |none=>bL W (-1)
   |some t=>(W,0::(t.kind:Int)::t.vals)):=rfl
  exact WL _ rfl (WH A.a _ A.dx _ _ rfl e.obj m.k14.cl m.Um gR ⟨A.td,rfl,.inl ⟨_,.inl q⟩,_,rfl,WI b _ _ _ rfl rfl (dL.of B) sY ⟨_,gD.k (k:=aA n) q,_,rfl,WL _ rfl ?_⟩⟩);let i:=JK (W:=W) (n:=n)
  cases d:(if cK W n=ae then bg W.things n.toNat else ac) with
  |none=>
   rw[d] at i f;rw[f] at k;rw[u.none_ i];exact jD ⟨(by show 1<=aI;decide),k.new e (aU.refl H)⟩
  |some t=>
   rw[d] at i f;rw[f] at k;let(a,J,dx,L,_,_,v,M):=u.some_ (r:=(t.kind,t.vals)) i;let O:t∈W.things:=by
    split at d
    ·exact Sp.pL d
    ·cases d
   rw[J];exact i7 (WL _ rfl (WM a _ dx _ _ rfl v m.k11.cl m.Up (nE _ _) (by show 2<=aI;decide) λT Y=>?_));let p:=aU.new (o:=.lst [.int 0,.int t.kind]) Y;exact(_,rfl,WH a _ dx _ _ rfl (p _ _ v) m.k11.cl m.Ul (gN _ _) (WK T L _ _ rfl rfl ak (p _ _ M) (by rw[fw,(z.tv t O).2.2.len];show 2+8<=aI;decide) λq3 f3=>?_));exact k.new e p q3 f3
def M5:bo ["world","numbers","n"] wn (aP (ig 121)):=jY
include m in
def QO:du P w K mg base jw 1 (m.fn 121) (m.fd 121) wn (v7 m (c1 .sent)):=by
 exact m.UI.F.ok M5 im (λz A j s H vs Q E B h=>?_);let(A,W,N,b,l,c,rfl,d,C,hN,D,I,hc,h5,k):=h
 match l,hc with
 |[n],hc=>
  cases hc;let u:=jx B;let J:=M5.nd;let(kP,v,p2,x):=d.pl;exact⟨_,ao (sT 2 J (il (pv 1)))
   (ao (dG (iu (qB u (pv 2) (fl (pv 0))) (by with_unfolding_all rfl)) (rt (cr (cU (cS m.Uq)))) bS)
   (rt (cI iX (cr (cU be)) (nX (jh u (fl (pv 0)) (pv 2) (λ_ _=>rfl)) rfl)))),?_⟩
  let i:b9 W (.sent n)=(match aJ W n with
   |none=>bL W (-1)
   |some p=>(W,0::dZ p.out)):=rfl
  exact(_,rfl,WI b _ _ _ rfl rfl (dL.of D) sY ?_);exact(_,rfl,WL _ rfl (WH A.a _ A.dx _ _ rfl d.obj m.k14.cl m.Uo jo (WJ A.pd _ rfl (gD.k (k:=aA n) v) (WL _ rfl ?_))));rw[(x n).isSome];let hn:=x n
  cases q:aJ W n with
  |none=>
   rw[q] at i;rw[i] at k;exact jD ⟨(by show 1<=aI;decide),k.new d (aU.refl H)⟩
  |some p=>
   rw[q] at hn i;rw[i] at k;let(pa,to,L,_,dx,al,se,wa,M,O,T,Y,a0,e1,e2,_,e3,e4,e5,e6,e7,e8,e9,r):=jK hn;let(po,pm,_):=kR C q;let ol:=po.out;exact i7 ⟨(by show 1<=aI;decide),λy f1=>?_⟩;let f:=aU.new (o:=.lst [.int 0]) f1;let hg:gD (bD H y (.lst [.int 0])) A.pd (.int n) (aa (.ref pa)):=by
    have:=gD.k (k:=aA n) (f _ _ v);rw[L] at this;exact this
   exact WL _ rfl (WH A.a _ A.dx _ _ rfl (f _ _ d.obj) m.k14.cl m.Uo jo (WL _ rfl (WJ A.pd _ rfl hg (WH pa _ dx _ _ rfl (f _ _ e1) m.k12.cl m.UK F4 (WK y M _ _ rfl rfl ak (f _ _ r) (by show 1+_<=_;rw[aj];exact Ho ⋯) λq3 f3=>?_)))));let e:[V.int 0]++nb p.out=iv (0::dZ p.out):=by
    show _=V.int 0::iv (dZ p.out);rw[BL];rfl
   rw[e];exact k.new d f q3 f3
end
section
variable {P:aO} {w:World} {K:am} {mg:Str->Option ag} {base:Heap} (m:Mo K mg)
def Dy {g:TG}{tt:TT}{te:TE}{σ:L2.St}{vs:List Nat}{D:Addr}{l:List Int}{p:Int->Bool}{u:Hp->Prop}(A:dL K H a (iv l))(B:l.length<=100000)(fD:H D=ac)(k:∀H',aU H H'->H' D=aa (.lst (iv (l.filter p)))->u H')(C:∀(z:Int) (H':Hp) (Y:Hp->Prop) (Z:V->Hp->Prop),z∈l->aU H H'->(∀c,aU H' c->p z=ae->Z (.int z) c)->(∀c,aU H' c->p z=af->Y c)->g (.int z) (hU σ vs) H' λd c=>hU d vs=hU σ vs/\tt d c λb f=>if b=ae then te d f Z else Y f):
  ∃W:Nat->Nat->Hp->Prop,(∃m,W 0 m (bD H D (.lst [])))/\∀i m H,W i m H->
   ((Fx K a).stop i H/\u H)\/((Fx K a).go i H/\∃o:Hp->Prop,(∀H',o H'->∃v,v<m/\W (i+1) v H')/\∀x H',(Fx K a).yld i H x H'->g x (hU σ vs) H' λd c=>hU d vs=hU σ vs/\tt d c λb f=>
     if b=ae then te d f λy w=>∃acc,w D=aa (.lst acc)/\acc.length<aI/\o (bD w D (.lst (acc++[y]))) else o f):=by
 exact FL (K:=K) (a:=a) (xs:=iv l) (λi H'=>aU H H'/\H' D=aa (.lst (iv ((l.take i).filter p)))) ⟨aU.new fD,ak⟩ (λi H' _ ⟨s,_⟩=>s.seq A) ?_ ?_
 ·intro i y H' E x';let(s,e):=x';let(z,q,rfl):=km E;exact C z H' _ _ (bj q) s (λc j r=>?_) (λc j r=>?_)
  ·exact(_,j _ _ e,?_,(s.trans j).old fD,?_)
   ·rw[fw];exact xA (bq (cY _ _) (bq (iE _ _) B))
   ·rw[ak,eB q,pX,re,dB,jN r];rfl
  ·exact(s.trans j,?_);rw[j _ _ e,eB q,pX,dB,iQ (by rw[r];simp)];rw[List.filter_nil,dM]
 ·intro H' x';let(s,e):=x';rw[fw,cg] at e;exact k H' s e
def QP:bo ["world","numbers","player","answer","n"] wn (aP (ig 95)):=jY
def Hq {N:Nat}(a:uE N W){x:Nat×aq}(b:x∈W.players):x.2.waits.length<=10000:=(a.pv x b).2.wl
include m in
def S6:du P w K mg base jw 1 (m.fn 95) (m.fd 95) wn (v7 m (c1 .waits)):=by
 exact m.d95.F.ok QP im (λay A I s H vs Q E hr h=>?_);let(A,W,N,b,l,c,rfl,r,ok,hN,hb,b1,hc,h5,k):=h
 match l,hc with
 |[n],hc=>
  cases hc;let hu:=jx hr;let J:=QP.nd;let(kP,p1,p2,p3):=r.pl;exact⟨_,ao (sT 2 J (nP hu (fl (pv 0)) (il (pv 1)) ⟨rfl,rfl,rfl,rfl⟩))
   (ao (dG (iu (m9 (pv 2))) (rt (cr (cU (cS m.Uq)))) bS)
   (ao (sT 3 J (cr (cU be)))
   (ao (kj cQ rfl (jg (cJ (nj hr.hd) (by rfl) m.Uv nN (cU (fl (pv 2))))) (fC (i:=4) J rfl (eu rfl))
    (bN (gL (uZ (pv 3) (cr (aS (pv 4) (cU (jh hu (fl (pv 2)) (pv 4) (λ_ _=>rfl)))))))))
   (rt (pv 3))))),?_⟩
  let u:b9 W (.waits n)=(match aJ W n with
   |none=>bL W (-1)
   |some p=>(W,0::p.waits.flatMap λx=>[(x.1:Int),(x.2:Int)])):=rfl
  exact WL _ rfl (WH A.a _ A.dx _ _ rfl r.obj m.k14.cl m.Uo jo ⟨A.pd,rfl,.inl ⟨_,.inl p1⟩,_,rfl,WI b _ _ _ rfl rfl (dL.of hb) sY ⟨_,gD.k (k:=aA n) p1,_,rfl,WL _ rfl ?_⟩⟩);let hn:=p3 n
  cases L:aJ W n with
  |none=>
   rw[L] at hn u;rw[u] at k;rw[wX hn];exact jD ⟨(by show 1<=aI;decide),k.new r (aU.refl H)⟩
  |some p=>
   rw[L] at hn u;rw[u] at k;let(pa,to,ev,_,dx,al,se,M,sn,b5,b6,b7,O,e1,e2,_,e3,e4,e5,e6,e7,e8,(e9,T),_):=jK hn;let(po,pm,_):=kR ok L;let nl:=Hq ok pm;simp only at nl;rw[ev];exact i7 ⟨(by show 1<=aI;decide),λB Y=>?_⟩;let s1:=aU.new (o:=.lst [.int 0]) Y;let(ks,i1,i2):=e9.ks;exact WL _ rfl (WH pa _ dx _ _ rfl (s1 _ _ e1) m.k12.cl m.Uz rj (WT M O ks rfl (.inl (s1 _ _ e8)) i1 λC ns f2 hp hs=>?_));let e:=nu e9.2.1 (hp.trans i2) hs;subst e;let a2:B≠C:=aL ak f2;let s2:=s1.t (o:=.lst ((p.waits.map (·.1)).map (λ(j:Nat)=>(j:Int)) |>.map V.int)) f2
   exact WU C rfl ⟨_,dL.of ak⟩ (ka (K:=K) (a:=C) (xs:=((p.waits.map (·.1)).map λ(j:Nat)=>(j:Int)).map V.int)
    (λi σ H'=>∃v:Option V,σ=[aa (.ref A.a),aa (.ref b),aa (.ref pa),aa (.ref B),v]/\aU H H'/\H' C=aa (.lst (((p.waits.map (·.1)).map λ(j:Nat)=>(j:Int)).map V.int))/\H' B=aa (.lst (iv (0::(p.waits.take i).flatMap λx=>[(x.1:Int),(x.2:Int)]))))
    ⟨ac,rfl,s2,ak,?_⟩ (λi σ H' _ x'=>V13 x' λ_ _ _ h _=>dL.of h) ?_ ?_)
   ·rw[aU.new f2 _ _ ak];rfl
   ·intro i y σ H' a3 x';let(v,rfl,f,g2,q):=x';let(z,d,rfl):=km a3;rw[bZ,bZ] at d
    cases D:p.waits[i]? with
    |none=>rw[D] at d;simp at d
    |some t=>
     rw[D] at d;let d:((t.1:Nat):Int)=z:=by simpa using d
     subst d;let tm:=bj D;let hg:gD H' M (.int (t.1:Int)) (aa (.int t.2)):=by
      have:=gD.k (k:=aA ((t.1:Nat):Int)) (f _ _ e8);rw[T t tm] at this;exact this
     let fl:(ss (λ(x:Nat×Nat)=>[(x.1:Int),(x.2:Int)]) (p.waits.take i)).length<=2*p.waits.length:=by
      rw[HM];have:(p.waits.take i).length<=p.waits.length:=iE i _;simp only[aK,ju,List.map_const',Ed];omega
     exact WU _ rfl (.inl ⟨rfl,_,dL.of q⟩) (WL _ rfl (WL _ rfl (WH pa _ dx _ _ rfl (f _ _ e1) m.k12.cl m.Uz rj (WL _ rfl (WN M _ rfl hg (by show 2<=aI;decide) λq3 f3=>?_)))));let s4:=aU.new (o:=.lst [.int (t.1:Int),.int (t.2:Nat)]) f3;exact WK B q3 _ _ rfl rfl (s4 _ _ q) ak ?_ ?_
     ·rw[fw,aK];exact Ho (by show _+1+2<=_;omega)
     ·exact(_,rfl,(f.trans s4).old Y,?_,?_)
      ·rw[aF a2.symm];exact s4 _ _ g2
      ·rw[ak,eB D,pA,dN,rN,dM];show aa (HO.lst (iv _++[V.int _,V.int _]))=aa (HO.lst (iv ((0::ss (λ(x:Nat×Nat)=>[(x.1:Int),(x.2:Int)]) (p.waits.take i))++[(t.1:Int),(t.2:Int)])));rw[re];rfl
   ·intro σ H' x';let(v,rfl,f,g2,q):=x';rw[aj,aj,aj,cg] at q;exact(_,rfl,k.same r f Y q)
end
section
variable {P:aO} {w:World} {K:am} {mg:Str->Option ag} {base:Heap} (m:Mo K mg)
def Ga:List Int->Option cZ
 |[x,y,r]=>aa (.around x y r)
 |_=>ac
def QQ:bo ["world","numbers","place","radius","n"] wn (aP (ig 97)):=jY
def kH {z:Int}:bP z=ae↔Co z:=cG
def JL (a:Sp.rS W.things){t:aN}(b:t∈W.things):fT W.things (t.id:Int)=aa (t.kind,t.vals):=by
 unfold fT;rw[jN ⋯,show((t.id:Nat):Int).toNat=t.id by omega,Sp.mh a b];rfl
def EW {l:List aN}(q:aN->Bool)(p:Int->Bool)(h:∀t∈l,p (t.id:Int)=q t):((l.map lg).map λ(j:Nat)=>(j:Int)).filter p=dZ ((l.filter q).map lg):=by
 induction l with
 |nil=>rfl
 |cons t l a=>
  let a:=a λu b=>h u (au _ b)
  let c:=h t (aD ..);rw[bB,bB,dB,dB,c,a];cases q t<;>rfl
include m in
def S7:du P w K mg base jw 2 (m.fn 97) (m.fd 97) wn (v7 m Ga):=by
 exact m.d97.F.ok QQ im (λbx A al s H vs Q E hr h=>?_);let(A,W,N,b,l,c,rfl,u,d,hN,hb,b',hc,h5,k):=h
 match l,hc with
 |[x,y,r],hc=>
  cases hc;let hu:=jx hr;let nd:=QQ.nd;let(kT,t1,t2):=u.th;exact⟨_,ao (nW (i:=2) nd rfl (by first|exact eu rfl|exact xO rfl) (jG kQ (pv 1) mn (jV be)))
   (ao (nW (i:=3) nd rfl (by first|exact eu rfl|exact xO rfl) (il (pv 1)))
   (ao (dG (nV (qf (mj (dA m.d28 (Jx m) hr (cU (pv 2)))) (oG (kF gC gC be (pv 3) (cS m.VH)))).pt) (rt (cr (cU (cS m.Uu)))) bS)
   (rt (cI iX (cr (cU be)) (vQ (own:=[("n",4)]) (tt:=tB (FD (Dm K) [] E0 (vN (EA K (MN (EA K (xX 0) "things") (xX 4)) "state") (vN (xX 2) (vN (xX 3) Bo))))) rfl nd (jg (cJ (nj hr.hd) (by rfl) m.Uv nN (cU (fl (pv 0))))) (mo (by show yU ["world","numbers","place","radius","n"] (aP (ig 97)) _ _=ae;decide +kernel)) (λ_ _ _ _ _=>fC (i:=4) nd rfl (eu rfl))
    (λ_ _ _ _ _=>by
     exact Bu (mj (dA m.d84 (Qn m) hr (aS ?_ (aS (pv 2) (cU (pv 3))))));exact nX ?_ rfl;exact jh hu ?_ (pv 4) (λ_ _=>rfl);exact nX (pv 0) rfl)
    (λ_ _ _ _ _=>pv 4)))))),?_⟩
  let es:b9 W (.around x y r)=(if bP x=af\/bP y=af\/aX r 0 200000=af then bL W (-2) else(W,0::dZ (Vbwsag.around W.things W.index ⟨x,y⟩ r.toNat))):=rfl
  rw[es] at k;exact WL _ rfl ⟨_,rfl,WJ b _ rfl (dL.of hb) λq f1=>?_⟩;rw[show rW (iv [x,y,r]) ac (aa 2)=iv [x,y] from BH [x,y,r] 2];let s1:=aU.new (o:=.lst (iv [x,y])) f1;obtain⟨H1,v⟩:∃H1,H1=bD H q (.lst (iv [x,y])):=⟨_,rfl⟩;let g1:H1 q=aa (.lst (iv [x,y])):=by rw[v];exact ak
  rw[<-v] at s1⊢;exact(_,rfl,WI b _ _ _ rfl rfl (dL.of (s1 _ _ hb)) (ib (j:=2) rfl) ?_);exact WL _ rfl (WN q [x,y] rfl (dL.of g1) (by show 2<=100000;decide) λB s2=>(WL _ rfl ?_));let C:=s1.trans s2;let f:(bP x=af\/bP y=af\/aX r 0 200000=af)->(1<=aI/\∀p,B p=ac->Q (.ref p) (bD B p (.lst [.int (-2)]))):=λI=>by
   rw[jN I] at k;exact(by decide,k.new u C)
  let ea:[x,y].all bP=(bP x&&bP y):=by simp
  rw[ea]
  cases hx:bP x with
  |false=>exact i7 (jD (f (.inl hx)))
  |true=>
  cases hy:bP y with
  |false=>exact i7 (jD (f (.inr (.inl hy))))
  |true=>
  exact jD ?_;by_cases r1:0<=r
  ·by_cases r2:r<=200000
   ·exact WL _ rfl (WJ _ _ rfl rfl (WL _ rfl (De r1 (WJ _ _ rfl rfl (WL _ rfl ?_)))));rw[decide_eq_true r2];exact i7 ?_;rw[iQ (by rw[hx,hy,cG.mpr ⟨r1,r2⟩];simp)] at k;exact((by show 1<=aI;decide),λq2 f2=>?_);let s3:=C.t (o:=.lst [.int 0]) f2;let J:aU B (bD B q2 (.lst [.int 0])):=aU.new f2;obtain⟨L,M⟩:∃L,L=bD B q2 (.lst [.int 0]):=⟨_,rfl⟩;let g3:L q2=aa (.lst [.int 0]):=by rw[M];exact ak
    rw[<-M] at s3 J⊢;let hk:=t2.ris d.rt;let(ks,i1,i2):=hk.ks;exact WL _ rfl (WH A.a _ A.dx _ _ rfl (s3 _ _ u.obj) m.k14.cl m.Um gR (WT A.td kT ks rfl (.inl (s3 _ _ t1)) i1 λq4 ns f4 hp hs=>?_));let e:=nu hk.2.1 (hp.trans i2) hs;subst e;exact WU q4 rfl ⟨_,dL.of ak⟩ λD fD=>?_;let s4:=s3.t (o:=.lst (((W.things.map lg).map λ(j:Nat)=>(j:Int)).map V.int)) f4;let O:aU L (bD L q4 (.lst (((W.things.map lg).map λ(j:Nat)=>(j:Int)).map V.int))):=aU.new f4;exact Dy (K:=K) (p:=λz=>match bg W.things z.toNat with|some t=>kL (dO t) ⟨x,y⟩ r.toNat|none=>af) (dL.of ak) (by rw[aj,aj];have:=d.tl;omega) fD (λH' T g5=>?_) λz H' Y Z hz T hY hN=>?_
    ·rw[EW (λt=>kL (dO t) ⟨x,y⟩ r.toNat) _ (λt ht=>by rw[show((t.id:Nat):Int).toNat=t.id by omega,Sp.mh d.rt ht]),<-Sp.z7 d.rt d.ix] at g5;exact WK q2 D _ _ rfl rfl ((O.trans T) _ _ g3) g5 ?_ λq5 f5=>?_
     ·rw[fw,Sp.z7 d.rt d.ix];show 1+(dZ _).length<=_;unfold dZ;rw[aj,aj];have:(W.things.filter λt=>kL (dO t) ⟨x,y⟩ r.toNat).length<=W.things.length:=cY _ _;exact Ho (by have:=d.tl;omega)
     ·exact k.new u (s4.trans T) q5 f5
    ·let(j,hj,rfl):=aM.mp hz;let(t,ht,rfl):=aM.mp hj;let(a,ea,dx,ls,_,_,h1,h2):=t2.some_ (JL d.rt ht);let s6:=s4.trans T;let tv:=(d.tv t ht).2.2;let hg:gD H' A.td (.int (t.id:Int)) (aa (.ref a)):=by
      have:=gD.k (k:=aA ((t.id:Nat):Int)) (s6 _ _ t1);rw[ea] at this;exact this
     exact(rfl,WL _ rfl (WH A.a _ A.dx _ _ rfl (s6 _ _ u.obj) m.k14.cl m.Um gR (WL _ rfl (WJ A.td _ rfl hg (WH a _ dx _ _ rfl (s6 _ _ h1) m.k11.cl m.Ul (gN _ _) ⟨_,rfl,WL _ rfl ?_⟩)))));exact WM ls q (dO t) ⟨x,y⟩ r.toNat ?_ (XY.of (s6 _ _ h2) (by rw[tv.len];decide)) (XY.of (vs:=[x,y]) (((s2.trans J).trans (O.trans T)) _ _ g1) (aH 2)) ⟨tv.x,tv.y⟩ ⟨kH.mp hx,kH.mp hy⟩ ⋯ ⟨_,rfl,?_⟩
     ·show[V.ref ls,V.ref q,V.int r]=[.ref ls,.ref q,.int ((r.toNat:Nat):Int)];rw[show((r.toNat:Nat):Int)=r by omega]
     ·rw[show((t.id:Nat):Int).toNat=t.id by omega,Sp.mh d.rt ht] at hY hN
      cases hw:kL (dO t) ⟨x,y⟩ r.toNat with
      |true=>exact jD ⟨_,rfl,hY H' (aU.refl H') hw⟩
      |false=>exact i7 (hN H' (aU.refl H') hw)
   ·exact WL _ rfl (WJ _ _ rfl rfl (WL _ rfl (De r1 (WJ _ _ rfl rfl (WL _ rfl ?_)))));rw[decide_eq_false r2];exact jD (f (.inr (.inr (by cases h:aX r 0 200000 with|false=>rfl|true=>have:=cG.mp h;omega))))
  ·exact WL _ rfl (WJ _ _ rfl rfl (WL _ rfl (AC r1 (WL _ rfl (jD (f (.inr (.inr (by cases h:aX r 0 200000 with|false=>rfl|true=>have:=cG.mp h;omega)))))))))
def TW:List Int->Option cZ
 |[a,b,c,d]=>aa (.line a b c d)
 |_=>ac
def QR:bo ["world","numbers","first"] wn (aP (ig 98)):=jY
include m in
def S8:du P w K mg base jw 5 (m.fn 98) (m.fd 98) wn (v7 m TW):=by
 exact m.d98.F.ok QR im (λa4 A D s H vs Q E y h=>?_);let(A,W,N,b,l,c,rfl,r,L,hN,M,a5,hc,h5,k):=h
 match l,hc with
 |[e,f,i,d],hc=>
  cases hc;let hu:=jx y;let nd:=QR.nd;let(as,a1,a2):=r.wa;exact⟨_,ao (dG (nV (mj (dA m.d28 (Jx m) (y.mono (by decide)) (cU (pv 1))))) (rt (cr (cU (cS m.Uu)))) bS)
   (ao (sT 2 nd (dA m.d81 (Sw m) y (aS (pv 1) (cU (fl (pv 0))))))
   (ao (dG (iu (m9 (pv 2))) (rt (cr (aS be (cU be)))) bS)
   (rt (cI iX (cr (aS be (aS be (cU (iq (pv 2)))))) (dA m.d82 (Sx m) (y.mono (by decide)) (cU (iq (pv 2)))))))),?_⟩
  let es:b9 W (.line e f i d)=(if[e,f,i,d].all bP=af then bL W (-2) else match yy W.walls ⟨e,f⟩ ⟨i,d⟩ with
   |none=>(W,[0,0])
   |some x=>(W,[0,1,(x.1:Int),x.2.num,(x.2.den:Int)])):=rfl
  rw[es] at k;exact WL _ rfl (WN b [e,f,i,d] rfl (dL.of M) (by show 4<=100000;decide) λH2 q=>(WL _ rfl ?_))
  cases I:[e,f,i,d].all bP with
  |false=>
   rw[jN I] at k;exact jD ⟨(by show 1<=aI;decide),k.new r q⟩
  |true=>
   rw[iQ (by rw[I];simp)] at k;exact i7 ?_;let B:∀z∈[e,f,i,d],Co z:=λz hz=>kH.mp (fV.mp I z hz)
   let O:F2 ⟨e,f⟩:=⟨B _ (by simp),B _ (by simp)⟩;let Y:F2 ⟨i,d⟩:=⟨B _ (by simp),B _ (by simp)⟩;exact(_,rfl,WL _ rfl (WH A.a _ A.dx _ _ rfl (q _ _ r.obj) m.k14.cl m.Ut pi ?_));exact WF b A.wl ⟨e,f⟩ ⟨i,d⟩ as W.walls ⟨rfl,.inl (dL.of (q _ _ M)),q _ _ a1,(a2.keep (Kp.of q)).ws,O,Y,L.wc,λH3 v s3 C=>?_⟩;let u:=q.trans s3;rw[Dl] at k;let fo:=wV O Y ((bH W.walls.length).zip W.walls) ac (λx hx=>L.wc _ (ky hx).2) (λ_ h=>by cases h)
   cases p:EU W.walls ⟨e,f⟩ ⟨i,d⟩ with
   |none=>
    rw[p] at C k;obtain rfl:v=.non:=C;exact(_,rfl,WL _ rfl (jD ⟨(by show 2<=aI;decide),k.new r u⟩))
   |some x=>
    rw[p] at C k;let(T,S,rfl,g1,g2):=C;exact(_,rfl,WL _ rfl (i7 ?_));exact(_,rfl,WK T _ _ _ rfl rfl (o4.of g1) (ib (j:=0) rfl) (by show 3<=aI;decide) λq1 f1=>?_);let J:=aU.new (o:=.lst [.int 0,.int 1,.int x.1]) f1;exact(_,rfl,WI T _ _ _ rfl rfl (o4.of (J _ _ g1)) (ib (j:=1) rfl) (WN S x.2 rfl (J _ _ g2) (fo x p) λH5 q5 s5 f5 g5=>?_));exact WK q1 q5 _ _ rfl rfl (s5 _ _ ak) g5 (by show 3+2<=aI;decide) λq6 f6=>?_;exact k.new r (u.trans (J.trans s5)) q6 f6
def Dz (C:Addr):Sp:=λvs H Q _=>∃(p dx:Addr) (a b:V),vs=[.ref p,a,b]/\H p=aa (.ins C dx [])/\Q .non (bD H p (.ins C dx (mf a b)))
def S9:bo ["self","tick","things"] ["self","tick","things"] (aP (jX (ig 13) 0)):=jY
include m in
def Ta:du P w K mg base jw 1 (m.fn 13) (m.fd 13) ["self","tick","things"] (Dz (m.cl 13)):=by
 exact m.k13.F.ok S9 (λvs H Q E h=>?_) (λb A a s H vs Q E f h=>?_)
 ·let(p,dx,c,d,rfl,_):=h;rfl
 ·let(p,dx,c,d,rfl,e,k):=h;exact(_,ao (fN (pv 0) (pv 1) rfl) (bN (fN (pv 0) (pv 2) rfl)),?_);exact(_,rfl,_,rfl,WK p _ dx _ rfl e m.k13.cl m.UV (by show 0<1000;decide) ?_);exact(_,rfl,_,rfl,WK p _ dx _ rfl ak m.k13.cl m.UW (by show 1<1000;decide) ?_);rw[je];exact k
def wY {X:Cx}{c a:Expr}{t:TA}{p:Pos}(m:Mo X.K X.mg)(e:jC 2 X.A)(f:PA X [c,a] t)(i:Gl X "Mirror":=by rfl)(j:bp [c,a] X.env=(af,eval c X.env)::bp [a] X.env:=by rfl)(d:(iO pos (bp [a] X.env)).any (·.1)=af:=by rfl):
  PE X (.Call (.Name "Mirror" p) [c,a] [] pos) (xq (m.cl 13) (Dz (m.cl 13)) [] E0 t):=tY (X:=X) (pos:=pos) (p:=p) m.k13.ma (Ta m) e i m.k13.m m.k13.b .nil rH f (by decide) j d
theorem WR.mirror {m:Mo K mg}(w:WR m H A W)(s:aU H H'){x dm md:Addr}{t:Nat}(d:¬A.rg x)(e:¬A.rg md)(h1:H' x=aa (.ins (m.cl 13) dm (mf (.int t) (.ref md))))(i:H' md=aa (.dK kvs))(j:fZ (m.cl 11) A.rg H' kvs (fD l)):
  WR m (bD H' A.a (.ins (m.cl 14) A.dx (wf (.int W.now) (.ref A.td) (.ref A.wl) (.ref A.rk) (.ref A.pd) (.ref x)))) {A with mi:=x} {W with mirror:=(t,l)}:=by
 let c:=w.same s;let D:=A.ds w.nd;obtain⟨o,f⟩:∃o,o=HO.ins (m.cl 14) A.dx (wf (.int W.now) (.ref A.td) (.ref A.wl) (.ref A.rk) (.ref A.pd) (.ref x)):=⟨_,rfl⟩;rw[<-f];let k:Kp A.rg H' (bD H' A.a o):=Kp.refl.put WA.r_a;let(p,r,u):=c.th;let(as,v,z):=c.wa;let(B,C,E,I):=c.pl;exact⟨w.nd,λb J=>?_,w.tbl,(by rw[ak,f]),⟨p,by rw[aF D.a_td.symm];exact r,u.keep k⟩,⟨as,by rw[aF D.a_wl.symm];exact v,z.keep k⟩,by rw[aF D.a_rk.symm];exact c.rk,
  (WU B (by rw[aF D.a_pd.symm];exact C) E λn=>(I n).keep k λy L=>?_),(WQ dm md kvs d e (k _ _ d h1) (k _ _ e i) (j.keep k)),c.tb.keep k (aF D.a_tb.symm)⟩
 ·by_cases q:b=A.a
  ·exact(_,by rw[q];exact ak)
  ·let(o,h):=c.live b J;exact(o,by rw[aF q];exact h)
 ·have:=D.ps y L A.a (.head _);exact(aF this.1,aF this.2)
def Tb:bo wn wn (aP (ig 71)):=jY
include m in
def Tc:du P w K mg base jw 3 (m.fn 71) (m.fd 71) wn (v7 m (c0 .clear)):=by
 exact m.d71.F.ok Tb im (λD A q s H vs Q E I h=>?_);let(A,W,N,b,l,c,rfl,f,T,hN,r,J,hc,Y,k):=h
 match l,hc with
 |[],hc=>
  cases hc;exact(_,ao (fN (pv 0) (wY m I (aS be (cU jH))) rfl) (rt (cr (cU be))),?_);intro i u;let v:=aU.new (o:=.dK []) u;exact λx dx y L _=>(WP x dx _ _ rfl ak rfl ?_)
  obtain⟨j,e⟩:∃j,j=bD (bD (bD (bD H i (.dK [])) dx (.own x)) x (.ins (m.cl 13) dx [])) x (.ins (m.cl 13) dx (mf (.int 0) (.ref i))):=⟨_,rfl⟩;let z:aU (bD H i (.dK [])) j:=by rw[e];exact jI y L
  let M:j x=aa (.ins (m.cl 13) dx (mf (.int 0) (.ref i))):=by rw[e];exact ak
  rw[<-e];let d:=v.trans z;exact(_,rfl,WK A.a _ A.dx _ rfl (d _ _ f.obj) m.k14.cl m.Uw (by show 6<1000;decide) ?_);rw[uD];let O:=f.mirror d (f.fresh (v.free y)) (f.fresh u) M (z _ _ ak) (l:=[]) (t:=0) (fZ.nil.of_eq λn=>by unfold fD;split<;>rfl);exact((by show 1<=aI;decide),λp B=>?_);let C:=d.free (jJ B).2;exact k _ _ p (O.same (aU.new B)) rfl (((Kp.of d).put WA.r_a).new C) (λb r=>.inl r) C ak
end
def wp:Nat->Nat->List Nat->Option (Nat×List Nat)
 |_,_,[]=>ac
 |sum,times,b::r=>if b<128 then(if(b=0/\1<times)\/nO<=sum+b*times then ac else aa (sum+b*times,r)) else wp (sum+(b-128)*times) (times*128) r
theorem JM:∀(l:List Nat) (sum times:Nat),nO<=times->wp sum times l=ac
 |[],_,_,_=>rfl
 |b::r,sum,times,h=>by
  unfold wp;by_cases c:b<128
  ·rw[jN c,jN];by_cases z:b=0
   ·exact .inl ⟨z,by unfold nO at h;omega⟩
   ·right
    have:times*1<=times*b:=HZ _ ⋯;rw[kq b times];omega
  ·rw[iQ c];exact JM r _ _ ⋯
theorem zg:∀(k:Nat) (l:List Nat) (sum times:Nat),(∀b∈l,b<256)->nO<=times*128^k->kN k times sum l=wp sum times l
 |0,l,sum,times,_,h=>by
  rw[JM l sum times ⋯];unfold kN;rfl
 |k+1,[],sum,times,_,_=>by
  unfold kN wp;rfl
 |k+1,b::r,sum,times,a,h=>by
  unfold kN wp;dsimp only;by_cases c:b<128
  ·rw[jN c,jN c]
  ·rw[iQ c,iQ c,iQ (by have:=a b (aD ..);omega)];exact zg k r _ _ (λx d=>a x (au _ d)) ?_;rw[DQ,<-Nat.pow_succ'];exact h
def zh {l:List Nat}(a:∀b∈l,b<256):bK l=wp 0 1 l:=zg 6 l 0 1 a (by decide)
def sf (r i:V):List (Str×V):=[("row",r),("at",i)]
def gf (a b c d:V):List (Str×V):=[("what",a),("n",b),("kind",c),("fresh",d)]
def OF (a b:V):List (Str×V):=[("tick",a),("messages",b)]
def kW (a:Addr):Rg:=λb=>b=a
section
variable {P:aO} {w:World} {K:am} {mg:Str->Option ag} {base:Heap} (m:Mo K mg)
structure M6 (m:Mo K mg)(H:Hp)(a dx rw:Addr)(bs:List Nat)(i:Nat):Prop where
 ob:H a=aa (.ins (m.cl 55) dx (sf (.ref rw) (.int i)))
 row:H rw=aa (.lst (nb bs))
 lt:∀b∈bs,b<256
 len:bs.length<=5000
 le:i<=bs.length
def M6.ne {m:Mo K mg}{rw:Addr}{bs:List Nat}(s:M6 m H a dx rw bs i):rw≠a:=λe=>by
 let c:=s.ob;let b:=s.row;rw[e,c] at b;cases b
def M6.put {m:Mo K mg}{rw:Addr}{bs:List Nat}{j:Nat}(s:M6 m H a dx rw bs i)(k:Kp (kW a) H H')(h:H' a=aa (.ins (m.cl 55) dx (sf (.ref rw) (.int j))))(b:j<=bs.length):M6 m H' a dx rw bs j:=
 ⟨h,k _ _ s.ne s.row,s.lt,s.len,b⟩
def TX (m:Mo K mg){α:Type}(b:List Nat->Option (α×List Nat))(c:α->V->Hp->Hp->Prop)(a dx rw:Addr)(bs:List Nat)(i:Nat)(H:Hp)(Q:VK)(E:XK):Prop:=
 (b (bs.drop i)=ac->∀H',Kp (kW a) H H'->E (.ref m.cN) ac H')/\
 ∀x j,b (bs.drop i)=aa (x,bs.drop j)->i<=j->j<=bs.length->∀H' v,Kp (kW a) H H'->H' a=aa (.ins (m.cl 55) dx (sf (.ref rw) (.int j)))->c x v H H'->Q v H'
def Hr (m:Mo K mg){α:Type}(b:List Nat->Option (α×List Nat))(c:α->V->Hp->Hp->Prop):Sp:=λvs H Q E=>∃(a dx rw:Addr) (bs:List Nat) (i:Nat),vs=[.ref a]/\M6 m H a dx rw bs i/\TX m b c a dx rw bs i H Q E
def tq {α:Type}{a:List Nat->Option (α×List Nat)}{b:α->V->Hp->Hp->Prop}(vs:List V)(H:Hp)(Q:VK)(E:XK)(h:Hr m a b vs H Q E):vs.length=1:=by
 let(_,_,_,_,_,rfl,_):=h;rfl
structure Mx (m:Mo K mg):Prop where
 exc:LK K m.cN
 mN:mg "NoStream"=aa (.ref m.cN)
def M7:List Nat->Option (Nat×List Nat)
 |[]=>ac
 |b::r=>aa (b,r)
def TY:Nat->V->Hp->Hp->Prop:=λn v _ _=>v=.int n
def Td:bo ["source"] ["source"] (aP (ig 58)):=jY
def nw {bs:List Nat}(h:i<bs.length):bs.drop i=bs[i]::bs.drop (i+1):=fX h
include m in
def LQ (o:Mx m):du P w K mg base (Hl P w m.cN) 1 (m.fn 58) (m.fd 58) ["source"] (Hr m M7 TY):=by
 exact m.d58.F.okX Td (tq m) (λr A f s H vs Q E u h=>?_);let(a,dx,rw,bs,i,rfl,b,v,x):=h;exact⟨_,ao (dG (df lD (fl (pv 0)) (cJ eN (by rfl) m.Uk cM (cU (fl (pv 0)))) (dS _)) (bN (qF o.exc o.mN u.hd wK)) bS)
  (ao (Ae (pv 0) be II) (rt (ot rb (fl (pv 0)) (cI jU (fl (pv 0)) be) (λ_ _=>rfl)))),?_⟩
 exact WL _ rfl (WH a _ dx _ _ rfl b.ob m.k55.cl m.UC rfl (WL _ rfl (WH a _ dx _ _ rfl b.ob m.k55.cl m.UY rfl (WN rw _ rfl (.inl (dL.of b.row)) rfl (WL _ rfl ?_)))));rw[aj];exact fO (λc=>?_) λc=>?_
 ·let c:(i:Int)=bs.length:=V.int.inj c;exact v ?_ H Kp.refl;rw[ki ⋯];rfl
 ·let c:i<bs.length:=by
   have:=b.le;have:i≠bs.length:=λq=>c (by rw[q])
   omega
  exact WL _ rfl (WH a _ dx _ _ rfl b.ob m.k55.cl m.UC rfl (WJ i 1 rfl rfl (WJ dx _ b.ob (by show 2<1000;decide) ?_)));obtain⟨e,d⟩:∃e,e=bD H a (.ins (m.cl 55) dx (fI "at" (.int ((i:Int)+1)) (sf (.ref rw) (.int i)))):=⟨_,rfl⟩;let l:e a=aa (.ins (m.cl 55) dx (sf (.ref rw) (.int ((i+1:Nat):Int)))):=by rw[d,ak];rfl
  let p:Kp (kW a) H e:=by rw[d];exact Kp.refl.put rfl
  rw[<-d];exact(_,rfl,WH a _ dx _ _ rfl l m.k55.cl m.UY rfl ⟨_,rfl,WH a _ dx _ _ rfl l m.k55.cl m.UC rfl (WJ _ _ rfl rfl (WI rw _ _ (V.int bs[i]) rfl rfl (dL.of (p _ _ b.ne b.row)) ?_ ?_))⟩)
  ·rw[show((i+1:Nat):Int)-1=(i:Int) by omega];exact ib (j:=i) ?_;rw[bZ,br c];rfl
  ·exact x bs[i] (i+1) (by rw[nw c];rfl) ⋯ ⋯ e _ p l rfl
end
section
variable {P:aO} {w:World} {K:am} {mg:Str->Option ag} {base:Heap} (m:Mo K mg)
def oH {bs:List Nat}{x:Nat}(h:M7 (bs.drop i)=aa (x,r))(a:i<=bs.length):i<bs.length/\r=bs.drop (i+1):=by
 by_cases c:i<bs.length
 ·rw[nw c] at h;cases h;exact(c,rfl)
 ·rw[ki ⋯] at h;cases h
def tw {bs:List Nat}{j:Nat}(h:bs.drop i=bs.drop j)(a:i<=bs.length)(b:j<=bs.length):i=j:=by
 have:=congrArg mz h;rw[bC,bC] at this;omega
def QS:bo ["source","number","times","byte"] ["source"] (aP (ig 59)):=jY
include m in
def JN (B:Mx m):du P w K mg base (Hl P w m.cN) 2 (m.fn 59) (m.fd 59) ["source"] (Hr m bK TY):=by
 exact m.d59.F.okX QS (tq m) (λa' A a5 s H vs Q E T h=>?_);let(a,dx,rw,bs,d,rfl,e,Y,k2):=h;let p:=QS.nd;let u:∀b∈bs.drop d,b<256:=λb hb=>e.lt b (uI hb)
 rw[zh u] at Y;exact⟨_,ao (sT 1 p be) (ao (sT 2 p be)
  (ao (sT 3 p (mq m.d58 (LQ m B) T (cU (pv 0))))
  (ao (sK vg (df FC (pv 3) be (dS _))
   (ao (Bj (i:=1) p rfl (eu rfl) (cI lu (cI jU (pv 3) be) (pv 2)) Fy)
   (ao (sT 2 p (cI lu (pv 2) be))
   (bN (sT 3 p (mq m.d58 (LQ m B) T (cU (pv 0))))))))
  (ao (dG (qf (df lD (pv 3) be (dS _)) (oG (df MI (pv 2) be (dS _)))).pt (bN (qF B.exc B.mN T.hd wK)) bS)
  (ao (Bj (i:=1) p rfl (eu rfl) (cI lu (pv 3) (pv 2)) Fy)
  (ao (dG (df FC (pv 1) (cS m.VG) (dS _)) (bN (qF B.exc B.mN T.hd wK)) bS)
  (rt (pv 1)))))))),?_⟩
 exact(_,rfl,WO a dx rw bs d rfl e (λhn H' kp=>?_) λb i1 f l1 I H1 v an g1 ev=>?_)
 ·exact Y ?_ H' kp
  cases hd:bs.drop d with
  |nil=>rfl
  |cons b r=>rw[hd] at hn;cases hn
 subst ev;let(c1,J):=oH f e.le;obtain rfl:i1=d+1:=tw J I ⋯;let hb:bs.drop d=b::bs.drop (d+1):=by
  rw[nw c1] at f⊢;cases f;rfl
 let L:b<256:=u b (by rw[hb];exact aD ..);exact(λn σ H'=>∃(sum times b i:Nat),n=bs.length-i/\σ=[aa (.ref a),aa (.int sum),aa (.int times),aa (.int b)]/\Kp (kW a) H H'/\H' a=aa (.ins (m.cl 55) dx (sf (.ref rw) (.int i)))/\d<=i/\i<=bs.length/\wp 0 1 (bs.drop d)=wp sum times (b::bs.drop i)/\b<256/\1<=times,(WM _ 0 1 b (d+1) rfl rfl an g1 ⋯ I ⟨by rw[hb],L,aH _⟩),?_);intro n σ H2 x';let(sum,times,b,i,rfl,rfl,l,g2,l3,l4,C,L,ht):=x';exact WL _ rfl (WJ _ _ rfl rfl (WL _ rfl (fO (λc=>?_) λc=>?_)))
 ·let cb:¬b<128:=⋯
  exact(λσ H'=>∃(sum times b j:Nat),i<j/\σ=[aa (.ref a),aa (.int sum),aa (.int times),aa (.int b)]/\Kp (kW a) H H'/\H' a=aa (.ins (m.cl 55) dx (sf (.ref rw) (.int j)))/\j<=bs.length/\wp 0 1 (bs.drop d)=wp sum times (b::bs.drop j)/\b<256/\1<=times,λσ' H' x'=>V4 x' λsum times b j x'=>X7 x' λq1 q2 q3 q4 q5 q6 q7 q8=>⟨bs.length-j,⋯,WK sum times b j rfl q2 q3 q4 ⋯ ⟨q5,q6,q7,q8⟩⟩,?_);let sr:=e.put l g2 l4;exact WL _ rfl (WL _ rfl (WJ _ _ rfl rfl (WL _ rfl (WN _ _ rfl rfl (.inl ⟨⋯,⋯⟩) (WJ _ _ rfl rfl ?_)))));exact WL _ rfl (WN _ _ rfl rfl (.inr ⟨by decide,by decide⟩) ?_);exact WL _ rfl (WO a dx rw bs i rfl sr (λhn H' kp=>?_) λb' i1 f l1 I H3 v av g3 ev=>?_)
  ·exact Y ?_ H' (l.trans kp);rw[C];unfold wp;rw[iQ cb]
   cases hd:bs.drop i with
   |nil=>rfl
   |cons b r=>rw[hd] at hn;cases hn
  ·subst ev;let(c1,J):=oH f l4;obtain rfl:i1=i+1:=tw J I ⋯;let M:bs.drop i=b'::bs.drop (i+1):=by
    rw[nw c1] at f⊢;cases f;rfl
   exact WK (sum+(b-128)*times) (times*128) b' (i+1) ⋯ ?_ (l.trans av) g3 I ⟨?_,?_,⋯⟩
   ·show[aa (V.ref a),aa (V.int ((sum:Int)+((b:Int)-128)*(times:Int))),aa (V.int ((times:Int)*128)),aa (V.int (b':Int))]=_;let f:((sum:Int)+((b:Int)-128)*(times:Int))=((sum+(b-128)*times:Nat):Int):=by
     rw[z4,z5,Int.ofNat_sub (by omega:128<=b)];rfl
    let e2:((times:Int)*128)=((times*128:Nat):Int):=⋯
    rw[f,e2]
   ·rw[C,<-M];conv=>lhs;unfold wp
    rw[iQ cb]
   ·exact e.lt b' (uI (by rw[M];exact aD ..))
 ·let cb:b<128:=⋯
  let C:wp 0 1 (bs.drop d)=if(b=0/\1<times)\/nO<=sum+b*times then ac else aa (sum+b*times,bs.drop i):=by
   rw[C];conv=>lhs;unfold wp
   rw[jN cb]
  let N:=λ(hx:bK (bs.drop d)=aa (sum+b*times,bs.drop i))=>k2 _ i hx l3 l4 H2 _ l g2 rfl
  rw[zh u] at N;let O:((b=0/\1<times)\/nO<=sum+b*times)->E (.ref m.cN) ac H2:=λq=>Y (by rw[C,jN q]) H2 l
  let o:¬(b=0/\1<times)->∃x,[aa (V.ref a),aa (V.int (sum:Int)),aa (V.int (times:Int)),aa (V.int (b:Int))][1]?=aa (aa x)/\(KY (rI ID λi j=>.int (i*j)) (xX 3) (xX 2)) [aa (V.ref a),aa (V.int (sum:Int)),aa (V.int (times:Int)),aa (V.int (b:Int))] H2 λy H1=>(HN λi j=>.int (i+j)) x y H1 λz H3=>NH (NK (IF (KY (HN λi j=>.bl (decide (j<=i))) (xX 1) (tC (.int 1099511627776)))) (λD σ H=>tC (.str "a whole number is too great") σ H λ_ H1=>E (.ref m.cN) ac H1) MF) (NJ (xX 1)) {nx:=λ_ H'=>Q .non H',rt:=Q} ([aa (V.ref a),aa (V.int (sum:Int)),aa (V.int (times:Int)),aa (V.int (b:Int))].set 1 (aa z)) H3:=λnc=>by
   exact(_,rfl,_,rfl,_,rfl,WN _ _ rfl rfl (.inl ⟨⋯,⋯⟩) (WJ _ _ rfl rfl ?_));let f:((sum:Int)+(b:Int)*(times:Int))=((sum+b*times:Nat):Int):=by
    rw[z4,z5]
   dsimp only;rw[f];exact(_,rfl,WJ _ _ rfl rfl (WL _ rfl (fO (λc3=>?_) λc3=>?_)))
   ·exact O (.inr (by unfold nO;omega))
   ·exact(_,rfl,N ?_);rw[C,iQ];rintro(q|q)
    ·exact nc q
    ·unfold nO at q;omega
  exact(_,rfl,rfl,WL _ rfl (fO (λc1=>?_) λc1=>?_))
  ·let z:b=0:=by have:=V.int.inj c1;omega
   exact(_,rfl,WJ _ _ rfl rfl (WL _ rfl (fO (λJ=>?_) λJ=>?_)))
   ·exact O (.inl ⟨z,⋯⟩)
   ·exact o ⋯
  ·exact i7 (o λq=>c1 (by rw[q.1];rfl))
end
def OG {l:List Nat}{k t s:Nat}{x:Nat}(h:kN k t s l=aa (x,r)):∃j,1<=j/\j<=l.length/\r=l.drop j:=by
 induction k generalizing l t s with
 |zero=>unfold kN at h;cases h
 |succ k a=>
  unfold kN at h
  cases l with
  |nil=>cases h
  |cons b l=>
   dsimp only at h;split at h
   ·split at h
    ·cases h
    ·cases h;exact(1,aH _,by simp,rfl)
   ·split at h
    ·cases h
    ·let(j,d,e,c):=a h;exact(j+1,⋯,by simp;omega,by rw[c];rfl)
def iw {l:List Nat}{x:Nat}(h:bK l=aa (x,r)):∃j,1<=j/\j<=l.length/\r=l.drop j:=OG h
section
variable {P:aO} {w:World} {K:am} {mg:Str->Option ag} {base:Heap} (m:Mo K mg)
def JO (l:List Nat):Option (Int×List Nat):=(bK l).map λx=>(jn x.1,x.2)
def Uc:Int->V->Hp->Hp->Prop:=λn v _ _=>v=.int n
def QT:bo ["source","number"] ["source"] (aP (ig 60)):=jY
include m in
def Te (l:Mx m):du P w K mg base (Hl P w m.cN) 3 (m.fn 60) (m.fd 60) ["source"] (Hr m JO Uc):=by
 exact m.d60.F.okX QT (tq m) (λo A b s H vs Q E p h=>?_);let(a,dx,rw,bs,r,rfl,d,u,y):=h;let B:=QT.nd;exact⟨_,ao (sT 1 B (mq m.d59 (JN m l) p (cU (pv 0))))
  (rt (o0 (df lD (cI Bk (pv 1) be) be (dS _)) (cI vK (pv 1) be) (yQ uT (cI vK (cI o6 (pv 1) be) be)))),?_⟩
 exact(_,rfl,WO a dx rw bs r rfl d (λhn H' C=>u (by unfold JO;rw[hn];rfl) H' C) λx j D I J f v e L M=>?_);subst M;exact(_,rfl,WN _ _ rfl rfl (by show(0:Int)<2;decide) ⟨rfl,_,rfl,?_⟩);let i:∀z,z=jn x->Q (.int z) f:=λz N=>y z j (by unfold JO;rw[D,N];rfl) I J f _ e L rfl
 exact fO (λc=>?_) λc=>?_
 ·let c:(x:Int)%2=0:=V.int.inj c;exact(_,rfl,_,_,rfl,rfl,⟨by decide,by decide⟩,i _ ?_);unfold jn;rw[jN ⋯];omega
 ·let c:¬(x:Int)%2=0:=λq=>c (by show V.int ((x:Int)%2)=_;rw[q])
  exact(_,rfl,WJ _ _ rfl rfl ⟨_,_,rfl,rfl,⟨by decide,by decide⟩,_,rfl,i _ ?_⟩);unfold jn;rw[iQ ⋯];omega
def rm (b:List Nat)(a:List Int):List (ef×V):=(b.zip a).map λx=>(aA (x.1:Int),V.int x.2)
def Ud (b:List Nat):List Int->V->Hp->Hp->Prop:=λa v H H'=>∃d,v=.ref d/\H d=ac/\H' d=aa (.dK (rm b a))
def OH (m:Mo K mg):Sp:=λvs H Q E=>∃(a dx rw b:Addr) (bs:List Nat) (i:Nat) (c:List Nat),vs=[.ref a,.ref b]/\M6 m H a dx rw bs i/\H b=aa (.lst (nb c))/\c.Nodup/\c.length<=8/\TX m (bX c.length) (Ud c) a dx rw bs i H Q E
def QU:bo ["source","indexes","fresh","i"] ["source","indexes"] (aP (ig 61)):=jY
def AG (a:List Nat)(b:List Int){k:ef}(h:k∈(rm a b).map (·.1)):∃j∈a,k=aA (j:Int):=by
 let(p,c,e):=aM.mp h;let(x,d,f):=aM.mp c;exact(x.1,(ky d).1,by rw[<-e,<-f])
theorem DA {α β:Type}:∀{a:List α} {b:List β} {x:α} {y:β},a.length=b.length->(a++[x]).zip (b++[y])=a.zip b++[(x,y)]
 |[],[],_,_,_=>rfl
 |a::as,b::bs,x,y,h=>by
  show(a,b)::(as++[x]).zip (bs++[y])=(a,b)::(as.zip bs++[(x,y)]);rw[DA (by simpa using h)]
include m in
def QV (mx:Mx m):du P w K mg base (Hl P w m.cN) 4 (m.fn 61) (m.fd 61) ["source","indexes"] (OH m):=by
 exact m.d61.F.okX QU (λvs H Q E h=>?_) (λb2 A Y s H vs Q E hr h=>?_)
 ·let(_,_,_,_,_,_,_,rfl,_):=h;rfl
 let(a,dx,rw,b,bs,L,c,rfl,l,M,a0,h8,k1,k2):=h;let nd:=QU.nd;let hu:=jx hr;let a1:b≠a:=λe=>by rw[e,l.ob] at M;cases M
 exact⟨_,ao (sT 2 nd jH)
  (ao (kj vg rfl (jg (pv 1)) (fC (i:=3) nd rfl (eu rfl))
   (bN (lG hu (pv 2) (pv 3) (mq m.d60 (Te m mx) hr (cU (pv 0))) rfl)))
  (rt (pv 2))),?_⟩
 intro d B;let N:d≠a:=(aL l.ob B).symm;let b7:d≠b:=(aL M B).symm;exact WL _ rfl (WU b rfl ⟨_,dL.of (aU.new B _ _ M)⟩ (ka (K:=K) (a:=b) (xs:=nb c)
  (λi σ H'=>∃(v:Option V) (f:List Int) (j:Nat),σ=[aa (.ref a),aa (.ref b),aa (.ref d),v]/\Kp (kW a) H H'/\H' a=aa (.ins (m.cl 55) dx (sf (.ref rw) (.int j)))/\H' d=aa (.dK (rm (c.take i) f))/\f.length=i/\i<=c.length/\L<=j/\j<=bs.length/\
   bX c.length (bs.drop L)=(bX (c.length-i) (bs.drop j)).map λx=>(f++x.1,x.2))
  (WQ ac [] L rfl (Kp.refl.new B) (aU.new B _ _ l.ob) ak ⟨rfl,aR _,aH _,l.le,?_⟩) (λi σ H' _ x'=>V32 x' λ_ _ _ _ C _=>dL.of (C _ _ a1 M)) ?_ ?_))
 ·show _=(bX c.length (bs.drop L)).map λx=>([]++x.1,x.2)
  cases bX c.length (bs.drop L)<;>rfl
 ·intro i y σ H' hi x';let(v,f,j,rfl,C,ga,O,la,li,lj,D,u):=x';let(n,hn,rfl):=km hi;let a4:=(bf.mp hn).1;let e1:c.length-i=(c.length-(i+1))+1:=⋯
  rw[e1] at u;let es:bX (c.length-(i+1)+1) (bs.drop j)=(match bK (bs.drop j) with
   |none=>ac
   |some (z,r)=>(bX (c.length-(i+1)) r).map λx=>(jn z::x.1,x.2)):=rfl
  rw[es] at u;exact WL _ rfl (WO a dx rw bs j rfl (l.put C ga D) (λI H2 o=>?_) λz j2 J l1 l2 H2 v2 o g2 ev=>?_)
  ·exact k1 ?_ H2 (C.trans o);rw[u];unfold JO at I
   cases T:bK (bs.drop j) with
   |none=>rfl
   |some x=>rw[T] at I;cases I
  ·subst ev;let ab:=o _ _ N O;let al:eE (rm (c.take i) f) (aA (n:Int))=ac:=by
    rw[oQ];intro q;let(jj,hj,e):=AG _ _ q;let e:n=jj:=by have:=fF e;omega
    subst e;let(p,c2,an):=List.mem_take_iff_getElem.mp hj;let a':p<i:=⋯
    have:=bf.mp hn;let(h3,h4):=this;exact aB ((List.getElem_inj a0).mp (an.trans h4.symm)) ⋯
   exact WL _ rfl (WL _ rfl (WJ d _ rfl (uo.k (k:=aA (n:Int)) ab ?_) ?_))
   ·unfold rm;rw[aj,zD,cO];exact dI ⋯
   ·exact WQ _ (f++[z]) j2 rfl ((C.trans o).new B) ?_ ?_ ⟨?_,a4,⋯,l2,?_⟩
    ·rw[aF N.symm];exact g2
    ·rw[ak,vS _ al];congr 2;unfold rm;rw[eB hn,DA (by rw[cO];omega),bU];rfl
    ·rw[aQ,la];rfl
    ·rw[u];unfold JO at J
     cases T:bK (bs.drop j) with
     |none=>rw[T] at J;cases J
     |some x=>
      rw[T] at J;let(x1,x2):=x;let J:(jn x1,x2)=(z,bs.drop j2):=a6 J;let(rfl,rfl):=DW J;dsimp only
      cases bX (c.length-(i+1)) (bs.drop j2) with
      |none=>rfl
      |some q=>
       show aa (f++(jn x1::q.1),q.2)=aa (f++[jn x1]++q.1,q.2);rw[g0];rfl
 ·intro σ H' x';let(v,f,j,rfl,C,ga,O,la,li,lj,D,u):=x';rw[aj] at O la li u;rw[tS] at u;rw[cg] at O;exact(_,rfl,k2 f j ?_ lj D H' _ C ga ⟨d,rfl,B,O⟩);rw[u];show aa (f++[],bs.drop j)=_;rw[dM]
def Tf:List Nat->Option (List Nat×List Nat)
 |[]=>ac
 |c::r=>if c=0 then ac else aa (gj c,r)
def Ue:List Nat->V->Hp->Hp->Prop:=λl v H H'=>∃d,v=.ref d/\H d=ac/\H' d=aa (.lst (nb l))
def QW:bo ["source","changed","i"] ["source"] (aP (ig 62)):=jY
def we (p:Nat->Bool)(n:Nat):(bH (n+1)).filter p=(bH n).filter p++if p n=ae then[n] else[]:=by
 rw[oR,pX,dB,List.filter_nil]
include m in
def Tg (y:Mx m):du P w K mg base (Hl P w m.cN) 2 (m.fn 62) (m.fd 62) ["source"] (Hr m Tf Ue):=by
 exact m.d62.F.okX QW (tq m) (λa1 A B s H vs Q E L h=>?_);let(a,dx,rw,bs,f,rfl,l,M,k2):=h;let C:=QW.nd;exact⟨_,ao (nW (i:=1) C rfl (by first|exact eu rfl|exact xO rfl) (mq m.d58 (LQ m y) L (cU (pv 0))))
  (ao (dG (df lD (pv 1) be (dS _)) (bN (qF y.exc y.mN L.hd wK)) bS)
  (rt (vQ (own:=[("i",2)]) rfl C (GQ (by rfl) m.Vp (cU (cS m.UN))) (mo (by show yU ["source","changed","i"] (aP (ig 62)) _ _=ae;decide +kernel)) (λ_ _ _ _ _=>fC (i:=2) C rfl (eu rfl))
   (λ_ _ _ _ _=>Bu (df lD (cI Bk (cI NS (pv 1) (pv 2)) be) be (dS _)))
   (λ_ _ _ _ _=>pv 2)))),?_⟩
 exact(_,rfl,WO a dx rw bs f rfl l (λhn H' kp=>M ?_ H' kp) λx j I l1 N O v d T u=>?_)
 ·cases hd:bs.drop f with
  |nil=>rfl
  |cons b r=>rw[hd] at hn;cases hn
 subst u;let(c1,c2):=oH I l.le;obtain rfl:j=f+1:=tw c2 N ⋯;let Y:bs.drop f=x::bs.drop (f+1):=by
  rw[nw c1] at I⊢;cases I;rfl
 exact(_,rfl,rfl,WL _ rfl (fO (λc=>?_) λc=>?_))
 ·let c:x=0:=by have:=V.int.inj c;omega
  exact M (by rw[Y];show(if x=0 then ac else aa _)=ac;rw[jN c]) O d
 ·let c:x≠0:=λq=>c (by rw[q];rfl)
  exact(8,rfl,(by decide),(by decide),λD fD=>?_);exact IV (λi H'=>aU O H'/\H' D=aa (.lst (nb ((bH i).filter λi=>(x/2^i)%2==1)))) ⟨aU.new fD,ak⟩ ?_ ?_
  ·intro i H' hi x';let(p,e):=x';let hi:i<8:=hi;exact(rfl,_,rfl,_,rfl,WN _ _ rfl rfl ⋯ (WN _ _ rfl rfl (by show(0:Int)<2;decide) ⟨rfl,WL _ rfl ?_⟩));let u:((x:Int)/2^((0+(i:Int)).toNat))%2=((x/2^i%2:Nat):Int):=by
    rw[show(0+(i:Int)).toNat=i by omega,Int.natCast_emod,Int.natCast_ediv,Int.natCast_pow];rfl
   exact fO (λq=>?_) λq=>?_
   ·let q:x/2^i%2=1:=by have:=V.int.inj q;rw[u] at this;omega
    exact(_,rfl,_,e,?_,p.old fD,?_)
    ·rw[aj];exact dI (bq (cY _ _) (by rw[g9];omega))
    ·rw[ak,we,jN (by rw[q];rfl),wU];show aa (HO.lst (_++[V.int (0+(i:Int))]))=aa (HO.lst (_++[V.int (i:Int)]));rw[Int.zero_add]
   ·let q:x/2^i%2≠1:=λz=>q (by show V.int ((x:Int)/2^((0+(i:Int)).toNat)%2)=_;rw[u,z];rfl)
    exact(p,?_);rw[e,we,iQ (by simpa using q),dM]
  ·intro H' x';let(p,e):=x';exact k2 _ (f+1) (by rw[Y];show(if x=0 then ac else aa _)=_;rw[iQ c];rfl) l1 N H' _ (d.trans (Kp.of p)) (p _ _ T) ⟨D,rfl,?_,e⟩
   let J:D≠a:=(aL T fD).symm
   cases hD:H D with
   |none=>rfl
   |some o=>rw[d _ _ J hD] at fD;cases fD
end
def mW:aT->Nat
 | .enter .. =>1
 | .change .. =>2
 | .leave .. =>3
def mK:aT->Nat
 | .enter _ k _=>k
 |_=>0
def mI:aT->List Nat
 | .enter .. =>bH 8
 | .change _ d _=>d
 | .leave _=>[]
def mV:aT->List Int
 | .enter _ _ v=>v
 | .change _ _ v=>v
 | .leave _=>[]
structure KC (g:aT):Prop where
 len:(mI g).length=(mV g).length
 lt:∀i∈mI g,i<8
 nd:(mI g).Nodup
theorem JP (b:Nat)(r:List Nat):gB (b::r)=if b=1 then(match bK r with
  |none=>ac
  |some (n,r)=>match bK r with
   |none=>ac
   |some (k,r)=>(bX 8 r).map λx=>(.enter n k x.1,x.2))
 else if b=2 then(match bK r with
  |none=>ac
  |some (n,r)=>match r with
   |[]=>ac
   |m::r=>if m=0\/255<m then ac else(bX (gj m).length r).map λx=>(.change n (gj m) x.1,x.2))
 else if b=3 then(bK r).map λx=>(.leave x.1,x.2) else ac:=by
 match b with
 |0=>rfl
 |1=>rfl
 |2=>rfl
 |3=>rfl
 |n+4=>
  rw[iQ ⋯,iQ ⋯,iQ ⋯];rfl
theorem mw:∀{n:Nat} {l:List Nat} {v:List Int} {r:List Nat},bX n l=aa (v,r)->v.length=n/\∃j,j<=l.length/\r=l.drop j
 |0,l,v,r,h=>by
  cases h;exact(rfl,0,aR _,rfl)
 |n+1,l,v,r,h=>by
  unfold bX at h
  cases a:bK l with
  |none=>rw[a] at h;cases h
  |some x=>
   let(z,d):=x;rw[a] at h;dsimp only at h
   cases b:bX n d with
   |none=>rw[b] at h;cases h
   |some y=>
    rw[b] at h;let(p,q):=y;cases h;let(e,j,f,i):=mw b;let(o,_,s,c):=iw a;exact(by simp[e],o+j,?_,?_)
    ·rw[c,bC] at f;omega
    ·rw[i,c,iF]
def Gb (c:Nat):(gj c).Nodup/\(∀i∈gj c,i<8)/\(gj c).length<=8:=by
 unfold gj;exact(rP.filter _,λi a=>?_,?_)
 ·exact fM.mp (cW.mp a).1
 ·exact bq (cY _ _) (by rw[g9];exact aH _)
section
variable {P:aO} {w:World} {K:am} {mg:Str->Option ag} {base:Heap} (m:Mo K mg)
def DB (C:Addr):Sp:=λvs H Q _=>∃(p dx:Addr) (a:V),vs=[.ref p,a]/\H p=aa (.ins C dx [])/\Q .non (bD H p (.ins C dx (sf a (.int 0))))
def Th:bo ["self","row"] ["self","row"] (aP (jX (ig 55) 0)):=jY
include m in
def Ti:du P w K mg base jw 1 (m.fn 55) (m.fd 55) ["self","row"] (DB (m.cl 55)):=by
 exact m.k55.F.ok Th (λvs H Q E h=>?_) (λb A a s H vs Q E e h=>?_)
 ·let(p,dx,c,rfl,_):=h;rfl
 ·let(p,dx,c,rfl,d,k):=h;exact(_,ao (fN (pv 0) (pv 1) rfl) (bN (fN (pv 0) be rfl)),?_);exact(_,rfl,_,rfl,WK p _ dx _ rfl d m.k55.cl m.UY (by show 0<1000;decide) ?_);exact(_,rfl,WK p _ dx _ rfl ak m.k55.cl m.UC (by show 1<1000;decide) ?_);rw[je];exact k
def wZ (C:Addr):Sp:=λvs H Q _=>∃(p dx:Addr) (a b c d:V),vs=[.ref p,a,b,c,d]/\H p=aa (.ins C dx [])/\Q .non (bD H p (.ins C dx (gf a b c d)))
def Tj:bo ["self","what","n","kind","fresh"] ["self","what","n","kind","fresh"] (aP (jX (ig 56) 0)):=jY
include m in
def Tk:du P w K mg base jw 1 (m.fn 56) (m.fd 56) ["self","what","n","kind","fresh"] (wZ (m.cl 56)):=by
 exact m.k56.F.ok Tj (λvs H Q E h=>?_) (λb A a s H vs Q E j h=>?_)
 ·let(p,dx,c,d,e,f,rfl,_):=h;rfl
 ·let(p,dx,c,d,e,f,rfl,i,k):=h;exact(_,ao (fN (pv 0) (pv 1) rfl) (ao (fN (pv 0) (pv 2) rfl) (ao (fN (pv 0) (pv 3) rfl) (bN (fN (pv 0) (pv 4) rfl)))),?_);exact(_,rfl,_,rfl,WK p _ dx _ rfl i m.k56.cl m.UL (by show 0<1000;decide) ?_);exact WL _ rfl (WL _ rfl (WK p _ dx _ rfl ak m.k56.cl m.UZ (by show 1<1000;decide) ?_));rw[je];exact WL _ rfl (WL _ rfl (WK p _ dx _ rfl ak m.k56.cl m.Vj (by show 2<1000;decide) ?_));rw[je];exact(_,rfl,_,rfl,WK p _ dx _ rfl ak m.k56.cl m.UM (by show 3<1000;decide) ?_);rw[je];exact k
def JQ (C:Addr):Sp:=λvs H Q _=>∃(p dx:Addr) (a b:V),vs=[.ref p,a,b]/\H p=aa (.ins C dx [])/\Q .non (bD H p (.ins C dx (OF a b)))
def Tl:bo ["self","tick","messages"] ["self","tick","messages"] (aP (jX (ig 57) 0)):=jY
include m in
def Tn:du P w K mg base jw 1 (m.fn 57) (m.fd 57) ["self","tick","messages"] (JQ (m.cl 57)):=by
 exact m.k57.F.ok Tl (λvs H Q E h=>?_) (λb A a s H vs Q E f h=>?_)
 ·let(p,dx,c,d,rfl,_):=h;rfl
 ·let(p,dx,c,d,rfl,e,k):=h;exact(_,ao (fN (pv 0) (pv 1) rfl) (bN (fN (pv 0) (pv 2) rfl)),?_);exact(_,rfl,_,rfl,WK p _ dx _ rfl e m.k57.cl m.U0 (by show 0<1000;decide) ?_);exact(_,rfl,_,rfl,WK p _ dx _ rfl ak m.k57.cl m.U1 (by show 1<1000;decide) ?_);rw[je];exact k
section
variable {X:Cx} {e1 e2 e3 e4:Expr} {t:TA} {p pos:Pos}
def Hs (m:Mo X.K X.mg)(c:jC 2 X.A)(d:PA X [e1] t)(e:Gl X "Source":=by rfl)(f:bp [e1] X.env=(af,eval e1 X.env)::bp [] X.env:=by rfl)(a:(iO pos (bp [] X.env)).any (·.1)=af:=by rfl):
  PE X (.Call (.Name "Source" p) [e1] [] pos) (xq (m.cl 55) (DB (m.cl 55)) [] E0 t):=tY (X:=X) (pos:=pos) (p:=p) m.k55.ma (Ti m) c e m.k55.m m.k55.b .nil rH d (by decide) f a
def u4 (m:Mo X.K X.mg)(c:jC 2 X.A)(d:PA X [e1,e2,e3,e4] t)(e:Gl X "Message":=by rfl)(f:bp [e1,e2,e3,e4] X.env=(af,eval e1 X.env)::bp [e2,e3,e4] X.env:=by rfl)(a:(iO pos (bp [e2,e3,e4] X.env)).any (·.1)=af:=by rfl):
  PE X (.Call (.Name "Message" p) [e1,e2,e3,e4] [] pos) (xq (m.cl 56) (wZ (m.cl 56)) [] E0 t):=tY (X:=X) (pos:=pos) (p:=p) m.k56.ma (Tk m) c e m.k56.m m.k56.b .nil rH d (by decide) f a
def Ht (m:Mo X.K X.mg)(c:jC 2 X.A)(d:PA X [e1,e2] t)(e:Gl X "Stream":=by rfl)(f:bp [e1,e2] X.env=(af,eval e1 X.env)::bp [e2] X.env:=by rfl)(a:(iO pos (bp [e2] X.env)).any (·.1)=af:=by rfl):
  PE X (.Call (.Name "Stream" p) [e1,e2] [] pos) (xq (m.cl 57) (JQ (m.cl 57)) [] E0 t):=tY (X:=X) (pos:=pos) (p:=p) m.k57.ma (Tn m) c e m.k57.m m.k57.b .nil rH d (by decide) f a
end
def BM (m:Mo K mg)(H:Hp)(x:Addr)(g:aT):Prop:=∃dx d,H x=aa (.ins (m.cl 56) dx (gf (.int (mW g:Nat)) (.int (bM g:Nat)) (.int (mK g:Nat)) (.ref d)))/\H d=aa (.dK (rm (mI g) (mV g)))
def Uf (m:Mo K mg):aT->V->Hp->Hp->Prop:=λg v H H'=>∃x,v=.ref x/\H x=ac/\BM m H' x g/\KC g
def QX:bo ["source","what","n","kind"] ["source"] (aP (ig 63)):=jY
def Kp.free (k:Kp (kW a) H H')(_:H a=aa o){d:Addr}(f:H' d=ac)(h':∃o,H' a=aa o):H d=ac:=by
 by_cases q:d=a
 ·let(b,e):=h';rw[q,e] at f;cases f
 ·cases e:H d with
  |none=>rfl
  |some o=>rw[k _ _ q e] at f;cases f
include m in
def To (N:Mx m):du P w K mg base (Hl P w m.cN) 5 (m.fn 63) (m.fd 63) ["source"] (Hr m gB (Uf m)):=by
 exact m.d63.F.okX QX (tq m) (λcj A b7 s H vs Q E hr h=>?_);let(a,dx,rw,bs,O,rfl,p,k1,k2):=h;let nd:=QX.nd;let r1:=hr.mono (show 1<=4 by decide);let r2:=hr.mono (show 2<=4 by decide);exact⟨_,ao (sT 1 nd (mq m.d58 (LQ m N) r1 (cU (pv 0))))
  (ao (dG (df Br (pv 1) (lM (aS (cS m.Ux) (aS (cS m.UO) (cU (cS m.UB))))) (by with_unfolding_all rfl)) (bN (qF N.exc N.mN hr.hd wK)) bS)
  (ao (sT 2 nd (mq m.d59 (JN m N) r2 (cU (pv 0))))
  (ao (dG (df lD (pv 1) (cS m.Ux) (dS _)) (ao (sT 3 nd (mq m.d59 (JN m N) r2 (cU (pv 0))))
   (rt (u4 m r2 (aS (pv 1) (aS (pv 2) (aS (pv 3) (cU (mq m.d61 (QV m N) hr (aS (pv 0) (cU (nh (EQ hr.hd) (by rfl) m.Vq boot_list (cU (Hf (by rfl) m.Vp (cU (cS m.UN))))))))))))))) bS)
  (ao (dG (df lD (pv 1) (cS m.UO) (dS _)) (rt (u4 m r2 (aS (pv 1) (aS (pv 2) (aS be (cU (mq m.d61 (QV m N) hr (aS (pv 0) (cU (mq m.d62 (Tg m N) r2 (cU (pv 0)))))))))))) bS)
  (rt (u4 m r2 (aS (pv 1) (aS (pv 2) (aS be (cU jH)))))))))),?_⟩
 exact WL _ rfl (WO a dx rw bs O rfl p (λhn H' I=>k1 ?_ H' I) λb j e1 l1 l2 H1 v bk g1 J=>?_)
 ·cases hd:bs.drop O with
  |nil=>rfl
  |cons b r=>rw[hd] at hn;cases hn
 subst J;let(c1,c2):=oH e1 p.le;obtain rfl:j=O+1:=tw c2 l2 ⋯;let hb:bs.drop O=b::bs.drop (O+1):=by
  rw[nw c1] at e1⊢;cases e1;rfl
 let f:=JP b (bs.drop (O+1));rw[<-hb] at f;exact WU _ rfl (by show 3<=aI;decide) λT fT=>?_;let s2:=aU.new (o:=.tup [.int 1,.int 2,.int 3]) fT;obtain⟨H2,av⟩:∃H2,H2=bD H1 T (.tup [.int 1,.int 2,.int 3]):=⟨_,rfl⟩;let gT:H2 T=aa (.tup [.int 1,.int 2,.int 3]):=by rw[av];exact ak
 rw[<-av] at s2⊢;let L:Kp (kW a) H H2:=bk.trans (Kp.of s2);let g2:=s2 _ _ g1;exact WN T _ rfl (.inr (o4.of gT)) rfl ⟨rfl,WL _ rfl ?_⟩;let ei:K9 (.int (b:Int)) [.int 1,.int 2,.int 3]=decide (b=1\/b=2\/b=3):=by
  show(decide ((1:Int)=b)||(decide ((2:Int)=b)||(decide ((3:Int)=b)||false)))=_
  rw[qV];by_cases h1:b=1
  ·subst h1;rfl
  ·by_cases h2:b=2
   ·subst h2;rfl
   ·by_cases h3:b=3
    ·subst h3;rfl
    ·rw[decide_eq_false ⋯,decide_eq_false ⋯,decide_eq_false ⋯,decide_eq_false ⋯];rfl
 rw[show(if ae=ae then !K9 (.int (b:Int)) [.int 1,.int 2,.int 3] else K9 (.int (b:Int)) [.int 1,.int 2,.int 3])= !K9 (.int (b:Int)) [.int 1,.int 2,.int 3] from rfl,ei]
 exact vX (λq=>?_) λq=>?_
 ·exact k1 (by rw[f,iQ (λz=>q (.inl z)),iQ (λz=>q (.inr (.inl z))),iQ (λz=>q (.inr (.inr z)))]) H2 L
 let bm:=p.put L g2 l2;exact WL _ rfl (WO a dx rw bs (O+1) rfl bm (λhn H' I=>k1 ?_ H' (L.trans I)) λn j3 e3 l3 l4 H3 v u g3 J=>?_)
 ·rw[f,hn];rcases q with h|h|h<;>subst h<;>rfl
 subst J;rw[e3] at f;let u:=L.trans u;let ax:=p.put u g3 l4;let a3:∀(g:aT) (B:Nat) (M:Hp) (d:Addr),gB (bs.drop O)=aa (g,bs.drop B)->KC g->j3<=B->B<=bs.length->Kp (kW a) H M->M a=aa (.ins (m.cl 55) dx (sf (.ref rw) (.int (B:Nat))))->M d=aa (.dK (rm (mI g) (mV g)))->
   ∀x y,M x=ac->M y=ac->y≠x->wZ (m.cl 56) [.ref x,.int (mW g:Nat),.int (bM g:Nat),.int (mK g:Nat),.ref d] (bD (bD M y (.own x)) x (.ins (m.cl 56) y [])) (λv H2=>v=.non/\Q (.ref x) H2) E0:=λg B M d D og l5 l6 e g4 gd x y fx fd _=>by
  exact WF x y _ _ _ _ ⟨rfl,ak,rfl,?_⟩;let Y:=jI (C:=m.cl 56) (o:=.ins (m.cl 56) y (gf (.int (mW g:Nat)) (.int (bM g:Nat)) (.int (mK g:Nat)) (.ref d))) fx fd;exact k2 g B D ⋯ l6 _ _ (e.trans (Kp.of Y)) (Y _ _ g4) ⟨x,rfl,e.free p.ob fx ⟨_,g4⟩,(WB y d ⟨ak,Y _ _ gd⟩),og⟩
 exact WU _ rfl rfl (WL _ rfl (fO (λc=>?_) λc=>?_))
 ·
  let c:b=1:=by have:=V.int.inj c;omega
  subst c;exact WL _ rfl (WO a dx rw bs j3 rfl ax (λhn H' I=>k1 ?_ H' (u.trans I)) λkd B D l5 l6 M v e g4 J=>?_)
  ·rw[f];dsimp only;rw[hn];rfl
  subst J;rw[jN rfl] at f;dsimp only at f;rw[D] at f;let e:=u.trans e;exact WL _ rfl (WL _ rfl (WL _ rfl (WL _ rfl (WL _ rfl λq5 f5=>?_))));let Y:=aU.new (o:=.rng 0 8) f5;exact WN q5 8 rfl ak (by decide) λq6 f6=>?_;let s6:=Y.t (o:=.lst ((bH 8).map λ(i:Nat)=>V.int i)) f6;let a4:=e.trans (Kp.of s6);exact WG a dx rw q6 bs B (bH 8) ⟨rfl,p.put a4 (s6 _ _ g4) l6,ak,rP,(by decide),λhn H' I=>k1 ?_ H' (a4.trans I),λl j7 e7 l7 l8 H7 v ab g7 J=>?_⟩
  ·rw[f];show(bX 8 (bs.drop B)).map _=ac;rw[show bX 8 (bs.drop B)=ac from hn];rfl
  ·let(d,rfl,fd,gd):=J;let e7:bX 8 (bs.drop B)=aa (l,bs.drop j7):=e7;exact a3 (.enter n kd l) j7 H7 d ?_ ⟨?_,?_,rP⟩ ⋯ l8 (a4.trans ab) g7 gd
   ·rw[f];show(bX 8 (bs.drop B)).map _=_;rw[e7];rfl
   ·rw[show(mV (.enter n kd l))=l from rfl,(mw e7).1];rfl
   ·exact λi hi=>fM.mp hi
 ·let c:b≠1:=λz=>c (by rw[z];rfl)
  rw[iQ c] at f;exact WU _ rfl rfl (WL _ rfl (fO (λc'=>?_) λc'=>?_))
  ·
   let c':b=2:=by have:=V.int.inj c';omega
   subst c';rw[jN rfl] at f;dsimp only at f;exact WL _ rfl (WL _ rfl (WL _ rfl (WL _ rfl (WO a dx rw bs j3 rfl ax (λhn H' I=>k1 ?_ H' (u.trans I)) λc6 B D l5 l6 M v e g4 J=>?_))))
   ·rw[f]
    cases hd:bs.drop j3 with
    |nil=>rfl
    |cons x r=>
     rw[hd] at hn;let hn:(if x=0 then ac else aa (gj x,r))=ac:=hn
     dsimp only;by_cases z:x=0
     ·rw[jN (.inl z)]
     ·rw[iQ z] at hn;cases hn
   ·let(q6,rfl,f6,g6):=J
    cases hd:bs.drop j3 with
    |nil=>rw[hd] at D;cases D
    |cons x r=>
     rw[hd] at D f;let D:(if x=0 then ac else aa (gj x,r))=aa (c6,bs.drop B):=D
     by_cases z:x=0
     ·rw[jN z] at D;cases D
     ·rw[iQ z] at D;let(rfl,er):=DW (a6 D);let hx:x<256:=p.lt x (uI (by rw[hd];exact aD ..));dsimp only at f;rw[iQ ⋯,er] at f;let(b1,b2,b3):=Gb x;let e:=u.trans e;exact WG a dx rw q6 bs B (gj x) ⟨rfl,p.put e g4 l6,g6,b1,b3,λhn H' I=>k1 ?_ H' (e.trans I),λl j7 e7 l7 l8 H7 v ab g7 J=>?_⟩
      ·rw[f,hn];rfl
      ·let(d,rfl,fd,gd):=J;exact a3 (.change n (gj x) l) j7 H7 d ?_ ⟨?_,b2,b1⟩ ⋯ l8 (e.trans ab) g7 gd
       ·rw[f,e7];rfl
       ·exact(mw e7).1.symm
  ·
   let c':b≠2:=λz=>c' (by rw[z];rfl)
   let c3:b=3:=⋯
   subst c3;rw[iQ c',jN rfl] at f;exact(_,rfl,WL _ rfl λd fd=>?_);let Y:=aU.new (o:=.dK []) fd;exact a3 (.leave n) j3 _ d f ⟨rfl,(λi hi=>by cases hi),jS⟩ (aH _) l4 (u.trans (Kp.of Y)) (Y _ _ g3) ak
end
def nY {l:List Nat}{g:aT}(h:gB l=aa (g,r)):∃j,2<=j/\j<=l.length/\r=l.drop j:=by
 cases l with
 |nil=>cases h
 |cons b l=>
  rw[JP] at h;split at h
  ·cases a:bK l with
   |none=>rw[a] at h;cases h
   |some x=>
    let(n,o):=x;rw[a] at h;dsimp only at h;let(d,u,w,f):=iw a
    cases p:bK o with
    |none=>rw[p] at h;cases h
    |some y=>
     let(k,i):=y;rw[p] at h;dsimp only at h;let(A,I,B,C):=iw p
     cases e:bX 8 i with
     |none=>rw[e] at h;cases h
     |some z=>
      let(v,D):=z;rw[e] at h;cases h;let(_,q,c1,s):=mw e;subst f C s;rw[bC] at B;rw[iF,bC] at c1;exact(1+(d+A+q),⋯,by rw[aK];omega,?_);rw[yf 1,vt,<-iF,<-iF]
  ·split at h
   ·cases a:bK l with
    |none=>rw[a] at h;cases h
    |some x=>
     let(n,o):=x;rw[a] at h;dsimp only at h;let(d,u,w,f):=iw a
     cases o with
     |nil=>cases h
     |cons c i=>
      dsimp only at h;split at h
      ·cases h
      ·cases e:bX (gj c).length i with
       |none=>rw[e] at h;cases h
       |some z=>
        let(v,D):=z;rw[e] at h;cases h;let(_,q,c1,s):=mw e;let E:i=l.drop (d+1):=by rw[<-iF,<-f];rfl
        let H:(c::i).length=l.length-d:=by rw[f,bC]
        rw[aK] at H;exact(1+(d+1+q),⋯,by rw[aK];omega,?_);rw[s,E,iF,yf 1,vt]
   ·split at h
    ·cases a:bK l with
     |none=>rw[a] at h;cases h
     |some x=>
      let(n,o):=x;rw[a] at h;cases h;let(d,u,w,f):=iw a;exact(1+d,⋯,by rw[aK];omega,?_);rw[f,yf 1,vt]
    ·cases h
theorem qH:∀{n:Nat} {l:List Nat} {ms:List aT} {r:List Nat},bz n l=aa (ms,r)->n<=l.length
 |0,_,_,_,_=>aR _
 |n+1,l,ms,r,h=>by
  unfold bz at h
  cases a:gB l with
  |none=>rw[a] at h;cases h
  |some x=>
   let(g,c):=x;rw[a] at h;dsimp only at h
   cases b:bz n c with
   |none=>rw[b] at h;cases h
   |some y=>
    let(j,e,f,d):=nY a;have:=qH b;rw[d,bC] at this;omega
theorem nF (l:List Nat):iH l=match bK l with
 |none=>ac
 |some (t,r)=>match bK r with
  |none=>ac
  |some (n,r)=>match bz n r with
   |some (a,[])=>aa (t,a)
   |_=>ac:=by
 unfold iH
 cases b:bK l with
 |none=>rfl
 |some x=>
  let(t,r):=x;dsimp only;let(o,p,q,d):=iw b
  cases e:bK r with
  |none=>rfl
  |some y=>
   let(n,f):=y;dsimp only;let(s,u,v,i):=iw e;by_cases c:l.length<n
   ·rw[jN c]
    cases j:bz n f with
    |none=>rfl
    |some z=>
     have:=qH j;rw[i,d,bC,bC] at this;omega
   ·rw[iQ c];rfl
section
variable {P:aO} {w:World} {K:am} {mg:Str->Option ag} {base:Heap} (m:Mo K mg)
def zi (m:Mo K mg)(H:Hp)(xs:List Addr)(a:List aT):Prop:=a9 (λx g=>BM m H x g/\KC g) xs a
def BM.same {m:Mo K mg}{x:Addr}{g:aT}(h:BM m H x g)(s:aU H H'):BM m H' x g:=let ⟨dx,d,a,b⟩:=h;⟨dx,d,s _ _ a,s _ _ b⟩
theorem zi.same {m:Mo K mg}{xs:List Addr}{a:List aT}(h:zi m H xs a)(s:aU H H'):zi m H' xs a:=a9.mapP h λ_ _ q=>⟨q.1.same s,q.2⟩
theorem qo {α β:Type}{F:α->β->Prop}:∀{l₁:List α} {l₂:List β} {x:α} {y:β},a9 F l₁ l₂->F x y->a9 F (l₁++[x]) (l₂++[y])
 |_,_,_,_,.nil,h=>.cons h .nil
 |_,_,_,_,.cons a b,h=>.cons a (qo b h)
theorem a9.mapMem {α β:Type}{F G:α->β->Prop}:∀{l₁:List α} {l₂:List β},a9 F l₁ l₂->(∀a∈l₁,∀b,F a b->G a b)->a9 G l₁ l₂
 |_,_,.nil,_=>.nil
 |_,_,.cons a b,h=>.cons (h _ (aD ..) _ a) (a9.mapMem b λx c=>h x (au _ c))
def Tp (m:Mo K mg)(H:Hp)(x:Addr)(t:Nat)(b:List aT):Prop:=∃dx l a,H x=aa (.ins (m.cl 57) dx (OF (.int t) (.ref l)))/\H l=aa (.lst (a.map V.ref))/\zi m H a b
def OI (m:Mo K mg):Sp:=λvs H Q E=>∃(b:Addr) (bs:List Nat),vs=[.ref b]/\H b=aa (.lst (nb bs))/\(∀x∈bs,x<256)/\bs.length<=5000/\(iH bs=ac->∀H',aU H H'->E (.ref m.cN) ac H')/\
 ∀t a,iH bs=aa (t,a)->∀H' x,aU H H'->H x=ac->Tp m H' x t a->Q (.ref x) H'
def QY:bo ["row","source","tick","how_many","messages"] ["row"] (aP (ig 64)):=jY
def Kp.same_one {c:Hp}(s:aU c H)(k:Kp (kW a) H H')(f:c a=ac):aU c H':=λb o e=>k b o (aL e f) (s b o e)
include m in
def Tq (mx:Mx m):du P w K mg base (Hl P w m.cN) 6 (m.fn 64) (m.fd 64) ["row"] (OI m):=by
 exact m.d64.F.okX QY (λvs H Q E h=>?_) (λco A bl s H vs Q E hr h=>?_)
 ·let(b,bs,rfl,_):=h;rfl
 let(b,bs,rfl,hb,bu,bx,z,B):=h;let nd:=QY.nd;let r2:=hr.mono (show 2<=5 by decide);rw[nF] at z;let B:=λt f (h:_=aa (t,f))=>B t f ((nF bs).trans h)
 exact⟨_,ao (sT 1 nd (Hs m r2 (cU (pv 0))))
  (ao (sT 2 nd (mq m.d59 (JN m mx) r2 (cU (pv 1))))
  (ao (sT 3 nd (mq m.d59 (JN m mx) r2 (cU (pv 1))))
  (ao (sT 4 nd (cr ng))
  (ao (sK vg (df rF (cJ eN (by rfl) m.Uk cM (cU (pv 4))) (pv 3) (dS _))
   (bN (gL (wT (pv 4) (mq m.d63 (To m mx) hr (cU (pv 1)))))))
  (ao (dG (df rF (fl (pv 1)) (cJ eN (by rfl) m.Uk cM (cU (pv 0))) (dS _)) (bN (qF mx.exc mx.mN hr.hd wK)) bS)
  (rt (Ht m r2 (aS (pv 2) (cU (pv 4)))))))))),?_⟩
 exact WL _ rfl λa dx fa fd _=>(WT a dx _ rfl ak rfl ?_);obtain⟨D,T⟩:∃D,D=bD (bD (bD H dx (.own a)) a (.ins (m.cl 55) dx [])) a (.ins (m.cl 55) dx (sf (.ref b) (.int 0))):=⟨_,rfl⟩;let s1:aU H D:=by rw[T];exact jI fa fd
 let g1:D a=aa (.ins (m.cl 55) dx (sf (.ref b) (.int (0:Nat)))):=by rw[T];exact ak
 rw[<-T];let Y:M6 m D a dx b bs 0:=⟨g1,s1 _ _ hb,bu,bx,aR _⟩;let sm:∀{H'},Kp (kW a) D H'->aU H H':=λk=>Kp.same_one s1 k fa
 exact WL _ rfl (WO a dx b bs 0 rfl Y (λhn H' kp=>z ?_ H' (sm kp)) λt j e2 l1 l2 H2 v a4 g2 ev=>?_)
 ·rw[show bs.drop 0=bs from rfl] at hn;rw[hn]
 subst ev;rw[show bs.drop 0=bs from rfl] at e2;rw[e2] at z B;dsimp only at z B;exact WL _ rfl (WO a dx b bs j rfl (Y.put a4 g2 l2) (λhn H' kp=>z ?_ H' (sm (a4.trans kp))) λn I e3 l3 l4 H3 v J g3 ev=>?_)
 ·rw[hn]
 subst ev;rw[e3] at z B;dsimp only at z B;let J:=a4.trans J;exact(aR _,λl fm=>?_);let a5:l≠a:=(aL g3 fm).symm;let s4:=aU.new (o:=.lst []) fm;exact⟨λq σ H'=>∃(u:List Addr) (f:List aT) (i:Nat),q=bs.length-i/\σ=[aa (.ref b),aa (.ref a),aa (.int t),aa (.int n),aa (.ref l)]/\Kp (kW a) D H'/\H' a=aa (.ins (m.cl 55) dx (sf (.ref b) (.int i)))/\H' l=aa (.lst (u.map V.ref))/\(∀x∈u,x≠a/\x≠l)/\zi m H' u f/\f.length<=n/\f.length+I<=i/\i<=bs.length/\
   bz n (bs.drop I)=(bz (n-f.length) (bs.drop i)).map λx=>(f++x.1,x.2),
  (WK _ [] [] I rfl rfl (J.trans (Kp.of s4)) (s4 _ _ g3) ak ⟨(λ_ h=>by cases h),.nil,aR _,by simp,l4,?_⟩),?_⟩
 ·show _=(bz n (bs.drop I)).map λx=>([]++x.1,x.2)
  cases bz n (bs.drop I)<;>rfl
 intro q σ H5 x';let(u,f,i,rfl,rfl,p,g5,gm,ab,al,ln,li,lb,L):=x';let a':u.length=f.length:=cB al;exact WL _ rfl (WJ l _ rfl (.inl (dL.of gm)) (WL _ rfl (WJ _ _ rfl rfl (WL _ rfl ?_))));rw[aj,a'];exact fO (λc=>?_) λc=>?_
 ·let c:f.length<n:=⋯
  let e1:n-f.length=(n-(f.length+1))+1:=⋯
  rw[e1] at L;let es:bz (n-(f.length+1)+1) (bs.drop i)=(match gB (bs.drop i) with
   |none=>ac
   |some (g,r)=>(bz (n-(f.length+1)) r).map λx=>(g::x.1,x.2)):=rfl
  rw[es] at L;exact⟨λσ H'=>∃(u:List Addr) (f:List aT) (N:Nat),i<N/\σ=[aa (.ref b),aa (.ref a),aa (.int t),aa (.int n),aa (.ref l)]/\Kp (kW a) D H'/\H' a=aa (.ins (m.cl 55) dx (sf (.ref b) (.int N)))/\H' l=aa (.lst (u.map V.ref))/\(∀x∈u,x≠a/\x≠l)/\zi m H' u f/\f.length<=n/\f.length+I<=N/\N<=bs.length/\
    bz n (bs.drop I)=(bz (n-f.length) (bs.drop N)).map λx=>(f++x.1,x.2),λσ' H' x'=>V3 x' λu f N x'=>X7 x' λp1 p2 p3 p4 p5 p6 p7 x'=>X3 x' λp8 p9 b' c3=>(WL (bs.length-N) ⋯ (WQ u f N rfl p2 p3 p4 ⟨p5,p6,p7,p8,p9,b',c3⟩)),?_⟩
  exact WU _ rfl (.inl ⟨rfl,_,dL.of gm⟩) (WL _ rfl (WO a dx b bs i rfl (Y.put p g5 lb) (λhn H' kp=>z ?_ H' (sm (p.trans kp))) λg j6 e6 l6 l7 H6 v M g6 ev=>?_))
  ·rw[L,hn];rfl
  let(x,rfl,fx,hg,og):=ev;let b3:x≠l:=(aL gm fx).symm;let c4:x≠a:=(aL g5 fx).symm;let b5:=M _ _ a5 gm;exact WQ l _ _ rfl rfl b5 ?_ ?_
  ·rw[aj,a'];exact xA ⋯
  ·let(jj,a1,a2,a3):=nY e6;rw[iF] at a3;rw[bC] at a2;let da:=tw a3 l7 ⋯;let O:∀{y:Addr} {g':aT},BM m H6 y g'->y≠l->BM m (bD H6 l (.lst (u.map V.ref++[.ref x]))) y g':=λ{y g'} h hy=>by
    let(dy,d,h1,h2):=h;exact(dy,d,by rw[aF hy];exact h1,?_);rw[aF (λe=>by rw[e,b5] at h2;cases h2)];exact h2
   exact WQ (u++[x]) (f++[g]) j6 ⋯ rfl ?_ ?_ ⟨?_,?_,?_,?_,?_,l7,?_⟩
   ·exact(p.trans M).new (by
     cases h:D l with
     |none=>rfl
     |some o=>rw[J _ _ a5 h] at fm;cases fm)
   ·rw[aF a5.symm];exact g6
   ·rw[ak,bU];rfl
   ·intro y hy;rcases cF.mp hy with h|h
    ·exact ab y h
    ·rw[dP] at h;subst h;exact(c4,b3)
   ·exact qo ?_ ⟨O hg b3,og⟩;exact a9.mapMem al λy hy g' ⟨⟨dy,d,h1,h2⟩,o⟩=>⟨O ⟨dy,d,M _ _ (ab y hy).1 h1,M _ _ (λe=>?_) h2⟩ (ab y hy).2,o⟩
    rw[show d=a from e,g5] at h2;cases h2
   ·rw[aQ];exact c
   ·rw[aQ];show f.length+1+I<=j6;omega
   ·rw[L,e6,aQ];show(pB _ (bz (n-(f.length+1)) (bs.drop j6))).map _=(bz (n-(f.length+1)) (bs.drop j6)).map _
    cases bz (n-(f.length+1)) (bs.drop j6) with
    |none=>rfl
    |some q=>
     show aa (f++(g::q.1),q.2)=aa (f++[g]++q.1,q.2);rw[g0];rfl
 ·let c:f.length=n:=⋯
  rw[c,tS] at L;let L:bz n (bs.drop I)=aa (f++[],bs.drop i):=L;rw[dM] at L;rw[L] at z B;exact WL _ rfl (WH a _ dx _ _ rfl g5 m.k55.cl m.UC rfl (WL _ rfl (WJ b _ rfl (.inl (dL.of (sm p _ _ hb))) (WJ _ _ rfl rfl (WL _ rfl ?_)))));rw[aj];exact fO (λc2=>?_) λc2=>?_
  ·exact z ?_ H5 (sm p);rw[nw ⋯]
  ·have:bs.drop i=[]:=ki ⋯;rw[this] at B;exact WL _ rfl (WL _ rfl λx ap fx c7 _=>(WP x ap _ _ rfl ak rfl ?_));let s7:=jI (C:=m.cl 57) (o:=.ins (m.cl 57) ap (OF (.int t) (.ref l))) fx c7;exact B t f rfl _ x ((sm p).trans s7) ((sm p).free fx) (WS ap l u ak (s7 _ _ gm) (al.same s7))
end
section
variable {X:Cx} {o i e:Expr} {f:Str} {pos:Pos} {ta td ti:TE}
def Gc (K:am)(a:PE X e ta)(b:X.K=K:=by rfl)(c:fY e f X.env (eval e X.env)=eval e X.env:=by rfl):PE X (.Attribute e f pos) (EA K ta f):=by
 rw[<-b];exact nX a c
def JR (K:am)(a:PE X o td)(b:PE X i ti)(c:X.K=K:=by rfl)(d:FG i:=by exact λ_ _=>rfl):PE X (.Subscript o i pos) (KY (NT K) td ti):=by
 rw[<-c];exact ot rb a b d
def M8 (K:am)(n:Nat){es:List Expr}{k:Nat}{t:MG}(h:Pu X es t)(b:X.K=K:=by rfl)(hc:X.calm=ae:=by rfl)(hn:(pk es X.env).length=n:=by rfl)(a:(pk es X.env).findIdx? (·.1)=ac:=by rfl):PG X (.Tuple es k pos) (Py K n t):=by
 rw[<-b];exact Bi hc h hn a
def DC {j:Nat}{x:Str}(hN:X.N.Nodup:=by assumption)(a:X.N[j]?=aa x:=by rfl)(b:ME X.env.scope x:=by first|exact eu rfl|exact xO rfl)(c:X.fn x=ae\/X.env.scope.names.lookup x=aa .local:=by first|exact .inl rfl|exact .inr rfl):PG X (.Name x pos) (CA j):=fC hN a b c
end
section
variable {P:aO} {w:World} {K:am} {mg:Str->Option ag} {base:Heap} (m:Mo K mg)
structure OJ (m:Mo K mg)(R:Rg)(H:Hp)(d:Addr)(l:List bv):Prop where
 ex:∃kvs,H d=aa (.dK kvs)/\fZ (m.cl 11) R H kvs (fD l)
 ris:Sp.xU l
 v8:∀t∈l,t.vals.length=8
def OK (m:Mo K mg):Sp:=λvs H Q _=>∃(d x:Addr) (R:Rg) (l:List bv) (g:aT),vs=[.ref d,.ref x]/\OJ m R H d l/\BM m H x g/\KC g/\∀H',aU H H'->Q (.bl (nU l g)) H'
def QZ:bo ["things","message","old","i","value"] ["things","message"] (aP (ig 67)):=jY
def rn (l:List bv)(n:Nat):fD l (n:Int)=(bA l n).map λt=>(t.kind,t.vals):=by
 unfold fD;rw[jN ⋯,show((n:Nat):Int).toNat=n by omega]
def aU.lock {d:Addr}{o:Obj}{u:HO}(h:H d=aa u)(s:aU (bD H d (.frz o u)) H'):aU H (bD H' d u):=λb v e=>by
 by_cases q:b=d
 ·subst q;rw[ak,<-h,e]
 ·rw[aF q];exact s b v (by rw[aF q];exact e)
def EX (l:List bv)(g:aT)(h:mW g=1):nU l g=(bA l (bM g)).isNone:=by
 cases g with
 |enter n k v=>rfl
 |change n d v=>cases h
 |leave n=>cases h
theorem EY (l:List bv)(g:aT)(h:mW g≠1):nU l g=(match bA l (bM g) with
  |none=>af
  |some t=>((mI g).zip (mV g)).all λx=>t.vals.getD x.1 0 !=x.2):=by
 cases g with
 |enter n k v=>exact aB rfl h
 |change n d v=>rfl
 |leave n=>
  show(bA l n).isSome=(match bA l n with|none=>af|some t=>ae)
  cases bA l n<;>rfl
include m in
def Tr:du P w K mg base jw 1 (m.fn 67) (m.fd 67) ["things","message"] (OK m):=by
 exact m.d67.F.ok QZ (λvs H Q E h=>?_) (λap A Y s H vs Q E hr h=>?_)
 ·let(_,_,_,_,_,rfl,_):=h;rfl
 let(d,x,R,l,g,rfl,((kvs,hd,I),hl,h8),(dx,u,J,f),L,k):=h;let nd:=QZ.nd;let hu:=jx hr;exact⟨_,ao (nW (i:=2) nd rfl (by first|exact eu rfl|exact xO rfl) (nP hu (pv 0) (fl (pv 1)) ⟨rfl,rfl,rfl,rfl⟩))
  (ao (dG (df lD (fl (pv 1)) (cS m.Ux) (dS _)) (rt (NG (m9 (pv 2)))) bS)
  (ao (dG (iu (m9 (pv 2))) (rt Ix) bS)
  (rt (cJ (Bt rfl) (by rfl) m.UP Mr (cU (FN (vQ (own:=[("i",3),("value",4)]) rfl nd (C0 (fl (pv 1))) (mo (by show yU ["things","message","old","i","value"] (aP (ig 67)) _ _=ae;decide +kernel)) (λ_ _ _ _ _=>M8 K 2 (lC (DC (j:=3)) (lC (DC (j:=4)) vJ)))
   (λ_ _ _ _ _=>t7) (λ_ _ _ _ _=>vL yR (pv 4) (JR K (Gc K (pv 2)) (pv 3)) (dS _))))))))),?_⟩
 exact(_,rfl,d,rfl,.inl ⟨_,.inl hd⟩,WL _ rfl (WH x _ dx _ _ rfl J m.k56.cl m.UZ rfl (WL _ (gD.k (k:=aA ((bM g:Nat):Int)) hd) ?_)));let q:=rn l (bM g);exact WL _ rfl (WM x _ dx _ _ rfl J m.k56.cl m.UL rfl rfl (WL _ rfl (fO (λc=>?_) λc=>?_)))
 ·let c:mW g=1:=by have:=V.int.inj c;omega
  rw[EX l g c] at k;exact WL _ rfl ?_
  cases C:bA l (bM g) with
  |none=>
   rw[C] at q k;rw[I.none_ q];exact k H (aU.refl H)
  |some t=>
   rw[C] at q k;let(a,ea,_):=I.some_ q;rw[ea];exact k H (aU.refl H)
 ·let c:mW g≠1:=λz=>c (by rw[z];rfl)
  rw[EY l g c] at k;exact WL _ rfl (WL _ rfl ?_)
  cases C:bA l (bM g) with
  |none=>
   rw[C] at q k;rw[I.none_ q];exact jD (k H (aU.refl H))
  |some t=>
   rw[C] at q k;dsimp only at k;let(a,ea,dt,M,_,_,h1,h2):=I.some_ q;rw[ea];let tl:=h8 t (Sp.Nw C);exact i7 (WJ u _ f dR λN=>?_);obtain⟨r,b⟩:∃r,r=bD H u (.frz N (.dK (rm (mI g) (mV g)))):=⟨_,rfl⟩;let n1:x≠u:=jf J f (by intro z;cases z);let n2:a≠u:=jf h1 f (by intro z;cases z);let n3:M≠u:=jf h2 f (by intro z;cases z);let a1:=(show r x=H x by rw[b,aF n1]).trans J;let a2:=(show r a=H a by rw[b,aF n2]).trans h1;let a3:=(show r M=H M by rw[b,aF n3]).trans h2;let p:r u=aa (.frz N (.dK (rm (mI g) (mV g)))):=by rw[b];exact ak
   rw[<-b];exact WL _ rfl (WH x _ dx _ _ rfl a1 m.k56.cl m.UM rfl (WS u N _ rfl p λD fD=>?_));exact Jo (λi H'=>aU r H'/\H' D=aa (.lst (((((mI g).zip (mV g)).take i).map λy=>t.vals.getD y.1 0 !=y.2).map V.bl))) ⟨aU.new fD,ak⟩ (λi H' ⟨s,_⟩=>s _ _ p) ?_ ?_
   ·intro i k' v T H' B x' fT;let(s,e):=x';rw[show rm (mI g) (mV g)=((mI g).zip (mV g)).map λx=>(aA (x.1:Int),V.int x.2) from rfl,bZ] at B
    cases O:((mI g).zip (mV g))[i]? with
    |none=>rw[O] at B;cases B
    |some y=>
     rw[O] at B;let(rfl,rfl):=DW (a6 B);let ym:=bj O;let y8:y.1<8:=L.lt _ (ky ym).1;let s2:aU r (bD H' T (.tup [kV (aA (y.1:Int)),.int y.2])):=s.t fT;exact WN T _ rfl (o4.of ak) rfl (WB _ _ ⟨rfl,WN _ _ rfl rfl rfl ?_⟩);let eT:D≠T:=aL e fT;exact(_,rfl,WL _ rfl (WH a _ dt _ _ rfl (s2 _ _ a2) m.k11.cl m.Ul (gN _ _) ⟨_,rfl,WK M _ _ _ rfl rfl (dL.of (s2 _ _ a3)) (zd (i:=y.1) (by show y.1<t.vals.length;omega)) rfl ⟨_,aU.new fT _ _ e,?_,(s.t fT).old fD,?_⟩⟩))
     ·rw[aj,aj,cO,zD];exact dI (by have:=L.len;have:(mI g).length<=1000:=bq (jB (l₂:=bH 8) L.nd λi B=>fM.mpr (L.lt i B)) (by decide);omega)
     ·rw[ak,eB O,bU,bU];show aa (HO.lst (_++[V.bl (!decide (V.int y.2=V.int (t.vals.getD y.1 0)))]))=aa (HO.lst (_++[V.bl (t.vals.getD y.1 0 !=y.2)]));congr 4;rw[Bl];show V.bl (!(y.2==t.vals.getD y.1 0))=V.bl (!(t.vals.getD y.1 0==y.2));rw[show(y.2==t.vals.getD y.1 0)=(t.vals.getD y.1 0==y.2) from Bool.beq_comm]
   ·intro H' x';let(s,e):=x';rw[show(rm (mI g) (mV g)).length=((mI g).zip (mV g)).length from aj _,cg] at e;exact(s _ _ p,WJ D (((mI g).zip (mV g)).map λy=>t.vals.getD y.1 0 !=y.2) rfl (dL.of ?_) ?_)
    ·rw[aF (aL p fD).symm];exact e
    ·rw[D8];exact k _ (aU.lock (o:=N) f ?_);rw[<-b];exact s
end
def Hu (d:Nat)(ds:List Nat)(v:Int)(vs:List Int):rm (d::ds) (v::vs)=(aA (d:Int),V.int v)::rm ds vs:=rfl
def Hv {ds:List Nat}(h:i∉ds):eE (rm ds vs) (aA (i:Int))=ac:=by
 rw[oQ];intro q;let(j,a,e):=AG _ _ q;have:i=j:=by have:=fF e;omega
 exact h (this▸a)
theorem DD:∀{ds:List Nat} {vs l:List Int} {i:Nat},ds.Nodup->ds.length=vs.length->i<l.length->(eE (rm ds vs) (aA (i:Int))).getD (.int (l.getD i 0))=.int (((ds.zip vs).foldl (λr x=>r.set x.1 x.2) l).getD i 0)
 |[],[],l,i,_,_,_=>rfl
 |d::ds,v::vs,l,i,hn,b,a=>by
  let(e,f):=bR.mp hn;let j:=DD (ds:=ds) (vs:=vs) (l:=l.set d v) (i:=i) f (by simpa using b) (by simpa using a)
  show _=V.int (((ds.zip vs).foldl (λr x=>r.set x.1 x.2) (l.set d v)).getD i 0);rw[<-j,Hu];by_cases c:d=i
  ·subst c;rw[ie rfl,Hv e,Sp.zG a];rfl
  ·rw[gM (by intro q;exact c (by have:=fF q;omega)),Sp.Ce c]
def oI (l:List bv)(n:Nat)(d:List Nat)(v:List Int):dz l (.change n d v)=match bA l n with
  |none=>l
  |some t=>jM {t with vals:=(d.zip v).foldl (λr x=>r.set x.1 x.2) t.vals} l:=rfl
def DE (l:List bv)(n:Nat)(d:List Nat)(v:List Int):nU l (.change n d v)=match bA l n with
  |none=>af
  |some t=>(d.zip v).all λx=>t.vals.getD x.1 0 !=x.2:=rfl
def wg {g:aT}(h:∀t∈l,t.vals.length=8)(c:KC g):∀t∈dz l g,t.vals.length=8:=by
 cases g with
 |enter n k v=>
  intro t a;rcases Sp.xk a with e|e
  ·rw[e];show v.length=8;rw[show v.length=(bH 8).length from c.len.symm];rfl
  ·exact h t e
 |change n d v=>
  intro t a;rw[oI] at a
  cases b:bA l n with
  |none=>rw[b] at a;exact h t a
  |some u=>
   rw[b] at a;rcases Sp.xk a with e|e
   ·rw[e];show((d.zip v).foldl (λr x=>r.set x.1 x.2) u.vals).length=8;rw[Sp.vy];exact h u (Sp.Nw b)
   ·exact h t e
 |leave n=>exact λt a=>h t (cW.mp a).1
def JS (b:Sp.xU l)(t:bv)(n:Int):(if n=(t.id:Int) then aa (t.kind,t.vals) else fD l n)=fD (jM t l) n:=by
 unfold fD;by_cases a:0<=n
 ·rw[jN a,jN a,Sp.oX b];by_cases h:n=(t.id:Int)
  ·rw[jN h,jN ⋯];rfl
  ·rw[iQ h,iQ ⋯]
 ·rw[iQ a,iQ a,iQ ⋯]
def LR (k:Nat)(n:Int):(if n=(k:Int) then ac else fD l n)=fD (l.filter λt=>t.id !=k) n:=by
 unfold fD;by_cases a:0<=n
 ·rw[jN a,jN a,Sp.pM];by_cases h:n=(k:Int)
  ·rw[jN h,jN ⋯];rfl
  ·rw[iQ h,iQ ⋯]
 ·rw[iQ a,iQ a,iQ ⋯]
section
variable {P:aO} {w:World} {K:am} {mg:Str->Option ag} {base:Heap} (m:Mo K mg)
def OL (m:Mo K mg):Sp:=λvs H Q _=>∃(d x:Addr) (R:Rg) (l:List bv) (g:aT),vs=[.ref d,.ref x]/\R d/\(∀b,R b->∃o,H b=aa o)/\OJ m R H d l/\BM m H x g/\KC g/\nU l g=ae/\l.length<=1000000/\
 ∀H',Kp (kW d) H H'->OJ m R H' d (dz l g)->Q .non H'
def Q1:bo ["things","message","n","old","i","value"] ["things","message"] (aP (ig 68)):=jY
def Kp.one_in {d:Addr}(k:Kp (kW d) H H')(h:R d):Kp R H H':=k.mono λb e=>by rw[show b=d from e];exact h
include m in
def Ts:du P w K mg base jw 3 (m.fn 68) (m.fd 68) ["things","message"] (OL m):=by
 exact m.d68.F.ok Q1 (λvs H Q E h=>?_) (λcd A bl s H vs Q E hr h=>?_)
 ·let(_,_,_,_,_,rfl,_):=h;rfl
 let(d,x,R,l,g,rfl,hR,lv,((kvs,M,hD),hl,h8),(dx,fr,gx,a2),og,hf,hm,k):=h;let nd:=Q1.nd;let hu:=jx hr;let hk:=hD.risD hl;let kl:kvs.length<=1000000:=by rw[hk.len,aj];exact hm
 exact⟨_,ao (sT 2 nd (fl (pv 1)))
  (bN (dG (df lD (fl (pv 1)) (cS m.UB) (dS _)) (bN (gL (vT (pv 0) (pv 2) ⟨rfl,rfl,rfl,rfl⟩)))
   (bN (dG (df lD (fl (pv 1)) (cS m.Ux) (dS _))
    (bN (lG hu (pv 0) (pv 2) (sX m hr (aS (fl (pv 1)) (cU (nh (ER hr.hd) (by rfl) m.Vq boot_list (cU (Hg (fl (pv 1)))))))) rfl))
    (ao (sT 3 nd (jh hu (pv 0) (pv 2) (λ_ _=>rfl)))
    (bN (lG hu (pv 0) (pv 2) (sX m hr (aS (fl (pv 3)) (cU (vQ (own:=[("i",4),("value",5)]) rfl nd (FO (by rfl) m.Vs (cU (fl (pv 3)))) (mo (by show yU ["things","message","n","old","i","value"] (aP (ig 68)) _ _=ae;decide +kernel)) (λ_ _ _ _ _=>M8 K 2 (lC (DC (j:=4)) (lC (DC (j:=5)) vJ)))
     (λ_ _ _ _ _=>t7) (λ_ _ _ _ _=>CY (by exact hu) (Gc K (pv 1)) (pv 4) (pv 5) (by exact(rfl,rfl,rfl,rfl))))))) rfl))))))),?_⟩
 exact WL _ rfl (WH x _ dx _ _ rfl gx m.k56.cl m.UZ rfl ?_);let fe:=rn l (bM g);exact WL _ rfl (WM x _ dx _ _ rfl gx m.k56.cl m.UL rfl rfl (WL _ rfl (fO (λc=>?_) λc=>?_)))
 ·let c:mW g=3:=by have:=V.int.inj c;omega
  cases g with
  |enter n J v=>cases c
  |change n dd v=>cases c
  |leave n=>
   let hf:(bA l n).isSome=ae:=hf
   cases O:bA l n with
   |none=>rw[O] at hf;cases hf
   |some t=>
    let fe:fD l (n:Int)=aa (t.kind,t.vals):=by rw[rn,O];rfl
    let(a,ea,_):=hD.some_ fe;exact(_,rfl,d,rfl,.inl ⟨_,.inl M⟩,_,rfl,WT _ (aA (n:Int)) _ M rfl ea ?_);let Y:Kp (kW d) H (bD H d (.dK (lh kvs (aA (n:Int))))):=Kp.refl.put rfl;exact k _ Y ⟨⟨_,ak,((hD.keep (Y.one_in hR)).drop _).of_eq λj=>LR n j⟩,Sp.z9 hl _,wg h8 og⟩
 ·let c:mW g≠3:=λz=>c (by rw[z];rfl)
  exact WL _ rfl (WM x _ dx _ _ rfl gx m.k56.cl m.UL rfl rfl (WL _ rfl (fO (λc2=>?_) λc2=>?_)))
  ·let c2:mW g=1:=by have:=V.int.inj c2;omega
   cases g with
   |change n dd v=>cases c2
   |leave n=>cases c2
   |enter n J v=>
    let vl:v.length=8:=by rw[show v.length=(bH 8).length from og.len.symm];rfl
    exact WL _ rfl (WH x _ dx _ _ rfl gx m.k56.cl m.Vj rfl (WL _ rfl (WH x _ dx _ _ rfl gx m.k56.cl m.UM rfl (WJ fr _ rfl (.inl a2) λq1 f1=>?_))));let s1:=aU.new (o:=Jp q1 fr) f1;exact WT q1 fr _ rfl ak (.inl (s1 _ _ a2)) λq2 f2=>?_;let ev:(rm (mI (.enter n J v)) (mV (.enter n J v))).map (·.2)=iv v:=by
     show(((bH 8).zip v).map λx=>((aA (x.1:Int):ef),V.int x.2)).map (·.2)=v.map V.int;rw[gZ,show((λ(x:ef×V)=>x.2)∘λ(x:Nat×Int)=>((aA (x.1:Int):ef),V.int x.2))=V.int∘qa from rfl,<-gZ,List.map_snd_zip (by rw[g9,vl];exact aH _)]
    rw[ev];let B:=s1.t (o:=.lst (iv v)) f2;obtain⟨H2,ay⟩:∃H2,H2=bD (bD H q1 (Jp q1 fr)) q2 (.lst (iv v)):=⟨_,rfl⟩;let g2:H2 q2=aa (.lst (iv v)):=by rw[ay];exact ak
    rw[<-ay] at B⊢;exact λy u fy a4 _=>(WP y u _ _ rfl ak rfl ?_)
    obtain⟨C,p⟩:∃C,C=bD (bD (bD H2 u (.own y)) y (.ins (m.cl 11) u [])) y (.ins (m.cl 11) u (tf (.int J) (.ref q2))):=⟨_,rfl⟩;let s3:aU H2 C:=by rw[p];exact jI fy a4
    let g3:C y=aa (.ins (m.cl 11) u (tf (.int J) (.ref q2))):=by rw[p];exact ak
    rw[show(V.int ((mK (.enter n J v):Nat):Int))=V.int J from rfl,<-p];let I:=B.trans s3;let nR:∀{b},H b=ac->¬R b:=λf q=>by let(o,e):=lv _ q;rw[f] at e;cases e
    exact(_,rfl,_,rfl,WJ d _ rfl (uo.k (k:=aA (n:Int)) (I _ _ M) (iA kl (by decide))) ?_);let Y:Kp (kW d) H (bD C d (.dK (jW kvs (aA (n:Int)) (.ref y)))):=(Kp.of I).put rfl;exact k _ Y ⟨⟨_,ak,((hD.keep (Y.one_in hR)).put (n:=(n:Int)) (k:=J) (vs:=v) (WN u q2 (nR (B.free fy)) (nR (aU.free s1 f2)) ?_ ?_)).of_eq λj=>JS hl ⟨n,J,v⟩ j⟩,Sp.z9 hl _,wg h8 og⟩
    ·rw[aF (aL (B _ _ M) fy).symm];exact g3
    ·rw[aF (aL (s1 _ _ M) f2).symm];exact s3 _ _ g2
  ·let c2:mW g≠1:=λz=>c2 (by rw[z];rfl)
   cases g with
   |enter n J v=>exact aB rfl c2
   |leave n=>exact aB rfl c
   |change n ds v=>
    cases O:bA l n with
    |none=>
     have:nU l (.change n ds v)=af:=by rw[DE,O]
     rw[this] at hf;cases hf
    |some t=>
     let fe:fD l (n:Int)=aa (t.kind,t.vals):=by rw[rn,O];rfl
     let(a,ea,dt,ls,_,_,h1,h2):=hD.some_ fe;let tl:=h8 t (Sp.Nw O);let hg:gD H d (.int (n:Int)) (aa (.ref a)):=by
      have:=gD.k (k:=aA ((n:Nat):Int)) M;rw[ea] at this;exact this
     let b2:H fr=aa (.dK (rm ds v)):=a2;let eh:dz l (.change n ds v)=jM {t with vals:=(ds.zip v).foldl (λr x=>r.set x.1 x.2) t.vals} l:=by
      rw[oI,O]
     let c4:t.id=n:=Sp.z8 O;obtain⟨L,a5⟩:∃L,L=(ds.zip v).foldl (λr x=>r.set x.1 x.2) t.vals:=⟨_,rfl⟩;let nl:L.length=8:=by rw[a5,Sp.vy,tl]
     exact WL _ rfl (WL _ rfl (WJ d _ rfl hg ?_));exact WL _ rfl (WH a _ dt _ _ rfl h1 m.k11.cl m.Up (nE _ _) (WL _ rfl (WH a _ dt _ _ rfl h1 m.k11.cl m.Ul (gN _ _) (WJ ls _ rfl (dL.of h2) λD N=>?_))));exact Lv (K:=K) (xs:=iv t.vals) (λi H'=>aU H H'/\H' D=aa (.lst (iv (L.take i)))) ⟨aU.new N,ak⟩ (λi H' ⟨s,_⟩=>dL.of (s _ _ h2)) ?_ ?_
     ·intro i y T H' hi x' fT;let(s,e):=x';let(z,hz,rfl):=km hi;let c5:i<t.vals.length:=(bf.mp hz).1;let B:aU H (bD H' T (.tup [.int (i:Nat),.int z])):=s.t fT;exact WN T _ rfl (o4.of ak) rfl (WB _ _ ⟨rfl,WN _ _ rfl rfl rfl ?_⟩);exact WL _ rfl (WH x _ dx _ _ rfl (B _ _ gx) m.k56.cl m.UM rfl ⟨fr,rfl,.inl ⟨_,.inl (B _ _ b2)⟩,_,rfl,_,rfl,_,gD.k (k:=aA (i:Int)) (B _ _ b2),_,aU.new fT _ _ e,?_,(s.t fT).old N,?_⟩)
      ·rw[fw,cO];exact dI ⋯
      ·let ez:z=t.vals.getD i 0:=by
        rw[bh,hz];rfl
       let en:L[i]?=aa (L.getD i 0):=by
        rw[bh,br ⋯];rfl
       let pa:(eE (rm ds v) (aA (i:Int))).getD (.int (t.vals.getD i 0))=.int (L.getD i 0):=by
        rw[a5];exact DD og.nd og.len c5
       rw[ak,eB en,ez,pa,re];rfl
     ·intro H2 x';let(B,g2):=x';rw[fw,show t.vals.length=L.length by omega,cg] at g2;exact λy u fy a4 _=>(WP y u _ _ rfl ak rfl ?_)
      obtain⟨C,p⟩:∃C,C=bD (bD (bD H2 u (.own y)) y (.ins (m.cl 11) u [])) y (.ins (m.cl 11) u (tf (.int t.kind) (.ref D))):=⟨_,rfl⟩;let s3:aU H2 C:=by rw[p];exact jI fy a4
      let g3:C y=aa (.ins (m.cl 11) u (tf (.int t.kind) (.ref D))):=by rw[p];exact ak
      rw[<-p];let I:=B.trans s3;let nR:∀{b},H b=ac->¬R b:=λf q=>by let(o,e):=lv _ q;rw[f] at e;cases e
      exact(_,rfl,_,rfl,WJ d _ rfl (uo.k (k:=aA (n:Int)) (I _ _ M) (iA kl (by decide))) ?_);let Y:Kp (kW d) H (bD C d (.dK (jW kvs (aA (n:Int)) (.ref y)))):=(Kp.of I).put rfl;exact k _ Y ⟨⟨_,ak,((hD.keep (Y.one_in hR)).put (n:=(n:Int)) (k:=t.kind) (vs:=L) (WN u D (nR (B.free fy)) (nR N) ?_ ?_)).of_eq λj=>?_⟩,Sp.z9 hl _,wg h8 og⟩
      ·rw[aF (aL (B _ _ M) fy).symm];exact g3
      ·rw[aF (aL M N).symm];exact s3 _ _ g2
      ·rw[eh,<-a5,<-JS hl {t with vals:=L} j]
       show _=if j=(t.id:Int) then _ else _
       rw[c4]
end
theorem yt (t:bv):∀l:List bv,(jM t l).length<=l.length+1
 |[]=>aH _
 |u::l=>by
  unfold jM;split
  ·exact aH _
  ·split
   ·simp
   ·have:=yt t l;simp only[aK];omega
def ue (l:List bv)(g:aT):(dz l g).length<=l.length+1:=by
 cases g with
 |enter n k v=>exact yt _ _
 |change n d v=>
  rw[oI]
  cases bA l n with
  |none=>exact oN _
  |some t=>exact yt _ _
 |leave n=>exact bq (cY _ _) (oN _)
def rp (l:List bv)(g:aT)(r:List aT):iB l (g::r)=if nU l g=ae then iB (dz l g) r else ac:=rfl
theorem zj:∀{e:List aT} {l d:List bv},(∀g∈e,KC g)->Sp.xU l->(∀t∈l,t.vals.length=8)->iB l e=aa d->Sp.xU d/\(∀t∈d,t.vals.length=8)/\d.length<=l.length+e.length
 |[],l,d,_,f,i,h=>by
  cases h;exact(f,i,aH _)
 |g::e,l,d,j,f,i,h=>by
  rw[rp] at h;split at h
  ·let(a,b,c):=zj (λg o=>j g (au _ o)) (Sp.z9 f g) (wg i (j g (aD ..))) h;have:=ue l g;exact(a,b,by rw[aK];omega)
  ·cases h
section
variable {P:aO} {w:World} {K:am} {mg:Str->Option ag} {base:Heap} (m:Mo K mg)
theorem a9.at_ {α β:Type}{F:α->β->Prop}:∀{l₁:List α} {l₂:List β} {i:Nat} {x:α},a9 F l₁ l₂->l₁[i]?=aa x->∃y,l₂[i]?=aa y/\F x y
 |_,_,0,_,.cons a _,h=>by cases h;exact(_,rfl,a)
 |_,_,i+1,_,.cons _ b,h=>a9.at_ (i:=i) b (by simpa using h)
def JT (m:Mo K mg):Sp:=λvs H Q _=>∃(c p e f:Addr) (t:V) (i:List Addr) (R:Rg) (l:List bv) (a:List aT),vs=[.ref c,.ref f]/\H c=aa (.ins (m.cl 13) p (mf t (.ref e)))/\OJ m R H e l/\(∀b,R b->∃o,H b=aa o)/\H f=aa (.lst (i.map V.ref))/\zi m H i a/\l.length+a.length<=1000000/\
 (iB l a=ac->∀H',aU H H'->Q .non H')/\∀j,iB l a=aa j->∀H' d,aU H H'->H d=ac->OJ m R H' d j->Q (.ref d) H'
def Q2:bo ["mirror","messages","things","message"] ["mirror","messages"] (aP (ig 69)):=jY
include m in
def Tt:du P w K mg base jw 4 (m.fn 69) (m.fd 69) ["mirror","messages"] (JT m):=by
 exact m.d69.F.ok Q2 (λvs H Q E h=>?_) (λbm A a5 s H vs Q E hr h=>?_)
 ·let(_,_,_,_,_,_,_,_,_,rfl,_):=h;rfl
 let(mi,dm,md,ml,t,xs,R,l,gs,rfl,al,((kvs,hd,hD),hl,h8),lv,B,M,hm,k1,k2):=h;let nd:=Q2.nd;exact⟨_,ao (sT 2 nd (nh zb (by rfl) m.Vr boot_dict (cU (fl (pv 0)))))
  (ao (kj cQ rfl (jg (pv 1)) (fC (i:=3) nd rfl (eu rfl))
   (ao (dG (nV (mj (dA m.d67 (Tr m) (hr.mono (by decide)) (aS (pv 2) (cU (pv 3)))))) (rt uQ) bS)
   (bN (gL (dA m.d68 (Ts m) hr (aS (pv 2) (cU (pv 3))))))))
  (rt (pv 2))),?_⟩
 exact WL _ rfl (WH mi _ dm _ _ rfl al m.k13.cl m.UW rfl (WJ md kvs rfl (.inl hd) λd C=>?_));let D:=aU.new (o:=.dK kvs) C;obtain⟨H1,N⟩:∃H1,H1=bD H d (.dK kvs):=⟨_,rfl⟩;let g1:H1 d=aa (.dK kvs):=by rw[N];exact ak
 rw[<-N] at D⊢;let an:ml≠d:=aL B C;exact WL _ rfl (WU ml rfl ⟨_,dL.of (D _ _ B)⟩ (ka (K:=K) (a:=ml) (xs:=xs.map V.ref)
  (λi σ H'=>∃(v:Option V) (j:List bv),σ=[aa (.ref mi),aa (.ref ml),aa (.ref d),v]/\Kp (kW d) H1 H'/\OJ m (λb=>R b\/b=d) H' d j/\iB l gs=iB j (gs.drop i)/\j.length<=l.length+i)
  (WN ac l rfl Kp.refl ⟨⟨kvs,g1,⟨hD.dk,λn=>?_⟩⟩,hl,h8⟩ ⟨rfl,aH _⟩) (λi σ H' _ x'=>V22 x' λ_ _ _ I _=>dL.of (I _ _ an (D _ _ B))) ?_ ?_))
 ·let f:=hD.at_ n;generalize eE kvs (aA n)=o at f;generalize fD l n=r at f;cases o<;>cases r
  ·exact f
  ·exact f
  ·exact f
  ·let(a,e,dx,ls,n1,n2,h1,h2):=f;exact(a,e,WN dx ls (λq=>q.elim n1 (aL h1 C)) (λq=>q.elim n2 (aL h2 C)) (D _ _ h1) (D _ _ h2))
 ·intro i y σ H' hi x';let(v,j,rfl,I,p,u,el):=x';let(x,hx,rfl):=km hi;let(g,hg,(O,og)):=a9.at_ M hx;let av:=bf.mp hg;let(ax,ay):=av;let J:aU H H':=Kp.same_one D I C;rw[fX ax,ay,rp] at u;exact WL _ rfl (WL _ rfl (WO d x _ j g rfl p (O.same J) ⟨og,λH2 L=>(WL _ rfl (y9 (λc=>?_) λc=>?_))⟩))
  ·rw[iQ (by rw[c];simp)] at u;exact k1 u H2 (J.trans L)
  ·rw[jN c] at u;let z:OJ m (λb=>R b\/b=d) H2 d j:=let ⟨⟨T,e1,e2⟩,h3,h4⟩:=p;⟨⟨T,L _ _ e1,e2.keep (Kp.of L)⟩,h3,h4⟩;let(T,ed,_):=z.ex;exact WL _ rfl (WL _ rfl (WM d x _ j g rfl (.inr rfl) (λb hb=>?_) z ((O.same J).same L) og ⟨c,⋯,λH3 b5 Y=>?_⟩))
   ·rcases hb with hb|rfl
    ·let(o,e):=lv b hb;exact(o,L _ _ (J _ _ e))
    ·exact(_,ed)
   ·exact WN _ _ rfl ((I.trans (Kp.of L)).trans b5) Y ⟨u,by have:=ue j g;omega⟩
 ·intro σ H' x';let(v,j,rfl,I,p,u,el):=x';rw[aj,show xs.length=gs.length from cB M,rO] at u;let J:aU H H':=Kp.same_one D I C;exact(_,rfl,k2 j u H' d J C ?_);let((T,e1,e2),h3,h4):=p;exact(⟨T,e1,e2.dk,λn=>?_⟩,h3,h4);let f:=e2.at_ n;generalize eE T (aA n)=o at f⊢;generalize fD j n=r at f⊢;cases o<;>cases r
  ·exact f
  ·exact f
  ·exact f
  ·let(a,e,dx,ls,n1,n2,h1,h2):=f;exact(a,e,WN dx ls (λq=>n1 (.inl q)) (λq=>n2 (.inl q)) h1 h2)
def JU:List Int->Option cZ:=λl=>aa (.feed l)
def Q3:bo ["world","numbers","stream","things"] wn (aP (ig 70)):=jY
theorem DF:∀{l:List Int},l.all l0=ae->iv l=nb (l.map qe)
 |[],_=>rfl
 |z::l,h=>by
  rw[qR,ca] at h;let a:=h.1;unfold l0 at a;rw[ca,decide_eq_true_eq,decide_eq_true_eq] at a;show V.int z::iv l=V.int ((z.toNat:Nat):Int)::nb (l.map qe);rw[DF h.2,show((z.toNat:Nat):Int)=z by omega]
def tz {l:List Nat}{t:Nat}{e:List aT}(h:iH l=aa (t,e)):e.length<=l.length/\2*e.length<=l.length:=by
 rw[nF] at h
 cases a:bK l with
 |none=>rw[a] at h;cases h
 |some x=>
  let(D,r):=x;rw[a] at h;dsimp only at h;let(E,p,q,f):=iw a
  cases c:bK r with
  |none=>rw[c] at h;cases h
  |some y=>
   let(n,s):=y;rw[c] at h;dsimp only at h;let(H,I,J,u):=iw c
   cases i:bz n s with
   |none=>rw[i] at h;cases h
   |some z=>
    let(d,v):=z;rw[i] at h;let o:∀{n:Nat} {l:List Nat} {d:List aT} {r:List Nat},bz n l=aa (d,r)->2*d.length<=l.length:=by
     intro n
     induction n with
     |zero=>intro l d r h;cases h;exact aR _
     |succ n w=>
      intro l d r h;unfold bz at h
      cases a:gB l with
      |none=>rw[a] at h;cases h
      |some x=>
       let(g,A):=x;rw[a] at h;dsimp only at h
       cases c:bz n A with
       |none=>rw[c] at h;cases h
       |some y=>
        let(B,L):=y;rw[c] at h;cases h;let(j,p,q,f):=nY a;have:=w c;rw[f,bC] at this;show 2*(g::B).length<=l.length;rw[aK];omega
    let C:=o i
    cases v with
    |cons b r=>cases h
    |nil=>
     cases h;rw[u,f,bC,bC] at C;omega
include m in
def Tu (mx:Mx m):du P w K mg base jw 7 (m.fn 70) (m.fd 70) wn (v7 m JU):=by
 exact m.d70.F.ok Q3 im (λb8 A a2 s H vs Q E O h=>?_);let(A,W,N,b,l,c,rfl,j,ok,hN,u,bb,hc,h5,k):=h;cases hc;let nd:=Q3.nd;let r2:=O.mono (show 2<=6 by decide);exact⟨_,ao (dG (nV (mj (dA m.d66 (Sz m) (O.mono (by decide)) (cU (pv 1))))) (rt (cr (cU (cS m.Uu)))) bS)
  (ao (OB (i:=2) (C:=m.cN) ⟨rfl,rfl⟩ (Tq m mx) O m.d64.m m.d64.F.kp m.d64.b (cU (pv 1)) mx.exc mx.mN (λev=>bN (lr (cr (cU (cS m.Vu))))) nd rfl (eu rfl))
  (ao (dG (df gC (fl (pv 2)) (nX (fl (pv 0)) rfl) (dS _)) (rt (cr (cU (cS m.Vv)))) bS)
  (ao (sT 3 nd (dA m.d69 (Tt m) (O.mono (by decide)) (aS (fl (pv 0)) (cU (fl (pv 2))))))
  (ao (dG (iu (m9 (pv 3))) (rt (cr (cU (cS m.Vw)))) bS)
  (ao (fN (pv 0) (wY m r2 (aS (fl (pv 2)) (cU (pv 3)))) rfl)
  (rt (cr (aS be (cU (cJ eN (by rfl) m.Uk cM (cU (fl (pv 2))))))))))))),?_⟩
 let es:b9 W (.feed l)=(if l.all l0=af then bL W (-2) else match iH (l.map qe) with
  |none=>bL W (-6)
  |some (t,ms)=>if t<=W.mirror.1 then bL W (-7) else match iB W.mirror.2 ms with
   |none=>bL W (-8)
   |some m=>({W with mirror:=(t,m)},[0,(ms.length:Int)])):=rfl
 rw[es] at k;exact WL _ rfl (WN b l rfl (dL.of u) ⋯ λH2 v=>(WL _ rfl (y9 (λB=>?_) λB=>?_)))
 ·rw[jN B] at k;exact((by show 1<=aI;decide),k.new j v)
 rw[iQ (by rw[B];simp)] at k;rw[DF B] at u;let ml:=ok.ml;exact WL _ rfl (WN b (l.map qe) rfl (v _ _ u) (λx hx=>?_) ⟨(by rw[aj];exact h5),λhn H3 s3=>?_,λt gs D H3 x s3 fx a5=>?_⟩)
 ·let(z,hz,rfl):=aM.mp hx;have:=fV.mp B z hz;unfold l0 at this;rw[ca,decide_eq_true_eq,decide_eq_true_eq] at this;omega
 ·rw[hn] at k;exact((by show 1<=aI;decide),k.new j (v.trans s3))
 rw[D] at k;dsimp only at k;let f:=v.trans s3;let I:=j.same f;let(dx,ls,xs,T,Y,g3):=a5;let(dm,md,kM,n1,n2,m1,m2,m3):=I.mi;let gl:=(tz D).1;rw[aj] at gl;exact WL _ rfl (WH x _ dx _ _ rfl T m.k57.cl m.U0 rfl (WL _ rfl (WH A.a _ A.dx _ _ rfl I.obj m.k14.cl m.Uw ud (WH A.mi _ dm _ _ rfl m1 m.k13.cl m.UV rfl (WJ _ _ rfl rfl (WL _ rfl (fO (λct=>?_) λct=>?_)))))))
 ·rw[jN ⋯] at k;exact((by show 1<=aI;decide),k.new j f)
 rw[iQ ⋯] at k;exact WL _ rfl (WH A.a _ A.dx _ _ rfl I.obj m.k14.cl m.Uw ud (WL _ rfl (WH x _ dx _ _ rfl T m.k57.cl m.U1 rfl ?_)));exact WG A.mi dm md ls _ xs A.rg (WN W.mirror.2 gs rfl m1 ⟨⟨kM,m2,m3⟩,ok.mr,ok.m8⟩ ⟨I.live,Y,g3,⋯,λhh H4 r=>?_,λl' hh H4 d r fd ap=>?_⟩)
 ·rw[hh] at k;exact WL _ rfl (WL _ rfl (jD ⟨(by show 1<=aI;decide),k.new j (f.trans r)⟩))
 ·rw[hh] at k;dsimp only at k;exact WL _ rfl (WL _ rfl (i7 ?_));let J:=f.trans r;exact WL _ rfl (WH x _ dx _ _ rfl (r _ _ T) m.k57.cl m.U0 rfl (WL _ rfl λy L fy ar _=>(WP y L _ _ rfl ak rfl ?_)));obtain⟨H5,q⟩:∃H5,H5=bD (bD (bD H4 L (.own y)) y (.ins (m.cl 13) L [])) y (.ins (m.cl 13) L (mf (.int t) (.ref d))):=⟨_,rfl⟩;let M:aU H4 H5:=by rw[q];exact jI fy ar
  let g5:H5 y=aa (.ins (m.cl 13) L (mf (.int t) (.ref d))):=by rw[q];exact ak
  rw[<-q];let o:=J.trans M;let((kv,e1,e2),_,_):=ap;exact WL _ rfl (WK A.a _ A.dx _ rfl (o _ _ j.obj) m.k14.cl m.Uw (by show 6<1000;decide) ?_);rw[uD];let w6:=j.mirror o (j.fresh (J.free fy)) (j.fresh (f.free fd)) g5 (M _ _ e1) (e2.keep (Kp.of M));let nx:x≠A.a:=(aL j.obj (v.free fx)).symm;let as:ls≠A.a:=λe=>by rw[e,I.obj] at Y;cases Y
  exact WL _ rfl (WH x _ dx _ _ rfl ((aF nx).trans ((r.trans M) _ _ T)) m.k57.cl m.U1 rfl (WN ls _ rfl (.inl (dL.of ((aF as).trans ((r.trans M) _ _ Y)))) (by show 2<=aI;decide) λp hp=>?_));let fp:=o.free (jJ hp).2;rw[aj,show xs.length=gs.length from cB g3];exact k _ _ p (w6.same (aU.new hp)) rfl (((Kp.of o).put WA.r_a).new fp) (λb u=>.inl u) fp ak
end
end SA
namespace Sp
open Vbwsag
variable {l:List ic}
def MH (ws:List Wall)(p:rB)(own t:ic):Bool:=sh (placeOf t) (placeOf own) (if p.near.contains t.id=ae then p.outer else p.inner)&& !blocked ws (placeOf own) (placeOf t)
def JV (p:vj)(r:Nat):sh p p r=ae:=by
 unfold sh far2;rw[decide_eq_true_eq,Int.sub_self,Int.sub_self];have:(0:Int)<=(r:Int)*(r:Int):=qk ⋯ ⋯;omega
def DG {p q:vj}{a b:Nat}(h:a<=b)(w:sh p q a=ae):sh p q b=ae:=by
 unfold sh at w⊢;rw[decide_eq_true_eq] at w⊢;have:(a:Int)*(a:Int)<=(b:Int)*(b:Int):=BU ⋯ ⋯ ⋯ ⋯;omega
def Pe {x:qr}(a:rS l)(b:uv l x)(ws:List Wall)(p:rB):wC (sight l x ws p):=by
 unfold sight
 cases fU l p.thing with
 |none=>exact eJ
 |some c=>
  dsimp only;rw[z7 a b];exact yA ((KL a).sublist (List.Sublist.map _ iT)) _
def OM {x:qr}{ws:List Wall}{p:rB}(h:fU l p.thing=ac):sight l x ws p=[]:=by
 unfold sight;rw[h]
def Pg {x:qr}(i:rS l)(o:uv l x){ws:List Wall}{p:rB}{own:ic}(e:fU l p.thing=aa own)(q:p.inner<=p.outer)(n:Nat):
  n∈sight l x ws p↔n=p.thing\/∃t,fU l n=aa t/\MH ws p own t=ae:=by
 unfold sight;rw[e];dsimp only;rw[cW,z7 i o,aM];constructor
 ·intro x';let((t,a,rfl),h):=x';let(r,s):=cW.mp a;let j:=mh i r;rw[iM,beq_iff_eq] at h;rcases h with h|h
  ·exact .inl h
  ·right
   rw[j] at h;dsimp only at h;exact(t,j,?_);rw[ca,iM] at h;unfold MH;rw[ca];exact(?_,h.2);by_cases c:p.near.contains t.id=ae
   ·rw[jN c];exact s
   ·rw[iQ c];exact h.1.resolve_right c
 ·intro h;let f:∀t,fU l n=aa t->(n=p.thing\/MH ws p own t=ae)->sh (placeOf t) (placeOf own) p.outer=ae:=λt a h=>by
   rcases h with rfl|h
   ·rw[e] at a;cases a;exact JV _ _
   ·unfold MH at h;rw[ca] at h;let h:=h.1;split at h
    ·exact h
    ·exact DG q h
  let b:∃t,fU l n=aa t/\(n=p.thing\/MH ws p own t=ae):=by
   rcases h with rfl|⟨t,a,d⟩
   ·exact(own,e,.inl rfl)
   ·exact(t,a,.inr d)
  let(t,a,d):=b;exact(⟨t,cW.mpr ⟨pL a,f t a d⟩,m5 a⟩,?_);rw[iM,beq_iff_eq];rcases d with h|h
  ·exact .inl h
  ·right
   rw[a];dsimp only;unfold MH at h;rw[ca] at h⊢;exact(?_,h.2);rw[iM];by_cases c:p.near.contains n=ae
   ·exact .inr c
   ·left
    let h:=h.1;rw[m5 a,iQ c] at h;exact h
theorem zN {p:rB}:∀(ps:List rB) (s:List Nat),wC s->wC (ps.foldl (λs q=>if mates p q=ae then union s q.near else s) s)
 |[],_,h=>h
 |q::ps,s,h=>by
  exact zN ps _ ?_;show wC (if mates p q=ae then union s q.near else s)
  split
  ·exact Gy h
  ·exact h
theorem BN {p:rB}{n:Nat}:∀(ps:List rB) (s:List Nat),n∈ps.foldl (λs q=>if mates p q=ae then union s q.near else s) s↔n∈s\/∃q∈ps,mates p q=ae/\n∈q.near
 |[],s=>by simp
 |q::ps,s=>by
  show n∈ps.foldl _ (if mates p q=ae then union s q.near else s)↔_
  rw[BN ps];by_cases c:mates p q=ae
  ·rw[jN c,Gx];constructor
   ·rintro((h|h)|⟨b,h1,a⟩)
    ·exact .inl h
    ·exact .inr ⟨q,aD ..,c,h⟩
    ·exact .inr ⟨b,au _ h1,a⟩
   ·rintro(h|⟨b,h1,a,d⟩)
    ·exact .inl (.inl h)
    ·rcases az.mp h1 with rfl|h1
     ·exact .inl (.inr d)
     ·exact .inr ⟨b,h1,a,d⟩
  ·rw[iQ c];constructor
   ·rintro(h|⟨b,h1,a⟩)
    ·exact .inl h
    ·exact .inr ⟨b,au _ h1,a⟩
   ·rintro(h|⟨b,h1,a,d⟩)
    ·exact .inl h
    ·rcases az.mp h1 with rfl|h1
     ·exact aB a c
     ·exact .inr ⟨b,h1,a,d⟩
end Sp
namespace SA
open PySem PySem.Spec PyProof.Rows L2
variable {a b ns:List Nat} {C dx pa al se wa sn:Addr} {i n:Nat} {l:List aN} {p:aq} {g:aT}
def oJ (l:List aN)(ns:List Nat):TF:=λn=>if 0<=n/\n.toNat∈ns then fT l n else ac
variable {H:Hp}
section
variable {P:aO} {w:World} {K:am} {mg:Str->Option ag} {base:Heap} (m:Mo K mg)
def EZ (m:Mo K mg)(H:Hp)(pa dx:Addr)(p:aq)(al se a wa sn:Addr):Prop:=H pa=aa (.ins (m.cl 12) dx (pf (.int p.thing) (.int p.team) (.int p.inner) (.int p.outer) (.int p.budget) (.ref al) (.ref se) (.ref a) (.ref wa) (.ref sn)))
def LS (m:Mo K mg):Sp:=λi H Q _=>∃(A:WA) (W:aZ) (N:Nat) (pa dx al se j wa sn:Addr) (p:aq) (c:List (ef×V)) (l o:V),i=[.ref A.a,.ref pa]/\uE N W/\MU p/\
 H A.a=aa (.ins (m.cl 14) A.dx (wf (.int W.now) (.ref A.td) (.ref A.wl) (.ref A.rk) o l))/\(∃b,H A.td=aa (.dK b)/\fZ (m.cl 11) A.rg H b (fT W.things))/\(∃f,H A.wl=aa (.lst (f.map V.ref))/\JE A.rg H f W.walls)/\
 EZ m H pa dx p al se j wa sn/\¬A.rg al/\H al=aa (.dK c)/\qg c p.near/\A.a≠A.td/\pa≠A.td/\A.wl≠A.td/\
 ∀e d b,aU H e->H d=ac->e d=aa (.dK b)->fZ (m.cl 11) A.rg e b (oJ W.things (rQ W.things W.index W.walls p))->Q (.ref d) e
def Q4:bo ["world","player","own","seen","n","thing","radius"] ["world","player"] (aP (ig 86)):=jY
def x3 (W:aZ)(p:aq)(own:aN)(n:Int):Bool:=match bg W.things n.toNat with
 |some t=>Sp.MH W.walls p own t
 |none=>af
def LU {b:Bool}{K:am}{σ:L2.St}{a:Addr}{fs:List (Str×V)}{d e:Str}{f j:V}{Q:VK}(l:σ[i]?=aa (aa (.ref a)))(h:H a=aa (.ins C dx fs))(c:K4 K C)(o:eW K C d)(p:eW K C e)(r:fs.lookup d=aa f)(s:fs.lookup e=aa j)(q:Q (if b=ae then f else j) H):if b=ae then EA K (xX i) d σ H Q else EA K (xX i) e σ H Q:=by
 cases b with
 |true=>exact(_,l,WH a C dx fs f rfl h c o r q)
 |false=>exact(_,l,WH a C dx fs j rfl h c p s q)
def zk (kvs:List (ef×V))(k:ef)(v:V):(jW kvs k v).length<=kvs.length+1:=by
 have:=nD [(k,v)] kvs;exact this
open Classical in
include m in
def Tv:du P w K mg base jw 5 (m.fn 86) (m.fd 86) ["world","player"] (LS m):=by
 exact m.d86.F.ok Q4 (λvs H Q E h=>?_) (λe6 A cj s H vs Q E hr h=>?_)
 ·let(_,_,_,_,_,_,_,_,_,_,_,_,_,_,rfl,_):=h;rfl
 let(A,W,N,pa,dx,al,se,to,wa,sn,p,cn,mi,pd,rfl,ok,po,hw,(B,t1,M),(as,a1,a2),hp,cp,cq,bk,n1,n2,n3,k):=h;let nd:=Q4.nd;let hu:=jx hr;let ct:al≠A.td:=λe=>cp (by rw[e];exact WA.r_td)
 exact⟨_,ao (sT 2 nd (nP hu (fl (pv 0)) (fl (pv 1)) ⟨rfl,rfl,rfl,rfl⟩))
  (ao (dG (iu (m9 (pv 2))) (rt jH) bS)
  (ao (sT 3 nd (Lh (IW (fl (pv 1)) (pv 2) Lg) rfl rfl (by simp) (by decide)))
  (ao (Bx (kj cQ rfl (C0 (fl (pv 0))) (Bi rfl (lC (fC (i:=4) nd rfl (eu rfl)) (lC (fC (i:=5) nd rfl (eu rfl)) vJ)))
   (ao (sT 6 nd (o0 (iu (Bw hu (pv 4) (fl (pv 1))) (by with_unfolding_all rfl)) (fl (pv 1)) (fl (pv 1))))
   (bN (dG (qf (mj (dA m.d84 (Qn m) (hr.mono (by decide)) (aS (fl (pv 5)) (aS (fl (pv 2)) (cU (pv 6)))))) (oG (nV (mj (dA m.d85 (Sy m) hr (aS (fl (pv 0)) (aS (fl (pv 2)) (cU (fl (pv 5)))))))))).pt (bN (lG hu (pv 3) (pv 4) (pv 5) rfl)) bS)))))
  (rt (pv 3))))),?_⟩
 exact WL _ rfl (WH A.a _ A.dx _ _ rfl hw m.k14.cl m.Um rfl (WU A.td rfl (.inl ⟨_,.inl t1⟩) (WL _ rfl (WH pa _ dx _ _ rfl hp m.k12.cl m.UU JA (WL _ (gD.k (k:=aA (p.thing:Int)) t1) (WL _ rfl (WL _ rfl ?_)))))));let fe:fT W.things (p.thing:Int)=(bg W.things p.thing).map λt=>(t.kind,t.vals):=by
  unfold fT;rw[jN ⋯,show((p.thing:Nat):Int).toNat=p.thing by omega]
 cases ho:bg W.things p.thing with
 |none=>
  rw[ho] at fe;rw[M.none_ fe];exact jD λd fd=>?_
  exact k _ d _ (aU.new fd) fd ak (fZ.nil.of_eq λn=>?_);unfold oJ;rw[Sp.OM ho];rw[iQ (by simp)]
 |some f=>
  rw[ho] at fe;let(D,eo,od,O,cu,cv,cx,ax):=M.some_ fe;let ax:H O=aa (.lst (iv f.vals)):=ax;rw[eo];let om:=Sp.pL ho;let ed:=Sp.m5 ho;let ov:=(ok.tv f om).2.2;exact i7 λd fd=>?_
  exact WL _ rfl (WH pa _ dx _ _ rfl (aU.new fd _ _ hp) m.k12.cl m.UU JA (WU _ rfl ak (WU [(aA (p.thing:Int),V.ref D)] rfl (by show 1<=15;decide) ?_)));rw[je];let em:ni [] [((aA (p.thing:Int):ef),V.ref D)]=[(aA (p.thing:Int),V.ref D)]:=rfl;rw[em];obtain⟨H1,ay⟩:∃H1,H1=bD H d (.dK [((aA (p.thing:Int):ef),V.ref D)]):=⟨_,rfl⟩;let s1:aU H H1:=by rw[ay];exact aU.new fd
  let g1:H1 d=aa (.dK [((aA (p.thing:Int):ef),V.ref D)]):=by rw[ay];exact ak
  rw[<-ay];let Y:d≠A.td:=(aL t1 fd).symm;exact WJ A.td _ (s1 _ _ t1) dR λob=>?_;obtain⟨H2,a3⟩:∃H2,H2=bD H1 A.td (.frz ob (.dK B)):=⟨_,rfl⟩;rw[<-a3];let k2:∀b o,b≠A.td->H b=aa o->H2 b=aa o:=λb o hb e=>by rw[a3,aF hb];exact s1 _ _ e
  let g2:H2 A.td=aa (.frz ob (.dK B)):=by rw[a3];exact ak
  let cP:H2 d=aa (.dK [((aA (p.thing:Int):ef),V.ref D)]):=by rw[a3,aF Y];exact g1
  let kk:∀{H'},Kp (kW d) H2 H'->∀b o,b≠A.td->H b=aa o->H' b=aa o:=λkp b o hb e=>kp b o (aL e fd) (k2 b o hb e)
  let I:∀{b},¬A.rg b->b≠A.td:=λh e=>h (by rw[e];exact WA.r_td)
  exact WL _ rfl (WH A.a _ A.dx _ _ rfl (k2 _ _ n1 hw) m.k14.cl m.Um rfl (WS A.td ob _ rfl g2 ?_));exact Hd (λi σ H'=>∃(v4 v5 v6:Option V) (l:List (ef×V)),σ=[aa (.ref A.a),aa (.ref pa),aa (.ref D),aa (.ref d),v4,v5,v6]/\Kp (kW d) H2 H'/\H' d=aa (.dK l)/\Dk l/\l.length<=i+1/\∀n,eE l (aA n)=if n=(p.thing:Int)\/((aA n:ef)∈(B.take i).map (·.1)/\x3 W p f n=ae) then eE B (aA n) else ac)
   (WK ac ac ac _ rfl Kp.refl cP ⟨?_,?_⟩ (aH _) λn=>?_) (λi σ H' x'=>V42 x' λ_ _ _ _ _ kp _=>kp _ _ Y.symm g2) ?_ ?_
  ·exact bR.mpr ⟨by simp,jS⟩
  ·intro k' d0;exact((p.thing:Int),by simpa using d0)
  ·by_cases c:n=(p.thing:Int)
   ·rw[jN (.inl c),c,ie rfl,eo]
   ·rw[iQ (by rintro(q|q);exact c q;simp at q),gM (λq=>c (fF q).symm),sR]
  ·intro i k' v T σ H' hi x' d2;let(v4,v5,v6,l,rfl,kp,gd,dk,kl,hv):=x';let an:(k',v)∈B:=bj hi;let(n,rfl):=M.dk.2 k' (aM.mpr ⟨_,an,rfl⟩);let ev:=ph M.dk.1 an;let C:=M.at_ n;rw[ev] at C;obtain⟨t,ht,d3⟩:∃t,bg W.things n.toNat=aa t/\0<=n:=by
    unfold fT at C;by_cases h0:0<=n
    ·rw[jN h0] at C
     cases hx:bg W.things n.toNat with
     |none=>rw[hx] at C;exact C.elim
     |some t=>exact(t,rfl,h0)
    ·rw[iQ h0] at C;exact C.elim
   let ft:fT W.things n=aa (t.kind,t.vals):=by
    unfold fT;rw[jN d3,ht];rfl
   rw[ft] at C;let(ta,rfl,td,a4,r1,r2,h1,h2):=C;let h2:H a4=aa (.lst (iv t.vals)):=h2;let tm:=Sp.pL ht;let el:=Sp.m5 ht;let tv:=(ok.tv t tm).2.2;obtain⟨L,b1⟩:∃L,L=bD H' T (.tup [kV (aA n),.ref ta]):=⟨_,rfl⟩;let s3:aU H' L:=by rw[b1];exact aU.new d2
   let gT:L T=aa (.tup [kV (aA n),.ref ta]):=by rw[b1];exact ak
   rw[<-b1];let b2:Kp (kW d) H2 L:=kp.trans (Kp.of s3);let u:=kk b2;exact WN T _ rfl (o4.of gT) rfl (WB _ _ ⟨rfl,WJ _ _ rfl rfl ?_⟩);let d7:(eE cn (aA n)).isSome=p.near.contains t.id:=by
    rw[iL,bk.2.2,jb];constructor
    ·intro x';let(j,hj,e):=x';have:j=t.id:=⋯
     exact this▸hj
    ·intro h;exact(t.id,h,⋯)
   exact WL _ rfl (WL _ rfl (WH pa _ dx _ _ rfl (u _ _ n2 hp) m.k12.cl m.Uy vZ (WJ al _ rfl (gD.k (k:=aA n) (u _ _ ct cq)) (WL _ rfl ?_))));rw[d7];exact LU (K:=K) (i:=1) rfl (u _ _ n2 hp) m.k12.cl m.Vh m.Vg JC JB ?_;obtain⟨r,er⟩:∃r:Nat,r=(if p.near.contains t.id=ae then p.outer else p.inner):=⟨_,rfl⟩
   let d9:(if p.near.contains t.id=ae then V.int (p.outer:Nat) else V.int (p.inner:Nat))=V.int (r:Int):=by rw[er];split<;>rfl
   let da:r<=200000:=by rw[er];have:=po.io;have:=po.outer;split<;>omega
   rw[d9];let xo:XY K L O (dO f):=XY.of (u _ _ (I cv) ax) (by rw[ov.len];decide);let xt:XY K L a4 (dO t):=XY.of (u _ _ (I r2) h2) (by rw[tv.len];decide);let ar:=u _ _ (I cu) cx;let c6:=u _ _ (I r1) h1;let J:x3 W p f n=(kL (dO t) (dO f) r&& !Vbwsag.blocked W.walls (dO f) (dO t)):=by
    unfold x3 Sp.MH;rw[ht,er]
   let c7:(B.take (i+1)).map (·.1)=(B.take i).map (·.1)++[aA n]:=by
    rw[eB hi,bU];rfl
   let no:x3 W p f n=af->∀H4,aU L H4->∃(v4 v5 v6:Option V) (l:List (ef×V)),[aa (V.ref A.a),aa (.ref pa),aa (.ref D),aa (.ref d),aa (.int n),aa (.ref ta),aa (.int (r:Int))]=[aa (.ref A.a),aa (.ref pa),aa (.ref D),aa (.ref d),v4,v5,v6]/\Kp (kW d) H2 H4/\H4 d=aa (.dK l)/\Dk l/\l.length<=i+1+1/\∀n,eE l (aA n)=if n=(p.thing:Int)\/((aA n:ef)∈(B.take (i+1)).map (·.1)/\x3 W p f n=ae) then eE B (aA n) else ac:=λdb H4 s4=>by
    exact WK _ _ _ l rfl (b2.trans (Kp.of s4)) (s4 _ _ (s3 _ _ gd)) dk ⋯ λj=>?_;rw[hv j,c7];by_cases c:j=n
    ·subst c;rw[db];simp
    ·simp[c]
   exact WL _ rfl (WH ta _ td _ _ rfl c6 m.k11.cl m.Ul (gN _ _) (WL _ rfl (WH D _ od _ _ rfl ar m.k11.cl m.Ul (gN _ _) (WL _ rfl ?_))));exact WM a4 O (dO t) (dO f) r rfl xt xo ⟨tv.x,tv.y⟩ ⟨ov.x,ov.y⟩ da (WL _ rfl (Dg (λcw=>?_) λcw=>?_))
   ·exact WL _ rfl (WH A.a _ A.dx _ _ rfl (u _ _ n1 hw) m.k14.cl m.Ut rfl (WL _ rfl (WH D _ od _ _ rfl ar m.k11.cl m.Ul (gN _ _) (WL _ rfl (WH ta _ td _ _ rfl c6 m.k11.cl m.Ul (gN _ _) ?_)))));exact WG A.wl O a4 (dO f) (dO t) as W.walls ⟨rfl,u _ _ n3 a1,a9.mapP a2 λb x q=>u _ _ (I q.1) q.2,xo,xt,⟨ov.x,ov.y⟩,⟨tv.x,tv.y⟩,ok.wc,λH4 s4=>(WL _ rfl ?_)⟩;exact y9 (λcb=>?_) λcb=>?_
    ·let c8:x3 W p f n=ae:=by rw[J,cw,cb];rfl
     let dm:=s4 _ _ (s3 _ _ gd);exact WL _ rfl (WL _ rfl (WL _ rfl (WJ d _ rfl (uo.k (k:=aA n) dm (dI ?_)) ?_)))
     ·have:=(M.ris ok.rt).len;rw[aj] at this;let eq:=(bf.mp hi).1;have:=ok.tl;omega
     ·exact WK _ _ _ _ rfl ((b2.trans (Kp.of s4)).put rfl) ak (dk.put n _) ?_ λj=>?_
      ·exact bq (zk _ _ _) ⋯
      ·rw[vR,c7];by_cases c:j=n
       ·subst c;rw[jN rfl,jN (.inr ⟨by simp,c8⟩),ev]
       ·rw[iQ (λq=>c (fF q)),hv j];simp[c]
    ·exact no (by rw[J,cb];simp) H4 s4
   ·exact i7 (no (by rw[J,cw];rfl) L (aU.refl L))
  ·intro σ H' x';let(v4,v5,v6,l,rfl,kp,gd,dk,kl,hv):=x';rw[cg] at hv;exact(kp _ _ Y.symm g2,_,rfl,?_);let sH:aU H (bD H' A.td (.dK B)):=λb o e=>by
    by_cases q:b=A.td
    ·subst q;rw[ak,<-t1,e]
    ·rw[aF q];exact kk kp b o q e
   exact k _ d l sH fd (by rw[aF Y];exact gd) ⟨dk,λn=>?_⟩;let C:=(M.keep (Kp.of sH)).at_ n;let b3:(n=(p.thing:Int)\/((aA n:ef)∈B.map (·.1)/\x3 W p f n=ae))->eE l (aA n)=eE B (aA n):=λq=>by rw[hv n,jN q]
   let c9:¬(n=(p.thing:Int)\/((aA n:ef)∈B.map (·.1)/\x3 W p f n=ae))->eE l (aA n)=ac:=λq=>by rw[hv n,iQ q]
   unfold oJ;by_cases h0:0<=n
   ·let ms:=Sp.Pg ok.rt ok.ix (ws:=W.walls) ho po.io n.toNat;by_cases c:n.toNat∈rQ W.things W.index W.walls p
    ·rw[jN ⟨h0,c⟩];rcases ms.mp c with e|⟨t,ht,cc⟩
     ·rw[b3 (.inl ⋯)];exact C
     ·let z:x3 W p f n=ae:=by unfold x3;rw[ht];exact cc
      let ft:fT W.things n=aa (t.kind,t.vals):=by
       unfold fT;rw[jN h0,ht];rfl
      let(a,ea,_):=M.some_ ft;rw[b3 (.inr ⟨yn ea,z⟩)];exact C
    ·rw[iQ (λq=>c q.2),c9]
     ·exact dR
     ·rintro(e|⟨hm,z⟩)
      ·exact c (ms.mpr (.inl ⋯))
      ·unfold x3 at z
       cases hx:bg W.things n.toNat with
       |none=>rw[hx] at z;cases z
       |some t=>
        rw[hx] at z;exact c (ms.mpr (.inr ⟨t,hx,z⟩))
   ·rw[iQ (λq=>h0 q.1)];have:fT W.things n=ac:=by unfold fT;rw[iQ h0]
    by_cases c:(n=(p.thing:Int)\/((aA n:ef)∈B.map (·.1)/\x3 W p f n=ae))
    ·rw[b3 c,M.none_ this];exact dR
    ·rw[c9 c];exact dR
end
def Hw (kvs:List (ef×V)):ni kvs []=kvs:=rfl
def zl (kvs:List (ef×V))(p:ef×V)(r:List (ef×V)):ni kvs (p::r)=ni (jW kvs p.1 p.2) r:=rfl
theorem zm:∀{more kvs:List (ef×V)} {k:ef},(more.map (·.1)).Nodup->eE (ni kvs more) k=match eE more k with|some v=>aa v|none=>eE kvs k
 |[],kvs,k,_=>by rw[Hw,sR]
 |p::r,kvs,k,h=>by
  let(a,b):=bR.mp (by rw[bB] at h;exact h);rw[zl,zm b,vR];by_cases c:p.1=k
  ·rw[ie c,oQ.mpr (λq=>a (c▸q)),jN c.symm]
  ·rw[gM c,iQ (λq=>c q.symm)]
theorem Dk.merge:∀{more kvs:List (ef×V)},(∀k∈more.map (·.1),∃n:Int,k=aA n)->Dk kvs->Dk (ni kvs more)
 |[],_,_,h=>h
 |p::r,kvs,b,h=>by
  rw[zl];let(n,e):=b p.1 (by simp);rw[e];exact Dk.merge (λk a=>b k (by rw[bB];exact au _ a)) (h.put n _)
def E1 (h:∀n,n∈a↔n∈b)(n:Int):oJ l a n=oJ l b n:=by
 unfold oJ;simp only[h]
def AH {n:Int}(h:(oJ l a n).isSome=ae):0<=n/\n.toNat∈a/\(bg l n.toNat).isSome=ae:=by
 unfold oJ at h;split at h
 ·rename_i c;unfold fT at h;rw[jN c.1,ge] at h;exact(c.1,c.2,h)
 ·cases h
variable {R:Rg} {kvs:List (ef×V)}
def Gd (d:fZ C R H kvs (oJ l a))(c:Sp.rS l):kvs.length<=l.length:=by
 let(b,f,i,j):=d.dk.ks;let o:(kvs.map (·.1)).length=(b.map (aA:Int->ef)).length:=congrArg mz f;have:b.length<=(l.map λt=>(t.id:Int)).length:=jB i λn hn=>by
  have:=(j n).mp hn;rw[d.isSome] at this;let(r,s,p):=AH this;have:=(Sp.RB c).mpr p;let(t,q,e):=aM.mp this;exact aM.mpr ⟨t,q,by rw[e];omega⟩
 simp only[aj] at o this;omega
theorem fZ.merge {more:List (ef×V)}(d:fZ C R H kvs (oJ l a))(e:fZ C R H more (oJ l b)):fZ C R H (ni kvs more) (oJ l (oU a b)):=by
 exact(d.dk.merge e.dk.2,λn=>?_);rw[zm e.dk.1];let f:=d.at_ n;let c:=e.at_ n;let o:=Sp.Gx (a:=a) (b:=b) (m:=n.toNat);unfold oJ at f c⊢;by_cases c1:0<=n/\n.toNat∈b
 ·rw[jN c1] at c;rw[jN ⟨c1.1,o.mpr (.inr c1.2)⟩]
  cases j:eE more (aA n) with
  |some v=>rw[j] at c;exact c
  |none=>
   rw[j] at c;dsimp only;by_cases i:0<=n/\n.toNat∈a
   ·rw[jN i] at f;exact f
   ·rw[iQ i] at f
    cases p:fT l n with
    |none=>rw[p] at c;exact f
    |some r=>rw[p] at c;exact c.elim
 ·rw[iQ c1] at c
  cases j:eE more (aA n) with
  |some v=>rw[j] at c;exact c.elim
  |none=>
   dsimp only;by_cases i:0<=n/\n.toNat∈a
   ·rw[jN i] at f;rw[jN ⟨i.1,o.mpr (.inl i.2)⟩];exact f
   ·rw[iQ i] at f;rw[iQ]
    ·exact f
    ·intro x';let(q,s):=x';rcases o.mp s with h|h
     ·exact i ⟨q,h⟩
     ·exact c1 ⟨q,h⟩
def fZ.upd_dK {kd:List (ef×V)}{f:TF}{d:Addr}{o:HO}(h:fZ C R H kvs f)(b:H d=aa (.dK kd)):fZ C R (bD H d o) kvs f:=by
 exact(h.dk,λn=>?_);let t:=h.at_ n;generalize eE kvs (aA n)=v at t⊢;generalize f n=r at t⊢;cases v<;>cases r
 ·exact t
 ·exact t
 ·exact t
 ·let(a,e,dx,j,l,p,c,i):=t;exact(a,e,WN dx j l p ?_ ?_)
  ·rw[aF (jf c b (by intro z;cases z))];exact c
  ·rw[aF (jf i b (by intro z;cases z))];exact i
def fZ.mono (d:fZ C R H kvs (oJ l a))(h:∀n,n∈a↔n∈b):fZ C R H kvs (oJ l b):=d.of_eq λn=>E1 h n
section
variable {P:aO} {w:World} {K:am} {mg:Str->Option ag} {base:Heap} (m:Mo K mg)
def zO (m:Mo K mg)(R:Rg)(H:Hp)(l:List aN)(v:V)(q:aq):Prop:=∃(a dx al se c wa sn:Addr) (b:List (ef×V)),v=.ref a/\EZ m H a dx q al se c wa sn/\H al=aa (.dK b)/\fZ (m.cl 11) R H b (oJ l q.near)
def ON (m:Mo K mg):Sp:=λj H Q _=>∃(A:WA) (W:aZ) (N:Nat) (pa:Addr) (p:aq) (l:Obj) (f:List (ef×V)) (o r s u t:V) (c i:List aq),j=[.ref A.a,.ref pa]/\uE N W/\
 H A.a=aa (.ins (m.cl 14) A.dx (wf t r s u (.ref A.pd) o))/\H A.pd=aa (.frz l (.dK f))/\zO m A.rg H W.things (.ref pa) p/\a9 (λe q=>zO m A.rg H W.things e.2 q) f c/\(∀q,q∈c↔q∈i)/\c.length<=8/\
 ∀b d kvs,aU H b->H d=ac->b d=aa (.dK kvs)->fZ (m.cl 11) A.rg b kvs (oJ W.things (ij i p))->Q (.ref d) b
def Q5:bo ["world","player","seen","other"] ["world","player"] (aP (ig 87)):=jY
def OO {X:Cx}{o e:Expr}{i te:TE}{b a:Pos}(l:PE X o i)(p:PE X e te)(c:fY o "update" X.env (eval o X.env)=eval o X.env:=by rfl)
  (f:((iO a (bp [e] X.env)).all (λx=> !x.1)&&(uu a (nL [] X.env)).all (λx=>x.1.isSome)&&decide (([e]:List Expr).length+([]:List lZ).length+(if([]:List lZ).isEmpty then 0 else 1)<30))=ae:=by rfl)
  (d:(b.endLine==a.line)=ae:=by rfl) (j:bp [e] X.env=(af,eval e X.env)::bp [] X.env:=by rfl):
  PE X (.Call (.Attribute o "update" b) [e] [] a) (PP X.K "dict" FZ i (vN te Bo)):=FH lS PySem.F.slot_dict_update PySem.F.type_dict_update He l (aS p ng j) c f d j rfl
include m in
def Tw:du P w K mg base jw 1 (m.fn 87) (m.fd 87) ["world","player"] (ON m):=by
 exact m.d87.F.ok Q5 (λvs H Q E h=>?_) (λb6 A a2 s H vs Q E hr h=>?_)
 ·let(_,_,_,_,_,_,_,_,_,_,_,_,_,_,rfl,_):=h;rfl
 let(A,W,N,pa,p,ob,kP,mi,td,wl,rk,t,L,ps,rfl,ok,hw,u,(a_,dx,al,se,to,wa,sn,b,e_,hp,a5,M),hq,hm,bk,k):=h;cases e_;let nd:=Q5.nd;exact⟨_,ao (sT 2 nd (nh zb (by rfl) m.Vr boot_dict (cU (fl (pv 1)))))
  (ao (dG (df lD (fl (pv 1)) be (dS _)) (rt (pv 2)) bS)
  (ao (kj cQ rfl (ua (fl (pv 0))) (fC (i:=3) nd rfl (eu rfl))
   (bN (dG (df lD (fl (pv 3)) (fl (pv 1)) (dS _)) (bN (gL (OO (pv 2) (fl (pv 3))))) bS)))
  (rt (pv 2)))),?_⟩
 exact WL _ rfl (WH pa _ dx _ _ rfl hp m.k12.cl m.Uy vZ (WJ al b rfl (.inl a5) λd y=>?_));let e:=aU.new (o:=.dK b) y;obtain⟨O,T⟩:∃O,O=bD H d (.dK b):=⟨_,rfl⟩;let g1:O d=aa (.dK b):=by rw[T];exact ak
 rw[<-T] at e⊢;exact WL _ rfl (WM pa _ dx _ _ rfl (e _ _ hp) m.k12.cl m.UJ BI rfl (WL _ rfl (fO (λc=>?_) λc=>?_)))
 ·let c:p.team=0:=by have:=V.int.inj c;omega
  exact WL _ rfl (k O d b e y g1 ((M.keep (Kp.of e)).mono λn=>?_));unfold ij;rw[Sp.BN];constructor
  ·exact .inl
  ·rintro(h|⟨q,_,h,_⟩)
   ·exact h
   ·unfold lq at h;rw[c] at h;cases h
 ·let c:p.team≠0:=λq=>c (by rw[q];rfl)
  let Y:kP.length=L.length:=cB hq;exact WL _ rfl (WH A.a _ A.dx _ _ rfl (e _ _ hw) m.k14.cl m.Uo rfl (WS A.pd ob _ rfl (e _ _ u) ?_));exact za (λi σ f=>∃(v:Option V) (kvs:List (ef×V)),σ=[aa (.ref A.a),aa (.ref pa),aa (.ref d),v]/\Kp (kW d) O f/\f d=aa (.dK kvs)/\fZ (m.cl 11) A.rg f kvs (oJ W.things ((L.take i).foldl (λs q=>if lq p q=ae then oU s q.near else s) p.near)))
   (WN ac b rfl Kp.refl g1 (M.keep (Kp.of e))) (λi σ f x'=>V22 x' λ_ _ _ B _=>B _ _ (aL u y) (e _ _ u)) ?_ ?_
  ·intro i kk x σ f hi x';let(v,kvs,rfl,B,I,J):=x';let(q,ab,a',a0,a1,bm,bu,bx,b',b2,rfl,ho,l,r):=a9.at_ hq hi;let C:aU H f:=Kp.same_one e B y;let j:(L.take (i+1)).foldl (λs q=>if lq p q=ae then oU s q.near else s) p.near=(if lq p q=ae then oU ((L.take i).foldl (λs q=>if lq p q=ae then oU s q.near else s) p.near) q.near else(L.take i).foldl (λs q=>if lq p q=ae then oU s q.near else s) p.near):=by
    rw[eB ab,qI];rfl
   let em:lq p q=decide (q.team=p.team):=by
    unfold lq;rw[iL,ca,bne_iff_ne,beq_iff_eq,decide_eq_true_eq];exact(λh=>h.2.symm,λh=>⟨c,h.symm⟩)
   exact WL _ rfl (WH a' _ a0 _ _ rfl (C _ _ ho) m.k12.cl m.UJ BI (WL _ rfl (WM pa _ dx _ _ rfl (C _ _ hp) m.k12.cl m.UJ BI rfl (WL _ rfl (fO (λD=>?_) λD=>?_)))))
   ·let D:q.team=p.team:=by have:=V.int.inj D;omega
    rw[em,decide_eq_true D,jN rfl] at j;let an:d≠a1:=(aL l y).symm;exact WU _ rfl ?_ (WL _ rfl (WH a' _ a0 _ _ rfl (C _ _ ho) m.k12.cl m.Uy vZ (WK d a1 _ _ rfl rfl an I (.inl (C _ _ l)) ⟨?_,?_⟩)))
    ·exact .inr (.inr (.inl ⟨rfl,.inl ⟨_,I⟩⟩))
    ·let l1:=Gd J ok.rt;let l2:=Gd r ok.rt;have:=ok.tl;exact dY (dI ⋯)
    ·exact WN _ _ rfl (B.put rfl) ak ?_;rw[j];exact(J.merge (r.keep (Kp.of C))).upd_dK I
   ·let D:¬q.team=p.team:=λz=>D (by rw[z])
    rw[em,decide_eq_false D,iQ (by simp)] at j;exact WN _ _ rfl B I (by rw[j];exact J)
  ·intro σ f x';let(v,kvs,rfl,B,I,J):=x';rw[Y,cg] at J;let C:aU H f:=Kp.same_one e B y;exact(_,rfl,k f d kvs C y I (J.mono λn=>?_));unfold ij;rw[Sp.BN,Sp.BN];constructor
   ·rintro(h|⟨q,h1,h2⟩)
    ·exact .inl h
    ·exact .inr ⟨q,(hm q).mp h1,h2⟩
   ·rintro(h|⟨q,h1,h2⟩)
    ·exact .inl h
    ·exact .inr ⟨q,(hm q).mpr h1,h2⟩
end
theorem my:∀{ps:List (Int×Addr×Addr)},(ps.flatMap λx=>[x.2.1,x.2.2]).Nodup->∀{x y:Int×Addr×Addr},x∈ps->y∈ps->x.2.1≠x.2.2/\(x≠y->x.2.1≠y.2.1/\x.2.1≠y.2.2/\x.2.2≠y.2.1/\x.2.2≠y.2.2)
 |[],_,_,_,h,_=>by cases h
 |z::ps,h,x,y,r,a=>by
  rw[dN,qJ] at h;let(l,o,d):=h;let b:z.2.1≠z.2.2:=by
   intro e;rw[bR] at l;exact l.1 (by rw[e];exact aD ..)
  let c:∀y∈ps,z.2.1≠y.2.1/\z.2.1≠y.2.2/\z.2.2≠y.2.1/\z.2.2≠y.2.2:=λy a=>by
   let p:y.2.1∈ps.flatMap λx=>[x.2.1,x.2.2]:=lw.mpr ⟨y,a,by simp⟩
   let q:y.2.2∈ps.flatMap λx=>[x.2.1,x.2.2]:=lw.mpr ⟨y,a,by simp⟩
   exact(d _ (by simp) _ p,d _ (by simp) _ q,d _ (by simp) _ p,d _ (by simp) _ q)
  rcases az.mp r with f|hx2
  ·exact(by rw[f];exact b,λi=>?_);rcases az.mp a with j|hy2
   ·exact aB (f.trans j.symm) i
   ·rw[f];exact c y hy2
  ·rcases az.mp a with j|hy2
   ·exact((my o hx2 hx2).1,λ_=>?_);have:=c x hx2;rw[j];exact(this.1.symm,this.2.2.1.symm,this.2.1.symm,this.2.2.2.symm)
   ·exact my o hx2 hy2
def yu (d:fZ C R H kvs (oJ l ns))(b:Sp.wC ns)(c:∀n∈ns,(bg l n).isSome=ae):qg kvs ns:=by
 exact(d.dk,b,λn=>?_);rw[d.isSome];constructor
 ·intro h;let(f,e,_):=AH h;exact(_,e,⋯)
 ·intro x';let(j,a,rfl):=x';unfold oJ fT;rw[jN ⟨⋯,by simpa using a⟩,jN ⋯,show((j:Nat):Int).toNat=j by omega,ge]
  exact c j a
def rq {x:Cb}(b:Sp.rS l)(c:Sp.uv l x){ws:List dU}(d:p.inner<=p.outer):∀n∈rQ l x ws p,(bg l n).isSome=ae:=by
 intro n hn
 cases a:bg l p.thing with
 |none=>rw[Sp.OM a] at hn;cases hn
 |some e=>
  rcases(Sp.Pg b c a d n).mp hn with rfl|⟨t,f,_⟩
  ·rw[a];rfl
  ·rw[f];rfl
def qj (D:Nat->Bool)(f:aq->aq)(l:List (Nat×aq)):List (Nat×aq):=l.map λx=>if D x.1=ae then(x.1,f x.2) else x
theorem DH (D:Nat->Bool)(f:aq->aq)(n:Nat):∀l:List (Nat×aq),rX (qj D f l) n=(rX l n).map λp=>if D n=ae then f p else p
 |[]=>rfl
 |x::l=>by
  show rX ((if D x.1=ae then(x.1,f x.2) else x)::qj D f l) n=_
  rw[jc,jc];let e:(if D x.1=ae then(x.1,f x.2) else x).1=x.1:=by split<;>rfl
  rw[e];by_cases c:x.1=n
  ·rw[jN c,jN c,<-c];show aa _=aa _;split<;>rfl
  ·rw[iQ c,iQ c];exact DH D f n l
def gO (W:aZ)(D:Nat->Bool)(f:aq->aq)(j:Int):aJ {W with players:=qj D f W.players} j=(aJ W j).map λp=>if D j.toNat=ae then f p else p:=by
 rw[eF,eF];by_cases c:j<0
 ·rw[jN c,jN c];rfl
 ·rw[iQ c,iQ c];exact DH D f _ _
def tD {D:Nat->Bool}{f:aq->aq}{l:List (Nat×aq)}(h:∀x∈l,D x.1=ae):qj D f l=l.map λx=>(x.1,f x.2):=lK λx a=>by rw[jN (h x a)]
def w9 {D:Nat->Bool}{f:aq->aq}{l:List (Nat×aq)}(h:∀x∈l,D x.1=af):qj D f l=l:=by
 unfold qj;conv=>rhs;rw[<-qQ l]
 exact lK λx a=>by rw[iQ (by rw[h x a];simp)];rfl
variable {H':Hp}
section
variable {P:aO} {w:World} {K:am} {mg:Str->Option ag} {base:Heap} (m:Mo K mg)
def WR.put1 {m:Mo K mg}{A:WA}{W:aZ}(w:WR m H A W){n:Int}{f:Addr}{p':aq}{J:List (Nat×aq)}(i:(n,pa,f)∈A.ps)(l:∀b o,b≠pa->b≠f->b≠A.tb->H b=aa o->H' b=aa o)(p:uq qh BK A.rg H' A.tb)(y:JD (m.cl 11) (m.cl 12) A.rg H' pa f p')(T:∀kvs,H A.pd=aa (.dK kvs)->eE kvs (aA n)=aa (.ref pa))(Y:∀j,aJ {W with players:=J} j=if j=n then aa p' else aJ W j):WR m H' A {W with players:=J}:=by
 let D:=A.ds w.nd;let Dp:=D.ps _ i;let k:Kp A.rg H H':=λb o nb e=>l b o (λq=>nb (by rw[q];exact(WA.r_ps i).1)) (λq=>nb (by rw[q];exact(WA.r_ps i).2)) (λq=>nb (by rw[q];exact WA.r_tb)) e
 let(kT,t1,t2):=w.th;let(as,a1,a2):=w.wa;let(z,L,p2,p3):=w.pl;let st:∀b∈[A.a,A.td,A.wl,A.rk,A.pd],∀o,H b=aa o->H' b=aa o:=λb d o e=>by
  let r:b∈[A.a,A.td,A.wl,A.rk,A.pd,A.tb]:=by
   simp only[az,bc,or_false] at d⊢;rcases d with h|h|h|h|h
   ·exact .inl h
   ·exact .inr (.inl h)
   ·exact .inr (.inr (.inl h))
   ·exact .inr (.inr (.inr (.inl h)))
   ·exact .inr (.inr (.inr (.inr (.inl h))))
  exact l b o (Dp b r).1.symm (Dp b r).2.symm ?_ e;simp only[az,bc,or_false] at d;rcases d with rfl|rfl|rfl|rfl|rfl
  ·exact D.a_tb
  ·exact D.td_tb
  ·exact D.wl_tb
  ·exact D.rk_tb
  ·exact D.pd_tb
 exact(w.nd,λb d=>?_,w.tbl,st _ (by simp) _ w.obj,⟨kT,st _ (by simp) _ t1,t2.keep k⟩,⟨as,st _ (by simp) _ a1,a2.keep k⟩,st _ (by simp) _ w.rk,⟨z,st _ (by simp) _ L,p2,λj=>?_⟩,w.mi.keep k,p)
 ·by_cases M:b=pa
  ·let(_,_,_,_,_,_,_,_,_,e,_):=y;exact(_,by rw[M];exact e)
  ·by_cases N:b=f
   ·let(_,_,_,_,_,_,_,_,_,_,e,_):=y;exact(_,by rw[N];exact e)
   ·by_cases O:b=A.tb
    ·let(_,e,_):=p;exact(_,by rw[O];exact e)
    ·let(o,e):=w.live b d;exact(o,l b o M N O e)
 ·rw[Y j];by_cases c:j=n
  ·rw[jN c,c,T z L];exact WJ pa f rfl i y
  ·rw[iQ c];let h:=p3 j
   cases Q:eE z (aA j) with
   |none=>rw[Q] at h;cases u:aJ W j with
    |none=>exact dR
    |some q=>rw[u] at h;exact h.elim
   |some v=>
    rw[Q] at h
    cases u:aJ W j with
    |none=>rw[u] at h;exact h.elim
    |some q=>
     rw[u] at h;let(B,C,e1,E,I):=h;let x:=(my D.pp E i).2 (λe=>c (congrArg xI e));let s:=D.ps _ E A.tb (by simp);exact WJ B C e1 E (I.keep k ?_ ?_)
     ·let(_,_,_,_,_,_,_,_,_,e,_):=I;exact(l _ _ x.1 x.2.1 s.1 e).trans e.symm
     ·let(_,_,_,_,_,_,_,_,_,_,e,_):=I;exact(l _ _ x.2.2.1 x.2.2.2 s.2 e).trans e.symm
end
variable {kP:List (ef×V)}
section
variable {P:aO} {w:World} {K:am} {mg:Str->Option ag} {base:Heap} (m:Mo K mg)
def E2 (m:Mo K mg)(R:Rg)(H:Hp)(pa:Addr)(l:List aN)(ns:List Nat):Prop:=∃(dx:Addr) (b:List (Str×V)) (se:Addr) (a:List (ef×V)),H pa=aa (.ins (m.cl 12) dx b)/\b.lookup ("seen":Str)=aa (.ref se)/\¬R se/\H se=aa (.dK a)/\fZ (m.cl 11) R H a (oJ l ns)
def tF (W:aZ)(p:aq):aq:={p with near:=rQ W.things W.index W.walls p}
def ow (W:aZ)(p:aq):aq:={p with sees:=ij ((gk W).map λy=>y.2) p}
def W1 (W:aZ):aZ:={W with players:=gk W}
def W2 (W:aZ):aZ:={W with players:=A0 (gk W)}
def iR (kP:List (ef×V))(i:Nat)(n:Nat):Bool:=(kP.take i).any λe=>decide (e.1=aA (n:Int))
def uf:iR kP i n=ae↔(aA (n:Int):ef)∈(kP.take i).map (·.1):=by
 unfold iR;rw[lA,aM];constructor
 ·intro x';let(e,a,b):=x';exact(e,a,of_decide_eq_true b)
 ·intro x';let(e,a,b):=x';exact(e,a,decide_eq_true b)
def OP (m:Mo K mg):Sp:=λb H Q _=>∃(A:WA) (W:aZ) (N:Nat),b=[.ref A.a]/\WR m H A W/\uE N W/\
 ∀H' kP,WR m H' A (W2 W)->Kp A.rg H H'->H' A.pd=aa (.dK kP)->(∀n pa q,eE kP (aA n)=aa (.ref pa)->aJ (W2 W) n=aa q->E2 m A.rg H' pa W.things q.sees)->Q .non H'
def Q6:bo ["world","player"] ["world"] (aP (ig 88)):=jY
theorem zO.keep {m:Mo K mg}{v:V}{q:aq}(h:zO m R H l v q)(k:Kp R H H')(i:∀a,v=.ref a->H' a=H a)(c:∀a dx al se b wa sn,v=.ref a->EZ m H a dx q al se b wa sn->¬R al):zO m R H' l v q:=by
 let(a,dx,al,se,b,wa,sn,d,e,f,j,o):=h;exact WG a dx al se b wa sn ⟨d,e,(i a e).trans f,k _ _ (c a dx al se b wa sn e f) j,o.keep k⟩
theorem Q7 {W:aZ}:∀{kP:List (ef×V)},(∀e∈kP,∃n pa q,e=(aA n,V.ref pa)/\aJ W n=aa q)->∃a,a9 (λ(e:ef×V) q=>∃n pa,e=(aA n,V.ref pa)/\aJ W n=aa q) kP a
 |[],_=>⟨[],.nil⟩
 |e::kP,h=>by
  let(a,c):=Q7 (kP:=kP) λd b=>h d (au _ b)
  let(n,pa,q,rfl,hw):=h e (aD ..);exact(q::a,.cons ⟨n,pa,rfl,hw⟩ c)
def Ge {m:Mo K mg}{b:Addr}{q j:aq}{l a c d f i:Addr}(h:EZ m H pa dx q al se l wa sn)(h':EZ m H pa b j a c d f i):al=a:=by
 let e:=(HO.ins.inj (a6 (h.symm.trans h'))).2.2;have:=congrArg (λo=>jz ("alone":Str) o) e;exact V.ref.inj (a6 this)
theorem a9.mem_right {α β:Type}{F:α->β->Prop}:∀{l₁:List α} {l₂:List β} {y:β},a9 F l₁ l₂->y∈l₂->∃x∈l₁,F x y
 |_,_,_,.cons a b,h=>by
  rcases az.mp h with rfl|h
  ·exact(_,aD ..,a)
  ·let(x,c,d):=a9.mem_right b h;exact(x,au _ c,d)
theorem a9.mem_left {α β:Type}{F:α->β->Prop}:∀{l₁:List α} {l₂:List β} {x:α},a9 F l₁ l₂->x∈l₁->∃y∈l₂,F x y
 |_,_,_,.cons a b,h=>by
  rcases az.mp h with rfl|h
  ·exact(_,aD ..,a)
  ·let(y,c,d):=a9.mem_left b h;exact(y,au _ c,d)
def Kp.unl {A:WA}{o:HO}:Kp A.rg (bD H A.pd o) H:=λb u n e=>by
 rw[aF (λq=>n (by rw[q];exact WA.r_pd))] at e;exact e
def ug {n:Int}{v:V}(h:kP[i]?=aa (aA n,v))(_:0<=n)(j:Nat):iR kP (i+1) j=(iR kP i j||decide ((j:Int)=n)):=by
 rw[iL,iM,uf,uf,eB h,bU,decide_eq_true_eq,cF];constructor
 ·rintro(q|q)
  ·exact .inl q
  ·right
   have:(aA (j:Int):ef)=aA n:=by simpa using q
   exact fF this
 ·rintro(q|q)
  ·exact .inl q
  ·right
   rw[q];simp
def DI (hn:(kP.map (·.1)).Nodup){n:Int}{v:V}(h:kP[i]?=aa (aA n,v))(b:0<=n):iR kP i n.toNat=af:=by
 rw[Bool.eq_false_iff,ne_eq,uf,show((n.toNat:Nat):Int)=n by omega];intro q;let e:kP.map (·.1)=(kP.take i).map (·.1)++(kP.drop i).map (·.1):=by rw[<-bU,i8]
 rw[e,qJ] at hn;let a:=(bf.mp h);exact hn.2.2 _ q (aA n) ?_ rfl;rw[fX a.1,a.2];exact aD ..
def DJ {W:aZ}(hn:(kP.map (·.1)).Nodup){n:Int}{v:V}(h:kP[i]?=aa (aA n,v))(a:aJ W n=aa p)(f:aq->aq)(j:Int):
  aJ {W with players:=qj (iR kP (i+1)) f W.players} j=if j=n then aa (f p) else aJ {W with players:=qj (iR kP i) f W.players} j:=by
 let b:0<=n:=by
  rw[eF] at a;by_cases c:n<0
  ·rw[jN c] at a;cases a
  ·omega
 rw[gO,gO];by_cases c:j=n
 ·subst c;rw[jN rfl,a];show aa (if iR kP (i+1) j.toNat=ae then f p else p)=aa (f p)
  rw[ug h b,show((j.toNat:Nat):Int)=j by omega,decide_eq_true rfl,Bool.or_true,jN rfl]
 ·rw[iQ c];by_cases c0:j<0
  ·rw[eF,jN c0];rfl
  ·rw[ug h b,decide_eq_false (by omega:¬((j.toNat:Nat):Int)=n),qV]
include m in
def Tx:du P w K mg base jw 6 (m.fn 88) (m.fd 88) ["world"] (OP m):=by
 exact m.d88.F.ok Q6 (λvs H Q E h=>?_) (λh0 A fk s H vs Q E hr h=>?_)
 ·let(_,_,_,rfl,_):=h;rfl
 let(A,W,N,rfl,wr,Y,k):=h;let nd:=Q6.nd;let D:=A.ds wr.nd;let(kP,p1,p2,p3):=wr.pl;exact⟨_,ao (Bx (kj cQ rfl (ua (fl (pv 0))) (fC (i:=1) nd rfl (eu rfl))
   (bN (fN (pv 1) (dA m.d86 (Tv m) hr (aS (pv 0) (cU (pv 1)))) rfl))))
  (bN (Bx (kj cQ rfl (ua (fl (pv 0))) (fC (i:=1) nd rfl (eu rfl))
   (bN (fN (pv 1) (dA m.d87 (Tw m) (hr.mono (by decide)) (aS (pv 0) (cU (pv 1)))) rfl))))),?_⟩
 let dy:∀{i:Nat} {k':ef} {v:V},kP[i]?=aa (k',v)->∃n pa to p,k'=aA n/\v=.ref pa/\(n,pa,to)∈A.ps/\aJ W n=aa p/\eE kP (aA n)=aa (.ref pa):=λ{i k' v} hi=>by
  let cy:(k',v)∈kP:=bj hi;let(n,rfl):=p2.2 k' (aM.mpr ⟨_,cy,rfl⟩);let ev:=ph p2.1 cy;let h:=p3 n;rw[ev] at h
  cases f:aJ W n with
  |none=>rw[f] at h;exact h.elim
  |some p=>
   rw[f] at h;let(pa,to,rfl,e2,_):=h;exact WI n pa to p rfl rfl e2 f ev
 let uk:∀{n T:Int} {pa:Addr},eE kP (aA n)=aa (.ref pa)->eE kP (aA T)=aa (.ref pa)->n=T:=λ{n T pa} h h'=>by
  let q:=p3 n;let q':=p3 T;rw[h] at q;rw[h'] at q'
  cases f:aJ W n with
  |none=>rw[f] at q;exact q.elim
  |some p=>
   cases j:aJ W T with
   |none=>rw[j] at q';exact q'.elim
   |some p'=>
    rw[f] at q;rw[j] at q';let(a,t,e1,e2,_):=q;let(a',t',bl,fo,_):=q';cases e1;cases bl;by_cases c:n=T
    ·exact c
    ·exact aB rfl ((my D.pp e2 fo).2 (λe=>c (congrArg xI e))).1
 let dT:=pT (W:=W) Y.pr p2 λn=>(p3 n).isSome
 let all_done:∀x∈W.players,iR kP kP.length x.1=ae:=λx B=>by
  rw[uf,cg];have:=(dT.2.2 (x.1:Int)).mpr ⟨x.1,aM.mpr ⟨x,B,rfl⟩,rfl⟩;let(v,I):=bF.mp this;exact yn I
 let b1:∀x∈W.players,iR kP 0 x.1=af:=λx _=>by unfold iR;simp
 exact WJ A.pd _ p1 dR λob=>?_;let h5:∀{H'},bD H' A.pd (.frz ob (.dK kP)) A.pd=aa (.frz ob (.dK kP)):=ak;exact WL _ rfl (WH A.a _ A.dx _ _ rfl ((aF D.a_pd).trans wr.obj) m.k14.cl m.Uo rfl (WS A.pd ob _ rfl ak ?_));exact za (λi σ H'=>∃v:Option V,σ=[aa (.ref A.a),v]/\H' A.pd=aa (.frz ob (.dK kP))/\WR m (bD H' A.pd (.dK kP)) A {W with players:=qj (iR kP i) (tF W) W.players}/\Kp A.rg H H'/\
   ∀n pa q,eE kP (aA n)=aa (.ref pa)->aJ W n=aa q->iR kP i n.toNat=ae->zO m A.rg H' W.things (.ref pa) (tF W q))
  ⟨ac,rfl,ak,?_,Kp.refl.put WA.r_pd,λn pa q _ _ h=>?_⟩ (λi σ H' x'=>V12 x' λ_ _ h _=>h) ?_ ?_
 ·rw[je,w9 b1,show bD H A.pd (.dK kP)=H from funext λb=>by
   by_cases c:b=A.pd
   ·rw[c,ak,p1]
   ·rw[aF c]]
  exact wr
 ·unfold iR at h;simp at h
 ·intro i k' v σ H' hi x';let(v0,rfl,a0,wi,bm,M):=x';let(n,pa,to,p,rfl,rfl,B,cn,I):=dy hi;let(po,pm,bu):=kR Y cn;let c':=DI p2.1 hi bu;let(dV,q1,q2,q3):=wi.pl;let bx:aJ {W with players:=qj (iR kP i) (tF W) W.players} n=aa p:=by
   rw[gO,cn];show aa (if iR kP i n.toNat=ae then tF W p else p)=aa p
   rw[iQ (by rw[c'];simp)]
  rw[ak] at q1;cases q1;let b':=q3 n;rw[I,bx] at b';let(r,J,c3,c4,dx,al,se,wa,sn,co,d1,cp,cq,e1,e2,(r1,r2,r3,r4),e3,e4,e5,e6,e7,e8,e9,d3):=jK b';cases c3;obtain rfl:to=J:=by
   by_cases c:to=J
   ·exact c
   ·exact aB rfl ((my D.pp B c4).2 (λe=>c (congrArg (λz=>z.2.2) e))).1
  let Dp:=D.ps _ B;let C:pa≠A.pd:=(Dp A.pd (by simp)).1;let cs:∀{b},¬A.rg b->b≠A.pd:=λh e=>h (by rw[e];exact WA.r_pd)
  let rd:∀{b o},b≠A.pd->bD H' A.pd (.dK kP) b=aa o->H' b=aa o:=λhb e=>by rw[aF hb] at e;exact e
  let(kT,t1,t2):=wi.th;let(as,a1,a2):=wi.wa;exact WL _ rfl (WL _ rfl (WG A W N pa dx al se (WG to wa sn p co _ _ ⟨rfl,Y,po,rd D.a_pd wi.obj,⟨kT,rd D.td_pd t1,t2.keep Kp.unl⟩,⟨as,rd D.wl_pd a1,a2.keep Kp.unl⟩,rd C e1,r1,rd (cs r1) e3,e4,D.a_td,(Dp A.td (by simp)).1,D.td_wl.symm,λH2 d kvs s2 fd gd dd=>?_⟩)));let bl:=s2 _ _ (rd C e1);exact WL _ rfl (WK pa _ dx _ rfl bl m.k12.cl m.Uy (by show 10<1000;decide) ?_);rw[BJ];obtain⟨o,eo⟩:∃o,o=HO.ins (m.cl 12) dx (pf (.int p.thing) (.int p.team) (.int p.inner) (.int p.outer) (.int p.budget) (.ref d) (.ref se) (.ref to) (.ref wa) (.ref sn)):=⟨_,rfl⟩;rw[<-eo];let b5:¬A.rg d:=λq=>by
   let(o,e):=wi.live d q;by_cases c:d=A.pd
   ·rw[c,a0] at fd;cases fd
   ·rw[rd c e] at fd;cases fd
  let c6:d≠pa:=(aL (rd C e1) fd).symm;let L:Kp A.rg H' (bD H2 pa o):=(Kp.of s2).put (WA.r_ps B).1;let sU:aU (bD H' A.pd (.dK kP)) (bD H2 A.pd (.dK kP)):=λb u e=>by
   by_cases c:b=A.pd
   ·rw[c,ak] at e⊢;exact e
   ·rw[aF c] at e⊢;exact s2 b u e
  let w2:=wi.same sU;let ec:bD (bD H2 pa o) A.pd (.dK kP)=bD (bD H2 A.pd (.dK kP)) pa o:=funext λb=>by
   by_cases c:b=A.pd
   ·rw[c,ak,aF C.symm,ak]
   ·rw[aF c];by_cases c2:b=pa
    ·rw[c2,ak,ak]
    ·rw[aF c2,aF c2,aF c]
  let kU:Kp A.rg (bD H2 A.pd (.dK kP)) (bD (bD H2 A.pd (.dK kP)) pa o):=Kp.refl.put (WA.r_ps B).1;let c7:=yu dd (Sp.Pe Y.rt Y.ix W.walls p) (rq Y.rt Y.ix po.io);exact(_,rfl,?_,?_,bm.trans L,λT r q l j c8=>?_)
  ·rw[aF C.symm];exact s2 _ _ a0
  ·rw[ec];let ax:∀b u,¬A.rg b->bD H' A.pd (.dK kP) b=aa u->bD (bD H2 A.pd (.dK kP)) pa o b=aa u:=λb u nb e=>kU b u nb (sU b u e)
   exact w2.put1 (p':=tF W p) B (λb u c1 _ _ e=>by rw[aF c1];exact e) (w2.tb.keep kU (aF (Dp A.tb (by simp)).1.symm)) ⟨dx,d,se,wa,sn,kvs,d1,cp,cq,by rw[ak,eo];rfl,?_,⟨b5,r2,r3,r4⟩,?_,c7,ax _ _ r2 e5,e6,?_,ax _ _ r3 e8,e9,ax _ _ r4 d3⟩ (λeh h=>?_) (DJ p2.1 hi cn (tF W))
   ·rw[aF (my D.pp B B).1.symm];exact sU _ _ e2
   ·rw[aF c6,aF (cs b5)];exact gd
   ·exact(e7.keep (Kp.of sU)).keep kU
   ·rw[ak] at h;cases h;exact I
  ·by_cases c:T=n
   ·subst c;rw[I] at l;cases l;rw[cn] at j;cases j;exact WG pa dx d se to wa sn ⟨kvs,rfl,?_,?_,dd.keep (Kp.refl.put (WA.r_ps B).1)⟩
    ·show bD H2 pa o pa=_;rw[ak,eo];rfl
    ·rw[aF c6];exact gd
   ·let c9:r≠pa:=λe=>c (uk (by rw[l,e]) I)
    let d6:iR kP i T.toNat=ae:=by
     rw[ug hi bu,iM] at c8;rcases c8 with h|h
     ·exact h
     ·let(_,_,gT):=kR Y j;rw[decide_eq_true_eq] at h;omega
    let(a,a5,b6,ab,J,cu,cv,b2,ea,h1,h2,h3):=M T r q l j d6;cases ea;let b3:¬A.rg b6:=by
     let an:=q3 T;rw[l,gO,j] at an;let(ei,ej,ay,cc,ek,el,ep,eq,er,d8,d9,da,db,f1,_,(de,_),_):=jK an;cases ay;let cd:=D.ps _ cc;rw[Ge h1 (rd (cd A.pd (by simp)).1 f1)];exact de
    exact WG r a5 b6 ab J cu cv ⟨b2,rfl,by show bD H2 pa o r=_;rw[aF c9];exact s2 _ _ h1,L _ _ b3 h2,h3.keep L⟩
 ·intro σ H1 x';let(v0,rfl,es,w1,g6,M):=x';rw[tD all_done] at w1;let w1:WR m (bD H1 A.pd (.dK kP)) A (W1 W):=w1;let M:∀n pa q,eE kP (aA n)=aa (.ref pa)->aJ (W1 W) n=aa q->zO m A.rg H1 W.things (.ref pa) q:=λn pa q I f=>by
   let e:aJ (W1 W) n=(aJ W n).map λp=>tF W p:=by
    have:=gO W (iR kP kP.length) (tF W) n;rw[tD all_done] at this;rw[show aJ (W1 W) n=aJ {W with players:=W.players.map λx=>(x.1,tF W x.2)} n from rfl,this]
    cases O:aJ W n with
    |none=>rfl
    |some p=>
     let(_,pm,_):=kR Y O;show aa (if iR kP kP.length n.toNat=ae then tF W p else p)=aa (tF W p)
     rw[all_done _ pm,jN rfl]
   rw[e] at f
   cases O:aJ W n with
   |none=>rw[O] at f;cases f
   |some p=>
    rw[O] at f;cases f;let(_,pm,_):=kR Y O;exact M n pa p I O (all_done _ pm)
  exact(es,?_);let et:(W1 W).players.Pairwise λa b=>a.1<b.1:=bY.mpr Y.pr
  let(dV,q1,q2,q3):=w1.pl;rw[ak] at q1;cases q1;let ew:∀e∈kP,∃n pa q,e=(aA n,V.ref pa)/\aJ (W1 W) n=aa q:=λe he=>by
   let(k',v):=e;let(n,rfl):=p2.2 k' (aM.mpr ⟨_,he,rfl⟩);let ev:=ph p2.1 he;let h:=q3 n;rw[ev] at h
   cases f:aJ (W1 W) n with
   |none=>rw[f] at h;exact h.elim
   |some q=>
    rw[f] at h;let(pa,to,rfl,_):=h;exact(n,pa,q,rfl,f)
  let(qs,cw):=Q7 ew;obtain⟨ps,ce⟩:∃ps,ps=(gk W).map λy=>y.2:=⟨_,rfl⟩
  let ey:∀q,q∈qs↔q∈ps:=λq=>by
   rw[ce];constructor
   ·intro h;let(e,he,n,pa,rfl,f):=a9.mem_right cw h;rw[eF] at f;by_cases c:n<0
    ·rw[jN c] at f;cases f
    ·rw[iQ c] at f;exact aM.mpr ⟨_,qG f,rfl⟩
   ·intro h;let(x,B,rfl):=aM.mp h;let ez:aJ (W1 W) (x.1:Int)=aa x.2:=by
     rw[eF,iQ ⋯,show((x.1:Nat):Int).toNat=x.1 by omega];exact pS et B
    let hs:=(q3 (x.1:Int)).isSome;rw[ez] at hs;let(v,I):=bF.mp hs;let(q',j,n,pa,e,eH):=a9.mem_left cw (sW I);let en:(x.1:Int)=n:=fF (congrArg xI e);rw[<-en,ez] at eH;cases eH;exact j
  let g7:qs.length<=8:=by
   rw[<-cB cw,dT.len,aj];exact Y.pl
  let a4:∀q∈ps,Sp.wC q.near/\∀n∈q.near,(bg W.things n).isSome=ae:=λq f=>by
   rw[ce] at f;let(x,B,rfl):=aM.mp f;let(y,hy,rfl):=aM.mp B;have:=(Y.pv y hy).2;exact(Sp.Pe Y.rt Y.ix _ _,rq Y.rt Y.ix this.io)
  let all2:∀x∈gk W,iR kP kP.length x.1=ae:=λx B=>by
   let(y,hy,rfl):=aM.mp B;exact all_done y hy
  let dk:∀x∈gk W,iR kP 0 x.1=af:=λx B=>by
   let(y,hy,rfl):=aM.mp B;exact b1 y hy
  exact WJ A.pd _ ak dR λcx=>?_;rw[je];exact WL _ rfl (WH A.a _ A.dx _ _ rfl ((aF D.a_pd).trans ((aF D.a_pd).symm.trans w1.obj)) m.k14.cl m.Uo rfl (WS A.pd cx _ rfl ak ?_));let eT:∀n pa q,eE kP (aA n)=aa (.ref pa)->aJ (W1 W) n=aa q->zO m A.rg (bD H1 A.pd (.frz cx (.dK kP))) W.things (.ref pa) q:=λn pa q I f=>by
   let an:=q3 n;rw[I,f] at an;let(r,J,c3,c4,dx,al,se,wa,sn,co,d1,cp,cq,e1,e2,(r1,_),_):=jK an;cases c3;let Dp:=D.ps _ c4 A.pd (by simp);rw[aF Dp.1] at e1;exact(M n pa q I f).keep (Kp.refl.put WA.r_pd) (λa ea=>?_) λa a5 b6 ab J cu cv ea ho=>?_
   ·cases ea;exact aF Dp.1
   ·cases ea;let ho:H1 pa=_:=ho;rw[e1] at ho;cases ho;exact r1
  exact za (λi σ H'=>∃v:Option V,σ=[aa (.ref A.a),v]/\H' A.pd=aa (.frz cx (.dK kP))/\WR m (bD H' A.pd (.dK kP)) A {W1 W with players:=qj (iR kP i) (ow W) (W1 W).players}/\Kp A.rg H H'/\
    (∀n pa q,eE kP (aA n)=aa (.ref pa)->aJ (W1 W) n=aa q->zO m A.rg H' W.things (.ref pa) q)/\
    ∀n pa q,eE kP (aA n)=aa (.ref pa)->aJ (W1 W) n=aa q->iR kP i n.toNat=ae->E2 m A.rg H' pa W.things (ow W q).sees)
   ⟨_,rfl,ak,?_,g6.put WA.r_pd,eT,λn pa q _ _ h=>?_⟩ (λi σ H' x'=>V12 x' λ_ _ h _=>h) ?_ ?_
  ·rw[je,show qj (iR kP 0) (ow W) (W1 W).players=(W1 W).players from w9 dk];exact w1
  ·unfold iR at h;simp at h
  ·intro i k' v σ H' hi x';let(v0,rfl,a0,wi,bm,M,dm):=x';let(n,pa,to,p,rfl,rfl,B,e',I):=dy hi;let(hj,hk,bu):=kR Y e';let f0:=(q3 n).isSome;rw[I] at f0;let(q,f):=bF.mp f0.symm;let c':=DI p2.1 hi bu;let(dV,q1,hl,f2):=wi.pl;rw[ak] at q1;cases q1;let bx:aJ {W1 W with players:=qj (iR kP i) (ow W) (W1 W).players} n=aa q:=by
    rw[gO,f];show aa (if iR kP i n.toNat=ae then ow W q else q)=aa q
    rw[iQ (by rw[c'];simp)]
   let b':=f2 n;rw[I,bx] at b';let(r,J,c3,c4,dx,al,se,wa,sn,co,d1,cp,cq,e1,e2,(r1,r2,r3,r4),e3,e4,e5,e6,e7,e8,e9,d3):=jK b';cases c3;obtain rfl:to=J:=by
    by_cases c:to=J
    ·exact c
    ·exact aB rfl ((my D.pp B c4).2 (λe=>c (congrArg (λz=>z.2.2) e))).1
   let Dp:=D.ps _ B;let C:pa≠A.pd:=(Dp A.pd (by simp)).1;let cs:∀{b},¬A.rg b->b≠A.pd:=λh e=>h (by rw[e];exact WA.r_pd)
   let rd:∀{b o},b≠A.pd->bD H' A.pd (.dK kP) b=aa o->H' b=aa o:=λhb e=>by rw[aF hb] at e;exact e
   let dp:a9 (λe q=>zO m A.rg H' W.things e.2 q) kP qs:=a9.mapMem cw λe he q x'=>V21 x' λn pa ee f=>by
    subst ee;exact M n pa q (ph p2.1 he) f
   let f3:q∈ps:=by
    rw[eF,iQ ⋯] at f;rw[ce];exact aM.mpr ⟨_,qG f,rfl⟩
   exact WL _ rfl (WL _ rfl (WG A W N pa q cx kP (WG _ _ _ _ _ qs ps ⟨rfl,Y,rd D.a_pd wi.obj,a0,M n pa q I f,dp,ey,g7,λH2 d kvs s2 fd gd dd=>?_⟩)));let bl:=s2 _ _ (rd C e1);exact WL _ rfl (WK pa _ dx _ rfl bl m.k12.cl m.Ur (by show 10<1000;decide) ?_);rw[Dt];obtain⟨o,eo⟩:∃o,o=HO.ins (m.cl 12) dx (pf (.int q.thing) (.int q.team) (.int q.inner) (.int q.outer) (.int q.budget) (.ref al) (.ref d) (.ref to) (.ref wa) (.ref sn)):=⟨_,rfl⟩;rw[<-eo];let b5:¬A.rg d:=λz=>by
    let(o,e):=wi.live d z;by_cases c:d=A.pd
    ·rw[c,a0] at fd;cases fd
    ·rw[rd c e] at fd;cases fd
   let c6:d≠pa:=(aL (rd C e1) fd).symm;let L:Kp A.rg H' (bD H2 pa o):=(Kp.of s2).put (WA.r_ps B).1;let sU:aU (bD H' A.pd (.dK kP)) (bD H2 A.pd (.dK kP)):=λb u e=>by
    by_cases c:b=A.pd
    ·rw[c,ak] at e⊢;exact e
    ·rw[aF c] at e⊢;exact s2 b u e
   let w2:=wi.same sU;let ec:bD (bD H2 pa o) A.pd (.dK kP)=bD (bD H2 A.pd (.dK kP)) pa o:=funext λb=>by
    by_cases c:b=A.pd
    ·rw[c,ak,aF C.symm,ak]
    ·rw[aF c];by_cases c2:b=pa
     ·rw[c2,ak,ak]
     ·rw[aF c2,aF c2,aF c]
   let kU:Kp A.rg (bD H2 A.pd (.dK kP)) (bD (bD H2 A.pd (.dK kP)) pa o):=Kp.refl.put (WA.r_ps B).1;let c7:qg kvs (ow W q).sees:=by
    let e:(ow W q).sees=ij ps q:=by rw[ce];rfl
    rw[e];exact yu dd (Sp.zN ps _ (a4 q f3).1) λn hn=>?_
    unfold ij at hn;rcases(Sp.BN ps _).mp hn with h|⟨q',h1,_,h3⟩
    ·exact(a4 q f3).2 n h
    ·exact(a4 q' h1).2 n h3
   exact(_,rfl,?_,?_,bm.trans L,λT r q' l j=>?_,λT r q' l j c8=>?_)
   ·rw[aF C.symm];exact s2 _ _ a0
   ·rw[ec];let ax:∀b u,¬A.rg b->bD H' A.pd (.dK kP) b=aa u->bD (bD H2 A.pd (.dK kP)) pa o b=aa u:=λb u nb e=>kU b u nb (sU b u e)
    exact w2.put1 (p':=ow W q) B (λb u c1 _ _ e=>by rw[aF c1];exact e) (w2.tb.keep kU (aF (Dp A.tb (by simp)).1.symm)) ⟨dx,al,d,wa,sn,co,kvs,cp,cq,by rw[ak,eo];rfl,?_,⟨r1,b5,r3,r4⟩,ax _ _ r1 e3,e4,?_,c7,?_,ax _ _ r3 e8,e9,ax _ _ r4 d3⟩ (λeh h=>?_) (DJ p2.1 hi f (ow W))
    ·rw[aF (my D.pp B B).1.symm];exact sU _ _ e2
    ·rw[aF c6,aF (cs b5)];exact gd
    ·exact(e7.keep (Kp.of sU)).keep kU
    ·rw[ak] at h;cases h;exact I
   ·
    let(a,a5,b6,ab,J,cu,cv,b2,ea,h1,h2,h3):=M T r q' l j;cases ea;let b3:¬A.rg b6:=by
     let an:=f2 T;rw[l,gO,j] at an;let(ei,ej,ay,cc,ek,el,ep,eq,er,d8,d9,da,db,f1,_,(de,_),_):=jK an;cases ay;let cd:=D.ps _ cc;rw[Ge h1 (rd (cd A.pd (by simp)).1 f1)];exact de
    by_cases c:T=n
    ·subst c;rw[I] at l;cases l;rw[f] at j;cases j;let h1:H' pa=_:=h1;rw[rd C e1] at h1;cases h1;exact WG pa dx al d to wa sn ⟨b2,rfl,by show bD H2 pa o pa=_;rw[ak,eo],L _ _ b3 h2,h3.keep L⟩
    ·let c9:r≠pa:=λe=>c (uk (by rw[l,e]) I)
     exact WG r a5 b6 ab J cu cv ⟨b2,rfl,by show bD H2 pa o r=_;rw[aF c9];exact s2 _ _ h1,L _ _ b3 h2,h3.keep L⟩
   ·by_cases c:T=n
    ·subst c;rw[I] at l;cases l;rw[f] at j;cases j;exact WI dx _ d kvs (by rw[ak,eo]) rfl b5 (by rw[aF c6];exact gd) ?_;rw[show(ow W q).sees=ij ps q by rw[ce];rfl];exact dd.keep (Kp.refl.put (WA.r_ps B).1)
    ·let c9:r≠pa:=λe=>c (uk (by rw[l,e]) I)
     let d6:iR kP i T.toNat=ae:=by
      rw[ug hi bu,iM] at c8;rcases c8 with h|h
      ·exact h
      ·rw[decide_eq_true_eq] at h;let ht:¬T<0:=λz=>by rw[eF,jN z] at j;cases j
       omega
     let(a5,fs,ab,cf,g1,g2,g3,g4,g5):=dm T r q' l j d6;exact WI a5 fs ab cf (by rw[aF c9];exact s2 _ _ g1) g2 g3 (L _ _ g3 g4) (g5.keep L)
  ·intro σ H' x';let(v0,rfl,a0,wi,bm,M,dm):=x';rw[show qj (iR kP kP.length) (ow W) (W1 W).players=A0 (gk W) from tD all2] at wi;let wi:WR m (bD H' A.pd (.dK kP)) A (W2 W):=wi;exact(a0,k _ kP wi (bm.put WA.r_pd) ak λn pa q I f=>?_);let e:aJ (W2 W) n=(aJ (W1 W) n).map λp=>ow W p:=by
    have:=gO (W1 W) (iR kP kP.length) (ow W) n;rw[show(W1 W).players=gk W from rfl,tD all2] at this;rw[show aJ (W2 W) n=aJ {W1 W with players:=(gk W).map λx=>(x.1,ow W x.2)} n from rfl,this]
    cases O:aJ (W1 W) n with
    |none=>rfl
    |some p=>
     rw[eF] at O;by_cases c:n<0
     ·rw[jN c] at O;cases O
     ·rw[iQ c] at O;show aa (if iR kP kP.length n.toNat=ae then ow W p else p)=aa (ow W p)
      rw[all2 _ (qG O),jN rfl]
   rw[e] at f
   cases O:aJ (W1 W) n with
   |none=>rw[O] at f;cases f
   |some p=>
    rw[O] at f;cases f;let hd:iR kP kP.length n.toNat=ae:=by
     rw[eF] at O;by_cases c:n<0
     ·rw[jN c] at O;cases O
     ·rw[iQ c] at O;exact all2 _ (qG O)
    let(a5,fs,ab,cf,g1,g2,g3,g4,g5):=dm n pa p I O hd;let C:pa≠A.pd:=λz=>by rw[z,a0] at g1;cases g1
    exact WI a5 fs ab cf (by rw[aF C];exact g1) g2 g3 ((Kp.refl.put WA.r_pd:Kp A.rg H' (bD H' A.pd (.dK kP))) _ _ g3 g4) (g5.keep (Kp.refl.put WA.r_pd))
end
def Gf {l:List Int}(h:l.length=8):∃a b c d e f g i,l=[a,b,c,d,e,f,g,i]:=by
 match l,h with
 |[a,b,c,d,e,f,g,i],_=>exact WG a b c d e f g ⟨i,rfl⟩
def M9 {K:am}{a:Addr}{l:List Int}(h:dL K H a (iv l)):Dp K H (.ref a) (.list (l.map rR)):=by
 exact .lst h ?_;clear h
 induction l with
 |nil=>exact .nil
 |cons z l b=>exact .cons (.int z) b
def Gg {l:List Int}(h:l.length=8):DU (.list (l.map rR))=ae:=by
 let(a,b,c,d,e,f,g,i,rfl):=Gf h;rfl
def Tz {l j:List Int}(h:l.length=8)(h':j.length=8):zz (.list (l.map rR)) (.list (j.map rR))=decide (l=j):=by
 let(a,b,c,d,e,f,g,i,rfl):=Gf h;let(o,p,q,r,s,u,v,w,rfl):=Gf h';let x:zz (.list (List.map rR [a,b,c,d,e,f,g,i])) (.list (List.map rR [o,p,q,r,s,u,v,w]))=(decide (a=o)&&(decide (b=p)&&(decide (c=q)&&(decide (d=r)&&(decide (e=s)&&(decide (f=u)&&(decide (g=v)&&(decide (i=w)&&ae)))))))):=rfl;rw[x,iL];simp only[ca,decide_eq_true_eq,and_true,List.cons.injEq]
def dc:Option aT->Nat
 |none=>0
 |some (.enter ..)=>1
 |some (.change ..)=>2
 |some (.leave ..)=>3
def uh (l:List aN)(p:aq)(n:Nat):oJ l p.sees (n:Int)=(Sp.Cg l p n).map λt=>(t.kind,t.vals):=by
 unfold oJ fT Sp.Cg;rw[show((n:Nat):Int).toNat=n by omega];by_cases c:n∈p.sees
 ·rw[jN ⟨⋯,c⟩,jN ⋯,jN (jb.mpr c)]
 ·rw[iQ (λq=>c q.2),iQ (λq=>c (jb.mp q))];rfl
section
variable {P:aO} {w:World} {K:am} {mg:Str->Option ag} {base:Heap} (m:Mo K mg)
structure TP (m:Mo K mg)(R:Rg)(H:Hp)(pa dx:Addr)(p:aq)(al se to wa sn:Addr)(l:List aN):Prop where
 ob:EZ m H pa dx p al se to wa sn
 sn:∃kse,H se=aa (.dK kse)/\fZ (m.cl 11) R H kse (oJ l p.sees)
 tn:∃kto,H to=aa (.dK kto)/\fZ (m.cl 11) R H kto (fD p.told)
 lv:∀t∈l,t.id<=9999/\t.kind<=7/\DZ t.vals
 tv:∀t∈p.told,t.id<=9999/\t.kind<=7/\DZ t.vals
 rl:Sp.rS l
 rt:Sp.xU p.told
 rs:Sp.wC p.sees
 st:∀n∈p.sees,(bg l n).isSome=ae
 sl:p.sees.length<=1000
 tl:p.told.length<=1000
def TP.same {m:Mo K mg}{c:Addr}(h:TP m R H pa dx p al se c wa sn l)(s:aU H H'):TP m R H' pa dx p al se c wa sn l:=
 ⟨s _ _ h.ob,let ⟨k,a,b⟩:=h.sn;⟨k,s _ _ a,b.keep (Kp.of s)⟩,let ⟨k,a,b⟩:=h.tn;⟨k,s _ _ a,b.keep (Kp.of s)⟩,h.lv,h.tv,h.rl,h.rt,h.rs,h.st,h.sl,h.tl⟩
def TP.l8 {m:Mo K mg}{a:Addr}(h:TP m R H pa dx p al se a wa sn l):∀t∈l,t.vals.length=8:=λt b=>(h.lv t b).2.2.len
def TP.t8 {m:Mo K mg}{a:Addr}(h:TP m R H pa dx p al se a wa sn l):∀t∈p.told,t.vals.length=8:=λt b=>(h.tv t b).2.2.len
def TP.seen8 {m:Mo K mg}{a:Addr}(h:TP m R H pa dx p al se a wa sn l){t:aN}(e:Sp.Cg l p n=aa t):t.vals.length=8:=by
 unfold Sp.Cg at e;split at e
 ·exact h.l8 t (Sp.pL e)
 ·cases e
def Q8 (m:Mo K mg):Sp:=λa H Q _=>∃(R:Rg) (pa dx:Addr) (p:aq) (al se b wa sn:Addr) (l:List aN) (n:Nat),a=[.ref pa,.int n]/\TP m R H pa dx p al se b wa sn l/\Q (.int (dc (dC l p n):Nat)) H
def Na:bo ["player","n","told","seen"] ["player","n"] (aP (ig 108)):=jY
include m in
def JW:du P w K mg base jw 1 (m.fn 108) (m.fd 108) ["player","n"] (Q8 m):=by
 exact m.UG.F.ok Na (λvs H Q E h=>?_) (λa4 A v s H vs Q E D h=>?_)
 ·let(_,_,_,_,_,_,_,_,_,_,_,rfl,_):=h;rfl
 let(R,pa,dx,p,al,se,to,wa,sn,l,n,rfl,e,k):=h;let I:=Na.nd;let J:=jx D;let(ab,L,i):=e.sn;let(an,M,N):=e.tn;exact⟨_,ao (sT 2 I (nP J (fl (pv 0)) (pv 1) ⟨rfl,rfl,rfl,rfl⟩))
  (ao (sT 3 I (nP J (fl (pv 0)) (pv 1) ⟨rfl,rfl,rfl,rfl⟩))
  (ao (dG (iu (m9 (pv 2))) (rt (o0 (iu (m9 (pv 3))) (cS m.U4) (cS m.Ux))) bS)
  (ao (dG (Iy (iu (m9 (pv 3))) (Ew (df yR (fl (pv 3)) (fl (pv 2)) (dS _)))).pt (rt (cS m.UB)) bS)
  (rt (o0 (df (IT D.units) (fl (pv 3)) (fl (pv 2)) (dS _)) (cS m.U4) (cS m.UO)))))),?_⟩
 exact WL _ rfl (WH pa _ dx _ _ rfl e.ob m.k12.cl m.Us pR ⟨to,rfl,.inl ⟨_,.inl M⟩,_,rfl,WL _ (gD.k (k:=aA ((n:Nat):Int)) M) ?_⟩);exact WL _ rfl (WH pa _ dx _ _ rfl e.ob m.k12.cl m.Ur rh ⟨se,rfl,.inl ⟨_,.inl L⟩,_,rfl,WL _ (gD.k (k:=aA ((n:Nat):Int)) L) ?_⟩);let j:=rn p.told n;let d:=uh l p n;rw[Sp.Ie] at k;exact WL _ rfl (WL _ rfl ?_)
 cases x:bA p.told n with
 |none=>
  rw[x] at j k;rw[N.none_ j];exact jD (WL _ rfl (WL _ rfl ?_))
  cases f:Sp.Cg l p n with
  |none=>
   rw[f] at d k;rw[i.none_ d];exact jD k
  |some t=>
   rw[f] at d k;let(a,y,_):=i.some_ d;rw[y];exact i7 k
 |some u=>
  rw[x] at j k;let(b,eb,O,lb,_,_,T,z):=N.some_ j;let z:H lb=aa (.lst (iv u.vals)):=z;let o:=e.t8 u (Sp.Nw x);rw[eb];exact i7 (WL _ rfl (WL _ rfl ?_))
  cases f:Sp.Cg l p n with
  |none=>
   rw[f] at d k;rw[i.none_ d];exact jD (jD k)
  |some t=>
   rw[f] at d k;let(a,y,Y,la,_,_,a1,B):=i.some_ d;let B:H la=aa (.lst (iv t.vals)):=B;let r:=e.seen8 f;rw[y];exact i7 (WL _ rfl (WH a _ Y _ _ rfl a1 m.k11.cl m.Up (nE _ _) (WL _ rfl (WM b _ O _ _ rfl T m.k11.cl m.Up (nE _ _) rfl (WL _ rfl (vX (λc=>?_) λc=>?_))))))
   ·let c:t.kind≠u.kind:=λq=>c (by show V.int ((t.kind:Nat):Int)=V.int ((u.kind:Nat):Int);rw[q])
    dsimp only at k;rw[jN c] at k;exact k
   ·let c:t.kind=u.kind:=by
     have:=V.int.inj (show V.int ((t.kind:Nat):Int)=V.int ((u.kind:Nat):Int) from c);omega
    dsimp only at k;rw[iQ (by simpa using c)] at k
    exact WL _ rfl (WH a _ Y _ _ rfl a1 m.k11.cl m.Ul (gN _ _) (WL _ rfl (WH b _ O _ _ rfl T m.k11.cl m.Ul (gN _ _) (WN _ _ (M9 (dL.of B)) (M9 (dL.of z)) (Gg r) ⟨Gg o,_,rfl,?_⟩))));rw[Tz r o];exact fO (λC=>?_) λC=>?_
    ·rw[jN ((Sp.Kz r o).mpr C)] at k;exact k
    ·rw[iQ (λq=>C ((Sp.Kz r o).mp q))] at k;exact k
def OQ (m:Mo K mg):Sp:=λa H Q _=>∃(R:Rg) (pa dx:Addr) (p:aq) (al se b wa sn:Addr) (l:List aN) (n:Nat),a=[.ref pa,.int n]/\TP m R H pa dx p al se b wa sn l/\(dC l p n).isSome=ae/\Q (.int (lL l p n:Nat)) H
def Q9:bo ["player","n"] ["player","n"] (aP (ig 111)):=jY
include m in
def Ra:du P w K mg base jw 1 (m.fn 111) (m.fd 111) ["player","n"] (OQ m):=by
 exact m.U8.F.ok Q9 (λC H Q E h=>?_) (λD A f s H C Q E I h=>?_)
 ·let(_,_,_,_,_,_,_,_,_,_,_,rfl,_):=h;rfl
 let(R,pa,dx,p,al,se,i,wa,sn,l,n,rfl,d,v,k):=h;let j:=jx I;let(J,L,M):=d.sn;let(N,x,y):=d.tn;exact(_,bN (lr (o0 (iu (Bw j (pv 1) (fl (pv 0))) (by with_unfolding_all rfl)) (nX (jh j (fl (pv 0)) (pv 1) (λ_ _=>rfl)) rfl) (nX (jh j (fl (pv 0)) (pv 1) (λ_ _=>rfl)) rfl))),?_);exact(_,rfl,WL _ rfl (WH pa _ dx _ _ rfl d.ob m.k12.cl m.Us pR (WJ i _ rfl (gD.k (k:=aA ((n:Nat):Int)) x) (WL _ rfl ?_))));let e:=rn p.told n;let z:=uh l p n;unfold lL at k
 cases o:bA p.told n with
 |none=>
  rw[o] at e k;rw[y.none_ e];exact i7 ?_
  cases c:Sp.Cg l p n with
  |none=>rw[Sp.Ie,o,c] at v;cases v
  |some t=>
   rw[c] at z;let(a,O,T,la,_,_,Y,a2):=M.some_ z;let q:gD H se (.int (n:Int)) (aa (.ref a)):=by
    have:=gD.k (k:=aA ((n:Nat):Int)) L;rw[O] at this;exact this
   let r:bg l n=aa t:=by
    unfold Sp.Cg at c;split at c
    ·exact c
    ·cases c
   rw[r] at k;exact WL _ rfl (WH pa _ dx _ _ rfl d.ob m.k12.cl m.Ur rh ⟨_,rfl,WJ se _ rfl q (WH a _ T _ _ rfl Y m.k11.cl m.Up (nE _ _) k)⟩)
 |some u=>
  rw[o] at e k;let(b,B,db,lb,_,_,b1,b2):=y.some_ e;let q:gD H i (.int (n:Int)) (aa (.ref b)):=by
   have:=gD.k (k:=aA ((n:Nat):Int)) x;rw[B] at this;exact this
  rw[B];exact jD (WL _ rfl (WH pa _ dx _ _ rfl d.ob m.k12.cl m.Us pR ⟨_,rfl,WJ i _ rfl q (WH b _ db _ _ rfl b1 m.k11.cl m.Up (nE _ _) k)⟩))
end
def Hx {l:List Nat}(b:Sp.wC l){ns:List Int}(d:∀x,x∈ns↔x∈l.map λ(j:Nat)=>(j:Int))(c:ns.Pairwise (· < ·)):ns=l.map λ(j:Nat)=>(j:Int):=by
 exact nu b ((pW (c.imp λh=>⋯) ?_).mpr d) (c.imp λh=>⋯);exact bY.mpr ((Sp.wC.nodup b).imp λa q=>a ⋯)
def DK (l:List Nat)(p:Int->Bool)(q:Nat->Bool)(h:∀n∈l,p (n:Int)=q n):iv ((l.map λ(j:Nat)=>(j:Int)).filter p)=nb (l.filter q):=by
 induction l with
 |nil=>rfl
 |cons n l a=>
  let a:=a λu b=>h u (au _ b)
  let hn:=h n (aD ..);rw[bB,dB,dB,hn];cases q n
  ·exact a
  ·show V.int n::iv _=V.int n::nb _;rw[a]
def LV {o:Option aT}:dc o=0↔o=ac:=by
 cases o with
 |none=>exact(λ_=>rfl,λ_=>rfl)
 |some g=>cases g<;>exact((λh=>by cases h),(λh=>by cases h))
section
variable {P:aO} {w:World} {K:am} {mg:Str->Option ag} {base:Heap} (m:Mo K mg)
def OR (m:Mo K mg):Sp:=λa H Q _=>∃(R:Rg) (pa dx:Addr) (p:aq) (al se b wa sn:Addr) (l:List aN),a=[.ref pa]/\TP m R H pa dx p al se b wa sn l/\y6 (nb (dH l p)) H Q
def Nb:bo ["player","numbers","n"] ["player"] (aP (ig 109)):=jY
def nG (h:Sp.wC p.sees):Sp.wC (jO p):=Sp.Gy h
def lE:n∈jO p↔n∈p.sees\/n∈p.told.map kx:=Sp.Gx
def JX (b:List Nat):∀a:List Nat,(b.foldl (λs n=>vh n s) a).length<=a.length+b.length:=by
 let c:∀(n:Nat) (l:List Nat),(vh n l).length<=l.length+1:=by
  intro n l
  induction l with
  |nil=>exact aH _
  |cons x l d=>
   unfold vh;split
   ·exact aH _
   ·split
    ·exact oN _
    ·simp only[aK];omega
 induction b with
 |nil=>intro a;exact aH _
 |cons x b d=>
  intro a;have:=d (vh x a);have:=c x a;simp only[eX,aK];omega
def uF (p:aq):(jO p).length<=p.sees.length+p.told.length:=by
 have:=JX (p.told.map λt=>t.id) p.sees;rw[aj] at this;exact this
include m in
def Nc:du P w K mg base jw 2 (m.fn 109) (m.fd 109) ["player"] (OR m):=by
 exact m.US.F.ok Nb (λvs H Q E h=>?_) (λap A f s H vs Q E i h=>?_)
 ·let(_,_,_,_,_,_,_,_,_,_,rfl,_):=h;rfl
 let(R,pa,dx,p,al,se,J,wa,sn,l,rfl,a,k):=h;let L:=Nb.nd;let hu:=jx i;let(q,s1,s2):=a.sn;let(r,t1,t2):=a.tn;let(M,i1,N):=(yu s2 a.rs a.st).ks;let(O,j1,T):=(t2.risD a.rt).ks;let u:M.length=p.sees.length:=by rw[N.length_eq,aj]
 let v:O.length=p.told.length:=by rw[T.length_eq,aj,aj]
 let h1:=a.sl;let h2:=a.tl;exact⟨_,ao (sT 1 L (cJ BA (by rfl) m.Uv nN (cU (cI Je (nh Av (by rfl) m.U5 boot_set (cU (fl (pv 0)))) (nh Av (by rfl) m.U5 boot_set (cU (fl (pv 0))))))))
  (rt (vQ (own:=[("n",2)]) rfl L (jg (pv 1)) (mo (by show yU ["player","numbers","n"] (aP (ig 109)) _ _=ae;decide +kernel)) (λ_ _ _ _ _=>DC (j:=2))
   (λ_ _ _ _ _=>Bu (df yR (dA m.UG (JW m) i (aS (pv 0) (cU (pv 2)))) (cS m.U4) (dS _))) (λ_ _ _ _ _=>pv 2))),?_⟩
 exact WL _ rfl (WH pa _ dx _ _ rfl a.ob m.k12.cl m.Ur rh (WQ se q M rfl s1 i1 (by rw[u];show _<4096;omega) λp1 L1 f1 m1 l1=>?_));let y:=aU.new (o:=Bz P w p1 L1) f1;exact WL _ rfl (WH pa _ dx _ _ rfl (y _ _ a.ob) m.k12.cl m.Us pR (WQ J r O rfl (y _ _ t1) j1 (by rw[v];show _<4096;omega) λp2 b B m2 l2=>?_));let w2:=y.t (o:=Bz P w p2 b) B;exact WK p1 p2 L1 b rfl rfl (aU.new B _ _ ak) ak (aL ak B) ⟨(by show _<4096;omega),λp3 L3 f3 m3=>?_⟩;let w3:=w2.t (o:=Bz P w p3 L3) f3;exact WN p3 L3 rfl ak i.hd λp4 ns f4 m4 hs=>?_;let e:ns=(jO p).map λ(j:Nat)=>(j:Int):=by
  exact Hx (nG a.rs) (λx=>?_) hs;rw[m4,m3,m1,m2,N.mem_iff,T.mem_iff,aM,aM,aM];constructor
  ·rintro(⟨j,d,rfl⟩|⟨j,d,rfl⟩)
   ·exact(j,lE.mpr (.inl d),rfl)
   ·exact(j,lE.mpr (.inr d),rfl)
  ·intro x';let(j,d,rfl):=x';rcases lE.mp d with h|h
   ·exact .inl ⟨j,h,rfl⟩
   ·exact .inr ⟨j,h,rfl⟩
 subst e;let C:=w3.t (o:=.lst (((jO p).map λ(j:Nat)=>(j:Int)).map V.int)) f4;let cl:=uF p;exact WL _ rfl (WU p4 rfl ⟨_,dL.of ak⟩ λD fD=>?_);exact Dy (K:=K) (p:=λz=>(dC l p z.toNat).isSome) (dL.of ak) (by rw[aj];omega) fD (λH' I g5=>?_) λz H' Y Z hz I hY hN=>?_
 ·rw[DK (jO p) _ (λn=>(dC l p n).isSome) (λn _=>by rw[show((n:Nat):Int).toNat=n by omega])] at g5;exact k H' D (C.trans I) (C.free fD) g5
 ·let(n,hn,rfl):=aM.mp hz;let s6:=C.trans I;rw[show((n:Nat):Int).toNat=n by omega] at hY hN;exact(rfl,_,rfl,_,rfl,WG R pa dx p al se J (WP wa sn l n rfl (a.same s6) rfl ⟨_,rfl,vX (λc=>?_) λc=>?_⟩))
  ·exact(_,rfl,hY H' (aU.refl H') ?_)
   cases hd:dC l p n with
   |none=>rw[hd] at c;exact aB rfl c
   |some g=>rfl
  ·exact hN H' (aU.refl H') ?_;have:dc (dC l p n)=0:=by have:=V.int.inj c;omega
   rw[LV.mp this];rfl
end
def x4 (ns:List Nat)(f:Nat->Nat):List (ef×V):=ns.map λ(n:Nat)=>(aA (n:Int),V.int (f n:Nat))
def JY {f:Nat->Nat}(h:n∉ns):eE (x4 ns f) (aA (n:Int))=ac:=by
 rw[oQ];intro q;let(e,a,q):=aM.mp q;let(j,b,rfl):=aM.mp a;have:j=n:=by have:=fF q;omega
 exact h (this▸b)
def wk (ns:List Nat)(f:Nat->Nat):(x4 ns f).map (·.1)=ns.map λ(n:Nat)=>(aA (n:Int):ef):=by
 unfold x4;rw[gZ];rfl
def JZ (f:Nat->Nat)(h:ns.Nodup):Dk (x4 ns f):=by
 exact(?_,λk b=>?_)
 ·rw[wk];exact bY.mpr (h.imp λa q=>a (by have:=fF q;omega))
 ·rw[wk] at b;let(n,_,rfl):=aM.mp b;exact(_,rfl)
def wm {f:Nat->Nat}(h:n∈ns)(hn:ns.Nodup):eE (x4 ns f) (aA (n:Int))=aa (.int (f n:Nat)):=
 ph (JZ f hn).1 (aM.mpr ⟨n,h,rfl⟩)
def DL {f:Nat->Nat}(h:n∉ns):jW (x4 ns f) (aA (n:Int)) (.int (f n:Nat))=x4 (ns++[n]) f:=by
 rw[vS _ (JY h)];unfold x4;rw[bU];rfl
def wo (hn:ns.Nodup)(h:ns[i]?=aa n):n∉ns.take i:=by
 intro q;let e:ns=ns.take i++ns.drop i:=(i8 i ns).symm;let a:=bf.mp h;rw[e,qJ] at hn;exact hn.2.2 _ q n ?_ rfl;rw[fX a.1,a.2];exact aD ..
def rA (h:Sp.wC p.sees):(dH l p).Nodup:=Sp.wC.nodup (Sp.yA (nG h) _)
def tG (l:List aN)(p:aq):(dH l p).length<=p.sees.length+p.told.length:=bq (cY _ _) (uF p)
def J0 {a:List (ef×V)}(h:Qs a p.waits)(n t:Nat):(eE a (aA (n:Int))).getD (.int (t:Nat))=.int (dn p n t:Nat):=by
 unfold dn
 cases b:p.waits.find? λx=>x.1==n with
 |none=>
  have:eE a (aA (n:Int))=ac:=by
   cases d:eE a (aA (n:Int)) with
   |none=>rfl
   |some v=>
    have:=(h.1.2.2 (n:Int)).mp (by rw[d];rfl);let(j,f,e):=this;let(x,i,rfl):=aM.mp f;have:=pV.mp b x i;simp at this;omega
  rw[this];rfl
 |some x=>
  let l:x.1=n:=by simpa using lT b
  let c:=h.2 x (eR b);rw[l] at c;rw[c];rfl
section
variable {P:aO} {w:World} {K:am} {mg:Str->Option ag} {base:Heap} (m:Mo K mg)
def LW (m:Mo K mg):Sp:=λb H Q _=>∃(R:Rg) (pa dx:Addr) (p:aq) (al se c wa sn:Addr) (l:List aN) (a:List (ef×V)) (t:Nat),b=[.ref pa,.int t]/\TP m R H pa dx p al se c wa sn l/\H wa=aa (.dK a)/\Qs a p.waits/\
 ∀H' d,aU H H'->H d=ac->H' d=aa (.dK (x4 (dH l p) λn=>dn p n t))->Q (.ref d) H'
def Nd:bo ["player","tick","since","n"] ["player","tick"] (aP (ig 110)):=jY
include m in
def Rb:du P w K mg base jw 3 (m.fn 110) (m.fd 110) ["player","tick"] (LW m):=by
 exact m.U7.F.ok Nd (λvs H Q E h=>?_) (λa1 A D s H vs Q E L h=>?_)
 ·let(_,_,_,_,_,_,_,_,_,_,_,_,rfl,_):=h;rfl
 let(R,pa,dx,p,al,se,to,wa,sn,l,a3,t,rfl,q,r,hw,k):=h;let M:=Nd.nd;let N:=jx L;let I:=rA (l:=l) q.rs;let a4:=tG l p;let a5:=q.sl;let ab:=q.tl;exact⟨_,ao (sT 2 M jH)
  (ao (kj cQ rfl (jg (dA m.US (Nc m) L (cU (pv 0)))) (fC (i:=3) M rfl (eu rfl))
   (bN (lG N (pv 2) (pv 3) (CY N (fl (pv 0)) (pv 3) (pv 1) ⟨rfl,rfl,rfl,rfl⟩) rfl)))
  (rt (pv 2))),?_⟩
 intro d B;let O:=aU.new (o:=.dK []) B;exact WL _ rfl (WG R pa dx p al se to (WS wa sn l rfl (q.same O) λH2 b T fb Y=>?_));let u:=O.trans T;let J:d≠b:=aL ak fb;exact WU b rfl ⟨_,dL.of Y⟩ (ka (K:=K) (a:=b) (xs:=nb (dH l p))
  (λi σ H'=>∃v:Option V,σ=[aa (.ref pa),aa (.int t),aa (.ref d),v]/\Kp (kW d) H2 H'/\H' d=aa (.dK (x4 ((dH l p).take i) λn=>dn p n t)))
  ⟨ac,rfl,Kp.refl,T _ _ ak⟩ (λi σ H' _ x'=>V12 x' λ_ _ j _=>dL.of (j _ _ J.symm Y)) ?_ ?_)
 ·intro i y σ H' hi x';let(v,rfl,j,C):=x';let(n,hn,rfl):=km hi;let x:aU H H':=λc o e=>j c o (aL e B) (u c o e)
  exact WL _ rfl (WH pa _ dx _ _ rfl (x _ _ q.ob) m.k12.cl m.Uz rj (WU wa rfl (.inl ⟨_,.inl (x _ _ r)⟩) (WL _ rfl (WL _ rfl (WL _ (gD.k (k:=aA ((n:Nat):Int)) (x _ _ r)) ?_)))));rw[J0 hw];exact(_,rfl,_,rfl,WJ d _ rfl (uo.k (k:=aA ((n:Nat):Int)) C ?_) ?_)
  ·unfold x4;rw[aj,cO];exact xA ⋯
  ·exact WU _ rfl (j.put rfl) ?_;rw[ak,eB hn];exact congrArg (λz=>aa (HO.dK z)) (DL (f:=λn=>dn p n t) (wo I hn))
 ·intro σ H' x';let(v,rfl,j,C):=x';rw[aj,cg] at C;let x:aU H H':=λc o e=>j c o (aL e B) (u c o e)
  exact(_,rfl,k H' d x B C)
def LX (m:Mo K mg):Sp:=λc H Q _=>∃(R:Rg) (pa dx:Addr) (p:aq) (al se e wa sn:Addr) (l:List aN) (b:Addr) (a:List (ef×V)) (g:Nat->Nat),c=[.ref pa,.ref b]/\TP m R H pa dx p al se e wa sn l/\H b=aa (.dK a)/\(∀n∈dH l p,eE a (aA (n:Int))=aa (.int (g n:Nat)))/\
 ∀H' d,aU H H'->H d=ac->H' d=aa (.dK (x4 (dH l p) g))->Q (.ref d) H'
def Nf:bo ["player","since","waiting","n"] ["player","since"] (aP (ig 116)):=jY
include m in
def Rc:du P w K mg base jw 3 (m.fn 116) (m.fd 116) ["player","since"] (LX m):=by
 exact m.Vd.F.ok Nf (λvs H Q E h=>?_) (λa3 A B s H vs Q E N h=>?_)
 ·let(_,_,_,_,_,_,_,_,_,_,_,_,_,rfl,_):=h;rfl
 let(R,pa,dx,p,al,se,to,wa,sn,l,C,a5,g,rfl,r,D,hg,k):=h;let O:=Nf.nd;let T:=jx N;let I:=rA (l:=l) r.rs;let an:=tG l p;let ap:=r.sl;let ar:=r.tl;exact⟨_,ao (sT 2 O jH)
  (ao (kj cQ rfl (jg (dA m.US (Nc m) N (cU (pv 0)))) (fC (i:=3) O rfl (eu rfl))
   (bN (lG T (pv 2) (pv 3) (jh T (pv 1) (pv 3) (λ_ _=>rfl)) rfl)))
  (rt (pv 2))),?_⟩
 intro d u;let Y:=aU.new (o:=.dK []) u;exact WL _ rfl (WG R pa dx p al se to (WS wa sn l rfl (r.same Y) λH2 b s2 fb gb=>?_));let q:=Y.trans s2;let J:d≠b:=aL ak fb;exact WU b rfl ⟨_,dL.of gb⟩ (ka (K:=K) (a:=b) (xs:=nb (dH l p))
  (λi σ H'=>∃v:Option V,σ=[aa (.ref pa),aa (.ref C),aa (.ref d),v]/\Kp (kW d) H2 H'/\H' d=aa (.dK (x4 ((dH l p).take i) g)))
  ⟨ac,rfl,Kp.refl,s2 _ _ ak⟩ (λi σ H' _ x'=>V12 x' λ_ _ j _=>dL.of (j _ _ J.symm gb)) ?_ ?_)
 ·intro i y σ H' hi x';let(v,rfl,j,x):=x';let(n,hn,rfl):=km hi;let L:aU H H':=λc o e=>j c o (aL e u) (q c o e)
  let M:gD H' C (.int (n:Int)) (aa (.int (g n:Nat))):=by
   have:=gD.k (k:=aA ((n:Nat):Int)) (L _ _ D);rw[hg n (bj hn)] at this;exact this
  exact WL _ rfl (WL _ rfl (WJ C _ rfl M ?_));exact(_,rfl,_,rfl,WJ d _ rfl (uo.k (k:=aA ((n:Nat):Int)) x ?_) ?_)
  ·unfold x4;rw[aj,cO];exact xA ⋯
  ·exact WU _ rfl (j.put rfl) ?_;rw[ak,eB hn];exact congrArg (λz=>aa (HO.dK z)) (DL (f:=g) (wo I hn))
 ·intro σ H' x';let(v,rfl,j,x):=x';rw[aj,cg] at x;let L:aU H H':=λc o e=>j c o (aL e u) (q c o e)
  exact(_,rfl,k H' d L u x)
def Rf (m:Mo K mg):Sp:=λa H Q _=>∃(R:Rg) (pa dx:Addr) (p:aq) (al se b wa sn:Addr) (l:List aN) (n:Nat) (g:aT),a=[.ref pa,.int n]/\TP m R H pa dx p al se b wa sn l/\dC l p n=aa g/\n<=9999/\y6 (nb (bw g)) H Q
def Ng:bo ["player","n","due"] ["player","n"] (aP (ig 113)):=jY
include m in
def Rh:du P w K mg base jw 4 (m.fn 113) (m.fd 113) ["player","n"] (Rf m):=by
 exact m.Va.F.ok Ng (λB H Q E h=>?_) (λa2 A C s H B Q E r h=>?_)
 ·let(_,_,_,_,_,_,_,_,_,_,_,_,rfl,_):=h;rfl
 let(R,pa,dx,p,al,se,D,wa,sn,l,n,g,rfl,f,c,I,k):=h;let nd:=Ng.nd;let J:=jx r;let(a4,s1,s2):=f.sn;let(an,t1,t2):=f.tn;exact⟨_,ao (sT 2 nd (dA m.UG (JW m) (r.mono (by decide)) (aS (pv 0) (cU (pv 1)))))
  (ao (dG (df lD (pv 2) (cS m.Ux) (dS _)) (rt (dA m.d48 (Sg m) r (aS (pv 1) (cU (jh J (fl (pv 0)) (pv 1) (λ_ _=>rfl)))))) bS)
  (ao (dG (df lD (pv 2) (cS m.UB) (dS _)) (rt (dA m.d50 (Si m) (r.mono (by decide)) (cU (pv 1)))) bS)
  (rt (dA m.d49 (Sj m) r (aS (pv 1) (aS (jh J (fl (pv 0)) (pv 1) (λ_ _=>rfl)) (cU (jh J (fl (pv 0)) (pv 1) (λ_ _=>rfl))))))))),?_⟩
 exact(_,rfl,_,rfl,WG R pa dx p al se D (WD wa sn l n ⟨rfl,f,?_⟩));let Y:=rn p.told n;let fs:=uh l p n;let e:n<2^70:=iA I (by decide);let L:=c;rw[L];rw[Sp.Ie] at c;let i:∀{t:aN},Sp.Cg l p n=aa t->∃a,gD H se (.int (n:Int)) (aa (.ref a))/\EO (m.cl 11) R H a t.kind t.vals/\DZ t.vals/\t.kind<=7:=λ{t} d=>by
  rw[d] at fs;let(a,ea,x):=s2.some_ fs;let M:bg l n=aa t:=by
   unfold Sp.Cg at d;split at d
   ·exact d
   ·cases d
  let j:=f.lv t (Sp.pL M);exact(a,?_,x,j.2.2,j.2.1);have:=gD.k (k:=aA ((n:Nat):Int)) s1;rw[ea] at this;exact this
 let y:∀{B:List Int},DZ B->∀z∈B,eZ z<2^70:=λh z hz=>Sp.Pa (h.v z hz)
 cases o:bA p.told n with
 |none=>
  cases d:Sp.Cg l p n with
  |none=>rw[o,d] at c;cases c
  |some t=>
   rw[o,d] at c;cases c;let(a,N,x,j,hk):=i d;exact WU _ rfl rfl (WL _ rfl (De rfl ⟨_,rfl,WL _ rfl (WH pa _ dx _ _ rfl f.ob m.k12.cl m.Ur rh (WL _ rfl (WJ se _ rfl N (WM n t.kind a t.vals R rfl x e (iA hk (by decide)) (by rw[j.len];decide) (y j) k))))⟩))
 |some u=>
  cases d:Sp.Cg l p n with
  |none=>
   rw[o,d] at c;cases c;exact WU _ rfl rfl (WL _ rfl (AC (by intro q;cases q) ⟨_,rfl,rfl,WL _ rfl (De rfl ⟨_,rfl,WU n rfl e k⟩)⟩))
  |some t=>
   rw[o,d] at c;dsimp only at c;split at c
   ·cases c;exact WU _ rfl rfl (WL _ rfl (AC (by intro q;cases q) ⟨_,rfl,rfl,WL _ rfl (De rfl ⟨_,rfl,WU n rfl e k⟩)⟩))
   ·split at c
    ·cases c
    ·cases c;rw[o] at Y;let(b,eb,hb):=t2.some_ Y;let O:gD H D (.int (n:Int)) (aa (.ref b)):=by
      have:=gD.k (k:=aA ((n:Nat):Int)) t1;rw[eb] at this;exact this
     let(a,N,x,j,hk):=i d;let T:=f.t8 u (Sp.Nw o);exact WU _ rfl rfl (WL _ rfl (AC (by intro q;cases q) (WU _ rfl rfl (WL _ rfl (AC (by intro q;cases q) ⟨_,rfl,WL _ rfl (WH pa _ dx _ _ rfl f.ob m.k12.cl m.Us pR ⟨_,rfl,WJ D _ rfl O (WL _ rfl (WH pa _ dx _ _ rfl f.ob m.k12.cl m.Ur rh ⟨_,rfl,WJ se _ rfl N (WG n u.kind t.kind b a u.vals t.vals ⟨R,rfl,hb,x,e,T,j.len,y j,k⟩)⟩))⟩)⟩)))))
end
def tH:aT->Bool
 | .leave _=>ae
 |_=>af
def AI (c:Sp.xU p.told)(d:∀t∈l,t.vals.length=8)(a:∀t∈p.told,t.vals.length=8)(h:dC l p n=aa g):
  bA (dz p.told g) n=if tH g=ae then ac else(Sp.Cg l p n).map λt=>⟨n,t.kind,t.vals⟩:=by
 rw[Sp.Pl c rfl (λt b=>d t (Sp.pL b)) (λt b=>a t (Sp.Nw b)) h];cases g<;>rfl
def J1 (d:Sp.xU p.told)(e:∀t∈l,t.vals.length=8)(b:∀t∈p.told,t.vals.length=8)(h:dC l p n=aa g)(j:Int):
  fD (dz p.told g) j=if j=(n:Int) then(if tH g=ae then ac else(Sp.Cg l p n).map λt=>(t.kind,t.vals)) else fD p.told j:=by
 by_cases c:j=(n:Int)
 ·rw[jN c,c,rn,AI d e b h];cases tH g
  ·cases Sp.Cg l p n<;>rfl
  ·rfl
 ·rw[iQ c];unfold fD;by_cases a:0<=j
  ·rw[jN a,jN a,Sp.xV d (by rw[Sp.O7 h];omega)]
  ·rw[iQ a,iQ a]
def Hy (h:dC l p n=aa g):(tH g=ae->(bA p.told n).isSome=ae)/\(tH g=af->(Sp.Cg l p n).isSome=ae):=by
 rw[Sp.Ie] at h
 cases b:Sp.Cg l p n with
 |none=>
  cases a:bA p.told n with
  |none=>rw[b,a] at h;cases h
  |some u=>
   rw[b,a] at h;cases h;exact(λ_=>rfl,(λz=>by cases z))
 |some t=>
  cases a:bA p.told n with
  |none=>
   rw[b,a] at h;cases h;exact((λz=>by cases z),λ_=>rfl)
  |some u=>exact(λ_=>rfl,λ_=>rfl)
def AJ {q:aq}(h1:q.sees=p.sees)(a:bA q.told n=bA p.told n):dC l q n=dC l p n:=by
 rw[Sp.Ie,Sp.Ie,a];unfold Sp.Cg;rw[h1]
section
variable {P:aO} {w:World} {K:am} {mg:Str->Option ag} {base:Heap} (m:Mo K mg)
def J2 {m:Mo K mg}{f:Addr}(a:TP m R H pa dx p al se f wa sn l)(h:dC l p n=aa g)(hn:n<=9999):
  ∀t∈dz p.told g,t.id<=9999/\t.kind<=7/\DZ t.vals:=by
 intro t i;let j:=Sp.z9 a.rt g;let e:=Sp.Ky j i;by_cases c:t.id=n
 ·rw[c,AI a.rt a.l8 a.t8 h] at e;split at e
  ·cases e
  ·cases b:Sp.Cg l p n with
   |none=>rw[b] at e;cases e
   |some u=>
    rw[b] at e;cases e;let d:bg l n=aa u:=by
     unfold Sp.Cg at b;split at b
     ·exact b
     ·cases b
    have:=a.lv u (Sp.pL d);exact(hn,this.2)
 ·rw[Sp.xV a.rt (by rw[Sp.O7 h];exact λz=>c z.symm)] at e;exact a.tv t (Sp.Nw e)
def OS (m:Mo K mg):Sp:=λb H Q _=>∃(R:Rg) (pa dx:Addr) (p:aq) (al se a wa sn:Addr) (l:List aN) (n:Nat) (g:aT),b=[.ref pa,.int n]/\TP m R H pa dx p al se a wa sn l/\dC l p n=aa g/\n<=9999/\p.told.length<1000/\se≠a/\R a/\
 ∀H',Kp (kW a) H H'->TP m R H' pa dx {p with told:=dz p.told g} al se a wa sn l->Q .non H'
def Ri:bo ["player","n"] ["player","n"] (aP (ig 114)):=jY
include m in
def Rj:du P w K mg base jw 2 (m.fn 114) (m.fd 114) ["player","n"] (OS m):=by
 exact m.Vb.F.ok Ri (λvs H Q E h=>?_) (λa5 A v s H vs Q E M h=>?_)
 ·let(_,_,_,_,_,_,_,_,_,_,_,_,rfl,_):=h;rfl
 let(R,pa,dx,p,al,se,f,wa,sn,l,n,g,rfl,d,i,x,y,B,ab,k):=h;let N:=jx M;let(C,O,T):=d.sn;let(D,e,q):=d.tn;let I:D.length=p.told.length:=by rw[(q.risD d.rt).len,aj]
 exact⟨_,bN (dG (df lD (dA m.UG (JW m) M (aS (pv 0) (cU (pv 1)))) (cS m.UB) (dS _))
  (bN (gL (vT (fl (pv 0)) (pv 1) ⟨rfl,rfl,rfl,rfl⟩)))
  (bN (lG N (fl (pv 0)) (pv 1) (jh N (fl (pv 0)) (pv 1) (λ_ _=>rfl)) rfl))),?_⟩
 exact(_,rfl,_,rfl,WG R pa dx p al se f (WP wa sn l n rfl d rfl (WL _ rfl ?_)));let Y:=rn p.told n;let fs:=uh l p n;let J:pa≠f:=jf d.ob e (by intro z;cases z);let hv:=J2 d i x;let lf:=Hy i;let o:∀r,fZ (m.cl 11) R H r (fD (dz p.told g))->Q .non (bD H f (.dK r)):=λr hD=>by
  exact k _ (Kp.refl.put rfl) ⟨(aF J).trans d.ob,⟨C,(aF B).trans O,T.upd_dK e⟩,⟨r,ak,hD.upd_dK e⟩,d.lv,hv,d.rl,Sp.z9 d.rt g,d.rs,d.st,d.sl,?_⟩;have:=ue p.told g;show(dz p.told g).length<=1000;omega
 rw[i];let e3:(V.int ((dc (aa g):Nat):Int)=V.int 3)↔tH g=ae:=by
  cases g with
  |enter=>exact((λh=>by cases h),(λh=>by cases h))
  |change=>exact((λh=>by cases h),(λh=>by cases h))
  |leave=>exact(λ_=>rfl,λ_=>rfl)
 exact fO (λc=>?_) λc=>?_
 ·let c:=e3.mp c;have:=lf.1 c
  cases et:bA p.told n with
  |none=>rw[et] at this;cases this
  |some u=>
   rw[et] at Y;let(b,eb,_):=q.some_ Y;exact WL _ rfl (WH pa _ dx _ _ rfl d.ob m.k12.cl m.Us pR ⟨f,rfl,.inl ⟨_,.inl e⟩,_,rfl,WT _ (aA (n:Int)) _ e rfl eb ?_⟩);exact o _ ((q.drop _).of_eq λj=>?_);rw[J1 d.rt d.l8 d.t8 i,jN c]
 ·let c:tH g=af:=by
   cases hl:tH g with
   |false=>rfl
   |true=>exact aB (e3.mpr hl) c
  have:=lf.2 c
  cases L:Sp.Cg l p n with
  |none=>rw[L] at this;cases this
  |some t=>
   rw[L] at fs;let(a,ea,ha):=T.some_ fs;let hg:gD H se (.int (n:Int)) (aa (.ref a)):=by
    have:=gD.k (k:=aA ((n:Nat):Int)) O;rw[ea] at this;exact this
   exact WL _ rfl (WH pa _ dx _ _ rfl d.ob m.k12.cl m.Ur rh ⟨_,rfl,WJ se _ rfl hg ?_⟩);exact(_,rfl,WH pa _ dx _ _ rfl d.ob m.k12.cl m.Us pR ⟨_,rfl,WJ f _ rfl (uo.k (k:=aA ((n:Nat):Int)) e (by rw[I];exact xA ⋯)) ?_⟩);exact o _ ((q.put (n:=(n:Int)) ha).of_eq λj=>?_);rw[J1 d.rt d.l8 d.t8 i,L,c];rfl
end
def zn (ms:List aT):∀d:List bv,(ms.foldl dz d).length<=d.length+ms.length:=by
 induction ms with
 |nil=>intro d;exact aH _
 |cons g ms a=>
  intro d;have:=a (dz d g);have:=ue d g;simp only[eX,aK];omega
def Gh (h:(mV g).length<=8):(bw g).length<=110:=by
 let fl:∀v:List Int,(v.flatMap λz=>eQ (eZ z)).length<=10*v.length:=by
  intro v
  induction v with
  |nil=>exact aH _
  |cons z v c=>
   rw[dN,aQ,aK];have:=Sp.RD (eZ z);omega
 cases g with
 |enter n k v=>
  let a:=Sp.RD n;let e:=Sp.RD k;let b:=fl v;let h:v.length<=8:=h;show(1::(eQ n++(eQ k++_))).length<=110;simp only[aK,aQ];omega
 |change n d v=>
  let a:=Sp.RD n;let b:=fl v;let h:v.length<=8:=h;show(2::(eQ n++(qv d::_))).length<=110;simp only[aK,aQ];omega
 |leave n=>
  let a:=Sp.RD n;show(3::eQ n).length<=110;rw[aK];omega
def J3 (c:∀t∈l,t.vals.length=8)(h:dC l p n=aa g):(mV g).length<=8:=by
 rw[Sp.Ie] at h
 cases a:Sp.Cg l p n with
 |none=>
  rw[a] at h
  cases b:bA p.told n with
  |none=>rw[b] at h;cases h
  |some u=>rw[b] at h;cases h;exact aR _
 |some t=>
  let d:t.vals.length=8:=by
   unfold Sp.Cg at a;split at a
   ·exact c t (Sp.pL a)
   ·cases a
  rw[a] at h
  cases b:bA p.told n with
  |none=>rw[b] at h;cases h;exact pI d
  |some u=>
   rw[b] at h;dsimp only at h;split at h
   ·cases h;exact aR _
   ·split at h
    ·cases h
    ·cases h;show((xP t.vals u.vals).map _).length<=8;rw[aj];exact bq (cY _ _) (by rw[g9];exact aH _)
def BO (l:List aN)(p:aq)(r:Nat):bW l p r []=[]:=by unfold bW;rfl
def DM {r:Nat}(h:dC l p n=aa g):bW l p r (n::ns)=if(bw g).length<=r then g::bW l p (r-(bw g).length) ns else[]:=by
 conv=>lhs;unfold bW
 rw[h]
section
variable {P:aO} {w:World} {K:am} {mg:Str->Option ag} {base:Heap} (m:Mo K mg)
def TP.mv {m:Mo K mg}{d:Rg}{c:Addr}(h:TP m R H pa dx p al se c wa sn l)(v:Mv R d H H')(h1:H' pa=H pa)(e:H' se=H se)(f:H' c=H c):TP m d H' pa dx p al se c wa sn l:=
 ⟨h1.trans h.ob,let ⟨k,a,b⟩:=h.sn;⟨k,e.trans a,b.move v⟩,let ⟨k,a,b⟩:=h.tn;⟨k,f.trans a,b.move v⟩,h.lv,h.tv,h.rl,h.rt,h.rs,h.st,h.sl,h.tl⟩
def gI (p:aq)(ms:List aT):aq:={p with told:=ms.foldl dz p.told}
def OT (m:Mo K mg):Sp:=λf H Q _=>∃(R:Rg) (pa dx:Addr) (p:aq) (al se c wa sn:Addr) (l:List aN) (d:Addr) (a:List Nat),f=[.ref pa,.ref d]/\TP m R H pa dx p al se c wa sn l/\H d=aa (.lst (nb a))/\a.Nodup/\(∀n∈a,(dC l p n).isSome=ae/\n<=9999)/\p.told.length+a.length<1000/\8<=p.budget/\se≠c/\R c/\
 ∀H' b e,Kp (kW c) H H'->H b=ac->H' b=aa (.lst (e.map V.ref))->xZ H' e ((bW l p (p.budget-8) a).map bw)->TP m R H' pa dx (gI p (bW l p (p.budget-8) a)) al se c wa sn l->Q (.ref b) H'
def Nh:bo ["player","turn","room","messages","n","message"] ["player","turn"] (aP (ig 115)):=jY
include m in
def Rk:du P w K mg base jw 5 (m.fn 115) (m.fd 115) ["player","turn"] (OT m):=by
 exact m.Vc.F.ok Nh (λvs H Q E h=>?_) (λcw A bl s H vs Q E hr h=>?_)
 ·let(_,_,_,_,_,_,_,_,_,_,_,_,rfl,_):=h;rfl
 let(R,pa,dx,p,al,se,C,wa,sn,l,Y,d,rfl,N,D,bm,bu,cm,cx,bx,b',k):=h;let nd:=Nh.nd;exact⟨_,ao (sT 2 nd (cI jU (fl (pv 0)) (cS m.VI)))
  (ao (sT 3 nd (cr ng))
  (ao (kj cQ rfl (jg (pv 1)) (fC (i:=4) nd rfl (eu rfl))
   (ao (sT 5 nd (dA m.Va (Rh m) hr (aS (pv 0) (cU (pv 4)))))
   (ao (Bj (i:=2) nd rfl (eu rfl) (cJ eN (by rfl) m.Uk cM (cU (pv 5))) K1)
   (ao (dG (df rF (pv 2) be (dS _)) (bN Iz) bS)
   (ao (gL (wT (pv 3) (pv 5)))
   (bN (gL (dA m.Vb (Rj m) (hr.mono (by decide)) (aS (pv 0) (cU (pv 4)))))))))))
  (rt (pv 3)))),?_⟩
 exact WL _ rfl (WH pa _ dx _ _ rfl N.ob m.k12.cl m.Vi Hn (WJ _ _ rfl rfl ?_));exact(aR _,λb J=>?_);let(cn,ar,_):=N.tn;let a0:b≠C:=(aL ar J).symm;let c2:Y≠C:=λe=>by rw[e,ar] at D;cases D
 let cy:Y≠b:=aL D J;let s1:=aU.new (o:=.lst []) J;let(cp,c3,_):=N.sn;let av:pa≠b:=aL N.ob J;let ax:se≠b:=aL c3 J;obtain⟨R2,L⟩:∃R2:Rg,R2=λc=>R c\/c=b:=⟨_,rfl⟩
 let ay:R2 C:=by rw[L];exact .inl b'
 let c4:R2 b:=by rw[L];exact .inr rfl
 let c5:∀c,R2 c->R c\/H c=ac:=λc hc=>by
  rw[L] at hc;rcases hc with h|h
  ·exact .inl h
  ·rw[h];exact .inr J
 let a':∀(f:List aT) (x:List Addr) (H':Hp),bW l p (p.budget-8) d=f->Kp (kW C) H H'->H' b=aa (.lst (x.map V.ref))->xZ H' x (f.map bw)->TP m R2 H' pa dx (gI p f) al se C wa sn l->Q (.ref b) H':=λf x H' e O gb hr ht=>by
  subst e;exact k H' b x O J gb hr (ht.mv ⟨Kp.refl,λc hc=>.inl (by rw[L];exact .inl hc)⟩ rfl rfl rfl)
 exact WL _ rfl (WU Y rfl ⟨_,dL.of (s1 _ _ D)⟩ (ka (K:=K) (a:=Y) (xs:=nb d)
  (λi σ H'=>∃(v4 v5:Option V) (r:Nat) (f:List aT) (x:List Addr),σ=[aa (.ref pa),aa (.ref Y),aa (.int (r:Nat)),aa (.ref b),v4,v5]/\Kp (kW C) H H'/\H' b=aa (.lst (x.map V.ref))/\(∀a∈x,a≠b)/\xZ H' x (f.map bw)/\TP m R2 H' pa dx (gI p f) al se C wa sn l/\
   f.map bM=d.take i/\i<=d.length/\bW l p (p.budget-8) d=f++bW l p r (d.drop i))
  (WM ac ac (p.budget-8) [] [] ?_ (Kp.refl.new J) ak (λ_ h=>by cases h) .nil (N.mv ⟨Kp.of s1,c5⟩ (aF av) (aF ax) (aF a0.symm)) ⟨rfl,aR _,rfl⟩) (λi σ H' _ x'=>V5 x' λ_ _ _ _ _ x'=>X2 x' λ_ O _=>dL.of (O _ _ c2 D)) ?_ ?_))
 ·show[aa (V.ref pa),aa (V.ref Y),aa (V.int ((p.budget:Int)-8)),aa (V.ref b),ac,ac]=_;rw[show((p.budget:Int)-8)=((p.budget-8:Nat):Int) by omega]
 ·intro i y σ H' hi x';let(v4,v5,r,f,x,rfl,O,gb,a2,u,I,j,c8,v):=x';let(n,hn,rfl):=km hi;let a3:=bf.mp hn;let b1:=bj hn;let(c9,b2):=bu n b1;let(g,hg):=bF.mp c9;let cP:f.length<=d.length:=by
   have:=congrArg mz j;rw[aj,cO] at this;omega
  let cb:n∉d.take i:=wo bm hn;let cc:bA (gI p f).told n=bA p.told n:=Sp.wF N.rt λg' M e=>cb (by rw[<-j,<-e];exact aM.mpr ⟨g',M,rfl⟩)
  let M:dC l (gI p f) n=aa g:=by rw[AJ (p:=p) (q:=gI p f) rfl cc];exact hg
  rw[fX a3.1,a3.2,DM hg] at v;let d0:=Gh (J3 N.l8 hg);exact WL _ rfl (WL _ rfl (WG R2 pa dx (gI p f) al se C (WO wa sn l n g rfl I M ⟨b2,λH2 q T fq gq=>?_⟩)));exact WL _ rfl (WL _ rfl (WJ q _ rfl (.inl (dL.of gq)) (WJ _ _ rfl rfl ?_)));rw[aj];exact WL _ rfl (WJ _ _ rfl rfl (WL _ rfl (fO (λc=>?_) λc=>?_)))
  ·rw[iQ ⋯,dM] at v;exact(_,rfl,a' f x H2 v (O.trans (Kp.of T)) (T _ _ gb) (u.keep T) (I.same T))
  ·rw[jN ⋯] at v;let b3:q≠b:=(aL gb fq).symm;let b5:=T _ _ gb;let b6:x.length=f.length:=by
    have:=cB u;rw[aj] at this;exact this
   exact WU _ rfl (.inl ⟨rfl,_,dL.of b5⟩) (WL _ rfl (WQ b _ _ rfl rfl b5 (by rw[aj,b6];exact xA ⋯) ?_));obtain⟨H3,B⟩:∃H3,H3=bD H2 b (.lst (x.map V.ref++[.ref q])):=⟨_,rfl⟩;let g3:H3 b=aa (.lst ((x++[q]).map V.ref)):=by rw[B,ak,bU];rfl
   rw[<-B];let k3:∀c o,c≠b->H2 c=aa o->H3 c=aa o:=λc o hc e=>by rw[B,aF hc];exact e
   let a5:=I.same T;let(d3,e1,e2):=a5.sn;let(d4,f1,f2):=a5.tn;let cs:pa≠b:=aL N.ob J;let b7:TP m R2 H3 pa dx (gI p f) al se C wa sn l:=a5.mv ⟨λc o nc e=>k3 c o (λz=>nc (by rw[z];exact c4)) e,λc hc=>.inl hc⟩ (by rw[B,aF av]) (by rw[B,aF ax]) (by rw[B,aF a0.symm]);exact WL _ rfl (WL _ rfl (WG R2 pa dx (gI p f) al se C (WM wa sn l n g rfl b7 M b2 ?_ bx ⟨ay,λH4 ab cf=>?_⟩)))
   ·have:=zn f p.told;show(f.foldl dz p.told).length<1000;let ct:f.length<d.length+1:=⋯
    have:=congrArg mz j;rw[aj,cO] at this;omega
   ·let ch:Kp (kW C) H H3:=λc o nc e=>k3 c o (aL e J) (T c o (O c o nc e))
    let(cu,cj,_):=b7.tn;let an:xZ H3 (x++[q]) ((f++[g]).map bw):=by
     rw[bU];exact qo (a9.mapMem u λc hc r e=>k3 c _ (a2 c hc) (T _ _ e)) (k3 _ _ b3 gq)
    exact WM (aa (.int (n:Int))) (aa (.ref q)) (r-(bw g).length) (f++[g]) (x++[q]) ?_ (ch.trans ab) (ab _ _ a0 g3) ?_ (a9.mapP an λc r e=>ab _ _ (jf e cj (by intro z;cases z)) e) ?_ ⟨?_,a3.1,?_⟩
    ·show[aa (V.ref pa),aa (V.ref Y),aa (V.int ((r:Int)-((bw g).length:Int))),aa (V.ref b),aa (V.int (n:Int)),aa (V.ref q)]=_;rw[show((r:Int)-((bw g).length:Int))=((r-(bw g).length:Nat):Int) by omega]
    ·intro c hc;rcases cF.mp hc with h|h
     ·exact a2 c h
     ·rw[dP] at h;rw[h];exact b3
    ·have:gI p (f++[g])={gI p f with told:=dz (gI p f).told g}:=by
      unfold gI;rw[qI];rfl
     rw[this];exact cf
    ·rw[bU,j,eB hn];show _++[bM g]=_;rw[Sp.O7 hg]
    ·rw[v,g0];rfl
 ·intro σ H' x';let(v4,v5,r,f,x,rfl,O,gb,a2,u,I,j,c8,v):=x';rw[aj] at v;rw[rO,BO,dM] at v;exact(_,rfl,a' f x H' v O gb u I)
end
end SA
namespace L2
open PySem PySem.Spec PyProof.Rows
variable {P:aO} {w:World} {h:Heap} {key:Int->Int} {E:ag->aw->Prop} {Pf:PySem.Fin->aw->Prop}
section
variable {X:Cx} {pins:List (Addr×Obj)} {σ:St} {H:Hp} {s:aw}
def cz.track {a:Addr}{o:HO}(I:cz X pins σ H s)(hn:H a=ac)(z:X.s_0.heap.objs.size<=a)(A:a≠X.env.locals)(hc:∀x c,X.env.cells.lookup x=aa c->c≠a)(C:∀p∈X.pn++pins,p.1≠a)(r:iJ X.prog X.w (bD H a o) s.heap a o):cz X pins σ (bD H a o) s:=by
 let lt:∀b d,X.s_0.heap.get? b=aa d->b≠a:=λb d e=>bn (bQ (aW e) z)
 let f:∀b u,H b=aa u->b≠a:=λb u e=>aL e hn
 let B:=I.base;exact(I.ok,I.os,I.bare,⟨B.keep,B.slot,λb d e n D=>?_,B.there,λb v e=>?_,λb d u e=>?_,λb E e=>?_⟩,I.loc,I.cell,?_,λx c e=>?_,λp i=>?_,λb u e=>?_,I.len)
 ·rw[aF (lt b d e)];exact B.free b d e n D
 ·have:=B.tups b v e;rw[aF (f b _ this)];exact this
 ·have:=B.frzs b d u e;rw[aF (f b _ this)];exact this
 ·let(j,y):=B.tbls b E e;exact(j,by rw[aF (f b _ y)];exact y)
 ·rw[aF A.symm];exact I.free
 ·rw[aF (hc x c e)];exact I.freeC x c e
 ·let(J,L,M):=I.pin p i;exact(J,by rw[aF (C p i)];exact L,M)
 ·by_cases q:b=a
  ·subst q;rw[ak] at e;cases e;exact r
  ·rw[aF q] at e;exact(I.hok b u e).stay (λ_ _ _ e=>e) (λc l=>by rw[aF (f c _ l)];exact l) λc v l=>by rw[aF (f c _ l)];exact l
abbrev xE (H:Hp)(key:Int->Int)(v:ag)(n:Int):Prop:=∃T,v=.ref T/\H T=aa (.tup [.int (key n),.int n])
def AK {H:Hp}{T:Addr}{i j:Int}(a:oE P w H h)(e:H T=aa (.tup [.int i,.int j])):∃o xs n t u,h.get? T=aa o/\o.cls=.type "tuple"/\o.data=.seq xs n/\xs= #[.int i t,.int j u]:=by
 let(_,b,r,o,c,hc,n,d):=a T _ e
 cases r with
 |cons f l=>
  cases l with
  |cons p q=>
   cases q;let(t,rfl):=f;let(u,rfl):=p;exact WO o _ n t u c hc d rfl
def Hz (key:Int->Int)(a b:Int):Prop:=key a<key b\/(key a=key b/\a<=b)
end
theorem AL:∀{vs:List ag} {ns:List Int},sj vs ns->eI (ns.map V.int) vs
 |_,_,.nil=>.nil
 |_,_,.cons n t r=>.cons ⟨t,rfl⟩ (AL r)
abbrev Ni:Nat->Bool:=λ_=>af
def Gi {H:Hp}(b:oE P w H h){v:ag}{n:Int}(k:xE H key v n):G.tupKeyC h Ni v=aa [aA (key n),aA n]:=by
 let(T,rfl,e):=k;let(o,f,m,t,u,a,hc,c,rfl):=AK b e;let d:G.isTupObj h (.ref T)=ae:=by
  simp only[G.isTupObj,a,hc];rfl
 unfold G.tupKeyC;rw[jN d];simp only[tupKey,a,c];rfl
theorem Gj {P:aO}{w:World}{H:Hp}{h:Heap}(c:oE P w H h){key:Int->Int}:∀{vs:List ag} {ns:List Int},a9 (xE H key) vs ns->∃fs,fs.length=vs.length/\TupsOf h Ni vs fs
 |_,_,.nil=>⟨[],rfl,.nil⟩
 |_,_,.cons (a:=v) (b:=n) k r=>by
  let(fs,d,f):=Gj c r;let(T,rfl,e):=k;let(o,l,m,t,u,i,hc,j,rfl):=AK c e;exact(.int (key n) t::fs,by simp[d],.cons (WK T o _ m rfl i hc j rfl ⟨λ_=>⟨_,_,rfl⟩,λz=>by cases z⟩) f)
def J4 {a b:Int}(h:(listOrd itemOrd).kle [aA (key a),aA a] [aA (key b),aA b]):Hz key a b:=by
 let h:(decide (key b<key a)||(!decide (key a<key b)&&(decide (b<a)||(!decide (a<b)&&af))))=af:=h
 simp only[Bool.and_false,qV,Bool.or_eq_false_iff,decide_eq_false_iff_not,Bool.and_eq_false_iff,Bool.not_eq_false',decide_eq_true_eq] at h;unfold Hz;omega
theorem AM {H:Hp}{key:Int->Int}:∀{ks us:List ag} {ms:List Int},a9 (xE H key) ks ms->sj us ms->∀p∈ks.zip us,∃n t,p.2=iY n t/\xE H key p.1 n
 |_,_,_,.nil,.nil,p,hp=>by cases hp
 |_,_,n::_,.cons k r,.cons _ t a,p,hp=>by
  rcases az.mp hp with rfl|hp
  ·exact(n,t,rfl,k)
  ·exact AM r a p hp
section
variable {X:Cx} {pins:List (Addr×Obj)} {σ:St} {H:Hp} {s:aw}
def OU {A:b0}{a kS:Addr}{vs:List ag}{ns:List Int}{c:Array ag}{e x:Nat}(I:cz X (pins++[(kS,fR "list" c e),(a,fR "list" #[] x)]) σ H s)(hk:a9 (xE H key) c.toList ns)(N:sj vs ns)(hZ:vs.length<=100000)(O:ul X pins H a)(fk:ul X pins H kS)(ax:kS≠a)(hex:X.s_0.heap.objs.size<=a)(h:∀(h':Heap) (tk:Nat) (ms:List Int),cz X pins σ (bD H a (.lst (ms.map V.int))) {s with heap:=h',toks:=tk}->ms.Perm ns->ms.Pairwise (Hz key)->Pf (.done (.ret .none)) {s with heap:=h',toks:=tk}):
  a8 (bd X.prog X.w) A (ksk_end a af vs.toArray x (.ref kS) c) Pf E s:=by
 let y:vs.length<=aI:=bq hZ (by decide);let bu:aI=aI:=rfl;let nk:=I.pin (kS,fR "list" c e) (bt _ (bt _ (.head _)));let na:=I.pin (a,fR "list" #[] x) (bt _ (bt _ (.tail _ (.head _))));let I0:cz X pins σ H s:=I.unpinned;let B:c.size=vs.length:=by
  let h1:=cB hk;let f:=N.length;rw[aC] at h1;omega
 let C:(c.zip vs.toArray).size=vs.length:=by rw[Array.size_zip,B,bi,Nat.min_self]
 let T:(c.zip vs.toArray).toList=c.toList.zip vs:=ksk_zip c vs;let l:=AM hk N;let r:∀st:SortSt,(lP st).Perm (c.zip vs.toArray)->SortedToK (DX s.heap Ni) (lP st) (lP st).size->failedOf st=ac->a8 (bd X.prog X.w) A (ksk_tail a af x (.ref kS) st) Pf E s:=by
  intro st u hs D;let Y:(lP st).size=vs.length:=by rw[u.size_eq,C]
  let a0:(lP st).toList.Perm (c.toList.zip vs):=by rw[<-T];exact Array.perm_iff_toList_perm.mp u
  let a4:∀p∈(lP st).toList,∃n t,p.2=iY n t/\xE H key p.1 n:=λp J=>l p (a0.mem_iff.mp J)
  let s1:=cX s.heap kS (dg λ_=>(#[]:Array ag));let L:(s.heap.update kS (dg λ_=>(#[]:Array ag))).get? a=aa (fR "list" #[] x):=(s1.2 a ax.symm).trans na.1;let s2:=cX (s.heap.update kS (dg λ_=>(#[]:Array ag))) a (dg λ_=>(lP st).map (·.2));obtain⟨c2,b3⟩:∃c2,((s.heap.update kS (dg λ_=>(#[]:Array ag))).update a (dg λ_=>(lP st).map (·.2))).get? a=aa (fR "list" ((lP st).map (·.2)) c2):=⟨_,DY L λ_=>(lP st).map (·.2)⟩;unfold ksk_tail
  try dsimp only
  exact ai (yz nk.1 rfl ?_ (by rw[B];exact y) (aR _));exact ai (wpAny_letGo ?_);exact ai (seqEpoch_at L rfl ?_);exact ai (yz L rfl ?_ (aR _) (by simp only[bE,if_false,pH];rw[Y];exact Nat.le_succ_of_le y));rw[D];simp only[bne_self_eq_false,bE,if_false];let I2:cz X pins σ H {s with heap:=(s.heap.update kS (dg λ_=>(#[]:Array ag))).update a (dg λ_=>(lP st).map (·.2)),toks:=s.toks}:=I0.turnedL (ch:=[kS,a]) (λb o hb e=>by
   let b1:b≠kS:=λz=>hb (by simp[z])
   let b2:b≠a:=λz=>hb (by simp[z])
   rw[s2.2 b b2,s1.2 b b1];exact e) λb hb=>by
   simp only[az,bc,or_false] at hb;rcases hb with rfl|rfl
   ·exact fk
   ·exact O
  let hI:sj ((lP st).toList.map qa) (((lP st).toList.map qa).map numOf):=intsAre_map _ λv hv=>by
   let(p,J,rfl):=aM.mp hv;let(n,t,e,_):=a4 p J;exact(n,t,e)
  let hP:(((lP st).toList.map qa).map numOf).Perm ns:=by
   let h1:=(a0.map qa).map numOf;let h3:=N.length;let h4:=cB hk;rw[List.map_snd_zip ⋯,N.nums] at h1;exact h1
  let hO:(((lP st).toList.map qa).map numOf).Pairwise (Hz key):=by
   rw[bY,bY];exact BV.mpr λi j b5 ab al=>?_
   let M:j<(lP st).size:=by rw[<-aC];exact ab
   let an:=hs i j (dY al) M;let kk:∀(q:Nat) (hq:q<(lP st).toList.length),KK (DX s.heap Ni) (lP st) q=[aA (key (numOf ((lP st).toList[q]).2)),aA (numOf ((lP st).toList[q]).2)]:=λq hq=>by
    let(n,t,e,kt):=a4 _ (rL hq);let x:(lP st)[q]?=aa ((lP st).toList[q]):=by rw[<-ci,br hq]
    unfold KK;rw[x];show(G.tupKeyC s.heap Ni _).getD []=_;rw[Gi I.hok kt,e];rfl
   rw[kk i b5,kk j ab] at an;exact J4 an
  exact aG (h _ _ _ (I2.track O.1 hex O.2.1 O.2.2.2.2.1 O.2.2.2.2.2 ⟨?_,(lP st).toList.map qa,c2,AL hI,?_⟩) hP hO)
  ·rw[aj,hP.length_eq,<-N.length];exact y
  ·rw[b3];congr 2;rw[<-Array.toList_map]
 unfold ksk_end
 try dsimp only
 simp only[bE,if_false];by_cases f:vs.toArray.size<2
 ·rw[jN f,jN f];exact ai (aG ?_);rw[StateT.run_pure];exact ai (aG ?_)
  try dsimp only
  exact r (SortSt.mk' general' (c.zip vs.toArray) #[] 7 ac) (Array.Perm.refl _) ?_ rfl;intro i j al hj;let M:j<(c.zip vs.toArray).size:=hj;rw[C] at M;rw[bi] at f;have:i=j:=⋯
  subst this;exact KeyOrd.kle_refl _
 ·rw[iQ f,iQ f];rw[bi] at f;let(fs,D,b7):=Gj I.hok hk;let ek:c=c.toList.toArray:=by simp
  let ar:0<fs.length:=by
   let h5:fs.length=vs.length:=D.trans (aC.trans B);rw[h5];exact bQ (by decide:0<2) (Nat.le_of_not_lt f)
  let tk:∀{Q:SortKind->aw->Prop},Q (tuples' ae) s->a8 (bd X.prog X.w) A (keyKind' c) Q E s:=λhq=>by
   rw[ek];exact tup_kind (shape:=Ni) (s:=s) (vs:=c.toList) (fs:=fs) ar b7 hq
  exact ai (tk ?_);exact ai (gy (G.wpS_sortRunsSt (κ:=DX s.heap Ni) (kd:=tuples' ae) (a₀:=c.zip vs.toArray) (st:=SortSt.mk' (tuples' ae) (c.zip vs.toArray) #[] 7 ac)
   (Q:=λ_ d=>(lP d).Perm (c.zip vs.toArray)/\failedOf d=ac/\SortedToK (DX s.heap Ni) (lP d) (c.zip vs.toArray).size)
   (G.tupC_ltAt ae (G.KeepsTups.refl _)) (λp u=>?_) ⟨Array.Perm.refl _,rfl,rfl⟩ rfl (Stable.refl _) (by rw[C];omega) λd a1 a2 a3 _=>⟨a1,a2,a3⟩) ?_ λ_ _ e=>e)
  ·rw[T] at u;let(n,t,_,kt):=l p u;exact(_,Gi I.hok kt)
  ·intro x' s' j';let((),d):=x';let(rfl,u,hf,hs):=j';exact r d u (by rw[u.size_eq];exact hs) hf
end
theorem a9.snoc' {α β:Type}{F:α->β->Prop}:∀{l₁:List α} {l₂:List β} {x:α} {y:β},a9 F l₁ l₂->F x y->a9 F (l₁++[x]) (l₂++[y])
 |_,_,_,_,.nil,h=>.cons h .nil
 |_,_,_,_,.cons a b,h=>.cons a (a9.snoc' b h)
section
variable {X:Cx} {pins:List (Addr×Obj)} {σ:St} {H:Hp} {s:aw}
abbrev J5 (X:Cx)(σ:St)(H:Hp)(f:ag)(key:Int->Int)(ns:List Int):Prop:=∀n∈ns,∀(t:Tok) (a:List (Addr×Obj)) (e:aw) (c:Hp),cz X a σ c e->aU H c->
 a8 (bd X.prog X.w) X.A.in1.in1 (call f [.int n t]) (λu d=>∃b,cz X a σ b d/\aU c b/\xE b key u n) (λ_ _=>False) e
def LY {a kS:Addr}{vs:List ag}{ns:List Int}{y:Nat}{f:ag}{h1:Heap}{tk1:Nat}(O:cz X pins σ H {s with heap:=h1,toks:=tk1})(Q:sj vs ns)(hZ:vs.length<=100000)(B:kS≠a)(ha:h1.objs.size<=a)(hk:h1.objs.size<=kS)(C:J5 X σ H f key ns)(I:cz X (pins++[(kS,fR "list" #[] 0),(a,fR "list" #[] y)]) σ H s)(h:∀(s':aw) (c:Hp) (ms:List Int),cz X pins σ (bD c a (.lst (ms.map V.int))) s'->aU H c->c a=ac->ms.Perm ns->ms.Pairwise (Hz key)->Pf (.done (.ret .none)) s'):
  a8 (bd X.prog X.w) X.A.in1.in1 (ksk_rest a f af vs.toArray y (.ref kS)) Pf E s:=by
 let D:vs.length<=aI:=bq hZ (by decide);let Y:∀{c:Hp},c a=ac->ul X pins c a:=λhn=>O.fpOk ha hn
 let J:∀{c:Hp},c kS=ac->ul X pins c kS:=λhn=>O.fpOk hk hn
 let ay:=Q.length;unfold ksk_rest;exact ai (u9 ?_)
 first
  |rw[List.forIn_toArray]
  |(rw[<-lX];simp only[iU])
  |rw[<-lX]
 exact ai (ksk_fold (λi s'=>∃(c:Hp) (l:Array ag) (e:Nat),cz X (pins++[(kS,fR "list" l e),(a,fR "list" #[] y)]) σ c s'/\aU H c/\a9 (xE c key) l.toList (ns.take i)) vs 0 s
  (WS H (#[]) 0 I (aU.refl H) (by simpa using a9.nil)) ?step ?done)
 case step=>
  intro j x s' hx x';let(c,l,e,L,N,d):=x';simp only[nz] at d⊢;let hj:j<vs.length:=(bf.mp hx).1;obtain⟨n,hn⟩:∃n,ns[j]?=aa n:=⟨_,br ⋯⟩;let(t,ht):=Q.get j n hn;rw[hx] at ht;cases ht;let hz:l.size<=vs.length:=by
   let h1:=cB d;rw[aC,cO] at h1;omega
  exact ai (HH (gy (C n (bj hn) t _ s' c L N) (λv q he=>?_) λ_ _ hF=>hF.elim));let(H2,I2,s2,k2):=he
  try dsimp only
  let r:=I2.pin (kS,fR "list" l e) (bt _ (bt _ (.head _)));let M:=I2.pin (a,fR "list" #[] y) (bt _ (bt _ (.tail _ (.head _))));let sb:=cX q.heap kS (dg (·.push v));obtain⟨c2,a2⟩:∃c2,(q.heap.update kS (dg (·.push v))).get? kS=aa (fR "list" (l.push v) c2):=⟨_,DY r.1 (·.push v)⟩;exact ai (yz r.1 rfl ?_ (bq hz D) (bq (pI (oK ..)) (Nat.succ_le_succ (bq hz D))));let I3:cz X pins σ H2 {q with heap:=q.heap.update kS (dg (·.push v)),toks:=q.toks}:=(I2.unpinned (pl:=[(kS,fR "list" l e),(a,fR "list" #[] y)])).turnedL (ch:=[kS]) (λb o hb eo=>by
   let b1:b≠kS:=λz=>hb (by simp[z])
   rw[sb.2 b b1];exact eo) λb hb=>by
   have:b=kS:=by simpa using hb
   rw[this];exact J r.2.1
  let ek:ns.take (j+1)=ns.take j++[n]:=by rw[xK,hn];simp
  let ea:(l.push v).toList=l.toList++[v]:=by simp
  exact aG ⟨rfl,WS H2 (l.push v) c2 (I3.pins_of λp hp=>?_) (N.trans s2) ?_⟩
  ·rcases cF.mp hp with hp|hp
   ·exact I3.pin p (bt _ hp)
   ·rcases az.mp hp with rfl|hp
    ·exact(a2,r.2.1,r.2.2.1,r.2.2.2.1,λv z=>by cases z)
    ·rw[dP.mp hp];exact((sb.2 a B.symm).trans M.1,M.2)
  ·rw[ea,ek];exact a9.snoc' (a9.mapP d λu i x'=>V11 x' λT y e2=>⟨T,y,s2 _ _ e2⟩) k2
 case done=>
  intro s' x';let(c,l,e,L,N,d):=x';let e3:ns.take (0+vs.length)=ns:=kg ⋯;rw[e3] at d;let r:=L.pin (kS,fR "list" l e) (bt _ (bt _ (.head _)));let M:=L.pin (a,fR "list" #[] y) (bt _ (bt _ (.tail _ (.head _))))
  try dsimp only
  exact ai (listItems_at r.1 rfl ?_);exact OU L d Q hZ (Y M.2.1) (J r.2.1) B (bq O.sz ha) λh' tk ms I4 hp hs=>h _ c ms I4 N M.2.1 hp hs
def HA {d:Addr}{kvs:List (ef×V)}{ks:List Int}{f:Addr}{Q:VK}(I:cz X pins σ H s)(hc:X.A.handled=ac)(hd:Rd H d (.dK kvs))(hk:lI kvs ks)(hz:ks.length<=100000)(B:J5 X σ H (.ref f) key ks)(q:∀(C:Hp) (p:Addr) (ns:List Int),aU H C->C p=ac->ns.Perm ks->ns.Pairwise (Hz key)->Q (.ref p) (bD C p (.lst (ns.map V.int)))):
  a8 (bd X.prog X.w) X.A (call (.builtin "sorted") [.ref d] [(tR "key",.ref f)]) (EP X pins σ Q) X.xe s:=by
 let(z,D,M,E,dd):=pb I.hok hd;let(ep,da):=u0 dd;let l:M.length<=aI:=by rw[<-E.length];exact z
 exact call_function_entry_kw kind_sorted plain_sorted entry_sorted (ksk_s1 _ _) ?_;unfold Builtin.«sorted»;exact ai (m:=checkCount "sorted" 1 1 _) (aG ?_);exact ai (Eb (A:=X.A.in1) (PySem.W.kdl_dict (knd:=dF X.prog X.w) (kvs:=M) (ep:=ep) D) (by simpa using hc) da l λh1 tk1 c k1 x=>?_)
 let r:c.toList.length=M.length:=by rw[aC];exact x.1
 let hI:sj c.toList ks:=uC (P:=X.prog) (w:=X.w) hk E r λj v e=>x.2 j v (by rw[<-ci];exact e)
 let N:c.toList.length<=100000:=by rw[hI.length];exact hz
 exact ai (yx ?_ (by rw[r];exact l));let u:(h1.push (fR "list" c.toList.toArray 0)).get? h1.objs.size=aa (fR "list" c.toList.toArray 0):=aY _ rfl;let y:cz X pins σ H {s with heap:=h1,toks:=tk1}:=I.kept k1
 exact ai (eV (wpAny_call_entry_kw slot_list_sort ⟨_,u,rfl⟩ entry_list_sort ?body (ksk_l1 _ _)))
 case body=>
  show a8 (bd X.prog X.w) X.A.in1.in1 (Builtin.«list.sort» ⟨[.ref h1.objs.size],[(tR "key",.ref f)]⟩) _ _ _;rw[ksk_t1];let s1:=cX (h1.push (fR "list" c.toList.toArray 0)) h1.objs.size (dg λ_=>(#[]:Array ag));obtain⟨e1,J⟩:∃e1,((h1.push (fR "list" c.toList.toArray 0)).update h1.objs.size (dg λ_=>(#[]:Array ag))).get? h1.objs.size=aa (fR "list" #[] e1):=⟨_,DY u λ_=> #[]⟩;let i:(((h1.push (fR "list" c.toList.toArray 0)).update h1.objs.size (dg λ_=>(#[]:Array ag))).push (fR "tuple" c.toList.toArray 0)).objs.size=h1.objs.size+2:=by rw[size_push',Heap.size_update,size_push']
  unfold ksk_tree;exact ai (listItems_at u rfl ?_);exact ai (yz u rfl ?_ (by rw[bi,r];exact l) (aR _));exact ai (seqEpoch_at J rfl ?_);exact ai (wpAny_newTuple ?_ (by show c.toList.toArray.toList.length<=_;rw[iU,r];exact l));exact ai (yx ?_ (aR _));exact eV ?_;let L:∀b o,h1.get? b=aa o->((((h1.push (fR "list" c.toList.toArray 0)).update h1.objs.size (dg λ_=>(#[]:Array ag))).push (fR "tuple" c.toList.toArray 0)).push (fR "list" #[] 0)).get? b=aa o:=λb o e=>by
   let O:b<h1.objs.size:=aW e;exact aE _ (aE _ ?_);rw[s1.2 b (bn O)];exact aE _ e
  let I6:cz X pins σ H {s with heap:=((((h1.push (fR "list" c.toList.toArray 0)).update h1.objs.size (dg λ_=>(#[]:Array ag))).push (fR "tuple" c.toList.toArray 0)).push (fR "list" #[] 0)),toks:=tk1}:=y.kept L
  exact LY (a:=h1.objs.size) (kS:=(((h1.push (fR "list" c.toList.toArray 0)).update h1.objs.size (dg λ_=>(#[]:Array ag))).push (fR "tuple" c.toList.toArray 0)).objs.size) (s:={s with heap:=((((h1.push (fR "list" c.toList.toArray 0)).update h1.objs.size (dg λ_=>(#[]:Array ag))).push (fR "tuple" c.toList.toArray 0)).push (fR "list" #[] 0)),toks:=tk1}) (h1:=h1) (tk1:=tk1) y hI N (by rw[i];exact iZ (Nat.lt_add_of_pos_right (by decide))) (aH _) (by rw[i];exact cT _ _) B (I6.pins_of λp hp=>?_) λs' C ms I4 sH ha hp hs=>⟨_,rfl,?_⟩
  ·let T:=y.fpOk (b:=h1.objs.size) (aH _) (y.hok.fresh (aH _));let Y:=y.fpOk (b:=h1.objs.size+2) (by show h1.objs.size<=_;omega) (y.hok.fresh (by show h1.objs.size<=_;omega));rcases cF.mp hp with hp|hp
   ·exact I6.pin p (bt _ hp)
   ·rcases az.mp hp with rfl|hp
    ·exact(aY _ rfl,?_,?_,?_,λv z=>by cases z)
     ·rw[i];exact Y.1
     ·rw[i];exact Y.2.1
     ·rw[i];exact Y.2.2.1
    ·rw[dP.mp hp];exact(aE _ (aE _ J),T.1,T.2.1,T.2.2.1,λv z=>by cases z)
  ·exact aG ⟨_,rfl,.ref h1.objs.size,_,I4,rfl,q C _ ms sH ha hp hs⟩
end
open PySem PySem.Spec PyProof.Rows PySem.W
def J6 (P:aO)(w:World)(K:am)(mg:Str->Option ag)(base:Heap)(N:List Str)(qual:Str)(a:ku)(f:Addr)(cd:ag)(cl:List (Str×Addr))(A:b0)(outer:List Env)(s:aw)(H:Hp):Cx where
 prog:=P
 w:=w
 K:=K
 mg:=mg
 base:=base
 A:=A.deeper (envX qual a s.heap.objs.size f cd cl)
 N:=N
 s_0:=s
 H_0:=H
 env:=envX qual a s.heap.objs.size f cd cl
 outer:=outer
 stack:=envX qual a s.heap.objs.size f cd cl::outer
 ex:=[]
 calm:=ae
 fn:=λ_=>af
 pn:=[]
 xe:=λ_ _=>False
section
variable {P:aO} {w:World} {K:am} {mg:Str->Option ag} {base:Heap} {N:List Str} {name qual:Str} {params:HX} {body:Expr} {scope:ku} {f:Addr} {pm cd ctv:ag} {cl:List (Str×Addr)} {A:b0} {outer:List Env} {s:aw} {H:Hp} {σ:St}
def LZ {h1:Heap}{tk:Nat}{mN:Str->Option ag}(D:scope.kind=.function)(E:A.handled=ac)(a:wM P w K mg base A outer s H)(j:∀x y c,cl.lookup x=aa c->cl.lookup y=aa c->x=y)(l:∀x,(scope.names.lookup x=aa .cell\/scope.names.lookup x=aa .free)->∃c,cl.lookup x=aa c)
  (q:∀x c,cl.lookup x=aa c->(∃v,s.heap.IsCell c v)/\H c=ac) (C:h1.Ns s.heap.objs.size mN) (d:∀b o,s.heap.get? b=aa o->h1.get? b=aa o)
  (r:∀(i:Nat) (x:Str) (v:V),N[i]?=aa x->σ[i]?=aa (aa v)->MD scope x->∃u,eA v u/\Pq (envX qual scope s.heap.objs.size f cd cl) h1 mN x u) (B:σ.length=N.length):
  cz (J6 P w K mg base N qual scope f cd cl A outer s H) [] σ H {s with heap:=h1,toks:=tk}:=by
 let e:∀b:Addr,b∉(J6 P w K mg base N qual scope f cd cl A outer s H).ex:=λb z=>aB (show b∈([]:List Addr) from z) (by simp)
 exact⟨⟨a.mod,D,rfl,rfl,aH _,j,l,λx c h _=>?_,λ_=>E,D5 a.frames,.inr ⟨rfl,rfl⟩,λb z=>aB z (e b),a.bs,a.bsz,λb _ _=>e b,λb z=>aB z (e b),a.funs,a.frf⟩,
  rfl,a.bare,Un.kept d,(WL mN C r),λx c h=>?_,a.hok.fresh (aH _),λx c h=>(q x c h).2,λp I=>aB (show p∈([]:List (Addr×Obj)) from I) (by simp),a.hok.kept d,B⟩
 ·exact aB (show af=ae from h) (by simp)
 ·let((v,J),_):=q x c h;exact(v,J.keeps d)
def L0 {k:Nat}{x:Str}{u:ag}{t:TE}{Q:VK}(hr:jC k A)(L:wM P w K mg base A outer s H)(ho:s.heap.get? f=aa {cls:=.type "function",data:=.func (Kw name qual params body scope cl pm cd ctv)})(M:s.heap.CodeRec cd qual)
  (a:bindArgs (Kw name qual params body scope cl pm cd ctv) ⟨[u],[]⟩=pure [(x,u)]) (hx:scope.names.lookup x=aa .local) (d:∀y∈scope.names,y.2≠.cell) (hk:scope.kind=.function) (O:scope.isCoroutine=af) (j:scope.isGenerator=af)
  (l:∀x y c,cl.lookup x=aa c->cl.lookup y=aa c->x=y) (p:∀x,(scope.names.lookup x=aa .cell\/scope.names.lookup x=aa .free)->∃c,cl.lookup x=aa c) (T:∀x c,cl.lookup x=aa c->(∃v,s.heap.IsCell c v)/\H c=ac)
  (hσ:∀(i:Nat) (y:Str) (v:V),N[i]?=aa y->σ[i]?=aa (aa v)->MD scope y->(y=x/\eA v u)\/(scope.names.lookup y=aa .free/\∃c E,cl.lookup y=aa c/\s.heap.IsCell c (aa E)/\eA v E)) (r:σ.length=N.length)
  (hb:PE (J6 P w K mg base N qual scope f cd cl A outer s H) body t) (ht:t σ H Q):qM (bd P w) A (.call (.ref f) ⟨[u],[]⟩) (CR jw outer P w H s Q E0) s:=by
 let Y:s.heap.NoLimit:=L.mod.nolimit.keeps λb o e=>(L.bs b o e).1
 exact kla_callFunE hr.depth ho rfl O j rfl M ?_;rw[a];exact aG (wpAny_newFunctionEnv d (λy hy=>?_) (λh₁ a0 B=>⟨Y.fresh _ B,?_⟩) hk)
 ·rw[dP.mp hy];exact hx
 show qM _ _ (.expr body (envX qual scope s.heap.objs.size f cd cl)) _ _;let C:∀b o,s.heap.get? b=aa o->h₁.get? b=aa o:=λb o e=>B.extBut b o (bn (aW e)) (aE _ e)
 let I:=LZ (N:=N) (qual:=qual) (f:=f) (cd:=cd) (σ:=σ) (tk:=s.toks+[(x,u)].length) hk hr.hd L l p T a0 C (λi y v h1 h2 h3=>by
  rcases hσ i y v h1 h2 h3 with⟨rfl,D⟩|⟨hf,c,E,hc,a1,D⟩
  ·exact(u,D,.inl ⟨hx,?_⟩);show jz y [(y,u)]=aa u;simp
  ·exact(E,D,.inr ⟨.inr hf,c,hc,a1.keeps C⟩)) r
 exact kla_codeExpr (gy (hb [] _ σ H Q I ht) (λv s' x'=>V22 x' λz H' J D q=>?_) λ_ _ z=>dE z);exact(z,H',J.os,J.bare,J.base,J.hok,D,q)
end
open PySem PySem.Spec PyProof.Rows PySem.W SA
def HB (f:Addr)(o:Obj):HO:=.ext λh=>h.get? f=aa o
def Gk {H:Hp}{f:Addr}{o:Obj}(e:h.get? f=aa o):iJ P w H h f (HB f o):=⟨e,⟨o,e⟩,λ_ _ y k=>k o y⟩
def L4 {H:Hp}{c:Addr}{q:Str}(e:h.CodeRec (.ref c) q):iJ P w H h c (JF q c):=by
 exact(e,?_,λi j y k=>?_)
 ·let(f,o,d,t,a,b,_):=e;cases a;exact(o,b)
 ·let(f,o,d,t,a,b,r):=y;cases a;exact WD c o d t ⟨rfl,k o b,r⟩
def BP {i j:Int}{t u:Tok}{c:ag}(l:List ag)(h:xQ l):xQ (l++[.int i t,.int j u,c]):=by
 fun_induction xQ l with
 |case1=>exact dR
 |case2 a b o d e rest f=>exact f h
 |case3 l p q=>exact h.elim
section
variable {X:Cx} {pins:List (Addr×Obj)} {σ:St} {H:Hp} {s:aw}
def J7 {a:HX}{j:Expr}{i:ku}{pos:Pos}{clos:List (Str×Addr)}{c T:Addr}{R:Rg}{q:Str}(I:cz X pins σ H s)(a4:defaultsOf a X.env=([],[]))(a5:closureFor i X.env=pure clos)(J:X.env.code=.ref c)(C:rD X.base c T)(hb:X.base.BuiltinsAt X.mg T)
  (hT:uq pos q R H T) (lv:∀b,R b->∃o,H b=aa o) (hq:q=X.env.qual++ "<lambda>")
  {Q:ag->aw->Prop} (h:∀(f:Addr) (cv p:ag) (x:Hp) (s':aw),cz X pins σ x s'->(∀b o,b≠T->H b=aa o->x b=aa o)->uq pos q R x T->H f=ac->x f=aa (HB f {cls:=.type "function",data:=.func (Kw "<lambda>" q a j i clos ((X.mg "__name__").getD .none) cv p)})->
   (∃v,cv=.ref v/\x v=aa (JF q v))->Q (.ref f) s'):
  a8 (bd X.prog X.w) X.A (eval (.Lambda a j i pos) X.env) Q X.xe s:=by
 let(ps,y,t2,O):=hT;let tP:s.heap.get? T=aa (zx ps):=I.hok T _ y;let hg:s.heap.Ns eM X.mg:=I.mod.glob.keeps I.bk;let bb:eM≠T:=λe=>by
  let(o,es,ep,ho,_):=I.mod.glob;have:=(I.bs _ _ ho).2;rw[e,y] at this;cases this
 let al:s.heap.BuiltinsAt X.mg T:=let ⟨bm,o,b1,b2,E,b4,b5,b6⟩:=hb;⟨bm,o,b1,b2,E,b4,I.bk _ _ b5,b6⟩;let nR:∀{b},H b=ac->¬R b:=λf z=>by let(o,e):=lv _ z;rw[f] at e;cases e
 exact kla_eval a4 ?_;rw[<-hq];rcases O with O|⟨c0,O,t4,t5⟩
 ·exact kla_makeFunction (mg:=X.mg) a5 I.ok.glob hg J (C.keeps I.bk) tP t2 O bb al λv p r tk hx Y an ap ar=>?_
  let fc:H v=ac:=I.hok.fresh Y;let L:s.heap.objs.size<=r.objs.size:=bq Y (dY an);let ff:H r.objs.size=ac:=I.hok.fresh L;let bl:r.objs.size≠v:=iZ an;let bu:r.objs.size≠T:=λe=>by rw[e,y] at ff;cases ff
  let bx:v≠T:=λe=>by rw[e,y] at fc;cases fc
  obtain⟨B,M⟩:∃B,B=ps++ #[oj pos.line,oj pos.col,.ref v]:=⟨_,rfl⟩;rw[<-M] at ar;obtain⟨N,a1⟩:∃N,N=kla_obj "<lambda>" q a j i clos ((X.mg "__name__").getD .none) v p:=⟨_,rfl⟩;rw[<-a1];obtain⟨x,D⟩:∃x,x=bD (bD (bD H T (.tbl B)) v (JF q v)) r.objs.size (HB r.objs.size N):=⟨_,rfl⟩;let gT:x T=aa (.tbl B):=by rw[D,aF bu.symm,aF bx.symm,ak]
  let gc:x v=aa (JF q v):=by rw[D,aF bl.symm,ak]
  let gf:x r.objs.size=aa (HB r.objs.size N):=by rw[D,ak]
  let ks:∀b o,b≠T->H b=aa o->x b=aa o:=λb o nb e=>by rw[D,aF (aL e ff),aF (aL e fc),aF nb];exact e
  let kn:∀b o,s.heap.get? b=aa o->H b=ac->x b=ac:=λb o e n=>by
   let l:=aW e;rw[D,aF (bn (bQ l L)),aF (bn (bQ l Y)),aF (λz=>by rw[z,y] at n;cases n)];exact n
  let kh:∀b o,b≠T->s.heap.get? b=aa o->(r.push N).get? b=aa o:=λb o nb e=>aE _ (hx b o nb e)
  let as:(r.push N).get? T=aa (zx B):=aE _ ar;let c3:oE X.prog X.w x (r.push N):=λb u e=>by
   by_cases b1:b=r.objs.size
   ·subst b1;rw[gf] at e;cases e;exact Gk (aY _ (by rw[a1];rfl))
   ·by_cases b2:b=v
    ·subst b2;rw[gc] at e;cases e;exact L4 (ap.push _)
    ·by_cases E:b=T
     ·subst E;rw[gT] at e;cases e;exact as
     ·let e0:H b=aa u:=by rw[D,aF b1,aF b2,aF E] at e;exact e
      exact(I.hok b u e0).stay (λd o hd eo=>kh d o ?_ eo) (λd ed=>ks d _ (λz=>by rw[z,y] at ed;cases ed) ed) λd xs ed=>ks d _ (λz=>by rw[z,y] at ed;cases ed) ed
      rcases hd with rfl|hd
      ·exact E
      ·exact λz=>by rw[z,y] at hd;cases hd
  let un:Un X.fs [] H x s.heap (r.push N):=by
   exact(λb o e n _ _=>kh b o (λz=>by rw[z,y] at n;cases n) e,λb o e n _ _=>⟨o.slots,kh b o (λz=>by rw[z,y] at n;cases n) e⟩,λb o e n _=>kn b o e n,λb o e _=>?_,λb xs e=>ks b _ (λz=>by rw[z,y] at e;cases e) e,λb o u e=>ks b _ (λz=>by rw[z,y] at e;cases e) e,λb qs e=>?_)
   ·by_cases E:b=T
    ·rw[E];exact(_,as)
    ·exact(o,kh b o E e)
   ·by_cases E:b=T
    ·rw[E,y] at e;cases e;exact(_,by rw[E,gT,M])
    ·exact(#[],by rw[ks b _ E e];simp)
  exact h _ (.ref v) p x _ (I.un (t':=tk) un c3) ks ⟨B,gT,?_,.inr ⟨v,?_,nR fc,gc⟩⟩ ff (by rw[gf,a1]) ⟨v,rfl,gc⟩
  ·rw[M,Gw];exact BP _ t2
  ·rw[M,Gw];exact codeAmong_snoc _ t2 O
 ·exact kla_makeFunctionHit (mg:=X.mg) a5 I.ok.glob hg J (C.keeps I.bk) tP t2 O al λp r tk hk L=>?_
  let ff:H r.objs.size=ac:=I.hok.fresh L;let I2:cz X pins σ (bD H r.objs.size (HB r.objs.size {cls:=.type "function",data:=.func (Kw "<lambda>" q a j i clos ((X.mg "__name__").getD .none) (.ref c0) p)})) {s with heap:=r.push {cls:=.type "function",data:=.func (Kw "<lambda>" q a j i clos ((X.mg "__name__").getD .none) (.ref c0) p)},toks:=tk}:=
   I.laid (λb o e=>aE _ (hk b o e)) L (Gk (aY _ rfl))
  let s2:=aU.new (o:=HB r.objs.size {cls:=.type "function",data:=.func (Kw "<lambda>" q a j i clos ((X.mg "__name__").getD .none) (.ref c0) p)}) ff;exact h _ (.ref c0) p _ _ I2 (λb o _ e=>s2 _ _ e) (WU ps (s2 _ _ y) t2 (.inr ⟨c0,O,t4,s2 _ _ t5⟩)) ff ak ⟨c0,rfl,s2 _ _ t5⟩
end
def Li.okC {K:am}{mg:Str->Option ag}{base:Heap}{x qual:Str}{st:Stmt}{f:Addr}{fd:gr}{N ps:List Str}{k:Nat}{sp:Sp}(F:Li K x qual st f fd)(S:bo N ps (aP st))(len:∀vs H Q E,sp vs H Q E->vs.length=ps.length)(b:∀(a:ag) (A:b0) (outer:List Env) (s:aw) (H:Hp) (vs:List V) (Q:VK) (E:XK),fd.code=a->jC k (A.deeper (rC qual (aP st) s.heap.objs.size f a))->sp vs H Q E->
   ∃t,B5 (um jw P w K mg base N qual (aP st) f a A outer s H E).nox (lH st) t/\t {nx:=λ_ e=>Q .non e,rt:=Q} (pN N vs) H):du P w K mg base jw (k+1) f fd ps sp:=by
 let(o,p,kV,i,r,u,a,v,j,rfl,lk,c):=F.ex;exact IL lk c S len λA outer s H vs Q E l d=>?_
 let(t,h,q):=b a A outer s H vs Q E rfl l d;exact(t,h.nox,q)
end L2
namespace SA
open PySem PySem.Spec PyProof.Rows L2 PySem.W
variable {R:Rg} {H:Hp} {pa dx al se wa sn:Addr} {p:aq} {l:List aN} {n N j:Nat} {ns r:List Nat} {W:aZ}
section
variable {P:aO} {w:World} {K:am} {mg:Str->Option ag} {base:Heap} (m:Mo K mg)
structure Mt (m:Mo K mg)(base:Heap):Prop where
 code:(m.fd 112).code=.ref m.cP
 hd:rD base m.cP m.tP
 blt:base.BuiltinsAt mg m.tP
def x5 (a:List Nat)(l:List aN)(p:aq)(g:Nat->Nat)(n:Nat):Int:=(10*g n:Nat)-(A3 a (lL l p n):Int)
def DN (m:Mo K mg)(pa rk e:Addr)(H:Hp)(Q:VK):Prop:=∃(R:Rg) (dx:Addr) (p:aq) (al se f wa sn:Addr) (l:List aN) (c ns:List Nat) (g:Nat->Nat),TP m R H pa dx p al se f wa sn l/\H rk=aa (.lst (nb c))/\c.length=8/\H e=aa (.dK (x4 ns g))/\ns.Nodup/\(∀n∈ns,(dC l p n).isSome=ae)/\ns.length<=3000/\
 uq qh BK R H m.tP/\(∀b,R b->∃o,H b=aa o)/\
 ∀d a q,(∀b o,b≠m.tP->H b=aa o->d b=aa o)->uq qh BK R d m.tP->H a=ac->q.Perm ns->q.Pairwise (λx y=>x5 c l p g x<x5 c l p g y\/(x5 c l p g x=x5 c l p g y/\x<=y))->d a=aa (.lst (nb q))->Q (.ref a) d
def J8 (m:Mo K mg):Sp:=λc H Q _=>∃pa a b,c=[.ref pa,.ref a,.ref b]/\DN m pa a b H Q
def Rm:bo ["player","ranks","since"] ["player","ranks","since"] (aP (ig 112)):=jY
def Rn {m:Mo K mg}{b:Addr}(a:TP m R H pa dx p al se b wa sn l):lL l p n<=7:=by
 unfold lL
 cases c:bA p.told n with
 |some t=>exact(a.tv t (Sp.Nw c)).2.1
 |none=>
  dsimp only
  cases d:bg l n with
  |none=>exact aR _
  |some t=>exact(a.lv t (Sp.pL d)).2.1
def TP.sameT {m:Mo K mg}{i:Hp}{j:Addr}{T:Addr}{ps:Array ag}(h:TP m R H pa dx p al se j wa sn l)(hT:H T=aa (.tbl ps))(s:∀b o,b≠T->H b=aa o->i b=aa o):TP m R i pa dx p al se j wa sn l:=by
 let q:∀{c:List (ef×V)} {f:TF},fZ (m.cl 11) R H c f->fZ (m.cl 11) R i c f:=λ{c f} d=>by
  exact(d.dk,λn=>?_);let t:=d.at_ n;generalize eE c (aA n)=v at t⊢;generalize f n=r at t⊢;cases v<;>cases r
  ·exact t
  ·exact t
  ·exact t
  ·let(a,e,dx,x,y,A,u,w):=t;exact(a,e,WN dx x y A (s _ _ (jf u hT (by intro z;cases z)) u) (s _ _ (jf w hT (by intro z;cases z)) w))
 exact(s _ _ (jf h.ob hT (by intro z;cases z)) h.ob,?_,?_,h.lv,h.tv,h.rl,h.rt,h.rs,h.st,h.sl,h.tl)
 ·let(k,a,b):=h.sn;exact(k,s _ _ (jf a hT (by intro z;cases z)) a,q b)
 ·let(k,a,b):=h.tn;exact(k,s _ _ (jf a hT (by intro z;cases z)) a,q b)
theorem Gm:∀{l:List Int},(∀z∈l,0<=z)->l=(l.map qe).map λ(j:Nat)=>(j:Int)
 |[],_=>rfl
 |z::l,h=>by
  have:=h z (aD ..);rw[bB,bB,<-Gm λy a=>h y (au _ a),show((z.toNat:Nat):Int)=z by omega]
include m in
def Ro (mt:Mt m base):du P w K mg base jw 5 (m.fn 112) (m.fd 112) ["player","ranks","since"] (J8 m):=by
 exact m.U9.F.okC Rm (λvs H Q E h=>?_) (λa3 A bm s0 H0 vs Q0 E C hr h=>?_)
 ·let(_,_,_,rfl,_):=h;rfl
 let(pa,rk,J,rfl,h):=h;let C:a3=.ref m.cP:=C.symm.trans mt.code;exact(_,bN (lr (te:=λσ H Q=>σ=[aa (.ref pa),aa (.ref rk),aa (.ref J)]/\DN m pa rk J H Q) ?_),⟨rfl,h⟩);intro a4 s σ H Q I x';let(rfl,R,dx,p,al,se,to,wa,sn,l,d,ns,g,tp,a5,cx,O,bu,ab,cy,hT,lv,k):=x';exact js (uR I (by rfl) m.Uv nN ?_);exact callWith_kw (hJ ((cU (pv 2)) _ a4 s _ H (λvs H1=>vs=[.ref J]/\H=H1) I ⟨_,rfl,rfl,rfl⟩) λus s1 x'=>V23 x' λvs H1 I1 rv ev eH=>?_);subst ev eH;let(u,rfl,ru):=rv.one;obtain rfl:u=bI J:=ru;let(ps,L,c2):=hT;exact kws_cons (J7 (clos:=eY (s0.heap.objs.size+1) (aP (ig 112)).names []) (c:=m.cP) (T:=m.tP) (R:=R) (q:=BK) I1 (by rfl) (by exact rfl) C mt.hd mt.blt ⟨ps,L,c2⟩ lv (by rfl) λf cv d3 H2 s2 I2 k2 an ff gf c3=>?_);exact kws_nil ?_;show a8 _ _ (call (.builtin "sorted") [.ref J] [(tR "key",.ref f)]) _ _ s2;let ap:J≠m.tP:=jf O L (by intro z;cases z);let c4:rk≠m.tP:=jf a5 L (by intro z;cases z);let c5:=tp.sameT L k2;let hk:lI (x4 ns g) (ns.map λ(j:Nat)=>(j:Int)):=by
  show(x4 ns g).map (·.1)=_;rw[wk,gZ];rfl
 exact HA (key:=λz=>x5 d l p g z.toNat) I2 hr.hd (.inl (k2 _ _ ap O)) hk (by rw[aj];omega) ?turn λH3 a ms s3 fa hp hs=>?_
 case turn=>
  intro z hz t c7 s' H' M sH;let(n,hn,rfl):=aM.mp hz;let c8:=(M.hok f _ (sH _ _ gf)).1;let(c',c9,cb):=c3;let ax:=(M.hok c' _ (sH _ _ cb)).1;rw[<-c9] at ax;let r2:jC 2 (A.deeper (rC "in_turn" (aP (ig 112)) s0.heap.objs.size (m.fn 112) a3)).in1.in1:=hr.in1.in1;let ay:=c5.same sH;let a':=sH _ _ (k2 _ _ ap O);let b1:=sH _ _ (k2 _ _ c4 a5);let cd:=ab n hn;let d9:=Rn ay (n:=n);let(mL,da,ce):=M.loc;let lk:∀(i:Nat) (x:Str) (a:Addr),(["player","ranks","since"]:List Str)[i]?=aa x->[aa (V.ref pa),aa (V.ref rk),aa (V.ref J)][i]?=aa (aa (.ref a))->(aP (ig 112)).names.lookup x=aa .cell->∃c u',(eY (s0.heap.objs.size+1) (aP (ig 112)).names []).lookup x=aa c/\s'.heap.IsCell c (aa u')/\eA (.ref a) u':=λi x a B D h3=>by
   let(u,ru,hl):=ce i x (.ref a) B D (.inr (.inl h3));rcases hl with⟨h4,_⟩|⟨_,c,h5,h6⟩
   ·let h4:(aP (ig 112)).names.lookup x=aa .local:=h4;rw[h3] at h4;cases h4
   ·exact(c,u,h5,h6,ru)
  exact vd (i9 (L0 (N:=["n","player","ranks","since"]) (σ:=[aa (.int (n:Int)),aa (.ref pa),aa (.ref rk),aa (.ref J)]) (x:= "n") (Q:=λv H3=>aU H' H3/\∃T,v=.ref T/\H3 T=aa (.tup [.int (x5 d l p g n),.int (n:Int)]))
   r2 M.env0.in1.in1 c8 ax (by rfl) (by rfl) (by decide) (by rfl) (by rfl) (by rfl) M.ok.inj (λx hx=>?has) (λx c e=>⟨M.cell x c e,M.freeC x c e⟩) (λi y v B D h3=>?loc) (by rfl)
   (lM (aS (cI jU (cI lu (cS m.VJ) (jh (jx (r2.deeper _)) (pv 3) (pv 0) (λ_ _=>rfl))) (ot rb (pv 2) (dA m.U8 (Ra m) (r2.deeper _) (aS (pv 1) (cU (pv 0)))) (λ_ _=>rfl))) (cU (pv 0)))) ?read) λr dk hq=>?post)
  case has=>
   let hm:∀y:Str×fA,y∈([("n",.local),("player",.free),("ranks",.free),("since",.free),("RANKS_A_TICK",.globalImplicit),("kind_for_rank",.globalImplicit)]:List (Str×fA))->(y.2=.cell\/y.2=.free)->∃c,(eY (s0.heap.objs.size+1) (aP (ig 112)).names []).lookup y.1=aa c:=by
    intro y hy hk;rcases hy with _|⟨_,_|⟨_,_|⟨_,_|⟨_,_|⟨_,_|⟨_,hy⟩⟩⟩⟩⟩⟩
    ·rcases hk with hk|hk<;>cases hk
    ·exact(_,rfl)
    ·exact(_,rfl)
    ·exact(_,rfl)
    ·rcases hk with hk|hk<;>cases hk
    ·rcases hk with hk|hk<;>cases hk
    ·cases hy
   rcases hx with hx|hx
   ·exact hm _ (cD hx) (.inl rfl)
   ·exact hm _ (cD hx) (.inr rfl)
  case loc=>
   match i,B,D with
   |0,B,D=>
    cases B;cases D;exact .inl ⟨rfl,_,rfl⟩
   |1,B,D=>
    cases B;cases D;exact .inr ⟨rfl,lk 0 _ _ rfl rfl rfl⟩
   |2,B,D=>
    cases B;cases D;exact .inr ⟨rfl,lk 1 _ _ rfl rfl rfl⟩
   |3,B,D=>
    cases B;cases D;exact .inr ⟨rfl,lk 2 _ _ rfl rfl rfl⟩
   |i+4,B,D=>cases B
  case read=>
   let ch:gD H' J (.int (n:Int)) (aa (.int (g n:Nat))):=by
    have:=gD.k (k:=aA ((n:Nat):Int)) a';rw[wm hn bu] at this;exact this
   let cj:yk (nb d) ((lL l p n:Nat):Int)=aa (.int (A3 d (lL l p n):Nat)):=by
    exact ib ?_;rw[bZ,br ⋯];unfold A3;rw[bh,br ⋯];rfl
   exact WL _ rfl (WL _ rfl (WJ J _ rfl ch (WN _ _ rfl rfl (.inl ⟨by decide,by decide⟩) (WL _ rfl (WL _ rfl (WL _ rfl (WG R pa dx p al se to (WP wa sn l n rfl ay cd (WI rk _ _ _ rfl rfl (dL.of b1) cj (WJ _ _ rfl rfl (WU _ rfl (by show 2<=aI;decide) λT fT=>⟨aU.new fT,T,rfl,?_⟩)))))))))));rw[ak];unfold x5;rw[z5];rfl
  case post=>
   cases r with
   |error e=>exact dE hq
   |ok fl=>
    cases fl with
    |ret u=>
     let(v,H3,I3,rv,s4,T,rfl,e):=M.after hq;obtain rfl:u=bI T:=rv;exact(H3,I3,s4,T,rfl,?_);rw[e];show _=aa (HO.tup [V.int (x5 d l p g ((n:Nat):Int).toNat),V.int (n:Int)]);rw[show((n:Nat):Int).toNat=n by omega]
    |next=>exact dE hq
    |brk=>exact dE hq
    |cont=>exact dE hq
 ·let Y:∀z∈ms,0<=z:=λz hz=>by
   let(j,_,rfl):=aM.mp (hp.mem_iff.mp hz);omega
  let em:=Gm Y;let fH:H a=ac:=by
   cases B:H a with
   |none=>rfl
   |some o=>
    by_cases c:a=m.tP
    ·let(b6,g1,_):=an;rw[c,s3 _ _ g1] at fa;cases fa
    ·rw[s3 _ _ (k2 _ _ c B)] at fa;cases fa
  let s4:=aU.new (o:=.lst (ms.map V.int)) fa;exact k (bD H3 a (.lst (ms.map V.int))) a (ms.map qe) (λb o nb e=>s4 _ _ (s3 _ _ (k2 b o nb e))) ?_ fH ?_ ?_ ?_
  ·let(b6,g1,g2,g3):=an;exact(b6,s4 _ _ (s3 _ _ g1),g2,?_);rcases g3 with g3|⟨c,g3,g4,g5⟩
   ·exact .inl g3
   ·exact .inr ⟨c,g3,g4,s4 _ _ (s3 _ _ g5)⟩
  ·have:=hp.map qe;rw[gZ] at this;exact this.trans (ip.of_eq ?_);conv=>rhs;rw[<-qQ ns]
   exact lK λn _=>by show((n:Nat):Int).toNat=n;omega
  ·exact bY.mpr (hs.imp_of_mem λ{x y} hx hy cm=>?_);let B:=Y x hx;let D:=Y y hy;rcases cm with h|⟨h,h'⟩
   ·exact .inl h
   ·exact .inr ⟨h,⋯⟩
  ·rw[ak];conv=>lhs;rw[em]
   rw[gZ];rfl
end
open PySem PySem.Spec PyProof.Rows L2
def L5 {g:Nat->Nat}{t:Nat}(h:n∈ns):jW (x4 ns g) (aA (n:Int)) (.int (t:Nat))=x4 ns (λj=>if j=n then t else g j):=by
 let a:((x4 ns g).any λb=>decide (b.1=(aA ((n:Nat):Int):ef)))=ae:=lA.mpr ⟨_,aM.mpr ⟨n,h,rfl⟩,decide_eq_true rfl⟩;unfold jW;rw[jN a];unfold x4;rw[gZ];exact lK λj _=>?_
 show(if(aA ((j:Nat):Int):ef)=aA ((n:Nat):Int) then _ else _)=(aA ((j:Nat):Int),V.int ((if j=n then t else g j:Nat):Int))
 by_cases c:j=n
 ·rw[jN (by rw[c]),jN c]
 ·rw[iQ (λq=>c (by have:=fF q;omega)),iQ c]
def L6 (h:Sp.wC ns)(g:Nat->Nat):qg (x4 ns g) ns:=by
 exact(JZ g (Sp.wC.nodup h),h,λn=>?_);constructor
 ·intro b;let(v,c):=bF.mp b;have:=yn c;rw[wk] at this;let(j,a,e):=aM.mp this;exact(j,a,(fF e).symm)
 ·intro x';let(j,a,rfl):=x';rw[wm a (Sp.wC.nodup h)];rfl
def OV (h:Sp.wC ns)(g:Nat->Nat):Qs (x4 ns g) (ns.map λn=>(n,g n)):=by
 exact(?_,λx a=>?_)
 ·rw[gZ];let e:ns.map ((λ(x:Nat×Nat)=>x.1)∘λn=>(n,g n))=ns:=by
   conv=>rhs;rw[<-qQ ns]
   rfl
  rw[e];exact L6 h g
 ·let(n,hn,rfl):=aM.mp a;exact wm hn (Sp.wC.nodup h)
theorem xa {l:List aN}{p:aq}:∀{ns:List Nat} {r:Nat},(∀n∈ns,(dC l p n).isSome=ae)->(bW l p r ns).map bM=ns.take (bW l p r ns).length/\(bW l p r ns).length<=ns.length/\∀g∈bW l p r ns,dC l p (bM g)=aa g
 |[],r,_=>by
  rw[BO];exact(rfl,aH _,(λ_ h=>by cases h))
 |n::ns,r,h=>by
  let(g,a):=bF.mp (h n (aD ..));rw[DM a];by_cases c:(bw g).length<=r
  ·rw[jN c];let(b,i,d):=xa (l:=l) (p:=p) (ns:=ns) (r:=r-(bw g).length) λk e=>h k (au _ e)
   exact(?_,?_,λf hg'=>?_)
   ·rw[bB,b,Sp.O7 a,aK,List.take_succ_cons]
   ·rw[aK,aK];omega
   ·rcases az.mp hg' with rfl|hg'
    ·rw[Sp.O7 a];exact a
    ·exact d f hg'
  ·rw[iQ c];exact(rfl,aR _,(λ_ h=>by cases h))
def tI (c:Sp.xU p.told):n∈dH l p↔(dC l p n).isSome=ae:=by
 unfold dH;rw[cW];constructor
 ·exact λh=>h.2
 ·exact λh=>⟨lE.mpr ?_,h⟩
  rw[Sp.Ie] at h
  cases a:Sp.Cg l p n with
  |some t=>
   left
   unfold Sp.Cg at a;split at a
   ·rename_i hc;exact jb.mp hc
   ·cases a
  |none=>
   cases b:bA p.told n with
   |none=>rw[a,b] at h;cases h
   |some u=>exact .inr ((Dq c).mpr (by rw[b];rfl))
def J9 {ms:List aT}(a:Sp.xU p.told)(d:∀g∈ms,dC l p (bM g)=aa g)(h:n∈dH l (gI p ms)):n∈dH l p:=by
 rw[tI (Sp.El a)] at h;rw[tI a];by_cases c:∃g∈ms,bM g=n
 ·let(g,b,rfl):=c;rw[d g b];rfl
 ·let e:bA (gI p ms).told n=bA p.told n:=Sp.wF a λg b e=>c ⟨g,b,e⟩
  rw[AJ (p:=p) (q:=gI p ms) rfl e] at h;exact h
section
variable {P:aO} {w:World} {K:am} {mg:Str->Option ag} {base:Heap} (m:Mo K mg)
def TP.updD {m:Mo K mg}{c:Addr}{d:Addr}{kd:List (ef×V)}{o:HO}(h:TP m R H pa dx p al se c wa sn l)(e:H d=aa (.dK kd))(h1:se≠d)(f:c≠d):TP m R (bD H d o) pa dx p al se c wa sn l:=
 ⟨(aF (jf h.ob e (by intro z;cases z))).trans h.ob,let ⟨k,a,b⟩:=h.sn;⟨k,(aF h1).trans a,b.upd_dK e⟩,let ⟨k,a,b⟩:=h.tn;⟨k,(aF f).trans a,b.upd_dK e⟩,h.lv,h.tv,h.rl,h.rt,h.rs,h.st,h.sl,h.tl⟩
def Ka {t:Nat}{q:List Nat}(a:q.Perm (dH l p))(b:q.Pairwise λx y=>x5 r l p (λn=>dn p n t) x<x5 r l p (λn=>dn p n t) y\/(x5 r l p (λn=>dn p n t) x=x5 r l p (λn=>dn p n t) y/\x<=y)):mH r l p t=q:=by
 unfold mH;rw[Sp.O8 (q:=q.map λn=>(Vbwsag.keyOf r l p t n,n)) (a.map _) (bY.mpr b),gZ];conv=>rhs;rw[<-qQ q]
 rfl
def OW (m:Mo K mg):Sp:=λj H Q _=>∃(R:Rg) (pa dx:Addr) (p:aq) (al se e wa sn:Addr) (l:List aN) (f:Addr) (a:List Nat) (c d:List (ef×V)) (t:Nat),j=[.ref pa,.ref f,.int t]/\TP m R H pa dx p al se e wa sn l/\MU p/\p.told.length<=300/\p.sees.length<=300/\t<=1000000/\H f=aa (.lst (nb a))/\a.length=8/\
 H al=aa (.dK c)/\qg c p.near/\H wa=aa (.dK d)/\Qs d p.waits/\(¬R al/\¬R se)/\R pa/\R e/\R f/\f≠m.tP/\uq qh BK R H m.tP/\R m.tP/\(∀b,R b->∃o,H b=aa o)/\
 ∀i,(∀b o,b≠pa->b≠e->b≠m.tP->H b=aa o->i b=aa o)->uq qh BK R i m.tP->JD (m.cl 11) (m.cl 12) R i pa e (fJ a l t p)->Q .non i
def Nj:bo ["player","ranks","tick","since","turn","messages","n"] ["player","ranks","tick"] (aP (ig 117)):=jY
include m in
def Rp (mt:Mt m base):du P w K mg base jw 6 (m.fn 117) (m.fd 117) ["player","ranks","tick"] (OW m):=by
 exact m.Ve.F.ok Nj (λvs H Q E h=>?_) (λf' A ea s H vs Q E hr h=>?_)
 ·let(_,_,_,_,_,_,_,_,_,_,_,_,_,_,_,rfl,_):=h;rfl
 let(R,pa,dx,p,al,se,B,wa,sn,l,rk,x,eb,ed,t,rfl,C,po,g2,g3,ee,eh,ei,ej,cp,ek,el,(a4,b5),L,a5,g4,fq,hT,rT,lv,k):=h;let nd:=Nj.nd;let hu:=jx hr;exact⟨_,ao (sT 3 nd (dA m.U7 (Rb m) (hr.mono (by decide)) (aS (pv 0) (cU (pv 2)))))
  (ao (sT 4 nd (dA m.U9 (Ro m mt) hr (aS (pv 0) (aS (pv 1) (cU (pv 3))))))
  (ao (sT 5 nd (dA m.Vc (Rk m) hr (aS (pv 0) (cU (pv 4)))))
  (ao (kj cQ rfl (jg (jG kQ (pv 4) mn (jV (cJ eN (by rfl) m.Uk cM (cU (pv 5)))))) (fC (i:=6) nd rfl (eu rfl))
   (bN (lG hu (pv 3) (pv 6) (pv 2) rfl)))
  (ao (fN (pv 0) (dA m.Vd (Rc m) (hr.mono (by decide)) (aS (pv 0) (cU (pv 3)))) rfl)
  (bN (fN (pv 0) (dA m.d51 (Sk m) (hr.mono (by decide)) (aS (pv 2) (cU (pv 5)))) rfl)))))),?_⟩
 let ga:=tG l p;let b6:=rA (l:=l) C.rs;exact WL _ rfl (WL _ rfl (WG R pa dx p al se B (WO wa sn l ed t rfl C ek ⟨el,λH1 I s1 ab cq=>?_⟩)));let cs:=C.same s1;let ct:=hT.keep (Kp.of s1) (by let(ps,e,_):=hT;exact(s1 _ _ e).trans e.symm);let(gb,eT,_):=id hT;let M:I≠m.tP:=(aL eT ab).symm;exact WL _ rfl (WL _ rfl (WL _ rfl (WC pa rk I ⟨rfl,WG R dx p al se B wa (WM sn l x (dH l p) _ cs (s1 _ _ eh) ei cq b6 (λn hn=>(tI C.rt).mp hn) ⟨⋯,ct,(λb hb=>let ⟨o,e⟩:=lv b hb;⟨o,s1 _ _ e⟩),λH2 tu q k2 cv gm hp hs b8=>?_⟩)⟩)));let(fs,ep,_):=id ct;let er:=cs.sameT ep k2;let eq:mH x l p t=q:=Ka hp hs;let cw:∀n∈q,(dC l p n).isSome=ae:=λn hn=>(tI C.rt).mp (hp.mem_iff.mp hn)
 let es:∀n∈q,n<=9999:=λn hn=>by
  let hc:n∈jO p:=(cW.mp (hp.mem_iff.mp hn)).1;rcases lE.mp hc with h|h
  ·let(th,cx):=bF.mp (C.st n h);have:=C.lv th (Sp.pL cx);rw[Sp.m5 cx] at this;exact this.1
  ·let(u,et,rfl):=aM.mp h;exact(C.tv u et).1
 let gx:q.length=(dH l p).length:=hp.length_eq;let ev:q.Nodup:=hp.nodup_iff.mpr b6;let(gT,an,_):=id C.tn;let(gV,ew,_):=id C.sn;let ex:se≠B:=λe=>b5 (by rw[e];exact a5)
 let ap:se≠I:=aL ew ab;let J:B≠I:=aL an ab;let N:B≠m.tP:=jf an eT (by intro z;cases z);let cy:pa≠m.tP:=jf C.ob eT (by intro z;cases z);let bb:pa≠B:=jf C.ob an (by intro z;cases z);let O:=k2 _ _ M cq;exact WL _ rfl (WL _ rfl (WG R pa dx p al se B (WM wa sn l tu q rfl er b8 ev (λn hn=>⟨cw n hn,es n hn⟩) ⋯ ⟨(by have:=po.b1;omega),ex,a5,λH3 mb as T ez cL D cN=>?_⟩)));obtain⟨d,bk⟩:∃d,d=bW l p (p.budget-8) q:=⟨_,rfl⟩;rw[<-bk] at D cN;let(cP,eH,bl):=xa (l:=l) (p:=p) (r:=p.budget-8) cw;rw[<-bk] at cP eH bl;let c':as.length=d.length:=by
  have:=cB D;rw[aj] at this;exact this
 let bm:tu≠B:=λe=>by
  have:=k2 _ _ N (s1 _ _ an);rw[<-e,b8] at this;cases this
 let d0:=T _ _ bm b8;let Y:=T _ _ J.symm O;exact WL _ rfl (WL _ rfl (WJ mb _ rfl (.inl (dL.of cL)) ?_));exact WL _ rfl (WJ tu _ rfl (dL.of d0) λcu d1=>?_);rw[aj,c'];let d2:rW (nb q) ac (aa ((d.length:Nat):Int))=nb (q.take d.length):=by
  rw[F9,BH,F9,wB]
 rw[d2];let s4:aU H3 (bD H3 cu (.lst (nb (q.take d.length)))):=aU.new d1;obtain⟨H4,d3⟩:∃H4,H4=bD H3 cu (.lst (nb (q.take d.length))):=⟨_,rfl⟩;let d4:H4 cu=aa (.lst (nb (q.take d.length))):=by rw[d3];exact ak
 rw[<-d3] at s4⊢;let bu:cu≠I:=(aL Y d1).symm;let eS:=cN.same s4;exact WU cu rfl ⟨_,dL.of d4⟩ (ka (K:=K) (a:=cu) (xs:=nb (q.take d.length))
  (λi σ H'=>∃v:Option V,σ=[aa (.ref pa),aa (.ref rk),aa (.int t),aa (.ref I),aa (.ref tu),aa (.ref mb),v]/\Kp (kW I) H4 H'/\H' I=aa (.dK (x4 (dH l p) λj=>if j∈(q.take d.length).take i then t else dn p j t))/\TP m R H' pa dx (gI p d) al se B wa sn l)
  ⟨ac,rfl,Kp.refl,?_,eS⟩ (λi σ H' _ x'=>V12 x' λ_ _ kp _=>dL.of (kp _ _ bu d4)) ?_ ?_)
 ·rw[s4 _ _ Y];congr 3
 ·intro i y σ H' hi x';let(v,rfl,kp,gd,f0):=x';let(n,hn,rfl):=km hi;let d6:n∈q:=oy (bj hn);exact WL _ rfl (WL _ rfl (WL _ rfl (WJ I _ rfl (uo.k (k:=aA ((n:Nat):Int)) gd ?_) ?_)))
  ·unfold x4;rw[aj];exact xA ⋯
  ·exact(_,rfl,kp.put rfl,?_,f0.updD gd ap J);rw[ak,L5 (hp.mem_iff.mp d6)];congr 3;funext j;rw[eB hn];by_cases c:j=n
   ·rw[jN c,jN (by rw[c];simp)]
   ·rw[iQ c];by_cases c2:j∈(q.take d.length).take i
    ·rw[jN c2,jN (ll _ c2)]
    ·rw[iQ c2,iQ (λz=>(cF.mp z).elim c2 λz=>c (by simpa using z))]
 ·intro σ H5 x';let(v,rfl,a0,a1,a2):=x';rw[aj,cg] at a1;obtain⟨g',d7⟩:∃g':Nat->Nat,g'=λj=>if j∈q.take d.length then t else dn p j t:=⟨_,rfl⟩
  rw[<-d7] at a1;let k5:∀b o,b≠B->b≠m.tP->H b=aa o->H5 b=aa o:=λb o n1 n2 e=>a0 _ _ (aL e ab) (s4 _ _ (T _ _ n1 (k2 _ _ n2 (s1 _ _ e))))
  let da:∀{b},H5 b=ac->H b=ac:=λ{b} f=>by
   cases h1:H b with
   |none=>rfl
   |some o=>
    by_cases c1:b=B
    ·let(kt,e,_):=a2.tn;rw[c1,e] at f;cases f
    ·by_cases c2:b=m.tP
     ·let(ps,e,_):=cv;rw[c2,a0 _ _ M.symm (s4 _ _ (T _ _ N.symm e))] at f;cases f
     ·rw[k5 b o c1 c2 h1] at f;cases f
  let db:Sp.wC (dH l (gI p d)):=Sp.yA (nG (p:=gI p d) C.rs) _;exact WL _ rfl (WL _ rfl (WG R pa dx (gI p d) al se B (WF wa sn l I _ g' ⟨rfl,a2,a1,(λn hn=>wm (J9 C.rt bl hn) b6),λH6 wd s6 f4 f5=>?_⟩)));let c4:=a2.same s6;exact WL _ rfl (WK pa _ dx _ rfl c4.ob m.k12.cl m.Uz (by show 10<1000;decide) ?_);rw[ze];obtain⟨o7,dd⟩:∃o7,o7=HO.ins (m.cl 12) dx (pf (.int (gI p d).thing) (.int (gI p d).team) (.int (gI p d).inner) (.int (gI p d).outer) (.int (gI p d).budget) (.ref al) (.ref se) (.ref B) (.ref wd) (.ref sn)):=⟨_,rfl⟩;rw[<-dd];obtain⟨H7,c5⟩:∃H7,H7=bD H6 pa o7:=⟨_,rfl⟩;let g7:H7 pa=aa o7:=by rw[c5];exact ak
  let k7:∀b o,b≠pa->H6 b=aa o->H7 b=aa o:=λb o n e=>by rw[c5,aF n];exact e
  rw[<-c5];let h2:Kp (kW pa) H6 H7:=λb o n e=>k7 b o n e
  let c6:mb≠I:=(aL O ez).symm;let a3:H5 mb=aa (.lst (as.map V.ref)):=a0 _ _ c6 (s4 _ _ cL);let c7:mb≠pa:=λe=>by rw[e,a2.ob] at a3;cases a3
  let c8:xZ H7 as (d.map bw):=by
   exact a9.mapP D λb r e=>?_
   let f6:b≠I:=jf e Y (by intro z;cases z);let e5:=a0 _ _ f6 (s4 _ _ e);let f7:b≠pa:=jf e5 a2.ob (by intro z;cases z);exact k7 _ _ f7 (s6 _ _ e5)
  let f8:∀r∈d.map bw,r.length<=5000:=λr f9=>by
   let(g,hg,rfl):=aM.mp f9;have:=Gh (J3 C.l8 (bl g hg));omega
  exact WL _ rfl (WL _ rfl (WK t mb as (d.map bw) rfl (iA ee (by decide)) (k7 _ _ c7 (s6 _ _ a3)) c8 f8 ⟨(by rw[aj];omega),λH8 sd s8 av fa=>?_⟩));let g8:=s8 _ _ g7;rw[dd] at g8;exact(_,rfl,WK pa _ dx _ rfl g8 m.k12.cl m.UK (by show 10<1000;decide) ?_);rw[Du];obtain⟨o9,dk⟩:∃o9,o9=HO.ins (m.cl 12) dx (pf (.int (gI p d).thing) (.int (gI p d).team) (.int (gI p d).inner) (.int (gI p d).outer) (.int (gI p d).budget) (.ref al) (.ref se) (.ref B) (.ref wd) (.ref sd)):=⟨_,rfl⟩;rw[<-dk];let k9:∀b o,b≠pa->H6 b=aa o->bD H8 pa o9 b=aa o:=λb o n e=>by rw[aF n];exact s8 _ _ (k7 b o n e)
  let dm:Kp R H6 (bD H8 pa o9):=λb o nb e=>k9 b o (λz=>nb (by rw[z];exact L)) e
  let dp:H6 sd=ac:=by
   cases h1:H6 sd with
   |none=>rfl
   |some o=>
    by_cases c:sd=pa
    ·rw[c,g7] at av;cases av
    ·rw[k7 _ _ c h1] at av;cases av
  let nR:∀{b},H b=ac->¬R b:=λf z=>by let(o,e):=lv _ z;rw[f] at e;cases e
  let dr:¬R wd:=nR (da f4);let ds:¬R sd:=nR (da (s6.free dp));let(dt,fb,fc):=c4.sn;let(dy,fe,ff):=c4.tn;let ax:al≠B:=λe=>a4 (by rw[e];exact a5)
  let c9:al≠m.tP:=λe=>a4 (by rw[e];exact rT)
  let ay:al≠pa:=λe=>a4 (by rw[e];exact L)
  let a':se≠pa:=λe=>b5 (by rw[e];exact L)
  let fk:fJ x l t p={gI p d with out:=Vbwsag.streamBytes t d,waits:=(dH l (gI p d)).map λn=>(n,g' n)}:=by
   let ec:A4 x l p t=d:=by
    unfold A4;rw[eq];exact bk.symm
   unfold fJ;rw[ec];let eg:(λn=>(n,if(d.map bM).contains n=ae then t else dn p n t))=λn=>(n,g' n):=by
    funext n;rw[d7,cP];show(n,if(q.take d.length).contains n=ae then t else dn p n t)=(n,if n∈q.take d.length then t else dn p n t)
    by_cases c:n∈q.take d.length
    ·rw[jN (jb.mpr c),jN c]
    ·rw[iQ (λz=>c (jb.mp z)),iQ c]
   rw[<-eg];rfl
  exact k (bD H8 pa o9) (λb o n1 n2 n3 e=>k9 _ _ n1 (s6 _ _ (k5 b o n2 n3 e))) ?_ ?_
  ·let(ps,e,e2,e3):=cv;let b3:∀b o,b≠B->b≠I->b≠pa->H2 b=aa o->bD H8 pa o9 b=aa o:=λb o n1 n2 n3 e=>k9 _ _ n3 (s6 _ _ (a0 _ _ n2 (s4 _ _ (T _ _ n1 e))))
   exact(ps,b3 _ _ N.symm M.symm cy.symm e,e2,?_);rcases e3 with e3|⟨c,e3,e4,e5⟩
   ·exact .inl e3
   ·let c1:c≠B:=λz=>e4 (by rw[z];exact a5)
    let c3:c≠pa:=λz=>e4 (by rw[z];exact L)
    let c2:c≠I:=λz=>by rw[z,O] at e5;cases e5
    exact .inr ⟨c,e3,e4,b3 _ _ c1 c2 c3 e5⟩
  ·rw[fk];exact(dx,al,se,wd,sd,eb,dt,dy,_,by rw[ak,dk],k9 _ _ (λz=>bb z.symm) fe,⟨a4,b5,dr,ds⟩,k9 _ _ ay (s6 _ _ (k5 _ _ ax c9 ej)),cp,k9 _ _ a' fb,yu fc C.rs C.st,ff.keep dm,dm _ _ dr f5,OV db g',?_);rw[aF (λz=>ds (by rw[z];exact L)),fa];congr 3;rw[aj];show _=nM t d.length++d.flatMap bw;rw[List.flatMap_def]
end
section
variable {P:aO} {w:World} {K:am} {mg:Str->Option ag} {base:Heap} (m:Mo K mg)
def WR.tick {m:Mo K mg}{A:WA}(w:WR m H A W)(t:Nat):
  WR m (bD H A.a (.ins (m.cl 14) A.dx (wf (.int t) (.ref A.td) (.ref A.wl) (.ref A.rk) (.ref A.pd) (.ref A.mi)))) A {W with now:=t}:=by
 let D:=A.ds w.nd;obtain⟨o,c⟩:∃o,o=HO.ins (m.cl 14) A.dx (wf (.int t) (.ref A.td) (.ref A.wl) (.ref A.rk) (.ref A.pd) (.ref A.mi)):=⟨_,rfl⟩;rw[<-c];let k:Kp A.rg H (bD H A.a o):=Kp.refl.put WA.r_a;let(d,e,f):=w.th;let(i,j,l):=w.wa;let(p,r,s,u):=w.pl;exact⟨w.nd,λb v=>?_,w.tbl,(by rw[ak,c]),⟨d,by rw[aF D.a_td.symm];exact e,f.keep k⟩,⟨i,by rw[aF D.a_wl.symm];exact j,l.keep k⟩,by rw[aF D.a_rk.symm];exact w.rk,
  ⟨p,by rw[aF D.a_pd.symm];exact r,s,λn=>(u n).keep k λy x=>?_⟩,w.mi.keep k,w.tb.keep k (aF D.a_tb.symm)⟩
 ·by_cases q:b=A.a
  ·exact(_,by rw[q];exact ak)
  ·let(o,h):=w.live b v;exact(o,by rw[aF q];exact h)
 ·have:=D.ps y x A.a (.head _);exact(aF this.1,aF this.2)
def uE.tick (a:uE N W){t:Nat}(h:t<=100000):uE N {W with now:=t}:=
 ⟨a.rt,a.ix,a.tl,a.tv,a.wl,a.wc,a.rl,a.rv,a.pr,a.pl,a.pv,h,a.mr,a.m8,a.ml,a.ev⟩
structure TB (W:aZ)(q:aq):Prop where
 po:MU q
 st:∀n∈q.sees,(bg W.things n).isSome=ae
 tl:q.told.length<=300
 nr:∀n∈q.near,(bg W.things n).isSome=ae
def TZ (d:uE N W)(hN:N<=300){x:Nat×aq}(f:x∈A0 (gk W)):TB W x.2/\∃y∈W.players,y.1=x.1:=by
 let(y,e,rfl):=aM.mp f;let(z,i,rfl):=aM.mp e;let b:=(d.pv z i).2;let c:∀q∈(gk W).map λy=>y.2,Sp.wC q.near/\∀n∈q.near,(bg W.things n).isSome=ae:=λq j=>by
  let(x,f,rfl):=aM.mp j;let(y,e,rfl):=aM.mp f;exact(Sp.Pe d.rt d.ix _ _,rq d.rt d.ix (d.pv y e).2.io)
 let a:=c _ (aM.mpr ⟨_,e,rfl⟩);exact(⟨⟨b.thing,b.team,b.io,b.outer,b.b1,b.b2,a.1,Sp.zN _ _ a.1,b.told,b.tv,b.waits,b.wl,b.wt,b.out⟩,λn hn=>?_,bq (tj d i).2.2 hN,a.2⟩,z,i,rfl);let hn:n∈ij ((gk W).map λy=>y.2) {z.2 with near:=rQ W.things W.index W.walls z.2}:=hn
 unfold ij at hn;rcases(Sp.BN _ _).mp hn with h|⟨q,l,_,o⟩
 ·exact a.2 n h
 ·exact(c q l).2 n o
def Kb (a:Sp.rS W.things){q:aq}(h:TB W q):q.sees.length<=W.things.length:=by
 have:=wC.le_mem h.po.sees (M:=W.things.map lg) λn hn=>(Sp.RB a).mpr (h.st n hn)
 rw[aj] at this;exact this
def L7 {m:Mo K mg}{b:Addr}{q:aq}{d a:Addr}{fs:List (Str×V)}(h:EZ m H pa dx q al se d wa sn)(h':H pa=aa (.ins (m.cl 12) b fs))(c:fs.lookup ("seen":Str)=aa (.ref a)):se=a:=by
 let e:=(HO.ins.inj (a6 (h.symm.trans h'))).2.2;rw[<-e] at c;exact V.ref.inj (a6 c)
def vi (H:Hp)(x:Addr):Hp:=λb=>if b=x then ac else H b
def jL {x b:Addr}(h:b≠x):vi H x b=H b:=by unfold vi;rw[iQ h]
def gP {x b:Addr}{o:HO}(h:vi H x b=aa o):b≠x/\H b=aa o:=by
 unfold vi at h;split at h
 ·cases h
 ·rename_i c;exact(c,h)
def BQ {x:Addr}{o:HO}:vi (bD H x o) x=vi H x:=funext λb=>by
 by_cases c:b=x
 ·unfold vi;rw[jN c,jN c]
 ·rw[jL c,jL c,aF c]
def DO {x:Addr}:aU (vi H x) H:=λ_ _ e=>(gP e).2
abbrev Rq (R:Rg)(x:Addr):Rg:=λb=>R b\/b=x
def E3 {x:Addr}:Mv R (Rq R x) (vi H x) H:=⟨λb o _ e=>(gP e).2,λb a=>a.imp id λe=>by rw[e];unfold vi;rw[jN rfl]⟩
def Gn {x:Addr}:Mv (Rq R x) R H (vi H x):=⟨λb o n e=>by rw[jL (λz=>n (.inr z))];exact e,λb a=>.inl (.inl a)⟩
def Nk:bo ["world","numbers","answer","n","player"] wn (aP (ig 120)):=jY
def AN (a:List Nat)(i:Nat)(n:Nat):Bool:=decide (n∈a.take i)
include m in
def Rr (mt:Mt m base):du P w K mg base jw 7 (m.fn 120) (m.fd 120) wn (v7 m (c0 .tick)):=by
 exact m.UH.F.ok Nk im (λhy A el s H vs Q E hr h=>?_);let(A,W,N,b,l,c,rfl,wr,ok,hN,hb,hA,hc,h5,k):=h
 match l,hc with
 |[],hc=>
  cases hc;let hu:=jx hr;let nd:=Nk.nd;let D:=A.ds wr.nd;exact⟨_,ao (dG (df lD (fl (pv 0)) (cS m.VL) (dS _)) (rt (cr (cU (cS m.Vt)))) bS)
   (ao (Ae (pv 0) be II)
   (ao (gL (dA m.d88 (Tx m) hr (cU (pv 0))))
   (ao (sT 2 nd (cr (aS be (cU (fl (pv 0))))))
   (ao (kj cQ rfl (jg (cJ (nj hr.hd) (by rfl) m.Uv nN (cU (fl (pv 0))))) (fC (i:=3) nd rfl (eu rfl))
    (ao (sT 4 nd (jh hu (fl (pv 0)) (pv 3) (λ_ _=>rfl)))
    (ao (gL (dA m.Ve (Rp m mt) hr (aS (pv 4) (aS (fl (pv 0)) (cU (fl (pv 0)))))))
    (bN (gL (uZ (pv 2) (cr (aS (pv 3) (aS (cJ eN (by rfl) m.Uk cM (cU (fl (pv 4)))) (cU (cJ oP (by rfl) m.Uk cM (cU (fl (pv 4))))))))))))))
   (rt (pv 2)))))),?_⟩
  let es:b9 W .tick=(if Vbwsag.TICKS<=W.now then bL W (-5) else(fK W,0::((fK W).now:Int)::(fK W).players.flatMap λx=>[(x.1:Int),(x.2.out.length:Int),(x.2.waits.length:Int)])):=rfl
  rw[es] at k;let gt:=ok.now;exact WL _ rfl (WM A.a _ A.dx _ _ rfl wr.obj m.k14.cl m.UA rfl rfl (WL _ rfl (fO (λc=>?_) λc=>?_)))
  ·let c:W.now=100000:=by have:=V.int.inj c;omega
   rw[jN (by show 100000<=W.now;omega)] at k;exact((by show 1<=aI;decide),k.new wr (aU.refl H))
  let c:W.now≠100000:=λz=>c (by rw[z];rfl)
  rw[iQ (by show¬100000<=W.now;omega)] at k;exact WL _ rfl (WH A.a _ A.dx _ _ rfl wr.obj m.k14.cl m.UA rfl (WJ _ _ rfl rfl (WJ A.dx _ wr.obj (by show 6<1000;decide) ?_)));rw[Dr];let w1:=wr.tick (W.now+1);obtain⟨r,as⟩:∃r,r={W with now:=W.now+1}:=⟨_,rfl⟩
  let L:uE N r:=by rw[as];exact ok.tick ⋯
  rw[<-as] at w1;obtain⟨H1,cb⟩:∃H1,H1=bD H A.a (.ins (m.cl 14) A.dx (wf (.int ((W.now+1:Nat):Int)) (.ref A.td) (.ref A.wl) (.ref A.rk) (.ref A.pd) (.ref A.mi))):=⟨_,rfl⟩;rw[<-cb] at w1;let eq:Kp A.rg H H1:=by rw[cb];exact Kp.refl.put WA.r_a
  rw[show((W.now:Int)+1)=((W.now+1:Nat):Int) by omega,<-cb];exact WL _ rfl (WT A r N rfl w1 L λH2 kP w2 bk cy cc=>?_);let bk:=eq.trans bk;exact WL _ rfl (WM A.a _ A.dx _ _ rfl w2.obj m.k14.cl m.UA rfl (by show 2<=aI;decide) λd M=>?_);let c4:(W2 r).now=W.now+1:=by rw[as];rfl
  let s3:=aU.new (o:=.lst [.int 0,.int ((W2 r).now:Nat)]) M;obtain⟨H3,cN⟩:∃H3,H3=bD H2 d (.lst [.int 0,.int ((W2 r).now:Nat)]):=⟨_,rfl⟩;let c5:H3 d=aa (.lst [.int 0,.int ((W2 r).now:Nat)]):=by rw[cN];exact ak
  rw[<-cN] at s3⊢;let w3:=w2.same s3;let(a',q1,q2,q3):=w3.pl;have:a'=kP:=by
   rw[s3 _ _ cy] at q1;exact(HO.dK.inj (a6 q1)).symm
  subst this;obtain⟨u,v⟩:∃u,u=(W2 r).players:=⟨_,rfl⟩;let cP:u.Pairwise λa b=>a.1<b.1:=by
   rw[v];exact bY.mpr (bY.mpr ?_);exact L.pr
  let c':u.length<=8:=by
   rw[v];show((gk r).map _).length<=8;rw[aj];show(r.players.map _).length<=8;rw[aj];exact L.pl
  let b1:=pT (W:=W2 r) (by rw[<-v];exact cP) q2 λn=>(q3 n).isSome
  rw[<-v] at b1;let(ks,i1,i2):=b1.ks;let ew:∀x∈u,TB r x.2:=λx hx=>by rw[v] at hx;exact(TZ L hN hx).1
  obtain⟨I,av⟩:∃I,I=fJ r.ranks r.things (W2 r).now:=⟨_,rfl⟩;obtain⟨p,O⟩:∃p,p=u.map (·.1):=⟨_,rfl⟩;rw[<-O] at b1 i2;let d0:p.Nodup:=Sp.wC.nodup b1.2.1;exact WL _ rfl (WH A.a _ A.dx _ _ rfl w3.obj m.k14.cl m.Uo rfl (WT A.pd a' ks rfl (.inl q1) i1 λlp ns bm hp hs=>?_));let e:=nu b1.2.1 (hp.trans i2) hs;subst e;let s4:=s3.t (o:=.lst ((p.map λ(j:Nat)=>(j:Int)).map V.int)) bm;let d1:aU H3 (bD H3 lp (.lst ((p.map λ(j:Nat)=>(j:Int)).map V.int))):=aU.new bm;obtain⟨H4,d2⟩:∃H4,H4=bD H3 lp (.lst ((p.map λ(j:Nat)=>(j:Int)).map V.int)):=⟨_,rfl⟩;let d3:H4 lp=aa (.lst ((p.map λ(j:Nat)=>(j:Int)).map V.int)):=by rw[d2];exact ak
  rw[<-d2] at s4 d1⊢;let ex:d≠lp:=aL c5 bm;let bu:aU H2 (vi H4 d):=λb o e=>by rw[jL (aL e M)];exact s4 _ _ e
  let fr:∀{b},H2 b=ac->H b=ac:=λ{b} f=>by
   cases h1:H b with
   |none=>rfl
   |some o=>
    by_cases c:A.rg b
    ·let(o',e'):=w2.live b c;rw[e'] at f;cases f
    ·rw[bk _ _ c h1] at f;cases f
  let b2:¬A.rg d:=w2.fresh M;let ey:¬A.rg lp:=w2.fresh (s3.free bm);exact WU lp rfl ⟨_,dL.of d3⟩ (ka (K:=K) (a:=lp) (xs:=(p.map λ(j:Nat)=>(j:Int)).map V.int)
   (λi σ T=>∃v3 v4:Option V,σ=[aa (.ref A.a),aa (.ref b),aa (.ref d),v3,v4]/\WR m (vi T d) A {W2 r with players:=qj (AN p i) I (W2 r).players}/\Kp A.rg H T/\T A.pd=aa (.dK a')/\T lp=aa (.lst ((p.map λ(j:Nat)=>(j:Int)).map V.int))/\
    T d=aa (.lst (iv (0::((W.now+1:Nat):Int)::(u.take i).flatMap λx=>[(x.1:Int),((I x.2).out.length:Int),((I x.2).waits.length:Int)])))/\
    ∀n pa q,eE a' (aA n)=aa (.ref pa)->aJ (W2 r) n=aa q->AN p i n.toNat=af->E2 m A.rg (vi T d) pa r.things q.sees)
   (WN ac ac rfl ?_ (bk.trans (Kp.of s4)) ⟨s4 _ _ cy,d3,?_,λn pa q hv hq _=>?_⟩) (λi σ T _ x'=>V2 x' λ_ _ x'=>X5 x' λ_ _ _ _ h _=>dL.of h) ?_ ?_)
  ·let w4:=w2.same bu;rw[w9 (λx _=>by unfold AN;simp)];exact w4
  ·rw[d1 _ _ c5,c4];rfl
  ·let(d4,fs,ce,b3,g1,g2,g3,g4,g5):=cc n pa q hv hq;exact WI d4 fs ce b3 (bu _ _ g1) g2 g3 (bu _ _ g4) (g5.keep (Kp.of bu))
  ·intro i y σ T hi x';let(v3,v4,rfl,wi,cf,Y,c6,B,ch):=x';let(z,hz,rfl):=km hi;rw[O,bZ,bZ] at hz
   cases hx:u[i]? with
   |none=>rw[hx] at hz;cases hz
   |some x=>
    rw[hx] at hz;obtain rfl:((x.1:Nat):Int)=z:=a6 hz;let xm:=bj hx;let lk:=ew x xm;let ar:p[i]?=aa x.1:=by rw[O,bZ,hx];rfl
    let d6:AN p i x.1=af:=by
     unfold AN;rw[decide_eq_false_iff_not];exact wo d0 ar
    let cm:aJ (W2 r) (x.1:Int)=aa x.2:=by
     rw[eF,iQ ⋯,show((x.1:Nat):Int).toNat=x.1 by omega];exact pS (by rw[<-v];exact cP) (by rw[<-v];exact xm)
    let cn:A.pd≠d:=λe=>b2 (by rw[<-e];exact WA.r_pd)
    let(d7,r1,r2,r3):=wi.pl;have:d7=a':=by
     rw[jL cn,Y] at r1;exact(HO.dK.inj (a6 r1)).symm
    subst this;let fc:aJ {W2 r with players:=qj (AN p i) I (W2 r).players} (x.1:Int)=aa x.2:=by
     rw[gO,cm];show aa (if AN p i ((x.1:Nat):Int).toNat=ae then I x.2 else x.2)=aa x.2
     rw[show((x.1:Nat):Int).toNat=x.1 by omega,d6,iQ (by simp)]
    let d8:=r3 (x.1:Int);rw[fc] at d8;let(pa,to,ev,C,dx,al,se,wa,sn,ff,hW,fk,fm,e1,e2,(a1,a2,a3,a4),e3,e4,e5,e6,e7,e8,e9,is):=jK d8;let Dp:=D.ps _ C;let b5:=wi.same (DO (H:=T) (x:=d));let a0:=wi.tbl;let hg:gD T A.pd (.int (x.1:Int)) (aa (.ref pa)):=by
     have:=gD.k (k:=aA ((x.1:Nat):Int)) Y;rw[ev] at this;exact this
    exact WL _ rfl (WH A.a _ A.dx _ _ rfl b5.obj m.k14.cl m.Uo rfl (WL _ rfl (WJ A.pd _ rfl hg ?_)));let(d4,fs,ce,b3,g1,g2,g3,g4,g5):=ch (x.1:Int) pa x.2 ev cm (by rw[show((x.1:Nat):Int).toNat=x.1 by omega];exact d6);obtain rfl:se=ce:=L7 e1 g1 g2;let h9:=Kb L.rt lk;let ha:=L.tl;let tp:TP m (Rq A.rg d) T pa dx x.2 al se to wa sn r.things:=⟨(gP e1).2,⟨b3,(gP g4).2,g5.move E3⟩,⟨fk,(gP e2).2,e7.move E3⟩,L.tv,lk.po.tv,L.rt,lk.po.told,lk.po.sees,lk.st,⋯,by have:=lk.tl;omega⟩;let da:uq qh BK (Rq A.rg d) T m.tP:=by
     rw[<-a0];exact wi.tb.move E3 ?_;let(ps,e,_):=wi.tb;exact(gP e).2.trans e.symm
    let rT:A.rg m.tP:=by rw[<-a0];exact WA.r_tb
    exact WL _ rfl (WL _ rfl (WH A.a _ A.dx _ _ rfl b5.obj m.k14.cl m.UX rfl (WL _ rfl (WH A.a _ A.dx _ _ rfl b5.obj m.k14.cl m.UA rfl ?_))));exact WG (Rq A.rg d) pa dx x.2 al se to (WG wa sn r.things A.rk r.ranks ff fm ⟨(W2 r).now,rfl,tp,lk.po,lk.tl,⋯,(by rw[c4];omega),b5.rk,L.rl,(gP e3).2,e4,(gP e8).2,e9,⟨λz=>z.elim a1 (gP e3).1,λz=>z.elim a2 (gP e5).1⟩,.inl (WA.r_ps C).1,.inl (WA.r_ps C).2,.inl WA.r_rk,(by rw[<-a0];exact D.rk_tb),da,.inl rT,(λc hc=>hc.elim (λz=>b5.live c z) λz=>⟨_,z▸B⟩),λH5 ax fp dd=>?_⟩);let c7:∀c∈[A.a,A.td,A.wl,A.rk,A.pd,A.tb],pa≠c/\to≠c:=λc hc=>Dp c hc
    let J:∀{c},A.rg c->d≠c:=λhc e=>b2 (by rw[e];exact hc)
    let a5:=ax _ _ (J (WA.r_ps C).1) (J (WA.r_ps C).2) (J rT) B;let b6:∀{c},A.rg c->lp≠c:=λhc e=>ey (by rw[e];exact hc)
    let de:=ax _ _ (b6 (WA.r_ps C).1) (b6 (WA.r_ps C).2) (b6 rT) c6;let dk:H5 A.pd=aa (.dK d7):=ax _ _ (c7 A.pd (by simp)).1.symm (c7 A.pd (by simp)).2.symm (by rw[<-a0];exact D.pd_tb) Y;let dm:Kp A.rg T H5:=λc o nc e=>ax c o (λz=>nc (by rw[z];exact(WA.r_ps C).1)) (λz=>nc (by rw[z];exact(WA.r_ps C).2)) (λz=>nc (by rw[z];exact rT)) e
    let bx:pa≠d:=(J (WA.r_ps C).1).symm;let b':to≠d:=(J (WA.r_ps C).2).symm;let fq:∀j,aJ {W2 r with players:=qj (AN p (i+1)) I (W2 r).players} j=if j=(x.1:Int) then aa (I x.2) else aJ {W2 r with players:=qj (AN p i) I (W2 r).players} j:=λj=>by
     rw[gO,gO];let dp:∀q,AN p (i+1) q=(AN p i q||decide (q=x.1)):=λq=>by
      unfold AN;rw[eB ar,iL,iM,decide_eq_true_eq,decide_eq_true_eq,decide_eq_true_eq,cF,dP]
     by_cases cj:j=(x.1:Int)
     ·rw[jN cj,cj,cm];show aa (if AN p (i+1) ((x.1:Nat):Int).toNat=ae then I x.2 else x.2)=aa (I x.2)
      rw[show((x.1:Nat):Int).toNat=x.1 by omega,dp,decide_eq_true rfl,Bool.or_true,jN rfl]
     ·rw[iQ cj];by_cases c0:j<0
      ·rw[eF,jN c0];rfl
      ·rw[dp,decide_eq_false (by omega:¬j.toNat=x.1),qV]
    let dr:uq qh BK A.rg (vi H5 d) A.tb:=by
     rw[a0];exact fp.move Gn (jL (λz=>b2 (by rw[<-z];exact rT)))
    let ab:JD (m.cl 11) (m.cl 12) A.rg (vi H5 d) pa to (I x.2):=by
     rw[av];exact dd.move Gn (jL bx) (jL b')
    let w5:WR m (vi H5 d) A {W2 r with players:=qj (AN p (i+1)) I (W2 r).players}:=wi.put1 (p':=I x.2) C (λc o c1 c2 c3 e=>by
     let(n1,e'):=gP e;rw[jL n1];exact ax c o c1 c2 (by rw[<-a0];exact c3) e') dr ab (λj2 h=>by
      rw[jL cn,Y] at h;cases h;exact ev) fq
    rw[av] at ab;let(dt,j3,j4,fv,fx,he,hf,hh,b7,f1,f2,_,f3,f4,f5,f6,f7,f8,f9,fy):=ab;let fH:b7.length=(I x.2).waits.length:=by
     rw[av,f9.1.len,aj]
    exact WU _ rfl (.inl ⟨rfl,_,dL.of a5⟩) (WL _ rfl (WL _ rfl (WH pa _ dt _ _ rfl ((gP f1).2) m.k12.cl m.UK F4 (WJ fx _ rfl (.inl (dL.of (gP fy).2)) (WL _ rfl (WH pa _ dt _ _ rfl ((gP f1).2) m.k12.cl m.Uz rj (WN fv _ rfl ((gP f8).2) (by show 3<=aI;decide) λnl dy=>?_)))))));let s6:=aU.new (o:=.lst [.int (x.1:Int),.int ((nb (fJ r.ranks r.things (W2 r).now x.2).out).length:Nat),.int (b7.length:Nat)]) dy;let j7:nl≠d:=(aL a5 dy).symm;let h8:(u.take i).length<=8:=bq (iE _ _) c';exact WK d nl _ _ rfl rfl (s6 _ _ a5) ak ?_ ?_
    ·rw[fw];have:((u.take i).flatMap λx=>[(x.1:Int),((I x.2).out.length:Int),((I x.2).waits.length:Int)]).length=3*(u.take i).length:=by
      rw[HM];simp only[aK,ju,List.map_const',Ed];omega
     simp only[aK,ju,this];exact dY (dI ⋯)
    ·exact WN _ _ rfl ?_ ?_ ⟨?_,?_,?_,λn' dT q' dV g6 an=>?_⟩
     ·rw[BQ];exact w5.same λc o e=>?_
      let(n1,e'):=gP e;rw[jL n1];exact s6 _ _ e'
     ·let fa:H d=ac:=fr M;exact(cf.trans (dm.trans (Kp.of s6))).new fa
     ·rw[aF cn];exact s6 _ _ dk
     ·rw[aF ex.symm];exact s6 _ _ de
     ·rw[ak,eB hx,pA,dN,rN,dM,fH,aj,<-av];show aa (HO.lst (iv _++[V.int _,V.int _,V.int _]))=aa (HO.lst (iv ((0::((W.now+1:Nat):Int)::ss (λ(x:Nat×aq)=>[(x.1:Int),((I x.2).out.length:Int),((I x.2).waits.length:Int)]) (u.take i))++[(x.1:Int),((I x.2).out.length:Int),((I x.2).waits.length:Int)])));rw[re];rfl
     ·let g7:n'≠(x.1:Int):=λz=>by
       rw[z,show((x.1:Nat):Int).toNat=x.1 by omega] at an;unfold AN at an;rw[eB ar,decide_eq_false_iff_not] at an;exact an (by simp)
      let g8:AN p i n'.toNat=af:=by
       unfold AN at an⊢;rw[eB ar,decide_eq_false_iff_not] at an;rw[decide_eq_false_iff_not];exact λz=>an (ll _ z)
      let(d',e0,ea,cs,ga,gb,eb,gc,gd):=ch n' dT q' dV g6 g8;let b8:=r3 n';rw[dV] at b8;let gl:∃ec,(n',dT,ec)∈A.ps:=by
       cases c8:aJ {W2 r with players:=qj (AN p i) I (W2 r).players} n' with
       |none=>rw[c8] at b8;exact b8.elim
       |some jj=>
        rw[c8] at b8;let(hk,ed,gm,hm,_):=jK b8;cases gm;exact(ed,hm)
      let(ec,c9):=gl;let ap:=(my D.pp c9 C).2 (λe=>g7 (congrArg xI e));let gq:=D.ps _ c9 A.tb (by simp);let(n1,ee):=gP ga;let kk:∀(oo:HO) c o,¬A.rg c->vi T d c=aa o->vi (bD (bD H5 nl (.lst [.int (x.1:Int),.int ((nb (fJ r.ranks r.things (W2 r).now x.2).out).length:Nat),.int (b7.length:Nat)])) d oo) d c=aa o:=λoo c o nc e=>by
       let(n1,e'):=gP e;rw[BQ,jL n1];exact s6 _ _ (dm _ _ nc e')
      exact WI d' e0 ea cs ?_ gb eb (kk _ _ _ eb gc) (gd.keep λc o nc e=>kk _ c o nc e);rw[BQ,jL n1];exact s6 _ _ (ax _ _ ap.1 ap.2.1 (by rw[<-a0];exact gq.1) ee)
  ·intro σ T x';let(v3,v4,rfl,wi,cf,Y,c6,B,ch):=x';rw[aj,aj] at wi B;let eg:p.length=u.length:=by rw[O,aj]
   rw[eg,cg] at B;let eh:qj (AN p p.length) I (W2 r).players=(fK W).players:=by
    rw[tD (λx hx=>by
     unfold AN;rw[cg,decide_eq_true_eq,O,v];exact aM.mpr ⟨x,hx,rfl⟩),av,as]
    rfl
   rw[eh] at wi;let wi:WR m (vi T d) A (fK W):=by
    let e:({W2 r with players:=(fK W).players}:aZ)=fK W:=by rw[as];rfl
    rw[<-e];exact wi
   exact(_,rfl,k T A d (wi.same DO) rfl cf (λ_ h=>.inl h) (fr M) ?_);let e2:(fK W).players=u.map λx=>(x.1,I x.2):=by rw[v,av,as];rfl
   rw[B];show aa (HO.lst (iv _))=aa (HO.lst (iv (0::((W.now+1:Nat):Int)::(fK W).players.flatMap λx=>[(x.1:Int),(x.2.out.length:Int),(x.2.waits.length:Int)])));rw[e2,List.flatMap_map]
end
def uE.up (a:uE N W):uE (N+1) W:=by
 let(M,c,b):=a.ev;exact(a.rt,a.ix,a.tl,a.tv,a.wl,a.wc,a.rl,a.rv,a.pr,a.pl,a.pv,a.now,a.mr,a.m8,by have:=a.ml;omega,M,⋯,b)
def AO {z:Int}:fu z=ae↔ -2147483647<=z/\z<=2147483647:=cG
def E4 {v:List Int}(h:jA v=ae):DZ v:=by
 unfold jA at h;rw[ca,ca,beq_iff_eq] at h;let(l,j,o):=h;let l:v.length=8:=l;let(a,b,c,d,e,f,g,i,rfl):=Gf l;let j:=fV.mp j;let o:=fV.mp o;exact(rfl,kH.mp (j a (by simp)),kH.mp (j b (by simp)),λz p=>AO.mp (o z p))
theorem DZ.set {v:List Int}(h:DZ v){i:Nat}{z:Int}(b: -2147483647<=z/\z<=2147483647)(a:i<2->Co z):DZ (v.set i z):=by
 let d:=h.len;exact(by rw[lV];exact d,?_,?_,λy e=>?_)
 ·by_cases c:i=0
  ·subst c;rw[Sp.zG ⋯];exact a (by decide)
  ·rw[Sp.Ce c];exact h.x
 ·by_cases c:i=1
  ·subst c;rw[Sp.zG ⋯];exact a (by decide)
  ·rw[Sp.Ce c];exact h.y
 ·rcases B4 e with h1|h1
  ·exact h.v y h1
  ·rw[h1];exact b
def uE.placed (d:uE N W){t:aN}(e:t.id<=9999/\t.kind<=7/\DZ t.vals)(f:(bg W.things t.id).isSome=ae\/W.things.length<64):uE (N+1) (ir W t):=by
 let(M,p,i,j):=d.ev;let l:=Sp.xT (t:=t) d.rt;exact(Sp.Nv d.rt,Sp.Nu d.rt d.ix,?_,λu hu=>?_,d.wl,d.wc,d.rl,d.rv,d.pr,d.pl,d.pv,d.now,d.mr,d.m8,by have:=d.ml;show W.mirror.2.length<=_;omega,t.id::M,by rw[aK];omega,λu hu=>?_,λx o=>?_)
 ·show(Vbwsag.putThing t W.things).length<=64;rw[l];have:=d.tl;split
  ·exact this
  ·rename_i c;rcases f with h|h
   ·exact aB h c
   ·omega
 ·rcases Sp.vv hu with rfl|hu
  ·exact e
  ·exact d.tv u hu
 ·rcases Sp.vv hu with rfl|hu
  ·exact aD ..
  ·exact au _ (i u hu)
 ·let(a,b,c):=j x o;exact(λn hn=>au _ (a n hn),λn hn=>au _ (b n hn),λu hu=>au _ (c u hu))
def uE.removed (a:uE N W)(n:Nat):uE (N+1) (i5 W n):=by
 let c:=Sp.Mw (n:=n) a.rt;let d:=Sp.Mu (n:=n) a.ix;unfold i5 at c d⊢
 cases h:bg W.things n with
 |none=>exact a.up
 |some u=>
  rw[h] at c d;let(M,j,f,i):=a.ev;let e:∀t∈xR n W.things,t∈W.things:=λt b=>(cW.mp b).1
  exact(c,d,bq (cY _ _) a.tl,λt b=>a.tv t (e t b),a.wl,a.wc,a.rl,a.rv,a.pr,a.pl,a.pv,a.now,a.mr,a.m8,by have:=a.ml;show W.mirror.2.length<=_;omega,M,⋯,λt b=>f t (e t b),i)
theorem nH {n:Nat}{p:aq}{x:Nat×aq}:∀{l:List (Nat×aq)},x∈dw n p l->x=(n,p)\/x∈l
 |[],h=>.inl (by simpa [dw] using h)
 |y::l,h=>by
  unfold dw at h;split at h
  ·rcases az.mp h with h|h
   ·exact .inl h
   ·exact .inr h
  ·split at h
   ·rcases az.mp h with h|h
    ·exact .inl h
    ·exact .inr (au _ h)
   ·rcases az.mp h with h|h
    ·exact .inr (by rw[h];exact aD ..)
    ·rcases nH h with h|h
     ·exact .inl h
     ·exact .inr (au _ h)
theorem uG {n:Nat}{p:aq}:∀{l:List (Nat×aq)},(l.Pairwise λa b=>a.1<b.1)->(dw n p l).Pairwise λa b=>a.1<b.1
 |[],_=>by simp[dw]
 |y::l,h=>by
  let(c,d):=a7.mp h;unfold dw;by_cases c1:n<y.1
  ·rw[jN c1];exact a7.mpr ⟨λz hz=>?_,h⟩;rcases az.mp hz with rfl|hz
   ·exact c1
   ·have:=c z hz;show n<z.1;omega
  ·rw[iQ c1];by_cases e:n=y.1
   ·rw[jN e];exact a7.mpr ⟨λz hz=>by have:=c z hz;show n<z.1;omega,d⟩
   ·rw[iQ e];exact a7.mpr ⟨λz hz=>?_,uG d⟩;rcases nH hz with rfl|hz
    ·show y.1<n;omega
    ·exact c z hz
theorem uH (n:Nat)(p:aq):∀l:List (Nat×aq),(dw n p l).length<=l.length+1
 |[]=>aH _
 |y::l=>by
  unfold dw;split
  ·exact aH _
  ·split
   ·simp
   ·have:=uH n p l;simp only[aK];omega
theorem xb {l:List aN}{p:aq}:∀(ns:List Nat) (r:Nat),((bW l p r ns).flatMap bw).length<=r
 |[],r=>by rw[BO];exact aR _
 |n::ns,r=>by
  unfold bW
  cases h:dC l p n with
  |none=>exact xb ns r
  |some g=>
   dsimp only;split
   ·rw[dN,aQ];have:=xb (l:=l) (p:=p) ns (r-(bw g).length);omega
   ·exact aR _
theorem xF {l:List aN}{p:aq}{G:bv->Prop}(A:∀t∈l,t.vals.length=8)(j:∀t∈p.told,t.vals.length=8)(B:∀t∈l,G ⟨t.id,t.kind,t.vals⟩):
  ∀{ms:List aT} {d:List bv},Sp.xU d->(∀t∈d,G t)->(ms.map bM).Nodup->(∀g∈ms,dC l p (bM g)=aa g/\bA d (bM g)=bA p.told (bM g))->∀t∈ms.foldl dz d,G t
 |[],_,_,w,_,_=>w
 |g::ms,d,o,w,hn,C=>by
  let(E,H):=bR.mp (by rw[bB] at hn;exact hn);let(x,f):=C g (aD ..);exact xF A j B (d:=dz d g) (Sp.z9 o g) (λt q=>?_) H λD r=>?_
  ·let y:=Sp.z9 o g;let e:=Sp.Ky y q;by_cases c:t.id=bM g
   ·let I:=Sp.Pl o f (λt q=>A t (Sp.pL q)) (λt q=>j t (Sp.Nw q)) x;rw[c,I] at e;let s:(Sp.Cg l p (bM g)).map (λu=>(⟨bM g,u.kind,u.vals⟩:bv))=aa t->G t:=λe=>by
     cases i:Sp.Cg l p (bM g) with
     |none=>rw[i] at e;cases e
     |some u=>
      rw[i] at e;cases e;let f:bg l (bM g)=aa u:=by
       unfold Sp.Cg at i;split at i
       ·exact i
       ·cases i
      have:=B u (Sp.pL f);rw[Sp.m5 f] at this;exact this
    cases g with
    |enter n k v=>exact s e
    |change n J v=>exact s e
    |leave n=>cases e
   ·rw[Sp.xV o (λz=>c z.symm)] at e;exact w t (Sp.Nw e)
  ·let(a,b):=C D (au _ r);exact(a,?_);rw[Sp.xV o (λz=>E (by rw[z];exact aM.mpr ⟨D,r,rfl⟩))];exact b
def Kc {t:Nat}(h:∀x∈p.waits,x.2<=100000)(a:t<=100000):dn p n t<=100000:=by
 unfold dn
 cases b:p.waits.find? λx=>x.1==n with
 |none=>exact a
 |some x=>exact h x (eR b)
def HC {now:Nat}{M:List Nat}(a:MU p)(N:Sp.rS l)(C:∀t∈l,t.id<=9999/\t.kind<=7/\DZ t.vals)(D:p.told.length<=300)(E:p.sees.length<=300)(c:now<=100000)(hM:∀t∈l,t.id∈M)(u:∀t∈p.told,t.id∈M):
  MU (fJ r l now p)/\(∀t∈(fJ r l now p).told,t.id∈M)/\(fJ r l now p).near=p.near/\(fJ r l now p).sees=p.sees:=by
 obtain⟨ms,j⟩:∃ms,ms=A4 r l p now:=⟨_,rfl⟩;let i:=Sp.Ny r l p now;let v:(mH r l p now).Nodup:=i.nodup_iff.mpr (rA (l:=l) a.sees);let o:∀n∈mH r l p now,(dC l p n).isSome=ae:=λn hn=>(tI a.told).mp (i.mem_iff.mp hn)
 let(q,w,s):=xa (l:=l) (p:=p) (r:=p.budget-8) o;let d:ms=bW l p (p.budget-8) (mH r l p now):=j;rw[<-d] at q w s;let y:(ms.map bM).Nodup:=by rw[q];exact v.sublist (xH _ _)
 let H:∀t∈l,t.vals.length=8:=λt b=>(C t b).2.2.len
 let z:∀t∈p.told,t.vals.length=8:=λt b=>(a.tv t b).2.2.len
 let f:∀t∈ms.foldl dz p.told,(t.id<=9999/\t.kind<=7/\DZ t.vals)/\t.id∈M:=xF (G:=λt=>(t.id<=9999/\t.kind<=7/\DZ t.vals)/\t.id∈M) H z (λt b=>⟨C t b,hM t b⟩) a.told (λt b=>⟨a.tv t b,u t b⟩) y λg I=>⟨s g I,rfl⟩
 let A:=Sp.El (ms:=ms) a.told;let dl:=tG l p;let O:=i.length_eq;let Q:=zn ms p.told;let B:fJ r l now p={gI p ms with out:=Vbwsag.streamBytes now ms,waits:=(dH l (gI p ms)).map λn=>(n,if(ms.map bM).contains n=ae then now else dn p n now)}:=by
  unfold fJ;rw[<-j];rfl
 rw[B];exact(⟨a.thing,a.team,a.io,a.outer,a.b1,a.b2,a.near,a.sees,A,λt b=>(f t b).1,?_,?_,λx J=>?_,?_⟩,λt b=>(f t b).2,rfl,rfl)
 ·show Sp.wC (((dH l (gI p ms)).map _).map _);rw[gZ];let e:∀ns:List Nat,ns.map ((λ(x:Nat×Nat)=>x.1)∘λn=>(n,if(ms.map bM).contains n=ae then now else dn p n now))=ns:=λns=>by
   conv=>rhs;rw[<-qQ ns]
   rfl
  rw[e];exact Sp.yA (nG (p:=gI p ms) a.sees) _
 ·show((dH l (gI p ms)).map _).length<=10000;rw[aj];have:=tG l (gI p ms);let T:(gI p ms).sees.length=p.sees.length:=rfl;let Y:(gI p ms).told.length=(ms.foldl dz p.told).length:=rfl;omega
 ·let(n,hn,rfl):=aM.mp J;show(if(ms.map bM).contains n=ae then now else dn p n now)<=100000
  split
  ·exact c
  ·exact Kc a.wt c
 ·show(eQ now++eQ ms.length++ms.flatMap bw).length<=5000;let h1:=Sp.RD now;let h2:=Sp.RD ms.length;let L:=xb (l:=l) (p:=p) (mH r l p now) (p.budget-8);rw[<-d] at L;have:=a.b2;simp only[aQ];omega
def uE.ticked (c:uE N W)(hN:N<=300)(o:W.now<100000):uE (N+1) (fK W):=by
 let(M,J,i,q):=c.ev;let d:∀x∈(fK W).players,(x.1<=99/\MU x.2)/\(∀n∈x.2.near,n∈M)/\(∀n∈x.2.sees,n∈M)/\∀t∈x.2.told,t.id∈M:=λx e=>by
  let(y,p,rfl):=aM.mp e;let(lk,z,s,u):=TZ c hN p;let j:∃z∈W.players,y.2.told=z.2.told:=by
   let(a,v,rfl):=aM.mp p;let(b,w,rfl):=aM.mp v;exact(b,w,rfl)
  let(A,l,B):=j;let tM:∀n,(bg W.things n).isSome=ae->n∈M:=λn hn=>by
   let(t,f):=bF.mp hn;have:=i t (Sp.pL f);rw[Sp.m5 f] at this;exact this
  let C:=Kb c.rt lk;have:=c.tl;let(D,E,H,I):=HC (r:=W.ranks) (now:=W.now+1) (M:=M) lk.po c.rt c.tv lk.tl ⋯ ⋯ i (λt f=>by rw[B] at f;exact(q A l).2.2 t f);exact(⟨?_,D⟩,λn hn=>?_,λn hn=>?_,E)
  ·show y.1<=99;rw[<-u];exact(c.pv z s).1
  ·let hn:n∈(fJ W.ranks W.things (W.now+1) y.2).near:=hn;rw[H] at hn;exact tM n (lk.nr n hn)
  ·let hn:n∈(fJ W.ranks W.things (W.now+1) y.2).sees:=hn;rw[I] at hn;exact tM n (lk.st n hn)
 exact(c.rt,c.ix,c.tl,c.tv,c.wl,c.wc,c.rl,c.rv,?_,?_,λx e=>(d x e).1,by show W.now+1<=_;omega,c.mr,c.m8,by have:=c.ml;show W.mirror.2.length<=_;omega,M,⋯,i,λx e=>(d x e).2)
 ·exact bY.mpr (bY.mpr (bY.mpr c.pr))
 ·show(((W.players.map _).map _).map _).length<=8;rw[aj,aj,aj];exact c.pl
def Ph:aT->Nat
 | .enter .. =>11
 |_=>0
theorem E5:∀{n:Nat} {l:List Nat} {v:List Int} {r:List Nat},bX n l=aa (v,r)->v.length=n/\r.length+n<=l.length
 |0,l,v,r,h=>by
  cases h;exact(rfl,aH _)
 |n+1,l,v,r,h=>by
  unfold bX at h
  cases b:bK l with
  |none=>rw[b] at h;cases h
  |some x=>
   let(z,d):=x;rw[b] at h;dsimp only at h
   cases c:bX n d with
   |none=>rw[c] at h;cases h
   |some y=>
    rw[c] at h;let(o,e):=y;cases h;let(f,p):=E5 c;let(i,a,q,j):=iw b;let s:d.length=l.length-i:=by rw[j,bC]
    exact(by simp[f],by show e.length+(n+1)<=_;omega)
def xf {l:List Nat}{x:Nat}(h:bK l=aa (x,r)):r.length+1<=l.length:=by
 let(j,a,b,c):=iw h;rw[c,bC];omega
def TC {l:List Nat}{g:aT}(h:gB l=aa (g,r)):KC g/\Ph g+r.length<=l.length:=by
 cases l with
 |nil=>cases h
 |cons b l=>
  rw[JP] at h;split at h
  ·cases a:bK l with
   |none=>rw[a] at h;cases h
   |some x=>
    let(n,e):=x;rw[a] at h;dsimp only at h;let f:=xf a
    cases j:bK e with
    |none=>rw[j] at h;cases h
    |some y=>
     let(k,o):=y;rw[j] at h;dsimp only at h;let B:=xf j
     cases d:bX 8 o with
     |none=>rw[d] at h;cases h
     |some z=>
      let(v,p):=z;rw[d] at h;cases h;let(q,u):=E5 d;exact(⟨by show(bH 8).length=v.length;rw[q];rfl,λi s=>fM.mp s,rP⟩,by show 11+p.length<=l.length+1;omega)
  split at h
  ·cases a:bK l with
   |none=>rw[a] at h;cases h
   |some x=>
    let(n,e):=x;rw[a] at h;dsimp only at h;let f:=xf a
    cases e with
    |nil=>cases h
    |cons c o=>
     dsimp only at h;split at h
     ·cases h
     ·cases d:bX (gj c).length o with
      |none=>rw[d] at h;cases h
      |some z=>
       let(v,p):=z;rw[d] at h;cases h;let(q,u):=E5 d;let(w,A,C):=Gb c;rw[aK] at f;exact(⟨q.symm,A,w⟩,by show 0+p.length<=l.length+1;omega)
  split at h
  ·cases a:bK l with
   |none=>rw[a] at h;cases h
   |some x=>
    let(n,e):=x;rw[a] at h;cases h;let f:=xf a;exact(⟨rfl,λi s=>aB s (by simp[mI]),eJ⟩,by show 0+e.length<=l.length+1;omega)
  ·cases h
theorem Nl:∀{n:Nat} {l:List Nat} {ms:List aT} {r:List Nat},bz n l=aa (ms,r)->(∀g∈ms,KC g)/\(ms.map Ph).sum+r.length<=l.length
 |0,l,ms,r,h=>by
  cases h;exact(λg i=>aB i bc,by simp)
 |n+1,l,ms,r,h=>by
  unfold bz at h
  cases e:gB l with
  |none=>rw[e] at h;cases h
  |some x=>
   let(g,j):=x;rw[e] at h;dsimp only at h
   cases f:bz n j with
   |none=>rw[f] at h;cases h
   |some y=>
    let(o,p):=y;rw[f] at h;cases h;let(a,b):=TC e;let(c,d):=Nl f;exact(λq hq=>?_,?_)
    ·rcases az.mp hq with rfl|hq
     ·exact a
     ·exact c q hq
    ·show((g::o).map Ph).sum+p.length<=l.length;rw[bB,List.sum_cons];omega
def BR {l:List Nat}{t:Nat}{a:List aT}(h:iH l=aa (t,a)):(∀g∈a,KC g)/\(a.map Ph).sum<=l.length:=by
 rw[nF] at h
 cases c:bK l with
 |none=>rw[c] at h;cases h
 |some x=>
  let(o,r):=x;rw[c] at h;dsimp only at h;let p:=xf c
  cases d:bK r with
  |none=>rw[d] at h;cases h
  |some y=>
   let(n,i):=y;rw[d] at h;dsimp only at h;let q:=xf d
   cases e:bz n i with
   |none=>rw[e] at h;cases h
   |some z=>
    let(s,j):=z;rw[e] at h;let f:=Nl e
    cases j with
    |cons b r=>cases h
    |nil=>
     cases h;exact(f.1,by have:=f.2;omega)
theorem wq {t:bv}:∀{l:List bv},Sp.xU l->(∃u∈l,u.id=t.id)->(jM t l).length=l.length
 |[],_,⟨u,hu,_⟩=>aB hu bc
 |x::l,a,⟨u,hu,e⟩=>by
  let(b,d):=a7.mp a;unfold jM;split
  ·rename_i c;rcases az.mp hu with rfl|hu
   ·omega
   ·have:=b u hu;omega
  ·split
   ·rfl
   ·rename_i c1 f;rcases az.mp hu with rfl|hu
    ·exact aB e.symm f
    ·rw[aK,aK,wq d ⟨u,hu,e⟩]
def L8 {l:List bv}(a:Sp.xU l)(g:aT):11*(dz l g).length<=11*l.length+Ph g:=by
 cases g with
 |enter n k v=>
  have:=yt ⟨n,k,v⟩ l;show 11*(jM ⟨n,k,v⟩ l).length<=11*l.length+11;omega
 |change n d v=>
  rw[oI]
  cases h:bA l n with
  |none=>exact aH _
  |some t=>
   have:=wq (t:={t with vals:=(d.zip v).foldl (λr x=>r.set x.1 x.2) t.vals}) a ⟨t,Sp.Nw h,rfl⟩
   dsimp only;rw[this];exact aH _
 |leave n=>
  have:=cY (λt:bv=>t.id !=n) l;show 11*(l.filter λt=>t.id !=n).length<=11*l.length+0;omega
theorem AQ:∀{d:List aT} {l c:List bv},Sp.xU l->iB l d=aa c->11*c.length<=11*l.length+(d.map Ph).sum
 |[],l,c,_,h=>by
  cases h;exact aH _
 |g::d,l,c,e,h=>by
  rw[rp] at h;split at h
  ·let a:=AQ (Sp.z9 e g) h;let b:=L8 e g;rw[bB,List.sum_cons];omega
  ·cases h
def Kd:cZ->Nat
 | .feed l=>l.length
 |_=>0
structure gF (N:Nat)(W:aZ)(x:aZ×List Int)(k:Nat):Prop where
 ok:uE (N+1) x.1
 mi:11*x.1.mirror.2.length<=11*W.mirror.2.length+k
 an:x.2.length<=20100+10*W.mirror.2.length
section
variable {N:Nat} {W:aZ}
def gF.no (a:uE N W)(k:Int):gF N W (bL W k) j:=⟨a.up,cT _ _,by show 1<=_;omega⟩
def gF.same (b:uE N W){a:List Int}(h:a.length<=20100+10*W.mirror.2.length):gF N W (W,a) j:=⟨b.up,cT _ _,h⟩
theorem gF.placed (a:uE N W){t:aN}(b:t.id<=9999/\t.kind<=7/\DZ t.vals)(c:(bg W.things t.id).isSome=ae\/W.things.length<64):gF N W (ir W t,[0]) j:=⟨a.placed b c,cT _ _,by show 1<=_;omega⟩
def wu (l:List Nat):(dZ l).length=l.length:=aj ..
def E6 {n:Int}(h:aJ W n=aa p):∃x∈W.players,x.2=p:=by
 unfold aJ at h;split at h
 ·cases h
 ·cases a:W.players.find? λx=>x.1==n.toNat with
  |none=>rw[a] at h;cases h
  |some x=>
   rw[a] at h;cases h;exact(x,eR a,rfl)
def gF.query (a:uE N W){n:Int}{f:aq->List Int}(h:∀x∈W.players,(f x.2).length<=20100):gF N W (sg W n λp=>(W,f p)) j:=by
 unfold sg
 cases b:aJ W n with
 |none=>exact gF.no a _
 |some p=>
  let(x,c,rfl):=E6 b;exact gF.same a (by have:=h x c;omega)
theorem AS {β:Type}(f g:β->Int):∀l:List β,(l.flatMap λx=>[f x,g x]).length=2*l.length
 |[]=>rfl
 |x::l=>by rw[dN,aQ,AS f g l];show 2+2*l.length=2*(l.length+1);omega
theorem xG {β:Type}(f g h:β->Int):∀l:List β,(l.flatMap λx=>[f x,g x,h x]).length=3*l.length
 |[]=>rfl
 |x::l=>by rw[dN,aQ,xG f g h l];show 3+3*l.length=3*(l.length+1);omega
def u5 {n:Int}{t:aN}(h:(if cK W n=ae then bg W.things n.toNat else ac)=aa t):t∈W.things/\(bg W.things t.id).isSome=ae:=by
 split at h
 ·exact(Sp.pL h,by rw[Sp.m5 h,h];rfl)
 ·cases h
def lN {b:Bool}(h:¬b=af):b=ae:=by cases b<;>simp_all
def HD (j:uE N W)(hN:N<=300)(c:cZ)(hc:Kd c<=5000):gF N W (b9 W c) (Kd c):=by
 let(M,e1,T,Y):=j.ev;let ml:=j.ml
 cases c with
 |make n k v=>
  show gF N W (if gw n=af\/aX k 0 7=af\/jA v=af then bL W (-2) else if cK W n=ae then bL W (-3) else if 64<=W.things.length then bL W (-4) else(ir W ⟨n.toNat,k.toNat,v⟩,[0])) _
  split
  ·exact gF.no j _
  rename_i c1;split
  ·exact gF.no j _
  split
  ·exact gF.no j _
  rename_i c2 c3;let B:=cG.mp (lN λh=>c1 (.inl h));let C:=cG.mp (lN λh=>c1 (.inr (.inl h)));let h3:=E4 (lN λh=>c1 (.inr (.inr h)));exact gF.placed j ⟨by show n.toNat<=_;omega,by show k.toNat<=_;omega,h3⟩ (.inr ⋯)
 |drop n=>
  show gF N W (if cK W n=af then bL W (-1) else(i5 W n.toNat,[0])) _
  split
  ·exact gF.no j _
  ·exact(j.removed _,?_,by show 1<=_;omega);show 11*(i5 W n.toNat).mirror.2.length<=_;unfold i5;split<;>exact cT _ _
 |move n x y=>
  show gF N W (match (if cK W n=ae then bg W.things n.toNat else ac) with
  |none=>bL W (-1)
  |some t=>if bP x=af\/bP y=af then bL W (-2) else(ir W {t with vals:=(t.vals.set 0 x).set 1 y},[0])) _
  split
  ·exact gF.no j _
  ·rename_i t q;let(B,C):=u5 q;let(I,J,L):=j.tv t B;split
   ·exact gF.no j _
   ·rename_i c1;let O:=kH.mp (lN λh=>c1 (.inl h));let D:=kH.mp (lN λh=>c1 (.inr h));let q1: -2147483647<=x/\x<=2147483647:=by unfold Co at O;omega
    let q2: -2147483647<=y/\y<=2147483647:=by unfold Co at D;omega
    exact gF.placed (t:={t with vals:=(t.vals.set 0 x).set 1 y}) j ⟨I,J,(L.set q1 λ_=>O).set q2 λ_=>D⟩ (.inl C)
 |set_ n i z=>
  show gF N W (match (if cK W n=ae then bg W.things n.toNat else ac) with
  |none=>bL W (-1)
  |some t=>if aX i 2 7=af\/fu z=af then bL W (-2) else(ir W {t with vals:=t.vals.set i.toNat z},[0])) _
  split
  ·exact gF.no j _
  ·rename_i t q;let(B,C):=u5 q;let(I,J,L):=j.tv t B;split
   ·exact gF.no j _
   ·rename_i c1;let O:=cG.mp (lN λh=>c1 (.inl h));let D:=AO.mp (lN λh=>c1 (.inr h));exact gF.placed (t:={t with vals:=t.vals.set i.toNat z}) j ⟨I,J,L.set D λh=>⋯⟩ (.inl C)
 |wall s u A o=>
  show gF N W (if[s,u,A,o].all bP=af then bL W (-2) else if 32<=W.walls.length then bL W (-4) else({W with walls:=W.walls++[⟨⟨s,u⟩,⟨A,o⟩⟩]},[(W.walls.length:Int)])) _
  split
  ·exact gF.no j _
  split
  ·exact gF.no j _
  rename_i c1 c2;let H:∀z∈[s,u,A,o],Co z:=λz Q=>kH.mp (fV.mp (lN c1) z Q)
  let e:=j.up;exact(⟨e.rt,e.ix,e.tl,e.tv,?_,λw hw=>?_,e.rl,e.rv,e.pr,e.pl,e.pv,e.now,e.mr,e.m8,e.ml,e.ev⟩,cT _ _,by show 1<=_;omega)
  ·show(W.walls++_).length<=32;rw[aQ];show _+1<=32;omega
  ·rcases cF.mp hw with h|h
   ·exact j.wc w h
   ·rw[dP.mp h];exact(H s (by simp),H u (by simp),H A (by simp),H o (by simp))
 |unwall i=>
  show gF N W (if aX i 0 ((W.walls.length:Int)-1)=af then bL W (-1) else({W with walls:=W.walls.eraseIdx i.toNat},[0])) _
  split
  ·exact gF.no j _
  let e:=j.up;exact(⟨e.rt,e.ix,e.tl,e.tv,?_,λw hw=>?_,e.rl,e.rv,e.pr,e.pl,e.pv,e.now,e.mr,e.m8,e.ml,e.ev⟩,cT _ _,by show 1<=_;omega)
  ·exact bq (Fk ..).length_le j.wl
  ·exact j.wc w ((Fk ..).subset hw)
 |rank k r=>
  show gF N W (if aX k 0 7=af\/aX r 0 100=af then bL W (-2) else({W with ranks:=W.ranks.set k.toNat r.toNat},[0])) _
  split
  ·exact gF.no j _
  rename_i c1;let D:=cG.mp (lN λh=>c1 (.inr h));let e:=j.up;exact(⟨e.rt,e.ix,e.tl,e.tv,e.wl,e.wc,(lV ..).trans e.rl,λz Q=>?_,e.pr,e.pl,e.pv,e.now,e.mr,e.m8,e.ml,e.ev⟩,cT _ _,by show 1<=_;omega);rcases B4 Q with h|h
  ·exact j.rv z h
  ·rw[h];omega
 |join n t team inner outer budget=>
  show gF N W (if aX n 0 99=af\/gw t=af\/aX team 0 9=af\/aX inner 0 10000=af\/aX outer inner 10000=af\/aX budget 64 4096=af then bL W (-2)
   else if(aJ W n).isSome=ae then bL W (-3) else if 8<=W.players.length then bL W (-4)
   else({W with players:=dw n.toNat {thing:=t.toNat,team:=team.toNat,inner:=inner.toNat,outer:=outer.toNat,budget:=budget.toNat} W.players},[0])) _
  split
  ·exact gF.no j _
  split
  ·exact gF.no j _
  split
  ·exact gF.no j _
  rename_i c1 _ c3;let B:=cG.mp (lN λh=>c1 (.inl h));let C:=cG.mp (lN λh=>c1 (.inr (.inl h)));let h3:=cG.mp (lN λh=>c1 (.inr (.inr (.inl h))));let h4:=cG.mp (lN λh=>c1 (.inr (.inr (.inr (.inl h)))));let h5:=cG.mp (lN λh=>c1 (.inr (.inr (.inr (.inr (.inl h))))));let h6:=cG.mp (lN λh=>c1 (.inr (.inr (.inr (.inr (.inr h))))));let e:=j.up;let pl:=uH n.toNat {thing:=t.toNat,team:=team.toNat,inner:=inner.toNat,outer:=outer.toNat,budget:=budget.toNat} W.players;exact(⟨e.rt,e.ix,e.tl,e.tv,e.wl,e.wc,e.rl,e.rv,uG j.pr,by show(dw _ _ _).length<=8;omega,λx hx=>?_,e.now,e.mr,e.m8,e.ml,M,⋯,T,λx hx=>?_⟩,cT _ _,by show 1<=_;omega)
  ·rcases nH hx with rfl|hx
   ·exact(by show n.toNat<=_;omega,by show t.toNat<=_;omega,by show team.toNat<=_;omega,by show inner.toNat<=outer.toNat;omega,by show outer.toNat<=_;omega,by show _<=budget.toNat;omega,by show budget.toNat<=_;omega,eJ,eJ,eJ,λt q=>aB q bc,eJ,aR _,λx hx=>aB hx bc,aR _)
   ·exact j.pv x hx
  ·rcases nH hx with rfl|hx
   ·exact(λn hn=>aB hn bc,λn hn=>aB hn bc,λt q=>aB q bc)
   ·exact Y x hx
 |part n=>
  show gF N W (sg W n λ_=>({W with players:=W.players.filter λx=>x.1 !=n.toNat},[0])) _
  unfold sg;split
  ·exact gF.no j _
  let e:=j.up;exact(⟨e.rt,e.ix,e.tl,e.tv,e.wl,e.wc,e.rl,e.rv,j.pr.sublist iT,bq (cY ..) j.pl,λx hx=>j.pv x (cW.mp hx).1,e.now,e.mr,e.m8,e.ml,M,⋯,T,λx hx=>Y x (cW.mp hx).1⟩,cT _ _,by show 1<=_;omega)
 |tick=>
  show gF N W (if 100000<=W.now then bL W (-5) else(fK W,0::((fK W).now:Int)::(fK W).players.flatMap λx=>[(x.1:Int),(x.2.out.length:Int),(x.2.waits.length:Int)])) _
  split
  ·exact gF.no j _
  ·rename_i c1;let tk:=j.ticked hN ⋯;exact(tk,cT _ _,?_);show(ss _ _).length+1+1<=_;rw[xG (λx:Nat×aq=>(x.1:Int)) (λx=>(x.2.out.length:Int)) λx=>(x.2.waits.length:Int)];have:=tk.pl;omega
 |sent n=>
  exact gF.query (f:=λp=>0::dZ p.out) j λx hx=>by
   have:=(j.pv x hx).2.out;rw[aK,wu];omega
 |sees n=>
  exact gF.query (f:=λp=>0::(p.near.length:Int)::dZ p.near++((p.sees.length:Int)::dZ p.sees)) j λx hx=>by
   have:=tj j hx;simp only[aQ,aK,wu];omega
 |waits n=>
  exact gF.query (f:=λp=>0::p.waits.flatMap λx=>[(x.1:Int),(x.2:Int)]) j λx hx=>by
   have:=(j.pv x hx).2.wl;rw[aK,AS (λx:Nat×Nat=>(x.1:Int)) λx=>(x.2:Int)];omega
 |told n=>
  exact gF.query (f:=λp=>0::(p.told.length:Int)::p.told.flatMap i6) j λx hx=>by
   have:=tj j hx;rw[aK,aK,Dx λt q=>((j.pv x hx).2.tv t q).2.2.len];omega
 |around x y r=>
  show gF N W (if bP x=af\/bP y=af\/aX r 0 200000=af then bL W (-2) else(W,0::dZ (Vbwsag.around W.things W.index ⟨x,y⟩ r.toNat))) _
  split
  ·exact gF.no j _
  ·exact gF.same j ?_;rw[aK,wu,Sp.z7 j.rt j.ix,aj];have:=cY (λt=>kL (dO t) ⟨x,y⟩ r.toNat) W.things;have:=j.tl;omega
 |line s u A o=>
  show gF N W (if[s,u,A,o].all bP=af then bL W (-2) else match yy W.walls ⟨s,u⟩ ⟨A,o⟩ with
   |none=>(W,[0,0])
   |some x=>(W,[0,1,(x.1:Int),x.2.num,(x.2.den:Int)])) _
  split
  ·exact gF.no j _
  split
  ·exact gF.same j (by show 2<=_;omega)
  ·exact gF.same j (by show 5<=_;omega)
 |feed l=>
  show gF N W (if l.all l0=af then bL W (-2) else match iH (l.map qe) with
   |none=>bL W (-6)
   |some (t,ms)=>if t<=W.mirror.1 then bL W (-7) else match iB W.mirror.2 ms with
    |none=>bL W (-8)
    |some m=>({W with mirror:=(t,m)},[0,(ms.length:Int)])) l.length
  split
  ·exact gF.no j _
  split
  ·exact gF.no j _
  rename_i t gs E;split
  ·exact gF.no j _
  split
  ·exact gF.no j _
  rename_i l' hh;let(g1,g2):=BR E;let g3:=(tz E).2;let(a,b,c):=zj g1 j.mr j.m8 hh;let d:=AQ j.mr hh;rw[aj] at g2 g3;let hc:l.length<=5000:=hc;let e:=j.up;exact(⟨e.rt,e.ix,e.tl,e.tv,e.wl,e.wc,e.rl,e.rv,e.pr,e.pl,e.pv,e.now,a,b,by show l'.length<=_;omega,e.ev⟩,by show 11*l'.length<=_;omega,by show 2<=_;omega)
 |mirror=>
  exact gF.same j ?_;rw[aK,aK,aK,Dx j.m8];omega
 |clear=>
  let e:=j.up;exact(⟨e.rt,e.ix,e.tl,e.tv,e.wl,e.wc,e.rl,e.rv,e.pr,e.pl,e.pv,e.now,eJ,λt q=>aB q bc,aR _,e.ev⟩,aR _,by show 1<=_;omega)
 |thing n=>
  show gF N W (match (if cK W n=ae then bg W.things n.toNat else ac) with
   |none=>bL W (-1)
   |some t=>(W,0::(t.kind:Int)::t.vals)) _
  split
  ·exact gF.no j _
  ·rename_i t q;have:=(j.tv t (u5 q).1).2.2.len;exact gF.same j (by rw[aK,aK];omega)
 |state=>
  exact gF.same j ?_;simp only[aK,wu,aj];have:=j.pl;omega
def Ke:uE 0 oV:=by
 exact(eJ,?_,aR _,λt a=>aB a bc,aR _,λt a=>aB a bc,rfl,by decide,eJ,aR _,λt a=>aB a bc,aR _,eJ,λt a=>aB a bc,aR _,[],aH _,λt a=>aB a bc,λt a=>aB a bc);exact Sp.RC
end
end SA
namespace L2
open PySem PySem.Spec PyProof.Rows
section
variable {X:Cx} {d:Addr} {l:List (Int×Addr)} {x:Str} {i:Expr} {ti:TE} {p pos:Pos}
def pU {D:HP}{k:Nat}{fd:Int->gr}{ps:List Str}{sp:Int->Sp}{E:XK}{e:Expr}{es:List Expr}{t:TA}{a:Pos}(hT:BC X.K d l)(N:X.mg x=aa (.ref d))(O:PE X i ti)(j:NZ i)
  (F:∀n f,l.lookup n=aa f->du X.prog X.w X.K X.mg X.base D k f (fd n) ps (sp n)/\iz X.K (.ref f)=ae/\rG X.K (fd n) ps []) (T:jC k X.A) (Y:sL D X E)
  (ha:PA X (e::es) t) (hg:Gl X x:=by rfl) (o:(x==("__debug__":Str))=af:=by decide) (he:bp (e::es) X.env=(af,eval e X.env)::bp es X.env:=by rfl) (u:(iO pos (bp es X.env)).any (·.1)=af:=by rfl)
  (z:eval (.Call (.Subscript (.Name x p) i a) (e::es) [] pos) X.env=(do Ml pos (<-eval (.Subscript (.Name x p) i a) X.env) [] (iO pos (bp (e::es) X.env)) (uu pos (nL [] X.env))):=by rfl):
  PE X (.Call (.Subscript (.Name x p) i a) (e::es) [] pos) (λσ H Q=>ti σ H λy B=>∃n,y=.int n/\(l.lookup n).isSome=ae/\t σ B λvs J=>sp n vs J Q E):=by
 intro b s σ H Q I h;exact Call_ ?_ z;exact FM zC.lookup j ?_;exact oF I hg N ?_ o;exact hJ (O b s σ H _ I h) λiv s1 x'=>V22 x' λy B L ry x'=>V12 x' λn ey c q1=>?_
 subst ey;let(f,c):=bF.mp c;let(tk,rfl):=ry;let hM:=hT.map (P:=X.prog) (w:=X.w) L.kIn;exact(hM.typeIs,wpAny_getItem_of (k:=n) (v:=.ref f) (oO n tk) hM (by show(l.lookup n).map bI=_;rw[c];rfl) ?_);let(Ff,hk,hb):=F n f c;let C:=L.tok (s1.toks+1);exact pq (h₀:=X.base) I.ok.mod.kin hk (hJ (ha pos b _ σ B _ C q1) λus s2 x'=>V22 x' λvs J M r q=>⟨M.kIn,?_⟩) he u;exact IJ Ff T hb .nil Y M r (by rw[dM];exact q)
end
end L2
namespace SA
open PySem PySem.Spec PyProof.Rows L2
variable {n p:Int} {f:Addr} {r:List Int} {cs:List (List (List Int))} {ts:List aN}
section
variable {P:aO} {w:World} {K:am} {mg:Str->Option ag} {base:Heap} (m:Mo K mg)
def tE:List (Int×Addr):=[(0,m.fn 31),(1,m.fn 32),(2,m.fn 33),(3,m.fn 34),(4,m.fn 35),(5,m.fn 36),(6,m.fn 37),(7,m.fn 39),(8,m.fn 40)]
def tT:List (Int×Addr):=[(9,m.fn 120),(10,m.fn 121)]
def tM:List (Int×Addr):=[(16,m.fn 70),(18,m.fn 71)]
def tQ:List (Int×Addr):=[(11,m.fn 94),(12,m.fn 95),(13,m.fn 96),(14,m.fn 97),(15,m.fn 98),(17,m.fn 99),(19,m.fn 100),(20,m.fn 102)]
structure Mb:Prop where
 mE:mg "EDITS"=aa (.ref (m.tb 0))
 mT:mg "TICKS"=aa (.ref (m.tb 1))
 mM:mg "MIRRORS"=aa (.ref (m.tb 2))
 mQ:mg "QUERIES"=aa (.ref (m.tb 3))
 E:BC K (m.tb 0) (tE m)
 T:BC K (m.tb 1) (tT m)
 M:BC K (m.tb 2) (tM m)
 Q:BC K (m.tb 3) (tQ m)
def par (n:Int):List Int->Option cZ:=if n=0 then JG else if n=1 then MV else if n=2 then MW else if n=3 then Qx else if n=4 then MX else if n=5 then F8 else if n=6 then MY else if n=7 then M3 else if n=8 then MZ else if n=9 then c0 .tick else if n=10 then c1 .sent else if n=11 then c1 .sees else if n=12 then c1 .waits else if n=13 then c1 .told else if n=14 then Ga else if n=15 then TW else if n=16 then JU else if n=17 then c0 .mirror else if n=18 then c0 .clear else if n=19 then c1 .thing else if n=20 then c0 .state else λ_=>ac
def Pj (n:Int):Nat:=if n=0 then 31 else if n=1 then 32 else if n=2 then 33 else if n=3 then 34 else if n=4 then 35 else if n=5 then 36 else if n=6 then 37 else if n=7 then 39 else if n=8 then 40 else if n=9 then 120 else if n=10 then 121 else if n=11 then 94 else if n=12 then 95 else if n=13 then 96 else if n=14 then 97 else if n=15 then 98 else if n=16 then 70 else if n=17 then 99 else if n=18 then 71 else if n=19 then 100 else 102
theorem pj {n:Int}{f:Addr}:∀{l:List (Int×Addr)},l.lookup n=aa f->(n,f)∈l
 |[],h=>by cases h
 |(k,g)::l,h=>by
  rw[gK] at h
  cases e:n==k with
  |true=>
   rw[e] at h;cases h;rw[beq_iff_eq.mp e];exact aD ..
  |false=>
   rw[e] at h;exact au _ (pj h)
def L9 (P:aO)(w:World)(base:Heap)(n:Int)(f:Addr):Prop:=du P w K mg base jw 7 f (m.fd (Pj n)) wn (v7 m (par n))/\iz K (.ref f)=ae/\rG K (m.fd (Pj n)) wn []
variable (mx:Mx m) (mt:Mt m base) (k102:du P w K mg base jw 7 (m.fn 102) (m.fd 102) wn (v7 m (c0 .state)))
def hE (h:(tE m).lookup n=aa f):L9 m P w base n f:=by
 let h:=pj h;simp only[tE,az,uJ,bc,or_false] at h;rcases h with⟨rfl,rfl⟩|⟨rfl,rfl⟩|⟨rfl,rfl⟩|⟨rfl,rfl⟩|⟨rfl,rfl⟩|⟨rfl,rfl⟩|⟨rfl,rfl⟩|⟨rfl,rfl⟩|⟨rfl,rfl⟩
 ·exact((SI m).mono (by decide),m.d31.F.kp,m.d31.b)
 ·exact((SH m).mono (by decide),m.d32.F.kp,m.d32.b)
 ·exact((SJ m).mono (by decide),m.d33.F.kp,m.d33.b)
 ·exact((SK m).mono (by decide),m.d34.F.kp,m.d34.b)
 ·exact((SM m).mono (by decide),m.d35.F.kp,m.d35.b)
 ·exact((SN m).mono (by decide),m.d36.F.kp,m.d36.b)
 ·exact((SO m).mono (by decide),m.d37.F.kp,m.d37.b)
 ·exact((SV m).mono (by decide),m.d39.F.kp,m.d39.b)
 ·exact((SQ m).mono (by decide),m.d40.F.kp,m.d40.b)
include mt in
def hT (h:(tT m).lookup n=aa f):L9 m P w base n f:=by
 let h:=pj h;simp only[tT,az,uJ,bc,or_false] at h;rcases h with⟨rfl,rfl⟩|⟨rfl,rfl⟩
 ·exact(Rr m mt,m.UH.F.kp,m.UH.b)
 ·exact((QO m).mono (by decide),m.UI.F.kp,m.UI.b)
include mx in
def hM (h:(tM m).lookup n=aa f):L9 m P w base n f:=by
 let h:=pj h;simp only[tM,az,uJ,bc,or_false] at h;rcases h with⟨rfl,rfl⟩|⟨rfl,rfl⟩
 ·exact(Tu m mx,m.d70.F.kp,m.d70.b)
 ·exact((Tc m).mono (by decide),m.d71.F.kp,m.d71.b)
include k102 in
def hQ (h:(tQ m).lookup n=aa f):L9 m P w base n f:=by
 let h:=pj h;simp only[tQ,az,uJ,bc,or_false] at h;rcases h with⟨rfl,rfl⟩|⟨rfl,rfl⟩|⟨rfl,rfl⟩|⟨rfl,rfl⟩|⟨rfl,rfl⟩|⟨rfl,rfl⟩|⟨rfl,rfl⟩|⟨rfl,rfl⟩
 ·exact((SX m).mono (by decide),m.d94.F.kp,m.d94.b)
 ·exact((S6 m).mono (by decide),m.d95.F.kp,m.d95.b)
 ·exact((SY m).mono (by decide),m.d96.F.kp,m.d96.b)
 ·exact((S7 m).mono (by decide),m.d97.F.kp,m.d97.b)
 ·exact((S8 m).mono (by decide),m.d98.F.kp,m.d98.b)
 ·exact((S5 m).mono (by decide),m.d99.F.kp,m.d99.b)
 ·exact((QN m).mono (by decide),m.UD.F.kp,m.UD.b)
 ·exact(k102,m.UE.F.kp,m.UE.b)
def OX {l:List Int}{c:cZ}(h:par n l=aa c):0<=n/\n<=20:=by
 by_cases q:0<=n/\n<=20
 ·exact q
 ·unfold par at h;rw[iQ ⋯,iQ ⋯,iQ ⋯,iQ ⋯,iQ ⋯,iQ ⋯,iQ ⋯,iQ ⋯,iQ ⋯,iQ ⋯,iQ ⋯,iQ ⋯,iQ ⋯,iQ ⋯,iQ ⋯,iQ ⋯,iQ ⋯,iQ ⋯,iQ ⋯,iQ ⋯,iQ ⋯] at h;cases h
def Ug (h:0<=n/\n<=20):((tE m).lookup n).isSome=ae\/((tT m).lookup n).isSome=ae\/((tM m).lookup n).isSome=ae\/((tQ m).lookup n).isSome=ae:=by
 let q:n=0\/n=1\/n=2\/n=3\/n=4\/n=5\/n=6\/n=7\/n=8\/n=9\/n=10\/n=11\/n=12\/n=13\/n=14\/n=15\/n=16\/n=17\/n=18\/n=19\/n=20:=⋯
 rcases q with rfl|rfl|rfl|rfl|rfl|rfl|rfl|rfl|rfl|rfl|rfl|rfl|rfl|rfl|rfl|rfl|rfl|rfl|rfl|rfl|rfl<;>simp[tE,tT,tM,tQ,jz]
def OY:Sp:=λc H Q E=>∃(a b:V) (n:Int),c=[a,.int n,b]/\v7 m (par n) [a,b] H Q E
def Rs:bo ["world","call","numbers"] ["world","call","numbers"] (aP (ig 126)):=jY
include mx mt k102 in
def Rt (d:Mb m):du P w K mg base jw 8 (m.fn 126) (m.fd 126) ["world","call","numbers"] (OY m):=by
 exact m.Vf.F.ok Rs (λl H Q E h=>?_) (λo A i s H l Q E e h=>?_)
 ·let(_,_,_,rfl,_):=h;rfl
 let(a,b,n,rfl,h):=h;exact⟨_,ao (dG (iu (ES d.E d.mE (pv 1)) (by with_unfolding_all rfl)) (rt (pU (fd:=λn=>m.fd (Pj n)) (sp:=λn=>v7 m (par n)) (E:=E0) d.E d.mE (pv 1) (λ_ _=>rfl) (λn f h=>hE m h) e rH (aS (pv 0) (cU (pv 2))))) bS)
  (ao (dG (iu (ES d.T d.mT (pv 1)) (by with_unfolding_all rfl)) (rt (pU (fd:=λn=>m.fd (Pj n)) (sp:=λn=>v7 m (par n)) (E:=E0) d.T d.mT (pv 1) (λ_ _=>rfl) (λn f h=>hT m mt h) e rH (aS (pv 0) (cU (pv 2))))) bS)
  (ao (dG (iu (ES d.M d.mM (pv 1)) (by with_unfolding_all rfl)) (rt (pU (fd:=λn=>m.fd (Pj n)) (sp:=λn=>v7 m (par n)) (E:=E0) d.M d.mM (pv 1) (λ_ _=>rfl) (λn f h=>hM m mx h) e rH (aS (pv 0) (cU (pv 2))))) bS)
  (rt (pU (fd:=λn=>m.fd (Pj n)) (sp:=λn=>v7 m (par n)) (E:=E0) d.Q d.mQ (pv 1) (λ_ _=>rfl) (λn f h=>hQ m k102 h) e rH (aS (pv 0) (cU (pv 2))))))),?_⟩
 let j:0<=n/\n<=20:=let ⟨_,_,_,_,_,_,_,_,_,_,_,_,p,_⟩:=h;OX p;exact WL _ rfl (WL n rfl (WL _ rfl (Dg (λc=>(WL _ rfl (WU n rfl c (WL _ rfl (WL _ rfl h))))) λc1=>?_)));exact WL _ rfl (WL n rfl (WL _ rfl (Dg (λc=>⟨_,rfl,n,rfl,c,_,rfl,WL _ rfl h⟩) λq=>?_)));exact(_,rfl,n,rfl,WL _ rfl (Dg (λc=>⟨_,rfl,n,rfl,c,_,rfl,WL _ rfl h⟩) λr=>?_));let u:((tQ m).lookup n).isSome=ae:=by
  rcases Ug m j with h|h|h|h
  ·rw[c1] at h;cases h
  ·rw[q] at h;cases h
  ·rw[r] at h;cases h
  ·exact h
 exact(_,rfl,n,rfl,u,_,rfl,_,rfl,h)
end
variable {H:Hp} {o:HO}
section
variable {P:aO} {w:World} {K:am} {mg:Str->Option ag} {base:Heap} (m:Mo K mg)
def Go:Sp:=λq H Q _=>∃(p l:Addr),q=[.ref p]/\H p=aa (.ins (m.cl 14) l [])/\
 ∀(c d e f i r j:Addr) (a:Hp),(H c=ac/\H d=ac/\H e=ac/\H f=ac/\H i=ac/\H j=ac)->[c,d,e,f,i,j].Nodup->(∀b o,H b=aa o->b≠p->a b=aa o)->
  a p=aa (.ins (m.cl 14) l (wf (.int 0) (.ref c) (.ref d) (.ref e) (.ref f) (.ref i)))->a c=aa (.dK [])->a d=aa (.lst [])->a e=aa (.lst (nb [0,0,0,0,0,0,0,0]))->a f=aa (.dK [])->a i=aa (.ins (m.cl 13) r (mf (.int 0) (.ref j)))->a j=aa (.dK [])->Q .non a
def TD:bo ["self"] ["self"] (aP (jX (ig 14) 0)):=jY
def tJ {a:Hp}{p:Addr}(s:aU H a)(h:H p=aa o)(o':HO):(∀b u,a b=aa u->b≠p->bD a p o' b=aa u)/\(∀b u,H b=aa u->b≠p->bD a p o' b=aa u)/\bD a p o' p=aa o'/\∀b,bD a p o' b=ac->a b=ac:=
 ⟨λb u e c=>by rw[aF c];exact e,λb u e c=>by rw[aF c];exact s b u e,ak,λb e=>(jJ e).2⟩
include m in
def TH:du P w K mg base jw 3 (m.fn 14) (m.fd 14) ["self"] (Go m):=by
 exact m.k14.F.ok TD (λvs H Q E h=>?_) (λd4 A b5 s H vs Q E hr h=>?_)
 ·let(p,a,rfl,_):=h;rfl
 let(p,a,rfl,hp,k):=h;exact⟨_,ao (fN (pv 0) be rfl) (ao (fN (pv 0) jH rfl) (ao (fN (pv 0) (cr ng) rfl)
  (ao (fN (pv 0) (cI NW (cr (cU be)) (cS m.U3)) rfl) (ao (fN (pv 0) jH rfl) (bN (fN (pv 0) (wY m hr (aS be (cU jH))) rfl)))))),?_⟩
 exact(_,rfl,WK p _ a _ rfl hp m.k14.cl m.UA (by show 0<1000;decide) ?_);obtain⟨H0,z⟩:∃H0,H0=bD H p (.ins (m.cl 14) a (fI "tick" (.int 0) [])):=⟨_,rfl⟩;let p0:H0 p=aa (.ins (m.cl 14) a (fI "tick" (.int 0) [])):=by rw[z];exact ak
 let k0:∀b u,H b=aa u->b≠p->H0 b=aa u:=λb u e M=>by rw[z,aF M];exact e
 let f0:∀b,H0 b=ac->H b=ac:=λb e=>by rw[z] at e;exact(jJ e).2
 rw[<-z];intro c N;let s1:=aU.new (o:=.dK []) N;exact WL _ rfl (WK p _ a _ rfl (s1 _ _ p0) m.k14.cl m.Um (by show 1<1000;decide) ?_);let(j1,k1,p1,f1):=tJ s1 p0 (.ins (m.cl 14) a (fI "things" (.ref c) (fI "tick" (.int 0) [])));let v:c≠p:=(aL p0 N).symm;let a1:=j1 _ _ ak v;obtain⟨H1,c4⟩:∃H1,H1=bD (bD H0 c (.dK [])) p (.ins (m.cl 14) a (fI "things" (.ref c) (fI "tick" (.int 0) []))):=⟨_,rfl⟩;rw[<-c4] at j1 k1 p1 f1 a1⊢;exact(aR _,λi B=>?_);let s2:=aU.new (o:=.lst []) B;exact(_,rfl,WK p _ a _ rfl (s2 _ _ p1) m.k14.cl m.Ut (by show 2<1000;decide) ?_);let(j2,k2,p2,f2):=tJ s2 p1 (.ins (m.cl 14) a (fI "walls" (.ref i) (fI "things" (.ref c) (fI "tick" (.int 0) []))));let C:i≠p:=(aL p1 B).symm;let c7:c≠i:=aL a1 B;let a2:=j2 _ _ ak C;let O:=k2 _ _ a1 v;obtain⟨H2,c9⟩:∃H2,H2=bD (bD H1 i (.lst [])) p (.ins (m.cl 14) a (fI "walls" (.ref i) (fI "things" (.ref c) (fI "tick" (.int 0) [])))):=⟨_,rfl⟩;rw[<-c9] at j2 k2 p2 f2 a2 O⊢;exact((by show 1<=aI;decide),λq fq=>?_);let sq:=aU.new (o:=.lst [.int 0]) fq;exact WQ q 8 [.int 0] rfl rfl ak (by decide) ⟨(by decide),(by show 1*8<=aI;decide),λr as=>?_⟩;let s3:=sq.trans (aU.new (o:=.lst (eL (8:Int).toNat [V.int 0]).flatten) as);let f:H2 r=ac:=sq.free as;exact(_,rfl,WK p _ a _ rfl (s3 _ _ p2) m.k14.cl m.UX (by show 3<1000;decide) ?_);let(j3,k3,p3,f3):=tJ s3 p2 (.ins (m.cl 14) a (fI "ranks" (.ref r) (fI "walls" (.ref i) (fI "things" (.ref c) (fI "tick" (.int 0) [])))));let T:r≠p:=(aL p2 f).symm;let cc:c≠r:=aL O f;let cd:i≠r:=aL a2 f;let a3:=j3 _ _ ak T;let Y:=k3 _ _ O v;let a0:=k3 _ _ a2 C;obtain⟨H3,cf⟩:∃H3,H3=bD (bD (bD H2 q (.lst [.int 0])) r (.lst (eL (8:Int).toNat [V.int 0]).flatten)) p (.ins (m.cl 14) a (fI "ranks" (.ref r) (fI "walls" (.ref i) (fI "things" (.ref c) (fI "tick" (.int 0) []))))):=⟨_,rfl⟩;rw[<-cf] at j3 k3 p3 f3 a3 Y a0⊢;intro D j;let s4:=aU.new (o:=.dK []) j;exact(_,rfl,WK p _ a _ rfl (s4 _ _ p3) m.k14.cl m.Uo (by show 4<1000;decide) ?_);let(j4,k4,p4,f4):=tJ s4 p3 (.ins (m.cl 14) a (fI "players" (.ref D) (fI "ranks" (.ref r) (fI "walls" (.ref i) (fI "things" (.ref c) (fI "tick" (.int 0) []))))));let ay:D≠p:=(aL p3 j).symm;let cj:c≠D:=aL Y j;let cm:i≠D:=aL a0 j;let cn:r≠D:=aL a3 j;let a4:=j4 _ _ ak ay;let I:=k4 _ _ Y v;let J:=k4 _ _ a0 C;let L:=k4 _ _ a3 T;obtain⟨H4,co⟩:∃H4,H4=bD (bD H3 D (.dK [])) p (.ins (m.cl 14) a (fI "players" (.ref D) (fI "ranks" (.ref r) (fI "walls" (.ref i) (fI "things" (.ref c) (fI "tick" (.int 0) [])))))):=⟨_,rfl⟩;rw[<-co] at j4 k4 p4 f4 a4 I J L⊢;intro y d;let a':=aU.new (o:=.dK []) d;exact λx dm fx fd _=>(WP x dm _ _ rfl ak rfl ?_)
 obtain⟨H5,ab⟩:∃H5,H5=bD (bD (bD (bD H4 y (.dK [])) dm (.own x)) x (.ins (m.cl 13) dm [])) x (.ins (m.cl 13) dm (mf (.int 0) (.ref y))):=⟨_,rfl⟩;let s5:aU (bD H4 y (.dK [])) H5:=by rw[ab];exact jI fx fd
 let ex:H5 x=aa (.ins (m.cl 13) dm (mf (.int 0) (.ref y))):=by rw[ab];exact ak
 let cq:H5 y=aa (.dK []):=s5 _ _ ak;rw[<-ab];let b2:=a'.trans s5;let l:H4 x=ac:=a'.free fx;let cs:y≠x:=aL (show bD H4 y (.dK []) y=aa (.dK []) from ak) fx;exact(_,rfl,WK p _ a _ rfl (b2 _ _ p4) m.k14.cl m.Uw (by show 5<1000;decide) ?_);let(j5,k5,p5,f5):=tJ b2 p4 (.ins (m.cl 14) a (fI "mirror" (.ref x) (fI "players" (.ref D) (fI "ranks" (.ref r) (fI "walls" (.ref i) (fI "things" (.ref c) (fI "tick" (.int 0) [])))))));let nx:x≠p:=(aL p4 l).symm;let ct:y≠p:=(aL p4 d).symm;let g3:∀b,H3 b=ac->H b=ac:=λb h=>f0 b (s1.free (f1 b (s2.free (f2 b (s3.free (f3 b h))))))
 let g4:∀b,H4 b=ac->H b=ac:=λb h=>g3 b (s4.free (f4 b h))
 let g2:∀b,H2 b=ac->H b=ac:=λb h=>f0 b (s1.free (f1 b (s2.free (f2 b h))))
 let g1:∀b,H1 b=ac->H b=ac:=λb h=>f0 b (s1.free (f1 b h))
 exact k c i r D x dm y _ ⟨f0 _ N,g1 _ B,g2 _ f,g3 _ j,g4 _ l,g4 _ d⟩ ?_ (λb o e M=>k5 b o (k4 b o (k3 b o (k2 b o (k1 b o (k0 b o e M) M) M) M) M) M) p5
  (k5 _ _ I v) (k5 _ _ J C) (k5 _ _ L T) (k5 _ _ a4 ay) (j5 _ _ ex nx) (j5 _ _ cq ct)
 simp only[bR,az,bc,or_false,not_or];exact(⟨c7,cc,cj,aL I l,aL I d⟩,⟨cd,cm,aL J l,aL J d⟩,⟨cn,aL L l,aL L d⟩,⟨aL a4 l,aL a4 d⟩,cs.symm,not_false,jS)
def Kf {X:Cx}{p pos:Pos}(m:Mo X.K X.mg)(a:jC 4 X.A)(c:Gl X "World":=by rfl):
  PE X (.Call (.Name "World" p) [] [] pos) (xq (m.cl 14) (Go m) [] E0 Bo):=IK (X:=X) (pos:=pos) (p:=p) m.k14.ma (TH m) a c m.k14.m m.k14.b .nil rH (by decide)
def Kg {m:Mo K mg}{a dx td wl rk pd mi dm md:Addr}{ps:Array ag}(c:H m.tP=aa (.tbl ps))(h1:xQ ps.toList)(p:Ia qh ps.toList=ac)(hn:[a,td,wl,rk,pd,m.tP].Nodup)(q:mi∉[a,td,wl,rk,pd,m.tP])(r:md∉[a,td,wl,rk,pd,m.tP])(f:H a=aa (.ins (m.cl 14) dx (wf (.int 0) (.ref td) (.ref wl) (.ref rk) (.ref pd) (.ref mi))))(i:H td=aa (.dK []))(j:H wl=aa (.lst []))(l:H rk=aa (.lst (nb [0,0,0,0,0,0,0,0])))(o:H pd=aa (.dK []))(s:H mi=aa (.ins (m.cl 13) dm (mf (.int 0) (.ref md))))(u:H md=aa (.dK [])):
  WR m H {a:=a,dx:=dx,td:=td,wl:=wl,rk:=rk,pd:=pd,mi:=mi,tb:=m.tP,ps:=[]} oV:=by
 exact(hn,λb d=>?_,rfl,f,⟨[],i,fZ.nil.of_eq λn=>by unfold fT;split<;>rfl⟩,⟨[],j,.nil⟩,l,⟨[],o,⟨jS,λk v=>aB v bc⟩,λn=>?_⟩,(WQ dm md [] q r s u (fZ.nil.of_eq λn=>by unfold fD;split<;>rfl)),⟨ps,c,h1,.inl p⟩)
 ·let d:b∈[a,td,wl,rk,pd,m.tP]:=d;simp only[az,bc,or_false] at d;rcases d with rfl|rfl|rfl|rfl|rfl|rfl
  ·exact(_,f)
  ·exact(_,i)
  ·exact(_,j)
  ·exact(_,l)
  ·exact(_,o)
  ·exact(_,c)
 ·let e:aJ oV n=ac:=by unfold aJ;split<;>rfl
  rw[e];trivial
end
def Gp:List Int:=[2,1,3,3,4,1,2,6,1,0,1,1,1,1,3,4,0,0,0,1,0]
def Gq {n k:Nat}(h:di p=aa (n,k)):p=0\/p=1\/p=2\/p=3\/p=4\/p=5\/p=6\/p=7\/p=8\/p=9\/p=10\/p=11\/p=12\/p=13\/p=14\/p=15\/p=16\/p=17\/p=18\/p=19\/p=20:=by
 by_cases q:0<=p/\p<=20
 ·omega
 ·unfold di at h;rw[iQ ⋯,iQ ⋯,iQ ⋯,iQ ⋯,iQ ⋯,iQ ⋯,iQ ⋯,iQ ⋯,iQ ⋯,iQ ⋯,iQ ⋯,iQ ⋯,iQ ⋯,iQ ⋯,iQ ⋯,iQ ⋯,iQ ⋯,iQ ⋯,iQ ⋯,iQ ⋯,iQ ⋯] at h;cases h
def Kh {n k:Nat}(h:di p=aa (n,k)):yk (iv Gp) p=aa (.int n)/\n<=6/\k=(if p=0\/p=16 then 1 else 0):=by
 rcases Gq h with rfl|rfl|rfl|rfl|rfl|rfl|rfl|rfl|rfl|rfl|rfl|rfl|rfl|rfl|rfl|rfl|rfl|rfl|rfl|rfl|rfl<;>(simp[di] at h;let(rfl,rfl):=h;exact(rfl,by decide,by decide))
def Gr {n:Nat}(h:VbwsagNeutral.row r n=ae):r.length<=n:=by
 unfold VbwsagNeutral.row at h;exact of_decide_eq_true (iD.mp h).1
structure Ru (p:Int)(args:List Int)(xs:List (List Int))(d:cZ):Prop where
 co:Vbwsag.callOf ((p::args)::xs)=aa d
 pa:par p (args++xs.flatten)=aa d
 cn:Kd d<=(args++xs.flatten).length
 le:(args++xs.flatten).length<=5000
def Nm {n k:Nat}(h:di p=aa (n,k)){args:List Int}{xs:List (List Int)}(i:args.length=n)(j:xs.length=k)(l:mF ((p::args)::xs)=ae):∃d,Ru p args xs d:=by
 rcases Gq h with rfl|rfl|rfl|rfl|rfl|rfl|rfl|rfl|rfl|rfl|rfl|rfl|rfl|rfl|rfl|rfl|rfl|rfl|rfl|rfl|rfl<;>(simp[di] at h;let(rfl,rfl):=h)
 ·match args,i,xs,j,l with
  |[a,b],_,[r],_,l=>
   let o:r.length<=10:=Gr (iD.mp (iD.mp l).2).2;exact(_,rfl,by simp[par,JG],aR _,by simp;omega)
 ·match args,i,xs,j with
  |[a],_,[],_=>exact(_,rfl,rfl,aR _,by simp)
 ·match args,i,xs,j with
  |[a,b,c],_,[],_=>exact(_,rfl,rfl,aR _,by simp)
 ·match args,i,xs,j with
  |[a,b,c],_,[],_=>exact(_,rfl,rfl,aR _,by simp)
 ·match args,i,xs,j with
  |[a,b,c,d],_,[],_=>exact(_,rfl,rfl,aR _,by simp)
 ·match args,i,xs,j with
  |[a],_,[],_=>exact(_,rfl,rfl,aR _,by simp)
 ·match args,i,xs,j with
  |[a,b],_,[],_=>exact(_,rfl,rfl,aR _,by simp)
 ·match args,i,xs,j with
  |[a,b,c,d,e,f],_,[],_=>exact(_,rfl,rfl,aR _,by simp)
 ·match args,i,xs,j with
  |[a],_,[],_=>exact(_,rfl,rfl,aR _,by simp)
 ·match args,i,xs,j with
  |[],_,[],_=>exact(_,rfl,rfl,aR _,by simp)
 ·match args,i,xs,j with
  |[a],_,[],_=>exact(_,rfl,rfl,aR _,by simp)
 ·match args,i,xs,j with
  |[a],_,[],_=>exact(_,rfl,rfl,aR _,by simp)
 ·match args,i,xs,j with
  |[a],_,[],_=>exact(_,rfl,rfl,aR _,by simp)
 ·match args,i,xs,j with
  |[a],_,[],_=>exact(_,rfl,rfl,aR _,by simp)
 ·match args,i,xs,j with
  |[a,b,c],_,[],_=>exact(_,rfl,rfl,aR _,by simp)
 ·match args,i,xs,j with
  |[a,b,c,d],_,[],_=>exact(_,rfl,rfl,aR _,by simp)
 ·match args,i,xs,j,l with
  |[],_,[r],_,l=>
   let o:r.length<=5000:=Gr l;exact(_,rfl,by simp[par,JU],by simp[Kd],by simp;omega)
 ·match args,i,xs,j with
  |[],_,[],_=>exact(_,rfl,rfl,aR _,by simp)
 ·match args,i,xs,j with
  |[],_,[],_=>exact(_,rfl,rfl,aR _,by simp)
 ·match args,i,xs,j with
  |[a],_,[],_=>exact(_,rfl,rfl,aR _,by simp)
 ·match args,i,xs,j with
  |[],_,[],_=>exact(_,rfl,rfl,aR _,by simp)
def Ki (c:List (List Int)):su c=c:=by
 rcases c with _|⟨_|⟨n|n,t⟩,u⟩
 iterate 2 rfl
 iterate 21
  rcases n with _|n
  ·repeat' first|rfl|(rcases t with _|⟨_,t⟩)|rcases u with _|⟨_,u⟩
 iterate 2 rfl
def Kj (l:List Int):PyVbwsag.calls l=iV di l.length l:=by
 unfold PyVbwsag.calls
 cases iV di l.length l with
 |none=>rfl
 |some cs=>
  show aa (cs.map su)=aa cs;rw[show su=id from funext Ki,qQ]
def HE {f:Nat}(h:iV di f (p::r)=aa cs):∃(e n k:Nat) (xs:List (List Int)) (t:List Int) (a:List (List (List Int))),di p=aa (n,k)/\n<=r.length/\Ee k (r.drop n)=aa (xs,t)/\iV di e t=aa a/\cs=((p::r.take n)::xs)::a:=by
 cases f with
 |zero=>cases h
 |succ f=>
  unfold iV at h
  cases hc:PyFlat.call di (p::r) with
  |none=>rw[hc] at h;cases h
  |some x=>
   let(c,t):=x;rw[hc] at h;dsimp only at h
   cases b:iV di f t with
   |none=>rw[b] at h;cases h
   |some a=>
    rw[b] at h;cases h;unfold PyFlat.call at hc;dsimp only at hc
    cases d:di p with
    |none=>rw[d] at hc;cases hc
    |some i=>
     let(n,k):=i;rw[d] at hc;dsimp only at hc;split at hc
     ·cases hc
     ·rename_i hn
      cases hw:Ee k (r.drop n) with
      |none=>rw[hw] at hc;cases hc
      |some y=>
       let(xs,j):=y;rw[hw] at hc;cases hc;exact WF f n k xs t a ⟨rfl,⋯,hw,b,rfl⟩
structure Rv (p:Int)(r:List Int)(n:Nat)(nums t:List Int)(c:List (List Int))(d:cZ):Prop where
 sz:yk (iv Gp) p=aa (.int n)
 nr:n<=r.length
 form:(¬(p=0\/p=16)/\nums=r.take n/\t=r.drop n)\/((p=0\/p=16)/\∃q r',r.drop n=q::r'/\0<=q/\q.toNat<=r'.length/\nums=r.take n++r'.take q.toNat/\t=r'.drop q.toNat)
 co:Vbwsag.callOf c=aa d
 pa:par p nums=aa d
 cn:Kd d<=nums.length
 le:nums.length<=5000
def Rw {f:Nat}(h:iV di f (p::r)=aa cs)(D:∀c∈cs,mF c=ae):∃(l n:Nat) (i t:List Int) (c:List (List Int)) (d:cZ) (a:List (List (List Int))),Rv p r n i t c d/\iV di l t=aa a/\cs=c::a:=by
 let(l,n,k,E,t,a,u,v,e,w,rfl):=HE h;let(z,H,o):=Kh u;let A:=D _ (aD ..);let B:(r.take n).length=n:=by rw[cO];omega
 by_cases c:p=0\/p=16
 ·rw[jN c] at o;subst o;unfold Ee at e
  cases b:PyFlat.row (r.drop n) with
  |none=>rw[b] at e;cases e
  |some y=>
   let(x,s):=y;rw[b] at e;cases e;let(d,fl):=Nm u B rfl A;exact WG l n (r.take n++x) t _ d a ⟨⟨z,v,.inr ⟨c,?_⟩,fl.co,?_,?_,?_⟩,w,rfl⟩
   ·cases C:r.drop n with
    |nil=>rw[C] at b;cases b
    |cons q j=>
     rw[C] at b;let b:(if 0<=q/\q.toNat<=j.length then aa (j.take q.toNat,j.drop q.toNat) else ac)=aa (x,t):=b
     by_cases hc:0<=q/\q.toNat<=j.length
     ·rw[jN hc] at b;cases b;exact(q,j,rfl,hc.1,hc.2,rfl,rfl)
     ·rw[iQ hc] at b;cases b
   ·have:=fl.pa;simpa using this
   ·have:=fl.cn;simpa using this
   ·have:=fl.le;simpa using this
 ·rw[iQ c] at o;subst o;cases e;let(d,fl):=Nm u B rfl A;exact WG l n (r.take n) (r.drop n) _ d a ⟨⟨z,v,.inl ⟨c,rfl,rfl⟩,fl.co,?_,?_,?_⟩,w,rfl⟩
  ·have:=fl.pa;simpa using this
  ·have:=fl.cn;simpa using this
  ·have:=fl.le;simpa using this
def DP {x:Addr}:vi H x x=ac:=by unfold vi;rw[jN rfl]
def tK {x b:Addr}(h:H b=ac):vi H x b=ac:=by unfold vi;split;rfl;exact h
def oE.del {P:aO}{w:World}{h:Heap}{x:Addr}{xs:List V}(d:oE P w H h)(e:H x=aa (.lst xs)):oE P w (vi H x) h:=λb u q=>
 (d b u (gP q).2).stay (λ_ _ _ e=>e) (λc a=>by rw[jL (jf a e nofun)];exact a) λc f a=>by rw[jL (jf a e nofun)];exact a
def OZ (sp:Sp):Sp:=λc H Q E=>∃x a,H x=aa (.lst a)/\sp c (vi H x) (λv b=>b x=ac->Q v (bD b x (.lst a))) E
def du.hide {P:aO}{w:World}{K:am}{mg:Str->Option ag}{base:Heap}{k:Nat}{fd:gr}{ps:List Str}{sp:Sp}(F:du P w K mg base jw k f fd ps sp):du P w K mg base jw k f fd ps (OZ sp):=by
 exact(λY H Q E x'=>V21 x' λ_ _ _ h=>F.len _ _ _ _ h,λA i s H B us Y Q E hr j a hv x'=>V21 x' λx xs p hs=>?_);let J:wM P w K mg base A i s (vi H x):=⟨j.frames,j.mod,λb o q=>⟨(j.bs b o q).1,tK (j.bs b o q).2⟩,j.bsz,j.funs,λb a=>tK (j.frf b a),oE.del j.hok p,j.bare⟩;exact i9 (F.run A i s (vi H x) B us Y _ E hr J a hv hs) λr s' C=>?_
 cases r with
 |error e=>exact C
 |ok fl=>
  cases fl with
  |ret u=>
   let(v,H',os,D,l,L,r,q):=C;let(len,M,n,r1,ho):=j.hok x _ p;let N:H' x=ac:=l.free x _ ho DP (by simp);let O:x∉wJ i:=λz=>by rw[j.frf x z] at p;cases p
   let T:=l.keep x _ ho DP O (by simp);exact(v,bD H' x (.lst xs),os,D,⟨λb o q n a y=>l.keep b o q (tK n) a y,λb o q n a y=>l.slot b o q (tK n) a y,λb o q n y=>?_,λb o q y=>l.there b o q y,λb ys q=>?_,λb o u q=>?_,λb ps q=>?_⟩,λb o q=>?_,r,q N)
   ·rw[aF (aL p n).symm];exact l.free b o q (tK n) y
   ·let a:=jf q p nofun;rw[aF a];exact l.tups b ys (by rw[jL a];exact q)
   ·let a:=jf q p nofun;rw[aF a];exact l.frzs b o u (by rw[jL a];exact q)
   ·let a:=jf q p nofun;rw[aF a];exact l.tbls b ps (by rw[jL a];exact q)
   ·by_cases c:b=x
    ·subst c;rw[ak] at q;cases q;exact(len,M,n,r1,T)
    ·rw[aF c] at q;exact(L b o q).stay (λ_ _ _ e=>e) (λd I=>by rw[aF (aL I N)];exact I) λd ys I=>by rw[aF (aL I N)];exact I
  |next=>exact C
  |brk=>exact C
  |cont=>exact C
def Kk {G:Hp}{x:Addr}(g:G x=ac)(s:aU (bD G x o) H):aU G (vi H x):=λb u e=>by
 let a:b≠x:=aL e g;rw[jL a];exact s b u (by rw[aF a];exact e)
def AR (K:am)(H:Hp)(R:Rg)(a:Addr)(xs:List V):Prop:=(¬R a/\Rd H a (.lst xs))\/∀b,dL K b a xs
def Rd.to {b:Hp}{a:Addr}(h:Rd H a o)(k:∀u,H a=aa u->b a=aa u):Rd b a o:=h.elim (λe=>.inl (k _ e)) λ⟨c,e⟩=>.inr ⟨c,k _ e⟩
def Rd.ex {a:Addr}(h:Rd H a o):∃u,H a=aa u:=h.elim (λe=>⟨_,e⟩) λ⟨_,e⟩=>⟨_,e⟩
section
variable {K:am} {H H':Hp} {R R':Rg} {a:Addr} {xs:List V}
def AR.sq (h:AR K H R a xs):dL K H a xs:=h.elim (λh=>.inl h.2) λh=>h H
def AR.step (h:AR K H R a xs)(k:Kp R H H')(r:∀b,R' b->R b\/H b=ac):AR K H' R' a xs:=by
 rcases h with⟨c,d⟩|h
 ·let(u,e):=Rd.ex d;exact .inl ⟨λz=>(r a z).elim c λn=>(by rw[n] at e;cases e),Rd.to d λo e=>k a o c e⟩
 ·exact .inr h
end
def Gs (l:List Int)(i j:Nat):rW (iv l) (aa (i:Int)) (aa (j:Int))=iv ((l.drop i).take (j-i)):=by
 unfold rW;rw[HT.yj,HT.yj];unfold iv;rw[<-List.map_drop,<-wB];congr 1;rw[aj];by_cases c:i<=l.length
 ·rw[show min i l.length=i by omega];by_cases d:j<=l.length
  ·rw[show min j l.length=j by omega]
  ·rw[show min j l.length=l.length by omega,kg (by rw[bC];exact aH _),kg (by rw[bC];omega)]
 ·rw[show min i l.length=l.length by omega,ki (aH _),ki ⋯,List.take_nil,List.take_nil]
variable {kvs:List (ef×V)}
section
variable {P:aO} {w:World} {K:am} {mg:Str->Option ag} {base:Heap} (m:Mo K mg)
def Kl (t:aN):List Int:=[t.vals.getD 0 0/64,t.vals.getD 1 0/64]
def TJ (m:Mo K mg):Sp:=λb H Q _=>∃(d:Addr) (R:Rg) (kvs:List (ef×V)) (ts:List aN),b=[.ref d]/\H d=aa (.dK kvs)/\fZ (m.cl 11) R H kvs (fT ts)/\Sp.rS ts/\ts.length<=64/\(∀t∈ts,t.vals.length=8)/\
 ∀(a:Hp) (L:List (List Int)),aU H a->L.Nodup->(∀x,x∈L↔∃t∈ts,x=Kl t)->Q (.int L.length) a
def Nn:bo ["things","thing"] ["things"] (aP (ig 101)):=jY
theorem tL {α β:Type}{F G:α->β->Prop}(k:∀a b,F a b->G a b):∀{l:List α} {r:List β},a9 F l r->a9 G l r
 |_,_,.nil=>.nil
 |_,_,.cons h t=>.cons (k _ _ h) (tL k t)
def T1 (C:Addr)(R:Rg)(H:Hp)(ts:List aN)(p:ef×V)(t:aN):Prop:=t∈ts/\p.1=aA (t.id:Int)/\∃a,p.2=.ref a/\EO C R H a t.kind t.vals
def Ma {C:Addr}{R:Rg}(d:fZ C R H kvs (fT ts)){p:ef×V}(f:p∈kvs):∃t,T1 C R H ts p t:=by
 let(k,v):=p;let(n,hn):=d.dk.2 k (aM.mpr ⟨_,f,rfl⟩);subst hn;let c:=ph d.dk.1 f
 cases b:fT ts n with
 |none=>rw[d.none_ b] at c;cases c
 |some r=>
  let(a,i,l):=d.some_ b;rw[c] at i;unfold fT at b;split at b
  ·let(t,j,rfl):=eP.mp b;let e:t.id=n.toNat:=by
    have:=lT j;exact eq_of_beq this
   exact(t,Sp.pL j,(by show aA n=aA (t.id:Int);rw[e];congr 1;omega),a,a6 i,l)
  ·cases b
theorem AT {α β:Type}{F:α->β->Prop}:∀{l:List α},(∀a∈l,∃b,F a b)->∃r,a9 F l r
 |[],_=>⟨[],.nil⟩
 |a::l,h=>by
  let(b,c):=h a (aD ..);let(r,d):=AT λx e=>h x (au _ e)
  exact(b::r,.cons c d)
def Km {C:Addr}{R:Rg}(f:Sp.rS ts)(d:fZ C R H kvs (fT ts)):∃us,a9 (T1 C R H ts) kvs us/\∀t,t∈us↔t∈ts:=by
 let(us,c):=AT λp c=>Ma d c
 exact(us,c,λt=>⟨λh=>?_,λh=>?_⟩)
 ·let(i,j,e):=gJ.mp h;let(p,_,l,_):=c.of_at (i:=i) (b:=t) (by rw[br j,e]);exact l
 ·let u:fT ts (t.id:Int)=aa (t.kind,t.vals):=by
   unfold fT;rw[jN ⋯,ye,Sp.mh f h];rfl
  let(a,v,z):=d.some_ u;let(i,j,e):=gJ.mp (sW v);let(q,l,w,r,_):=St.ub c (i:=i) (a:=kvs[i]) (br j);rw[e] at r;let o:q.id=t.id:=by
   have:=fF r;omega
  let x:q=t:=by
   let s:=Sp.mh f w;let y:=Sp.mh f h;rw[o,y] at s;exact(a6 s).symm
  rw[<-x];exact bj l
include m in
def Rx:du P w K mg base jw 2 (m.fn 101) (m.fd 101) ["things"] (TJ m):=by
 exact m.U6.F.ok Nn (λvs H Q E h=>?_) (λbx A ab s H vs Q E hr h=>?_)
 ·let(_,_,_,_,rfl,_):=h;rfl
 let(d,R,kvs,ts,rfl,hd,hD,B,b3,al,k):=h;let nd:=Nn.nd;exact⟨_,bN (lr (cJ Hc (by rfl) m.Uk cM (cU (nh (Hb (hr.mono (by decide))) (by rfl) m.U5 boot_set (aS
  (FN (vQ (own:=[("thing",1)]) rfl nd (ua (pv 0)) (mo (by show yU ["things","thing"] (aP (ig 101)) _ _=ae;decide +kernel)) (λ_ _ _ _ _=>fC (i:=1) nd rfl (eu rfl))
   (λ_ _ _ _ _=>t7) (λ_ _ _ _ _=>lM (aS (cI vK (JR K (Gc K (pv 1)) be) (cS m.Vo)) (cU (cI vK (JR K (Gc K (pv 1)) be) (cS m.Vo))))))) ng))))),?_⟩
 let b6:kvs.length=ts.length:=by
  have:=(hD.ris B).len;rw[aj] at this;exact this
 exact WJ d _ hd dR λod=>?_;obtain⟨C,f⟩:∃C,C=bD H d (.frz od (.dK kvs)):=⟨_,rfl⟩;let c:C d=aa (.frz od (.dK kvs)):=by rw[f];exact ak
 let I:∀b u,H b=aa u->b≠d->C b=aa u:=λb u e hb=>by rw[f,aF hb];exact e
 rw[<-f];exact WL _ rfl (WS d od _ rfl c λD fD=>?_);let(us,J,j):=Km B hD;let ap:kvs.length=us.length:=J.length;exact Lw (λi l=>aU C l/\∃(q:List Addr),l D=aa (.lst (q.map V.ref))/\a9 (λb k=>l b=aa (.tup (k.map V.int))) q ((us.take i).map Kl)/\q.length<=i) ⟨aU.new fD,[],ak,.nil,aH _⟩ (λi l ⟨s,_⟩=>s _ _ c) ?_ ?_
 ·intro i k' v l hi x';let(s,q,M,e2,e3):=x';let(t,hu,N,_,a,r,ar):=St.ub J hi;let r:v=.ref a:=r;subst r;let(dt,ls,_,_,g1,g2):=id ar;let n1:a≠d:=jf g1 hd nofun;let n2:ls≠d:=jf g2 hd nofun;let O:=s _ _ (I _ _ g1 n1);let Y:=s _ _ (I _ _ g2 n2);let l8:=al t N;let c6:i<kvs.length:=(bf.mp hi).1;let hx:(0:Int)<64/\(64:Int)<1073741824:=by decide
  exact(rfl,WL _ rfl (WH a _ dt _ _ rfl O m.k11.cl m.Ul (gN _ _) (WI ls _ _ _ rfl rfl (dL.of Y) (zd (i:=0) ⋯) (WN _ _ rfl rfl hx (WL _ rfl (WH a _ dt _ _ rfl O m.k11.cl m.Ul (gN _ _) (WI ls _ _ _ rfl rfl (dL.of Y) (zd (i:=1) ⋯) (WN _ _ rfl rfl hx ⟨(by show 2<=aI;decide),λT fT=>?_⟩))))))));let s2:=s.t (o:=.tup [.int (t.vals.getD 0 0/64),.int (t.vals.getD 1 0/64)]) fT;let ay:D≠T:=aL M fT;exact(_,aU.new fT _ _ M,by rw[aj];exact dI ⋯,s2.old fD,q++[T],by rw[ak,bU];rfl,?_,by rw[aQ];simp;omega);rw[eB hu,bU];exact St.y4 (tL (λb k e=>?_) e2) (.cons ?_ .nil)
  ·let a':b≠D:=jf e M nofun;rw[aF a'];exact aU.new fT _ _ e
  ·rw[aF ay.symm];exact ak
 ·intro l x';let(s,q,M,e2,e3):=x';rw[ap,cg] at e2;exact(s _ _ c,?_);let b1:d≠D:=aL c fD;obtain⟨H2,y⟩:∃H2,H2=bD l d (.dK kvs):=⟨_,rfl⟩;let s2:aU H H2:=by rw[y];exact aU.lock (o:=od) hd (by rw[<-f];exact s)
  let k2:∀b o,l b=aa o->b≠d->H2 b=aa o:=λb o e hb=>by rw[y,aF hb];exact e
  rw[<-y];exact WQ D q (us.map Kl) rfl (k2 _ _ M b1.symm) (tL (λb k e=>k2 _ _ e λz=>?_) e2) ⋯ λp L fp hn hL=>?_
  ·rw[z,s _ _ c] at e;cases e
  ·exact WN p _ rfl ak ?_ ?_
   ·let h1:L.length<=(us.map Kl).length:=jB hn λx hx=>(hL x).mp hx
    rw[aj] at h1;omega
   ·exact k _ L (s2.t fp) hn λx=>?_
    rw[hL,aM];constructor
    ·intro x';let(t,N,rfl):=x';exact(t,(j t).mp N,rfl)
    ·intro x';let(t,N,rfl):=x';exact(t,(j t).mpr N,rfl)
end
section
variable {P:aO} {w:World} {K:am} {mg:Str->Option ag} {base:Heap} (m:Mo K mg)
def Kn {x:Cb}(j:Sp.rS ts)(h:Sp.uv ts x){L:List (List Int)}(hn:L.Nodup)(l:∀y,y∈L↔∃t∈ts,y=Kl t):L.length=x.length:=by
 let e:L.length=((x.map λe=>e.1).map λ(c:Vbwsag.Cell)=>[c.cx,c.cy]).length:=by
  exact Sp.O6 hn ?_ λy=>?_
  ·exact bY.mpr ((Sp.Mz h).imp λ{a b} d z=>d ?_);injection z with o f
   injection f with f _
   cases a;cases b;cases o;cases f;rfl
  ·rw[l,aM];constructor
   ·intro x';let(t,i,rfl):=x';exact(_,(Sp.O5 j h).mpr ⟨t,i,rfl⟩,rfl)
   ·intro x';let(c,hc,rfl):=x';let(t,i,rfl):=(Sp.O5 j h).mp hc;exact(t,i,rfl)
 rw[e,aj,aj]
def No:bo ["world","numbers","counts"] wn (aP (ig 102)):=jY
include m in
def Ry:du P w K mg base jw 3 (m.fn 102) (m.fd 102) wn (v7 m (c0 .state)):=by
 exact m.UE.F.ok No im (λM A q s H vs Q E z h=>?_);let(A,W,N,b,l,c,rfl,d,f,hN,hb,O,hc,h5,k):=h
 match l,hc with
 |[],hc=>
  cases hc;let T:=No.nd;let(B,C,D):=d.th;let(Y,a1,a2):=d.wa;let(kP,p1,p2,p3):=d.pl;exact⟨_,ao (sT 2 T (cr (aS (cJ oP (by rfl) m.Uk cM (cU (fl (pv 0)))) (aS (cJ eN (by rfl) m.Uk cM (cU (fl (pv 0)))) (cU (dA m.U6 (Rx m) z (cU (fl (pv 0)))))))))
   (rt (cI iX (cI iX (cr (aS be (cU (fl (pv 0))))) (pv 2)) (cJ (nj z.hd) (by rfl) m.Uv nN (cU (fl (pv 0)))))),?_⟩
  let es:b9 W .state=(W,0::(W.now:Int)::(W.things.length:Int)::(W.walls.length:Int)::(W.index.length:Int)::dZ (W.players.map λx=>x.1)):=rfl;rw[es] at k;let I:=(D.ris f.rt).len;rw[aj] at I;let ea:Y.length=W.walls.length:=cB a2;let i:=pT (W:=W) f.pr p2 λn=>(p3 n).isSome
  let(ks,i1,i2):=i.ks;exact WL _ rfl (WH A.a _ A.dx _ _ rfl d.obj m.k14.cl m.Um gR (WJ A.td B rfl C ?_));exact WL _ rfl (WH A.a _ A.dx _ _ rfl d.obj m.k14.cl m.Ut pi (WJ A.wl _ rfl (.inl (dL.of a1)) ?_));exact WL _ rfl (WH A.a _ A.dx _ _ rfl d.obj m.k14.cl m.Um gR (WK A.td A.rg B W.things rfl C D f.rt f.tl ⟨(λt ht=>(f.tv t ht).2.2.len),λH1 L s1 hn hL=>?_⟩));rw[Kn f.rt f.ix hn hL,I,aj,ea];exact((by show 3<=aI;decide),λr f1=>?_);let u:=s1.t (o:=.lst [.int (W.things.length:Nat),.int (W.walls.length:Nat),.int (W.index.length:Nat)]) f1;obtain⟨v,j⟩:∃v,v=bD H1 r (.lst [.int (W.things.length:Nat),.int (W.walls.length:Nat),.int (W.index.length:Nat)]):=⟨_,rfl⟩;let g1:v r=aa (.lst [.int (W.things.length:Nat),.int (W.walls.length:Nat),.int (W.index.length:Nat)]):=by rw[j];exact ak
  rw[<-j] at u⊢;exact WL _ rfl (WM A.a _ A.dx _ _ rfl (u _ _ d.obj) m.k14.cl m.UA rfl (by show 2<=aI;decide) λq2 J=>?_);let s3:=u.t (o:=.lst [.int 0,.int (W.now:Nat)]) J;let g2:=aU.new (o:=.lst [.int 0,.int (W.now:Nat)]) J _ _ g1;exact(_,rfl,WK q2 r _ _ rfl rfl ak g2 (by show 2+3<=aI;decide) λq3 f3=>?_);let y:=s3.t (o:=.lst ([.int 0,.int (W.now:Nat)]++[.int (W.things.length:Nat),.int (W.walls.length:Nat),.int (W.index.length:Nat)])) f3;exact WL _ rfl (WH A.a _ A.dx _ _ rfl (y _ _ d.obj) m.k14.cl m.Uo rfl (WT A.pd kP ks rfl (.inl (y _ _ p1)) i1 λlp ns p hp hs=>?_));let e:=nu i.2.1 (hp.trans i2) hs;subst e;let bx:=f.pl;exact WK q3 lp _ _ rfl rfl (aU.new p _ _ ak) ak (by show 5+_<=_;rw[aj,aj,aj];exact Ho ⋯) λq4 f4=>?_;exact k.new d (y.t p) q4 f4
end
section
variable {P:aO} {w:World} {K:am} {mg:Str->Option ag} {base:Heap} (m:Mo K mg)
structure Ms:Prop where
 mS:mg "SIZES"=aa (.ref (m.tb 4))
 mW:mg "WITH_ROW"=aa (.ref (m.tb 5))
 S:∀H,o4 K H (m.tb 4) (iv Gp)
 W:∀H,o4 K H (m.tb 5) (iv [0,16])
def Np:Sp:=λe H Q _=>∃(a:Addr) (l:List Int) (b:Array ag),e=[.ref a]/\dL K H a (iv l)/\a≠m.tP/\l.length<=30000/\A5 l=ae/\H m.tP=aa (.tbl b)/\xQ b.toList/\Ia qh b.toList=ac/\
 ∀(c:Hp) (p:Addr) (d:Array ag),c p=aa (.lst (iv (mZ l)))->c m.tP=aa (.tbl d)->Q (.ref p) c
def Nq:bo ["calls","world","told","at","call","end","numbers","start","answer"] ["calls"] (aP (ig 127)):=jY
def Mc {t u:TS}{D:xW}{σ:L2.St}(J:L2.St->Hp->Prop)(a:∀e:xW,(∀b c,J b c->e.nx b c)->t e σ H)(d:∀b c,J b c->u D b c):NH t u D σ H:=a {D with nx:=u D} d
structure O0 (m:Mo K mg)(a x tl:Addr)(l:List Int)(i:Nat)(H:Hp):Prop where
 at_:∃(ts:List Int) (G:Hp) (A:WA) (W:aZ) (N f:Nat) (cs:List (List (List Int))),H=bD G tl (.lst (iv ts))/\G tl=ac/\WR m G A W/\A.a=x/\AR K G A.rg a (iv l)/\uE N W/\iV di f (l.drop i)=aa cs/\(∀c∈cs,mF c=ae)/\
  N+cs.length<=300/\11*W.mirror.2.length<=i/\ts.length<=N*50000/\mZ l=ts++Ef (A6 iK W cs)
 le:i<=l.length
def Lp (m:Mo K mg)(a x b:Addr)(l:List Int)(n:Nat)(σ:L2.St)(H:Hp):Prop:=∃(i:Nat) (c d e f j:Option V),n=l.length-i/\σ=[aa (.ref a),aa (.ref x),aa (.ref b),aa (.int i),c,d,e,f,j]/\O0 m a x b l i H
def Ko:K9 (.int p) (iv [0,16])=decide (p=0\/p=16):=by
 let e:K9 (.int p) (iv [0,16])=((0:Int)==p||((16:Int)==p||false)):=rfl
 rw[e];by_cases a:p=0
 ·subst a;rfl
 ·by_cases b:p=16
  ·subst b;rfl
  ·rw[decide_eq_false ⋯,qV,beq_eq_false_iff_ne.mpr ⋯,beq_eq_false_iff_ne.mpr ⋯];rfl
variable (mx:Mx m) (mt:Mt m base) (mb:Mb m) (ms:Ms m)
include mx mt mb ms in
def Rz:du P w K mg base jw 9 (m.fn 127) (m.fd 127) ["calls"] (Np m):=by
 exact m.UT.F.ok Nq (λvs H Q E h=>?_) (λf8 A cq s H vs Q E hr h=>?_)
 ·let(_,_,_,rfl,_):=h;rfl
 let(a,l,ps,rfl,ct,cu,hl,j,T,cv,cx,k):=h;let D:=Nq.nd;let h4:=hr.mono (show 4<=8 by decide);exact⟨_,ao (sT 1 D (Kf m h4))
  (ao (sT 2 D (cr ng))
  (ao (sT 3 D be)
  (ao (sK cQ (df rF (pv 3) (cJ eN (by rfl) m.Uk cM (cU (pv 0))) (dS _))
   (ao (sT 4 D (ot rb (pv 0) (pv 3) (λ_ _=>rfl)))
   (ao (sT 5 D (cI o6 (cI o6 (pv 3) be) (ot ED (Bh (v:=.ref (m.tb 4)) (by rfl) ms.mS rfl) (pv 4) (λ_ _=>rfl))))
   (ao (sT 6 D (jG kQ (pv 0) (jV (cI o6 (pv 3) be)) (jV (pv 5))))
   (ao (dG (df GX (pv 4) (Bh (v:=.ref (m.tb 5)) (by rfl) ms.mW rfl) (by with_unfolding_all rfl))
    (ao (sT 7 D (cI o6 (pv 5) be))
    (ao (sT 5 D (cI o6 (pv 7) (ot rb (pv 0) (pv 5) (λ_ _=>rfl))))
    (bN (sT 6 D (cI iX (pv 6) (jG kQ (pv 0) (jV (pv 7)) (jV (pv 5)))))))) bS)
   (ao (sT 8 D (dA m.Vf (du.hide (Rt m mx mt ((Ry m).mono (by decide)) mb)) hr (aS (pv 1) (aS (pv 4) (cU (pv 6))))))
   (ao (gL (wT (pv 2) (cJ eN (by rfl) m.Uk cM (cU (pv 8)))))
   (ao (gL (uZ (pv 2) (pv 8)))
   (bN (sT 3 D (pv 5)))))))))))
  (rt (pv 2))))),?_⟩
 exact λx dx fx fd fe=>(WJ x dx rfl ak λtd wl rk pd mi dm md H1 fr av M e0 e1 e2 e3 e4 e5 e6=>⟨rfl,?_⟩)
 let cm:∃cs,iV di l.length l=aa cs/\(∀c∈cs,mF c=ae)/\cs.length<=300/\mZ l=Ef (A6 iK oV cs):=by
  unfold A5 at j;unfold mZ;rw[Kj] at j⊢
  cases e:iV di l.length l with
  |none=>rw[e] at j;cases j
  |some cs=>
   rw[e] at j;let j:(PyFlat.atMost 300 cs&&zE cs)=ae:=j;let(h1,h2):=iD.mp j;unfold zE at h2;exact(cs,rfl,fV.mp (iD.mp h2).1,of_decide_eq_true h1,rfl)
 let(cs,y,hq,ep,r):=cm;obtain⟨H0,Y⟩:∃H0,H0=bD (bD H dx (.own x)) x (.ins (m.cl 14) dx []):=⟨_,rfl⟩;rw[<-Y] at fr M;let s0:∀b o,H b=aa o->H0 b=aa o/\b≠x:=λb o e=>by
  let h1:=aL e fx;let h2:=aL e fd;exact(by rw[Y,aF h1,aF h2];exact e,h1)
 let cy:H0 x=aa (.ins (m.cl 14) dx []):=by rw[Y];exact ak
 let k0:∀b o,H b=aa o->H1 b=aa o:=λb o e=>M b o (s0 b o e).1 (s0 b o e).2
 let ay:=k0 _ _ T;let(f1,f2,f3,f4,f5,f6):=fr;let nx:∀{b},H0 b=ac->x≠b:=λ{b} f=>aL cy f
 let nt:∀{b},H0 b=ac->b≠m.tP:=λ{b} f=>(aL (s0 _ _ T).1 f).symm
 let d0:x≠m.tP:=(s0 _ _ T).2.symm;simp only[bR,az,bc,or_false,not_or,not_false_iff,and_true,jS] at av;let((d1,d2,d3,d4,d5),(d6,d7,d8,d9),(da,db,dd),(de,dk),g8):=av;let w0:WR m H1 {a:=x,dx:=dx,td:=td,wl:=wl,rk:=rk,pd:=pd,mi:=mi,tb:=m.tP,ps:=[]} oV:=by
  exact Kg (dm:=dm) (md:=md) ay cv cx ?_ ?_ ?_ e0 e1 e2 e3 e4 e5 e6
  ·simp only[bR,az,bc,or_false,not_or,not_false_iff,and_true,jS];exact(⟨nx f1,nx f2,nx f3,nx f4,d0⟩,⟨d1,d2,d3,nt f1⟩,⟨d6,d7,nt f2⟩,⟨da,nt f3⟩,nt f4)
  ·simp only[az,bc,or_false,not_or];exact((nx f5).symm,jl d4,jl d8,jl db,jl de,nt f5)
  ·simp only[az,bc,or_false,not_or];exact((nx f6).symm,jl d5,jl d9,jl dd,jl dk,nt f6)
 let dp:AR K H1 (WA.rg {a:=x,dx:=dx,td:=td,wl:=wl,rk:=rk,pd:=pd,mi:=mi,tb:=m.tP,ps:=[]}) a (iv l):=by
  rcases ct with h|h
  ·let(u,hu):=Rd.ex h;let h0:=(s0 _ _ hu).1;exact .inl ⟨λz=>?_,Rd.to h λo e=>k0 a o e⟩;let z:a∈[x,td,wl,rk,pd,m.tP]:=z;simp only[az,bc,or_false] at z;rcases z with z|z|z|z|z|z
   ·exact(s0 _ _ hu).2 z
   ·exact aL h0 f1 z
   ·exact aL h0 f2 z
   ·exact aL h0 f3 z
   ·exact aL h0 f4 z
   ·exact cu z
  ·exact .inr λH'=>.inr h
 exact(aR _,λC dr=>?_);exact WL (Lp m a x C l) (WG l.length 0 ac ac ac ac ac ⟨rfl,rfl,(WG [] H1 _ oV 0 l.length cs ⟨rfl,dr,w0,rfl,dp,Ke,y,hq,⋯,aR _,aR _,r⟩),aR _⟩) ?_;intro n σ H2 x';let(i,c4,c5,c6,c7,c8,rfl,rfl,(ts,G,A',W,N,f,cs,rfl,gt,wr,rfl,ar,ok,y,hq,hN,gd,gl,r),ez):=x';let sG:aU G (bD G C (.lst (iv ts))):=aU.new gt;let B:dL K (bD G C (.lst (iv ts))) a (iv l):=sG.seq ar.sq;exact WL _ rfl (WL _ rfl (WJ a _ rfl (.inl B) (WJ _ _ rfl rfl (WL _ rfl ?_))));rw[fw];exact fO (λc=>?_) λc=>?_
 ·let c:i<l.length:=⋯
  let a1:l.drop i=l.getD i 0::l.drop (i+1):=by
   rw[fX c,bh,br c];rfl
  rw[a1] at y;let(f',n,I,t,cc,d,a',O,h',rfl):=Rw y hq;let dK:yk (iv l) (i:Int)=aa (.int (l.getD i 0)):=zd c;generalize l.getD i 0=p at *;let dT:=O.nr;rw[bC] at dT;rw[aK] at hN;exact(λσ' H'=>∃n',n'<l.length-i/\Lp m a A'.a C l n' σ' H',λσ' H' h=>h,?_);exact WL _ rfl (WL _ rfl (WI a _ _ _ rfl rfl B dK ?_));exact WL _ rfl (WJ _ _ rfl rfl (WL _ rfl (WI _ _ _ _ rfl rfl (ms.S _) O.sz (WJ _ _ rfl rfl ?_))));exact WL _ rfl (WL _ rfl (WJ _ _ rfl rfl (WL _ rfl (WL _ rfl (WL _ rfl (WJ a _ rfl B λq fq=>?_))))));rw[show((i:Int)+1)=((i+1:Nat):Int) by omega,show(((i+1:Nat):Int)+(n:Int))=((i+1+n:Nat):Int) by omega,Gs,show i+1+n-(i+1)=n by omega];unfold CA;dsimp only;exact Mc (t:=NK _ _ _) (λσ' H'=>∃(e:Nat) (b:Addr) (c7:Option V),σ'=[aa (.ref a),aa (.ref A'.a),aa (.ref C),aa (.int i),aa (.int p),aa (.int e),aa (.ref b),c7,c8]/\aU (bD G C (.lst (iv ts))) H'/\H' b=aa (.lst (iv I))/\bD G C (.lst (iv ts)) b=ac/\l.drop e=t/\i+I.length<e/\e<=l.length) (λD' b2=>?_) ?_
  ·let sq:=aU.new (o:=.lst (iv ((l.drop (i+1)).take n))) fq;exact WL _ rfl (WN _ _ rfl (.inr (ms.W _)) rfl ⟨rfl,WL _ rfl ?_⟩);show if K9 (V.int p) (iv [0,16])=ae then _ else _
   rw[Ko];let a2:((l.drop (i+1)).take n).length=n:=by rw[cO,bC];omega
   exact fO (λcw=>?_) λcw=>?_
   ·rcases O.form with⟨c',_⟩|⟨_,q0,r',a3,gT,b3,en,et⟩
    ·exact aB cw c'
    let L:r'=l.drop (i+1+n+1):=by
     have:=congrArg List.tail a3;rw[List.tail_drop,iF] at this;rw[show i+1+n+1=i+1+(n+1) by omega];exact this.symm
    let b5:i+1+n<l.length:=by
     have:=congrArg mz a3;rw[bC,bC,aK] at this;omega
    let b6:yk (iv l) ((i+1+n:Nat):Int)=aa (.int q0):=by
     rw[zd b5];let h0:=congrArg (λz=>z[0]?) a3;simp only[List.getElem?_drop,jR] at h0;rw[bh,show i+1+n=i+1+(n+0) by omega,h0];rfl
    rw[L,bC] at b3;obtain⟨z,hz⟩:∃z:Nat,q0=(z:Int):=⟨q0.toNat,⋯⟩;subst hz;rw[ye] at b3 en et;exact WL _ rfl (WJ _ _ rfl rfl ?_);exact WL _ rfl (WL _ rfl (WL _ rfl (WI a _ _ _ rfl rfl (sq.seq B) b6 (WJ _ _ rfl rfl ?_))));exact WL _ rfl (WL _ rfl (WL _ rfl (WL _ rfl (WL _ rfl (WL _ rfl (WJ a _ rfl (sq.seq B) λq2 b7=>?_))))));rw[show(((i+1:Nat):Int)+(n:Int))=((i+1+n:Nat):Int) by omega,show(((i+1+n:Nat):Int)+1)=((i+1+n+1:Nat):Int) by omega,show(((i+1+n+1:Nat):Int)+(z:Int))=((i+1+n+1+z:Nat):Int) by omega,Gs,show i+1+n+1+z-(i+1+n+1)=z by omega];let b8:=sq.trans (aU.new (o:=.lst (iv ((l.drop (i+1+n+1)).take z))) b7);let bb:((l.drop (i+1+n+1)).take z).length=z:=by rw[cO,bC];omega
    exact WK q q2 _ _ rfl rfl (aU.new b7 _ _ ak) ak (by rw[fw,fw,a2,bb];exact Ho ⋯) λq3 bk=>?_;exact b2 _ _ (WQ (i+1+n+1+z) q3 _ rfl (b8.trans (aU.new bk)) ?_ (b8.free bk) ⟨?_,?_,⋯⟩)
    ·rw[ak,en,L];unfold iv;rw[bU]
    ·rw[et,L,iF]
    ·rw[en,L,aQ,a2,bb];omega
   ·rcases O.form with⟨_,en,et⟩|⟨c',_⟩
    ·exact b2 _ _ (WQ (i+1+n) q _ rfl sq ?_ fq ⟨?_,?_,⋯⟩)
     ·rw[ak,en]
     ·rw[et,iF]
     ·rw[en,a2];omega
    ·exact aB c' cw
  ·intro σ' H3 x';let(e,b,c7,rfl,s3,gb,fb,e8,h6,e9):=x';let bl:=Kk gt s3;let eb:H3 C=aa (.lst (iv ts)):=s3 _ _ ak;let bm:b≠C:=λz=>by rw[z,ak] at fb;cases fb
   let ec:G b=ac:=by rw[aF bm] at fb;exact fb
   let ed:=O.le;let h7:=O.cn;let F:=HD ok ⋯ d ⋯;let ee:AR K (vi H3 C) A'.rg a (iv l):=ar.step (Kp.of bl) λ_ h=>.inl h
   exact WL _ rfl (WL _ rfl (WL _ rfl (WB C (iv ts) ⟨eb,WC _ _ p ⟨rfl,WF A' W N b I d ⟨rfl,wr.same bl,ok,⋯,by rw[jL bm];exact gb,wr.fresh ec,O.pa,ed,λH4 A2 p4 w4 ea eg eh f4 g4 bu=>?_⟩⟩⟩)));let bx:p4≠C:=λz=>by rw[z,bu] at g4;cases g4
   let ei:bD H4 C (.lst (iv ts)) p4=aa (.lst (iv (b9 W d).2)):=by rw[aF bx];exact g4
   let hb:=F.an;let h1:ts.length+1+(b9 W d).2.length<=(N+1)*50000:=⋯
   exact WU _ rfl (.inl ⟨rfl,_,dL.of ak⟩) (WL _ rfl (WJ p4 _ rfl (.inl (dL.of ei)) (WQ C _ _ rfl rfl ak (by rw[fw];exact Ho (n:=ts.length+1) ⋯) ?_)));rw[je,fw];exact WU _ rfl (.inl ⟨rfl,_,dL.of ak⟩) (WL _ rfl (WK C p4 _ _ rfl rfl ak (by rw[aF bx];exact g4) (by rw[aQ,fw,fw];exact Ho (n:=ts.length+1+(b9 W d).2.length) ⋯) ?_));rw[je];let ej:iK W cc=b9 W d:=by
    unfold iK;rw[O.co]
   exact(_,rfl,l.length-e,⋯,WF e _ _ _ _ _ ⟨rfl,rfl,(WG (ts++((b9 W d).2.length:Int)::(b9 W d).2) H4 A2 _ (N+1) f' a' ⟨?_,bu,w4,ea,ee.step eg eh,F.ok,by rw[e8];exact h',λx hx=>hq x (au _ hx),⋯,by have:=F.mi;omega,by rw[aQ,aK];omega,?_⟩),e9⟩)
   ·unfold iv;rw[bU,g0];rfl
   ·rw[r,g0];show ts++Ef ((iK W cc).2::A6 iK (iK W cc).1 a')=_;rw[ej];rfl
 ·let c:i=l.length:=⋯
  subst c;rw[rO] at y;let y:aa []=aa cs:=by
   cases f<;>exact y
  cases y;let r:mZ l=ts:=by rw[r];exact dM _
  rw[<-r];let(ek,J,_):=wr.tb;rw[wr.tbl] at J;exact(_,rfl,k _ C ek ak ?_);rw[aF (aL J gt)];exact J
end
end SA
namespace L2
open PySem PySem.Spec PyProof.Rows PySem.W
theorem E7 {P:aO}{w:World}{K:am}{mg mb:Str->Option ag}{k:Nat}{fa cP tP:Addr}{fd:gr}{ps:List Str}{sp:Sp}{a:aw}{f:List ag}{ds:List jv}{R:PySem.W.WRecords}{cl:Str->Option Addr}{d0:jv}
  (KX:K.In a.heap) (a1:a.heap.Ns eM mg) (hb:a.heap.Ns builtinsNs mb) (bx:∀x:Str,x≠ "__name__"->mb x=qK x) (a2:a.heap.NoLimit) (hg:a.gens= #[])
  (L:vf w.params a.heap f ds) (a3:xY ds=ae) (b':∀d∈ds,d.weight<=1048576) (hr:jC k Kx)
  (hC:rD a.heap cP tP) (hT:a.heap.get? tP=aa (zx #[])) (c2:noTabs K=ae) (hB:a.heap.BuiltinsAt mg tP)
  (F:∀base:Heap,K.In base->base.Ns eM mg->rD base cP tP->base.BuiltinsAt mg tP->du P w K mg base jw k fa fd ps sp) (M:∀(s:aw) (us:List ag),us.length=ps.length->Ks s fd ⟨us,[]⟩ (ps.zip us)) (a4:ds.length=ps.length)
  (c3:∀(j H:Hp) (xs:List V),aU j H->j tP=ac->H tP=aa (.tbl #[])->K.lookup tP=ac->rJ K j xs ds->sp xs H (λv H'=>Dw K H' v d0) λ_ _ _=>False):
  qM (bd P w) Kx (.call (.ref fa) ⟨f,[]⟩) (λr s'=>∃u as,r=.ok (.ret u)/\xj R cl s'.heap u d0 as/\OldK a.heap s'.heap/\s'.os=a.os/\vc s'.gens) a:=by
 let(A,ho,ar):=vU ds f L a3 b';let hO:MR (qD K a.heap A):=G7 ar;let C:oE P w (qD K a.heap A) a.heap:=Ln ar;let hS:=By KX ar ds f L a3 ho;let hV:=qC ho;let ab:∀b u,qD K a.heap A b=aa u->K.lookup b=ac:=λb u q=>(yp ar q).1
 let N:∀{b:Addr} {o:Obj},a.heap.get? b=aa o->(∀O n,o.data≠.seq O n)->qD K a.heap A b=ac:=λ{b o} e d=>by
  cases q:qD K a.heap A b with
  |none=>rfl
  |some u=>
   obtain⟨_,vs,_,_,⟨Q,_⟩|⟨Q,_⟩⟩:=yp ar q
   ·rw[Q] at e;cases e;exact aB rfl (d _ _)
   ·rw[Q] at e;cases e;exact aB rfl (d _ _)
 let h0:qD K a.heap A tP=ac:=N hT λ_ _ z=>by cases z
 let T:K.lookup tP=ac:=by
  cases q:K.lookup tP with
  |none=>rfl
  |some o=>
   let h2:=fV.mp c2 (tP,o) (mem_of_lookupK q);let e:=KX _ _ q;rw[hT] at e;cases e;exact aB (show af=ae from h2) ba
 generalize qD K a.heap A=j at hO C hS ab N h0;let sH:aU j (bD j tP (.tbl #[])):=aU.new h0;let Y:oE P w (bD j tP (.tbl #[])) a.heap:=λb u q=>by
  by_cases c:b=tP
  ·subst c;rw[ak] at q;cases q;exact hT
  ·rw[aF c] at q;exact(C b u q).stay (λ_ _ _ e=>e) (λd e=>sH _ _ e) λd ys e=>sH _ _ e
 let y:∀{b:Addr} {o:Obj},a.heap.get? b=aa o->(∀O n,o.data≠.seq O n)->o≠zx #[]->bD j tP (.tbl #[]) b=ac:=λ{b o} e d n=>by
  let c:b≠tP:=λz=>by rw[z,hT] at e;exact n (a6 e).symm
  rw[aF c];exact N e d
 let hK:∀b u,bD j tP (.tbl #[]) b=aa u->K.lookup b=ac:=λb u q=>by
  by_cases c:b=tP
  ·rw[c];exact T
  ·rw[aF c] at q;exact ab b u q
 let a0:bD j tP (.tbl #[]) tP=aa (.tbl #[]):=ak;let al:∀b,b≠tP->bD j tP (.tbl #[]) b=ac\/∃o u,bD j tP (.tbl #[]) b=aa (.frz o u):=λb c=>by rw[aF c];exact hO b
 let D:=c3 j (bD j tP (.tbl #[])) (f.map B6) sH h0 a0 T hS;generalize bD j tP (.tbl #[])=H at Y y hK a0 al D;let i:∀{b:Addr} {o:Obj},a.heap.get? b=aa o->H b=ac->(yN a.heap H).get? b=aa o:=λe n=>Iw e n
 let B:∀{b:Addr} {m:Str->Option ag},a.heap.Ns b m->(yN a.heap H).Ns b m:=λ{b m} ⟨o,es,ep,e,d,r⟩=>(WS o es ep (i e (y e (λ_ _ z=>by rw[d] at z;cases z) λz=>by rw[z] at d;cases d)) d r)
 let nK:∀b o,K.lookup b=aa o->H b=ac:=λb o e=>by
  cases q:H b with
  |none=>rfl
  |some u=>rw[hK b u q] at e;cases e
 let an:K.In (yN a.heap H):=λb o e=>i (KX b o e) (nK b o e)
 let hM:RG K mg (yN a.heap H):=⟨an,B a1,⟨mb,B hb,bx⟩,let ⟨mc,h1,h2⟩:=a2;⟨mc,B h1,h2⟩⟩;let e0:wM P w K mg (yN a.heap H) Kx [] a H:=⟨rfl,hM,λb o e=>KU e,pI (GL _ _),trivial,λb hb=>aB (show b∈([]:List Addr) from hb) (by simp),Y,.of_eq hg⟩;let hl:f.length=ps.length:=by rw[pQ L];exact a4
 let c8:rD (yN a.heap H) cP tP:=by
  let(o,vs,E,tf,l,tg,ap,I,tt,e,c,d,r):=hC;exact WG o vs E tf l tg ap (WN I tt (i e (y e (λ_ _ z=>by rw[d] at z;cases z) λz=>by rw[z] at c;cases c)) c d r)
 let c9:(yN a.heap H).BuiltinsAt mg tP:=by
  let(bm,o,b1,b2,b3,b4,b5,b6,b7,b8):=hB;exact(bm,o,b1,b2,b3,b4,i b5 (y b5 (λ_ _ z=>by rw[b8] at z;cases z) λz=>by rw[z] at b8;cases b8),b6,b7,b8)
 exact i9 ((F _ an (B a1) c8 c9).run Kx [] a H ⟨f,[]⟩ f (f.map B6) _ _ hr e0 (M a f hl) hV D) λr s' x=>?_
 cases r with
 |error e=>exact dE x
 |ok fl=>
  cases fl with
  |next=>exact dE x
  |brk=>exact dE x
  |cont=>exact dE x
  |ret u=>
   let(v,H',os,av,un,p,r',q):=x;let kept:∀b o,b≠tP->a.heap.get? b=aa o->s'.heap.get? b=aa o:=λb o c e=>by
    cases q2:H b with
    |none=>exact un.keep b o e q2 (by intro z;exact aB (show b∈([]:List Addr) from z) (by simp)) (by simp)
    |some u2=>
     rcases al b c with z|⟨ob,u3,z⟩
     ·rw[q2] at z;cases z
     ·let z2:=un.frzs b ob _ z;let(e1,_):=Y b _ z;let(Q,_):=p b _ z2;rw[e] at e1;cases e1;exact Q
   let cc:K.In s'.heap:=λb o e=>kept b o (λz=>by rw[z,T] at e;cases e) (KX b o e)
   let(as,cd):=Dw.reads (R:=R) (cl:=cl) p cc d0 v u q r';let(J,hm):=un.tbls tP _ a0;let ax:s'.heap.get? tP=aa {cls:=.none,data:=.fields (#[]++J)}:=p tP _ hm;exact(u,as,rfl,cd,⟨λb o e=>?_,λb o e=>?_⟩,os,av)
   ·by_cases c:b=tP
    ·subst c;rw[hT] at e;cases e;let(o,vs,E,tf,l,tg,ap,I,tt,e1,Q,e3,e4,r):=hC;exact .inr (.inl ⟨(WT cP o vs e1 Q e3 e4),rfl,#[],J,rfl,ax⟩)
    ·exact .inl (kept b o c e)
   ·by_cases c:b=tP
    ·exact(_,by rw[c];exact ax)
    ·exact(o,kept b o c e)
def E8 {r:OpenSpec}{k:Nat}{q:aO}{c:List Str}{XP:(Str->Option ag)->Heap->Prop}{C:World->Heap->Prop}{d:DefRec}{K:B1->am}{ps:List Str}
  (e:r.wellSaid=ae) (i:r.args.length=ps.length) (hr:jC k Kx) (hY:∀(w:World) (h:Heap),C w h->(K w.params).In h) (D:∀w:World,noTabs (K w.params)=ae)
  (F:∀(w:World) (mg E:Str->Option ag) (j:ExcName->Option ag) (B:Addr) (h:Heap),C w h->(K w.params).In h->Top q (looseW q c) j mg E h->mg d.name=aa (.ref B)->
   ∃(fd:gr) (cP tP:Addr) (sp:Sp),(∀(s:aw) (us:List ag),us.length=ps.length->Ks s fd ⟨us,[]⟩ (ps.zip us))/\rD h cP tP/\h.get? tP=aa (zx #[])/\h.BuiltinsAt mg tP/\
    (∀base:Heap,(K w.params).In base->base.Ns eM mg->rD base cP tP->base.BuiltinsAt mg tP->du r.prog w (K w.params) mg base jw k B fd ps sp)/\
    (∀(l H:Hp) (xs:List V) (a:sk r.args),aU l H->l tP=ac->H tP=aa (.tbl #[])->(K w.params).lookup tP=ac->lO.withinAll r.args a=ae->yh r.args r.asked a=ae->rJ (K w.params) l xs (pz r.args a)->
     sp xs H (λv H'=>Dw (K w.params) H' v (r.ret.enc (yh r.args r.f a))) λ_ _ _=>False)):
  PySem.W.WalkOS q c XP C r d [] (λf vs=>PySem.call f vs):=by
 intro w I s₁ mg E G Y B o pm cd an dV kV ho hd ap hD J hg p a2 as x y av L ax;let(a,e1,e2):=PySem.W.os_pre_some x;let(e3,A):=lO.encAll_of_decAll r.args p a e1;subst e3;let KX:=hY w _ Y;let(fd,cP,tP,sp,hb,hC,hT,hB,hF,M):=F w mg E _ B _ Y KX G.T J;exact PySem.W.enter_call (i9 (E7 (R:=[]) (cl:=classAt I.heap) (d0:=r.ret.enc (yh r.args r.f a)) KX G.T.g G.T.b G.T.builtins G.T.nolimit hg L (As _ _) (yY y) hr hC hT (D w) hB hF hb (by rw[yZ];exact i)
  (λl H xs N O Q h4 hS=>M l H xs a N O Q h4 A e2 hS)) λr' s' hq=>?_)
 let(u,a1,rfl,N,O,Q,h4):=hq;exact(.inl (WQ u _ a1 rfl (λ_=>rfl) N ((OpenSpec.post_iff e A _ _).mpr rfl) λz=>eG (show af=ae from z)),O,Q,h4)
end L2
namespace SA
open PySem PySem.Spec PyProof.Rows L2
variable {K:am} {h:Heap} {mg mb:Str->Option ag} {f:Addr} {od:Option Addr} {osl sl:Array (Option ag)} {mean:ExcName->Option ag}
def lk {α:Type}[Inhabited α](l:List (Nat×α))(n:Nat):α:=(l.lookup n).getD default
def Bn (x q:Str)(st:Stmt)(ps:List Str):Prop:=∀(kV a d:ag) (e:Option Addr) (b f:ag) (c:List ag),c.length=ps.length->bindArgs (jm x q (pP st) (lH st) (aP st) .none kV a d e b f) ⟨c,[]⟩=pure (ps.zip c)
def dj (x:Str)(i:Nat)(ps:List Str){o:ag}{e:Option Addr}{kV d j b ct:ag}(X:K.In h)(G:h.Ns eM mg)(p:Bn x x (ig i) ps:=by intro _ _ _ _ _ _ us q;rcases us with _|⟨_,_|⟨_,_|⟨_,_|⟨_,_|⟨_,_|⟨_,_|_⟩⟩⟩⟩⟩⟩<;>first|rfl|(exfalso;simp only[aK,ju] at q;omega))(a:lc K eM x=aa (aa (.ref f)):=by k_is)(l:K.lookup f=aa ⟨o,od,.func (jm x x (pP (ig i)) (lH (ig i)) (aP (ig i)) .none kV d j e b ct),osl⟩:=by k_is)(c:pw K b x=ae:=by k_is)(k:iz K (.ref f)=ae:=by k_is):
  Df K mg x i ps f (jm x x (pP (ig i)) (lH (ig i)) (aP (ig i)) .none kV d j e b ct):=
 ⟨Jb l c k,uK X G a,.all (p kV d j e b ct)⟩
def zo (x q:Str)(i:Nat)(ps:List Str){C:Addr}{o:ag}{e:Option Addr}{kV d j b ct:ag}(X:K.In h)(G:h.Ns eM mg)(p:Bn "__init__" q (jX (ig i) 0) ps:=by intro _ _ _ _ _ _ us r;rcases us with _|⟨_,_|⟨_,_|⟨_,_|⟨_,_|⟨_,_|⟨_,_|_⟩⟩⟩⟩⟩⟩<;>first|rfl|(exfalso;simp only[aK,ju] at r;omega))(a:lc K eM x=aa (aa (.ref C)):=by k_is)(s:iy K (.ref C) "__init__"=aa (aa (.ref f)):=by k_is)(u:PySem.W.isFn K (.ref f)=ae:=by k_is)(l:K.lookup f=aa ⟨o,od,.func (jm "__init__" q (pP (jX (ig i) 0)) (lH (jX (ig i) 0)) (aP (jX (ig i) 0)) .none kV d j e b ct),osl⟩:=by k_is)(c:pw K b q=ae:=by k_is)(k:iz K (.ref f)=ae:=by k_is)(v:qL K C Str.empty=ae:=by k_is)(w:qc K C=ae:=by k_is)(y:wz K C=ae:=by k_is)(z:iy K (.ref C) "__setattr__"=aa (aa (.builtin "object.__setattr__")):=by k_is)(mk:yd K C=ae:=by k_is)(A:iz K (.ref C)=ae:=by k_is):
  CF K mg x q i C f (jm "__init__" q (pP (jX (ig i) 0)) (lH (jX (ig i) 0)) (aP (jX (ig i) 0)) .none kV d j e b ct) ps:=
 ⟨⟨v,w,y,z⟩,uK X G a,⟨mk,s,u,A⟩,Jb l c k,.all (p kV d j e b ct)⟩
def iS (x:Str)(i:Int){t:Tok}(X:K.In h)(G:h.Ns eM mg)(a:lc K eM x=aa (aa (.int i t)):=by k_is):GI mg x i:=⟨t,uK X G a⟩
def tN (n:Str)(X:K.In h)(G:h.Ns eM mg)(a:lc K eM n=aa ac:=by k_is):mg n=ac:=PySem.W.mg_none_of X G a
def zp (n:Str){v:ag}(X:K.In h)(G:h.Ns eM mg)(a:lc K eM n=aa (aa v):=by k_is):mg n=aa v:=uK X G a
def RA:Bn "answers" "answers" (ig 127) ["calls"]:=λ_ _ _ _ _ _ a b=>match a,b with|[_],_=>rfl
open PySem PySem.Spec PyProof.Rows L2 PySem.W
def O1 {q:aO}{a:List Str}{tP:Addr}(T:Top q a mean mg mb h)(hT:h.get? tP=aa (zx #[])):h.BuiltinsAt mg tP:=by
 let(i,j,l,p,b,f,r,c):=T.bmain;exact(i,j,l,p,λz=>?_,λz=>?_,b,f,r,c)
 ·let(o,s,u,e,d,_):=T.g;rw[z,e] at b;cases b;rw[d] at c;cases c
 ·rw[z,hT] at b;cases b;cases f
def O2 {w:World}{C:Addr}(m:Mo K mg)(J:Mx m)(mb:Mb m)(ms:Ms m)(i:(m.fd 112).code=.ref m.cP)(j:m.fn 127=C)(L:rD h m.cP m.tP)(hT:h.get? m.tP=aa (zx #[]))(M:h.BuiltinsAt mg m.tP):
  ∃(fd:gr) (cP tP:Addr) (sp:Sp),(∀(s:aw) (us:List ag),us.length=(["calls"]:List Str).length->Ks s fd ⟨us,[]⟩ ((["calls"]:List Str).zip us))/\rD h cP tP/\h.get? tP=aa (zx #[])/\h.BuiltinsAt mg tP/\
    (∀base:Heap,K.In base->base.Ns eM mg->rD base cP tP->base.BuiltinsAt mg tP->du bG.prog w K mg base jw 9 C fd ["calls"] sp)/\
    (∀(c H:Hp) (xs:List V) (a:sk bG.args),aU c H->c tP=ac->H tP=aa (.tbl #[])->K.lookup tP=ac->lO.withinAll bG.args a=ae->yh bG.args bG.asked a=ae->rJ K c xs (pz bG.args a)->
     sp xs H (λv D=>Dw K D v (bG.ret.enc (yh bG.args bG.f a))) λ_ _ _=>False):=by
 subst j;exact WK (m.fd 127) m.cP m.tP (Np m) (λs us N=>?_) L hT M (λbase _ _ l r=>Rz m J ⟨i,l,r⟩ mb ms) ?_
 ·let(oc,od,kV,x,O,Q,y,T,osl,e,_):=m.UT.F.ex;rw[e];exact .of_eq (RA kV x O Q y T us N)
 ·intro c H xs a Y h0 z A B b hx
  cases hx with
  |cons h1 h2=>
   cases h2
   cases h1 with
   |lst d ha=>
    let e:=L2.FR a.1 _ ha;subst e;let q:((lO.inLen 0 30000 a.1&&a.1.all (lO.inInt (-3000000000) 3000000000))&&ae)=ae:=B;rw[ca,ca] at q;exact WQ _ a.1 (#[]) rfl (Y.seq d) ?_ ((lO.inNat_iff.mp q.1.1).2) ⟨b,z,?_,rfl,λD p a5 hp _=>.lst (L2.dL.of hp) (L2.FQ _)⟩
    ·rintro rfl;rcases d with d|⟨o,_,_,E,_⟩
     ·let(u,I):=Rd.ex d;rw[h0] at I;cases I
     ·rw[A] at E;cases E
    ·exact dR
abbrev zP {x:Str}{i:Nat}{ps:List Str}{fd:gr}(_:Df K mg x i ps f fd):Addr:=f
abbrev ad {x:Str}{d:Addr}(_:mg x=aa (.ref d)):Addr:=d
abbrev Uh {c p:Addr}(_:rD h c p):Addr:=p
abbrev Ui {c p:Addr}(_:rD h c p):Addr:=c
def jy (y:Str){x q:Str}{i:Nat}{C:Addr}{fd:gr}{ps:List Str}(_:CF K mg x q i C f fd ps)(h:iy K (.ref C) y=aa ac:=by k_is):eW K C y:=h
def O3 (_:K.In h){x:Str}{C:Addr}(_:mg x=aa (.ref C)){nm q:Str}{N:Addr}{bs:List ag}{a:Bool}{sn:List Str}{sub:List ag}{ab:Bool}{col:Option Bool}{dd:Option Addr}{k0 k1 k2 k3 k5:Option ag}(l:K.lookup C=aa (excClassObj nm q C N bs [.type "Exception",.type "BaseException",.type "object"] a sn sub ab col dd k0 k1 k2 k3 k5 "Exception.__new__"))(h1:PySem.W.nsOkIn K N=ae)(b:lc K N "__init__"=aa ac):LK K C:=
 (WG nm q N bs a sn sub (WG ab col dd k0 k1 k2 k3 ⟨k5,l,h1,b⟩))
def BS (_:K.In h){x:Str}{d:Addr}(_:mg x=aa (.ref d)){l:List (Int×Addr)}{es:Array ji}{ep:Nat}(lk:K.lookup d=aa {cls:=.type "dict",data:=.dict es ep})(a:(d==iG)=af)(b:a9 (λ(e:ji) (p:Int×Addr)=>e.hash=pC p.1/\(∃t,e.key=.int p.1 t)/\e.val=.ref p.2) es.toList l):BC K d l:=⟨a,es,ep,lk,b⟩
def Nr (_:K.In h){x:Str}{d:Addr}(_:mg x=aa (.ref d)){l:List Int}{e:Option Addr}{a:Array ag}{n:Nat}(lk:K.lookup d=aa ⟨.type "tuple",e,.seq a n,sl⟩)(b:a.size<=aI)(c:a9 (λ(i:Int) (u:ag)=>∃t,u=.int i t) l a.toList):∀H,o4 K H d (iv l):=λH=>
 .inr (WQ _ a n lk rfl rfl b (by
  clear lk b;generalize a.toList=j at c
  induction c with
  |nil=>exact .nil
  |cons h _ f=>exact .cons h f))
def O4 {q:aO}{b:List Str}{cP tP:Addr}{j:ag}{fd:gr}{c:ag}{d:Option Addr}{vs:Array ag}{i:Array (Option ag)}(X:K.In h)(T:Top q b mean mg mb h)(o:((recsOf q).find? (λe=>e.name==("in_turn":Str))).isSome=ae)(a:lc K eM "in_turn"=aa (aa (.ref f)))(l:K.lookup f=aa ⟨j,od,.func fd,sl⟩)(hc:fd.code=.ref cP)(p:K.lookup cP=aa ⟨c,d,.fields vs,i⟩)(r:vs[11]?=aa (.ref tP)):rD h cP tP/\h.get? tP=aa (zx #[]):=
 tab_of T X (Option.some_get o).symm (by unfold tabIn;rw[a];dsimp only;rw[l];dsimp only;rw[hc];dsimp only;rw[p];dsimp only;rw[r])
end SA
end
open PySem PySem.W PyProof.Rows
set_option maxRecDepth 100000 in
set_option maxHeartbeats 0 in
theorem PySem.Challenge.cw_seenareas_s01_answers_holds : PySem.Challenge.rw_seenareas_s01_answers.Holds := by
 w_on;k_headS;(case hw=>exact⟨[.list [.int 20]],by decide +kernel,by decide +kernel⟩)
 k_fillS
 refine L2.E8 (r:=bG) (k:=9) (ps:=["calls"]) (by decide +kernel) rfl ⟨rfl,by decide,by decide⟩ (λw h Y=>PySem.W.kIn_of Y) (λw=>by kernel_rfl) ?theF
 case theF=>
  intro w mg mb mean fa h Y KX T hmg;have d28:=SA.dj "are_places" 28 ["numbers"] KX T.g;have d29:=SA.dj "are_values" 29 ["numbers"] KX T.g;have d30:=SA.dj "is_state" 30 ["numbers"] KX T.g;have d31:=SA.dj "make_thing" 31 ["world","numbers"] KX T.g;have d32:=SA.dj "drop_thing" 32 ["world","numbers"] KX T.g;have d33:=SA.dj "move_thing" 33 ["world","numbers"] KX T.g;have d34:=SA.dj "set_value" 34 ["world","numbers"] KX T.g;have d35:=SA.dj "put_wall" 35 ["world","numbers"] KX T.g;have d36:=SA.dj "take_wall" 36 ["world","numbers"] KX T.g;have d37:=SA.dj "rank_kind" 37 ["world","numbers"] KX T.g;have d38:=SA.dj "is_player" 38 ["numbers"] KX T.g;have d39:=SA.dj "join_player" 39 ["world","numbers"] KX T.g;have d40:=SA.dj "part_player" 40 ["world","numbers"] KX T.g;have d46:=SA.dj "whole_bytes" 46 ["number"] KX T.g;have d47:=SA.dj "value_bytes" 47 ["value"] KX T.g;have d48:=SA.dj "enters_bytes" 48 ["n","thing"] KX T.g;have d49:=SA.dj "changes_bytes" 49 ["n","told","thing"] KX T.g;have d50:=SA.dj "leaves_bytes" 50 ["n"] KX T.g;have d51:=SA.dj "stream_bytes" 51 ["tick","messages"] KX T.g;have d58:=SA.dj "take_byte" 58 ["source"] KX T.g;have d59:=SA.dj "take_whole" 59 ["source"] KX T.g;have d60:=SA.dj "take_value" 60 ["source"] KX T.g;have d61:=SA.dj "take_values" 61 ["source","indexes"] KX T.g;have d62:=SA.dj "take_indexes" 62 ["source"] KX T.g;have d63:=SA.dj "take_message" 63 ["source"] KX T.g;have d64:=SA.dj "read_stream" 64 ["row"] KX T.g;have d66:=SA.dj "are_bytes" 66 ["numbers"] KX T.g;have d67:=SA.dj "is_fitting" 67 ["things","message"] KX T.g;have d68:=SA.dj "hear_message" 68 ["things","message"] KX T.g;have d69:=SA.dj "things_behind" 69 ["mirror","messages"] KX T.g;have d70:=SA.dj "feed_mirror" 70 ["world","numbers"] KX T.g;have d71:=SA.dj "clear_mirror" 71 ["world","numbers"] KX T.g;have d74:=SA.dj "cross" 74 ["a","b"] KX T.g;have d75:=SA.dj "dot" 75 ["a","b"] KX T.g;have d76:=SA.dj "crossing" 76 ["upper","part","turn"] KX T.g;have d77:=SA.dj "is_on" 77 ["x","y","wall"] KX T.g;have d78:=SA.dj "overlap" 78 ["along","offset","wall_along"] KX T.g;have d79:=SA.dj "meeting" 79 ["line","wall"] KX T.g;have d80:=SA.dj "is_less" 80 ["share","other"] KX T.g;have d81:=SA.dj "first_meeting" 81 ["line","walls"] KX T.g;have d82:=SA.dj "least_terms" 82 ["share"] KX T.g;have d84:=SA.dj "is_within" 84 ["place","other","radius"] KX T.g;have d85:=SA.dj "is_hidden" 85 ["walls","place","other"] KX T.g;have d86:=SA.dj "seen_alone" 86 ["world","player"] KX T.g;have d87:=SA.dj "seen_with_team" 87 ["world","player"] KX T.g;have d88:=SA.dj "look" 88 ["world"] KX T.g;have d92:=SA.dj "with_count" 92 ["things"] KX T.g;have d93:=SA.dj "in_full" 93 ["things"] KX T.g;have d94:=SA.dj "what_is_seen" 94 ["world","numbers"] KX T.g;have d95:=SA.dj "what_waits" 95 ["world","numbers"] KX T.g;have d96:=SA.dj "what_was_told" 96 ["world","numbers"] KX T.g;have d97:=SA.dj "what_is_around" 97 ["world","numbers"] KX T.g;have d98:=SA.dj "what_is_met" 98 ["world","numbers"] KX T.g;have d99:=SA.dj "what_is_mirrored" 99 ["world","numbers"] KX T.g;have UD:=SA.dj "what_is_there" 100 ["world","numbers"] KX T.g;have U6:=SA.dj "count_squares" 101 ["things"] KX T.g;have UE:=SA.dj "world_in_brief" 102 ["world","numbers"] KX T.g;have UG:=SA.dj "what_is_due" 108 ["player","n"] KX T.g;have US:=SA.dj "due_things" 109 ["player"] KX T.g;have U7:=SA.dj "waiting_since" 110 ["player","tick"] KX T.g;have U8:=SA.dj "kind_for_rank" 111 ["player","n"] KX T.g;have U9:=SA.dj "in_turn" 112 ["player","ranks","since"] KX T.g;have Va:=SA.dj "message_due" 113 ["player","n"] KX T.g;have Vb:=SA.dj "mark_told" 114 ["player","n"] KX T.g;have Vc:=SA.dj "tell_in_turn" 115 ["player","turn"] KX T.g;have Vd:=SA.dj "still_waiting" 116 ["player","since"] KX T.g;have Ve:=SA.dj "tell" 117 ["player","ranks","tick"] KX T.g;have UH:=SA.dj "run_tick" 120 ["world","numbers"] KX T.g;have UI:=SA.dj "last_stream" 121 ["world","numbers"] KX T.g;have Vf:=SA.dj "perform" 126 ["world","call","numbers"] KX T.g;have UT:=SA.dj "answers" 127 ["calls"] KX T.g;have k11:=SA.zo "Thing" "Thing.__init__" 11 ["self","kind","state"] KX T.g;have Up:=SA.jy "kind" k11;have Ul:=SA.jy "state" k11;have k12:=SA.zo "Player" "Player.__init__" 12 ["self","own","team","inner","outer","budget"] KX T.g;have UU:=SA.jy "own" k12;have UJ:=SA.jy "team" k12;have Vg:=SA.jy "inner" k12;have Vh:=SA.jy "outer" k12;have Vi:=SA.jy "budget" k12;have Uy:=SA.jy "alone" k12;have Ur:=SA.jy "seen" k12;have Us:=SA.jy "told" k12;have Uz:=SA.jy "waiting" k12;have UK:=SA.jy "sent" k12;have k13:=SA.zo "Mirror" "Mirror.__init__" 13 ["self","tick","things"] KX T.g;have UV:=SA.jy "tick" k13;have UW:=SA.jy "things" k13;have k14:=SA.zo "World" "World.__init__" 14 ["self"] KX T.g;have UA:=SA.jy "tick" k14;have Um:=SA.jy "things" k14;have Ut:=SA.jy "walls" k14;have UX:=SA.jy "ranks" k14;have Uo:=SA.jy "players" k14;have Uw:=SA.jy "mirror" k14;have k55:=SA.zo "Source" "Source.__init__" 55 ["self","row"] KX T.g;have UY:=SA.jy "row" k55;have UC:=SA.jy "at" k55;have k56:=SA.zo "Message" "Message.__init__" 56 ["self","what","n","kind","fresh"] KX T.g;have UL:=SA.jy "what" k56;have UZ:=SA.jy "n" k56;have Vj:=SA.jy "kind" k56;have UM:=SA.jy "fresh" k56;have k57:=SA.zo "Stream" "Stream.__init__" 57 ["self","tick","messages"] KX T.g;have U0:=SA.jy "tick" k57;have U1:=SA.jy "messages" k57;have Uq:=SA.iS "MISSING" (-1) KX T.g;have Uu:=SA.iS "WRONG" (-2) KX T.g;have Vk:=SA.iS "TAKEN" (-3) KX T.g;have U2:=SA.iS "FULL" (-4) KX T.g;have Vt:=SA.iS "ENDED" (-5) KX T.g;have Vu:=SA.iS "UNREADABLE" (-6) KX T.g;have Vv:=SA.iS "OVERTAKEN" (-7) KX T.g;have Vw:=SA.iS "UNFITTING" (-8) KX T.g;have U3:=SA.iS "KINDS" 8 KX T.g;have UN:=SA.iS "STATE_SIZE" 8 KX T.g;have Vx:=SA.iS "MOST_THINGS" 64 KX T.g;have Vy:=SA.iS "MOST_WALLS" 32 KX T.g;have Vz:=SA.iS "MOST_PLAYERS" 8 KX T.g;have Vl:=SA.iS "LAST_THING" 9999 KX T.g;have VA:=SA.iS "LAST_PLAYER" 99 KX T.g;have VB:=SA.iS "LAST_TEAM" 9 KX T.g;have Vm:=SA.iS "FARTHEST" 100000 KX T.g;have Vn:=SA.iS "GREATEST_VALUE" 2147483647 KX T.g;have VC:=SA.iS "GREATEST_RANK" 100 KX T.g;have VD:=SA.iS "GREATEST_RADIUS" 10000 KX T.g;have VE:=SA.iS "LEAST_BUDGET" 64 KX T.g;have VF:=SA.iS "GREATEST_BUDGET" 4096 KX T.g;have Ux:=SA.iS "ENTERS" 1 KX T.g;have UO:=SA.iS "CHANGES" 2 KX T.g;have UB:=SA.iS "LEAVES" 3 KX T.g;have VG:=SA.iS "TOO_GREAT" 1099511627776 KX T.g;have VH:=SA.iS "GREATEST_DISTANCE" 200000 KX T.g;have Vo:=SA.iS "SQUARE" 64 KX T.g;have U4:=SA.iS "NOTHING" 0 KX T.g;have VI:=SA.iS "HEAD_ROOM" 8 KX T.g;have VJ:=SA.iS "RANKS_A_TICK" 10 KX T.g;have VL:=SA.iS "LAST_TICK" 100000 KX T.g;have Uk:=SA.tN "len" KX T.g;have UP:=SA.tN "all" KX T.g;have Vp:=SA.tN "range" KX T.g;have Vq:=SA.tN "list" KX T.g;have Vr:=SA.tN "dict" KX T.g;have U5:=SA.tN "set" KX T.g;have Uv:=SA.tN "sorted" KX T.g;have VM:=SA.tN "zip" KX T.g;have Vs:=SA.tN "enumerate" KX T.g;have UQ:=SA.tN "min" KX T.g;have UR:=SA.tN "max" KX T.g;have mN:=SA.zp "NoStream" KX T.g;have mE:=SA.zp "EDITS" KX T.g;have mT:=SA.zp "TICKS" KX T.g;have mM:=SA.zp "MIRRORS" KX T.g;have mQ:=SA.zp "QUERIES" KX T.g;have mS:=SA.zp "SIZES" KX T.g;have mW:=SA.zp "WITH_ROW" KX T.g;have exc:=SA.O3 KX mN (by k_is) (by kernel_rfl) (by k_is);have hE:=SA.BS KX mE (l:=[(0,SA.zP d31),(1,SA.zP d32),(2,SA.zP d33),(3,SA.zP d34),(4,SA.zP d35),(5,SA.zP d36),(6,SA.zP d37),(7,SA.zP d39),(8,SA.zP d40)]) (by k_is) (by decide) (by exact(.cons ⟨rfl,⟨_,rfl⟩,rfl⟩ (.cons ⟨rfl,⟨_,rfl⟩,rfl⟩ (.cons ⟨rfl,⟨_,rfl⟩,rfl⟩ (.cons ⟨rfl,⟨_,rfl⟩,rfl⟩ (.cons ⟨rfl,⟨_,rfl⟩,rfl⟩ (.cons ⟨rfl,⟨_,rfl⟩,rfl⟩ (.cons ⟨rfl,⟨_,rfl⟩,rfl⟩ (.cons ⟨rfl,⟨_,rfl⟩,rfl⟩ (.cons ⟨rfl,⟨_,rfl⟩,rfl⟩ .nil))))))))));have hT:=SA.BS KX mT (l:=[(9,SA.zP UH),(10,SA.zP UI)]) (by k_is) (by decide) (by exact(.cons ⟨rfl,⟨_,rfl⟩,rfl⟩ (.cons ⟨rfl,⟨_,rfl⟩,rfl⟩ .nil)));have hM:=SA.BS KX mM (l:=[(16,SA.zP d70),(18,SA.zP d71)]) (by k_is) (by decide) (by exact(.cons ⟨rfl,⟨_,rfl⟩,rfl⟩ (.cons ⟨rfl,⟨_,rfl⟩,rfl⟩ .nil)));have hQ:=SA.BS KX mQ (l:=[(11,SA.zP d94),(12,SA.zP d95),(13,SA.zP d96),(14,SA.zP d97),(15,SA.zP d98),(17,SA.zP d99),(19,SA.zP UD),(20,SA.zP UE)]) (by k_is) (by decide) (by exact(.cons ⟨rfl,⟨_,rfl⟩,rfl⟩ (.cons ⟨rfl,⟨_,rfl⟩,rfl⟩ (.cons ⟨rfl,⟨_,rfl⟩,rfl⟩ (.cons ⟨rfl,⟨_,rfl⟩,rfl⟩ (.cons ⟨rfl,⟨_,rfl⟩,rfl⟩ (.cons ⟨rfl,⟨_,rfl⟩,rfl⟩ (.cons ⟨rfl,⟨_,rfl⟩,rfl⟩ (.cons ⟨rfl,⟨_,rfl⟩,rfl⟩ .nil)))))))));have hS:=SA.Nr KX mS (l:=SA.Gp) (by k_is) (by decide) (by exact(.cons ⟨_,rfl⟩ (.cons ⟨_,rfl⟩ (.cons ⟨_,rfl⟩ (.cons ⟨_,rfl⟩ (.cons ⟨_,rfl⟩ (.cons ⟨_,rfl⟩ (.cons ⟨_,rfl⟩ (.cons ⟨_,rfl⟩ (.cons ⟨_,rfl⟩ (.cons ⟨_,rfl⟩ (.cons ⟨_,rfl⟩ (.cons ⟨_,rfl⟩ (.cons ⟨_,rfl⟩ (.cons ⟨_,rfl⟩ (.cons ⟨_,rfl⟩ (.cons ⟨_,rfl⟩ (.cons ⟨_,rfl⟩ (.cons ⟨_,rfl⟩ (.cons ⟨_,rfl⟩ (.cons ⟨_,rfl⟩ (.cons ⟨_,rfl⟩ .nil))))))))))))))))))))));have hW:=SA.Nr KX mW (l:=[0,16]) (by k_is) (by decide) (by exact(.cons ⟨_,rfl⟩ (.cons ⟨_,rfl⟩ .nil)));obtain⟨hCd,hTb⟩:=SA.O4 (cP:=_) (tP:=_) KX T (by kernel_rfl) (by k_is) (by k_is) rfl (by k_is) rfl;cases hmg.symm.trans UT.m;exact SA.O2 ⟨SA.lk [(28,_),(29,_),(30,_),(31,_),(32,_),(33,_),(34,_),(35,_),(36,_),(37,_),(38,_),(39,_),(40,_),(46,_),(47,_),(48,_),(49,_),(50,_),(51,_),(58,_),(59,_),(60,_),(61,_),(62,_),(63,_),(64,_),(66,_),(67,_),(68,_),(69,_),(70,_),(71,_),(74,_),(75,_),(76,_),(77,_),(78,_),(79,_),(80,_),(81,_),(82,_),(84,_),(85,_),(86,_),(87,_),(88,_),(92,_),(93,_),(94,_),(95,_),(96,_),(97,_),(98,_),(99,_),(100,_),(101,_),(102,_),(108,_),(109,_),(110,_),(111,_),(112,_),(113,_),(114,_),(115,_),(116,_),(117,_),(120,_),(121,_),(126,_),(127,_),(11,_),(12,_),(13,_),(14,_),(55,_),(56,_),(57,_)],SA.lk [(28,_),(29,_),(30,_),(31,_),(32,_),(33,_),(34,_),(35,_),(36,_),(37,_),(38,_),(39,_),(40,_),(46,_),(47,_),(48,_),(49,_),(50,_),(51,_),(58,_),(59,_),(60,_),(61,_),(62,_),(63,_),(64,_),(66,_),(67,_),(68,_),(69,_),(70,_),(71,_),(74,_),(75,_),(76,_),(77,_),(78,_),(79,_),(80,_),(81,_),(82,_),(84,_),(85,_),(86,_),(87,_),(88,_),(92,_),(93,_),(94,_),(95,_),(96,_),(97,_),(98,_),(99,_),(100,_),(101,_),(102,_),(108,_),(109,_),(110,_),(111,_),(112,_),(113,_),(114,_),(115,_),(116,_),(117,_),(120,_),(121,_),(126,_),(127,_),(11,_),(12,_),(13,_),(14,_),(55,_),(56,_),(57,_)],SA.lk [(11,_),(12,_),(13,_),(14,_),(55,_),(56,_),(57,_)],SA.lk [(0,SA.ad mE),(1,SA.ad mT),(2,SA.ad mM),(3,SA.ad mQ),(4,SA.ad mS),(5,SA.ad mW)],SA.Uh hCd,SA.Ui hCd,SA.ad mN,d28,d29,d30,d31,d32,d33,d34,d35,d36,d37,d38,d39,d40,d46,d47,d48,d49,d50,d51,d58,d59,d60,d61,d62,d63,d64,d66,d67,d68,d69,d70,d71,d74,d75,d76,d77,d78,d79,d80,d81,d82,d84,d85,d86,d87,d88,d92,d93,d94,d95,d96,d97,d98,d99,UD,U6,UE,UG,US,U7,U8,U9,Va,Vb,Vc,Vd,Ve,UH,UI,Vf,UT,k11,Up,Ul,k12,UU,UJ,Vg,Vh,Vi,Uy,Ur,Us,Uz,UK,k13,UV,UW,k14,UA,Um,Ut,UX,Uo,Uw,k55,UY,UC,k56,UL,UZ,Vj,UM,k57,U0,U1,Uq,Uu,Vk,U2,Vt,Vu,Vv,Vw,U3,UN,Vx,Vy,Vz,Vl,VA,VB,Vm,Vn,VC,VD,VE,VF,Ux,UO,UB,VG,VH,Vo,U4,VI,VJ,VL,Uk,UP,Vp,Vq,Vr,U5,Uv,VM,Vs,UQ,UR⟩ ⟨exc,mN⟩ ⟨mE,mT,mM,mQ,hE,hT,hM,hQ⟩ ⟨mS,mW,hS,hW⟩ rfl rfl hCd hTb (SA.O1 T hTb)
