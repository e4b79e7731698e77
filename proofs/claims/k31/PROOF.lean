import PyProof.Rows.All
import Wide.All
import OpenK.AllK
import Wide.FinOn
import Lean
import PyProof.EqAt
import PyProof.EqKinds
import PyProof.TupleCall
import PySem.Challenge.RW_yesnowords_k31_whole_what_is_even
set_option Elab.async false
set_option linter.all false
set_option maxRecDepth 100000
def Aa:=@PySem.wpAny_bind
def Ab:=@List.length_map
def Ac:=@PySem.Heap.get?_push_of_some
def Ad:=@Bool.and_eq_true
def Ae:=@List.getElem?_eq_getElem
def Af:=@PySem.wpAny_pure
def Ag:=@Nat.le_refl
def Ah:=@List.map_cons
def Ai:=@List.getElem?_map
def Aj:=@List.mem_cons_of_mem
def Ak:=@List.getElem?_eq_some_iff
def Am:=@decide_eq_true
def An:=@PyProof.Rows.wpS_bind
def Ao:=@List.mem_cons_self
def Ap:=@List.mem_cons
def Aq:=@List.size_toArray
def Ar:=@PySem.Heap.lt_size
def As:=@PySem.Heap.get?_push_size
def At:=@PyProof.Rows.wpS_pure
def Au:=@of_decide_eq_true
def Av:=@Bool.false_ne_true
def Aw:=@List.mem_singleton
def Ax:=@List.mem_append_right
def Ay:=@decide_eq_false
def Az:=@Nat.lt_of_lt_of_le
def Ba:=@List.length_append
def Bb:=@List.append_assoc
def Bc:=@List.length_cons
def Bd:=@List.all_eq_true
def Be:=@Nat.ne_of_lt
def Bf:=@List.sum_cons
def Bg:=@List.lookup_cons
def Bh:=@Bool.not_eq_true
def Bi:=@List.mem_range
def Bj:=@List.mem_append
def Bk:=@Nat.zero_le
def Bl:=@PySem.mem_of_lookup
def Bm:=@Array.toList_append
def Bn:=@List.mem_of_getElem?
def Bo:=@List.all_cons
def Bp:=@List.take_append_drop
def Bq:=@List.not_mem_nil
def Br:=@LawfulBEq.eq_of_beq
def Bs:=@List.zip_cons_cons
def Bt:=@Bool.false_eq_true
def Bu:=@PySem.wpAny_newObj_type
def Bv:=@List.mem_map
def Bw:=@Array.length_toList
def Bx:=@List.nodup_cons
def By:=@List.append_nil
def Bz:=@PySem.wpAny_callSpecial?_slot
def Ca:=@List.pairwise_append
def Cb:=@PyProof.Rows.wpS_forRange
def Cc:=@List.map_append
def Cd:=@List.filter_cons
def Ce:=@List.replicate_succ
def Cf:=@Nat.zero_add
def Cg:=@Nat.lt_irrefl
def Ch:=@Bool.or_eq_true
def Ci:=@Nat.le_trans
def Cj:=@PySem.wpAny_mono
def Ck:=@PySem.wpAny_field
def Cm:=@List.drop_eq_getElem_cons
def Cn:=@List.length_range
def Co:=@List.getElem?_eq_none
def Cp:=@PySem.Heap.SameBut.update
def Cq:=@List.pairwise_cons
def Cr:=@PySem.wpAny_holding
def Cs:=@List.getElem?_set_ne
def Ct:=@PyProof.Rows.callWith_type1
def Cu:=@PySem.wpAny_loadPart'
def Cv:=@PySem.wpAny_rule
def Cw:=@PySem.wpAny_call_entry
def Cy:=@Int.toNat_natCast
def Cz:=@List.find?_cons
def Da:=@List.getElem?_append_left
def Db:=@PySem.wpAny_seqItems
def Dc:=@List.length_replicate
def Dd:=@PySem.Heap.get?_update_other
def De:=@Option.bind_some
def Df:=@Bool.not_eq_false'
def Dg:=@List.ext_getElem?
def Dh:=@Array.toList_push
def Di:=@List.mem_filter
def Dj:=@beq_eq_false_iff_ne
def Dk:=@List.getElem?_set_self
def Dl:=@Array.getElem?_eq_none
def Dm:=@PySem.wpAny_isNot_plain
def Dn:=@PyProof.Rows.wpS_mono
def Do:=@List.length_set
def Dp:=@if_true
def Dq:=@if_false
def Dr:=@List.mem_iff_getElem
def Ds:=@List.flatten_cons
def Dt:=@PySem.Heap.size_push
def Du:=@List.any_cons
def Dv:=@PyProof.Rows.slot_tuple_getitem
def Dw:=@Nat.le_add_right
def Dx:=@List.take_zero
def Dy:=@List.length_take
def Dz:=@List.drop_zero
def Ea:=@Bool.false_and
def Eb:=@List.zipWith_cons_cons
def Ec:=@List.take_of_length_le
def Ed:=@List.map_map
def Ee:=@List.filter_append
def Ef:=@Int.emod_lt_of_pos
def Eg:=@LawfulMonad.pure_bind
def Eh:=@PySem.wpAny_is_plain
def Ei:=@List.of_mem_zip
def Ej:=@List.filter_nil
def Ek:=@PySem.F.slot_dict_valueiterator_next
def El:=@PySem.F.plain_max_loop
def Em:=@PySem.wpAny_typeNameOfWhole_valiter
def Eo:=@decide_eq_true_eq
def Ep:=@List.take_sublist
def Er:=@PySem.wpAny_setField_rec
def Es:=@PySem.wpAny_Call_Name_kw
def Et:=@PySem.wpAny_passesOwn
def Eu:=@Nat.pow_le_pow_right
def Ev:=@List.take_succ
def Ew:=@List.nodup_iff_pairwise_ne
def Ex:=@List.getElem?_mapIdx
def Ey:=@List.getElem?_append_right
def Ez:=@List.getD_eq_getElem?_getD
def Fa:=@List.forIn_nil
def Fb:=@Bool.not_false
def Fc:=@Bool.and_false
def Fe:=@PySem.wpAny_standAt
def Ff:=@List.take_length
def Fg:=@PySem.Heap.get?_update_self
def Fh:=@Array.getElem?_eq_getElem
def Fi:=@List.length_zipWith
def Fj:=@List.length_reverse
def Fm:=@List.eraseDups_cons
def Fp:=@Option.isSome_iff_exists
def Fq:=@PySem.F.slot_tuple_iterator_next
def Fs:=@Bool.and_true
def Ft:=@List.range_succ
def Fu:=@Int.emod_nonneg
def Fv:=@Bool.eq_iff_iff
def Fw:=@beq_iff_eq
def Fx:=@List.filter_cons_of_pos
def Fy:=@List.filter_cons_of_neg
def Ga:=@Int.eq_ofNat_of_zero_le
def Gb:=@PySem.wpAny_typeNameOf_valiter
def Gc:=@PySem.wpAny_attempt
def Gd:=@PySem.W.cellsFrom_some
def Ge:=@Nat.le_of_succ_le
def Gf:=@List.nodup_nil
def Gh:=@Int.zero_add
def Gi:=@PySem.wpAny_pyIter_tuple
def Gj:=@PySem.wpAny_letGo
def Gk:=@Array.getElem?_toList
def Gm:=@List.length_drop
def Gn:=@PySem.wpAny_truthy_bool
def Go:=@PySem.wpAny_pyIter_list
def Gp:=@or_false
def Gq:=@PySem.Calls.callWith_builtin
def Gr:=@Array.toList_reverse
def Gs:=@Option.map_some
def Gu:=@List.length_nil
def Gv:=@List.forIn_cons
def Gw:=@Nat.add_sub_cancel'
def Gx:=@List.map_congr_left
def Gy:=@List.filterMap_cons
def Gz:=@Nat.min_self
def Ha:=@Int.lt_of_lt_of_le
def Hb:=@Array.perm_iff_toList_perm
def Hd:=@Nat.lt_succ_of_lt
def He:=@List.filter_congr
def Hg:=@List.drop_sublist
def Hh:=@PySem.F.args_tuple_add_2
def Hi:=@PyProof.Rows.callWith_kw
def Hj:=@PySem.wpAny_tryCatch
def Hk:=@PySem.Obj.data_mapFields
def Hl:=@PySem.wpAny_pyIter_enum
def Hm:=@PySem.wpAny_of_eq
def Hn:=@PyProof.Rows.wpS_get
namespace PySem.W.Fast
def tw16360890135520431609:=0
def tw13125834255220320235:=0
def tw10549540815359676312:=0
def tw8078600029260342455:=0
def tw8487150379857488829:=0
def tw9871557458801981385:=0
def tw3533485967345322725:=0
def tw513465387816327865:=0
def tw15797263155538559058:=0
def tw6041388013710244660:=0
def tw17656751612977867154:=0
def tw12763184484885071766:=0
def tw4028858771270294366:=0
def tw12207152855913853238:=0
def tw1208047906044360238:=0
def tw9935339319584898793:=0
def tw13454852950863539194:=0
def tw16926988706644926597:=0
def tw10391647639071756207:=0
def tw10159900593098617205:=0
def tw3417627238037231849:=0
def tw15605390844513390747:=0
def tw14874361317556214626:=0
def tw10401081922586873999:=0
def tw16532933620299415764:=0
def tw12275695627356006778:=0
def tw13653525210776168532:=0
def tw11738141547397588862:=0
def tw2306981426713916972:=0
def tw6116386228056896082:=0
def tw8225310502575332614:=0
def tw9006173710615697269:=0
def tw9518356465320839179:=0
def tw6539355330098459657:=0
def tw17139611018194145795:=0
def tw11574997371878381169:=0
def tw6422565434464894711:=0
def tw7702350724336329639:=0
def tw10154147701356365253:=0
def tw11862747127051095170:=0
def tw15885738516423359199:=0
def tw13682070449715659015:=0
def tw12998059360435239277:=0
def tw2086032714618403447:=0
def tw2698177767023403112:=0
def tw16960456553361366131:=0
def tw7597701067168932165:=0
def tw6615857197967603048:=0
def tw13629685298356238914:=0
def tw12576414223478510730:=0
def tw13408291453531473439:=0
def tw8599365325247124364:=0
def tw9102328321763930691:=0
def tw4103925788389110168:=0
def tw13157175366309766380:=0
def tw18441151074665414628:=0
def tw5284021329123426511:=0
def tw7253483843508064157:=0
def tw16447446478462707524:=0
def tw16143812561111328083:=0
def tw7044171310109689362:=0
def tw15183951869173769204:=0
def tw10847385421660811020:=0
def tw11212827171726359665:=0
def tw8277044812459150790:=0
def tw9065264381661737585:=0
def tw13344881870885801630:=0
def tw15120924697899027194:=0
def tw6476929252594696356:=0
def tw15785347519816065848:=0
def tw950398715110199353:=0
def tw9467366831014696272:=0
def tw2162338044644069036:=0
def tw3419186293746087823:=0
def tw13756443412421478300:=0
def tw17138332781830155016:=0
def tw14086194387375102767:=0
def tw2117655690929335104:=0
def tw2736779686556104759:=0
def tw101715018905067133:=0
def tw252668748714376478:=0
def tw182162797447177483:=0
def tw2928235715030675640:=0
def tw6951970053870525700:=0
def tw13570585187944586188:=0
def tw8039142311890090564:=0
def tw8828309948395420709:=0
def tw10730551314398563955:=0
def tw6936279870956152962:=0
def tw11973266827453215506:=0
def tw9932754084239924462:=0
def tw3444575748722234229:=0
def tw4704330644166168191:=0
def tw3757849490541985313:=0
def tw112169623558121195:=0
def tw4655289887195564683:=0
def tw1809382507791033773:=0
def tw2582585307307663654:=0
def tw12796796149007815230:=0
def tw16733388305301045683:=0
def tw2830056921238402037:=0
def tw18182198185854202473:=0
def tw7035006758966621435:=0
def tw905882353768202611:=0
def tw2704908115208174639:=0
def tw5118995082574073527:=0
def tw17399726262777754302:=0
def tw16774553068140942168:=0
def tw534057935386192748:=0
def tw12707340325482547828:=0
def tw12319090384454534019:=0
def tw2244832292389184654:=0
def tw1290576144581004419:=0
def tw16939712667793206898:=0
def tw11317949047655616365:=0
def tw15049415991836543916:=0
def tw6103913555915965597:=0
def tw5031457239624510828:=0
def tw4220640212935639416:=0
def tw9843766224988951334:=0
def tw17919408165452245202:=0
def tw2363734350166441445:=0
def tw11053071957519952903:=0
def tw12002848043355403986:=0
def tw8292760434233652370:=0
def tw9499388095969216499:=0
def tw16562674291009806213:=0
def tw6197746422632992111:=0
def tw4601254654181681727:=0
def tw10617101448944349847:=0
def tw11238752341170782080:=0
def tw4156124903232742161:=0
def tw3054521821402410668:=0
def tw16156442724503131309:=0
def tw17710095779720634305:=0
def tw12938897915431278430:=0
def tw10379923012806113090:=0
def tw11565123179161779983:=0
def tw16956626086572555355:=0
def tw11956381444844382095:=0
def tw15501196945293929357:=0
def tw6901496199891022118:=0
def tw6542612611237744187:=0
def tw2123670148618086142:=0
def tw1021907692292585305:=0
def tw11236690785893450627:=0
def tw9960261694763675941:=0
def tw2249037256296880934:=0
def tw17201062717922617710:=0
def tw16580750655143333858:=0
def tw15052900793011651625:=0
def tw1607790862907938253:=0
def tw4226249359764887893:=0
def tw17282397064052112536:=0
def tw6063434889382700176:=0
def tw13608701431909169386:=0
def tw2352603013754722040:=0
def tw15592371747818529989:=0
def tw14470116629615115868:=0
def tw4256098969148453819:=0
def tw4627098166429651279:=0
def tw10125332713558489061:=0
def tw12913931939432693713:=0
def tw1237152664499648849:=0
def tw13504266739793729751:=0
def tw6762432450885993198:=0
def tw12375910811875903183:=0
def tw14990993275812720069:=0
def tw5101010160264381307:=0
def tw3199748791641805101:=0
def tw13029389221891212300:=0
def tw8377674475974192405:=0
def tw8866693662773500825:=0
def tw17066588630222548306:=0
def tw8089638963714532396:=0
def tw3951149998460101025:=0
def tw2480381916611358625:=0
def tw11838940022677473514:=0
def tw70998203667117377:=0
def tw9932985233845734562:=0
def tw13705511708187856341:=0
def tw1420746783730243709:=0
def tw11800950949443461943:=0
def tw6443062562277034694:=0
def tw12914880902845536663:=0
def tw1513984953553133584:=0
def tw12852227258710971904:=0
def tw5161274750624282366:=0
def tw14002935663243056168:=0
def tw904331993453837209:=0
def tw16889703316926470329:=0
def tw18096288663573840497:=0
def tw12673285576208252443:=0
def tw16666867841641761661:=0
def tw3430371578421020821:=0
def tw10430401228792983708:=0
def tw12951409267552773218:=0
def tw994117352816559817:=0
def tw17542814714449785578:=0
def tw6575489823317285782:=0
def tw17296709414090139402:=0
def tw8029765401704947989:=0
def tw12929041297006002147:=0
def tw8803279916217472788:=0
def tw11923432900379789739:=0
def tw17834762069950494945:=0
def tw16114042626578236993:=0
def tw7812218590198593129:=0
def tw18332696151298873267:=0
def tw3255392247089005849:=0
def tw11506884492120821233:=0
def tw4654704482687085912:=0
def tw17358471628096834936:=0
def tw9105385982006256628:=0
end PySem.W.Fast
theorem bS {α β}{o:Option α}{f:α->Option β}{b}(h:o.bind f=some b):∃a,o=some a/\f a=some b:=Option.bind_eq_some_iff.mp h
theorem sI {α}{a b:α}(h:some a=some b):a=b:=Option.some.inj h
namespace L2
open PySem PySem.Spec PyProof.Rows
theorem aG {P:Prop}(h:∀G:Prop,(P->G)->G):P:=h P id
end L2
set_option hygiene false
local macro_rules | `(tactic| nofun) => `(tactic| refine L2.aG fun _ qG=>?_)
local macro_rules | `(tactic| ac_rfl) => `(tactic| (refine qG ?_;clear qG))
local macro_rules | `(#v[$x]) => `((gArg (gC (.int $x))))
local macro_rules | `(#v[$x,0]) => `(some (.int $x,false))
local macro_rules | `(#v[$x,1]) => `(some (.lst $x,false))
local macro_rules | `(#v[$x,2]) => `(some (.lst $x,true))
local macro_rules | `(#v[$x,3]) => `(some (.tup $x,false))
local macro_rules | `(#v[$x,4]) => `((gArg (gVar $x)))
local macro_rules | `(#v[$x,5]) => `(some ($x,true))
local macro_rules | `(#v[$x,6]) => `(some ($x,false))
local macro_rules | `(#v[0,0,0]) => `((oI yes2 fun i j=>.int (i - j)))
local macro_rules | `(#v[0,0,1]) => `((oI cPow fun i j=>.int (i * 2 ^ j.toNat)))
local macro_rules | `(#v[0,0,2]) => `((oI (fun _ j=>decide (0 < j)) fun i j=>.int (i % j)))
local macro_rules | `(#v[0,0,3]) => `((oI cDiv fun i j=>.int (i / j)))
local macro_rules | `(#v[]) => `((by omega))
local macro_rules | `(#v[0,0,5]) => `(⟨by kernel_rfl,by kernel_rfl,by kernel_rfl,by decide +kernel,rfl,by decide +kernel,by decide +kernel⟩)
local macro_rules | `(#v[0,9]) => `((by decide))
local macro_rules | `(#v[0,0,7]) => `((by decide +kernel))
local macro_rules | `(tactic| omega) => `(tactic| first | lia | omega +splitDisjunctions)
local macro_rules
| `(#v[0,7])=>`((gSeq (gSet [0] 5 (zab [true,false] (Ψ "_law_take") (gCns (zaa 0) (gCns (gArg (gOp2 oIx (gArg (zaz (gCns #v[2] (gCns #v[5] (gCns #v[5] gA0))))) (zaa 2))) gA0)))) (zdr (gApp 3 (gOp2 oIx (gArg (zaz (gCns #v[5,4] (gCns (gArg (gOpN oInt (gCns (gArg (gOp2 oEq (zaa 5) #v[0])) gA0))) (gCns (gArg (gOpN oInt (gCns (gArg (gOp2 (oI yes2 λi j=>.bl (decide (j<i))) (zaa 5) #v[0])) gA0))) gA0))))) (zaa 2))))))
| `(#v[1,7])=>`(⟨#v[0,0,5],rfl,λ_ _ _ _ _ _ us hl=>len2 us hl λ_ _=>rfl⟩)
| `(#v[2,7])=>`(⟨#v[0,0,5],rfl,λ_ _ _ _ _ _ us hl=>len1 us hl λ_=>rfl⟩)
| `(#v[3,7])=>`((model X.prog X.w))
| `(#v[4,7])=>`((.ListComp elt [⟨tg,iter,ifs,0⟩,⟨tg2,iter2,ifs2,0⟩] scope pos))
| `(#v[5,7])=>`(((h3.update a (Obj.mapSeq λ_=>(#[]:Array Value))).push (seqObj "tuple" vs.toArray 0)))
| `(#v[6,7])=>`((.frl (ns.map W.int),false))
| `(#v[7,7])=>`((.ListComp elt (⟨tg,iter,ifs,0⟩ :: gs) scope pos))
| `(#v[8,7])=>`([some (kdW m t,false),some (.dct (D.map dkL) (D.map (oc pre)),true),some (.int (w:Nat),false),some (rowI x,false),v4])
| `(#v[9,7])=>`((names.map λ(n,k)=>if (k == NameKind.free && env.scope.kind == .function && env.kindOf n == some .cell) then (n,NameKind.cell) else (n,k)))
| `(#v[0,8])=>`((gArg (gOp2 (oI cPow fun i j=>.int (i ^ j.toNat)) (gArg (gC (.int 10))) (gArg (gC (.int 60))))))
| `(#v[1,8])=>`((.bl false,false))
| `(#v[2,8])=>`([some #v[6,7],some (.lst [.int a0,.int b,.int 0],true),v2,some (.int n,false),some (.int (i:Nat),false),some (.int (n % 2305843009213693951+7919 * (i:Nat)+3),false)])
| `(#v[3,8])=>`((scope.names.all λp=>!(p.2 == NameKind.local) || decide (scope.names.lookup p.1=some .local)))
| `(#v[4,8])=>`([#v[(m:Nat),0],#v[(wordOf (tab (2 ^ m) f)),0],#v[(wordOf (tab (2 ^ m) (zbh f))),0]])
| `(#v[5,8])=>`((gIfS (gOrT (zaj (gOp2 oNe (zaa 4) (gArg (gOpN (oBl λbs=>bs.all id) (gCns (gArg (zap Ψ)) gA0))))) (zaj (gOp2 oNe (zaa 4) (gArg (zab [false,false] (Ψ "is_in") (gCns #v[0,4] (gCns #v[2,4] gA0))))))) (gRet (gC (.bl false))) zc1))
| `(#v[6,8])=>`((oI yes2 λi j=>.int (Builtin.bitAnd i j)))
| `(#v[7,8])=>`((.frl ((n0::nr).map W.int),false))
| `(#v[8,8])=>`([#v[st,5],#v[n,0],#v[way,0],#v[(xs.map W.int),2],#v[(0+(i:Nat)),0],v5])
| `(#v[9,8])=>`([#v[m,0],#v[(rowF m f 0),0],#v[((tab 1 (rowF m f)).map W.int),2],none])
| `(#v[1,9])=>`((.ListComp elt gens scope pos))
| `(#v[2,9])=>`((gOp2 (oI yes2 fun i j=>.bl (decide (j<=i))) (gArg (gOp2 oIx (zaa 0) (gArg (gC (.int 0))))) (gArg (gOp2 (oI cPow fun i j=>.int (i ^ j.toNat)) (gArg (gC (.int 10))) (gArg (gC (.int 18)))))))
| `(#v[3,9])=>`([some #v[6,7],#v[[.int 0,.int 0,.int 0],2],none,none,none,none])
| `(#v[4,9])=>`((gAug [] (oI yes2 λi j=>.int (Builtin.bitOr i j)) 1 (gArg (gOp2 #v[0,0,1] #v[1] (zaa 2)))))
| `(#v[5,9])=>`((gOp2 oEq (gArg (zab [false,false] (Ψ "says") (gCns #v[2,4] (gCns #v[1,4] gA0)))) #v[1]))
| `(#v[6,9])=>`([#v[m,0],#v[(rowF m f 0),0],#v[((tab (i+1) (rowF m f)).map W.int),2],#v[(0+(i:Nat)),0]])
| `(#v[7,9])=>`((seqObj "list" #[] 0))
| `(#v[8,9])=>`((s.heap.objs.size+1))
| `(#v[9,9])=>`((gCns #v[2,4] gA0))
| `(#v[0,10])=>`([some #v[6,7],#v[st0,5],none,none,none,none,none,none])
| `(#v[1,10])=>`([#v[kdW m t,6],some (.dct [] [],true),none,none,none])
| `(#v[2,10])=>`((gCns #v[0,4] (gCns (gArg (gOp2 oIx (zaa 2) (zaa 3))) (gCns #v[3,4] gA0))))
| `(#v[3,10])=>`([some #v[6,7],#v[st1,5],w2,w3,none,none,none,none])
| `(#v[4,10])=>`([some #v[7,8],#v[[.int 0,.int 0,.int 0],2],#v[1,0],none,none,none])
| `(#v[5,10])=>`((gArg (gOpN oLen (gCns (zaa 0) gA0))))
| `(#v[6,10])=>`((gArg (gOp2 oIx (zaa 0) #v[0])))
| `(#v[7,10])=>`((oI yes2 λi j=>.int (i+j)))
| `(#v[8,10])=>`((scope.names.any λ(n,k)=>n == x && (k == .local || k == .cell)))
| `(#v[9,10])=>`((.bl true,false))
| `(#v[0,11])=>`((gArg (gOp2 oAdd (gArg (gOp2 oMult (gArg (gOp2 oIx (zaa 1) (gArg (gC (.int 1))))) (gArg (gC (.int 48271))))) (zaa 5))))
| `(#v[1,11])=>`([v0,v1,#v[(wordOf (tab (2 ^ m) (zbh f))),0]])
| `(#v[2,11])=>`([.int (wordOf xs),.int (wordOf ys)])
| `(#v[3,11])=>`((oI yes2 λi j=>.bl (decide (j<i))))
| `(#v[4,11])=>`((Obj.mapSeq λ_=>(#[]:Array Value)))
| `(#v[5,11])=>`([v0,#v[(i:Nat),0],#v[(wordOf (tab n f)),0]])
| `(#v[6,11])=>`([some (st',true),some (.int (m:Nat),false),some (.int (most:Nat),false),some (.lst ((zae m most).map tmW),false)])
| `(#v[7,11])=>`([some #v[6,7],#v[[.int a0,.int 0,.int 0],2],v2,v3,none,none])
| `(#v[8,11])=>`([some (st,true),some (.int (m:Nat),false),some (.int (most:Nat),false),some (.lst ((zae m most).map tmW),true)])
| `(#v[9,11])=>`((seqObj "list" vs.toArray 0))
| `(#v[0,12])=>`([some (kdW m t,false),some (.int (wordOf xs),false),none])
| `(#v[1,12])=>`([some #v[7,8],some (.lst [.int a0,.int 0,.int 0],true),some (.int wt,false),some (.int n,false),none,none])
| `(#v[2,12])=>`((oI (λ_ j=>decide (0<=j)) λi j=>.int (i / 2 ^ j.toNat)))
| `(#v[3,12])=>`((gSet [] 4 (gOp2 oIs (gArg (zab [false,false] (Ψ "odd_check") (gCns #v[0,4] #v[9,9]))) (gArg (gC .non)))))
| `(#v[4,12])=>`((gAug [] #v[6,8] 0 (gArg (gOp2 #v[0,0,0] (zaa 0) #v[1]))))
| `(#v[5,12])=>`([#v[[.int (m:Nat),.int (most:Nat)],3],#v[(wordOf (tab (2 ^ m) f)),0],#v[(m:Nat),0],#v[(most:Nat),0]])
| `(#v[6,12])=>`([#v[(m:Nat),0],#v[(ts.map tmW),3],#v[(wordOf (tab (2 ^ m) λi=>if i∈ts.map zbf then 1 else 0)),0]])
| `(#v[7,12])=>`((scope.names.lookup y.1=some .cell/\((cellsFrom #v[8,9] scope.names []).lookup y.1).isSome=true))
| `(#v[8,12])=>`((gArg (gOpN oAbs (gCns (zaa 3) gA0))))
set_option hygiene true
namespace L2
open PySem PySem.Spec PyProof.Rows
noncomputable abbrev Key:=Sum Int Str
noncomputable def ztj:Key->Value->Bool
 |.inl k,v=>Value.isInt k v
 |.inr x,v=>Value.isStrOf x v
noncomputable def keyH (w:World):Key->Int
 |.inl k=>hashInt k
 |.inr x=>hashStr w x
theorem keyIs_shape:∀{k:Key}{v:Value},ztj k v=true->(∃i t,k=Sum.inl i/\v=Value.int i t)\/(∃x t,k=Sum.inr x/\v=Value.str x t)
  | .inl i,v,h=>by
    obtain⟨t,e⟩:=Value.isInt_shape (k:=i) (v:=v) h;exact .inl ⟨i,t,rfl,e⟩
  | .inr x,v,h=>by
    obtain⟨t,e⟩:=Value.isStrOf_shape (x:=x) (v:=v) h;exact .inr ⟨x,t,rfl,e⟩
theorem zyq (i:Int)(t:Tok):ztj (.inl i) (.int i t)=true:=by simp [ztj,Value.isInt]
theorem zva (x:Str)(t:Tok):ztj (.inr x) (.str x t)=true:=by simp [ztj,Value.isStrOf]
theorem yci (a b:Int):decide ((Sum.inl a:Key)=Sum.inl b)=(a == b):=by
 by_cases e:a=b
 ·subst e;simp
 ·have h : ¬ (Sum.inl a : Key) = Sum.inl b:=λq=>e (Sum.inl.inj q);rw[Ay h];exact (Dj.mpr e).symm
theorem yay (a b:Str):decide ((Sum.inr a:Key)=Sum.inr b)=decide (a=b):=by
 by_cases e:a=b
 ·subst e;simp
 ·have h : ¬ (Sum.inr a : Key) = Sum.inr b:=λq=>e (Sum.inr.inj q);rw[Ay h,Ay e]
theorem yb2 (a:Int)(b:Str):decide ((Sum.inl a:Key)=Sum.inr b)=false:=Ay (λq=>nomatch q)
theorem z92 (a:Str)(b:Int):decide ((Sum.inr a:Key)=Sum.inl b)=false:=Ay (λq=>nomatch q)
noncomputable def za4 (prog:Program) (w:World):PySem.KeyKind prog w Key where
 is:=ztj
 hash:=keyH w
 inj:=λv a b ha hb=>by
  rcases keyIs_shape ha with⟨i,t,rfl,rfl⟩|⟨x,t,rfl,rfl⟩
  ·rcases keyIs_shape hb with⟨j,u,rfl,e⟩|⟨y,u,rfl,e⟩
   ·injection e with e1 _;rw[e1]
   ·exact nomatch e
  ·rcases keyIs_shape hb with⟨j,u,rfl,e⟩|⟨y,u,rfl,e⟩
   ·exact nomatch e
   ·injection e with e1 _;rw[e1]
 byValue:=λk v h=>by
  rcases keyIs_shape h with⟨i,t,rfl,rfl⟩|⟨x,t,rfl,rfl⟩<;>rfl
 pyHash:=λhv h=>by
  rcases keyIs_shape hv with⟨i,t,rfl,rfl⟩|⟨x,t,rfl,rfl⟩
  ·exact wpAny_pyHash_int h
  ·exact wpAny_pyHash_str h
 eqBool:=λhu hv h=>by
  rcases keyIs_shape hu with⟨i,t,rfl,rfl⟩|⟨x,t,rfl,rfl⟩
  ·rcases keyIs_shape hv with⟨j,u,rfl,rfl⟩|⟨y,u,rfl,rfl⟩
   ·rw[yci] at h;exact wpAny_eqBool_int h
   ·rw[yb2] at h;exact SeqAt.EqAt.int_str i t y u _ _ _ _ h
  ·rcases keyIs_shape hv with⟨j,u,rfl,rfl⟩|⟨y,u,rfl,rfl⟩
   ·rw[z92] at h;exact SeqAt.EqAt.str_int x t j u _ _ _ _ h
   ·rw[yay] at h;exact wpAny_eqBool_str h
 «strs»:=λk x t v h=>by
  rcases keyIs_shape h with⟨i,u,rfl,e⟩|⟨y,u,rfl,e⟩
  ·exact nomatch e
  ·injection e with e1 _;subst e1;cases v<;>rfl
theorem znm (prog:Program)(w:World)(i:Int)(t:Tok):(za4 prog w).is (.inl i) (.int i t)=true:=zyq i t
theorem zol (prog:Program)(w:World)(x:Str)(t:Tok):(za4 prog w).is (.inr x) (.str x t)=true:=zva x t
inductive V where
 |non|bl (b:Bool)|int (i:Int)|str (x:Str)|byt (b:Array UInt8)|flt (b:UInt64)|ref (a:Addr)|ty (n:String)
 deriving DecidableEq
noncomputable def RelV:V->Value->Prop
 |.non,u=>u=Value.none
 |.bl b,u=>u=Value.bool b
 |.int i,u=>∃t,u=Value.int i t
 |.str x,u=>∃t,u=Value.str x t
 |.byt b,u=>∃t,u=Value.bytes b t
 |.flt b,u=>∃t,u=Value.float b t
 |.ref a,u=>u=Value.ref a
 |.ty n,u=>u=Value.type n
noncomputable abbrev Vals:List V->List Value->Prop:=Paired RelV
theorem Vals.length {xs:List V}{us:List Value}(r:Vals xs us):xs.length=us.length:=Paired.length r
theorem Vals.get:∀{xs:List V}{us:List Value}{i:Nat}{x:V},Vals xs us->xs[i]?=some x->∃u,us[i]?=some u/\RelV x u
  |_,_,_,_,.nil,e=>by simp at e
  |_,_,0,_,.cons r _,e=>by simp at e;subst e;exact⟨_,rfl,r⟩
  | _,_,i+1,x,.cons _ t,e=>by
    obtain⟨u,h1,h2⟩:=Vals.get (i:=i) (x:=x) t (by simpa using e);exact⟨u,by simpa using h1,h2⟩
theorem Vals.set {x:V}{u:Value}(r:RelV x u):∀{xs:List V}{us:List Value} (i:Nat),Vals xs us->Vals (xs.set i x) (us.set i u)
 |_,_,_,.nil=>.nil
 |_,_,0,.cons _ t=>.cons r t
 |_,_,i+1,.cons q t=>.cons q (Vals.set r i t)
theorem Vals.append:∀{xs ys:List V}{us ws:List Value},Vals xs us->Vals ys ws->Vals (xs++ys) (us++ws)
 |_,_,_,_,.nil,s=>s
 |_,_,_,_,.cons r t,s=>.cons r (Vals.append t s)
theorem Vals.take:∀{xs:List V}{us:List Value} (n:Nat),Vals xs us->Vals (xs.take n) (us.take n)
 |_,_,0,_=>.nil
 |_,_,_+1,.nil=>.nil
 |_,_,n+1,.cons r t=>.cons r (Vals.take n t)
theorem Vals.drop:∀{xs:List V}{us:List Value} (n:Nat),Vals xs us->Vals (xs.drop n) (us.drop n)
 |_,_,0,r=>r
 |_,_,_+1,.nil=>.nil
 |_,_,n+1,.cons _ t=>Vals.drop n t
noncomputable def RelO:Option V->Option Value->Prop
 |some v,some u=>RelV v u
 |none,none=>True
 |_,_=>False
noncomputable def KV {κ:Type}:List (κ × V)->List (κ × Value)->Prop:=Paired λ(p:κ × V) (q:κ × Value)=>p.1=q.1/\RelV p.2 q.2
noncomputable def kV:Key->V
 |.inl i=>.int i
 |.inr x=>.str x
inductive HO where
 /-- a list -/
 |lst (xs:List V)
 /-- a tuple (never changes) -/
 |tup (xs:List V)
 /-- a dict whose keys are ints and texts;one whose keys are tuples of ints and texts (the empty one is both) -/
 |dK (kvs:List (Key × V))|dT (kvs:List (List Key × V))
 /-- a set of ints: its members,its size -/
 |set (S:Int->Bool) (n:Nat)
 /-- an instance of the class at C,its dict at dx,its attributes -/
 |ins (C dx:Addr) (fs:List (Str × V))
 /-- the dict of the instance at x -/
 |own (x:Addr)
 /-- the dict of an exception -/
 |xd (fs:List (Str × V))
 /-- a bound method,f of x -/
 |met (f x:Addr)
 /-- a range object lo,lo+1,.. below hi -/
 |rng (lo hi:Int)
 /-- a thing that is known to the object (the script;a dict while a loop walks it): read,never written while it is so -/
 |frz (o:Obj) (u:HO)
 /-- a code object's table -/
 |tbl (ps:Array Value)
 /-- any other thing,by what is true of its one object (a def of one's own: SetO a S n:=HO.ext λh=>..) -/
 |ext (φ:Heap->Prop)
noncomputable abbrev Hp:=Addr->Option HO
noncomputable def upd (H:Hp) (a:Addr) (o:HO):Hp:=λb=>if b=a then some o else H b
theorem upd_same {H:Hp}{a:Addr}{o:HO}:upd H a o a=some o:=by unfold upd;rw[if_pos rfl]
theorem upd_ne {H:Hp}{a b:Addr}{o:HO}(h:b≠a):upd H a o b=H b:=by unfold upd;rw[if_neg h]
theorem zou {H:Hp}{a:Addr}{o u:HO}:upd (upd H a o) a u=upd H a u:=by
 funext b;unfold upd;split<;>rfl
theorem z8v {H:Hp}{a b:Addr}{o u:HO}(h:H a=some o)(h' : H b=some u)(d:o≠u):a≠b:=by
 intro e;subst e;rw[h] at h';exact d (sI h')
theorem zad {H:Hp}{a b:Addr}{o:HO}(h:H a=some o)(h' : H b=none):a≠b:=by
 intro e;subst e;rw[h] at h';cases h'
section
variable (P:Program) (w:World)
noncomputable def ObjOk (H:Hp) (h:Heap) (a:Addr):HO->Prop
 |.lst xs=>xs.length<=sizeLine/\∃(its:List Value) (n:Nat),Vals xs its/\h.get? a=some { cls:=.type "list",data:=.seq its.toArray n }
 |.tup xs=>xs.length<=sizeLine/\∃its:List Value,Vals xs its/\IsTup h a its.toArray
 |.dK kvs=>kvs.length<=sizeLine/\(a == sysModules)=false/\∃vs,KV kvs vs/\h.DictOf (za4 P w) a vs
 | .dT kvs=>kvs.length<=sizeLine/\(a == sysModules)=false/\∃xs:List (List Key × Addr × Value),
   Paired (λ(p:List Key × V) (q:List Key × Addr × Value)=>p.1=q.1/\H q.2.1=some (.tup (p.1.map kV))/\RelV p.2 q.2.2) kvs xs /\
   ∃o es ep,h.get? a=some o/\o.ExactDict/\o.data=.dict es ep/\es.toList=xs.map (entryOfKey (tupleKind (za4 P w)))/\(xs.map (·.1)).Nodup
 |.set S n=>h.SetOf (intKind P w) a S n
 | .ins C dx fs=>H dx=some (.own a)/\fs.length<=1000/\dx≠a/\h.get? a=some (PySem.W.instObj C dx) /\
   ∃mA,h.Ns1 dx mA/\(∀f,RelO (fs.lookup f) (mA f))/\PySem.Within mA (fs.map (·.1))
 |.own _=>∃o,h.get? a=some o
 |.xd fs=>∃mA,h.Ns1 a mA/\∀f,RelO (fs.lookup f) (mA f)
 |.rng lo hi=>∃t u v,h.get? a=some { cls:=.type "range",data:=.fields #[.int lo t,.int hi u,.int 1 v] }
 |.frz o u=>h.get? a=some o/\ObjOk H h a u
 |.tbl ps=>h.get? a=some { cls:=.none,data:=.fields ps }
 |.met f x=>h.get? a=some (PySem.W.methodObj (.ref f) (.ref x))
 |.ext φ=>φ h/\(∃o,h.get? a=some o)/\∀h1 h2:Heap,φ h1->(∀o,h1.get? a=some o->h2.get? a=some o)->φ h2
noncomputable def HOk (H:Hp) (h:Heap):Prop:=∀a o,H a=some o->ObjOk P w H h a o
end
section
variable {P:Program}{w:World}{H H' : Hp}{h h' : Heap}{a:Addr}{o:HO}
theorem ObjOk.lt (x:ObjOk P w H h a o):a<h.objs.size:=by
 cases o with
 |lst xs=>obtain⟨_,_,_,_,e⟩:=x;exact Ar e
 |tup xs=>obtain⟨_,_,_,p⟩:=x;exact p.lt
 |dK kvs=>obtain⟨_,_,_,_,o,_,_,e,_⟩:=x;exact Ar e
 |dT kvs=>obtain⟨_,_,_,_,o,_,_,e,_⟩:=x;exact Ar e
 |set S n=>obtain⟨o,_,_,_,e,_⟩:=x;exact Ar e
 |ins C dx fs=>obtain⟨_,_,_,e,_⟩:=x;exact Ar e
 |own y=>obtain⟨_,e⟩:=x;exact Ar e
 |xd fs=>obtain⟨_,⟨_,_,_,e,_⟩,_⟩:=x;exact Ar e
 |rng lo hi=>obtain⟨_,_,_,e⟩:=x;exact Ar e
 |frz ob u=>obtain⟨e,_⟩:=x;exact Ar e
 |tbl ps=>exact Ar (show h.get? a=some _ from x)
 |met f y=>exact Ar (show h.get? a=some _ from x)
 |ext φ=>obtain⟨_,⟨_,e⟩,_⟩:=x;exact Ar e
theorem Paired.mapP {α β:Type}{F G:α->β->Prop}:∀{l₁:List α}{l₂:List β},Paired F l₁ l₂->(∀a b,F a b->G a b)->Paired G l₁ l₂
 |_,_,.nil,_=>.nil
 |_,_,.cons r t,f=>.cons (f _ _ r) (Paired.mapP t f)
theorem ObjOk.stay (x:ObjOk P w H h a o) (k:∀b u,(b=a\/H b=some (.own a))->h.get? b=some u->h'.get? b=some u)
    (ho:∀b,H b=some (.own a)->H' b=some (.own a)) (ht:∀b xs,H b=some (.tup xs)->H' b=some (.tup xs)):ObjOk P w H' h' a o:=by
  induction o with
  |lst xs=>obtain⟨z,its,n,r,e⟩:=x;exact⟨z,its,n,r,k _ _ (.inl rfl) e⟩
  |tup xs=>obtain⟨z,its,r,ob,e,c⟩:=x;exact⟨z,its,r,ob,k _ _ (.inl rfl) e,c⟩
  |dK kvs=>obtain⟨z,y,vs,r,ob,es,ep,e,c⟩:=x;exact⟨z,y,vs,r,ob,es,ep,k _ _ (.inl rfl) e,c⟩
  | dT kvs =>
    obtain⟨z,y,xs,r,ob,es,ep,e,c⟩:=x;exact⟨z,y,xs,Paired.mapP r λp q z=>⟨z.1,ht _ _ z.2.1,z.2.2⟩,ob,es,ep,k _ _ (.inl rfl) e,c⟩
  |set S n=>obtain⟨ob,es,ep,t,e,c⟩:=x;exact⟨ob,es,ep,t,k _ _ (.inl rfl) e,c⟩
  | ins C dx fs =>
    obtain⟨d,z,ne,e,mA,⟨od,es,ep,e2,c⟩,r⟩:=x;exact⟨ho _ d,z,ne,k _ _ (.inl rfl) e,mA,⟨od,es,ep,k _ _ (.inr d) e2,c⟩,r⟩
  |own y=>obtain⟨ob,e⟩:=x;exact⟨ob,k _ _ (.inl rfl) e⟩
  |xd fs=>obtain⟨mA,⟨od,es,ep,e,c⟩,r⟩:=x;exact⟨mA,⟨od,es,ep,k _ _ (.inl rfl) e,c⟩,r⟩
  |rng lo hi=>obtain⟨t,u,v,e⟩:=x;exact⟨t,u,v,k _ _ (.inl rfl) e⟩
  |frz ob u ih=>obtain⟨e,q⟩:=x;exact⟨k _ _ (.inl rfl) e,ih q⟩
  | tbl ps =>
    have e:h.get? a=some { cls:=.none,data:=.fields ps }:=x;show h'.get? a=some { cls:=.none,data:=.fields ps };exact k a _ (.inl rfl) e
  | met f y =>
    have e:h.get? a=some (PySem.W.methodObj (.ref f) (.ref y)):=x;show h'.get? a=some (PySem.W.methodObj (.ref f) (.ref y));exact k a _ (.inl rfl) e
  |ext φ=>obtain⟨p,⟨o,e⟩,st⟩:=x;exact⟨st _ _ p λo q=>k _ _ (.inl rfl) q,⟨o,k _ _ (.inl rfl) e⟩,st⟩
theorem HOk.lt (x:HOk P w H h)(e:H a=some o):a<h.objs.size:=(x a o e).lt
theorem HOk.fresh (x:HOk P w H h)(e:h.objs.size<=a):H a=none:=by
 cases q:H a with
 |none=>rfl
 |some u=>exact absurd (Az (x.lt q) e) (Cg _)
theorem HOk.kept (x:HOk P w H h)(k:∀b u,h.get? b=some u->h'.get? b=some u):HOk P w H h':=λa o e =>
 (x a o e).stay (λb u _ q=>k b u q) (λ_ q=>q) λ_ _ q=>q
theorem HOk.laid (x:HOk P w H h)(k:∀b u,h.get? b=some u->h'.get? b=some u)(hp:h.objs.size<=a)(new:ObjOk P w (upd H a o) h' a o):HOk P w (upd H a o) h':=λb u e=>by
 have hn:=x.fresh hp;by_cases hb:b=a
 ·subst hb;rw[upd_same] at e;cases e;exact new
 ·rw[upd_ne hb] at e;exact (x b u e).stay (λc v _ q=>k c v q) (λc q=>by rw[upd_ne (zad q hn)];exact q) λc xs q=>by rw[upd_ne (zad q hn)];exact q
end
noncomputable def Rd (H:Hp) (a:Addr) (u:HO):Prop:=H a=some u\/∃o,H a=some (.frz o u)
theorem Rd.ok {P:Program}{w:World}{H:Hp}{h:Heap}{a:Addr}{u:HO}(r:Rd H a u)(x:HOk P w H h):ObjOk P w H h a u:=by
 rcases r with r|⟨o,r⟩
 ·exact x a u r
 ·obtain⟨_,q⟩:=x a _ r;exact q
noncomputable def Mut:Option HO->Prop
 |some (.lst _)=>True
 |some (.dK _)=>True
 |some (.dT _)=>True
 |some (.set _ _)=>True
 |some (.ins _ _ _)=>True
 |some (.ext _)=>True
 |_=>False
section
variable {P:Program}{w:World}{H:Hp}{h h' : Heap}{x e:Addr}{o' : HO}
theorem HOk.write (ok:HOk P w H h) (mu:Mut (H x)) (he:e=x\/H e=some (.own x)) (k:∀b u,b≠e->h.get? b=some u->h'.get? b=some u) (heo:∃u,h'.get? e=some u)
  (new:ObjOk P w (upd H x o') h' x o'):HOk P w (upd H x o') h':=λb u q=>by
 have nown:∀c y,H c=some (.own y)->c≠x:=λc y r z=>by subst z;rw[r] at mu;exact mu
 have ntup:∀c xs,H c=some (.tup xs)->c≠x:=λc xs r z=>by subst z;rw[r] at mu;exact mu
 by_cases hb:b=x
 ·subst hb;rw[upd_same] at q;cases q;exact new
 ·rw[upd_ne hb] at q;by_cases hbe:b=e
  ·have q' : H b=some (.own x):=by
    rcases he with z|z
    ·exact absurd (hbe.trans z) hb
    ·rw[hbe];exact z
   rw[q] at q';cases q';obtain⟨v,hv⟩:=heo;exact⟨v,by rw[hbe];exact hv⟩
  ·refine (ok b u q).stay (λc v hc r=>k c v ?_ r) (λc r=>by rw[upd_ne (nown c b r)]; exact r) λc xs r=>by rw[upd_ne (ntup c xs r)]; exact r
   rcases hc with rfl|hc
   ·exact hbe
   ·rintro rfl;rcases he with z|z
    ·exact nown c b hc z
    ·rw[hc] at z;cases z;exact hb rfl
end
structure Un (fs ex:List Addr) (H H' : Hp) (h h' : Heap):Prop where
 keep:∀b o,h.get? b=some o->H b=none->b ∉ fs->b ∉ ex->h'.get? b=some o
 slot:∀b o,h.get? b=some o->H b=none->b∈fs->b ∉ ex->∃sl,h'.get? b=some { o with slots:=sl }
 free:∀b o,h.get? b=some o->H b=none->b ∉ ex->H' b=none
 there:∀b o,h.get? b=some o->b ∉ ex->∃o',h'.get? b=some o'
 tups:∀b xs,H b=some (.tup xs)->H' b=some (.tup xs)
 frzs:∀b o u,H b=some (.frz o u)->H' b=some (.frz o u)
 tbls:∀b ps,H b=some (.tbl ps)->∃more,H' b=some (.tbl (ps++more))
section
variable {fs fs' ex ex' : List Addr}{H H1 H2:Hp}{h h1 h2 h' : Heap}{a x e:Addr}{o:HO}
theorem Un.any (u:Un fs ex H H1 h h1){b:Addr}{ob:Obj}(q:h.get? b=some ob)(n:H b=none)(hx:b ∉ ex):∃sl,h1.get? b=some { ob with slots:=sl }:=by
 by_cases hb:b∈fs
 ·exact u.slot b ob q n hb hx
 ·exact⟨ob.slots,u.keep b ob q n hb hx⟩
theorem Un.kept (k:∀b u,h.get? b=some u->h'.get? b=some u):Un fs ex H H h h' :=
 ⟨λb ob q _ _ _=>k b ob q,λb ob q _ _ _=>⟨ob.slots,k b ob q⟩,λ_ _ _ n _=>n,λb ob q _=>⟨ob,k b ob q⟩,λ_ _ q=>q,λ_ _ _ q=>q,λ_ ps q=>⟨#[],by rw[q];simp⟩⟩
theorem Un.refl:Un fs ex H H h h:=Un.kept λ_ _ q=>q
theorem Un.laid (k:∀b u,h.get? b=some u->h'.get? b=some u)(hp:h.objs.size<=a)(hn:H a=none):Un fs ex H (upd H a o) h h' where
 keep:=λb u q _ _ _=>k b u q
 slot:=λb u q _ _ _=>⟨u.slots,k b u q⟩
 free:=λb u q n _=>by rw[upd_ne (Be (Az (Ar q) hp))];exact n
 there:=λb u q _=>⟨u,k b u q⟩
 tups:=λb xs q=>by rw[upd_ne (zad q hn)];exact q
 frzs:=λb u xs q=>by rw[upd_ne (zad q hn)];exact q
 tbls:=λb ps q=>⟨#[],by rw[upd_ne (zad q hn),q];simp⟩
theorem Un.write (mu:Mut (H x))(he:e=x\/H e=some (.own x))(k:∀b u,b≠e->h.get? b=some u->h'.get? b=some u)(heo:∃u,h'.get? e=some u):Un fs ex H (upd H x o) h h':=by
 have hx:∀b,H b=none->b≠x:=λb n z=>by subst z;rw[n] at mu;exact mu
 have hb:∀b,H b=none->b≠e:=λb n z=>by
  subst z;rcases he with r|r
  ·exact hx b n r
  ·rw[n] at r;cases r
 have hm:∀b u,H b=some u->¬ Mut (some u)->b≠x:=λb u q nm z=>by subst z;rw[q] at mu;exact nm mu
 refine⟨λb u q n _ _=>k b u (hb b n) q,λb u q n _ _=>⟨u.slots,k b u (hb b n) q⟩,λb u q n _=>by rw[upd_ne (hx b n)];exact n,λb u q _=>?_,
  λb xs q=>by rw[upd_ne (hm b _ q λz=>z)];exact q,λb u xs q=>by rw[upd_ne (hm b _ q λz=>z)];exact q,λb ps q=>⟨#[],by rw[upd_ne (hm b _ q λz=>z),q];simp⟩⟩
 by_cases hbe:b=e
 ·subst hbe;exact heo
 ·exact⟨u,k b u hbe q⟩
end
noncomputable def trk (h:Heap) (H:Hp):List Addr:=(List.range h.objs.size).filter λa=>(H a).isSome
noncomputable def hidT (h:Heap) (H:Hp):Heap:=PySem.W.hideAll h (trk h H)
theorem zyx (h:Heap)(H:Hp):(hidT h H).objs.size=h.objs.size:=PySem.W.hideAll_size _ _
theorem zz8 {h:Heap}{H:Hp}{b:Addr}{o:Obj}(e:h.get? b=some o)(n:H b=none):(hidT h H).get? b=some o :=
 PySem.W.hideAll_get _ e λhm=>by
  have q:(H b).isSome=true:=(Di.mp hm).2;rw[n] at q;simp at q
theorem z7t {h:Heap}{H:Hp}{b:Addr}{o:Obj} (e:(hidT h H).get? b=some o):h.get? b=some o/\H b=none:=by
  have e' : h.get? b=some o:=PySem.W.of_hideAll (trk h H) e;refine⟨e',?_⟩;cases q:H b with
  |none=>rfl
  | some x =>
    have hm:b∈trk h H:=Di.mpr ⟨Bi.mpr (Ar e'),by simp [q]⟩;have z:(hidT h H).get? b=none:=PySem.W.hideAll_none (trk h H) hm;rw[z] at e;cases e
noncomputable def z6y (g h:Heap) (L:Addr):List (Addr × Obj):=(List.range h.objs.size).filterMap λa=>if a=L\/(g.get? a).isSome=true then none else (h.get? a).map λo=>(a,o)
noncomputable def rest (g h:Heap) (L d:Addr):List (Addr × Obj):=(z6y g h L).filter λp=>decide (p.1≠d)
structure Mod (K:PySem.W.Frag) (mg:Str->Option Value) (base:Heap):Prop where
 kin:K.In base
 glob:base.Ns mainGlobals mg
 blt:∃mb,base.Ns builtinsNs mb/\∀x:Str,x≠"__name__" -> mb x=bootBuiltins x
 nolimit:base.NoLimit
 bmn:∃(b:Addr) (ob:Obj),mg "__builtins__" = some (.ref b)/\b≠builtinsNs/\base.get? b=some ob/\ob.cls=.type "module"/\ob.dict=some builtinsNs/\ob.data=.plain
structure Cx where
 prog:Program
 w:World
 K:PySem.W.Frag
 mg:Str->Option Value
 base:Heap
 A:Around
 N:List Str
 s₀:Shared
 H₀:Hp
 env:Env
 outer:List Env
 stack:List Env
 ex:List Addr
 fn:Str->Bool
 calm:Bool
 pn:List (Addr × Obj)
 xe:Value->Shared->Prop
noncomputable def frs (l:List Env):List Addr:=l.filterMap (·.frame)
noncomputable abbrev Cx.fs (X:Cx):List Addr:=frs X.outer
noncomputable def Vis (sc:Scope) (x:Str):Prop:=sc.names.lookup x=some .local\/sc.names.lookup x=some .cell\/sc.names.lookup x=some .free
noncomputable def Loc (sc:Scope) (x:Str):Prop:=sc.names.lookup x=some .local\/sc.names.lookup x=some .cell
noncomputable def Look (env:Env) (h:Heap) (m:Str->Option Value) (x:Str) (u:Value):Prop :=
 (env.kindOf x=some .local/\m x=some u)\/((env.kindOf x=some .cell\/env.kindOf x=some .free)/\∃c,env.cells.lookup x=some c/\h.IsCell c (some u))
structure Cx.Ok (X:Cx):Prop where
 mod:Mod X.K X.mg X.base
 kind:X.env.scope.kind=.function
 glob:X.env.globals=mainGlobals
 blt:X.env.builtins=builtinsNs
 above:X.s₀.heap.objs.size<=X.env.locals
 inj:∀x y c,X.env.cells.lookup x=some c->X.env.cells.lookup y=some c->x=y
 has:∀x,(X.env.kindOf x=some .cell\/X.env.kindOf x=some .free)->∃c,X.env.cells.lookup x=some c
 cab:∀x c,X.fn x=true->X.env.cells.lookup x=some c->X.s₀.heap.objs.size<=c
 hd:X.calm=true->X.A.handled=none
 frames:X.A.frames=some X.stack
 stk:X.stack=X.outer\/(X.stack=X.env::X.outer/\X.env.frame=some X.env.locals)
 exf:∀b∈X.ex,b≠X.env.locals/\∀x c,X.env.cells.lookup x=some c->c≠b
 bs:∀b o,X.base.get? b=some o->X.s₀.heap.get? b=some o/\X.H₀ b=none
 bsz:X.base.objs.size<=X.s₀.heap.objs.size
 noex:∀b o,X.base.get? b=some o->b ∉ X.ex
 exfs:∀b∈X.ex,b ∉ X.fs
 funs:X.s₀.heap.FunFrames X.base X.outer
 frf:∀b∈X.fs,X.H₀ b=none
structure Inv (X:Cx) (pins:List (Addr × Obj)) (σ:List (Option V)) (H:Hp) (s:Shared):Prop where
 ok:X.Ok
 os:s.os=X.s₀.os
 bare:AllBare s.gens
 base:Un X.fs X.ex X.H₀ H X.s₀.heap s.heap
 loc:∃m,s.heap.Ns X.env.locals m/\∀(i:Nat) (x:Str) (v:V),X.N[i]?=some x->σ[i]?=some (some v)->Vis X.env.scope x->∃u,RelV v u/\Look X.env s.heap m x u
 cell:∀x c,X.env.cells.lookup x=some c->∃v,s.heap.IsCell c v
 free:H X.env.locals=none
 freeC:∀x c,X.env.cells.lookup x=some c->H c=none
 pin:∀p∈X.pn++pins,s.heap.get? p.1=some p.2/\H p.1=none/\p.1≠X.env.locals/\p.1 ∉ X.fs/\∀v,p.2.data≠.cell v
 hok:HOk X.prog X.w H s.heap
 len:σ.length=X.N.length
section
variable {X:Cx}{pins:List (Addr × Obj)}{σ:List (Option V)}{H H' : Hp}{s:Shared}{h' : Heap}
theorem Cx.Ok.nofr (ok:X.Ok){b:Addr}{o:Obj}(e:X.base.get? b=some o):b ∉ X.fs:=λhb=>by
 have:=(ok.funs.mem hb).1;rw[e] at this;cases this
theorem Inv.bs (I:Inv X pins σ H s):∀b o,X.base.get? b=some o->s.heap.get? b=some o/\H b=none:=λb o e =>
 ⟨I.base.keep b o (I.ok.bs b o e).1 (I.ok.bs b o e).2 (I.ok.nofr e) (I.ok.noex b o e),I.base.free b o (I.ok.bs b o e).1 (I.ok.bs b o e).2 (I.ok.noex b o e)⟩
theorem Inv.bk (I:Inv X pins σ H s):∀b o,X.base.get? b=some o->s.heap.get? b=some o:=λb o e=>(I.bs b o e).1
theorem Inv.mod (I:Inv X pins σ H s):Mod X.K X.mg X.base:=I.ok.mod
theorem Inv.kIn (I:Inv X pins σ H s):X.K.In s.heap:=I.ok.mod.kin.keeps I.bk
theorem Inv.lt (I:Inv X pins σ H s):X.env.locals<s.heap.objs.size:=let ⟨_,hn,_⟩:=I.loc;hn.lt
theorem Inv.sz (I:Inv X pins σ H s):X.s₀.heap.objs.size<=s.heap.objs.size:=Ci I.ok.above (Nat.le_of_lt I.lt)
theorem Inv.nofs (I:Inv X pins σ H s){a:Addr}(h:s.heap.objs.size<=a):a ∉ X.fs:=λhb=>by
 obtain⟨_,o,ho,_⟩:=I.ok.funs.mem hb;exact absurd (Az (Ar ho) (Ci I.sz h)) (Cg _)
theorem Inv.cne (I:Inv X pins σ H s):∀x c,X.env.cells.lookup x=some c->c≠X.env.locals:=λx c e z=>by
 obtain⟨v,o,ho,hd⟩:=I.cell x c e;obtain⟨m,⟨o',es,ep,ho',hd',_⟩,_⟩:=I.loc;rw[z,ho'] at ho;cases ho;rw[hd'] at hd;cases hd
theorem Inv.funs (I:Inv X pins σ H s):s.heap.FunFrames X.base X.outer:=by
  have all:∀(l:List Env),(∀b∈frs l,b∈X.fs)->X.s₀.heap.FunFrames X.base l->s.heap.FunFrames X.base l:=by
    intro l
    induction l with
    |nil=>intro _ _;trivial
    | cons env r ih =>
      intro hs hl;obtain⟨hk,⟨L,o,hf,hn,ho,hd⟩,hr⟩:=hl;have hL:L∈X.fs:=hs L (by unfold frs;rw[Gy,hf];exact Ao);obtain⟨sl,e⟩:=I.base.slot L o ho (I.ok.frf L hL) hL λz=>I.ok.exfs L z hL;exact⟨hk,⟨L,_,hf,hn,e,hd⟩,ih (λb hb=>hs b (by unfold frs;rw[Gy,hf];exact Aj _ hb)) hr⟩
  exact all X.outer (λ_ hb=>hb) I.ok.funs
theorem Inv.stack (I:Inv X pins σ H s):s.heap.FunFrames X.base X.stack:=by
 rcases I.ok.stk with e|⟨e,hf⟩
 ·rw[e];exact I.funs
 ·rw[e];obtain⟨m,hn,_⟩:=I.loc;refine .cons (by rw[I.ok.kind];decide) hf hn ?_ I.funs;exact Heap.get?_none_of_le (Ci I.ok.bsz I.ok.above)
theorem Inv.stkSub (I:Inv X pins σ H s):∀b∈frs X.stack,b∈X.env.locals::X.fs:=λb hb=>by
 rcases I.ok.stk with e|⟨e,hf⟩
 ·rw[e] at hb;exact Aj _ hb
 ·rw[e] at hb;unfold frs at hb;rw[Gy,hf] at hb;exact hb
theorem Inv.stkFree (I:Inv X pins σ H s):∀b∈frs X.stack,H b=none:=λb hb=>by
 rcases Ap.mp (I.stkSub b hb) with e|hb
 ·rw[e];exact I.free
 ·obtain⟨_,o,ho,_⟩:=I.ok.funs.mem hb;exact I.base.free b o ho (I.ok.frf b hb) λz=>I.ok.exfs b z hb
theorem Inv.step {g' : Array GenState}{t' : Nat}{d' : Drawn}{ch:List Addr} (I:Inv X pins σ H s)
  (hch:∀b∈ch,(b∈X.ex\/X.s₀.heap.objs.size<=b)/\b≠X.env.locals/\(∀x c,X.env.cells.lookup x=some c->c≠b)/\∀p∈X.pn++pins,p.1≠b)
  (keep:∀b o,b≠X.env.locals->b ∉ X.fs->b ∉ ch->s.heap.get? b=some o->H b=none->h'.get? b=some o)
  (slot:∀b o,b≠X.env.locals->b∈X.fs->b ∉ ch->s.heap.get? b=some o->H b=none->∃sl,h'.get? b=some { o with slots:=sl }) (free:∀b o,b ∉ ch->s.heap.get? b=some o->H b=none->H' b=none)
  (there:∀b o,b ∉ ch->s.heap.get? b=some o->∃o',h'.get? b=some o')
  (tups:∀b xs,H b=some (.tup xs)->H' b=some (.tup xs)) (frzs:∀b o u,H b=some (.frz o u)->H' b=some (.frz o u)) (tbls:∀b ps,H b=some (.tbl ps)->∃more,H' b=some (.tbl (ps++more)))
  (ns:∀m,s.heap.Ns X.env.locals m->h'.Ns X.env.locals m) (hok:HOk X.prog X.w H' h') (hg:AllBare g') :
  Inv X pins σ H' { s with heap:=h',gens:=g',drawn:=d',toks:=t' }:=by
 have neL:∀b o,X.s₀.heap.get? b=some o->b≠X.env.locals:=λb o e=>Be (Az (Ar e) I.ok.above);have neC:∀b o,X.s₀.heap.get? b=some o->b ∉ X.ex->b ∉ ch:=λb o e hx hb=>by
  rcases (hch b hb).1 with z|z
  ·exact hx z
  ·exact absurd (Az (Ar e) z) (Cg _)
 have cellK:∀x c,X.env.cells.lookup x=some c->∀v,s.heap.IsCell c v->h'.IsCell c v:=λx c e v ⟨o,ho,hd⟩=>by
  have nch:c ∉ ch:=λz=>(hch c z).2.2.1 x c e rfl;by_cases hc:c∈X.fs
  ·obtain⟨sl,q⟩:=slot c o (I.cne x c e) hc nch ho (I.freeC x c e);exact⟨_,q,hd⟩
  ·exact⟨o,keep c o (I.cne x c e) hc nch ho (I.freeC x c e),hd⟩
 refine⟨I.ok,I.os,hg,⟨λb o e n hb hx=>?_,λb o e n hb hx=>?_,λb o e n hx=>?_,λb o e hx=>?_,λb xs e=>tups b xs (I.base.tups b xs e),λb o xs e=>frzs b o xs (I.base.frzs b o xs e),λb ps e=>?_⟩,?_,λx c e=>?_,?_,λx c e=>?_,λp hp=>?_,hok,I.len⟩
 ·exact keep b o (neL b o e) hb (neC b o e hx) (I.base.keep b o e n hb hx) (I.base.free b o e n hx)
 ·obtain⟨sl,e1⟩:=I.base.slot b o e n hb hx;obtain⟨sl',e2⟩:=slot b _ (neL b o e) hb (neC b o e hx) e1 (I.base.free b o e n hx);exact⟨sl',e2⟩
 ·obtain⟨o', e1⟩:=I.base.there b o e hx;exact free b o' (neC b o e hx) e1 (I.base.free b o e n hx)
 ·obtain⟨o', e1⟩:=I.base.there b o e hx;exact there b o' (neC b o e hx) e1
 ·obtain⟨m1,e1⟩:=I.base.tbls b ps e;obtain⟨m2,e2⟩:=tbls b _ e1;exact⟨m1++m2,by rw[e2,Array.append_assoc]⟩
 ·obtain⟨m,hn,hl⟩:=I.loc;refine⟨m,ns m hn,λi x v e1 e2 e3=>?_⟩;obtain⟨u,r,l⟩:=hl i x v e1 e2 e3;refine⟨u,r,?_⟩;rcases l with l|⟨k,c,e,z⟩
  ·exact .inl l
  ·exact .inr ⟨k,c,e,cellK x c e _ z⟩
 ·obtain⟨v,z⟩:=I.cell x c e;exact⟨v,cellK x c e v z⟩
 ·obtain⟨m,⟨o,_,_,ho,_⟩,_⟩:=I.loc;exact free _ o (λz=>(hch _ z).2.1 rfl) ho I.free
 ·obtain⟨v,o,ho,hd⟩:=I.cell x c e;exact free c o (λz=>(hch c z).2.2.1 x c e rfl) ho (I.freeC x c e)
 ·obtain⟨e,n,ne,nf,d⟩:=I.pin p hp;have nch:p.1 ∉ ch:=λz=>(hch p.1 z).2.2.2 p hp rfl;exact⟨keep p.1 p.2 ne nf nch e n,free p.1 p.2 nch e n,ne,nf,d⟩
theorem Inv.un {t' : Nat}(I:Inv X pins σ H s)(u:Un X.fs [] H H' s.heap h')(hok:HOk X.prog X.w H' h'):Inv X pins σ H' { s with heap:=h',toks:=t' }:=by
 obtain⟨m,⟨o,es,ep,ho,r⟩,_⟩:=id I.loc;obtain⟨sl,hL⟩:=u.any ho I.free (by simp);exact I.step (g':=s.gens) (d':=s.drawn) (ch:=[]) (λ_ z=>nomatch z) (λb o _ hb _ e n=>u.keep b o e n hb (by simp)) (λb o _ hb _ e n=>u.slot b o e n hb (by simp)) (λb o _ e n=>u.free b o e n (by simp)) (λb o _ e=>u.there b o e (by simp)) u.tups u.frzs u.tbls (λm' hm=>by
  obtain⟨o',es',ep',ho',r'⟩:=hm;rw[ho] at ho';cases ho';exact⟨_,es',ep',hL,r'⟩) hok I.bare
theorem Inv.call {g' : Array GenState}{t' : Nat}{d' : Drawn}{ch:List Addr} (I:Inv X pins σ H s) (u:Un (frs X.stack) ch H H' s.heap h') (hok:HOk X.prog X.w H' h') (hg:AllBare g')
  (hch:∀b∈ch,(b∈X.ex\/X.s₀.heap.objs.size<=b)/\b≠X.env.locals/\(∀x c,X.env.cells.lookup x=some c->c≠b)/\∀p∈X.pn++pins,p.1≠b) :
  Inv X pins σ H' { s with heap:=h',gens:=g',drawn:=d',toks:=t' }:=by
 obtain⟨m,⟨o,es,ep,ho,r⟩,_⟩:=id I.loc;obtain⟨sl,hL⟩:=u.any ho I.free λz=>(hch _ z).2.1 rfl;exact I.step (ch:=ch) hch (λb o hL hb hc e n=>u.keep b o e n (λz=>(Ap.mp (I.stkSub b z)).elim hL hb) hc) (λb o _ _ hc e n=>u.any e n hc) (λb o hc e n=>u.free b o e n hc) (λb o hc e=>u.there b o e hc) u.tups u.frzs u.tbls (λm' hm=>by
  obtain⟨o',es',ep',ho',r'⟩:=hm;rw[ho] at ho';cases ho';exact⟨_,es',ep',hL,r'⟩) hok hg
theorem Inv.turned {t' : Nat}{it:Addr} (I:Inv X pins σ H s) (k:∀b o,b≠it->s.heap.get? b=some o->h'.get? b=some o) (hn:H it=none) (hL:it≠X.env.locals)
  (h1:it∈X.ex\/X.s₀.heap.objs.size<=it) (h2:∀x c,X.env.cells.lookup x=some c->c≠it) (h3:∀p∈X.pn++pins,p.1≠it):Inv X pins σ H { s with heap:=h',toks:=t' }:=by
 have nit:∀b u,H b=some u->b≠it:=λb u e z=>by rw[z,hn] at e;cases e
 refine I.step (g':=s.gens) (d':=s.drawn) (ch:=[it]) (λb hb=>?_) (λb o _ _ hc e _=>k b o (λz=>hc (by simp [z])) e) (λb o _ _ hc e _=>⟨o.slots,k b o (λz=>hc (by simp [z])) e⟩) (λ_ _ _ _ n=>n)
  (λb o hc e=>⟨o,k b o (λz=>hc (by simp [z])) e⟩) (λ_ _ e=>e) (λ_ _ _ e=>e) (λb ps e=>⟨#[],by rw[e];simp⟩) (λm hm=>?_) (λb u e=>?_) I.bare
 ·have e : b = it:=by simpa using hb
  subst e;exact⟨h1,hL,h2,h3⟩
 ·obtain⟨o,es,ep,ho,r⟩:=hm;exact⟨o,es,ep,k _ o (Ne.symm hL) ho,r⟩
 ·refine (I.hok b u e).stay (λc v hc q=>k c v ?_ q) (λ_ q=>q) λ_ _ q=>q;rcases hc with z|z
  ·rw[z];exact nit b u e
  ·exact nit c _ z
theorem Inv.tok (I:Inv X pins σ H s)(t:Nat):Inv X pins σ H { s with toks:=t }:=I.un (h':=s.heap) (t':=t) Un.refl I.hok
theorem Inv.kept {t' : Nat}(I:Inv X pins σ H s)(k:∀b u,s.heap.get? b=some u->h'.get? b=some u):Inv X pins σ H { s with heap:=h',toks:=t' }:=I.un (Un.kept k) (I.hok.kept k)
theorem Inv.laid {a:Addr}{o:HO}{t' : Nat} (I:Inv X pins σ H s) (k:∀b u,s.heap.get? b=some u->h'.get? b=some u) (hp:s.heap.objs.size<=a) (new:ObjOk X.prog X.w (upd H a o) h' a o) :
  Inv X pins σ (upd H a o) { s with heap:=h',toks:=t' }:=I.un (Un.laid k hp (I.hok.fresh hp)) (I.hok.laid k hp new)
theorem Inv.write {x e:Addr}{o:HO}{t' : Nat} (I:Inv X pins σ H s) (mu:Mut (H x)) (he:e=x\/H e=some (.own x)) (k:∀b u,b≠e->s.heap.get? b=some u->h'.get? b=some u) (heo:∃u,h'.get? e=some u)
  (new:ObjOk X.prog X.w (upd H x o) h' x o):Inv X pins σ (upd H x o) { s with heap:=h',toks:=t' }:=I.un (Un.write mu he k heo) (I.hok.write mu he k heo new)
theorem Inv.pins_of {pins' : List (Addr × Obj)}(I:Inv X pins σ H s)(h:∀p∈pins',s.heap.get? p.1=some p.2/\H p.1=none/\p.1≠X.env.locals/\p.1 ∉ X.fs/\∀v,p.2.data≠.cell v):Inv X pins' σ H s :=
 ⟨I.ok,I.os,I.bare,I.base,I.loc,I.cell,I.free,I.freeC,λp hp=>(Bj.mp hp).elim (λz=>I.pin p (List.mem_append_left _ z)) (h p),I.hok,I.len⟩
theorem zry {N:List Str}(hN:N.Nodup){i j:Nat}{x:Str}(a:N[i]?=some x)(b:N[j]?=some x):i=j:=by
 obtain⟨h1,e1⟩:=Ak.mp a;obtain⟨h2,e2⟩:=Ak.mp b;exact (List.getElem_inj hN).mp (e1.trans e2.symm)
theorem zk4 {M:Model}{A:Around}{E:Value->Shared->Prop}{i:Nat}{x:Str}{v:V}{u:Value}{Q:Unit->Shared->Prop} (I:Inv X pins σ H s) (hN:X.N.Nodup) (hi:X.N[i]?=some x) (hx:Loc X.env.scope x) (r:RelV v u)
  (h:∀s',Inv X pins (σ.set i (some v)) H s'->(∃a,Heap.SameBut a s.heap s'.heap/\(a=X.env.locals\/X.env.cells.lookup x=some a))->Q () s') (hf:X.fn x=true\/X.env.scope.names.lookup x=some .local:=by first|exact .inl rfl|exact .inr rfl|assumption):wpAny M A (storeName X.env x u) Q E s:=by
 obtain⟨m,hn,hl⟩:=id I.loc;have hcls:(X.env.scope.kind == .class || (X.env.scope.kind == .module && X.env.locals != X.env.globals))=false:=by rw[I.ok.kind];rfl
 have hiσ:i<σ.length:=by rw[I.len];exact (Ak.mp hi).1
 have cne:=I.cne;have tracked:∀{a:Addr}{h' : Heap},(∃o,s.heap.get? a=some o/\H a=none)->Heap.SameBut a s.heap h'->HOk X.prog X.w H h':=λ{a h'} ha hs b ob e=>by
  obtain⟨_,_,hfree⟩:=ha;refine (I.hok b ob e).stay (λc w' hc q=>(hs.2 c ?_).trans q) (λ_ q=>q) λ_ _ q=>q;rintro rfl;rcases hc with rfl|hc
  ·rw[hfree] at e;cases e
  ·rw[hfree] at hc;cases hc
 rcases hx with hk|hk
 ·refine wpAny_storeName_local hk hn (λh' hn' hs => ?_) hcls;obtain⟨oL,_,_,hoL,_⟩:=id hn;refine h _ ⟨I.ok,I.os,I.bare,⟨λb o e n hb hx=>?_,λb o e n hb hx=>?_,I.base.free,λb o e hx=>?_,I.base.tups,I.base.frzs,I.base.tbls⟩,⟨_,hn',λj y v' e1 e2 e3=>?_⟩,λy c e=>?_,I.free,I.freeC,λp hp=>?_,tracked ⟨oL,hoL,I.free⟩ hs,by simpa using I.len⟩ ⟨_,hs,.inl rfl⟩
  ·exact (hs.2 b (Be (Az (Ar e) I.ok.above))).trans (I.base.keep b o e n hb hx)
  ·obtain⟨sl,e1⟩:=I.base.slot b o e n hb hx;exact⟨sl,(hs.2 b (Be (Az (Ar e) I.ok.above))).trans e1⟩
  ·obtain⟨o', e1⟩:=I.base.there b o e hx;exact⟨o',(hs.2 b (Be (Az (Ar e) I.ok.above))).trans e1⟩
  ·by_cases hj : j = i
   ·subst hj;rw[hi] at e1;cases e1;rw[Dk hiσ] at e2;cases e2;exact⟨u,r,.inl ⟨hk,by simp⟩⟩
   ·rw[Cs (Ne.symm hj)] at e2;obtain⟨u',r',q⟩:=hl j y v' e1 e2 e3;refine⟨u',r',?_⟩;rcases q with⟨k,e⟩|⟨k,c,e,z⟩
    ·refine .inl ⟨k, ?_⟩;have:y≠x:=λe=>hj (zry hN e1 (e ▸ hi));simp [this,e]
    ·exact .inr ⟨k,c,e,z.sameBut hs (cne y c e)⟩
  ·obtain⟨w', z⟩:=I.cell y c e;exact⟨w',z.sameBut hs (cne y c e)⟩
  ·obtain⟨e,n,ne,nf,d⟩:=I.pin p hp;exact⟨(hs.2 p.1 ne).trans e,n,ne,nf,d⟩
 ·have hfn:X.fn x=true:=by
   rcases hf with z|z
   ·exact z
   ·rw[z] at hk;cases hk
  obtain⟨c,hc⟩:=I.ok.has x (.inl hk);obtain⟨w',z⟩:=I.cell x c hc;refine wpAny_storeName_cell I.ok.kind hk hc z (λh' hc' hs=>?_);obtain⟨oc,hoc,hocd⟩:=id z;refine h { s with heap:=h' } ⟨I.ok,I.os,I.bare,⟨λb o e n hb hx=>?_,λb o e n hb hx=>?_,I.base.free,λb o e hx=>?_,I.base.tups,I.base.frzs,I.base.tbls⟩,⟨m,hn.sameBut hs (Ne.symm (cne x c hc)),λj y v' e1 e2 e3=>?_⟩,λy c' e=>?_,I.free,I.freeC,λp hp=>?_,tracked ⟨oc,hoc,I.freeC x c hc⟩ hs,by simpa using I.len⟩ ⟨c,hs,.inr hc⟩
  ·exact (hs.2 b (Be (Az (Ar e) (I.ok.cab x c hfn hc)))).trans (I.base.keep b o e n hb hx)
  ·obtain⟨sl,e1⟩:=I.base.slot b o e n hb hx;exact⟨sl,(hs.2 b (Be (Az (Ar e) (I.ok.cab x c hfn hc)))).trans e1⟩
  ·obtain⟨o', e1⟩:=I.base.there b o e hx;exact⟨o',(hs.2 b (Be (Az (Ar e) (I.ok.cab x c hfn hc)))).trans e1⟩
  ·by_cases hj : j = i
   ·subst hj;rw[hi] at e1;cases e1;rw[Dk hiσ] at e2;cases e2;exact⟨u,r,.inr ⟨.inl hk,c,hc,hc'⟩⟩
   ·rw[Cs (Ne.symm hj)] at e2;obtain⟨u',r',q⟩:=hl j y v' e1 e2 e3;refine⟨u',r',?_⟩;rcases q with q|⟨k,c',e,z'⟩
    ·exact .inl q
    ·refine .inr ⟨k,c', e,z'.sameBut hs ?_⟩;rintro rfl;exact hj (zry hN e1 (I.ok.inj _ _ _ e hc ▸ hi))
  ·by_cases hcc : c' = c
   ·subst hcc;exact⟨_,hc'⟩
   ·obtain⟨w2,z2⟩:=I.cell y c' e;exact⟨w2,z2.sameBut hs hcc⟩
  ·obtain⟨e,n,ne,nf,d⟩:=I.pin p hp;refine⟨(hs.2 p.1 ?_).trans e,n,ne,nf,d⟩;intro q;rw[q,hoc] at e;have q' : oc=p.2:=sI e;exact d w' (by rw[<-q'];exact hocd)
theorem zeb {M:Model}{A:Around}{E:Value->Shared->Prop}{i:Nat}{x:Str}{v:V}{u:Value}{Q:Unit->Shared->Prop} (I:Inv X pins σ H s) (hN:X.N.Nodup) (hi:X.N[i]?=some x) (hx:Loc X.env.scope x) (r:RelV v u)
  (h:∀s',Inv X pins (σ.set i (some v)) H s'->Q () s') (hf:X.fn x=true\/X.env.scope.names.lookup x=some .local:=by first|exact .inl rfl|exact .inr rfl|assumption):wpAny M A (storeName X.env x u) Q E s :=
 zk4 I hN hi hx r (λs' I' _=>h s' I') hf
theorem Inv.call' {s' : Shared}{ch:List Addr} (I:Inv X pins σ H s) (ho:s'.os=s.os) (u:Un (frs X.stack) ch H H' s.heap s'.heap) (hok:HOk X.prog X.w H' s'.heap) (hg:AllBare s'.gens)
  (hch:∀b∈ch,(b∈X.ex\/X.s₀.heap.objs.size<=b)/\b≠X.env.locals/\(∀x c,X.env.cells.lookup x=some c->c≠b)/\∀p∈X.pn++pins,p.1≠b):Inv X pins σ H' s':=by
 obtain⟨h',g',d',t',o'⟩:=s';have e:o'=s.os:=ho;subst e;exact I.call (g':=g') (t':=t') (d':=d') u hok hg hch
end
noncomputable abbrev XK:=Value->Option Addr->Hp->Prop
noncomputable abbrev St:=List (Option V)
noncomputable abbrev VK:=V->Hp->Prop
noncomputable abbrev TE:=St->Hp->VK->Prop
noncomputable abbrev TT:=St->Hp->(Bool->Hp->Prop)->Prop
noncomputable abbrev TA:=St->Hp->(List V->Hp->Prop)->Prop
structure Ends where
 nx:St->Hp->Prop
 rt:VK
 bk:St->Hp->Prop:=λ_ _=>False
 ct:St->Hp->Prop:=λ_ _=>False
noncomputable abbrev TS:=Ends->St->Hp->Prop
noncomputable def EP (X:Cx) (pins:List (Addr × Obj)) (σ:St) (Q:VK) (u:Value) (s' : Shared):Prop:=∃v H',Inv X pins σ H' s'/\RelV v u/\Q v H'
noncomputable def TP (X:Cx) (pins:List (Addr × Obj)) (σ:St) (Q:Bool->Hp->Prop) (b:Bool) (s' : Shared):Prop:=∃H',Inv X pins σ H' s'/\Q b H'
noncomputable def AP (X:Cx) (pins:List (Addr × Obj)) (σ:St) (Q:List V->Hp->Prop) (us:List Value) (s' : Shared):Prop:=∃vs H',Inv X pins σ H' s'/\Vals vs us/\Q vs H'
noncomputable def SP (X:Cx) (pins:List (Addr × Obj)) (D:Ends) (f:Flow) (s' : Shared):Prop :=
 match f with
 |.next=>∃σ' H',Inv X pins σ' H' s'/\D.nx σ' H'
 |.brk=>∃σ' H',Inv X pins σ' H' s'/\D.bk σ' H'
 |.cont=>∃σ' H',Inv X pins σ' H' s'/\D.ct σ' H'
 |.ret u=>∃v σ' H',Inv X pins σ' H' s'/\RelV v u/\D.rt v H'
noncomputable def PE (X:Cx) (e:Expr) (t:TE):Prop :=
 ∀(pins:List (Addr × Obj)) (s:Shared) (σ:St) (H:Hp) (Q:VK),Inv X pins σ H s->t σ H Q->wpAny #v[3,7] X.A (eval e X.env) (EP X pins σ Q) X.xe s
noncomputable def PT (X:Cx) (e:Expr) (t:TT):Prop :=
 ∀(pins:List (Addr × Obj)) (s:Shared) (σ:St) (H:Hp) (Q:Bool->Hp->Prop),Inv X pins σ H s->t σ H Q->wpAny #v[3,7] X.A (isTrue e X.env (eval e X.env)) (TP X pins σ Q) X.xe s
noncomputable def PW (X:Cx) (e:Expr) (t:TT):Prop :=
 ∀(whole:Sem Value) (pins:List (Addr × Obj)) (s:Shared) (σ:St) (H:Hp) (Q:Bool->Hp->Prop),Inv X pins σ H s->t σ H Q->wpAny #v[3,7] X.A (isTrue e X.env whole) (TP X pins σ Q) X.xe s
theorem PW.pt {X:Cx}{e:Expr}{t:TT}(h:PW X e t):PT X e t:=h _
noncomputable def PA (X:Cx) (es:List Expr) (t:TA):Prop :=
 ∀(pos:Pos) (pins:List (Addr × Obj)) (s:Shared) (σ:St) (H:Hp) (Q:List V->Hp->Prop),Inv X pins σ H s->t σ H Q->wpAny #v[3,7] X.A (spliced (backTo pos (starEach es X.env))) (AP X pins σ Q) X.xe s
noncomputable def PS (X:Cx) (st:Stmt) (t:TS):Prop :=
 ∀(pins:List (Addr × Obj)) (s:Shared) (σ:St) (H:Hp) (D:Ends),Inv X pins σ H s->t D σ H->wpAny #v[3,7] X.A (exec st X.env) (SP X pins D) X.xe s
noncomputable def PSs (X:Cx) (st:List Stmt) (t:TS):Prop :=
 ∀(pins:List (Addr × Obj)) (s:Shared) (σ:St) (H:Hp) (D:Ends),Inv X pins σ H s->t D σ H->wpAny #v[3,7] X.A (execs st X.env) (SP X pins D) X.xe s
theorem thn {α:Type}{t:Sem α}{Q Q' : α->Shared->Prop}{M:Model}{A:Around}{E:Value->Shared->Prop}{s:Shared}(h:wpAny M A t Q E s)(hQ:∀a s,Q a s->Q' a s):wpAny M A t Q' E s:=Cj h hQ λ_ _ x=>x
section
variable {X:Cx}
theorem bin {a b:Expr}{ta tb:TE} (ha:PE X a ta) (hb:PE X b tb) {pins:List (Addr × Obj)}{s:Shared}{σ:St}{H:Hp}{R:V->V->Hp->Prop} (I:Inv X pins σ H s) (h:ta σ H fun x H1=>tb σ H1 fun y H2=>R x y H2)
  {α:Type}{Q:α->Shared->Prop}{f:Value->Value->Sem α}
  (hf:∀v u s2 x y H2,Inv X pins σ H2 s2->RelV x v->RelV y u->R x y H2->wpAny #v[3,7] X.A (f v u) Q X.xe s2) :
  wpAny #v[3,7] X.A (eval a X.env) (λv s₁=>wpAny #v[3,7] X.A (eval b X.env) (λu s₂=>wpAny #v[3,7] X.A (f v u) Q X.xe s₂) X.xe s₁) X.xe s:=by
 refine thn (ha pins s σ H _ I h) λv s1 ⟨x,H1,I1,r1,q1⟩=>?_;refine thn (hb pins s1 σ H1 _ I1 q1) λu s2 ⟨y,H2,I2,r2,q2⟩=>?_;exact hf v u s2 x y H2 I2 r1 r2 q2
noncomputable def tVar (i:Nat):TE:=λσ H Q=>∃v,σ[i]?=some (some v)/\Q v H
noncomputable def tC (v:V):TE:=λ_ H Q=>Q v H
theorem zu0 {i:Nat}{x:Str}{pos:Pos}(hN:X.N[i]?=some x)(hv:Vis X.env.scope x)(hd:(x == ("__debug__" : Str))=false:=by decide)(hcd:(x == ("__classdict__" : Str))=false:=by decide):PE X (.Name x pos) (tVar i):=by
 intro pins s σ H Q I h;obtain⟨v,e,h⟩:=h;obtain⟨m,hn,hl⟩:=I.loc;obtain⟨u,r,l⟩:=hl i x v hN e hv;have fin:EP X pins σ Q u s:=⟨v,H,I,r,h⟩;rcases l with⟨hk,hm⟩|⟨hk,c,hc,hcell⟩
 ·exact wpAny_Name (wpAny_loadName_local I.ok.kind hk hn hm fin) hd
 ·rcases hk with hk|hk
  ·exact wpAny_Name (wpAny_loadName_cell I.ok.kind hk hc hcell fin) hd
  ·exact wpAny_Name (wpAny_loadName_free I.ok.kind hk hc hcell fin hcd) hd
theorem z9g {i j pos}:PE X (.Constant (.int i) j pos) (tC (.int i)):=λ_ _ _ H _ I h=>wpAny_Constant_int ⟨.int i,H,I.tok _,⟨_,rfl⟩,h⟩
theorem ydh {b j pos}:PE X (.Constant (.bool b) j pos) (tC (.bl b)):=λ_ _ _ H _ I h=>Constant_bool ⟨.bl b,H,I,rfl,h⟩
theorem z9j {j pos}:PE X (.Constant .none j pos) (tC .non):=λ_ _ _ H _ I h=>Constant_none ⟨.non,H,I,rfl,h⟩
theorem z9w {x j pos}:PE X (.Constant (.str x) j pos) (tC (.str x)):=λ_ _ _ H _ I h=>Calls.Constant_str ⟨.str x,H,I.tok _,⟨_,rfl⟩,h⟩
noncomputable def Gl (X:Cx) (x:Str):Prop:=X.env.kindOf x=some .globalImplicit
theorem zvc {E:Value->Shared->Prop}{pins:List (Addr × Obj)}{s:Shared}{σ:St}{H:Hp}{x:Str}{u:Value}{pos:Pos}{Q:Value->Shared->Prop} (I:Inv X pins σ H s) (hg:Gl X x) (hm:X.mg x=some u) (h:Q u s)
  (hd:(x == ("__debug__" : Str))=false:=by decide):wpAny #v[3,7] X.A (eval (.Name x pos) X.env) Q E s :=
 Calls.Name_function_global I.ok.kind hg (Calls.loadGlobal_global (by rw[I.ok.glob];exact I.mod.glob.keeps I.bk) hm h) hd
theorem zdv {E:Value->Shared->Prop}{pins:List (Addr × Obj)}{s:Shared}{σ:St}{H:Hp}{x:Str}{u:Value}{pos:Pos}{Q:Value->Shared->Prop} (I:Inv X pins σ H s) (hg:Gl X x) (hm:X.mg x=none) (hv:bootBuiltins x=some u) (h:Q u s)
  (hn:x≠"__name__" := by decide) (hd:(x == ("__debug__" : Str))=false:=by decide):wpAny #v[3,7] X.A (eval (.Name x pos) X.env) Q E s:=by
 obtain⟨mb,h1,h2⟩:=I.mod.blt;exact Calls.Name_function_global I.ok.kind hg (Calls.loadGlobal_builtin (by rw[I.ok.glob];exact I.mod.glob.keeps I.bk) hm (by rw[I.ok.blt];exact h1.keeps I.bk) ((h2 x hn).trans hv) h) hd
variable {a b:Expr}{ta tb:TE}{pos:Pos}
noncomputable def PC (X:Cx) (op:CmpOp) (a b:Expr) (t:TE):Prop :=
  ∀(pins:List (Addr × Obj)) (s:Shared) (σ:St) (H:Hp) (Q:VK),Inv X pins σ H s->t σ H Q ->
    wpAny #v[3,7] X.A (eval a X.env) (λv s₁=>wpAny #v[3,7] X.A (eval b X.env) (λu s₂=>wpAny #v[3,7] X.A (compareOp op v u) (EP X pins σ Q) X.xe s₂) X.xe s₁) X.xe s
theorem z1t (b:Expr){op:CmpOp}(h:op≠.In)(h2:op≠.NotIn):behindInMarks op b=false:=by
 have e1:(op == CmpOp.In)=false:=by cases op<;>first|rfl|exact absurd rfl h
 have e2:(op == CmpOp.NotIn)=false:=by cases op<;>first|rfl|exact absurd rfl h2
 cases b<;>simp [behindInMarks,e1,e2]
noncomputable def tB (t:TE):TT:=λσ H Q=>t σ H λx H1=>∃c,x=.bl c/\Q c H1
theorem yeh {op:CmpOp}{t:TE}(h:PC X op a b t)(h1:behindInMarks op b=false:=by first|exact z1t _ #v[0,9] #v[0,9]|rfl):PT X (.Compare a [op] [b] pos) (tB t):=by
 intro pins s σ H Q I hw;refine wpAny_isTrue_Compare1 (thn (h pins s σ H _ I hw) λv s1 h1=>thn h1 λu s2 h2=>thn h2 λc s3 ⟨x,H1,I1,r1,q1⟩=>?_) h1;obtain⟨d,rfl,q⟩:=q1;cases r1;exact Gn ⟨H1,I1,q⟩
theorem yab {e:Expr}{t:TE}(h:PE X e t)(he:∀whole,isTrue e X.env whole=(do let v <- whole;standAt e.pos;holding [v] (truthy v)):=by intro _;rfl):PT X e (tB t):=by
 intro pins s σ H Q I hw;refine isTrue_plain (thn (h pins s σ H _ I hw) λv s1 ⟨x,H1,I1,r1,q1⟩=>?_) (he _);obtain⟨d,rfl,q⟩:=q1;cases r1;exact Gn ⟨H1,I1,q⟩
variable {tA tB' : TT}{rest:List Expr}
noncomputable def tAnd (t u:TT):TT:=λσ H Q=>t σ H λc H1=>if c=true then u σ H1 Q else Q false H1
noncomputable def tOr (t u:TT):TT:=λσ H Q=>t σ H λc H1=>if c=true then Q true H1 else u σ H1 Q
noncomputable def tNot (t:TT):TT:=λσ H Q=>t σ H λc H1=>Q (!c) H1
theorem z5o (ha:PT X a tA):PW X (.BoolOp .And [a] pos) tA:=by
 intro wh pins s σ H Q I h;refine isTrue_and (thn (ha pins s σ H Q I h) λc s1 e=>?_);cases c with
 |true=>exact isTrue_and_nil e
 |false=>exact e
theorem yce (ha:PT X a tA):PW X (.BoolOp .Or [a] pos) tA:=by
 intro wh pins s σ H Q I h;refine isTrue_or (thn (ha pins s σ H Q I h) λc s1 e=>?_);cases c with
 |false=>exact isTrue_or_nil e
 |true=>exact e
theorem z9a (ha:PT X a tA)(hb:PW X (.BoolOp .And (b::rest) pos) tB'):PW X (.BoolOp .And (a::b::rest) pos) (tAnd tA tB'):=by
 intro wh pins s σ H Q I h;refine isTrue_and (thn (ha pins s σ H _ I h) λc s1 ⟨H1,I1,q1⟩=>?_);cases c with
 |true=>exact hb wh pins s1 σ H1 Q I1 q1
 |false=>exact⟨H1,I1,q1⟩
theorem yd8 (ha:PT X a tA)(hb:PW X (.BoolOp .Or (b::rest) pos) tB'):PW X (.BoolOp .Or (a::b::rest) pos) (tOr tA tB'):=by
 intro wh pins s σ H Q I h;refine isTrue_or (thn (ha pins s σ H _ I h) λc s1 ⟨H1,I1,q1⟩=>?_);cases c with
 |true=>exact⟨H1,I1,q1⟩
 |false=>exact hb wh pins s1 σ H1 Q I1 q1
theorem z93 (ha:PT X a tA):PT X (.UnaryOp .Not a pos) (tNot tA):=by
 intro pins s σ H Q I h;exact isTrue_not (ha pins s σ H (λc H1=>Q (!c) H1) I h)
noncomputable def tIf (t:TT) (ta tb:TE):TE:=λσ H Q=>t σ H λc H1=>if c=true then ta σ H1 Q else tb σ H1 Q
theorem z1e {c:Expr}(hc:PT X c tA)(ha:PE X a ta)(hb:PE X b tb):PE X (.IfExp c a b pos) (tIf tA ta tb):=by
 intro pins s σ H Q I h;refine wpAny_IfExp (thn (hc pins s σ H _ I h) λd s1 ⟨H1,I1,q1⟩=>?_);cases d with
 |true=>exact ha pins s1 σ H1 Q I1 q1
 |false=>exact hb pins s1 σ H1 Q I1 q1
end
noncomputable def SqL (K:PySem.W.Frag) (H:Hp) (a:Addr) (xs:List V):Prop :=
 Rd H a (.lst xs) \/
  ∃(o:Obj) (its:Array Value) (n:Nat),K.lookup a=some o/\o.cls=.type "list"/\o.dict=none/\o.data=.seq its n/\its.size<=sizeLine/\Vals xs its.toList
noncomputable def SqT (K:PySem.W.Frag) (H:Hp) (a:Addr) (xs:List V):Prop :=
 Rd H a (.tup xs) \/
  ∃(o:Obj) (its:Array Value) (n:Nat),K.lookup a=some o/\o.cls=.type "tuple"/\o.data=.seq its n/\its.size<=sizeLine/\Vals xs its.toList
noncomputable def absV:Value->Option V
 |.none=>some .non
 |.bool b=>some (.bl b)
 |.int i _=>some (.int i)
 |.str x _=>some (.str x)
 |.bytes b _=>some (.byt b)
 |.float b _=>some (.flt b)
 |.ref a=>some (.ref a)
 |.type n=>some (.ty n)
 |_=>none
theorem RelV.abs {x:V}{u:Value}(r:RelV x u):absV u=some x:=by
 cases x with
 |non=>cases r;rfl
 |bl _=>cases r;rfl
 |int _=>obtain⟨t,rfl⟩:=r;rfl
 |str _=>obtain⟨t,rfl⟩:=r;rfl
 |byt _=>obtain⟨t,rfl⟩:=r;rfl
 |flt _=>obtain⟨t,rfl⟩:=r;rfl
 |ref _=>cases r;rfl
 |ty _=>cases r;rfl
theorem RelV.inj {x y:V}{u:Value}(r:RelV x u)(q:RelV y u):x=y:=sI (r.abs.symm.trans q.abs)
theorem Vals.inj:∀{xs ys:List V}{us:List Value},Vals xs us->Vals ys us->xs=ys
 |_,_,_,.nil,.nil=>rfl
 |_,_,_,.cons r t,.cons r' t'=>by rw[r.inj r',Vals.inj t t']
section
variable {X:Cx}{pins:List (Addr × Obj)}{σ:St}{H:Hp}{s:Shared}{a:Addr}{xs ys:List V}
theorem Inv.list (I:Inv X pins σ H s)(h:SqL X.K H a xs):∃its:List Value,Vals xs its/\PlainL s.heap a its.toArray/\xs.length<=sizeLine:=by
 rcases h with h|⟨o,its,n,hk,hc,hd,hs,hz,r⟩
 ·obtain⟨z,its,n,r,e⟩:=h.ok I.hok;exact⟨its,r,⟨_,n,e,rfl,rfl,rfl⟩,z⟩
 ·refine⟨its.toList,r,⟨o,n,I.kIn a o hk,hc,hd,by simpa using hs⟩, ?_⟩;have e:=r.length;simp only [Bw] at e;omega
theorem Inv.tuple (I:Inv X pins σ H s)(h:SqT X.K H a xs):∃its:List Value,Vals xs its/\IsTup s.heap a its.toArray/\xs.length<=sizeLine:=by
 rcases h with h|⟨o,its,n,hk,hc,hs,hz,r⟩
 ·obtain⟨z,its,r,p⟩:=h.ok I.hok;exact⟨its,r,p,z⟩
 ·refine⟨its.toList,r,⟨o,I.kIn a o hk,hc,n,by simpa using hs⟩, ?_⟩;have e:=r.length;simp only [Bw] at e;omega
theorem Inv.list_inj (I:Inv X pins σ H s)(h:SqL X.K H a xs)(h' : SqL X.K H a ys):xs=ys:=by
 obtain⟨its,r,⟨o,n,e,_,_,d⟩,_⟩:=I.list h;obtain⟨its',r',⟨o',n',e',_,_,d'⟩,_⟩:=I.list h';rw[e] at e';cases e';rw[d] at d';injection d' with d1 _;have:its=its':=by simpa using congrArg Array.toList d1
 subst this;exact r.inj r'
theorem Inv.tuple_inj (I:Inv X pins σ H s)(h:SqT X.K H a xs)(h' : SqT X.K H a ys):xs=ys:=by
 obtain⟨its,r,⟨o,e,_,n,d⟩,_⟩:=I.tuple h;obtain⟨its',r',⟨o',e',_,n',d'⟩,_⟩:=I.tuple h';rw[e] at e';cases e';rw[d] at d';injection d' with d1 _;have:its=its':=by simpa using congrArg Array.toList d1
 subst this;exact r.inj r'
end
noncomputable abbrev Cx.wish (X:Cx) (E:Value->Shared->Prop):Cx:={ X with xe:=E }
noncomputable abbrev Cx.nox (X:Cx):Cx:=X.wish λ_ _=>False
theorem Cx.Ok.wish {X:Cx}(ok:X.Ok)(E:Value->Shared->Prop):(X.wish E).Ok :=
 ⟨ok.mod,ok.kind,ok.glob,ok.blt,ok.above,ok.inj,ok.has,ok.cab,ok.hd,ok.frames,ok.stk,ok.exf,ok.bs,ok.bsz,ok.noex,ok.exfs,ok.funs,ok.frf⟩
theorem Cx.Ok.unwish {X:Cx}{E:Value->Shared->Prop}(ok:(X.wish E).Ok):X.Ok :=
 ⟨ok.mod,ok.kind,ok.glob,ok.blt,ok.above,ok.inj,ok.has,ok.cab,ok.hd,ok.frames,ok.stk,ok.exf,ok.bs,ok.bsz,ok.noex,ok.exfs,ok.funs,ok.frf⟩
section
variable {X:Cx}{pins:List (Addr × Obj)}{σ:St}{H:Hp}{s:Shared}{E:Value->Shared->Prop}
theorem Inv.wish (I:Inv X pins σ H s)(E:Value->Shared->Prop):Inv (X.wish E) pins σ H s:=⟨I.ok.wish E,I.os,I.bare,I.base,I.loc,I.cell,I.free,I.freeC,I.pin,I.hok,I.len⟩
theorem Inv.unwish (I:Inv (X.wish E) pins σ H s):Inv X pins σ H s:=⟨I.ok.unwish,I.os,I.bare,I.base,I.loc,I.cell,I.free,I.freeC,I.pin,I.hok,I.len⟩
theorem SP.unwish {D:Ends}{f:Flow}{s' : Shared}(h:SP (X.wish E) pins D f s'):SP X pins D f s':=by
 cases f with
 |next=>obtain⟨σ',H',I,q⟩:=h;exact⟨σ',H',I.unwish,q⟩
 |brk=>obtain⟨σ',H',I,q⟩:=h;exact⟨σ',H',I.unwish,q⟩
 |cont=>obtain⟨σ',H',I,q⟩:=h;exact⟨σ',H',I.unwish,q⟩
 |ret u=>obtain⟨v,σ',H',I,r,q⟩:=h;exact⟨v,σ',H',I.unwish,r,q⟩
theorem PE.nox {e:Expr}{t:TE}(h:PE X.nox e t):PE X e t:=λpins s σ H Q I hw =>
 Cj (h pins s σ H Q (I.wish _) hw) (λ_ _ ⟨v,H',I',r,q⟩=>⟨v,H',I'.unwish,r,q⟩) λ_ _ z=>False.elim z
theorem PSs.nox {st:List Stmt}{t:TS}(h:PSs X.nox st t):PSs X st t:=λpins s σ H D I hw =>
 Cj (h pins s σ H D (I.wish _) hw) (λ_ _ q=>q.unwish) λ_ _ z=>False.elim z
end
section
variable {X:Cx}{st:Stmt}{rest:List Stmt}{t u:TS}{e:Expr}{te:TE}{pos:Pos}
noncomputable def z52:TS:=λD σ H=>D.nx σ H
noncomputable def tSeq (t u:TS):TS:=λD σ H=>t { D with nx:=u D } σ H
theorem z6z:PSs X [] z52:=λ_ _ σ H _ I h=>wpAny_execs_nil ⟨σ,H,I,h⟩
theorem z1d (h1:PS X st t) (h2:PSs X rest u):PSs X (st::rest) (tSeq t u):=by
  intro pins s σ H D I h;refine wpAny_execs_cons (thn (h1 pins s σ H { D with nx:=u D } I h) λf s1 q=>?_);cases f with
  | next =>
    obtain⟨σ',H',I',q⟩:=q;exact h2 pins s1 σ' H' D I' q
  |ret v=>exact q
  |brk=>exact q
  |cont=>exact q
theorem z6w (h1:PS X st t):PSs X [st] t:=by
 intro pins s σ H D I h;refine wpAny_execs_cons (thn (h1 pins s σ H D I h) λf s1 q=>?_);cases f with
 |next=>exact wpAny_execs_nil q
 |ret v=>exact q
 |brk=>exact q
 |cont=>exact q
theorem z5a:PS X (.Pass pos) z52:=λ_ _ σ H _ I h=>wpAny_Pass ⟨σ,H,I,h⟩
theorem Inv.quiet {pins:List (Addr × Obj)}{σ:St}{H:Hp}{s:Shared}(I:Inv X pins σ H s):interactive X.env=false:=by simp [interactive,I.ok.kind]
noncomputable def ya3 (te:TE):TS:=λD σ H=>te σ H λ_ H1=>D.nx σ H1
theorem z7x (he:PE X e te)(hs:swapsWith e none pos.line X.env=pure false:=by rfl):PS X (.Expr e pos) (ya3 te):=by
 intro pins s σ H D I h;exact wpAny_Expr_any (thn (he pins s σ H _ I h) λv s1 ⟨x,H1,I1,r1,q1⟩=>⟨σ,H1,I1,q1⟩) I.quiet hs
noncomputable def tRet (te:TE):TS:=λD σ H=>te σ H D.rt
theorem z4f (he:PE X e te):PS X (.Return (some e) pos) (tRet te):=by
 intro pins s σ H D I h;exact wpAny_Return_some (thn (he pins s σ H _ I h) λv s1 ⟨x,H1,I1,r1,q1⟩=>⟨x,σ,H1,I1,r1,q1⟩)
noncomputable def tIfS (c:TT) (t u:TS):TS:=λD σ H=>c σ H λb H1=>if b=true then t D σ H1 else u D σ H1
theorem ycl {c:Expr}{a b:List Stmt}{tc:TT}(hc:PT X c tc)(ha:PSs X a t)(hb:PSs X b u):PS X (.If c a b pos) (tIfS tc t u):=by
 intro pins s σ H D I h;refine wpAny_If (thn (hc pins s σ H _ I h) λd s1 ⟨H1,I1,q1⟩=>?_);cases d with
 |true=>exact ha pins s1 σ H1 D I1 q1
 |false=>exact hb pins s1 σ H1 D I1 q1
end
noncomputable abbrev TG:=V->St->Hp->(St->Hp->Prop)->Prop
noncomputable abbrev TGs:=List V->St->Hp->(St->Hp->Prop)->Prop
noncomputable def PG (X:Cx) (target:Expr) (t:TG):Prop :=
  ∀(pins:List (Addr × Obj)) (s:Shared) (σ:St) (H:Hp) (v:V) (u:Value) (Q:St->Hp->Prop),Inv X pins σ H s->RelV v u->t v σ H Q ->
    wpAny #v[3,7] X.A (assign target X.env u) (λ_ s'=>∃σ' H',Inv X pins σ' H' s'/\Q σ' H') X.xe s
noncomputable def PGs (X:Cx) (ts:List Expr) (t:TGs):Prop :=
  ∀(pins:List (Addr × Obj)) (s:Shared) (σ:St) (H:Hp) (vs:List V) (us:List Value) (Q:St->Hp->Prop),Inv X pins σ H s->Vals vs us->t vs σ H Q ->
    wpAny #v[3,7] X.A (assignInOrder ((assignEach ts X.env).map (·.2)) us) (λ_ s'=>∃σ' H',Inv X pins σ' H' s'/\Q σ' H') X.xe s
noncomputable abbrev TSet:=V->V->V->Hp->(Hp->Prop)->Prop
noncomputable def PSet (X:Cx) (t:TSet):Prop :=
  ∀(pins:List (Addr × Obj)) (s:Shared) (σ:St) (H:Hp) (o i v:V) (ov iv u:Value) (Q:Hp->Prop),Inv X pins σ H s->RelV o ov->RelV i iv->RelV v u->t o i v H Q ->
    wpAny #v[3,7] X.A (setItem ov iv u) (λ_ s'=>∃H',Inv X pins σ H' s'/\Q H') X.xe s
noncomputable abbrev TIp:=V->V->Hp->VK->Prop
noncomputable def PIp (X:Cx) (op:Operator) (t:TIp):Prop :=
  ∀(pins:List (Addr × Obj)) (s:Shared) (σ:St) (H:Hp) (x y:V) (v u:Value) (Q:VK),Inv X pins σ H s->RelV x v->RelV y u->t x y H Q ->
    wpAny #v[3,7] X.A (inplaceOp op v u) (EP X pins σ Q) X.xe s
section
variable {X:Cx}{pos:Pos}
noncomputable def ztg (i:Nat):TG:=λv σ H Q=>Q (σ.set i (some v)) H
theorem zum {i:Nat}{x:Str}(hN:X.N.Nodup)(hi:X.N[i]?=some x)(hx:Loc X.env.scope x)(hf:X.fn x=true\/X.env.scope.names.lookup x=some .local:=by first|exact .inl rfl|exact .inr rfl|assumption):PG X (.Name x pos) (ztg i):=by
 intro pins s σ H v u Q I r h;exact wpAny_assign_Name (zeb I hN hi hx r (λs' I'=>⟨_,H,I',h⟩) hf)
noncomputable def gNil:TGs:=λvs σ H Q=>vs=[]/\Q σ H
noncomputable def z8r (t:TG) (u:TGs):TGs:=λvs σ H Q=>∃v r,vs=v::r/\t v σ H λσ' H'=>u r σ' H' Q
theorem z5r:PGs X [] gNil:=by
 intro pins s σ H vs us Q I r h;obtain⟨e,h⟩:=h;subst e;cases r;exact assignInOrder_nil ⟨σ,H,I,h⟩
theorem z1u {e:Expr}{es:List Expr}{t:TG}{u:TGs} (h1:PG X e t) (h2:PGs X es u)
    (hs:(assignEach (e::es) X.env).map (·.2)=assign e X.env::(assignEach es X.env).map (·.2):=by rfl):PGs X (e::es) (z8r t u):=by
  intro pins s σ H vs us Q I r h;obtain⟨v,vr,e1,h⟩:=h;subst e1;cases r with
  | cons r rr =>
    rw[hs];refine assignInOrder_cons (thn (h1 pins s σ H _ _ _ I r h) λ_ s1 ⟨σ1,H1,I1,q1⟩=>?_);exact h2 pins s1 σ1 H1 _ _ Q I1 rr q1
noncomputable def gTup (K:PySem.W.Frag) (n:Nat) (t:TGs):TG:=λv σ H Q=>∃a xs,v=.ref a/\SqT K H a xs/\xs.length=n/\t xs σ H Q
theorem yb0 {es:List Expr}{k:Nat}{t:TGs}{n:Nat} (hc:X.calm=true) (h:PGs X es t)
  (hn:(assignEach es X.env).length=n:=by rfl) (hst:(assignEach es X.env).findIdx? (·.1)=none:=by rfl):PG X (.Tuple es k pos) (gTup X.K n t):=by
 intro pins s σ H v u Q I r hw;obtain⟨a,xs,e1,hq,hl,hw⟩:=hw;subst e1;cases r;obtain⟨its,rv,ht,hz⟩:=I.tuple hq;refine assign_Tuple_tuple (I.ok.hd hc) ht (by simp [hn,<-hl,rv.length]) hst λh' hx=>?_;have I1:Inv X pins σ H { s with heap:=h' }:=I.kept (t':=s.toks) λb o e=>hx b o (Be (Ar e)) e;exact h pins _ σ H xs _ Q I1 (by simpa using rv) hw
noncomputable def gSub (to ti:TE) (t:TSet):TG:=λv σ H Q=>to σ H λo H1=>ti σ H1 λi H2=>t o i v H2 λH3=>Q σ H3
theorem z4m {o i:Expr}{to ti:TE}{t:TSet} (ho:PE X o to) (hi:PE X i ti) (hs:PSet X t)
  (ha:∀v,assign (.Subscript o i pos) X.env v=(do
   let ov <- holding [v] (eval o X.env)
   let iv <- holding [v,ov] (eval i X.env)
   standAt pos
   holding [v,ov,iv] (setItem ov iv v)
   release [v,ov,iv] []):=by intro _;rfl):PG X (.Subscript o i pos) (gSub to ti t):=by
 intro pins s σ H v u Q I r h;rw[ha];refine Aa (Cr (thn (ho pins s σ H _ I h) λov s1 ⟨x,H1,I1,r1,q1⟩=>?_));refine Aa (Cr (thn (hi pins s1 σ H1 _ I1 q1) λiv s2 ⟨y,H2,I2,r2,q2⟩=>?_));refine Aa (Fe (Aa (Cr (thn (hs pins s2 σ H2 x y v ov iv u _ I2 r1 r2 r q2) λ_ s3 ⟨H3,I3,q3⟩=>?_))));exact wpAny_release ⟨σ,H3,I3,q3⟩
noncomputable def tAsg (te:TE) (g:TG):TS:=λD σ H=>te σ H λx H1=>g x σ H1 D.nx
theorem zt7 {tg e:Expr}{te:TE}{g:TG} (he:PE X e te) (hg:PG X tg g) (hs:swapsWithSole [tg] e pos.line X.env=pure false:=by rfl) (hw:swappedStores [tg] e X.env=pure none:=by rfl)
  (h1:(assignEach [tg] X.env).map (·.2)=[assign tg X.env]:=by rfl):PS X (.Assign [tg] e pos) (tAsg te g):=by
 intro pins s σ H D I h;refine wpAny_Assign_stores (thn (he pins s σ H _ I h) λv s1 ⟨x,H1,I1,r1,q1⟩=>?_) hs hw;rw[h1];exact thn (hg pins s1 σ H1 x v _ I1 r1 q1) λ_ s2 q=>q
theorem z3u {i:Nat}{x:Str}{e:Expr}{te:TE}{pos' : Pos} (hN:X.N.Nodup) (hi:X.N[i]?=some x) (hx:Loc X.env.scope x) (he:PE X e te) (hs:swapsWith e (some (.Name x pos')) pos.line X.env=pure false:=by rfl) (hf:X.fn x=true\/X.env.scope.names.lookup x=some .local:=by first | exact .inl rfl | exact .inr rfl | assumption) :
  PS X (.Assign [.Name x pos'] e pos) (tAsg te (ztg i)):=by
 intro pins s σ H D I h;refine wpAny_Assign_Name (thn (he pins s σ H _ I h) λv s1 ⟨y,H1,I1,r1,q1⟩=>?_) hs;exact zeb I1 hN hi hx r1 (λs2 I2=>⟨_,H1,I2,q1⟩) hf
noncomputable def tPar (i j:Nat) (ta:TA):TS:=λD σ H=>ta σ H λvs H1=>∃v w,vs=[v,w]/\D.nx ((σ.set i (some v)).set j (some w)) H1
theorem yaj {i j:Nat}{x y:Str}{a b:Expr}{ta:TA}{px py pt:Pos}{kt k2 pt2} (hc:X.calm=true) (hN:X.N.Nodup) (hi:X.N[i]?=some x) (hj:X.N[j]?=some y) (hij:i≠j)
    (hx:X.env.scope.names.lookup x=some .local) (hy:X.env.scope.names.lookup y=some .local) (ha:PA X [a,b] ta)
    (hw:swappedStores [.Tuple [.Name x px,.Name y py] kt pt] (.Tuple [a,b] k2 pt2) X.env=pure (some [x,y]))
    (hs:swapsWithSole [.Tuple [.Name x px,.Name y py] kt pt] (.Tuple [a,b] k2 pt2) pos.line X.env=pure false:=by rfl) :
    PS X (.Assign [.Tuple [.Name x px,.Name y py] kt pt] (.Tuple [a,b] k2 pt2) pos) (tPar i j ta):=by
  intro pins s σ H D I h;rw [exec_Assign_arm];refine Aa (Fe ?_);rw [hs];refine Aa (Af ?_);rw [if_neg (by decide)];refine Aa (Tuple_ (thn (ha _ pins s σ H _ I h) fun us s1 ⟨vs,H1,I1,r1,q1⟩=>?_));obtain ⟨v,w,e1,q1⟩:=q1;subst e1;obtain ⟨u1,u2,rfl,rv,rw'⟩ : ∃u1 u2,us=[u1,u2]/\RelV v u1/\RelV w u2:=by
    cases r1 with
    | cons p q =>
      cases q with
      | cons p' q' =>
        cases q';exact⟨_,_,rfl,p,p'⟩
  refine Bu ?_ (by show 2<=sizeLine;decide);have I2:Inv X pins σ H1 { s1 with heap:=s1.heap.push { cls:=.type "tuple",data:=.seq [u1,u2].toArray } }:=I1.kept (t':=s1.toks) λb o e=>Ac _ e;rw[hw];refine Aa (Af ?_);show wpAny #v[3,7] X.A (do rule "assign.swapped-stores";let items <- unpackItems (.ref s1.heap.objs.size) 2 none;assignInOrder [λv=>bindName X.env y v,λv=>bindName X.env x v] items.reverse;pure Flow.next) _ _ _;refine Aa (Cv (Aa (unpackItems_tuple (items:=#[u1,u2]) (I.ok.hd hc) (IsTup.new s1.heap _) λh' hx'=>?_)));have I3:=I2.kept (h':=h') (t':=s1.toks) λb o e=>hx' b o (Be (Ar e)) e;show wpAny _ _ (assignInOrder [λv=>bindName X.env y v,λv=>bindName X.env x v] [u2,u1] >>= λ_=>pure Flow.next) _ _ _;refine Aa (assignInOrder_cons (wpAny_bindName (zeb I3 hN hj (.inl hy) rw' (λs2 I4=>?_) (.inr hy))));refine assignInOrder_cons (wpAny_bindName (zeb I4 hN hi (.inl hx) rv (λs3 I5=>assignInOrder_nil (Af ?_)) (.inr hx)));rw[List.set_comm _ _ (Ne.symm hij)] at I5;exact⟨_,H1,I5,q1⟩
noncomputable def tAug (i:Nat) (te:TE) (ti:TIp):TS:=λD σ H=>∃x,σ[i]?=some (some x)/\te σ H λy H1=>ti x y H1 λz H2=>D.nx (σ.set i (some z)) H2
theorem zwl {i:Nat}{x:Str}{e:Expr}{te:TE}{op:Operator}{ti:TIp}{pos' : Pos} (hN:X.N.Nodup) (hi:X.N[i]?=some x) (hx:Loc X.env.scope x) (he:PE X e te) (ho:PIp X op ti) (hf:X.fn x=true\/X.env.scope.names.lookup x=some .local:=by first | exact .inl rfl | exact .inr rfl | assumption) :
  PS X (.AugAssign (.Name x pos') op e pos) (tAug i te ti):=by
 intro pins s σ H D I h;obtain⟨v,e1,h⟩:=h;obtain⟨m,hn,hl⟩:=I.loc;have vis:Vis X.env.scope x:=by rcases hx with k|k;exact .inl k;exact .inr (.inl k)
 obtain⟨u,r,l⟩:=hl i x v hi e1 vis;refine wpAny_AugAssign_Name ?_;have go:wpAny #v[3,7] X.A (eval e X.env) (λw s₂=>wpAny #v[3,7] X.A (inplaceOp op u w) (λr s₃=>wpAny #v[3,7] X.A (storeName X.env x r) (λ_=>SP X pins D .next) X.xe s₃) X.xe s₂) X.xe s:=by
  refine thn (he pins s σ H _ I h) λw s1 ⟨y,H1,I1,r1,q1⟩=>?_;refine thn (ho pins s1 σ H1 v y u w _ I1 r r1 q1) λz s2 ⟨zv,H2,I2,r2,q2⟩=>?_;exact zeb I2 hN hi hx r2 (λs3 I3=>⟨_,H2,I3,q2⟩) hf
 rcases l with⟨hk,hm⟩|⟨hk,c,hc,hcell⟩
 ·exact wpAny_loadName_local I.ok.kind hk hn hm go
 ·rcases hk with hk|hk
  ·exact wpAny_loadName_cell I.ok.kind hk hc hcell go
  ·rcases hx with k|k
   ·have : X.env.scope.names.lookup x = some .free:=hk;rw[k] at this;cases this
   ·have : X.env.scope.names.lookup x = some .free:=hk;rw[k] at this;cases this
end
section
variable {X:Cx}{pos:Pos}
noncomputable def z4c (c:TT) (tb:TS):TS:=λD σ H=>∃W:Nat->St->Hp->Prop,(∃m,W m σ H)/\∀m σ H,W m σ H ->
 c σ H λb H1=>if b=true then ∃N:St->Hp->Prop,(∀σ' H',N σ' H'->∃m',m' < m/\W m' σ' H')/\tb { D with nx:=N,ct:=N,bk:=D.nx } σ H1 else D.nx σ H1
theorem z10 {c:Expr}{body:List Stmt}{tc:TT}{tb:TS} (hp:PassesOwn #v[3,7] X.A X.env X.xe) (hc:PT X c tc) (hb:PSs X body tb):PS X (.While c body [] pos) (z4c tc tb):=by
  intro pins s σ H D I h;obtain⟨W,⟨m0,w0⟩,turn⟩:=h;refine wpAny_While (codeAny_whileLoop (λn s'=>∃σ' H',Inv X pins σ' H' s'/\W n σ' H') ?_ m0 ⟨σ,H,I,w0⟩);rintro n s1 ⟨σ1,H1,I1,w1⟩;refine Et hp (thn (hc pins s1 σ1 H1 _ I1 (turn n σ1 H1 w1)) λb s2 ⟨H2,I2,q2⟩=>?_);cases b with
  | true =>
    obtain⟨N,hN,q2⟩:=q2;rw[if_pos rfl];refine Et hp (thn (hb pins s2 σ1 H2 _ I2 q2) λf s3 q3=>?_);cases f with
    | next =>
      obtain⟨σ3,H3,I3,n3⟩:=q3;obtain⟨m',hm,w3⟩:=hN σ3 H3 n3;exact⟨m',hm,σ3,H3,I3,w3⟩
    | cont =>
      obtain⟨σ3,H3,I3,n3⟩:=q3;obtain⟨m',hm,w3⟩:=hN σ3 H3 n3;exact⟨m',hm,σ3,H3,I3,w3⟩
    |brk=>exact q3
    |ret v=>exact q3
  | false =>
    rw[if_neg Av];exact wpAny_execs_nil ⟨σ1,H2,I2,q2⟩
end
structure It where
 go:Nat->Hp->Prop
 yld:Nat->Hp->V->Hp->Prop
 stop:Nat->Hp->Prop
noncomputable def FpOk (X:Cx) (pins:List (Addr × Obj)) (H:Hp) (b:Addr):Prop :=
 H b=none/\b≠X.env.locals/\b ∉ X.fs/\(b∈X.ex\/X.s₀.heap.objs.size<=b)/\(∀x c,X.env.cells.lookup x=some c->c≠b)/\∀p∈X.pn++pins,p.1≠b
theorem Inv.fpOk {X:Cx}{pins:List (Addr × Obj)}{σ:St}{H H' : Hp}{s:Shared}{b:Addr}(I:Inv X pins σ H s)(hb:s.heap.objs.size<=b)(hn:H' b=none):FpOk X pins H' b:=by
 refine⟨hn,Nat.ne_of_gt (Az I.lt hb),I.nofs hb,.inr (Ci I.sz hb),λx c e z=>?_,λp hp z=>?_⟩
 ·obtain⟨v,q⟩:=I.cell x c e;exact absurd (Az q.lt (by rw[z];exact hb)) (Cg _)
 ·exact absurd (Az (Ar (I.pin p hp).1) (by rw[z];exact hb)) (Cg _)
structure Turn (P:Program) (w:World) (K:PySem.W.Frag) (tg:Expr) (J:It) (fp:List Addr) (it:Addr) (tn:Nat->Heap->Prop):Prop where
 mem:it∈fp
 obj:∀i h,tn i h->∀b∈fp,∃o,h.get? b=some o/\∀v,o.data≠.cell v
 keep:∀i h h',tn i h->(∀b∈fp,∀o,h.get? b=some o->h'.get? b=some o)->tn i h'
 item:∀(X:Cx),X.prog=P->X.w=w->X.K=K->X.calm=true->∀(i:Nat) (pins:List (Addr × Obj)) (s:Shared) (σ:St) (H:Hp) (E:Value->Shared->Prop),Inv X pins σ H s->(∀b∈fp,FpOk X pins H b)->tn i s.heap->J.go i H ->
  wpAny (model P w) X.A (pyNext (.ref it)) (λr s1=>∃u,r=some u /\
   wpAny (model P w) X.A (letOwnedTupleGo tg (.ref it) u) (λ_ s2=>∃x H',Inv X pins σ H' s2/\RelV x u/\J.yld i H x H'/\tn (i+1) s2.heap/\∀b∈fp,H' b=none) E s1) E s
 done:∀(X:Cx),X.prog=P->X.w=w->X.K=K->X.calm=true->∀(i:Nat) (pins:List (Addr × Obj)) (s:Shared) (σ:St) (H:Hp) (E:Value->Shared->Prop),Inv X pins σ H s->(∀b∈fp,FpOk X pins H b)->tn i s.heap->J.stop i H ->
  wpAny (model P w) X.A (pyNext (.ref it)) (λr s1=>r=none/\Inv X pins σ H s1) E s
 self:∀(A:Around) (i:Nat) (s:Shared) (Q:Value->Shared->Prop) (E:Value->Shared->Prop),tn i s.heap->Q (.ref it) s->wpAny (model P w) A (pyIter (.ref it)) Q E s
noncomputable abbrev TI:=St->Hp->(It->Hp->Prop)->Prop
noncomputable def PIE (X:Cx) (pins:List (Addr × Obj)) (σ:St) (tg:Expr) (R:It->Hp->Prop) (itv:Value) (s2:Shared):Prop :=
 ∃(it:Addr) (fp:List Addr) (tn:Nat->Heap->Prop) (J:It) (H' : Hp),itv=.ref it/\Inv X pins σ H' s2/\Turn X.prog X.w X.K tg J fp it tn/\tn 0 s2.heap/\(∀b∈fp,FpOk X pins H' b)/\R J H'
noncomputable def PI (X:Cx) (tg iter:Expr) (wi:TI):Prop :=
  ∀(pins:List (Addr × Obj)) (s:Shared) (σ:St) (H:Hp) (R:It->Hp->Prop),Inv X pins σ H s->wi σ H R ->
    wpAny #v[3,7] X.A (eval iter X.env) (λv s1=>wpAny #v[3,7] X.A (pyIter v) (PIE X pins σ tg R) X.xe s1) X.xe s
theorem zxm {M:Model}{A:Around}{E:Value->Shared->Prop}{s:Shared}{tg:Expr}{it:Addr}{u:Value}{o:Obj}{n:String}{vs:Array Value}{Q:Unit->Shared->Prop} (ho:s.heap.get? it=some o) (hc:o.cls=.type n) (hd:o.data=.fields vs)
    (hn:["enumerate","zip","dict_itemiterator","dict_reverseitemiterator","odict_iterator","itertools.zip_longest","itertools.pairwise"].contains n=false) (hQ:Q () s):wpAny M A (letOwnedTupleGo tg (.ref it) u) Q E s:=by
  unfold letOwnedTupleGo;cases tg<;>first
    |exact Af hQ
    | (cases u<;>first
        |exact Af hQ
        | (refine Aa (wpAny_load ho ?_)
           rw[hc,hd];show wpAny M A (if (["enumerate","zip","dict_itemiterator","dict_reverseitemiterator","odict_iterator","itertools.zip_longest","itertools.pairwise"].contains n && vs[0]? == some (rawInt _))=true then _ else _) Q E s;rw[if_neg (by intro h;rw[hn,Ea] at h;cases h)];exact Af hQ))
noncomputable def Itl (K:PySem.W.Frag) (a:Addr):It :=
 ⟨λi H=>∃xs x,SqL K H a xs/\xs[i]?=some x,λi H x H'=>H'=H/\∀xs,SqL K H a xs->xs[i]?=some x,λi H=>∃xs,SqL K H a xs/\xs.length<=i⟩
noncomputable def Itt (K:PySem.W.Frag) (a:Addr):It :=
 ⟨λi H=>∃xs x,SqT K H a xs/\xs[i]?=some x,λi H x H'=>H'=H/\∀xs,SqT K H a xs->xs[i]?=some x,λi H=>∃xs,SqT K H a xs/\xs.length<=i⟩
noncomputable def Itr (lo:Int) (n:Nat):It:=⟨λi _=>i<n,λi H x H'=>H'=H/\x=.int (lo+i),λi _=>n<=i⟩
theorem zwi {P:Program}{w:World}{K:PySem.W.Frag}{tg:Expr}(a it:Addr):Turn P w K tg (Itl K a) [it] it (λi h=>h.IsListIter it a i) where
 mem:=by simp
 obj:=λi h st b hb=>by
  have e:b=it:=by simpa using hb
  subst e;obtain⟨o,e,c,d⟩:=st;exact⟨o,e,λv z=>by rw[d] at z;cases z⟩
 keep:=λi h h' st k=>st.at λo e=>k it (by simp) o e
 item:=by
  intro X hP hw hK hc i pins s σ H E I hf st hg;subst hP hw hK;obtain⟨xs,x,hq,hx⟩:=hg;obtain⟨its,rv,p,hz⟩:=I.list hq;obtain⟨u,hu,ru⟩:=rv.get hx;obtain⟨f0,f1,f2,f3,f4,f5⟩:=hf it (by simp);refine wpAny_pyNext_list_item st p.isList (x:=u) (by simpa using hu) λh' st' sb=>?_;have I1:Inv X pins σ H { s with heap:=h' }:=I.turned (t':=s.toks) (λb o hb e=>(sb.2 b hb).trans e) f0 f1 f3 f4 f5;obtain⟨o,e,c,d⟩:=id st';exact⟨u,rfl,zxm (s:={ s with heap:=h' }) e c d #v[0,9] ⟨x,H,I1,ru,⟨rfl,λys hy=>by rw[I.list_inj hy hq];exact hx⟩,st',λb hb=>(hf b hb).1⟩⟩
 done:=by
  intro X hP hw hK hc i pins s σ H E I hf st hg;subst hP hw hK;obtain⟨xs,hq,hx⟩:=hg;obtain⟨its,rv,p,hz⟩:=I.list hq;obtain⟨f0,f1,f2,f3,f4,f5⟩:=hf it (by simp);have hl:=rv.length;exact wpAny_pyNext_list_end (I.ok.hd hc) st p.isList (by simp;omega) λh' eb=>⟨rfl,I.turned (t':=s.toks) (λb o hb e=>eb b o hb e) f0 f1 f3 f4 f5⟩
 self:=λ_ _ _ _ _ st h=>wpAny_pyIter_listiter st h
theorem zsk {P:Program}{w:World}{K:PySem.W.Frag}{tg:Expr}(a it:Addr):Turn P w K tg (Itt K a) [it] it (λi h=>h.IsTupleIter it a i) where
 mem:=by simp
 obj:=λi h st b hb=>by
  have e:b=it:=by simpa using hb
  subst e;obtain⟨o,e,c,d⟩:=st;exact⟨o,e,λv z=>by rw[d] at z;cases z⟩
 keep:=λi h h' st k=>st.at λo e=>k it (by simp) o e
 item:=by
  intro X hP hw hK hc i pins s σ H E I hf st hg;subst hP hw hK;obtain⟨xs,x,hq,hx⟩:=hg;obtain⟨its,rv,p,hz⟩:=I.tuple hq;obtain⟨u,hu,ru⟩:=rv.get hx;obtain⟨f0,f1,f2,f3,f4,f5⟩:=hf it (by simp);refine wpAny_pyNext_tuple_item st (show s.heap.IsTuple a its.toArray from p) (x:=u) (by simpa using hu) λh' st' sb=>?_;have I1:Inv X pins σ H { s with heap:=h' }:=I.turned (t':=s.toks) (λb o hb e=>(sb.2 b hb).trans e) f0 f1 f3 f4 f5;obtain⟨o,e,c,d⟩:=id st';exact⟨u,rfl,zxm (s:={ s with heap:=h' }) e c d #v[0,9] ⟨x,H,I1,ru,⟨rfl,λys hy=>by rw[I.tuple_inj hy hq];exact hx⟩,st',λb hb=>(hf b hb).1⟩⟩
 done:=by
  intro X hP hw hK hc i pins s σ H E I hf st hg;subst hP hw hK;obtain⟨xs,hq,hx⟩:=hg;obtain⟨its,rv,p,hz⟩:=I.tuple hq;obtain⟨f0,f1,f2,f3,f4,f5⟩:=hf it (by simp);have hl:=rv.length;exact wpAny_pyNext_tuple_end (I.ok.hd hc) st (show s.heap.IsTuple a its.toArray from p) (by simp;omega) λh' eb=>⟨rfl,I.turned (t':=s.toks) (λb o hb e=>eb b o hb e) f0 f1 f3 f4 f5⟩
 self:=λ_ _ _ _ _ st h=>wpAny_pyIter_tupleiter st h
theorem zsp {P:Program}{w:World}{K:PySem.W.Frag}{tg:Expr}(it:Addr)(lo:Int)(n:Nat):Turn P w K tg (Itr lo n) [it] it (λi h=>IsRangeIter h it (lo+(i:Nat) * 1) ((n:Int) - (i:Nat)) 1) where
 mem:=by simp
 obj:=λi h st b hb=>by
  have e:b=it:=by simpa using hb
  subst e;exact⟨_,st,λv z=>by
   have z' : Data.fields _=Data.cell v:=z;cases z'⟩
 keep:=λi h h' st k=>k it (by simp) _ st
 item:=by
  intro X hP hw hK hc i pins s σ H E I hf st hg;subst hP hw hK;obtain⟨f0,f1,f2,f3,f4,f5⟩:=hf it (by simp);have W:=Walks.range (prog:=X.prog) (w:=X.w) (I.ok.hd hc) it lo 1 n;refine W.item i s _ _ hg st λv h' tk hv st' kk=>?_;obtain⟨t,rfl⟩:=hv;have I1:Inv X pins σ H { s with heap:=h',toks:=tk }:=I.turned (λb o hb e=>kk b o (by simpa using hb) e) f0 f1 f3 f4 f5;refine⟨_,rfl,zxm (s:={ s with heap:=h',toks:=tk }) (n := "range_iterator") st' rfl rfl #v[0,9] ⟨.int (lo+i),H,I1,⟨t,?_⟩,⟨rfl,rfl⟩,st',λb hb=>(hf b hb).1⟩⟩;rw[Int.mul_one]
 done:=by
  intro X hP hw hK hc i pins s σ H E I hf st hg;subst hP hw hK;obtain⟨f0,f1,f2,f3,f4,f5⟩:=hf it (by simp);exact wpAny_pyNext_range_end (I.ok.hd hc) st (by have:n<=i:=hg;omega) λh' eb=>⟨rfl,I.turned (t':=s.toks) (λb o hb e=>eb b o hb e) f0 f1 f3 f4 f5⟩
 self:=λ_ _ _ _ _ st h=>wpAny_pyIter_rangeiter st h
section
variable {X:Cx}{tg:Expr}
theorem zrp {pins:List (Addr × Obj)}{σ:St}{H:Hp}{s:Shared}{R:It->Hp->Prop}{E:Value->Shared->Prop}{lo hi:Int}{t u v:Tok}{tk:Nat} (I:Inv X pins σ H s) (h1:-(2 ^ 62)<=lo) (h2:lo < 2 ^ 62) (h3:-(2 ^ 62)<=hi) (h4:hi < 2 ^ 62)
  (q:R (Itr lo (hi - lo).toNat) H):wpAny #v[3,7] X.A (pyIter (.ref s.heap.objs.size)) (PIE X pins σ tg R) E { s with heap:=s.heap.push { cls:=.type "range",data:=.fields #[.int lo t,.int hi u,.int 1 v] },toks:=tk }:=by
 refine wpAny_pyIter_range (IsRange.new ..) (small_one h1 h2 h3 h4) ?_;have I1:Inv X pins σ H { s with heap:=s.heap.push { cls:=.type "range",data:=.fields #[.int lo t,.int hi u,.int 1 v] },toks:=tk }:=I.kept λb o e=>Ac _ e;refine⟨(s.heap.push { cls:=.type "range",data:=.fields #[.int lo t,.int hi u,.int 1 v] }).objs.size,[(s.heap.push { cls:=.type "range",data:=.fields #[.int lo t,.int hi u,.int 1 v] }).objs.size],_,_,H,rfl,
  I1.kept (t':=tk) λb o e=>Ac _ e,zsp _ lo (hi - lo).toNat,?_,λb hb=>?_,q⟩
 ·have e1 : lo + ((0 : Nat) : Int) * 1 = lo:=by simp
  have e2:(((hi - lo).toNat:Nat):Int) - ((0:Nat):Int)=Builtin.Range.rangeSize lo hi 1:=by rw[rangeSize_one];split<;>omega
  show IsRangeIter _ _ (lo+((0:Nat):Int) * 1) ((((hi - lo).toNat:Nat):Int) - ((0:Nat):Int)) 1;rw[e1,e2];exact As _ rfl
 ·have e : b = (s.heap.push { cls := .type "range", data := .fields #[.int lo t,.int hi u,.int 1 v] }).objs.size:=by simpa using hb
  subst e;exact I1.fpOk (Ag _) (I1.hok.fresh (Ag _))
noncomputable def yba (ta:TA):TI:=λσ H R=>ta σ H λvs H1=>∃j:Int,vs=[.int j]/\-(2 ^ 62)<=j/\j<2 ^ 62/\R (Itr 0 j.toNat) H1
noncomputable def z9i (ta:TA):TI:=λσ H R=>ta σ H λvs H1=>∃i j:Int,vs=[.int i,.int j]/\(-(2 ^ 62)<=i/\i<2 ^ 62/\-(2 ^ 62)<=j/\j<2 ^ 62)/\R (Itr i (j - i).toNat) H1
theorem ztv {a:Expr}{ta:TA}{p pos:Pos} (hg:Gl X "range") (hm:X.mg "range" = none) (ha:PA X [a] ta) (hs:starEach [a] X.env=[(false,eval a X.env)]:=by rfl):PI X tg (.Call (.Name "range" p) [a] [] pos) (yba ta):=by
  intro pins s σ H R I h;refine Call_ (zdv I hg hm boot_range (Ct (thn (ha pos pins s σ H _ I h) λus s1 ⟨vs,H1,I1,r1,q1⟩=>?_) hs rfl));obtain⟨j,e,q1,q2,q⟩:=q1;subst e;cases r1 with
  | cons r rr =>
    cases rr;obtain⟨t,rfl⟩:=r;exact call_range_1 (zrp I1 #v[] #v[] q1 q2 (by simpa using q))
theorem zx7 {a b:Expr}{ta:TA}{p pos:Pos} (hg:Gl X "range") (hm:X.mg "range" = none) (ha:PA X [a,b] ta) (hs:starEach [a,b] X.env=[(false,eval a X.env),(false,eval b X.env)]:=by rfl) (hs2:starEach [b] X.env=[(false,eval b X.env)]:=by rfl) :
    PI X tg (.Call (.Name "range" p) [a,b] [] pos) (z9i ta):=by
  intro pins s σ H R I h;refine Call_ (zdv I hg hm boot_range (Ct (thn (ha pos pins s σ H _ I h) λus s1 ⟨vs,H1,I1,r1,q1⟩=>?_) (by rw[hs,hs2]) (by rw[hs2];rfl)));obtain⟨i,j,e,⟨q1,q2,q3,q4⟩,q⟩:=q1;subst e;cases r1 with
  | cons r rr =>
    cases rr with
    | cons r' rr =>
      cases rr;obtain⟨t,rfl⟩:=r;obtain⟨t',rfl⟩:=r';exact call_range_2 (zrp I1 q1 q2 q3 q4 q)
noncomputable def tFor (wi:TI) (g:TG) (tb:TS):TS:=λD σ H=>wi σ H λJ H1=>∃W:Nat->Nat->St->Hp->Prop,(∃m,W 0 m σ H1)/\∀i m σ H,W i m σ H ->
 (J.stop i H/\D.nx σ H)\/(J.go i H/\∃N:St->Hp->Prop,(∀σ' H',N σ' H'->∃m',m' < m/\W (i+1) m' σ' H')/\∀x H',J.yld i H x H'->g x σ H' λσ2 H2=>tb { D with nx:=N,ct:=N,bk:=D.nx } σ2 H2)
noncomputable def zmq (fp:List Addr) (h:Heap):List (Addr × Obj):=fp.filterMap λb=>(h.get? b).map λo=>(b,o)
theorem zdo {fp:List Addr}{h:Heap}{b:Addr}{o:Obj}(hb:b∈fp)(e:h.get? b=some o):(b,o)∈zmq fp h:=List.mem_filterMap.mpr ⟨b,hb,by rw[e];rfl⟩
theorem ztx {fp:List Addr}{h:Heap}{p:Addr × Obj} (hp:p∈zmq fp h):p.1∈fp/\h.get? p.1=some p.2:=by
  obtain⟨b,hb,e⟩:=List.mem_filterMap.mp hp;cases q:h.get? b with
  |none=>rw[q] at e;cases e
  | some o =>
    rw[q] at e;have e' : (b,o)=p:=sI e;subst e';exact⟨hb,q⟩
theorem Inv.pinned {pins:List (Addr × Obj)}{σ:St}{H:Hp}{s:Shared}{fp:List Addr}(I:Inv X pins σ H s)(hf:∀b∈fp,FpOk X pins H b)(ho:∀b∈fp,∃o,s.heap.get? b=some o/\∀v,o.data≠.cell v):Inv X (pins++zmq fp s.heap) σ H s :=
 I.pins_of λp hp=>(Bj.mp hp).elim (λz=>I.pin p (Ax _ z)) λz=>by
  obtain⟨hb,e⟩:=ztx z;obtain⟨f0,f1,f2,_⟩:=hf p.1 hb;obtain⟨o,e',d⟩:=ho p.1 hb;rw[e] at e';cases e';exact⟨e,f0,f1,f2,d⟩
theorem Inv.unpinned {pins pl:List (Addr × Obj)}{σ:St}{H:Hp}{s:Shared}(I:Inv X (pins++pl) σ H s):Inv X pins σ H s:=I.pins_of λp hp=>I.pin p (Ax _ (List.mem_append_left _ hp))
theorem ycd {iter:Expr}{body:List Stmt}{wi:TI}{g:TG}{tb:TS}{pos:Pos} (hp:PassesOwn #v[3,7] X.A X.env X.xe) (hc:X.calm=true) (hi:PI X tg iter wi) (hg:PG X tg g) (hb:PSs X body tb)
  (hs:∀x,foldedSetIterable iter X.env x=pure x:=by intro _;rfl):PS X (.For tg iter body [] pos) (tFor wi g tb):=by
 intro pins s σ H D I h;refine wpAny_For (thn (hi pins s σ H _ I h) λv s1 h1=>thn h1 λitv s2 h2=>?_) hs;obtain⟨it,fp,tn,J,H2,e,I2,T,st2,f2,W,⟨m0,w0⟩,turn⟩:=h2;subst e;have stat:∀{H' : Hp},(∀b∈fp,H' b=none)->∀b∈fp,FpOk X pins H' b:=λhn b hb=>⟨hn b hb,(f2 b hb).2⟩;refine codeAny_forLoop_any (λn s'=>∃i σ' H',Inv X pins σ' H' s'/\tn i s'.heap/\(∀b∈fp,H' b=none)/\W i n σ' H') ?_ m0 ⟨0,σ,H2,I2,st2,λb hb=>(f2 b hb).1,w0⟩;rintro n s3 ⟨i,σ3,H3,I3,st3,fr3,w3⟩;rcases turn i n σ3 H3 w3 with⟨stop,qn⟩|⟨go,N,hN,step⟩
 ·refine Et hp (thn (T.done X rfl rfl rfl hc i pins s3 σ3 H3 X.xe I3 (stat fr3) st3 stop) λr s4 ⟨hr,I4⟩ => ?_);subst hr;exact wpAny_execs_nil ⟨σ3,H3,I4,qn⟩
 ·refine Et hp (thn (T.item X rfl rfl rfl hc i pins s3 σ3 H3 X.xe I3 (stat fr3) st3 go) fun r s4 ⟨u, hr, h4⟩ => ?_);subst hr;refine Et hp (thn h4 fun _ s5 ⟨x,H5,I5,r5,y5,st5,fr5⟩=>?_);have I5':=I5.pinned (stat fr5) (T.obj _ _ st5);refine Et hp (thn (hg _ s5 σ3 H5 x u _ I5' r5 (step x H5 y5)) fun _ s6 ⟨σ6,H6,I6,q6⟩=>?_);refine Et hp (thn (hb _ s6 σ6 H6 _ I6 q6) fun f s7 q7=>?_);have again:∀{σ7:St}{H7:Hp},Inv X (pins++zmq fp s5.heap) σ7 H7 s7->N σ7 H7->∃m,m < n/\∃i σ' H',Inv X pins σ' H' s7/\tn i s7.heap/\(∀b∈fp,H' b=none)/\W i m σ' H':=fun {σ7 H7} I7 n7=>by
   obtain⟨m',hm,w7⟩:=hN σ7 H7 n7;refine⟨m',hm,i+1,σ7,H7,I7.unpinned,T.keep _ _ _ st5 λb hb o e=>(I7.pin (b,o) (Ax _ (Ax _ (zdo hb e)))).1,λb hb=>?_,w7⟩;obtain⟨o,e,d⟩:=T.obj _ _ st5 b hb;exact (I7.pin (b,o) (Ax _ (Ax _ (zdo hb e)))).2.1
  cases f with
  |next=>obtain⟨σ7,H7,I7,n7⟩:=q7;exact again I7 n7
  |cont=>obtain⟨σ7,H7,I7,n7⟩:=q7;exact again I7 n7
  |brk=>obtain⟨σ7,H7,I7,q7⟩:=q7;exact⟨σ7,H7,I7.unpinned,q7⟩
  |ret v=>obtain⟨x7,σ7,H7,I7,r7,q7⟩:=q7;exact⟨x7,σ7,H7,I7.unpinned,r7,q7⟩
end
noncomputable abbrev R2:=V->V->Hp->VK->Prop
noncomputable def OpR (X:Cx) (f:Value->Value->Sem Value) (r:R2):Prop :=
  ∀(pins:List (Addr × Obj)) (s:Shared) (σ:St) (H:Hp) (x y:V) (v u:Value) (Q:VK),Inv X pins σ H s->RelV x v->RelV y u->r x y H Q ->
    wpAny #v[3,7] X.A (f v u) (EP X pins σ Q) X.xe s
noncomputable def UnR (X:Cx) (f:Value->Sem Value) (r:V->Hp->VK->Prop):Prop :=
  ∀(pins:List (Addr × Obj)) (s:Shared) (σ:St) (H:Hp) (x:V) (v:Value) (Q:VK),Inv X pins σ H s->RelV x v->r x H Q ->
    wpAny #v[3,7] X.A (f v) (EP X pins σ Q) X.xe s
noncomputable def zmx (X:Cx) (f:Value) (r:List V->Hp->VK->Prop):Prop :=
  ∀(pins:List (Addr × Obj)) (s:Shared) (σ:St) (H:Hp) (xs:List V) (us:List Value) (Q:VK),Inv X pins σ H s->Vals xs us->r xs H Q ->
    wpAny #v[3,7] X.A (call f us) (EP X pins σ Q) X.xe s
noncomputable def tOp (r:R2) (ta tb:TE):TE:=λσ H Q=>ta σ H λx H1=>tb σ H1 λy H2=>r x y H2 Q
noncomputable def tUn (r:V->Hp->VK->Prop) (ta:TE):TE:=λσ H Q=>ta σ H λx H1=>r x H1 Q
noncomputable def rI (C:Int->Int->Prop) (g:Int->Int->V):R2:=λx y H Q=>∃i j,x=.int i/\y=.int j/\C i j/\Q (g i j) H
noncomputable def rI0 (g:Int->Int->V):R2:=λx y H Q=>∃i j,x=.int i/\y=.int j/\Q (g i j) H
noncomputable def rU (g:Int->V):V->Hp->VK->Prop:=λx H Q=>∃i,x=.int i/\Q (g i) H
section
variable {X:Cx}{a b c:Expr}{ta tb tc:TE}{pos:Pos}
theorem binT (ha:PE X a ta) (hb:PE X b tb) {pins:List (Addr × Obj)}{s:Shared}{σ:St}{H:Hp}{R:V->V->Hp->Prop} (I:Inv X pins σ H s)
  (h:ta σ H λx H1=>tb σ H1 λy H2=>R x y H2) {Q:Value->Shared->Prop}{f:Value->Value->Sem Value}
  (hf:∀v u s2 x y H2,Inv X pins σ H2 s2->RelV x v->RelV y u->R x y H2->wpAny #v[3,7] X.A (f v u) Q X.xe s2) :
  wpAny #v[3,7] X.A (eval a X.env) (λv s₁=>wpAny #v[3,7] X.A (eval b X.env) (λu s₂=>wpAny #v[3,7] X.A (f v u) Q X.xe s₂) X.xe s₁) X.xe s:=by
 refine thn (ha pins s σ H _ I h) λv s1 ⟨x,H1,I1,r1,q1⟩=>?_;refine thn (hb pins s1 σ H1 _ I1 q1) λu s2 ⟨y,H2,I2,r2,q2⟩=>?_;exact hf v u s2 x y H2 I2 r1 r2 q2
theorem yc5 {op:Operator}{r:R2}(ho:OpR X (binaryOp op) r)(ha:PE X a ta)(hb:PE X b tb):PE X (.BinOp a op b pos) (tOp r ta tb):=by
 intro pins s σ H Q I h;exact wpAny_BinOp (binT ha hb I h λv u s2 x y H2 I2 rx ry q=>ho pins s2 σ H2 x y v u Q I2 rx ry q)
theorem yda {op:UnaryOp}{r:V->Hp->VK->Prop}(ho:UnR X (unaryOp op) r)(ha:PE X a ta):PE X (.UnaryOp op a pos) (tUn r ta):=by
 intro pins s σ H Q I h;exact UnaryOp_ (thn (ha pins s σ H _ I h) λv s1 ⟨x,H1,I1,r1,q1⟩=>ho pins s1 σ H1 x v Q I1 r1 q1)
theorem opI {f:Value->Value->Sem Value}{C:Int->Int->Prop}{g:Int->Int->Int}
  (rule:∀(i j:Int) (t u:Tok) (s:Shared) (Q:Value->Shared->Prop) (E:Value->Shared->Prop),C i j->Q (.int (g i j) s.toks) { s with toks:=s.toks+1 }->wpAny #v[3,7] X.A (f (.int i t) (.int j u)) Q E s) :
  OpR X f (rI C λi j=>.int (g i j)):=by
 intro pins s σ H x y v u Q I rx ry h;obtain⟨i,j,rfl,rfl,hc,q⟩:=h;obtain⟨t,rfl⟩:=rx;obtain⟨t',rfl⟩:=ry;exact rule i j t t' s _ _ hc ⟨.int (g i j),H,I.tok _,⟨_,rfl⟩,q⟩
theorem opI0 {f:Value->Value->Sem Value}{g:Int->Int->Int}
  (rule:∀(i j:Int) (t u:Tok) (s:Shared) (Q:Value->Shared->Prop) (E:Value->Shared->Prop),Q (.int (g i j) s.toks) { s with toks:=s.toks+1 }->wpAny #v[3,7] X.A (f (.int i t) (.int j u)) Q E s) :
  OpR X f (rI0 λi j=>.int (g i j)):=by
 intro pins s σ H x y v u Q I rx ry h;obtain⟨i,j,rfl,rfl,q⟩:=h;obtain⟨t,rfl⟩:=rx;obtain⟨t',rfl⟩:=ry;exact rule i j t t' s _ _ ⟨.int (g i j),H,I.tok _,⟨_,rfl⟩,q⟩
theorem opB0 {f:Value->Value->Sem Value}{g:Int->Int->Bool}
  (rule:∀(i j:Int) (t u:Tok) (s:Shared) (Q:Value->Shared->Prop) (E:Value->Shared->Prop),Q (.bool (g i j)) s->wpAny #v[3,7] X.A (f (.int i t) (.int j u)) Q E s) :
  OpR X f (rI0 λi j=>.bl (g i j)):=by
 intro pins s σ H x y v u Q I rx ry h;obtain⟨i,j,rfl,rfl,q⟩:=h;obtain⟨t,rfl⟩:=rx;obtain⟨t',rfl⟩:=ry;exact rule i j t t' s _ _ ⟨.bl (g i j),H,I,rfl,q⟩
noncomputable def CPow (i j:Int):Prop:=0<=j/\j<=1000000/\i.natAbs<2 ^ 64
noncomputable def CMul (i j:Int):Prop:=(-(2 ^ 64)<i/\i<2 ^ 64)\/(-(2 ^ 64)<j/\j<2 ^ 64)
theorem CMul.ok {i j:Int}(h:CMul i j):IntMulOk i j:=by
 rcases h with⟨h1,h2⟩|⟨h1,h2⟩
 ·exact .of_left (intBits_le_64 h1 h2)
 ·exact .of_right (intBits_le_64 h1 h2)
theorem zsc (k:Nat):(0:Int)<=2 ^ k:=by
 rw[two_pow_cast];exact Int.natCast_nonneg _
theorem z94:OpR X (binaryOp .Add) (rI0 λi j=>.int (i+j)):=opI0 λ_ _ _ _ _ _ _ q=>add_int q
theorem ycb:OpR X (binaryOp .Sub) (rI0 λi j=>.int (i - j)):=opI0 λ_ _ _ _ _ _ _ q=>sub_int q
theorem yb5:OpR X (binaryOp .Mult) (rI CMul λi j=>.int (i * j)):=opI λ_ _ _ _ _ _ _ hc q=>mul_int q hc.ok
theorem ybe:OpR X (binaryOp .Mod) (rI (λ_ j=>0<j) λi j=>.int (i % j)):=opI λi j _ _ _ _ _ hc q=>by
 have h1:(0:Int)<j:=hc;exact mod_int' #v[] (by rw[Int.fmod_eq_emod_of_nonneg i #v[]];exact q)
theorem ybh:OpR X (binaryOp .Pow) (rI CPow λi j=>.int (i ^ j.toNat)):=opI λ_ _ _ _ _ _ _ hc q=>pow_int_small hc.1 hc.2.1 hc.2.2 q
theorem z8p:OpR X (binaryOp .LShift) (rI CPow λi j=>.int (i * 2 ^ j.toNat)):=opI λ_ _ _ _ _ _ _ hc q=>lshift_int_small hc.1 hc.2.1 hc.2.2 q
theorem yaf:OpR X (binaryOp .RShift) (rI (λ_ j=>0<=j) λi j=>.int (i / 2 ^ j.toNat)):=opI λi j _ _ _ _ _ hc q =>
 rshift_int hc (by rw[Int.fdiv_eq_ediv_of_nonneg i (zsc _)];exact q)
theorem z9n:OpR X (binaryOp .BitAnd) (rI0 λi j=>.int (Builtin.bitAnd i j)):=opI0 λ_ _ _ _ _ _ _ q=>and_int q
theorem ydo:OpR X (binaryOp .BitOr) (rI0 λi j=>.int (Builtin.bitOr i j)):=opI0 λ_ _ _ _ _ _ _ q=>or_int q
theorem yaz:OpR X (binaryOp .BitXor) (rI0 λi j=>.int (Builtin.bitXor i j)):=opI0 λ_ _ _ _ _ _ _ q=>xor_int q
theorem zuw:OpR X (inplaceOp .Add) (rI0 λi j=>.int (i+j)):=opI0 λ_ _ _ _ _ _ _ q=>iadd_int q
theorem z7e:OpR X (inplaceOp .Sub) (rI0 λi j=>.int (i - j)):=opI0 λ_ _ _ _ _ _ _ q=>isub_int q
theorem z5h:OpR X (inplaceOp .Mult) (rI CMul λi j=>.int (i * j)):=opI λ_ _ _ _ _ _ _ hc q=>imul_int q hc.ok
theorem z41:OpR X (inplaceOp .BitAnd) (rI0 λi j=>.int (Builtin.bitAnd i j)):=opI0 λ_ _ _ _ _ _ _ q=>iand_int q
theorem ych:OpR X (inplaceOp .BitOr) (rI0 λi j=>.int (Builtin.bitOr i j)):=opI0 λ_ _ _ _ _ _ _ q=>ior_int q
theorem z50:OpR X (inplaceOp .BitXor) (rI0 λi j=>.int (Builtin.bitXor i j)):=opI0 λ_ _ _ _ _ _ _ q=>ixor_int q
theorem unI {f:Value->Sem Value}{g:Int->Int}
  (rule:∀(i:Int) (t:Tok) (s:Shared) (Q:Value->Shared->Prop) (E:Value->Shared->Prop),Q (.int (g i) s.toks) { s with toks:=s.toks+1 }->wpAny #v[3,7] X.A (f (.int i t)) Q E s) :
  UnR X f (rU λi=>.int (g i)):=by
 intro pins s σ H x v Q I rx h;obtain⟨i,rfl,q⟩:=h;obtain⟨t,rfl⟩:=rx;exact rule i t s _ _ ⟨.int (g i),H,I.tok _,⟨_,rfl⟩,q⟩
theorem z8z:UnR X (unaryOp .USub) (rU λi=>.int (-i)):=unI λ_ _ _ _ _ q=>neg_int q
end
noncomputable def scal:V->V->Bool
 |.non,.non=>true|.non,.int _=>true|.int _,.non=>true|.non,.bl _=>true|.bl _,.non=>true|.non,.str _=>true|.str _,.non=>true
 |.int _,.int _=>true|.bl _,.bl _=>true|.str _,.str _=>true|.byt _,.byt _=>true
 |.int _,.str _=>true|.str _,.int _=>true|.bl _,.str _=>true|.str _,.bl _=>true
 |_,_=>false
noncomputable def rEq:R2:=λx y H Q=>scal x y=true/\Q (.bl (decide (x=y))) H
noncomputable def rNe:R2:=λx y H Q=>scal x y=true/\Q (.bl (!decide (x=y))) H
theorem zxx {i j:Int}:decide (V.int i=V.int j)=(i == j):=by
 rw[Fv];simp
theorem z4h {i j:Bool}:decide (V.bl i=V.bl j)=(i == j):=by
 rw[Fv];simp
theorem zv1 {i j:Str}:decide (V.str i=V.str j)=(i == j):=by
 rw[Fv];simp
theorem zux {i j:Array UInt8}:decide (V.byt i=V.byt j)=(i.toList == j.toList):=by
 rw[Fv];cases i;cases j;simp
section
variable {X:Cx}{a b c:Expr}{ta tb tc:TE}{pos:Pos}
theorem zaf {pins:List (Addr × Obj)}{σ:St}{H:Hp}{s:Shared}{Q:VK}{k k' : Bool}(I:Inv X pins σ H s)(q:Q (.bl k) H)(e:k=k'):EP X pins σ Q (.bool k') s:=by
 subst e;exact⟨.bl k,H,I,rfl,q⟩
theorem ycy:OpR X (compareOp .Eq) rEq:=by
  intro pins s σ H x y v u Q I rx ry h;obtain⟨hs,q⟩:=h;cases x with
  | non =>
    cases rx;cases y with
    |non=>cases ry;exact PySem.EqNone.eq_none_none (zaf I q (by simp))
    |bl j=>cases ry;exact PySem.EqNone.eq_none_bool (zaf I q (by simp))
    |int j=>obtain⟨t',rfl⟩:=ry;exact PySem.EqNone.eq_none_int (zaf I q (by simp))
    |str j=>obtain⟨t',rfl⟩:=ry;exact PySem.EqNone.eq_none_str (zaf I q (by simp))
    |_=>exact absurd (show false=true from hs) Av
  | bl i =>
    cases rx;cases y with
    |non=>cases ry;exact PySem.EqNone.eq_bool_none (zaf I q (by simp))
    |bl j=>cases ry;exact eq_bool (zaf I q z4h)
    |str j=>obtain⟨t',rfl⟩:=ry;exact PySem.EqMixed.eq_bool_str (zaf I q (by simp))
    |_=>exact absurd (show false=true from hs) Av
  | int i =>
    obtain⟨t,rfl⟩:=rx;cases y with
    |non=>cases ry;exact PySem.EqNone.eq_int_none (zaf I q (by simp))
    |int j=>obtain⟨t',rfl⟩:=ry;exact eq_int (zaf I q zxx)
    |str j=>obtain⟨t',rfl⟩:=ry;exact PySem.EqMixed.eq_int_str (zaf I q (by simp))
    |_=>exact absurd (show false=true from hs) Av
  | str i =>
    obtain⟨t,rfl⟩:=rx;cases y with
    |non=>cases ry;exact PySem.EqNone.eq_str_none (zaf I q (by simp))
    |bl j=>cases ry;exact PySem.EqMixed.eq_str_bool (zaf I q (by simp))
    |int j=>obtain⟨t',rfl⟩:=ry;exact PySem.EqMixed.eq_str_int (zaf I q (by simp))
    |str j=>obtain⟨t',rfl⟩:=ry;exact eq_str (zaf I q zv1)
    |_=>exact absurd (show false=true from hs) Av
  | byt i =>
    obtain⟨t,rfl⟩:=rx;cases y with
    |byt j=>obtain⟨t',rfl⟩:=ry;exact PySem.W.eq_bytes (zaf I q zux)
    |_=>exact absurd (show false=true from hs) Av
  |_=>cases y<;>exact absurd (show false=true from hs) Av
theorem ydg:OpR X (compareOp .NotEq) rNe:=by
  intro pins s σ H x y v u Q I rx ry h;obtain⟨hs,q⟩:=h;cases x with
  | non =>
    cases rx;cases y with
    |non=>cases ry;exact PySem.EqNone.ne_none_none (zaf I q (by simp))
    |bl j=>cases ry;exact PySem.EqNone.ne_none_bool (zaf I q (by simp))
    |int j=>obtain⟨t',rfl⟩:=ry;exact PySem.EqNone.ne_none_int (zaf I q (by simp))
    |str j=>obtain⟨t',rfl⟩:=ry;exact PySem.EqNone.ne_none_str (zaf I q (by simp))
    |_=>exact absurd (show false=true from hs) Av
  | bl i =>
    cases rx;cases y with
    |non=>cases ry;exact PySem.EqNone.ne_bool_none (zaf I q (by simp))
    |bl j=>cases ry;exact ne_bool (zaf I q (congrArg not z4h))
    |str j=>obtain⟨t',rfl⟩:=ry;exact PySem.EqMixed.ne_bool_str (zaf I q (by simp))
    |_=>exact absurd (show false=true from hs) Av
  | int i =>
    obtain⟨t,rfl⟩:=rx;cases y with
    |non=>cases ry;exact PySem.EqNone.ne_int_none (zaf I q (by simp))
    |int j=>obtain⟨t',rfl⟩:=ry;exact ne_int (zaf I q (congrArg not zxx))
    |str j=>obtain⟨t',rfl⟩:=ry;exact PySem.EqMixed.ne_int_str (zaf I q (by simp))
    |_=>exact absurd (show false=true from hs) Av
  | str i =>
    obtain⟨t,rfl⟩:=rx;cases y with
    |non=>cases ry;exact PySem.EqNone.ne_str_none (zaf I q (by simp))
    |bl j=>cases ry;exact PySem.EqMixed.ne_str_bool (zaf I q (by simp))
    |int j=>obtain⟨t',rfl⟩:=ry;exact PySem.EqMixed.ne_str_int (zaf I q (by simp))
    |str j=>obtain⟨t',rfl⟩:=ry;exact ne_str (zaf I q (congrArg not zv1))
    |_=>exact absurd (show false=true from hs) Av
  | byt i =>
    obtain⟨t,rfl⟩:=rx;cases y with
    |byt j=>obtain⟨t',rfl⟩:=ry;exact PySem.W.ne_bytes (zaf I q (congrArg not zux))
    |_=>exact absurd (show false=true from hs) Av
  |_=>cases y<;>exact absurd (show false=true from hs) Av
theorem ydp:OpR X (compareOp .Lt) (rI0 λi j=>.bl (decide (i<j))):=opB0 λ_ _ _ _ _ _ _ q=>lt_int q
theorem ycz:OpR X (compareOp .LtE) (rI0 λi j=>.bl (decide (i<=j))):=opB0 λ_ _ _ _ _ _ _ q=>le_int q
theorem yd9:OpR X (compareOp .Gt) (rI0 λi j=>.bl (decide (j<i))):=opB0 λ_ _ _ _ _ _ _ q=>gt_int q
theorem ydx:OpR X (compareOp .GtE) (rI0 λi j=>.bl (decide (j<=i))):=opB0 λ_ _ _ _ _ _ _ q=>ge_int q
theorem ybn:OpR X (compareOp .Is) (λx y H Q=>y=.non/\Q (.bl (decide (x=.non))) H):=by
 intro pins s σ H x y v u Q I rx ry h;obtain⟨rfl,q⟩:=h;cases ry;refine is_none_gen (zaf I q ?_);cases x<;>first
  |(cases rx;rfl)
  |(obtain⟨t,rfl⟩:=rx;rfl)
theorem z6r:OpR X (compareOp .IsNot) (λx y H Q=>y=.non/\Q (.bl (!decide (x=.non))) H):=by
 intro pins s σ H x y v u Q I rx ry h;obtain⟨rfl,q⟩:=h;cases ry;refine isnot_none_gen (zaf I q ?_);cases x<;>first
  |(cases rx;rfl)
  |(obtain⟨t,rfl⟩:=rx;rfl)
theorem OpR.or {f:Value->Value->Sem Value}{r r' : R2}(h:OpR X f r)(h' : OpR X f r'):OpR X f (λx y H Q=>r x y H Q\/r' x y H Q):=by
 intro pins s σ H x y v u Q I rx ry q;rcases q with q|q
 ·exact h pins s σ H x y v u Q I rx ry q
 ·exact h' pins s σ H x y v u Q I rx ry q
theorem z5i {op:CmpOp}{r:R2}(ho:OpR X (compareOp op) r)(ha:PE X a ta)(hb:PE X b tb)(hm:behindInMarks op b=false):PE X (.Compare a [op] [b] pos) (tOp r ta tb):=by
 intro pins s σ H Q I h;exact wpAny_Compare1 (binT ha hb I h λv u s2 x y H2 I2 rx ry q=>ho pins s2 σ H2 x y v u Q I2 rx ry q) hm
noncomputable def yb1 (t:TE):TT:=λσ H Q=>t σ H λx H'=>∃k,x=.bl k/\Q k H'
theorem z8j {op:CmpOp}{r:R2}(ho:OpR X (compareOp op) r)(ha:PE X a ta)(hb:PE X b tb)(hm:behindInMarks op b=false):PT X (.Compare a [op] [b] pos) (yb1 (tOp r ta tb)):=by
 intro pins s σ H Q I h;refine wpAny_isTrue_Compare1 (thn (ha pins s σ H _ I h) λv s1 ⟨x,H1,I1,r1,q1⟩=>thn (hb pins s1 σ H1 _ I1 q1) λu s2 ⟨y,H2,I2,r2,q2⟩ =>
  thn (ho pins s2 σ H2 x y v u _ I2 r1 r2 q2) λc s3 ⟨z,H3,I3,r3,k,e,q3⟩=>?_) hm
 subst e;cases r3;exact Gn ⟨H3,I3,q3⟩
theorem zpy:(sizeLine:Nat)<2 ^ 63:=by rw[sizeLine_eq];decide
theorem zsv:OpR X (binaryOp .Add) (λx y H Q=>∃i j,x=.str i/\y=.str j/\i.length+j.length<=sizeLine/\Q (.str (i++j)) H):=by
 intro pins s σ H x y v u Q I rx ry h;obtain⟨i,j,rfl,rfl,hz,q⟩:=h;obtain⟨t,rfl⟩:=rx;obtain⟨t',rfl⟩:=ry;exact add_str (λt' tk=>⟨.str (i++j),H,I.tok _,⟨_,rfl⟩,q⟩) hz
theorem vals1 {x:V}{us:List Value}(r:Vals [x] us):∃u,us=[u]/\RelV x u:=by
 cases r with
 |cons r1 r2=>cases r2;exact⟨_,rfl,r1⟩
theorem z2o:zmx X (.builtin "abs") (λxs H Q=>∃i,xs=[.int i]/\Q (.int (if i<0 then -i else i)) H):=by
 intro pins s σ H xs us Q I r h;obtain⟨i,rfl,q⟩:=h;obtain⟨u,rfl,t,rfl⟩:=vals1 r;exact call_abs_int λu tk=>⟨.int (if i<0 then -i else i),H,I.tok _,⟨_,rfl⟩,q⟩
theorem zxk:zmx X (.type "int") (λxs H Q=>(∃i,xs=[.int i]/\Q (.int i) H)\/∃k,xs=[.bl k]/\Q (.int (if k then 1 else 0)) H):=by
 intro pins s σ H xs us Q I r h;rcases h with⟨i,rfl,q⟩|⟨k,rfl,q⟩
 ·obtain⟨u,rfl,t,rfl⟩:=vals1 r;exact call_int_int ⟨.int i,H,I,⟨_,rfl⟩,q⟩
 ·obtain⟨u,rfl,r1⟩:=vals1 r;cases r1;exact call_int_bool ⟨.int (if k then 1 else 0),H,I.tok _,⟨_,rfl⟩,q⟩
end
section
variable {prog:Program}{w:World}{A:Around}{E:Value->Shared->Prop}{s:Shared}{K:PySem.W.Frag}{x dx C f:Addr}{mA:Str->Option Value}{name:Str}{v:Value}
end
section
variable {P:Program}{w:World}{H H' : Hp}{h h' : Heap}{a C dx:Addr}{fs fs' : List (Str × V)}
end
section
variable {X:Cx}{pins:List (Addr × Obj)}{σ:St}{H:Hp}{s:Shared}{a C dx:Addr}{fs:List (Str × V)}{f:Str}{v:V}{A:Around}{E:Value->Shared->Prop}
end
section
variable {X:Cx}{o e value:Expr}{f:Str}{pos pos' tpos:Pos}{ta tv:TE}
end
section
variable {X:Cx}{pins:List (Addr × Obj)}{σ:St}{H:Hp}{s:Shared}{A:Around}{E:Value->Shared->Prop}{Q:Value->Shared->Prop}{c:Value}{b:Bool}
end
structure Room (k:Nat) (A:Around):Prop where
 hd:A.handled=none
 dp:A.depth+3 * k+5<recursionLimit
 un:A.units+16 * k+200<cLine
 gd:A.guards=some []
theorem Room.mono {j k:Nat}{A:Around}(r:Room k A)(h:j<=k):Room j A:=⟨r.hd,by have:=r.dp;omega,by have:=r.un;omega,r.gd⟩
theorem Room.deeper {k:Nat}{A:Around}(r:Room (k+1) A)(env:Env):Room k (A.deeper env) :=
 ⟨r.hd,by have:=r.dp;show A.depth+1+3 * k+5<_;omega,by have:=r.un;show A.units+3+16 * k+200<_;omega,r.gd⟩
theorem Room.depth {k:Nat}{A:Around}(r:Room k A):A.depth<recursionLimit:=by have:=r.dp;omega
noncomputable def tNil:TA:=λ_ H Q=>Q [] H
noncomputable def zhm (ta:TE) (tr:TA):TA:=λσ H Q=>ta σ H λx H1=>tr σ H1 λxs H2=>Q (x::xs) H2
section
variable {X:Cx}{e:Expr}{es:List Expr}{te:TE}{t:TA}{pos:Pos}
theorem zds:PA X [] tNil:=λ_ _ _ _ H Q I h=>Calls.spliced_nil ⟨[],H,I,.nil,h⟩
theorem zi8 (ha:PE X e te)(hr:PA X es t)(hs:starEach (e::es) X.env=(false,eval e X.env)::starEach es X.env:=by rfl):PA X (e::es) (zhm te t):=by
 intro pos pins s σ H Q I h;rw[hs];show wpAny _ _ (spliced ((false,eval e X.env)::backTo pos (starEach es X.env))) _ _ s;refine Calls.spliced_cons (thn (ha pins s σ H _ I h) λu s1 ⟨x,H1,I1,r1,q1⟩=>?_);exact thn (hr pos pins s1 σ H1 _ I1 q1) λus s2 ⟨xs,H2,I2,r2,q2⟩=>⟨x::xs,H2,I2,.cons r1 r2,q2⟩
noncomputable def tTup (t:TA):TE:=λσ H Q=>t σ H λxs H1=>xs.length<=sizeLine/\∀p,H1 p=none->Q (.ref p) (upd H1 p (.tup xs))
noncomputable def tLst (t:TA):TE:=λσ H Q=>t σ H λxs H1=>xs.length<=sizeLine/\∀p,H1 p=none->Q (.ref p) (upd H1 p (.lst xs))
theorem ybz {x1}(h:PA X es t):PE X (.Tuple es x1 pos) (tTup t):=by
 intro pins s σ H Q I hq;refine wpAny_Tuple_spliced (thn (h pos pins s σ H _ I hq) λus s1 ⟨xs,H1,I1,r,z,q⟩=>⟨by rw[<-r.length];exact z,?_⟩);have hf:H1 s1.heap.objs.size=none:=I1.hok.fresh (Ag _);refine⟨.ref s1.heap.objs.size,upd H1 s1.heap.objs.size (.tup xs),I1.laid (t':=s1.toks) (λb u e=>Ac _ e) (Ag _) ?_,rfl,q _ hf⟩;exact⟨z,us,r,⟨_,As _ rfl,rfl,_,rfl⟩⟩
theorem z9o (h:PA X es t):PE X (.List es pos) (tLst t):=by
 intro pins s σ H Q I hq;refine wpAny_List_spliced (thn (h pos pins s σ H _ I hq) λus s1 ⟨xs,H1,I1,r,z,q⟩=>⟨by rw[<-r.length];exact z,?_⟩);have hf:H1 s1.heap.objs.size=none:=I1.hok.fresh (Ag _);refine⟨.ref s1.heap.objs.size,upd H1 s1.heap.objs.size (.lst xs),I1.laid (t':=s1.toks) (λb u e=>Ac _ e) (Ag _) ?_,rfl,q _ hf⟩;exact⟨z,us,0,r,As _ rfl⟩
end
noncomputable abbrev Sp:=List V->Hp->VK->XK->Prop
noncomputable abbrev CXT:=List Env->Hp->Shared->XK->Value->Shared->Prop
structure Env0 (P:Program) (w:World) (K:PySem.W.Frag) (mg:Str->Option Value) (base:Heap) (A:Around) (outer:List Env) (s:Shared) (H:Hp):Prop where
 frames:A.frames=some outer
 mod:Mod K mg base
 bs:∀b o,base.get? b=some o->s.heap.get? b=some o/\H b=none
 bsz:base.objs.size<=s.heap.objs.size
 funs:s.heap.FunFrames base outer
 frf:∀b∈frs outer,H b=none
 hok:HOk P w H s.heap
 bare:AllBare s.gens
noncomputable def CE (outer:List Env) (P:Program) (w:World) (H:Hp) (s:Shared) (Q:VK) (u:Value) (s' : Shared):Prop :=
 ∃v H',s'.os=s.os/\AllBare s'.gens/\Un (frs outer) [] H H' s.heap s'.heap/\HOk P w H' s'.heap/\RelV v u/\Q v H'
noncomputable def CR (CX:CXT) (outer:List Env) (P:Program) (w:World) (H:Hp) (s:Shared) (Q:VK) (E:XK) (r:Result) (s' : Shared):Prop :=
 match r with
 |.ok (.ret u)=>CE outer P w H s Q u s'
 |.ok _=>False
 |.error e=>CX outer H s E e s'
structure FnOk (P:Program) (w:World) (K:PySem.W.Frag) (mg:Str->Option Value) (base:Heap) (CX:CXT) (k:Nat) (f:Addr) (fd:FuncData) (ps:List Str) (sp:Sp):Prop where
 len:∀vs H Q E,sp vs H Q E->vs.length=ps.length
 run:∀(A:Around) (outer:List Env) (s:Shared) (H:Hp) (args:Args) (us:List Value) (vs:List V) (Q:VK) (E:XK),Room k A->Env0 P w K mg base A outer s H->BindsTo s fd args (ps.zip us)->Vals vs us->sp vs H Q E ->
  codeAny (model P w) A (.call (.ref f) args) (CR CX outer P w H s Q E) s
section
variable {X:Cx}{pins:List (Addr × Obj)}{σ:St}{H:Hp}{s s' : Shared}
theorem Inv.env0 (I:Inv X pins σ H s):Env0 X.prog X.w X.K X.mg X.base X.A X.stack s H :=
 ⟨I.ok.frames,I.ok.mod,I.bs,Ci I.ok.bsz I.sz,I.stack,I.stkFree,I.hok,I.bare⟩
theorem Inv.after {Q:VK}{u:Value}(I:Inv X pins σ H s)(h:CE X.stack X.prog X.w H s Q u s'):EP X pins σ Q u s':=by
 obtain⟨v,H',os,bare,un,hok,r,q⟩:=h;obtain⟨hh,g,d,t,os'⟩:=s';obtain rfl:os'=s.os:=os;exact⟨v,H',I.call (h':=hh) (g':=g) (d':=d) (t':=t) (ch:=[]) un hok bare (λb z=>absurd z (by simp)),r,q⟩
end
noncomputable def z74 (sp:Sp) (dvs:List V) (E:XK) (t:TA):TE:=λσ H Q=>t σ H λvs H1=>sp (vs++dvs) H1 Q E
noncomputable def zkp (K:PySem.W.Frag) (fd:FuncData) (ps:List Str) (ds:List Value):Prop :=
 ∀(s:Shared) (us:List Value),K.In s.heap->(us++ds).length=ps.length->BindsTo s fd ⟨us,[]⟩ (ps.zip (us++ds))
theorem zkp.all {K:PySem.W.Frag}{fd:FuncData}{ps:List Str}(h:∀us:List Value,us.length=ps.length->bindArgs fd ⟨us,[]⟩=pure (ps.zip us)):zkp K fd ps []:=λs us _ hl=>by
 rw[By] at hl ⊢;exact .of_eq (h us hl)
noncomputable def zym (CX:CXT) (X:Cx) (E:XK):Prop:=∀(pins:List (Addr × Obj)) (σ:St) (H:Hp) (s:Shared) (e:Value) (s' : Shared),Inv X pins σ H s->CX X.stack H s E e s'->X.xe e s'
section
variable {X:Cx}{CX:CXT}{k:Nat}{f C:Addr}{fd:FuncData}{ps:List Str}{sp:Sp}{dvs:List V}{ds:List Value}{E:XK}{x m:Str}{p pos apos:Pos}{e o:Expr}{es:List Expr}{ta:TE}{t:TA}
theorem z3r {pins:List (Addr × Obj)}{σ:St}{H:Hp}{s:Shared}{Q:VK}{us:List Value}{vs:List V} (F:FnOk X.prog X.w X.K X.mg X.base CX k f fd ps sp) (hr:Room k X.A) (hb:zkp X.K fd ps ds) (hd:Vals dvs ds) (hx:zym CX X E)
    (I:Inv X pins σ H s) (r:Vals vs us) (h:sp (vs++dvs) H Q E):wpAny #v[3,7] X.A (call (.ref f) us) (EP X pins σ Q) X.xe s:=by
  have r2:Vals (vs++dvs) (us++ds):=r.append hd;have hl:(us++ds).length=ps.length:=by rw[<-r2.length];exact F.len _ _ _ _ h
  refine wpAny_call (codeAny_mono (F.run X.A X.stack s H ⟨us,[]⟩ (us++ds) (vs++dvs) Q E hr I.env0 (hb s us I.kIn hl) r2 h) λr s' hq=>?_);cases r with
  |error e=>exact hx pins σ H s e s' I hq
  | ok fl =>
    cases fl with
    |ret u=>exact I.after hq
    |next=>exact False.elim hq
    |brk=>exact False.elim hq
    |cont=>exact False.elim hq
theorem z6o (F:FnOk X.prog X.w X.K X.mg X.base CX k f fd ps sp) (hr:Room k X.A) (hg:Gl X x) (hm:X.mg x=some (.ref f)) (hk:PySem.W.keepIn X.K (.ref f)=true) (hb:zkp X.K fd ps ds) (hd:Vals dvs ds) (hx:zym CX X E)
  (ha:PA X (e::es) t) (hdb:(x == ("__debug__" : Str))=false:=by decide) (he:starEach (e::es) X.env=(false,eval e X.env)::starEach es X.env:=by rfl) (hpl:(backTo pos (starEach es X.env)).any (·.1)=false:=by rfl) :
  PE X (.Call (.Name x p) (e::es) [] pos) (z74 sp dvs E t):=by
 intro pins s σ H Q I h;refine Es (zvc I hg hm ?_ hdb);refine PySem.W.callWith_K (h₀:=X.base) I.ok.mod.kin hk (thn (ha pos pins s σ H _ I h) λus s1 ⟨vs,H1,I1,r,q⟩=>⟨I1.kIn,?_⟩) he hpl;exact z3r F hr hb hd hx I1 r q
end
section
variable {X:Cx}{CX:CXT}{k:Nat}{f C:Addr}{fd:FuncData}{ps ks:List Str}{sp:Sp}{E:XK}{x m:Str}{p pos apos kpos:Pos}{e o:Expr}{es:List Expr}{kws:List Keyword}{te ta:TE}{t tk:TA}{nm:Option Str}
variable {g:List Value->List Value->List Value}{gV:List V->List V->List V}
end
structure FnScope (N P:List Str) (sc:Scope):Prop where
 kind:sc.kind=.function
 co:sc.isCoroutine=false
 gen:sc.isGenerator=false
 nd:N.Nodup
 pre:N.take P.length=P
 par:∀x∈P,sc.names.lookup x=some .local\/sc.names.lookup x=some .cell
 nofree:∀y∈sc.names,y.2≠.free
theorem znh {kindOf:Str->Option NameKind}{x:Str}:∀{binds:List (Str × Value)}{m:Str->Option Value},(∀v,(x,v) ∉ binds)->bindL kindOf binds m x=m x
  |[],_,_=>rfl
  | (n,v)::r,m,h=>by
    unfold bindL;rw[znh λw hw=>h w (Aj _ hw)];split
    · have : x ≠ n := by rintro rfl; exact h v Ao
      simp [this]
    · rfl
theorem zk5 {kindOf:Str->Option NameKind}{x:Str}:∀{binds:List (Str × Value)}{m:Str->Option Value},(∀v,(x,v) ∉ binds)->bindC kindOf binds m x=m x
  |[],_,_=>rfl
  | (n,v)::r,m,h=>by
    unfold bindC;rw[zk5 λw hw=>h w (Aj _ hw)];split
    · rfl
    · have : x ≠ n := by rintro rfl; exact h v Ao
      simp [this]
theorem zlc {kindOf:Str->Option NameKind}{x:Str}{v:Value}:∀{P:List Str}{vs:List Value}{i:Nat}{m:Str->Option Value},P.Nodup->P[i]?=some x->vs[i]?=some v->kindOf x=some .local ->
    bindL kindOf (P.zip vs) m x=some v
  |[],_,_,_,_,h,_,_=>by simp at h
  |_::_,[],_,_,_,_,h,_=>by simp at h
  | p::P,w::vs,0,m,nd,h1,h2,hk=>by
    simp at h1 h2;subst h1;subst h2;show bindL kindOf ((p,w)::P.zip vs) m p=_;unfold bindL;rw[znh λv hv=>(Bx.mp nd).1 (Ei hv).1,if_pos hk];simp
  | p::P,w::vs,i+1,m,nd,h1,h2,hk=>by
    show bindL kindOf ((p,w)::P.zip vs) m x=_;unfold bindL;exact zlc (i:=i) (Bx.mp nd).2 (by simpa using h1) (by simpa using h2) hk
theorem zmj {kindOf:Str->Option NameKind}{x:Str}{v:Value}:∀{P:List Str}{vs:List Value}{i:Nat}{m:Str->Option Value},P.Nodup->P[i]?=some x->vs[i]?=some v->kindOf x≠some .local ->
    bindC kindOf (P.zip vs) m x=some v
  |[],_,_,_,_,h,_,_=>by simp at h
  |_::_,[],_,_,_,_,h,_=>by simp at h
  | p::P,w::vs,0,m,nd,h1,h2,hk=>by
    simp at h1 h2;subst h1;subst h2;show bindC kindOf ((p,w)::P.zip vs) m p=_;unfold bindC;rw[zk5 λv hv=>(Bx.mp nd).1 (Ei hv).1,if_neg hk];simp
  | p::P,w::vs,i+1,m,nd,h1,h2,hk=>by
    show bindC kindOf ((p,w)::P.zip vs) m x=_;unfold bindC;exact zmj (i:=i) (Bx.mp nd).2 (by simpa using h1) (by simpa using h2) hk
noncomputable def start (N:List Str) (vs:List V):St:=vs.map some++List.replicate (N.length - vs.length) none
noncomputable def cxOf (CX:CXT) (P:Program) (w:World) (K:PySem.W.Frag) (mg:Str->Option Value) (base:Heap) (N:List Str) (qual:Str) (scope:Scope) (f:Addr) (cd:Value) (A:Around) (outer:List Env) (s:Shared) (H:Hp) (E:XK):Cx where
 prog:=P
 w:=w
 K:=K
 mg:=mg
 base:=base
 A:=A.deeper (envOfC qual scope s.heap.objs.size f cd)
 N:=N
 s₀:=s
 H₀:=H
 env:=envOfC qual scope s.heap.objs.size f cd
 outer:=outer
 stack:=envOfC qual scope s.heap.objs.size f cd::outer
 ex:=[]
 calm:=true
 fn:=λ_=>true
 pn:=[]
 xe:=λe s'=>wpAny (model P w) (A.deeper (envOfC qual scope s.heap.objs.size f cd)) (leaving (envOfC qual scope s.heap.objs.size f cd) e) (λ_ s''=>CX outer H s E e s'') (λe' s''=>CX outer H s E e' s'') s'
theorem cell_has {sc:Scope}{n:Nat}{x:Str}(h:sc.names.lookup x=some .cell):∃c,(cellsFrom n sc.names []).lookup x=some c:=by
 have q:=Gd sc.names n [] (.inl h);exact Fp.mp q
theorem zlw {CX:CXT}{P:Program}{w:World}{K:PySem.W.Frag}{mg:Str->Option Value}{base:Heap}{N ps:List Str}{qual:Str}{scope:Scope}{f:Addr}{cd:Value}{A:Around}{outer:List Env}{s s1:Shared}{H:Hp}{E:XK}{us:List Value}{vs:List V}
  (S:FnScope N ps scope) (hd:A.handled=none) (e0:Env0 P w K mg base A outer s H) (hl:vs.length=ps.length) (r:Vals vs us)
  (x:InCallC s s.heap.objs.size (bindL (envOfC qual scope s.heap.objs.size f cd).kindOf (ps.zip us) λ_=>none) (cellsFrom #v[8,9] scope.names []) (bindC (envOfC qual scope s.heap.objs.size f cd).kindOf (ps.zip us) λ_=>none) s1) :
  Inv (cxOf CX P w K mg base N qual scope f cd A outer s H E) [] (start N vs) H s1:=by
 have hpl:ps.length<=N.length:=by have:=congrArg List.length S.pre;rw[Dy] at this;omega
 obtain⟨h1,tk,rfl,hk⟩:=x.done;have noA:∀b:Addr,b ∉ (cxOf CX P w K mg base N qual scope f cd A outer s H E).ex:=λb z=>absurd (show b∈([]:List Addr) from z) (by simp);refine⟨⟨e0.mod,S.kind,rfl,rfl,Ag _,λy z c h1 h2=>?_,λy hy=>?_,λy c _ h=>?_,λ_=>hd,Around.frames_deeper e0.frames,.inr ⟨rfl,rfl⟩,λb z=>absurd z (noA b),e0.bs,e0.bsz,λb _ _=>noA b,λb z=>absurd z (noA b),e0.funs,e0.frf⟩,
  rfl,e0.bare,Un.kept hk,⟨_,x.toInCall.ns,λi y v h1 h2 h3=>?_⟩,λy c h=>⟨_,x.cell y c h⟩,e0.hok.fresh (Ag _),λy c h=>?_,λp hp=>absurd (show p∈([]:List (Addr × Obj)) from hp) (by simp),e0.hok.kept hk,?_⟩
 ·exact name_of_addr x.apart (Bl h1) (Bl h2)
 ·have hy : scope.names.lookup y = some .cell \/ scope.names.lookup y = some .free:=hy;rcases hy with hy|hy
  ·exact cell_has hy
  ·exact absurd rfl (S.nofree _ (Bl hy))
 ·exact Nat.le_of_lt (x.above y c (Bl h))
 ·have hi:i < vs.length:=by
   unfold start at h2;by_cases hi:i<vs.length
   ·exact hi
   ·rw[Ey (by simpa using hi)] at h2;rw[List.getElem?_replicate] at h2;split at h2<;>cases h2
  have ha:vs[i]?=some v:=by
   unfold start at h2;rw[Da (by simpa using hi),Ai] at h2;cases e:vs[i]? with
   |none=>rw[e] at h2;cases h2
   |some a=>rw[e] at h2;cases h2;rfl
  obtain⟨u,hu,rv⟩:=r.get ha;have hp:ps[i]?=some y:=by
   rw[<-S.pre,List.getElem?_take_of_lt #v[]];exact h1
  have ndP:ps.Nodup:=by rw[<-S.pre];exact S.nd.sublist (Ep _ _)
  refine⟨u,rv,?_⟩;rcases S.par y (Bn hp) with k|k
  ·exact .inl ⟨k,zlc ndP hp hu k⟩
  ·obtain⟨c,e⟩:=cell_has (n:=s.heap.objs.size + 1) k;refine .inr ⟨.inl k,c,e,?_⟩;have q:=x.cell y c e;rw[zmj ndP hp hu (by show scope.names.lookup y≠_;rw[k];decide)] at q;exact q
 ·exact e0.hok.fresh (Nat.le_of_lt (x.above y c (Bl h)))
 ·unfold start;show _=N.length;rw[Ba,Ab,Dc];omega
theorem ydm {CX:CXT}{P:Program}{w:World}{K:PySem.W.Frag}{mg:Str->Option Value}{base:Heap}{k:Nat}{f:Addr}{name qual:Str}{params:Arguments}{body:List Stmt}{scope:Scope}{dV kV doc pm cdv ct oc:Value}{an od:Option Addr}
    {osl:Array (Option Value)}{N ps:List Str}{sp:Sp} (lk:K.lookup f=some ⟨oc,od,.func (PySem.W.fnOf name qual params body scope dV kV doc pm an cdv ct),osl⟩) (hcd:PySem.W.codeIn K cdv qual=true) (S:FnScope N ps scope)
    (len:∀vs H Q E,sp vs H Q E->vs.length=ps.length)
    (hbody:∀(A:Around) (outer:List Env) (s:Shared) (H:Hp) (vs:List V) (Q:VK) (E:XK),(Room k (A.deeper (envOfC qual scope s.heap.objs.size f cdv))/\Room (k+1) A)->sp vs H Q E ->
      ∃t,PSs (cxOf CX P w K mg base N qual scope f cdv A outer s H E) body t/\t { nx:=λ_ H'=>Q .non H',rt:=Q } (start N vs) H) :
    FnOk P w K mg base CX (k+1) f (PySem.W.fnOf name qual params body scope dV kV doc pm an cdv ct) ps sp:=by
  refine ⟨len,fun A outer s H args us vs Q E hr e0 hb r hsp=>?_⟩;have hl:=len _ _ _ _ hsp;have KX:K.In s.heap:=e0.mod.kin.keeps fun b o e=>(e0.bs b o e).1;have lim:s.heap.NoLimit:=e0.mod.nolimit.keeps fun b o e=>(e0.bs b o e).1;have hkind:∀y∈ps.zip us,scope.names.lookup y.1=some .local\/#v[7,12]:=fun ⟨n,v⟩ hy=>by
    rcases S.par n (Ei hy).1 with q|q
    · exact .inl q
    · exact .inr ⟨q,Gd _ _ _ (.inl q)⟩
  refine codeAny_call_function hr.depth (KX _ _ lk) rfl S.co S.gen rfl (PySem.W.codeRec_of KX hcd) (hb _ _ _ _ ?_);refine wpAny_newFunctionEnv_cells S.kind hkind fun env he s1 x=>?_;subst he;refine ⟨lim.keeps x.toInCall.keep,codeAny_func ?_⟩;obtain ⟨t,ht,hq⟩:=hbody A outer s H vs Q E ⟨hr.deeper _,hr⟩ hsp;have I:Inv (cxOf CX P w K mg base N qual scope f cdv A outer s H E) [] (start N vs) H s1:=zlw S hr.hd e0 hl r x;refine Cj (ht [] s1 (start N vs) H _ I hq) (fun fl s' hs=>?_) fun e s' hs=>hs;have fin:∀{σ' : St}{H' : Hp}{v:V}{u:Value},Inv (cxOf CX P w K mg base N qual scope f cdv A outer s H E) [] σ' H' s'->RelV v u->Q v H'->CE outer P w H s Q u s' :=
    λ{σ' H' v u} J rv q=>⟨v,H',J.os,J.bare,J.base,J.hok,rv,q⟩
  cases fl with
  | ret u =>
    obtain⟨v,σ',H',J,rv,q⟩:=hs;exact fin J rv q
  | next =>
    obtain⟨σ',H',J,q⟩:=hs;exact fin (v:=V.non) (u:=Value.none) J rfl q
  | brk =>
    obtain⟨_,_,_,q⟩:=hs;exact False.elim q
  | cont =>
    obtain⟨_,_,_,q⟩:=hs;exact False.elim q
section
variable {X:Cx}{x:Str}{p pos:Pos}{e:Expr}{es:List Expr}{t:TA}{id T:String}{r:List V->Hp->VK->Prop}
noncomputable def tCB (r:List V->Hp->VK->Prop) (t:TA):TE:=λσ H Q=>t σ H λvs H1=>r vs H1 Q
theorem zfl (hc:zmx X (.builtin id) r) (hg:Gl X x) (hm:X.mg x=none) (hv:bootBuiltins x=some (.builtin id)) (ha:PA X (e::es) t) (hn:x≠"__name__" := by decide) (hdb:(x == ("__debug__" : Str))=false:=by decide)
  (he:starEach (e::es) X.env=(false,eval e X.env)::starEach es X.env:=by rfl) (hpl:(backTo pos (starEach es X.env)).any (·.1)=false:=by rfl):PE X (.Call (.Name x p) (e::es) [] pos) (tCB r t):=by
 intro pins s σ H Q I h;refine Es (zdv I hg hm hv ?_ hn hdb);exact PyProof.Rows.callWith_builtin1 (thn (ha pos pins s σ H _ I h) λus s1 ⟨vs,H1,I1,r1,q1⟩=>hc pins s1 σ H1 vs us Q I1 r1 q1) he hpl
theorem zmk (hc:zmx X (.type T) r) (hg:Gl X x) (hm:X.mg x=none) (hv:bootBuiltins x=some (.type T)) (ha:PA X (e::es) t) (hn:x≠"__name__" := by decide) (hdb:(x == ("__debug__" : Str))=false:=by decide)
  (he:starEach (e::es) X.env=(false,eval e X.env)::starEach es X.env:=by rfl) (hpl:(backTo pos (starEach es X.env)).any (·.1)=false:=by rfl):PE X (.Call (.Name x p) (e::es) [] pos) (tCB r t):=by
 intro pins s σ H Q I h;refine Es (zdv I hg hm hv ?_ hn hdb);exact Ct (thn (ha pos pins s σ H _ I h) λus s1 ⟨vs,H1,I1,r1,q1⟩=>hc pins s1 σ H1 vs us Q I1 r1 q1) he hpl
end
end L2
namespace HT
open PySem PyProof.Rows
section
open PySem.SeqAt
open PySem.AutoSeq1 (wpAny_loadPart')
open PySem.MeetsSeq PySem.MeetsSeq2 PySem.MeetsSeq3
end
section
variable {prog:Program}{w:World}{A:Around}{E:Value->Shared->Prop}{s:Shared}
theorem cat_tup {t b:Addr}{vs ws:List Value}{Q:Value->Shared->Prop} (ht:IsTup s.heap t vs.toArray) (hb:IsTup s.heap b ws.toArray) (hv:vs≠[])
  (h1:ws=[]->Q (.ref t) s) (h2:ws≠[]->Q (.ref s.heap.objs.size) { s with heap:=s.heap.push { cls:=.type "tuple",data:=.seq (vs++ws).toArray } })
  (hsz:vs.length+ws.length<=sizeLine):wpAny (model prog w) A (binaryOp .Add (.ref t) (.ref b)) Q E s:=by
 obtain⟨⟨cls,dd,data,sl⟩,ho,hc,n,hd⟩:=id ht;obtain⟨⟨cls2,dd2,data2,sl2⟩,ho2,hc2,n2,hd2⟩:=id hb;simp only at hc hd hc2 hd2;subst hc hd hc2 hd2;have e:vs.toArray++ws.toArray=(vs++ws).toArray:=by simp
 by_cases hw:ws=[]
 ·exact concat_meets ⟨_,ho,rfl⟩ ⟨_,ho2,rfl⟩ noFill_tuple_add seq_tuple_add PySem.F.slot_tuple_add PySem.F.entry_tuple_add (Hh _ _)
   (tuple_addW1 t b vs.toArray ws.toArray n n2 dd dd2 sl sl2 (by simpa using hv) (by simp [hw])) ⟨ho,ho2,h1 hw⟩
 ·refine concat_meets ⟨_,ho,rfl⟩ ⟨_,ho2,rfl⟩ noFill_tuple_add seq_tuple_add PySem.F.slot_tuple_add PySem.F.entry_tuple_add (Hh _ _)
   (tuple_addW2 t b vs.toArray ws.toArray n n2 dd dd2 sl sl2 (by simpa using hv) (by simpa using hw) (by rw[Aq,Aq];exact hsz)) ⟨ho,ho2,?_⟩
  rw[e];exact h2 hw
noncomputable def sIx (n d:Nat):Option Int->Nat
 |none=>d
 |some v=>if v<0 then (v+(n:Int)).toNat else min v.toNat n
theorem sIx_nat (n d k:Nat):sIx n d (some (k:Int))=min k n:=by
 show (if (k:Int)<0 then ((k:Int)+(n:Int)).toNat else min (k:Int).toNat n)=min k n;rw[if_neg #v[],Cy]
theorem yai (n d:Nat) (hd:d<=n) (o:Option Int):sIx n d o<=n:=by
  cases o with
  |none=>exact hd
  | some v =>
    show (if v<0 then (v+(n:Int)).toNat else min v.toNat n)<=n;by_cases hv:v<0
    · rw[if_pos hv];omega
    · rw[if_neg hv];exact Nat.min_le_right _ _
theorem zyw (v:Int)(n d:Nat):(if v<0 then max (v+(n:Int)) 0 else min v (n:Int))=((sIx n d (some v):Nat):Int):=by
 show (if v<0 then max (v+(n:Int)) 0 else min v (n:Int))=(((if v<0 then (v+(n:Int)).toNat else min v.toNat n):Nat):Int);by_cases hv:v<0
 ·simp only [if_pos hv];omega
 ·simp only [if_neg hv];omega
theorem zs8 (lo hi:Option Int)(n:Nat):Builtin.Slice.sliceAdjust lo hi 1 (n:Int)=(((sIx n 0 lo:Nat):Int),((sIx n n hi:Nat):Int)):=by
 have h1:¬ ((1:Int)<0):=by omega
 unfold Builtin.Slice.sliceAdjust;simp only [h1,Dq];refine Prod.ext ?_ ?_
 ·cases lo with
  |none=>rfl
  |some v=>exact zyw v n 0
 ·cases hi with
  |none=>rfl
  |some v=>exact zyw v n n
theorem zsl (i j:Nat):Builtin.Slice.slicePlaces (i:Int) (j:Int) 1=j - i:=by
 unfold Builtin.Slice.slicePlaces;have h1:(1:Int) > 0:=by omega
 simp only [h1,Dp,Int.ediv_one];split<;>omega
theorem zih {v:Value}{o:Option Int}{Q:Option Int->Shared->Prop}(p:IsPart v o)(h:Q o s):wpAny (model prog w) A (Builtin.Slice.slicePartIndex v) Q E s:=by
 cases p with
 |none=>exact slicePart_none h
 |int i t=>exact slicePart_int h
theorem zc0 {sl:Addr}{vl vu:Value}{lo hi:Option Int}{n:Nat}{Q:Int × Int × Nat->Shared->Prop} (hs:s.heap.IsSliceOf sl vl vu .none) (pl:IsPart vl lo) (pu:IsPart vu hi)
  (h:Q (((sIx n 0 lo:Nat):Int),1,sIx n n hi - sIx n 0 lo) s):wpAny (model prog w) A (Builtin.Slice.sliceApplied (.ref sl) (pure (n:Int))) Q E s:=by
 obtain⟨os,hos,hcs,hds⟩:=id hs;unfold Builtin.Slice.sliceApplied Builtin.Slice.sliceFields;refine Aa (Aa (Ck hos hds (x:=vl) rfl (Aa (Ck hos hds (x:=vu) rfl (Aa (Ck hos hds (x:=.none) rfl (Af ?_)))))));refine Aa (slicePart_none ?_);show wpAny _ _ (if ((1:Int) == 0)=true then _ else _) _ _ s;rw[if_neg #v[0,9]];refine Aa (zih pl (Aa (zih pu (Aa (Af ?_)))));show wpAny _ _ (match Builtin.Slice.sliceAdjust lo hi 1 (n:Int) with|(lo,hi)=>pure (lo,(1:Int),Builtin.Slice.slicePlaces lo hi 1)) _ _ s;rw[zs8 lo hi n];show wpAny _ _ (pure (((sIx n 0 lo:Nat):Int),(1:Int),Builtin.Slice.slicePlaces ((sIx n 0 lo:Nat):Int) ((sIx n n hi:Nat):Int) 1)) _ _ s;rw[zsl];exact Af h
theorem z06 (xs:Array Value)(i k:Nat):((List.range k).filterMap λ(m:Nat)=>xs[((i:Int)+(m:Int) * 1).toNat]?).toArray=((xs.toList.drop i).take k).toArray:=by
 have e:(λ(m:Nat)=>xs[((i:Int)+(m:Int) * 1).toNat]?)=λm=>xs[i+m]?:=by
  funext m
  have:((i:Int)+(m:Int) * 1).toNat=i+m:=by omega
  rw[this]
 rw[e];have:=pick_run xs i k;rw[List.filterMap_map] at this;have e2:((λx=>xs[x]?) ∘ λx=>i+x)=λm=>xs[i+m]?:=rfl;rw[e2] at this;rw[this]
theorem getItem_tuple_cut {t sl:Addr}{items:Array Value}{vl vu:Value}{lo hi:Option Int}{Q:Value->Shared->Prop} (ht:IsTup s.heap t items) (hs:s.heap.IsSliceOf sl vl vu .none) (pl:IsPart vl lo) (pu:IsPart vu hi)
  (hw:¬ (sIx items.size 0 lo=0/\sIx items.size items.size hi=items.size))
  (h:Q (.ref s.heap.objs.size) { s with heap:=s.heap.push { cls:=.type "tuple",data:=.seq ((items.toList.drop (sIx items.size 0 lo)).take (sIx items.size items.size hi - sIx items.size 0 lo)).toArray } })
  (hsz:items.size<=sizeLine):wpAny (model prog w) A (getItem (.ref t) (.ref sl)) Q E s:=by
 have htake:sizeOk (.seq ((items.toList.drop (sIx items.size 0 lo)).take (sIx items.size items.size hi - sIx items.size 0 lo)).toArray):=by
  show ((items.toList.drop (sIx items.size 0 lo)).take (sIx items.size items.size hi - sIx items.size 0 lo)).toArray.size<=sizeLine;rw[Aq,Dy,Gm,Bw];omega
 have hj:sIx items.size items.size hi<=items.size:=yai _ _ (Ag _) hi;obtain⟨os,hos,hcs,hds⟩:=id hs;have hTs:s.TypeIs (.ref sl) "slice" := ⟨os,hos,hcs⟩;unfold getItem
 try with_reducible refine Cr ?_
 first|refine Aa (Af ?_)|skip
 refine Aa (wpAny_sequenceKey ht.typeIs #v[0,9] ?_);refine Aa (Bz (name:=Str.ofString "__getitem__") ht.typeIs Dv
  (Cw Dv ht.typeIs entry_tuple_getitem ?_ (args_tuple_getitem _ _)))
 show wpAny _ _ (Builtin.Tuple.tupleItemsOf (.ref t) >>= _) _ _ s;refine Aa (tupleItemsOf_ ht ?_);refine Aa (wpAny_typeOf hTs ?_);rw[if_pos #v[0,9]];refine Aa (zc0 hs pl pu ?_);have hno:¬ ((((sIx items.size 0 lo:Nat):Int) == 0 && (1:Int) == 1 && (sIx items.size items.size hi - sIx items.size 0 lo) == items.size)=true):=by
  intro q;rw[Ad,Ad] at q;have q1:((sIx items.size 0 lo:Nat):Int)=0:=Br q.1.1;have q2:sIx items.size items.size hi - sIx items.size 0 lo=items.size:=Br q.2;exact hw ⟨by omega,by omega⟩
 show wpAny _ _ (if (((sIx items.size 0 lo:Nat):Int) == 0 && (1:Int) == 1 && (sIx items.size items.size hi - sIx items.size 0 lo) == items.size)=true then _ else _) _ _ s;rw[if_neg hno,z06]
 first
  |exact Aa (m:=Builtin.Tuple.tupleExact _) (Bu (Af ⟨_,rfl,Af h⟩) htake)
  |exact Aa (m:=Builtin.Tuple.tupleExact _) (Bu (Aa (Af (Af ⟨_,rfl,Af h⟩))) htake)
  |exact Aa (Aa (m:=Builtin.Tuple.tupleExact _) (Bu (Af (Af ⟨_,rfl,Af h⟩)) htake))
  |exact Aa (Aa (m:=Builtin.Tuple.tupleExact _) (Bu (Af ⟨_,rfl,Af h⟩) htake))
end
end HT
namespace L2
open PySem PySem.Spec PyProof.Rows
noncomputable abbrev TO:=St->Hp->(Option Int->Hp->Prop)->Prop
noncomputable def PO (X:Cx) (e:Option Expr) (t:TO):Prop :=
  ∀(pins:List (Addr × Obj)) (s:Shared) (σ:St) (H:Hp) (Q:Option Int->Hp->Prop),Inv X pins σ H s->t σ H Q ->
    wpAny #v[3,7] X.A (evalPart e X.env) (λu s'=>∃o H',Inv X pins σ H' s'/\IsPart u o/\Q o H') X.xe s
noncomputable def zx6:TO:=λ_ H Q=>Q none H
noncomputable def ya5 (t:TE):TO:=λσ H Q=>t σ H λx H1=>∃i,x=.int i/\Q (some i) H1
section
variable {X:Cx}{e:Expr}{te:TE}{lo hi:Option Expr}{tl th:TO}{pos p2:Pos}
theorem z58:PO X none zx6:=by
 intro pins s σ H Q I h;rw[evalPart_none];exact Af ⟨none,H,I,.none,h⟩
theorem z57 (h:PE X e te):PO X (some e) (ya5 te):=by
 intro pins s σ H Q I hw;rw[evalPart_some];refine thn (h pins s σ H _ I hw) λu s1 ⟨x,H1,I1,r1,q1⟩=>?_;obtain⟨i,rfl,q⟩:=q1;obtain⟨t,rfl⟩:=r1;exact⟨some i,H1,I1,.int i t,q⟩
noncomputable def SlR (X:Cx) (r:V->Option Int->Option Int->Hp->VK->Prop):Prop :=
  ∀(pins:List (Addr × Obj)) (s:Shared) (σ:St) (H:Hp) (x:V) (v vl vu:Value) (lo hi:Option Int) (sl:Addr) (Q:VK),Inv X pins σ H s->RelV x v->s.heap.IsSliceOf sl vl vu .none->IsPart vl lo->IsPart vu hi->r x lo hi H Q ->
    ∃T id,typeLookup (.type T) "__getitem__" = pure (some (.builtin id))/\s.TypeIs v T/\wpAny #v[3,7] X.A (getItem v (.ref sl)) (EP X pins σ Q) X.xe s
theorem SlR.or {r r' : V->Option Int->Option Int->Hp->VK->Prop}(h:SlR X r)(h' : SlR X r'):SlR X (λx lo hi H Q=>r x lo hi H Q\/r' x lo hi H Q):=by
 intro pins s σ H x v vl vu lo hi sl Q I rx hs pl pu q;rcases q with q|q
 ·exact h pins s σ H x v vl vu lo hi sl Q I rx hs pl pu q
 ·exact h' pins s σ H x v vl vu lo hi sl Q I rx hs pl pu q
noncomputable def tSl (r:V->Option Int->Option Int->Hp->VK->Prop) (te:TE) (tl th:TO):TE:=λσ H Q=>te σ H λx H1=>tl σ H1 λl H2=>th σ H2 λu H3=>r x l u H3 Q
theorem z07 {r:V->Option Int->Option Int->Hp->VK->Prop}(hr:SlR X r)(he:PE X e te)(hl:PO X lo tl)(hu:PO X hi th):PE X (.Subscript e (.Slice lo hi none p2) pos) (tSl r te tl th):=by
 intro pins s σ H Q I h;refine Subscript_ (thn (he pins s σ H _ I h) λv s1 ⟨x,H1,I1,r1,q1⟩=>?_);refine wpAny_Slice (thn (hl pins s1 σ H1 _ I1 q1) λvl s2 ⟨l,H2,I2,pl,q2⟩=>thn (hu pins s2 σ H2 _ I2 q2) λvu s3 ⟨u,H3,I3,pu,q3⟩=>?_);rw[evalPart_none];refine Af ?_;have I4:Inv X pins σ H3 { s3 with heap:=s3.heap.push { cls:=.type "slice",data:=.fields #[vl,vu,.none] } }:=I3.kept (t':=s3.toks) λb ob q=>Ac _ q;obtain⟨T,id,hT,ht,hg⟩:=hr pins { s3 with heap:=s3.heap.push { cls:=.type "slice",data:=.fields #[vl,vu,.none] } } σ H3 x v vl vu l u s3.heap.objs.size Q I4 r1 (Heap.IsSliceOf.new ..) pl pu q3;show wpAny #v[3,7] X.A (subscriptTail e (.Slice lo hi none p2) v (.ref s3.heap.objs.size)) (EP X pins σ Q) X.xe { s3 with heap:=s3.heap.push { cls:=.type "slice",data:=.fields #[vl,vu,.none] } };exact tail_any (ops:=[.ref s3.heap.objs.size,v]) ht hT hg (by with_unfolding_all rfl)
noncomputable def cutV (xs:List V) (lo hi:Option Int):List V:=(xs.drop (HT.sIx xs.length 0 lo)).take (HT.sIx xs.length xs.length hi - HT.sIx xs.length 0 lo)
theorem zg5 (xs:List V)(lo hi:Option Int):(cutV xs lo hi).length<=xs.length:=by
 unfold cutV;rw[Dy,Gm];omega
noncomputable def rSlT (K:PySem.W.Frag):V->Option Int->Option Int->Hp->VK->Prop:=λx lo hi H Q=>∃a xs,x=.ref a/\SqT K H a xs /\
 ¬ (HT.sIx xs.length 0 lo=0/\HT.sIx xs.length xs.length hi=xs.length)/\∀p,H p=none->Q (.ref p) (upd H p (.tup (cutV xs lo hi)))
theorem z9d:SlR X (rSlT X.K):=by
 intro pins s σ H x v vl vu lo hi sl Q I rx hs pl pu h;obtain⟨a,xs,rfl,hx,hw,q⟩:=h;cases rx;obtain⟨its,r,ht,hz⟩:=I.tuple hx;have hlen:its.toArray.size=xs.length:=by rw[Aq];exact r.length.symm
 refine⟨"tuple",_,PyProof.Rows.slot_tuple_getitem.lookup,ht.typeIs,?_⟩;refine HT.getItem_tuple_cut ht hs pl pu (by rw[hlen];exact hw) ?_ (by rw[hlen];exact hz);rw[hlen];refine⟨.ref s.heap.objs.size,_,I.laid (t':=s.toks) (o:=.tup (cutV xs lo hi)) (λb ob q=>Ac _ q) (Ag _) ?_,rfl,q _ (I.hok.fresh (Ag _))⟩;exact⟨Ci (zg5 xs lo hi) hz,_,(r.drop (HT.sIx xs.length 0 lo)).take (HT.sIx xs.length xs.length hi - HT.sIx xs.length 0 lo),IsTup.new _ _⟩
noncomputable def z9k (K:PySem.W.Frag):R2:=λx y H Q=>∃a b xs ys,x=.ref a/\y=.ref b/\SqT K H a xs/\SqT K H b ys/\xs≠[]/\xs.length+ys.length<=sizeLine /\
 (ys=[]->Q (.ref a) H)/\(ys≠[]->∀p,H p=none->Q (.ref p) (upd H p (.tup (xs++ys))))
theorem Vals.nil_iff {xs:List V}{us:List Value}(r:Vals xs us):us=[]↔xs=[]:=by
 cases r with
 |nil=>simp
 |cons _ _=>simp
theorem z6d:OpR X (binaryOp .Add) (z9k X.K):=by
 intro pins s σ H x y v u Q I rx ry h;obtain⟨a,b,xs,ys,rfl,rfl,ha,hb,hx,hz,q1,q2⟩:=h;cases rx;cases ry;obtain⟨its,r1,p1,_⟩:=I.tuple ha;obtain⟨its2,r2,p2,_⟩:=I.tuple hb;refine HT.cat_tup p1 p2 (λz=>hx (r1.nil_iff.mp z)) (λz=>⟨.ref a,H,I,rfl,q1 (r2.nil_iff.mp z)⟩) (λz=>?_) (by rw[<-r1.length,<-r2.length];exact hz);refine⟨.ref s.heap.objs.size,_,I.laid (t':=s.toks) (o:=.tup (xs++ys)) (λb ob q=>Ac _ q) (Ag _) ?_,rfl,q2 (λw=>z (r2.nil_iff.mpr w)) _ (I.hok.fresh (Ag _))⟩;exact⟨by rw[Ba];exact hz,_,r1.append r2,IsTup.new _ _⟩
end
noncomputable def ixN (n:Nat) (i:Int):Option Nat:=if 0<=i then (if i<n then some i.toNat else none) else if -(n:Int)<=i then some (i+n).toNat else none
noncomputable def atI {α:Type} (xs:List α) (i:Int):Option α:=(ixN xs.length i).bind λj=>xs[j]?
theorem zy1 {n:Nat}{i:Int}{j:Nat}(h:ixN n i=some j):seqIndex? i n=some j/\j<n/\-(n:Int)<=i/\i<n:=by
 unfold ixN at h;by_cases h0:0<=i
 ·rw[if_pos h0] at h;by_cases h1:i<n
  ·rw[if_pos h1] at h;have e:i.toNat=j:=sI h;exact⟨by rw[seqIndex_of h0 h1,e],by omega,by omega,h1⟩
  ·rw[if_neg h1] at h;cases h
 ·rw[if_neg h0] at h;by_cases h1:-(n:Int)<=i
  ·rw[if_pos h1] at h;have e:(i+n).toNat=j:=sI h;exact⟨by rw[seqIndex_neg #v[] h1,e],by omega,h1,by omega⟩
  ·rw[if_neg h1] at h;cases h
theorem zwj {α:Type}{xs:List α}{i:Int}{v:α} (h:atI xs i=some v):∃j,seqIndex? i xs.length=some j/\xs[j]?=some v/\j < xs.length/\-(xs.length:Int)<=i/\i < xs.length:=by
  unfold atI at h;cases e:ixN xs.length i with
  |none=>rw[e] at h;cases h
  | some j =>
    rw[e] at h;obtain⟨h1,h2,h3,h4⟩:=zy1 e;exact⟨j,h1,h,h2,h3,h4⟩
theorem z8l {α:Type}{xs:List α}{j:Nat}{v:α}(h:xs[j]?=some v):atI xs (j:Int)=some v:=by
 have hj:j<xs.length:=(Ak.mp h).1;have e:ixN xs.length (j:Int)=some j:=by
  unfold ixN;rw[if_pos #v[],if_pos #v[]];simp
 unfold atI;rw[e];exact h
noncomputable def zzd (b:Expr):Prop:=∀o i,subscripted b false o i=operate [o,i] (getItem o i)
noncomputable def IxR (X:Cx) (r:R2):Prop :=
  ∀(value slice:Expr) (pins:List (Addr × Obj)) (s:Shared) (σ:St) (H:Hp) (x y:V) (v u:Value) (Q:VK),Inv X pins σ H s->RelV x v->RelV y u->r x y H Q ->
    subscripted slice false v u=operate [v,u] (getItem v u)->wpAny #v[3,7] X.A (subscriptTail value slice v u) (EP X pins σ Q) X.xe s
noncomputable def MtR (X:Cx) (id:String) (r:V->List V->Hp->VK->Prop):Prop :=
  ∀(pins:List (Addr × Obj)) (s:Shared) (σ:St) (H:Hp) (x:V) (xs:List V) (v:Value) (us:List Value) (Q:VK),Inv X pins σ H s->RelV x v->Vals xs us->r x xs H Q ->
    wpAny #v[3,7] X.A (call (.builtin id) (v::us)) (EP X pins σ Q) X.xe s
section
variable {X:Cx}{a b:Expr}{ta tb:TE}{pos:Pos}
theorem IxR.or {r r' : R2}(h:IxR X r)(h' : IxR X r'):IxR X (λx y H Q=>r x y H Q\/r' x y H Q):=by
 intro value slice pins s σ H x y v u Q I rx ry q hs;rcases q with q|q
 ·exact h value slice pins s σ H x y v u Q I rx ry q hs
 ·exact h' value slice pins s σ H x y v u Q I rx ry q hs
theorem yea {r:R2}(hr:IxR X r)(ha:PE X a ta)(hb:PE X b tb)(hs:zzd b):PE X (.Subscript a b pos) (tOp r ta tb):=by
 intro pins s σ H Q I h;exact Subscript_ (binT ha hb I h λv u s2 x y H2 I2 rx ry q=>hr a b pins s2 σ H2 x y v u Q I2 rx ry q (hs _ _))
noncomputable def rIxL (K:PySem.W.Frag):R2:=λx y H Q=>∃p xs i v,x=.ref p/\y=.int i/\SqL K H p xs/\atI xs i=some v/\Q v H
noncomputable def rIxT (K:PySem.W.Frag):R2:=λx y H Q=>∃p xs i v,x=.ref p/\y=.int i/\SqT K H p xs/\atI xs i=some v/\Q v H
theorem z5y:IxR X (rIxL X.K):=by
 intro value slice pins s σ H x y v u Q I rx ry h hs;obtain⟨p,xs,i,z,rfl,rfl,hq,he,q⟩:=h;cases rx;obtain⟨t,rfl⟩:=ry;obtain⟨its,r,pl,hz⟩:=I.list hq;obtain⟨j,h1,h2,h3,h4,h5⟩:=zwj he;obtain⟨w,ew,rw'⟩:=r.get h2;have hl:=r.length;have hn:=zpy;have fin:EP X pins σ Q w s:=⟨z,H,I,rw',q⟩;by_cases h0:0<=i
 ·have hj:i.toNat=j:=by
   rw[seqIndex_of h0 h5] at h1;exact sI h1
  exact item_listR pl.isList h0 #v[] (by rw[hj];simpa using ew) fin hs
 ·have hj:(i+(its.toArray.size:Int)).toNat=j:=by
   rw[seqIndex_neg #v[] h4] at h1;rw[Aq,<-hl];exact sI h1
  exact subscriptTail_builtinR (x:=w) pl.isList.typeIs slot_list_getitem.lookup
   (wpAny_getItem_list_neg (Q:=λr s'=>r=w/\EP X pins σ Q r s') pl.isList #v[] (by rw[Aq]<;>omega) #v[] (by rw[hj];simpa using ew) ⟨rfl,fin⟩) hs
theorem yb3:IxR X (rIxT X.K):=by
 intro value slice pins s σ H x y v u Q I rx ry h hs;obtain⟨p,xs,i,z,rfl,rfl,hq,he,q⟩:=h;cases rx;obtain⟨t,rfl⟩:=ry;obtain⟨its,r,pl,hz⟩:=I.tuple hq;obtain⟨j,h1,h2,h3,h4,h5⟩:=zwj he;obtain⟨w,ew,rw'⟩:=r.get h2;have hl:=r.length;have hn:=zpy;have fin:EP X pins σ Q w s:=⟨z,H,I,rw',q⟩;exact subscriptTail_builtinR (x:=w) pl.typeIs slot_tuple_getitem.lookup
  (getItem_tuple (j:=j) (Q:=λr s'=>r=w/\EP X pins σ Q r s') pl #v[] #v[] (by rw[Aq,<-hl];exact h1) (by simpa using ew) ⟨rfl,fin⟩) hs
theorem zs3 (its:List Value)(n j:Nat)(u:Value):Obj.mapSeq (·.setIfInBounds j u) { cls:=.type "list",data:=.seq its.toArray n }={ cls:=.type "list",data:=.seq (its.set j u).toArray n }:=by
 simp [Obj.mapSeq]
theorem Inv.lst {pins:List (Addr × Obj)}{σ:St}{H:Hp}{s:Shared}{p:Addr}{xs:List V} (I:Inv X pins σ H s) (h:H p=some (.lst xs)) :
  ∃(its:List Value) (n:Nat),Vals xs its/\s.heap.get? p=some { cls:=.type "list",data:=.seq its.toArray n }/\xs.length<=sizeLine:=by
 obtain⟨z,its,n,r,e⟩:=I.hok p _ h;exact⟨its,n,r,e,z⟩
theorem Inv.lstUpd {pins:List (Addr × Obj)}{σ:St}{H:Hp}{s:Shared}{p:Addr}{xs ys:List V}{its its' : List Value}{n n' : Nat}{f:Obj->Obj} (I:Inv X pins σ H s) (h:H p=some (.lst xs))
  (ho:s.heap.get? p=some { cls:=.type "list",data:=.seq its.toArray n }) (hf:f { cls:=.type "list",data:=.seq its.toArray n }={ cls:=.type "list",data:=.seq its'.toArray n' }) (r:Vals ys its') (hz:ys.length<=sizeLine) (t:Nat) :
  Inv X pins σ (upd H p (.lst ys)) { s with heap:=s.heap.update p f,toks:=t }:=by
 have e:(s.heap.update p f).get? p=some { cls:=.type "list",data:=.seq its'.toArray n' }:=by
  rw[Fg f ho (by rw[hf]<;>rfl),hf]
 refine I.write (x:=p) (e:=p) (by rw[h];trivial) (.inl rfl) (λb u hb q=>(Dd _ _ (Ne.symm hb)).trans q) ⟨_,e⟩ ?_;exact⟨hz,its',n',r,e⟩
noncomputable def z5v:V->V->V->Hp->(Hp->Prop)->Prop:=λo i v H Q=>∃p xs k j,o=.ref p/\i=.int k/\H p=some (.lst xs)/\ixN xs.length k=some j/\Q (upd H p (.lst (xs.set j v)))
theorem zq1:PSet X z5v:=by
 intro pins s σ H o i v ov iv u Q I ro ri rv h;obtain⟨p,xs,k,j,rfl,rfl,hp,hj,q⟩:=h;cases ro;obtain⟨t,rfl⟩:=ri;obtain⟨its,n,r,ho,hz⟩:=I.lst hp;obtain⟨h1,h2,h3,h4⟩:=zy1 hj;have hl:=r.length;have hn:=zpy;have I' : Inv X pins σ (upd H p (.lst (xs.set j v))) { s with heap:=s.heap.update p (Obj.mapSeq (·.setIfInBounds j u)) } :=
  I.lstUpd hp ho (zs3 its n j u) (r.set rv j) (by rw[Do];exact hz) s.toks
 by_cases h0:0<=k
 ·have hk:k.toNat=j:=by
   rw[seqIndex_of h0 h4] at h1;exact sI h1
  exact PySem.W.ki_setAt ho h0 #v[] (by rw[Aq,<-hl];exact h4) (by rw[hk];exact⟨_,I',q⟩)
 ·have hk:(k+(its.toArray.size:Int)).toNat=j:=by
   rw[seqIndex_neg #v[] h3] at h1;rw[Aq,<-hl];exact sI h1
  exact PySem.W.ki_setBack ho #v[] (by rw[Aq,<-hl];exact h3) #v[] (by rw[hk];exact⟨_,I',q⟩)
theorem zlv (lo hi:Option Int) (n:Nat):(sliceBounds lo hi none n).1=((HT.sIx n 0 lo:Nat):Int)/\(sliceBounds lo hi none n).2.1=((HT.sIx n n hi:Nat):Int)/\(sliceBounds lo hi none n).2.2=1:=by
  refine⟨?_,?_,rfl⟩
  · cases lo with
    |none=>simp [sliceBounds,HT.sIx]
    | some i =>
      simp only [sliceBounds,HT.sIx,Option.getD_none,show (1:Int) > 0 by decide,Dp];by_cases h:i<0
      · simp only [h,Dp]<;>omega
      · simp only [h,Dq]<;>omega
  · cases hi with
    |none=>simp [sliceBounds,HT.sIx]
    | some i =>
      simp only [sliceBounds,HT.sIx,Option.getD_none,show (1:Int) > 0 by decide,Dp];by_cases h:i<0
      · simp only [h,Dp]<;>omega
      · simp only [h,Dq]<;>omega
theorem zj6 (its:List Value)(lo hi:Option Int):slicePick its.toArray lo hi none=((its.drop (HT.sIx its.length 0 lo)).take (HT.sIx its.length its.length hi - HT.sIx its.length 0 lo)).toArray:=by
 obtain⟨h1,h2,h3⟩:=zlv lo hi its.toArray.size;unfold slicePick;rw[h1,h2,h3];simp only [sliceRange_one,pick_run,Aq]<;>rfl
noncomputable def rSlL (K:PySem.W.Frag):V->Option Int->Option Int->Hp->VK->Prop:=λx lo hi H Q=>∃a xs,x=.ref a/\SqL K H a xs/\∀p,H p=none->Q (.ref p) (upd H p (.lst (cutV xs lo hi)))
theorem z5p:SlR X (rSlL X.K):=by
 intro pins s σ H x v vl vu lo hi sl Q I rx hs pl pu h;obtain⟨a,xs,rfl,hx,q⟩:=h;cases rx;obtain⟨its,r,ht,hz⟩:=I.list hx;have hlen:=r.length;refine⟨"list",_,slot_list_getitem.lookup,ht.isList.typeIs,?_⟩;refine wpAny_getItem_list_slice ht.isList hs pl pu .none (by simp) ?_ (by rw[Aq]<;>omega);rw[zj6,<-hlen];refine⟨.ref s.heap.objs.size,_,I.laid (t':=s.toks) (o:=.lst (cutV xs lo hi)) (λb ob q=>Ac _ q) (Ag _) ?_,rfl,q _ (I.hok.fresh (Ag _))⟩;exact⟨Ci (zg5 xs lo hi) hz,_,0,(r.drop (HT.sIx xs.length 0 lo)).take (HT.sIx xs.length xs.length hi - HT.sIx xs.length 0 lo),As _ rfl⟩
theorem zk8:zmx X (.builtin "len") (λxs H Q=>∃p ys,xs=[.ref p]/\(SqL X.K H p ys\/SqT X.K H p ys)/\Q (.int ys.length) H):=by
 intro pins s σ H xs us Q I r h;obtain⟨p,ys,rfl,hq,q⟩:=h;obtain⟨u,rfl,rx⟩:=vals1 r;cases rx;have hn:=zpy;rcases hq with hq|hq
 ·obtain⟨its,r', pl,hz⟩:=I.list hq;have hlen:=r'.length;exact Calls.call_len_list pl.isList (by simp only [Aq]<;>omega) ⟨.int ys.length,H,I.tok _,⟨s.toks+1,by rw[Aq,hlen]⟩,q⟩
 ·obtain⟨its,r', pl,hz⟩:=I.tuple hq;have hlen:=r'.length;exact len_tuple pl (by simp only [Aq]<;>omega) ⟨.int ys.length,H,I.tok _,⟨s.toks+1,by rw[Aq,hlen]⟩,q⟩
theorem zim:zmx X (.type "tuple") (λxs H Q=>∃p ys,xs=[.ref p]/\((SqL X.K H p ys/\∀l,H l=none->Q (.ref l) (upd H l (.tup ys)))\/(SqT X.K H p ys/\Q (.ref p) H))):=by
 intro pins s σ H xs us Q I r h;obtain⟨p,ys,rfl,h⟩:=h;obtain⟨u,rfl,rx⟩:=vals1 r;cases rx;rcases h with⟨hq,q⟩|⟨hq,q⟩
 ·obtain ⟨its, r', pl, hz⟩ := I.list hq;have hlen:=r'.length;refine call_tuple_list pl.isList (fun h' kp=>?_) (by simp only [Aq]<;>omega);have I1:Inv X pins σ H { s with heap:=h' }:=I.kept (t':=s.toks) kp;have I2:Inv X pins σ (upd H h'.objs.size (.tup ys)) { s with heap:=h'.push { cls:=.type "tuple",data:=.seq its.toArray } } :=
   I1.laid (t':=s.toks) (λb o e=>Ac _ e) (Ag _) (show ObjOk X.prog X.w _ _ _ (.tup ys) from ⟨hz,its,r',IsTup.new _ _⟩)
  exact⟨.ref h'.objs.size,_,I2,rfl,q _ (I1.hok.fresh (Ag _))⟩
 ·obtain⟨its,r', pl,hz⟩:=I.tuple hq;exact call_tuple_same pl ⟨.ref p,H,I,rfl,q⟩
noncomputable def tyV (K:PySem.W.Frag) (T:String) (x:V) (H:Hp):Prop:=match x with
 |.str _=>T = "str"
 |.int _=>T = "int"
 | .ref p=>(T = "list"/\∃xs,SqL K H p xs)\/(T = "tuple"/\∃o,K.lookup p=some o/\o.cls=.type "tuple"/\o.dict=none) \/
   (T = "dict"/\((∃kvs,H p=some (.dK kvs))\/∃kvs,H p=some (.dT kvs)))\/(T = "set"/\∃S n,H p=some (.set S n))
 |_=>False
theorem z37 {pins:List (Addr × Obj)}{σ:St}{H:Hp}{s:Shared}{T:String}{x:V}{v:Value} (I:Inv X pins σ H s) (r:RelV x v) (ty:tyV X.K T x H) :
    s.TypeIs v T/\∀a,v=.ref a->∃ob,s.heap.get? a=some ob/\ob.dict=none:=by
  cases x with
  | str z =>
    obtain⟨t,rfl⟩:=r;cases (show T = "str" from ty);exact⟨typeIs_str s z t,λ_ e=>nomatch e⟩
  | int i =>
    obtain⟨t,rfl⟩:=r;cases (show T = "int" from ty);exact⟨typeIs_int s i t,λ_ e=>nomatch e⟩
  | ref p =>
    cases r;rcases ty with⟨rfl,xs,hq⟩|⟨rfl,o,hk,hc,hd⟩|⟨rfl,hk⟩|⟨rfl,S,n,hk⟩
    · obtain ⟨its, _, pl, _⟩ := I.list hq
      refine⟨pl.isList.typeIs,λa e=>?_⟩;cases e;obtain⟨o,n,e,c,hd,_⟩:=pl;exact⟨o,e,hd⟩
    · refine ⟨⟨o, I.kIn p o hk, hc⟩, fun a e => ?_⟩
      cases e;exact⟨o,I.kIn _ o hk,hd⟩
    · have z:∃o,s.heap.get? p=some o/\o.ExactDict:=by
        rcases hk with⟨kvs,hk⟩|⟨kvs,hk⟩
        · obtain ⟨_, _, _, _, o, _, _, e, ex, _⟩ := I.hok p _ hk
          exact⟨o,e,ex⟩
        · obtain ⟨_, _, _, _, o, _, _, e, ex, _⟩ := I.hok p _ hk
          exact⟨o,e,ex⟩
      obtain⟨o,e,ex⟩:=z;refine⟨⟨o,e,ex.1⟩,λa e2=>?_⟩;cases e2;exact⟨o,e,ex.2.1⟩
    · obtain ⟨o, _, _, _, e, ex, _⟩ := I.hok p _ hk
      refine⟨⟨o,e,ex.1⟩,λa e2=>?_⟩;cases e2;exact⟨o,e,ex.2.1⟩
  |_=>exact False.elim ty
noncomputable def tBM0 (K:PySem.W.Frag) (T:String) (r:V->List V->Hp->VK->Prop) (to:TE):TE:=λσ H Q=>to σ H λx H1=>tyV K T x H1/\r x [] H1 Q
noncomputable def tBM (K:PySem.W.Frag) (T:String) (r:V->List V->Hp->VK->Prop) (to:TE) (t:TA):TE:=λσ H Q=>to σ H λx H1=>tyV K T x H1/\t σ H1 λxs H2=>r x xs H2 Q
variable {o e:Expr}{es:List Expr}{to:TE}{t:TA}{name:Str}{apos cpos:Pos}{T id:String}{r:V->List V->Hp->VK->Prop}
theorem ya2 (pa:PlainAttrs T) (slot:Slot T name id) (hty:typeOf (.builtin id)=pure (.type "method_descriptor")) (hm:MtR X id r) (ho:PE X o to)
  (hbase:attributeBase o name X.env (eval o X.env)=eval o X.env:=by rfl) (hline:(apos.endLine == cpos.line)=true:=by rfl):PE X (.Call (.Attribute o name apos) [] [] cpos) (tBM0 X.K T r to):=by
 intro pins s σ H Q I h;refine wpAny_Call_method0_late hbase hline (thn (ho pins s σ H _ I h) λv s1 ⟨x,H1,I1,r1,ty,q1⟩=>?_);obtain⟨h1,h2⟩:=z37 I1 r1 ty;exact⟨T,id,pa,slot,hty,h1,h2,Gq rfl (PySem.evalArgs_none (hm pins s1 σ H1 x [] v [] Q I1 r1 .nil q1))⟩
theorem yd3 (pa:PlainAttrs T) (slot:Slot T name id) (hty:typeOf (.builtin id)=pure (.type "method_descriptor")) (hm:MtR X id r) (ho:PE X o to) (ha:PA X (e::es) t)
  (hbase:attributeBase o name X.env (eval o X.env)=eval o X.env:=by rfl)
  (hfew:((backTo cpos (starEach (e::es) X.env)).all (λx=>!x.1) && (backToKw cpos (keywordEach [] X.env)).all (λx=>x.1.isSome)
   && decide ((e::es).length+([]:List Keyword).length+(if ([]:List Keyword).isEmpty then 0 else 1)<30))=true:=by rfl)
  (hline:(apos.endLine == cpos.line)=true:=by rfl) (hs:starEach (e::es) X.env=(false,eval e X.env)::starEach es X.env:=by rfl) (hplain:(backTo cpos (starEach es X.env)).any (·.1)=false:=by rfl) :
  PE X (.Call (.Attribute o name apos) (e::es) [] cpos) (tBM X.K T r to t):=by
 intro pins s σ H Q I h;refine wpAny_Call_method_late hbase hfew hline rfl (thn (ho pins s σ H _ I h) λv s1 ⟨x,H1,I1,r1,ty,q1⟩=>?_);obtain⟨h1,h2⟩:=z37 I1 r1 ty;refine⟨T,id,pa,slot,hty,h1,h2,?_⟩;have hA:=ha cpos pins s1 σ H1 _ I1 q1;rw[hs] at hA ⊢;refine Gq (by show (false || (backTo cpos (starEach es X.env)).any (·.1))=false;rw[hplain]<;>rfl) (Calls.evalArgs_plain ?_);exact thn hA λus s2 ⟨vs,H2,I2,r2,q2⟩=>hm pins s2 σ H2 x vs v us Q I2 r1 r2 q2
end
noncomputable def MtM (X:Cx) (id:String) (r:V->List V->Hp->VK->Prop):Prop :=
  ∀(pins:List (Addr × Obj)) (s:Shared) (σ:St) (H:Hp) (x:V) (xs:List V) (v:Value) (us:List Value) (Q:VK),Inv X pins σ H s->RelV x v->Vals xs us->r x xs H Q ->
    wpAny #v[3,7] X.A (call (.builtin id) (v::us)) (EP X pins σ Q) X.xe s
theorem Vals.one:∀{x:V}{us:List Value},Vals [x] us->∃u,us=[u]/\RelV x u
 |_,_,.cons r .nil=>⟨_,rfl,r⟩
theorem Vals.rep {xs:List V}{us:List Value} (h:Vals xs us):∀k:Nat,Vals (List.replicate k xs).flatten (List.replicate k us).flatten
  |0=>.nil
  | k+1=>by
    rw[Ce,Ce,Ds,Ds];exact Vals.append h (Vals.rep h k)
theorem zm8 (its:List Value):∀(k:Nat) (acc:List Value),
    List.foldl (λx1 x2=>x1++x2) acc.toArray (List.replicate k its.toArray)=(acc++(List.replicate k its).flatten).toArray
  |0,acc=>by simp
  | k+1,acc=>by
    have e:acc.toArray++its.toArray=(acc++its).toArray:=by simp
    have e2:(acc++its)++(List.replicate k its).flatten=acc++(List.replicate (k+1) its).flatten:=by
      rw[Ce,Ds,Bb]
    rw[<-e2,<-zm8 its k (acc++its),<-e,Ce,List.foldl_cons]
section
variable {X:Cx}{pins:List (Addr × Obj)}{σ:St}{H:Hp}{s:Shared}{l b:Addr}{xs ys zs:List V}
theorem Inv.lset {its its' : List Value}{n:Nat}{f:Array Value->Array Value}{t' : Nat} (I:Inv X pins σ H s) (hH:H l=some (.lst xs))
  (e:s.heap.get? l=some { cls:=.type "list",data:=.seq its.toArray n }) (hf:f its.toArray=its'.toArray) (hv:Vals ys its') (hz:ys.length<=sizeLine) :
  Inv X pins σ (upd H l (.lst ys)) { s with heap:=s.heap.update l (Obj.mapSeq f),toks:=t' }:=by
 have q:=PySem.IsL.update e f;rw[hf] at q;refine I.write (x:=l) (e:=l) (by rw[hH];exact trivial) (.inl rfl) (λb' u hb hu=>(Dd s.heap (Obj.mapSeq f) (Ne.symm hb)).trans hu) ⟨_,q⟩ ?_;exact⟨hz,its',_,hv,q⟩
theorem Inv.lnew {its:List Value}{t' : Nat} (I:Inv X pins σ H s) (hv:Vals ys its) (hz:ys.length<=sizeLine) :
  Inv X pins σ (upd H s.heap.objs.size (.lst ys)) { s with heap:=s.heap.push { cls:=.type "list",data:=.seq its.toArray },toks:=t' } :=
 I.laid (λ_ _ q=>Ac _ q) (Ag _) ⟨hz,its,0,hv,As _ rfl⟩
theorem Inv.fresh (I:Inv X pins σ H s):H s.heap.objs.size=none:=I.hok.fresh (Ag _)
theorem Inv.lstM (I:Inv X pins σ H s)(hH:H l=some (.lst xs)):xs.length<=sizeLine/\∃(its:List Value) (n:Nat),Vals xs its/\xs.length=its.length/\s.heap.get? l=some { cls:=.type "list",data:=.seq its.toArray n }:=by
 obtain⟨z,its,n,r,e⟩:=I.hok l _ hH;exact⟨z,its,n,r,r.length,e⟩
theorem ziv {n:Nat}(h:n<=sizeLine):Builtin.List.listTooLong n=false:=by
 unfold Builtin.List.listTooLong;exact Ay #v[]
end
section
variable {X:Cx}
noncomputable def zu4:V->List V->Hp->VK->Prop:=λx vs H Q=>∃l xs y,x=.ref l/\vs=[y]/\H l=some (.lst xs)/\xs.length<sizeLine/\Q .non (upd H l (.lst (xs++[y])))
theorem zkz:MtM X "list.append" zu4:=by
 intro pins s σ H x vs v us Q I rx rv h;obtain⟨l,xs,y,rfl,rfl,hH,hz,q⟩:=h;cases rx;obtain⟨u,rfl,ru⟩:=rv.one;obtain⟨z,its,n,r,hl,e⟩:=I.lstM hH;refine call_meets F.slot_list_append ⟨_,e,rfl⟩ F.entry_list_append (F.args_list_append_2 _ _) (PySem.list_append l its.toArray n u (by rw[Aq];omega)) ⟨e,?_⟩;refine⟨.non,_,I.lset (its':=its++[u]) hH e (by simp) (r.append (.cons ru .nil)) ?_,rfl,q⟩;rw[Ba,List.length_singleton];omega
noncomputable def z65:V->List V->Hp->VK->Prop:=λx vs H Q=>∃l b xs zs,x=.ref l/\vs=[.ref b]/\H l=some (.lst xs)/\H b=some (.lst zs)/\xs.length+zs.length<=sizeLine/\Q .non (upd H l (.lst (xs++zs)))
theorem ybm:MtM X "list.extend" z65:=by
 intro pins s σ H x vs v us Q I rx rv h;obtain⟨l,b,xs,zs,rfl,rfl,hH,hB,hz,q⟩:=h;cases rx;obtain⟨u,rfl,ru⟩:=rv.one;cases ru;obtain⟨z,its,n,r,hl,e⟩:=I.lstM hH;obtain⟨z2,its2,n2,r2,hl2,e2⟩:=I.lstM hB;have hsz:its.toArray.size+its2.toArray.size<=sizeLine:=by rw[Aq,Aq];omega
 have hlong:¬ (!its.toArray.isEmpty && Builtin.List.listTooLong (its.toArray.size+its2.toArray.size))=true:=by
  rw[ziv hsz,Fc];exact Av
 refine call_meets F.slot_list_extend ⟨_,e,rfl⟩ F.entry_list_extend (F.args_list_extend_2 _ _)
  (AutoSeq1.list_extend_list_list_0 l its.toArray n b its2.toArray n2 hlong (by rw[Aq];omega) #v[]) ⟨e,e2,?_⟩
 refine⟨.non,_,I.lset (its':=its++its2) hH e (by simp) (r.append r2) ?_,rfl,q⟩;rw[Ba];omega
noncomputable def rCat:R2:=λx y H Q=>∃l b xs zs,x=.ref l/\y=.ref b/\H l=some (.lst xs)/\H b=some (.lst zs)/\xs.length+zs.length<=sizeLine/\∀p,H p=none->Q (.ref p) (upd H p (.lst (xs++zs)))
theorem z9t:OpR X (binaryOp .Add) rCat:=by
 intro pins s σ H x y v u Q I rx ry h;obtain⟨l,b,xs,zs,rfl,rfl,hH,hB,hz,q⟩:=h;cases rx;cases ry;obtain⟨z,its,n,r,hl,e⟩:=I.lstM hH;obtain⟨z2,its2,n2,r2,hl2,e2⟩:=I.lstM hB;refine PySem.P.add_list e e2 ?_ (by rw[Aq,Aq];omega);have ea:its.toArray++its2.toArray=(its++its2).toArray:=by simp
 rw[ea];exact⟨.ref _,_,I.lnew (t':=s.toks) (r.append r2) (by rw[Ba];omega),rfl,q _ I.fresh⟩
noncomputable def rRep:R2:=λx y H Q=>∃l k xs,x=.ref l/\y=.int k/\H l=some (.lst xs)/\-(2 ^ 63)<=k/\k<2 ^ 63/\xs.length * k.toNat<=sizeLine /\
 ∀p,H p=none->Q (.ref p) (upd H p (.lst (List.replicate k.toNat xs).flatten))
theorem z62 {α:Type}(xs:List α)(k:Nat):(List.replicate k xs).flatten.length=k * xs.length:=by
 induction k with
 |zero=>simp
 |succ k ih=>rw[Ce,Ds,Ba,ih,Nat.succ_mul,Nat.add_comm]
theorem yby:OpR X (binaryOp .Mult) rRep:=by
 intro pins s σ H x y v u Q I rx ry h;obtain⟨l,k,xs,rfl,rfl,hH,h1,h2,hz,q⟩:=h;cases rx;obtain⟨t,rfl⟩:=ry;obtain⟨z,its,n,r,hl,e⟩:=I.lstM hH;have hlen:its.toArray.size * k.toNat<=sizeLine:=by rw[Aq,<-hl];exact hz
 have hcap:¬ its.toArray.size * k.toNat > (2 ^ 63 - 1) / 8:=by
  have:(sizeLine:Nat)<=(2 ^ 63 - 1) / 8:=by decide
  omega
 have hfit:¬ (!Builtin.List.listFitsIndex k)=true:=by
  rw[fitsIndex_both h1 h2];exact Av
 have hlong:¬ Builtin.List.listTooLong (its.toArray.size * k.toNat)=true:=by
  rw[ziv hlen];exact Av
 have hnew:List.foldl (λx1 x2=>x1++x2) #[] (List.replicate (if its.toArray.isEmpty=true then 0 else k.toNat) its.toArray)=(List.replicate k.toNat its).flatten.toArray:=by
  have f0:∀m:Nat,List.foldl (λx1 x2=>x1++x2) #[] (List.replicate m its.toArray)=(List.replicate m its).flatten.toArray:=λm=>by
   have:=zm8 its m [];rw[List.nil_append] at this;exact this
  rw[f0];cases its with
  |nil=>simp
  |cons a r'=>rw[if_neg (by simp)]
 refine wpAny_binaryOp_repeat_ref (T := "list") (U := "int") #v[0,9] ⟨_,e,rfl⟩ (λs'=>typeIs_int s' k t) noFill_list_mul F.fills_int_mul F.slot_int_rmul repeat_list F.slot_int_index.lookup
  (call_meets F.slot_int_rmul (typeIs_int s k t) F.entry_int_rmul (F.args_int_rmul_2 _ _) (int___rmul___int_list k t l its.toArray n)
   ⟨e,rfl,⟨_,e,rfl⟩,call_meets F.slot_list_mul ⟨_,e,rfl⟩ F.entry_list_mul (F.args_list_mul_2 _ _) (AutoListH.list___mul___list_int_3 l its.toArray n k t hfit hcap hlong) ⟨e,?_⟩⟩)
 rw[hnew];exact⟨.ref _,_,I.lnew (t':=s.toks) (r.rep k.toNat) (by rw[z62,Nat.mul_comm];exact hz),rfl,q _ I.fresh⟩
end
section
variable {prog:Program}{w:World}{A:Around}{E:Value->Shared->Prop}{s:Shared}
end
section
variable {X:Cx}
end
end L2
namespace Att
open PySem PySem.W PySem.Calls PyProof.Rows
theorem zf3 {P:Params}{h:Heap}:∀(ns:List Int) (vs:List Value),WellAll P h vs (ns.map WData.int)->IntsAre vs ns:=by
  intro ns
  induction ns with
  | nil =>
    intro vs w;rw[List.map_nil] at w;cases w;exact .nil
  | cons n ns ih =>
    intro vs w;rw[Ah] at w;cases w with
    | cons a b =>
      cases a;exact .cons _ _ (ih _ b)
theorem zyi {l:OpenLaw}{n:Nat} (hn:l.most=some n) {P:Params}{h:Heap}{args:List WData}{vals:List Value}
    (hpre:l.row.toRowW.claim.pre args=true) (hwl:WellAll P h vals args) :
    ∃a vs ns,vals=[Value.ref a]/\args=[WData.list (ns.map WData.int)]/\h.get? a=some { cls:=.type "list",data:=.seq vs.toArray }/\IntsAre vs ns/\ns.length<=n:=by
  have hsh:WShape.hasAll [] args [.list .int]=true:=(pre_splitW hpre).1;have hc:l.pre.holds [] { args:=args }=true:=(pre_splitW hpre).2;obtain ⟨d,r,rfl,h1,h2⟩:=hasAllW_cons hsh;obtain rfl:=hasAllW_nil h2;obtain ⟨xs,rfl,h3⟩:=hasW_list h1;obtain ⟨ns,rfl⟩:=items_int h3;have hlen:ns.length<=n:=by
    unfold OpenLaw.pre at hc;have h4:(WTm.not (.lt (.lit (.int (n:Int))) (.len (.arg 0)))).holds [] { args:=[.list (ns.map .int)] }=true:=by
      have h4:=(holds_andW hc).1;rw[hn] at h4;exact h4
    have h5:=condW_of h4 (w_not (w_lt w_lit (w_len_list (w_arg rfl))));rw[Ab] at h5;refine Nat.le_of_not_lt λq=>?_;have q' : (n:Int)<((ns.length:Nat):Int):=by omega
    first
      |(rw[Am q'] at h5;exact absurd h5 #v[0,9])
      |(simp at h5;omega)
  cases hwl with
  | cons w1 w2 =>
    cases w2;cases w1 with
    |list ho hall=>exact⟨_,_,ns,rfl,rfl,ho,zf3 ns _ hall,hlen⟩
theorem zvm (l:OpenLaw)(args:List WData):l.row.toRowW.claim.post args (.bool true) args=true :=
 postW_of (r:=l.row.toRowW) (X:=(true == true))
  (show WShape.has [] (.bool true) .bool=true by first|rfl|decide|simp [WShape.has,WShape.arms,WShape.armsAll])
  (show (WTm.eq .res (.lit (.bool true))).value [] { args:=args,res:=some (.bool true),after:=args }=some (.bool (true == true)) from w_eq_bool (w_res rfl) w_lit) rfl
theorem attach_call {l:OpenLaw}{n:Nat}{q:Program}{loose:List Str}{XP:(Str->Option Value)->Heap->Prop}{YP:World->Heap->Prop}{d:DefRec}
  (hn:l.most=some n) (hdf:d.params.defaults=[])
  (call:∀(w:World) (s₀ s₁:Shared) (mg mb:Str->Option Value) (fa:Addr) (o:Obj) (pm cd doc:Value) (a:Addr) (vs:List Value) (ns:List Int),
   Ground q loose [] XP w s₀ mg mb s₁.heap->YP w s₁.heap ->
   s₁.heap.get? fa=some o->o.data=.func (docDef d.name d.params d.body d.scope pm cd doc)->s₁.heap.CodeRec cd d.name->mg d.name=some (.ref fa) ->
   s₁.heap.get? a=some { cls:=.type "list",data:=.seq vs.toArray }->IntsAre vs ns->ns.length<=n->s₁.gens=#[] ->
   codeAny (model l.prog w) callerA (.call (.ref fa) ⟨[.ref a],[]⟩) (λr s'=>r=.ok (.ret (.bool true))/\OldK s₁.heap s'.heap/\s'.os=s₁.os/\AllBare s'.gens) s₁) :
  WalkO q loose XP YP l.row.toRowW d [] (λf vs=>PySem.call f vs):=by
 intro w s₀ s₁ mg mb G Y fa o pm cd doc dV kV ho hd hcd hD hmg hg args vals as hpre hlay hrd hwl hlo;obtain rfl:dV=.none:=Dflts.none hD hdf;obtain rfl:kV=.none:=Dflts.noKw hD;obtain⟨a,vs,ns,rfl,rfl,hobj,hints,hlen⟩:=zyi hn hpre hwl;refine enter_call (codeAny_mono (call w s₀ s₁ mg mb fa o pm cd doc a vs ns G Y ho (fd_plain hd) hcd hmg hobj hints hlen hg) λr s' hq=>?_);obtain⟨rfl,h2,h3,h4⟩:=hq;exact⟨.inl ⟨.bool true,.bool true,[],rfl,λ_=>rfl,.bool true,zvm l _,λ_=>⟨List.Pairwise.nil,λ_ hm=>(nomatch hm)⟩⟩,h2,h3,h4⟩
section
variable {prog:Program}{w:World}{A:Around}{E:Value->Shared->Prop}{s:Shared}{K:Frag}
end
end Att
namespace L2
open PySem PySem.Spec PyProof.Rows
theorem zkq:∀{vs:List Value}{ns:List Int},IntsAre vs ns->Vals (ns.map V.int) vs
 |_,_,.nil=>.nil
 |_,_,.cons n t h=>.cons ⟨t,rfl⟩ (zkq h)
noncomputable def zez (s:Stmt):Arguments:=match s with
 |.FunctionDef _ a _ _ _ _ _ _ _ _=>a
 |_=>{ posonlyargs:=[],args:=[],vararg:=none,kwonlyargs:=[],kw_defaults:=[],kwarg:=none,defaults:=[] }
noncomputable def zc2 (s:Stmt):List Stmt:=match s with
 |.FunctionDef _ _ b _ _ _ _ _ _ _=>b
 |_=>[]
noncomputable def zao (s:Stmt):Scope:=match s with
 |.FunctionDef _ _ _ _ _ _ sc _ _ _=>sc
 |_=>{ kind:=.function,names:=[],isGenerator:=false,isCoroutine:=false }
noncomputable abbrev CX0:CXT:=λ_ _ _ _ _ _=>False
noncomputable abbrev E0:XK:=λ_ _ _=>False
theorem yah {X:Cx}:zym CX0 X E0:=λ_ _ _ _ _ _ _ h=>h.elim
structure Fun (K:PySem.W.Frag) (x qual:Str) (st:Stmt) (f:Addr) (fd:FuncData):Prop where
 ex:∃(oc:Value) (od:Option Addr) (kV doc pm:Value) (an:Option Addr) (cdv ct:Value) (osl:Array (Option Value)),
  fd=PySem.W.fnOf x qual (zez st) (zc2 st) (zao st) .none kV doc pm an cdv ct/\K.lookup f=some ⟨oc,od,.func fd,osl⟩/\PySem.W.codeIn K cdv qual=true
 kp:PySem.W.keepIn K (.ref f)=true
section
variable {P:Program}{w:World}{K:PySem.W.Frag}{mg:Str->Option Value}{base:Heap}
theorem Fun.binds {x qual:Str}{st:Stmt}{f:Addr}{fd:FuncData}{ps:List Str} (F:Fun K x qual st f fd)
  (h:∀(kV doc pm:Value) (an:Option Addr) (cdv ct:Value) (us:List Value),us.length=ps.length->bindArgs (PySem.W.fnOf x qual (zez st) (zc2 st) (zao st) .none kV doc pm an cdv ct) ⟨us,[]⟩=pure (ps.zip us)):zkp K fd ps []:=by
 obtain⟨oc,od,kV,doc,pm,an,cdv,ct,osl,rfl,lk,hcd⟩:=F.ex;exact .all (h kV doc pm an cdv ct)
theorem z3y {x qual:Str}{st:Stmt}{f:Addr}{oc:Value}{od an:Option Addr}{osl:Array (Option Value)}{kV doc pm cdv ct:Value} (l:K.lookup f=some ⟨oc,od,.func (PySem.W.fnOf x qual (zez st) (zc2 st) (zao st) .none kV doc pm an cdv ct),osl⟩)
  (c:PySem.W.codeIn K cdv qual=true) (k:PySem.W.keepIn K (.ref f)=true):Fun K x qual st f (PySem.W.fnOf x qual (zez st) (zc2 st) (zao st) .none kV doc pm an cdv ct):=⟨⟨oc,od,kV,doc,pm,an,cdv,ct,osl,rfl,l,c⟩,k⟩
end
section
variable {X:Cx}
end
theorem iteF {A B:Prop}(h:B):if false=true then A else B:=by
 rw[if_neg Av];exact h
theorem iteT {A B:Prop}(h:A):if true=true then A else B:=by
 rw[if_pos rfl];exact h
noncomputable def Same (H H' : Hp):Prop:=∀b o,H b=some o->H' b=some o
theorem Same.refl (H:Hp):Same H H:=λ_ _ h=>h
theorem Same.trans {H H1 H2:Hp}(a:Same H H1)(b:Same H1 H2):Same H H2:=λc o h=>b c o (a c o h)
theorem Same.free {H H' : Hp} (e:Same H H') {l:Addr} (h:H' l=Option.none):H l=Option.none:=by
  cases q:H l with
  |none=>rfl
  | some o =>
    rw[e l o q] at h;cases h
theorem Same.seq {K:PySem.W.Frag}{H H' : Hp}{a:Addr}{xs:List V}(e:Same H H')(h:SqL K H a xs):SqL K H' a xs:=by
 rcases h with (h|⟨o,h⟩)|h
 ·exact .inl (.inl (e _ _ h))
 ·exact .inl (.inr ⟨o,e _ _ h⟩)
 ·exact .inr h
noncomputable def capSt (cap:List (Option Nat)) (σ:St):St:=cap.map λo=>match o with
 |some i=>(σ[i]?).getD none
 |none=>none
noncomputable def zhe (cap:List (Option Nat)) (Nc N:List Str) (scope:Scope):Bool :=
 decide (cap.length=Nc.length) && (cap.zip Nc).all λp=>match p.1 with
  |some i=>decide (N[i]?=some p.2) && decide (scope.names.lookup p.2=some NameKind.free)
  |none=>true
theorem zye {cap Nc N scope}(h:zhe cap Nc N scope=true):cap.length=Nc.length:=by
 unfold zhe at h;rw[Ad] at h;exact Au h.1
theorem zx5 {cap:List (Option Nat)}{Nc N:List Str}{scope:Scope}(h:zhe cap Nc N scope=true){j i:Nat}{x:Str}(h1:cap[j]?=some (some i))(h2:Nc[j]?=some x):N[i]?=some x/\scope.names.lookup x=some .free:=by
 unfold zhe at h;rw[Ad] at h;have hm:(some i,x)∈cap.zip Nc:=by
  refine Bn (i:=j) ?_;rw[List.getElem?_zip_eq_some];exact⟨h1,h2⟩
 have q:=Bd.mp h.2 _ hm;simp only [Ad,Eo] at q;exact q
noncomputable def zg0 (scope:Scope) (out:Scope):Bool:=scope.names.all λp=>!(p.2 == NameKind.free) || decide (out.names.lookup p.1=some .cell) || decide (out.names.lookup p.1=some .free)
theorem zfa {env:Env}:∀(names:List (Str × NameKind)) (acc:List (Str × Addr)),(∀x,(x,NameKind.free)∈names->∃c,env.cells.lookup x=some c)->(∀x c,acc.lookup x=some c->env.cells.lookup x=some c) ->
    ∃cl,(forIn names acc fun (p:Str × NameKind) cs=>if p.2 == NameKind.free then do let c <- cellOf env p.1;pure (ForInStep.yield ((p.1,c)::cs)) else pure (ForInStep.yield cs):Sem (List (Str × Addr)))=pure cl /\
      (∀x c,cl.lookup x=some c->env.cells.lookup x=some c)/\(∀x,(x,NameKind.free)∈names\/(∃c,acc.lookup x=some c)->∃c,cl.lookup x=some c)
  | [],acc,_,h2=>⟨acc,by rw [Fa],h2,fun x hx=>by
      rcases hx with hx|hx
      · cases hx
      · exact hx⟩
  | (n,k)::r,acc,h1,h2=>by
    rw[Gv];by_cases hk:(k == NameKind.free)=true
    · have ek : k = .free := by simpa using hk
      subst ek;obtain ⟨c,hc⟩:=h1 n Ao;have h2' : ∀x d,((n,c)::acc).lookup x=some d->env.cells.lookup x=some d:=fun x d hx=>by
        rw[Bg] at hx;cases e:x == n with
        | true => rw [e] at hx; obtain rfl := sI hx; have : x = n := by simpa using e
                  rw[this];exact hc
        |false=>rw[e] at hx;exact h2 x d hx
      obtain⟨cl,e,a,b⟩:=zfa r ((n,c)::acc) (λx hx=>h1 x (Aj _ hx)) h2';refine⟨cl,?_,a,λx hx=>b x ?_⟩
      · rw [<- e]
        have hcell:cellOf env n=pure c:=by unfold cellOf;rw[hc]
        simp only [beq_self_eq_true,Dp,hcell]
        rfl
      · have gen:∀y d,acc.lookup y=some d->∃d',((n,c)::acc).lookup y=some d':=fun y d hy=>by
          rw[Bg];cases e:y == n with
          |true=>exact⟨_,rfl⟩
          |false=>exact⟨d,hy⟩
        rcases hx with hx|⟨d,hx⟩
        · rcases Ap.mp hx with hx | hx
          · injection hx with hx _
            subst hx;exact .inr ⟨c,by rw[Bg];simp⟩
          · exact .inl hx
        · exact .inr (gen x d hx)
    · have hk' : (k == NameKind.free) = false := by simpa using hk
      obtain⟨cl,e,a,b⟩:=zfa r acc (λx hx=>h1 x (Aj _ hx)) h2;refine⟨cl,?_,a,λx hx=>b x ?_⟩
      · rw [<- e]
        simp only [hk',Bt,Dq]
        rfl
      · rcases hx with hx | hx
        · rcases Ap.mp hx with hx | hx
          · injection hx with _ hx
            subst hx;simp at hk'
          · exact .inl hx
        · exact .inr hx
theorem zc8 {env:Env}{scope:Scope} (h:∀x,(x,NameKind.free)∈scope.names->∃c,env.cells.lookup x=some c) :
  ∃cl,closureFor scope env=pure cl/\(∀x c,cl.lookup x=some c->env.cells.lookup x=some c)/\(∀x,(x,NameKind.free)∈scope.names->∃c,cl.lookup x=some c):=by
 nofun;obtain⟨cl,e,a,b⟩:=zfa (env:=env) scope.names [] h (λx c hx=>by simp at hx);ac_rfl;refine⟨cl,?_,a,λx hx=>b x (.inl hx)⟩;rw[closureFor];have e':=e;simp only [bind_assoc,Eg] at e' ⊢;exact congrArg (λm=>m >>= λr=>pure r) e |>.trans (by rw[Eg])
noncomputable def zbd (X:Cx) (Nc:List Str) (scope:Scope) (cl:List (Str × Addr)) (C:Addr) (s3:Shared) (H3:Hp) (fp:List Addr):Cx where
 prog:=X.prog
 w:=X.w
 K:=X.K
 mg:=X.mg
 base:=X.base
 A:=X.A
 N:=Nc
 s₀:=s3
 H₀:=H3
 env:=compEnvC scope cl C X.env
 outer:=X.stack
 stack:=X.stack
 ex:=fp
 fn:=λx=>decide (scope.names.lookup x=some NameKind.cell)
 calm:=X.calm
 pn:=[]
 xe:=λ_ _=>False
noncomputable def z32:TT:=λσ H Q=>Q true H
noncomputable def PTs (X:Cx) (ifs:List Expr) (t:TT):Prop :=
  ∀(pins:List (Addr × Obj)) (s:Shared) (σ:St) (H:Hp) (Q:Bool->Hp->Prop),Inv X pins σ H s->t σ H Q ->
    wpAny #v[3,7] X.A (forIn ifs true λc r=>if r=true then do let ok <- isTrue c X.env (eval c X.env);pure (ForInStep.yield ok) else pure (ForInStep.yield r)) (TP X pins σ Q) X.xe s
theorem z6h {X:Cx}:PTs X [] z32:=λpins s σ H Q I h=>by
 rw[Fa];exact Af ⟨H,I,h⟩
theorem z49 {X:Cx}{c:Expr}{t:TT}(h:PT X c t):PTs X [c] t:=λpins s σ H Q I q=>by
 rw[Gv];simp only [Dp];refine Aa (Aa (thn (h pins s σ H Q I q) λb s1 q1=>?_));refine Af ?_;dsimp only;rw[Fa];exact Af q1
section
variable {X:Cx}
theorem za5 {env:Env}:∀{names:List (Str × NameKind)}{x:Str},names.lookup x=some .free ->
    #v[9,7].lookup x=some .cell \/
    #v[9,7].lookup x=some .free
  |[],_,h=>by simp at h
  | (n,k)::r,x,h=>by
    have ih:=@za5 env r x;rw[Ah];rw[Bg] at h;cases hx:x == n with
    | true =>
      rw[hx] at h;obtain rfl:=sI h;dsimp only;split
      · rw[Bg,hx];exact .inl rfl
      · rw[Bg,hx];exact .inr rfl
    | false =>
      rw[hx] at h;dsimp only;split
      · rw[Bg,hx];exact ih h
      · rw[Bg,hx];exact ih h
theorem zbm {env:Env}:∀{names:List (Str × NameKind)}{x:Str}{k:NameKind},(k=.cell\/k=.free) ->
    #v[9,7].lookup x=some k->names.lookup x=some .free\/names.lookup x=some .cell
  |[],_,_,_,h=>by simp at h
  | (n,k0)::r,x,k,hk,h=>by
    rw[Ah] at h;rw[Bg];cases hx:x == n with
    | true =>
      dsimp only at h;split at h
      · rename_i hc
        rw[Bg,hx] at h;simp only [Ad,Fw] at hc;rw[hc.1.1];exact .inl rfl
      · rw [Bg, hx] at h
        obtain rfl:=sI h;rcases hk with rfl|rfl
        · exact .inr rfl
        · exact .inl rfl
    | false =>
      dsimp only at h;split at h
      · rw[Bg,hx] at h;exact zbm hk h
      · rw[Bg,hx] at h;exact zbm hk h
theorem zdf {scope out:Scope}(h:zg0 scope out=true){x:Str}(hx:(x,NameKind.free)∈scope.names):out.names.lookup x=some .cell\/out.names.lookup x=some .free:=by
 have q:=Bd.mp h _ hx;simpa using q
theorem capSt_get {cap:List (Option Nat)}{σ:St}{j:Nat}{v:V} (h:(capSt cap σ)[j]?=some (some v)):∃i,cap[j]?=some (some i)/\σ[i]?=some (some v):=by
  unfold capSt at h;rw[Ai] at h;cases e:cap[j]? with
  |none=>rw[e] at h;cases h
  | some o =>
    rw[e] at h;cases o with
    |none=>cases h
    | some i =>
      refine⟨i,rfl,?_⟩;have h' : (σ[i]?).getD none=some v:=sI h;cases e2:σ[i]? with
      |none=>rw[e2] at h';cases h'
      |some z=>rw[e2] at h';exact congrArg some h'
theorem zba {env:Env}:∀{names:List (Str × NameKind)}{x:Str}{k:NameKind},k≠.free->names.lookup x=some k ->
    #v[9,7].lookup x=some k
  |[],_,_,_,h=>by simp at h
  | (n,k0)::r,x,k,hk,h=>by
    have ih:=@zba env r x k hk;rw[Ah];rw[Bg] at h;cases hx:x == n with
    | true =>
      rw[hx] at h;obtain rfl:=sI h;have:(k0 == NameKind.free)=false:=by cases k0<;>first|rfl|exact absurd rfl hk
      dsimp only;rw[this,Ea,Ea,if_neg Av,Bg,hx]
    | false =>
      rw[hx] at h;dsimp only;split
      · rw[Bg,hx];exact ih h
      · rw[Bg,hx];exact ih h
noncomputable def zfh (scope:Scope):Bool:=scope.names.all λp=>!(p.2 == NameKind.cell) || decide (scope.names.lookup p.1=some .cell)
theorem zsa {scope:Scope}(h:zfh scope=true){x:Str}(hx:(x,NameKind.cell)∈scope.names):scope.names.lookup x=some .cell:=by
 have q:=Bd.mp h _ hx;simpa using q
theorem zb8:∀(names:List (Str × NameKind)) (n:Nat) (acc:List (Str × Addr)),cellsFrom n names acc=cellsFrom n names []++acc
  |[],_,_=>rfl
  | (x,k)::r,n,acc=>by
    unfold cellsFrom;split
    · rw[zb8 r (n+1) ((x,n)::acc),zb8 r (n+1) [(x,n)],Bb];rfl
    · exact zb8 r n acc
theorem zf4:∀(names:List (Str × NameKind)) (n:Nat) {x:Str}{c:Addr},(x,c)∈cellsFrom n names []->(x,NameKind.cell)∈names
  |[],_,_,_,h=>by cases h
  | (y,k)::r,n,x,c,h=>by
    unfold cellsFrom at h;split at h
    · rename_i hk
      rw[zb8] at h;rcases Bj.mp h with h|h
      · exact Aj _ (zf4 r _ h)
      · have e := Aw.mp h
        cases e;have:k=NameKind.cell:=by simpa using hk
        rw[this];exact Ao
    · exact Aj _ (zf4 r _ h)
theorem cells_of {names:List (Str × NameKind)}{n:Nat}{cl:List (Str × Addr)}{x:Str}{c:Addr}(h:(cellsFrom n names cl).lookup x=some c):(cellsFrom n names []).lookup x=some c\/((cellsFrom n names []).lookup x=none/\cl.lookup x=some c):=by
 rw[zb8,List.lookup_append] at h;cases e:(cellsFrom n names []).lookup x with
 |some d=>rw[e] at h;exact .inl h
 |none=>rw[e] at h;exact .inr ⟨rfl,h⟩
theorem zh6 {scope:Scope} (h:zfh scope=true) {n:Nat}{cl:List (Str × Addr)}{x:Str}{c:Addr} (hx:scope.names.lookup x=some .free) (hc:cl.lookup x=some c):(cellsFrom n scope.names cl).lookup x=some c:=by
  rw[zb8,List.lookup_append];cases e:(cellsFrom n scope.names []).lookup x with
  |none=>exact hc
  | some d =>
    have:=zsa h (zf4 _ _ (Bl e));rw[hx] at this;cases this
theorem z2l {pins:List (Addr × Obj)}{σ:St}{H3:Hp}{s3:Shared}{Nc:List Str}{scope:Scope}{cl:List (Str × Addr)}{cap:List (Option Nat)}{fp:List Addr}{h4:Heap}{tk:Nat}
  (I:Inv X pins σ H3 s3) (hk:scope.kind=.function) (hcap:zhe cap Nc X.N scope=true) (hfr:zg0 scope X.env.scope=true) (hnc:zfh scope=true)
  (c1:∀x c,cl.lookup x=some c->X.env.cells.lookup x=some c) (c2:∀x,(x,NameKind.free)∈scope.names->∃c,cl.lookup x=some c)
  (hf:∀b∈fp,FpOk X pins H3 b) (ho:∀b∈fp,b<s3.heap.objs.size)
  (hns:h4.Ns s3.heap.objs.size (λ_=>none)) (hkeep:∀b o,s3.heap.get? b=some o->h4.get? b=some o) (hcs:CellsOk h4 (s3.heap.objs.size+1) (cellsFrom (s3.heap.objs.size+1) scope.names [])) :
  Inv (zbd X Nc scope (cellsFrom (s3.heap.objs.size+1) scope.names cl) s3.heap.objs.size s3 H3 fp) [] (capSt cap σ) H3 { s3 with heap:=h4,toks:=tk }:=by
 have stkne:∀b∈fp,b ∉ frs X.stack:=λb hb z=>by
  obtain⟨_,g1,g2,_⟩:=hf b hb;rcases Ap.mp (I.stkSub b z) with e|e
  ·exact g1 e
  ·exact g2 e
 have own:∀x c,(cellsFrom (s3.heap.objs.size+1) scope.names []).lookup x=some c->h4.IsCell c none/\s3.heap.objs.size+1<=c:=λx c h=>hcs.empty x c (Bl h);have old:∀x c,cl.lookup x=some c->c<s3.heap.objs.size:=λx c h=>by
  obtain⟨v,q⟩:=I.cell x c (c1 x c h);exact q.lt
 refine⟨⟨I.mod,hk,I.ok.glob,I.ok.blt,Ag _,λx y c h1 h2=>?_,λx hx=>?_,λx c h h'=>?_,I.ok.hd,I.ok.frames,.inl rfl,λb hb=>⟨Be (ho b hb),λx c h=>?_⟩,
  λb o e=>I.bs b o e,Ci I.ok.bsz I.sz,λb o e hb=>?_,stkne,I.stack,I.stkFree⟩,rfl,I.bare,Un.kept hkeep,⟨_,hns,λj x v h1 h2 h3=>?_⟩,λx c h=>?_,I.hok.fresh (Ag _),λx c h=>?_,λp hp=>absurd (show p∈([]:List (Addr × Obj)) from hp) (by simp),I.hok.kept hkeep,?_⟩
 ·rcases cells_of h1 with z1|⟨_,z1⟩
  ·rcases cells_of h2 with z2|⟨_,z2⟩
   ·exact name_of_addr hcs.apart (Bl z1) (Bl z2)
   ·have a:=(own x c z1).2;have b:=old y c z2;exact absurd (Az b (Ge a)) (Cg _)
  ·rcases cells_of h2 with z2|⟨_,z2⟩
   ·have a:=(own y c z2).2;have b:=old x c z1;exact absurd (Az b (Ge a)) (Cg _)
   ·exact I.ok.inj x y c (c1 x c z1) (c1 y c z2)
 ·have hx' : scope.names.lookup x=some .free\/scope.names.lookup x=some .cell:=by
   rcases hx with hx|hx
   ·exact zbm (env:=X.env) (.inl rfl) hx
   ·exact zbm (env:=X.env) (.inr rfl) hx
  rcases hx' with hx'|hx'
  ·obtain⟨c,e⟩:=c2 x (Bl hx');exact⟨c,zh6 hnc hx' e⟩
  ·exact Fp.mp (Gd scope.names _ cl (.inl hx'))
 ·have hx : scope.names.lookup x = some .cell:=Au h;rcases cells_of h' with z|⟨z,_⟩
  ·exact Ge (own x c z).2
  ·obtain⟨d,e⟩:=cell_has (n:=s3.heap.objs.size + 1) hx;rw[z] at e;cases e
 ·rcases cells_of h with z|⟨_,z⟩
  ·have a:=(own x c z).2;have:=ho b hb;exact Ne.symm (Be (Az this (Ge a)))
  ·exact (hf b hb).2.2.2.2.1 x c (c1 x c z)
 ·rcases (hf b hb).2.2.2.1 with z|z
  ·exact I.ok.noex b o e z
  ·have h1 : b<X.base.objs.size:=Ar e;exact absurd (Az h1 (Ci I.ok.bsz z)) (Cg _)
 ·obtain ⟨i, e1, e2⟩ := capSt_get h2;have hNx:Nc[j]?=some x:=h1;obtain ⟨n1,n2⟩:=zx5 hcap e1 hNx;have vis:Vis X.env.scope x:=by
   rcases zdf hfr (Bl n2) with z|z
   ·exact .inr (.inl z)
   ·exact .inr (.inr z)
  obtain⟨m,hn,hl⟩:=I.loc;obtain⟨u,r,l⟩:=hl i x v n1 e2 vis;refine⟨u,r,?_⟩;rcases l with⟨hk',_⟩|⟨_,c,e,z⟩
  ·have hk2 : X.env.scope.names.lookup x = some .local:=hk';rcases zdf hfr (Bl n2) with z|z
   ·rw[z] at hk2;cases hk2
   ·rw[z] at hk2;cases hk2
  ·obtain⟨c', e'⟩:=c2 x (Bl n2);have:=c1 x c' e';rw[e] at this;obtain rfl:=sI this;refine .inr ⟨za5 (env:=X.env) n2,c,zh6 hnc n2 e',?_⟩;obtain⟨o,ho',hd⟩:=z;exact⟨o,hkeep _ _ ho',hd⟩
 ·rcases cells_of h with z|⟨_,z⟩
  ·exact⟨none,(own x c z).1⟩
  ·obtain⟨v,o,ho', hd⟩:=I.cell x c (c1 x c z);exact⟨v,o,hkeep _ _ ho',hd⟩
 ·rcases cells_of h with z|⟨_,z⟩
  ·exact I.hok.fresh (Ge (own x c z).2)
  ·exact I.freeC x c (c1 x c z)
 ·show (capSt cap σ).length = Nc.length;rw[<-zye hcap];unfold capSt;rw[Ab]
theorem zkc {M:Model}{A:Around}{E:Value->Shared->Prop}{s:Shared}{scope:Scope}{globals:Addr}{cl:List (Str × Addr)}{qual:Str}{outer:Env}{Q:Env->Shared->Prop}
  (hQ:∀h',h'.Ns s.heap.objs.size (λ_=>none)->(∀b o,s.heap.get? b=some o->h'.get? b=some o)->CellsOk h' #v[8,9] (cellsFrom #v[8,9] scope.names []) ->
   Q (newEnv scope s.heap.objs.size globals (cellsFrom #v[8,9] scope.names cl) qual none .none (some outer) builtinsNs) { s with heap:=h' }) :
  wpAny M A (newFunctionEnv scope globals cl [] qual none .none (some outer)) Q E s:=by
 simp only [newFunctionEnv,Option.isSome_some,Dp];refine Aa (wpAny_alloc ?_);refine Aa (wpAny_layCells _ (λname kind cells=>by cases hkc:kind == NameKind.cell<;>simp [hkc]) _ _ _ _ ?_);have ok:=cellsFrom_ok scope.names (s.heap.push { cls:=.type "dict",data:=.dict #[] }) #v[8,9] [] ⟨λ_ _ hm=>(nomatch hm),List.Pairwise.nil⟩ (by rw[Dt];exact Ag _);rw[Dt] at ok;rw[show ({ s with heap:=s.heap.push { cls:=.type "dict",data:=.dict #[] } }:Shared).heap.objs.size=s.heap.objs.size+1 from Dt ..];refine Aa ?_;rw[Fa];exact Af (Af (hQ _ ((Heap.Ns.new s.heap (.type "dict")).keeps (pushCells_keeps _ _)) (λb o e=>pushCells_keeps _ _ b o (Ac _ e)) ok))
end
noncomputable abbrev TM:=St->Hp->(St->Hp->Prop)->Prop
noncomputable def PM (X:Cx) (em:Sem Unit) (t:TM):Prop :=
  ∀(pins:List (Addr × Obj)) (s:Shared) (σ:St) (H:Hp) (N:St->Hp->Prop),Inv X pins σ H s->t σ H N ->
    wpAny #v[3,7] X.A em (λ_ s'=>∃σ' H',Inv X pins σ' H' s'/\N σ' H') X.xe s
noncomputable def zmz (e:Expr) (d:Nat) (tg iter:Expr) (ifs:List Expr) (em:Sem Unit) (it acc:Value) (env:Env):Sem Fin:=do
  standAt iter.pos
  match <- pyNext it with
  |none=>pure (.done .next)
  | some v =>
    letOwnedTupleGo tg it v
    assign tg env v
    let mut ok:=true
    for c in ifs do
      if ok then ok <- isTrue c env (eval c env)
    if ok then em
    again (.compLoop e d it acc env)
noncomputable def zkj (J:It) (g:TG) (tc:TT) (tm:TM) (σ:St) (H:Hp) (Q:St->Hp->Prop):Prop:=∃W:Nat->Nat->St->Hp->Prop,(∃m,W 0 m σ H) /\
 ∀i m σc Hc,W i m σc Hc->(J.stop i Hc/\Q σc Hc)\/(J.go i Hc/\∃N:St->Hp->Prop,(∀σ' H',N σ' H'->∃m',m' < m/\W (i+1) m' σ' H')/\∀x H',J.yld i Hc x H'->g x σc H' λσ2 H2 =>
  tc σ2 H2 λb H3=>if b=true then tm σ2 H3 N else N σ2 H3)
noncomputable def zv9 (wi:TI) (cap:List (Option Nat)) (g:TG) (tc:TT) (tm:Addr->TM):TE:=λσ H Q=>wi σ H λJ H1=>∀acc,H1 acc=none->zkj J g tc (tm acc) (capSt cap σ) (upd H1 acc (.lst [])) λ_ Hc=>Q (.ref acc) Hc
section
variable {X:Cx}
theorem zmp {elt:Expr}{gens:List Comprehension}{scope:Scope}{pos:Pos}{d:Nat}{tg iter:Expr}{ifs:List Expr}{em:Sem Unit}{acc:Value}{g:TG}{tc:TT}{tm:TM}{pins:List (Addr × Obj)}{σ:St}{H:Hp}{s:Shared}{it:Addr}{fp:List Addr}{tn:Nat->Heap->Prop}{J:It}{N0:St->Hp->Prop}{R:Result->Shared->Prop}
  (hx:∀v s,¬ X.xe v s) (hc:X.calm=true) (ht:compTurn #v[1,9] d (.ref it) acc X.env=zmz #v[1,9] d tg iter ifs em (.ref it) acc X.env)
  (hg:PG X tg g) (hs:PTs X ifs tc) (hm:PM X em tm) (I:Inv X pins σ H s) (T:Turn X.prog X.w X.K tg J fp it tn) (st:tn 0 s.heap) (f:∀b∈fp,FpOk X pins H b)
  (hW:zkj J g tc tm σ H N0)
  (hR:∀σ' H' s',Inv X pins σ' H' s'->N0 σ' H'->R (.ok .next) s'):codeAny #v[3,7] X.A (.compLoop #v[1,9] d (.ref it) acc X.env) R s:=by
 have stat:∀{H' : Hp},(∀b∈fp,H' b=none)->∀b∈fp,FpOk X pins H' b:=λhn b hb=>⟨hn b hb,(f b hb).2⟩;nofun;obtain⟨W,⟨m0,w0⟩,turn⟩:=hW;ac_rfl;refine codeAny_loop rfl (λn s'=>∃i σ' H',Inv X pins σ' H' s'/\tn i s'.heap/\(∀b∈fp,H' b=none)/\W i n σ' H') ?_ m0 ⟨0,σ,H,I,st,λb hb=>(f b hb).1,w0⟩;rintro n s3 ⟨i,σ3,H3,I3,st3,fr3,w3⟩;show wpAny _ X.A ((compTurn #v[1,9] d (.ref it) acc X.env).onRaise (λx=>do noteFrame x X.env;theTreesLotGoes x)) _ _ s3;refine wpAny_noted ?_;rw[ht];unfold zmz;refine Aa (Fe (Aa ?_));rcases turn i n σ3 H3 w3 with⟨stop,qn⟩|⟨go,N,hN,step⟩
 ·refine Cj (T.done X rfl rfl rfl hc i pins s3 σ3 H3 (λ_ _=>False) I3 (stat fr3) st3 stop) (λr s4 ⟨hr,I4⟩ => ?_) λ_ _ z=>z.elim;subst hr;exact Af (hR σ3 H3 s4 I4 qn)
 ·refine Cj (T.item X rfl rfl rfl hc i pins s3 σ3 H3 (fun _ _ => False) I3 (stat fr3) st3 go) (fun r s4 ⟨u, hr, h4⟩ => ?_) fun _ _ z => z.elim;subst hr;refine Aa (Cj h4 (fun _ s5 ⟨x,H5,I5,r5,y5,st5,fr5⟩=>?_) fun _ _ z=>z.elim);have I5':=I5.pinned (stat fr5) (T.obj _ _ st5);refine Aa (Cj (hg _ s5 σ3 H5 x u _ I5' r5 (step x H5 y5)) (fun _ s6 ⟨σ6,H6,I6,q6⟩=>?_) fun v s z=>(hx v s z).elim);refine Aa (Cj (hs _ s6 σ6 H6 _ I6 q6) (fun ok s7 ⟨H7,I7,q7⟩=>?_) fun v s z=>(hx v s z).elim);have again:∀{sx:Shared}{σx:St}{Hx:Hp},Inv X (pins++zmq fp s5.heap) σx Hx sx->N σx Hx->∃m,m < n/\∃i σ' H',Inv X pins σ' H' sx/\tn i sx.heap/\(∀b∈fp,H' b=none)/\W i m σ' H':=fun {sx σx Hx} Ix nx=>by
   obtain⟨m',hm,wx⟩:=hN σx Hx nx;refine⟨m',hm,i+1,σx,Hx,Ix.unpinned,T.keep _ _ _ st5 λb hb o e=>(Ix.pin (b,o) (Ax _ (Ax _ (zdo hb e)))).1,λb hb=>?_,wx⟩;obtain⟨o,e,d⟩:=T.obj _ _ st5 b hb;exact (Ix.pin (b,o) (Ax _ (Ax _ (zdo hb e)))).2.1
  cases ok with
  |false=>exact Af ⟨rfl,again I7 q7⟩
  |true=>exact Aa (Cj (hm _ s7 σ6 H7 N I7 q7) (λ_ s8 ⟨σ8,H8,I8,n8⟩=>Af ⟨rfl,again I8 n8⟩) λv s z=>(hx v s z).elim)
noncomputable def ztm (acc:Addr) (te:TE):TM:=λσ H N=>te σ H λy H4=>∃ys,H4 acc=some (.lst ys)/\ys.length<sizeLine/\N σ (upd H4 acc (.lst (ys++[y])))
noncomputable def zzg (elt:Expr) (acc:Value) (env:Env):Sem Unit:=do let _ <- call (.builtin "list.append") [acc,<-eval elt env]
theorem z31 {elt:Expr}{te:TE}{acc:Addr}(he:PE X elt te):PM X (zzg elt (.ref acc) X.env) (ztm acc te):=by
 intro pins s σ H N I h;unfold zzg;refine Aa (thn (he pins s σ H _ I h) λyv s10 ⟨y,H10,I10,r10,ys,ha,hz,q10⟩=>?_);refine Aa (thn (zkz _ s10 σ H10 (.ref acc) [y] _ [yv] (λ_ H'=>N σ H') I10 rfl (.cons r10 .nil) ⟨_,ys,y,rfl,rfl,ha,hz,q10⟩) λ_ s11 ⟨_,H11,I11,_,q11⟩=>?_);exact Af ⟨σ,H11,I11,q11⟩
noncomputable def tTwo (wi:TI) (g:TG) (tc:TT) (tm:TM):TM:=λσ H N=>wi σ H λJ H1=>zkj J g tc tm σ H1 N
noncomputable def ztw (e iter:Expr) (acc:Value) (env:Env):Sem Unit:=do
 let x <- eval iter env
 standAt iter.pos
 let x <- foldedSetIterable iter env x
 let _ <- runOwn (.compStart e 1 (<- holding [x] (pyIter x)) acc env) env
theorem z0u {elt tg iter tg2 iter2:Expr}{ifs ifs2:List Expr}{scope:Scope}{pos:Pos}{it acc:Value}{env:Env} :
  compTurn #v[4,7] 0 it acc env=zmz #v[4,7] 0 tg iter ifs (ztw #v[4,7] iter2 acc env) it acc env:=by
 unfold zmz ztw;simp only [bind_assoc,Eg]
 rfl
theorem zuy {A:Around}{R:Result->Shared->Prop}{s:Shared}{elt tg iter tg2 iter2:Expr}{ifs ifs2:List Expr}{scope:Scope}{pos:Pos}{it acc:Value}{env:Env}{prog:Program}{w:World}
  (h0:codeAny (model prog w) A (.compLoop #v[4,7] 1 it acc env) R s)
  (h:wpAny (model prog w) A (pyIter it) (λit' s'=>codeAny (model prog w) A (.compLoop #v[4,7] 1 it' acc env) R s')
   (notedBy (model prog w) A env λx s'=>R (.error x) s') s) :
  codeAny (model prog w) A (.compStart #v[4,7] 1 it acc env) R s:=by
 refine codeAny_of_tree ?_;show wpAny _ _ ((compStart #v[4,7] 1 it acc env).onRaise (λx=>do noteFrame x env;standAt theWindowsPlace)) _ _ s;refine wpAny_notedAt ?_;unfold compStart;show wpAny _ _ (ask >>= _) _ _ s;refine Aa (wpAny_askSetting (wpAny_ite ?_));split
 ·first
   |exact Aa (Af (Af (And.intro rfl h0)))
   |exact Af (And.intro rfl h0)
 ·first
   |exact Aa (Cv (Aa (Fe (Aa (Cj h (λit' s' h'=>Af (And.intro rfl h')) λ_ _ x=>x)))))
   |(refine Aa (Cv ?_);show wpAny _ _ (standAt iter2.pos >>= _) _ _ s;exact Aa (Fe (Aa (Cj h (λit' s' h'=>Af (And.intro rfl h')) λ_ _ x=>x))))
theorem z9l {elt tg iter tg2 iter2:Expr}{ifs ifs2:List Expr}{scope:Scope}{pos:Pos}{wi:TI}{g:TG}{tc:TT}{te:TE}{acc:Addr} (hx:∀v s,¬ X.xe v s) (hc:X.calm=true) (hi:PI X tg2 iter2 wi) (hg:PG X tg2 g) (ht:PTs X ifs2 tc) (he:PE X elt te) (hs:∀x,foldedSetIterable iter2 X.env x=pure x) :
  PM X (ztw #v[4,7] iter2 (.ref acc) X.env) (tTwo wi g tc (ztm acc te)):=by
 intro pins s σ H N I h;unfold ztw;refine Aa (thn (hi pins s σ H _ I h) λv s1 h1=>Aa (Fe (Aa (Hm (hs v) (Aa (Cr (thn h1 λitv s2 h2=>?_)))))));nofun;obtain⟨it,fp,tn,J,H2,e,I2,T,st2,f2,hW⟩:=h2;ac_rfl;subst e;refine Aa (wpAny_runOwn ?_);have loop:codeAny #v[3,7] X.A (.compLoop #v[4,7] 1 (.ref it) (.ref acc) X.env) (λr s'=>match r with|.ok f=>(λ_ s'=>wpAny #v[3,7] X.A (pure ()) (λ_ s'=>∃σ' H',Inv X pins σ' H' s'/\N σ' H') X.xe s') f s'|.error e=>cameBackBy #v[3,7] X.A X.env X.xe e s') s2 :=
  zmp (em:=zzg elt (.ref acc) X.env) hx hc rfl hg ht (z31 he) I2 T st2 f2 hW λσ' H' s' I' n'=>Af ⟨σ',H',I',n'⟩
 exact zuy loop (T.self _ 0 _ _ _ st2 loop)
end
theorem HOk.but {P:Program}{w:World}{H:Hp}{h h' : Heap}{a:Addr}(x:HOk P w H h)(hn:H a=none)(hs:Heap.SameBut a h h'):HOk P w H h':=λb ob e=>by
 refine (x b ob e).stay (λc w' hc q=>(hs.2 c ?_).trans q) (λ_ q=>q) λ_ _ q=>q;rintro rfl;rcases hc with rfl|hc
 ·rw[hn] at e;cases e
 ·rw[hn] at hc;cases hc
section
variable {X:Cx}
theorem zhw {elt tg iter:Expr}{ifs:List Expr}{gs:List Comprehension}{scope:Scope}{pos:Pos}{cl:List (Str × Addr)}{Nc:List Str}{cap:List (Option Nat)}{g:TG}{tc:TT}{em:Value->Env->Sem Unit}{tm:Addr->TM}{pins:List (Addr × Obj)}{σ:St}{H2:Hp}{s2:Shared}{it:Addr}{fp:List Addr}{tn:Nat->Heap->Prop}{J:It}{Q:VK}{RR:Value->Addr->Result->Shared->Prop}{E:Value->Shared->Prop}
  (hc:X.calm=true) (hk:scope.kind=.function) (hcap:zhe cap Nc X.N scope=true) (hfr:zg0 scope X.env.scope=true) (hnc:zfh scope=true)
  (hturn:∀it acc env,compTurn #v[7,7] 0 it acc env=zmz #v[7,7] 0 tg iter ifs (em acc env) it acc env)
  (hg:∀cl C s3 H3 fp,PG (zbd X Nc scope cl C s3 H3 fp) tg g) (ht:∀cl C s3 H3 fp,PTs (zbd X Nc scope cl C s3 H3 fp) ifs tc) (hm:∀cl C s3 H3 fp acc,PM (zbd X Nc scope cl C s3 H3 fp) (em (.ref acc) (zbd X Nc scope cl C s3 H3 fp).env) (tm acc))
  (c1:∀x c,cl.lookup x=some c->X.env.cells.lookup x=some c) (c2:∀x,(x,NameKind.free)∈scope.names->∃c,cl.lookup x=some c)
  (I2:Inv X pins σ H2 s2) (T:Turn X.prog X.w X.K tg J fp it tn) (st2:tn 0 s2.heap) (f2:∀b∈fp,FpOk X pins H2 b)
  (hW:∀acc,H2 acc=none->zkj J g tc (tm acc) (capSt cap σ) (upd H2 acc (.lst [])) λ_ Hc=>Q (.ref acc) Hc)
  (hR:∀acc C s' H',(∃m,s'.heap.Ns C m)->(∀h',Heap.SameBut C s'.heap h'->Inv X pins σ H' { s' with heap:=h' })->FpOk X pins H' C->Q (.ref acc) H'->RR (.ref acc) C (.ok .next) s') :
  wpAny #v[3,7] X.A (newList []) (λacc s₃=>wpAny #v[3,7] X.A (newFunctionEnv scope X.env.globals cl [] X.env.qual none .none (some X.env)) (λcenv s₄ =>
   codeAny #v[3,7] X.A (.compStart #v[7,7] 0 (.ref it) acc { cenv with scope:=relabel scope X.env }) (RR acc cenv.locals) s₄) E s₃) E s2:=by
 refine Bu (zkc λh₁ hns₁ keep4 hcs=>?_);dsimp only at hns₁ keep4 hcs ⊢;have hacc:H2 s2.heap.objs.size=none:=I2.hok.fresh (Ag _);have I3:Inv X pins σ (upd H2 s2.heap.objs.size (.lst [])) { s2 with heap:=s2.heap.push { cls:=.type "list",dict:=none,data:=.seq ([]:List Value).toArray },toks:=s2.toks } :=
  I2.laid (t':=s2.toks) (λb u e=>Ac _ e) (Ag _) ⟨by simp,[],0,.nil,As _ rfl⟩
 have hW':=hW s2.heap.objs.size hacc;generalize hH:s2.heap.push { cls:=.type "list",dict:=none,data:=.seq ([]:List Value).toArray }=hp at hns₁ keep4 hcs I3 ⊢;have f3:∀b∈fp,FpOk X pins (upd H2 s2.heap.objs.size (.lst [])) b:=λb hb=>by
  obtain⟨o,ho,_⟩:=T.obj _ _ st2 b hb;exact⟨by rw[upd_ne (Be (Ar ho))];exact (f2 b hb).1,(f2 b hb).2⟩
 have up:∀b o,s2.heap.get? b=some o->hp.get? b=some o:=λb o e=>hH ▸ Ac _ e;have I4:=z2l (Nc:=Nc) (cap:=cap) (fp:=fp) (h4:=h₁) (tk:=s2.toks) I3 hk hcap hfr hnc c1 c2 f3 (λb hb=>by
  obtain⟨o,ho,_⟩:=T.obj _ _ st2 b hb;exact Ar (up b o ho)) hns₁ keep4 hcs
 have st4:tn 0 h₁:=T.keep _ _ _ st2 λb _ o e=>keep4 b o (up b o e);have loop:codeAny #v[3,7] X.A (.compLoop #v[7,7] 0 (.ref it) (.ref s2.heap.objs.size) (compEnvC scope (cellsFrom (hp.objs.size+1) scope.names cl) hp.objs.size X.env)) (RR (.ref s2.heap.objs.size) hp.objs.size) { s2 with heap:=h₁,toks:=s2.toks }:=by
  refine zmp (X:=zbd X Nc scope (cellsFrom (hp.objs.size+1) scope.names cl) hp.objs.size { s2 with heap:=hp,toks:=s2.toks } (upd H2 s2.heap.objs.size (.lst [])) fp) (λ_ _ z=>z) hc (hturn _ _ _) (hg _ _ _ _ _) (ht _ _ _ _ _) (hm _ _ _ _ _ _) I4 T st4
   (λb hb=>⟨(f3 b hb).1,(I4.ok.exf b hb).1,I4.ok.exfs b hb,.inl hb,(I4.ok.exf b hb).2,λp hp'=>absurd (show p∈([]:List (Addr × Obj)) from hp') (by simp)⟩) hW' λσ5 H5 s6 I6 qn=>?_
  obtain⟨m6,hm6,_⟩:=I6.loc;have fC:H5 hp.objs.size=none:=I6.free;refine hR _ _ _ H5 ⟨m6,hm6⟩ (λh' hsb=>?_) (I3.fpOk (Ag _) fC) qn;refine I3.call' (s':={ s6 with heap:=h' }) (ch:=fp) I6.os ?_ (I6.hok.but fC hsb) I6.bare λb hb=>⟨(f3 b hb).2.2.2.1,(f3 b hb).2.1,(f3 b hb).2.2.2.2.1,(f3 b hb).2.2.2.2.2⟩;have U:Un (frs X.stack) fp (upd H2 s2.heap.objs.size (.lst [])) H5 hp s6.heap:=I6.base;have nb:∀b o,hp.get? b=some o->b≠hp.objs.size:=λb o e=>Be (Ar e);exact⟨λb o e n hb hx=>(hsb.2 b (nb b o e)).trans (U.keep b o e n hb hx),λb o e n hb hx=>let ⟨sl,z⟩:=U.slot b o e n hb hx;⟨sl,(hsb.2 b (nb b o e)).trans z⟩,U.free,λb o e hx=>let ⟨o',z⟩:=U.there b o e hx;⟨o',(hsb.2 b (nb b o e)).trans z⟩,U.tups,U.frzs,U.tbls⟩
 exact codeAny_compStart_list loop (T.self _ 0 _ _ _ st4 loop)
theorem z6k {elt tg iter:Expr}{ifs:List Expr}{gs:List Comprehension}{scope:Scope}{pos:Pos}{Nc:List Str}{cap:List (Option Nat)}{wi:TI}{g:TG}{tc:TT}{em:Value->Env->Sem Unit}{tm:Addr->TM} (hi:PI X tg iter wi)
  (hg:∀cl C s3 H3 fp,PG (zbd X Nc scope cl C s3 H3 fp) tg g) (ht:∀cl C s3 H3 fp,PTs (zbd X Nc scope cl C s3 H3 fp) ifs tc) (hm:∀cl C s3 H3 fp acc,PM (zbd X Nc scope cl C s3 H3 fp) (em (.ref acc) (zbd X Nc scope cl C s3 H3 fp).env) (tm acc))
  (hturn:∀it acc env,compTurn #v[7,7] 0 it acc env=zmz #v[7,7] 0 tg iter ifs (em acc env) it acc env)
  (hc:X.calm=true:=by rfl) (hk:scope.kind=.function:=by rfl) (hcap:zhe cap Nc X.N scope=true:=by rfl) (hfr:zg0 scope X.env.scope=true:=by rfl) (hnc:zfh scope=true:=by rfl)
  (hnm:#v[3,8]=true:=by rfl)
  (hs:∀x,foldedSetIterable iter X.env x=pure x:=by intro _;rfl):PE X #v[7,7] (zv9 wi cap g tc tm):=by
 intro pins s σ H Q I h;rw[eval_ListComp];nofun;obtain⟨cl,hclos,c1,c2⟩:=zc8 (env:=X.env) (scope:=scope) λx hx=>I.ok.has x (zdf hfr hx);ac_rfl;have hnames:∀x∈scope.names,x.2=.local->scope.names.lookup x.1=some .local:=λx hx e=>by
  have q:=Bd.mp hnm _ hx;simpa [e] using q
 refine wpAny_comprehension_free (use:=none) rfl hs hclos hk hnames (thn (hi pins s σ H _ I h) λv s1 h1=>thn h1 λitv s2 h2=>?_);nofun;obtain⟨it,fp,tn,J,H2,e,I2,T,st2,f2,hW⟩:=h2;ac_rfl;subst e;refine zhw (RR:=λacc C=>compPost #v[3,7] X.A X.xe none (EP X pins σ Q) acc C) hc hk hcap hfr hnc hturn hg ht hm c1 c2 I2 T st2 f2 hW ?_;intro acc C s' H' ⟨m,hm⟩ hI hC q;exact⟨m,hm,λh' hsb=>⟨.ref acc,H',hI h' hsb,rfl,q⟩⟩
theorem z7o {y:Str}{py:Pos}{spos:Pos}{i:Nat}{elt tg iter:Expr}{ifs:List Expr}{gs:List Comprehension}{scope:Scope}{pos:Pos}{Nc:List Str}{cap:List (Option Nat)}{wi:TI}{g:TG}{tc:TT}{em:Value->Env->Sem Unit}{tm:Addr->TM} (hN:X.N.Nodup) (hiy:X.N[i]?=some y) (hy:Loc X.env.scope y) (hi:PI X tg iter wi)
  (hg:∀cl C s3 H3 fp,PG (zbd X Nc scope cl C s3 H3 fp) tg g) (ht:∀cl C s3 H3 fp,PTs (zbd X Nc scope cl C s3 H3 fp) ifs tc) (hm:∀cl C s3 H3 fp acc,PM (zbd X Nc scope cl C s3 H3 fp) (em (.ref acc) (zbd X Nc scope cl C s3 H3 fp).env) (tm acc))
  (hturn:∀it acc env,compTurn #v[7,7] 0 it acc env=zmz #v[7,7] 0 tg iter ifs (em acc env) it acc env)
  (hsw:swapsWith #v[7,7] (some (.Name y py)) spos.line X.env=pure true:=by rfl)
  (hc:X.calm=true:=by rfl) (hk:scope.kind=.function:=by rfl) (hcap:zhe cap Nc X.N scope=true:=by rfl) (hfr:zg0 scope X.env.scope=true:=by rfl) (hnc:zfh scope=true:=by rfl)
  (hnm:#v[3,8]=true:=by rfl)
  (hs:∀x,foldedSetIterable iter X.env x=pure x:=by intro _;rfl) (hf:X.fn y=true\/X.env.scope.names.lookup y=some .local:=by first|exact .inl rfl|exact .inr rfl|assumption) :
  PS X (.Assign [.Name y py] #v[7,7] spos) (tAsg (zv9 wi cap g tc tm) (ztg i)):=by
 intro pins s σ H D I h;nofun;obtain⟨cl,hclos,c1,c2⟩:=zc8 (env:=X.env) (scope:=scope) λx hx=>I.ok.has x (zdf hfr hx);ac_rfl;have hnames:∀x∈scope.names,x.2=.local->scope.names.lookup x.1=some .local:=λx hx e=>by
  have q:=Bd.mp hnm _ hx;simpa [e] using q
 rw[exec_Assign_Name_used _ _ _ _ hsw];refine Aa (Fe (Aa ?_));show wpAny _ X.A (do let _ <- comprehension #v[7,7] scope X.env _ (newList []) false (eval iter X.env) (some (assign (.Name y py) X.env))) _ _ s;refine Aa (Cj (wpAny_comprehension_free (use:=some (assign (.Name y py) X.env)) (Q:=λ_ s'=>SP X pins D .next s') rfl hs hclos hk hnames
  (thn (hi pins s σ H _ I h) λv s1 h1=>thn h1 λitv s2 h2=>?_)) (λ_ s' hq=>Af (Af hq)) λ_ _ e=>e)
 nofun;obtain⟨it,fp,tn,J,H2,e,I2,T,st2,f2,hW⟩:=h2;ac_rfl;subst e;refine zhw (Q:=λx H1=>D.nx (σ.set i (some x)) H1) (RR:=λacc C=>compPost #v[3,7] X.A X.xe (some (assign (.Name y py) X.env)) (λ_ s'=>SP X pins D .next s') acc C) hc hk hcap hfr hnc hturn hg ht hm c1 c2 I2 T st2 f2 hW ?_;intro acc C s' H' ⟨m,hm⟩ hI hC q;show wpAny _ X.A (assign (.Name y py) X.env (.ref acc)) _ _ _;have I' : Inv X pins σ H' s':=hI s'.heap (.refl ..);refine wpAny_assign_Name (zk4 I' hN hiy hy (v:=.ref acc) rfl (λs'' I'' ⟨a,hsb,ha⟩=>?_) hf);have ne:C≠a:=by
  rcases ha with rfl|ha
  ·exact hC.2.1
  ·exact λz=>hC.2.2.2.2.1 y a ha z.symm
 refine⟨m,hm.sameBut hsb ne,λh' hsb'=>⟨_,H',?_,q⟩⟩;exact I''.turned (t':=s''.toks) (λb o hb e=>(hsb'.2 b hb).trans e) hC.1 hC.2.1 hC.2.2.2.1 hC.2.2.2.2.1 hC.2.2.2.2.2
end
section
variable {X:Cx}{pins:List (Addr × Obj)}{σ:St}{H:Hp}{s:Shared}
theorem Inv.turnLay {h' : Heap}{t' : Nat}{ch:List Addr}{T:Addr}{o:HO} (I:Inv X pins σ H s) (k:∀b o,b ∉ ch->s.heap.get? b=some o->h'.get? b=some o) (th:∀b∈ch,∃o',h'.get? b=some o') (hch:∀b∈ch,FpOk X pins H b) (hT:s.heap.objs.size<=T)
  (new:ObjOk X.prog X.w (upd H T o) h' T o):Inv X pins σ (upd H T o) { s with heap:=h',toks:=t' }:=by
 have hn:H T=none:=I.hok.fresh hT;have ne:∀b u,s.heap.get? b=some u->b≠T:=λb u e=>Be (Az (Ar e) hT);have nch:∀b u,H b=some u->b ∉ ch:=λb u e hb=>by rw[(hch b hb).1] at e;cases e
 refine I.step (g':=s.gens) (d':=s.drawn) (ch:=ch) (λb hb=>⟨(hch b hb).2.2.2.1,(hch b hb).2.1,(hch b hb).2.2.2.2.1,(hch b hb).2.2.2.2.2⟩) (λb o _ _ hc e _=>k b o hc e) (λb o _ _ hc e _=>⟨o.slots,k b o hc e⟩) (λb u _ e n=>by rw[upd_ne (ne b u e)];exact n)
  (λb u hc e=>⟨u,k b u hc e⟩) (λb xs e=>by rw[upd_ne (zad e hn)];exact e) (λb u xs e=>by rw[upd_ne (zad e hn)];exact e) (λb ps e=>⟨#[],by rw[upd_ne (zad e hn),e];simp⟩) (λm hm=>?_) (λb u e=>?_) I.bare
 ·obtain⟨o,es,ep,ho,r⟩:=hm;exact⟨o,es,ep,k _ o (λz=>(hch _ z).2.1 rfl) ho,r⟩
 ·by_cases hb : b = T
  ·subst hb;rw[upd_same] at e;obtain rfl:=sI e;exact new
  ·rw[upd_ne hb] at e;refine (I.hok b u e).stay (λc v hc q=>k c v ?_ q) (λc q=>by rw[upd_ne (zad q hn)];exact q) λc xs q=>by rw[upd_ne (zad q hn)];exact q
   rcases hc with z|z
   ·rw[z];exact nch b u e
   ·exact nch c _ z
theorem Inv.turnL {h' : Heap}{t' : Nat}{ch:List Addr}(I:Inv X pins σ H s)(k:∀b o,b ∉ ch->s.heap.get? b=some o->h'.get? b=some o)(hch:∀b∈ch,FpOk X pins H b):Inv X pins σ H { s with heap:=h',toks:=t' }:=by
 have nch:∀b u,H b=some u->b ∉ ch:=λb u e hb=>by rw[(hch b hb).1] at e;cases e
 refine I.step (g':=s.gens) (d':=s.drawn) (ch:=ch) (λb hb=>⟨(hch b hb).2.2.2.1,(hch b hb).2.1,(hch b hb).2.2.2.2.1,(hch b hb).2.2.2.2.2⟩) (λb o _ _ hc e _=>k b o hc e) (λb o _ _ hc e _=>⟨o.slots,k b o hc e⟩) (λb u _ e n=>n)
  (λb u hc e=>⟨u,k b u hc e⟩) (λb xs e=>e) (λb u xs e=>e) (λb ps e=>⟨#[],by rw[e];simp⟩) (λm hm=>?_) (λb u e=>?_) I.bare
 ·obtain⟨o,es,ep,ho,r⟩:=hm;exact⟨o,es,ep,k _ o (λz=>(hch _ z).2.1 rfl) ho,r⟩
 ·refine (I.hok b u e).stay (λc v hc q=>k c v ?_ q) (λc q=>q) λc xs q=>q;rcases hc with z|z
  ·rw[z];exact nch b u e
  ·exact nch c _ z
end
noncomputable def Ite (K:PySem.W.Frag) (a:Addr):It :=
 ⟨λi H=>∃xs x,SqL K H a xs/\xs[i]?=some x,λi H x H'=>∃p v,x=.ref p/\H p=none/\H'=upd H p (.tup [.int i,v])/\∀xs,SqL K H a xs->xs[i]?=some v,λi H=>∃xs,SqL K H a xs/\xs.length<=i⟩
theorem zvt {P:Program}{w:World}{K:PySem.W.Frag}{es:List Expr}{x1}{px:Pos}(a e it:Addr)(hei:e≠it):Turn P w K (.Tuple es x1 px) (Ite K a) [e,it] e (λi h=>(∃old,IsEnum h e it i old)/\h.IsListIter it a i) where
 mem:=by simp
 obj:=λi h st b hb=>by
  nofun;obtain⟨⟨old,he⟩,o,hi,c,d⟩:=st;ac_rfl;rcases Ap.mp hb with rfl|hb
  ·exact⟨_,he,λv z=>by cases z⟩
  ·have : b = it:=by simpa using hb
   subst this;exact⟨o,hi,λv z=>by rw[d] at z;cases z⟩
 keep:=λi h h' st k=>⟨let ⟨old,he⟩:=st.1;⟨old,k e (by simp) _ he⟩,st.2.at λo z=>k it (by simp) o z⟩
 item:=by
  intro X hP hw hK hc i pins s σ H E I hf st hg;subst hP hw hK;nofun;obtain⟨xs,x,hq,hx⟩:=hg;obtain⟨its,rv,p,hz⟩:=I.list hq;obtain⟨u,hu,ru⟩:=rv.get hx;obtain⟨⟨old,he⟩,hit⟩:=st;ac_rfl;refine wpAny_pyNext_enum_item he hit p.isList (x:=u) (by simpa using hu) hei λh' ho hit' hT hsz hk=>⟨_,rfl,?_⟩;refine wpAny_letOwnedTupleGo_enum ho λh'' he'' hs''=>?_;have kk:∀b o,b ∉ [e,it]->s.heap.get? b=some o->h''.get? b=some o:=λb o hb q=>by
   have h1:b≠e:=λz=>hb (by simp [z]);have h2:b≠it:=λz=>hb (by simp [z]);exact (hs''.2 b h1).trans (hk b o h1 h2 q)
  have hTe:s.heap.objs.size≠e:=λz=>absurd (Ar he) (by rw[z];exact Cg _);have hit'' : h''.IsListIter it a (i+1):=hit'.at λo y=>(hs''.2 it hei.symm).trans y;refine⟨.ref s.heap.objs.size,upd H s.heap.objs.size (.tup [.int i,x]),I.turnLay kk (λb hb=>?_) hf (Ag _) ⟨by show 2<=sizeLine;decide,[.int i s.toks,u],.cons ⟨_,rfl⟩ (.cons ru .nil),?_⟩,rfl,⟨_,x,rfl,I.hok.fresh (Ag _),rfl,λys hy=>by rw[I.list_inj hy hq];exact hx⟩,⟨⟨_,by simpa using he''⟩,hit''⟩,λb hb=>?_⟩
  ·rcases Ap.mp hb with rfl|hb
   ·exact⟨_,he''⟩
   ·have : b = it:=by simpa using hb
    subst this;obtain⟨o,z,_⟩:=hit'';exact⟨o,z⟩
  ·exact⟨_,(hs''.2 _ hTe).trans hT,rfl,_,rfl⟩
  ·have:b≠s.heap.objs.size:=by
    rcases Ap.mp hb with rfl|hb
    ·exact hTe.symm
    ·have e2 : b = it:=by simpa using hb
     subst e2;obtain⟨o,z,_⟩:=hit;exact Be (Ar z)
   rw[upd_ne this];exact (hf b hb).1
 done:=by
  intro X hP hw hK hc i pins s σ H E I hf st hg;subst hP hw hK;nofun;obtain⟨xs,hq,hx⟩:=hg;obtain⟨its,rv,p,hz⟩:=I.list hq;obtain⟨⟨old,he⟩,hit⟩:=st;obtain⟨f0,f1,f2,f3,f4,f5⟩:=hf it (by simp);ac_rfl;have hl:=rv.length;exact wpAny_pyNext_enum_end (I.ok.hd hc) he hit p.isList (Dl (by simp;omega)) λh' eb=>⟨rfl,I.turned (t':=s.toks) (λb o hb e=>eb b o hb e) f0 f1 f3 f4 f5⟩
 self:=λ_ _ _ _ _ st h=>let ⟨_,he⟩:=st.1;Hl he h
section
variable {X:Cx}
end
noncomputable def Itv (K:PySem.W.Frag) (a:Addr) (n:Nat):It :=
 ⟨λi H=>i<n/\∃xs,SqL K H a xs/\xs.length=n,λi H x H'=>H'=H/\∀xs,SqL K H a xs->xs[n - 1 - i]?=some x,λi H=>i=n⟩
theorem z2a {P:Program}{w:World}{K:PySem.W.Frag}{tg:Expr}(a it:Addr)(n:Nat):Turn P w K tg (Itv K a n) [it] it (λi h=>h.IsRevIter it a ((n:Int) - 1 - (i:Int))) where
 mem:=by simp
 obj:=λi h st b hb=>by
  have e:b=it:=by simpa using hb
  subst e;nofun;obtain⟨o,e,c,d⟩:=st;ac_rfl;exact⟨o,e,λv z=>by rw[d] at z;cases z⟩
 keep:=λi h h' st k=>st.at λo e=>k it (by simp) o e
 item:=by
  intro X hP hw hK hc i pins s σ H E I hf st hg;subst hP hw hK;nofun;obtain⟨hi,xs,hq,hn⟩:=hg;ac_rfl;have hlt:n - 1 - i<xs.length:=by omega
  nofun;obtain⟨its,rv,p,hz⟩:=I.list hq;obtain⟨u,hu,ru⟩:=rv.get (Ae hlt);obtain⟨f0,f1,f2,f3,f4,f5⟩:=hf it (by simp);ac_rfl;have e:(n:Int) - 1 - (i:Int)=((n - 1 - i:Nat):Int):=by omega
  have st':=st;rw[e] at st';refine wpAny_pyNext_rev_item st' p.isList (x:=u) (by simpa using hu) λh' st' sb=>?_;have I1:Inv X pins σ H { s with heap:=h' }:=I.turned (t':=s.toks) (λb o hb e=>(sb.2 b hb).trans e) f0 f1 f3 f4 f5;nofun;obtain⟨o,e2,c,d⟩:=id st';ac_rfl;have e3:((n - 1 - i:Nat):Int) - 1=(n:Int) - 1 - ((i+1:Nat):Int):=by omega
  rw[e3] at st';exact⟨u,rfl,zxm (s:={ s with heap:=h' }) e2 c d #v[0,9] ⟨_,H,I1,ru,⟨rfl,λys hy=>by rw[I.list_inj hy hq];exact Ae hlt⟩,st',λb hb=>(hf b hb).1⟩⟩
 done:=by
  intro X hP hw hK hc i pins s σ H E I hf st hg;subst hP hw hK;have hg' : i=n:=hg;subst hg';nofun;obtain⟨f0,f1,f2,f3,f4,f5⟩:=hf it (by simp);ac_rfl;have e:(i:Int) - 1 - (i:Int)=-1:=by omega
  rw[e] at st;exact wpAny_pyNext_rev_end (I.ok.hd hc) st λh' eb=>⟨rfl,I.turned (t':=s.toks) (λb o hb e=>eb b o hb e) f0 f1 f3 f4 f5⟩
 self:=λ_ _ _ _ _ st h=>wpAny_pyIter_revIter st h
section
variable {X:Cx}{tg:Expr}
noncomputable def iRev (K:PySem.W.Frag) (ta:TA):TI:=λσ H R=>ta σ H λvs H1=>∃a xs,vs=[.ref a]/\SqL K H1 a xs/\R (Itv K a xs.length) H1
theorem ya0 {l:Expr}{tl:TA}{p pos:Pos} (hg:Gl X "reversed") (hm:X.mg "reversed" = none) (hl:PA X [l] tl) (hs:starEach [l] X.env=[(false,eval l X.env)]:=by rfl) :
    PI X tg (.Call (.Name "reversed" p) [l] [] pos) (iRev X.K tl):=by
  intro pins s σ H R I h;refine Call_ (zdv I hg hm boot_reversed (Ct (thn (hl pos pins s σ H _ I h) λus s1 ⟨vs,H1,I1,r1,q1⟩=>?_) hs rfl));nofun;obtain⟨a,xs,e,hq,q⟩:=q1;ac_rfl;subst e;cases r1 with
  | cons r rr =>
    cases rr;cases r;nofun;obtain⟨its,rv,p',hz⟩:=I1.list hq;ac_rfl;refine call_reversed_list p'.isList ?_;have hit:(s1.heap.push (revObj a ((its.toArray.size:Int) - 1))).IsRevIter s1.heap.objs.size a ((its.toArray.size:Int) - 1):=⟨_,As _ rfl,rfl,rfl⟩;refine wpAny_pyIter_revIter hit ?_;refine⟨s1.heap.objs.size,[s1.heap.objs.size],_,_,H1,rfl,I1.kept (t':=s1.toks) λb o e=>Ac _ e,z2a a _ xs.length,?_,λb hb=>?_,q⟩
    · have e : ((its.toArray.size : Int) - 1) = (xs.length : Int) - 1 - ((0 : Nat) : Int) := by have := rv.length; simp; omega
      rw[e] at hit;have ge:((its.toArray.size:Int) - 1)=(xs.length:Int) - 1 - ((0:Nat):Int):=e;dsimp only;rw[<-ge];exact⟨_,As _ rfl,rfl,rfl⟩
    · have e : b = s1.heap.objs.size := by simpa using hb
      subst e;exact I1.fpOk (Ag _) (I1.hok.fresh (Ag _))
end
section
variable {κ:Type} [DecidableEq κ]
noncomputable def valV (kvs:List (κ × V)) (k:κ):Option V:=(kvs.find? λkv=>decide (kv.1=k)).map (·.2)
noncomputable def putK (kvs:List (κ × V)) (k:κ) (v:V):List (κ × V) :=
 if (kvs.any λkv=>decide (kv.1=k))=true then kvs.map (λkv=>if kv.1=k then (kv.1,v) else kv) else kvs++[(k,v)]
theorem zfz {p:κ × V}{r:List (κ × V)}{k:κ}(e:p.1=k):valV (p::r) k=some p.2:=by simp [valV,Cz,e]
theorem zfs {p:κ × V}{r:List (κ × V)}{k:κ}(e:¬ p.1=k):valV (p::r) k=valV r k:=by simp [valV,Cz,e]
theorem zrv (k:κ):∀kvs:List (κ × V),(kvs.any fun kv=>decide (kv.1=k))=(valV kvs k).isSome
  |[]=>rfl
  | p::r=>by
    rw[Du];by_cases e:p.1=k
    · simp only [zfz e,Am e,Bool.true_or,Option.isSome_some]
    · rw[zfs e,Ay e,Bool.false_or];exact zrv k r
theorem zgf (kvs:List (κ × V))(k:κ)(v:V):(putK kvs k v).length<=kvs.length+1:=by
 unfold putK;split
 ·rw[Ab];omega
 ·rw[Ba,Bc,Gu];omega
theorem RelO.isSome_eq {o:Option V}{u:Option Value} (r:RelO o u):o.isSome=u.isSome:=by
  cases o with
  | none=>cases u with
    |none=>rfl
    |some _=>exact (show False from r).elim
  | some _=>cases u with
    |none=>exact (show False from r).elim
    |some _=>rfl
theorem RelO.getD {o:Option V}{u:Option Value}{d:V}{d' : Value} (r:RelO o u) (rd:RelV d d'):RelV (o.getD d) (u.getD d'):=by
  cases o with
  | none=>cases u with
    |none=>exact rd
    |some _=>exact (show False from r).elim
  | some _=>cases u with
    |none=>exact (show False from r).elim
    |some _=>exact r
theorem KV.val {kvs:List (κ × V)}{vs:List (κ × Value)} (r:KV kvs vs) (k:κ):RelO (valV kvs k) (valueAt vs k):=by
  unfold KV at r
  induction r with
  |nil=>exact True.intro
  | @cons p q ps qs h t ih =>
    obtain⟨h1,h2⟩:=h;by_cases e:p.1=k
    · have e' : q.1 = k := h1.symm.trans e
      have b:valueAt (q::qs) k=some q.2:=by simp [valueAt,Cz,e']
      rw[zfz e,b];exact h2
    · have e' : ¬ q.1 = k := fun z => e (h1.trans z)
      have b:valueAt (q::qs) k=valueAt qs k:=by simp [valueAt,Cz,e']
      rw[zfs e,b];exact ih
theorem KV.any {kvs:List (κ × V)}{vs:List (κ × Value)}(r:KV kvs vs)(k:κ):(kvs.any λkv=>decide (kv.1=k))=vs.any λkv=>decide (kv.1=k):=by
 unfold KV at r
 induction r with
 |nil=>rfl
 |cons h t ih=>rw[Du,Du,ih,h.1]
theorem KV.repl {kvs:List (κ × V)}{vs:List (κ × Value)} (r:KV kvs vs) (k:κ) {y:V}{u:Value} (ry:RelV y u) :
    KV (kvs.map λkv=>if kv.1=k then (kv.1,y) else kv) (vs.map λkv=>if kv.1=k then (kv.1,u) else kv):=by
  unfold KV at r ⊢
  induction r with
  |nil=>exact .nil
  | @cons p q ps qs h t ih =>
    rw[Ah,Ah];refine .cons ?_ ih;obtain⟨h1,h2⟩:=h;by_cases e:p.1=k
    · rw[if_pos e,if_pos (h1.symm.trans e)];exact⟨h1,ry⟩
    · rw[if_neg e,if_neg (λz=>e (h1.trans z))];exact⟨h1,h2⟩
theorem KV.put {kvs:List (κ × V)}{vs:List (κ × Value)}(r:KV kvs vs)(k:κ){y:V}{u:Value}(ry:RelV y u):KV (putK kvs k y) (stored vs k u):=by
 unfold putK stored;rw[r.any k];by_cases e:(vs.any λkv=>decide (kv.1=k))=true
 ·rw[if_pos e,if_pos e];exact r.repl k ry
 ·rw[if_neg e,if_neg e];exact Paired.snoc r ⟨rfl,ry⟩
theorem KV.length {kvs:List (κ × V)}{vs:List (κ × Value)}(r:KV kvs vs):kvs.length=vs.length:=Paired.length r
end
theorem z6b {P:Program}{w:World}{k:Key}{u:Value}(r:RelV (kV k) u):(za4 P w).is k u=true:=by
 cases k with
 |inl i=>obtain⟨t,e⟩:=(show ∃t,u=Value.int i t from r);subst e;exact znm P w i t
 |inr x=>obtain⟨t,e⟩:=(show ∃t,u=Value.str x t from r);subst e;exact zol P w x t
theorem znd {P:Program}{w:World}:∀{ks:List Key}{us:List Value},Vals (ks.map kV) us->ItemsAre (za4 P w) ks us
  |[],_,r=>by rw[List.map_nil] at r;cases r;exact .nil
  | k::ks,_,r=>by
    rw[Ah] at r;cases r with
    |cons h t=>exact .cons (z6b h) (znd t)
noncomputable abbrev KT (H:Hp):List (List Key × V)->List (List Key × Addr × Value)->Prop:=Paired λp q=>p.1=q.1/\H q.2.1=some (.tup (p.1.map kV))/\RelV p.2 q.2.2
theorem KT.val {H:Hp}{kvs:List (List Key × V)}{xs:List (List Key × Addr × Value)} (r:KT H kvs xs) (k:List Key):RelO (valV kvs k) ((atKey xs k).map (·.2)):=by
  induction r with
  |nil=>exact True.intro
  | @cons p q ps qs h t ih =>
    obtain⟨h1,_,h2⟩:=h;by_cases e:p.1=k
    · have e' : q.1 = k := h1.symm.trans e
      have b:atKey (q::qs) k=some q.2:=by simp [atKey,Cz,e']
      rw[zfz e,b];exact h2
    · have e' : ¬ q.1 = k := fun z => e (h1.trans z)
      have b:atKey (q::qs) k=atKey qs k:=by simp [atKey,Cz,e']
      rw[zfs e,b];exact ih
theorem KT.repl {H:Hp}{kvs:List (List Key × V)}{xs:List (List Key × Addr × Value)} (r:KT H kvs xs) (k:List Key) {y:V}{u:Value} (ry:RelV y u) :
    KT H (kvs.map λkv=>if kv.1=k then (kv.1,y) else kv) (xs.map (putAt k u)):=by
  induction r with
  |nil=>exact .nil
  | @cons p q ps qs h t ih =>
    rw[Ah,Ah];refine .cons ?_ ih;obtain⟨h1,h2,h3⟩:=h;unfold putAt;by_cases e:p.1=k
    · rw[if_pos e,if_pos (h1.symm.trans e)];exact⟨h1,h2,ry⟩
    · rw[if_neg e,if_neg (λz=>e (h1.trans z))];exact⟨h1,h2,h3⟩
theorem KT.put {H:Hp}{kvs:List (List Key × V)}{xs:List (List Key × Addr × Value)} (r:KT H kvs xs) (k:List Key) {b:Addr}{y:V}{u:Value} (hb:H b=some (.tup (k.map kV))) (ry:RelV y u) :
  KT H (putK kvs k y) (storedH xs k b u):=by
 have e:(kvs.any λkv=>decide (kv.1=k))=(atKey xs k).isSome:=by
  rw[zrv,(r.val k).isSome_eq,Option.isSome_map]
 unfold putK storedH;rw[e];by_cases q:(atKey xs k).isSome=true
 ·rw[if_pos q,if_pos q];exact r.repl k ry
 ·rw[if_neg q,if_neg q];exact Paired.snoc r ⟨rfl,hb,ry⟩
theorem KT.keeps {H H' : Hp}{kvs:List (List Key × V)}{xs:List (List Key × Addr × Value)}(r:KT H kvs xs)(ht:∀b ys,H b=some (.tup ys)->H' b=some (.tup ys)):KT H' kvs xs :=
 Paired.mapP r λ_ _ z=>⟨z.1,ht _ _ z.2.1,z.2.2⟩
section
variable {P:Program}{w:World}{H:Hp}{h:Heap}{a:Addr}
theorem rd_of {u:HO}(ok:HOk P w H h)(e:Rd H a u):ObjOk P w H h a u:=e.ok ok
theorem dk_rd {kvs:List (Key × V)}(ok:HOk P w H h)(e:Rd H a (.dK kvs)):kvs.length<=sizeLine/\(a == sysModules)=false/\∃vs,KV kvs vs/\h.DictOf (za4 P w) a vs :=
 show ObjOk P w H h a (.dK kvs) from rd_of ok e
theorem z9v {kvs:List (Key × V)}(ok:HOk P w H h)(e:H a=some (.dK kvs)):kvs.length<=sizeLine/\(a == sysModules)=false/\∃vs,KV kvs vs/\h.DictOf (za4 P w) a vs:=dk_rd ok (.inl e)
theorem zw4 {ks:List Key}(ok:HOk P w H h)(e:H a=some (.tup (ks.map kV))):(tupleKind (za4 P w)).is h ks a:=by
 obtain⟨_,its,r,o,h1,h2,n,h3⟩:=(show ObjOk P w H h a (.tup (ks.map kV)) from ok a _ e);exact⟨o,its.toArray,n,h1,h2,h3,by simpa using znd r⟩
theorem dt_rd {kvs:List (List Key × V)} (ok:HOk P w H h) (e:Rd H a (.dT kvs)):kvs.length<=sizeLine/\(a == sysModules)=false /\
    ∃xs,KT H kvs xs/\h.DictOfH (tupleKind (za4 P w)) a xs:=by
  obtain ⟨z,y,xs,r,o,es,ep,h1,h2,h3,h4,h5⟩:=(show ObjOk P w H h a (.dT kvs) from rd_of ok e);refine ⟨z,y,xs,r,o,es,ep,h1,h2,h3,h4,fun x hx=>?_,h5⟩;have all:∀{l:List (List Key × V)}{m:List (List Key × Addr × Value)},KT H l m->∀x∈m,(tupleKind (za4 P w)).is h x.1 x.2.1:=by
    intro l m q
    induction q with
    |nil=>intro x hx;exact nomatch hx
    | @cons p q ps qs hq t ih =>
      intro x hx;rcases Ap.mp hx with e|hx
      · subst e
        exact zw4 ok (by rw[<-hq.1];exact hq.2.1)
      · exact ih x hx
  exact all r x hx
theorem ydu {kvs:List (List Key × V)} (ok:HOk P w H h) (e:H a=some (.dT kvs)):kvs.length<=sizeLine/\(a == sysModules)=false /\
  ∃xs,KT H kvs xs/\h.DictOfH (tupleKind (za4 P w)) a xs:=dt_rd ok (.inl e)
end
noncomputable def DGet (H:Hp) (a:Addr) (y:V) (r:Option V):Prop :=
 (∃kvs k,Rd H a (.dK kvs)/\y=kV k/\r=valV kvs k)\/∃kvs k b,Rd H a (.dT kvs)/\y=.ref b/\H b=some (.tup (k.map kV))/\r=valV kvs k
noncomputable def DPut (H:Hp) (a:Addr) (y v:V) (H' : Hp):Prop :=
 (∃kvs k,H a=some (.dK kvs)/\y=kV k/\kvs.length<sizeLine/\H'=upd H a (.dK (putK kvs k v))) \/
 ∃kvs k b,H a=some (.dT kvs)/\y=.ref b/\H b=some (.tup (k.map kV))/\kvs.length<sizeLine/\H'=upd H a (.dT (putK kvs k v))
section
variable {X:Cx}{pins:List (Addr × Obj)}{σ:St}{H:Hp}{s:Shared}{a:Addr}{y v:V}{u r:Value}{o:Option V}{A:Around}{E:Value->Shared->Prop}
theorem Inv.big (I:Inv X pins σ H s):sysModules<s.heap.objs.size:=by
 have h:mainGlobals<s.heap.objs.size:=(I.mod.glob.keeps I.bk).lt;exact Nat.lt_trans #v[0,9] h
theorem zgj {h' : Heap}{t' : Nat}{ob:HO} (I:Inv X pins σ H s) (mu:Mut (H a)) (hs:Heap.SameBut a s.heap h') (he:∃q,h'.get? a=some q) (new:ObjOk X.prog X.w (upd H a ob) h' a ob) :
  Inv X pins σ (upd H a ob) { s with heap:=h',toks:=t' } :=
 I.write (x:=a) (e:=a) mu (.inl rfl) (λb q hb z=>(hs.2 b hb).trans z) he new
theorem z9q {P:Program}{w:World}{H' : Hp}{h' : Heap}{kvs:List (Key × V)}{vs:List (Key × Value)} (z:kvs.length<=sizeLine) (hd:(a == sysModules)=false) (rel:KV kvs vs) (dd:h'.DictOf (za4 P w) a vs) :
  ObjOk P w H' h' a (.dK kvs):=⟨z,hd,vs,rel,dd⟩
theorem d_setItem {H' : Hp}{Q:Unit->Shared->Prop} (hu:A.units+1 < cLine) (I:Inv X pins σ H s) (g:DPut H a y v H') (ry:RelV y u) (rv:RelV v r) (h:∀s',Inv X pins σ H' s'->Q () s') :
  wpAny #v[3,7] A (setItem (.ref a) u r) Q E s:=by
 rcases g with⟨kvs,k,e,ey,l,eH⟩|⟨kvs,k,b,e,ey,eb,l,eH⟩
 ·subst ey eH;obtain⟨z,hd,vs,rel,dd⟩:=z9v I.hok e;have hz:vs.length<=sizeLine:=by rw[<-rel.length];exact z
  have hl:(putK kvs k v).length<=sizeLine:=by have:=zgf kvs k v;omega
  refine wpAny_setItem_pairs (hsz:=hz) (z6b ry) dd λh' dd' hs=>h _ ?_;have he:∃q,h'.get? a=some q:=let ⟨q,_,_,hq,_⟩:=dd';⟨q,hq⟩;exact zgj I (by rw[e];exact True.intro) hs he (z9q hl hd (rel.put k rv) dd')
 ·subst ey eH;cases (show u=Value.ref b from ry);obtain⟨z,hd,xs,rel,dd⟩:=ydu I.hok e;have hz:xs.length<=sizeLine:=by rw[<-Paired.length rel];exact z
  have hl:(putK kvs k v).length<=sizeLine:=by have:=zgf kvs k v;omega
  refine wpAny_setItem_heap (hsz:=hz) (tupleKind_room_in1 hu) (zw4 I.hok eb) dd λh' dd' hs=>h _ ?_;obtain⟨q,es,ep,hq,h2,h3,h4,_,h5⟩:=dd';refine zgj I (by rw[e];exact True.intro) hs ⟨q,hq⟩ ⟨hl,hd,_,(rel.put k eb rv).keeps λc ys ec=>?_,q,es,ep,hq,h2,h3,h4,h5⟩;rw[upd_ne (z8v ec e (λz=>nomatch z))];exact ec
end
section
variable {X:Cx}{pins:List (Addr × Obj)}{σ:St}{H:Hp}{s:Shared}{a:Addr}{kvs:List (Key × V)}{k:Key}{u:Value}{A:Around}{E:Value->Shared->Prop}
end
section
variable {X:Cx}{o i e value:Expr}{pos pos' tpos:Pos}{td ty tv:TE}
end
theorem z3a {P:Program}{w:World}{H:Hp}(h:Heap)(hb:sysModules<h.objs.size):ObjOk P w H (h.push { cls:=.type "dict",data:=.dict #[] }) h.objs.size (.dK []) :=
 ⟨Bk _,Dj.mpr (Ne.symm (Be hb)),[],.nil,Heap.DictOf.new h⟩
noncomputable def z3o:TE:=λ_ H Q=>∀p,H p=none->Q (.ref p) (upd H p (.dK []))
section
variable {X:Cx}{pos:Pos}
theorem zzy:PE X (.Dict [] [] pos) z3o:=λpins s σ H Q I h =>
 wpAny_Dict_empty ⟨.ref s.heap.objs.size,_,I.laid (a:=s.heap.objs.size) (o:=.dK []) (t':=s.toks) (λ_ _ q=>Ac _ q) (Ag _) (z3a s.heap I.big),rfl,h _ (I.hok.fresh (Ag _))⟩
end
structure M2 (X:Cx) (o:Expr) (m:Str) (apos:Pos) (e f:Expr) (cpos:Pos):Prop where
 base:attributeBase o m X.env (eval o X.env)=eval o X.env
 few:((backTo cpos (starEach [e,f] X.env)).all (λx=>!x.1) && (backToKw cpos (keywordEach [] X.env)).all (λx=>x.1.isSome)
  && decide (([e,f]:List Expr).length+([]:List Keyword).length+(if ([]:List Keyword).isEmpty then 0 else 1)<30))=true
 line:(apos.endLine == cpos.line)=true
 trees:backTo cpos (starEach [e,f] X.env)=[(false,eval e X.env),(false,eval f X.env)]
noncomputable def IsD (H:Hp) (a:Addr):Prop:=(∃kvs,Rd H a (.dK kvs))\/∃kvs,Rd H a (.dT kvs)
theorem z39 {X:Cx}{pins:List (Addr × Obj)}{σ:St}{H:Hp}{s:Shared}{a:Addr} (I:Inv X pins σ H s) (d:IsD H a) :
  s.TypeIs (.ref a) "dict"/\(∀b,Value.ref a=.ref b->∃ob,s.heap.get? b=some ob/\ob.dict=none)/\(a == sysModules)=false:=by
 rcases d with⟨kvs,e⟩|⟨kvs,e⟩
 ·obtain⟨_,hd,vs,_,dd⟩:=dk_rd I.hok e;refine⟨dd.typeIs,λb q=>?_,hd⟩;cases q;obtain⟨ob,_,_,h1,h2,_⟩:=dd;exact⟨ob,h1,h2.2.1⟩
 ·obtain⟨_,hd,xs,_,dd⟩:=dt_rd I.hok e;refine⟨dd.typeIs,λb q=>?_,hd⟩;cases q;obtain⟨ob,_,_,h1,h2,_⟩:=dd;exact⟨ob,h1,h2.2.1⟩
section
variable {X:Cx}{pins:List (Addr × Obj)}{σ:St}{H:Hp}{s:Shared}{a:Addr}{y d:V}{u r:Value}{o:Option V}{A:Around}{E:Value->Shared->Prop}
theorem d_get2 {Q:Value->Shared->Prop} (hu:A.units+1 < cLine) (I:Inv X pins σ H s) (g:DGet H a y o) (ry:RelV y u) (rd:RelV d r) (h:∀w' s',Inv X pins σ H s'->RelV (o.getD d) w'->Q w' s') :
  wpAny #v[3,7] A (call (.builtin "dict.get") [.ref a,u,r]) Q E s:=by
 rcases g with⟨kvs,k,e,ey,l⟩|⟨kvs,k,b,e,ey,eb,l⟩
 ·subst ey;obtain⟨z,hd,vs,rel,dd⟩:=dk_rd I.hok e;refine call_meetsIn PySem.F.slot_dict_get dd.typeIs PySem.F.entry_dict_get (PySem.F.args_dict_get_3 _ _ _) (meets_dict_get_default (za4 X.prog X.w) a (z6b ry) hd r) ⟨_,dd.mapOf,h _ _ (I.tok _) ?_⟩;rw[l];exact (rel.val k).getD rd
 ·subst ey;cases (show u=Value.ref b from ry);obtain⟨z,hd,xs,rel,dd⟩:=dt_rd I.hok e;refine call_meetsIn PySem.F.slot_dict_get dd.typeIs PySem.F.entry_dict_get (PySem.F.args_dict_get_3 _ _ _) (meetsH_dict_get_default (tupleKind (za4 X.prog X.w)) a b hd r) ⟨tupleKind_room_in1 hu,k,xs,zw4 I.hok eb,dd,h _ _ (I.tok _) ?_⟩;rw[l];exact (rel.val k).getD rd
end
section
variable {X:Cx}{o e f:Expr}{apos cpos:Pos}{td ty tx:TE}
end
section
variable {X:Cx}{pins:List (Addr × Obj)}{σ:St}{H:Hp}{s:Shared}{a:Addr}{kvs:List (Key × V)}{A:Around}{E:Value->Shared->Prop}
end
section
variable {X:Cx}{pins:List (Addr × Obj)}{σ:St}{H:Hp}{s:Shared}{a:Addr}{y:V}{u:Value}{A:Around}{E:Value->Shared->Prop}
end
section
variable {X:Cx}
theorem yae {bs:List Bool}{its:List Value}{i:Nat}{v:Value}(r:Vals (bs.map V.bl) its)(h:its[i]?=some v):∃b,bs[i]?=some b/\v=.bool b:=by
 have hl:=r.length;rw[Ab] at hl;have hi:i<bs.length:=by rw[hl];exact (Ak.mp h).1
 obtain⟨u,hu,ru⟩:=r.get (i:=i) (x:=.bl bs[i]) (by rw[Ai,Ae hi];rfl);rw[h] at hu;obtain rfl:=sI hu;exact⟨bs[i],Ae hi,ru⟩
theorem zj1 {bs:List Bool}{i:Nat}(hi:i<bs.length):bs.getD i false=bs[i]:=by rw[Ez,Ae hi];rfl
theorem zxj (bs:List Bool):((List.range bs.length).any λi=>bs.getD i false)=bs.any id:=by
 rw[Fv,List.any_eq_true,List.any_eq_true];constructor
 ·rintro ⟨i,hi,h⟩;rw[Bi] at hi;refine⟨bs[i],List.getElem_mem hi,?_⟩;rw[zj1 hi] at h;exact h
 ·rintro ⟨b,hb,h⟩;obtain⟨i,hi,e⟩:=Dr.mp hb;refine⟨i,Bi.mpr hi,?_⟩;rw[zj1 hi,e];exact h
theorem zwp (bs:List Bool):((List.range bs.length).all λi=>bs.getD i false)=bs.all id:=by
 rw[Fv,Bd,Bd];constructor
 ·intro h b hb;obtain⟨i,hi,e⟩:=Dr.mp hb;have:=h i (Bi.mpr hi);rw[zj1 hi,e] at this;exact this
 ·intro h i hi;rw[Bi] at hi;rw[zj1 hi];exact h _ (List.getElem_mem hi)
theorem zrj {P:Program}{w:World}{A:Around}{bs:List Bool}{its:List Value}(r:Vals (bs.map V.bl) its):TruthOf P w A (λi v=>its.toArray[i]?=some v) (λi=>bs.getD i false):=λi v s Q E hP hQ=>by
 obtain⟨b,hb,e⟩:=yae r (by simpa using hP);subst e;have:bs.getD i false=b:=by rw[Ez,hb];rfl
 have hQ' : Q (bs.getD i false) s:=hQ;rw[this] at hQ';exact Gn hQ'
theorem z0j (hc:X.calm=true):zmx X (.builtin "any") (λxs H Q=>∃(a:Addr) (bs:List Bool),xs=[.ref a]/\SqL X.K H a (bs.map V.bl)/\Q (.bl (bs.any id)) H):=by
 intro pins s σ H xs us Q I r h;obtain⟨a,bs,rfl,hq,q⟩:=h;obtain⟨u,rfl,rx⟩:=vals1 r;cases rx;obtain⟨its,rv,p,hz⟩:=I.list hq;have hl:=rv.length;rw[Ab] at hl;have ha:a<s.heap.objs.size:=by obtain⟨o,e,_⟩:=p.isList;exact Ar e
 refine call_any_walk (Go p.isList ?_);refine⟨s.heap.objs.size,_,[s.heap.objs.size],its.toArray.size,_,_,_,rfl,Walks.list (A:=X.A.in1) (show X.A.in1.handled=none from I.ok.hd hc) _ a (Be ha) its.toArray,⟨⟨_,As _ rfl,rfl,rfl⟩,p.isList.push _⟩,zrj rv,λh' tk hk=>?_⟩;have e:its.toArray.size=bs.length:=by simp;omega
 rw[e,zxj];refine⟨.bl _,H,I.kept λb o hb=>?_,rfl,q⟩;exact hk b o (by intro z;rw[Aw] at z;subst z;exact absurd (Ar hb) (Cg _)) (Ac _ hb)
theorem zzv (hc:X.calm=true):zmx X (.builtin "all") (λxs H Q=>∃(a:Addr) (bs:List Bool),xs=[.ref a]/\SqL X.K H a (bs.map V.bl)/\Q (.bl (bs.all id)) H):=by
 intro pins s σ H xs us Q I r h;obtain⟨a,bs,rfl,hq,q⟩:=h;obtain⟨u,rfl,rx⟩:=vals1 r;cases rx;obtain⟨its,rv,p,hz⟩:=I.list hq;have hl:=rv.length;rw[Ab] at hl;have ha:a<s.heap.objs.size:=by obtain⟨o,e,_⟩:=p.isList;exact Ar e
 refine call_all_walk (Go p.isList ?_);refine⟨s.heap.objs.size,_,[s.heap.objs.size],its.toArray.size,_,_,_,rfl,Walks.list (A:=X.A.in1) (show X.A.in1.handled=none from I.ok.hd hc) _ a (Be ha) its.toArray,⟨⟨_,As _ rfl,rfl,rfl⟩,p.isList.push _⟩,zrj rv,λh' tk hk=>?_⟩;have e:its.toArray.size=bs.length:=by simp;omega
 rw[e,zwp];refine⟨.bl _,H,I.kept λb o hb=>?_,rfl,q⟩;exact hk b o (by intro z;rw[Aw] at z;subst z;exact absurd (Ar hb) (Cg _)) (Ac _ hb)
theorem ycj:OpR X (compareOp .Is) (λx y H Q=>∃b,y=.bl b/\Q (.bl (decide (x=.bl b))) H):=by
 intro pins s σ H x y v u Q I rx ry h;obtain⟨b,rfl,q⟩:=h;cases ry;cases x with
 |bl c=>cases rx;exact Eh rfl (zaf I q (by cases b<;>cases c<;>rfl))
 |non=>cases rx;exact Eh rfl (zaf I q (by cases b<;>rfl))
 |ref _=>cases rx;exact Eh rfl (zaf I q (by cases b<;>rfl))
 |ty _=>cases rx;exact Eh rfl (zaf I q (by cases b<;>rfl))
 |int _=>obtain⟨t,e⟩:=rx;subst e;exact Eh rfl (zaf I q (by cases b<;>rfl))
 |str _=>obtain⟨t,e⟩:=rx;subst e;exact Eh rfl (zaf I q (by cases b<;>rfl))
 |byt _=>obtain⟨t,e⟩:=rx;subst e;exact Eh rfl (zaf I q (by cases b<;>rfl))
 |flt _=>obtain⟨t,e⟩:=rx;subst e;exact Eh rfl (zaf I q (by cases b<;>rfl))
theorem zxb:OpR X (compareOp .IsNot) (λx y H Q=>∃b,y=.bl b/\Q (.bl (!decide (x=.bl b))) H):=by
 intro pins s σ H x y v u Q I rx ry h;obtain⟨b,rfl,q⟩:=h;cases ry;cases x with
 |bl c=>cases rx;exact Dm rfl (zaf I q (by cases b<;>cases c<;>rfl))
 |non=>cases rx;exact Dm rfl (zaf I q (by cases b<;>rfl))
 |ref _=>cases rx;exact Dm rfl (zaf I q (by cases b<;>rfl))
 |ty _=>cases rx;exact Dm rfl (zaf I q (by cases b<;>rfl))
 |int _=>obtain⟨t,e⟩:=rx;subst e;exact Dm rfl (zaf I q (by cases b<;>rfl))
 |str _=>obtain⟨t,e⟩:=rx;subst e;exact Dm rfl (zaf I q (by cases b<;>rfl))
 |byt _=>obtain⟨t,e⟩:=rx;subst e;exact Dm rfl (zaf I q (by cases b<;>rfl))
 |flt _=>obtain⟨t,e⟩:=rx;subst e;exact Dm rfl (zaf I q (by cases b<;>rfl))
end
noncomputable def yck (i j:Int):Prop:=Builtin.Int.intBits i<=2 ^ 20/\Builtin.Int.intBits j<=2 ^ 20
theorem z6t {X:Cx}:OpR X (binaryOp .Mult) (rI yck λi j=>.int (i * j)):=opI λ_ _ _ _ _ _ _ hc q=>mul_int q (IntMulOk.of_bits hc.1 hc.2)
structure Cal (P:Program) (w:World) (K:PySem.W.Frag) (mg:Str->Option Value) (base:Heap) (n:Nat) (x:Str) (ps:List Str) (sp:Sp):Prop where
 ex:∃f fd,FnOk P w K mg base CX0 n f fd ps sp/\zkp K fd ps []/\PySem.W.keepIn K (.ref f)=true/\mg x=some (.ref f)
theorem yav {X:Cx}{n k:Nat}{x:Str}{ps:List Str}{sp:Sp}{e:Expr}{es:List Expr}{t:TA}{p pos:Pos} (C:Cal X.prog X.w X.K X.mg X.base n x ps sp) (hr:Room k X.A) (hg:Gl X x) (ha:PA X (e::es) t) (hk:n<=k:=by decide)
  (hdb:(x == ("__debug__" : Str))=false:=by decide) (hs:starEach (e::es) X.env=(false,eval e X.env)::starEach es X.env:=by rfl) (hpl:(backTo pos (starEach es X.env)).any (·.1)=false:=by rfl) :
  PE X (.Call (.Name x p) (e::es) [] pos) (z74 sp [] E0 t):=by
 nofun;obtain⟨f,fd,F,b,kp,m⟩:=C.ex;ac_rfl;exact z6o F (hr.mono hk) hg m kp b .nil yah ha hdb hs hpl
theorem Same.new {p:Addr}{H:Hp}(h:H p=none)(o:HO):Same H (L2.upd H p o):=λb u e=>by rw[upd_ne (zad e h)];exact e
theorem SqL.of' {K:PySem.W.Frag}{H:Hp}{a:Addr}{xs:List V}(h:H a=some (.lst xs)):SqL K H a xs:=.inl (.inl h)
noncomputable def MM:Int:=2305843009213693951
noncomputable def big:Nat:=1099511627776
noncomputable def Bits (xs:List Int):Prop:=∀x∈xs,x=0\/x=1
noncomputable def wordOf (xs:List Int):Int:=xs.foldr (λb a=>2 * a+b) 0
theorem z9f:bootBuiltins "len" = some (.builtin "len"):=by decide +kernel
theorem ybo:bootBuiltins "abs" = some (.builtin "abs"):=by decide +kernel
theorem z84:bootBuiltins "any" = some (.builtin "any"):=by decide +kernel
theorem z9e:bootBuiltins "all" = some (.builtin "all"):=by decide +kernel
theorem z8q:bootBuiltins "int" = some (.type "int"):=by decide +kernel
theorem zz9:bootBuiltins "tuple" = some (.type "tuple"):=by decide +kernel
theorem z0i {w:Int}{i:Nat}(h0:0<w)(h:w<=2 ^ (200 * i)):0<w * 10 ^ 60/\w * 10 ^ 60<=2 ^ (200 * (i+1)):=by
 have e:(2:Int) ^ (200 * (i+1))=2 ^ (200 * i) * 2 ^ 200:=by rw[Nat.mul_add,Int.pow_add]
 rw[e];refine⟨Int.mul_pos h0 #v[0,9],?_⟩;have h1:w * 10 ^ 60<=2 ^ (200 * i) * 10 ^ 60:=Int.mul_le_mul_of_nonneg_right h #v[0,9];have h2:(2:Int) ^ (200 * i) * 10 ^ 60<=2 ^ (200 * i) * 2 ^ 200:=Int.mul_le_mul_of_nonneg_left #v[0,9] #v[];omega
theorem zis {w:Int}{i:Nat}(h0:0<=w)(h:w<=2 ^ (200 * i))(hi:i<=63):Builtin.Int.intBits w<=2 ^ 20:=by
 have h1:(2:Int) ^ (200 * i)<2 ^ (200 * i+1):=by rw[Int.pow_succ];have:(0:Int)<2 ^ (200 * i):=Int.pow_pos #v[0,9];omega
 have h2:w.natAbs<2 ^ (200 * i+1):=by
  have:((w.natAbs:Nat):Int)<((2 ^ (200 * i+1):Nat):Int):=by
   rw[Int.natCast_pow];have e:((w.natAbs:Nat):Int)=w:=by omega
   rw[e];exact Int.lt_of_le_of_lt h h1
  exact Int.ofNat_lt.mp this
 have:=PyProof.Rows.intBits_le h2;omega
theorem zcr:∀{xs:List Int},Bits xs->0<=wordOf xs/\wordOf xs < 2 ^ xs.length
  |[],_=>by decide
  | x::r,h=>by
    have hx:=h x Ao;have ih:=zcr (xs:=r) λy hy=>h y (Aj _ hy);show 0<=2 * wordOf r+x/\2 * wordOf r+x<2 ^ (r.length+1);rw[Int.pow_succ];omega
noncomputable def zag:Expr->Bool
 |.Starred ..=>false
 |_=>true
theorem zah {e:Expr}{es:List Expr}{env:Env}(h:zag e=true):starEach (e::es) env=(false,eval e env)::starEach es env:=by
 cases e<;>first|rfl|(cases h)
theorem pac {X:Cx}{e:Expr}{es:List Expr}{te:TE}{t:TA}(ha:PE X e te)(hr:PA X es t)(h:zag e=true:=by rfl):PA X (e::es) (zhm te t):=zi8 ha hr (zah h)
end L2
namespace L2
theorem noSome {α:Type}{a:α}{P:Prop}(h:none=some a):P:=by cases h
open PySem PySem.Spec PyProof.Rows
noncomputable abbrev DKey:=Key ⊕ List Key
inductive W where
 |non|bl (b:Bool)|int (i:Int)|str (x:Str)|tup (xs:List W)|lst (xs:List W)|frl (xs:List W)|dic|dct (ks:List DKey) (vs:List W)|dcz (ks:List DKey) (vs:List W)
 deriving BEq,Inhabited
mutual
inductive Rep (K:PySem.W.Frag) (F:Hp):W->V->Prop where
 |non:Rep K F .non .non
 |bl (b:Bool):Rep K F (.bl b) (.bl b)
 |int (i:Int):Rep K F (.int i) (.int i)
 |str (x:Str):Rep K F (.str x) (.str x)
 |tup {ws:List W}{a:Addr}{vs:List V} (h:F a=some (.tup vs)) (r:Reps K F ws vs):Rep K F (.tup ws) (.ref a)
 |lst {ws:List W}{a:Addr}{vs:List V} (h:F a=some (.lst vs)) (r:Reps K F ws vs):Rep K F (.lst ws) (.ref a)
 |frl {ws:List W}{a:Addr}{vs:List V} (h:SqL K F a vs) (r:Reps K F ws vs):Rep K F (.frl ws) (.ref a)
 |dic {a:Addr}{kvs:List (Key × V)} (h:F a=some (.dK kvs)):Rep K F .dic (.ref a)
 |dct {a:Addr}{ks:List Key}{ws:List W}{vs:List V} (h:F a=some (.dK (ks.zip vs))) (hl:ks.length=vs.length) (r:Reps K F ws vs):Rep K F (.dct (ks.map .inl) ws) (.ref a)
 |dctT {a:Addr}{ks:List (List Key)}{ws:List W}{vs:List V} (h:F a=some (.dT (ks.zip vs))) (hl:ks.length=vs.length) (r:Reps K F ws vs):Rep K F (.dct (ks.map .inr) ws) (.ref a)
 |dcz {a:Addr}{o:Obj}{ks:List Key}{ws:List W}{vs:List V} (h:F a=some (.frz o (.dK (ks.zip vs)))) (hl:ks.length=vs.length) (r:Reps K F ws vs):Rep K F (.dcz (ks.map .inl) ws) (.ref a)
 |dczT {a:Addr}{o:Obj}{ks:List (List Key)}{ws:List W}{vs:List V} (h:F a=some (.frz o (.dT (ks.zip vs)))) (hl:ks.length=vs.length) (r:Reps K F ws vs):Rep K F (.dcz (ks.map .inr) ws) (.ref a)
inductive Reps (K:PySem.W.Frag) (F:Hp):List W->List V->Prop where
 |nil:Reps K F [] []
 |cons {w:W}{v:V}{ws:List W}{vs:List V} (h:Rep K F w v) (r:Reps K F ws vs):Reps K F (w::ws) (v::vs)
end
theorem zcb {α:Type}{l:List α}{i j:Nat}{x y:α}(hi:i<l.length)(h:(l.set i x)[j]?=some y):(j=i/\y=x)\/(j≠i/\l[j]?=some y):=by
 by_cases e:j=i
 ·subst e;rw[Dk hi] at h;exact .inl ⟨rfl,(sI h).symm⟩
 ·rw[Cs (Ne.symm e)] at h;exact .inr ⟨e,h⟩
theorem z0t {α:Type}{l:List α}{i:Nat}{x:α}(h:l[i]?=some x):l.set i x=l:=by
 apply Dg;intro j;by_cases e:j=i
 ·subst e;rw[Dk (Ak.mp h).1,h]
 ·rw[Cs (Ne.symm e)]
section
variable {K:PySem.W.Frag}{F F' H H' : Hp}
mutual
theorem Rep.mono (s:Same F F'):∀{w:W}{v:V},Rep K F w v->Rep K F' w v
 |_,_,.non=>.non
 |_,_,.bl b=>.bl b
 |_,_,.int i=>.int i
 |_,_,.str x=>.str x
 |_,_,.tup h r=>.tup (s _ _ h) (Reps.mono s r)
 |_,_,.lst h r=>.lst (s _ _ h) (Reps.mono s r)
 |_,_,.frl h r=>.frl (s.seq h) (Reps.mono s r)
 |_,_,.dic h=>.dic (s _ _ h)
 |_,_,.dct h hl r=>.dct (s _ _ h) hl (Reps.mono s r)
 |_,_,.dctT h hl r=>.dctT (s _ _ h) hl (Reps.mono s r)
 |_,_,.dcz h hl r=>.dcz (s _ _ h) hl (Reps.mono s r)
 |_,_,.dczT h hl r=>.dczT (s _ _ h) hl (Reps.mono s r)
theorem Reps.mono (s:Same F F'):∀{ws:List W}{vs:List V},Reps K F ws vs->Reps K F' ws vs
 |_,_,.nil=>.nil
 |_,_,.cons h r=>.cons (Rep.mono s h) (Reps.mono s r)
end
theorem Reps.length:∀{ws:List W}{vs:List V},Reps K F ws vs->ws.length=vs.length
 |_,_,.nil=>rfl
 |_,_,.cons _ r=>congrArg (· + 1) (Reps.length r)
theorem Reps.get:∀{ws:List W}{vs:List V}{i:Nat}{w:W},Reps K F ws vs->ws[i]?=some w->∃v,vs[i]?=some v/\Rep K F w v
  |_,_,_,_,.nil,e=>by simp at e
  |_,_,0,_,.cons h _,e=>by simp at e;subst e;exact⟨_,rfl,h⟩
  | _,_,i+1,w,.cons _ r,e=>by
    obtain⟨v,h1,h2⟩:=Reps.get (i:=i) (w:=w) r (by simpa using e);exact⟨v,by simpa using h1,h2⟩
theorem Reps.getV:∀{ws:List W}{vs:List V}{i:Nat}{v:V},Reps K F ws vs->vs[i]?=some v->∃w,ws[i]?=some w/\Rep K F w v
  |_,_,_,_,.nil,e=>by simp at e
  |_,_,0,_,.cons h _,e=>by simp at e;subst e;exact⟨_,rfl,h⟩
  | _,_,i+1,v,.cons _ r,e=>by
    obtain⟨w,h1,h2⟩:=Reps.getV (i:=i) (v:=v) r (by simpa using e);exact⟨w,by simpa using h1,h2⟩
theorem Reps.append:∀{xs ys:List W}{us ws:List V},Reps K F xs us->Reps K F ys ws->Reps K F (xs++ys) (us++ws)
 |_,_,_,_,.nil,s=>s
 |_,_,_,_,.cons h r,s=>.cons h (Reps.append r s)
theorem Reps.take:∀{xs:List W}{us:List V} (n:Nat),Reps K F xs us->Reps K F (xs.take n) (us.take n)
 |_,_,0,_=>.nil
 |_,_,_+1,.nil=>.nil
 |_,_,n+1,.cons h r=>.cons h (Reps.take n r)
theorem Reps.drop:∀{xs:List W}{us:List V} (n:Nat),Reps K F xs us->Reps K F (xs.drop n) (us.drop n)
 |_,_,0,r=>r
 |_,_,_+1,.nil=>.nil
 |_,_,n+1,.cons _ r=>Reps.drop n r
theorem Reps.set {w:W}{v:V}(h:Rep K F w v):∀{xs:List W}{us:List V} (i:Nat),Reps K F xs us->Reps K F (xs.set i w) (us.set i v)
 |_,_,_,.nil=>.nil
 |_,_,0,.cons _ r=>.cons h r
 |_,_,i+1,.cons q r=>.cons q (Reps.set h i r)
theorem Reps.rep {xs:List W}{us:List V}(r:Reps K F xs us):∀k:Nat,Reps K F (List.replicate k xs).flatten (List.replicate k us).flatten
 |0=>.nil
 |k+1=>by rw[Ce,Ce,Ds,Ds];exact r.append (r.rep k)
noncomputable def isIt:W->V->Prop
 |.int i,v=>v=.int i
 |.bl b,v=>v=.bl b
 |_,_=>True
theorem Rep.isIt {w:W}{v:V}(h:Rep K F w v):isIt w v:=by cases h<;>first|rfl|trivial
theorem Reps.uncons {w:W}{ws:List W}{vs:List V}(h:Reps K F (w::ws) vs):∃v us,vs=v::us/\Rep K F w v/\Reps K F ws us:=by
 cases h with
 |cons h r=>exact⟨_,_,rfl,h,r⟩
theorem Reps.ints:∀{ns:List Int}{vs:List V},Reps K F (ns.map W.int) vs->vs=ns.map V.int:=by
  intro ns
  induction ns with
  |nil=>intro vs h;cases h;rfl
  | cons n ns ih =>
    intro vs h;obtain⟨v,us,e,h1,h2⟩:=Reps.uncons h;rw[e,ih h2,show v=.int n from h1.isIt];rfl
theorem Reps.ofInts:∀(ns:List Int),Reps K F (ns.map W.int) (ns.map V.int)
 |[]=>.nil
 |n::ns=>.cons (.int n) (Reps.ofInts ns)
theorem Reps.bls:∀{bs:List Bool}{vs:List V},Reps K F (bs.map W.bl) vs->vs=bs.map V.bl:=by
  intro ns
  induction ns with
  |nil=>intro vs h;cases h;rfl
  | cons n ns ih =>
    intro vs h;obtain⟨v,us,e,h1,h2⟩:=Reps.uncons h;rw[e,ih h2,show v=.bl n from h1.isIt];rfl
noncomputable abbrev En:=List (Option (W × Bool))
noncomputable abbrev Prt:=Addr->HO->Prop
inductive OwnR (K:PySem.W.Frag) (F:Hp):W->HO->Prop where
 |lst {ws:List W}{vs:List V} (r:Reps K F ws vs):OwnR K F (.lst ws) (.lst vs)
 |dct {ks:List Key}{ws:List W}{vs:List V} (hl:ks.length=vs.length) (r:Reps K F ws vs):OwnR K F (.dct (ks.map .inl) ws) (.dK (ks.zip vs))
 |dctT {ks:List (List Key)}{ws:List W}{vs:List V} (hl:ks.length=vs.length) (r:Reps K F ws vs):OwnR K F (.dct (ks.map .inr) ws) (.dT (ks.zip vs))
theorem OwnR.mono {w:W}{o:HO}(s:Same F F')(h:OwnR K F w o):OwnR K F' w o:=by
 cases h with
 |lst r=>exact .lst (r.mono s)
 |dct hl r=>exact .dct hl (r.mono s)
 |dctT hl r=>exact .dctT hl (r.mono s)
theorem OwnR.rep {w:W}{o:HO}{a:Addr}(h:OwnR K F w o)(e:F a=some o):Rep K F w (.ref a):=by
 cases h with
 |lst r=>exact .lst e r
 |dct hl r=>exact .dct e hl r
 |dctT hl r=>exact .dctT e hl r
theorem OwnR.list {ws:List W}{o:HO}(h:OwnR K F (.lst ws) o):∃vs,o=.lst vs/\Reps K F ws vs:=by
 cases h with
 |lst r=>exact⟨_,rfl,r⟩
noncomputable def lams:List Str:=["_law_terms","_law_in_order","_law_poly_of","voted_terms","law"]
noncomputable def lamQ (x:Str):Str:=x++".<locals>."++"<lambda>"
noncomputable def zda (c:Addr) (q:Str) (h:Heap):Prop:=∃oc vs t,h.get? c=some oc/\oc.data=.fields vs/\vs[1]?=some (.str q t)
noncomputable def z7l (K:PySem.W.Frag):Prop:=∀x∈lams,∀x'∈lams,∀c c' P,PySem.W.tabIn K x=some (c,P)->PySem.W.tabIn K x'=some (c',P)->x=x'
noncomputable def NoT (pr:Prt):Prop:=∀b xs,¬ pr b (.tup xs)
noncomputable def zr8 (K:PySem.W.Frag) (F:Hp) (pr:Prt) (H:Hp):Prop:=(z7l K/\NoT pr)/\∀x∈lams,∀c P,PySem.W.tabIn K x=some (c,P)->∃ps:Array Value,H P=some (.tbl ps)/\F P=none/\(∀o,¬ pr P o)/\TriplesOk ps.toList /\
 ∀pos cv,codeAmong pos ps.toList=some cv->∃c',cv=.ref c'/\F c'=some (.ext (zda c' (lamQ x)))
theorem zr8.go {F F' H H' : Hp}{pr pr' : Prt}(T:zr8 K F pr H)(h4:∀b xs,pr' b (.tup xs)->pr b (.tup xs))(h1:∀b ps,H b=some (.tbl ps)->F b=none->H' b=some (.tbl ps)/\F' b=none)(h2:Same F F')(h3:∀b ps,H b=some (.tbl ps)->(∀o,¬ pr b o)->∀o,¬ pr' b o):zr8 K F' pr' H':=⟨⟨T.1.1,λb xs z=>T.1.2 b xs (h4 b xs z)⟩,λx hx c P e=>by
 nofun;obtain⟨ps,a1,a2,a3,a4,a5⟩:=T.2 x hx c P e;ac_rfl;refine⟨ps,(h1 P ps a1 a2).1,(h1 P ps a1 a2).2,h3 P ps a1 a3,a4,λpos cv q=>?_⟩;obtain⟨c',b1,b2⟩:=a5 pos cv q;exact⟨c',b1,h2 _ _ b2⟩⟩
structure Rel (K:PySem.W.Frag) (F:Hp) (pr:Prt) (en:En) (σ:St) (H:Hp):Prop where
 len:en.length=σ.length
 sub:Same F H
 val:∀(i:Nat) (w:W),en[i]?=some (#v[w,6])->∃v,σ[i]?=some (some v)/\Rep K F w v
 own:∀(i:Nat) (w:W),en[i]?=some (#v[w,5])->∃(a:Addr) (o:HO) (w' : W),w=w'/\σ[i]?=some (some (V.ref a))/\H a=some o/\F a=none/\OwnR K F w' o
 inj:∀(i j:Nat) (a:Addr) (w w' : W),en[i]?=some (#v[w,5])->en[j]?=some (#v[w',5])->σ[i]?=some (some (V.ref a))->σ[j]?=some (some (V.ref a))->i=j
 prt:∀b o,pr b o->H b=some o/\F b=none/\∀(i:Nat) (w:W),en[i]?=some (#v[w,5])->σ[i]?≠some (some (V.ref b))
 tb:zr8 K F pr H
noncomputable def Res (K:PySem.W.Frag) (F H:Hp) (pr:Prt) (en:En) (σ:St):W × Bool->V->Prop
 |(w,false),v=>Rep K F w v
 |(w,true),v=>∃(a:Addr) (o:HO) (w' : W),w=w'/\v=V.ref a/\H a=some o/\F a=none/\OwnR K F w' o/\(∀(i:Nat) (w' : W),en[i]?=some (#v[w',5])->σ[i]?≠some (some (V.ref a)))/\∀b o,pr b o->b≠a
noncomputable def RepB (K:PySem.W.Frag) (F H:Hp) (w:W) (v:V):Prop:=Rep K F w v\/∃(a:Addr) (o:HO) (w' : W),w=w'/\v=V.ref a/\H a=some o/\OwnR K F w' o
inductive Out (K:PySem.W.Frag) (F H:Hp):W × Bool->V->Hp->Prop where
 |val {w:W}{v:V} (r:Rep K F w v):Out K F H (w,false) v H
 |lst {p:Addr}{ws:List W}{vs:List V} (n:H p=none) (r:Reps K F ws vs):Out K F H (.lst ws,true) (.ref p) (upd H p (.lst vs))
 |tup {p:Addr}{ws:List W}{vs:List V} (n:H p=none) (r:Reps K F ws vs):Out K F H (.tup ws,false) (.ref p) (upd H p (.tup vs))
theorem Same.upd_both {F H:Hp}(s:Same F H)(p:Addr)(o:HO):Same (upd F p o) (upd H p o):=λb u e=>by
 by_cases hb:b=p
 ·subst hb;rw[upd_same] at e ⊢;exact e
 ·rw[upd_ne hb] at e ⊢;exact s _ _ e
variable {pr:Prt}{en:En}{σ:St}
theorem Rel.lay (R:Rel K F pr en σ H){p:Addr}(hp:H p=none)(o:HO):Rel K F pr en σ (upd H p o):=by
 have ne:∀a u,H a=some u->a≠p:=λa u e=>zad e hp;refine⟨R.len,R.sub.trans (Same.new hp o),R.val,λi w e=>?_,R.inj,λq o2 hq=>?_,R.tb.go (λ_ _ z=>z) (λb ps e f=>⟨by rw[upd_ne (ne b _ e)];exact e,f⟩) (.refl F) λb ps e h=>h⟩
 ·refine aG λGg qG => ?_;obtain⟨a,vs,ws,h1,h2,h3,h4,h5⟩:=R.own i w e;ac_rfl;exact⟨a,vs,ws,h1,h2,by rw[upd_ne (ne a _ h3)];exact h3,h4,h5⟩
 ·obtain⟨h1,h2,h3⟩:=R.prt q o2 hq;exact⟨by rw[upd_ne (ne _ _ h1)];exact h1,h2,h3⟩
theorem Rel.layF (R:Rel K F pr en σ H){p:Addr}(hp:H p=none)(o:HO):Rel K (upd F p o) pr en σ (upd H p o):=by
 have ne:∀a u,H a=some u->a≠p:=λa u e=>zad e hp;have fp:F p=none:=R.sub.free hp;have s:Same F (upd F p o):=Same.new fp o;refine⟨R.len,R.sub.upd_both p o,λi w e=>?_,λi w e=>?_,R.inj,λq o2 hq=>?_,R.tb.go (λ_ _ z=>z) (λb ps e f=>⟨by rw[upd_ne (ne b _ e)];exact e,by rw[upd_ne (ne b _ e)];exact f⟩) s λb ps e h=>h⟩
 ·obtain⟨v,h1,h2⟩:=R.val i w e;exact⟨v,h1,h2.mono s⟩
 ·refine aG λGg qG => ?_;obtain⟨a,vs,ws,h1,h2,h3,h4,h5⟩:=R.own i w e;ac_rfl;exact⟨a,vs,ws,h1,h2,by rw[upd_ne (ne a _ h3)];exact h3,by rw[upd_ne (ne a _ h3)];exact h4,h5.mono s⟩
 ·obtain⟨h1,h2,h3⟩:=R.prt q o2 hq;exact⟨by rw[upd_ne (ne _ _ h1)];exact h1,by rw[upd_ne (ne _ _ h1)];exact h2,h3⟩
theorem Out.close {r:W × Bool}{v:V} (R:Rel K F pr en σ H) (o:Out K F H r v H'):∃F',Same F F'/\Rel K F' pr en σ H'/\Res K F' H' pr en σ r v:=by
  cases o with
  |val r=>exact⟨F,.refl F,R,r⟩
  | @lst p ws vs n r =>
    refine⟨F,.refl F,R.lay n _,p,_,_,rfl,rfl,upd_same,R.sub.free n,.lst r,λi w' e z=>?_,λq o2 hq z=>?_⟩
    · obtain ⟨a, vs, ws, h1, h2, h3, h4, h5⟩ := R.own i w' e
      rw[h2] at z;cases z;rw[n] at h3;exact noSome h3
    · have := (R.prt q o2 hq).1
      rw[z,n] at this;exact noSome this
  |@tup p ws vs n r=>exact⟨upd F p (.tup vs),Same.new (R.sub.free n) _,R.layF n _,.tup upd_same (r.mono (Same.new (R.sub.free n) _))⟩
theorem Out.mono {r:W × Bool}{v:V}(s:Same F F')(o:Out K F H r v H'):Out K F' H r v H':=by
 cases o with
 |val r=>exact .val (r.mono s)
 |lst n r=>exact .lst n (r.mono s)
 |tup n r=>exact .tup n (r.mono s)
theorem Res.freeze {r:W × Bool}{v:V} (R:Rel K F pr en σ H) (h:Res K F H pr en σ r v):∃F',Same F F'/\Rel K F' pr en σ H/\Rep K F' r.1 v:=by
  obtain⟨w,b⟩:=r;cases b with
  |false=>exact⟨F,.refl F,R,h⟩
  | true =>
    nofun;obtain⟨a,vs,ws,rfl,rfl,h1,h2,h3,h4,h5⟩:=h;ac_rfl;have s:Same F (upd F a vs):=Same.new h2 _;have nt:∀ps,vs≠.tbl ps:=λps z=>by cases h3<;>cases z
    refine⟨upd F a vs,s,⟨R.len,λb u e=>?_,λi w e=>?_,λi w e=>?_,R.inj,λq o2 hq=>?_,R.tb.go (λ_ _ z=>z) (λb ps e f=>⟨e,by rw[upd_ne (λz=>by subst z;rw[h1] at e;exact nt ps (sI e))];exact f⟩) s λb ps e h=>h⟩,(h3.mono s).rep upd_same⟩
    · by_cases hb : b = a
      · subst hb;rw[upd_same] at e;obtain rfl:=sI e;exact h1
      · rw[upd_ne hb] at e;exact R.sub _ _ e
    · obtain ⟨v, q1, q2⟩ := R.val i w e
      exact⟨v,q1,q2.mono s⟩
    · refine aG fun Gg qG => ?_
      obtain⟨a',vs',ws',q1,q2,q3,q4,q5⟩:=R.own i w e;ac_rfl;have ne:a'≠a:=λz=>by subst z;exact h4 i w e q2
      exact⟨a',vs',ws',q1,q2,q3,by rw[upd_ne ne];exact q4,q5.mono s⟩
    · obtain ⟨q1, q2, q3⟩ := R.prt q o2 hq
      exact⟨q1,by rw[upd_ne (h5 q o2 hq)];exact q2,q3⟩
theorem Rel.freeze (R:Rel K F pr en σ H) {i:Nat}{w:W}{v:V}{fl:Bool} (e:en[i]?=some (some (w,fl))) (hv:σ[i]?=some (some v)):∃F',Same F F'/\Rel K F' pr (en.set i (some (w,false))) σ H/\Rep K F' w v:=by
  have hi:i<en.length:=(Ak.mp e).1;cases fl with
  | false =>
    obtain⟨v',h1,h2⟩:=R.val i w e;rw[hv] at h1;cases h1;refine⟨F,.refl F,?_,h2⟩;rw[z0t e];exact R
  | true =>
    nofun;obtain⟨a,vs,ws,e0,h2,h3,h4,h5⟩:=R.own i w e;ac_rfl;subst e0;rw[hv] at h2;cases h2;have s:Same F (upd F a vs):=Same.new h4 _;have nt:∀ps,vs≠.tbl ps:=λps z=>by cases h5<;>cases z
    have g:∀j w' b,(en.set i (some (w,false)))[j]?=some (some (w',b))->(j=i/\w'=w/\b=false)\/(j≠i/\en[j]?=some (some (w',b))):=fun j w' b h=>by
      rcases zcb hi h with⟨z,q⟩|z
      · cases q;exact .inl ⟨z,rfl,rfl⟩
      · exact .inr z
    refine⟨upd F a vs,s,⟨by rw[Do];exact R.len,λb u e'=>?_,λj w' e'=>?_,λj w' e'=>?_,λj k b w1 w2 e1 e2=>?_,λq o2 hq=>?_,R.tb.go (λ_ _ z=>z) (λb ps e f=>⟨e,by rw[upd_ne (λz=>by subst z;rw[h3] at e;exact nt ps (sI e))];exact f⟩) s λb ps e h=>h⟩,(h5.mono s).rep upd_same⟩
    · by_cases hb : b = a
      · subst hb;rw[upd_same] at e';obtain rfl:=sI e';exact h3
      · rw[upd_ne hb] at e';exact R.sub _ _ e'
    · rcases g j w' false e' with ⟨rfl, rfl, _⟩ | ⟨_, z⟩
      · exact⟨_,hv,(h5.mono s).rep upd_same⟩
      · obtain ⟨v', q1, q2⟩ := R.val j w' z
        exact⟨v',q1,q2.mono s⟩
    · rcases g j w' true e' with ⟨_, _, z⟩ | ⟨ne, z⟩
      · cases z
      · refine aG fun Gg qG => ?_
        obtain⟨a',vs',ws',q1,q2,q3,q4,q5⟩:=R.own j w' z;ac_rfl;have ne2:a'≠a:=λq=>by subst q;exact ne (R.inj j i a' _ _ z e q2 hv)
        exact⟨a',vs',ws',q1,q2,q3,by rw[upd_ne ne2];exact q4,q5.mono s⟩
    · rcases g j w1 true e1 with ⟨_, _, z⟩ | ⟨_, z1⟩
      · cases z
      · rcases g k w2 true e2 with ⟨_, _, z⟩ | ⟨_, z2⟩
        · cases z
        · exact R.inj j k b _ _ z1 z2
    · obtain ⟨q1, q2, q3⟩ := R.prt q o2 hq
      have ne:q≠a:=fun z=>by
        have:=q3 i _ e;rw[hv,z] at this;exact this rfl
      refine⟨q1,by rw[upd_ne ne];exact q2,λj w' e'=>?_⟩;rcases g j w' true e' with⟨_,_,z⟩|⟨_,z⟩
      · cases z
      · exact q3 j w' z
theorem Rel.repB (R:Rel K F pr en σ H) {i:Nat}{w:W}{fl:Bool}{v:V} (e:en[i]?=some (some (w,fl))) (hv:σ[i]?=some (some v)):RepB K F H w v:=by
  cases fl with
  | false =>
    obtain⟨v',h1,h2⟩:=R.val i w e;rw[hv] at h1;cases h1;exact .inl h2
  | true =>
    nofun;obtain⟨a,o,ws,h1,h2,h3,h4,h5⟩:=R.own i w e;ac_rfl;rw[hv] at h2;cases h2;exact .inr ⟨a,o,ws,h1,rfl,h3,h5⟩
theorem Rel.has (R:Rel K F pr en σ H){i:Nat}{w:W}{fl:Bool}(e:en[i]?=some (some (w,fl))):∃v,σ[i]?=some (some v):=by
 cases fl with
 |false=>obtain⟨v,h,_⟩:=R.val i w e;exact⟨v,h⟩
 |true=>obtain⟨a,_,_,_,h,_⟩:=R.own i w e;exact⟨_,h⟩
theorem Rel.store (R:Rel K F pr en σ H){i:Nat}{r:W × Bool}{v:V}(h:Res K F H pr en σ r v)(hi:i<en.length):Rel K F pr (en.set i (some r)) (σ.set i (some v)) H:=by
 have hi' : i<σ.length:=by rw[<-R.len];exact hi
 have g:∀j x,(en.set i (some r))[j]?=some (some x)->(j=i/\x=r)\/(j≠i/\en[j]?=some (some x)):=λj x h=>by
  rcases zcb hi h with⟨z,q⟩|z
  ·obtain rfl:=sI q;exact .inl ⟨z,rfl⟩
  ·exact .inr z
 have s1:(σ.set i (some v))[i]?=some (some v):=Dk hi';have s2:∀j,j≠i->(σ.set i (some v))[j]?=σ[j]?:=λj hj=>Cs (Ne.symm hj);refine⟨by rw[Do,Do];exact R.len,R.sub,λj w e=>?_,λj w e=>?_,λj k a w1 w2 e1 e2=>?_,λq o2 hq=>?_,R.tb⟩
 ·rcases g j _ e with⟨rfl,z⟩|⟨hj,z⟩
  ·subst z;exact⟨v,s1,h⟩
  ·rw[s2 j hj];exact R.val j w z
 ·rcases g j _ e with⟨rfl,z⟩|⟨hj,z⟩
  ·subst z;obtain⟨a,vs,ws,h1,h2,h3,h4,h5,_⟩:=h;exact⟨a,vs,ws,h1,by rw[s1,h2],h3,h4,h5⟩
  ·rw[s2 j hj];exact R.own j w z
 ·intro q1 q2;rcases g j _ e1 with⟨rfl,z1⟩|⟨hj,z1⟩
  ·rcases g k _ e2 with⟨rfl,z2⟩|⟨hk,z2⟩
   ·rfl
   ·subst z1;obtain⟨a',vs,ws,h1,h2,h3,h4,h5,h6,_⟩:=h;rw[s1,h2] at q1;cases q1;rw[s2 k hk] at q2;exact absurd q2 (h6 k _ z2)
  ·rcases g k _ e2 with⟨rfl,z2⟩|⟨hk,z2⟩
   ·subst z2;obtain⟨a',vs,ws,h1,h2,h3,h4,h5,h6,_⟩:=h;rw[s1,h2] at q2;cases q2;rw[s2 j hj] at q1;exact absurd q1 (h6 j _ z1)
   ·rw[s2 j hj] at q1; rw[s2 k hk] at q2;exact R.inj j k a _ _ z1 z2 q1 q2
 ·obtain⟨q1,q2,q3⟩:=R.prt q o2 hq;refine⟨q1,q2,λj w e=>?_⟩;rcases g j _ e with⟨rfl,z⟩|⟨hj,z⟩
  ·subst z;obtain⟨a',vs,ws,h1,h2,h3,h4,h5,h6,h7⟩:=h;rw[s1,h2];intro q';cases q';exact h7 q o2 hq rfl
  ·rw[s2 j hj];exact q3 j w z
theorem Rel.changeO (R:Rel K F pr en σ H){i:Nat}{w w0:W}{a:Addr}{o0:HO}(e:en[i]?=some (#v[w,5]))(hv:σ[i]?=some (some (.ref a)))(r:OwnR K F w0 o0):Rel K F pr (en.set i (#v[w0,5])) σ (upd H a o0):=by
 have hi:i<en.length:=(Ak.mp e).1;nofun;obtain⟨a0,vs,ws,h1,h2,h3,h4,h5⟩:=R.own i w e;ac_rfl;rw[hv] at h2;cases h2;have nt:∀ps,vs≠.tbl ps:=λps z=>by cases h5<;>cases z
 have nx:∀φ,vs≠.ext φ:=λps z=>by cases h5<;>cases z
 have g:∀j x,(en.set i (#v[w0,5]))[j]?=some (some x)->(j=i/\x=(w0,true))\/(j≠i/\en[j]?=some (some x)):=λj x h=>by
  rcases zcb hi h with⟨z,q⟩|z
  ·obtain rfl:=sI q;exact .inl ⟨z,rfl⟩
  ·exact .inr z
 refine⟨by rw[Do];exact R.len,λb u hb=>?_,λj w' e'=>?_,λj w' e'=>?_,λj k b w1 w2 e1 e2 q1 q2=>?_,λq o2 hq=>?_,R.tb.go (λ_ _ z=>z) (λb ps e f=>⟨by rw[upd_ne (λz=>by subst z;rw[h3] at e;exact nt ps (sI e))];exact e,f⟩) (.refl F) λb ps e h=>h⟩
 ·have : b ≠ a:=λz=>by subst z; rw[h4] at hb; cases hb
  rw[upd_ne this];exact R.sub _ _ hb
 ·rcases g j _ e' with⟨_,z⟩|⟨_,z⟩
  ·cases z
  ·exact R.val j w' z
 ·rcases g j _ e' with⟨rfl,z⟩|⟨hj,z⟩
  ·cases z;exact⟨a,o0,w0,rfl,hv,upd_same,h4,r⟩
  ·refine aG λGg qG => ?_;obtain⟨a',vs2,ws2,q1,q2,q3,q4,q5⟩:=R.own j w' z;ac_rfl;have ne:a'≠a:=λz'=>by subst z';exact hj (R.inj j i a' _ _ z e q2 hv)
   exact⟨a',vs2,ws2,q1,q2,by rw[upd_ne ne];exact q3,q4,q5⟩
 ·have z1:∃w0,en[j]?=some (some (w0,true)):=by
   rcases g j _ e1 with⟨rfl,_⟩|⟨_,z⟩
   ·exact⟨_,e⟩
   ·exact⟨_,z⟩
  have z2:∃w0,en[k]?=some (#v[w0,5]):=by
   rcases g k _ e2 with⟨rfl,_⟩|⟨_,z⟩
   ·exact⟨_,e⟩
   ·exact⟨_,z⟩
  obtain⟨_,z1⟩:=z1;obtain⟨_,z2⟩:=z2;exact R.inj j k b _ _ z1 z2 q1 q2
 ·obtain ⟨q1, q2, q3⟩ := R.prt q o2 hq;have ne:q≠a:=fun z=>by
   have:=q3 i _ e;rw[hv,z] at this;exact this rfl
  refine⟨by rw[upd_ne ne];exact q1,q2,λj w' e'=>?_⟩;rcases g j _ e' with⟨rfl,_⟩|⟨_,z⟩
  ·exact q3 j _ e
  ·exact q3 j w' z
theorem Rel.change (R:Rel K F pr en σ H){i:Nat}{w:W}{a:Addr}{ws' : List W}{vs' : List V}(e:en[i]?=some (#v[w,5]))(hv:σ[i]?=some (some (.ref a)))(r:Reps K F ws' vs'):Rel K F pr (en.set i (#v[ws',2])) σ (upd H a (.lst vs')):=R.changeO e hv (.lst r)
theorem Rel.ownL (R:Rel K F pr en σ H){i:Nat}{ws:List W}(e:en[i]?=some (#v[ws,2])):∃(a:Addr) (vs:List V) (ws' : List W),W.lst ws=.lst ws'/\σ[i]?=some (some (V.ref a))/\H a=some (.lst vs)/\F a=none/\Reps K F ws' vs:=by
 nofun;obtain⟨a,o,w',e1,h2,h3,h4,h5⟩:=R.own i _ e;ac_rfl;subst e1;obtain⟨vs,rfl,r⟩:=h5.list;exact⟨a,vs,ws,rfl,h2,h3,h4,r⟩
end
end L2
namespace L2
open PySem PySem.Spec PyProof.Rows
noncomputable abbrev GE:=En->Option (En × (W × Bool))
noncomputable abbrev GA:=En->Option (En × (W ⊕ Nat))
noncomputable abbrev GT:=En->Option (En × Bool)
noncomputable abbrev GAs:=En->Option (En × List (W ⊕ Nat))
noncomputable abbrev GL:=En->Option (En × List W)
noncomputable def ArgR (K:PySem.W.Frag) (F:Hp) (σ:St):W ⊕ Nat->V->Prop
 |.inl w,v=>Rep K F w v
 |.inr i,v=>σ[i]?=some (some v)
inductive ArgRs (K:PySem.W.Frag) (F:Hp) (σ:St):List (W ⊕ Nat)->List V->Prop where
 |nil:ArgRs K F σ [] []
 |cons {x:W ⊕ Nat}{v:V}{xs:List (W ⊕ Nat)}{vs:List V} (h:ArgR K F σ x v) (r:ArgRs K F σ xs vs):ArgRs K F σ (x::xs) (v::vs)
noncomputable def resA (en:En):W ⊕ Nat->Option W
  |.inl w=>some w
  | .inr i=>match en[i]? with
    |some (some (w,_))=>some w
    |_=>none
section
variable {K:PySem.W.Frag}{F F' H:Hp}{pr:Prt}{en:En}{σ:St}
theorem ArgR.mono (s:Same F F'){x:W ⊕ Nat}{v:V}(h:ArgR K F σ x v):ArgR K F' σ x v:=by
 cases x with
 |inl w=>exact Rep.mono s h
 |inr i=>exact h
theorem ArgR.repB (R:Rel K F pr en σ H) {x:W ⊕ Nat}{v:V}{w:W} (h:ArgR K F σ x v) (e:resA en x=some w):RepB K F H w v:=by
  cases x with
  |inl u=>obtain rfl:=sI e;exact .inl h
  | inr i =>
    unfold resA at e;cases q:en[i]? with
    |none=>simp only [q] at e;exact noSome e
    | some o =>
      cases o with
      |none=>simp only [q] at e;exact noSome e
      | some p =>
        obtain⟨u,fl⟩:=p;simp only [q] at e;obtain rfl:=sI e;exact R.repB q h
end
noncomputable def tE (K:PySem.W.Frag) (g:GE):TE:=λσ H Q=>∃F pr en en' r,Rel K F pr en σ H/\g en=some (en',r)/\∀F' H' v,Same F F'->Rel K F' pr en' σ H'->Res K F' H' pr en' σ r v->Q v H'
noncomputable def tA (K:PySem.W.Frag) (g:GA):TE:=λσ H Q=>∃F pr en en' x,Rel K F pr en σ H/\g en=some (en',x)/\∀F' H' v,Same F F'->Rel K F' pr en' σ H'->ArgR K F' σ x v->Q v H'
noncomputable def tT (K:PySem.W.Frag) (g:GT):TT:=λσ H Q=>∃F pr en en' b,Rel K F pr en σ H/\g en=some (en',b)/\∀F' H',Same F F'->Rel K F' pr en' σ H'->Q b H'
noncomputable def tAs (K:PySem.W.Frag) (g:GAs):TA:=λσ H Q=>∃F pr en en' xs,Rel K F pr en σ H/\g en=some (en',xs)/\∀F' H' vs,Same F F'->Rel K F' pr en' σ H'->ArgRs K F' σ xs vs->Q vs H'
theorem PE.wk {X:Cx}{e:Expr}{t t' : TE}(h:PE X e t)(i:∀σ H Q,t' σ H Q->t σ H Q):PE X e t':=λpins s σ H Q I q=>h pins s σ H Q I (i σ H Q q)
theorem PT.wk {X:Cx}{e:Expr}{t t' : TT}(h:PT X e t)(i:∀σ H Q,t' σ H Q->t σ H Q):PT X e t':=λpins s σ H Q I q=>h pins s σ H Q I (i σ H Q q)
theorem PW.wk {X:Cx}{e:Expr}{t t' : TT}(h:PW X e t)(i:∀σ H Q,t' σ H Q->t σ H Q):PW X e t':=λwh pins s σ H Q I q=>h wh pins s σ H Q I (i σ H Q q)
theorem PA.wk {X:Cx}{es:List Expr}{t t' : TA}(h:PA X es t)(i:∀σ H Q,t' σ H Q->t σ H Q):PA X es t':=λpos pins s σ H Q I q=>h pos pins s σ H Q I (i σ H Q q)
theorem PS.wk {X:Cx}{st:Stmt}{t t' : TS}(h:PS X st t)(i:∀D σ H,t' D σ H->t D σ H):PS X st t':=λpins s σ H D I q=>h pins s σ H D I (i D σ H q)
theorem PSs.wk {X:Cx}{st:List Stmt}{t t' : TS}(h:PSs X st t)(i:∀D σ H,t' D σ H->t D σ H):PSs X st t':=λpins s σ H D I q=>h pins s σ H D I (i D σ H q)
theorem PI.wk {X:Cx}{tg e:Expr}{t t' : TI}(h:PI X tg e t)(i:∀σ H R,t' σ H R->t σ H R):PI X tg e t':=λpins s σ H R I q=>h pins s σ H R I (i σ H R q)
noncomputable def gVar (i:Nat):GE:=λen=>match en[i]? with
 |some (some (w,_))=>some (en.set i (#v[w,6]),(w,false))
 |_=>none
noncomputable def zaa (i:Nat):GA:=λen=>match en[i]? with
 |some (#v[w,5])=>some (en,.inr i)
 |some (#v[w,6])=>some (en,.inl w)
 |_=>none
noncomputable def gC (w:W):GE:=λen=>some (en,(w,false))
noncomputable def gArg (g:GE):GA:=λen=>(g en).bind λp=>some (p.1,.inl p.2.1)
noncomputable def gA0:GAs:=λen=>some (en,[])
noncomputable def gCns (a:GA) (as:GAs):GAs:=λen=>(a en).bind λp=>(as p.1).bind λq=>some (q.1,p.2::q.2)
noncomputable def gOp1 (o:W->Option (W × Bool)) (a:GA):GE:=λen=>(a en).bind λp=>(resA p.1 p.2).bind λw=>(o w).bind λr=>some (p.1,r)
noncomputable def gOp2 (o:W->W->Option (W × Bool)) (a b:GA):GE:=λen=>(a en).bind λp=>(b p.1).bind λq=>(resA q.1 p.2).bind λw=>(resA q.1 q.2).bind λu=>(o w u).bind λr=>some (q.1,r)
noncomputable def za6 (en:En):List (W ⊕ Nat)->Option (List W)
 |[]=>some []
 |x::xs=>(resA en x).bind λw=>(za6 en xs).bind λws=>some (w::ws)
noncomputable def gOpN (o:List W->Option (W × Bool)) (as:GAs):GE:=λen=>(as en).bind λp=>(za6 p.1 p.2).bind λws=>(o ws).bind λr=>some (p.1,r)
noncomputable def zaj (g:GE):GT:=λen=>match g en with
 |some (en',(.bl b,_))=>some (en',b)
 |_=>none
noncomputable def gAnd (a b:GE):GE:=λen=>match a en with
 |some (en',(.bl true,_))=>b en'
 |some (en',(.bl false,_))=>some (en',#v[1,8])
 |_=>none
noncomputable def gOr (a b:GE):GE:=λen=>match a en with
 |some (en',(.bl true,_))=>some (en',#v[9,10])
 |some (en',(.bl false,_))=>b en'
 |_=>none
noncomputable def gNot (a:GE):GE:=λen=>match a en with
 |some (en',(.bl b,_))=>some (en',(.bl (!b),false))
 |_=>none
noncomputable def zht (a b:GT):GT:=λen=>match a en with
 |#v[en',5]=>b en'
 |#v[en',6]=>#v[en',6]
 |none=>none
noncomputable def gOrT (a b:GT):GT:=λen=>match a en with
 |#v[en',5]=>#v[en',5]
 |#v[en',6]=>b en'
 |none=>none
noncomputable def ztb (a:GT):GT:=λen=>match a en with
 |some (en',b)=>some (en',!b)
 |none=>none
noncomputable def gIf (c:GT) (a b:GE):GE:=λen=>match c en with
 |#v[en',5]=>a en'
 |#v[en',6]=>b en'
 |none=>none
section
variable {K:PySem.W.Frag}{σ:St}{H:Hp}
theorem z16 {i:Nat}{Q:VK} (h:tE K (gVar i) σ H Q):tVar i σ H Q:=by
  obtain⟨F,pr,en,en',r,R,h,q⟩:=h;unfold gVar at h;cases e:en[i]? with
  |none=>simp only [e] at h;exact noSome h
  | some o =>
    cases o with
    |none=>simp only [e] at h;exact noSome h
    | some p =>
      obtain⟨w,fl⟩:=p;simp only [e] at h;cases h;obtain⟨v,hv⟩:=R.has e;obtain⟨F',s,R',z⟩:=R.freeze e hv;exact⟨v,hv,q F' H v s R' z⟩
theorem zx3 {i:Nat}{Q:VK} (h:tA K (zaa i) σ H Q):tVar i σ H Q:=by
  obtain⟨F,pr,en,en',r,R,h,q⟩:=h;unfold zaa at h;cases e:en[i]? with
  |none=>simp only [e] at h;exact noSome h
  | some o =>
    cases o with
    |none=>simp only [e] at h;exact noSome h
    | some p =>
      obtain⟨w,fl⟩:=p;cases fl with
      | true =>
        simp only [e] at h;cases h;obtain⟨v,hv⟩:=R.has e;exact⟨v,hv,q F H v (.refl F) R hv⟩
      | false =>
        simp only [e] at h;cases h;obtain⟨v,hv,z⟩:=R.val i w e;exact⟨v,hv,q F H v (.refl F) R z⟩
theorem zdi {w:W}{v:V}{Q:VK}(hr:∀F,Rep K F w v)(h:tE K (gC w) σ H Q):tC v σ H Q:=by
 obtain⟨F,pr,en,en',r,R,h,q⟩:=h;cases h;exact q F H v (.refl F) R (hr F)
theorem zf1 {g:GE}{Q:VK}(h:tA K (gArg g) σ H Q):tE K g σ H Q:=by
 obtain⟨F,pr,en,en',x,R,h,q⟩:=h;obtain⟨⟨e1,r⟩,h1,h⟩:=bS h;cases h;refine⟨F,pr,en,e1,r,R,h1,λF1 H1 v s1 R1 z=>?_⟩;obtain⟨F2,s2,R2,y⟩:=z.freeze R1;exact q F2 H1 v (s1.trans s2) R2 y
theorem zro {Q:List V->Hp->Prop}(h:tAs K gA0 σ H Q):tNil σ H Q:=by
 obtain⟨F,pr,en,en',x,R,h,q⟩:=h;cases h;exact q F H [] (.refl F) R .nil
theorem zr5 {a:GA}{as:GAs}{Q:List V->Hp->Prop}(h:tAs K (gCns a as) σ H Q):tA K a σ H λx H1=>tAs K as σ H1 λxs H2=>Q (x::xs) H2:=by
 nofun;obtain⟨F,pr,en,en',x,R,h,q⟩:=h;obtain⟨⟨e1,y⟩,h1,h⟩:=bS h;obtain⟨⟨e2,ys⟩,h2,h⟩:=bS h;ac_rfl;cases h;exact⟨F,pr,en,e1,y,R,h1,λF1 H1 v s1 R1 a1=>⟨F1,pr,e1,e2,ys,R1,h2,λF2 H2 vs s2 R2 a2=>q F2 H2 (v::vs) (s1.trans s2) R2 (.cons (a1.mono s2) a2)⟩⟩
noncomputable def OpS (K:PySem.W.Frag) (r:R2) (o:W->W->Option (W × Bool)):Prop:=∀F H w1 w2 v1 v2 rv Q,Same F H->RepB K F H w1 v1->RepB K F H w2 v2->o w1 w2=some rv->(∀v H',Out K F H rv v H'->Q v H')->r v1 v2 H Q
theorem zfv {r:R2}{o:W->W->Option (W × Bool)}{a b:GA}{Q:VK}(ho:OpS K r o)(h:tE K (gOp2 o a b) σ H Q):tOp r (tA K a) (tA K b) σ H Q:=by
 nofun;obtain⟨F,pr,en,en',rv,R,h,q⟩:=h;obtain⟨⟨e1,x1⟩,h1,h⟩:=bS h;obtain⟨⟨e2,x2⟩,h2,h⟩:=bS h;obtain⟨w1,hw1,h⟩:=bS h;obtain⟨w2,hw2,h⟩:=bS h;obtain⟨r',hr,h⟩:=bS h;ac_rfl;cases h;refine⟨F,pr,en,e1,x1,R,h1,λF1 H1 v1 s1 R1 a1=>⟨F1,pr,e1,e2,x2,R1,h2,λF2 H2 v2 s2 R2 a2=>?_⟩⟩;refine ho F2 H2 w1 w2 v1 v2 rv Q R2.sub ((a1.mono s2).repB R2 hw1) (a2.repB R2 hw2) hr λv H' z=>?_;nofun;obtain⟨F3,s3,R3,y⟩:=z.close R2;ac_rfl;exact q F3 H' v (s1.trans (s2.trans s3)) R3 y
noncomputable def OpS1 (K:PySem.W.Frag) (r:V->Hp->VK->Prop) (o:W->Option (W × Bool)):Prop:=∀F H w v rv Q,Same F H->RepB K F H w v->o w=some rv->(∀u H',Out K F H rv u H'->Q u H')->r v H Q
theorem z0s {r:V->Hp->VK->Prop}{o:W->Option (W × Bool)}{a:GA}{Q:VK}(ho:OpS1 K r o)(h:tE K (gOp1 o a) σ H Q):tUn r (tA K a) σ H Q:=by
 nofun;obtain⟨F,pr,en,en',rv,R,h,q⟩:=h;obtain⟨⟨e1,x1⟩,h1,h⟩:=bS h;obtain⟨w1,hw1,h⟩:=bS h;obtain⟨r',hr,h⟩:=bS h;ac_rfl;cases h;refine⟨F,pr,en,e1,x1,R,h1,λF1 H1 v1 s1 R1 a1=>?_⟩;refine ho F1 H1 w1 v1 rv Q R1.sub (a1.repB R1 hw1) hr λv H' z=>?_;nofun;obtain⟨F3,s3,R3,y⟩:=z.close R1;ac_rfl;exact q F3 H' v (s1.trans s3) R3 y
inductive RepBs (K:PySem.W.Frag) (F H:Hp):List W->List V->Prop where
 |nil:RepBs K F H [] []
 |cons {w:W}{v:V}{ws:List W}{vs:List V} (h:RepB K F H w v) (r:RepBs K F H ws vs):RepBs K F H (w::ws) (v::vs)
theorem ArgRs.repBs {F:Hp}{pr:Prt}{en:En} (R:Rel K F pr en σ H):∀{xs:List (W ⊕ Nat)}{vs:List V}{ws:List W},ArgRs K F σ xs vs->za6 en xs=some ws->RepBs K F H ws vs
  |_,_,_,.nil,e=>by obtain rfl:=sI e;exact .nil
  | _,_,_,.cons h r,e=>by
    obtain⟨w,hw,e⟩:=bS e;obtain⟨ws,hws,e⟩:=bS e;obtain rfl:=sI e;exact .cons (h.repB R hw) (ArgRs.repBs R r hws)
noncomputable def OpSN (K:PySem.W.Frag) (r:List V->Hp->VK->Prop) (o:List W->Option (W × Bool)):Prop:=∀F H ws vs rv Q,Same F H->RepBs K F H ws vs->o ws=some rv->(∀u H',Out K F H rv u H'->Q u H')->r vs H Q
theorem z19 {r:List V->Hp->VK->Prop}{o:List W->Option (W × Bool)}{as:GAs}{Q:VK}(ho:OpSN K r o)(h:tE K (gOpN o as) σ H Q):tCB r (tAs K as) σ H Q:=by
 nofun;obtain⟨F,pr,en,en',rv,R,h,q⟩:=h;obtain⟨⟨e1,x1⟩,h1,h⟩:=bS h;obtain⟨w1,hw1,h⟩:=bS h;obtain⟨r',hr,h⟩:=bS h;ac_rfl;cases h;refine⟨F,pr,en,e1,x1,R,h1,λF1 H1 v1 s1 R1 a1=>?_⟩;refine ho F1 H1 w1 v1 rv Q R1.sub (a1.repBs R1 hw1) hr λv H' z=>?_;nofun;obtain⟨F3,s3,R3,y⟩:=z.close R1;ac_rfl;exact q F3 H' v (s1.trans s3) R3 y
theorem Res.isBl {F H:Hp}{pr:Prt}{en:En}{σ:St}{b fl:Bool}{v:V}(h:Res K F H pr en σ (.bl b,fl) v):v=.bl b:=by
 cases fl with
 |false=>cases (show Rep K F (.bl b) v from h);rfl
 |true=>obtain⟨_,_,_,e,_,_,_,q,_⟩:=h;subst e;cases q
theorem zlq {g:GE}{t:TE}{Q:Bool->Hp->Prop} (ht:∀σ H Q,tE K g σ H Q->t σ H Q) (h:tT K (zaj g) σ H Q):yb1 t σ H Q:=by
  obtain⟨F,pr,en,en',b,R,h,q⟩:=h;unfold zaj at h;refine ht σ H _ ?_;cases e:g en with
  |none=>simp only [e] at h;exact noSome h
  | some p =>
    obtain⟨e1,w,fl⟩:=p;cases w with
    |bl c=>simp only [e] at h;cases h;exact⟨F,pr,en,_,_,R,e,λF' H' v s' R' z=>⟨b,z.isBl,q F' H' s' R'⟩⟩
    |_=>simp only [e] at h;exact noSome h
theorem zvv {a b:GT}{Q:Bool->Hp->Prop} (h:tT K (zht a b) σ H Q):tAnd (tT K a) (tT K b) σ H Q:=by
  nofun;obtain⟨F,pr,en,en',r,R,h,q⟩:=h;ac_rfl;unfold zht at h;cases e:a en with
  |none=>simp only [e] at h;exact noSome h
  | some p =>
    obtain⟨e1,c⟩:=p;refine⟨F,pr,en,_,_,R,e,λF1 H1 s1 R1=>?_⟩;cases c with
    |true=>simp only [e] at h;exact iteT ⟨F1,pr,e1,en',r,R1,h,λF2 H2 s2 R2=>q F2 H2 (s1.trans s2) R2⟩
    |false=>simp only [e] at h;cases h;exact iteF (q F1 H1 s1 R1)
theorem zzw {a b:GT}{Q:Bool->Hp->Prop} (h:tT K (gOrT a b) σ H Q):tOr (tT K a) (tT K b) σ H Q:=by
  nofun;obtain⟨F,pr,en,en',r,R,h,q⟩:=h;ac_rfl;unfold gOrT at h;cases e:a en with
  |none=>simp only [e] at h;exact noSome h
  | some p =>
    obtain⟨e1,c⟩:=p;refine⟨F,pr,en,_,_,R,e,λF1 H1 s1 R1=>?_⟩;cases c with
    |false=>simp only [e] at h;exact iteF ⟨F1,pr,e1,en',r,R1,h,λF2 H2 s2 R2=>q F2 H2 (s1.trans s2) R2⟩
    |true=>simp only [e] at h;cases h;exact iteT (q F1 H1 s1 R1)
theorem zy4 {a:GT}{Q:Bool->Hp->Prop} (h:tT K (ztb a) σ H Q):tNot (tT K a) σ H Q:=by
  obtain⟨F,pr,en,en',r,R,h,q⟩:=h;unfold ztb at h;cases e:a en with
  |none=>simp only [e] at h;exact noSome h
  | some p =>
    obtain⟨e1,c⟩:=p;simp only [e] at h;cases h;exact⟨F,pr,en,_,_,R,e,λF1 H1 s1 R1=>q F1 H1 s1 R1⟩
theorem z72 {c:GT}{a b:GE}{Q:VK} (h:tE K (gIf c a b) σ H Q):tIf (tT K c) (tE K a) (tE K b) σ H Q:=by
  nofun;obtain⟨F,pr,en,en',r,R,h,q⟩:=h;ac_rfl;unfold gIf at h;cases e:c en with
  |none=>simp only [e] at h;exact noSome h
  | some p =>
    obtain⟨e1,d⟩:=p;refine⟨F,pr,en,_,_,R,e,λF1 H1 s1 R1=>?_⟩;cases d with
    |true=>simp only [e] at h;exact iteT ⟨F1,pr,e1,en',r,R1,h,λF2 H2 v s2 R2 z=>q F2 H2 v (s1.trans s2) R2 z⟩
    |false=>simp only [e] at h;exact iteF ⟨F1,pr,e1,en',r,R1,h,λF2 H2 v s2 R2 z=>q F2 H2 v (s1.trans s2) R2 z⟩
end
noncomputable def zbo:List (W ⊕ Nat)->Option (List W)
 |[]=>some []
 |.inl w::xs=>(zbo xs).bind λws=>some (w::ws)
 |.inr _::_=>none
theorem ArgRs.reps {K:PySem.W.Frag}{F:Hp}{σ:St}:∀{xs:List (W ⊕ Nat)}{vs:List V}{ws:List W},ArgRs K F σ xs vs->zbo xs=some ws->Reps K F ws vs
  |_,_,_,.nil,e=>by obtain rfl:=sI e;exact .nil
  | .inl w::xs,_,_,.cons h r,e=>by
    obtain⟨ws,hws,e⟩:=bS (show (zbo xs).bind _=_ from e);obtain rfl:=sI e;exact .cons h (ArgRs.reps r hws)
  |.inr i::xs,_,_,.cons h r,e=>by exact noSome e
noncomputable def zbq (as:GAs):GE:=λen=>(as en).bind λp=>(zbo p.2).bind λws=>if ws.length<=sizeLine then some (p.1,(.tup ws,false)) else none
noncomputable def zaz (as:GAs):GE:=λen=>(as en).bind λp=>(zbo p.2).bind λws=>if ws.length<=sizeLine then some (p.1,(.lst ws,true)) else none
section
variable {K:PySem.W.Frag}{σ:St}{H:Hp}
theorem z2t {as:GAs}{Q:VK}(h:tE K (zbq as) σ H Q):tTup (tAs K as) σ H Q:=by
 obtain⟨F,pr,en,en',r,R,h,q⟩:=h;obtain⟨⟨e1,xs⟩,h1,h⟩:=bS h;obtain⟨ws,h2,h⟩:=bS h;split at h
 ·rename_i hz;cases h;refine⟨F,pr,en,e1,xs,R,h1,λF1 H1 vs s1 R1 a1=>?_⟩;have rr:=a1.reps h2;refine⟨by rw[<-rr.length];exact hz,λp hp=>?_⟩;obtain⟨F2,s2,R2,z⟩:=(Out.tup (K:=K) hp rr).close R1;exact q F2 _ _ (s1.trans s2) R2 z
 ·exact noSome h
theorem z14 {as:GAs}{Q:VK}(h:tE K (zaz as) σ H Q):tLst (tAs K as) σ H Q:=by
 nofun;obtain⟨F,pr,en,en',r,R,h,q⟩:=h;obtain⟨⟨e1,xs⟩,h1,h⟩:=bS h;obtain⟨ws,h2,h⟩:=bS h;ac_rfl;split at h
 ·rename_i hz;cases h;refine⟨F,pr,en,e1,xs,R,h1,λF1 H1 vs s1 R1 a1=>?_⟩;have rr:=a1.reps h2;refine⟨by rw[<-rr.length];exact hz,λp hp=>?_⟩;nofun;obtain⟨F2,s2,R2,z⟩:=(Out.lst (K:=K) hp rr).close R1;ac_rfl;exact q F2 _ _ (s1.trans s2) R2 z
 ·exact noSome h
noncomputable def ya8 (o o' : W->W->Option (W × Bool)) (a b c:GA):GE:=λen=>(a en).bind λp=>(b p.1).bind λq=>(resA q.1 p.2).bind λw=>(resA q.1 q.2).bind λu=>match o w u with
 |some #v[9,10]=>(c q.1).bind λt=>(resA t.1 q.2).bind λu'=>(resA t.1 t.2).bind λz=>(o' u' z).bind λr=>some (t.1,r)
 |some #v[1,8]=>some (q.1,#v[1,8])
 |_=>none
end
section
variable {K:PySem.W.Frag}{F H:Hp}{v:V}
theorem RepB.int {i:Int}(h:RepB K F H (.int i) v):v=.int i:=by
 rcases h with h|⟨_,_,_,e,_,_,q⟩
 ·cases h;rfl
 ·subst e;cases q
theorem RepB.bl {b:Bool}(h:RepB K F H (.bl b) v):v=.bl b:=by
 rcases h with h|⟨_,_,_,e,_,_,q⟩
 ·cases h;rfl
 ·subst e;cases q
theorem RepB.str {x:Str}(h:RepB K F H (.str x) v):v=.str x:=by
 rcases h with h|⟨_,_,_,e,_,_,q⟩
 ·cases h;rfl
 ·subst e;cases q
theorem RepB.non (h:RepB K F H .non v):v=.non:=by
 rcases h with h|⟨_,_,_,e,_,_,q⟩
 ·cases h;rfl
 ·subst e;cases q
theorem RepB.lst {ws:List W}(s:Same F H)(h:RepB K F H (.lst ws) v):∃a vs,v=.ref a/\H a=some (.lst vs)/\Reps K F ws vs:=by
 rcases h with h|⟨a,o,ws',e,e2,h,r⟩
 ·cases h with
  |lst h r=>exact⟨_,_,rfl,s _ _ h,r⟩
 ·subst e;obtain⟨vs,rfl,r'⟩:=r.list;exact⟨a,vs,e2,h,r'⟩
theorem RepB.tup {ws:List W}(s:Same F H)(h:RepB K F H (.tup ws) v):∃a vs,v=.ref a/\H a=some (.tup vs)/\F a=some (.tup vs)/\Reps K F ws vs:=by
 rcases h with h|⟨_,_,_,e,_,_,q⟩
 ·cases h with
  |tup h r=>exact⟨_,_,rfl,s _ _ h,h,r⟩
 ·subst e;cases q
theorem RepB.frl {ws:List W}(s:Same F H)(h:RepB K F H (.frl ws) v):∃a vs,v=.ref a/\SqL K H a vs/\Reps K F ws vs:=by
 rcases h with h|⟨_,_,_,e,_,_,q⟩
 ·cases h with
  |frl h r=>exact⟨_,_,rfl,s.seq h,r⟩
 ·subst e;cases q
noncomputable def seqL:W->Option (List W)
 |.lst ws=>some ws
 |.frl ws=>some ws
 |_=>none
noncomputable def seqW:W->Option (List W)
 |.lst ws=>some ws
 |.frl ws=>some ws
 |.tup ws=>some ws
 |_=>none
theorem RepB.seqL {w:W}{ws:List W}(s:Same F H)(h:RepB K F H w v)(e:L2.seqL w=some ws):∃a vs,v=.ref a/\SqL K H a vs/\Reps K F ws vs:=by
 cases w with
 |lst xs=>obtain rfl:=sI e;obtain⟨a,vs,e,h,r⟩:=h.lst s;exact⟨a,vs,e,SqL.of' h,r⟩
 |frl xs=>obtain rfl:=sI e;exact h.frl s
 |_=>exact noSome e
theorem RepB.seqW {w:W}{ws:List W}(s:Same F H)(h:RepB K F H w v)(e:L2.seqW w=some ws):∃a vs,v=.ref a/\(SqL K H a vs\/SqT K H a vs)/\Reps K F ws vs:=by
 cases w with
 |lst xs=>obtain rfl:=sI e;obtain⟨a,vs,e,h,r⟩:=h.lst s;exact⟨a,vs,e,.inl (SqL.of' h),r⟩
 |frl xs=>obtain rfl:=sI e;obtain⟨a,vs,e,h,r⟩:=h.frl s;exact⟨a,vs,e,.inl h,r⟩
 |tup xs=>obtain rfl:=sI e;obtain⟨a,vs,e,h,_,r⟩:=h.tup s;exact⟨a,vs,e,.inr (.inl (.inl h)),r⟩
 |_=>exact noSome e
end
noncomputable abbrev O2:=W->W->Option (W × Bool)
noncomputable def oI (c:Int->Int->Bool) (g:Int->Int->W):O2
 |.int i,.int j=>if c i j then #v[g i j,6] else none
 |_,_=>none
section
variable {K:PySem.W.Frag}
theorem zl0 {c:Int->Int->Bool}{C:Int->Int->Prop}{g:Int->Int->W}{g' : Int->Int->V} (hc:∀i j,c i j=true->C i j) (hg:∀F i j,Rep K F (g i j) (g' i j)):OpS K (rI C g') (oI c g):=fun F H w1 w2 v1 v2 rv Q s r1 r2 e q=>by
  cases w1 with
  | int i =>
    cases w2 with
    | int j =>
      unfold oI at e;simp only at e;split at e
      · rename_i z
        obtain rfl:=sI e;exact⟨i,j,r1.int,r2.int,hc i j z,q _ _ (.val (hg F i j))⟩
      · exact noSome e
    |_=>exact noSome e
  |_=>exact noSome e
theorem zbv {g:Int->Int->W}{g' : Int->Int->V} (hg:∀F i j,Rep K F (g i j) (g' i j)):OpS K (rI0 g') (oI (fun _ _=>true) g):=fun F H w1 w2 v1 v2 rv Q s r1 r2 e q=>by
  cases w1 with
  | int i =>
    cases w2 with
    |int j=>obtain rfl:=sI e;exact⟨i,j,r1.int,r2.int,q _ _ (.val (hg F i j))⟩
    |_=>exact noSome e
  |_=>exact noSome e
theorem OpS.or {r r' : R2}{o o' : O2}(h:OpS K r o)(h' : OpS K r' o'):OpS K (λx y H Q=>r x y H Q\/r' x y H Q) (λa b=>match o a b with|some p=>some p|none=>o' a b):=λF H w1 w2 v1 v2 rv Q s r1 r2 e q=>by
 cases z:o w1 w2 with
 |some p=>simp only [z] at e;obtain rfl:=sI e;exact .inl (h F H w1 w2 v1 v2 _ Q s r1 r2 z q)
 |none=>simp only [z] at e;exact .inr (h' F H w1 w2 v1 v2 _ Q s r1 r2 e q)
end
noncomputable def oOr (o o' : O2):O2:=λa b=>match o a b with|some p=>some p|none=>o' a b
noncomputable def oCat:O2
 |.lst xs,.lst ys=>if xs.length+ys.length<=sizeLine then #v[(xs++ys),2] else none
 |_,_=>none
noncomputable def z2e:O2
 |.tup (x::xs),.tup ys=>if (x::xs).length+ys.length<=sizeLine then #v[(x::xs++ys),3] else none
 |_,_=>none
noncomputable def z4o:O2
 |.tup [],.tup ys=>#v[ys,3]
 |_,_=>none
noncomputable def z0o:O2
 |.str x,.str y=>if x.length+y.length<=sizeLine then some (.str (x++y),false) else none
 |_,_=>none
noncomputable def oRep:O2
 |.lst xs,.int k=>if -(2 ^ 63)<=k/\k<2 ^ 63/\xs.length * k.toNat<=sizeLine then #v[(List.replicate k.toNat xs).flatten,2] else none
 |_,_=>none
section
variable {K:PySem.W.Frag}
theorem z5t:OpS K rCat oCat:=fun F H w1 w2 v1 v2 rv Q s r1 r2 e q=>by
  cases w1 with
  | lst xs =>
    cases w2 with
    | lst ys =>
      unfold oCat at e;simp only at e;split at e
      · rename_i z
        obtain rfl:=sI e;nofun;obtain⟨a,vs,e1,h1,p1⟩:=r1.lst s;obtain⟨b,us,e2,h2,p2⟩:=r2.lst s;ac_rfl;exact⟨a,b,vs,us,e1,e2,h1,h2,by rw[<-p1.length,<-p2.length];exact z,λp hp=>q _ _ (.lst hp (p1.append p2))⟩
      · exact noSome e
    |_=>exact noSome e
  |_=>exact noSome e
theorem z7y:OpS K rRep oRep:=fun F H w1 w2 v1 v2 rv Q s r1 r2 e q=>by
  cases w1 with
  | lst xs =>
    cases w2 with
    | int k =>
      unfold oRep at e;simp only at e;split at e
      · rename_i z
        obtain rfl:=sI e;obtain⟨a,vs,e1,h1,p1⟩:=r1.lst s;exact⟨a,k,vs,e1,r2.int,h1,z.1,z.2.1,by rw[<-p1.length];exact z.2.2,λp hp=>q _ _ (.lst hp (p1.rep _))⟩
      · exact noSome e
    |_=>exact noSome e
  |_=>exact noSome e
theorem z24:OpS K (z9k K) z2e:=fun F H w1 w2 v1 v2 rv Q s r1 r2 e q=>by
  cases w1 with
  | tup xs =>
    cases xs with
    |nil=>cases w2<;>exact noSome e
    | cons x xs =>
      cases w2 with
      | tup ys =>
        unfold z2e at e;simp only at e;split at e
        · rename_i z
          obtain rfl:=sI e;nofun;obtain⟨a,vs,e1,h1,f1,p1⟩:=r1.tup s;obtain⟨b,us,e2,h2,f2,p2⟩:=r2.tup s;ac_rfl;refine⟨a,b,vs,us,e1,e2,.inl (.inl h1),.inl (.inl h2),?_,by rw[<-p1.length,<-p2.length];exact z,λhu=>?_,λ_ p hp=>q _ _ (.tup hp (p1.append p2))⟩
          · intro e;subst e;cases p1
          · subst hu
            cases p2;rw[By] at q;exact q _ _ (.val (.tup f1 p1))
        · exact noSome e
      |_=>exact noSome e
  |_=>exact noSome e
mutual
inductive DV (H:Hp):V->PyData->Prop where
 |non:DV H .non .none
 |bl (b:Bool):DV H (.bl b) (.bool b)
 |int (i:Int):DV H (.int i) (.int i)
 |str (x:Str):DV H (.str x) (.str x)
 |tup {a:Addr}{vs:List V}{ds:List PyData} (h:H a=some (.tup vs)) (r:DVs H vs ds):DV H (.ref a) (.tuple ds)
 |lst {a:Addr}{vs:List V}{ds:List PyData} (h:H a=some (.lst vs)) (r:DVs H vs ds):DV H (.ref a) (.list ds)
inductive DVs (H:Hp):List V->List PyData->Prop where
 |nil:DVs H [] []
 |cons {v:V}{d:PyData}{vs:List V}{ds:List PyData} (h:DV H v d) (r:DVs H vs ds):DVs H (v::vs) (d::ds)
end
section
variable {X:Cx}{pins:List (Addr × Obj)}{σ:St}{H:Hp}{s:Shared}
mutual
theorem DV.reads (I:Inv X pins σ H s):∀{v:V}{d:PyData}{u:Value},DV H v d->RelV v u->∃as,Reads s.heap u d as
  |_,_,_,.non,r=>by cases (show _=Value.none from r);exact⟨_,.none⟩
  |_,_,_,.bl b,r=>by cases (show _=Value.bool b from r);exact⟨_,.bool b⟩
  |_,_,_,.int i,r=>by obtain⟨t,e⟩:=(show ∃t,_=Value.int i t from r);subst e;exact⟨_,.int i t⟩
  |_,_,_,.str x,r=>by obtain⟨t,e⟩:=(show ∃t,_=Value.str x t from r);subst e;exact⟨_,.str x t⟩
  | _,_,_,.tup h q,r=>by
    cases r;obtain⟨its,rv,⟨o,e,c,n,dt⟩,_⟩:=I.tuple (.inl (.inl h));obtain⟨as,ra⟩:=DVs.reads I q rv;exact⟨as,.tuple e c dt (by simpa using ra)⟩
  | _,_,_,.lst h q,r=>by
    cases r;obtain⟨its,rv,⟨o,n,e,c,_,dt⟩,_⟩:=I.list (SqL.of' h);obtain⟨as,ra⟩:=DVs.reads I q rv;exact⟨_,.list e c dt (by simpa using ra)⟩
theorem DVs.reads (I:Inv X pins σ H s):∀{vs:List V}{ds:List PyData}{us:List Value},DVs H vs ds->Vals vs us->∃as,ReadsAll s.heap us ds as
  |_,_,_,.nil,r=>by cases r;exact⟨_,.nil⟩
  | _,_,_,.cons h q,r=>by
    cases r with
    | cons r1 r2 =>
      obtain⟨as,a⟩:=DV.reads I h r1;obtain⟨bs,b⟩:=DVs.reads I q r2;exact⟨_,.cons a b⟩
end
end
mutual
noncomputable def dW:W->Option PyData
 |.non=>some .none
 |.bl b=>some (.bool b)
 |.int i=>some (.int i)
 |.str x=>some (.str x)
 |.tup ws=>(dWs ws).bind λds=>some (.tuple ds)
 |.lst ws=>(dWs ws).bind λds=>some (.list ds)
 |_=>none
noncomputable def dWs:List W->Option (List PyData)
 |[]=>some []
 |w::ws=>(dW w).bind λd=>(dWs ws).bind λds=>some (d::ds)
end
section
variable {K:PySem.W.Frag}{F H:Hp}
mutual
theorem z3s (s:Same F H):∀{w:W}{v:V}{d:PyData},Rep K F w v->dW w=some d->DV H v d
  |_,_,_,.non,e=>by obtain rfl:=sI e;exact .non
  |_,_,_,.bl b,e=>by obtain rfl:=sI e;exact .bl b
  |_,_,_,.int i,e=>by obtain rfl:=sI e;exact .int i
  |_,_,_,.str x,e=>by obtain rfl:=sI e;exact .str x
  | _,_,_,.tup h r,e=>by
    rw[dW] at e;obtain⟨ds,e1,e2⟩:=bS e;obtain rfl:=sI e2;exact .tup (s _ _ h) (ziy s r e1)
  | _,_,_,.lst h r,e=>by
    rw[dW] at e;obtain⟨ds,e1,e2⟩:=bS e;obtain rfl:=sI e2;exact .lst (s _ _ h) (ziy s r e1)
  |_,_,_,.frl _ _,e=>by exact noSome e
  |_,_,_,.dic _,e=>by exact noSome e
  |_,_,_,.dct _ _ _,e=>by exact noSome e
  |_,_,_,.dctT _ _ _,e=>by exact noSome e
  |_,_,_,.dcz _ _ _,e=>by exact noSome e
  |_,_,_,.dczT _ _ _,e=>by exact noSome e
theorem ziy (s:Same F H):∀{ws:List W}{vs:List V}{ds:List PyData},Reps K F ws vs->dWs ws=some ds->DVs H vs ds
  |_,_,_,.nil,e=>by cases e;exact .nil
  | _,_,_,.cons h r,e=>by
    rw[dWs] at e;obtain⟨d,e1,e⟩:=bS e;obtain⟨ds,e2,e3⟩:=bS e;cases e3;exact .cons (z3s s h e1) (ziy s r e2)
end
theorem zx9 {w:W}{v:V}{d:PyData} (s:Same F H) (r:RepB K F H w v) (hd:dW w=some d):DV H v d:=by
  rcases r with r|⟨a,o,us,z,rfl,h,q⟩
  · exact z3s s r hd
  · subst z
    cases q with
    |dct hl q=>exact noSome hd
    |dctT hl q=>exact noSome hd
    | lst q =>
      rw[dW] at hd;obtain⟨ds,e1,e2⟩:=bS hd;obtain rfl:=sI e2;exact .lst h (ziy s q e1)
end
noncomputable def rEqD (g:Bool->Bool):R2:=λx y H Q=>∃d d',DV H x d/\DV H y d'/\d.canLay0=true/\d'.canLay0=true/\d.depth<=100/\Q (.bl (g (PyData.eqv d d'))) H
theorem yaa {X:Cx}{k:Nat}(hr:Room k X.A):OpR X (compareOp .Eq) (rEqD id):=by
 intro pins s σ H x y v u Q I rx ry h;nofun;obtain⟨d,d',d1,d2,h1,h2,h3,q⟩:=h;obtain⟨as,ra⟩:=d1.reads I rx;obtain⟨bs,rb⟩:=d2.reads I ry;ac_rfl;exact SeqAt.compareEq_reads ra rb h1 h2 (by have:=hr.un;omega) ⟨.bl _,H,I,rfl,q⟩
theorem z9s {X:Cx}{k:Nat}(hr:Room k X.A):OpR X (compareOp .NotEq) (rEqD not):=by
 intro pins s σ H x y v u Q I rx ry h;nofun;obtain⟨d,d',d1,d2,h1,h2,h3,q⟩:=h;obtain⟨as,ra⟩:=d1.reads I rx;obtain⟨bs,rb⟩:=d2.reads I ry;ac_rfl;exact SeqAt.neOverData X.prog X.w X.A X.xe s v u d d' as bs _ ra rb h1 h2 (by have:=hr.un;omega) ⟨.bl _,H,I,rfl,q⟩
noncomputable def eqD (a b:W):Option Bool:=(dW a).bind λd=>(dW b).bind λd'=>if d.canLay0 && d'.canLay0 && decide (d.depth<=100) then some (PyData.eqv d d') else none
theorem z38 {K:PySem.W.Frag}{F H:Hp}{w1 w2:W}{v1 v2:V}{k:Bool}(s:Same F H)(r1:RepB K F H w1 v1)(r2:RepB K F H w2 v2)(e:eqD w1 w2=some k):∃d d',DV H v1 d/\DV H v2 d'/\d.canLay0=true/\d'.canLay0=true/\d.depth<=100/\k=PyData.eqv d d':=by
 nofun;obtain⟨d,h1,e⟩:=bS e;obtain⟨d',h2,e⟩:=bS e;ac_rfl;split at e
 ·rename_i z;rw[Ad,Ad] at z;obtain rfl:=sI e;exact⟨d,d',zx9 s r1 h1,zx9 s r2 h2,z.1.1,z.1.2,Au z.2,rfl⟩
 ·exact noSome e
noncomputable def z44:W->W->Option Bool
 |.non,.non=>some true|.non,.int _=>some false|.int _,.non=>some false|.non,.bl _=>some false|.bl _,.non=>some false|.non,.str _=>some false|.str _,.non=>some false
 |.int i,.int j=>some (decide (i=j))|.bl i,.bl j=>some (decide (i=j))|.str i,.str j=>some (decide (i=j))
 |.int _,.str _=>some false|.str _,.int _=>some false|.bl _,.str _=>some false|.str _,.bl _=>some false
 |_,_=>none
noncomputable def oEq:O2:=λa b=>match z44 a b with
 |some k=>some (.bl k,false)
 |none=>(eqD a b).bind λk=>some (.bl k,false)
noncomputable def oNe:O2:=λa b=>match z44 a b with
 |some k=>some (.bl (!k),false)
 |none=>(eqD a b).bind λk=>some (.bl (!k),false)
theorem zqz {F H:Hp}{w1 w2:W}{v1 v2:V}{k:Bool} (r1:RepB K F H w1 v1) (r2:RepB K F H w2 v2) (e:z44 w1 w2=some k):scal v1 v2=true/\decide (v1=v2)=k:=by
  cases w1 with
  | non =>
    have:=r1.non;subst this;cases w2 with
    |non=>have:=r2.non;subst this;obtain rfl:=sI e;exact⟨rfl,by decide⟩
    |int j=>have:=r2.int;subst this;obtain rfl:=sI e;exact⟨rfl,by simp⟩
    |bl j=>have:=r2.bl;subst this;obtain rfl:=sI e;exact⟨rfl,by simp⟩
    |str j=>have:=r2.str;subst this;obtain rfl:=sI e;exact⟨rfl,by simp⟩
    |_=>exact noSome e
  | int i =>
    have:=r1.int;subst this;cases w2 with
    |non=>have:=r2.non;subst this;obtain rfl:=sI e;exact⟨rfl,by simp⟩
    |int j=>have:=r2.int;subst this;obtain rfl:=sI e;exact⟨rfl,by simp⟩
    |str j=>have:=r2.str;subst this;obtain rfl:=sI e;exact⟨rfl,by simp⟩
    |_=>exact noSome e
  | bl i =>
    have:=r1.bl;subst this;cases w2 with
    |non=>have:=r2.non;subst this;obtain rfl:=sI e;exact⟨rfl,by simp⟩
    |bl j=>have:=r2.bl;subst this;obtain rfl:=sI e;exact⟨rfl,by simp⟩
    |str j=>have:=r2.str;subst this;obtain rfl:=sI e;exact⟨rfl,by simp⟩
    |_=>exact noSome e
  | str i =>
    have:=r1.str;subst this;cases w2 with
    |non=>have:=r2.non;subst this;obtain rfl:=sI e;exact⟨rfl,by simp⟩
    |int j=>have:=r2.int;subst this;obtain rfl:=sI e;exact⟨rfl,by simp⟩
    |bl j=>have:=r2.bl;subst this;obtain rfl:=sI e;exact⟨rfl,by simp⟩
    |str j=>have:=r2.str;subst this;obtain rfl:=sI e;exact⟨rfl,by simp⟩
    |_=>exact noSome e
  |_=>cases w2<;>exact noSome e
theorem yb6:OpS K (λx y H Q=>rEq x y H Q\/rEqD id x y H Q) oEq:=λF H w1 w2 v1 v2 rv Q s r1 r2 e q=>by
 unfold oEq at e;split at e
 ·rename_i k hk;obtain rfl:=sI e;obtain⟨h1,h2⟩:=zqz r1 r2 hk;refine .inl ⟨h1,?_⟩;rw[h2];exact q _ _ (.val (.bl k))
 ·obtain⟨k,hk,e⟩:=bS e;obtain rfl:=sI e;nofun;obtain⟨d,d',d1,d2,h1,h2,h3,rfl⟩:=z38 s r1 r2 hk;ac_rfl;exact .inr ⟨d,d',d1,d2,h1,h2,h3,q _ _ (.val (.bl _))⟩
theorem yas:OpS K (λx y H Q=>rNe x y H Q\/rEqD not x y H Q) oNe:=λF H w1 w2 v1 v2 rv Q s r1 r2 e q=>by
 unfold oNe at e;split at e
 ·rename_i k hk;obtain rfl:=sI e;obtain⟨h1,h2⟩:=zqz r1 r2 hk;refine .inl ⟨h1,?_⟩;rw[h2];exact q _ _ (.val (.bl _))
 ·obtain⟨k,hk,e⟩:=bS e;obtain rfl:=sI e;nofun;obtain⟨d,d',d1,d2,h1,h2,h3,rfl⟩:=z38 s r1 r2 hk;ac_rfl;exact .inr ⟨d,d',d1,d2,h1,h2,h3,q _ _ (.val (.bl _))⟩
noncomputable def isW:W->W->Option Bool
 |.non,.non=>some true
 |_,.non=>some false
 |.bl a,.bl b=>some (decide (a=b))
 |_,.bl _=>some false
 |_,_=>none
noncomputable def rIs:R2:=λx y H Q=>(y=.non/\Q (.bl (decide (x=.non))) H)\/(∃b,y=.bl b/\Q (.bl (decide (x=.bl b))) H)
noncomputable def ya9:R2:=λx y H Q=>(y=.non/\Q (.bl (!decide (x=.non))) H)\/(∃b,y=.bl b/\Q (.bl (!decide (x=.bl b))) H)
noncomputable def oIs:O2:=λa b=>(isW a b).bind λk=>some (.bl k,false)
noncomputable def zgw:O2:=λa b=>(isW a b).bind λk=>some (.bl (!k),false)
theorem RepB.noBl {F H:Hp}{w:W}{v:V}(r:RepB K F H w v)(h:∀b,w≠.bl b)(b:Bool):v≠.bl b:=λe=>by
 subst e;rcases r with r|⟨_,_,_,_,e,_⟩
 ·cases r;exact h b rfl
 ·cases e
theorem RepB.noNon {F H:Hp}{w:W}{v:V}(r:RepB K F H w v)(h:w≠.non):v≠.non:=λe=>by
 subst e;rcases r with r|⟨_,_,_,_,e,_⟩
 ·cases r;exact h rfl
 ·cases e
theorem z35 {F H:Hp}{w1 w2:W}{v1 v2:V}{k:Bool} (r1:RepB K F H w1 v1) (r2:RepB K F H w2 v2) (e:isW w1 w2=some k):(v2=.non/\decide (v1=.non)=k)\/(∃b,v2=.bl b/\decide (v1=.bl b)=k):=by
  cases w2 with
  | non =>
    refine .inl ⟨r2.non,?_⟩;cases w1 with
    |non=>obtain rfl:=sI e;rw[r1.non];rfl
    |_=>obtain rfl:=sI e;exact Ay (r1.noNon (by simp))
  | bl b =>
    refine .inr ⟨b,r2.bl,?_⟩;cases w1 with
    |bl a=>obtain rfl:=sI e;rw[r1.bl];simp
    |_=>obtain rfl:=sI e;exact Ay (r1.noBl (by simp) b)
  |_=>cases w1<;>exact noSome e
theorem z87:OpS K rIs oIs:=λF H w1 w2 v1 v2 rv Q s r1 r2 e q=>by
 obtain⟨k,hk,e⟩:=bS e;obtain rfl:=sI e;rcases z35 r1 r2 hk with⟨h1,h2⟩|⟨b,h1,h2⟩
 ·exact .inl ⟨h1,by rw[h2];exact q _ _ (.val (.bl k))⟩
 ·exact .inr ⟨b,h1,by rw[h2];exact q _ _ (.val (.bl k))⟩
theorem zwn:OpS K ya9 zgw:=λF H w1 w2 v1 v2 rv Q s r1 r2 e q=>by
 obtain⟨k,hk,e⟩:=bS e;obtain rfl:=sI e;rcases z35 r1 r2 hk with⟨h1,h2⟩|⟨b,h1,h2⟩
 ·exact .inl ⟨h1,by rw[h2];exact q _ _ (.val (.bl _))⟩
 ·exact .inr ⟨b,h1,by rw[h2];exact q _ _ (.val (.bl _))⟩
noncomputable def oIx:O2
 |a,.int i=>(seqW a).bind λws=>(atI ws i).bind λw=>#v[w,6]
 |_,_=>none
theorem z1s {F:Hp}{ws:List W}{vs:List V}{i:Int}{w:W}(r:Reps K F ws vs)(h:atI ws i=some w):∃v,atI vs i=some v/\Rep K F w v:=by
 unfold atI at h ⊢;rw[<-r.length];obtain⟨j,h1,h2⟩:=bS h;obtain⟨v,h3,h4⟩:=r.get h2;exact⟨v,by rw[h1];exact h3,h4⟩
noncomputable def rIxB (K:PySem.W.Frag):R2:=λx y H Q=>rIxL K x y H Q\/rIxT K x y H Q
theorem yao:OpS K (rIxB K) oIx:=fun F H w1 w2 v1 v2 rv Q s r1 r2 e q=>by
  cases w2 with
  | int i =>
    obtain⟨ws,hs,e⟩:=bS (show (seqW w1).bind _=_ from e);obtain⟨w,hw,e⟩:=bS e;obtain rfl:=sI e;obtain⟨a,vs,e1,hq,p⟩:=r1.seqW s hs;obtain⟨v,hv,rv⟩:=z1s p hw;rcases hq with hq|hq
    · exact .inl ⟨a,vs,i,v,e1,r2.int,hq,hv,q _ _ (.val rv)⟩
    · exact .inr ⟨a,vs,i,v,e1,r2.int,hq,hv,q _ _ (.val rv)⟩
  |_=>cases w1<;>exact noSome e
noncomputable def oNeg:W->Option (W × Bool)
 |.int i=>#v[(-i),0]
 |_=>none
theorem z54:OpS1 K (rU λi=>.int (-i)) oNeg:=λF H w v rv Q s r e q=>by
 cases w with
 |int i=>obtain rfl:=sI e;exact⟨i,r.int,q _ _ (.val (.int _))⟩
 |_=>exact noSome e
end
section
variable {X:Cx}
theorem z47 {ns:List Int}{its:List Value}{i:Nat}{v:Value}(r:Vals (ns.map V.int) its)(h:its[i]?=some v):∃t,v=.int (ns.getD i 0) t:=by
 have hl:=r.length;rw[Ab] at hl;have hi:i<ns.length:=by rw[hl];exact (Ak.mp h).1
 obtain⟨u,hu,ru⟩:=r.get (i:=i) (x:=.int ns[i]) (by rw[Ai,Ae hi];rfl);rw[h] at hu;obtain rfl:=sI hu;obtain⟨t,e⟩:=ru;exact⟨t,by rw[e,Ez,Ae hi];rfl⟩
theorem z5l:OpR X (binaryOp .Add) (λx y H Q=>∃a b ys,x=.ref a/\y=.ref b/\SqT X.K H a []/\SqT X.K H b ys/\Q (.ref b) H):=by
 intro pins s σ H x y v u Q I rx ry h;nofun;obtain⟨a,b,ys,rfl,rfl,ha,hb,q⟩:=h;ac_rfl;cases rx;cases ry;nofun;obtain⟨its,r1,p1,_⟩:=I.tuple ha;obtain⟨its2,r2,p2,_⟩:=I.tuple hb;obtain⟨⟨c1,d1,t1,l1⟩,g1,k1,n1,q1⟩:=id p1;obtain⟨⟨c2,d2,t2,l2⟩,g2,k2,n2,q2⟩:=id p2;ac_rfl;simp only at k1 q1 k2 q2;subst k1 q1 k2 q2;have e0:its=[]:=by cases r1;rfl
 subst e0;exact concat_meets (T := "tuple") ⟨_,g1,rfl⟩ ⟨_,g2,rfl⟩ noFill_tuple_add seq_tuple_add PySem.F.slot_tuple_add PySem.F.entry_tuple_add (Hh _ _)
  (tuple_addW0 a b _ _ n1 n2 d1 d2 l1 l2 rfl) ⟨g1,g2,⟨.ref b,H,I.tok _,rfl,q⟩⟩
theorem z1y:OpR X (binaryOp .FloorDiv) (rI (λ_ j=>0<j/\j.natAbs.log2<9000) λi j=>.int (i / j)):=opI λi j _ _ _ _ _ hc q=>by
 have h1:(0:Int)<j:=hc.1;exact floordiv_int #v[] (by rw[Int.fdiv_eq_ediv_of_nonneg i #v[]];exact q) (.inl (PyProof.noPylong_of_log2 hc.2))
end
section
variable {K:PySem.W.Frag}
noncomputable def yec (K:PySem.W.Frag):R2:=λx y H Q=>∃a b ys,x=.ref a/\y=.ref b/\SqT K H a []/\SqT K H b ys/\Q (.ref b) H
theorem zz2:OpS K (yec K) z4o:=fun F H w1 w2 v1 v2 rv Q s r1 r2 e q=>by
  cases w1 with
  | tup xs =>
    cases xs with
    |cons _ _=>cases w2<;>exact noSome e
    | nil =>
      cases w2 with
      | tup ys =>
        obtain rfl:=sI e;nofun;obtain⟨a,vs,e1,h1,f1,p1⟩:=r1.tup s;obtain⟨b,us,e2,h2,f2,p2⟩:=r2.tup s;ac_rfl;cases p1;subst e2;exact⟨a,b,us,e1,rfl,.inl (.inl h1),.inl (.inl h2),q _ _ (.val (.tup f2 p2))⟩
      |_=>exact noSome e
  |_=>exact noSome e
noncomputable def ydq:R2:=λx y H Q=>∃i j,x=.str i/\y=.str j/\i.length+j.length<=sizeLine/\Q (.str (i++j)) H
theorem zz7:OpS K ydq z0o:=fun F H w1 w2 v1 v2 rv Q s r1 r2 e q=>by
  cases w1 with
  | str x =>
    cases w2 with
    | str y =>
      unfold z0o at e;simp only at e;split at e
      · rename_i z;obtain rfl:=sI e;exact⟨x,y,r1.str,r2.str,z,q _ _ (.val (.str _))⟩
      · exact noSome e
    |_=>exact noSome e
  |_=>exact noSome e
noncomputable abbrev ON:=List W->Option (W × Bool)
noncomputable def oLen:ON
 |[w]=>(seqW w).bind λws=>#v[ws.length,0]
 |_=>none
theorem z8k:OpSN K (fun xs H Q=>∃p ys,xs=[.ref p]/\(SqL K H p ys\/SqT K H p ys)/\Q (.int ys.length) H) oLen:=fun F H ws vs rv Q s r e q=>by
  cases r with
  |nil=>exact noSome e
  | cons h r =>
    cases r with
    |cons _ _=>exact noSome e
    | nil =>
      obtain⟨ws,hs,e⟩:=bS (show (seqW _).bind _=_ from e);obtain rfl:=sI e;obtain⟨a,vs,e1,hq,p⟩:=h.seqW s hs;subst e1;exact⟨a,vs,rfl,hq,by rw[<-p.length];exact q _ _ (.val (.int _))⟩
noncomputable def oAbs:ON
 |[.int i]=>#v[(if i<0 then -i else i),0]
 |_=>none
theorem RepBs.one {F H:Hp}{w:W}{vs:List V}(r:RepBs K F H [w] vs):∃v,vs=[v]/\RepB K F H w v:=by
 cases r with
 |cons h r=>cases r;exact⟨_,rfl,h⟩
theorem RepBs.two {F H:Hp}{w u:W}{vs:List V}(r:RepBs K F H [w,u] vs):∃v z,vs=[v,z]/\RepB K F H w v/\RepB K F H u z:=by
 cases r with
 |cons h r=>obtain⟨z,e,h2⟩:=r.one;subst e;exact⟨_,z,rfl,h,h2⟩
theorem z5c:OpSN K (fun xs H Q=>∃i,xs=[.int i]/\Q (.int (if i < 0 then -i else i)) H) oAbs:=fun F H ws vs rv Q s r e q=>by
  match ws,e with
  | [.int i],e =>
    obtain rfl:=sI e;obtain⟨v,e1,h⟩:=r.one;subst e1;exact⟨i,by rw[h.int],q _ _ (.val (.int _))⟩
noncomputable def oInt:ON
 |[.int i]=>#v[i,0]
 |[.bl k]=>#v[(if k then 1 else 0),0]
 |_=>none
theorem z42:OpSN K (fun xs H Q=>(∃i,xs=[.int i]/\Q (.int i) H)\/∃k,xs=[.bl k]/\Q (.int (if k then 1 else 0)) H) oInt:=fun F H ws vs rv Q s r e q=>by
  match ws,e with
  | [.int i],e =>
    obtain rfl:=sI e;obtain⟨v,e1,h⟩:=r.one;subst e1;exact .inl ⟨i,by rw[h.int],q _ _ (.val (.int _))⟩
  | [.bl k],e =>
    obtain rfl:=sI e;obtain⟨v,e1,h⟩:=r.one;subst e1;exact .inr ⟨k,by rw[h.bl],q _ _ (.val (.int _))⟩
noncomputable def yc8:ON
 |[w]=>(seqW w).bind λws=>#v[ws,2]
 |_=>none
noncomputable def zbc:ON
 |[.tup ws]=>#v[ws,3]
 |[w]=>(seqL w).bind λws=>#v[ws,3]
 |_=>none
theorem zud:OpSN K (fun xs H Q=>∃p ys,xs=[.ref p]/\((SqL K H p ys/\∀l,H l=none->Q (.ref l) (upd H l (.tup ys)))\/(SqT K H p ys/\Q (.ref p) H))) zbc:=fun F H ws vs rv Q s r e q=>by
  match ws,e with
  | [.tup ws],e =>
    obtain rfl:=sI e;nofun;obtain⟨v,e1,h⟩:=r.one;obtain⟨a,us,e2,hq,f,p⟩:=h.tup s;ac_rfl;subst e1 e2;exact⟨a,us,rfl,.inr ⟨.inl (.inl hq),q _ _ (.val (.tup f p))⟩⟩
  | [.lst ws],e =>
    obtain rfl:=sI e;nofun;obtain⟨v,e1,h⟩:=r.one;obtain⟨a,us,e2,hq,p⟩:=h.lst s;ac_rfl;subst e1 e2;exact⟨a,us,rfl,.inl ⟨SqL.of' hq,λl hl=>q _ _ (.tup hl p)⟩⟩
  | [.frl ws],e =>
    obtain rfl:=sI e;nofun;obtain⟨v,e1,h⟩:=r.one;obtain⟨a,us,e2,hq,p⟩:=h.frl s;ac_rfl;subst e1 e2;exact⟨a,us,rfl,.inl ⟨hq,λl hl=>q _ _ (.tup hl p)⟩⟩
  |[.non],e=>exact noSome e
  |[.bl _],e=>exact noSome e
  |[.int _],e=>exact noSome e
  |[.str _],e=>exact noSome e
  |[.dic],e=>exact noSome e
  |[.dct _ _],e=>exact noSome e
  |[.dcz _ _],e=>exact noSome e
noncomputable def zns:List W->Option (List Bool)
 |[]=>some []
 |.bl b::ws=>(zns ws).bind λbs=>some (b::bs)
 |_=>none
noncomputable def zga:List W->Option (List Int)
 |[]=>some []
 |.int b::ws=>(zga ws).bind λbs=>some (b::bs)
 |_=>none
theorem zrf:∀{ws:List W}{bs:List Bool},zns ws=some bs->ws=bs.map W.bl
  |[],_,e=>by obtain rfl:=sI e;rfl
  | .bl b::ws,_,e=>by
    obtain⟨bs,h,e⟩:=bS (show (zns ws).bind _=_ from e);obtain rfl:=sI e;rw[zrf h];rfl
  |.non::_,_,e=>by exact noSome e
  |.int _::_,_,e=>by exact noSome e
  |.str _::_,_,e=>by exact noSome e
  |.tup _::_,_,e=>by exact noSome e
  |.lst _::_,_,e=>by exact noSome e
  |.frl _::_,_,e=>by exact noSome e
theorem zni:∀{ws:List W}{bs:List Int},zga ws=some bs->ws=bs.map W.int
  |[],_,e=>by obtain rfl:=sI e;rfl
  | .int b::ws,_,e=>by
    obtain⟨bs,h,e⟩:=bS (show (zga ws).bind _=_ from e);obtain rfl:=sI e;rw[zni h];rfl
  |.non::_,_,e=>by exact noSome e
  |.bl _::_,_,e=>by exact noSome e
  |.str _::_,_,e=>by exact noSome e
  |.tup _::_,_,e=>by exact noSome e
  |.lst _::_,_,e=>by exact noSome e
  |.frl _::_,_,e=>by exact noSome e
theorem zh3:∀(ns:List Int),zga (ns.map W.int)=some ns
 |[]=>rfl
 |n::ns=>by show (zga (ns.map W.int)).bind _=_;rw[zh3 ns];rfl
theorem zld:∀(ns:List Bool),zns (ns.map W.bl)=some ns
 |[]=>rfl
 |n::ns=>by show (zns (ns.map W.bl)).bind _=_;rw[zld ns];rfl
noncomputable def oBl (f:List Bool->Bool):ON
 |[w]=>(seqL w).bind λws=>(zns ws).bind λbs=>some (.bl (f bs),false)
 |_=>none
theorem z3k {f:List Bool->Bool}:OpSN K (fun xs H Q=>∃(a:Addr) (bs:List Bool),xs=[.ref a]/\SqL K H a (bs.map V.bl)/\Q (.bl (f bs)) H) (oBl f):=fun F H ws vs rv Q s r e q=>by
  match ws,e with
  | [w],e =>
    nofun;obtain⟨ws,hs,e⟩:=bS (show (seqL _).bind _=_ from e);obtain⟨bs,hb,e⟩:=bS e;ac_rfl;obtain rfl:=sI e;nofun;obtain⟨v,e1,h⟩:=r.one;obtain⟨a,us,e2,hq,p⟩:=h.seqL s hs;ac_rfl;subst e1 e2;rw[zrf hb] at p;rw[p.bls] at hq;exact⟨a,bs,rfl,hq,q _ _ (.val (.bl _))⟩
noncomputable def tyW:W->Option String
 |.non=>some "NoneType"
 |.bl _=>some "bool"
 |.int _=>some "int"
 |.str _=>some "str"
 |.tup _=>some "tuple"
 |.lst _=>some "list"
 |.frl _=>none
 |.dic=>none
 |.dct _ _=>none
 |.dcz _ _=>none
inductive Kd where
 |int|bool|str|tuple|list
 deriving DecidableEq
noncomputable def isiW (k:Kd):W->Option Bool
 |.non=>some false
 |.bl _=>some (k == .bool || k == .int)
 |.int _=>some (k == .int)
 |.str _=>some (k == .str)
 |.tup _=>some (k == .tuple)
 |.lst _=>some (k == .list)
 |.frl _=>none
 |.dic=>some false
 |.dct _ _=>some false
 |.dcz _ _=>none
noncomputable def oIsi (k:Kd) (w:W):Option (W × Bool):=(isiW k w).bind λb=>some (.bl b,false)
noncomputable abbrev GO:=En->Option (En × Option Int)
noncomputable def zb5:GO:=λen=>some (en,none)
noncomputable def zg6 (g:GE):GO:=λen=>match g en with
 |some (en',(.int i,_))=>some (en',some i)
 |_=>none
noncomputable def tO (K:PySem.W.Frag) (g:GO):TO:=λσ H Q=>∃F pr en en' o,Rel K F pr en σ H/\g en=some (en',o)/\∀F' H',Same F F'->Rel K F' pr en' σ H'->Q o H'
theorem Res.isInt {F H:Hp}{pr:Prt}{en:En}{σ:St}{i:Int}{fl:Bool}{v:V}(h:Res K F H pr en σ (.int i,fl) v):v=.int i:=by
 cases fl with
 |false=>cases (show Rep K F (.int i) v from h);rfl
 |true=>obtain⟨_,_,_,e,_,_,_,q,_⟩:=h;subst e;cases q
theorem zov {σ:St}{H:Hp}{Q:Option Int->Hp->Prop}(h:tO K zb5 σ H Q):zx6 σ H Q:=by
 obtain⟨F,pr,en,en',o,R,h,q⟩:=h;cases h;exact q F H (.refl F) R
theorem zxd {g:GE}{σ:St}{H:Hp}{Q:Option Int->Hp->Prop} (h:tO K (zg6 g) σ H Q):ya5 (tE K g) σ H Q:=by
  nofun;obtain⟨F,pr,en,en',o,R,h,q⟩:=h;ac_rfl;unfold zg6 at h;cases e:g en with
  |none=>simp only [e] at h;exact noSome h
  | some p =>
    obtain⟨e1,w,fl⟩:=p;cases w with
    |int c=>simp only [e] at h;cases h;exact⟨F,pr,en,_,_,R,e,λF' H' v s' R' z=>⟨c,z.isInt,q F' H' s' R'⟩⟩
    |_=>simp only [e] at h;exact noSome h
open HT in
theorem zss {prog:Program}{w:World}{A:Around}{E:Value->Shared->Prop}{s:Shared}{t sl:Addr}{items:Array Value}{vl vu:Value}{lo hi:Option Int}{Q:Value->Shared->Prop} (ht:IsTup s.heap t items) (hs:s.heap.IsSliceOf sl vl vu .none) (pl:IsPart vl lo) (pu:IsPart vu hi)
  (h0:sIx items.size 0 lo=0) (h1:sIx items.size items.size hi=items.size) (h:Q (.ref t) s):wpAny (model prog w) A (getItem (.ref t) (.ref sl)) Q E s:=by
 obtain⟨os,g1,g2,_⟩:=id hs;have ty:s.TypeIs (.ref sl) "slice" := ⟨os,g1,g2⟩;unfold getItem
 try with_reducible refine Cr ?_
 first|refine Aa (Af ?_)|skip
 refine Aa (wpAny_sequenceKey ht.typeIs #v[0,9] ?_);refine Aa (Bz (name:=Str.ofString "__getitem__") ht.typeIs Dv (Cw Dv ht.typeIs entry_tuple_getitem ?_ (args_tuple_getitem _ _)));show wpAny _ _ (Builtin.Tuple.tupleItemsOf (.ref t) >>= _) _ _ s;refine Aa (tupleItemsOf_ ht ?_);refine Aa (wpAny_typeOf ty ?_);rw[if_pos #v[0,9]];refine Aa (zc0 hs pl pu ?_);rw[h0,h1];show wpAny _ _ (if ((((0:Nat):Int) == 0 && (1:Int) == 1 && (items.size - 0) == items.size)=true) then _ else _) _ _ s;rw[if_pos (by simp)];unfold Builtin.Tuple.tupleIsExact;refine Aa (Aa (wpAny_typeOf ht.typeIs (Af ?_)));rw[if_pos #v[0,9]];refine Aa (Cv (Af ⟨_,rfl,?_⟩));exact Af h
noncomputable def rSlW (K:PySem.W.Frag):V->Option Int->Option Int->Hp->VK->Prop:=λx lo hi H Q=>∃a xs,x=.ref a/\SqT K H a xs/\HT.sIx xs.length 0 lo=0/\HT.sIx xs.length xs.length hi=xs.length/\Q x H
theorem z5n {X:Cx}:SlR X (rSlW X.K):=by
 intro pins s σ H x v vl vu lo hi sl Q I rx hs pl pu h;nofun;obtain⟨a,xs,rfl,hx,h0,h1,q⟩:=h;ac_rfl;cases rx;nofun;obtain⟨its,r,ht,hz⟩:=I.tuple hx;ac_rfl;have hlen:its.toArray.size=xs.length:=by rw[Aq];exact r.length.symm
 exact⟨"tuple",_,PyProof.Rows.slot_tuple_getitem.lookup,ht.typeIs,zss ht hs pl pu (by rw[hlen];exact h0) (by rw[hlen];exact h1) ⟨.ref a,H,I,rfl,q⟩⟩
noncomputable def cutW (xs:List W) (lo hi:Option Int):List W:=(xs.drop (HT.sIx xs.length 0 lo)).take (HT.sIx xs.length xs.length hi - HT.sIx xs.length 0 lo)
noncomputable def oSl (w:W) (lo hi:Option Int):Option (W × Bool):=match w with
 |.lst ws=>#v[(cutW ws lo hi),2]
 |.frl ws=>#v[(cutW ws lo hi),2]
 |.tup ws=>#v[(cutW ws lo hi),3]
 |_=>none
noncomputable def rSlB (K:PySem.W.Frag):V->Option Int->Option Int->Hp->VK->Prop:=λx lo hi H Q=>(rSlL K x lo hi H Q\/rSlT K x lo hi H Q)\/rSlW K x lo hi H Q
theorem yag {F H:Hp}{w:W}{v:V}{lo hi:Option Int}{rv:W × Bool}{Q:VK} (s:Same F H) (r:RepB K F H w v) (e:oSl w lo hi=some rv) (q:∀u H',Out K F H rv u H'->Q u H'):rSlB K v lo hi H Q:=by
  have cut:∀{ws:List W}{vs:List V},Reps K F ws vs->Reps K F (cutW ws lo hi) (cutV vs lo hi):=fun {ws vs} p=>by
    unfold cutW cutV;rw[<-p.length];exact (p.drop _).take _
  cases w with
  |lst ws=>obtain rfl:=sI e;obtain⟨a,vs,e1,h,p⟩:=r.lst s;exact .inl (.inl ⟨a,vs,e1,SqL.of' h,λl hl=>q _ _ (.lst hl (cut p))⟩)
  |frl ws=>obtain rfl:=sI e;obtain⟨a,vs,e1,h,p⟩:=r.frl s;exact .inl (.inl ⟨a,vs,e1,h,λl hl=>q _ _ (.lst hl (cut p))⟩)
  | tup ws =>
    obtain rfl:=sI e;obtain⟨a,vs,e1,h,hf,p⟩:=r.tup s;by_cases y:HT.sIx vs.length 0 lo=0/\HT.sIx vs.length vs.length hi=vs.length
    · refine .inr ⟨a, vs, e1, .inl (.inl h), y.1, y.2, ?_⟩
      have ew:cutW ws lo hi=ws:=by
        unfold cutW;rw[p.length,y.1,y.2,Dz,Nat.sub_zero,<-p.length,Ff]
      rw[ew] at q;subst e1;exact q _ _ (.val (.tup hf p))
    · exact .inl (.inr ⟨a,vs,e1,.inl (.inl h),y,λl hl=>q _ _ (.tup hl (cut p))⟩)
  |_=>exact noSome e
noncomputable def gSl (a:GA) (lo hi:GO):GE:=λen=>(a en).bind λp=>(lo p.1).bind λl=>(hi l.1).bind λh=>(resA h.1 p.2).bind λw=>(oSl w l.2 h.2).bind λr=>some (h.1,r)
theorem z5f {a:GA}{lo hi:GO}{σ:St}{H:Hp}{Q:VK}(h:tE K (gSl a lo hi) σ H Q):tSl (rSlB K) (tA K a) (tO K lo) (tO K hi) σ H Q:=by
 nofun;obtain⟨F,pr,en,en',rv,R,h,q⟩:=h;obtain⟨⟨e1,x1⟩,h1,h⟩:=bS h;obtain⟨⟨e2,l⟩,h2,h⟩:=bS h;obtain⟨⟨e3,u⟩,h3,h⟩:=bS h;obtain⟨w1,hw1,h⟩:=bS h;obtain⟨r',hr,h⟩:=bS h;ac_rfl;cases h;refine⟨F,pr,en,e1,x1,R,h1,λF1 H1 v1 s1 R1 a1=>⟨F1,pr,e1,e2,l,R1,h2,λF2 H2 s2 R2=>⟨F2,pr,e2,e3,u,R2,h3,λF3 H3 s3 R3=>?_⟩⟩⟩;refine yag R3.sub ((a1.mono (s2.trans s3)).repB R3 hw1) hr λv H' z=>?_;nofun;obtain⟨F4,s4,R4,y⟩:=z.close R3;ac_rfl;exact q F4 H' v (s1.trans (s2.trans (s3.trans s4))) R4 y
end
structure ItOk (K:PySem.W.Frag) (F:Hp) (J:It) (ws:List W):Prop where
 go:∀i H,Same F H->i<ws.length->J.go i H
 stop:∀H,Same F H->J.stop ws.length H
 yld:∀i H x H',Same F H->i<ws.length->J.yld i H x H'->∃w,ws[i]?=some w/\Out K F H (w,false) x H'
noncomputable def tI (K:PySem.W.Frag) (g:GL):TI:=λσ H R=>∃F pr en en' ws,Rel K F pr en σ H/\g en=some (en',ws)/\∀F' H' J,Same F F'->Rel K F' pr en' σ H'->ItOk K F' J ws->R J H'
section
variable {K:PySem.W.Frag}{F H:Hp}
theorem zb1 {F F' : Hp}{a:Addr}{vs:List V}(s:Same F F')(h:SqT K F a vs):SqT K F' a vs:=by
 rcases h with (h|⟨o,h⟩)|h
 ·exact .inl (.inl (s _ _ h))
 ·exact .inl (.inr ⟨o,s _ _ h⟩)
 ·exact .inr h
theorem zrl {a:Addr}{vs:List V}{ws:List W}(h:SqL K F a vs)(r:Reps K F ws vs):ItOk K F (Itl K a) ws where
 go:=λi H s hi=>⟨vs,vs[i]'(by rw[<-r.length];exact hi),s.seq h,by rw[Ae]⟩
 stop:=λH s=>⟨vs,s.seq h,by rw[r.length];exact Ag _⟩
 yld:=λi H x H' s hi y=>by
  obtain⟨e,y⟩:=y;subst e;obtain⟨w,e,q⟩:=r.getV (y vs (s.seq h));exact⟨w,e,.val q⟩
theorem yax {a:Addr}{vs:List V}{ws:List W}(h:SqT K F a vs)(r:Reps K F ws vs):ItOk K F (Itt K a) ws where
 go:=λi H s hi=>⟨vs,vs[i]'(by rw[<-r.length];exact hi),zb1 s h,by rw[Ae]⟩
 stop:=λH s=>⟨vs,zb1 s h,by rw[r.length];exact Ag _⟩
 yld:=λi H x H' s hi y=>by
  obtain⟨e,y⟩:=y;subst e;obtain⟨w,e,q⟩:=r.getV (y vs (zb1 s h));exact⟨w,e,.val q⟩
noncomputable def rngW (lo:Int) (n:Nat):List W:=(List.range n).map λk=>W.int (lo+(k:Nat))
theorem zp4 (lo:Int)(n:Nat):ItOk K F (Itr lo n) (rngW lo n) where
 go:=λi H s hi=>by unfold rngW at hi;rw[Ab,Cn] at hi;exact hi
 stop:=λH s=>by unfold rngW;rw[Ab,Cn];exact Ag n
 yld:=λi H x H' s hi y=>by
  obtain⟨e,y⟩:=y;subst e y;unfold rngW at hi ⊢;rw[Ab,Cn] at hi;exact⟨_,by rw[Ai,List.getElem?_range hi];rfl,.val (.int _)⟩
noncomputable def zhh (ws:List W) (k:Nat):List W:=match ws with
 |[]=>[]
 |w::ws=>.tup [.int k,w]::zhh ws (k+1)
theorem zcc:∀(ws:List W) (k:Nat),(zhh ws k).length=ws.length
 |[],_=>rfl
 |_::ws,k=>congrArg (· + 1) (zcc ws (k+1))
theorem zel:∀{ws:List W}{k i:Nat}{w:W},ws[i]?=some w->(zhh ws k)[i]?=some (.tup [.int (k+i:Nat),w])
  |[],_,_,_,e=>by simp at e
  |w::ws,k,0,_,e=>by simp at e;subst e;rfl
  | w::ws,k,i+1,u,e=>by
    have:=zel (ws:=ws) (k:=k+1) (i:=i) (w:=u) (by simpa using e);show (zhh ws (k+1))[i]?=_;rw[this];have:k+1+i=k+(i+1):=by omega
    rw[this]
theorem z7i {a:Addr}{vs:List V}{ws:List W}(h:SqL K F a vs)(r:Reps K F ws vs):ItOk K F (Ite K a) (zhh ws 0) where
 go:=λi H s hi=>by rw[zcc] at hi;exact⟨vs,vs[i]'(by rw[<-r.length];exact hi),s.seq h,by rw[Ae]⟩
 stop:=λH s=>⟨vs,s.seq h,by rw[zcc,r.length];exact Ag _⟩
 yld:=λi H x H' s hi y=>by
  nofun;obtain⟨p,v,e,hp,e2,y⟩:=y;ac_rfl;subst e e2;obtain⟨w,e,q⟩:=r.getV (y vs (s.seq h));refine⟨_,zel e,?_⟩;rw[Cf];exact .tup hp (.cons (.int _) (.cons q .nil))
theorem ybv {a:Addr}{vs:List V}{ws:List W}(h:SqL K F a vs)(r:Reps K F ws vs):ItOk K F (Itv K a vs.length) ws.reverse where
 go:=λi H s hi=>by rw[Fj,r.length] at hi;exact⟨hi,vs,s.seq h,rfl⟩
 stop:=λH s=>by rw[Fj,r.length];rfl
 yld:=λi H x H' s hi y=>by
  obtain⟨e,y⟩:=y;subst e;obtain⟨w,e,q⟩:=r.getV (y vs (s.seq h));refine⟨w,?_,.val q⟩;rw[Fj] at hi;rw[List.getElem?_reverse hi,r.length];exact e
end
section
variable {X:Cx}{tg:Expr}
noncomputable def iSeq (K:PySem.W.Frag) (tl:TE):TI:=λσ H R=>tl σ H λx H1=>∃a,x=.ref a/\((∃xs,SqL K H1 a xs)/\R (Itl K a) H1\/(∃xs,SqT K H1 a xs)/\R (Itt K a) H1)
theorem z30 {l:Expr}{tl:TE}(hl:PE X l tl):PI X tg l (iSeq X.K tl):=λpins s σ H R I h =>
 thn (hl pins s σ H _ I h) λv s1 ⟨x,H1,I1,r1,a,e,q1⟩=>by
  subst e;cases r1;have fp:∀b∈[s1.heap.objs.size],FpOk X pins H1 b:=λb hb=>by
   rw[Aw] at hb;subst hb;exact I1.fpOk (Ag _) (I1.hok.fresh (Ag _))
  rcases q1 with⟨⟨xs,hq⟩,q⟩|⟨⟨xs,hq⟩,q⟩
  ·obtain⟨its,_,p,_⟩:=I1.list hq;exact Go p.isList ⟨_,_,_,_,H1,rfl,I1.kept (t':=s1.toks) λb o e=>Ac _ e,zwi a _,⟨_,As _ rfl,rfl,rfl⟩,fp,q⟩
  ·obtain⟨its,_,p,_⟩:=I1.tuple hq;exact Gi (show s1.heap.IsTuple a its.toArray from p) ⟨_,_,_,_,H1,rfl,I1.kept (t':=s1.toks) λb o e=>Ac _ e,zsk a _,⟨_,As _ rfl,rfl,rfl⟩,fp,q⟩
end
noncomputable def zar (g:GE):GL:=λen=>(g en).bind λp=>(seqW p.2.1).bind λws=>some (p.1,ws)
noncomputable def zc6 (i:Int):Bool:=decide (-(2 ^ 62)<=i) && decide (i<2 ^ 62)
noncomputable def zbp (as:GAs):GL:=λen=>(as en).bind λp=>match za6 p.1 p.2 with
 |some [.int j]=>if zc6 j then some (p.1,rngW 0 j.toNat) else none
 |_=>none
noncomputable def zya (as:GAs):GL:=λen=>(as en).bind λp=>match za6 p.1 p.2 with
 |some [.int i,.int j]=>if zc6 i && zc6 j then some (p.1,rngW i (j - i).toNat) else none
 |_=>none
noncomputable def gRev (g:GE):GL:=λen=>(g en).bind λp=>(seqL p.2.1).bind λws=>some (p.1,ws.reverse)
theorem zdk {i:Int}(h:zc6 i=true):-(2 ^ 62)<=i/\i<2 ^ 62:=by
 unfold zc6 at h;rw[Ad] at h;exact⟨Au h.1,Au h.2⟩
section
variable {K:PySem.W.Frag}{σ:St}{H:Hp}
theorem zme {g:GE}{R:It->Hp->Prop} (h:tI K (zar g) σ H R):iSeq K (tE K g) σ H R:=by
  nofun;obtain⟨F,pr,en,en',ws,Re,h,q⟩:=h;obtain⟨⟨e1,rv⟩,h1,h⟩:=bS h;obtain⟨us,hs,h⟩:=bS h;ac_rfl;cases h;refine⟨F,pr,en,e1,rv,Re,h1,λF1 H1 v s1 R1 z=>?_⟩;nofun;obtain⟨F2,s2,R2,y⟩:=z.freeze R1;obtain⟨w,fl⟩:=rv;ac_rfl;cases w with
  | lst xs=>obtain rfl:=sI hs;cases y with
    |lst y r=>exact⟨_,rfl,.inl ⟨⟨_,SqL.of' (R2.sub _ _ y)⟩,q F2 H1 _ (s1.trans s2) R2 (zrl (SqL.of' y) r)⟩⟩
  | frl xs=>obtain rfl:=sI hs;cases y with
    |frl y r=>exact⟨_,rfl,.inl ⟨⟨_,R2.sub.seq y⟩,q F2 H1 _ (s1.trans s2) R2 (zrl y r)⟩⟩
  | tup xs=>obtain rfl:=sI hs;cases y with
    |tup y r=>exact⟨_,rfl,.inr ⟨⟨_,.inl (.inl (R2.sub _ _ y))⟩,q F2 H1 _ (s1.trans s2) R2 (yax (.inl (.inl y)) r)⟩⟩
  |_=>cases hs
theorem zur {as:GAs}{R:It->Hp->Prop} (h:tI K (zbp as) σ H R):yba (tAs K as) σ H R:=by
  nofun;obtain⟨F,pr,en,en',ws,Re,h,q⟩:=h;obtain⟨⟨e1,xs⟩,h1,h⟩:=bS h;ac_rfl;refine⟨F,pr,en,e1,xs,Re,h1,λF1 H1 vs s1 R1 a1=>?_⟩;cases e:za6 e1 xs with
  |none=>simp only [e] at h;exact noSome h
  | some us =>
    have rr:=a1.repBs R1 e
    match us,e,rr with
    | [.int j],e,rr =>
      simp only [e] at h;split at h
      · rename_i z
        cases h;obtain⟨v,e1,hv⟩:=rr.one;subst e1;exact⟨j,by rw[hv.int],(zdk z).1,(zdk z).2,q F1 H1 _ s1 R1 (zp4 0 j.toNat)⟩
      · exact noSome h
    |[],e,_=>simp only [e] at h;exact noSome h
    |.non::_,e,_=>simp only [e] at h;exact noSome h
    |.bl _::_,e,_=>simp only [e] at h;exact noSome h
    |.str _::_,e,_=>simp only [e] at h;exact noSome h
    |.tup _::_,e,_=>simp only [e] at h;exact noSome h
    |.lst _::_,e,_=>simp only [e] at h;exact noSome h
    |.frl _::_,e,_=>simp only [e] at h;exact noSome h
    |.dic::_,e,_=>simp only [e] at h;exact noSome h
    |.dct _ _::_,e,_=>simp only [e] at h;exact noSome h
    |.dcz _ _::_,e,_=>simp only [e] at h;exact noSome h
    |.int _::_::_,e,_=>simp only [e] at h;exact noSome h
theorem zu9 {as:GAs}{R:It->Hp->Prop} (h:tI K (zya as) σ H R):z9i (tAs K as) σ H R:=by
  nofun;obtain⟨F,pr,en,en',ws,Re,h,q⟩:=h;obtain⟨⟨e1,xs⟩,h1,h⟩:=bS h;ac_rfl;refine⟨F,pr,en,e1,xs,Re,h1,λF1 H1 vs s1 R1 a1=>?_⟩;cases e:za6 e1 xs with
  |none=>simp only [e] at h;exact noSome h
  | some us =>
    have rr:=a1.repBs R1 e;simp only [e] at h;split at h
    · rename_i i j e2
      obtain rfl:=sI e2;split at h
      · rename_i z
        rw[Ad] at z;cases h;nofun;obtain⟨v,v2,e1,hv,hv2⟩:=rr.two;ac_rfl;subst e1;exact⟨i,j,by rw[hv.int,hv2.int],⟨(zdk z.1).1,(zdk z.1).2,(zdk z.2).1,(zdk z.2).2⟩,q F1 H1 _ s1 R1 (zp4 i (j - i).toNat)⟩
      · exact noSome h
    · exact noSome h
theorem zoe {F:Hp}{w:W}{ws:List W}{v:V} (y:Rep K F w v) (hs:seqL w=some ws):∃a vs,v=.ref a/\SqL K F a vs/\Reps K F ws vs:=by
  cases w with
  | lst xs=>obtain rfl:=sI hs;cases y with
    |lst y r=>exact⟨_,_,rfl,SqL.of' y,r⟩
  | frl xs=>obtain rfl:=sI hs;cases y with
    |frl y r=>exact⟨_,_,rfl,y,r⟩
  |_=>cases hs
theorem z0k {g:GE}{R:It->Hp->Prop}(h:tI K (gRev g) σ H R):iRev K (zhm (tE K g) tNil) σ H R:=by
 nofun;obtain⟨F,pr,en,en',ws,Re,h,q⟩:=h;obtain⟨⟨e1,rv⟩,h1,h⟩:=bS h;obtain⟨us,hs,h⟩:=bS h;ac_rfl;cases h;refine⟨F,pr,en,e1,rv,Re,h1,λF1 H1 v s1 R1 z=>?_⟩;nofun;obtain⟨F2,s2,R2,y⟩:=z.freeze R1;obtain⟨a,vs,e,hq,r⟩:=zoe y hs;ac_rfl;subst e;exact⟨a,vs,rfl,R2.sub.seq hq,q F2 H1 _ (s1.trans s2) R2 (ybv hq r)⟩
end
inductive Tg where
 |nm (i:Nat)
 |tp (is:List Nat)
noncomputable def setAll (mp:List Nat):List Nat->List W->En->Option En
 |[],[],en=>some en
 |i::is,w::ws,en=>if mp.contains i || !decide (i<en.length) then none else setAll mp is ws (en.set i (#v[w,6]))
 |_,_,_=>none
noncomputable def tgSet (mp:List Nat):Tg->W->En->Option En
 |.nm i,w,en=>if mp.contains i || !decide (i<en.length) then none else some (en.set i (#v[w,6]))
 |.tp is,.tup ws,en=>setAll mp is ws en
 |.tp is,.lst ws,en=>setAll mp is ws en
 |_,_,_=>none
noncomputable def zq4:List Nat->TGs
 |[]=>gNil
 |i::is=>z8r (ztg i) (zq4 is)
noncomputable def z83 (K:PySem.W.Frag) (n:Nat) (t:TGs):TG:=λv σ H Q=>∃a xs,v=.ref a/\(SqT K H a xs\/SqL K H a xs)/\xs.length=n/\t xs σ H Q
theorem zy9 {X:Cx}{es:List Expr}{k:Nat}{t:TGs}{n:Nat}{pos:Pos}(hc:X.calm=true)(h:PGs X es t)(hn:(assignEach es X.env).length=n)(hst:(assignEach es X.env).findIdx? (·.1)=none):PG X (.Tuple es k pos) (z83 X.K n t):=by
 intro pins s σ H v u Q I r hw;nofun;obtain⟨a,xs,e1,hq,hl,hw⟩:=hw;ac_rfl;rcases hq with hq|hq
 ·exact yb0 hc h hn hst pins s σ H v u Q I r ⟨a,xs,e1,hq,hl,hw⟩
 ·subst e1;cases r;nofun;obtain⟨its,rv,⟨o,m,q1,q2,_,q3⟩,hz⟩:=I.list hq;ac_rfl;rw[assign_Tuple];refine Aa (Fe ?_);unfold unpack;have hs:(assignEach es X.env).length=its.toArray.size:=by rw[Aq,hn,<-hl,rv.length]
  rw[hs,hst];refine Aa (Cr (PySem.W.kun_itemsOf (I.ok.hd hc) ⟨o,q1,q2,m,q3⟩ λh' hx=>?_));have I1:Inv X pins σ H { s with heap:=h' }:=I.kept (t':=s.toks) λb o e=>hx b o (Be (Ar e)) e;exact h pins _ σ H xs _ Q I1 (by simpa using rv) hw
noncomputable def TGof (K:PySem.W.Frag):Tg->TG
 |.nm i=>ztg i
 |.tp is=>z83 K is.length (zq4 is)
noncomputable def Keep (mp:List Nat) (σ σ' : St):Prop:=∀i∈mp,σ'[i]?=σ[i]?
theorem Keep.refl (mp:List Nat)(σ:St):Keep mp σ σ:=λ_ _=>rfl
theorem Keep.trans {mp:List Nat}{σ σ1 σ2:St}(a:Keep mp σ σ1)(b:Keep mp σ1 σ2):Keep mp σ σ2:=λi h=>(b i h).trans (a i h)
theorem Keep.set {mp:List Nat}{σ:St}{i:Nat}(h:mp.contains i=false)(v:Option V):Keep mp σ (σ.set i v):=λj hj=>by
 have:i≠j:=λe=>by subst e;rw[List.contains_iff_mem.mpr hj] at h;cases h
 exact Cs this
section
variable {K:PySem.W.Frag}{F H:Hp}{pr:Prt}
theorem zdx {mp:List Nat}{Q:St->Hp->Prop}:∀{is:List Nat}{ws:List W}{vs:List V}{en en' : En}{σ:St},Rel K F pr en σ H->Reps K F ws vs->setAll mp is ws en=some en'->(∀σ',Rel K F pr en' σ' H->Keep mp σ σ'->Q σ' H)->zq4 is vs σ H Q
  |[],[],_,en,en',σ,R,.nil,h,q=>by obtain rfl:=sI h;exact⟨rfl,q σ R (.refl _ _)⟩
  | i::is,w::ws,_,en,en',σ,R,.cons (v:=v) (vs:=vs) h0 r,h,q=>by
    unfold setAll at h;split at h
    · exact noSome h
    · rename_i z
      rw[Ch,not_or,Bh,Bh,Df] at z;refine⟨v,vs,rfl,?_⟩;exact zdx (R.store (r:=(w,false)) (i:=i) h0 (Au z.2)) r h λσ' R' k=>q σ' R' ((Keep.set z.1 _).trans k)
  |[],_::_,_,_,_,_,_,_,h,_=>by exact noSome h
  |_::_,[],_,_,_,_,_,_,h,_=>by exact noSome h
theorem zo5 {mp:List Nat}{T:Tg}{w:W}{v:V}{en en' : En}{σ:St}{Q:St->Hp->Prop} (R:Rel K F pr en σ H) (h0:Rep K F w v) (h:tgSet mp T w en=some en') (q:∀σ',Rel K F pr en' σ' H->Keep mp σ σ'->Q σ' H):TGof K T v σ H Q:=by
  cases T with
  | nm i =>
    unfold tgSet at h;simp only at h;split at h
    · exact noSome h
    · rename_i z
      rw[Ch,not_or,Bh,Bh,Df] at z;obtain rfl:=sI h;exact q _ (R.store (r:=(w,false)) h0 (Au z.2)) (Keep.set z.1 _)
  | tp is =>
    have go:∀(is:List Nat) (ws:List W) (en en' : En),setAll mp is ws en=some en'->is.length=ws.length:=by
      intro is
      induction is with
      | nil=>intro ws en en' h;cases ws with
        |nil=>rfl
        |cons _ _=>exact noSome h
      | cons i is ih=>intro ws en en' h;cases ws with
        |nil=>exact noSome h
        | cons w ws =>
          unfold setAll at h;split at h
          · exact noSome h
          · exact congrArg (· + 1) (ih _ _ _ h)
    cases w with
    | tup ws =>
      cases h0 with
      | tup hf r =>
        exact⟨_,_,rfl,.inl (.inl (.inl (R.sub _ _ hf))),by rw[go is ws en en' h,r.length],zdx R r h q⟩
    | lst ws =>
      cases h0 with
      | lst hf r =>
        exact⟨_,_,rfl,.inr (SqL.of' (R.sub _ _ hf)),by rw[go is ws en en' h,r.length],zdx R r h q⟩
    |_=>exact noSome h
end
inductive Fl where
 |nx|ret (r:W × Bool)|brk|cnt
noncomputable abbrev GS:=En->Option (En × Fl)
noncomputable def z23 (K:PySem.W.Frag) (mp:List Nat) (F:Hp) (pr:Prt) (σ:St) (D:Ends) (en' : En):Fl->Prop
 |.nx=>∀F' σ' H',Same F F'->Rel K F' pr en' σ' H'->Keep mp σ σ'->D.nx σ' H'
 |.brk=>∀F' σ' H',Same F F'->Rel K F' pr en' σ' H'->Keep mp σ σ'->D.bk σ' H'
 |.cnt=>∀F' σ' H',Same F F'->Rel K F' pr en' σ' H'->Keep mp σ σ'->D.ct σ' H'
 |.ret r=>∀F' σ' H' v,Same F F'->Rel K F' pr en' σ' H'->Keep mp σ σ'->Res K F' H' pr en' σ' r v->D.rt v H'
noncomputable def tS (K:PySem.W.Frag) (mp:List Nat) (g:GS):TS:=λD σ H=>∃F pr en en' fl,Rel K F pr en σ H/\g en=some (en',fl)/\z23 K mp F pr σ D en' fl
theorem z23.step {K:PySem.W.Frag}{mp:List Nat}{F F1:Hp}{pr:Prt}{σ σ1:St}{D:Ends}{en' : En}{fl:Fl}(s:Same F F1)(k:Keep mp σ σ1)(h:z23 K mp F pr σ D en' fl):z23 K mp F1 pr σ1 D en' fl:=by
 cases fl with
 |nx=>exact λF' σ' H' s' R' k'=>h F' σ' H' (s.trans s') R' (k.trans k')
 |brk=>exact λF' σ' H' s' R' k'=>h F' σ' H' (s.trans s') R' (k.trans k')
 |cnt=>exact λF' σ' H' s' R' k'=>h F' σ' H' (s.trans s') R' (k.trans k')
 |ret r=>exact λF' σ' H' v s' R' k' z=>h F' σ' H' v (s.trans s') R' (k.trans k') z
noncomputable def zc1:GS:=λen=>some (en,.nx)
noncomputable def gBrk:GS:=λen=>some (en,.brk)
noncomputable def gCnt:GS:=λen=>some (en,.cnt)
noncomputable def gSeq (a b:GS):GS:=λen=>match a en with
 |some (en',.nx)=>b en'
 |some (en',f)=>some (en',f)
 |none=>none
noncomputable def gRet (g:GE):GS:=λen=>(g en).bind λp=>some (p.1,.ret p.2)
noncomputable def ydk:GS:=λen=>some (en,.ret (.non,false))
noncomputable def gIfS (c:GT) (a b:GS):GS:=λen=>match c en with
 |#v[en',5]=>a en'
 |#v[en',6]=>b en'
 |none=>none
noncomputable def zdr (g:GE):GS:=λen=>(g en).bind λp=>some (p.1,.nx)
noncomputable def gSet (mp:List Nat) (i:Nat) (g:GE):GS:=λen=>(g en).bind λp=>if mp.contains i || !decide (i<p.1.length) then none else some (p.1.set i (some p.2),.nx)
noncomputable def gAsg (mp:List Nat) (T:Tg) (g:GE):GS:=λen=>(g en).bind λp=>(tgSet mp T p.2.1 p.1).bind λe=>some (e,.nx)
section
variable {K:PySem.W.Frag}{mp:List Nat}{D:Ends}{σ:St}{H:Hp}
theorem zk2 (h:tS K mp zc1 D σ H):z52 D σ H:=by
 obtain⟨F,pr,en,en',fl,R,h,q⟩:=h;cases h;exact q F σ H (.refl F) R (.refl _ _)
theorem zzh {a b:GS} (h:tS K mp (gSeq a b) D σ H):tSeq (tS K mp a) (tS K mp b) D σ H:=by
  nofun;obtain⟨F,pr,en,en',fl,R,h,q⟩:=h;ac_rfl;unfold gSeq at h;cases e:a en with
  |none=>simp only [e] at h;exact noSome h
  | some p =>
    obtain⟨e1,f1⟩:=p;refine⟨F,pr,en,e1,f1,R,e,?_⟩;cases f1 with
    | nx =>
      simp only [e] at h;exact λF1 σ1 H1 s1 R1 k1=>⟨F1,pr,e1,en',fl,R1,h,q.step s1 k1⟩
    |brk=>simp only [e] at h;cases h;exact q
    |cnt=>simp only [e] at h;cases h;exact q
    |ret r=>simp only [e] at h;cases h;exact q
theorem zqu {g:GE}(h:tS K mp (gRet g) D σ H):tRet (tE K g) D σ H:=by
 nofun;obtain⟨F,pr,en,en',fl,R,h,q⟩:=h;obtain⟨⟨e1,r⟩,h1,h⟩:=bS h;ac_rfl;cases h;exact⟨F,pr,en,e1,r,R,h1,λF' H' v s' R' z=>q F' σ H' v s' R' (.refl _ _) z⟩
theorem zzp {c:GT}{a b:GS} (h:tS K mp (gIfS c a b) D σ H):tIfS (tT K c) (tS K mp a) (tS K mp b) D σ H:=by
  nofun;obtain⟨F,pr,en,en',fl,R,h,q⟩:=h;ac_rfl;unfold gIfS at h;cases e:c en with
  |none=>simp only [e] at h;exact noSome h
  | some p =>
    obtain⟨e1,d⟩:=p;refine⟨F,pr,en,e1,d,R,e,λF1 H1 s1 R1=>?_⟩;cases d with
    |true=>simp only [e] at h;exact iteT ⟨F1,pr,e1,en',fl,R1,h,q.step s1 (.refl _ _)⟩
    |false=>simp only [e] at h;exact iteF ⟨F1,pr,e1,en',fl,R1,h,q.step s1 (.refl _ _)⟩
theorem zwx {g:GE}(h:tS K mp (zdr g) D σ H):ya3 (tE K g) D σ H:=by
 nofun;obtain⟨F,pr,en,en',fl,R,h,q⟩:=h;obtain⟨⟨e1,r⟩,h1,h⟩:=bS h;ac_rfl;cases h;exact⟨F,pr,en,e1,r,R,h1,λF' H' v s' R' z=>q F' σ H' s' R' (.refl _ _)⟩
theorem zke {i:Nat}{g:GE}(h:tS K mp (gSet mp i g) D σ H):tAsg (tE K g) (ztg i) D σ H:=by
 nofun;obtain⟨F,pr,en,en',fl,R,h,q⟩:=h;obtain⟨⟨e1,r⟩,h1,h⟩:=bS h;ac_rfl;split at h
 ·exact noSome h
 ·rename_i z;rw[Ch,not_or,Bh,Bh,Df] at z;cases h;exact⟨F,pr,en,e1,r,R,h1,λF' H' v s' R' y=>q F' _ H' s' (R'.store y (Au z.2)) (Keep.set z.1 _)⟩
theorem zzt {T:Tg}{g:GE}(h:tS K mp (gAsg mp T g) D σ H):tAsg (tE K g) (TGof K T) D σ H:=by
 nofun;obtain⟨F,pr,en,en',fl,R,h,q⟩:=h;obtain⟨⟨e1,r⟩,h1,h⟩:=bS h;obtain⟨e2,h2,h⟩:=bS h;ac_rfl;cases h;refine⟨F,pr,en,e1,r,R,h1,λF1 H1 v s1 R1 y=>?_⟩;nofun;obtain⟨F2,s2,R2,z⟩:=y.freeze R1;ac_rfl;exact zo5 R2 z h2 λσ' R' k=>q F2 σ' H1 (s1.trans s2) R' k
noncomputable def gPar (mp:List Nat) (i j:Nat) (a b:GE):GS:=λen=>(a en).bind λp=>(b p.1).bind λq=>if mp.contains i || mp.contains j || !decide (i<q.1.length) || !decide (j<q.1.length) then none else some ((q.1.set i (#v[p.2.1,6])).set j (some q.2),.nx)
theorem zzs {i j:Nat}{a b:GE} (h:tS K mp (gPar mp i j a b) D σ H):tPar i j (zhm (tE K a) (zhm (tE K b) tNil)) D σ H:=by
  nofun;obtain⟨F,pr,en,en',fl,R,h,q⟩:=h;obtain⟨⟨e1,r1⟩,h1,h⟩:=bS h;obtain⟨⟨e2,r2⟩,h2,h⟩:=bS h;ac_rfl;split at h
  · exact noSome h
  · rename_i z
    simp only [Ch,not_or,Bh,Df,Eo] at z;refine aG fun _ qG=>?_;obtain ⟨⟨⟨z1,z2⟩,z3⟩,z4⟩:=z;refine qG ?_;clear qG;cases h;refine ⟨F,pr,en,e1,r1,R,h1,fun F1 H1 v1 s1 R1 y1=>?_⟩;refine aG fun _ qG=>?_;obtain ⟨F2,s2,R2,x1⟩:=y1.freeze R1;refine qG ?_;clear qG;refine ⟨F2,pr,e1,e2,r2,R2,h2,fun F3 H3 v2 s3 R3 y2=>⟨v1,v2,rfl,?_⟩⟩;have Ra:Rel K F3 pr (e2.set i (some (r1.1,false))) (σ.set i (some v1)) H3:=R3.store (r:=(r1.1,false)) (x1.mono s3) z3;have y2' : Res K F3 H3 pr (e2.set i (some (r1.1,false))) (σ.set i (some v1)) r2 v2:=by
      obtain⟨w2,fl2⟩:=r2;cases fl2 with
      |false=>exact y2
      | true =>
        nofun;obtain⟨a,vs,ws,q1,q2,q3,q4,q5,q6,q7⟩:=y2;ac_rfl;refine⟨a,vs,ws,q1,q2,q3,q4,q5,λk w' hk=>?_,q7⟩;rcases zcb z3 hk with⟨_,e⟩|⟨hne,e⟩
        · cases e
        · rw[Cs (Ne.symm hne)];exact q6 k w' e
    exact q F3 _ H3 (s1.trans (s2.trans s3)) (Ra.store y2' (by rw[Do];exact z4)) ((Keep.set z1 _).trans (Keep.set z2 _))
noncomputable def zbb (i:Nat) (k:GE) (g:GE):GS:=fun en=>(g en).bind fun p=>match p.1[i]? with
  | some (some _)=>(k p.1).bind fun q=>match q.2,q.1[i]? with
    |(.int n,_),some (#v[ws,2])=>(ixN ws.length n).bind λj=>some (q.1.set i (#v[(ws.set j p.2.1),2]),.nx)
    |_,_=>none
  |_=>none
theorem zse {i:Nat}{k g:GE}(h:tS K mp (zbb i k g) D σ H):tAsg (tE K g) (gSub (tVar i) (tE K k) z5v) D σ H:=by
 obtain⟨F,pr,en,en',fl,R,h,q⟩:=h;obtain⟨⟨e1,r1⟩,h1,h⟩:=bS h;refine⟨F,pr,en,e1,r1,R,h1,λF1 H1 v1 s1 R1 y1=>?_⟩;obtain⟨F2,s2,R2,x1⟩:=y1.freeze R1;split at h
 ·rename_i x0 hx0;obtain⟨⟨e2,r2⟩,h2,h⟩:=bS h;obtain⟨w0,f0⟩:=x0;obtain⟨v0,hv0⟩:=R2.has hx0;refine⟨v0,hv0,F2,pr,e1,e2,r2,R2,h2,λF3 H3 v2 s3 R3 y2=>?_⟩;split at h
  ·rename_i n fl2 ws eq1 eq2;simp only at eq1;subst eq1;obtain⟨j,hj,h⟩:=bS h;cases h;obtain⟨a,vs,ws',q1,q2,q3,q4,q5⟩:=R3.ownL eq2;cases q1;rw[hv0] at q2;cases q2;refine⟨a,vs,n,j,rfl,y2.isInt,q3,by rw[<-q5.length];exact hj,?_⟩;exact q F3 σ _ (s1.trans (s2.trans s3)) (R3.change eq2 hv0 (q5.set (x1.mono s3) j)) (.refl _ _)
  ·exact noSome h
 ·exact noSome h
noncomputable def gApp (i:Nat) (g:GE):GE:=fun en=>match en[i]? with
  | some (some (.lst _,true))=>(g en).bind fun p=>match p.1[i]? with
    |some (#v[ws,2])=>if ws.length<sizeLine then some (p.1.set i (#v[(ws++[p.2.1]),2]),(.non,false)) else none
    |_=>none
  |_=>none
theorem z28 {i:Nat}{g:GE}{Q:VK}(h:tE K (gApp i g) σ H Q):tBM K "list" zu4 (tVar i) (zhm (tE K g) tNil) σ H Q:=by
 nofun;obtain⟨F,pr,en,en',r,R,h,q⟩:=h;ac_rfl;unfold gApp at h;split at h
 ·rename_i w0 hx0;nofun;obtain⟨a,vs,ws0,q1,q2,q3,q4,q5⟩:=R.ownL hx0;obtain⟨⟨e1,r1⟩,h1,h⟩:=bS h;ac_rfl;refine⟨.ref a,q2,.inl ⟨rfl,vs,SqL.of' q3⟩,F,pr,en,e1,r1,R,h1,λF1 H1 v1 s1 R1 y1=>?_⟩;nofun;obtain⟨F2,s2,R2,x1⟩:=y1.freeze R1;ac_rfl;split at h
  ·rename_i ws hx1;split at h
   ·rename_i hz;cases h;nofun;obtain⟨a',vs',ws',p1,p2,p3,p4,p5⟩:=R2.ownL hx1;ac_rfl;cases p1;rw[q2] at p2;cases p2;refine⟨a,vs',v1,rfl,rfl,p3,by rw[<-p5.length];exact hz,?_⟩;exact q F2 _ _ (s1.trans s2) (R2.change hx1 q2 (p5.append (.cons x1 .nil))) .non
   ·exact noSome h
  ·exact noSome h
 ·exact noSome h
noncomputable def gExt (i:Nat) (g:GE):GE:=fun en=>match en[i]? with
  | some (some (.lst _,true))=>(g en).bind fun p=>match p.2.1,p.1[i]? with
    |.lst us,some (#v[ws,2])=>if ws.length+us.length<=sizeLine then some (p.1.set i (#v[(ws++us),2]),(.non,false)) else none
    |_,_=>none
  |_=>none
noncomputable def gAug (mp:List Nat) (o:O2) (i:Nat) (g:GA):GS:=λen=>match en[i]? with
 |some (#v[w,6])=>(g en).bind λp=>(resA p.1 p.2).bind λu=>(o w u).bind λr=>if mp.contains i || !decide (i<p.1.length) then none else some (p.1.set i (some r),.nx)
 |_=>none
theorem zrn {i:Nat}{o:O2}{r:R2}{g:GA}(ho:OpS K r o)(h:tS K mp (gAug mp o i g) D σ H):tAug i (tA K g) r D σ H:=by
 nofun;obtain⟨F,pr,en,en',fl,R,h,q⟩:=h;ac_rfl;unfold gAug at h;split at h
 ·rename_i w hx;nofun;obtain⟨v,hv,rw'⟩:=R.val i w hx;obtain⟨⟨e1,x1⟩,h1,h⟩:=bS h;obtain⟨u,hu,h⟩:=bS h;obtain⟨rv,hr,h⟩:=bS h;ac_rfl;split at h
  ·exact noSome h
  ·rename_i z;rw[Ch,not_or,Bh,Bh,Df] at z;cases h;refine⟨v,hv,F,pr,en,e1,x1,R,h1,λF1 H1 v1 s1 R1 a1=>?_⟩;refine ho F1 H1 w u v v1 rv _ R1.sub (.inl (rw'.mono s1)) (a1.repB R1 hu) hr λv2 H2 o2=>?_;nofun;obtain⟨F3,s3,R3,y⟩:=o2.close R1;ac_rfl;exact q F3 _ H2 (s1.trans s3) (R3.store y (Au z.2)) (Keep.set z.1 _)
 ·exact noSome h
theorem zn5 {M:Model}{A:Around}{E:Value->Shared->Prop}{s:Shared}{a b:Value}{T id:String}{Q:Value->Shared->Prop} (ha:s.TypeIs a T) (hb:s.TypeIs b T)
  (hl:typeLookup (.type T) (dunderI "add")=pure (some (.builtin id))) (hq:isSeqSlotId id=true) (hfill:fillsNumberSlot (.type T) "add" = pure false)
  (hc:wpAny M A (call (.builtin id) [a,b]) Q E s):wpAny M A (inplaceOp .Add a b) Q E s:=by
 unfold inplaceOp;refine Cr ?_;have hfi:fillsInplaceSlot (.type T) "add" (Operator.Add == .Add)=pure false:=by
  unfold fillsInplaceSlot;show (typeLookup (.type T) (dunderI "add") >>= λfi=>pure (fi.isSome && !isSeqSlot fi))=pure false;rw[hl,Eg];show pure (true && !isSeqSlotId id)=pure false;rw[hq];rfl
 have hsi:seqSlot? (.type T) (dunderI "add")=pure (some (.builtin id)):=by
  unfold seqSlot?;rw[hl,Eg];show (if (!isSeqSlotId id)=true then _ else _)=_;rw[hq];rfl
 refine Aa (wpAny_typeOf ha (Aa (Hm hfi ?_)));show wpAny M A (if false=true then _ else _) Q E s;rw[if_neg Av];refine Aa (wpAny_binaryOp1_none (nm := "add") ha hb hfill ?_);refine Aa (Hm hsi ?_);exact Aa (Cv hc)
noncomputable def z7f:R2:=λx y H Q=>∃l b xs zs,x=.ref l/\y=.ref b/\H l=some (.lst xs)/\H b=some (.lst zs)/\xs.length+zs.length<=sizeLine/\Q (.ref l) (upd H l (.lst (xs++zs)))
theorem z8b {X:Cx}:PIp X .Add z7f:=by
 intro pins s σ H x y v u Q I rx ry h;obtain⟨l,b,xs,zs,rfl,rfl,hH,hB,hz,q⟩:=h;cases rx;cases ry;obtain⟨z,its,n,r,hl,e⟩:=I.lstM hH;obtain⟨z2,its2,n2,r2,hl2,e2⟩:=I.lstM hB;have hsz:its.toArray.size+its2.toArray.size<=sizeLine:=by rw[Aq,Aq];omega
 have hlong:¬ (!its.toArray.isEmpty && Builtin.List.listTooLong (its.toArray.size+its2.toArray.size))=true:=by
  rw[ziv hsz,Fc];exact Av
 refine zn5 (T := "list") (id := "list.__iadd__") ⟨_,e,rfl⟩ ⟨_,e2,rfl⟩ F.slot_list_iadd.lookup #v[0,0,7] noFill_list_add ?_;refine call_meets F.slot_list_iadd ⟨_,e,rfl⟩ F.entry_list_iadd (F.args_list_iadd_2 _ _)
  (AutoSeq1.list___iadd___list_list_0 l its.toArray n b its2.toArray n2 hlong (by rw[Aq];omega) #v[]) ⟨e,e2,?_⟩
 refine⟨.ref l,_,I.lset (its':=its++its2) hH e (by simp) (r.append r2) ?_,rfl,q⟩;rw[Ba];omega
noncomputable def z6m (mp:List Nat) (i:Nat) (g:GE):GS:=fun en=>match en[i]? with
  | some (some (.lst _,true))=>(g en).bind fun p=>match p.2.1,p.1[i]? with
    |.lst us,some (#v[ws,2])=>if ws.length+us.length<=sizeLine/\mp.contains i=false then some (p.1.set i (#v[(ws++us),2]),.nx) else none
    |_,_=>none
  |_=>none
theorem zv6 {i:Nat}{g:GE} (h:tS K mp (z6m mp i g) D σ H):tAug i (tE K g) z7f D σ H:=by
  nofun;obtain⟨F,pr,en,en',fl,R,h,q⟩:=h;ac_rfl;unfold z6m at h;split at h
  · rename_i w0 hx0
    nofun;obtain⟨a,vs,ws0,q1,q2,q3,q4,q5⟩:=R.ownL hx0;obtain⟨⟨e1,w1,f1⟩,h1,h⟩:=bS h;ac_rfl;refine⟨.ref a,q2,F,pr,en,e1,(w1,f1),R,h1,λF1 H1 v1 s1 R1 y1=>?_⟩;nofun;obtain⟨F2,s2,R2,x1⟩:=y1.freeze R1;ac_rfl;split at h
    · rename_i us ws eq1 hx1
      simp only at eq1 x1;subst eq1;split at h
      · rename_i hz
        cases h;nofun;obtain⟨a',vs',ws',p1,p2,p3,p4,p5⟩:=R2.ownL hx1;ac_rfl;cases p1;rw[q2] at p2;cases p2;cases x1 with
        | lst hb rb =>
          refine ⟨a,_,vs',_,rfl,rfl,p3,R2.sub _ _ hb,by rw [<-p5.length,<-rb.length];exact hz.1,?_⟩;have e:σ.set i (some (V.ref a))=σ:=by
            obtain⟨hi,e⟩:=Ak.mp q2;rw[<-e];exact List.set_getElem_self hi
          show D.nx (σ.set i (some (V.ref a))) _;rw[e];exact q F2 σ _ (s1.trans s2) (R2.change hx1 q2 (p5.append rb)) (.refl _ _)
      · exact noSome h
    · exact noSome h
  · exact noSome h
noncomputable def zhf (mp:List Nat) (T:Tg) (body:GS):List W->En->Option (En × Fl)
  |[],en=>some (en,.nx)
  | w::ws,en=>(tgSet mp T w en).bind fun e1=>match body e1 with
    |some (e2,.nx)=>zhf mp T body ws e2
    |some (e2,.cnt)=>zhf mp T body ws e2
    |some (e2,.brk)=>some (e2,.nx)
    |some (e2,.ret r)=>some (e2,.ret r)
    |none=>none
noncomputable def gFor (mp:List Nat) (T:Tg) (it:GL) (body:GS):GS:=λen=>(it en).bind λp=>zhf mp T body p.2 p.1
theorem z1n {T:Tg}{it:GL}{body:GS} (h:tS K mp (gFor mp T it body) D σ H):tFor (tI K it) (TGof K T) (tS K mp body) D σ H:=by
  nofun;obtain⟨F,pr,en,en',fl,R,h,q⟩:=h;obtain⟨⟨e1,ws⟩,h1,h⟩:=bS h;ac_rfl;refine⟨F,pr,en,e1,ws,R,h1,λF1 H1 J s1 R1 ok=>?_⟩;refine⟨λi m σ' H'=>m=ws.length - i/\i<=ws.length/\∃F' e',Same F1 F'/\Rel K F' pr e' σ' H'/\Keep mp σ σ'/\zhf mp T body (ws.drop i) e'=some (en',fl),⟨_,rfl,Bk _,F1,e1,.refl _,R1,.refl _ _,by simpa using h⟩,?_⟩;rintro i m σ' H' ⟨rfl,hi,F',e',s',R',k',hl⟩;by_cases hlt:i<ws.length
  · refine .inr ⟨ok.go i H' (s'.trans R'.sub) hlt, ?_⟩
    have hd:ws.drop i=ws[i]::ws.drop (i+1):=(Cm hlt);rw[hd] at hl;obtain⟨e2,h2,hl⟩:=bS (show (tgSet mp T ws[i] e').bind _=_ from hl);refine⟨λσ2 H2=>∃F2 e3,Same F1 F2/\Rel K F2 pr e3 σ2 H2/\Keep mp σ σ2/\zhf mp T body (ws.drop (i+1)) e3=some (en',fl),?_,?_⟩
    · rintro σ2 H2 ⟨F2, e3, s2, R2, k2, hl2⟩
      exact⟨ws.length - (i+1),by omega,rfl,hlt,F2,e3,s2,R2,k2,hl2⟩
    · intro x H2 y
      obtain⟨w,ew,out⟩:=ok.yld i H' x H2 (s'.trans R'.sub) hlt y;rw[Ae hlt] at ew;obtain rfl:=sI ew;nofun;obtain⟨F3,s3,R3,z⟩:=(out.mono s').close R';ac_rfl;refine zo5 (w:=ws[i]) R3 z h2 λσ3 R4 k4=>?_;cases eb:body e2 with
      |none=>simp only [eb] at hl;exact noSome hl
      | some p =>
        obtain⟨e5,f5⟩:=p;refine⟨F3,pr,e2,e5,f5,R4,eb,?_⟩;have sF:Same F1 F3:=s'.trans s3;cases f5 with
        | nx =>
          simp only [eb] at hl;exact λF6 σ6 H6 s6 R6 k6=>⟨F6,e5,sF.trans s6,R6,(k'.trans k4).trans k6,hl⟩
        | cnt =>
          simp only [eb] at hl;exact λF6 σ6 H6 s6 R6 k6=>⟨F6,e5,sF.trans s6,R6,(k'.trans k4).trans k6,hl⟩
        | brk =>
          simp only [eb] at hl;cases hl;exact λF6 σ6 H6 s6 R6 k6=>q F6 σ6 H6 (s1.trans (sF.trans s6)) R6 ((k'.trans k4).trans k6)
        | ret r =>
          simp only [eb] at hl;cases hl;exact λF6 σ6 H6 v s6 R6 k6 z=>q F6 σ6 H6 v (s1.trans (sF.trans s6)) R6 ((k'.trans k4).trans k6) z
  · have e : i = ws.length := by omega
    subst e;rw[List.drop_length] at hl;cases hl;exact .inl ⟨ok.stop H' (s'.trans R'.sub),q F' σ' H' (s1.trans s') R' k'⟩
noncomputable def zdb (c:GT) (body:GS):Nat->GS
  |0,_=>none
  | n+1,en=>match c en with
    | some (e1,true)=>match body e1 with
      |some (e2,.nx)=>zdb c body n e2
      |some (e2,.cnt)=>zdb c body n e2
      |some (e2,.brk)=>some (e2,.nx)
      |some (e2,.ret r)=>some (e2,.ret r)
      |none=>none
    |#v[e1,6]=>some (e1,.nx)
    |none=>none
theorem zsb {n:Nat}{c:GT}{body:GS} (h:tS K mp (zdb c body n) D σ H):z4c (tT K c) (tS K mp body) D σ H:=by
  nofun;obtain⟨F,pr,en,en',fl,R,h,q⟩:=h;ac_rfl;refine⟨λm σ' H'=>∃F' e',Same F F'/\Rel K F' pr e' σ' H'/\Keep mp σ σ'/\zdb c body m e'=some (en',fl),⟨n,F,en,.refl _,R,.refl _ _,h⟩,?_⟩;rintro m σ' H' ⟨F',e',s',R',k',hl⟩;cases m with
  |zero=>exact noSome hl
  | succ m =>
    unfold zdb at hl;cases ec:c e' with
    |none=>simp only [ec] at hl;exact noSome hl
    | some p =>
      obtain⟨e1,b⟩:=p;refine⟨F',pr,e',e1,b,R',ec,λF1 H1 s1 R1=>?_⟩;cases b with
      | false =>
        simp only [ec] at hl;cases hl;exact iteF (q F1 σ' H1 (s'.trans s1) R1 k')
      | true =>
        simp only [ec] at hl;refine iteT ⟨λσ2 H2=>∃F2 e3,Same F F2/\Rel K F2 pr e3 σ2 H2/\Keep mp σ σ2/\zdb c body m e3=some (en',fl),λσ2 H2 z=>⟨m,Nat.lt_succ_self m,z⟩,?_⟩;cases eb:body e1 with
        |none=>simp only [eb] at hl;exact noSome hl
        | some p =>
          obtain⟨e5,f5⟩:=p;refine⟨F1,pr,e1,e5,f5,R1,eb,?_⟩;have sF:Same F F1:=s'.trans s1;cases f5 with
          | nx =>
            simp only [eb] at hl;exact λF6 σ6 H6 s6 R6 k6=>⟨F6,e5,sF.trans s6,R6,k'.trans k6,hl⟩
          | cnt =>
            simp only [eb] at hl;exact λF6 σ6 H6 s6 R6 k6=>⟨F6,e5,sF.trans s6,R6,k'.trans k6,hl⟩
          | brk =>
            simp only [eb] at hl;cases hl;exact λF6 σ6 H6 s6 R6 k6=>q F6 σ6 H6 (sF.trans s6) R6 (k'.trans k6)
          | ret r =>
            simp only [eb] at hl;cases hl;exact λF6 σ6 H6 v s6 R6 k6 z=>q F6 σ6 H6 v (sF.trans s6) R6 (k'.trans k6) z
end
section
variable {X:Cx}
end
section
variable {K:PySem.W.Frag}{σ:St}{H:Hp}
noncomputable def intW:W->Option Int
 |.int k=>some k
 |_=>none
end
section
variable {prog:Program}{w:World}{A:Around}{E:Value->Shared->Prop}{s:Shared}{it d:Addr}{o:Obj}{es:Array DictEntry}{i ep:Nat}
end
noncomputable def ItDz (a:Addr) (o:Obj) (xs:List V):It:=⟨λi H=>i<xs.length/\∃u,H a=some (.frz o u),λi H x H'=>H'=H/\xs[i]?=some x,λi H=>xs.length<=i/\∃u,H a=some (.frz o u)⟩
noncomputable def Fz (H:Hp) (a:Addr) (u:HO) (o:Obj) (H' : Hp):Prop:=(H a=some u/\H'=upd H a (.frz o u))\/(H a=some (.frz o u)/\H'=H)
section
variable {X:Cx}{tg:Expr}
theorem frzI {pins:List (Addr × Obj)}{σ:St}{H:Hp}{s:Shared}{a:Addr}{u:HO}{o:Obj}(I:Inv X pins σ H s)(hm:Mut (some u))(hr:Rd H a u)(ho:s.heap.get? a=some o)(hn:H a=some u->ObjOk X.prog X.w H s.heap a u->ObjOk X.prog X.w (upd H a (.frz o u)) s.heap a u):∃H',Fz H a u o H'/\Inv X pins σ H' s:=by
 rcases hr with e|⟨o',e⟩
 ·refine⟨_,.inl ⟨e,rfl⟩, ?_⟩;have:=zgj (h':=s.heap) (t':=s.toks) (ob:=.frz o u) I (by rw[e];exact hm) ⟨rfl,λ_ _=>rfl⟩ ⟨o,ho⟩ ⟨ho,hn e (I.hok a _ e)⟩;exact this
 ·obtain⟨h1,_⟩:=(show ObjOk X.prog X.w H s.heap a (.frz o' u) from I.hok a _ e);rw[ho] at h1;obtain rfl:=sI h1;exact⟨H,.inr ⟨e,rfl⟩,I⟩
end
section
variable {K:PySem.W.Frag}{F F' H:Hp}{pr:Prt}{en:En}{σ:St}
theorem z21 {a:Addr}{o:Obj}{u:HO}{xs:List V}{ws:List W}(h:F a=some (.frz o u))(r:Reps K F ws xs):ItOk K F (ItDz a o xs) ws where
 go:=λi H s hi=>⟨by rw[<-r.length];exact hi,u,s _ _ h⟩
 stop:=λH s=>⟨by rw[r.length];exact Ag _,u,s _ _ h⟩
 yld:=λi H x H' s hi y=>by
  obtain⟨e,y⟩:=y;subst e;obtain⟨w,e,q⟩:=r.getV y;exact⟨w,e,.val q⟩
theorem Rel.frz (R:Rel K F pr en σ H) {i:Nat}{w w' : W}{a:Addr}{u:HO} (o:Obj) (e:en[i]?=some (some (w,true))) (hv:σ[i]?=some (some (V.ref a))) (hH:H a=some u) (hF:F a=none) (hO:OwnR K F w u) (hw:∀F',Same F F'->F' a=some (.frz o u)->Rep K F' w' (.ref a)) :
  Same F (upd F a (.frz o u))/\Rel K (upd F a (.frz o u)) pr (en.set i (#v[w',6])) σ (upd H a (.frz o u)):=by
 have hi:i<en.length:=(Ak.mp e).1;have s:Same F (upd F a (.frz o u)):=Same.new hF _;have nt:∀ps,u≠.tbl ps:=λps z=>by cases hO<;>cases z
 have g:∀j x b,(en.set i (#v[w',6]))[j]?=some (some (x,b))->(j=i/\x=w'/\b=false)\/(j≠i/\en[j]?=some (some (x,b))):=λj x b h=>by
  rcases zcb hi h with⟨z,q⟩|z
  ·cases q;exact .inl ⟨z,rfl,rfl⟩
  ·exact .inr z
 refine⟨s,by rw[Do];exact R.len,R.sub.upd_both a _,λj x ex=>?_,λj x ex=>?_,λj k b w1 w2 e1 e2=>?_,λq o2 hq=>?_,R.tb.go (λ_ _ z=>z) (λb ps e f=>?_) s λb ps e h=>h⟩
 ·rcases g j x false ex with⟨rfl,rfl,_⟩|⟨_,z⟩
  ·exact⟨_,hv,hw _ s upd_same⟩
  ·obtain⟨v', q1,q2⟩:=R.val j x z;exact⟨v',q1,q2.mono s⟩
 ·rcases g j x true ex with⟨_,_,z⟩|⟨ne,z⟩
  ·cases z
  ·obtain⟨a', vs', ws', q1,q2,q3,q4,q5⟩:=R.own j x z;have ne2:a'≠a:=λq=>by subst q;exact ne (R.inj j i a' _ _ z e q2 hv)
   exact⟨a',vs',ws',q1,q2,by rw[upd_ne ne2];exact q3,by rw[upd_ne ne2];exact q4,q5.mono s⟩
 ·rcases g j w1 true e1 with⟨_,_,z⟩|⟨_,z1⟩
  ·cases z
  ·rcases g k w2 true e2 with⟨_,_,z⟩|⟨_,z2⟩
   ·cases z
   ·exact R.inj j k b _ _ z1 z2
 ·obtain⟨h1,h2,h3⟩:=R.prt q o2 hq;have ne:q≠a:=λz=>by subst z;exact h3 i w e hv
  refine⟨by rw[upd_ne ne];exact h1,by rw[upd_ne ne];exact h2,λj x ex=>?_⟩;rcases g j x true ex with⟨_,_,z⟩|⟨_,z⟩
  ·cases z
  ·exact h3 j x z
 ·have ne : b ≠ a:=λz=>by subst z; rw[hH] at e; exact nt ps (sI e)
  exact⟨by rw[upd_ne ne];exact e,by rw[upd_ne ne];exact f⟩
theorem Fz.new {a:Addr}{u:HO}{o:Obj}{H H' : Hp}(h:Fz H a u o H')(e:H a=some u)(nz:∀o' u',u≠.frz o' u'):H'=upd H a (.frz o u):=by
 rcases h with⟨_,h⟩|⟨h,_⟩
 ·exact h
 ·rw[e] at h;exact absurd (sI h) (nz _ _)
theorem Fz.old {a:Addr}{u:HO}{o o' : Obj}{H H' : Hp}(h:Fz H a u o H')(e:H a=some (.frz o' u))(nz:∀o' u',u≠.frz o' u'):H'=H/\o=o':=by
 rcases h with⟨h,_⟩|⟨h,h'⟩
 ·rw[e] at h;exact absurd (sI h).symm (nz _ _)
 ·rw[e] at h;injection h with h;injection h with h;exact⟨h',h.symm⟩
end
theorem Rel.drop {K:PySem.W.Frag}{F H:Hp}{pr:Prt}{en:En}{σ:St}(R:Rel K F pr en σ H){i:Nat}{w:W}(e:en[i]?=some (#v[w,5])):∃v,σ[i]?=some (some v)/\Rel K F pr (en.set i none) σ H/\Res K F H pr (en.set i none) σ (w,true) v:=by
 have hi:i<en.length:=(Ak.mp e).1;nofun;obtain⟨a,vs,ws,h1,h2,h3,h4,h5⟩:=R.own i w e;ac_rfl;have g:∀(j:Nat) (x:W × Bool),(en.set i none)[j]?=some (some x)->j≠i/\en[j]?=some (some x):=λj x h=>by
  rcases zcb hi h with⟨_,q⟩|z
  ·cases q
  ·exact z
 refine⟨_,h2,⟨by rw[Do];exact R.len,R.sub,λj u q=>R.val j u (g j _ q).2,λj u q=>R.own j u (g j _ q).2,λj k b u u' q q'=>R.inj j k b u u' (g j _ q).2 (g k _ q').2,λb o q=>⟨(R.prt b o q).1,(R.prt b o q).2.1,λj u z=>(R.prt b o q).2.2 j u (g j _ z).2⟩,R.tb⟩,a,vs,ws,h1,rfl,h3,h4,h5,λj u q z=>?_,λb o q z=>?_⟩
 ·exact (g j _ q).1 (R.inj j i a _ _ (g j _ q).2 e z h2)
 ·subst z;exact (R.prt b o q).2.2 i w e h2
section
variable {prog:Program}{w:World}{A:Around}{E:Value->Shared->Prop}{s:Shared}{d:Addr}{o:Obj}{es:Array DictEntry}{ep:Nat}
end
noncomputable abbrev Cap:=List (Option Nat)
noncomputable def zfj (cap:Cap) (en:En):En:=cap.map λo=>match o with
 |some i=>(en[i]?).getD none
 |none=>none
noncomputable def zaq (cap:Cap) (i:Nat):Option Nat:=cap.findIdx? (· == some i)
noncomputable def zbx (cap:Cap):Bool:=(List.range cap.length).all λj=>match cap[j]? with
 |some (some i)=>zaq cap i == some j
 |_=>true
noncomputable def capKeep (cap:Cap):List Nat:=(List.range cap.length).filter λj=>match cap[j]? with
 |some (some _)=>true
 |_=>false
noncomputable def zam (cap:Cap) (en ce:En):En:=en.mapIdx λi x=>match zaq cap i with
 |some j=>(ce[j]?).getD none
 |none=>x
theorem zbi {cap:Cap}{i j:Nat}(h:zaq cap i=some j):cap[j]?=some (some i):=by
 unfold zaq at h;obtain⟨hl,h1,_⟩:=List.findIdx?_eq_some_iff_getElem.mp h;rw[Ae hl];have:cap[j]=some i:=by simpa using h1
 rw[this]
theorem zcs {cap:Cap}{i:Nat}(h:zaq cap i=none)(j:Nat):cap[j]?≠some (some i):=λe=>by
 unfold zaq at h;have:=List.findIdx?_eq_none_iff.mp h (some i) (Bn e);simp at this
theorem zfy {cap:Cap}(h:zbx cap=true){i j:Nat}(e:cap[j]?=some (some i)):zaq cap i=some j:=by
 unfold zbx at h;have hj:j<cap.length:=(Ak.mp e).1;have:=Bd.mp h j (Bi.mpr hj);simp only [e] at this;simpa using this
theorem zpt {cap:Cap}{i j:Nat}(e:cap[j]?=some (some i)):j∈capKeep cap:=by
 unfold capKeep;exact Di.mpr ⟨Bi.mpr (Ak.mp e).1,by simp only [e]⟩
theorem zc3 {cap:Cap}{en:En}{j:Nat}{x:W × Bool} (h:(zfj cap en)[j]?=some (some x)):∃i,cap[j]?=some (some i)/\en[i]?=some (some x):=by
  unfold zfj at h;rw[Ai] at h;cases e:cap[j]? with
  |none=>rw[e] at h;exact noSome h
  | some o =>
    rw[e] at h;cases o with
    |none=>cases h
    | some i =>
      refine⟨i,rfl,?_⟩;have h' : (en[i]?).getD none=some x:=sI h;cases e2:en[i]? with
      |none=>rw[e2] at h';exact noSome h'
      |some z=>rw[e2] at h';exact congrArg some h'
theorem zqm {cap:Cap}{σ:St}{i j:Nat}(h:cap[j]?=some (some i)):(capSt cap σ)[j]?=some ((σ[i]?).getD none):=by
 unfold capSt;rw[Ai,h]
 rfl
theorem zfc {cap:Cap}{σ:St}{i j:Nat}{v:V}(h:cap[j]?=some (some i))(hv:σ[i]?=some (some v)):(capSt cap σ)[j]?=some (some v):=by
 rw[zqm h,hv];rfl
theorem backEn_get {cap:Cap}{en ce:En}{i:Nat}{x:W × Bool} (h:(zam cap en ce)[i]?=some (some x)):(∃j,zaq cap i=some j/\ce[j]?=some (some x))\/(zaq cap i=none/\en[i]?=some (some x)):=by
  unfold zam at h;rw[Ex] at h;cases e:en[i]? with
  |none=>rw[e] at h;exact noSome h
  | some o =>
    rw[e] at h;cases c:zaq cap i with
    |none=>simp only [c,Gs] at h;exact .inr ⟨rfl,h⟩
    | some j =>
      simp only [c,Gs] at h;have h' : (ce[j]?).getD none=some x:=sI h;refine .inl ⟨j,rfl,?_⟩;cases e2:ce[j]? with
      |none=>rw[e2] at h';exact noSome h'
      |some z=>rw[e2] at h';exact congrArg some h'
noncomputable def zbt (pr:Prt) (cap:Cap) (en:En) (σ:St) (H:Hp):Prt:=λb o=>pr b o\/∃(j:Nat) (w:W),en[j]?=some (#v[w,5])/\zaq cap j=none/\σ[j]?=some (some (V.ref b))/\H b=some o
noncomputable def zhi (pb:Prt) (acc:Addr) (vs:List V):Prt:=λb o=>pb b o\/(b=acc/\o=.lst vs)
section
variable {K:PySem.W.Frag}{F H:Hp}{pr pb:Prt}{en:En}{σ:St}
theorem Rel.ownT (R:Rel K F pr en σ H){j:Nat}{w:W}{b:Addr}{ps:Array Value}(e:en[j]?=some (#v[w,5]))(s:σ[j]?=some (some (V.ref b))):H b≠some (.tbl ps):=λz=>by
 obtain⟨a,o,w',_,h2,h3,_,h5⟩:=R.own j w e;rw[s] at h2;cases h2;rw[z] at h3;obtain rfl:=sI h3;cases h5
theorem zh5 {cap:Cap}{b:Addr}{ps:Array Value}(R:Rel K F pr en σ H)(e:H b=some (.tbl ps))(hh:∀o,¬ pr b o):∀o,¬ zbt pr cap en σ H b o:=λo z=>by
 rcases z with z|⟨j,w,q1,_,q2,_⟩
 ·exact hh o z
 ·exact R.ownT q1 q2 e
theorem zii {cap:Cap}{b:Addr}{xs:List V}(R:Rel K F pr en σ H)(z:zbt pr cap en σ H b (.tup xs)):pr b (.tup xs):=by
 rcases z with z|⟨j,w,q1,_,q2,q3⟩
 ·exact z
 ·obtain⟨a,o,w', _,h2,h3,_,h5⟩:=R.own j w q1;rw[q2] at h2;cases h2;rw[q3] at h3;obtain rfl:=sI h3;cases h5
theorem Rel.accUpd {acc:Addr}{vs us:List V}(R:Rel K F (zhi pb acc vs) en σ H)(hb:∀b o,pb b o->b≠acc):Rel K F (zhi pb acc us) en σ (upd H acc (.lst us)):=by
 obtain⟨a1,a2,a3⟩:=R.prt acc (.lst vs) (.inr ⟨rfl,rfl⟩);have nt:∀b ps,H b=some (.tbl ps)->b≠acc:=λb ps e z=>by subst z;rw[a1] at e;cases e
 have nx:∀b φ,H b=some (.ext φ)->b≠acc:=λb φ e z=>by subst z;rw[a1] at e;cases e
 refine⟨R.len,λb o e=>?_,R.val,λi w e=>?_,R.inj,λb o q=>?_,R.tb.go (λb xs z=>z.elim .inl λz=>nomatch z.2) (λb ps e f=>⟨by rw[upd_ne (nt b ps e)];exact e,f⟩) (.refl F) λb ps e hh o z=>z.elim (λz=>hh o (.inl z)) λz=>nt b ps e z.1⟩
 ·have : b ≠ acc:=λz=>by subst z; rw[a2] at e; exact noSome e
  rw[upd_ne this];exact R.sub _ _ e
 ·refine aG λGg qG => ?_;obtain⟨a,vs',ws,h1,h2,h3,h4,h5⟩:=R.own i w e;ac_rfl;have:a≠acc:=λz=>by subst z;exact a3 i w e h2
  exact⟨a,vs',ws,h1,h2,by rw[upd_ne this];exact h3,h4,h5⟩
 ·rcases q with q|⟨rfl,rfl⟩
  ·obtain⟨b1,b2,b3⟩:=R.prt b o (.inl q);exact⟨by rw[upd_ne (hb b o q)];exact b1,b2,b3⟩
  ·exact⟨upd_same,a2,a3⟩
theorem zvw {cap:Cap}{acc:Addr}(R:Rel K F pr en σ H)(hn:H acc=none):∀b o,zbt pr cap en σ H b o->b≠acc:=λb o q=>by
 rcases q with q|⟨j,w,_,_,_,q⟩
 ·exact zad (R.prt b o q).1 hn
 ·exact zad q hn
theorem Rel.block {cap:Cap}{acc:Addr}(R:Rel K F pr en σ H)(hn:H acc=none)(nd:zbx cap=true):Rel K F (zhi (zbt pr cap en σ H) acc []) (zfj cap en) (capSt cap σ) (upd H acc (.lst [])):=by
 have fa:F acc=none:=R.sub.free hn;have R2:=R.lay hn (.lst []);refine⟨by unfold zfj capSt;rw[Ab,Ab],R2.sub,λj w e=>?_,λj w e=>?_,λj l a w w' e1 e2 q1 q2=>?_,λb o q=>?_,R.tb.go (λb xs z=>z.elim (zii R) λz=>nomatch z.2) (λb ps e f=>⟨by rw[upd_ne (zad e hn)];exact e,f⟩) (.refl F) λb ps e hh o z=>z.elim (zh5 R e hh o) λz=>zad e hn z.1⟩
 ·refine aG λGg qG => ?_;obtain⟨i,c,e⟩:=zc3 e;obtain⟨v,h1,h2⟩:=R.val i w e;ac_rfl;exact⟨v,zfc c h1,h2⟩
 ·refine aG λGg qG => ?_;obtain⟨i,c,e⟩:=zc3 e;obtain⟨a,vs,ws,h1,h2,h3,h4,h5⟩:=R2.own i w e;ac_rfl;exact⟨a,vs,ws,h1,zfc c h2,h3,h4,h5⟩
 ·refine aG λGg qG => ?_;obtain⟨i,c1,e1⟩:=zc3 e1;obtain⟨k,c2,e2⟩:=zc3 e2;obtain⟨i',c1',q1⟩:=capSt_get q1;obtain⟨k',c2',q2⟩:=capSt_get q2;ac_rfl;rw[c1] at c1';cases c1';rw[c2] at c2';cases c2';have:=R.inj i k a _ _ e1 e2 q1 q2;subst this;have x:=zfy nd c1;rw[zfy nd c2] at x;exact (sI x).symm
 ·have own2:∀(j:Nat) (w:W),(zfj cap en)[j]?=some (some (w,true))->∃(i:Nat) (a:Addr),cap[j]?=some (some i)/\en[i]?=some (some (w,true))/\σ[i]?=some (some (V.ref a))/\(capSt cap σ)[j]?=some (some (V.ref a))/\∃o,H a=some o:=fun j w e=>by
   nofun;obtain⟨i,c,e⟩:=zc3 e;obtain⟨a,vs,ws,h1,h2,h3,h4,h5⟩:=R.own i w e;ac_rfl;exact⟨i,a,c,e,h2,zfc c h2,_,h3⟩
  rcases q with (q|⟨j0,w0,e0,c0,s0,h0⟩)|⟨rfl,rfl⟩
  ·obtain⟨b1,b2,b3⟩:=R2.prt b o q;refine⟨b1,b2,λj w e=>?_⟩;nofun;obtain⟨i,a,_,e,h2,h3,_⟩:=own2 j w e;ac_rfl;rw[h3];intro z;cases z;exact b3 i w e h2
  ·refine aG λGg qG => ?_;obtain⟨a,vs,ws,h1,h2,h3,h4,h5⟩:=R.own j0 w0 e0;ac_rfl;rw[s0] at h2;cases h2;refine⟨by rw[upd_ne (zad h0 hn)];exact h0,h4,λj w e=>?_⟩;nofun;obtain⟨i,a,c,e,h2,h3,_⟩:=own2 j w e;ac_rfl;rw[h3];intro z;cases z;have:=R.inj i j0 _ _ _ e e0 h2 s0;subst this;exact zcs c0 j c
  ·refine⟨upd_same,fa,λj w e => ?_⟩;nofun;obtain⟨i,a,c,e,h2,h3,o,h4⟩:=own2 j w e;ac_rfl;rw[h3];intro z;cases z;rw[hn] at h4;exact noSome h4
theorem Rel.unblock {cap:Cap}{acc:Addr}{F' H' : Hp}{ce:En}{σc:St}{vs:List V}{ws:List W} (R:Rel K F pr en σ H) (hn:H acc=none) (s:Same F F') (Rc:Rel K F' (zhi (zbt pr cap en σ H) acc vs) ce σc H') (kp:Keep (capKeep cap) (capSt cap σ) σc) (rs:Reps K F' ws vs) :
  Rel K F' pr (zam cap en ce) σ H'/\Res K F' H' pr (zam cap en ce) σ (.lst ws,true) (.ref acc):=by
 have slot:∀(i j:Nat) (v:V),zaq cap i=some j->σc[j]?=some (some v)->σ[i]?=some (some v):=λi j v c e=>by
  have c':=zbi c;rw[kp j (zpt c'),zqm c'] at e;have e' : (σ[i]?).getD none=some v:=sI e;cases q:σ[i]? with
  |none=>rw[q] at e';exact noSome e'
  |some z=>rw[q] at e';exact congrArg some e'
 obtain⟨a1,a2,a3⟩:=Rc.prt acc (.lst vs) (.inr ⟨rfl,rfl⟩);have un:∀(i:Nat) (w:W),zaq cap i=none->en[i]?=some (#v[w,5])->∃(a:Addr) (vs:HO) (ws:W),w=ws/\σ[i]?=some (some (V.ref a))/\H a=some vs/\H' a=some vs/\F' a=none/\OwnR K F ws vs/\∀(j:Nat) (w' : W),ce[j]?=some (#v[w',5])->σc[j]?≠some (some (V.ref a)):=λi w c e=>by
  nofun;obtain⟨a,vs,ws,h1,h2,h3,h4,h5⟩:=R.own i w e;obtain⟨b1,b2,b3⟩:=Rc.prt a vs (.inl (.inr ⟨i,w,e,c,h2,h3⟩));ac_rfl;exact⟨a,vs,ws,h1,h2,h3,b1,b2,h5,b3⟩
 have capt:∀(i j:Nat) (w:W),zaq cap i=some j->ce[j]?=some (#v[w,5])->∃(a:Addr) (vs:HO) (ws:W),w=ws/\σ[i]?=some (some (V.ref a))/\σc[j]?=some (some (V.ref a))/\H' a=some vs/\F' a=none/\OwnR K F' ws vs:=λi j w c e=>by
  nofun;obtain⟨a,vs,ws,h1,h2,h3,h4,h5⟩:=Rc.own j w e;ac_rfl;exact⟨a,vs,ws,h1,slot i j _ c h2,h2,h3,h4,h5⟩
 refine⟨⟨by unfold zam;rw[List.length_mapIdx];exact R.len,Rc.sub,λi w e=>?_,λi w e=>?_,λi k a w w' e1 e2 q1 q2=>?_,λb o q=>?_,Rc.tb.go (λb xs z=>.inl (.inl z)) (λb ps e f=>⟨e,f⟩) (.refl F') λb ps e hh o z=>hh o (.inl (.inl z))⟩,acc,_,_,rfl,rfl,a1,a2,.lst rs,λi w e=>?_,λb o q=>zad (R.prt b o q).1 hn⟩
 ·rcases backEn_get e with⟨j,c,e⟩|⟨c,e⟩
  ·obtain⟨v,h1,h2⟩:=Rc.val j w e;exact⟨v,slot i j v c h1,h2⟩
  ·obtain⟨v,h1,h2⟩:=R.val i w e;exact⟨v,h1,h2.mono s⟩
 ·rcases backEn_get e with⟨j,c,e⟩|⟨c,e⟩
  ·refine aG λGg qG => ?_;obtain⟨a,vs,ws,h1,h2,_,h3,h4,h5⟩:=capt i j w c e;ac_rfl;exact⟨a,vs,ws,h1,h2,h3,h4,h5⟩
  ·refine aG λGg qG => ?_;obtain⟨a,vs,ws,h1,h2,_,h3,h4,h5,_⟩:=un i w c e;ac_rfl;exact⟨a,vs,ws,h1,h2,h3,h4,h5.mono s⟩
 ·rcases backEn_get e1 with⟨j,c,e1⟩|⟨c,e1⟩
  ·refine aG λGg qG => ?_;obtain⟨a',_,_,_,h2,h3,_⟩:=capt i j w c e1;ac_rfl;rw[q1] at h2;cases h2;rcases backEn_get e2 with⟨l,c2,e2⟩|⟨c2,e2⟩
   ·refine aG λGg qG => ?_;obtain⟨a',_,_,_,g2,g3,_⟩:=capt k l w' c2 e2;ac_rfl;rw[q2] at g2;cases g2;have:=Rc.inj j l a _ _ e1 e2 h3 g3;subst this;have x:=zbi c;rw[zbi c2] at x;cases x;rfl
   ·refine aG λGg qG => ?_;obtain⟨a',_,_,_,g2,_,_,_,_,g3⟩:=un k w' c2 e2;ac_rfl;rw[q2] at g2;cases g2;exact absurd h3 (g3 j w e1)
  ·refine aG λGg qG => ?_;obtain⟨a',_,_,_,h2,_,_,_,_,h3⟩:=un i w c e1;ac_rfl;rw[q1] at h2;cases h2;rcases backEn_get e2 with⟨l,c2,e2⟩|⟨c2,e2⟩
   ·refine aG λGg qG => ?_;obtain⟨a',_,_,_,g2,g3,_⟩:=capt k l w' c2 e2;ac_rfl;rw[q2] at g2;cases g2;exact absurd g3 (h3 l w' e2)
   ·exact R.inj i k a _ _ e1 e2 q1 q2
 ·obtain⟨b1,b2,b3⟩:=Rc.prt b o (.inl (.inl q));refine⟨b1,b2,λi w e=>?_⟩;rcases backEn_get e with⟨j,c,e⟩|⟨c,e⟩
  ·refine aG λGg qG => ?_;obtain⟨a,_,_,_,h2,h3,_⟩:=capt i j w c e;ac_rfl;rw[h2];intro z;cases z;exact b3 j w e h3
  ·exact (R.prt b o q).2.2 i w e
 ·rcases backEn_get e with⟨j,c,e⟩|⟨c,e⟩
  ·refine aG λGg qG => ?_;obtain⟨a,_,_,_,h2,h3,_⟩:=capt i j w c e;ac_rfl;rw[h2];intro z;cases z;exact a3 j w e h3
  ·refine aG λGg qG => ?_;obtain⟨a,_,_,_,h2,h3,_⟩:=un i w c e;ac_rfl;rw[h2];intro z;cases z;rw[hn] at h3;exact noSome h3
end
noncomputable def zf9 (mp:List Nat) (T:Tg) (tc:GT) (te:GE):List W->En->Option (En × List W)
  |[],ce=>some (ce,[])
  | w::ws,ce=>(tgSet mp T w ce).bind fun c1=>match tc c1 with
    |#v[c2,5]=>(te c2).bind λp=>(zf9 mp T tc te ws p.1).bind λq=>some (q.1,p.2.1::q.2)
    |#v[c2,6]=>zf9 mp T tc te ws c2
    |none=>none
noncomputable def za9 (cap:Cap) (T:Tg) (it:GL) (tc:GT) (te:GE):GE:=λen=>(it en).bind λp=>if zbx cap && decide (p.2.length<=sizeLine) then (zf9 (capKeep cap) T tc te p.2 (zfj cap p.1)).bind λq=>some (zam cap p.1 q.1,(.lst q.2,true)) else none
noncomputable def gYes:GT:=λen=>#v[en,5]
noncomputable def zem (mp:List Nat) (T:Tg) (tc:GT) (em:GL):List W->En->Option (En × List W)
  |[],ce=>some (ce,[])
  | w::ws,ce=>(tgSet mp T w ce).bind fun c1=>match tc c1 with
    |#v[c2,5]=>(em c2).bind λp=>(zem mp T tc em ws p.1).bind λq=>some (q.1,p.2++q.2)
    |#v[c2,6]=>zem mp T tc em ws c2
    |none=>none
noncomputable def gOne (te:GE):GL:=λen=>(te en).bind λp=>some (p.1,[p.2.1])
noncomputable def gTwo (mp:List Nat) (T:Tg) (it:GL) (tc:GT) (em:GL):GL:=λen=>(it en).bind λp=>zem mp T tc em p.2 p.1
noncomputable def zu3 (cap:Cap) (T:Tg) (it:GL) (tc:GT) (em:GL):GE:=λen=>(it en).bind λp=>if zbx cap then (zem (capKeep cap) T tc em p.2 (zfj cap p.1)).bind λq=>if q.2.length<=sizeLine then some (zam cap p.1 q.1,(.lst q.2,true)) else none else none
noncomputable def zxh (cap:Cap) (T:Tg) (it:GL) (tc:GT) (T2:Tg) (it2:GL) (tc2:GT) (te:GE):GE:=zu3 cap T it tc (gTwo (capKeep cap) T2 it2 tc2 (gOne te))
theorem zf2 {mp:List Nat}{T:Tg}{tc:GT}{te:GE}:∀{ws:List W}{ce ce' : En}{out:List W},zf9 mp T tc te ws ce=some (ce',out)->zem mp T tc (gOne te) ws ce=some (ce',out)/\out.length<=ws.length
  |[],_,_,_,h=>by cases h;exact⟨rfl,Ag _⟩
  | w::ws,ce,ce',out,h=>by
    obtain ⟨c1,h1,h⟩:=bS (show (tgSet mp T w ce).bind _=_ from h);have e:zem mp T tc (gOne te) (w::ws) ce=match tc c1 with
      |#v[c2,5]=>(gOne te c2).bind λp=>(zem mp T tc (gOne te) ws p.1).bind λq=>some (q.1,p.2++q.2)
      |#v[c2,6]=>zem mp T tc (gOne te) ws c2
      |none=>none:=by rw[zem,h1];rfl
    rw[e];cases et:tc c1 with
    |none=>simp only [et] at h;exact noSome h
    | some p =>
      obtain⟨c2,b⟩:=p;cases b with
      |false=>simp only [et] at h;exact⟨(zf2 h).1,Nat.le_succ_of_le (zf2 h).2⟩
      | true =>
        simp only [et] at h;obtain⟨⟨c3,rv⟩,h5,h⟩:=bS h;obtain⟨⟨c4,rest⟩,h6,h⟩:=bS h;cases h;refine⟨?_,Nat.succ_le_succ (zf2 h6).2⟩;show (gOne te c2).bind _=_;rw[gOne,h5];show (zem mp T tc (gOne te) ws c3).bind _=_;rw[(zf2 h6).1]
        rfl
noncomputable def MOk (K:PySem.W.Frag) (mp:List Nat) (pb:Prt) (acc:Addr) (em:GL) (tm:TM):Prop:=∀(F:Hp) (ce:En) (σ:St) (H:Hp) (vs:List V) (ce' : En) (out:List W) (N:St->Hp->Prop),Rel K F (zhi pb acc vs) ce σ H->em ce=some (ce',out)->vs.length+out.length<=sizeLine ->
 (∀F' σ' H' us,Same F F'->Rel K F' (zhi pb acc (vs++us)) ce' σ' H'->Keep mp σ σ'->Reps K F' out us->N σ' H')->tm σ H N
section
variable {K:PySem.W.Frag}{mp:List Nat}{pb:Prt}{acc:Addr}
theorem z82 {te:GE}(hb:∀b o,pb b o->b≠acc):MOk K mp pb acc (gOne te) (ztm acc (tE K te)):=by
 intro F ce σ H vs ce' out N R h hz q;nofun;obtain⟨⟨c3,rv⟩,h5,h⟩:=bS h;ac_rfl;cases h;refine⟨F,_,ce,c3,rv,R,h5,λF6 H6 v s6 R6 y6=>?_⟩;nofun;obtain⟨F7,s7,R7,y7⟩:=y6.freeze R6;obtain⟨a1,_,_⟩:=R7.prt acc (.lst vs) (.inr ⟨rfl,rfl⟩);ac_rfl;exact⟨vs,a1,hz,q F7 σ _ [v] (s6.trans s7) (R7.accUpd hb) (.refl _ _) (.cons y7 .nil)⟩
theorem zww {em:GL}{tm:TM}{T:Tg}{tc:GT}{F1:Hp}{vs0:List V}{ce0 ce' : En}{σ0:St}{H0:Hp}{J:It}{ws out:List W}{N0:St->Hp->Prop} (M:MOk K mp pb acc em tm) (R:Rel K F1 (zhi pb acc vs0) ce0 σ0 H0) (ok:ItOk K F1 J ws) (h:zem mp T tc em ws ce0=some (ce',out)) (hz:vs0.length+out.length<=sizeLine)
    (q:∀F' σ' H' us,Same F1 F'->Rel K F' (zhi pb acc (vs0++us)) ce' σ' H'->Keep mp σ0 σ'->Reps K F' out us->N0 σ' H'):zkj J (TGof K T) (tT K tc) tm σ0 H0 N0:=by
  refine ⟨fun i m σc Hc=>m=ws.length - i/\i<=ws.length/\∃F' ce dn us rest,Same F1 F'/\Rel K F' (zhi pb acc (vs0++us)) ce σc Hc/\Keep mp σ0 σc/\Reps K F' dn us/\zem mp T tc em (ws.drop i) ce=some (ce',rest)/\dn++rest=out,
    ⟨_,rfl,Bk _,F1,ce0,[],[],out,.refl _,by rw[By];exact R,.refl _ _,.nil,h,rfl⟩,?_⟩
  rintro i m σc Hc ⟨rfl,hi,F',ce,dn,us,rest,s',R',k',rd,hl,ho⟩;by_cases hlt:i<ws.length
  · refine .inr ⟨ok.go i Hc (s'.trans R'.sub) hlt, ?_⟩
    have hd:ws.drop i=ws[i]::ws.drop (i+1):=(Cm hlt);rw[hd] at hl;obtain⟨c1,h3,hl⟩:=bS (show (tgSet mp T ws[i] ce).bind _=_ from hl);refine⟨λσ2 H2=>∃F' ce dn us rest,Same F1 F'/\Rel K F' (zhi pb acc (vs0++us)) ce σ2 H2/\Keep mp σ0 σ2/\Reps K F' dn us/\zem mp T tc em (ws.drop (i+1)) ce=some (ce',rest)/\dn++rest=out,λσ2 H2 z=>⟨ws.length - (i+1),by omega,rfl,hlt,z⟩,?_⟩;intro x H2 y;obtain⟨w,ew,o⟩:=ok.yld i Hc x H2 (s'.trans R'.sub) hlt y;rw[Ae hlt] at ew;obtain rfl:=sI ew;nofun;obtain⟨F3,s3,R3,z3⟩:=(o.mono s').close R';ac_rfl;refine zo5 (w:=ws[i]) R3 z3 h3 λσ3 R4 k4=>?_;cases et:tc c1 with
    |none=>simp only [et] at hl;exact noSome hl
    | some p =>
      obtain⟨c2,b⟩:=p;refine⟨F3,_,c1,c2,b,R4,et,λF5 H5 s5 R5=>?_⟩;cases b with
      | false =>
        simp only [et] at hl;exact iteF ⟨F5,c2,dn,us,rest,s'.trans (s3.trans s5),R5,k'.trans k4,rd.mono (s3.trans s5),hl,ho⟩
      | true =>
        simp only [et] at hl;nofun;obtain⟨⟨c3,o1⟩,h5,hl⟩:=bS hl;obtain⟨⟨c4,rest'⟩,h6,hl⟩:=bS hl;ac_rfl;cases hl;refine iteT (M F5 c2 σ3 H5 (vs0++us) c3 o1 _ R5 h5 ?_ λF6 σ6 H6 us2 s6 R6 k6 r6=>?_)
        · dsimp only at ho
          rw[<-ho,Ba,Ba,rd.length] at hz;rw[Ba];omega
        · have sAll : Same F' F6 := s3.trans (s5.trans s6)
          exact⟨F6,c3,dn++o1,us++us2,rest',s'.trans sAll,by rw[<-Bb];exact R6,k'.trans (k4.trans k6),(rd.mono sAll).append r6,h6,by rw[Bb];exact ho⟩
  · have e : i = ws.length := by omega
    subst e;rw[List.drop_length] at hl;cases hl;rw[By] at ho;subst ho;exact .inl ⟨ok.stop Hc (s'.trans R'.sub),q F' σc Hc us s' R' k' rd⟩
theorem yc3 {em:GL}{tm:TM}{T:Tg}{it:GL}{tc:GT}(M:MOk K mp pb acc em tm):MOk K mp pb acc (gTwo mp T it tc em) (tTwo (tI K it) (TGof K T) (tT K tc) tm):=by
 intro F ce σ H vs ce' out N R h hz q;nofun;obtain⟨⟨e1,ws⟩,h1,h⟩:=bS h;ac_rfl;exact⟨F,_,ce,e1,ws,R,h1,λF1 H1 J s1 R1 ok=>zww M R1 ok h hz λF' σ' H' us s'=>q F' σ' H' us (s1.trans s')⟩
end
theorem zib {K:PySem.W.Frag}{cap:Cap}{T:Tg}{it:GL}{tc:GT}{em:GL}{tm:Addr->TM}{σ:St}{H:Hp}{Q:VK}(M:∀(pb:Prt) (acc:Addr),(∀b o,pb b o->b≠acc)->MOk K (capKeep cap) pb acc em (tm acc))(h:tE K (zu3 cap T it tc em) σ H Q):zv9 (tI K it) cap (TGof K T) (tT K tc) tm σ H Q:=by
 nofun;obtain⟨F,pr,en,en',r,R,h,q⟩:=h;obtain⟨⟨e1,ws⟩,h1,h⟩:=bS h;ac_rfl;refine⟨F,pr,en,e1,ws,R,h1,λF1 H1 J s1 R1 ok acc hacc=>?_⟩;split at h
 ·rename_i nd;nofun;obtain⟨⟨ce',out⟩,h2,h⟩:=bS h;ac_rfl;split at h
  ·rename_i hz;cases h;refine zww (M _ acc (zvw (cap:=cap) R1 hacc)) (R1.block hacc nd) ok h2 (by rw[Gu,Cf];exact hz) λF' σ' H' us s' R' k' rd=>?_;obtain⟨Ro,rz⟩:=R1.unblock hacc s' R' k' rd;exact q F' H' _ (s1.trans s') Ro rz
  ·exact noSome h
 ·exact noSome h
theorem zvk {K:PySem.W.Frag}{cap:Cap}{T:Tg}{it:GL}{tc:GT}{te:GE}{σ:St}{H:Hp}{Q:VK}(h:tE K (za9 cap T it tc te) σ H Q):zv9 (tI K it) cap (TGof K T) (tT K tc) (λacc=>ztm acc (tE K te)) σ H Q:=by
 refine zib (λpb acc hb=>z82 hb) ?_;obtain⟨F,pr,en,en',r,R,h,q⟩:=h;refine⟨F,pr,en,en',r,R,?_,q⟩;nofun;obtain⟨⟨e1,ws⟩,h1,h⟩:=bS h;ac_rfl;split at h
 ·rename_i z;rw[Ad] at z;nofun;obtain⟨⟨ce',out⟩,h2,h⟩:=bS h;ac_rfl;obtain⟨h3,h4⟩:=zf2 h2;rw[zu3,h1];show (if zbx cap=true then (zem (capKeep cap) T tc (gOne te) ws (zfj cap e1)).bind _ else none)=_;rw[if_pos z.1,h3];show (if out.length<=sizeLine then _ else none)=_;rw[if_pos (Ci h4 (Au z.2))];exact h
 ·exact noSome h
noncomputable def ydv:GE:=λen=>some (en,(.dic,false))
noncomputable def keyW:W->Bool
 |.int _=>true
 |.str _=>true
 |_=>false
noncomputable def yct (k v:GE):GE:=λen=>(k en).bind λp=>if keyW p.2.1 then (v p.1).bind λq=>some (q.1,(.dic,false)) else none
noncomputable def Src (h:Heap) (it l:Addr) (k:Nat) (xs:Array Value):Prop:=(h.IsListIter it l k/\h.IsList l xs)\/(h.IsTupleIter it l k/\h.IsTuple l xs)
theorem Src.at {h h' : Heap}{it l:Addr}{k:Nat}{xs:Array Value}(c:Src h it l k xs)(a:∀o,h.get? it=some o->h'.get? it=some o)(b:∀o,h.get? l=some o->h'.get? l=some o):Src h' it l k xs:=by
 rcases c with⟨p,q⟩|⟨p,q⟩
 ·exact .inl ⟨p.at a,q.at b⟩
 ·obtain⟨o,e,r⟩:=q;exact .inr ⟨p.at a,o,b o e,r⟩
theorem Src.src {h:Heap}{it l:Addr}{k:Nat}{xs:Array Value}(c:Src h it l k xs):∃o,h.get? l=some o:=by
 rcases c with⟨_,⟨o,e,_⟩⟩|⟨_,⟨o,e,_⟩⟩<;>exact⟨o,e⟩
section
variable {prog:Program}{w:World}{A:Around}{E:Value->Shared->Prop}{s:Shared}
theorem zf0 {it l:Addr}{k:Nat}{xs:Array Value}{x:Value}{Q:Value->Shared->Prop} (c:Src s.heap it l k xs) (hx:xs[k]?=some x) (ne:l≠it)
  (q:∀h',Src h' it l (k+1) xs->Heap.SameBut it s.heap h'->Q x { s with heap:=h' }):wpAny (model prog w) A (Builtin.SmallTypes.nextOf (.ref it)) Q E s:=by
 rcases c with⟨c1,c2⟩|⟨c1,c2⟩
 ·exact wpAny_nextOf_list_item c1 c2 hx λh' a b=>q h' (.inl ⟨a,c2.at λo e=>(b.2 l ne).trans e⟩) b
 ·refine aG λGg qG => ?_;obtain⟨oi,ei,ci,di⟩:=id c1;obtain⟨os,es,cs,ns,ds⟩:=id c2;ac_rfl;unfold Builtin.SmallTypes.nextOf;refine Aa (Bz (name:=Str.ofString "__next__") c1.typeIs Fq (Cw Fq c1.typeIs F.entry_tuple_iterator_next ?_ (F.args_tuple_iterator_next_1 _)));refine (show wpAny _ _ (field (.ref it) 0 >>= _) _ _ s from Aa (Ck ei di (x:=.ref l) rfl ?_));refine (show wpAny _ _ (if (Value.ref l == Value.none)=true then _ else _) _ _ s from ?_);rw[if_neg (by intro z;cases z)];refine (show wpAny _ _ (field (.ref it) 1 >>= _) _ _ s from Aa (Ck ei di (x:=.int k 0) rfl ?_));refine (show wpAny _ _ (seqItems? (.ref l) >>= _) _ _ s from Aa (Db es ds ?_));simp only [Cy,hx];refine Aa (wpAny_setField ei di (by simp) (Af ⟨x,rfl,Af ?_⟩));refine q _ (.inr ⟨⟨_,Fg _ ei (Obj.isFreed_of_fields (Hk di _)),(Obj.cls_mapFields ..).trans ci,by rw[Hk di];simp [rawInt]⟩,os,?_,cs,ns,ds⟩) (Cp ..);exact ((Cp ..).2 l ne).trans es
theorem zju {it l:Addr}{k:Nat}{xs:Array Value}{Q:Value->Shared->Prop} (hn:A.handled=none) (c:Src s.heap it l k xs) (hx:xs[k]?=none)
  (q:∀h' e,Heap.ExtBut it s.heap h'->(∃o,h'.get? e=some o/\o.cls=.type "StopIteration")->E (.ref e) { s with heap:=h' }):wpAny (model prog w) A (Builtin.SmallTypes.nextOf (.ref it)) Q E s:=by
 rcases c with⟨c1,c2⟩|⟨c1,c2⟩
 ·exact wpAny_nextOf_list_end hn c1 c2 hx q
 ·obtain⟨oi,ei,ci,di⟩:=id c1;obtain⟨os,es,cs,ns,ds⟩:=id c2;unfold Builtin.SmallTypes.nextOf;refine Aa (Bz (name:=Str.ofString "__next__") c1.typeIs Fq (Cw Fq c1.typeIs F.entry_tuple_iterator_next ?_ (F.args_tuple_iterator_next_1 _)));refine (show wpAny _ _ (field (.ref it) 0 >>= _) _ _ s from Aa (Ck ei di (x:=.ref l) rfl ?_));refine (show wpAny _ _ (if (Value.ref l == Value.none)=true then _ else _) _ _ s from ?_);rw[if_neg (by intro z;cases z)];refine (show wpAny _ _ (field (.ref it) 1 >>= _) _ _ s from Aa (Ck ei di (x:=.int k 0) rfl ?_));refine (show wpAny _ _ (seqItems? (.ref l) >>= _) _ _ s from Aa (Db es ds ?_));simp only [Cy,hx];refine Aa (Cv (Aa (wpAny_setField ei di (by simp) (show wpAny _ _ (newExc (.type "StopIteration") [] >>= _) _ _ _ from Aa ?_))));simp only [newExc,newTuple];refine Aa (Bu (Aa (m:=firstArgMember _ _) (Hm (a:=Value.none) (by first|rfl|(simp only [firstArgMember];rfl)) (Bu ?_ (by size_fits)))) (by size_fits));simp only [raiseNew];refine Aa (wpAny_handled ?_);rw[show A.in1.handled=none from hn];exact Aa (Af (wpAny_throw (q _ _ (((Cp ..).extBut.push _).push _) ⟨_,As _ rfl,rfl⟩)))
theorem z4w {z TI TO i1 i2 l1 l2:Addr}{k1 k2:Nat}{xs ys:Array Value}{x y a b:Value}{Q:Value->Shared->Prop} (D:ZipApart z TI TO i1 i2 l1 l2) (gz:IsZip s.heap z TI TO .none) (gi:IsPair s.heap TI (.ref i1) (.ref i2)) (go:IsPair s.heap TO a b)
  (c1:Src s.heap i1 l1 k1 xs) (c2:Src s.heap i2 l2 k2 ys) (ex:xs[k1]?=some x) (ey:ys[k2]?=some y)
  (q:∀h',IsZip h' z TI TO (rawInt s.heap.objs.size)->IsPair h' TO x y->Src h' i1 l1 (k1+1) xs->Src h' i2 l2 (k2+1) ys->IsPair h' s.heap.objs.size x y ->
   (∀c o,c≠z->c≠TO->c≠i1->c≠i2->s.heap.get? c=some o->h'.get? c=some o)->Q (.ref s.heap.objs.size) { s with heap:=h' }) :
  wpAny (model prog w) A (Builtin.«zip.__next__» ⟨[.ref z],[]⟩) (λfin s'=>∃v,fin=.done (.ret v)/\Q v s') E s:=by
 refine (show wpAny _ _ (field (.ref z) 2 >>= _) _ _ _ from Aa (Ck gz rfl (x:=.bool false) rfl ?_));refine (show wpAny _ _ (field (.ref z) 3 >>= _) _ _ _ from Aa (Ck gz rfl (x:=.ref TI) rfl (Aa (Db gi rfl ?_))));refine (show wpAny _ _ (Builtin.SmallTypes.ownedTupleIsFree (.ref z) >>= _) _ _ _ from Aa ?_);unfold Builtin.SmallTypes.ownedTupleIsFree;refine Aa (Ck gz rfl (x:=.none) rfl (Af ?_));simp only [Dp];refine Aa (Cv (Aa (Ck gz rfl (x:=.ref TO) rfl (Aa (Er gz (by simp) λg1 z1 u1=>?_)))));have z1' : IsZip g1 z TI TO .ellipsis:=z1;refine Aa ?_;simp only [List.zipIdx_cons,List.zipIdx_nil,Gv,Fa];have k1' : ∀c o,c≠z->s.heap.get? c=some o->g1.get? c=some o:=λc o n e=>u1.extBut _ _ n e;refine Aa (Aa (wpAny_onRaise (show wpAny _ _ (Builtin.SmallTypes.nextOf (.ref i1) >>= _) _ _ _ from Aa (zf0 (c1.at (λo=>k1' _ o D.i1z) λo=>k1' _ o D.l1z) ex D.l1i1 λg2 d2 u2=>Af ?_))));have k2' : ∀c o,c≠z->c≠i1->s.heap.get? c=some o->g2.get? c=some o:=λc o n m e=>u2.extBut _ _ m (k1' c o n e);refine Aa (Db (k2' _ _ D.TOz D.TOi1 go) rfl (Aa (wpAny_updateSeq_pair (k2' _ _ D.TOz D.TOi1 go) λg3 t3 u3=>Aa (Gj (Af ?_)))));have t3' : IsPair g3 TO x b:=t3;have k3' : ∀c o,c≠z->c≠i1->c≠TO->s.heap.get? c=some o->g3.get? c=some o:=λc o n m r e=>u3.extBut _ _ r (k2' c o n m e);refine Aa (Aa (wpAny_onRaise (show wpAny _ _ (Builtin.SmallTypes.nextOf (.ref i2) >>= _) _ _ _ from Aa (zf0 (c2.at (λo=>k3' _ o D.i2z D.i12.symm D.TOi2.symm) λo=>k3' _ o D.l2z D.l2i1 D.l2TO) ey D.l2i2 λg4 d4 u4=>Af ?_))));have t4:IsPair g4 TO x b:=u4.extBut _ _ D.TOi2 t3';refine Aa (Db t4 rfl (Aa (wpAny_updateSeq_pair t4 λg5 t5 u5=>Aa (Gj (Af (Af ?_))))));have t5' : IsPair g5 TO x y:=t5;refine Aa (Db t5' rfl (Aa (wpAny_newTuple ?_)));have n5:g5.objs.size=s.heap.objs.size:=by rw[u5.1,u4.1,u3.1,u2.1,u1.1]
 have z5:IsZip g5 z TI TO .ellipsis:=u5.extBut _ _ D.TOz.symm (u4.extBut _ _ D.i2z.symm (u3.extBut _ _ D.TOz.symm (u2.extBut _ _ D.i1z.symm z1')));have k5:∀c o,c≠z->c≠TO->c≠i1->c≠i2->s.heap.get? c=some o->g5.get? c=some o:=λc o n r m p e=>u5.extBut _ _ r (u4.extBut _ _ p (k3' c o n m r e));have d2' : Src g5 i1 l1 (k1+1) xs:=d2.at (λo e=>u5.extBut _ _ D.TOi1.symm (u4.extBut _ _ D.i12 (u3.extBut _ _ D.TOi1.symm e))) λo e=>u5.extBut _ _ D.l1TO (u4.extBut _ _ D.l1i2 (u3.extBut _ _ D.l1TO e));have d4' : Src g5 i2 l2 (k2+1) ys:=d4.at (λo e=>u5.extBut _ _ D.TOi2.symm e) λo e=>u5.extBut _ _ D.l2TO e;refine (show wpAny _ _ (Builtin.SmallTypes.ownedTupleHandOut (.ref z) (.ref g5.objs.size) >>= _) _ _ _ from Aa ?_);unfold Builtin.SmallTypes.ownedTupleHandOut;have z6:IsZip (g5.push { cls:=.type "tuple",data:=.seq #[x,y] }) z TI TO .ellipsis:=Ac _ z5;refine Aa (Er z6 (by simp) λg7 z7 u7=>Er (show IsZip g7 z TI TO (rawInt g5.objs.size) from z7) (by simp) λg8 z8 u8=>Af ⟨_,rfl,?_⟩);have up:∀c o,c≠z->g5.get? c=some o->g8.get? c=some o:=λc o n e=>u8.extBut _ _ n (u7.extBut _ _ n (Ac _ e));have lz:g5.objs.size≠z:=Nat.ne_of_gt (Ar z5);have t8:IsPair g8 g5.objs.size x y:=u8.extBut _ _ lz (u7.extBut _ _ lz (As _ rfl));have z8' : IsZip g8 z TI TO (rawInt g5.objs.size):=z8;rw[n5] at t8 z8';show Q (.ref g5.objs.size) _;rw[n5];exact q g8 z8' (up _ _ D.TOz t5') (d2'.at (λo=>up _ o D.i1z) λo=>up _ o D.l1z) (d4'.at (λo=>up _ o D.i2z) λo=>up _ o D.l2z) t8 λc o n r m p e=>up c o n (k5 c o n r m p e)
theorem z9p {z TI TO i1 i2 l1 l2:Addr}{k1 k2:Nat}{xs ys:Array Value}{a b:Value}{Q:Fin->Shared->Prop} (hn:A.handled=none) (D:ZipApart z TI TO i1 i2 l1 l2) (gz:IsZip s.heap z TI TO .none) (gi:IsPair s.heap TI (.ref i1) (.ref i2)) (go:IsPair s.heap TO a b)
    (c1:Src s.heap i1 l1 k1 xs) (c2:Src s.heap i2 l2 k2 ys) (he:xs[k1]?=none\/ys[k2]?=none)
    (q:∀h' e,(∀c o,c≠z->c≠TO->c≠i1->c≠i2->s.heap.get? c=some o->h'.get? c=some o)->(∃o,h'.get? e=some o/\o.cls=.type "StopIteration")->E (.ref e) { s with heap:=h' }) :
    wpAny (model prog w) A (Builtin.«zip.__next__» ⟨[.ref z],[]⟩) Q E s:=by
  refine (show wpAny _ _ (field (.ref z) 2 >>= _) _ _ _ from Aa (Ck gz rfl (x:=.bool false) rfl ?_));refine (show wpAny _ _ (field (.ref z) 3 >>= _) _ _ _ from Aa (Ck gz rfl (x:=.ref TI) rfl (Aa (Db gi rfl ?_))));refine (show wpAny _ _ (Builtin.SmallTypes.ownedTupleIsFree (.ref z) >>= _) _ _ _ from Aa ?_);unfold Builtin.SmallTypes.ownedTupleIsFree;refine Aa (Ck gz rfl (x:=.none) rfl (Af ?_));simp only [Dp];refine Aa (Cv (Aa (Ck gz rfl (x:=.ref TO) rfl (Aa (Er gz (by simp) λg1 z1 u1=>?_)))));have z1' : IsZip g1 z TI TO .ellipsis:=z1;refine Aa ?_;simp only [List.zipIdx_cons,List.zipIdx_nil,Gv,Fa];have k1' : ∀c o,c≠z->s.heap.get? c=some o->g1.get? c=some o:=λc o n e=>u1.extBut _ _ n e;refine Aa (Aa (wpAny_onRaise (show wpAny _ _ (Builtin.SmallTypes.nextOf (.ref i1) >>= _) _ _ _ from Aa ?_)));have d1:Src g1 i1 l1 k1 xs:=c1.at (λo=>k1' _ o D.i1z) λo=>k1' _ o D.l1z;cases hx:xs[k1]? with
  | none =>
    refine zju hn d1 hx λg2 e u2 so=>?_;obtain⟨oe,ge,ce⟩:=so;have z2:IsZip g2 z TI TO .ellipsis:=u2 _ _ D.i1z.symm z1';have ne:e≠z:=λr=>by subst r;rw[z2] at ge;obtain rfl:=sI ge;simp at ce
    exact Er z2 (by simp) λg3 _ u3=>q g3 e (λc o n _ m _ x=>u3.extBut _ _ n (u2 _ _ m (k1' c o n x))) ⟨oe,u3.extBut _ _ ne ge,ce⟩
  | some x =>
    have hy:ys[k2]?=none:=he.resolve_left (by rw[hx];simp);refine zf0 d1 hx D.l1i1 λg2 d2 u2=>Af ?_;have k2' : ∀c o,c≠z->c≠i1->s.heap.get? c=some o->g2.get? c=some o:=λc o n m e=>u2.extBut _ _ m (k1' c o n e);refine Aa (Db (k2' _ _ D.TOz D.TOi1 go) rfl (Aa (wpAny_updateSeq_pair (k2' _ _ D.TOz D.TOi1 go) λg3 t3 u3=>Aa (Gj (Af ?_)))));have k3' : ∀c o,c≠z->c≠i1->c≠TO->s.heap.get? c=some o->g3.get? c=some o:=λc o n m r e=>u3.extBut _ _ r (k2' c o n m e);refine Aa (Aa (wpAny_onRaise (show wpAny _ _ (Builtin.SmallTypes.nextOf (.ref i2) >>= _) _ _ _ from Aa (zju hn (c2.at (λo=>k3' _ o D.i2z D.i12.symm D.TOi2.symm) λo=>k3' _ o D.l2z D.l2i1 D.l2TO) hy λg4 e u4 so=>?_))));obtain⟨oe,ge,ce⟩:=so;have z4:IsZip g4 z TI TO .ellipsis:=u4 _ _ D.i2z.symm (u3.extBut _ _ D.TOz.symm (u2.extBut _ _ D.i1z.symm z1'));have ne:e≠z:=λr=>by subst r;rw[z4] at ge;obtain rfl:=sI ge;simp at ce
    exact Er z4 (by simp) λg5 _ u5=>q g5 e (λc o n r m p x=>u5.extBut _ _ n (u4 _ _ p (k3' c o n m r x))) ⟨oe,u5.extBut _ _ ne ge,ce⟩
theorem z59 {z TI TO i1 i2 l1 l2:Addr}{k1 k2:Nat}{xs ys:Array Value}{x y a b:Value}{Q:Option Value->Shared->Prop} (D:ZipApart z TI TO i1 i2 l1 l2) (gz:IsZip s.heap z TI TO .none) (gi:IsPair s.heap TI (.ref i1) (.ref i2)) (go:IsPair s.heap TO a b)
  (c1:Src s.heap i1 l1 k1 xs) (c2:Src s.heap i2 l2 k2 ys) (ex:xs[k1]?=some x) (ey:ys[k2]?=some y)
  (q:∀h',IsZip h' z TI TO (rawInt s.heap.objs.size)->IsPair h' TO x y->Src h' i1 l1 (k1+1) xs->Src h' i2 l2 (k2+1) ys->IsPair h' s.heap.objs.size x y ->
   (∀c o,c≠z->c≠TO->c≠i1->c≠i2->s.heap.get? c=some o->h'.get? c=some o)->Q (some (.ref s.heap.objs.size)) { s with heap:=h' }):wpAny (model prog w) A (pyNext (.ref z)) Q E s:=by
 have ty:s.TypeIs (.ref z) "zip" := ⟨_,gz,rfl⟩;unfold pyNext;exact Aa (Gc (Bz (name:=Str.ofString "__next__") ty F.slot_zip_next (Cw F.slot_zip_next ty F.entry_zip_next (z4w D gz gi go c1 c2 ex ey λh' a1 a2 a3 a4 a5 a6=>Af (q h' a1 a2 a3 a4 a5 a6)) (F.args_zip_next_1 _))))
theorem z99 {z TI TO i1 i2 l1 l2:Addr}{k1 k2:Nat}{xs ys:Array Value}{a b:Value}{Q:Option Value->Shared->Prop} (hn:A.handled=none) (D:ZipApart z TI TO i1 i2 l1 l2) (gz:IsZip s.heap z TI TO .none) (gi:IsPair s.heap TI (.ref i1) (.ref i2)) (go:IsPair s.heap TO a b)
  (c1:Src s.heap i1 l1 k1 xs) (c2:Src s.heap i2 l2 k2 ys) (he:xs[k1]?=none\/ys[k2]?=none)
  (q:∀h',(∀c o,c≠z->c≠TO->c≠i1->c≠i2->s.heap.get? c=some o->h'.get? c=some o)->Q none { s with heap:=h' }):wpAny (model prog w) A (pyNext (.ref z)) Q E s:=by
 have ty:s.TypeIs (.ref z) "zip" := ⟨_,gz,rfl⟩;unfold pyNext;refine Aa (Gc (Bz (name:=Str.ofString "__next__") ty F.slot_zip_next (Cw F.slot_zip_next ty F.entry_zip_next (z9p hn D gz gi go c1 c2 he λh' e k so=>?_) (F.args_zip_next_1 _))));obtain⟨o,go',co⟩:=so;exact Aa (wpAny_isInstance (T := "StopIteration") (b:=true) ⟨o,go',co⟩ isSubtype_stop (Af (q _ k)))
end
noncomputable def SrcO (h:Heap) (b:Bool) (l:Addr) (xs:Array Value):Prop:=match b with
 |true=>h.IsList l xs
 |false=>h.IsTuple l xs
noncomputable def itO (b:Bool) (l:Addr):Obj:={ cls:=.type (if b then "list_iterator" else "tuple_iterator"),data:=.fields #[.ref l,.int 0 0] }
theorem SrcO.push {h:Heap}{b:Bool}{l:Addr}{xs:Array Value} (c:SrcO h b l xs) (o:Obj):SrcO (h.push o) b l xs:=by
  cases b with
  |true=>exact Heap.IsList.push c o
  | false =>
    obtain⟨q,e,r⟩:=c;exact⟨q,Ac _ e,r⟩
section
variable {prog:Program}{w:World}{A:Around}{E:Value->Shared->Prop}{s:Shared}
theorem zmd {b:Bool}{l:Addr}{xs:Array Value}{Q:Value->Shared->Prop}(c:SrcO s.heap b l xs)(q:Q (.ref s.heap.objs.size) { s with heap:=s.heap.push (itO b l) }):wpAny (model prog w) A (pyIter (.ref l)) Q E s:=by
 cases b with
 |true=>exact Go c q
 |false=>exact Gi c q
end
noncomputable abbrev zA (h:Heap) (b:Bool) (l:Addr):Heap:=h.push (itO b l)
noncomputable abbrev zB (h:Heap) (b c:Bool) (l m:Addr):Heap:=(zA h b l).push (itO c m)
noncomputable abbrev zC (h:Heap) (b c:Bool) (l m:Addr):Heap:=(zB h b c l m).push { cls:=.type "tuple",data:=.seq #[.ref h.objs.size,.ref (zA h b l).objs.size] }
noncomputable abbrev zD (h:Heap) (b c:Bool) (l m:Addr):Heap:=(zC h b c l m).push { cls:=.type "tuple",data:=.seq #[.none,.none] }
noncomputable abbrev zE (h:Heap) (b c:Bool) (l m:Addr):Heap:=(zD h b c l m).push { cls:=.type "zip",data:=.fields #[.none,.bool false,.bool false,.ref (zB h b c l m).objs.size,.ref (zC h b c l m).objs.size] }
theorem zu7 (b c:Bool)(l m:Addr)(xs ys:Array Value):Meets (Builtin.«zip.__new__» ⟨[.type "zip",.ref l,.ref m],[]⟩) (λ_ R s=>SrcO s.heap b l xs/\SrcO s.heap c m ys/\R (.ok (.ret (.ref (zD s.heap b c l m).objs.size))) { s with heap:=zE s.heap b c l m }) :=
 .of_wp λprog w A R s h=>by
  obtain⟨hp,g,d,tk,os⟩:=s;obtain⟨x1,x2,h⟩:=h;have hsub:=sub_zip;have y1:SrcO (Shared.heap ⟨hp,g,d,tk,os⟩) b l xs:=x1;have y2:SrcO (Shared.heap ⟨hp.push (itO b l),g,d,tk,os⟩) c m ys:=SrcO.push x2 _
  wp_walk using zmd y1,zmd y2
  exact⟨_,rfl,h⟩
section
variable {prog:Program}{w:World}{A:Around}{E:Value->Shared->Prop}{s:Shared}
theorem z0z {b c:Bool}{l m:Addr}{xs ys:Array Value}{Q:Value->Shared->Prop} (x1:SrcO s.heap b l xs) (x2:SrcO s.heap c m ys)
  (h:∀h',IsZip h' (s.heap.objs.size+4) (s.heap.objs.size+2) (s.heap.objs.size+3) .none->IsPair h' (s.heap.objs.size+2) (.ref s.heap.objs.size) (.ref #v[8,9])->IsPair h' (s.heap.objs.size+3) .none .none ->
   h'.get? s.heap.objs.size=some (itO b l)->h'.get? #v[8,9]=some (itO c m)->(∀c o,s.heap.get? c=some o->h'.get? c=some o)->Q (.ref (s.heap.objs.size+4)) { s with heap:=h' }) :
  wpAny (model prog w) A (call (.type "zip") [.ref l,.ref m]) Q E s:=by
 refine callType_new F.called_zip #v[0,9] (F.typeCall_zip_2 _ _) (F.newCall_zip_2 _ _) (λobj=>F.args_object_init_3 obj _ _) F.entry_zip_new (zu7 b c l m xs ys) ⟨x1,x2,?_⟩;have n1:(zA s.heap b l).objs.size=s.heap.objs.size+1:=Dt ..;have n2:(zB s.heap b c l m).objs.size=s.heap.objs.size+2:=by rw[Dt,n1]
 have n3:(zC s.heap b c l m).objs.size=s.heap.objs.size+3:=by rw[Dt,n2]
 have n4:(zD s.heap b c l m).objs.size=s.heap.objs.size+4:=by rw[Dt,n3]
 have up:∀r o,s.heap.get? r=some o->(zE s.heap b c l m).get? r=some o:=λr o x=>Ac _ (Ac _ (Ac _ (Ac _ (Ac _ x))));have e5:(zE s.heap b c l m).get? (zD s.heap b c l m).objs.size=some _:=As _ rfl;have e4:(zE s.heap b c l m).get? (zC s.heap b c l m).objs.size=some _:=Ac _ (As _ rfl);have e3:(zE s.heap b c l m).get? (zB s.heap b c l m).objs.size=some _:=Ac _ (Ac _ (As _ rfl));have e2:(zE s.heap b c l m).get? (zA s.heap b l).objs.size=some (itO c m):=Ac _ (Ac _ (Ac _ (As _ rfl)));have e1:(zE s.heap b c l m).get? s.heap.objs.size=some (itO b l):=Ac _ (Ac _ (Ac _ (Ac _ (As _ rfl))));show _/\_;rw[n2,n3,n4] at e5;rw[n1,n2] at e3;rw[n3] at e4;rw[n1] at e2;rw[n4];exact⟨⟨_,e5,rfl⟩,h _ e5 e3 e4 e1 e2 up⟩
end
noncomputable def SqK (K:PySem.W.Frag) (k:Bool) (H:Hp) (a:Addr) (xs:List V):Prop:=match k with
 |true=>SqL K H a xs
 |false=>SqT K H a xs
noncomputable def ItI (h:Heap) (k:Bool) (it l:Addr) (i:Nat):Prop:=match k with
 |true=>h.IsListIter it l i
 |false=>h.IsTupleIter it l i
theorem SqK.mono {K:PySem.W.Frag}{k:Bool}{F H:Hp}{a:Addr}{xs:List V}(s:Same F H)(h:SqK K k F a xs):SqK K k H a xs:=by
 cases k with
 |true=>exact s.seq h
 |false=>exact zb1 s h
theorem Inv.sqK {X:Cx}{pins:List (Addr × Obj)}{σ:St}{H:Hp}{s:Shared}{k:Bool}{a:Addr}{xs:List V}(I:Inv X pins σ H s)(h:SqK X.K k H a xs):∃its:List Value,Vals xs its/\SrcO s.heap k a its.toArray:=by
 cases k with
 |true=>obtain⟨its,r,p,_⟩:=I.list h;exact⟨its,r,p.isList⟩
 |false=>obtain⟨its,r,p,_⟩:=I.tuple h;exact⟨its,r,p⟩
theorem Inv.sqK_inj {X:Cx}{pins:List (Addr × Obj)}{σ:St}{H:Hp}{s:Shared}{k:Bool}{a:Addr}{xs ys:List V}(I:Inv X pins σ H s)(h:SqK X.K k H a xs)(h' : SqK X.K k H a ys):xs=ys:=by
 cases k with
 |true=>exact I.list_inj h h'
 |false=>exact I.tuple_inj h h'
theorem ItI.src {h:Heap}{k:Bool}{it l:Addr}{i:Nat}{xs:Array Value}(a:ItI h k it l i)(b:SrcO h k l xs):Src h it l i xs:=by
 cases k with
 |true=>exact .inl ⟨a,b⟩
 |false=>exact .inr ⟨a,b⟩
theorem Src.itI {h:Heap}{k:Bool}{it l:Addr}{i:Nat}{xs:Array Value} (c:Src h it l i xs) (b:SrcO h k l xs):ItI h k it l i:=by
  cases k with
  | true =>
    rcases c with⟨c,_⟩|⟨_,⟨o,e,q,_⟩⟩
    · exact c
    · obtain ⟨o', e', q', _⟩ := b
      rw[e] at e';obtain rfl:=sI e';rw[q] at q';simp at q'
  | false =>
    rcases c with⟨_,⟨o,e,q,_⟩⟩|⟨c,_⟩
    · obtain ⟨o', e', q', _⟩ := b
      rw[e] at e';obtain rfl:=sI e';rw[q] at q';simp at q'
    · exact c
theorem ItI.at {h h' : Heap}{k:Bool}{it l:Addr}{i:Nat}(a:ItI h k it l i)(q:∀o,h.get? it=some o->h'.get? it=some o):ItI h' k it l i:=by
 cases k with
 |true=>exact Heap.IsListIter.at a q
 |false=>exact Heap.IsTupleIter.at a q
theorem ItI.obj {h:Heap}{k:Bool}{it l:Addr}{i:Nat}(a:ItI h k it l i):∃o,h.get? it=some o/\∀v,o.data≠.cell v:=by
 cases k with
 |true=>obtain⟨o,e,_,d⟩:=a;exact⟨o,e,λv z=>by rw[d] at z;cases z⟩
 |false=>obtain⟨o,e,_,d⟩:=a;exact⟨o,e,λv z=>by rw[d] at z;cases z⟩
noncomputable def Itz (K:PySem.W.Frag) (ka kb:Bool) (a b:Addr):It :=
 ⟨λi H=>∃xs ys x y,SqK K ka H a xs/\SqK K kb H b ys/\xs[i]?=some x/\ys[i]?=some y,
  λi H x H'=>∃p v u,x=.ref p/\H p=none/\H'=upd H p (.tup [v,u])/\(∀xs,SqK K ka H a xs->xs[i]?=some v)/\(∀ys,SqK K kb H b ys->ys[i]?=some u),
  λi H=>∃xs ys,SqK K ka H a xs/\SqK K kb H b ys/\(xs.length<=i\/ys.length<=i)⟩
noncomputable def zSt (ka kb:Bool) (z TI TO i1 i2 a b:Addr) (i:Nat) (h:Heap):Prop:=IsZip h z TI TO .none/\IsPair h TI (.ref i1) (.ref i2)/\(∃u v,IsPair h TO u v)/\ItI h ka i1 a i/\ItI h kb i2 b i
theorem z1v {P:Program}{w:World}{K:PySem.W.Frag}{es:List Expr}{x1}{px:Pos}(ka kb:Bool)(z TI TO i1 i2 a b:Addr)(D:ZipApart z TI TO i1 i2 a b):Turn P w K (.Tuple es x1 px) (Itz K ka kb a b) [z,TI,TO,i1,i2] z (zSt ka kb z TI TO i1 i2 a b) where
 mem:=by simp
 obj:=λi h st c hc=>by
  nofun;obtain⟨gz,gi,⟨u,v,go⟩,t1,t2⟩:=st;ac_rfl;simp only [Ap,Aw,Bq,Gp] at hc;rcases hc with rfl|rfl|rfl|rfl|rfl
  ·exact⟨_,gz,λv q=>by cases q⟩
  ·exact⟨_,gi,λv q=>by cases q⟩
  ·exact⟨_,go,λv q=>by cases q⟩
  ·exact t1.obj
  ·exact t2.obj
 keep:=λi h h' st k=>by
  nofun;obtain⟨gz,gi,⟨u,v,go⟩,t1,t2⟩:=st;ac_rfl;exact⟨k z (by simp) _ gz,k TI (by simp) _ gi,⟨u,v,k TO (by simp) _ go⟩,t1.at λo e=>k i1 (by simp) o e,t2.at λo e=>k i2 (by simp) o e⟩
 item:=by
  intro X hP hw hK hc i pins s σ H E I hf st hg;subst hP hw hK;nofun;obtain⟨xs,ys,x,y,q1,q2,e1,e2⟩:=hg;obtain⟨gz,gi,⟨u0,v0,go⟩,t1,t2⟩:=st;obtain⟨its,r1,so1⟩:=I.sqK q1;obtain⟨its',r2,so2⟩:=I.sqK q2;obtain⟨u,hu,ru⟩:=r1.get e1;obtain⟨v,hv,rv⟩:=r2.get e2;ac_rfl;refine z59 D gz gi go (t1.src so1) (t2.src so2) (x:=u) (y:=v) (by simpa using hu) (by simpa using hv) λh' g1 g2 g3 g4 g5 g6=>⟨_,rfl,?_⟩;refine wpAny_letOwnedTupleGo_zip g1 λh'' k1 k2=>?_;have lt:∀c o,s.heap.get? c=some o->c≠s.heap.objs.size:=λc o e=>Be (Ar e);have kk:∀c o,c ∉ [z,TI,TO,i1,i2]->s.heap.get? c=some o->h''.get? c=some o:=λc o hb e=>by
   simp only [Ap,Aw,Bq,Gp,not_or] at hb;exact (k2.2 c hb.1).trans (g6 c o hb.1 hb.2.2.1 hb.2.2.2.1 hb.2.2.2.2 e)
  obtain⟨o1,eo1⟩:=(t1.src so1).src;obtain⟨o2,eo2⟩:=(t2.src so2).src;have so1' : SrcO h' ka a its.toArray:=by
   cases ka with
   |true=>exact so1.at λo e=>g6 a o D.l1z D.l1TO D.l1i1 D.l1i2 e
   |false=>obtain⟨o,e,r⟩:=so1;exact⟨o,g6 a o D.l1z D.l1TO D.l1i1 D.l1i2 e,r⟩
  have so2' : SrcO h' kb b its'.toArray:=by
   cases kb with
   |true=>exact so2.at λo e=>g6 b o D.l2z D.l2TO D.l2i1 D.l2i2 e
   |false=>obtain⟨o,e,r⟩:=so2;exact⟨o,g6 b o D.l2z D.l2TO D.l2i1 D.l2i2 e,r⟩
  have t1' : ItI h'' ka i1 a (i+1):=(g3.itI so1').at λo e=>(k2.2 i1 D.i1z).trans e;have t2' : ItI h'' kb i2 b (i+1):=(g4.itI so2').at λo e=>(k2.2 i2 D.i2z).trans e;have gi' : IsPair h'' TI (.ref i1) (.ref i2):=(k2.2 TI D.TIz).trans (g6 TI _ D.TIz D.TITO D.TIi1 D.TIi2 gi);have go' : IsPair h'' TO u v:=(k2.2 TO D.TOz).trans g2;have Tz:s.heap.objs.size≠z:=(lt z _ gz).symm;refine⟨.ref s.heap.objs.size,upd H s.heap.objs.size (.tup [x,y]),I.turnLay kk (λc hb=>?_) hf (Ag _) ⟨by show 2<=sizeLine;decide,[u,v],.cons ru (.cons rv .nil),?_⟩,rfl,⟨_,x,y,rfl,I.hok.fresh (Ag _),rfl,λzs hz=>by rw[I.sqK_inj hz q1];exact e1,λzs hz=>by rw[I.sqK_inj hz q2];exact e2⟩,⟨k1,gi',⟨u,v,go'⟩,t1',t2'⟩,λc hb=>?_⟩
  ·simp only [Ap,Aw,Bq,Gp] at hb;rcases hb with rfl|rfl|rfl|rfl|rfl
   ·exact⟨_,k1⟩
   ·exact⟨_,gi'⟩
   ·exact⟨_,go'⟩
   ·obtain⟨o,e,_⟩:=t1'.obj;exact⟨o,e⟩
   ·obtain⟨o,e,_⟩:=t2'.obj;exact⟨o,e⟩
  ·exact⟨_,(k2.2 _ Tz).trans g5,rfl,_,rfl⟩
  ·have ne:c≠s.heap.objs.size:=by
    simp only [Ap,Aw,Bq,Gp] at hb;rcases hb with rfl|rfl|rfl|rfl|rfl
    ·exact lt _ _ gz
    ·exact lt _ _ gi
    ·exact lt _ _ go
    ·obtain⟨o,e,_⟩:=t1.obj;exact lt _ _ e
    ·obtain⟨o,e,_⟩:=t2.obj;exact lt _ _ e
   rw[upd_ne ne];exact (hf c hb).1
 done:=by
  intro X hP hw hK hc i pins s σ H E I hf st hg;subst hP hw hK;nofun;obtain⟨xs,ys,q1,q2,he⟩:=hg;obtain⟨gz,gi,⟨u0,v0,go⟩,t1,t2⟩:=st;obtain⟨its,r1,so1⟩:=I.sqK q1;obtain⟨its',r2,so2⟩:=I.sqK q2;ac_rfl;have l1:=r1.length;have l2:=r2.length;refine z99 (I.ok.hd hc) D gz gi go (t1.src so1) (t2.src so2) ?_ λh' k=>⟨rfl,I.turnL (t':=s.toks) (ch:=[z,TI,TO,i1,i2]) (λc o hb e=>?_) hf⟩
  ·rcases he with he|he
   ·exact .inl (Dl (by simp;omega))
   ·exact .inr (Dl (by simp;omega))
  ·simp only [Ap,Aw,Bq,Gp,not_or] at hb;exact k c o hb.1 hb.2.2.1 hb.2.2.2.1 hb.2.2.2.2 e
 self:=λ_ _ _ _ _ st h=>wpAny_pyIter_zip st.1 h
theorem z02:bootBuiltins "zip" = some (.type "zip"):=by decide +kernel
section
variable {X:Cx}
noncomputable def iZip (K:PySem.W.Frag) (ta:TA):TI:=λσ H R=>ta σ H λvs H1=>∃a b ka kb xs ys,vs=[.ref a,.ref b]/\SqK K ka H1 a xs/\SqK K kb H1 b ys/\R (Itz K ka kb a b) H1
theorem yaw {es:List Expr}{x1}{px:Pos}{l m:Expr}{tl:TA}{p pos:Pos} (hg:Gl X "zip") (hm:X.mg "zip" = none) (hl:PA X [l,m] tl) (hs:starEach [l,m] X.env=[(false,eval l X.env),(false,eval m X.env)]) (hs2:starEach [m] X.env=[(false,eval m X.env)]) :
    PI X (.Tuple es x1 px) (.Call (.Name "zip" p) [l,m] [] pos) (iZip X.K tl):=by
  intro pins s σ H R I h;refine Call_ (zdv I hg hm z02 (Ct (thn (hl pos pins s σ H _ I h) λus s1 ⟨vs,H1,I1,r1,q1⟩=>?_) (by rw[hs,hs2]) (by rw[hs2];rfl)));nofun;obtain⟨a,b,ka,kb,xs,ys,e,q2,q3,q⟩:=q1;ac_rfl;subst e;cases r1 with
  | cons r rr =>
    cases rr with
    | cons r' rr =>
      cases rr;cases r;cases r';refine aG fun _ qG=>?_;obtain ⟨its,rv1,so1⟩:=I1.sqK q2;obtain ⟨its',rv2,so2⟩:=I1.sqK q3;refine qG ?_;clear qG;refine z0z so1 so2 fun h' g1 g2 g3 g4 g5 up=>wpAny_pyIter_zip g1 ?_;have la:a < s1.heap.objs.size:=by
        cases ka with
        |true=>obtain⟨o,e,_⟩:=so1;exact Ar e
        |false=>obtain⟨o,e,_⟩:=so1;exact Ar e
      have lb:b < s1.heap.objs.size:=by
        cases kb with
        |true=>obtain⟨o,e,_⟩:=so2;exact Ar e
        |false=>obtain⟨o,e,_⟩:=so2;exact Ar e
      have D:ZipApart (s1.heap.objs.size+4) (s1.heap.objs.size+2) (s1.heap.objs.size+3) s1.heap.objs.size (s1.heap.objs.size+1) a b:=by
        have up:∀{c:Addr} (k:Nat),c<s1.heap.objs.size->c≠s1.heap.objs.size+k:=λk h=>Be (Az h (Dw _ k));refine⟨?_,?_,?_,?_,?_,?_,?_,?_,?_,?_,up 4 la,up 3 la,up 0 la,up 1 la,up 4 lb,up 3 lb,up 0 lb,up 1 lb⟩<;>(intro z;have z' : (_:Nat)=_:=z;omega)
      have t1:ItI h' ka s1.heap.objs.size a 0:=by cases ka<;>exact⟨_,g4,rfl,rfl⟩
      have t2:ItI h' kb (s1.heap.objs.size+1) b 0:=by cases kb<;>exact⟨_,g5,rfl,rfl⟩
      refine ⟨_,_,_,_,H1,rfl,I1.kept (t':=s1.toks) up,z1v ka kb _ _ _ _ _ a b D,⟨g1,g2,⟨_,_,g3⟩,t1,t2⟩,fun c hb=>?_,q⟩;have le:s1.heap.objs.size<=c:=by
        simp only [Ap,Aw,Bq,Gp] at hb;rcases hb with rfl|rfl|rfl|rfl|rfl
        · exact Dw _ _
        · exact Dw _ _
        · exact Dw _ _
        · exact Ag _
        · exact Dw _ _
      exact I1.fpOk le (I1.hok.fresh le)
end
noncomputable def zipW:List W->List W->List W
 |x::xs,y::ys=>.tup [x,y]::zipW xs ys
 |_,_=>[]
theorem zd6:∀(xs ys:List W),(zipW xs ys).length=min xs.length ys.length
 |[],_=>by simp [zipW]
 |_::_,[]=>by simp [zipW]
 |_::xs,_::ys=>by simp only [zipW,Bc,zd6 xs ys];omega
theorem zjy:∀{xs ys:List W}{i:Nat}{x y:W},xs[i]?=some x->ys[i]?=some y->(zipW xs ys)[i]?=some (.tup [x,y])
  |[],_,_,_,_,e,_=>by simp at e
  |_::_,[],_,_,_,_,e=>by simp at e
  |_::xs,_::ys,0,_,_,e,e'=>by simp at e e';subst e e';rfl
  | _::xs,_::ys,i+1,x,y,e,e'=>by
    show (zipW xs ys)[i]?=_;exact zjy (by simpa using e) (by simpa using e')
noncomputable def gZip (g g' : GE):GL:=λen=>(g en).bind λp=>(g' p.1).bind λq=>(seqW p.2.1).bind λws=>(seqW q.2.1).bind λus=>some (q.1,zipW ws us)
section
variable {K:PySem.W.Frag}{F H:Hp}{σ:St}
theorem zdy {w:W}{ws:List W}{v:V} (y:Rep K F w v) (hs:seqW w=some ws):∃a k vs,v=.ref a/\SqK K k F a vs/\Reps K F ws vs:=by
  cases w with
  | lst xs=>obtain rfl:=sI hs;cases y with
    |lst y r=>exact⟨_,true,_,rfl,SqL.of' y,r⟩
  | frl xs=>obtain rfl:=sI hs;cases y with
    |frl y r=>exact⟨_,true,_,rfl,y,r⟩
  | tup xs=>obtain rfl:=sI hs;cases y with
    |tup y r=>exact⟨_,false,_,rfl,.inl (.inl y),r⟩
  |_=>exact noSome hs
theorem yb8 {a b:Addr}{ka kb:Bool}{vs us:List V}{ws zs:List W}(h:SqK K ka F a vs)(h' : SqK K kb F b us)(r:Reps K F ws vs)(r' : Reps K F zs us):ItOk K F (Itz K ka kb a b) (zipW ws zs) where
 go:=λi H s hi=>by
  rw[zd6] at hi;have l1:i<vs.length:=by rw[<-r.length];omega
  have l2:i<us.length:=by rw[<-r'.length];omega
  exact⟨vs,us,vs[i],us[i],h.mono s,h'.mono s,Ae l1,Ae l2⟩
 stop:=λH s=>⟨vs,us,h.mono s,h'.mono s,by rw[zd6,r.length,r'.length];omega⟩
 yld:=λi H x H' s hi y=>by
  nofun;obtain⟨p,v,u,e1,hp,e2,y1,y2⟩:=y;ac_rfl;subst e1 e2;nofun;obtain⟨w1,g1,q1⟩:=r.getV (y1 vs (h.mono s));obtain⟨w2,g2,q2⟩:=r'.getV (y2 us (h'.mono s));ac_rfl;exact⟨_,zjy g1 g2,.tup hp (.cons q1 (.cons q2 .nil))⟩
theorem zz4 {g g' : GE}{R:It->Hp->Prop}(h:tI K (gZip g g') σ H R):iZip K (zhm (tE K g) (zhm (tE K g') tNil)) σ H R:=by
 nofun;obtain⟨F,pr,en,en',ws,Re,h,q⟩:=h;obtain⟨⟨e1,r1⟩,h1,h⟩:=bS h;obtain⟨⟨e2,r2⟩,h2,h⟩:=bS h;obtain⟨us,hs,h⟩:=bS h;obtain⟨zs,hs',h⟩:=bS h;ac_rfl;cases h;refine⟨F,pr,en,e1,r1,Re,h1,λF1 H1 v s1 R1 z=>?_⟩;nofun;obtain⟨F2,s2,R2,y⟩:=z.freeze R1;ac_rfl;refine⟨F2,pr,e1,e2,r2,R2,h2,λF3 H3 v' s3 R3 z'=>?_⟩;nofun;obtain⟨F4,s4,R4,y'⟩:=z'.freeze R3;obtain⟨a,ka,vs,ea,qa,ra⟩:=zdy (y.mono (s3.trans s4)) hs;obtain⟨b,kb,vs',eb,qb,rb⟩:=zdy y' hs';ac_rfl;subst ea eb;exact⟨a,b,ka,kb,vs,vs',rfl,qa.mono R4.sub,qb.mono R4.sub,q F4 H3 _ (s1.trans (s2.trans (s3.trans s4))) R4 (yb8 qa qb ra rb)⟩
end
open AutoSeq1 (wpAny_loadPart')
section
variable {prog:Program}{w:World}{A:Around}{E:Value->Shared->Prop}{s:Shared}
theorem zyo {it l:Addr}{xs:Array Value}(ne:l≠it)(hn:A.handled=none):Draws prog w A.in1 it [it,l] xs.size (λi x=>xs[i]?=some x) (λk h=>h.IsTupleIter it l k/\h.IsTuple l xs) where
 live:=λi h st=>let ⟨⟨o,e,_⟩,_⟩:=st;⟨o,e⟩
 frame:=λi h h' st k=>⟨st.1.at λo e=>k it (by simp) o e,let ⟨o,e,r⟩:=st.2;⟨o,k l (by simp) o e,r⟩⟩
 item:=λi s Q E hi st q=>zf0 (k:=i) (xs:=xs) (x:=xs[i]) (.inr st) (Fh hi) ne λh' c sb=>by
  rcases c with⟨⟨o,e,c1,_⟩,c2⟩|c
  ·obtain ⟨o', e', c1', _⟩ := st.1;have:=st.2;exact absurd c2 (fun c2=>by
    obtain⟨o2,e2,c3,_⟩:=c2;obtain⟨o3,e3,c4,_⟩:=st.2;rw[(sb.2 l ne).trans e3] at e2;obtain rfl:=sI e2;rw[c4] at c3;exact absurd (Value.type.inj c3) #v[0,9])
  ·exact q xs[i] h' s.toks (Fh hi) c sb
 done:=λs Q E st q=>zju (k:=xs.size) (xs:=xs) (show A.in1.handled=none from hn) (.inr st) (Dl (Ag _)) q
theorem zop (l:Addr) (items:Array Value) (n:Nat) (dct:Option Addr) (sl:Array (Option Value)) :
  Meets (Builtin.«enumerate.__new__» ⟨[.type "enumerate",.ref l],[]⟩) (λ_ R s=>s.heap.get? l=some { cls:=.type "tuple",dict:=dct,data:=.seq items n,slots:=sl } /\
   R (.ok (.ret (.ref (s.heap.push { cls:=.type "tuple_iterator",data:=.fields #[.ref l,.int 0 0] }).objs.size)))
    { s with heap:=(s.heap.push { cls:=.type "tuple_iterator",data:=.fields #[.ref l,.int 0 0] }).push { cls:=.type "enumerate",data:=.fields #[.none,.bool false,.ref s.heap.objs.size,rawInt 0,.none,.none] } }) :=
 .of_wp λprog w A R s h=>by
  obtain⟨hp,g,d,tk,os⟩:=s;obtain⟨hl,h⟩:=h;have hsub:=sub_enumerate;have hL:Heap.IsTuple (Shared.heap ⟨hp,g,d,tk,os⟩) l items:=⟨_,hl,rfl,n,rfl⟩
  wp_walk using Cu hl
  refine wpAny_stack_any λst=>Af ?_;split
  ·rename_i c _ _ _ _ _;cases (c == Value.type "enumerate")<;>(wp_walk using Cu hl,Gi hL)<;>exact⟨_,rfl,h⟩
  ·wp_walk using Cu hl,Gi hL
   exact⟨_,rfl,h⟩
theorem zsf {l:Addr}{items:Array Value}{Q:Value->Shared->Prop} (hL:s.heap.IsTuple l items)
  (h:∀h',IsEnum h' #v[8,9] s.heap.objs.size 0 .none->h'.IsTupleIter s.heap.objs.size l 0->(∀b o,s.heap.get? b=some o->h'.get? b=some o)->Q (.ref #v[8,9]) { s with heap:=h' }) :
  wpAny (model prog w) A (call (.type "enumerate") [.ref l]) Q E s:=by
 nofun;obtain⟨⟨c,dct,dt,sl⟩,hl,hc,n,hd⟩:=hL;ac_rfl;cases (show c=.type "tuple" from hc);cases (show dt=.seq items n from hd);refine callType_new F.called_enumerate #v[0,9] (F.typeCall_enumerate_1 _) (F.newCall_enumerate_1 _) (λobj=>F.args_object_init_2 obj _) F.entry_enumerate_new (zop l items n dct sl) ⟨hl,?_⟩;have hz:(s.heap.push { cls:=.type "tuple_iterator",data:=.fields #[.ref l,.int 0 0] }).objs.size=s.heap.objs.size+1:=Dt ..;show _/\_;rw[hz];have he:=As (s.heap.push { cls:=.type "tuple_iterator",data:=.fields #[.ref l,.int 0 0] }) (o:={ cls:=.type "enumerate",data:=.fields #[.none,.bool false,.ref s.heap.objs.size,rawInt 0,.none,.none] }) rfl;rw[hz] at he;exact⟨⟨_,he,rfl⟩,h _ he ⟨_,Ac _ (As _ rfl),rfl,rfl⟩ λb o x=>Ac _ (Ac _ x)⟩
end
noncomputable def IteT (K:PySem.W.Frag) (a:Addr):It :=
 ⟨λi H=>∃xs x,SqT K H a xs/\xs[i]?=some x,λi H x H'=>∃p v,x=.ref p/\H p=none/\H'=upd H p (.tup [.int i,v])/\∀xs,SqT K H a xs->xs[i]?=some v,λi H=>∃xs,SqT K H a xs/\xs.length<=i⟩
theorem zst {P:Program}{w:World}{K:PySem.W.Frag}{es:List Expr}{x1}{px:Pos}(a e it:Addr)(hei:e≠it)(hea:e≠a)(hai:a≠it):Turn P w K (.Tuple es x1 px) (IteT K a) [e,it] e (λi h=>(∃old,IsEnum h e it i old)/\h.IsTupleIter it a i) where
 mem:=by simp
 obj:=λi h st b hb=>by
  nofun;obtain⟨⟨old,he⟩,o,hi,c,d⟩:=st;ac_rfl;rcases Ap.mp hb with rfl|hb
  ·exact⟨_,he,λv z=>by cases z⟩
  ·have : b = it:=by simpa using hb
   subst this;exact⟨o,hi,λv z=>by rw[d] at z;cases z⟩
 keep:=λi h h' st k=>⟨let ⟨old,he⟩:=st.1;⟨old,k e (by simp) _ he⟩,st.2.at λo z=>k it (by simp) o z⟩
 item:=by
  intro X hP hw hK hc i pins s σ H E I hf st hg;subst hP hw hK;nofun;obtain⟨xs,x,hq,hx⟩:=hg;obtain⟨its,rv,p,hz⟩:=I.tuple hq;obtain⟨u,hu,ru⟩:=rv.get hx;obtain⟨⟨old,he⟩,hit⟩:=st;ac_rfl;have hT:s.heap.IsTuple a its.toArray:=p;have lt:i<its.toArray.size:=by
   rw[Aq];exact (Ak.mp hu).1
  refine wpAny_pyNext_enum_itemD (zyo hai (I.ok.hd hc)) he ⟨hit,hT⟩ lt hei (by simp [hei,hea]) λy h' tk hy ho hst hT' hsz hk=>⟨_,rfl,?_⟩;have eu:y=u:=by
   have:its[i]?=some y:=by simpa using hy
   rw[hu] at this;exact (sI this).symm
  subst eu;refine wpAny_letOwnedTupleGo_enum ho λh'' he'' hs''=>?_;have kk:∀b o,b ∉ [e,it]->s.heap.get? b=some o->h''.get? b=some o:=λb o hb q=>by
   have h1:b≠e:=λz=>hb (by simp [z]);have h2:b≠it:=λz=>hb (by simp [z]);exact (hs''.2 b h1).trans (hk b o h1 h2 q)
  have hTe:s.heap.objs.size≠e:=λz=>absurd (Ar he) (by rw[z];exact Cg _);have hit'' : h''.IsTupleIter it a (i+1):=hst.1.at λo y=>(hs''.2 it hei.symm).trans y;refine⟨.ref s.heap.objs.size,upd H s.heap.objs.size (.tup [.int i,x]),I.turnLay kk (λb hb=>?_) hf (Ag _) ⟨by show 2<=sizeLine;decide,[.int i tk,y],.cons ⟨_,rfl⟩ (.cons ru .nil),?_⟩,rfl,⟨_,x,rfl,I.hok.fresh (Ag _),rfl,λys hy=>by rw[I.tuple_inj hy hq];exact hx⟩,⟨⟨_,by simpa using he''⟩,hit''⟩,λb hb=>?_⟩
  ·rcases Ap.mp hb with rfl|hb
   ·exact⟨_,he''⟩
   ·have : b = it:=by simpa using hb
    subst this;obtain⟨o,z,_⟩:=hit'';exact⟨o,z⟩
  ·exact⟨_,(hs''.2 _ hTe).trans hT',rfl,_,rfl⟩
  ·have:b≠s.heap.objs.size:=by
    rcases Ap.mp hb with rfl|hb
    ·exact hTe.symm
    ·have e2 : b = it:=by simpa using hb
     subst e2;obtain⟨o,z,_⟩:=hit;exact Be (Ar z)
   rw[upd_ne this];exact (hf b hb).1
 done:=by
  intro X hP hw hK hc i pins s σ H E I hf st hg;subst hP hw hK;nofun;obtain⟨xs,hq,hx⟩:=hg;obtain⟨its,rv,p,hz⟩:=I.tuple hq;obtain⟨⟨old,he⟩,hit⟩:=st;obtain⟨f0,f1,f2,f3,f4,f5⟩:=hf it (by simp);ac_rfl;have hl:=rv.length;have hT:s.heap.IsTuple a its.toArray:=p;have hTy:s.TypeIs (.ref e) "enumerate" := ⟨_,he,rfl⟩;unfold pyNext;refine Aa (Gc (Bz (name:=Str.ofString "__next__") hTy F.slot_enumerate_next (Cw F.slot_enumerate_next hTy F.entry_enumerate_next ?_ (F.args_enumerate_next_1 _))));show wpAny _ _ (field (.ref e) 2 >>= _) _ _ _;refine Aa (Ck he rfl (x:=.ref it) rfl ?_);refine Aa (zju (show _=none from I.ok.hd hc) (.inr ⟨hit,hT⟩) (Dl (by simp;omega)) λh' x eb hx'=>?_);obtain⟨o,ho,hc'⟩:=hx';refine Aa (wpAny_isInstance (T := "StopIteration") (b:=true) ⟨o,ho,hc'⟩ isSubtype_stop ?_);exact Af ⟨rfl,I.turned (t':=s.toks) (λb o hb e=>eb b o hb e) f0 f1 f3 f4 f5⟩
 self:=λ_ _ _ _ _ st h=>let ⟨_,he⟩:=st.1;Hl he h
section
variable {X:Cx}
noncomputable def z4b (K:PySem.W.Frag) (ta:TA):TI:=λσ H R=>ta σ H λvs H1=>∃a xs,vs=[.ref a]/\(SqL K H1 a xs/\R (Ite K a) H1\/SqT K H1 a xs/\R (IteT K a) H1)
theorem zzk {es:List Expr}{x1}{px:Pos}{l:Expr}{tl:TA}{p pos:Pos} (hg:Gl X "enumerate") (hm:X.mg "enumerate" = none) (hl:PA X [l] tl) (hs:starEach [l] X.env=[(false,eval l X.env)]:=by rfl) :
    PI X (.Tuple es x1 px) (.Call (.Name "enumerate" p) [l] [] pos) (z4b X.K tl):=by
  intro pins s σ H R I h;refine Call_ (zdv I hg hm boot_enumerate (Ct (thn (hl pos pins s σ H _ I h) λus s1 ⟨vs,H1,I1,r1,q1⟩=>?_) hs rfl));obtain⟨a,xs,e,q⟩:=q1;subst e;cases r1 with
  | cons r rr =>
    cases rr;cases r;have fp:∀b∈[s1.heap.objs.size+1,s1.heap.objs.size],FpOk X pins H1 b:=fun b hb=>by
      have e:s1.heap.objs.size<=b:=by
        rcases Ap.mp hb with rfl|hb
        · exact Nat.le_succ _
        · have e2 : b = s1.heap.objs.size := by simpa using hb
          rw[e2];exact Ag _
      exact I1.fpOk e (I1.hok.fresh e)
    rcases q with⟨hq,q⟩|⟨hq,q⟩
    · obtain ⟨its, rv, p', hz⟩ := I1.list hq
      refine call_enumerate_list p'.isList λh' he hit hsz hk=>Hl he ?_;exact⟨s1.heap.objs.size+1,[s1.heap.objs.size+1,s1.heap.objs.size],_,_,H1,rfl,I1.kept (t':=s1.toks) hk,zvt a _ _ (Nat.succ_ne_self _),⟨⟨_,by simpa using he⟩,hit⟩,fp,q⟩
    · obtain ⟨its, rv, p', hz⟩ := I1.tuple hq
      have hT:s1.heap.IsTuple a its.toArray:=p';have al:a<s1.heap.objs.size:=let ⟨o,e,_⟩:=hT;Ar e;refine zsf hT λh' he hit hk=>Hl he ?_;exact⟨s1.heap.objs.size+1,[s1.heap.objs.size+1,s1.heap.objs.size],_,_,H1,rfl,I1.kept (t':=s1.toks) hk,zst a _ _ (Nat.succ_ne_self _) (Nat.ne_of_gt (Hd al)) (Be al),⟨⟨_,by simpa using he⟩,hit⟩,fp,q⟩
end
section
variable {K:PySem.W.Frag}{F H:Hp}{σ:St}
theorem z2b {a:Addr}{vs:List V}{ws:List W}(h:SqT K F a vs)(r:Reps K F ws vs):ItOk K F (IteT K a) (zhh ws 0) where
 go:=λi H s hi=>by rw[zcc] at hi;exact⟨vs,vs[i]'(by rw[<-r.length];exact hi),zb1 s h,by rw[Ae]⟩
 stop:=λH s=>⟨vs,zb1 s h,by rw[zcc,r.length];exact Ag _⟩
 yld:=λi H x H' s hi y=>by
  nofun;obtain⟨p,v,e,hp,e2,y⟩:=y;ac_rfl;subst e e2;obtain⟨w,e,q⟩:=r.getV (y vs (zb1 s h));refine⟨_,zel e,?_⟩;rw[Cf];exact .tup hp (.cons (.int _) (.cons q .nil))
noncomputable def ztk (g:GE):GL:=λen=>(g en).bind λp=>(seqW p.2.1).bind λws=>some (p.1,zhh ws 0)
theorem zxi {g:GE}{R:It->Hp->Prop}(h:tI K (ztk g) σ H R):z4b K (zhm (tE K g) tNil) σ H R:=by
 nofun;obtain⟨F,pr,en,en',ws,Re,h,q⟩:=h;obtain⟨⟨e1,rv⟩,h1,h⟩:=bS h;obtain⟨us,hs,h⟩:=bS h;ac_rfl;cases h;refine⟨F,pr,en,e1,rv,Re,h1,λF1 H1 v s1 R1 z=>?_⟩;nofun;obtain⟨F2,s2,R2,y⟩:=z.freeze R1;obtain⟨a,k,vs,e,hq,r⟩:=zdy y hs;ac_rfl;subst e;cases k with
 |true=>exact⟨a,vs,rfl,.inl ⟨R2.sub.seq hq,q F2 H1 _ (s1.trans s2) R2 (z7i hq r)⟩⟩
 |false=>exact⟨a,vs,rfl,.inr ⟨zb1 R2.sub hq,q F2 H1 _ (s1.trans s2) R2 (z2b hq r)⟩⟩
end
end L2
namespace L2
open PySem PySem.Spec PyProof.Rows
section
variable {X:Cx}{pins:List (Addr × Obj)}{σ:St}{H:Hp}{s:Shared}
noncomputable def okD (d:PyData):Bool:=d.showable && !d.hasDict && decide (d.depth<=100) && decide (d.shown.length<=sizeLine)
end
section
variable {K:PySem.W.Frag}{F H:Hp}
noncomputable def yd5 (w:W):Option (W × Bool):=(seqW w).bind λ_=>(dW w).bind λd=>if okD d then some (.str d.shown,false) else none
noncomputable def z8s:ON
 |[.int i]=>if i.natAbs.log2<1920 then some (.str (toString i),false) else none
 |[.non]=>some (.str "None",false)
 |[.bl b]=>some (.str (if b then "True" else "False"),false)
 |[w]=>yd5 w
 |_=>none
end
noncomputable abbrev Fn:=List W->Option (List W × (W × Bool))
noncomputable def za3 (m:List Bool) (ws:List W):En:=List.zipWith (λw b=>some (w,b)) ws m
noncomputable def spF (K:PySem.W.Frag) (m:List Bool) (Φ:Fn):Sp:=λvs H Q _=>∃F pr ws ws' r,ws.length=m.length/\ws'.length=m.length/\Rel K F pr (za3 m ws) (vs.map some) H/\Φ ws=some (ws',r) /\
 ∀F' H' v,Same F F'->Rel K F' pr (za3 m ws') (vs.map some) H'->Res K F' H' pr (za3 m ws') (vs.map some) r v->Q v H'
theorem zd4 {m:List Bool}{ws:List W}{k:Nat}{w:W}{b:Bool}:(za3 m ws)[k]?=some (some (w,b))↔ws[k]?=some w/\m[k]?=some b:=by
 unfold za3;rw[List.getElem?_zipWith];cases ws[k]?<;>cases m[k]?<;>simp
theorem zd5 {m:List Bool}{ws:List W}(h:ws.length=m.length):(za3 m ws).length=m.length:=by
 unfold za3;rw[Fi,h,Gz]
theorem zy8 {K:PySem.W.Frag}{m:List Bool}{Φ:Fn}{vs:List V}{H:Hp}{Q:VK}{E:XK}(h:spF K m Φ vs H Q E):vs.length=m.length:=by
 obtain⟨F,pr,ws,ws',r,h1,_,R,_⟩:=h;have:=R.len;rw[zd5 h1,Ab] at this;exact this.symm
noncomputable def isR:W ⊕ Nat->Bool
 |.inr _=>true
 |.inl _=>false
noncomputable def za2 (xs:List (W ⊕ Nat)):Cap:=xs.map λx=>match x with
 |.inr i=>some i
 |.inl _=>none
noncomputable def zaw (en:En) (xs:List (W ⊕ Nat)):Bool:=xs.all fun x=>match x with
  | .inr i=>match en[i]? with
    |some (#v[_,5])=>true
    |_=>false
  |.inl _=>true
noncomputable def zab (m:List Bool) (Φ:Fn) (as:GAs):GE:=λen=>(as en).bind λp=>if decide (p.2.map isR=m) && zaw p.1 p.2 && zbx (za2 p.2) then (za6 p.1 p.2).bind λws=>(Φ ws).bind λq=>if q.1.length=m.length then some (zam (za2 p.2) p.1 (za3 m q.1),q.2) else none else none
theorem ArgRs.get {K:PySem.W.Frag}{F:Hp}{σ:St}:∀{xs:List (W ⊕ Nat)}{vs:List V}{k:Nat}{x:W ⊕ Nat},ArgRs K F σ xs vs->xs[k]?=some x->∃v,vs[k]?=some v/\ArgR K F σ x v
  |_,_,_,_,.nil,e=>by simp at e
  |_,_,0,_,.cons h _,e=>by simp at e;subst e;exact⟨_,rfl,h⟩
  | _,_,k+1,x,.cons _ r,e=>by
    obtain⟨v,h1,h2⟩:=ArgRs.get (k:=k) (x:=x) r (by simpa using e);exact⟨v,by simpa using h1,h2⟩
theorem ArgRs.length {K:PySem.W.Frag}{F:Hp}{σ:St}:∀{xs:List (W ⊕ Nat)}{vs:List V},ArgRs K F σ xs vs->xs.length=vs.length
 |_,_,.nil=>rfl
 |_,_,.cons _ r=>congrArg (· + 1) (ArgRs.length r)
theorem zm2 {en:En}:∀{xs:List (W ⊕ Nat)}{ws:List W},za6 en xs=some ws->ws.length=xs.length
  |[],_,e=>by obtain rfl:=sI e;rfl
  | x::xs,_,e=>by
    obtain⟨w,_,e⟩:=bS e;obtain⟨ws,h,e⟩:=bS e;obtain rfl:=sI e;exact congrArg (· + 1) (zm2 h)
theorem znj {en:En}:∀{xs:List (W ⊕ Nat)}{ws:List W}{k:Nat}{w:W},za6 en xs=some ws->ws[k]?=some w->∃x,xs[k]?=some x/\resA en x=some w
  |[],_,_,_,e,h=>by obtain rfl:=sI e;simp at h
  | x::xs,_,k,w,e,h=>by
    obtain⟨u,hu,e⟩:=bS e;obtain⟨us,h2,e⟩:=bS e;obtain rfl:=sI e;cases k with
    |zero=>simp at h;subst h;exact⟨x,rfl,hu⟩
    |succ k=>obtain⟨y,h3,h4⟩:=znj (k:=k) h2 (by simpa using h);exact⟨y,by simpa using h3,h4⟩
theorem zet {xs:List (W ⊕ Nat)}{k i:Nat}:(za2 xs)[k]?=some (some i)↔xs[k]?=some (.inr i):=by
 unfold za2;rw[Ai];cases e:xs[k]? with
 |none=>simp
 |some x=>cases x<;>simp
section
variable {K:PySem.W.Frag}{F H:Hp}{pr:Prt}{en:En}{σ:St}
theorem Rel.back {cap:Cap}{F' H' : Hp}{ce:En}{σc:St} (R:Rel K F pr en σ H) (s:Same F F') (Rc:Rel K F' (zbt pr cap en σ H) ce σc H') (slot:∀(i j:Nat) (v:V),zaq cap i=some j->σc[j]?=some (some v)->σ[i]?=some (some v)) :
    Rel K F' pr (zam cap en ce) σ H'/\∀r v,Res K F' H' (zbt pr cap en σ H) ce σc r v->Res K F' H' pr (zam cap en ce) σ r v:=by
  have un:∀(i:Nat) (w:W),zaq cap i=none->en[i]?=some (some (w,true))->∃(a:Addr) (vs:HO) (ws:W),w=ws/\σ[i]?=some (some (V.ref a))/\H a=some vs/\H' a=some vs/\F' a=none/\OwnR K F ws vs/\∀(j:Nat) (w' : W),ce[j]?=some (some (w',true))->σc[j]?≠some (some (V.ref a)):=fun i w c e=>by
    obtain⟨a,vs,ws,h1,h2,h3,h4,h5⟩:=R.own i w e;obtain⟨b1,b2,b3⟩:=Rc.prt a vs (.inr ⟨i,w,e,c,h2,h3⟩);exact⟨a,vs,ws,h1,h2,h3,b1,b2,h5,b3⟩
  have capt:∀(i j:Nat) (w:W),zaq cap i=some j->ce[j]?=some (some (w,true))->∃(a:Addr) (vs:HO) (ws:W),w=ws/\σ[i]?=some (some (V.ref a))/\σc[j]?=some (some (V.ref a))/\H' a=some vs/\F' a=none/\OwnR K F' ws vs:=fun i j w c e=>by
    obtain⟨a,vs,ws,h1,h2,h3,h4,h5⟩:=Rc.own j w e;exact⟨a,vs,ws,h1,slot i j _ c h2,h2,h3,h4,h5⟩
  refine⟨⟨by unfold zam;rw[List.length_mapIdx];exact R.len,Rc.sub,λi w e=>?_,λi w e=>?_,λi k a w w' e1 e2 q1 q2=>?_,λb o q=>?_,Rc.tb.go (λb xs z=>.inl z) (λb ps e f=>⟨e,f⟩) (.refl F') λb ps e hh o z=>hh o (.inl z)⟩,λr v z=>?_⟩
  · rcases backEn_get e with ⟨j, c, e⟩ | ⟨c, e⟩
    · obtain ⟨v, h1, h2⟩ := Rc.val j w e
      exact⟨v,slot i j v c h1,h2⟩
    · obtain ⟨v, h1, h2⟩ := R.val i w e
      exact⟨v,h1,h2.mono s⟩
  · rcases backEn_get e with ⟨j, c, e⟩ | ⟨c, e⟩
    · obtain ⟨a, vs, ws, h1, h2, _, h3, h4, h5⟩ := capt i j w c e
      exact⟨a,vs,ws,h1,h2,h3,h4,h5⟩
    · obtain ⟨a, vs, ws, h1, h2, _, h3, h4, h5, _⟩ := un i w c e
      exact⟨a,vs,ws,h1,h2,h3,h4,h5.mono s⟩
  · rcases backEn_get e1 with ⟨j, c, e1⟩ | ⟨c, e1⟩
    · obtain ⟨a', _, _, _, h2, h3, _⟩ := capt i j w c e1
      rw[q1] at h2;cases h2;rcases backEn_get e2 with⟨l,c2,e2⟩|⟨c2,e2⟩
      · obtain ⟨a', _, _, _, g2, g3, _⟩ := capt k l w' c2 e2
        rw[q2] at g2;cases g2;have:=Rc.inj j l a _ _ e1 e2 h3 g3;subst this;have x:=zbi c;rw[zbi c2] at x;cases x;rfl
      · obtain ⟨a', _, _, _, g2, _, _, _, _, g3⟩ := un k w' c2 e2
        rw[q2] at g2;cases g2;exact absurd h3 (g3 j w e1)
    · obtain ⟨a', _, _, _, h2, _, _, _, _, h3⟩ := un i w c e1
      rw[q1] at h2;cases h2;rcases backEn_get e2 with⟨l,c2,e2⟩|⟨c2,e2⟩
      · obtain ⟨a', _, _, _, g2, g3, _⟩ := capt k l w' c2 e2
        rw[q2] at g2;cases g2;exact absurd g3 (h3 l w' e2)
      · exact R.inj i k a _ _ e1 e2 q1 q2
  · obtain ⟨b1, b2, b3⟩ := Rc.prt b o (.inl q)
    refine⟨b1,b2,λi w e=>?_⟩;rcases backEn_get e with⟨j,c,e⟩|⟨c,e⟩
    · obtain ⟨a, _, _, _, h2, h3, _⟩ := capt i j w c e
      rw[h2];intro z;cases z;exact b3 j w e h3
    · exact (R.prt b o q).2.2 i w e
  · obtain ⟨w, fl⟩ := r
    cases fl with
    |false=>exact z
    | true =>
      obtain⟨a,vs,ws,q1,q2,q3,q4,q5,q6,q7⟩:=z;refine⟨a,vs,ws,q1,q2,q3,q4,q5,λi w' e=>?_,λb o p=>q7 b o (.inl p)⟩;rcases backEn_get e with⟨j,c,e⟩|⟨c,e⟩
      · obtain ⟨a', _, _, _, h2, h3, _⟩ := capt i j w' c e
        rw[h2];intro z;cases z;exact q6 j w' e h3
      · obtain ⟨a', vs', ws', h1, h2, h3, h4, h5⟩ := R.own i w' e
        rw[h2];intro z;cases z;exact q7 a vs' (.inr ⟨i,w',e,c,h2,h3⟩) rfl
theorem zo4 {m:List Bool}{Φ:Fn}{xs:List (W ⊕ Nat)}{e1 en' : En}{F1 H1:Hp}{vs:List V}{r:W × Bool}{Q:VK}{E:XK} (R1:Rel K F1 pr e1 σ H1) (a1:ArgRs K F1 σ xs vs)
    (h:(if decide (xs.map isR=m) && zaw e1 xs && zbx (za2 xs) then (za6 e1 xs).bind λws=>(Φ ws).bind λq=>if q.1.length=m.length then some (zam (za2 xs) e1 (za3 m q.1),q.2) else none else none)=some (en',r))
    (q:∀F' H' v,Same F1 F'->Rel K F' pr en' σ H'->Res K F' H' pr en' σ r v->Q v H'):spF K m Φ vs H1 Q E:=by
  split at h
  · rename_i z
    rw[Ad,Ad] at z;obtain⟨⟨z1,z2⟩,nd⟩:=z;have hm:xs.map isR=m:=Au z1;nofun;obtain⟨ws,h2,h⟩:=bS h;obtain⟨⟨ws',r'⟩,h3,h⟩:=bS h;ac_rfl;split at h
    · rename_i hl
      cases h;have lx:ws.length=xs.length:=zm2 h2;have lm:xs.length=m.length:=by rw[<-hm,Ab]
      have lv:=a1.length;have at' : ∀(k:Nat) (w:W) (b:Bool),(za3 m ws)[k]?=some (some (w,b))->∃x v,xs[k]?=some x/\isR x=b/\resA e1 x=some w/\vs[k]?=some v/\ArgR K F1 σ x v:=fun k w b e=>by
        nofun;obtain⟨g1,g2⟩:=zd4.mp e;obtain⟨x,g3,g4⟩:=znj h2 g1;obtain⟨v,g5,g6⟩:=a1.get g3;ac_rfl;rw[<-hm,Ai,g3] at g2;exact⟨x,v,g3,sI g2,g4,g5,g6⟩
      have ow:∀(k:Nat) (w:W),(za3 m ws)[k]?=some (some (w,true))->∃i v,xs[k]?=some (.inr i)/\e1[i]?=some (some (w,true))/\vs[k]?=some v/\σ[i]?=some (some v):=fun k w e=>by
        nofun;obtain⟨x,v,g1,g2,g3,g4,g5⟩:=at' k w true e;ac_rfl;cases x with
        |inl _=>cases g2
        | inr i =>
          refine⟨i,v,g1,?_,g4,g5⟩;have o:=Bd.mp z2 _ (Bn g1);simp only at o;split at o
          · rename_i w0 e0
            unfold resA at g3;simp only [e0] at g3;obtain rfl:=sI g3;exact e0
          · cases o
      have RC:Rel K F1 (zbt pr (za2 xs) e1 σ H1) (za3 m ws) (vs.map some) H1:=by
        refine⟨by rw[zd5 #v[],Ab];omega,R1.sub,λk w e=>?_,λk w e=>?_,λk l a w w' g1 g2 g3 g4=>?_,λb o p=>?_,R1.tb.go (λb xs z=>zii R1 z) (λb ps e f=>⟨e,f⟩) (.refl F1) λb ps e hh o z=>zh5 R1 e hh o z⟩
        · refine aG fun Gg qG => ?_
          obtain⟨x,v,g1,g2,g3,g4,g5⟩:=at' k w false e;ac_rfl;cases x with
          |inr _=>cases g2
          |inl u=>obtain rfl:=sI g3;exact⟨v,by rw[Ai,g4];rfl,g5⟩
        · refine aG fun Gg qG => ?_
          obtain⟨i,v,g1,g2,g3,g4⟩:=ow k w e;obtain⟨a,us,wz,p1,p2,p3,p4,p5⟩:=R1.own i w g2;ac_rfl;rw[g4] at p2;cases p2;exact⟨a,us,wz,p1,by rw[Ai,g3];rfl,p3,p4,p5⟩
        · refine aG fun Gg qG => ?_
          obtain⟨i,v,k1,k2,k3,k4⟩:=ow k w g1;obtain⟨i',v',l1,l2,l3,l4⟩:=ow l w' g2;ac_rfl;rw[Ai,k3] at g3;cases g3;rw[Ai,l3] at g4;cases g4;have:=R1.inj i i' a _ _ k2 l2 k4 l4;subst this;have y:=zfy nd (zet.mpr k1);rw[zfy nd (zet.mpr l1)] at y;exact (sI y).symm
        · rcases p with p | ⟨j, w, p1, p2, p3, p4⟩
          · obtain ⟨b1, b2, b3⟩ := R1.prt b o p
            refine⟨b1,b2,λk w e=>?_⟩;nofun;obtain⟨i,v,g1,g2,g3,g4⟩:=ow k w e;ac_rfl;rw[Ai,g3];intro y;cases y;exact b3 i w g2 g4
          · refine aG fun Gg qG => ?_
            obtain⟨a,us,wz,p1',p2',p3',p4',p5'⟩:=R1.own j w p1;ac_rfl;rw[p3] at p2';cases p2';refine⟨p4,p4',λk w' e=>?_⟩;nofun;obtain⟨i,v,g1,g2,g3,g4⟩:=ow k w' e;ac_rfl;rw[Ai,g3];intro y;cases y;have:=R1.inj i j _ _ _ g2 p1 g4 p3;subst this;exact zcs p2 k (zet.mpr g1)
      refine ⟨F1,zbt pr (za2 xs) e1 σ H1,ws,ws',_,by omega,hl,RC,h3,fun F2 H2 v s2 R2 y2=>?_⟩;obtain ⟨Ro,rz⟩:=R1.back s2 R2 fun i j v c e=>by
        have c':=zet.mp (zbi c);obtain⟨v',g1,g2⟩:=a1.get c';rw[Ai,g1] at e;cases e;exact g2
      exact q F2 H2 v s2 Ro (rz _ _ y2)
    · cases h
  · cases h
theorem zvl {m:List Bool}{Φ:Fn}{as:GAs}{Q:VK}(h:tE K (zab m Φ as) σ H Q):z74 (spF K m Φ) [] E0 (tAs K as) σ H Q:=by
 nofun;obtain⟨F,pr,en,en',r,R,h,q⟩:=h;obtain⟨⟨e1,xs⟩,h1,h⟩:=bS h;ac_rfl;refine⟨F,pr,en,e1,xs,R,h1,λF1 H1 vs s1 R1 a1=>?_⟩;show spF K m Φ (vs++[]) H1 Q E0;rw[By];exact zo4 R1 a1 h λF' H' v s'=>q F' H' v (s1.trans s')
end
noncomputable def zb9:List Bool->List W->En->Option (List W)
 |[],[],_=>some []
 |true::m,_::ws,#v[w,5]::en=>(zb9 m ws en).bind λr=>some (w::r)
 |false::m,w::ws,_::en=>(zb9 m ws en).bind λr=>some (w::r)
 |_,_,_=>none
noncomputable def mpOf (m:List Bool):List Nat:=(List.range m.length).filter λk=>m[k]? == some true
noncomputable def zac (m:List Bool) (n:Nat) (g:GS):Fn:=λws=>if ws.length=m.length then match g (za3 m ws++List.replicate (n - m.length) none) with
 |some (en,.ret r)=>(zb9 m ws en).bind λws'=>some (ws',r)
 |some (en,.nx)=>(zb9 m ws en).bind λws'=>some (ws',(.non,false))
 |_=>none else none
theorem zj0:∀{m:List Bool}{ws:List W}{en:En}{ws' : List W},zb9 m ws en=some ws'->ws'.length=m.length/\∀(k:Nat) (w:W),ws'[k]?=some w->(m[k]?=some true->en[k]?=some (some (w,true)))/\(m[k]?=some false->ws[k]?=some w)
  |[],[],_,_,e=>by obtain rfl:=sI e;exact⟨rfl,λk w h=>by simp at h⟩
  | true::m,_::ws,some (u,true)::en,_,e=>by
    obtain⟨r,h,e⟩:=bS (show (zb9 m ws en).bind _=_ from e);obtain rfl:=sI e;obtain⟨h1,h2⟩:=zj0 h;refine⟨congrArg (· + 1) h1,λk w hk=>?_⟩;cases k with
    |zero=>simp at hk;subst hk;exact⟨λ_=>rfl,λz=>by simp at z⟩
    | succ k =>
      have:=h2 k w (by simpa using hk);exact⟨λz=>by simpa using this.1 (by simpa using z),λz=>by simpa using this.2 (by simpa using z)⟩
  | false::m,u::ws,_::en,_,e=>by
    obtain⟨r,h,e⟩:=bS (show (zb9 m ws en).bind _=_ from e);obtain rfl:=sI e;obtain⟨h1,h2⟩:=zj0 h;refine⟨congrArg (· + 1) h1,λk w hk=>?_⟩;cases k with
    |zero=>simp at hk;subst hk;exact⟨λz=>by simp at z,λ_=>rfl⟩
    | succ k =>
      have:=h2 k w (by simpa using hk);exact⟨λz=>by simpa using this.1 (by simpa using z),λz=>by simpa using this.2 (by simpa using z)⟩
  |[],_::_,_,_,e=>by exact noSome e
  |true::_,[],_,_,e=>by exact noSome e
  |false::_,[],_,_,e=>by exact noSome e
  |true::_,_::_,[],_,e=>by exact noSome e
  |false::_,_::_,[],_,e=>by exact noSome e
  |true::_,_::_,none::_,_,e=>by exact noSome e
  |true::_,_::_,#v[_,6]::_,_,e=>by exact noSome e
theorem zt1 {K:PySem.W.Frag}{m:List Bool}{N:List Str}{g:GS}{vs:List V}{H:Hp}{Q:VK}{E:XK} (h:spF K m (zac m N.length g) vs H Q E):tS K (mpOf m) g { nx:=fun _ H'=>Q .non H',rt:=Q } (start N vs) H:=by
  have hv:=zy8 h;refine aG fun _ qG=>?_;obtain ⟨F,pr,ws,ws',r,h1,h2,R,h3,q⟩:=h;refine qG ?_;clear qG;unfold zac at h3;rw [if_pos h1] at h3;have la:=zd5 h1;have pad:∀(i:Nat) (x:W × Bool),(za3 m ws++List.replicate (N.length - m.length) none)[i]?=some (some x)->(za3 m ws)[i]?=some (some x):=fun i x e=>by
    by_cases hi:i<(za3 m ws).length
    · rw[Da hi] at e;exact e
    · rw [Ey (by omega), List.getElem?_replicate] at e
      split at e<;>cases e
  have st:∀(i:Nat) (v:V),(vs.map some)[i]?=some (some v)->(start N vs)[i]?=some (some v):=fun i v e=>by
    unfold start;rw[Da (by have:=(Ak.mp e).1;exact this)];exact e
  have st' : ∀(i:Nat) (v:V),i < m.length->(start N vs)[i]?=some (some v)->(vs.map some)[i]?=some (some v):=fun i v hi e=>by
    unfold start at e;rw[Da (by rw[Ab];omega)] at e;exact e
  have R0:Rel K F pr (za3 m ws++List.replicate (N.length - m.length) none) (start N vs) H:=by
    refine⟨?_,R.sub,λi w e=>?_,λi w e=>?_,λi j a w w' e1 e2 q1 q2=>?_,λb o p=>?_,R.tb⟩
    · unfold start
      rw[Ba,Ba,Dc,Dc,Ab,la,hv]
    · obtain ⟨v, g1, g2⟩ := R.val i w (pad i _ e)
      exact⟨v,st i v g1,g2⟩
    · refine aG fun Gg qG => ?_
      obtain⟨a,us,wz,g1,g2,g3⟩:=R.own i w (pad i _ e);ac_rfl;exact⟨a,us,wz,g1,st i _ g2,g3⟩
    · have l1 : i < m.length := by have := (Ak.mp (pad i _ e1)).1; omega
      have l2:j<m.length:=by have:=(Ak.mp (pad j _ e2)).1;omega
      exact R.inj i j a w w' (pad i _ e1) (pad j _ e2) (st' i _ l1 q1) (st' j _ l2 q2)
    · obtain ⟨b1, b2, b3⟩ := R.prt b o p
      refine⟨b1,b2,λi w e z=>?_⟩;have l1:i<m.length:=by have:=(Ak.mp (pad i _ e)).1;omega
      exact b3 i w (pad i _ e) (st' i _ l1 z)
  have back:∀(en:En) (wz:List W) (F' : Hp) (σ' : St) (H' : Hp),zb9 m ws en=some wz->Same F F'->Rel K F' pr en σ' H'->Keep (mpOf m) (start N vs) σ' ->
      Rel K F' pr (za3 m wz) (vs.map some) H'/\∀r v,Res K F' H' pr en σ' r v->Res K F' H' pr (za3 m wz) (vs.map some) r v:=λen wz F' σ' H' ho s' R' k'=>by
    obtain ⟨o1,o2⟩:=zj0 ho;have own:∀(k:Nat) (w:W),(za3 m wz)[k]?=some (some (w,true))->en[k]?=some (some (w,true))/\∀v,σ'[k]?=some (some v)↔(vs.map some)[k]?=some (some v):=fun k w e=>by
      obtain⟨g1,g2⟩:=zd4.mp e;have lk:k<m.length:=(Ak.mp g2).1;have hk:k∈mpOf m:=Di.mpr ⟨Bi.mpr lk,by rw[g2];simp⟩;refine⟨(o2 k w g1).1 g2,λv=>?_⟩;rw[k' k hk];exact⟨st' k v lk,st k v⟩
    refine⟨⟨by rw[zd5 o1,Ab,hv],R'.sub,λk w e=>?_,λk w e=>?_,λk l a w w' e1 e2 q1 q2=>?_,λb o p=>?_,R'.tb⟩,λr v z=>?_⟩
    · refine aG fun Gg qG => ?_
      obtain⟨g1,g2⟩:=zd4.mp e;obtain⟨v,g3,g4⟩:=R.val k w (zd4.mpr ⟨(o2 k w g1).2 g2,g2⟩);ac_rfl;exact⟨v,g3,g4.mono s'⟩
    · refine aG fun Gg qG => ?_
      obtain⟨g1,g2⟩:=own k w e;obtain⟨a,us,wz,p1,p2,p3⟩:=R'.own k w g1;ac_rfl;exact⟨a,us,wz,p1,(g2 _).mp p2,p3⟩
    · obtain ⟨g1, g2⟩ := own k w e1
      obtain⟨g3,g4⟩:=own l w' e2;exact R'.inj k l a _ _ g1 g3 ((g2 _).mpr q1) ((g4 _).mpr q2)
    · obtain ⟨b1, b2, b3⟩ := R'.prt b o p
      refine⟨b1,b2,λk w e z=>?_⟩;obtain⟨g1,g2⟩:=own k w e;exact b3 k w g1 ((g2 _).mpr z)
    · obtain ⟨w0, fl⟩ := r
      cases fl with
      |false=>exact z
      | true =>
        nofun;obtain⟨a,us,wz',q1,q2,q3,q4,q5,q6,q7⟩:=z;ac_rfl;refine⟨a,us,wz',q1,q2,q3,q4,q5,λk w e y=>?_,q7⟩;obtain⟨g1,g2⟩:=own k w e;exact q6 k w g1 ((g2 _).mpr y)
  cases eg:g (za3 m ws++List.replicate (N.length - m.length) none) with
  |none=>simp only [eg] at h3;exact noSome h3
  | some p =>
    obtain⟨en,fl⟩:=p;refine⟨F,pr,_,en,fl,R0,eg,?_⟩;cases fl with
    |brk=>simp only [eg] at h3;exact noSome h3
    |cnt=>simp only [eg] at h3;exact noSome h3
    | nx =>
      simp only [eg] at h3;obtain⟨wz,ho,h3⟩:=bS h3;cases h3;intro F' σ' H' s' R' k';obtain⟨Rb,_⟩:=back en ws' F' σ' H' ho s' R' k';exact q F' H' .non s' Rb .non
    | ret r' =>
      simp only [eg] at h3;obtain⟨wz,ho,h3⟩:=bS h3;cases h3;intro F' σ' H' v s' R' k' z;obtain⟨Rb,rb⟩:=back en ws' F' σ' H' ho s' R' k';exact q F' H' v s' Rb (rb _ _ z)
end L2
set_option maxHeartbeats 4000000
namespace L2
open PySem PyProof.Rows
namespace Tim
noncomputable def gal:Bool->Keyed->Array Keyed->Nat->Nat->Nat->StateT SortSt Sem (Option Nat):=sortPriv% PySem.Builtin.gallop
noncomputable def mLo:Array Keyed->Array Keyed->StateT SortSt Sem (Array Keyed):=sortPriv% PySem.Builtin.mergeLo
noncomputable def mHi:Array Keyed->Array Keyed->StateT SortSt Sem (Array Keyed):=sortPriv% PySem.Builtin.mergeHi
theorem aG {P:Prop}(h:∀G:Prop,(P->G)->G):P:=h P id
structure Ord (lt:Keyed->Keyed->Bool) (bf le:Keyed->Keyed->Prop):Prop where
 tr:∀{x y z},le x y->le y z->le x z
 tot:∀x y,le x y\/le y x
 f1:∀{x y},bf x y->(lt y x=false↔le x y)
 f2:∀{x y},lt x y=true->le x y
 irr:∀x,lt x x=false
 ltr:∀{x y z},lt x y=true->lt y z=true->lt x z=true
 nt:∀{x z} (y),lt x z=true->lt x y=true\/lt y z=true
section
variable {lt:Keyed->Keyed->Bool}{bf le:Keyed->Keyed->Prop} (O:Ord lt bf le)
include O
theorem Ord.rf (x:Keyed):le x x:=(O.tot x x).elim id id
theorem Ord.f3 {x y:Keyed}(h:bf x y)(q:lt y x=true):¬ le x y:=λz=>by rw[(O.f1 h).mpr z] at q;cases q
end
noncomputable abbrev d0:Keyed:=(Value.none,Value.none)
noncomputable def G (xs:Array Keyed) (i:Nat):Keyed:=(xs[i]?).getD d0
theorem z4i {xs:Array Keyed}{i:Nat}(h:i<xs.size):xs[i]?=some (G xs i):=by unfold G;rw[getElem?_pos xs i h];rfl
theorem z7j {xs a₀:Array Keyed}(p:xs.Perm a₀){i:Nat}(h:i<xs.size):G xs i∈a₀.toList:=by
 refine (Hb.mp p).mem_iff.mp ?_;unfold G;rw[getElem?_pos xs i h];simp
theorem zf7 {xs ys:Array Keyed}{i j:Nat}(h:xs[i]?=ys[j]?):G xs i=G ys j:=by unfold G;rw[h]
noncomputable def Asks (prog:Program) (w:World) (A:Around) (E:Value->Shared->Prop) (s:Shared) (κ:SortKind) (a₀:Array Keyed) (lt:Keyed->Keyed->Bool):Prop :=
 ∀(x y:Keyed) (st:SortSt) (Q:Option Bool->SortSt->Prop),x∈a₀.toList->y∈a₀.toList->kindOf st=κ->Q (some (lt x y)) st->wpS (model prog w) A E s (lt' x y) Q st
section
variable {prog:Program}{w:World}{A:Around}{E:Value->Shared->Prop}{s:Shared}{κ:SortKind}{a₀:Array Keyed}{lt:Keyed->Keyed->Bool}{st:SortSt}
theorem zay {arr:Array Keyed}{i:Nat}{Q:Keyed->SortSt->Prop}(hi:i<arr.size)(h:Q (G arr i) st):wpS (model prog w) A E s (elem' arr i) Q st:=by
 rw[elem'_eq,z4i hi];exact At h
theorem zhy {i j:Nat}{Q:Option Bool->SortSt->Prop} (C:Asks prog w A E s κ a₀ lt) (hk:kindOf st=κ) (p:(arrOf st).Perm a₀) (hi:i < a₀.size) (hj:j < a₀.size) (h:Q (some (lt (G (arrOf st) i) (G (arrOf st) j))) st) :
  wpS (model prog w) A E s (ltAt' i j) Q st:=by
 have e:=p.size_eq;rw[ltAt'_eq];refine An (Hn ?_);exact An (zay #v[] (An (zay #v[] (C _ _ _ _ (z7j p #v[]) (z7j p #v[]) hk h))))
theorem zsn {left:Bool}{key:Keyed}{arr:Array Keyed}{base n hint:Nat}{B:Nat->Bool}{Q:Option Nat->SortSt->Prop} (C:Asks prog w A E s κ a₀ lt) (hk:kindOf st=κ) (hkey:key∈a₀.toList)
    (hs:base+n<=arr.size) (hm:∀i,i<n->G arr (base+i)∈a₀.toList) (hB:∀i,i<n->B i=if left then lt (G arr (base+i)) key else !lt key (G arr (base+i)))
    (mono:∀i j,i<=j->j<n->B j=true->B i=true) (hh:hint<n)
    (h:∀k,k<=n->(∀i,i<k->B i=true)->(∀i,k<=i->i<n->B i=false)->Q (some k) st):wpS (model prog w) A E s (gal left key arr base n hint) Q st:=by
  have mono' : ∀i j,i<=j->j < n->B i=false->B j=false:=fun i j h1 h2 h3=>by
    cases q:B j with
    |false=>rfl
    |true=>rw[mono i j h1 h2 q] at h3;cases h3
  let beyond:Nat->StateT SortSt Sem (Option Bool):=fun i=>do
    let x <- elem' arr (base+i)
    if left=true then lt' x key else do
      let r <- lt' key x
      pure (r.map (!·))
  have hb:∀(i:Nat) (R:Option Bool->SortSt->Prop),i < n->R (some (B i)) st->wpS (model prog w) A E s (beyond i) R st:=fun i R hi hR=>by
    refine An (zay #v[] ?_);have e:=hB i hi;cases left with
    | true =>
      rw[if_pos rfl] at e;rw[if_pos rfl];exact C _ _ _ _ (hm i hi) hkey hk (by rw[<-e];exact hR)
    | false =>
      rw[if_neg #v[0,9]] at e;rw[if_neg #v[0,9]];exact An (C _ _ _ _ hkey (hm i hi) hk (At (by show R (some (!lt key (G arr (base+i)))) st;rw[<-e];exact hR)))
  show wpS (model prog w) A E s (do let o <- beyond hint;_) Q st;refine An (hb _ _ hh ?_);cases q:B hint with
  | true =>
    refine An (Dn (Cb (I:=fun x c st'=>st'=st/\∃l o,c=(none,l,o)/\l < o/\x < o/\hint+l < n/\B (hint+l)=true)
      (Q:=λc st'=>st'=st/\∃l o,c=(none,l,o)/\l<o/\hint+l<n/\B (hint+l)=true/\(n - hint<=o\/hint+o<n/\B (hint+o)=false)) ?step ?fin ⟨rfl,0,1,rfl,by omega,by omega,by omega,q⟩) ?post)
    case fin =>
      rintro c st' ⟨rfl,l,o,rfl,a1,a2,a3,a4⟩;exact⟨rfl,l,o,rfl,a1,a3,a4,.inl #v[]⟩
    case step =>
      rintro x c st' _ hx ⟨rfl,l,o,rfl,a1,a2,a3,a4⟩;dsimp only;by_cases g:o ≥ n - hint
      · rw [if_pos g]
        exact At ⟨rfl,l,o,rfl,a1,a3,a4,.inl g⟩
      · rw [if_neg g]
        refine An (hb _ _ #v[] ?_);cases q2:B (hint+o) with
        | true =>
          dsimp only;rw[if_neg #v[0,9]];exact At ⟨rfl,o,2 * o+1,rfl,by omega,by omega,by omega,q2⟩
        | false =>
          dsimp only;rw[if_pos #v[0,9]];exact At ⟨rfl,l,o,rfl,a1,a3,a4,.inr ⟨by omega,q2⟩⟩
    case post =>
      rintro c st' ⟨rfl,l,o,rfl,a1,a3,a4,a5⟩;dsimp only;refine An (Dn (Cb (I:=fun x c st''=>st''=st'/\∃lo hi,c=(none,lo,hi)/\lo<=hi/\hi<=n/\hi - lo<=n - x/\(∀i,i < lo->B i=true)/\∀i,hi<=i->i < n->B i=false)
        (Q:=λc st''=>st''=st'/\∃lo hi,c=(none,lo,hi)/\lo=hi/\hi<=n/\(∀i,i<lo->B i=true)/\∀i,hi<=i->i<n->B i=false) ?s3 ?f3 ⟨rfl,hint+l+1,hint+min o (n - hint),rfl,by omega,by omega,by omega,λi hi=>mono i _ #v[] a3 a4,λi h1 h2=>a5.elim (λa5=>by omega) λa5=>mono' _ i #v[] h2 a5.2⟩) ?p3)
      case f3 =>
        rintro c st'' ⟨rfl,lo,hi,rfl,a1,a2,a3,a4,a5⟩;exact⟨rfl,lo,hi,rfl,by omega,a2,a4,a5⟩
      case s3 =>
        rintro x c st'' _ hx ⟨rfl,lo,hi,rfl,a1,a2,a3,a4,a5⟩;dsimp only;by_cases g:lo ≥ hi
        · rw [if_pos g]
          exact At ⟨rfl,lo,hi,rfl,by omega,a2,a4,a5⟩
        · rw [if_neg g]
          refine An (hb _ _ #v[] ?_);cases q:B (lo+(hi - lo) / 2) with
          | true =>
            dsimp only;rw[if_pos rfl];refine At ⟨rfl,lo+(hi - lo) / 2+1,hi,rfl,by omega,a2,by omega,λi hi'=>?_,a5⟩;exact mono i _ #v[] #v[] q
          | false =>
            dsimp only;rw[if_neg #v[0,9]];refine At ⟨rfl,lo,lo+(hi - lo) / 2,rfl,by omega,by omega,by omega,a4,λi h1 h2=>?_⟩;exact mono' _ i h1 h2 q
      case p3 =>
        rintro c st'' ⟨rfl,lo,hi,rfl,rfl,a2,a4,a5⟩;exact At (h lo a2 a4 a5)
  | false =>
    refine An (Dn (Cb (I:=fun x c st'=>st'=st/\∃l o,c=(none,l,o)/\l < o/\x < o/\l<=hint/\B (hint - l)=false)
      (Q:=λc st'=>st'=st/\∃l o,c=(none,l,o)/\l<o/\l<=hint/\B (hint - l)=false/\(hint+1<=o\/o<=hint/\B (hint - o)=true)) ?step ?fin ⟨rfl,0,1,rfl,by omega,by omega,by omega,q⟩) ?post)
    case fin =>
      rintro c st' ⟨rfl,l,o,rfl,a1,a2,a3,a4⟩;exact⟨rfl,l,o,rfl,a1,a3,a4,.inl #v[]⟩
    case step =>
      rintro x c st' _ hx ⟨rfl,l,o,rfl,a1,a2,a3,a4⟩;dsimp only;by_cases g:o ≥ hint+1
      · rw [if_pos g]
        exact At ⟨rfl,l,o,rfl,a1,a3,a4,.inl g⟩
      · rw [if_neg g]
        refine An (hb _ _ #v[] ?_);cases q2:B (hint - o) with
        | true =>
          dsimp only;rw[if_pos rfl];exact At ⟨rfl,l,o,rfl,a1,a3,a4,.inr ⟨by omega,q2⟩⟩
        | false =>
          dsimp only;rw[if_neg #v[0,9]];exact At ⟨rfl,o,2 * o+1,rfl,by omega,by omega,by omega,q2⟩
    case post =>
      rintro c st' ⟨rfl,l,o,rfl,a1,a3,a4,a5⟩;dsimp only;refine An (Dn (Cb (I:=fun x c st''=>st''=st'/\∃lo hi,c=(none,lo,hi)/\lo<=hi/\hi<=n/\hi - lo<=n - x/\(∀i,i < lo->B i=true)/\∀i,hi<=i->i < n->B i=false)
        (Q:=λc st''=>st''=st'/\∃lo hi,c=(none,lo,hi)/\lo=hi/\hi<=n/\(∀i,i<lo->B i=true)/\∀i,hi<=i->i<n->B i=false) ?s4 ?f4 ⟨rfl,hint+1 - min o (hint+1),hint - l,rfl,by omega,by omega,by omega,λi hi=>a5.elim (λa5=>by omega) λa5=>mono i _ #v[] #v[] a5.2,λi h1 h2=>mono' _ i h1 h2 a4⟩) ?p4)
      case f4 =>
        rintro c st'' ⟨rfl,lo,hi,rfl,a1,a2,a3,a4,a5⟩;exact⟨rfl,lo,hi,rfl,by omega,a2,a4,a5⟩
      case s4 =>
        rintro x c st'' _ hx ⟨rfl,lo,hi,rfl,a1,a2,a3,a4,a5⟩;dsimp only;by_cases g:lo ≥ hi
        · rw [if_pos g]
          exact At ⟨rfl,lo,hi,rfl,by omega,a2,a4,a5⟩
        · rw [if_neg g]
          refine An (hb _ _ #v[] ?_);cases q:B (lo+(hi - lo) / 2) with
          | true =>
            dsimp only;rw[if_pos rfl];refine At ⟨rfl,lo+(hi - lo) / 2+1,hi,rfl,by omega,a2,by omega,λi hi'=>?_,a5⟩;exact mono i _ #v[] #v[] q
          | false =>
            dsimp only;rw[if_neg #v[0,9]];refine At ⟨rfl,lo,lo+(hi - lo) / 2,rfl,by omega,by omega,by omega,a4,λi h1 h2=>?_⟩;exact mono' _ i h1 h2 q
      case p4 =>
        rintro c st'' ⟨rfl,lo,hi,rfl,rfl,a2,a4,a5⟩;exact At (h lo a2 a4 a5)
end
end Tim
namespace Tim
noncomputable def Srt (le:Keyed->Keyed->Prop) (xs:Array Keyed) (lo hi:Nat):Prop:=∀i j,lo<=i->i<j->j<hi->le (G xs i) (G xs j)
noncomputable def Cut (bf:Keyed->Keyed->Prop) (xs:Array Keyed) (c:Nat):Prop:=∀i j,i<c->c<=j->j<xs.size->bf (G xs i) (G xs j)
structure Re (xs ys:Array Keyed) (lo hi:Nat):Prop where
 perm:ys.Perm xs
 out:∀i,i<lo\/hi<=i->G ys i=G xs i
 inn:∀i,lo<=i->i<hi->∃j,lo<=j/\j<hi/\G ys i=G xs j
theorem Re.refl (xs:Array Keyed)(lo hi:Nat):Re xs xs lo hi:=⟨.refl _,λ_ _=>rfl,λi h1 h2=>⟨i,h1,h2,rfl⟩⟩
theorem Re.trans {xs ys zs:Array Keyed}{lo hi:Nat}(a:Re xs ys lo hi)(b:Re ys zs lo hi):Re xs zs lo hi :=
 ⟨b.perm.trans a.perm,λi h=>(b.out i h).trans (a.out i h),λi h1 h2=>by
  obtain⟨j,g1,g2,e⟩:=b.inn i h1 h2;obtain⟨k,k1,k2,e'⟩:=a.inn j g1 g2;exact⟨k,k1,k2,e.trans e'⟩⟩
theorem Re.mono {xs ys:Array Keyed}{lo hi lo' hi' : Nat}(a:Re xs ys lo hi)(h1:lo'<=lo)(h2:hi<=hi'):Re xs ys lo' hi' :=
 ⟨a.perm,λi h=>a.out i #v[],λi g1 g2=>by
  by_cases c:lo<=i/\i<hi
  ·obtain⟨j,k1,k2,e⟩:=a.inn i c.1 c.2;exact⟨j,by omega,by omega,e⟩
  ·exact⟨i,g1,g2,a.out i #v[]⟩⟩
theorem Re.size {xs ys:Array Keyed}{lo hi:Nat}(a:Re xs ys lo hi):ys.size=xs.size:=a.perm.size_eq
theorem Cut.re {bf:Keyed->Keyed->Prop}{xs ys:Array Keyed}{lo hi c:Nat}(h:Cut bf xs c)(a:Re xs ys lo hi)(hs:hi<=xs.size)(hc:c<=lo\/hi<=c):Cut bf ys c:=λi j h1 h2 h3=>by
 have e:=a.size;have wi:∃i',i' < c/\G ys i=G xs i':=by
  by_cases k:lo<=i/\i<hi
  ·obtain⟨i', g1,g2,e⟩:=a.inn i k.1 k.2;exact⟨i',by omega,e⟩
  ·exact⟨i,h1,a.out i #v[]⟩
 have wj:∃j',c<=j'/\j' < xs.size/\G ys j=G xs j':=by
  by_cases k:lo<=j/\j<hi
  ·obtain⟨j', g1,g2,e⟩:=a.inn j k.1 k.2;exact⟨j',by omega,by omega,e⟩
  ·exact⟨j,h2,by omega,a.out j #v[]⟩
 obtain⟨i',e1,e2⟩:=wi;obtain⟨j',e3,e4,e5⟩:=wj;rw[e2,e5];exact h i' j' e1 e3 e4
theorem Srt.re {le:Keyed->Keyed->Prop}{xs ys:Array Keyed}{lo hi a b:Nat}(h:Srt le xs a b)(r:Re xs ys lo hi)(hc:b<=lo\/hi<=a):Srt le ys a b:=λi j h1 h2 h3=>by
 rw[r.out i #v[],r.out j #v[]];exact h i j h1 h2 h3
noncomputable def mir (xs:Array Keyed) (i j:Nat):Array Keyed:=mirror xs i j ((j - i) / 2)
theorem zhj {xs:Array Keyed}{i j:Nat}(hj:j<=xs.size)(k:Nat):G (mir xs i j) k=if i<=k/\k<j then G xs (i+j - 1 - k) else G xs k:=by
 have e:=getElem?_mirror_all (i:=i) hj k;unfold mir;by_cases h1:i<=k/\k<j
 ·rw[if_pos h1] at e ⊢;exact zf7 e
 ·rw[if_neg h1] at e ⊢;exact zf7 e
theorem Re.mir {xs:Array Keyed}{i j:Nat}(hj:j<=xs.size):Re xs (mir xs i j) i j :=
 ⟨mirror_perm _ _ _ _,λk h=>by rw[zhj hj,if_neg #v[]],λk h1 h2=>⟨i+j - 1 - k,by omega,by omega,by rw[zhj hj,if_pos ⟨h1,h2⟩]⟩⟩
theorem z0q {xs:Array Keyed}{src d:Nat}(hs:src<xs.size)(hd:d<=src)(k:Nat):G (bubble xs src d) k=if k=src - d then G xs src else if src - d<k/\k<=src then G xs (k - 1) else G xs k:=by
 have e:=getElem?_bubble hs d hd k;by_cases h1:k=src - d
 ·rw[if_pos h1] at e ⊢;exact zf7 e
 ·rw[if_neg h1] at e ⊢;by_cases h2:src - d<k/\k<=src
  ·rw[if_pos h2] at e ⊢;exact zf7 e
  ·rw[if_neg h2] at e ⊢;exact zf7 e
theorem Re.bub {xs:Array Keyed}{src d:Nat}(hs:src<xs.size)(hd:d<=src):Re xs (bubble xs src d) (src - d) (src+1) :=
 ⟨bubble_perm _ _ _,λk h=>by rw[z0q hs hd,if_neg #v[],if_neg #v[]],λk h1 h2=>by
  rw[z0q hs hd];by_cases c:k=src - d
  ·exact⟨src,by omega,by omega,by rw[if_pos c]⟩
  ·exact⟨k - 1,by omega,by omega,by rw[if_neg c,if_pos ⟨by omega,by omega⟩]⟩⟩
structure SI (κ:SortKind) (a₀:Array Keyed) (pd:Array (Nat × Nat × Nat)) (st:SortSt):Prop where
 kind:kindOf st=κ
 failed:failedOf st=none
 perm:(arrOf st).Perm a₀
 pend:pendingOf st=pd
theorem SI.size {κ a₀ pd st}(h:SI κ a₀ pd st):(arrOf st).size=a₀.size:=h.perm.size_eq
theorem SI.set {κ a₀ pd st}(h:SI κ a₀ pd st){ys:Array Keyed}(p:ys.Perm (arrOf st)):SI κ a₀ pd (setArr st ys):=⟨h.kind,h.failed,p.trans h.perm,h.pend⟩
section
variable {prog:Program}{w:World}{A:Around}{E:Value->Shared->Prop}{s:Shared}{κ:SortKind}{a₀:Array Keyed}{lt:Keyed->Keyed->Bool}{bf le:Keyed->Keyed->Prop}{st:SortSt}{pd:Array (Nat × Nat × Nat)}
theorem z0e {i j:Nat}{Q:Unit->SortSt->Prop}(h:Q () (setArr st (mir (arrOf st) i j))):wpS (model prog w) A E s (reverseSlice' i j) Q st:=by
 rw[reverseSlice'_eq];exact wpS_modify h
theorem z96 {i j:Nat}{Q:Unit->SortSt->Prop}(h:Q () (setArr st (bubble (arrOf st) i (i - j)))):wpS (model prog w) A E s (moveDown' i j) Q st:=by
 rw[moveDown'_eq];exact wpS_modify h
theorem grp (O:Ord lt bf le) {xs ys:Array Keyed}{lo n c:Nat} (c1:lo<=c) (c2:c < lo+n) (hy:∀k,G ys k=if c<=k/\k < lo+n then G xs (c+(lo+n) - 1 - k) else G xs k)
  (d1:∀i j,lo<=i->i<j->j<c->le (G xs j) (G xs i)) (d2:∀i j,lo<=i->i<c->c<=j->j<lo+n->lt (G xs j) (G xs i)=true)
  (d3:∀i j,c<=i->i<j->j<lo+n->le (G xs i) (G xs j)) (d4:∀i j,c<=i->i<lo+n->c<=j->j<lo+n->lt (G xs i) (G xs j)=false) :
  (∀i j,lo<=i->i<j->j<lo+n->le (G ys j) (G ys i))/\∀y,lt y (G xs (lo+n - 1))=true->∀i,lo<=i->i<lo+n->lt y (G ys i)=true:=by
 constructor
 ·intro i j h1 h2 h3;rw[hy i,hy j];by_cases a:j<c
  ·rw[if_neg #v[],if_neg #v[]];exact d1 i j h1 h2 a
  ·rw[if_pos ⟨by omega,h3⟩];by_cases b:i<c
   ·rw[if_neg #v[]];exact O.f2 (d2 i _ h1 b #v[] #v[])
   ·rw[if_pos ⟨by omega,by omega⟩];exact d3 _ _ #v[] #v[] #v[]
 ·intro y h i h1 h2;rw[hy i];by_cases b:c<=i/\i<lo+n
  ·rw[if_pos b];exact (O.nt _ h).resolve_right (λq=>by rw[d4 _ _ #v[] #v[] #v[] #v[]] at q;cases q)
  ·rw[if_neg b];exact O.ltr h (d2 i _ h1 #v[] #v[] #v[])
structure DI (lt:Keyed->Keyed->Bool) (le:Keyed->Keyed->Prop) (lo n neq:Nat) (xs:Array Keyed):Prop where
 nq:neq+1<=n
 d1:∀i j,lo<=i->i<j->j<lo+n - (neq+1)->le (G xs j) (G xs i)
 d2:∀i j,lo<=i->i<lo+n - (neq+1)->lo+n - (neq+1)<=j->j<lo+n->lt (G xs j) (G xs i)=true
 d3:∀i j,lo+n - (neq+1)<=i->i<j->j<lo+n->le (G xs i) (G xs j)
 d4:∀i j,lo+n - (neq+1)<=i->i<lo+n->lo+n - (neq+1)<=j->j<lo+n->lt (G xs i) (G xs j)=false
theorem DI.turn (O:Ord lt bf le) {lo n neq:Nat}{xs:Array Keyed} (d:DI lt le lo n neq xs) (hz:lo+n<=xs.size) :
  (∀i j,lo<=i->i<j->j<lo+n->le (G (mir xs (lo+n - (neq+1)) (lo+n)) j) (G (mir xs (lo+n - (neq+1)) (lo+n)) i))/\∀y,lt y (G xs (lo+n - 1))=true->∀i,lo<=i->i<lo+n->lt y (G (mir xs (lo+n - (neq+1)) (lo+n)) i)=true :=
 grp O (by have:=d.nq;omega) (by have:=d.nq;omega) (λk=>zhj hz k) d.d1 d.d2 d.d3 d.d4
theorem DI.turn0 (O:Ord lt bf le) {lo n:Nat}{xs:Array Keyed} (d:DI lt le lo n 0 xs) :
  (∀i j,lo<=i->i<j->j<lo+n->le (G xs j) (G xs i))/\∀y,lt y (G xs (lo+n - 1))=true->∀i,lo<=i->i<lo+n->lt y (G xs i)=true :=
 grp (c:=lo+n - 1) O (by have:=d.nq;omega) (by have:=d.nq;omega) (λk=>by
  split
  ·congr 1;omega
  ·rfl) d.d1 d.d2 d.d3 d.d4
theorem DI.next (O:Ord lt bf le){lo n:Nat}{xs:Array Keyed}(h:∀i j,lo<=i->i<j->j<lo+n->le (G xs j) (G xs i))(h2:∀i,lo<=i->i<lo+n->lt (G xs (lo+n)) (G xs i)=true):DI lt le lo (n+1) 0 xs :=
 ⟨by omega,λi j a b c=>h i j a b #v[],λi j a b c d=>by
  have e:j=lo+n:=by omega
  rw[e];exact h2 i a #v[],λi j a b c=>by omega,λi j a b c d=>by
  have e:j=i:=by omega
  rw[e];exact O.irr _⟩
theorem DI.like (O:Ord lt bf le) {lo n neq:Nat}{xs:Array Keyed} (d:DI lt le lo n neq xs) (hb:∀i,lo<=i->i < lo+n->bf (G xs i) (G xs (lo+n))) (q1:lt (G xs (lo+n)) (G xs (lo+n - 1))=false) (q2:lt (G xs (lo+n - 1)) (G xs (lo+n))=false):DI lt le lo (n+1) (neq+1) xs:=by
  have nq:=d.nq;have ec:lo+(n+1) - (neq+1+1)=lo+n - (neq+1):=by omega
  have t1:∀i,lo+n - (neq+1)<=i->i < lo+n->lt (G xs (lo+n)) (G xs i)=false:=fun i a b=>by
    cases q:lt (G xs (lo+n)) (G xs i) with
    |false=>rfl
    | true =>
      rcases O.nt (G xs (lo+n - 1)) q with z|z
      · rw[q1] at z;cases z
      · rw[d.d4 _ _ #v[] #v[] a b] at z;cases z
  have t2:∀i,lo+n - (neq+1)<=i->i < lo+n->lt (G xs i) (G xs (lo+n))=false:=fun i a b=>by
    cases q:lt (G xs i) (G xs (lo+n)) with
    |false=>rfl
    | true =>
      rcases O.nt (G xs (lo+n - 1)) q with z|z
      · rw[d.d4 _ _ a b #v[] #v[]] at z;cases z
      · rw[q2] at z;cases z
  refine⟨by omega,?_,?_,?_,?_⟩<;>rw[ec]
  · exact d.d1
  · intro i j a b c e
    by_cases k:j<lo+n
    · exact d.d2 i j a b c k
    · have ej : j = lo + n := by omega
      rw[ej];exact (O.nt (G xs (lo+n)) (d.d2 i (lo+n - 1) a b #v[] #v[])).resolve_left (λz=>by rw[q2] at z;cases z)
  · intro i j a b c
    by_cases k:j<lo+n
    · exact d.d3 i j a b k
    · have ej : j = lo + n := by omega
      rw[ej];exact (O.f1 (hb i #v[] #v[])).mp (t1 i a #v[])
  · intro i j a b c e
    by_cases k:j<lo+n
    · by_cases k2 : i < lo + n
      · exact d.d4 i j a k2 c k
      · have ei : i = lo + n := by omega
        rw[ei];exact t1 j c k
    · have ej : j = lo + n := by omega
      rw[ej];by_cases k2:i<lo+n
      · exact t2 i a k2
      · have ei : i = lo + n := by omega
        rw[ei];exact O.irr _
theorem yal {α:Type}{c:Prop} [Decidable c] {x y:StateT SortSt Sem α}{Q:α->SortSt->Prop}{T:SortSt->Prop}(h:∀s3,T s3->wpS (model prog w) A E s y Q s3)(h0:¬ c->T st)(h1:c->(∀s3,T s3->wpS (model prog w) A E s y Q s3)->wpS (model prog w) A E s x Q st):wpS (model prog w) A E s (if c then x else y) Q st:=by
 by_cases k:c
 ·rw[if_pos k];exact h1 k h
 ·rw[if_neg k];exact h st (h0 k)
theorem z7d (C:Asks prog w A E s κ a₀ lt) (O:Ord lt bf le) {lo nrem:Nat}{Q:Option Nat->SortSt->Prop} (I:SI κ a₀ pd st) (hsz:lo+nrem<=a₀.size) (h1:1<=nrem) (hc:∀c,lo<=c->Cut bf (arrOf st) c)
    (h:∀m st',SI κ a₀ pd st'->1<=m->m<=nrem->Re (arrOf st) (arrOf st') lo (lo+m)->Srt le (arrOf st') lo (lo+m)->Q (some m) st'):wpS (model prog w) A E s (countRun' lo nrem) Q st:=by
  have sz:=I.size;rw [countRun'_eq];refine An (Dn (Cb (I:=fun x c s2=>s2=st/\c=(none,x)/\1<=x/\x<=nrem/\Srt le (arrOf st) lo (lo+x))
    (Q:=λc s2=>s2=st/\∃k,c=(none,k)/\1<=k/\k<=nrem/\Srt le (arrOf st) lo (lo+k)/\(k=nrem\/lt (G (arrOf st) (lo+k)) (G (arrOf st) (lo+k - 1))=true)) ?as1 ?af1 ⟨rfl,rfl,Ag _,h1,(λi j g1 g2 g3=>by omega)⟩) ?ap1)
  case af1 =>
    rintro c s2 ⟨e2,rfl,a0,a1,a2⟩;rw[show max 1 nrem=nrem by omega] at *
    exact⟨e2,nrem,rfl,by omega,Ag _,a2,.inl rfl⟩
  case as1 =>
    rintro x c s2 b1 b2 ⟨e2,rfl,a0,a1,a2⟩;subst e2;dsimp only;refine An (zhy C I.kind I.perm #v[] #v[] ?_);cases q:lt (G (arrOf s2) (lo+x)) (G (arrOf s2) (lo+x - 1)) with
    | true =>
      dsimp only;rw[if_pos rfl];exact At ⟨rfl,x,rfl,a0,a1,a2,.inr q⟩
    | false =>
      dsimp only;rw[if_neg #v[0,9]];refine At ⟨rfl,rfl,by omega,by omega,λi j h1 h2 h3=>?_⟩;by_cases hj:j<lo+x
      · exact a2 i j h1 h2 hj
      · have ej : j = lo + x := by omega
        subst ej;have b:le (G (arrOf s2) (lo+x - 1)) (G (arrOf s2) (lo+x)):=(O.f1 (hc (lo+x) #v[] (lo+x - 1) (lo+x) #v[] (Ag _) (by rw[I.size];omega))).mp q;by_cases hi:i=lo+x - 1
        · rw[hi];exact b
        · exact O.tr (a2 i (lo+x - 1) h1 #v[] #v[]) b
  case ap1 =>
    rintro c s2 ⟨e2,n,rfl,a0,a1,a2,a3⟩;subst e2;dsimp only;by_cases en:n=nrem
    · rw [if_pos (by simpa using en)]
      exact At (h n s2 I a0 a1 (.refl _ _ _) a2)
    · rw [if_neg (by simpa using en)]
      have q3:=a3.resolve_left en;refine yal (T:=λs3=>SI κ a₀ pd s3/\Re (arrOf s2) (arrOf s3) lo (lo+(n+1))/\DI lt le lo (n+1) 0 (arrOf s3)) (λs3 ⟨I3,R3,D3⟩=>?main) (λn1=>?no) (λn1 H=>?yes)
      case yes =>
        refine An (zhy C I.kind I.perm #v[] #v[] ?_);cases q:lt (G (arrOf s2) lo) (G (arrOf s2) (lo+n - 1)) with
        | true =>
          dsimp only;rw[if_pos rfl];exact At (h n s2 I a0 a1 (.refl _ _ _) a2)
        | false =>
          dsimp only;rw [if_neg (by decide)];refine An (z0e ?_);have lk:∀i,lo<=i->i < lo+n->lt (G (arrOf s2) (lo+n)) (G (arrOf s2) i)=true:=fun i g1 g2=>by
            have z1:lt (G (arrOf s2) i) (G (arrOf s2) (lo+n - 1))=false:=by
              cases z:lt (G (arrOf s2) i) (G (arrOf s2) (lo+n - 1)) with
              |false=>rfl
              | true =>
                rcases O.nt (G (arrOf s2) lo) z with y|y
                · by_cases ei : i = lo
                  · rw[ei,O.irr] at y;cases y
                  · have := O.f3 (hc i g1 lo i (by omega) (Ag _) (by omega)) y
                    exact absurd (a2 lo i (Ag _) #v[] g2) this
                · rw[q] at y;cases y
            exact (O.nt _ q3).resolve_right (λy=>by rw[z1] at y;cases y)
          obtain ⟨s3,e3,I3,R3,D3⟩ : ∃s3,s3=(setArr s2 (mir (arrOf s2) lo (lo+n)))/\SI κ a₀ pd s3/\Re (arrOf s2) (arrOf s3) lo (lo+(n+1))/\DI lt le lo (n+1) 0 (arrOf s3):=⟨_,rfl,I.set (Re.mir (by omega)).perm,(Re.mir (by omega)).mono (Ag _) (by omega),DI.next O (fun i j g1 g2 g3=>by
                      show le (G (mir (arrOf s2) lo (lo+n)) j) (G (mir (arrOf s2) lo (lo+n)) i);rw[zhj #v[],zhj #v[],if_pos ⟨by omega,by omega⟩,if_pos ⟨by omega,by omega⟩];exact a2 _ _ #v[] #v[] #v[]) (λi g1 g2=>by
                      show lt (G (mir (arrOf s2) lo (lo+n)) (lo+n)) (G (mir (arrOf s2) lo (lo+n)) i)=true;rw[zhj #v[],zhj #v[],if_neg #v[],if_pos ⟨by omega,by omega⟩];exact lk _ #v[] #v[])⟩
          rw[<-e3];exact H s3 ⟨I3,R3,D3⟩
      case no =>
        have en1:n=1:=by omega
        subst en1;exact ⟨I,.refl _ _ _,DI.next O (fun i j g1 g2 g3=>by omega) (fun i g1 g2=>by
          have ei:i=lo:=by omega
          rw[ei];exact q3)⟩
      case main =>
        refine An (wpS_lift (Cv ⟨rfl,?_⟩));refine An (Dn (Cb (I:=fun x c s4=>∃neq,c=(none,x,neq)/\n+1<=x/\x<=nrem/\SI κ a₀ pd s4/\Re (arrOf s2) (arrOf s4) lo (lo+x)/\DI lt le lo x neq (arrOf s4))
          (Q:=λc s4=>∃m neq,c=(none,m,neq)/\n+1<=m/\m<=nrem/\SI κ a₀ pd s4/\Re (arrOf s2) (arrOf s4) lo (lo+m)/\DI lt le lo m neq (arrOf s4)) ?dsd1 ?dfd1 ⟨0,rfl,Ag _,by omega,I3,R3,D3⟩) ?dpd1)
        case dfd1 =>
          rintro c s4 ⟨neq,rfl,b0,b1,b2,b3,b4⟩;have e:max (n+1) nrem=nrem:=by omega
          rw[e] at b0 b1 b3 b4 ⊢;exact⟨nrem,neq,rfl,b0,b1,b2,b3,b4⟩
        case dsd1 =>
          rintro x c s4 g1 g2 ⟨neq,rfl,b0,b1,I4,R4,D4⟩;dsimp only;have z4:=I4.size;have cut4:∀c,lo+x<=c->Cut bf (arrOf s4) c:=λc hc'=>(hc c #v[]).re R4 #v[] (.inr hc');refine An (zhy C I4.kind I4.perm #v[] #v[] ?_);cases q5:lt (G (arrOf s4) (lo+x)) (G (arrOf s4) (lo+x - 1)) with
          | true =>
            dsimp only;rw[if_pos rfl];by_cases nq:neq > 0
            · rw [if_pos nq]
              refine An (z0e (At ⟨0,rfl,by omega,by omega,I4.set (Re.mir #v[]).perm,(R4.trans ((Re.mir #v[]).mono (by have:=D4.nq;omega) (Ag _))).mono (Ag _) #v[],?_⟩));obtain⟨t1,t2⟩:=D4.turn O #v[];refine DI.next O t1 λi k1 k2=>?_;have:=t2 _ q5 i k1 k2;show lt (G (mir (arrOf s4) (lo+x - (neq+1)) (lo+x)) (lo+x)) _=true;rw[zhj #v[],if_neg #v[]];exact this
            · rw [if_neg nq]
              have e0:neq=0:=by omega
              subst e0;obtain⟨t1,t2⟩:=D4.turn0 O;exact At ⟨0,rfl,by omega,by omega,I4,R4.mono (Ag _) #v[],DI.next O t1 λi k1 k2=>t2 _ q5 i k1 k2⟩
          | false =>
            dsimp only;rw[if_neg #v[0,9]];refine An (zhy C I4.kind I4.perm #v[] #v[] ?_);cases q6:lt (G (arrOf s4) (lo+x - 1)) (G (arrOf s4) (lo+x)) with
            | true =>
              dsimp only;rw[if_pos rfl];exact At ⟨x,neq,rfl,b0,b1,I4,R4,D4⟩
            | false =>
              dsimp only;rw[if_neg #v[0,9]];exact At ⟨neq+1,rfl,by omega,by omega,I4,R4.mono (Ag _) #v[],D4.like O (λi k1 k2=>cut4 (lo+x) (Ag _) i (lo+x) k2 (Ag _) #v[]) q5 q6⟩
        case dpd1 =>
          rintro c s4 ⟨n,neq,rfl,b0,n2,I4,R4,D4⟩;dsimp only;have z4:=I4.size;refine yal (T:=λs6=>SI κ a₀ pd s6/\Re (arrOf s2) (arrOf s6) lo (lo+n)/\∀i j,lo<=i->i<j->j<lo+n->le (G (arrOf s6) j) (G (arrOf s6) i)) (λs6 ⟨I6,R6,t1⟩=>?tl) (λnq=>?tn) (λnq H=>?ty)
          case ty =>
            refine An (z0e ?_);have I6:SI κ a₀ pd (setArr s4 (mir (arrOf s4) (lo+n - (neq+1)) (lo+n))):=I4.set (Re.mir #v[]).perm;have R6:Re (arrOf s2) (mir (arrOf s4) (lo+n - (neq+1)) (lo+n)) lo (lo+n):=R4.trans ((Re.mir #v[]).mono (by have:=D4.nq;omega) (Ag _));have t1:=(D4.turn O #v[]).1;exact H _ ⟨I6,R6,t1⟩
          case tn =>
            have e0:neq=0:=by omega
            subst e0;exact⟨I4,R4,(D4.turn0 O).1⟩
          case tl =>
            have z6:=I6.size;refine An (z0e ?_);have I5:SI κ a₀ pd (setArr s6 (mir (arrOf s6) lo (lo+n))):=I6.set (Re.mir (by omega)).perm;have R5:Re (arrOf s2) (mir (arrOf s6) lo (lo+n)) lo (lo+n):=R6.trans (Re.mir (by omega));have z5:Srt le (mir (arrOf s6) lo (lo+n)) lo (lo+n):=fun i j h1 h2 h3=>by
              rw[zhj #v[],zhj #v[],if_pos ⟨by omega,by omega⟩,if_pos ⟨by omega,by omega⟩];exact t1 _ _ #v[] #v[] #v[]
            have ea:mir (arrOf s6) lo (lo+n)=arrOf (setArr s6 (mir (arrOf s6) lo (lo+n))):=rfl
            revert I5 R5 z5
            rw [ea];generalize (setArr s6 (mir (arrOf s6) lo (lo+n)))=s5;intro I5 R5 z5;have hz5:=I5.size;have hc5:∀c,lo+n<=c->Cut bf (arrOf s5) c:=fun c hc'=>(hc c (by omega)).re R5 (by omega) (.inr hc');refine An (Dn (Cb (I:=fun x c s2=>s2=s5/\c=(none,x)/\n<=x/\x<=nrem/\Srt le (arrOf s5) lo (lo+x))
              (Q:=λc s2=>s2=s5/\∃k,c=(none,k)/\n<=k/\k<=nrem/\Srt le (arrOf s5) lo (lo+k)/\(k=nrem\/lt (G (arrOf s5) (lo+k)) (G (arrOf s5) (lo+k - 1))=true)) ?asd11 ?afd11 ⟨rfl,rfl,Ag _,n2,z5⟩) ?apd11)
            case afd11 =>
              rintro c s2 ⟨e2,rfl,y0,y1,a2⟩;rw[show max n nrem=nrem by omega] at *
              exact⟨e2,nrem,rfl,by omega,Ag _,a2,.inl rfl⟩
            case asd11 =>
              rintro x c s2 b1 b2 ⟨e2,rfl,y0,y1,a2⟩;subst e2;dsimp only;refine An (zhy C I5.kind I5.perm #v[] #v[] ?_);cases q:lt (G (arrOf s2) (lo+x)) (G (arrOf s2) (lo+x - 1)) with
              | true =>
                dsimp only;rw[if_pos rfl];exact At ⟨rfl,x,rfl,y0,y1,a2,.inr q⟩
              | false =>
                dsimp only;rw[if_neg #v[0,9]];refine At ⟨rfl,rfl,by omega,by omega,λi j h1 h2 h3=>?_⟩;by_cases hj:j<lo+x
                · exact a2 i j h1 h2 hj
                · have ej : j = lo + x := by omega
                  subst ej;have b:le (G (arrOf s2) (lo+x - 1)) (G (arrOf s2) (lo+x)):=(O.f1 (hc5 (lo+x) #v[] (lo+x - 1) (lo+x) #v[] (Ag _) (by rw[I5.size];omega))).mp q;by_cases hi:i=lo+x - 1
                  · rw[hi];exact b
                  · exact O.tr (a2 i (lo+x - 1) h1 #v[] #v[]) b
            case apd11 =>
              rintro c s7 ⟨e7,m,rfl,y0,y1,y2,y3⟩;subst e7;exact At (h m s7 I5 #v[] y1 (R5.mono (Ag _) #v[]) y2)
end
end Tim
namespace Tim
section
variable {prog:Program}{w:World}{A:Around}{E:Value->Shared->Prop}{s:Shared}{κ:SortKind}{a₀:Array Keyed}{lt:Keyed->Keyed->Bool}{bf le:Keyed->Keyed->Prop}{st:SortSt}{pd:Array (Nat × Nat × Nat)}
theorem yc9 (C:Asks prog w A E s κ a₀ lt) (O:Ord lt bf le) {lo n ok:Nat}{Q:Bool->SortSt->Prop} (I:SI κ a₀ pd st) (hsz:lo+n<=a₀.size) (hok:ok<=n) (h1:1<=ok) (hs:Srt le (arrOf st) lo (lo+ok)) (hc:∀c,lo+ok<=c->Cut bf (arrOf st) c)
    (h:∀st',SI κ a₀ pd st'->Re (arrOf st) (arrOf st') lo (lo+n)->Srt le (arrOf st') lo (lo+n)->Q true st'):wpS (model prog w) A E s (binarySort' lo n ok) Q st:=by
  have sz:=I.size;rw[binarySort'_eq];have em:max ok 1=ok:=by omega
  rw [em];refine An (Dn (Cb (I:=fun k c s2=>c=(none,())/\ok<=k/\k<=n/\SI κ a₀ pd s2/\Re (arrOf st) (arrOf s2) lo (lo+k)/\Srt le (arrOf s2) lo (lo+k))
    (Q:=λc s2=>c=(none,())/\SI κ a₀ pd s2/\Re (arrOf st) (arrOf s2) lo (lo+n)/\Srt le (arrOf s2) lo (lo+n)) ?step ?fin ⟨rfl,Ag _,hok,I,.refl _ _ _,hs⟩) ?post)
  case post =>
    rintro c s2 ⟨rfl,I2,R2,S2⟩;exact At (h s2 I2 R2 S2)
  case fin =>
    rintro c s2 ⟨hc,b0,b1,I2,R2,S2⟩;have e:max ok n=n:=by omega
    rw[e] at R2 S2;exact⟨hc,I2,R2,S2⟩
  case step =>
    rintro k c s2 g1 g2 ⟨rfl,b0,b1,I2,R2,S2⟩;have z2:=I2.size;have ct:Cut bf (arrOf s2) (lo+k):=(hc (lo+k) (by omega)).re R2 (by omega) (.inr (Ag _));refine An (Dn (Cb (I:=fun x c s3=>s3=s2/\∃l r,c=(none,l,r)/\l<=r/\r<=k/\r - l<=k - x/\(∀i,i < l->le (G (arrOf s2) (lo+i)) (G (arrOf s2) (lo+k)))/\∀i,r<=i->i < k->le (G (arrOf s2) (lo+k)) (G (arrOf s2) (lo+i)))
      (Q:=λc s3=>s3=s2/\∃l,c=(none,l,l)/\l<=k/\(∀i,i<l->le (G (arrOf s2) (lo+i)) (G (arrOf s2) (lo+k)))/\∀i,l<=i->i<k->le (G (arrOf s2) (lo+k)) (G (arrOf s2) (lo+i))) ?istep ?ifin ⟨rfl,0,k,rfl,by omega,by omega,by omega,λi hi=>by omega,λi k1 k2=>by omega⟩) ?ipost)
    case ifin =>
      rintro c s3 ⟨e3,l,r,rfl,c1,c2,c3,c4,c5⟩;have e:r=l:=by omega
      subst e;exact⟨e3,r,rfl,c2,c4,c5⟩
    case istep =>
      rintro x c s3 _ hx ⟨e3,l,r,rfl,c1,c2,c3,c4,c5⟩;subst e3;dsimp only;by_cases g:l ≥ r
      · rw [if_pos g]
        have e:r=l:=by omega
        subst e;exact At ⟨rfl,r,rfl,c2,c4,c5⟩
      · rw [if_neg g]
        refine An (zhy C I2.kind I2.perm #v[] #v[] ?_);have b:=ct (lo+(l+r) / 2) (lo+k) #v[] (Ag _) #v[];cases q:lt (G (arrOf s3) (lo+k)) (G (arrOf s3) (lo+(l+r) / 2)) with
        | true =>
          dsimp only;rw[if_pos rfl];refine At ⟨rfl,l,(l+r) / 2,rfl,by omega,by omega,by omega,c4,λi k1 k2=>?_⟩;by_cases e:i=(l+r) / 2
          · rw[e];exact O.f2 q
          · exact O.tr (O.f2 q) (S2 _ _ #v[] #v[] #v[])
        | false =>
          dsimp only;rw[if_neg #v[0,9]];refine At ⟨rfl,(l+r) / 2+1,r,rfl,by omega,by omega,by omega,λi k1=>?_,c5⟩;by_cases e:i=(l+r) / 2
          · rw[e];exact (O.f1 b).mp q
          · exact O.tr (S2 _ _ #v[] #v[] #v[]) ((O.f1 b).mp q)
    case ipost =>
      rintro c s3 ⟨e3,l,rfl,c2,c4,c5⟩;subst e3;refine An (z96 (At ⟨rfl,by omega,by omega,I2.set (bubble_perm _ _ _),?_,?_⟩))
      · refine (R2.mono (Ag _) #v[]).trans ((Re.bub #v[] #v[]).mono #v[] #v[])
      · intro i j h1 h2 h3
        show le (G (bubble (arrOf s3) (lo+k) (lo+k - (lo+l))) i) (G (bubble (arrOf s3) (lo+k) (lo+k - (lo+l))) j);have el:lo+k - (lo+k - (lo+l))=lo+l:=by omega
        rw [z0q (by omega) (by omega),z0q (by omega) (by omega),el];have p4:∀i,lo<=i->i < lo+l->le (G (arrOf s3) i) (G (arrOf s3) (lo+k)):=fun i k1 k2=>by
          have:=c4 (i - lo) #v[];rw[show lo+(i - lo)=i by omega] at this;exact this
        have p5:∀i,lo+l<=i->i < lo+k->le (G (arrOf s3) (lo+k)) (G (arrOf s3) i):=fun i k1 k2=>by
          have:=c5 (i - lo) #v[] #v[];rw[show lo+(i - lo)=i by omega] at this;exact this
        by_cases a1:i=lo+l
        · rw [if_pos a1, if_neg (by omega), if_pos ⟨by omega, by omega⟩]
          exact p5 _ #v[] #v[]
        · rw [if_neg a1]
          by_cases a2:j=lo+l
          · rw [if_neg (by omega), if_pos a2]
            exact p4 _ h1 #v[]
          · rw [if_neg a2]
            by_cases a3:lo+l<i/\i<=lo+k
            · rw [if_pos a3, if_pos ⟨by omega, by omega⟩]
              exact S2 _ _ #v[] #v[] #v[]
            · rw [if_neg a3]
              by_cases a4:lo+l<j/\j<=lo+k
              · rw [if_pos a4]
                by_cases a5:i=j - 1
                · rw[a5];exact O.rf _
                · exact S2 _ _ #v[] #v[] #v[]
              · rw [if_neg a4]
                exact S2 _ _ #v[] #v[] #v[]
end
end Tim
namespace Tim
theorem G_list {a:Array Keyed}{i:Nat}(h:i<a.size):a.toList[i]?=some (G a i):=by rw[Gk];exact z4i h
theorem take_G {a:Array Keyed}{i:Nat}(h:i<a.size):a.toList.take (i+1)=a.toList.take i++[G a i]:=by rw[List.take_add_one,G_list h];rfl
theorem zze {a:Array Keyed}{i:Nat}(h:i<a.size):a.toList.drop i=G a i::a.toList.drop (i+1):=by
 have h' : i<a.toList.length:=by simpa using h
 rw[Cm h'];have e:=G_list h;rw[Ae h'] at e;rw[sI e]
theorem mem_drop {a:Array Keyed}{n:Nat}{x:Keyed}(h:x∈a.toList.drop n):∃i,n<=i/\i<a.size/\x=G a i:=by
 obtain⟨i,hi,e⟩:=Dr.mp h;have h1:n+i<a.toList.length:=by rw[Gm] at hi;omega
 have h2:n+i<a.size:=by simpa using h1
 refine⟨n+i,by omega,h2,?_⟩;rw[List.getElem_drop] at e;have g:=G_list h2;rw[Ae h1] at g;rw[<-e];exact sI g
theorem mem_take {a:Array Keyed}{n:Nat}{x:Keyed}(h:x∈a.toList.take n):∃i,i<n/\i<a.size/\x=G a i:=by
 obtain⟨i,hi,e⟩:=Dr.mp h;rw[Dy] at hi;have h1:i<a.toList.length:=by omega
 have h2:i<a.size:=by simpa using h1
 refine⟨i,by omega,h2,?_⟩;rw[List.getElem_take] at e;have g:=G_list h2;rw[Ae h1] at g;rw[<-e];exact sI g
theorem srt_list {le:Keyed->Keyed->Prop}{a:Array Keyed}(h:Srt le a 0 a.size):a.toList.Pairwise le:=by
 rw[List.pairwise_iff_getElem];intro i j hi hj hij;have hi' : i<a.size:=by simpa using hi
 have hj' : j<a.size:=by simpa using hj
 have e1:=G_list hi';have e2:=G_list hj';rw[Ae hi] at e1;rw[Ae hj] at e2;rw[sI e1,sI e2];exact h i j (Bk _) hij hj'
theorem zcz (a:Array Keyed)(i j:Nat):(a.extract i j).toList=(a.toList.drop i).take (j - i):=by rw[Array.toList_extract]
theorem zjs (a:Array Keyed)(i:Nat):(a.extract i a.size).toList=a.toList.drop i:=by
 rw[zcz,Ec];rw[Gm];simp
structure Fin (le:Keyed->Keyed->Prop) (a b:Array Keyed) (r:List Keyed):Prop where
 p:r.Perm (a.toList++b.toList)
 s:r.Pairwise le
structure MI (le:Keyed->Keyed->Prop) (a b:Array Keyed) (o:List Keyed) (ia ib:Nat):Prop where
 p:o.Perm (a.toList.take ia++b.toList.take ib)
 s:o.Pairwise le
 oa:∀x∈o,∀i,ia<=i->i<a.size->le x (G a i)
 ob:∀x∈o,∀j,ib<=j->j<b.size->le x (G b j)
structure MH (le:Keyed->Keyed->Prop) (a b:Array Keyed) (o:List Keyed) (na nb:Nat):Prop where
 p:o.Perm (a.toList.drop na++b.toList.drop nb)
 s:o.Pairwise le
 oa:∀x∈o,∀i,i<na->le (G a i) x
 ob:∀x∈o,∀j,j<nb->le (G b j) x
section
variable {lt:Keyed->Keyed->Bool}{bf le:Keyed->Keyed->Prop} (O:Ord lt bf le) {a b:Array Keyed}{o:List Keyed}{ia ib na nb:Nat} (Sa:Srt le a 0 a.size) (Sb:Srt le b 0 b.size)
theorem z2v {x:Keyed}{o p q:List Keyed}(h:o.Perm (p++q)):(o++[x]).Perm ((p++[x])++q):=by
 refine (h.append_right [x]).trans ?_;rw[Bb,Bb];exact List.perm_append_comm.append_left p
theorem MI.pushA (Sa:Srt le a 0 a.size)(m:MI le a b o ia ib)(hi:ia<a.size)(hb:∀j,ib<=j->j<b.size->le (G a ia) (G b j)):MI le a b (o++[G a ia]) (ia+1) ib:=by
 refine⟨by rw[take_G hi];exact z2v m.p,?_,λx hx i h1 h2=>?_,λx hx j h1 h2=>?_⟩
 ·rw[Ca];refine⟨m.s,List.pairwise_singleton _ _,λx hx y hy=>?_⟩;rw[Aw.mp hy];exact m.oa x hx ia (Ag _) hi
 ·rcases Bj.mp hx with z|z
  ·exact m.oa x z i #v[] h2
  ·rw[Aw.mp z];exact Sa _ _ (Bk _) #v[] h2
 ·rcases Bj.mp hx with z|z
  ·exact m.ob x z j h1 h2
  ·rw[Aw.mp z];exact hb j h1 h2
theorem MI.pushB (Sb:Srt le b 0 b.size)(m:MI le a b o ia ib)(hj:ib<b.size)(ha:∀i,ia<=i->i<a.size->le (G b ib) (G a i)):MI le a b (o++[G b ib]) ia (ib+1):=by
 refine⟨?_,?_,λx hx i h1 h2=>?_,λx hx j h1 h2=>?_⟩
 ·rw[take_G hj];have:=m.p.append_right [G b ib];rw[Bb] at this;exact this
 ·rw[Ca];refine⟨m.s,List.pairwise_singleton _ _,λx hx y hy=>?_⟩;rw[Aw.mp hy];exact m.ob x hx ib (Ag _) hj
 ·rcases Bj.mp hx with z|z
  ·exact m.oa x z i h1 h2
  ·rw[Aw.mp z];exact ha i h1 h2
 ·rcases Bj.mp hx with z|z
  ·exact m.ob x z j #v[] h2
  ·rw[Aw.mp z];exact Sb _ _ (Bk _) #v[] h2
theorem zrb {a:Array Keyed}{i k:Nat}(h:i+k<a.size):(a.toList.drop i).take (k+1)=(a.toList.drop i).take k++[G a (i+k)]:=by
 rw[List.take_add_one,List.getElem?_drop,G_list h];rfl
theorem MI.appA (Sa:Srt le a 0 a.size) (m:MI le a b o ia ib):∀k,ia+k<=a.size->(∀i,ia<=i->i < ia+k->∀j,ib<=j->j < b.size->le (G a i) (G b j))->MI le a b (o++(a.toList.drop ia).take k) (ia+k) ib
  |0,_,_=>by rw[Dx,By];exact m
  | k+1,h1,h2=>by
    have:=(m.appA Sa k #v[] λi g1 g2=>h2 i g1 #v[]).pushA Sa #v[] (h2 (ia+k) #v[] #v[]);rw[zrb #v[],<-Bb];exact this
theorem MI.appB (Sb:Srt le b 0 b.size) (m:MI le a b o ia ib):∀k,ib+k<=b.size->(∀j,ib<=j->j < ib+k->∀i,ia<=i->i < a.size->le (G b j) (G a i))->MI le a b (o++(b.toList.drop ib).take k) ia (ib+k)
  |0,_,_=>by rw[Dx,By];exact m
  | k+1,h1,h2=>by
    have:=(m.appB Sb k #v[] λi g1 g2=>h2 i g1 #v[]).pushB Sb #v[] (h2 (ib+k) #v[] #v[]);rw[zrb #v[],<-Bb];exact this
theorem zrr (b:Array Keyed):b.toList.take b.size=b.toList:=Ec (by simp)
theorem MI.finB (Sa:Srt le a 0 a.size)(m:MI le a b o ia b.size):Fin le a b (o++a.toList.drop ia):=by
 refine⟨?_,?_⟩
 ·have h:=m.p;rw[zrr] at h;refine (h.append_right _).trans ?_;rw[Bb];refine (List.perm_append_comm.append_left _).trans ?_;rw[<-Bb,Bp]
 ·rw[Ca];refine⟨m.s,(srt_list Sa).sublist (Hg _ _),λx hx y hy=>?_⟩;obtain⟨i,h1,h2,rfl⟩:=mem_drop hy;exact m.oa x hx i h1 h2
theorem MI.finA (Sb:Srt le b 0 b.size)(m:MI le a b o a.size ib):Fin le a b (o++b.toList.drop ib):=by
 refine⟨?_,?_⟩
 ·have h:=m.p;rw[zrr] at h;refine (h.append_right _).trans ?_;rw[Bb,Bp]
 ·rw[Ca];refine⟨m.s,(srt_list Sb).sublist (Hg _ _),λx hx y hy=>?_⟩;obtain⟨i,h1,h2,rfl⟩:=mem_drop hy;exact m.ob x hx i h1 h2
theorem MI.finL (Sa:Srt le a 0 a.size)(Sb:Srt le b 0 b.size)(m:MI le a b o ia ib)(e:ia+1=a.size)(HA:∀j,j<b.size->le (G b j) (G a (a.size - 1))):Fin le a b (o++b.toList.drop ib++a.toList.drop ia):=by
 refine⟨?_,?_⟩
 ·refine ((m.p.append_right _).append_right _).trans ?_;rw[Bb,Bb,<-Bb (b.toList.take ib),Bp];refine (List.perm_append_comm.append_left _).trans ?_;rw[<-Bb,Bp]
 ·rw[Ca,Ca];refine⟨⟨m.s,(srt_list Sb).sublist (Hg _ _),λx hx y hy=>?_⟩,(srt_list Sa).sublist (Hg _ _),λx hx y hy=>?_⟩
  ·obtain⟨i,h1,h2,rfl⟩:=mem_drop hy;exact m.ob x hx i h1 h2
  ·obtain⟨i,h1,h2,rfl⟩:=mem_drop hy;rcases Bj.mp hx with z|z
   ·exact m.oa x z i h1 h2
   ·obtain⟨j,g1,g2,rfl⟩:=mem_drop z;have:i=a.size - 1:=by omega
    rw[this];exact HA j g2
theorem MH.pushA (Sa:Srt le a 0 a.size)(m:MH le a b o (na+1) nb)(h:na<a.size)(hb:∀j,j<nb->le (G b j) (G a na)):MH le a b (G a na::o) na nb:=by
 refine⟨?_,Cq.mpr ⟨λx hx=>m.oa x hx na #v[],m.s⟩,λx hx i h1=>?_,λx hx j h1=>?_⟩
 ·rw[zze h];exact m.p.cons _
 ·rcases Ap.mp hx with z|z
  ·rw[z];exact Sa _ _ (Bk _) h1 h
  ·exact m.oa x z i #v[]
 ·rcases Ap.mp hx with z|z
  ·rw[z];exact hb j h1
  ·exact m.ob x z j h1
theorem MH.pushB (Sb:Srt le b 0 b.size)(m:MH le a b o na (nb+1))(h:nb<b.size)(ha:∀i,i<na->le (G a i) (G b nb)):MH le a b (G b nb::o) na nb:=by
 refine⟨?_,Cq.mpr ⟨λx hx=>m.ob x hx nb #v[],m.s⟩,λx hx i h1=>?_,λx hx j h1=>?_⟩
 ·rw[zze h];exact (m.p.cons _).trans List.perm_middle.symm
 ·rcases Ap.mp hx with z|z
  ·rw[z];exact ha i h1
  ·exact m.oa x z i h1
 ·rcases Ap.mp hx with z|z
  ·rw[z];exact Sb _ _ (Bk _) h1 h
  ·exact m.ob x z j #v[]
theorem zq8 {a:Array Keyed}{i k:Nat}(h:i<a.size):(a.toList.drop i).take (k+1)=G a i::(a.toList.drop (i+1)).take k:=by
 rw[zze h,List.take_succ_cons]
theorem MH.appA (Sa:Srt le a 0 a.size):∀(k at_:Nat),MH le a b o (at_+k) nb->at_+k<=a.size->(∀i,at_<=i->i < at_+k->∀j,j < nb->le (G b j) (G a i))->MH le a b ((a.toList.drop at_).take k++o) at_ nb
  |0,at_,m,_,_=>by rw[Dx];exact m
  | k+1,at_,m,h1,h2=>by
    have:=(MH.appA Sa k (at_+1) (by rw[show at_+1+k=at_+(k+1) by omega];exact m) #v[] λi g1 g2=>h2 i #v[] #v[]).pushA Sa #v[] (h2 at_ (Ag _) #v[]);rw[zq8 #v[]];exact this
theorem MH.appB (Sb:Srt le b 0 b.size):∀(k at_:Nat),MH le a b o na (at_+k)->at_+k<=b.size->(∀j,at_<=j->j < at_+k->∀i,i < na->le (G a i) (G b j))->MH le a b ((b.toList.drop at_).take k++o) na at_
  |0,at_,m,_,_=>by rw[Dx];exact m
  | k+1,at_,m,h1,h2=>by
    have:=(MH.appB Sb k (at_+1) (by rw[show at_+1+k=at_+(k+1) by omega];exact m) #v[] λi g1 g2=>h2 i #v[] #v[]).pushB Sb #v[] (h2 at_ (Ag _) #v[]);rw[zq8 #v[]];exact this
theorem MH.finA (Sb:Srt le b 0 b.size)(m:MH le a b o 0 nb):Fin le a b (b.toList.take nb++o):=by
 refine⟨?_,?_⟩
 ·refine (m.p.append_left _).trans ?_;rw[Dz];refine List.perm_append_comm_assoc _ _ _ |>.trans ?_;rw[Bp]
 ·rw[Ca];refine⟨(srt_list Sb).sublist (Ep _ _),m.s,λx hx y hy=>?_⟩;obtain⟨i,h1,h2,rfl⟩:=mem_take hx;exact m.ob y hy i h1
theorem MH.finB (Sa:Srt le a 0 a.size)(m:MH le a b o na 0):Fin le a b (a.toList.take na++o):=by
 refine⟨?_,?_⟩
 ·refine (m.p.append_left _).trans ?_;rw[Dz,<-Bb,Bp]
 ·rw[Ca];refine⟨(srt_list Sa).sublist (Ep _ _),m.s,λx hx y hy=>?_⟩;obtain⟨i,h1,h2,rfl⟩:=mem_take hx;exact m.oa y hy i h1
theorem MH.finF (Sa:Srt le a 0 a.size)(Sb:Srt le b 0 b.size)(m:MH le a b o na 1)(H0:∀i,i<a.size->le (G b 0) (G a i)):Fin le a b (b.toList.take 1++a.toList.take na++o):=by
 refine⟨?_,?_⟩
 ·refine (m.p.append_left _).trans ?_;rw[Bb,<-Bb (a.toList.take na),Bp];refine List.perm_append_comm_assoc _ _ _ |>.trans ?_;rw[Bp]
 ·rw[Ca,Ca];refine⟨⟨(srt_list Sb).sublist (Ep _ _),(srt_list Sa).sublist (Ep _ _),λx hx y hy=>?_⟩,m.s,λx hx y hy=>?_⟩
  ·obtain⟨i,h1,h2,rfl⟩:=mem_take hx;obtain⟨j,g1,g2,rfl⟩:=mem_take hy;have:i=0:=by omega
   rw[this];exact H0 j g2
  ·rcases Bj.mp hx with z|z
   ·obtain⟨i,h1,h2,rfl⟩:=mem_take z;exact m.ob y hy i h1
   ·obtain⟨i,h1,h2,rfl⟩:=mem_take z;exact m.oa y hy i h1
end
end Tim
namespace Tim
noncomputable def setG:Nat->StateT SortSt Sem Unit:=sortPriv% PySem.Builtin.setMinGallop
section
variable {prog:Program}{w:World}{A:Around}{E:Value->Shared->Prop}{s:Shared}{κ:SortKind}{a₀:Array Keyed}{lt:Keyed->Keyed->Bool}{bf le:Keyed->Keyed->Prop}{st:SortSt}{pd:Array (Nat × Nat × Nat)}
structure SG (κ:SortKind) (a₀:Array Keyed) (pd:Array (Nat × Nat × Nat)) (xs:Array Keyed) (st:SortSt):Prop where
 i:SI κ a₀ pd st
 e:arrOf st=xs
theorem zqy {xs:Array Keyed}{g:Nat}{Q:Unit->SortSt->Prop}(S:SG κ a₀ pd xs st)(h:∀st',SG κ a₀ pd xs st'->Q () st'):wpS (model prog w) A E s (setG g) Q st :=
 wpS_modify (h _ ⟨⟨S.i.kind,S.i.failed,S.i.perm,S.i.pend⟩,S.e⟩)
theorem q_lt {x y:Keyed}{Q:Option Bool->SortSt->Prop}(C:Asks prog w A E s κ a₀ lt){xs:Array Keyed}(S:SG κ a₀ pd xs st)(hx:x∈a₀.toList)(hy:y∈a₀.toList)(h:Q (some (lt x y)) st):wpS (model prog w) A E s (lt' x y) Q st:=C _ _ _ _ hx hy S.i.kind h
theorem zmg {out a b:Array Keyed}{ia ib:Nat}:(out++a.extract ia a.size++b.extract ib b.size).toList=out.toList++a.toList.drop ia++b.toList.drop ib:=by
 rw[Bm,Bm,zjs,zjs]
theorem zrk {le:Keyed->Keyed->Prop}{out a b:Array Keyed}{ia ib:Nat}(e:ib=b.size)(h:Fin le a b (out.toList++a.toList.drop ia)):Fin le a b (out++a.extract ia a.size++b.extract ib b.size).toList:=by
 subst e;rw[zmg,List.drop_of_length_le (l:=b.toList) (by simp),By];exact h
theorem yak {le:Keyed->Keyed->Prop}{out a b:Array Keyed}{ia ib:Nat}(e:ia=a.size)(h:Fin le a b (out.toList++b.toList.drop ib)):Fin le a b (out++a.extract ia a.size++b.extract ib b.size).toList:=by
 subst e;rw[zmg,List.drop_of_length_le (l:=a.toList) (by simp),By];exact h
theorem zq7 {le:Keyed->Keyed->Prop}{out a b:Array Keyed}{ia ib:Nat}(h:Fin le a b (out.toList++b.toList.drop ib++a.toList.drop ia)):Fin le a b (out++b.extract ib b.size++a.extract ia a.size).toList:=by
 rw[Bm,Bm,zjs,zjs];exact h
theorem q_if {α:Type}{c:Prop} [Decidable c] {x y:StateT SortSt Sem α}{Q:α->SortSt->Prop}(h1:c->wpS (model prog w) A E s x Q st)(h2:¬ c->wpS (model prog w) A E s y Q st):wpS (model prog w) A E s (if c then x else y) Q st:=by
 by_cases h:c
 ·rw[if_pos h];exact h1 h
 ·rw[if_neg h];exact h2 h
theorem zy3 {α:Type}{x:StateT SortSt Sem α}{Q:α->SortSt->Prop}(h:∀Q',(∀r t,Q r t->Q' r t)->wpS (model prog w) A E s x Q' st):wpS (model prog w) A E s x Q st:=h Q λ_ _ z=>z
theorem q_eq {α β:Type}{c:β->Prop} [∀m,Decidable (c m)] {x:β->StateT SortSt Sem α}{Q:α->SortSt->Prop}{g:β->β}{f:β->StateT SortSt Sem α}(e:∀m,x m=f (g m))(h:∀u,wpS (model prog w) A E s (f u) Q st):∀m,wpS (model prog w) A E s (if c m then x m else f m) Q st:=λm=>by
 rw[e];exact q_if (λ_=>h _) λ_=>h _
theorem z2j {α β γ:Type}{c:Prop} [Decidable c] {x:β->γ->StateT SortSt Sem α}{Q:α->SortSt->Prop}{v:β}{u:γ}{f:β->γ->StateT SortSt Sem α} (P:β->γ->Prop) (h0:¬ c->P v u) (h1:c->(∀v u,P v u->wpS (model prog w) A E s (f v u) Q st)->wpS (model prog w) A E s (x v u) Q st)
  (h:∀v u,P v u->wpS (model prog w) A E s (f v u) Q st):∀v',v=v'->∀u',u=u'->wpS (model prog w) A E s (if c then x v' u' else f v' u') Q st:=by
 rintro _ rfl _ rfl;exact q_if (λk=>h1 k h) λk=>h _ _ (h0 k)
theorem MI.finA' {le:Keyed->Keyed->Prop}{a b:Array Keyed}{o:List Keyed}{ia ib:Nat}(Sb:Srt le b 0 b.size)(m:MI le a b o ia ib)(e:ia=a.size):Fin le a b (o++b.toList.drop ib):=by subst e;exact m.finA Sb
theorem MI.finB' {le:Keyed->Keyed->Prop}{a b:Array Keyed}{o:List Keyed}{ia ib:Nat}(Sa:Srt le a 0 a.size)(m:MI le a b o ia ib)(e:ib=b.size):Fin le a b (o++a.toList.drop ia):=by subst e;exact m.finB Sa
structure MP (lt:Keyed->Keyed->Bool) (bf le:Keyed->Keyed->Prop) (a₀ a b:Array Keyed):Prop where
 sa:Srt le a 0 a.size
 sb:Srt le b 0 b.size
 ma:∀i,i<a.size->G a i∈a₀.toList
 mb:∀i,i<b.size->G b i∈a₀.toList
 bf:∀i j,i<a.size->j<b.size->bf (G a i) (G b j)
 a1:1<=a.size
 b1:1<=b.size
 h0:∀i,i<a.size->le (G b 0) (G a i)
 ha:∀j,j<b.size->le (G b j) (G a (a.size - 1))
theorem yco (C:Asks prog w A E s κ a₀ lt) (O:Ord lt bf le) {a b xs:Array Keyed}{Q:Array Keyed->SortSt->Prop} (S:SG κ a₀ pd xs st) (P:MP lt bf le a₀ a b)
    (h:∀r st',SG κ a₀ pd xs st'->Fin le a b r.toList->Q r st'):wpS (model prog w) A E s (mLo a b) Q st:=by
  have leA:∀i j,i<=j->j < a.size->le (G a i) (G a j):=fun i j h1 h2=>by
    by_cases e:i=j
    · rw[e];exact O.rf _
    · exact P.sa i j (Bk _) #v[] h2
  have leB:∀i j,i<=j->j < b.size->le (G b i) (G b j):=fun i j h1 h2=>by
    by_cases e:i=j
    · rw[e];exact O.rf _
    · exact P.sb i j (Bk _) #v[] h2
  have pa:=P.a1;have pb:=P.b1;show wpS (model prog w) A E s (liftM (rule _) >>= _) Q st;refine An (wpS_lift (Cv ⟨rfl,?_⟩));refine An (zay pb ?_);have m0:MI le a b (#[G b 0]:Array Keyed).toList 0 1:=by
    have:=MI.pushB (o:=[]) (ia:=0) (ib:=0) P.sb ⟨by simp,.nil,λx hx=>by simp at hx,λx hx=>by simp at hx⟩ #v[] (λi _ h2=>P.h0 i h2);simpa using this
  dsimp only;by_cases e1:1=b.size
  · rw [if_pos (by simpa using e1)]
    refine At (h _ _ S (zrk e1 (m0.finB' P.sa e1)))
  rw[if_neg (by simpa using e1)];by_cases e2:0+1=a.size
  · rw [if_pos (by simpa using e2)]
    exact At (h _ _ S (zq7 (m0.finL P.sa P.sb e2 P.ha)))
  rw [if_neg (by simpa using e2)];refine An (Hn ?_);refine An (Dn (Cb (I:=fun x c s2=>∃(out:Array Keyed) (ia ib mg:Nat),c=(none,out,ia,ib,mg)/\SG κ a₀ pd xs s2/\MI le a b out.toList ia ib/\ia+1 < a.size/\ib < b.size/\x<=ia+ib)
    (Q:=λc s2=>∃(r out:Array Keyed) (ia ib mg:Nat),c=(some r,out,ia,ib,mg)/\SG κ a₀ pd xs s2/\Fin le a b r.toList) ?os ?of ⟨_,0,1,_,rfl,S,m0,by omega,by omega,by omega⟩) ?op)
  case of =>
    rintro c s2 hC;refine aG λG hG=>?_;obtain⟨out,ia,ib,mg,eC,b1,b2,b3,b4,b5⟩:=hC;refine hG ?_;clear hG;clear G;subst eC;exfalso;omega
  case op =>
    rintro c s2 hC;refine aG λG hG=>?_;obtain⟨r,out,ia,ib,mg,eC,b1,b2⟩:=hC;refine hG ?_;clear hG;clear G;subst eC;exact At (h _ _ b1 b2)
  case os =>
    rintro x c s2 _ hx hC;refine aG fun G hG=>?_;obtain ⟨out,ia,ib,mg,eC,S2,m2,b3,b4,b5⟩:=hC;refine hG ?_;clear hG;clear G;subst eC;dsimp only;refine An (Dn (Cb (I:=fun y c s3=>s3=s2/\∃(out:Array Keyed) (ia ib ac bc:Nat),c=(none,out,ia,ib,ac,bc)/\MI le a b out.toList ia ib/\ia+1 < a.size/\ib < b.size/\x<=ia+ib)
      (Q:=λc s3=>s3=s2/\((∃(r out:Array Keyed) (ia ib ac bc:Nat),c=(some r,out,ia,ib,ac,bc)/\Fin le a b r.toList)\/∃(out:Array Keyed) (ia ib ac bc:Nat),c=(none,out,ia,ib,ac,bc)/\MI le a b out.toList ia ib/\ia+1<a.size/\ib<b.size/\x<=ia+ib)) ?is1 ?if1 ⟨rfl,out,ia,ib,0,0,rfl,m2,b3,b4,b5⟩) ?ip1)
    case if1 =>
      rintro c s3 ⟨e3,z⟩;exact⟨e3,.inr z⟩
    case is1 =>
      rintro y c s3 _ hy hC;refine aG λG hG=>?_;obtain⟨e3,out,ia,ib,ac,bc,eC,m3,c3,c4,c5⟩:=hC;refine hG ?_;clear hG;clear G;subst eC;subst e3;dsimp only;refine An (zay c4 (An (zay #v[] (An (q_lt C S2 (P.mb _ c4) (P.ma _ #v[]) ?_)))));have bb:=P.bf ia ib #v[] c4;cases q:lt (G b ib) (G a ia) with
      | true =>
        dsimp only;rw [if_pos rfl];refine An (zay c4 ?_);have m4:MI le a b (out.push (G b ib)).toList ia (ib+1):=by
          rw[Dh];exact m3.pushB P.sb c4 λi g1 g2=>O.tr (O.f2 q) (leA _ _ g1 g2)
        by_cases e:ib+1=b.size
        · rw [if_pos (by simpa using e)]
          refine At ⟨rfl,.inl ⟨_,_,_,_,_,_,rfl,zrk e ?_⟩⟩;rw[e] at m4;exact m4.finB P.sa
        · rw [if_neg (by simpa using e)]
          split
          · exact At ⟨rfl,.inr ⟨_,_,_,_,_,rfl,m4,c3,by omega,by omega⟩⟩
          · exact At ⟨rfl,_,_,_,_,_,rfl,m4,c3,by omega,by omega⟩
      | false =>
        dsimp only;rw [if_neg (by decide)];refine An (zay (by omega) ?_);have m4:MI le a b (out.push (G a ia)).toList (ia+1) ib:=by
          rw[Dh];exact m3.pushA P.sa #v[] λj g1 g2=>O.tr ((O.f1 bb).mp q) (leB _ _ g1 g2)
        by_cases e:ia+1+1=a.size
        · rw [if_pos (by simpa using e)]
          exact At ⟨rfl,.inl ⟨_,_,_,_,_,_,rfl,zq7 (m4.finL P.sa P.sb e P.ha)⟩⟩
        · rw [if_neg (by simpa using e)]
          split
          · exact At ⟨rfl,.inr ⟨_,_,_,_,_,rfl,m4,by omega,c4,by omega⟩⟩
          · exact At ⟨rfl,_,_,_,_,_,rfl,m4,by omega,c4,by omega⟩
    case ip1 =>
      rintro c s3 ⟨e3,z⟩;subst e3;refine aG λG hG=>?_;rcases z with⟨r,out,ia,ib,ac,bc,eC,f⟩|⟨out,ia,ib,ac,bc,eC,m3,c3,c4,c5⟩
      · refine hG ?_
        clear hG;clear G;subst eC;exact At ⟨_,_,_,_,_,rfl,S2,f⟩
      · refine hG ?_
        clear hG;clear G;subst eC;dsimp only;refine An (wpS_lift (Cv ⟨rfl,?_⟩));refine An (Dn (Cb (I:=fun y c s4=>∃(out:Array Keyed) (ia ib mg ac bc:Nat),c=(none,out,ia,ib,mg,ac,bc)/\SG κ a₀ pd xs s4/\MI le a b out.toList ia ib/\ia+1 < a.size/\ib < b.size/\x+y<=ia+ib)
          (Q:=λc s4=>SG κ a₀ pd xs s4/\((∃(r out:Array Keyed) (ia ib mg ac bc:Nat),c=(some r,out,ia,ib,mg,ac,bc)/\Fin le a b r.toList)\/∃(out:Array Keyed) (ia ib mg ac bc:Nat),c=(none,out,ia,ib,mg,ac,bc)/\MI le a b out.toList ia ib/\ia+1<a.size/\ib<b.size/\x+1<=ia+ib)) ?gs ?gf ⟨out,ia,ib,_,ac,bc,rfl,S2,m3,c3,c4,by omega⟩) ?gp)
        case gf =>
          rintro c s4 hC;refine aG λG hG=>?_;obtain⟨out,ia,ib,mg,ac,bc,eC,S4,m4,d3,d4,d5⟩:=hC;refine hG ?_;clear hG;clear G;subst eC;exact⟨S4,.inr ⟨_,_,_,_,_,_,rfl,m4,d3,d4,by omega⟩⟩
        case gp =>
          rintro c s4 ⟨S4,z⟩;refine aG λG hG=>?_;rcases z with⟨r,out,ia,ib,mg,ac,bc,eC,f⟩|⟨out,ia,ib,mg,ac,bc,eC,m4,d3,d4,d5⟩
          · refine hG ?_
            clear hG;clear G;subst eC;exact At ⟨_,_,_,_,_,rfl,S4,f⟩
          · refine hG ?_
            clear hG;clear G;subst eC;dsimp only;exact An (zqy S4 λs5 S5=>At ⟨_,_,_,_,rfl,S5,m4,d3,d4,d5⟩)
        case gs =>
          rintro y c s4 _ hy hC;refine aG λG hG=>?_;obtain⟨out,ia,ib,mg,ac,bc,eC,S4,m4,d3,d4,d5⟩:=hC;refine hG ?_;clear hG;clear G;subst eC;simp (config:={ maxSteps:=10000000,failIfUnchanged:=false }) only [];refine zy3 λQ' hQ=>?_;generalize mg=mg
          revert mg
          refine q_eq (g:=λmg=>mg - 1) (λ_=>rfl) λmg=>?_;dsimp (config:={ failIfUnchanged:=false }) only;refine An (zqy S4 λs5 S5=>An (zay d4 (An (zsn (left:=false) (key:=G b ib) (arr:=a) (base:=ia) (n:=a.size - ia) (hint:=0) (B:=λi=>!lt (G b ib) (G a (ia+i))) C S5.i.kind (P.mb _ d4) #v[] (λi hi=>P.ma _ #v[]) (λi hi=>rfl) (λi j h1 h2 h3=>?mono1) #v[] λk k1 k2 k3=>?_))))
          case mono1 =>
            have h3' : lt (G b ib) (G a (ia+j))=false:=by simpa using h3
            have l1:=(O.f1 (P.bf (ia+j) ib #v[] d4)).mp h3';have l2:=(O.f1 (P.bf (ia+i) ib #v[] d4)).mpr (O.tr (leA _ _ #v[] #v[]) l1);show (!lt (G b ib) (G a (ia+i)))=true;rw[l2];rfl
          have w1:∀i,ia<=i->i < ia+k->le (G a i) (G b ib):=fun i g1 g2=>by
            have:=k2 (i - ia) #v[];rw[Gw g1] at this;exact (O.f1 (P.bf i ib #v[] d4)).mp (by simpa using this)
          have w2:∀i,ia+k<=i->i < a.size->le (G b ib) (G a i):=fun i g1 g2=>by
            have:=k3 (i - ia) #v[] #v[];rw[Gw (Ci (Dw _ _) g1)] at this;exact O.f2 (by simpa using this)
          have m5:MI le a b (out++a.extract ia (ia+k)).toList (ia+k) ib:=by
            rw[Bm,zcz,Nat.add_sub_cancel_left];exact m4.appA P.sa k #v[] λi g1 g2 j g3 g4=>O.tr (w1 i g1 g2) (leB _ _ g3 g4)
          dsimp (config:={ failIfUnchanged:=false }) only;generalize eou:out=out'
          revert out'
          generalize ena:ia=na'
          revert na'
          refine z2j (λia1 out1=>MI le a b out1.toList ia1 ib/\(∀i,ia1<=i->i<a.size->le (G b ib) (G a i))/\ia1+1<a.size/\x+y<=ia1+ib) (λhk0=>?_) (λhc H=>?_) λia1 out1 ⟨n5,u1,b6,p6⟩=>?_
          · have k0 : k = 0 := by omega
            subst k0;exact⟨m4,w2,d3,d5⟩
          · refine q_if (fun e1 => ?_) fun e1 => ?_
            · have e1 : ia + k + 1 = a.size := by simpa using e1
              exact At (hQ _ _ ⟨S5,.inl ⟨_,_,_,_,_,_,_,rfl,zq7 (m5.finL P.sa P.sb e1 P.ha)⟩⟩)
            have e1:¬ ia+k+1=a.size:=by simpa using e1
            refine q_if (λe2=>?_) λe2=>?_
            · have e2 : ia + k = a.size := by simpa using e2
              exact At (hQ _ _ ⟨S5,.inl ⟨_,_,_,_,_,_,_,rfl,yak e2 (m5.finA' P.sb e2)⟩⟩)
            have e2:¬ ia+k=a.size:=by simpa using e2
            exact H _ _ ⟨m5,w2,by omega,by omega⟩
          clear m5 m4 w2 w1 k3 k2 k1;dsimp (config:={ failIfUnchanged:=false }) only;refine An (zay d4 ?_);have m6:MI le a b (out1.push (G b ib)).toList ia1 (ib+1):=by
            rw[Dh];exact n5.pushB P.sb d4 u1
          refine q_if (λe3=>?_) λe3=>?_
          · have e3 : ib + 1 = b.size := by simpa using e3
            exact At (hQ _ _ ⟨S5,.inl ⟨_,_,_,_,_,_,_,rfl,zrk e3 (m6.finB' P.sa e3)⟩⟩)
          have e3:¬ ib+1=b.size:=by simpa using e3
          refine An (zay #v[] (An (zsn (left:=true) (key:=G a ia1) (arr:=b) (base:=ib+1) (n:=b.size - (ib+1)) (hint:=0) (B:=λj=>lt (G b (ib+1+j)) (G a ia1)) C S5.i.kind (P.ma _ #v[]) #v[] (λj hj=>P.mb _ #v[]) (λj hj=>rfl) (λi j h1 h2 h3=>?mono2) #v[] λl l1 l2 l3=>?_)))
          case mono2 =>
            have n1:=O.f3 (P.bf ia1 (ib+1+j) #v[] #v[]) h3;cases q:lt (G b (ib+1+i)) (G a ia1) with
            |true=>rfl
            |false=>exact absurd (O.tr ((O.f1 (P.bf ia1 (ib+1+i) #v[] #v[])).mp q) (leB _ _ #v[] #v[])) n1
          have v1:∀j,ib+1<=j->j < ib+1+l->le (G b j) (G a ia1):=fun j g1 g2=>by
            have:=l2 (j - (ib+1)) #v[];rw[Gw g1] at this;exact O.f2 this
          have v2:∀j,ib+1+l<=j->j < b.size->le (G a ia1) (G b j):=fun j g1 g2=>by
            have:=l3 (j - (ib+1)) #v[] #v[];rw[Gw (Ci (Dw _ _) g1)] at this;exact (O.f1 (P.bf ia1 j #v[] g2)).mp this
          have m7:MI le a b (out1.push (G b ib)++b.extract (ib+1) (ib+1+l)).toList ia1 (ib+1+l):=by
            rw[Bm,zcz,Nat.add_sub_cancel_left];exact m6.appB P.sb l #v[] λj g1 g2 i g3 g4=>O.tr (v1 j g1 g2) (leA _ _ g3 g4)
          dsimp (config:={ failIfUnchanged:=false }) only;generalize hnb:ib+1=ib1 at m7 m6 v2 e3 ⊢;generalize hout:out1.push (G b ib)=out2 at m7 m6 ⊢;generalize eou:out2=out'
          revert out'
          generalize ena:ib1=na'
          revert na'
          refine z2j (λib2 out2=>MI le a b out2.toList ia1 ib2/\(∀j,ib2<=j->j<b.size->le (G a ia1) (G b j))/\ib2<b.size/\x+y+1<=ia1+ib2) (λhl0=>?_) (λhc H=>?_) λib2 out3 ⟨n7,u2,b7,p7⟩=>?_
          · have k0 : l = 0 := by omega
            subst k0;exact⟨m6,v2,by omega,by omega⟩
          · refine q_if (fun e4 => ?_) fun e4 => ?_
            · have e4 : ib1 + l = b.size := by simpa using e4
              exact At (hQ _ _ ⟨S5,.inl ⟨_,_,_,_,_,_,_,rfl,zrk e4 (m7.finB' P.sa e4)⟩⟩)
            have e4:¬ ib1+l=b.size:=by simpa using e4
            exact H _ _ ⟨m7,v2,by omega,by omega⟩
          dsimp (config:={ failIfUnchanged:=false }) only;refine An (zay (by omega) ?_);have m8:MI le a b (out3.push (G a ia1)).toList (ia1+1) ib2:=by
            rw[Dh];exact n7.pushA P.sa #v[] u2
          refine q_if (λe5=>?_) λe5=>?_
          · have e5 : ia1 + 1 + 1 = a.size := by simpa using e5
            exact At (hQ _ _ ⟨S5,.inl ⟨_,_,_,_,_,_,_,rfl,zq7 (m8.finL P.sa P.sb e5 P.ha)⟩⟩)
          have e5:¬ ia1+1+1=a.size:=by simpa using e5
          refine q_if (λ_=>?_) λ_=>?_
          · exact At (hQ _ _ ⟨S5,.inr ⟨_,_,_,_,_,_,rfl,m8,by omega,b7,by omega⟩⟩)
          · exact At (hQ _ _ ⟨_,_,_,_,_,_,rfl,S5,m8,by omega,b7,by omega⟩)
end
end Tim
namespace Tim
section
variable {prog:Program}{w:World}{A:Around}{E:Value->Shared->Prop}{s:Shared}{κ:SortKind}{a₀:Array Keyed}{lt:Keyed->Keyed->Bool}{bf le:Keyed->Keyed->Prop}{st:SortSt}{pd:Array (Nat × Nat × Nat)}
variable {a b out:Array Keyed}{o:List Keyed}{na nb at_:Nat}
theorem MH.pushA' (Sa:Srt le a 0 a.size)(m:MH le a b out.toList.reverse na nb)(h1:1<=na)(h:na<=a.size)(hb:∀j,j<nb->le (G b j) (G a (na - 1))):MH le a b (out.push (G a (na - 1))).toList.reverse (na - 1) nb:=by
 obtain⟨n,rfl⟩ : ∃n,na=n+1:=⟨na - 1,by omega⟩;rw[Dh,List.reverse_append];exact m.pushA Sa #v[] hb
theorem MH.pushB' (Sb:Srt le b 0 b.size)(m:MH le a b out.toList.reverse na nb)(h1:1<=nb)(h:nb<=b.size)(ha:∀i,i<na->le (G a i) (G b (nb - 1))):MH le a b (out.push (G b (nb - 1))).toList.reverse na (nb - 1):=by
 obtain⟨n,rfl⟩ : ∃n,nb=n+1:=⟨nb - 1,by omega⟩;rw[Dh,List.reverse_append];exact m.pushB Sb #v[] ha
theorem zvy (x:Array Keyed)(i j:Nat):(out++(x.extract i j).reverse).toList.reverse=(x.toList.drop i).take (j - i)++out.toList.reverse:=by
 rw[Bm,List.reverse_append,Gr,List.reverse_reverse,zcz]
theorem MH.appA' (Sa:Srt le a 0 a.size)(m:MH le a b out.toList.reverse na nb)(h1:at_<=na)(h:na<=a.size)(hb:∀i,at_<=i->i<na->∀j,j<nb->le (G b j) (G a i)):MH le a b (out++(a.extract at_ na).reverse).toList.reverse at_ nb:=by
 rw[zvy];obtain⟨k,rfl⟩ : ∃k,na=at_+k:=⟨na - at_,by omega⟩;rw[show at_+k - at_=k by omega];exact MH.appA Sa k at_ m h hb
theorem MH.appB' (Sb:Srt le b 0 b.size)(m:MH le a b out.toList.reverse na nb)(h1:at_<=nb)(h:nb<=b.size)(ha:∀j,at_<=j->j<nb->∀i,i<na->le (G a i) (G b j)):MH le a b (out++(b.extract at_ nb).reverse).toList.reverse na at_:=by
 rw[zvy];obtain⟨k,rfl⟩ : ∃k,nb=at_+k:=⟨nb - at_,by omega⟩;rw[show at_+k - at_=k by omega];exact MH.appB Sb k at_ m h ha
theorem zdl (x:Array Keyed)(n:Nat):(x.extract 0 n).toList=x.toList.take n:=by rw[zcz,Dz,Nat.sub_zero]
theorem MH.done0 (Sb:Srt le b 0 b.size)(m:MH le a b out.toList.reverse na nb)(e:na=0):Fin le a b (a.extract 0 na++b.extract 0 nb++out.reverse).toList:=by
 subst e;rw[Bm,Bm,zdl,zdl,Dx,List.nil_append,Gr];exact m.finA Sb
theorem MH.done1 (Sa:Srt le a 0 a.size)(m:MH le a b out.toList.reverse na nb)(e:nb=0):Fin le a b (a.extract 0 na++b.extract 0 nb++out.reverse).toList:=by
 subst e;rw[Bm,Bm,zdl,zdl,Dx,By,Gr];exact m.finB Sa
theorem MH.first (Sa:Srt le a 0 a.size)(Sb:Srt le b 0 b.size)(m:MH le a b out.toList.reverse na nb)(e:nb=1)(H0:∀i,i<a.size->le (G b 0) (G a i)):Fin le a b (b.extract 0 nb++a.extract 0 na++out.reverse).toList:=by
 subst e;rw[Bm,Bm,zdl,zdl,Gr];exact m.finF Sa Sb H0
theorem yc1 (C:Asks prog w A E s κ a₀ lt) (O:Ord lt bf le) {a b xs:Array Keyed}{Q:Array Keyed->SortSt->Prop} (S:SG κ a₀ pd xs st) (P:MP lt bf le a₀ a b)
    (h:∀r st',SG κ a₀ pd xs st'->Fin le a b r.toList->Q r st'):wpS (model prog w) A E s (mHi a b) Q st:=by
  have leA:∀i j,i<=j->j < a.size->le (G a i) (G a j):=fun i j h1 h2=>by
    by_cases e:i=j
    · rw[e];exact O.rf _
    · exact P.sa i j (Bk _) #v[] h2
  have leB:∀i j,i<=j->j < b.size->le (G b i) (G b j):=fun i j h1 h2=>by
    by_cases e:i=j
    · rw[e];exact O.rf _
    · exact P.sb i j (Bk _) #v[] h2
  have pa:=P.a1;have pb:=P.b1;show wpS (model prog w) A E s (liftM (rule _) >>= _) Q st;refine An (wpS_lift (Cv ⟨rfl,?_⟩));refine An (zay (show a.size - 1 < a.size by omega) ?_);have m0:MH le a b (#[G a (a.size - 1)]:Array Keyed).toList.reverse (a.size - 1) b.size:=by
    have:=MH.pushA' (out:=#[]) (na:=a.size) (nb:=b.size) (a:=a) (b:=b) P.sa ⟨by simp,.nil,λx hx=>by simp at hx,λx hx=>by simp at hx⟩ pa (Ag _) P.ha;simpa using this
  dsimp only;by_cases e1:a.size - 1=0
  · rw [if_pos (by simpa using e1)]
    exact At (h _ _ S (m0.done0 P.sb e1))
  rw[if_neg (by simpa using e1)];by_cases e2:b.size=1
  · rw [if_pos (by simpa using e2)]
    exact At (h _ _ S (m0.first P.sa P.sb e2 P.h0))
  rw [if_neg (by simpa using e2)];refine An (Hn ?_);refine An (Dn (Cb (I:=fun x c s2=>∃(out:Array Keyed) (na nb mg:Nat),c=(none,na,nb,out,mg)/\SG κ a₀ pd xs s2/\MH le a b out.toList.reverse na nb/\1<=na/\2<=nb/\na<=a.size/\nb<=b.size/\x+na+nb<=a.size+b.size)
    (Q:=λc s2=>∃(r out:Array Keyed) (na nb mg:Nat),c=(some r,na,nb,out,mg)/\SG κ a₀ pd xs s2/\Fin le a b r.toList) ?os ?of ⟨_,a.size - 1,b.size,_,rfl,S,m0,by omega,by omega,by omega,by omega,by omega⟩) ?op)
  case of =>
    rintro c s2 hC;refine aG λG hG=>?_;obtain⟨out,na,nb,mg,eC,b1,b2,b3,b4,b5,b6,b7⟩:=hC;refine hG ?_;clear hG;clear G;subst eC;exfalso;omega
  case op =>
    rintro c s2 hC;refine aG λG hG=>?_;obtain⟨r,out,na,nb,mg,eC,b1,b2⟩:=hC;refine hG ?_;clear hG;clear G;subst eC;exact At (h _ _ b1 b2)
  case os =>
    rintro x c s2 _ hx hC;refine aG fun G hG=>?_;obtain ⟨out,na,nb,mg,eC,S2,m2,b3,b4,b5,b6,b7⟩:=hC;refine hG ?_;clear hG;clear G;subst eC;dsimp only;refine An (Dn (Cb (I:=fun y c s3=>s3=s2/\∃(out:Array Keyed) (na nb ac bc:Nat),c=(none,na,nb,out,ac,bc)/\MH le a b out.toList.reverse na nb/\1<=na/\2<=nb/\na<=a.size/\nb<=b.size/\x+na+nb<=a.size+b.size)
      (Q:=λc s3=>s3=s2/\((∃(r out:Array Keyed) (na nb ac bc:Nat),c=(some r,na,nb,out,ac,bc)/\Fin le a b r.toList)\/∃(out:Array Keyed) (na nb ac bc:Nat),c=(none,na,nb,out,ac,bc)/\MH le a b out.toList.reverse na nb/\1<=na/\2<=nb/\na<=a.size/\nb<=b.size/\x+na+nb<=a.size+b.size)) ?is1 ?if1 ⟨rfl,out,na,nb,0,0,rfl,m2,b3,b4,b5,b6,b7⟩) ?ip1)
    case if1 =>
      rintro c s3 ⟨e3,z⟩;exact⟨e3,.inr z⟩
    case is1 =>
      rintro y c s3 _ hy hC;refine aG λG hG=>?_;obtain⟨e3,out,na,nb,ac,bc,eC,m3,c3,c4,c5,c6,c7⟩:=hC;refine hG ?_;clear hG;clear G;subst eC;subst e3;dsimp only;refine An (zay #v[] (An (zay #v[] (An (q_lt C S2 (P.mb _ #v[]) (P.ma _ #v[]) ?_)))));have bb:=P.bf (na - 1) (nb - 1) #v[] #v[];cases q:lt (G b (nb - 1)) (G a (na - 1)) with
      | true =>
        dsimp only;rw[if_pos rfl];refine An (zay #v[] ?_);have m4:=m3.pushA' P.sa c3 c5 λj g=>O.tr (leB j (nb - 1) #v[] #v[]) (O.f2 q);by_cases e:na - 1=0
        · rw [if_pos (by simpa using e)]
          exact At ⟨rfl,.inl ⟨_,_,_,_,_,_,rfl,m4.done0 P.sb e⟩⟩
        · rw [if_neg (by simpa using e)]
          split
          · exact At ⟨rfl,.inr ⟨_,_,_,_,_,rfl,m4,by omega,by omega,by omega,by omega,by omega⟩⟩
          · exact At ⟨rfl,_,_,_,_,_,rfl,m4,by omega,by omega,by omega,by omega,by omega⟩
      | false =>
        dsimp only;rw[if_neg #v[0,9]];refine An (zay #v[] ?_);have m4:=m3.pushB' P.sb #v[] c6 λi g=>O.tr (leA i (na - 1) #v[] #v[]) ((O.f1 bb).mp q);by_cases e:nb - 1=1
        · rw [if_pos (by simpa using e)]
          exact At ⟨rfl,.inl ⟨_,_,_,_,_,_,rfl,m4.first P.sa P.sb e P.h0⟩⟩
        · rw [if_neg (by simpa using e)]
          split
          · exact At ⟨rfl,.inr ⟨_,_,_,_,_,rfl,m4,by omega,by omega,by omega,by omega,by omega⟩⟩
          · exact At ⟨rfl,_,_,_,_,_,rfl,m4,by omega,by omega,by omega,by omega,by omega⟩
    case ip1 =>
      rintro c s3 ⟨e3,z⟩;subst e3;refine aG λG hG=>?_;rcases z with⟨r,out,na,nb,ac,bc,eC,f⟩|⟨out,na,nb,ac,bc,eC,m3,c3,c4,c5,c6,c7⟩
      · refine hG ?_
        clear hG;clear G;subst eC;exact At ⟨_,_,_,_,_,rfl,S2,f⟩
      · refine hG ?_
        clear hG;clear G;subst eC;dsimp only;refine An (wpS_lift (Cv ⟨rfl,?_⟩));refine An (Dn (Cb (I:=fun y c s4=>∃(out:Array Keyed) (na nb mg ac bc:Nat),c=(none,na,nb,out,mg,ac,bc)/\SG κ a₀ pd xs s4/\MH le a b out.toList.reverse na nb/\1<=na/\2<=nb/\na<=a.size/\nb<=b.size/\x+y+na+nb<=a.size+b.size)
          (Q:=λc s4=>SG κ a₀ pd xs s4/\((∃(r out:Array Keyed) (na nb mg ac bc:Nat),c=(some r,na,nb,out,mg,ac,bc)/\Fin le a b r.toList)\/∃(out:Array Keyed) (na nb mg ac bc:Nat),c=(none,na,nb,out,mg,ac,bc)/\MH le a b out.toList.reverse na nb/\1<=na/\2<=nb/\na<=a.size/\nb<=b.size/\x+1+na+nb<=a.size+b.size)) ?gs ?gf ⟨out,na,nb,_,ac,bc,rfl,S2,m3,c3,c4,c5,c6,by omega⟩) ?gp)
        case gf =>
          rintro c s4 hC;refine aG λG hG=>?_;obtain⟨out,na,nb,mg,ac,bc,eC,S4,m4,d3,d4,d5,d6,d7⟩:=hC;refine hG ?_;clear hG;clear G;subst eC;exact⟨S4,.inr ⟨_,_,_,_,_,_,rfl,m4,d3,d4,d5,d6,by omega⟩⟩
        case gp =>
          rintro c s4 ⟨S4,z⟩;refine aG λG hG=>?_;rcases z with⟨r,out,na,nb,mg,ac,bc,eC,f⟩|⟨out,na,nb,mg,ac,bc,eC,m4,d3,d4,d5,d6,d7⟩
          · refine hG ?_
            clear hG;clear G;subst eC;exact At ⟨_,_,_,_,_,rfl,S4,f⟩
          · refine hG ?_
            clear hG;clear G;subst eC;dsimp only;exact An (zqy S4 λs5 S5=>At ⟨_,_,_,_,rfl,S5,m4,d3,d4,d5,d6,d7⟩)
        case gs =>
          rintro y c s4 _ hy hC;refine aG λG hG=>?_;obtain⟨out,na,nb,mg,ac,bc,eC,S4,m4,d3,d4,d5,d6,d7⟩:=hC;refine hG ?_;clear hG;clear G;subst eC;simp (config:={ maxSteps:=10000000,failIfUnchanged:=false }) only [];refine zy3 λQ' hQ=>?_;generalize mg=mg
          revert mg
          refine q_eq (g:=λmg=>mg - 1) (λ_=>rfl) λmg=>?_;dsimp (config:={ failIfUnchanged:=false }) only;refine An (zqy S4 λs5 S5=>An (zay (show nb - 1<b.size by omega) (An (zsn (left:=false) (key:=G b (nb - 1)) (arr:=a) (base:=0) (n:=na) (hint:=na - 1) (B:=λi=>!lt (G b (nb - 1)) (G a (0+i))) C S5.i.kind (P.mb _ #v[]) #v[] (λi hi=>P.ma _ #v[]) (λi hi=>rfl) (λi j h1 h2 h3=>?mono1) #v[] λk k1 k2 k3=>?_))))
          case mono1 =>
            have h3' : lt (G b (nb - 1)) (G a (0+j))=false:=by simpa using h3
            have l1:=(O.f1 (P.bf (0+j) (nb - 1) #v[] #v[])).mp h3';have l2:=(O.f1 (P.bf (0+i) (nb - 1) #v[] #v[])).mpr (O.tr (leA _ _ #v[] #v[]) l1);show (!lt (G b (nb - 1)) (G a (0+i)))=true;rw[l2];rfl
          have w1:∀i,i < k->le (G a i) (G b (nb - 1)):=fun i g1=>by
            have:=k2 i g1;rw[Cf] at this;exact (O.f1 (P.bf i (nb - 1) #v[] #v[])).mp (by simpa using this)
          have w2:∀i,k<=i->i < na->le (G b (nb - 1)) (G a i):=fun i g1 g2=>by
            have:=k3 i #v[] #v[];rw[Cf] at this;exact O.f2 (by simpa using this)
          have m5:=m4.appA' P.sa k1 d5 λi g1 g2 j g3=>O.tr (leB j (nb - 1) #v[] #v[]) (w2 i g1 g2);dsimp (config:={ failIfUnchanged:=false }) only;generalize hac:na - k=ac1 at m5 ⊢;generalize eou:out=out'
          revert out'
          generalize ena:na=na'
          revert na'
          refine z2j (λna1 out1=>MH le a b out1.toList.reverse na1 nb/\(∀i,i<na1->le (G a i) (G b (nb - 1)))/\(1<=na1/\na1<=a.size)/\x+y+na1+nb<=a.size+b.size) (λhk0=>?_) (λhc H=>?_) λna1 out1 ⟨n5,u1,b8,p6⟩=>?_
          · have k0 : k = na := by omega
            exact⟨m4,k0 ▸ w1,by omega,by omega⟩
          · refine q_if (fun e1 => ?_) fun e1 => ?_
            · have e1 : k = 0 := by simpa using e1
              exact At (hQ _ _ ⟨S5,.inl ⟨_,_,_,_,_,_,_,rfl,m5.done0 P.sb e1⟩⟩)
            have e1:¬ k=0:=by simpa using e1
            exact H _ _ ⟨m5,w1,by omega,by omega⟩
          clear m5 m4 w2 w1 k3 k2 k1 hac;dsimp (config:={ failIfUnchanged:=false }) only;refine An (zay #v[] ?_);have m6:=n5.pushB' P.sb #v[] d6 u1;refine q_if (λe3=>?_) λe3=>?_
          · have e3 : nb - 1 = 1 := by simpa using e3
            exact At (hQ _ _ ⟨S5,.inl ⟨_,_,_,_,_,_,_,rfl,m6.first P.sa P.sb e3 P.h0⟩⟩)
          have e3:¬ nb - 1=1:=by simpa using e3
          refine An (zay (show na1 - 1<a.size by omega) (An (zsn (left:=true) (key:=G a (na1 - 1)) (arr:=b) (base:=0) (n:=nb - 1) (hint:=nb - 1 - 1) (B:=λj=>lt (G b (0+j)) (G a (na1 - 1))) C S5.i.kind (P.ma _ #v[]) #v[] (λj hj=>P.mb _ #v[]) (λj hj=>rfl) (λi j h1 h2 h3=>?mono2) #v[] λl l1 l2 l3=>?_)))
          case mono2 =>
            have n1:=O.f3 (P.bf (na1 - 1) (0+j) #v[] #v[]) h3;cases q:lt (G b (0+i)) (G a (na1 - 1)) with
            |true=>rfl
            |false=>exact absurd (O.tr ((O.f1 (P.bf (na1 - 1) (0+i) #v[] #v[])).mp q) (leB _ _ #v[] #v[])) n1
          have v1:∀j,j < l->le (G b j) (G a (na1 - 1)):=fun j g1=>by
            have:=l2 j g1;rw[Cf] at this;exact O.f2 this
          have v2:∀j,l<=j->j < nb - 1->le (G a (na1 - 1)) (G b j):=fun j g1 g2=>by
            have:=l3 j #v[] #v[];rw[Cf] at this;exact (O.f1 (P.bf (na1 - 1) j #v[] #v[])).mp this
          have m7:=m6.appB' P.sb l1 #v[] λj g1 g2 i g3=>O.tr (leA i (na1 - 1) #v[] #v[]) (v2 j g1 g2);dsimp (config:={ failIfUnchanged:=false }) only;generalize hbc:nb - 1 - l=bc1 at m7 ⊢;generalize hnb:nb - 1=nb1 at hbc m7 m6 ⊢;generalize hout:out1.push (G b nb1)=out2 at m7 m6 ⊢;generalize eou:out2=out'
          revert out'
          generalize ena:nb1=na'
          revert na'
          refine z2j (λnb2 out2=>MH le a b out2.toList.reverse na1 nb2/\(∀j,j<nb2->le (G b j) (G a (na1 - 1)))/\(2<=nb2/\nb2<=b.size)/\x+y+1+na1+nb2<=a.size+b.size) (λhl0=>?_) (λhc H=>?_) λnb2 out3 ⟨n7,u2,b7,p7⟩=>?_
          · have k0 : l = nb1 := by omega
            exact⟨m6,k0 ▸ v1,by omega,by omega⟩
          · refine q_if (fun e4 => ?_) fun e4 => ?_
            · have e4 : l = 1 := by simpa using e4
              exact At (hQ _ _ ⟨S5,.inl ⟨_,_,_,_,_,_,_,rfl,m7.first P.sa P.sb e4 P.h0⟩⟩)
            have e4:¬ l=1:=by simpa using e4
            refine q_if (λe6=>?_) λe6=>?_
            · have e6 : l = 0 := by simpa using e6
              exact At (hQ _ _ ⟨S5,.inl ⟨_,_,_,_,_,_,_,rfl,m7.done1 P.sa e6⟩⟩)
            have e6:¬ l=0:=by simpa using e6
            exact H _ _ ⟨m7,v1,by omega,by omega⟩
          dsimp (config:={ failIfUnchanged:=false }) only;refine An (zay #v[] ?_);have m8:=n7.pushA' P.sa b8.1 b8.2 u2;refine q_if (λe5=>?_) λe5=>?_
          · have e5 : na1 - 1 = 0 := by simpa using e5
            exact At (hQ _ _ ⟨S5,.inl ⟨_,_,_,_,_,_,_,rfl,m8.done0 P.sb e5⟩⟩)
          have e5:¬ na1 - 1=0:=by simpa using e5
          refine q_if (λ_=>?_) λ_=>?_
          · exact At (hQ _ _ ⟨S5,.inr ⟨_,_,_,_,_,_,rfl,m8,by omega,by omega,by omega,by omega,by omega⟩⟩)
          · exact At (hQ _ _ ⟨_,_,_,_,_,_,rfl,S5,m8,by omega,by omega,by omega,by omega,by omega⟩)
end
end Tim
namespace Tim
noncomputable def wr (xs:Array Keyed) (s0:Nat) (l:List Keyed) (m:Nat):Array Keyed:=(l.zipIdx m).foldl (λa (x:Keyed × Nat)=>match x with|(p,j)=>a.setIfInBounds (s0+j) p) xs
theorem zxu (xs:Array Keyed)(s0:Nat)(p:Keyed)(l:List Keyed)(m:Nat):wr xs s0 (p::l) m=wr (xs.setIfInBounds (s0+m) p) s0 l (m+1):=by unfold wr;rw[List.zipIdx_cons,List.foldl_cons]
theorem zwc (s0:Nat):∀(l:List Keyed) (m:Nat) (xs:Array Keyed),(wr xs s0 l m).size=xs.size
 |[],m,xs=>rfl
 |p::l,m,xs=>by rw[zxu,zwc s0 l,Array.size_setIfInBounds]
theorem ycw {xs:Array Keyed}{i k:Nat}{p:Keyed}(h:i<xs.size):G (xs.setIfInBounds i p) k=if i=k then p else G xs k:=by
 unfold G;rw[Array.getElem?_setIfInBounds];split
 ·rename_i e;subst e
  first|rfl|(rw[if_pos h];rfl)
 ·rfl
theorem G_wr (s0:Nat):∀(l:List Keyed) (m:Nat) (xs:Array Keyed),s0+m+l.length<=xs.size->∀i,G (wr xs s0 l m) i=if s0+m<=i/\i < s0+m+l.length then (l[i - (s0+m)]?).getD d0 else G xs i
  |[],m,xs,h,i=>by rw[if_neg (by simp)];rfl
  | p::l,m,xs,h,i=>by
    rw[Bc] at h;rw[zxu,G_wr s0 l (m+1) _ (by rw[Array.size_setIfInBounds];omega),ycw #v[]];rw[Bc];by_cases c:i=s0+m
    · subst c
      rw[if_neg #v[],if_pos rfl,if_pos ⟨by omega,by omega⟩,Nat.sub_self]
      rfl
    · by_cases c2 : s0 + m ≤ i /\ i < s0 + m + (l.length + 1)
      · rw[if_pos ⟨by omega,by omega⟩,if_pos c2,show i - (s0+m)=i - (s0+(m+1))+1 by omega,List.getElem?_cons_succ]
      · rw[if_neg #v[],if_neg #v[],if_neg c2]
theorem zq0 {xs:Array Keyed}{i:Nat}(h:i<xs.size):G xs i=xs[i]:=by unfold G;rw[getElem?_pos xs i h];rfl
theorem zrd {xs:Array Keyed}{i j k:Nat}(hj:j<=xs.size)(hk:i+k<j):G (xs.extract i j) k=G xs (i+k):=by
 have h:k<(xs.extract i j).size:=by rw[Array.size_extract];omega
 rw[zq0 h,Array.getElem_extract,zq0 #v[]]
theorem zdq {xs:Array Keyed}{i j:Nat}(hj:j<=xs.size):(xs.extract i j).size=j - i:=by rw[Array.size_extract];omega
theorem ydl {xs:Array Keyed}{s0 m e:Nat}{r:List Keyed}(h1:s0<=m)(h2:m<=e)(h3:e<=xs.size)(p:r.Perm ((xs.extract s0 m).toList++(xs.extract m e).toList)):Re xs (wr xs s0 r 0) s0 e/\r.length=e - s0:=by
 have hl:r.length=e - s0:=by
  rw[p.length_eq,Ba,Bw,Bw,zdq #v[],zdq h3];omega
 have hg:=G_wr s0 r 0 xs #v[];refine⟨⟨?_,λi hi=>?_,λi g1 g2=>?_⟩,hl⟩
 ·have e1:(wr xs s0 r 0).toList=xs.toList.take s0++r++xs.toList.drop e:=by
   apply Dg;intro i;have sz:(wr xs s0 r 0).size=xs.size:=zwc _ _ _ _;by_cases hi:i<xs.size
   ·have a1 : (wr xs s0 r 0).toList[i]? = some (G (wr xs s0 r 0) i):=G_list #v[];rw[a1,hg i];by_cases c1:i<s0
    ·rw[if_neg #v[],Bb,Da (by simp;omega),List.getElem?_take_of_lt c1,G_list hi]
    ·by_cases c2 : i<e
     ·rw[if_pos ⟨by omega,by omega⟩,Bb,Ey (by simp; omega),Da (by simp; omega)];have:(List.take s0 xs.toList).length=s0:=by simp;omega
      rw[this,Nat.add_zero,Ae #v[]]
      rfl
     ·rw[if_neg #v[],Ey (by simp; omega),List.getElem?_drop];have:(List.take s0 xs.toList++r).length=e:=by simp;omega
      rw[this,show e+(i - e)=i by omega,G_list hi]
   ·rw[Co (by simp;omega),Co (by simp;omega)]
  have e2:xs.toList=xs.toList.take s0++((xs.extract s0 m).toList++(xs.extract m e).toList)++xs.toList.drop e:=by
   rw[zcz,zcz];have t1:(xs.toList.drop s0).take (m - s0)++(xs.toList.drop m).take (e - m)=(xs.toList.drop s0).take (e - s0):=by
    rw[show e - s0=(m - s0)+(e - m) by omega,List.take_add,List.drop_drop,show s0+(m - s0)=m by omega]
   rw[t1,Bb];have t2:(xs.toList.drop s0).take (e - s0)++xs.toList.drop e=xs.toList.drop s0:=by
    have:=Bp (e - s0) (xs.toList.drop s0);rw[List.drop_drop,show s0+(e - s0)=e by omega] at this;exact this
   rw[t2,Bp]
  refine Hb.mpr ?_;rw[e1];have q:=(p.append_left (xs.toList.take s0)).append_right (xs.toList.drop e);rw[<-e2] at q;exact q
 ·rw[hg i,if_neg #v[]]
 ·rw[hg i,if_pos ⟨by omega,by omega⟩,Ae #v[]];have hm:=p.mem_iff.mp (List.getElem_mem (l:=r) (n:=i - (s0+0)) #v[]);show ∃j,s0<=j/\j<e/\r[i - (s0+0)]=G xs j;rcases Bj.mp hm with z|z
  ·obtain⟨k,k1,k2,k3⟩:=mem_drop (n:=0) (by rw[Dz]; exact z);rw[zdq #v[]] at k2;exact⟨s0+k,by omega,by omega,by rw[k3,zrd #v[] #v[]]⟩
  ·obtain⟨k,k1,k2,k3⟩:=mem_drop (n:=0) (by rw[Dz]; exact z);rw[zdq h3] at k2;exact⟨m+k,by omega,by omega,by rw[k3,zrd h3 #v[]]⟩
section
variable (bf le:Keyed->Keyed->Prop)
noncomputable def Chain (xs:Array Keyed):Nat->List (Nat × Nat × Nat)->Nat->Prop
 |c,[],hi=>c=hi
 |c,(s0,n,_)::r,hi=>s0=c/\1<=n/\Srt le xs c (c+n)/\Cut bf xs c/\Chain xs (c+n) r hi
end
section
variable {bf le:Keyed->Keyed->Prop}{xs ys:Array Keyed}
theorem Chain.len:∀{l:List (Nat × Nat × Nat)}{c hi:Nat},Chain bf le xs c l hi->c+l.length<=hi
  |[],c,hi,h=>by cases h;simp
  | (s0,n,_)::r,c,hi,h=>by
    have:=Chain.len h.2.2.2.2;have:=h.2.1;rw[Bc];omega
theorem Chain.app:∀{l l' : List (Nat × Nat × Nat)}{c hi:Nat},Chain bf le xs c (l++l') hi↔∃m,Chain bf le xs c l m/\Chain bf le xs m l' hi
 |[],l',c,hi=>⟨λh=>⟨c,rfl,h⟩,λ⟨m,e,h⟩=>by cases e;exact h⟩
 | (s0,n,_)::r,l',c,hi=>⟨fun ⟨a1,a2,a3,a4,a5⟩=>by
   obtain⟨m,b1,b2⟩:=Chain.app.mp a5;exact⟨m,⟨a1,a2,a3,a4,b1⟩,b2⟩,λ⟨m,⟨a1,a2,a3,a4,b1⟩,b2⟩=>⟨a1,a2,a3,a4,Chain.app.mpr ⟨m,b1,b2⟩⟩⟩
theorem Chain.re:∀{l:List (Nat × Nat × Nat)}{c hi lo' hi' : Nat},Chain bf le xs c l hi->Re xs ys lo' hi'->hi'<=xs.size->(hi<=lo'\/hi'<=c)->Chain bf le ys c l hi
  |[],c,hi,lo',hi',h,_,_,_=>h
  | (s0,n,q)::r,c,hi,lo',hi',⟨a1,a2,a3,a4,a5⟩,R,hz,hc=>by
    have:=Chain.len a5;exact⟨a1,a2,a3.re R #v[],a4.re R hz #v[],Chain.re a5 R hz #v[]⟩
end
section
variable {prog:Program}{w:World}{A:Around}{E:Value->Shared->Prop}{s:Shared}{κ:SortKind}{a₀:Array Keyed}{lt:Keyed->Keyed->Bool}{bf le:Keyed->Keyed->Prop}{st:SortSt}{pd:Array (Nat × Nat × Nat)}
theorem yc0 {st' : SortSt}{Q:PUnit->SortSt->Prop}(h:Q ⟨⟩ st'):wpS (model prog w) A E s (set st' : StateT SortSt Sem PUnit) Q st:=by
 unfold wpS;rw[StateT.run_set];exact Af ⟨rfl,h⟩
theorem ya6 {st' : SortSt}{P:SortSt->Prop}{Q:PUnit->SortSt->Prop}(hp:P st')(h:∀st1,P st1->Q ⟨⟩ st1):wpS (model prog w) A E s (set st' : StateT SortSt Sem PUnit) Q st:=yc0 (h _ hp)
theorem z86 {l:List (Nat × Nat × Nat)}{i:Nat}(h:i+1<l.length):l=l.take i++l[i]::l[i+1]::l.drop (i+2):=by
 have e1:=Cm (l:=l) (i:=i) #v[];have e2:=Cm (l:=l) (i:=i+1) #v[];have:=Bp i l;rw[e1,e2] at this;exact this.symm
theorem zl1 (C:Asks prog w A E s κ a₀ lt) (O:Ord lt bf le) {i lo:Nat}{Q:Bool->SortSt->Prop} (I:SI κ a₀ pd st) (hi:i+1 < pd.size) (ch:Chain bf le (arrOf st) 0 pd.toList lo) (hlo:lo<=a₀.size)
  (h:∀st' pd',SI κ a₀ pd' st'->pd'.size+1=pd.size->Chain bf le (arrOf st') 0 pd'.toList lo->Re (arrOf st) (arrOf st') 0 lo->Q true st'):wpS (model prog w) A E s (mergeAt' i) Q st:=by
 have sz:=I.size;have hil:i+1<pd.toList.length:=by simpa using hi
 have es:=z86 hil;obtain⟨⟨sa,na,pw⟩,ea⟩ : ∃t,pd.toList[i]=t:=⟨_,rfl⟩;obtain⟨⟨sb,nb,pw'⟩,eb⟩ : ∃t,pd.toList[i+1]=t:=⟨_,rfl⟩;rw[ea,eb] at es;have ch0:=ch;rw[es] at ch;obtain⟨m,c1,⟨e1,a2,a3,a4,⟨e2,b2,b3,b4,c2⟩⟩⟩:=Chain.app.mp ch;subst e1;subst e2;have l2:=Chain.len c2;have l1:=Chain.len c1;have np:∃pd' : Array (Nat × Nat × Nat),pd'=(pd.setIfInBounds i (sa,na+nb,pw)).eraseIdxIfInBounds (i+1)/\pd'.size+1=pd.size/\pd'.toList=pd.toList.take i++(sa,na+nb,pw)::pd.toList.drop (i+2):=by
  refine (λ(q:((pd.setIfInBounds i (sa,na+nb,pw)).eraseIdxIfInBounds (i+1)).toList=_)=>⟨_,rfl,by
   have q2:=congrArg List.length q;rw[Bw,Ba,Bc,Dy,Gm,Bw] at q2;omega,q⟩) ?_
  ·rw [Array.toList_eraseIdxIfInBounds, Array.toList_setIfInBounds];have:(pd.toList.set i (sa,na+nb,pw))=pd.toList.take i++(sa,na+nb,pw)::(sa+na,nb,pw')::pd.toList.drop (i+2):=by
    rw[List.set_eq_take_append_cons_drop,if_pos #v[],Cm hil,eb]
   rw[this];have l3:(pd.toList.take i).length=i:=by rw[Dy];omega
   rw[List.eraseIdx_append_of_length_le #v[],l3,show i+1 - i=1 by omega]
   rfl
 obtain⟨pd',epd,zpd,lpd⟩:=np;have fin:∀st',kindOf st'=κ->failedOf st'=none->pendingOf st'=pd'->Re (arrOf st) (arrOf st') sa (sa+na+nb)->Srt le (arrOf st') sa (sa+na+nb)->Q true st':=λst' k1 k2 k3 R S=>by
  refine h st' pd' ⟨k1,k2,R.perm.trans I.perm,k3⟩ zpd ?_ (R.mono #v[] #v[]);rw[lpd];refine Chain.app.mpr ⟨sa,c1.re R #v[] (.inl (Ag _)),rfl,by omega,?_,a4.re R #v[] (.inl (Ag _)),?_⟩
  ·rw[<-Nat.add_assoc];exact S
  ·rw[<-Nat.add_assoc];exact c2.re R #v[] (.inr (Ag _))
 have leX:∀i j,sa<=i->i<=j->j<sa+na->le (G (arrOf st) i) (G (arrOf st) j):=λi j h1 h2 h3=>by
  by_cases e:i=j
  ·rw[e];exact O.rf _
  ·exact a3 i j h1 #v[] h3
 have leY:∀i j,sa+na<=i->i<=j->j<sa+na+nb->le (G (arrOf st) i) (G (arrOf st) j):=λi j h1 h2 h3=>by
  by_cases e:i=j
  ·rw[e];exact O.rf _
  ·exact b3 i j h1 #v[] h3
 have bfs:∀i j,i<sa+na->sa+na<=j->j<sa+na+nb->bf (G (arrOf st) i) (G (arrOf st) j):=λi j h1 h2 h3=>b4 i j h1 h2 #v[];have mem:∀i,i<a₀.size->G (arrOf st) i∈a₀.toList:=λi hi=>z7j I.perm #v[];show wpS (model prog w) A E s (get >>= _) Q st;refine An (Hn ?_);have g1:(pendingOf st)[i]?=some (sa,na,pw):=by
  rw[I.pend,<-Gk,Ae #v[],ea]
 have g2:(pendingOf st)[i+1]?=some (sa+na,nb,pw'):=by
  rw[I.pend,<-Gk,Ae hil,eb]
 dsimp only;rw[g1,g2];refine An (ya6 (P:=SG κ a₀ pd' (arrOf st)) ⟨⟨I.kind,I.failed,I.perm,by have q:=I.pend;subst epd;subst q;rfl⟩,rfl⟩ λst1 S1=>?_);refine An (zay (show sa+na<(arrOf st).size by omega) (An (zsn (left:=false) (key:=G (arrOf st) (sa+na)) (arr:=arrOf st) (base:=sa) (n:=na) (hint:=0) (B:=λi=>!lt (G (arrOf st) (sa+na)) (G (arrOf st) (sa+i))) C S1.i.kind (mem _ #v[]) #v[] (λi hi=>mem _ #v[]) (λi hi=>rfl) (λi j h1 h2 h3=>?mono1) #v[] λk k1 k2 k3=>?_)))
 case mono1 =>
  have h3' : lt (G (arrOf st) (sa+na)) (G (arrOf st) (sa+j))=false:=by simpa using h3
  have z1:=(O.f1 (bfs (sa+j) (sa+na) #v[] #v[] #v[])).mp h3';have z2:=(O.f1 (bfs (sa+i) (sa+na) #v[] #v[] #v[])).mpr (O.tr (leX _ _ #v[] #v[] #v[]) z1);show (!lt (G (arrOf st) (sa+na)) (G (arrOf st) (sa+i)))=true;rw[z2];rfl
 have w1:∀i,sa<=i->i<sa+k->le (G (arrOf st) i) (G (arrOf st) (sa+na)):=λi g1 g2=>by
  have:=k2 (i - sa) #v[];rw[show sa+(i - sa)=i by omega] at this;exact (O.f1 (bfs i (sa+na) #v[] #v[] #v[])).mp (by simpa using this)
 have w2:∀i,sa+k<=i->i<sa+na->le (G (arrOf st) (sa+na)) (G (arrOf st) i):=λi g1 g2=>by
  have:=k3 (i - sa) #v[] #v[];rw[show sa+(i - sa)=i by omega] at this;exact O.f2 (by simpa using this)
 refine q_if (λq1=>?_) λq1=>?_
 ·have q1 : na - k = 0:=by simpa using q1
  refine At (fin _ S1.i.kind S1.i.failed S1.i.pend (by rw[S1.e];exact .refl _ _ _) ?_);rw[S1.e];intro i j h1 h2 h3;by_cases c1:j<sa+na
  ·exact a3 i j h1 h2 c1
  ·by_cases c2 : i<sa + na
   ·exact O.tr (w1 i h1 #v[]) (leY _ _ (Ag _) #v[] h3)
   ·exact b3 i j #v[] h2 h3
 have q1:¬ na - k=0:=by simpa using q1
 have e3:sa+k+(na - k) - 1=sa+na - 1:=by omega
 refine An (zay (show sa+k+(na - k) - 1<(arrOf st).size by omega) (An (zsn (left:=true) (key:=G (arrOf st) (sa+k+(na - k) - 1)) (arr:=arrOf st) (base:=sa+na) (n:=nb) (hint:=nb - 1) (B:=λi=>lt (G (arrOf st) (sa+na+i)) (G (arrOf st) (sa+k+(na - k) - 1))) C S1.i.kind (mem _ #v[]) #v[] (λi hi=>mem _ #v[]) (λi hi=>rfl) (λi j h1 h2 h3=>?mono2) #v[] λl l1 l2 l3=>?_)))
 case mono2 =>
  have n1:=O.f3 (bfs (sa+k+(na - k) - 1) (sa+na+j) #v[] #v[] #v[]) h3;cases q:lt (G (arrOf st) (sa+na+i)) (G (arrOf st) (sa+k+(na - k) - 1)) with
  |true=>rfl
  |false=>exact absurd (O.tr ((O.f1 (bfs _ (sa+na+i) #v[] #v[] #v[])).mp q) (leY _ _ #v[] #v[] #v[])) n1
 rw[e3] at l2 l3;have v1:∀j,sa+na<=j->j<sa+na+l->le (G (arrOf st) j) (G (arrOf st) (sa+na - 1)):=λj g1 g2=>by
  have:=l2 (j - (sa+na)) #v[];rw[show sa+na+(j - (sa+na))=j by omega] at this;exact O.f2 this
 have v2:∀j,sa+na+l<=j->j<sa+na+nb->le (G (arrOf st) (sa+na - 1)) (G (arrOf st) j):=λj g1 g2=>by
  have:=l3 (j - (sa+na)) #v[] #v[];rw[show sa+na+(j - (sa+na))=j by omega] at this;exact (O.f1 (bfs _ j #v[] #v[] g2)).mp this
 refine q_if (λq2=>?_) λq2=>?_
 ·have q2 : l = 0:=by simpa using q2
  refine At (fin _ S1.i.kind S1.i.failed S1.i.pend (by rw[S1.e];exact .refl _ _ _) ?_);rw[S1.e];intro i j h1 h2 h3;by_cases c1:j<sa+na
  ·exact a3 i j h1 h2 c1
  ·by_cases c2 : i<sa + na
   ·exact O.tr (leX i (sa+na - 1) h1 #v[] #v[]) (v2 j #v[] h3)
   ·exact b3 i j #v[] h2 h3
 have q2:¬ l=0:=by simpa using q2
 have sx:((arrOf st).extract (sa+k) (sa+na)).size=na - k:=by rw[zdq #v[]];omega
 have sy:((arrOf st).extract (sa+na) (sa+na+l)).size=l:=by rw[zdq #v[]];omega
 have gx:∀i,i<na - k->G ((arrOf st).extract (sa+k) (sa+na)) i=G (arrOf st) (sa+k+i):=λi hi=>zrd #v[] #v[];have gy:∀i,i<l->G ((arrOf st).extract (sa+na) (sa+na+l)) i=G (arrOf st) (sa+na+i):=λi hi=>zrd #v[] #v[];have P:MP lt bf le a₀ ((arrOf st).extract (sa+k) (sa+na)) ((arrOf st).extract (sa+na) (sa+na+l)):=by
  refine⟨?_,?_,?_,?_,?_,?_,?_,?_,?_⟩
  ·intro i j h1 h2 h3;rw[sx] at h3;rw[gx i #v[],gx j h3];exact a3 _ _ #v[] #v[] #v[]
  ·intro i j h1 h2 h3;rw[sy] at h3;rw[gy i #v[],gy j h3];exact b3 _ _ #v[] #v[] #v[]
  ·intro i hi;rw[sx] at hi;rw[gx i hi];exact mem _ #v[]
  ·intro i hi;rw[sy] at hi;rw[gy i hi];exact mem _ #v[]
  ·intro i j hi hj;rw[sx] at hi;rw[sy] at hj;rw[gx i hi,gy j hj];exact bfs _ _ #v[] #v[] #v[]
  ·rw[sx];omega
  ·rw[sy];omega
  ·intro i hi;rw[sx] at hi;rw[gx i hi,gy 0 #v[]];exact w2 _ #v[] #v[]
  ·intro j hj;rw[sy] at hj;rw[gy j hj,sx,gx _ #v[],show sa+k+(na - k - 1)=sa+na - 1 by omega];exact v1 _ #v[] #v[]
 have close:∀(r:Array Keyed) (st2:SortSt),SG κ a₀ pd' (arrOf st) st2->Fin le ((arrOf st).extract (sa+k) (sa+na)) ((arrOf st).extract (sa+na) (sa+na+l)) r.toList ->
   Q true (setArr st2 (wr (arrOf st2) (sa+k) r.toList 0)):=λr st2 S2 F=>by
  obtain⟨R,hl⟩:=ydl (xs:=arrOf st) (s0:=sa+k) (m:=sa+na) (e:=sa+na+l) #v[] #v[] #v[] F.p;have hg:=G_wr (sa+k) r.toList 0 (arrOf st) #v[];refine fin _ S2.i.kind S2.i.failed S2.i.pend ?_ ?_
  ·show Re (arrOf st) (wr (arrOf st2) (sa + k) r.toList 0) sa (sa + na + nb);rw[S2.e];exact R.mono #v[] #v[]
  ·show Srt le (wr (arrOf st2) (sa + k) r.toList 0) sa (sa + na + nb);rw[S2.e];have inm:∀i,sa+k<=i->i<sa+na+l->(∃j,sa+k<=j/\j<sa+na+l/\G (wr (arrOf st) (sa+k) r.toList 0) i=G (arrOf st) j):=λi h1 h2=>R.inn i h1 h2;intro i j h1 h2 h3;by_cases ci:i<sa+k
   ·rw[R.out i (.inl ci)];by_cases cj:j<sa+k
    ·rw[R.out j (.inl cj)];exact a3 i j h1 h2 #v[]
    ·have below:∀z,sa+k<=z->z < sa+na+nb->le (G (arrOf st) i) (G (arrOf st) z):=fun z z1 z2=>by
      by_cases c:z<sa+na
      ·exact leX i z h1 #v[] c
      ·exact O.tr (w1 i h1 ci) (leY _ _ (Ag _) #v[] z2)
     by_cases cj2:j<sa+na+l
     ·obtain⟨z,z1,z2,z3⟩:=inm j #v[] cj2;rw[z3];exact below z z1 #v[]
     ·rw[R.out j (.inr #v[])];exact below j #v[] h3
   ·by_cases ci2 : i<sa + na + l
    ·by_cases cj2 : j<sa + na + l
     ·rw[hg i,hg j,if_pos ⟨by omega,by omega⟩,if_pos ⟨by omega,by omega⟩,Ae #v[],Ae #v[]];exact (List.pairwise_iff_getElem.mp F.s) _ _ _ _ #v[]
     ·rw[R.out j (.inr #v[])];obtain⟨z,z1,z2,z3⟩:=inm i #v[] ci2;rw[z3];by_cases c:z<sa+na
      ·exact O.tr (leX z (sa+na - 1) #v[] #v[] #v[]) (v2 j #v[] h3)
      ·exact leY z j #v[] #v[] h3
    ·rw[R.out i (.inr #v[]),R.out j (.inr #v[])];exact b3 i j #v[] h2 h3
 have en:∀(r:Array Keyed) (st2:SortSt),SG κ a₀ pd' (arrOf st) st2->Fin le ((arrOf st).extract (sa+k) (sa+na)) ((arrOf st).extract (sa+na) (sa+na+l)) r.toList ->
   Q ((failedOf (setArr st2 (wr (arrOf st2) (sa+k) r.toList 0))).isNone) (setArr st2 (wr (arrOf st2) (sa+k) r.toList 0)):=λr st2 S2 F=>by
  have e:failedOf (setArr st2 (wr (arrOf st2) (sa+k) r.toList 0))=none:=S2.i.failed;rw[e];exact close r st2 S2 F
 refine q_if (λ_=>?_) λ_=>?_
 ·exact An (yco C O S1 P λr st2 S2 F=>An (wpS_modify (An (Hn (At (en r st2 S2 F))))))
 ·exact An (yc1 C O S1 P λr st2 S2 F=>An (wpS_modify (An (Hn (At (en r st2 S2 F))))))
end
end Tim
namespace Tim
section
variable {prog:Program}{w:World}{A:Around}{E:Value->Shared->Prop}{s:Shared}{κ:SortKind}{a₀:Array Keyed}{lt:Keyed->Keyed->Bool}{bf le:Keyed->Keyed->Prop}{st:SortSt}{pd:Array (Nat × Nat × Nat)}
structure SP (κ:SortKind) (bf le:Keyed->Keyed->Prop) (a₀:Array Keyed) (lo:Nat) (st:SortSt):Prop where
 kind:kindOf st=κ
 failed:failedOf st=none
 perm:(arrOf st).Perm a₀
 ch:Chain bf le (arrOf st) 0 (pendingOf st).toList lo
 cut:∀c,lo<=c->Cut bf (arrOf st) c
theorem SP.si {lo:Nat}(h:SP κ bf le a₀ lo st):SI κ a₀ (pendingOf st) st:=⟨h.kind,h.failed,h.perm,rfl⟩
theorem zkl:∀{l:List (Nat × Nat × Nat)}{i c hi pw:Nat}{xs:Array Keyed},Chain bf le xs c l hi->Chain bf le xs c (l.modify i λx=>match x with|(a,b,_)=>(a,b,pw)) hi
 |[],i,c,hi,pw,xs,h=>by cases i<;>exact h
 |(s0,n,q)::r,0,c,hi,pw,xs,h=>h
 |(s0,n,q)::r,i+1,c,hi,pw,xs,⟨a1,a2,a3,a4,a5⟩=>⟨a1,a2,a3,a4,zkl a5⟩
theorem zxo {f:SortSt->SortSt}{P:SortSt->Prop}{Q:PUnit->SortSt->Prop}(hp:P (f st))(h:∀st1,P st1->Q ⟨⟩ st1):wpS (model prog w) A E s (modify f:StateT SortSt Sem PUnit) Q st:=wpS_modify (h _ hp)
theorem q_sort (C:Asks prog w A E s κ a₀ lt) (O:Ord lt bf le) {Q:Unit->SortSt->Prop} (I:SI κ a₀ #[] st) (ea:arrOf st=a₀) (hb:∀c,Cut bf a₀ c)
    (h:∀st',failedOf st'=none->(arrOf st').Perm a₀->Srt le (arrOf st') 0 a₀.size->Q () st'):wpS (model prog w) A E s sortRuns' Q st:=by
  rw [sortRuns'_eq];refine An (Hn ?_);have sz:=I.size;rw [sz];dsimp only;have P0:SP κ bf le a₀ 0 st:=⟨I.kind,I.failed,I.perm,by rw [I.pend];rfl,fun c _=>by rw [ea];exact hb c⟩;refine An (Dn (Cb (I:=fun x c s2=>∃lo,c=(none,lo)/\x<=lo/\lo<=a₀.size/\SP κ bf le a₀ lo s2)
    (Q:=λc s2=>c=(none,a₀.size)/\SP κ bf le a₀ a₀.size s2) ?os ?of ⟨0,rfl,by omega,by omega,P0⟩) ?op)
  case of =>
    rintro c s2 ⟨lo,rfl,h1,h2,P⟩;have e:lo=a₀.size:=by omega
    subst e;exact⟨rfl,P⟩
  case os =>
    rintro x c s2 _ hx ⟨lo,rfl,h1,h2,P⟩;refine q_if (λg=>?_) λg=>?_
    · have e : lo = a₀.size := by omega
      subst e;exact At ⟨rfl,P⟩
    have g:lo<a₀.size:=by omega
    refine An (z7d C O P.si (show lo+(a₀.size - lo)<=a₀.size by omega) #v[] P.cut λn s3 I3 n1 n2 R3 S3=>?_);have z3:=I3.size;have z2:=P.si.size;have c3:∀c,lo+n<=c->Cut bf (arrOf s3) c:=λc hc=>(P.cut c #v[]).re R3 #v[] (.inr hc);dsimp only;refine q_if (λg2=>?_) λg2=>?_;refine An (wpS_lift (Cv ⟨rfl,?_⟩));refine An (yc9 C O I3 (show lo+min (a₀.size - lo) (minRun' a₀.size a₀.size 0)<=a₀.size by omega) #v[] n1 S3 c3 λs4 I4 R4 S4=>?_);refine q_if (λz=>by simp at z) λ_=>?_;have hm:1<=min (a₀.size - lo) (minRun' a₀.size a₀.size 0):=by omega
    have hM:lo+min (a₀.size - lo) (minRun' a₀.size a₀.size 0)<=a₀.size:=by omega
    have R5:Re (arrOf s2) (arrOf s4) lo (lo+min (a₀.size - lo) (minRun' a₀.size a₀.size 0)):=(R3.mono (Ag _) #v[]).trans R4;generalize min (a₀.size - lo) (minRun' a₀.size a₀.size 0)=m at I4 R4 S4 hm hM R5 ⊢;clear I3 R3 S3 z3 c3 R4 g2
    rotate_left
    have hm:=n1;have hM:lo+n<=a₀.size:=by omega
    have R5:=R3;have I4:=I3;have S4:=S3;clear I3 R3 S3 z3 c3 g2;generalize n=m at I4 S4 hm hM R5 ⊢;generalize s3=s4 at I4 S4 R5 ⊢
    rotate_left
    all_goals
      have z4:=I4.size;have c4:∀c,lo+m<=c->Cut bf (arrOf s4) c:=fun c hc=>(P.cut c (by omega)).re R5 (by omega) (.inr hc);have k4:Cut bf (arrOf s4) lo:=(P.cut lo (Ag _)).re R5 (by omega) (.inl (Ag _));have ch4:Chain bf le (arrOf s4) 0 (pendingOf s4).toList lo:=by
        rw[I4.pend];exact P.ch.re R5 #v[] (.inl (Ag _))
      have K4:kindOf s4=κ/\failedOf s4=none/\(arrOf s4).Perm a₀:=⟨I4.kind,I4.failed,I4.perm⟩;clear I4 R5;refine An (Hn ?_);have push:∀s5,kindOf s5=κ->failedOf s5=none->(arrOf s5).Perm a₀->Chain bf le (arrOf s5) 0 (pendingOf s5).toList lo->Srt le (arrOf s5) lo (lo+m)->Cut bf (arrOf s5) lo->(∀c,lo+m<=c->Cut bf (arrOf s5) c) ->
          SP κ bf le a₀ (lo+m) (setPending s5 ((pendingOf s5).push (lo,m,0))):=λs5 a1 a2 a3 a4 a5 a6 a7=>by
        refine⟨a1,a2,a3,?_,a7⟩;show Chain bf le (arrOf s5) 0 ((pendingOf s5).push (lo,m,0)).toList (lo+m);rw[Dh];exact Chain.app.mpr ⟨lo,a4,rfl,hm,a5,a6,rfl⟩
      cases q:(pendingOf s4).back? with
      | none =>
        exact An (zxo (P:=SP κ bf le a₀ (lo+m)) (push s4 K4.1 K4.2.1 K4.2.2 ch4 S4 k4 c4) λs6 P6=>At ⟨lo+m,rfl,by omega,hM,P6⟩)
      | some t =>
        obtain ⟨s1,n1',p1⟩:=t;dsimp only;refine An (Dn (Cb (I:=fun y c s5=>c=(none,())/\(kindOf s5=κ/\failedOf s5=none/\(arrOf s5).Perm a₀)/\Chain bf le (arrOf s5) 0 (pendingOf s5).toList lo/\Srt le (arrOf s5) lo (lo+m)/\Cut bf (arrOf s5) lo/\∀c,lo+m<=c->Cut bf (arrOf s5) c)
          (Q:=λc s5=>c=(none,())/\(kindOf s5=κ/\failedOf s5=none/\(arrOf s5).Perm a₀)/\Chain bf le (arrOf s5) 0 (pendingOf s5).toList lo/\Srt le (arrOf s5) lo (lo+m)/\Cut bf (arrOf s5) lo/\∀c,lo+m<=c->Cut bf (arrOf s5) c) ?ms ?mf ⟨rfl,K4,ch4,S4,k4,c4⟩) ?mp)
        case mf =>
          intro c s5 z;exact z
        case mp =>
          rintro c s5 ⟨rfl,K5,ch5,S5,k5,c5⟩;dsimp only;refine An (zxo (P:=λs6=>(kindOf s6=κ/\failedOf s6=none/\(arrOf s6).Perm a₀)/\Chain bf le (arrOf s6) 0 (pendingOf s6).toList lo/\Srt le (arrOf s6) lo (lo+m)/\Cut bf (arrOf s6) lo/\∀c,lo+m<=c->Cut bf (arrOf s6) c) ⟨K5,?_,S5,k5,c5⟩ λs6 z6=>?_)
          · show Chain bf le (arrOf s5) 0 ((pendingOf s5).modify _ _).toList lo
            rw[Array.toList_modify];exact zkl ch5
          · refine aG fun Gg qG => ?_
            obtain⟨K6,ch6,S6,k6,c6⟩:=z6;ac_rfl;exact An (zxo (P:=SP κ bf le a₀ (lo+m)) (push s6 K6.1 K6.2.1 K6.2.2 ch6 S6 k6 c6) λs7 P7=>At ⟨lo+m,rfl,by omega,hM,P7⟩)
        case ms =>
          rintro y c s5 _ hy ⟨rfl,K5,ch5,S5,k5,c5⟩;refine An (Hn ?_)
          try dsimp only
          by_cases g4:(pendingOf s5).size > 1
          · rw [if_pos g4]
            obtain⟨⟨t1,t2,t3⟩,et⟩ : ∃t,(pendingOf s5)[(pendingOf s5).size - 2]?=some t:=⟨_,getElem?_pos _ _ #v[]⟩;rw[et];dsimp only;refine q_if (λ_=>At ⟨rfl,K5,ch5,S5,k5,c5⟩) λ_=>?_;refine An (zl1 C O (i:=(pendingOf s5).size - 2) (lo:=lo) ⟨K5.1,K5.2.1,K5.2.2,rfl⟩ #v[] ch5 h2 λs6 pd6 I6 z6 ch6 R6=>?_);have zz:=K5.2.2.size_eq;refine q_if (λz=>by simp at z) λ_=>?_;refine At ⟨rfl,⟨I6.kind,I6.failed,I6.perm⟩,by rw[I6.pend];exact ch6,S5.re R6 (.inr (Ag _)),k5.re R6 #v[] (.inr (Ag _)),λc hc=>(c5 c hc).re R6 #v[] (.inr #v[])⟩
          · rw [if_neg g4]
            exact At ⟨rfl,K5,ch5,S5,k5,c5⟩
  case op =>
    rintro c s2 ⟨rfl,P⟩;have l0:=Chain.len P.ch;rw [Bw] at l0;have one:∀s3,SP κ bf le a₀ a₀.size s3->(pendingOf s3).size<=1->Srt le (arrOf s3) 0 a₀.size:=fun s3 P3 h1=>by
      have hc:=P3.ch;have e1:(pendingOf s3).toList.length<=1:=by simpa using h1
      revert hc e1
      generalize (pendingOf s3).toList=l;intro hc e1
      match l,hc,e1 with
      | [],hc,_ =>
        have:0=a₀.size:=hc;intro i j g1 g2 g3;omega
      | [(s0,n,q)],⟨b1,b2,b3,b4,b5⟩,_ =>
        have:0+n=a₀.size:=b5;rw[<-this];exact b3
      |_::_::_,_,e1=>simp at e1
    refine An (Dn (Cb (I:=λy c s3=>c=(none,())/\SP κ bf le a₀ a₀.size s3/\((pendingOf s3).size<=1\/(pendingOf s3).size+y<=a₀.size)) (Q:=λc s3=>c=(none,())/\SP κ bf le a₀ a₀.size s3/\(pendingOf s3).size<=1) ?fs ?ff ⟨rfl,P,.inr #v[]⟩) ?fp)
    case ff =>
      rintro c s3 ⟨hc,P3,z⟩;exact⟨hc,P3,by omega⟩
    case fp =>
      rintro c s3 ⟨rfl,P3,z⟩;exact At (h s3 P3.failed P3.perm (one s3 P3 z))
    case fs =>
      rintro y c s3 _ hy ⟨rfl,P3,z⟩;refine An (Hn ?_);refine q_if (fun g=>At ⟨rfl,P3,g⟩) fun g=>?_;have zz:=P3.perm.size_eq;have go:∀i,i+1 < (pendingOf s3).size->wpS (model prog w) A E s (mergeAt' i) (fun b s4=>b=true/\SP κ bf le a₀ a₀.size s4/\((pendingOf s4).size<=1\/(pendingOf s4).size+(y+1)<=a₀.size)) s3:=fun i hi =>
        zl1 C O (lo:=a₀.size) P3.si hi P3.ch (Ag _) λs4 pd4 I4 z4 ch4 R4=>⟨rfl,⟨I4.kind,I4.failed,I4.perm,by rw[I4.pend];exact ch4,λc hc=>(P3.cut c hc).re R4 #v[] (.inr hc)⟩,by rw[I4.pend];omega⟩
      refine An (Dn (go _ (by
        have g' : ¬ (pendingOf s3).size<=1:=g;generalize (if (pendingOf s3).size - 2 > 0 then Option.map (λx=>x.snd.fst) (pendingOf s3)[(pendingOf s3).size - 2 - 1]? else none)=bf9
        try dsimp only
        split<;>omega)) λb s4 z4=>?_)
      obtain⟨rfl,P4,z5⟩:=z4;refine q_if (λz=>by simp at z) λ_=>?_;exact At ⟨rfl,P4,z5⟩
end
end Tim
end L2
namespace L2
open PySem PySem.Spec PyProof.Rows
open PySem.AutoSeq1 (wpAny_loadPart')
open PySem.SeqAt
noncomputable def lexI:List Int->List Int->Bool
 |[],[]=>false
 |[],_::_=>true
 |_::_,[]=>false
 |a::as,b::bs=>if a=b then lexI as bs else decide (a<b)
theorem zdp:∀xs,lexI xs xs=false
 |[]=>rfl
 |a::as=>by unfold lexI;rw[if_pos rfl];exact zdp as
theorem zey:∀{xs ys zs:List Int},lexI xs ys=true->lexI ys zs=true->lexI xs zs=true
  |[],[],_,h,_=>by cases h
  |[],_::_,[],_,h=>by cases h
  |[],_::_,_::_,_,_=>rfl
  |_::_,[],_,h,_=>by cases h
  |_::_,_::_,[],_,h=>by cases h
  | a::as,b::bs,c::cs,h1,h2=>by
    unfold lexI at h1 h2 ⊢;by_cases e1:a=b
    · subst e1
      rw[if_pos rfl] at h1;by_cases e2:a=c
      · rw[if_pos e2] at h2 ⊢;exact zey h1 h2
      · rw[if_neg e2] at h2 ⊢;exact h2
    · rw [if_neg e1] at h1
      have l1:=Au h1;by_cases e2:b=c
      · subst e2;rw[if_neg e1];exact h1
      · rw [if_neg e2] at h2
        have l2:=Au h2;rw[if_neg #v[]];exact Am #v[]
theorem zjh:∀{xs ys:List Int},lexI xs ys=false->lexI ys xs=false->xs=ys
  |[],[],_,_=>rfl
  |[],_::_,h,_=>by cases h
  |_::_,[],_,h=>by cases h
  | a::as,b::bs,h1,h2=>by
    unfold lexI at h1 h2;by_cases e:a=b
    · subst e
      rw[if_pos rfl] at h1 h2;rw[zjh h1 h2]
    · rw [if_neg e] at h1
      rw[if_neg (λz=>e z.symm)] at h2;have:=of_decide_eq_false h1;have:=of_decide_eq_false h2;omega
theorem zte (l b:Addr) (items items2:Array Value) (n n2:Nat) (dd dd2:Option Addr) (sl sl2:Array (Option Value)) (ns ms:List Int) (h1:IntsAre items.toList ns) (h2:IntsAre items2.toList ms) :
    Meets (Builtin.«tuple.__lt__» ⟨[.ref l,.ref b],[]⟩)
      (fun A R s=>s.heap.get? l=some { cls:=.type "tuple",dict:=dd,data:=.seq items n,slots:=sl }/\s.heap.get? b=some { cls:=.type "tuple",dict:=dd2,data:=.seq items2 n2,slots:=sl2 } /\
        R (.ok (.ret (.bool (lexI ns ms)))) s) :=
  .of_wp fun prog w A R s h=>by
    obtain⟨hp,g,d,tk,os⟩:=s;obtain⟨hl,hb,h⟩:=h;have f2:=AutoSeq1.sub_tuple_tuple;have e1:items.size=ns.length:=by have:=h1.length;simpa using this
    have e2:items2.size=ms.length:=by have:=h2.length;simpa using this
    wp_walk using Cu hl,Cu hb,wpAny_forIn_list _ (fun rest b s'=>b.1=none/\s'=⟨hp,g,d,tk,os⟩/\∃xs ys ns' ms',rest=List.zip xs ys/\IntsAre xs ns'/\IntsAre ys ms'/\ns.length+ms'.length=ns'.length+ms.length /\
      R (.ok (.ret (.bool (lexI ns' ms')))) ⟨hp,g,d,tk,os⟩) _
    case turn =>
      rintro ⟨y,x⟩ rest b s' ⟨hb',rfl,xs,ys,ns',ms',hz,i1,i2,hln,hR⟩;cases i1 with
      |nil=>simp at hz
      | cons a t i1 =>
        cases i2 with
        |nil=>simp at hz
        | cons c u i2 =>
          rw[Bs] at hz;injection hz with hyx hrest;cases hyx;unfold lexI at hR;refine Aa (wpAny_eqBool_int ?_);by_cases q:a=c
          · rw [if_pos q] at hR
            have:(a == c)=true:=by simpa using q
            rw[this]
            wp_walk
            exact⟨rfl,rfl,_,_,_,_,hrest,i1,i2,by simp at hln;omega,hR⟩
          · rw [if_neg q] at hR
            have:(a == c)=false:=by simpa using q
            rw[this];simp only [Fb,Dp];refine Aa (Cv ?_);refine Aa (show wpAny _ _ (compareOp .Lt _ _) _ _ _ from PyProof.Rows.lt_int ?_)
            wp_walk
            exact⟨_,rfl,by simpa using hR⟩
    case fin =>
      rintro ⟨b1,b2⟩ s' ⟨hb',rfl,xs,ys,ns',ms',hz,i1,i2,hln,hR⟩;simp only at hb';subst hb'
      wp_walk
      refine ⟨_,rfl,?_⟩;have:lexI ns' ms'=decide (items.size < items2.size):=by
        rw[e1,e2];cases i1 with
        | nil =>
          cases i2 with
          |nil=>unfold lexI;symm;apply Ay;simp at hln;omega
          |cons c u i2=>unfold lexI;symm;apply Am;simp at hln;omega
        | cons a t i1 =>
          cases i2 with
          |nil=>unfold lexI;symm;apply Ay;simp at hln;omega
          |cons c u i2=>simp at hz
      rw[this] at hR;simpa [Builtin.Tuple.tupleCompareSizes] using hR
    case h =>
      exact⟨rfl,rfl,items.toList,items2.toList,ns,ms,rfl,h1,h2,by omega,by simpa using h⟩
theorem zpc {xs ys zs:List Int} (h:lexI xs zs=true):lexI xs ys=true\/lexI ys zs=true:=by
  cases q:lexI xs ys with
  |true=>exact .inl rfl
  | false =>
    cases q2:lexI ys xs with
    |true=>exact .inr (zey q2 h)
    |false=>rw[zjh q q2] at h;exact .inr h
theorem z7a (kf:Value->List Int):Tim.Ord (fun x y:Keyed=>lexI (kf x.1) (kf y.1)) (fun _ _=>True) (fun x y=>lexI (kf y.1) (kf x.1)=false) where
  tr:=fun {x y z} h1 h2=>by
    cases q:lexI (kf z.1) (kf x.1) with
    |false=>rfl
    | true =>
      rcases zpc (ys:=kf y.1) q with a|a
      · rw[h2] at a;cases a
      · rw[h1] at a;cases a
  tot:=fun x y=>by
    cases q:lexI (kf y.1) (kf x.1) with
    |false=>exact .inl rfl
    | true =>
      right
      cases q2:lexI (kf x.1) (kf y.1) with
      |false=>rfl
      | true =>
        have:=zey q q2;rw[zdp] at this;cases this
  f1:=λ_=>Iff.rfl
  f2:=fun {x y} h=>by
    cases q2:lexI (kf y.1) (kf x.1) with
    |false=>rfl
    | true =>
      have:=zey h q2;rw[zdp] at this;cases this
  irr:=λx=>zdp _
  ltr:=λh1 h2=>zey h1 h2
  nt:=λy h=>zpc h
section
variable {prog:Program}{w:World}{A:Around}{E:Value->Shared->Prop}{s:Shared}{a₀:Array Keyed}
theorem zuj {κ:SortKind}{lt:Keyed->Keyed->Bool}(h:∀(x y:Keyed) (E:Value->Shared->Prop) (Q:Bool->Shared->Prop),x∈a₀.toList->y∈a₀.toList->Q (lt x y) s->wpAny (model prog w) A (keyLt' κ x.1 y.1) Q E s):Tim.Asks prog w A E s κ a₀ lt:=λx y st Q hx hy hk hq=>by
 rw[lt'_eq];refine An (Hn ?_);rw[hk];refine An (wpS_lift (Gc (h x y _ _ hx hy ⟨rfl,?_⟩)));exact At hq
theorem z1z {kf:Value->List Int}(h:∀x∈a₀.toList,∃n t,x.1=.int n t/\kf x.1=[n]):Tim.Asks prog w A E s oneType' a₀ (λx y=>lexI (kf x.1) (kf y.1)):=zuj λx y E Q hx hy hq=>by
 nofun;obtain⟨n,t,e1,e2⟩:=h x hx;obtain⟨m,u,e3,e4⟩:=h y hy;ac_rfl;rw[keyLt'_oneType,e1,e3];refine oneLt_int ?_;have e:lexI (kf x.1) (kf y.1)=decide (n<m):=by
  rw[e2,e4];unfold lexI;by_cases q:n=m
  ·rw[if_pos q];subst q;simp [lexI]
  ·rw[if_neg q]
 rw[<-e];exact hq
theorem eqv_ints:∀ns ms:List Int,PyData.eqvAll (ns.map .int) (ms.map .int)=decide (ns=ms)
  |[],[]=>by simp [PyData.eqvAll]
  |[],_::_=>by simp [PyData.eqvAll]
  |_::_,[]=>by simp [PyData.eqvAll]
  | a::ns,b::ms=>by
    rw[Ah,Ah,PyData.eqvAll,eqv_ints ns ms,PyData.eqv];by_cases h:a=b
    · simp [h]
    · simp [h]
theorem zex {h:Heap}:∀{its:List Value}{ns:List Int},IntsAre its ns->ReadsAll h its (ns.map .int) []
 |_,_,.nil=>.nil
 |_,_,.cons n t r=>.cons (.int n t) (zex r)
theorem zkf {h:Heap}{b:Addr}{its:List Value}{ns:List Int}(q:IsTup h b its.toArray)(r:IntsAre its ns):Reads h (.ref b) (.tuple (ns.map .int)) []:=by
 obtain⟨o,g1,g2,n,g3⟩:=id q;exact .tuple g1 g2 g3 (by simpa using zex r)
theorem zqh (ns:List Int):PyData.canLay0 (.tuple (ns.map .int))=true:=by
 rw[PyData.canLay0];exact canLayAll_ints ns
theorem depth_ints (ns:List Int):PyData.depth (.tuple (ns.map .int))<=1:=by
 rw[PyData.depth,depthAll_ints]
 decide
theorem z0y {b b' : Addr}{its its' : List Value}{ns ns' : List Int}{Q:Bool->Shared->Prop} (hu:A.units+1 < cLine) (q2:IsTup s.heap b its.toArray) (q3:IntsAre its ns) (p2:IsTup s.heap b' its'.toArray) (p3:IntsAre its' ns') (h:Q (decide (ns=ns')) s) :
  wpAny (model prog w) A (eqBool (.ref b) (.ref b')) Q E s:=by
 refine PySem.SeqAt.eqBoolOverData prog w A E s _ _ _ _ [] [] Q (zkf q2 q3) (zkf p2 p3) (zqh ns) (zqh ns') ?_ ?_
 ·have:=depth_ints ns;omega
 ·have e : PyData.eqv (.tuple (ns.map .int)) (.tuple (ns'.map .int)) = decide (ns = ns'):=by rw[PyData.eqv]; exact eqv_ints ns ns'
  rw[e];exact h
theorem z25 {b b' : Addr}{its its' : List Value}{ns ns' : List Int}{Q:Value->Shared->Prop} (hu:A.units < cLine) (q2:IsTup s.heap b its.toArray) (q3:IntsAre its ns) (p2:IsTup s.heap b' its'.toArray) (p3:IntsAre its' ns') (h:Q (.bool (lexI ns ns')) s) :
  wpAny (model prog w) A (compareOp .Lt (.ref b) (.ref b')) Q E s:=by
 nofun;obtain⟨⟨cls,dd,data,sl⟩,ho,hc,n,hd⟩:=id q2;obtain⟨⟨cls2,dd2,data2,sl2⟩,ho2,hc2,n2,hd2⟩:=id p2;ac_rfl;simp only at hc hd hc2 hd2;subst hc hd hc2 hd2;exact richCompare_meets_room (op:=.Lt) ⟨_,ho,rfl⟩ ⟨_,ho2,rfl⟩ F.slot_tuple_lt F.entry_tuple_lt (F.args_tuple_lt_2 _ _) (zte b b' its.toArray its'.toArray n n2 dd dd2 sl sl2 ns ns' (by simpa using q3) (by simpa using p3))
  ⟨ho,ho2,show Value.bool (lexI ns ns')≠Value.notImplemented/\Q (.bool (lexI ns ns')) s from ⟨(λx=>nomatch x),h⟩⟩ hu
structure KeyT (h:Heap) (v:Value) (k:List Int):Prop where
 ex:∃(a b:Addr) (i:Int) (t:Tok) (ns:List Int) (its:List Value) (c:Value),v=.ref a/\k=i::ns/\IsTup h a [.int i t,c].toArray/\c=.ref b/\IsTup h b its.toArray/\IntsAre its ns
theorem z2g {kf:Value->List Int}(hu:A.units+2<cLine)(h:∀x∈a₀.toList,KeyT s.heap x.1 (kf x.1)):Tim.Asks prog w A E s (tuples' true) a₀ (λx y=>lexI (kf x.1) (kf y.1)):=zuj λx y E Q hx hy hq=>by
 nofun;obtain⟨a,b,i,t,ns,its,c,e1,e2,q1,rfl,q2,q3⟩:=(h x hx).ex;obtain⟨a',b',i',t',ns',its',c',f1,f2,p1,rfl,p2,p3⟩:=(h y hy).ex;ac_rfl;rw[e2,f2] at hq;rw[e1,f1];nofun;obtain⟨o,g1,g2,n,g3⟩:=id q1;obtain⟨o',k1,k2,n',k3⟩:=id p1;ac_rfl;refine PySem.W.kat_lt g1 g3 k1 k3 ?_;refine PySem.W.kat_cons (wpAny_eqBool_int ?_);unfold lexI at hq;by_cases z:i=i'
 ·have zz : (i == i') = true:=by simpa using z
  rw[zz];rw[if_pos z] at hq;refine PySem.W.kat_yes (PySem.W.kat_cons (z0y #v[] q2 q3 p2 p3 ?_));by_cases z2:ns=ns'
  ·rw[Am z2];refine PySem.W.kat_yes (PySem.W.kat_nil ?_);subst z2;rw[zdp] at hq;exact hq
  ·rw[Ay z2];refine PySem.W.kat_no ?_;exact PySem.W.kat_one _ _ (z25 #v[] q2 q3 p2 p3 hq)
 ·have zz : (i == i') = false:=by simpa using z
  rw[zz];rw[if_neg z] at hq;refine PySem.W.kat_no ?_;exact oneLt_int hq
end
end L2
namespace L2
open PySem PySem.Spec PyProof.Rows
section
variable {prog:Program}{w:World}{A:Around}{E:Value->Shared->Prop}{s:Shared}{a kS:Addr}{e e1:Nat}{keys:Array Value}{vs:List Value}{P:PySem.Fin->Shared->Prop}
theorem z2m {st:SortSt} (hk:s.heap.get? kS=some (seqObj "list" keys e)) (ha:s.heap.get? a=some (seqObj "list" #[] e1)) (hne:kS≠a) (hz:keys.size<=sizeLine) (hz2:(arrOf st).size<=sizeLine) (hf:failedOf st=none)
  (h:∀h' c,h'.get? a=some (seqObj "list" ((arrOf st).map (·.2)) c)->(∀b o,b≠a->b≠kS->s.heap.get? b=some o->h'.get? b=some o)->P (.done (.ret .none)) { s with heap:=h' }):wpAny (model prog w) A (ksk_tail a false e1 (.ref kS) st) P E s:=by
 have s1:=Cp s.heap kS #v[4,11];have na1:(s.heap.update kS #v[4,11]).get? a=some (seqObj "list" #[] e1):=(s1.2 a hne.symm).trans ha;have s2:=Cp (s.heap.update kS #v[4,11]) a (Obj.mapSeq λ_=>(arrOf st).map (·.2));unfold ksk_tail
 try dsimp only
 refine Aa (listUpdate_at hk rfl ?_ hz (Bk _));refine Aa (Gj ?_);refine Aa (seqEpoch_at na1 rfl ?_);refine Aa (listUpdate_at na1 rfl ?_ (Bk _) (by simp only [Bt,Dq,Array.size_map];omega));rw[hf];simp only [bne_self_eq_false,Bt,Dq];refine Af (h _ _ (get?_update_seq na1 λ_=>(arrOf st).map (·.2)) λb o n1 n2 eb=>?_);exact (s2.2 b n1).trans ((s1.2 b n2).trans eb)
theorem z6a {κ:SortKind}{kf:Value->List Int} (hk:s.heap.get? kS=some (seqObj "list" keys e)) (ha:s.heap.get? a=some (seqObj "list" #[] e1)) (hne:kS≠a) (hl:keys.size=vs.length) (hz:vs.length<=sizeLine)
  (kd:2<=vs.length->∀Q' : SortKind->Shared->Prop,Q' κ s->wpAny (model prog w) A (keyKind' keys) Q' E s)
  (C:Tim.Asks prog w A E s κ (keys.zip vs.toArray) (λx y=>lexI (kf x.1) (kf y.1)))
  (h:∀(r:List Keyed) h' c,r.Perm (keys.toList.zip vs)->r.Pairwise (λx y=>lexI (kf y.1) (kf x.1)=false)->h'.get? a=some (seqObj "list" (r.map (·.2)).toArray c)->(∀b o,b≠a->b≠kS->s.heap.get? b=some o->h'.get? b=some o)->P (.done (.ret .none)) { s with heap:=h' }) :
  wpAny (model prog w) A (ksk_end a false vs.toArray e1 (.ref kS) keys) P E s:=by
 have hzs:(keys.zip vs.toArray).size=vs.length:=by rw[Array.size_zip,hl,Aq,Gz]
 have fin:∀st:SortSt,(arrOf st).Perm (keys.zip vs.toArray)->failedOf st=none->Tim.Srt (λx y=>lexI (kf y.1) (kf x.1)=false) (arrOf st) 0 (keys.zip vs.toArray).size->wpAny (model prog w) A (ksk_tail a false e1 (.ref kS) st) P E s:=λst hp hf hs=>by
  refine z2m hk ha hne #v[] (by rw[hp.size_eq,hzs];exact hz) hf λh' c ea kp=>?_;refine h (arrOf st).toList h' c ?_ (Tim.srt_list (by rw[hp.size_eq];exact hs)) (by rw[ea,<-Array.toList_map,Array.toArray_toList]) kp;rw[<-ksk_zip];exact Hb.mp hp
 unfold ksk_end
 try dsimp only
 simp only [Bt,Dq];by_cases h2:vs.toArray.size<2
 ·rw[if_pos h2,if_pos h2];refine Aa (Af ?_);rw[StateT.run_pure];refine Aa (Af ?_)
  try dsimp only
  refine fin (SortSt.mk' general' (keys.zip vs.toArray) #[] 7 none) (Array.Perm.refl _) rfl λi j _ h3 h4=>?_;rw[Aq] at h2;omega
 ·rw [if_neg h2, if_neg h2];rw [Aq] at h2;refine Aa (kd (by omega) _ ?_);refine Aa (Cj (Tim.q_sort (bf:=fun _ _=>True) (st:=SortSt.mk' κ (keys.zip vs.toArray) #[] 7 none) (Q:=fun _ st'=>(arrOf st').Perm (keys.zip vs.toArray)/\failedOf st'=none/\Tim.Srt (fun x y=>lexI (kf y.1) (kf x.1)=false) (arrOf st') 0 (keys.zip vs.toArray).size)
   C (z7a kf) ⟨rfl,rfl,Array.Perm.refl _,rfl⟩ rfl (λ_ _ _ _ _ _=>trivial) λst' a1 a2 a3=>⟨a2,a1,a3⟩) ?_ λ_ _ e=>e)
  rintro ⟨⟨⟩,st'⟩ s' ⟨rfl,hp,hf,hs⟩
  try dsimp only
  exact fin st' hp hf hs
end
noncomputable abbrev KP:=List Int × W
noncomputable def insK (x:KP):List KP->List KP
 |[]=>[x]
 |y::ys=>if lexI x.1 y.1 then x::y::ys else y::insK x ys
noncomputable def zkh:List KP->List KP
 |[]=>[]
 |x::xs=>insK x (zkh xs)
theorem zg3 (x:KP):∀l,(insK x l).Perm (x::l)
  |[]=>.refl _
  | y::ys=>by
    unfold insK;split
    · exact .refl _
    · exact ((zg3 x ys).cons y).trans (.swap x y ys)
theorem ze0:∀l:List KP,(zkh l).Perm l
 |[]=>.refl _
 |x::xs=>(zg3 x _).trans ((ze0 xs).cons x)
noncomputable abbrev leK (x y:KP):Prop:=lexI y.1 x.1=false
theorem ybg {x y z:KP} (h1:leK x y) (h2:leK y z):leK x z:=by
  unfold leK at *
  cases q:lexI z.1 x.1 with
  |false=>rfl
  | true =>
    rcases zpc (ys:=y.1) q with a|a
    · rw[h2] at a;cases a
    · rw[h1] at a;cases a
theorem zmm {x y:KP} (h:lexI x.1 y.1=true):leK x y:=by
  unfold leK;cases q:lexI y.1 x.1 with
  |false=>rfl
  | true =>
    have:=zey h q;rw[zdp] at this;cases this
theorem zgy {x:KP}:∀{l:List KP},l.Pairwise leK->(insK x l).Pairwise leK
  |[],_=>List.pairwise_singleton _ _
  | y::ys,h=>by
    have hy:=Cq.mp h;unfold insK;split
    · rename_i q
      refine Cq.mpr ⟨λz hz=>?_,h⟩;rcases Ap.mp hz with rfl|hz
      · exact zmm q
      · exact ybg (zmm q) (hy.1 z hz)
    · rename_i q
      refine Cq.mpr ⟨λz hz=>?_,zgy hy.2⟩;rcases Ap.mp ((zg3 x ys).mem_iff.mp hz) with rfl|hz
      · unfold leK;simpa using q
      · exact hy.1 z hz
theorem zdc:∀l:List KP,(zkh l).Pairwise leK
 |[]=>.nil
 |x::xs=>zgy (zdc xs)
theorem ze6:∀{l l' : List KP},l.Perm l'->l.Pairwise leK->l'.Pairwise leK->(∀x∈l,∀y∈l,x.1=y.1->x=y)->l=l'
  |[],l',p,_,_,_=>p.nil_eq
  |x::xs,[],p,_,_,_=>by simpa using p.length_eq
  | x::xs,y::ys,p,h1,h2,hu=>by
    have a1:=Cq.mp h1;have a2:=Cq.mp h2;have hy:y∈x::xs:=p.mem_iff.mpr Ao;have hx:x∈y::ys:=p.mem_iff.mp Ao;have exy:x=y:=by
      rcases Ap.mp hy with e|hy'
      · exact e.symm
      · rcases Ap.mp hx with e | hx'
        · exact e
        · exact hu x Ao y hy (zjh (show lexI x.1 y.1=false from a2.1 x hx') (show lexI y.1 x.1=false from a1.1 y hy'))
    subst exy;have p':=(List.perm_cons x).mp p;rw[ze6 p' a1.2 a2.2 λu hu' v hv=>hu u (Aj _ hu') v (Aj _ hv)]
inductive All2 {α β:Type} (R:α->β->Prop):List α->List β->Prop where
 |nil:All2 R [] []
 |cons {a b as bs} (h:R a b) (t:All2 R as bs):All2 R (a::as) (b::bs)
theorem All2.perm {α β:Type}{R:α->β->Prop}{bs bs' : List β} (p:bs.Perm bs'):∀{as:List α},All2 R as bs->∃as',as.Perm as'/\All2 R as' bs':=by
  induction p with
  |nil=>exact λh=>⟨_,.refl _,h⟩
  | cons x p ih =>
    intro as h;cases h with
    | cons h t =>
      obtain⟨as',q1,q2⟩:=ih t;exact⟨_,q1.cons _,.cons h q2⟩
  | swap x y l =>
    intro as h;cases h with
    | cons h1 t =>
      cases t with
      |cons h2 t=>exact⟨_,.swap _ _ _,.cons h2 (.cons h1 t)⟩
  | trans p1 p2 ih1 ih2 =>
    intro as h;obtain⟨as1,q1,h1⟩:=ih1 h;obtain⟨as2,q2,h2⟩:=ih2 h1;exact⟨as2,q1.trans q2,h2⟩
theorem All2.pair {α β:Type}{R:α->β->Prop}{P:α->α->Prop}{Q:β->β->Prop} (hPQ:∀a b a' b',R a b->R a' b'->Q b b'->P a a'):∀{as:List α}{bs:List β},All2 R as bs->bs.Pairwise Q->as.Pairwise P
  |_,_,.nil,_=>.nil
  | _,_,.cons h t,hp=>by
    have hc:=Cq.mp hp;refine Cq.mpr ⟨fun a' ha'=>?_,All2.pair hPQ t hc.2⟩;have:∀{as:List α}{bs:List β},All2 R as bs->a'∈as->∃b',b'∈bs/\R a' b':=by
      intro as bs h
      induction h with
      |nil=>intro z;cases z
      | cons h t ih =>
        intro z;rcases Ap.mp z with rfl|z
        · exact⟨_,Ao,h⟩
        · obtain ⟨b', q1, q2⟩ := ih z
          exact⟨b',Aj _ q1,q2⟩
    obtain⟨b',hb',hr⟩:=this t ha';exact hPQ _ _ _ _ h hr (hc.1 b' hb')
noncomputable def zo6:List W->Option (List Int)
 |[]=>some []
 |.int i::ws=>(zo6 ws).bind λis=>some (i::is)
 |_=>none
noncomputable def kI:W->Option (List Int)
 |.int i=>some [i]
 |_=>none
noncomputable def kT:W->Option (List Int)
 |.tup [.int i,.tup xs]=>(zo6 xs).bind λis=>some (i::is)
 |_=>none
noncomputable def mapO {α β:Type} (f:α->Option β):List α->Option (List β)
 |[]=>some []
 |a::as=>(f a).bind λb=>(mapO f as).bind λbs=>some (b::bs)
noncomputable def zb0:List (List Int)->Bool
 |[]=>true
 |x::xs=>xs.all (λy=>decide (x≠y)) && zb0 xs
theorem zg4:∀{l:List (List Int)},zb0 l=true->l.Nodup
  |[],_=>Gf
  | x::xs,h=>by
    unfold zb0 at h;rw[Ad] at h;refine Bx.mpr ⟨λz=>?_,zg4 h.2⟩;have:=Bd.mp h.1 x z;simp at this
noncomputable def zo3 (ks ws:List W):Option (List W):=((mapO kI ks).orElse λ_=>mapO kT ks).bind λkl=>if zb0 kl && decide (kl.length=ws.length) then some ((zkh (kl.zip ws)).map (·.2)) else none
noncomputable def Cx.inn (X:Cx):Cx:={ X with A:=X.A.in1.in1 }
section
variable {X:Cx}{pins:List (Addr × Obj)}{σ:St}{H:Hp}{s:Shared}
theorem Cx.Ok.inn (o:X.Ok):X.inn.Ok:=⟨o.mod,o.kind,o.glob,o.blt,o.above,o.inj,o.has,o.cab,o.hd,o.frames,o.stk,o.exf,o.bs,o.bsz,o.noex,o.exfs,o.funs,o.frf⟩
theorem Cx.Ok.out (o:X.inn.Ok):X.Ok:=⟨o.mod,o.kind,o.glob,o.blt,o.above,o.inj,o.has,o.cab,o.hd,o.frames,o.stk,o.exf,o.bs,o.bsz,o.noex,o.exfs,o.funs,o.frf⟩
theorem Inv.inn (I:Inv X pins σ H s):Inv X.inn pins σ H s:=⟨I.ok.inn,I.os,I.bare,I.base,I.loc,I.cell,I.free,I.freeC,I.pin,I.hok,I.len⟩
theorem Inv.out (I:Inv X.inn pins σ H s):Inv X pins σ H s:=⟨I.ok.out,I.os,I.bare,I.base,I.loc,I.cell,I.free,I.freeC,I.pin,I.hok,I.len⟩
theorem Inv.adopt {h' : Heap}{t' : Nat}{ch:List Addr}{T:Addr}{o:HO} (I:Inv X pins σ H s) (k:∀b o,b ∉ ch->s.heap.get? b=some o->h'.get? b=some o) (hch:∀b∈ch,FpOk X pins H b) (hT:T∈ch)
  (new:ObjOk X.prog X.w (upd H T o) h' T o):Inv X pins σ (upd H T o) { s with heap:=h',toks:=t' }:=by
 have hn:H T=none:=(hch T hT).1;have nch:∀b u,H b=some u->b ∉ ch:=λb u e hb=>by rw[(hch b hb).1] at e;exact noSome e
 refine I.step (g':=s.gens) (d':=s.drawn) (ch:=ch) (λb hb=>⟨(hch b hb).2.2.2.1,(hch b hb).2.1,(hch b hb).2.2.2.2.1,(hch b hb).2.2.2.2.2⟩) (λb o _ _ hc e _=>k b o hc e) (λb o _ _ hc e _=>⟨o.slots,k b o hc e⟩) (λb u hc e n=>by rw[upd_ne (λz=>hc (by rw[z];exact hT))];exact n)
  (λb u hc e=>⟨u,k b u hc e⟩) (λb xs e=>by rw[upd_ne (zad e hn)];exact e) (λb u xs e=>by rw[upd_ne (zad e hn)];exact e) (λb ps e=>⟨#[],by rw[upd_ne (zad e hn),e];simp⟩) (λm hm=>?_) (λb u e=>?_) I.bare
 ·obtain⟨o,es,ep,ho,r⟩:=hm;exact⟨o,es,ep,k _ o (λz=>(hch _ z).2.1 rfl) ho,r⟩
 ·by_cases hb : b = T
  ·subst hb;rw[upd_same] at e;obtain rfl:=sI e;exact new
  ·rw[upd_ne hb] at e;refine (I.hok b u e).stay (λc v hc q=>k c v ?_ q) (λc q=>by rw[upd_ne (zad q hn)];exact q) λc xs q=>by rw[upd_ne (zad q hn)];exact q
   rcases hc with z|z
   ·rw[z];exact nch b u e
   ·exact nch c _ z
structure KCall (X:Cx) (f:Value) (Φ:W->Option W) (Al:List (Addr × Obj)->Hp->Prop):Prop where
 mono:∀{pins pins' : List (Addr × Obj)}{F F' : Hp},Al pins F->(∀p∈pins,p∈pins')->Same F F'->Al pins' F'
 run:∀(pins:List (Addr × Obj)) (s:Shared) (σ:St) (H F:Hp) (pr:Prt) (en:En) (w k:W) (v:V) (u:Value),Al pins F->Inv X pins σ H s->Rel X.K F pr en σ H->Rep X.K F w v->RelV v u->Φ w=some k ->
  wpAny #v[3,7] X.A (call f [u]) (λu' s'=>∃v' F' H',Inv X pins σ H' s'/\Same F F'/\Rel X.K F' pr en σ H'/\RelV v' u'/\Rep X.K F' k v') (λ_ _=>False) s
structure Apart (X:Cx) (pins:List (Addr × Obj)) (b:Addr):Prop where
 l:b≠X.env.locals
 f:b ∉ X.fs
 x:b∈X.ex\/X.s₀.heap.objs.size<=b
 c:∀x c,X.env.cells.lookup x=some c->c≠b
 p:∀p∈X.pn++pins,p.1≠b
theorem Apart.fp {b:Addr}(a:Apart X pins b)(h:H b=none):FpOk X pins H b:=⟨h,a.l,a.f,a.x,a.c,a.p⟩
theorem FpOk.apart {b:Addr}(h:FpOk X pins H b):Apart X pins b:=⟨h.2.1,h.2.2.1,h.2.2.2.1,h.2.2.2.2.1,h.2.2.2.2.2⟩
theorem zfm {α β:Type}{f:α->Option β}:∀{as:List α}{bs:List β}{i:Nat}{a:α},mapO f as=some bs->as[i]?=some a->∃b,f a=some b/\bs[i]?=some b
  |[],_,_,_,_,h=>by simp at h
  | x::xs,bs,i,a,e,h=>by
    obtain⟨b,h1,e⟩:=bS e;obtain⟨bs',h2,e⟩:=bS e;obtain rfl:=sI e;cases i with
    |zero=>simp at h;subst h;exact⟨b,h1,rfl⟩
    | succ i =>
      obtain⟨c,q1,q2⟩:=zfm (i:=i) h2 (by simpa using h);exact⟨c,q1,by simpa using q2⟩
theorem zft {α β:Type}{f:α->Option β}:∀{as:List α}{bs:List β},mapO f as=some bs->bs.length=as.length
  |[],_,e=>by obtain rfl:=sI e;rfl
  | x::xs,bs,e=>by
    obtain⟨b,h1,e⟩:=bS e;obtain⟨bs',h2,e⟩:=bS e;obtain rfl:=sI e;exact congrArg (· + 1) (zft h2)
theorem zzq {f:Value}{Φ:W->Option W}{Al:List (Addr × Obj)->Hp->Prop} (KC:KCall X f Φ Al) {F:Hp}{pr:Prt}{en:En}{a kS:Addr}{e1:Nat}{vs:List Value}{vvs:List V}{ws ks:List W}{P:PySem.Fin->Shared->Prop}{E:Value->Shared->Prop}
  (I:Inv X ((kS,seqObj "list" #[] 0)::(a,seqObj "list" #[] e1)::pins) σ H s) (al:Al pins F) (R:Rel X.K F pr en σ H) (rv:Vals vvs vs) (rw' : Reps X.K F ws vvs) (hk:mapO Φ ws=some ks) (hz:vs.length<=sizeLine)
  (ap:Apart X ((a,seqObj "list" #[] e1)::pins) kS)
  (fin:∀s' H' F' keys e kvs,Inv X ((kS,seqObj "list" keys e)::(a,seqObj "list" #[] e1)::pins) σ H' s'->Same F F'->Rel X.K F' pr en σ H'->Vals kvs keys.toList->Reps X.K F' ks kvs->wpAny #v[3,7] X.A (ksk_end a false vs.toArray e1 (.ref kS) keys) P E s') :
  wpAny #v[3,7] X.A (ksk_rest a f false vs.toArray e1 (.ref kS)) P E s:=by
 have lw:ws.length=vs.length:=by rw[rw'.length,rv.length]
 have lk:ks.length=vs.length:=by rw[zft hk,lw]
 unfold ksk_rest;refine Aa (Cv ?_);rw[List.forIn_toArray];refine Aa (ksk_fold (λi s'=>∃H' F' keys e kvs,Inv X ((kS,seqObj "list" keys e)::(a,seqObj "list" #[] e1)::pins) σ H' s'/\Same F F'/\Rel X.K F' pr en σ H'/\Vals kvs keys.toList/\Reps X.K F' (ks.take i) kvs) vs 0 s
  ⟨H,F,#[],0,[],I,.refl F,R,.nil,.nil⟩ ?step ?done)
 case step =>
  rintro j x s' hx ⟨H',F',keys,e,kvs,I',s1,R',rk,rp⟩;simp only [Cf] at rp ⊢;have hj:j<vs.length:=(Ak.mp hx).1;obtain⟨w,hw⟩ : ∃w,ws[j]?=some w:=⟨_,Ae #v[]⟩;nofun;obtain⟨k,hk1,hk2⟩:=zfm hk hw;obtain⟨v,hv,rp1⟩:=rw'.get hw;obtain⟨u,hu,ru⟩:=rv.get hv;ac_rfl;rw[hx] at hu;obtain rfl:=sI hu;have zk:keys.size<=vs.length:=by
   have a1:kvs.length=keys.size:=rk.length.trans Bw;have a2:min j ks.length=kvs.length:=by rw[<-Dy];exact rp.length
   omega
  refine Aa (Gc (Cj (KC.run _ s' σ H' F' pr en w k v x (KC.mono al (λp hp=>Aj _ (Aj _ hp)) s1) I' R' (rp1.mono s1) ru hk1) (λu' s2 he=>?_) λ_ _ hF=>hF.elim));nofun;obtain⟨v',F2,H2,I2,s2',R2,ru',rp2⟩:=he;obtain⟨g1,g2,_,_,_⟩:=I2.pin (kS,seqObj "list" keys e) (Ax _ Ao);ac_rfl
  try dsimp only
  refine Aa (listUpdate_at g1 rfl ?_ #v[] (Ci (Nat.le_of_eq (Array.size_push ..)) #v[]));have sb:=Cp s2.heap kS (Obj.mapSeq (·.push u'));obtain⟨c2,hc2⟩ : ∃c2,(s2.heap.update kS (Obj.mapSeq (·.push u'))).get? kS=some (seqObj "list" (keys.push u') c2):=⟨_,get?_update_seq g1 (·.push u')⟩;have I3:Inv X ((a,seqObj "list" #[] e1)::pins) σ H2 s2:=I2.pins_of λp hp=>I2.pin p (Ax _ (Aj _ hp));have I4:Inv X ((a,seqObj "list" #[] e1)::pins) σ H2 { s2 with heap:=s2.heap.update kS (Obj.mapSeq (·.push u')) }:=I3.turned (t':=s2.toks) (it:=kS) (λb o hb eb=>(sb.2 b hb).trans eb) g2 ap.l ap.x ap.c ap.p;refine Af ⟨rfl,H2,F2,keys.push u',c2,kvs++[v'],?_,s1.trans s2',R2,?_,?_⟩
  ·refine I4.pins_of λp hp => ?_;rcases Ap.mp hp with rfl|hp
   ·exact⟨hc2,g2,ap.l,ap.f,λv z=>by cases z⟩
   ·exact I4.pin p (Ax _ hp)
  ·rw[Dh];exact Vals.append rk (.cons ru' .nil)
  ·rw[List.take_add_one,hk2];exact (rp.mono s2').append (.cons rp2 .nil)
 case done =>
  rintro s' ⟨H',F',keys,e,kvs,I',s1,R',rk,rp⟩;rw[Cf,Ec #v[]] at rp;obtain⟨g1,_⟩:=I'.pin (kS,seqObj "list" keys e) (Ax _ Ao)
  try dsimp only
  refine Aa (listItems_at g1 rfl ?_);exact fin s' H' F' keys e kvs I' s1 R' rk rp
end
noncomputable def intV:V->Option Int
 |.int j=>some j
 |_=>none
noncomputable def kfV (H:Hp):Value->List Int
  |.int n _=>[n]
  | .ref a=>match H a with
    | some (.tup [.int i,.ref b])=>(match H b with
      |some (.tup vs)=>i::vs.filterMap intV
      |_=>[])
    |_=>[]
  |_=>[]
theorem zgs:∀is:List Int,(is.map V.int).filterMap intV=is
 |[]=>rfl
 |i::is=>by rw[Ah,Gy];show i::_=_;rw[zgs is]
theorem zif {K:PySem.W.Frag}{F:Hp}:∀{ws:List W}{is:List Int}{vs:List V},zo6 ws=some is->Reps K F ws vs->vs=is.map V.int
  |[],_,_,e,r=>by obtain rfl:=sI e;cases r;rfl
  | w::ws,is,vs,e,r=>by
    cases w with
    | int i =>
      obtain⟨is',h,e⟩:=bS (show (zo6 ws).bind _=_ from e);obtain rfl:=sI e;cases r with
      | cons h1 r =>
        cases h1;rw[zif h r];rfl
    |_=>exact noSome e
theorem ztz {is:List Int}{its:List Value} (h:Vals (is.map V.int) its):IntsAre its is:=by
  induction is generalizing its with
  |nil=>cases h;exact .nil
  | cons i is ih =>
    cases h with
    | cons h1 t =>
      obtain⟨t1,rfl⟩:=h1;exact .cons i t1 (ih t)
section
variable {X:Cx}{pins:List (Addr × Obj)}{σ:St}{H F:Hp}{s:Shared}
theorem zx8 {k:W}{kl:List Int}{v:V}{u:Value} (e:kI k=some kl) (r:Rep X.K F k v) (ru:RelV v u):(∃n t,u=.int n t/\kfV H u=[n])/\kfV H u=kl:=by
  cases k with
  | int i =>
    obtain rfl:=sI e;cases r;obtain⟨t,rfl⟩:=ru;exact⟨⟨i,t,rfl,rfl⟩,rfl⟩
  |_=>exact noSome e
theorem zxe (I:Inv X pins σ H s) (sm:Same F H) {k:W}{kl:List Int}{v:V}{u:Value} (e:kT k=some kl) (r:Rep X.K F k v) (ru:RelV v u):KeyT s.heap u kl/\kfV H u=kl:=by
  unfold kT at e;split at e
  · rename_i i xs
    obtain⟨is,hi,e⟩:=bS e;obtain rfl:=sI e;cases r with
    | @tup ws a vs h rs =>
      cases rs with
      | @cons _ v1 _ vs1 h1 rs =>
        cases h1;cases rs with
        | @cons _ v2 _ vs2 h2 rs =>
          cases rs;cases h2 with
          | @tup _ b us hb rb =>
            have eu:=zif hi rb;subst eu;cases (show u=Value.ref a from ru);nofun;obtain⟨its,r1,t1,_⟩:=I.tuple (.inl (.inl (sm _ _ h)));obtain⟨its2,r2,t2,_⟩:=I.tuple (.inl (.inl (sm _ _ hb)));ac_rfl;cases r1 with
            | cons q1 r1 =>
              cases r1 with
              | cons q2 r1 =>
                cases r1;obtain⟨t,rfl⟩:=q1;cases (show _=Value.ref b from q2);refine⟨⟨a,b,i,t,is,its2,.ref b,rfl,rfl,t1,rfl,t2,ztz r2⟩,?_⟩;show (match H a with|some (.tup [.int i,.ref b])=>_|_=>_)=_;rw[sm _ _ h];show (match H b with|some (.tup vs)=>i::vs.filterMap intV|_=>[])=_;rw[sm _ _ hb];show i::_=_;rw[zgs]
  · exact noSome e
theorem z2i {keys:Array Value}{vs:List Value}{ks:List W}{kvs:List V}{kl:List (List Int)}{A:Around}{E:Value->Shared->Prop} (I:Inv X pins σ H s) (sm:Same F H) (hu:A.units+2 < cLine) (rk:Vals kvs keys.toList) (rp:Reps X.K F ks kvs) (hkl:((mapO kI ks).orElse fun _=>mapO kT ks)=some kl) (hl:keys.size=vs.length) :
    ∃κ:SortKind,(2<=vs.length->∀Q' : SortKind->Shared->Prop,Q' κ s->wpAny #v[3,7] A (keyKind' keys) Q' E s)/\Tim.Asks X.prog X.w A E s κ (keys.zip vs.toArray) (λx y=>lexI (kfV H x.1) (kfV H y.1))/\keys.toList.map (kfV H)=kl:=by
  have lk:ks.length=keys.size:=by rw[rp.length,rk.length,Bw]
  have mem:∀x∈(keys.zip vs.toArray).toList,∃i,keys.toList[i]?=some x.1:=fun x hx=>by
    rw[ksk_zip] at hx;obtain⟨a,b⟩:=x;have:=(Ei hx).1;obtain⟨i,hi,e⟩:=Dr.mp this;exact⟨i,by rw[Ae hi,e]⟩
  have back:∀(f:W->Option (List Int)),mapO f ks=some kl->(∀(k:W) (l:List Int) (v:V) (u:Value),f k=some l->Rep X.K F k v->RelV v u->kfV H u=l)->keys.toList.map (kfV H)=kl:=fun f hf hk=>by
    apply Dg;intro i;rw[Ai];by_cases hi:i<keys.size
    · obtain ⟨k, ek⟩ : ∃ k, ks[i]? = some k := ⟨_, Ae (by omega)⟩
      nofun;obtain⟨l,e1,e2⟩:=zfm hf ek;obtain⟨v,ev,rv⟩:=rp.get ek;obtain⟨u,eu,ru⟩:=rk.get ev;ac_rfl;rw[eu,e2];exact congrArg some (hk k l v u e1 rv ru)
    · rw[Co (by simpa using hi),Co (by rw[zft hf];omega)];rfl
  have at' : ∀(f:W->Option (List Int)),mapO f ks=some kl->∀(i:Nat) (u:Value),keys.toList[i]?=some u->∃k l v,f k=some l/\Rep X.K F k v/\RelV v u:=fun f hf i u hu=>by
    have hi:i<keys.size:=by have:=(Ak.mp hu).1;simpa using this
    obtain⟨k,ek⟩ : ∃k,ks[i]?=some k:=⟨_,Ae #v[]⟩;nofun;obtain⟨l,e1,e2⟩:=zfm hf ek;obtain⟨v,ev,rv⟩:=rp.get ek;obtain⟨u',eu,ru⟩:=rk.get ev;ac_rfl;rw[hu] at eu;obtain rfl:=sI eu;exact⟨k,l,v,e1,rv,ru⟩
  cases q:mapO kI ks with
  | some kl' =>
    rw [q] at hkl;cases (show some kl'=some kl from hkl);have all:∀(i:Nat) (u:Value),keys.toList[i]?=some u->∃n t,u=.int n t/\kfV H u=[n]:=fun i u hu=>by
      nofun;obtain⟨k,l,v,e1,rv,ru⟩:=at' kI q i u hu;ac_rfl;exact (zx8 (H:=H) e1 rv ru).1
    refine⟨oneType',λh2 Q' hq=>?_,z1z λx hx=>?_,back kI q λk l v u e1 rv ru=>(zx8 (H:=H) e1 rv ru).2⟩
    · have ia:=intsAre_map keys.toList fun v hv=>by
        nofun;obtain⟨i,hi,e⟩:=Dr.mp hv;obtain⟨n,t,h,_⟩:=all i v (by rw[Ae hi,e]);ac_rfl;exact⟨n,t,h⟩
      rw[ksk_kind ia #v[]];exact Af hq
    · obtain ⟨i, hi⟩ := mem x hx
      exact all i x.1 hi
  | none =>
    rw [q] at hkl;have hkl:mapO kT ks=some kl:=hkl;have all:∀(i:Nat) (u:Value),keys.toList[i]?=some u->KeyT s.heap u (kfV H u):=fun i u hu=>by
      nofun;obtain⟨k,l,v,e1,rv,ru⟩:=at' kT hkl i u hu;obtain⟨g1,g2⟩:=zxe I sm e1 rv ru;ac_rfl;rw[g2];exact g1
    refine⟨tuples' true,λh2 Q' hq=>?_,z2g hu λx hx=>?_,back kT hkl λk l v u e1 rv ru=>(zxe I sm e1 rv ru).2⟩
    · have kt:∃fs:List Value,PySem.W.KatTups s.heap keys.toList fs/\fs.length=keys.size/\∀v∈fs,∃n t,v=.int n t:=by
        have gen:∀l:List Value,(∀(i:Nat) (u:Value),l[i]?=some u->KeyT s.heap u (kfV H u))->∃fs:List Value,PySem.W.KatTups s.heap l fs/\fs.length=l.length/\∀v∈fs,∃n t,v=.int n t:=by
          intro l
          induction l with
          |nil=>exact λ_=>⟨[],trivial,rfl,λv hv=>by simp at hv⟩
          | cons u l ih =>
            intro h;nofun;obtain⟨fs,g1,g2,g3⟩:=ih λi v hv=>h (i+1) v (by simpa using hv);obtain⟨a,b,i,t,ns,its,c,e1,e2,q1,rfl,q2,q3⟩:=(h 0 u rfl).ex;obtain⟨o,k1,k2,n,k3⟩:=id q1;ac_rfl;subst e1;exact⟨.int i t::fs,PySem.W.KatTups.cons k1 k2 k3 rfl g1,by simpa using g2,λv hv=>(Ap.mp hv).elim (λz=>⟨i,t,z⟩) (g3 v)⟩
        nofun;obtain⟨fs,g1,g2,g3⟩:=gen keys.toList all;ac_rfl;exact⟨fs,g1,by simpa using g2,g3⟩
      refine aG fun _ qG=>?_;obtain ⟨fs,g1,g2,g3⟩:=kt;refine qG ?_;clear qG;have:=PySem.W.kat_kind (M:=model X.prog X.w) (A:=A) (E:=E) (s:=s) (T:=.type "int") (Q:=Q') g1 (by omega) (fun v hv=>by
        obtain⟨n,t,rfl⟩:=g3 v hv;exact .now) rfl hq
      rw[Array.toArray_toList] at this;exact this
    · obtain ⟨i, hi⟩ := mem x hx
      exact all i x.1 hi
end
section
variable {X:Cx}{pins:List (Addr × Obj)}{σ:St}{H F:Hp}{s:Shared}{pr:Prt}{en:En}
theorem zxp {α:Type} [DecidableEq α] {β:Type}:∀{kl:List α}{ws:List β},kl.Nodup->∀x∈kl.zip ws,∀y∈kl.zip ws,x.1=y.1->x=y
  |[],_,_,x,hx,_,_,_=>by simp at hx
  |_::_,[],_,x,hx,_,_,_=>by simp at hx
  | k::kl,w::ws,nd,x,hx,y,hy,e=>by
    have n:=Bx.mp nd;rw[Bs] at hx hy;rcases Ap.mp hx with rfl|hx
    · rcases Ap.mp hy with rfl | hy
      · rfl
      · have := (Ei (a := y.1) (b := y.2) hy).1
        exact absurd (by rw[<-e] at this;exact this) n.1
    · rcases Ap.mp hy with rfl | hy
      · have := (Ei (a := x.1) (b := x.2) hx).1
        exact absurd (by rw[e] at this;exact this) n.1
      · exact zxp n.2 x hx y hy e
theorem zqn {K:PySem.W.Frag}{F:Hp}{kf:Value->List Int}:∀{ku:List Value}{ws:List W}{vvs:List V}{vs:List Value},Vals vvs vs->Reps K F ws vvs->All2 (λ(z:KP) (x:Keyed)=>kf x.1=z.1/\∃v,RelV v x.2/\Rep K F z.2 v) ((ku.map kf).zip ws) (ku.zip vs)
 |[],_,_,_,_,_=>by simp;exact .nil
 |k::ku,_,_,_,.nil,.nil=>by simp;exact .nil
 |k::ku,_,_,_,.cons r rv,.cons h hr=>.cons ⟨rfl,_,r,h⟩ (zqn rv hr)
theorem zq9 {K:PySem.W.Frag}{F:Hp}{kf:Value->List Int}:∀{zs:List KP}{r:List Keyed},All2 (fun (z:KP) (x:Keyed)=>kf x.1=z.1/\∃v,RelV v x.2/\Rep K F z.2 v) zs r->∃vs,Vals vs (r.map (·.2))/\Reps K F (zs.map (·.2)) vs
  |_,_,.nil=>⟨[],.nil,.nil⟩
  | _,_,.cons ⟨_,v,h1,h2⟩ t=>by
    obtain⟨vs,a,b⟩:=zq9 t;exact⟨v::vs,.cons h1 a,.cons h2 b⟩
theorem zij {q l:Addr}{Φ:W->Option W}{Al:List (Addr × Obj)->Hp->Prop}{vvs:List V}{ws ks out:List W}{Q:VK}{E:Value->Shared->Prop} (KC:KCall X.inn (.ref q) Φ Al) (I:Inv X pins σ H s) (al:Al pins F) (R:Rel X.K F pr en σ H) (hl:SqL X.K H l vvs) (rws:Reps X.K F ws vvs)
  (hk:mapO Φ ws=some ks) (hs:zo3 ks ws=some out) (hu:X.A.units+4<cLine) (h:∀F' H' v,Same F F'->Rel X.K F' pr en σ H'->Res X.K F' H' pr en σ (.lst out,true) v->Q v H') :
  wpAny #v[3,7] X.A (call (.builtin "sorted") [.ref l] [(Str.ofString "key",.ref q)]) (EP X pins σ Q) E s:=by
 nofun;obtain⟨vs,rv,pl,hz⟩:=I.list hl;ac_rfl;have lv:vvs.length=vs.length:=rv.length;have hz' : vs.length<=sizeLine:=by omega
 have il:s.heap.IsList l vs.toArray:=by
  nofun;obtain⟨o,n,g1,g2,g3,g4⟩:=pl;ac_rfl;exact⟨o,g1,g2,_,g4⟩
 have lw:ws.length=vs.length:=by rw[rws.length,lv]
 have lk:ks.length=vs.length:=by rw[zft hk,lw]
 refine call_function_entry_kw kind_sorted plain_sorted entry_sorted (ksk_s1 _ _) ?_;unfold Builtin.«sorted»;refine Aa (m:=checkCount "sorted" 1 1 _) (Af ?_);refine Aa (collect_list il ?_ hz');refine Aa (wpAny_newList ?_ hz');have hsz:((s.heap.push #v[7,9]).update s.heap.objs.size (Obj.mapSeq (·++vs.toArray))).objs.size=s.heap.objs.size+1:=by
  rw[Heap.size_update,size_push']
 have hoL:(((s.heap.push #v[7,9]).update s.heap.objs.size (Obj.mapSeq (·++vs.toArray))).push #v[9,11]).get? #v[8,9]=some #v[9,11]:=by
  rw[<-hsz];exact As _ rfl
 have keep:∀b o,s.heap.get? b=some o->(((s.heap.push #v[7,9]).update s.heap.objs.size (Obj.mapSeq (·++vs.toArray))).push #v[9,11]).get? b=some o:=λb o q=>by
  have hlt:b<s.heap.objs.size:=Ar q;rw[Heap.get?_push_ne _ _ _ (by rw[hsz];exact Be (Hd hlt)),Heap.get?_update_ne _ _ _ _ (Be hlt),Heap.get?_push_ne _ _ _ (Be hlt)];exact q
 have hsz3:(((s.heap.push #v[7,9]).update s.heap.objs.size (Obj.mapSeq (·++vs.toArray))).push #v[9,11]).objs.size=s.heap.objs.size+2:=by rw[size_push',hsz]
 show wpAny _ _ _ _ _ { s with heap:=((s.heap.push #v[7,9]).update s.heap.objs.size (Obj.mapSeq (·++vs.toArray))).push #v[9,11] };rw[hsz];generalize ((s.heap.push #v[7,9]).update s.heap.objs.size (Obj.mapSeq (·++vs.toArray))).push #v[9,11]=h3 at hoL keep hsz3 ⊢;obtain⟨a,ea⟩ : ∃a,a=s.heap.objs.size+1:=⟨_,rfl⟩;rw[<-ea] at hoL ⊢;refine Aa (Cr (wpAny_call_entry_kw slot_list_sort ⟨_,hoL,rfl⟩ entry_list_sort ?body (ksk_l1 _ _)))
 case body =>
  show wpAny #v[3,7] X.A.in1.in1 (Builtin.«list.sort» ⟨[.ref a],[(Str.ofString "key",.ref q)]⟩) _ _ _;rw[ksk_t1];have ha:a<h3.objs.size:=by omega
  have s1:=Cp h3 a #v[4,11];obtain⟨e1,ho1⟩ : ∃e1,(h3.update a #v[4,11]).get? a=some (seqObj "list" #[] e1):=⟨_,get?_update_seq hoL λ_=>#[]⟩;unfold ksk_tree;refine Aa (listItems_at hoL rfl ?_);refine Aa (listUpdate_at hoL rfl ?_ (by rw[Aq];omega) (Bk _));refine Aa (seqEpoch_at ho1 rfl ?_);refine Aa (wpAny_newTuple ?_ hz');refine Aa (wpAny_newList ?_ (Bk _));refine Cr ?_;have hz4:#v[5,7].objs.size=s.heap.objs.size+3:=by rw[size_push',Heap.size_update,hsz3]
  show wpAny _ _ (ksk_rest a (.ref q) false vs.toArray e1 (.ref #v[5,7].objs.size)) _ _ { s with heap:=#v[5,7].push #v[7,9] };obtain⟨kS,ek⟩ : ∃kS,kS=#v[5,7].objs.size:=⟨_,rfl⟩;rw[<-ek] at hz4 ⊢;have kp6:∀b o,s.heap.get? b=some o->(#v[5,7].push #v[7,9]).get? b=some o:=λb o eb=>by
   refine Ac _ (Ac _ ?_);have hlt:b<s.heap.objs.size:=Ar eb;exact (s1.2 b (Be (by rw[ea];exact Hd hlt))).trans (keep b o eb)
  have ga:(#v[5,7].push #v[7,9]).get? a=some (seqObj "list" #[] e1):=Ac _ (Ac _ ho1);have gk:(#v[5,7].push #v[7,9]).get? kS=some #v[7,9]:=by rw[ek];exact As _ rfl
  generalize #v[5,7].push #v[7,9]=h6 at kp6 ga gk ⊢;have na:H a=none:=I.hok.fresh #v[];have nk:H kS=none:=I.hok.fresh #v[];have pa:Apart X pins a:=(I.fpOk (H':=H) #v[] na).apart;have pk:Apart X pins kS:=(I.fpOk (H':=H) #v[] nk).apart;have hak:kS≠a:=by omega
  have pk' : Apart X ((a,seqObj "list" #[] e1)::pins) kS:=⟨pk.l,pk.f,pk.x,pk.c,λp hp=>by
   rcases Bj.mp hp with z|z
   ·exact pk.p p (List.mem_append_left _ z)
   ·rcases Ap.mp z with rfl|z
    ·exact hak.symm
    ·exact pk.p p (Ax _ z)⟩
  have I6:Inv X pins σ H { s with heap:=h6 }:=I.kept (t':=s.toks) kp6;have I7:Inv X ((kS,seqObj "list" #[] 0)::(a,seqObj "list" #[] e1)::pins) σ H { s with heap:=h6 }:=I6.pins_of λp hp=>by
   rcases Ap.mp hp with rfl|hp
   ·exact⟨gk,nk,pk.l,pk.f,λv z=>by cases z⟩
   ·rcases Ap.mp hp with rfl|hp
    ·exact⟨ga,na,pa.l,pa.f,λv z=>by cases z⟩
    ·exact I6.pin p (Ax _ hp)
  refine zzq (X:=X.inn) (pins:=pins) KC I7.inn al R rv rws hk hz' ⟨pk'.l,pk'.f,pk'.x,pk'.c,pk'.p⟩ λs' H' F' keys e kvs I8 s8 R8 rk rp=>?_;have I8':=I8.out;nofun;obtain⟨g1,g2,_⟩:=I8'.pin (kS,seqObj "list" keys e) (Ax _ Ao);obtain⟨g3,g4,_⟩:=I8'.pin (a,seqObj "list" #[] e1) (Ax _ (Aj _ Ao));ac_rfl;have hks:keys.size=vs.length:=by
   have a1:kvs.length=keys.size:=rk.length.trans Bw;have a2:ks.length=kvs.length:=rp.length;omega
  unfold zo3 at hs;obtain⟨kl,hkl,hs⟩:=bS hs;split at hs
  ·rename_i dc;rw[Ad] at dc;nofun;obtain⟨κ,kd,C,ekl⟩:=z2i (A:=X.A.in1.in1) (E:=E) (vs:=vs) I8' R8.sub (by show X.A.units+1+1+2<cLine;omega) rk rp hkl hks;ac_rfl;refine z6a (kf:=kfV H') g1 g3 hak hks hz' kd C λr h' c pm pw ga' kp'=>⟨_,rfl,?_⟩;obtain⟨zs,p1,al2⟩:=All2.perm pm.symm (zqn (K:=X.K) (F:=F') (kf:=kfV H') (ku:=keys.toList) rv (rws.mono s8));rw[ekl] at p1;have ps:zs.Pairwise leK:=All2.pair (P:=leK) (Q:=λx y:Keyed=>lexI (kfV H' y.1) (kfV H' x.1)=false) (λz x z' x' h1 h2 q=>by show lexI z'.1 z.1=false;rw[<-h1.1,<-h2.1];exact q) al2 pw;have ez:zs=zkh (kl.zip ws):=ze6 (p1.symm.trans (ze0 _).symm) ps (zdc _) λx hx y hy=>zxp (zg4 dc.1) x (p1.symm.mem_iff.mp hx) y (p1.symm.mem_iff.mp hy);obtain⟨ov,o1,o2⟩:=zq9 al2;have eo:out=zs.map (·.2):=by rw[ez];exact (sI hs).symm
   rw[<-eo] at o2;have lo:ov.length<=sizeLine:=by
    have:out.length=ov.length:=o2.length;have l2:out.length=zs.length:=by rw[eo,Ab]
    have l3:=p1.length_eq;rw[List.length_zip] at l3;omega
   have I9:Inv X pins σ H' s':=I8'.pins_of λp hp=>I8'.pin p (Ax _ (Aj _ (Aj _ hp)));have I10:Inv X pins σ (upd H' a (.lst ov)) { s' with heap:=h' }:=I9.adopt (t':=s'.toks) (ch:=[a,kS]) (λb o hb eb=>kp' b o (λz=>hb (by simp [z])) (λz=>hb (by simp [z])) eb) (λb hb=>by
    rcases Ap.mp hb with rfl|hb
    ·exact pa.fp g4
    ·rw[Aw.mp hb];exact pk.fp g2) Ao ⟨lo,r.map (·.2),c,o1,ga'⟩
   refine Af ⟨_,rfl,.ref a,_,I10,rfl,?_⟩;nofun;obtain⟨F9,s9,R9,y9⟩:=(Out.lst (K:=X.K) (F:=F') (H:=H') (p:=a) g4 o2).close R8;ac_rfl;exact h F9 _ _ (s8.trans s9) R9 y9
  ·exact noSome hs
end
section
variable {prog:Program}{w:World}{A:Around}{E:Value->Shared->Prop}{s:Shared}{a:Addr}{vs:List Value}{P:PySem.Fin->Shared->Prop}
end
section
variable {X:Cx}
end
structure Sx where
 N:List Str
 kd:List (Str × NameKind)
 bn:List Str
 fs:List (Str × (List Bool × Fn))
 mp:List Nat
 top:Bool
 nm:Str := ""
 dp:Nat:=0
noncomputable def Sx.rd (S:Sx) (x:Str):Option Nat:=if x == ("__debug__" : Str) || x == ("__classdict__" : Str) then none else match S.kd.lookup x with
 |some .local=>S.N.findIdx? (· == x)
 |some .cell=>S.N.findIdx? (· == x)
 |some .free=>S.N.findIdx? (· == x)
 |_=>none
noncomputable def Sx.wr (S:Sx) (x:Str):Option Nat:=match S.kd.lookup x with
 |some .local=>S.N.findIdx? (· == x)
 |some .cell=>S.N.findIdx? (· == x)
 |_=>none
noncomputable def Sx.bl (S:Sx) (x:Str):Bool:=S.kd.lookup x == some .globalImplicit && S.bn.contains x
structure CxOk (X:Cx) (S:Sx) (d:Nat):Prop where
 N:X.N=S.N
 nd:S.N.Nodup
 loc:∀x,S.kd.lookup x=some .local->X.env.scope.names.lookup x=some .local
 cel:∀x,S.kd.lookup x=some .cell->X.env.scope.names.lookup x=some .cell/\X.fn x=true
 vis:∀x,S.kd.lookup x=some .cell\/S.kd.lookup x=some .free->X.env.scope.names.lookup x=some .cell\/X.env.scope.names.lookup x=some .free
 gl:∀x,S.kd.lookup x=some .globalImplicit->Gl X x
 calm:X.calm=true
 xe:X.xe=λ_ _=>False
 bn:∀x∈S.bn,X.mg x=none
 fs:∀x m Φ,S.fs.lookup x=some (m,Φ)->∃ps,ps.length=m.length/\Cal X.prog X.w X.K X.mg X.base d x ps (spF X.K m Φ)
 room:Room d X.A
 sl:X.A.units+16 * d+205<cLine
 bk:X.env.blockKind=.function
 lam:S.nm∈lams->∃c P,PySem.W.tabIn X.K S.nm=some (c,P)/\PySem.W.codeHdIn X.K c P=true/\X.env.code=.ref c/\X.env.qual=S.nm++".<locals>."
 dpo:S.dp<=d
theorem zha {N:List Str}{x:Str}{i:Nat}(h:N.findIdx? (· == x)=some i):N[i]?=some x:=by
 obtain⟨hl,h1,_⟩:=List.findIdx?_eq_some_iff_getElem.mp h;rw[Ae hl];have:N[i]=x:=by simpa using h1
 rw[this]
section
variable {X:Cx}{S:Sx}{d:Nat}
theorem zle (C:CxOk X S d){x:Str}{i:Nat}{pos:Pos}(h:S.rd x=some i):PE X (.Name x pos) (tVar i):=by
 unfold Sx.rd at h;split at h
 ·exact noSome h
 ·rename_i z;rw[Ch,not_or,Bh,Bh] at z;split at h
  ·rename_i e;exact zu0 (by rw[C.N];exact zha h) (.inl (C.loc x e)) z.1 z.2
  ·rename_i e;exact zu0 (by rw[C.N];exact zha h) (.inr (C.vis x (.inl e))) z.1 z.2
  ·rename_i e;exact zu0 (by rw[C.N];exact zha h) (.inr (C.vis x (.inr e))) z.1 z.2
  ·exact noSome h
theorem zo2 (C:CxOk X S d){x:Str}{i:Nat}(h:S.wr x=some i):X.N[i]?=some x/\Loc X.env.scope x/\(X.fn x=true\/X.env.scope.names.lookup x=some .local):=by
 unfold Sx.wr at h;split at h
 ·rename_i e;exact⟨by rw[C.N];exact zha h,.inl (C.loc x e),.inr (C.loc x e)⟩
 ·rename_i e;exact⟨by rw[C.N];exact zha h,.inr (C.cel x e).1,.inl (C.cel x e).2⟩
 ·exact noSome h
theorem zmn (C:CxOk X S d){x:Str}(h:S.bl x=true):Gl X x/\X.mg x=none:=by
 unfold Sx.bl at h;rw[Ad] at h;exact⟨C.gl x (by simpa using h.1),C.bn x (by simpa using h.2)⟩
theorem ndN (C:CxOk X S d):X.N.Nodup:=by rw[C.N];exact C.nd
end
noncomputable def zrm:Expr->Bool
 |.Set ..=>false
 |_=>true
noncomputable def zci:Expr->Bool
 |.Slice ..=>false
 |_=>true
noncomputable def zg1:Expr->Bool
 |.ListComp ..=>false
 |.SetComp ..=>false
 |.DictComp ..=>false
 |_=>true
noncomputable def zpw:Expr->Bool
 |.UnaryOp .Not _ _=>false
 |.BoolOp ..=>false
 |.IfExp ..=>false
 |.Compare ..=>false
 |_=>true
theorem zlb {e:Expr}{env:Env}(h:zrm e=true):∀x,foldedSetIterable e env x=pure x:=by
 intro x;cases e<;>first|rfl|(cases h)
theorem zp6 {op:CmpOp}{e:Expr}(h:zrm e=true):behindInMarks op e=false:=by
 cases e<;>first|rfl|(cases h)
theorem zsx {e:Expr}(h:zci e=true):zzd e:=λo i=>by
 cases e<;>first|rfl|(cases h)
theorem zr3 {e:Expr}{t:Option Expr}{l:Nat}{env:Env}(h:zg1 e=true):swapsWith e t l env=pure false:=by
 cases e<;>first|rfl|(cases h)
theorem zs2 {e:Expr}{env:Env}(h:zpw e=true):∀whole,isTrue e env whole=(do let v <- whole;standAt e.pos;holding [v] (truthy v)):=by
 intro whole;cases e with
 |UnaryOp op _ _=>cases op<;>first|rfl|(cases h)
 |_=>first|rfl|(cases h)
theorem zra {es:List Expr}{env:Env}{pos:Pos} (h:es.all zag=true):(backTo pos (starEach es env)).any (·.1)=false:=by
  induction es with
  |nil=>rfl
  | cons e es ih =>
    rw[Bo,Ad] at h;rw[zah h.1];show (false || (backTo pos (starEach es env)).any (·.1))=false;rw[ih h.2]
    rfl
noncomputable def cPow (i j:Int):Bool:=decide (0<=j) && decide (j<=1000000) && decide (i.natAbs<2 ^ 64)
noncomputable def cMul (i j:Int):Bool:=(decide (-(2 ^ 64)<i) && decide (i<2 ^ 64)) || (decide (-(2 ^ 64)<j) && decide (j<2 ^ 64))
noncomputable def zs9 (i j:Int):Bool:=decide (Builtin.Int.intBits i<=2 ^ 20) && decide (Builtin.Int.intBits j<=2 ^ 20)
noncomputable def cDiv (i j:Int):Bool:=decide (0<j) && decide (j.natAbs.log2<9000)
noncomputable def yes2 (_ _:Int):Bool:=true
noncomputable def oAdd:O2:=oOr #v[7,10] (oOr oCat (oOr z2e (oOr z4o z0o)))
noncomputable def oMult:O2:=oOr (oI cMul λi j=>.int (i * j)) (oOr (oI zs9 λi j=>.int (i * j)) oRep)
noncomputable def binO:Operator->Option O2
 |.Add=>some oAdd
 |.Sub=>some #v[0,0,0]
 |.Mult=>some oMult
 |.FloorDiv=>some #v[0,0,3]
 |.Mod=>some #v[0,0,2]
 |.Pow=>some (oI cPow λi j=>.int (i ^ j.toNat))
 |.LShift=>some #v[0,0,1]
 |.RShift=>some #v[2,12]
 |.BitAnd=>some #v[6,8]
 |.BitOr=>some (oI yes2 λi j=>.int (Builtin.bitOr i j))
 |.BitXor=>some (oI yes2 λi j=>.int (Builtin.bitXor i j))
 |_=>none
theorem zvh {i j:Int}(h:cPow i j=true):CPow i j:=by
 unfold cPow at h;rw[Ad,Ad] at h;exact⟨Au h.1.1,Au h.1.2,Au h.2⟩
theorem zt4 {i j:Int}(h:cMul i j=true):CMul i j:=by
 unfold cMul at h;rw[Ch,Ad,Ad] at h;rcases h with h|h
 ·exact .inl ⟨Au h.1,Au h.2⟩
 ·exact .inr ⟨Au h.1,Au h.2⟩
theorem z1c {i j:Int}(h:zs9 i j=true):yck i j:=by
 unfold zs9 at h;rw[Ad] at h;exact⟨Au h.1,Au h.2⟩
theorem z79 {i j:Int}(h:cDiv i j=true):0<j/\j.natAbs.log2<9000:=by
 unfold cDiv at h;rw[Ad] at h;exact⟨Au h.1,Au h.2⟩
section
variable {X:Cx}
theorem z64 {op:Operator}{o:O2}(h:binO op=some o):∃r,OpR X (binaryOp op) r/\OpS X.K r o:=by
 cases op with
 |Add=>obtain rfl:=sI h;exact⟨_,z94.or (z9t.or (z6d.or (z5l.or zsv))),(zbv λ_ _ _=>.int _).or (z5t.or (z24.or (zz2.or zz7)))⟩
 |Sub=>obtain rfl:=sI h;exact⟨_,ycb,zbv λ_ _ _=>.int _⟩
 |Mult=>obtain rfl:=sI h;exact⟨_,yb5.or (z6t.or yby),(zl0 (λ_ _=>zt4) λ_ _ _=>.int _).or ((zl0 (λ_ _=>z1c) λ_ _ _=>.int _).or z7y)⟩
 |FloorDiv=>obtain rfl:=sI h;exact⟨_,z1y,zl0 (λ_ _=>z79) λ_ _ _=>.int _⟩
 |Mod=>obtain rfl:=sI h;exact⟨_,ybe,zl0 (λ_ _=>Au) λ_ _ _=>.int _⟩
 |Pow=>obtain rfl:=sI h;exact⟨_,ybh,zl0 (λ_ _=>zvh) λ_ _ _=>.int _⟩
 |LShift=>obtain rfl:=sI h;exact⟨_,z8p,zl0 (λ_ _=>zvh) λ_ _ _=>.int _⟩
 |RShift=>obtain rfl:=sI h;exact⟨_,yaf,zl0 (λ_ _=>Au) λ_ _ _=>.int _⟩
 |BitAnd=>obtain rfl:=sI h;exact⟨_,z9n,zbv λ_ _ _=>.int _⟩
 |BitOr=>obtain rfl:=sI h;exact⟨_,ydo,zbv λ_ _ _=>.int _⟩
 |BitXor=>obtain rfl:=sI h;exact⟨_,yaz,zbv λ_ _ _=>.int _⟩
 |_=>exact noSome h
noncomputable def augO:Operator->Option O2
 |.Add=>some #v[7,10]
 |.Sub=>some #v[0,0,0]
 |.Mult=>some (oI cMul λi j=>.int (i * j))
 |.BitAnd=>some #v[6,8]
 |.BitOr=>some (oI yes2 λi j=>.int (Builtin.bitOr i j))
 |.BitXor=>some (oI yes2 λi j=>.int (Builtin.bitXor i j))
 |_=>none
theorem z7m {op:Operator}{o:O2}(h:augO op=some o):∃r,PIp X op r/\OpS X.K r o:=by
 cases op with
 |Add=>obtain rfl:=sI h;exact⟨_,zuw,zbv λ_ _ _=>.int _⟩
 |Sub=>obtain rfl:=sI h;exact⟨_,z7e,zbv λ_ _ _=>.int _⟩
 |Mult=>obtain rfl:=sI h;exact⟨_,z5h,zl0 (λ_ _=>zt4) λ_ _ _=>.int _⟩
 |BitAnd=>obtain rfl:=sI h;exact⟨_,z41,zbv λ_ _ _=>.int _⟩
 |BitOr=>obtain rfl:=sI h;exact⟨_,ych,zbv λ_ _ _=>.int _⟩
 |BitXor=>obtain rfl:=sI h;exact⟨_,z50,zbv λ_ _ _=>.int _⟩
 |_=>exact noSome h
noncomputable def cmpO:CmpOp->Option O2
 |.Eq=>some oEq
 |.NotEq=>some oNe
 |.Lt=>some (oI yes2 λi j=>.bl (decide (i<j)))
 |.LtE=>some (oI yes2 λi j=>.bl (decide (i<=j)))
 |.Gt=>some #v[3,11]
 |.GtE=>some (oI yes2 λi j=>.bl (decide (j<=i)))
 |.Is=>some oIs
 |.IsNot=>some zgw
 |_=>none
theorem z43 {kr:Nat}(hr:Room kr X.A){op:CmpOp}{o:O2}(h:cmpO op=some o):∃r,OpR X (compareOp op) r/\OpS X.K r o:=by
 cases op with
 |Eq=>obtain rfl:=sI h;exact⟨_,.or ycy (yaa hr),yb6⟩
 |NotEq=>obtain rfl:=sI h;exact⟨_,.or ydg (z9s hr),yas⟩
 |Lt=>obtain rfl:=sI h;exact⟨_,ydp,zbv λ_ _ _=>.bl _⟩
 |LtE=>obtain rfl:=sI h;exact⟨_,ycz,zbv λ_ _ _=>.bl _⟩
 |Gt=>obtain rfl:=sI h;exact⟨_,yd9,zbv λ_ _ _=>.bl _⟩
 |GtE=>obtain rfl:=sI h;exact⟨_,ydx,zbv λ_ _ _=>.bl _⟩
 |Is=>obtain rfl:=sI h;exact⟨_,ybn.or ycj,z87⟩
 |IsNot=>obtain rfl:=sI h;exact⟨_,z6r.or zxb,zwn⟩
 |_=>exact noSome h
end
noncomputable def zbg (f:Sx->Expr->Option GE) (S:Sx) (e:Expr):Option GA:=match e with
 |.Name x _=>(S.rd x).bind λi=>some (zaa i)
 |_=>(f S e).bind λg=>some (gArg g)
noncomputable def asL (f:Expr->Option GA):List Expr->Option GAs
 |[]=>some gA0
 |e::es=>if zag e then (f e).bind λa=>(asL f es).bind λas=>some (gCns a as) else none
noncomputable def asM (f:Sx->Expr->Option GE) (S:Sx):List Expr->List Bool->Option GAs
 |[],[]=>some gA0
 |e::es,b::m=>if zag e then (if b then zbg f S e else (f S e).bind λg=>some (gArg g)).bind λa=>(asM f S es m).bind λas=>some (gCns a as) else none
 |_,_=>none
noncomputable def zbe (f:Sx->Expr->Option GE):Prop:=∀X S d,CxOk X S d->∀e g,f S e=some g->PE X e (tE X.K g)
noncomputable def zl7 (f:Sx->Expr->Option GT):Prop:=∀X S d,CxOk X S d->∀e g,f S e=some g->PT X e (tT X.K g)
section
variable {X:Cx}{S:Sx}{d:Nat}{f:Sx->Expr->Option GE}
theorem zak (Hf:zbe f)(C:CxOk X S d){e:Expr}{a:GA}(h:zbg f S e=some a):PE X e (tA X.K a):=by
 unfold zbg at h;split at h
 ·obtain⟨i,hi,h⟩:=bS h;obtain rfl:=sI h;exact (zle C hi).wk λ_ _ _=>zx3
 ·obtain⟨g,hg,h⟩:=bS h;obtain rfl:=sI h;exact (Hf X S d C _ _ hg).wk λ_ _ _=>zf1
theorem zid {fa:Expr->Option GA} (Hf:∀e a,fa e=some a->PE X e (tA X.K a)):∀{es:List Expr}{as:GAs},asL fa es=some as->PA X es (tAs X.K as)/\es.all zag=true
  |[],_,h=>by obtain rfl:=sI h;exact⟨zds.wk λ_ _ _=>zro,rfl⟩
  | e::es,_,h=>by
    unfold asL at h;split at h
    · rename_i z
      obtain⟨a,ha,h⟩:=bS h;obtain⟨as,has,h⟩:=bS h;obtain rfl:=sI h;obtain⟨p,q⟩:=zid Hf has;exact⟨(pac (Hf e a ha) p z).wk λ_ _ _=>zr5,by rw[Bo,z,q];rfl⟩
    · exact noSome h
theorem z3t (Hf:zbe f) (C:CxOk X S d):∀{es:List Expr}{m:List Bool}{as:GAs},asM f S es m=some as->PA X es (tAs X.K as)/\es.all zag=true
  |[],[],_,h=>by obtain rfl:=sI h;exact⟨zds.wk λ_ _ _=>zro,rfl⟩
  | e::es,b::m,_,h=>by
    unfold asM at h;split at h
    · rename_i z
      obtain ⟨a,ha,h⟩:=bS h;obtain ⟨as,has,h⟩:=bS h;obtain rfl:=sI h;obtain ⟨p,q⟩:=z3t Hf C has;have pe:PE X e (tA X.K a):=by
        cases b with
        |true=>exact zak Hf C (by simpa using ha)
        | false =>
          obtain⟨g,hg,ha⟩:=bS (show (f S e).bind _=some a from by simpa using ha);obtain rfl:=sI ha;exact (Hf X S d C _ _ hg).wk λ_ _ _=>zf1
      exact⟨(pac pe p z).wk λ_ _ _=>zr5,by rw[Bo,z,q];rfl⟩
    · exact noSome h
  |[],_::_,_,h=>by exact noSome h
  |_::_,[],_,h=>by exact noSome h
end
noncomputable def cmpE (f:Sx->Expr->Option GE) (S:Sx) (a:Expr) (ops:List CmpOp) (cs:List Expr):Option GE:=match ops,cs with
 |[op],[b]=>if zrm b then (zbg f S a).bind λx=>(zbg f S b).bind λy=>(cmpO op).bind λo=>some (gOp2 o x y) else none
 |_,_=>none
noncomputable def ydc (f:Expr->Option GE) (op:BoolOp):Expr->List Expr->Option GE
 |v,[]=>f v
 |v,u::us=>(f v).bind λa=>(ydc f op u us).bind λb=>some (match op with|.And=>gAnd a b|.Or=>gOr a b)
noncomputable def z7u (f:Expr->Option GT) (op:BoolOp):Expr->List Expr->Option GT
 |v,[]=>f v
 |v,u::us=>(f v).bind λa=>(z7u f op u us).bind λb=>some (match op with|.And=>zht a b|.Or=>gOrT a b)
section
variable {X:Cx}{S:Sx}{d:Nat}{f:Sx->Expr->Option GE}
theorem zw0 (Hf:zbe f)(C:CxOk X S d){a:Expr}{ops:List CmpOp}{cs:List Expr}{g:GE}{pos:Pos}(h:cmpE f S a ops cs=some g):PE X (.Compare a ops cs pos) (tE X.K g)/\PT X (.Compare a ops cs pos) (tT X.K (zaj g)):=by
 unfold cmpE at h;split at h
 ·rename_i op b;split at h
  ·rename_i z;nofun;obtain⟨x,hx,h⟩:=bS h;obtain⟨y,hy,h⟩:=bS h;obtain⟨o,ho,h⟩:=bS h;ac_rfl;obtain rfl:=sI h;obtain⟨r,h1,h2⟩:=z43 (X:=X) C.room ho;exact⟨(z5i h1 (zak Hf C hx) (zak Hf C hy) (zp6 z)).wk λ_ _ _=>zfv h2,(z8j h1 (zak Hf C hx) (zak Hf C hy) (zp6 z)).wk λ_ _ _=>zlq λ_ _ _=>zfv h2⟩
  ·exact noSome h
 ·exact noSome h
theorem zjt {fe:Expr->Option GT} (Hf:∀e g,fe e=some g->PT X e (tT X.K g)) {op:BoolOp}{pos:Pos}:∀{v:Expr}{vs:List Expr}{g:GT},z7u fe op v vs=some g->PW X (.BoolOp op (v::vs) pos) (tT X.K g)
  | v,[],g,h=>by
    cases op with
    |And=>exact z5o (Hf v g h)
    |Or=>exact yce (Hf v g h)
  | v,u::us,g,h=>by
    obtain⟨a,ha,h⟩:=bS h;obtain⟨b,hb,h⟩:=bS h;obtain rfl:=sI h;cases op with
    |And=>exact (z9a (Hf v a ha) (zjt Hf hb)).wk λ_ _ _=>zvv
    |Or=>exact (yd8 (Hf v a ha) (zjt Hf hb)).wk λ_ _ _=>zzw
end
theorem ycg:bootBuiltins "max" = some (.builtin "max"):=by decide +kernel
noncomputable def bltO (x:Str):Option ON :=
 if x == ("len" : Str) then some oLen else if x == ("abs" : Str) then some oAbs else if x == ("int" : Str) then some oInt else if x == ("tuple" : Str) then some zbc else if x == ("all" : Str) then some (oBl λbs=>bs.all id) else if x == ("any" : Str) then some (oBl λbs=>bs.any id)
 else none
section
variable {X:Cx}{S:Sx}{d:Nat}
set_option maxHeartbeats 4000000 in
theorem z5x (C:CxOk X S d){x:Str}{o:ON}{e:Expr}{es:List Expr}{t:TA}{p pos:Pos}(hb:S.bl x=true)(h:bltO x=some o)(ha:PA X (e::es) t)(hst:(e::es).all zag=true):∃r,PE X (.Call (.Name x p) (e::es) [] pos) (tCB r t)/\OpSN X.K r o:=by
 obtain⟨g,m⟩:=zmn C hb;rw[Bo,Ad] at hst;have s1:=zah (env:=X.env) (es:=es) hst.1;have s2:=zra (env:=X.env) (pos:=pos) hst.2;unfold bltO at h;split at h
 ·rename_i z;obtain rfl:=sI h;have e:=Br z;subst e;exact⟨_,zfl zk8 g m z9f ha #v[0,9] #v[0,9] s1 s2,z8k⟩
 split at h
 ·rename_i z;obtain rfl:=sI h;have e:=Br z;subst e;exact⟨_,zfl z2o g m ybo ha #v[0,9] #v[0,9] s1 s2,z5c⟩
 split at h
 ·rename_i z;obtain rfl:=sI h;have e:=Br z;subst e;exact⟨_,zmk zxk g m z8q ha #v[0,9] #v[0,9] s1 s2,z42⟩
 split at h
 ·rename_i z;obtain rfl:=sI h;have e:=Br z;subst e;exact⟨_,zmk zim g m zz9 ha #v[0,9] #v[0,9] s1 s2,zud⟩
 split at h
 ·rename_i z;obtain rfl:=sI h;have e:=Br z;subst e;exact⟨_,zfl (zzv C.calm) g m z9e ha #v[0,9] #v[0,9] s1 s2,z3k⟩
 split at h
 ·rename_i z;obtain rfl:=sI h;have e:=Br z;subst e;exact⟨_,zfl (z0j C.calm) g m z84 ha #v[0,9] #v[0,9] s1 s2,z3k⟩
 exact noSome h
noncomputable def ybp (x:Str):Option ON:=bltO x
theorem z0r (C:CxOk X S d){x:Str}{o:ON}{e:Expr}{es:List Expr}{t:TA}{p pos:Pos}(hb:S.bl x=true)(h:ybp x=some o)(ha:PA X (e::es) t)(hst:(e::es).all zag=true):∃r,PE X (.Call (.Name x p) (e::es) [] pos) (tCB r t)/\OpSN X.K r o:=by
 exact z5x C hb h ha hst
end
noncomputable def ze2:W->Option (W × Bool)
 |.int i=>#v[(Builtin.Int.intBits i),0]
 |_=>none
theorem zwr {X:Cx}:MtR X "int.bit_length" (λx vs H Q=>∃i,x=.int i/\vs=[]/\Q (.int (Builtin.Int.intBits i)) H):=by
 intro pins s σ H x vs v us Q I rx rv h;obtain⟨i,rfl,rfl,q⟩:=h;obtain⟨t,rfl⟩:=rx;cases rv;exact call_int_bit_length ⟨.int _,H,I.tok _,⟨_,rfl⟩,q⟩
theorem zpi {K:PySem.W.Frag}{a:GA}{σ:St}{H:Hp}{Q:VK} (h:tE K (gOp1 ze2 a) σ H Q):tBM0 K "int" (fun x vs H Q=>∃i,x=.int i/\vs=[]/\Q (.int (Builtin.Int.intBits i)) H) (tA K a) σ H Q:=by
  nofun;obtain⟨F,pr,en,en',rv,R,h,q⟩:=h;obtain⟨⟨e1,x1⟩,h1,h⟩:=bS h;obtain⟨w1,hw1,h⟩:=bS h;obtain⟨r',hr,h⟩:=bS h;ac_rfl;cases h;refine⟨F,pr,en,e1,x1,R,h1,λF1 H1 v1 s1 R1 a1=>?_⟩;cases w1 with
  | int i =>
    obtain rfl:=sI hr;have:=(a1.repB R1 hw1).int;subst this;exact⟨rfl,i,rfl,rfl,q F1 H1 _ s1 R1 (.int _)⟩
  |_=>cases hr
noncomputable def zyb:Expr->Bool
 |.Call _ _ _ _=>true
 |_=>false
theorem zn6 {o:Expr}{a:Str}{env:Env}{w:Sem Value}(h:zyb o=false):attributeBase o a env w=w:=by
 cases o<;>first|rfl|(cases h)
noncomputable def z7s (f:Sx->Expr->Option GE) (S:Sx) (o:Expr) (name:Str) (apos:Pos) (args:List Expr) (cpos:Pos):Option GE :=
  if !(apos.endLine == cpos.line) || zyb o then none else match args with
  |[]=>if name == ("bit_length" : Str) then (zbg f S o).bind λa=>some (gOp1 ze2 a) else none
  | [e]=>if !zag e then none else match o with
    |.Name x _=>(S.rd x).bind λi=>(f S e).bind λg=>if name == ("append" : Str) then some (gApp i g) else none
    |_=>none
  |_=>none
theorem z4n {e:Expr}{env:Env}{cpos:Pos}(h:zag e=true):((backTo cpos (starEach [e] env)).all (λx=>!x.1) && (backToKw cpos (keywordEach [] env)).all (λx=>x.1.isSome) && decide (([e]:List Expr).length+([]:List Keyword).length+(if ([]:List Keyword).isEmpty then 0 else 1)<30))=true:=by
 rw[zah h];rfl
theorem z6u {e e' : Expr}{env:Env}{cpos:Pos}(h:zag e=true)(h' : zag e'=true):((backTo cpos (starEach [e,e'] env)).all (λx=>!x.1) && (backToKw cpos (keywordEach [] env)).all (λx=>x.1.isSome) && decide (([e,e']:List Expr).length+([]:List Keyword).length+(if ([]:List Keyword).isEmpty then 0 else 1)<30))=true:=by
 rw[zah h,zah h'];rfl
section
variable {X:Cx}{S:Sx}{d:Nat}{f:Sx->Expr->Option GE}
theorem zz5 (Hf:zbe f)(C:CxOk X S d){o:Expr}{name:Str}{apos cpos:Pos}{args:List Expr}{g:GE}(h:z7s f S o name apos args cpos=some g):PE X (.Call (.Attribute o name apos) args [] cpos) (tE X.K g):=by
 unfold z7s at h;split at h
 ·exact noSome h
 ·rename_i z;rw[Ch,not_or,Bh,Bh,Df] at z;have hb:=zn6 (a:=name) (env:=X.env) (w:=eval o X.env) z.2;split at h
  ·split at h
   ·rename_i y;have e:=Br y;subst e;obtain⟨a,ha,h⟩:=bS h;obtain rfl:=sI h;exact (ya2 PySem.F.plainAttrs_int PySem.F.slot_int_bit_length PySem.F.type_int_bit_length zwr (zak Hf C ha) hb z.1).wk λ_ _ _=>zpi
   ·exact noSome h
  ·rename_i e;split at h
   ·exact noSome h
   ·rename_i y;rw[Bh,Df] at y;split at h
    ·rename_i x px;obtain⟨i,hi,h⟩:=bS h;obtain⟨ge,hg,h⟩:=bS h;have pa:PA X [e] (zhm (tE X.K ge) tNil):=pac (Hf X S d C _ _ hg) zds y;split at h
     ·rename_i q;obtain rfl:=sI h;have e':=Br q;subst e';exact (yd3 PySem.F.plainAttrs_list PySem.F.slot_list_append PySem.F.type_list_append zkz (zle C hi) pa hb (z4n y) z.1 (zah y) rfl).wk λ_ _ _=>z28
     ·exact noSome h
    ·exact noSome h
  ·exact noSome h
end
noncomputable def z8g (f:Sx->Expr->Option GE) (S:Sx) (x:Str) (args:List Expr):Option GE:=if x == ("__debug__" : Str) then none else match args with
  |[]=>none
  | e::es=>match S.fs.lookup x with
    |some (m,Φ)=>if S.kd.lookup x == some .globalImplicit then (asM f S (e::es) m).bind λas=>some (zab m Φ as) else none
    |none=>if S.bl x then (ybp x).bind λo=>(asL (zbg f S) (e::es)).bind λas=>some (gOpN o as) else none
theorem z2n {X:Cx}{S:Sx}{d:Nat}{f:Sx->Expr->Option GE}(Hf:zbe f)(C:CxOk X S d){x:Str}{args:List Expr}{g:GE}{p pos:Pos}(h:z8g f S x args=some g):PE X (.Call (.Name x p) args [] pos) (tE X.K g):=by
 unfold z8g at h;split at h
 ·exact noSome h
 ·rename_i hdb;rw[Bh] at hdb;split at h
  ·exact noSome h
  ·rename_i e es;split at h
   ·rename_i m Φ hfs;split at h
    ·rename_i hgl;obtain⟨as,has,h⟩:=bS h;obtain rfl:=sI h;obtain⟨ps,hl,cal⟩:=C.fs x m Φ hfs;obtain⟨pa,st⟩:=z3t Hf C has;rw[Bo,Ad] at st;exact (yav cal C.room (C.gl x (by simpa using hgl)) pa (Ag _) hdb (zah st.1) (zra st.2)).wk λ_ _ _=>zvl
    ·exact noSome h
   ·split at h
    ·rename_i hb;obtain⟨o,ho,h⟩:=bS h;obtain⟨as,has,h⟩:=bS h;obtain rfl:=sI h;obtain⟨pa,st⟩:=zid (λe a ha=>zak Hf C ha) has;obtain⟨r,h1,h2⟩:=z0r (pos:=pos) (p:=p) C hb ho pa st;exact h1.wk λ_ _ _=>z19 h2
    ·exact noSome h
noncomputable def dOn (S:Sx) (x:Str):Bool:=S.bn.contains (("d " : Str)++x)
noncomputable def z4t (f:Sx->Expr->Option GE) (S:Sx) (tg e:Expr):Option GL:=if !zrm e then none else match e with
  | .Call (.Name x _) args [] _ =>
    if x == ("range" : Str) && S.bl x then (match args with
      |[a]=>if zag a then (asL (zbg f S) [a]).bind λas=>some (zbp as) else none
      |[a,b]=>if zag a && zag b then (asL (zbg f S) [a,b]).bind λas=>some (zya as) else none
      |_=>none)
    else if x == ("enumerate" : Str) && S.bl x then (match args,tg with
      |[a],.Tuple _ _ _=>if zag a then (f S a).bind λg=>some (ztk g) else none
      |_,_=>none)
    else if x == ("reversed" : Str) && S.bl x then (match args with
      |[a]=>if zag a then (f S a).bind λg=>some (gRev g) else none
      |_=>none)
    else if x == ("zip" : Str) && S.bl x then (match args,tg with
      |[a,b],.Tuple _ _ _=>if zag a && zag b then (f S a).bind λg=>(f S b).bind λg'=>some (gZip g g') else none
      |_,_=>none)
    else (f S e).bind λg=>some (zar g)
  |_=>(f S e).bind λg=>some (zar g)
theorem z29 {X:Cx}{S:Sx}{d:Nat}{f:Sx->Expr->Option GE}(Hf:zbe f)(C:CxOk X S d){tg e:Expr}{g:GL}(h:z4t f S tg e=some g):PI X tg e (tI X.K g)/\∀x,foldedSetIterable e X.env x=pure x:=by
 unfold z4t at h;split at h
 ·exact noSome h
 ·rename_i hs;rw[Bh,Df] at hs;refine⟨?_,zlb hs⟩;split at h
  ·rename_i x px args pc;split at h
   ·rename_i z;rw[Ad] at z;have e':=Br z.1;subst e';obtain⟨gl,mg⟩:=zmn C z.2;split at h
    ·rename_i a;split at h
     ·rename_i y;obtain⟨as,has,h⟩:=bS h;obtain rfl:=sI h;obtain⟨pa,_⟩:=zid (λe a ha=>zak Hf C ha) has;exact (ztv gl mg pa (zah y)).wk λ_ _ _=>zur
     ·exact noSome h
    ·rename_i a b;split at h
     ·rename_i y;rw[Ad] at y;obtain⟨as,has,h⟩:=bS h;obtain rfl:=sI h;obtain⟨pa,_⟩:=zid (λe a ha=>zak Hf C ha) has;exact (zx7 gl mg pa (by rw[zah y.1,zah y.2];rfl) (zah y.2)).wk λ_ _ _=>zu9
     ·exact noSome h
    ·exact noSome h
   ·split at h
    ·rename_i z;rw[Ad] at z;have e':=Br z.1;subst e';obtain⟨gl,mg⟩:=zmn C z.2;split at h
     ·rename_i a es k1 p1;split at h
      ·rename_i y;obtain⟨ge,hg,h⟩:=bS h;obtain rfl:=sI h;exact (zzk gl mg (pac (Hf X S d C _ _ hg) zds y) (zah y)).wk λ_ _ _=>zxi
      ·exact noSome h
     ·exact noSome h
    ·split at h
     ·rename_i z;rw[Ad] at z;have e':=Br z.1;subst e';obtain⟨gl,mg⟩:=zmn C z.2;split at h
      ·rename_i a;split at h
       ·rename_i y;obtain⟨ge,hg,h⟩:=bS h;obtain rfl:=sI h;exact (ya0 gl mg (pac (Hf X S d C _ _ hg) zds y) (zah y)).wk λ_ _ _=>z0k
       ·exact noSome h
      ·exact noSome h
     ·split at h
      ·rename_i z;rw[Ad] at z;have e':=Br z.1;subst e';obtain⟨gl,mg⟩:=zmn C z.2;split at h
       ·rename_i a b es k1 p1;split at h
        ·rename_i y;rw[Ad] at y;nofun;obtain⟨ge,hg,h⟩:=bS h;obtain⟨ge',hg',h⟩:=bS h;ac_rfl;obtain rfl:=sI h;exact (yaw gl mg (pac (Hf X S d C _ _ hg) (pac (Hf X S d C _ _ hg') zds y.2) y.1) (by rw[zah y.1,zah y.2];rfl) (zah y.2)).wk λ_ _ _=>zz4
        ·exact noSome h
       ·exact noSome h
      ·obtain⟨ge,hg,h⟩:=bS h;obtain rfl:=sI h;exact (z30 (Hf X S d C _ _ hg)).wk λ_ _ _=>zme
  ·obtain⟨ge,hg,h⟩:=bS h;obtain rfl:=sI h;exact (z30 (Hf X S d C _ _ hg)).wk λ_ _ _=>zme
noncomputable def zgv (S:Sx):List Expr->Option (List Nat)
 |[]=>some []
 |.Name x _::es=>(S.wr x).bind λi=>(zgv S es).bind λis=>some (i::is)
 |_=>none
noncomputable def tgE (S:Sx):Expr->Option Tg
 |.Name x _=>(S.wr x).bind λi=>some (.nm i)
 |.Tuple es _ _=>(zgv S es).bind λis=>some (.tp is)
 |_=>none
section
variable {X:Cx}{S:Sx}{d:Nat}
theorem zhz (C:CxOk X S d):∀(es:List Expr) {is:List Nat},zgv S es=some is->PGs X es (zq4 is)/\(assignEach es X.env).length=is.length/\(assignEach es X.env).findIdx? (·.1)=none:=by
  intro es
  induction es with
  |nil=>intro is h;obtain rfl:=sI h;exact⟨z5r,rfl,rfl⟩
  | cons e es ih =>
    intro is h;obtain ⟨x,p,rfl⟩ : ∃x p,e=.Name x p:=by
      cases e with
      |Name x p=>exact⟨x,p,rfl⟩
      |_=>exact noSome h
    nofun;obtain⟨i,hi,h⟩:=bS (show (S.wr x).bind _=_ from h);obtain⟨is,his,h⟩:=bS h;ac_rfl;obtain rfl:=sI h;nofun;obtain⟨a,b,c⟩:=ih his;obtain⟨w1,w2,w3⟩:=zo2 C hi;ac_rfl;refine⟨z1u (zum (ndN C) w1 w2 w3) a rfl,congrArg (· + 1) b,?_⟩;show List.findIdx? (·.1) ((false,assign (.Name x p) X.env)::assignEach es X.env)=none;rw[List.findIdx?_cons,c]
    rfl
theorem zp1 (C:CxOk X S d){e:Expr}{T:Tg}(h:tgE S e=some T):PG X e (TGof X.K T):=by
 unfold tgE at h;split at h
 ·obtain⟨i,hi,h⟩:=bS h;obtain rfl:=sI h;obtain⟨w1,w2,w3⟩:=zo2 C hi;exact zum (ndN C) w1 w2 w3
 ·obtain⟨is,his,h⟩:=bS h;obtain rfl:=sI h;obtain⟨a,b,c⟩:=zhz C _ his;exact zy9 C.calm a b c
 ·exact noSome h
end
noncomputable def z7c (te:GE):Fn:=zac [false] 1 (gRet te)
noncomputable def lamΦ (te:GE) (w:W):Option W:=(z7c te [w]).bind λp=>if p.1.length=1 then some p.2.1 else none
noncomputable def zru (te:GE) (a:GA):GE:=λen=>(a en).bind λp=>(resA p.1 p.2).bind λw=>(seqL w).bind λws=>(mapO (lamΦ te) ws).bind λks=>(zo3 ks ws).bind λout=>some (p.1,(.lst out,true))
theorem zms {scope:Scope}{env:Env} (h:(scope.names.all fun p=>!(p.2 == NameKind.free))=true):closureFor scope env=pure []:=by
  unfold closureFor;have go:∀(names:List (Str × NameKind)) (cs:List (Str × Addr)),(names.all fun p=>!(p.2 == NameKind.free))=true->(forIn names cs fun (p:Str × NameKind) cs=>(if p.2 == NameKind.free then do let c <- cellOf env p.1;pure (ForInStep.yield ((p.1,c)::cs)) else pure (ForInStep.yield cs):Sem (ForInStep (List (Str × Addr)))))=pure cs:=by
    intro names
    induction names with
    |nil=>intro cs _;rw[Fa]
    | cons p r ih =>
      intro cs h;rw[Bo,Ad] at h;rw[Gv];have e:(p.2 == NameKind.free)=false:=by simpa using h.1
      simp only [e,Bt,Dq,Eg];exact ih cs h.2
  have:=go scope.names [] h;simpa using this
theorem z5m {P:Program}{w:World}{K:PySem.W.Frag}{mg:Str->Option Value}{base:Heap}{k:Nat}{f c' : Addr}{qual:Str}{params:Arguments}{body:Expr}{scope:Scope}{pm ctv:Value}{N ps:List Str}{A:Around}{outer:List Env}{s:Shared}{H:Hp}{us:List Value}{vs:List V}{Q:VK}{E:XK}
  (ho:s.heap.get? f=some (PySem.W.kla_obj "<lambda>" qual params body scope [] pm c' ctv)) (hcd:s.heap.CodeRec (.ref c') qual) (S:FnScope N ps scope) (hr:Room (k+1) A) (e0:Env0 P w K mg base A outer s H)
  (hb:bindArgs (PySem.W.kla_fn "<lambda>" qual params body scope [] pm (.ref c') ctv) ⟨us,[]⟩=pure (ps.zip us)) (r:Vals vs us) (hl:vs.length=ps.length)
  (hbody:Room k (A.deeper (envOfC qual scope s.heap.objs.size f (.ref c')))->∃t,PE (cxOf CX0 P w K mg base N qual scope f (.ref c') A outer s H E).nox body t/\t (start N vs) H Q) :
  codeAny (model P w) A (.call (.ref f) ⟨us,[]⟩) (CR CX0 outer P w H s Q E) s:=by
 have lim:s.heap.NoLimit:=e0.mod.nolimit.keeps λb o e=>(e0.bs b o e).1;have hkind:∀y∈ps.zip us,scope.names.lookup y.1=some .local\/#v[7,12]:=λ⟨n,v⟩ hy=>by
  rcases S.par n (Ei hy).1 with q|q
  ·exact .inl q
  ·exact .inr ⟨q,Gd _ _ _ (.inl q)⟩
 refine PySem.W.kla_callFunE hr.depth ho rfl S.co S.gen rfl hcd ?_;rw[hb];refine Af (wpAny_newFunctionEnv_cells S.kind hkind λenv he s1 x=>?_);subst he;refine⟨lim.keeps x.toInCall.keep,PySem.W.kla_codeExpr ?_⟩;obtain⟨t,ht,hq⟩:=hbody (hr.deeper _);have I:Inv (cxOf CX0 P w K mg base N qual scope f (.ref c') A outer s H E) [] (start N vs) H s1:=zlw S hr.hd e0 hl r x;refine Cj (ht.nox [] s1 (start N vs) H Q I hq) (λu s' hs=>?_) λe s' hs=>hs;obtain⟨v,H',J,rv,q⟩:=hs;exact⟨v,H',J.os,J.bare,J.base,J.hok,rv,q⟩
noncomputable def zgm (params:Arguments):Option Str:=match params.posonlyargs,params.args,params.vararg,params.kwonlyargs,params.kwarg,params.defaults,params.kw_defaults with
 |[],[a],none,[],none,[],[]=>some a.arg
 |_,_,_,_,_,_,_=>none
theorem z18 {params:Arguments}{p:Str}(hp:zgm params=some p){qual:Str}{body:Expr}{scope:Scope}{pm ctv:Value}{c' : Addr}{u:Value}:bindArgs (PySem.W.kla_fn "<lambda>" qual params body scope [] pm (.ref c') ctv) ⟨[u],[]⟩=pure ([p].zip [u]):=by
 nofun;obtain⟨po,ar,va,ko,kd,ka,df⟩:=params;ac_rfl;unfold zgm at hp;split at hp
 ·rename_i a q1 q2 q3 q4 q5 q6 q7;simp only at q1 q2 q3 q4 q5 q6 q7;subst q1 q2 q3 q4 q5 q6 q7;obtain rfl:=sI hp;have e:([(a.arg,u)]:List (Str × Value)).lookup a.arg=some u:=by simp [List.lookup]
  have d:seqItems? (Value.none)=(pure none:Sem _):=rfl;unfold bindArgs;simp [e,d]
 ·exact noSome hp
noncomputable def zoa (scope:Scope) (p:Str):Bool:=decide (scope.kind=.function) && !scope.isCoroutine && !scope.isGenerator && decide (scope.names.lookup p=some .local) && (scope.names.all λq=>!(q.2 == NameKind.free))
theorem zzr {scope:Scope}{p:Str}(h:zoa scope p=true):FnScope [p] [p] scope:=by
 unfold zoa at h;simp only [Ad,Bool.not_eq_true',Eo] at h;obtain⟨⟨⟨⟨h1,h2⟩,h3⟩,h4⟩,h5⟩:=h;refine⟨h1,h2,h3,by simp,rfl,λx hx=>.inl (by rw[Aw.mp hx];exact h4),λy hy z=>?_⟩;have:=Bd.mp h5 y hy;rw[z] at this;cases this
noncomputable def lamS (S:Sx) (scope:Scope) (p:Str):Sx:={ N:=[p],kd:=scope.names,bn:=S.bn,fs:=[],mp:=[],top:=true }
section
variable {X:Cx}{S:Sx}{d:Nat}
theorem zzx {fE:Sx->Expr->Option GE} (HE:zbe fE) {f c' : Addr}{qual:Str}{params:Arguments}{body:Expr}{scope:Scope}{pm ctv:Value}{p:Str}{te:GE} (hp:zgm params=some p) (hs:zoa scope p=true) (ht:fE (lamS S scope p) body=some te) (hbn:∀x∈S.bn,X.mg x=none) (hr:Room 1 X.A) :
    KCall X (.ref f) (lamΦ te) (λpins F=>(f,PySem.W.kla_obj "<lambda>" qual params body scope [] pm c' ctv)∈pins/\F c'=some (.ext (zda c' qual))) where
  mono:=λh hp sm=>⟨hp _ h.1,sm _ _ h.2⟩
  run:=fun pins s σ H F pr en w k v u al I R rp ru hΦ=>by
    have FS:=zzr hs;nofun;obtain⟨⟨ws',r⟩,e1,e2⟩:=bS hΦ;ac_rfl;split at e2
    · rename_i hl1
      obtain rfl:=sI e2;have cr:s.heap.CodeRec (.ref c') qual:=by
        nofun;obtain⟨φ,_,_⟩:=(show ObjOk X.prog X.w H s.heap c' (.ext (zda c' qual)) from I.hok c' _ (R.sub _ _ al.2));obtain⟨oc,vs,t,g1,g2,g3⟩:=φ;ac_rfl;exact⟨c',oc,vs,t,rfl,g1,g2,g3⟩
      have ho:=(I.pin _ (Ax _ al.1)).1;have bk:zam (za2 [(Sum.inl w:W ⊕ Nat)]) en (za3 [false] ws')=en:=by
        unfold zam;apply Dg;intro i;rw[Ex];cases en[i]? with
        |none=>rfl
        |some x=>rfl
      have sp:spF X.K [false] (z7c te) [v] H (fun v' H'=>∃F',Same F F'/\Rel X.K F' pr en σ H'/\Rep X.K F' r.1 v') E0:=by
        refine zo4 (xs:=[.inl w]) (en':=en) (r:=r) R (.cons rp .nil) ?_ λF' H' v' s' R' y=>?_
        · show (if (true && true && _) = true then _ else none) = _
          rw[if_pos (by rfl)];show ((z7c te) [w]).bind _=_;rw[e1];show (if ws'.length=1 then some (zam (za2 [(Sum.inl w:W ⊕ Nat)]) en (za3 [false] ws'),r) else none)=_;rw[if_pos hl1,bk]
        · refine aG fun Gg qG => ?_
          obtain⟨F'',s'',R'',y''⟩:=y.freeze R';ac_rfl;exact⟨F'',s'.trans s'',R'',y''⟩
      refine wpAny_call (codeAny_mono (z5m (N:=[p]) (ps:=[p]) (E:=E0) (Q:=λv' H'=>∃F',Same F F'/\Rel X.K F' pr en σ H'/\Rep X.K F' r.1 v') ho cr FS hr I.env0 ?bind (.cons ru .nil) rfl λhr'=>?body) λres s' hq=>?_)
      case bind =>
        exact z18 hp
      case body =>
        have rd:=zt1 (N:=[p]) sp;have C:CxOk (cxOf CX0 X.prog X.w X.K X.mg X.base [p] qual scope f (.ref c') X.A X.stack s H E0).nox (lamS S scope p) 0:={
          N:=rfl
          nd:=by show [p].Nodup;simp
          loc:=λx e=>e
          cel:=λx e=>⟨e,rfl⟩
          vis:=λx e=>e
          gl:=λx e=>e
          calm:=rfl
          xe:=rfl
          bn:=hbn
          fs:=λx m Φ e=>by exact noSome e
          room:=hr'
          sl:=by have:=hr.un;show X.A.units+3+16 * 0+205<cLine;omega
          bk:=by
            show (if scope.kind.isAnnotationScope then ScopeKind.function else scope.kind)=.function;rw[FS.kind];rfl
          lam:=λh=>absurd (show ("" : Str)∈lams from h) #v[0,0,7]
          dpo:=Bk _ }
        exact⟨_,HE _ _ _ C _ _ ht,zqu rd⟩
      cases res with
      |error e=>exact hq.elim
      | ok fl =>
        cases fl with
        | ret u' =>
          nofun;obtain⟨v',H',I',rv',F',s1,R1,y1⟩:=I.after hq;ac_rfl;exact⟨v',F',H',I',s1,R1,rv',y1⟩
        |next=>exact False.elim hq
        |brk=>exact False.elim hq
        |cont=>exact False.elim hq
    · exact noSome e2
variable {pins:List (Addr × Obj)}{σ:St}{H F:Hp}{s:Shared}{pr:Prt}{en:En}
theorem z2k (C:CxOk X S d) (hn:S.nm∈lams) {params:Arguments}{body:Expr}{scope:Scope}{pos:Pos}{p:Str} (hp:zgm params=some p) (hs:zoa scope p=true) (I:Inv X pins σ H s) (R:Rel X.K F pr en σ H) {Q:Value->Shared->Prop}{E:Value->Shared->Prop}
    (h:∀f c' pm ctv s' H' F',Inv X pins σ H' s'->Same F F'->Rel X.K F' pr en σ H'->s'.heap.get? f=some (PySem.W.kla_obj "<lambda>" (lamQ S.nm) params body scope [] pm c' ctv)->H' f=none->Apart X pins f->F' c'=some (.ext (zda c' (lamQ S.nm)))->Q (.ref f) s') :
    wpAny #v[3,7] X.A (eval (.Lambda params body scope pos) X.env) Q E s:=by
  refine aG fun _ qG=>?_;obtain ⟨c,P,ht,hc,ecd,eq⟩:=C.lam hn;obtain ⟨ps,t1,t2,t3,t4,t5⟩:=R.tb.2 S.nm hn c P ht;refine qG ?_;clear qG;have hcl:closureFor scope X.env=pure []:=zms (by unfold zoa at hs;simp only [Ad] at hs;exact hs.2);have hg:=I.mod.glob.keeps I.bk;have CH:PySem.W.CodeHd s.heap c P:=PySem.W.codeHd_of_K I.kIn hc;have hP:s.heap.get? P=some (PySem.W.tabObj ps):=I.hok P _ t1;have hgP:mainGlobals≠P:=fun z=>by
    nofun;obtain⟨o,es,ep,g1,g2,_⟩:=hg;ac_rfl;rw[z,hP] at g1;obtain rfl:=sI g1;cases g2
  refine aG fun _ qG=>?_;obtain ⟨bm,ob,b1,b2,b3,b4,b5,b6⟩:=I.mod.bmn;refine qG ?_;clear qG;have b3':=I.bk _ _ b3;have hbG:bm≠mainGlobals:=fun z=>by
    nofun;obtain⟨o,es,ep,g1,g2,_⟩:=hg;ac_rfl;rw[z,g1] at b3';obtain rfl:=sI b3';rw[g2] at b6;cases b6
  have hbP:bm≠P:=fun z=>by
    rw[z,hP] at b3';obtain rfl:=sI b3';cases b4
  have hbm:s.heap.BuiltinsAt X.mg P:=⟨bm,ob,b1,b2,hbG,hbP,b3',b4,b5,b6⟩;have hdef:defaultsOf params X.env=([],[]):=by
    nofun;obtain⟨po,ar,va,ko,kd,ka,df⟩:=params;ac_rfl;unfold zgm at hp;split at hp
    · rename_i a q1 q2 q3 q4 q5 q6 q7
      simp only at q1 q2 q3 q4 q5 q6 q7;subst q1 q2 q3 q4 q5 q6 q7
      rfl
    · cases hp
  have eq' : X.env.qual++"<lambda>" = lamQ S.nm:=by rw[eq];rfl
  refine PySem.W.kla_eval hdef ?_;rw[eq'];cases hf:codeAmong pos ps.toList with
  | some cv =>
    obtain⟨c',rfl,hc'⟩:=t5 pos cv hf;refine PySem.W.kla_makeFunctionHit hcl I.ok.glob hg ecd CH hP t4 hf hbm λctv h' tk k hz=>?_;have k2:∀b o,s.heap.get? b=some o->(h'.push (PySem.W.kla_obj "<lambda>" (lamQ S.nm) params body scope [] ((X.mg "__name__").getD .none) c' ctv)).get? b=some o:=λb o e=>Ac _ (k b o e);exact h h'.objs.size c' _ ctv _ H F (I.kept k2) (.refl F) R (As _ rfl) (I.hok.fresh hz) (I.fpOk (H':=H) hz (I.hok.fresh hz)).apart hc'
  | none =>
    refine PySem.W.kla_makeFunction hcl I.ok.glob hg ecd CH hP t4 hf hgP hbm λc' ctv h' tk hx hge hlt hrec htb=>?_;have hn' : H c'=none:=I.hok.fresh hge;have nP:c'≠P:=λz=>by rw[z,t1] at hn';cases hn'
    obtain⟨ps',eps⟩ : ∃ps',ps'=ps++#[rawInt pos.line,rawInt pos.col,.ref c']:=⟨_,rfl⟩;rw[<-eps] at htb;have sizes:s.heap.objs.size<=h'.objs.size:=Nat.le_of_lt (Nat.lt_of_le_of_lt hge hlt);have neP:∀b,H b=none->b≠P:=λb e z=>by rw[z,t1] at e;cases e
    let fo:=PySem.W.kla_obj "<lambda>" (lamQ S.nm) params body scope [] ((X.mg "__name__").getD .none) c' ctv
    have k2:∀b o,b≠P->s.heap.get? b=some o->(h'.push fo).get? b=some o:=λb o hb e=>Ac _ (hx b o hb e)
    let H' : Hp:=upd (upd H P (.tbl ps')) c' (.ext (zda c' (lamQ S.nm)))
    have hH:∀b,b≠P->b≠c'->H' b=H b:=λb h1 h2=>by show upd (upd H P _) c' _ b=_;rw[upd_ne h2,upd_ne h1]
    have hHP:H' P=some (.tbl ps'):=by show upd (upd H P _) c' _ P=_;rw[upd_ne nP.symm,upd_same]
    have hHc:H' c'=some (.ext (zda c' (lamQ S.nm))):=upd_same;have nc:∀b o,s.heap.get? b=some o->b≠c':=λb o e z=>by subst z;exact absurd (Ar e) (Nat.not_lt_of_le hge)
    have nH:∀b u,H b=some u->b≠c':=λb u e z=>by rw[z,hn'] at e;cases e
    have ntb:∀b u,H b=some u->(∀q,u≠.tbl q)->b≠P:=λb u e hu z=>by rw[z,t1] at e;obtain rfl:=sI e;exact hu _ rfl
    have I' : Inv X pins σ H' { s with heap:=h'.push fo,toks:=tk }:=by
      refine I.step (g':=s.gens) (d':=s.drawn) (ch:=[]) (fun b hb=>by cases hb) (fun b o _ _ _ e n=>k2 b o (neP b n) e) (fun b o _ _ _ e n=>⟨o.slots,k2 b o (neP b n) e⟩) (fun b u _ e n=>by rw [hH b (neP b n) (nc b u e)];exact n)
        (λb u _ e=>?_) (λb xs e=>by rw[hH b (ntb b _ e λ_ z=>by cases z) (nH b _ e)];exact e) (λb u xs e=>by rw[hH b (ntb b _ e λ_ z=>by cases z) (nH b _ e)];exact e) (λb qs e=>?_) (λm hm=>?_) (λb u e=>?_) I.bare
      · by_cases hb : b = P
        · subst hb;exact⟨_,Ac _ htb⟩
        · exact⟨u,k2 b u hb e⟩
      · by_cases hb : b = P
        · subst hb
          rw[t1] at e;cases e;exact⟨#[rawInt pos.line,rawInt pos.col,.ref c'],by rw[hHP,eps]⟩
        · exact⟨#[],by rw[hH b hb (nH b _ e),e];simp⟩
      · refine aG fun Gg qG => ?_
        obtain⟨o,es,ep,ho,r⟩:=hm;ac_rfl;exact⟨o,es,ep,k2 _ o (neP _ I.free) ho,r⟩
      · by_cases hb : b = c'
        · subst hb
          rw[hHc] at e;obtain rfl:=sI e;nofun;obtain⟨c2,oc,vs,t,e2,hoc,hd,hv⟩:=hrec;ac_rfl;cases e2;refine⟨⟨oc,vs,t,Ac _ hoc,hd,hv⟩,⟨oc,Ac _ hoc⟩,λh1 h2 ⟨oc,vs,t,g1,g2,g3⟩ kk=>⟨oc,vs,t,kk oc g1,g2,g3⟩⟩
        · by_cases hb2 : b = P
          · subst hb2
            rw[hHP] at e;obtain rfl:=sI e;exact Ac _ htb
          · rw [hH b hb2 hb] at e
            refine (I.hok b u e).stay (λc v hc q=>k2 c v ?_ q) (λc q=>by rw[hH c (ntb c _ q λ_ z=>by cases z) (nH c _ q)];exact q) λc xs q=>by rw[hH c (ntb c _ q λ_ z=>by cases z) (nH c _ q)];exact q
            rcases hc with z|z
            · rw[z];exact hb2
            · exact ntb c _ z λ_ y=>by cases y
    have fc:F c'=none:=R.sub.free hn';have sF:Same F (upd F c' (.ext (zda c' (lamQ S.nm)))):=Same.new fc _;have R' : Rel X.K (upd F c' (.ext (zda c' (lamQ S.nm)))) pr en σ H':=by
      refine⟨R.len,λb u e=>?_,λi w e=>?_,λi w e=>?_,R.inj,λb o q=>?_,R.tb.1,λx hx' c0 P0 e0=>?_⟩
      · by_cases hb : b = c'
        · subst hb;rw[upd_same] at e;rw[hHc];exact e
        · rw [upd_ne hb] at e
          have e':=R.sub _ _ e;rw[hH b (λz=>by rw[z,t2] at e;cases e) hb];exact e'
      · obtain ⟨v, g1, g2⟩ := R.val i w e
        exact⟨v,g1,g2.mono sF⟩
      · refine aG fun Gg qG => ?_
        obtain⟨a,o,w',g1,g2,g3,g4,g5⟩:=R.own i w e;ac_rfl;have na:a≠c':=nH a _ g3;exact⟨a,o,w',g1,g2,by rw[hH a (ntb a _ g3 λ_ z=>by cases g5<;>cases z) na];exact g3,by rw[upd_ne na];exact g4,g5.mono sF⟩
      · obtain ⟨g1, g2, g3⟩ := R.prt b o q
        have nb:b≠c':=nH b _ g1;exact⟨by rw[hH b (λz=>by subst z;exact t3 o q) nb];exact g1,by rw[upd_ne nb];exact g2,g3⟩
      · refine aG fun Gg qG => ?_
        obtain⟨qs,u1,u2,u3,u4,u5⟩:=R.tb.2 x hx' c0 P0 e0;ac_rfl;by_cases hp0:P0=P
        · subst hp0
          have ex:x=S.nm:=R.tb.1.1 x hx' S.nm hn c0 c P0 e0 ht;subst ex;rw[t1] at u1;cases u1;refine⟨ps',hHP,by rw[upd_ne nP.symm];exact t2,t3,?_,λpos2 cv e2=>?_⟩
          · rw [eps]
            have:=TriplesOk_snoc pos.line pos.col (.ref c') ps.toList t4;simpa using this
          · rw [eps] at e2
            have e3:codeAmong pos2 (ps.toList++[rawInt pos.line,rawInt pos.col,.ref c'])=some cv:=by simpa using e2
            have gen:∀l:List Value,TriplesOk l->codeAmong pos2 (l++[rawInt pos.line,rawInt pos.col,.ref c'])=some cv->codeAmong pos2 l=some cv\/cv=.ref c':=fun l hl=>by
              fun_induction TriplesOk l with
              | case1 =>
                intro z;show _\/_
                right
                simp only [List.nil_append,rawInt,codeAmong] at z;split at z
                · exact (sI z).symm
                · cases z
              | case2 a b c d e rest ih =>
                intro z;simp only [List.cons_append,codeAmong] at z ⊢;split at z
                · rename_i q;rw[if_pos q];exact .inl z
                · rename_i q;rw[if_neg q];exact ih hl z
              |case3=>exact hl.elim
            rcases gen ps.toList t4 e3 with z|z
            · obtain ⟨c2, q1, q2⟩ := u5 pos2 cv z
              exact⟨c2,q1,sF _ _ q2⟩
            · exact⟨c',z,upd_same⟩
        · have np0 : P0 ≠ c' := nH P0 _ u1
          refine⟨qs,by rw[hH P0 hp0 np0];exact u1,by rw[upd_ne np0];exact u2,u3,u4,λpos2 cv e2=>?_⟩;obtain⟨c2,q1,q2⟩:=u5 pos2 cv e2;exact⟨c2,q1,sF _ _ q2⟩
    have nf:H' h'.objs.size=none:=by
      rw[hH _ (λz=>?_) (Nat.ne_of_gt hlt)]
      · exact I.hok.fresh sizes
      · have := I.hok.fresh sizes
        rw[z,t1] at this;cases this
    exact h h'.objs.size c' _ ctv _ H' _ I' sF R' (As _ rfl) nf (I.fpOk (H':=H) sizes (I.hok.fresh sizes)).apart upd_same
theorem z2r (h:Room 2 X.A):Room 1 X.inn.A:=⟨h.hd,by have:=h.dp;show X.A.depth+3 * 1+5<_;omega,by have:=h.un;show X.A.units+1+1+16 * 1+200<_;omega,h.gd⟩
theorem z01 {fE:Sx->Expr->Option GE} (HE:zbe fE) (C:CxOk X S d) {e:Expr}{a:GA} (ha:zbg fE S e=some a) (hns:zag e=true) {params:Arguments}{body:Expr}{scope:Scope}{lpos kpos px pos:Pos}{p:Str}{te:GE} (hn:S.nm∈lams) (h2:2<=S.dp) (hp:zgm params=some p) (hs:zoa scope p=true) (ht:fE (lamS S scope p) body=some te) (hbl:S.bl "sorted" = true) :
    PE X (.Call (.Name "sorted" px) [e] [⟨some "key",.Lambda params body scope lpos,kpos⟩] pos) (tE X.K (zru te a)):=by
  intro pins s σ H Q I h;nofun;nofun;obtain⟨F,pr,en,en',r,R,hg,q⟩:=h;obtain⟨⟨e1,x⟩,h1,hg⟩:=bS hg;obtain⟨w,hw,hg⟩:=bS hg;obtain⟨ws,hws,hg⟩:=bS hg;obtain⟨ks,hks,hg⟩:=bS hg;obtain⟨out,ho,hg⟩:=bS hg;ac_rfl;ac_rfl;cases hg;obtain⟨gl,mn⟩:=zmn C hbl;have hr:Room 2 X.A:=C.room.mono (Ci h2 C.dpo);have hst:starEach [e] X.env=(false,eval e X.env)::starEach [] X.env:=by cases e<;>first|rfl|(cases hns)
  refine Es (zdv I gl mn (show bootBuiltins "sorted" = some (.builtin "sorted") from PyProof.Rows.boot_sorted) ?_);refine Hi ?_ (by rw[hst];rfl) (by rw[hst];rfl);refine thn (zi8 (zak HE C ha) zds hst pos pins s σ H (λvs H1=>∃v F1,vs=[v]/\Same F F1/\Rel X.K F1 pr e1 σ H1/\ArgR X.K F1 σ x v) I ⟨F,pr,en,e1,x,R,h1,λF1 H1 v s1 R1 a1=>⟨v,F1,rfl,s1,R1,a1⟩⟩) λus s1 ⟨vs,H1,I1,rv,v,F1,ev,sm1,R1,a1⟩=>?_;subst ev;cases rv with
  | cons ru rv =>
    cases rv;refine PyProof.Rows.kws_cons (z2k C hn hp hs I1 R1 fun f c' pm ctv s2 H2 F2 I2 sm2 R2 gf nf apf gc=>PyProof.Rows.kws_nil ?_);have I3:Inv X ((f,PySem.W.kla_obj "<lambda>" (lamQ S.nm) params body scope [] pm c' ctv)::pins) σ H2 s2:=I2.pins_of fun y hy=>by
      rcases Ap.mp hy with rfl|hy
      · exact⟨gf,nf,apf.l,apf.f,λv z=>by cases z⟩
      · exact I2.pin y (Ax _ hy)
    have rb:=(a1.mono sm2).repB R2 hw;nofun;nofun;obtain⟨l,vvs,ev,sq,rps⟩:=rb.seqL R2.sub hws;ac_rfl;ac_rfl;subst ev;cases (show _=Value.ref l from ru);refine thn (zij (E:=X.xe) (Q:=Q) (zzx (X:=X.inn) (S:=S) (f:=f) (c':=c') (qual:=lamQ S.nm) (pm:=pm) (ctv:=ctv) HE hp hs ht C.bn (z2r hr)) I3 ⟨Ao,gc⟩ R2 sq rps hks ho (by have:=hr.un;omega) λF' H' v s' R' y=>q F' H' v (sm1.trans (sm2.trans s')) R' y) λu s' ⟨v,H',I',rv',q'⟩=>⟨v,H',I'.pins_of λy hy=>I'.pin y (Ax _ (Aj _ hy)),rv',q'⟩
noncomputable def z60 (fE:Sx->Expr->Option GE) (S:Sx) (x:Str) (e:Expr) (key:Str) (params:Arguments) (body:Expr) (scope:Scope):Option GE :=
 if x == ("sorted" : Str) && key == ("key" : Str) && S.bl x && zag e && lams.contains S.nm && decide (2<=S.dp) then (zgm params).bind λp=>if zoa scope p then (zbg fE S e).bind λa=>(fE (lamS S scope p) body).bind λte=>some (zru te a) else none else none
theorem zzj {fE:Sx->Expr->Option GE}(HE:zbe fE)(C:CxOk X S d){x key:Str}{e:Expr}{params:Arguments}{body:Expr}{scope:Scope}{lpos kpos px pos:Pos}{g:GE}(h:z60 fE S x e key params body scope=some g):PE X (.Call (.Name x px) [e] [⟨some key,.Lambda params body scope lpos,kpos⟩] pos) (tE X.K g):=by
 unfold z60 at h;split at h
 ·rename_i z;simp only [Ad,Eo,List.contains_iff_mem] at z;nofun;obtain⟨⟨⟨⟨⟨z1,z2⟩,z3⟩,z4⟩,z5⟩,z6⟩:=z;ac_rfl;have e1:=Br z1;have e2:=Br z2;subst e1 e2;obtain⟨p,hp,h⟩:=bS h;split at h
  ·rename_i y;nofun;obtain⟨a,ha,h⟩:=bS h;obtain⟨te,ht,h⟩:=bS h;ac_rfl;obtain rfl:=sI h;exact z01 HE C ha z4 z5 z6 hp y ht z3
  ·exact noSome h
 ·exact noSome h
end
section
variable {prog:Program}{w:World}{A:Around}{E:Value->Shared->Prop}{s:Shared}
theorem zor {id:String}{b:Builtin}{args:List Value}{kw:List (Str × Value)}{Q:Value->Shared->Prop} (hk:builtinKind id=none) (hp:plainId id=true) (hb:entryFor table id=some b) (ha:argsOk id ⟨args,kw⟩)
    (hc:wpAny (model prog w) A.in1 (b ⟨args,kw⟩) (λfin s'=>∃c,fin=.again c/\c.quiet=true/\codeAny (model prog w) A c (λr t=>∃v,r=.ok (.ret v)/\Q v t) s') E s):wpAny (model prog w) A (call (.builtin id) args kw) Q E s:=by
  refine wpAny_call (codeAny_call_builtin hp hb ?_);have fin:=Cj hc (Q':=fun fin s'=>match fin with
    |.done f=>(match (Except.ok f:Result) with|.ok (.ret v)=>Q v s'|.ok _=>False|.error e=>E e s')
    | .again c=>c.quiet=true/\codeAny (model prog w) A c (fun r t=>match r with | .ok (.ret v)=>Q v t | .ok _=>False | .error e=>E e t) s') (fun f t z=>by
      obtain⟨c,rfl,q,z⟩:=z;exact⟨q,codeAny_mono z λr t y=>by obtain⟨v,rfl,y⟩:=y;exact y⟩) λ_ _ z=>z
  simp only [checkBuiltinCall,hk];cases sg:Manifest.signature? id with
  |none=>exact Af fin
  | some sig =>
    have e:Bind.checkArgs id sig ⟨args,kw⟩=pure ():=by simpa only [argsOk,sg] using ha
    simp only [e];exact Af fin
theorem zuf (a v:Value):argsOk "max" ⟨[a],[("default",v)]⟩:=by unfold argsOk;kernel_rfl
noncomputable def mxF (f:Nat->Int):Nat->Nat->Int->Int
 |_,0,b=>b
 |j,k+1,b=>mxF f (j+1) k (if f j > b then f j else b)
variable {I:Addr}{fp wr:List Addr}{n:Nat}{P:Nat->Value->Prop}{St:Nat->Heap->Prop}{R:Result->Shared->Prop}
theorem z5k (W:Walks prog w A.in1 I fp wr n P St) (f:Nat->Int) (hP:∀i v,P i v->∃t,v=.int (f i) t) (S:Addr) (nS:S ∉ fp) (d:Value) :
    ∀(k j:Nat) (s:Shared) (b:Int) (tb:Tok) (i0:Nat) (c:Nat),n=j+k->P i0 (.int b tb)->St j s.heap->s.heap.get? S=some { cls:=.type "list",dict:=none,data:=.seq #[.int b tb,.int b tb] c,slots:=#[] } ->
      (∀h' tk t,(∀a o,a ∉ wr->a≠S->s.heap.get? a=some o->h'.get? a=some o)->R (.ok (.ret (.int (mxF f j k b) t))) { s with heap:=h',toks:=tk })->codeAny (model prog w) A (.builtin "max.loop" ⟨[.ref I,.none,.ref S],[("default",d)]⟩) R s:=by
  have nW:S ∉ wr:=λh=>nS (W.sub _ h);have nm:(toString "max"++toString ".loop" : String) = "max.loop" := by decide
  have cmp:=CmpOf.ints_gt (prog:=prog) (w:=w) (A:=A.in1) (P:=P) f hP;intro k
  induction k with
  | zero =>
    intro j s b tb i0 c hn hb st hs hR;refine codeAny_builtin F.entry_max_loop ?_;rw[Around.under_plainId El _];show wpAny _ A.in1 (seqItems? (.ref S) >>= _) _ _ s;refine Aa (Db hs rfl ?_);show wpAny _ A.in1 (tryCatch (pyNext (.ref I)) _ >>= _) _ _ s;have st' : St n s.heap:=by rw[hn];exact st
    refine Aa (Hj (W.done s _ _ st' λh' tk k1=>?_));show wpAny _ A.in1 (updateSeq S (λ_=>#[]) >>= _) _ _ _;refine Aa (wpAny_updateSeq (k1 S _ nW hs) rfl (Aa (Gj (Af ?_))));exact hR _ tk tb λa o a1 a2 e=>(Dd _ _ (Ne.symm a2)).trans (k1 a o a1 e)
  | succ k ih =>
    intro j s b tb i0 c hn hb st hs hR;refine codeAny_builtin F.entry_max_loop ?_;rw[Around.under_plainId El _];show wpAny _ A.in1 (seqItems? (.ref S) >>= _) _ _ s;refine Aa (Db hs rfl ?_);show wpAny _ A.in1 (tryCatch (pyNext (.ref I)) _ >>= _) _ _ s;refine Aa (Hj (W.item j s _ _ #v[] st λv h1 tk p1 st1 k1=>?_));obtain⟨t1,rfl⟩:=hP j v p1;have hs1:=k1 S _ nW hs;show wpAny _ A.in1 (tryCatch (holding [.int (f j) t1,.int (f j) t1] (richCompare .Gt (.int (f j) t1) (.int b tb) >>= _)) _ >>= _) _ _ _;refine Aa (Hj (Cr (Aa (cmp j i0 _ _ _ _ _ p1 hb ?_))));have eb:f i0=b:=by obtain⟨_,e⟩:=hP i0 _ hb;cases e;rfl
    refine Aa (Cr (Gn ?_));refine Aa (Gj (Af ?_));show wpAny _ A.in1 (if decide (f j > f i0)=true then _ else _) _ _ _;rw[eb];by_cases g:f j > b
    · rw [Am g]
      simp only [Dp];refine Aa (wpAny_updateSeq hs1 rfl (Aa (Gj ?_)));rw[nm];refine Af ⟨plainId_quiet El _,ih (j+1) _ (f j) t1 j _ #v[] p1 (W.frame _ _ _ st1 λa ha o e=>(Dd _ _ (λz:S=a=>nS (z ▸ ha))).trans e) (Fg _ hs1 rfl) λh' tk' t k2=>?_⟩;have:=hR h' tk' t λa o a1 a2 e=>k2 a o a1 a2 ((Dd _ _ (Ne.symm a2)).trans (k1 a o a1 e));rw[mxF,if_pos g] at this;exact this
    · rw [Ay g]
      simp only [Bt,Dq];refine Aa (Gj ?_);rw[nm];refine Af ⟨plainId_quiet El _,ih (j+1) _ b tb i0 c #v[] hb st1 hs1 λh' tk' t k2=>?_⟩;have:=hR h' tk' t λa o a1 a2 e=>k2 a o a1 a2 (k1 a o a1 e);rw[mxF,if_neg g] at this;exact this
noncomputable def maxD (f:Nat->Int) (n:Nat) (d:Int):Int:=match n with
 |0=>d
 |n+1=>mxF f 1 n (f 0)
theorem z2s (W:Walks prog w A.in1 I fp wr n P St) (f:Nat->Int) (hP:∀i v,P i v->∃t,v=.int (f i) t) (S:Addr) (nS:S ∉ fp) (d:Int) (td:Tok) {c:Nat} (st:St 0 s.heap) (hs:s.heap.get? S=some { cls:=.type "list",dict:=none,data:=.seq #[] c,slots:=#[] })
    (hR:∀h' tk t,(∀a o,a ∉ wr->a≠S->s.heap.get? a=some o->h'.get? a=some o)->R (.ok (.ret (.int (maxD f n d) t))) { s with heap:=h',toks:=tk }):codeAny (model prog w) A (.builtin "max.loop" ⟨[.ref I,.none,.ref S],[("default",.int d td)]⟩) R s:=by
  have nW:S ∉ wr:=λh=>nS (W.sub _ h);have nm:(toString "max"++toString ".loop" : String) = "max.loop" := by decide
  refine codeAny_builtin F.entry_max_loop ?_;rw[Around.under_plainId El _];show wpAny _ A.in1 (seqItems? (.ref S) >>= _) _ _ s;refine Aa (Db hs rfl ?_);show wpAny _ A.in1 (tryCatch (pyNext (.ref I)) _ >>= _) _ _ s;cases n with
  | zero =>
    refine Aa (Hj (W.done s _ _ st λh' tk k1=>?_));show wpAny _ A.in1 (rule _ >>= _) _ _ _;refine Aa (Cv (Af ?_));exact hR h' tk td λa o a1 _ e=>k1 a o a1 e
  | succ n =>
    refine Aa (Hj (W.item 0 s _ _ (Nat.succ_pos n) st λv h1 tk p1 st1 k1=>?_));obtain⟨t1,rfl⟩:=hP 0 v p1;have hs1:=k1 S _ nW hs;show wpAny _ A.in1 (updateSeq S (λ_=>#[.int (f 0) t1,.int (f 0) t1]) >>= _) _ _ _;refine Aa (wpAny_updateSeq hs1 rfl ?_);rw[nm];refine Af ⟨plainId_quiet El _,z5k W f hP S nS _ n 1 _ (f 0) t1 0 _ (Nat.add_comm n 1) p1 (W.frame _ _ _ st1 λa ha o e=>(Dd _ _ (λz:S=a=>nS (z ▸ ha))).trans e) (Fg _ hs1 rfl) λh' tk' t k2=>?_⟩;exact hR h' tk' t λa o a1 a2 e=>k2 a o a1 a2 ((Dd _ _ (Ne.symm a2)).trans (k1 a o a1 e))
theorem zl3 {x:Value}{d:Int}{td:Tok}{Q:Value->Shared->Prop}
  (h:wpAny (model prog w) A.in1 (pyIter x) (λit s2=>∃I fp wr n P St f,it=.ref I/\Walks prog w A.in1 I fp wr n P St/\St 0 s2.heap/\(∀b∈fp,b<s2.heap.objs.size)/\(∀i v,P i v->∃t,v=.int (f i) t) /\
   ∀h' tk t,(∀a o,a ∉ wr->s2.heap.get? a=some o->h'.get? a=some o)->Q (.int (maxD f n d) t) { s2 with heap:=h',toks:=tk }) E s) :
  wpAny (model prog w) A (call (.builtin "max") [x] [("default",.int d td)]) Q E s:=by
 have nm:(toString "max"++toString ".loop" : String) = "max.loop" := by decide
 refine zor F.kind_max F.plain_max F.entry_max (zuf _ _) ?_;show wpAny _ A.in1 (Builtin.Builtins.bindParams "max" ["key","default"] 0 ⟨[],[("default",.int d td)]⟩ >>= _) _ _ s;refine Aa (Hm (show Builtin.Builtins.bindParams "max" ["key","default"] 0 ⟨[],[("default",.int d td)]⟩=pure [none,some (.int d td)] from rfl) ?_);refine Aa (Af ?_);refine Aa (Cj h (λit s2 z=>?_) λ_ _ e=>e);nofun;obtain⟨I,fp,wr,n,P,St,f,rfl,W,st,hf,hP,hQ⟩:=z;ac_rfl;refine Aa (Bu ?_);have nS:s2.heap.objs.size ∉ fp:=λm=>Cg _ (hf _ m);rw[nm];refine Af ⟨_,rfl,plainId_quiet El _,z2s W f hP s2.heap.objs.size nS d td (W.frame _ _ _ st λa _ o e=>Ac _ e) (As _ rfl) λh' tk t k=>⟨_,rfl,?_⟩⟩;exact hQ h' tk t λa o a1 e=>k a o a1 (Be (Ar e)) (Ac _ e)
end
noncomputable def mxL (ns:List Int) (d:Int):Int:=maxD (λi=>ns.getD i 0) ns.length d
noncomputable def zi7 (a:GA) (g:GE):GE:=λen=>(a en).bind λp=>(g p.1).bind λq=>(resA q.1 p.2).bind λw=>(seqW w).bind λws=>(zga ws).bind λns=>match q.2.1 with
 |.int d=>some (q.1,(.int (mxL ns d),false))
 |_=>none
section
variable {X:Cx}{S:Sx}{d:Nat}
theorem zyh {σ:St}{H:Hp}{s:Shared}{pins:List (Addr × Obj)}{ns:List Int}{k:Int}{tk:Tok}{a:Addr}{Q:Value->Shared->Prop} (hc:X.calm=true) (I:Inv X pins σ H s) (h:SqL X.K H a (ns.map V.int)\/SqT X.K H a (ns.map V.int))
  (q:∀h' tk t,(∀b o,s.heap.get? b=some o->h'.get? b=some o)->Q (.int (mxL ns k) t) { s with heap:=h',toks:=tk }):wpAny #v[3,7] X.A (call (.builtin "max") [.ref a] [("default",.int k tk)]) Q X.xe s:=by
 have go:∀{its:List Value},Vals (ns.map V.int) its->its.toArray.size=ns.length/\∀(i:Nat) (v:Value),its.toArray[i]?=some v->∃t,v=.int (ns.getD i 0) t:=λ{its} rv=>by
  have hl:=rv.length;rw[Ab] at hl;exact⟨by rw[Aq,hl],λi v e=>z47 rv (by simpa using e)⟩
 have kp:∀{ob:Obj}{h' : Heap},(∀b o,b ∉ [s.heap.objs.size]->(s.heap.push ob).get? b=some o->h'.get? b=some o)->∀b o,s.heap.get? b=some o->h'.get? b=some o:=λhk b o e =>
  hk b o (λz=>by rw[Aw] at z;subst z;exact absurd (Ar e) (Cg _)) (Ac _ e)
 have bd:∀{ob:Obj},a<s.heap.objs.size->∀b∈[s.heap.objs.size,a],b<(s.heap.push ob).objs.size:=λha b hb=>by
  rw[Dt];simp only [Ap,Bq,Gp] at hb;rcases hb with rfl|rfl
  ·exact Nat.lt_succ_self _
  ·exact Hd ha
 rcases h with h|h
 ·refine aG λGg qG => ?_;obtain⟨its,rv,p,_⟩:=I.list h;obtain⟨e1,e2⟩:=go rv;ac_rfl;have ha:a<s.heap.objs.size:=by obtain⟨o,e,_⟩:=p.isList;exact Ar e
  refine zl3 (Go p.isList ?_);refine⟨s.heap.objs.size,_,[s.heap.objs.size],its.toArray.size,_,_,λi=>ns.getD i 0,rfl,Walks.list (A:=X.A.in1) (show X.A.in1.handled=none from I.ok.hd hc) _ a (Be ha) its.toArray,⟨⟨_,As _ rfl,rfl,rfl⟩,p.isList.push _⟩,bd ha,e2,λh' tk t hk=>?_⟩;rw[e1];exact q h' tk t (kp hk)
 ·refine aG λGg qG => ?_;obtain⟨its,rv,⟨o,g1,g2,n,g3⟩,_⟩:=I.tuple h;obtain⟨e1,e2⟩:=go rv;ac_rfl;have p:s.heap.IsTuple a its.toArray:=⟨o,g1,g2,n,g3⟩;have ha:a<s.heap.objs.size:=Ar g1;refine zl3 (Gi p ?_);refine⟨s.heap.objs.size,_,[s.heap.objs.size],its.toArray.size,_,_,λi=>ns.getD i 0,rfl,Walks.tuple (A:=X.A.in1) (show X.A.in1.handled=none from I.ok.hd hc) _ a (Be ha) its.toArray,⟨⟨_,As _ rfl,rfl,rfl⟩,p.push _⟩,bd ha,e2,λh' tk t hk=>?_⟩;rw[e1];exact q h' tk t (kp hk)
theorem z67 {fE:Sx->Expr->Option GE} (HE:zbe fE) (C:CxOk X S d) {e ed:Expr}{a:GA}{g:GE}{kpos px pos:Pos} (ha:zbg fE S e=some a) (hns:zag e=true) (hd:fE S ed=some g) (hbl:S.bl "max" = true) :
    PE X (.Call (.Name "max" px) [e] [⟨some "default",ed,kpos⟩] pos) (tE X.K (zi7 a g)):=by
  intro pins s σ H Q I h;nofun;nofun;obtain⟨F,pr,en,en',r,R,hg,q⟩:=h;obtain⟨⟨e1,x⟩,h1,hg⟩:=bS hg;obtain⟨⟨e2,wd,fd⟩,h2,hg⟩:=bS hg;obtain⟨w,hw,hg⟩:=bS hg;obtain⟨ws,hws,hg⟩:=bS hg;obtain⟨ns,hi,hg⟩:=bS hg;ac_rfl;ac_rfl;cases wd with
  | int k =>
    have hg:some (e2,(W.int (mxL ns k),false))=some (en',r):=hg;obtain rfl:=(Prod.mk.inj (sI hg)).1;obtain rfl:=(Prod.mk.inj (sI hg)).2;obtain⟨gl,mn⟩:=zmn C hbl;have hst:starEach [e] X.env=(false,eval e X.env)::starEach [] X.env:=zah hns;refine Es (zdv I gl mn ycg ?_);refine Hi ?_ (by rw[hst];rfl) (by rw[hst];rfl);refine thn (zi8 (zak HE C ha) zds hst pos pins s σ H (λvs H1=>∃v F1,vs=[v]/\Same F F1/\Rel X.K F1 pr e1 σ H1/\ArgR X.K F1 σ x v) I ⟨F,pr,en,e1,x,R,h1,λF1 H1 v s1 R1 a1=>⟨v,F1,rfl,s1,R1,a1⟩⟩) λus s1 ⟨vs,H1,I1,rv,v,F1,ev,sm1,R1,a1⟩=>?_;subst ev;cases rv with
    | cons ru rv =>
      cases rv;refine PyProof.Rows.kws_cons (thn (HE X S d C _ _ hd pins s1 σ H1 (λdv H2=>∃F2,dv=.int k/\Same F1 F2/\Rel X.K F2 pr e2 σ H2) I1 ⟨F1,pr,e1,e2,(.int k,fd),R1,h2,λF2 H2 dv s2 R2 y=>⟨F2,y.isInt,s2,R2⟩⟩) λud s2 ⟨dv,H2,I2,rd,F2,ed',sm2,R2⟩=>PyProof.Rows.kws_nil ?_);subst ed';obtain⟨td,rfl⟩:=(show ∃t,ud=Value.int k t from rd);have rb:=(a1.mono sm2).repB R2 hw;nofun;obtain⟨l,vvs,ev,sq,rps⟩:=rb.seqW R2.sub hws;ac_rfl;subst ev;cases (show _=Value.ref l from ru);rw[zni hi] at rps;rw[rps.ints] at sq;exact zyh C.calm I2 sq λh' tk t hk=>⟨.int _,H2,I2.kept hk,⟨_,rfl⟩,q F2 H2 _ (sm1.trans sm2) R2 (.int _)⟩
  |_=>exact noSome hg
noncomputable def maxE (fE:Sx->Expr->Option GE) (S:Sx) (x:Str) (e:Expr) (key:Str) (ed:Expr):Option GE :=
 if x == ("max" : Str) && key == ("default" : Str) && S.bl x && zag e then (zbg fE S e).bind λa=>(fE S ed).bind λg=>some (zi7 a g) else none
theorem zvd {fE:Sx->Expr->Option GE}(HE:zbe fE)(C:CxOk X S d){x key:Str}{e ed:Expr}{kpos px pos:Pos}{g:GE}(h:maxE fE S x e key ed=some g):PE X (.Call (.Name x px) [e] [⟨some key,ed,kpos⟩] pos) (tE X.K g):=by
 unfold maxE at h;split at h
 ·rename_i z;simp only [Ad] at z;obtain⟨⟨⟨z1,z2⟩,z3⟩,z4⟩:=z;have e1:=Br z1;have e2:=Br z2;subst e1 e2;obtain⟨a,ha,h⟩:=bS h;obtain⟨gd,hd,h⟩:=bS h;obtain rfl:=sI h;exact z67 HE C ha z4 hd z3
 ·exact noSome h
end
section
variable {X:Cx}
end
noncomputable def fnW (Φ:Fn) (w:W):Option W:=(Φ [w]).bind λp=>if p.1.length=1 then some p.2.1 else none
noncomputable def zh2 (Φ:Fn) (a:GA):GE:=λen=>(a en).bind λp=>(resA p.1 p.2).bind λw=>(seqL w).bind λws=>(mapO (fnW Φ) ws).bind λks=>(zo3 ks ws).bind λout=>some (p.1,(.lst out,true))
section
variable {X:Cx}{S:Sx}{d:Nat}
theorem z13 {n:Nat}{ps:List Str}{Φ:Fn}{f:Addr}{fd:FuncData}(Fo:FnOk X.prog X.w X.K X.mg X.base CX0 n f fd ps (spF X.K [false] Φ))(B:zkp X.K fd ps [])(hr:Room n X.A)(hx:X.xe=λ_ _=>False):KCall X (.ref f) (fnW Φ) (λ_ _=>True) where
 mono:=λ_ _ _=>trivial
 run:=λpins s σ H F pr en w k v u _ I R rp ru hΦ=>by
  nofun;obtain⟨⟨ws',r⟩,e1,e2⟩:=bS hΦ;ac_rfl;split at e2
  ·rename_i hl1;obtain rfl:=sI e2;have bk:zam (za2 [(Sum.inl w:W ⊕ Nat)]) en (za3 [false] ws')=en:=by
    unfold zam;apply Dg;intro i;rw[Ex];cases en[i]? with
    |none=>rfl
    |some x=>rfl
   have sp:spF X.K [false] Φ [v] H (λv' H'=>∃F',Same F F'/\Rel X.K F' pr en σ H'/\Rep X.K F' r.1 v') E0:=by
    refine zo4 (xs:=[.inl w]) (en':=en) (r:=r) R (.cons rp .nil) ?_ λF' H' v' s' R' y=>?_
    ·show (if (true && true && _) = true then _ else none) = _;rw[if_pos (by rfl)];show (Φ [w]).bind _=_;rw[e1];show (if ws'.length=1 then some (zam (za2 [(Sum.inl w:W ⊕ Nat)]) en (za3 [false] ws'),r) else none)=_;rw[if_pos hl1,bk]
    ·refine aG λGg qG => ?_;obtain⟨F'',s'',R'',y''⟩:=y.freeze R';ac_rfl;exact⟨F'',s'.trans s'',R'',y''⟩
   have:=z3r (X:=X) (us:=[u]) (vs:=[v]) (dvs:=[]) Fo hr B .nil yah I (.cons ru .nil) sp;rw[hx] at this;exact Cj this (λu' s' ⟨v',H',I',rv',F',s1,R1,y1⟩=>⟨v',F',H',I',s1,R1,rv',y1⟩) λ_ _ z=>z
  ·exact noSome e2
theorem z0f {fE:Sx->Expr->Option GE} (HE:zbe fE) (C:CxOk X S d) {e:Expr}{a:GA} (ha:zbg fE S e=some a) (hns:zag e=true) {y:Str}{Φ:Fn}{py kpos px pos:Pos} (hf:S.fs.lookup y=some ([false],Φ)) (hgl:S.kd.lookup y=some .globalImplicit) (hdb:(y == ("__debug__" : Str))=false) (hbl:S.bl "sorted" = true) :
    PE X (.Call (.Name "sorted" px) [e] [⟨some "key",.Name y py,kpos⟩] pos) (tE X.K (zh2 Φ a)):=by
  intro pins s σ H Q I h;nofun;nofun;obtain⟨F,pr,en,en',r,R,hg,q⟩:=h;obtain⟨⟨e1,x⟩,h1,hg⟩:=bS hg;obtain⟨w,hw,hg⟩:=bS hg;obtain⟨ws,hws,hg⟩:=bS hg;obtain⟨ks,hks,hg⟩:=bS hg;obtain⟨out,ho,hg⟩:=bS hg;ac_rfl;ac_rfl;cases hg;nofun;obtain⟨gl,mn⟩:=zmn C hbl;obtain⟨ps,_,⟨f,fd,Fo,B,kp,mf⟩⟩:=C.fs y _ _ hf;ac_rfl;have hst:starEach [e] X.env=(false,eval e X.env)::starEach [] X.env:=zah hns;refine Es (zdv I gl mn (show bootBuiltins "sorted" = some (.builtin "sorted") from PyProof.Rows.boot_sorted) ?_);refine Hi ?_ (by rw[hst];rfl) (by rw[hst];rfl);refine thn (zi8 (zak HE C ha) zds hst pos pins s σ H (λvs H1=>∃v F1,vs=[v]/\Same F F1/\Rel X.K F1 pr e1 σ H1/\ArgR X.K F1 σ x v) I ⟨F,pr,en,e1,x,R,h1,λF1 H1 v s1 R1 a1=>⟨v,F1,rfl,s1,R1,a1⟩⟩) λus s1 ⟨vs,H1,I1,rv,v,F1,ev,sm1,R1,a1⟩=>?_;subst ev;cases rv with
  | cons ru rv =>
    cases rv;refine PyProof.Rows.kws_cons (zvc I1 (C.gl y hgl) mf (PyProof.Rows.kws_nil ?_) hdb);have rb:=a1.repB R1 hw;nofun;obtain⟨l,vvs,ev,sq,rps⟩:=rb.seqL R1.sub hws;ac_rfl;subst ev;cases (show _=Value.ref l from ru);have rm:Room d X.inn.A:=⟨C.room.hd,C.room.dp,by have:=C.sl;show X.A.units+1+1+16 * d+200<cLine;omega,C.room.gd⟩;exact zij (E:=X.xe) (Q:=Q) (Al:=λ_ _=>True) (z13 (X:=X.inn) Fo B rm C.xe) I1 trivial R1 sq rps hks ho (by have:=C.sl;omega) λF' H' v s' R' y=>q F' H' v (sm1.trans s') R' y
noncomputable def zr0 (fE:Sx->Expr->Option GE) (S:Sx) (e:Expr) (y:Str):Option GE:=if zag e && S.bl "sorted" && S.kd.lookup y == some .globalImplicit && !(y == ("__debug__" : Str)) then (match S.fs.lookup y with
  |some (m,Φ)=>if m == [false] then (zbg fE S e).bind λa=>some (zh2 Φ a) else none
  |none=>none) else none
theorem zv3 {fE:Sx->Expr->Option GE}(HE:zbe fE)(C:CxOk X S d){e:Expr}{y:Str}{g:GE}{py kpos px pos:Pos}(h:zr0 fE S e y=some g):PE X (.Call (.Name "sorted" px) [e] [⟨some "key",.Name y py,kpos⟩] pos) (tE X.K g):=by
 unfold zr0 at h;split at h
 ·rename_i z;simp only [Ad,Bool.not_eq_true',Fw] at z;nofun;obtain⟨⟨⟨z1,z2⟩,z3⟩,z4⟩:=z;ac_rfl;split at h
  ·rename_i m Φ hf;split at h
   ·rename_i q;obtain⟨a,ha,h⟩:=bS h;obtain rfl:=sI h;have em:m=[false]:=Br q;subst em;exact z0f HE C ha z1 hf z3 z4 z2
   ·exact noSome h
  ·exact noSome h
 ·exact noSome h
end
section
variable {K:PySem.W.Frag}{σ:St}{H:Hp}
end
noncomputable def zs6 (x:Expr->Option GE) (X:Cx):Prop:=∀e g,x e=some g->PE X e (tE X.K g)
section
variable {X:Cx}{S:Sx}{d:Nat}{fE:Sx->Expr->Option GE}
end
noncomputable def keyF:W->Option Key
 |.int i=>some (.inl i)
 |.str s=>some (.inr s)
 |_=>none
noncomputable def keysF:List W->Option (List Key)
 |[]=>some []
 |w::ws=>(keyF w).bind λk=>(keysF ws).bind λks=>some (k::ks)
noncomputable def keyD:W->Option DKey
 |.tup ws=>(keysF ws).bind λks=>some (.inr ks)
 |w=>(keyF w).bind λk=>some (.inl k)
noncomputable def KeyR (F:Hp):DKey->V->Prop
 |.inl k,v=>v=kV k
 |.inr ks,v=>∃b,v=.ref b/\F b=some (.tup (ks.map kV))
section
variable {K:PySem.W.Frag}{F H:Hp}
theorem Rep.keyF {w:W}{v:V}{k:Key}(h:Rep K F w v)(e:keyF w=some k):v=kV k:=by
 cases w with
 |int i=>obtain rfl:=sI e;exact h.isIt
 |str s=>obtain rfl:=sI e;cases h;rfl
 |_=>exact noSome e
theorem Reps.keysF:∀{ws:List W}{vs:List V}{ks:List Key},Reps K F ws vs->keysF ws=some ks->vs=ks.map kV
  |_,_,_,.nil,e=>by obtain rfl:=sI e;rfl
  | _,_,_,.cons h r,e=>by
    obtain⟨k,h1,e⟩:=bS e;obtain⟨ks,h2,e⟩:=bS e;obtain rfl:=sI e;rw[h.keyF h1,Reps.keysF r h2];rfl
theorem Rep.keyD {w:W}{v:V}{k:DKey} (h:Rep K F w v) (e:keyD w=some k):KeyR F k v:=by
  have flat:(L2.keyF w).bind (fun k=>some (Sum.inl k:DKey))=some k->KeyR F k v:=fun e=>by
    obtain⟨k1,h1,e⟩:=bS e;obtain rfl:=sI e;exact h.keyF h1
  cases w with
  | tup ws =>
    obtain⟨ks,h1,e⟩:=bS (show (L2.keysF ws).bind _=_ from e);obtain rfl:=sI e;cases h with
    |tup hh r=>exact⟨_,rfl,by rw[hh,r.keysF h1]⟩
  |_=>exact flat e
noncomputable def valW (kvs:List (DKey × W)) (k:DKey):Option W:=(kvs.find? λkv=>decide (kv.1=k)).map (·.2)
theorem zeo (p:DKey × W)(r:List (DKey × W))(k:DKey):valW (p::r) k=if p.1=k then some p.2 else valW r k:=by
 unfold valW;rw[Cz];by_cases h:p.1=k
 ·rw[Am h,if_pos h];rfl
 ·rw[Ay h,if_neg h]
theorem zma {κ:Type} [DecidableEq κ] (p:κ × V)(r:List (κ × V))(k:κ):valV (p::r) k=if p.1=k then some p.2 else valV r k:=by
 by_cases h:p.1=k
 ·rw[zfz h,if_pos h]
 ·rw[zfs h,if_neg h]
theorem zjc {κ:Type} [DecidableEq κ] {f:κ->DKey} (hf:∀a b,f a=f b->a=b):∀{ks:List κ}{ws:List W}{vs:List V}{k:κ}{w:W},ks.length=vs.length->Reps K F ws vs->valW ((ks.map f).zip ws) (f k)=some w->∃v,valV (ks.zip vs) k=some v/\Rep K F w v
  |[],_,_,_,_,_,_,e=>by simp [valW] at e
  |_::_,_,_,_,_,_,.nil,e=>by simp [valW] at e
  | k' :: ks,w' :: ws,v' :: vs,k,w,hl,.cons h r,e=>by
    rw[Ah,Bs,zeo] at e;rw[Bs,zma];by_cases z:k'=k
    · subst z
      rw[if_pos rfl] at e ⊢;obtain rfl:=sI e;exact⟨_,rfl,h⟩
    · rw [if_neg fun q => z (hf _ _ q)] at e
      rw[if_neg z];exact zjc hf (Nat.succ.inj hl) r e
theorem zi1 {κ:Type} [DecidableEq κ] {f:κ->DKey} (hf:∀a b,f a=f b->a=b):∀{ks:List κ}{ws:List W}{vs:List V}{k:κ},ks.length=vs.length->Reps K F ws vs->valW ((ks.map f).zip ws) (f k)=none->valV (ks.zip vs) k=none
  |[],_,_,_,_,_,_=>rfl
  |_::_,_,_,_,hl,.nil,_=>by simp at hl
  | k' :: ks,w' :: ws,v' :: vs,k,hl,.cons h r,e=>by
    rw[Ah,Bs,zeo] at e;rw[Bs,zma];by_cases z:k'=k
    · subst z;rw[if_pos rfl] at e;exact nomatch e
    · rw [if_neg fun q => z (hf _ _ q)] at e
      rw[if_neg z];exact zi1 hf (Nat.succ.inj hl) r e
theorem zgn {κ:Type}{f:κ->DKey}{k:DKey} (hk:∀a,f a≠k):∀{ks:List κ}{ws:List W},valW ((ks.map f).zip ws) k=none
  |[],_=>rfl
  |_::_,[]=>rfl
  | k' :: ks,w' :: ws=>by
    rw[Ah,Bs,zeo,if_neg (hk k')];exact zgn hk
noncomputable def ze5 {κ:Type} [DecidableEq κ] (ks:List κ) (k:κ):List κ:=if k∈ks then ks else ks++[k]
noncomputable def ze4 {κ α:Type} [DecidableEq κ] (ks:List κ) (vs:List α) (k:κ) (v:α):List α:=if k∈ks then List.zipWith (λk' v'=>if k'=k then v else v') ks vs else vs++[v]
theorem zl9 {κ:Type} [DecidableEq κ] {f:κ->DKey}(hf:∀a b,f a=f b->a=b)(ks:List κ)(k:κ):ze5 (ks.map f) (f k)=(ze5 ks k).map f:=by
 have m:f k∈ks.map f↔k∈ks:=by
  rw[Bv];exact⟨λ⟨a,h,e⟩=>hf _ _ e ▸ h,λh=>⟨k,h,rfl⟩⟩
 unfold ze5;by_cases h:k∈ks
 ·rw[if_pos h,if_pos (m.mpr h)]
 ·rw[if_neg h,if_neg (mt m.mp h),Cc];rfl
theorem zli {κ:Type} [DecidableEq κ] {f:κ->DKey} (hf:∀a b,f a=f b->a=b) {k:κ}{w:W}{v:V} (h:Rep K F w v):∀{ks:List κ}{ws:List W}{vs:List V},Reps K F ws vs->Reps K F (List.zipWith (fun k' v'=>if k'=f k then w else v') (ks.map f) ws) (List.zipWith (fun k' v'=>if k'=k then v else v') ks vs)
  |[],_,_,_=>.nil
  |_::_,_,_,.nil=>.nil
  | k' :: ks,_,_,.cons q r=>by
    rw[Ah,Eb,Eb];refine .cons ?_ (zli hf h r);by_cases z:k'=k
    · subst z;rw[if_pos rfl,if_pos rfl];exact h
    · rw[if_neg z,if_neg λe=>z (hf _ _ e)];exact q
theorem zig {κ:Type} [DecidableEq κ] {f:κ->DKey}(hf:∀a b,f a=f b->a=b){k:κ}{w:W}{v:V}(h:Rep K F w v){ks:List κ}{ws:List W}{vs:List V}(r:Reps K F ws vs):Reps K F (ze4 (ks.map f) ws (f k) w) (ze4 ks vs k v):=by
 have m:f k∈ks.map f↔k∈ks:=by
  rw[Bv];exact⟨λ⟨a,h,e⟩=>hf _ _ e ▸ h,λh=>⟨k,h,rfl⟩⟩
 unfold ze4;by_cases z:k∈ks
 ·rw[if_pos z,if_pos (m.mpr z)];exact zli hf h r
 ·rw[if_neg z,if_neg (mt m.mp z)];exact r.append (.cons h .nil)
theorem zve {κ α:Type} [DecidableEq κ] {ks:List κ}{vs:List α}(hl:ks.length=vs.length)(k:κ)(v:α):(ze5 ks k).length=(ze4 ks vs k v).length:=by
 unfold ze5 ze4;split
 ·rw[Fi,hl,Gz]
 ·rw[Ba,Ba,hl];rfl
theorem zvz {κ:Type} [DecidableEq κ] (k:κ) (v:V):∀{ks:List κ}{vs:List V},(ks.zip vs).map (fun kv=>if kv.1=k then (kv.1,v) else kv)=ks.zip (List.zipWith (fun k' v'=>if k'=k then v else v') ks vs)
  |[],_=>rfl
  |_::_,[]=>rfl
  | k' :: ks,v' :: vs=>by
    rw[Bs,Ah,zvz k v,Eb,Bs];by_cases z:k'=k
    · rw[if_pos z,if_pos z]
    · rw[if_neg z,if_neg z]
theorem zxz {κ:Type} [DecidableEq κ] (k:κ):∀{ks:List κ}{vs:List V},ks.length=vs.length->((ks.zip vs).any fun kv=>decide (kv.1=k))=decide (k∈ks)
  |[],_,_=>rfl
  |_::_,[],h=>by simp at h
  | k' :: ks,v' :: vs,h=>by
    rw[Bs,Du,zxz k (Nat.succ.inj h)];by_cases z:k'=k
    · subst z;simp
    · have : ¬ k = k' := fun e => z e.symm
      simp [z,this]
theorem zql {κ:Type} [DecidableEq κ] {ks:List κ}{vs:List V}(hl:ks.length=vs.length)(k:κ)(v:V):putK (ks.zip vs) k v=(ze5 ks k).zip (ze4 ks vs k v):=by
 unfold putK ze5 ze4;rw[zxz k hl];by_cases z:k∈ks
 ·rw[if_pos (Am z),if_pos z,if_pos z,zvz]
 ·rw[if_neg (λq=>z (Au q)),if_neg z,if_neg z,List.zip_append hl];rfl
noncomputable def DctR (K:PySem.W.Frag) (F H:Hp) (a:Addr) (ks:List DKey) (ws:List W):Prop :=
 (∃(js:List Key) (vs:List V),ks=js.map .inl/\H a=some (.dK (js.zip vs))/\js.length=vs.length/\Reps K F ws vs) \/
 ∃(js:List (List Key)) (vs:List V),ks=js.map .inr/\H a=some (.dT (js.zip vs))/\js.length=vs.length/\Reps K F ws vs
theorem OwnR.dct' {ks:List DKey}{ws:List W}{o:HO}{a:Addr}(h:OwnR K F (.dct ks ws) o)(e:H a=some o):DctR K F H a ks ws:=by
 generalize hw:W.dct ks ws=w at h;cases h with
 |lst r=>cases hw
 |dct hl r=>cases hw;exact .inl ⟨_,_,rfl,e,hl,r⟩
 |dctT hl r=>cases hw;exact .inr ⟨_,_,rfl,e,hl,r⟩
theorem RepB.dct {ks:List DKey}{ws:List W}{v:V}(s:Same F H)(r:RepB K F H (.dct ks ws) v):∃a,v=.ref a/\DctR K F H a ks ws:=by
 rcases r with r|⟨a,o,w',e,rfl,h,q⟩
 ·generalize hw : W.dct ks ws = w at r;cases r with
  |dct h hl r=>cases hw;exact⟨_,rfl,.inl ⟨_,_,rfl,s _ _ h,hl,r⟩⟩
  |dctT h hl r=>cases hw;exact⟨_,rfl,.inr ⟨_,_,rfl,s _ _ h,hl,r⟩⟩
  |_=>cases hw
 ·subst e;exact⟨a,rfl,q.dct' h⟩
theorem ziw (a b:Key)(h:(Sum.inl a:DKey)=.inl b):a=b:=Sum.inl.inj h
theorem zjg (a b:List Key)(h:(Sum.inr a:DKey)=.inr b):a=b:=Sum.inr.inj h
theorem DctR.get {a:Addr}{ks:List DKey}{ws:List W}{d:DKey}{y:V}{w:W} (s:Same F H) (h:DctR K F H a ks ws) (hk:KeyR F d y) (e:valW (ks.zip ws) d=some w):∃v,DGet H a y (some v)/\Rep K F w v:=by
  rcases h with⟨js,vs,rfl,h,hl,r⟩|⟨js,vs,rfl,h,hl,r⟩
  · cases d with
    | inl k =>
      obtain⟨v,h1,h2⟩:=zjc ziw hl r e;exact⟨v,.inl ⟨_,k,.inl h,hk,h1.symm⟩,h2⟩
    |inr k=>rw[zgn (f:=Sum.inl) (λa z=>by cases z)] at e;exact nomatch e
  · cases d with
    |inl k=>rw[zgn (f:=Sum.inr) (λa z=>by cases z)] at e;exact nomatch e
    | inr k =>
      obtain⟨v,h1,h2⟩:=zjc zjg hl r e;obtain⟨b,hb,fb⟩:=hk;exact⟨v,.inr ⟨_,k,b,.inl h,hb,s _ _ fb,h1.symm⟩,h2⟩
noncomputable def DNo (H:Hp) (a:Addr) (y:V):Prop:=DGet H a y none\/(H a=some (.dK [])/\∃(b:Addr) (k:List Key),y=.ref b/\H b=some (.tup (k.map kV)))\/(H a=some (.dT [])/\∃k,y=kV k)
noncomputable def zhb (d:DKey) (ks:List DKey):Bool:=ks.all λk=>k.isLeft == d.isLeft
theorem DctR.no {a:Addr}{ks:List DKey}{ws:List W}{d:DKey}{y:V} (s:Same F H) (h:DctR K F H a ks ws) (hk:KeyR F d y) (hs:zhb d ks=true) (e:valW (ks.zip ws) d=none):DNo H a y:=by
  rcases h with⟨js,vs,rfl,h,hl,r⟩|⟨js,vs,rfl,h,hl,r⟩
  · cases d with
    |inl k=>exact .inl (.inl ⟨_,k,.inl h,hk,(zi1 ziw hl r e).symm⟩)
    | inr k =>
      cases js with
      |nil=>obtain⟨b,hb,fb⟩:=hk;exact .inr (.inl ⟨h,b,k,hb,s _ _ fb⟩)
      |cons j js=>unfold zhb at hs;rw[Ah,Bo,Ad] at hs;exact nomatch hs.1
  · cases d with
    | inl k =>
      cases js with
      |nil=>exact .inr (.inr ⟨h,k,hk⟩)
      |cons j js=>unfold zhb at hs;rw[Ah,Bo,Ad] at hs;exact nomatch hs.1
    |inr k=>obtain⟨b,hb,fb⟩:=hk;exact .inl (.inr ⟨_,k,b,.inl h,hb,s _ _ fb,(zi1 zjg hl r e).symm⟩)
end
section
variable {X:Cx}{pins:List (Addr × Obj)}{σ:St}{H:Hp}{s:Shared}{a:Addr}
theorem zrq {H:Hp}{a:Addr}{o o' : HO}(e:H a=some o):upd (upd H a o') a o=H:=by
 rw[zou]
 funext b
 by_cases h:b=a
 ·subst h;rw[upd_same,e]
 ·rw[upd_ne h]
theorem reT (I:Inv X pins σ H s)(e:H a=some (.dK [])):Inv X pins σ (upd H a (.dT [])) s:=by
 obtain⟨z,hd,vs,rel,o,es,ep,h1,h2,h3,h4,h5,h6⟩:=z9v I.hok e;have hv:vs=[]:=List.length_eq_zero_iff.mp rel.length.symm;subst hv;have he:es.toList=[]:=by
  generalize es.toList=l at h5;cases h5
  rfl
 exact zgj (h':=s.heap) (t':=s.toks) I (by rw[e];exact True.intro) ⟨rfl,λ_ _=>rfl⟩ ⟨o,h1⟩ ⟨Bk _,hd,[],.nil,o,es,ep,h1,h2,h3,he,Gf⟩
theorem reK (I:Inv X pins σ H s)(e:H a=some (.dT [])):Inv X pins σ (upd H a (.dK [])) s:=by
 obtain⟨z,hd,xs,rel,o,es,ep,h1,h2,h3,h4,h5⟩:=(show ObjOk X.prog X.w H s.heap a (.dT []) from I.hok a _ e);cases rel;have he:es=#[]:=by cases es;simp at h4;rw[h4]
 subst he;exact zgj (h':=s.heap) (t':=s.toks) I (by rw[e];exact True.intro) ⟨rfl,λ_ _=>rfl⟩ ⟨o,h1⟩ ⟨Bk _,hd,[],.nil,o,#[],ep,h1,h2,h3,(λe he=>absurd he (by simp)),.nil,Gf⟩
end
section
variable {K:PySem.W.Frag}{F H:Hp}{pr:Prt}{en:En}{σ:St}
theorem Rel.newOwn (R:Rel K F pr en σ H){p:Addr}(hp:H p=none){w:W}{o:HO}(h:OwnR K F w o):Rel K F pr en σ (upd H p o)/\Res K F (upd H p o) pr en σ (w,true) (.ref p):=by
 refine⟨R.lay hp o,p,o,w,rfl,rfl,upd_same,R.sub.free hp,h,λi w' e z=>?_,λq o2 hq z=>?_⟩
 ·obtain⟨a,vs,ws,h1,h2,h3,h4,h5⟩:=R.own i w' e;rw[h2] at z;cases z;rw[hp] at h3;exact noSome h3
 ·have:=(R.prt q o2 hq).1;rw[z,hp] at this;exact noSome this
end
noncomputable def z75:GE:=λen=>some (en,(.dct [] [],true))
theorem zus {K:PySem.W.Frag}{σ:St}{H:Hp}{Q:VK}(h:tE K z75 σ H Q):z3o σ H Q:=by
 obtain⟨F,pr,en,en',r,R,h,q⟩:=h;cases h;intro p hp;obtain⟨R',y⟩:=R.newOwn hp (w:=.dct [] []) (o:=.dK []) (.dct (ks:=[]) (vs:=[]) rfl .nil);exact q F _ _ (.refl F) R' y
theorem z4q {X:Cx}{pins:List (Addr × Obj)}{σ:St}{H:Hp}{s:Shared}{a:Addr}{y d:V}{u r:Value}{A:Around}{E:Value->Shared->Prop}{Q:Value->Shared->Prop} (hu:A.units+1 < cLine) (I:Inv X pins σ H s) (g:DNo H a y) (ry:RelV y u) (rd:RelV d r) (h:∀w' s',Inv X pins σ H s'->RelV d w'->Q w' s') :
  wpAny #v[3,7] A (call (.builtin "dict.get") [.ref a,u,r]) Q E s:=by
 rcases g with g|⟨e,b,k,rfl,hb⟩|⟨e,k,rfl⟩
 ·exact d_get2 hu I g ry rd h
 ·have ne : b ≠ a:=λz=>by subst z; rw[e] at hb; exact nomatch hb
  refine d_get2 hu (reT I e) (.inr ⟨[],k,b,.inl upd_same,rfl,by rw[upd_ne ne];exact hb,rfl⟩) ry rd λw' s' I' r'=>h w' s' ?_ r';have:=reK I' upd_same
  rwa [zrq e] at this
 ·refine d_get2 hu (reK I e) (.inl ⟨[],k,.inl upd_same,rfl,rfl⟩) ry rd λw' s' I' r' => h w' s' ?_ r';have:=reT I' upd_same
  rwa [zrq e] at this
noncomputable def z4k (td ty tx:TE):TE:=λσ H Q=>td σ H λx H1=>∃a,x=.ref a/\IsD H1 a/\ty σ H1 λy H2=>tx σ H2 λz H3=>(∃v,DGet H3 a y (some v)/\Q v H3)\/(DNo H3 a y/\Q z H3)
theorem z0d {X:Cx}{o e f:Expr}{apos cpos:Pos}{td ty tx:TE}(hu:X.A.units+1<cLine)(ho:PE X o td)(he:PE X e ty)(hf:PE X f tx)(m:M2 X o "get" apos e f cpos):PE X (.Call (.Attribute o "get" apos) [e,f] [] cpos) (z4k td ty tx):=by
 intro pins s σ H Q I h;refine wpAny_Call_method m.base m.few m.line PySem.F.plainAttrs_dict PySem.F.slot_dict_get PySem.F.type_dict_get (thn (ho pins s σ H _ I h) λu s1 ⟨x,H1,I1,rx,a,ex,d,q1⟩=>?_);subst ex;obtain rfl:u=Value.ref a:=rx;obtain⟨t1,t2,_⟩:=z39 I1 d;refine⟨t1,t2,?_⟩;rw[m.trees];refine Gq rfl (Calls.evalArgs_plain (Calls.spliced_cons (thn (he pins s1 σ H1 _ I1 q1) λiv s2 ⟨y,H2,I2,ry,q2⟩ =>
  Calls.spliced_cons (thn (hf pins s2 σ H2 _ I2 q2) λfv s3 ⟨z,H3,I3,rz,q3⟩=>Calls.spliced_nil ?_))))
 rcases q3 with⟨v,g,q3⟩|⟨g,q3⟩
 ·exact d_get2 hu I3 g ry rz λw' s4 I4 rw'=>⟨v,H3,I4,rw',q3⟩
 ·exact z4q hu I3 g ry rz λw' s4 I4 rw'=>⟨z,H3,I4,rw',q3⟩
noncomputable def zhl (i:Nat) (g g' : GE):GE:=fun en=>match en[i]? with
  | some (some (.dct _ _,_))=>(g en).bind fun p=>(g' p.1).bind fun q=>(keyD p.2.1).bind fun d=>match q.1[i]? with
    | some (some (.dct ks ws,_))=>(match valW (ks.zip ws) d with
      |some w=>some (q.1,(w,false))
      |none=>if zhb d ks then some (q.1,q.2) else none)
    |_=>none
  |_=>none
theorem Rel.repD {K:PySem.W.Frag}{F H:Hp}{pr:Prt}{en:En}{σ:St}(R:Rel K F pr en σ H){i:Nat}{ks:List DKey}{ws:List W}{f:Bool}(e:en[i]?=some (some (.dct ks ws,f))):∃a,σ[i]?=some (some (.ref a))/\DctR K F H a ks ws:=by
 obtain⟨v,hv⟩:=R.has e;obtain⟨a,rfl,D⟩:=(R.repB e hv).dct R.sub;exact⟨a,hv,D⟩
theorem DctR.isD {K:PySem.W.Frag}{F H:Hp}{a:Addr}{ks:List DKey}{ws:List W}(h:DctR K F H a ks ws):IsD H a:=by
 rcases h with⟨js,vs,_,h,_⟩|⟨js,vs,_,h,_⟩
 ·exact .inl ⟨_,.inl h⟩
 ·exact .inr ⟨_,.inl h⟩
theorem Res.key {K:PySem.W.Frag}{F H:Hp}{pr:Prt}{en:En}{σ:St}{r:W × Bool}{v:V}{d:DKey}(h:Res K F H pr en σ r v)(e:keyD r.1=some d):KeyR F d v:=by
 obtain⟨w,b⟩:=r;cases b with
 |false=>exact Rep.keyD h e
 |true=>obtain⟨a,o,w',z,_,_,_,q,_⟩:=h;subst z;cases q<;>exact noSome e
theorem KeyR.mono {F F' : Hp}{d:DKey}{v:V}(s:Same F F')(h:KeyR F d v):KeyR F' d v:=by
 cases d with
 |inl k=>exact h
 |inr k=>obtain⟨b,h1,h2⟩:=h;exact⟨b,h1,s _ _ h2⟩
theorem zyz {K:PySem.W.Frag}{i:Nat}{g g' : GE}{σ:St}{H:Hp}{Q:VK}(h:tE K (zhl i g g') σ H Q):z4k (tVar i) (tE K g) (tE K g') σ H Q:=by
 nofun;obtain⟨F,pr,en,en',r,R,h,q⟩:=h;ac_rfl;unfold zhl at h;split at h
 ·rename_i ks0 ws0 f0 hx0;nofun;obtain⟨a,ha,D0⟩:=R.repD hx0;obtain⟨⟨e1,r1⟩,h1,h⟩:=bS h;obtain⟨⟨e2,r2⟩,h2,h⟩:=bS h;obtain⟨d,hd,h⟩:=bS h;ac_rfl;refine⟨.ref a,ha,a,rfl,D0.isD,F,pr,en,e1,r1,R,h1,λF1 H1 v1 s1 R1 y1=>⟨F1,pr,e1,e2,r2,R1,h2,λF2 H2 v2 s2 R2 y2=>?_⟩⟩;have kr:KeyR F2 d v1:=(y1.key hd).mono s2;split at h
  ·rename_i ks ws f1 hx1;obtain⟨a',ha',D⟩:=R2.repD hx1;rw[ha] at ha';cases ha';split at h
   ·rename_i w hw;cases h;obtain⟨v,g1,g2⟩:=D.get R2.sub kr hw;exact .inl ⟨v,g1,q F2 H2 v (s1.trans s2) R2 g2⟩
   ·rename_i hw;split at h
    ·rename_i hs;cases h;exact .inr ⟨D.no R2.sub kr hs hw,q F2 H2 v2 (s1.trans s2) R2 y2⟩
    ·exact noSome h
  ·exact noSome h
 ·exact noSome h
theorem ztc {X:Cx}{pins:List (Addr × Obj)}{σ:St}{H:Hp}{s:Shared}{a:Addr}{y v:V}{u r:Value}{A:Around}{E:Value->Shared->Prop}{Q:Unit->Shared->Prop} (hu:A.units+1 < cLine) (I:Inv X pins σ H s)
  (g:(∃H',DPut H a y v H'/\∀s',Inv X pins σ H' s'->Q () s')\/(H a=some (.dK [])/\∃(b:Addr) (k:List Key),y=.ref b/\H b=some (.tup (k.map kV))/\∀s',Inv X pins σ (upd H a (.dT (putK [] k v))) s'->Q () s')\/(H a=some (.dT [])/\∃k,y=kV k/\∀s',Inv X pins σ (upd H a (.dK (putK [] k v))) s'->Q () s')) (ry:RelV y u) (rv:RelV v r) :
  wpAny #v[3,7] A (setItem (.ref a) u r) Q E s:=by
 rcases g with⟨H',g,h⟩|⟨e,b,k,rfl,hb,h⟩|⟨e,k,rfl,h⟩
 ·exact d_setItem hu I g ry rv h
 ·have ne : b ≠ a:=λz=>by subst z; rw[e] at hb; exact nomatch hb
  refine d_setItem hu (reT I e) (.inr ⟨[],k,b,upd_same,rfl,by rw[upd_ne ne];exact hb,by rw[sizeLine_eq];decide,rfl⟩) ry rv λs' I'=>h s' ?_
  rwa [zou] at I'
 ·refine d_setItem hu (reK I e) (.inl ⟨[],k,upd_same,rfl,by rw[sizeLine_eq]; decide,rfl⟩) ry rv λs' I' => h s' ?_
  rwa [zou] at I'
noncomputable def ybs:V->V->V->Hp->(Hp->Prop)->Prop:=λo y v H Q=>∃a,o=.ref a/\((∃H',DPut H a y v H'/\Q H')\/(H a=some (.dK [])/\∃(b:Addr) (k:List Key),y=.ref b/\H b=some (.tup (k.map kV))/\Q (upd H a (.dT (putK [] k v))))\/(H a=some (.dT [])/\∃k,y=kV k/\Q (upd H a (.dK (putK [] k v)))))
theorem z0x {X:Cx}(hu:X.A.units+1<cLine):PSet X ybs:=by
 intro pins s σ H o i v ov iv u Q I ro ri rv h;obtain⟨a,rfl,h⟩:=h;cases ro;refine ztc hu I ?_ ri rv;rcases h with⟨H',g,q⟩|⟨e,b,k,e1,hb,q⟩|⟨e,k,e1,q⟩
 ·exact .inl ⟨H',g,λs' I'=>⟨H',I',q⟩⟩
 ·exact .inr (.inl ⟨e,b,k,e1,hb,λs' I'=>⟨_,I',q⟩⟩)
 ·exact .inr (.inr ⟨e,k,e1,λs' I'=>⟨_,I',q⟩⟩)
theorem PSet.or {X:Cx}{t t' : TSet}(h:PSet X t)(h' : PSet X t'):PSet X λo i v H Q=>t o i v H Q\/t' o i v H Q:=by
 intro pins s σ H o i v ov iv u Q I ro ri rv q;rcases q with q|q
 ·exact h pins s σ H o i v ov iv u Q I ro ri rv q
 ·exact h' pins s σ H o i v ov iv u Q I ro ri rv q
noncomputable def zub (i:Nat) (k:GE) (g:GE):GS:=fun en=>(g en).bind fun p=>match p.1[i]? with
  | some (some _)=>(k p.1).bind fun q=>match q.1[i]? with
    |some (#v[ws,2])=>(intW q.2.1).bind λn=>(ixN ws.length n).bind λj=>some (q.1.set i (#v[(ws.set j p.2.1),2]),.nx)
    |some (some (.dct ks ws,true))=>(keyD q.2.1).bind λd=>if zhb d ks && decide (ks.length<sizeLine) then some (q.1.set i (some (.dct (ze5 ks d) (ze4 ks ws d p.2.1),true)),.nx) else none
    |_=>none
  |_=>none
theorem zwa {K:PySem.W.Frag}{mp:List Nat}{D:Ends}{σ:St}{H:Hp}{i:Nat}{k g:GE} (h:tS K mp (zub i k g) D σ H):tAsg (tE K g) (gSub (tVar i) (tE K k) (fun o i v H Q=>z5v o i v H Q\/ybs o i v H Q)) D σ H:=by
  obtain⟨F,pr,en,en',fl,R,h,q⟩:=h;obtain⟨⟨e1,r1⟩,h1,h⟩:=bS h;refine⟨F,pr,en,e1,r1,R,h1,λF1 H1 v1 s1 R1 y1=>?_⟩;obtain⟨F2,s2,R2,x1⟩:=y1.freeze R1;split at h
  · rename_i x0 hx0
    obtain⟨⟨e2,r2⟩,h2,h⟩:=bS h;obtain⟨w0,f0⟩:=x0;obtain⟨v0,hv0⟩:=R2.has hx0;refine⟨v0,hv0,F2,pr,e1,e2,r2,R2,h2,λF3 H3 v2 s3 R3 y2=>?_⟩;split at h
    · rename_i ws eq2
      obtain ⟨n,hn,h⟩:=bS h;obtain ⟨j,hj,h⟩:=bS h;cases h;obtain ⟨w2,f2⟩:=r2;have ew:w2=.int n:=by
        cases w2 with
        |int j=>obtain rfl:=sI hn;rfl
        |_=>exact noSome hn
      subst ew;obtain⟨a,vs,ws',q1,q2,q3,q4,q5⟩:=R3.ownL eq2;cases q1;rw[hv0] at q2;cases q2;refine .inl ⟨a,vs,n,j,rfl,y2.isInt,q3,by rw[<-q5.length];exact hj,?_⟩;exact q F3 σ _ (s1.trans (s2.trans s3)) (R3.change eq2 hv0 (q5.set (x1.mono s3) j)) (.refl _ _)
    · rename_i ks ws eq2
      obtain⟨d,hd,h⟩:=bS h;split at h
      · rename_i z
        rw[Ad] at z;have z2:=Au z.2;cases h;have kr:=y2.key hd;obtain⟨a,ha,D⟩:=R3.repD eq2;rw[hv0] at ha;cases ha;refine .inr ⟨a,rfl,?_⟩;rcases D with⟨js,vs,rfl,hH,hl,r⟩|⟨js,vs,rfl,hH,hl,r⟩
        · cases d with
          | inl k =>
            refine .inl ⟨_,.inl ⟨_,k,hH,kr,by rw[List.length_zip,<-hl,Gz];rw[Ab] at z2;exact z2,rfl⟩,?_⟩;rw[zql hl];rw[zl9 ziw] at q;exact q F3 σ _ (s1.trans (s2.trans s3)) (R3.changeO eq2 hv0 (.dct (zve hl _ _) (zig ziw (x1.mono s3) r))) (.refl _ _)
          | inr k =>
            cases js with
            |cons j js=>have z1:=z.1;unfold zhb at z1;rw[Ah,Bo,Ad] at z1;exact nomatch z1.1
            | nil =>
              have hv:vs=[]:=List.length_eq_zero_iff.mp hl.symm;subst hv;obtain⟨b,hb,fb⟩:=kr;refine .inr (.inl ⟨hH,b,k,hb,R3.sub _ _ fb,?_⟩);cases r;exact q F3 σ _ (s1.trans (s2.trans s3)) (R3.changeO eq2 hv0 (.dctT (ks:=[k]) (vs:=[v1]) rfl (.cons (x1.mono s3) .nil))) (.refl _ _)
        · cases d with
          | inr k =>
            obtain⟨b,hb,fb⟩:=kr;refine .inl ⟨_,.inr ⟨_,k,b,hH,hb,R3.sub _ _ fb,by rw[List.length_zip,<-hl,Gz];rw[Ab] at z2;exact z2,rfl⟩,?_⟩;rw[zql hl];rw[zl9 zjg] at q;exact q F3 σ _ (s1.trans (s2.trans s3)) (R3.changeO eq2 hv0 (.dctT (zve hl _ _) (zig zjg (x1.mono s3) r))) (.refl _ _)
          | inl k =>
            cases js with
            |cons j js=>have z1:=z.1;unfold zhb at z1;rw[Ah,Bo,Ad] at z1;exact nomatch z1.1
            | nil =>
              have hv:vs=[]:=List.length_eq_zero_iff.mp hl.symm;subst hv;refine .inr (.inr ⟨hH,k,kr,?_⟩);cases r;exact q F3 σ _ (s1.trans (s2.trans s3)) (R3.changeO eq2 hv0 (.dct (ks:=[k]) (vs:=[v1]) rfl (.cons (x1.mono s3) .nil))) (.refl _ _)
      · exact noSome h
    · exact noSome h
  · exact noSome h
section
variable {X:Cx}
end
noncomputable def keyV:DKey->Option W
 |.inl (.inl i)=>some (.int i)
 |.inl (.inr s)=>some (.str s)
 |.inr _=>none
noncomputable def yar:List DKey->Option (List W)
 |[]=>some []
 |k::ks=>(keyV k).bind λw=>(yar ks).bind λws=>some (w::ws)
noncomputable def yeg:ON
 |[.dct ks _]=>(yar ks).bind λws=>#v[ws,2]
 |ws=>yc8 ws
section
variable {X:Cx}
end
noncomputable def yei (S:Sx):Expr->Bool
 |.Name x _=>dOn S x
 |_=>false
section
variable {X:Cx}{S:Sx}{d:Nat}{fE:Sx->Expr->Option GE}
theorem yb4 (C:CxOk X S d):X.A.units+1<cLine:=by have:=C.sl;omega
noncomputable def znl (fE:Sx->Expr->Option GE) (S:Sx):Expr->Option GE
 |.Dict ks vs _=>if S.bn.contains ("dict" : Str) && ks.isEmpty && vs.isEmpty then some z75 else none
 |_=>none
theorem zr6 (HE:zbe fE)(C:CxOk X S d):zs6 (znl fE S) X:=λe g h=>by
 unfold znl at h;split at h
 ·split at h
  ·rename_i ks vs _ z;rw[Ad,Ad] at z;obtain rfl:=sI h;have e1:ks=[]:=List.isEmpty_iff.mp z.1.2;have e2:vs=[]:=List.isEmpty_iff.mp z.2;subst e1 e2;exact zzy.wk λ_ _ _=>zus
  ·exact noSome h
 ·exact noSome h
noncomputable def zn2 (fE:Sx->Expr->Option GE) (S:Sx):Expr->Option GE
 |.Call (.Attribute (.Name x _) name apos) [e,e'] [] cpos=>if name == ("get" : Str) && (apos.endLine == cpos.line) && zag e && zag e' then (S.rd x).bind λi=>(fE S e).bind λg=>(fE S e').bind λg'=>some (zhl i g g') else none
 |_=>none
theorem zs0 (HE:zbe fE)(C:CxOk X S d):zs6 (zn2 fE S) X:=λe g h=>by
 unfold zn2 at h;split at h
 ·split at h
  ·rename_i z;rw[Ad,Ad,Ad] at z;obtain⟨⟨⟨z1,z2⟩,y1⟩,y2⟩:=z;have e1:=Br z1;subst e1;obtain⟨i,hi,h⟩:=bS h;obtain⟨g1,hg1,h⟩:=bS h;obtain⟨g2,hg2,h⟩:=bS h;obtain rfl:=sI h;exact (z0d (yb4 C) (zle C hi) (HE X S d C _ _ hg1) (HE X S d C _ _ hg2) ⟨zn6 rfl,z6u y1 y2,z2,by rw[zah y1,zah y2];rfl⟩).wk λ_ _ _=>zyz
  ·exact noSome h
 ·exact noSome h
end
section
variable {X:Cx}{S:Sx}{d:Nat}{fE:Sx->Expr->Option GE}
end
section
variable {X:Cx}{pins:List (Addr × Obj)}{σ:St}{H:Hp}{s:Shared}{a:Addr}{y:V}{u:Value}{A:Around}{E:Value->Shared->Prop}{Q:Value->Shared->Prop}
end
section
variable {K:PySem.W.Frag}{F H:Hp}{pr:Prt}{en:En}{σ:St}
end
section
variable {X:Cx}{S:Sx}{d:Nat}{f:Sx->Expr->Option GE}
end
section
variable {X:Cx}{S:Sx}{d:Nat}{f:Sx->Expr->Option GE}
end
section
variable {prog:Program}{w:World}{A:Around}{E:Value->Shared->Prop}{s:Shared}
variable {K:Type} [DecidableEq K]
variable {I:Addr}{fp wr:List Addr}{n:Nat}{P:Nat->Value->Prop}{St:Nat->Heap->Prop}{R:Result->Shared->Prop}
end
section
variable {prog:Program}{w:World}{A:Around}{E:Value->Shared->Prop}{s:Shared}
end
section
variable {X:Cx}{pins:List (Addr × Obj)}{σ:St}{H:Hp}{s:Shared}{A:Around}{E:Value->Shared->Prop}
end
section
variable {K:PySem.W.Frag}{F H:Hp}
end
section
variable {X:Cx}{S:Sx}{d:Nat}{fE:Sx->Expr->Option GE}
end
section
variable {X:Cx}{pins:List (Addr × Obj)}{σ:St}{H:Hp}
theorem zyf:∀{kvs:List (Key × V)}{kv:List (Key × Value)},KV kvs kv->Vals (kvs.map (·.2)) (kv.map (·.2))
 |_,_,.nil=>.nil
 |_,_,.cons h r=>.cons h.2 (zyf r)
end
section
variable {X:Cx}
variable {S:Sx}{d:Nat}{fE:Sx->Expr->Option GE}
end
section
variable {prog:Program}{w:World}{A:Around}{E:Value->Shared->Prop}{s:Shared}{it d v:Addr}{o:Obj}{es:Array DictEntry}{i ep:Nat}
theorem z2q (d:Addr) (hd:(d == sysModules)=false):MeetsIn prog w (Builtin.«dict.values» ⟨[.ref d],[]⟩) (fun _ R s=>s.TypeIs (.ref d) "dict" /\
   R (.ok (.ret (.ref s.heap.objs.size))) { s with heap:=s.heap.push { cls:=.type "dict_values",data:=.fields #[.ref d] } }) :=
 .of_wp λA R s ⟨hm,h⟩=>by
  refine Aa ?_;unfold Builtin.Dict.noArgs;refine Aa (wpAny_notOrdered_dict hm ?_);show wpAny _ _ (pure d) _ _ s;refine Af ?_;show wpAny _ _ (Builtin.Dict.showsAll d >>= _) _ _ s;unfold Builtin.Dict.showsAll;rw[if_neg (by rw[hd];exact Av)];refine Aa (Af ?_);exact Aa (Bu (Af ⟨_,rfl,h⟩))
theorem z4p {Q:Value->Shared->Prop} (hv:s.heap.IsValuesView v d) (ho:s.heap.get? d=some o) (hdat:o.data=.dict es ep)
  (hQ:Q (.ref s.heap.objs.size) { s with heap:=s.heap.push { cls:=.type "dict_valueiterator",data:=.fields #[.ref d,.int 0 0,.int es.size 0,.int ep 0] } }):wpAny (model prog w) A (pyIter (.ref v)) Q E s:=by
 obtain⟨ov,hov,hcv,hdv⟩:=id hv;refine wpAny_pyIter_slot hv.typeIs F.slot_dict_values_iter (Cw F.slot_dict_values_iter hv.typeIs F.entry_dict_values_iter ?_ (F.args_dict_values_iter_1 _));unfold Builtin.«dict_values.__iter__»;refine Aa (Af (Aa ?_));unfold Builtin.Dict_items.dictOf;refine Aa (Ck hov hdv (x:=.ref d) rfl (Af (Aa ?_)));unfold Builtin.Dict_items.newIterator;refine Aa (wpAny_dictEntries ho hdat (Aa (wpAny_dictEpoch ho hdat ?_)));have hown:Builtin.Dict_items.ownsTuple "dict_valueiterator" = false:=by decide
 simp only [hown,Bt,Dq];refine Bu (Af ⟨_,rfl,"dict_valueiterator",_,⟨_,As _ rfl,rfl⟩,F.slot_dict_valueiterator_next.lookup,?_⟩);simpa [rawInt] using hQ
theorem z46 {Q:Option Value->Shared->Prop} (hit:s.heap.IsValIter it d i es.size ep) (ho:s.heap.get? d=some o) (hdat:o.data=.dict es ep) (hi:i < es.size)
  (hQ:∀h',h'.IsValIter it d (i+1) es.size ep->Heap.SameBut it s.heap h'->Q (some es[i].val) { s with heap:=h' }):wpAny (model prog w) A (pyNext (.ref it)) Q E s:=by
 obtain⟨oi,hoi,hc,hd⟩:=id hit;unfold pyNext;refine Aa (Gc (Bz (name:=Str.ofString "__next__") hit.typeIs Ek (Cw Ek hit.typeIs F.entry_dict_valueiterator_next ?_ (F.args_dict_valueiterator_next_1 _))));refine Aa (Af (Aa (Aa ?_)))
 first|refine Aa (Em hit.typeIs (Af ?_))|refine Aa (Gb hit.typeIs (Af ?_))
 refine Aa (wpAny_fieldsOf hoi hd ?_);have own:Builtin.Dict_items.ownsTuple "dict_valueiterator" = false:=by decide
 simp only [own,Bt,Dq];show wpAny _ _ (if (Value.ref d == Value.none)=true then _ else _) _ _ s;rw[if_neg (show ¬ ((Value.ref d == Value.none)=true) from Av)];refine Aa (Af (Aa (wpAny_dictEntries ho hdat ?_)));rw[if_neg (by simp)];refine Aa (Af (Aa (wpAny_dictEpoch ho hdat ?_)));rw[if_neg (by simp)];refine Af ?_;simp only [show ¬ ((i:Int)<0) from by omega,Dq,Cy,Fh hi];refine Aa ?_
 first|refine Aa (Em hit.typeIs (Af ?_))|refine Aa (Gb hit.typeIs (Af ?_))
 refine Aa (wpAny_isOneOf_valiter hit.typeIs ?_);show wpAny _ _ (setField (.ref it) 1 (rawInt ((i:Int)+1)) >>= _) _ _ s;refine Aa (wpAny_setField hoi hd (by simp) ?_);have hit' : (s.heap.update it (Obj.mapFields (·.setIfInBounds 1 (rawInt ((i:Int)+1))))).IsValIter it d (i+1) es.size ep :=
  ⟨_,Fg _ hoi (Obj.isFreed_of_fields (Hk hd _)),(Obj.cls_mapFields ..).trans hc,by rw[Hk hd];simp [rawInt]⟩
 refine Aa (Cr (Aa (wpAny_isOneOf_valiter (s:={ s with heap:=s.heap.update it (Obj.mapFields (·.setIfInBounds 1 (rawInt ((i:Int)+1)))) }) hit'.typeIs ?_)));refine Aa (wpAny_isOneOf_valiter (s:={ s with heap:=s.heap.update it (Obj.mapFields (·.setIfInBounds 1 (rawInt ((i:Int)+1)))) }) hit'.typeIs ?_);show wpAny _ _ (pure es[i].val) _ _ _;exact Af (Af ⟨_,rfl,Af (hQ _ hit' (Cp ..))⟩)
theorem z9h {Q:Option Value->Shared->Prop} (hh:A.handled=none) (hit:s.heap.IsValIter it d i es.size ep) (ho:s.heap.get? d=some o) (hdat:o.data=.dict es ep) (hi:es.size<=i)
  (hQ:∀h',Heap.ExtBut it s.heap h'->Q none { s with heap:=h' }):wpAny (model prog w) A (pyNext (.ref it)) Q E s:=by
 obtain⟨oi,hoi,hc,hd⟩:=id hit;unfold pyNext;refine Aa (Gc (Bz (name:=Str.ofString "__next__") hit.typeIs Ek (Cw Ek hit.typeIs F.entry_dict_valueiterator_next ?_ (F.args_dict_valueiterator_next_1 _))));refine Aa (Af (Aa (Aa ?_)))
 first|refine Aa (Em hit.typeIs (Af ?_))|refine Aa (Gb hit.typeIs (Af ?_))
 refine Aa (wpAny_fieldsOf hoi hd ?_);have own:Builtin.Dict_items.ownsTuple "dict_valueiterator" = false:=by decide
 simp only [own,Bt,Dq];show wpAny _ _ (if (Value.ref d == Value.none)=true then _ else _) _ _ s;rw[if_neg (show ¬ ((Value.ref d == Value.none)=true) from Av)];refine Aa (Af (Aa (wpAny_dictEntries ho hdat ?_)));rw[if_neg (by simp)];refine Aa (Af (Aa (wpAny_dictEpoch ho hdat ?_)));rw[if_neg (by simp)];refine Af ?_;simp only [show ¬ ((i:Int)<0) from by omega,Dq,Cy,Dl hi];refine Aa ?_
 first|refine Aa (Em hit.typeIs (Af ?_))|refine Aa (Gb hit.typeIs (Af ?_))
 show wpAny _ _ (setField (.ref it) 0 .none >>= _) _ _ s;refine Aa (wpAny_setField hoi hd (by simp) ?_);show wpAny _ _ (newExc (.type "StopIteration") [] >>= _) _ _ _;refine Aa ?_;simp only [newExc,newTuple];refine Aa (Bu ?_ (by size_fits));refine Aa (m:=firstArgMember _ _) (Hm (a:=Value.none) (by first|rfl|(simp only [firstArgMember];rfl)) ?_);refine Bu ?_ (by size_fits);simp only [raiseNew];refine Aa (wpAny_handled ?_);rw[show A.in1.handled=none from hh];refine Aa (Af (wpAny_throw ?_));refine Aa (wpAny_isInstance (T := "StopIteration") (b:=true) ⟨_,As _ rfl,rfl⟩ isSubtype_stop ?_);exact Af (hQ _ (((Cp ..).extBut.push _).push _))
end
theorem ybi {H H' : Hp}{a:Addr}{u:HO}{o:Obj}(h:Fz H a u o H'):Rd H' a u:=by
 rcases h with⟨_,rfl⟩|⟨h,rfl⟩
 ·exact .inr ⟨o,upd_same⟩
 ·exact .inr ⟨o,h⟩
theorem zmv {P:Program}{w:World}:∀{es:List DictEntry}{vs:List (Key × Value)},Pairs (za4 P w) es vs->es.map (·.val)=vs.map (·.2)
 |_,_,.nil=>rfl
 |_,_,.cons _ h q=>by rw[Ah,Ah,h,zmv q]
theorem zyn {H:Hp}:∀{kvs:List (List Key × V)}{xs:List (List Key × Addr × Value)},KT H kvs xs->Vals (kvs.map (·.2)) (xs.map (·.2.2))
 |_,_,.nil=>.nil
 |_,_,.cons h q=>.cons h.2.2 (zyn q)
theorem z7z {P:Program}{w:World}{K:PySem.W.Frag}{tg:Expr}{a it:Addr}{o:Obj}{es:Array DictEntry}{ep:Nat}{xs:List V}(hdat:o.data=.dict es ep)(hv:Vals xs (es.toList.map (·.val))):Turn P w K tg (ItDz a o xs) [it] it (λi h=>h.IsValIter it a i es.size ep) where
 mem:=by simp
 obj:=λi h st b hb=>by
  have e:b=it:=by simpa using hb
  subst e;obtain⟨o,e,c,d⟩:=st;exact⟨o,e,λv z=>by rw[d] at z;cases z⟩
 keep:=λi h h' st k=>by
  obtain⟨o,e,r⟩:=st;exact⟨o,k it (by simp) o e,r⟩
 item:=by
  intro X hP hw hK hc i pins s σ H E I hf st hg;subst hP hw hK;obtain⟨hi,u,hu⟩:=hg;have ho:s.heap.get? a=some o:=(show ObjOk X.prog X.w H s.heap a (.frz o u) from I.hok a _ hu).1;have hl:xs.length=es.size:=by have:=hv.length;simpa using this
  obtain⟨f0,f1,f2,f3,f4,f5⟩:=hf it (by simp);have hi' : i<es.size:=by omega
  obtain⟨y,hy,ry⟩:=hv.get (Ae hi);rw[Ai,Gk,Fh hi'] at hy;obtain rfl:=sI hy;refine z46 st ho hdat hi' λh' st' sb=>?_;have I1:Inv X pins σ H { s with heap:=h' }:=I.turned (t':=s.toks) (λb o hb e=>(sb.2 b hb).trans e) f0 f1 f3 f4 f5;obtain⟨o',e,c,d⟩:=id st';exact⟨_,rfl,zxm (s:={ s with heap:=h' }) e c d #v[0,9] ⟨xs[i],H,I1,ry,⟨rfl,Ae hi⟩,st',λb hb=>(hf b hb).1⟩⟩
 done:=by
  intro X hP hw hK hc i pins s σ H E I hf st hg;subst hP hw hK;obtain⟨hi,u,hu⟩:=hg;have ho:s.heap.get? a=some o:=(show ObjOk X.prog X.w H s.heap a (.frz o u) from I.hok a _ hu).1;have hl:xs.length=es.size:=by have:=hv.length;simpa using this
  obtain⟨f0,f1,f2,f3,f4,f5⟩:=hf it (by simp);exact z9h (I.ok.hd hc) st ho hdat #v[] λh' eb=>⟨rfl,I.turned (t':=s.toks) (λb o hb e=>eb b o hb e) f0 f1 f3 f4 f5⟩
 self:=λ_ _ _ _ _ st h=>wpAny_pyIter_valiter st h
noncomputable def iVz (i:Nat):TI:=fun σ H R=>∃a,σ[i]?=some (some (V.ref a)) /\
  ((∃ kvs : List (Key × V),Rd H a (.dK kvs) /\ ∀ o H', Fz H a (.dK kvs) o H' → R (ItDz a o (kvs.map (·.2))) H') \/
   ∃kvs:List (List Key × V),Rd H a (.dT kvs)/\∀o H',Fz H a (.dT kvs) o H'->R (ItDz a o (kvs.map (·.2))) H')
section
variable {X:Cx}{tg:Expr}
theorem ydf {l:Expr}{i:Nat}{apos cpos:Pos}(hl:PE X l (tVar i))(hb:attributeBase l "values" X.env (eval l X.env)=eval l X.env)(hp:(apos.endLine == cpos.line)=true):PI X tg (.Call (.Attribute l "values" apos) [] [] cpos) (iVz i):=λpins s σ H R I h=>by
 obtain⟨a,hs,h⟩:=h;refine wpAny_Call_method0_late hb hp (thn (hl pins s σ H (λx H1=>x=.ref a/\H1=H) I ⟨_,hs,rfl,rfl⟩) λv s1 ⟨x,H1,I1,r1,e,eH⟩=>?_);subst e eH;cases r1;have fp:∀{H'}{s2:Shared},Inv X pins σ H' s2->∀b∈[s2.heap.objs.size],FpOk X pins H' b:=λ{H' s2} I' b hb=>by
  rw[Aw] at hb;subst hb;exact I'.fpOk (Ag _) (I'.hok.fresh (Ag _))
 have go:∀{u:HO}{o:Obj}{es:Array DictEntry}{ep:Nat}{xs:List V}{H' : Hp},(a == sysModules)=false->IsD H' a->s1.heap.get? a=some o->o.data=.dict es ep->Vals xs (es.toList.map (·.val))->Inv X pins σ H' s1->R (ItDz a o xs) H' ->
   MethodOn X.prog X.w X.A "values" cpos (.ref a) [] (λv s1=>wpAny #v[3,7] X.A (pyIter v) (PIE X pins σ tg R) X.xe s1) X.xe s1:=λ{u o es ep xs H'} hd id ho hdat hv I2 q=>by
  obtain⟨t1,t2,_⟩:=z39 I2 id;refine⟨"dict","dict.values",PySem.F.plainAttrs_dict,PySem.F.slot_dict_values,PySem.F.type_dict_values,t1,?_,Gq rfl (PySem.evalArgs_none ?_)⟩
  ·exact t2
  refine call_meetsIn PySem.F.slot_dict_values t1 PySem.F.entry_dict_values (PySem.F.args_dict_values_1 _) (z2q a hd) ⟨t1,?_⟩;have I3:Inv X pins σ H' { s1 with heap:=s1.heap.push { cls:=.type "dict_values",data:=.fields #[.ref a] } }:=I2.kept (t':=s1.toks) λb o e=>Ac _ e;exact z4p (s:={ s1 with heap:=s1.heap.push { cls:=.type "dict_values",data:=.fields #[.ref a] } }) ⟨_,As _ rfl,rfl,rfl⟩ (Ac _ ho) hdat ⟨_,_,_,_,H',rfl,I3.kept (t':=s1.toks) λb o e=>Ac _ e,z7z hdat hv,⟨_,As _ rfl,rfl,rfl⟩,fp I3,q⟩
 rcases h with⟨kvs,hr,q⟩|⟨kvs,hr,q⟩
 ·obtain⟨z,hd,vs,rel,o,es,ep,ho,hx,hdat,hk,hp,hn⟩:=dk_rd I1.hok hr;obtain⟨H',fz,I2⟩:=frzI (u:=.dK kvs) I1 True.intro hr ho λ_ z=>z;exact go (u:=.dK kvs) hd (.inl ⟨kvs,ybi fz⟩) ho hdat (by rw[zmv hp];exact zyf rel) I2 (q o H' fz)
 ·obtain ⟨z, hd, xs, rel, o, es, ep, ho, hx, hdat, hes, hn⟩ := (show ObjOk X.prog X.w H1 s1.heap a (.dT kvs) from rd_of I1.hok hr);obtain ⟨H',fz,I2⟩:=frzI (u:=.dT kvs) I1 True.intro hr ho fun e z=>by
   obtain⟨z,hd,xs,rel,w⟩:=z;exact⟨z,hd,xs,KT.keeps (show KT H1 kvs xs from rel) λc ys ec=>by rw[upd_ne (z8v ec e (by intro z;cases z))];exact ec,w⟩
  exact go (u:=.dT kvs) hd (.inr ⟨kvs,ybi fz⟩) ho hdat (by rw[hes,Ed];exact zyn rel) I2 (q o H' fz)
end
noncomputable def zup (i:Nat):GL:=λen=>match en[i]? with
 |some (some (.dct ks ws,true))=>some (en.set i (some (.dcz ks ws,false)),ws)
 |some (some (.dcz ks ws,false))=>some (en,ws)
 |_=>none
theorem zkd {κ:Type}{ks:List κ}{vs:List V}(h:ks.length=vs.length):(ks.zip vs).map (·.2)=vs:=List.map_snd_zip #v[]
theorem zxl {K:PySem.W.Frag}{σ:St}{H:Hp}{i:Nat}{R:It->Hp->Prop} (h:tI K (zup i) σ H R):iVz i σ H R:=by
  obtain⟨F,pr,en,en',ws,Re,h,q⟩:=h;unfold zup at h;split at h
  · rename_i ks us e
    injection h with h;obtain⟨rfl,rfl⟩:=Prod.mk.inj h;obtain⟨a,u,w',e0,hs,hH,hF,hO⟩:=Re.own i _ e;subst e0;refine⟨a,hs,?_⟩;generalize hw:W.dct ks us=w at hO;cases hO with
    |lst r=>cases hw
    | dct hl r =>
      cases hw;refine .inl ⟨_,.inl hH,λo H' fz=>?_⟩;rw[fz.new hH (λ_ _ z=>nomatch z),zkd hl];obtain⟨s1,R1⟩:=Re.frz o e hs hH hF (.dct hl r) λF' s e'=>.dcz e' hl (r.mono s);exact q _ _ _ s1 R1 (z21 upd_same (r.mono s1))
    | dctT hl r =>
      cases hw;refine .inr ⟨_,.inl hH,λo H' fz=>?_⟩;rw[fz.new hH (λ_ _ z=>nomatch z),zkd hl];obtain⟨s1,R1⟩:=Re.frz o e hs hH hF (.dctT hl r) λF' s e'=>.dczT e' hl (r.mono s);exact q _ _ _ s1 R1 (z21 upd_same (r.mono s1))
  · rename_i ks us e
    injection h with h;obtain⟨rfl,rfl⟩:=Prod.mk.inj h;obtain⟨v,hs,rp⟩:=Re.val i _ e;clear h;generalize hw:W.dcz ks us=w at rp;cases rp with
    | dcz h hl r =>
      cases hw;refine⟨_,hs,.inl ⟨_,.inr ⟨_,Re.sub _ _ h⟩,λo H' fz=>?_⟩⟩;obtain⟨rfl,rfl⟩:=fz.old (Re.sub _ _ h) (λ_ _ z=>nomatch z);rw[zkd hl];exact q _ _ _ (.refl _) Re (z21 h r)
    | dczT h hl r =>
      cases hw;refine⟨_,hs,.inr ⟨_,.inr ⟨_,Re.sub _ _ h⟩,λo H' fz=>?_⟩⟩;obtain⟨rfl,rfl⟩:=fz.old (Re.sub _ _ h) (λ_ _ z=>nomatch z);rw[zkd hl];exact q _ _ _ (.refl _) Re (z21 h r)
    |_=>cases hw
  · exact noSome h
noncomputable def z6c (f:Sx->Expr->Option GE) (S:Sx) (tg e:Expr):Option GL:=match e with
 |.Call (.Attribute (.Name x _) name apos) [] [] cpos=>if dOn S x && name == ("values" : Str) && (apos.endLine == cpos.line) then (S.rd x).bind λi=>some (zup i) else none
 |_=>none
noncomputable def zok (f:Sx->Expr->Option GE) (S:Sx) (tg e:Expr):Option GL:=match z6c f S tg e with
 |some g=>some g
 |none=>z4t f S tg e
section
variable {X:Cx}{S:Sx}{d:Nat}{f:Sx->Expr->Option GE}
theorem z0c (C:CxOk X S d){tg e:Expr}{g:GL}(h:z6c f S tg e=some g):PI X tg e (tI X.K g)/\∀x,foldedSetIterable e X.env x=pure x:=by
 unfold z6c at h;split at h
 ·split at h
  ·rename_i z;simp only [Ad] at z;have e1:=Br z.1.2;subst e1;obtain⟨i,hi,h⟩:=bS h;obtain rfl:=sI h;exact⟨(ydf (zle C hi) (zn6 rfl) z.2).wk λ_ _ _=>zxl,zlb rfl⟩
  ·exact noSome h
 ·exact noSome h
theorem zd2 (Hf:zbe f)(C:CxOk X S d){tg e:Expr}{g:GL}(h:zok f S tg e=some g):PI X tg e (tI X.K g)/\∀x,foldedSetIterable e X.env x=pure x:=by
 unfold zok at h;split at h
 ·rename_i q;obtain rfl:=sI h;exact z0c C q
 ·exact z29 Hf C h
end
section
variable {prog:Program}{w:World}{A:Around}{E:Value->Shared->Prop}{s:Shared}
end
section
variable {X:Cx}{pins:List (Addr × Obj)}{σ:St}{H:Hp}{s:Shared}{A:Around}{E:Value->Shared->Prop}
end
section
variable {X:Cx}{S:Sx}{d:Nat}{fE:Sx->Expr->Option GE}
end
section
variable {X:Cx}
end
section
variable {K:PySem.W.Frag}{F H:Hp}{pr pb:Prt}{en:En}{σ:St}
end
section
variable {K:PySem.W.Frag}{mp:List Nat}{pb:Prt}{acc:Addr}
end
section
variable {X:Cx}{S:Sx}{d:Nat}{f:Sx->Expr->Option GE}
end
section
variable {prog:Program}{w:World}{A:Around}{E:Value->Shared->Prop}{s:Shared}
end
section
variable {K:PySem.W.Frag}{F:Hp}
end
section
variable {X:Cx}{tg:Expr}
end
section
variable {K:PySem.W.Frag}{σ:St}{H:Hp}
end
section
variable {X:Cx}{S:Sx}{d:Nat}{f:Sx->Expr->Option GE}
end
section
variable {K:PySem.W.Frag}
end
section
variable {K:PySem.W.Frag}{σ:St}{H:Hp}
end
section
open PySem.AutoSeq1 (wpAny_loadPart')
end
section
variable {X:Cx}{S:Sx}{d:Nat}{fE:Sx->Expr->Option GE}
end
set_option maxHeartbeats 1000000
section
variable {prog:Program}{w:World}{A:Around}{E:Value->Shared->Prop}{s:Shared}
end
section
variable {prog:Program}{w:World}{A:Around}{E:Value->Shared->Prop}{s:Shared}
end
section
variable {X:Cx}{S:Sx}{d:Nat}{fE:Sx->Expr->Option GE}
end
section
variable {X:Cx}{S:Sx}{d:Nat}{fE:Sx->Expr->Option GE}
end
namespace SetT
noncomputable abbrev HT:=Array Int × SetTable
end SetT
section
variable {prog:Program}{w:World}{A:Around}{E:Value->Shared->Prop}{s:Shared}
end
section
variable {prog:Program}{w:World}{A:Around}{R:Result->Shared->Prop}{I:Addr}{fp wr:List Addr}{G:Array GenState->Array GenState->Prop}{n:Nat}{P:Nat->Value->Prop}{St:Nat->Shared->Prop}
end
section
variable {prog:Program}{w:World}{A:Around}{E:Value->Shared->Prop}{s:Shared}
end
end L2
namespace L2
open PySem PySem.Spec PyProof.Rows
section
variable {prog:Program}{w:World}{A:Around}{E:Value->Shared->Prop}{s:Shared}{it d:Addr}{es:Array (Int × Value)}{ep slot i:Nat}{t:SetTable}
end
section
variable {prog:Program}{w:World}{A:Around}{E:Value->Shared->Prop}{s:Shared}
end
section
variable {X:Cx}{pins:List (Addr × Obj)}{σ:St}{H:Hp}
end
section
variable {X:Cx}{pins:List (Addr × Obj)}{σ:St}{H:Hp}
end
section
variable {X:Cx}{S:Sx}{d:Nat}{fE:Sx->Expr->Option GE}
end
section
open PySem.AutoSeq1 (wpAny_loadPart')
end
section
variable {X:Cx}{S:Sx}{d:Nat}{fE:Sx->Expr->Option GE}
end
section
open PySem.AutoSeq1 (wpAny_loadPart')
variable {prog:Program}{w:World}{A:Around}{E:Value->Shared->Prop}{s:Shared}
end
section
variable {X:Cx}{S:Sx}{d:Nat}{fE:Sx->Expr->Option GE}
end
section
variable {prog:Program}{w:World}{A:Around}{E:Value->Shared->Prop}{s:Shared}
open HT in
end
section
variable {X:Cx}{S:Sx}{d:Nat}{fE:Sx->Expr->Option GE}
noncomputable def orX (a b:Option GE):Option GE:=match a with
 |some g=>some g
 |none=>b
theorem z4l {x y:Expr->Option GE}(hx:zs6 x X)(hy:zs6 y X):zs6 (λe=>orX (x e) (y e)) X:=λe g h=>by
 have h:orX (x e) (y e)=some g:=h;unfold orX at h;split at h
 ·rename_i g' q;obtain rfl:=sI h;exact hx e g' q
 ·exact hy e g h
noncomputable def extE (fE:Sx->Expr->Option GE) (S:Sx) (e:Expr):Option GE:=orX (znl fE S e) (zn2 fE S e)
theorem z6n (HE:zbe fE)(C:CxOk X S d):zs6 (extE fE S) X:=z4l (zr6 HE C) (zs0 HE C)
end
noncomputable def ncOf (scope:Scope):List Str:=(scope.names.filter λp=>p.2 == .free || p.2 == .local || p.2 == .cell).map (·.1)
noncomputable def capC (S:Sx) (scope:Scope):Cap:=(ncOf scope).map λx=>if scope.names.lookup x == some .free then S.N.findIdx? (· == x) else none
noncomputable def inS (S:Sx) (scope:Scope):Sx:={ N:=ncOf scope,kd:=scope.names,bn:=S.bn,fs:=S.fs,mp:=capKeep (capC S scope),top:=false }
noncomputable def zjn (S:Sx) (scope:Scope):Bool:=decide (scope.kind=.function) && zhe (capC S scope) (ncOf scope) S.N scope && (scope.names.all λp=>!(p.2 == .free) || S.kd.lookup p.1 == some .cell || S.kd.lookup p.1 == some .free) &&
 zfh scope && #v[3,8] && decide (ncOf scope).Nodup
noncomputable def zqj (fT:Sx->Expr->Option GT) (S:Sx):List Expr->Option GT
 |[]=>some gYes
 |[c]=>fT S c
 |_=>none
noncomputable def zx2 (fE:Sx->Expr->Option GE) (fT:Sx->Expr->Option GT) (S:Sx) (elt:Expr) (gens:List Comprehension) (scope:Scope):Option GE:=match gens with
 |[c]=>if zjn S scope && decide (c.is_async=0) then (zok fE S c.target c.iter).bind λgi=>(tgE (inS S scope) c.target).bind λT=>(zqj fT (inS S scope) c.ifs).bind λtc=>(fE (inS S scope) elt).bind λte=>some (za9 (capC S scope) T gi tc te) else none
 |[c,c2]=>if zjn S scope && decide (c.is_async=0/\c2.is_async=0) then (zok fE S c.target c.iter).bind λgi=>(tgE (inS S scope) c.target).bind λT=>(zqj fT (inS S scope) c.ifs).bind λtc=>(zok fE (inS S scope) c2.target c2.iter).bind λgi2=>(tgE (inS S scope) c2.target).bind λT2=>(zqj fT (inS S scope) c2.ifs).bind λtc2=>(fE (inS S scope) elt).bind λte=>some (zxh (capC S scope) T gi tc T2 gi2 tc2 te) else none
 |_=>none
structure ScOk (X:Cx) (S:Sx) (scope:Scope):Prop where
 kind:scope.kind=.function
 cap:zhe (capC S scope) (ncOf scope) X.N scope=true
 fr:zg0 scope X.env.scope=true
 nc:zfh scope=true
 nm:#v[3,8]=true
 nd:(ncOf scope).Nodup
section
variable {X:Cx}{S:Sx}{d:Nat}
theorem zqi (C:CxOk X S d){scope:Scope}(h:zjn S scope=true):ScOk X S scope:=by
 unfold zjn at h;simp only [Ad] at h;obtain⟨⟨⟨⟨⟨h1,h2⟩,h3⟩,h4⟩,h5⟩,h6⟩:=h;refine⟨Au h1,by rw[C.N];exact h2,?_,h4,h5,Au h6⟩;unfold zg0;refine Bd.mpr λp hp=>?_;have q:=Bd.mp h3 p hp;simp only [Ch,Bool.not_eq_true',Dj,Fw,Eo] at q ⊢;rcases q with (q|q)|q
 ·exact .inl (.inl q)
 ·rcases C.vis p.1 (.inl q) with z|z
  ·exact .inl (.inr z)
  ·exact .inr z
 ·rcases C.vis p.1 (.inr q) with z|z
  ·exact .inl (.inr z)
  ·exact .inr z
theorem in_ok (C:CxOk X S d){scope:Scope}(h:ScOk X S scope)(cl:List (Str × Addr))(L:Addr)(s3:Shared)(H3:Hp)(fp:List Addr):CxOk (zbd X (ncOf scope) scope cl L s3 H3 fp) (inS S scope) d where
 N:=rfl
 nd:=h.nd
 loc:=λx e=>zba (env:=X.env) #v[0,9] e
 cel:=λx e=>⟨zba (env:=X.env) #v[0,9] e,Am e⟩
 vis:=λx e=>by
  rcases e with e|e
  ·exact .inl (zba (env:=X.env) #v[0,9] e)
  ·exact za5 (env:=X.env) e
 gl:=λx e=>zba (env:=X.env) #v[0,9] e
 calm:=C.calm
 xe:=rfl
 bn:=C.bn
 fs:=C.fs
 room:=C.room
 sl:=C.sl
 lam:=λh=>absurd (show ("" : Str)∈lams from h) #v[0,0,7]
 dpo:=Bk _
 bk:=by
  show (if scope.kind.isAnnotationScope then ScopeKind.function else scope.kind)=.function;rw[h.kind];rfl
end
theorem zz3 {K:PySem.W.Frag}{σ:St}{H:Hp}{Q:Bool->Hp->Prop}(h:tT K gYes σ H Q):z32 σ H Q:=by
 obtain⟨F,pr,en,en',b,R,h,q⟩:=h;cases h;exact q F H (.refl F) R
structure CompP (X:Cx) (S:Sx) (elt:Expr) (gens:List Comprehension) (scope:Scope) (g:GE):Prop where
 ex:∃tg iter ifs gs gi T tc,∃(em:Pos->Value->Env->Sem Unit) (tm:Addr->TM),gens=⟨tg,iter,ifs,0⟩ :: gs/\(∀pos it acc env,compTurn #v[1,9] 0 it acc env=zmz #v[1,9] 0 tg iter ifs (em pos acc env) it acc env)/\ScOk X S scope/\PI X tg iter (tI X.K gi)/\(∀x,foldedSetIterable iter X.env x=pure x) /\
  (∀cl C s3 H3 fp,PG (zbd X (ncOf scope) scope cl C s3 H3 fp) tg (TGof X.K T))/\(∀cl C s3 H3 fp,PTs (zbd X (ncOf scope) scope cl C s3 H3 fp) ifs (tT X.K tc))/\(∀pos cl C s3 H3 fp acc,PM (zbd X (ncOf scope) scope cl C s3 H3 fp) (em pos (.ref acc) (zbd X (ncOf scope) scope cl C s3 H3 fp).env) (tm acc)) /\
  ∀σ H Q,tE X.K g σ H Q->zv9 (tI X.K gi) (capC S scope) (TGof X.K T) (tT X.K tc) tm σ H Q
section
variable {X:Cx}{S:Sx}{d:Nat}{fE:Sx->Expr->Option GE}{fT:Sx->Expr->Option GT}
theorem PTs.wk {ifs:List Expr}{t t' : TT}(h:PTs X ifs t)(i:∀σ H Q,t' σ H Q->t σ H Q):PTs X ifs t':=λpins s σ H Q I q=>h pins s σ H Q I (i σ H Q q)
theorem zix (HT:zl7 fT)(C:CxOk X S d):∀{ifs:List Expr}{tc:GT},zqj fT S ifs=some tc->PTs X ifs (tT X.K tc)
 |[],_,h=>by obtain rfl:=sI h;exact z6h.wk λ_ _ _=>zz3
 |[_],_,h=>z49 (HT _ _ d C _ _ h)
 |_::_::_,_,h=>noSome h
theorem zgu (HE:zbe fE)(HT:zl7 fT)(C:CxOk X S d){elt:Expr}{gens:List Comprehension}{scope:Scope}{g:GE}(h:zx2 fE fT S elt gens scope=some g):CompP X S elt gens scope g:=by
 unfold zx2 at h;split at h
 ·rename_i c;obtain⟨tg,iter,ifs,as⟩:=c;split at h
  ·rename_i z;rw[Ad] at z;have ha:as=0:=Au z.2;subst ha;obtain⟨gi,hi,h⟩:=bS h;obtain⟨T,hT,h⟩:=bS h;obtain⟨tc,htc,h⟩:=bS h;obtain⟨te,hte,h⟩:=bS h;obtain rfl:=sI h;have so:=zqi C z.1;obtain⟨pi,pf⟩:=zd2 HE C hi;exact⟨tg,iter,ifs,[],gi,T,tc,λ_=>zzg elt,λacc=>ztm acc (tE X.K te),rfl,λ_ _ _ _=>rfl,so,pi,pf,λcl L s3 H3 fp=>zp1 (in_ok C so cl L s3 H3 fp) hT,λcl L s3 H3 fp=>zix HT (in_ok C so cl L s3 H3 fp) htc,λ_ cl L s3 H3 fp acc=>z31 (HE _ _ d (in_ok C so cl L s3 H3 fp) _ _ hte),λ_ _ _=>zvk⟩
  ·exact noSome h
 ·rename_i c c2;obtain⟨tg,iter,ifs,as⟩:=c;obtain⟨tg2,iter2,ifs2,as2⟩:=c2;split at h
  ·rename_i z;rw [Ad] at z;obtain ⟨ha,ha2⟩ : as=0/\as2=0:=Au z.2;subst ha ha2;obtain ⟨gi,hi,h⟩:=bS h;obtain ⟨T,hT,h⟩:=bS h;obtain ⟨tc,htc,h⟩:=bS h;obtain ⟨gi2,hi2,h⟩:=bS h;obtain ⟨T2,hT2,h⟩:=bS h;obtain ⟨tc2,htc2,h⟩:=bS h;obtain ⟨te,hte,h⟩:=bS h;obtain rfl:=sI h;have so:=zqi C z.1;obtain ⟨pi,pf⟩:=zd2 HE C hi;exact ⟨tg,iter,ifs,[⟨tg2,iter2,ifs2,0⟩],gi,T,tc,fun pos=>ztw #v[4,7] iter2,fun acc=>tTwo (tI X.K gi2) (TGof X.K T2) (tT X.K tc2) (ztm acc (tE X.K te)),rfl,fun _ _ _ _=>z0u,so,pi,pf,fun cl L s3 H3 fp=>zp1 (in_ok C so cl L s3 H3 fp) hT,fun cl L s3 H3 fp=>zix HT (in_ok C so cl L s3 H3 fp) htc,
    λpos cl L s3 H3 fp acc=>z9l (λ_ _ z=>z) C.calm (zd2 HE (in_ok C so cl L s3 H3 fp) hi2).1 (zp1 (in_ok C so cl L s3 H3 fp) hT2) (zix HT (in_ok C so cl L s3 H3 fp) htc2) (HE _ _ d (in_ok C so cl L s3 H3 fp) _ _ hte) (zd2 HE (in_ok C so cl L s3 H3 fp) hi2).2,λ_ _ _=>zib λpb acc hb=>yc3 (z82 hb)⟩
  ·exact noSome h
 ·exact noSome h
theorem zxc (C:CxOk X S d){elt:Expr}{gens:List Comprehension}{scope:Scope}{g:GE}{pos:Pos}(h:CompP X S elt gens scope g):PE X #v[1,9] (tE X.K g):=by
 nofun;obtain⟨tg,iter,ifs,gs,gi,T,tc,em,tm,e1,e2,so,pi,pf,pg,pt,pe,rd⟩:=h.ex;ac_rfl;subst e1;exact (z6k pi pg pt (pe pos) (e2 pos) C.calm so.kind so.cap so.fr so.nc so.nm pf).wk rd
noncomputable def kwE (fE:Sx->Expr->Option GE) (S:Sx) (x:Str) (e:Expr) (key:Str) (ed:Expr):Option GE:=match ed with
 |.Name y p=>if x == ("sorted" : Str) && key == ("key" : Str) then zr0 fE S e y else maxE fE S x e key (.Name y p)
 |ed=>maxE fE S x e key ed
theorem ya7 (HE:zbe fE) (C:CxOk X S d) {x key:Str}{e ed:Expr}{kpos px pos:Pos}{g:GE} (h:kwE fE S x e key ed=some g):PE X (.Call (.Name x px) [e] [⟨some key,ed,kpos⟩] pos) (tE X.K g):=by
  cases ed with
  | Name y p =>
    have h:(if x == ("sorted" : Str) && key == ("key" : Str) then zr0 fE S e y else maxE fE S x e key (.Name y p))=some g:=h;split at h
    · rename_i z
      rw[Ad] at z;have e1:=Br z.1;have e2:=Br z.2;subst e1 e2;exact zv3 HE C h
    · exact zvd HE C h
  |_=>exact zvd HE C h
noncomputable def z5g (fE:Sx->Expr->Option GE) (S:Sx):Option Expr->Option GO
 |none=>some zb5
 |some e=>(fE S e).bind λg=>some (zg6 g)
noncomputable def z1g (fE:Sx->Expr->Option GE) (fT:Sx->Expr->Option GT) (S:Sx) (e:Expr):Option GE:=match e with
  |.Name x _=>(S.rd x).bind λi=>some (gVar i)
  | .Constant c _ _=>(match c with
    |.int i=>some (gC (.int i))
    |.bool b=>some (gC (.bl b))
    |.none=>some (gC .non)
    |.str x=>some (gC (.str x))
    |_=>none)
  |.BinOp a op b _=>(zbg fE S a).bind λx=>(zbg fE S b).bind λy=>(binO op).bind λo=>some (gOp2 o x y)
  | .UnaryOp op a _=>(match op with
    |.USub=>(zbg fE S a).bind λx=>some (gOp1 oNeg x)
    |_=>none)
  |.Compare a ops cs _=>cmpE fE S a ops cs
  |.IfExp c a b _=>(fT S c).bind λt=>(fE S a).bind λx=>(fE S b).bind λy=>some (gIf t x y)
  | .Subscript a s _=>(match s with
    | .Slice lo hi st _=>(match st with
      |none=>(zbg fE S a).bind λx=>(z5g fE S lo).bind λl=>(z5g fE S hi).bind λh=>some (gSl x l h)
      |some _=>none)
    |s=>if zci s then (zbg fE S a).bind λx=>(zbg fE S s).bind λy=>some (gOp2 oIx x y) else none)
  |.List es _=>(asL (λe=>(fE S e).bind λg=>some (gArg g)) es).bind λas=>some (zaz as)
  |.Tuple es _ _=>(asL (λe=>(fE S e).bind λg=>some (gArg g)) es).bind λas=>some (zbq as)
  | .Call fu args kws pos=>(match kws with
    | []=>(match fu with
      |.Name x _=>z8g fE S x args
      |.Attribute o m ap=>z7s fE S o m ap args pos
      |_=>none)
    | [⟨some key,.Lambda params body scope _,_⟩]=>(match fu,args with
      |.Name x _,[e]=>z60 fE S x e key params body scope
      |_,_=>none)
    | [⟨some key,ed,_⟩]=>(match fu,args with
      |.Name x _,[e]=>kwE fE S x e key ed
      |_,_=>none)
    |_=>none)
  |.ListComp elt gens scope _=>zx2 fE fT S elt gens scope
  |_=>none
noncomputable def z45 (fE:Sx->Expr->Option GE) (fT:Sx->Expr->Option GT) (S:Sx) (e:Expr):Option GT:=match e with
  | .BoolOp op vs _=>(match vs with
    |v::vs=>z7u (fT S) op v vs
    |[]=>none)
  |.Compare a ops cs _=>(cmpE fE S a ops cs).bind λg=>some (zaj g)
  | .UnaryOp op a p=>(match op with
    |.Not=>(fT S a).bind λg=>some (ztb g)
    |op=>if zpw (.UnaryOp op a p) then (fE S (.UnaryOp op a p)).bind λg=>some (zaj g) else none)
  |e=>if zpw e then (fE S e).bind λg=>some (zaj g) else none
theorem zpx (HE:zbe fE) (C:CxOk X S d) {o:Option Expr}{g:GO} (h:z5g fE S o=some g):PO X o (tO X.K g):=by
  cases o with
  |none=>obtain rfl:=sI h;exact λpins s σ H Q I q=>z58 pins s σ H Q I (zov q)
  | some e =>
    obtain⟨ge,hg,h⟩:=bS h;obtain rfl:=sI h;exact λpins s σ H Q I q=>z57 (HE X S d C _ _ hg) pins s σ H Q I (zxd q)
theorem z0l (HE:zbe fE) (HT:zl7 fT):zbe (z1g fE fT):=fun X S d C e g h=>by
  have HA:∀e a,((fE S e).bind fun g=>some (gArg g))=some a->PE X e (tA X.K a):=fun e a h=>by
    obtain⟨ge,hg,h⟩:=bS h;obtain rfl:=sI h;exact (HE X S d C _ _ hg).wk λ_ _ _=>zf1
  cases e with
  | Name x p =>
    obtain⟨i,hi,h⟩:=bS (show (S.rd x).bind _=_ from h);obtain rfl:=sI h;exact (zle C hi).wk λ_ _ _=>z16
  | Constant c k p =>
    cases c with
    |int i=>obtain rfl:=sI h;exact z9g.wk λ_ _ _=>zdi λ_=>.int i
    |bool b=>obtain rfl:=sI h;exact ydh.wk λ_ _ _=>zdi λ_=>.bl b
    |none=>obtain rfl:=sI h;exact z9j.wk λ_ _ _=>zdi λ_=>.non
    |str x=>obtain rfl:=sI h;exact z9w.wk λ_ _ _=>zdi λ_=>.str x
    |_=>exact noSome h
  | BinOp a op b p =>
    obtain⟨x,hx,h⟩:=bS (show (zbg fE S a).bind _=_ from h);obtain⟨y,hy,h⟩:=bS h;obtain⟨o,ho,h⟩:=bS h;obtain rfl:=sI h;obtain⟨r,h1,h2⟩:=z64 (X:=X) ho;exact (yc5 h1 (zak HE C hx) (zak HE C hy)).wk λ_ _ _=>zfv h2
  | UnaryOp op a p =>
    cases op with
    | USub =>
      obtain⟨x,hx,h⟩:=bS (show (zbg fE S a).bind _=_ from h);obtain rfl:=sI h;exact (yda z8z (zak HE C hx)).wk λ_ _ _=>z0s z54
    |_=>exact noSome h
  |Compare a ops cs p=>exact (zw0 HE C h).1
  | IfExp c a b p =>
    obtain⟨t,ht,h⟩:=bS (show (fT S c).bind _=_ from h);obtain⟨x,hx,h⟩:=bS h;obtain⟨y,hy,h⟩:=bS h;obtain rfl:=sI h;exact (z1e (HT X S d C _ _ ht) (HE X S d C _ _ hx) (HE X S d C _ _ hy)).wk λ_ _ _=>z72
  | Subscript a s p =>
    have ix:∀s,(if zci s then (zbg fE S a).bind fun x=>(zbg fE S s).bind fun y=>some (gOp2 oIx x y) else none)=some g->PE X (.Subscript a s p) (tE X.K g):=fun s h=>by
      split at h
      · rename_i z
        obtain⟨x,hx,h⟩:=bS h;obtain⟨y,hy,h⟩:=bS h;obtain rfl:=sI h;exact (yea (z5y.or yb3) (zak HE C hx) (zak HE C hy) (zsx z)).wk λ_ _ _=>zfv yao
      · exact noSome h
    cases s with
    | Slice lo hi st p2 =>
      cases st with
      |some _=>exact noSome h
      | none =>
        obtain⟨x,hx,h⟩:=bS (show (zbg fE S a).bind _=_ from h);obtain⟨l,hl,h⟩:=bS h;obtain⟨u,hu,h⟩:=bS h;obtain rfl:=sI h;exact (z07 ((z5p.or z9d).or z5n) (zak HE C hx) (zpx HE C hl) (zpx HE C hu)).wk λ_ _ _=>z5f
    |_=>exact ix _ h
  | List es p =>
    obtain⟨as,has,h⟩:=bS (show (asL _ es).bind _=_ from h);obtain rfl:=sI h;exact (z9o (zid HA has).1).wk λ_ _ _=>z14
  | Tuple es k p =>
    obtain⟨as,has,h⟩:=bS (show (asL _ es).bind _=_ from h);obtain rfl:=sI h;exact (ybz (zid HA has).1).wk λ_ _ _=>z2t
  | Call fu args kws p =>
    simp only [z1g] at h;split at h
    · cases fu with
      |Name x p2=>exact z2n HE C h
      |Attribute o m ap=>exact zz5 HE C h
      |_=>exact noSome h
    · split at h
      · exact zzj HE C h
      · exact noSome h
    · split at h
      · exact ya7 HE C h
      · exact noSome h
    · exact noSome h
  |ListComp elt gens scope p=>exact zxc C (zgu HE HT C h)
  |_=>exact noSome h
theorem z3b (HE:zbe fE) (HT:zl7 fT):zl7 (z45 fE fT):=fun X S d C e g h=>by
  have plain:∀e,(if zpw e then (fE S e).bind fun g=>some (zaj g) else none)=some g->PT X e (tT X.K g):=fun e h=>by
    split at h
    · rename_i z
      obtain⟨x,hx,h⟩:=bS h;obtain rfl:=sI h;exact (yab (HE X S d C _ _ hx) (zs2 z)).wk λ_ _ _=>zlq λ_ _ _ q=>q
    · exact noSome h
  cases e with
  | BoolOp op vs p =>
    cases vs with
    |nil=>exact noSome h
    |cons v vs=>exact (zjt (λe g=>HT X S d C e g) h).pt
  | Compare a ops cs p =>
    obtain⟨x,hx,h⟩:=bS (show (cmpE fE S a ops cs).bind _=_ from h);obtain rfl:=sI h;exact (zw0 HE C hx).2
  | UnaryOp op a p =>
    cases op with
    | Not =>
      obtain⟨x,hx,h⟩:=bS (show (fT S a).bind _=_ from h);obtain rfl:=sI h;exact (z93 (HT X S d C _ _ hx)).wk λ_ _ _=>zy4
    |_=>exact plain _ h
  |_=>exact plain _ h
end
noncomputable def z6v:GE:=λ_=>none
noncomputable def zw5:GT:=λ_=>none
mutual
noncomputable def compE:Nat->Sx->Expr->Option GE
 |0,_,_=>some z6v
 |n+1,S,e=>some ((orX (extE (compE n) S e) (z1g (compE n) (compT n) S e)).getD z6v)
noncomputable def compT:Nat->Sx->Expr->Option GT
 |0,_,_=>some zw5
 |n+1,S,e=>some ((z45 (compE n) (compT n) S e).getD zw5)
end
theorem zv5 {X:Cx}{e:Expr}:PE X e (tE X.K z6v):=λ_ _ _ _ _ _ q=>by obtain⟨_,_,_,_,_,_,h,_⟩:=q;exact noSome h
theorem zqv {X:Cx}{e:Expr}:PT X e (tT X.K zw5):=λ_ _ _ _ _ _ q=>by obtain⟨_,_,_,_,_,_,h,_⟩:=q;exact noSome h
theorem zei:∀n,zbe (compE n)/\zl7 (compT n)
  |0=>⟨λ_ _ _ _ _ _ h=>by rw[compE] at h;obtain rfl:=sI h;exact zv5,λ_ _ _ _ _ _ h=>by rw[compT] at h;obtain rfl:=sI h;exact zqv⟩
  | n+1=>by
    obtain⟨a,b⟩:=zei n;refine⟨λX S d C e g h=>?_,λX S d C e g h=>?_⟩
    · rw [compE] at h
      cases q:orX (extE (compE n) S e) (z1g (compE n) (compT n) S e) with
      |none=>rw[q] at h;obtain rfl:=sI h;exact zv5
      |some g'=>rw[q] at h;obtain rfl:=sI h;exact z4l (z6n a C) (z0l a b X S d C) e _ q
    · rw [compT] at h
      cases q:z45 (compE n) (compT n) S e with
      |none=>rw[q] at h;obtain rfl:=sI h;exact zqv
      |some g'=>rw[q] at h;obtain rfl:=sI h;exact z3b a b X S d C e _ q
section
variable {X:Cx}{pos:Pos}
end
noncomputable def yeb (mp:List Nat) (i j k:Nat) (a b c:GE):GS:=λen=>(a en).bind λp=>(b p.1).bind λq=>(c q.1).bind λr=>if mp.contains i || mp.contains j || mp.contains k || !decide (i<r.1.length) || !decide (j<r.1.length) || !decide (k<r.1.length) then none else some (((r.1.set i (#v[p.2.1,6])).set j (#v[q.2.1,6])).set k (#v[r.2.1,6]),.nx)
section
variable {K:PySem.W.Frag}{mp:List Nat}{D:Ends}{σ:St}{H:Hp}
end
noncomputable def zwo (S:Sx) (x:Str) (px:Pos) (y:Str) (py:Pos) (z:Str) (pz:Pos) (a b c:Expr):Bool:=S.kd.lookup x == some .local && S.kd.lookup y == some .local && S.kd.lookup z == some .local && px.line == py.line && px.line == pz.line && !(x == y) && !(x == z) && !(y == z) && !(foldedForSure 8 a && foldedForSure 8 b && foldedForSure 8 c) && !(constantsAlone 8 a && constantsAlone 8 b && constantsAlone 8 c) && zag a && zag b && zag c
section
variable {X:Cx}{S:Sx}{d:Nat}{fE:Sx->Expr->Option GE}
theorem zt0 {x y:Str}(h:¬ x=y):(y == x)=false:=by
 cases q:y == x with
 |false=>rfl
 |true=>exact absurd (Br q).symm h
theorem yd0 (C:CxOk X S d){x y z:Str}{px py pz pt pt2:Pos}{a b c:Expr}{kt k2:Nat}(h:zwo S x px y py z pz a b c=true):swappedStores [.Tuple [.Name x px,.Name y py,.Name z pz] kt pt] (.Tuple [a,b,c] k2 pt2) X.env=pure (some [x,y,z]):=by
 unfold zwo at h;simp only [Ad] at h;nofun;obtain⟨⟨⟨⟨⟨⟨⟨⟨⟨⟨⟨⟨h1,h2⟩,h3⟩,h4⟩,h5⟩,h6⟩,h7⟩,h8⟩,h9⟩,h10⟩,h11⟩,h12⟩,h13⟩:=h;ac_rfl;have k1:X.env.kindOf x=some .local:=C.loc x (by simpa using h1);have k2:X.env.kindOf y=some .local:=C.loc y (by simpa using h2);have k3:X.env.kindOf z=some .local:=C.loc z (by simpa using h3);have e4:px.line=py.line:=by simpa using h4
 have e5:px.line=pz.line:=by simpa using h5
 have n6:¬ x=y:=by simpa using h6
 have n7:¬ x=z:=by simpa using h7
 have n8:¬ y=z:=by simpa using h8
 have st:∀e,zag e=true->(match e with|.Starred ..=>true|_=>false)=false:=λe h=>by cases e<;>first|rfl|(cases h)
 have st' : ([a,b,c].any λe=>match e with|.Starred ..=>true|_=>false)=false:=by
  rw[Du,Du,Du,List.any_nil,st a h11,st b h12,st c h13];rfl
 unfold swappedStores;simp only [Bc,Gu,C.bk,Eg];rw[if_neg #v[0,9]]
 try simp only [Eg]
 refine (if_neg (λz=>Av (st'.symm.trans z))).trans ?_;have nm:List.filterMap (λe=>match e with|.Name id pos=>if (X.env.kindOf id == some .local && pos.line == (Option.map (λe=>e.pos.line) ([Expr.Name x px,Expr.Name y py,Expr.Name z pz]:List Expr).head?).getD 0)=true then some id else none|_=>none) ([Expr.Name x px,Expr.Name y py,Expr.Name z pz]:List Expr)=[x,y,z]:=by
  have ex:((Expr.Name x px).pos.line)=px.line:=rfl;have q4:py.line=px.line:=e4.symm;have q5:pz.line=px.line:=e5.symm;simp [k1,k2,k3,ex,q4,q5]
 try simp only [Eg]
 generalize hq:List.filterMap _ ([Expr.Name x px,Expr.Name y py,Expr.Name z pz]:List Expr)=names;have hq' : names=[x,y,z]:=hq.symm.trans nm;subst hq';have ed:([x,y,z]:List Str).eraseDups=[x,y,z]:=by
  rw[Fm,Cd,zt0 n6,Cd,zt0 n7];simp only [Fb,Dp,Ej];rw[Fm,Cd,zt0 n8];simp only [Fb,Dp,Ej];rw[Fm,Ej,List.eraseDups_nil]
 rw[ed,if_neg (by simp)]
 try simp only [Eg]
 have m9:¬ (foldedForSure 8 a && foldedForSure 8 b && foldedForSure 8 c)=true:=λz=>by rw[z] at h9;cases h9
 have m10:¬ (constantsAlone 8 a && constantsAlone 8 b && constantsAlone 8 c)=true:=λz=>by rw[z] at h10;cases h10
 rw[if_neg (by simp only [Bo,List.all_nil,Fs,<-Bool.and_assoc];exact m9),if_neg (by simp only [Bo,List.all_nil,Fs,<-Bool.and_assoc];exact m10)]
end
noncomputable def zm7 (x:Stmt->Option GS) (X:Cx) (S:Sx):Prop:=∀st g,x st=some g->PS X st (tS X.K S.mp g)
noncomputable def nmOf:Expr->Option (Str × Pos)
 |.Name x p=>some (x,p)
 |_=>none
noncomputable def yc4 (fE:Sx->Expr->Option GE) (S:Sx) (es vs:List Expr):Option GS:=match es with
  | [n1,n2,n3]=>(match vs with
    |[a,b,c]=>(nmOf n1).bind λx=>(nmOf n2).bind λy=>(nmOf n3).bind λz=>if zwo S x.1 x.2 y.1 y.2 z.1 z.2 a b c then (S.wr x.1).bind λi=>(S.wr y.1).bind λj=>(S.wr z.1).bind λk=>(fE S a).bind λga=>(fE S b).bind λgb=>(fE S c).bind λgc=>some (yeb S.mp i j k ga gb gc) else none
    |_=>none)
  |_=>none
noncomputable def z8x:Expr->Option (List Expr × Nat × Pos)
 |.Tuple es k p=>some (es,k,p)
 |_=>none
noncomputable def yde (fE:Sx->Expr->Option GE) (S:Sx):Stmt->Option GS
  | .Assign ts e _=>(match ts with
    |[tg]=>(z8x tg).bind λx=>(z8x e).bind λy=>yc4 fE S x.1 y.1
    |_=>none)
  |_=>none
section
variable {X:Cx}{S:Sx}{d:Nat}{fE:Sx->Expr->Option GE}
noncomputable def orS (a b:Option GS):Option GS:=match a with
 |some g=>some g
 |none=>b
theorem ya1 {x y:Stmt->Option GS}(hx:zm7 x X S)(hy:zm7 y X S):zm7 (λe=>orS (x e) (y e)) X S:=λe g h=>by
 have h:orS (x e) (y e)=some g:=h;unfold orS at h;split at h
 ·rename_i g' q;obtain rfl:=sI h;exact hx e g' q
 ·exact hy e g h
theorem z3j {o k e:Expr}{p:Pos}{env:Env}:swappedStores [.Subscript o k p] e env=pure none:=by
 cases e<;>rfl
theorem zqf {o k e:Expr}{p:Pos}{l:Nat}{env:Env}:swapsWithSole [.Subscript o k p] e l env=pure false:=by
 cases e<;>rfl
theorem zh8 {o k:Expr}{p:Pos}{env:Env} (h:zci k=true):∀v,assign (.Subscript o k p) env v=(do
   let ov <- holding [v] (eval o env)
   let iv <- holding [v,ov] (eval k env)
   standAt p
   holding [v,ov,iv] (setItem ov iv v)
   release [v,ov,iv] []):=by
 intro v;cases k<;>first|rfl|(cases h)
noncomputable def zo7 (fE:Sx->Expr->Option GE) (S:Sx):Stmt->Option GS
 |.Assign [.Subscript (.Name x _) k _] e _=>if dOn S x && zci k then (S.rd x).bind λi=>(fE S k).bind λgk=>(fE S e).bind λg=>some (zub i gk g) else none
 |_=>none
theorem zsr (HE:zbe fE)(C:CxOk X S d):zm7 (zo7 fE S) X S:=λst g h=>by
 unfold zo7 at h;split at h
 ·split at h
  ·rename_i z;rw[Ad] at z;obtain⟨i,hi,h⟩:=bS h;obtain⟨gk,hgk,h⟩:=bS h;obtain⟨ge,hg,h⟩:=bS h;obtain rfl:=sI h;exact (zt7 (HE X S d C _ _ hg) (z4m (zle C hi) (HE X S d C _ _ hgk) (zq1.or (z0x (yb4 C))) (zh8 z.2)) zqf z3j rfl).wk λ_ _ _=>zwa
  ·exact noSome h
 ·exact noSome h
noncomputable def extS (fE:Sx->Expr->Option GE) (S:Sx) (st:Stmt):Option GS:=zo7 fE S st
theorem z8h (HE:zbe fE)(C:CxOk X S d):zm7 (extS fE S) X S:=zsr HE C
end
noncomputable def zcd (mp:List Nat) (i:Nat):GS:=λen=>match en[i]? with
 |some (#v[w,5])=>if mp.contains i then none else some (en.set i none,.ret (w,true))
 |some (#v[w,6])=>some (en,.ret (w,false))
 |_=>none
theorem zxg {K:PySem.W.Frag}{mp:List Nat}{D:Ends}{σ:St}{H:Hp}{i:Nat}(h:tS K mp (zcd mp i) D σ H):tRet (tVar i) D σ H:=by
 obtain⟨F,pr,en,en',fl,R,h,q⟩:=h;unfold zcd at h;split at h
 ·rename_i w e;split at h
  ·exact noSome h
  ·cases h;obtain⟨v,hv,R',z⟩:=R.drop e;exact⟨v,hv,q F σ H v (.refl F) R' (.refl _ _) z⟩
 ·rename_i w e;cases h;obtain⟨v,hv,z⟩:=R.val i w e;exact⟨v,hv,q F σ H v (.refl F) R (.refl _ _) z⟩
 ·exact noSome h
noncomputable def z22 (f:Sx->Stmt->Option GS):Prop:=∀X S d,CxOk X S d->∀st g,f S st=some g->PS X st (tS X.K S.mp g)
noncomputable def blk (f:Sx->Stmt->Option GS) (S:Sx):List Stmt->Option GS
  |[]=>some zc1
  | st::sts=>match sts with
    |[]=>f S st
    |_::_=>(f S st).bind λa=>(blk f S sts).bind λb=>some (gSeq a b)
noncomputable def zjj (S:Sx) (x:Str) (px:Pos) (scope:Scope) (pos:Pos):Bool:=S.kd.lookup x == some .local && px.line == pos.line && !#v[8,10]
noncomputable def znk (S:Sx) (x:Str):Bool:=S.top && S.kd.lookup x == some .cell
noncomputable def z2x (S:Sx) (x:Str) (px:Pos) (y:Str) (py:Pos) (a b:Expr):Bool:=S.kd.lookup x == some .local && S.kd.lookup y == some .local && px.line == py.line && !(x == y) && !(foldedForSure 8 a && foldedForSure 8 b) && !(constantsAlone 8 a && constantsAlone 8 b) && zag a && zag b
noncomputable def z8a:Expr->Bool
 |.Tuple ..=>true
 |_=>false
noncomputable def zek:Nat:=4096
noncomputable def asgE (fE:Sx->Expr->Option GE) (fT:Sx->Expr->Option GT) (S:Sx) (tg e:Expr):Option GS:=match tg with
  | .Name x px=>(S.wr x).bind fun i=>(match e with
    |.ListComp elt gens scope pos=>(zx2 fE fT S elt gens scope).bind λg=>if zjj S x px scope pos || znk S x then some (gSet S.mp i g) else none
    |e=>if zg1 e then (fE S e).bind λg=>some (gSet S.mp i g) else none)
  | .Tuple es _ _=>(match es,e with
    |[.Name x px,.Name y py],.Tuple [a,b] _ _=>if z2x S x px y py a b then (S.wr x).bind λi=>(S.wr y).bind λj=>(fE S a).bind λga=>(fE S b).bind λgb=>some (gPar S.mp i j ga gb) else none
    |es,e=>if z8a e then none else (zgv S es).bind λis=>(fE S e).bind λg=>some (gAsg S.mp (.tp is) g))
  | .Subscript o k _=>(match o with
    |.Name x _=>if zci k then (S.rd x).bind λi=>(fE S k).bind λgk=>(fE S e).bind λg=>some (zbb i gk g) else none
    |_=>none)
  |_=>none
noncomputable def zsy (mp:List Nat) (i:Nat) (g:GE):GS:=λen=>match en[i]? with
 |some (#v[_,2])=>z6m mp i g en
 |_=>gAug mp #v[7,10] i (gArg g) en
theorem zuu {K:PySem.W.Frag}{mp:List Nat}{D:Ends}{σ:St}{H:Hp}{i:Nat}{r:R2}{g:GE}(ho:OpS K r #v[7,10])(h:tS K mp (zsy mp i g) D σ H):tAug i (tE K g) z7f D σ H\/tAug i (tA K (gArg g)) r D σ H:=by
 obtain⟨F,pr,en,en',fl,R,h,q⟩:=h;unfold zsy at h;split at h
 ·exact .inl (zv6 ⟨F,pr,en,en',fl,R,h,q⟩)
 ·exact .inr (zrn ho ⟨F,pr,en,en',fl,R,h,q⟩)
noncomputable def zp8:Expr->Bool
 |.Constant ..=>false
 |_=>true
noncomputable def z6s (fS:Sx->Stmt->Option GS) (fE:Sx->Expr->Option GE) (fT:Sx->Expr->Option GT) (S:Sx) (st:Stmt):Option GS:=match st with
  | .Return o _=>(match o with
    |none=>none
    | some e=>(match e with
      |.Name x _=>(S.rd x).bind λi=>some (zcd S.mp i)
      |e=>(fE S e).bind λg=>some (gRet g)))
  |.If c a b _=>(fT S c).bind λt=>(blk fS S a).bind λx=>(blk fS S b).bind λy=>some (gIfS t x y)
  | .For tg it body els _=>(match els with
    |[]=>(zok fE S tg it).bind λgi=>(tgE S tg).bind λT=>(blk fS S body).bind λg=>some (gFor S.mp T gi g)
    |_=>none)
  | .While c body els _=>(match els with
    |[]=>(fT S c).bind λt=>(blk fS S body).bind λg=>some (zdb t g zek)
    |_=>none)
  |.Pass _=>some zc1
  |.Expr e _=>if zg1 e then (fE S e).bind λg=>some (zdr g) else none
  | .Assign ts e _=>(match ts with
    |[tg]=>asgE fE fT S tg e
    |_=>none)
  | .AugAssign tg op e _=>(match tg with
    |.Name x _=>if op == .Add && zp8 e then (S.wr x).bind λi=>(fE S e).bind λg=>some (zsy S.mp i g) else (S.wr x).bind λi=>(augO op).bind λo=>(zbg fE S e).bind λa=>some (gAug S.mp o i a)
    |_=>none)
  |_=>none
section
variable {X:Cx}{S:Sx}{d:Nat}{fS:Sx->Stmt->Option GS}{fE:Sx->Expr->Option GE}{fT:Sx->Expr->Option GT}
theorem zic (HS:z22 fS) (C:CxOk X S d):∀{sts:List Stmt}{g:GS},blk fS S sts=some g->PSs X sts (tS X.K S.mp g)
  |[],_,h=>by obtain rfl:=sI h;exact z6z.wk λ_ _ _=>zk2
  |[st],_,h=>z6w (HS X S d C _ _ h)
  | st::st' :: sts,_,h=>by
    obtain⟨a,ha,h⟩:=bS (show (fS S st).bind _=_ from h);obtain⟨b,hb,h⟩:=bS h;obtain rfl:=sI h;exact (z1d (HS X S d C _ _ ha) (zic HS C hb)).wk λ_ _ _=>zzh
theorem yd7 (C:CxOk X S d){x:Str}{px pos:Pos}{elt:Expr}{gens:List Comprehension}{scope:Scope}{l:Nat}(h:zjj S x px scope pos=true):swapsWith #v[1,9] (some (.Name x px)) l X.env=pure true:=by
 unfold zjj at h;rw[Ad,Ad] at h;have h1:X.env.kindOf x=some .local:=C.loc x (by simpa using h.1.1);show (pure (X.env.blockKind == .function && X.env.kindOf x == some .local && px.line == pos.line && !#v[8,10]):Sem Bool)=pure true;rw[C.bk,h1,h.1.2,h.2]
 rfl
theorem swNo (C:CxOk X S d){x:Str}{px pos:Pos}{elt:Expr}{gens:List Comprehension}{scope:Scope}{l:Nat}(h:znk S x=true):swapsWith #v[1,9] (some (.Name x px)) l X.env=pure false:=by
 unfold znk at h;rw[Ad] at h;have h1:X.env.kindOf x=some .cell:=(C.cel x (by simpa using h.2)).1;show (pure (X.env.blockKind == .function && X.env.kindOf x == some .local && px.line == pos.line && !#v[8,10]):Sem Bool)=pure false;rw[h1];have:(some NameKind.cell == some NameKind.local)=false:=rfl;rw[this,Fc,Ea,Ea]
theorem ybu (C:CxOk X S d){x y:Str}{px py pt pt2:Pos}{a b:Expr}{kt k2:Nat}(h:z2x S x px y py a b=true):swappedStores [.Tuple [.Name x px,.Name y py] kt pt] (.Tuple [a,b] k2 pt2) X.env=pure (some [x,y]):=by
 unfold z2x at h;simp only [Ad] at h;nofun;obtain⟨⟨⟨⟨⟨⟨⟨h1,h2⟩,h3⟩,h4⟩,h5⟩,h6⟩,h7⟩,h8⟩:=h;ac_rfl;have k1:X.env.kindOf x=some .local:=C.loc x (by simpa using h1);have k2:X.env.kindOf y=some .local:=C.loc y (by simpa using h2);have e3:px.line=py.line:=by simpa using h3
 have ne:¬ x=y:=by simpa using h4
 have st:∀e,zag e=true->(match e with|.Starred ..=>true|_=>false)=false:=λe h=>by cases e<;>first|rfl|(cases h)
 have st' : ([a,b].any λe=>match e with|.Starred ..=>true|_=>false)=false:=by
  rw[Du,Du,List.any_nil,st a h7,st b h8];rfl
 unfold swappedStores;simp only [Bc,Gu,C.bk,Eg];rw[if_neg #v[0,9]]
 try simp only [Eg]
 refine (if_neg (λz=>Av (st'.symm.trans z))).trans ?_;have nm:List.filterMap (λe=>match e with|.Name id pos=>if (X.env.kindOf id == some .local && pos.line == (Option.map (λe=>e.pos.line) ([Expr.Name x px,Expr.Name y py]:List Expr).head?).getD 0)=true then some id else none|_=>none) ([Expr.Name x px,Expr.Name y py]:List Expr)=[x,y]:=by
  have ex:((Expr.Name x px).pos.line)=px.line:=rfl;simp [k1,k2,ex,e3]
 try simp only [Eg]
 generalize hq:List.filterMap _ ([Expr.Name x px,Expr.Name y py]:List Expr)=names;have hq' : names=[x,y]:=hq.symm.trans nm;subst hq';have yx:(y == x)=false:=by
  cases q:y == x with
  |false=>rfl
  |true=>exact absurd (Br q).symm ne
 have ed:([x,y]:List Str).eraseDups=[x,y]:=by
  rw[Fm,Cd,yx];simp only [Fb,Dp,Ej];rw[Fm,Ej,List.eraseDups_nil]
 rw[ed,if_neg (by simp)]
 try simp only [Eg]
 have n5:¬ (foldedForSure 8 a && foldedForSure 8 b)=true:=λz=>by rw[z] at h5;cases h5
 have n6:¬ (constantsAlone 8 a && constantsAlone 8 b)=true:=λz=>by rw[z] at h6;cases h6
 rw[if_neg (by simp only [Bo,List.all_nil,Fs];exact n5),if_neg (by simp only [Bo,List.all_nil,Fs];exact n6)]
theorem z1i {e:Expr}{es:List Expr}{kt:Nat}{p:Pos}{env:Env}(h:z8a e=false):swappedStores [.Tuple es kt p] e env=pure none:=by
 cases e with
 |Tuple _ _ _=>cases h
 |_=>rfl
theorem zqx {es:List Expr}{kt:Nat}{p:Pos}{e:Expr}{l:Nat}{env:Env}:swapsWithSole [.Tuple es kt p] e l env=pure false:=by
 cases e<;>rfl
theorem z5d (HE:zbe fE) (HT:zl7 fT) (C:CxOk X S d) {tg e:Expr}{g:GS}{pos:Pos} (h:asgE fE fT S tg e=some g):PS X (.Assign [tg] e pos) (tS X.K S.mp g):=by
  cases tg with
  | Name x px =>
    refine aG fun _ qG=>?_;obtain ⟨i,hi,h⟩:=bS (show (S.wr x).bind _=_ from h);obtain ⟨w1,w2,w3⟩:=zo2 C hi;refine qG ?_;clear qG;have plain:(if zg1 e then (fE S e).bind fun g=>some (gSet S.mp i g) else none)=some g->PS X (.Assign [.Name x px] e pos) (tS X.K S.mp g):=fun h=>by
      split at h
      · rename_i z
        obtain⟨ge,hg,h⟩:=bS h;obtain rfl:=sI h;exact (z3u (ndN C) w1 w2 (HE X S d C _ _ hg) (zr3 z) w3).wk λ_ _ _=>zke
      · exact noSome h
    cases e with
    | ListComp elt gens scope pc =>
      obtain⟨ge,hg,h⟩:=bS (show (zx2 fE fT S elt gens scope).bind _=_ from h);have cp:=zgu HE HT C hg;split at h
      · rename_i z
        obtain rfl:=sI h;rw[Ch] at z;rcases z with z|z
        · refine aG fun Gg qG => ?_
          obtain ⟨tg,iter,ifs,gs,gi,T,tc,em,tm,e1,e2,so,pi,pf,pg,pt,pe,rd⟩:=cp.ex;refine qG ?_;clear qG;subst e1;exact (z7o (ndN C) w1 w2 pi pg pt (pe pc) (e2 pc) (yd7 C z) C.calm so.kind so.cap so.fr so.nc so.nm pf w3).wk fun D σ H q=>by
            have q':=zke q;exact rd _ _ _ q'
        · exact (z3u (ndN C) w1 w2 (zxc C cp) (swNo C z) w3).wk λ_ _ _=>zke
      · exact noSome h
    |_=>exact plain h
  | Tuple es kt p =>
    have gen:(if z8a e then none else (zgv S es).bind fun is=>(fE S e).bind fun g=>some (gAsg S.mp (.tp is) g))=some g->PS X (.Assign [.Tuple es kt p] e pos) (tS X.K S.mp g):=fun h=>by
      split at h
      · exact noSome h
      · rename_i z
        nofun;obtain⟨is,his,h⟩:=bS h;obtain⟨ge,hg,h⟩:=bS h;ac_rfl;obtain rfl:=sI h;obtain⟨a,b,c⟩:=zhz C _ his;exact (zt7 (HE X S d C _ _ hg) (zy9 C.calm a b c) zqx (z1i (by simpa using z)) rfl).wk λ_ _ _=>zzt
    unfold asgE at h;simp only at h;split at h
    · rename_i x px y py a b k2 p2
      split at h
      · rename_i z
        refine aG fun _ qG=>?_;obtain ⟨i,hi,h⟩:=bS h;obtain ⟨j,hj,h⟩:=bS h;obtain ⟨ga,hga,h⟩:=bS h;obtain ⟨gb,hgb,h⟩:=bS h;refine qG ?_;clear qG;obtain rfl:=sI h;have hsw:=ybu (pt:=p) (pt2:=p2) (kt:=kt) (k2:=k2) C z;unfold z2x at z;simp only [Ad] at z;refine aG fun _ qG=>?_;obtain ⟨⟨⟨⟨⟨⟨⟨h1,h2⟩,h3⟩,h4⟩,h5⟩,h6⟩,h7⟩,h8⟩:=z;obtain ⟨x1,_,_⟩:=zo2 C hi;obtain ⟨y1,_,_⟩:=zo2 C hj;refine qG ?_;clear qG;have ne:i≠j:=fun e=>by
          subst e;rw[x1] at y1;obtain rfl:=sI y1;simp at h4
        exact (yaj C.calm (ndN C) x1 y1 ne (C.loc x (by simpa using h1)) (C.loc y (by simpa using h2)) (pac (HE X S d C _ _ hga) (pac (HE X S d C _ _ hgb) zds h8) h7) hsw zqx).wk λ_ _ _=>zzs
      · exact noSome h
    · exact gen h
  | Subscript o k p =>
    cases o with
    | Name x px =>
      have h' : (if zci k then (S.rd x).bind λi=>(fE S k).bind λgk=>(fE S e).bind λg=>some (zbb i gk g) else none)=some g:=h;split at h'
      · rename_i z
        nofun;obtain⟨i,hi,h⟩:=bS h';obtain⟨gk,hgk,h⟩:=bS h;obtain⟨ge,hg,h⟩:=bS h;ac_rfl;obtain rfl:=sI h;exact (zt7 (HE X S d C _ _ hg) (z4m (zle C hi) (HE X S d C _ _ hgk) zq1 (zh8 z)) zqf z3j rfl).wk λ_ _ _=>zse
      · exact noSome h'
    |_=>exact noSome h
  |_=>exact noSome h
theorem z03 (HS:z22 fS) (HE:zbe fE) (HT:zl7 fT):z22 (z6s fS fE fT):=fun X S d C st g h=>by
  have pn:PassesOwn #v[3,7] X.A X.env X.xe:=by rw[C.xe];exact PassesOwn.never
  cases st with
  | Return o p =>
    cases o with
    |none=>cases h
    | some e =>
      have gen:((fE S e).bind fun g=>some (gRet g))=some g->PS X (.Return (some e) p) (tS X.K S.mp g):=fun h=>by
        obtain⟨ge,hg,h⟩:=bS h;obtain rfl:=sI h;exact (z4f (HE X S d C _ _ hg)).wk λ_ _ _=>zqu
      cases e with
      | Name x px =>
        obtain⟨i,hi,h⟩:=bS (show (S.rd x).bind _=_ from h);obtain rfl:=sI h;exact (z4f (zle C hi)).wk λ_ _ _=>zxg
      |_=>exact gen h
  | If c a b p =>
    obtain⟨t,ht,h⟩:=bS (show (fT S c).bind _=_ from h);obtain⟨x,hx,h⟩:=bS h;obtain⟨y,hy,h⟩:=bS h;obtain rfl:=sI h;exact (ycl (HT X S d C _ _ ht) (zic HS C hx) (zic HS C hy)).wk λ_ _ _=>zzp
  | For tg it body els p =>
    cases els with
    |cons _ _=>exact noSome h
    | nil =>
      obtain⟨gi,hgi,h⟩:=bS (show (zok fE S tg it).bind _=_ from h);obtain⟨T,hT,h⟩:=bS h;obtain⟨gb,hb,h⟩:=bS h;obtain rfl:=sI h;obtain⟨pi,pf⟩:=zd2 HE C hgi;exact (ycd pn C.calm pi (zp1 C hT) (zic HS C hb) pf).wk λ_ _ _=>z1n
  | While c body els p =>
    cases els with
    |cons _ _=>exact noSome h
    | nil =>
      obtain⟨t,ht,h⟩:=bS (show (fT S c).bind _=_ from h);obtain⟨gb,hb,h⟩:=bS h;obtain rfl:=sI h;exact (z10 pn (HT X S d C _ _ ht) (zic HS C hb)).wk λ_ _ _=>zsb
  |Pass p=>obtain rfl:=sI h;exact z5a.wk λ_ _ _=>zk2
  | Expr e p =>
    have h' : (if zg1 e then (fE S e).bind λg=>some (zdr g) else none)=some g:=h;split at h'
    · rename_i z
      obtain⟨ge,hg,h⟩:=bS h';obtain rfl:=sI h;exact (z7x (HE X S d C _ _ hg) (zr3 z)).wk λ_ _ _=>zwx
    · exact noSome h'
  | Assign ts e p =>
    match ts,h with
    |[tg],h=>exact z5d HE HT C h
    |[],h=>exact noSome h
    |_::_::_,h=>exact noSome h
  | AugAssign tg op e p =>
    cases tg with
    | Name x px =>
      have h' : (if (op == .Add && zp8 e)=true then (S.wr x).bind λi=>(fE S e).bind λg=>some (zsy S.mp i g) else (S.wr x).bind λi=>(augO op).bind λo=>(zbg fE S e).bind λa=>some (gAug S.mp o i a))=some g:=h;split at h'
      · rename_i z
        rw[Ad] at z;have eo:op=.Add:=by simpa using z.1
        subst eo;obtain⟨i,hi,h⟩:=bS h';obtain⟨ge,hg,h⟩:=bS h;obtain rfl:=sI h;obtain⟨w1,w2,w3⟩:=zo2 C hi;have pe:=HE X S d C _ _ hg;intro pins s σ H D I q;rcases zuu (zbv λ_ _ _=>.int _) q with q|q
        · exact zwl (ndN C) w1 w2 pe z8b w3 pins s σ H D I q
        · exact zwl (ndN C) w1 w2 (pe.wk λ_ _ _=>zf1) zuw w3 pins s σ H D I q
      · obtain ⟨i, hi, h⟩ := bS h'
        obtain⟨o,ho,h⟩:=bS h;obtain⟨a,ha,h⟩:=bS h;obtain rfl:=sI h;obtain⟨w1,w2,w3⟩:=zo2 C hi;obtain⟨r,h1,h2⟩:=z7m (X:=X) ho;exact (zwl (ndN C) w1 w2 (zak HE C ha) h1 w3).wk λ_ _ _=>zrn h2
    |_=>exact noSome h
  |_=>exact noSome h
end
noncomputable def zt3:GS:=λ_=>none
noncomputable def zu2:Nat->Sx->Stmt->Option GS
 |0,_,_=>some zt3
 |n+1,S,st=>some ((orS (extS (compE n) S st) (z6s (zu2 n) (compE n) (compT n) S st)).getD zt3)
theorem zqs {X:Cx}{st:Stmt}{mp:List Nat}:PS X st (tS X.K mp zt3):=λ_ _ _ _ _ _ q=>by obtain⟨_,_,_,_,_,_,h,_⟩:=q;exact noSome h
theorem zh4:∀n,z22 (zu2 n)
  |0=>λ_ _ _ _ _ _ h=>by obtain rfl:=sI h;exact zqs
  | n+1=>fun X S d C st g h=>by
    rw[zu2] at h;cases q:orS (extS (compE n) S st) (z6s (zu2 n) (compE n) (compT n) S st) with
    |none=>rw[q] at h;obtain rfl:=sI h;exact zqs
    |some g'=>rw[q] at h;obtain rfl:=sI h;exact ya1 (z8h (zei n).1 C) (z03 (zh4 n) (zei n).1 (zei n).2 X S d C) st _ q
structure Fd where
 nm:Str
 ps:List Str
 N:List Str
 m:List Bool
 st:Stmt
noncomputable def deep:Nat:=60
noncomputable def sxOf (T:List Fd) (bn:List Str) (Ψ:Str->Fn) (d:Nat) (t:Fd):Sx:={ N:=t.N,kd:=(zao t.st).names,bn:=bn,fs:=T.map λu=>(u.nm,(u.m,Ψ u.nm)),mp:=mpOf t.m,top:=true,nm:=t.nm,dp:=d }
noncomputable def zai (T:List Fd) (bn:List Str) (Ψ:Str->Fn) (d:Nat) (t:Fd):Option GS:=blk (zu2 deep) (sxOf T bn Ψ d t) (zc2 t.st)
noncomputable def fnAt (T:List Fd) (bn:List Str) (Ψ:Str->Fn) (d:Nat) (t:Fd):Fn:=match zai T bn Ψ d t with
 |some g=>zac t.m t.N.length g
 |none=>λ_=>none
noncomputable def sem (T:List Fd) (bn:List Str):Nat->Str->Fn
  |0,_=>λ_=>none
  | d+1,x=>match T.find? (·.nm == x) with
    |some t=>fnAt T bn (sem T bn d) d t
    |none=>λ_=>none
noncomputable def z2c (K:PySem.W.Frag) (x:Str):Bool:=match PySem.W.tabIn K x with
 |some (c,P)=>PySem.W.codeHdIn K c P
 |none=>false
theorem Fun.okC {P:Program}{w:World}{K:PySem.W.Frag}{mg:Str->Option Value}{base:Heap}{x qual:Str}{st:Stmt}{f:Addr}{fd:FuncData}{N ps:List Str}{k:Nat}{sp:Sp} (F:Fun K x qual st f fd) (S:FnScope N ps (zao st)) (len:∀vs H Q E,sp vs H Q E->vs.length=ps.length)
  (hbody:∀(A:Around) (outer:List Env) (s:Shared) (H:Hp) (vs:List V) (Q:VK) (E:XK),(Room k (A.deeper (envOfC qual (zao st) s.heap.objs.size f fd.code))/\Room (k+1) A)->sp vs H Q E ->
   ∃t,PSs (cxOf CX0 P w K mg base N qual (zao st) f fd.code A outer s H E).nox (zc2 st) t/\t { nx:=λ_ H'=>Q .non H',rt:=Q } (start N vs) H):FnOk P w K mg base CX0 (k+1) f fd ps sp:=by
 nofun;obtain⟨oc,od,kV,doc,pm,an,cdv,ct,osl,rfl,lk,hcd⟩:=F.ex;ac_rfl;refine ydm lk hcd S len λA outer s H vs Q E hr hsp=>?_;obtain⟨t,h,q⟩:=hbody A outer s H vs Q E hr hsp;exact⟨t,h.nox,q⟩
structure FdOk (K:PySem.W.Frag) (mg:Str->Option Value) (t:Fd):Prop where
 sc:FnScope t.N t.ps (zao t.st)
 m:t.m.length=t.ps.length
 ex:∃f fd,Fun K t.nm t.nm t.st f fd/\zkp K fd t.ps []/\mg t.nm=some (.ref f)
 lam:t.nm∈lams->z2c K t.nm=true
theorem ztd {T:List Fd}{Ψ:Str->Fn}{x:Str}{m:List Bool}{Φ:Fn} (h:(T.map fun u=>(u.nm,(u.m,Ψ u.nm))).lookup x=some (m,Φ)):∃t∈T,t.nm=x/\t.m=m/\Φ=Ψ x:=by
  induction T with
  |nil=>exact noSome h
  | cons t T ih =>
    rw[Ah,Bg] at h;cases q:x == t.nm with
    | true =>
      rw[q] at h;cases h;have:=Br q;subst this;exact⟨t,Ao,rfl,rfl,rfl⟩
    | false =>
      rw[q] at h;obtain⟨u,h1,h2⟩:=ih h;exact⟨u,Aj _ h1,h2⟩
theorem z4u {T:List Fd} (nd:(T.map (·.nm)).Nodup) {t:Fd} (h:t∈T):T.find? (·.nm == t.nm)=some t:=by
  induction T with
  |nil=>cases h
  | cons u T ih =>
    rw[Ah,Bx] at nd;rw[Cz];rcases Ap.mp h with rfl|h
    · simp
    · have:(u.nm == t.nm)=false:=by
        cases q:u.nm == t.nm with
        |false=>rfl
        |true=>exact absurd (Bv.mpr ⟨t,h,(Br q).symm⟩) nd.1
      rw[this];exact ih nd.2 h
theorem zw1 {P:Program}{w:World}{K:PySem.W.Frag}{mg:Str->Option Value}{base:Heap}{T:List Fd}{bn:List Str} (nd:(T.map (·.nm)).Nodup) (ok:∀t∈T,FdOk K mg t) (hb:∀x∈bn,mg x=none) (kb:K.In base) (nb:base.Ns mainGlobals mg) :
    ∀(d:Nat) (t:Fd),t∈T->∀f fd,Fun K t.nm t.nm t.st f fd->mg t.nm=some (.ref f)->FnOk P w K mg base CX0 d f fd t.ps (spF K t.m (sem T bn d t.nm))
  |0,t,_,f,fd,_,_=>⟨λvs H Q E h=>(by obtain⟨_,_,_,_,_,_,_,_,h,_⟩:=h;cases h),λA outer s H args us vs Q E hr he hbi hv h=>(by obtain⟨_,_,_,_,_,_,_,_,h,_⟩:=h;cases h)⟩
  | d+1,t,ht,f,fd,F,M=>by
    have o:=ok t ht;refine F.okC (k:=d) o.sc (fun vs H Q E h=>(zy8 h).trans o.m) (fun A outer s H vs Q E hr h=>?_);have es:sem T bn (d+1) t.nm=fnAt T bn (sem T bn d) d t:=by
      show (match T.find? (·.nm == t.nm) with|some t=>fnAt T bn (sem T bn d) d t|none=>λ_=>none)=_;rw[z4u nd ht]
    rw[es] at h;unfold fnAt at h;cases e:zai T bn (sem T bn d) d t with
    | none =>
      rw[e] at h;nofun;obtain⟨_,_,_,_,_,_,_,_,h,_⟩:=h;ac_rfl;exact noSome h
    | some g =>
      rw [e] at h;have C:CxOk (cxOf CX0 P w K mg base t.N t.nm (zao t.st) f fd.code A outer s H E).nox (sxOf T bn (sem T bn d) d t) d:={
        N:=rfl
        nd:=o.sc.nd
        loc:=λx e=>e
        cel:=λx e=>⟨e,rfl⟩
        vis:=λx e=>e
        gl:=λx e=>e
        calm:=rfl
        xe:=rfl
        bn:=hb
        fs:=fun x m Φ e=>by
          nofun;obtain⟨u,hu,e1,e2,e3⟩:=ztd e;ac_rfl;subst e1 e2 e3;nofun;obtain⟨fa,fb,F',B',M'⟩:=(ok u hu).ex;ac_rfl;exact⟨u.ps,(ok u hu).m.symm,⟨fa,fb,zw1 nd ok hb kb nb d u hu fa fb F' M',B',F'.kp,M'⟩⟩
        room:=hr.1
        sl:=by have:=hr.2.un;show A.units+3+16 * d+205<cLine;omega
        dpo:=Ag _
        lam:=fun h=>by
          have q:=o.lam h;unfold z2c at q;split at q
          · rename_i c Pt e
            refine⟨c,Pt,e,q,?_,rfl⟩;nofun;obtain⟨oc,od,kV,doc,pm,an,cdv,ct,osl,e1,lk,hcd⟩:=F.ex;ac_rfl;exact PySem.W.law_code kb nb e M (kb _ _ lk) rfl
          · cases q
        bk:=by
          show (if (zao t.st).kind.isAnnotationScope then ScopeKind.function else (zao t.st).kind)=.function;rw[o.sc.kind];rfl }
      exact⟨_,zic (zh4 deep) C e,zt1 h⟩
theorem ztf {K:PySem.W.Frag}{F H:Hp}{a:Addr}{ns:List Int}{Φ:Fn}{ws' : List W}(hs:Same F H)(tb:zr8 K F (λ_ _=>False) H)(h:SqL K F a (ns.map V.int))(e:Φ [.frl (ns.map W.int)]=some (ws',#v[9,10]))(hl:ws'.length=1){E:XK}:spF K [false] Φ [.ref a] H (λv _=>v=.bl true) E:=by
 refine⟨F,λ_ _=>False,_,ws',_,rfl,hl,⟨rfl,hs,λi w q=>?_,λi w q=>?_,λi j a w w' q=>?_,λb o q=>q.elim,tb⟩,e,λF' H' v _ _ z=>?_⟩
 ·cases i with
  |zero=>cases q;exact⟨_,rfl,.frl h (Reps.ofInts ns)⟩
  |succ i=>cases i<;>exact noSome q
 ·cases i with
  |zero=>cases q
  |succ i=>cases i<;>exact noSome q
 ·cases i with
  |zero=>cases q
  |succ i=>cases i<;>exact noSome q
 ·exact z.isBl
noncomputable def tabsOf (K:PySem.W.Frag):List Addr:=lams.filterMap λx=>(PySem.W.tabIn K x).map (·.2)
theorem zio {K:PySem.W.Frag}{b:Addr}:b∈tabsOf K↔∃x∈lams,∃c,PySem.W.tabIn K x=some (c,b):=by
 unfold tabsOf;rw[List.mem_filterMap];constructor
 ·rintro ⟨x,hx,e⟩;cases q:PySem.W.tabIn K x with
  |none=>rw[q] at e;exact noSome e
  |some p=>rw[q] at e;obtain rfl:=sI e;exact⟨x,hx,p.1,q⟩
 ·rintro ⟨x,hx,c,e⟩;exact⟨x,hx,by rw[e];rfl⟩
noncomputable def yap (K:PySem.W.Frag) (h:Heap):Prop:=∀x∈lams,∀c P,PySem.W.tabIn K x=some (c,P)->PySem.W.CodeHd h c P/\h.get? P=some (PySem.W.tabObj #[])
structure Start (K:PySem.W.Frag) (F H:Hp):Prop where
 sub:Same F H
 tb:zr8 K F (λ_ _=>False) H
theorem zx1 {P:Program}{w:World}{K:PySem.W.Frag}{mg mb:Str->Option Value}{CX:CXT}{k:Nat}{fa a:Addr}{fd:FuncData}{x:Str}{sp:Sp}{s₁:Shared}{vs:List Value}{ns:List Int}
    (KX:K.In s₁.heap) (nt:PySem.W.noTabs K=true) (nd:z7l K) (hT:yap K s₁.heap) (hns:s₁.heap.Ns mainGlobals mg) (hb:s₁.heap.Ns builtinsNs mb) (hbb:∀x:Str,x≠"__name__" -> mb x=bootBuiltins x) (hlim:s₁.heap.NoLimit) (hbm:∃(b:Addr) (ob:Obj),mg "__builtins__" = some (.ref b)/\b≠builtinsNs/\s₁.heap.get? b=some ob/\ob.cls=.type "module"/\ob.dict=some builtinsNs/\ob.data=.plain) (hg:s₁.gens=#[])
    (ha:s₁.heap.get? a=some { cls:=.type "list",data:=.seq vs.toArray }) (hi:IntsAre vs ns) (hl:ns.length<=sizeLine) (hr:Room k callerA)
    (Fk:∀base:Heap,K.In base->base.Ns mainGlobals mg->FnOk P w K mg base CX k fa fd [x] sp) (hbind:∀(s:Shared) (u:Value),BindsTo s fd ⟨[u],[]⟩ [(x,u)])
    (hsp:∀F H:Hp,Start K F H->SqL K F a (ns.map V.int)->sp [.ref a] H (λv _=>v=.bl true) λ_ _ _=>False)
    (hCX:∀H e s',CX [] H s₁ (λ_ _ _=>False) e s'->False) :
    codeAny (model P w) callerA (.call (.ref fa) ⟨[.ref a],[]⟩) (λr s'=>r=.ok (.ret (.bool true))/\OldK s₁.heap s'.heap/\s'.os=s₁.os/\AllBare s'.gens) s₁:=by
  have rv:=zkq hi;have lenV:=hi.length;have tabAt:∀b∈tabsOf K,s₁.heap.get? b=some (PySem.W.tabObj #[]):=fun b h=>by
    nofun;obtain⟨x,hx,c,e⟩:=zio.mp h;ac_rfl;exact (hT x hx c b e).2
  have na:a ∉ tabsOf K:=fun h=>by
    have:=tabAt a h;rw[ha] at this;cases this
  have core:∀F H:Hp,(∀b,H b=none\/(b∈tabsOf K/\H b=some (.tbl #[])/\F b=none)\/(b=a/\K.lookup a=none/\F b=H b/\∃o xs,H b=some (.frz o (.lst xs))))->(∀b,H b=none->F b=none)->(∀b∈tabsOf K,H b=some (.tbl #[]))->SqL K F a (ns.map V.int)->HOk P w H s₁.heap ->
      codeAny (model P w) callerA (.call (.ref fa) ⟨[.ref a],[]⟩) (λr s'=>r=.ok (.ret (.bool true))/\OldK s₁.heap s'.heap/\s'.os=s₁.os/\AllBare s'.gens) s₁:=by
    intro F H hO hF hB hS hok;have base_of:∀{b:Addr}{o:Obj},s₁.heap.get? b=some o->H b=none->(hidT s₁.heap H).get? b=some o:=fun e n=>zz8 e n;have noA:∀{b:Addr}{o:Obj}{es:Array DictEntry}{ep:Nat},s₁.heap.get? b=some o->o.data=.dict es ep->H b=none:=fun {b o es ep} e d=>by
      rcases hO b with z|⟨z,_⟩|⟨z,_⟩
      · exact z
      · rw[tabAt b z] at e;obtain rfl:=sI e;cases d
      · subst z
        rw[ha] at e;obtain rfl:=sI e;have d' : Data.seq vs.toArray _=Data.dict es ep:=d;cases d'
    have nsK:∀{b:Addr}{m:Str->Option Value},s₁.heap.Ns b m->(hidT s₁.heap H).Ns b m:=fun {b m} ⟨o,es,ep,e,d,r⟩=>⟨o,es,ep,base_of e (noA e d),d,r⟩;have hKb:K.In (hidT s₁.heap H):=fun b o e=>base_of (KX b o e) (by
      rcases hO b with z|⟨z,_⟩|⟨z,n,_⟩
      · exact z
      · have e2 := KX b o e
        rw[tabAt b z] at e2;obtain rfl:=sI e2;have:=Bd.mp nt (b,_) (PySem.W.mem_of_lookupK e);exact absurd (show false=true from this) Av
      · subst z
        rw[n] at e;cases e)
    have hM:Mod K mg (hidT s₁.heap H):=⟨hKb,nsK hns,⟨mb,nsK hb,hbb⟩,let ⟨mc,h1,h2⟩:=hlim;⟨mc,nsK h1,h2⟩,by
      nofun;obtain⟨b,ob,b1,b2,b3,b4,b5,b6⟩:=hbm;ac_rfl;refine⟨b,ob,b1,b2,base_of b3 ?_,b4,b5,b6⟩;rcases hO b with z|⟨z,_⟩|⟨z,_⟩
      · exact z
      · rw[tabAt b z] at b3;obtain rfl:=sI b3;cases b4
      · subst z;rw[ha] at b3;obtain rfl:=sI b3;exact absurd b4 (by simp)⟩
    have e0:Env0 P w K mg (hidT s₁.heap H) callerA [] s₁ H:=⟨rfl,hM,fun b o e=>z7t e,Nat.le_of_eq (zyx _ _),trivial,fun b hb=>absurd (show b∈([]:List Addr) from hb) (by simp),hok,.of_eq hg⟩;have st:Start K F H:=⟨fun b o e=>by
      rcases hO b with z|⟨_,_,z⟩|⟨_,_,z,_⟩
      · rw[hF b z] at e;cases e
      · rw[z] at e;cases e
      · rw[<-z];exact e,⟨⟨nd,λ_ _ z=>z⟩,λx hx c Pt e=>by
      have hm:Pt∈tabsOf K:=zio.mpr ⟨x,hx,c,e⟩;refine⟨#[],hB Pt hm,?_,λ_ z=>z,trivial,λpos cv q=>by cases q⟩;rcases hO Pt with z|⟨_,_,z⟩|⟨z,_⟩
      · exact hF Pt z
      · exact z
      · subst z;exact absurd hm na⟩⟩
    refine codeAny_mono ((Fk _ hKb (nsK hns)).run callerA [] s₁ H ⟨[.ref a],[]⟩ [.ref a] [.ref a] _ _ hr e0 (hbind s₁ (.ref a)) (.cons rfl .nil) (hsp F H st hS)) λr s' h=>?_;cases r with
    |error e=>exact (hCX H e s' h).elim
    | ok fl =>
      cases fl with
      |next=>exact False.elim h
      |brk=>exact False.elim h
      |cont=>exact False.elim h
      | ret u =>
        nofun;obtain⟨v,H',os,bare,un,hok',r',q⟩:=h;ac_rfl;have q' : v=.bl true:=q;subst q';obtain rfl:u=Value.bool true:=r';refine⟨rfl,⟨λb o e=>?_,λb o e=>un.there b o e (by simp)⟩,os,bare⟩;rcases hO b with z|⟨z,z1,_⟩|⟨_,_,_,ob,xs,z⟩
        · exact .inl (un.keep b o e z (by intro y;exact absurd (show b∈([]:List Addr) from y) (by simp)) (by simp))
        · refine aG fun Gg qG => ?_
          obtain⟨x,hx,c,ex⟩:=zio.mp z;obtain⟨t1,t2⟩:=hT x hx c b ex;ac_rfl;rw[e] at t2;obtain rfl:=sI t2;obtain⟨more,e2⟩:=un.tbls b #[] z1;exact .inr (.inl ⟨(t1.tab e).isCodeTable,rfl,#[],more,rfl,hok' b _ e2⟩)
        · have z2 := un.frzs b ob _ z
          obtain⟨e1,_⟩:=hok b _ z;obtain⟨e2,_⟩:=hok' b _ z2;rw[e] at e1;obtain rfl:=sI e1;exact .inl e2
  have tOk:∀b,b∈tabsOf K->∀H,ObjOk P w H s₁.heap b (.tbl #[]):=λb h H=>tabAt b h;cases hk:K.lookup a with
  | some o =>
    have e:=KX a o hk;rw[ha] at e;obtain rfl:=sI e;refine core (λ_=>none) (λb=>if b∈tabsOf K then some (.tbl #[]) else none) (λb=>?_) (λ_ _=>rfl) (λb h=>if_pos h) (.inr ⟨_,vs.toArray,_,hk,rfl,rfl,rfl,by rw[Aq,lenV];exact hl,by simpa using rv⟩) (λb u z=>?_)
    · by_cases h : b ∈ tabsOf K
      · exact .inr (.inl ⟨h,if_pos h,rfl⟩)
      · exact .inl (if_neg h)
    · by_cases h : b ∈ tabsOf K
      · have z' := (if_pos h).symm.trans z
        obtain rfl:=sI z';exact tOk b h _
      · have z' := (if_neg h).symm.trans z
        cases z'
  | none =>
    refine core (λb=>if b=a then some (.frz { cls:=.type "list",data:=.seq vs.toArray } (.lst (ns.map V.int))) else none) (λb=>if b=a then some (.frz { cls:=.type "list",data:=.seq vs.toArray } (.lst (ns.map V.int))) else if b∈tabsOf K then some (.tbl #[]) else none) (λb=>?_) (λb z=>?_) (λb h=>?_) (.inl (.inr ⟨{ cls:=.type "list",data:=.seq vs.toArray },if_pos rfl⟩)) (λb u z=>?_)
    · by_cases h0 : b = a
      · exact .inr (.inr ⟨h0,hk,by simp only [if_pos h0],_,_,if_pos h0⟩)
      · by_cases h : b ∈ tabsOf K
        · exact .inr (.inl ⟨h,by simp only [if_neg h0,if_pos h],if_neg h0⟩)
        · exact .inl (by simp only [if_neg h0,if_neg h])
    · by_cases h0 : b = a
      · simp only [if_pos h0] at z;cases z
      · exact if_neg h0
    · have h0 : b ≠ a := fun z => by subst z; exact na h
      simp only [if_neg h0,if_pos h]
    · by_cases h0 : b = a
      · have z' : some (HO.frz { cls := .type "list", data := .seq vs.toArray } (.lst (ns.map V.int))) = some u := by simpa only [if_pos h0] using z
        obtain rfl:=sI z';subst h0;exact⟨ha,by rw[Ab];exact hl,vs,_,rv,ha⟩
      · by_cases h : b ∈ tabsOf K
        · have z' : some (HO.tbl #[]) = some u := by simpa only [if_neg h0, if_pos h] using z
          obtain rfl:=sI z';exact tOk b h _
        · have z' : (none : Option HO) = some u := by simpa only [if_neg h0, if_neg h] using z
          cases z'
noncomputable def zun (K:PySem.W.Frag):Bool:=lams.all λx=>lams.all λx'=>match PySem.W.tabIn K x,PySem.W.tabIn K x' with
 |some p,some p'=>x == x' || !(p.2 == p'.2)
 |_,_=>true
theorem z3d {K:PySem.W.Frag}(h:zun K=true):z7l K:=λx hx x' hx' c c' P e e'=>by
 have:=Bd.mp (Bd.mp h x hx) x' hx';rw[e,e'] at this;simpa using this
theorem walk_ofT {l:PySem.W.OpenLaw}{n k:Nat}{q:Program}{loose:List Str}{XP:(Str->Option Value)->Heap->Prop}{YP:World->Heap->Prop}{d:DefRec}{K:Params->PySem.W.Frag}{CX:World->CXT}{sp:World->Sp}{x:Str}
  (hn:l.most=some n) (hn2:n<=sizeLine) (hdf:d.params.defaults=[]) (hr:Room k callerA)
  (hY:∀(w:World) (h:Heap),YP w h->(K w.params).In h)
  (nt:∀w:World,PySem.W.noTabs (K w.params)=true) (nd:∀w:World,zun (K w.params)=true) (hrec:∀(w:World),∀x∈lams,∀c P,PySem.W.tabIn (K w.params) x=some (c,P)->∃d,(recsOf q).find? (λe=>e.name == x)=some d)
  (F:∀(w:World) (mg:Str->Option Value) (fa:Addr) (h:Heap),(K w.params).In h->h.Ns mainGlobals mg->mg d.name=some (.ref fa) ->
   ∃fd:FuncData,(∀(s:Shared) (u:Value),BindsTo s fd ⟨[u],[]⟩ [(x,u)]) /\
    ∀base:Heap,(K w.params).In base->base.Ns mainGlobals mg->FnOk l.prog w (K w.params) mg base (CX w) k fa fd [x] (sp w))
  (hsp:∀(w:World) (F H:Hp) (a:Addr) (ns:List Int),ns.length<=n->Start (K w.params) F H->SqL (K w.params) F a (ns.map V.int)->sp w [.ref a] H (λv _=>v=.bl true) λ_ _ _=>False)
  (hCX:∀(w:World) (H:Hp) (s:Shared) (e:Value) (s' : Shared),CX w [] H s (λ_ _ _=>False) e s'->False) :
  PySem.W.WalkO q loose XP YP l.row.toRowW d [] (λf vs=>PySem.call f vs):=by
 refine Att.attach_call hn hdf λw s₀ s₁ mg mb fa o pm cd doc a vs ns G Y ho hd hcd hmg hobj hints hlen hg=>?_;have KX:=hY w _ Y;obtain⟨fd,hb,hF⟩:=F w mg fa _ KX G.T.g hmg;refine zx1 KX (nt w) (z3d (nd w)) (λx hx c Pt e=>?_) G.T.g G.T.b G.T.builtins G.T.nolimit G.T.bmain hg hobj hints (Ci hlen hn2) hr hF hb (λF H hO hS=>hsp w F H a ns hlen hO hS) λH e s'=>hCX w H s₁ e s';obtain⟨d,hd⟩:=hrec w x hx c Pt e;exact PySem.W.tab_of G.T KX hd e
theorem zoc (i j:Int):oAdd (.int i) (.int j)=#v[(i+j),0]:=rfl
theorem zyc {i j:Int}(h:cMul i j=true):oMult (.int i) (.int j)=#v[(i * j),0]:=by
 show (match (if cMul i j then #v[W.int (i * j),6] else none) with|some p=>some p|none=>_)=_;rw[if_pos h]
theorem oMult_l {i j:Int}(h1:-(2 ^ 64)<i)(h2:i<2 ^ 64):oMult (.int i) (.int j)=#v[(i * j),0]:=zyc (by
 unfold cMul;rw[Ch,Ad];exact .inl ⟨Am h1,Am h2⟩)
theorem znu {i j:Int}(h1:-(2 ^ 64)<j)(h2:j<2 ^ 64):oMult (.int i) (.int j)=#v[(i * j),0]:=zyc (by
 unfold cMul;rw[Ch,Ad,Ad];exact .inr ⟨Am h1,Am h2⟩)
theorem zwy {i j:Int}(h1:Builtin.Int.intBits i<=2 ^ 20)(h2:Builtin.Int.intBits j<=2 ^ 20):oMult (.int i) (.int j)=#v[(i * j),0]:=by
 have h:zs9 i j=true:=by
  unfold zs9;rw[Ad];exact⟨Am h1,Am h2⟩
 show (match (if cMul i j then #v[W.int (i * j),6] else none) with|some p=>some p|none=>(match (if zs9 i j then #v[W.int (i * j),6] else none) with|some p=>some p|none=>_))=_;rw[if_pos h];split<;>simp_all
theorem zxq {xs:List W}{k:Int}(h:-(2 ^ 63)<=k/\k<2 ^ 63/\xs.length * k.toNat<=sizeLine):oMult (.lst xs) (.int k)=#v[(List.replicate k.toNat xs).flatten,2]:=by
 show (if -(2 ^ 63)<=k/\k<2 ^ 63/\xs.length * k.toNat<=sizeLine then some (W.lst (List.replicate k.toNat xs).flatten,true) else none)=_;rw[if_pos h]
theorem z5b {xs ys:List W}(h:xs.length+ys.length<=sizeLine):oAdd (.lst xs) (.lst ys)=#v[(xs++ys),2]:=by
 show (match (if xs.length+ys.length<=sizeLine then #v[W.lst (xs++ys),5] else none) with|some p=>some p|none=>_)=_;rw[if_pos h]
theorem ybj {i j:Int}(h0:0<j)(h:j<2 ^ 200):cDiv i j=true:=by
 unfold cDiv;rw[Ad];refine⟨Am h0,Am ?_⟩;have hn:j.natAbs≠0:=by omega
 have h1:j.natAbs<2 ^ 200:=by
  have:((j.natAbs:Nat):Int)<((2 ^ 200:Nat):Int):=by
   rw[Int.natCast_pow];have e:((j.natAbs:Nat):Int)=j:=by omega
   rw[e];exact h
  exact Int.ofNat_lt.mp this
 exact Az ((Nat.log2_lt hn).mpr h1) #v[0,9]
theorem zqk {i j:Int}(h0:0<j)(h:j<18446744073709551617):cDiv i j=true:=ybj h0 (Ha h #v[0,9])
theorem zkx {i j:Int}(h0:0<=j)(h1:j<=1000000)(h2:i.natAbs<2 ^ 64):cPow i j=true:=by
 unfold cPow;rw[Ad,Ad];exact⟨⟨Am h0,Am h1⟩,Am h2⟩
theorem zrs {mp:List Nat}{T:Tg}{body:GS} (P:Nat->En->Prop):∀(ws:List W) (k:Nat) (en:En),P k en->(∀i w e,ws[i]?=some w->P (k+i) e->∃e1 e2,tgSet mp T w e=some e1/\(body e1=some (e2,.nx)\/body e1=some (e2,.cnt))/\P (k+i+1) e2) ->
    ∃en',zhf mp T body ws en=some (en',.nx)/\P (k+ws.length) en'
  |[],k,en,h0,_=>⟨en,rfl,h0⟩
  | w::ws,k,en,h0,hs=>by
    refine aG fun _ qG=>?_;obtain ⟨e1,e2,h1,h2,h3⟩:=hs 0 w en rfl h0;refine qG ?_;clear qG;obtain ⟨en',h4,h5⟩:=zrs P ws (k+1) e2 h3 fun i u e hu hp=>by
      have:=hs (i+1) u e (by simpa using hu) (by rw[show k+(i+1)=k+1+i by omega];exact hp);rw[show k+(i+1)+1=k+1+i+1 by omega] at this;exact this
    refine⟨en',?_,by rw[show k+(w::ws).length=k+1+ws.length by rw[Bc];omega];exact h5⟩;show (tgSet mp T w en).bind _=_;rw[h1];show (match body e1 with|some (e2,.nx)=>zhf mp T body ws e2|some (e2,.cnt)=>zhf mp T body ws e2|some (e2,.brk)=>some (e2,.nx)|some (e2,.ret r)=>some (e2,.ret r)|none=>none)=_;rcases h2 with h2|h2<;>(rw[h2];exact h4)
theorem zbu {mp:List Nat}{T:Tg}{it:GL}{body:GS} (P:Nat->En->Prop) {en e0:En}{ws:List W} (hi:it en=some (e0,ws)) (h0:P 0 e0) (hs:∀i w e,ws[i]?=some w->P i e->∃e1 e2,tgSet mp T w e=some e1/\(body e1=some (e2,.nx)\/body e1=some (e2,.cnt))/\P (i+1) e2) :
  ∃en',gFor mp T it body en=some (en',.nx)/\P ws.length en':=by
 obtain⟨en',h1,h2⟩:=zrs P ws 0 e0 h0 λi w e hw hp=>by
  rw[Cf] at hp ⊢;exact hs i w e hw hp
 refine⟨en',?_,by rw[Cf] at h2;exact h2⟩;unfold gFor;rw[hi];exact h1
theorem zmy {mp:List Nat}{T:Tg}{tc:GT}{te:GE} (P:Nat->En->List W->Prop):∀(ws:List W) (k:Nat) (ce:En) (dn:List W),P k ce dn ->
    (∀i w c dn,ws[i]?=some w->P (k+i) c dn->∃c1,tgSet mp T w c=some c1/\((∃c2 c3 r,tc c1=#v[c2,5]/\te c2=some (c3,r)/\P (k+i+1) c3 (dn++[r.1]))\/∃c2,tc c1=#v[c2,6]/\P (k+i+1) c2 dn)) ->
    ∃ce' rest,zf9 mp T tc te ws ce=some (ce',rest)/\P (k+ws.length) ce' (dn++rest)
  |[],k,ce,dn,h0,_=>⟨ce,[],rfl,by rw[By];exact h0⟩
  | w::ws,k,ce,dn,h0,hs=>by
    obtain ⟨c1,h1,h2⟩:=hs 0 w ce dn rfl h0;have next:∀c3 dn',P (k+1) c3 dn'->∃ce' rest,zf9 mp T tc te ws c3=some (ce',rest)/\P (k+1+ws.length) ce' (dn'++rest):=fun c3 dn' h=>zmy P ws (k+1) c3 dn' h fun i u c d hu hp=>by
      have:=hs (i+1) u c d (by simpa using hu) (by rw[show k+(i+1)=k+1+i by omega];exact hp);rw[show k+(i+1)+1=k+1+i+1 by omega] at this;exact this
    have el:k+(w::ws).length=k+1+ws.length:=by rw[Bc];omega
    rcases h2 with⟨c2,c3,r,h3,h4,h5⟩|⟨c2,h3,h5⟩
    · obtain ⟨ce', rest, h6, h7⟩ := next c3 _ h5
      refine⟨ce',r.1::rest,?_,by rw[el];rw[Bb] at h7;exact h7⟩;show (tgSet mp T w ce).bind _=_;rw[h1];show (match tc c1 with|#v[c2,5]=>(te c2).bind λp=>(zf9 mp T tc te ws p.1).bind λq=>some (q.1,p.2.1::q.2)|#v[c2,6]=>zf9 mp T tc te ws c2|none=>none)=_;rw[h3];show (te c2).bind _=_;rw[h4];show (zf9 mp T tc te ws c3).bind _=_;rw[h6]
      rfl
    · obtain ⟨ce', rest, h6, h7⟩ := next c2 _ h5
      refine⟨ce',rest,?_,by rw[el];exact h7⟩;show (tgSet mp T w ce).bind _=_;rw[h1];show (match tc c1 with|#v[c2,5]=>(te c2).bind λp=>(zf9 mp T tc te ws p.1).bind λq=>some (q.1,p.2.1::q.2)|#v[c2,6]=>zf9 mp T tc te ws c2|none=>none)=_;rw[h3];exact h6
theorem zdd {cap:Cap}{T:Tg}{it:GL}{tc:GT}{te:GE} (P:Nat->En->List W->Prop) {en e0:En}{ws:List W} (hi:it en=some (e0,ws)) (hn:zbx cap=true) (hz:ws.length<=sizeLine) (h0:P 0 (zfj cap e0) [])
  (hs:∀i w c dn,ws[i]?=some w->P i c dn->∃c1,tgSet (capKeep cap) T w c=some c1/\((∃c2 c3 r,tc c1=#v[c2,5]/\te c2=some (c3,r)/\P (i+1) c3 (dn++[r.1]))\/∃c2,tc c1=#v[c2,6]/\P (i+1) c2 dn)) :
  ∃ce' out,za9 cap T it tc te en=some (zam cap e0 ce',(.lst out,true))/\P ws.length ce' out:=by
 obtain⟨ce',rest,h1,h2⟩:=zmy P ws 0 (zfj cap e0) [] h0 λi w c dn hw hp=>by
  rw[Cf] at hp ⊢;exact hs i w c dn hw hp
 refine⟨ce',rest,?_,by rw[Cf] at h2;exact h2⟩;unfold za9;rw[hi];show (if zbx cap && decide (ws.length<=sizeLine) then _ else none)=_;rw[if_pos (by rw[hn,Am hz];rfl),h1]
 rfl
theorem zcp {lo:Int}{n i:Nat}{w:W} (h:(rngW lo n)[i]?=some w):i < n/\w=.int (lo+i):=by
  unfold rngW at h;rw[Ai] at h;cases q:(List.range n)[i]? with
  |none=>rw[q] at h;exact noSome h
  | some k =>
    rw[q] at h;obtain⟨hl,e⟩:=Ak.mp q;rw[Cn] at hl;rw[List.getElem_range] at e;subst e;exact⟨hl,(sI h).symm⟩
theorem zco (lo:Int)(n:Nat):(rngW lo n).length=n:=by unfold rngW;rw[Ab,Cn]
theorem zbr {xs:List W}{i:Nat}{x:W}(h:xs[i]?=some x):atI xs (i:Int)=some x:=z8l h
theorem zvx {en:En}:zb9 [] [] en=some []:=rfl
theorem zv7 {m:List Bool}{ws:List W}{en:En}{x w:W}:zb9 (true::m) (x::ws) (#v[w,5]::en)=(zb9 m ws en).bind λr=>some (w::r):=rfl
theorem zvf {m:List Bool}{ws:List W}{en:En}{w:W}{o:Option (W × Bool)}:zb9 (false::m) (w::ws) (o::en)=(zb9 m ws en).bind λr=>some (w::r):=rfl
noncomputable def HS (k:Nat) (w:W):Prop:=∃a b c:Int,w=.lst [.int a,.int b,.int c]/\0<=a/\0<=b/\b<MM/\0<=c/\c<=k
theorem HS.mono {k k' : Nat}{w:W}(h:HS k w)(hk:k<=k'):HS k' w:=by
 obtain⟨a,b,c,e,h1,h2,h3,h4,h5⟩:=h;exact⟨a,b,c,e,h1,h2,h3,h4,by omega⟩
noncomputable def zia (Φ:Fn):Prop:=∀(k:Nat) (st:W) (n:Int),HS k st->k<big->0<n->n<1073741824->∃st' r,Φ [st,.int n]=some ([st',.int n],(.int r,false))/\HS (k+1) st'/\0<=r/\r<n
noncomputable def zyv (Ψ:Str->Fn):GS:=(gSeq (gIfS (zaj (gOp2 #v[3,11] #v[6,10] #v[0])) (gSeq (gSet [0] 2 (gOp2 #v[0,0,2] #v[6,10] (zaa 1))) (gSeq (zbb 0 (gC (.int 0)) (gOp2 #v[0,0,3] #v[6,10] (zaa 1))) (zcd [0] 2))) zc1) (gSeq (zbb 0 (gC (.int 2)) (gOp2 oAdd (gArg (gOp2 oIx (zaa 0) #v[2])) #v[1])) (gSeq (gSet [0] 3 (gOp2 #v[0,0,2] (gArg (gOp2 oMult (gArg (gOp2 oAdd (gArg (gOp2 oAdd (gArg (gOp2 oIx (zaa 0) #v[1])) (gArg (gOp2 oMult (gArg (gOp2 oMult #v[65537] (gArg (gOp2 oIx (zaa 0) #v[2])))) (gArg (gOp2 oIx (zaa 0) #v[2])))))) #v[11])) #v[48271])) #v[2305843009213693921])) (gSeq (gSet [0] 3 (gOp2 #v[0,0,2] (gArg (gOp2 oMult (zaa 3) (gArg (gOp2 oAdd (gArg (gOp2 #v[0,0,2] (zaa 3) #v[1000003])) (gArg (gOp2 oMult #v[99991] (gArg (gOp2 oIx (zaa 0) #v[2])))))))) #v[2305843009213693907])) (gRet (gOp2 #v[0,0,2] (gArg (gOp2 oAdd (gArg (gOp2 #v[0,0,3] (zaa 3) #v[97])) (gArg (gOp2 #v[0,0,3] (zaa 3) #v[1000033])))) (zaa 1)))))))
theorem zj7 (Ψ:Str->Fn):zia (zac [true,false] 4 (zyv Ψ)):=by
 rintro k st n ⟨a,b,c,rfl,h0,h1,h2,h3,h4⟩ hk n0 n1;have hb:(k:Int)<1099511627776:=by have:k<1099511627776:=hk;omega
 by_cases c1:0<a
 ·refine⟨.lst [.int (a / n),.int b,.int c],a % n, ?_,⟨_,_,_,rfl,Int.ediv_nonneg h0 #v[],h1,h2,h3,by omega⟩,Fu _ #v[],Ef _ n0⟩;have hd:cDiv a n=true:=zqk n0 #v[];simp [zac,zyv,za3,gSeq,gIfS,zaj,gOp2,gArg,zaa,gC,resA,oI,yes2,oIx,seqW,atI,ixN,gSet,zbb,zcd,zvx,zv7,zvf,c1,n0,hd]
 ·have e1 : oMult (.int 65537) (.int (c + 1)) = some (.int (65537 * (c + 1)),false):=oMult_l #v[0,9] #v[0,9];have e2:oMult (.int (65537 * (c+1))) (.int (c+1))=#v[(65537 * (c+1) * (c+1)),0]:=znu #v[] #v[];have e3:oMult (.int (b+65537 * (c+1) * (c+1)+11)) (.int 48271)=#v[((b+65537 * (c+1) * (c+1)+11) * 48271),0]:=znu #v[0,9] #v[0,9];generalize hx:(b+65537 * (c+1) * (c+1)+11) * 48271=x0 at e3;have e4:oMult (.int 99991) (.int (c+1))=#v[(99991 * (c+1)),0]:=oMult_l #v[0,9] #v[0,9];have x1:0<=x0 % 2305843009213693921:=Fu _ #v[0,9];have x2:x0 % 2305843009213693921<2305843009213693921:=Ef _ #v[0,9];have e5:oMult (.int (x0 % 2305843009213693921)) (.int (x0 % 2305843009213693921 % 1000003+99991 * (c+1)))=#v[(x0 % 2305843009213693921 * (x0 % 2305843009213693921 % 1000003+99991 * (c+1))),0]:=oMult_l #v[] #v[];have d1:∀i,cDiv i 97=true:=λi=>zqk #v[0,9] #v[0,9];have d2:∀i,cDiv i 1000033=true:=λi=>zqk #v[0,9] #v[0,9];refine⟨.lst [.int a,.int b,.int (c+1)],(x0 % 2305843009213693921 * (x0 % 2305843009213693921 % 1000003+99991 * (c+1)) % 2305843009213693907 / 97+x0 % 2305843009213693921 * (x0 % 2305843009213693921 % 1000003+99991 * (c+1)) % 2305843009213693907 / 1000033) % n,?_,⟨_,_,_,rfl,h0,h1,h2,by omega,by omega⟩,Fu _ #v[],Ef _ n0⟩
  ·simp [zac,zyv,za3,gSeq,gIfS,zaj,gOp2,gArg,zaa,gC,resA,oI,yes2,oIx,seqW,atI,ixN,gSet,zbb,gRet,zc1,zvx,zv7,zvf,c1,n0,zoc,e1,e2,e3,e4,e5,d1,d2]
theorem seq_nx {a b:GS}{en e1:En}(h:a en=some (e1,.nx)):gSeq a b en=b e1:=by unfold gSeq;rw[h]
theorem z4j {a b:GS}{en e1:En}{r:W × Bool}(h:a en=some (e1,.ret r)):gSeq a b en=some (e1,.ret r):=by unfold gSeq;rw[h]
theorem set_ev {mp:List Nat}{i:Nat}{g:GE}{en e1:En}{r:W × Bool}(h:g en=some (e1,r))(hi:(mp.contains i || !decide (i<e1.length))=false):gSet mp i g en=some (e1.set i (some r),.nx):=by
 unfold gSet;rw[h];show (if (mp.contains i || !decide (i<e1.length))=true then _ else _)=_;rw[hi]
 rfl
theorem ybb {c:GT}{a b:GS}{en e1:En}(h:c en=#v[e1,5]):gIfS c a b en=a e1:=by unfold gIfS;rw[h]
theorem yb7 {c:GT}{a b:GS}{en e1:En}(h:c en=#v[e1,6]):gIfS c a b en=b e1:=by unfold gIfS;rw[h]
theorem zwm {g:GE}{en e1:En}{b f:Bool}(h:g en=some (e1,(.bl b,f))):zaj g en=some (e1,b):=by unfold zaj;rw[h]
theorem zpv {g:GE}{en e1:En}{r:W × Bool}(h:g en=some (e1,r)):gRet g en=some (e1,.ret r):=by unfold gRet;rw[h];rfl
theorem zxy {g:GE}{en e1:En}{r:W × Bool}(h:g en=some (e1,r)):zdr g en=some (e1,.nx):=by unfold zdr;rw[h];rfl
theorem arg_ev {g:GE}{en e1:En}{r:W × Bool}(h:g en=some (e1,r)):gArg g en=some (e1,.inl r.1):=by unfold gArg;rw[h];rfl
theorem ztt {a:GA}{as:GAs}{en e1 e2:En}{x:W ⊕ Nat}{xs:List (W ⊕ Nat)}(h:a en=some (e1,x))(h2:as e1=some (e2,xs)):gCns a as en=some (e2,x::xs):=by
 unfold gCns;rw[h];show (as e1).bind _=_;rw[h2]
 rfl
theorem op2_ev {o:O2}{a b:GA}{en e1 e2:En}{x y:W ⊕ Nat}{w u:W}{r:W × Bool}(h1:a en=some (e1,x))(h2:b e1=some (e2,y))(h3:resA e2 x=some w)(h4:resA e2 y=some u)(h5:o w u=some r):gOp2 o a b en=some (e2,r):=by
 unfold gOp2;rw[h1];show (b e1).bind _=_;rw[h2];show (resA e2 x).bind _=_;rw[h3];show (resA e2 y).bind _=_;rw[h4];show (o w u).bind _=_;rw[h5]
 rfl
theorem z3q {o:ON}{as:GAs}{en e1:En}{xs:List (W ⊕ Nat)}{ws:List W}{r:W × Bool}(h1:as en=some (e1,xs))(h2:za6 e1 xs=some ws)(h3:o ws=some r):gOpN o as en=some (e1,r):=by
 unfold gOpN;rw[h1];show (za6 e1 xs).bind _=_;rw[h2];show (o ws).bind _=_;rw[h3]
 rfl
theorem za1 {m:List Bool}{n:Nat}{g:GS}{ws ws' : List W}{en:En}{r:W × Bool}(hl:ws.length=m.length)(h:g (za3 m ws++List.replicate (n - m.length) none)=some (en,.ret r))(ho:zb9 m ws en=some ws'):zac m n g ws=some (ws',r):=by
 unfold zac;rw[if_pos hl,h];show (zb9 m ws en).bind _=_;rw[ho]
 rfl
theorem zca:∀(ws:List W) (i:Nat),zaq (za2 (ws.map Sum.inl)) i=none
  |[],i=>rfl
  | w::ws,i=>by
    have:=zca ws i;unfold zaq za2 at this ⊢;rw[Ah,Ah,List.findIdx?_cons,this]
    rfl
theorem zgl (ws:List W):zbx (za2 (ws.map Sum.inl))=true:=by
  unfold zbx;refine Bd.mpr λj _=>?_;have:∀i,(za2 (ws.map Sum.inl))[j]?≠some (some i):=λi=>zcs (zca ws i) j;cases q:(za2 (ws.map Sum.inl))[j]? with
  |none=>rfl
  | some o =>
    cases o with
    |none=>rfl
    |some i=>exact absurd q (this i)
theorem zna {cap:Cap}{en ce:En}(h:∀i,zaq cap i=none):zam cap en ce=en:=by
 unfold zam;apply Dg;intro i;rw[Ex];cases en[i]? with
 |none=>rfl
 |some x=>simp only [Gs,h i]
theorem zbw (en:En):∀ws:List W,za6 en (ws.map Sum.inl)=some ws
 |[]=>rfl
 |w::ws=>by show (some w).bind _=_;show (za6 en (ws.map Sum.inl)).bind _=_;rw[zbw en ws];rfl
theorem zee (en:En)(ws:List W):zaw en (ws.map Sum.inl)=true:=by
 unfold zaw;refine Bd.mpr λx hx=>?_;obtain⟨w,_,rfl⟩:=Bv.mp hx
 rfl
theorem znf {m:List Bool}{Φ:Fn}{as:GAs}{en e1:En}{ws ws' : List W}{r:W × Bool}(h:as en=some (e1,ws.map Sum.inl))(hm:(ws.map λ_=>false)=m)(hΦ:Φ ws=some (ws',r))(hl:ws'.length=ws.length):zab m Φ as en=some (e1,r):=by
 unfold zab;rw[h];show (if (decide ((ws.map Sum.inl).map isR=m) && zaw e1 (ws.map Sum.inl) && zbx (za2 (ws.map Sum.inl)))=true then _ else _)=_;have e:(ws.map Sum.inl).map isR=m:=by rw[<-hm,Ed];rfl
 rw[Am e,zee,zgl];show (za6 e1 (ws.map Sum.inl)).bind _=_;rw[zbw];show (Φ ws).bind _=_;rw[hΦ];show (if ws'.length=m.length then _ else _)=_;rw[if_pos (by rw[hl,<-hm,Ab]),zna (zca ws)]
theorem zp9 {m:List Bool}{Φ:Fn}{as:GAs}{en e1:En}{i:Nat}{ws wz:List W}{st st' : W}{r:W × Bool} (h:as en=some (e1,.inr i::ws.map Sum.inl)) (hm:(true::ws.map fun _=>false)=m) (hi:e1[i]?=some (some (st,true))) (hΦ:Φ (st::ws)=some (st' :: wz,r)) (hl:wz.length=ws.length):zab m Φ as en=some (e1.set i (some (st',true)),r):=by
  have cp:∀j,zaq (za2 (.inr i::ws.map Sum.inl)) j=if j=i then some 0 else none:=fun j=>by
    have:=zca ws j;unfold zaq za2 at this ⊢;rw[Ah,List.findIdx?_cons];by_cases e:j=i
    · subst e;simp
    · have : (some i == some j) = false := by simp; exact fun z => e z.symm
      simp only [this];rw[if_neg e]
      simp_all
  have nd:zbx (za2 (.inr i::ws.map Sum.inl))=true:=by
    unfold zbx;refine Bd.mpr λj _=>?_;cases j with
    | zero =>
      show (match (za2 (.inr i::ws.map Sum.inl))[0]? with|some (some k)=>zaq (za2 (.inr i::ws.map Sum.inl)) k == some 0|_=>true)=true;show (zaq (za2 (.inr i::ws.map Sum.inl)) i == some 0)=true;rw[cp i,if_pos rfl]
      rfl
    | succ j =>
      have:∀k,(za2 (ws.map Sum.inl))[j]?≠some (some k):=λk=>zcs (zca ws k) j;have e:(za2 (.inr i::ws.map Sum.inl))[j+1]?=(za2 (ws.map Sum.inl))[j]?:=rfl;rw[e];cases q:(za2 (ws.map Sum.inl))[j]? with
      |none=>rfl
      | some o =>
        cases o with
        |none=>rfl
        |some k=>exact absurd q (this k)
  unfold zab;rw[h];show (if (decide ((.inr i::ws.map Sum.inl).map isR=m) && zaw e1 (.inr i::ws.map Sum.inl) && zbx (za2 (.inr i::ws.map Sum.inl)))=true then _ else _)=_;have e:(Sum.inr i::ws.map Sum.inl).map isR=m:=by rw[<-hm,Ah,Ed];rfl
  have ow:zaw e1 (.inr i::ws.map Sum.inl)=true:=by
    have:=zee e1 ws;unfold zaw at this ⊢;rw[Bo,this];simp only [hi,Fs]
  rw [Am e,ow,nd];have rs:za6 e1 (.inr i::ws.map Sum.inl)=some (st::ws):=by
    show (resA e1 (.inr i)).bind _=_;have:resA e1 (.inr i)=some st:=by unfold resA;simp only [hi]
    rw[this];show (za6 e1 (ws.map Sum.inl)).bind _=_;rw[zbw]
    rfl
  show (za6 e1 (.inr i::ws.map Sum.inl)).bind _=_;rw[rs];show (Φ (st::ws)).bind _=_;rw[hΦ];show (if (st' :: wz).length=m.length then _ else _)=_;rw[if_pos (by rw[<-hm,Bc,Bc,Ab,hl])];refine congrArg some (congrArg (·,r) ?_);unfold zam;apply Dg;intro j;rw[Ex];have hi' : i<e1.length:=(Ak.mp hi).1;by_cases ej:j=i
  · subst ej
    rw[Dk hi',hi];simp only [Gs,cp j,if_pos];rw[<-hm]
    rfl
  · rw [Cs (Ne.symm ej)]
    cases e1[j]? with
    |none=>rfl
    |some x=>simp only [Gs,cp j,if_neg ej]
theorem zef {m:List Bool}{Φ:Fn}{as:GAs}{en:En}{i:Nat}{ws wz:List W}{st st' : W}{r:W × Bool}(h:as en=some (en,.inr i::ws.map Sum.inl))(hm:(true::ws.map λ_=>false)=m)(hi:en[i]?=some (#v[st,5]))(hΦ:Φ (st::ws)=some (st' :: wz,r))(hl:wz.length=ws.length):zab m Φ as en=some (en.set i (#v[st',5]),r):=zp9 h hm hi hΦ hl
theorem zmu {a w:W}{ws:List W}{i:Int}(h:seqW a=some ws)(h2:atI ws i=some w):oIx a (.int i)=#v[w,6]:=by
 unfold oIx;cases a<;>simp_all
theorem oI_t {c:Int->Int->Bool}{g:Int->Int->W}{i j:Int}(h:c i j=true):oI c g (.int i) (.int j)=#v[g i j,6]:=by
 show (if c i j then #v[g i j,6] else none)=_;rw[if_pos h]
theorem set_0 {mp:List Nat}{i:Nat}{g:GE}{en:En}{r:W × Bool}(h:g en=some (en,r))(hi:(mp.contains i || !decide (i<en.length))=false):gSet mp i g en=some (en.set i (some r),.nx):=set_ev h hi
theorem arg_0 {g:GE}{en:En}{r:W × Bool}(h:g en=some (en,r)):gArg g en=some (en,.inl r.1):=arg_ev h
theorem op2_0 {o:O2}{a b:GA}{en:En}{x y:W ⊕ Nat}{w u:W}{r:W × Bool}(h1:a en=some (en,x))(h2:b en=some (en,y))(h3:resA en x=some w)(h4:resA en y=some u)(h5:o w u=some r):gOp2 o a b en=some (en,r):=op2_ev h1 h2 h3 h4 h5
theorem zpg {a:GA}{as:GAs}{en:En}{x:W ⊕ Nat}{xs:List (W ⊕ Nat)}(h:a en=some (en,x))(h2:as en=some (en,xs)):gCns a as en=some (en,x::xs):=ztt h h2
theorem zvj {g:GE}{en:En}{r:W × Bool}(h:g en=some (en,r)):gRet g en=some (en,.ret r):=zpv h
theorem ybq {g:GE}{en:En}{b f:Bool}(h:g en=some (en,(.bl b,f))):zaj g en=some (en,b):=zwm h
theorem zfg {m:List Bool}{Φ:Fn}{as:GAs}{en:En}{ws ws' : List W}{r:W × Bool}(h:as en=some (en,ws.map Sum.inl))(hm:(ws.map λ_=>false)=m)(hΦ:Φ ws=some (ws',r))(hl:ws'.length=ws.length):zab m Φ as en=some (en,r):=znf h hm hΦ hl
theorem zxt {i:Nat}{k g:GE}{en:En}{w:W}{ws:List W}{n:Int}{j:Nat}{f f2:Bool}(h:g en=some (en,(w,f)))(hk:k en=some (en,(.int n,f2)))(hi:en[i]?=some (#v[ws,2]))(hj:ixN ws.length n=some j):zbb i k g en=some (en.set i (#v[(ws.set j w),2]),.nx):=by
 unfold zbb;simp only [h,De,hi,hk,hj]
theorem z3l {i:Nat}{g:GE}{en e1:En}{us ws:List W}{r:W × Bool}(h0:en[i]?=some (#v[us,2]))(h:g en=some (e1,r))(h1:e1[i]?=some (#v[ws,2]))(hz:ws.length<sizeLine):gApp i g en=some (e1.set i (#v[(ws++[r.1]),2]),(.non,false)):=by
 unfold gApp;simp only [h0,h,De,h1];rw[if_pos hz]
noncomputable def z3v (Ψ:Str->Fn):GS:=(gRet (gOp2 oIx (gArg (zaz (gCns #v[1] (gCns #v[2] (gCns #v[3] (gCns #v[4] (gCns #v[5] (gCns #v[6] (gCns #v[3] (gCns #v[4] gA0)))))))))) (gArg (zab [true,false] (Ψ "_law_take") (gCns (zaa 0) (gCns #v[8] gA0))))))
noncomputable def z3m (Φ:Fn):Prop:=∀(k:Nat) (st:W),HS k st->k<big->∃st' m,Φ [st]=some ([st'],(.int m,false))/\HS (k+1) st'/\1<=m/\m<=6
theorem ydd {r:Int}(h0:0<=r)(h:r<8):r=0\/r=1\/r=2\/r=3\/r=4\/r=5\/r=6\/r=7:=by omega
theorem z68 {Ψ:Str->Fn}(hT:zia (Ψ "_law_take")):z3m (zac [true] 1 (z3v Ψ)):=by
 intro k st hs hk;nofun;obtain⟨st',r,e,h1,h2,h3⟩:=hT k st 8 hs hk #v[0,9] #v[0,9];ac_rfl;have c:zab [true,false] (Ψ "_law_take") (gCns (zaa 0) (gCns #v[8] gA0)) [#v[st,5]]=some ([#v[st',5]],(.int r,false)):=zef (i:=0) (ws:=[.int 8]) (wz:=[.int 8]) rfl rfl rfl e rfl;have go:∀m,atI ([.int 1,.int 2,.int 3,.int 4,.int 5,.int 6,.int 3,.int 4]:List W) r=some (.int m)->1<=m->m<=6->∃st' m,zac [true] 1 (z3v Ψ) [st]=some ([st'],(.int m,false))/\HS (k+1) st'/\1<=m/\m<=6:=λm hm m1 m6=>by
  refine⟨st',m,za1 (en:=[#v[st',5]]) rfl (zpv (op2_ev (x:=.inl (.lst [.int 1,.int 2,.int 3,.int 4,.int 5,.int 6,.int 3,.int 4])) (y:=.inl (.int r)) rfl (arg_ev c) rfl rfl ?_)) rfl,h1,m1,m6⟩;exact zmu rfl hm
 rcases ydd h2 h3 with rfl|rfl|rfl|rfl|rfl|rfl|rfl|rfl
 ·exact go 1 rfl #v[0,9] #v[0,9]
 ·exact go 2 rfl #v[0,9] #v[0,9]
 ·exact go 3 rfl #v[0,9] #v[0,9]
 ·exact go 4 rfl #v[0,9] #v[0,9]
 ·exact go 5 rfl #v[0,9] #v[0,9]
 ·exact go 6 rfl #v[0,9] #v[0,9]
 ·exact go 3 rfl #v[0,9] #v[0,9]
 ·exact go 4 rfl #v[0,9] #v[0,9]
noncomputable def z9x (Ψ:Str->Fn):GS:=(gSeq (gSet [0] 2 (zab [true,false] (Ψ "_law_take") (gCns (zaa 0) (gCns #v[4] gA0)))) (gSeq (gIfS (zaj (gOp2 oEq (zaa 2) #v[3])) (gRet (gOp2 oMult (gArg (zaz (gCns (gArg (zab [true,false] (Ψ "_law_take") (gCns (zaa 0) (gCns #v[2] gA0)))) gA0))) (zaa 1))) zc1) (gSeq (gSet [0] 3 (zaz gA0)) (gSeq (gFor [0] (.nm 4) (zbp (gCns (zaa 1) gA0)) #v[0,7]) (zcd [0] 3)))))
noncomputable def z3p (Φ:Fn):Prop:=∀(k:Nat) (st:W) (n:Int),HS k st->k+100<big->0<=n->n<=64->∃st' xs,Φ [st,.int n]=some ([st',.int n],(.lst (xs.map W.int),true))/\HS (k+66) st'/\(xs.length:Int)=n/\Bits xs
theorem three {r:Int}(h0:0<=r)(h:r<4)(h3:r≠3):r=0\/r=1\/r=2:=by omega
theorem zrt {α:Type}(x:α):∀n:Nat,(List.replicate n [x]).flatten=List.replicate n x
 |0=>rfl
 |n+1=>by rw[Ce,Ds,zrt x n];rfl
theorem z7b {Ψ:Str->Fn}(hT:zia (Ψ "_law_take")):z3p (zac [true,false] 6 (z9x Ψ)):=by
 intro k st n hs hk n0 n1;have hz:(64:Nat)<=sizeLine:=by decide
 nofun;obtain⟨st1,way,e1,h1,h2,h3⟩:=hT k st 4 hs #v[] #v[0,9] #v[0,9];ac_rfl;have c1:zab [true,false] (Ψ "_law_take") (gCns (zaa 0) (gCns #v[4] gA0)) [#v[st,5],#v[n,0],none,none,none,none]=some ([#v[st1,5],#v[n,0],none,none,none,none],(.int way,false)):=zef (i:=0) (ws:=[.int 4]) (wz:=[.int 4]) rfl rfl rfl e1 rfl;have s1:=set_ev (mp:=[0]) (i:=2) c1 rfl;by_cases c3:way=3
 ·subst c3;refine aG fun _ qG=>?_;obtain ⟨st2,b,e2,g1,g2,g3⟩:=hT (k+1) st1 2 h1 (by omega) (by decide) (by decide);refine qG ?_;clear qG;have c2:zab [true,false] (Ψ "_law_take") (gCns (zaa 0) (gCns (gArg (gC (.int 2))) gA0)) [some (st1,true),some (.int n,false),some (.int 3,false),none,none,none]=some ([some (st2,true),some (.int n,false),some (.int 3,false),none,none,none],(.int b,false)):=zef (i:=0) (ws:=[.int 2]) (wz:=[.int 2]) rfl rfl rfl e2 rfl;have l2:zaz (gCns (gArg (zab [true,false] (Ψ "_law_take") (gCns (zaa 0) (gCns (gArg (gC (.int 2))) gA0)))) gA0) [some (st1,true),some (.int n,false),some (.int 3,false),none,none,none]=some ([some (st2,true),some (.int n,false),some (.int 3,false),none,none,none],(.lst [.int b],true)):=by
   unfold zaz;rw[ztt (arg_ev c2) (show gA0 _=_ from rfl)]
   rfl
  have om:oMult (.lst [.int b]) (.int n)=#v[(List.replicate n.toNat (.int b)),2]:=by
   rw[zxq (by refine⟨by omega,by omega,?_⟩;show 1 * n.toNat<=sizeLine;omega),zrt]
  refine⟨st2,List.replicate n.toNat b,?_,g1.mono #v[],by rw[Dc];omega,λx hx=>by rw[List.eq_of_mem_replicate hx];omega⟩;refine za1 (en:=[#v[st2,5],#v[n,0],#v[3,0],none,none,none]) rfl ?_ rfl;refine (seq_nx s1).trans (z4j ?_);refine (ybb (e1:=[#v[st1,5],#v[n,0],#v[3,0],none,none,none]) rfl).trans (zpv (op2_ev (arg_ev l2) rfl rfl rfl ?_));rw[List.map_replicate];exact om
 ·have hw := three h2 h3 c3;have turn:∀(i:Nat) (st:W) (xs:List Int) (v5:Option (W × Bool)),HS (k+1+i) st->i < 64->xs.length=i->∃st' x one,HS (k+1+i+1) st'/\(x=0\/x=1) /\
    #v[0,7] #v[8,8] =
     some ([#v[st',5],#v[n,0],#v[way,0],#v[((xs++[x]).map W.int),2],#v[(0+(i:Nat)),0],#v[one,0]],.nx):=by
   intro i st xs v5 hst hi hl;have zz:(xs.map W.int).length<sizeLine:=by rw[Ab,hl];omega
   have fin:∀(q:Int) (x:Int->Int),(∀one,0<=one->one < q->x one=0\/x one=1)->0 < q->q < 1073741824 ->
     (gCns (zaa 0) (gCns (gArg (gOp2 oIx (gArg (zaz (gCns #v[2] (gCns #v[5] (gCns #v[5] gA0))))) (zaa 2))) gA0)) #v[8,8]=some (#v[8,8],[.inr 0,.inl (.int q)]) ->
     (∀(st' : W) (one:Int),(gOp2 oIx (gArg (zaz (gCns #v[5,4] (gCns (gArg (gOpN oInt (gCns (gArg (gOp2 oEq (zaa 5) #v[0])) gA0))) (gCns (gArg (gOpN oInt (gCns (gArg (gOp2 #v[3,11] (zaa 5) #v[0])) gA0))) gA0))))) (zaa 2)) [#v[st',5],#v[n,0],#v[way,0],#v[(xs.map W.int),2],#v[(0+(i:Nat)),0],#v[one,0]]=some ([#v[st',5],#v[n,0],#v[way,0],#v[(xs.map W.int),2],#v[(0+(i:Nat)),0],#v[one,0]],(.int (x one),false))) ->
     ∃st' x one,HS (k+1+i+1) st'/\(x=0\/x=1)/\#v[0,7] #v[8,8] =
      some ([#v[st',5],#v[n,0],#v[way,0],#v[((xs++[x]).map W.int),2],#v[(0+(i:Nat)),0],#v[one,0]],.nx):=by
    intro q x hx q0 q1 ha hv;nofun;obtain⟨st',one,e2,g1,g2,g3⟩:=hT (k+1+i) st q hst #v[] q0 q1;ac_rfl;have cc:=zef (m:=[true,false]) (ws:=[.int q]) (wz:=[.int q]) ha rfl rfl e2 rfl;refine⟨st',x one,one,g1,hx one g2 g3,?_⟩;refine (seq_nx (set_ev (mp:=[0]) (i:=5) cc rfl)).trans (zxy (r:=(.non,false)) ?_);rw[Cc];exact z3l (i:=3) rfl (hv st' one) rfl zz
   rcases hw with rfl|rfl|rfl
   ·exact fin 2 (λone=>one) (λone a b=>by omega) #v[0,9] #v[0,9] rfl λst' one=>rfl
   ·refine fin 5 (λone=>if decide (one = 0) then 1 else 0) (λone a b => ?_) #v[0,9] #v[0,9] rfl λst' one=>rfl;by_cases z:one=0<;>simp [z]
   ·refine fin 5 (λone=>if decide (0<one) then 1 else 0) (λone a b => ?_) #v[0,9] #v[0,9] rfl λst' one=>rfl;by_cases z:0<one<;>simp [z]
  obtain⟨en',hf,hp⟩:=zbu (mp:=[0]) (T:=.nm 4) (it:=zbp (gCns (zaa 1) gA0)) (body:=#v[0,7])
   (λi e=>∃st xs v4 v5,e=[#v[st,5],#v[n,0],#v[way,0],#v[(xs.map W.int),2],v4,v5]/\HS (k+1+i) st/\xs.length=i/\Bits xs)
   (en:=[#v[st1,5],#v[n,0],#v[way,0],#v[[],2],none,none]) (e0:=[#v[st1,5],#v[n,0],#v[way,0],#v[[],2],none,none]) (ws:=rngW 0 n.toNat)
   (by
    have hr:zc6 n=true:=by unfold zc6;rw[Am #v[],Am #v[]];rfl
    show (if zc6 n then some (_,rngW 0 n.toNat) else none)=_;rw[hr];rfl)
   ⟨st1,[],none,none,rfl,h1,rfl,λx hx=>by cases hx⟩
   (by
    rintro i w e hw' ⟨st,xs,v4,v5,rfl,hst,hl,hb⟩;nofun;obtain⟨hi,rfl⟩:=zcp hw';obtain⟨st',x,one,g1,g2,g3⟩:=turn i st xs v5 hst #v[] hl;ac_rfl;refine⟨_,_,rfl,.inl g3,st',xs++[x],_,_,rfl,g1,by rw[Ba,hl];rfl,λy hy=>?_⟩;rcases Bj.mp hy with hy|hy
    ·exact hb y hy
    ·rw[Aw] at hy;subst hy;exact g2)
  nofun;obtain⟨st2,xs,v4,v5,rfl,g1,g2,g3⟩:=hp;ac_rfl;rw[zco] at g1 g2;refine⟨st2,xs,?_,g1.mono #v[],by omega,g3⟩;refine za1 (en:=[#v[st2,5],#v[n,0],#v[way,0],none,v4,v5]) rfl ?_ rfl;refine (seq_nx s1).trans ((seq_nx (e1:=[#v[st1,5],#v[n,0],#v[way,0],none,none,none]) ?_).trans ((seq_nx (e1:=[#v[st1,5],#v[n,0],#v[way,0],#v[[],2],none,none]) rfl).trans ((seq_nx hf).trans rfl)));rcases hw with rfl|rfl|rfl<;>rfl
noncomputable def ybr (Ψ:Str->Fn):GS:=(gSeq (gSet [] 1 (gC (.int 0))) (gSeq (gFor [] (.nm 2) (gRev (gVar 0)) (gSet [] 1 (gOp2 oAdd (gArg (gOp2 oMult #v[2] (zaa 1))) (zaa 2)))) (zcd [] 1)))
noncomputable def zvq (Φ:Fn):Prop:=∀xs:List Int,Φ [.lst (xs.map W.int)]=some ([.lst (xs.map W.int)],(.int (wordOf xs),false))
theorem z51 (Ψ:Str->Fn):zvq (zac [false] 3 (ybr Ψ)):=by
 intro xs;obtain⟨en',hf,hp⟩:=zbu (mp:=[]) (T:=.nm 2) (it:=gRev (gVar 0)) (body:=gSet [] 1 (gOp2 oAdd (gArg (gOp2 oMult #v[2] (zaa 1))) (zaa 2)))
  (λi e=>∃v2,e=[#v[(xs.map W.int),1],#v[(wordOf (xs.drop (xs.length - i))),0],v2])
  (en:=[#v[(xs.map W.int),1],#v[0,0],none]) (e0:=[#v[(xs.map W.int),1],#v[0,0],none]) (ws:=(xs.map W.int).reverse) rfl
  ⟨none,by rw[Nat.sub_zero,List.drop_length];rfl⟩
  (by
   rintro i w e hw ⟨v2,rfl⟩;have hi:i<xs.length:=by have:=(Ak.mp hw).1;rw[Fj,Ab] at this;exact this
   have hj:xs.length - 1 - i<xs.length:=by omega
   have ew:w=.int xs[xs.length - 1 - i]:=by
    rw[List.getElem?_reverse (by rw[Ab];exact hi),Ab,Ai,Ae hj] at hw;exact (sI hw).symm
   subst ew;have om:oMult (.int 2) (.int (wordOf (xs.drop (xs.length - i))))=#v[(2 * wordOf (xs.drop (xs.length - i))),0]:=oMult_l #v[0,9] #v[0,9];have ed:xs.drop (xs.length - (i+1))=xs[xs.length - 1 - i]::xs.drop (xs.length - i):=by
    have e1:xs.length - (i+1)=xs.length - 1 - i:=by omega
    have e2:xs.length - i=xs.length - 1 - i+1:=by omega
    rw[e1,e2];exact Cm hj
   refine⟨_,_,rfl,.inl (set_ev (r:=(.int (wordOf (xs.drop (xs.length - (i+1)))),false)) (op2_ev (arg_ev (op2_ev (x:=.inl (.int 2)) rfl rfl rfl rfl om)) rfl rfl rfl ?_) rfl),_,rfl⟩;rw[ed]
   rfl)
 obtain⟨v2,rfl⟩:=hp;rw[Fj,Ab,Nat.sub_self,Dz] at hf;exact za1 (en:=[#v[(xs.map W.int),1],#v[(wordOf xs),0],v2]) rfl ((seq_nx (e1:=[#v[(xs.map W.int),1],#v[0,0],none]) rfl).trans ((seq_nx hf).trans rfl)) rfl
noncomputable def z89 (Ψ:Str->Fn):GS:=(gSeq (gSet [] 1 (zaz (gCns #v[0] (gCns #v[0] (gCns #v[0] gA0))))) (gSeq (gIfS (zht (zaj (gOp2 #v[3,11] #v[5,10] #v[0])) (zaj (gOp2 (oI yes2 λi j=>.bl (decide (j<=i))) #v[6,10] (gArg (gOp2 (oI cPow λi j=>.int (i ^ j.toNat)) #v[10] #v[18]))))) (gSeq (gSet [] 2 (gC (.int 1))) (gFor [] (.nm 3) (zar (gSl (zaa 0) zb5 (zg6 (gC (.int 63))))) (gSeq (zbb 1 (gC (.int 0)) (gOp2 oAdd (gArg (gOp2 oIx (zaa 1) #v[0])) (gArg (gOp2 oMult (gArg (gOp2 #v[0,0,2] #v[8,12] (gArg (gOp2 (oI cPow λi j=>.int (i ^ j.toNat)) #v[10] #v[60])))) (zaa 2))))) (gSet [] 2 (gOp2 oMult (zaa 2) (gArg (gOp2 (oI cPow λi j=>.int (i ^ j.toNat)) #v[10] #v[60]))))))) zc1) (gSeq (gFor [] (.tp [4,3]) (ztk (gSl (zaa 0) zb5 (zg6 (gC (.int 63))))) (gSeq (gSet [] 5 (gOp2 oAdd (gArg (gOp2 oAdd (gArg (gOp2 #v[0,0,2] (zaa 3) #v[2305843009213693951])) (gArg (gOp2 oMult #v[7919] (zaa 4))))) #v[3])) (zbb 1 (gC (.int 1)) (gOp2 #v[0,0,2] (gArg (gOp2 oAdd (gArg (gOp2 oMult (gArg (gOp2 oIx (zaa 1) #v[1])) #v[48271])) (zaa 5))) #v[2305843009213693951])))) (zcd [] 1))))
noncomputable def z36 (Φ:Fn):Prop:=∀ns:List Int,ns.length<=63->∃st,Φ [.frl (ns.map W.int)]=some ([.frl (ns.map W.int)],(st,true))/\HS 0 st
theorem z91 {ns:List Int}(h:ns.length<=63):cutW (ns.map W.int) none (some 63)=ns.map W.int:=by
 unfold cutW;have e1:HT.sIx (ns.map W.int).length 0 none=0:=rfl;have e2:HT.sIx (ns.map W.int).length (ns.map W.int).length (some 63)=(ns.map W.int).length:=by
  have:=HT.sIx_nat (ns.map W.int).length (ns.map W.int).length 63;rw[show ((63:Nat):Int)=63 from rfl] at this;rw[this,Ab];omega
 rw[e1,e2,Dz,Nat.sub_zero,Ff]
theorem z2f {ns:List Int}{i:Nat}{w:W}(h:(zhh (ns.map W.int) 0)[i]?=some w):∃hi:i<ns.length,w=.tup [.int i,.int ns[i]]:=by
 have hi:i<ns.length:=by have:=(Ak.mp h).1;rw[zcc,Ab] at this;exact this
 have:=zel (ws:=ns.map W.int) (k:=0) (i:=i) (w:=.int ns[i]) (by rw[Ai,Ae hi];rfl);rw[h,Cf] at this;exact⟨hi,sI this⟩
theorem z4v (Ψ:Str->Fn):z36 (zac [false] 6 (z89 Ψ)):=by
  intro ns hl;have p18:cPow 10 18=true:=by decide
  have p60:cPow 10 60=true:=by decide
  have first:∃a0 v2 v3,0<=a0/\gIfS (zht (zaj (gOp2 (oI yes2 fun i j=>.bl (decide (j < i))) #v[5,10] (gArg (gC (.int 0))))) (zaj #v[2,9])) (gSeq (gSet [] 2 (gC (.int 1))) (gFor [] (.nm 3) (zar (gSl (zaa 0) zb5 (zg6 (gC (.int 63))))) (gSeq (zbb 1 (gC (.int 0)) (gOp2 oAdd (gArg (gOp2 oIx (zaa 1) (gArg (gC (.int 0))))) (gArg (gOp2 oMult (gArg (gOp2 (oI (fun _ j=>decide (0 < j)) fun i j=>.int (i % j)) #v[8,12] #v[0,8])) (zaa 2))))) (gSet [] 2 (gOp2 oMult (zaa 2) #v[0,8]))))) zc1
      #v[3,9]=some (#v[7,11],.nx):=by
    have ln:(zaj (gOp2 #v[3,11] #v[5,10] #v[0])) #v[3,9]=some (#v[3,9],decide ((0:Int)<((ns.map W.int).length:Nat))):=rfl;cases ns with
    |nil=>exact⟨0,none,none,by decide,(yb7 (by unfold zht;rw[ln];rfl)).trans rfl⟩
    | cons n0 nr =>
      have t2:(zaj #v[2,9]) [some #v[7,8],some (.lst [.int 0,.int 0,.int 0],true),none,none,none,none]=some ([some #v[7,8],some (.lst [.int 0,.int 0,.int 0],true),none,none,none,none],decide (10 ^ 18<=n0)) :=
        zwm (op2_ev (arg_ev (op2_ev rfl rfl rfl rfl (zmu rfl (zbr (i:=0) rfl)))) (arg_ev (op2_ev (x:=.inl (.int 10)) rfl rfl rfl rfl (oI_t p18))) rfl rfl rfl)
      have ln' : decide ((0:Int)<(((n0::nr).map W.int).length:Nat))=true:=Am (by simp);rw[ln'] at ln;by_cases c:(10:Int) ^ 18<=n0
      · rw [Am c] at t2
        obtain ⟨en',hf,hp⟩:=zbu (mp:=[]) (T:=.nm 3) (it:=zar (gSl (zaa 0) zb5 (zg6 (gC (.int 63))))) (body:=(gSeq (zbb 1 (gC (.int 0)) (gOp2 oAdd (gArg (gOp2 oIx (zaa 1) (gArg (gC (.int 0))))) (gArg (gOp2 oMult (gArg (gOp2 (oI (fun _ j=>decide (0 < j)) fun i j=>.int (i % j)) #v[8,12] #v[0,8])) (zaa 2))))) (gSet [] 2 (gOp2 oMult (zaa 2) #v[0,8]))))
          (λi e=>∃a0 wt v3,e=[some #v[7,8],#v[[.int a0,.int 0,.int 0],2],#v[wt,0],v3,none,none]/\0<=a0/\0<wt/\wt<=2 ^ (200 * i))
          (en:=#v[4,10]) (e0:=#v[4,10]) (ws:=(n0::nr).map W.int)
          (by
            show some (_,cutW ((n0::nr).map W.int) none (some 63))=_;rw[z91 hl])
          ⟨0,1,none,rfl,by decide,by decide,by decide⟩
          (by
            rintro i w e hw ⟨a0,wt,v3,rfl,q0,q1,q2⟩;rw [Ai] at hw;have hi:i < (n0::nr).length:=by
              rcases Nat.lt_or_ge i (n0::nr).length with z|z
              · exact z
              · rw[Co z] at hw;exact noSome hw
            rw[Ae hi] at hw;have ew:w=.int (n0::nr)[i]:=(sI hw).symm;subst ew;generalize (n0::nr)[i]=n;have y0:0<=(if n<0 then -n else n) % (10:Int) ^ 60:=Fu _ #v[0,9];have y1:(if n<0 then -n else n) % (10:Int) ^ 60<10 ^ 60:=Ef _ #v[0,9];have hb:i<=63:=by omega
            have b1:Builtin.Int.intBits ((if n<0 then -n else n) % (10:Int) ^ 60)<=2 ^ 20:=zis (i:=1) y0 (Int.le_trans (Int.le_of_lt y1) #v[0,9]) #v[0,9];have b2:Builtin.Int.intBits wt<=2 ^ 20:=zis #v[] q2 hb;have m1:=zwy b1 b2;have m2:=zwy b2 (zis (w:=10 ^ 60) (i:=1) #v[0,9] #v[0,9] #v[0,9]);obtain⟨r1,r2⟩:=z0i q1 q2;refine⟨_,[some #v[7,8],#v[[.int (a0+(if n<0 then -n else n) % (10:Int) ^ 60 * wt),.int 0,.int 0],2],#v[(wt * 10 ^ 60),0],#v[n,0],none,none],rfl,.inl ?_,_,_,_,rfl,?_,r1,r2⟩
            · refine (seq_nx (e1 := [some (.frl ((n0 :: nr).map W.int), false), some (.lst [.int (a0 + (if n < 0 then -n else n) % (10 : Int) ^ 60 * wt), .int 0, .int 0], true), some (.int wt, false), some (.int n, false), none, none]) ?_).trans (set_0 (op2_0 rfl (arg_0 (op2_0 (x := .inl (.int 10)) rfl rfl rfl rfl (oI_t p60))) rfl rfl m2) rfl)
              have ge:gOp2 oAdd (gArg (gOp2 oIx (zaa 1) (gArg (gC (.int 0))))) (gArg (gOp2 oMult (gArg (gOp2 (oI (fun _ j=>decide (0 < j)) fun i j=>.int (i % j)) #v[8,12] #v[0,8])) (zaa 2))) #v[1,12]=some (#v[1,12],(.int (a0+(if n < 0 then -n else n) % (10:Int) ^ 60 * wt),false)) :=
                op2_ev (arg_ev (op2_ev rfl rfl rfl rfl (zmu rfl (zbr (i:=0) rfl)))) (arg_ev (op2_ev (arg_ev (op2_ev (arg_ev (z3q rfl rfl rfl)) (arg_ev (op2_ev (x:=.inl (.int 10)) rfl rfl rfl rfl (oI_t p60))) rfl rfl (oI_t #v[0,9]))) rfl rfl rfl m1)) rfl rfl rfl
              exact zxt (n:=0) (j:=0) (ws:=[.int a0,.int 0,.int 0]) ge rfl rfl rfl
            · have := Int.mul_nonneg y0 (Int.le_of_lt q1)
              omega)
        nofun;obtain⟨a0,wt,v3,rfl,q0,_⟩:=hp;ac_rfl;exact⟨a0,_,_,q0,(ybb (by unfold zht;rw[ln];exact t2)).trans ((seq_nx (e1:=#v[4,10]) rfl).trans hf)⟩
      · rw [Ay c] at t2
        exact⟨0,none,none,by decide,(yb7 (by unfold zht;rw[ln];exact t2)).trans rfl⟩
  nofun;obtain⟨a0,v2,v3,q0,hfirst⟩:=first
  refine qG ?_;clear qG;obtain ⟨en',hf,hp⟩:=zbu (mp:=[]) (T:=.tp [4,3]) (it:=ztk (gSl (zaa 0) zb5 (zg6 (gC (.int 63))))) (body:=(gSeq (gSet [] 5 (gOp2 oAdd (gArg (gOp2 oAdd (gArg (gOp2 (oI (fun _ j=>decide (0 < j)) fun i j=>.int (i % j)) (zaa 3) (gArg (gC (.int 2305843009213693951))))) (gArg (gOp2 oMult (gArg (gC (.int 7919))) (zaa 4))))) (gArg (gC (.int 3))))) (zbb 1 (gC (.int 1)) (gOp2 (oI (fun _ j=>decide (0 < j)) fun i j=>.int (i % j)) #v[0,11] (gArg (gC (.int 2305843009213693951)))))))
    (λi e=>∃b v3 v4 v5,e=[some #v[6,7],#v[[.int a0,.int b,.int 0],2],v2,v3,v4,v5]/\0<=b/\b<MM)
    (en:=#v[7,11]) (e0:=#v[7,11]) (ws:=zhh (ns.map W.int) 0)
    (by
      show some (_,zhh (cutW (ns.map W.int) none (some 63)) 0)=_;rw[z91 hl])
    ⟨0,v3,none,none,rfl,by decide,by decide⟩
    (by
      rintro i w e hw ⟨b,v3,v4,v5,rfl,q1,q2⟩;obtain ⟨hi,rfl⟩:=z2f hw;generalize ns[i]=n;have hm:MM=2305843009213693951:=rfl;have m1:oMult (.int 7919) (.int (i:Nat))=some (.int (7919 * (i:Nat)),false):=oMult_l (by decide) (by decide);have m2:oMult (.int b) (.int 48271)=some (.int (b * 48271),false):=znu (by decide) (by decide);refine ⟨_,[some #v[6,7],some (.lst [.int a0,.int ((b * 48271+(n % 2305843009213693951+7919 * (i:Nat)+3)) % 2305843009213693951),.int 0],true),v2,some (.int n,false),some (.int (i:Nat),false),some (.int (n % 2305843009213693951+7919 * (i:Nat)+3),false)],rfl,.inl ?_,_,_,_,_,rfl,Fu _ (by decide),Ef _ (by decide)⟩;refine (seq_nx (e1:=#v[2,8]) (set_0 (op2_0 (arg_0 (op2_0 (arg_0 (op2_0 rfl rfl rfl rfl (oI_t (by decide)))) (arg_0 (op2_0 (x:=.inl (.int 7919)) rfl rfl rfl rfl m1)) rfl rfl rfl)) rfl rfl rfl rfl) rfl)).trans ?_;have ge:gOp2 (oI (fun _ j=>decide (0 < j)) fun i j=>.int (i % j)) #v[0,11] (gArg (gC (.int 2305843009213693951))) #v[2,8]=some (#v[2,8],(.int ((b * 48271+(n % 2305843009213693951+7919 * (i:Nat)+3)) % 2305843009213693951),false)) :=
        op2_ev (arg_ev (op2_ev (arg_ev (op2_ev (arg_ev (op2_ev rfl rfl rfl rfl (zmu rfl (zbr (i:=1) rfl)))) rfl rfl rfl m2)) rfl rfl rfl rfl)) rfl rfl rfl (oI_t #v[0,9])
      exact zxt (n:=1) (j:=1) (ws:=[.int a0,.int b,.int 0]) ge rfl rfl rfl)
  nofun;obtain⟨b,w3,w4,w5,rfl,q1,q2⟩:=hp;ac_rfl;refine⟨.lst [.int a0,.int b,.int 0],za1 (en:=[some #v[6,7],none,v2,w3,w4,w5]) rfl ?_ rfl,⟨_,_,_,rfl,q0,q1,q2,by decide,by decide⟩⟩;exact (seq_nx (e1:=#v[3,9]) rfl).trans ((seq_nx hfirst).trans ((seq_nx hf).trans rfl))
theorem zu1 (a b x y:Nat)(hx:x<2)(hy:y<2):(2 * a+x) &&& (2 * b+y)=2 * (a &&& b)+x * y:=by
 have h1:((2 * a+x) &&& (2 * b+y)) / 2=a &&& b:=by
  have:=Nat.and_div_two_pow (n:=1) (a:=2 * a+x) (b:=2 * b+y);rw[Nat.pow_one] at this;rw[this];have e1:(2 * a+x) / 2=a:=by omega
  have e2:(2 * b+y) / 2=b:=by omega
  rw[e1,e2]
 have h2:((2 * a+x) &&& (2 * b+y)) % 2=x * y:=by
  have:=Nat.and_mod_two_pow (n:=1) (a:=2 * a+x) (b:=2 * b+y);rw[Nat.pow_one] at this;rw[this];have e1:(2 * a+x) % 2=x:=by omega
  have e2:(2 * b+y) % 2=y:=by omega
  rw[e1,e2];have:x=0\/x=1:=by omega
  have:y=0\/y=1:=by omega
  rcases ‹x=0\/x=1› with rfl|rfl<;>rcases ‹y=0\/y=1› with rfl|rfl<;>rfl
 omega
noncomputable def Bit (x:Int):Prop:=x=0\/x=1
theorem zea {a b x y:Int}(ha:0<=a)(hb:0<=b)(hx:Bit x)(hy:Bit y):Builtin.bitAnd (2 * a+x) (2 * b+y)=2 * Builtin.bitAnd a b+x * y:=by
 have x0:0<=x/\x<2:=by rcases hx with rfl|rfl<;>decide
 have y0:0<=y/\y<2:=by rcases hy with rfl|rfl<;>decide
 rw[bitAnd_pp #v[] #v[],bitAnd_pp ha hb];have e1:(2 * a+x).toNat=2 * a.toNat+x.toNat:=by omega
 have e2:(2 * b+y).toNat=2 * b.toNat+y.toNat:=by omega
 rw[e1,e2,zu1 _ _ _ _ #v[] #v[]];rcases hx with rfl|rfl<;>rcases hy with rfl|rfl<;>simp
theorem zjq (x y:Int):Builtin.bitXor x y=x+y - 2 * Builtin.bitAnd x y:=by
 show Builtin.bitOr x y - Builtin.bitAnd x y=_;rw[bitOr_and];omega
theorem z09 {a b x y:Int}(ha:0<=a)(hb:0<=b)(hx:Bit x)(hy:Bit y):Builtin.bitXor (2 * a+x) (2 * b+y)=2 * Builtin.bitXor a b+(x+y - 2 * (x * y)):=by
 rw[zjq,zjq,zea ha hb hx hy];omega
theorem z1x (x:Int):Builtin.bitXor x 0=x:=by rw[zjq,bitAnd_zero];omega
theorem zja (x:Int):Builtin.bitAnd 0 x=0:=by rw[bitAnd_comm,bitAnd_zero]
theorem Bits.head {x:Int}{xs:List Int}(h:Bits (x::xs)):Bit x:=h x Ao
theorem Bits.tail {x:Int}{xs:List Int}(h:Bits (x::xs)):Bits xs:=λy hy=>h y (Aj _ hy)
theorem zcm {xs:List Int}(h:Bits xs):0<=wordOf xs:=(zcr h).1
theorem zal (x:Int)(xs:List Int):wordOf (x::xs)=2 * wordOf xs+x:=rfl
theorem za0:∀(l h:List Int),wordOf (l++h)=wordOf l+2 ^ l.length * wordOf h
  |[],h=>by show wordOf h=0+1 * wordOf h;omega
  | x::l,h=>by
    show 2 * wordOf (l++h)+x=2 * wordOf l+x+2 ^ (l.length+1) * wordOf h;rw[za0 l h,Int.pow_succ,Int.mul_add,Int.mul_comm (2 ^ l.length) 2,Int.mul_assoc];omega
theorem zc4:∀{xs ys:List Int},Bits xs->Bits ys->Builtin.bitAnd (wordOf xs) (wordOf ys)=wordOf (List.zipWith (· * ·) xs ys)
  |[],ys,_,_=>zja _
  |x::xs,[],_,_=>bitAnd_zero _
  | x::xs,y::ys,h1,h2=>by
    rw[zal,zal,zea (zcm h1.tail) (zcm h2.tail) h1.head h2.head,zc4 h1.tail h2.tail]
    rfl
theorem z88 {m:Int}(h1:0<=m)(h2:m<=6):m=0\/m=1\/m=2\/m=3\/m=4\/m=5\/m=6:=by omega
theorem yca {m:Int}(h1:0<=m)(h2:m<=6):(1:Int)<=1 * 2 ^ m.toNat/\(1:Int) * 2 ^ m.toNat<=64:=by
 rcases z88 h1 h2 with rfl|rfl|rfl|rfl|rfl|rfl|rfl<;>decide
theorem cP1 {m:Int}(h1:0<=m)(h2:m<=6):cPow 1 m=true:=zkx h1 #v[] #v[0,9]
theorem cP2 {m:Int}(h1:0<=m)(h2:m<=6):cPow 1 (1 * 2 ^ m.toNat)=true:=by
 have:=yca h1 h2;exact zkx #v[] #v[] #v[0,9]
noncomputable def yesW (m:Int):Int:=1 * 2 ^ (1 * 2 ^ m.toNat:Int).toNat - 1
noncomputable def zq3 (Φ:Fn):Prop:=∀m:Int,0<=m->m<=6->Φ [.int m]=some ([.int m],(.int (yesW m),false))
noncomputable def zwv (Ψ:Str->Fn):GS:=(gRet (gOp2 #v[0,0,0] (gArg (gOp2 #v[0,0,1] #v[1] (gArg (gOp2 #v[0,0,1] #v[1] (zaa 0))))) #v[1]))
theorem zsg (Ψ:Str->Fn):zq3 (zac [false] 1 (zwv Ψ)):=λm h1 h2 =>
 za1 (en:=[#v[m,0]]) rfl (zvj (op2_0 (arg_0 (op2_0 (x:=.inl (.int 1)) rfl (arg_0 (op2_0 (x:=.inl (.int 1)) rfl rfl rfl rfl (oI_t (cP1 h1 h2)))) rfl rfl (oI_t (cP2 h1 h2)))) rfl rfl rfl rfl)) rfl
noncomputable def z85 (Φ:Fn):Prop:=∀a b:Int,Φ [.int a,.int b]=some ([.int a,.int b],(.int (Builtin.bitXor a b),false))
noncomputable def z0n (Φ:Fn):Prop:=∀a b:Int,Φ [.int a,.int b]=some ([.int a,.int b],(.int (Builtin.bitAnd a b),false))
noncomputable def z95 (Ψ:Str->Fn):GS:=(gRet (gOp2 (oI yes2 λi j=>.int (Builtin.bitXor i j)) (zaa 0) (zaa 1)))
noncomputable def z5w (Ψ:Str->Fn):GS:=(gRet (gOp2 #v[6,8] (zaa 0) (zaa 1)))
theorem z61 (Ψ:Str->Fn):z85 (zac [false,false] 2 (z95 Ψ)):=λa b=>rfl
theorem zj2 (Ψ:Str->Fn):z0n (zac [false,false] 2 (z5w Ψ)):=λa b=>rfl
theorem cap2 (i:Nat):zaq [none,none] i=none:=rfl
noncomputable def dif (a b:Int):Int:=if !decide (a=b) then 1 else 0
theorem z8f {a b:Int}(ha:Bit a)(hb:Bit b):a+b - 2 * (a * b)=dif a b:=by
 rcases ha with rfl|rfl<;>rcases hb with rfl|rfl<;>decide
theorem zm0:∀{xs ys:List Int},Bits xs->Bits ys->xs.length=ys.length->Builtin.bitXor (wordOf xs) (wordOf ys)=wordOf (List.zipWith dif xs ys)
  |[],[],_,_,_=>z1x 0
  |[],_::_,_,_,h=>by cases h
  |_::_,[],_,_,h=>by cases h
  | x::xs,y::ys,h1,h2,hl=>by
    rw[zal,zal,z09 (zcm h1.tail) (zcm h2.tail) h1.head h2.head,zm0 h1.tail h2.tail (by simpa using hl),z8f h1.head h2.head]
    rfl
theorem zjm {f:Int->Int->Int} (hf:∀a b,Bit a->Bit b->Bit (f a b)):∀{xs ys:List Int},Bits xs->Bits ys->Bits (List.zipWith f xs ys)
  |[],_,_,_=>λx hx=>by simp at hx
  |_::_,[],_,_=>λx hx=>by simp at hx
  | a::xs,b::ys,h1,h2=>fun x hx=>by
    rcases Ap.mp (show x∈f a b::List.zipWith f xs ys from hx) with rfl|hx
    · exact hf a b h1.head h2.head
    · exact zjm hf h1.tail h2.tail x hx
theorem z4y {a b:Int}(ha:Bit a)(hb:Bit b):Bit (a * b):=by rcases ha with rfl|rfl<;>rcases hb with rfl|rfl<;>first|exact .inl #v[0,9]|exact .inr #v[0,9]
theorem zv4:∀{xs:List Int},Bits xs->List.zipWith dif xs (List.replicate xs.length 1)=xs.map fun a=>1 - a
  |[],_=>rfl
  | x::xs,h=>by
    show dif x 1::List.zipWith dif xs (List.replicate xs.length 1)=_;rw[zv4 h.tail];rcases h.head with rfl|rfl<;>rfl
noncomputable def clr:List Int->List Int
 |[]=>[]
 |x::xs=>if x=1 then 0::xs else x::clr xs
theorem zqr:∀{xs:List Int},Bits xs->Bits (clr xs)
  |[],h=>h
  | x::xs,h=>by
    unfold clr;split
    · exact λy hy=>(Ap.mp hy).elim (λe=>.inl e) (h.tail y)
    · exact λy hy=>(Ap.mp hy).elim (λe=>by rw[e];exact h.head) (zqr h.tail y)
theorem zyj:∀{xs:List Int},Bits xs->0<=xs.sum
  |[],_=>by decide
  | x::xs,h=>by
    have:=zyj h.tail;rw[Bf];rcases h.head with e|e<;>omega
theorem z3w:∀{xs:List Int},Bits xs->xs.sum<=xs.length
  |[],_=>by decide
  | x::xs,h=>by
    have:=z3w h.tail;rw[Bf,Bc];rcases h.head with e|e<;>omega
theorem zlo:∀{xs:List Int},Bits xs->(wordOf xs=0↔xs.sum=0)
  |[],_=>⟨λ_=>rfl,λ_=>rfl⟩
  | x::xs,h=>by
    have ih:=zlo h.tail;have n1:=zcm h.tail;have n2:=zyj h.tail;rw[zal,Bf];rcases h.head with e|e
    · subst e
      constructor
      · intro z;rw[ih.mp #v[]];rfl
      · intro z;rw[ih.mpr #v[]];rfl
    · subst e
      constructor<;>intro z<;>omega
theorem zvi:∀{xs:List Int},Bits xs->wordOf xs≠0->(clr xs).sum=xs.sum - 1
  |[],_,h=>absurd rfl h
  | x::xs,h,hz=>by
    unfold clr;split
    · rename_i e;subst e;rw[Bf,Bf];omega
    · rename_i e
      have e0:x=0:=h.head.resolve_right e;subst e0;have:wordOf xs≠0:=λz=>hz (by rw[zal,z];rfl);rw[Bf,Bf,zvi h.tail this];omega
theorem zq5:∀{xs:List Int},Bits xs->wordOf xs≠0->Builtin.bitAnd (wordOf xs) (wordOf xs - 1)=wordOf (clr xs)
  |[],_,h=>absurd rfl h
  | x::xs,h,hz=>by
    have n1:=zcm h.tail;unfold clr;split
    · rename_i e
      subst e;have e1:wordOf (1::xs) - 1=2 * wordOf xs+0:=by rw[zal];omega
      rw[e1,zal,zea n1 n1 (.inr rfl) (.inl rfl),bitAnd_self]
      rfl
    · rename_i e
      have e0:x=0:=h.head.resolve_right e;subst e0;have nz:wordOf xs≠0:=λz=>hz (by rw[zal,z];rfl);have e1:wordOf (0::xs) - 1=2 * (wordOf xs - 1)+1:=by rw[zal];omega
      rw[e1,zal,zea n1 #v[] (.inl rfl) (.inr rfl),zq5 h.tail nz]
      rfl
noncomputable def z2p (Ψ:Str->Fn):GS:=(gSeq (gSet [] 1 (gC (.int 0))) (gSeq (zdb (zaj (gOp2 oNe (zaa 0) #v[0])) (gSeq #v[4,12] (gAug [] #v[7,10] 1 #v[1])) zek) (zcd [] 1)))
noncomputable def ziz (Φ:Fn):Prop:=∀xs:List Int,Bits xs->xs.length<=1000->Φ [.int (wordOf xs)]=some ([.int (wordOf xs)],(.int xs.sum,false))
theorem zf8:∀(n:Nat) (xs:List Int) (h:Int),Bits xs->xs.sum < n ->
    zdb (zaj (gOp2 oNe (zaa 0) #v[0])) (gSeq #v[4,12] (gAug [] #v[7,10] 1 #v[1])) n [#v[(wordOf xs),0],#v[h,0]]=some ([#v[0,0],#v[(h+xs.sum),0]],.nx)
  |0,xs,h,hb,hs=>by have:=zyj hb;omega
  | n+1,xs,h,hb,hs=>by
    have tt:zaj (gOp2 oNe (zaa 0) #v[0]) [#v[(wordOf xs),0],#v[h,0]]=some ([#v[(wordOf xs),0],#v[h,0]],!decide (wordOf xs=0)):=rfl;unfold zdb;by_cases z:wordOf xs=0
    · rw [Am z] at tt
      rw[tt,(zlo hb).mp z,z,Int.add_zero]
      rfl
    · rw [Ay z] at tt
      have bd:gSeq #v[4,12] (gAug [] #v[7,10] 1 #v[1]) [#v[(wordOf xs),0],#v[h,0]]=some ([#v[(Builtin.bitAnd (wordOf xs) (wordOf xs - 1)),0],#v[(h+1),0]],.nx):=rfl;rw[zq5 hb z] at bd;rw[tt];simp only [Fb,bd];have:=zvi hb z;rw[zf8 n (clr xs) (h+1) (zqr hb) #v[],this];have e:h+1+(xs.sum - 1)=h+xs.sum:=by omega
      rw[e]
theorem zmr (Ψ:Str->Fn):ziz (zac [false] 2 (z2p Ψ)):=λxs hb hl=>by
 have w:=zf8 zek xs 0 hb (by have:=z3w hb;show xs.sum<(4096:Nat);omega);rw[Gh] at w;exact za1 (en:=[#v[0,0],#v[xs.sum,0]]) rfl ((seq_nx (e1:=[#v[(wordOf xs),0],#v[0,0]]) rfl).trans ((seq_nx w).trans rfl)) rfl
noncomputable def zyu (Ψ:Str->Fn):GS:=(gRet (gOp2 oEq (gArg (gOp2 #v[0,0,2] (gArg (zab [false] (Ψ "weight") (gCns (gArg (zab [false,false] (Ψ "times") (gCns #v[0,4] (gCns #v[1,4] gA0)))) gA0))) #v[2])) #v[0]))
theorem z53 {Ψ:Str->Fn} (hW:ziz (Ψ "weight")) (hA:z0n (Ψ "times")) {xs ys:List Int} (bx:Bits xs) (by' : Bits ys) (hz:xs.length<=1000) :
  zac [false,false] 2 (zyu Ψ) #v[2,11]=some (#v[2,11],(.bl (decide ((List.zipWith (· * ·) xs ys).sum % 2=0)),false)):=by
 have t:=hA (wordOf xs) (wordOf ys);rw[zc4 bx by'] at t;exact za1 (en:=[#v[(wordOf xs),0],#v[(wordOf ys),0]]) rfl (zvj (op2_0 (arg_0 (op2_0 (arg_0 (zfg (ws:=[.int (wordOf (List.zipWith (· * ·) xs ys))]) (zpg (arg_0 (zfg (ws:=#v[2,11]) rfl rfl t rfl)) rfl) rfl (hW _ (zjm (λ_ _=>z4y) bx by') (by rw[Fi];omega)) rfl)) rfl rfl rfl (oI_t #v[0,9]))) rfl rfl rfl rfl)) rfl
theorem yb9 {it:GL}{te:GE}{en e0:En}{ws rs:List W} (hi:it en=some (e0,ws)) (hz:ws.length<=1000) (hl:rs.length=ws.length)
  (ht:∀(i:Nat) v0 w r,ws[i]?=some w->rs[i]?=some r->∃u f,te [v0,#v[w,6]]=some ([v0,u],(r,f))) :
  za9 [none,none] (.nm 1) it gYes te en=some (e0,(.lst rs,true)):=by
 have s9:(1000:Nat)<=sizeLine:=by decide
 obtain⟨ce',out,hc,hp⟩:=zdd (cap:=[none,none]) (T:=.nm 1) (tc:=gYes) (te:=te) (λi c dn=>(∃v0 v1,c=[v0,v1])/\dn=rs.take i) hi rfl #v[] ⟨⟨_,_,rfl⟩,rfl⟩
  (by
   rintro i w c dn hw ⟨⟨v0,v1,rfl⟩,rfl⟩;have li:i<rs.length:=by rw[hl];exact (Ak.mp hw).1
   have hr:rs[i]?=some rs[i]:=Ae li;obtain⟨u,f,h⟩:=ht i v0 w rs[i] hw hr;refine⟨[v0,#v[w,6]],rfl,.inl ⟨_,_,(rs[i],f),rfl,h,⟨_,_,rfl⟩,?_⟩⟩;rw[Ev,hr]
   rfl)
 obtain⟨_,rfl⟩:=hp;rw[hc,zna cap2,Ec #v[]]
theorem z3g {k:Nat}{it:GL}{te:GE}{en e0:En}{ws rs:List W}{x:Option (W × Bool)} (hi:it en=some (e0,ws)) (hz:ws.length<=1000) (hl:rs.length=ws.length) (hn:zbx [none,none,some k]=true) (hx:(e0[k]?).getD none=x) (hb:∀v0 v1,zam [none,none,some k] e0 [v0,v1,x]=e0)
  (ht:∀(i:Nat) v0 w r,ws[i]?=some w->rs[i]?=some r->∃u f,te [v0,#v[w,6],x]=some ([v0,u,x],(r,f))) :
  za9 [none,none,some k] (.nm 1) it gYes te en=some (e0,(.lst rs,true)):=by
 have s9:(1000:Nat)<=sizeLine:=by decide
 obtain⟨ce',out,hc,hp⟩:=zdd (cap:=[none,none,some k]) (T:=.nm 1) (tc:=gYes) (te:=te) (λi c dn=>(∃v0 v1,c=[v0,v1,x])/\dn=rs.take i) hi hn #v[] ⟨⟨none,none,by rw[<-hx];rfl⟩,rfl⟩
  (by
   rintro i w c dn hw ⟨⟨v0,v1,rfl⟩,rfl⟩;have li:i<rs.length:=by rw[hl];exact (Ak.mp hw).1
   have hr:rs[i]?=some rs[i]:=Ae li;obtain⟨u,f,h⟩:=ht i v0 w rs[i] hw hr;refine⟨[v0,#v[w,6],x],rfl,.inl ⟨_,_,(rs[i],f),rfl,h,⟨_,_,rfl⟩,?_⟩⟩;rw[Ev,hr]
   rfl)
 obtain⟨⟨v0,v1,rfl⟩,rfl⟩:=hp;rw[hc,hb,Ec #v[]]
theorem z7q {i:Int}(h1:-1000000<=i)(h2:i<=1000000):zc6 i=true:=by
 unfold zc6;rw[Am #v[],Am #v[]]
 rfl
theorem zy7 {as:GAs}{en e1:En}{xs:List (W ⊕ Nat)}{j:Int}(h:as en=some (e1,xs))(h2:za6 e1 xs=some [.int j])(h3:zc6 j=true):zbp as en=some (e1,rngW 0 j.toNat):=by
 unfold zbp;rw[h];show (match za6 e1 xs with|some [.int j]=>if zc6 j then some (e1,rngW 0 j.toNat) else none|_=>none)=_;rw[h2];show (if zc6 j then some (e1,rngW 0 j.toNat) else none)=_;rw[if_pos h3]
noncomputable def tab (n:Nat) (f:Nat->Int):List Int:=(List.range n).map f
theorem zas (n:Nat)(f:Nat->Int):(tab n f).length=n:=by unfold tab;rw[Ab,Cn]
theorem zgq {n:Nat}{f:Nat->Int}{i:Nat}(h:i<n):(tab n f)[i]?=some (f i):=by unfold tab;rw[Ai,List.getElem?_range h];rfl
theorem tab_ext {n:Nat}{f g:Nat->Int}(h:∀i,i<n->f i=g i):tab n f=tab n g:=by
 unfold tab;refine Gx λi hi=>h i (Bi.mp hi)
theorem znr (n:Nat)(f g:Nat->Int)(h:Int->Int->Int):List.zipWith h (tab n f) (tab n g)=tab n λi=>h (f i) (g i):=by
 apply Dg;intro i;by_cases hi:i<n
 ·rw[List.getElem?_zipWith,zgq hi,zgq hi,zgq hi]
 ·rw[Co (by rw[Fi,zas,zas];omega),Co (by rw[zas];omega)]
theorem zau {n:Nat}{f:Nat->Int}(h:∀i,i<n->Bit (f i)):Bits (tab n f):=λx hx=>by
 obtain⟨i,hi,rfl⟩:=Bv.mp hx;exact h i (Bi.mp hi)
theorem zil (a b:Nat)(f:Nat->Int):tab (a+b) f=tab a f++tab b λi=>f (a+i):=by
 unfold tab;rw[List.range_add,Cc,Ed]
 rfl
theorem zdj (n:Nat):tab n (λ_=>0)=List.replicate n 0:=by unfold tab;rw[List.map_const',Cn]
theorem zb7 (n:Nat):wordOf (List.replicate n 0)=0:=by
 induction n with
 |zero=>rfl
 |succ n ih=>rw[Ce,zal,ih];rfl
theorem ztl {n s:Nat}{f:Nat->Int}(hs:s<=n)(h:∀i,n - s<=i->f i=0):wordOf (tab n f) * 2 ^ s=wordOf (tab n λi=>if i<s then 0 else f (i - s)):=by
 obtain⟨k,rfl⟩ : ∃k,n=k+s:=⟨n - s,by omega⟩;have e1:tab (k+s) f=tab k f++List.replicate s 0:=by
  rw[zil,<-zdj];refine congrArg _ (tab_ext λi _=>h (k+i) #v[])
 have e2:tab (k+s) (λi=>if i<s then 0 else f (i - s))=List.replicate s 0++tab k f:=by
  rw[Nat.add_comm,zil,<-zdj];have a:tab s (λi=>if i<s then 0 else f (i - s))=tab s λ_=>0:=tab_ext λi hi=>if_pos hi;have b:(tab k λi=>if s+i<s then 0 else f (s+i - s))=tab k f:=tab_ext λi _=>by rw[if_neg #v[]];congr 1;omega
  rw[a,b]
 rw[e1,e2,za0,za0,zb7,Dc,Int.mul_zero,Int.add_zero,Gh,Int.mul_comm]
noncomputable def zec (s:Nat) (i:Nat):Int:=if i / s % 2=0 then 1 else 0
noncomputable def zkb (s:Nat) (f:Nat->Int) (i:Nat):Int:=if i / s % 2=1 then (f i+f (i - s)) % 2 else f i
theorem zj5 (s i:Nat):Bit (zec s i):=by unfold zec;split<;>first|exact .inr rfl|exact .inl rfl
theorem z8m {a b:Int}(ha:Bit a)(hb:Bit b):dif a b=(a+b) % 2:=by rcases ha with rfl|rfl<;>rcases hb with rfl|rfl<;>decide
theorem dif_zero {a:Int}(ha:Bit a):dif a 0=a:=by rcases ha with rfl|rfl<;>decide
theorem z2d {s:Nat}{f:Nat->Int}(h:∀i,Bit (f i))(i:Nat):Bit (zkb s f i):=by
 unfold zkb;split
 ·have:=Fu (f i + f (i - s)) (show (2 : Int) ≠ 0 by decide);have:=Ef (f i+f (i - s)) (show (0:Int)<2 by decide);unfold Bit;omega
 ·exact h i
theorem ztu {n s c:Nat}{f:Nat->Int} (h:∀i,Bit (f i)) (s0:0 < s) (hn:n=s * (2 * c)) (c0:0 < c):Builtin.bitXor (wordOf (tab n f)) (Builtin.bitAnd (wordOf (tab n f)) (wordOf (tab n (zec s))) * 2 ^ s)=wordOf (tab n (zkb s f)):=by
  have hs:s<=n:=by rw[hn];exact Nat.le_mul_of_pos_right s #v[]
  have top:∀i,n - s<=i->i < n->i / s % 2=1:=fun i h1 h2=>by
    have e:i / s=2 * c - 1:=by
      have a1:s * (2 * c - 1)<=i:=by rw[Nat.mul_sub,Nat.mul_one,<-hn];exact h1
      have a2:i < s * (2 * c - 1)+s:=by
        have : s * (2 * c - 1) + s = n := by rw [hn, Nat.mul_sub, Nat.mul_one]; have : s ≤ s * (2 * c) := by rw [<- hn]; exact hs
                                             omega
        omega
      exact Nat.div_eq_of_lt_le (by rw[Nat.mul_comm];exact a1) (by rw[Nat.add_mul,Nat.one_mul,Nat.mul_comm];exact a2)
    rw[e];omega
  have g0:tab n (fun i=>f i * zec s i)=tab n (fun i=>if i < n then f i * zec s i else 0):=tab_ext fun i hi=>(if_pos hi).symm;rw [zc4 (zau fun i _=>h i) (zau fun i _=>zj5 s i),znr,g0,ztl hs (fun i hi=>by
    split
    · rename_i z
      have:zec s i=0:=by unfold zec;rw[if_neg (by rw[top i hi z];decide)]
      rw[this,Int.mul_zero]
    · rfl),zm0 (zau λi _=>h i) (zau λi hi=>?_) (by rw[zas,zas]),znr]
  · refine congrArg wordOf (tab_ext fun i hi => ?_)
    by_cases c1:i<s
    · rw [if_pos c1, dif_zero (h i)]
      unfold zkb;rw[if_neg (by rw[Nat.div_eq_of_lt c1];decide)]
    · have e:i / s=(i - s) / s+1:=by
        have:=Nat.add_div_right (i - s) s0;rw[show i - s+s=i by omega] at this;exact this
      rw[if_neg c1,if_pos #v[]];unfold zkb zec;by_cases c2:i / s % 2=1
      · rw[if_pos c2,if_pos #v[],Int.mul_one,z8m (h i) (h (i - s))]
      · rw[if_neg c2,if_neg #v[],Int.mul_zero,dif_zero (h i)]
  · split
    · exact .inl rfl
    · split
      · exact z4y (h _) (zj5 s _)
      · exact .inl rfl
noncomputable def six6 (m j:Int):Prop:=(0<=j/\j<m/\m<=6)
theorem yds {m j:Int}(h:six6 m j):(m=1/\j=0)\/(m=2/\(j=0\/j=1))\/(m=3/\(j=0\/j=1\/j=2))\/(m=4/\(j=0\/j=1\/j=2\/j=3))\/(m=5/\(j=0\/j=1\/j=2\/j=3\/j=4))\/(m=6/\(j=0\/j=1\/j=2\/j=3\/j=4\/j=5)):=by
 obtain⟨h1,h2,h3⟩:=h;omega
theorem z70 {m j:Int}(h:six6 m j):yesW m / (1 * 2 ^ (1 * 2 ^ j.toNat:Int).toNat+1)=wordOf (tab (2 ^ m.toNat) (zec (2 ^ j.toNat))):=by
 rcases yds h with⟨rfl,rfl⟩|⟨rfl,rfl|rfl⟩|⟨rfl,rfl|rfl|rfl⟩|⟨rfl,rfl|rfl|rfl|rfl⟩|⟨rfl,rfl|rfl|rfl|rfl|rfl⟩|⟨rfl,rfl|rfl|rfl|rfl|rfl|rfl⟩<;>decide +kernel
noncomputable def zps (Ψ:Str->Fn):GS:=(gRet (gOp2 #v[0,0,3] (gArg (zab [false] (Ψ "all_yes") (gCns #v[0,4] gA0))) (gArg (gOp2 oAdd (gArg (gOp2 #v[0,0,1] #v[1] (gArg (gOp2 #v[0,0,1] #v[1] (zaa 1))))) #v[1]))))
noncomputable def zy5 (Ψ:Str->Fn):GS:=(gSeq (gSet [] 3 (zab [false,false] (Ψ "times") (gCns #v[1,4] (gCns (gArg (zab [false,false] (Ψ "letter_no") (gCns #v[0,4] #v[9,9]))) gA0)))) (gRet (zab [false,false] (Ψ "plus") (gCns #v[1,4] (gCns (gArg (gOp2 #v[0,0,1] (zaa 3) (gArg (gOp2 #v[0,0,1] #v[1] (zaa 2))))) gA0)))))
noncomputable def NoOk (Φ:Fn):Prop:=∀m j:Int,six6 m j->Φ [.int m,.int j]=some ([.int m,.int j],(.int (wordOf (tab (2 ^ m.toNat) (zec (2 ^ j.toNat)))),false))
theorem ydi {Ψ:Str->Fn}(hY:zq3 (Ψ "all_yes")):NoOk (zac [false,false] 2 (zps Ψ)):=λm j h=>by
 have h':=h;obtain⟨j0,jm,m6⟩:=h';have dv:cDiv (yesW m) (1 * 2 ^ (1 * 2 ^ j.toNat:Int).toNat+1)=true:=by
  have j6:j=0\/j=1\/j=2\/j=3\/j=4\/j=5:=by omega
  rcases j6 with rfl|rfl|rfl|rfl|rfl|rfl<;>exact zqk #v[0,9] #v[0,9]
 exact za1 (en:=[#v[m,0],#v[j,0]]) rfl (zvj (op2_0 (arg_0 (zfg (ws:=[.int m]) rfl rfl (hY m #v[] m6) rfl)) (arg_0 (op2_0 (arg_0 (op2_0 (x:=.inl (.int 1)) rfl (arg_0 (op2_0 (x:=.inl (.int 1)) rfl rfl rfl rfl (oI_t (cP1 j0 #v[])))) rfl rfl (oI_t (cP2 j0 #v[])))) rfl rfl rfl rfl)) rfl rfl ((oI_t dv).trans (by rw[z70 h])))) rfl
noncomputable def z34 (Φ:Fn):Prop:=∀(m j:Int) (f:Nat->Int),six6 m j->(∀i,Bit (f i))->Φ [.int m,.int (wordOf (tab (2 ^ m.toNat) f)),.int j]=some ([.int m,.int (wordOf (tab (2 ^ m.toNat) f)),.int j],(.int (wordOf (tab (2 ^ m.toNat) (zkb (2 ^ j.toNat) f))),false))
theorem z4z {Ψ:Str->Fn}(hN:NoOk (Ψ "letter_no"))(hA:z0n (Ψ "times"))(hX:z85 (Ψ "plus")):z34 (zac [false,false,false] 4 (zy5 Ψ)):=λm j f h hf=>by
 have h':=h;obtain⟨j0,jm,m6⟩:=h';have sz:=yca j0 (show j<=6 by omega);have b1:Bits (tab (2 ^ m.toNat) f):=zau λi _=>hf i;have b2:Bits (tab (2 ^ m.toNat) (zec (2 ^ j.toNat))):=zau λi _=>zj5 _ i;have t:=hA (wordOf (tab (2 ^ m.toNat) f)) (wordOf (tab (2 ^ m.toNat) (zec (2 ^ j.toNat))));generalize hlo:Builtin.bitAnd (wordOf (tab (2 ^ m.toNat) f)) (wordOf (tab (2 ^ m.toNat) (zec (2 ^ j.toNat))))=lo at t;have lb:0<=lo/\lo<2 ^ 64:=by
  rw[<-hlo,zc4 b1 b2];have b3:=zjm (f:=(· * ·)) (λ_ _=>z4y) b1 b2;have wb:=zcr b3;refine⟨wb.1,Ha wb.2 ?_⟩;rw[Fi,zas,zas,Gz];rcases z88 (show 0<=m by omega) m6 with rfl|rfl|rfl|rfl|rfl|rfl|rfl<;>decide
 have es:(1 * 2 ^ j.toNat:Int).toNat=2 ^ j.toNat:=by rw[Int.one_mul];exact Int.toNat_pow_of_nonneg #v[0,9] _
 have key:Builtin.bitXor (wordOf (tab (2 ^ m.toNat) f)) (lo * 2 ^ (1 * 2 ^ j.toNat:Int).toNat)=wordOf (tab (2 ^ m.toNat) (zkb (2 ^ j.toNat) f)):=by
  rw[es,<-hlo];refine ztu (c:=2 ^ (m.toNat - j.toNat - 1)) hf (Nat.pow_pos #v[0,9]) ?_ (Nat.pow_pos #v[0,9]);have e:m.toNat=j.toNat+(1+(m.toNat - j.toNat - 1)):=by omega
  rw[<-Nat.pow_succ',<-Nat.pow_add];congr 1;omega
 have x:=hX (wordOf (tab (2 ^ m.toNat) f)) (lo * 2 ^ (1 * 2 ^ j.toNat:Int).toNat);rw[key] at x;refine za1 (en:=[#v[m,0],#v[(wordOf (tab (2 ^ m.toNat) f)),0],#v[j,0],#v[lo,0]]) rfl ?_ rfl;refine (seq_nx (set_0 (zfg (ws:=[.int (wordOf (tab (2 ^ m.toNat) f)),.int (wordOf (tab (2 ^ m.toNat) (zec (2 ^ j.toNat))))]) (zpg (x:=.inl (.int (wordOf (tab (2 ^ m.toNat) f)))) rfl (zpg (arg_0 (zfg (ws:=[.int m,.int j]) rfl rfl (hN m j h) rfl)) rfl)) rfl t rfl) rfl)).trans ?_;exact zvj (zfg (ws:=[.int (wordOf (tab (2 ^ m.toNat) f)),.int (lo * 2 ^ (1 * 2 ^ j.toNat:Int).toNat)]) (zpg (x:=.inl (.int (wordOf (tab (2 ^ m.toNat) f)))) rfl (zpg (arg_0 (r:=(.int (lo * 2 ^ (1 * 2 ^ j.toNat:Int).toNat),false)) (op2_0 (x:=.inl (.int lo)) rfl (arg_0 (op2_0 (x:=.inl (.int 1)) rfl rfl rfl rfl (oI_t (cP1 j0 #v[])))) rfl rfl (oI_t (zkx #v[] #v[] #v[])))) rfl)) rfl x rfl)
theorem zrh (n:Nat)(f:Nat->Int):tab (n+1) f=tab n f++[f n]:=by unfold tab;rw[Ft,Cc];rfl
theorem zir {n:Nat}{f:Nat->Int}{i:Nat}(h:i<n):((tab n f).map W.int)[i]?=some (.int (f i)):=by rw[Ai,zgq h];rfl
noncomputable def itF:Nat->(Nat->Int)->Nat->Int
 |0,f=>f
 |k+1,f=>zkb (2 ^ k) (itF k f)
theorem z4g {f:Nat->Int}(h:∀i,Bit (f i)):∀k i,Bit (itF k f i)
 |0,i=>h i
 |k+1,i=>z2d (z4g h k) i
noncomputable def rowF (m:Int) (f:Nat->Int) (k:Nat):Int:=wordOf (tab (2 ^ m.toNat) (itF k f))
noncomputable def z66 (Ψ:Str->Fn):GS:=(gSeq (gSet [] 2 (zaz (gCns #v[1,4] gA0))) (gSeq (gFor [] (.nm 3) (zbp (gCns (zaa 0) gA0)) (zdr (gApp 2 (zab [false,false,false] (Ψ "stepped") #v[2,10])))) (gRet (gOpN zbc (gCns (zaa 2) gA0)))))
noncomputable def zjx (Φ:Fn):Prop:=∀(m:Int) (f:Nat->Int),0<=m->m<=6->(∀i,Bit (f i))->Φ [.int m,.int (rowF m f 0)]=some ([.int m,.int (rowF m f 0)],(.tup ((tab (m.toNat+1) (rowF m f)).map W.int),false))
theorem zzu {Ψ:Str->Fn}(hS:z34 (Ψ "stepped")):zjx (zac [false,false] 4 (z66 Ψ)):=λm f m0 m6 hf=>by
 have s9:(1000:Nat)<=sizeLine:=by decide
 have it:(zbp (gCns (zaa 0) gA0)) #v[9,8]=some (#v[9,8],rngW 0 m.toNat):=by
  show (if zc6 m then some ((#v[9,8]:En),rngW 0 m.toNat) else none)=_;rw[if_pos];unfold zc6;rw[Am #v[],Am #v[]]
  rfl
 obtain⟨en',hl,hp⟩:=zbu (mp:=[]) (T:=(.nm 3)) (it:=(zbp (gCns (zaa 0) gA0))) (body:=(zdr (gApp 2 (zab [false,false,false] (Ψ "stepped") #v[2,10]))))
  (λi e=>∃v3,e=[#v[m,0],#v[(rowF m f 0),0],#v[((tab (i+1) (rowF m f)).map W.int),2],v3]) it ⟨none,rfl⟩
  (by
   rintro i w e hw ⟨v3,rfl⟩;obtain⟨hi,rfl⟩:=zcp hw;have c:=hS m (0+i) (itF i f) ⟨by omega,by omega,m6⟩ (z4g hf i);have ei:(0+(i:Int)).toNat=i:=by omega
   rw[ei] at c;have g:(tab (i+1) (rowF m f)).length=i+1:=zas _ _;have cc:(zab [false,false,false] (Ψ "stepped") #v[2,10]) #v[6,9]=some (#v[6,9],(.int (rowF m f (i+1)),false)) :=
    zfg (ws:=[.int m,.int (rowF m f i),.int (0+(i:Nat))]) (zpg (x:=.inl (.int m)) rfl (zpg (arg_0 (r:=(.int (rowF m f i),false)) (op2_0 (x:=.inr 2) rfl rfl rfl rfl (zmu rfl (by rw[Gh];exact zbr (zir #v[]))))) rfl)) rfl c rfl
   refine⟨#v[6,9],[#v[m,0],#v[(rowF m f 0),0],#v[((tab (i+1+1) (rowF m f)).map W.int),2],#v[(0+(i:Nat)),0]],rfl,.inl ?_,_,rfl⟩;have a:=z3l (i:=2) rfl cc rfl (by rw[Ab,g];omega);rw[zrh (i+1),Cc];exact zxy a)
 obtain⟨v3,rfl⟩:=hp;rw[zco] at hl;refine za1 (en:=[#v[m,0],#v[(rowF m f 0),0],#v[((tab (m.toNat+1) (rowF m f)).map W.int),2],v3]) rfl ?_ rfl;exact (seq_nx (e1:=#v[9,8]) rfl).trans ((seq_nx hl).trans rfl)
noncomputable def zon (p:Nat):List Nat:=(List.range (p+1)).filter λo=>o &&& p == o
noncomputable def zbh (f:Nat->Int) (p:Nat):Int:=((zon p).map f).sum % 2
noncomputable def evS (L:List Nat) (f:Nat->Int) (S:Nat):Int:=((L.filter λi=>S.testBit i).map f).sum
theorem ev_xor (f:Nat->Int) (A B:Nat):∀L:List Nat,evS L f (A ^^^ B) % 2=(evS L f A+evS L f B) % 2
  |[]=>rfl
  | i::L=>by
    have ih:=ev_xor f A B L;unfold evS at ih ⊢;rw[Cd,Cd,Cd,Nat.testBit_xor];cases A.testBit i<;>cases B.testBit i<;>simp only [Bool.xor_false,Bool.xor_true,Bool.not_true,Fb,Dp,Dq,Ah,Bf,Bt]<;>omega
noncomputable def itS:Nat->Nat->Nat
 |0,i=>2 ^ i
 |k+1,i=>if i / 2 ^ k % 2=1 then itS k i ^^^ itS k (i - 2 ^ k) else itS k i
theorem z6g:∀i:Fin 64,(List.range 64).filter (λj=>(2 ^ i.val).testBit j)=[i.val]:=by decide +kernel
theorem z78 {f:Nat->Int} (h:∀i,Bit (f i)):∀k i,i < 64->itF k f i=evS (List.range 64) f (itS k i) % 2
  | 0,i,hi=>by
    unfold evS itS itF;rw[z6g ⟨i,hi⟩];show f i=(f i+0) % 2;rcases h i with e|e<;>rw[e]<;>rfl
  | k+1,i,hi=>by
    have a:=z78 h k i hi;have b:=z78 h k (i - 2 ^ k) (Nat.lt_of_le_of_lt (Nat.sub_le _ _) hi);unfold itF itS zkb;by_cases c:i / 2 ^ k % 2=1
    · rw [if_pos c, if_pos c, a, b, ev_xor]
      omega
    · rw[if_neg c,if_neg c,a]
theorem z48:∀m:Fin 7,∀p:Fin (2 ^ m.val),(List.range 64).filter (λj=>(itS m.val p.val).testBit j)=zon p.val:=by decide +kernel
theorem zxa {f:Nat->Int}(h:∀i,Bit (f i)){m p:Nat}(hm:m<=6)(hp:p<2 ^ m):itF m f p=zbh f p:=by
 have lt:2 ^ m<=2 ^ 6:=Eu #v[0,9] hm;rw[z78 h m p #v[]];unfold evS zbh;rw[z48 ⟨m,by omega⟩ ⟨p,hp⟩]
theorem zc9 (n:Nat)(f:Nat->Int):tab (n+1) f=tab n f++[f n]:=by unfold tab;rw[Ft,Cc];rfl
theorem zgd:∀(p:Nat) (xs:List Int),Bits xs->Builtin.bitAnd (wordOf xs / 2 ^ p) 1=xs.getD p 0
  | p,[],_=>by
    show Builtin.bitAnd ((0:Int) / 2 ^ p) 1=0;rw[Int.zero_ediv,zja]
  | 0,x::xs,h=>by
    have a:=zea (zcm h.tail) (Int.le_refl 0) h.head (show Bit 1 from .inr rfl);rw[bitAnd_zero] at a;show Builtin.bitAnd (wordOf (x::xs) / 1) 1=x;rw[Int.ediv_one,zal];have e:(2 * 0+1:Int)=1:=rfl;rw[e] at a;rw[a];omega
  | p+1,x::xs,h=>by
    have ih:=zgd p xs h.tail;have e:wordOf (x::xs) / 2 ^ (p+1)=wordOf xs / 2 ^ p:=by
      rw[zal,Int.pow_succ,Int.mul_comm ((2:Int) ^ p) 2,<-Int.ediv_ediv_of_nonneg #v[0,9]];congr 1;rcases h.head with q|q<;>rw[q]<;>omega
    rw[e,ih]
    rfl
theorem zq6 {n:Nat}{f:Nat->Int}(h:∀i,n<=i->f i=0)(p:Nat):(tab n f).getD p 0=f p:=by
 rw[Ez];by_cases c:p<n
 ·rw[zgq c];rfl
 ·rw[Co (by rw[zas];omega),h p #v[]];rfl
noncomputable def dueL (f:Nat->Int) (n:Nat):List Nat:=(List.range n).filter λp=>decide (f p=1)
noncomputable def zbj (M:List Nat):List W:=M.map λp:Nat=>W.int p
theorem zc7 (M:List Nat):(zbj M).length=M.length:=Ab ..
theorem zg9 {M:List Nat}{i:Nat}{w:W}(h:(zbj M)[i]?=some w):∃p,M[i]?=some p/\w=.int (p:Nat):=by
 unfold zbj at h;rw[Ai] at h;obtain⟨p,h1,h2⟩:=Option.map_eq_some_iff.mp h;exact⟨p,h1,h2.symm⟩
theorem z3h {q:Nat->Bool}{a b:Nat}(h:∀p,a<=p->q p=false)(hab:a<=b):(List.range b).filter q=(List.range a).filter q:=by
 obtain⟨k,rfl⟩ : ∃k,b=a+k:=⟨b - a,by omega⟩;rw[List.range_add,Ee];have e:((List.range k).map (a + ·)).filter q=[]:=List.filter_eq_nil_iff.mpr λx hx=>by
  obtain⟨j,_,rfl⟩:=Bv.mp hx;rw[h (a+j) #v[]]
  decide
 rw[e,By]
theorem z7k {f:Nat->Int} (h:∀i,Bit (f i)):∀n,((dueL f n).length:Int)=(tab n f).sum
  |0=>rfl
  | n+1=>by
    have ih:=z7k h n;unfold dueL at ih ⊢;rw[Ft,Ee,Ba,zc9,List.sum_append,<-ih];rcases h n with e|e
    · rw[Fy (by rw[e];decide),e];rfl
    · rw[Fx (by rw[e];decide),e];rfl
theorem z6f {w:Int}(h:0<=w):w<2 ^ Builtin.Int.intBits w:=by
 unfold Builtin.Int.intBits;by_cases z:w=0
 ·subst z;decide
 ·rw[if_neg (by simpa using z)];have a:=Nat.lt_log2_self (n:=w.natAbs);have e:=Int.natAbs_of_nonneg h;have c:((w.natAbs:Nat):Int)<((2 ^ (w.natAbs.log2+1):Nat):Int):=Int.ofNat_lt.mpr a;rw[e,Int.natCast_pow] at c;exact c
theorem zvb {f:Nat->Int}(h:∀i,Bit (f i)){n:Nat}(h0:∀i,n<=i->f i=0):(List.range (Builtin.Int.intBits (wordOf (tab n f)))).filter (λp=>decide (f p=1))=dueL f n:=by
 have b:=zau (n:=n) λi _=>h i;have nn:=zcm b;have q1:∀p,n<=p->decide (f p=1)=false:=λp hp=>Ay (by rw[h0 p hp];decide);have q2:∀p,Builtin.Int.intBits (wordOf (tab n f))<=p->decide (f p=1)=false:=λp hp=>by
  have s:=zgd p _ b;have lt:wordOf (tab n f)<2 ^ p:=Ha (z6f nn) (by
   have:=Eu (n:=2) #v[0,9] hp
   exact_mod_cast this)
  rw[Int.ediv_eq_zero_of_lt nn lt,zja,zq6 h0] at s;exact Ay (by rw[<-s];decide)
 unfold dueL;rw[<-z3h q1 (Nat.le_max_left n (Builtin.Int.intBits (wordOf (tab n f)))),<-z3h q2 (Nat.le_max_right n _)]
theorem zr2 (f g h:Nat->Int):∀n,wordOf (tab n f)+wordOf (tab n g) - wordOf (tab n h)=wordOf (tab n fun i=>f i+g i - h i)
  |0=>rfl
  | n+1=>by
    have ih:=zr2 f g h n;rw[zc9,zc9,zc9,zc9,za0,za0,za0,za0,<-ih,zas,zas,zas,zas];show _+2 ^ n * (2 * 0+f n)+(_+2 ^ n * (2 * 0+g n)) - (_+2 ^ n * (2 * 0+h n))=_+2 ^ n * (2 * 0+(f n+g n - h n));rw[show (2 * 0+f n)=f n by omega,show (2 * 0+g n)=g n by omega,show (2 * 0+h n)=h n by omega,show (2 * 0+(f n+g n - h n))=f n+g n - h n by omega,Int.mul_sub,Int.mul_add];omega
theorem zz0 {n p:Nat}(h:p<n):(1 * 2 ^ p:Int)=wordOf (tab n λi=>if i=p then 1 else 0):=by
 obtain⟨k,rfl⟩ : ∃k,n=p+(1+k):=⟨n - p - 1,by omega⟩;have e1:(tab p λi=>if i=p then (1:Int) else 0)=List.replicate p 0:=by
  rw[<-zdj];exact tab_ext λi hi=>if_neg #v[]
 have e2:(tab k λi=>if p+(1+i)=p then (1:Int) else 0)=List.replicate k 0:=by
  rw[<-zdj];exact tab_ext λi hi=>if_neg #v[]
 have e3:(tab 1 λi=>if p+i=p then (1:Int) else 0)=[1]:=by
  show [if p+0=p then (1:Int) else 0]=[1];rw[if_pos #v[]]
 rw[zil,zil,e1,e2,e3,za0,zb7,Dc];show _=0+2 ^ p * (2 * wordOf (List.replicate k 0)+1);rw[zb7];omega
theorem z9r (x y:Int):Builtin.bitOr x y=x+y - Builtin.bitAnd x y:=by
 have h:=zjq x y;have e:Builtin.bitXor x y=Builtin.bitOr x y - Builtin.bitAnd x y:=rfl;omega
theorem zy2 {n p:Nat}{f:Nat->Int}(h:∀i,Bit (f i))(hp:p<n):Builtin.bitOr (wordOf (tab n f)) (1 * 2 ^ p)=wordOf (tab n λi=>if i=p then 1 else f i):=by
 rw[zz0 hp,z9r,zc4 (zau λi _=>h i) (zau λi _=>by split<;>first|exact .inr rfl|exact .inl rfl),znr,zr2];refine congrArg wordOf (tab_ext λi _=>?_);by_cases c:i=p
 ·rw[if_pos c,if_pos c];omega
 ·rw[if_neg c,if_neg c];omega
theorem z3x {mp:List Nat}{o:O2}{i:Nat}{g:GA}{en e1:En}{x:W ⊕ Nat}{w u:W}{r:W × Bool}(h0:en[i]?=some (#v[w,6]))(h1:g en=some (e1,x))(h2:resA e1 x=some u)(h3:o w u=some r)(hc:(mp.contains i || !decide (i<e1.length))=false):gAug mp o i g en=some (e1.set i (some r),.nx):=by
 unfold gAug;rw[h0];show (g en).bind _=_;rw[h1];show (resA e1 x).bind _=_;rw[h2];show (o w u).bind _=_;rw[h3];show (if (mp.contains i || !decide (i<e1.length))=true then none else some (e1.set i (some r),Fl.nx))=_;rw[hc]
 rfl
noncomputable def ybf (Ψ:Str->Fn):GS:=(gRet (gOp2 #v[6,8] (gArg (gOp2 #v[2,12] (zaa 0) (zaa 1))) #v[1]))
noncomputable def z4e (Φ:Fn):Prop:=∀(n p:Nat) (f:Nat->Int),(∀i,Bit (f i))->(∀i,n<=i->f i=0)->Φ [.int (wordOf (tab n f)),.int (p:Nat)]=some ([.int (wordOf (tab n f)),.int (p:Nat)],(.int (f p),false))
theorem z73 (Ψ:Str->Fn):z4e (zac [false,false] 2 (ybf Ψ)):=λn p f hf h0=>by
 have s:=zgd p _ (zau (n:=n) λi _=>hf i);rw[zq6 h0] at s;have a:gArg (gOp2 #v[2,12] (zaa 0) (zaa 1)) [#v[(wordOf (tab n f)),0],#v[(p:Nat),0]]=some ([#v[(wordOf (tab n f)),0],#v[(p:Nat),0]],.inl (.int (wordOf (tab n f) / 2 ^ p))):=arg_0 (r:=(.int (wordOf (tab n f) / 2 ^ p),false)) (op2_0 (x:=.inl (.int (wordOf (tab n f)))) (y:=.inl (.int (p:Nat))) rfl rfl rfl rfl (oI_t (Am (Int.natCast_nonneg p))));refine za1 (en:=[#v[(wordOf (tab n f)),0],#v[(p:Nat),0]]) rfl (zvj (op2_0 a (show gArg (gC (.int 1)) _=some (_,.inl (.int 1)) from rfl) rfl rfl ?_)) rfl;show some (W.int (Builtin.bitAnd (wordOf (tab n f) / 2 ^ p) 1),false)=_;rw[s]
noncomputable def z8c (Ψ:Str->Fn):GS:=(gRet (gOpN zbc (gCns (gArg (za9 [none,none,some 0] (.nm 1) (zbp (gCns (gArg (gOp1 ze2 (zaa 0))) gA0)) (zaj #v[5,9]) (gVar 1))) gA0)))
noncomputable def zka (Φ:Fn):Prop:=∀(n:Nat) (f:Nat->Int),(∀i,Bit (f i))->(∀i,n<=i->f i=0)->n<=64->Φ [.int (wordOf (tab n f))]=some ([.int (wordOf (tab n f))],(.tup (zbj (dueL f n)),false))
theorem z0m {Ψ:Str->Fn}(hS:z4e (Ψ "says")):zka (zac [false] 1 (z8c Ψ)):=λn f hf h0 hn=>by
 have s9:(1000:Nat)<=sizeLine:=by decide
 have nn:=zcm (zau (n:=n) λi _=>hf i);have wl:(wordOf (tab n f))<2 ^ 64:=by
  have b:=zcr (zau (n:=n) λi _=>hf i);rw[zas] at b;refine Ha b.2 ?_;have:=Eu (n:=2) #v[0,9] hn
  exact_mod_cast this
 have bl:Builtin.Int.intBits (wordOf (tab n f))<=64:=by
  unfold Builtin.Int.intBits;split
  ·decide
  ·rename_i z;have z' : ((wordOf (tab n f))).natAbs≠0:=by
    intro q;exact z (by rw[Int.natAbs_eq_zero.mp q];rfl)
   have:((wordOf (tab n f))).natAbs.log2<64:=(Nat.log2_lt z').mpr (by
    have e:=Int.natAbs_of_nonneg nn;rw[<-e] at wl
    exact_mod_cast wl)
   omega
 have it:(zbp (gCns (gArg (gOp1 ze2 (zaa 0))) gA0)) [#v[(wordOf (tab n f)),0]]=some ([#v[(wordOf (tab n f)),0]],rngW 0 (Builtin.Int.intBits (wordOf (tab n f)))):=by
  have r:=zy7 (as:=(gCns (gArg (gOp1 ze2 (zaa 0))) gA0)) (en:=[#v[(wordOf (tab n f)),0]]) (j:=((Builtin.Int.intBits (wordOf (tab n f)):Nat):Int)) (xs:=[.inl (.int ((Builtin.Int.intBits (wordOf (tab n f)):Nat):Int))]) rfl rfl (z7q #v[] #v[]);rw[r]
  rfl
 obtain⟨ce',out,hc,hq⟩:=zdd (cap:=[none,none,some 0]) (T:=(.nm 1)) (tc:=(zaj #v[5,9])) (te:=(gVar 1)) (λi c dn=>(∃v0 v1,c=[v0,v1,#v[(wordOf (tab n f)),0]])/\dn=zbj ((List.range i).filter λp=>decide (f p=1))) it rfl (by rw[zco];omega) ⟨⟨_,_,rfl⟩,rfl⟩
  (by
   rintro i w c dn hw ⟨⟨v0,v1,rfl⟩,rfl⟩;obtain⟨hi,rfl⟩:=zcp hw;rw[Gh];have t:(zaj #v[5,9]) #v[5,11]=some (#v[5,11],decide (f i=1)):=ybq (f:=false) (op2_0 (arg_0 (r:=(.int (f i),false)) (zfg (ws:=[.int (wordOf (tab n f)),.int (i:Nat)]) rfl rfl (hS n i f hf h0) rfl)) (show gArg (gC (.int 1)) _=some (_,.inl (.int 1)) from rfl) rfl rfl rfl);refine⟨#v[5,11],rfl,?_⟩;by_cases b:f i=1
   ·rw[Am b] at t;refine .inl ⟨_,#v[5,11],(.int (i:Nat),false),t,rfl,⟨_,_,rfl⟩,?_⟩;unfold zbj;rw[Ft,Ee,Cc,Fx (p:=λp=>decide (f p=1)) (Am b)]
    rfl
   ·rw[Ay b] at t;refine .inr ⟨_,t,⟨_,_,rfl⟩,?_⟩;rw[Ft,Ee,Fy (p:=λp=>decide (f p=1)) (by rw[Ay b];decide),Ej,By])
 obtain⟨⟨v0,v1,rfl⟩,rfl⟩:=hq;rw[zco,zvb hf h0] at hc;exact za1 rfl (zpv (z3q (ztt (arg_ev hc) rfl) rfl rfl)) rfl
noncomputable def zlf (Ψ:Str->Fn):GS:=(gSeq (gSet [] 1 (gC (.int 0))) (gSeq (gFor [] (.nm 2) (zar (gVar 0)) #v[4,9]) (zcd [] 1)))
noncomputable def zi0 (Φ:Fn):Prop:=∀(n:Nat) (M:List Nat),n<=64->(∀p∈M,p<n)->Φ [.tup (zbj M)]=some ([.tup (zbj M)],(.int (wordOf (tab n λi=>if i∈M then 1 else 0)),false))
theorem zsd (Ψ:Str->Fn):zi0 (zac [false] 3 (zlf Ψ)):=λn M hn hM=>by
 have z0:(wordOf (tab n λi=>if i∈M.take 0 then 1 else 0))=0:=by
  have:(tab n λi=>if i∈M.take 0 then (1:Int) else 0)=List.replicate n 0:=by
   rw[<-zdj];exact tab_ext λi _=>if_neg (by rw[Dx];exact Bq)
  rw[this,zb7]
 obtain⟨en',hl,hp⟩:=zbu (mp:=[]) (T:=(.nm 2)) (it:=(zar (gVar 0))) (body:=#v[4,9])
  (λj e=>∃v2,e=[#v[(zbj M),3],#v[(wordOf (tab n λi=>if i∈M.take j then 1 else 0)),0],v2]) (en:=[#v[(zbj M),3],#v[0,0],none]) (e0:=[#v[(zbj M),3],#v[0,0],none]) (ws:=zbj M) rfl ⟨none,by rw[z0]⟩
  (by
   rintro j w e hw ⟨v2,rfl⟩;obtain⟨p,hp,rfl⟩:=zg9 hw;have pn:p<n:=hM p (Bn hp);have ow:=zy2 (n:=n) (p:=p) (f:=λi=>if i∈M.take j then 1 else 0) (λi=>by show Bit (if _ then _ else _);split<;>first|exact .inr rfl|exact .inl rfl) pn;have e2:(tab n λi=>if i=p then (1:Int) else if i∈M.take j then 1 else 0)=tab n λi=>if i∈M.take (j+1) then 1 else 0:=tab_ext λi _=>by
    have m:i∈M.take (j+1)↔(i∈M.take j\/i=p):=by
     rw[Ev,hp,Bj];show _\/i∈[p]↔_;rw[Aw]
    by_cases c:i=p
    ·rw[if_pos c,if_pos (m.mpr (.inr c))]
    ·rw[if_neg c];by_cases c2:i∈M.take j
     ·rw[if_pos c2,if_pos (m.mpr (.inl c2))]
     ·rw[if_neg c2,if_neg (λq=>(m.mp q).elim c2 c)]
   rw[e2] at ow;have pw:(1 * 2 ^ ((p:Nat):Int).toNat:Int)=1 * 2 ^ p:=rfl;refine⟨[#v[(zbj M),3],#v[(wordOf (tab n λi=>if i∈M.take j then 1 else 0)),0],#v[(p:Nat),0]],[#v[(zbj M),3],#v[(wordOf (tab n λi=>if i∈M.take (j+1) then 1 else 0)),0],#v[(p:Nat),0]],rfl,.inl (z3x (w:=.int (wordOf (tab n λi=>if i∈M.take j then 1 else 0))) (u:=.int (1 * 2 ^ p)) rfl (arg_0 (r:=(.int (1 * 2 ^ p),false)) (op2_0 (x:=.inl (.int 1)) (y:=.inl (.int (p:Nat))) rfl rfl rfl rfl (oI_t (zkx #v[] #v[] #v[0,9])))) rfl ?_ rfl),_,rfl⟩;show some (W.int (Builtin.bitOr (wordOf (tab n λi=>if i∈M.take j then 1 else 0)) (1 * 2 ^ p)),false)=_;rw[ow])
 obtain⟨v2,rfl⟩:=hp;rw[zc7,Ff] at hl;exact za1 rfl ((seq_nx (e1:=[#v[(zbj M),3],#v[0,0],none]) rfl).trans ((seq_nx hl).trans rfl)) rfl
theorem ze1:∀ws:List W,zbo (ws.map Sum.inl)=some ws
 |[]=>rfl
 |w::ws=>by show (zbo (ws.map Sum.inl)).bind _=_;rw[ze1 ws];rfl
theorem zgc:∀{xs:List (W ⊕ Nat)}{ws:List W},zbo xs=some ws->xs=ws.map Sum.inl
  |[],_,e=>by obtain rfl:=sI e;rfl
  | .inl w::xs,_,e=>by
    obtain⟨ws,h,e⟩:=bS (show (zbo xs).bind _=_ from e);obtain rfl:=sI e;rw[zgc h];rfl
  |.inr _::_,_,e=>by exact noSome e
theorem zk6 {xs:List (W ⊕ Nat)} (m:List Bool) (hm:(m.all fun b=>!b)=true) (h:xs.map isR=m):∃ws:List W,xs=ws.map Sum.inl:=by
  induction xs generalizing m with
  |nil=>exact⟨[],rfl⟩
  | cons x xs ih =>
    cases m with
    |nil=>cases h
    | cons b m =>
      rw[Ah] at h;injection h with h1 h2;rw[Bo,Ad] at hm;obtain⟨ws,e⟩:=ih m hm.2 h2;cases x with
      |inl w=>exact⟨w::ws,by rw[e];rfl⟩
      |inr i=>rw[<-h1] at hm;cases hm.1
theorem zgz:∀{m:List Bool} (hm:(m.all fun b=>!b)=true) (ws:List W),ws.length=m.length->(ws.map fun _=>false)=m
  |[],_,[],_=>rfl
  |[],_,_::_,h=>by cases h
  |_::_,_,[],h=>by cases h
  | b::m,hm,w::ws,h=>by
    rw[Bo,Ad] at hm;rw[Ah,zgz hm.2 ws (by simpa using h)];cases b with
    |false=>rfl
    |true=>cases hm.1
theorem zcv (m:List Bool) (Φ:Fn) (as:GAs) (en:En) (hm:(m.all fun b=>!b)=true):zab m Φ as en=(as en).bind fun p=>(zbo p.2).bind fun ws=>if ws.length=m.length then (Φ ws).bind fun q=>if q.1.length=m.length then some (p.1,q.2) else none else none:=by
  cases ha:as en with
  |none=>unfold zab;rw[ha];rfl
  | some p =>
    obtain⟨e1,xs⟩:=p;show _=(zbo xs).bind _;cases hf:zbo xs with
    | none =>
      unfold zab;rw[ha];show (if (decide (xs.map isR=m) && _ && _)=true then _ else none)=none;rw[Ay (λz=>by obtain⟨ws,e⟩:=zk6 m hm z;rw[e,ze1] at hf;cases hf)]
      rfl
    | some ws =>
      have ex:=zgc hf;subst ex;show _=if ws.length=m.length then _ else none;by_cases hl:ws.length=m.length
      · rw [if_pos hl]
        have h1:=zgz hm ws hl;cases hq:Φ ws with
        | none =>
          unfold zab;rw[ha];show (if (decide ((ws.map Sum.inl).map isR=m) && zaw e1 (ws.map Sum.inl) && zbx (za2 (ws.map Sum.inl)))=true then _ else _)=_;have e:(ws.map Sum.inl).map isR=m:=by rw[<-h1,Ed];rfl
          rw[Am e,zee,zgl];show (za6 e1 (ws.map Sum.inl)).bind _=_;rw[zbw];show (Φ ws).bind _=_;rw[hq]
          rfl
        | some q =>
          obtain⟨ws',r⟩:=q;show _=if ws'.length=m.length then some (e1,r) else none;by_cases hl2:ws'.length=m.length
          · rw [if_pos hl2]
            exact znf ha h1 hq #v[]
          · rw [if_neg hl2]
            unfold zab;rw[ha];show (if (decide ((ws.map Sum.inl).map isR=m) && zaw e1 (ws.map Sum.inl) && zbx (za2 (ws.map Sum.inl)))=true then _ else _)=_;have e:(ws.map Sum.inl).map isR=m:=by rw[<-h1,Ed];rfl
            rw[Am e,zee,zgl];show (za6 e1 (ws.map Sum.inl)).bind _=_;rw[zbw];show (Φ ws).bind _=_;rw[hq];show (if ws'.length=m.length then _ else none)=none;rw[if_neg hl2]
      · rw [if_neg hl]
        unfold zab;rw[ha];show (if (decide ((ws.map Sum.inl).map isR=m) && _ && _)=true then _ else none)=none;rw[Ay (λz=>hl (by rw[<-z,Ab,Ab]))]
        rfl
theorem zde (m:List Bool) (Φ:Fn) (as:GAs) (en:En) (hm:(m.all fun b=>!b)=true):zab (true::m) Φ as en=(as en).bind fun p=>match p.2 with
    | .inr i::xs=>(zbo xs).bind fun ws=>(match p.1[i]? with
      | some (some (st,true))=>if ws.length=m.length then (Φ (st::ws)).bind fun q=>(match q.1 with
        |st' :: wz=>if wz.length=m.length then some (p.1.set i (#v[st',5]),q.2) else none
        |[]=>none) else none
      |_=>none)
    |_=>none:=by
  cases ha:as en with
  |none=>unfold zab;rw[ha];rfl
  | some p =>
    obtain ⟨e1,xs⟩:=p;have base:zab (true::m) Φ as en=if decide (xs.map isR=true::m) && zaw e1 xs && zbx (za2 xs) then (za6 e1 xs).bind fun ws=>(Φ ws).bind fun q=>if q.1.length=(true::m).length then some (zam (za2 xs) e1 (za3 (true::m) q.1),q.2) else none else none:=by
      unfold zab;rw[ha];rfl
    have bad:xs.map isR≠true::m->zab (true::m) Φ as en=none:=λz=>by rw[base,Ay z];rfl
    have bad2:zaw e1 xs=false->zab (true::m) Φ as en=none:=λz=>by rw[base,z,Fc];rfl
    simp only [De]
    match xs,ha,base,bad,bad2 with
    |[],ha,_,bad,_=>rw[bad (by simp)]
    |.inl w::xs,ha,_,bad,_=>rw[bad (by simp [isR])]
    | .inr i::xs,ha,base,bad,bad2 =>
      simp only;cases hf:zbo xs with
      | none=>rw [bad (fun z=>by
          rw[Ah] at z;injection z with _ z;obtain⟨ws,e⟩:=zk6 m hm z;rw[e,ze1] at hf;cases hf)];rfl
      | some ws =>
        have ex:=zgc hf;subst ex;simp only [De];have no:(∀st,e1[i]?≠some (some (st,true)))->zaw e1 (.inr i::ws.map Sum.inl)=false:=fun z=>by
          unfold zaw;rw [Bo];have:(match e1[i]? with | some (some (_,true))=>true | _=>false)=false:=by
            split
            · rename_i q;exact absurd q (z _)
            · rfl
          simp only [this,Ea]
        split
        · rename_i st hst
          by_cases hl:ws.length=m.length
          · rw [if_pos hl]
            have h1:=zgz hm ws hl;cases hq:Φ (st::ws) with
            | none =>
              rw[base];split
              · have rs:za6 e1 (.inr i::ws.map Sum.inl)=some (st::ws):=by
                  show (resA e1 (.inr i)).bind _=_;have:resA e1 (.inr i)=some st:=by unfold resA;simp only [hst]
                  rw[this];show (za6 e1 (ws.map Sum.inl)).bind _=_;rw[zbw]
                  rfl
                rw[rs];show (Φ (st::ws)).bind _=_;rw[hq]
                rfl
              · rfl
            | some q =>
              obtain ⟨ws',r⟩:=q;simp only [De];have nn:ws'.length≠(true::m).length->zab (true::m) Φ as en=none:=fun z=>by
                rw[base];split
                · have rs:za6 e1 (.inr i::ws.map Sum.inl)=some (st::ws):=by
                    show (resA e1 (.inr i)).bind _=_;have:resA e1 (.inr i)=some st:=by unfold resA;simp only [hst]
                    rw[this];show (za6 e1 (ws.map Sum.inl)).bind _=_;rw[zbw]
                    rfl
                  rw[rs];show (Φ (st::ws)).bind _=_;rw[hq];show (if ws'.length=(true::m).length then _ else none)=none;rw[if_neg z]
                · rfl
              match ws',hq,nn with
              |[],hq,nn=>rw[nn (by simp)]
              | st' :: wz,hq,nn =>
                simp only;by_cases hl2:wz.length=m.length
                · rw [if_pos hl2]
                  exact zp9 ha (by rw[h1]) hst hq #v[]
                · rw[if_neg hl2,nn (by simpa using hl2)]
          · rw [if_neg hl,bad (fun z=>hl (by
              have:=congrArg List.length z;simpa using this))]
        · rename_i hst
          exact bad2 (no λst z=>hst st z)
theorem oI_e {c:Int->Int->Bool}{g:Int->Int->W}{i j:Int}:oI c g (.int i) (.int j)=if c i j then #v[g i j,6] else none:=rfl
theorem yac {i j:Int}:yes2 i j=true:=rfl
theorem z1k {ws:List W}:seqW (.tup ws)=some ws:=rfl
theorem zz6 {ws:List W}:seqW (.lst ws)=some ws:=rfl
theorem z27 {ws:List W}:seqL (.lst ws)=some ws:=rfl
theorem ydn {a:W}{i:Int}:oIx a (.int i)=(seqW a).bind λws=>(atI ws i).bind λw=>#v[w,6]:=by cases a<;>rfl
theorem ybx {en:En}{w:W}:resA en (.inl w)=some w:=rfl
theorem yaq {en:En}{i:Nat}:resA en (.inr i)=match en[i]? with|some (some (w,_))=>some w|_=>none:=by
 unfold resA;rfl
theorem yd2 {i j:Int}:oEq (.int i) (.int j)=some (.bl (decide (i=j)),false):=rfl
theorem ycr {i j:Int}:oNe (.int i) (.int j)=some (.bl (!decide (i=j)),false):=rfl
theorem z1p {w:W}{xs:List (W ⊕ Nat)}:zbo (.inl w::xs)=(zbo xs).bind λws=>some (w::ws):=rfl
theorem zzz:zbo []=some []:=rfl
theorem z8e {en:En}{x:W ⊕ Nat}{xs:List (W ⊕ Nat)}:za6 en (x::xs)=(resA en x).bind λw=>(za6 en xs).bind λws=>some (w::ws):=rfl
theorem z77 {en:En}:za6 en []=some []:=rfl
theorem z7n {b:Bool}{m:List Bool}{w:W}{ws:List W}:za3 (b::m) (w::ws)=some (w,b)::za3 m ws:=rfl
theorem z7g {ws:List W}:za3 [] ws=[]:=by unfold za3;simp
theorem z9m {en:En}:zb9 [] [] en=some []:=rfl
theorem ybt {m:List Bool}{w u:W}{ws:List W}{en:En}:zb9 (true::m) (u::ws) (#v[w,5]::en)=(zb9 m ws en).bind λr=>some (w::r):=rfl
theorem z97 {m:List Bool}{w:W}{ws:List W}{x:Option (W × Bool)}{en:En}:zb9 (false::m) (w::ws) (x::en)=(zb9 m ws en).bind λr=>some (w::r):=rfl
theorem ydj {x:W}{xs:List W}:atI (x::xs) 0=some x:=by
 have:=zbr (xs:=x::xs) (i:=0) rfl;exact this
theorem yef {x y:W}{xs:List W}:atI (x::y::xs) 1=some y:=by
 have:=zbr (xs:=x::y::xs) (i:=1) rfl;exact this
theorem ydb {x y z:W}{xs:List W}:atI (x::y::z::xs) 2=some z:=by
 have:=zbr (xs:=x::y::z::xs) (i:=2) rfl;exact this
theorem z0p {n:Nat}:((no_index (OfNat.ofNat n):Nat):Int)=(OfNat.ofNat n:Int):=rfl
theorem z3e {xs ys:List W}:oAdd (.lst xs) (.lst ys)=if xs.length+ys.length<=sizeLine then #v[(xs++ys),2] else none:=by
 by_cases h:xs.length+ys.length<=sizeLine
 ·rw[if_pos h];exact z5b h
 ·rw [if_neg h];show oOr oCat (oOr z2e (oOr z4o z0o)) (.lst xs) (.lst ys)=none;have e:oCat (.lst xs) (.lst ys)=none:=by
   show (if xs.length+ys.length<=sizeLine then _ else none)=none;rw[if_neg h]
  unfold oOr;rw[e]
  rfl
theorem zpr:oIsi .int .non=some #v[1,8]:=rfl
theorem ztq {b:Bool}:oIsi .int (.bl b)=some #v[9,10]:=rfl
theorem zod {n:Int}:oIsi .int (.int n)=some #v[9,10]:=rfl
theorem zog {x:Str}:oIsi .int (.str x)=some #v[1,8]:=rfl
theorem zn9 {xs:List W}:oIsi .int (.tup xs)=some #v[1,8]:=rfl
theorem zn4 {xs:List W}:oIsi .int (.lst xs)=some #v[1,8]:=rfl
theorem zny:oIsi .int .dic=some #v[1,8]:=rfl
theorem zm9:oIsi .bool .non=some #v[1,8]:=rfl
theorem zpo {b:Bool}:oIsi .bool (.bl b)=some #v[9,10]:=rfl
theorem zlg {n:Int}:oIsi .bool (.int n)=some #v[1,8]:=rfl
theorem zmf {x:Str}:oIsi .bool (.str x)=some #v[1,8]:=rfl
theorem zkk {xs:List W}:oIsi .bool (.tup xs)=some #v[1,8]:=rfl
theorem zlz {xs:List W}:oIsi .bool (.lst xs)=some #v[1,8]:=rfl
theorem zku:oIsi .bool .dic=some #v[1,8]:=rfl
theorem zpk:oIsi .str .non=some #v[1,8]:=rfl
theorem zs7 {b:Bool}:oIsi .str (.bl b)=some #v[1,8]:=rfl
theorem znv {n:Int}:oIsi .str (.int n)=some #v[1,8]:=rfl
theorem zob {x:Str}:oIsi .str (.str x)=some #v[9,10]:=rfl
theorem zoj {xs:List W}:oIsi .str (.tup xs)=some #v[1,8]:=rfl
theorem zow {xs:List W}:oIsi .str (.lst xs)=some #v[1,8]:=rfl
theorem znx:oIsi .str .dic=some #v[1,8]:=rfl
theorem zi4:oIsi .tuple .non=some #v[1,8]:=rfl
theorem zll {b:Bool}:oIsi .tuple (.bl b)=some #v[1,8]:=rfl
theorem zjk {n:Int}:oIsi .tuple (.int n)=some #v[1,8]:=rfl
theorem zjv {x:Str}:oIsi .tuple (.str x)=some #v[1,8]:=rfl
theorem zji {xs:List W}:oIsi .tuple (.tup xs)=some #v[9,10]:=rfl
theorem zj4 {xs:List W}:oIsi .tuple (.lst xs)=some #v[1,8]:=rfl
theorem zj9:oIsi .tuple .dic=some #v[1,8]:=rfl
theorem zl4:oIsi .list .non=some #v[1,8]:=rfl
theorem znn {b:Bool}:oIsi .list (.bl b)=some #v[1,8]:=rfl
theorem zki {n:Int}:oIsi .list (.int n)=some #v[1,8]:=rfl
theorem zln {x:Str}:oIsi .list (.str x)=some #v[1,8]:=rfl
theorem zl6 {xs:List W}:oIsi .list (.tup xs)=some #v[1,8]:=rfl
theorem zkt {xs:List W}:oIsi .list (.lst xs)=some #v[9,10]:=rfl
theorem zm5:oIsi .list .dic=some #v[1,8]:=rfl
theorem ydr {i j:Bool}:oEq (.bl i) (.bl j)=some (.bl (decide (i=j)),false):=rfl
theorem yd4 {i j:Bool}:oNe (.bl i) (.bl j)=some (.bl (!decide (i=j)),false):=rfl
theorem yd6 {i j:Str}:oEq (.str i) (.str j)=some (.bl (decide (i=j)),false):=rfl
theorem ydy {i j:Str}:oNe (.str i) (.str j)=some (.bl (!decide (i=j)),false):=rfl
theorem yed {i j:Bool}:oIs (.bl i) (.bl j)=some (.bl (decide (i=j)),false):=rfl
theorem ybd {f:List Bool->Bool}{bs:List Bool}:oBl f [.lst (bs.map W.bl)]=some (.bl (f bs),false):=by
 show (zns (bs.map W.bl)).bind _=_;rw[zld];rfl
theorem zk9 {cap:Cap}{it:GL}{te:GE}{en e0:En}{ws rs:List W}{xs:En} (hi:it en=some (e0,ws)) (hz:ws.length<=1000) (hl:rs.length=ws.length) (hn:zbx cap=true) (hk:(capKeep cap).contains 1=false) (hx:zfj cap e0=none::none::xs) (hb:∀v0 v1,zam cap e0 (v0::v1::xs)=e0)
  (ht:∀(i:Nat) v0 w r,ws[i]?=some w->rs[i]?=some r->∃u f,te (v0::#v[w,6]::xs)=some (v0::u::xs,(r,f))) :
  za9 cap (.nm 1) it gYes te en=some (e0,(.lst rs,true)):=by
 have s9:(1000:Nat)<=sizeLine:=by decide
 obtain⟨ce',out,hc,hp⟩:=zdd (cap:=cap) (T:=.nm 1) (tc:=gYes) (te:=te) (λi c dn=>(∃v0 v1,c=v0::v1::xs)/\dn=rs.take i) hi hn #v[] ⟨⟨_,_,hx⟩,rfl⟩
  (λi w c dn hw hp=>by
   obtain⟨⟨v0,v1,rfl⟩,rfl⟩:=hp;have lt:i<ws.length:=(Ak.mp hw).1;have hr:rs[i]?=some rs[i]:=Ae #v[];obtain⟨u,f,h⟩:=ht i v0 w _ hw hr;refine⟨v0::#v[w,6]::xs,?_,.inl ⟨_,_,_,rfl,h,⟨_,_,rfl⟩,?_⟩⟩
   ·show (if (capKeep cap).contains 1 || !decide (1<(v0 :: v1 :: xs).length) then none else _) = _;rw[hk,Am (by rw[Bc,Bc];omega)]
    rfl
   ·show rs.take i ++ [rs[i]] = rs.take (i + 1);rw[Ev,hr];rfl)
 obtain⟨⟨v0,v1,rfl⟩,rfl⟩:=hp;rw[hb,<-hl,Ff] at hc;exact hc
theorem zax {T:List Fd}{bn:List Str}{d:Nat}{x:Str}{t:Fd}{g:GS}(h:T.find? (·.nm == x)=some t)(hb:zai T bn (sem T bn (d+2)) (d+2) t=some g):sem T bn (d+3) x=zac t.m t.N.length g:=by
 show (match T.find? (·.nm == x) with|some t=>fnAt T bn (sem T bn (d+2)) (d+2) t|none=>λ_=>none)=_;rw[h];show fnAt T bn (sem T bn (d+2)) (d+2) t=_;unfold fnAt;rw[hb]
noncomputable def evA:=And.intro @oI_e ( And.intro @yac ( And.intro @zoc ( And.intro @z3e ( And.intro @z1k ( And.intro @zz6 ( And.intro @z27 ( And.intro @ydn ( And.intro @ybx ( And.intro @yaq ( And.intro @yd2 ( And.intro @ycr ( And.intro @ydr ( And.intro @yd4 ( And.intro @yd6 ( And.intro @ydy ( And.intro @yed ( And.intro @ybd ( And.intro @z1p ( And.intro @zzz ( And.intro @z8e ( And.intro @z77 ( And.intro @z7n ( And.intro @z7g ( And.intro @z9m ( And.intro @ybt ( And.intro @z97 ( And.intro (λΦ as en=>zcv [false] Φ as en rfl) ( And.intro (λΦ as en=>zcv [false,false] Φ as en rfl) ( And.intro (λΦ as en=>zcv [false,false,false] Φ as en rfl) ( And.intro (λΦ as en=>zcv [false,false,false,false] Φ as en rfl) ( And.intro (λΦ as en=>zde [] Φ as en rfl) ( And.intro (λΦ as en=>zde [false] Φ as en rfl) ( And.intro (λΦ as en=>zde [false,false] Φ as en rfl) ( And.intro (λΦ as en=>zde [false,false,false] Φ as en rfl) ( And.intro @ydj ( And.intro @yef ( And.intro @ydb ( And.intro @sizeLine_eq ( And.intro @zpr ( And.intro @ztq ( And.intro @zod ( And.intro @zog ( And.intro @zn9 ( And.intro @zn4 ( And.intro @zny ( And.intro @zm9 ( And.intro @zpo ( And.intro @zlg ( And.intro @zmf ( And.intro @zkk ( And.intro @zlz ( And.intro @zku ( And.intro @zpk ( And.intro @zs7 ( And.intro @znv ( And.intro @zob ( And.intro @zoj ( And.intro @zow ( And.intro @znx ( And.intro @zi4 ( And.intro @zll ( And.intro @zjk ( And.intro @zjv ( And.intro @zji ( And.intro @zj4 ( And.intro @zj9 ( And.intro @zl4 ( And.intro @znn ( And.intro @zki ( And.intro @zln ( And.intro @zl6 ( And.intro @zkt ( And.intro @zm5 ( And.intro @z0p ( And.intro @Option.bind_some.{0,0} ( And.intro @Option.bind_none.{0,0} ( And.intro @List.length_cons.{0} ( And.intro @List.length_nil.{0} ( And.intro @List.getElem?_cons_zero.{0} ( And.intro @List.getElem?_cons_succ.{0} ( And.intro @List.set_cons_zero.{0} ( And.intro @List.set_cons_succ.{0} ( And.intro @List.nil_append.{0} ( And.intro @List.cons_append.{0} ( And.intro @List.contains_nil.{0} ( And.intro @Bool.false_or ( And.intro @Bool.or_false ( And.intro @Bool.not_true ( And.intro @Fb ( And.intro @Cf ( And.intro @Nat.lt_add_one ( And.intro @Nat.zero_lt_succ ( And.intro @decide_true ( And.intro @decide_false ( And.intro @Eo ( And.intro @List.elem_nil.{0} ( And.intro @List.elem_cons.{0} ( And.intro @Bt ( And.intro @Bool.true_eq_false ( And.intro @Bool.or_self ( And.intro @Bool.and_self ( And.intro @Bool.true_and ( And.intro @Ea ( And.intro @Fs ( And.intro @Fc ( And.intro @Bool.true_or ( And.intro @Bool.or_true ( And.intro @Cy ( And.intro @gVar.eq_1 ( And.intro @zaa.eq_1 ( And.intro @gC.eq_1 ( And.intro @gArg.eq_1 ( And.intro @gA0.eq_1 ( And.intro @gCns.eq_1 ( And.intro @gOp1.eq_1 ( And.intro @gOp2.eq_1 ( And.intro @gOpN.eq_1 ( And.intro @zaj.eq_1 ( And.intro @gAnd.eq_1 ( And.intro @gOr.eq_1 ( And.intro @gNot.eq_1 ( And.intro @zht.eq_1 ( And.intro @gOrT.eq_1 ( And.intro @ztb.eq_1 ( And.intro @gIf.eq_1 ( And.intro @zbq.eq_1 ( And.intro @zaz.eq_1 ( And.intro @ya8.eq_1 ( And.intro @zb5.eq_1 ( And.intro @zg6.eq_1 ( And.intro @gSl.eq_1 ( And.intro @zar.eq_1 ( And.intro @zbp.eq_1 ( And.intro @zya.eq_1 ( And.intro @gRev.eq_1 ( And.intro @zc1.eq_1 ( And.intro @gBrk.eq_1 ( And.intro @gCnt.eq_1 ( And.intro @gSeq.eq_1 ( And.intro @gRet.eq_1 ( And.intro @ydk.eq_1 ( And.intro @gIfS.eq_1 ( And.intro @zdr.eq_1 ( And.intro @gSet.eq_1 ( And.intro @gAsg.eq_1 ( And.intro @gPar.eq_1 ( And.intro @zbb.eq_1 ( And.intro @gApp.eq_1 ( And.intro @gExt.eq_1 ( And.intro @gAug.eq_1 ( And.intro @gYes.eq_1 ( And.intro @zcd.eq_1 ( And.intro @gZip.eq_1 ( And.intro @ztk.eq_1 ( And.intro @zac.eq_1 ( And.intro @ydv.eq_1 (@yct.eq_1)))))))))))))))))))))))))))))))))))))))))))))))))))))))))))))))))))))))))))))))))))))))))))))))))))))))))))))))))))))))))))))))))))))))))))))))))))))))))))))
end L2
local macro_rules | `(tactic| simp! [$xs,*])=>`(tactic| simp only [L2.evA,L2.tgSet,L2.keyW,L2.oNeg,L2.oLen,L2.setAll,List.replicate,List.contains,eq_self,Nat.reduceAdd,Nat.reduceSub,Nat.reduceLT,Nat.reduceLeDiff,reduceIte,reduceCtorEq,Nat.reduceEqDiff,Nat.reduceBEq,↓reduceIte,Int.reduceEq,Int.reduceLE,Int.reduceLT,Int.reduceAdd,Int.reduceSub,Int.reduceMul,Int.reduceNeg,$xs,*])
namespace L2
open PySem PySem.Spec PyProof.Rows
noncomputable def zw9 (Ψ:Str->Fn):GE:=za9 [none,none,some 3] (.nm 1) (zar (gVar 2)) gYes (gOp2 oAdd (zaa 1) (gArg (zbq #v[9,9])))
noncomputable def zyp (Ψ:Str->Fn):GS:=(gSet [] 2 (gOp2 oAdd (zaa 2) (gArg (zw9 Ψ))))
noncomputable def zzb (Ψ:Str->Fn):GS:=gFor [] (.nm 3) (zbp (gCns (zaa 0) gA0)) (zyp Ψ)
noncomputable def zw7 (Ψ:Str->Fn):GE:=za9 [none,none,some 1] (.nm 1) (zar (gVar 2)) (zaj (gOp2 (oI yes2 λi j=>.bl (decide (i<=j))) (gArg (gOpN oLen (gCns (zaa 1) gA0))) (zaa 2))) (gVar 1)
noncomputable def zqp (Ψ:Str->Fn):GS:=(gSeq (gSet [] 2 (zaz (gCns (gArg (zbq gA0)) gA0))) (gSeq (zzb Ψ) (gRet (zru (zbq (gCns #v[5,10] (gCns #v[0,4] gA0))) (gArg (zw7 Ψ))))))
noncomputable def ze8 (Ψ:Str->Fn):GE:=za9 [none,none,some 2] (.nm 1) (zar (gVar 1)) gYes (gOp2 oEq (gArg (gOp2 #v[0,0,2] (gArg (gOp2 #v[0,0,3] (zaa 2) (gArg (gOp2 #v[0,0,1] #v[1] (zaa 1))))) #v[2])) #v[1])
noncomputable def ze9 (Ψ:Str->Fn):GE:=za9 [none,none,some 3] (.nm 1) (zar (gVar 1)) (zaj (gOpN (oBl λbs=>bs.all id) (gCns (gArg (ze8 Ψ)) gA0))) (gVar 1)
noncomputable def zdn (Ψ:Str->Fn):GS:=(gSeq (gSet [] 4 (ze9 Ψ)) (zdr (gApp 2 (gOp2 #v[0,0,2] (gArg (gOpN oLen (gCns (zaa 4) gA0))) #v[2]))))
noncomputable def ze7 (Ψ:Str->Fn):GS:=gFor [] (.nm 3) (zbp (gCns (gArg (gOp2 #v[0,0,1] #v[1] (zaa 0))) gA0)) (zdn Ψ)
noncomputable def zkw (Ψ:Str->Fn):GS:=(gSeq (gSet [] 2 (zaz gA0)) (gSeq (ze7 Ψ) (zcd [] 2)))
noncomputable def zjr (Ψ:Str->Fn):GE:=za9 [none,none,none] (.tp [1,2]) (gZip (gVar 3) (zab [true,false] (Ψ "_law_bits") (gCns (zaa 0) (gCns (gArg (gOpN oLen (gCns (zaa 3) gA0))) gA0)))) (zaj (gOp2 oEq (zaa 2) #v[1])) (gVar 1)
noncomputable def zvp (Ψ:Str->Fn):GS:=(gSeq (gSet [0] 3 (zab [false,false] (Ψ "_law_terms") (gCns #v[1,4] #v[9,9]))) (gRet (gOpN zbc (gCns (gArg (zjr Ψ)) gA0))))
noncomputable def tmW (t:List Nat):W:=.tup (t.map λl=>.int (l:Nat))
noncomputable def zw6:Nat->Nat->Nat->Nat->List (List Nat)
 |_,_,_,0=>[[]]
 |0,_,_,_+1=>[]
 |fu+1,lo,m,k+1=>(if lo<m then (zw6 fu (lo+1) m k).map (lo :: ·)++zw6 fu (lo+1) m (k+1) else [])
noncomputable def zae (m most:Nat):List (List Nat):=(List.range (most+1)).flatMap λk=>zw6 (m+1) 0 m k
noncomputable def zyl (Φ:Fn):Prop:=∀m most:Nat,m<=6->most<=6->Φ [.int m,.int most]=some ([.int m,.int most],(.lst ((zae m most).map tmW),true))
noncomputable def tmP (Ψ:Str->Fn) (m k:Nat):Prop:=zac [false,false] 4 (zqp Ψ) [.int (m:Int),.int (k:Int)]=some ([.int (m:Int),.int (k:Int)],(.lst ((zae m k).map tmW),true))
theorem tm0 (Ψ:Str->Fn):tmP Ψ 0 0/\tmP Ψ 0 1/\tmP Ψ 0 2/\tmP Ψ 0 3/\tmP Ψ 0 4/\tmP Ψ 0 5/\tmP Ψ 0 6:=by
 unfold tmP;refine⟨?_,?_,?_,?_,?_,?_,?_⟩<;>kernel_rfl
theorem tm1 (Ψ:Str->Fn):tmP Ψ 1 0/\tmP Ψ 1 1/\tmP Ψ 1 2/\tmP Ψ 1 3/\tmP Ψ 1 4/\tmP Ψ 1 5/\tmP Ψ 1 6:=by
 unfold tmP;refine⟨?_,?_,?_,?_,?_,?_,?_⟩<;>kernel_rfl
theorem tm2 (Ψ:Str->Fn):tmP Ψ 2 0/\tmP Ψ 2 1/\tmP Ψ 2 2/\tmP Ψ 2 3/\tmP Ψ 2 4/\tmP Ψ 2 5/\tmP Ψ 2 6:=by
 unfold tmP;refine⟨?_,?_,?_,?_,?_,?_,?_⟩<;>kernel_rfl
theorem tm3 (Ψ:Str->Fn):tmP Ψ 3 0/\tmP Ψ 3 1/\tmP Ψ 3 2/\tmP Ψ 3 3/\tmP Ψ 3 4/\tmP Ψ 3 5/\tmP Ψ 3 6:=by
 unfold tmP;refine⟨?_,?_,?_,?_,?_,?_,?_⟩<;>kernel_rfl
theorem tm4 (Ψ:Str->Fn):tmP Ψ 4 0/\tmP Ψ 4 1/\tmP Ψ 4 2/\tmP Ψ 4 3/\tmP Ψ 4 4/\tmP Ψ 4 5/\tmP Ψ 4 6:=by
 unfold tmP;refine⟨?_,?_,?_,?_,?_,?_,?_⟩<;>kernel_rfl
theorem tm5 (Ψ:Str->Fn):tmP Ψ 5 0/\tmP Ψ 5 1/\tmP Ψ 5 2/\tmP Ψ 5 3/\tmP Ψ 5 4/\tmP Ψ 5 5/\tmP Ψ 5 6:=by
 unfold tmP;refine⟨?_,?_,?_,?_,?_,?_,?_⟩<;>kernel_rfl
theorem tm6 (Ψ:Str->Fn):tmP Ψ 6 0/\tmP Ψ 6 1/\tmP Ψ 6 2/\tmP Ψ 6 3/\tmP Ψ 6 4/\tmP Ψ 6 5/\tmP Ψ 6 6:=by
 unfold tmP;refine⟨?_,?_,?_,?_,?_,?_,?_⟩<;>kernel_rfl
theorem z26 (Ψ:Str->Fn):zyl (zac [false,false] 4 (zqp Ψ)):=λm k hm hk=>by
 match m,k,hm,hk with
 |0,0,_,_=>exact (tm0 Ψ).1
 |0,1,_,_=>exact (tm0 Ψ).2.1
 |0,2,_,_=>exact (tm0 Ψ).2.2.1
 |0,3,_,_=>exact (tm0 Ψ).2.2.2.1
 |0,4,_,_=>exact (tm0 Ψ).2.2.2.2.1
 |0,5,_,_=>exact (tm0 Ψ).2.2.2.2.2.1
 |0,6,_,_=>exact (tm0 Ψ).2.2.2.2.2.2
 |1,0,_,_=>exact (tm1 Ψ).1
 |1,1,_,_=>exact (tm1 Ψ).2.1
 |1,2,_,_=>exact (tm1 Ψ).2.2.1
 |1,3,_,_=>exact (tm1 Ψ).2.2.2.1
 |1,4,_,_=>exact (tm1 Ψ).2.2.2.2.1
 |1,5,_,_=>exact (tm1 Ψ).2.2.2.2.2.1
 |1,6,_,_=>exact (tm1 Ψ).2.2.2.2.2.2
 |2,0,_,_=>exact (tm2 Ψ).1
 |2,1,_,_=>exact (tm2 Ψ).2.1
 |2,2,_,_=>exact (tm2 Ψ).2.2.1
 |2,3,_,_=>exact (tm2 Ψ).2.2.2.1
 |2,4,_,_=>exact (tm2 Ψ).2.2.2.2.1
 |2,5,_,_=>exact (tm2 Ψ).2.2.2.2.2.1
 |2,6,_,_=>exact (tm2 Ψ).2.2.2.2.2.2
 |3,0,_,_=>exact (tm3 Ψ).1
 |3,1,_,_=>exact (tm3 Ψ).2.1
 |3,2,_,_=>exact (tm3 Ψ).2.2.1
 |3,3,_,_=>exact (tm3 Ψ).2.2.2.1
 |3,4,_,_=>exact (tm3 Ψ).2.2.2.2.1
 |3,5,_,_=>exact (tm3 Ψ).2.2.2.2.2.1
 |3,6,_,_=>exact (tm3 Ψ).2.2.2.2.2.2
 |4,0,_,_=>exact (tm4 Ψ).1
 |4,1,_,_=>exact (tm4 Ψ).2.1
 |4,2,_,_=>exact (tm4 Ψ).2.2.1
 |4,3,_,_=>exact (tm4 Ψ).2.2.2.1
 |4,4,_,_=>exact (tm4 Ψ).2.2.2.2.1
 |4,5,_,_=>exact (tm4 Ψ).2.2.2.2.2.1
 |4,6,_,_=>exact (tm4 Ψ).2.2.2.2.2.2
 |5,0,_,_=>exact (tm5 Ψ).1
 |5,1,_,_=>exact (tm5 Ψ).2.1
 |5,2,_,_=>exact (tm5 Ψ).2.2.1
 |5,3,_,_=>exact (tm5 Ψ).2.2.2.1
 |5,4,_,_=>exact (tm5 Ψ).2.2.2.2.1
 |5,5,_,_=>exact (tm5 Ψ).2.2.2.2.2.1
 |5,6,_,_=>exact (tm5 Ψ).2.2.2.2.2.2
 |6,0,_,_=>exact (tm6 Ψ).1
 |6,1,_,_=>exact (tm6 Ψ).2.1
 |6,2,_,_=>exact (tm6 Ψ).2.2.1
 |6,3,_,_=>exact (tm6 Ψ).2.2.2.1
 |6,4,_,_=>exact (tm6 Ψ).2.2.2.2.1
 |6,5,_,_=>exact (tm6 Ψ).2.2.2.2.2.1
 |6,6,_,_=>exact (tm6 Ψ).2.2.2.2.2.2
 |m+7,_,h,_=>omega
 |_,k+7,_,h=>omega
theorem z55 {α:Type}{cap:Cap}{it:GL}{tc:GT}{te:GE}{en e0:En}{ts:List α}{xs:En} (f:α->W) (p:α->Bool) (g:α->W) (hi:it en=some (e0,ts.map f)) (hz:ts.length<=1000) (hn:zbx cap=true) (hk:(capKeep cap).contains 1=false) (hx:zfj cap e0=none::none::xs) (hb:∀v0 v1,zam cap e0 (v0::v1::xs)=e0)
    (ht:∀v0 a,a∈ts->∃u,tc (v0::#v[f a,6]::xs)=some (v0::u::xs,p a)/\(p a=true->∃u' b,te (v0::u::xs)=some (v0::u' :: xs,(g a,b)))) :
    za9 cap (.nm 1) it tc te en=some (e0,(.lst ((ts.filter p).map g),true)):=by
  have s9:(1000:Nat)<=sizeLine:=by decide
  obtain ⟨ce',out,hc,hp⟩:=zdd (cap:=cap) (T:=.nm 1) (tc:=tc) (te:=te) (fun i c dn=>(∃v0 v1,c=v0::v1::xs)/\dn=((ts.take i).filter p).map g) hi hn (by rw [Ab];omega) ⟨⟨_,_,hx⟩,rfl⟩
    (fun i w c dn hw hp=>by
      obtain⟨⟨v0,v1,rfl⟩,rfl⟩:=hp;rw[Ai] at hw;cases ha:ts[i]? with
      |none=>rw[ha] at hw;exact noSome hw
      | some a =>
        rw[ha] at hw;obtain rfl:=sI hw;obtain⟨u,h1,h2⟩:=ht v0 a (Bn ha);have tk:ts.take (i+1)=ts.take i++[a]:=by rw[Ev,ha];rfl
        refine⟨v0::#v[f a,6]::xs,?_,?_⟩
        · show (if (capKeep cap).contains 1 || !decide (1 < (v0 :: v1 :: xs).length) then none else _) = _
          rw[hk,Am (by rw[Bc,Bc];omega)]
          rfl
        · cases q : p a with
          | true =>
            obtain⟨u',b,h3⟩:=h2 q;rw[q] at h1;refine .inl ⟨_,_,_,h1,h3,⟨_,_,rfl⟩,?_⟩;rw[tk,Ee,Cc,Fx q];rfl
          | false =>
            rw[q] at h1;refine .inr ⟨_,h1,⟨_,_,rfl⟩,?_⟩;rw[tk,Ee,Fy (by rw[q];decide),Ej,By])
  obtain⟨⟨v0,v1,rfl⟩,rfl⟩:=hp;rw[hb,Ab,Ff] at hc;exact hc
theorem zp7 {a:GA}{en e1:En}{n:Nat}(h:a en=some (e1,.inl (.int (n:Nat))))(hn:n<=1000000):zbp (gCns a gA0) en=some (e1,rngW 0 n):=by
 have r:zc6 (n:Int)=true:=by
  unfold zc6;rw[Am #v[],Am #v[]];rfl
 have h2:gCns a gA0 en=some (e1,[.inl (.int (n:Nat))]):=by unfold gCns;rw[h];rfl
 have:=zy7 h2 rfl r;rw[Cy] at this;exact this
theorem pow1 {l:Nat}(h:l<=100):cPow 1 (l:Int)=true:=by
 unfold cPow;rw[Am #v[],Am #v[]];rfl
theorem zdw (l:Nat):(1:Int) * 2 ^ l=((2 ^ l:Nat):Int):=by rw[Int.one_mul];norm_cast
theorem z0w (l:Nat):(((2 ^ l:Nat):Int)).natAbs.log2=l:=by
 rw[Int.natAbs_natCast];exact Nat.log2_two_pow
theorem divP {p:Int}{l:Nat}(h:l<=100):cDiv p ((2 ^ l:Nat):Int)=true:=by
 unfold cDiv;have:0<2 ^ l:=Nat.pow_pos #v[0,9];rw[Am #v[],Am (by rw[z0w];omega)];rfl
noncomputable def hasT (t:List Nat) (p:Nat):Bool:=t.all λl=>decide (p / 2 ^ l % 2=1)
noncomputable def valF (ts:List (List Nat)) (p:Nat):Int:=(((ts.filter λt=>hasT t p).length % 2:Nat):Int)
theorem c1v {Ψ:Str->Fn}{v0:Option (W × Bool)}{t:List Nat}{p:Nat} (h6:∀l∈t,l < 64) (hl:t.length<=64):ze8 Ψ [v0,some (tmW t,false),some (.int (p:Nat),false)]=some ([v0,some (tmW t,false),some (.int (p:Nat),false)],(.lst ((t.map fun l=>decide (p / 2 ^ l % 2=1)).map W.bl),true)):=by
  unfold ze8;refine zk9 (xs:=[#v[(p:Nat),0]]) (e0:=[v0,#v[tmW t,6],#v[(p:Nat),0]]) (ws:=t.map λl=>.int (l:Nat)) (by unfold tmW;simp! []) (by rw[Ab];omega) (by rw[Ab,Ab,Ab]) rfl rfl rfl (λ_ _=>rfl) λi v0 w r hw hr=>?_;rw[Ai] at hw;rw[Ai,Ai] at hr;cases ha:t[i]? with
  |none=>rw[ha] at hw;exact noSome hw
  | some l =>
    rw [ha] at hw hr;obtain rfl:=sI hw;obtain rfl:=sI hr;have ll:=h6 l (Bn ha);have e1:=pow1 (l:=l) (by omega);have e2:=divP (p:=(p:Int)) (l:=l) (by omega);have e3:((p:Int) / ((2 ^ l:Nat):Int) % 2=1)=(p / 2 ^ l % 2=1):=by
      rw[<-Int.natCast_ediv];apply propext;constructor<;>intro h<;>omega
    refine⟨#v[(l:Nat),0],false,?_⟩;simp! [e1,zdw,e2,e3]
theorem c2v {Ψ:Str->Fn}{a c e:Option (W × Bool)}{ts:List (List Nat)}{p:Nat}(h6:∀t∈ts,∀l∈t,l<64)(hl:∀t∈ts,t.length<=64)(hz:ts.length<=64):ze9 Ψ [a,#v[(ts.map tmW),3],c,#v[(p:Nat),0],e]=some ([a,#v[(ts.map tmW),3],c,#v[(p:Nat),0],e],(.lst ((ts.filter λt=>hasT t p).map tmW),true)):=by
 unfold ze9;refine z55 (xs:=[#v[(p:Nat),0]]) tmW (λt=>hasT t p) tmW (e0:=[a,#v[(ts.map tmW),3],c,#v[(p:Nat),0],e]) (by simp! []) #v[] rfl rfl rfl (λ_ _=>rfl) λv0 t ht=>?_;have c1:=c1v (Ψ:=Ψ) (v0:=v0) (t:=t) (p:=p) (h6 t ht) (hl t ht);have al:(t.map λl=>decide (p / 2 ^ l % 2=1)).all id=hasT t p:=by unfold hasT;rw[List.all_map];rfl
 refine⟨#v[tmW t,6],?_,λ_=>⟨#v[tmW t,6],false,?_⟩⟩
 ·simp! [c1,al]
 ·simp! []
noncomputable def zrz (Φ:Fn):Prop:=∀(m:Nat) (ts:List (List Nat)),m<=6->ts.length<=64->(∀t∈ts,∀l∈t,l<64)->(∀t∈ts,t.length<=64)->Φ [.int (m:Nat),.tup (ts.map tmW)]=some ([.int (m:Nat),.tup (ts.map tmW)],(.lst ((tab (2 ^ m) (valF ts)).map W.int),true))
theorem zd3 {m:Nat}(h:m<=6):2 ^ m<=64:=Eu #v[0,9] h
theorem b3v {Ψ:Str->Fn}{m i:Nat}{ts:List (List Nat)}{v4:Option (W × Bool)}(hi:i<=64)(hz:ts.length<=64)(h6:∀t∈ts,∀l∈t,l<64)(hl:∀t∈ts,t.length<=64):zdn Ψ [#v[(m:Nat),0],#v[(ts.map tmW),3],#v[((tab i (valF ts)).map W.int),2],#v[(i:Nat),0],v4]=some ([#v[(m:Nat),0],#v[(ts.map tmW),3],#v[((tab (i+1) (valF ts)).map W.int),2],#v[(i:Nat),0],#v[((ts.filter λt=>hasT t i).map tmW),2]],.nx):=by
 have c2:=c2v (Ψ:=Ψ) (a:=#v[(m:Nat),0]) (c:=#v[((tab i (valF ts)).map W.int),2]) (e:=v4) (ts:=ts) (p:=i) h6 hl hz;have lt:(tab i (valF ts)).length<16777216:=by rw[zas];omega
 have em:(((ts.filter λt=>hasT t i).length:Nat):Int) % 2=valF ts i:=by unfold valF;omega
 rw[zrh i,Cc];unfold zdn;simp! [c2,Ab,em,lt,Ah,List.map_nil]
theorem i3v {m:Nat}{b c d e:Option (W × Bool)}(hm:m<=6):zbp (gCns (gArg (gOp2 #v[0,0,1] #v[1] (zaa 0))) gA0) [#v[(m:Nat),0],b,c,d,e]=some ([#v[(m:Nat),0],b,c,d,e],rngW 0 (2 ^ m)):=by
 have p6:=zd3 hm;have e1:=pow1 (l:=m) #v[];refine zp7 ?_ #v[];simp! [e1,zdw]
theorem l3v {Ψ:Str->Fn}{m:Nat}{ts:List (List Nat)}(hm:m<=6)(hz:ts.length<=64)(h6:∀t∈ts,∀l∈t,l<64)(hl:∀t∈ts,t.length<=64):∃v3 v4,ze7 Ψ [#v[(m:Nat),0],#v[(ts.map tmW),3],#v[[],2],none,none]=some ([#v[(m:Nat),0],#v[(ts.map tmW),3],#v[((tab (2 ^ m) (valF ts)).map W.int),2],v3,v4],.nx):=by
 have p6:=zd3 hm;unfold ze7;obtain⟨en',h,v3,v4,rfl⟩:=zbu (mp:=[]) (T:=.nm 3) (body:=zdn Ψ) (λi e=>∃v3 v4,e=[#v[(m:Nat),0],#v[(ts.map tmW),3],#v[((tab i (valF ts)).map W.int),2],v3,v4]) (i3v (m:=m) (b:=#v[(ts.map tmW),3]) (c:=#v[[],2]) (d:=none) (e:=none) hm) ⟨_,_,rfl⟩ λi w e hw hp=>by
  obtain⟨v3,v4,rfl⟩:=hp;obtain⟨li,rfl⟩:=zcp hw;rw[Gh];exact⟨_,_,rfl,.inl (b3v #v[] hz h6 hl),_,_,rfl⟩
 rw[zco] at h;exact⟨v3,v4,h⟩
theorem zx4 (Ψ:Str->Fn):zrz (zac [false,false] 5 (zkw Ψ)):=λm ts hm hz h6 hl=>by
 obtain⟨v3,v4,lp⟩:=l3v (Ψ:=Ψ) hm hz h6 hl;unfold zkw;simp! [lp]
theorem z90 {xs ys:List W}{i:Nat}{w:W}(h:(zipW xs ys)[i]?=some w):∃x y,xs[i]?=some x/\ys[i]?=some y/\w=.tup [x,y]:=by
 have l:=(Ak.mp h).1;rw[zd6] at l;have hx:xs[i]?=some xs[i]:=Ae #v[];have hy:ys[i]?=some ys[i]:=Ae #v[];rw[zjy hx hy] at h;obtain rfl:=sI h;exact⟨_,_,hx,hy,rfl⟩
noncomputable def z4a (Φ:Fn):Prop:=∀(k:Nat) (st:W) (m most:Nat),HS k st->k+100<big->m<=6->most<=6->∃(st' : W) (ts:List (List Nat)),Φ [st,.int (m:Nat),.int (most:Nat)]=some ([st',.int (m:Nat),.int (most:Nat)],(.tup (ts.map tmW),false))/\HS (k+66) st'/\ts.Sublist (zae m most)
theorem zhc:∀m most:Fin 7,(zae m.val most.val).length<=64/\∀t∈zae m.val most.val,t.length<=6/\∀l∈t,l<m.val:=by decide +kernel
theorem zd9 {m most:Nat}(hm:m<=6)(hk:most<=6):(zae m most).length<=64/\∀t∈zae m most,t.length<=6/\∀l∈t,l<m:=zhc ⟨m,by omega⟩ ⟨most,by omega⟩
theorem z5u {Ψ:Str->Fn} (hT:zyl (Ψ "_law_terms")) (hB:z3p (Ψ "_law_bits")):z4a (zac [true,false,false] 4 (zvp Ψ)):=fun k st m most hs hk hm ho=>by
  have s9:(1000:Nat)<=sizeLine:=by decide
  obtain⟨tl,_⟩:=zd9 hm ho;have t1:=hT m most hm ho;nofun;obtain⟨st',xs,b1,g1,xl,xb⟩:=hB k st ((zae m most).length:Nat) hs hk #v[] #v[];ac_rfl;have lx:xs.length=(zae m most).length:=by omega
  have cc:∃ts:List (List Nat),zjr Ψ #v[8,11]=some (#v[6,11],(.lst (ts.map tmW),true))/\ts.Sublist (zae m most):=by
    unfold zjr;obtain ⟨ce',out,hc,hp⟩:=zdd (cap:=[none,none,none]) (T:=.tp [1,2]) (tc:=zaj (gOp2 oEq (zaa 2) (gArg (gC (.int 1))))) (te:=gVar 1) (it:=gZip (gVar 3) (zab [true,false] (Ψ "_law_bits") (gCns (zaa 0) (gCns (gArg (gOpN oLen (gCns (zaa 3) gA0))) gA0)))) (en:=#v[8,11]) (e0:=#v[6,11]) (ws:=zipW ((zae m most).map tmW) (xs.map W.int)) (fun i c dn=>(∃v0 v1 v2,c=[v0,v1,v2])/\∃ts:List (List Nat),dn=ts.map tmW/\ts.Sublist ((zae m most).take i))
      (by simp! [Ab,b1]) rfl (by rw [zd6,Ab,Ab];omega) ⟨⟨_,_,_,rfl⟩,[],rfl,List.nil_sublist _⟩ fun i w c dn hw hp=>by
        nofun;obtain⟨⟨v0,v1,v2,rfl⟩,ts,rfl,hsub⟩:=hp;obtain⟨x,y,hx,hy,rfl⟩:=z90 hw;ac_rfl;rw[Ai] at hx hy;cases ha:(zae m most)[i]? with
        |none=>rw[ha] at hx;exact noSome hx
        | some t =>
          cases hb:xs[i]? with
          |none=>rw[hb] at hy;exact noSome hy
          | some n =>
            rw[ha] at hx;rw[hb] at hy;obtain rfl:=sI hx;obtain rfl:=sI hy;have tk:(zae m most).take (i+1)=(zae m most).take i++[t]:=by rw[Ev,ha];rfl
            refine⟨[v0,#v[tmW t,6],#v[n,0]],rfl,?_⟩;have tt:zaj (gOp2 oEq (zaa 2) #v[1]) [v0,#v[tmW t,6],#v[n,0]]=some ([v0,#v[tmW t,6],#v[n,0]],decide (n=1)):=by simp! []
            by_cases hn:n=1
            · refine .inl ⟨[v0, some (tmW t, false), some (.int n, false)], [v0, some (tmW t, false), some (.int n, false)], (tmW t, false), ?_, rfl, ⟨_, _, _, rfl⟩, ts ++ [t], ?_, ?_⟩
              · rw[tt,Am hn]
              · rw[Cc];rfl
              · rw[tk];exact hsub.append (.refl _)
            · refine .inr ⟨[v0, some (tmW t, false), some (.int n, false)], ?_, ⟨_, _, _, rfl⟩, ts, rfl, ?_⟩
              · rw[tt,Ay hn]
              · rw[tk];exact hsub.trans (List.sublist_append_left _ _)
    nofun;obtain⟨⟨v0,v1,v2,rfl⟩,ts,rfl,hsub⟩:=hp;ac_rfl;exact⟨ts,hc,hsub.trans (Ep _ _)⟩
  obtain⟨ts,c1,sub⟩:=cc;refine⟨st',ts,?_,g1,sub⟩;have ot:zbc [.lst (ts.map tmW)]=#v[(ts.map tmW),3]:=rfl;unfold zvp;simp! [t1,c1,ot]
theorem zqa {c:Nat}:∀{ts:List Str},(∀t∈ts,t.length<=c)->piled ts<=(c+2) * ts.length
  |[],_=>by rw[piled_nil];omega
  | t::ts,h=>by
    have h1:=h t (Ao ..);have h2:=zqa (c:=c) (ts:=ts) λx hx=>h x (Aj _ hx);rw[piled_cons,Bc,Nat.mul_succ];omega
theorem zsz {c:Nat}{ts:List Str}(h:∀t∈ts,t.length<=c):(tupleText ts).length<=(c+2) * ts.length+3:=by
 have hp:=zqa h;have hj:(Str.join ", " ts).length<=piled ts:=by
  cases ts with
  |nil=>exact Bk _
  |cons x xs=>have:=join_length_add (x::xs) (by simp);omega
 unfold tupleText;rw[Str.length_append,Str.length_append];have a:(Str.ofString "(").length=1:=by decide
 have b:(Str.ofString (if (ts.length == 1)=true then ",)" else ")")).length<=2:=by
  split
  ·decide
  ·decide
 omega
theorem zfd {α:Type}(f:α->PyData):∀l:List α,PyData.shownAll (l.map f)=l.map λx=>(f x).shown
 |[]=>rfl
 |x::l=>by rw[Ah,PyData.shownAll,zfd f l];rfl
theorem zgg {α:Type}(f:α->PyData):∀l:List α,(∀x∈l,(f x).showable=true)->PyData.showableAll (l.map f)=true
 |[],_=>rfl
 |x::l,h=>by rw[Ah,PyData.showableAll,h x (Ao ..),zgg f l λy hy=>h y (Aj _ hy)];rfl
theorem zgo {α:Type}(f:α->PyData):∀l:List α,(∀x∈l,(f x).hasDict=false)->PyData.hasDictAll (l.map f)=false
 |[],_=>rfl
 |x::l,h=>by rw[Ah,PyData.hasDictAll,h x (Ao ..),zgo f l λy hy=>h y (Aj _ hy)];rfl
theorem depAll_map {α:Type}{c:Nat} (f:α->PyData):∀l:List α,(∀x∈l,(f x).depth<=c)->PyData.depthAll (l.map f)<=c
  |[],_=>Bk _
  | x::l,h=>by
    rw[Ah,PyData.depthAll];have:=h x (Ao ..);have:=depAll_map f l λy hy=>h y (Aj _ hy);omega
theorem zh0 {α:Type}(f:α->PyData):∀l:List α,(∀x∈l,(f x).canLay0=true)->PyData.canLayAll0 (l.map f)=true
 |[],_=>rfl
 |x::l,h=>by rw[Ah,PyData.canLayAll0,h x (Ao ..),zh0 f l λy hy=>h y (Aj _ hy)];rfl
theorem zw3 {α:Type}(f:α->W)(g:α->PyData)(h:∀x,dW (f x)=some (g x)):∀l:List α,dWs (l.map f)=some (l.map g)
 |[]=>rfl
 |x::l=>by rw[Ah,dWs,h x,zw3 f g h l];rfl
noncomputable def zwk (n:Int):Prop:=n.natAbs.log2<1920
noncomputable def ndI (ns:List Int):PyData:=.tuple (ns.map .int)
theorem zuo (ns:List Int):dW (.tup (ns.map W.int))=some (ndI ns):=by
 rw[dW,zw3 W.int .int (λ_=>by rw[dW]) ns];rfl
theorem z3i {ns:List Int}(h:∀n∈ns,zwk n):(ndI ns).showable=true/\(ndI ns).hasDict=false/\(ndI ns).depth<=1/\(ndI ns).canLay0=true/\(ndI ns).shown.length<=1923 * ns.length+3:=by
 refine⟨?_,?_,?_,?_,?_⟩
 ·unfold ndI;rw[PyData.showable];exact zgg _ _ λn hn=>by rw[PyData.showable];exact Am (h n hn)
 ·unfold ndI;rw[PyData.hasDict];exact zgo _ _ λn hn=>by rw[PyData.hasDict]
 ·unfold ndI; rw[PyData.depth]; have:=depAll_map (c:=0) PyData.int ns λn hn=>by rw[PyData.depth]; exact Ag _
  omega
 ·unfold ndI;rw[PyData.canLay0];exact zh0 _ _ λn hn=>by rw[PyData.canLay0]
 ·unfold ndI;rw [PyData.shown,zfd];have:=zsz (c:=1921) (ts:=ns.map fun x=>(PyData.int x).shown) fun t ht=>by
   obtain⟨n,hn,rfl⟩:=Bv.mp ht;rw[PyData.shown];exact int_text_len_1921 (h n hn)
  rw[Ab] at this;exact this
theorem yan {ns:List Int}(h:∀n∈ns,zwk n)(hl:ns.length<=1000):∃s,z8s [.tup (ns.map W.int)]=some (.str s,false):=by
 obtain⟨h1,h2,h3,_,h4⟩:=z3i h;refine⟨(ndI ns).shown,?_⟩;show (dW (.tup (ns.map W.int))).bind _=_;rw[zuo];show (if okD (ndI ns) then _ else none)=_;have ok:okD (ndI ns)=true:=by
  unfold okD;rw[h1,h2,Am #v[],Am (by rw[sizeLine_eq];omega)];rfl
 rw[if_pos ok]
theorem zfq {n:Int}{k:Nat}(h:n.natAbs<2 ^ k)(hk:k<=1919):zwk n:=by
 unfold zwk;by_cases z:n.natAbs=0
 ·rw[z];decide
 ·have:=(Nat.log2_lt z).mpr h;omega
theorem ne_t {ns:List Int}(h:∀n∈ns,zwk n):oNe (.tup (ns.map W.int)) (.tup (ns.map W.int))=some #v[1,8]:=by
 obtain⟨h1,h2,h3,h5,h4⟩:=z3i h;have e:eqD (.tup (ns.map W.int)) (.tup (ns.map W.int))=some true:=by
  unfold eqD;rw[zuo];show (if (ndI ns).canLay0 && (ndI ns).canLay0 && decide ((ndI ns).depth<=100) then some (PyData.eqv (ndI ns) (ndI ns)) else none)=_;rw[h5,Am #v[],SeqAt.eqv_refl _ h5];rfl
 show (eqD _ _).bind _=_;rw[e];rfl
noncomputable def zfb (Ψ:Str->Fn):GE:=za9 [none,none] (.nm 1) (zar (gVar 1)) gYes (zab [false] (Ψ "word_at") (gCns #v[1,4] gA0))
noncomputable def zh7 (Ψ:Str->Fn):GS:=(gSeq (gSet [] 2 (zab [false] (Ψ "word_at") (gCns (gArg (zfb Ψ)) gA0))) (gRet (gOp2 oIx (gArg (zab [false,false] (Ψ "steps") (gCns #v[0,4] #v[9,9]))) (zaa 0))))
noncomputable def zwt (Ψ:Str->Fn):GE:=zxh [none,none,none,some 0] (.nm 1) (zar (gVar 1)) gYes (.nm 2) (zya (gCns (gArg (gOp2 oAdd (gArg (zi7 (zaa 1) (gOp1 oNeg #v[1]))) #v[1])) (gCns (zaa 3) gA0))) gYes (gOp2 oAdd (zaa 1) (gArg (zbq #v[9,9])))
noncomputable def zm6 (Ψ:Str->Fn):GS:=(gRet (zwt Ψ))
noncomputable def zyr (Ψ:Str->Fn):GS:=(gSeq (gSet [] 3 (zab [false,false] (Ψ "longer_terms") (gCns #v[1,4] (gCns #v[3,4] gA0)))) (zsy [] 4 (gVar 3)))
noncomputable def zxw (Ψ:Str->Fn):GS:=gFor [] (.nm 5) (zbp (gCns (zaa 2) gA0)) (zyr Ψ)
noncomputable def zej (Ψ:Str->Fn):GS:=(gSeq (gAsg [] (.tp [1,2]) (gVar 0)) (gSeq (gSet [] 3 (zaz (gCns (gArg (zbq gA0)) gA0))) (gSeq (gSet [] 4 (zaz (gCns (gArg (zbq gA0)) gA0))) (gSeq (zxw Ψ) (gRet (gOpN zbc (gCns (zaa 4) gA0)))))))
noncomputable def zcx (Ψ:Str->Fn):GE:=za9 [none,none,some 0] (.nm 1) (zar (zab [false] (Ψ "terms") (gCns #v[0,4] gA0))) gYes (zab [false,false] (Ψ "word_of") (gCns (gArg (gOp2 oIx (zaa 2) #v[0])) (gCns (gArg (zbq (gCns #v[1,4] gA0))) gA0)))
noncomputable def zeu (Ψ:Str->Fn):GS:=(gRet (gOpN zbc (gCns (gArg (zcx Ψ)) gA0)))
noncomputable def zgk (Ψ:Str->Fn):GS:=(gSeq (gAsg [] (.tp [1,2]) (gVar 0)) (gRet (gIf (zaj (gOp2 oEq (zaa 2) (zaa 1))) (gC .non) (zbq (gCns #v[1,4] (gCns (gArg (gOp2 #v[0,0,0] (gArg (gOp2 #v[0,0,0] (zaa 1) (zaa 2))) #v[1])) gA0))))))
noncomputable def zkr (Ψ:Str->Fn):GS:=(gSeq (gSet [] 1 (zab [false] (Ψ "beside") (gCns #v[0,4] gA0))) (gRet (gIf (zaj (gOp2 oIs (zaa 1) (gArg (gC .non)))) (zbq gA0) (zab [false] (Ψ "term_words") (gCns #v[1,4] gA0)))))
theorem zct {a b:GS}{en e1:En}{r:Option (En × Fl)}(h1:a en=some (e1,.nx))(h2:b e1=r):gSeq a b en=r:=(seq_nx h1).trans h2
noncomputable def bitF (p i:Nat):Int:=((p / 2 ^ i % 2:Nat):Int)
theorem zug:∀p:Fin 64,wordOf (tab 6 (bitF p.val))=(p.val:Int):=by decide +kernel
theorem zqo (p i:Nat):Bit (bitF p i):=by unfold bitF Bit;omega
theorem z5e {p n i:Nat}(h:p<2 ^ n)(hi:n<=i):bitF p i=0:=by
 unfold bitF;rw[Nat.div_eq_of_lt (Az h (Eu #v[0,9] hi))];rfl
noncomputable def letL (p:Nat):List Nat:=dueL (bitF p) 6
noncomputable def zbf (t:List Nat):Nat:=(t.map λl=>2 ^ l).sum
noncomputable def keyI (t:List Nat):List Int:=(t.length:Int)::t.map λl:Nat=>(l:Int)
theorem zb3:∀p:Fin 64,zbf (letL p.val)=p.val:=by decide +kernel
theorem zno:∀q p:Fin 64,hasT (letL q.val) p.val=(q.val &&& p.val == q.val):=by decide +kernel
theorem zh9:∀m:Fin 7,((List.range (2 ^ m.val)).map letL).isPerm (zae m.val m.val)=true:=by decide +kernel
theorem zmo:∀m:Fin 7,(zae m.val m.val).Pairwise λa b=>lexI (keyI b) (keyI a)=false:=by decide +kernel
theorem z1r (f:Nat->Int)(p:Nat):Bit (zbh f p):=by unfold zbh Bit;omega
noncomputable def duT (m:Nat) (f:Nat->Int):List (List Nat):=(zae m m).filter λt=>decide (zbh f (zbf t)=1)
noncomputable def plL (m:Nat) (f:Nat->Int):List Nat:=(List.range (2 ^ m)).filter λq=>decide (zbh f q=1)
theorem z63 {m:Nat}(f:Nat->Int)(hm:m<=6):((plL m f).map letL).Perm (duT m f):=by
 have p6:=zd3 hm;have p:=(List.isPerm_iff.mp (zh9 ⟨m,by omega⟩)).filter λt=>decide (zbh f (zbf t)=1);rw[List.filter_map] at p;have e:(List.range (2 ^ m)).filter ((λt=>decide (zbh f (zbf t)=1)) ∘ letL)=plL m f:=He λq hq=>by
  show decide (zbh f (zbf (letL q))=1)=_;have:=Bi.mp hq;rw[zb3 ⟨q,by omega⟩]
 rw[e] at p;exact p
theorem zf6 {m:Nat}{t:List Nat}(hm:m<=6)(h:t∈zae m m):∃q,q<2 ^ m/\t=letL q:=by
 have:=(List.isPerm_iff.mp (zh9 ⟨m,by omega⟩)).mem_iff.mpr h;obtain⟨q,hq,rfl⟩:=Bv.mp this;exact⟨q,Bi.mp hq,rfl⟩
theorem z40 {m:Nat}{t:List Nat}(hm:m<=6)(h:t∈zae m m):zbf t<2 ^ m:=by
 have p6:=zd3 hm;obtain⟨q,hq,rfl⟩:=zf6 hm h;rw[zb3 ⟨q,by omega⟩];exact hq
theorem z4r (g:Nat->Int) (h:∀i,Bit (g i)):∀L:List Nat,(L.map g).sum=((L.filter fun q=>decide (g q=1)).length:Nat)
  |[]=>rfl
  | q::L=>by
    rw[Ah,Bf,z4r g h L,Cd];rcases h q with e|e
    · rw[e,if_neg #v[0,9]];omega
    · rw[e,if_pos #v[0,9],Bc];omega
noncomputable def zjw (t:List Nat):W:=.tup [.int (t.length:Nat),tmW t]
theorem zt5:∀t:List Nat,zo6 (t.map fun l=>.int (l:Nat))=some (t.map fun l:Nat=>(l:Int))
  |[]=>rfl
  | l::t=>by
    show (zo6 (t.map λl=>.int (l:Nat))).bind _=_;rw[zt5 t];rfl
theorem z9u (t:List Nat):kT (zjw t)=some (keyI t):=by
 show (zo6 (t.map λl=>.int (l:Nat))).bind _=_;rw[zt5];rfl
theorem zi6 {α β γ:Type}{f:β->Option γ}{g:α->β}{k:α->γ} (h:∀a,f (g a)=some (k a)):∀l:List α,mapO f (l.map g)=some (l.map k)
  |[]=>rfl
  | a::l=>by
    show (f (g a)).bind _=_;rw[h a];show (mapO f (l.map g)).bind _=_;rw[zi6 h l];rfl
theorem zqd:∀{t u:List Nat},(t.map fun l:Nat=>(l:Int))=(u.map fun l:Nat=>(l:Int))->t=u
  |[],[],_=>rfl
  |[],_::_,h=>by cases h
  |_::_,[],h=>by cases h
  | a::t,b::u,h=>by
    rw[Ah,Ah] at h;obtain⟨h1,h2⟩:=List.cons.inj h;rw[zqd h2,Int.ofNat.inj h1]
theorem zu5 {t u:List Nat}(h:keyI t=keyI u):t=u:=zqd (List.cons.inj h).2
theorem zg8:∀{l:List (List Int)},l.Nodup->zb0 l=true
  |[],_=>rfl
  | x::xs,h=>by
    have n:=Bx.mp h;unfold zb0;rw[Ad];exact⟨Bd.mpr λy hy=>Am λe=>n.1 (by rw[e];exact hy),zg8 n.2⟩
noncomputable def zws (t:List Nat):KP:=(keyI t,tmW t)
theorem zqc:∀ts:List (List Nat),(ts.map keyI).zip (ts.map tmW)=ts.map zws
 |[]=>rfl
 |t::ts=>by rw[Ah,Ah,Bs,zqc ts];rfl
theorem zr7 {ts us:List (List Nat)} (nd:ts.Nodup) (p:ts.Perm us) (s:us.Pairwise fun a b=>lexI (keyI b) (keyI a)=false):zo3 (ts.map zjw) (ts.map tmW)=some (us.map tmW):=by
  have kl:((mapO kI (ts.map zjw)).orElse fun _=>mapO kT (ts.map zjw))=some (ts.map keyI):=by
    cases ts with
    |nil=>rfl
    | cons t ts =>
      have k0:mapO kI ((t::ts).map zjw)=none:=rfl;rw[k0];exact zi6 z9u (t::ts)
  have dc:zb0 (ts.map keyI)=true:=zg8 (by
    rw[Ew,List.pairwise_map];rw[Ew] at nd;exact nd.imp λ{a b} h e=>h (zu5 e))
  unfold zo3;rw [kl];show (if zb0 (ts.map keyI) && decide ((ts.map keyI).length=(ts.map tmW).length) then some ((zkh ((ts.map keyI).zip (ts.map tmW))).map (·.2)) else none)=_;rw [dc,Am (by rw [Ab,Ab]),zqc];have e:us.map zws=zkh (ts.map zws):=ze6 ((p.symm.map zws).trans (ze0 _).symm) (by
    rw [List.pairwise_map];exact s) (zdc _) fun x hx y hy h=>by
      obtain⟨a,_,rfl⟩:=Bv.mp hx;obtain⟨b,_,rfl⟩:=Bv.mp hy;rw[zu5 h]
  show some ((zkh (ts.map zws)).map (·.2))=_;rw[<-e,Ed];rfl
theorem zt2 {m:Nat}(f:Nat->Int)(hm:m<=6):(duT m f).Pairwise λa b=>lexI (keyI b) (keyI a)=false:=(zmo ⟨m,by omega⟩).sublist List.filter_sublist
theorem z2h {m:Nat}(f:Nat->Int)(hm:m<=6):((plL m f).map letL).Nodup:=by
 have p6:=zd3 hm;rw[Ew,List.pairwise_map];have n:(plL m f).Nodup:=List.Nodup.sublist List.filter_sublist List.nodup_range;rw[Ew] at n;refine n.imp_of_mem λ{a b} ha hb ne e=>ne ?_;have la:=Bi.mp (Di.mp ha).1;have lb:=Bi.mp (Di.mp hb).1;have:=congrArg zbf e;rw[zb3 ⟨a,by omega⟩,zb3 ⟨b,by omega⟩] at this;exact this
noncomputable def zwh (Φ:Fn):Prop:=∀(n:Nat) (M:List Nat),n<=64->(∀p∈M,p<n)->Φ [.lst (zbj M)]=some ([.lst (zbj M)],(.int (wordOf (tab n λi=>if i∈M then 1 else 0)),false))
theorem zn0 (Ψ:Str->Fn):zwh (zac [false] 3 (zlf Ψ)):=λn M hn hM=>by
 have z0:(wordOf (tab n λi=>if i∈M.take 0 then 1 else 0))=0:=by
  have:(tab n λi=>if i∈M.take 0 then (1:Int) else 0)=List.replicate n 0:=by
   rw[<-zdj];exact tab_ext λi _=>if_neg (by rw[Dx];exact Bq)
  rw[this,zb7]
 obtain⟨en',hl,hp⟩:=zbu (mp:=[]) (T:=(.nm 2)) (it:=(zar (gVar 0))) (body:=#v[4,9])
  (λj e=>∃v2,e=[#v[(zbj M),1],#v[(wordOf (tab n λi=>if i∈M.take j then 1 else 0)),0],v2]) (en:=[#v[(zbj M),1],#v[0,0],none]) (e0:=[#v[(zbj M),1],#v[0,0],none]) (ws:=zbj M) rfl ⟨none,by rw[z0]⟩
  (by
   rintro j w e hw ⟨v2,rfl⟩;obtain⟨p,hp,rfl⟩:=zg9 hw;have pn:p<n:=hM p (Bn hp);have ow:=zy2 (n:=n) (p:=p) (f:=λi=>if i∈M.take j then 1 else 0) (λi=>by show Bit (if _ then _ else _);split<;>first|exact .inr rfl|exact .inl rfl) pn;have e2:(tab n λi=>if i=p then (1:Int) else if i∈M.take j then 1 else 0)=tab n λi=>if i∈M.take (j+1) then 1 else 0:=tab_ext λi _=>by
    have m:i∈M.take (j+1)↔(i∈M.take j\/i=p):=by
     rw[Ev,hp,Bj];show _\/i∈[p]↔_;rw[Aw]
    by_cases c:i=p
    ·rw[if_pos c,if_pos (m.mpr (.inr c))]
    ·rw[if_neg c];by_cases c2:i∈M.take j
     ·rw[if_pos c2,if_pos (m.mpr (.inl c2))]
     ·rw[if_neg c2,if_neg (λq=>(m.mp q).elim c2 c)]
   rw[e2] at ow;have pw:(1 * 2 ^ ((p:Nat):Int).toNat:Int)=1 * 2 ^ p:=rfl;refine⟨[#v[(zbj M),1],#v[(wordOf (tab n λi=>if i∈M.take j then 1 else 0)),0],#v[(p:Nat),0]],[#v[(zbj M),1],#v[(wordOf (tab n λi=>if i∈M.take (j+1) then 1 else 0)),0],#v[(p:Nat),0]],rfl,.inl (z3x (w:=.int (wordOf (tab n λi=>if i∈M.take j then 1 else 0))) (u:=.int (1 * 2 ^ p)) rfl (arg_0 (r:=(.int (1 * 2 ^ p),false)) (op2_0 (x:=.inl (.int 1)) (y:=.inl (.int (p:Nat))) rfl rfl rfl rfl (oI_t (zkx #v[] #v[] #v[0,9])))) rfl ?_ rfl),_,rfl⟩;show some (W.int (Builtin.bitOr (wordOf (tab n λi=>if i∈M.take j then 1 else 0)) (1 * 2 ^ p)),false)=_;rw[ow])
 obtain⟨v2,rfl⟩:=hp;rw[zc7,Ff] at hl;exact za1 rfl ((seq_nx (e1:=[#v[(zbj M),1],#v[0,0],none]) rfl).trans ((seq_nx hl).trans rfl)) rfl
noncomputable def indF (M:List Nat) (i:Nat):Int:=if i∈M then 1 else 0
theorem zv8 (M:List Nat)(i:Nat):Bit (indF M i):=by unfold indF;split<;>first|exact .inr rfl|exact .inl rfl
theorem zyg {M:List Nat}{x:Nat} (hx:x ∉ M):∀{S:List Nat},S.Nodup->(S.map (indF (x::M))).sum=(S.map (indF M)).sum+(if x∈S then 1 else 0)
  |[],_=>rfl
  | q::S,h=>by
    have ih:=zyg hx (Bx.mp h).2;rw[Ah,Bf,Ah,Bf,ih];by_cases e:q=x
    · subst e
      have n1:q ∉ S:=(Bx.mp h).1;have a:indF (q::M) q=1:=by unfold indF;rw[if_pos Ao]
      have b:indF M q=0:=by unfold indF;rw[if_neg hx]
      rw[a,b,if_neg n1,if_pos Ao];omega
    · have a:indF (x::M) q=indF M q:=by
        unfold indF;by_cases c:q∈M
        · rw[if_pos c,if_pos (Aj _ c)]
        · rw[if_neg c,if_neg λz=>(Ap.mp z).elim e c]
      rw[a];by_cases c:x∈S
      · rw[if_pos c,if_pos (Aj _ c)];omega
      · rw[if_neg c,if_neg λz=>(Ap.mp z).elim (λz=>e z.symm) c];omega
theorem zre {S:List Nat} (hS:S.Nodup):∀{ts:List (List Nat)},(ts.map zbf).Nodup->(S.map (indF (ts.map zbf))).sum=((ts.filter fun t=>decide (zbf t∈S)).length:Nat)
  | [],_=>by
    have:∀L:List Nat,(L.map (indF [])).sum=0:=fun L=>by
      induction L with
      |nil=>rfl
      |cons a l ih=>rw[Ah,Bf,ih];rfl
    exact this S
  | t::ts,h=>by
    rw[Ah] at h;have h':=Bx.mp h;rw[Ah,zyg h'.1 hS,zre hS h'.2,Cd];by_cases c:zbf t∈S
    · rw[if_pos c,if_pos (Am c),Bc];omega
    · rw[if_neg c,if_neg (by rw[Ay c];exact Av)];omega
theorem zto (p:Nat):(zon p).Nodup:=List.nodup_range.filter _
theorem z1j {m p:Nat}{t:List Nat}(hm:m<=6)(ht:t∈zae m m)(hp:p<64):hasT t p=decide (zbf t∈zon p):=by
 have p6:=zd3 hm;obtain⟨q,hq,rfl⟩:=zf6 hm ht;rw[zno ⟨q,by omega⟩ ⟨p,hp⟩,zb3 ⟨q,by omega⟩];show (q &&& p == q)=decide (q∈zon p);unfold zon;by_cases c:q &&& p=q
 ·have : q ≤ p:=by have:=Nat.and_le_right (n:=q) (m:=p); omega
  have h:q∈(List.range (p+1)).filter λo=>o &&& p == o:=Di.mpr ⟨Bi.mpr #v[],Fw.mpr c⟩;rw[Fw.mpr c,Am h]
 ·have h : ¬ q ∈ (List.range (p + 1)).filter λo=>o &&& p == o:=λz=>c (Fw.mp (Di.mp z).2);rw[Dj.mpr c,Ay h]
theorem z0v {m:Nat}{t u:List Nat}(hm:m<=6)(ht:t∈zae m m)(hu:u∈zae m m)(e:zbf t=zbf u):t=u:=by
 have p6:=zd3 hm;obtain⟨q,hq,rfl⟩:=zf6 hm ht;obtain⟨r,hr,rfl⟩:=zf6 hm hu;rw[zb3 ⟨q,by omega⟩,zb3 ⟨r,by omega⟩] at e;have e:q=r:=e;rw[e]
noncomputable def zwe (m:Nat) (ts:List (List Nat)):Prop:=ts.Nodup/\∀t∈ts,t∈zae m m
theorem zh1 {m:Nat} (hm:m<=6):∀{ts:List (List Nat)},zwe m ts->(ts.map zbf).Nodup
  |[],_=>Gf
  | t::ts,h=>by
    have n:=Bx.mp h.1;rw[Ah];refine Bx.mpr ⟨λz=>?_,zh1 hm ⟨n.2,λu hu=>h.2 u (Aj _ hu)⟩⟩;obtain⟨u,hu,e⟩:=Bv.mp z;have:=z0v hm (h.2 u (Aj _ hu)) (h.2 t Ao) e;subst this;exact n.1 hu
theorem z2u {m p:Nat}{ts:List (List Nat)}(hm:m<=6)(h:zwe m ts)(hp:p<64):zbh (indF (ts.map zbf)) p=valF ts p:=by
 unfold zbh valF;rw[zre (zto p) (zh1 hm h)];have e:(ts.filter λt=>decide (zbf t∈zon p))=ts.filter λt=>hasT t p:=He λt ht=>(z1j hm (h.2 t ht) hp).symm;rw[e];omega
theorem zzf:∀q:Fin 64,wordOf (tab 6 λi=>if i∈letL q.val then 1 else 0)=(q.val:Int):=by decide +kernel
theorem zue:∀q:Fin 64,∀l∈letL q.val,l<6:=by decide +kernel
theorem z5q {Φ:Fn}(hA:zi0 Φ){m:Nat}{t:List Nat}(hm:m<=6)(ht:t∈zae m m):Φ [tmW t]=some ([tmW t],(.int (zbf t:Nat),false)):=by
 have p6:=zd3 hm;obtain⟨q,hq,rfl⟩:=zf6 hm ht;have e:=hA 6 (letL q) #v[0,9] (zue ⟨q,by omega⟩);rw[zzf ⟨q,by omega⟩] at e;rw[zb3 ⟨q,by omega⟩];exact e
noncomputable def zrg (Φ:Fn):Prop:=∀(m:Nat) (ts:List (List Nat)),m<=6->ts.length<=64->zwe m ts->Φ [.int (m:Nat),.tup (ts.map tmW)]=some ([.int (m:Nat),.tup (ts.map tmW)],(.int (wordOf (tab (2 ^ m) (valF ts))),false))
theorem zsm {Ψ:Str->Fn} (hA:zi0 (Ψ "word_at")) (hL:zwh (Ψ "word_at")) (hS:zjx (Ψ "steps")):zrg (zac [false,false] 3 (zh7 Ψ)):=fun m ts hm hz h=>by
  have p6:=zd3 hm;have c1:zfb Ψ [some (.int (m:Nat),false),some (.tup (ts.map tmW),false),none]=some ([some (.int (m:Nat),false),some (.tup (ts.map tmW),false),none],(.lst (zbj (ts.map zbf)),true)):=by
    unfold zfb;refine yb9 (ws:=ts.map tmW) (by simp! []) (by rw[Ab];omega) (by rw[zc7,Ab,Ab]) λi v0 w r hw hr=>?_;rw[Ai] at hw;cases ha:ts[i]? with
    |none=>rw[ha] at hw;exact noSome hw
    | some t =>
      rw [ha] at hw;obtain rfl:=sI hw;have er:r=.int (zbf t:Nat):=by
        unfold zbj at hr;rw[Ai,Ai,ha] at hr;exact (sI hr).symm
      subst er;have e:=z5q hA hm (h.2 t (Bn ha));exact⟨#v[tmW t,6],false,by simp! [e]⟩
  have e2:=hL (2 ^ m) (ts.map zbf) p6 fun p hp=>by
    obtain⟨t,ht,rfl⟩:=Bv.mp hp;exact z40 hm (h.2 t ht)
  have s:=hS (m:Int) (indF (ts.map zbf)) (by omega) (by omega) (zv8 _);have r0:rowF (m:Int) (indF (ts.map zbf)) 0=wordOf (tab (2 ^ m) fun i=>if i∈ts.map zbf then 1 else 0):=rfl;rw [r0] at s;have a1:atI ((tab (m+1) (rowF (m:Int) (indF (ts.map zbf)))).map W.int) (m:Int)=some (.int (wordOf (tab (2 ^ m) (valF ts)))):=by
    have e:rowF (m:Int) (indF (ts.map zbf)) m=wordOf (tab (2 ^ m) (valF ts)):=by
      unfold rowF;rw[Cy,tab_ext λp hp=>(zxa (zv8 _) hm hp).trans (z2u hm h #v[])]
    rw[<-e];exact zbr (zir (Nat.lt_succ_self m))
  unfold zh7;refine za1 (en:=#v[6,12]) rfl (zct (e1:=#v[6,12]) ?_ ?_) rfl
  · simp! [c1,e2]
  · simp! [s,a1]
noncomputable def kdW (m t:Nat):W:=.tup [.int (m:Nat),.int (t:Nat)]
noncomputable def tsP (Ψ:Str->Fn) (m t:Nat):Prop:=zac [false] 6 (zej λ_=>zac [false,false] 2 (zm6 Ψ)) [kdW m t]=some ([kdW m t],(.tup ((zae m t).map tmW),false))
theorem z8t (Ψ:Str->Fn):∀m t:Nat,1<=m->m<=6->t<=m->tsP Ψ m t
 |1,0,_,_,_=>by unfold tsP;kernel_rfl
 |1,1,_,_,_=>by unfold tsP;kernel_rfl
 |2,0,_,_,_=>by unfold tsP;kernel_rfl
 |2,1,_,_,_=>by unfold tsP;kernel_rfl
 |2,2,_,_,_=>by unfold tsP;kernel_rfl
 |3,0,_,_,_=>by unfold tsP;kernel_rfl
 |3,1,_,_,_=>by unfold tsP;kernel_rfl
 |3,2,_,_,_=>by unfold tsP;kernel_rfl
 |3,3,_,_,_=>by unfold tsP;kernel_rfl
 |4,0,_,_,_=>by unfold tsP;kernel_rfl
 |4,1,_,_,_=>by unfold tsP;kernel_rfl
 |4,2,_,_,_=>by unfold tsP;kernel_rfl
 |4,3,_,_,_=>by unfold tsP;kernel_rfl
 |4,4,_,_,_=>by unfold tsP;kernel_rfl
 |5,0,_,_,_=>by unfold tsP;kernel_rfl
 |5,1,_,_,_=>by unfold tsP;kernel_rfl
 |5,2,_,_,_=>by unfold tsP;kernel_rfl
 |5,3,_,_,_=>by unfold tsP;kernel_rfl
 |5,4,_,_,_=>by unfold tsP;kernel_rfl
 |5,5,_,_,_=>by unfold tsP;kernel_rfl
 |6,0,_,_,_=>by unfold tsP;kernel_rfl
 |6,1,_,_,_=>by unfold tsP;kernel_rfl
 |6,2,_,_,_=>by unfold tsP;kernel_rfl
 |6,3,_,_,_=>by unfold tsP;kernel_rfl
 |6,4,_,_,_=>by unfold tsP;kernel_rfl
 |6,5,_,_,_=>by unfold tsP;kernel_rfl
 |6,6,_,_,_=>by unfold tsP;kernel_rfl
 |0,_,h,_,_=>by omega
 |m+7,_,_,h,_=>by omega
 |1,t+2,_,_,h=>by omega
 |2,t+3,_,_,h=>by omega
 |3,t+4,_,_,h=>by omega
 |4,t+5,_,_,h=>by omega
 |5,t+6,_,_,h=>by omega
 |6,t+7,_,_,h=>by omega
noncomputable def zn1 (Φ:Fn):Prop:=∀m t:Nat,1<=m->m<=6->t<=m->Φ [kdW m t]=some ([kdW m t],(.tup ((zae m t).map tmW),false))
theorem zqq {Ψ Ψ' : Str->Fn}(h:Ψ "longer_terms" = zac [false,false] 2 (zm6 Ψ')):zn1 (zac [false] 6 (zej Ψ)):=λm t h1 h6 ht=>by
 have e:zej Ψ=zej (λ_=>Ψ "longer_terms"):=rfl;rw[e,h];exact z8t Ψ' m t h1 h6 ht
theorem zi2:∀m u:Fin 7,u.val<=m.val->∀t∈zae m.val u.val,t∈zae m.val m.val:=by decide +kernel
noncomputable def wT (m:Nat) (t:List Nat):Int:=wordOf (tab (2 ^ m) (valF [t]))
noncomputable def zmi (Φ:Fn):Prop:=∀m u:Nat,1<=m->m<=6->u<=m->Φ [kdW m u]=some ([kdW m u],(.tup (((zae m u).map (wT m)).map W.int),false))
theorem zw2 (m u:Nat):seqW (kdW m u)=some [.int (m:Nat),.int (u:Nat)]:=rfl
theorem z5z (x y:W):atI [x,y] 0=some x:=rfl
theorem ycm (x y:W):atI [x,y] 1=some y:=rfl
theorem zje {Ψ:Str->Fn} (hT:zn1 (Ψ "terms")) (hW:zrg (Ψ "word_of")):zmi (zac [false] 1 (zeu Ψ)):=fun m u h1 h6 hu=>by
  have e:=hT m u h1 h6 hu;have l64:(zae m u).length<=64:=(zhc ⟨m,by omega⟩ ⟨u,by omega⟩).1;have c1:zcx Ψ [some (kdW m u,false)]=some ([some (kdW m u,false)],(.lst (((zae m u).map (wT m)).map W.int),true)):=by
    unfold zcx;refine z3g (k:=0) (ws:=(zae m u).map tmW) (x:=#v[kdW m u,6]) (by simp! [e]) (by rw[Ab];omega) (by rw[Ab,Ab,Ab]) rfl rfl (λ_ _=>rfl) (λi v0 w r hw hr=>?_);rw[Ai] at hw;cases ha:(zae m u)[i]? with
    |none=>rw[ha] at hw;exact noSome hw
    | some t =>
      rw [ha] at hw;obtain rfl:=sI hw;have er:r=.int (wT m t):=by
        rw[Ai,Ai,ha] at hr;exact (sI hr).symm
      subst er;have tin:=zi2 ⟨m,by omega⟩ ⟨u,by omega⟩ hu t (Bn ha);have w1:=hW m [t] h6 (by rw[List.length_singleton];decide) ⟨Bx.mpr ⟨Bq,Gf⟩,λx hx=>by rw[Aw.mp hx];exact tin⟩;have w1:Ψ "word_of" [.int (m:Nat),.tup [tmW t]]=some ([.int (m:Nat),.tup [tmW t]],(.int (wT m t),false)):=w1;exact⟨#v[tmW t,6],false,by simp! [zw2,z5z,w1]⟩
  have ot:zbc [.lst (((zae m u).map (wT m)).map W.int)]=#v[(((zae m u).map (wT m)).map W.int),3]:=rfl;unfold zeu;simp! [c1,ot]
noncomputable def besW (m t:Nat):W:=if t=m then .non else kdW m (m - t - 1)
noncomputable def zfu (Φ:Fn):Prop:=∀m t:Nat,t<=m->Φ [kdW m t]=some ([kdW m t],(besW m t,false))
theorem zkn (Ψ:Str->Fn):zfu (zac [false] 3 (zgk Ψ)):=λm t ht=>by
 unfold besW;have sq:∀a b:W,seqW (.tup [a,b])=some [a,b]:=λ_ _=>rfl;by_cases c:t=m
 ·subst c;rw[if_pos rfl];unfold zgk;have d:decide ((t:Int)=(t:Int))=true:=Am rfl;unfold kdW;simp! [d]
 ·rw[if_neg c];have d:decide ((t:Int)=(m:Int))=false:=Ay #v[];have ec:(m:Int) - (t:Int) - 1=((m - t - 1:Nat):Int):=by omega
  unfold zgk kdW;simp! [d,ec]
noncomputable def chkT (m t:Nat):List (List Nat):=if t=m then [] else zae m (m - t - 1)
noncomputable def zfp (Φ:Fn):Prop:=∀m t:Nat,1<=m->m<=6->t<=m->Φ [kdW m t]=some ([kdW m t],(.tup (((chkT m t).map (wT m)).map W.int),false))
theorem zuq {Ψ:Str->Fn}(hB:zfu (Ψ "beside"))(hT:zmi (Ψ "term_words")):zfp (zac [false] 2 (zkr Ψ)):=λm t h1 h6 ht=>by
 have e:=hB m t ht;unfold chkT;unfold zkr;unfold besW at e;by_cases c:t=m
 ·rw[if_pos c] at e ⊢;have i0:oIs .non .non=some #v[9,10]:=rfl;simp! [e,i0,List.map_nil]
 ·rw[if_neg c] at e ⊢;have e2:=hT m (m - t - 1) h1 h6 #v[];have i0:oIs (kdW m (m - t - 1)) .non=some #v[1,8]:=rfl;simp! [e,i0,e2]
theorem ydw (m u:Nat)(hm:m<=6)(hu:u<=6):∃s,z8s [kdW m u]=some (.str s,false):=yan (ns:=[(m:Int),(u:Int)]) (λn hn=>by
 simp only [Ap,Bq,Gp] at hn;rcases hn with rfl|rfl
 ·exact zfq (k:=3) #v[] #v[0,9]
 ·exact zfq (k:=3) #v[] #v[0,9]) (by simp)
theorem yc7 (m u:Nat)(hm:m<=6)(hu:u<=6):oNe (kdW m u) (kdW m u)=some #v[1,8]:=ne_t (ns:=[(m:Int),(u:Int)]) λn hn=>by
 simp only [Ap,Bq,Gp] at hn;rcases hn with rfl|rfl
 ·exact zfq (k:=3) #v[] #v[0,9]
 ·exact zfq (k:=3) #v[] #v[0,9]
theorem zfk (m:Nat)(ts:List (List Nat)):Bits (tab (2 ^ m) (valF ts)):=zau λi _=>by unfold valF Bit;omega
noncomputable def dotP (xs ys:List Int):Int:=(List.zipWith (· * ·) xs ys).sum % 2
theorem zu8 (xs ys:List Int):dotP xs ys=0\/dotP xs ys=1:=by unfold dotP;omega
noncomputable def zb6 (m:Nat) (x:List Nat):List Int:=tab (2 ^ m) (valF [x])
theorem zjb (f g:Nat->Int):∀L:List Nat,List.zipWith (· * ·) (L.map f) (L.map g)=L.map λp=>f p * g p
 |[]=>rfl
 |a::l=>by rw[Ah,Ah,Eb,zjb f g l,Ah]
theorem zvn (x:List Nat)(p:Nat):valF [x] p=if hasT x p then 1 else 0:=by
 unfold valF;rw[Cd];by_cases c:hasT x p=true
 ·rw[if_pos c,if_pos c];rfl
 ·rw[if_neg c,if_neg c];rfl
theorem zqb (s:List Nat)(ts:List (List Nat))(p:Nat):valF (s::ts) p=(valF ts p+if hasT s p then 1 else 0) % 2:=by
 unfold valF;rw[Cd];by_cases c:hasT s p=true
 ·rw[if_pos c,if_pos c,Bc];omega
 ·rw[if_neg c,if_neg c];omega
theorem zpu (s x:List Nat) (ts:List (List Nat)):∀L:List Nat,(L.map fun p=>valF (s::ts) p * valF [x] p).sum % 2=((L.map fun p=>valF ts p * valF [x] p).sum+(((L.filter fun p=>hasT s p && hasT x p).length:Nat):Int)) % 2
  |[]=>rfl
  | p::L=>by
    have ih:=zpu s x ts L;rw[Ah,Bf,Ah,Bf,Cd,zqb,zvn];have b:valF ts p=0\/valF ts p=1:=by unfold valF;omega
    cases hs:hasT s p<;>cases hx:hasT x p<;>simp only [Fs,Fc,Bt,Dp,Dq,Bc]<;>rcases b with b|b<;>rw[b]<;>omega
theorem zwb:∀m:Fin 7,∀u:Fin (2 ^ m.val),u.val≠2 ^ m.val - 1->((List.range (2 ^ m.val)).filter λp=>u.val &&& p == u.val).length % 2=0:=by decide +kernel
theorem z1o:∀m:Fin 7,∀q r:Fin (2 ^ m.val),(letL q.val).length+(letL r.val).length<m.val->q.val ||| r.val≠2 ^ m.val - 1:=by decide +kernel
theorem bl1:∀a b c:Bool,((a || b) && c)=(a || b)->(a && c)=a:=by decide
theorem bl2:∀a b c:Bool,((a || b) && c)=(a || b)->(b && c)=b:=by decide
theorem bl3:∀a b c:Bool,(a && c)=a->(b && c)=b->((a || b) && c)=(a || b):=by decide
theorem zut {q p:Nat}(h:q &&& p=q)(i:Nat):(q.testBit i && p.testBit i)=q.testBit i:=by rw[<-Nat.testBit_and,h]
theorem z9z (q r p:Nat):((q &&& p == q) && (r &&& p == r))=((q ||| r) &&& p == (q ||| r)):=by
 by_cases h:(q ||| r) &&& p=q ||| r
 ·have t:∀i,((q.testBit i || r.testBit i) && p.testBit i)=(q.testBit i || r.testBit i):=fun i=>by
   have:=zut h i;rw[Nat.testBit_or] at this;exact this
  have hq:q &&& p=q:=Nat.eq_of_testBit_eq λi=>by rw[Nat.testBit_and];exact bl1 _ _ _ (t i)
  have hr:r &&& p=r:=Nat.eq_of_testBit_eq λi=>by rw[Nat.testBit_and];exact bl2 _ _ _ (t i)
  rw[Fw.mpr h,Fw.mpr hq,Fw.mpr hr];rfl
 ·rw[Dj.mpr h];by_cases hq:q &&& p=q
  ·by_cases hr : r &&& p = r
   ·refine absurd ?_ h;exact Nat.eq_of_testBit_eq λi=>by rw[Nat.testBit_and,Nat.testBit_or];exact bl3 _ _ _ (zut hq i) (zut hr i)
   ·rw[Dj.mpr hr,Fc]
  ·rw[Dj.mpr hq,Ea]
theorem yc2 {m q r:Nat}(hq:q<2 ^ m)(hr:r<2 ^ m):q ||| r<2 ^ m:=Nat.or_lt_two_pow hq hr
theorem zt8 {m:Nat}{s x:List Nat}(hm:m<=6)(hs:s∈zae m m)(hx:x∈zae m m)(hl:s.length+x.length<m):(((List.range (2 ^ m)).filter λp=>hasT s p && hasT x p).length) % 2=0:=by
 have p6:=zd3 hm;obtain⟨q,hq,rfl⟩:=zf6 hm hs;obtain⟨r,hr,rfl⟩:=zf6 hm hx;have e:((List.range (2 ^ m)).filter λp=>hasT (letL q) p && hasT (letL r) p)=(List.range (2 ^ m)).filter λp=>(q ||| r) &&& p == (q ||| r):=He λp hp=>by
  have:=Bi.mp hp;rw[zno ⟨q,by omega⟩ ⟨p,by omega⟩,zno ⟨r,by omega⟩ ⟨p,by omega⟩];exact z9z q r p
 rw[e];exact zwb ⟨m,by omega⟩ ⟨q ||| r,yc2 hq hr⟩ (z1o ⟨m,by omega⟩ ⟨q,hq⟩ ⟨r,hr⟩ hl)
theorem zlh {m:Nat}{x:List Nat} (hm:m<=6) (hx:x∈zae m m):∀{ts:List (List Nat)},(∀s∈ts,s∈zae m m/\s.length+x.length < m)->dotP (tab (2 ^ m) (valF ts)) (zb6 m x)=0
  | [],_=>by
    unfold dotP zb6 tab;rw [zjb];have:∀L:List Nat,(L.map fun p=>valF [] p * valF [x] p).sum=0:=fun L=>by
      induction L with
      |nil=>rfl
      |cons a l ih=>rw[Ah,Bf,ih];show (0:Int) * _+0=0;omega
    rw[this];rfl
  | s::ts,h=>by
    have ih:=zlh hm hx (λs hs=>h s (Aj _ hs));obtain⟨h1,h2⟩:=h s Ao;have b:=zt8 hm h1 hx h2;unfold dotP zb6 tab at ih ⊢;rw[zjb] at ih ⊢;rw[zpu];omega
theorem zls:∀m u:Fin 7,∀t∈zae m.val u.val,t.length<=u.val:=by decide +kernel
theorem zwd {m t:Nat}(hm:m<=6):(chkT m t).length<=64:=by
 unfold chkT;split
 ·exact Bk _
 ·exact (zhc ⟨m,by omega⟩ ⟨m - t - 1,by omega⟩).1
theorem zul {m t:Nat}{ts:List (List Nat)}(hm:m<=6)(ht:t<=m)(sub:ts.Sublist (zae m t)):∀x∈chkT m t,dotP (tab (2 ^ m) (valF ts)) (zb6 m x)=0:=λx hx=>by
 unfold chkT at hx;split at hx
 ·exact absurd hx Bq
 ·rename_i c;have dx:=zls ⟨m,by omega⟩ ⟨m - t - 1,by omega⟩ x hx;have dx:x.length<=m - t - 1:=dx;refine zlh hm (zi2 ⟨m,by omega⟩ ⟨m - t - 1,by omega⟩ (by show m - t - 1<=m;omega) x hx) λs hs=>⟨zi2 ⟨m,by omega⟩ ⟨t,by omega⟩ ht s (sub.mem hs),?_⟩;have ds:s.length<=t:=zls ⟨m,by omega⟩ ⟨t,by omega⟩ s (sub.mem hs);omega
noncomputable def zie (Φ:Fn):Prop:=∀xs ys:List Int,Bits xs->Bits ys->xs.length<=1000->Φ #v[2,11]=some (#v[2,11],(.bl (decide (dotP xs ys=0)),false))
noncomputable def zed (Ψ:Str->Fn):GS:=(gRet (zbq (gCns #v[5,10] (gCns #v[0,4] gA0))))
noncomputable def zep (Ψ:Str->Fn):GE:=za9 [none,none] (.nm 1) (zar (gVar 0)) gYes (gOpN oLen (gCns (zaa 1) gA0))
noncomputable def zk1 (Ψ:Str->Fn):GS:=(gRet (zi7 (gArg (zep Ψ)) (gOp1 oNeg #v[1])))
noncomputable def zdg (Ψ:Str->Fn):GE:=za9 [none,none] (.nm 1) (zar (zab [false] (Ψ "where") #v[9,9])) gYes (zab [false] (Ψ "where") (gCns #v[1,4] gA0))
noncomputable def zhx (Ψ:Str->Fn):GS:=(gSeq (gSet [] 2 (gOp2 oIx (gArg (zab [false,false] (Ψ "steps") (gCns #v[0,4] (gCns #v[1,4] gA0)))) (zaa 0))) (gRet (gOpN zbc (gCns (gArg (zh2 (Ψ "term_order") (gArg (zdg Ψ)))) gA0))))
noncomputable def zrc (Ψ:Str->Fn):GS:=(gSeq (gAsg [] (.tp [2,3]) (gVar 0)) (gRet (gOp2 (oI yes2 λi j=>.bl (decide (i<=j))) (gArg (zab [false] (Ψ "degree") (gCns (gArg (zab [false,false] (Ψ "poly_of") (gCns #v[2,4] (gCns #v[1,4] gA0)))) gA0))) (zaa 3))))
noncomputable def zo9 (Φ:Fn):Prop:=∀t:List Nat,Φ [tmW t]=some ([tmW t],(zjw t,false))
theorem z1l (Ψ:Str->Fn):zo9 (zac [false] 1 (zed Ψ)):=λt=>by
 have sq:oLen [tmW t]=#v[(t.length:Nat),0]:=by
  show some (W.int ((t.map λl=>W.int (l:Nat)).length:Nat),false)=_;rw[Ab]
 unfold zed zjw tmW;unfold tmW at sq;simp! [Ab]
theorem z4x {Φ:Fn}{a:GA}{en e1:En}{ts us:List (List Nat)}(hT:zo9 Φ)(h:a en=some (e1,.inl (.lst (ts.map tmW))))(nd:ts.Nodup)(p:ts.Perm us)(s:us.Pairwise λa b=>lexI (keyI b) (keyI a)=false):zh2 Φ a en=some (e1,(.lst (us.map tmW),true)):=by
 have mk:mapO (fnW Φ) (ts.map tmW)=some (ts.map zjw):=zi6 (λt=>by unfold fnW;rw[hT t];rfl) ts;unfold zh2;rw[h];show (mapO (fnW Φ) (ts.map tmW)).bind _=_;rw[mk];show (zo3 (ts.map zjw) (ts.map tmW)).bind _=_;rw[zr7 nd p s];rfl
noncomputable def z4d (Φ:Fn):Prop:=∀(m:Nat) (f:Nat->Int),m<=6->(∀i,Bit (f i))->Φ [.int (m:Nat),.int (wordOf (tab (2 ^ m) f))]=some ([.int (m:Nat),.int (wordOf (tab (2 ^ m) f))],(.tup ((duT m f).map tmW),false))
theorem z20 {Φ:Fn}(hW:zka Φ){p:Nat}(hp:p<64):Φ [.int (p:Nat)]=some ([.int (p:Nat)],(tmW (letL p),false)):=by
 have w:=hW 6 (bitF p) (zqo p) (λi h=>z5e (n:=6) #v[] h) #v[0,9];rw[zug ⟨p,hp⟩] at w;exact w
theorem ycu {Ψ:Str->Fn}(hW:zka (Ψ "where")){m:Nat}{f:Nat->Int}{v0 v1:Option (W × Bool)}(hm:m<=6):zdg Ψ #v[1,11]=some (#v[1,11],(.lst (((plL m f).map letL).map tmW),true)):=by
 have p6:=zd3 hm;have w:=hW (2 ^ m) (λi=>if i<2 ^ m then zbh f i else 0) (λi=>by
  show Bit (if i<2 ^ m then zbh f i else 0);split
  ·exact z1r f i
  ·exact .inl rfl) (λi h=>if_neg #v[]) p6
 have et:tab (2 ^ m) (λi=>if i<2 ^ m then zbh f i else 0)=tab (2 ^ m) (zbh f):=tab_ext λi hi=>if_pos hi;have ed:dueL (λi=>if i<2 ^ m then zbh f i else 0) (2 ^ m)=plL m f:=by
  unfold dueL plL;refine He λq hq=>?_;show decide ((if q<2 ^ m then zbh f q else 0)=1)=_;rw[if_pos (Bi.mp hq)]
 rw[et,ed] at w;have ll:(plL m f).length<=64:=by
  unfold plL;have:=List.length_filter_le (λq=>decide (zbh f q=1)) (List.range (2 ^ m));rw[Cn] at this;omega
 unfold zdg;refine zk9 (cap:=[none,none]) (it:=zar (zab [false] (Ψ "where") #v[9,9])) (xs:=[]) (en:=#v[1,11]) (e0:=#v[1,11]) (ws:=zbj (plL m f)) (rs:=((plL m f).map letL).map tmW) (by simp! [w]) (by rw[zc7];omega) (by rw[zc7,Ab,Ab]) rfl rfl rfl (λ_ _=>rfl) λi v w' r hw hr=>?_;obtain⟨q,hq,rfl⟩:=zg9 hw;rw[Ai,Ai,hq] at hr;cases hr;have lq:=Bi.mp (Di.mp (Bn hq)).1;have g:=z20 hW (p:=q) #v[];refine⟨#v[(q:Nat),0],false,?_⟩;simp! [g]
theorem zsq {Ψ:Str->Fn}(hS:zjx (Ψ "steps"))(hW:zka (Ψ "where"))(hT:zo9 (Ψ "term_order")):z4d (zac [false,false] 3 (zhx Ψ)):=λm f hm hf=>by
 have s:=hS (m:Int) f #v[] #v[] hf;have r0:rowF (m:Int) f 0=wordOf (tab (2 ^ m) f):=rfl;rw[r0] at s;have a1:atI ((tab (m+1) (rowF (m:Int) f)).map W.int) (m:Int)=some (.int (wordOf (tab (2 ^ m) (zbh f)))):=by
  have e:rowF (m:Int) f m=wordOf (tab (2 ^ m) (zbh f)):=by
   unfold rowF;rw[Cy,tab_ext λp hp=>zxa hf hm hp]
  rw[<-e];exact zbr (zir (Nat.lt_succ_self m))
 have c1:=ycu (Ψ:=Ψ) (f:=f) (v0:=#v[(m:Nat),0]) (v1:=#v[(wordOf (tab (2 ^ m) f)),0]) hW hm;have so:=z4x (a:=gArg (zdg Ψ)) (en:=#v[4,8]) (e1:=#v[4,8]) hT (by simp! [c1]) (z2h f hm) (z63 f hm) (zt2 f hm);have ot:zbc [.lst ((duT m f).map tmW)]=#v[((duT m f).map tmW),3]:=rfl;unfold zhx;refine za1 (en:=#v[4,8]) rfl (zct (e1:=#v[4,8]) ?_ ?_) rfl
 ·simp! [s,a1]
 ·simp! [so,ot]
theorem z8y {a:GA}{g:GE}{en e1 e2:En}{w:W}{ns:List Int}{d:Int}{f:Bool}(h1:a en=some (e1,.inl w))(h2:g e1=some (e2,(.int d,f)))(h3:seqW w=some (ns.map W.int)):zi7 a g en=some (e2,(.int (mxL ns d),false)):=by
 unfold zi7;rw[h1];show (g e1).bind _=_;rw[h2];show (seqW w).bind _=_;rw[h3];show (zga (ns.map W.int)).bind _=_;rw[zh3];rfl
noncomputable def zhk (ts:List (List Nat)):List Int:=ts.map λt=>((t.length:Nat):Int)
theorem ya4 {Ψ:Str->Fn}{ts:List (List Nat)} (hz:ts.length<=64):zep Ψ [some (.tup (ts.map tmW),false)]=some ([some (.tup (ts.map tmW),false)],(.lst ((zhk ts).map W.int),true)):=by
  unfold zep;refine zk9 (cap:=[none,none]) (it:=zar (gVar 0)) (xs:=[]) (en:=[#v[(ts.map tmW),3]]) (e0:=[#v[(ts.map tmW),3]]) (ws:=ts.map tmW) (rs:=(zhk ts).map W.int) (by simp! []) (by rw[Ab];omega) (by unfold zhk;rw[Ab,Ab,Ab]) rfl rfl rfl (λ_ _=>rfl) λi v0 w r hw hr=>?_;unfold zhk at hr;rw[Ai] at hw;rw[Ai,Ai] at hr;cases ha:ts[i]? with
  |none=>rw[ha] at hw;cases hw
  | some t =>
    rw[ha] at hw hr;cases hw;cases hr;refine⟨#v[tmW t,6],false,?_⟩;unfold tmW;simp! [Ab]
noncomputable def z9y (Φ:Fn):Prop:=∀ts:List (List Nat),ts.length<=64->Φ [.tup (ts.map tmW)]=some ([.tup (ts.map tmW)],(.int (mxL (zhk ts) (-1)),false))
theorem z9c (Ψ:Str->Fn):z9y (zac [false] 1 (zk1 Ψ)):=λts hz=>by
 have c:=ya4 (Ψ:=Ψ) hz;have m:zi7 (gArg (zep Ψ)) (gOp1 oNeg #v[1]) [#v[(ts.map tmW),3]]=some ([#v[(ts.map tmW),3]],(.int (mxL (zhk ts) (-1)),false)):=z8y (e1:=[#v[(ts.map tmW),3]]) (w:=.lst ((zhk ts).map W.int)) (f:=false) (by simp! [c]) (by simp! []) rfl;unfold zk1;simp! [m]
noncomputable def IsIn (Φ:Fn):Prop:=∀(m most:Nat) (f:Nat->Int),m<=6->(∀i,Bit (f i))->Φ [.tup [.int (m:Nat),.int (most:Nat)],.int (wordOf (tab (2 ^ m) f))]=some ([.tup [.int (m:Nat),.int (most:Nat)],.int (wordOf (tab (2 ^ m) f))],(.bl (decide (mxL (zhk (duT m f)) (-1)<=(most:Int))),false))
theorem ybw {m:Nat}{f:Nat->Int}(hm:m<=6):(duT m f).length<=64:=by
 obtain⟨tl,ta⟩:=zd9 (m:=m) (most:=m) hm hm;have:=(show (duT m f).Sublist (zae m m) from List.filter_sublist).length_le;omega
theorem zzl {Ψ:Str->Fn}(hD:z9y (Ψ "degree"))(hP:z4d (Ψ "poly_of")):IsIn (zac [false,false] 4 (zrc Ψ)):=λm most f hm hf=>by
 have e1:=hP m f hm hf;have e2:=hD (duT m f) (ybw hm);unfold zrc;refine za1 (en:=#v[5,12]) rfl (zct (e1:=#v[5,12]) ?_ ?_) rfl
 ·simp! []
 ·simp! [e1,e2]
theorem zzm (n:Nat):(List.replicate n true).all id=true:=by
 induction n with
 |zero=>rfl
 |succ n ih=>rw[Ce,Bo,ih];rfl
noncomputable def z6p (Φ:Fn):Prop:=∀(k:Nat) (st:W),HS k st->k+10<big->∃(st' : W) (m t:Nat),Φ [st]=some ([st'],(kdW m t,false))/\HS (k+2) st'/\1<=m/\m<=6/\t<=m
theorem z04 (f:Nat->Int) (c:Nat->Bool):∀L:List Nat,((L.filter c).map f).sum=(L.map fun p=>f p * (if c p then 1 else 0)).sum
  |[]=>rfl
  | a::L=>by
    rw[Ah,Bf,<-z04 f c L];cases h:c a with
    |true=>rw[Fx h,Ah,Bf,if_pos rfl,Int.mul_one]
    |false=>rw[Fy (by rw[h];decide),if_neg #v[0,9],Int.mul_zero,Gh]
theorem zrx (f g:Nat->Int):∀L:List Nat,(L.map λp=>f p+g p).sum=(L.map f).sum+(L.map g).sum
 |[]=>rfl
 |a::L=>by rw[Ah,Ah,Ah,Bf,Bf,Bf,zrx f g L];omega
theorem zt6 (f:Nat->Int)(h:∀p,f p=0):∀L:List Nat,(L.map f).sum=0
 |[]=>rfl
 |a::L=>by rw[Ah,Bf,zt6 f h L,h];rfl
theorem zoy (f a b:Nat->Int):∀L:List Nat,(∀p∈L,a p % 2=b p % 2)->(L.map fun p=>f p * a p).sum % 2=(L.map fun p=>f p * b p).sum % 2
  |[],_=>rfl
  | x::L,h=>by
    have h1:=h x Ao;have ih:=zoy f a b L λp hp=>h p (Aj _ hp);rw[Ah,Ah,Bf,Bf,Int.add_emod,ih,Int.mul_emod,h1,<-Int.mul_emod,<-Int.add_emod]
noncomputable def zty (Φ:Fn):Prop:=∀(k:Nat) (st:W) (m t:Nat),HS k st->k+100<big->m<=6->t<=m->∃(st' : W) (ts:List (List Nat)),Φ [st,kdW m t]=some ([st',kdW m t],(.lst ((tab (2 ^ m) (valF ts)).map W.int),true))/\HS (k+66) st'/\ts.Sublist (zae m t)
section
variable {en:En}{P Q:W->Prop}
end
set_option maxHeartbeats 2000000
section
variable {κ:Type} [DecidableEq κ] {f:κ->DKey}
theorem val_map (hf:∀a b,f a=f b->a=b) (g:κ->W) (p:κ):∀L:List κ,valW ((L.map f).zip (L.map g)) (f p)=if p∈L then some (g p) else none
  |[]=>rfl
  | q::L=>by
    rw[Ah,Ah,Bs,zeo,val_map hf g p L];by_cases h:q=p
    · subst h;rw[if_pos rfl,if_pos Ao]
    · rw [if_neg fun e => h (hf _ _ e)]
      by_cases m:p∈L
      · rw[if_pos m,if_pos (Aj _ m)]
      · rw[if_neg m,if_neg λz=>by rcases Ap.mp z with z|z;exact h z.symm;exact m z]
theorem zv0 (hf:∀a b,f a=f b->a=b) (g:κ->W) (p:κ) (w:W):∀L:List κ,List.zipWith (fun k' v'=>if k'=f p then w else v') (L.map f) (L.map g)=L.map fun q=>if q=p then w else g q
  |[]=>rfl
  | q::L=>by
    rw[Ah,Ah,Eb,zv0 hf g p w L,Ah];by_cases h:q=p
    · subst h;rw[if_pos rfl,if_pos rfl]
    · rw[if_neg λe=>h (hf _ _ e),if_neg h]
theorem zfr (hf:∀a b,f a=f b->a=b){L:List κ}{p:κ}:f p∈L.map f↔p∈L:=by
 rw[Bv];exact⟨λ⟨a,h,e⟩=>hf _ _ e ▸ h,λh=>⟨p,h,rfl⟩⟩
theorem z6i (hf:∀a b,f a=f b->a=b)(g:κ->W){p:κ}(w:W){L:List κ}(h:p∈L):ze4 (L.map f) (L.map g) (f p) w=L.map λq=>if q=p then w else g q:=by
 unfold ze4;rw[if_pos ((zfr hf).mpr h),zv0 hf]
theorem z0b (hf:∀a b,f a=f b->a=b)(ws:List W){p:κ}(w:W){L:List κ}(h:p ∉ L):ze4 (L.map f) ws (f p) w=ws++[w]:=by
 unfold ze4;rw[if_neg (mt (zfr hf).mp h)]
theorem z6j (hf:∀a b,f a=f b->a=b){p:κ}{L:List κ}(h:p∈L):ze5 (L.map f) (f p)=L.map f:=by
 unfold ze5;rw[if_pos ((zfr hf).mpr h)]
theorem zzn (hf:∀a b,f a=f b->a=b){p:κ}{L:List κ}(h:p ∉ L):ze5 (L.map f) (f p)=L.map f++[f p]:=by
 unfold ze5;rw[if_neg (mt (zfr hf).mp h)]
end
theorem get_y {i:Nat}{g g' : GE}{en:En}{ks:List DKey}{ws:List W}{f f1:Bool}{u w:W}{r:W × Bool}{d:DKey}(h0:en[i]?=some (some (.dct ks ws,f)))(h1:g en=some (en,(u,f1)))(h2:g' en=some (en,r))(hd:keyD u=some d)(hv:valW (ks.zip ws) d=some w):zhl i g g' en=some (en,(w,false)):=by
 unfold zhl;simp only [h0,h1,h2,De,hd,hv]
theorem ycp {i:Nat}{g g' : GE}{en:En}{ks:List DKey}{ws:List W}{f f1:Bool}{u:W}{r:W × Bool}{d:DKey}(h0:en[i]?=some (some (.dct ks ws,f)))(h1:g en=some (en,(u,f1)))(h2:g' en=some (en,r))(hd:keyD u=some d)(hv:valW (ks.zip ws) d=none)(hs:zhb d ks=true):zhl i g g' en=some (en,r):=by
 unfold zhl;simp only [h0,h1,h2,De,hd,hv,hs,Dp]
theorem yau {i:Nat}{k g:GE}{en e1:En}{ks:List DKey}{ws:List W}{f f2:Bool}{u w:W}{d:DKey}(h:g en=some (e1,(w,f)))(hk:k e1=some (e1,(u,f2)))(hi:e1[i]?=some (some (.dct ks ws,true)))(hd:keyD u=some d)(hs:zhb d ks=true)(hl:ks.length<sizeLine):zub i k g en=some (e1.set i (some (.dct (ze5 ks d) (ze4 ks ws d w),true)),.nx):=by
 unfold zub;simp only [h,hk,hi,De,hd,hs,Bool.true_and,Am hl,Dp]
noncomputable def tp (w:Nat):Nat:=w.log2
end L2
namespace My
open PySem PySem.Spec PyProof.Rows L2
noncomputable def top (i:Nat):Stmt:=PySem.Challenge.pw_yesnowords_k31_whole_what_is_even.main.body.getD i (.Pass ⟨0,0,0,0⟩)
noncomputable def zd1:Fd:=⟨"all_yes",["many"],["many"],[false],top 1⟩
noncomputable def zqe:Fd:=⟨"says",["word","place"],["word","place"],[false,false],top 2⟩
noncomputable def zfw:Fd:=⟨"weight",["word"],["word","heavy"],[false],top 3⟩
noncomputable def ziu:Fd:=⟨"where",["word"],["word"],[false],top 4⟩
noncomputable def zd8:Fd:=⟨"word_at",["some"],["some","word","place"],[false],top 5⟩
noncomputable def zqw:Fd:=⟨"plus",["one","other"],["one","other"],[false,false],top 6⟩
noncomputable def zj3:Fd:=⟨"times",["one","other"],["one","other"],[false,false],top 7⟩
noncomputable def zd0:Fd:=⟨"is_even",["one","other"],["one","other"],[false,false],top 8⟩
noncomputable def zcg:Fd:=⟨"letter_no",["many","letter"],["many","letter"],[false,false],top 10⟩
noncomputable def zeg:Fd:=⟨"stepped",["many","word","letter"],["many","word","letter","lower"],[false,false,false],top 11⟩
noncomputable def zjp:Fd:=⟨"steps",["many","word"],["many","word","rows","letter"],[false,false],top 12⟩
noncomputable def zby:Fd:=⟨"term_order",["term"],["term"],[false],top 14⟩
noncomputable def zfn:Fd:=⟨"degree",["poly"],["poly"],[false],top 15⟩
noncomputable def zd7:Fd:=⟨"word_of",["many","poly"],["many","poly","marks"],[false,false],top 16⟩
noncomputable def zeh:Fd:=⟨"poly_of",["many","word"],["many","word","marks"],[false,false],top 17⟩
noncomputable def zbk:Fd:=⟨"longer_terms",["many","some"],["many","some"],[false,false],top 19⟩
noncomputable def zit:Fd:=⟨"terms",["kind"],["kind","many","most","row","told","size"],[false],top 20⟩
noncomputable def zb4:Fd:=⟨"term_words",["kind"],["kind"],[false],top 21⟩
noncomputable def zdm:Fd:=⟨"how_many",["kind"],["kind"],[false],top 22⟩
noncomputable def zi5:Fd:=⟨"is_in",["kind","word"],["kind","word","many","most"],[false,false],top 23⟩
noncomputable def zfx:Fd:=⟨"beside",["kind"],["kind","many","most"],[false],top 25⟩
noncomputable def zfo:Fd:=⟨"checks",["kind"],["kind","other"],[false],top 26⟩
noncomputable def zev:Fd:=⟨"told_by",["kind","word"],["kind","word"],[false,false],top 27⟩
noncomputable def zce:Fd:=⟨"odd_check",["kind","word"],["kind","word","check"],[false,false],top 28⟩
noncomputable def zcl:Fd:=⟨"_law_hand",["_law_script"],["_law_script","_law_state","_law_weighs","_law_cell","_law_k","_law_one"],[false],top 30⟩
noncomputable def zcf:Fd:=⟨"_law_take",["_law_state","_law_count"],["_law_state","_law_count","_law_digit","_law_mixed"],[true,false],top 31⟩
noncomputable def zcw:Fd:=⟨"_law_bits",["_law_state","_law_count"],["_law_state","_law_count","_law_way","_law_found","_law_k","_law_one"],[true,false],top 32⟩
noncomputable def zch:Fd:=⟨"_law_word",["_law_bits_here"],["_law_bits_here","_law_found","_law_bit"],[false],top 33⟩
noncomputable def zbz:Fd:=⟨"_law_terms",["_law_many_here","_law_most"],["_law_many_here","_law_most","_law_found","_law_letter"],[false,false],top 34⟩
noncomputable def zbs:Fd:=⟨"_law_values",["_law_many_here","_law_poly_here"],["_law_many_here","_law_poly_here","_law_found","_law_place","_law_says_yes"],[false,false],top 35⟩
noncomputable def zcu:Fd:=⟨"_law_poly",["_law_state","_law_many_here","_law_most"],["_law_state","_law_many_here","_law_most","_law_some"],[true,false,false],top 36⟩
noncomputable def zcn:Fd:=⟨"_law_many",["_law_state"],["_law_state"],[true],top 37⟩
noncomputable def zcj:Fd:=⟨"_law_kind",["_law_state"],["_law_state","_law_many_here"],[true],top 38⟩
noncomputable def zbn:Fd:=⟨"_law_of_kind",["_law_state","_law_kind_here"],["_law_state","_law_kind_here"],[true,false],top 39⟩
noncomputable def zat:Fd:=⟨"_law_small_right",["_law_kind_here"],["_law_kind_here","_law_lots","_law_word_here","_law_told","_law_fits"],[false],top 40⟩
noncomputable def zn7:Fd:=⟨"law",["_law_script"],["_law_script","_law_state","_law_turn","_law_many_here","_law_kind_here","_law_other","_law_one","_law_its"],[false],top 41⟩
noncomputable def T:List Fd:=[zd1,zqe,zfw,ziu,zd8,zqw,zj3,zd0,zcg,zeg,zjp,zby,zfn,zd7,zeh,zbk,zit,zb4,zdm,zi5,zfx,zfo,zev,zce,zcl,zcf,zcw,zch,zbz,zbs,zcu,zcn,zcj,zbn,zat,zn7]
noncomputable def bn:List Str:=["abs","all","d _law_lots","dict","enumerate","int","len","max","range","reversed","sorted","tuple","zip"]
theorem sFq {d:Nat}{x:Str}{t:Fd}{g:(Str->Fn)->GS}(h:T.find? (·.nm == x)=some t)(b:∀Ψ d,zai T bn Ψ (d+2) t=some (g Ψ)):sem T bn (d+3) x=zac t.m t.N.length (g (sem T bn (d+2))):=zax h (b _ d)
theorem zwz (d:Nat):sem T bn (d+3) "all_yes"=zac [false] 1 (zwv (sem T bn (d+2))):=sFq (t:=zd1) (by kernel_rfl) λ_ _=>by kernel_rfl
theorem yat (d:Nat):sem T bn (d+3) "says"=zac [false,false] 2 (ybf (sem T bn (d+2))):=sFq (t:=zqe) (by kernel_rfl) λ_ _=>by kernel_rfl
theorem zrw (d:Nat):sem T bn (d+3) "weight"=zac [false] 2 (z2p (sem T bn (d+2))):=sFq (t:=zfw) (by kernel_rfl) λ_ _=>by kernel_rfl
theorem z71 (d:Nat):sem T bn (d+3) "where"=zac [false] 1 (z8c (sem T bn (d+2))):=sFq (t:=ziu) (by kernel_rfl) λ_ _=>by kernel_rfl
theorem zk3 (d:Nat):sem T bn (d+3) "word_at"=zac [false] 3 (zlf (sem T bn (d+2))):=sFq (t:=zd8) (by kernel_rfl) λ_ _=>by kernel_rfl
theorem z81 (d:Nat):sem T bn (d+3) "plus"=zac [false,false] 2 (z95 (sem T bn (d+2))):=sFq (t:=zqw) (by kernel_rfl) λ_ _=>by kernel_rfl
theorem zpf (d:Nat):sem T bn (d+3) "times"=zac [false,false] 2 (z5w (sem T bn (d+2))):=sFq (t:=zj3) (by kernel_rfl) λ_ _=>by kernel_rfl
theorem zmt (d:Nat):sem T bn (d+3) "is_even"=zac [false,false] 2 (zyu (sem T bn (d+2))):=sFq (t:=zd0) (by kernel_rfl) λ_ _=>by kernel_rfl
theorem znp (d:Nat):sem T bn (d+3) "letter_no"=zac [false,false] 2 (zps (sem T bn (d+2))):=sFq (t:=zcg) (by kernel_rfl) λ_ _=>by kernel_rfl
theorem zys (d:Nat):sem T bn (d+3) "stepped"=zac [false,false,false] 4 (zy5 (sem T bn (d+2))):=sFq (t:=zeg) (by kernel_rfl) λ_ _=>by kernel_rfl
theorem z4s (d:Nat):sem T bn (d+3) "steps"=zac [false,false] 4 (z66 (sem T bn (d+2))):=sFq (t:=zjp) (by kernel_rfl) λ_ _=>by kernel_rfl
theorem zkv (d:Nat):sem T bn (d+3) "term_order"=zac [false] 1 (zed (sem T bn (d+2))):=sFq (t:=zby) (by kernel_rfl) λ_ _=>by kernel_rfl
theorem z2y (d:Nat):sem T bn (d+3) "degree"=zac [false] 1 (zk1 (sem T bn (d+2))):=sFq (t:=zfn) (by kernel_rfl) λ_ _=>by kernel_rfl
theorem zui (d:Nat):sem T bn (d+3) "word_of"=zac [false,false] 3 (zh7 (sem T bn (d+2))):=sFq (t:=zd7) (by kernel_rfl) λ_ _=>by kernel_rfl
theorem zvo (d:Nat):sem T bn (d+3) "poly_of"=zac [false,false] 3 (zhx (sem T bn (d+2))):=sFq (t:=zeh) (by kernel_rfl) λ_ _=>by kernel_rfl
noncomputable def zdt (Ψ:Str->Fn):GS:=(gRet (zwt Ψ))
theorem zdu (d:Nat):sem T bn (d+3) "longer_terms"=zac [false,false] 2 (zdt (sem T bn (d+2))):=sFq (t:=zbk) (by kernel_rfl) λ_ _=>by kernel_rfl
theorem zxn (d:Nat):sem T bn (d+3) "terms"=zac [false] 6 (zej (sem T bn (d+2))):=sFq (t:=zit) (by kernel_rfl) λ_ _=>by kernel_rfl
theorem zkm (d:Nat):sem T bn (d+3) "term_words"=zac [false] 1 (zeu (sem T bn (d+2))):=sFq (t:=zb4) (by kernel_rfl) λ_ _=>by kernel_rfl
noncomputable def zdh (Ψ:Str->Fn):GS:=(gRet (gOp2 #v[0,0,1] #v[1] (gArg (gOpN oLen (gCns (gArg (zab [false] (Ψ "terms") (gCns #v[0,4] gA0))) gA0)))))
theorem ztn (d:Nat):sem T bn (d+3) "how_many"=zac [false] 1 (zdh (sem T bn (d+2))):=sFq (t:=zdm) (by kernel_rfl) λ_ _=>by kernel_rfl
theorem e_is_in (d:Nat):sem T bn (d+3) "is_in"=zac [false,false] 4 (zrc (sem T bn (d+2))):=sFq (t:=zi5) (by kernel_rfl) λ_ _=>by kernel_rfl
theorem zp5 (d:Nat):sem T bn (d+3) "beside"=zac [false] 3 (zgk (sem T bn (d+2))):=sFq (t:=zfx) (by kernel_rfl) λ_ _=>by kernel_rfl
theorem z1w (d:Nat):sem T bn (d+3) "checks"=zac [false] 2 (zkr (sem T bn (d+2))):=sFq (t:=zfo) (by kernel_rfl) λ_ _=>by kernel_rfl
noncomputable def ze3 (Ψ:Str->Fn):GE:=za9 [none,none,some 1] (.nm 1) (zar (zab [false] (Ψ "checks") (gCns #v[0,4] gA0))) gYes (gIf (zaj (zab [false,false] (Ψ "is_even") (gCns #v[2,4] (gCns #v[1,4] gA0)))) (gC (.int 0)) (gC (.int 1)))
noncomputable def zer (Ψ:Str->Fn):GS:=(gRet (gOpN zbc (gCns (gArg (ze3 Ψ)) gA0)))
theorem zx0 (d:Nat):sem T bn (d+3) "told_by"=zac [false,false] 2 (zer (sem T bn (d+2))):=sFq (t:=zev) (by kernel_rfl) λ_ _=>by kernel_rfl
noncomputable def zb2 (Ψ:Str->Fn):GS:=(gIfS (ztb (zaj (zab [false,false] (Ψ "is_even") (gCns #v[1,4] #v[9,9])))) (zcd [] 2) zc1)
noncomputable def zc5 (Ψ:Str->Fn):GS:=gFor [] (.nm 2) (zar (zab [false] (Ψ "checks") (gCns #v[0,4] gA0))) (zb2 Ψ)
noncomputable def zcy (Ψ:Str->Fn):GS:=(gSeq (zc5 Ψ) (gRet (gC .non)))
theorem zox (d:Nat):sem T bn (d+3) "odd_check"=zac [false,false] 3 (zcy (sem T bn (d+2))):=sFq (t:=zce) (by kernel_rfl) λ_ _=>by kernel_rfl
theorem zoh (d:Nat):sem T bn (d+3) "_law_hand"=zac [false] 6 (z89 (sem T bn (d+2))):=sFq (t:=zcl) (by kernel_rfl) λ_ _=>by kernel_rfl
theorem zcq (d:Nat):sem T bn (d+3) "_law_take"=zac [true,false] 4 (zyv (sem T bn (d+2))):=sFq (t:=zcf) (by kernel_rfl) λ_ _=>by kernel_rfl
theorem zoz (d:Nat):sem T bn (d+3) "_law_bits"=zac [true,false] 6 (z9x (sem T bn (d+2))):=sFq (t:=zcw) (by kernel_rfl) λ_ _=>by kernel_rfl
theorem zn8 (d:Nat):sem T bn (d+3) "_law_word"=zac [false] 3 (ybr (sem T bn (d+2))):=sFq (t:=zch) (by kernel_rfl) λ_ _=>by kernel_rfl
theorem zlj (d:Nat):sem T bn (d+3) "_law_terms"=zac [false,false] 4 (zqp (sem T bn (d+2))):=sFq (t:=zbz) (by kernel_rfl) λ_ _=>by kernel_rfl
theorem zjd (d:Nat):sem T bn (d+3) "_law_values"=zac [false,false] 5 (zkw (sem T bn (d+2))):=sFq (t:=zbs) (by kernel_rfl) λ_ _=>by kernel_rfl
theorem zpp (d:Nat):sem T bn (d+3) "_law_poly"=zac [true,false,false] 4 (zvp (sem T bn (d+2))):=sFq (t:=zcu) (by kernel_rfl) λ_ _=>by kernel_rfl
theorem zo8 (d:Nat):sem T bn (d+3) "_law_many"=zac [true] 1 (z3v (sem T bn (d+2))):=sFq (t:=zcn) (by kernel_rfl) λ_ _=>by kernel_rfl
noncomputable def zck (Ψ:Str->Fn):GS:=(gSeq (gSet [0] 1 (zab [true] (Ψ "_law_many") (gCns (zaa 0) gA0))) (gRet (zbq (gCns #v[1,4] (gCns (gArg (zab [true,false] (Ψ "_law_take") (gCns (zaa 0) (gCns (gArg (gOp2 oAdd (zaa 1) #v[1])) gA0)))) gA0)))))
theorem zos (d:Nat):sem T bn (d+3) "_law_kind"=zac [true] 2 (zck (sem T bn (d+2))):=sFq (t:=zcj) (by kernel_rfl) λ_ _=>by kernel_rfl
noncomputable def zbl (Ψ:Str->Fn):GS:=(gRet (zab [false,false] (Ψ "_law_values") (gCns (gArg (gOp2 oIx (zaa 1) #v[0])) (gCns (gArg (zab [true,false,false] (Ψ "_law_poly") (gCns (zaa 0) (gCns (gArg (gOp2 oIx (zaa 1) #v[0])) (gCns (gArg (gOp2 oIx (zaa 1) #v[1])) gA0))))) gA0))))
theorem zhv (d:Nat):sem T bn (d+3) "_law_of_kind"=zac [true,false] 2 (zbl (sem T bn (d+2))):=sFq (t:=zbn) (by kernel_rfl) λ_ _=>by kernel_rfl
noncomputable def zap (Ψ:Str->Fn):GE:=za9 [none,none] (.nm 1) (zar (gVar 3)) gYes (gOp2 oEq (zaa 1) #v[0])
noncomputable def zan (Ψ:Str->Fn):GS:=(gSeq (gSet [] 3 (zab [false,false] (Ψ "told_by") (gCns #v[0,4] #v[9,9]))) (gSeq (zub 1 (gVar 3) (gOp2 oAdd (gArg (zhl 1 (gVar 3) (gC (.int 0)))) #v[1])) (gSeq #v[3,12] #v[5,8])))
noncomputable def za7 (Ψ:Str->Fn):GS:=gFor [] (.nm 2) (zbp (gCns (gArg (gOp2 #v[0,0,1] #v[1] (gArg (gOp2 #v[0,0,1] #v[1] #v[6,10])))) gA0)) (zan Ψ)
noncomputable def za8 (Ψ:Str->Fn):GE:=za9 [none,none,some 0] (.nm 1) (zup 1) gYes (gOp2 oEq (zaa 1) (gArg (zab [false] (Ψ "how_many") #v[9,9])))
noncomputable def zav (Ψ:Str->Fn):GS:=(gSeq (gSet [] 1 z75) (gSeq (za7 Ψ) (gRet (gOpN (oBl λbs=>bs.all id) (gCns (gArg (za8 Ψ)) gA0)))))
theorem zeq (d:Nat):sem T bn (d+3) "_law_small_right"=zac [false] 5 (zav (sem T bn (d+2))):=sFq (t:=zat) (by kernel_rfl) λ_ _=>by kernel_rfl
noncomputable def zr4 (Ψ:Str->Fn):GS:=(gSeq (gSet [] 3 (gOp2 oAdd #v[1] (gArg (zab [true,false] (Ψ "_law_take") (gCns (zaa 1) (gCns #v[3] gA0)))))) (gIfS (ztb (zaj (zab [false] (Ψ "_law_small_right") (gCns (gArg (zbq (gCns #v[3,4] (gCns (gArg (zab [true,false] (Ψ "_law_take") (gCns (zaa 1) (gCns (gArg (gOp2 oAdd (zaa 3) #v[1])) gA0)))) gA0)))) gA0)))) (gRet (gC (.bl false))) zc1))
noncomputable def zv2 (Ψ:Str->Fn):GS:=gFor [] (.nm 2) (zbp (gCns #v[2] gA0)) (zr4 Ψ)
noncomputable def zm4 (Ψ:Str->Fn):GS:=(gSeq (gSet [] 4 (zab [true] (Ψ "_law_kind") (gCns (zaa 1) gA0))) (gSeq (gSet [] 5 (zab [false] (Ψ "beside") (gCns #v[4,4] gA0))) (gIfS (zaj (gOp2 zgw (zaa 5) (gArg (gC .non)))) (gSeq (gPar [] 6 7 (zab [true,false] (Ψ "_law_of_kind") (gCns (zaa 1) (gCns #v[4,4] gA0))) (zab [true,false] (Ψ "_law_of_kind") (gCns (zaa 1) (gCns #v[5,4] gA0)))) (gIfS (gOrT (zaj (gOp2 zgw (gArg (zab [false,false] (Ψ "is_even") (gCns (gArg (zab [false] (Ψ "_law_word") (gCns #v[6,4] gA0))) (gCns (gArg (zab [false] (Ψ "_law_word") (gCns #v[7,4] gA0))) gA0)))) (gArg (gC (.bl true))))) (zaj (gOp2 oNe (gArg (zab [false] (Ψ "beside") (gCns #v[5,4] gA0))) (zaa 4)))) (gRet (gC (.bl false))) zc1)) zc1)))
noncomputable def zua (Ψ:Str->Fn):GS:=gFor [] (.nm 2) (zbp (gCns #v[2] gA0)) (zm4 Ψ)
noncomputable def z6l (Ψ:Str->Fn):GS:=(gSeq (gSet [] 1 (zab [false] (Ψ "_law_hand") (gCns #v[0,4] gA0))) (gSeq (zv2 Ψ) (gSeq (zua Ψ) (gRet (gC (.bl true))))))
theorem ycv (d:Nat):sem T bn (d+3) "law"=zac [false] 8 (z6l (sem T bn (d+2))):=sFq (t:=zn7) (by kernel_rfl) λ_ _=>by kernel_rfl
theorem z12 {Ψ:Str->Fn}(hM:z3m (Ψ "_law_many"))(hT:zia (Ψ "_law_take")):z6p (zac [true] 2 (zck Ψ)):=λk st hs hk=>by
 obtain⟨st1,m,e1,g1,m1,m6⟩:=hM k st hs #v[];obtain⟨m,rfl⟩:=Ga (show 0<=m by omega);obtain⟨st2,t,e2,g2,t0,t1⟩:=hT (k+1) st1 ((m:Int)+1) g1 #v[] #v[] #v[];obtain⟨t,rfl⟩:=Ga t0;refine⟨st2,m,t,?_,g2,by omega,by omega,by omega⟩;unfold zck kdW;simp! [e1,e2]
theorem zso {Ψ:Str->Fn}(hP:z4a (Ψ "_law_poly"))(hV:zrz (Ψ "_law_values")):zty (zac [true,false] 2 (zbl Ψ)):=λk st m t hs hk hm ht=>by
 obtain⟨st1,ts,e1,g1,sub⟩:=hP k st m t hs hk hm #v[];obtain⟨tl,ta⟩:=zd9 (m:=m) (most:=t) hm #v[];have e4:=hV m ts hm (by have:=sub.length_le;omega) (λt ht l hl=>by have:=(ta t (sub.mem ht)).2 l hl;omega) (λt ht=>by have:=(ta t (sub.mem ht)).1;omega);refine⟨st1,ts,?_,g1,sub⟩;unfold zbl;simp! [zw2,z5z,ycm,e1,e4]
theorem zqg {Ψ:Str->Fn}(hW:ziz (Ψ "weight"))(hA:z0n (Ψ "times")):zie (zac [false,false] 2 (zyu Ψ)):=λxs ys bx by' hz=>z53 hW hA bx by' hz
noncomputable def endF {α:Type} (r:α->W × Bool):Option α->Fl
 |some x=>.ret (r x)
 |none=>.nx
theorem zq2 {body:GS}{a b:Option (W × Bool)}{α:Type} (f:α->W) (p:α->Bool) (r:α->W × Bool):∀(L:List α),(∀x∈L,p x=true->∃v,body [a,b,some (f x,false)]=some ([a,b,v],.ret (r x)))->(∀x∈L,p x=false->∃v,body [a,b,some (f x,false)]=some ([a,b,v],.nx))->∀v,∃v',zhf [] (.nm 2) body (L.map f) [a,b,v]=some ([a,b,v'],endF r (L.find? p))
  |[],_,_,v=>⟨v,rfl⟩
  | x::L,h1,h2,v=>by
    cases hp:p x with
    | true =>
      obtain⟨v',e⟩:=h1 x Ao hp;refine⟨v',?_⟩;rw[Cz,hp];dsimp only [endF];show (match body [a,b,#v[f x,6]] with|some (e2,.nx)=>_|some (e2,.cnt)=>_|some (e2,.brk)=>_|some (e2,.ret r)=>_|none=>_)=_;rw[e]
    | false =>
      obtain⟨v',e⟩:=h2 x Ao hp;obtain⟨v2,e2⟩:=zq2 f p r L (λx hx=>h1 x (Aj _ hx)) (λx hx=>h2 x (Aj _ hx)) v';refine⟨v2,?_⟩;rw[Cz,hp];show (match body [a,b,#v[f x,6]] with|some (e2,.nx)=>zhf [] (.nm 2) body (L.map f) e2|some (e2,.cnt)=>_|some (e2,.brk)=>_|some (e2,.ret r)=>_|none=>_)=_;rw[e];exact e2
noncomputable def oddP (m:Nat) (xs:List Int) (x:List Nat):Bool:=!decide (dotP xs (zb6 m x)=0)
noncomputable def oddW (m t:Nat) (xs:List Int):W:=match (chkT m t).find? (oddP m xs) with|some x=>.int (wT m x)|none=>.non
noncomputable def zzi (Φ:Fn):Prop:=∀(m t:Nat) (xs:List Int),1<=m->m<=6->t<=m->xs.length=2 ^ m->Bits xs->Φ [kdW m t,.int (wordOf xs)]=some ([kdW m t,.int (wordOf xs)],(oddW m t xs,false))
theorem ybl {Ψ:Str->Fn} (hC:zfp (Ψ "checks")) (hE:zie (Ψ "is_even")):zzi (zac [false,false] 3 (zcy Ψ)):=fun m t xs h1 h6 ht lx bx=>by
  have p6:=zd3 h6;have e:=hC m t h1 h6 ht;have q:∀x,Ψ "is_even" [.int (wordOf xs),.int (wT m x)]=some ([.int (wordOf xs),.int (wT m x)],(.bl (decide (dotP xs (zb6 m x)=0)),false)):=fun x=>hE xs (zb6 m x) bx (zfk m [x]) (by omega);obtain ⟨v',lp⟩:=zq2 (body:=zb2 Ψ) (a:=some (kdW m t,false)) (b:=some (.int (wordOf xs),false)) (fun x=>.int (wT m x)) (oddP m xs) (fun x=>(.int (wT m x),false)) (chkT m t) (fun x _ hp=>by
    have q:=q x;have d:decide (dotP xs (zb6 m x)=0)=false:=by unfold oddP at hp;cases z:decide (dotP xs (zb6 m x)=0)<;>rw[z] at hp<;>first|rfl|cases hp
    rw[d] at q;refine⟨#v[(wT m x),0],?_⟩;unfold zb2;simp! [q]) (λx _ hp=>by
    have q:=q x;have d:decide (dotP xs (zb6 m x)=0)=true:=by unfold oddP at hp;cases z:decide (dotP xs (zb6 m x)=0)<;>rw[z] at hp<;>first|rfl|cases hp
    rw[d] at q;refine⟨#v[(wT m x),0],?_⟩;unfold zb2;simp! [q]) none
  have it:zar (zab [false] (Ψ "checks") (gCns (gArg (gVar 0)) gA0)) #v[0,12]=some (#v[0,12],(chkT m t).map fun x=>.int (wT m x)):=by
    rw[Ed] at e;have e:Ψ "checks" [kdW m t]=some ([kdW m t],(.tup ((chkT m t).map λx=>.int (wT m x)),false)):=e;simp! [e]
  have l1:zc5 Ψ #v[0,12]=some ([some (kdW m t,false),some (.int (wordOf xs),false),v'],endF (fun x=>(.int (wT m x),false)) ((chkT m t).find? (oddP m xs))):=by
    unfold zc5 gFor;rw[it];exact lp
  unfold oddW;unfold zcy;cases hf:(chkT m t).find? (oddP m xs) with
  | some x =>
    rw[hf] at l1;exact za1 rfl (z4j l1) rfl
  | none =>
    rw[hf] at l1;refine za1 (en:=[#v[kdW m t,6],#v[(wordOf xs),0],v']) rfl (zct l1 ?_) rfl;simp! []
noncomputable def zp0 (Φ:Fn):Prop:=∀(m t:Nat) (xs:List Int),1<=m->m<=6->t<=m->xs.length=2 ^ m->Bits xs->Φ [kdW m t,.int (wordOf xs)]=some ([kdW m t,.int (wordOf xs)],(.tup (((chkT m t).map λx=>dotP xs (zb6 m x)).map W.int),false))
theorem z6q {Ψ:Str->Fn} (hC:zfp (Ψ "checks")) (hE:zie (Ψ "is_even")):zp0 (zac [false,false] 2 (zer Ψ)):=fun m t xs h1 h6 ht lx bx=>by
  have p6:=zd3 h6;have e:=hC m t h1 h6 ht;have lz:=zwd (t:=t) h6;have c1:ze3 Ψ [some (kdW m t,false),some (.int (wordOf xs),false)]=some ([some (kdW m t,false),some (.int (wordOf xs),false)],(.lst (((chkT m t).map fun x=>dotP xs (zb6 m x)).map W.int),true)):=by
    unfold ze3;refine z3g (k:=1) (ws:=((chkT m t).map (wT m)).map W.int) (x:=#v[(wordOf xs),0]) (by simp! [e]) (by rw[Ab,Ab];omega) (by rw[Ab,Ab,Ab,Ab]) rfl rfl (λ_ _=>rfl) (λi v0 w r hw hr=>?_);rw[Ai,Ai] at hw hr;cases ha:(chkT m t)[i]? with
    |none=>rw[ha] at hw;exact noSome hw
    | some x =>
      rw[ha] at hw hr;obtain rfl:=sI hw;obtain rfl:=sI hr;have q:Ψ "is_even" [.int (wordOf xs),.int (wT m x)]=some ([.int (wordOf xs),.int (wT m x)],(.bl (decide (dotP xs (zb6 m x)=0)),false)):=hE xs (zb6 m x) bx (zfk m [x]) #v[];refine⟨#v[(wT m x),0],false,?_⟩;dsimp only;rcases zu8 xs (zb6 m x) with z|z
      · rw [z] at q ⊢
        have d0:decide ((0:Int)=0)=true:=rfl;rw[d0] at q;simp! [q]
      · rw [z] at q ⊢
        have d0:decide ((1:Int)=0)=false:=rfl;rw[d0] at q;simp! [q]
  have ot:zbc [.lst (((chkT m t).map λx=>dotP xs (zb6 m x)).map W.int)]=#v[(((chkT m t).map λx=>dotP xs (zb6 m x)).map W.int),3]:=rfl;unfold zer;simp! [c1,ot]
noncomputable def dkL (t:List Int):DKey:=.inr (t.map λn=>(Sum.inl n:Key))
noncomputable def rowI (t:List Int):W:=.tup (t.map W.int)
theorem zyd:∀t:List Int,keysF (t.map W.int)=some (t.map fun n=>(Sum.inl n:Key))
  |[]=>rfl
  | n::t=>by
    show (keysF (t.map W.int)).bind (λks=>some ((Sum.inl n:Key)::ks))=_;rw[zyd t];rfl
theorem keyD_l (t:List Int):keyD (rowI t)=some (dkL t):=by
 show (keysF (t.map W.int)).bind (λks=>some (Sum.inr ks:DKey))=_;rw[zyd];rfl
theorem dkL_inj (a b:List Int)(h:dkL a=dkL b):a=b:=(List.map_inj_right (f:=λn:Int=>(Sum.inl n:Key)) (λx y e=>Sum.inl.inj e)).mp (Sum.inr.inj h)
theorem zot (t:List Int)(L:List (List Int)):zhb (dkL t) (L.map dkL)=true:=by
 unfold zhb;rw[List.all_map,Bd];intro x _;rfl
noncomputable def oc (pre:List (List Int)) (t:List Int):W:=.int (pre.count t:Nat)
theorem zri (pre:List (List Int))(t:List Int):(pre++[t]).count t=pre.count t+1:=by rw[List.count_append,List.count_singleton_self]
theorem z33 (pre:List (List Int)){t q:List Int}(h:q≠t):(pre++[t]).count q=pre.count q:=by
 rw[List.count_append,List.count_singleton,if_neg (by simpa using λz=>h z.symm)];rfl
theorem yd1 {α:Type}{a b c d:List α}(h:a=b)(h' : c=d):a++c=b++d:=by rw[h,h']
structure KeysOf (D pre:List (List Int)):Prop where
 nd:D.Nodup
 mem:∀t,t∈D↔t∈pre
 len:D.length<=pre.length
theorem KeysOf.next {D D' pre:List (List Int)}{x:List Int}(k:KeysOf D pre)(e:D'=if x∈D then D else D++[x]):KeysOf D' (pre++[x]):=by
 by_cases z:x∈D
 ·rw[if_pos z] at e;subst e;refine⟨k.nd,λy=>?_,by rw[Ba];have:=k.len;omega⟩;rw[k.mem,Bj,Aw];exact⟨.inl,λq=>q.elim id λq=>q ▸ (k.mem x).mp z⟩
 ·rw[if_neg z] at e;subst e;refine⟨List.nodup_append.mpr ⟨k.nd,by simp,λa ha b hb=>?_⟩,λy=>?_,by rw[Ba,Ba];have:=k.len;exact Nat.add_le_add_right this 1⟩
  ·rw[Aw] at hb;exact λq=>z (by rw[<-hb,<-q];exact ha)
  ·rw[Bj,Bj,k.mem]
noncomputable def tl (m t w:Nat):List Int:=(chkT m t).map λx=>dotP (tab (2 ^ m) (bitF w)) (zb6 m x)
noncomputable def tlL (m t:Nat):List (List Int):=(List.range (2 ^ 2 ^ m)).map (tl m t)
noncomputable def codI (a:Nat) (ns:List Int):Nat:=ns.foldl (λa x=>2 * a+x.toNat) a
theorem yc6:∀m:Fin 4,∀w:Fin 256,w.val<2 ^ 2 ^ m.val->wordOf (tab (2 ^ m.val) (bitF w.val))=(w.val:Int):=by decide +kernel
theorem in_ok:∀m t:Fin 4,t.val<=m.val->∀w:Fin 256,w.val<2 ^ 2 ^ m.val->((tl m.val t.val w.val).all λx=>decide (x=0))=decide (mxL (zhk (duT m.val (bitF w.val))) (-1)<=(t.val:Int)):=by decide +kernel
noncomputable def cdL (m t:Nat):List Nat:=(List.range (2 ^ 2 ^ m)).map λw=>codI 0 (tl m t w)
noncomputable def cdOk (m t:Nat):Bool:=(List.range (2 ^ (chkT m t).length)).all λc=>(cdL m t).count c == 2 ^ (zae m t).length
theorem cd1:cdOk 1 0=true/\cdOk 1 1=true/\cdOk 2 0=true/\cdOk 2 1=true/\cdOk 2 2=true:=by decide +kernel
theorem cd30:cdOk 3 0=true:=by decide +kernel
theorem cd31:cdOk 3 1=true:=by decide +kernel
theorem cd32:cdOk 3 2=true/\cdOk 3 3=true:=by decide +kernel
theorem ycq {m t:Nat}(h1:1<=m)(h3:m<=3)(ht:t<=m):cdOk m t=true:=by
 have e:m=1\/m=2\/m=3:=by omega
 rcases e with rfl|rfl|rfl
 ·have e : t = 0 \/ t = 1:=by omega
  rcases e with rfl|rfl
  ·exact cd1.1
  ·exact cd1.2.1
 ·have e : t = 0 \/ t = 1 \/ t = 2:=by omega
  rcases e with rfl|rfl|rfl
  ·exact cd1.2.2.1
  ·exact cd1.2.2.2.1
  ·exact cd1.2.2.2.2
 ·have e : t = 0 \/ t = 1 \/ t = 2 \/ t = 3:=by omega
  rcases e with rfl|rfl|rfl|rfl
  ·exact cd30
  ·exact cd31
  ·exact cd32.1
  ·exact cd32.2
theorem znq (m t w:Nat):Bits (tl m t w):=λx hx=>by
 obtain⟨y,_,rfl⟩:=Bv.mp hx;exact zu8 _ _
theorem zpz (m t w:Nat):(tl m t w).length=(chkT m t).length:=Ab _
theorem zyk:∀{a b:List Int} (n n' : Nat),a.length=b.length->Bits a->Bits b->codI n a=codI n' b->n=n'/\a=b
  |[],[],n,n',_,_,_,e=>⟨e,rfl⟩
  |[],_::_,_,_,h,_,_,_=>nomatch h
  |_::_,[],_,_,h,_,_,_=>nomatch h
  | x::a,y::b,n,n',h,ha,hb,e=>by
    obtain⟨h1,h2⟩:=zyk (a:=a) (b:=b) (2 * n+x.toNat) (2 * n' + y.toNat) (Nat.succ.inj h) (λz hz=>ha z (Aj _ hz)) (λz hz=>hb z (Aj _ hz)) e;have hx:=ha x Ao;have hy:=hb y Ao;subst h2;rcases hx with rfl|rfl<;>rcases hy with rfl|rfl
    · exact ⟨by have : 2 * n + 0 = 2 * n' + 0 := h1
                omega,rfl⟩
    · exact absurd (show 2 * n+0=2 * n' + 1 from h1) #v[]
    · exact absurd (show 2 * n+1=2 * n' + 0 from h1) #v[]
    · exact ⟨by have : 2 * n + 1 = 2 * n' + 1 := h1
                omega,rfl⟩
theorem z3f:∀{a:List Int} (n:Nat),Bits a->codI n a < (n+1) * 2 ^ a.length
  |[],n,_=>by show n<(n+1) * 1;omega
  | x::a,n,ha=>by
    have ih:=z3f (a:=a) (2 * n+x.toNat) λz hz=>ha z (Aj _ hz);have hx:x.toNat<=1:=by rcases ha x Ao with rfl|rfl<;>decide
    show codI (2 * n+x.toNat) a<_;rw[Bc,Nat.pow_succ];have:(2 * n+x.toNat+1) * 2 ^ a.length<=(2 * n+2) * 2 ^ a.length:=Nat.mul_le_mul_right _ #v[];have e:(n+1) * (2 ^ a.length * 2)=(2 * n+2) * 2 ^ a.length:=by rw[Nat.mul_comm (2 ^ a.length) 2,<-Nat.mul_assoc,Nat.add_mul,Nat.one_mul,Nat.mul_comm n 2]
    omega
theorem zuk {α β:Type} [BEq α] [LawfulBEq α] [BEq β] [LawfulBEq β] (f:α->β) {x:α}:∀{L:List α},(∀y∈L,f y=f x->y=x)->(L.map f).count (f x)=L.count x
  |[],_=>rfl
  | y::L,h=>by
    have ih:=zuk f (x:=x) (L:=L) λz hz=>h z (Aj _ hz);rw[Ah,List.count_cons,List.count_cons,ih];by_cases e:y=x
    · subst e;rw[if_pos (beq_self_eq_true _),if_pos (beq_self_eq_true _)]
    · rw[if_neg (by simpa using λz=>e (h y Ao z)),if_neg (by simpa using e)]
theorem yam {m t:Nat}(h1:1<=m)(h3:m<=3)(ht:t<=m){x:List Int}(hx:x∈tlL m t):(tlL m t).count x=2 ^ (zae m t).length:=by
 obtain⟨w,_,rfl⟩:=Bv.mp hx;have c:=Bd.mp (ycq h1 h3 ht) (codI 0 (tl m t w)) (Bi.mpr (by
  have:=z3f 0 (znq m t w);rw[zpz,Cf,Nat.one_mul] at this;exact this))
 have c:=Br c;have e:=zuk (codI 0) (x:=tl m t w) (L:=tlL m t) λy hy q=>by
  obtain⟨v,_,rfl⟩:=Bv.mp hy;exact (zyk 0 0 (by rw[zpz,zpz]) (znq m t v) (znq m t w) q).2
 rw[<-e,<-c];unfold tlL cdL;rw[Ed];rfl
noncomputable def z9b (Φ:Fn):Prop:=∀m t:Nat,1<=m->m<=6->t<=m->Φ [kdW m t]=some ([kdW m t],(.int (1 * 2 ^ (zae m t).length),false))
theorem ybc {Ψ:Str->Fn}(hT:zn1 (Ψ "terms")):z9b (zac [false] 1 (zdh Ψ)):=λm t h1 h6 ht=>by
 have e:=hT m t h1 h6 ht;have l64:=(zd9 (m:=m) (most:=t) h6 #v[]).1;have p1:=pow1 (l:=(zae m t).length) #v[];unfold zdh;simp! [e,Ab,p1]
theorem ycs {Ψ:Str->Fn}{ns:List Int}{v0 v1 v2 v4:Option (W × Bool)} (hl:ns.length<=1000):zap Ψ [v0,v1,v2,some (rowI ns,false),v4]=some ([v0,v1,v2,some (rowI ns,false),v4],(.lst ((ns.map fun x=>decide (x=0)).map W.bl),true)):=by
  unfold zap;refine zk9 (cap:=[none,none]) (it:=zar (gVar 3)) (xs:=[]) (e0:=[v0,v1,v2,#v[rowI ns,6],v4]) (ws:=ns.map W.int) rfl (by rw[Ab];omega) (by rw[Ab,Ab,Ab]) rfl rfl rfl (λ_ _=>rfl) λi u0 w r hw hr=>?_;rw[Ai] at hw;rw[Ai,Ai] at hr;cases hn:ns[i]? with
  |none=>rw[hn] at hw;exact noSome hw
  | some n =>
    rw[hn] at hw hr;obtain rfl:=sI hw;obtain rfl:=sI hr;exact⟨#v[n,0],false,by simp! []⟩
theorem z76 {m t w:Nat}:oIs (oddW m t (tab (2 ^ m) (bitF w))) .non=some (.bl ((tl m t w).all fun x=>decide (x=0)),false):=by
  unfold oddW;cases h:(chkT m t).find? (oddP m (tab (2 ^ m) (bitF w))) with
  | none =>
    have a:((tl m t w).all fun x=>decide (x=0))=true:=Bd.mpr fun x hx=>by
      obtain⟨y,hy,rfl⟩:=Bv.mp hx;have:=List.find?_eq_none.mp h y hy;unfold oddP at this;simpa using this
    rw[a];rfl
  | some y =>
    have a:((tl m t w).all fun x=>decide (x=0))=false:=by
      have p:=List.find?_some h;have hy:=List.mem_of_find?_eq_some h;rw[<-Bh];intro z;have:=Bd.mp z _ (Bv.mpr ⟨y,hy,rfl⟩);unfold oddP at p;rw[this] at p;exact nomatch p
    rw[a];rfl
theorem ydt {Ψ:Str->Fn}(hB:zp0 (Ψ "told_by"))(hO:zzi (Ψ "odd_check"))(hI:IsIn (Ψ "is_in")){m t w:Nat}{pre D:List (List Int)}{v3 v4:Option (W × Bool)}(h1:1<=m)(h3:m<=3)(ht:t<=m)(hw:w<2 ^ 2 ^ m)(hl:D.length<=1000)(hd:∀x,x∈D↔x∈pre):∃(D' : List (List Int)) (w3 w4:Option (W × Bool)),zan Ψ [#v[kdW m t,6],some (.dct (D.map dkL) (D.map (oc pre)),true),#v[(w:Nat),0],v3,v4]=some ([#v[kdW m t,6],some (.dct (D'.map dkL) (D'.map (oc (pre++[tl m t w]))),true),#v[(w:Nat),0],w3,w4],.nx)/\(D'=if tl m t w∈D then D else D++[tl m t w]):=by
 have s9:(1000:Nat)<sizeLine:=by decide
 have p3:2 ^ 2 ^ m<=256:=by
  have e:m=1\/m=2\/m=3:=by omega
  rcases e with rfl|rfl|rfl<;>decide
 have hf:∀i,Bit (bitF w i):=zqo w;have bx:Bits (tab (2 ^ m) (bitF w)):=zau λi _=>hf i;have wd:=yc6 ⟨m,by omega⟩ ⟨w,by omega⟩ hw;have wd:wordOf (tab (2 ^ m) (bitF w))=(w:Int):=wd;have a1:=hB m t (tab (2 ^ m) (bitF w)) h1 #v[] ht (zas _ _) bx;have a2:=hO m t (tab (2 ^ m) (bitF w)) h1 #v[] ht (zas _ _) bx;have a3:=hI m t (bitF w) #v[] hf;have i1:=in_ok ⟨m,by omega⟩ ⟨t,by omega⟩ ht ⟨w,by omega⟩ hw;have i1:((tl m t w).all λx=>decide (x=0))=decide (mxL (zhk (duT m (bitF w))) (-1)<=(t:Int)):=i1;rw[wd] at a1 a2 a3;rw[<-i1] at a3;have a1:Ψ "told_by" [kdW m t,.int (w:Nat)]=some ([kdW m t,.int (w:Nat)],(rowI (tl m t w),false)):=a1;have a3:Ψ "is_in" [kdW m t,.int (w:Nat)]=some ([kdW m t,.int (w:Nat)],(.bl ((tl m t w).all λx=>decide (x=0)),false)):=a3;have on:=z76 (m:=m) (t:=t) (w:=w);have al:((tl m t w).map λx=>decide (x=0)).all id=(tl m t w).all λx=>decide (x=0):=by rw[List.all_map];rfl
 have tlen:(tl m t w).length<=1000:=by rw[zpz];have:=zwd (m:=m) (t:=t) #v[];omega
 have c1:=λ(v1 v4:Option (W × Bool))=>ycs (Ψ:=Ψ) (ns:=tl m t w) (v0:=#v[kdW m t,6]) (v1:=v1) (v2:=#v[(w:Nat),0]) (v4:=v4) tlen;generalize oddW m t (tab (2 ^ m) (bitF w))=ow at *
 generalize ((tl m t w).all λx=>decide (x=0))=bb at *
 generalize (tl m t w).map (λx=>decide (x=0))=bs at *
 generalize tl m t w=x at *
 have st1:gSet [] 3 (zab [false,false] (Ψ "told_by") (gCns #v[0,4] #v[9,9])) [#v[kdW m t,6],some (.dct (D.map dkL) (D.map (oc pre)),true),#v[(w:Nat),0],v3,v4]=some ([#v[kdW m t,6],some (.dct (D.map dkL) (D.map (oc pre)),true),#v[(w:Nat),0],#v[rowI x,6],v4],.nx):=by
  generalize W.dct (D.map dkL) (D.map (oc pre))=d1;simp! [a1]
 have fin:∀d2:W,gSeq #v[3,12] #v[5,8] [#v[kdW m t,6],#v[d2,5],#v[(w:Nat),0],#v[rowI x,6],v4]=some ([#v[kdW m t,6],#v[d2,5],#v[(w:Nat),0],#v[rowI x,6],some (.bl bb,false)],.nx):=λd2=>by
  have c1:=c1 (#v[d2,5]) (some (.bl bb,false));refine zct (e1:=[#v[kdW m t,6],#v[d2,5],#v[(w:Nat),0],#v[rowI x,6],some (.bl bb,false)]) ?_ ?_
  ·simp! [a2,on]
  ·simp! [c1,al,a3]
 unfold zan;by_cases h:x∈D
 ·have g := get_y (i := 1) (g := gVar 3) (g' := gC (.int 0)) (en := [some (kdW m t, false), some (.dct (D.map dkL) (D.map (oc pre)), true), some (.int (w : Nat), false), some (rowI x, false), v4]) (u := rowI x) (w := oc pre x) rfl rfl rfl (keyD_l x) (by rw [val_map dkL_inj, if_pos h]);have n:gOp2 oAdd (gArg (zhl 1 (gVar 3) (gC (.int 0)))) (gArg (gC (.int 1))) #v[8,7]=some (#v[8,7],(.int ((pre.count x:Nat)+1),false)):=op2_0 (arg_0 g) rfl rfl rfl rfl;have p:=yau (i:=1) (k:=gVar 3) n rfl rfl (keyD_l x) (zot x D) (by rw [Ab];omega);rw [z6j dkL_inj h,z6i dkL_inj _ _ h] at p;have e:(D.map fun q=>if q=x then W.int ((pre.count x:Nat)+1) else oc pre q)=D.map (oc (pre++[x])):=Gx fun q _=>by
   by_cases z:q=x
   ·subst z;rw[if_pos rfl];unfold oc;rw[zri];rfl
   ·rw[if_neg z];unfold oc;rw[z33 pre z]
  rw[e] at p;exact⟨D,_,_,zct st1 (zct p (fin _)),by rw[if_pos h]⟩
 ·have z : pre.count x = 0 := List.count_eq_zero.mpr fun q => h ((hd x).mpr q);have g:=ycp (i:=1) (g:=gVar 3) (g':=gC (.int 0)) (en:=#v[8,7]) (u:=rowI x) rfl rfl rfl (keyD_l x) (by rw [val_map dkL_inj,if_neg h]) (zot x D);have n:gOp2 oAdd (gArg (zhl 1 (gVar 3) (gC (.int 0)))) (gArg (gC (.int 1))) #v[8,7]=some (#v[8,7],(.int 1,false)):=op2_0 (arg_0 g) rfl rfl rfl rfl;have p:=yau (i:=1) (k:=gVar 3) n rfl rfl (keyD_l x) (zot x D) (by rw [Ab];omega);rw [zzn dkL_inj h,z0b dkL_inj _ _ h] at p;have e:(D.map (oc pre))++[W.int 1]=(D++[x]).map (oc (pre++[x])):=by
   rw[Cc];refine yd1 (Gx λq hq=>?_) ?_
   ·unfold oc;rw[z33 pre (t:=x) (q:=q) λz=>h (z ▸ hq)]
   ·show _ = [oc (pre ++ [x]) x];unfold oc;rw[zri,z];rfl
  rw[e,show D.map dkL++[dkL x]=(D++[x]).map dkL by rw[Cc];rfl] at p;exact⟨D++[x],_,_,zct st1 (zct p (fin _)),by rw[if_neg h]⟩
theorem z8u {m:Nat}(h1:1<=m)(h3:m<=3):2 ^ m<=8/\2 ^ 2 ^ m<=256:=by
 have e:m=1\/m=2\/m=3:=by omega
 rcases e with rfl|rfl|rfl<;>decide
theorem ycx {Ψ:Str->Fn}(hB:zp0 (Ψ "told_by"))(hO:zzi (Ψ "odd_check"))(hI:IsIn (Ψ "is_in")){m t:Nat}(h1:1<=m)(h3:m<=3)(ht:t<=m):∃(D:List (List Int)) (w2 w3 w4:Option (W × Bool)),za7 Ψ #v[1,10]=some ([#v[kdW m t,6],some (.dct (D.map dkL) (D.map (oc (tlL m t))),true),w2,w3,w4],.nx)/\KeysOf D (tlL m t):=by
 obtain⟨p1,p2⟩:=z8u h1 h3;have e1:=pow1 (l:=m) #v[];have e2:=pow1 (l:=2 ^ m) #v[];unfold za7;obtain⟨en',h,D',w2,w3,w4,rfl,k'⟩:=zbu (mp:=[]) (T:=.nm 2) (body:=zan Ψ) (λi e=>∃(D' : List (List Int)) (w2 w3 w4:Option (W × Bool)),e=[#v[kdW m t,6],some (.dct (D'.map dkL) (D'.map (oc ((List.range i).map (tl m t)))),true),w2,w3,w4]/\KeysOf D' ((List.range i).map (tl m t))) (zp7 (a:=gArg (gOp2 #v[0,0,1] #v[1] (gArg (gOp2 #v[0,0,1] #v[1] #v[6,10])))) (en:=#v[1,10]) (e1:=#v[1,10]) (n:=2 ^ 2 ^ m) (by simp! [zw2,z5z,e1,zdw,e2]) #v[]) ⟨[],none,none,none,rfl,⟨Gf,λt=>by simp,Bk _⟩⟩ λi w e hw hp=>by
  obtain⟨D',w2,w3,w4,rfl,k'⟩:=hp;obtain⟨li,rfl⟩:=zcp hw;rw[Gh];have kl:=k'.len;rw[Ab,Cn] at kl;obtain⟨D2,x3,x4,b,e2⟩:=ydt (Ψ:=Ψ) (w:=i) (v3:=w3) (v4:=w4) hB hO hI h1 h3 ht li #v[] k'.mem;have en:(List.range (i+1)).map (tl m t)=(List.range i).map (tl m t)++[tl m t i]:=by rw[Ft,Cc];rfl
  refine⟨_,_,rfl,.inl b,D2,_,_,_,by rw[en],?_⟩;rw[en];exact k'.next e2
 rw[zco] at h k';exact⟨D',w2,w3,w4,h,k'⟩
noncomputable def zo0 (Φ:Fn):Prop:=∀m t:Nat,1<=m->m<=3->t<=m->Φ [kdW m t]=some ([kdW m t],#v[9,10])
theorem z05 {Ψ:Str->Fn} (hB:zp0 (Ψ "told_by")) (hO:zzi (Ψ "odd_check")) (hI:IsIn (Ψ "is_in")) (hM:z9b (Ψ "how_many")):zo0 (zac [false] 5 (zav Ψ)):=fun m t h1 h3 ht=>by
  obtain⟨p1,p2⟩:=z8u h1 h3;obtain⟨D,w2,w3,w4,l2,k⟩:=ycx (Ψ:=Ψ) hB hO hI h1 h3 ht;have kl:=k.len;have tn:(tlL m t).length=2 ^ 2 ^ m:=by unfold tlL;rw[Ab,Cn]
  have hm:=hM m t h1 (by omega) ht;have c3:za8 Ψ [some (kdW m t,false),some (.dct (D.map dkL) (D.map (oc (tlL m t))),true),w2,w3,w4]=some ([some (kdW m t,false),some (.dcz (D.map dkL) (D.map (oc (tlL m t))),false),w2,w3,w4],(.lst ((List.replicate D.length true).map W.bl),true)):=by
    unfold za8;refine zk9 (cap:=[none,none,some 0]) (it:=zup 1) (xs:=[#v[kdW m t,6]]) (e0:=[#v[kdW m t,6],some (.dcz (D.map dkL) (D.map (oc (tlL m t))),false),w2,w3,w4]) (ws:=D.map (oc (tlL m t))) rfl (by rw[Ab];omega) (by rw[Ab,Ab,Dc]) rfl rfl rfl (λ_ _=>rfl) λi u0 w r hw hr=>?_;rw[Ai] at hw;cases hn:D[i]? with
    |none=>rw[hn] at hw;exact noSome hw
    | some x =>
      rw[hn] at hw;obtain rfl:=sI hw;have li:i<D.length:=(Ak.mp hn).1;rw[Ai,List.getElem?_replicate,if_pos li] at hr;obtain rfl:=sI hr;have c:=yam h1 h3 ht ((k.mem x).mp (Bn hn));have q:decide (((tlL m t).count x:Int)=1 * 2 ^ (zae m t).length)=true:=Am (by rw[c,Int.one_mul];norm_cast);refine⟨#v[oc (tlL m t) x,6],false,?_⟩;show gOp2 oEq (zaa 1) (gArg (zab [false] (Ψ "how_many") #v[9,9])) [u0,#v[((tlL m t).count x:Nat),0],#v[kdW m t,6]]=some ([u0,#v[((tlL m t).count x:Nat),0],#v[kdW m t,6]],#v[9,10]);simp! [hm,q]
  have al:=zzm D.length;unfold zav;refine za1 (en:=[#v[kdW m t,6],some (.dcz (D.map dkL) (D.map (oc (tlL m t))),false),w2,w3,w4]) rfl (zct (e1:=#v[1,10]) rfl (zct l2 ?_)) rfl;generalize (W.dct (D.map dkL) (D.map (oc (tlL m t))))=d1 at *
  generalize (W.dcz (D.map dkL) (D.map (oc (tlL m t))))=d2 at *
  simp! [c3,al]
theorem zw8 (m:Nat)(f g:Nat->Int):dotP (tab (2 ^ m) f) (tab (2 ^ m) g)=((List.range (2 ^ m)).map λp=>f p * g p).sum % 2:=by
 unfold dotP tab;rw[zjb]
theorem zyt {m:Nat}{f:Nat->Int}:∀{us:List (List Nat)},(∀x∈us,dotP (tab (2 ^ m) f) (zb6 m x)=0)->dotP (tab (2 ^ m) f) (tab (2 ^ m) (valF us))=0
  | [],_=>by
    rw[zw8];have:=zoy f (valF []) (λ_=>0) (List.range (2 ^ m)) λp _=>rfl;rw[this,zt6 (λp=>f p * 0) (λp=>Int.mul_zero _)];rfl
  | s::us,h=>by
    have ih:=zyt (f:=f) (us:=us) fun x hx=>h x (Aj _ hx);have hs:=h s Ao;unfold zb6 at hs;rw [zw8] at ih hs ⊢;have:=zoy f (valF (s::us)) (fun p=>valF us p+valF [s] p) (List.range (2 ^ m)) fun p _=>by
      rw[zqb,zvn];omega
    rw [this];have e:((List.range (2 ^ m)).map fun p=>f p * (valF us p+valF [s] p)).sum=((List.range (2 ^ m)).map fun p=>f p * valF us p).sum+((List.range (2 ^ m)).map fun p=>f p * valF [s] p).sum:=by
      rw[<-zrx];exact congrArg List.sum (Gx λp _=>Int.mul_add _ _ _)
    rw[e];omega
theorem z5s {m t:Nat}(ht:t<m):besW m (m - t - 1)=kdW m t:=by
 unfold besW;rw[if_neg #v[]];exact congrArg (kdW m) #v[]
theorem yad (b:Bool):zgw (.bl b) (.bl true)=some (.bl (!b),false):=by cases b<;>rfl
theorem z8w (m t:Nat):zgw (kdW m t) .non=some #v[9,10]:=rfl
theorem ycf {Ψ:Str->Fn}(hK:z6p (Ψ "_law_kind"))(hS:zfu (Ψ "beside"))(hO:zty (Ψ "_law_of_kind"))(hE:zie (Ψ "is_even"))(hW:zvq (Ψ "_law_word")){k:Nat}{st:W}{v0 v2 v3 v4 v5 v6 v7:Option (W × Bool)}(hs:HS k st)(hk:k+900<big):∃st' w4 w5 w6 w7,zm4 Ψ [v0,#v[st,5],v2,v3,v4,v5,v6,v7]=some ([v0,#v[st',5],v2,v3,w4,w5,w6,w7],.nx)/\HS (k+140) st':=by
 obtain⟨st1,m,t,e1,g1,m1,m6,tm⟩:=hK k st hs #v[];have e2:=hS m t tm;by_cases z:t=m
 ·subst z;have b:besW t t=.non:=by unfold besW;rw[if_pos rfl]
  rw[b] at e2;have n1:zgw .non .non=some #v[1,8]:=rfl;refine⟨st1,#v[kdW t t,6],some (.non,false),v6,v7,?_,g1.mono #v[]⟩;unfold zm4;refine zct (e1:=[v0,#v[st1,5],v2,v3,#v[kdW t t,6],v5,v6,v7]) ?_ (zct (e1:=[v0,#v[st1,5],v2,v3,#v[kdW t t,6],some (.non,false),v6,v7]) ?_ ?_)
  ·simp! [e1]
  ·simp! [e2]
  ·simp! [n1]
 ·have tl : t<m:=by omega
  have b:besW m t=kdW m (m - t - 1):=by unfold besW;rw[if_neg z]
  rw[b] at e2;obtain⟨st2,ts,e3,g2,s1⟩:=hO (k+2) st1 m t g1 #v[] m6 tm;obtain⟨st3,us,e4,g3,s2⟩:=hO (k+68) st2 m (m - t - 1) g2 #v[] m6 #v[];have w1:=hW (tab (2 ^ m) (valF ts));have w2:=hW (tab (2 ^ m) (valF us));have p6:=zd3 m6;have ev':=hE (tab (2 ^ m) (valF ts)) (tab (2 ^ m) (valF us)) (zfk m ts) (zfk m us) (by rw[zas];omega);have ck:chkT m t=zae m (m - t - 1):=by unfold chkT;rw[if_neg z]
  have dt:dotP (tab (2 ^ m) (valF ts)) (tab (2 ^ m) (valF us))=0:=zyt λx hx=>zul m6 tm s1 x (by rw[ck];exact s2.mem hx);rw[dt,Am rfl] at ev';have e5:=hS m (m - t - 1) #v[];rw[z5s tl] at e5;have ne:=yc7 m t m6 #v[];have i1:=z8w m (m - t - 1);have i2:=yad true;generalize wordOf (tab (2 ^ m) (valF ts))=x1 at *
  generalize wordOf (tab (2 ^ m) (valF us))=x2 at *
  generalize (tab (2 ^ m) (valF ts)).map W.int=y1 at *
  generalize (tab (2 ^ m) (valF us)).map W.int=y2 at *
  generalize kdW m (m - t - 1)=k2 at *
  generalize kdW m t=k1 at *
  refine⟨st3,#v[k1,6],#v[k2,6],#v[y1,1],#v[y2,1],?_,g3.mono #v[]⟩;unfold zm4;refine zct (e1:=[v0,#v[st1,5],v2,v3,#v[k1,6],v5,v6,v7]) ?_ (zct (e1:=[v0,#v[st1,5],v2,v3,#v[k1,6],#v[k2,6],v6,v7]) ?_ ?_)
  ·simp! [e1]
  ·simp! [e2]
  ·simp! [i1,e3,e4,w1,w2,ev',i2,e5,ne]
theorem ycc {Ψ:Str->Fn}(hT:zia (Ψ "_law_take"))(hM:zo0 (Ψ "_law_small_right")){k:Nat}{st:W}{v0 v2 v3 v4 v5 v6 v7:Option (W × Bool)}(hs:HS k st)(hk:k+900<big):∃st' w3,zr4 Ψ [v0,#v[st,5],v2,v3,v4,v5,v6,v7]=some ([v0,#v[st',5],v2,w3,v4,v5,v6,v7],.nx)/\HS (k+140) st':=by
 obtain⟨st1,r,e1,g1,r0,r1⟩:=hT k st 3 hs #v[] #v[0,9] #v[0,9];obtain⟨r,rfl⟩:=Ga r0;obtain⟨st2,t,e2,g2,t0,t1⟩:=hT (k+1) st1 ((1+r:Nat)+1) g1 #v[] #v[] #v[];obtain⟨t,rfl⟩:=Ga t0;have e3:=hM (1+r) t #v[] #v[] #v[];have a1:oAdd (.int 1) (.int (r:Nat))=#v[((1+r:Nat):Int),0]:=by rw[zoc];norm_cast
 have e3:Ψ "_law_small_right" [.tup [.int ((1+r:Nat):Int),.int (t:Nat)]]=some ([.tup [.int ((1+r:Nat):Int),.int (t:Nat)]],#v[9,10]):=e3;generalize ((1+r:Nat):Int)=x at *
 refine⟨st2,#v[x,0],?_,g2.mono #v[]⟩;unfold zr4;refine zct (e1:=[v0,#v[st1,5],v2,#v[x,0],v4,v5,v6,v7]) ?_ ?_
 ·refine set_ev (mp := []) (i:=3) (e1 := [v0,some (st1,true),v2,v3,v4,v5,v6,v7]) (r:=(.int x,false)) (op2_ev (e1 := [v0,some (st,true),v2,v3,v4,v5,v6,v7]) (e2 := [v0,some (st1,true),v2,v3,v4,v5,v6,v7]) (x := .inl (.int 1)) (y := .inl (.int (r : Nat))) rfl (arg_ev (r:=(.int (r : Nat),false)) ?_) rfl rfl a1) rfl;simp! [e1]
 ·simp! [e2,e3]
theorem z15 (ns:List Int)(hl:ns.length<=63):sem T bn 40 "law" [.frl (ns.map W.int)]=some ([.frl (ns.map W.int)],#v[9,10]):=by
 have bb:(20000:Nat)<big:=by decide
 rw[ycv];generalize hΨ:sem T bn 39=Ψ;have hH:z36 (Ψ "_law_hand"):=by rw[<-hΨ,zoh];exact z4v (sem T bn 0)
 have hT:zia (Ψ "_law_take"):=by rw[<-hΨ,zcq];exact zj7 (sem T bn 0)
 have hW:zvq (Ψ "_law_word"):=by rw[<-hΨ,zn8];exact z51 (sem T bn 0)
 have hK:z6p (Ψ "_law_kind"):=by
  rw[<-hΨ,zos];exact z12 (by rw[zo8];exact z68 (by rw[zcq];exact zj7 (sem T bn 0))) (by rw[zcq];exact zj7 (sem T bn 0))
 have hO:zty (Ψ "_law_of_kind"):=by
  rw[<-hΨ,zhv];exact zso (by rw[zpp];exact z5u (by rw[zlj];exact z26 (sem T bn 0)) (by rw[zoz];exact z7b (by rw[zcq];exact zj7 (sem T bn 0)))) (by rw[zjd];exact zx4 (sem T bn 0))
 have hS:zfu (Ψ "beside"):=by rw[<-hΨ,zp5];exact zkn (sem T bn 0)
 have hE:zie (Ψ "is_even"):=by rw[<-hΨ,zmt];exact zqg (by rw[zrw];exact zmr (sem T bn 0)) (by rw[zpf];exact zj2 (sem T bn 0))
 have hEv:∀d,zie (sem T bn (d+8) "is_even"):=λd=>by rw[zmt];exact zqg (by rw[zrw];exact zmr (sem T bn 0)) (by rw[zpf];exact zj2 (sem T bn 0))
 have hSt:∀d,zjx (sem T bn (d+12) "steps"):=λd=>by
  rw[z4s];exact zzu (by rw[zys];exact z4z (by rw[znp];exact ydi (by rw[zwz];exact zsg (sem T bn 0))) (by rw[zpf];exact zj2 (sem T bn 0)) (by rw[z81];exact z61 (sem T bn 0)))
 have hC:∀d,zfp (sem T bn (d+18) "checks"):=λd=>by
  rw[z1w];refine zuq (by rw[zp5];exact zkn (sem T bn 0)) ?_;rw[zkm];refine zje (by rw[zxn];exact zqq (Ψ':=sem T bn 0) (zdu _)) ?_;rw[zui];exact zsm (by rw[zk3];exact zsd (sem T bn 0)) (by rw[zk3];exact zn0 (sem T bn 0)) (hSt _)
 have hM:zo0 (Ψ "_law_small_right"):=by
  rw[<-hΨ,zeq];refine z05 ?_ ?_ ?_ ?_
  ·rw[zx0];exact z6q (hC _) (hEv _)
  ·rw[zox];exact ybl (hC _) (hEv _)
  ·rw[e_is_in];refine zzl (by rw[z2y];exact z9c (sem T bn 0)) ?_;rw[zvo];exact zsq (hSt _) (by rw[z71];exact z0m (by rw[yat];exact z73 (sem T bn 0))) (by rw[zkv];exact z1l (sem T bn 0))
  ·rw[ztn];exact ybc (by rw[zxn];exact zqq (Ψ':=sem T bn 0) (zdu _))
 obtain⟨st0,h0,g0⟩:=hH ns hl;have l1:∃st1 w2 w3,zv2 Ψ #v[0,10]=some (#v[3,10],.nx)/\HS 280 st1:=by
  unfold zv2;obtain⟨en',h,st',w2,w3,rfl,g⟩:=zbu (mp:=[]) (T:=.nm 2) (body:=zr4 Ψ) (λi e=>∃st' w2 w3,e=[some #v[6,7],#v[st',5],w2,w3,none,none,none,none]/\HS (140 * i) st') (zp7 (a:=gArg (gC (.int 2))) (en:=#v[0,10]) (e1:=#v[0,10]) (n:=2) rfl #v[]) ⟨_,_,_,rfl,g0⟩ λi w e hw hp=>by
   obtain⟨st',w2,w3,rfl,g⟩:=hp;obtain⟨li,rfl⟩:=zcp hw;obtain⟨st2,x3,hb,g2⟩:=ycc (Ψ:=Ψ) (v0:=some #v[6,7]) (v2:=#v[(0+(i:Int)),0]) (v3:=w3) (v4:=none) (v5:=none) (v6:=none) (v7:=none) hT hM g #v[];exact⟨_,_,rfl,.inl hb,_,_,_,rfl,g2.mono #v[]⟩
  rw[zco] at g;exact⟨_,_,_,h,g⟩
 obtain⟨st1,w2,w3,l1,g1⟩:=l1;have l2:∃en',zua Ψ #v[3,10]=some (some #v[6,7]::en',.nx):=by
  unfold zua;obtain⟨en',h,st',x2,x4,x5,x6,x7,rfl,g⟩:=zbu (mp:=[]) (T:=.nm 2) (body:=zm4 Ψ) (λi e=>∃st' x2 x4 x5 x6 x7,e=[some #v[6,7],#v[st',5],x2,w3,x4,x5,x6,x7]/\HS (280+140 * i) st') (zp7 (a:=gArg (gC (.int 2))) (en:=#v[3,10]) (e1:=#v[3,10]) (n:=2) rfl #v[]) ⟨_,_,_,_,_,_,rfl,g1⟩ λi w e hw hp=>by
   obtain⟨st',x2,x4,x5,x6,x7,rfl,g⟩:=hp;obtain⟨li,rfl⟩:=zcp hw;obtain⟨st2,y4,y5,y6,y7,hb,g2⟩:=ycf (Ψ:=Ψ) (v0:=some #v[6,7]) (v2:=#v[(0+(i:Int)),0]) (v3:=w3) (v4:=x4) (v5:=x5) (v6:=x6) (v7:=x7) hK hS hO hE hW g #v[];exact⟨_,_,rfl,.inl hb,_,_,_,_,_,_,rfl,g2.mono #v[]⟩
  exact⟨_,h⟩
 obtain⟨en',l2⟩:=l2;unfold z6l;refine za1 (en:=some #v[6,7]::en') rfl (zct (e1:=#v[0,10]) ?_ (zct l1 (zct l2 ?_))) rfl
 ·simp! [h0]
 ·simp! []
noncomputable abbrev nA (K:PySem.W.Frag) (n:Str) (f:Addr):Prop:=PySem.W.nsIn K mainGlobals n=some (some (.ref f))
noncomputable abbrev nL (K:PySem.W.Frag) (f:Addr) (oc:Value) (od:Option Addr) (n:Str) (st:Stmt) (kV dc pm:Value) (an:Option Addr) (cd ct:Value) (sl:Array (Option Value)):Prop:=K.lookup f=some ⟨oc,od,.func (PySem.W.fnOf n n (zez st) (zc2 st) (zao st) .none kV dc pm an cd ct),sl⟩
noncomputable abbrev nC (K:PySem.W.Frag) (cd:Value) (n:Str):Prop:=PySem.W.codeIn K cd n=true
noncomputable abbrev nK (K:PySem.W.Frag) (f:Addr):Prop:=PySem.W.keepIn K (.ref f)=true
noncomputable def nD (K:PySem.W.Frag) (t:Fd):Prop:=∃(f:Addr) (oc:Value) (od:Option Addr) (kV dc pm:Value) (an:Option Addr) (cd ct:Value) (sl:Array (Option Value)),nA K t.nm f/\nL K f oc od t.nm t.st kV dc pm an cd ct sl/\nC K cd t.nm/\nK K f
theorem nD_i {K:PySem.W.Frag}{n:Str}{t:Fd}{f:Addr}{oc:Value}{od:Option Addr}{kV dc pm:Value}{an:Option Addr}{cd ct:Value}{sl:Array (Option Value)}(e:t.nm=n)(a:nA K n f)(l:nL K f oc od n t.st kV dc pm an cd ct sl)(c:nC K cd n)(k:nK K f):nD K t:=by
 subst e;exact⟨_,_,_,_,_,_,_,_,_,_,a,l,c,k⟩
noncomputable def bO (t:Fd):Prop:=FnScope t.N t.ps (zao t.st)/\t.m.length=t.ps.length/\∀(kV doc pm:Value) (an:Option Addr) (cdv ct:Value) (us:List Value),us.length=t.ps.length->bindArgs (PySem.W.fnOf t.nm t.nm (zez t.st) (zc2 t.st) (zao t.st) .none kV doc pm an cdv ct) ⟨us,[]⟩=pure (t.ps.zip us)
theorem ydz {K:PySem.W.Frag}{h:Heap}{mg:Str->Option Value}(X:K.In h)(G:h.Ns mainGlobals mg){t:Fd}(b:bO t)(lm:t.nm∈lams->z2c K t.nm=true)(d:nD K t):FdOk K mg t:=by
 obtain⟨f,oc,od,kV,dc,pm,an,cd,ct,sl,a,l,c,k⟩:=d;have F:=z3y (st:=t.st) l c k;exact⟨b.1,b.2.1,⟨_,_,F,F.binds b.2.2,PySem.W.mg_of X G a⟩,lm⟩
theorem nd_T:(T.map (·.nm)).Nodup:=by decide +kernel
theorem all_c {α:Type}{P:α->Prop}{a:α}{l:List α}(h:P a)(r:∀x∈l,P x):∀x∈a::l,P x:=List.forall_mem_cons.mpr ⟨h,r⟩
theorem all_n {α:Type}{P:α->Prop}:∀x∈([]:List α),P x:=λ_ h=>nomatch h
@[elab_as_elim] theorem lenS {α:Type}{P:List α->Prop}{n:Nat} (us:List α) (hl:us.length=n+1) (h:∀a l,l.length=n->P (a::l)):P us:=by
 cases us with
 |nil=>cases hl
 |cons a l=>exact h a l (Nat.succ.inj hl)
@[elab_as_elim] theorem len0 {α:Type}{P:List α->Prop} (us:List α) (hl:us.length=0) (h:P []):P us:=by
 cases us with
 |nil=>exact h
 |cons a l=>cases hl
@[elab_as_elim] theorem len1 {α:Type}{P:List α->Prop} (us:List α) (hl:us.length=1) (h:∀a,P [a]):P us:=lenS us hl λa l e=>len0 l e (h a)
@[elab_as_elim] theorem len2 {α:Type}{P:List α->Prop} (us:List α) (hl:us.length=2) (h:∀a b,P [a,b]):P us:=lenS us hl λa l e=>lenS l e λb l e=>len0 l e (h a b)
@[elab_as_elim] theorem len3 {α:Type}{P:List α->Prop} (us:List α) (hl:us.length=3) (h:∀a b c,P [a,b,c]):P us:=lenS us hl λa l e=>len2 l e (h a)
theorem zsu:bO zd1:=#v[2,7]
theorem z8d:bO zqe:=#v[1,7]
theorem zuh:bO zfw:=#v[2,7]
theorem z0h:bO ziu:=#v[2,7]
theorem zsh:bO zd8:=#v[2,7]
theorem z7h:bO zqw:=#v[1,7]
theorem zzo:bO zj3:=#v[1,7]
theorem zr9:bO zd0:=#v[1,7]
theorem zlk:bO zcg:=#v[1,7]
theorem zsw:bO zeg:=⟨#v[0,0,5],rfl,λ_ _ _ _ _ _ us hl=>len3 us hl λ_ _ _=>rfl⟩
theorem z17:bO zjp:=#v[1,7]
theorem zik:bO zby:=#v[2,7]
theorem zwu:bO zfn:=#v[2,7]
theorem zs1:bO zd7:=#v[1,7]
theorem zsi:bO zeh:=#v[1,7]
theorem zgx:bO zbk:=#v[1,7]
theorem z1b:bO zit:=#v[2,7]
theorem zi9:bO zb4:=#v[2,7]
theorem zpl:bO zdm:=#v[2,7]
theorem z2z:bO zi5:=#v[1,7]
theorem zxr:bO zfx:=#v[2,7]
theorem zt9:bO zfo:=#v[2,7]
theorem zsj:bO zev:=#v[1,7]
theorem zl2:bO zce:=#v[1,7]
theorem zl5:bO zcl:=#v[2,7]
theorem zlx:bO zcf:=#v[1,7]
theorem zlr:bO zcw:=#v[1,7]
theorem zl8:bO zch:=#v[2,7]
theorem zjl:bO zbz:=#v[1,7]
theorem zhs:bO zbs:=#v[1,7]
theorem zng:bO zcu:=⟨#v[0,0,5],rfl,λ_ _ _ _ _ _ us hl=>len3 us hl λ_ _ _=>rfl⟩
theorem zks:bO zcn:=#v[2,7]
theorem zlp:bO zcj:=#v[2,7]
theorem zgb:bO zbn:=#v[1,7]
theorem zdz:bO zat:=#v[2,7]
theorem z8n:bO zn7:=#v[2,7]
theorem all_mk {l:PySem.W.OpenLaw}{w:World}{K:PySem.W.Frag}{h:Heap}{mg:Str->Option Value}{fa:Addr} (X:K.In h) (G:h.Ns mainGlobals mg) (hfa:mg "law" = some (.ref fa)) (D:∀t∈T,nD K t) (M:∀x∈(["_law_terms","law"]:List Str),z2c K x=true) (Z:∀x∈bn,PySem.W.nsIn K mainGlobals x=some none) :
  ∃fd:FuncData,(∀(s:Shared) (v:Value),BindsTo s fd ⟨[v],[]⟩ [("_law_script",v)])/\∀base:Heap,K.In base->base.Ns mainGlobals mg->FnOk l.prog w K mg base CX0 40 fa fd ["_law_script"] (spF K [false] (sem T bn 40 "law")):=by
 have B:∀t∈T,bO t:=all_c zsu (all_c z8d (all_c zuh (all_c z0h (all_c zsh (all_c z7h (all_c zzo (all_c zr9 (all_c zlk (all_c zsw (all_c z17 (all_c zik (all_c zwu (all_c zs1 (all_c zsi (all_c zgx (all_c z1b (all_c zi9 (all_c zpl (all_c z2z (all_c zxr (all_c zt9 (all_c zsj (all_c zl2 (all_c zl5 (all_c zlx (all_c zlr (all_c zl8 (all_c zjl (all_c zhs (all_c zng (all_c zks (all_c zlp (all_c zgb (all_c zdz (all_c z8n (all_n))))))))))))))))))))))))))))))))))));have q:∀t∈T,t.nm∈lams->t.nm∈(["_law_terms","law"]:List Str):=by decide +kernel
 obtain⟨f,oc,od,kV,dc,pm,an,cd,ct,sl,a,lk,c,k⟩:=D zn7 (by simp [T]);have F:=z3y (st:=zn7.st) lk c k;have e:=hfa.symm.trans (PySem.W.mg_of X G a);cases e;exact⟨_,λs v=>.of_eq rfl,λbase kb nb=>zw1 nd_T (λt ht=>ydz X G (B t ht) (λhl=>M _ (q t ht hl)) (D t ht)) (λx hx=>PySem.W.mg_none_of X G (Z x hx)) kb nb 40 zn7 (by simp [T]) _ _ F (PySem.W.mg_of X G a)⟩
theorem walk {l:PySem.W.OpenLaw}{q:Program}{loose:List Str}{XP:(Str->Option Value)->Heap->Prop}{YP:World->Heap->Prop}{d:DefRec}{K:Params->PySem.W.Frag} (hn:l.most=some 63) (hdf:d.params.defaults=[])
  (hY:∀(w:World) (h:Heap),YP w h->(K w.params).In h)
  (nt:∀w:World,PySem.W.noTabs (K w.params)=true) (nd:∀w:World,zun (K w.params)=true) (hrec:∀(w:World),∀x∈lams,∀c P,PySem.W.tabIn (K w.params) x=some (c,P)->∃d,(recsOf q).find? (λe=>e.name == x)=some d)
  (F:∀(w:World) (mg:Str->Option Value) (fa:Addr) (h:Heap),(K w.params).In h->h.Ns mainGlobals mg->mg d.name=some (.ref fa) ->
   ∃fd:FuncData,(∀(s:Shared) (u:Value),BindsTo s fd ⟨[u],[]⟩ [("_law_script",u)])/\∀base:Heap,(K w.params).In base->base.Ns mainGlobals mg->FnOk l.prog w (K w.params) mg base CX0 40 fa fd ["_law_script"] (spF (K w.params) [false] (sem T bn 40 "law"))) :
  PySem.W.WalkO q loose XP YP l.row.toRowW d [] (λf vs=>PySem.call f vs) :=
 L2.walk_ofT (n:=63) (k:=40) (x := "_law_script") (CX:=λ_=>CX0) (sp:=λw=>spF (K w.params) [false] (sem T bn 40 "law")) hn #v[0,9] hdf ⟨rfl,by decide,by decide,rfl⟩ hY nt nd hrec F (λ_ _ _ a ns hl st hS=>ztf st.sub st.tb hS (ws':=[.frl (ns.map W.int)]) (z15 ns hl) rfl) λ_ _ _ _ _ z=>z
end My
open PySem PySem.W PyProof.Rows
set_option maxRecDepth 100000 in
set_option maxHeartbeats 0 in
theorem PySem.Challenge.cw_yesnowords_k31_whole_what_is_even_holds : PySem.Challenge.rw_yesnowords_k31_whole_what_is_even.Holds := by
 w_on;o_law;k_head;(case hw=>w_witness2)
 k_fill
 refine My.walk (l:=PySem.Challenge.rw_yesnowords_k31_whole_what_is_even) rfl rfl (fun w h Y=>by first | exact PySem.W.kIn_of Y | exact PySem.W.km_in_of Y) ?nt ?nd ?hrec ?F
 case nt=>exact fun w=>by kernel_rfl
 case nd=>exact fun w=>by kernel_rfl
 case hrec =>
  intro w x hx c P e;simp only [L2.lams,Ap,Bq,Gp] at hx;rcases hx with rfl | rfl | rfl | rfl | rfl
  ·exact Fp.mp (by kernel_rfl)
  ·exact nomatch (Eq.trans (by kernel_rfl) e:(none:Option (Addr × Addr))=some (c,P))
  ·exact nomatch (Eq.trans (by kernel_rfl) e:(none:Option (Addr × Addr))=some (c,P))
  ·exact nomatch (Eq.trans (by kernel_rfl) e:(none:Option (Addr × Addr))=some (c,P))
  ·exact Fp.mp (by kernel_rfl)
 case F =>
  intro w mg fa h KX G hmg;refine My.all_mk KX G hmg ?xD ?xM ?xZ
  case xM=>exact My.all_c (by kernel_rfl) (My.all_c (by kernel_rfl) (My.all_n))
  case xZ =>
   refine' My.all_c ?_ (My.all_c ?_ (My.all_c ?_ (My.all_c ?_ (My.all_c ?_ (My.all_c ?_ (My.all_c ?_ (My.all_c ?_ (My.all_c ?_ (My.all_c ?_ (My.all_c ?_ (My.all_c ?_ (My.all_c ?_ (My.all_n)))))))))))))
   any_goals k_is
  case xD =>
   refine' My.all_c (My.nD_i (n := "all_yes") rfl ?_ ?_ ?_ ?_) (My.all_c (My.nD_i (n := "says") rfl ?_ ?_ ?_ ?_) (My.all_c (My.nD_i (n := "weight") rfl ?_ ?_ ?_ ?_) (My.all_c (My.nD_i (n := "where") rfl ?_ ?_ ?_ ?_) (My.all_c (My.nD_i (n := "word_at") rfl ?_ ?_ ?_ ?_) (My.all_c (My.nD_i (n := "plus") rfl ?_ ?_ ?_ ?_) (My.all_c (My.nD_i (n := "times") rfl ?_ ?_ ?_ ?_) (My.all_c (My.nD_i (n := "is_even") rfl ?_ ?_ ?_ ?_) (My.all_c (My.nD_i (n := "letter_no") rfl ?_ ?_ ?_ ?_) (My.all_c (My.nD_i (n := "stepped") rfl ?_ ?_ ?_ ?_) (My.all_c (My.nD_i (n := "steps") rfl ?_ ?_ ?_ ?_) (My.all_c (My.nD_i (n := "term_order") rfl ?_ ?_ ?_ ?_) (My.all_c (My.nD_i (n := "degree") rfl ?_ ?_ ?_ ?_) (My.all_c (My.nD_i (n := "word_of") rfl ?_ ?_ ?_ ?_) (My.all_c (My.nD_i (n := "poly_of") rfl ?_ ?_ ?_ ?_) (My.all_c (My.nD_i (n := "longer_terms") rfl ?_ ?_ ?_ ?_) (My.all_c (My.nD_i (n := "terms") rfl ?_ ?_ ?_ ?_) (My.all_c (My.nD_i (n := "term_words") rfl ?_ ?_ ?_ ?_) (My.all_c (My.nD_i (n := "how_many") rfl ?_ ?_ ?_ ?_) (My.all_c (My.nD_i (n := "is_in") rfl ?_ ?_ ?_ ?_) (My.all_c (My.nD_i (n := "beside") rfl ?_ ?_ ?_ ?_) (My.all_c (My.nD_i (n := "checks") rfl ?_ ?_ ?_ ?_) (My.all_c (My.nD_i (n := "told_by") rfl ?_ ?_ ?_ ?_) (My.all_c (My.nD_i (n := "odd_check") rfl ?_ ?_ ?_ ?_) (My.all_c (My.nD_i (n := "_law_hand") rfl ?_ ?_ ?_ ?_) (My.all_c (My.nD_i (n := "_law_take") rfl ?_ ?_ ?_ ?_) (My.all_c (My.nD_i (n := "_law_bits") rfl ?_ ?_ ?_ ?_) (My.all_c (My.nD_i (n := "_law_word") rfl ?_ ?_ ?_ ?_) (My.all_c (My.nD_i (n := "_law_terms") rfl ?_ ?_ ?_ ?_) (My.all_c (My.nD_i (n := "_law_values") rfl ?_ ?_ ?_ ?_) (My.all_c (My.nD_i (n := "_law_poly") rfl ?_ ?_ ?_ ?_) (My.all_c (My.nD_i (n := "_law_many") rfl ?_ ?_ ?_ ?_) (My.all_c (My.nD_i (n := "_law_kind") rfl ?_ ?_ ?_ ?_) (My.all_c (My.nD_i (n := "_law_of_kind") rfl ?_ ?_ ?_ ?_) (My.all_c (My.nD_i (n := "_law_small_right") rfl ?_ ?_ ?_ ?_) (My.all_c (My.nD_i (n := "law") rfl ?_ ?_ ?_ ?_) (My.all_n))))))))))))))))))))))))))))))))))))
   any_goals (first | (delta My.nA;k_is) | (delta My.nL;k_is) | (delta My.nC;k_is) | (delta My.nK;k_is) | k_is)