import PyProof.Rows.All
import Wide.All
import OpenK.AllK
import Wide.FinOn
import Lean
import PyProof.EqAt
import PyProof.EqKinds
import PyProof.TupleCall
import PySem.Challenge.RW_yesnowords_k36_flats_that_are_odd
set_option Elab.async false
set_option linter.all false
set_option compiler.extract_closed false
set_option bootstrap.genMatcherCode false
set_option maxRecDepth 100000
def Aa:=@PySem.wpAny_bind
def Ab:=@PySem.Heap.get?_push_of_some
def Ac:=@List.getElem?_eq_getElem
def Ad:=@Bool.and_eq_true
def Ae:=@List.length_map
def Af:=@Nat.le_refl
def Ag:=@PySem.wpAny_pure
def Ah:=@List.size_toArray
def Ai:=@PySem.Heap.lt_size
def Aj:=@decide_eq_true
def Ak:=@List.getElem?_eq_some_iff
def Am:=@List.map_cons
def An:=@PySem.Heap.get?_push_size
def Ao:=@List.mem_singleton
def Ap:=@List.mem_cons
def Aq:=@PyProof.Rows.wpS_bind
def Ar:=@Bool.false_ne_true
def As:=@List.mem_cons_of_mem
def At:=@of_decide_eq_true
def Au:=@List.getElem?_map
def Av:=@PyProof.Rows.wpS_pure
def Aw:=@List.mem_append_right
def Ax:=@List.mem_cons_self
def Ay:=@decide_eq_false
def Az:=@Nat.ne_of_lt
def Ba:=@List.append_assoc
def Bb:=@Nat.lt_of_lt_of_le
def Bc:=@List.length_append
def Bd:=@List.all_eq_true
def Be:=@List.length_cons
def Bf:=@List.mem_map
def Bg:=@List.getD_eq_getElem?_getD
def Bh:=@List.lookup_cons
def Bi:=@List.mem_of_getElem?
def Bj:=@LawfulBEq.eq_of_beq
def Bk:=@List.take_append_drop
def Bl:=@List.mem_range
def Bm:=@Nat.zero_le
def Bn:=@List.zip_cons_cons
def Bo:=@List.getElem?_eq_none
def Bp:=@List.all_cons
def Bq:=@List.mem_append
def Br:=@PySem.mem_of_lookup
def Bs:=@Array.toList_append
def Bt:=@Nat.lt_irrefl
def Bu:=@List.sum_cons
def Bv:=@Bool.not_eq_true
def Bw:=@PySem.wpAny_holding
def Bx:=@Array.length_toList
def By:=@List.length_range
def Bz:=@List.map_map
def Ca:=@List.map_append
def Cb:=@List.not_mem_nil
def Cc:=@List.pairwise_append
def Cd:=@List.drop_eq_getElem_cons
def Ce:=@Nat.zero_add
def Cf:=@Nat.le_trans
def Cg:=@PyProof.Rows.wpS_forRange
def Ch:=@List.append_nil
def Ci:=@List.take_length
def Cj:=@PySem.wpAny_mono
def Ck:=@List.mem_iff_getElem
def Cm:=@Bool.false_eq_true
def Cn:=@Nat.xor_assoc
def Co:=@Bool.or_eq_true
def Cp:=@List.replicate_succ
def Cq:=@decide_eq_true_eq
def Cr:=@PySem.W.kia_one
def Cs:=@List.mem_filter
def Ct:=@PySem.Heap.SameBut.update
def Cu:=@PySem.wpAny_truthy_bool
def Cv:=@PySem.wpAny_field
def Cw:=@List.pairwise_cons
def Cy:=@PySem.wpAny_seqItems
def Cz:=@List.mem_append_left
def Da:=@PySem.Heap.size_push
def Db:=@PyProof.Rows.callWith_type1
def Dc:=@PySem.wpAny_rule
def Dd:=@PySem.wpAny_callSpecial?_slot
def De:=@List.ext_getElem?
def Df:=@List.nodup_cons
def Dg:=@List.find?_cons
def Dh:=@List.getElem?_append_left
def Di:=@PySem.wpAny_pyIter_list
def Dj:=@PySem.wpAny_newObj_type
def Dk:=@PySem.Heap.get?_update_other
def Dl:=@PySem.wpAny_loadPart'
def Dm:=@List.getElem?_set_ne
def Dn:=@Nat.lt_succ_of_lt
def Do:=@Array.toList_push
def Dp:=@PySem.Around.under_plainId
def Dq:=@List.getElem?_set_self
def Dr:=@PySem.codeAny_builtin
def Ds:=@Nat.le_add_right
def Dt:=@List.nodup_iff_pairwise_ne
def Du:=@Bool.not_eq_false'
def Dv:=@PyProof.Rows.wpS_mono
def Dw:=@Nat.testBit_xor
def Dx:=@List.of_mem_zip
def Dy:=@List.take_add_one
def Dz:=@List.foldl_append
def Ea:=@List.flatten_cons
def Eb:=@PyProof.Rows.slot_tuple_getitem
def Ec:=@Option.bind_some
def Ed:=@List.take_zero
def Ee:=@List.length_take
def Ef:=@List.drop_zero
def Eg:=@Int.eq_ofNat_of_zero_le
def Eh:=@Array.getElem?_eq_none
def Ei:=@PySem.wpAny_is_plain
def Ej:=@PySem.wpAny_call_entry
def Ek:=@List.length_set
def El:=@PySem.F.plain_max_loop
def Em:=@Bool.eq_iff_iff
def Eo:=@List.length_replicate
def Ep:=@List.take_sublist
def Er:=@List.pairwise_map
def Es:=@Int.toNat_natCast
def Et:=@PySem.wpAny_setField_rec
def Eu:=@PySem.wpAny_passesOwn
def Ev:=@List.take_succ
def Ew:=@List.getElem?_append_right
def Ex:=@List.forIn_nil
def Ey:=@Bool.false_and
def Ez:=@Array.perm_iff_toList_perm
def Fa:=@Nat.lt_succ_self
def Fb:=@List.map_congr_left
def Fc:=@List.length_reverse
def Fe:=@if_false
def Ff:=@Option.isSome_iff_exists
def Fg:=@List.any_cons
def Fh:=@PySem.F.slot_tuple_iterator_next
def Fi:=@if_true
def Fj:=@List.length_nil
def Fm:=@PyProof.Rows.listUpdate_at
def Fo:=@Nat.xor_lt_two_pow
def Fp:=@Int.emod_lt_of_pos
def Fq:=@PySem.wpAny_standAt
def Fs:=@PySem.wpAny_attempt
def Ft:=@PySem.plainId_quiet
def Fu:=@PySem.W.cellsFrom_some
def Fv:=@Nat.xor_zero
def Fw:=@Nat.le_of_succ_le
def Fx:=@List.zipWith_cons_cons
def Fy:=@PySem.wpAny_pyIter_tuple
def Fz:=@PySem.wpAny_Call_Name_kw
def Ga:=@PySem.wpAny_letGo
def Gb:=@Array.getElem?_toList
def Gc:=@List.length_drop
def Gd:=@PySem.wpAny_tryCatch
def Ge:=@or_false
def Gf:=@List.getElem?_mapIdx
def Gh:=@Array.toList_reverse
def Gi:=@Array.toArray_toList
def Gj:=@PyProof.Rows.get?_update_seq
def Gk:=@Option.map_some
def Gm:=@List.forIn_cons
def Gn:=@Int.emod_nonneg
def Go:=@Nat.add_sub_cancel'
def Gp:=@List.length_zipWith
def Gq:=@List.filterMap_cons
def Gr:=@PySem.Heap.get?_update_self
def Gs:=@Nat.succ.inj
def Gu:=@Nat.ne_of_gt
def Gv:=@Int.zero_add
def Gw:=@PySem.wpAny_newList
def Gx:=@PySem.wpAny_of_eq
def Gy:=@of_decide_eq_false
def Gz:=@Bool.and_false
def Ha:=@List.drop_sublist
def Hb:=@PySem.codeAny_mono
def Hd:=@PySem.F.args_tuple_add_2
def He:=@PyProof.Rows.boot_sorted
def Hg:=@PySem.Walks.list
def Hh:=@PySem.wpAny_pyIter_enum
def Hi:=@PySem.Heap.get?_push_ne
def Hj:=@PyProof.Rows.wpS_get
namespace PySem.W.Fast
def tw6200185999006142698:=0
def tw17713517195650583429:=0
def tw604765985210045477:=0
def tw17320714168555950981:=0
def tw4983234932524269984:=0
def tw18276396918374675845:=0
def tw6953192337478126113:=0
def tw3215029130137861818:=0
def tw28291778548210102:=0
def tw2152292749091151175:=0
def tw1681256779281346977:=0
def tw4037378722695578808:=0
def tw1837697529436804606:=0
def tw9405028608121737411:=0
def tw12624149037196820980:=0
def tw11951214303383534536:=0
def tw11735281348022192786:=0
def tw6407694176074690313:=0
def tw7497380356777060252:=0
def tw7522513041649369014:=0
def tw17868007126371700211:=0
def tw3689149758466635692:=0
def tw16965113776992053543:=0
def tw14891988317056229340:=0
def tw3735914210256583010:=0
def tw2606389124799722682:=0
def tw12636221745268510279:=0
def tw14598269614577850522:=0
def tw10292245483831573337:=0
def tw8990659882587270602:=0
def tw11192271912385105471:=0
def tw12102890712781912122:=0
def tw3975924837763956249:=0
def tw12740191395898210354:=0
def tw4111990302903250178:=0
def tw7858128421773955419:=0
def tw16038886253187053756:=0
def tw10344073615628318223:=0
def tw13574275874433190303:=0
def tw4423632920209286666:=0
def tw14894917653520334445:=0
def tw17027567520627795192:=0
def tw12456840877279240299:=0
def tw12426308713539267353:=0
def tw7107890520304909050:=0
def tw1500201526346186388:=0
def tw16365142734171888730:=0
def tw6266048413246541995:=0
def tw3664421166972273692:=0
def tw3278963996269674894:=0
def tw8273409056836309335:=0
def tw9677761988212273649:=0
def tw12378980943289924260:=0
def tw12433558197620512205:=0
def tw5773209964700456586:=0
def tw2198448790849918751:=0
def tw11429000644154554302:=0
def tw6388081568052980243:=0
def tw13696392026112497097:=0
def tw1210244211239334640:=0
def tw9622527337470834616:=0
def tw2978731916364218143:=0
def tw3308009012055547092:=0
def tw3014344748913638484:=0
def tw10162202522816822871:=0
def tw4466468545227042243:=0
def tw8966419605001830236:=0
def tw8616645204066579210:=0
def tw9624336903306871479:=0
def tw9238001400908769218:=0
def tw5379886987690849555:=0
def tw8165381358906909085:=0
def tw7465600806203448758:=0
def tw5602049984647139894:=0
def tw9418400976151127806:=0
def tw11593517383832440258:=0
def tw2061703762584233607:=0
def tw2287925645898833321:=0
def tw12635935242885672744:=0
def tw3021780357560509140:=0
def tw7307622112879369472:=0
def tw17712713796800805289:=0
def tw18388341624734734228:=0
def tw11876829732657592191:=0
def tw4150836709833250174:=0
def tw5795358594641719607:=0
def tw16350317006696082701:=0
def tw15609679637148648770:=0
def tw14097181841779699673:=0
def tw7715147738088389171:=0
def tw14726613544362973720:=0
def tw9004484691549547734:=0
def tw14992027005719272086:=0
def tw13633834712415092714:=0
def tw648721267723610424:=0
def tw13038861464525177938:=0
def tw6718061758887501583:=0
def tw9531163913836029827:=0
def tw6150826553207722817:=0
def tw11491176958642411694:=0
def tw10724563992345100983:=0
def tw3989646504270132205:=0
def tw7035499770547042344:=0
def tw2927752522051782182:=0
def tw5112689405627912878:=0
def tw34048077931559979:=0
def tw16284869855038719081:=0
def tw6903563721836697363:=0
def tw12895388575932016036:=0
def tw16576445393679003187:=0
def tw3552668399886835954:=0
def tw4196701016520684084:=0
def tw994103867907927831:=0
def tw42542397927678096:=0
def tw771013475051119916:=0
def tw5283147823603063750:=0
def tw2082201797166632537:=0
def tw10126932530802108813:=0
def tw5533104456889327583:=0
def tw7505903598957821249:=0
def tw1687884644234180421:=0
def tw11021705635957413109:=0
def tw15833758760164658936:=0
def tw15361321081575050441:=0
def tw14090221616504571855:=0
def tw2147514454681787545:=0
def tw5216716050751495141:=0
def tw2929324108908702823:=0
def tw9866550479812684646:=0
def tw4206704021827812260:=0
def tw14338159711176001003:=0
def tw2087298124545572732:=0
def tw17855325012733132093:=0
def tw15737273052479603572:=0
def tw1843906799480117477:=0
def tw2209809362507765561:=0
def tw2460443492277098098:=0
def tw13671580443502317631:=0
def tw14285623694353091739:=0
def tw14803753726070023707:=0
def tw12035169284210920574:=0
def tw9282306692885123436:=0
def tw5479864916612162290:=0
def tw1621185795020462541:=0
def tw928840503128433894:=0
def tw8560249418646361459:=0
def tw6616577206527090365:=0
def tw2245965516982327284:=0
def tw3078422376315442576:=0
def tw14685941208221911988:=0
def tw16687994226777013553:=0
def tw1030596758205054988:=0
def tw15045670278098298286:=0
def tw9954112558732830050:=0
def tw10799267657942056807:=0
def tw16956104185502799612:=0
def tw10902891523027413432:=0
def tw5976331052242695430:=0
def tw7251648175565007046:=0
def tw9671238434939624286:=0
def tw5743170108507773044:=0
def tw17485968199797190330:=0
def tw16586782648904645335:=0
def tw15623029339518794269:=0
def tw1398566565295139703:=0
def tw6000025300797045534:=0
def tw6952676047203685549:=0
def tw3561146662208527139:=0
def tw1623722890595762864:=0
def tw8024467650035303813:=0
def tw1883936019714714153:=0
def tw17750996779694235305:=0
def tw7094468494551104985:=0
def tw13275737055101671959:=0
def tw4104892020611769863:=0
def tw16819087737945615378:=0
def tw12596171870638374980:=0
def tw6619872539594328409:=0
def tw15243181265923360063:=0
def tw10877518301554266109:=0
def tw16261121665409092710:=0
def tw12450261073836887702:=0
def tw9523724659674948746:=0
def tw1621509522659705193:=0
def tw6519243444643942321:=0
def tw2216363473299759958:=0
end PySem.W.Fast
theorem bS {α β}{o:Option α}{f:α->Option β}{b}(h:o.bind f=some b):∃a,o=some a/\f a=some b:=Option.bind_eq_some_iff.mp h
theorem sI {α}{a b:α}(h:some a=some b):a=b:=Option.some.inj h
noncomputable section
namespace L2
open PySem PySem.Spec PyProof.Rows
theorem aG {P:Prop}(h:∀G:Prop,(P->G)->G):P:=h P id
end L2
set_option hygiene false
local macro_rules | `(tactic| nofun) => `(tactic| refine L2.aG fun _ qG=>?_)
local macro_rules | `(tactic| ac_rfl) => `(tactic| (refine qG ?_;clear qG))
local macro_rules | `(#v[$x]) => `((gArg (gC (.int $x))))
local macro_rules | `(#v[$x,0]) => `(some (.int $x,false))
local macro_rules | `(#v[$x,1]) => `(some (.lst $x,false))
local macro_rules | `(#v[$x,2]) => `(some (.lst $x,true))
local macro_rules | `(#v[$x,3]) => `(some (.tup $x,false))
local macro_rules | `(#v[$x,4]) => `((gArg (gVar $x)))
local macro_rules | `(#v[$x,5]) => `(some ($x,true))
local macro_rules | `(#v[$x,6]) => `(some ($x,false))
local macro_rules | `(#v[0,0,0]) => `((oI yes2 fun i j=>.int (i - j)))
local macro_rules | `(#v[0,0,1]) => `((oI cPow fun i j=>.int (i * 2 ^ j.toNat)))
local macro_rules | `(#v[0,0,2]) => `((oI (fun _ j=>decide (0 < j)) fun i j=>.int (i % j)))
local macro_rules | `(#v[0,0,3]) => `((oI cDiv fun i j=>.int (i / j)))
local macro_rules | `(#v[]) => `((by omega))
local macro_rules | `(#v[0,0,5]) => `(⟨by kernel_rfl,by kernel_rfl,by kernel_rfl,by decide +kernel,rfl,by decide +kernel,by decide +kernel⟩)
local macro_rules | `(#v[0,9]) => `((by decide))
local macro_rules | `(#v[0,0,7]) => `((by decide +kernel))
local macro_rules
| `(#v[0,7])=>`((gSeq (gSet [0] 5 (zad [true,false] (Ψ "_law_take") (gCns (zaa 0) (gCns (gArg (gOp2 oIx (gArg (zat (gCns #v[2] (gCns #v[5] (gCns #v[5] gA0))))) (zaa 2))) gA0)))) (zeq (gApp 3 (gOp2 oIx (gArg (zat (gCns #v[5,4] (gCns (gArg (gOpN oInt (gCns (gArg (gOp2 oEq (zaa 5) #v[0])) gA0))) (gCns (gArg (gOpN oInt (gCns (gArg (gOp2 (oI yes2 λi j=>.bl (decide (j<i))) (zaa 5) #v[0])) gA0))) gA0))))) (zaa 2))))))
| `(#v[1,7])=>`((model X.prog X.w))
| `(#v[2,7])=>`((.ListComp elt [⟨tg,iter,ifs,0⟩,⟨tg2,iter2,ifs2,0⟩] scope pos))
| `(#v[3,7])=>`(((h3.update a (Obj.mapSeq λ_=>(#[]:Array Value))).push (seqObj "tuple" vs.toArray 0)))
| `(#v[4,7])=>`((.ListComp elt (⟨tg,iter,ifs,0⟩ :: gs) scope pos))
| `(#v[5,7])=>`([#v[(m:Nat),0],#v[X,1],#v[(tpV m f i),0],#v[(i:Nat),0],#v[(((zc0 i).map f).map W.int),2]])
| `(#v[6,7])=>`(((lfT m k).map λt=>(frP m t).map λp=>flW p (uL t)))
| `(#v[7,7])=>`((.frl (ns.map W.int),false))
| `(#v[8,7])=>`((names.map λ(n,k)=>if (k == NameKind.free && env.scope.kind == .function && env.kindOf n == some .cell) then (n,NameKind.cell) else (n,k)))
| `(#v[9,7])=>`((gArg (gOp2 (oI cPow fun i j=>.int (i ^ j.toNat)) (gArg (gC (.int 10))) (gArg (gC (.int 60))))))
| `(#v[0,8])=>`((oI yes2 λi j=>.int (Builtin.bitAnd i j)))
| `(#v[1,8])=>`((s.heap.push (seqObj "list" #[] 0)))
| `(#v[2,8])=>`((.bl false,false))
| `(#v[3,8])=>`([some #v[7,7],some (.lst [.int a0,.int b,.int 0],true),v2,some (.int n,false),some (.int (i:Nat),false),some (.int (n % 2305843009213693951+7919 * (i:Nat)+3),false)])
| `(#v[4,8])=>`((seqObj "list" vs.toArray 0))
| `(#v[5,8])=>`([#v[(m:Nat),0],#v[X,1],#v[(tpV m f i),0],#v[(i:Nat),0],w4])
| `(#v[6,8])=>`((Obj.mapSeq λ_=>(#[]:Array Value)))
| `(#v[7,8])=>`((scope.names.all λp=>!(p.2 == NameKind.local) || decide (scope.names.lookup p.1=some .local)))
| `(#v[8,8])=>`((gCns (gArg (gOp2 #v[0,0,1] #v[1] (zaa 0))) gA0))
| `(#v[9,8])=>`((.frl ((n0::nr).map W.int),false))
| `(#v[1,9])=>`((gCns (gArg (gOp2 oIx (gArg (zat (gCns #v[0] (gCns #v[0] (gCns (gArg (gOp2 oAdd #v[1] (gArg (zad [true,false] (Ψ "_law_take") (gCns (zaa 0) (gCns #v[2] gA0)))))) (gCns #v[0] gA0)))))) (zaa 4))) gA0))
| `(#v[2,9])=>`([#v[st,5],#v[n,0],#v[way,0],#v[(xs.map W.int),2],#v[(0+(i:Nat)),0],v5])
| `(#v[3,9])=>`([#v[kdW m k,6],#v[X,1],#v[(m:Nat),0],#v[(k:Nat),0],#v[w,0],#v[fW y,6]])
| `(#v[4,9])=>`((zah (gOp2 (oI yes2 fun i j=>.bl (decide (j<=i))) (gArg (gOp2 oIx (zaa 0) (gArg (gC (.int 0))))) (gArg (gOp2 (oI cPow fun i j=>.int (i ^ j.toNat)) (gArg (gC (.int 10))) (gArg (gC (.int 18))))))))
| `(#v[5,9])=>`((.ListComp elt gens scope pos))
| `(#v[6,9])=>`([#v[flW p B,6],#v[(p:Nat),0],#v[(castL B),3],#v[(castL [p]),2],none])
| `(#v[7,9])=>`([#v[x0,6],#v[SumW L,5],#v[(x:Nat),0]])
| `(#v[8,9])=>`([#v[(m:Nat),0],#v[(castL (uL t)),3],none])
| `(#v[9,9])=>`([some #v[7,7],#v[[.int 0,.int 0,.int 0],2],none,none,none,none])
| `(#v[0,10])=>`(((s.heap.update a #v[6,8]).push (seqObj "tuple" vs.toArray 0)))
| `(#v[1,10])=>`((gArg (gOp2 oIx (zaa 1) #v[1])))
| `(#v[2,10])=>`([#v[st3,5],#v[(m:Nat),0],#v[(t:Nat),0],#v[(xs.map W.int),2],#v[(w:Nat),0],none,none])
| `(#v[3,10])=>`((oI (λ_ j=>decide (0<=j)) λi j=>.int (i / 2 ^ j.toNat)))
| `(#v[4,10])=>`([#v[(m:Nat),0],#v[(k:Nat),0],#v[((lfT m k).map tmW),1],#v[(#v[6,7].map W.tup),2]])
| `(#v[5,10])=>`([#v[(m:Nat),0],#v[(k:Nat),0],#v[((lfT m k).map tmW),1],#v[(#v[6,7].map W.tup),1]])
| `(#v[6,10])=>`((gArg (gOpN oLen (gCns (zaa 0) gA0))))
| `(#v[7,10])=>`([W.int 0,.int 0,.int ((1+j:Nat):Int),.int 0])
| `(#v[8,10])=>`((s.heap.objs.size+1))
| `(#v[9,10])=>`([#v[kdW m k,6],#v[X,1],#v[(m:Nat),0],#v[(k:Nat),0],#v[w,0],some (.non,false)])
| `(#v[0,11])=>`((oI yes2 λi j=>.int (Builtin.bitXor i j)))
| `(#v[1,11])=>`((.bl true,false))
| `(#v[2,11])=>`((seqObj "list" #[] 0))
| `(#v[3,11])=>`([some #v[9,8],#v[[.int 0,.int 0,.int 0],2],#v[1,0],none,none,none])
| `(#v[4,11])=>`((oI yes2 λi j=>.int (i+j)))
| `(#v[5,11])=>`((scope.names.any λ(n,k)=>n == x && (k == .local || k == .cell)))
| `(#v[6,11])=>`((gCns (zaa 0) (gCns (gArg (gOp2 #v[0,0,1] #v[1] (zaa 1))) gA0)))
| `(#v[7,11])=>`((gArg (gOp2 oAdd (gArg (gOp2 oMult (gArg (gOp2 oIx (zaa 1) (gArg (gC (.int 1))))) (gArg (gC (.int 48271))))) (zaa 5))))
| `(#v[8,11])=>`([#v[(m:Nat),0],#v[X,1],#v[(-1),0],none,none])
| `(#v[9,11])=>`((oI yes2 λi j=>.bl (decide (j<i))))
| `(#v[0,12])=>`([v0,#v[st5,5],v2,#v[(m:Nat),0],#v[(t:Nat),0],#v[[.lst (xs.map W.int),.lst (ys.map W.int),.lst (zs.map W.int)],2]])
| `(#v[1,12])=>`([some (st',true),some (.int (m:Nat),false),some (.int (most:Nat),false),some (.lst ((zam m most).map tmW),false)])
| `(#v[2,12])=>`([some #v[7,7],#v[[.int a0,.int 0,.int 0],2],v2,v3,none,none])
| `(#v[3,12])=>`([#v[(m:Nat),0],#v[(castL (uL t)),3],#v[(castL (frP m t)),1]])
| `(#v[4,12])=>`([some (st,true),some (.int (m:Nat),false),some (.int (most:Nat),false),some (.lst ((zam m most).map tmW),true)])
| `(#v[5,12])=>`((oI yes2 λi j=>.int (Builtin.bitOr i j)))
| `(#v[6,12])=>`([some #v[9,8],some (.lst [.int a0,.int 0,.int 0],true),some (.int wt,false),some (.int n,false),none,none])
| `(#v[7,12])=>`((gAug [] #v[0,8] 0 (gArg (gOp2 #v[0,0,0] (zaa 0) #v[1]))))
| `(#v[8,12])=>`([#v[st2,5],#v[(m:Nat),0],#v[(t:Nat),0],#v[((tab (2 ^ m) (valF ts)).map W.int),2],#v[(w:Nat),0],none,none])
| `(#v[9,12])=>`([#v[kdW m k,6],#v[w,0],#v[(m:Nat),0],#v[(k:Nat),0],none])
| `(#v[0,13])=>`((zad [true,false] (Ψ "_law_bits") (gCns (zaa 0) (gCns (gArg (gOpN oLen (gCns (zaa 3) gA0))) gA0))))
| `(#v[1,13])=>`((zad [false,false] (Ψ "letter_flats") (gCns #v[2,4] (gCns (gArg (gOp2 oAdd (zaa 3) #v[1])) gA0))))
| `(#v[2,13])=>`((scope.names.lookup y.1=some .cell/\((cellsFrom #v[8,10] scope.names []).lookup y.1).isSome=true))
| `(#v[3,13])=>`((gArg (gOpN oAbs (gCns (zaa 3) gA0))))
local macro_rules | `(tactic| omega) => `(tactic| first | lia | omega +splitDisjunctions)
set_option hygiene true
namespace L2
open PySem PySem.Spec PyProof.Rows
noncomputable abbrev Key:=Sum Int Str
noncomputable def zpp:Key->Value->Bool
 |.inl k,v=>Value.isInt k v
 |.inr x,v=>Value.isStrOf x v
noncomputable def keyH (w:World):Key->Int
 |.inl k=>hashInt k
 |.inr x=>hashStr w x
theorem keyIs_shape:∀{k:Key}{v:Value},zpp k v=true->(∃i t,k=Sum.inl i/\v=Value.int i t)\/(∃x t,k=Sum.inr x/\v=Value.str x t)
 | .inl i,v,h=>by
  obtain⟨t,e⟩:=Value.isInt_shape (k:=i) (v:=v) h;exact .inl ⟨i,t,rfl,e⟩
 | .inr x,v,h=>by
  obtain⟨t,e⟩:=Value.isStrOf_shape (x:=x) (v:=v) h;exact .inr ⟨x,t,rfl,e⟩
theorem zxi (i:Int)(t:Tok):zpp (.inl i) (.int i t)=true:=by simp [zpp,Value.isInt]
theorem zvs (x:Str)(t:Tok):zpp (.inr x) (.str x t)=true:=by simp [zpp,Value.isStrOf]
theorem z9v (a b:Int):decide ((Sum.inl a:Key)=Sum.inl b)=(a==b):=by
 by_cases e:a=b
 ·subst e;simp
 ·have h : ¬ (Sum.inl a:Key)=Sum.inl b:=λq=>e (Sum.inl.inj q);rw[Ay h];exact (beq_eq_false_iff_ne.mpr e).symm
theorem z95 (a b:Str):decide ((Sum.inr a:Key)=Sum.inr b)=decide (a=b):=by
 by_cases e:a=b
 ·subst e;simp
 ·have h : ¬ (Sum.inr a:Key)=Sum.inr b:=λq=>e (Sum.inr.inj q);rw[Ay h,Ay e]
theorem z8o (a:Int)(b:Str):decide ((Sum.inl a:Key)=Sum.inr b)=false:=Ay (λq=>nomatch q)
theorem ybq (a:Str)(b:Int):decide ((Sum.inr a:Key)=Sum.inl b)=false:=Ay (λq=>nomatch q)
def zap (prog:Program) (w:World):PySem.KeyKind prog w Key where
 is:=zpp
 hash:=keyH w
 inj:=λv a b ha hb=>by
  rcases keyIs_shape ha with⟨i,t,rfl,rfl⟩|⟨x,t,rfl,rfl⟩
  ·rcases keyIs_shape hb with⟨j,u,rfl,e⟩|⟨y,u,rfl,e⟩
   ·injection e with e1 _;rw[e1]
   ·exact nomatch e
  ·rcases keyIs_shape hb with⟨j,u,rfl,e⟩|⟨y,u,rfl,e⟩
   ·exact nomatch e
   ·injection e with e1 _;rw[e1]
 byValue:=λk v h=>by
  rcases keyIs_shape h with⟨i,t,rfl,rfl⟩|⟨x,t,rfl,rfl⟩<;>rfl
 pyHash:=λhv h=>by
  rcases keyIs_shape hv with⟨i,t,rfl,rfl⟩|⟨x,t,rfl,rfl⟩
  ·exact wpAny_pyHash_int h
  ·exact wpAny_pyHash_str h
 eqBool:=λhu hv h=>by
  rcases keyIs_shape hu with⟨i,t,rfl,rfl⟩|⟨x,t,rfl,rfl⟩
  ·rcases keyIs_shape hv with⟨j,u,rfl,rfl⟩|⟨y,u,rfl,rfl⟩
   ·rw[z9v] at h;exact wpAny_eqBool_int h
   ·rw[z8o] at h;exact SeqAt.EqAt.int_str i t y u _ _ _ _ h
  ·rcases keyIs_shape hv with⟨j,u,rfl,rfl⟩|⟨y,u,rfl,rfl⟩
   ·rw[ybq] at h;exact SeqAt.EqAt.str_int x t j u _ _ _ _ h
   ·rw[z95] at h;exact wpAny_eqBool_str h
 «strs»:=λk x t v h=>by
  rcases keyIs_shape h with⟨i,u,rfl,e⟩|⟨y,u,rfl,e⟩
  ·exact nomatch e
  ·injection e with e1 _;subst e1;cases v<;>rfl
theorem zpr (prog:Program)(w:World)(i:Int)(t:Tok):(zap prog w).is (.inl i) (.int i t)=true:=zxi i t
theorem zox (prog:Program)(w:World)(x:Str)(t:Tok):(zap prog w).is (.inr x) (.str x t)=true:=zvs x t
inductive V where
 |non|bl (b:Bool)|int (i:Int)|str (x:Str)|byt (b:Array UInt8)|flt (b:UInt64)|ref (a:Addr)|ty (n:String)
 deriving DecidableEq
noncomputable def RelV:V->Value->Prop
 |.non,u=>u=Value.none
 |.bl b,u=>u=Value.bool b
 |.int i,u=>∃t,u=Value.int i t
 |.str x,u=>∃t,u=Value.str x t
 |.byt b,u=>∃t,u=Value.bytes b t
 |.flt b,u=>∃t,u=Value.float b t
 |.ref a,u=>u=Value.ref a
 |.ty n,u=>u=Value.type n
abbrev Vals:List V->List Value->Prop:=Paired RelV
theorem Vals.length {xs:List V}{us:List Value}(r:Vals xs us):xs.length=us.length:=Paired.length r
theorem Vals.get:∀{xs:List V}{us:List Value}{i:Nat}{x:V},Vals xs us->xs[i]?=some x->∃u,us[i]?=some u/\RelV x u
 |_,_,_,_,.nil,e=>by simp at e
 |_,_,0,_,.cons r _,e=>by simp at e;subst e;exact⟨_,rfl,r⟩
 | _,_,i+1,x,.cons _ t,e=>by
  obtain⟨u,h1,h2⟩:=Vals.get (i:=i) (x:=x) t (by simpa using e);exact⟨u,by simpa using h1,h2⟩
theorem Vals.set {x:V}{u:Value}(r:RelV x u):∀{xs:List V}{us:List Value} (i:Nat),Vals xs us->Vals (xs.set i x) (us.set i u)
 |_,_,_,.nil=>.nil
 |_,_,0,.cons _ t=>.cons r t
 |_,_,i+1,.cons q t=>.cons q (Vals.set r i t)
theorem Vals.append:∀{xs ys:List V}{us ws:List Value},Vals xs us->Vals ys ws->Vals (xs++ys) (us++ws)
 |_,_,_,_,.nil,s=>s
 |_,_,_,_,.cons r t,s=>.cons r (Vals.append t s)
theorem Vals.take:∀{xs:List V}{us:List Value} (n:Nat),Vals xs us->Vals (xs.take n) (us.take n)
 |_,_,0,_=>.nil
 |_,_,_+1,.nil=>.nil
 |_,_,n+1,.cons r t=>.cons r (Vals.take n t)
theorem Vals.drop:∀{xs:List V}{us:List Value} (n:Nat),Vals xs us->Vals (xs.drop n) (us.drop n)
 |_,_,0,r=>r
 |_,_,_+1,.nil=>.nil
 |_,_,n+1,.cons _ t=>Vals.drop n t
def RelO:Option V->Option Value->Prop
 |some v,some u=>RelV v u
 |none,none=>True
 |_,_=>False
def KV {κ:Type}:List (κ×V)->List (κ×Value)->Prop:=Paired λ(p:κ×V) (q:κ×Value)=>p.1=q.1/\RelV p.2 q.2
noncomputable def kV:Key->V
 |.inl i=>.int i
 |.inr x=>.str x
inductive HO where
 /-- a list -/
 |lst (xs:List V)
 /-- a tuple (never changes) -/
 |tup (xs:List V)
 /-- a dict whose keys are ints and texts;one whose keys are tuples of ints and texts (the empty one is both) -/
 |dK (kvs:List (Key×V))|dT (kvs:List (List Key×V))
 /-- a set of ints: its members,its size -/
 |set (S:Int->Bool) (n:Nat)
 /-- an instance of the class at C,its dict at dx,its attributes -/
 |ins (C dx:Addr) (fs:List (Str×V))
 /-- the dict of the instance at x -/
 |own (x:Addr)
 /-- the dict of an exception -/
 |xd (fs:List (Str×V))
 /-- a bound method,f of x -/
 |met (f x:Addr)
 /-- a range object lo,lo+1,.. below hi -/
 |rng (lo hi:Int)
 /-- a thing that is known to the object (the script;a dict while a loop walks it): read,never written while it is so -/
 |frz (o:Obj) (u:HO)
 /-- a code object's table -/
 |tbl (ps:Array Value)
 /-- any other thing,by what is true of its one object (a def of one's own: SetO a S n:=HO.ext λh=>..) -/
 |ext (φ:Heap->Prop)
noncomputable abbrev Hp:=Addr->Option HO
noncomputable def upd (H:Hp) (a:Addr) (o:HO):Hp:=λb=>if b=a then some o else H b
theorem upd_same {H:Hp}{a:Addr}{o:HO}:upd H a o a=some o:=by unfold upd;rw[if_pos rfl]
theorem upd_ne {H:Hp}{a b:Addr}{o:HO}(h:b≠a):upd H a o b=H b:=by unfold upd;rw[if_neg h]
theorem zwb {H:Hp}{a:Addr}{o u:HO}:upd (upd H a o) a u=upd H a u:=by
 funext b;unfold upd;split<;>rfl
theorem zac {H:Hp}{a b:Addr}{o:HO}(h:H a=some o)(h':H b=none):a≠b:=by
 intro e;subst e;rw[h] at h';cases h'
section
variable (P:Program) (w:World)
def zaz (H:Hp) (h:Heap) (a:Addr):HO->Prop
 |.lst xs=>xs.length<=sizeLine/\∃(its:List Value) (n:Nat),Vals xs its/\h.get? a=some { cls:=.type "list",data:=.seq its.toArray n }
 |.tup xs=>xs.length<=sizeLine/\∃its:List Value,Vals xs its/\IsTup h a its.toArray
 |.dK kvs=>kvs.length<=sizeLine/\(a==sysModules)=false/\∃vs,KV kvs vs/\h.DictOf (zap P w) a vs
 | .dT kvs=>kvs.length<=sizeLine/\(a==sysModules)=false/\∃xs:List (List Key×Addr×Value),
  Paired (λ(p:List Key×V) (q:List Key×Addr×Value)=>p.1=q.1/\H q.2.1=some (.tup (p.1.map kV))/\RelV p.2 q.2.2) kvs xs /\
  ∃o es ep,h.get? a=some o/\o.ExactDict/\o.data=.dict es ep/\es.toList=xs.map (entryOfKey (tupleKind (zap P w)))/\(xs.map (·.1)).Nodup
 |.set S n=>h.SetOf (intKind P w) a S n
 | .ins C dx fs=>H dx=some (.own a)/\fs.length<=1000/\dx≠a/\h.get? a=some (PySem.W.instObj C dx) /\
  ∃mA,h.Ns1 dx mA/\(∀f,RelO (fs.lookup f) (mA f))/\PySem.Within mA (fs.map (·.1))
 |.own _=>∃o,h.get? a=some o
 |.xd fs=>∃mA,h.Ns1 a mA/\∀f,RelO (fs.lookup f) (mA f)
 |.rng lo hi=>∃t u v,h.get? a=some { cls:=.type "range",data:=.fields #[.int lo t,.int hi u,.int 1 v] }
 |.frz o u=>h.get? a=some o/\zaz H h a u
 |.tbl ps=>h.get? a=some { cls:=.none,data:=.fields ps }
 |.met f x=>h.get? a=some (PySem.W.methodObj (.ref f) (.ref x))
 |.ext φ=>φ h/\(∃o,h.get? a=some o)/\∀h1 h2:Heap,φ h1->(∀o,h1.get? a=some o->h2.get? a=some o)->φ h2
def HOk (H:Hp) (h:Heap):Prop:=∀a o,H a=some o->zaz P w H h a o
end
section
variable {P:Program}{w:World}{H H' : Hp}{h h' : Heap}{a:Addr}{o:HO}
theorem zaz.lt (x:zaz P w H h a o):a<h.objs.size:=by
 cases o with
 |lst xs=>obtain⟨_,_,_,_,e⟩:=x;exact Ai e
 |tup xs=>obtain⟨_,_,_,p⟩:=x;exact p.lt
 |dK kvs=>obtain⟨_,_,_,_,o,_,_,e,_⟩:=x;exact Ai e
 |dT kvs=>obtain⟨_,_,_,_,o,_,_,e,_⟩:=x;exact Ai e
 |set S n=>obtain⟨o,_,_,_,e,_⟩:=x;exact Ai e
 |ins C dx fs=>obtain⟨_,_,_,e,_⟩:=x;exact Ai e
 |own y=>obtain⟨_,e⟩:=x;exact Ai e
 |xd fs=>obtain⟨_,⟨_,_,_,e,_⟩,_⟩:=x;exact Ai e
 |rng lo hi=>obtain⟨_,_,_,e⟩:=x;exact Ai e
 |frz ob u=>obtain⟨e,_⟩:=x;exact Ai e
 |tbl ps=>exact Ai (show h.get? a=some _ from x)
 |met f y=>exact Ai (show h.get? a=some _ from x)
 |ext φ=>obtain⟨_,⟨_,e⟩,_⟩:=x;exact Ai e
theorem Paired.mapP {α β:Type}{F G:α->β->Prop}:∀{l₁:List α}{l₂:List β},Paired F l₁ l₂->(∀a b,F a b->G a b)->Paired G l₁ l₂
 |_,_,.nil,_=>.nil
 |_,_,.cons r t,f=>.cons (f _ _ r) (Paired.mapP t f)
theorem zaz.stay (x:zaz P w H h a o) (k:∀b u,(b=a\/H b=some (.own a))->h.get? b=some u->h'.get? b=some u)
  (ho:∀b,H b=some (.own a)->H' b=some (.own a)) (ht:∀b xs,H b=some (.tup xs)->H' b=some (.tup xs)):zaz P w H' h' a o:=by
 induction o with
 |lst xs=>obtain⟨z,its,n,r,e⟩:=x;exact⟨z,its,n,r,k _ _ (.inl rfl) e⟩
 |tup xs=>obtain⟨z,its,r,ob,e,c⟩:=x;exact⟨z,its,r,ob,k _ _ (.inl rfl) e,c⟩
 |dK kvs=>obtain⟨z,y,vs,r,ob,es,ep,e,c⟩:=x;exact⟨z,y,vs,r,ob,es,ep,k _ _ (.inl rfl) e,c⟩
 | dT kvs =>
  obtain⟨z,y,xs,r,ob,es,ep,e,c⟩:=x;exact⟨z,y,xs,Paired.mapP r λp q z=>⟨z.1,ht _ _ z.2.1,z.2.2⟩,ob,es,ep,k _ _ (.inl rfl) e,c⟩
 |set S n=>obtain⟨ob,es,ep,t,e,c⟩:=x;exact⟨ob,es,ep,t,k _ _ (.inl rfl) e,c⟩
 | ins C dx fs =>
  obtain⟨d,z,ne,e,mA,⟨od,es,ep,e2,c⟩,r⟩:=x;exact⟨ho _ d,z,ne,k _ _ (.inl rfl) e,mA,⟨od,es,ep,k _ _ (.inr d) e2,c⟩,r⟩
 |own y=>obtain⟨ob,e⟩:=x;exact⟨ob,k _ _ (.inl rfl) e⟩
 |xd fs=>obtain⟨mA,⟨od,es,ep,e,c⟩,r⟩:=x;exact⟨mA,⟨od,es,ep,k _ _ (.inl rfl) e,c⟩,r⟩
 |rng lo hi=>obtain⟨t,u,v,e⟩:=x;exact⟨t,u,v,k _ _ (.inl rfl) e⟩
 |frz ob u ih=>obtain⟨e,q⟩:=x;exact⟨k _ _ (.inl rfl) e,ih q⟩
 | tbl ps =>
  have e:h.get? a=some { cls:=.none,data:=.fields ps }:=x;show h'.get? a=some { cls:=.none,data:=.fields ps };exact k a _ (.inl rfl) e
 | met f y =>
  have e:h.get? a=some (PySem.W.methodObj (.ref f) (.ref y)):=x;show h'.get? a=some (PySem.W.methodObj (.ref f) (.ref y));exact k a _ (.inl rfl) e
 |ext φ=>obtain⟨p,⟨o,e⟩,st⟩:=x;exact⟨st _ _ p λo q=>k _ _ (.inl rfl) q,⟨o,k _ _ (.inl rfl) e⟩,st⟩
theorem HOk.lt (x:HOk P w H h)(e:H a=some o):a<h.objs.size:=(x a o e).lt
theorem HOk.fresh (x:HOk P w H h)(e:h.objs.size<=a):H a=none:=by
 cases q:H a with
 |none=>rfl
 |some u=>exact absurd (Bb (x.lt q) e) (Bt _)
theorem HOk.kept (x:HOk P w H h)(k:∀b u,h.get? b=some u->h'.get? b=some u):HOk P w H h':=λa o e =>
 (x a o e).stay (λb u _ q=>k b u q) (λ_ q=>q) λ_ _ q=>q
theorem HOk.laid (x:HOk P w H h)(k:∀b u,h.get? b=some u->h'.get? b=some u)(hp:h.objs.size<=a)(new:zaz P w (upd H a o) h' a o):HOk P w (upd H a o) h':=λb u e=>by
 have hn:=x.fresh hp;by_cases hb:b=a
 ·subst hb;rw[upd_same] at e;obtain rfl:=sI e;exact new
 ·rw[upd_ne hb] at e;exact (x b u e).stay (λc v _ q=>k c v q) (λc q=>by rw[upd_ne (zac q hn)];exact q) λc xs q=>by rw[upd_ne (zac q hn)];exact q
end
def Rd (H:Hp) (a:Addr) (u:HO):Prop:=H a=some u\/∃o,H a=some (.frz o u)
theorem Rd.ok {P:Program}{w:World}{H:Hp}{h:Heap}{a:Addr}{u:HO}(r:Rd H a u)(x:HOk P w H h):zaz P w H h a u:=by
 rcases r with r|⟨o,r⟩
 ·exact x a u r
 ·obtain⟨_,q⟩:=x a _ r;exact q
noncomputable def Mut:Option HO->Prop
 |some (.lst _)=>True
 |some (.dK _)=>True
 |some (.dT _)=>True
 |some (.set _ _)=>True
 |some (.ins _ _ _)=>True
 |some (.ext _)=>True
 |_=>False
section
variable {P:Program}{w:World}{H:Hp}{h h' : Heap}{x e:Addr}{o' : HO}
theorem HOk.write (ok:HOk P w H h) (mu:Mut (H x)) (he:e=x\/H e=some (.own x)) (k:∀b u,b≠e->h.get? b=some u->h'.get? b=some u) (heo:∃u,h'.get? e=some u)
  (new:zaz P w (upd H x o') h' x o'):HOk P w (upd H x o') h':=λb u q=>by
 have nown:∀c y,H c=some (.own y)->c≠x:=λc y r z=>by subst z;rw[r] at mu;exact mu
 have ntup:∀c xs,H c=some (.tup xs)->c≠x:=λc xs r z=>by subst z;rw[r] at mu;exact mu
 by_cases hb:b=x
 ·subst hb;rw[upd_same] at q;obtain rfl:=sI q;exact new
 ·rw[upd_ne hb] at q;by_cases hbe:b=e
  ·have q':H b=some (.own x):=by
    rcases he with z|z
    ·exact absurd (hbe.trans z) hb
    ·rw[hbe];exact z
   rw[q] at q';obtain rfl:=sI q';obtain⟨v,hv⟩:=heo;exact⟨v,by rw[hbe];exact hv⟩
  ·refine (ok b u q).stay (λc v hc r=>k c v ?_ r) (λc r=>by rw[upd_ne (nown c b r)];exact r) λc xs r=>by rw[upd_ne (ntup c xs r)];exact r
   rcases hc with rfl|hc
   ·exact hbe
   ·rintro rfl;rcases he with z|z
    ·exact nown c b hc z
    ·rw[hc] at z;cases z;exact hb rfl
end
structure Un (fs ex:List Addr) (H H':Hp) (h h':Heap):Prop where
 keep:∀b o,h.get? b=some o->H b=none->b ∉ fs->b ∉ ex->h'.get? b=some o
 slot:∀b o,h.get? b=some o->H b=none->b∈fs->b ∉ ex->∃sl,h'.get? b=some { o with slots:=sl }
 free:∀b o,h.get? b=some o->H b=none->b ∉ ex->H' b=none
 there:∀b o,h.get? b=some o->b ∉ ex->∃o',h'.get? b=some o'
 tups:∀b xs,H b=some (.tup xs)->H' b=some (.tup xs)
 frzs:∀b o u,H b=some (.frz o u)->H' b=some (.frz o u)
 tbls:∀b ps,H b=some (.tbl ps)->∃more,H' b=some (.tbl (ps++more))
section
variable {fs fs' ex ex' : List Addr}{H H1 H2:Hp}{h h1 h2 h' : Heap}{a x e:Addr}{o:HO}
theorem Un.any (u:Un fs ex H H1 h h1){b:Addr}{ob:Obj}(q:h.get? b=some ob)(n:H b=none)(hx:b ∉ ex):∃sl,h1.get? b=some { ob with slots:=sl }:=by
 by_cases hb:b∈fs
 ·exact u.slot b ob q n hb hx
 ·exact⟨ob.slots,u.keep b ob q n hb hx⟩
theorem Un.kept (k:∀b u,h.get? b=some u->h'.get? b=some u):Un fs ex H H h h' :=
 ⟨λb ob q _ _ _=>k b ob q,λb ob q _ _ _=>⟨ob.slots,k b ob q⟩,λ_ _ _ n _=>n,λb ob q _=>⟨ob,k b ob q⟩,λ_ _ q=>q,λ_ _ _ q=>q,λ_ ps q=>⟨#[],by rw[q];simp⟩⟩
theorem Un.refl:Un fs ex H H h h:=Un.kept λ_ _ q=>q
theorem Un.laid (k:∀b u,h.get? b=some u->h'.get? b=some u)(hp:h.objs.size<=a)(hn:H a=none):Un fs ex H (upd H a o) h h' where
 keep:=λb u q _ _ _=>k b u q
 slot:=λb u q _ _ _=>⟨u.slots,k b u q⟩
 free:=λb u q n _=>by rw[upd_ne (Az (Bb (Ai q) hp))];exact n
 there:=λb u q _=>⟨u,k b u q⟩
 tups:=λb xs q=>by rw[upd_ne (zac q hn)];exact q
 frzs:=λb u xs q=>by rw[upd_ne (zac q hn)];exact q
 tbls:=λb ps q=>⟨#[],by rw[upd_ne (zac q hn),q];simp⟩
theorem Un.write (mu:Mut (H x))(he:e=x\/H e=some (.own x))(k:∀b u,b≠e->h.get? b=some u->h'.get? b=some u)(heo:∃u,h'.get? e=some u):Un fs ex H (upd H x o) h h':=by
 have hx:∀b,H b=none->b≠x:=λb n z=>by subst z;rw[n] at mu;exact mu
 have hb:∀b,H b=none->b≠e:=λb n z=>by
  subst z;rcases he with r|r
  ·exact hx b n r
  ·rw[n] at r;cases r
 have hm:∀b u,H b=some u->¬ Mut (some u)->b≠x:=λb u q nm z=>by subst z;rw[q] at mu;exact nm mu
 refine⟨λb u q n _ _=>k b u (hb b n) q,λb u q n _ _=>⟨u.slots,k b u (hb b n) q⟩,λb u q n _=>by rw[upd_ne (hx b n)];exact n,λb u q _=>?_,
  λb xs q=>by rw[upd_ne (hm b _ q λz=>z)];exact q,λb u xs q=>by rw[upd_ne (hm b _ q λz=>z)];exact q,λb ps q=>⟨#[],by rw[upd_ne (hm b _ q λz=>z),q];simp⟩⟩
 by_cases hbe:b=e
 ·subst hbe;exact heo
 ·exact⟨u,k b u hbe q⟩
end
noncomputable def trk (h:Heap) (H:Hp):List Addr:=(List.range h.objs.size).filter λa=>(H a).isSome
def hidT (h:Heap) (H:Hp):Heap:=PySem.W.hideAll h (trk h H)
theorem zym (h:Heap)(H:Hp):(hidT h H).objs.size=h.objs.size:=PySem.W.hideAll_size _ _
theorem z08 {h:Heap}{H:Hp}{b:Addr}{o:Obj}(e:h.get? b=some o)(n:H b=none):(hidT h H).get? b=some o :=
 PySem.W.hideAll_get _ e λhm=>by
  have q:(H b).isSome=true:=(Cs.mp hm).2;rw[n] at q;simp at q
theorem z5y {h:Heap}{H:Hp}{b:Addr}{o:Obj} (e:(hidT h H).get? b=some o):h.get? b=some o/\H b=none:=by
 have e':h.get? b=some o:=PySem.W.of_hideAll (trk h H) e;refine⟨e',?_⟩;cases q:H b with
 |none=>rfl
 | some x =>
  have hm:b∈trk h H:=Cs.mpr ⟨Bl.mpr (Ai e'),by simp [q]⟩;have z:(hidT h H).get? b=none:=PySem.W.hideAll_none (trk h H) hm;rw[z] at e;cases e
noncomputable def z4a (g h:Heap) (L:Addr):List (Addr×Obj):=(List.range h.objs.size).filterMap λa=>if a=L\/(g.get? a).isSome=true then none else (h.get? a).map λo=>(a,o)
def rest (g h:Heap) (L d:Addr):List (Addr×Obj):=(z4a g h L).filter λp=>decide (p.1≠d)
structure Mod (K:PySem.W.Frag) (mg:Str->Option Value) (base:Heap):Prop where
 kin:K.In base
 glob:base.Ns mainGlobals mg
 blt:∃mb,base.Ns builtinsNs mb/\∀x:Str,x≠"__name__" -> mb x=bootBuiltins x
 nolimit:base.NoLimit
 bmn:∃(b:Addr) (ob:Obj),mg "__builtins__" = some (.ref b)/\b≠builtinsNs/\base.get? b=some ob/\ob.cls=.type "module"/\ob.dict=some builtinsNs/\ob.data=.plain
structure Cx where
 prog:Program
 w:World
 K:PySem.W.Frag
 mg:Str->Option Value
 base:Heap
 A:Around
 N:List Str
 s₀:Shared
 H₀:Hp
 env:Env
 outer:List Env
 stack:List Env
 ex:List Addr
 fn:Str->Bool
 calm:Bool
 pn:List (Addr×Obj)
 xe:Value->Shared->Prop
noncomputable def frs (l:List Env):List Addr:=l.filterMap (·.frame)
abbrev Cx.fs (X:Cx):List Addr:=frs X.outer
def Vis (sc:Scope) (x:Str):Prop:=sc.names.lookup x=some .local\/sc.names.lookup x=some .cell\/sc.names.lookup x=some .free
def Loc (sc:Scope) (x:Str):Prop:=sc.names.lookup x=some .local\/sc.names.lookup x=some .cell
noncomputable def Look (env:Env) (h:Heap) (m:Str->Option Value) (x:Str) (u:Value):Prop :=
 (env.kindOf x=some .local/\m x=some u)\/((env.kindOf x=some .cell\/env.kindOf x=some .free)/\∃c,env.cells.lookup x=some c/\h.IsCell c (some u))
structure Cx.Ok (X:Cx):Prop where
 mod:Mod X.K X.mg X.base
 kind:X.env.scope.kind=.function
 glob:X.env.globals=mainGlobals
 blt:X.env.builtins=builtinsNs
 above:X.s₀.heap.objs.size<=X.env.locals
 inj:∀x y c,X.env.cells.lookup x=some c->X.env.cells.lookup y=some c->x=y
 has:∀x,(X.env.kindOf x=some .cell\/X.env.kindOf x=some .free)->∃c,X.env.cells.lookup x=some c
 cab:∀x c,X.fn x=true->X.env.cells.lookup x=some c->X.s₀.heap.objs.size<=c
 hd:X.calm=true->X.A.handled=none
 frames:X.A.frames=some X.stack
 stk:X.stack=X.outer\/(X.stack=X.env::X.outer/\X.env.frame=some X.env.locals)
 exf:∀b∈X.ex,b≠X.env.locals/\∀x c,X.env.cells.lookup x=some c->c≠b
 bs:∀b o,X.base.get? b=some o->X.s₀.heap.get? b=some o/\X.H₀ b=none
 bsz:X.base.objs.size<=X.s₀.heap.objs.size
 noex:∀b o,X.base.get? b=some o->b ∉ X.ex
 exfs:∀b∈X.ex,b ∉ X.fs
 funs:X.s₀.heap.FunFrames X.base X.outer
 frf:∀b∈X.fs,X.H₀ b=none
structure Inv (X:Cx) (pins:List (Addr×Obj)) (σ:List (Option V)) (H:Hp) (s:Shared):Prop where
 ok:X.Ok
 os:s.os=X.s₀.os
 bare:AllBare s.gens
 base:Un X.fs X.ex X.H₀ H X.s₀.heap s.heap
 loc:∃m,s.heap.Ns X.env.locals m/\∀(i:Nat) (x:Str) (v:V),X.N[i]?=some x->σ[i]?=some (some v)->Vis X.env.scope x->∃u,RelV v u/\Look X.env s.heap m x u
 cell:∀x c,X.env.cells.lookup x=some c->∃v,s.heap.IsCell c v
 free:H X.env.locals=none
 freeC:∀x c,X.env.cells.lookup x=some c->H c=none
 pin:∀p∈X.pn++pins,s.heap.get? p.1=some p.2/\H p.1=none/\p.1≠X.env.locals/\p.1 ∉ X.fs/\∀v,p.2.data≠.cell v
 hok:HOk X.prog X.w H s.heap
 len:σ.length=X.N.length
section
variable {X:Cx}{pins:List (Addr × Obj)}{σ:List (Option V)}{H H' : Hp}{s:Shared}{h' : Heap}
theorem Cx.Ok.nofr (ok:X.Ok){b:Addr}{o:Obj}(e:X.base.get? b=some o):b ∉ X.fs:=λhb=>by
 have:=(ok.funs.mem hb).1;rw[e] at this;cases this
theorem Inv.bs (I:Inv X pins σ H s):∀b o,X.base.get? b=some o->s.heap.get? b=some o/\H b=none:=λb o e =>
 ⟨I.base.keep b o (I.ok.bs b o e).1 (I.ok.bs b o e).2 (I.ok.nofr e) (I.ok.noex b o e),I.base.free b o (I.ok.bs b o e).1 (I.ok.bs b o e).2 (I.ok.noex b o e)⟩
theorem Inv.bk (I:Inv X pins σ H s):∀b o,X.base.get? b=some o->s.heap.get? b=some o:=λb o e=>(I.bs b o e).1
theorem Inv.mod (I:Inv X pins σ H s):Mod X.K X.mg X.base:=I.ok.mod
theorem Inv.kIn (I:Inv X pins σ H s):X.K.In s.heap:=I.ok.mod.kin.keeps I.bk
theorem Inv.lt (I:Inv X pins σ H s):X.env.locals<s.heap.objs.size:=let ⟨_,hn,_⟩:=I.loc;hn.lt
theorem Inv.sz (I:Inv X pins σ H s):X.s₀.heap.objs.size<=s.heap.objs.size:=Cf I.ok.above (Nat.le_of_lt I.lt)
theorem Inv.nofs (I:Inv X pins σ H s){a:Addr}(h:s.heap.objs.size<=a):a ∉ X.fs:=λhb=>by
 obtain⟨_,o,ho,_⟩:=I.ok.funs.mem hb;exact absurd (Bb (Ai ho) (Cf I.sz h)) (Bt _)
theorem Inv.cne (I:Inv X pins σ H s):∀x c,X.env.cells.lookup x=some c->c≠X.env.locals:=λx c e z=>by
 obtain⟨v,o,ho,hd⟩:=I.cell x c e;obtain⟨m,⟨o',es,ep,ho',hd',_⟩,_⟩:=I.loc;rw[z,ho'] at ho;obtain rfl:=sI ho;rw[hd'] at hd;cases hd
theorem Inv.funs (I:Inv X pins σ H s):s.heap.FunFrames X.base X.outer:=by
 have all:∀(l:List Env),(∀b∈frs l,b∈X.fs)->X.s₀.heap.FunFrames X.base l->s.heap.FunFrames X.base l:=by
  intro l
  induction l with
  |nil=>intro _ _;trivial
  | cons env r ih =>
   intro hs hl;nofun;obtain⟨hk,⟨L,o,hf,hn,ho,hd⟩,hr⟩:=hl;ac_rfl;have hL:L∈X.fs:=hs L (by unfold frs;rw[Gq,hf];exact Ax);obtain⟨sl,e⟩:=I.base.slot L o ho (I.ok.frf L hL) hL λz=>I.ok.exfs L z hL;exact⟨hk,⟨L,_,hf,hn,e,hd⟩,ih (λb hb=>hs b (by unfold frs;rw[Gq,hf];exact As _ hb)) hr⟩
 exact all X.outer (λ_ hb=>hb) I.ok.funs
theorem Inv.stack (I:Inv X pins σ H s):s.heap.FunFrames X.base X.stack:=by
 rcases I.ok.stk with e|⟨e,hf⟩
 ·rw[e];exact I.funs
 ·rw[e];obtain⟨m,hn,_⟩:=I.loc;refine .cons (by rw[I.ok.kind];decide) hf hn ?_ I.funs;exact Heap.get?_none_of_le (Cf I.ok.bsz I.ok.above)
theorem Inv.stkSub (I:Inv X pins σ H s):∀b∈frs X.stack,b∈X.env.locals::X.fs:=λb hb=>by
 rcases I.ok.stk with e|⟨e,hf⟩
 ·rw[e] at hb;exact As _ hb
 ·rw[e] at hb;unfold frs at hb;rw[Gq,hf] at hb;exact hb
theorem Inv.stkFree (I:Inv X pins σ H s):∀b∈frs X.stack,H b=none:=λb hb=>by
 rcases Ap.mp (I.stkSub b hb) with e|hb
 ·rw[e];exact I.free
 ·obtain⟨_,o,ho,_⟩:=I.ok.funs.mem hb;exact I.base.free b o ho (I.ok.frf b hb) λz=>I.ok.exfs b z hb
theorem Inv.step {g':Array GenState}{t':Nat}{d':Drawn}{ch:List Addr} (I:Inv X pins σ H s)
  (hch:∀b∈ch,(b∈X.ex\/X.s₀.heap.objs.size<=b)/\b≠X.env.locals/\(∀x c,X.env.cells.lookup x=some c->c≠b)/\∀p∈X.pn++pins,p.1≠b)
  (keep:∀b o,b≠X.env.locals->b ∉ X.fs->b ∉ ch->s.heap.get? b=some o->H b=none->h'.get? b=some o)
  (slot:∀b o,b≠X.env.locals->b∈X.fs->b ∉ ch->s.heap.get? b=some o->H b=none->∃sl,h'.get? b=some { o with slots:=sl }) (free:∀b o,b ∉ ch->s.heap.get? b=some o->H b=none->H' b=none)
  (there:∀b o,b ∉ ch->s.heap.get? b=some o->∃o',h'.get? b=some o')
  (tups:∀b xs,H b=some (.tup xs)->H' b=some (.tup xs)) (frzs:∀b o u,H b=some (.frz o u)->H' b=some (.frz o u)) (tbls:∀b ps,H b=some (.tbl ps)->∃more,H' b=some (.tbl (ps++more)))
  (ns:∀m,s.heap.Ns X.env.locals m->h'.Ns X.env.locals m) (hok:HOk X.prog X.w H' h') (hg:AllBare g') :
  Inv X pins σ H' { s with heap:=h',gens:=g',drawn:=d',toks:=t' }:=by
 have neL:∀b o,X.s₀.heap.get? b=some o->b≠X.env.locals:=λb o e=>Az (Bb (Ai e) I.ok.above);have neC:∀b o,X.s₀.heap.get? b=some o->b ∉ X.ex->b ∉ ch:=λb o e hx hb=>by
  rcases (hch b hb).1 with z|z
  ·exact hx z
  ·exact absurd (Bb (Ai e) z) (Bt _)
 have cellK:∀x c,X.env.cells.lookup x=some c->∀v,s.heap.IsCell c v->h'.IsCell c v:=λx c e v ⟨o,ho,hd⟩=>by
  have nch:c ∉ ch:=λz=>(hch c z).2.2.1 x c e rfl;by_cases hc:c∈X.fs
  ·obtain⟨sl,q⟩:=slot c o (I.cne x c e) hc nch ho (I.freeC x c e);exact⟨_,q,hd⟩
  ·exact⟨o,keep c o (I.cne x c e) hc nch ho (I.freeC x c e),hd⟩
 refine⟨I.ok,I.os,hg,⟨λb o e n hb hx=>?_,λb o e n hb hx=>?_,λb o e n hx=>?_,λb o e hx=>?_,λb xs e=>tups b xs (I.base.tups b xs e),λb o xs e=>frzs b o xs (I.base.frzs b o xs e),λb ps e=>?_⟩,?_,λx c e=>?_,?_,λx c e=>?_,λp hp=>?_,hok,I.len⟩
 ·exact keep b o (neL b o e) hb (neC b o e hx) (I.base.keep b o e n hb hx) (I.base.free b o e n hx)
 ·obtain⟨sl,e1⟩:=I.base.slot b o e n hb hx;obtain⟨sl',e2⟩:=slot b _ (neL b o e) hb (neC b o e hx) e1 (I.base.free b o e n hx);exact⟨sl',e2⟩
 ·obtain⟨o', e1⟩:=I.base.there b o e hx;exact free b o' (neC b o e hx) e1 (I.base.free b o e n hx)
 ·obtain⟨o', e1⟩:=I.base.there b o e hx;exact there b o' (neC b o e hx) e1
 ·obtain⟨m1,e1⟩:=I.base.tbls b ps e;obtain⟨m2,e2⟩:=tbls b _ e1;exact⟨m1++m2,by rw[e2,Array.append_assoc]⟩
 ·obtain⟨m,hn,hl⟩:=I.loc;refine⟨m,ns m hn,λi x v e1 e2 e3=>?_⟩;obtain⟨u,r,l⟩:=hl i x v e1 e2 e3;refine⟨u,r,?_⟩;rcases l with l|⟨k,c,e,z⟩
  ·exact .inl l
  ·exact .inr ⟨k,c,e,cellK x c e _ z⟩
 ·obtain⟨v,z⟩:=I.cell x c e;exact⟨v,cellK x c e v z⟩
 ·obtain⟨m,⟨o,_,_,ho,_⟩,_⟩:=I.loc;exact free _ o (λz=>(hch _ z).2.1 rfl) ho I.free
 ·obtain⟨v,o,ho,hd⟩:=I.cell x c e;exact free c o (λz=>(hch c z).2.2.1 x c e rfl) ho (I.freeC x c e)
 ·obtain⟨e,n,ne,nf,d⟩:=I.pin p hp;have nch:p.1 ∉ ch:=λz=>(hch p.1 z).2.2.2 p hp rfl;exact⟨keep p.1 p.2 ne nf nch e n,free p.1 p.2 nch e n,ne,nf,d⟩
theorem Inv.un {t':Nat}(I:Inv X pins σ H s)(u:Un X.fs [] H H' s.heap h')(hok:HOk X.prog X.w H' h'):Inv X pins σ H' { s with heap:=h',toks:=t' }:=by
 obtain⟨m,⟨o,es,ep,ho,r⟩,_⟩:=id I.loc;obtain⟨sl,hL⟩:=u.any ho I.free (by simp);exact I.step (g':=s.gens) (d':=s.drawn) (ch:=[]) (λ_ z=>nomatch z) (λb o _ hb _ e n=>u.keep b o e n hb (by simp)) (λb o _ hb _ e n=>u.slot b o e n hb (by simp)) (λb o _ e n=>u.free b o e n (by simp)) (λb o _ e=>u.there b o e (by simp)) u.tups u.frzs u.tbls (λm' hm=>by
  obtain⟨o',es',ep',ho',r'⟩:=hm;rw[ho] at ho';obtain rfl:=sI ho';exact⟨_,es',ep',hL,r'⟩) hok I.bare
theorem Inv.call {g':Array GenState}{t':Nat}{d':Drawn}{ch:List Addr} (I:Inv X pins σ H s) (u:Un (frs X.stack) ch H H' s.heap h') (hok:HOk X.prog X.w H' h') (hg:AllBare g')
  (hch:∀b∈ch,(b∈X.ex\/X.s₀.heap.objs.size<=b)/\b≠X.env.locals/\(∀x c,X.env.cells.lookup x=some c->c≠b)/\∀p∈X.pn++pins,p.1≠b) :
  Inv X pins σ H' { s with heap:=h',gens:=g',drawn:=d',toks:=t' }:=by
 obtain⟨m,⟨o,es,ep,ho,r⟩,_⟩:=id I.loc;obtain⟨sl,hL⟩:=u.any ho I.free λz=>(hch _ z).2.1 rfl;exact I.step (ch:=ch) hch (λb o hL hb hc e n=>u.keep b o e n (λz=>(Ap.mp (I.stkSub b z)).elim hL hb) hc) (λb o _ _ hc e n=>u.any e n hc) (λb o hc e n=>u.free b o e n hc) (λb o hc e=>u.there b o e hc) u.tups u.frzs u.tbls (λm' hm=>by
  obtain⟨o',es',ep',ho',r'⟩:=hm;rw[ho] at ho';obtain rfl:=sI ho';exact⟨_,es',ep',hL,r'⟩) hok hg
theorem Inv.turned {t':Nat}{it:Addr} (I:Inv X pins σ H s) (k:∀b o,b≠it->s.heap.get? b=some o->h'.get? b=some o) (hn:H it=none) (hL:it≠X.env.locals)
  (h1:it∈X.ex\/X.s₀.heap.objs.size<=it) (h2:∀x c,X.env.cells.lookup x=some c->c≠it) (h3:∀p∈X.pn++pins,p.1≠it):Inv X pins σ H { s with heap:=h',toks:=t' }:=by
 have nit:∀b u,H b=some u->b≠it:=λb u e z=>by rw[z,hn] at e;cases e
 refine I.step (g':=s.gens) (d':=s.drawn) (ch:=[it]) (λb hb=>?_) (λb o _ _ hc e _=>k b o (λz=>hc (by simp [z])) e) (λb o _ _ hc e _=>⟨o.slots,k b o (λz=>hc (by simp [z])) e⟩) (λ_ _ _ _ n=>n)
  (λb o hc e=>⟨o,k b o (λz=>hc (by simp [z])) e⟩) (λ_ _ e=>e) (λ_ _ _ e=>e) (λb ps e=>⟨#[],by rw[e];simp⟩) (λm hm=>?_) (λb u e=>?_) I.bare
 ·have e:b=it:=by simpa using hb
  subst e;exact⟨h1,hL,h2,h3⟩
 ·obtain⟨o,es,ep,ho,r⟩:=hm;exact⟨o,es,ep,k _ o (Ne.symm hL) ho,r⟩
 ·refine (I.hok b u e).stay (λc v hc q=>k c v ?_ q) (λ_ q=>q) λ_ _ q=>q;rcases hc with z|z
  ·rw[z];exact nit b u e
  ·exact nit c _ z
theorem Inv.tok (I:Inv X pins σ H s)(t:Nat):Inv X pins σ H { s with toks:=t }:=I.un (h':=s.heap) (t':=t) Un.refl I.hok
theorem Inv.kept {t':Nat}(I:Inv X pins σ H s)(k:∀b u,s.heap.get? b=some u->h'.get? b=some u):Inv X pins σ H { s with heap:=h',toks:=t' }:=I.un (Un.kept k) (I.hok.kept k)
theorem Inv.laid {a:Addr}{o:HO}{t':Nat} (I:Inv X pins σ H s) (k:∀b u,s.heap.get? b=some u->h'.get? b=some u) (hp:s.heap.objs.size<=a) (new:zaz X.prog X.w (upd H a o) h' a o) :
 Inv X pins σ (upd H a o) { s with heap:=h',toks:=t' }:=I.un (Un.laid k hp (I.hok.fresh hp)) (I.hok.laid k hp new)
theorem Inv.write {x e:Addr}{o:HO}{t':Nat} (I:Inv X pins σ H s) (mu:Mut (H x)) (he:e=x\/H e=some (.own x)) (k:∀b u,b≠e->s.heap.get? b=some u->h'.get? b=some u) (heo:∃u,h'.get? e=some u)
 (new:zaz X.prog X.w (upd H x o) h' x o):Inv X pins σ (upd H x o) { s with heap:=h',toks:=t' }:=I.un (Un.write mu he k heo) (I.hok.write mu he k heo new)
theorem Inv.pins_of {pins':List (Addr×Obj)}(I:Inv X pins σ H s)(h:∀p∈pins',s.heap.get? p.1=some p.2/\H p.1=none/\p.1≠X.env.locals/\p.1 ∉ X.fs/\∀v,p.2.data≠.cell v):Inv X pins' σ H s :=
 ⟨I.ok,I.os,I.bare,I.base,I.loc,I.cell,I.free,I.freeC,λp hp=>(Bq.mp hp).elim (λz=>I.pin p (Cz _ z)) (h p),I.hok,I.len⟩
theorem zqn {N:List Str}(hN:N.Nodup){i j:Nat}{x:Str}(a:N[i]?=some x)(b:N[j]?=some x):i=j:=by
 obtain⟨h1,e1⟩:=Ak.mp a;obtain⟨h2,e2⟩:=Ak.mp b;exact (List.getElem_inj hN).mp (e1.trans e2.symm)
theorem zn6 {M:Model}{A:Around}{E:Value->Shared->Prop}{i:Nat}{x:Str}{v:V}{u:Value}{Q:Unit->Shared->Prop} (I:Inv X pins σ H s) (hN:X.N.Nodup) (hi:X.N[i]?=some x) (hx:Loc X.env.scope x) (r:RelV v u)
  (h:∀s',Inv X pins (σ.set i (some v)) H s'->(∃a,Heap.SameBut a s.heap s'.heap/\(a=X.env.locals\/X.env.cells.lookup x=some a))->Q () s') (hf:X.fn x=true\/X.env.scope.names.lookup x=some .local:=by first|exact .inl rfl|exact .inr rfl|assumption):wpAny M A (storeName X.env x u) Q E s:=by
 obtain⟨m,hn,hl⟩:=id I.loc;have hcls:(X.env.scope.kind == .class || (X.env.scope.kind == .module && X.env.locals != X.env.globals))=false:=by rw[I.ok.kind];rfl
 have hiσ:i<σ.length:=by rw[I.len];exact (Ak.mp hi).1
 have cne:=I.cne;have tracked:∀{a:Addr}{h' : Heap},(∃o,s.heap.get? a=some o/\H a=none)->Heap.SameBut a s.heap h'->HOk X.prog X.w H h':=λ{a h'} ha hs b ob e=>by
  obtain⟨_,_,hfree⟩:=ha;refine (I.hok b ob e).stay (λc w' hc q=>(hs.2 c ?_).trans q) (λ_ q=>q) λ_ _ q=>q;rintro rfl;rcases hc with rfl|hc
  ·rw[hfree] at e;cases e
  ·rw[hfree] at hc;cases hc
 rcases hx with hk|hk
 ·refine wpAny_storeName_local hk hn (λh' hn' hs => ?_) hcls;obtain⟨oL,_,_,hoL,_⟩:=id hn;refine h _ ⟨I.ok,I.os,I.bare,⟨λb o e n hb hx=>?_,λb o e n hb hx=>?_,I.base.free,λb o e hx=>?_,I.base.tups,I.base.frzs,I.base.tbls⟩,⟨_,hn',λj y v' e1 e2 e3=>?_⟩,λy c e=>?_,I.free,I.freeC,λp hp=>?_,tracked ⟨oL,hoL,I.free⟩ hs,by simpa using I.len⟩ ⟨_,hs,.inl rfl⟩
  ·exact (hs.2 b (Az (Bb (Ai e) I.ok.above))).trans (I.base.keep b o e n hb hx)
  ·obtain⟨sl,e1⟩:=I.base.slot b o e n hb hx;exact⟨sl,(hs.2 b (Az (Bb (Ai e) I.ok.above))).trans e1⟩
  ·obtain⟨o', e1⟩:=I.base.there b o e hx;exact⟨o',(hs.2 b (Az (Bb (Ai e) I.ok.above))).trans e1⟩
  ·by_cases hj : j = i
   ·subst hj;rw[hi] at e1;obtain rfl:=sI e1;rw[Dq hiσ] at e2;cases e2;exact⟨u,r,.inl ⟨hk,by simp⟩⟩
   ·rw[Dm (Ne.symm hj)] at e2;obtain⟨u',r',q⟩:=hl j y v' e1 e2 e3;refine⟨u',r',?_⟩;rcases q with⟨k,e⟩|⟨k,c,e,z⟩
    ·refine .inl ⟨k, ?_⟩;have:y≠x:=λe=>hj (zqn hN e1 (e ▸ hi));simp [this,e]
    ·exact .inr ⟨k,c,e,z.sameBut hs (cne y c e)⟩
  ·obtain⟨w', z⟩:=I.cell y c e;exact⟨w',z.sameBut hs (cne y c e)⟩
  ·obtain⟨e,n,ne,nf,d⟩:=I.pin p hp;exact⟨(hs.2 p.1 ne).trans e,n,ne,nf,d⟩
 ·have hfn:X.fn x=true:=by
   rcases hf with z|z
   ·exact z
   ·rw[z] at hk;cases hk
  obtain⟨c,hc⟩:=I.ok.has x (.inl hk);obtain⟨w',z⟩:=I.cell x c hc;refine wpAny_storeName_cell I.ok.kind hk hc z (λh' hc' hs=>?_);obtain⟨oc,hoc,hocd⟩:=id z;refine h { s with heap:=h' } ⟨I.ok,I.os,I.bare,⟨λb o e n hb hx=>?_,λb o e n hb hx=>?_,I.base.free,λb o e hx=>?_,I.base.tups,I.base.frzs,I.base.tbls⟩,⟨m,hn.sameBut hs (Ne.symm (cne x c hc)),λj y v' e1 e2 e3=>?_⟩,λy c' e=>?_,I.free,I.freeC,λp hp=>?_,tracked ⟨oc,hoc,I.freeC x c hc⟩ hs,by simpa using I.len⟩ ⟨c,hs,.inr hc⟩
  ·exact (hs.2 b (Az (Bb (Ai e) (I.ok.cab x c hfn hc)))).trans (I.base.keep b o e n hb hx)
  ·obtain⟨sl,e1⟩:=I.base.slot b o e n hb hx;exact⟨sl,(hs.2 b (Az (Bb (Ai e) (I.ok.cab x c hfn hc)))).trans e1⟩
  ·obtain⟨o', e1⟩:=I.base.there b o e hx;exact⟨o',(hs.2 b (Az (Bb (Ai e) (I.ok.cab x c hfn hc)))).trans e1⟩
  ·by_cases hj : j = i
   ·subst hj;rw[hi] at e1;obtain rfl:=sI e1;rw[Dq hiσ] at e2;cases e2;exact⟨u,r,.inr ⟨.inl hk,c,hc,hc'⟩⟩
   ·rw[Dm (Ne.symm hj)] at e2;obtain⟨u',r',q⟩:=hl j y v' e1 e2 e3;refine⟨u',r',?_⟩;rcases q with q|⟨k,c',e,z'⟩
    ·exact .inl q
    ·refine .inr ⟨k,c', e,z'.sameBut hs ?_⟩;rintro rfl;exact hj (zqn hN e1 (I.ok.inj _ _ _ e hc ▸ hi))
  ·by_cases hcc : c' = c
   ·subst hcc;exact⟨_,hc'⟩
   ·obtain⟨w2,z2⟩:=I.cell y c' e;exact⟨w2,z2.sameBut hs hcc⟩
  ·obtain⟨e,n,ne,nf,d⟩:=I.pin p hp;refine⟨(hs.2 p.1 ?_).trans e,n,ne,nf,d⟩;intro q;rw[q,hoc] at e;have q' : oc=p.2:=sI e;exact d w' (by rw[<-q'];exact hocd)
theorem zkg {M:Model}{A:Around}{E:Value->Shared->Prop}{i:Nat}{x:Str}{v:V}{u:Value}{Q:Unit->Shared->Prop} (I:Inv X pins σ H s) (hN:X.N.Nodup) (hi:X.N[i]?=some x) (hx:Loc X.env.scope x) (r:RelV v u)
  (h:∀s',Inv X pins (σ.set i (some v)) H s'->Q () s') (hf:X.fn x=true\/X.env.scope.names.lookup x=some .local:=by first|exact .inl rfl|exact .inr rfl|assumption):wpAny M A (storeName X.env x u) Q E s :=
 zn6 I hN hi hx r (λs' I' _=>h s' I') hf
theorem Inv.call' {s':Shared}{ch:List Addr} (I:Inv X pins σ H s) (ho:s'.os=s.os) (u:Un (frs X.stack) ch H H' s.heap s'.heap) (hok:HOk X.prog X.w H' s'.heap) (hg:AllBare s'.gens)
  (hch:∀b∈ch,(b∈X.ex\/X.s₀.heap.objs.size<=b)/\b≠X.env.locals/\(∀x c,X.env.cells.lookup x=some c->c≠b)/\∀p∈X.pn++pins,p.1≠b):Inv X pins σ H' s':=by
 obtain⟨h',g',d',t',o'⟩:=s';have e:o'=s.os:=ho;subst e;exact I.call (g':=g') (t':=t') (d':=d') u hok hg hch
end
abbrev XK:=Value->Option Addr->Hp->Prop
noncomputable abbrev St:=List (Option V)
abbrev VK:=V->Hp->Prop
abbrev TE:=St->Hp->VK->Prop
abbrev TT:=St->Hp->(Bool->Hp->Prop)->Prop
abbrev TA:=St->Hp->(List V->Hp->Prop)->Prop
structure Ends where
 nx:St->Hp->Prop
 rt:VK
 bk:St->Hp->Prop:=λ_ _=>False
 ct:St->Hp->Prop:=λ_ _=>False
abbrev TS:=Ends->St->Hp->Prop
def EP (X:Cx) (pins:List (Addr×Obj)) (σ:St) (Q:VK) (u:Value) (s':Shared):Prop:=∃v H',Inv X pins σ H' s'/\RelV v u/\Q v H'
def TP (X:Cx) (pins:List (Addr×Obj)) (σ:St) (Q:Bool->Hp->Prop) (b:Bool) (s':Shared):Prop:=∃H',Inv X pins σ H' s'/\Q b H'
noncomputable def AP (X:Cx) (pins:List (Addr×Obj)) (σ:St) (Q:List V->Hp->Prop) (us:List Value) (s':Shared):Prop:=∃vs H',Inv X pins σ H' s'/\Vals vs us/\Q vs H'
noncomputable def SP (X:Cx) (pins:List (Addr×Obj)) (D:Ends) (f:Flow) (s':Shared):Prop :=
 match f with
 |.next=>∃σ' H',Inv X pins σ' H' s'/\D.nx σ' H'
 |.brk=>∃σ' H',Inv X pins σ' H' s'/\D.bk σ' H'
 |.cont=>∃σ' H',Inv X pins σ' H' s'/\D.ct σ' H'
 |.ret u=>∃v σ' H',Inv X pins σ' H' s'/\RelV v u/\D.rt v H'
noncomputable def PE (X:Cx) (e:Expr) (t:TE):Prop :=
 ∀(pins:List (Addr×Obj)) (s:Shared) (σ:St) (H:Hp) (Q:VK),Inv X pins σ H s->t σ H Q->wpAny #v[1,7] X.A (eval e X.env) (EP X pins σ Q) X.xe s
noncomputable def PT (X:Cx) (e:Expr) (t:TT):Prop :=
 ∀(pins:List (Addr×Obj)) (s:Shared) (σ:St) (H:Hp) (Q:Bool->Hp->Prop),Inv X pins σ H s->t σ H Q->wpAny #v[1,7] X.A (isTrue e X.env (eval e X.env)) (TP X pins σ Q) X.xe s
noncomputable def PW (X:Cx) (e:Expr) (t:TT):Prop :=
 ∀(whole:Sem Value) (pins:List (Addr×Obj)) (s:Shared) (σ:St) (H:Hp) (Q:Bool->Hp->Prop),Inv X pins σ H s->t σ H Q->wpAny #v[1,7] X.A (isTrue e X.env whole) (TP X pins σ Q) X.xe s
theorem PW.pt {X:Cx}{e:Expr}{t:TT}(h:PW X e t):PT X e t:=h _
noncomputable def PA (X:Cx) (es:List Expr) (t:TA):Prop :=
 ∀(pos:Pos) (pins:List (Addr×Obj)) (s:Shared) (σ:St) (H:Hp) (Q:List V->Hp->Prop),Inv X pins σ H s->t σ H Q->wpAny #v[1,7] X.A (spliced (backTo pos (starEach es X.env))) (AP X pins σ Q) X.xe s
noncomputable def PS (X:Cx) (st:Stmt) (t:TS):Prop :=
 ∀(pins:List (Addr×Obj)) (s:Shared) (σ:St) (H:Hp) (D:Ends),Inv X pins σ H s->t D σ H->wpAny #v[1,7] X.A (exec st X.env) (SP X pins D) X.xe s
noncomputable def PSs (X:Cx) (st:List Stmt) (t:TS):Prop :=
 ∀(pins:List (Addr×Obj)) (s:Shared) (σ:St) (H:Hp) (D:Ends),Inv X pins σ H s->t D σ H->wpAny #v[1,7] X.A (execs st X.env) (SP X pins D) X.xe s
theorem thn {α:Type}{t:Sem α}{Q Q':α->Shared->Prop}{M:Model}{A:Around}{E:Value->Shared->Prop}{s:Shared}(h:wpAny M A t Q E s)(hQ:∀a s,Q a s->Q' a s):wpAny M A t Q' E s:=Cj h hQ λ_ _ x=>x
section
variable {X:Cx}
theorem bin {a b:Expr}{ta tb:TE} (ha:PE X a ta) (hb:PE X b tb) {pins:List (Addr×Obj)}{s:Shared}{σ:St}{H:Hp}{R:V->V->Hp->Prop} (I:Inv X pins σ H s) (h:ta σ H λx H1=>tb σ H1 λy H2=>R x y H2)
  {α:Type}{Q:α->Shared->Prop}{f:Value->Value->Sem α}
  (hf:∀v u s2 x y H2,Inv X pins σ H2 s2->RelV x v->RelV y u->R x y H2->wpAny #v[1,7] X.A (f v u) Q X.xe s2) :
  wpAny #v[1,7] X.A (eval a X.env) (λv s₁=>wpAny #v[1,7] X.A (eval b X.env) (λu s₂=>wpAny #v[1,7] X.A (f v u) Q X.xe s₂) X.xe s₁) X.xe s:=by
 refine thn (ha pins s σ H _ I h) λv s1 ⟨x,H1,I1,r1,q1⟩=>?_;refine thn (hb pins s1 σ H1 _ I1 q1) λu s2 ⟨y,H2,I2,r2,q2⟩=>?_;exact hf v u s2 x y H2 I2 r1 r2 q2
noncomputable def tVar (i:Nat):TE:=λσ H Q=>∃v,σ[i]?=some (some v)/\Q v H
noncomputable def tC (v:V):TE:=λ_ H Q=>Q v H
theorem zrd {i:Nat}{x:Str}{pos:Pos}(hN:X.N[i]?=some x)(hv:Vis X.env.scope x)(hd:(x==("__debug__" : Str))=false:=by decide)(hcd:(x==("__classdict__" : Str))=false:=by decide):PE X (.Name x pos) (tVar i):=by
 intro pins s σ H Q I h;nofun;obtain⟨v,e,h⟩:=h;obtain⟨m,hn,hl⟩:=I.loc;obtain⟨u,r,l⟩:=hl i x v hN e hv;ac_rfl;have fin:EP X pins σ Q u s:=⟨v,H,I,r,h⟩;rcases l with⟨hk,hm⟩|⟨hk,c,hc,hcell⟩
 ·exact wpAny_Name (wpAny_loadName_local I.ok.kind hk hn hm fin) hd
 ·rcases hk with hk|hk
  ·exact wpAny_Name (wpAny_loadName_cell I.ok.kind hk hc hcell fin) hd
  ·exact wpAny_Name (wpAny_loadName_free I.ok.kind hk hc hcell fin hcd) hd
theorem z9w {i j pos}:PE X (.Constant (.int i) j pos) (tC (.int i)):=λ_ _ _ H _ I h=>wpAny_Constant_int ⟨.int i,H,I.tok _,⟨_,rfl⟩,h⟩
theorem ycw {b j pos}:PE X (.Constant (.bool b) j pos) (tC (.bl b)):=λ_ _ _ H _ I h=>Constant_bool ⟨.bl b,H,I,rfl,h⟩
theorem yb3 {j pos}:PE X (.Constant .none j pos) (tC .non):=λ_ _ _ H _ I h=>Constant_none ⟨.non,H,I,rfl,h⟩
theorem z8y {x j pos}:PE X (.Constant (.str x) j pos) (tC (.str x)):=λ_ _ _ H _ I h=>Calls.Constant_str ⟨.str x,H,I.tok _,⟨_,rfl⟩,h⟩
def Gl (X:Cx) (x:Str):Prop:=X.env.kindOf x=some .globalImplicit
theorem z6p {E:Value->Shared->Prop}{pins:List (Addr×Obj)}{s:Shared}{σ:St}{H:Hp}{x:Str}{u:Value}{pos:Pos}{Q:Value->Shared->Prop} (I:Inv X pins σ H s) (hg:Gl X x) (hm:X.mg x=some u) (h:Q u s)
  (hd:(x==("__debug__" : Str))=false:=by decide):wpAny #v[1,7] X.A (eval (.Name x pos) X.env) Q E s :=
 Calls.Name_function_global I.ok.kind hg (Calls.loadGlobal_global (by rw[I.ok.glob];exact I.mod.glob.keeps I.bk) hm h) hd
theorem zem {E:Value->Shared->Prop}{pins:List (Addr×Obj)}{s:Shared}{σ:St}{H:Hp}{x:Str}{u:Value}{pos:Pos}{Q:Value->Shared->Prop} (I:Inv X pins σ H s) (hg:Gl X x) (hm:X.mg x=none) (hv:bootBuiltins x=some u) (h:Q u s)
  (hn:x≠"__name__" := by decide) (hd:(x==("__debug__" : Str))=false:=by decide):wpAny #v[1,7] X.A (eval (.Name x pos) X.env) Q E s:=by
 obtain⟨mb,h1,h2⟩:=I.mod.blt;exact Calls.Name_function_global I.ok.kind hg (Calls.loadGlobal_builtin (by rw[I.ok.glob];exact I.mod.glob.keeps I.bk) hm (by rw[I.ok.blt];exact h1.keeps I.bk) ((h2 x hn).trans hv) h) hd
theorem z4x {x:Str}{v:V}{u:Value}{pos:Pos}(hg:Gl X x)(hm:X.mg x=none)(hv:bootBuiltins x=some u)(r:RelV v u)(hn:x≠"__name__" := by decide)(hd:(x==("__debug__" : Str))=false:=by decide):PE X (.Name x pos) (tC v) :=
 λ_ _ _ H _ I h=>zem I hg hm hv ⟨v,H,I,r,h⟩ hn hd
variable {a b:Expr}{ta tb:TE}{pos:Pos}
noncomputable def PC (X:Cx) (op:CmpOp) (a b:Expr) (t:TE):Prop :=
 ∀(pins:List (Addr×Obj)) (s:Shared) (σ:St) (H:Hp) (Q:VK),Inv X pins σ H s->t σ H Q ->
  wpAny #v[1,7] X.A (eval a X.env) (λv s₁=>wpAny #v[1,7] X.A (eval b X.env) (λu s₂=>wpAny #v[1,7] X.A (compareOp op v u) (EP X pins σ Q) X.xe s₂) X.xe s₁) X.xe s
theorem zz1 (b:Expr){op:CmpOp}(h:op≠.In)(h2:op≠.NotIn):behindInMarks op b=false:=by
 have e1:(op==CmpOp.In)=false:=by cases op<;>first|rfl|exact absurd rfl h
 have e2:(op==CmpOp.NotIn)=false:=by cases op<;>first|rfl|exact absurd rfl h2
 cases b<;>simp [behindInMarks,e1,e2]
noncomputable def tB (t:TE):TT:=λσ H Q=>t σ H λx H1=>∃c,x=.bl c/\Q c H1
theorem yec {op:CmpOp}{t:TE}(h:PC X op a b t)(h1:behindInMarks op b=false:=by first|exact zz1 _ #v[0,9] #v[0,9]|rfl):PT X (.Compare a [op] [b] pos) (tB t):=by
 intro pins s σ H Q I hw;refine wpAny_isTrue_Compare1 (thn (h pins s σ H _ I hw) λv s1 h1=>thn h1 λu s2 h2=>thn h2 λc s3 ⟨x,H1,I1,r1,q1⟩=>?_) h1;obtain⟨d,rfl,q⟩:=q1;cases r1;exact Cu ⟨H1,I1,q⟩
theorem ya9 {e:Expr}{t:TE}(h:PE X e t)(he:∀whole,isTrue e X.env whole=(do let v <- whole;standAt e.pos;holding [v] (truthy v)):=by intro _;rfl):PT X e (tB t):=by
 intro pins s σ H Q I hw;refine isTrue_plain (thn (h pins s σ H _ I hw) λv s1 ⟨x,H1,I1,r1,q1⟩=>?_) (he _);obtain⟨d,rfl,q⟩:=q1;cases r1;exact Cu ⟨H1,I1,q⟩
variable {tA tB' : TT}{rest:List Expr}
noncomputable def tAnd (t u:TT):TT:=λσ H Q=>t σ H λc H1=>if c=true then u σ H1 Q else Q false H1
noncomputable def tOr (t u:TT):TT:=λσ H Q=>t σ H λc H1=>if c=true then Q true H1 else u σ H1 Q
noncomputable def tNot (t:TT):TT:=λσ H Q=>t σ H λc H1=>Q (!c) H1
theorem z7d (ha:PT X a tA):PW X (.BoolOp .And [a] pos) tA:=by
 intro wh pins s σ H Q I h;refine isTrue_and (thn (ha pins s σ H Q I h) λc s1 e=>?_);cases c with
 |true=>exact isTrue_and_nil e
 |false=>exact e
theorem yau (ha:PT X a tA):PW X (.BoolOp .Or [a] pos) tA:=by
 intro wh pins s σ H Q I h;refine isTrue_or (thn (ha pins s σ H Q I h) λc s1 e=>?_);cases c with
 |false=>exact isTrue_or_nil e
 |true=>exact e
theorem z9h (ha:PT X a tA)(hb:PW X (.BoolOp .And (b::rest) pos) tB'):PW X (.BoolOp .And (a::b::rest) pos) (tAnd tA tB'):=by
 intro wh pins s σ H Q I h;refine isTrue_and (thn (ha pins s σ H _ I h) λc s1 ⟨H1,I1,q1⟩=>?_);cases c with
 |true=>exact hb wh pins s1 σ H1 Q I1 q1
 |false=>exact⟨H1,I1,q1⟩
theorem yc1 (ha:PT X a tA)(hb:PW X (.BoolOp .Or (b::rest) pos) tB'):PW X (.BoolOp .Or (a::b::rest) pos) (tOr tA tB'):=by
 intro wh pins s σ H Q I h;refine isTrue_or (thn (ha pins s σ H _ I h) λc s1 ⟨H1,I1,q1⟩=>?_);cases c with
 |true=>exact⟨H1,I1,q1⟩
 |false=>exact hb wh pins s1 σ H1 Q I1 q1
theorem yai (ha:PT X a tA):PT X (.UnaryOp .Not a pos) (tNot tA):=by
 intro pins s σ H Q I h;exact isTrue_not (ha pins s σ H (λc H1=>Q (!c) H1) I h)
noncomputable def ybn (ta tb:TE):TE:=λσ H Q=>ta σ H λx H1=>∃c,x=.bl c/\if c=true then tb σ H1 Q else Q (.bl false) H1
noncomputable def yaq (ta:TE):TE:=λσ H Q=>ta σ H λx H1=>∃c,x=.bl c/\Q (.bl (!c)) H1
theorem z8g {op}{t:TE}(h:PE X a t):PE X (.BoolOp op [a] pos) t:=λpins s σ H Q I hw=>BoolOp_one (h pins s σ H Q I hw)
theorem yb5 (ha:PE X a ta)(hb:PE X (.BoolOp .And (b::rest) pos) tb):PE X (.BoolOp .And (a::b::rest) pos) (ybn ta tb):=by
 intro pins s σ H Q I h;refine BoolOp_and (thn (ha pins s σ H _ I h) λv s1 ⟨x,H1,I1,r1,q1⟩=>?_);obtain⟨c,rfl,q1⟩:=q1;cases r1;refine Cu ?_;cases c with
 |true=>exact hb pins s1 σ H1 Q I1 q1
 |false=>exact⟨.bl false,H1,I1,rfl,q1⟩
theorem ya2 (ha:PE X a ta):PE X (.UnaryOp .Not a pos) (yaq ta):=by
 intro pins s σ H Q I h;refine UnaryOp_ (thn (ha pins s σ H _ I h) λv s1 ⟨x,H1,I1,r1,q1⟩=>?_);obtain⟨c,rfl,q1⟩:=q1;cases r1;exact not_of (Cu ⟨.bl (!c),H1,I1,rfl,q1⟩)
end
noncomputable def SqL (K:PySem.W.Frag) (H:Hp) (a:Addr) (xs:List V):Prop :=
 Rd H a (.lst xs) \/
  ∃(o:Obj) (its:Array Value) (n:Nat),K.lookup a=some o/\o.cls=.type "list"/\o.dict=none/\o.data=.seq its n/\its.size<=sizeLine/\Vals xs its.toList
noncomputable def SqT (K:PySem.W.Frag) (H:Hp) (a:Addr) (xs:List V):Prop :=
 Rd H a (.tup xs) \/
  ∃(o:Obj) (its:Array Value) (n:Nat),K.lookup a=some o/\o.cls=.type "tuple"/\o.data=.seq its n/\its.size<=sizeLine/\Vals xs its.toList
noncomputable def absV:Value->Option V
 |.none=>some .non
 |.bool b=>some (.bl b)
 |.int i _=>some (.int i)
 |.str x _=>some (.str x)
 |.bytes b _=>some (.byt b)
 |.float b _=>some (.flt b)
 |.ref a=>some (.ref a)
 |.type n=>some (.ty n)
 |_=>none
theorem RelV.abs {x:V}{u:Value}(r:RelV x u):absV u=some x:=by
 cases x with
 |non=>cases r;rfl
 |bl _=>cases r;rfl
 |int _=>obtain⟨t,rfl⟩:=r;rfl
 |str _=>obtain⟨t,rfl⟩:=r;rfl
 |byt _=>obtain⟨t,rfl⟩:=r;rfl
 |flt _=>obtain⟨t,rfl⟩:=r;rfl
 |ref _=>cases r;rfl
 |ty _=>cases r;rfl
theorem RelV.inj {x y:V}{u:Value}(r:RelV x u)(q:RelV y u):x=y:=sI (r.abs.symm.trans q.abs)
theorem Vals.inj:∀{xs ys:List V}{us:List Value},Vals xs us->Vals ys us->xs=ys
 |_,_,_,.nil,.nil=>rfl
 |_,_,_,.cons r t,.cons r' t'=>by rw[r.inj r',Vals.inj t t']
section
variable {X:Cx}{pins:List (Addr × Obj)}{σ:St}{H:Hp}{s:Shared}{a:Addr}{xs ys:List V}
theorem Inv.list (I:Inv X pins σ H s)(h:SqL X.K H a xs):∃its:List Value,Vals xs its/\PlainL s.heap a its.toArray/\xs.length<=sizeLine:=by
 rcases h with h|⟨o,its,n,hk,hc,hd,hs,hz,r⟩
 ·obtain⟨z,its,n,r,e⟩:=h.ok I.hok;exact⟨its,r,⟨_,n,e,rfl,rfl,rfl⟩,z⟩
 ·refine⟨its.toList,r,⟨o,n,I.kIn a o hk,hc,hd,by simpa using hs⟩, ?_⟩;have e:=r.length;simp only [Bx] at e;omega
theorem Inv.tuple (I:Inv X pins σ H s)(h:SqT X.K H a xs):∃its:List Value,Vals xs its/\IsTup s.heap a its.toArray/\xs.length<=sizeLine:=by
 rcases h with h|⟨o,its,n,hk,hc,hs,hz,r⟩
 ·obtain⟨z,its,r,p⟩:=h.ok I.hok;exact⟨its,r,p,z⟩
 ·refine⟨its.toList,r,⟨o,I.kIn a o hk,hc,n,by simpa using hs⟩, ?_⟩;have e:=r.length;simp only [Bx] at e;omega
theorem Inv.list_inj (I:Inv X pins σ H s)(h:SqL X.K H a xs)(h':SqL X.K H a ys):xs=ys:=by
 obtain⟨its,r,⟨o,n,e,_,_,d⟩,_⟩:=I.list h;obtain⟨its',r',⟨o',n',e',_,_,d'⟩,_⟩:=I.list h';rw[e] at e';obtain rfl:=sI e';rw[d] at d';injection d' with d1 _;have:its=its':=by simpa using congrArg Array.toList d1
 subst this;exact r.inj r'
theorem Inv.tuple_inj (I:Inv X pins σ H s)(h:SqT X.K H a xs)(h':SqT X.K H a ys):xs=ys:=by
 obtain⟨its,r,⟨o,e,_,n,d⟩,_⟩:=I.tuple h;obtain⟨its',r',⟨o',e',_,n',d'⟩,_⟩:=I.tuple h';rw[e] at e';obtain rfl:=sI e';rw[d] at d';injection d' with d1 _;have:its=its':=by simpa using congrArg Array.toList d1
 subst this;exact r.inj r'
end
noncomputable abbrev Cx.wish (X:Cx) (E:Value->Shared->Prop):Cx:={ X with xe:=E }
noncomputable abbrev Cx.nox (X:Cx):Cx:=X.wish λ_ _=>False
theorem Cx.Ok.wish {X:Cx}(ok:X.Ok)(E:Value->Shared->Prop):(X.wish E).Ok :=
 ⟨ok.mod,ok.kind,ok.glob,ok.blt,ok.above,ok.inj,ok.has,ok.cab,ok.hd,ok.frames,ok.stk,ok.exf,ok.bs,ok.bsz,ok.noex,ok.exfs,ok.funs,ok.frf⟩
theorem Cx.Ok.unwish {X:Cx}{E:Value->Shared->Prop}(ok:(X.wish E).Ok):X.Ok :=
 ⟨ok.mod,ok.kind,ok.glob,ok.blt,ok.above,ok.inj,ok.has,ok.cab,ok.hd,ok.frames,ok.stk,ok.exf,ok.bs,ok.bsz,ok.noex,ok.exfs,ok.funs,ok.frf⟩
section
variable {X:Cx}{pins:List (Addr × Obj)}{σ:St}{H:Hp}{s:Shared}{E:Value->Shared->Prop}
theorem Inv.wish (I:Inv X pins σ H s)(E:Value->Shared->Prop):Inv (X.wish E) pins σ H s:=⟨I.ok.wish E,I.os,I.bare,I.base,I.loc,I.cell,I.free,I.freeC,I.pin,I.hok,I.len⟩
theorem Inv.unwish (I:Inv (X.wish E) pins σ H s):Inv X pins σ H s:=⟨I.ok.unwish,I.os,I.bare,I.base,I.loc,I.cell,I.free,I.freeC,I.pin,I.hok,I.len⟩
theorem SP.unwish {D:Ends}{f:Flow}{s':Shared}(h:SP (X.wish E) pins D f s'):SP X pins D f s':=by
 cases f with
 |next=>obtain⟨σ',H',I,q⟩:=h;exact⟨σ',H',I.unwish,q⟩
 |brk=>obtain⟨σ',H',I,q⟩:=h;exact⟨σ',H',I.unwish,q⟩
 |cont=>obtain⟨σ',H',I,q⟩:=h;exact⟨σ',H',I.unwish,q⟩
 |ret u=>obtain⟨v,σ',H',I,r,q⟩:=h;exact⟨v,σ',H',I.unwish,r,q⟩
theorem PE.nox {e:Expr}{t:TE}(h:PE X.nox e t):PE X e t:=λpins s σ H Q I hw =>
 Cj (h pins s σ H Q (I.wish _) hw) (λ_ _ ⟨v,H',I',r,q⟩=>⟨v,H',I'.unwish,r,q⟩) λ_ _ z=>False.elim z
theorem PSs.nox {st:List Stmt}{t:TS}(h:PSs X.nox st t):PSs X st t:=λpins s σ H D I hw =>
 Cj (h pins s σ H D (I.wish _) hw) (λ_ _ q=>q.unwish) λ_ _ z=>False.elim z
end
section
variable {X:Cx}{st:Stmt}{rest:List Stmt}{t u:TS}{e:Expr}{te:TE}{pos:Pos}
noncomputable def z4l:TS:=λD σ H=>D.nx σ H
noncomputable def tSeq (t u:TS):TS:=λD σ H=>t { D with nx:=u D } σ H
theorem z65:PSs X [] z4l:=λ_ _ σ H _ I h=>wpAny_execs_nil ⟨σ,H,I,h⟩
theorem z1l (h1:PS X st t) (h2:PSs X rest u):PSs X (st::rest) (tSeq t u):=by
 intro pins s σ H D I h;refine wpAny_execs_cons (thn (h1 pins s σ H { D with nx:=u D } I h) λf s1 q=>?_);cases f with
 | next =>
  obtain⟨σ',H',I',q⟩:=q;exact h2 pins s1 σ' H' D I' q
 |ret v=>exact q
 |brk=>exact q
 |cont=>exact q
theorem z5x (h1:PS X st t):PSs X [st] t:=by
 intro pins s σ H D I h;refine wpAny_execs_cons (thn (h1 pins s σ H D I h) λf s1 q=>?_);cases f with
 |next=>exact wpAny_execs_nil q
 |ret v=>exact q
 |brk=>exact q
 |cont=>exact q
theorem z6d:PS X (.Pass pos) z4l:=λ_ _ σ H _ I h=>wpAny_Pass ⟨σ,H,I,h⟩
theorem Inv.quiet {pins:List (Addr×Obj)}{σ:St}{H:Hp}{s:Shared}(I:Inv X pins σ H s):interactive X.env=false:=by simp [interactive,I.ok.kind]
noncomputable def yaz (te:TE):TS:=λD σ H=>te σ H λ_ H1=>D.nx σ H1
theorem z70 (he:PE X e te)(hs:swapsWith e none pos.line X.env=pure false:=by rfl):PS X (.Expr e pos) (yaz te):=by
 intro pins s σ H D I h;exact wpAny_Expr_any (thn (he pins s σ H _ I h) λv s1 ⟨x,H1,I1,r1,q1⟩=>⟨σ,H1,I1,q1⟩) I.quiet hs
noncomputable def tRet (te:TE):TS:=λD σ H=>te σ H D.rt
theorem z3f (he:PE X e te):PS X (.Return (some e) pos) (tRet te):=by
 intro pins s σ H D I h;exact wpAny_Return_some (thn (he pins s σ H _ I h) λv s1 ⟨x,H1,I1,r1,q1⟩=>⟨x,σ,H1,I1,r1,q1⟩)
noncomputable def tIfS (c:TT) (t u:TS):TS:=λD σ H=>c σ H λb H1=>if b=true then t D σ H1 else u D σ H1
theorem yd9 {c:Expr}{a b:List Stmt}{tc:TT}(hc:PT X c tc)(ha:PSs X a t)(hb:PSs X b u):PS X (.If c a b pos) (tIfS tc t u):=by
 intro pins s σ H D I h;refine wpAny_If (thn (hc pins s σ H _ I h) λd s1 ⟨H1,I1,q1⟩=>?_);cases d with
 |true=>exact ha pins s1 σ H1 D I1 q1
 |false=>exact hb pins s1 σ H1 D I1 q1
end
abbrev TG:=V->St->Hp->(St->Hp->Prop)->Prop
abbrev TGs:=List V->St->Hp->(St->Hp->Prop)->Prop
noncomputable def PG (X:Cx) (target:Expr) (t:TG):Prop :=
 ∀(pins:List (Addr×Obj)) (s:Shared) (σ:St) (H:Hp) (v:V) (u:Value) (Q:St->Hp->Prop),Inv X pins σ H s->RelV v u->t v σ H Q ->
  wpAny #v[1,7] X.A (assign target X.env u) (λ_ s'=>∃σ' H',Inv X pins σ' H' s'/\Q σ' H') X.xe s
noncomputable def PGs (X:Cx) (ts:List Expr) (t:TGs):Prop :=
 ∀(pins:List (Addr×Obj)) (s:Shared) (σ:St) (H:Hp) (vs:List V) (us:List Value) (Q:St->Hp->Prop),Inv X pins σ H s->Vals vs us->t vs σ H Q ->
  wpAny #v[1,7] X.A (assignInOrder ((assignEach ts X.env).map (·.2)) us) (λ_ s'=>∃σ' H',Inv X pins σ' H' s'/\Q σ' H') X.xe s
abbrev TSet:=V->V->V->Hp->(Hp->Prop)->Prop
noncomputable def PSet (X:Cx) (t:TSet):Prop :=
 ∀(pins:List (Addr×Obj)) (s:Shared) (σ:St) (H:Hp) (o i v:V) (ov iv u:Value) (Q:Hp->Prop),Inv X pins σ H s->RelV o ov->RelV i iv->RelV v u->t o i v H Q ->
  wpAny #v[1,7] X.A (setItem ov iv u) (λ_ s'=>∃H',Inv X pins σ H' s'/\Q H') X.xe s
abbrev TIp:=V->V->Hp->VK->Prop
noncomputable def PIp (X:Cx) (op:Operator) (t:TIp):Prop :=
 ∀(pins:List (Addr×Obj)) (s:Shared) (σ:St) (H:Hp) (x y:V) (v u:Value) (Q:VK),Inv X pins σ H s->RelV x v->RelV y u->t x y H Q ->
  wpAny #v[1,7] X.A (inplaceOp op v u) (EP X pins σ Q) X.xe s
section
variable {X:Cx}{pos:Pos}
noncomputable def zta (i:Nat):TG:=λv σ H Q=>Q (σ.set i (some v)) H
theorem zxr {i:Nat}{x:Str}(hN:X.N.Nodup)(hi:X.N[i]?=some x)(hx:Loc X.env.scope x)(hf:X.fn x=true\/X.env.scope.names.lookup x=some .local:=by first|exact .inl rfl|exact .inr rfl|assumption):PG X (.Name x pos) (zta i):=by
 intro pins s σ H v u Q I r h;exact wpAny_assign_Name (zkg I hN hi hx r (λs' I'=>⟨_,H,I',h⟩) hf)
noncomputable def gNil:TGs:=λvs σ H Q=>vs=[]/\Q σ H
noncomputable def yaf (t:TG) (u:TGs):TGs:=λvs σ H Q=>∃v r,vs=v::r/\t v σ H λσ' H'=>u r σ' H' Q
theorem z5v:PGs X [] gNil:=by
 intro pins s σ H vs us Q I r h;obtain⟨e,h⟩:=h;subst e;cases r;exact assignInOrder_nil ⟨σ,H,I,h⟩
theorem z2l {e:Expr}{es:List Expr}{t:TG}{u:TGs} (h1:PG X e t) (h2:PGs X es u)
  (hs:(assignEach (e::es) X.env).map (·.2)=assign e X.env::(assignEach es X.env).map (·.2):=by rfl):PGs X (e::es) (yaf t u):=by
 intro pins s σ H vs us Q I r h;obtain⟨v,vr,e1,h⟩:=h;subst e1;cases r with
 | cons r rr =>
  rw[hs];refine assignInOrder_cons (thn (h1 pins s σ H _ _ _ I r h) λ_ s1 ⟨σ1,H1,I1,q1⟩=>?_);exact h2 pins s1 σ1 H1 _ _ Q I1 rr q1
noncomputable def gTup (K:PySem.W.Frag) (n:Nat) (t:TGs):TG:=λv σ H Q=>∃a xs,v=.ref a/\SqT K H a xs/\xs.length=n/\t xs σ H Q
theorem ybs {es:List Expr}{k:Nat}{t:TGs}{n:Nat} (hc:X.calm=true) (h:PGs X es t)
  (hn:(assignEach es X.env).length=n:=by rfl) (hst:(assignEach es X.env).findIdx? (·.1)=none:=by rfl):PG X (.Tuple es k pos) (gTup X.K n t):=by
 intro pins s σ H v u Q I r hw;nofun;obtain⟨a,xs,e1,hq,hl,hw⟩:=hw;ac_rfl;subst e1;cases r;nofun;obtain⟨its,rv,ht,hz⟩:=I.tuple hq;ac_rfl;refine assign_Tuple_tuple (I.ok.hd hc) ht (by simp [hn,<-hl,rv.length]) hst λh' hx=>?_;have I1:Inv X pins σ H { s with heap:=h' }:=I.kept (t':=s.toks) λb o e=>hx b o (Az (Ai e)) e;exact h pins _ σ H xs _ Q I1 (by simpa using rv) hw
noncomputable def gSub (to ti:TE) (t:TSet):TG:=λv σ H Q=>to σ H λo H1=>ti σ H1 λi H2=>t o i v H2 λH3=>Q σ H3
theorem z8i {o i:Expr}{to ti:TE}{t:TSet} (ho:PE X o to) (hi:PE X i ti) (hs:PSet X t)
  (ha:∀v,assign (.Subscript o i pos) X.env v=(do
   let ov <- holding [v] (eval o X.env)
   let iv <- holding [v,ov] (eval i X.env)
   standAt pos
   holding [v,ov,iv] (setItem ov iv v)
   release [v,ov,iv] []):=by intro _;rfl):PG X (.Subscript o i pos) (gSub to ti t):=by
 intro pins s σ H v u Q I r h;rw[ha];refine Aa (Bw (thn (ho pins s σ H _ I h) λov s1 ⟨x,H1,I1,r1,q1⟩=>?_));refine Aa (Bw (thn (hi pins s1 σ H1 _ I1 q1) λiv s2 ⟨y,H2,I2,r2,q2⟩=>?_));refine Aa (Fq (Aa (Bw (thn (hs pins s2 σ H2 x y v ov iv u _ I2 r1 r2 r q2) λ_ s3 ⟨H3,I3,q3⟩=>?_))));exact wpAny_release ⟨σ,H3,I3,q3⟩
noncomputable def tAsg (te:TE) (g:TG):TS:=λD σ H=>te σ H λx H1=>g x σ H1 D.nx
theorem z35 {tg e:Expr}{te:TE}{g:TG} (he:PE X e te) (hg:PG X tg g) (hs:swapsWithSole [tg] e pos.line X.env=pure false:=by rfl) (hw:swappedStores [tg] e X.env=pure none:=by rfl)
  (h1:(assignEach [tg] X.env).map (·.2)=[assign tg X.env]:=by rfl):PS X (.Assign [tg] e pos) (tAsg te g):=by
 intro pins s σ H D I h;refine wpAny_Assign_stores (thn (he pins s σ H _ I h) λv s1 ⟨x,H1,I1,r1,q1⟩=>?_) hs hw;rw[h1];exact thn (hg pins s1 σ H1 x v _ I1 r1 q1) λ_ s2 q=>q
theorem z3l {i:Nat}{x:Str}{e:Expr}{te:TE}{pos':Pos} (hN:X.N.Nodup) (hi:X.N[i]?=some x) (hx:Loc X.env.scope x) (he:PE X e te) (hs:swapsWith e (some (.Name x pos')) pos.line X.env=pure false:=by rfl) (hf:X.fn x=true\/X.env.scope.names.lookup x=some .local:=by first | exact .inl rfl | exact .inr rfl | assumption) :
  PS X (.Assign [.Name x pos'] e pos) (tAsg te (zta i)):=by
 intro pins s σ H D I h;refine wpAny_Assign_Name (thn (he pins s σ H _ I h) λv s1 ⟨y,H1,I1,r1,q1⟩=>?_) hs;exact zkg I1 hN hi hx r1 (λs2 I2=>⟨_,H1,I2,q1⟩) hf
noncomputable def tAug (i:Nat) (te:TE) (ti:TIp):TS:=λD σ H=>∃x,σ[i]?=some (some x)/\te σ H λy H1=>ti x y H1 λz H2=>D.nx (σ.set i (some z)) H2
theorem zva {i:Nat}{x:Str}{e:Expr}{te:TE}{op:Operator}{ti:TIp}{pos':Pos} (hN:X.N.Nodup) (hi:X.N[i]?=some x) (hx:Loc X.env.scope x) (he:PE X e te) (ho:PIp X op ti) (hf:X.fn x=true\/X.env.scope.names.lookup x=some .local:=by first | exact .inl rfl | exact .inr rfl | assumption) :
  PS X (.AugAssign (.Name x pos') op e pos) (tAug i te ti):=by
 intro pins s σ H D I h;obtain⟨v,e1,h⟩:=h;obtain⟨m,hn,hl⟩:=I.loc;have vis:Vis X.env.scope x:=by rcases hx with k|k;exact .inl k;exact .inr (.inl k)
 obtain⟨u,r,l⟩:=hl i x v hi e1 vis;refine wpAny_AugAssign_Name ?_;have go:wpAny #v[1,7] X.A (eval e X.env) (λw s₂=>wpAny #v[1,7] X.A (inplaceOp op u w) (λr s₃=>wpAny #v[1,7] X.A (storeName X.env x r) (λ_=>SP X pins D .next) X.xe s₃) X.xe s₂) X.xe s:=by
  refine thn (he pins s σ H _ I h) λw s1 ⟨y,H1,I1,r1,q1⟩=>?_;refine thn (ho pins s1 σ H1 v y u w _ I1 r r1 q1) λz s2 ⟨zv,H2,I2,r2,q2⟩=>?_;exact zkg I2 hN hi hx r2 (λs3 I3=>⟨_,H2,I3,q2⟩) hf
 rcases l with⟨hk,hm⟩|⟨hk,c,hc,hcell⟩
 ·exact wpAny_loadName_local I.ok.kind hk hn hm go
 ·rcases hk with hk|hk
  ·exact wpAny_loadName_cell I.ok.kind hk hc hcell go
  ·rcases hx with k|k
   ·have:X.env.scope.names.lookup x=some .free:=hk;rw[k] at this;cases this
   ·have:X.env.scope.names.lookup x=some .free:=hk;rw[k] at this;cases this
end
section
variable {X:Cx}{pos:Pos}
def z2y (c:TT) (tb:TS):TS:=λD σ H=>∃W:Nat->St->Hp->Prop,(∃m,W m σ H)/\∀m σ H,W m σ H ->
 c σ H λb H1=>if b=true then ∃N:St->Hp->Prop,(∀σ' H',N σ' H'->∃m',m'<m/\W m' σ' H')/\tb { D with nx:=N,ct:=N,bk:=D.nx } σ H1 else D.nx σ H1
theorem z0h {c:Expr}{body:List Stmt}{tc:TT}{tb:TS} (hp:PassesOwn #v[1,7] X.A X.env X.xe) (hc:PT X c tc) (hb:PSs X body tb):PS X (.While c body [] pos) (z2y tc tb):=by
 intro pins s σ H D I h;nofun;obtain⟨W,⟨m0,w0⟩,turn⟩:=h;ac_rfl;refine wpAny_While (codeAny_whileLoop (λn s'=>∃σ' H',Inv X pins σ' H' s'/\W n σ' H') ?_ m0 ⟨σ,H,I,w0⟩);rintro n s1 ⟨σ1,H1,I1,w1⟩;refine Eu hp (thn (hc pins s1 σ1 H1 _ I1 (turn n σ1 H1 w1)) λb s2 ⟨H2,I2,q2⟩=>?_);cases b with
 | true =>
  obtain⟨N,hN,q2⟩:=q2;rw[if_pos rfl];refine Eu hp (thn (hb pins s2 σ1 H2 _ I2 q2) λf s3 q3=>?_);cases f with
  | next =>
   nofun;obtain⟨σ3,H3,I3,n3⟩:=q3;obtain⟨m',hm,w3⟩:=hN σ3 H3 n3;ac_rfl;exact⟨m',hm,σ3,H3,I3,w3⟩
  | cont =>
   nofun;obtain⟨σ3,H3,I3,n3⟩:=q3;obtain⟨m',hm,w3⟩:=hN σ3 H3 n3;ac_rfl;exact⟨m',hm,σ3,H3,I3,w3⟩
  |brk=>exact q3
  |ret v=>exact q3
 | false =>
  rw[if_neg Ar];exact wpAny_execs_nil ⟨σ1,H2,I2,q2⟩
end
structure It where
 go:Nat->Hp->Prop
 yld:Nat->Hp->V->Hp->Prop
 stop:Nat->Hp->Prop
noncomputable def FpOk (X:Cx) (pins:List (Addr×Obj)) (H:Hp) (b:Addr):Prop :=
 H b=none/\b≠X.env.locals/\b ∉ X.fs/\(b∈X.ex\/X.s₀.heap.objs.size<=b)/\(∀x c,X.env.cells.lookup x=some c->c≠b)/\∀p∈X.pn++pins,p.1≠b
theorem Inv.fpOk {X:Cx}{pins:List (Addr×Obj)}{σ:St}{H H':Hp}{s:Shared}{b:Addr}(I:Inv X pins σ H s)(hb:s.heap.objs.size<=b)(hn:H' b=none):FpOk X pins H' b:=by
 refine⟨hn,Gu (Bb I.lt hb),I.nofs hb,.inr (Cf I.sz hb),λx c e z=>?_,λp hp z=>?_⟩
 ·obtain⟨v,q⟩:=I.cell x c e;exact absurd (Bb q.lt (by rw[z];exact hb)) (Bt _)
 ·exact absurd (Bb (Ai (I.pin p hp).1) (by rw[z];exact hb)) (Bt _)
structure Turn (P:Program) (w:World) (K:PySem.W.Frag) (tg:Expr) (J:It) (fp:List Addr) (it:Addr) (tn:Nat->Heap->Prop):Prop where
 mem:it∈fp
 obj:∀i h,tn i h->∀b∈fp,∃o,h.get? b=some o/\∀v,o.data≠.cell v
 keep:∀i h h',tn i h->(∀b∈fp,∀o,h.get? b=some o->h'.get? b=some o)->tn i h'
 item:∀(X:Cx),X.prog=P->X.w=w->X.K=K->X.calm=true->∀(i:Nat) (pins:List (Addr×Obj)) (s:Shared) (σ:St) (H:Hp) (E:Value->Shared->Prop),Inv X pins σ H s->(∀b∈fp,FpOk X pins H b)->tn i s.heap->J.go i H ->
  wpAny (model P w) X.A (pyNext (.ref it)) (λr s1=>∃u,r=some u /\
   wpAny (model P w) X.A (letOwnedTupleGo tg (.ref it) u) (λ_ s2=>∃x H',Inv X pins σ H' s2/\RelV x u/\J.yld i H x H'/\tn (i+1) s2.heap/\∀b∈fp,H' b=none) E s1) E s
 done:∀(X:Cx),X.prog=P->X.w=w->X.K=K->X.calm=true->∀(i:Nat) (pins:List (Addr×Obj)) (s:Shared) (σ:St) (H:Hp) (E:Value->Shared->Prop),Inv X pins σ H s->(∀b∈fp,FpOk X pins H b)->tn i s.heap->J.stop i H ->
  wpAny (model P w) X.A (pyNext (.ref it)) (λr s1=>r=none/\Inv X pins σ H s1) E s
 self:∀(A:Around) (i:Nat) (s:Shared) (Q:Value->Shared->Prop) (E:Value->Shared->Prop),tn i s.heap->Q (.ref it) s->wpAny (model P w) A (pyIter (.ref it)) Q E s
abbrev TI:=St->Hp->(It->Hp->Prop)->Prop
noncomputable def PIE (X:Cx) (pins:List (Addr×Obj)) (σ:St) (tg:Expr) (R:It->Hp->Prop) (itv:Value) (s2:Shared):Prop :=
 ∃(it:Addr) (fp:List Addr) (tn:Nat->Heap->Prop) (J:It) (H':Hp),itv=.ref it/\Inv X pins σ H' s2/\Turn X.prog X.w X.K tg J fp it tn/\tn 0 s2.heap/\(∀b∈fp,FpOk X pins H' b)/\R J H'
noncomputable def PI (X:Cx) (tg iter:Expr) (wi:TI):Prop :=
 ∀(pins:List (Addr×Obj)) (s:Shared) (σ:St) (H:Hp) (R:It->Hp->Prop),Inv X pins σ H s->wi σ H R ->
  wpAny #v[1,7] X.A (eval iter X.env) (λv s1=>wpAny #v[1,7] X.A (pyIter v) (PIE X pins σ tg R) X.xe s1) X.xe s
theorem z0m {M:Model}{A:Around}{E:Value->Shared->Prop}{s:Shared}{tg:Expr}{it:Addr}{u:Value}{o:Obj}{n:String}{vs:Array Value}{Q:Unit->Shared->Prop} (ho:s.heap.get? it=some o) (hc:o.cls=.type n) (hd:o.data=.fields vs)
    (hn:["enumerate","zip","dict_itemiterator","dict_reverseitemiterator","odict_iterator","itertools.zip_longest","itertools.pairwise"].contains n=false) (hQ:Q () s):wpAny M A (letOwnedTupleGo tg (.ref it) u) Q E s:=by
  unfold letOwnedTupleGo;cases tg<;>first
    |exact Ag hQ
    | (cases u<;>first
        |exact Ag hQ
        | (refine Aa (wpAny_load ho ?_)
           rw[hc,hd];show wpAny M A (if (["enumerate","zip","dict_itemiterator","dict_reverseitemiterator","odict_iterator","itertools.zip_longest","itertools.pairwise"].contains n&&vs[0]? == some (rawInt _))=true then _ else _) Q E s;rw[if_neg (by intro h;rw[hn,Ey] at h;cases h)];exact Ag hQ))
noncomputable def Itl (K:PySem.W.Frag) (a:Addr):It :=
 ⟨λi H=>∃xs x,SqL K H a xs/\xs[i]?=some x,λi H x H'=>H'=H/\∀xs,SqL K H a xs->xs[i]?=some x,λi H=>∃xs,SqL K H a xs/\xs.length<=i⟩
noncomputable def Itt (K:PySem.W.Frag) (a:Addr):It :=
 ⟨λi H=>∃xs x,SqT K H a xs/\xs[i]?=some x,λi H x H'=>H'=H/\∀xs,SqT K H a xs->xs[i]?=some x,λi H=>∃xs,SqT K H a xs/\xs.length<=i⟩
noncomputable def Itr (lo:Int) (n:Nat):It:=⟨λi _=>i<n,λi H x H'=>H'=H/\x=.int (lo+i),λi _=>n<=i⟩
theorem zyd {P:Program}{w:World}{K:PySem.W.Frag}{tg:Expr}(a it:Addr):Turn P w K tg (Itl K a) [it] it (λi h=>h.IsListIter it a i) where
 mem:=by simp
 obj:=λi h st b hb=>by
  have e:b=it:=by simpa using hb
  subst e;nofun;obtain⟨o,e,c,d⟩:=st;ac_rfl;exact⟨o,e,λv z=>by rw[d] at z;cases z⟩
 keep:=λi h h' st k=>st.at λo e=>k it (by simp) o e
 item:=by
  intro X hP hw hK hc i pins s σ H E I hf st hg;subst hP hw hK;nofun;obtain⟨xs,x,hq,hx⟩:=hg;obtain⟨its,rv,p,hz⟩:=I.list hq;obtain⟨u,hu,ru⟩:=rv.get hx;obtain⟨f0,f1,f2,f3,f4,f5⟩:=hf it (by simp);ac_rfl;refine wpAny_pyNext_list_item st p.isList (x:=u) (by simpa using hu) λh' st' sb=>?_;have I1:Inv X pins σ H { s with heap:=h' }:=I.turned (t':=s.toks) (λb o hb e=>(sb.2 b hb).trans e) f0 f1 f3 f4 f5;nofun;obtain⟨o,e,c,d⟩:=id st';ac_rfl;exact⟨u,rfl,z0m (s:={ s with heap:=h' }) e c d #v[0,9] ⟨x,H,I1,ru,⟨rfl,λys hy=>by rw[I.list_inj hy hq];exact hx⟩,st',λb hb=>(hf b hb).1⟩⟩
 done:=by
  intro X hP hw hK hc i pins s σ H E I hf st hg;subst hP hw hK;nofun;obtain⟨xs,hq,hx⟩:=hg;obtain⟨its,rv,p,hz⟩:=I.list hq;obtain⟨f0,f1,f2,f3,f4,f5⟩:=hf it (by simp);ac_rfl;have hl:=rv.length;exact wpAny_pyNext_list_end (I.ok.hd hc) st p.isList (by simp;omega) λh' eb=>⟨rfl,I.turned (t':=s.toks) (λb o hb e=>eb b o hb e) f0 f1 f3 f4 f5⟩
 self:=λ_ _ _ _ _ st h=>wpAny_pyIter_listiter st h
theorem zss {P:Program}{w:World}{K:PySem.W.Frag}{tg:Expr}(a it:Addr):Turn P w K tg (Itt K a) [it] it (λi h=>h.IsTupleIter it a i) where
 mem:=by simp
 obj:=λi h st b hb=>by
  have e:b=it:=by simpa using hb
  subst e;nofun;obtain⟨o,e,c,d⟩:=st;ac_rfl;exact⟨o,e,λv z=>by rw[d] at z;cases z⟩
 keep:=λi h h' st k=>st.at λo e=>k it (by simp) o e
 item:=by
  intro X hP hw hK hc i pins s σ H E I hf st hg;subst hP hw hK;nofun;obtain⟨xs,x,hq,hx⟩:=hg;obtain⟨its,rv,p,hz⟩:=I.tuple hq;obtain⟨u,hu,ru⟩:=rv.get hx;obtain⟨f0,f1,f2,f3,f4,f5⟩:=hf it (by simp);ac_rfl;refine wpAny_pyNext_tuple_item st (show s.heap.IsTuple a its.toArray from p) (x:=u) (by simpa using hu) λh' st' sb=>?_;have I1:Inv X pins σ H { s with heap:=h' }:=I.turned (t':=s.toks) (λb o hb e=>(sb.2 b hb).trans e) f0 f1 f3 f4 f5;nofun;obtain⟨o,e,c,d⟩:=id st';ac_rfl;exact⟨u,rfl,z0m (s:={ s with heap:=h' }) e c d #v[0,9] ⟨x,H,I1,ru,⟨rfl,λys hy=>by rw[I.tuple_inj hy hq];exact hx⟩,st',λb hb=>(hf b hb).1⟩⟩
 done:=by
  intro X hP hw hK hc i pins s σ H E I hf st hg;subst hP hw hK;nofun;obtain⟨xs,hq,hx⟩:=hg;obtain⟨its,rv,p,hz⟩:=I.tuple hq;obtain⟨f0,f1,f2,f3,f4,f5⟩:=hf it (by simp);ac_rfl;have hl:=rv.length;exact wpAny_pyNext_tuple_end (I.ok.hd hc) st (show s.heap.IsTuple a its.toArray from p) (by simp;omega) λh' eb=>⟨rfl,I.turned (t':=s.toks) (λb o hb e=>eb b o hb e) f0 f1 f3 f4 f5⟩
 self:=λ_ _ _ _ _ st h=>wpAny_pyIter_tupleiter st h
theorem zs7 {P:Program}{w:World}{K:PySem.W.Frag}{tg:Expr}(it:Addr)(lo:Int)(n:Nat):Turn P w K tg (Itr lo n) [it] it (λi h=>IsRangeIter h it (lo+(i:Nat)*1) ((n:Int)-(i:Nat)) 1) where
 mem:=by simp
 obj:=λi h st b hb=>by
  have e:b=it:=by simpa using hb
  subst e;exact⟨_,st,λv z=>by
   have z':Data.fields _=Data.cell v:=z;cases z'⟩
 keep:=λi h h' st k=>k it (by simp) _ st
 item:=by
  intro X hP hw hK hc i pins s σ H E I hf st hg;subst hP hw hK;nofun;obtain⟨f0,f1,f2,f3,f4,f5⟩:=hf it (by simp);ac_rfl;have W:=Walks.range (prog:=X.prog) (w:=X.w) (I.ok.hd hc) it lo 1 n;refine W.item i s _ _ hg st λv h' tk hv st' kk=>?_;obtain⟨t,rfl⟩:=hv;have I1:Inv X pins σ H { s with heap:=h',toks:=tk }:=I.turned (λb o hb e=>kk b o (by simpa using hb) e) f0 f1 f3 f4 f5;refine⟨_,rfl,z0m (s:={ s with heap:=h',toks:=tk }) (n := "range_iterator") st' rfl rfl #v[0,9] ⟨.int (lo+i),H,I1,⟨t,?_⟩,⟨rfl,rfl⟩,st',λb hb=>(hf b hb).1⟩⟩;rw[Int.mul_one]
 done:=by
  intro X hP hw hK hc i pins s σ H E I hf st hg;subst hP hw hK;nofun;obtain⟨f0,f1,f2,f3,f4,f5⟩:=hf it (by simp);ac_rfl;exact wpAny_pyNext_range_end (I.ok.hd hc) st (by have:n<=i:=hg;omega) λh' eb=>⟨rfl,I.turned (t':=s.toks) (λb o hb e=>eb b o hb e) f0 f1 f3 f4 f5⟩
 self:=λ_ _ _ _ _ st h=>wpAny_pyIter_rangeiter st h
section
variable {X:Cx}{tg:Expr}
theorem zrc {pins:List (Addr×Obj)}{σ:St}{H:Hp}{s:Shared}{R:It->Hp->Prop}{E:Value->Shared->Prop}{lo hi:Int}{t u v:Tok}{tk:Nat} (I:Inv X pins σ H s) (h1:-(2^62)<=lo) (h2:lo<2^62) (h3:-(2^62)<=hi) (h4:hi<2^62)
  (q:R (Itr lo (hi-lo).toNat) H):wpAny #v[1,7] X.A (pyIter (.ref s.heap.objs.size)) (PIE X pins σ tg R) E { s with heap:=s.heap.push { cls:=.type "range",data:=.fields #[.int lo t,.int hi u,.int 1 v] },toks:=tk }:=by
 refine wpAny_pyIter_range (IsRange.new ..) (small_one h1 h2 h3 h4) ?_;have I1:Inv X pins σ H { s with heap:=s.heap.push { cls:=.type "range",data:=.fields #[.int lo t,.int hi u,.int 1 v] },toks:=tk }:=I.kept λb o e=>Ab _ e;refine⟨(s.heap.push { cls:=.type "range",data:=.fields #[.int lo t,.int hi u,.int 1 v] }).objs.size,[(s.heap.push { cls:=.type "range",data:=.fields #[.int lo t,.int hi u,.int 1 v] }).objs.size],_,_,H,rfl,
  I1.kept (t':=tk) λb o e=>Ab _ e,zs7 _ lo (hi-lo).toNat,?_,λb hb=>?_,q⟩
 ·have e1:lo+((0:Nat):Int)*1=lo:=by simp
  have e2:(((hi-lo).toNat:Nat):Int)-((0:Nat):Int)=Builtin.Range.rangeSize lo hi 1:=by rw[rangeSize_one];split<;>omega
  show IsRangeIter _ _ (lo+((0:Nat):Int)*1) ((((hi-lo).toNat:Nat):Int)-((0:Nat):Int)) 1;rw[e1,e2];exact An _ rfl
 ·have e:b=(s.heap.push { cls:=.type "range", data:=.fields #[.int lo t,.int hi u,.int 1 v] }).objs.size:=by simpa using hb
  subst e;exact I1.fpOk (Af _) (I1.hok.fresh (Af _))
def ybz (ta:TA):TI:=λσ H R=>ta σ H λvs H1=>∃j:Int,vs=[.int j]/\-(2^62)<=j/\j<2^62/\R (Itr 0 j.toNat) H1
def z9i (ta:TA):TI:=λσ H R=>ta σ H λvs H1=>∃i j:Int,vs=[.int i,.int j]/\(-(2^62)<=i/\i<2^62/\-(2^62)<=j/\j<2^62)/\R (Itr i (j-i).toNat) H1
theorem zwq {a:Expr}{ta:TA}{p pos:Pos} (hg:Gl X "range") (hm:X.mg "range" = none) (ha:PA X [a] ta) (hs:starEach [a] X.env=[(false,eval a X.env)]:=by rfl):PI X tg (.Call (.Name "range" p) [a] [] pos) (ybz ta):=by
 intro pins s σ H R I h;refine Call_ (zem I hg hm boot_range (Db (thn (ha pos pins s σ H _ I h) λus s1 ⟨vs,H1,I1,r1,q1⟩=>?_) hs rfl));nofun;obtain⟨j,e,q1,q2,q⟩:=q1;ac_rfl;subst e;cases r1 with
 | cons r rr =>
  cases rr;obtain⟨t,rfl⟩:=r;exact call_range_1 (zrc I1 #v[] #v[] q1 q2 (by simpa using q))
theorem zx6 {a b:Expr}{ta:TA}{p pos:Pos} (hg:Gl X "range") (hm:X.mg "range" = none) (ha:PA X [a,b] ta) (hs:starEach [a,b] X.env=[(false,eval a X.env),(false,eval b X.env)]:=by rfl) (hs2:starEach [b] X.env=[(false,eval b X.env)]:=by rfl) :
  PI X tg (.Call (.Name "range" p) [a,b] [] pos) (z9i ta):=by
 intro pins s σ H R I h;refine Call_ (zem I hg hm boot_range (Db (thn (ha pos pins s σ H _ I h) λus s1 ⟨vs,H1,I1,r1,q1⟩=>?_) (by rw[hs,hs2]) (by rw[hs2];rfl)));nofun;obtain⟨i,j,e,⟨q1,q2,q3,q4⟩,q⟩:=q1;ac_rfl;subst e;cases r1 with
 | cons r rr =>
  cases rr with
  | cons r' rr =>
   cases rr;obtain⟨t,rfl⟩:=r;obtain⟨t',rfl⟩:=r';exact call_range_2 (zrc I1 q1 q2 q3 q4 q)
def tFor (wi:TI) (g:TG) (tb:TS):TS:=λD σ H=>wi σ H λJ H1=>∃W:Nat->Nat->St->Hp->Prop,(∃m,W 0 m σ H1)/\∀i m σ H,W i m σ H ->
 (J.stop i H/\D.nx σ H)\/(J.go i H/\∃N:St->Hp->Prop,(∀σ' H',N σ' H'->∃m',m'<m/\W (i+1) m' σ' H')/\∀x H',J.yld i H x H'->g x σ H' λσ2 H2=>tb { D with nx:=N,ct:=N,bk:=D.nx } σ2 H2)
noncomputable def zng (fp:List Addr) (h:Heap):List (Addr×Obj):=fp.filterMap λb=>(h.get? b).map λo=>(b,o)
theorem zd7 {fp:List Addr}{h:Heap}{b:Addr}{o:Obj}(hb:b∈fp)(e:h.get? b=some o):(b,o)∈zng fp h:=List.mem_filterMap.mpr ⟨b,hb,by rw[e];rfl⟩
theorem zxq {fp:List Addr}{h:Heap}{p:Addr×Obj} (hp:p∈zng fp h):p.1∈fp/\h.get? p.1=some p.2:=by
 obtain⟨b,hb,e⟩:=List.mem_filterMap.mp hp;cases q:h.get? b with
 |none=>rw[q] at e;cases e
 | some o =>
  rw[q] at e;have e':(b,o)=p:=sI e;subst e';exact⟨hb,q⟩
theorem Inv.pinned {pins:List (Addr×Obj)}{σ:St}{H:Hp}{s:Shared}{fp:List Addr}(I:Inv X pins σ H s)(hf:∀b∈fp,FpOk X pins H b)(ho:∀b∈fp,∃o,s.heap.get? b=some o/\∀v,o.data≠.cell v):Inv X (pins++zng fp s.heap) σ H s :=
 I.pins_of λp hp=>(Bq.mp hp).elim (λz=>I.pin p (Aw _ z)) λz=>by
  nofun;obtain⟨hb,e⟩:=zxq z;obtain⟨f0,f1,f2,_⟩:=hf p.1 hb;obtain⟨o,e',d⟩:=ho p.1 hb;ac_rfl;rw[e] at e';obtain rfl:=sI e';exact⟨e,f0,f1,f2,d⟩
theorem Inv.unpinned {pins pl:List (Addr×Obj)}{σ:St}{H:Hp}{s:Shared}(I:Inv X (pins++pl) σ H s):Inv X pins σ H s:=I.pins_of λp hp=>I.pin p (Aw _ (Cz _ hp))
theorem yb6 {iter:Expr}{body:List Stmt}{wi:TI}{g:TG}{tb:TS}{pos:Pos} (hp:PassesOwn #v[1,7] X.A X.env X.xe) (hc:X.calm=true) (hi:PI X tg iter wi) (hg:PG X tg g) (hb:PSs X body tb)
  (hs:∀x,foldedSetIterable iter X.env x=pure x:=by intro _;rfl):PS X (.For tg iter body [] pos) (tFor wi g tb):=by
 intro pins s σ H D I h;refine wpAny_For (thn (hi pins s σ H _ I h) λv s1 h1=>thn h1 λitv s2 h2=>?_) hs;nofun;obtain⟨it,fp,tn,J,H2,e,I2,T,st2,f2,W,⟨m0,w0⟩,turn⟩:=h2;ac_rfl;subst e;have stat:∀{H':Hp},(∀b∈fp,H' b=none)->∀b∈fp,FpOk X pins H' b:=λhn b hb=>⟨hn b hb,(f2 b hb).2⟩;refine codeAny_forLoop_any (λn s'=>∃i σ' H',Inv X pins σ' H' s'/\tn i s'.heap/\(∀b∈fp,H' b=none)/\W i n σ' H') ?_ m0 ⟨0,σ,H2,I2,st2,λb hb=>(f2 b hb).1,w0⟩;rintro n s3 ⟨i,σ3,H3,I3,st3,fr3,w3⟩;rcases turn i n σ3 H3 w3 with⟨stop,qn⟩|⟨go,N,hN,step⟩
 ·refine Eu hp (thn (T.done X rfl rfl rfl hc i pins s3 σ3 H3 X.xe I3 (stat fr3) st3 stop) λr s4 ⟨hr,I4⟩ => ?_);subst hr;exact wpAny_execs_nil ⟨σ3,H3,I4,qn⟩
 ·refine Eu hp (thn (T.item X rfl rfl rfl hc i pins s3 σ3 H3 X.xe I3 (stat fr3) st3 go) λr s4 ⟨u,hr,h4⟩ => ?_);subst hr;refine Eu hp (thn h4 λ_ s5 ⟨x,H5,I5,r5,y5,st5,fr5⟩=>?_);have I5':=I5.pinned (stat fr5) (T.obj _ _ st5);refine Eu hp (thn (hg _ s5 σ3 H5 x u _ I5' r5 (step x H5 y5)) λ_ s6 ⟨σ6,H6,I6,q6⟩=>?_);refine Eu hp (thn (hb _ s6 σ6 H6 _ I6 q6) λf s7 q7=>?_);have again:∀{σ7:St}{H7:Hp},Inv X (pins++zng fp s5.heap) σ7 H7 s7->N σ7 H7->∃m,m<n/\∃i σ' H',Inv X pins σ' H' s7/\tn i s7.heap/\(∀b∈fp,H' b=none)/\W i m σ' H':=λ{σ7 H7} I7 n7=>by
   obtain⟨m',hm,w7⟩:=hN σ7 H7 n7;refine⟨m',hm,i+1,σ7,H7,I7.unpinned,T.keep _ _ _ st5 λb hb o e=>(I7.pin (b,o) (Aw _ (Aw _ (zd7 hb e)))).1,λb hb=>?_,w7⟩;obtain⟨o,e,d⟩:=T.obj _ _ st5 b hb;exact (I7.pin (b,o) (Aw _ (Aw _ (zd7 hb e)))).2.1
  cases f with
  |next=>obtain⟨σ7,H7,I7,n7⟩:=q7;exact again I7 n7
  |cont=>obtain⟨σ7,H7,I7,n7⟩:=q7;exact again I7 n7
  |brk=>obtain⟨σ7,H7,I7,q7⟩:=q7;exact⟨σ7,H7,I7.unpinned,q7⟩
  |ret v=>obtain⟨x7,σ7,H7,I7,r7,q7⟩:=q7;exact⟨x7,σ7,H7,I7.unpinned,r7,q7⟩
end
abbrev R2:=V->V->Hp->VK->Prop
noncomputable def OpR (X:Cx) (f:Value->Value->Sem Value) (r:R2):Prop :=
 ∀(pins:List (Addr×Obj)) (s:Shared) (σ:St) (H:Hp) (x y:V) (v u:Value) (Q:VK),Inv X pins σ H s->RelV x v->RelV y u->r x y H Q ->
  wpAny #v[1,7] X.A (f v u) (EP X pins σ Q) X.xe s
noncomputable def UnR (X:Cx) (f:Value->Sem Value) (r:V->Hp->VK->Prop):Prop :=
 ∀(pins:List (Addr×Obj)) (s:Shared) (σ:St) (H:Hp) (x:V) (v:Value) (Q:VK),Inv X pins σ H s->RelV x v->r x H Q ->
  wpAny #v[1,7] X.A (f v) (EP X pins σ Q) X.xe s
noncomputable def zcb (X:Cx) (f:Value) (r:List V->Hp->VK->Prop):Prop :=
 ∀(pins:List (Addr×Obj)) (s:Shared) (σ:St) (H:Hp) (xs:List V) (us:List Value) (Q:VK),Inv X pins σ H s->Vals xs us->r xs H Q ->
  wpAny #v[1,7] X.A (call f us) (EP X pins σ Q) X.xe s
noncomputable def tOp (r:R2) (ta tb:TE):TE:=λσ H Q=>ta σ H λx H1=>tb σ H1 λy H2=>r x y H2 Q
noncomputable def tUn (r:V->Hp->VK->Prop) (ta:TE):TE:=λσ H Q=>ta σ H λx H1=>r x H1 Q
noncomputable def rI (C:Int->Int->Prop) (g:Int->Int->V):R2:=λx y H Q=>∃i j,x=.int i/\y=.int j/\C i j/\Q (g i j) H
noncomputable def rI0 (g:Int->Int->V):R2:=λx y H Q=>∃i j,x=.int i/\y=.int j/\Q (g i j) H
noncomputable def rU (g:Int->V):V->Hp->VK->Prop:=λx H Q=>∃i,x=.int i/\Q (g i) H
section
variable {X:Cx}{a b c:Expr}{ta tb tc:TE}{pos:Pos}
theorem binT (ha:PE X a ta) (hb:PE X b tb) {pins:List (Addr×Obj)}{s:Shared}{σ:St}{H:Hp}{R:V->V->Hp->Prop} (I:Inv X pins σ H s)
  (h:ta σ H λx H1=>tb σ H1 λy H2=>R x y H2) {Q:Value->Shared->Prop}{f:Value->Value->Sem Value}
  (hf:∀v u s2 x y H2,Inv X pins σ H2 s2->RelV x v->RelV y u->R x y H2->wpAny #v[1,7] X.A (f v u) Q X.xe s2) :
  wpAny #v[1,7] X.A (eval a X.env) (λv s₁=>wpAny #v[1,7] X.A (eval b X.env) (λu s₂=>wpAny #v[1,7] X.A (f v u) Q X.xe s₂) X.xe s₁) X.xe s:=by
 refine thn (ha pins s σ H _ I h) λv s1 ⟨x,H1,I1,r1,q1⟩=>?_;refine thn (hb pins s1 σ H1 _ I1 q1) λu s2 ⟨y,H2,I2,r2,q2⟩=>?_;exact hf v u s2 x y H2 I2 r1 r2 q2
theorem ycu {op:Operator}{r:R2}(ho:OpR X (binaryOp op) r)(ha:PE X a ta)(hb:PE X b tb):PE X (.BinOp a op b pos) (tOp r ta tb):=by
 intro pins s σ H Q I h;exact wpAny_BinOp (binT ha hb I h λv u s2 x y H2 I2 rx ry q=>ho pins s2 σ H2 x y v u Q I2 rx ry q)
theorem yd1 {op:UnaryOp}{r:V->Hp->VK->Prop}(ho:UnR X (unaryOp op) r)(ha:PE X a ta):PE X (.UnaryOp op a pos) (tUn r ta):=by
 intro pins s σ H Q I h;exact UnaryOp_ (thn (ha pins s σ H _ I h) λv s1 ⟨x,H1,I1,r1,q1⟩=>ho pins s1 σ H1 x v Q I1 r1 q1)
theorem opI {f:Value->Value->Sem Value}{C:Int->Int->Prop}{g:Int->Int->Int}
  (rule:∀(i j:Int) (t u:Tok) (s:Shared) (Q:Value->Shared->Prop) (E:Value->Shared->Prop),C i j->Q (.int (g i j) s.toks) { s with toks:=s.toks+1 }->wpAny #v[1,7] X.A (f (.int i t) (.int j u)) Q E s) :
  OpR X f (rI C λi j=>.int (g i j)):=by
 intro pins s σ H x y v u Q I rx ry h;obtain⟨i,j,rfl,rfl,hc,q⟩:=h;obtain⟨t,rfl⟩:=rx;obtain⟨t',rfl⟩:=ry;exact rule i j t t' s _ _ hc ⟨.int (g i j),H,I.tok _,⟨_,rfl⟩,q⟩
theorem opI0 {f:Value->Value->Sem Value}{g:Int->Int->Int}
  (rule:∀(i j:Int) (t u:Tok) (s:Shared) (Q:Value->Shared->Prop) (E:Value->Shared->Prop),Q (.int (g i j) s.toks) { s with toks:=s.toks+1 }->wpAny #v[1,7] X.A (f (.int i t) (.int j u)) Q E s) :
  OpR X f (rI0 λi j=>.int (g i j)):=by
 intro pins s σ H x y v u Q I rx ry h;obtain⟨i,j,rfl,rfl,q⟩:=h;obtain⟨t,rfl⟩:=rx;obtain⟨t',rfl⟩:=ry;exact rule i j t t' s _ _ ⟨.int (g i j),H,I.tok _,⟨_,rfl⟩,q⟩
theorem opB0 {f:Value->Value->Sem Value}{g:Int->Int->Bool}
  (rule:∀(i j:Int) (t u:Tok) (s:Shared) (Q:Value->Shared->Prop) (E:Value->Shared->Prop),Q (.bool (g i j)) s->wpAny #v[1,7] X.A (f (.int i t) (.int j u)) Q E s) :
  OpR X f (rI0 λi j=>.bl (g i j)):=by
 intro pins s σ H x y v u Q I rx ry h;obtain⟨i,j,rfl,rfl,q⟩:=h;obtain⟨t,rfl⟩:=rx;obtain⟨t',rfl⟩:=ry;exact rule i j t t' s _ _ ⟨.bl (g i j),H,I,rfl,q⟩
def CPow (i j:Int):Prop:=0<=j/\j<=1000000/\i.natAbs<2^64
def CMul (i j:Int):Prop:=(-(2^64)<i/\i<2^64)\/(-(2^64)<j/\j<2^64)
theorem CMul.ok {i j:Int}(h:CMul i j):IntMulOk i j:=by
 rcases h with⟨h1,h2⟩|⟨h1,h2⟩
 ·exact .of_left (intBits_le_64 h1 h2)
 ·exact .of_right (intBits_le_64 h1 h2)
theorem ztl (k:Nat):(0:Int)<=2^k:=by
 rw[two_pow_cast];exact Int.natCast_nonneg _
theorem ybv:OpR X (binaryOp .Add) (rI0 λi j=>.int (i+j)):=opI0 λ_ _ _ _ _ _ _ q=>add_int q
theorem z9c:OpR X (binaryOp .Sub) (rI0 λi j=>.int (i-j)):=opI0 λ_ _ _ _ _ _ _ q=>sub_int q
theorem yap:OpR X (binaryOp .Mult) (rI CMul λi j=>.int (i*j)):=opI λ_ _ _ _ _ _ _ hc q=>mul_int q hc.ok
theorem z9r:OpR X (binaryOp .Mod) (rI (λ_ j=>0<j) λi j=>.int (i%j)):=opI λi j _ _ _ _ _ hc q=>by
 have h1:(0:Int)<j:=hc;exact mod_int' #v[] (by rw[Int.fmod_eq_emod_of_nonneg i #v[]];exact q)
theorem z97:OpR X (binaryOp .Pow) (rI CPow λi j=>.int (i^j.toNat)):=opI λ_ _ _ _ _ _ _ hc q=>pow_int_small hc.1 hc.2.1 hc.2.2 q
theorem yag:OpR X (binaryOp .LShift) (rI CPow λi j=>.int (i*2^j.toNat)):=opI λ_ _ _ _ _ _ _ hc q=>lshift_int_small hc.1 hc.2.1 hc.2.2 q
theorem z9s:OpR X (binaryOp .RShift) (rI (λ_ j=>0<=j) λi j=>.int (i/2^j.toNat)):=opI λi j _ _ _ _ _ hc q =>
 rshift_int hc (by rw[Int.fdiv_eq_ediv_of_nonneg i (ztl _)];exact q)
theorem z82:OpR X (binaryOp .BitAnd) (rI0 λi j=>.int (Builtin.bitAnd i j)):=opI0 λ_ _ _ _ _ _ _ q=>and_int q
theorem ydp:OpR X (binaryOp .BitOr) (rI0 λi j=>.int (Builtin.bitOr i j)):=opI0 λ_ _ _ _ _ _ _ q=>or_int q
theorem ya4:OpR X (binaryOp .BitXor) (rI0 λi j=>.int (Builtin.bitXor i j)):=opI0 λ_ _ _ _ _ _ _ q=>xor_int q
theorem zwu:OpR X (inplaceOp .Add) (rI0 λi j=>.int (i+j)):=opI0 λ_ _ _ _ _ _ _ q=>iadd_int q
theorem z5e:OpR X (inplaceOp .Sub) (rI0 λi j=>.int (i-j)):=opI0 λ_ _ _ _ _ _ _ q=>isub_int q
theorem z5n:OpR X (inplaceOp .Mult) (rI CMul λi j=>.int (i*j)):=opI λ_ _ _ _ _ _ _ hc q=>imul_int q hc.ok
theorem z5t:OpR X (inplaceOp .BitAnd) (rI0 λi j=>.int (Builtin.bitAnd i j)):=opI0 λ_ _ _ _ _ _ _ q=>iand_int q
theorem z88:OpR X (inplaceOp .BitOr) (rI0 λi j=>.int (Builtin.bitOr i j)):=opI0 λ_ _ _ _ _ _ _ q=>ior_int q
theorem z74:OpR X (inplaceOp .BitXor) (rI0 λi j=>.int (Builtin.bitXor i j)):=opI0 λ_ _ _ _ _ _ _ q=>ixor_int q
theorem unI {f:Value->Sem Value}{g:Int->Int}
  (rule:∀(i:Int) (t:Tok) (s:Shared) (Q:Value->Shared->Prop) (E:Value->Shared->Prop),Q (.int (g i) s.toks) { s with toks:=s.toks+1 }->wpAny #v[1,7] X.A (f (.int i t)) Q E s) :
  UnR X f (rU λi=>.int (g i)):=by
 intro pins s σ H x v Q I rx h;obtain⟨i,rfl,q⟩:=h;obtain⟨t,rfl⟩:=rx;exact rule i t s _ _ ⟨.int (g i),H,I.tok _,⟨_,rfl⟩,q⟩
theorem yah:UnR X (unaryOp .USub) (rU λi=>.int (-i)):=unI λ_ _ _ _ _ q=>neg_int q
end
noncomputable def scal:V->V->Bool
 |.non,.non=>true|.non,.int _=>true|.int _,.non=>true|.non,.bl _=>true|.bl _,.non=>true|.non,.str _=>true|.str _,.non=>true
 |.int _,.int _=>true|.bl _,.bl _=>true|.str _,.str _=>true|.byt _,.byt _=>true
 |.int _,.str _=>true|.str _,.int _=>true|.bl _,.str _=>true|.str _,.bl _=>true
 |_,_=>false
def rEq:R2:=λx y H Q=>scal x y=true/\Q (.bl (decide (x=y))) H
def rNe:R2:=λx y H Q=>scal x y=true/\Q (.bl (!decide (x=y))) H
theorem zv2 {i j:Int}:decide (V.int i=V.int j)=(i==j):=by
 rw[Em];simp
theorem z3k {i j:Bool}:decide (V.bl i=V.bl j)=(i==j):=by
 rw[Em];simp
theorem zx4 {i j:Str}:decide (V.str i=V.str j)=(i==j):=by
 rw[Em];simp
theorem ztz {i j:Array UInt8}:decide (V.byt i=V.byt j)=(i.toList==j.toList):=by
 rw[Em];cases i;cases j;simp
section
variable {X:Cx}{a b c:Expr}{ta tb tc:TE}{pos:Pos}
theorem zaj {pins:List (Addr×Obj)}{σ:St}{H:Hp}{s:Shared}{Q:VK}{k k':Bool}(I:Inv X pins σ H s)(q:Q (.bl k) H)(e:k=k'):EP X pins σ Q (.bool k') s:=by
 subst e;exact⟨.bl k,H,I,rfl,q⟩
theorem ydh:OpR X (compareOp .Eq) rEq:=by
 intro pins s σ H x y v u Q I rx ry h;obtain⟨hs,q⟩:=h;cases x with
 | non =>
  cases rx;cases y with
  |non=>cases ry;exact PySem.EqNone.eq_none_none (zaj I q (by simp))
  |bl j=>cases ry;exact PySem.EqNone.eq_none_bool (zaj I q (by simp))
  |int j=>obtain⟨t',rfl⟩:=ry;exact PySem.EqNone.eq_none_int (zaj I q (by simp))
  |str j=>obtain⟨t',rfl⟩:=ry;exact PySem.EqNone.eq_none_str (zaj I q (by simp))
  |_=>exact absurd (show false=true from hs) Ar
 | bl i =>
  cases rx;cases y with
  |non=>cases ry;exact PySem.EqNone.eq_bool_none (zaj I q (by simp))
  |bl j=>cases ry;exact eq_bool (zaj I q z3k)
  |str j=>obtain⟨t',rfl⟩:=ry;exact PySem.EqMixed.eq_bool_str (zaj I q (by simp))
  |_=>exact absurd (show false=true from hs) Ar
 | int i =>
  obtain⟨t,rfl⟩:=rx;cases y with
  |non=>cases ry;exact PySem.EqNone.eq_int_none (zaj I q (by simp))
  |int j=>obtain⟨t',rfl⟩:=ry;exact eq_int (zaj I q zv2)
  |str j=>obtain⟨t',rfl⟩:=ry;exact PySem.EqMixed.eq_int_str (zaj I q (by simp))
  |_=>exact absurd (show false=true from hs) Ar
 | str i =>
  obtain⟨t,rfl⟩:=rx;cases y with
  |non=>cases ry;exact PySem.EqNone.eq_str_none (zaj I q (by simp))
  |bl j=>cases ry;exact PySem.EqMixed.eq_str_bool (zaj I q (by simp))
  |int j=>obtain⟨t',rfl⟩:=ry;exact PySem.EqMixed.eq_str_int (zaj I q (by simp))
  |str j=>obtain⟨t',rfl⟩:=ry;exact eq_str (zaj I q zx4)
  |_=>exact absurd (show false=true from hs) Ar
 | byt i =>
  obtain⟨t,rfl⟩:=rx;cases y with
  |byt j=>obtain⟨t',rfl⟩:=ry;exact PySem.W.eq_bytes (zaj I q ztz)
  |_=>exact absurd (show false=true from hs) Ar
 |_=>cases y<;>exact absurd (show false=true from hs) Ar
theorem ycs:OpR X (compareOp .NotEq) rNe:=by
 intro pins s σ H x y v u Q I rx ry h;obtain⟨hs,q⟩:=h;cases x with
 | non =>
  cases rx;cases y with
  |non=>cases ry;exact PySem.EqNone.ne_none_none (zaj I q (by simp))
  |bl j=>cases ry;exact PySem.EqNone.ne_none_bool (zaj I q (by simp))
  |int j=>obtain⟨t',rfl⟩:=ry;exact PySem.EqNone.ne_none_int (zaj I q (by simp))
  |str j=>obtain⟨t',rfl⟩:=ry;exact PySem.EqNone.ne_none_str (zaj I q (by simp))
  |_=>exact absurd (show false=true from hs) Ar
 | bl i =>
  cases rx;cases y with
  |non=>cases ry;exact PySem.EqNone.ne_bool_none (zaj I q (by simp))
  |bl j=>cases ry;exact ne_bool (zaj I q (congrArg not z3k))
  |str j=>obtain⟨t',rfl⟩:=ry;exact PySem.EqMixed.ne_bool_str (zaj I q (by simp))
  |_=>exact absurd (show false=true from hs) Ar
 | int i =>
  obtain⟨t,rfl⟩:=rx;cases y with
  |non=>cases ry;exact PySem.EqNone.ne_int_none (zaj I q (by simp))
  |int j=>obtain⟨t',rfl⟩:=ry;exact ne_int (zaj I q (congrArg not zv2))
  |str j=>obtain⟨t',rfl⟩:=ry;exact PySem.EqMixed.ne_int_str (zaj I q (by simp))
  |_=>exact absurd (show false=true from hs) Ar
 | str i =>
  obtain⟨t,rfl⟩:=rx;cases y with
  |non=>cases ry;exact PySem.EqNone.ne_str_none (zaj I q (by simp))
  |bl j=>cases ry;exact PySem.EqMixed.ne_str_bool (zaj I q (by simp))
  |int j=>obtain⟨t',rfl⟩:=ry;exact PySem.EqMixed.ne_str_int (zaj I q (by simp))
  |str j=>obtain⟨t',rfl⟩:=ry;exact ne_str (zaj I q (congrArg not zx4))
  |_=>exact absurd (show false=true from hs) Ar
 | byt i =>
  obtain⟨t,rfl⟩:=rx;cases y with
  |byt j=>obtain⟨t',rfl⟩:=ry;exact PySem.W.ne_bytes (zaj I q (congrArg not ztz))
  |_=>exact absurd (show false=true from hs) Ar
 |_=>cases y<;>exact absurd (show false=true from hs) Ar
theorem yd8:OpR X (compareOp .Lt) (rI0 λi j=>.bl (decide (i<j))):=opB0 λ_ _ _ _ _ _ _ q=>lt_int q
theorem ydd:OpR X (compareOp .LtE) (rI0 λi j=>.bl (decide (i<=j))):=opB0 λ_ _ _ _ _ _ _ q=>le_int q
theorem ydx:OpR X (compareOp .Gt) (rI0 λi j=>.bl (decide (j<i))):=opB0 λ_ _ _ _ _ _ _ q=>gt_int q
theorem yeb:OpR X (compareOp .GtE) (rI0 λi j=>.bl (decide (j<=i))):=opB0 λ_ _ _ _ _ _ _ q=>ge_int q
theorem z8m:OpR X (compareOp .Is) (λx y H Q=>y=.non/\Q (.bl (decide (x=.non))) H):=by
 intro pins s σ H x y v u Q I rx ry h;obtain⟨rfl,q⟩:=h;cases ry;refine is_none_gen (zaj I q ?_);cases x<;>first
  |(cases rx;rfl)
  |(obtain⟨t,rfl⟩:=rx;rfl)
theorem OpR.or {f:Value->Value->Sem Value}{r r':R2}(h:OpR X f r)(h':OpR X f r'):OpR X f (λx y H Q=>r x y H Q\/r' x y H Q):=by
 intro pins s σ H x y v u Q I rx ry q;rcases q with q|q
 ·exact h pins s σ H x y v u Q I rx ry q
 ·exact h' pins s σ H x y v u Q I rx ry q
theorem zuy {op:CmpOp}{r:R2}(ho:OpR X (compareOp op) r)(ha:PE X a ta)(hb:PE X b tb)(hm:behindInMarks op b=false):PE X (.Compare a [op] [b] pos) (tOp r ta tb):=by
 intro pins s σ H Q I h;exact wpAny_Compare1 (binT ha hb I h λv u s2 x y H2 I2 rx ry q=>ho pins s2 σ H2 x y v u Q I2 rx ry q) hm
noncomputable def z6o (t:TE):TT:=λσ H Q=>t σ H λx H'=>∃k,x=.bl k/\Q k H'
theorem zww {op:CmpOp}{r:R2}(ho:OpR X (compareOp op) r)(ha:PE X a ta)(hb:PE X b tb)(hm:behindInMarks op b=false):PT X (.Compare a [op] [b] pos) (z6o (tOp r ta tb)):=by
 intro pins s σ H Q I h;refine wpAny_isTrue_Compare1 (thn (ha pins s σ H _ I h) λv s1 ⟨x,H1,I1,r1,q1⟩=>thn (hb pins s1 σ H1 _ I1 q1) λu s2 ⟨y,H2,I2,r2,q2⟩ =>
  thn (ho pins s2 σ H2 x y v u _ I2 r1 r2 q2) λc s3 ⟨z,H3,I3,r3,k,e,q3⟩=>?_) hm
 subst e;cases r3;exact Cu ⟨H3,I3,q3⟩
noncomputable def zya (r r':R2) (ta tb tc:TE):TE:=λσ H Q=>ta σ H λx H1=>tb σ H1 λy H2=>r x y H2 λz H3=>∃k,z=.bl k /\
 (if k=true then tc σ H3 λw' H4=>r' y w' H4 Q else Q (.bl false) H3)
theorem z11 {op op':CmpOp}{r r':R2} (ho:OpR X (compareOp op) r) (ho':OpR X (compareOp op') r') (ha:PE X a ta) (hb:PE X b tb) (hc:PE X c tc)
  (hm:lastMarks [op,op'] [b,c]=false:=by with_unfolding_all rfl):PE X (.Compare a [op,op'] [b,c] pos) (zya r r' ta tb tc):=by
 intro pins s σ H Q I h;refine Compare_chain (thn (ha pins s σ H _ I h) λv s1 ⟨x,H1,I1,r1,q1⟩=>chain_link (thn (hb pins s1 σ H1 _ I1 q1) λu s2 ⟨y,H2,I2,r2,q2⟩ =>
  thn (ho pins s2 σ H2 x y v u _ I2 r1 r2 q2) λd s3 ⟨z,H3,I3,r3,k,e,q3⟩=>?_)) hm
 subst e;cases r3;refine Cu ?_;cases k with
 |false=>exact ite_ff ⟨.bl false,H3,I3,rfl,q3⟩
 |true=>exact ite_tt (chain_last (thn (hc pins s3 σ H3 _ I3 q3) λw' s4 ⟨z',H4,I4,r4,q4⟩=>ho' pins s4 σ H4 y z' u w' Q I4 r2 r4 q4))
theorem z09 {op op':CmpOp}{r r':R2} (ho:OpR X (compareOp op) r) (ho':OpR X (compareOp op') r') (ha:PE X a ta) (hb:PE X b tb) (hc:PE X c tc)
  (hm:lastMarks [op,op'] [b,c]=false:=by with_unfolding_all rfl):PT X (.Compare a [op,op'] [b,c] pos) (z6o (zya r r' ta tb tc)):=by
 intro pins s σ H Q I h;refine isTrue_chain (thn (ha pins s σ H _ I h) λv s1 ⟨x,H1,I1,r1,q1⟩=>test_link (thn (hb pins s1 σ H1 _ I1 q1) λu s2 ⟨y,H2,I2,r2,q2⟩ =>
  thn (ho pins s2 σ H2 x y v u _ I2 r1 r2 q2) λd s3 ⟨z,H3,I3,r3,k,e,q3⟩=>?_)) hm
 subst e;cases r3;refine Cu ?_;cases k with
 | false =>
  obtain⟨k',e',q'⟩:=q3;cases e';exact ite_ff ⟨H3,I3,q'⟩
 | true =>
  refine ite_tt (test_last (thn (hc pins s3 σ H3 _ I3 q3) λw' s4 ⟨z',H4,I4,r4,q4⟩=>thn (ho' pins s4 σ H4 y z' u w' _ I4 r2 r4 q4) λd' s5 ⟨z2,H5,I5,r5,k2,e2,q5⟩=>?_));subst e2;cases r5;exact Cu ⟨H5,I5,q5⟩
theorem zr1:(sizeLine:Nat)<2^63:=by rw[sizeLine_eq];decide
theorem zs8:OpR X (binaryOp .Add) (λx y H Q=>∃i j,x=.str i/\y=.str j/\i.length+j.length<=sizeLine/\Q (.str (i++j)) H):=by
 intro pins s σ H x y v u Q I rx ry h;obtain⟨i,j,rfl,rfl,hz,q⟩:=h;obtain⟨t,rfl⟩:=rx;obtain⟨t',rfl⟩:=ry;exact add_str (λt' tk=>⟨.str (i++j),H,I.tok _,⟨_,rfl⟩,q⟩) hz
theorem vals1 {x:V}{us:List Value}(r:Vals [x] us):∃u,us=[u]/\RelV x u:=by
 cases r with
 |cons r1 r2=>cases r2;exact⟨_,rfl,r1⟩
theorem yaw {x y:V}{us:List Value} (r:Vals [x,y] us):∃u w',us=[u,w']/\RelV x u/\RelV y w':=by
 cases r with
 | cons r1 r2 =>
  cases r2 with
  |cons r3 r4=>cases r4;exact⟨_,_,rfl,r1,r3⟩
theorem z1m:zcb X (.builtin "abs") (λxs H Q=>∃i,xs=[.int i]/\Q (.int (if i<0 then -i else i)) H):=by
 intro pins s σ H xs us Q I r h;obtain⟨i,rfl,q⟩:=h;obtain⟨u,rfl,t,rfl⟩:=vals1 r;exact call_abs_int λu tk=>⟨.int (if i<0 then -i else i),H,I.tok _,⟨_,rfl⟩,q⟩
theorem zxa (hc:X.calm=true):zcb X (.builtin "max") (λxs H Q=>∃i j,xs=[.int i,.int j]/\Q (.int (if j > i then j else i)) H):=by
 intro pins s σ H xs us Q I r h;nofun;obtain⟨i,j,rfl,q⟩:=h;obtain⟨u,w',rfl,⟨t,rfl⟩,⟨t',rfl⟩⟩:=yaw r;ac_rfl;refine max_two_ints (I.ok.hd hc) λh' tk k=>⟨_,H,I.kept k,?_,q⟩;by_cases hj:j > i
 ·rw[if_pos hj,if_pos hj];exact⟨_,rfl⟩
 ·rw[if_neg hj,if_neg hj];exact⟨_,rfl⟩
theorem zv5 (hc:X.calm=true):zcb X (.builtin "min") (λxs H Q=>∃i j,xs=[.int i,.int j]/\Q (.int (if j<i then j else i)) H):=by
 intro pins s σ H xs us Q I r h;obtain⟨i,j,rfl,q⟩:=h;obtain⟨u,w',rfl,⟨t,rfl⟩,⟨t',rfl⟩⟩:=yaw r;refine min_two_ints (I.ok.hd hc) λh' tk k=>⟨_,H,I.kept k,?_,q⟩;by_cases hj:j<i
 ·rw[if_pos hj,if_pos hj];exact⟨_,rfl⟩
 ·rw[if_neg hj,if_neg hj];exact⟨_,rfl⟩
theorem zv8:zcb X (.type "int") (λxs H Q=>(∃i,xs=[.int i]/\Q (.int i) H)\/∃k,xs=[.bl k]/\Q (.int (if k then 1 else 0)) H):=by
 intro pins s σ H xs us Q I r h;rcases h with⟨i,rfl,q⟩|⟨k,rfl,q⟩
 ·obtain⟨u,rfl,t,rfl⟩:=vals1 r;exact call_int_int ⟨.int i,H,I,⟨_,rfl⟩,q⟩
 ·obtain⟨u,rfl,r1⟩:=vals1 r;cases r1;exact call_int_bool ⟨.int (if k then 1 else 0),H,I.tok _,⟨_,rfl⟩,q⟩
end
structure ObjM (h:Heap) (x dx C:Addr) (mA:Str->Option Value):Prop where
 obj:h.get? x=some (PySem.W.instObj C dx)
 ns:h.Ns1 dx mA
 ne:dx≠x
theorem zxv {h:Heap}{dx:Addr}{mA:Str->Option Value}(n:h.Ns1 dx mA):∃od,h.get? dx=some od/\∀name,PySem.W.lookIn name od=some (mA name):=by
 nofun;obtain⟨o,es,ep,ho,hd,hk,_,hm⟩:=n;ac_rfl;refine⟨o,ho,λname=>?_⟩;have e:=hm name;unfold nsFind findBy at e;rw[<-Array.find?_toList] at e;unfold PySem.W.lookIn;rw[hd];dsimp only;split
 ·rename_i y q;rw[q] at e;exact congrArg some e
 ·rename_i q;rw [q] at e;have a:es.toList.any (·.refKey)=false:=by
   rw[List.any_eq_false];intro y hy;obtain⟨z,t,hkey⟩:=hk y (Array.mem_toList_iff.mp hy);simp [DictEntry.refKey,hkey]
  have a' : ¬ es.toList.any (·.refKey)=true:=by rw[a];exact Ar
  rw[if_neg a'];exact congrArg some e
theorem ObjM.look {h:Heap}{x dx C:Addr}{mA:Str->Option Value}(I:ObjM h x dx C mA):∃od,PySem.W.InstAt h x (PySem.W.instObj C dx) C (some od)/\∀name,PySem.W.lookIn name od=some (mA name) :=
 let ⟨od,ho,hl⟩:=zxv I.ns
 ⟨od,⟨I.obj,rfl,rfl,ho⟩,hl⟩
section
variable {prog:Program}{w:World}{A:Around}{E:Value->Shared->Prop}{s:Shared}{K:PySem.W.Frag}{x dx C f:Addr}{mA:Str->Option Value}{name:Str}{v:Value}
end
section
variable {P:Program}{w:World}{H H' : Hp}{h h' : Heap}{a C dx:Addr}{fs fs' : List (Str × V)}
theorem z7v (hok:HOk P w H h)(e:H a=some (.ins C dx fs)):∃mA,ObjM h a dx C mA/\(∀f,RelO (fs.lookup f) (mA f))/\PySem.Within mA (fs.map (·.1))/\fs.length<=1000/\H dx=some (.own a):=by
 nofun;obtain⟨d,z,ne,ob,mA,n,r,q⟩:=(show zaz P w H h a (.ins C dx fs) from hok a _ e);ac_rfl;exact⟨mA,⟨ob,n,ne⟩,r,q,z,d⟩
end
structure Cls (K:PySem.W.Frag) (C:Addr):Prop where
 pg:PySem.W.plainGet K C Str.empty=true
 hd:PySem.W.hasDictIn K C=true
 po:PySem.W.plainOver K C=true
 sa:PySem.W.findIn K (.ref C) "__setattr__" = some (some (.builtin "object.__setattr__"))
theorem Cls.get {K:PySem.W.Frag}{C:Addr}(c:Cls K C)(f:Str):PySem.W.plainGet K C f=true:=c.pg
section
variable {X:Cx}{pins:List (Addr × Obj)}{σ:St}{H:Hp}{s:Shared}{a C dx:Addr}{fs:List (Str × V)}{f:Str}{v:V}{A:Around}{E:Value->Shared->Prop}
end
section
variable {X:Cx}{o e value:Expr}{f:Str}{pos pos' tpos:Pos}{ta tv:TE}
end
section
variable {X:Cx}{pins:List (Addr × Obj)}{σ:St}{H:Hp}{s:Shared}{A:Around}{E:Value->Shared->Prop}{Q:Value->Shared->Prop}{c:Value}{b:Bool}
inductive TyOf (K:PySem.W.Frag) (H:Hp):V->Value->Prop where
 |non:TyOf K H .non (.type "NoneType")
 |bl (x:Bool):TyOf K H (.bl x) (.type "bool")
 |int (i:Int):TyOf K H (.int i) (.type "int")
 |str (x:Str):TyOf K H (.str x) (.type "str")
 |flt (x:UInt64):TyOf K H (.flt x) (.type "float")
 |lst {a:Addr}{xs:List V} (e:H a=some (.lst xs)):TyOf K H (.ref a) (.type "list")
 |frz {a:Addr}{o:Obj}{xs:List V} (e:H a=some (.frz o (.lst xs))):TyOf K H (.ref a) (.type "list")
 |tup {a:Addr}{xs:List V} (e:H a=some (.tup xs)):TyOf K H (.ref a) (.type "tuple")
 |dK {a:Addr}{kvs:List (Key×V)} (e:H a=some (.dK kvs)):TyOf K H (.ref a) (.type "dict")
 |dT {a:Addr}{kvs:List (List Key×V)} (e:H a=some (.dT kvs)):TyOf K H (.ref a) (.type "dict")
 | ins {a C dx:Addr}{fs:List (Str×V)} (e:H a=some (.ins C dx fs)) (cl:Cls K C) (ha:PySem.W.findIn K (.ref C) "__class__" = some (some (.builtin "object.__class__")))
  (hn:PySem.W.specialIn K (.builtin "object.__class__") "__get__" = some (some (.builtin "getset_descriptor.__get__"))) (htk:PySem.W.takesIn K (.builtin "object.__class__")=some true)
  (hm:PySem.W.mroIn K C (.type "object")=some true):TyOf K H (.ref a) (.ref C)
theorem zvu {x:V}{u t:Value} (I:Inv X pins σ H s) (rx:RelV x u) (ty:TyOf X.K H x t) (e:PySem.W.kitOne X.K t c=some b) (h:∀tk,Q (.bool b) { s with toks:=tk }) :
  wpAny #v[1,7] A (call (.builtin "isinstance") [u,c]) Q E s:=by
 cases ty with
 |non=>cases (show u=Value.none from rx);exact Cr PySem.W.kitx_none I.kIn True.intro e (λz=>nomatch z) h
 |bl y=>cases (show u=Value.bool y from rx);exact Cr PySem.W.kitx_bool I.kIn True.intro e (λz=>nomatch z) h
 |int i=>obtain⟨t,q⟩:=(show ∃t,u=Value.int i t from rx);cases q;exact Cr PySem.W.kitx_int I.kIn True.intro e (λz=>nomatch z) h
 |str y=>obtain⟨t,q⟩:=(show ∃t,u=Value.str y t from rx);cases q;exact Cr PySem.W.kitx_str I.kIn True.intro e (λz=>nomatch z) h
 |flt y=>obtain⟨t,q⟩:=(show ∃t,u=Value.float y t from rx);cases q;exact Cr PySem.W.kitx_float I.kIn True.intro e (λz=>nomatch z) h
 | @lst a xs ea =>
  cases (show u=Value.ref a from rx);obtain⟨_,_,n,_,h1⟩:=(show zaz X.prog X.w H s.heap a (.lst xs) from I.hok a _ ea);exact Cr PySem.W.kitx_list I.kIn ⟨_,h1,rfl⟩ e (λz=>nomatch z) h
 | @frz a ob xs ea =>
  cases (show u=Value.ref a from rx);obtain⟨_,_,_,n,_,h1⟩:=(show zaz X.prog X.w H s.heap a (.frz ob (.lst xs)) from I.hok a _ ea);exact Cr PySem.W.kitx_list I.kIn ⟨_,h1,rfl⟩ e (λz=>nomatch z) h
 | @tup a xs ea =>
  cases (show u=Value.ref a from rx);obtain⟨_,_,_,p⟩:=(show zaz X.prog X.w H s.heap a (.tup xs) from I.hok a _ ea);obtain⟨o,h1,h2,_⟩:=p;exact Cr PySem.W.kitx_tuple I.kIn ⟨o,h1,h2⟩ e (λz=>nomatch z) h
 | @dK a kvs ea =>
  cases (show u=Value.ref a from rx);obtain⟨_,_,vs,_,p⟩:=(show zaz X.prog X.w H s.heap a (.dK kvs) from I.hok a _ ea);obtain⟨o,es,ep,h1,h2,_⟩:=p;exact Cr PySem.W.kitx_dict I.kIn ⟨o,h1,h2.1⟩ e (λz=>nomatch z) h
 | @dT a kvs ea =>
  cases (show u=Value.ref a from rx);obtain⟨_,_,xs,_,o,es,ep,h1,h2,_⟩:=(show zaz X.prog X.w H s.heap a (.dT kvs) from I.hok a _ ea);exact Cr PySem.W.kitx_dict I.kIn ⟨o,h1,h2.1⟩ e (λz=>nomatch z) h
 | @ins a C dx fs ea cl ha hn htk hm =>
  cases (show u=Value.ref a from rx);obtain⟨mA,O,_⟩:=z7v I.hok ea;obtain⟨od,J,_⟩:=O.look;exact Cr (PySem.W.kitx_own (cl.get _) cl.hd ha hn htk hm) I.kIn J e (λz=>nomatch z) h
end
structure Room (k:Nat) (A:Around):Prop where
 hd:A.handled=none
 dp:A.depth+3*k+5<recursionLimit
 un:A.units+16*k+200<cLine
 gd:A.guards=some []
theorem Room.mono {j k:Nat}{A:Around}(r:Room k A)(h:j<=k):Room j A:=⟨r.hd,by have:=r.dp;omega,by have:=r.un;omega,r.gd⟩
theorem Room.deeper {k:Nat}{A:Around}(r:Room (k+1) A)(env:Env):Room k (A.deeper env) :=
 ⟨r.hd,by have:=r.dp;show A.depth+1+3*k+5<_;omega,by have:=r.un;show A.units+3+16*k+200<_;omega,r.gd⟩
theorem Room.depth {k:Nat}{A:Around}(r:Room k A):A.depth<recursionLimit:=by have:=r.dp;omega
noncomputable def tNil:TA:=λ_ H Q=>Q [] H
noncomputable def zfs (ta:TE) (tr:TA):TA:=λσ H Q=>ta σ H λx H1=>tr σ H1 λxs H2=>Q (x::xs) H2
section
variable {X:Cx}{e:Expr}{es:List Expr}{te:TE}{t:TA}{pos:Pos}
theorem zel:PA X [] tNil:=λ_ _ _ _ H Q I h=>Calls.spliced_nil ⟨[],H,I,.nil,h⟩
theorem zpj (ha:PE X e te)(hr:PA X es t)(hs:starEach (e::es) X.env=(false,eval e X.env)::starEach es X.env:=by rfl):PA X (e::es) (zfs te t):=by
 intro pos pins s σ H Q I h;rw[hs];show wpAny _ _ (spliced ((false,eval e X.env)::backTo pos (starEach es X.env))) _ _ s;refine Calls.spliced_cons (thn (ha pins s σ H _ I h) λu s1 ⟨x,H1,I1,r1,q1⟩=>?_);exact thn (hr pos pins s1 σ H1 _ I1 q1) λus s2 ⟨xs,H2,I2,r2,q2⟩=>⟨x::xs,H2,I2,.cons r1 r2,q2⟩
def tTup (t:TA):TE:=λσ H Q=>t σ H λxs H1=>xs.length<=sizeLine/\∀p,H1 p=none->Q (.ref p) (upd H1 p (.tup xs))
def tLst (t:TA):TE:=λσ H Q=>t σ H λxs H1=>xs.length<=sizeLine/\∀p,H1 p=none->Q (.ref p) (upd H1 p (.lst xs))
theorem yb0 {x1}(h:PA X es t):PE X (.Tuple es x1 pos) (tTup t):=by
 intro pins s σ H Q I hq;refine wpAny_Tuple_spliced (thn (h pos pins s σ H _ I hq) λus s1 ⟨xs,H1,I1,r,z,q⟩=>⟨by rw[<-r.length];exact z,?_⟩);have hf:H1 s1.heap.objs.size=none:=I1.hok.fresh (Af _);refine⟨.ref s1.heap.objs.size,upd H1 s1.heap.objs.size (.tup xs),I1.laid (t':=s1.toks) (λb u e=>Ab _ e) (Af _) ?_,rfl,q _ hf⟩;exact⟨z,us,r,⟨_,An _ rfl,rfl,_,rfl⟩⟩
theorem z8t (h:PA X es t):PE X (.List es pos) (tLst t):=by
 intro pins s σ H Q I hq;refine wpAny_List_spliced (thn (h pos pins s σ H _ I hq) λus s1 ⟨xs,H1,I1,r,z,q⟩=>⟨by rw[<-r.length];exact z,?_⟩);have hf:H1 s1.heap.objs.size=none:=I1.hok.fresh (Af _);refine⟨.ref s1.heap.objs.size,upd H1 s1.heap.objs.size (.lst xs),I1.laid (t':=s1.toks) (λb u e=>Ab _ e) (Af _) ?_,rfl,q _ hf⟩;exact⟨z,us,0,r,An _ rfl⟩
end
abbrev Sp:=List V->Hp->VK->XK->Prop
abbrev CXT:=List Env->Hp->Shared->XK->Value->Shared->Prop
structure Env0 (P:Program) (w:World) (K:PySem.W.Frag) (mg:Str->Option Value) (base:Heap) (A:Around) (outer:List Env) (s:Shared) (H:Hp):Prop where
 frames:A.frames=some outer
 mod:Mod K mg base
 bs:∀b o,base.get? b=some o->s.heap.get? b=some o/\H b=none
 bsz:base.objs.size<=s.heap.objs.size
 funs:s.heap.FunFrames base outer
 frf:∀b∈frs outer,H b=none
 hok:HOk P w H s.heap
 bare:AllBare s.gens
noncomputable def CE (outer:List Env) (P:Program) (w:World) (H:Hp) (s:Shared) (Q:VK) (u:Value) (s':Shared):Prop :=
 ∃v H',s'.os=s.os/\AllBare s'.gens/\Un (frs outer) [] H H' s.heap s'.heap/\HOk P w H' s'.heap/\RelV v u/\Q v H'
noncomputable def CR (CX:CXT) (outer:List Env) (P:Program) (w:World) (H:Hp) (s:Shared) (Q:VK) (E:XK) (r:Result) (s':Shared):Prop :=
 match r with
 |.ok (.ret u)=>CE outer P w H s Q u s'
 |.ok _=>False
 |.error e=>CX outer H s E e s'
structure FnOk (P:Program) (w:World) (K:PySem.W.Frag) (mg:Str->Option Value) (base:Heap) (CX:CXT) (k:Nat) (f:Addr) (fd:FuncData) (ps:List Str) (sp:Sp):Prop where
 len:∀vs H Q E,sp vs H Q E->vs.length=ps.length
 run:∀(A:Around) (outer:List Env) (s:Shared) (H:Hp) (args:Args) (us:List Value) (vs:List V) (Q:VK) (E:XK),Room k A->Env0 P w K mg base A outer s H->BindsTo s fd args (ps.zip us)->Vals vs us->sp vs H Q E ->
  codeAny (model P w) A (.call (.ref f) args) (CR CX outer P w H s Q E) s
section
variable {X:Cx}{pins:List (Addr × Obj)}{σ:St}{H:Hp}{s s' : Shared}
theorem Inv.env0 (I:Inv X pins σ H s):Env0 X.prog X.w X.K X.mg X.base X.A X.stack s H :=
 ⟨I.ok.frames,I.ok.mod,I.bs,Cf I.ok.bsz I.sz,I.stack,I.stkFree,I.hok,I.bare⟩
theorem Inv.after {Q:VK}{u:Value}(I:Inv X pins σ H s)(h:CE X.stack X.prog X.w H s Q u s'):EP X pins σ Q u s':=by
 nofun;obtain⟨v,H',os,bare,un,hok,r,q⟩:=h;obtain⟨hh,g,d,t,os'⟩:=s';ac_rfl;obtain rfl:os'=s.os:=os;exact⟨v,H',I.call (h':=hh) (g':=g) (d':=d) (t':=t) (ch:=[]) un hok bare (λb z=>absurd z (by simp)),r,q⟩
end
noncomputable def z4e (sp:Sp) (dvs:List V) (E:XK) (t:TA):TE:=λσ H Q=>t σ H λvs H1=>sp (vs++dvs) H1 Q E
noncomputable def zpo (K:PySem.W.Frag) (fd:FuncData) (ps:List Str) (ds:List Value):Prop :=
 ∀(s:Shared) (us:List Value),K.In s.heap->(us++ds).length=ps.length->BindsTo s fd ⟨us,[]⟩ (ps.zip (us++ds))
theorem zpo.all {K:PySem.W.Frag}{fd:FuncData}{ps:List Str}(h:∀us:List Value,us.length=ps.length->bindArgs fd ⟨us,[]⟩=pure (ps.zip us)):zpo K fd ps []:=λs us _ hl=>by
 rw[Ch] at hl ⊢;exact .of_eq (h us hl)
noncomputable def zt0 (CX:CXT) (X:Cx) (E:XK):Prop:=∀(pins:List (Addr×Obj)) (σ:St) (H:Hp) (s:Shared) (e:Value) (s':Shared),Inv X pins σ H s->CX X.stack H s E e s'->X.xe e s'
section
variable {X:Cx}{CX:CXT}{k:Nat}{f C:Addr}{fd:FuncData}{ps:List Str}{sp:Sp}{dvs:List V}{ds:List Value}{E:XK}{x m:Str}{p pos apos:Pos}{e o:Expr}{es:List Expr}{ta:TE}{t:TA}
theorem yao {pins:List (Addr×Obj)}{σ:St}{H:Hp}{s:Shared}{Q:VK}{us:List Value}{vs:List V} (F:FnOk X.prog X.w X.K X.mg X.base CX k f fd ps sp) (hr:Room k X.A) (hb:zpo X.K fd ps ds) (hd:Vals dvs ds) (hx:zt0 CX X E)
  (I:Inv X pins σ H s) (r:Vals vs us) (h:sp (vs++dvs) H Q E):wpAny #v[1,7] X.A (call (.ref f) us) (EP X pins σ Q) X.xe s:=by
 have r2:Vals (vs++dvs) (us++ds):=r.append hd;have hl:(us++ds).length=ps.length:=by rw[<-r2.length];exact F.len _ _ _ _ h
 refine wpAny_call (Hb (F.run X.A X.stack s H ⟨us,[]⟩ (us++ds) (vs++dvs) Q E hr I.env0 (hb s us I.kIn hl) r2 h) λr s' hq=>?_);cases r with
 |error e=>exact hx pins σ H s e s' I hq
 | ok fl =>
  cases fl with
  |ret u=>exact I.after hq
  |next=>exact False.elim hq
  |brk=>exact False.elim hq
  |cont=>exact False.elim hq
theorem z4t (F:FnOk X.prog X.w X.K X.mg X.base CX k f fd ps sp) (hr:Room k X.A) (hg:Gl X x) (hm:X.mg x=some (.ref f)) (hk:PySem.W.keepIn X.K (.ref f)=true) (hb:zpo X.K fd ps ds) (hd:Vals dvs ds) (hx:zt0 CX X E)
  (ha:PA X (e::es) t) (hdb:(x==("__debug__" : Str))=false:=by decide) (he:starEach (e::es) X.env=(false,eval e X.env)::starEach es X.env:=by rfl) (hpl:(backTo pos (starEach es X.env)).any (·.1)=false:=by rfl) :
  PE X (.Call (.Name x p) (e::es) [] pos) (z4e sp dvs E t):=by
 intro pins s σ H Q I h;refine Fz (z6p I hg hm ?_ hdb);refine PySem.W.callWith_K (h₀:=X.base) I.ok.mod.kin hk (thn (ha pos pins s σ H _ I h) λus s1 ⟨vs,H1,I1,r,q⟩=>⟨I1.kIn,?_⟩) he hpl;exact yao F hr hb hd hx I1 r q
end
section
variable {X:Cx}{CX:CXT}{k:Nat}{f C:Addr}{fd:FuncData}{ps ks:List Str}{sp:Sp}{E:XK}{x m:Str}{p pos apos kpos:Pos}{e o:Expr}{es:List Expr}{kws:List Keyword}{te ta:TE}{t tk:TA}{nm:Option Str}
variable {g:List Value->List Value->List Value}{gV:List V->List V->List V}
end
structure FnScope (N P:List Str) (sc:Scope):Prop where
 kind:sc.kind=.function
 co:sc.isCoroutine=false
 gen:sc.isGenerator=false
 nd:N.Nodup
 pre:N.take P.length=P
 par:∀x∈P,sc.names.lookup x=some .local\/sc.names.lookup x=some .cell
 nofree:∀y∈sc.names,y.2≠.free
theorem zn7 {kindOf:Str->Option NameKind}{x:Str}:∀{binds:List (Str×Value)}{m:Str->Option Value},(∀v,(x,v) ∉ binds)->bindL kindOf binds m x=m x
 |[],_,_=>rfl
 | (n,v)::r,m,h=>by
  unfold bindL;rw[zn7 λw hw=>h w (As _ hw)];split
  ·have:x≠n:=by rintro rfl;exact h v Ax
   simp [this]
  ·rfl
theorem zmr {kindOf:Str->Option NameKind}{x:Str}:∀{binds:List (Str×Value)}{m:Str->Option Value},(∀v,(x,v) ∉ binds)->bindC kindOf binds m x=m x
 |[],_,_=>rfl
 | (n,v)::r,m,h=>by
  unfold bindC;rw[zmr λw hw=>h w (As _ hw)];split
  ·rfl
  ·have:x≠n:=by rintro rfl;exact h v Ax
   simp [this]
theorem zm7 {kindOf:Str->Option NameKind}{x:Str}{v:Value}:∀{P:List Str}{vs:List Value}{i:Nat}{m:Str->Option Value},P.Nodup->P[i]?=some x->vs[i]?=some v->kindOf x=some .local ->
  bindL kindOf (P.zip vs) m x=some v
 |[],_,_,_,_,h,_,_=>by simp at h
 |_::_,[],_,_,_,_,h,_=>by simp at h
 | p::P,w::vs,0,m,nd,h1,h2,hk=>by
  simp at h1 h2;subst h1;subst h2;show bindL kindOf ((p,w)::P.zip vs) m p=_;unfold bindL;rw[zn7 λv hv=>(Df.mp nd).1 (Dx hv).1,if_pos hk];simp
 | p::P,w::vs,i+1,m,nd,h1,h2,hk=>by
  show bindL kindOf ((p,w)::P.zip vs) m x=_;unfold bindL;exact zm7 (i:=i) (Df.mp nd).2 (by simpa using h1) (by simpa using h2) hk
theorem zl2 {kindOf:Str->Option NameKind}{x:Str}{v:Value}:∀{P:List Str}{vs:List Value}{i:Nat}{m:Str->Option Value},P.Nodup->P[i]?=some x->vs[i]?=some v->kindOf x≠some .local ->
  bindC kindOf (P.zip vs) m x=some v
 |[],_,_,_,_,h,_,_=>by simp at h
 |_::_,[],_,_,_,_,h,_=>by simp at h
 | p::P,w::vs,0,m,nd,h1,h2,hk=>by
  simp at h1 h2;subst h1;subst h2;show bindC kindOf ((p,w)::P.zip vs) m p=_;unfold bindC;rw[zmr λv hv=>(Df.mp nd).1 (Dx hv).1,if_neg hk];simp
 | p::P,w::vs,i+1,m,nd,h1,h2,hk=>by
  show bindC kindOf ((p,w)::P.zip vs) m x=_;unfold bindC;exact zl2 (i:=i) (Df.mp nd).2 (by simpa using h1) (by simpa using h2) hk
noncomputable def start (N:List Str) (vs:List V):St:=vs.map some++List.replicate (N.length-vs.length) none
noncomputable def cxOf (CX:CXT) (P:Program) (w:World) (K:PySem.W.Frag) (mg:Str->Option Value) (base:Heap) (N:List Str) (qual:Str) (scope:Scope) (f:Addr) (cd:Value) (A:Around) (outer:List Env) (s:Shared) (H:Hp) (E:XK):Cx where
 prog:=P
 w:=w
 K:=K
 mg:=mg
 base:=base
 A:=A.deeper (envOfC qual scope s.heap.objs.size f cd)
 N:=N
 s₀:=s
 H₀:=H
 env:=envOfC qual scope s.heap.objs.size f cd
 outer:=outer
 stack:=envOfC qual scope s.heap.objs.size f cd::outer
 ex:=[]
 calm:=true
 fn:=λ_=>true
 pn:=[]
 xe:=λe s'=>wpAny (model P w) (A.deeper (envOfC qual scope s.heap.objs.size f cd)) (leaving (envOfC qual scope s.heap.objs.size f cd) e) (λ_ s''=>CX outer H s E e s'') (λe' s''=>CX outer H s E e' s'') s'
theorem cell_has {sc:Scope}{n:Nat}{x:Str}(h:sc.names.lookup x=some .cell):∃c,(cellsFrom n sc.names []).lookup x=some c:=by
 have q:=Fu sc.names n [] (.inl h);exact Ff.mp q
theorem zmg {CX:CXT}{P:Program}{w:World}{K:PySem.W.Frag}{mg:Str->Option Value}{base:Heap}{N ps:List Str}{qual:Str}{scope:Scope}{f:Addr}{cd:Value}{A:Around}{outer:List Env}{s s1:Shared}{H:Hp}{E:XK}{us:List Value}{vs:List V}
  (S:FnScope N ps scope) (hd:A.handled=none) (e0:Env0 P w K mg base A outer s H) (hl:vs.length=ps.length) (r:Vals vs us)
  (x:InCallC s s.heap.objs.size (bindL (envOfC qual scope s.heap.objs.size f cd).kindOf (ps.zip us) λ_=>none) (cellsFrom #v[8,10] scope.names []) (bindC (envOfC qual scope s.heap.objs.size f cd).kindOf (ps.zip us) λ_=>none) s1) :
  Inv (cxOf CX P w K mg base N qual scope f cd A outer s H E) [] (start N vs) H s1:=by
 have hpl:ps.length<=N.length:=by have:=congrArg List.length S.pre;rw[Ee] at this;omega
 obtain⟨h1,tk,rfl,hk⟩:=x.done;have noA:∀b:Addr,b ∉ (cxOf CX P w K mg base N qual scope f cd A outer s H E).ex:=λb z=>absurd (show b∈([]:List Addr) from z) (by simp);refine⟨⟨e0.mod,S.kind,rfl,rfl,Af _,λy z c h1 h2=>?_,λy hy=>?_,λy c _ h=>?_,λ_=>hd,Around.frames_deeper e0.frames,.inr ⟨rfl,rfl⟩,λb z=>absurd z (noA b),e0.bs,e0.bsz,λb _ _=>noA b,λb z=>absurd z (noA b),e0.funs,e0.frf⟩,
  rfl,e0.bare,Un.kept hk,⟨_,x.toInCall.ns,λi y v h1 h2 h3=>?_⟩,λy c h=>⟨_,x.cell y c h⟩,e0.hok.fresh (Af _),λy c h=>?_,λp hp=>absurd (show p∈([]:List (Addr×Obj)) from hp) (by simp),e0.hok.kept hk,?_⟩
 ·exact name_of_addr x.apart (Br h1) (Br h2)
 ·have hy:scope.names.lookup y=some .cell \/ scope.names.lookup y=some .free:=hy;rcases hy with hy|hy
  ·exact cell_has hy
  ·exact absurd rfl (S.nofree _ (Br hy))
 ·exact Nat.le_of_lt (x.above y c (Br h))
 ·have hi:i<vs.length:=by
   unfold start at h2;by_cases hi:i<vs.length
   ·exact hi
   ·rw[Ew (by simpa using hi)] at h2;rw[List.getElem?_replicate] at h2;split at h2<;>cases h2
  have ha:vs[i]?=some v:=by
   unfold start at h2;rw[Dh (by simpa using hi),Au] at h2;cases e:vs[i]? with
   |none=>rw[e] at h2;cases h2
   |some a=>rw[e] at h2;cases h2;rfl
  obtain⟨u,hu,rv⟩:=r.get ha;have hp:ps[i]?=some y:=by
   rw[<-S.pre,List.getElem?_take_of_lt #v[]];exact h1
  have ndP:ps.Nodup:=by rw[<-S.pre];exact S.nd.sublist (Ep _ _)
  refine⟨u,rv,?_⟩;rcases S.par y (Bi hp) with k|k
  ·exact .inl ⟨k,zm7 ndP hp hu k⟩
  ·obtain⟨c,e⟩:=cell_has (n:=s.heap.objs.size+1) k;refine .inr ⟨.inl k,c,e,?_⟩;have q:=x.cell y c e;rw[zl2 ndP hp hu (by show scope.names.lookup y≠_;rw[k];decide)] at q;exact q
 ·exact e0.hok.fresh (Nat.le_of_lt (x.above y c (Br h)))
 ·unfold start;show _=N.length;rw[Bc,Ae,Eo];omega
theorem ydt {CX:CXT}{P:Program}{w:World}{K:PySem.W.Frag}{mg:Str->Option Value}{base:Heap}{k:Nat}{f:Addr}{name qual:Str}{params:Arguments}{body:List Stmt}{scope:Scope}{dV kV doc pm cdv ct oc:Value}{an od:Option Addr}
  {osl:Array (Option Value)}{N ps:List Str}{sp:Sp} (lk:K.lookup f=some ⟨oc,od,.func (PySem.W.fnOf name qual params body scope dV kV doc pm an cdv ct),osl⟩) (hcd:PySem.W.codeIn K cdv qual=true) (S:FnScope N ps scope)
  (len:∀vs H Q E,sp vs H Q E->vs.length=ps.length)
  (hbody:∀(A:Around) (outer:List Env) (s:Shared) (H:Hp) (vs:List V) (Q:VK) (E:XK),(Room k (A.deeper (envOfC qual scope s.heap.objs.size f cdv))/\Room (k+1) A)->sp vs H Q E ->
   ∃t,PSs (cxOf CX P w K mg base N qual scope f cdv A outer s H E) body t/\t { nx:=λ_ H'=>Q .non H',rt:=Q } (start N vs) H) :
  FnOk P w K mg base CX (k+1) f (PySem.W.fnOf name qual params body scope dV kV doc pm an cdv ct) ps sp:=by
 refine ⟨len,λA outer s H args us vs Q E hr e0 hb r hsp=>?_⟩;have hl:=len _ _ _ _ hsp;have KX:K.In s.heap:=e0.mod.kin.keeps λb o e=>(e0.bs b o e).1;have lim:s.heap.NoLimit:=e0.mod.nolimit.keeps λb o e=>(e0.bs b o e).1;have hkind:∀y∈ps.zip us,scope.names.lookup y.1=some .local\/#v[2,13]:=λ⟨n,v⟩ hy=>by
  rcases S.par n (Dx hy).1 with q|q
  ·exact .inl q
  ·exact .inr ⟨q,Fu _ _ _ (.inl q)⟩
 refine codeAny_call_function hr.depth (KX _ _ lk) rfl S.co S.gen rfl (PySem.W.codeRec_of KX hcd) (hb _ _ _ _ ?_);refine wpAny_newFunctionEnv_cells S.kind hkind λenv he s1 x=>?_;subst he;refine ⟨lim.keeps x.toInCall.keep,codeAny_func ?_⟩;obtain ⟨t,ht,hq⟩:=hbody A outer s H vs Q E ⟨hr.deeper _,hr⟩ hsp;have I:Inv (cxOf CX P w K mg base N qual scope f cdv A outer s H E) [] (start N vs) H s1:=zmg S hr.hd e0 hl r x;refine Cj (ht [] s1 (start N vs) H _ I hq) (λfl s' hs=>?_) λe s' hs=>hs;have fin:∀{σ':St}{H':Hp}{v:V}{u:Value},Inv (cxOf CX P w K mg base N qual scope f cdv A outer s H E) [] σ' H' s'->RelV v u->Q v H'->CE outer P w H s Q u s' :=
  λ{σ' H' v u} J rv q=>⟨v,H',J.os,J.bare,J.base,J.hok,rv,q⟩
 cases fl with
 | ret u =>
  obtain⟨v,σ',H',J,rv,q⟩:=hs;exact fin J rv q
 | next =>
  obtain⟨σ',H',J,q⟩:=hs;exact fin (v:=V.non) (u:=Value.none) J rfl q
 | brk =>
  obtain⟨_,_,_,q⟩:=hs;exact False.elim q
 | cont =>
  obtain⟨_,_,_,q⟩:=hs;exact False.elim q
section
variable {X:Cx}{x:Str}{p pos:Pos}{e:Expr}{es:List Expr}{t:TA}{id T:String}{r:List V->Hp->VK->Prop}
noncomputable def tCB (r:List V->Hp->VK->Prop) (t:TA):TE:=λσ H Q=>t σ H λvs H1=>r vs H1 Q
theorem zbe (hc:zcb X (.builtin id) r) (hg:Gl X x) (hm:X.mg x=none) (hv:bootBuiltins x=some (.builtin id)) (ha:PA X (e::es) t) (hn:x≠"__name__" := by decide) (hdb:(x==("__debug__" : Str))=false:=by decide)
  (he:starEach (e::es) X.env=(false,eval e X.env)::starEach es X.env:=by rfl) (hpl:(backTo pos (starEach es X.env)).any (·.1)=false:=by rfl):PE X (.Call (.Name x p) (e::es) [] pos) (tCB r t):=by
 intro pins s σ H Q I h;refine Fz (zem I hg hm hv ?_ hn hdb);exact PyProof.Rows.callWith_builtin1 (thn (ha pos pins s σ H _ I h) λus s1 ⟨vs,H1,I1,r1,q1⟩=>hc pins s1 σ H1 vs us Q I1 r1 q1) he hpl
theorem zfb (hc:zcb X (.type T) r) (hg:Gl X x) (hm:X.mg x=none) (hv:bootBuiltins x=some (.type T)) (ha:PA X (e::es) t) (hn:x≠"__name__" := by decide) (hdb:(x==("__debug__" : Str))=false:=by decide)
  (he:starEach (e::es) X.env=(false,eval e X.env)::starEach es X.env:=by rfl) (hpl:(backTo pos (starEach es X.env)).any (·.1)=false:=by rfl):PE X (.Call (.Name x p) (e::es) [] pos) (tCB r t):=by
 intro pins s σ H Q I h;refine Fz (zem I hg hm hv ?_ hn hdb);exact Db (thn (ha pos pins s σ H _ I h) λus s1 ⟨vs,H1,I1,r1,q1⟩=>hc pins s1 σ H1 vs us Q I1 r1 q1) he hpl
end
end L2
namespace HT
open PySem PyProof.Rows
section
open PySem.SeqAt
open PySem.AutoSeq1 (wpAny_loadPart')
open PySem.MeetsSeq PySem.MeetsSeq2 PySem.MeetsSeq3
end
section
variable {prog:Program}{w:World}{A:Around}{E:Value->Shared->Prop}{s:Shared}
theorem cat_tup {t b:Addr}{vs ws:List Value}{Q:Value->Shared->Prop} (ht:IsTup s.heap t vs.toArray) (hb:IsTup s.heap b ws.toArray) (hv:vs≠[])
  (h1:ws=[]->Q (.ref t) s) (h2:ws≠[]->Q (.ref s.heap.objs.size) { s with heap:=s.heap.push { cls:=.type "tuple",data:=.seq (vs++ws).toArray } })
  (hsz:vs.length+ws.length<=sizeLine):wpAny (model prog w) A (binaryOp .Add (.ref t) (.ref b)) Q E s:=by
 obtain⟨⟨cls,dd,data,sl⟩,ho,hc,n,hd⟩:=id ht;obtain⟨⟨cls2,dd2,data2,sl2⟩,ho2,hc2,n2,hd2⟩:=id hb;simp only at hc hd hc2 hd2;subst hc hd hc2 hd2;have e:vs.toArray++ws.toArray=(vs++ws).toArray:=by simp
 by_cases hw:ws=[]
 ·exact concat_meets ⟨_,ho,rfl⟩ ⟨_,ho2,rfl⟩ noFill_tuple_add seq_tuple_add PySem.F.slot_tuple_add PySem.F.entry_tuple_add (Hd _ _)
   (tuple_addW1 t b vs.toArray ws.toArray n n2 dd dd2 sl sl2 (by simpa using hv) (by simp [hw])) ⟨ho,ho2,h1 hw⟩
 ·refine concat_meets ⟨_,ho,rfl⟩ ⟨_,ho2,rfl⟩ noFill_tuple_add seq_tuple_add PySem.F.slot_tuple_add PySem.F.entry_tuple_add (Hd _ _)
   (tuple_addW2 t b vs.toArray ws.toArray n n2 dd dd2 sl sl2 (by simpa using hv) (by simpa using hw) (by rw[Ah,Ah];exact hsz)) ⟨ho,ho2,?_⟩
  rw[e];exact h2 hw
noncomputable def sIx (n d:Nat):Option Int->Nat
 |none=>d
 |some v=>if v<0 then (v+(n:Int)).toNat else min v.toNat n
theorem sIx_nat (n d k:Nat):sIx n d (some (k:Int))=min k n:=by
 show (if (k:Int)<0 then ((k:Int)+(n:Int)).toNat else min (k:Int).toNat n)=min k n;rw[if_neg #v[],Es]
theorem ybw (n d:Nat) (hd:d<=n) (o:Option Int):sIx n d o<=n:=by
 cases o with
 |none=>exact hd
 | some v =>
  show (if v<0 then (v+(n:Int)).toNat else min v.toNat n)<=n;by_cases hv:v<0
  ·rw[if_pos hv];omega
  ·rw[if_neg hv];exact Nat.min_le_right _ _
theorem zyx (v:Int)(n d:Nat):(if v<0 then max (v+(n:Int)) 0 else min v (n:Int))=((sIx n d (some v):Nat):Int):=by
 show (if v<0 then max (v+(n:Int)) 0 else min v (n:Int))=(((if v<0 then (v+(n:Int)).toNat else min v.toNat n):Nat):Int);by_cases hv:v<0
 ·simp only [if_pos hv];omega
 ·simp only [if_neg hv];omega
theorem zsm (lo hi:Option Int)(n:Nat):Builtin.Slice.sliceAdjust lo hi 1 (n:Int)=(((sIx n 0 lo:Nat):Int),((sIx n n hi:Nat):Int)):=by
 have h1:¬ ((1:Int)<0):=by omega
 unfold Builtin.Slice.sliceAdjust;simp only [h1,Fe];refine Prod.ext ?_ ?_
 ·cases lo with
  |none=>rfl
  |some v=>exact zyx v n 0
 ·cases hi with
  |none=>rfl
  |some v=>exact zyx v n n
theorem zte (i j:Nat):Builtin.Slice.slicePlaces (i:Int) (j:Int) 1=j-i:=by
 unfold Builtin.Slice.slicePlaces;have h1:(1:Int) > 0:=by omega
 simp only [h1,Fi,Int.ediv_one];split<;>omega
theorem zjb {v:Value}{o:Option Int}{Q:Option Int->Shared->Prop}(p:IsPart v o)(h:Q o s):wpAny (model prog w) A (Builtin.Slice.slicePartIndex v) Q E s:=by
 cases p with
 |none=>exact slicePart_none h
 |int i t=>exact slicePart_int h
theorem zdp {sl:Addr}{vl vu:Value}{lo hi:Option Int}{n:Nat}{Q:Int×Int×Nat->Shared->Prop} (hs:s.heap.IsSliceOf sl vl vu .none) (pl:IsPart vl lo) (pu:IsPart vu hi)
  (h:Q (((sIx n 0 lo:Nat):Int),1,sIx n n hi-sIx n 0 lo) s):wpAny (model prog w) A (Builtin.Slice.sliceApplied (.ref sl) (pure (n:Int))) Q E s:=by
 obtain⟨os,hos,hcs,hds⟩:=id hs;unfold Builtin.Slice.sliceApplied Builtin.Slice.sliceFields;refine Aa (Aa (Cv hos hds (x:=vl) rfl (Aa (Cv hos hds (x:=vu) rfl (Aa (Cv hos hds (x:=.none) rfl (Ag ?_)))))));refine Aa (slicePart_none ?_);show wpAny _ _ (if ((1:Int)==0)=true then _ else _) _ _ s;rw[if_neg #v[0,9]];refine Aa (zjb pl (Aa (zjb pu (Aa (Ag ?_)))));show wpAny _ _ (match Builtin.Slice.sliceAdjust lo hi 1 (n:Int) with|(lo,hi)=>pure (lo,(1:Int),Builtin.Slice.slicePlaces lo hi 1)) _ _ s;rw[zsm lo hi n];show wpAny _ _ (pure (((sIx n 0 lo:Nat):Int),(1:Int),Builtin.Slice.slicePlaces ((sIx n 0 lo:Nat):Int) ((sIx n n hi:Nat):Int) 1)) _ _ s;rw[zte];exact Ag h
theorem zzo (xs:Array Value)(i k:Nat):((List.range k).filterMap λ(m:Nat)=>xs[((i:Int)+(m:Int)*1).toNat]?).toArray=((xs.toList.drop i).take k).toArray:=by
 have e:(λ(m:Nat)=>xs[((i:Int)+(m:Int)*1).toNat]?)=λm=>xs[i+m]?:=by
  funext m
  have:((i:Int)+(m:Int)*1).toNat=i+m:=by omega
  rw[this]
 rw[e];have:=pick_run xs i k;rw[List.filterMap_map] at this;have e2:((λx=>xs[x]?) ∘ λx=>i+x)=λm=>xs[i+m]?:=rfl;rw[e2] at this;rw[this]
theorem getItem_tuple_cut {t sl:Addr}{items:Array Value}{vl vu:Value}{lo hi:Option Int}{Q:Value->Shared->Prop} (ht:IsTup s.heap t items) (hs:s.heap.IsSliceOf sl vl vu .none) (pl:IsPart vl lo) (pu:IsPart vu hi)
  (hw:¬ (sIx items.size 0 lo=0/\sIx items.size items.size hi=items.size))
  (h:Q (.ref s.heap.objs.size) { s with heap:=s.heap.push { cls:=.type "tuple",data:=.seq ((items.toList.drop (sIx items.size 0 lo)).take (sIx items.size items.size hi-sIx items.size 0 lo)).toArray } })
  (hsz:items.size<=sizeLine):wpAny (model prog w) A (getItem (.ref t) (.ref sl)) Q E s:=by
 have htake:sizeOk (.seq ((items.toList.drop (sIx items.size 0 lo)).take (sIx items.size items.size hi-sIx items.size 0 lo)).toArray):=by
  show ((items.toList.drop (sIx items.size 0 lo)).take (sIx items.size items.size hi-sIx items.size 0 lo)).toArray.size<=sizeLine;rw[Ah,Ee,Gc,Bx];omega
 have hj:sIx items.size items.size hi<=items.size:=ybw _ _ (Af _) hi;obtain⟨os,hos,hcs,hds⟩:=id hs;have hTs:s.TypeIs (.ref sl) "slice" := ⟨os,hos,hcs⟩;unfold getItem
 try with_reducible refine Bw ?_
 first|refine Aa (Ag ?_)|skip
 refine Aa (wpAny_sequenceKey ht.typeIs #v[0,9] ?_);refine Aa (Dd (name:=Str.ofString "__getitem__") ht.typeIs Eb
  (Ej Eb ht.typeIs entry_tuple_getitem ?_ (args_tuple_getitem _ _)))
 show wpAny _ _ (Builtin.Tuple.tupleItemsOf (.ref t)>>=_) _ _ s;refine Aa (tupleItemsOf_ ht ?_);refine Aa (wpAny_typeOf hTs ?_);rw[if_pos #v[0,9]];refine Aa (zdp hs pl pu ?_);have hno:¬ ((((sIx items.size 0 lo:Nat):Int)==0&&(1:Int)==1&&(sIx items.size items.size hi-sIx items.size 0 lo)==items.size)=true):=by
  intro q;rw[Ad,Ad] at q;have q1:((sIx items.size 0 lo:Nat):Int)=0:=Bj q.1.1;have q2:sIx items.size items.size hi-sIx items.size 0 lo=items.size:=Bj q.2;exact hw ⟨by omega,by omega⟩
 show wpAny _ _ (if (((sIx items.size 0 lo:Nat):Int)==0&&(1:Int)==1&&(sIx items.size items.size hi-sIx items.size 0 lo)==items.size)=true then _ else _) _ _ s;rw[if_neg hno,zzo]
 first
  |exact Aa (m:=Builtin.Tuple.tupleExact _) (Dj (Ag ⟨_,rfl,Ag h⟩) htake)
  |exact Aa (m:=Builtin.Tuple.tupleExact _) (Dj (Aa (Ag (Ag ⟨_,rfl,Ag h⟩))) htake)
  |exact Aa (Aa (m:=Builtin.Tuple.tupleExact _) (Dj (Ag (Ag ⟨_,rfl,Ag h⟩)) htake))
  |exact Aa (Aa (m:=Builtin.Tuple.tupleExact _) (Dj (Ag ⟨_,rfl,Ag h⟩) htake))
end
end HT
namespace L2
open PySem PySem.Spec PyProof.Rows
abbrev TO:=St->Hp->(Option Int->Hp->Prop)->Prop
noncomputable def PO (X:Cx) (e:Option Expr) (t:TO):Prop :=
 ∀(pins:List (Addr×Obj)) (s:Shared) (σ:St) (H:Hp) (Q:Option Int->Hp->Prop),Inv X pins σ H s->t σ H Q ->
  wpAny #v[1,7] X.A (evalPart e X.env) (λu s'=>∃o H',Inv X pins σ H' s'/\IsPart u o/\Q o H') X.xe s
noncomputable def zuj:TO:=λ_ H Q=>Q none H
noncomputable def z8e (t:TE):TO:=λσ H Q=>t σ H λx H1=>∃i,x=.int i/\Q (some i) H1
section
variable {X:Cx}{e:Expr}{te:TE}{lo hi:Option Expr}{tl th:TO}{pos p2:Pos}
theorem z5j:PO X none zuj:=by
 intro pins s σ H Q I h;rw[evalPart_none];exact Ag ⟨none,H,I,.none,h⟩
theorem z5d (h:PE X e te):PO X (some e) (z8e te):=by
 intro pins s σ H Q I hw;rw[evalPart_some];refine thn (h pins s σ H _ I hw) λu s1 ⟨x,H1,I1,r1,q1⟩=>?_;obtain⟨i,rfl,q⟩:=q1;obtain⟨t,rfl⟩:=r1;exact⟨some i,H1,I1,.int i t,q⟩
noncomputable def SlR (X:Cx) (r:V->Option Int->Option Int->Hp->VK->Prop):Prop :=
 ∀(pins:List (Addr×Obj)) (s:Shared) (σ:St) (H:Hp) (x:V) (v vl vu:Value) (lo hi:Option Int) (sl:Addr) (Q:VK),Inv X pins σ H s->RelV x v->s.heap.IsSliceOf sl vl vu .none->IsPart vl lo->IsPart vu hi->r x lo hi H Q ->
  ∃T id,typeLookup (.type T) "__getitem__" = pure (some (.builtin id))/\s.TypeIs v T/\wpAny #v[1,7] X.A (getItem v (.ref sl)) (EP X pins σ Q) X.xe s
theorem SlR.or {r r':V->Option Int->Option Int->Hp->VK->Prop}(h:SlR X r)(h':SlR X r'):SlR X (λx lo hi H Q=>r x lo hi H Q\/r' x lo hi H Q):=by
 intro pins s σ H x v vl vu lo hi sl Q I rx hs pl pu q;rcases q with q|q
 ·exact h pins s σ H x v vl vu lo hi sl Q I rx hs pl pu q
 ·exact h' pins s σ H x v vl vu lo hi sl Q I rx hs pl pu q
noncomputable def tSl (r:V->Option Int->Option Int->Hp->VK->Prop) (te:TE) (tl th:TO):TE:=λσ H Q=>te σ H λx H1=>tl σ H1 λl H2=>th σ H2 λu H3=>r x l u H3 Q
theorem zy9 {r:V->Option Int->Option Int->Hp->VK->Prop}(hr:SlR X r)(he:PE X e te)(hl:PO X lo tl)(hu:PO X hi th):PE X (.Subscript e (.Slice lo hi none p2) pos) (tSl r te tl th):=by
 intro pins s σ H Q I h;refine Subscript_ (thn (he pins s σ H _ I h) λv s1 ⟨x,H1,I1,r1,q1⟩=>?_);refine wpAny_Slice (thn (hl pins s1 σ H1 _ I1 q1) λvl s2 ⟨l,H2,I2,pl,q2⟩=>thn (hu pins s2 σ H2 _ I2 q2) λvu s3 ⟨u,H3,I3,pu,q3⟩=>?_);rw[evalPart_none];refine Ag ?_;have I4:Inv X pins σ H3 { s3 with heap:=s3.heap.push { cls:=.type "slice",data:=.fields #[vl,vu,.none] } }:=I3.kept (t':=s3.toks) λb ob q=>Ab _ q;obtain⟨T,id,hT,ht,hg⟩:=hr pins { s3 with heap:=s3.heap.push { cls:=.type "slice",data:=.fields #[vl,vu,.none] } } σ H3 x v vl vu l u s3.heap.objs.size Q I4 r1 (Heap.IsSliceOf.new ..) pl pu q3;show wpAny #v[1,7] X.A (subscriptTail e (.Slice lo hi none p2) v (.ref s3.heap.objs.size)) (EP X pins σ Q) X.xe { s3 with heap:=s3.heap.push { cls:=.type "slice",data:=.fields #[vl,vu,.none] } };exact tail_any (ops:=[.ref s3.heap.objs.size,v]) ht hT hg (by with_unfolding_all rfl)
def cutV (xs:List V) (lo hi:Option Int):List V:=(xs.drop (HT.sIx xs.length 0 lo)).take (HT.sIx xs.length xs.length hi-HT.sIx xs.length 0 lo)
theorem zhq (xs:List V)(lo hi:Option Int):(cutV xs lo hi).length<=xs.length:=by
 unfold cutV;rw[Ee,Gc];omega
def rSlT (K:PySem.W.Frag):V->Option Int->Option Int->Hp->VK->Prop:=λx lo hi H Q=>∃a xs,x=.ref a/\SqT K H a xs /\
 ¬ (HT.sIx xs.length 0 lo=0/\HT.sIx xs.length xs.length hi=xs.length)/\∀p,H p=none->Q (.ref p) (upd H p (.tup (cutV xs lo hi)))
theorem yb1:SlR X (rSlT X.K):=by
 intro pins s σ H x v vl vu lo hi sl Q I rx hs pl pu h;obtain⟨a,xs,rfl,hx,hw,q⟩:=h;cases rx;obtain⟨its,r,ht,hz⟩:=I.tuple hx;have hlen:its.toArray.size=xs.length:=by rw[Ah];exact r.length.symm
 refine⟨"tuple",_,PyProof.Rows.slot_tuple_getitem.lookup,ht.typeIs,?_⟩;refine HT.getItem_tuple_cut ht hs pl pu (by rw[hlen];exact hw) ?_ (by rw[hlen];exact hz);rw[hlen];refine⟨.ref s.heap.objs.size,_,I.laid (t':=s.toks) (o:=.tup (cutV xs lo hi)) (λb ob q=>Ab _ q) (Af _) ?_,rfl,q _ (I.hok.fresh (Af _))⟩;exact⟨Cf (zhq xs lo hi) hz,_,(r.drop (HT.sIx xs.length 0 lo)).take (HT.sIx xs.length xs.length hi-HT.sIx xs.length 0 lo),IsTup.new _ _⟩
def yae (K:PySem.W.Frag):R2:=λx y H Q=>∃a b xs ys,x=.ref a/\y=.ref b/\SqT K H a xs/\SqT K H b ys/\xs≠[]/\xs.length+ys.length<=sizeLine /\
 (ys=[]->Q (.ref a) H)/\(ys≠[]->∀p,H p=none->Q (.ref p) (upd H p (.tup (xs++ys))))
theorem Vals.nil_iff {xs:List V}{us:List Value}(r:Vals xs us):us=[]↔xs=[]:=by
 cases r with
 |nil=>simp
 |cons _ _=>simp
theorem z4h:OpR X (binaryOp .Add) (yae X.K):=by
 intro pins s σ H x y v u Q I rx ry h;obtain⟨a,b,xs,ys,rfl,rfl,ha,hb,hx,hz,q1,q2⟩:=h;cases rx;cases ry;obtain⟨its,r1,p1,_⟩:=I.tuple ha;obtain⟨its2,r2,p2,_⟩:=I.tuple hb;refine HT.cat_tup p1 p2 (λz=>hx (r1.nil_iff.mp z)) (λz=>⟨.ref a,H,I,rfl,q1 (r2.nil_iff.mp z)⟩) (λz=>?_) (by rw[<-r1.length,<-r2.length];exact hz);refine⟨.ref s.heap.objs.size,_,I.laid (t':=s.toks) (o:=.tup (xs++ys)) (λb ob q=>Ab _ q) (Af _) ?_,rfl,q2 (λw=>z (r2.nil_iff.mpr w)) _ (I.hok.fresh (Af _))⟩;exact⟨by rw[Bc];exact hz,_,r1.append r2,IsTup.new _ _⟩
end
noncomputable def ixN (n:Nat) (i:Int):Option Nat:=if 0<=i then (if i<n then some i.toNat else none) else if -(n:Int)<=i then some (i+n).toNat else none
def atI {α:Type} (xs:List α) (i:Int):Option α:=(ixN xs.length i).bind λj=>xs[j]?
theorem ztw {n:Nat}{i:Int}{j:Nat}(h:ixN n i=some j):seqIndex? i n=some j/\j<n/\-(n:Int)<=i/\i<n:=by
 unfold ixN at h;by_cases h0:0<=i
 ·rw[if_pos h0] at h;by_cases h1:i<n
  ·rw[if_pos h1] at h;have e:i.toNat=j:=sI h;exact⟨by rw[seqIndex_of h0 h1,e],by omega,by omega,h1⟩
  ·rw[if_neg h1] at h;cases h
 ·rw[if_neg h0] at h;by_cases h1:-(n:Int)<=i
  ·rw[if_pos h1] at h;have e:(i+n).toNat=j:=sI h;exact⟨by rw[seqIndex_neg #v[] h1,e],by omega,h1,by omega⟩
  ·rw[if_neg h1] at h;cases h
theorem zx3 {α:Type}{xs:List α}{i:Int}{v:α} (h:atI xs i=some v):∃j,seqIndex? i xs.length=some j/\xs[j]?=some v/\j<xs.length/\-(xs.length:Int)<=i/\i<xs.length:=by
 unfold atI at h;cases e:ixN xs.length i with
 |none=>rw[e] at h;cases h
 | some j =>
  rw[e] at h;obtain⟨h1,h2,h3,h4⟩:=ztw e;exact⟨j,h1,h,h2,h3,h4⟩
theorem z4r {α:Type}{xs:List α}{j:Nat}{v:α}(h:xs[j]?=some v):atI xs (j:Int)=some v:=by
 have hj:j<xs.length:=(Ak.mp h).1;have e:ixN xs.length (j:Int)=some j:=by
  unfold ixN;rw[if_pos #v[],if_pos #v[]];simp
 unfold atI;rw[e];exact h
def zua (b:Expr):Prop:=∀o i,subscripted b false o i=operate [o,i] (getItem o i)
noncomputable def IxR (X:Cx) (r:R2):Prop :=
 ∀(value slice:Expr) (pins:List (Addr×Obj)) (s:Shared) (σ:St) (H:Hp) (x y:V) (v u:Value) (Q:VK),Inv X pins σ H s->RelV x v->RelV y u->r x y H Q ->
  subscripted slice false v u=operate [v,u] (getItem v u)->wpAny #v[1,7] X.A (subscriptTail value slice v u) (EP X pins σ Q) X.xe s
noncomputable def MtR (X:Cx) (id:String) (r:V->List V->Hp->VK->Prop):Prop :=
 ∀(pins:List (Addr×Obj)) (s:Shared) (σ:St) (H:Hp) (x:V) (xs:List V) (v:Value) (us:List Value) (Q:VK),Inv X pins σ H s->RelV x v->Vals xs us->r x xs H Q ->
  wpAny #v[1,7] X.A (call (.builtin id) (v::us)) (EP X pins σ Q) X.xe s
section
variable {X:Cx}{a b:Expr}{ta tb:TE}{pos:Pos}
theorem IxR.or {r r':R2}(h:IxR X r)(h':IxR X r'):IxR X (λx y H Q=>r x y H Q\/r' x y H Q):=by
 intro value slice pins s σ H x y v u Q I rx ry q hs;rcases q with q|q
 ·exact h value slice pins s σ H x y v u Q I rx ry q hs
 ·exact h' value slice pins s σ H x y v u Q I rx ry q hs
theorem ycx {r:R2}(hr:IxR X r)(ha:PE X a ta)(hb:PE X b tb)(hs:zua b):PE X (.Subscript a b pos) (tOp r ta tb):=by
 intro pins s σ H Q I h;exact Subscript_ (binT ha hb I h λv u s2 x y H2 I2 rx ry q=>hr a b pins s2 σ H2 x y v u Q I2 rx ry q (hs _ _))
noncomputable def rIxL (K:PySem.W.Frag):R2:=λx y H Q=>∃p xs i v,x=.ref p/\y=.int i/\SqL K H p xs/\atI xs i=some v/\Q v H
noncomputable def rIxT (K:PySem.W.Frag):R2:=λx y H Q=>∃p xs i v,x=.ref p/\y=.int i/\SqT K H p xs/\atI xs i=some v/\Q v H
theorem z6b:IxR X (rIxL X.K):=by
 intro value slice pins s σ H x y v u Q I rx ry h hs;nofun;obtain⟨p,xs,i,z,rfl,rfl,hq,he,q⟩:=h;ac_rfl;cases rx;nofun;obtain⟨t,rfl⟩:=ry;obtain⟨its,r,pl,hz⟩:=I.list hq;obtain⟨j,h1,h2,h3,h4,h5⟩:=zx3 he;obtain⟨w,ew,rw'⟩:=r.get h2;ac_rfl;have hl:=r.length;have hn:=zr1;have fin:EP X pins σ Q w s:=⟨z,H,I,rw',q⟩;by_cases h0:0<=i
 ·have hj:i.toNat=j:=by
   rw[seqIndex_of h0 h5] at h1;exact sI h1
  exact item_listR pl.isList h0 #v[] (by rw[hj];simpa using ew) fin hs
 ·have hj:(i+(its.toArray.size:Int)).toNat=j:=by
   rw[seqIndex_neg #v[] h4] at h1;rw[Ah,<-hl];exact sI h1
  exact subscriptTail_builtinR (x:=w) pl.isList.typeIs slot_list_getitem.lookup
   (wpAny_getItem_list_neg (Q:=λr s'=>r=w/\EP X pins σ Q r s') pl.isList #v[] (by rw[Ah]<;>omega) #v[] (by rw[hj];simpa using ew) ⟨rfl,fin⟩) hs
theorem z83:IxR X (rIxT X.K):=by
 intro value slice pins s σ H x y v u Q I rx ry h hs;obtain⟨p,xs,i,z,rfl,rfl,hq,he,q⟩:=h;cases rx;obtain⟨t,rfl⟩:=ry;obtain⟨its,r,pl,hz⟩:=I.tuple hq;obtain⟨j,h1,h2,h3,h4,h5⟩:=zx3 he;obtain⟨w,ew,rw'⟩:=r.get h2;have hl:=r.length;have hn:=zr1;have fin:EP X pins σ Q w s:=⟨z,H,I,rw',q⟩;exact subscriptTail_builtinR (x:=w) pl.typeIs slot_tuple_getitem.lookup
  (getItem_tuple (j:=j) (Q:=λr s'=>r=w/\EP X pins σ Q r s') pl #v[] #v[] (by rw[Ah,<-hl];exact h1) (by simpa using ew) ⟨rfl,fin⟩) hs
theorem zti (its:List Value)(n j:Nat)(u:Value):Obj.mapSeq (·.setIfInBounds j u) { cls:=.type "list",data:=.seq its.toArray n }={ cls:=.type "list",data:=.seq (its.set j u).toArray n }:=by
 simp [Obj.mapSeq]
theorem Inv.lst {pins:List (Addr×Obj)}{σ:St}{H:Hp}{s:Shared}{p:Addr}{xs:List V} (I:Inv X pins σ H s) (h:H p=some (.lst xs)) :
  ∃(its:List Value) (n:Nat),Vals xs its/\s.heap.get? p=some { cls:=.type "list",data:=.seq its.toArray n }/\xs.length<=sizeLine:=by
 nofun;obtain⟨z,its,n,r,e⟩:=I.hok p _ h;ac_rfl;exact⟨its,n,r,e,z⟩
theorem Inv.lstUpd {pins:List (Addr×Obj)}{σ:St}{H:Hp}{s:Shared}{p:Addr}{xs ys:List V}{its its':List Value}{n n':Nat}{f:Obj->Obj} (I:Inv X pins σ H s) (h:H p=some (.lst xs))
  (ho:s.heap.get? p=some { cls:=.type "list",data:=.seq its.toArray n }) (hf:f { cls:=.type "list",data:=.seq its.toArray n }={ cls:=.type "list",data:=.seq its'.toArray n' }) (r:Vals ys its') (hz:ys.length<=sizeLine) (t:Nat) :
  Inv X pins σ (upd H p (.lst ys)) { s with heap:=s.heap.update p f,toks:=t }:=by
 have e:(s.heap.update p f).get? p=some { cls:=.type "list",data:=.seq its'.toArray n' }:=by
  rw[Gr f ho (by rw[hf]<;>rfl),hf]
 refine I.write (x:=p) (e:=p) (by rw[h];trivial) (.inl rfl) (λb u hb q=>(Dk _ _ (Ne.symm hb)).trans q) ⟨_,e⟩ ?_;exact⟨hz,its',n',r,e⟩
def z84:V->V->V->Hp->(Hp->Prop)->Prop:=λo i v H Q=>∃p xs k j,o=.ref p/\i=.int k/\H p=some (.lst xs)/\ixN xs.length k=some j/\Q (upd H p (.lst (xs.set j v)))
theorem zzq:PSet X z84:=by
 intro pins s σ H o i v ov iv u Q I ro ri rv h;nofun;obtain⟨p,xs,k,j,rfl,rfl,hp,hj,q⟩:=h;ac_rfl;cases ro;nofun;obtain⟨t,rfl⟩:=ri;obtain⟨its,n,r,ho,hz⟩:=I.lst hp;obtain⟨h1,h2,h3,h4⟩:=ztw hj;ac_rfl;have hl:=r.length;have hn:=zr1;have I':Inv X pins σ (upd H p (.lst (xs.set j v))) { s with heap:=s.heap.update p (Obj.mapSeq (·.setIfInBounds j u)) } :=
  I.lstUpd hp ho (zti its n j u) (r.set rv j) (by rw[Ek];exact hz) s.toks
 by_cases h0:0<=k
 ·have hk:k.toNat=j:=by
   rw[seqIndex_of h0 h4] at h1;exact sI h1
  exact PySem.W.ki_setAt ho h0 #v[] (by rw[Ah,<-hl];exact h4) (by rw[hk];exact⟨_,I',q⟩)
 ·have hk:(k+(its.toArray.size:Int)).toNat=j:=by
   rw[seqIndex_neg #v[] h3] at h1;rw[Ah,<-hl];exact sI h1
  exact PySem.W.ki_setBack ho #v[] (by rw[Ah,<-hl];exact h3) #v[] (by rw[hk];exact⟨_,I',q⟩)
theorem znk (lo hi:Option Int) (n:Nat):(sliceBounds lo hi none n).1=((HT.sIx n 0 lo:Nat):Int)/\(sliceBounds lo hi none n).2.1=((HT.sIx n n hi:Nat):Int)/\(sliceBounds lo hi none n).2.2=1:=by
 refine⟨?_,?_,rfl⟩
 ·cases lo with
  |none=>simp [sliceBounds,HT.sIx]
  | some i =>
   simp only [sliceBounds,HT.sIx,Option.getD_none,show (1:Int) > 0 by decide,Fi];by_cases h:i<0
   ·simp only [h,Fi]<;>omega
   ·simp only [h,Fe]<;>omega
 ·cases hi with
  |none=>simp [sliceBounds,HT.sIx]
  | some i =>
   simp only [sliceBounds,HT.sIx,Option.getD_none,show (1:Int) > 0 by decide,Fi];by_cases h:i<0
   ·simp only [h,Fi]<;>omega
   ·simp only [h,Fe]<;>omega
theorem zkl (its:List Value)(lo hi:Option Int):slicePick its.toArray lo hi none=((its.drop (HT.sIx its.length 0 lo)).take (HT.sIx its.length its.length hi-HT.sIx its.length 0 lo)).toArray:=by
 obtain⟨h1,h2,h3⟩:=znk lo hi its.toArray.size;unfold slicePick;rw[h1,h2,h3];simp only [sliceRange_one,pick_run,Ah]<;>rfl
def rSlL (K:PySem.W.Frag):V->Option Int->Option Int->Hp->VK->Prop:=λx lo hi H Q=>∃a xs,x=.ref a/\SqL K H a xs/\∀p,H p=none->Q (.ref p) (upd H p (.lst (cutV xs lo hi)))
theorem z6a:SlR X (rSlL X.K):=by
 intro pins s σ H x v vl vu lo hi sl Q I rx hs pl pu h;obtain⟨a,xs,rfl,hx,q⟩:=h;cases rx;obtain⟨its,r,ht,hz⟩:=I.list hx;have hlen:=r.length;refine⟨"list",_,slot_list_getitem.lookup,ht.isList.typeIs,?_⟩;refine wpAny_getItem_list_slice ht.isList hs pl pu .none (by simp) ?_ (by rw[Ah]<;>omega);rw[zkl,<-hlen];refine⟨.ref s.heap.objs.size,_,I.laid (t':=s.toks) (o:=.lst (cutV xs lo hi)) (λb ob q=>Ab _ q) (Af _) ?_,rfl,q _ (I.hok.fresh (Af _))⟩;exact⟨Cf (zhq xs lo hi) hz,_,0,(r.drop (HT.sIx xs.length 0 lo)).take (HT.sIx xs.length xs.length hi-HT.sIx xs.length 0 lo),An _ rfl⟩
noncomputable def zid:V->Bool
 |.non=>true
 |.bl _=>true
 |.int _=>true
 |.str _=>true
 |_=>false
noncomputable def eqV:V->V->Bool
 |.non,.non=>true
 |.bl a,.bl b=>a==b
 |.bl a,.int b=>(if a then 1 else 0)==b
 |.int a,.bl b=>a==(if b then 1 else 0)
 |.int a,.int b=>a==b
 |.str a,.str b=>a==b
 |_,_=>false
theorem z8k {A:Around}{s:Shared}{y x:V}{u v:Value} (ry:RelV y u) (rx:RelV x v) (fy:zid y=true) (fx:zid x=true):SeqAt.EqAt A s u v (eqV y x):=by
 cases y with
 | non =>
  cases ry;cases x with
  |non=>cases rx;exact SeqAt.EqAt.same _
  |bl b=>cases rx;exact SeqAt.EqAt.none_bool b
  |int b=>obtain⟨t,rfl⟩:=rx;exact SeqAt.EqAt.none_int b t
  |str b=>obtain⟨t,rfl⟩:=rx;exact SeqAt.EqAt.none_str b t
  |_=>exact absurd (show false=true from fx) Ar
 | bl a =>
  cases ry;cases x with
  |non=>cases rx;exact SeqAt.EqAt.bool_none a
  |bl b=>cases rx;exact SeqAt.EqAt.bool_bool a b
  |int b=>obtain⟨t,rfl⟩:=rx;exact SeqAt.EqAt.bool_int a b t
  |str b=>obtain⟨t,rfl⟩:=rx;exact SeqAt.EqAt.bool_str a b t
  |_=>exact absurd (show false=true from fx) Ar
 | int a =>
  obtain⟨t',rfl⟩:=ry;cases x with
  |non=>cases rx;exact SeqAt.EqAt.int_none a t'
  |bl b=>cases rx;exact SeqAt.EqAt.int_bool a t' b
  |int b=>obtain⟨t,rfl⟩:=rx;exact SeqAt.EqAt.int_int a t' b t
  |str b=>obtain⟨t,rfl⟩:=rx;exact SeqAt.EqAt.int_str a t' b t
  |_=>exact absurd (show false=true from fx) Ar
 | str a =>
  obtain⟨t',rfl⟩:=ry;cases x with
  |non=>cases rx;exact SeqAt.EqAt.str_none a t'
  |bl b=>cases rx;exact SeqAt.EqAt.str_bool a t' b
  |int b=>obtain⟨t,rfl⟩:=rx;exact SeqAt.EqAt.str_int a t' b t
  |str b=>obtain⟨t,rfl⟩:=rx;exact SeqAt.EqAt.str_str a t' b t
  |_=>exact absurd (show false=true from fx) Ar
 |_=>exact absurd (show false=true from fy) Ar
def eqU (x:V) (u:Value):Bool:=match u with
 |.none=>eqV .non x
 |.bool b=>eqV (.bl b) x
 |.int i _=>eqV (.int i) x
 |.str z _=>eqV (.str z) x
 |_=>false
theorem z3s {x y:V}{u:Value}(r:RelV y u)(f:zid y=true):eqU x u=eqV y x:=by
 cases y with
 |non=>cases r;rfl
 |bl b=>cases r;rfl
 |int i=>obtain⟨t,rfl⟩:=r;rfl
 |str z=>obtain⟨t,rfl⟩:=r;rfl
 |_=>exact absurd (show false=true from f) Ar
theorem zho {x:V}:∀{xs:List V}{us:List Value},Vals xs us->xs.all zid=true->us.any (eqU x)=xs.any λy=>eqV y x
 |_,_,.nil,_=>rfl
 | y::xs,u::us,.cons r t,f=>by
  rw[Bp,Ad] at f;rw[Fg,Fg,z3s r f.1,zho t f.2]
theorem ze5 {A:Around}{s:Shared}{x:V}{v:Value} (rx:RelV x v) (fx:zid x=true):∀{xs:List V}{us:List Value},Vals xs us->xs.all zid=true->∀u∈us,SeqAt.EqAt A s u v (eqU x u)
 |_,_,.nil,_=>λu hu=>by cases hu
 | y::xs,u::us,.cons r t,f=>λu' hu=>by
  rw[Bp,Ad] at f;rcases Ap.mp hu with rfl|hu
  ·rw[z3s r f.1];exact z8k r rx f.1 fx
  ·exact ze5 rx fx t f.2 u' hu
def inV (x:V) (xs:List V):Bool:=xs.any λy=>eqV y x
def rIn (K:PySem.W.Frag) (neg:Bool):R2:=λx y H Q=>∃p xs,y=.ref p/\(SqL K H p xs\/SqT K H p xs)/\zid x=true/\xs.all zid=true/\Q (.bl (if neg then !inV x xs else inV x xs)) H
theorem znn:OpR X (compareOp .In) (rIn X.K false):=by
 intro pins s σ H x y v u Q I rx ry h;obtain⟨p,xs,rfl,hq,fx,fs,q⟩:=h;cases ry;rcases hq with hq|hq
 ·obtain⟨its,r,pl,hz⟩:=I.list hq;refine SeqAt.in_listAt (eqU x) pl.isList (λw hw=>ze5 rx fx r fs w (by simpa using hw)) ⟨.bl _,H,I,rfl,?_⟩;rw[show its.toArray.any (eqU x)=its.any (eqU x) by simp,zho r fs];exact q
 ·obtain⟨its,r,pl,hz⟩:=I.tuple hq;refine SeqAt.in_tupleAt (eqU x) pl (λw hw=>ze5 rx fx r fs w (by simpa using hw)) ⟨.bl _,H,I,rfl,?_⟩;rw[show its.toArray.any (eqU x)=its.any (eqU x) by simp,zho r fs];exact q
theorem zf6:OpR X (compareOp .NotIn) (rIn X.K true):=by
 intro pins s σ H x y v u Q I rx ry h;obtain⟨p,xs,rfl,hq,fx,fs,q⟩:=h;cases ry;rcases hq with hq|hq
 ·obtain⟨its,r,pl,hz⟩:=I.list hq;refine SeqAt.notIn_listAt (eqU x) pl.isList (λw hw=>ze5 rx fx r fs w (by simpa using hw)) ⟨.bl _,H,I,rfl,?_⟩;rw[show its.toArray.any (eqU x)=its.any (eqU x) by simp,zho r fs];exact q
 ·obtain⟨its,r,pl,hz⟩:=I.tuple hq;refine SeqAt.notIn_tupleAt (eqU x) pl (λw hw=>ze5 rx fx r fs w (by simpa using hw)) ⟨.bl _,H,I,rfl,?_⟩;rw[show its.toArray.any (eqU x)=its.any (eqU x) by simp,zho r fs];exact q
theorem znx:zcb X (.builtin "len") (λxs H Q=>∃p ys,xs=[.ref p]/\(SqL X.K H p ys\/SqT X.K H p ys)/\Q (.int ys.length) H):=by
 intro pins s σ H xs us Q I r h;obtain⟨p,ys,rfl,hq,q⟩:=h;obtain⟨u,rfl,rx⟩:=vals1 r;cases rx;have hn:=zr1;rcases hq with hq|hq
 ·obtain⟨its,r', pl,hz⟩:=I.list hq;have hlen:=r'.length;exact Calls.call_len_list pl.isList (by simp only [Ah]<;>omega) ⟨.int ys.length,H,I.tok _,⟨s.toks+1,by rw[Ah,hlen]⟩,q⟩
 ·obtain⟨its,r', pl,hz⟩:=I.tuple hq;have hlen:=r'.length;exact len_tuple pl (by simp only [Ah]<;>omega) ⟨.int ys.length,H,I.tok _,⟨s.toks+1,by rw[Ah,hlen]⟩,q⟩
theorem zcb.or {f:Value}{r r':List V->Hp->VK->Prop}(h:zcb X f r)(h':zcb X f r'):zcb X f (λxs H Q=>r xs H Q\/r' xs H Q):=by
 intro pins s σ H xs us Q I rs q;rcases q with q|q
 ·exact h pins s σ H xs us Q I rs q
 ·exact h' pins s σ H xs us Q I rs q
theorem zf7:zcb X (.type "list") (λxs H Q=>∃p ys,xs=[.ref p]/\(SqL X.K H p ys\/SqT X.K H p ys)/\∀l,H l=none->Q (.ref l) (upd H l (.lst ys))):=by
 intro pins s σ H xs us Q I r h;obtain ⟨p,ys,rfl,hq,q⟩:=h;obtain ⟨u,rfl,rx⟩:=vals1 r;cases rx;have fin:∀(its:List Value),Vals ys its->ys.length<=sizeLine->∀(h':Heap) (c':Nat),(∀b o',s.heap.get? b=some o'->h'.get? b=some o') ->
   h'.get? s.heap.objs.size=some { cls:=.type "list",dict:=none,data:=.seq its.toArray c',slots:=#[] }->EP X pins σ Q (.ref s.heap.objs.size) { s with heap:=h' }:=λits r' hz h' c' kp e =>
  ⟨.ref s.heap.objs.size,_,I.laid (t':=s.toks) kp (Af _) (show zaz X.prog X.w _ h' _ (.lst ys) from ⟨hz,its,c',r',e⟩),rfl,q _ (I.hok.fresh (Af _))⟩
 rcases hq with hq|hq
 ·obtain⟨its,r', pl,hz⟩:=I.list hq;have hlen:=r'.length;obtain⟨o,ho,hc,n,hd⟩:=pl.isList;exact call_list_seq p (.inl rfl) ho hc hd (λh' c' kp e=>fin its r' hz h' c' kp e) (by simp only [Ah]<;>omega)
 ·obtain⟨its,r', pl,hz⟩:=I.tuple hq;have hlen:=r'.length;obtain⟨o,ho,hc,n,hd⟩:=pl;exact call_list_seq p (.inr rfl) ho hc hd (λh' c' kp e=>fin its r' hz h' c' kp e) (by simp only [Ah]<;>omega)
theorem zkj:zcb X (.type "tuple") (λxs H Q=>∃p ys,xs=[.ref p]/\((SqL X.K H p ys/\∀l,H l=none->Q (.ref l) (upd H l (.tup ys)))\/(SqT X.K H p ys/\Q (.ref p) H))):=by
 intro pins s σ H xs us Q I r h;obtain⟨p,ys,rfl,h⟩:=h;obtain⟨u,rfl,rx⟩:=vals1 r;cases rx;rcases h with⟨hq,q⟩|⟨hq,q⟩
 ·obtain ⟨its,r', pl,hz⟩:=I.list hq;have hlen:=r'.length;refine call_tuple_list pl.isList (λh' kp=>?_) (by simp only [Ah]<;>omega);have I1:Inv X pins σ H { s with heap:=h' }:=I.kept (t':=s.toks) kp;have I2:Inv X pins σ (upd H h'.objs.size (.tup ys)) { s with heap:=h'.push { cls:=.type "tuple",data:=.seq its.toArray } } :=
   I1.laid (t':=s.toks) (λb o e=>Ab _ e) (Af _) (show zaz X.prog X.w _ _ _ (.tup ys) from ⟨hz,its,r',IsTup.new _ _⟩)
  exact⟨.ref h'.objs.size,_,I2,rfl,q _ (I1.hok.fresh (Af _))⟩
 ·obtain⟨its,r', pl,hz⟩:=I.tuple hq;exact call_tuple_same pl ⟨.ref p,H,I,rfl,q⟩
noncomputable def tyV (K:PySem.W.Frag) (T:String) (x:V) (H:Hp):Prop:=match x with
 |.str _=>T = "str"
 |.int _=>T = "int"
 | .ref p=>(T = "list"/\∃xs,SqL K H p xs)\/(T = "tuple"/\∃o,K.lookup p=some o/\o.cls=.type "tuple"/\o.dict=none) \/
  (T = "dict"/\((∃kvs,H p=some (.dK kvs))\/∃kvs,H p=some (.dT kvs)))\/(T = "set"/\∃S n,H p=some (.set S n))
 |_=>False
theorem z3g {pins:List (Addr×Obj)}{σ:St}{H:Hp}{s:Shared}{T:String}{x:V}{v:Value} (I:Inv X pins σ H s) (r:RelV x v) (ty:tyV X.K T x H) :
  s.TypeIs v T/\∀a,v=.ref a->∃ob,s.heap.get? a=some ob/\ob.dict=none:=by
 cases x with
 | str z =>
  obtain⟨t,rfl⟩:=r;cases (show T = "str" from ty);exact⟨typeIs_str s z t,λ_ e=>nomatch e⟩
 | int i =>
  obtain⟨t,rfl⟩:=r;cases (show T = "int" from ty);exact⟨typeIs_int s i t,λ_ e=>nomatch e⟩
 | ref p =>
  cases r;rcases ty with⟨rfl,xs,hq⟩|⟨rfl,o,hk,hc,hd⟩|⟨rfl,hk⟩|⟨rfl,S,n,hk⟩
  ·obtain ⟨its,_,pl,_⟩:=I.list hq
   refine⟨pl.isList.typeIs,λa e=>?_⟩;cases e;obtain⟨o,n,e,c,hd,_⟩:=pl;exact⟨o,e,hd⟩
  ·refine ⟨⟨o,I.kIn p o hk,hc⟩,λa e => ?_⟩
   cases e;exact⟨o,I.kIn _ o hk,hd⟩
  ·have z:∃o,s.heap.get? p=some o/\o.ExactDict:=by
    rcases hk with⟨kvs,hk⟩|⟨kvs,hk⟩
    ·obtain ⟨_,_,_,_,o,_,_,e,ex,_⟩:=I.hok p _ hk
     exact⟨o,e,ex⟩
    ·obtain ⟨_,_,_,_,o,_,_,e,ex,_⟩:=I.hok p _ hk
     exact⟨o,e,ex⟩
   obtain⟨o,e,ex⟩:=z;refine⟨⟨o,e,ex.1⟩,λa e2=>?_⟩;cases e2;exact⟨o,e,ex.2.1⟩
  ·obtain ⟨o,_,_,_,e,ex,_⟩:=I.hok p _ hk
   refine⟨⟨o,e,ex.1⟩,λa e2=>?_⟩;cases e2;exact⟨o,e,ex.2.1⟩
 |_=>exact False.elim ty
noncomputable def tBM0 (K:PySem.W.Frag) (T:String) (r:V->List V->Hp->VK->Prop) (to:TE):TE:=λσ H Q=>to σ H λx H1=>tyV K T x H1/\r x [] H1 Q
noncomputable def tBM (K:PySem.W.Frag) (T:String) (r:V->List V->Hp->VK->Prop) (to:TE) (t:TA):TE:=λσ H Q=>to σ H λx H1=>tyV K T x H1/\t σ H1 λxs H2=>r x xs H2 Q
variable {o e:Expr}{es:List Expr}{to:TE}{t:TA}{name:Str}{apos cpos:Pos}{T id:String}{r:V->List V->Hp->VK->Prop}
theorem z8j (pa:PlainAttrs T) (slot:Slot T name id) (hty:typeOf (.builtin id)=pure (.type "method_descriptor")) (hm:MtR X id r) (ho:PE X o to)
  (hbase:attributeBase o name X.env (eval o X.env)=eval o X.env:=by rfl) (hline:(apos.endLine==cpos.line)=true:=by rfl):PE X (.Call (.Attribute o name apos) [] [] cpos) (tBM0 X.K T r to):=by
 intro pins s σ H Q I h;refine wpAny_Call_method0_late hbase hline (thn (ho pins s σ H _ I h) λv s1 ⟨x,H1,I1,r1,ty,q1⟩=>?_);obtain⟨h1,h2⟩:=z3g I1 r1 ty;exact⟨T,id,pa,slot,hty,h1,h2,Calls.callWith_builtin rfl (PySem.evalArgs_none (hm pins s1 σ H1 x [] v [] Q I1 r1 .nil q1))⟩
theorem z9e (pa:PlainAttrs T) (slot:Slot T name id) (hty:typeOf (.builtin id)=pure (.type "method_descriptor")) (hm:MtR X id r) (ho:PE X o to) (ha:PA X (e::es) t)
  (hbase:attributeBase o name X.env (eval o X.env)=eval o X.env:=by rfl)
  (hfew:((backTo cpos (starEach (e::es) X.env)).all (λx=>!x.1)&&(backToKw cpos (keywordEach [] X.env)).all (λx=>x.1.isSome)
   && decide ((e::es).length+([]:List Keyword).length+(if ([]:List Keyword).isEmpty then 0 else 1)<30))=true:=by rfl)
  (hline:(apos.endLine==cpos.line)=true:=by rfl) (hs:starEach (e::es) X.env=(false,eval e X.env)::starEach es X.env:=by rfl) (hplain:(backTo cpos (starEach es X.env)).any (·.1)=false:=by rfl) :
  PE X (.Call (.Attribute o name apos) (e::es) [] cpos) (tBM X.K T r to t):=by
 intro pins s σ H Q I h;refine wpAny_Call_method_late hbase hfew hline rfl (thn (ho pins s σ H _ I h) λv s1 ⟨x,H1,I1,r1,ty,q1⟩=>?_);obtain⟨h1,h2⟩:=z3g I1 r1 ty;refine⟨T,id,pa,slot,hty,h1,h2,?_⟩;have hA:=ha cpos pins s1 σ H1 _ I1 q1;rw[hs] at hA ⊢;refine Calls.callWith_builtin (by show (false||(backTo cpos (starEach es X.env)).any (·.1))=false;rw[hplain]<;>rfl) (Calls.evalArgs_plain ?_);exact thn hA λus s2 ⟨vs,H2,I2,r2,q2⟩=>hm pins s2 σ H2 x vs v us Q I2 r1 r2 q2
end
noncomputable def MtM (X:Cx) (id:String) (r:V->List V->Hp->VK->Prop):Prop :=
 ∀(pins:List (Addr×Obj)) (s:Shared) (σ:St) (H:Hp) (x:V) (xs:List V) (v:Value) (us:List Value) (Q:VK),Inv X pins σ H s->RelV x v->Vals xs us->r x xs H Q ->
  wpAny #v[1,7] X.A (call (.builtin id) (v::us)) (EP X pins σ Q) X.xe s
theorem Vals.one:∀{x:V}{us:List Value},Vals [x] us->∃u,us=[u]/\RelV x u
 |_,_,.cons r .nil=>⟨_,rfl,r⟩
theorem Vals.rep {xs:List V}{us:List Value} (h:Vals xs us):∀k:Nat,Vals (List.replicate k xs).flatten (List.replicate k us).flatten
 |0=>.nil
 | k+1=>by
  rw[Cp,Cp,Ea,Ea];exact Vals.append h (Vals.rep h k)
theorem znv (its:List Value):∀(k:Nat) (acc:List Value),
  List.foldl (λx1 x2=>x1++x2) acc.toArray (List.replicate k its.toArray)=(acc++(List.replicate k its).flatten).toArray
 |0,acc=>by simp
 | k+1,acc=>by
  have e:acc.toArray++its.toArray=(acc++its).toArray:=by simp
  have e2:(acc++its)++(List.replicate k its).flatten=acc++(List.replicate (k+1) its).flatten:=by
   rw[Cp,Ea,Ba]
  rw[<-e2,<-znv its k (acc++its),<-e,Cp,List.foldl_cons]
section
variable {X:Cx}{pins:List (Addr × Obj)}{σ:St}{H:Hp}{s:Shared}{l b:Addr}{xs ys zs:List V}
theorem Inv.lset {its its':List Value}{n:Nat}{f:Array Value->Array Value}{t':Nat} (I:Inv X pins σ H s) (hH:H l=some (.lst xs))
  (e:s.heap.get? l=some { cls:=.type "list",data:=.seq its.toArray n }) (hf:f its.toArray=its'.toArray) (hv:Vals ys its') (hz:ys.length<=sizeLine) :
  Inv X pins σ (upd H l (.lst ys)) { s with heap:=s.heap.update l (Obj.mapSeq f),toks:=t' }:=by
 have q:=PySem.IsL.update e f;rw[hf] at q;refine I.write (x:=l) (e:=l) (by rw[hH];exact trivial) (.inl rfl) (λb' u hb hu=>(Dk s.heap (Obj.mapSeq f) (Ne.symm hb)).trans hu) ⟨_,q⟩ ?_;exact⟨hz,its',_,hv,q⟩
theorem Inv.lnew {its:List Value}{t':Nat} (I:Inv X pins σ H s) (hv:Vals ys its) (hz:ys.length<=sizeLine) :
  Inv X pins σ (upd H s.heap.objs.size (.lst ys)) { s with heap:=s.heap.push { cls:=.type "list",data:=.seq its.toArray },toks:=t' } :=
 I.laid (λ_ _ q=>Ab _ q) (Af _) ⟨hz,its,0,hv,An _ rfl⟩
theorem Inv.fresh (I:Inv X pins σ H s):H s.heap.objs.size=none:=I.hok.fresh (Af _)
theorem Inv.lstM (I:Inv X pins σ H s)(hH:H l=some (.lst xs)):xs.length<=sizeLine/\∃(its:List Value) (n:Nat),Vals xs its/\xs.length=its.length/\s.heap.get? l=some { cls:=.type "list",data:=.seq its.toArray n }:=by
 nofun;obtain⟨z,its,n,r,e⟩:=I.hok l _ hH;ac_rfl;exact⟨z,its,n,r,r.length,e⟩
theorem zk0 {n:Nat}(h:n<=sizeLine):Builtin.List.listTooLong n=false:=by
 unfold Builtin.List.listTooLong;exact Ay #v[]
end
section
variable {X:Cx}
def zub:V->List V->Hp->VK->Prop:=λx vs H Q=>∃l xs y,x=.ref l/\vs=[y]/\H l=some (.lst xs)/\xs.length<sizeLine/\Q .non (upd H l (.lst (xs++[y])))
theorem zmu:MtM X "list.append" zub:=by
 intro pins s σ H x vs v us Q I rx rv h;obtain⟨l,xs,y,rfl,rfl,hH,hz,q⟩:=h;cases rx;obtain⟨u,rfl,ru⟩:=rv.one;obtain⟨z,its,n,r,hl,e⟩:=I.lstM hH;refine call_meets F.slot_list_append ⟨_,e,rfl⟩ F.entry_list_append (F.args_list_append_2 _ _) (PySem.list_append l its.toArray n u (by rw[Ah];omega)) ⟨e,?_⟩;refine⟨.non,_,I.lset (its':=its++[u]) hH e (by simp) (r.append (.cons ru .nil)) ?_,rfl,q⟩;rw[Bc,List.length_singleton];omega
def z5h:V->List V->Hp->VK->Prop:=λx vs H Q=>∃l b xs zs,x=.ref l/\vs=[.ref b]/\H l=some (.lst xs)/\H b=some (.lst zs)/\xs.length+zs.length<=sizeLine/\Q .non (upd H l (.lst (xs++zs)))
theorem ya1:MtM X "list.extend" z5h:=by
 intro pins s σ H x vs v us Q I rx rv h;nofun;obtain⟨l,b,xs,zs,rfl,rfl,hH,hB,hz,q⟩:=h;ac_rfl;cases rx;obtain⟨u,rfl,ru⟩:=rv.one;cases ru;nofun;obtain⟨z,its,n,r,hl,e⟩:=I.lstM hH;obtain⟨z2,its2,n2,r2,hl2,e2⟩:=I.lstM hB;ac_rfl;have hsz:its.toArray.size+its2.toArray.size<=sizeLine:=by rw[Ah,Ah];omega
 have hlong:¬ (!its.toArray.isEmpty&&Builtin.List.listTooLong (its.toArray.size+its2.toArray.size))=true:=by
  rw[zk0 hsz,Gz];exact Ar
 refine call_meets F.slot_list_extend ⟨_,e,rfl⟩ F.entry_list_extend (F.args_list_extend_2 _ _)
  (AutoSeq1.list_extend_list_list_0 l its.toArray n b its2.toArray n2 hlong (by rw[Ah];omega) #v[]) ⟨e,e2,?_⟩
 refine⟨.non,_,I.lset (its':=its++its2) hH e (by simp) (r.append r2) ?_,rfl,q⟩;rw[Bc];omega
def rCat:R2:=λx y H Q=>∃l b xs zs,x=.ref l/\y=.ref b/\H l=some (.lst xs)/\H b=some (.lst zs)/\xs.length+zs.length<=sizeLine/\∀p,H p=none->Q (.ref p) (upd H p (.lst (xs++zs)))
theorem z8w:OpR X (binaryOp .Add) rCat:=by
 intro pins s σ H x y v u Q I rx ry h;nofun;obtain⟨l,b,xs,zs,rfl,rfl,hH,hB,hz,q⟩:=h;ac_rfl;cases rx;cases ry;nofun;obtain⟨z,its,n,r,hl,e⟩:=I.lstM hH;obtain⟨z2,its2,n2,r2,hl2,e2⟩:=I.lstM hB;ac_rfl;refine PySem.P.add_list e e2 ?_ (by rw[Ah,Ah];omega);have ea:its.toArray++its2.toArray=(its++its2).toArray:=by simp
 rw[ea];exact⟨.ref _,_,I.lnew (t':=s.toks) (r.append r2) (by rw[Bc];omega),rfl,q _ I.fresh⟩
def rRep:R2:=λx y H Q=>∃l k xs,x=.ref l/\y=.int k/\H l=some (.lst xs)/\-(2^63)<=k/\k<2^63/\xs.length*k.toNat<=sizeLine /\
 ∀p,H p=none->Q (.ref p) (upd H p (.lst (List.replicate k.toNat xs).flatten))
theorem z48 {α:Type}(xs:List α)(k:Nat):(List.replicate k xs).flatten.length=k*xs.length:=by
 induction k with
 |zero=>simp
 |succ k ih=>rw[Cp,Ea,Bc,ih,Nat.succ_mul,Nat.add_comm]
theorem ybe:OpR X (binaryOp .Mult) rRep:=by
 intro pins s σ H x y v u Q I rx ry h;nofun;obtain⟨l,k,xs,rfl,rfl,hH,h1,h2,hz,q⟩:=h;ac_rfl;cases rx;nofun;obtain⟨t,rfl⟩:=ry;obtain⟨z,its,n,r,hl,e⟩:=I.lstM hH;ac_rfl;have hlen:its.toArray.size*k.toNat<=sizeLine:=by rw[Ah,<-hl];exact hz
 have hcap:¬ its.toArray.size*k.toNat > (2^63-1)/8:=by
  have:(sizeLine:Nat)<=(2^63-1)/8:=by decide
  omega
 have hfit:¬ (!Builtin.List.listFitsIndex k)=true:=by
  rw[fitsIndex_both h1 h2];exact Ar
 have hlong:¬ Builtin.List.listTooLong (its.toArray.size*k.toNat)=true:=by
  rw[zk0 hlen];exact Ar
 have hnew:List.foldl (λx1 x2=>x1++x2) #[] (List.replicate (if its.toArray.isEmpty=true then 0 else k.toNat) its.toArray)=(List.replicate k.toNat its).flatten.toArray:=by
  have f0:∀m:Nat,List.foldl (λx1 x2=>x1++x2) #[] (List.replicate m its.toArray)=(List.replicate m its).flatten.toArray:=λm=>by
   have:=znv its m [];rw[List.nil_append] at this;exact this
  rw[f0];cases its with
  |nil=>simp
  |cons a r'=>rw[if_neg (by simp)]
 refine wpAny_binaryOp_repeat_ref (T := "list") (U := "int") #v[0,9] ⟨_,e,rfl⟩ (λs'=>typeIs_int s' k t) noFill_list_mul F.fills_int_mul F.slot_int_rmul repeat_list F.slot_int_index.lookup
  (call_meets F.slot_int_rmul (typeIs_int s k t) F.entry_int_rmul (F.args_int_rmul_2 _ _) (int___rmul___int_list k t l its.toArray n)
   ⟨e,rfl,⟨_,e,rfl⟩,call_meets F.slot_list_mul ⟨_,e,rfl⟩ F.entry_list_mul (F.args_list_mul_2 _ _) (AutoListH.list___mul___list_int_3 l its.toArray n k t hfit hcap hlong) ⟨e,?_⟩⟩)
 rw[hnew];exact⟨.ref _,_,I.lnew (t':=s.toks) (r.rep k.toNat) (by rw[z48,Nat.mul_comm];exact hz),rfl,q _ I.fresh⟩
end
section
variable {prog:Program}{w:World}{A:Around}{E:Value->Shared->Prop}{s:Shared}
end
section
variable {X:Cx}
end
end L2
namespace Att
open PySem PySem.W PySem.Calls PyProof.Rows
theorem zhj {P:Params}{h:Heap}:∀(ns:List Int) (vs:List Value),WellAll P h vs (ns.map WData.int)->IntsAre vs ns:=by
 intro ns
 induction ns with
 | nil =>
  intro vs w;rw[List.map_nil] at w;cases w;exact .nil
 | cons n ns ih =>
  intro vs w;rw[Am] at w;cases w with
  | cons a b =>
   cases a;exact .cons _ _ (ih _ b)
theorem zwc {l:OpenLaw}{n:Nat} (hn:l.most=some n) {P:Params}{h:Heap}{args:List WData}{vals:List Value}
  (hpre:l.row.toRowW.claim.pre args=true) (hwl:WellAll P h vals args) :
  ∃a vs ns,vals=[Value.ref a]/\args=[WData.list (ns.map WData.int)]/\h.get? a=some { cls:=.type "list",data:=.seq vs.toArray }/\IntsAre vs ns/\ns.length<=n:=by
 have hsh:WShape.hasAll [] args [.list .int]=true:=(pre_splitW hpre).1;have hc:l.pre.holds [] { args:=args }=true:=(pre_splitW hpre).2;obtain ⟨d,r,rfl,h1,h2⟩:=hasAllW_cons hsh;obtain rfl:=hasAllW_nil h2;obtain ⟨xs,rfl,h3⟩:=hasW_list h1;obtain ⟨ns,rfl⟩:=items_int h3;have hlen:ns.length<=n:=by
  unfold OpenLaw.pre at hc;have h4:(WTm.not (.lt (.lit (.int (n:Int))) (.len (.arg 0)))).holds [] { args:=[.list (ns.map .int)] }=true:=by
   have h4:=(holds_andW hc).1;rw[hn] at h4;exact h4
  have h5:=condW_of h4 (w_not (w_lt w_lit (w_len_list (w_arg rfl))));rw[Ae] at h5;refine Nat.le_of_not_lt λq=>?_;have q':(n:Int)<((ns.length:Nat):Int):=by omega
  first
   |(rw[Aj q'] at h5;exact absurd h5 #v[0,9])
   |(simp at h5;omega)
 cases hwl with
 | cons w1 w2 =>
  cases w2;cases w1 with
  |list ho hall=>exact⟨_,_,ns,rfl,rfl,ho,zhj ns _ hall,hlen⟩
theorem zu1 (l:OpenLaw)(args:List WData):l.row.toRowW.claim.post args (.bool true) args=true :=
 postW_of (r:=l.row.toRowW) (X:=(true==true))
  (show WShape.has [] (.bool true) .bool=true by first|rfl|decide|simp [WShape.has,WShape.arms,WShape.armsAll])
  (show (WTm.eq .res (.lit (.bool true))).value [] { args:=args,res:=some (.bool true),after:=args }=some (.bool (true==true)) from w_eq_bool (w_res rfl) w_lit) rfl
theorem attach_call {l:OpenLaw}{n:Nat}{q:Program}{loose:List Str}{XP:(Str->Option Value)->Heap->Prop}{YP:World->Heap->Prop}{d:DefRec}
  (hn:l.most=some n) (hdf:d.params.defaults=[])
  (call:∀(w:World) (s₀ s₁:Shared) (mg mb:Str->Option Value) (fa:Addr) (o:Obj) (pm cd doc:Value) (a:Addr) (vs:List Value) (ns:List Int),
   Ground q loose [] XP w s₀ mg mb s₁.heap->YP w s₁.heap ->
   s₁.heap.get? fa=some o->o.data=.func (docDef d.name d.params d.body d.scope pm cd doc)->s₁.heap.CodeRec cd d.name->mg d.name=some (.ref fa) ->
   s₁.heap.get? a=some { cls:=.type "list",data:=.seq vs.toArray }->IntsAre vs ns->ns.length<=n->s₁.gens=#[] ->
   codeAny (model l.prog w) callerA (.call (.ref fa) ⟨[.ref a],[]⟩) (λr s'=>r=.ok (.ret (.bool true))/\OldK s₁.heap s'.heap/\s'.os=s₁.os/\AllBare s'.gens) s₁) :
  WalkO q loose XP YP l.row.toRowW d [] (λf vs=>PySem.call f vs):=by
 intro w s₀ s₁ mg mb G Y fa o pm cd doc dV kV ho hd hcd hD hmg hg args vals as hpre hlay hrd hwl hlo;obtain rfl:dV=.none:=Dflts.none hD hdf;obtain rfl:kV=.none:=Dflts.noKw hD;obtain⟨a,vs,ns,rfl,rfl,hobj,hints,hlen⟩:=zwc hn hpre hwl;refine enter_call (Hb (call w s₀ s₁ mg mb fa o pm cd doc a vs ns G Y ho (fd_plain hd) hcd hmg hobj hints hlen hg) λr s' hq=>?_);obtain⟨rfl,h2,h3,h4⟩:=hq;exact⟨.inl ⟨.bool true,.bool true,[],rfl,λ_=>rfl,.bool true,zu1 l _,λ_=>⟨List.Pairwise.nil,λ_ hm=>(nomatch hm)⟩⟩,h2,h3,h4⟩
section
variable {prog:Program}{w:World}{A:Around}{E:Value->Shared->Prop}{s:Shared}{K:Frag}
end
end Att
namespace L2
open PySem PySem.Spec PyProof.Rows
theorem zl8:∀{vs:List Value}{ns:List Int},IntsAre vs ns->Vals (ns.map V.int) vs
 |_,_,.nil=>.nil
 |_,_,.cons n t h=>.cons ⟨t,rfl⟩ (zl8 h)
noncomputable def zf0 (s:Stmt):Arguments:=match s with
 |.FunctionDef _ a _ _ _ _ _ _ _ _=>a
 |_=>{ posonlyargs:=[],args:=[],vararg:=none,kwonlyargs:=[],kw_defaults:=[],kwarg:=none,defaults:=[] }
noncomputable def zdx (s:Stmt):List Stmt:=match s with
 |.FunctionDef _ _ b _ _ _ _ _ _ _=>b
 |_=>[]
noncomputable def zaq (s:Stmt):Scope:=match s with
 |.FunctionDef _ _ _ _ _ _ sc _ _ _=>sc
 |_=>{ kind:=.function,names:=[],isGenerator:=false,isCoroutine:=false }
noncomputable abbrev CX0:CXT:=λ_ _ _ _ _ _=>False
noncomputable abbrev E0:XK:=λ_ _ _=>False
theorem ycr {X:Cx}:zt0 CX0 X E0:=λ_ _ _ _ _ _ _ h=>h.elim
structure Fun (K:PySem.W.Frag) (x qual:Str) (st:Stmt) (f:Addr) (fd:FuncData):Prop where
 ex:∃(oc:Value) (od:Option Addr) (kV doc pm:Value) (an:Option Addr) (cdv ct:Value) (osl:Array (Option Value)),
  fd=PySem.W.fnOf x qual (zf0 st) (zdx st) (zaq st) .none kV doc pm an cdv ct/\K.lookup f=some ⟨oc,od,.func fd,osl⟩/\PySem.W.codeIn K cdv qual=true
 kp:PySem.W.keepIn K (.ref f)=true
section
variable {P:Program}{w:World}{K:PySem.W.Frag}{mg:Str->Option Value}{base:Heap}
theorem Fun.binds {x qual:Str}{st:Stmt}{f:Addr}{fd:FuncData}{ps:List Str} (F:Fun K x qual st f fd)
  (h:∀(kV doc pm:Value) (an:Option Addr) (cdv ct:Value) (us:List Value),us.length=ps.length->bindArgs (PySem.W.fnOf x qual (zf0 st) (zdx st) (zaq st) .none kV doc pm an cdv ct) ⟨us,[]⟩=pure (ps.zip us)):zpo K fd ps []:=by
 obtain⟨oc,od,kV,doc,pm,an,cdv,ct,osl,rfl,lk,hcd⟩:=F.ex;exact .all (h kV doc pm an cdv ct)
theorem z23 {x qual:Str}{st:Stmt}{f:Addr}{oc:Value}{od an:Option Addr}{osl:Array (Option Value)}{kV doc pm cdv ct:Value} (l:K.lookup f=some ⟨oc,od,.func (PySem.W.fnOf x qual (zf0 st) (zdx st) (zaq st) .none kV doc pm an cdv ct),osl⟩)
 (c:PySem.W.codeIn K cdv qual=true) (k:PySem.W.keepIn K (.ref f)=true):Fun K x qual st f (PySem.W.fnOf x qual (zf0 st) (zdx st) (zaq st) .none kV doc pm an cdv ct):=⟨⟨oc,od,kV,doc,pm,an,cdv,ct,osl,rfl,l,c⟩,k⟩
end
section
variable {X:Cx}
theorem pv (i:Nat) {x:Str}{pos:Pos} (hN:X.N[i]?=some x:=by rfl) (hv:Vis X.env.scope x:=by first | exact Or.inl rfl | exact Or.inr (Or.inl rfl) | exact Or.inr (Or.inr rfl)) (hd:(x==("__debug__" : Str))=false:=by decide)
 (hcd:(x==("__classdict__" : Str))=false:=by decide):PE X (.Name x pos) (tVar i):=zrd hN hv hd hcd
end
theorem iteF {A B:Prop}(h:B):if false=true then A else B:=by
 rw[if_neg Ar];exact h
theorem iteT {A B:Prop}(h:A):if true=true then A else B:=by
 rw[if_pos rfl];exact h
def Same (H H':Hp):Prop:=∀b o,H b=some o->H' b=some o
theorem Same.refl (H:Hp):Same H H:=λ_ _ h=>h
theorem Same.trans {H H1 H2:Hp}(a:Same H H1)(b:Same H1 H2):Same H H2:=λc o h=>b c o (a c o h)
theorem Same.free {H H':Hp} (e:Same H H') {l:Addr} (h:H' l=Option.none):H l=Option.none:=by
 cases q:H l with
 |none=>rfl
 | some o =>
  rw[e l o q] at h;cases h
theorem Same.seq {K:PySem.W.Frag}{H H':Hp}{a:Addr}{xs:List V}(e:Same H H')(h:SqL K H a xs):SqL K H' a xs:=by
 rcases h with (h|⟨o,h⟩)|h
 ·exact .inl (.inl (e _ _ h))
 ·exact .inl (.inr ⟨o,e _ _ h⟩)
 ·exact .inr h
noncomputable def capSt (cap:List (Option Nat)) (σ:St):St:=cap.map λo=>match o with
 |some i=>(σ[i]?).getD none
 |none=>none
noncomputable def zig (cap:List (Option Nat)) (Nc N:List Str) (scope:Scope):Bool :=
 decide (cap.length=Nc.length)&&(cap.zip Nc).all λp=>match p.1 with
  |some i=>decide (N[i]?=some p.2)&&decide (scope.names.lookup p.2=some NameKind.free)
  |none=>true
theorem zt7 {cap Nc N scope}(h:zig cap Nc N scope=true):cap.length=Nc.length:=by
 unfold zig at h;rw[Ad] at h;exact At h.1
theorem zxp {cap:List (Option Nat)}{Nc N:List Str}{scope:Scope}(h:zig cap Nc N scope=true){j i:Nat}{x:Str}(h1:cap[j]?=some (some i))(h2:Nc[j]?=some x):N[i]?=some x/\scope.names.lookup x=some .free:=by
 unfold zig at h;rw[Ad] at h;have hm:(some i,x)∈cap.zip Nc:=by
  refine Bi (i:=j) ?_;rw[List.getElem?_zip_eq_some];exact⟨h1,h2⟩
 have q:=Bd.mp h.2 _ hm;simp only [Ad,Cq] at q;exact q
noncomputable def zh8 (scope:Scope) (out:Scope):Bool:=scope.names.all λp=>!(p.2==NameKind.free)||decide (out.names.lookup p.1=some .cell)||decide (out.names.lookup p.1=some .free)
theorem zfp {env:Env}:∀(names:List (Str × NameKind)) (acc:List (Str × Addr)),(∀x,(x,NameKind.free)∈names->∃c,env.cells.lookup x=some c)->(∀x c,acc.lookup x=some c->env.cells.lookup x=some c) ->
    ∃cl,(forIn names acc fun (p:Str × NameKind) cs=>if p.2 == NameKind.free then do let c <- cellOf env p.1;pure (ForInStep.yield ((p.1,c)::cs)) else pure (ForInStep.yield cs):Sem (List (Str × Addr)))=pure cl /\
      (∀x c,cl.lookup x=some c->env.cells.lookup x=some c)/\(∀x,(x,NameKind.free)∈names\/(∃c,acc.lookup x=some c)->∃c,cl.lookup x=some c)
  | [],acc,_,h2=>⟨acc,by rw [Ex],h2,fun x hx=>by
      rcases hx with hx|hx
      · cases hx
      · exact hx⟩
  | (n,k)::r,acc,h1,h2=>by
    rw[Gm];by_cases hk:(k == NameKind.free)=true
    · have ek : k = .free := by simpa using hk
      subst ek;obtain ⟨c,hc⟩:=h1 n Ax;have h2' : ∀x d,((n,c)::acc).lookup x=some d->env.cells.lookup x=some d:=fun x d hx=>by
        rw[Bh] at hx;cases e:x == n with
        | true => rw [e] at hx; obtain rfl := sI hx; have : x = n := by simpa using e
                  rw[this];exact hc
        |false=>rw[e] at hx;exact h2 x d hx
      obtain⟨cl,e,a,b⟩:=zfp r ((n,c)::acc) (λx hx=>h1 x (As _ hx)) h2';refine⟨cl,?_,a,λx hx=>b x ?_⟩
      · rw [<- e]
        have hcell:cellOf env n=pure c:=by unfold cellOf;rw[hc]
        simp only [beq_self_eq_true,Fi,hcell]
        rfl
      · have gen:∀y d,acc.lookup y=some d->∃d',((n,c)::acc).lookup y=some d':=fun y d hy=>by
          rw[Bh];cases e:y == n with
          |true=>exact⟨_,rfl⟩
          |false=>exact⟨d,hy⟩
        rcases hx with hx|⟨d,hx⟩
        · rcases Ap.mp hx with hx | hx
          · injection hx with hx _
            subst hx;exact .inr ⟨c,by rw[Bh];simp⟩
          · exact .inl hx
        · exact .inr (gen x d hx)
    · have hk' : (k == NameKind.free) = false := by simpa using hk
      obtain⟨cl,e,a,b⟩:=zfp r acc (λx hx=>h1 x (As _ hx)) h2;refine⟨cl,?_,a,λx hx=>b x ?_⟩
      · rw [<- e]
        simp only [hk',Cm,Fe]
        rfl
      · rcases hx with hx | hx
        · rcases Ap.mp hx with hx | hx
          · injection hx with _ hx
            subst hx;simp at hk'
          · exact .inl hx
        · exact .inr hx
theorem zdu {env:Env}{scope:Scope} (h:∀x,(x,NameKind.free)∈scope.names->∃c,env.cells.lookup x=some c) :
  ∃cl,closureFor scope env=pure cl/\(∀x c,cl.lookup x=some c->env.cells.lookup x=some c)/\(∀x,(x,NameKind.free)∈scope.names->∃c,cl.lookup x=some c):=by
 nofun;obtain⟨cl,e,a,b⟩:=zfp (env:=env) scope.names [] h (λx c hx=>by simp at hx);ac_rfl;refine⟨cl,?_,a,λx hx=>b x (.inl hx)⟩;rw[closureFor];have e':=e;simp only [bind_assoc,pure_bind] at e' ⊢;exact congrArg (λm=>m>>=λr=>pure r) e |>.trans (by rw[pure_bind])
noncomputable def zbc (X:Cx) (Nc:List Str) (scope:Scope) (cl:List (Str×Addr)) (C:Addr) (s3:Shared) (H3:Hp) (fp:List Addr):Cx where
 prog:=X.prog
 w:=X.w
 K:=X.K
 mg:=X.mg
 base:=X.base
 A:=X.A
 N:=Nc
 s₀:=s3
 H₀:=H3
 env:=compEnvC scope cl C X.env
 outer:=X.stack
 stack:=X.stack
 ex:=fp
 fn:=λx=>decide (scope.names.lookup x=some NameKind.cell)
 calm:=X.calm
 pn:=[]
 xe:=λ_ _=>False
noncomputable def z3b:TT:=λσ H Q=>Q true H
noncomputable def PTs (X:Cx) (ifs:List Expr) (t:TT):Prop :=
 ∀(pins:List (Addr×Obj)) (s:Shared) (σ:St) (H:Hp) (Q:Bool->Hp->Prop),Inv X pins σ H s->t σ H Q ->
  wpAny #v[1,7] X.A (forIn ifs true λc r=>if r=true then do let ok <- isTrue c X.env (eval c X.env);pure (ForInStep.yield ok) else pure (ForInStep.yield r)) (TP X pins σ Q) X.xe s
theorem z7l {X:Cx}:PTs X [] z3b:=λpins s σ H Q I h=>by
 rw[Ex];exact Ag ⟨H,I,h⟩
theorem z7g {X:Cx}{c:Expr}{t:TT}(h:PT X c t):PTs X [c] t:=λpins s σ H Q I q=>by
 rw[Gm];simp only [Fi];refine Aa (Aa (thn (h pins s σ H Q I q) λb s1 q1=>?_));refine Ag ?_;dsimp only;rw[Ex];exact Ag q1
section
variable {X:Cx}
theorem za7 {env:Env}:∀{names:List (Str×NameKind)}{x:Str},names.lookup x=some .free ->
  #v[8,7].lookup x=some .cell \/
  #v[8,7].lookup x=some .free
 |[],_,h=>by simp at h
 | (n,k)::r,x,h=>by
  have ih:=@za7 env r x;rw[Am];rw[Bh] at h;cases hx:x==n with
  | true =>
   rw[hx] at h;obtain rfl:=sI h;dsimp only;split
   ·rw[Bh,hx];exact .inl rfl
   ·rw[Bh,hx];exact .inr rfl
  | false =>
   rw[hx] at h;dsimp only;split
   ·rw[Bh,hx];exact ih h
   ·rw[Bh,hx];exact ih h
theorem zbn {env:Env}:∀{names:List (Str×NameKind)}{x:Str}{k:NameKind},(k=.cell\/k=.free) ->
  #v[8,7].lookup x=some k->names.lookup x=some .free\/names.lookup x=some .cell
 |[],_,_,_,h=>by simp at h
 | (n,k0)::r,x,k,hk,h=>by
  rw[Am] at h;rw[Bh];cases hx:x==n with
  | true =>
   dsimp only at h;split at h
   ·rename_i hc
    rw[Bh,hx] at h;simp only [Ad,beq_iff_eq] at hc;rw[hc.1.1];exact .inl rfl
   ·rw [Bh,hx] at h
    obtain rfl:=sI h;rcases hk with rfl|rfl
    ·exact .inr rfl
    ·exact .inl rfl
  | false =>
   dsimp only at h;split at h
   ·rw[Bh,hx] at h;exact zbn hk h
   ·rw[Bh,hx] at h;exact zbn hk h
theorem zeb {scope out:Scope}(h:zh8 scope out=true){x:Str}(hx:(x,NameKind.free)∈scope.names):out.names.lookup x=some .cell\/out.names.lookup x=some .free:=by
 have q:=Bd.mp h _ hx;simpa using q
theorem capSt_get {cap:List (Option Nat)}{σ:St}{j:Nat}{v:V} (h:(capSt cap σ)[j]?=some (some v)):∃i,cap[j]?=some (some i)/\σ[i]?=some (some v):=by
 unfold capSt at h;rw[Au] at h;cases e:cap[j]? with
 |none=>rw[e] at h;cases h
 | some o =>
  rw[e] at h;cases o with
  |none=>cases h
  | some i =>
   refine⟨i,rfl,?_⟩;have h':(σ[i]?).getD none=some v:=sI h;cases e2:σ[i]? with
   |none=>rw[e2] at h';cases h'
   |some z=>rw[e2] at h';exact congrArg some h'
theorem zbd {env:Env}:∀{names:List (Str×NameKind)}{x:Str}{k:NameKind},k≠.free->names.lookup x=some k ->
  #v[8,7].lookup x=some k
 |[],_,_,_,h=>by simp at h
 | (n,k0)::r,x,k,hk,h=>by
  have ih:=@zbd env r x k hk;rw[Am];rw[Bh] at h;cases hx:x==n with
  | true =>
   rw[hx] at h;obtain rfl:=sI h;have:(k0==NameKind.free)=false:=by cases k0<;>first|rfl|exact absurd rfl hk
   dsimp only;rw[this,Ey,Ey,if_neg Ar,Bh,hx]
  | false =>
   rw[hx] at h;dsimp only;split
   ·rw[Bh,hx];exact ih h
   ·rw[Bh,hx];exact ih h
noncomputable def zf5 (scope:Scope):Bool:=scope.names.all λp=>!(p.2==NameKind.cell)||decide (scope.names.lookup p.1=some .cell)
theorem zsw {scope:Scope}(h:zf5 scope=true){x:Str}(hx:(x,NameKind.cell)∈scope.names):scope.names.lookup x=some .cell:=by
 have q:=Bd.mp h _ hx;simpa using q
theorem zc4:∀(names:List (Str×NameKind)) (n:Nat) (acc:List (Str×Addr)),cellsFrom n names acc=cellsFrom n names []++acc
 |[],_,_=>rfl
 | (x,k)::r,n,acc=>by
  unfold cellsFrom;split
  ·rw[zc4 r (n+1) ((x,n)::acc),zc4 r (n+1) [(x,n)],Ba];rfl
  ·exact zc4 r n acc
theorem zht:∀(names:List (Str×NameKind)) (n:Nat) {x:Str}{c:Addr},(x,c)∈cellsFrom n names []->(x,NameKind.cell)∈names
 |[],_,_,_,h=>by cases h
 | (y,k)::r,n,x,c,h=>by
  unfold cellsFrom at h;split at h
  ·rename_i hk
   rw[zc4] at h;rcases Bq.mp h with h|h
   ·exact As _ (zht r _ h)
   ·have e:=Ao.mp h
    cases e;have:k=NameKind.cell:=by simpa using hk
    rw[this];exact Ax
  ·exact As _ (zht r _ h)
theorem cells_of {names:List (Str×NameKind)}{n:Nat}{cl:List (Str×Addr)}{x:Str}{c:Addr}(h:(cellsFrom n names cl).lookup x=some c):(cellsFrom n names []).lookup x=some c\/((cellsFrom n names []).lookup x=none/\cl.lookup x=some c):=by
 rw[zc4,List.lookup_append] at h;cases e:(cellsFrom n names []).lookup x with
 |some d=>rw[e] at h;exact .inl h
 |none=>rw[e] at h;exact .inr ⟨rfl,h⟩
theorem zjn {scope:Scope} (h:zf5 scope=true) {n:Nat}{cl:List (Str×Addr)}{x:Str}{c:Addr} (hx:scope.names.lookup x=some .free) (hc:cl.lookup x=some c):(cellsFrom n scope.names cl).lookup x=some c:=by
 rw[zc4,List.lookup_append];cases e:(cellsFrom n scope.names []).lookup x with
 |none=>exact hc
 | some d =>
  have:=zsw h (zht _ _ (Br e));rw[hx] at this;cases this
theorem z1b {pins:List (Addr×Obj)}{σ:St}{H3:Hp}{s3:Shared}{Nc:List Str}{scope:Scope}{cl:List (Str×Addr)}{cap:List (Option Nat)}{fp:List Addr}{h4:Heap}{tk:Nat}
  (I:Inv X pins σ H3 s3) (hk:scope.kind=.function) (hcap:zig cap Nc X.N scope=true) (hfr:zh8 scope X.env.scope=true) (hnc:zf5 scope=true)
  (c1:∀x c,cl.lookup x=some c->X.env.cells.lookup x=some c) (c2:∀x,(x,NameKind.free)∈scope.names->∃c,cl.lookup x=some c)
  (hf:∀b∈fp,FpOk X pins H3 b) (ho:∀b∈fp,b<s3.heap.objs.size)
  (hns:h4.Ns s3.heap.objs.size (λ_=>none)) (hkeep:∀b o,s3.heap.get? b=some o->h4.get? b=some o) (hcs:CellsOk h4 (s3.heap.objs.size+1) (cellsFrom (s3.heap.objs.size+1) scope.names [])) :
  Inv (zbc X Nc scope (cellsFrom (s3.heap.objs.size+1) scope.names cl) s3.heap.objs.size s3 H3 fp) [] (capSt cap σ) H3 { s3 with heap:=h4,toks:=tk }:=by
 have stkne:∀b∈fp,b ∉ frs X.stack:=λb hb z=>by
  obtain⟨_,g1,g2,_⟩:=hf b hb;rcases Ap.mp (I.stkSub b z) with e|e
  ·exact g1 e
  ·exact g2 e
 have own:∀x c,(cellsFrom (s3.heap.objs.size+1) scope.names []).lookup x=some c->h4.IsCell c none/\s3.heap.objs.size+1<=c:=λx c h=>hcs.empty x c (Br h);have old:∀x c,cl.lookup x=some c->c<s3.heap.objs.size:=λx c h=>by
  obtain⟨v,q⟩:=I.cell x c (c1 x c h);exact q.lt
 refine⟨⟨I.mod,hk,I.ok.glob,I.ok.blt,Af _,λx y c h1 h2=>?_,λx hx=>?_,λx c h h'=>?_,I.ok.hd,I.ok.frames,.inl rfl,λb hb=>⟨Az (ho b hb),λx c h=>?_⟩,
  λb o e=>I.bs b o e,Cf I.ok.bsz I.sz,λb o e hb=>?_,stkne,I.stack,I.stkFree⟩,rfl,I.bare,Un.kept hkeep,⟨_,hns,λj x v h1 h2 h3=>?_⟩,λx c h=>?_,I.hok.fresh (Af _),λx c h=>?_,λp hp=>absurd (show p∈([]:List (Addr×Obj)) from hp) (by simp),I.hok.kept hkeep,?_⟩
 ·rcases cells_of h1 with z1|⟨_,z1⟩
  ·rcases cells_of h2 with z2|⟨_,z2⟩
   ·exact name_of_addr hcs.apart (Br z1) (Br z2)
   ·have a:=(own x c z1).2;have b:=old y c z2;exact absurd (Bb b (Fw a)) (Bt _)
  ·rcases cells_of h2 with z2|⟨_,z2⟩
   ·have a:=(own y c z2).2;have b:=old x c z1;exact absurd (Bb b (Fw a)) (Bt _)
   ·exact I.ok.inj x y c (c1 x c z1) (c1 y c z2)
 ·have hx':scope.names.lookup x=some .free\/scope.names.lookup x=some .cell:=by
   rcases hx with hx|hx
   ·exact zbn (env:=X.env) (.inl rfl) hx
   ·exact zbn (env:=X.env) (.inr rfl) hx
  rcases hx' with hx'|hx'
  ·obtain⟨c,e⟩:=c2 x (Br hx');exact⟨c,zjn hnc hx' e⟩
  ·exact Ff.mp (Fu scope.names _ cl (.inl hx'))
 ·have hx:scope.names.lookup x=some .cell:=At h;rcases cells_of h' with z|⟨z,_⟩
  ·exact Fw (own x c z).2
  ·obtain⟨d,e⟩:=cell_has (n:=s3.heap.objs.size+1) hx;rw[z] at e;cases e
 ·rcases cells_of h with z|⟨_,z⟩
  ·have a:=(own x c z).2;have:=ho b hb;exact Ne.symm (Az (Bb this (Fw a)))
  ·exact (hf b hb).2.2.2.2.1 x c (c1 x c z)
 ·rcases (hf b hb).2.2.2.1 with z|z
  ·exact I.ok.noex b o e z
  ·have h1:b<X.base.objs.size:=Ai e;exact absurd (Bb h1 (Cf I.ok.bsz z)) (Bt _)
 ·obtain ⟨i,e1,e2⟩:=capSt_get h2;have hNx:Nc[j]?=some x:=h1;obtain ⟨n1,n2⟩:=zxp hcap e1 hNx;have vis:Vis X.env.scope x:=by
   rcases zeb hfr (Br n2) with z|z
   ·exact .inr (.inl z)
   ·exact .inr (.inr z)
  obtain⟨m,hn,hl⟩:=I.loc;obtain⟨u,r,l⟩:=hl i x v n1 e2 vis;refine⟨u,r,?_⟩;rcases l with⟨hk',_⟩|⟨_,c,e,z⟩
  ·have hk2:X.env.scope.names.lookup x=some .local:=hk';rcases zeb hfr (Br n2) with z|z
   ·rw[z] at hk2;cases hk2
   ·rw[z] at hk2;cases hk2
  ·obtain⟨c', e'⟩:=c2 x (Br n2);have:=c1 x c' e';rw[e] at this;obtain rfl:=sI this;refine .inr ⟨za7 (env:=X.env) n2,c,zjn hnc n2 e',?_⟩;obtain⟨o,ho',hd⟩:=z;exact⟨o,hkeep _ _ ho',hd⟩
 ·rcases cells_of h with z|⟨_,z⟩
  ·exact⟨none,(own x c z).1⟩
  ·obtain⟨v,o,ho', hd⟩:=I.cell x c (c1 x c z);exact⟨v,o,hkeep _ _ ho',hd⟩
 ·rcases cells_of h with z|⟨_,z⟩
  ·exact I.hok.fresh (Fw (own x c z).2)
  ·exact I.freeC x c (c1 x c z)
 ·show (capSt cap σ).length=Nc.length;rw[<-zt7 hcap];unfold capSt;rw[Ae]
theorem zj4 {M:Model}{A:Around}{E:Value->Shared->Prop}{s:Shared}{scope:Scope}{globals:Addr}{cl:List (Str×Addr)}{qual:Str}{outer:Env}{Q:Env->Shared->Prop}
  (hQ:∀h',h'.Ns s.heap.objs.size (λ_=>none)->(∀b o,s.heap.get? b=some o->h'.get? b=some o)->CellsOk h' #v[8,10] (cellsFrom #v[8,10] scope.names []) ->
   Q (newEnv scope s.heap.objs.size globals (cellsFrom #v[8,10] scope.names cl) qual none .none (some outer) builtinsNs) { s with heap:=h' }) :
  wpAny M A (newFunctionEnv scope globals cl [] qual none .none (some outer)) Q E s:=by
 simp only [newFunctionEnv,Option.isSome_some,Fi];refine Aa (wpAny_alloc ?_);refine Aa (wpAny_layCells _ (λname kind cells=>by cases hkc:kind==NameKind.cell<;>simp [hkc]) _ _ _ _ ?_);have ok:=cellsFrom_ok scope.names (s.heap.push { cls:=.type "dict",data:=.dict #[] }) #v[8,10] [] ⟨λ_ _ hm=>(nomatch hm),List.Pairwise.nil⟩ (by rw[Da];exact Af _);rw[Da] at ok;rw[show ({ s with heap:=s.heap.push { cls:=.type "dict",data:=.dict #[] } }:Shared).heap.objs.size=s.heap.objs.size+1 from Da ..];refine Aa ?_;rw[Ex];exact Ag (Ag (hQ _ ((Heap.Ns.new s.heap (.type "dict")).keeps (pushCells_keeps _ _)) (λb o e=>pushCells_keeps _ _ b o (Ab _ e)) ok))
end
abbrev TM:=St->Hp->(St->Hp->Prop)->Prop
noncomputable def PM (X:Cx) (em:Sem Unit) (t:TM):Prop :=
 ∀(pins:List (Addr×Obj)) (s:Shared) (σ:St) (H:Hp) (N:St->Hp->Prop),Inv X pins σ H s->t σ H N ->
  wpAny #v[1,7] X.A em (λ_ s'=>∃σ' H',Inv X pins σ' H' s'/\N σ' H') X.xe s
noncomputable def zm4 (e:Expr) (d:Nat) (tg iter:Expr) (ifs:List Expr) (em:Sem Unit) (it acc:Value) (env:Env):Sem Fin:=do
 standAt iter.pos
 match <- pyNext it with
 |none=>pure (.done .next)
 | some v =>
  letOwnedTupleGo tg it v
  assign tg env v
  let mut ok:=true
  for c in ifs do
   if ok then ok <- isTrue c env (eval c env)
  if ok then em
  again (.compLoop e d it acc env)
noncomputable def zmb (J:It) (g:TG) (tc:TT) (tm:TM) (σ:St) (H:Hp) (Q:St->Hp->Prop):Prop:=∃W:Nat->Nat->St->Hp->Prop,(∃m,W 0 m σ H) /\
 ∀i m σc Hc,W i m σc Hc->(J.stop i Hc/\Q σc Hc)\/(J.go i Hc/\∃N:St->Hp->Prop,(∀σ' H',N σ' H'->∃m',m'<m/\W (i+1) m' σ' H')/\∀x H',J.yld i Hc x H'->g x σc H' λσ2 H2 =>
  tc σ2 H2 λb H3=>if b=true then tm σ2 H3 N else N σ2 H3)
def zvh (wi:TI) (cap:List (Option Nat)) (g:TG) (tc:TT) (tm:Addr->TM):TE:=λσ H Q=>wi σ H λJ H1=>∀acc,H1 acc=none->zmb J g tc (tm acc) (capSt cap σ) (upd H1 acc (.lst [])) λ_ Hc=>Q (.ref acc) Hc
section
variable {X:Cx}
theorem zmw {elt:Expr}{gens:List Comprehension}{scope:Scope}{pos:Pos}{d:Nat}{tg iter:Expr}{ifs:List Expr}{em:Sem Unit}{acc:Value}{g:TG}{tc:TT}{tm:TM}{pins:List (Addr×Obj)}{σ:St}{H:Hp}{s:Shared}{it:Addr}{fp:List Addr}{tn:Nat->Heap->Prop}{J:It}{N0:St->Hp->Prop}{R:Result->Shared->Prop}
  (hx:∀v s,¬ X.xe v s) (hc:X.calm=true) (ht:compTurn #v[5,9] d (.ref it) acc X.env=zm4 #v[5,9] d tg iter ifs em (.ref it) acc X.env)
  (hg:PG X tg g) (hs:PTs X ifs tc) (hm:PM X em tm) (I:Inv X pins σ H s) (T:Turn X.prog X.w X.K tg J fp it tn) (st:tn 0 s.heap) (f:∀b∈fp,FpOk X pins H b)
  (hW:zmb J g tc tm σ H N0)
  (hR:∀σ' H' s',Inv X pins σ' H' s'->N0 σ' H'->R (.ok .next) s'):codeAny #v[1,7] X.A (.compLoop #v[5,9] d (.ref it) acc X.env) R s:=by
 have stat:∀{H':Hp},(∀b∈fp,H' b=none)->∀b∈fp,FpOk X pins H' b:=λhn b hb=>⟨hn b hb,(f b hb).2⟩;nofun;obtain⟨W,⟨m0,w0⟩,turn⟩:=hW;ac_rfl;refine codeAny_loop rfl (λn s'=>∃i σ' H',Inv X pins σ' H' s'/\tn i s'.heap/\(∀b∈fp,H' b=none)/\W i n σ' H') ?_ m0 ⟨0,σ,H,I,st,λb hb=>(f b hb).1,w0⟩;rintro n s3 ⟨i,σ3,H3,I3,st3,fr3,w3⟩;show wpAny _ X.A ((compTurn #v[5,9] d (.ref it) acc X.env).onRaise (λx=>do noteFrame x X.env;theTreesLotGoes x)) _ _ s3;refine wpAny_noted ?_;rw[ht];unfold zm4;refine Aa (Fq (Aa ?_));rcases turn i n σ3 H3 w3 with⟨stop,qn⟩|⟨go,N,hN,step⟩
 ·refine Cj (T.done X rfl rfl rfl hc i pins s3 σ3 H3 (λ_ _=>False) I3 (stat fr3) st3 stop) (λr s4 ⟨hr,I4⟩ => ?_) λ_ _ z=>z.elim;subst hr;exact Ag (hR σ3 H3 s4 I4 qn)
 ·refine Cj (T.item X rfl rfl rfl hc i pins s3 σ3 H3 (λ_ _=>False) I3 (stat fr3) st3 go) (λr s4 ⟨u,hr,h4⟩ => ?_) λ_ _ z=>z.elim;subst hr;refine Aa (Cj h4 (λ_ s5 ⟨x,H5,I5,r5,y5,st5,fr5⟩=>?_) λ_ _ z=>z.elim);have I5':=I5.pinned (stat fr5) (T.obj _ _ st5);refine Aa (Cj (hg _ s5 σ3 H5 x u _ I5' r5 (step x H5 y5)) (λ_ s6 ⟨σ6,H6,I6,q6⟩=>?_) λv s z=>(hx v s z).elim);refine Aa (Cj (hs _ s6 σ6 H6 _ I6 q6) (λok s7 ⟨H7,I7,q7⟩=>?_) λv s z=>(hx v s z).elim);have again:∀{sx:Shared}{σx:St}{Hx:Hp},Inv X (pins++zng fp s5.heap) σx Hx sx->N σx Hx->∃m,m<n/\∃i σ' H',Inv X pins σ' H' sx/\tn i sx.heap/\(∀b∈fp,H' b=none)/\W i m σ' H':=λ{sx σx Hx} Ix nx=>by
   obtain⟨m',hm,wx⟩:=hN σx Hx nx;refine⟨m',hm,i+1,σx,Hx,Ix.unpinned,T.keep _ _ _ st5 λb hb o e=>(Ix.pin (b,o) (Aw _ (Aw _ (zd7 hb e)))).1,λb hb=>?_,wx⟩;obtain⟨o,e,d⟩:=T.obj _ _ st5 b hb;exact (Ix.pin (b,o) (Aw _ (Aw _ (zd7 hb e)))).2.1
  cases ok with
  |false=>exact Ag ⟨rfl,again I7 q7⟩
  |true=>exact Aa (Cj (hm _ s7 σ6 H7 N I7 q7) (λ_ s8 ⟨σ8,H8,I8,n8⟩=>Ag ⟨rfl,again I8 n8⟩) λv s z=>(hx v s z).elim)
def zsg (acc:Addr) (te:TE):TM:=λσ H N=>te σ H λy H4=>∃ys,H4 acc=some (.lst ys)/\ys.length<sizeLine/\N σ (upd H4 acc (.lst (ys++[y])))
noncomputable def zy5 (elt:Expr) (acc:Value) (env:Env):Sem Unit:=do let _ <- call (.builtin "list.append") [acc,<-eval elt env]
theorem z27 {elt:Expr}{te:TE}{acc:Addr}(he:PE X elt te):PM X (zy5 elt (.ref acc) X.env) (zsg acc te):=by
 intro pins s σ H N I h;unfold zy5;refine Aa (thn (he pins s σ H _ I h) λyv s10 ⟨y,H10,I10,r10,ys,ha,hz,q10⟩=>?_);refine Aa (thn (zmu _ s10 σ H10 (.ref acc) [y] _ [yv] (λ_ H'=>N σ H') I10 rfl (.cons r10 .nil) ⟨_,ys,y,rfl,rfl,ha,hz,q10⟩) λ_ s11 ⟨_,H11,I11,_,q11⟩=>?_);exact Ag ⟨σ,H11,I11,q11⟩
noncomputable def tTwo (wi:TI) (g:TG) (tc:TT) (tm:TM):TM:=λσ H N=>wi σ H λJ H1=>zmb J g tc tm σ H1 N
noncomputable def zvt (e iter:Expr) (acc:Value) (env:Env):Sem Unit:=do
 let x <- eval iter env
 standAt iter.pos
 let x <- foldedSetIterable iter env x
 let _ <- runOwn (.compStart e 1 (<- holding [x] (pyIter x)) acc env) env
theorem z07 {elt tg iter tg2 iter2:Expr}{ifs ifs2:List Expr}{scope:Scope}{pos:Pos}{it acc:Value}{env:Env} :
  compTurn #v[2,7] 0 it acc env=zm4 #v[2,7] 0 tg iter ifs (zvt #v[2,7] iter2 acc env) it acc env:=by
 unfold zm4 zvt;simp only [bind_assoc,pure_bind]
 rfl
theorem zt2 {A:Around}{R:Result->Shared->Prop}{s:Shared}{elt tg iter tg2 iter2:Expr}{ifs ifs2:List Expr}{scope:Scope}{pos:Pos}{it acc:Value}{env:Env}{prog:Program}{w:World}
  (h0:codeAny (model prog w) A (.compLoop #v[2,7] 1 it acc env) R s)
  (h:wpAny (model prog w) A (pyIter it) (λit' s'=>codeAny (model prog w) A (.compLoop #v[2,7] 1 it' acc env) R s')
   (notedBy (model prog w) A env λx s'=>R (.error x) s') s) :
  codeAny (model prog w) A (.compStart #v[2,7] 1 it acc env) R s:=by
 refine codeAny_of_tree ?_;show wpAny _ _ ((compStart #v[2,7] 1 it acc env).onRaise (λx=>do noteFrame x env;standAt theWindowsPlace)) _ _ s;refine wpAny_notedAt ?_;unfold compStart;show wpAny _ _ (ask>>=_) _ _ s;refine Aa (wpAny_askSetting (wpAny_ite ?_));split
 ·first
   |exact Aa (Ag (Ag (And.intro rfl h0)))
   |exact Ag (And.intro rfl h0)
 ·first
   |exact Aa (Dc (Aa (Fq (Aa (Cj h (λit' s' h'=>Ag (And.intro rfl h')) λ_ _ x=>x)))))
   |(refine Aa (Dc ?_);show wpAny _ _ (standAt iter2.pos>>=_) _ _ s;exact Aa (Fq (Aa (Cj h (λit' s' h'=>Ag (And.intro rfl h')) λ_ _ x=>x))))
theorem z9o {elt tg iter tg2 iter2:Expr}{ifs ifs2:List Expr}{scope:Scope}{pos:Pos}{wi:TI}{g:TG}{tc:TT}{te:TE}{acc:Addr} (hx:∀v s,¬ X.xe v s) (hc:X.calm=true) (hi:PI X tg2 iter2 wi) (hg:PG X tg2 g) (ht:PTs X ifs2 tc) (he:PE X elt te) (hs:∀x,foldedSetIterable iter2 X.env x=pure x) :
  PM X (zvt #v[2,7] iter2 (.ref acc) X.env) (tTwo wi g tc (zsg acc te)):=by
 intro pins s σ H N I h;unfold zvt;refine Aa (thn (hi pins s σ H _ I h) λv s1 h1=>Aa (Fq (Aa (Gx (hs v) (Aa (Bw (thn h1 λitv s2 h2=>?_)))))));nofun;obtain⟨it,fp,tn,J,H2,e,I2,T,st2,f2,hW⟩:=h2;ac_rfl;subst e;refine Aa (wpAny_runOwn ?_);have loop:codeAny #v[1,7] X.A (.compLoop #v[2,7] 1 (.ref it) (.ref acc) X.env) (λr s'=>match r with|.ok f=>(λ_ s'=>wpAny #v[1,7] X.A (pure ()) (λ_ s'=>∃σ' H',Inv X pins σ' H' s'/\N σ' H') X.xe s') f s'|.error e=>cameBackBy #v[1,7] X.A X.env X.xe e s') s2 :=
  zmw (em:=zy5 elt (.ref acc) X.env) hx hc rfl hg ht (z27 he) I2 T st2 f2 hW λσ' H' s' I' n'=>Ag ⟨σ',H',I',n'⟩
 exact zt2 loop (T.self _ 0 _ _ _ st2 loop)
end
theorem HOk.but {P:Program}{w:World}{H:Hp}{h h':Heap}{a:Addr}(x:HOk P w H h)(hn:H a=none)(hs:Heap.SameBut a h h'):HOk P w H h':=λb ob e=>by
 refine (x b ob e).stay (λc w' hc q=>(hs.2 c ?_).trans q) (λ_ q=>q) λ_ _ q=>q;rintro rfl;rcases hc with rfl|hc
 ·rw[hn] at e;cases e
 ·rw[hn] at hc;cases hc
section
variable {X:Cx}
theorem zi9 {elt tg iter:Expr}{ifs:List Expr}{gs:List Comprehension}{scope:Scope}{pos:Pos}{cl:List (Str×Addr)}{Nc:List Str}{cap:List (Option Nat)}{g:TG}{tc:TT}{em:Value->Env->Sem Unit}{tm:Addr->TM}{pins:List (Addr×Obj)}{σ:St}{H2:Hp}{s2:Shared}{it:Addr}{fp:List Addr}{tn:Nat->Heap->Prop}{J:It}{Q:VK}{RR:Value->Addr->Result->Shared->Prop}{E:Value->Shared->Prop}
  (hc:X.calm=true) (hk:scope.kind=.function) (hcap:zig cap Nc X.N scope=true) (hfr:zh8 scope X.env.scope=true) (hnc:zf5 scope=true)
  (hturn:∀it acc env,compTurn #v[4,7] 0 it acc env=zm4 #v[4,7] 0 tg iter ifs (em acc env) it acc env)
  (hg:∀cl C s3 H3 fp,PG (zbc X Nc scope cl C s3 H3 fp) tg g) (ht:∀cl C s3 H3 fp,PTs (zbc X Nc scope cl C s3 H3 fp) ifs tc) (hm:∀cl C s3 H3 fp acc,PM (zbc X Nc scope cl C s3 H3 fp) (em (.ref acc) (zbc X Nc scope cl C s3 H3 fp).env) (tm acc))
  (c1:∀x c,cl.lookup x=some c->X.env.cells.lookup x=some c) (c2:∀x,(x,NameKind.free)∈scope.names->∃c,cl.lookup x=some c)
  (I2:Inv X pins σ H2 s2) (T:Turn X.prog X.w X.K tg J fp it tn) (st2:tn 0 s2.heap) (f2:∀b∈fp,FpOk X pins H2 b)
  (hW:∀acc,H2 acc=none->zmb J g tc (tm acc) (capSt cap σ) (upd H2 acc (.lst [])) λ_ Hc=>Q (.ref acc) Hc)
  (hR:∀acc C s' H',(∃m,s'.heap.Ns C m)->(∀h',Heap.SameBut C s'.heap h'->Inv X pins σ H' { s' with heap:=h' })->FpOk X pins H' C->Q (.ref acc) H'->RR (.ref acc) C (.ok .next) s') :
  wpAny #v[1,7] X.A (newList []) (λacc s₃=>wpAny #v[1,7] X.A (newFunctionEnv scope X.env.globals cl [] X.env.qual none .none (some X.env)) (λcenv s₄ =>
   codeAny #v[1,7] X.A (.compStart #v[4,7] 0 (.ref it) acc { cenv with scope:=relabel scope X.env }) (RR acc cenv.locals) s₄) E s₃) E s2:=by
 refine Dj (zj4 λh₁ hns₁ keep4 hcs=>?_);dsimp only at hns₁ keep4 hcs ⊢;have hacc:H2 s2.heap.objs.size=none:=I2.hok.fresh (Af _);have I3:Inv X pins σ (upd H2 s2.heap.objs.size (.lst [])) { s2 with heap:=s2.heap.push { cls:=.type "list",dict:=none,data:=.seq ([]:List Value).toArray },toks:=s2.toks } :=
  I2.laid (t':=s2.toks) (λb u e=>Ab _ e) (Af _) ⟨by simp,[],0,.nil,An _ rfl⟩
 have hW':=hW s2.heap.objs.size hacc;generalize hH:s2.heap.push { cls:=.type "list",dict:=none,data:=.seq ([]:List Value).toArray }=hp at hns₁ keep4 hcs I3 ⊢;have f3:∀b∈fp,FpOk X pins (upd H2 s2.heap.objs.size (.lst [])) b:=λb hb=>by
  obtain⟨o,ho,_⟩:=T.obj _ _ st2 b hb;exact⟨by rw[upd_ne (Az (Ai ho))];exact (f2 b hb).1,(f2 b hb).2⟩
 have up:∀b o,s2.heap.get? b=some o->hp.get? b=some o:=λb o e=>hH ▸ Ab _ e;have I4:=z1b (Nc:=Nc) (cap:=cap) (fp:=fp) (h4:=h₁) (tk:=s2.toks) I3 hk hcap hfr hnc c1 c2 f3 (λb hb=>by
  obtain⟨o,ho,_⟩:=T.obj _ _ st2 b hb;exact Ai (up b o ho)) hns₁ keep4 hcs
 have st4:tn 0 h₁:=T.keep _ _ _ st2 λb _ o e=>keep4 b o (up b o e);have loop:codeAny #v[1,7] X.A (.compLoop #v[4,7] 0 (.ref it) (.ref s2.heap.objs.size) (compEnvC scope (cellsFrom (hp.objs.size+1) scope.names cl) hp.objs.size X.env)) (RR (.ref s2.heap.objs.size) hp.objs.size) { s2 with heap:=h₁,toks:=s2.toks }:=by
  refine zmw (X:=zbc X Nc scope (cellsFrom (hp.objs.size+1) scope.names cl) hp.objs.size { s2 with heap:=hp,toks:=s2.toks } (upd H2 s2.heap.objs.size (.lst [])) fp) (λ_ _ z=>z) hc (hturn _ _ _) (hg _ _ _ _ _) (ht _ _ _ _ _) (hm _ _ _ _ _ _) I4 T st4
   (λb hb=>⟨(f3 b hb).1,(I4.ok.exf b hb).1,I4.ok.exfs b hb,.inl hb,(I4.ok.exf b hb).2,λp hp'=>absurd (show p∈([]:List (Addr×Obj)) from hp') (by simp)⟩) hW' λσ5 H5 s6 I6 qn=>?_
  obtain⟨m6,hm6,_⟩:=I6.loc;have fC:H5 hp.objs.size=none:=I6.free;refine hR _ _ _ H5 ⟨m6,hm6⟩ (λh' hsb=>?_) (I3.fpOk (Af _) fC) qn;refine I3.call' (s':={ s6 with heap:=h' }) (ch:=fp) I6.os ?_ (I6.hok.but fC hsb) I6.bare λb hb=>⟨(f3 b hb).2.2.2.1,(f3 b hb).2.1,(f3 b hb).2.2.2.2.1,(f3 b hb).2.2.2.2.2⟩;have U:Un (frs X.stack) fp (upd H2 s2.heap.objs.size (.lst [])) H5 hp s6.heap:=I6.base;have nb:∀b o,hp.get? b=some o->b≠hp.objs.size:=λb o e=>Az (Ai e);exact⟨λb o e n hb hx=>(hsb.2 b (nb b o e)).trans (U.keep b o e n hb hx),λb o e n hb hx=>let ⟨sl,z⟩:=U.slot b o e n hb hx;⟨sl,(hsb.2 b (nb b o e)).trans z⟩,U.free,λb o e hx=>let ⟨o',z⟩:=U.there b o e hx;⟨o',(hsb.2 b (nb b o e)).trans z⟩,U.tups,U.frzs,U.tbls⟩
 exact codeAny_compStart_list loop (T.self _ 0 _ _ _ st4 loop)
theorem z6q {elt tg iter:Expr}{ifs:List Expr}{gs:List Comprehension}{scope:Scope}{pos:Pos}{Nc:List Str}{cap:List (Option Nat)}{wi:TI}{g:TG}{tc:TT}{em:Value->Env->Sem Unit}{tm:Addr->TM} (hi:PI X tg iter wi)
  (hg:∀cl C s3 H3 fp,PG (zbc X Nc scope cl C s3 H3 fp) tg g) (ht:∀cl C s3 H3 fp,PTs (zbc X Nc scope cl C s3 H3 fp) ifs tc) (hm:∀cl C s3 H3 fp acc,PM (zbc X Nc scope cl C s3 H3 fp) (em (.ref acc) (zbc X Nc scope cl C s3 H3 fp).env) (tm acc))
  (hturn:∀it acc env,compTurn #v[4,7] 0 it acc env=zm4 #v[4,7] 0 tg iter ifs (em acc env) it acc env)
  (hc:X.calm=true:=by rfl) (hk:scope.kind=.function:=by rfl) (hcap:zig cap Nc X.N scope=true:=by rfl) (hfr:zh8 scope X.env.scope=true:=by rfl) (hnc:zf5 scope=true:=by rfl)
  (hnm:#v[7,8]=true:=by rfl)
  (hs:∀x,foldedSetIterable iter X.env x=pure x:=by intro _;rfl):PE X #v[4,7] (zvh wi cap g tc tm):=by
 intro pins s σ H Q I h;rw[eval_ListComp];nofun;obtain⟨cl,hclos,c1,c2⟩:=zdu (env:=X.env) (scope:=scope) λx hx=>I.ok.has x (zeb hfr hx);ac_rfl;have hnames:∀x∈scope.names,x.2=.local->scope.names.lookup x.1=some .local:=λx hx e=>by
  have q:=Bd.mp hnm _ hx;simpa [e] using q
 refine wpAny_comprehension_free (use:=none) rfl hs hclos hk hnames (thn (hi pins s σ H _ I h) λv s1 h1=>thn h1 λitv s2 h2=>?_);nofun;obtain⟨it,fp,tn,J,H2,e,I2,T,st2,f2,hW⟩:=h2;ac_rfl;subst e;refine zi9 (RR:=λacc C=>compPost #v[1,7] X.A X.xe none (EP X pins σ Q) acc C) hc hk hcap hfr hnc hturn hg ht hm c1 c2 I2 T st2 f2 hW ?_;intro acc C s' H' ⟨m,hm⟩ hI hC q;exact⟨m,hm,λh' hsb=>⟨.ref acc,H',hI h' hsb,rfl,q⟩⟩
theorem z42 {y:Str}{py:Pos}{spos:Pos}{i:Nat}{elt tg iter:Expr}{ifs:List Expr}{gs:List Comprehension}{scope:Scope}{pos:Pos}{Nc:List Str}{cap:List (Option Nat)}{wi:TI}{g:TG}{tc:TT}{em:Value->Env->Sem Unit}{tm:Addr->TM} (hN:X.N.Nodup) (hiy:X.N[i]?=some y) (hy:Loc X.env.scope y) (hi:PI X tg iter wi)
  (hg:∀cl C s3 H3 fp,PG (zbc X Nc scope cl C s3 H3 fp) tg g) (ht:∀cl C s3 H3 fp,PTs (zbc X Nc scope cl C s3 H3 fp) ifs tc) (hm:∀cl C s3 H3 fp acc,PM (zbc X Nc scope cl C s3 H3 fp) (em (.ref acc) (zbc X Nc scope cl C s3 H3 fp).env) (tm acc))
  (hturn:∀it acc env,compTurn #v[4,7] 0 it acc env=zm4 #v[4,7] 0 tg iter ifs (em acc env) it acc env)
  (hsw:swapsWith #v[4,7] (some (.Name y py)) spos.line X.env=pure true:=by rfl)
  (hc:X.calm=true:=by rfl) (hk:scope.kind=.function:=by rfl) (hcap:zig cap Nc X.N scope=true:=by rfl) (hfr:zh8 scope X.env.scope=true:=by rfl) (hnc:zf5 scope=true:=by rfl)
  (hnm:#v[7,8]=true:=by rfl)
  (hs:∀x,foldedSetIterable iter X.env x=pure x:=by intro _;rfl) (hf:X.fn y=true\/X.env.scope.names.lookup y=some .local:=by first|exact .inl rfl|exact .inr rfl|assumption) :
  PS X (.Assign [.Name y py] #v[4,7] spos) (tAsg (zvh wi cap g tc tm) (zta i)):=by
 intro pins s σ H D I h;nofun;obtain⟨cl,hclos,c1,c2⟩:=zdu (env:=X.env) (scope:=scope) λx hx=>I.ok.has x (zeb hfr hx);ac_rfl;have hnames:∀x∈scope.names,x.2=.local->scope.names.lookup x.1=some .local:=λx hx e=>by
  have q:=Bd.mp hnm _ hx;simpa [e] using q
 rw[exec_Assign_Name_used _ _ _ _ hsw];refine Aa (Fq (Aa ?_));show wpAny _ X.A (do let _ <- comprehension #v[4,7] scope X.env _ (newList []) false (eval iter X.env) (some (assign (.Name y py) X.env))) _ _ s;refine Aa (Cj (wpAny_comprehension_free (use:=some (assign (.Name y py) X.env)) (Q:=λ_ s'=>SP X pins D .next s') rfl hs hclos hk hnames
  (thn (hi pins s σ H _ I h) λv s1 h1=>thn h1 λitv s2 h2=>?_)) (λ_ s' hq=>Ag (Ag hq)) λ_ _ e=>e)
 nofun;obtain⟨it,fp,tn,J,H2,e,I2,T,st2,f2,hW⟩:=h2;ac_rfl;subst e;refine zi9 (Q:=λx H1=>D.nx (σ.set i (some x)) H1) (RR:=λacc C=>compPost #v[1,7] X.A X.xe (some (assign (.Name y py) X.env)) (λ_ s'=>SP X pins D .next s') acc C) hc hk hcap hfr hnc hturn hg ht hm c1 c2 I2 T st2 f2 hW ?_;intro acc C s' H' ⟨m,hm⟩ hI hC q;show wpAny _ X.A (assign (.Name y py) X.env (.ref acc)) _ _ _;have I':Inv X pins σ H' s':=hI s'.heap (.refl ..);refine wpAny_assign_Name (zn6 I' hN hiy hy (v:=.ref acc) rfl (λs'' I'' ⟨a,hsb,ha⟩=>?_) hf);have ne:C≠a:=by
  rcases ha with rfl|ha
  ·exact hC.2.1
  ·exact λz=>hC.2.2.2.2.1 y a ha z.symm
 refine⟨m,hm.sameBut hsb ne,λh' hsb'=>⟨_,H',?_,q⟩⟩;exact I''.turned (t':=s''.toks) (λb o hb e=>(hsb'.2 b hb).trans e) hC.1 hC.2.1 hC.2.2.2.1 hC.2.2.2.2.1 hC.2.2.2.2.2
end
section
variable {X:Cx}{pins:List (Addr × Obj)}{σ:St}{H:Hp}{s:Shared}
theorem Inv.turnLay {h':Heap}{t':Nat}{ch:List Addr}{T:Addr}{o:HO} (I:Inv X pins σ H s) (k:∀b o,b ∉ ch->s.heap.get? b=some o->h'.get? b=some o) (th:∀b∈ch,∃o',h'.get? b=some o') (hch:∀b∈ch,FpOk X pins H b) (hT:s.heap.objs.size<=T)
  (new:zaz X.prog X.w (upd H T o) h' T o):Inv X pins σ (upd H T o) { s with heap:=h',toks:=t' }:=by
 have hn:H T=none:=I.hok.fresh hT;have ne:∀b u,s.heap.get? b=some u->b≠T:=λb u e=>Az (Bb (Ai e) hT);have nch:∀b u,H b=some u->b ∉ ch:=λb u e hb=>by rw[(hch b hb).1] at e;cases e
 refine I.step (g':=s.gens) (d':=s.drawn) (ch:=ch) (λb hb=>⟨(hch b hb).2.2.2.1,(hch b hb).2.1,(hch b hb).2.2.2.2.1,(hch b hb).2.2.2.2.2⟩) (λb o _ _ hc e _=>k b o hc e) (λb o _ _ hc e _=>⟨o.slots,k b o hc e⟩) (λb u _ e n=>by rw[upd_ne (ne b u e)];exact n)
  (λb u hc e=>⟨u,k b u hc e⟩) (λb xs e=>by rw[upd_ne (zac e hn)];exact e) (λb u xs e=>by rw[upd_ne (zac e hn)];exact e) (λb ps e=>⟨#[],by rw[upd_ne (zac e hn),e];simp⟩) (λm hm=>?_) (λb u e=>?_) I.bare
 ·obtain⟨o,es,ep,ho,r⟩:=hm;exact⟨o,es,ep,k _ o (λz=>(hch _ z).2.1 rfl) ho,r⟩
 ·by_cases hb:b=T
  ·subst hb;rw[upd_same] at e;obtain rfl:=sI e;exact new
  ·rw[upd_ne hb] at e;refine (I.hok b u e).stay (λc v hc q=>k c v ?_ q) (λc q=>by rw[upd_ne (zac q hn)];exact q) λc xs q=>by rw[upd_ne (zac q hn)];exact q
   rcases hc with z|z
   ·rw[z];exact nch b u e
   ·exact nch c _ z
theorem Inv.turnL {h':Heap}{t':Nat}{ch:List Addr}(I:Inv X pins σ H s)(k:∀b o,b ∉ ch->s.heap.get? b=some o->h'.get? b=some o)(hch:∀b∈ch,FpOk X pins H b):Inv X pins σ H { s with heap:=h',toks:=t' }:=by
 have nch:∀b u,H b=some u->b ∉ ch:=λb u e hb=>by rw[(hch b hb).1] at e;cases e
 refine I.step (g':=s.gens) (d':=s.drawn) (ch:=ch) (λb hb=>⟨(hch b hb).2.2.2.1,(hch b hb).2.1,(hch b hb).2.2.2.2.1,(hch b hb).2.2.2.2.2⟩) (λb o _ _ hc e _=>k b o hc e) (λb o _ _ hc e _=>⟨o.slots,k b o hc e⟩) (λb u _ e n=>n)
  (λb u hc e=>⟨u,k b u hc e⟩) (λb xs e=>e) (λb u xs e=>e) (λb ps e=>⟨#[],by rw[e];simp⟩) (λm hm=>?_) (λb u e=>?_) I.bare
 ·obtain⟨o,es,ep,ho,r⟩:=hm;exact⟨o,es,ep,k _ o (λz=>(hch _ z).2.1 rfl) ho,r⟩
 ·refine (I.hok b u e).stay (λc v hc q=>k c v ?_ q) (λc q=>q) λc xs q=>q;rcases hc with z|z
  ·rw[z];exact nch b u e
  ·exact nch c _ z
end
def Ite (K:PySem.W.Frag) (a:Addr):It :=
 ⟨λi H=>∃xs x,SqL K H a xs/\xs[i]?=some x,λi H x H'=>∃p v,x=.ref p/\H p=none/\H'=upd H p (.tup [.int i,v])/\∀xs,SqL K H a xs->xs[i]?=some v,λi H=>∃xs,SqL K H a xs/\xs.length<=i⟩
theorem zv1 {P:Program}{w:World}{K:PySem.W.Frag}{es:List Expr}{x1}{px:Pos}(a e it:Addr)(hei:e≠it):Turn P w K (.Tuple es x1 px) (Ite K a) [e,it] e (λi h=>(∃old,IsEnum h e it i old)/\h.IsListIter it a i) where
 mem:=by simp
 obj:=λi h st b hb=>by
  nofun;obtain⟨⟨old,he⟩,o,hi,c,d⟩:=st;ac_rfl;rcases Ap.mp hb with rfl|hb
  ·exact⟨_,he,λv z=>by cases z⟩
  ·have:b=it:=by simpa using hb
   subst this;exact⟨o,hi,λv z=>by rw[d] at z;cases z⟩
 keep:=λi h h' st k=>⟨let ⟨old,he⟩:=st.1;⟨old,k e (by simp) _ he⟩,st.2.at λo z=>k it (by simp) o z⟩
 item:=by
  intro X hP hw hK hc i pins s σ H E I hf st hg;subst hP hw hK;nofun;obtain⟨xs,x,hq,hx⟩:=hg;obtain⟨its,rv,p,hz⟩:=I.list hq;obtain⟨u,hu,ru⟩:=rv.get hx;obtain⟨⟨old,he⟩,hit⟩:=st;ac_rfl;refine wpAny_pyNext_enum_item he hit p.isList (x:=u) (by simpa using hu) hei λh' ho hit' hT hsz hk=>⟨_,rfl,?_⟩;refine wpAny_letOwnedTupleGo_enum ho λh'' he'' hs''=>?_;have kk:∀b o,b ∉ [e,it]->s.heap.get? b=some o->h''.get? b=some o:=λb o hb q=>by
   have h1:b≠e:=λz=>hb (by simp [z]);have h2:b≠it:=λz=>hb (by simp [z]);exact (hs''.2 b h1).trans (hk b o h1 h2 q)
  have hTe:s.heap.objs.size≠e:=λz=>absurd (Ai he) (by rw[z];exact Bt _);have hit'':h''.IsListIter it a (i+1):=hit'.at λo y=>(hs''.2 it hei.symm).trans y;refine⟨.ref s.heap.objs.size,upd H s.heap.objs.size (.tup [.int i,x]),I.turnLay kk (λb hb=>?_) hf (Af _) ⟨by show 2<=sizeLine;decide,[.int i s.toks,u],.cons ⟨_,rfl⟩ (.cons ru .nil),?_⟩,rfl,⟨_,x,rfl,I.hok.fresh (Af _),rfl,λys hy=>by rw[I.list_inj hy hq];exact hx⟩,⟨⟨_,by simpa using he''⟩,hit''⟩,λb hb=>?_⟩
  ·rcases Ap.mp hb with rfl|hb
   ·exact⟨_,he''⟩
   ·have:b=it:=by simpa using hb
    subst this;obtain⟨o,z,_⟩:=hit'';exact⟨o,z⟩
  ·exact⟨_,(hs''.2 _ hTe).trans hT,rfl,_,rfl⟩
  ·have:b≠s.heap.objs.size:=by
    rcases Ap.mp hb with rfl|hb
    ·exact hTe.symm
    ·have e2:b=it:=by simpa using hb
     subst e2;obtain⟨o,z,_⟩:=hit;exact Az (Ai z)
   rw[upd_ne this];exact (hf b hb).1
 done:=by
  intro X hP hw hK hc i pins s σ H E I hf st hg;subst hP hw hK;nofun;obtain⟨xs,hq,hx⟩:=hg;obtain⟨its,rv,p,hz⟩:=I.list hq;obtain⟨⟨old,he⟩,hit⟩:=st;obtain⟨f0,f1,f2,f3,f4,f5⟩:=hf it (by simp);ac_rfl;have hl:=rv.length;exact wpAny_pyNext_enum_end (I.ok.hd hc) he hit p.isList (Eh (by simp;omega)) λh' eb=>⟨rfl,I.turned (t':=s.toks) (λb o hb e=>eb b o hb e) f0 f1 f3 f4 f5⟩
 self:=λ_ _ _ _ _ st h=>let ⟨_,he⟩:=st.1;Hh he h
section
variable {X:Cx}
end
noncomputable def Itv (K:PySem.W.Frag) (a:Addr) (n:Nat):It :=
 ⟨λi H=>i<n/\∃xs,SqL K H a xs/\xs.length=n,λi H x H'=>H'=H/\∀xs,SqL K H a xs->xs[n-1-i]?=some x,λi H=>i=n⟩
theorem z1j {P:Program}{w:World}{K:PySem.W.Frag}{tg:Expr}(a it:Addr)(n:Nat):Turn P w K tg (Itv K a n) [it] it (λi h=>h.IsRevIter it a ((n:Int)-1-(i:Int))) where
 mem:=by simp
 obj:=λi h st b hb=>by
  have e:b=it:=by simpa using hb
  subst e;nofun;obtain⟨o,e,c,d⟩:=st;ac_rfl;exact⟨o,e,λv z=>by rw[d] at z;cases z⟩
 keep:=λi h h' st k=>st.at λo e=>k it (by simp) o e
 item:=by
  intro X hP hw hK hc i pins s σ H E I hf st hg;subst hP hw hK;nofun;obtain⟨hi,xs,hq,hn⟩:=hg;ac_rfl;have hlt:n-1-i<xs.length:=by omega
  nofun;obtain⟨its,rv,p,hz⟩:=I.list hq;obtain⟨u,hu,ru⟩:=rv.get (Ac hlt);obtain⟨f0,f1,f2,f3,f4,f5⟩:=hf it (by simp);ac_rfl;have e:(n:Int)-1-(i:Int)=((n-1-i:Nat):Int):=by omega
  have st':=st;rw[e] at st';refine wpAny_pyNext_rev_item st' p.isList (x:=u) (by simpa using hu) λh' st' sb=>?_;have I1:Inv X pins σ H { s with heap:=h' }:=I.turned (t':=s.toks) (λb o hb e=>(sb.2 b hb).trans e) f0 f1 f3 f4 f5;nofun;obtain⟨o,e2,c,d⟩:=id st';ac_rfl;have e3:((n-1-i:Nat):Int)-1=(n:Int)-1-((i+1:Nat):Int):=by omega
  rw[e3] at st';exact⟨u,rfl,z0m (s:={ s with heap:=h' }) e2 c d #v[0,9] ⟨_,H,I1,ru,⟨rfl,λys hy=>by rw[I.list_inj hy hq];exact Ac hlt⟩,st',λb hb=>(hf b hb).1⟩⟩
 done:=by
  intro X hP hw hK hc i pins s σ H E I hf st hg;subst hP hw hK;have hg':i=n:=hg;subst hg';nofun;obtain⟨f0,f1,f2,f3,f4,f5⟩:=hf it (by simp);ac_rfl;have e:(i:Int)-1-(i:Int)=-1:=by omega
  rw[e] at st;exact wpAny_pyNext_rev_end (I.ok.hd hc) st λh' eb=>⟨rfl,I.turned (t':=s.toks) (λb o hb e=>eb b o hb e) f0 f1 f3 f4 f5⟩
 self:=λ_ _ _ _ _ st h=>wpAny_pyIter_revIter st h
section
variable {X:Cx}{tg:Expr}
def iRev (K:PySem.W.Frag) (ta:TA):TI:=λσ H R=>ta σ H λvs H1=>∃a xs,vs=[.ref a]/\SqL K H1 a xs/\R (Itv K a xs.length) H1
theorem yay {l:Expr}{tl:TA}{p pos:Pos} (hg:Gl X "reversed") (hm:X.mg "reversed" = none) (hl:PA X [l] tl) (hs:starEach [l] X.env=[(false,eval l X.env)]:=by rfl) :
  PI X tg (.Call (.Name "reversed" p) [l] [] pos) (iRev X.K tl):=by
 intro pins s σ H R I h;refine Call_ (zem I hg hm boot_reversed (Db (thn (hl pos pins s σ H _ I h) λus s1 ⟨vs,H1,I1,r1,q1⟩=>?_) hs rfl));nofun;obtain⟨a,xs,e,hq,q⟩:=q1;ac_rfl;subst e;cases r1 with
 | cons r rr =>
  cases rr;cases r;nofun;obtain⟨its,rv,p',hz⟩:=I1.list hq;ac_rfl;refine call_reversed_list p'.isList ?_;have hit:(s1.heap.push (revObj a ((its.toArray.size:Int)-1))).IsRevIter s1.heap.objs.size a ((its.toArray.size:Int)-1):=⟨_,An _ rfl,rfl,rfl⟩;refine wpAny_pyIter_revIter hit ?_;refine⟨s1.heap.objs.size,[s1.heap.objs.size],_,_,H1,rfl,I1.kept (t':=s1.toks) λb o e=>Ab _ e,z1j a _ xs.length,?_,λb hb=>?_,q⟩
  ·have e:((its.toArray.size:Int)-1)=(xs.length:Int)-1-((0:Nat):Int):=by have:=rv.length;simp;omega
   rw[e] at hit;have ge:((its.toArray.size:Int)-1)=(xs.length:Int)-1-((0:Nat):Int):=e;dsimp only;rw[<-ge];exact⟨_,An _ rfl,rfl,rfl⟩
  ·have e:b=s1.heap.objs.size:=by simpa using hb
   subst e;exact I1.fpOk (Af _) (I1.hok.fresh (Af _))
end
section
variable {κ:Type} [DecidableEq κ]
noncomputable def valV (kvs:List (κ×V)) (k:κ):Option V:=(kvs.find? λkv=>decide (kv.1=k)).map (·.2)
noncomputable def putK (kvs:List (κ×V)) (k:κ) (v:V):List (κ×V) :=
 if (kvs.any λkv=>decide (kv.1=k))=true then kvs.map (λkv=>if kv.1=k then (kv.1,v) else kv) else kvs++[(k,v)]
theorem zjy {p:κ×V}{r:List (κ×V)}{k:κ}(e:p.1=k):valV (p::r) k=some p.2:=by simp [valV,Dg,e]
theorem zk4 {p:κ×V}{r:List (κ×V)}{k:κ}(e:¬ p.1=k):valV (p::r) k=valV r k:=by simp [valV,Dg,e]
theorem zoc (kvs:List (κ×V))(k:κ)(v:V):(putK kvs k v).length<=kvs.length+1:=by
 unfold putK;split
 ·rw[Ae];omega
 ·rw[Bc,Be,Fj];omega
theorem RelO.isSome_eq {o:Option V}{u:Option Value} (r:RelO o u):o.isSome=u.isSome:=by
 cases o with
 | none=>cases u with
  |none=>rfl
  |some _=>exact (show False from r).elim
 | some _=>cases u with
  |none=>exact (show False from r).elim
  |some _=>rfl
theorem KV.val {kvs:List (κ×V)}{vs:List (κ×Value)} (r:KV kvs vs) (k:κ):RelO (valV kvs k) (valueAt vs k):=by
 unfold KV at r
 induction r with
 |nil=>exact True.intro
 | @cons p q ps qs h t ih =>
  obtain⟨h1,h2⟩:=h;by_cases e:p.1=k
  ·have e':q.1=k:=h1.symm.trans e
   have b:valueAt (q::qs) k=some q.2:=by simp [valueAt,Dg,e']
   rw[zjy e,b];exact h2
  ·have e' : ¬ q.1=k:=λz=>e (h1.trans z)
   have b:valueAt (q::qs) k=valueAt qs k:=by simp [valueAt,Dg,e']
   rw[zk4 e,b];exact ih
theorem KV.any {kvs:List (κ×V)}{vs:List (κ×Value)}(r:KV kvs vs)(k:κ):(kvs.any λkv=>decide (kv.1=k))=vs.any λkv=>decide (kv.1=k):=by
 unfold KV at r
 induction r with
 |nil=>rfl
 |cons h t ih=>rw[Fg,Fg,ih,h.1]
theorem KV.repl {kvs:List (κ×V)}{vs:List (κ×Value)} (r:KV kvs vs) (k:κ) {y:V}{u:Value} (ry:RelV y u) :
  KV (kvs.map λkv=>if kv.1=k then (kv.1,y) else kv) (vs.map λkv=>if kv.1=k then (kv.1,u) else kv):=by
 unfold KV at r ⊢
 induction r with
 |nil=>exact .nil
 | @cons p q ps qs h t ih =>
  rw[Am,Am];refine .cons ?_ ih;obtain⟨h1,h2⟩:=h;by_cases e:p.1=k
  ·rw[if_pos e,if_pos (h1.symm.trans e)];exact⟨h1,ry⟩
  ·rw[if_neg e,if_neg (λz=>e (h1.trans z))];exact⟨h1,h2⟩
theorem KV.put {kvs:List (κ×V)}{vs:List (κ×Value)}(r:KV kvs vs)(k:κ){y:V}{u:Value}(ry:RelV y u):KV (putK kvs k y) (stored vs k u):=by
 unfold putK stored;rw[r.any k];by_cases e:(vs.any λkv=>decide (kv.1=k))=true
 ·rw[if_pos e,if_pos e];exact r.repl k ry
 ·rw[if_neg e,if_neg e];exact Paired.snoc r ⟨rfl,ry⟩
theorem KV.keys {kvs:List (κ×V)}{vs:List (κ×Value)}(r:KV kvs vs):kvs.map (·.1)=vs.map (·.1):=by
 unfold KV at r
 induction r with
 |nil=>rfl
 |cons h t ih=>rw[Am,Am,ih,h.1]
theorem KV.length {kvs:List (κ×V)}{vs:List (κ×Value)}(r:KV kvs vs):kvs.length=vs.length:=Paired.length r
end
theorem zxx {P:Program}{w:World}{k:Key}{u:Value}(r:RelV (kV k) u):(zap P w).is k u=true:=by
 cases k with
 |inl i=>obtain⟨t,e⟩:=(show ∃t,u=Value.int i t from r);subst e;exact zpr P w i t
 |inr x=>obtain⟨t,e⟩:=(show ∃t,u=Value.str x t from r);subst e;exact zox P w x t
theorem znu {P:Program}{w:World}:∀{ks:List Key}{us:List Value},Vals (ks.map kV) us->ItemsAre (zap P w) ks us
 |[],_,r=>by rw[List.map_nil] at r;cases r;exact .nil
 | k::ks,_,r=>by
  rw[Am] at r;cases r with
  |cons h t=>exact .cons (zxx h) (znu t)
abbrev KT (H:Hp):List (List Key×V)->List (List Key×Addr×Value)->Prop:=Paired λp q=>p.1=q.1/\H q.2.1=some (.tup (p.1.map kV))/\RelV p.2 q.2.2
theorem KT.val {H:Hp}{kvs:List (List Key×V)}{xs:List (List Key×Addr×Value)} (r:KT H kvs xs) (k:List Key):RelO (valV kvs k) ((atKey xs k).map (·.2)):=by
 induction r with
 |nil=>exact True.intro
 | @cons p q ps qs h t ih =>
  obtain⟨h1,_,h2⟩:=h;by_cases e:p.1=k
  ·have e':q.1=k:=h1.symm.trans e
   have b:atKey (q::qs) k=some q.2:=by simp [atKey,Dg,e']
   rw[zjy e,b];exact h2
  ·have e' : ¬ q.1=k:=λz=>e (h1.trans z)
   have b:atKey (q::qs) k=atKey qs k:=by simp [atKey,Dg,e']
   rw[zk4 e,b];exact ih
section
variable {P:Program}{w:World}{H:Hp}{h:Heap}{a:Addr}
theorem ybk {u:HO}(ok:HOk P w H h)(e:Rd H a u):zaz P w H h a u:=e.ok ok
theorem z64 {kvs:List (Key×V)}(ok:HOk P w H h)(e:Rd H a (.dK kvs)):kvs.length<=sizeLine/\(a==sysModules)=false/\∃vs,KV kvs vs/\h.DictOf (zap P w) a vs :=
 show zaz P w H h a (.dK kvs) from ybk ok e
theorem zyf {kvs:List (Key×V)}(ok:HOk P w H h)(e:H a=some (.dK kvs)):kvs.length<=sizeLine/\(a==sysModules)=false/\∃vs,KV kvs vs/\h.DictOf (zap P w) a vs:=z64 ok (.inl e)
theorem zun {ks:List Key}(ok:HOk P w H h)(e:H a=some (.tup (ks.map kV))):(tupleKind (zap P w)).is h ks a:=by
 nofun;obtain⟨_,its,r,o,h1,h2,n,h3⟩:=(show zaz P w H h a (.tup (ks.map kV)) from ok a _ e);ac_rfl;exact⟨o,its.toArray,n,h1,h2,h3,by simpa using znu r⟩
theorem z85 {kvs:List (List Key×V)} (ok:HOk P w H h) (e:Rd H a (.dT kvs)):kvs.length<=sizeLine/\(a==sysModules)=false /\
  ∃xs,KT H kvs xs/\h.DictOfH (tupleKind (zap P w)) a xs:=by
 refine aG λ_ qG=>?_;obtain ⟨z,y,xs,r,o,es,ep,h1,h2,h3,h4,h5⟩:=(show zaz P w H h a (.dT kvs) from ybk ok e);refine qG ?_;clear qG;refine ⟨z,y,xs,r,o,es,ep,h1,h2,h3,h4,λx hx=>?_,h5⟩;have all:∀{l:List (List Key×V)}{m:List (List Key×Addr×Value)},KT H l m->∀x∈m,(tupleKind (zap P w)).is h x.1 x.2.1:=by
  intro l m q
  induction q with
  |nil=>intro x hx;exact nomatch hx
  | @cons p q ps qs hq t ih =>
   intro x hx;rcases Ap.mp hx with e|hx
   ·subst e
    exact zun ok (by rw[<-hq.1];exact hq.2.1)
   ·exact ih x hx
 exact all r x hx
end
noncomputable def DGet (H:Hp) (a:Addr) (y:V) (r:Option V):Prop :=
 (∃kvs k,Rd H a (.dK kvs)/\y=kV k/\r=valV kvs k)\/∃kvs k b,Rd H a (.dT kvs)/\y=.ref b/\H b=some (.tup (k.map kV))/\r=valV kvs k
section
variable {X:Cx}{pins:List (Addr × Obj)}{σ:St}{H:Hp}{s:Shared}{a:Addr}{y v:V}{u r:Value}{o:Option V}{A:Around}{E:Value->Shared->Prop}
theorem Inv.big (I:Inv X pins σ H s):sysModules<s.heap.objs.size:=by
 have h:mainGlobals<s.heap.objs.size:=(I.mod.glob.keeps I.bk).lt;exact Nat.lt_trans #v[0,9] h
theorem d_in {Q:Value->Shared->Prop} (hu:A.units+1<cLine) (I:Inv X pins σ H s) (g:DGet H a y o) (ry:RelV y u) (h:∀s',Inv X pins σ H s'->Q (.bool o.isSome) s') :
  wpAny #v[1,7] A (compareOp .In u (.ref a)) Q E s:=by
 rcases g with⟨kvs,k,e,ey,l⟩|⟨kvs,k,b,e,ey,eb,l⟩
 ·subst ey;obtain⟨z,hd,vs,rel,dd⟩:=z64 I.hok e;refine wpAny_in_of (zxx ry) hd dd.mapOf ?_;rw[<-(rel.val k).isSome_eq,<-l];exact h _ (I.tok _)
 ·subst ey;cases (show u=Value.ref b from ry);obtain⟨z,hd,xs,rel,dd⟩:=z85 I.hok e;refine wpAny_in_heap (tupleKind_room_in1 hu) (zun I.hok eb) hd dd ?_;have q:=(rel.val k).isSome_eq;rw[Option.isSome_map] at q;rw[<-q,<-l];exact h _ (I.tok _)
theorem zwn {Q:Value->Shared->Prop} (hu:A.units+1<cLine) (I:Inv X pins σ H s) (g:DGet H a y o) (ry:RelV y u) (h:∀s',Inv X pins σ H s'->Q (.bool (!o.isSome)) s') :
  wpAny #v[1,7] A (compareOp .NotIn u (.ref a)) Q E s:=by
 rcases g with⟨kvs,k,e,ey,l⟩|⟨kvs,k,b,e,ey,eb,l⟩
 ·subst ey;obtain⟨z,hd,vs,rel,dd⟩:=z64 I.hok e;refine wpAny_notIn_of (zxx ry) hd dd.mapOf ?_;rw[<-(rel.val k).isSome_eq,<-l];exact h _ (I.tok _)
 ·subst ey;cases (show u=Value.ref b from ry);obtain⟨z,hd,xs,rel,dd⟩:=z85 I.hok e;refine wpAny_notIn_heap (tupleKind_room_in1 hu) (zun I.hok eb) hd dd ?_;have q:=(rel.val k).isSome_eq;rw[Option.isSome_map] at q;rw[<-q,<-l];exact h _ (I.tok _)
theorem zov {h':Heap}{t':Nat}{ob:HO} (I:Inv X pins σ H s) (mu:Mut (H a)) (hs:Heap.SameBut a s.heap h') (he:∃q,h'.get? a=some q) (new:zaz X.prog X.w (upd H a ob) h' a ob) :
  Inv X pins σ (upd H a ob) { s with heap:=h',toks:=t' } :=
 I.write (x:=a) (e:=a) mu (.inl rfl) (λb q hb z=>(hs.2 b hb).trans z) he new
theorem z3c {P:Program}{w:World}{H':Hp}{h':Heap}{kvs:List (Key×V)}{vs:List (Key×Value)} (z:kvs.length<=sizeLine) (hd:(a==sysModules)=false) (rel:KV kvs vs) (dd:h'.DictOf (zap P w) a vs) :
 zaz P w H' h' a (.dK kvs):=⟨z,hd,vs,rel,dd⟩
end
section
variable {X:Cx}{pins:List (Addr × Obj)}{σ:St}{H:Hp}{s:Shared}{a:Addr}{kvs:List (Key × V)}{k:Key}{u:Value}{A:Around}{E:Value->Shared->Prop}
end
section
variable {X:Cx}{o i e value:Expr}{pos pos' tpos:Pos}{td ty tv:TE}
end
theorem z00 {P:Program}{w:World}{H:Hp}(h:Heap)(hb:sysModules<h.objs.size):zaz P w H (h.push { cls:=.type "dict",data:=.dict #[] }) h.objs.size (.dK []) :=
 ⟨Bm _,beq_eq_false_iff_ne.mpr (Ne.symm (Az hb)),[],.nil,Heap.DictOf.new h⟩
section
variable {X:Cx}{pos:Pos}
end
noncomputable def zt1:List (TE×TE)->St->Hp->(List (V×V)->Hp->Prop)->Prop
 |[],_,H,Q=>Q [] H
 |(tk,tv)::r,σ,H,Q=>tk σ H λx H1=>tv σ H1 λy H2=>zt1 r σ H2 λps H3=>Q ((x,y)::ps) H3
abbrev VV:List (V×V)->List (Value×Value)->Prop:=Paired λp q=>RelV p.1 q.1/\RelV p.2 q.2
noncomputable def PPs (X:Cx) (pos:Pos) (keys:List (Option Expr)) (values:List Expr) (trs:List (TE×TE)):Prop :=
 ∀(pins:List (Addr×Obj)) (s:Shared) (σ:St) (H:Hp) (Q:List (V×V)->Hp->Prop),Inv X pins σ H s->zt1 trs σ H Q ->
  wpAny #v[1,7] X.A (evalPairs (pairTrees keys values X.env pos)) (λvs s'=>∃ps H',Inv X pins σ H' s'/\VV ps vs/\Q ps H') X.xe s
theorem z51 {X:Cx}{pos:Pos}:PPs X pos [] [] []:=λpins s σ H Q I h=>pairTrees_nil_walk ⟨[],H,I,.nil,h⟩
theorem z1k {X:Cx}{pos:Pos}{k v:Expr}{ks:List (Option Expr)}{vs:List Expr}{tk tv:TE}{trs:List (TE×TE)} (hk:PE X k tk) (hv:PE X v tv) (hr:PPs X pos ks vs trs) :
  PPs X pos (some k::ks) (v::vs) ((tk,tv)::trs):=λpins s σ H Q I h =>
 pairTrees_cons_walk (thn (hk pins s σ H _ I h) λu s1 ⟨x,H1,I1,rx,q1⟩=>thn (hv pins s1 σ H1 _ I1 q1) λw2 s2 ⟨y,H2,I2,ry,q2⟩ =>
  thn (hr pins s2 σ H2 _ I2 q2) λws s3 ⟨ps,H3,I3,rel,q3⟩=>⟨(x,y)::ps,H3,I3,.cons ⟨rx,ry⟩ rel,q3⟩)
def zen (kvs more:List (Key×V)):List (Key×V):=more.foldl (λacc kv=>putK acc kv.1 kv.2) kvs
theorem KV.merge:∀{more:List (Key×V)}{rs:List (Key×Value)}{kvs:List (Key×V)}{vs:List (Key×Value)},KV more rs->KV kvs vs->KV (zen kvs more) (merged vs rs):=by
 intro more rs kvs vs r;unfold KV at r
 induction r generalizing kvs vs with
 |nil=>intro q;exact q
 | @cons p q ps qs h t ih =>
  intro r0;have e:KV (putK kvs p.1 p.2) (stored vs q.1 q.2):=by
   have:=r0.put p.1 h.2;rw[<-h.1];exact this
  exact ih e
theorem zdh:∀(more kvs:List (Key×V)),(zen kvs more).length<=kvs.length+more.length
 |[],kvs=>by show kvs.length<=kvs.length+0;omega
 | p::r,kvs=>by
  have h1:=zdh r (putK kvs p.1 p.2);have h2:=zoc kvs p.1 p.2;show (zen (putK kvs p.1 p.2) r).length<=_;rw[Be];omega
theorem zjh {P:Program}{w:World}:∀{kvs:List (Key×V)}{ws:List (Value×Value)},VV (kvs.map λkv=>(kV kv.1,kv.2)) ws->∃rs,Carries (zap P w) ws rs/\KV kvs rs
 |[],_,r=>by rw[List.map_nil] at r;cases r;exact⟨[],True.intro,.nil⟩
 | p::kvs,_,r=>by
  rw[Am] at r;cases r with
  | @cons a b as bs h t =>
   obtain⟨rs,c,q⟩:=zjh (P:=P) (w:=w) t;obtain⟨b1,b2⟩:=b;exact⟨(p.1,b2)::rs,⟨zxx h.1,rfl,c⟩,.cons ⟨rfl,h.2⟩ q⟩
def z9b (trs:List (TE×TE)):TE:=λσ H Q=>∀p,H p=none->zt1 trs σ (upd H p (.dK [])) λps H2=>H2 p=some (.dK [])/\∃kvs:List (Key×V),ps=kvs.map (λkv=>(kV kv.1,kv.2))/\kvs.length<=15/\Q (.ref p) (upd H2 p (.dK (zen [] kvs)))
theorem z7k {X:Cx}{pos:Pos}{keys:List (Option Expr)}{values:List Expr}{trs:List (TE×TE)} (h:PPs X pos keys values trs) (hall:keys.all (·.isSome)=true) (hl:keys.length=values.length) (h0:keys≠[])
  (h15:keys.length<=15):PE X (.Dict keys values pos) (z9b trs):=by
 intro pins s σ H Q I q;have hn:=I.hok.fresh (Af s.heap.objs.size);have I1:=I.laid (a:=s.heap.objs.size) (o:=.dK []) (h':=s.heap.push { cls:=.type "dict",data:=.dict #[] }) (t':=s.toks) (λ_ _ q=>Ab _ q) (Af _) (z00 s.heap I.big);refine wpAny_Dict_walk (knd:=zap X.prog X.w) hall hl h0 h15 (thn (h pins _ σ _ _ I1 (q _ hn)) λws s2 ⟨ps,H2,I2,rel,e,kvs,ep,lk,q2⟩=>?_);subst ep;nofun;obtain⟨rs,c,rk⟩:=zjh (P:=X.prog) (w:=X.w) rel;obtain⟨z,hd,vs0,r0,dd⟩:=zyf I2.hok e;ac_rfl;cases r0;refine⟨rs,c,dd,λh' dd' hs=>⟨.ref s.heap.objs.size,_,?_,rfl,q2⟩⟩;have hz:(zen [] kvs).length<=sizeLine:=by
  have h1:=zdh kvs [];rw[Fj] at h1;rw[sizeLine_eq];omega
 have he:∃q,h'.get? s.heap.objs.size=some q:=let ⟨q,_,_,hq,_⟩:=dd';⟨q,hq⟩;exact zov I2 (by rw[e];exact True.intro) hs he (z3c hz hd (rk.merge .nil) dd')
section
variable {X:Cx}{pins:List (Addr × Obj)}{σ:St}{H:Hp}{s:Shared}{a:Addr}{y d:V}{u r:Value}{o:Option V}{A:Around}{E:Value->Shared->Prop}
end
section
variable {X:Cx}{o e f:Expr}{apos cpos:Pos}{td ty tx:TE}
end
section
variable {X:Cx}{pins:List (Addr × Obj)}{σ:St}{H:Hp}{s:Shared}{a:Addr}{kvs:List (Key × V)}{A:Around}{E:Value->Shared->Prop}
end
section
variable {X:Cx}{pins:List (Addr × Obj)}{σ:St}{H:Hp}{s:Shared}{a:Addr}{y:V}{u:Value}{A:Around}{E:Value->Shared->Prop}
end
section
variable {X:Cx}
theorem yal {bs:List Bool}{its:List Value}{i:Nat}{v:Value}(r:Vals (bs.map V.bl) its)(h:its[i]?=some v):∃b,bs[i]?=some b/\v=.bool b:=by
 have hl:=r.length;rw[Ae] at hl;have hi:i<bs.length:=by rw[hl];exact (Ak.mp h).1
 obtain⟨u,hu,ru⟩:=r.get (i:=i) (x:=.bl bs[i]) (by rw[Au,Ac hi];rfl);rw[h] at hu;obtain rfl:=sI hu;exact⟨bs[i],Ac hi,ru⟩
theorem zla {bs:List Bool}{i:Nat}(hi:i<bs.length):bs.getD i false=bs[i]:=by rw[Bg,Ac hi];rfl
theorem zyp (bs:List Bool):((List.range bs.length).any λi=>bs.getD i false)=bs.any id:=by
 rw[Em,List.any_eq_true,List.any_eq_true];constructor
 ·rintro ⟨i,hi,h⟩;rw[Bl] at hi;refine⟨bs[i],List.getElem_mem hi,?_⟩;rw[zla hi] at h;exact h
 ·rintro ⟨b,hb,h⟩;obtain⟨i,hi,e⟩:=Ck.mp hb;refine⟨i,Bl.mpr hi,?_⟩;rw[zla hi,e];exact h
theorem zvg (bs:List Bool):((List.range bs.length).all λi=>bs.getD i false)=bs.all id:=by
 rw[Em,Bd,Bd];constructor
 ·intro h b hb;obtain⟨i,hi,e⟩:=Ck.mp hb;have:=h i (Bl.mpr hi);rw[zla hi,e] at this;exact this
 ·intro h i hi;rw[Bl] at hi;rw[zla hi];exact h _ (List.getElem_mem hi)
theorem zr3 {P:Program}{w:World}{A:Around}{bs:List Bool}{its:List Value}(r:Vals (bs.map V.bl) its):TruthOf P w A (λi v=>its.toArray[i]?=some v) (λi=>bs.getD i false):=λi v s Q E hP hQ=>by
 obtain⟨b,hb,e⟩:=yal r (by simpa using hP);subst e;have:bs.getD i false=b:=by rw[Bg,hb];rfl
 have hQ':Q (bs.getD i false) s:=hQ;rw[this] at hQ';exact Cu hQ'
theorem z2k (hc:X.calm=true):zcb X (.builtin "any") (λxs H Q=>∃(a:Addr) (bs:List Bool),xs=[.ref a]/\SqL X.K H a (bs.map V.bl)/\Q (.bl (bs.any id)) H):=by
 intro pins s σ H xs us Q I r h;obtain⟨a,bs,rfl,hq,q⟩:=h;obtain⟨u,rfl,rx⟩:=vals1 r;cases rx;obtain⟨its,rv,p,hz⟩:=I.list hq;have hl:=rv.length;rw[Ae] at hl;have ha:a<s.heap.objs.size:=by obtain⟨o,e,_⟩:=p.isList;exact Ai e
 refine call_any_walk (Di p.isList ?_);refine⟨s.heap.objs.size,_,[s.heap.objs.size],its.toArray.size,_,_,_,rfl,Hg (A:=X.A.in1) (show X.A.in1.handled=none from I.ok.hd hc) _ a (Az ha) its.toArray,⟨⟨_,An _ rfl,rfl,rfl⟩,p.isList.push _⟩,zr3 rv,λh' tk hk=>?_⟩;have e:its.toArray.size=bs.length:=by simp;omega
 rw[e,zyp];refine⟨.bl _,H,I.kept λb o hb=>?_,rfl,q⟩;exact hk b o (by intro z;rw[Ao] at z;subst z;exact absurd (Ai hb) (Bt _)) (Ab _ hb)
theorem z1p (hc:X.calm=true):zcb X (.builtin "all") (λxs H Q=>∃(a:Addr) (bs:List Bool),xs=[.ref a]/\SqL X.K H a (bs.map V.bl)/\Q (.bl (bs.all id)) H):=by
 intro pins s σ H xs us Q I r h;obtain⟨a,bs,rfl,hq,q⟩:=h;obtain⟨u,rfl,rx⟩:=vals1 r;cases rx;obtain⟨its,rv,p,hz⟩:=I.list hq;have hl:=rv.length;rw[Ae] at hl;have ha:a<s.heap.objs.size:=by obtain⟨o,e,_⟩:=p.isList;exact Ai e
 refine call_all_walk (Di p.isList ?_);refine⟨s.heap.objs.size,_,[s.heap.objs.size],its.toArray.size,_,_,_,rfl,Hg (A:=X.A.in1) (show X.A.in1.handled=none from I.ok.hd hc) _ a (Az ha) its.toArray,⟨⟨_,An _ rfl,rfl,rfl⟩,p.isList.push _⟩,zr3 rv,λh' tk hk=>?_⟩;have e:its.toArray.size=bs.length:=by simp;omega
 rw[e,zvg];refine⟨.bl _,H,I.kept λb o hb=>?_,rfl,q⟩;exact hk b o (by intro z;rw[Ao] at z;subst z;exact absurd (Ai hb) (Bt _)) (Ab _ hb)
theorem z12:zcb X (.builtin "isinstance") (λxs H Q=>∃x t c b,xs=[x,.ty c]/\TyOf X.K H x t/\PySem.W.kitOne X.K t (.type c)=some b/\Q (.bl b) H):=by
 intro pins s σ H xs us Q I r h;nofun;obtain⟨x,t,c,b,rfl,ty,e,q⟩:=h;ac_rfl;cases r with
 | cons rx rr =>
  obtain⟨u,rfl,rc⟩:=vals1 rr;cases (show u=Value.type c from rc);exact zvu I rx ty e λtk=>⟨.bl b,H,I.tok _,rfl,q⟩
theorem yab:OpR X (compareOp .Is) (λx y H Q=>∃b,y=.bl b/\Q (.bl (decide (x=.bl b))) H):=by
 intro pins s σ H x y v u Q I rx ry h;obtain⟨b,rfl,q⟩:=h;cases ry;cases x with
 |bl c=>cases rx;exact Ei rfl (zaj I q (by cases b<;>cases c<;>rfl))
 |non=>cases rx;exact Ei rfl (zaj I q (by cases b<;>rfl))
 |ref _=>cases rx;exact Ei rfl (zaj I q (by cases b<;>rfl))
 |ty _=>cases rx;exact Ei rfl (zaj I q (by cases b<;>rfl))
 |int _=>obtain⟨t,e⟩:=rx;subst e;exact Ei rfl (zaj I q (by cases b<;>rfl))
 |str _=>obtain⟨t,e⟩:=rx;subst e;exact Ei rfl (zaj I q (by cases b<;>rfl))
 |byt _=>obtain⟨t,e⟩:=rx;subst e;exact Ei rfl (zaj I q (by cases b<;>rfl))
 |flt _=>obtain⟨t,e⟩:=rx;subst e;exact Ei rfl (zaj I q (by cases b<;>rfl))
end
def ycg (i j:Int):Prop:=Builtin.Int.intBits i<=2^20/\Builtin.Int.intBits j<=2^20
theorem z6i {X:Cx}:OpR X (binaryOp .Mult) (rI ycg λi j=>.int (i*j)):=opI λ_ _ _ _ _ _ _ hc q=>mul_int q (IntMulOk.of_bits hc.1 hc.2)
structure Cal (P:Program) (w:World) (K:PySem.W.Frag) (mg:Str->Option Value) (base:Heap) (n:Nat) (x:Str) (ps:List Str) (sp:Sp):Prop where
 ex:∃f fd,FnOk P w K mg base CX0 n f fd ps sp/\zpo K fd ps []/\PySem.W.keepIn K (.ref f)=true/\mg x=some (.ref f)
theorem yat {X:Cx}{n k:Nat}{x:Str}{ps:List Str}{sp:Sp}{e:Expr}{es:List Expr}{t:TA}{p pos:Pos} (C:Cal X.prog X.w X.K X.mg X.base n x ps sp) (hr:Room k X.A) (hg:Gl X x) (ha:PA X (e::es) t) (hk:n<=k:=by decide)
  (hdb:(x==("__debug__" : Str))=false:=by decide) (hs:starEach (e::es) X.env=(false,eval e X.env)::starEach es X.env:=by rfl) (hpl:(backTo pos (starEach es X.env)).any (·.1)=false:=by rfl) :
  PE X (.Call (.Name x p) (e::es) [] pos) (z4e sp [] E0 t):=by
 nofun;obtain⟨f,fd,F,b,kp,m⟩:=C.ex;ac_rfl;exact z4t F (hr.mono hk) hg m kp b .nil ycr ha hdb hs hpl
theorem Same.new {p:Addr}{H:Hp}(h:H p=none)(o:HO):Same H (L2.upd H p o):=λb u e=>by rw[upd_ne (zac e h)];exact e
theorem SqL.of' {K:PySem.W.Frag}{H:Hp}{a:Addr}{xs:List V}(h:H a=some (.lst xs)):SqL K H a xs:=.inl (.inl h)
noncomputable def MM:Int:=2305843009213693951
noncomputable def big:Nat:=1099511627776
def Bits (xs:List Int):Prop:=∀x∈xs,x=0\/x=1
noncomputable def zab (xs:List Int):Int:=xs.foldr (λb a=>2*a+b) 0
theorem yb8:bootBuiltins "len" = some (.builtin "len"):=by decide +kernel
theorem z8a:bootBuiltins "abs" = some (.builtin "abs"):=by decide +kernel
theorem z8z:bootBuiltins "any" = some (.builtin "any"):=by decide +kernel
theorem z86:bootBuiltins "all" = some (.builtin "all"):=by decide +kernel
theorem yar:bootBuiltins "sum" = some (.builtin "sum"):=by decide +kernel
theorem zjr:bootBuiltins "isinstance" = some (.builtin "isinstance"):=by decide +kernel
theorem z30:bootBuiltins "int" = some (.type "int"):=by decide +kernel
theorem z60:bootBuiltins "bool" = some (.type "bool"):=by decide +kernel
theorem z9k:bootBuiltins "str" = some (.type "str"):=by decide +kernel
theorem zrl:bootBuiltins "tuple" = some (.type "tuple"):=by decide +kernel
theorem zp3:bootBuiltins "list" = some (.type "list"):=by decide +kernel
theorem z1v {w:Int}{i:Nat}(h0:0<w)(h:w<=2^(200*i)):0<w*10^60/\w*10^60<=2^(200*(i+1)):=by
 have e:(2:Int)^(200*(i+1))=2^(200*i)*2^200:=by rw[Nat.mul_add,Int.pow_add]
 rw[e];refine⟨Int.mul_pos h0 #v[0,9],?_⟩;have h1:w*10^60<=2^(200*i)*10^60:=Int.mul_le_mul_of_nonneg_right h #v[0,9];have h2:(2:Int)^(200*i)*10^60<=2^(200*i)*2^200:=Int.mul_le_mul_of_nonneg_left #v[0,9] #v[];omega
theorem zkx {w:Int}{i:Nat}(h0:0<=w)(h:w<=2^(200*i))(hi:i<=63):Builtin.Int.intBits w<=2^20:=by
 have h1:(2:Int)^(200*i)<2^(200*i+1):=by rw[Int.pow_succ];have:(0:Int)<2^(200*i):=Int.pow_pos #v[0,9];omega
 have h2:w.natAbs<2^(200*i+1):=by
  have:((w.natAbs:Nat):Int)<((2^(200*i+1):Nat):Int):=by
   rw[Int.natCast_pow];have e:((w.natAbs:Nat):Int)=w:=by omega
   rw[e];exact Int.lt_of_le_of_lt h h1
  exact Int.ofNat_lt.mp this
 have:=PyProof.Rows.intBits_le h2;omega
theorem zh3:∀{xs:List Int},Bits xs->0<=zab xs/\zab xs<2^xs.length
 |[],_=>by decide
 | x::r,h=>by
  have hx:=h x Ax;have ih:=zh3 (xs:=r) λy hy=>h y (As _ hy);show 0<=2*zab r+x/\2*zab r+x<2^(r.length+1);rw[Int.pow_succ];omega
noncomputable def zak:Expr->Bool
 |.Starred ..=>false
 |_=>true
theorem zag {e:Expr}{es:List Expr}{env:Env}(h:zak e=true):starEach (e::es) env=(false,eval e env)::starEach es env:=by
 cases e<;>first|rfl|(cases h)
theorem pac {X:Cx}{e:Expr}{es:List Expr}{te:TE}{t:TA}(ha:PE X e te)(hr:PA X es t)(h:zak e=true:=by rfl):PA X (e::es) (zfs te t):=zpj ha hr (zag h)
end L2
namespace L2
theorem noSome {α:Type}{a:α}{P:Prop}(h:none=some a):P:=by cases h
open PySem PySem.Spec PyProof.Rows
abbrev DKey:=Key ⊕ List Key
inductive W where
 |non|bl (b:Bool)|int (i:Int)|str (x:Str)|tup (xs:List W)|lst (xs:List W)|frl (xs:List W)|dic|dct (ks:List DKey) (vs:List W)
 deriving BEq,Inhabited
mutual
inductive Rep (K:PySem.W.Frag) (F:Hp):W->V->Prop where
 |non:Rep K F .non .non
 |bl (b:Bool):Rep K F (.bl b) (.bl b)
 |int (i:Int):Rep K F (.int i) (.int i)
 |str (x:Str):Rep K F (.str x) (.str x)
 |tup {ws:List W}{a:Addr}{vs:List V} (h:F a=some (.tup vs)) (r:Reps K F ws vs):Rep K F (.tup ws) (.ref a)
 |lst {ws:List W}{a:Addr}{vs:List V} (h:F a=some (.lst vs)) (r:Reps K F ws vs):Rep K F (.lst ws) (.ref a)
 |frl {ws:List W}{a:Addr}{vs:List V} (h:SqL K F a vs) (r:Reps K F ws vs):Rep K F (.frl ws) (.ref a)
 |dic {a:Addr}{kvs:List (Key×V)} (h:F a=some (.dK kvs)):Rep K F .dic (.ref a)
 |dct {a:Addr}{ks:List Key}{ws:List W}{vs:List V} (h:F a=some (.dK (ks.zip vs))) (hl:ks.length=vs.length) (r:Reps K F ws vs):Rep K F (.dct (ks.map .inl) ws) (.ref a)
 |dctT {a:Addr}{ks:List (List Key)}{ws:List W}{vs:List V} (h:F a=some (.dT (ks.zip vs))) (hl:ks.length=vs.length) (r:Reps K F ws vs):Rep K F (.dct (ks.map .inr) ws) (.ref a)
inductive Reps (K:PySem.W.Frag) (F:Hp):List W->List V->Prop where
 |nil:Reps K F [] []
 |cons {w:W}{v:V}{ws:List W}{vs:List V} (h:Rep K F w v) (r:Reps K F ws vs):Reps K F (w::ws) (v::vs)
end
theorem zfh {α:Type}{l:List α}{i j:Nat}{x y:α}(hi:i<l.length)(h:(l.set i x)[j]?=some y):(j=i/\y=x)\/(j≠i/\l[j]?=some y):=by
 by_cases e:j=i
 ·subst e;rw[Dq hi] at h;exact .inl ⟨rfl,(sI h).symm⟩
 ·rw[Dm (Ne.symm e)] at h;exact .inr ⟨e,h⟩
theorem zz8 {α:Type}{l:List α}{i:Nat}{x:α}(h:l[i]?=some x):l.set i x=l:=by
 apply De;intro j;by_cases e:j=i
 ·subst e;rw[Dq (Ak.mp h).1,h]
 ·rw[Dm (Ne.symm e)]
section
variable {K:PySem.W.Frag}{F F' H H' : Hp}
mutual
theorem Rep.mono (s:Same F F'):∀{w:W}{v:V},Rep K F w v->Rep K F' w v
 |_,_,.non=>.non
 |_,_,.bl b=>.bl b
 |_,_,.int i=>.int i
 |_,_,.str x=>.str x
 |_,_,.tup h r=>.tup (s _ _ h) (Reps.mono s r)
 |_,_,.lst h r=>.lst (s _ _ h) (Reps.mono s r)
 |_,_,.frl h r=>.frl (s.seq h) (Reps.mono s r)
 |_,_,.dic h=>.dic (s _ _ h)
 |_,_,.dct h hl r=>.dct (s _ _ h) hl (Reps.mono s r)
 |_,_,.dctT h hl r=>.dctT (s _ _ h) hl (Reps.mono s r)
theorem Reps.mono (s:Same F F'):∀{ws:List W}{vs:List V},Reps K F ws vs->Reps K F' ws vs
 |_,_,.nil=>.nil
 |_,_,.cons h r=>.cons (Rep.mono s h) (Reps.mono s r)
end
theorem Reps.length:∀{ws:List W}{vs:List V},Reps K F ws vs->ws.length=vs.length
 |_,_,.nil=>rfl
 |_,_,.cons _ r=>congrArg (· + 1) (Reps.length r)
theorem Reps.get:∀{ws:List W}{vs:List V}{i:Nat}{w:W},Reps K F ws vs->ws[i]?=some w->∃v,vs[i]?=some v/\Rep K F w v
 |_,_,_,_,.nil,e=>by simp at e
 |_,_,0,_,.cons h _,e=>by simp at e;subst e;exact⟨_,rfl,h⟩
 | _,_,i+1,w,.cons _ r,e=>by
  obtain⟨v,h1,h2⟩:=Reps.get (i:=i) (w:=w) r (by simpa using e);exact⟨v,by simpa using h1,h2⟩
theorem Reps.getV:∀{ws:List W}{vs:List V}{i:Nat}{v:V},Reps K F ws vs->vs[i]?=some v->∃w,ws[i]?=some w/\Rep K F w v
 |_,_,_,_,.nil,e=>by simp at e
 |_,_,0,_,.cons h _,e=>by simp at e;subst e;exact⟨_,rfl,h⟩
 | _,_,i+1,v,.cons _ r,e=>by
  obtain⟨w,h1,h2⟩:=Reps.getV (i:=i) (v:=v) r (by simpa using e);exact⟨w,by simpa using h1,h2⟩
theorem Reps.append:∀{xs ys:List W}{us ws:List V},Reps K F xs us->Reps K F ys ws->Reps K F (xs++ys) (us++ws)
 |_,_,_,_,.nil,s=>s
 |_,_,_,_,.cons h r,s=>.cons h (Reps.append r s)
theorem Reps.take:∀{xs:List W}{us:List V} (n:Nat),Reps K F xs us->Reps K F (xs.take n) (us.take n)
 |_,_,0,_=>.nil
 |_,_,_+1,.nil=>.nil
 |_,_,n+1,.cons h r=>.cons h (Reps.take n r)
theorem Reps.drop:∀{xs:List W}{us:List V} (n:Nat),Reps K F xs us->Reps K F (xs.drop n) (us.drop n)
 |_,_,0,r=>r
 |_,_,_+1,.nil=>.nil
 |_,_,n+1,.cons _ r=>Reps.drop n r
theorem Reps.set {w:W}{v:V}(h:Rep K F w v):∀{xs:List W}{us:List V} (i:Nat),Reps K F xs us->Reps K F (xs.set i w) (us.set i v)
 |_,_,_,.nil=>.nil
 |_,_,0,.cons _ r=>.cons h r
 |_,_,i+1,.cons q r=>.cons q (Reps.set h i r)
theorem Reps.rep {xs:List W}{us:List V}(r:Reps K F xs us):∀k:Nat,Reps K F (List.replicate k xs).flatten (List.replicate k us).flatten
 |0=>.nil
 |k+1=>by rw[Cp,Cp,Ea,Ea];exact r.append (r.rep k)
noncomputable def isIt:W->V->Prop
 |.int i,v=>v=.int i
 |.bl b,v=>v=.bl b
 |_,_=>True
theorem Rep.isIt {w:W}{v:V}(h:Rep K F w v):isIt w v:=by cases h<;>first|rfl|trivial
theorem Reps.uncons {w:W}{ws:List W}{vs:List V}(h:Reps K F (w::ws) vs):∃v us,vs=v::us/\Rep K F w v/\Reps K F ws us:=by
 cases h with
 |cons h r=>exact⟨_,_,rfl,h,r⟩
theorem Reps.ints:∀{ns:List Int}{vs:List V},Reps K F (ns.map W.int) vs->vs=ns.map V.int:=by
 intro ns
 induction ns with
 |nil=>intro vs h;cases h;rfl
 | cons n ns ih =>
  intro vs h;obtain⟨v,us,e,h1,h2⟩:=Reps.uncons h;rw[e,ih h2,show v=.int n from h1.isIt];rfl
theorem Reps.ofInts:∀(ns:List Int),Reps K F (ns.map W.int) (ns.map V.int)
 |[]=>.nil
 |n::ns=>.cons (.int n) (Reps.ofInts ns)
theorem Reps.bls:∀{bs:List Bool}{vs:List V},Reps K F (bs.map W.bl) vs->vs=bs.map V.bl:=by
 intro ns
 induction ns with
 |nil=>intro vs h;cases h;rfl
 | cons n ns ih =>
  intro vs h;obtain⟨v,us,e,h1,h2⟩:=Reps.uncons h;rw[e,ih h2,show v=.bl n from h1.isIt];rfl
noncomputable abbrev En:=List (Option (W×Bool))
noncomputable abbrev Prt:=Addr->HO->Prop
inductive OwnR (K:PySem.W.Frag) (F:Hp):W->HO->Prop where
 |lst {ws:List W}{vs:List V} (r:Reps K F ws vs):OwnR K F (.lst ws) (.lst vs)
 |dct {ks:List Key}{ws:List W}{vs:List V} (hl:ks.length=vs.length) (r:Reps K F ws vs):OwnR K F (.dct (ks.map .inl) ws) (.dK (ks.zip vs))
 |dctT {ks:List (List Key)}{ws:List W}{vs:List V} (hl:ks.length=vs.length) (r:Reps K F ws vs):OwnR K F (.dct (ks.map .inr) ws) (.dT (ks.zip vs))
theorem OwnR.mono {w:W}{o:HO}(s:Same F F')(h:OwnR K F w o):OwnR K F' w o:=by
 cases h with
 |lst r=>exact .lst (r.mono s)
 |dct hl r=>exact .dct hl (r.mono s)
 |dctT hl r=>exact .dctT hl (r.mono s)
theorem OwnR.rep {w:W}{o:HO}{a:Addr}(h:OwnR K F w o)(e:F a=some o):Rep K F w (.ref a):=by
 cases h with
 |lst r=>exact .lst e r
 |dct hl r=>exact .dct e hl r
 |dctT hl r=>exact .dctT e hl r
theorem OwnR.list {ws:List W}{o:HO}(h:OwnR K F (.lst ws) o):∃vs,o=.lst vs/\Reps K F ws vs:=by
 cases h with
 |lst r=>exact⟨_,rfl,r⟩
noncomputable def lams:List Str:=["_law_terms","_law_in_order","_law_poly_of","voted_terms","law"]
noncomputable def lamQ (x:Str):Str:=x++".<locals>."++"<lambda>"
def zdt (c:Addr) (q:Str) (h:Heap):Prop:=∃oc vs t,h.get? c=some oc/\oc.data=.fields vs/\vs[1]?=some (.str q t)
def z43 (K:PySem.W.Frag):Prop:=∀x∈lams,∀x'∈lams,∀c c' P,PySem.W.tabIn K x=some (c,P)->PySem.W.tabIn K x'=some (c',P)->x=x'
noncomputable def ztd (K:PySem.W.Frag) (F:Hp) (pr:Prt) (H:Hp):Prop:=z43 K/\∀x∈lams,∀c P,PySem.W.tabIn K x=some (c,P)->∃ps:Array Value,H P=some (.tbl ps)/\F P=none/\(∀o,¬ pr P o)/\TriplesOk ps.toList /\
 ∀pos cv,codeAmong pos ps.toList=some cv->∃c',cv=.ref c'/\F c'=some (.ext (zdt c' (lamQ x)))
theorem ztd.go {F F' H H':Hp}{pr pr':Prt}(T:ztd K F pr H)(h1:∀b ps,H b=some (.tbl ps)->F b=none->H' b=some (.tbl ps)/\F' b=none)(h2:Same F F')(h3:∀b ps,H b=some (.tbl ps)->(∀o,¬ pr b o)->∀o,¬ pr' b o):ztd K F' pr' H':=⟨T.1,λx hx c P e=>by
 nofun;obtain⟨ps,a1,a2,a3,a4,a5⟩:=T.2 x hx c P e;ac_rfl;refine⟨ps,(h1 P ps a1 a2).1,(h1 P ps a1 a2).2,h3 P ps a1 a3,a4,λpos cv q=>?_⟩;obtain⟨c',b1,b2⟩:=a5 pos cv q;exact⟨c',b1,h2 _ _ b2⟩⟩
structure Rel (K:PySem.W.Frag) (F:Hp) (pr:Prt) (en:En) (σ:St) (H:Hp):Prop where
 len:en.length=σ.length
 sub:Same F H
 val:∀(i:Nat) (w:W),en[i]?=some (#v[w,6])->∃v,σ[i]?=some (some v)/\Rep K F w v
 own:∀(i:Nat) (w:W),en[i]?=some (#v[w,5])->∃(a:Addr) (o:HO) (w':W),w=w'/\σ[i]?=some (some (V.ref a))/\H a=some o/\F a=none/\OwnR K F w' o
 inj:∀(i j:Nat) (a:Addr) (w w':W),en[i]?=some (#v[w,5])->en[j]?=some (#v[w',5])->σ[i]?=some (some (V.ref a))->σ[j]?=some (some (V.ref a))->i=j
 prt:∀b o,pr b o->H b=some o/\F b=none/\∀(i:Nat) (w:W),en[i]?=some (#v[w,5])->σ[i]?≠some (some (V.ref b))
 tb:ztd K F pr H
noncomputable def Res (K:PySem.W.Frag) (F H:Hp) (pr:Prt) (en:En) (σ:St):W×Bool->V->Prop
 |(w,false),v=>Rep K F w v
 |(w,true),v=>∃(a:Addr) (o:HO) (w':W),w=w'/\v=V.ref a/\H a=some o/\F a=none/\OwnR K F w' o/\(∀(i:Nat) (w':W),en[i]?=some (#v[w',5])->σ[i]?≠some (some (V.ref a)))/\∀b o,pr b o->b≠a
noncomputable def RepB (K:PySem.W.Frag) (F H:Hp) (w:W) (v:V):Prop:=Rep K F w v\/∃(a:Addr) (o:HO) (w':W),w=w'/\v=V.ref a/\H a=some o/\OwnR K F w' o
inductive Out (K:PySem.W.Frag) (F H:Hp):W×Bool->V->Hp->Prop where
 |val {w:W}{v:V} (r:Rep K F w v):Out K F H (w,false) v H
 |lst {p:Addr}{ws:List W}{vs:List V} (n:H p=none) (r:Reps K F ws vs):Out K F H (.lst ws,true) (.ref p) (upd H p (.lst vs))
 |tup {p:Addr}{ws:List W}{vs:List V} (n:H p=none) (r:Reps K F ws vs):Out K F H (.tup ws,false) (.ref p) (upd H p (.tup vs))
theorem Same.upd_both {F H:Hp}(s:Same F H)(p:Addr)(o:HO):Same (upd F p o) (upd H p o):=λb u e=>by
 by_cases hb:b=p
 ·subst hb;rw[upd_same] at e ⊢;exact e
 ·rw[upd_ne hb] at e ⊢;exact s _ _ e
variable {pr:Prt}{en:En}{σ:St}
theorem Rel.lay (R:Rel K F pr en σ H){p:Addr}(hp:H p=none)(o:HO):Rel K F pr en σ (upd H p o):=by
 have ne:∀a u,H a=some u->a≠p:=λa u e=>zac e hp;refine⟨R.len,R.sub.trans (Same.new hp o),R.val,λi w e=>?_,R.inj,λq o2 hq=>?_,R.tb.go (λb ps e f=>⟨by rw[upd_ne (ne b _ e)];exact e,f⟩) (.refl F) λb ps e h=>h⟩
 ·refine aG λGg qG => ?_;obtain⟨a,vs,ws,h1,h2,h3,h4,h5⟩:=R.own i w e;ac_rfl;exact⟨a,vs,ws,h1,h2,by rw[upd_ne (ne a _ h3)];exact h3,h4,h5⟩
 ·obtain⟨h1,h2,h3⟩:=R.prt q o2 hq;exact⟨by rw[upd_ne (ne _ _ h1)];exact h1,h2,h3⟩
theorem Rel.layF (R:Rel K F pr en σ H){p:Addr}(hp:H p=none)(o:HO):Rel K (upd F p o) pr en σ (upd H p o):=by
 have ne:∀a u,H a=some u->a≠p:=λa u e=>zac e hp;have fp:F p=none:=R.sub.free hp;have s:Same F (upd F p o):=Same.new fp o;refine⟨R.len,R.sub.upd_both p o,λi w e=>?_,λi w e=>?_,R.inj,λq o2 hq=>?_,R.tb.go (λb ps e f=>⟨by rw[upd_ne (ne b _ e)];exact e,by rw[upd_ne (ne b _ e)];exact f⟩) s λb ps e h=>h⟩
 ·obtain⟨v,h1,h2⟩:=R.val i w e;exact⟨v,h1,h2.mono s⟩
 ·refine aG λGg qG => ?_;obtain⟨a,vs,ws,h1,h2,h3,h4,h5⟩:=R.own i w e;ac_rfl;exact⟨a,vs,ws,h1,h2,by rw[upd_ne (ne a _ h3)];exact h3,by rw[upd_ne (ne a _ h3)];exact h4,h5.mono s⟩
 ·obtain⟨h1,h2,h3⟩:=R.prt q o2 hq;exact⟨by rw[upd_ne (ne _ _ h1)];exact h1,by rw[upd_ne (ne _ _ h1)];exact h2,h3⟩
theorem Out.close {r:W×Bool}{v:V} (R:Rel K F pr en σ H) (o:Out K F H r v H'):∃F',Same F F'/\Rel K F' pr en σ H'/\Res K F' H' pr en σ r v:=by
 cases o with
 |val r=>exact⟨F,.refl F,R,r⟩
 | @lst p ws vs n r =>
  refine⟨F,.refl F,R.lay n _,p,_,_,rfl,rfl,upd_same,R.sub.free n,.lst r,λi w' e z=>?_,λq o2 hq z=>?_⟩
  ·obtain ⟨a,vs,ws,h1,h2,h3,h4,h5⟩:=R.own i w' e
   rw[h2] at z;cases z;rw[n] at h3;exact noSome h3
  ·have:=(R.prt q o2 hq).1
   rw[z,n] at this;exact noSome this
 |@tup p ws vs n r=>exact⟨upd F p (.tup vs),Same.new (R.sub.free n) _,R.layF n _,.tup upd_same (r.mono (Same.new (R.sub.free n) _))⟩
theorem Out.mono {r:W×Bool}{v:V}(s:Same F F')(o:Out K F H r v H'):Out K F' H r v H':=by
 cases o with
 |val r=>exact .val (r.mono s)
 |lst n r=>exact .lst n (r.mono s)
 |tup n r=>exact .tup n (r.mono s)
theorem Res.freeze {r:W×Bool}{v:V} (R:Rel K F pr en σ H) (h:Res K F H pr en σ r v):∃F',Same F F'/\Rel K F' pr en σ H/\Rep K F' r.1 v:=by
 obtain⟨w,b⟩:=r;cases b with
 |false=>exact⟨F,.refl F,R,h⟩
 | true =>
  nofun;obtain⟨a,vs,ws,rfl,rfl,h1,h2,h3,h4,h5⟩:=h;ac_rfl;have s:Same F (upd F a vs):=Same.new h2 _;have nt:∀ps,vs≠.tbl ps:=λps z=>by cases h3<;>cases z
  refine⟨upd F a vs,s,⟨R.len,λb u e=>?_,λi w e=>?_,λi w e=>?_,R.inj,λq o2 hq=>?_,R.tb.go (λb ps e f=>⟨e,by rw[upd_ne (λz=>by subst z;rw[h1] at e;exact nt ps (sI e))];exact f⟩) s λb ps e h=>h⟩,(h3.mono s).rep upd_same⟩
  ·by_cases hb:b=a
   ·subst hb;rw[upd_same] at e;obtain rfl:=sI e;exact h1
   ·rw[upd_ne hb] at e;exact R.sub _ _ e
  ·obtain ⟨v,q1,q2⟩:=R.val i w e
   exact⟨v,q1,q2.mono s⟩
  ·refine aG λGg qG => ?_
   obtain⟨a',vs',ws',q1,q2,q3,q4,q5⟩:=R.own i w e;ac_rfl;have ne:a'≠a:=λz=>by subst z;exact h4 i w e q2
   exact⟨a',vs',ws',q1,q2,q3,by rw[upd_ne ne];exact q4,q5.mono s⟩
  ·obtain ⟨q1,q2,q3⟩:=R.prt q o2 hq
   exact⟨q1,by rw[upd_ne (h5 q o2 hq)];exact q2,q3⟩
theorem Rel.freeze (R:Rel K F pr en σ H) {i:Nat}{w:W}{v:V}{fl:Bool} (e:en[i]?=some (some (w,fl))) (hv:σ[i]?=some (some v)):∃F',Same F F'/\Rel K F' pr (en.set i (some (w,false))) σ H/\Rep K F' w v:=by
 have hi:i<en.length:=(Ak.mp e).1;cases fl with
 | false =>
  obtain⟨v',h1,h2⟩:=R.val i w e;rw[hv] at h1;cases h1;refine⟨F,.refl F,?_,h2⟩;rw[zz8 e];exact R
 | true =>
  nofun;obtain⟨a,vs,ws,e0,h2,h3,h4,h5⟩:=R.own i w e;ac_rfl;subst e0;rw[hv] at h2;cases h2;have s:Same F (upd F a vs):=Same.new h4 _;have nt:∀ps,vs≠.tbl ps:=λps z=>by cases h5<;>cases z
  have g:∀j w' b,(en.set i (some (w,false)))[j]?=some (some (w',b))->(j=i/\w'=w/\b=false)\/(j≠i/\en[j]?=some (some (w',b))):=λj w' b h=>by
   rcases zfh hi h with⟨z,q⟩|z
   ·cases q;exact .inl ⟨z,rfl,rfl⟩
   ·exact .inr z
  refine⟨upd F a vs,s,⟨by rw[Ek];exact R.len,λb u e'=>?_,λj w' e'=>?_,λj w' e'=>?_,λj k b w1 w2 e1 e2=>?_,λq o2 hq=>?_,R.tb.go (λb ps e f=>⟨e,by rw[upd_ne (λz=>by subst z;rw[h3] at e;exact nt ps (sI e))];exact f⟩) s λb ps e h=>h⟩,(h5.mono s).rep upd_same⟩
  ·by_cases hb:b=a
   ·subst hb;rw[upd_same] at e';obtain rfl:=sI e';exact h3
   ·rw[upd_ne hb] at e';exact R.sub _ _ e'
  ·rcases g j w' false e' with ⟨rfl,rfl,_⟩ | ⟨_,z⟩
   ·exact⟨_,hv,(h5.mono s).rep upd_same⟩
   ·obtain ⟨v', q1,q2⟩:=R.val j w' z
    exact⟨v',q1,q2.mono s⟩
  ·rcases g j w' true e' with ⟨_,_,z⟩ | ⟨ne,z⟩
   ·cases z
   ·refine aG λGg qG => ?_
    obtain⟨a',vs',ws',q1,q2,q3,q4,q5⟩:=R.own j w' z;ac_rfl;have ne2:a'≠a:=λq=>by subst q;exact ne (R.inj j i a' _ _ z e q2 hv)
    exact⟨a',vs',ws',q1,q2,q3,by rw[upd_ne ne2];exact q4,q5.mono s⟩
  ·rcases g j w1 true e1 with ⟨_,_,z⟩ | ⟨_,z1⟩
   ·cases z
   ·rcases g k w2 true e2 with ⟨_,_,z⟩ | ⟨_,z2⟩
    ·cases z
    ·exact R.inj j k b _ _ z1 z2
  ·obtain ⟨q1,q2,q3⟩:=R.prt q o2 hq
   have ne:q≠a:=λz=>by
    have:=q3 i _ e;rw[hv,z] at this;exact this rfl
   refine⟨q1,by rw[upd_ne ne];exact q2,λj w' e'=>?_⟩;rcases g j w' true e' with⟨_,_,z⟩|⟨_,z⟩
   ·cases z
   ·exact q3 j w' z
theorem Rel.repB (R:Rel K F pr en σ H) {i:Nat}{w:W}{fl:Bool}{v:V} (e:en[i]?=some (some (w,fl))) (hv:σ[i]?=some (some v)):RepB K F H w v:=by
 cases fl with
 | false =>
  obtain⟨v',h1,h2⟩:=R.val i w e;rw[hv] at h1;cases h1;exact .inl h2
 | true =>
  nofun;obtain⟨a,o,ws,h1,h2,h3,h4,h5⟩:=R.own i w e;ac_rfl;rw[hv] at h2;cases h2;exact .inr ⟨a,o,ws,h1,rfl,h3,h5⟩
theorem Rel.has (R:Rel K F pr en σ H){i:Nat}{w:W}{fl:Bool}(e:en[i]?=some (some (w,fl))):∃v,σ[i]?=some (some v):=by
 cases fl with
 |false=>obtain⟨v,h,_⟩:=R.val i w e;exact⟨v,h⟩
 |true=>obtain⟨a,_,_,_,h,_⟩:=R.own i w e;exact⟨_,h⟩
theorem Rel.store (R:Rel K F pr en σ H){i:Nat}{r:W×Bool}{v:V}(h:Res K F H pr en σ r v)(hi:i<en.length):Rel K F pr (en.set i (some r)) (σ.set i (some v)) H:=by
 have hi':i<σ.length:=by rw[<-R.len];exact hi
 have g:∀j x,(en.set i (some r))[j]?=some (some x)->(j=i/\x=r)\/(j≠i/\en[j]?=some (some x)):=λj x h=>by
  rcases zfh hi h with⟨z,q⟩|z
  ·obtain rfl:=sI q;exact .inl ⟨z,rfl⟩
  ·exact .inr z
 have s1:(σ.set i (some v))[i]?=some (some v):=Dq hi';have s2:∀j,j≠i->(σ.set i (some v))[j]?=σ[j]?:=λj hj=>Dm (Ne.symm hj);refine⟨by rw[Ek,Ek];exact R.len,R.sub,λj w e=>?_,λj w e=>?_,λj k a w1 w2 e1 e2=>?_,λq o2 hq=>?_,R.tb⟩
 ·rcases g j _ e with⟨rfl,z⟩|⟨hj,z⟩
  ·subst z;exact⟨v,s1,h⟩
  ·rw[s2 j hj];exact R.val j w z
 ·rcases g j _ e with⟨rfl,z⟩|⟨hj,z⟩
  ·subst z;obtain⟨a,vs,ws,h1,h2,h3,h4,h5,_⟩:=h;exact⟨a,vs,ws,h1,by rw[s1,h2],h3,h4,h5⟩
  ·rw[s2 j hj];exact R.own j w z
 ·intro q1 q2;rcases g j _ e1 with⟨rfl,z1⟩|⟨hj,z1⟩
  ·rcases g k _ e2 with⟨rfl,z2⟩|⟨hk,z2⟩
   ·rfl
   ·subst z1;obtain⟨a',vs,ws,h1,h2,h3,h4,h5,h6,_⟩:=h;rw[s1,h2] at q1;cases q1;rw[s2 k hk] at q2;exact absurd q2 (h6 k _ z2)
  ·rcases g k _ e2 with⟨rfl,z2⟩|⟨hk,z2⟩
   ·subst z2;obtain⟨a',vs,ws,h1,h2,h3,h4,h5,h6,_⟩:=h;rw[s1,h2] at q2;cases q2;rw[s2 j hj] at q1;exact absurd q1 (h6 j _ z1)
   ·rw[s2 j hj] at q1;rw[s2 k hk] at q2;exact R.inj j k a _ _ z1 z2 q1 q2
 ·obtain⟨q1,q2,q3⟩:=R.prt q o2 hq;refine⟨q1,q2,λj w e=>?_⟩;rcases g j _ e with⟨rfl,z⟩|⟨hj,z⟩
  ·subst z;obtain⟨a',vs,ws,h1,h2,h3,h4,h5,h6,h7⟩:=h;rw[s1,h2];intro q';cases q';exact h7 q o2 hq rfl
  ·rw[s2 j hj];exact q3 j w z
theorem Rel.changeO (R:Rel K F pr en σ H){i:Nat}{w w0:W}{a:Addr}{o0:HO}(e:en[i]?=some (#v[w,5]))(hv:σ[i]?=some (some (.ref a)))(r:OwnR K F w0 o0):Rel K F pr (en.set i (#v[w0,5])) σ (upd H a o0):=by
 have hi:i<en.length:=(Ak.mp e).1;nofun;obtain⟨a0,vs,ws,h1,h2,h3,h4,h5⟩:=R.own i w e;ac_rfl;rw[hv] at h2;cases h2;have nt:∀ps,vs≠.tbl ps:=λps z=>by cases h5<;>cases z
 have nx:∀φ,vs≠.ext φ:=λps z=>by cases h5<;>cases z
 have g:∀j x,(en.set i (#v[w0,5]))[j]?=some (some x)->(j=i/\x=(w0,true))\/(j≠i/\en[j]?=some (some x)):=λj x h=>by
  rcases zfh hi h with⟨z,q⟩|z
  ·obtain rfl:=sI q;exact .inl ⟨z,rfl⟩
  ·exact .inr z
 refine⟨by rw[Ek];exact R.len,λb u hb=>?_,λj w' e'=>?_,λj w' e'=>?_,λj k b w1 w2 e1 e2 q1 q2=>?_,λq o2 hq=>?_,R.tb.go (λb ps e f=>⟨by rw[upd_ne (λz=>by subst z;rw[h3] at e;exact nt ps (sI e))];exact e,f⟩) (.refl F) λb ps e h=>h⟩
 ·have:b≠a:=λz=>by subst z;rw[h4] at hb;cases hb
  rw[upd_ne this];exact R.sub _ _ hb
 ·rcases g j _ e' with⟨_,z⟩|⟨_,z⟩
  ·cases z
  ·exact R.val j w' z
 ·rcases g j _ e' with⟨rfl,z⟩|⟨hj,z⟩
  ·cases z;exact⟨a,o0,w0,rfl,hv,upd_same,h4,r⟩
  ·refine aG λGg qG => ?_;obtain⟨a',vs2,ws2,q1,q2,q3,q4,q5⟩:=R.own j w' z;ac_rfl;have ne:a'≠a:=λz'=>by subst z';exact hj (R.inj j i a' _ _ z e q2 hv)
   exact⟨a',vs2,ws2,q1,q2,by rw[upd_ne ne];exact q3,q4,q5⟩
 ·have z1:∃w0,en[j]?=some (some (w0,true)):=by
   rcases g j _ e1 with⟨rfl,_⟩|⟨_,z⟩
   ·exact⟨_,e⟩
   ·exact⟨_,z⟩
  have z2:∃w0,en[k]?=some (#v[w0,5]):=by
   rcases g k _ e2 with⟨rfl,_⟩|⟨_,z⟩
   ·exact⟨_,e⟩
   ·exact⟨_,z⟩
  obtain⟨_,z1⟩:=z1;obtain⟨_,z2⟩:=z2;exact R.inj j k b _ _ z1 z2 q1 q2
 ·obtain ⟨q1,q2,q3⟩:=R.prt q o2 hq;have ne:q≠a:=λz=>by
   have:=q3 i _ e;rw[hv,z] at this;exact this rfl
  refine⟨by rw[upd_ne ne];exact q1,q2,λj w' e'=>?_⟩;rcases g j _ e' with⟨rfl,_⟩|⟨_,z⟩
  ·exact q3 j _ e
  ·exact q3 j w' z
theorem Rel.change (R:Rel K F pr en σ H){i:Nat}{w:W}{a:Addr}{ws':List W}{vs':List V}(e:en[i]?=some (#v[w,5]))(hv:σ[i]?=some (some (.ref a)))(r:Reps K F ws' vs'):Rel K F pr (en.set i (#v[ws',2])) σ (upd H a (.lst vs')):=R.changeO e hv (.lst r)
theorem Rel.ownL (R:Rel K F pr en σ H){i:Nat}{ws:List W}(e:en[i]?=some (#v[ws,2])):∃(a:Addr) (vs:List V) (ws':List W),W.lst ws=.lst ws'/\σ[i]?=some (some (V.ref a))/\H a=some (.lst vs)/\F a=none/\Reps K F ws' vs:=by
 nofun;obtain⟨a,o,w',e1,h2,h3,h4,h5⟩:=R.own i _ e;ac_rfl;subst e1;obtain⟨vs,rfl,r⟩:=h5.list;exact⟨a,vs,ws,rfl,h2,h3,h4,r⟩
theorem Rel.guard (R:Rel K F pr en σ H){p:Addr}(hp:H p=none)(o:HO):Rel K F (λb u=>pr b u\/(b=p/\u=o)) en σ (upd H p o):=by
 have L:=R.lay hp o;refine⟨L.len,L.sub,L.val,L.own,L.inj,λb u h=>?_,R.tb.go (λb ps e f=>⟨by rw[upd_ne (zac e hp)];exact e,f⟩) (.refl F) λb ps e h o z=>z.elim (h o) λz=>zac e hp z.1⟩;rcases h with h|⟨rfl,rfl⟩
 ·exact L.prt b u h
 ·refine⟨upd_same,R.sub.free hp,λi w e z => ?_⟩;obtain⟨a,vs,ws,h1,h2,h3,h4,h5⟩:=R.own i w e;rw[h2] at z;cases z;rw[hp] at h3;exact noSome h3
end
end L2
namespace L2
open PySem PySem.Spec PyProof.Rows
abbrev GE:=En->Option (En×(W×Bool))
abbrev GA:=En->Option (En×(W ⊕ Nat))
abbrev GT:=En->Option (En×Bool)
abbrev GAs:=En->Option (En×List (W ⊕ Nat))
abbrev GL:=En->Option (En×List W)
noncomputable def ArgR (K:PySem.W.Frag) (F:Hp) (σ:St):W ⊕ Nat->V->Prop
 |.inl w,v=>Rep K F w v
 |.inr i,v=>σ[i]?=some (some v)
inductive ArgRs (K:PySem.W.Frag) (F:Hp) (σ:St):List (W ⊕ Nat)->List V->Prop where
 |nil:ArgRs K F σ [] []
 |cons {x:W ⊕ Nat}{v:V}{xs:List (W ⊕ Nat)}{vs:List V} (h:ArgR K F σ x v) (r:ArgRs K F σ xs vs):ArgRs K F σ (x::xs) (v::vs)
noncomputable def resA (en:En):W ⊕ Nat->Option W
 |.inl w=>some w
 | .inr i=>match en[i]? with
  |some (some (w,_))=>some w
  |_=>none
section
variable {K:PySem.W.Frag}{F F' H:Hp}{pr:Prt}{en:En}{σ:St}
theorem ArgR.mono (s:Same F F'){x:W ⊕ Nat}{v:V}(h:ArgR K F σ x v):ArgR K F' σ x v:=by
 cases x with
 |inl w=>exact Rep.mono s h
 |inr i=>exact h
theorem ArgR.repB (R:Rel K F pr en σ H) {x:W ⊕ Nat}{v:V}{w:W} (h:ArgR K F σ x v) (e:resA en x=some w):RepB K F H w v:=by
 cases x with
 |inl u=>obtain rfl:=sI e;exact .inl h
 | inr i =>
  unfold resA at e;cases q:en[i]? with
  |none=>simp only [q] at e;exact noSome e
  | some o =>
   cases o with
   |none=>simp only [q] at e;exact noSome e
   | some p =>
    obtain⟨u,fl⟩:=p;simp only [q] at e;obtain rfl:=sI e;exact R.repB q h
end
def tE (K:PySem.W.Frag) (g:GE):TE:=λσ H Q=>∃F pr en en' r,Rel K F pr en σ H/\g en=some (en',r)/\∀F' H' v,Same F F'->Rel K F' pr en' σ H'->Res K F' H' pr en' σ r v->Q v H'
def tA (K:PySem.W.Frag) (g:GA):TE:=λσ H Q=>∃F pr en en' x,Rel K F pr en σ H/\g en=some (en',x)/\∀F' H' v,Same F F'->Rel K F' pr en' σ H'->ArgR K F' σ x v->Q v H'
noncomputable def tT (K:PySem.W.Frag) (g:GT):TT:=λσ H Q=>∃F pr en en' b,Rel K F pr en σ H/\g en=some (en',b)/\∀F' H',Same F F'->Rel K F' pr en' σ H'->Q b H'
noncomputable def tAs (K:PySem.W.Frag) (g:GAs):TA:=λσ H Q=>∃F pr en en' xs,Rel K F pr en σ H/\g en=some (en',xs)/\∀F' H' vs,Same F F'->Rel K F' pr en' σ H'->ArgRs K F' σ xs vs->Q vs H'
theorem PE.wk {X:Cx}{e:Expr}{t t':TE}(h:PE X e t)(i:∀σ H Q,t' σ H Q->t σ H Q):PE X e t':=λpins s σ H Q I q=>h pins s σ H Q I (i σ H Q q)
theorem PT.wk {X:Cx}{e:Expr}{t t':TT}(h:PT X e t)(i:∀σ H Q,t' σ H Q->t σ H Q):PT X e t':=λpins s σ H Q I q=>h pins s σ H Q I (i σ H Q q)
theorem PW.wk {X:Cx}{e:Expr}{t t':TT}(h:PW X e t)(i:∀σ H Q,t' σ H Q->t σ H Q):PW X e t':=λwh pins s σ H Q I q=>h wh pins s σ H Q I (i σ H Q q)
theorem PA.wk {X:Cx}{es:List Expr}{t t':TA}(h:PA X es t)(i:∀σ H Q,t' σ H Q->t σ H Q):PA X es t':=λpos pins s σ H Q I q=>h pos pins s σ H Q I (i σ H Q q)
theorem PS.wk {X:Cx}{st:Stmt}{t t':TS}(h:PS X st t)(i:∀D σ H,t' D σ H->t D σ H):PS X st t':=λpins s σ H D I q=>h pins s σ H D I (i D σ H q)
theorem PSs.wk {X:Cx}{st:List Stmt}{t t':TS}(h:PSs X st t)(i:∀D σ H,t' D σ H->t D σ H):PSs X st t':=λpins s σ H D I q=>h pins s σ H D I (i D σ H q)
theorem PI.wk {X:Cx}{tg e:Expr}{t t':TI}(h:PI X tg e t)(i:∀σ H R,t' σ H R->t σ H R):PI X tg e t':=λpins s σ H R I q=>h pins s σ H R I (i σ H R q)
noncomputable def gVar (i:Nat):GE:=λen=>match en[i]? with
 |some (some (w,_))=>some (en.set i (#v[w,6]),(w,false))
 |_=>none
noncomputable def zaa (i:Nat):GA:=λen=>match en[i]? with
 |some (#v[w,5])=>some (en,.inr i)
 |some (#v[w,6])=>some (en,.inl w)
 |_=>none
noncomputable def gC (w:W):GE:=λen=>some (en,(w,false))
noncomputable def gArg (g:GE):GA:=λen=>(g en).bind λp=>some (p.1,.inl p.2.1)
noncomputable def gA0:GAs:=λen=>some (en,[])
noncomputable def gCns (a:GA) (as:GAs):GAs:=λen=>(a en).bind λp=>(as p.1).bind λq=>some (q.1,p.2::q.2)
def gOp1 (o:W->Option (W×Bool)) (a:GA):GE:=λen=>(a en).bind λp=>(resA p.1 p.2).bind λw=>(o w).bind λr=>some (p.1,r)
def gOp2 (o:W->W->Option (W×Bool)) (a b:GA):GE:=λen=>(a en).bind λp=>(b p.1).bind λq=>(resA q.1 p.2).bind λw=>(resA q.1 q.2).bind λu=>(o w u).bind λr=>some (q.1,r)
def za8 (en:En):List (W ⊕ Nat)->Option (List W)
 |[]=>some []
 |x::xs=>(resA en x).bind λw=>(za8 en xs).bind λws=>some (w::ws)
noncomputable def gOpN (o:List W->Option (W×Bool)) (as:GAs):GE:=λen=>(as en).bind λp=>(za8 p.1 p.2).bind λws=>(o ws).bind λr=>some (p.1,r)
noncomputable def zah (g:GE):GT:=λen=>match g en with
 |some (en',(.bl b,_))=>some (en',b)
 |_=>none
noncomputable def gAnd (a b:GE):GE:=λen=>match a en with
 |some (en',(.bl true,_))=>b en'
 |some (en',(.bl false,_))=>some (en',#v[2,8])
 |_=>none
noncomputable def gOr (a b:GE):GE:=λen=>match a en with
 |some (en',(.bl true,_))=>some (en',#v[1,11])
 |some (en',(.bl false,_))=>b en'
 |_=>none
noncomputable def gNot (a:GE):GE:=λen=>match a en with
 |some (en',(.bl b,_))=>some (en',(.bl (!b),false))
 |_=>none
noncomputable def zi1 (a b:GT):GT:=λen=>match a en with
 |#v[en',5]=>b en'
 |#v[en',6]=>#v[en',6]
 |none=>none
noncomputable def gOrT (a b:GT):GT:=λen=>match a en with
 |#v[en',5]=>#v[en',5]
 |#v[en',6]=>b en'
 |none=>none
noncomputable def zik (a:GT):GT:=λen=>match a en with
 |some (en',b)=>some (en',!b)
 |none=>none
noncomputable def gIf (c:GT) (a b:GE):GE:=λen=>match c en with
 |#v[en',5]=>a en'
 |#v[en',6]=>b en'
 |none=>none
section
variable {K:PySem.W.Frag}{σ:St}{H:Hp}
theorem z0g {i:Nat}{Q:VK} (h:tE K (gVar i) σ H Q):tVar i σ H Q:=by
 obtain⟨F,pr,en,en',r,R,h,q⟩:=h;unfold gVar at h;cases e:en[i]? with
 |none=>simp only [e] at h;exact noSome h
 | some o =>
  cases o with
  |none=>simp only [e] at h;exact noSome h
  | some p =>
   obtain⟨w,fl⟩:=p;simp only [e] at h;cases h;obtain⟨v,hv⟩:=R.has e;obtain⟨F',s,R',z⟩:=R.freeze e hv;exact⟨v,hv,q F' H v s R' z⟩
theorem zys {i:Nat}{Q:VK} (h:tA K (zaa i) σ H Q):tVar i σ H Q:=by
 obtain⟨F,pr,en,en',r,R,h,q⟩:=h;unfold zaa at h;cases e:en[i]? with
 |none=>simp only [e] at h;exact noSome h
 | some o =>
  cases o with
  |none=>simp only [e] at h;exact noSome h
  | some p =>
   obtain⟨w,fl⟩:=p;cases fl with
   | true =>
    simp only [e] at h;cases h;obtain⟨v,hv⟩:=R.has e;exact⟨v,hv,q F H v (.refl F) R hv⟩
   | false =>
    simp only [e] at h;cases h;obtain⟨v,hv,z⟩:=R.val i w e;exact⟨v,hv,q F H v (.refl F) R z⟩
theorem zd2 {w:W}{v:V}{Q:VK}(hr:∀F,Rep K F w v)(h:tE K (gC w) σ H Q):tC v σ H Q:=by
 obtain⟨F,pr,en,en',r,R,h,q⟩:=h;cases h;exact q F H v (.refl F) R (hr F)
theorem zgl {g:GE}{Q:VK}(h:tA K (gArg g) σ H Q):tE K g σ H Q:=by
 obtain⟨F,pr,en,en',x,R,h,q⟩:=h;obtain⟨⟨e1,r⟩,h1,h⟩:=bS h;cases h;refine⟨F,pr,en,e1,r,R,h1,λF1 H1 v s1 R1 z=>?_⟩;obtain⟨F2,s2,R2,y⟩:=z.freeze R1;exact q F2 H1 v (s1.trans s2) R2 y
theorem zry {Q:List V->Hp->Prop}(h:tAs K gA0 σ H Q):tNil σ H Q:=by
 obtain⟨F,pr,en,en',x,R,h,q⟩:=h;cases h;exact q F H [] (.refl F) R .nil
theorem zrg {a:GA}{as:GAs}{Q:List V->Hp->Prop}(h:tAs K (gCns a as) σ H Q):tA K a σ H λx H1=>tAs K as σ H1 λxs H2=>Q (x::xs) H2:=by
 nofun;obtain⟨F,pr,en,en',x,R,h,q⟩:=h;obtain⟨⟨e1,y⟩,h1,h⟩:=bS h;obtain⟨⟨e2,ys⟩,h2,h⟩:=bS h;ac_rfl;cases h;exact⟨F,pr,en,e1,y,R,h1,λF1 H1 v s1 R1 a1=>⟨F1,pr,e1,e2,ys,R1,h2,λF2 H2 vs s2 R2 a2=>q F2 H2 (v::vs) (s1.trans s2) R2 (.cons (a1.mono s2) a2)⟩⟩
noncomputable def OpS (K:PySem.W.Frag) (r:R2) (o:W->W->Option (W×Bool)):Prop:=∀F H w1 w2 v1 v2 rv Q,Same F H->RepB K F H w1 v1->RepB K F H w2 v2->o w1 w2=some rv->(∀v H',Out K F H rv v H'->Q v H')->r v1 v2 H Q
theorem zd6 {r:R2}{o:W->W->Option (W×Bool)}{a b:GA}{Q:VK}(ho:OpS K r o)(h:tE K (gOp2 o a b) σ H Q):tOp r (tA K a) (tA K b) σ H Q:=by
 nofun;obtain⟨F,pr,en,en',rv,R,h,q⟩:=h;obtain⟨⟨e1,x1⟩,h1,h⟩:=bS h;obtain⟨⟨e2,x2⟩,h2,h⟩:=bS h;obtain⟨w1,hw1,h⟩:=bS h;obtain⟨w2,hw2,h⟩:=bS h;obtain⟨r',hr,h⟩:=bS h;ac_rfl;cases h;refine⟨F,pr,en,e1,x1,R,h1,λF1 H1 v1 s1 R1 a1=>⟨F1,pr,e1,e2,x2,R1,h2,λF2 H2 v2 s2 R2 a2=>?_⟩⟩;refine ho F2 H2 w1 w2 v1 v2 rv Q R2.sub ((a1.mono s2).repB R2 hw1) (a2.repB R2 hw2) hr λv H' z=>?_;nofun;obtain⟨F3,s3,R3,y⟩:=z.close R2;ac_rfl;exact q F3 H' v (s1.trans (s2.trans s3)) R3 y
noncomputable def OpS1 (K:PySem.W.Frag) (r:V->Hp->VK->Prop) (o:W->Option (W×Bool)):Prop:=∀F H w v rv Q,Same F H->RepB K F H w v->o w=some rv->(∀u H',Out K F H rv u H'->Q u H')->r v H Q
theorem zzc {r:V->Hp->VK->Prop}{o:W->Option (W×Bool)}{a:GA}{Q:VK}(ho:OpS1 K r o)(h:tE K (gOp1 o a) σ H Q):tUn r (tA K a) σ H Q:=by
 nofun;obtain⟨F,pr,en,en',rv,R,h,q⟩:=h;obtain⟨⟨e1,x1⟩,h1,h⟩:=bS h;obtain⟨w1,hw1,h⟩:=bS h;obtain⟨r',hr,h⟩:=bS h;ac_rfl;cases h;refine⟨F,pr,en,e1,x1,R,h1,λF1 H1 v1 s1 R1 a1=>?_⟩;refine ho F1 H1 w1 v1 rv Q R1.sub (a1.repB R1 hw1) hr λv H' z=>?_;nofun;obtain⟨F3,s3,R3,y⟩:=z.close R1;ac_rfl;exact q F3 H' v (s1.trans s3) R3 y
inductive RepBs (K:PySem.W.Frag) (F H:Hp):List W->List V->Prop where
 |nil:RepBs K F H [] []
 |cons {w:W}{v:V}{ws:List W}{vs:List V} (h:RepB K F H w v) (r:RepBs K F H ws vs):RepBs K F H (w::ws) (v::vs)
theorem ArgRs.repBs {F:Hp}{pr:Prt}{en:En} (R:Rel K F pr en σ H):∀{xs:List (W ⊕ Nat)}{vs:List V}{ws:List W},ArgRs K F σ xs vs->za8 en xs=some ws->RepBs K F H ws vs
 |_,_,_,.nil,e=>by obtain rfl:=sI e;exact .nil
 | _,_,_,.cons h r,e=>by
  obtain⟨w,hw,e⟩:=bS e;obtain⟨ws,hws,e⟩:=bS e;obtain rfl:=sI e;exact .cons (h.repB R hw) (ArgRs.repBs R r hws)
noncomputable def OpSN (K:PySem.W.Frag) (r:List V->Hp->VK->Prop) (o:List W->Option (W×Bool)):Prop:=∀F H ws vs rv Q,Same F H->RepBs K F H ws vs->o ws=some rv->(∀u H',Out K F H rv u H'->Q u H')->r vs H Q
theorem zki {r:List V->Hp->VK->Prop}{o:List W->Option (W×Bool)}{as:GAs}{Q:VK}(ho:OpSN K r o)(h:tE K (gOpN o as) σ H Q):tCB r (tAs K as) σ H Q:=by
 nofun;obtain⟨F,pr,en,en',rv,R,h,q⟩:=h;obtain⟨⟨e1,x1⟩,h1,h⟩:=bS h;obtain⟨w1,hw1,h⟩:=bS h;obtain⟨r',hr,h⟩:=bS h;ac_rfl;cases h;refine⟨F,pr,en,e1,x1,R,h1,λF1 H1 v1 s1 R1 a1=>?_⟩;refine ho F1 H1 w1 v1 rv Q R1.sub (a1.repBs R1 hw1) hr λv H' z=>?_;nofun;obtain⟨F3,s3,R3,y⟩:=z.close R1;ac_rfl;exact q F3 H' v (s1.trans s3) R3 y
theorem Res.isBl {F H:Hp}{pr:Prt}{en:En}{σ:St}{b fl:Bool}{v:V}(h:Res K F H pr en σ (.bl b,fl) v):v=.bl b:=by
 cases fl with
 |false=>cases (show Rep K F (.bl b) v from h);rfl
 |true=>obtain⟨_,_,_,e,_,_,_,q,_⟩:=h;subst e;cases q
theorem zfj {g:GE}{t:TE}{Q:Bool->Hp->Prop} (ht:∀σ H Q,tE K g σ H Q->t σ H Q) (h:tT K (zah g) σ H Q):z6o t σ H Q:=by
 obtain⟨F,pr,en,en',b,R,h,q⟩:=h;unfold zah at h;refine ht σ H _ ?_;cases e:g en with
 |none=>simp only [e] at h;exact noSome h
 | some p =>
  obtain⟨e1,w,fl⟩:=p;cases w with
  |bl c=>simp only [e] at h;cases h;exact⟨F,pr,en,_,_,R,e,λF' H' v s' R' z=>⟨b,z.isBl,q F' H' s' R'⟩⟩
  |_=>simp only [e] at h;exact noSome h
theorem z0x {a b:GE}{Q:VK} (h:tE K (gAnd a b) σ H Q):ybn (tE K a) (tE K b) σ H Q:=by
 nofun;obtain⟨F,pr,en,en',r,R,h,q⟩:=h;ac_rfl;unfold gAnd at h;cases e:a en with
 |none=>simp only [e] at h;exact noSome h
 | some p =>
  obtain⟨e1,w,fl⟩:=p;cases w with
  | bl c =>
   refine⟨F,pr,en,_,_,R,e,λF1 H1 v s1 R1 z=>⟨c,z.isBl,?_⟩⟩;cases c with
   | true =>
    simp only [e] at h;exact iteT ⟨F1,pr,e1,en',r,R1,h,λF2 H2 v s2 R2 z2=>q F2 H2 v (s1.trans s2) R2 z2⟩
   | false =>
    simp only [e] at h;cases h;exact iteF (q F1 H1 _ s1 R1 (.bl false))
  |_=>simp only [e] at h;exact noSome h
theorem z1u {a:GE}{Q:VK} (h:tE K (gNot a) σ H Q):yaq (tE K a) σ H Q:=by
 obtain⟨F,pr,en,en',r,R,h,q⟩:=h;unfold gNot at h;cases e:a en with
 |none=>simp only [e] at h;exact noSome h
 | some p =>
  obtain⟨e1,w,fl⟩:=p;cases w with
  | bl c =>
   simp only [e] at h;cases h;exact⟨F,pr,en,_,_,R,e,λF1 H1 v s1 R1 z=>⟨c,z.isBl,q F1 H1 _ s1 R1 (.bl _)⟩⟩
  |_=>simp only [e] at h;exact noSome h
theorem zyw {a b:GT}{Q:Bool->Hp->Prop} (h:tT K (zi1 a b) σ H Q):tAnd (tT K a) (tT K b) σ H Q:=by
 nofun;obtain⟨F,pr,en,en',r,R,h,q⟩:=h;ac_rfl;unfold zi1 at h;cases e:a en with
 |none=>simp only [e] at h;exact noSome h
 | some p =>
  obtain⟨e1,c⟩:=p;refine⟨F,pr,en,_,_,R,e,λF1 H1 s1 R1=>?_⟩;cases c with
  |true=>simp only [e] at h;exact iteT ⟨F1,pr,e1,en',r,R1,h,λF2 H2 s2 R2=>q F2 H2 (s1.trans s2) R2⟩
  |false=>simp only [e] at h;cases h;exact iteF (q F1 H1 s1 R1)
theorem z2e {a b:GT}{Q:Bool->Hp->Prop} (h:tT K (gOrT a b) σ H Q):tOr (tT K a) (tT K b) σ H Q:=by
 nofun;obtain⟨F,pr,en,en',r,R,h,q⟩:=h;ac_rfl;unfold gOrT at h;cases e:a en with
 |none=>simp only [e] at h;exact noSome h
 | some p =>
  obtain⟨e1,c⟩:=p;refine⟨F,pr,en,_,_,R,e,λF1 H1 s1 R1=>?_⟩;cases c with
  |false=>simp only [e] at h;exact iteF ⟨F1,pr,e1,en',r,R1,h,λF2 H2 s2 R2=>q F2 H2 (s1.trans s2) R2⟩
  |true=>simp only [e] at h;cases h;exact iteT (q F1 H1 s1 R1)
theorem zyo {a:GT}{Q:Bool->Hp->Prop} (h:tT K (zik a) σ H Q):tNot (tT K a) σ H Q:=by
 obtain⟨F,pr,en,en',r,R,h,q⟩:=h;unfold zik at h;cases e:a en with
 |none=>simp only [e] at h;exact noSome h
 | some p =>
  obtain⟨e1,c⟩:=p;simp only [e] at h;cases h;exact⟨F,pr,en,_,_,R,e,λF1 H1 s1 R1=>q F1 H1 s1 R1⟩
end
noncomputable def zbp:List (W ⊕ Nat)->Option (List W)
 |[]=>some []
 |.inl w::xs=>(zbp xs).bind λws=>some (w::ws)
 |.inr _::_=>none
theorem ArgRs.reps {K:PySem.W.Frag}{F:Hp}{σ:St}:∀{xs:List (W ⊕ Nat)}{vs:List V}{ws:List W},ArgRs K F σ xs vs->zbp xs=some ws->Reps K F ws vs
 |_,_,_,.nil,e=>by obtain rfl:=sI e;exact .nil
 | .inl w::xs,_,_,.cons h r,e=>by
  obtain⟨ws,hws,e⟩:=bS (show (zbp xs).bind _=_ from e);obtain rfl:=sI e;exact .cons h (ArgRs.reps r hws)
 |.inr i::xs,_,_,.cons h r,e=>by exact noSome e
def zcw (as:GAs):GE:=λen=>(as en).bind λp=>(zbp p.2).bind λws=>if ws.length<=sizeLine then some (p.1,(.tup ws,false)) else none
def zat (as:GAs):GE:=λen=>(as en).bind λp=>(zbp p.2).bind λws=>if ws.length<=sizeLine then some (p.1,(.lst ws,true)) else none
section
variable {K:PySem.W.Frag}{σ:St}{H:Hp}
theorem zzs {as:GAs}{Q:VK}(h:tE K (zcw as) σ H Q):tTup (tAs K as) σ H Q:=by
 obtain⟨F,pr,en,en',r,R,h,q⟩:=h;obtain⟨⟨e1,xs⟩,h1,h⟩:=bS h;obtain⟨ws,h2,h⟩:=bS h;split at h
 ·rename_i hz;cases h;refine⟨F,pr,en,e1,xs,R,h1,λF1 H1 vs s1 R1 a1=>?_⟩;have rr:=a1.reps h2;refine⟨by rw[<-rr.length];exact hz,λp hp=>?_⟩;obtain⟨F2,s2,R2,z⟩:=(Out.tup (K:=K) hp rr).close R1;exact q F2 _ _ (s1.trans s2) R2 z
 ·exact noSome h
theorem zza {as:GAs}{Q:VK}(h:tE K (zat as) σ H Q):tLst (tAs K as) σ H Q:=by
 nofun;obtain⟨F,pr,en,en',r,R,h,q⟩:=h;obtain⟨⟨e1,xs⟩,h1,h⟩:=bS h;obtain⟨ws,h2,h⟩:=bS h;ac_rfl;split at h
 ·rename_i hz;cases h;refine⟨F,pr,en,e1,xs,R,h1,λF1 H1 vs s1 R1 a1=>?_⟩;have rr:=a1.reps h2;refine⟨by rw[<-rr.length];exact hz,λp hp=>?_⟩;nofun;obtain⟨F2,s2,R2,z⟩:=(Out.lst (K:=K) hp rr).close R1;ac_rfl;exact q F2 _ _ (s1.trans s2) R2 z
 ·exact noSome h
def zqs (o o':W->W->Option (W×Bool)) (a b c:GA):GE:=λen=>(a en).bind λp=>(b p.1).bind λq=>(resA q.1 p.2).bind λw=>(resA q.1 q.2).bind λu=>match o w u with
 |some #v[1,11]=>(c q.1).bind λt=>(resA t.1 q.2).bind λu'=>(resA t.1 t.2).bind λz=>(o' u' z).bind λr=>some (t.1,r)
 |some #v[2,8]=>some (q.1,#v[2,8])
 |_=>none
theorem zjf {r r':R2}{o o':W->W->Option (W×Bool)}{a b c:GA}{Q:VK} (ho:OpS K r o) (ho':OpS K r' o') (h:tE K (zqs o o' a b c) σ H Q):zya r r' (tA K a) (tA K b) (tA K c) σ H Q:=by
 nofun;obtain⟨F,pr,en,en',rv,R,h,q⟩:=h;obtain⟨⟨e1,x1⟩,h1,h⟩:=bS h;obtain⟨⟨e2,x2⟩,h2,h⟩:=bS h;obtain⟨w1,hw1,h⟩:=bS h;obtain⟨w2,hw2,h⟩:=bS h;ac_rfl;refine⟨F,pr,en,e1,x1,R,h1,λF1 H1 v1 s1 R1 a1=>⟨F1,pr,e1,e2,x2,R1,h2,λF2 H2 v2 s2 R2 a2=>?_⟩⟩;cases e:o w1 w2 with
 |none=>simp only [e] at h;exact noSome h
 | some p =>
  obtain⟨w,fl⟩:=p;cases w with
  | bl k =>
   cases fl with
   |true=>simp only [e] at h;cases k<;>exact noSome h
   | false =>
    refine ho F2 H2 w1 w2 v1 v2 _ _ R2.sub ((a1.mono s2).repB R2 hw1) (a2.repB R2 hw2) e λv H' z=>?_;cases z with
    | val z =>
     cases z;refine⟨k,rfl,?_⟩;cases k with
     | false =>
      simp only [e] at h;cases h;exact iteF (q F2 H2 _ (s1.trans s2) R2 (.bl false))
     | true =>
      simp only [e] at h;nofun;obtain⟨⟨e3,x3⟩,h3,h⟩:=bS h;obtain⟨w2',hw2',h⟩:=bS h;obtain⟨w3,hw3,h⟩:=bS h;obtain⟨r3,hr3,h⟩:=bS h;ac_rfl;cases h;refine iteT ⟨F2,pr,e2,e3,x3,R2,h3,λF3 H3 v3 s3 R3 a3=>?_⟩;refine ho' F3 H3 w2' w3 v2 v3 _ _ R3.sub ((a2.mono s3).repB R3 hw2') (a3.repB R3 hw3) hr3 λv H' z=>?_;nofun;obtain⟨F4,s4,R4,y⟩:=z.close R3;ac_rfl;exact q F4 H' v (s1.trans (s2.trans (s3.trans s4))) R4 y
  |_=>simp only [e] at h;exact noSome h
end
section
variable {K:PySem.W.Frag}{F H:Hp}{v:V}
theorem RepB.int {i:Int}(h:RepB K F H (.int i) v):v=.int i:=by
 rcases h with h|⟨_,_,_,e,_,_,q⟩
 ·cases h;rfl
 ·subst e;cases q
theorem RepB.bl {b:Bool}(h:RepB K F H (.bl b) v):v=.bl b:=by
 rcases h with h|⟨_,_,_,e,_,_,q⟩
 ·cases h;rfl
 ·subst e;cases q
theorem RepB.str {x:Str}(h:RepB K F H (.str x) v):v=.str x:=by
 rcases h with h|⟨_,_,_,e,_,_,q⟩
 ·cases h;rfl
 ·subst e;cases q
theorem RepB.non (h:RepB K F H .non v):v=.non:=by
 rcases h with h|⟨_,_,_,e,_,_,q⟩
 ·cases h;rfl
 ·subst e;cases q
theorem RepB.lst {ws:List W}(s:Same F H)(h:RepB K F H (.lst ws) v):∃a vs,v=.ref a/\H a=some (.lst vs)/\Reps K F ws vs:=by
 rcases h with h|⟨a,o,ws',e,e2,h,r⟩
 ·cases h with
  |lst h r=>exact⟨_,_,rfl,s _ _ h,r⟩
 ·subst e;obtain⟨vs,rfl,r'⟩:=r.list;exact⟨a,vs,e2,h,r'⟩
theorem RepB.tup {ws:List W}(s:Same F H)(h:RepB K F H (.tup ws) v):∃a vs,v=.ref a/\H a=some (.tup vs)/\F a=some (.tup vs)/\Reps K F ws vs:=by
 rcases h with h|⟨_,_,_,e,_,_,q⟩
 ·cases h with
  |tup h r=>exact⟨_,_,rfl,s _ _ h,h,r⟩
 ·subst e;cases q
theorem RepB.frl {ws:List W}(s:Same F H)(h:RepB K F H (.frl ws) v):∃a vs,v=.ref a/\SqL K H a vs/\Reps K F ws vs:=by
 rcases h with h|⟨_,_,_,e,_,_,q⟩
 ·cases h with
  |frl h r=>exact⟨_,_,rfl,s.seq h,r⟩
 ·subst e;cases q
noncomputable def seqL:W->Option (List W)
 |.lst ws=>some ws
 |.frl ws=>some ws
 |_=>none
noncomputable def seqW:W->Option (List W)
 |.lst ws=>some ws
 |.frl ws=>some ws
 |.tup ws=>some ws
 |_=>none
theorem RepB.seqL {w:W}{ws:List W}(s:Same F H)(h:RepB K F H w v)(e:L2.seqL w=some ws):∃a vs,v=.ref a/\SqL K H a vs/\Reps K F ws vs:=by
 cases w with
 |lst xs=>obtain rfl:=sI e;obtain⟨a,vs,e,h,r⟩:=h.lst s;exact⟨a,vs,e,SqL.of' h,r⟩
 |frl xs=>obtain rfl:=sI e;exact h.frl s
 |_=>exact noSome e
theorem RepB.seqW {w:W}{ws:List W}(s:Same F H)(h:RepB K F H w v)(e:L2.seqW w=some ws):∃a vs,v=.ref a/\(SqL K H a vs\/SqT K H a vs)/\Reps K F ws vs:=by
 cases w with
 |lst xs=>obtain rfl:=sI e;obtain⟨a,vs,e,h,r⟩:=h.lst s;exact⟨a,vs,e,.inl (SqL.of' h),r⟩
 |frl xs=>obtain rfl:=sI e;obtain⟨a,vs,e,h,r⟩:=h.frl s;exact⟨a,vs,e,.inl h,r⟩
 |tup xs=>obtain rfl:=sI e;obtain⟨a,vs,e,h,_,r⟩:=h.tup s;exact⟨a,vs,e,.inr (.inl (.inl h)),r⟩
 |_=>exact noSome e
end
noncomputable abbrev O2:=W->W->Option (W×Bool)
noncomputable def oI (c:Int->Int->Bool) (g:Int->Int->W):O2
 |.int i,.int j=>if c i j then #v[g i j,6] else none
 |_,_=>none
section
variable {K:PySem.W.Frag}
theorem zmd {c:Int->Int->Bool}{C:Int->Int->Prop}{g:Int->Int->W}{g':Int->Int->V} (hc:∀i j,c i j=true->C i j) (hg:∀F i j,Rep K F (g i j) (g' i j)):OpS K (rI C g') (oI c g):=λF H w1 w2 v1 v2 rv Q s r1 r2 e q=>by
 cases w1 with
 | int i =>
  cases w2 with
  | int j =>
   unfold oI at e;simp only at e;split at e
   ·rename_i z
    obtain rfl:=sI e;exact⟨i,j,r1.int,r2.int,hc i j z,q _ _ (.val (hg F i j))⟩
   ·exact noSome e
  |_=>exact noSome e
 |_=>exact noSome e
theorem zcg {g:Int->Int->W}{g':Int->Int->V} (hg:∀F i j,Rep K F (g i j) (g' i j)):OpS K (rI0 g') (oI (λ_ _=>true) g):=λF H w1 w2 v1 v2 rv Q s r1 r2 e q=>by
 cases w1 with
 | int i =>
  cases w2 with
  |int j=>obtain rfl:=sI e;exact⟨i,j,r1.int,r2.int,q _ _ (.val (hg F i j))⟩
  |_=>exact noSome e
 |_=>exact noSome e
theorem OpS.or {r r':R2}{o o':O2}(h:OpS K r o)(h':OpS K r' o'):OpS K (λx y H Q=>r x y H Q\/r' x y H Q) (λa b=>match o a b with|some p=>some p|none=>o' a b):=λF H w1 w2 v1 v2 rv Q s r1 r2 e q=>by
 cases z:o w1 w2 with
 |some p=>simp only [z] at e;obtain rfl:=sI e;exact .inl (h F H w1 w2 v1 v2 _ Q s r1 r2 z q)
 |none=>simp only [z] at e;exact .inr (h' F H w1 w2 v1 v2 _ Q s r1 r2 e q)
end
noncomputable def oOr (o o':O2):O2:=λa b=>match o a b with|some p=>some p|none=>o' a b
noncomputable def oCat:O2
 |.lst xs,.lst ys=>if xs.length+ys.length<=sizeLine then #v[(xs++ys),2] else none
 |_,_=>none
noncomputable def zzx:O2
 |.tup (x::xs),.tup ys=>if (x::xs).length+ys.length<=sizeLine then #v[(x::xs++ys),3] else none
 |_,_=>none
noncomputable def z4n:O2
 |.tup [],.tup ys=>#v[ys,3]
 |_,_=>none
noncomputable def z2m:O2
 |.str x,.str y=>if x.length+y.length<=sizeLine then some (.str (x++y),false) else none
 |_,_=>none
noncomputable def oRep:O2
 |.lst xs,.int k=>if -(2^63)<=k/\k<2^63/\xs.length*k.toNat<=sizeLine then #v[(List.replicate k.toNat xs).flatten,2] else none
 |_,_=>none
section
variable {K:PySem.W.Frag}
theorem z78:OpS K rCat oCat:=λF H w1 w2 v1 v2 rv Q s r1 r2 e q=>by
 cases w1 with
 | lst xs =>
  cases w2 with
  | lst ys =>
   unfold oCat at e;simp only at e;split at e
   ·rename_i z
    obtain rfl:=sI e;nofun;obtain⟨a,vs,e1,h1,p1⟩:=r1.lst s;obtain⟨b,us,e2,h2,p2⟩:=r2.lst s;ac_rfl;exact⟨a,b,vs,us,e1,e2,h1,h2,by rw[<-p1.length,<-p2.length];exact z,λp hp=>q _ _ (.lst hp (p1.append p2))⟩
   ·exact noSome e
  |_=>exact noSome e
 |_=>exact noSome e
theorem z61:OpS K rRep oRep:=λF H w1 w2 v1 v2 rv Q s r1 r2 e q=>by
 cases w1 with
 | lst xs =>
  cases w2 with
  | int k =>
   unfold oRep at e;simp only at e;split at e
   ·rename_i z
    obtain rfl:=sI e;obtain⟨a,vs,e1,h1,p1⟩:=r1.lst s;exact⟨a,k,vs,e1,r2.int,h1,z.1,z.2.1,by rw[<-p1.length];exact z.2.2,λp hp=>q _ _ (.lst hp (p1.rep _))⟩
   ·exact noSome e
  |_=>exact noSome e
 |_=>exact noSome e
theorem z1h:OpS K (yae K) zzx:=λF H w1 w2 v1 v2 rv Q s r1 r2 e q=>by
 cases w1 with
 | tup xs =>
  cases xs with
  |nil=>cases w2<;>exact noSome e
  | cons x xs =>
   cases w2 with
   | tup ys =>
    unfold zzx at e;simp only at e;split at e
    ·rename_i z
     obtain rfl:=sI e;nofun;obtain⟨a,vs,e1,h1,f1,p1⟩:=r1.tup s;obtain⟨b,us,e2,h2,f2,p2⟩:=r2.tup s;ac_rfl;refine⟨a,b,vs,us,e1,e2,.inl (.inl h1),.inl (.inl h2),?_,by rw[<-p1.length,<-p2.length];exact z,λhu=>?_,λ_ p hp=>q _ _ (.tup hp (p1.append p2))⟩
     ·intro e;subst e;cases p1
     ·subst hu
      cases p2;rw[Ch] at q;exact q _ _ (.val (.tup f1 p1))
    ·exact noSome e
   |_=>exact noSome e
 |_=>exact noSome e
mutual
inductive DV (H:Hp):V->PyData->Prop where
 |non:DV H .non .none
 |bl (b:Bool):DV H (.bl b) (.bool b)
 |int (i:Int):DV H (.int i) (.int i)
 |str (x:Str):DV H (.str x) (.str x)
 |tup {a:Addr}{vs:List V}{ds:List PyData} (h:H a=some (.tup vs)) (r:DVs H vs ds):DV H (.ref a) (.tuple ds)
 |lst {a:Addr}{vs:List V}{ds:List PyData} (h:H a=some (.lst vs)) (r:DVs H vs ds):DV H (.ref a) (.list ds)
inductive DVs (H:Hp):List V->List PyData->Prop where
 |nil:DVs H [] []
 |cons {v:V}{d:PyData}{vs:List V}{ds:List PyData} (h:DV H v d) (r:DVs H vs ds):DVs H (v::vs) (d::ds)
end
section
variable {X:Cx}{pins:List (Addr × Obj)}{σ:St}{H:Hp}{s:Shared}
mutual
theorem DV.reads (I:Inv X pins σ H s):∀{v:V}{d:PyData}{u:Value},DV H v d->RelV v u->∃as,Reads s.heap u d as
 |_,_,_,.non,r=>by cases (show _=Value.none from r);exact⟨_,.none⟩
 |_,_,_,.bl b,r=>by cases (show _=Value.bool b from r);exact⟨_,.bool b⟩
 |_,_,_,.int i,r=>by obtain⟨t,e⟩:=(show ∃t,_=Value.int i t from r);subst e;exact⟨_,.int i t⟩
 |_,_,_,.str x,r=>by obtain⟨t,e⟩:=(show ∃t,_=Value.str x t from r);subst e;exact⟨_,.str x t⟩
 | _,_,_,.tup h q,r=>by
  cases r;obtain⟨its,rv,⟨o,e,c,n,dt⟩,_⟩:=I.tuple (.inl (.inl h));obtain⟨as,ra⟩:=DVs.reads I q rv;exact⟨as,.tuple e c dt (by simpa using ra)⟩
 | _,_,_,.lst h q,r=>by
  cases r;obtain⟨its,rv,⟨o,n,e,c,_,dt⟩,_⟩:=I.list (SqL.of' h);obtain⟨as,ra⟩:=DVs.reads I q rv;exact⟨_,.list e c dt (by simpa using ra)⟩
theorem DVs.reads (I:Inv X pins σ H s):∀{vs:List V}{ds:List PyData}{us:List Value},DVs H vs ds->Vals vs us->∃as,ReadsAll s.heap us ds as
 |_,_,_,.nil,r=>by cases r;exact⟨_,.nil⟩
 | _,_,_,.cons h q,r=>by
  cases r with
  | cons r1 r2 =>
   obtain⟨as,a⟩:=DV.reads I h r1;obtain⟨bs,b⟩:=DVs.reads I q r2;exact⟨_,.cons a b⟩
end
end
mutual
noncomputable def dW:W->Option PyData
 |.non=>some .none
 |.bl b=>some (.bool b)
 |.int i=>some (.int i)
 |.str x=>some (.str x)
 |.tup ws=>(dWs ws).bind λds=>some (.tuple ds)
 |.lst ws=>(dWs ws).bind λds=>some (.list ds)
 |_=>none
noncomputable def dWs:List W->Option (List PyData)
 |[]=>some []
 |w::ws=>(dW w).bind λd=>(dWs ws).bind λds=>some (d::ds)
end
section
variable {K:PySem.W.Frag}{F H:Hp}
mutual
theorem rep_dv (s:Same F H):∀{w:W}{v:V}{d:PyData},Rep K F w v->dW w=some d->DV H v d
 |_,_,_,.non,e=>by obtain rfl:=sI e;exact .non
 |_,_,_,.bl b,e=>by obtain rfl:=sI e;exact .bl b
 |_,_,_,.int i,e=>by obtain rfl:=sI e;exact .int i
 |_,_,_,.str x,e=>by obtain rfl:=sI e;exact .str x
 | _,_,_,.tup h r,e=>by
  rw[dW] at e;obtain⟨ds,e1,e2⟩:=bS e;obtain rfl:=sI e2;exact .tup (s _ _ h) (zgx s r e1)
 | _,_,_,.lst h r,e=>by
  rw[dW] at e;obtain⟨ds,e1,e2⟩:=bS e;obtain rfl:=sI e2;exact .lst (s _ _ h) (zgx s r e1)
 |_,_,_,.frl _ _,e=>by exact noSome e
 |_,_,_,.dic _,e=>by exact noSome e
theorem zgx (s:Same F H):∀{ws:List W}{vs:List V}{ds:List PyData},Reps K F ws vs->dWs ws=some ds->DVs H vs ds
 |_,_,_,.nil,e=>by cases e;exact .nil
 | _,_,_,.cons h r,e=>by
  rw[dWs] at e;obtain⟨d,e1,e⟩:=bS e;obtain⟨ds,e2,e3⟩:=bS e;cases e3;exact .cons (rep_dv s h e1) (zgx s r e2)
end
theorem zyh {w:W}{v:V}{d:PyData} (s:Same F H) (r:RepB K F H w v) (hd:dW w=some d):DV H v d:=by
 rcases r with r|⟨a,o,us,z,rfl,h,q⟩
 ·exact rep_dv s r hd
 ·subst z
  cases q with
  |dct hl q=>exact noSome hd
  |dctT hl q=>exact noSome hd
  | lst q =>
   rw[dW] at hd;obtain⟨ds,e1,e2⟩:=bS hd;obtain rfl:=sI e2;exact .lst h (zgx s q e1)
end
noncomputable def rEqD (g:Bool->Bool):R2:=λx y H Q=>∃d d',DV H x d/\DV H y d'/\d.canLay0=true/\d'.canLay0=true/\d.depth<=100/\Q (.bl (g (PyData.eqv d d'))) H
theorem yad {X:Cx}{k:Nat}(hr:Room k X.A):OpR X (compareOp .Eq) (rEqD id):=by
 intro pins s σ H x y v u Q I rx ry h;nofun;obtain⟨d,d',d1,d2,h1,h2,h3,q⟩:=h;obtain⟨as,ra⟩:=d1.reads I rx;obtain⟨bs,rb⟩:=d2.reads I ry;ac_rfl;exact SeqAt.compareEq_reads ra rb h1 h2 (by have:=hr.un;omega) ⟨.bl _,H,I,rfl,q⟩
theorem ych {X:Cx}{k:Nat}(hr:Room k X.A):OpR X (compareOp .NotEq) (rEqD not):=by
 intro pins s σ H x y v u Q I rx ry h;nofun;obtain⟨d,d',d1,d2,h1,h2,h3,q⟩:=h;obtain⟨as,ra⟩:=d1.reads I rx;obtain⟨bs,rb⟩:=d2.reads I ry;ac_rfl;exact SeqAt.neOverData X.prog X.w X.A X.xe s v u d d' as bs _ ra rb h1 h2 (by have:=hr.un;omega) ⟨.bl _,H,I,rfl,q⟩
def eqD (a b:W):Option Bool:=(dW a).bind λd=>(dW b).bind λd'=>if d.canLay0&&d'.canLay0&&decide (d.depth<=100) then some (PyData.eqv d d') else none
theorem z3t {K:PySem.W.Frag}{F H:Hp}{w1 w2:W}{v1 v2:V}{k:Bool}(s:Same F H)(r1:RepB K F H w1 v1)(r2:RepB K F H w2 v2)(e:eqD w1 w2=some k):∃d d',DV H v1 d/\DV H v2 d'/\d.canLay0=true/\d'.canLay0=true/\d.depth<=100/\k=PyData.eqv d d':=by
 nofun;obtain⟨d,h1,e⟩:=bS e;obtain⟨d',h2,e⟩:=bS e;ac_rfl;split at e
 ·rename_i z;rw[Ad,Ad] at z;obtain rfl:=sI e;exact⟨d,d',zyh s r1 h1,zyh s r2 h2,z.1.1,z.1.2,At z.2,rfl⟩
 ·exact noSome e
noncomputable def z39:W->W->Option Bool
 |.non,.non=>some true|.non,.int _=>some false|.int _,.non=>some false|.non,.bl _=>some false|.bl _,.non=>some false|.non,.str _=>some false|.str _,.non=>some false
 |.int i,.int j=>some (decide (i=j))|.bl i,.bl j=>some (decide (i=j))|.str i,.str j=>some (decide (i=j))
 |.int _,.str _=>some false|.str _,.int _=>some false|.bl _,.str _=>some false|.str _,.bl _=>some false
 |_,_=>none
def oEq:O2:=λa b=>match z39 a b with
 |some k=>some (.bl k,false)
 |none=>(eqD a b).bind λk=>some (.bl k,false)
def oNe:O2:=λa b=>match z39 a b with
 |some k=>some (.bl (!k),false)
 |none=>(eqD a b).bind λk=>some (.bl (!k),false)
theorem zqw {F H:Hp}{w1 w2:W}{v1 v2:V}{k:Bool} (r1:RepB K F H w1 v1) (r2:RepB K F H w2 v2) (e:z39 w1 w2=some k):scal v1 v2=true/\decide (v1=v2)=k:=by
 cases w1 with
 | non =>
  have:=r1.non;subst this;cases w2 with
  |non=>have:=r2.non;subst this;obtain rfl:=sI e;exact⟨rfl,by decide⟩
  |int j=>have:=r2.int;subst this;obtain rfl:=sI e;exact⟨rfl,by simp⟩
  |bl j=>have:=r2.bl;subst this;obtain rfl:=sI e;exact⟨rfl,by simp⟩
  |str j=>have:=r2.str;subst this;obtain rfl:=sI e;exact⟨rfl,by simp⟩
  |_=>exact noSome e
 | int i =>
  have:=r1.int;subst this;cases w2 with
  |non=>have:=r2.non;subst this;obtain rfl:=sI e;exact⟨rfl,by simp⟩
  |int j=>have:=r2.int;subst this;obtain rfl:=sI e;exact⟨rfl,by simp⟩
  |str j=>have:=r2.str;subst this;obtain rfl:=sI e;exact⟨rfl,by simp⟩
  |_=>exact noSome e
 | bl i =>
  have:=r1.bl;subst this;cases w2 with
  |non=>have:=r2.non;subst this;obtain rfl:=sI e;exact⟨rfl,by simp⟩
  |bl j=>have:=r2.bl;subst this;obtain rfl:=sI e;exact⟨rfl,by simp⟩
  |str j=>have:=r2.str;subst this;obtain rfl:=sI e;exact⟨rfl,by simp⟩
  |_=>exact noSome e
 | str i =>
  have:=r1.str;subst this;cases w2 with
  |non=>have:=r2.non;subst this;obtain rfl:=sI e;exact⟨rfl,by simp⟩
  |int j=>have:=r2.int;subst this;obtain rfl:=sI e;exact⟨rfl,by simp⟩
  |bl j=>have:=r2.bl;subst this;obtain rfl:=sI e;exact⟨rfl,by simp⟩
  |str j=>have:=r2.str;subst this;obtain rfl:=sI e;exact⟨rfl,by simp⟩
  |_=>exact noSome e
 |_=>cases w2<;>exact noSome e
theorem z9m:OpS K (λx y H Q=>rEq x y H Q\/rEqD id x y H Q) oEq:=λF H w1 w2 v1 v2 rv Q s r1 r2 e q=>by
 unfold oEq at e;split at e
 ·rename_i k hk;obtain rfl:=sI e;obtain⟨h1,h2⟩:=zqw r1 r2 hk;refine .inl ⟨h1,?_⟩;rw[h2];exact q _ _ (.val (.bl k))
 ·obtain⟨k,hk,e⟩:=bS e;obtain rfl:=sI e;nofun;obtain⟨d,d',d1,d2,h1,h2,h3,rfl⟩:=z3t s r1 r2 hk;ac_rfl;exact .inr ⟨d,d',d1,d2,h1,h2,h3,q _ _ (.val (.bl _))⟩
theorem ycc:OpS K (λx y H Q=>rNe x y H Q\/rEqD not x y H Q) oNe:=λF H w1 w2 v1 v2 rv Q s r1 r2 e q=>by
 unfold oNe at e;split at e
 ·rename_i k hk;obtain rfl:=sI e;obtain⟨h1,h2⟩:=zqw r1 r2 hk;refine .inl ⟨h1,?_⟩;rw[h2];exact q _ _ (.val (.bl _))
 ·obtain⟨k,hk,e⟩:=bS e;obtain rfl:=sI e;nofun;obtain⟨d,d',d1,d2,h1,h2,h3,rfl⟩:=z3t s r1 r2 hk;ac_rfl;exact .inr ⟨d,d',d1,d2,h1,h2,h3,q _ _ (.val (.bl _))⟩
noncomputable def isW:W->W->Option Bool
 |.non,.non=>some true
 |_,.non=>some false
 |.bl a,.bl b=>some (decide (a=b))
 |_,.bl _=>some false
 |_,_=>none
noncomputable def rIs:R2:=λx y H Q=>(y=.non/\Q (.bl (decide (x=.non))) H)\/(∃b,y=.bl b/\Q (.bl (decide (x=.bl b))) H)
def oIs:O2:=λa b=>(isW a b).bind λk=>some (.bl k,false)
theorem RepB.noBl {F H:Hp}{w:W}{v:V}(r:RepB K F H w v)(h:∀b,w≠.bl b)(b:Bool):v≠.bl b:=λe=>by
 subst e;rcases r with r|⟨_,_,_,_,e,_⟩
 ·cases r;exact h b rfl
 ·cases e
theorem RepB.noNon {F H:Hp}{w:W}{v:V}(r:RepB K F H w v)(h:w≠.non):v≠.non:=λe=>by
 subst e;rcases r with r|⟨_,_,_,_,e,_⟩
 ·cases r;exact h rfl
 ·cases e
theorem ybo {F H:Hp}{w1 w2:W}{v1 v2:V}{k:Bool} (r1:RepB K F H w1 v1) (r2:RepB K F H w2 v2) (e:isW w1 w2=some k):(v2=.non/\decide (v1=.non)=k)\/(∃b,v2=.bl b/\decide (v1=.bl b)=k):=by
 cases w2 with
 | non =>
  refine .inl ⟨r2.non,?_⟩;cases w1 with
  |non=>obtain rfl:=sI e;rw[r1.non];rfl
  |_=>obtain rfl:=sI e;exact Ay (r1.noNon (by simp))
 | bl b =>
  refine .inr ⟨b,r2.bl,?_⟩;cases w1 with
  |bl a=>obtain rfl:=sI e;rw[r1.bl];simp
  |_=>obtain rfl:=sI e;exact Ay (r1.noBl (by simp) b)
 |_=>cases w1<;>exact noSome e
theorem z8u:OpS K rIs oIs:=λF H w1 w2 v1 v2 rv Q s r1 r2 e q=>by
 obtain⟨k,hk,e⟩:=bS e;obtain rfl:=sI e;rcases ybo r1 r2 hk with⟨h1,h2⟩|⟨b,h1,h2⟩
 ·exact .inl ⟨h1,by rw[h2];exact q _ _ (.val (.bl k))⟩
 ·exact .inr ⟨b,h1,by rw[h2];exact q _ _ (.val (.bl k))⟩
noncomputable def znd:W->Bool
 |.non=>true
 |.bl _=>true
 |.int _=>true
 |.str _=>true
 |_=>false
noncomputable def eqF:W->W->Bool
 |.non,.non=>true
 |.bl a,.bl b=>a==b
 |.bl a,.int b=>(if a then 1 else 0)==b
 |.int a,.bl b=>a==(if b then 1 else 0)
 |.int a,.int b=>a==b
 |.str a,.str b=>a==b
 |_,_=>false
theorem Rep.flat {F:Hp}{w:W}{v:V}(h:Rep K F w v)(f:znd w=true):zid v=true:=by
 cases h<;>first|rfl|(cases f)
theorem Reps.flat {F:Hp}:∀{ws:List W}{vs:List V},Reps K F ws vs->ws.all znd=true->vs.all zid=true
 |_,_,.nil,_=>rfl
 | _,_,.cons h r,f=>by
  rw[Bp,Ad] at f ⊢;exact⟨h.flat f.1,r.flat f.2⟩
theorem z9u {F F':Hp}{w u:W}{v z:V}(h1:Rep K F w v)(h2:Rep K F' u z)(f1:znd w=true)(f2:znd u=true):eqV v z=eqF w u:=by
 cases h1<;>first|(cases f1;done)|(cases h2<;>first|rfl|(cases f2))
theorem z25 {F F':Hp}{u:W}{z:V} (h2:Rep K F' u z) (f2:znd u=true):∀{ws:List W}{vs:List V},Reps K F ws vs->ws.all znd=true->inV z vs=ws.any λy=>eqF y u
 |_,_,.nil,_=>rfl
 | _,_,.cons h r,f=>by
  rw[Bp,Ad] at f;have ih:=z25 h2 f2 r f.2;unfold inV at ih ⊢;rw[Fg,Fg,ih,z9u h h2 f.1 f2]
def oIn (neg:Bool):O2:=λa b=>(seqW b).bind λws=>if znd a&&ws.all znd then some (.bl (if neg then !(ws.any λy=>eqF y a) else ws.any λy=>eqF y a),false) else none
theorem zvl (neg:Bool):OpS K (rIn K neg) (oIn neg):=λF H w1 w2 v1 v2 rv Q s r1 r2 e q=>by
 obtain⟨ws,hs,e⟩:=bS e;split at e
 ·rename_i z;rw [Ad] at z;obtain rfl:=sI e;obtain ⟨a,vs,e2,hq,p⟩:=r2.seqW s hs;have r1':Rep K F w1 v1:=by
   rcases r1 with r|⟨_,_,_,e,_,_,y⟩
   ·exact r
   ·subst e;cases y<;>cases z.1
  refine⟨a,vs,e2,hq,r1'.flat z.1,p.flat z.2,?_⟩;rw[z25 r1' z.1 p z.2];exact q _ _ (.val (.bl _))
 ·exact noSome e
def oIx:O2
 |a,.int i=>(seqW a).bind λws=>(atI ws i).bind λw=>#v[w,6]
 |_,_=>none
theorem z0r {F:Hp}{ws:List W}{vs:List V}{i:Int}{w:W}(r:Reps K F ws vs)(h:atI ws i=some w):∃v,atI vs i=some v/\Rep K F w v:=by
 unfold atI at h ⊢;rw[<-r.length];obtain⟨j,h1,h2⟩:=bS h;obtain⟨v,h3,h4⟩:=r.get h2;exact⟨v,by rw[h1];exact h3,h4⟩
def rIxB (K:PySem.W.Frag):R2:=λx y H Q=>rIxL K x y H Q\/rIxT K x y H Q
theorem ybf:OpS K (rIxB K) oIx:=λF H w1 w2 v1 v2 rv Q s r1 r2 e q=>by
 cases w2 with
 | int i =>
  obtain⟨ws,hs,e⟩:=bS (show (seqW w1).bind _=_ from e);obtain⟨w,hw,e⟩:=bS e;obtain rfl:=sI e;obtain⟨a,vs,e1,hq,p⟩:=r1.seqW s hs;obtain⟨v,hv,rv⟩:=z0r p hw;rcases hq with hq|hq
  ·exact .inl ⟨a,vs,i,v,e1,r2.int,hq,hv,q _ _ (.val rv)⟩
  ·exact .inr ⟨a,vs,i,v,e1,r2.int,hq,hv,q _ _ (.val rv)⟩
 |_=>cases w1<;>exact noSome e
noncomputable def oNeg:W->Option (W×Bool)
 |.int i=>#v[(-i),0]
 |_=>none
theorem z7o:OpS1 K (rU λi=>.int (-i)) oNeg:=λF H w v rv Q s r e q=>by
 cases w with
 |int i=>obtain rfl:=sI e;exact⟨i,r.int,q _ _ (.val (.int _))⟩
 |_=>exact noSome e
end
theorem zjd:∀(ns:List Int) (k:Nat),k<=ns.length->preSum (λi=>ns.getD i 0) k=(ns.take k).sum
 |ns,0,_=>rfl
 | ns,k+1,h=>by
  have ih:=zjd ns k #v[];show preSum (λi=>ns.getD i 0) k+ns.getD k 0=_;rw[ih,Ev,List.sum_append];have hk:k<ns.length:=by omega
  rw[Ac hk,Bg,Ac hk];simp
section
variable {X:Cx}
theorem zkv {ns:List Int}{its:List Value}{i:Nat}{v:Value}(r:Vals (ns.map V.int) its)(h:its[i]?=some v):∃t,v=.int (ns.getD i 0) t:=by
 have hl:=r.length;rw[Ae] at hl;have hi:i<ns.length:=by rw[hl];exact (Ak.mp h).1
 obtain⟨u,hu,ru⟩:=r.get (i:=i) (x:=.int ns[i]) (by rw[Au,Ac hi];rfl);rw[h] at hu;obtain rfl:=sI hu;obtain⟨t,e⟩:=ru;exact⟨t,by rw[e,Bg,Ac hi];rfl⟩
theorem zt8 (hc:X.calm=true):zcb X (.builtin "sum") (λxs H Q=>∃(a:Addr) (ns:List Int),xs=[.ref a]/\SqL X.K H a (ns.map V.int)/\Q (.int ns.sum) H):=by
 intro pins s σ H xs us Q I r h;nofun;obtain⟨a,ns,rfl,hq,q⟩:=h;obtain⟨u,rfl,rx⟩:=vals1 r;ac_rfl;cases rx;nofun;obtain⟨its,rv,p,hz⟩:=I.list hq;ac_rfl;have hl:=rv.length;rw[Ae] at hl;have ha:a<s.heap.objs.size:=by obtain⟨o,e,_⟩:=p.isList;exact Ai e
 refine call_sum_walkG (Di p.isList ?_);refine⟨s.heap.objs.size,_,[s.heap.objs.size],its.toArray.size,_,_,λi=>ns.getD i 0,rfl,Hg (A:=X.A.in1) (show X.A.in1.handled=none from I.ok.hd hc) _ a (Az ha) its.toArray,⟨⟨_,An _ rfl,rfl,rfl⟩,p.isList.push _⟩,?_,λi v hv=>zkv rv (by simpa using hv),λh' tk t' hk=>?_⟩
 ·intro b hb;have e0:∀o:Obj,(s.heap.push o).objs.size=s.heap.objs.size+1:=λo=>Da ..;have hb':b=s.heap.objs.size\/b=a:=by simpa using hb
  show b<(s.heap.push _).objs.size;rw[e0];rcases hb' with rfl|rfl
  ·exact Fa _
  ·exact Dn ha
 ·have e:its.toArray.size=ns.length:=by simp;omega
  rw[e,zjd ns ns.length (Af _),Ci];refine⟨.int _,H,I.kept λb o hb=>?_,⟨_,rfl⟩,q⟩;exact hk b o (by intro z;rw[Ao] at z;subst z;exact absurd (Ai hb) (Bt _)) (Ab _ hb)
noncomputable def mx1 (n:Int) (r:List Int):Int:=r.foldl (λb x=>if x > b then x else b) n
theorem zug (n:Int) (r:List Int):∀k,k<=r.length->(n::r).getD (argBest (λi j=>decide ((n::r).getD i 0 > (n::r).getD j 0)) k) 0=mx1 n (r.take k)
 |0,_=>rfl
 | k+1,h=>by
  have ih:=zug n r k #v[];have hk:k<r.length:=by omega
  have g:(n::r).getD (k+1) 0=r[k]:=by rw[List.getD_cons_succ,Bg,Ac hk];rfl
  have t:mx1 n (r.take (k+1))=if r[k] > mx1 n (r.take k) then r[k] else mx1 n (r.take k):=by
   unfold mx1;rw[Ev,Ac hk,Dz];rfl
  rw[t];show (n::r).getD (if decide ((n::r).getD (k+1) 0 > (n::r).getD (argBest (λi j=>decide ((n::r).getD i 0 > (n::r).getD j 0)) k) 0)=true then k+1 else argBest _ k) 0=_;rw[ih,g];by_cases c:r[k] > mx1 n (r.take k)
  ·rw[Aj c,if_pos rfl,if_pos c,g]
  ·rw[Ay c,if_neg Ar,if_neg c,ih]
theorem zx1 (hc:X.calm=true):zcb X (.builtin "max") (λxs H Q=>(∃i j,xs=[.int i,.int j]/\Q (.int (if j > i then j else i)) H)\/∃(a:Addr) (n:Int) (r:List Int),xs=[.ref a]/\SqL X.K H a ((n::r).map V.int)/\Q (.int (mx1 n r)) H):=by
 intro pins s σ H xs us Q I r h;rcases h with h|h
 ·exact zxa hc pins s σ H xs us Q I r h
 obtain⟨a,n,ns,rfl,hq,q⟩:=h;obtain⟨u,rfl,rx⟩:=vals1 r;cases rx;obtain⟨its,rv,p,hz⟩:=I.list hq;have hl:=rv.length;rw[Ae] at hl;have ha:a<s.heap.objs.size:=by obtain⟨o,e,_⟩:=p.isList;exact Ai e
 have iv:∀(i:Nat) (v:Value),its.toArray[i]?=some v->∃t,v=Value.int ((n::ns).getD i 0) t:=λi v e=>zkv rv (by simpa using e);refine call_max_walk (Di p.isList ?_);refine⟨s.heap.objs.size,_,[s.heap.objs.size],its.toArray.size,_,_,_,rfl,Hg (A:=X.A.in1) (show X.A.in1.handled=none from I.ok.hd hc) _ a (Az ha) its.toArray,⟨⟨_,An _ rfl,rfl,rfl⟩,p.isList.push _⟩,λb hb=>?_,by rw[Ah,<-hl];exact Nat.succ_pos _,CmpOf.ints_gt _ iv,λv h' tk hv hk=>?_⟩
 ·rw[Da];simp only [Ap,Cb,Ge] at hb;rcases hb with rfl|rfl
  ·exact Fa _
  ·exact Dn ha
 ·obtain⟨t,rfl⟩:=iv _ _ hv;have e:its.toArray.size-1=ns.length:=by rw[Ah,<-hl];rfl
  refine⟨.int _,H,I.kept λb o hb=>hk b o (λz=>by rw[Ao] at z;subst z;exact absurd (Ai hb) (Bt _)) (Ab _ hb),⟨_,rfl⟩,?_⟩;rw[e,zug n ns ns.length (Af _),Ci];exact q
noncomputable def mn1 (n:Int) (r:List Int):Int:=r.foldl (λb x=>if x<b then x else b) n
theorem zur (n:Int) (r:List Int):∀k,k<=r.length->(n::r).getD (argBest (λi j=>decide ((n::r).getD i 0<(n::r).getD j 0)) k) 0=mn1 n (r.take k)
 |0,_=>rfl
 | k+1,h=>by
  have ih:=zur n r k #v[];have hk:k<r.length:=by omega
  have g:(n::r).getD (k+1) 0=r[k]:=by rw[List.getD_cons_succ,Bg,Ac hk];rfl
  have t:mn1 n (r.take (k+1))=if r[k]<mn1 n (r.take k) then r[k] else mn1 n (r.take k):=by
   unfold mn1;rw[Ev,Ac hk,Dz];rfl
  rw[t];show (n::r).getD (if decide ((n::r).getD (k+1) 0<(n::r).getD (argBest (λi j=>decide ((n::r).getD i 0<(n::r).getD j 0)) k) 0)=true then k+1 else argBest _ k) 0=_;rw[ih,g];by_cases c:r[k]<mn1 n (r.take k)
  ·rw[Aj c,if_pos rfl,if_pos c,g]
  ·rw[Ay c,if_neg Ar,if_neg c,ih]
theorem zx2 (hc:X.calm=true):zcb X (.builtin "min") (λxs H Q=>(∃i j,xs=[.int i,.int j]/\Q (.int (if j<i then j else i)) H)\/∃(a:Addr) (n:Int) (r:List Int),xs=[.ref a]/\SqL X.K H a ((n::r).map V.int)/\Q (.int (mn1 n r)) H):=by
 intro pins s σ H xs us Q I r h;rcases h with h|h
 ·exact zv5 hc pins s σ H xs us Q I r h
 obtain⟨a,n,ns,rfl,hq,q⟩:=h;obtain⟨u,rfl,rx⟩:=vals1 r;cases rx;obtain⟨its,rv,p,hz⟩:=I.list hq;have hl:=rv.length;rw[Ae] at hl;have ha:a<s.heap.objs.size:=by obtain⟨o,e,_⟩:=p.isList;exact Ai e
 have iv:∀(i:Nat) (v:Value),its.toArray[i]?=some v->∃t,v=Value.int ((n::ns).getD i 0) t:=λi v e=>zkv rv (by simpa using e);refine call_min_walk (Di p.isList ?_);refine⟨s.heap.objs.size,_,[s.heap.objs.size],its.toArray.size,_,_,_,rfl,Hg (A:=X.A.in1) (show X.A.in1.handled=none from I.ok.hd hc) _ a (Az ha) its.toArray,⟨⟨_,An _ rfl,rfl,rfl⟩,p.isList.push _⟩,λb hb=>?_,by rw[Ah,<-hl];exact Nat.succ_pos _,CmpOf.ints_lt _ iv,λv h' tk hv hk=>?_⟩
 ·rw[Da];simp only [Ap,Cb,Ge] at hb;rcases hb with rfl|rfl
  ·exact Fa _
  ·exact Dn ha
 ·obtain⟨t,rfl⟩:=iv _ _ hv;have e:its.toArray.size-1=ns.length:=by rw[Ah,<-hl];rfl
  refine⟨.int _,H,I.kept λb o hb=>hk b o (λz=>by rw[Ao] at z;subst z;exact absurd (Ai hb) (Bt _)) (Ab _ hb),⟨_,rfl⟩,?_⟩;rw[e,zur n ns ns.length (Af _),Ci];exact q
theorem z7r:OpR X (binaryOp .Add) (λx y H Q=>∃a b ys,x=.ref a/\y=.ref b/\SqT X.K H a []/\SqT X.K H b ys/\Q (.ref b) H):=by
 intro pins s σ H x y v u Q I rx ry h;nofun;obtain⟨a,b,ys,rfl,rfl,ha,hb,q⟩:=h;ac_rfl;cases rx;cases ry;nofun;obtain⟨its,r1,p1,_⟩:=I.tuple ha;obtain⟨its2,r2,p2,_⟩:=I.tuple hb;obtain⟨⟨c1,d1,t1,l1⟩,g1,k1,n1,q1⟩:=id p1;obtain⟨⟨c2,d2,t2,l2⟩,g2,k2,n2,q2⟩:=id p2;ac_rfl;simp only at k1 q1 k2 q2;subst k1 q1 k2 q2;have e0:its=[]:=by cases r1;rfl
 subst e0;exact concat_meets (T := "tuple") ⟨_,g1,rfl⟩ ⟨_,g2,rfl⟩ noFill_tuple_add seq_tuple_add PySem.F.slot_tuple_add PySem.F.entry_tuple_add (Hd _ _)
  (tuple_addW0 a b _ _ n1 n2 d1 d2 l1 l2 rfl) ⟨g1,g2,⟨.ref b,H,I.tok _,rfl,q⟩⟩
theorem z2s:OpR X (binaryOp .FloorDiv) (rI (λ_ j=>0<j/\j.natAbs.log2<9000) λi j=>.int (i/j)):=opI λi j _ _ _ _ _ hc q=>by
 have h1:(0:Int)<j:=hc.1;exact floordiv_int #v[] (by rw[Int.fdiv_eq_ediv_of_nonneg i #v[]];exact q) (.inl (PyProof.noPylong_of_log2 hc.2))
end
section
variable {K:PySem.W.Frag}
noncomputable def yd2 (K:PySem.W.Frag):R2:=λx y H Q=>∃a b ys,x=.ref a/\y=.ref b/\SqT K H a []/\SqT K H b ys/\Q (.ref b) H
theorem zzb:OpS K (yd2 K) z4n:=λF H w1 w2 v1 v2 rv Q s r1 r2 e q=>by
 cases w1 with
 | tup xs =>
  cases xs with
  |cons _ _=>cases w2<;>exact noSome e
  | nil =>
   cases w2 with
   | tup ys =>
    obtain rfl:=sI e;nofun;obtain⟨a,vs,e1,h1,f1,p1⟩:=r1.tup s;obtain⟨b,us,e2,h2,f2,p2⟩:=r2.tup s;ac_rfl;cases p1;subst e2;exact⟨a,b,us,e1,rfl,.inl (.inl h1),.inl (.inl h2),q _ _ (.val (.tup f2 p2))⟩
   |_=>exact noSome e
 |_=>exact noSome e
noncomputable def ycy:R2:=λx y H Q=>∃i j,x=.str i/\y=.str j/\i.length+j.length<=sizeLine/\Q (.str (i++j)) H
theorem z2h:OpS K ycy z2m:=λF H w1 w2 v1 v2 rv Q s r1 r2 e q=>by
 cases w1 with
 | str x =>
  cases w2 with
  | str y =>
   unfold z2m at e;simp only at e;split at e
   ·rename_i z;obtain rfl:=sI e;exact⟨x,y,r1.str,r2.str,z,q _ _ (.val (.str _))⟩
   ·exact noSome e
  |_=>exact noSome e
 |_=>exact noSome e
noncomputable abbrev ON:=List W->Option (W×Bool)
def oLen:ON
 |[w]=>(seqW w).bind λws=>#v[ws.length,0]
 |_=>none
theorem z76:OpSN K (λxs H Q=>∃p ys,xs=[.ref p]/\(SqL K H p ys\/SqT K H p ys)/\Q (.int ys.length) H) oLen:=λF H ws vs rv Q s r e q=>by
 cases r with
 |nil=>exact noSome e
 | cons h r =>
  cases r with
  |cons _ _=>exact noSome e
  | nil =>
   obtain⟨ws,hs,e⟩:=bS (show (seqW _).bind _=_ from e);obtain rfl:=sI e;obtain⟨a,vs,e1,hq,p⟩:=h.seqW s hs;subst e1;exact⟨a,vs,rfl,hq,by rw[<-p.length];exact q _ _ (.val (.int _))⟩
noncomputable def oAbs:ON
 |[.int i]=>#v[(if i<0 then -i else i),0]
 |_=>none
theorem RepBs.one {F H:Hp}{w:W}{vs:List V}(r:RepBs K F H [w] vs):∃v,vs=[v]/\RepB K F H w v:=by
 cases r with
 |cons h r=>cases r;exact⟨_,rfl,h⟩
theorem RepBs.two {F H:Hp}{w u:W}{vs:List V}(r:RepBs K F H [w,u] vs):∃v z,vs=[v,z]/\RepB K F H w v/\RepB K F H u z:=by
 cases r with
 |cons h r=>obtain⟨z,e,h2⟩:=r.one;subst e;exact⟨_,z,rfl,h,h2⟩
theorem z5b:OpSN K (λxs H Q=>∃i,xs=[.int i]/\Q (.int (if i<0 then -i else i)) H) oAbs:=λF H ws vs rv Q s r e q=>by
 match ws,e with
 | [.int i],e =>
  obtain rfl:=sI e;obtain⟨v,e1,h⟩:=r.one;subst e1;exact⟨i,by rw[h.int],q _ _ (.val (.int _))⟩
noncomputable def oInt:ON
 |[.int i]=>#v[i,0]
 |[.bl k]=>#v[(if k then 1 else 0),0]
 |_=>none
theorem z7t:OpSN K (λxs H Q=>(∃i,xs=[.int i]/\Q (.int i) H)\/∃k,xs=[.bl k]/\Q (.int (if k then 1 else 0)) H) oInt:=λF H ws vs rv Q s r e q=>by
 match ws,e with
 | [.int i],e =>
  obtain rfl:=sI e;obtain⟨v,e1,h⟩:=r.one;subst e1;exact .inl ⟨i,by rw[h.int],q _ _ (.val (.int _))⟩
 | [.bl k],e =>
  obtain rfl:=sI e;obtain⟨v,e1,h⟩:=r.one;subst e1;exact .inr ⟨k,by rw[h.bl],q _ _ (.val (.int _))⟩
def zzv:ON
 |[w]=>(seqW w).bind λws=>#v[ws,2]
 |_=>none
theorem zrf:OpSN K (λxs H Q=>∃p ys,xs=[.ref p]/\(SqL K H p ys\/SqT K H p ys)/\∀l,H l=none->Q (.ref l) (upd H l (.lst ys))) zzv:=λF H ws vs rv Q s r e q=>by
 match ws,e with
 | [w],e =>
  obtain⟨ws,hs,e⟩:=bS (show (seqW _).bind _=_ from e);obtain rfl:=sI e;nofun;obtain⟨v,e1,h⟩:=r.one;obtain⟨a,us,e2,hq,p⟩:=h.seqW s hs;ac_rfl;subst e1 e2;exact⟨a,us,rfl,hq,λl hl=>q _ _ (.lst hl p)⟩
def zc2:ON
 |[.tup ws]=>#v[ws,3]
 |[w]=>(seqL w).bind λws=>#v[ws,3]
 |_=>none
theorem zw3:OpSN K (λxs H Q=>∃p ys,xs=[.ref p]/\((SqL K H p ys/\∀l,H l=none->Q (.ref l) (upd H l (.tup ys)))\/(SqT K H p ys/\Q (.ref p) H))) zc2:=λF H ws vs rv Q s r e q=>by
 match ws,e with
 | [.tup ws],e =>
  obtain rfl:=sI e;nofun;obtain⟨v,e1,h⟩:=r.one;obtain⟨a,us,e2,hq,f,p⟩:=h.tup s;ac_rfl;subst e1 e2;exact⟨a,us,rfl,.inr ⟨.inl (.inl hq),q _ _ (.val (.tup f p))⟩⟩
 | [.lst ws],e =>
  obtain rfl:=sI e;nofun;obtain⟨v,e1,h⟩:=r.one;obtain⟨a,us,e2,hq,p⟩:=h.lst s;ac_rfl;subst e1 e2;exact⟨a,us,rfl,.inl ⟨SqL.of' hq,λl hl=>q _ _ (.tup hl p)⟩⟩
 | [.frl ws],e =>
  obtain rfl:=sI e;nofun;obtain⟨v,e1,h⟩:=r.one;obtain⟨a,us,e2,hq,p⟩:=h.frl s;ac_rfl;subst e1 e2;exact⟨a,us,rfl,.inl ⟨hq,λl hl=>q _ _ (.tup hl p)⟩⟩
 |[.non],e=>exact noSome e
 |[.bl _],e=>exact noSome e
 |[.int _],e=>exact noSome e
 |[.str _],e=>exact noSome e
 |[.dic],e=>exact noSome e
 |[.dct _ _],e=>exact noSome e
noncomputable def zpz:List W->Option (List Bool)
 |[]=>some []
 |.bl b::ws=>(zpz ws).bind λbs=>some (b::bs)
 |_=>none
noncomputable def zcd:List W->Option (List Int)
 |[]=>some []
 |.int b::ws=>(zcd ws).bind λbs=>some (b::bs)
 |_=>none
theorem zqy:∀{ws:List W}{bs:List Bool},zpz ws=some bs->ws=bs.map W.bl
 |[],_,e=>by obtain rfl:=sI e;rfl
 | .bl b::ws,_,e=>by
  obtain⟨bs,h,e⟩:=bS (show (zpz ws).bind _=_ from e);obtain rfl:=sI e;rw[zqy h];rfl
 |.non::_,_,e=>by exact noSome e
 |.int _::_,_,e=>by exact noSome e
 |.str _::_,_,e=>by exact noSome e
 |.tup _::_,_,e=>by exact noSome e
 |.lst _::_,_,e=>by exact noSome e
 |.frl _::_,_,e=>by exact noSome e
theorem zcc:∀{ws:List W}{bs:List Int},zcd ws=some bs->ws=bs.map W.int
 |[],_,e=>by obtain rfl:=sI e;rfl
 | .int b::ws,_,e=>by
  obtain⟨bs,h,e⟩:=bS (show (zcd ws).bind _=_ from e);obtain rfl:=sI e;rw[zcc h];rfl
 |.non::_,_,e=>by exact noSome e
 |.bl _::_,_,e=>by exact noSome e
 |.str _::_,_,e=>by exact noSome e
 |.tup _::_,_,e=>by exact noSome e
 |.lst _::_,_,e=>by exact noSome e
 |.frl _::_,_,e=>by exact noSome e
theorem zc6:∀(ns:List Int),zcd (ns.map W.int)=some ns
 |[]=>rfl
 |n::ns=>by show (zcd (ns.map W.int)).bind _=_;rw[zc6 ns];rfl
theorem zn4:∀(ns:List Bool),zpz (ns.map W.bl)=some ns
 |[]=>rfl
 |n::ns=>by show (zpz (ns.map W.bl)).bind _=_;rw[zn4 ns];rfl
def oBl (f:List Bool->Bool):ON
 |[w]=>(seqL w).bind λws=>(zpz ws).bind λbs=>some (.bl (f bs),false)
 |_=>none
theorem z20 {f:List Bool->Bool}:OpSN K (λxs H Q=>∃(a:Addr) (bs:List Bool),xs=[.ref a]/\SqL K H a (bs.map V.bl)/\Q (.bl (f bs)) H) (oBl f):=λF H ws vs rv Q s r e q=>by
 match ws,e with
 | [w],e =>
  nofun;obtain⟨ws,hs,e⟩:=bS (show (seqL _).bind _=_ from e);obtain⟨bs,hb,e⟩:=bS e;ac_rfl;obtain rfl:=sI e;nofun;obtain⟨v,e1,h⟩:=r.one;obtain⟨a,us,e2,hq,p⟩:=h.seqL s hs;ac_rfl;subst e1 e2;rw[zqy hb] at p;rw[p.bls] at hq;exact⟨a,bs,rfl,hq,q _ _ (.val (.bl _))⟩
def oSum:ON
 |[w]=>(seqL w).bind λws=>(zcd ws).bind λns=>#v[ns.sum,0]
 |_=>none
theorem z6c:OpSN K (λxs H Q=>∃(a:Addr) (ns:List Int),xs=[.ref a]/\SqL K H a (ns.map V.int)/\Q (.int ns.sum) H) oSum:=λF H ws vs rv Q s r e q=>by
 match ws,e with
 | [w],e =>
  nofun;obtain⟨ws,hs,e⟩:=bS (show (seqL _).bind _=_ from e);obtain⟨bs,hb,e⟩:=bS e;ac_rfl;obtain rfl:=sI e;nofun;obtain⟨v,e1,h⟩:=r.one;obtain⟨a,us,e2,hq,p⟩:=h.seqL s hs;ac_rfl;subst e1 e2;rw[zcc hb] at p;rw[p.ints] at hq;exact⟨a,bs,rfl,hq,q _ _ (.val (.int _))⟩
def mnW (w:W):Option (W×Bool):=(seqL w).bind λws=>(zcd ws).bind λns=>match ns with
 |n::r=>#v[(mn1 n r),0]
 |[]=>none
noncomputable def oMin:ON
 |[.int i,.int j]=>#v[(if j<i then j else i),0]
 |[w]=>mnW w
 |_=>none
def mxW (w:W):Option (W×Bool):=(seqL w).bind λws=>(zcd ws).bind λns=>match ns with
 |n::r=>#v[(mx1 n r),0]
 |[]=>none
noncomputable def mx2:W->W->Option (W×Bool)
 |.int i,.int j=>#v[(if j > i then j else i),0]
 |_,_=>none
def oMax:ON
 |[w]=>mxW w
 |[a,b]=>mx2 a b
 |_=>none
theorem z72:OpSN K (λxs H Q=>(∃i j,xs=[.int i,.int j]/\Q (.int (if j<i then j else i)) H)\/∃(a:Addr) (n:Int) (r:List Int),xs=[.ref a]/\SqL K H a ((n::r).map V.int)/\Q (.int (mn1 n r)) H) oMin:=λF H ws vs rv Q s r e q=>by
 unfold oMin at e;split at e
 ·obtain rfl:=sI e
  obtain⟨v,z,e1,h1,h2⟩:=r.two;subst e1;exact .inl ⟨_,_,by rw[h1.int,h2.int],q _ _ (.val (.int _))⟩
 ·rename_i w
  nofun;obtain⟨ws,hs,e⟩:=bS (show (seqL w).bind _=some rv from e);obtain⟨ns,hb,e⟩:=bS e;obtain⟨v,e1,h⟩:=r.one;obtain⟨a,us,e2,hq,p⟩:=h.seqL s hs;ac_rfl;subst e1 e2;rw[zcc hb] at p;rw[p.ints] at hq;cases ns with
  |nil=>exact noSome e
  | cons n ns =>
   obtain rfl:=sI e;exact .inr ⟨a,n,ns,rfl,hq,q _ _ (.val (.int _))⟩
 ·exact noSome e
theorem z49:OpSN K (λxs H Q=>(∃i j,xs=[.int i,.int j]/\Q (.int (if j > i then j else i)) H)\/∃(a:Addr) (n:Int) (r:List Int),xs=[.ref a]/\SqL K H a ((n::r).map V.int)/\Q (.int (mx1 n r)) H) oMax:=λF H ws vs rv Q s r e q=>by
 match ws,e with
 | [x,y],e =>
  have e:mx2 x y=some rv:=e;unfold mx2 at e;split at e
  ·obtain rfl:=sI e
   nofun;obtain⟨v,z,e1,h1,h2⟩:=r.two;ac_rfl;subst e1;exact .inl ⟨_,_,by rw[h1.int,h2.int],q _ _ (.val (.int _))⟩
  ·exact noSome e
 | [w],e =>
  nofun;obtain⟨ws,hs,e⟩:=bS (show (seqL w).bind _=some rv from e);obtain⟨ns,hb,e⟩:=bS e;obtain⟨v,e1,h⟩:=r.one;obtain⟨a,us,e2,hq,p⟩:=h.seqL s hs;ac_rfl;subst e1 e2;rw[zcc hb] at p;rw[p.ints] at hq;cases ns with
  |nil=>exact noSome e
  | cons n ns =>
   obtain rfl:=sI e;exact .inr ⟨a,n,ns,rfl,hq,q _ _ (.val (.int _))⟩
noncomputable def tyW:W->Option String
 |.non=>some "NoneType"
 |.bl _=>some "bool"
 |.int _=>some "int"
 |.str _=>some "str"
 |.tup _=>some "tuple"
 |.lst _=>some "list"
 |.frl _=>none
 |.dic=>none
 |.dct _ _=>none
inductive Kd where
 |int|bool|str|tuple|list
 deriving DecidableEq
noncomputable def Kd.nm:Kd->String
 |.int => "int" | .bool => "bool" | .str => "str" | .tuple => "tuple" | .list => "list"
noncomputable def isiW (k:Kd):W->Option Bool
 |.non=>some false
 |.bl _=>some (k==.bool||k==.int)
 |.int _=>some (k==.int)
 |.str _=>some (k==.str)
 |.tup _=>some (k==.tuple)
 |.lst _=>some (k==.list)
 |.frl _=>none
 |.dic=>some false
 |.dct _ _=>none
def oIsi (k:Kd) (w:W):Option (W×Bool):=(isiW k w).bind λb=>some (.bl b,false)
theorem z62 {F H:Hp}{w:W}{v:V}{k:Kd}{b:Bool} (s:Same F H) (r:RepB K F H w v) (e:isiW k w=some b):∃t,TyOf K H v t/\PySem.W.kitOne K t (.type k.nm)=some b:=by
 cases w with
 |non=>rw[r.non];obtain rfl:=sI e;exact⟨_,.non,by cases k<;>(with_unfolding_all rfl)⟩
 |bl x=>rw[r.bl];obtain rfl:=sI e;exact⟨_,.bl x,by cases k<;>(with_unfolding_all rfl)⟩
 |int x=>rw[r.int];obtain rfl:=sI e;exact⟨_,.int x,by cases k<;>(with_unfolding_all rfl)⟩
 |str x=>rw[r.str];obtain rfl:=sI e;exact⟨_,.str x,by cases k<;>(with_unfolding_all rfl)⟩
 |tup x=>obtain⟨a,vs,e1,h,_⟩:=r.tup s;subst e1;obtain rfl:=sI e;exact⟨_,.tup h,by cases k<;>(with_unfolding_all rfl)⟩
 |lst x=>obtain⟨a,vs,e1,h,_⟩:=r.lst s;subst e1;obtain rfl:=sI e;exact⟨_,.lst h,by cases k<;>(with_unfolding_all rfl)⟩
 |frl x=>exact noSome e
 | dic =>
  rcases r with r|⟨_,_,_,z,_,_,q⟩
  ·cases r with
   |dic h=>obtain rfl:=sI e;exact⟨_,.dK (s _ _ h),by cases k<;>(with_unfolding_all rfl)⟩
  ·subst z;cases q
 |dct ks ws=>exact noSome e
noncomputable def rIsi (K:PySem.W.Frag):List V->Hp->VK->Prop:=λxs H Q=>∃x t c b,xs=[x,.ty c]/\TyOf K H x t/\PySem.W.kitOne K t (.type c)=some b/\Q (.bl b) H
theorem z2o {k:Kd}{a:GA}{σ:St}{H:Hp}{Q:VK}(h:tE K (gOp1 (oIsi k) a) σ H Q):tCB (rIsi K) (zfs (tA K a) (zfs (tC (.ty k.nm)) tNil)) σ H Q:=by
 nofun;obtain⟨F,pr,en,en',rv,R,h,q⟩:=h;obtain⟨⟨e1,x1⟩,h1,h⟩:=bS h;obtain⟨w1,hw1,h⟩:=bS h;obtain⟨r',hr,h⟩:=bS h;obtain⟨b,hb,hr⟩:=bS hr;ac_rfl;obtain rfl:=sI hr;cases h;refine⟨F,pr,en,e1,x1,R,h1,λF1 H1 v1 s1 R1 a1=>?_⟩;obtain⟨t,ty,ek⟩:=z62 R1.sub (a1.repB R1 hw1) hb;exact⟨v1,t,_,b,rfl,ty,ek,q F1 H1 _ s1 R1 (.bl b)⟩
abbrev GO:=En->Option (En×Option Int)
noncomputable def zbt:GO:=λen=>some (en,none)
noncomputable def zfq (g:GE):GO:=λen=>match g en with
 |some (en',(.int i,_))=>some (en',some i)
 |_=>none
noncomputable def tO (K:PySem.W.Frag) (g:GO):TO:=λσ H Q=>∃F pr en en' o,Rel K F pr en σ H/\g en=some (en',o)/\∀F' H',Same F F'->Rel K F' pr en' σ H'->Q o H'
theorem Res.isInt {F H:Hp}{pr:Prt}{en:En}{σ:St}{i:Int}{fl:Bool}{v:V}(h:Res K F H pr en σ (.int i,fl) v):v=.int i:=by
 cases fl with
 |false=>cases (show Rep K F (.int i) v from h);rfl
 |true=>obtain⟨_,_,_,e,_,_,_,q,_⟩:=h;subst e;cases q
theorem zpt {σ:St}{H:Hp}{Q:Option Int->Hp->Prop}(h:tO K zbt σ H Q):zuj σ H Q:=by
 obtain⟨F,pr,en,en',o,R,h,q⟩:=h;cases h;exact q F H (.refl F) R
theorem zyq {g:GE}{σ:St}{H:Hp}{Q:Option Int->Hp->Prop} (h:tO K (zfq g) σ H Q):z8e (tE K g) σ H Q:=by
 nofun;obtain⟨F,pr,en,en',o,R,h,q⟩:=h;ac_rfl;unfold zfq at h;cases e:g en with
 |none=>simp only [e] at h;exact noSome h
 | some p =>
  obtain⟨e1,w,fl⟩:=p;cases w with
  |int c=>simp only [e] at h;cases h;exact⟨F,pr,en,_,_,R,e,λF' H' v s' R' z=>⟨c,z.isInt,q F' H' s' R'⟩⟩
  |_=>simp only [e] at h;exact noSome h
open HT in
theorem ztn {prog:Program}{w:World}{A:Around}{E:Value->Shared->Prop}{s:Shared}{t sl:Addr}{items:Array Value}{vl vu:Value}{lo hi:Option Int}{Q:Value->Shared->Prop} (ht:IsTup s.heap t items) (hs:s.heap.IsSliceOf sl vl vu .none) (pl:IsPart vl lo) (pu:IsPart vu hi)
  (h0:sIx items.size 0 lo=0) (h1:sIx items.size items.size hi=items.size) (h:Q (.ref t) s):wpAny (model prog w) A (getItem (.ref t) (.ref sl)) Q E s:=by
 obtain⟨os,g1,g2,_⟩:=id hs;have ty:s.TypeIs (.ref sl) "slice" := ⟨os,g1,g2⟩;unfold getItem
 try with_reducible refine Bw ?_
 first|refine Aa (Ag ?_)|skip
 refine Aa (wpAny_sequenceKey ht.typeIs #v[0,9] ?_);refine Aa (Dd (name:=Str.ofString "__getitem__") ht.typeIs Eb (Ej Eb ht.typeIs entry_tuple_getitem ?_ (args_tuple_getitem _ _)));show wpAny _ _ (Builtin.Tuple.tupleItemsOf (.ref t)>>=_) _ _ s;refine Aa (tupleItemsOf_ ht ?_);refine Aa (wpAny_typeOf ty ?_);rw[if_pos #v[0,9]];refine Aa (zdp hs pl pu ?_);rw[h0,h1];show wpAny _ _ (if ((((0:Nat):Int)==0&&(1:Int)==1&&(items.size-0)==items.size)=true) then _ else _) _ _ s;rw[if_pos (by simp)];unfold Builtin.Tuple.tupleIsExact;refine Aa (Aa (wpAny_typeOf ht.typeIs (Ag ?_)));rw[if_pos #v[0,9]];refine Aa (Dc (Ag ⟨_,rfl,?_⟩));exact Ag h
def rSlW (K:PySem.W.Frag):V->Option Int->Option Int->Hp->VK->Prop:=λx lo hi H Q=>∃a xs,x=.ref a/\SqT K H a xs/\HT.sIx xs.length 0 lo=0/\HT.sIx xs.length xs.length hi=xs.length/\Q x H
theorem z6y {X:Cx}:SlR X (rSlW X.K):=by
 intro pins s σ H x v vl vu lo hi sl Q I rx hs pl pu h;nofun;obtain⟨a,xs,rfl,hx,h0,h1,q⟩:=h;ac_rfl;cases rx;nofun;obtain⟨its,r,ht,hz⟩:=I.tuple hx;ac_rfl;have hlen:its.toArray.size=xs.length:=by rw[Ah];exact r.length.symm
 exact⟨"tuple",_,PyProof.Rows.slot_tuple_getitem.lookup,ht.typeIs,ztn ht hs pl pu (by rw[hlen];exact h0) (by rw[hlen];exact h1) ⟨.ref a,H,I,rfl,q⟩⟩
def cutW (xs:List W) (lo hi:Option Int):List W:=(xs.drop (HT.sIx xs.length 0 lo)).take (HT.sIx xs.length xs.length hi-HT.sIx xs.length 0 lo)
noncomputable def oSl (w:W) (lo hi:Option Int):Option (W×Bool):=match w with
 |.lst ws=>#v[(cutW ws lo hi),2]
 |.frl ws=>#v[(cutW ws lo hi),2]
 |.tup ws=>#v[(cutW ws lo hi),3]
 |_=>none
noncomputable def rSlB (K:PySem.W.Frag):V->Option Int->Option Int->Hp->VK->Prop:=λx lo hi H Q=>(rSlL K x lo hi H Q\/rSlT K x lo hi H Q)\/rSlW K x lo hi H Q
theorem ybr {F H:Hp}{w:W}{v:V}{lo hi:Option Int}{rv:W×Bool}{Q:VK} (s:Same F H) (r:RepB K F H w v) (e:oSl w lo hi=some rv) (q:∀u H',Out K F H rv u H'->Q u H'):rSlB K v lo hi H Q:=by
 have cut:∀{ws:List W}{vs:List V},Reps K F ws vs->Reps K F (cutW ws lo hi) (cutV vs lo hi):=λ{ws vs} p=>by
  unfold cutW cutV;rw[<-p.length];exact (p.drop _).take _
 cases w with
 |lst ws=>obtain rfl:=sI e;obtain⟨a,vs,e1,h,p⟩:=r.lst s;exact .inl (.inl ⟨a,vs,e1,SqL.of' h,λl hl=>q _ _ (.lst hl (cut p))⟩)
 |frl ws=>obtain rfl:=sI e;obtain⟨a,vs,e1,h,p⟩:=r.frl s;exact .inl (.inl ⟨a,vs,e1,h,λl hl=>q _ _ (.lst hl (cut p))⟩)
 | tup ws =>
  obtain rfl:=sI e;obtain⟨a,vs,e1,h,hf,p⟩:=r.tup s;by_cases y:HT.sIx vs.length 0 lo=0/\HT.sIx vs.length vs.length hi=vs.length
  ·refine .inr ⟨a,vs,e1,.inl (.inl h),y.1,y.2, ?_⟩
   have ew:cutW ws lo hi=ws:=by
    unfold cutW;rw[p.length,y.1,y.2,Ef,Nat.sub_zero,<-p.length,Ci]
   rw[ew] at q;subst e1;exact q _ _ (.val (.tup hf p))
  ·exact .inl (.inr ⟨a,vs,e1,.inl (.inl h),y,λl hl=>q _ _ (.tup hl (cut p))⟩)
 |_=>exact noSome e
def gSl (a:GA) (lo hi:GO):GE:=λen=>(a en).bind λp=>(lo p.1).bind λl=>(hi l.1).bind λh=>(resA h.1 p.2).bind λw=>(oSl w l.2 h.2).bind λr=>some (h.1,r)
theorem z4s {a:GA}{lo hi:GO}{σ:St}{H:Hp}{Q:VK}(h:tE K (gSl a lo hi) σ H Q):tSl (rSlB K) (tA K a) (tO K lo) (tO K hi) σ H Q:=by
 nofun;obtain⟨F,pr,en,en',rv,R,h,q⟩:=h;obtain⟨⟨e1,x1⟩,h1,h⟩:=bS h;obtain⟨⟨e2,l⟩,h2,h⟩:=bS h;obtain⟨⟨e3,u⟩,h3,h⟩:=bS h;obtain⟨w1,hw1,h⟩:=bS h;obtain⟨r',hr,h⟩:=bS h;ac_rfl;cases h;refine⟨F,pr,en,e1,x1,R,h1,λF1 H1 v1 s1 R1 a1=>⟨F1,pr,e1,e2,l,R1,h2,λF2 H2 s2 R2=>⟨F2,pr,e2,e3,u,R2,h3,λF3 H3 s3 R3=>?_⟩⟩⟩;refine ybr R3.sub ((a1.mono (s2.trans s3)).repB R3 hw1) hr λv H' z=>?_;nofun;obtain⟨F4,s4,R4,y⟩:=z.close R3;ac_rfl;exact q F4 H' v (s1.trans (s2.trans (s3.trans s4))) R4 y
end
structure ItOk (K:PySem.W.Frag) (F:Hp) (J:It) (ws:List W):Prop where
 go:∀i H,Same F H->i<ws.length->J.go i H
 stop:∀H,Same F H->J.stop ws.length H
 yld:∀i H x H',Same F H->i<ws.length->J.yld i H x H'->∃w,ws[i]?=some w/\Out K F H (w,false) x H'
noncomputable def tI (K:PySem.W.Frag) (g:GL):TI:=λσ H R=>∃F pr en en' ws,Rel K F pr en σ H/\g en=some (en',ws)/\∀F' H' J,Same F F'->Rel K F' pr en' σ H'->ItOk K F' J ws->R J H'
section
variable {K:PySem.W.Frag}{F H:Hp}
theorem zcm {F F':Hp}{a:Addr}{vs:List V}(s:Same F F')(h:SqT K F a vs):SqT K F' a vs:=by
 rcases h with (h|⟨o,h⟩)|h
 ·exact .inl (.inl (s _ _ h))
 ·exact .inl (.inr ⟨o,s _ _ h⟩)
 ·exact .inr h
theorem zrw {a:Addr}{vs:List V}{ws:List W}(h:SqL K F a vs)(r:Reps K F ws vs):ItOk K F (Itl K a) ws where
 go:=λi H s hi=>⟨vs,vs[i]'(by rw[<-r.length];exact hi),s.seq h,by rw[Ac]⟩
 stop:=λH s=>⟨vs,s.seq h,by rw[r.length];exact Af _⟩
 yld:=λi H x H' s hi y=>by
  obtain⟨e,y⟩:=y;subst e;obtain⟨w,e,q⟩:=r.getV (y vs (s.seq h));exact⟨w,e,.val q⟩
theorem ya7 {a:Addr}{vs:List V}{ws:List W}(h:SqT K F a vs)(r:Reps K F ws vs):ItOk K F (Itt K a) ws where
 go:=λi H s hi=>⟨vs,vs[i]'(by rw[<-r.length];exact hi),zcm s h,by rw[Ac]⟩
 stop:=λH s=>⟨vs,zcm s h,by rw[r.length];exact Af _⟩
 yld:=λi H x H' s hi y=>by
  obtain⟨e,y⟩:=y;subst e;obtain⟨w,e,q⟩:=r.getV (y vs (zcm s h));exact⟨w,e,.val q⟩
noncomputable def rngW (lo:Int) (n:Nat):List W:=(List.range n).map λk=>W.int (lo+(k:Nat))
theorem zq9 (lo:Int)(n:Nat):ItOk K F (Itr lo n) (rngW lo n) where
 go:=λi H s hi=>by unfold rngW at hi;rw[Ae,By] at hi;exact hi
 stop:=λH s=>by unfold rngW;rw[Ae,By];exact Af n
 yld:=λi H x H' s hi y=>by
  obtain⟨e,y⟩:=y;subst e y;unfold rngW at hi ⊢;rw[Ae,By] at hi;exact⟨_,by rw[Au,List.getElem?_range hi];rfl,.val (.int _)⟩
noncomputable def zic (ws:List W) (k:Nat):List W:=match ws with
 |[]=>[]
 |w::ws=>.tup [.int k,w]::zic ws (k+1)
theorem zc5:∀(ws:List W) (k:Nat),(zic ws k).length=ws.length
 |[],_=>rfl
 |_::ws,k=>congrArg (· + 1) (zc5 ws (k+1))
theorem zfe:∀{ws:List W}{k i:Nat}{w:W},ws[i]?=some w->(zic ws k)[i]?=some (.tup [.int (k+i:Nat),w])
 |[],_,_,_,e=>by simp at e
 |w::ws,k,0,_,e=>by simp at e;subst e;rfl
 | w::ws,k,i+1,u,e=>by
  have:=zfe (ws:=ws) (k:=k+1) (i:=i) (w:=u) (by simpa using e);show (zic ws (k+1))[i]?=_;rw[this];have:k+1+i=k+(i+1):=by omega
  rw[this]
theorem z54 {a:Addr}{vs:List V}{ws:List W}(h:SqL K F a vs)(r:Reps K F ws vs):ItOk K F (Ite K a) (zic ws 0) where
 go:=λi H s hi=>by rw[zc5] at hi;exact⟨vs,vs[i]'(by rw[<-r.length];exact hi),s.seq h,by rw[Ac]⟩
 stop:=λH s=>⟨vs,s.seq h,by rw[zc5,r.length];exact Af _⟩
 yld:=λi H x H' s hi y=>by
  nofun;obtain⟨p,v,e,hp,e2,y⟩:=y;ac_rfl;subst e e2;obtain⟨w,e,q⟩:=r.getV (y vs (s.seq h));refine⟨_,zfe e,?_⟩;rw[Ce];exact .tup hp (.cons (.int _) (.cons q .nil))
theorem ybm {a:Addr}{vs:List V}{ws:List W}(h:SqL K F a vs)(r:Reps K F ws vs):ItOk K F (Itv K a vs.length) ws.reverse where
 go:=λi H s hi=>by rw[Fc,r.length] at hi;exact⟨hi,vs,s.seq h,rfl⟩
 stop:=λH s=>by rw[Fc,r.length];rfl
 yld:=λi H x H' s hi y=>by
  obtain⟨e,y⟩:=y;subst e;obtain⟨w,e,q⟩:=r.getV (y vs (s.seq h));refine⟨w,?_,.val q⟩;rw[Fc] at hi;rw[List.getElem?_reverse hi,r.length];exact e
end
section
variable {X:Cx}{tg:Expr}
def iSeq (K:PySem.W.Frag) (tl:TE):TI:=λσ H R=>tl σ H λx H1=>∃a,x=.ref a/\((∃xs,SqL K H1 a xs)/\R (Itl K a) H1\/(∃xs,SqT K H1 a xs)/\R (Itt K a) H1)
theorem z26 {l:Expr}{tl:TE}(hl:PE X l tl):PI X tg l (iSeq X.K tl):=λpins s σ H R I h =>
 thn (hl pins s σ H _ I h) λv s1 ⟨x,H1,I1,r1,a,e,q1⟩=>by
  subst e;cases r1;have fp:∀b∈[s1.heap.objs.size],FpOk X pins H1 b:=λb hb=>by
   rw[Ao] at hb;subst hb;exact I1.fpOk (Af _) (I1.hok.fresh (Af _))
  rcases q1 with⟨⟨xs,hq⟩,q⟩|⟨⟨xs,hq⟩,q⟩
  ·obtain⟨its,_,p,_⟩:=I1.list hq;exact Di p.isList ⟨_,_,_,_,H1,rfl,I1.kept (t':=s1.toks) λb o e=>Ab _ e,zyd a _,⟨_,An _ rfl,rfl,rfl⟩,fp,q⟩
  ·obtain⟨its,_,p,_⟩:=I1.tuple hq;exact Fy (show s1.heap.IsTuple a its.toArray from p) ⟨_,_,_,_,H1,rfl,I1.kept (t':=s1.toks) λb o e=>Ab _ e,zss a _,⟨_,An _ rfl,rfl,rfl⟩,fp,q⟩
end
def zan (g:GE):GL:=λen=>(g en).bind λp=>(seqW p.2.1).bind λws=>some (p.1,ws)
noncomputable def zfu (i:Int):Bool:=decide (-(2^62)<=i)&&decide (i<2^62)
def zbs (as:GAs):GL:=λen=>(as en).bind λp=>match za8 p.1 p.2 with
 |some [.int j]=>if zfu j then some (p.1,rngW 0 j.toNat) else none
 |_=>none
def zuv (as:GAs):GL:=λen=>(as en).bind λp=>match za8 p.1 p.2 with
 |some [.int i,.int j]=>if zfu i&&zfu j then some (p.1,rngW i (j-i).toNat) else none
 |_=>none
def gRev (g:GE):GL:=λen=>(g en).bind λp=>(seqL p.2.1).bind λws=>some (p.1,ws.reverse)
theorem zef {i:Int}(h:zfu i=true):-(2^62)<=i/\i<2^62:=by
 unfold zfu at h;rw[Ad] at h;exact⟨At h.1,At h.2⟩
section
variable {K:PySem.W.Frag}{σ:St}{H:Hp}
theorem zmj {g:GE}{R:It->Hp->Prop} (h:tI K (zan g) σ H R):iSeq K (tE K g) σ H R:=by
 nofun;obtain⟨F,pr,en,en',ws,Re,h,q⟩:=h;obtain⟨⟨e1,rv⟩,h1,h⟩:=bS h;obtain⟨us,hs,h⟩:=bS h;ac_rfl;cases h;refine⟨F,pr,en,e1,rv,Re,h1,λF1 H1 v s1 R1 z=>?_⟩;nofun;obtain⟨F2,s2,R2,y⟩:=z.freeze R1;obtain⟨w,fl⟩:=rv;ac_rfl;cases w with
 | lst xs=>obtain rfl:=sI hs;cases y with
  |lst y r=>exact⟨_,rfl,.inl ⟨⟨_,SqL.of' (R2.sub _ _ y)⟩,q F2 H1 _ (s1.trans s2) R2 (zrw (SqL.of' y) r)⟩⟩
 | frl xs=>obtain rfl:=sI hs;cases y with
  |frl y r=>exact⟨_,rfl,.inl ⟨⟨_,R2.sub.seq y⟩,q F2 H1 _ (s1.trans s2) R2 (zrw y r)⟩⟩
 | tup xs=>obtain rfl:=sI hs;cases y with
  |tup y r=>exact⟨_,rfl,.inr ⟨⟨_,.inl (.inl (R2.sub _ _ y))⟩,q F2 H1 _ (s1.trans s2) R2 (ya7 (.inl (.inl y)) r)⟩⟩
 |_=>cases hs
theorem zux {as:GAs}{R:It->Hp->Prop} (h:tI K (zbs as) σ H R):ybz (tAs K as) σ H R:=by
 nofun;obtain⟨F,pr,en,en',ws,Re,h,q⟩:=h;obtain⟨⟨e1,xs⟩,h1,h⟩:=bS h;ac_rfl;refine⟨F,pr,en,e1,xs,Re,h1,λF1 H1 vs s1 R1 a1=>?_⟩;cases e:za8 e1 xs with
 |none=>simp only [e] at h;exact noSome h
 | some us =>
  have rr:=a1.repBs R1 e
  match us,e,rr with
  | [.int j],e,rr =>
   simp only [e] at h;split at h
   ·rename_i z
    cases h;obtain⟨v,e1,hv⟩:=rr.one;subst e1;exact⟨j,by rw[hv.int],(zef z).1,(zef z).2,q F1 H1 _ s1 R1 (zq9 0 j.toNat)⟩
   ·exact noSome h
  |[],e,_=>simp only [e] at h;exact noSome h
  |.non::_,e,_=>simp only [e] at h;exact noSome h
  |.bl _::_,e,_=>simp only [e] at h;exact noSome h
  |.str _::_,e,_=>simp only [e] at h;exact noSome h
  |.tup _::_,e,_=>simp only [e] at h;exact noSome h
  |.lst _::_,e,_=>simp only [e] at h;exact noSome h
  |.frl _::_,e,_=>simp only [e] at h;exact noSome h
  |.dic::_,e,_=>simp only [e] at h;exact noSome h
  |.dct _ _::_,e,_=>simp only [e] at h;exact noSome h
  |.int _::_::_,e,_=>simp only [e] at h;exact noSome h
theorem zu2 {as:GAs}{R:It->Hp->Prop} (h:tI K (zuv as) σ H R):z9i (tAs K as) σ H R:=by
 nofun;obtain⟨F,pr,en,en',ws,Re,h,q⟩:=h;obtain⟨⟨e1,xs⟩,h1,h⟩:=bS h;ac_rfl;refine⟨F,pr,en,e1,xs,Re,h1,λF1 H1 vs s1 R1 a1=>?_⟩;cases e:za8 e1 xs with
 |none=>simp only [e] at h;exact noSome h
 | some us =>
  have rr:=a1.repBs R1 e;simp only [e] at h;split at h
  ·rename_i i j e2
   obtain rfl:=sI e2;split at h
   ·rename_i z
    rw[Ad] at z;cases h;nofun;obtain⟨v,v2,e1,hv,hv2⟩:=rr.two;ac_rfl;subst e1;exact⟨i,j,by rw[hv.int,hv2.int],⟨(zef z.1).1,(zef z.1).2,(zef z.2).1,(zef z.2).2⟩,q F1 H1 _ s1 R1 (zq9 i (j-i).toNat)⟩
   ·exact noSome h
  ·exact noSome h
theorem zo0 {F:Hp}{w:W}{ws:List W}{v:V} (y:Rep K F w v) (hs:seqL w=some ws):∃a vs,v=.ref a/\SqL K F a vs/\Reps K F ws vs:=by
 cases w with
 | lst xs=>obtain rfl:=sI hs;cases y with
  |lst y r=>exact⟨_,_,rfl,SqL.of' y,r⟩
 | frl xs=>obtain rfl:=sI hs;cases y with
  |frl y r=>exact⟨_,_,rfl,y,r⟩
 |_=>cases hs
theorem zzh {g:GE}{R:It->Hp->Prop}(h:tI K (gRev g) σ H R):iRev K (zfs (tE K g) tNil) σ H R:=by
 nofun;obtain⟨F,pr,en,en',ws,Re,h,q⟩:=h;obtain⟨⟨e1,rv⟩,h1,h⟩:=bS h;obtain⟨us,hs,h⟩:=bS h;ac_rfl;cases h;refine⟨F,pr,en,e1,rv,Re,h1,λF1 H1 v s1 R1 z=>?_⟩;nofun;obtain⟨F2,s2,R2,y⟩:=z.freeze R1;obtain⟨a,vs,e,hq,r⟩:=zo0 y hs;ac_rfl;subst e;exact⟨a,vs,rfl,R2.sub.seq hq,q F2 H1 _ (s1.trans s2) R2 (ybm hq r)⟩
end
inductive Tg where
 |nm (i:Nat)
 |tp (is:List Nat)
noncomputable def setAll (mp:List Nat):List Nat->List W->En->Option En
 |[],[],en=>some en
 |i::is,w::ws,en=>if mp.contains i || !decide (i<en.length) then none else setAll mp is ws (en.set i (#v[w,6]))
 |_,_,_=>none
def tgSet (mp:List Nat):Tg->W->En->Option En
 |.nm i,w,en=>if mp.contains i || !decide (i<en.length) then none else some (en.set i (#v[w,6]))
 |.tp is,.tup ws,en=>setAll mp is ws en
 |.tp is,.lst ws,en=>setAll mp is ws en
 |_,_,_=>none
def zsa:List Nat->TGs
 |[]=>gNil
 |i::is=>yaf (zta i) (zsa is)
noncomputable def z9t (K:PySem.W.Frag) (n:Nat) (t:TGs):TG:=λv σ H Q=>∃a xs,v=.ref a/\(SqT K H a xs\/SqL K H a xs)/\xs.length=n/\t xs σ H Q
theorem zwi {X:Cx}{es:List Expr}{k:Nat}{t:TGs}{n:Nat}{pos:Pos}(hc:X.calm=true)(h:PGs X es t)(hn:(assignEach es X.env).length=n)(hst:(assignEach es X.env).findIdx? (·.1)=none):PG X (.Tuple es k pos) (z9t X.K n t):=by
 intro pins s σ H v u Q I r hw;nofun;obtain⟨a,xs,e1,hq,hl,hw⟩:=hw;ac_rfl;rcases hq with hq|hq
 ·exact ybs hc h hn hst pins s σ H v u Q I r ⟨a,xs,e1,hq,hl,hw⟩
 ·subst e1;cases r;nofun;obtain⟨its,rv,⟨o,m,q1,q2,_,q3⟩,hz⟩:=I.list hq;ac_rfl;rw[assign_Tuple];refine Aa (Fq ?_);unfold unpack;have hs:(assignEach es X.env).length=its.toArray.size:=by rw[Ah,hn,<-hl,rv.length]
  rw[hs,hst];refine Aa (Bw (PySem.W.kun_itemsOf (I.ok.hd hc) ⟨o,q1,q2,m,q3⟩ λh' hx=>?_));have I1:Inv X pins σ H { s with heap:=h' }:=I.kept (t':=s.toks) λb o e=>hx b o (Az (Ai e)) e;exact h pins _ σ H xs _ Q I1 (by simpa using rv) hw
def TGof (K:PySem.W.Frag):Tg->TG
 |.nm i=>zta i
 |.tp is=>z9t K is.length (zsa is)
def Keep (mp:List Nat) (σ σ':St):Prop:=∀i∈mp,σ'[i]?=σ[i]?
theorem Keep.refl (mp:List Nat)(σ:St):Keep mp σ σ:=λ_ _=>rfl
theorem Keep.trans {mp:List Nat}{σ σ1 σ2:St}(a:Keep mp σ σ1)(b:Keep mp σ1 σ2):Keep mp σ σ2:=λi h=>(b i h).trans (a i h)
theorem Keep.set {mp:List Nat}{σ:St}{i:Nat}(h:mp.contains i=false)(v:Option V):Keep mp σ (σ.set i v):=λj hj=>by
 have:i≠j:=λe=>by subst e;rw[List.contains_iff_mem.mpr hj] at h;cases h
 exact Dm this
section
variable {K:PySem.W.Frag}{F H:Hp}{pr:Prt}
theorem zey {mp:List Nat}{Q:St->Hp->Prop}:∀{is:List Nat}{ws:List W}{vs:List V}{en en':En}{σ:St},Rel K F pr en σ H->Reps K F ws vs->setAll mp is ws en=some en'->(∀σ',Rel K F pr en' σ' H->Keep mp σ σ'->Q σ' H)->zsa is vs σ H Q
 |[],[],_,en,en',σ,R,.nil,h,q=>by obtain rfl:=sI h;exact⟨rfl,q σ R (.refl _ _)⟩
 | i::is,w::ws,_,en,en',σ,R,.cons (v:=v) (vs:=vs) h0 r,h,q=>by
  unfold setAll at h;split at h
  ·exact noSome h
  ·rename_i z
   rw[Co,not_or,Bv,Bv,Du] at z;refine⟨v,vs,rfl,?_⟩;exact zey (R.store (r:=(w,false)) (i:=i) h0 (At z.2)) r h λσ' R' k=>q σ' R' ((Keep.set z.1 _).trans k)
 |[],_::_,_,_,_,_,_,_,h,_=>by exact noSome h
 |_::_,[],_,_,_,_,_,_,h,_=>by exact noSome h
theorem zp1 {mp:List Nat}{T:Tg}{w:W}{v:V}{en en':En}{σ:St}{Q:St->Hp->Prop} (R:Rel K F pr en σ H) (h0:Rep K F w v) (h:tgSet mp T w en=some en') (q:∀σ',Rel K F pr en' σ' H->Keep mp σ σ'->Q σ' H):TGof K T v σ H Q:=by
 cases T with
 | nm i =>
  unfold tgSet at h;simp only at h;split at h
  ·exact noSome h
  ·rename_i z
   rw[Co,not_or,Bv,Bv,Du] at z;obtain rfl:=sI h;exact q _ (R.store (r:=(w,false)) h0 (At z.2)) (Keep.set z.1 _)
 | tp is =>
  have go:∀(is:List Nat) (ws:List W) (en en':En),setAll mp is ws en=some en'->is.length=ws.length:=by
   intro is
   induction is with
   | nil=>intro ws en en' h;cases ws with
    |nil=>rfl
    |cons _ _=>exact noSome h
   | cons i is ih=>intro ws en en' h;cases ws with
    |nil=>exact noSome h
    | cons w ws =>
     unfold setAll at h;split at h
     ·exact noSome h
     ·exact congrArg (· + 1) (ih _ _ _ h)
  cases w with
  | tup ws =>
   cases h0 with
   | tup hf r =>
    exact⟨_,_,rfl,.inl (.inl (.inl (R.sub _ _ hf))),by rw[go is ws en en' h,r.length],zey R r h q⟩
  | lst ws =>
   cases h0 with
   | lst hf r =>
    exact⟨_,_,rfl,.inr (SqL.of' (R.sub _ _ hf)),by rw[go is ws en en' h,r.length],zey R r h q⟩
  |_=>exact noSome h
end
inductive Fl where
 |nx|ret (r:W×Bool)|brk|cnt
abbrev GS:=En->Option (En×Fl)
def z2j (K:PySem.W.Frag) (mp:List Nat) (F:Hp) (pr:Prt) (σ:St) (D:Ends) (en':En):Fl->Prop
 |.nx=>∀F' σ' H',Same F F'->Rel K F' pr en' σ' H'->Keep mp σ σ'->D.nx σ' H'
 |.brk=>∀F' σ' H',Same F F'->Rel K F' pr en' σ' H'->Keep mp σ σ'->D.bk σ' H'
 |.cnt=>∀F' σ' H',Same F F'->Rel K F' pr en' σ' H'->Keep mp σ σ'->D.ct σ' H'
 |.ret r=>∀F' σ' H' v,Same F F'->Rel K F' pr en' σ' H'->Keep mp σ σ'->Res K F' H' pr en' σ' r v->D.rt v H'
noncomputable def tS (K:PySem.W.Frag) (mp:List Nat) (g:GS):TS:=λD σ H=>∃F pr en en' fl,Rel K F pr en σ H/\g en=some (en',fl)/\z2j K mp F pr σ D en' fl
theorem z2j.step {K:PySem.W.Frag}{mp:List Nat}{F F1:Hp}{pr:Prt}{σ σ1:St}{D:Ends}{en':En}{fl:Fl}(s:Same F F1)(k:Keep mp σ σ1)(h:z2j K mp F pr σ D en' fl):z2j K mp F1 pr σ1 D en' fl:=by
 cases fl with
 |nx=>exact λF' σ' H' s' R' k'=>h F' σ' H' (s.trans s') R' (k.trans k')
 |brk=>exact λF' σ' H' s' R' k'=>h F' σ' H' (s.trans s') R' (k.trans k')
 |cnt=>exact λF' σ' H' s' R' k'=>h F' σ' H' (s.trans s') R' (k.trans k')
 |ret r=>exact λF' σ' H' v s' R' k' z=>h F' σ' H' v (s.trans s') R' (k.trans k') z
noncomputable def zbq:GS:=λen=>some (en,.nx)
noncomputable def gBrk:GS:=λen=>some (en,.brk)
noncomputable def gCnt:GS:=λen=>some (en,.cnt)
noncomputable def gSeq (a b:GS):GS:=λen=>match a en with
 |some (en',.nx)=>b en'
 |some (en',f)=>some (en',f)
 |none=>none
noncomputable def gRet (g:GE):GS:=λen=>(g en).bind λp=>some (p.1,.ret p.2)
noncomputable def ydy:GS:=λen=>some (en,.ret (.non,false))
noncomputable def gIfS (c:GT) (a b:GS):GS:=λen=>match c en with
 |#v[en',5]=>a en'
 |#v[en',6]=>b en'
 |none=>none
noncomputable def zeq (g:GE):GS:=λen=>(g en).bind λp=>some (p.1,.nx)
noncomputable def gSet (mp:List Nat) (i:Nat) (g:GE):GS:=λen=>(g en).bind λp=>if mp.contains i || !decide (i<p.1.length) then none else some (p.1.set i (some p.2),.nx)
noncomputable def gAsg (mp:List Nat) (T:Tg) (g:GE):GS:=λen=>(g en).bind λp=>(tgSet mp T p.2.1 p.1).bind λe=>some (e,.nx)
section
variable {K:PySem.W.Frag}{mp:List Nat}{D:Ends}{σ:St}{H:Hp}
theorem zn2 (h:tS K mp zbq D σ H):z4l D σ H:=by
 obtain⟨F,pr,en,en',fl,R,h,q⟩:=h;cases h;exact q F σ H (.refl F) R (.refl _ _)
theorem zz0 {a b:GS} (h:tS K mp (gSeq a b) D σ H):tSeq (tS K mp a) (tS K mp b) D σ H:=by
 nofun;obtain⟨F,pr,en,en',fl,R,h,q⟩:=h;ac_rfl;unfold gSeq at h;cases e:a en with
 |none=>simp only [e] at h;exact noSome h
 | some p =>
  obtain⟨e1,f1⟩:=p;refine⟨F,pr,en,e1,f1,R,e,?_⟩;cases f1 with
  | nx =>
   simp only [e] at h;exact λF1 σ1 H1 s1 R1 k1=>⟨F1,pr,e1,en',fl,R1,h,q.step s1 k1⟩
  |brk=>simp only [e] at h;cases h;exact q
  |cnt=>simp only [e] at h;cases h;exact q
  |ret r=>simp only [e] at h;cases h;exact q
theorem zqx {g:GE}(h:tS K mp (gRet g) D σ H):tRet (tE K g) D σ H:=by
 nofun;obtain⟨F,pr,en,en',fl,R,h,q⟩:=h;obtain⟨⟨e1,r⟩,h1,h⟩:=bS h;ac_rfl;cases h;exact⟨F,pr,en,e1,r,R,h1,λF' H' v s' R' z=>q F' σ H' v s' R' (.refl _ _) z⟩
theorem z0l {c:GT}{a b:GS} (h:tS K mp (gIfS c a b) D σ H):tIfS (tT K c) (tS K mp a) (tS K mp b) D σ H:=by
 nofun;obtain⟨F,pr,en,en',fl,R,h,q⟩:=h;ac_rfl;unfold gIfS at h;cases e:c en with
 |none=>simp only [e] at h;exact noSome h
 | some p =>
  obtain⟨e1,d⟩:=p;refine⟨F,pr,en,e1,d,R,e,λF1 H1 s1 R1=>?_⟩;cases d with
  |true=>simp only [e] at h;exact iteT ⟨F1,pr,e1,en',fl,R1,h,q.step s1 (.refl _ _)⟩
  |false=>simp only [e] at h;exact iteF ⟨F1,pr,e1,en',fl,R1,h,q.step s1 (.refl _ _)⟩
theorem ztq {g:GE}(h:tS K mp (zeq g) D σ H):yaz (tE K g) D σ H:=by
 nofun;obtain⟨F,pr,en,en',fl,R,h,q⟩:=h;obtain⟨⟨e1,r⟩,h1,h⟩:=bS h;ac_rfl;cases h;exact⟨F,pr,en,e1,r,R,h1,λF' H' v s' R' z=>q F' σ H' s' R' (.refl _ _)⟩
theorem zlh {i:Nat}{g:GE}(h:tS K mp (gSet mp i g) D σ H):tAsg (tE K g) (zta i) D σ H:=by
 nofun;obtain⟨F,pr,en,en',fl,R,h,q⟩:=h;obtain⟨⟨e1,r⟩,h1,h⟩:=bS h;ac_rfl;split at h
 ·exact noSome h
 ·rename_i z;rw[Co,not_or,Bv,Bv,Du] at z;cases h;exact⟨F,pr,en,e1,r,R,h1,λF' H' v s' R' y=>q F' _ H' s' (R'.store y (At z.2)) (Keep.set z.1 _)⟩
theorem z19 {T:Tg}{g:GE}(h:tS K mp (gAsg mp T g) D σ H):tAsg (tE K g) (TGof K T) D σ H:=by
 nofun;obtain⟨F,pr,en,en',fl,R,h,q⟩:=h;obtain⟨⟨e1,r⟩,h1,h⟩:=bS h;obtain⟨e2,h2,h⟩:=bS h;ac_rfl;cases h;refine⟨F,pr,en,e1,r,R,h1,λF1 H1 v s1 R1 y=>?_⟩;nofun;obtain⟨F2,s2,R2,z⟩:=y.freeze R1;ac_rfl;exact zp1 R2 z h2 λσ' R' k=>q F2 σ' H1 (s1.trans s2) R' k
noncomputable def gPar (mp:List Nat) (i j:Nat) (a b:GE):GS:=λen=>(a en).bind λp=>(b p.1).bind λq=>if mp.contains i||mp.contains j || !decide (i<q.1.length) || !decide (j<q.1.length) then none else some ((q.1.set i (#v[p.2.1,6])).set j (some q.2),.nx)
def za9 (i:Nat) (k:GE) (g:GE):GS:=λen=>(g en).bind λp=>match p.1[i]? with
 | some (some _)=>(k p.1).bind λq=>match q.2,q.1[i]? with
  |(.int n,_),some (#v[ws,2])=>(ixN ws.length n).bind λj=>some (q.1.set i (#v[(ws.set j p.2.1),2]),.nx)
  |_,_=>none
 |_=>none
theorem zsf {i:Nat}{k g:GE}(h:tS K mp (za9 i k g) D σ H):tAsg (tE K g) (gSub (tVar i) (tE K k) z84) D σ H:=by
 obtain⟨F,pr,en,en',fl,R,h,q⟩:=h;obtain⟨⟨e1,r1⟩,h1,h⟩:=bS h;refine⟨F,pr,en,e1,r1,R,h1,λF1 H1 v1 s1 R1 y1=>?_⟩;obtain⟨F2,s2,R2,x1⟩:=y1.freeze R1;split at h
 ·rename_i x0 hx0;obtain⟨⟨e2,r2⟩,h2,h⟩:=bS h;obtain⟨w0,f0⟩:=x0;obtain⟨v0,hv0⟩:=R2.has hx0;refine⟨v0,hv0,F2,pr,e1,e2,r2,R2,h2,λF3 H3 v2 s3 R3 y2=>?_⟩;split at h
  ·rename_i n fl2 ws eq1 eq2;simp only at eq1;subst eq1;obtain⟨j,hj,h⟩:=bS h;cases h;obtain⟨a,vs,ws',q1,q2,q3,q4,q5⟩:=R3.ownL eq2;cases q1;rw[hv0] at q2;cases q2;refine⟨a,vs,n,j,rfl,y2.isInt,q3,by rw[<-q5.length];exact hj,?_⟩;exact q F3 σ _ (s1.trans (s2.trans s3)) (R3.change eq2 hv0 (q5.set (x1.mono s3) j)) (.refl _ _)
  ·exact noSome h
 ·exact noSome h
noncomputable def gApp (i:Nat) (g:GE):GE:=λen=>match en[i]? with
 | some (some (.lst _,true))=>(g en).bind λp=>match p.1[i]? with
  |some (#v[ws,2])=>if ws.length<sizeLine then some (p.1.set i (#v[(ws++[p.2.1]),2]),(.non,false)) else none
  |_=>none
 |_=>none
theorem z2t {i:Nat}{g:GE}{Q:VK}(h:tE K (gApp i g) σ H Q):tBM K "list" zub (tVar i) (zfs (tE K g) tNil) σ H Q:=by
 nofun;obtain⟨F,pr,en,en',r,R,h,q⟩:=h;ac_rfl;unfold gApp at h;split at h
 ·rename_i w0 hx0;nofun;obtain⟨a,vs,ws0,q1,q2,q3,q4,q5⟩:=R.ownL hx0;obtain⟨⟨e1,r1⟩,h1,h⟩:=bS h;ac_rfl;refine⟨.ref a,q2,.inl ⟨rfl,vs,SqL.of' q3⟩,F,pr,en,e1,r1,R,h1,λF1 H1 v1 s1 R1 y1=>?_⟩;nofun;obtain⟨F2,s2,R2,x1⟩:=y1.freeze R1;ac_rfl;split at h
  ·rename_i ws hx1;split at h
   ·rename_i hz;cases h;nofun;obtain⟨a',vs',ws',p1,p2,p3,p4,p5⟩:=R2.ownL hx1;ac_rfl;cases p1;rw[q2] at p2;cases p2;refine⟨a,vs',v1,rfl,rfl,p3,by rw[<-p5.length];exact hz,?_⟩;exact q F2 _ _ (s1.trans s2) (R2.change hx1 q2 (p5.append (.cons x1 .nil))) .non
   ·exact noSome h
  ·exact noSome h
 ·exact noSome h
noncomputable def gExt (i:Nat) (g:GE):GE:=λen=>match en[i]? with
 | some (some (.lst _,true))=>(g en).bind λp=>match p.2.1,p.1[i]? with
  |.lst us,some (#v[ws,2])=>if ws.length+us.length<=sizeLine then some (p.1.set i (#v[(ws++us),2]),(.non,false)) else none
  |_,_=>none
 |_=>none
def gAug (mp:List Nat) (o:O2) (i:Nat) (g:GA):GS:=λen=>match en[i]? with
 |some (#v[w,6])=>(g en).bind λp=>(resA p.1 p.2).bind λu=>(o w u).bind λr=>if mp.contains i || !decide (i<p.1.length) then none else some (p.1.set i (some r),.nx)
 |_=>none
theorem zqo {i:Nat}{o:O2}{r:R2}{g:GA}(ho:OpS K r o)(h:tS K mp (gAug mp o i g) D σ H):tAug i (tA K g) r D σ H:=by
 nofun;obtain⟨F,pr,en,en',fl,R,h,q⟩:=h;ac_rfl;unfold gAug at h;split at h
 ·rename_i w hx;nofun;obtain⟨v,hv,rw'⟩:=R.val i w hx;obtain⟨⟨e1,x1⟩,h1,h⟩:=bS h;obtain⟨u,hu,h⟩:=bS h;obtain⟨rv,hr,h⟩:=bS h;ac_rfl;split at h
  ·exact noSome h
  ·rename_i z;rw[Co,not_or,Bv,Bv,Du] at z;cases h;refine⟨v,hv,F,pr,en,e1,x1,R,h1,λF1 H1 v1 s1 R1 a1=>?_⟩;refine ho F1 H1 w u v v1 rv _ R1.sub (.inl (rw'.mono s1)) (a1.repB R1 hu) hr λv2 H2 o2=>?_;nofun;obtain⟨F3,s3,R3,y⟩:=o2.close R1;ac_rfl;exact q F3 _ H2 (s1.trans s3) (R3.store y (At z.2)) (Keep.set z.1 _)
 ·exact noSome h
theorem zqg {M:Model}{A:Around}{E:Value->Shared->Prop}{s:Shared}{a b:Value}{T id:String}{Q:Value->Shared->Prop} (ha:s.TypeIs a T) (hb:s.TypeIs b T)
  (hl:typeLookup (.type T) (dunderI "add")=pure (some (.builtin id))) (hq:isSeqSlotId id=true) (hfill:fillsNumberSlot (.type T) "add" = pure false)
  (hc:wpAny M A (call (.builtin id) [a,b]) Q E s):wpAny M A (inplaceOp .Add a b) Q E s:=by
 unfold inplaceOp;refine Bw ?_;have hfi:fillsInplaceSlot (.type T) "add" (Operator.Add==.Add)=pure false:=by
  unfold fillsInplaceSlot;show (typeLookup (.type T) (dunderI "add")>>=λfi=>pure (fi.isSome && !isSeqSlot fi))=pure false;rw[hl,pure_bind];show pure (true && !isSeqSlotId id)=pure false;rw[hq];rfl
 have hsi:seqSlot? (.type T) (dunderI "add")=pure (some (.builtin id)):=by
  unfold seqSlot?;rw[hl,pure_bind];show (if (!isSeqSlotId id)=true then _ else _)=_;rw[hq];rfl
 refine Aa (wpAny_typeOf ha (Aa (Gx hfi ?_)));show wpAny M A (if false=true then _ else _) Q E s;rw[if_neg Ar];refine Aa (wpAny_binaryOp1_none (nm := "add") ha hb hfill ?_);refine Aa (Gx hsi ?_);exact Aa (Dc hc)
def z4f:R2:=λx y H Q=>∃l b xs zs,x=.ref l/\y=.ref b/\H l=some (.lst xs)/\H b=some (.lst zs)/\xs.length+zs.length<=sizeLine/\Q (.ref l) (upd H l (.lst (xs++zs)))
theorem z4q {X:Cx}:PIp X .Add z4f:=by
 intro pins s σ H x y v u Q I rx ry h;obtain⟨l,b,xs,zs,rfl,rfl,hH,hB,hz,q⟩:=h;cases rx;cases ry;obtain⟨z,its,n,r,hl,e⟩:=I.lstM hH;obtain⟨z2,its2,n2,r2,hl2,e2⟩:=I.lstM hB;have hsz:its.toArray.size+its2.toArray.size<=sizeLine:=by rw[Ah,Ah];omega
 have hlong:¬ (!its.toArray.isEmpty&&Builtin.List.listTooLong (its.toArray.size+its2.toArray.size))=true:=by
  rw[zk0 hsz,Gz];exact Ar
 refine zqg (T := "list") (id := "list.__iadd__") ⟨_,e,rfl⟩ ⟨_,e2,rfl⟩ F.slot_list_iadd.lookup #v[0,0,7] noFill_list_add ?_;refine call_meets F.slot_list_iadd ⟨_,e,rfl⟩ F.entry_list_iadd (F.args_list_iadd_2 _ _)
  (AutoSeq1.list___iadd___list_list_0 l its.toArray n b its2.toArray n2 hlong (by rw[Ah];omega) #v[]) ⟨e,e2,?_⟩
 refine⟨.ref l,_,I.lset (its':=its++its2) hH e (by simp) (r.append r2) ?_,rfl,q⟩;rw[Bc];omega
noncomputable def z53 (mp:List Nat) (i:Nat) (g:GE):GS:=λen=>match en[i]? with
 | some (some (.lst _,true))=>(g en).bind λp=>match p.2.1,p.1[i]? with
  |.lst us,some (#v[ws,2])=>if ws.length+us.length<=sizeLine/\mp.contains i=false then some (p.1.set i (#v[(ws++us),2]),.nx) else none
  |_,_=>none
 |_=>none
theorem zwt {i:Nat}{g:GE} (h:tS K mp (z53 mp i g) D σ H):tAug i (tE K g) z4f D σ H:=by
 nofun;obtain⟨F,pr,en,en',fl,R,h,q⟩:=h;ac_rfl;unfold z53 at h;split at h
 ·rename_i w0 hx0
  nofun;obtain⟨a,vs,ws0,q1,q2,q3,q4,q5⟩:=R.ownL hx0;obtain⟨⟨e1,w1,f1⟩,h1,h⟩:=bS h;ac_rfl;refine⟨.ref a,q2,F,pr,en,e1,(w1,f1),R,h1,λF1 H1 v1 s1 R1 y1=>?_⟩;nofun;obtain⟨F2,s2,R2,x1⟩:=y1.freeze R1;ac_rfl;split at h
  ·rename_i us ws eq1 hx1
   simp only at eq1 x1;subst eq1;split at h
   ·rename_i hz
    cases h;nofun;obtain⟨a',vs',ws',p1,p2,p3,p4,p5⟩:=R2.ownL hx1;ac_rfl;cases p1;rw[q2] at p2;cases p2;cases x1 with
    | lst hb rb =>
     refine ⟨a,_,vs',_,rfl,rfl,p3,R2.sub _ _ hb,by rw [<-p5.length,<-rb.length];exact hz.1,?_⟩;have e:σ.set i (some (V.ref a))=σ:=by
      obtain⟨hi,e⟩:=Ak.mp q2;rw[<-e];exact List.set_getElem_self hi
     show D.nx (σ.set i (some (V.ref a))) _;rw[e];exact q F2 σ _ (s1.trans s2) (R2.change hx1 q2 (p5.append rb)) (.refl _ _)
   ·exact noSome h
  ·exact noSome h
 ·exact noSome h
noncomputable def zie (mp:List Nat) (T:Tg) (body:GS):List W->En->Option (En×Fl)
 |[],en=>some (en,.nx)
 | w::ws,en=>(tgSet mp T w en).bind λe1=>match body e1 with
  |some (e2,.nx)=>zie mp T body ws e2
  |some (e2,.cnt)=>zie mp T body ws e2
  |some (e2,.brk)=>some (e2,.nx)
  |some (e2,.ret r)=>some (e2,.ret r)
  |none=>none
def gFor (mp:List Nat) (T:Tg) (it:GL) (body:GS):GS:=λen=>(it en).bind λp=>zie mp T body p.2 p.1
theorem z1e {T:Tg}{it:GL}{body:GS} (h:tS K mp (gFor mp T it body) D σ H):tFor (tI K it) (TGof K T) (tS K mp body) D σ H:=by
 nofun;obtain⟨F,pr,en,en',fl,R,h,q⟩:=h;obtain⟨⟨e1,ws⟩,h1,h⟩:=bS h;ac_rfl;refine⟨F,pr,en,e1,ws,R,h1,λF1 H1 J s1 R1 ok=>?_⟩;refine⟨λi m σ' H'=>m=ws.length-i/\i<=ws.length/\∃F' e',Same F1 F'/\Rel K F' pr e' σ' H'/\Keep mp σ σ'/\zie mp T body (ws.drop i) e'=some (en',fl),⟨_,rfl,Bm _,F1,e1,.refl _,R1,.refl _ _,by simpa using h⟩,?_⟩;rintro i m σ' H' ⟨rfl,hi,F',e',s',R',k',hl⟩;by_cases hlt:i<ws.length
 ·refine .inr ⟨ok.go i H' (s'.trans R'.sub) hlt, ?_⟩
  have hd:ws.drop i=ws[i]::ws.drop (i+1):=(Cd hlt);rw[hd] at hl;obtain⟨e2,h2,hl⟩:=bS (show (tgSet mp T ws[i] e').bind _=_ from hl);refine⟨λσ2 H2=>∃F2 e3,Same F1 F2/\Rel K F2 pr e3 σ2 H2/\Keep mp σ σ2/\zie mp T body (ws.drop (i+1)) e3=some (en',fl),?_,?_⟩
  ·rintro σ2 H2 ⟨F2,e3,s2,R2,k2,hl2⟩
   exact⟨ws.length-(i+1),by omega,rfl,hlt,F2,e3,s2,R2,k2,hl2⟩
  ·intro x H2 y
   obtain⟨w,ew,out⟩:=ok.yld i H' x H2 (s'.trans R'.sub) hlt y;rw[Ac hlt] at ew;obtain rfl:=sI ew;nofun;obtain⟨F3,s3,R3,z⟩:=(out.mono s').close R';ac_rfl;refine zp1 (w:=ws[i]) R3 z h2 λσ3 R4 k4=>?_;cases eb:body e2 with
   |none=>simp only [eb] at hl;exact noSome hl
   | some p =>
    obtain⟨e5,f5⟩:=p;refine⟨F3,pr,e2,e5,f5,R4,eb,?_⟩;have sF:Same F1 F3:=s'.trans s3;cases f5 with
    | nx =>
     simp only [eb] at hl;exact λF6 σ6 H6 s6 R6 k6=>⟨F6,e5,sF.trans s6,R6,(k'.trans k4).trans k6,hl⟩
    | cnt =>
     simp only [eb] at hl;exact λF6 σ6 H6 s6 R6 k6=>⟨F6,e5,sF.trans s6,R6,(k'.trans k4).trans k6,hl⟩
    | brk =>
     simp only [eb] at hl;cases hl;exact λF6 σ6 H6 s6 R6 k6=>q F6 σ6 H6 (s1.trans (sF.trans s6)) R6 ((k'.trans k4).trans k6)
    | ret r =>
     simp only [eb] at hl;cases hl;exact λF6 σ6 H6 v s6 R6 k6 z=>q F6 σ6 H6 v (s1.trans (sF.trans s6)) R6 ((k'.trans k4).trans k6) z
 ·have e:i=ws.length:=by omega
  subst e;rw[List.drop_length] at hl;cases hl;exact .inl ⟨ok.stop H' (s'.trans R'.sub),q F' σ' H' (s1.trans s') R' k'⟩
noncomputable def zdz (c:GT) (body:GS):Nat->GS
 |0,_=>none
 | n+1,en=>match c en with
  | some (e1,true)=>match body e1 with
   |some (e2,.nx)=>zdz c body n e2
   |some (e2,.cnt)=>zdz c body n e2
   |some (e2,.brk)=>some (e2,.nx)
   |some (e2,.ret r)=>some (e2,.ret r)
   |none=>none
  |#v[e1,6]=>some (e1,.nx)
  |none=>none
theorem zsn {n:Nat}{c:GT}{body:GS} (h:tS K mp (zdz c body n) D σ H):z2y (tT K c) (tS K mp body) D σ H:=by
 nofun;obtain⟨F,pr,en,en',fl,R,h,q⟩:=h;ac_rfl;refine⟨λm σ' H'=>∃F' e',Same F F'/\Rel K F' pr e' σ' H'/\Keep mp σ σ'/\zdz c body m e'=some (en',fl),⟨n,F,en,.refl _,R,.refl _ _,h⟩,?_⟩;rintro m σ' H' ⟨F',e',s',R',k',hl⟩;cases m with
 |zero=>exact noSome hl
 | succ m =>
  unfold zdz at hl;cases ec:c e' with
  |none=>simp only [ec] at hl;exact noSome hl
  | some p =>
   obtain⟨e1,b⟩:=p;refine⟨F',pr,e',e1,b,R',ec,λF1 H1 s1 R1=>?_⟩;cases b with
   | false =>
    simp only [ec] at hl;cases hl;exact iteF (q F1 σ' H1 (s'.trans s1) R1 k')
   | true =>
    simp only [ec] at hl;refine iteT ⟨λσ2 H2=>∃F2 e3,Same F F2/\Rel K F2 pr e3 σ2 H2/\Keep mp σ σ2/\zdz c body m e3=some (en',fl),λσ2 H2 z=>⟨m,Fa m,z⟩,?_⟩;cases eb:body e1 with
    |none=>simp only [eb] at hl;exact noSome hl
    | some p =>
     obtain⟨e5,f5⟩:=p;refine⟨F1,pr,e1,e5,f5,R1,eb,?_⟩;have sF:Same F F1:=s'.trans s1;cases f5 with
     | nx =>
      simp only [eb] at hl;exact λF6 σ6 H6 s6 R6 k6=>⟨F6,e5,sF.trans s6,R6,k'.trans k6,hl⟩
     | cnt =>
      simp only [eb] at hl;exact λF6 σ6 H6 s6 R6 k6=>⟨F6,e5,sF.trans s6,R6,k'.trans k6,hl⟩
     | brk =>
      simp only [eb] at hl;cases hl;exact λF6 σ6 H6 s6 R6 k6=>q F6 σ6 H6 (sF.trans s6) R6 (k'.trans k6)
     | ret r =>
      simp only [eb] at hl;cases hl;exact λF6 σ6 H6 v s6 R6 k6 z=>q F6 σ6 H6 v (sF.trans s6) R6 (k'.trans k6) z
end
section
variable {X:Cx}
end
section
variable {K:PySem.W.Frag}{σ:St}{H:Hp}
end
noncomputable abbrev Cap:=List (Option Nat)
noncomputable def zfy (cap:Cap) (en:En):En:=cap.map λo=>match o with
 |some i=>(en[i]?).getD none
 |none=>none
noncomputable def zas (cap:Cap) (i:Nat):Option Nat:=cap.findIdx? (· == some i)
def zcj (cap:Cap):Bool:=(List.range cap.length).all λj=>match cap[j]? with
 |some (some i)=>zas cap i==some j
 |_=>true
noncomputable def capKeep (cap:Cap):List Nat:=(List.range cap.length).filter λj=>match cap[j]? with
 |some (some _)=>true
 |_=>false
def zau (cap:Cap) (en ce:En):En:=en.mapIdx λi x=>match zas cap i with
 |some j=>(ce[j]?).getD none
 |none=>x
theorem zbh {cap:Cap}{i j:Nat}(h:zas cap i=some j):cap[j]?=some (some i):=by
 unfold zas at h;obtain⟨hl,h1,_⟩:=List.findIdx?_eq_some_iff_getElem.mp h;rw[Ac hl];have:cap[j]=some i:=by simpa using h1
 rw[this]
theorem zdn {cap:Cap}{i:Nat}(h:zas cap i=none)(j:Nat):cap[j]?≠some (some i):=λe=>by
 unfold zas at h;have:=List.findIdx?_eq_none_iff.mp h (some i) (Bi e);simp at this
theorem zgf {cap:Cap}(h:zcj cap=true){i j:Nat}(e:cap[j]?=some (some i)):zas cap i=some j:=by
 unfold zcj at h;have hj:j<cap.length:=(Ak.mp e).1;have:=Bd.mp h j (Bl.mpr hj);simp only [e] at this;simpa using this
theorem zom {cap:Cap}{i j:Nat}(e:cap[j]?=some (some i)):j∈capKeep cap:=by
 unfold capKeep;exact Cs.mpr ⟨Bl.mpr (Ak.mp e).1,by simp only [e]⟩
theorem zdw {cap:Cap}{en:En}{j:Nat}{x:W×Bool} (h:(zfy cap en)[j]?=some (some x)):∃i,cap[j]?=some (some i)/\en[i]?=some (some x):=by
 unfold zfy at h;rw[Au] at h;cases e:cap[j]? with
 |none=>rw[e] at h;exact noSome h
 | some o =>
  rw[e] at h;cases o with
  |none=>cases h
  | some i =>
   refine⟨i,rfl,?_⟩;have h':(en[i]?).getD none=some x:=sI h;cases e2:en[i]? with
   |none=>rw[e2] at h';exact noSome h'
   |some z=>rw[e2] at h';exact congrArg some h'
theorem zrx {cap:Cap}{σ:St}{i j:Nat}(h:cap[j]?=some (some i)):(capSt cap σ)[j]?=some ((σ[i]?).getD none):=by
 unfold capSt;rw[Au,h]
 rfl
theorem zf1 {cap:Cap}{σ:St}{i j:Nat}{v:V}(h:cap[j]?=some (some i))(hv:σ[i]?=some (some v)):(capSt cap σ)[j]?=some (some v):=by
 rw[zrx h,hv];rfl
theorem backEn_get {cap:Cap}{en ce:En}{i:Nat}{x:W×Bool} (h:(zau cap en ce)[i]?=some (some x)):(∃j,zas cap i=some j/\ce[j]?=some (some x))\/(zas cap i=none/\en[i]?=some (some x)):=by
 unfold zau at h;rw[Gf] at h;cases e:en[i]? with
 |none=>rw[e] at h;exact noSome h
 | some o =>
  rw[e] at h;cases c:zas cap i with
  |none=>simp only [c,Gk] at h;exact .inr ⟨rfl,h⟩
  | some j =>
   simp only [c,Gk] at h;have h':(ce[j]?).getD none=some x:=sI h;refine .inl ⟨j,rfl,?_⟩;cases e2:ce[j]? with
   |none=>rw[e2] at h';exact noSome h'
   |some z=>rw[e2] at h';exact congrArg some h'
def zcq (pr:Prt) (cap:Cap) (en:En) (σ:St) (H:Hp):Prt:=λb o=>pr b o\/∃(j:Nat) (w:W),en[j]?=some (#v[w,5])/\zas cap j=none/\σ[j]?=some (some (V.ref b))/\H b=some o
noncomputable def zi3 (pb:Prt) (acc:Addr) (vs:List V):Prt:=λb o=>pb b o\/(b=acc/\o=.lst vs)
section
variable {K:PySem.W.Frag}{F H:Hp}{pr pb:Prt}{en:En}{σ:St}
theorem Rel.ownT (R:Rel K F pr en σ H){j:Nat}{w:W}{b:Addr}{ps:Array Value}(e:en[j]?=some (#v[w,5]))(s:σ[j]?=some (some (V.ref b))):H b≠some (.tbl ps):=λz=>by
 obtain⟨a,o,w',_,h2,h3,_,h5⟩:=R.own j w e;rw[s] at h2;cases h2;rw[z] at h3;obtain rfl:=sI h3;cases h5
theorem zja {cap:Cap}{b:Addr}{ps:Array Value}(R:Rel K F pr en σ H)(e:H b=some (.tbl ps))(hh:∀o,¬ pr b o):∀o,¬ zcq pr cap en σ H b o:=λo z=>by
 rcases z with z|⟨j,w,q1,_,q2,_⟩
 ·exact hh o z
 ·exact R.ownT q1 q2 e
theorem Rel.accUpd {acc:Addr}{vs us:List V}(R:Rel K F (zi3 pb acc vs) en σ H)(hb:∀b o,pb b o->b≠acc):Rel K F (zi3 pb acc us) en σ (upd H acc (.lst us)):=by
 obtain⟨a1,a2,a3⟩:=R.prt acc (.lst vs) (.inr ⟨rfl,rfl⟩);have nt:∀b ps,H b=some (.tbl ps)->b≠acc:=λb ps e z=>by subst z;rw[a1] at e;cases e
 have nx:∀b φ,H b=some (.ext φ)->b≠acc:=λb φ e z=>by subst z;rw[a1] at e;cases e
 refine⟨R.len,λb o e=>?_,R.val,λi w e=>?_,R.inj,λb o q=>?_,R.tb.go (λb ps e f=>⟨by rw[upd_ne (nt b ps e)];exact e,f⟩) (.refl F) λb ps e hh o z=>z.elim (λz=>hh o (.inl z)) λz=>nt b ps e z.1⟩
 ·have:b≠acc:=λz=>by subst z;rw[a2] at e;exact noSome e
  rw[upd_ne this];exact R.sub _ _ e
 ·refine aG λGg qG => ?_;obtain⟨a,vs',ws,h1,h2,h3,h4,h5⟩:=R.own i w e;ac_rfl;have:a≠acc:=λz=>by subst z;exact a3 i w e h2
  exact⟨a,vs',ws,h1,h2,by rw[upd_ne this];exact h3,h4,h5⟩
 ·rcases q with q|⟨rfl,rfl⟩
  ·obtain⟨b1,b2,b3⟩:=R.prt b o (.inl q);exact⟨by rw[upd_ne (hb b o q)];exact b1,b2,b3⟩
  ·exact⟨upd_same,a2,a3⟩
theorem zts {cap:Cap}{acc:Addr}(R:Rel K F pr en σ H)(hn:H acc=none):∀b o,zcq pr cap en σ H b o->b≠acc:=λb o q=>by
 rcases q with q|⟨j,w,_,_,_,q⟩
 ·exact zac (R.prt b o q).1 hn
 ·exact zac q hn
theorem Rel.block {cap:Cap}{acc:Addr}(R:Rel K F pr en σ H)(hn:H acc=none)(nd:zcj cap=true):Rel K F (zi3 (zcq pr cap en σ H) acc []) (zfy cap en) (capSt cap σ) (upd H acc (.lst [])):=by
 have fa:F acc=none:=R.sub.free hn;have R2:=R.lay hn (.lst []);refine⟨by unfold zfy capSt;rw[Ae,Ae],R2.sub,λj w e=>?_,λj w e=>?_,λj l a w w' e1 e2 q1 q2=>?_,λb o q=>?_,R.tb.go (λb ps e f=>⟨by rw[upd_ne (zac e hn)];exact e,f⟩) (.refl F) λb ps e hh o z=>z.elim (zja R e hh o) λz=>zac e hn z.1⟩
 ·refine aG λGg qG => ?_;obtain⟨i,c,e⟩:=zdw e;obtain⟨v,h1,h2⟩:=R.val i w e;ac_rfl;exact⟨v,zf1 c h1,h2⟩
 ·refine aG λGg qG => ?_;obtain⟨i,c,e⟩:=zdw e;obtain⟨a,vs,ws,h1,h2,h3,h4,h5⟩:=R2.own i w e;ac_rfl;exact⟨a,vs,ws,h1,zf1 c h2,h3,h4,h5⟩
 ·refine aG λGg qG => ?_;obtain⟨i,c1,e1⟩:=zdw e1;obtain⟨k,c2,e2⟩:=zdw e2;obtain⟨i',c1',q1⟩:=capSt_get q1;obtain⟨k',c2',q2⟩:=capSt_get q2;ac_rfl;rw[c1] at c1';cases c1';rw[c2] at c2';cases c2';have:=R.inj i k a _ _ e1 e2 q1 q2;subst this;have x:=zgf nd c1;rw[zgf nd c2] at x;exact (sI x).symm
 ·have own2:∀(j:Nat) (w:W),(zfy cap en)[j]?=some (some (w,true))->∃(i:Nat) (a:Addr),cap[j]?=some (some i)/\en[i]?=some (some (w,true))/\σ[i]?=some (some (V.ref a))/\(capSt cap σ)[j]?=some (some (V.ref a))/\∃o,H a=some o:=λj w e=>by
   nofun;obtain⟨i,c,e⟩:=zdw e;obtain⟨a,vs,ws,h1,h2,h3,h4,h5⟩:=R.own i w e;ac_rfl;exact⟨i,a,c,e,h2,zf1 c h2,_,h3⟩
  rcases q with (q|⟨j0,w0,e0,c0,s0,h0⟩)|⟨rfl,rfl⟩
  ·obtain⟨b1,b2,b3⟩:=R2.prt b o q;refine⟨b1,b2,λj w e=>?_⟩;nofun;obtain⟨i,a,_,e,h2,h3,_⟩:=own2 j w e;ac_rfl;rw[h3];intro z;cases z;exact b3 i w e h2
  ·refine aG λGg qG => ?_;obtain⟨a,vs,ws,h1,h2,h3,h4,h5⟩:=R.own j0 w0 e0;ac_rfl;rw[s0] at h2;cases h2;refine⟨by rw[upd_ne (zac h0 hn)];exact h0,h4,λj w e=>?_⟩;nofun;obtain⟨i,a,c,e,h2,h3,_⟩:=own2 j w e;ac_rfl;rw[h3];intro z;cases z;have:=R.inj i j0 _ _ _ e e0 h2 s0;subst this;exact zdn c0 j c
  ·refine⟨upd_same,fa,λj w e => ?_⟩;nofun;obtain⟨i,a,c,e,h2,h3,o,h4⟩:=own2 j w e;ac_rfl;rw[h3];intro z;cases z;rw[hn] at h4;exact noSome h4
theorem Rel.unblock {cap:Cap}{acc:Addr}{F' H':Hp}{ce:En}{σc:St}{vs:List V}{ws:List W} (R:Rel K F pr en σ H) (hn:H acc=none) (s:Same F F') (Rc:Rel K F' (zi3 (zcq pr cap en σ H) acc vs) ce σc H') (kp:Keep (capKeep cap) (capSt cap σ) σc) (rs:Reps K F' ws vs) :
  Rel K F' pr (zau cap en ce) σ H'/\Res K F' H' pr (zau cap en ce) σ (.lst ws,true) (.ref acc):=by
 have slot:∀(i j:Nat) (v:V),zas cap i=some j->σc[j]?=some (some v)->σ[i]?=some (some v):=λi j v c e=>by
  have c':=zbh c;rw[kp j (zom c'),zrx c'] at e;have e':(σ[i]?).getD none=some v:=sI e;cases q:σ[i]? with
  |none=>rw[q] at e';exact noSome e'
  |some z=>rw[q] at e';exact congrArg some e'
 obtain⟨a1,a2,a3⟩:=Rc.prt acc (.lst vs) (.inr ⟨rfl,rfl⟩);have un:∀(i:Nat) (w:W),zas cap i=none->en[i]?=some (#v[w,5])->∃(a:Addr) (vs:HO) (ws:W),w=ws/\σ[i]?=some (some (V.ref a))/\H a=some vs/\H' a=some vs/\F' a=none/\OwnR K F ws vs/\∀(j:Nat) (w':W),ce[j]?=some (#v[w',5])->σc[j]?≠some (some (V.ref a)):=λi w c e=>by
  nofun;obtain⟨a,vs,ws,h1,h2,h3,h4,h5⟩:=R.own i w e;obtain⟨b1,b2,b3⟩:=Rc.prt a vs (.inl (.inr ⟨i,w,e,c,h2,h3⟩));ac_rfl;exact⟨a,vs,ws,h1,h2,h3,b1,b2,h5,b3⟩
 have capt:∀(i j:Nat) (w:W),zas cap i=some j->ce[j]?=some (#v[w,5])->∃(a:Addr) (vs:HO) (ws:W),w=ws/\σ[i]?=some (some (V.ref a))/\σc[j]?=some (some (V.ref a))/\H' a=some vs/\F' a=none/\OwnR K F' ws vs:=λi j w c e=>by
  nofun;obtain⟨a,vs,ws,h1,h2,h3,h4,h5⟩:=Rc.own j w e;ac_rfl;exact⟨a,vs,ws,h1,slot i j _ c h2,h2,h3,h4,h5⟩
 refine⟨⟨by unfold zau;rw[List.length_mapIdx];exact R.len,Rc.sub,λi w e=>?_,λi w e=>?_,λi k a w w' e1 e2 q1 q2=>?_,λb o q=>?_,Rc.tb.go (λb ps e f=>⟨e,f⟩) (.refl F') λb ps e hh o z=>hh o (.inl (.inl z))⟩,acc,_,_,rfl,rfl,a1,a2,.lst rs,λi w e=>?_,λb o q=>zac (R.prt b o q).1 hn⟩
 ·rcases backEn_get e with⟨j,c,e⟩|⟨c,e⟩
  ·obtain⟨v,h1,h2⟩:=Rc.val j w e;exact⟨v,slot i j v c h1,h2⟩
  ·obtain⟨v,h1,h2⟩:=R.val i w e;exact⟨v,h1,h2.mono s⟩
 ·rcases backEn_get e with⟨j,c,e⟩|⟨c,e⟩
  ·refine aG λGg qG => ?_;obtain⟨a,vs,ws,h1,h2,_,h3,h4,h5⟩:=capt i j w c e;ac_rfl;exact⟨a,vs,ws,h1,h2,h3,h4,h5⟩
  ·refine aG λGg qG => ?_;obtain⟨a,vs,ws,h1,h2,_,h3,h4,h5,_⟩:=un i w c e;ac_rfl;exact⟨a,vs,ws,h1,h2,h3,h4,h5.mono s⟩
 ·rcases backEn_get e1 with⟨j,c,e1⟩|⟨c,e1⟩
  ·refine aG λGg qG => ?_;obtain⟨a',_,_,_,h2,h3,_⟩:=capt i j w c e1;ac_rfl;rw[q1] at h2;cases h2;rcases backEn_get e2 with⟨l,c2,e2⟩|⟨c2,e2⟩
   ·refine aG λGg qG => ?_;obtain⟨a',_,_,_,g2,g3,_⟩:=capt k l w' c2 e2;ac_rfl;rw[q2] at g2;cases g2;have:=Rc.inj j l a _ _ e1 e2 h3 g3;subst this;have x:=zbh c;rw[zbh c2] at x;cases x;rfl
   ·refine aG λGg qG => ?_;obtain⟨a',_,_,_,g2,_,_,_,_,g3⟩:=un k w' c2 e2;ac_rfl;rw[q2] at g2;cases g2;exact absurd h3 (g3 j w e1)
  ·refine aG λGg qG => ?_;obtain⟨a',_,_,_,h2,_,_,_,_,h3⟩:=un i w c e1;ac_rfl;rw[q1] at h2;cases h2;rcases backEn_get e2 with⟨l,c2,e2⟩|⟨c2,e2⟩
   ·refine aG λGg qG => ?_;obtain⟨a',_,_,_,g2,g3,_⟩:=capt k l w' c2 e2;ac_rfl;rw[q2] at g2;cases g2;exact absurd g3 (h3 l w' e2)
   ·exact R.inj i k a _ _ e1 e2 q1 q2
 ·obtain⟨b1,b2,b3⟩:=Rc.prt b o (.inl (.inl q));refine⟨b1,b2,λi w e=>?_⟩;rcases backEn_get e with⟨j,c,e⟩|⟨c,e⟩
  ·refine aG λGg qG => ?_;obtain⟨a,_,_,_,h2,h3,_⟩:=capt i j w c e;ac_rfl;rw[h2];intro z;cases z;exact b3 j w e h3
  ·exact (R.prt b o q).2.2 i w e
 ·rcases backEn_get e with⟨j,c,e⟩|⟨c,e⟩
  ·refine aG λGg qG => ?_;obtain⟨a,_,_,_,h2,h3,_⟩:=capt i j w c e;ac_rfl;rw[h2];intro z;cases z;exact a3 j w e h3
  ·refine aG λGg qG => ?_;obtain⟨a,_,_,_,h2,h3,_⟩:=un i w c e;ac_rfl;rw[h2];intro z;cases z;rw[hn] at h3;exact noSome h3
end
noncomputable def zgy (mp:List Nat) (T:Tg) (tc:GT) (te:GE):List W->En->Option (En×List W)
 |[],ce=>some (ce,[])
 | w::ws,ce=>(tgSet mp T w ce).bind λc1=>match tc c1 with
  |#v[c2,5]=>(te c2).bind λp=>(zgy mp T tc te ws p.1).bind λq=>some (q.1,p.2.1::q.2)
  |#v[c2,6]=>zgy mp T tc te ws c2
  |none=>none
def zbb (cap:Cap) (T:Tg) (it:GL) (tc:GT) (te:GE):GE:=λen=>(it en).bind λp=>if zcj cap&&decide (p.2.length<=sizeLine) then (zgy (capKeep cap) T tc te p.2 (zfy cap p.1)).bind λq=>some (zau cap p.1 q.1,(.lst q.2,true)) else none
noncomputable def gYes:GT:=λen=>#v[en,5]
noncomputable def zdd (mp:List Nat) (T:Tg) (tc:GT) (em:GL):List W->En->Option (En×List W)
 |[],ce=>some (ce,[])
 | w::ws,ce=>(tgSet mp T w ce).bind λc1=>match tc c1 with
  |#v[c2,5]=>(em c2).bind λp=>(zdd mp T tc em ws p.1).bind λq=>some (q.1,p.2++q.2)
  |#v[c2,6]=>zdd mp T tc em ws c2
  |none=>none
noncomputable def gOne (te:GE):GL:=λen=>(te en).bind λp=>some (p.1,[p.2.1])
def gTwo (mp:List Nat) (T:Tg) (it:GL) (tc:GT) (em:GL):GL:=λen=>(it en).bind λp=>zdd mp T tc em p.2 p.1
def zq5 (cap:Cap) (T:Tg) (it:GL) (tc:GT) (em:GL):GE:=λen=>(it en).bind λp=>if zcj cap then (zdd (capKeep cap) T tc em p.2 (zfy cap p.1)).bind λq=>if q.2.length<=sizeLine then some (zau cap p.1 q.1,(.lst q.2,true)) else none else none
def zn5 (cap:Cap) (T:Tg) (it:GL) (tc:GT) (T2:Tg) (it2:GL) (tc2:GT) (te:GE):GE:=zq5 cap T it tc (gTwo (capKeep cap) T2 it2 tc2 (gOne te))
theorem zg4 {mp:List Nat}{T:Tg}{tc:GT}{te:GE}:∀{ws:List W}{ce ce':En}{out:List W},zgy mp T tc te ws ce=some (ce',out)->zdd mp T tc (gOne te) ws ce=some (ce',out)/\out.length<=ws.length
 |[],_,_,_,h=>by cases h;exact⟨rfl,Af _⟩
 | w::ws,ce,ce',out,h=>by
  obtain ⟨c1,h1,h⟩:=bS (show (tgSet mp T w ce).bind _=_ from h);have e:zdd mp T tc (gOne te) (w::ws) ce=match tc c1 with
   |#v[c2,5]=>(gOne te c2).bind λp=>(zdd mp T tc (gOne te) ws p.1).bind λq=>some (q.1,p.2++q.2)
   |#v[c2,6]=>zdd mp T tc (gOne te) ws c2
   |none=>none:=by rw[zdd,h1];rfl
  rw[e];cases et:tc c1 with
  |none=>simp only [et] at h;exact noSome h
  | some p =>
   obtain⟨c2,b⟩:=p;cases b with
   |false=>simp only [et] at h;exact⟨(zg4 h).1,Nat.le_succ_of_le (zg4 h).2⟩
   | true =>
    simp only [et] at h;obtain⟨⟨c3,rv⟩,h5,h⟩:=bS h;obtain⟨⟨c4,rest⟩,h6,h⟩:=bS h;cases h;refine⟨?_,Nat.succ_le_succ (zg4 h6).2⟩;show (gOne te c2).bind _=_;rw[gOne,h5];show (zdd mp T tc (gOne te) ws c3).bind _=_;rw[(zg4 h6).1]
    rfl
noncomputable def MOk (K:PySem.W.Frag) (mp:List Nat) (pb:Prt) (acc:Addr) (em:GL) (tm:TM):Prop:=∀(F:Hp) (ce:En) (σ:St) (H:Hp) (vs:List V) (ce':En) (out:List W) (N:St->Hp->Prop),Rel K F (zi3 pb acc vs) ce σ H->em ce=some (ce',out)->vs.length+out.length<=sizeLine ->
 (∀F' σ' H' us,Same F F'->Rel K F' (zi3 pb acc (vs++us)) ce' σ' H'->Keep mp σ σ'->Reps K F' out us->N σ' H')->tm σ H N
section
variable {K:PySem.W.Frag}{mp:List Nat}{pb:Prt}{acc:Addr}
theorem ycd {te:GE}(hb:∀b o,pb b o->b≠acc):MOk K mp pb acc (gOne te) (zsg acc (tE K te)):=by
 intro F ce σ H vs ce' out N R h hz q;nofun;obtain⟨⟨c3,rv⟩,h5,h⟩:=bS h;ac_rfl;cases h;refine⟨F,_,ce,c3,rv,R,h5,λF6 H6 v s6 R6 y6=>?_⟩;nofun;obtain⟨F7,s7,R7,y7⟩:=y6.freeze R6;obtain⟨a1,_,_⟩:=R7.prt acc (.lst vs) (.inr ⟨rfl,rfl⟩);ac_rfl;exact⟨vs,a1,hz,q F7 σ _ [v] (s6.trans s7) (R7.accUpd hb) (.refl _ _) (.cons y7 .nil)⟩
theorem zyr {em:GL}{tm:TM}{T:Tg}{tc:GT}{F1:Hp}{vs0:List V}{ce0 ce':En}{σ0:St}{H0:Hp}{J:It}{ws out:List W}{N0:St->Hp->Prop} (M:MOk K mp pb acc em tm) (R:Rel K F1 (zi3 pb acc vs0) ce0 σ0 H0) (ok:ItOk K F1 J ws) (h:zdd mp T tc em ws ce0=some (ce',out)) (hz:vs0.length+out.length<=sizeLine)
  (q:∀F' σ' H' us,Same F1 F'->Rel K F' (zi3 pb acc (vs0++us)) ce' σ' H'->Keep mp σ0 σ'->Reps K F' out us->N0 σ' H'):zmb J (TGof K T) (tT K tc) tm σ0 H0 N0:=by
 refine ⟨λi m σc Hc=>m=ws.length-i/\i<=ws.length/\∃F' ce dn us rest,Same F1 F'/\Rel K F' (zi3 pb acc (vs0++us)) ce σc Hc/\Keep mp σ0 σc/\Reps K F' dn us/\zdd mp T tc em (ws.drop i) ce=some (ce',rest)/\dn++rest=out,
  ⟨_,rfl,Bm _,F1,ce0,[],[],out,.refl _,by rw[Ch];exact R,.refl _ _,.nil,h,rfl⟩,?_⟩
 rintro i m σc Hc ⟨rfl,hi,F',ce,dn,us,rest,s',R',k',rd,hl,ho⟩;by_cases hlt:i<ws.length
 ·refine .inr ⟨ok.go i Hc (s'.trans R'.sub) hlt, ?_⟩
  have hd:ws.drop i=ws[i]::ws.drop (i+1):=(Cd hlt);rw[hd] at hl;obtain⟨c1,h3,hl⟩:=bS (show (tgSet mp T ws[i] ce).bind _=_ from hl);refine⟨λσ2 H2=>∃F' ce dn us rest,Same F1 F'/\Rel K F' (zi3 pb acc (vs0++us)) ce σ2 H2/\Keep mp σ0 σ2/\Reps K F' dn us/\zdd mp T tc em (ws.drop (i+1)) ce=some (ce',rest)/\dn++rest=out,λσ2 H2 z=>⟨ws.length-(i+1),by omega,rfl,hlt,z⟩,?_⟩;intro x H2 y;obtain⟨w,ew,o⟩:=ok.yld i Hc x H2 (s'.trans R'.sub) hlt y;rw[Ac hlt] at ew;obtain rfl:=sI ew;nofun;obtain⟨F3,s3,R3,z3⟩:=(o.mono s').close R';ac_rfl;refine zp1 (w:=ws[i]) R3 z3 h3 λσ3 R4 k4=>?_;cases et:tc c1 with
  |none=>simp only [et] at hl;exact noSome hl
  | some p =>
   obtain⟨c2,b⟩:=p;refine⟨F3,_,c1,c2,b,R4,et,λF5 H5 s5 R5=>?_⟩;cases b with
   | false =>
    simp only [et] at hl;exact iteF ⟨F5,c2,dn,us,rest,s'.trans (s3.trans s5),R5,k'.trans k4,rd.mono (s3.trans s5),hl,ho⟩
   | true =>
    simp only [et] at hl;nofun;obtain⟨⟨c3,o1⟩,h5,hl⟩:=bS hl;obtain⟨⟨c4,rest'⟩,h6,hl⟩:=bS hl;ac_rfl;cases hl;refine iteT (M F5 c2 σ3 H5 (vs0++us) c3 o1 _ R5 h5 ?_ λF6 σ6 H6 us2 s6 R6 k6 r6=>?_)
    ·dsimp only at ho
     rw[<-ho,Bc,Bc,rd.length] at hz;rw[Bc];omega
    ·have sAll:Same F' F6:=s3.trans (s5.trans s6)
     exact⟨F6,c3,dn++o1,us++us2,rest',s'.trans sAll,by rw[<-Ba];exact R6,k'.trans (k4.trans k6),(rd.mono sAll).append r6,h6,by rw[Ba];exact ho⟩
 ·have e:i=ws.length:=by omega
  subst e;rw[List.drop_length] at hl;cases hl;rw[Ch] at ho;subst ho;exact .inl ⟨ok.stop Hc (s'.trans R'.sub),q F' σc Hc us s' R' k' rd⟩
theorem ydo {em:GL}{tm:TM}{T:Tg}{it:GL}{tc:GT}(M:MOk K mp pb acc em tm):MOk K mp pb acc (gTwo mp T it tc em) (tTwo (tI K it) (TGof K T) (tT K tc) tm):=by
 intro F ce σ H vs ce' out N R h hz q;nofun;obtain⟨⟨e1,ws⟩,h1,h⟩:=bS h;ac_rfl;exact⟨F,_,ce,e1,ws,R,h1,λF1 H1 J s1 R1 ok=>zyr M R1 ok h hz λF' σ' H' us s'=>q F' σ' H' us (s1.trans s')⟩
end
theorem zjj {K:PySem.W.Frag}{cap:Cap}{T:Tg}{it:GL}{tc:GT}{em:GL}{tm:Addr->TM}{σ:St}{H:Hp}{Q:VK}(M:∀(pb:Prt) (acc:Addr),(∀b o,pb b o->b≠acc)->MOk K (capKeep cap) pb acc em (tm acc))(h:tE K (zq5 cap T it tc em) σ H Q):zvh (tI K it) cap (TGof K T) (tT K tc) tm σ H Q:=by
 nofun;obtain⟨F,pr,en,en',r,R,h,q⟩:=h;obtain⟨⟨e1,ws⟩,h1,h⟩:=bS h;ac_rfl;refine⟨F,pr,en,e1,ws,R,h1,λF1 H1 J s1 R1 ok acc hacc=>?_⟩;split at h
 ·rename_i nd;nofun;obtain⟨⟨ce',out⟩,h2,h⟩:=bS h;ac_rfl;split at h
  ·rename_i hz;cases h;refine zyr (M _ acc (zts (cap:=cap) R1 hacc)) (R1.block hacc nd) ok h2 (by rw[Fj,Ce];exact hz) λF' σ' H' us s' R' k' rd=>?_;obtain⟨Ro,rz⟩:=R1.unblock hacc s' R' k' rd;exact q F' H' _ (s1.trans s') Ro rz
  ·exact noSome h
 ·exact noSome h
theorem zuh {K:PySem.W.Frag}{cap:Cap}{T:Tg}{it:GL}{tc:GT}{te:GE}{σ:St}{H:Hp}{Q:VK}(h:tE K (zbb cap T it tc te) σ H Q):zvh (tI K it) cap (TGof K T) (tT K tc) (λacc=>zsg acc (tE K te)) σ H Q:=by
 refine zjj (λpb acc hb=>ycd hb) ?_;obtain⟨F,pr,en,en',r,R,h,q⟩:=h;refine⟨F,pr,en,en',r,R,?_,q⟩;nofun;obtain⟨⟨e1,ws⟩,h1,h⟩:=bS h;ac_rfl;split at h
 ·rename_i z;rw[Ad] at z;nofun;obtain⟨⟨ce',out⟩,h2,h⟩:=bS h;ac_rfl;obtain⟨h3,h4⟩:=zg4 h2;rw[zq5,h1];show (if zcj cap=true then (zdd (capKeep cap) T tc (gOne te) ws (zfy cap e1)).bind _ else none)=_;rw[if_pos z.1,h3];show (if out.length<=sizeLine then _ else none)=_;rw[if_pos (Cf h4 (At z.2))];exact h
 ·exact noSome h
noncomputable def ydi:GE:=λen=>some (en,(.dic,false))
noncomputable def keyW:W->Bool
 |.int _=>true
 |.str _=>true
 |_=>false
def ydn (k v:GE):GE:=λen=>(k en).bind λp=>if keyW p.2.1 then (v p.1).bind λq=>some (q.1,(.dic,false)) else none
noncomputable def Src (h:Heap) (it l:Addr) (k:Nat) (xs:Array Value):Prop:=(h.IsListIter it l k/\h.IsList l xs)\/(h.IsTupleIter it l k/\h.IsTuple l xs)
theorem Src.at {h h':Heap}{it l:Addr}{k:Nat}{xs:Array Value}(c:Src h it l k xs)(a:∀o,h.get? it=some o->h'.get? it=some o)(b:∀o,h.get? l=some o->h'.get? l=some o):Src h' it l k xs:=by
 rcases c with⟨p,q⟩|⟨p,q⟩
 ·exact .inl ⟨p.at a,q.at b⟩
 ·obtain⟨o,e,r⟩:=q;exact .inr ⟨p.at a,o,b o e,r⟩
theorem Src.src {h:Heap}{it l:Addr}{k:Nat}{xs:Array Value}(c:Src h it l k xs):∃o,h.get? l=some o:=by
 rcases c with⟨_,⟨o,e,_⟩⟩|⟨_,⟨o,e,_⟩⟩<;>exact⟨o,e⟩
section
variable {prog:Program}{w:World}{A:Around}{E:Value->Shared->Prop}{s:Shared}
theorem zgg {it l:Addr}{k:Nat}{xs:Array Value}{x:Value}{Q:Value->Shared->Prop} (c:Src s.heap it l k xs) (hx:xs[k]?=some x) (ne:l≠it)
  (q:∀h',Src h' it l (k+1) xs->Heap.SameBut it s.heap h'->Q x { s with heap:=h' }):wpAny (model prog w) A (Builtin.SmallTypes.nextOf (.ref it)) Q E s:=by
 rcases c with⟨c1,c2⟩|⟨c1,c2⟩
 ·exact wpAny_nextOf_list_item c1 c2 hx λh' a b=>q h' (.inl ⟨a,c2.at λo e=>(b.2 l ne).trans e⟩) b
 ·refine aG λGg qG => ?_;obtain⟨oi,ei,ci,di⟩:=id c1;obtain⟨os,es,cs,ns,ds⟩:=id c2;ac_rfl;unfold Builtin.SmallTypes.nextOf;refine Aa (Dd (name:=Str.ofString "__next__") c1.typeIs Fh (Ej Fh c1.typeIs F.entry_tuple_iterator_next ?_ (F.args_tuple_iterator_next_1 _)));refine (show wpAny _ _ (field (.ref it) 0>>=_) _ _ s from Aa (Cv ei di (x:=.ref l) rfl ?_));refine (show wpAny _ _ (if (Value.ref l==Value.none)=true then _ else _) _ _ s from ?_);rw[if_neg (by intro z;cases z)];refine (show wpAny _ _ (field (.ref it) 1>>=_) _ _ s from Aa (Cv ei di (x:=.int k 0) rfl ?_));refine (show wpAny _ _ (seqItems? (.ref l)>>=_) _ _ s from Aa (Cy es ds ?_));simp only [Es,hx];refine Aa (wpAny_setField ei di (by simp) (Ag ⟨x,rfl,Ag ?_⟩));refine q _ (.inr ⟨⟨_,Gr _ ei (Obj.isFreed_of_fields (Obj.data_mapFields di _)),(Obj.cls_mapFields ..).trans ci,by rw[Obj.data_mapFields di];simp [rawInt]⟩,os,?_,cs,ns,ds⟩) (Ct ..);exact ((Ct ..).2 l ne).trans es
theorem zk9 {it l:Addr}{k:Nat}{xs:Array Value}{Q:Value->Shared->Prop} (hn:A.handled=none) (c:Src s.heap it l k xs) (hx:xs[k]?=none)
  (q:∀h' e,Heap.ExtBut it s.heap h'->(∃o,h'.get? e=some o/\o.cls=.type "StopIteration")->E (.ref e) { s with heap:=h' }):wpAny (model prog w) A (Builtin.SmallTypes.nextOf (.ref it)) Q E s:=by
 rcases c with⟨c1,c2⟩|⟨c1,c2⟩
 ·exact wpAny_nextOf_list_end hn c1 c2 hx q
 ·obtain⟨oi,ei,ci,di⟩:=id c1;obtain⟨os,es,cs,ns,ds⟩:=id c2;unfold Builtin.SmallTypes.nextOf;refine Aa (Dd (name:=Str.ofString "__next__") c1.typeIs Fh (Ej Fh c1.typeIs F.entry_tuple_iterator_next ?_ (F.args_tuple_iterator_next_1 _)));refine (show wpAny _ _ (field (.ref it) 0>>=_) _ _ s from Aa (Cv ei di (x:=.ref l) rfl ?_));refine (show wpAny _ _ (if (Value.ref l==Value.none)=true then _ else _) _ _ s from ?_);rw[if_neg (by intro z;cases z)];refine (show wpAny _ _ (field (.ref it) 1>>=_) _ _ s from Aa (Cv ei di (x:=.int k 0) rfl ?_));refine (show wpAny _ _ (seqItems? (.ref l)>>=_) _ _ s from Aa (Cy es ds ?_));simp only [Es,hx];refine Aa (Dc (Aa (wpAny_setField ei di (by simp) (show wpAny _ _ (newExc (.type "StopIteration") []>>=_) _ _ _ from Aa ?_))));simp only [newExc,newTuple];refine Aa (Dj (Aa (m:=firstArgMember _ _) (Gx (a:=Value.none) (by first|rfl|(simp only [firstArgMember];rfl)) (Dj ?_ (by size_fits)))) (by size_fits));simp only [raiseNew];refine Aa (wpAny_handled ?_);rw[show A.in1.handled=none from hn];exact Aa (Ag (wpAny_throw (q _ _ (((Ct ..).extBut.push _).push _) ⟨_,An _ rfl,rfl⟩)))
theorem z6l {z TI TO i1 i2 l1 l2:Addr}{k1 k2:Nat}{xs ys:Array Value}{x y a b:Value}{Q:Value->Shared->Prop} (D:ZipApart z TI TO i1 i2 l1 l2) (gz:IsZip s.heap z TI TO .none) (gi:IsPair s.heap TI (.ref i1) (.ref i2)) (go:IsPair s.heap TO a b)
  (c1:Src s.heap i1 l1 k1 xs) (c2:Src s.heap i2 l2 k2 ys) (ex:xs[k1]?=some x) (ey:ys[k2]?=some y)
  (q:∀h',IsZip h' z TI TO (rawInt s.heap.objs.size)->IsPair h' TO x y->Src h' i1 l1 (k1+1) xs->Src h' i2 l2 (k2+1) ys->IsPair h' s.heap.objs.size x y ->
   (∀c o,c≠z->c≠TO->c≠i1->c≠i2->s.heap.get? c=some o->h'.get? c=some o)->Q (.ref s.heap.objs.size) { s with heap:=h' }) :
  wpAny (model prog w) A (Builtin.«zip.__next__» ⟨[.ref z],[]⟩) (λfin s'=>∃v,fin=.done (.ret v)/\Q v s') E s:=by
 refine (show wpAny _ _ (field (.ref z) 2>>=_) _ _ _ from Aa (Cv gz rfl (x:=.bool false) rfl ?_));refine (show wpAny _ _ (field (.ref z) 3>>=_) _ _ _ from Aa (Cv gz rfl (x:=.ref TI) rfl (Aa (Cy gi rfl ?_))));refine (show wpAny _ _ (Builtin.SmallTypes.ownedTupleIsFree (.ref z)>>=_) _ _ _ from Aa ?_);unfold Builtin.SmallTypes.ownedTupleIsFree;refine Aa (Cv gz rfl (x:=.none) rfl (Ag ?_));simp only [Fi];refine Aa (Dc (Aa (Cv gz rfl (x:=.ref TO) rfl (Aa (Et gz (by simp) λg1 z1 u1=>?_)))));have z1':IsZip g1 z TI TO .ellipsis:=z1;refine Aa ?_;simp only [List.zipIdx_cons,List.zipIdx_nil,Gm,Ex];have k1' : ∀c o,c≠z->s.heap.get? c=some o->g1.get? c=some o:=λc o n e=>u1.extBut _ _ n e;refine Aa (Aa (wpAny_onRaise (show wpAny _ _ (Builtin.SmallTypes.nextOf (.ref i1)>>=_) _ _ _ from Aa (zgg (c1.at (λo=>k1' _ o D.i1z) λo=>k1' _ o D.l1z) ex D.l1i1 λg2 d2 u2=>Ag ?_))));have k2' : ∀c o,c≠z->c≠i1->s.heap.get? c=some o->g2.get? c=some o:=λc o n m e=>u2.extBut _ _ m (k1' c o n e);refine Aa (Cy (k2' _ _ D.TOz D.TOi1 go) rfl (Aa (wpAny_updateSeq_pair (k2' _ _ D.TOz D.TOi1 go) λg3 t3 u3=>Aa (Ga (Ag ?_)))));have t3':IsPair g3 TO x b:=t3;have k3' : ∀c o,c≠z->c≠i1->c≠TO->s.heap.get? c=some o->g3.get? c=some o:=λc o n m r e=>u3.extBut _ _ r (k2' c o n m e);refine Aa (Aa (wpAny_onRaise (show wpAny _ _ (Builtin.SmallTypes.nextOf (.ref i2)>>=_) _ _ _ from Aa (zgg (c2.at (λo=>k3' _ o D.i2z D.i12.symm D.TOi2.symm) λo=>k3' _ o D.l2z D.l2i1 D.l2TO) ey D.l2i2 λg4 d4 u4=>Ag ?_))));have t4:IsPair g4 TO x b:=u4.extBut _ _ D.TOi2 t3';refine Aa (Cy t4 rfl (Aa (wpAny_updateSeq_pair t4 λg5 t5 u5=>Aa (Ga (Ag (Ag ?_))))));have t5':IsPair g5 TO x y:=t5;refine Aa (Cy t5' rfl (Aa (wpAny_newTuple ?_)));have n5:g5.objs.size=s.heap.objs.size:=by rw[u5.1,u4.1,u3.1,u2.1,u1.1]
 have z5:IsZip g5 z TI TO .ellipsis:=u5.extBut _ _ D.TOz.symm (u4.extBut _ _ D.i2z.symm (u3.extBut _ _ D.TOz.symm (u2.extBut _ _ D.i1z.symm z1')));have k5:∀c o,c≠z->c≠TO->c≠i1->c≠i2->s.heap.get? c=some o->g5.get? c=some o:=λc o n r m p e=>u5.extBut _ _ r (u4.extBut _ _ p (k3' c o n m r e));have d2':Src g5 i1 l1 (k1+1) xs:=d2.at (λo e=>u5.extBut _ _ D.TOi1.symm (u4.extBut _ _ D.i12 (u3.extBut _ _ D.TOi1.symm e))) λo e=>u5.extBut _ _ D.l1TO (u4.extBut _ _ D.l1i2 (u3.extBut _ _ D.l1TO e));have d4':Src g5 i2 l2 (k2+1) ys:=d4.at (λo e=>u5.extBut _ _ D.TOi2.symm e) λo e=>u5.extBut _ _ D.l2TO e;refine (show wpAny _ _ (Builtin.SmallTypes.ownedTupleHandOut (.ref z) (.ref g5.objs.size)>>=_) _ _ _ from Aa ?_);unfold Builtin.SmallTypes.ownedTupleHandOut;have z6:IsZip (g5.push { cls:=.type "tuple",data:=.seq #[x,y] }) z TI TO .ellipsis:=Ab _ z5;refine Aa (Et z6 (by simp) λg7 z7 u7=>Et (show IsZip g7 z TI TO (rawInt g5.objs.size) from z7) (by simp) λg8 z8 u8=>Ag ⟨_,rfl,?_⟩);have up:∀c o,c≠z->g5.get? c=some o->g8.get? c=some o:=λc o n e=>u8.extBut _ _ n (u7.extBut _ _ n (Ab _ e));have lz:g5.objs.size≠z:=Gu (Ai z5);have t8:IsPair g8 g5.objs.size x y:=u8.extBut _ _ lz (u7.extBut _ _ lz (An _ rfl));have z8':IsZip g8 z TI TO (rawInt g5.objs.size):=z8;rw[n5] at t8 z8';show Q (.ref g5.objs.size) _;rw[n5];exact q g8 z8' (up _ _ D.TOz t5') (d2'.at (λo=>up _ o D.i1z) λo=>up _ o D.l1z) (d4'.at (λo=>up _ o D.i2z) λo=>up _ o D.l2z) t8 λc o n r m p e=>up c o n (k5 c o n r m p e)
theorem yax {z TI TO i1 i2 l1 l2:Addr}{k1 k2:Nat}{xs ys:Array Value}{a b:Value}{Q:Fin->Shared->Prop} (hn:A.handled=none) (D:ZipApart z TI TO i1 i2 l1 l2) (gz:IsZip s.heap z TI TO .none) (gi:IsPair s.heap TI (.ref i1) (.ref i2)) (go:IsPair s.heap TO a b)
  (c1:Src s.heap i1 l1 k1 xs) (c2:Src s.heap i2 l2 k2 ys) (he:xs[k1]?=none\/ys[k2]?=none)
  (q:∀h' e,(∀c o,c≠z->c≠TO->c≠i1->c≠i2->s.heap.get? c=some o->h'.get? c=some o)->(∃o,h'.get? e=some o/\o.cls=.type "StopIteration")->E (.ref e) { s with heap:=h' }) :
  wpAny (model prog w) A (Builtin.«zip.__next__» ⟨[.ref z],[]⟩) Q E s:=by
 refine (show wpAny _ _ (field (.ref z) 2>>=_) _ _ _ from Aa (Cv gz rfl (x:=.bool false) rfl ?_));refine (show wpAny _ _ (field (.ref z) 3>>=_) _ _ _ from Aa (Cv gz rfl (x:=.ref TI) rfl (Aa (Cy gi rfl ?_))));refine (show wpAny _ _ (Builtin.SmallTypes.ownedTupleIsFree (.ref z)>>=_) _ _ _ from Aa ?_);unfold Builtin.SmallTypes.ownedTupleIsFree;refine Aa (Cv gz rfl (x:=.none) rfl (Ag ?_));simp only [Fi];refine Aa (Dc (Aa (Cv gz rfl (x:=.ref TO) rfl (Aa (Et gz (by simp) λg1 z1 u1=>?_)))));have z1':IsZip g1 z TI TO .ellipsis:=z1;refine Aa ?_;simp only [List.zipIdx_cons,List.zipIdx_nil,Gm,Ex];have k1' : ∀c o,c≠z->s.heap.get? c=some o->g1.get? c=some o:=λc o n e=>u1.extBut _ _ n e;refine Aa (Aa (wpAny_onRaise (show wpAny _ _ (Builtin.SmallTypes.nextOf (.ref i1)>>=_) _ _ _ from Aa ?_)));have d1:Src g1 i1 l1 k1 xs:=c1.at (λo=>k1' _ o D.i1z) λo=>k1' _ o D.l1z;cases hx:xs[k1]? with
 | none =>
  refine zk9 hn d1 hx λg2 e u2 so=>?_;obtain⟨oe,ge,ce⟩:=so;have z2:IsZip g2 z TI TO .ellipsis:=u2 _ _ D.i1z.symm z1';have ne:e≠z:=λr=>by subst r;rw[z2] at ge;obtain rfl:=sI ge;simp at ce
  exact Et z2 (by simp) λg3 _ u3=>q g3 e (λc o n _ m _ x=>u3.extBut _ _ n (u2 _ _ m (k1' c o n x))) ⟨oe,u3.extBut _ _ ne ge,ce⟩
 | some x =>
  have hy:ys[k2]?=none:=he.resolve_left (by rw[hx];simp);refine zgg d1 hx D.l1i1 λg2 d2 u2=>Ag ?_;have k2' : ∀c o,c≠z->c≠i1->s.heap.get? c=some o->g2.get? c=some o:=λc o n m e=>u2.extBut _ _ m (k1' c o n e);refine Aa (Cy (k2' _ _ D.TOz D.TOi1 go) rfl (Aa (wpAny_updateSeq_pair (k2' _ _ D.TOz D.TOi1 go) λg3 t3 u3=>Aa (Ga (Ag ?_)))));have k3' : ∀c o,c≠z->c≠i1->c≠TO->s.heap.get? c=some o->g3.get? c=some o:=λc o n m r e=>u3.extBut _ _ r (k2' c o n m e);refine Aa (Aa (wpAny_onRaise (show wpAny _ _ (Builtin.SmallTypes.nextOf (.ref i2)>>=_) _ _ _ from Aa (zk9 hn (c2.at (λo=>k3' _ o D.i2z D.i12.symm D.TOi2.symm) λo=>k3' _ o D.l2z D.l2i1 D.l2TO) hy λg4 e u4 so=>?_))));obtain⟨oe,ge,ce⟩:=so;have z4:IsZip g4 z TI TO .ellipsis:=u4 _ _ D.i2z.symm (u3.extBut _ _ D.TOz.symm (u2.extBut _ _ D.i1z.symm z1'));have ne:e≠z:=λr=>by subst r;rw[z4] at ge;obtain rfl:=sI ge;simp at ce
  exact Et z4 (by simp) λg5 _ u5=>q g5 e (λc o n r m p x=>u5.extBut _ _ n (u4 _ _ p (k3' c o n m r x))) ⟨oe,u5.extBut _ _ ne ge,ce⟩
theorem z5i {z TI TO i1 i2 l1 l2:Addr}{k1 k2:Nat}{xs ys:Array Value}{x y a b:Value}{Q:Option Value->Shared->Prop} (D:ZipApart z TI TO i1 i2 l1 l2) (gz:IsZip s.heap z TI TO .none) (gi:IsPair s.heap TI (.ref i1) (.ref i2)) (go:IsPair s.heap TO a b)
  (c1:Src s.heap i1 l1 k1 xs) (c2:Src s.heap i2 l2 k2 ys) (ex:xs[k1]?=some x) (ey:ys[k2]?=some y)
  (q:∀h',IsZip h' z TI TO (rawInt s.heap.objs.size)->IsPair h' TO x y->Src h' i1 l1 (k1+1) xs->Src h' i2 l2 (k2+1) ys->IsPair h' s.heap.objs.size x y ->
   (∀c o,c≠z->c≠TO->c≠i1->c≠i2->s.heap.get? c=some o->h'.get? c=some o)->Q (some (.ref s.heap.objs.size)) { s with heap:=h' }):wpAny (model prog w) A (pyNext (.ref z)) Q E s:=by
 have ty:s.TypeIs (.ref z) "zip" := ⟨_,gz,rfl⟩;unfold pyNext;exact Aa (Fs (Dd (name:=Str.ofString "__next__") ty F.slot_zip_next (Ej F.slot_zip_next ty F.entry_zip_next (z6l D gz gi go c1 c2 ex ey λh' a1 a2 a3 a4 a5 a6=>Ag (q h' a1 a2 a3 a4 a5 a6)) (F.args_zip_next_1 _))))
theorem z8n {z TI TO i1 i2 l1 l2:Addr}{k1 k2:Nat}{xs ys:Array Value}{a b:Value}{Q:Option Value->Shared->Prop} (hn:A.handled=none) (D:ZipApart z TI TO i1 i2 l1 l2) (gz:IsZip s.heap z TI TO .none) (gi:IsPair s.heap TI (.ref i1) (.ref i2)) (go:IsPair s.heap TO a b)
  (c1:Src s.heap i1 l1 k1 xs) (c2:Src s.heap i2 l2 k2 ys) (he:xs[k1]?=none\/ys[k2]?=none)
  (q:∀h',(∀c o,c≠z->c≠TO->c≠i1->c≠i2->s.heap.get? c=some o->h'.get? c=some o)->Q none { s with heap:=h' }):wpAny (model prog w) A (pyNext (.ref z)) Q E s:=by
 have ty:s.TypeIs (.ref z) "zip" := ⟨_,gz,rfl⟩;unfold pyNext;refine Aa (Fs (Dd (name:=Str.ofString "__next__") ty F.slot_zip_next (Ej F.slot_zip_next ty F.entry_zip_next (yax hn D gz gi go c1 c2 he λh' e k so=>?_) (F.args_zip_next_1 _))));obtain⟨o,go',co⟩:=so;exact Aa (wpAny_isInstance (T := "StopIteration") (b:=true) ⟨o,go',co⟩ isSubtype_stop (Ag (q _ k)))
end
def SrcO (h:Heap) (b:Bool) (l:Addr) (xs:Array Value):Prop:=match b with
 |true=>h.IsList l xs
 |false=>h.IsTuple l xs
noncomputable def itO (b:Bool) (l:Addr):Obj:={ cls:=.type (if b then "list_iterator" else "tuple_iterator"),data:=.fields #[.ref l,.int 0 0] }
theorem SrcO.push {h:Heap}{b:Bool}{l:Addr}{xs:Array Value} (c:SrcO h b l xs) (o:Obj):SrcO (h.push o) b l xs:=by
 cases b with
 |true=>exact Heap.IsList.push c o
 | false =>
  obtain⟨q,e,r⟩:=c;exact⟨q,Ab _ e,r⟩
section
variable {prog:Program}{w:World}{A:Around}{E:Value->Shared->Prop}{s:Shared}
theorem znj {b:Bool}{l:Addr}{xs:Array Value}{Q:Value->Shared->Prop}(c:SrcO s.heap b l xs)(q:Q (.ref s.heap.objs.size) { s with heap:=s.heap.push (itO b l) }):wpAny (model prog w) A (pyIter (.ref l)) Q E s:=by
 cases b with
 |true=>exact Di c q
 |false=>exact Fy c q
end
abbrev zA (h:Heap) (b:Bool) (l:Addr):Heap:=h.push (itO b l)
abbrev zB (h:Heap) (b c:Bool) (l m:Addr):Heap:=(zA h b l).push (itO c m)
noncomputable abbrev zC (h:Heap) (b c:Bool) (l m:Addr):Heap:=(zB h b c l m).push { cls:=.type "tuple",data:=.seq #[.ref h.objs.size,.ref (zA h b l).objs.size] }
abbrev zD (h:Heap) (b c:Bool) (l m:Addr):Heap:=(zC h b c l m).push { cls:=.type "tuple",data:=.seq #[.none,.none] }
abbrev zE (h:Heap) (b c:Bool) (l m:Addr):Heap:=(zD h b c l m).push { cls:=.type "zip",data:=.fields #[.none,.bool false,.bool false,.ref (zB h b c l m).objs.size,.ref (zC h b c l m).objs.size] }
theorem zvm (b c:Bool)(l m:Addr)(xs ys:Array Value):Meets (Builtin.«zip.__new__» ⟨[.type "zip",.ref l,.ref m],[]⟩) (λ_ R s=>SrcO s.heap b l xs/\SrcO s.heap c m ys/\R (.ok (.ret (.ref (zD s.heap b c l m).objs.size))) { s with heap:=zE s.heap b c l m }) :=
 .of_wp λprog w A R s h=>by
  obtain⟨hp,g,d,tk,os⟩:=s;obtain⟨x1,x2,h⟩:=h;have hsub:=sub_zip;have y1:SrcO (Shared.heap ⟨hp,g,d,tk,os⟩) b l xs:=x1;have y2:SrcO (Shared.heap ⟨hp.push (itO b l),g,d,tk,os⟩) c m ys:=SrcO.push x2 _
  wp_walk using znj y1,znj y2
  exact⟨_,rfl,h⟩
section
variable {prog:Program}{w:World}{A:Around}{E:Value->Shared->Prop}{s:Shared}
theorem z18 {b c:Bool}{l m:Addr}{xs ys:Array Value}{Q:Value->Shared->Prop} (x1:SrcO s.heap b l xs) (x2:SrcO s.heap c m ys)
  (h:∀h',IsZip h' (s.heap.objs.size+4) (s.heap.objs.size+2) (s.heap.objs.size+3) .none->IsPair h' (s.heap.objs.size+2) (.ref s.heap.objs.size) (.ref #v[8,10])->IsPair h' (s.heap.objs.size+3) .none .none ->
   h'.get? s.heap.objs.size=some (itO b l)->h'.get? #v[8,10]=some (itO c m)->(∀c o,s.heap.get? c=some o->h'.get? c=some o)->Q (.ref (s.heap.objs.size+4)) { s with heap:=h' }) :
  wpAny (model prog w) A (call (.type "zip") [.ref l,.ref m]) Q E s:=by
 refine callType_new F.called_zip #v[0,9] (F.typeCall_zip_2 _ _) (F.newCall_zip_2 _ _) (λobj=>F.args_object_init_3 obj _ _) F.entry_zip_new (zvm b c l m xs ys) ⟨x1,x2,?_⟩;have n1:(zA s.heap b l).objs.size=s.heap.objs.size+1:=Da ..;have n2:(zB s.heap b c l m).objs.size=s.heap.objs.size+2:=by rw[Da,n1]
 have n3:(zC s.heap b c l m).objs.size=s.heap.objs.size+3:=by rw[Da,n2]
 have n4:(zD s.heap b c l m).objs.size=s.heap.objs.size+4:=by rw[Da,n3]
 have up:∀r o,s.heap.get? r=some o->(zE s.heap b c l m).get? r=some o:=λr o x=>Ab _ (Ab _ (Ab _ (Ab _ (Ab _ x))));have e5:(zE s.heap b c l m).get? (zD s.heap b c l m).objs.size=some _:=An _ rfl;have e4:(zE s.heap b c l m).get? (zC s.heap b c l m).objs.size=some _:=Ab _ (An _ rfl);have e3:(zE s.heap b c l m).get? (zB s.heap b c l m).objs.size=some _:=Ab _ (Ab _ (An _ rfl));have e2:(zE s.heap b c l m).get? (zA s.heap b l).objs.size=some (itO c m):=Ab _ (Ab _ (Ab _ (An _ rfl)));have e1:(zE s.heap b c l m).get? s.heap.objs.size=some (itO b l):=Ab _ (Ab _ (Ab _ (Ab _ (An _ rfl))));show _/\_;rw[n2,n3,n4] at e5;rw[n1,n2] at e3;rw[n3] at e4;rw[n1] at e2;rw[n4];exact⟨⟨_,e5,rfl⟩,h _ e5 e3 e4 e1 e2 up⟩
end
def SqK (K:PySem.W.Frag) (k:Bool) (H:Hp) (a:Addr) (xs:List V):Prop:=match k with
 |true=>SqL K H a xs
 |false=>SqT K H a xs
def ItI (h:Heap) (k:Bool) (it l:Addr) (i:Nat):Prop:=match k with
 |true=>h.IsListIter it l i
 |false=>h.IsTupleIter it l i
theorem SqK.mono {K:PySem.W.Frag}{k:Bool}{F H:Hp}{a:Addr}{xs:List V}(s:Same F H)(h:SqK K k F a xs):SqK K k H a xs:=by
 cases k with
 |true=>exact s.seq h
 |false=>exact zcm s h
theorem Inv.sqK {X:Cx}{pins:List (Addr×Obj)}{σ:St}{H:Hp}{s:Shared}{k:Bool}{a:Addr}{xs:List V}(I:Inv X pins σ H s)(h:SqK X.K k H a xs):∃its:List Value,Vals xs its/\SrcO s.heap k a its.toArray:=by
 cases k with
 |true=>obtain⟨its,r,p,_⟩:=I.list h;exact⟨its,r,p.isList⟩
 |false=>obtain⟨its,r,p,_⟩:=I.tuple h;exact⟨its,r,p⟩
theorem Inv.sqK_inj {X:Cx}{pins:List (Addr×Obj)}{σ:St}{H:Hp}{s:Shared}{k:Bool}{a:Addr}{xs ys:List V}(I:Inv X pins σ H s)(h:SqK X.K k H a xs)(h':SqK X.K k H a ys):xs=ys:=by
 cases k with
 |true=>exact I.list_inj h h'
 |false=>exact I.tuple_inj h h'
theorem ItI.src {h:Heap}{k:Bool}{it l:Addr}{i:Nat}{xs:Array Value}(a:ItI h k it l i)(b:SrcO h k l xs):Src h it l i xs:=by
 cases k with
 |true=>exact .inl ⟨a,b⟩
 |false=>exact .inr ⟨a,b⟩
theorem Src.itI {h:Heap}{k:Bool}{it l:Addr}{i:Nat}{xs:Array Value} (c:Src h it l i xs) (b:SrcO h k l xs):ItI h k it l i:=by
 cases k with
 | true =>
  rcases c with⟨c,_⟩|⟨_,⟨o,e,q,_⟩⟩
  ·exact c
  ·obtain ⟨o', e', q', _⟩:=b
   rw[e] at e';obtain rfl:=sI e';rw[q] at q';simp at q'
 | false =>
  rcases c with⟨_,⟨o,e,q,_⟩⟩|⟨c,_⟩
  ·obtain ⟨o', e', q', _⟩:=b
   rw[e] at e';obtain rfl:=sI e';rw[q] at q';simp at q'
  ·exact c
theorem ItI.at {h h':Heap}{k:Bool}{it l:Addr}{i:Nat}(a:ItI h k it l i)(q:∀o,h.get? it=some o->h'.get? it=some o):ItI h' k it l i:=by
 cases k with
 |true=>exact Heap.IsListIter.at a q
 |false=>exact Heap.IsTupleIter.at a q
theorem ItI.obj {h:Heap}{k:Bool}{it l:Addr}{i:Nat}(a:ItI h k it l i):∃o,h.get? it=some o/\∀v,o.data≠.cell v:=by
 cases k with
 |true=>obtain⟨o,e,_,d⟩:=a;exact⟨o,e,λv z=>by rw[d] at z;cases z⟩
 |false=>obtain⟨o,e,_,d⟩:=a;exact⟨o,e,λv z=>by rw[d] at z;cases z⟩
def Itz (K:PySem.W.Frag) (ka kb:Bool) (a b:Addr):It :=
 ⟨λi H=>∃xs ys x y,SqK K ka H a xs/\SqK K kb H b ys/\xs[i]?=some x/\ys[i]?=some y,
  λi H x H'=>∃p v u,x=.ref p/\H p=none/\H'=upd H p (.tup [v,u])/\(∀xs,SqK K ka H a xs->xs[i]?=some v)/\(∀ys,SqK K kb H b ys->ys[i]?=some u),
  λi H=>∃xs ys,SqK K ka H a xs/\SqK K kb H b ys/\(xs.length<=i\/ys.length<=i)⟩
noncomputable def zSt (ka kb:Bool) (z TI TO i1 i2 a b:Addr) (i:Nat) (h:Heap):Prop:=IsZip h z TI TO .none/\IsPair h TI (.ref i1) (.ref i2)/\(∃u v,IsPair h TO u v)/\ItI h ka i1 a i/\ItI h kb i2 b i
theorem z2q {P:Program}{w:World}{K:PySem.W.Frag}{es:List Expr}{x1}{px:Pos}(ka kb:Bool)(z TI TO i1 i2 a b:Addr)(D:ZipApart z TI TO i1 i2 a b):Turn P w K (.Tuple es x1 px) (Itz K ka kb a b) [z,TI,TO,i1,i2] z (zSt ka kb z TI TO i1 i2 a b) where
 mem:=by simp
 obj:=λi h st c hc=>by
  nofun;obtain⟨gz,gi,⟨u,v,go⟩,t1,t2⟩:=st;ac_rfl;simp only [Ap,Ao,Cb,Ge] at hc;rcases hc with rfl|rfl|rfl|rfl|rfl
  ·exact⟨_,gz,λv q=>by cases q⟩
  ·exact⟨_,gi,λv q=>by cases q⟩
  ·exact⟨_,go,λv q=>by cases q⟩
  ·exact t1.obj
  ·exact t2.obj
 keep:=λi h h' st k=>by
  nofun;obtain⟨gz,gi,⟨u,v,go⟩,t1,t2⟩:=st;ac_rfl;exact⟨k z (by simp) _ gz,k TI (by simp) _ gi,⟨u,v,k TO (by simp) _ go⟩,t1.at λo e=>k i1 (by simp) o e,t2.at λo e=>k i2 (by simp) o e⟩
 item:=by
  intro X hP hw hK hc i pins s σ H E I hf st hg;subst hP hw hK;nofun;obtain⟨xs,ys,x,y,q1,q2,e1,e2⟩:=hg;obtain⟨gz,gi,⟨u0,v0,go⟩,t1,t2⟩:=st;obtain⟨its,r1,so1⟩:=I.sqK q1;obtain⟨its',r2,so2⟩:=I.sqK q2;obtain⟨u,hu,ru⟩:=r1.get e1;obtain⟨v,hv,rv⟩:=r2.get e2;ac_rfl;refine z5i D gz gi go (t1.src so1) (t2.src so2) (x:=u) (y:=v) (by simpa using hu) (by simpa using hv) λh' g1 g2 g3 g4 g5 g6=>⟨_,rfl,?_⟩;refine wpAny_letOwnedTupleGo_zip g1 λh'' k1 k2=>?_;have lt:∀c o,s.heap.get? c=some o->c≠s.heap.objs.size:=λc o e=>Az (Ai e);have kk:∀c o,c ∉ [z,TI,TO,i1,i2]->s.heap.get? c=some o->h''.get? c=some o:=λc o hb e=>by
   simp only [Ap,Ao,Cb,Ge,not_or] at hb;exact (k2.2 c hb.1).trans (g6 c o hb.1 hb.2.2.1 hb.2.2.2.1 hb.2.2.2.2 e)
  obtain⟨o1,eo1⟩:=(t1.src so1).src;obtain⟨o2,eo2⟩:=(t2.src so2).src;have so1':SrcO h' ka a its.toArray:=by
   cases ka with
   |true=>exact so1.at λo e=>g6 a o D.l1z D.l1TO D.l1i1 D.l1i2 e
   |false=>obtain⟨o,e,r⟩:=so1;exact⟨o,g6 a o D.l1z D.l1TO D.l1i1 D.l1i2 e,r⟩
  have so2':SrcO h' kb b its'.toArray:=by
   cases kb with
   |true=>exact so2.at λo e=>g6 b o D.l2z D.l2TO D.l2i1 D.l2i2 e
   |false=>obtain⟨o,e,r⟩:=so2;exact⟨o,g6 b o D.l2z D.l2TO D.l2i1 D.l2i2 e,r⟩
  have t1':ItI h'' ka i1 a (i+1):=(g3.itI so1').at λo e=>(k2.2 i1 D.i1z).trans e;have t2':ItI h'' kb i2 b (i+1):=(g4.itI so2').at λo e=>(k2.2 i2 D.i2z).trans e;have gi':IsPair h'' TI (.ref i1) (.ref i2):=(k2.2 TI D.TIz).trans (g6 TI _ D.TIz D.TITO D.TIi1 D.TIi2 gi);have go':IsPair h'' TO u v:=(k2.2 TO D.TOz).trans g2;have Tz:s.heap.objs.size≠z:=(lt z _ gz).symm;refine⟨.ref s.heap.objs.size,upd H s.heap.objs.size (.tup [x,y]),I.turnLay kk (λc hb=>?_) hf (Af _) ⟨by show 2<=sizeLine;decide,[u,v],.cons ru (.cons rv .nil),?_⟩,rfl,⟨_,x,y,rfl,I.hok.fresh (Af _),rfl,λzs hz=>by rw[I.sqK_inj hz q1];exact e1,λzs hz=>by rw[I.sqK_inj hz q2];exact e2⟩,⟨k1,gi',⟨u,v,go'⟩,t1',t2'⟩,λc hb=>?_⟩
  ·simp only [Ap,Ao,Cb,Ge] at hb;rcases hb with rfl|rfl|rfl|rfl|rfl
   ·exact⟨_,k1⟩
   ·exact⟨_,gi'⟩
   ·exact⟨_,go'⟩
   ·obtain⟨o,e,_⟩:=t1'.obj;exact⟨o,e⟩
   ·obtain⟨o,e,_⟩:=t2'.obj;exact⟨o,e⟩
  ·exact⟨_,(k2.2 _ Tz).trans g5,rfl,_,rfl⟩
  ·have ne:c≠s.heap.objs.size:=by
    simp only [Ap,Ao,Cb,Ge] at hb;rcases hb with rfl|rfl|rfl|rfl|rfl
    ·exact lt _ _ gz
    ·exact lt _ _ gi
    ·exact lt _ _ go
    ·obtain⟨o,e,_⟩:=t1.obj;exact lt _ _ e
    ·obtain⟨o,e,_⟩:=t2.obj;exact lt _ _ e
   rw[upd_ne ne];exact (hf c hb).1
 done:=by
  intro X hP hw hK hc i pins s σ H E I hf st hg;subst hP hw hK;nofun;obtain⟨xs,ys,q1,q2,he⟩:=hg;obtain⟨gz,gi,⟨u0,v0,go⟩,t1,t2⟩:=st;obtain⟨its,r1,so1⟩:=I.sqK q1;obtain⟨its',r2,so2⟩:=I.sqK q2;ac_rfl;have l1:=r1.length;have l2:=r2.length;refine z8n (I.ok.hd hc) D gz gi go (t1.src so1) (t2.src so2) ?_ λh' k=>⟨rfl,I.turnL (t':=s.toks) (ch:=[z,TI,TO,i1,i2]) (λc o hb e=>?_) hf⟩
  ·rcases he with he|he
   ·exact .inl (Eh (by simp;omega))
   ·exact .inr (Eh (by simp;omega))
  ·simp only [Ap,Ao,Cb,Ge,not_or] at hb;exact k c o hb.1 hb.2.2.1 hb.2.2.2.1 hb.2.2.2.2 e
 self:=λ_ _ _ _ _ st h=>wpAny_pyIter_zip st.1 h
theorem z1d:bootBuiltins "zip" = some (.type "zip"):=by decide +kernel
section
variable {X:Cx}
noncomputable def iZip (K:PySem.W.Frag) (ta:TA):TI:=λσ H R=>ta σ H λvs H1=>∃a b ka kb xs ys,vs=[.ref a,.ref b]/\SqK K ka H1 a xs/\SqK K kb H1 b ys/\R (Itz K ka kb a b) H1
theorem yce {es:List Expr}{x1}{px:Pos}{l m:Expr}{tl:TA}{p pos:Pos} (hg:Gl X "zip") (hm:X.mg "zip" = none) (hl:PA X [l,m] tl) (hs:starEach [l,m] X.env=[(false,eval l X.env),(false,eval m X.env)]) (hs2:starEach [m] X.env=[(false,eval m X.env)]) :
  PI X (.Tuple es x1 px) (.Call (.Name "zip" p) [l,m] [] pos) (iZip X.K tl):=by
 intro pins s σ H R I h;refine Call_ (zem I hg hm z1d (Db (thn (hl pos pins s σ H _ I h) λus s1 ⟨vs,H1,I1,r1,q1⟩=>?_) (by rw[hs,hs2]) (by rw[hs2];rfl)));nofun;obtain⟨a,b,ka,kb,xs,ys,e,q2,q3,q⟩:=q1;ac_rfl;subst e;cases r1 with
 | cons r rr =>
  cases rr with
  | cons r' rr =>
   cases rr;cases r;cases r';refine aG λ_ qG=>?_;obtain ⟨its,rv1,so1⟩:=I1.sqK q2;obtain ⟨its',rv2,so2⟩:=I1.sqK q3;refine qG ?_;clear qG;refine z18 so1 so2 λh' g1 g2 g3 g4 g5 up=>wpAny_pyIter_zip g1 ?_;have la:a<s1.heap.objs.size:=by
    cases ka with
    |true=>obtain⟨o,e,_⟩:=so1;exact Ai e
    |false=>obtain⟨o,e,_⟩:=so1;exact Ai e
   have lb:b<s1.heap.objs.size:=by
    cases kb with
    |true=>obtain⟨o,e,_⟩:=so2;exact Ai e
    |false=>obtain⟨o,e,_⟩:=so2;exact Ai e
   have D:ZipApart (s1.heap.objs.size+4) (s1.heap.objs.size+2) (s1.heap.objs.size+3) s1.heap.objs.size (s1.heap.objs.size+1) a b:=by
    have up:∀{c:Addr} (k:Nat),c<s1.heap.objs.size->c≠s1.heap.objs.size+k:=λk h=>Az (Bb h (Ds _ k));refine⟨?_,?_,?_,?_,?_,?_,?_,?_,?_,?_,up 4 la,up 3 la,up 0 la,up 1 la,up 4 lb,up 3 lb,up 0 lb,up 1 lb⟩<;>(intro z;have z':(_:Nat)=_:=z;omega)
   have t1:ItI h' ka s1.heap.objs.size a 0:=by cases ka<;>exact⟨_,g4,rfl,rfl⟩
   have t2:ItI h' kb (s1.heap.objs.size+1) b 0:=by cases kb<;>exact⟨_,g5,rfl,rfl⟩
   refine ⟨_,_,_,_,H1,rfl,I1.kept (t':=s1.toks) up,z2q ka kb _ _ _ _ _ a b D,⟨g1,g2,⟨_,_,g3⟩,t1,t2⟩,λc hb=>?_,q⟩;have le:s1.heap.objs.size<=c:=by
    simp only [Ap,Ao,Cb,Ge] at hb;rcases hb with rfl|rfl|rfl|rfl|rfl
    ·exact Ds _ _
    ·exact Ds _ _
    ·exact Ds _ _
    ·exact Af _
    ·exact Ds _ _
   exact I1.fpOk le (I1.hok.fresh le)
end
noncomputable def zipW:List W->List W->List W
 |x::xs,y::ys=>.tup [x,y]::zipW xs ys
 |_,_=>[]
theorem ze9:∀(xs ys:List W),(zipW xs ys).length=min xs.length ys.length
 |[],_=>by simp [zipW]
 |_::_,[]=>by simp [zipW]
 |_::xs,_::ys=>by simp only [zipW,Be,ze9 xs ys];omega
theorem zj7:∀{xs ys:List W}{i:Nat}{x y:W},xs[i]?=some x->ys[i]?=some y->(zipW xs ys)[i]?=some (.tup [x,y])
 |[],_,_,_,_,e,_=>by simp at e
 |_::_,[],_,_,_,_,e=>by simp at e
 |_::xs,_::ys,0,_,_,e,e'=>by simp at e e';subst e e';rfl
 | _::xs,_::ys,i+1,x,y,e,e'=>by
  show (zipW xs ys)[i]?=_;exact zj7 (by simpa using e) (by simpa using e')
def gZip (g g':GE):GL:=λen=>(g en).bind λp=>(g' p.1).bind λq=>(seqW p.2.1).bind λws=>(seqW q.2.1).bind λus=>some (q.1,zipW ws us)
section
variable {K:PySem.W.Frag}{F H:Hp}{σ:St}
theorem zer {w:W}{ws:List W}{v:V} (y:Rep K F w v) (hs:seqW w=some ws):∃a k vs,v=.ref a/\SqK K k F a vs/\Reps K F ws vs:=by
 cases w with
 | lst xs=>obtain rfl:=sI hs;cases y with
  |lst y r=>exact⟨_,true,_,rfl,SqL.of' y,r⟩
 | frl xs=>obtain rfl:=sI hs;cases y with
  |frl y r=>exact⟨_,true,_,rfl,y,r⟩
 | tup xs=>obtain rfl:=sI hs;cases y with
  |tup y r=>exact⟨_,false,_,rfl,.inl (.inl y),r⟩
 |_=>exact noSome hs
theorem yaj {a b:Addr}{ka kb:Bool}{vs us:List V}{ws zs:List W}(h:SqK K ka F a vs)(h':SqK K kb F b us)(r:Reps K F ws vs)(r':Reps K F zs us):ItOk K F (Itz K ka kb a b) (zipW ws zs) where
 go:=λi H s hi=>by
  rw[ze9] at hi;have l1:i<vs.length:=by rw[<-r.length];omega
  have l2:i<us.length:=by rw[<-r'.length];omega
  exact⟨vs,us,vs[i],us[i],h.mono s,h'.mono s,Ac l1,Ac l2⟩
 stop:=λH s=>⟨vs,us,h.mono s,h'.mono s,by rw[ze9,r.length,r'.length];omega⟩
 yld:=λi H x H' s hi y=>by
  nofun;obtain⟨p,v,u,e1,hp,e2,y1,y2⟩:=y;ac_rfl;subst e1 e2;nofun;obtain⟨w1,g1,q1⟩:=r.getV (y1 vs (h.mono s));obtain⟨w2,g2,q2⟩:=r'.getV (y2 us (h'.mono s));ac_rfl;exact⟨_,zj7 g1 g2,.tup hp (.cons q1 (.cons q2 .nil))⟩
theorem zzl {g g':GE}{R:It->Hp->Prop}(h:tI K (gZip g g') σ H R):iZip K (zfs (tE K g) (zfs (tE K g') tNil)) σ H R:=by
 nofun;obtain⟨F,pr,en,en',ws,Re,h,q⟩:=h;obtain⟨⟨e1,r1⟩,h1,h⟩:=bS h;obtain⟨⟨e2,r2⟩,h2,h⟩:=bS h;obtain⟨us,hs,h⟩:=bS h;obtain⟨zs,hs',h⟩:=bS h;ac_rfl;cases h;refine⟨F,pr,en,e1,r1,Re,h1,λF1 H1 v s1 R1 z=>?_⟩;nofun;obtain⟨F2,s2,R2,y⟩:=z.freeze R1;ac_rfl;refine⟨F2,pr,e1,e2,r2,R2,h2,λF3 H3 v' s3 R3 z'=>?_⟩;nofun;obtain⟨F4,s4,R4,y'⟩:=z'.freeze R3;obtain⟨a,ka,vs,ea,qa,ra⟩:=zer (y.mono (s3.trans s4)) hs;obtain⟨b,kb,vs',eb,qb,rb⟩:=zer y' hs';ac_rfl;subst ea eb;exact⟨a,b,ka,kb,vs,vs',rfl,qa.mono R4.sub,qb.mono R4.sub,q F4 H3 _ (s1.trans (s2.trans (s3.trans s4))) R4 (yaj qa qb ra rb)⟩
end
open AutoSeq1 (wpAny_loadPart')
section
variable {prog:Program}{w:World}{A:Around}{E:Value->Shared->Prop}{s:Shared}
theorem zu0 {it l:Addr}{xs:Array Value}(ne:l≠it)(hn:A.handled=none):Draws prog w A.in1 it [it,l] xs.size (λi x=>xs[i]?=some x) (λk h=>h.IsTupleIter it l k/\h.IsTuple l xs) where
 live:=λi h st=>let ⟨⟨o,e,_⟩,_⟩:=st;⟨o,e⟩
 frame:=λi h h' st k=>⟨st.1.at λo e=>k it (by simp) o e,let ⟨o,e,r⟩:=st.2;⟨o,k l (by simp) o e,r⟩⟩
 item:=λi s Q E hi st q=>zgg (k:=i) (xs:=xs) (x:=xs[i]) (.inr st) (Array.getElem?_eq_getElem hi) ne λh' c sb=>by
  rcases c with⟨⟨o,e,c1,_⟩,c2⟩|c
  ·obtain ⟨o', e', c1', _⟩:=st.1;have:=st.2;exact absurd c2 (λc2=>by
   obtain⟨o2,e2,c3,_⟩:=c2;obtain⟨o3,e3,c4,_⟩:=st.2;rw[(sb.2 l ne).trans e3] at e2;obtain rfl:=sI e2;rw[c4] at c3;exact absurd (Value.type.inj c3) #v[0,9])
  ·exact q xs[i] h' s.toks (Array.getElem?_eq_getElem hi) c sb
 done:=λs Q E st q=>zk9 (k:=xs.size) (xs:=xs) (show A.in1.handled=none from hn) (.inr st) (Eh (Af _)) q
theorem zpl (l:Addr) (items:Array Value) (n:Nat) (dct:Option Addr) (sl:Array (Option Value)) :
  Meets (Builtin.«enumerate.__new__» ⟨[.type "enumerate",.ref l],[]⟩) (λ_ R s=>s.heap.get? l=some { cls:=.type "tuple",dict:=dct,data:=.seq items n,slots:=sl } /\
   R (.ok (.ret (.ref (s.heap.push { cls:=.type "tuple_iterator",data:=.fields #[.ref l,.int 0 0] }).objs.size)))
    { s with heap:=(s.heap.push { cls:=.type "tuple_iterator",data:=.fields #[.ref l,.int 0 0] }).push { cls:=.type "enumerate",data:=.fields #[.none,.bool false,.ref s.heap.objs.size,rawInt 0,.none,.none] } }) :=
 .of_wp λprog w A R s h=>by
  obtain⟨hp,g,d,tk,os⟩:=s;obtain⟨hl,h⟩:=h;have hsub:=sub_enumerate;have hL:Heap.IsTuple (Shared.heap ⟨hp,g,d,tk,os⟩) l items:=⟨_,hl,rfl,n,rfl⟩
  wp_walk using Dl hl
  refine wpAny_stack_any λst=>Ag ?_;split
  ·rename_i c _ _ _ _ _;cases (c==Value.type "enumerate")<;>(wp_walk using Dl hl,Fy hL)<;>exact⟨_,rfl,h⟩
  ·wp_walk using Dl hl,Fy hL
   exact⟨_,rfl,h⟩
theorem zs3 {l:Addr}{items:Array Value}{Q:Value->Shared->Prop} (hL:s.heap.IsTuple l items)
  (h:∀h',IsEnum h' #v[8,10] s.heap.objs.size 0 .none->h'.IsTupleIter s.heap.objs.size l 0->(∀b o,s.heap.get? b=some o->h'.get? b=some o)->Q (.ref #v[8,10]) { s with heap:=h' }) :
  wpAny (model prog w) A (call (.type "enumerate") [.ref l]) Q E s:=by
 nofun;obtain⟨⟨c,dct,dt,sl⟩,hl,hc,n,hd⟩:=hL;ac_rfl;cases (show c=.type "tuple" from hc);cases (show dt=.seq items n from hd);refine callType_new F.called_enumerate #v[0,9] (F.typeCall_enumerate_1 _) (F.newCall_enumerate_1 _) (λobj=>F.args_object_init_2 obj _) F.entry_enumerate_new (zpl l items n dct sl) ⟨hl,?_⟩;have hz:(s.heap.push { cls:=.type "tuple_iterator",data:=.fields #[.ref l,.int 0 0] }).objs.size=s.heap.objs.size+1:=Da ..;show _/\_;rw[hz];have he:=An (s.heap.push { cls:=.type "tuple_iterator",data:=.fields #[.ref l,.int 0 0] }) (o:={ cls:=.type "enumerate",data:=.fields #[.none,.bool false,.ref s.heap.objs.size,rawInt 0,.none,.none] }) rfl;rw[hz] at he;exact⟨⟨_,he,rfl⟩,h _ he ⟨_,Ab _ (An _ rfl),rfl,rfl⟩ λb o x=>Ab _ (Ab _ x)⟩
end
def IteT (K:PySem.W.Frag) (a:Addr):It :=
 ⟨λi H=>∃xs x,SqT K H a xs/\xs[i]?=some x,λi H x H'=>∃p v,x=.ref p/\H p=none/\H'=upd H p (.tup [.int i,v])/\∀xs,SqT K H a xs->xs[i]?=some v,λi H=>∃xs,SqT K H a xs/\xs.length<=i⟩
theorem zsl {P:Program}{w:World}{K:PySem.W.Frag}{es:List Expr}{x1}{px:Pos}(a e it:Addr)(hei:e≠it)(hea:e≠a)(hai:a≠it):Turn P w K (.Tuple es x1 px) (IteT K a) [e,it] e (λi h=>(∃old,IsEnum h e it i old)/\h.IsTupleIter it a i) where
 mem:=by simp
 obj:=λi h st b hb=>by
  nofun;obtain⟨⟨old,he⟩,o,hi,c,d⟩:=st;ac_rfl;rcases Ap.mp hb with rfl|hb
  ·exact⟨_,he,λv z=>by cases z⟩
  ·have:b=it:=by simpa using hb
   subst this;exact⟨o,hi,λv z=>by rw[d] at z;cases z⟩
 keep:=λi h h' st k=>⟨let ⟨old,he⟩:=st.1;⟨old,k e (by simp) _ he⟩,st.2.at λo z=>k it (by simp) o z⟩
 item:=by
  intro X hP hw hK hc i pins s σ H E I hf st hg;subst hP hw hK;nofun;obtain⟨xs,x,hq,hx⟩:=hg;obtain⟨its,rv,p,hz⟩:=I.tuple hq;obtain⟨u,hu,ru⟩:=rv.get hx;obtain⟨⟨old,he⟩,hit⟩:=st;ac_rfl;have hT:s.heap.IsTuple a its.toArray:=p;have lt:i<its.toArray.size:=by
   rw[Ah];exact (Ak.mp hu).1
  refine wpAny_pyNext_enum_itemD (zu0 hai (I.ok.hd hc)) he ⟨hit,hT⟩ lt hei (by simp [hei,hea]) λy h' tk hy ho hst hT' hsz hk=>⟨_,rfl,?_⟩;have eu:y=u:=by
   have:its[i]?=some y:=by simpa using hy
   rw[hu] at this;exact (sI this).symm
  subst eu;refine wpAny_letOwnedTupleGo_enum ho λh'' he'' hs''=>?_;have kk:∀b o,b ∉ [e,it]->s.heap.get? b=some o->h''.get? b=some o:=λb o hb q=>by
   have h1:b≠e:=λz=>hb (by simp [z]);have h2:b≠it:=λz=>hb (by simp [z]);exact (hs''.2 b h1).trans (hk b o h1 h2 q)
  have hTe:s.heap.objs.size≠e:=λz=>absurd (Ai he) (by rw[z];exact Bt _);have hit'':h''.IsTupleIter it a (i+1):=hst.1.at λo y=>(hs''.2 it hei.symm).trans y;refine⟨.ref s.heap.objs.size,upd H s.heap.objs.size (.tup [.int i,x]),I.turnLay kk (λb hb=>?_) hf (Af _) ⟨by show 2<=sizeLine;decide,[.int i tk,y],.cons ⟨_,rfl⟩ (.cons ru .nil),?_⟩,rfl,⟨_,x,rfl,I.hok.fresh (Af _),rfl,λys hy=>by rw[I.tuple_inj hy hq];exact hx⟩,⟨⟨_,by simpa using he''⟩,hit''⟩,λb hb=>?_⟩
  ·rcases Ap.mp hb with rfl|hb
   ·exact⟨_,he''⟩
   ·have:b=it:=by simpa using hb
    subst this;obtain⟨o,z,_⟩:=hit'';exact⟨o,z⟩
  ·exact⟨_,(hs''.2 _ hTe).trans hT',rfl,_,rfl⟩
  ·have:b≠s.heap.objs.size:=by
    rcases Ap.mp hb with rfl|hb
    ·exact hTe.symm
    ·have e2:b=it:=by simpa using hb
     subst e2;obtain⟨o,z,_⟩:=hit;exact Az (Ai z)
   rw[upd_ne this];exact (hf b hb).1
 done:=by
  intro X hP hw hK hc i pins s σ H E I hf st hg;subst hP hw hK;nofun;obtain⟨xs,hq,hx⟩:=hg;obtain⟨its,rv,p,hz⟩:=I.tuple hq;obtain⟨⟨old,he⟩,hit⟩:=st;obtain⟨f0,f1,f2,f3,f4,f5⟩:=hf it (by simp);ac_rfl;have hl:=rv.length;have hT:s.heap.IsTuple a its.toArray:=p;have hTy:s.TypeIs (.ref e) "enumerate" := ⟨_,he,rfl⟩;unfold pyNext;refine Aa (Fs (Dd (name:=Str.ofString "__next__") hTy F.slot_enumerate_next (Ej F.slot_enumerate_next hTy F.entry_enumerate_next ?_ (F.args_enumerate_next_1 _))));show wpAny _ _ (field (.ref e) 2>>=_) _ _ _;refine Aa (Cv he rfl (x:=.ref it) rfl ?_);refine Aa (zk9 (show _=none from I.ok.hd hc) (.inr ⟨hit,hT⟩) (Eh (by simp;omega)) λh' x eb hx'=>?_);obtain⟨o,ho,hc'⟩:=hx';refine Aa (wpAny_isInstance (T := "StopIteration") (b:=true) ⟨o,ho,hc'⟩ isSubtype_stop ?_);exact Ag ⟨rfl,I.turned (t':=s.toks) (λb o hb e=>eb b o hb e) f0 f1 f3 f4 f5⟩
 self:=λ_ _ _ _ _ st h=>let ⟨_,he⟩:=st.1;Hh he h
section
variable {X:Cx}
noncomputable def z3y (K:PySem.W.Frag) (ta:TA):TI:=λσ H R=>ta σ H λvs H1=>∃a xs,vs=[.ref a]/\(SqL K H1 a xs/\R (Ite K a) H1\/SqT K H1 a xs/\R (IteT K a) H1)
theorem z0a {es:List Expr}{x1}{px:Pos}{l:Expr}{tl:TA}{p pos:Pos} (hg:Gl X "enumerate") (hm:X.mg "enumerate" = none) (hl:PA X [l] tl) (hs:starEach [l] X.env=[(false,eval l X.env)]:=by rfl) :
  PI X (.Tuple es x1 px) (.Call (.Name "enumerate" p) [l] [] pos) (z3y X.K tl):=by
 intro pins s σ H R I h;refine Call_ (zem I hg hm boot_enumerate (Db (thn (hl pos pins s σ H _ I h) λus s1 ⟨vs,H1,I1,r1,q1⟩=>?_) hs rfl));obtain⟨a,xs,e,q⟩:=q1;subst e;cases r1 with
 | cons r rr =>
  cases rr;cases r;have fp:∀b∈[s1.heap.objs.size+1,s1.heap.objs.size],FpOk X pins H1 b:=λb hb=>by
   have e:s1.heap.objs.size<=b:=by
    rcases Ap.mp hb with rfl|hb
    ·exact Nat.le_succ _
    ·have e2:b=s1.heap.objs.size:=by simpa using hb
     rw[e2];exact Af _
   exact I1.fpOk e (I1.hok.fresh e)
  rcases q with⟨hq,q⟩|⟨hq,q⟩
  ·obtain ⟨its,rv,p', hz⟩:=I1.list hq
   refine call_enumerate_list p'.isList λh' he hit hsz hk=>Hh he ?_;exact⟨s1.heap.objs.size+1,[s1.heap.objs.size+1,s1.heap.objs.size],_,_,H1,rfl,I1.kept (t':=s1.toks) hk,zv1 a _ _ (Nat.succ_ne_self _),⟨⟨_,by simpa using he⟩,hit⟩,fp,q⟩
  ·obtain ⟨its,rv,p', hz⟩:=I1.tuple hq
   have hT:s1.heap.IsTuple a its.toArray:=p';have al:a<s1.heap.objs.size:=let ⟨o,e,_⟩:=hT;Ai e;refine zs3 hT λh' he hit hk=>Hh he ?_;exact⟨s1.heap.objs.size+1,[s1.heap.objs.size+1,s1.heap.objs.size],_,_,H1,rfl,I1.kept (t':=s1.toks) hk,zsl a _ _ (Nat.succ_ne_self _) (Gu (Dn al)) (Az al),⟨⟨_,by simpa using he⟩,hit⟩,fp,q⟩
end
section
variable {K:PySem.W.Frag}{F H:Hp}{σ:St}
theorem zy3 {a:Addr}{vs:List V}{ws:List W}(h:SqT K F a vs)(r:Reps K F ws vs):ItOk K F (IteT K a) (zic ws 0) where
 go:=λi H s hi=>by rw[zc5] at hi;exact⟨vs,vs[i]'(by rw[<-r.length];exact hi),zcm s h,by rw[Ac]⟩
 stop:=λH s=>⟨vs,zcm s h,by rw[zc5,r.length];exact Af _⟩
 yld:=λi H x H' s hi y=>by
  nofun;obtain⟨p,v,e,hp,e2,y⟩:=y;ac_rfl;subst e e2;obtain⟨w,e,q⟩:=r.getV (y vs (zcm s h));refine⟨_,zfe e,?_⟩;rw[Ce];exact .tup hp (.cons (.int _) (.cons q .nil))
def zob (g:GE):GL:=λen=>(g en).bind λp=>(seqW p.2.1).bind λws=>some (p.1,zic ws 0)
theorem zx5 {g:GE}{R:It->Hp->Prop}(h:tI K (zob g) σ H R):z3y K (zfs (tE K g) tNil) σ H R:=by
 nofun;obtain⟨F,pr,en,en',ws,Re,h,q⟩:=h;obtain⟨⟨e1,rv⟩,h1,h⟩:=bS h;obtain⟨us,hs,h⟩:=bS h;ac_rfl;cases h;refine⟨F,pr,en,e1,rv,Re,h1,λF1 H1 v s1 R1 z=>?_⟩;nofun;obtain⟨F2,s2,R2,y⟩:=z.freeze R1;obtain⟨a,k,vs,e,hq,r⟩:=zer y hs;ac_rfl;subst e;cases k with
 |true=>exact⟨a,vs,rfl,.inl ⟨R2.sub.seq hq,q F2 H1 _ (s1.trans s2) R2 (z54 hq r)⟩⟩
 |false=>exact⟨a,vs,rfl,.inr ⟨zcm R2.sub hq,q F2 H1 _ (s1.trans s2) R2 (zy3 hq r)⟩⟩
end
end L2
namespace L2
open PySem PySem.Spec PyProof.Rows
section
variable {X:Cx}{pins:List (Addr × Obj)}{σ:St}{H:Hp}{s:Shared}
noncomputable def okD (d:PyData):Bool:=d.showable && !d.hasDict&&decide (d.depth<=100)&&decide (d.shown.length<=sizeLine)
def ydg:List V->Hp->VK->Prop:=λxs H Q=>∃a d,xs=[.ref a]/\DV H (.ref a) d/\okD d=true/\Q (.str d.shown) H
theorem z7x {d:PyData}(h:okD d=true):d.showable=true/\d.hasDict=false/\d.depth<=100/\d.shown.length<=sizeLine:=by
 unfold okD at h;rw[Ad,Ad,Ad] at h;exact⟨h.1.1.1,by simpa using h.1.1.2,At h.1.2,At h.2⟩
noncomputable def z3h:List V->Hp->VK->Prop:=λxs H Q=>(∃i,xs=[.int i]/\i.natAbs.log2<1920/\Q (.str (toString i)) H)\/(xs=[.non]/\Q (.str "None") H)\/(∃b:Bool,xs=[.bl b]/\Q (.str (if b then "True" else "False")) H)\/ydg xs H Q
theorem zu8 {k:Nat}(hr:Room k X.A):zcb X (.builtin "repr") z3h:=by
 intro pins s σ H xs us Q I r h;rcases h with h|h|h|h
 ·refine aG λGg qG => ?_;obtain⟨i,rfl,hi,q⟩:=h;obtain⟨u,rfl,ru⟩:=r.one;obtain⟨t,rfl⟩:=(show ∃t,u=Value.int i t from ru);ac_rfl;exact PySem.P.repr_of_int hi ⟨.str _,H,I.tok _,⟨_,rfl⟩,q⟩
 ·obtain⟨rfl,q⟩:=h;obtain⟨u,rfl,ru⟩:=r.one;obtain rfl:=(show u=Value.none from ru);exact PySem.P.repr_of_none ⟨.str _,H,I.tok _,⟨_,rfl⟩,q⟩
 ·obtain⟨b,rfl,q⟩:=h;obtain⟨u,rfl,ru⟩:=r.one;obtain rfl:=(show u=Value.bool b from ru);exact PySem.P.repr_of_bool ⟨.str _,H,I.tok _,⟨_,rfl⟩,q⟩
 ·refine aG λGg qG => ?_;obtain⟨a,d,rfl,dv,ok,q⟩:=h;obtain⟨u,rfl,ru⟩:=r.one;ac_rfl;cases ru;nofun;obtain⟨as,rd⟩:=dv.reads I rfl;obtain⟨o1,o2,o3,o4⟩:=z7x ok;ac_rfl;exact repr_of_reads' rd o1 (λz=>by rw[o2] at z;cases z) hr.gd (by have:=hr.un;omega) (λ_ _ e=>e) (λh' u tk hk=>⟨.str _,H,I.kept (t':=tk) hk,⟨_,rfl⟩,q⟩) o4
end
section
variable {K:PySem.W.Frag}{F H:Hp}
def z7e (w:W):Option (W×Bool):=(seqW w).bind λ_=>(dW w).bind λd=>if okD d then some (.str d.shown,false) else none
noncomputable def zoo:ON
 |[.int i]=>if i.natAbs.log2<1920 then some (.str (toString i),false) else none
 |[.non]=>some (.str "None",false)
 |[.bl b]=>some (.str (if b then "True" else "False"),false)
 |[w]=>z7e w
 |_=>none
theorem z5l {w:W}{v:V}{rv:W×Bool} (s:Same F H) (r:RepB K F H w v) (e:z7e w=some rv):∃a d,v=.ref a/\DV H (.ref a) d/\okD d=true/\rv=(.str d.shown,false):=by
 unfold z7e at e;nofun;obtain⟨ws,hs,e⟩:=bS e;obtain⟨d,hd,e⟩:=bS e;ac_rfl;split at e
 ·rename_i ok
  obtain rfl:=sI e;rcases r with r|⟨a,o,us,z,rfl,h,q⟩
  ·have dv:=rep_dv s r hd
   cases r with
   |tup h _=>exact⟨_,d,rfl,dv,ok,rfl⟩
   |lst h _=>exact⟨_,d,rfl,dv,ok,rfl⟩
   |frl h _=>exact⟨_,d,rfl,dv,ok,rfl⟩
   |_=>exact noSome hs
  ·subst z
   cases q with
   |dct hl q=>exact noSome hs
   |dctT hl q=>exact noSome hs
   | lst q =>
    rw[dW] at hd;obtain⟨ds,e1,e2⟩:=bS hd;obtain rfl:=sI e2;exact⟨a,_,rfl,.lst h (zgx s q e1),ok,rfl⟩
 ·exact noSome e
theorem z0u:OpSN K z3h zoo:=λF H ws vs rv Q s r e q=>by
 match ws,e with
 | [w],e =>
  obtain⟨v,e1,hv⟩:=r.one;subst e1;cases w with
  | int i =>
   have e':(if i.natAbs.log2<1920 then #v[W.str (toString i),6] else none)=some rv:=e;by_cases z:i.natAbs.log2<1920
   ·rw [if_pos z] at e'
    obtain rfl:=sI e';exact .inl ⟨i,by rw[hv.int],z,q _ _ (.val (.str _))⟩
   ·rw [if_neg z] at e'
    exact noSome e'
  | non =>
   obtain rfl:=sI e;exact .inr (.inl ⟨by rw[hv.non],q _ _ (.val (.str _))⟩)
  | bl b =>
   obtain rfl:=sI e;exact .inr (.inr (.inl ⟨b,by rw[hv.bl],q _ _ (.val (.str _))⟩))
  | _ =>
   obtain⟨a,d,rfl,dv,ok,rfl⟩:=z5l s hv e;exact .inr (.inr (.inr ⟨a,d,rfl,dv,ok,q _ _ (.val (.str _))⟩))
 |[],e=>exact noSome e
 |a::b::l,e=>cases a<;>exact noSome e
end
noncomputable abbrev Fn:=List W->Option (List W×(W×Bool))
noncomputable def za6 (m:List Bool) (ws:List W):En:=List.zipWith (λw b=>some (w,b)) ws m
def spF (K:PySem.W.Frag) (m:List Bool) (Φ:Fn):Sp:=λvs H Q _=>∃F pr ws ws' r,ws.length=m.length/\ws'.length=m.length/\Rel K F pr (za6 m ws) (vs.map some) H/\Φ ws=some (ws',r) /\
 ∀F' H' v,Same F F'->Rel K F' pr (za6 m ws') (vs.map some) H'->Res K F' H' pr (za6 m ws') (vs.map some) r v->Q v H'
theorem ze8 {m:List Bool}{ws:List W}{k:Nat}{w:W}{b:Bool}:(za6 m ws)[k]?=some (some (w,b))↔ws[k]?=some w/\m[k]?=some b:=by
 unfold za6;rw[List.getElem?_zipWith];cases ws[k]?<;>cases m[k]?<;>simp
theorem ze6 {m:List Bool}{ws:List W}(h:ws.length=m.length):(za6 m ws).length=m.length:=by
 unfold za6;rw[Gp,h,Nat.min_self]
theorem zxl {K:PySem.W.Frag}{m:List Bool}{Φ:Fn}{vs:List V}{H:Hp}{Q:VK}{E:XK}(h:spF K m Φ vs H Q E):vs.length=m.length:=by
 obtain⟨F,pr,ws,ws',r,h1,_,R,_⟩:=h;have:=R.len;rw[ze6 h1,Ae] at this;exact this.symm
noncomputable def isR:W ⊕ Nat->Bool
 |.inr _=>true
 |.inl _=>false
noncomputable def za4 (xs:List (W ⊕ Nat)):Cap:=xs.map λx=>match x with
 |.inr i=>some i
 |.inl _=>none
noncomputable def zar (en:En) (xs:List (W ⊕ Nat)):Bool:=xs.all λx=>match x with
 | .inr i=>match en[i]? with
  |some (#v[_,5])=>true
  |_=>false
 |.inl _=>true
def zad (m:List Bool) (Φ:Fn) (as:GAs):GE:=λen=>(as en).bind λp=>if decide (p.2.map isR=m)&&zar p.1 p.2&&zcj (za4 p.2) then (za8 p.1 p.2).bind λws=>(Φ ws).bind λq=>if q.1.length=m.length then some (zau (za4 p.2) p.1 (za6 m q.1),q.2) else none else none
theorem ArgRs.get {K:PySem.W.Frag}{F:Hp}{σ:St}:∀{xs:List (W ⊕ Nat)}{vs:List V}{k:Nat}{x:W ⊕ Nat},ArgRs K F σ xs vs->xs[k]?=some x->∃v,vs[k]?=some v/\ArgR K F σ x v
 |_,_,_,_,.nil,e=>by simp at e
 |_,_,0,_,.cons h _,e=>by simp at e;subst e;exact⟨_,rfl,h⟩
 | _,_,k+1,x,.cons _ r,e=>by
  obtain⟨v,h1,h2⟩:=ArgRs.get (k:=k) (x:=x) r (by simpa using e);exact⟨v,by simpa using h1,h2⟩
theorem ArgRs.length {K:PySem.W.Frag}{F:Hp}{σ:St}:∀{xs:List (W ⊕ Nat)}{vs:List V},ArgRs K F σ xs vs->xs.length=vs.length
 |_,_,.nil=>rfl
 |_,_,.cons _ r=>congrArg (· + 1) (ArgRs.length r)
theorem zmk {en:En}:∀{xs:List (W ⊕ Nat)}{ws:List W},za8 en xs=some ws->ws.length=xs.length
 |[],_,e=>by obtain rfl:=sI e;rfl
 | x::xs,_,e=>by
  obtain⟨w,_,e⟩:=bS e;obtain⟨ws,h,e⟩:=bS e;obtain rfl:=sI e;exact congrArg (· + 1) (zmk h)
theorem zm0 {en:En}:∀{xs:List (W ⊕ Nat)}{ws:List W}{k:Nat}{w:W},za8 en xs=some ws->ws[k]?=some w->∃x,xs[k]?=some x/\resA en x=some w
 |[],_,_,_,e,h=>by obtain rfl:=sI e;simp at h
 | x::xs,_,k,w,e,h=>by
  obtain⟨u,hu,e⟩:=bS e;obtain⟨us,h2,e⟩:=bS e;obtain rfl:=sI e;cases k with
  |zero=>simp at h;subst h;exact⟨x,rfl,hu⟩
  |succ k=>obtain⟨y,h3,h4⟩:=zm0 (k:=k) h2 (by simpa using h);exact⟨y,by simpa using h3,h4⟩
theorem ze7 {xs:List (W ⊕ Nat)}{k i:Nat}:(za4 xs)[k]?=some (some i)↔xs[k]?=some (.inr i):=by
 unfold za4;rw[Au];cases e:xs[k]? with
 |none=>simp
 |some x=>cases x<;>simp
section
variable {K:PySem.W.Frag}{F H:Hp}{pr:Prt}{en:En}{σ:St}
theorem Rel.back {cap:Cap}{F' H':Hp}{ce:En}{σc:St} (R:Rel K F pr en σ H) (s:Same F F') (Rc:Rel K F' (zcq pr cap en σ H) ce σc H') (slot:∀(i j:Nat) (v:V),zas cap i=some j->σc[j]?=some (some v)->σ[i]?=some (some v)) :
  Rel K F' pr (zau cap en ce) σ H'/\∀r v,Res K F' H' (zcq pr cap en σ H) ce σc r v->Res K F' H' pr (zau cap en ce) σ r v:=by
 have un:∀(i:Nat) (w:W),zas cap i=none->en[i]?=some (some (w,true))->∃(a:Addr) (vs:HO) (ws:W),w=ws/\σ[i]?=some (some (V.ref a))/\H a=some vs/\H' a=some vs/\F' a=none/\OwnR K F ws vs/\∀(j:Nat) (w':W),ce[j]?=some (some (w',true))->σc[j]?≠some (some (V.ref a)):=λi w c e=>by
  obtain⟨a,vs,ws,h1,h2,h3,h4,h5⟩:=R.own i w e;obtain⟨b1,b2,b3⟩:=Rc.prt a vs (.inr ⟨i,w,e,c,h2,h3⟩);exact⟨a,vs,ws,h1,h2,h3,b1,b2,h5,b3⟩
 have capt:∀(i j:Nat) (w:W),zas cap i=some j->ce[j]?=some (some (w,true))->∃(a:Addr) (vs:HO) (ws:W),w=ws/\σ[i]?=some (some (V.ref a))/\σc[j]?=some (some (V.ref a))/\H' a=some vs/\F' a=none/\OwnR K F' ws vs:=λi j w c e=>by
  obtain⟨a,vs,ws,h1,h2,h3,h4,h5⟩:=Rc.own j w e;exact⟨a,vs,ws,h1,slot i j _ c h2,h2,h3,h4,h5⟩
 refine⟨⟨by unfold zau;rw[List.length_mapIdx];exact R.len,Rc.sub,λi w e=>?_,λi w e=>?_,λi k a w w' e1 e2 q1 q2=>?_,λb o q=>?_,Rc.tb.go (λb ps e f=>⟨e,f⟩) (.refl F') λb ps e hh o z=>hh o (.inl z)⟩,λr v z=>?_⟩
 ·rcases backEn_get e with ⟨j,c,e⟩ | ⟨c,e⟩
  ·obtain ⟨v,h1,h2⟩:=Rc.val j w e
   exact⟨v,slot i j v c h1,h2⟩
  ·obtain ⟨v,h1,h2⟩:=R.val i w e
   exact⟨v,h1,h2.mono s⟩
 ·rcases backEn_get e with ⟨j,c,e⟩ | ⟨c,e⟩
  ·obtain ⟨a,vs,ws,h1,h2,_,h3,h4,h5⟩:=capt i j w c e
   exact⟨a,vs,ws,h1,h2,h3,h4,h5⟩
  ·obtain ⟨a,vs,ws,h1,h2,_,h3,h4,h5,_⟩:=un i w c e
   exact⟨a,vs,ws,h1,h2,h3,h4,h5.mono s⟩
 ·rcases backEn_get e1 with ⟨j,c,e1⟩ | ⟨c,e1⟩
  ·obtain ⟨a', _,_,_,h2,h3,_⟩:=capt i j w c e1
   rw[q1] at h2;cases h2;rcases backEn_get e2 with⟨l,c2,e2⟩|⟨c2,e2⟩
   ·obtain ⟨a', _,_,_,g2,g3,_⟩:=capt k l w' c2 e2
    rw[q2] at g2;cases g2;have:=Rc.inj j l a _ _ e1 e2 h3 g3;subst this;have x:=zbh c;rw[zbh c2] at x;cases x;rfl
   ·obtain ⟨a', _,_,_,g2,_,_,_,_,g3⟩:=un k w' c2 e2
    rw[q2] at g2;cases g2;exact absurd h3 (g3 j w e1)
  ·obtain ⟨a', _,_,_,h2,_,_,_,_,h3⟩:=un i w c e1
   rw[q1] at h2;cases h2;rcases backEn_get e2 with⟨l,c2,e2⟩|⟨c2,e2⟩
   ·obtain ⟨a', _,_,_,g2,g3,_⟩:=capt k l w' c2 e2
    rw[q2] at g2;cases g2;exact absurd g3 (h3 l w' e2)
   ·exact R.inj i k a _ _ e1 e2 q1 q2
 ·obtain ⟨b1,b2,b3⟩:=Rc.prt b o (.inl q)
  refine⟨b1,b2,λi w e=>?_⟩;rcases backEn_get e with⟨j,c,e⟩|⟨c,e⟩
  ·obtain ⟨a,_,_,_,h2,h3,_⟩:=capt i j w c e
   rw[h2];intro z;cases z;exact b3 j w e h3
  ·exact (R.prt b o q).2.2 i w e
 ·obtain ⟨w,fl⟩:=r
  cases fl with
  |false=>exact z
  | true =>
   obtain⟨a,vs,ws,q1,q2,q3,q4,q5,q6,q7⟩:=z;refine⟨a,vs,ws,q1,q2,q3,q4,q5,λi w' e=>?_,λb o p=>q7 b o (.inl p)⟩;rcases backEn_get e with⟨j,c,e⟩|⟨c,e⟩
   ·obtain ⟨a', _,_,_,h2,h3,_⟩:=capt i j w' c e
    rw[h2];intro z;cases z;exact q6 j w' e h3
   ·obtain ⟨a', vs', ws', h1,h2,h3,h4,h5⟩:=R.own i w' e
    rw[h2];intro z;cases z;exact q7 a vs' (.inr ⟨i,w',e,c,h2,h3⟩) rfl
theorem zve {m:List Bool}{Φ:Fn}{xs:List (W ⊕ Nat)}{e1 en':En}{F1 H1:Hp}{vs:List V}{r:W×Bool}{Q:VK}{E:XK} (R1:Rel K F1 pr e1 σ H1) (a1:ArgRs K F1 σ xs vs)
  (h:(if decide (xs.map isR=m)&&zar e1 xs&&zcj (za4 xs) then (za8 e1 xs).bind λws=>(Φ ws).bind λq=>if q.1.length=m.length then some (zau (za4 xs) e1 (za6 m q.1),q.2) else none else none)=some (en',r))
  (q:∀F' H' v,Same F1 F'->Rel K F' pr en' σ H'->Res K F' H' pr en' σ r v->Q v H'):spF K m Φ vs H1 Q E:=by
 split at h
 ·rename_i z
  rw[Ad,Ad] at z;obtain⟨⟨z1,z2⟩,nd⟩:=z;have hm:xs.map isR=m:=At z1;nofun;obtain⟨ws,h2,h⟩:=bS h;obtain⟨⟨ws',r'⟩,h3,h⟩:=bS h;ac_rfl;split at h
  ·rename_i hl
   cases h;have lx:ws.length=xs.length:=zmk h2;have lm:xs.length=m.length:=by rw[<-hm,Ae]
   have lv:=a1.length;have at' : ∀(k:Nat) (w:W) (b:Bool),(za6 m ws)[k]?=some (some (w,b))->∃x v,xs[k]?=some x/\isR x=b/\resA e1 x=some w/\vs[k]?=some v/\ArgR K F1 σ x v:=λk w b e=>by
    nofun;obtain⟨g1,g2⟩:=ze8.mp e;obtain⟨x,g3,g4⟩:=zm0 h2 g1;obtain⟨v,g5,g6⟩:=a1.get g3;ac_rfl;rw[<-hm,Au,g3] at g2;exact⟨x,v,g3,sI g2,g4,g5,g6⟩
   have ow:∀(k:Nat) (w:W),(za6 m ws)[k]?=some (some (w,true))->∃i v,xs[k]?=some (.inr i)/\e1[i]?=some (some (w,true))/\vs[k]?=some v/\σ[i]?=some (some v):=λk w e=>by
    nofun;obtain⟨x,v,g1,g2,g3,g4,g5⟩:=at' k w true e;ac_rfl;cases x with
    |inl _=>cases g2
    | inr i =>
     refine⟨i,v,g1,?_,g4,g5⟩;have o:=Bd.mp z2 _ (Bi g1);simp only at o;split at o
     ·rename_i w0 e0
      unfold resA at g3;simp only [e0] at g3;obtain rfl:=sI g3;exact e0
     ·cases o
   have RC:Rel K F1 (zcq pr (za4 xs) e1 σ H1) (za6 m ws) (vs.map some) H1:=by
    refine⟨by rw[ze6 #v[],Ae];omega,R1.sub,λk w e=>?_,λk w e=>?_,λk l a w w' g1 g2 g3 g4=>?_,λb o p=>?_,R1.tb.go (λb ps e f=>⟨e,f⟩) (.refl F1) λb ps e hh o z=>zja R1 e hh o z⟩
    ·refine aG λGg qG => ?_
     obtain⟨x,v,g1,g2,g3,g4,g5⟩:=at' k w false e;ac_rfl;cases x with
     |inr _=>cases g2
     |inl u=>obtain rfl:=sI g3;exact⟨v,by rw[Au,g4];rfl,g5⟩
    ·refine aG λGg qG => ?_
     obtain⟨i,v,g1,g2,g3,g4⟩:=ow k w e;obtain⟨a,us,wz,p1,p2,p3,p4,p5⟩:=R1.own i w g2;ac_rfl;rw[g4] at p2;cases p2;exact⟨a,us,wz,p1,by rw[Au,g3];rfl,p3,p4,p5⟩
    ·refine aG λGg qG => ?_
     obtain⟨i,v,k1,k2,k3,k4⟩:=ow k w g1;obtain⟨i',v',l1,l2,l3,l4⟩:=ow l w' g2;ac_rfl;rw[Au,k3] at g3;cases g3;rw[Au,l3] at g4;cases g4;have:=R1.inj i i' a _ _ k2 l2 k4 l4;subst this;have y:=zgf nd (ze7.mpr k1);rw[zgf nd (ze7.mpr l1)] at y;exact (sI y).symm
    ·rcases p with p | ⟨j,w,p1,p2,p3,p4⟩
     ·obtain ⟨b1,b2,b3⟩:=R1.prt b o p
      refine⟨b1,b2,λk w e=>?_⟩;nofun;obtain⟨i,v,g1,g2,g3,g4⟩:=ow k w e;ac_rfl;rw[Au,g3];intro y;cases y;exact b3 i w g2 g4
     ·refine aG λGg qG => ?_
      obtain⟨a,us,wz,p1',p2',p3',p4',p5'⟩:=R1.own j w p1;ac_rfl;rw[p3] at p2';cases p2';refine⟨p4,p4',λk w' e=>?_⟩;nofun;obtain⟨i,v,g1,g2,g3,g4⟩:=ow k w' e;ac_rfl;rw[Au,g3];intro y;cases y;have:=R1.inj i j _ _ _ g2 p1 g4 p3;subst this;exact zdn p2 k (ze7.mpr g1)
   refine ⟨F1,zcq pr (za4 xs) e1 σ H1,ws,ws',_,by omega,hl,RC,h3,λF2 H2 v s2 R2 y2=>?_⟩;obtain ⟨Ro,rz⟩:=R1.back s2 R2 λi j v c e=>by
    have c':=ze7.mp (zbh c);obtain⟨v',g1,g2⟩:=a1.get c';rw[Au,g1] at e;cases e;exact g2
   exact q F2 H2 v s2 Ro (rz _ _ y2)
  ·cases h
 ·cases h
theorem zvf {m:List Bool}{Φ:Fn}{as:GAs}{Q:VK}(h:tE K (zad m Φ as) σ H Q):z4e (spF K m Φ) [] E0 (tAs K as) σ H Q:=by
 nofun;obtain⟨F,pr,en,en',r,R,h,q⟩:=h;obtain⟨⟨e1,xs⟩,h1,h⟩:=bS h;ac_rfl;refine⟨F,pr,en,e1,xs,R,h1,λF1 H1 vs s1 R1 a1=>?_⟩;show spF K m Φ (vs++[]) H1 Q E0;rw[Ch];exact zve R1 a1 h λF' H' v s'=>q F' H' v (s1.trans s')
end
noncomputable def zcs:List Bool->List W->En->Option (List W)
 |[],[],_=>some []
 |true::m,_::ws,#v[w,5]::en=>(zcs m ws en).bind λr=>some (w::r)
 |false::m,w::ws,_::en=>(zcs m ws en).bind λr=>some (w::r)
 |_,_,_=>none
noncomputable def mpOf (m:List Bool):List Nat:=(List.range m.length).filter λk=>m[k]? == some true
def zae (m:List Bool) (n:Nat) (g:GS):Fn:=λws=>if ws.length=m.length then match g (za6 m ws++List.replicate (n-m.length) none) with
 |some (en,.ret r)=>(zcs m ws en).bind λws'=>some (ws',r)
 |some (en,.nx)=>(zcs m ws en).bind λws'=>some (ws',(.non,false))
 |_=>none else none
theorem zkb:∀{m:List Bool}{ws:List W}{en:En}{ws':List W},zcs m ws en=some ws'->ws'.length=m.length/\∀(k:Nat) (w:W),ws'[k]?=some w->(m[k]?=some true->en[k]?=some (some (w,true)))/\(m[k]?=some false->ws[k]?=some w)
 |[],[],_,_,e=>by obtain rfl:=sI e;exact⟨rfl,λk w h=>by simp at h⟩
 | true::m,_::ws,some (u,true)::en,_,e=>by
  obtain⟨r,h,e⟩:=bS (show (zcs m ws en).bind _=_ from e);obtain rfl:=sI e;obtain⟨h1,h2⟩:=zkb h;refine⟨congrArg (· + 1) h1,λk w hk=>?_⟩;cases k with
  |zero=>simp at hk;subst hk;exact⟨λ_=>rfl,λz=>by simp at z⟩
  | succ k =>
   have:=h2 k w (by simpa using hk);exact⟨λz=>by simpa using this.1 (by simpa using z),λz=>by simpa using this.2 (by simpa using z)⟩
 | false::m,u::ws,_::en,_,e=>by
  obtain⟨r,h,e⟩:=bS (show (zcs m ws en).bind _=_ from e);obtain rfl:=sI e;obtain⟨h1,h2⟩:=zkb h;refine⟨congrArg (· + 1) h1,λk w hk=>?_⟩;cases k with
  |zero=>simp at hk;subst hk;exact⟨λz=>by simp at z,λ_=>rfl⟩
  | succ k =>
   have:=h2 k w (by simpa using hk);exact⟨λz=>by simpa using this.1 (by simpa using z),λz=>by simpa using this.2 (by simpa using z)⟩
 |[],_::_,_,_,e=>by exact noSome e
 |true::_,[],_,_,e=>by exact noSome e
 |false::_,[],_,_,e=>by exact noSome e
 |true::_,_::_,[],_,e=>by exact noSome e
 |false::_,_::_,[],_,e=>by exact noSome e
 |true::_,_::_,none::_,_,e=>by exact noSome e
 |true::_,_::_,#v[_,6]::_,_,e=>by exact noSome e
theorem zut {K:PySem.W.Frag}{m:List Bool}{N:List Str}{g:GS}{vs:List V}{H:Hp}{Q:VK}{E:XK} (h:spF K m (zae m N.length g) vs H Q E):tS K (mpOf m) g { nx:=λ_ H'=>Q .non H',rt:=Q } (start N vs) H:=by
 have hv:=zxl h;refine aG λ_ qG=>?_;obtain ⟨F,pr,ws,ws',r,h1,h2,R,h3,q⟩:=h;refine qG ?_;clear qG;unfold zae at h3;rw [if_pos h1] at h3;have la:=ze6 h1;have pad:∀(i:Nat) (x:W×Bool),(za6 m ws++List.replicate (N.length-m.length) none)[i]?=some (some x)->(za6 m ws)[i]?=some (some x):=λi x e=>by
  by_cases hi:i<(za6 m ws).length
  ·rw[Dh hi] at e;exact e
  ·rw [Ew (by omega),List.getElem?_replicate] at e
   split at e<;>cases e
 have st:∀(i:Nat) (v:V),(vs.map some)[i]?=some (some v)->(start N vs)[i]?=some (some v):=λi v e=>by
  unfold start;rw[Dh (by have:=(Ak.mp e).1;exact this)];exact e
 have st' : ∀(i:Nat) (v:V),i<m.length->(start N vs)[i]?=some (some v)->(vs.map some)[i]?=some (some v):=λi v hi e=>by
  unfold start at e;rw[Dh (by rw[Ae];omega)] at e;exact e
 have R0:Rel K F pr (za6 m ws++List.replicate (N.length-m.length) none) (start N vs) H:=by
  refine⟨?_,R.sub,λi w e=>?_,λi w e=>?_,λi j a w w' e1 e2 q1 q2=>?_,λb o p=>?_,R.tb⟩
  ·unfold start
   rw[Bc,Bc,Eo,Eo,Ae,la,hv]
  ·obtain ⟨v,g1,g2⟩:=R.val i w (pad i _ e)
   exact⟨v,st i v g1,g2⟩
  ·refine aG λGg qG => ?_
   obtain⟨a,us,wz,g1,g2,g3⟩:=R.own i w (pad i _ e);ac_rfl;exact⟨a,us,wz,g1,st i _ g2,g3⟩
  ·have l1:i<m.length:=by have:=(Ak.mp (pad i _ e1)).1;omega
   have l2:j<m.length:=by have:=(Ak.mp (pad j _ e2)).1;omega
   exact R.inj i j a w w' (pad i _ e1) (pad j _ e2) (st' i _ l1 q1) (st' j _ l2 q2)
  ·obtain ⟨b1,b2,b3⟩:=R.prt b o p
   refine⟨b1,b2,λi w e z=>?_⟩;have l1:i<m.length:=by have:=(Ak.mp (pad i _ e)).1;omega
   exact b3 i w (pad i _ e) (st' i _ l1 z)
 have back:∀(en:En) (wz:List W) (F':Hp) (σ':St) (H':Hp),zcs m ws en=some wz->Same F F'->Rel K F' pr en σ' H'->Keep (mpOf m) (start N vs) σ' ->
   Rel K F' pr (za6 m wz) (vs.map some) H'/\∀r v,Res K F' H' pr en σ' r v->Res K F' H' pr (za6 m wz) (vs.map some) r v:=λen wz F' σ' H' ho s' R' k'=>by
  obtain ⟨o1,o2⟩:=zkb ho;have own:∀(k:Nat) (w:W),(za6 m wz)[k]?=some (some (w,true))->en[k]?=some (some (w,true))/\∀v,σ'[k]?=some (some v)↔(vs.map some)[k]?=some (some v):=λk w e=>by
   obtain⟨g1,g2⟩:=ze8.mp e;have lk:k<m.length:=(Ak.mp g2).1;have hk:k∈mpOf m:=Cs.mpr ⟨Bl.mpr lk,by rw[g2];simp⟩;refine⟨(o2 k w g1).1 g2,λv=>?_⟩;rw[k' k hk];exact⟨st' k v lk,st k v⟩
  refine⟨⟨by rw[ze6 o1,Ae,hv],R'.sub,λk w e=>?_,λk w e=>?_,λk l a w w' e1 e2 q1 q2=>?_,λb o p=>?_,R'.tb⟩,λr v z=>?_⟩
  ·refine aG λGg qG => ?_
   obtain⟨g1,g2⟩:=ze8.mp e;obtain⟨v,g3,g4⟩:=R.val k w (ze8.mpr ⟨(o2 k w g1).2 g2,g2⟩);ac_rfl;exact⟨v,g3,g4.mono s'⟩
  ·refine aG λGg qG => ?_
   obtain⟨g1,g2⟩:=own k w e;obtain⟨a,us,wz,p1,p2,p3⟩:=R'.own k w g1;ac_rfl;exact⟨a,us,wz,p1,(g2 _).mp p2,p3⟩
  ·obtain ⟨g1,g2⟩:=own k w e1
   obtain⟨g3,g4⟩:=own l w' e2;exact R'.inj k l a _ _ g1 g3 ((g2 _).mpr q1) ((g4 _).mpr q2)
  ·obtain ⟨b1,b2,b3⟩:=R'.prt b o p
   refine⟨b1,b2,λk w e z=>?_⟩;obtain⟨g1,g2⟩:=own k w e;exact b3 k w g1 ((g2 _).mpr z)
  ·obtain ⟨w0,fl⟩:=r
   cases fl with
   |false=>exact z
   | true =>
    nofun;obtain⟨a,us,wz',q1,q2,q3,q4,q5,q6,q7⟩:=z;ac_rfl;refine⟨a,us,wz',q1,q2,q3,q4,q5,λk w e y=>?_,q7⟩;obtain⟨g1,g2⟩:=own k w e;exact q6 k w g1 ((g2 _).mpr y)
 cases eg:g (za6 m ws++List.replicate (N.length-m.length) none) with
 |none=>simp only [eg] at h3;exact noSome h3
 | some p =>
  obtain⟨en,fl⟩:=p;refine⟨F,pr,_,en,fl,R0,eg,?_⟩;cases fl with
  |brk=>simp only [eg] at h3;exact noSome h3
  |cnt=>simp only [eg] at h3;exact noSome h3
  | nx =>
   simp only [eg] at h3;obtain⟨wz,ho,h3⟩:=bS h3;cases h3;intro F' σ' H' s' R' k';obtain⟨Rb,_⟩:=back en ws' F' σ' H' ho s' R' k';exact q F' H' .non s' Rb .non
  | ret r' =>
   simp only [eg] at h3;obtain⟨wz,ho,h3⟩:=bS h3;cases h3;intro F' σ' H' v s' R' k' z;obtain⟨Rb,rb⟩:=back en ws' F' σ' H' ho s' R' k';exact q F' H' v s' Rb (rb _ _ z)
end L2
set_option maxHeartbeats 4000000
namespace L2
open PySem PyProof.Rows
namespace Tim
noncomputable def gal:Bool->Keyed->Array Keyed->Nat->Nat->Nat->StateT SortSt Sem (Option Nat):=sortPriv% PySem.Builtin.gallop
noncomputable def mLo:Array Keyed->Array Keyed->StateT SortSt Sem (Array Keyed):=sortPriv% PySem.Builtin.mergeLo
noncomputable def mHi:Array Keyed->Array Keyed->StateT SortSt Sem (Array Keyed):=sortPriv% PySem.Builtin.mergeHi
theorem aG {P:Prop}(h:∀G:Prop,(P->G)->G):P:=h P id
structure Ord (lt:Keyed->Keyed->Bool) (bf le:Keyed->Keyed->Prop):Prop where
 tr:∀{x y z},le x y->le y z->le x z
 tot:∀x y,le x y\/le y x
 f1:∀{x y},bf x y->(lt y x=false↔le x y)
 f2:∀{x y},lt x y=true->le x y
 irr:∀x,lt x x=false
 ltr:∀{x y z},lt x y=true->lt y z=true->lt x z=true
 nt:∀{x z} (y),lt x z=true->lt x y=true\/lt y z=true
section
variable {lt:Keyed->Keyed->Bool}{bf le:Keyed->Keyed->Prop} (O:Ord lt bf le)
include O
theorem Ord.rf (x:Keyed):le x x:=(O.tot x x).elim id id
theorem Ord.f3 {x y:Keyed}(h:bf x y)(q:lt y x=true):¬ le x y:=λz=>by rw[(O.f1 h).mpr z] at q;cases q
end
noncomputable abbrev d0:Keyed:=(Value.none,Value.none)
def G (xs:Array Keyed) (i:Nat):Keyed:=(xs[i]?).getD d0
theorem z36 {xs:Array Keyed}{i:Nat}(h:i<xs.size):xs[i]?=some (G xs i):=by unfold G;rw[getElem?_pos xs i h];rfl
theorem z77 {xs a₀:Array Keyed}(p:xs.Perm a₀){i:Nat}(h:i<xs.size):G xs i∈a₀.toList:=by
 refine (Ez.mp p).mem_iff.mp ?_;unfold G;rw[getElem?_pos xs i h];simp
theorem zgz {xs ys:Array Keyed}{i j:Nat}(h:xs[i]?=ys[j]?):G xs i=G ys j:=by unfold G;rw[h]
noncomputable def Asks (prog:Program) (w:World) (A:Around) (E:Value->Shared->Prop) (s:Shared) (κ:SortKind) (a₀:Array Keyed) (lt:Keyed->Keyed->Bool):Prop :=
 ∀(x y:Keyed) (st:SortSt) (Q:Option Bool->SortSt->Prop),x∈a₀.toList->y∈a₀.toList->kindOf st=κ->Q (some (lt x y)) st->wpS (model prog w) A E s (lt' x y) Q st
section
variable {prog:Program}{w:World}{A:Around}{E:Value->Shared->Prop}{s:Shared}{κ:SortKind}{a₀:Array Keyed}{lt:Keyed->Keyed->Bool}{st:SortSt}
theorem zav {arr:Array Keyed}{i:Nat}{Q:Keyed->SortSt->Prop}(hi:i<arr.size)(h:Q (G arr i) st):wpS (model prog w) A E s (elem' arr i) Q st:=by
 rw[elem'_eq,z36 hi];exact Av h
theorem zjg {i j:Nat}{Q:Option Bool->SortSt->Prop} (C:Asks prog w A E s κ a₀ lt) (hk:kindOf st=κ) (p:(arrOf st).Perm a₀) (hi:i<a₀.size) (hj:j<a₀.size) (h:Q (some (lt (G (arrOf st) i) (G (arrOf st) j))) st) :
  wpS (model prog w) A E s (ltAt' i j) Q st:=by
 have e:=p.size_eq;rw[ltAt'_eq];refine Aq (Hj ?_);exact Aq (zav #v[] (Aq (zav #v[] (C _ _ _ _ (z77 p #v[]) (z77 p #v[]) hk h))))
theorem zsi {left:Bool}{key:Keyed}{arr:Array Keyed}{base n hint:Nat}{B:Nat->Bool}{Q:Option Nat->SortSt->Prop} (C:Asks prog w A E s κ a₀ lt) (hk:kindOf st=κ) (hkey:key∈a₀.toList)
  (hs:base+n<=arr.size) (hm:∀i,i<n->G arr (base+i)∈a₀.toList) (hB:∀i,i<n->B i=if left then lt (G arr (base+i)) key else !lt key (G arr (base+i)))
  (mono:∀i j,i<=j->j<n->B j=true->B i=true) (hh:hint<n)
  (h:∀k,k<=n->(∀i,i<k->B i=true)->(∀i,k<=i->i<n->B i=false)->Q (some k) st):wpS (model prog w) A E s (gal left key arr base n hint) Q st:=by
 have mono' : ∀i j,i<=j->j<n->B i=false->B j=false:=λi j h1 h2 h3=>by
  cases q:B j with
  |false=>rfl
  |true=>rw[mono i j h1 h2 q] at h3;cases h3
 let beyond:Nat->StateT SortSt Sem (Option Bool):=λi=>do
  let x <- elem' arr (base+i)
  if left=true then lt' x key else do
   let r <- lt' key x
   pure (r.map (!·))
 have hb:∀(i:Nat) (R:Option Bool->SortSt->Prop),i<n->R (some (B i)) st->wpS (model prog w) A E s (beyond i) R st:=λi R hi hR=>by
  refine Aq (zav #v[] ?_);have e:=hB i hi;cases left with
  | true =>
   rw[if_pos rfl] at e;rw[if_pos rfl];exact C _ _ _ _ (hm i hi) hkey hk (by rw[<-e];exact hR)
  | false =>
   rw[if_neg #v[0,9]] at e;rw[if_neg #v[0,9]];exact Aq (C _ _ _ _ hkey (hm i hi) hk (Av (by show R (some (!lt key (G arr (base+i)))) st;rw[<-e];exact hR)))
 show wpS (model prog w) A E s (do let o <- beyond hint;_) Q st;refine Aq (hb _ _ hh ?_);cases q:B hint with
 | true =>
  refine Aq (Dv (Cg (I:=λx c st'=>st'=st/\∃l o,c=(none,l,o)/\l<o/\x<o/\hint+l<n/\B (hint+l)=true)
   (Q:=λc st'=>st'=st/\∃l o,c=(none,l,o)/\l<o/\hint+l<n/\B (hint+l)=true/\(n-hint<=o\/hint+o<n/\B (hint+o)=false)) ?step ?fin ⟨rfl,0,1,rfl,by omega,by omega,by omega,q⟩) ?post)
  case fin =>
   rintro c st' ⟨rfl,l,o,rfl,a1,a2,a3,a4⟩;exact⟨rfl,l,o,rfl,a1,a3,a4,.inl #v[]⟩
  case step =>
   rintro x c st' _ hx ⟨rfl,l,o,rfl,a1,a2,a3,a4⟩;dsimp only;by_cases g:o ≥ n-hint
   ·rw [if_pos g]
    exact Av ⟨rfl,l,o,rfl,a1,a3,a4,.inl g⟩
   ·rw [if_neg g]
    refine Aq (hb _ _ #v[] ?_);cases q2:B (hint+o) with
    | true =>
     dsimp only;rw[if_neg #v[0,9]];exact Av ⟨rfl,o,2*o+1,rfl,by omega,by omega,by omega,q2⟩
    | false =>
     dsimp only;rw[if_pos #v[0,9]];exact Av ⟨rfl,l,o,rfl,a1,a3,a4,.inr ⟨by omega,q2⟩⟩
  case post =>
   rintro c st' ⟨rfl,l,o,rfl,a1,a3,a4,a5⟩;dsimp only;refine Aq (Dv (Cg (I:=λx c st''=>st''=st'/\∃lo hi,c=(none,lo,hi)/\lo<=hi/\hi<=n/\hi-lo<=n-x/\(∀i,i<lo->B i=true)/\∀i,hi<=i->i<n->B i=false)
    (Q:=λc st''=>st''=st'/\∃lo hi,c=(none,lo,hi)/\lo=hi/\hi<=n/\(∀i,i<lo->B i=true)/\∀i,hi<=i->i<n->B i=false) ?s3 ?f3 ⟨rfl,hint+l+1,hint+min o (n-hint),rfl,by omega,by omega,by omega,λi hi=>mono i _ #v[] a3 a4,λi h1 h2=>a5.elim (λa5=>by omega) λa5=>mono' _ i #v[] h2 a5.2⟩) ?p3)
   case f3 =>
    rintro c st'' ⟨rfl,lo,hi,rfl,a1,a2,a3,a4,a5⟩;exact⟨rfl,lo,hi,rfl,by omega,a2,a4,a5⟩
   case s3 =>
    rintro x c st'' _ hx ⟨rfl,lo,hi,rfl,a1,a2,a3,a4,a5⟩;dsimp only;by_cases g:lo ≥ hi
    ·rw [if_pos g]
     exact Av ⟨rfl,lo,hi,rfl,by omega,a2,a4,a5⟩
    ·rw [if_neg g]
     refine Aq (hb _ _ #v[] ?_);cases q:B (lo+(hi-lo)/2) with
     | true =>
      dsimp only;rw[if_pos rfl];refine Av ⟨rfl,lo+(hi-lo)/2+1,hi,rfl,by omega,a2,by omega,λi hi'=>?_,a5⟩;exact mono i _ #v[] #v[] q
     | false =>
      dsimp only;rw[if_neg #v[0,9]];refine Av ⟨rfl,lo,lo+(hi-lo)/2,rfl,by omega,by omega,by omega,a4,λi h1 h2=>?_⟩;exact mono' _ i h1 h2 q
   case p3 =>
    rintro c st'' ⟨rfl,lo,hi,rfl,rfl,a2,a4,a5⟩;exact Av (h lo a2 a4 a5)
 | false =>
  refine Aq (Dv (Cg (I:=λx c st'=>st'=st/\∃l o,c=(none,l,o)/\l<o/\x<o/\l<=hint/\B (hint-l)=false)
   (Q:=λc st'=>st'=st/\∃l o,c=(none,l,o)/\l<o/\l<=hint/\B (hint-l)=false/\(hint+1<=o\/o<=hint/\B (hint-o)=true)) ?step ?fin ⟨rfl,0,1,rfl,by omega,by omega,by omega,q⟩) ?post)
  case fin =>
   rintro c st' ⟨rfl,l,o,rfl,a1,a2,a3,a4⟩;exact⟨rfl,l,o,rfl,a1,a3,a4,.inl #v[]⟩
  case step =>
   rintro x c st' _ hx ⟨rfl,l,o,rfl,a1,a2,a3,a4⟩;dsimp only;by_cases g:o ≥ hint+1
   ·rw [if_pos g]
    exact Av ⟨rfl,l,o,rfl,a1,a3,a4,.inl g⟩
   ·rw [if_neg g]
    refine Aq (hb _ _ #v[] ?_);cases q2:B (hint-o) with
    | true =>
     dsimp only;rw[if_pos rfl];exact Av ⟨rfl,l,o,rfl,a1,a3,a4,.inr ⟨by omega,q2⟩⟩
    | false =>
     dsimp only;rw[if_neg #v[0,9]];exact Av ⟨rfl,o,2*o+1,rfl,by omega,by omega,by omega,q2⟩
  case post =>
   rintro c st' ⟨rfl,l,o,rfl,a1,a3,a4,a5⟩;dsimp only;refine Aq (Dv (Cg (I:=λx c st''=>st''=st'/\∃lo hi,c=(none,lo,hi)/\lo<=hi/\hi<=n/\hi-lo<=n-x/\(∀i,i<lo->B i=true)/\∀i,hi<=i->i<n->B i=false)
    (Q:=λc st''=>st''=st'/\∃lo hi,c=(none,lo,hi)/\lo=hi/\hi<=n/\(∀i,i<lo->B i=true)/\∀i,hi<=i->i<n->B i=false) ?s4 ?f4 ⟨rfl,hint+1-min o (hint+1),hint-l,rfl,by omega,by omega,by omega,λi hi=>a5.elim (λa5=>by omega) λa5=>mono i _ #v[] #v[] a5.2,λi h1 h2=>mono' _ i h1 h2 a4⟩) ?p4)
   case f4 =>
    rintro c st'' ⟨rfl,lo,hi,rfl,a1,a2,a3,a4,a5⟩;exact⟨rfl,lo,hi,rfl,by omega,a2,a4,a5⟩
   case s4 =>
    rintro x c st'' _ hx ⟨rfl,lo,hi,rfl,a1,a2,a3,a4,a5⟩;dsimp only;by_cases g:lo ≥ hi
    ·rw [if_pos g]
     exact Av ⟨rfl,lo,hi,rfl,by omega,a2,a4,a5⟩
    ·rw [if_neg g]
     refine Aq (hb _ _ #v[] ?_);cases q:B (lo+(hi-lo)/2) with
     | true =>
      dsimp only;rw[if_pos rfl];refine Av ⟨rfl,lo+(hi-lo)/2+1,hi,rfl,by omega,a2,by omega,λi hi'=>?_,a5⟩;exact mono i _ #v[] #v[] q
     | false =>
      dsimp only;rw[if_neg #v[0,9]];refine Av ⟨rfl,lo,lo+(hi-lo)/2,rfl,by omega,by omega,by omega,a4,λi h1 h2=>?_⟩;exact mono' _ i h1 h2 q
   case p4 =>
    rintro c st'' ⟨rfl,lo,hi,rfl,rfl,a2,a4,a5⟩;exact Av (h lo a2 a4 a5)
end
end Tim
namespace Tim
def Srt (le:Keyed->Keyed->Prop) (xs:Array Keyed) (lo hi:Nat):Prop:=∀i j,lo<=i->i<j->j<hi->le (G xs i) (G xs j)
def Cut (bf:Keyed->Keyed->Prop) (xs:Array Keyed) (c:Nat):Prop:=∀i j,i<c->c<=j->j<xs.size->bf (G xs i) (G xs j)
structure Re (xs ys:Array Keyed) (lo hi:Nat):Prop where
 perm:ys.Perm xs
 out:∀i,i<lo\/hi<=i->G ys i=G xs i
 inn:∀i,lo<=i->i<hi->∃j,lo<=j/\j<hi/\G ys i=G xs j
theorem Re.refl (xs:Array Keyed)(lo hi:Nat):Re xs xs lo hi:=⟨.refl _,λ_ _=>rfl,λi h1 h2=>⟨i,h1,h2,rfl⟩⟩
theorem Re.trans {xs ys zs:Array Keyed}{lo hi:Nat}(a:Re xs ys lo hi)(b:Re ys zs lo hi):Re xs zs lo hi :=
 ⟨b.perm.trans a.perm,λi h=>(b.out i h).trans (a.out i h),λi h1 h2=>by
  obtain⟨j,g1,g2,e⟩:=b.inn i h1 h2;obtain⟨k,k1,k2,e'⟩:=a.inn j g1 g2;exact⟨k,k1,k2,e.trans e'⟩⟩
theorem Re.mono {xs ys:Array Keyed}{lo hi lo' hi':Nat}(a:Re xs ys lo hi)(h1:lo'<=lo)(h2:hi<=hi'):Re xs ys lo' hi' :=
 ⟨a.perm,λi h=>a.out i #v[],λi g1 g2=>by
  by_cases c:lo<=i/\i<hi
  ·obtain⟨j,k1,k2,e⟩:=a.inn i c.1 c.2;exact⟨j,by omega,by omega,e⟩
  ·exact⟨i,g1,g2,a.out i #v[]⟩⟩
theorem Re.size {xs ys:Array Keyed}{lo hi:Nat}(a:Re xs ys lo hi):ys.size=xs.size:=a.perm.size_eq
theorem Cut.re {bf:Keyed->Keyed->Prop}{xs ys:Array Keyed}{lo hi c:Nat}(h:Cut bf xs c)(a:Re xs ys lo hi)(hs:hi<=xs.size)(hc:c<=lo\/hi<=c):Cut bf ys c:=λi j h1 h2 h3=>by
 have e:=a.size;have wi:∃i',i'<c/\G ys i=G xs i':=by
  by_cases k:lo<=i/\i<hi
  ·obtain⟨i', g1,g2,e⟩:=a.inn i k.1 k.2;exact⟨i',by omega,e⟩
  ·exact⟨i,h1,a.out i #v[]⟩
 have wj:∃j',c<=j'/\j'<xs.size/\G ys j=G xs j':=by
  by_cases k:lo<=j/\j<hi
  ·obtain⟨j', g1,g2,e⟩:=a.inn j k.1 k.2;exact⟨j',by omega,by omega,e⟩
  ·exact⟨j,h2,by omega,a.out j #v[]⟩
 obtain⟨i',e1,e2⟩:=wi;obtain⟨j',e3,e4,e5⟩:=wj;rw[e2,e5];exact h i' j' e1 e3 e4
theorem Srt.re {le:Keyed->Keyed->Prop}{xs ys:Array Keyed}{lo hi a b:Nat}(h:Srt le xs a b)(r:Re xs ys lo hi)(hc:b<=lo\/hi<=a):Srt le ys a b:=λi j h1 h2 h3=>by
 rw[r.out i #v[],r.out j #v[]];exact h i j h1 h2 h3
noncomputable def mir (xs:Array Keyed) (i j:Nat):Array Keyed:=mirror xs i j ((j-i)/2)
theorem zij {xs:Array Keyed}{i j:Nat}(hj:j<=xs.size)(k:Nat):G (mir xs i j) k=if i<=k/\k<j then G xs (i+j-1-k) else G xs k:=by
 have e:=getElem?_mirror_all (i:=i) hj k;unfold mir;by_cases h1:i<=k/\k<j
 ·rw[if_pos h1] at e ⊢;exact zgz e
 ·rw[if_neg h1] at e ⊢;exact zgz e
theorem Re.mir {xs:Array Keyed}{i j:Nat}(hj:j<=xs.size):Re xs (mir xs i j) i j :=
 ⟨mirror_perm _ _ _ _,λk h=>by rw[zij hj,if_neg #v[]],λk h1 h2=>⟨i+j-1-k,by omega,by omega,by rw[zij hj,if_pos ⟨h1,h2⟩]⟩⟩
theorem zzw {xs:Array Keyed}{src d:Nat}(hs:src<xs.size)(hd:d<=src)(k:Nat):G (bubble xs src d) k=if k=src-d then G xs src else if src-d<k/\k<=src then G xs (k-1) else G xs k:=by
 have e:=getElem?_bubble hs d hd k;by_cases h1:k=src-d
 ·rw[if_pos h1] at e ⊢;exact zgz e
 ·rw[if_neg h1] at e ⊢;by_cases h2:src-d<k/\k<=src
  ·rw[if_pos h2] at e ⊢;exact zgz e
  ·rw[if_neg h2] at e ⊢;exact zgz e
theorem Re.bub {xs:Array Keyed}{src d:Nat}(hs:src<xs.size)(hd:d<=src):Re xs (bubble xs src d) (src-d) (src+1) :=
 ⟨bubble_perm _ _ _,λk h=>by rw[zzw hs hd,if_neg #v[],if_neg #v[]],λk h1 h2=>by
  rw[zzw hs hd];by_cases c:k=src-d
  ·exact⟨src,by omega,by omega,by rw[if_pos c]⟩
  ·exact⟨k-1,by omega,by omega,by rw[if_neg c,if_pos ⟨by omega,by omega⟩]⟩⟩
structure SI (κ:SortKind) (a₀:Array Keyed) (pd:Array (Nat×Nat×Nat)) (st:SortSt):Prop where
 kind:kindOf st=κ
 failed:failedOf st=none
 perm:(arrOf st).Perm a₀
 pend:pendingOf st=pd
theorem SI.size {κ a₀ pd st}(h:SI κ a₀ pd st):(arrOf st).size=a₀.size:=h.perm.size_eq
theorem SI.set {κ a₀ pd st}(h:SI κ a₀ pd st){ys:Array Keyed}(p:ys.Perm (arrOf st)):SI κ a₀ pd (setArr st ys):=⟨h.kind,h.failed,p.trans h.perm,h.pend⟩
section
variable {prog:Program}{w:World}{A:Around}{E:Value->Shared->Prop}{s:Shared}{κ:SortKind}{a₀:Array Keyed}{lt:Keyed->Keyed->Bool}{bf le:Keyed->Keyed->Prop}{st:SortSt}{pd:Array (Nat × Nat × Nat)}
theorem z0b {i j:Nat}{Q:Unit->SortSt->Prop}(h:Q () (setArr st (mir (arrOf st) i j))):wpS (model prog w) A E s (reverseSlice' i j) Q st:=by
 rw[reverseSlice'_eq];exact wpS_modify h
theorem z99 {i j:Nat}{Q:Unit->SortSt->Prop}(h:Q () (setArr st (bubble (arrOf st) i (i-j)))):wpS (model prog w) A E s (moveDown' i j) Q st:=by
 rw[moveDown'_eq];exact wpS_modify h
theorem grp (O:Ord lt bf le) {xs ys:Array Keyed}{lo n c:Nat} (c1:lo<=c) (c2:c<lo+n) (hy:∀k,G ys k=if c<=k/\k<lo+n then G xs (c+(lo+n)-1-k) else G xs k)
  (d1:∀i j,lo<=i->i<j->j<c->le (G xs j) (G xs i)) (d2:∀i j,lo<=i->i<c->c<=j->j<lo+n->lt (G xs j) (G xs i)=true)
  (d3:∀i j,c<=i->i<j->j<lo+n->le (G xs i) (G xs j)) (d4:∀i j,c<=i->i<lo+n->c<=j->j<lo+n->lt (G xs i) (G xs j)=false) :
  (∀i j,lo<=i->i<j->j<lo+n->le (G ys j) (G ys i))/\∀y,lt y (G xs (lo+n-1))=true->∀i,lo<=i->i<lo+n->lt y (G ys i)=true:=by
 constructor
 ·intro i j h1 h2 h3;rw[hy i,hy j];by_cases a:j<c
  ·rw[if_neg #v[],if_neg #v[]];exact d1 i j h1 h2 a
  ·rw[if_pos ⟨by omega,h3⟩];by_cases b:i<c
   ·rw[if_neg #v[]];exact O.f2 (d2 i _ h1 b #v[] #v[])
   ·rw[if_pos ⟨by omega,by omega⟩];exact d3 _ _ #v[] #v[] #v[]
 ·intro y h i h1 h2;rw[hy i];by_cases b:c<=i/\i<lo+n
  ·rw[if_pos b];exact (O.nt _ h).resolve_right (λq=>by rw[d4 _ _ #v[] #v[] #v[] #v[]] at q;cases q)
  ·rw[if_neg b];exact O.ltr h (d2 i _ h1 #v[] #v[] #v[])
structure DI (lt:Keyed->Keyed->Bool) (le:Keyed->Keyed->Prop) (lo n neq:Nat) (xs:Array Keyed):Prop where
 nq:neq+1<=n
 d1:∀i j,lo<=i->i<j->j<lo+n-(neq+1)->le (G xs j) (G xs i)
 d2:∀i j,lo<=i->i<lo+n-(neq+1)->lo+n-(neq+1)<=j->j<lo+n->lt (G xs j) (G xs i)=true
 d3:∀i j,lo+n-(neq+1)<=i->i<j->j<lo+n->le (G xs i) (G xs j)
 d4:∀i j,lo+n-(neq+1)<=i->i<lo+n->lo+n-(neq+1)<=j->j<lo+n->lt (G xs i) (G xs j)=false
theorem DI.turn (O:Ord lt bf le) {lo n neq:Nat}{xs:Array Keyed} (d:DI lt le lo n neq xs) (hz:lo+n<=xs.size) :
  (∀i j,lo<=i->i<j->j<lo+n->le (G (mir xs (lo+n-(neq+1)) (lo+n)) j) (G (mir xs (lo+n-(neq+1)) (lo+n)) i))/\∀y,lt y (G xs (lo+n-1))=true->∀i,lo<=i->i<lo+n->lt y (G (mir xs (lo+n-(neq+1)) (lo+n)) i)=true :=
 grp O (by have:=d.nq;omega) (by have:=d.nq;omega) (λk=>zij hz k) d.d1 d.d2 d.d3 d.d4
theorem DI.turn0 (O:Ord lt bf le) {lo n:Nat}{xs:Array Keyed} (d:DI lt le lo n 0 xs) :
  (∀i j,lo<=i->i<j->j<lo+n->le (G xs j) (G xs i))/\∀y,lt y (G xs (lo+n-1))=true->∀i,lo<=i->i<lo+n->lt y (G xs i)=true :=
 grp (c:=lo+n-1) O (by have:=d.nq;omega) (by have:=d.nq;omega) (λk=>by
  split
  ·congr 1;omega
  ·rfl) d.d1 d.d2 d.d3 d.d4
theorem DI.next (O:Ord lt bf le){lo n:Nat}{xs:Array Keyed}(h:∀i j,lo<=i->i<j->j<lo+n->le (G xs j) (G xs i))(h2:∀i,lo<=i->i<lo+n->lt (G xs (lo+n)) (G xs i)=true):DI lt le lo (n+1) 0 xs :=
 ⟨by omega,λi j a b c=>h i j a b #v[],λi j a b c d=>by
  have e:j=lo+n:=by omega
  rw[e];exact h2 i a #v[],λi j a b c=>by omega,λi j a b c d=>by
  have e:j=i:=by omega
  rw[e];exact O.irr _⟩
theorem DI.like (O:Ord lt bf le) {lo n neq:Nat}{xs:Array Keyed} (d:DI lt le lo n neq xs) (hb:∀i,lo<=i->i<lo+n->bf (G xs i) (G xs (lo+n))) (q1:lt (G xs (lo+n)) (G xs (lo+n-1))=false) (q2:lt (G xs (lo+n-1)) (G xs (lo+n))=false):DI lt le lo (n+1) (neq+1) xs:=by
 have nq:=d.nq;have ec:lo+(n+1)-(neq+1+1)=lo+n-(neq+1):=by omega
 have t1:∀i,lo+n-(neq+1)<=i->i<lo+n->lt (G xs (lo+n)) (G xs i)=false:=λi a b=>by
  cases q:lt (G xs (lo+n)) (G xs i) with
  |false=>rfl
  | true =>
   rcases O.nt (G xs (lo+n-1)) q with z|z
   ·rw[q1] at z;cases z
   ·rw[d.d4 _ _ #v[] #v[] a b] at z;cases z
 have t2:∀i,lo+n-(neq+1)<=i->i<lo+n->lt (G xs i) (G xs (lo+n))=false:=λi a b=>by
  cases q:lt (G xs i) (G xs (lo+n)) with
  |false=>rfl
  | true =>
   rcases O.nt (G xs (lo+n-1)) q with z|z
   ·rw[d.d4 _ _ a b #v[] #v[]] at z;cases z
   ·rw[q2] at z;cases z
 refine⟨by omega,?_,?_,?_,?_⟩<;>rw[ec]
 ·exact d.d1
 ·intro i j a b c e
  by_cases k:j<lo+n
  ·exact d.d2 i j a b c k
  ·have ej:j=lo+n:=by omega
   rw[ej];exact (O.nt (G xs (lo+n)) (d.d2 i (lo+n-1) a b #v[] #v[])).resolve_left (λz=>by rw[q2] at z;cases z)
 ·intro i j a b c
  by_cases k:j<lo+n
  ·exact d.d3 i j a b k
  ·have ej:j=lo+n:=by omega
   rw[ej];exact (O.f1 (hb i #v[] #v[])).mp (t1 i a #v[])
 ·intro i j a b c e
  by_cases k:j<lo+n
  ·by_cases k2:i<lo+n
   ·exact d.d4 i j a k2 c k
   ·have ei:i=lo+n:=by omega
    rw[ei];exact t1 j c k
  ·have ej:j=lo+n:=by omega
   rw[ej];by_cases k2:i<lo+n
   ·exact t2 i a k2
   ·have ei:i=lo+n:=by omega
    rw[ei];exact O.irr _
theorem ya0 {α:Type}{c:Prop} [Decidable c] {x y:StateT SortSt Sem α}{Q:α->SortSt->Prop}{T:SortSt->Prop}(h:∀s3,T s3->wpS (model prog w) A E s y Q s3)(h0:¬ c->T st)(h1:c->(∀s3,T s3->wpS (model prog w) A E s y Q s3)->wpS (model prog w) A E s x Q st):wpS (model prog w) A E s (if c then x else y) Q st:=by
 by_cases k:c
 ·rw[if_pos k];exact h1 k h
 ·rw[if_neg k];exact h st (h0 k)
theorem z58 (C:Asks prog w A E s κ a₀ lt) (O:Ord lt bf le) {lo nrem:Nat}{Q:Option Nat->SortSt->Prop} (I:SI κ a₀ pd st) (hsz:lo+nrem<=a₀.size) (h1:1<=nrem) (hc:∀c,lo<=c->Cut bf (arrOf st) c)
  (h:∀m st',SI κ a₀ pd st'->1<=m->m<=nrem->Re (arrOf st) (arrOf st') lo (lo+m)->Srt le (arrOf st') lo (lo+m)->Q (some m) st'):wpS (model prog w) A E s (countRun' lo nrem) Q st:=by
 have sz:=I.size;rw [countRun'_eq];refine Aq (Dv (Cg (I:=λx c s2=>s2=st/\c=(none,x)/\1<=x/\x<=nrem/\Srt le (arrOf st) lo (lo+x))
  (Q:=λc s2=>s2=st/\∃k,c=(none,k)/\1<=k/\k<=nrem/\Srt le (arrOf st) lo (lo+k)/\(k=nrem\/lt (G (arrOf st) (lo+k)) (G (arrOf st) (lo+k-1))=true)) ?as1 ?af1 ⟨rfl,rfl,Af _,h1,(λi j g1 g2 g3=>by omega)⟩) ?ap1)
 case af1 =>
  rintro c s2 ⟨e2,rfl,a0,a1,a2⟩;rw[show max 1 nrem=nrem by omega] at *
  exact⟨e2,nrem,rfl,by omega,Af _,a2,.inl rfl⟩
 case as1 =>
  rintro x c s2 b1 b2 ⟨e2,rfl,a0,a1,a2⟩;subst e2;dsimp only;refine Aq (zjg C I.kind I.perm #v[] #v[] ?_);cases q:lt (G (arrOf s2) (lo+x)) (G (arrOf s2) (lo+x-1)) with
  | true =>
   dsimp only;rw[if_pos rfl];exact Av ⟨rfl,x,rfl,a0,a1,a2,.inr q⟩
  | false =>
   dsimp only;rw[if_neg #v[0,9]];refine Av ⟨rfl,rfl,by omega,by omega,λi j h1 h2 h3=>?_⟩;by_cases hj:j<lo+x
   ·exact a2 i j h1 h2 hj
   ·have ej:j=lo+x:=by omega
    subst ej;have b:le (G (arrOf s2) (lo+x-1)) (G (arrOf s2) (lo+x)):=(O.f1 (hc (lo+x) #v[] (lo+x-1) (lo+x) #v[] (Af _) (by rw[I.size];omega))).mp q;by_cases hi:i=lo+x-1
    ·rw[hi];exact b
    ·exact O.tr (a2 i (lo+x-1) h1 #v[] #v[]) b
 case ap1 =>
  rintro c s2 ⟨e2,n,rfl,a0,a1,a2,a3⟩;subst e2;dsimp only;by_cases en:n=nrem
  ·rw [if_pos (by simpa using en)]
   exact Av (h n s2 I a0 a1 (.refl _ _ _) a2)
  ·rw [if_neg (by simpa using en)]
   have q3:=a3.resolve_left en;refine ya0 (T:=λs3=>SI κ a₀ pd s3/\Re (arrOf s2) (arrOf s3) lo (lo+(n+1))/\DI lt le lo (n+1) 0 (arrOf s3)) (λs3 ⟨I3,R3,D3⟩=>?main) (λn1=>?no) (λn1 H=>?yes)
   case yes =>
    refine Aq (zjg C I.kind I.perm #v[] #v[] ?_);cases q:lt (G (arrOf s2) lo) (G (arrOf s2) (lo+n-1)) with
    | true =>
     dsimp only;rw[if_pos rfl];exact Av (h n s2 I a0 a1 (.refl _ _ _) a2)
    | false =>
     dsimp only;rw [if_neg (by decide)];refine Aq (z0b ?_);have lk:∀i,lo<=i->i<lo+n->lt (G (arrOf s2) (lo+n)) (G (arrOf s2) i)=true:=λi g1 g2=>by
      have z1:lt (G (arrOf s2) i) (G (arrOf s2) (lo+n-1))=false:=by
       cases z:lt (G (arrOf s2) i) (G (arrOf s2) (lo+n-1)) with
       |false=>rfl
       | true =>
        rcases O.nt (G (arrOf s2) lo) z with y|y
        ·by_cases ei:i=lo
         ·rw[ei,O.irr] at y;cases y
         ·have:=O.f3 (hc i g1 lo i (by omega) (Af _) (by omega)) y
          exact absurd (a2 lo i (Af _) #v[] g2) this
        ·rw[q] at y;cases y
      exact (O.nt _ q3).resolve_right (λy=>by rw[z1] at y;cases y)
     obtain ⟨s3,e3,I3,R3,D3⟩ : ∃s3,s3=(setArr s2 (mir (arrOf s2) lo (lo+n)))/\SI κ a₀ pd s3/\Re (arrOf s2) (arrOf s3) lo (lo+(n+1))/\DI lt le lo (n+1) 0 (arrOf s3):=⟨_,rfl,I.set (Re.mir (by omega)).perm,(Re.mir (by omega)).mono (Af _) (by omega),DI.next O (λi j g1 g2 g3=>by
           show le (G (mir (arrOf s2) lo (lo+n)) j) (G (mir (arrOf s2) lo (lo+n)) i);rw[zij #v[],zij #v[],if_pos ⟨by omega,by omega⟩,if_pos ⟨by omega,by omega⟩];exact a2 _ _ #v[] #v[] #v[]) (λi g1 g2=>by
           show lt (G (mir (arrOf s2) lo (lo+n)) (lo+n)) (G (mir (arrOf s2) lo (lo+n)) i)=true;rw[zij #v[],zij #v[],if_neg #v[],if_pos ⟨by omega,by omega⟩];exact lk _ #v[] #v[])⟩
     rw[<-e3];exact H s3 ⟨I3,R3,D3⟩
   case no =>
    have en1:n=1:=by omega
    subst en1;exact ⟨I,.refl _ _ _,DI.next O (λi j g1 g2 g3=>by omega) (λi g1 g2=>by
     have ei:i=lo:=by omega
     rw[ei];exact q3)⟩
   case main =>
    refine Aq (wpS_lift (Dc ⟨rfl,?_⟩));refine Aq (Dv (Cg (I:=λx c s4=>∃neq,c=(none,x,neq)/\n+1<=x/\x<=nrem/\SI κ a₀ pd s4/\Re (arrOf s2) (arrOf s4) lo (lo+x)/\DI lt le lo x neq (arrOf s4))
     (Q:=λc s4=>∃m neq,c=(none,m,neq)/\n+1<=m/\m<=nrem/\SI κ a₀ pd s4/\Re (arrOf s2) (arrOf s4) lo (lo+m)/\DI lt le lo m neq (arrOf s4)) ?dsd1 ?dfd1 ⟨0,rfl,Af _,by omega,I3,R3,D3⟩) ?dpd1)
    case dfd1 =>
     rintro c s4 ⟨neq,rfl,b0,b1,b2,b3,b4⟩;have e:max (n+1) nrem=nrem:=by omega
     rw[e] at b0 b1 b3 b4 ⊢;exact⟨nrem,neq,rfl,b0,b1,b2,b3,b4⟩
    case dsd1 =>
     rintro x c s4 g1 g2 ⟨neq,rfl,b0,b1,I4,R4,D4⟩;dsimp only;have z4:=I4.size;have cut4:∀c,lo+x<=c->Cut bf (arrOf s4) c:=λc hc'=>(hc c #v[]).re R4 #v[] (.inr hc');refine Aq (zjg C I4.kind I4.perm #v[] #v[] ?_);cases q5:lt (G (arrOf s4) (lo+x)) (G (arrOf s4) (lo+x-1)) with
     | true =>
      dsimp only;rw[if_pos rfl];by_cases nq:neq > 0
      ·rw [if_pos nq]
       refine Aq (z0b (Av ⟨0,rfl,by omega,by omega,I4.set (Re.mir #v[]).perm,(R4.trans ((Re.mir #v[]).mono (by have:=D4.nq;omega) (Af _))).mono (Af _) #v[],?_⟩));obtain⟨t1,t2⟩:=D4.turn O #v[];refine DI.next O t1 λi k1 k2=>?_;have:=t2 _ q5 i k1 k2;show lt (G (mir (arrOf s4) (lo+x-(neq+1)) (lo+x)) (lo+x)) _=true;rw[zij #v[],if_neg #v[]];exact this
      ·rw [if_neg nq]
       have e0:neq=0:=by omega
       subst e0;obtain⟨t1,t2⟩:=D4.turn0 O;exact Av ⟨0,rfl,by omega,by omega,I4,R4.mono (Af _) #v[],DI.next O t1 λi k1 k2=>t2 _ q5 i k1 k2⟩
     | false =>
      dsimp only;rw[if_neg #v[0,9]];refine Aq (zjg C I4.kind I4.perm #v[] #v[] ?_);cases q6:lt (G (arrOf s4) (lo+x-1)) (G (arrOf s4) (lo+x)) with
      | true =>
       dsimp only;rw[if_pos rfl];exact Av ⟨x,neq,rfl,b0,b1,I4,R4,D4⟩
      | false =>
       dsimp only;rw[if_neg #v[0,9]];exact Av ⟨neq+1,rfl,by omega,by omega,I4,R4.mono (Af _) #v[],D4.like O (λi k1 k2=>cut4 (lo+x) (Af _) i (lo+x) k2 (Af _) #v[]) q5 q6⟩
    case dpd1 =>
     rintro c s4 ⟨n,neq,rfl,b0,n2,I4,R4,D4⟩;dsimp only;have z4:=I4.size;refine ya0 (T:=λs6=>SI κ a₀ pd s6/\Re (arrOf s2) (arrOf s6) lo (lo+n)/\∀i j,lo<=i->i<j->j<lo+n->le (G (arrOf s6) j) (G (arrOf s6) i)) (λs6 ⟨I6,R6,t1⟩=>?tl) (λnq=>?tn) (λnq H=>?ty)
     case ty =>
      refine Aq (z0b ?_);have I6:SI κ a₀ pd (setArr s4 (mir (arrOf s4) (lo+n-(neq+1)) (lo+n))):=I4.set (Re.mir #v[]).perm;have R6:Re (arrOf s2) (mir (arrOf s4) (lo+n-(neq+1)) (lo+n)) lo (lo+n):=R4.trans ((Re.mir #v[]).mono (by have:=D4.nq;omega) (Af _));have t1:=(D4.turn O #v[]).1;exact H _ ⟨I6,R6,t1⟩
     case tn =>
      have e0:neq=0:=by omega
      subst e0;exact⟨I4,R4,(D4.turn0 O).1⟩
     case tl =>
      have z6:=I6.size;refine Aq (z0b ?_);have I5:SI κ a₀ pd (setArr s6 (mir (arrOf s6) lo (lo+n))):=I6.set (Re.mir (by omega)).perm;have R5:Re (arrOf s2) (mir (arrOf s6) lo (lo+n)) lo (lo+n):=R6.trans (Re.mir (by omega));have z5:Srt le (mir (arrOf s6) lo (lo+n)) lo (lo+n):=λi j h1 h2 h3=>by
       rw[zij #v[],zij #v[],if_pos ⟨by omega,by omega⟩,if_pos ⟨by omega,by omega⟩];exact t1 _ _ #v[] #v[] #v[]
      have ea:mir (arrOf s6) lo (lo+n)=arrOf (setArr s6 (mir (arrOf s6) lo (lo+n))):=rfl
      revert I5 R5 z5
      rw [ea];generalize (setArr s6 (mir (arrOf s6) lo (lo+n)))=s5;intro I5 R5 z5;have hz5:=I5.size;have hc5:∀c,lo+n<=c->Cut bf (arrOf s5) c:=λc hc'=>(hc c (by omega)).re R5 (by omega) (.inr hc');refine Aq (Dv (Cg (I:=λx c s2=>s2=s5/\c=(none,x)/\n<=x/\x<=nrem/\Srt le (arrOf s5) lo (lo+x))
       (Q:=λc s2=>s2=s5/\∃k,c=(none,k)/\n<=k/\k<=nrem/\Srt le (arrOf s5) lo (lo+k)/\(k=nrem\/lt (G (arrOf s5) (lo+k)) (G (arrOf s5) (lo+k-1))=true)) ?asd11 ?afd11 ⟨rfl,rfl,Af _,n2,z5⟩) ?apd11)
      case afd11 =>
       rintro c s2 ⟨e2,rfl,y0,y1,a2⟩;rw[show max n nrem=nrem by omega] at *
       exact⟨e2,nrem,rfl,by omega,Af _,a2,.inl rfl⟩
      case asd11 =>
       rintro x c s2 b1 b2 ⟨e2,rfl,y0,y1,a2⟩;subst e2;dsimp only;refine Aq (zjg C I5.kind I5.perm #v[] #v[] ?_);cases q:lt (G (arrOf s2) (lo+x)) (G (arrOf s2) (lo+x-1)) with
       | true =>
        dsimp only;rw[if_pos rfl];exact Av ⟨rfl,x,rfl,y0,y1,a2,.inr q⟩
       | false =>
        dsimp only;rw[if_neg #v[0,9]];refine Av ⟨rfl,rfl,by omega,by omega,λi j h1 h2 h3=>?_⟩;by_cases hj:j<lo+x
        ·exact a2 i j h1 h2 hj
        ·have ej:j=lo+x:=by omega
         subst ej;have b:le (G (arrOf s2) (lo+x-1)) (G (arrOf s2) (lo+x)):=(O.f1 (hc5 (lo+x) #v[] (lo+x-1) (lo+x) #v[] (Af _) (by rw[I5.size];omega))).mp q;by_cases hi:i=lo+x-1
         ·rw[hi];exact b
         ·exact O.tr (a2 i (lo+x-1) h1 #v[] #v[]) b
      case apd11 =>
       rintro c s7 ⟨e7,m,rfl,y0,y1,y2,y3⟩;subst e7;exact Av (h m s7 I5 #v[] y1 (R5.mono (Af _) #v[]) y2)
end
end Tim
namespace Tim
section
variable {prog:Program}{w:World}{A:Around}{E:Value->Shared->Prop}{s:Shared}{κ:SortKind}{a₀:Array Keyed}{lt:Keyed->Keyed->Bool}{bf le:Keyed->Keyed->Prop}{st:SortSt}{pd:Array (Nat × Nat × Nat)}
theorem ydc (C:Asks prog w A E s κ a₀ lt) (O:Ord lt bf le) {lo n ok:Nat}{Q:Bool->SortSt->Prop} (I:SI κ a₀ pd st) (hsz:lo+n<=a₀.size) (hok:ok<=n) (h1:1<=ok) (hs:Srt le (arrOf st) lo (lo+ok)) (hc:∀c,lo+ok<=c->Cut bf (arrOf st) c)
  (h:∀st',SI κ a₀ pd st'->Re (arrOf st) (arrOf st') lo (lo+n)->Srt le (arrOf st') lo (lo+n)->Q true st'):wpS (model prog w) A E s (binarySort' lo n ok) Q st:=by
 have sz:=I.size;rw[binarySort'_eq];have em:max ok 1=ok:=by omega
 rw [em];refine Aq (Dv (Cg (I:=λk c s2=>c=(none,())/\ok<=k/\k<=n/\SI κ a₀ pd s2/\Re (arrOf st) (arrOf s2) lo (lo+k)/\Srt le (arrOf s2) lo (lo+k))
  (Q:=λc s2=>c=(none,())/\SI κ a₀ pd s2/\Re (arrOf st) (arrOf s2) lo (lo+n)/\Srt le (arrOf s2) lo (lo+n)) ?step ?fin ⟨rfl,Af _,hok,I,.refl _ _ _,hs⟩) ?post)
 case post =>
  rintro c s2 ⟨rfl,I2,R2,S2⟩;exact Av (h s2 I2 R2 S2)
 case fin =>
  rintro c s2 ⟨hc,b0,b1,I2,R2,S2⟩;have e:max ok n=n:=by omega
  rw[e] at R2 S2;exact⟨hc,I2,R2,S2⟩
 case step =>
  rintro k c s2 g1 g2 ⟨rfl,b0,b1,I2,R2,S2⟩;have z2:=I2.size;have ct:Cut bf (arrOf s2) (lo+k):=(hc (lo+k) (by omega)).re R2 (by omega) (.inr (Af _));refine Aq (Dv (Cg (I:=λx c s3=>s3=s2/\∃l r,c=(none,l,r)/\l<=r/\r<=k/\r-l<=k-x/\(∀i,i<l->le (G (arrOf s2) (lo+i)) (G (arrOf s2) (lo+k)))/\∀i,r<=i->i<k->le (G (arrOf s2) (lo+k)) (G (arrOf s2) (lo+i)))
   (Q:=λc s3=>s3=s2/\∃l,c=(none,l,l)/\l<=k/\(∀i,i<l->le (G (arrOf s2) (lo+i)) (G (arrOf s2) (lo+k)))/\∀i,l<=i->i<k->le (G (arrOf s2) (lo+k)) (G (arrOf s2) (lo+i))) ?istep ?ifin ⟨rfl,0,k,rfl,by omega,by omega,by omega,λi hi=>by omega,λi k1 k2=>by omega⟩) ?ipost)
  case ifin =>
   rintro c s3 ⟨e3,l,r,rfl,c1,c2,c3,c4,c5⟩;have e:r=l:=by omega
   subst e;exact⟨e3,r,rfl,c2,c4,c5⟩
  case istep =>
   rintro x c s3 _ hx ⟨e3,l,r,rfl,c1,c2,c3,c4,c5⟩;subst e3;dsimp only;by_cases g:l ≥ r
   ·rw [if_pos g]
    have e:r=l:=by omega
    subst e;exact Av ⟨rfl,r,rfl,c2,c4,c5⟩
   ·rw [if_neg g]
    refine Aq (zjg C I2.kind I2.perm #v[] #v[] ?_);have b:=ct (lo+(l+r)/2) (lo+k) #v[] (Af _) #v[];cases q:lt (G (arrOf s3) (lo+k)) (G (arrOf s3) (lo+(l+r)/2)) with
    | true =>
     dsimp only;rw[if_pos rfl];refine Av ⟨rfl,l,(l+r)/2,rfl,by omega,by omega,by omega,c4,λi k1 k2=>?_⟩;by_cases e:i=(l+r)/2
     ·rw[e];exact O.f2 q
     ·exact O.tr (O.f2 q) (S2 _ _ #v[] #v[] #v[])
    | false =>
     dsimp only;rw[if_neg #v[0,9]];refine Av ⟨rfl,(l+r)/2+1,r,rfl,by omega,by omega,by omega,λi k1=>?_,c5⟩;by_cases e:i=(l+r)/2
     ·rw[e];exact (O.f1 b).mp q
     ·exact O.tr (S2 _ _ #v[] #v[] #v[]) ((O.f1 b).mp q)
  case ipost =>
   rintro c s3 ⟨e3,l,rfl,c2,c4,c5⟩;subst e3;refine Aq (z99 (Av ⟨rfl,by omega,by omega,I2.set (bubble_perm _ _ _),?_,?_⟩))
   ·refine (R2.mono (Af _) #v[]).trans ((Re.bub #v[] #v[]).mono #v[] #v[])
   ·intro i j h1 h2 h3
    show le (G (bubble (arrOf s3) (lo+k) (lo+k-(lo+l))) i) (G (bubble (arrOf s3) (lo+k) (lo+k-(lo+l))) j);have el:lo+k-(lo+k-(lo+l))=lo+l:=by omega
    rw [zzw (by omega) (by omega),zzw (by omega) (by omega),el];have p4:∀i,lo<=i->i<lo+l->le (G (arrOf s3) i) (G (arrOf s3) (lo+k)):=λi k1 k2=>by
     have:=c4 (i-lo) #v[];rw[show lo+(i-lo)=i by omega] at this;exact this
    have p5:∀i,lo+l<=i->i<lo+k->le (G (arrOf s3) (lo+k)) (G (arrOf s3) i):=λi k1 k2=>by
     have:=c5 (i-lo) #v[] #v[];rw[show lo+(i-lo)=i by omega] at this;exact this
    by_cases a1:i=lo+l
    ·rw [if_pos a1,if_neg (by omega),if_pos ⟨by omega,by omega⟩]
     exact p5 _ #v[] #v[]
    ·rw [if_neg a1]
     by_cases a2:j=lo+l
     ·rw [if_neg (by omega),if_pos a2]
      exact p4 _ h1 #v[]
     ·rw [if_neg a2]
      by_cases a3:lo+l<i/\i<=lo+k
      ·rw [if_pos a3,if_pos ⟨by omega,by omega⟩]
       exact S2 _ _ #v[] #v[] #v[]
      ·rw [if_neg a3]
       by_cases a4:lo+l<j/\j<=lo+k
       ·rw [if_pos a4]
        by_cases a5:i=j-1
        ·rw[a5];exact O.rf _
        ·exact S2 _ _ #v[] #v[] #v[]
       ·rw [if_neg a4]
        exact S2 _ _ #v[] #v[] #v[]
end
end Tim
namespace Tim
theorem G_list {a:Array Keyed}{i:Nat}(h:i<a.size):a.toList[i]?=some (G a i):=by rw[Gb];exact z36 h
theorem take_G {a:Array Keyed}{i:Nat}(h:i<a.size):a.toList.take (i+1)=a.toList.take i++[G a i]:=by rw[Dy,G_list h];rfl
theorem zt5 {a:Array Keyed}{i:Nat}(h:i<a.size):a.toList.drop i=G a i::a.toList.drop (i+1):=by
 have h':i<a.toList.length:=by simpa using h
 rw[Cd h'];have e:=G_list h;rw[Ac h'] at e;rw[sI e]
theorem mem_drop {a:Array Keyed}{n:Nat}{x:Keyed}(h:x∈a.toList.drop n):∃i,n<=i/\i<a.size/\x=G a i:=by
 obtain⟨i,hi,e⟩:=Ck.mp h;have h1:n+i<a.toList.length:=by rw[Gc] at hi;omega
 have h2:n+i<a.size:=by simpa using h1
 refine⟨n+i,by omega,h2,?_⟩;rw[List.getElem_drop] at e;have g:=G_list h2;rw[Ac h1] at g;rw[<-e];exact sI g
theorem mem_take {a:Array Keyed}{n:Nat}{x:Keyed}(h:x∈a.toList.take n):∃i,i<n/\i<a.size/\x=G a i:=by
 obtain⟨i,hi,e⟩:=Ck.mp h;rw[Ee] at hi;have h1:i<a.toList.length:=by omega
 have h2:i<a.size:=by simpa using h1
 refine⟨i,by omega,h2,?_⟩;rw[List.getElem_take] at e;have g:=G_list h2;rw[Ac h1] at g;rw[<-e];exact sI g
theorem srt_list {le:Keyed->Keyed->Prop}{a:Array Keyed}(h:Srt le a 0 a.size):a.toList.Pairwise le:=by
 rw[List.pairwise_iff_getElem];intro i j hi hj hij;have hi':i<a.size:=by simpa using hi
 have hj':j<a.size:=by simpa using hj
 have e1:=G_list hi';have e2:=G_list hj';rw[Ac hi] at e1;rw[Ac hj] at e2;rw[sI e1,sI e2];exact h i j (Bm _) hij hj'
theorem zda (a:Array Keyed)(i j:Nat):(a.extract i j).toList=(a.toList.drop i).take (j-i):=by rw[Array.toList_extract]
theorem zk2 (a:Array Keyed)(i:Nat):(a.extract i a.size).toList=a.toList.drop i:=by
 rw[zda,List.take_of_length_le];rw[Gc];simp
structure Fin (le:Keyed->Keyed->Prop) (a b:Array Keyed) (r:List Keyed):Prop where
 p:r.Perm (a.toList++b.toList)
 s:r.Pairwise le
structure MI (le:Keyed->Keyed->Prop) (a b:Array Keyed) (o:List Keyed) (ia ib:Nat):Prop where
 p:o.Perm (a.toList.take ia++b.toList.take ib)
 s:o.Pairwise le
 oa:∀x∈o,∀i,ia<=i->i<a.size->le x (G a i)
 ob:∀x∈o,∀j,ib<=j->j<b.size->le x (G b j)
structure MH (le:Keyed->Keyed->Prop) (a b:Array Keyed) (o:List Keyed) (na nb:Nat):Prop where
 p:o.Perm (a.toList.drop na++b.toList.drop nb)
 s:o.Pairwise le
 oa:∀x∈o,∀i,i<na->le (G a i) x
 ob:∀x∈o,∀j,j<nb->le (G b j) x
section
variable {lt:Keyed->Keyed->Bool}{bf le:Keyed->Keyed->Prop} (O:Ord lt bf le) {a b:Array Keyed}{o:List Keyed}{ia ib na nb:Nat} (Sa:Srt le a 0 a.size) (Sb:Srt le b 0 b.size)
theorem z2f {x:Keyed}{o p q:List Keyed}(h:o.Perm (p++q)):(o++[x]).Perm ((p++[x])++q):=by
 refine (h.append_right [x]).trans ?_;rw[Ba,Ba];exact List.perm_append_comm.append_left p
theorem MI.pushA (Sa:Srt le a 0 a.size)(m:MI le a b o ia ib)(hi:ia<a.size)(hb:∀j,ib<=j->j<b.size->le (G a ia) (G b j)):MI le a b (o++[G a ia]) (ia+1) ib:=by
 refine⟨by rw[take_G hi];exact z2f m.p,?_,λx hx i h1 h2=>?_,λx hx j h1 h2=>?_⟩
 ·rw[Cc];refine⟨m.s,List.pairwise_singleton _ _,λx hx y hy=>?_⟩;rw[Ao.mp hy];exact m.oa x hx ia (Af _) hi
 ·rcases Bq.mp hx with z|z
  ·exact m.oa x z i #v[] h2
  ·rw[Ao.mp z];exact Sa _ _ (Bm _) #v[] h2
 ·rcases Bq.mp hx with z|z
  ·exact m.ob x z j h1 h2
  ·rw[Ao.mp z];exact hb j h1 h2
theorem MI.pushB (Sb:Srt le b 0 b.size)(m:MI le a b o ia ib)(hj:ib<b.size)(ha:∀i,ia<=i->i<a.size->le (G b ib) (G a i)):MI le a b (o++[G b ib]) ia (ib+1):=by
 refine⟨?_,?_,λx hx i h1 h2=>?_,λx hx j h1 h2=>?_⟩
 ·rw[take_G hj];have:=m.p.append_right [G b ib];rw[Ba] at this;exact this
 ·rw[Cc];refine⟨m.s,List.pairwise_singleton _ _,λx hx y hy=>?_⟩;rw[Ao.mp hy];exact m.ob x hx ib (Af _) hj
 ·rcases Bq.mp hx with z|z
  ·exact m.oa x z i h1 h2
  ·rw[Ao.mp z];exact ha i h1 h2
 ·rcases Bq.mp hx with z|z
  ·exact m.ob x z j #v[] h2
  ·rw[Ao.mp z];exact Sb _ _ (Bm _) #v[] h2
theorem zr8 {a:Array Keyed}{i k:Nat}(h:i+k<a.size):(a.toList.drop i).take (k+1)=(a.toList.drop i).take k++[G a (i+k)]:=by
 rw[Dy,List.getElem?_drop,G_list h];rfl
theorem MI.appA (Sa:Srt le a 0 a.size) (m:MI le a b o ia ib):∀k,ia+k<=a.size->(∀i,ia<=i->i<ia+k->∀j,ib<=j->j<b.size->le (G a i) (G b j))->MI le a b (o++(a.toList.drop ia).take k) (ia+k) ib
 |0,_,_=>by rw[Ed,Ch];exact m
 | k+1,h1,h2=>by
  have:=(m.appA Sa k #v[] λi g1 g2=>h2 i g1 #v[]).pushA Sa #v[] (h2 (ia+k) #v[] #v[]);rw[zr8 #v[],<-Ba];exact this
theorem MI.appB (Sb:Srt le b 0 b.size) (m:MI le a b o ia ib):∀k,ib+k<=b.size->(∀j,ib<=j->j<ib+k->∀i,ia<=i->i<a.size->le (G b j) (G a i))->MI le a b (o++(b.toList.drop ib).take k) ia (ib+k)
 |0,_,_=>by rw[Ed,Ch];exact m
 | k+1,h1,h2=>by
  have:=(m.appB Sb k #v[] λi g1 g2=>h2 i g1 #v[]).pushB Sb #v[] (h2 (ib+k) #v[] #v[]);rw[zr8 #v[],<-Ba];exact this
theorem zr6 (b:Array Keyed):b.toList.take b.size=b.toList:=List.take_of_length_le (by simp)
theorem MI.finB (Sa:Srt le a 0 a.size)(m:MI le a b o ia b.size):Fin le a b (o++a.toList.drop ia):=by
 refine⟨?_,?_⟩
 ·have h:=m.p;rw[zr6] at h;refine (h.append_right _).trans ?_;rw[Ba];refine (List.perm_append_comm.append_left _).trans ?_;rw[<-Ba,Bk]
 ·rw[Cc];refine⟨m.s,(srt_list Sa).sublist (Ha _ _),λx hx y hy=>?_⟩;obtain⟨i,h1,h2,rfl⟩:=mem_drop hy;exact m.oa x hx i h1 h2
theorem MI.finA (Sb:Srt le b 0 b.size)(m:MI le a b o a.size ib):Fin le a b (o++b.toList.drop ib):=by
 refine⟨?_,?_⟩
 ·have h:=m.p;rw[zr6] at h;refine (h.append_right _).trans ?_;rw[Ba,Bk]
 ·rw[Cc];refine⟨m.s,(srt_list Sb).sublist (Ha _ _),λx hx y hy=>?_⟩;obtain⟨i,h1,h2,rfl⟩:=mem_drop hy;exact m.ob x hx i h1 h2
theorem MI.finL (Sa:Srt le a 0 a.size)(Sb:Srt le b 0 b.size)(m:MI le a b o ia ib)(e:ia+1=a.size)(HA:∀j,j<b.size->le (G b j) (G a (a.size-1))):Fin le a b (o++b.toList.drop ib++a.toList.drop ia):=by
 refine⟨?_,?_⟩
 ·refine ((m.p.append_right _).append_right _).trans ?_;rw[Ba,Ba,<-Ba (b.toList.take ib),Bk];refine (List.perm_append_comm.append_left _).trans ?_;rw[<-Ba,Bk]
 ·rw[Cc,Cc];refine⟨⟨m.s,(srt_list Sb).sublist (Ha _ _),λx hx y hy=>?_⟩,(srt_list Sa).sublist (Ha _ _),λx hx y hy=>?_⟩
  ·obtain⟨i,h1,h2,rfl⟩:=mem_drop hy;exact m.ob x hx i h1 h2
  ·obtain⟨i,h1,h2,rfl⟩:=mem_drop hy;rcases Bq.mp hx with z|z
   ·exact m.oa x z i h1 h2
   ·obtain⟨j,g1,g2,rfl⟩:=mem_drop z;have:i=a.size-1:=by omega
    rw[this];exact HA j g2
theorem MH.pushA (Sa:Srt le a 0 a.size)(m:MH le a b o (na+1) nb)(h:na<a.size)(hb:∀j,j<nb->le (G b j) (G a na)):MH le a b (G a na::o) na nb:=by
 refine⟨?_,Cw.mpr ⟨λx hx=>m.oa x hx na #v[],m.s⟩,λx hx i h1=>?_,λx hx j h1=>?_⟩
 ·rw[zt5 h];exact m.p.cons _
 ·rcases Ap.mp hx with z|z
  ·rw[z];exact Sa _ _ (Bm _) h1 h
  ·exact m.oa x z i #v[]
 ·rcases Ap.mp hx with z|z
  ·rw[z];exact hb j h1
  ·exact m.ob x z j h1
theorem MH.pushB (Sb:Srt le b 0 b.size)(m:MH le a b o na (nb+1))(h:nb<b.size)(ha:∀i,i<na->le (G a i) (G b nb)):MH le a b (G b nb::o) na nb:=by
 refine⟨?_,Cw.mpr ⟨λx hx=>m.ob x hx nb #v[],m.s⟩,λx hx i h1=>?_,λx hx j h1=>?_⟩
 ·rw[zt5 h];exact (m.p.cons _).trans List.perm_middle.symm
 ·rcases Ap.mp hx with z|z
  ·rw[z];exact ha i h1
  ·exact m.oa x z i h1
 ·rcases Ap.mp hx with z|z
  ·rw[z];exact Sb _ _ (Bm _) h1 h
  ·exact m.ob x z j #v[]
theorem zrh {a:Array Keyed}{i k:Nat}(h:i<a.size):(a.toList.drop i).take (k+1)=G a i::(a.toList.drop (i+1)).take k:=by
 rw[zt5 h,List.take_succ_cons]
theorem MH.appA (Sa:Srt le a 0 a.size):∀(k at_:Nat),MH le a b o (at_+k) nb->at_+k<=a.size->(∀i,at_<=i->i<at_+k->∀j,j<nb->le (G b j) (G a i))->MH le a b ((a.toList.drop at_).take k++o) at_ nb
 |0,at_,m,_,_=>by rw[Ed];exact m
 | k+1,at_,m,h1,h2=>by
  have:=(MH.appA Sa k (at_+1) (by rw[show at_+1+k=at_+(k+1) by omega];exact m) #v[] λi g1 g2=>h2 i #v[] #v[]).pushA Sa #v[] (h2 at_ (Af _) #v[]);rw[zrh #v[]];exact this
theorem MH.appB (Sb:Srt le b 0 b.size):∀(k at_:Nat),MH le a b o na (at_+k)->at_+k<=b.size->(∀j,at_<=j->j<at_+k->∀i,i<na->le (G a i) (G b j))->MH le a b ((b.toList.drop at_).take k++o) na at_
 |0,at_,m,_,_=>by rw[Ed];exact m
 | k+1,at_,m,h1,h2=>by
  have:=(MH.appB Sb k (at_+1) (by rw[show at_+1+k=at_+(k+1) by omega];exact m) #v[] λi g1 g2=>h2 i #v[] #v[]).pushB Sb #v[] (h2 at_ (Af _) #v[]);rw[zrh #v[]];exact this
theorem MH.finA (Sb:Srt le b 0 b.size)(m:MH le a b o 0 nb):Fin le a b (b.toList.take nb++o):=by
 refine⟨?_,?_⟩
 ·refine (m.p.append_left _).trans ?_;rw[Ef];refine List.perm_append_comm_assoc _ _ _ |>.trans ?_;rw[Bk]
 ·rw[Cc];refine⟨(srt_list Sb).sublist (Ep _ _),m.s,λx hx y hy=>?_⟩;obtain⟨i,h1,h2,rfl⟩:=mem_take hx;exact m.ob y hy i h1
theorem MH.finB (Sa:Srt le a 0 a.size)(m:MH le a b o na 0):Fin le a b (a.toList.take na++o):=by
 refine⟨?_,?_⟩
 ·refine (m.p.append_left _).trans ?_;rw[Ef,<-Ba,Bk]
 ·rw[Cc];refine⟨(srt_list Sa).sublist (Ep _ _),m.s,λx hx y hy=>?_⟩;obtain⟨i,h1,h2,rfl⟩:=mem_take hx;exact m.oa y hy i h1
theorem MH.finF (Sa:Srt le a 0 a.size)(Sb:Srt le b 0 b.size)(m:MH le a b o na 1)(H0:∀i,i<a.size->le (G b 0) (G a i)):Fin le a b (b.toList.take 1++a.toList.take na++o):=by
 refine⟨?_,?_⟩
 ·refine (m.p.append_left _).trans ?_;rw[Ba,<-Ba (a.toList.take na),Bk];refine List.perm_append_comm_assoc _ _ _ |>.trans ?_;rw[Bk]
 ·rw[Cc,Cc];refine⟨⟨(srt_list Sb).sublist (Ep _ _),(srt_list Sa).sublist (Ep _ _),λx hx y hy=>?_⟩,m.s,λx hx y hy=>?_⟩
  ·obtain⟨i,h1,h2,rfl⟩:=mem_take hx;obtain⟨j,g1,g2,rfl⟩:=mem_take hy;have:i=0:=by omega
   rw[this];exact H0 j g2
  ·rcases Bq.mp hx with z|z
   ·obtain⟨i,h1,h2,rfl⟩:=mem_take z;exact m.ob y hy i h1
   ·obtain⟨i,h1,h2,rfl⟩:=mem_take z;exact m.oa y hy i h1
end
end Tim
namespace Tim
noncomputable def setG:Nat->StateT SortSt Sem Unit:=sortPriv% PySem.Builtin.setMinGallop
section
variable {prog:Program}{w:World}{A:Around}{E:Value->Shared->Prop}{s:Shared}{κ:SortKind}{a₀:Array Keyed}{lt:Keyed->Keyed->Bool}{bf le:Keyed->Keyed->Prop}{st:SortSt}{pd:Array (Nat × Nat × Nat)}
structure SG (κ:SortKind) (a₀:Array Keyed) (pd:Array (Nat×Nat×Nat)) (xs:Array Keyed) (st:SortSt):Prop where
 i:SI κ a₀ pd st
 e:arrOf st=xs
theorem zrk {xs:Array Keyed}{g:Nat}{Q:Unit->SortSt->Prop}(S:SG κ a₀ pd xs st)(h:∀st',SG κ a₀ pd xs st'->Q () st'):wpS (model prog w) A E s (setG g) Q st :=
 wpS_modify (h _ ⟨⟨S.i.kind,S.i.failed,S.i.perm,S.i.pend⟩,S.e⟩)
theorem q_lt {x y:Keyed}{Q:Option Bool->SortSt->Prop}(C:Asks prog w A E s κ a₀ lt){xs:Array Keyed}(S:SG κ a₀ pd xs st)(hx:x∈a₀.toList)(hy:y∈a₀.toList)(h:Q (some (lt x y)) st):wpS (model prog w) A E s (lt' x y) Q st:=C _ _ _ _ hx hy S.i.kind h
theorem znz {out a b:Array Keyed}{ia ib:Nat}:(out++a.extract ia a.size++b.extract ib b.size).toList=out.toList++a.toList.drop ia++b.toList.drop ib:=by
 rw[Bs,Bs,zk2,zk2]
theorem zrb {le:Keyed->Keyed->Prop}{out a b:Array Keyed}{ia ib:Nat}(e:ib=b.size)(h:Fin le a b (out.toList++a.toList.drop ia)):Fin le a b (out++a.extract ia a.size++b.extract ib b.size).toList:=by
 subst e;rw[znz,List.drop_of_length_le (l:=b.toList) (by simp),Ch];exact h
theorem yak {le:Keyed->Keyed->Prop}{out a b:Array Keyed}{ia ib:Nat}(e:ia=a.size)(h:Fin le a b (out.toList++b.toList.drop ib)):Fin le a b (out++a.extract ia a.size++b.extract ib b.size).toList:=by
 subst e;rw[znz,List.drop_of_length_le (l:=a.toList) (by simp),Ch];exact h
theorem zro {le:Keyed->Keyed->Prop}{out a b:Array Keyed}{ia ib:Nat}(h:Fin le a b (out.toList++b.toList.drop ib++a.toList.drop ia)):Fin le a b (out++b.extract ib b.size++a.extract ia a.size).toList:=by
 rw[Bs,Bs,zk2,zk2];exact h
theorem q_if {α:Type}{c:Prop} [Decidable c] {x y:StateT SortSt Sem α}{Q:α->SortSt->Prop}(h1:c->wpS (model prog w) A E s x Q st)(h2:¬ c->wpS (model prog w) A E s y Q st):wpS (model prog w) A E s (if c then x else y) Q st:=by
 by_cases h:c
 ·rw[if_pos h];exact h1 h
 ·rw[if_neg h];exact h2 h
theorem zwg {α:Type}{x:StateT SortSt Sem α}{Q:α->SortSt->Prop}(h:∀Q',(∀r t,Q r t->Q' r t)->wpS (model prog w) A E s x Q' st):wpS (model prog w) A E s x Q st:=h Q λ_ _ z=>z
theorem q_eq {α β:Type}{c:β->Prop} [∀m,Decidable (c m)] {x:β->StateT SortSt Sem α}{Q:α->SortSt->Prop}{g:β->β}{f:β->StateT SortSt Sem α}(e:∀m,x m=f (g m))(h:∀u,wpS (model prog w) A E s (f u) Q st):∀m,wpS (model prog w) A E s (if c m then x m else f m) Q st:=λm=>by
 rw[e];exact q_if (λ_=>h _) λ_=>h _
theorem zzm {α β γ:Type}{c:Prop} [Decidable c] {x:β->γ->StateT SortSt Sem α}{Q:α->SortSt->Prop}{v:β}{u:γ}{f:β->γ->StateT SortSt Sem α} (P:β->γ->Prop) (h0:¬ c->P v u) (h1:c->(∀v u,P v u->wpS (model prog w) A E s (f v u) Q st)->wpS (model prog w) A E s (x v u) Q st)
  (h:∀v u,P v u->wpS (model prog w) A E s (f v u) Q st):∀v',v=v'->∀u',u=u'->wpS (model prog w) A E s (if c then x v' u' else f v' u') Q st:=by
 rintro _ rfl _ rfl;exact q_if (λk=>h1 k h) λk=>h _ _ (h0 k)
theorem MI.finA' {le:Keyed->Keyed->Prop}{a b:Array Keyed}{o:List Keyed}{ia ib:Nat}(Sb:Srt le b 0 b.size)(m:MI le a b o ia ib)(e:ia=a.size):Fin le a b (o++b.toList.drop ib):=by subst e;exact m.finA Sb
theorem MI.finB' {le:Keyed->Keyed->Prop}{a b:Array Keyed}{o:List Keyed}{ia ib:Nat}(Sa:Srt le a 0 a.size)(m:MI le a b o ia ib)(e:ib=b.size):Fin le a b (o++a.toList.drop ia):=by subst e;exact m.finB Sa
structure MP (lt:Keyed->Keyed->Bool) (bf le:Keyed->Keyed->Prop) (a₀ a b:Array Keyed):Prop where
 sa:Srt le a 0 a.size
 sb:Srt le b 0 b.size
 ma:∀i,i<a.size->G a i∈a₀.toList
 mb:∀i,i<b.size->G b i∈a₀.toList
 bf:∀i j,i<a.size->j<b.size->bf (G a i) (G b j)
 a1:1<=a.size
 b1:1<=b.size
 h0:∀i,i<a.size->le (G b 0) (G a i)
 ha:∀j,j<b.size->le (G b j) (G a (a.size-1))
theorem yda (C:Asks prog w A E s κ a₀ lt) (O:Ord lt bf le) {a b xs:Array Keyed}{Q:Array Keyed->SortSt->Prop} (S:SG κ a₀ pd xs st) (P:MP lt bf le a₀ a b)
  (h:∀r st',SG κ a₀ pd xs st'->Fin le a b r.toList->Q r st'):wpS (model prog w) A E s (mLo a b) Q st:=by
 have leA:∀i j,i<=j->j<a.size->le (G a i) (G a j):=λi j h1 h2=>by
  by_cases e:i=j
  ·rw[e];exact O.rf _
  ·exact P.sa i j (Bm _) #v[] h2
 have leB:∀i j,i<=j->j<b.size->le (G b i) (G b j):=λi j h1 h2=>by
  by_cases e:i=j
  ·rw[e];exact O.rf _
  ·exact P.sb i j (Bm _) #v[] h2
 have pa:=P.a1;have pb:=P.b1;show wpS (model prog w) A E s (liftM (rule _)>>=_) Q st;refine Aq (wpS_lift (Dc ⟨rfl,?_⟩));refine Aq (zav pb ?_);have m0:MI le a b (#[G b 0]:Array Keyed).toList 0 1:=by
  have:=MI.pushB (o:=[]) (ia:=0) (ib:=0) P.sb ⟨by simp,.nil,λx hx=>by simp at hx,λx hx=>by simp at hx⟩ #v[] (λi _ h2=>P.h0 i h2);simpa using this
 dsimp only;by_cases e1:1=b.size
 ·rw [if_pos (by simpa using e1)]
  refine Av (h _ _ S (zrb e1 (m0.finB' P.sa e1)))
 rw[if_neg (by simpa using e1)];by_cases e2:0+1=a.size
 ·rw [if_pos (by simpa using e2)]
  exact Av (h _ _ S (zro (m0.finL P.sa P.sb e2 P.ha)))
 rw [if_neg (by simpa using e2)];refine Aq (Hj ?_);refine Aq (Dv (Cg (I:=λx c s2=>∃(out:Array Keyed) (ia ib mg:Nat),c=(none,out,ia,ib,mg)/\SG κ a₀ pd xs s2/\MI le a b out.toList ia ib/\ia+1<a.size/\ib<b.size/\x<=ia+ib)
  (Q:=λc s2=>∃(r out:Array Keyed) (ia ib mg:Nat),c=(some r,out,ia,ib,mg)/\SG κ a₀ pd xs s2/\Fin le a b r.toList) ?os ?of ⟨_,0,1,_,rfl,S,m0,by omega,by omega,by omega⟩) ?op)
 case of =>
  rintro c s2 hC;refine aG λG hG=>?_;obtain⟨out,ia,ib,mg,eC,b1,b2,b3,b4,b5⟩:=hC;refine hG ?_;clear hG;clear G;subst eC;exfalso;omega
 case op =>
  rintro c s2 hC;refine aG λG hG=>?_;obtain⟨r,out,ia,ib,mg,eC,b1,b2⟩:=hC;refine hG ?_;clear hG;clear G;subst eC;exact Av (h _ _ b1 b2)
 case os =>
  rintro x c s2 _ hx hC;refine aG λG hG=>?_;obtain ⟨out,ia,ib,mg,eC,S2,m2,b3,b4,b5⟩:=hC;refine hG ?_;clear hG;clear G;subst eC;dsimp only;refine Aq (Dv (Cg (I:=λy c s3=>s3=s2/\∃(out:Array Keyed) (ia ib ac bc:Nat),c=(none,out,ia,ib,ac,bc)/\MI le a b out.toList ia ib/\ia+1<a.size/\ib<b.size/\x<=ia+ib)
   (Q:=λc s3=>s3=s2/\((∃(r out:Array Keyed) (ia ib ac bc:Nat),c=(some r,out,ia,ib,ac,bc)/\Fin le a b r.toList)\/∃(out:Array Keyed) (ia ib ac bc:Nat),c=(none,out,ia,ib,ac,bc)/\MI le a b out.toList ia ib/\ia+1<a.size/\ib<b.size/\x<=ia+ib)) ?is1 ?if1 ⟨rfl,out,ia,ib,0,0,rfl,m2,b3,b4,b5⟩) ?ip1)
  case if1 =>
   rintro c s3 ⟨e3,z⟩;exact⟨e3,.inr z⟩
  case is1 =>
   rintro y c s3 _ hy hC;refine aG λG hG=>?_;obtain⟨e3,out,ia,ib,ac,bc,eC,m3,c3,c4,c5⟩:=hC;refine hG ?_;clear hG;clear G;subst eC;subst e3;dsimp only;refine Aq (zav c4 (Aq (zav #v[] (Aq (q_lt C S2 (P.mb _ c4) (P.ma _ #v[]) ?_)))));have bb:=P.bf ia ib #v[] c4;cases q:lt (G b ib) (G a ia) with
   | true =>
    dsimp only;rw [if_pos rfl];refine Aq (zav c4 ?_);have m4:MI le a b (out.push (G b ib)).toList ia (ib+1):=by
     rw[Do];exact m3.pushB P.sb c4 λi g1 g2=>O.tr (O.f2 q) (leA _ _ g1 g2)
    by_cases e:ib+1=b.size
    ·rw [if_pos (by simpa using e)]
     refine Av ⟨rfl,.inl ⟨_,_,_,_,_,_,rfl,zrb e ?_⟩⟩;rw[e] at m4;exact m4.finB P.sa
    ·rw [if_neg (by simpa using e)]
     split
     ·exact Av ⟨rfl,.inr ⟨_,_,_,_,_,rfl,m4,c3,by omega,by omega⟩⟩
     ·exact Av ⟨rfl,_,_,_,_,_,rfl,m4,c3,by omega,by omega⟩
   | false =>
    dsimp only;rw [if_neg (by decide)];refine Aq (zav (by omega) ?_);have m4:MI le a b (out.push (G a ia)).toList (ia+1) ib:=by
     rw[Do];exact m3.pushA P.sa #v[] λj g1 g2=>O.tr ((O.f1 bb).mp q) (leB _ _ g1 g2)
    by_cases e:ia+1+1=a.size
    ·rw [if_pos (by simpa using e)]
     exact Av ⟨rfl,.inl ⟨_,_,_,_,_,_,rfl,zro (m4.finL P.sa P.sb e P.ha)⟩⟩
    ·rw [if_neg (by simpa using e)]
     split
     ·exact Av ⟨rfl,.inr ⟨_,_,_,_,_,rfl,m4,by omega,c4,by omega⟩⟩
     ·exact Av ⟨rfl,_,_,_,_,_,rfl,m4,by omega,c4,by omega⟩
  case ip1 =>
   rintro c s3 ⟨e3,z⟩;subst e3;refine aG λG hG=>?_;rcases z with⟨r,out,ia,ib,ac,bc,eC,f⟩|⟨out,ia,ib,ac,bc,eC,m3,c3,c4,c5⟩
   ·refine hG ?_
    clear hG;clear G;subst eC;exact Av ⟨_,_,_,_,_,rfl,S2,f⟩
   ·refine hG ?_
    clear hG;clear G;subst eC;dsimp only;refine Aq (wpS_lift (Dc ⟨rfl,?_⟩));refine Aq (Dv (Cg (I:=λy c s4=>∃(out:Array Keyed) (ia ib mg ac bc:Nat),c=(none,out,ia,ib,mg,ac,bc)/\SG κ a₀ pd xs s4/\MI le a b out.toList ia ib/\ia+1<a.size/\ib<b.size/\x+y<=ia+ib)
     (Q:=λc s4=>SG κ a₀ pd xs s4/\((∃(r out:Array Keyed) (ia ib mg ac bc:Nat),c=(some r,out,ia,ib,mg,ac,bc)/\Fin le a b r.toList)\/∃(out:Array Keyed) (ia ib mg ac bc:Nat),c=(none,out,ia,ib,mg,ac,bc)/\MI le a b out.toList ia ib/\ia+1<a.size/\ib<b.size/\x+1<=ia+ib)) ?gs ?gf ⟨out,ia,ib,_,ac,bc,rfl,S2,m3,c3,c4,by omega⟩) ?gp)
    case gf =>
     rintro c s4 hC;refine aG λG hG=>?_;obtain⟨out,ia,ib,mg,ac,bc,eC,S4,m4,d3,d4,d5⟩:=hC;refine hG ?_;clear hG;clear G;subst eC;exact⟨S4,.inr ⟨_,_,_,_,_,_,rfl,m4,d3,d4,by omega⟩⟩
    case gp =>
     rintro c s4 ⟨S4,z⟩;refine aG λG hG=>?_;rcases z with⟨r,out,ia,ib,mg,ac,bc,eC,f⟩|⟨out,ia,ib,mg,ac,bc,eC,m4,d3,d4,d5⟩
     ·refine hG ?_
      clear hG;clear G;subst eC;exact Av ⟨_,_,_,_,_,rfl,S4,f⟩
     ·refine hG ?_
      clear hG;clear G;subst eC;dsimp only;exact Aq (zrk S4 λs5 S5=>Av ⟨_,_,_,_,rfl,S5,m4,d3,d4,d5⟩)
    case gs =>
     rintro y c s4 _ hy hC;refine aG λG hG=>?_;obtain⟨out,ia,ib,mg,ac,bc,eC,S4,m4,d3,d4,d5⟩:=hC;refine hG ?_;clear hG;clear G;subst eC;simp (config:={ maxSteps:=10000000,failIfUnchanged:=false }) only [];refine zwg λQ' hQ=>?_;generalize mg=mg
     revert mg
     refine q_eq (g:=λmg=>mg-1) (λ_=>rfl) λmg=>?_;dsimp (config:={ failIfUnchanged:=false }) only;refine Aq (zrk S4 λs5 S5=>Aq (zav d4 (Aq (zsi (left:=false) (key:=G b ib) (arr:=a) (base:=ia) (n:=a.size-ia) (hint:=0) (B:=λi=>!lt (G b ib) (G a (ia+i))) C S5.i.kind (P.mb _ d4) #v[] (λi hi=>P.ma _ #v[]) (λi hi=>rfl) (λi j h1 h2 h3=>?mono1) #v[] λk k1 k2 k3=>?_))))
     case mono1 =>
      have h3':lt (G b ib) (G a (ia+j))=false:=by simpa using h3
      have l1:=(O.f1 (P.bf (ia+j) ib #v[] d4)).mp h3';have l2:=(O.f1 (P.bf (ia+i) ib #v[] d4)).mpr (O.tr (leA _ _ #v[] #v[]) l1);show (!lt (G b ib) (G a (ia+i)))=true;rw[l2];rfl
     have w1:∀i,ia<=i->i<ia+k->le (G a i) (G b ib):=λi g1 g2=>by
      have:=k2 (i-ia) #v[];rw[Go g1] at this;exact (O.f1 (P.bf i ib #v[] d4)).mp (by simpa using this)
     have w2:∀i,ia+k<=i->i<a.size->le (G b ib) (G a i):=λi g1 g2=>by
      have:=k3 (i-ia) #v[] #v[];rw[Go (Cf (Ds _ _) g1)] at this;exact O.f2 (by simpa using this)
     have m5:MI le a b (out++a.extract ia (ia+k)).toList (ia+k) ib:=by
      rw[Bs,zda,Nat.add_sub_cancel_left];exact m4.appA P.sa k #v[] λi g1 g2 j g3 g4=>O.tr (w1 i g1 g2) (leB _ _ g3 g4)
     dsimp (config:={ failIfUnchanged:=false }) only;generalize eou:out=out'
     revert out'
     generalize ena:ia=na'
     revert na'
     refine zzm (λia1 out1=>MI le a b out1.toList ia1 ib/\(∀i,ia1<=i->i<a.size->le (G b ib) (G a i))/\ia1+1<a.size/\x+y<=ia1+ib) (λhk0=>?_) (λhc H=>?_) λia1 out1 ⟨n5,u1,b6,p6⟩=>?_
     ·have k0:k=0:=by omega
      subst k0;exact⟨m4,w2,d3,d5⟩
     ·refine q_if (λe1 => ?_) λe1 => ?_
      ·have e1:ia+k+1=a.size:=by simpa using e1
       exact Av (hQ _ _ ⟨S5,.inl ⟨_,_,_,_,_,_,_,rfl,zro (m5.finL P.sa P.sb e1 P.ha)⟩⟩)
      have e1:¬ ia+k+1=a.size:=by simpa using e1
      refine q_if (λe2=>?_) λe2=>?_
      ·have e2:ia+k=a.size:=by simpa using e2
       exact Av (hQ _ _ ⟨S5,.inl ⟨_,_,_,_,_,_,_,rfl,yak e2 (m5.finA' P.sb e2)⟩⟩)
      have e2:¬ ia+k=a.size:=by simpa using e2
      exact H _ _ ⟨m5,w2,by omega,by omega⟩
     clear m5 m4 w2 w1 k3 k2 k1;dsimp (config:={ failIfUnchanged:=false }) only;refine Aq (zav d4 ?_);have m6:MI le a b (out1.push (G b ib)).toList ia1 (ib+1):=by
      rw[Do];exact n5.pushB P.sb d4 u1
     refine q_if (λe3=>?_) λe3=>?_
     ·have e3:ib+1=b.size:=by simpa using e3
      exact Av (hQ _ _ ⟨S5,.inl ⟨_,_,_,_,_,_,_,rfl,zrb e3 (m6.finB' P.sa e3)⟩⟩)
     have e3:¬ ib+1=b.size:=by simpa using e3
     refine Aq (zav #v[] (Aq (zsi (left:=true) (key:=G a ia1) (arr:=b) (base:=ib+1) (n:=b.size-(ib+1)) (hint:=0) (B:=λj=>lt (G b (ib+1+j)) (G a ia1)) C S5.i.kind (P.ma _ #v[]) #v[] (λj hj=>P.mb _ #v[]) (λj hj=>rfl) (λi j h1 h2 h3=>?mono2) #v[] λl l1 l2 l3=>?_)))
     case mono2 =>
      have n1:=O.f3 (P.bf ia1 (ib+1+j) #v[] #v[]) h3;cases q:lt (G b (ib+1+i)) (G a ia1) with
      |true=>rfl
      |false=>exact absurd (O.tr ((O.f1 (P.bf ia1 (ib+1+i) #v[] #v[])).mp q) (leB _ _ #v[] #v[])) n1
     have v1:∀j,ib+1<=j->j<ib+1+l->le (G b j) (G a ia1):=λj g1 g2=>by
      have:=l2 (j-(ib+1)) #v[];rw[Go g1] at this;exact O.f2 this
     have v2:∀j,ib+1+l<=j->j<b.size->le (G a ia1) (G b j):=λj g1 g2=>by
      have:=l3 (j-(ib+1)) #v[] #v[];rw[Go (Cf (Ds _ _) g1)] at this;exact (O.f1 (P.bf ia1 j #v[] g2)).mp this
     have m7:MI le a b (out1.push (G b ib)++b.extract (ib+1) (ib+1+l)).toList ia1 (ib+1+l):=by
      rw[Bs,zda,Nat.add_sub_cancel_left];exact m6.appB P.sb l #v[] λj g1 g2 i g3 g4=>O.tr (v1 j g1 g2) (leA _ _ g3 g4)
     dsimp (config:={ failIfUnchanged:=false }) only;generalize hnb:ib+1=ib1 at m7 m6 v2 e3 ⊢;generalize hout:out1.push (G b ib)=out2 at m7 m6 ⊢;generalize eou:out2=out'
     revert out'
     generalize ena:ib1=na'
     revert na'
     refine zzm (λib2 out2=>MI le a b out2.toList ia1 ib2/\(∀j,ib2<=j->j<b.size->le (G a ia1) (G b j))/\ib2<b.size/\x+y+1<=ia1+ib2) (λhl0=>?_) (λhc H=>?_) λib2 out3 ⟨n7,u2,b7,p7⟩=>?_
     ·have k0:l=0:=by omega
      subst k0;exact⟨m6,v2,by omega,by omega⟩
     ·refine q_if (λe4 => ?_) λe4 => ?_
      ·have e4:ib1+l=b.size:=by simpa using e4
       exact Av (hQ _ _ ⟨S5,.inl ⟨_,_,_,_,_,_,_,rfl,zrb e4 (m7.finB' P.sa e4)⟩⟩)
      have e4:¬ ib1+l=b.size:=by simpa using e4
      exact H _ _ ⟨m7,v2,by omega,by omega⟩
     dsimp (config:={ failIfUnchanged:=false }) only;refine Aq (zav (by omega) ?_);have m8:MI le a b (out3.push (G a ia1)).toList (ia1+1) ib2:=by
      rw[Do];exact n7.pushA P.sa #v[] u2
     refine q_if (λe5=>?_) λe5=>?_
     ·have e5:ia1+1+1=a.size:=by simpa using e5
      exact Av (hQ _ _ ⟨S5,.inl ⟨_,_,_,_,_,_,_,rfl,zro (m8.finL P.sa P.sb e5 P.ha)⟩⟩)
     have e5:¬ ia1+1+1=a.size:=by simpa using e5
     refine q_if (λ_=>?_) λ_=>?_
     ·exact Av (hQ _ _ ⟨S5,.inr ⟨_,_,_,_,_,_,rfl,m8,by omega,b7,by omega⟩⟩)
     ·exact Av (hQ _ _ ⟨_,_,_,_,_,_,rfl,S5,m8,by omega,b7,by omega⟩)
end
end Tim
namespace Tim
section
variable {prog:Program}{w:World}{A:Around}{E:Value->Shared->Prop}{s:Shared}{κ:SortKind}{a₀:Array Keyed}{lt:Keyed->Keyed->Bool}{bf le:Keyed->Keyed->Prop}{st:SortSt}{pd:Array (Nat × Nat × Nat)}
variable {a b out:Array Keyed}{o:List Keyed}{na nb at_:Nat}
theorem MH.pushA' (Sa:Srt le a 0 a.size)(m:MH le a b out.toList.reverse na nb)(h1:1<=na)(h:na<=a.size)(hb:∀j,j<nb->le (G b j) (G a (na-1))):MH le a b (out.push (G a (na-1))).toList.reverse (na-1) nb:=by
 obtain⟨n,rfl⟩ : ∃n,na=n+1:=⟨na-1,by omega⟩;rw[Do,List.reverse_append];exact m.pushA Sa #v[] hb
theorem MH.pushB' (Sb:Srt le b 0 b.size)(m:MH le a b out.toList.reverse na nb)(h1:1<=nb)(h:nb<=b.size)(ha:∀i,i<na->le (G a i) (G b (nb-1))):MH le a b (out.push (G b (nb-1))).toList.reverse na (nb-1):=by
 obtain⟨n,rfl⟩ : ∃n,nb=n+1:=⟨nb-1,by omega⟩;rw[Do,List.reverse_append];exact m.pushB Sb #v[] ha
theorem zu3 (x:Array Keyed)(i j:Nat):(out++(x.extract i j).reverse).toList.reverse=(x.toList.drop i).take (j-i)++out.toList.reverse:=by
 rw[Bs,List.reverse_append,Gh,List.reverse_reverse,zda]
theorem MH.appA' (Sa:Srt le a 0 a.size)(m:MH le a b out.toList.reverse na nb)(h1:at_<=na)(h:na<=a.size)(hb:∀i,at_<=i->i<na->∀j,j<nb->le (G b j) (G a i)):MH le a b (out++(a.extract at_ na).reverse).toList.reverse at_ nb:=by
 rw[zu3];obtain⟨k,rfl⟩ : ∃k,na=at_+k:=⟨na-at_,by omega⟩;rw[show at_+k-at_=k by omega];exact MH.appA Sa k at_ m h hb
theorem MH.appB' (Sb:Srt le b 0 b.size)(m:MH le a b out.toList.reverse na nb)(h1:at_<=nb)(h:nb<=b.size)(ha:∀j,at_<=j->j<nb->∀i,i<na->le (G a i) (G b j)):MH le a b (out++(b.extract at_ nb).reverse).toList.reverse na at_:=by
 rw[zu3];obtain⟨k,rfl⟩ : ∃k,nb=at_+k:=⟨nb-at_,by omega⟩;rw[show at_+k-at_=k by omega];exact MH.appB Sb k at_ m h ha
theorem zee (x:Array Keyed)(n:Nat):(x.extract 0 n).toList=x.toList.take n:=by rw[zda,Ef,Nat.sub_zero]
theorem MH.done0 (Sb:Srt le b 0 b.size)(m:MH le a b out.toList.reverse na nb)(e:na=0):Fin le a b (a.extract 0 na++b.extract 0 nb++out.reverse).toList:=by
 subst e;rw[Bs,Bs,zee,zee,Ed,List.nil_append,Gh];exact m.finA Sb
theorem MH.done1 (Sa:Srt le a 0 a.size)(m:MH le a b out.toList.reverse na nb)(e:nb=0):Fin le a b (a.extract 0 na++b.extract 0 nb++out.reverse).toList:=by
 subst e;rw[Bs,Bs,zee,zee,Ed,Ch,Gh];exact m.finB Sa
theorem MH.first (Sa:Srt le a 0 a.size)(Sb:Srt le b 0 b.size)(m:MH le a b out.toList.reverse na nb)(e:nb=1)(H0:∀i,i<a.size->le (G b 0) (G a i)):Fin le a b (b.extract 0 nb++a.extract 0 na++out.reverse).toList:=by
 subst e;rw[Bs,Bs,zee,zee,Gh];exact m.finF Sa Sb H0
theorem yd3 (C:Asks prog w A E s κ a₀ lt) (O:Ord lt bf le) {a b xs:Array Keyed}{Q:Array Keyed->SortSt->Prop} (S:SG κ a₀ pd xs st) (P:MP lt bf le a₀ a b)
  (h:∀r st',SG κ a₀ pd xs st'->Fin le a b r.toList->Q r st'):wpS (model prog w) A E s (mHi a b) Q st:=by
 have leA:∀i j,i<=j->j<a.size->le (G a i) (G a j):=λi j h1 h2=>by
  by_cases e:i=j
  ·rw[e];exact O.rf _
  ·exact P.sa i j (Bm _) #v[] h2
 have leB:∀i j,i<=j->j<b.size->le (G b i) (G b j):=λi j h1 h2=>by
  by_cases e:i=j
  ·rw[e];exact O.rf _
  ·exact P.sb i j (Bm _) #v[] h2
 have pa:=P.a1;have pb:=P.b1;show wpS (model prog w) A E s (liftM (rule _)>>=_) Q st;refine Aq (wpS_lift (Dc ⟨rfl,?_⟩));refine Aq (zav (show a.size-1<a.size by omega) ?_);have m0:MH le a b (#[G a (a.size-1)]:Array Keyed).toList.reverse (a.size-1) b.size:=by
  have:=MH.pushA' (out:=#[]) (na:=a.size) (nb:=b.size) (a:=a) (b:=b) P.sa ⟨by simp,.nil,λx hx=>by simp at hx,λx hx=>by simp at hx⟩ pa (Af _) P.ha;simpa using this
 dsimp only;by_cases e1:a.size-1=0
 ·rw [if_pos (by simpa using e1)]
  exact Av (h _ _ S (m0.done0 P.sb e1))
 rw[if_neg (by simpa using e1)];by_cases e2:b.size=1
 ·rw [if_pos (by simpa using e2)]
  exact Av (h _ _ S (m0.first P.sa P.sb e2 P.h0))
 rw [if_neg (by simpa using e2)];refine Aq (Hj ?_);refine Aq (Dv (Cg (I:=λx c s2=>∃(out:Array Keyed) (na nb mg:Nat),c=(none,na,nb,out,mg)/\SG κ a₀ pd xs s2/\MH le a b out.toList.reverse na nb/\1<=na/\2<=nb/\na<=a.size/\nb<=b.size/\x+na+nb<=a.size+b.size)
  (Q:=λc s2=>∃(r out:Array Keyed) (na nb mg:Nat),c=(some r,na,nb,out,mg)/\SG κ a₀ pd xs s2/\Fin le a b r.toList) ?os ?of ⟨_,a.size-1,b.size,_,rfl,S,m0,by omega,by omega,by omega,by omega,by omega⟩) ?op)
 case of =>
  rintro c s2 hC;refine aG λG hG=>?_;obtain⟨out,na,nb,mg,eC,b1,b2,b3,b4,b5,b6,b7⟩:=hC;refine hG ?_;clear hG;clear G;subst eC;exfalso;omega
 case op =>
  rintro c s2 hC;refine aG λG hG=>?_;obtain⟨r,out,na,nb,mg,eC,b1,b2⟩:=hC;refine hG ?_;clear hG;clear G;subst eC;exact Av (h _ _ b1 b2)
 case os =>
  rintro x c s2 _ hx hC;refine aG λG hG=>?_;obtain ⟨out,na,nb,mg,eC,S2,m2,b3,b4,b5,b6,b7⟩:=hC;refine hG ?_;clear hG;clear G;subst eC;dsimp only;refine Aq (Dv (Cg (I:=λy c s3=>s3=s2/\∃(out:Array Keyed) (na nb ac bc:Nat),c=(none,na,nb,out,ac,bc)/\MH le a b out.toList.reverse na nb/\1<=na/\2<=nb/\na<=a.size/\nb<=b.size/\x+na+nb<=a.size+b.size)
   (Q:=λc s3=>s3=s2/\((∃(r out:Array Keyed) (na nb ac bc:Nat),c=(some r,na,nb,out,ac,bc)/\Fin le a b r.toList)\/∃(out:Array Keyed) (na nb ac bc:Nat),c=(none,na,nb,out,ac,bc)/\MH le a b out.toList.reverse na nb/\1<=na/\2<=nb/\na<=a.size/\nb<=b.size/\x+na+nb<=a.size+b.size)) ?is1 ?if1 ⟨rfl,out,na,nb,0,0,rfl,m2,b3,b4,b5,b6,b7⟩) ?ip1)
  case if1 =>
   rintro c s3 ⟨e3,z⟩;exact⟨e3,.inr z⟩
  case is1 =>
   rintro y c s3 _ hy hC;refine aG λG hG=>?_;obtain⟨e3,out,na,nb,ac,bc,eC,m3,c3,c4,c5,c6,c7⟩:=hC;refine hG ?_;clear hG;clear G;subst eC;subst e3;dsimp only;refine Aq (zav #v[] (Aq (zav #v[] (Aq (q_lt C S2 (P.mb _ #v[]) (P.ma _ #v[]) ?_)))));have bb:=P.bf (na-1) (nb-1) #v[] #v[];cases q:lt (G b (nb-1)) (G a (na-1)) with
   | true =>
    dsimp only;rw[if_pos rfl];refine Aq (zav #v[] ?_);have m4:=m3.pushA' P.sa c3 c5 λj g=>O.tr (leB j (nb-1) #v[] #v[]) (O.f2 q);by_cases e:na-1=0
    ·rw [if_pos (by simpa using e)]
     exact Av ⟨rfl,.inl ⟨_,_,_,_,_,_,rfl,m4.done0 P.sb e⟩⟩
    ·rw [if_neg (by simpa using e)]
     split
     ·exact Av ⟨rfl,.inr ⟨_,_,_,_,_,rfl,m4,by omega,by omega,by omega,by omega,by omega⟩⟩
     ·exact Av ⟨rfl,_,_,_,_,_,rfl,m4,by omega,by omega,by omega,by omega,by omega⟩
   | false =>
    dsimp only;rw[if_neg #v[0,9]];refine Aq (zav #v[] ?_);have m4:=m3.pushB' P.sb #v[] c6 λi g=>O.tr (leA i (na-1) #v[] #v[]) ((O.f1 bb).mp q);by_cases e:nb-1=1
    ·rw [if_pos (by simpa using e)]
     exact Av ⟨rfl,.inl ⟨_,_,_,_,_,_,rfl,m4.first P.sa P.sb e P.h0⟩⟩
    ·rw [if_neg (by simpa using e)]
     split
     ·exact Av ⟨rfl,.inr ⟨_,_,_,_,_,rfl,m4,by omega,by omega,by omega,by omega,by omega⟩⟩
     ·exact Av ⟨rfl,_,_,_,_,_,rfl,m4,by omega,by omega,by omega,by omega,by omega⟩
  case ip1 =>
   rintro c s3 ⟨e3,z⟩;subst e3;refine aG λG hG=>?_;rcases z with⟨r,out,na,nb,ac,bc,eC,f⟩|⟨out,na,nb,ac,bc,eC,m3,c3,c4,c5,c6,c7⟩
   ·refine hG ?_
    clear hG;clear G;subst eC;exact Av ⟨_,_,_,_,_,rfl,S2,f⟩
   ·refine hG ?_
    clear hG;clear G;subst eC;dsimp only;refine Aq (wpS_lift (Dc ⟨rfl,?_⟩));refine Aq (Dv (Cg (I:=λy c s4=>∃(out:Array Keyed) (na nb mg ac bc:Nat),c=(none,na,nb,out,mg,ac,bc)/\SG κ a₀ pd xs s4/\MH le a b out.toList.reverse na nb/\1<=na/\2<=nb/\na<=a.size/\nb<=b.size/\x+y+na+nb<=a.size+b.size)
     (Q:=λc s4=>SG κ a₀ pd xs s4/\((∃(r out:Array Keyed) (na nb mg ac bc:Nat),c=(some r,na,nb,out,mg,ac,bc)/\Fin le a b r.toList)\/∃(out:Array Keyed) (na nb mg ac bc:Nat),c=(none,na,nb,out,mg,ac,bc)/\MH le a b out.toList.reverse na nb/\1<=na/\2<=nb/\na<=a.size/\nb<=b.size/\x+1+na+nb<=a.size+b.size)) ?gs ?gf ⟨out,na,nb,_,ac,bc,rfl,S2,m3,c3,c4,c5,c6,by omega⟩) ?gp)
    case gf =>
     rintro c s4 hC;refine aG λG hG=>?_;obtain⟨out,na,nb,mg,ac,bc,eC,S4,m4,d3,d4,d5,d6,d7⟩:=hC;refine hG ?_;clear hG;clear G;subst eC;exact⟨S4,.inr ⟨_,_,_,_,_,_,rfl,m4,d3,d4,d5,d6,by omega⟩⟩
    case gp =>
     rintro c s4 ⟨S4,z⟩;refine aG λG hG=>?_;rcases z with⟨r,out,na,nb,mg,ac,bc,eC,f⟩|⟨out,na,nb,mg,ac,bc,eC,m4,d3,d4,d5,d6,d7⟩
     ·refine hG ?_
      clear hG;clear G;subst eC;exact Av ⟨_,_,_,_,_,rfl,S4,f⟩
     ·refine hG ?_
      clear hG;clear G;subst eC;dsimp only;exact Aq (zrk S4 λs5 S5=>Av ⟨_,_,_,_,rfl,S5,m4,d3,d4,d5,d6,d7⟩)
    case gs =>
     rintro y c s4 _ hy hC;refine aG λG hG=>?_;obtain⟨out,na,nb,mg,ac,bc,eC,S4,m4,d3,d4,d5,d6,d7⟩:=hC;refine hG ?_;clear hG;clear G;subst eC;simp (config:={ maxSteps:=10000000,failIfUnchanged:=false }) only [];refine zwg λQ' hQ=>?_;generalize mg=mg
     revert mg
     refine q_eq (g:=λmg=>mg-1) (λ_=>rfl) λmg=>?_;dsimp (config:={ failIfUnchanged:=false }) only;refine Aq (zrk S4 λs5 S5=>Aq (zav (show nb-1<b.size by omega) (Aq (zsi (left:=false) (key:=G b (nb-1)) (arr:=a) (base:=0) (n:=na) (hint:=na-1) (B:=λi=>!lt (G b (nb-1)) (G a (0+i))) C S5.i.kind (P.mb _ #v[]) #v[] (λi hi=>P.ma _ #v[]) (λi hi=>rfl) (λi j h1 h2 h3=>?mono1) #v[] λk k1 k2 k3=>?_))))
     case mono1 =>
      have h3':lt (G b (nb-1)) (G a (0+j))=false:=by simpa using h3
      have l1:=(O.f1 (P.bf (0+j) (nb-1) #v[] #v[])).mp h3';have l2:=(O.f1 (P.bf (0+i) (nb-1) #v[] #v[])).mpr (O.tr (leA _ _ #v[] #v[]) l1);show (!lt (G b (nb-1)) (G a (0+i)))=true;rw[l2];rfl
     have w1:∀i,i<k->le (G a i) (G b (nb-1)):=λi g1=>by
      have:=k2 i g1;rw[Ce] at this;exact (O.f1 (P.bf i (nb-1) #v[] #v[])).mp (by simpa using this)
     have w2:∀i,k<=i->i<na->le (G b (nb-1)) (G a i):=λi g1 g2=>by
      have:=k3 i #v[] #v[];rw[Ce] at this;exact O.f2 (by simpa using this)
     have m5:=m4.appA' P.sa k1 d5 λi g1 g2 j g3=>O.tr (leB j (nb-1) #v[] #v[]) (w2 i g1 g2);dsimp (config:={ failIfUnchanged:=false }) only;generalize hac:na-k=ac1 at m5 ⊢;generalize eou:out=out'
     revert out'
     generalize ena:na=na'
     revert na'
     refine zzm (λna1 out1=>MH le a b out1.toList.reverse na1 nb/\(∀i,i<na1->le (G a i) (G b (nb-1)))/\(1<=na1/\na1<=a.size)/\x+y+na1+nb<=a.size+b.size) (λhk0=>?_) (λhc H=>?_) λna1 out1 ⟨n5,u1,b8,p6⟩=>?_
     ·have k0:k=na:=by omega
      exact⟨m4,k0 ▸ w1,by omega,by omega⟩
     ·refine q_if (λe1 => ?_) λe1 => ?_
      ·have e1:k=0:=by simpa using e1
       exact Av (hQ _ _ ⟨S5,.inl ⟨_,_,_,_,_,_,_,rfl,m5.done0 P.sb e1⟩⟩)
      have e1:¬ k=0:=by simpa using e1
      exact H _ _ ⟨m5,w1,by omega,by omega⟩
     clear m5 m4 w2 w1 k3 k2 k1 hac;dsimp (config:={ failIfUnchanged:=false }) only;refine Aq (zav #v[] ?_);have m6:=n5.pushB' P.sb #v[] d6 u1;refine q_if (λe3=>?_) λe3=>?_
     ·have e3:nb-1=1:=by simpa using e3
      exact Av (hQ _ _ ⟨S5,.inl ⟨_,_,_,_,_,_,_,rfl,m6.first P.sa P.sb e3 P.h0⟩⟩)
     have e3:¬ nb-1=1:=by simpa using e3
     refine Aq (zav (show na1-1<a.size by omega) (Aq (zsi (left:=true) (key:=G a (na1-1)) (arr:=b) (base:=0) (n:=nb-1) (hint:=nb-1-1) (B:=λj=>lt (G b (0+j)) (G a (na1-1))) C S5.i.kind (P.ma _ #v[]) #v[] (λj hj=>P.mb _ #v[]) (λj hj=>rfl) (λi j h1 h2 h3=>?mono2) #v[] λl l1 l2 l3=>?_)))
     case mono2 =>
      have n1:=O.f3 (P.bf (na1-1) (0+j) #v[] #v[]) h3;cases q:lt (G b (0+i)) (G a (na1-1)) with
      |true=>rfl
      |false=>exact absurd (O.tr ((O.f1 (P.bf (na1-1) (0+i) #v[] #v[])).mp q) (leB _ _ #v[] #v[])) n1
     have v1:∀j,j<l->le (G b j) (G a (na1-1)):=λj g1=>by
      have:=l2 j g1;rw[Ce] at this;exact O.f2 this
     have v2:∀j,l<=j->j<nb-1->le (G a (na1-1)) (G b j):=λj g1 g2=>by
      have:=l3 j #v[] #v[];rw[Ce] at this;exact (O.f1 (P.bf (na1-1) j #v[] #v[])).mp this
     have m7:=m6.appB' P.sb l1 #v[] λj g1 g2 i g3=>O.tr (leA i (na1-1) #v[] #v[]) (v2 j g1 g2);dsimp (config:={ failIfUnchanged:=false }) only;generalize hbc:nb-1-l=bc1 at m7 ⊢;generalize hnb:nb-1=nb1 at hbc m7 m6 ⊢;generalize hout:out1.push (G b nb1)=out2 at m7 m6 ⊢;generalize eou:out2=out'
     revert out'
     generalize ena:nb1=na'
     revert na'
     refine zzm (λnb2 out2=>MH le a b out2.toList.reverse na1 nb2/\(∀j,j<nb2->le (G b j) (G a (na1-1)))/\(2<=nb2/\nb2<=b.size)/\x+y+1+na1+nb2<=a.size+b.size) (λhl0=>?_) (λhc H=>?_) λnb2 out3 ⟨n7,u2,b7,p7⟩=>?_
     ·have k0:l=nb1:=by omega
      exact⟨m6,k0 ▸ v1,by omega,by omega⟩
     ·refine q_if (λe4 => ?_) λe4 => ?_
      ·have e4:l=1:=by simpa using e4
       exact Av (hQ _ _ ⟨S5,.inl ⟨_,_,_,_,_,_,_,rfl,m7.first P.sa P.sb e4 P.h0⟩⟩)
      have e4:¬ l=1:=by simpa using e4
      refine q_if (λe6=>?_) λe6=>?_
      ·have e6:l=0:=by simpa using e6
       exact Av (hQ _ _ ⟨S5,.inl ⟨_,_,_,_,_,_,_,rfl,m7.done1 P.sa e6⟩⟩)
      have e6:¬ l=0:=by simpa using e6
      exact H _ _ ⟨m7,v1,by omega,by omega⟩
     dsimp (config:={ failIfUnchanged:=false }) only;refine Aq (zav #v[] ?_);have m8:=n7.pushA' P.sa b8.1 b8.2 u2;refine q_if (λe5=>?_) λe5=>?_
     ·have e5:na1-1=0:=by simpa using e5
      exact Av (hQ _ _ ⟨S5,.inl ⟨_,_,_,_,_,_,_,rfl,m8.done0 P.sb e5⟩⟩)
     have e5:¬ na1-1=0:=by simpa using e5
     refine q_if (λ_=>?_) λ_=>?_
     ·exact Av (hQ _ _ ⟨S5,.inr ⟨_,_,_,_,_,_,rfl,m8,by omega,by omega,by omega,by omega,by omega⟩⟩)
     ·exact Av (hQ _ _ ⟨_,_,_,_,_,_,rfl,S5,m8,by omega,by omega,by omega,by omega,by omega⟩)
end
end Tim
namespace Tim
noncomputable def wr (xs:Array Keyed) (s0:Nat) (l:List Keyed) (m:Nat):Array Keyed:=(l.zipIdx m).foldl (λa (x:Keyed×Nat)=>match x with|(p,j)=>a.setIfInBounds (s0+j) p) xs
theorem zxy (xs:Array Keyed)(s0:Nat)(p:Keyed)(l:List Keyed)(m:Nat):wr xs s0 (p::l) m=wr (xs.setIfInBounds (s0+m) p) s0 l (m+1):=by unfold wr;rw[List.zipIdx_cons,List.foldl_cons]
theorem zyz (s0:Nat):∀(l:List Keyed) (m:Nat) (xs:Array Keyed),(wr xs s0 l m).size=xs.size
 |[],m,xs=>rfl
 |p::l,m,xs=>by rw[zxy,zyz s0 l,Array.size_setIfInBounds]
theorem ydv {xs:Array Keyed}{i k:Nat}{p:Keyed}(h:i<xs.size):G (xs.setIfInBounds i p) k=if i=k then p else G xs k:=by
 unfold G;rw[Array.getElem?_setIfInBounds];split
 ·rename_i e;subst e
  first|rfl|(rw[if_pos h];rfl)
 ·rfl
theorem G_wr (s0:Nat):∀(l:List Keyed) (m:Nat) (xs:Array Keyed),s0+m+l.length<=xs.size->∀i,G (wr xs s0 l m) i=if s0+m<=i/\i<s0+m+l.length then (l[i-(s0+m)]?).getD d0 else G xs i
 |[],m,xs,h,i=>by rw[if_neg (by simp)];rfl
 | p::l,m,xs,h,i=>by
  rw[Be] at h;rw[zxy,G_wr s0 l (m+1) _ (by rw[Array.size_setIfInBounds];omega),ydv #v[]];rw[Be];by_cases c:i=s0+m
  ·subst c
   rw[if_neg #v[],if_pos rfl,if_pos ⟨by omega,by omega⟩,Nat.sub_self]
   rfl
  ·by_cases c2:s0+m ≤ i /\ i<s0+m+(l.length+1)
   ·rw[if_pos ⟨by omega,by omega⟩,if_pos c2,show i-(s0+m)=i-(s0+(m+1))+1 by omega,List.getElem?_cons_succ]
   ·rw[if_neg #v[],if_neg #v[],if_neg c2]
theorem zru {xs:Array Keyed}{i:Nat}(h:i<xs.size):G xs i=xs[i]:=by unfold G;rw[getElem?_pos xs i h];rfl
theorem zrj {xs:Array Keyed}{i j k:Nat}(hj:j<=xs.size)(hk:i+k<j):G (xs.extract i j) k=G xs (i+k):=by
 have h:k<(xs.extract i j).size:=by rw[Array.size_extract];omega
 rw[zru h,Array.getElem_extract,zru #v[]]
theorem zei {xs:Array Keyed}{i j:Nat}(hj:j<=xs.size):(xs.extract i j).size=j-i:=by rw[Array.size_extract];omega
theorem ycn {xs:Array Keyed}{s0 m e:Nat}{r:List Keyed}(h1:s0<=m)(h2:m<=e)(h3:e<=xs.size)(p:r.Perm ((xs.extract s0 m).toList++(xs.extract m e).toList)):Re xs (wr xs s0 r 0) s0 e/\r.length=e-s0:=by
 have hl:r.length=e-s0:=by
  rw[p.length_eq,Bc,Bx,Bx,zei #v[],zei h3];omega
 have hg:=G_wr s0 r 0 xs #v[];refine⟨⟨?_,λi hi=>?_,λi g1 g2=>?_⟩,hl⟩
 ·have e1:(wr xs s0 r 0).toList=xs.toList.take s0++r++xs.toList.drop e:=by
   apply De;intro i;have sz:(wr xs s0 r 0).size=xs.size:=zyz _ _ _ _;by_cases hi:i<xs.size
   ·have a1:(wr xs s0 r 0).toList[i]? = some (G (wr xs s0 r 0) i):=G_list #v[];rw[a1,hg i];by_cases c1:i<s0
    ·rw[if_neg #v[],Ba,Dh (by simp;omega),List.getElem?_take_of_lt c1,G_list hi]
    ·by_cases c2:i<e
     ·rw[if_pos ⟨by omega,by omega⟩,Ba,Ew (by simp;omega),Dh (by simp;omega)];have:(List.take s0 xs.toList).length=s0:=by simp;omega
      rw[this,Nat.add_zero,Ac #v[]]
      rfl
     ·rw[if_neg #v[],Ew (by simp;omega),List.getElem?_drop];have:(List.take s0 xs.toList++r).length=e:=by simp;omega
      rw[this,show e+(i-e)=i by omega,G_list hi]
   ·rw[Bo (by simp;omega),Bo (by simp;omega)]
  have e2:xs.toList=xs.toList.take s0++((xs.extract s0 m).toList++(xs.extract m e).toList)++xs.toList.drop e:=by
   rw[zda,zda];have t1:(xs.toList.drop s0).take (m-s0)++(xs.toList.drop m).take (e-m)=(xs.toList.drop s0).take (e-s0):=by
    rw[show e-s0=(m-s0)+(e-m) by omega,List.take_add,List.drop_drop,show s0+(m-s0)=m by omega]
   rw[t1,Ba];have t2:(xs.toList.drop s0).take (e-s0)++xs.toList.drop e=xs.toList.drop s0:=by
    have:=Bk (e-s0) (xs.toList.drop s0);rw[List.drop_drop,show s0+(e-s0)=e by omega] at this;exact this
   rw[t2,Bk]
  refine Ez.mpr ?_;rw[e1];have q:=(p.append_left (xs.toList.take s0)).append_right (xs.toList.drop e);rw[<-e2] at q;exact q
 ·rw[hg i,if_neg #v[]]
 ·rw[hg i,if_pos ⟨by omega,by omega⟩,Ac #v[]];have hm:=p.mem_iff.mp (List.getElem_mem (l:=r) (n:=i-(s0+0)) #v[]);show ∃j,s0<=j/\j<e/\r[i-(s0+0)]=G xs j;rcases Bq.mp hm with z|z
  ·obtain⟨k,k1,k2,k3⟩:=mem_drop (n:=0) (by rw[Ef];exact z);rw[zei #v[]] at k2;exact⟨s0+k,by omega,by omega,by rw[k3,zrj #v[] #v[]]⟩
  ·obtain⟨k,k1,k2,k3⟩:=mem_drop (n:=0) (by rw[Ef];exact z);rw[zei h3] at k2;exact⟨m+k,by omega,by omega,by rw[k3,zrj h3 #v[]]⟩
section
variable (bf le:Keyed->Keyed->Prop)
noncomputable def Chain (xs:Array Keyed):Nat->List (Nat×Nat×Nat)->Nat->Prop
 |c,[],hi=>c=hi
 |c,(s0,n,_)::r,hi=>s0=c/\1<=n/\Srt le xs c (c+n)/\Cut bf xs c/\Chain xs (c+n) r hi
end
section
variable {bf le:Keyed->Keyed->Prop}{xs ys:Array Keyed}
theorem Chain.len:∀{l:List (Nat×Nat×Nat)}{c hi:Nat},Chain bf le xs c l hi->c+l.length<=hi
 |[],c,hi,h=>by cases h;simp
 | (s0,n,_)::r,c,hi,h=>by
  have:=Chain.len h.2.2.2.2;have:=h.2.1;rw[Be];omega
theorem Chain.app:∀{l l':List (Nat×Nat×Nat)}{c hi:Nat},Chain bf le xs c (l++l') hi↔∃m,Chain bf le xs c l m/\Chain bf le xs m l' hi
 |[],l',c,hi=>⟨λh=>⟨c,rfl,h⟩,λ⟨m,e,h⟩=>by cases e;exact h⟩
 | (s0,n,_)::r,l',c,hi=>⟨λ⟨a1,a2,a3,a4,a5⟩=>by
  obtain⟨m,b1,b2⟩:=Chain.app.mp a5;exact⟨m,⟨a1,a2,a3,a4,b1⟩,b2⟩,λ⟨m,⟨a1,a2,a3,a4,b1⟩,b2⟩=>⟨a1,a2,a3,a4,Chain.app.mpr ⟨m,b1,b2⟩⟩⟩
theorem Chain.re:∀{l:List (Nat×Nat×Nat)}{c hi lo' hi':Nat},Chain bf le xs c l hi->Re xs ys lo' hi'->hi'<=xs.size->(hi<=lo'\/hi'<=c)->Chain bf le ys c l hi
 |[],c,hi,lo',hi',h,_,_,_=>h
 | (s0,n,q)::r,c,hi,lo',hi',⟨a1,a2,a3,a4,a5⟩,R,hz,hc=>by
  have:=Chain.len a5;exact⟨a1,a2,a3.re R #v[],a4.re R hz #v[],Chain.re a5 R hz #v[]⟩
end
section
variable {prog:Program}{w:World}{A:Around}{E:Value->Shared->Prop}{s:Shared}{κ:SortKind}{a₀:Array Keyed}{lt:Keyed->Keyed->Bool}{bf le:Keyed->Keyed->Prop}{st:SortSt}{pd:Array (Nat × Nat × Nat)}
theorem ydw {st':SortSt}{Q:PUnit->SortSt->Prop}(h:Q ⟨⟩ st'):wpS (model prog w) A E s (set st':StateT SortSt Sem PUnit) Q st:=by
 unfold wpS;rw[StateT.run_set];exact Ag ⟨rfl,h⟩
theorem yb9 {st':SortSt}{P:SortSt->Prop}{Q:PUnit->SortSt->Prop}(hp:P st')(h:∀st1,P st1->Q ⟨⟩ st1):wpS (model prog w) A E s (set st':StateT SortSt Sem PUnit) Q st:=ydw (h _ hp)
theorem z8f {l:List (Nat×Nat×Nat)}{i:Nat}(h:i+1<l.length):l=l.take i++l[i]::l[i+1]::l.drop (i+2):=by
 have e1:=Cd (l:=l) (i:=i) #v[];have e2:=Cd (l:=l) (i:=i+1) #v[];have:=Bk i l;rw[e1,e2] at this;exact this.symm
theorem zlq (C:Asks prog w A E s κ a₀ lt) (O:Ord lt bf le) {i lo:Nat}{Q:Bool->SortSt->Prop} (I:SI κ a₀ pd st) (hi:i+1<pd.size) (ch:Chain bf le (arrOf st) 0 pd.toList lo) (hlo:lo<=a₀.size)
  (h:∀st' pd',SI κ a₀ pd' st'->pd'.size+1=pd.size->Chain bf le (arrOf st') 0 pd'.toList lo->Re (arrOf st) (arrOf st') 0 lo->Q true st'):wpS (model prog w) A E s (mergeAt' i) Q st:=by
 have sz:=I.size;have hil:i+1<pd.toList.length:=by simpa using hi
 have es:=z8f hil;obtain⟨⟨sa,na,pw⟩,ea⟩ : ∃t,pd.toList[i]=t:=⟨_,rfl⟩;obtain⟨⟨sb,nb,pw'⟩,eb⟩ : ∃t,pd.toList[i+1]=t:=⟨_,rfl⟩;rw[ea,eb] at es;have ch0:=ch;rw[es] at ch;obtain⟨m,c1,⟨e1,a2,a3,a4,⟨e2,b2,b3,b4,c2⟩⟩⟩:=Chain.app.mp ch;subst e1;subst e2;have l2:=Chain.len c2;have l1:=Chain.len c1;have np:∃pd':Array (Nat×Nat×Nat),pd'=(pd.setIfInBounds i (sa,na+nb,pw)).eraseIdxIfInBounds (i+1)/\pd'.size+1=pd.size/\pd'.toList=pd.toList.take i++(sa,na+nb,pw)::pd.toList.drop (i+2):=by
  refine (λ(q:((pd.setIfInBounds i (sa,na+nb,pw)).eraseIdxIfInBounds (i+1)).toList=_)=>⟨_,rfl,by
   have q2:=congrArg List.length q;rw[Bx,Bc,Be,Ee,Gc,Bx] at q2;omega,q⟩) ?_
  ·rw [Array.toList_eraseIdxIfInBounds,Array.toList_setIfInBounds];have:(pd.toList.set i (sa,na+nb,pw))=pd.toList.take i++(sa,na+nb,pw)::(sa+na,nb,pw')::pd.toList.drop (i+2):=by
    rw[List.set_eq_take_append_cons_drop,if_pos #v[],Cd hil,eb]
   rw[this];have l3:(pd.toList.take i).length=i:=by rw[Ee];omega
   rw[List.eraseIdx_append_of_length_le #v[],l3,show i+1-i=1 by omega]
   rfl
 obtain⟨pd',epd,zpd,lpd⟩:=np;have fin:∀st',kindOf st'=κ->failedOf st'=none->pendingOf st'=pd'->Re (arrOf st) (arrOf st') sa (sa+na+nb)->Srt le (arrOf st') sa (sa+na+nb)->Q true st':=λst' k1 k2 k3 R S=>by
  refine h st' pd' ⟨k1,k2,R.perm.trans I.perm,k3⟩ zpd ?_ (R.mono #v[] #v[]);rw[lpd];refine Chain.app.mpr ⟨sa,c1.re R #v[] (.inl (Af _)),rfl,by omega,?_,a4.re R #v[] (.inl (Af _)),?_⟩
  ·rw[<-Nat.add_assoc];exact S
  ·rw[<-Nat.add_assoc];exact c2.re R #v[] (.inr (Af _))
 have leX:∀i j,sa<=i->i<=j->j<sa+na->le (G (arrOf st) i) (G (arrOf st) j):=λi j h1 h2 h3=>by
  by_cases e:i=j
  ·rw[e];exact O.rf _
  ·exact a3 i j h1 #v[] h3
 have leY:∀i j,sa+na<=i->i<=j->j<sa+na+nb->le (G (arrOf st) i) (G (arrOf st) j):=λi j h1 h2 h3=>by
  by_cases e:i=j
  ·rw[e];exact O.rf _
  ·exact b3 i j h1 #v[] h3
 have bfs:∀i j,i<sa+na->sa+na<=j->j<sa+na+nb->bf (G (arrOf st) i) (G (arrOf st) j):=λi j h1 h2 h3=>b4 i j h1 h2 #v[];have mem:∀i,i<a₀.size->G (arrOf st) i∈a₀.toList:=λi hi=>z77 I.perm #v[];show wpS (model prog w) A E s (get>>=_) Q st;refine Aq (Hj ?_);have g1:(pendingOf st)[i]?=some (sa,na,pw):=by
  rw[I.pend,<-Gb,Ac #v[],ea]
 have g2:(pendingOf st)[i+1]?=some (sa+na,nb,pw'):=by
  rw[I.pend,<-Gb,Ac hil,eb]
 dsimp only;rw[g1,g2];refine Aq (yb9 (P:=SG κ a₀ pd' (arrOf st)) ⟨⟨I.kind,I.failed,I.perm,by have q:=I.pend;subst epd;subst q;rfl⟩,rfl⟩ λst1 S1=>?_);refine Aq (zav (show sa+na<(arrOf st).size by omega) (Aq (zsi (left:=false) (key:=G (arrOf st) (sa+na)) (arr:=arrOf st) (base:=sa) (n:=na) (hint:=0) (B:=λi=>!lt (G (arrOf st) (sa+na)) (G (arrOf st) (sa+i))) C S1.i.kind (mem _ #v[]) #v[] (λi hi=>mem _ #v[]) (λi hi=>rfl) (λi j h1 h2 h3=>?mono1) #v[] λk k1 k2 k3=>?_)))
 case mono1 =>
  have h3':lt (G (arrOf st) (sa+na)) (G (arrOf st) (sa+j))=false:=by simpa using h3
  have z1:=(O.f1 (bfs (sa+j) (sa+na) #v[] #v[] #v[])).mp h3';have z2:=(O.f1 (bfs (sa+i) (sa+na) #v[] #v[] #v[])).mpr (O.tr (leX _ _ #v[] #v[] #v[]) z1);show (!lt (G (arrOf st) (sa+na)) (G (arrOf st) (sa+i)))=true;rw[z2];rfl
 have w1:∀i,sa<=i->i<sa+k->le (G (arrOf st) i) (G (arrOf st) (sa+na)):=λi g1 g2=>by
  have:=k2 (i-sa) #v[];rw[show sa+(i-sa)=i by omega] at this;exact (O.f1 (bfs i (sa+na) #v[] #v[] #v[])).mp (by simpa using this)
 have w2:∀i,sa+k<=i->i<sa+na->le (G (arrOf st) (sa+na)) (G (arrOf st) i):=λi g1 g2=>by
  have:=k3 (i-sa) #v[] #v[];rw[show sa+(i-sa)=i by omega] at this;exact O.f2 (by simpa using this)
 refine q_if (λq1=>?_) λq1=>?_
 ·have q1:na-k=0:=by simpa using q1
  refine Av (fin _ S1.i.kind S1.i.failed S1.i.pend (by rw[S1.e];exact .refl _ _ _) ?_);rw[S1.e];intro i j h1 h2 h3;by_cases c1:j<sa+na
  ·exact a3 i j h1 h2 c1
  ·by_cases c2:i<sa+na
   ·exact O.tr (w1 i h1 #v[]) (leY _ _ (Af _) #v[] h3)
   ·exact b3 i j #v[] h2 h3
 have q1:¬ na-k=0:=by simpa using q1
 have e3:sa+k+(na-k)-1=sa+na-1:=by omega
 refine Aq (zav (show sa+k+(na-k)-1<(arrOf st).size by omega) (Aq (zsi (left:=true) (key:=G (arrOf st) (sa+k+(na-k)-1)) (arr:=arrOf st) (base:=sa+na) (n:=nb) (hint:=nb-1) (B:=λi=>lt (G (arrOf st) (sa+na+i)) (G (arrOf st) (sa+k+(na-k)-1))) C S1.i.kind (mem _ #v[]) #v[] (λi hi=>mem _ #v[]) (λi hi=>rfl) (λi j h1 h2 h3=>?mono2) #v[] λl l1 l2 l3=>?_)))
 case mono2 =>
  have n1:=O.f3 (bfs (sa+k+(na-k)-1) (sa+na+j) #v[] #v[] #v[]) h3;cases q:lt (G (arrOf st) (sa+na+i)) (G (arrOf st) (sa+k+(na-k)-1)) with
  |true=>rfl
  |false=>exact absurd (O.tr ((O.f1 (bfs _ (sa+na+i) #v[] #v[] #v[])).mp q) (leY _ _ #v[] #v[] #v[])) n1
 rw[e3] at l2 l3;have v1:∀j,sa+na<=j->j<sa+na+l->le (G (arrOf st) j) (G (arrOf st) (sa+na-1)):=λj g1 g2=>by
  have:=l2 (j-(sa+na)) #v[];rw[show sa+na+(j-(sa+na))=j by omega] at this;exact O.f2 this
 have v2:∀j,sa+na+l<=j->j<sa+na+nb->le (G (arrOf st) (sa+na-1)) (G (arrOf st) j):=λj g1 g2=>by
  have:=l3 (j-(sa+na)) #v[] #v[];rw[show sa+na+(j-(sa+na))=j by omega] at this;exact (O.f1 (bfs _ j #v[] #v[] g2)).mp this
 refine q_if (λq2=>?_) λq2=>?_
 ·have q2:l=0:=by simpa using q2
  refine Av (fin _ S1.i.kind S1.i.failed S1.i.pend (by rw[S1.e];exact .refl _ _ _) ?_);rw[S1.e];intro i j h1 h2 h3;by_cases c1:j<sa+na
  ·exact a3 i j h1 h2 c1
  ·by_cases c2:i<sa+na
   ·exact O.tr (leX i (sa+na-1) h1 #v[] #v[]) (v2 j #v[] h3)
   ·exact b3 i j #v[] h2 h3
 have q2:¬ l=0:=by simpa using q2
 have sx:((arrOf st).extract (sa+k) (sa+na)).size=na-k:=by rw[zei #v[]];omega
 have sy:((arrOf st).extract (sa+na) (sa+na+l)).size=l:=by rw[zei #v[]];omega
 have gx:∀i,i<na-k->G ((arrOf st).extract (sa+k) (sa+na)) i=G (arrOf st) (sa+k+i):=λi hi=>zrj #v[] #v[];have gy:∀i,i<l->G ((arrOf st).extract (sa+na) (sa+na+l)) i=G (arrOf st) (sa+na+i):=λi hi=>zrj #v[] #v[];have P:MP lt bf le a₀ ((arrOf st).extract (sa+k) (sa+na)) ((arrOf st).extract (sa+na) (sa+na+l)):=by
  refine⟨?_,?_,?_,?_,?_,?_,?_,?_,?_⟩
  ·intro i j h1 h2 h3;rw[sx] at h3;rw[gx i #v[],gx j h3];exact a3 _ _ #v[] #v[] #v[]
  ·intro i j h1 h2 h3;rw[sy] at h3;rw[gy i #v[],gy j h3];exact b3 _ _ #v[] #v[] #v[]
  ·intro i hi;rw[sx] at hi;rw[gx i hi];exact mem _ #v[]
  ·intro i hi;rw[sy] at hi;rw[gy i hi];exact mem _ #v[]
  ·intro i j hi hj;rw[sx] at hi;rw[sy] at hj;rw[gx i hi,gy j hj];exact bfs _ _ #v[] #v[] #v[]
  ·rw[sx];omega
  ·rw[sy];omega
  ·intro i hi;rw[sx] at hi;rw[gx i hi,gy 0 #v[]];exact w2 _ #v[] #v[]
  ·intro j hj;rw[sy] at hj;rw[gy j hj,sx,gx _ #v[],show sa+k+(na-k-1)=sa+na-1 by omega];exact v1 _ #v[] #v[]
 have close:∀(r:Array Keyed) (st2:SortSt),SG κ a₀ pd' (arrOf st) st2->Fin le ((arrOf st).extract (sa+k) (sa+na)) ((arrOf st).extract (sa+na) (sa+na+l)) r.toList ->
   Q true (setArr st2 (wr (arrOf st2) (sa+k) r.toList 0)):=λr st2 S2 F=>by
  obtain⟨R,hl⟩:=ycn (xs:=arrOf st) (s0:=sa+k) (m:=sa+na) (e:=sa+na+l) #v[] #v[] #v[] F.p;have hg:=G_wr (sa+k) r.toList 0 (arrOf st) #v[];refine fin _ S2.i.kind S2.i.failed S2.i.pend ?_ ?_
  ·show Re (arrOf st) (wr (arrOf st2) (sa+k) r.toList 0) sa (sa+na+nb);rw[S2.e];exact R.mono #v[] #v[]
  ·show Srt le (wr (arrOf st2) (sa+k) r.toList 0) sa (sa+na+nb);rw[S2.e];have inm:∀i,sa+k<=i->i<sa+na+l->(∃j,sa+k<=j/\j<sa+na+l/\G (wr (arrOf st) (sa+k) r.toList 0) i=G (arrOf st) j):=λi h1 h2=>R.inn i h1 h2;intro i j h1 h2 h3;by_cases ci:i<sa+k
   ·rw[R.out i (.inl ci)];by_cases cj:j<sa+k
    ·rw[R.out j (.inl cj)];exact a3 i j h1 h2 #v[]
    ·have below:∀z,sa+k<=z->z<sa+na+nb->le (G (arrOf st) i) (G (arrOf st) z):=λz z1 z2=>by
      by_cases c:z<sa+na
      ·exact leX i z h1 #v[] c
      ·exact O.tr (w1 i h1 ci) (leY _ _ (Af _) #v[] z2)
     by_cases cj2:j<sa+na+l
     ·obtain⟨z,z1,z2,z3⟩:=inm j #v[] cj2;rw[z3];exact below z z1 #v[]
     ·rw[R.out j (.inr #v[])];exact below j #v[] h3
   ·by_cases ci2:i<sa+na+l
    ·by_cases cj2:j<sa+na+l
     ·rw[hg i,hg j,if_pos ⟨by omega,by omega⟩,if_pos ⟨by omega,by omega⟩,Ac #v[],Ac #v[]];exact (List.pairwise_iff_getElem.mp F.s) _ _ _ _ #v[]
     ·rw[R.out j (.inr #v[])];obtain⟨z,z1,z2,z3⟩:=inm i #v[] ci2;rw[z3];by_cases c:z<sa+na
      ·exact O.tr (leX z (sa+na-1) #v[] #v[] #v[]) (v2 j #v[] h3)
      ·exact leY z j #v[] #v[] h3
    ·rw[R.out i (.inr #v[]),R.out j (.inr #v[])];exact b3 i j #v[] h2 h3
 have en:∀(r:Array Keyed) (st2:SortSt),SG κ a₀ pd' (arrOf st) st2->Fin le ((arrOf st).extract (sa+k) (sa+na)) ((arrOf st).extract (sa+na) (sa+na+l)) r.toList ->
   Q ((failedOf (setArr st2 (wr (arrOf st2) (sa+k) r.toList 0))).isNone) (setArr st2 (wr (arrOf st2) (sa+k) r.toList 0)):=λr st2 S2 F=>by
  have e:failedOf (setArr st2 (wr (arrOf st2) (sa+k) r.toList 0))=none:=S2.i.failed;rw[e];exact close r st2 S2 F
 refine q_if (λ_=>?_) λ_=>?_
 ·exact Aq (yda C O S1 P λr st2 S2 F=>Aq (wpS_modify (Aq (Hj (Av (en r st2 S2 F))))))
 ·exact Aq (yd3 C O S1 P λr st2 S2 F=>Aq (wpS_modify (Aq (Hj (Av (en r st2 S2 F))))))
end
end Tim
namespace Tim
section
variable {prog:Program}{w:World}{A:Around}{E:Value->Shared->Prop}{s:Shared}{κ:SortKind}{a₀:Array Keyed}{lt:Keyed->Keyed->Bool}{bf le:Keyed->Keyed->Prop}{st:SortSt}{pd:Array (Nat × Nat × Nat)}
structure SP (κ:SortKind) (bf le:Keyed->Keyed->Prop) (a₀:Array Keyed) (lo:Nat) (st:SortSt):Prop where
 kind:kindOf st=κ
 failed:failedOf st=none
 perm:(arrOf st).Perm a₀
 ch:Chain bf le (arrOf st) 0 (pendingOf st).toList lo
 cut:∀c,lo<=c->Cut bf (arrOf st) c
theorem SP.si {lo:Nat}(h:SP κ bf le a₀ lo st):SI κ a₀ (pendingOf st) st:=⟨h.kind,h.failed,h.perm,rfl⟩
theorem zmh:∀{l:List (Nat×Nat×Nat)}{i c hi pw:Nat}{xs:Array Keyed},Chain bf le xs c l hi->Chain bf le xs c (l.modify i λx=>match x with|(a,b,_)=>(a,b,pw)) hi
 |[],i,c,hi,pw,xs,h=>by cases i<;>exact h
 |(s0,n,q)::r,0,c,hi,pw,xs,h=>h
 |(s0,n,q)::r,i+1,c,hi,pw,xs,⟨a1,a2,a3,a4,a5⟩=>⟨a1,a2,a3,a4,zmh a5⟩
theorem zxg {f:SortSt->SortSt}{P:SortSt->Prop}{Q:PUnit->SortSt->Prop}(hp:P (f st))(h:∀st1,P st1->Q ⟨⟩ st1):wpS (model prog w) A E s (modify f:StateT SortSt Sem PUnit) Q st:=wpS_modify (h _ hp)
theorem q_sort (C:Asks prog w A E s κ a₀ lt) (O:Ord lt bf le) {Q:Unit->SortSt->Prop} (I:SI κ a₀ #[] st) (ea:arrOf st=a₀) (hb:∀c,Cut bf a₀ c)
  (h:∀st',failedOf st'=none->(arrOf st').Perm a₀->Srt le (arrOf st') 0 a₀.size->Q () st'):wpS (model prog w) A E s sortRuns' Q st:=by
 rw [sortRuns'_eq];refine Aq (Hj ?_);have sz:=I.size;rw [sz];dsimp only;have P0:SP κ bf le a₀ 0 st:=⟨I.kind,I.failed,I.perm,by rw [I.pend];rfl,λc _=>by rw [ea];exact hb c⟩;refine Aq (Dv (Cg (I:=λx c s2=>∃lo,c=(none,lo)/\x<=lo/\lo<=a₀.size/\SP κ bf le a₀ lo s2)
  (Q:=λc s2=>c=(none,a₀.size)/\SP κ bf le a₀ a₀.size s2) ?os ?of ⟨0,rfl,by omega,by omega,P0⟩) ?op)
 case of =>
  rintro c s2 ⟨lo,rfl,h1,h2,P⟩;have e:lo=a₀.size:=by omega
  subst e;exact⟨rfl,P⟩
 case os =>
  rintro x c s2 _ hx ⟨lo,rfl,h1,h2,P⟩;refine q_if (λg=>?_) λg=>?_
  ·have e:lo=a₀.size:=by omega
   subst e;exact Av ⟨rfl,P⟩
  have g:lo<a₀.size:=by omega
  refine Aq (z58 C O P.si (show lo+(a₀.size-lo)<=a₀.size by omega) #v[] P.cut λn s3 I3 n1 n2 R3 S3=>?_);have z3:=I3.size;have z2:=P.si.size;have c3:∀c,lo+n<=c->Cut bf (arrOf s3) c:=λc hc=>(P.cut c #v[]).re R3 #v[] (.inr hc);dsimp only;refine q_if (λg2=>?_) λg2=>?_;refine Aq (wpS_lift (Dc ⟨rfl,?_⟩));refine Aq (ydc C O I3 (show lo+min (a₀.size-lo) (minRun' a₀.size a₀.size 0)<=a₀.size by omega) #v[] n1 S3 c3 λs4 I4 R4 S4=>?_);refine q_if (λz=>by simp at z) λ_=>?_;have hm:1<=min (a₀.size-lo) (minRun' a₀.size a₀.size 0):=by omega
  have hM:lo+min (a₀.size-lo) (minRun' a₀.size a₀.size 0)<=a₀.size:=by omega
  have R5:Re (arrOf s2) (arrOf s4) lo (lo+min (a₀.size-lo) (minRun' a₀.size a₀.size 0)):=(R3.mono (Af _) #v[]).trans R4;generalize min (a₀.size-lo) (minRun' a₀.size a₀.size 0)=m at I4 R4 S4 hm hM R5 ⊢;clear I3 R3 S3 z3 c3 R4 g2
  rotate_left
  have hm:=n1;have hM:lo+n<=a₀.size:=by omega
  have R5:=R3;have I4:=I3;have S4:=S3;clear I3 R3 S3 z3 c3 g2;generalize n=m at I4 S4 hm hM R5 ⊢;generalize s3=s4 at I4 S4 R5 ⊢
  rotate_left
  all_goals
   have z4:=I4.size;have c4:∀c,lo+m<=c->Cut bf (arrOf s4) c:=λc hc=>(P.cut c (by omega)).re R5 (by omega) (.inr hc);have k4:Cut bf (arrOf s4) lo:=(P.cut lo (Af _)).re R5 (by omega) (.inl (Af _));have ch4:Chain bf le (arrOf s4) 0 (pendingOf s4).toList lo:=by
    rw[I4.pend];exact P.ch.re R5 #v[] (.inl (Af _))
   have K4:kindOf s4=κ/\failedOf s4=none/\(arrOf s4).Perm a₀:=⟨I4.kind,I4.failed,I4.perm⟩;clear I4 R5;refine Aq (Hj ?_);have push:∀s5,kindOf s5=κ->failedOf s5=none->(arrOf s5).Perm a₀->Chain bf le (arrOf s5) 0 (pendingOf s5).toList lo->Srt le (arrOf s5) lo (lo+m)->Cut bf (arrOf s5) lo->(∀c,lo+m<=c->Cut bf (arrOf s5) c) ->
     SP κ bf le a₀ (lo+m) (setPending s5 ((pendingOf s5).push (lo,m,0))):=λs5 a1 a2 a3 a4 a5 a6 a7=>by
    refine⟨a1,a2,a3,?_,a7⟩;show Chain bf le (arrOf s5) 0 ((pendingOf s5).push (lo,m,0)).toList (lo+m);rw[Do];exact Chain.app.mpr ⟨lo,a4,rfl,hm,a5,a6,rfl⟩
   cases q:(pendingOf s4).back? with
   | none =>
    exact Aq (zxg (P:=SP κ bf le a₀ (lo+m)) (push s4 K4.1 K4.2.1 K4.2.2 ch4 S4 k4 c4) λs6 P6=>Av ⟨lo+m,rfl,by omega,hM,P6⟩)
   | some t =>
    obtain ⟨s1,n1',p1⟩:=t;dsimp only;refine Aq (Dv (Cg (I:=λy c s5=>c=(none,())/\(kindOf s5=κ/\failedOf s5=none/\(arrOf s5).Perm a₀)/\Chain bf le (arrOf s5) 0 (pendingOf s5).toList lo/\Srt le (arrOf s5) lo (lo+m)/\Cut bf (arrOf s5) lo/\∀c,lo+m<=c->Cut bf (arrOf s5) c)
     (Q:=λc s5=>c=(none,())/\(kindOf s5=κ/\failedOf s5=none/\(arrOf s5).Perm a₀)/\Chain bf le (arrOf s5) 0 (pendingOf s5).toList lo/\Srt le (arrOf s5) lo (lo+m)/\Cut bf (arrOf s5) lo/\∀c,lo+m<=c->Cut bf (arrOf s5) c) ?ms ?mf ⟨rfl,K4,ch4,S4,k4,c4⟩) ?mp)
    case mf =>
     intro c s5 z;exact z
    case mp =>
     rintro c s5 ⟨rfl,K5,ch5,S5,k5,c5⟩;dsimp only;refine Aq (zxg (P:=λs6=>(kindOf s6=κ/\failedOf s6=none/\(arrOf s6).Perm a₀)/\Chain bf le (arrOf s6) 0 (pendingOf s6).toList lo/\Srt le (arrOf s6) lo (lo+m)/\Cut bf (arrOf s6) lo/\∀c,lo+m<=c->Cut bf (arrOf s6) c) ⟨K5,?_,S5,k5,c5⟩ λs6 z6=>?_)
     ·show Chain bf le (arrOf s5) 0 ((pendingOf s5).modify _ _).toList lo
      rw[Array.toList_modify];exact zmh ch5
     ·refine aG λGg qG => ?_
      obtain⟨K6,ch6,S6,k6,c6⟩:=z6;ac_rfl;exact Aq (zxg (P:=SP κ bf le a₀ (lo+m)) (push s6 K6.1 K6.2.1 K6.2.2 ch6 S6 k6 c6) λs7 P7=>Av ⟨lo+m,rfl,by omega,hM,P7⟩)
    case ms =>
     rintro y c s5 _ hy ⟨rfl,K5,ch5,S5,k5,c5⟩;refine Aq (Hj ?_)
     try dsimp only
     by_cases g4:(pendingOf s5).size > 1
     ·rw [if_pos g4]
      obtain⟨⟨t1,t2,t3⟩,et⟩ : ∃t,(pendingOf s5)[(pendingOf s5).size-2]?=some t:=⟨_,getElem?_pos _ _ #v[]⟩;rw[et];dsimp only;refine q_if (λ_=>Av ⟨rfl,K5,ch5,S5,k5,c5⟩) λ_=>?_;refine Aq (zlq C O (i:=(pendingOf s5).size-2) (lo:=lo) ⟨K5.1,K5.2.1,K5.2.2,rfl⟩ #v[] ch5 h2 λs6 pd6 I6 z6 ch6 R6=>?_);have zz:=K5.2.2.size_eq;refine q_if (λz=>by simp at z) λ_=>?_;refine Av ⟨rfl,⟨I6.kind,I6.failed,I6.perm⟩,by rw[I6.pend];exact ch6,S5.re R6 (.inr (Af _)),k5.re R6 #v[] (.inr (Af _)),λc hc=>(c5 c hc).re R6 #v[] (.inr #v[])⟩
     ·rw [if_neg g4]
      exact Av ⟨rfl,K5,ch5,S5,k5,c5⟩
 case op =>
  rintro c s2 ⟨rfl,P⟩;have l0:=Chain.len P.ch;rw [Bx] at l0;have one:∀s3,SP κ bf le a₀ a₀.size s3->(pendingOf s3).size<=1->Srt le (arrOf s3) 0 a₀.size:=λs3 P3 h1=>by
   have hc:=P3.ch;have e1:(pendingOf s3).toList.length<=1:=by simpa using h1
   revert hc e1
   generalize (pendingOf s3).toList=l;intro hc e1
   match l,hc,e1 with
   | [],hc,_ =>
    have:0=a₀.size:=hc;intro i j g1 g2 g3;omega
   | [(s0,n,q)],⟨b1,b2,b3,b4,b5⟩,_ =>
    have:0+n=a₀.size:=b5;rw[<-this];exact b3
   |_::_::_,_,e1=>simp at e1
  refine Aq (Dv (Cg (I:=λy c s3=>c=(none,())/\SP κ bf le a₀ a₀.size s3/\((pendingOf s3).size<=1\/(pendingOf s3).size+y<=a₀.size)) (Q:=λc s3=>c=(none,())/\SP κ bf le a₀ a₀.size s3/\(pendingOf s3).size<=1) ?fs ?ff ⟨rfl,P,.inr #v[]⟩) ?fp)
  case ff =>
   rintro c s3 ⟨hc,P3,z⟩;exact⟨hc,P3,by omega⟩
  case fp =>
   rintro c s3 ⟨rfl,P3,z⟩;exact Av (h s3 P3.failed P3.perm (one s3 P3 z))
  case fs =>
   rintro y c s3 _ hy ⟨rfl,P3,z⟩;refine Aq (Hj ?_);refine q_if (λg=>Av ⟨rfl,P3,g⟩) λg=>?_;have zz:=P3.perm.size_eq;have go:∀i,i+1<(pendingOf s3).size->wpS (model prog w) A E s (mergeAt' i) (λb s4=>b=true/\SP κ bf le a₀ a₀.size s4/\((pendingOf s4).size<=1\/(pendingOf s4).size+(y+1)<=a₀.size)) s3:=λi hi =>
    zlq C O (lo:=a₀.size) P3.si hi P3.ch (Af _) λs4 pd4 I4 z4 ch4 R4=>⟨rfl,⟨I4.kind,I4.failed,I4.perm,by rw[I4.pend];exact ch4,λc hc=>(P3.cut c hc).re R4 #v[] (.inr hc)⟩,by rw[I4.pend];omega⟩
   refine Aq (Dv (go _ (by
    have g' : ¬ (pendingOf s3).size<=1:=g;generalize (if (pendingOf s3).size-2 > 0 then Option.map (λx=>x.snd.fst) (pendingOf s3)[(pendingOf s3).size-2-1]? else none)=bf9
    try dsimp only
    split<;>omega)) λb s4 z4=>?_)
   obtain⟨rfl,P4,z5⟩:=z4;refine q_if (λz=>by simp at z) λ_=>?_;exact Av ⟨rfl,P4,z5⟩
end
end Tim
end L2
namespace L2
open PySem PySem.Spec PyProof.Rows
open PySem.AutoSeq1 (wpAny_loadPart')
open PySem.SeqAt
noncomputable def lexI:List Int->List Int->Bool
 |[],[]=>false
 |[],_::_=>true
 |_::_,[]=>false
 |a::as,b::bs=>if a=b then lexI as bs else decide (a<b)
theorem zd4:∀xs,lexI xs xs=false
 |[]=>rfl
 |a::as=>by unfold lexI;rw[if_pos rfl];exact zd4 as
theorem zfn:∀{xs ys zs:List Int},lexI xs ys=true->lexI ys zs=true->lexI xs zs=true
 |[],[],_,h,_=>by cases h
 |[],_::_,[],_,h=>by cases h
 |[],_::_,_::_,_,_=>rfl
 |_::_,[],_,h,_=>by cases h
 |_::_,_::_,[],_,h=>by cases h
 | a::as,b::bs,c::cs,h1,h2=>by
  unfold lexI at h1 h2 ⊢;by_cases e1:a=b
  ·subst e1
   rw[if_pos rfl] at h1;by_cases e2:a=c
   ·rw[if_pos e2] at h2 ⊢;exact zfn h1 h2
   ·rw[if_neg e2] at h2 ⊢;exact h2
  ·rw [if_neg e1] at h1
   have l1:=At h1;by_cases e2:b=c
   ·subst e2;rw[if_neg e1];exact h1
   ·rw [if_neg e2] at h2
    have l2:=At h2;rw[if_neg #v[]];exact Aj #v[]
theorem zjw:∀{xs ys:List Int},lexI xs ys=false->lexI ys xs=false->xs=ys
 |[],[],_,_=>rfl
 |[],_::_,h,_=>by cases h
 |_::_,[],_,h=>by cases h
 | a::as,b::bs,h1,h2=>by
  unfold lexI at h1 h2;by_cases e:a=b
  ·subst e
   rw[if_pos rfl] at h1 h2;rw[zjw h1 h2]
  ·rw [if_neg e] at h1
   rw[if_neg (λz=>e z.symm)] at h2;have:=Gy h1;have:=Gy h2;omega
theorem ztf (l b:Addr) (items items2:Array Value) (n n2:Nat) (dd dd2:Option Addr) (sl sl2:Array (Option Value)) (ns ms:List Int) (h1:IntsAre items.toList ns) (h2:IntsAre items2.toList ms) :
  Meets (Builtin.«tuple.__lt__» ⟨[.ref l,.ref b],[]⟩)
   (λA R s=>s.heap.get? l=some { cls:=.type "tuple",dict:=dd,data:=.seq items n,slots:=sl }/\s.heap.get? b=some { cls:=.type "tuple",dict:=dd2,data:=.seq items2 n2,slots:=sl2 } /\
    R (.ok (.ret (.bool (lexI ns ms)))) s) :=
 .of_wp λprog w A R s h=>by
  obtain⟨hp,g,d,tk,os⟩:=s;obtain⟨hl,hb,h⟩:=h;have f2:=AutoSeq1.sub_tuple_tuple;have e1:items.size=ns.length:=by have:=h1.length;simpa using this
  have e2:items2.size=ms.length:=by have:=h2.length;simpa using this
  wp_walk using Dl hl,Dl hb,wpAny_forIn_list _ (λrest b s'=>b.1=none/\s'=⟨hp,g,d,tk,os⟩/\∃xs ys ns' ms',rest=List.zip xs ys/\IntsAre xs ns'/\IntsAre ys ms'/\ns.length+ms'.length=ns'.length+ms.length /\
   R (.ok (.ret (.bool (lexI ns' ms')))) ⟨hp,g,d,tk,os⟩) _
  case turn =>
   rintro ⟨y,x⟩ rest b s' ⟨hb',rfl,xs,ys,ns',ms',hz,i1,i2,hln,hR⟩;cases i1 with
   |nil=>simp at hz
   | cons a t i1 =>
    cases i2 with
    |nil=>simp at hz
    | cons c u i2 =>
     rw[Bn] at hz;injection hz with hyx hrest;cases hyx;unfold lexI at hR;refine Aa (wpAny_eqBool_int ?_);by_cases q:a=c
     ·rw [if_pos q] at hR
      have:(a==c)=true:=by simpa using q
      rw[this]
      wp_walk
      exact⟨rfl,rfl,_,_,_,_,hrest,i1,i2,by simp at hln;omega,hR⟩
     ·rw [if_neg q] at hR
      have:(a==c)=false:=by simpa using q
      rw[this];simp only [Bool.not_false,Fi];refine Aa (Dc ?_);refine Aa (show wpAny _ _ (compareOp .Lt _ _) _ _ _ from PyProof.Rows.lt_int ?_)
      wp_walk
      exact⟨_,rfl,by simpa using hR⟩
  case fin =>
   rintro ⟨b1,b2⟩ s' ⟨hb',rfl,xs,ys,ns',ms',hz,i1,i2,hln,hR⟩;simp only at hb';subst hb'
   wp_walk
   refine ⟨_,rfl,?_⟩;have:lexI ns' ms'=decide (items.size<items2.size):=by
    rw[e1,e2];cases i1 with
    | nil =>
     cases i2 with
     |nil=>unfold lexI;symm;apply Ay;simp at hln;omega
     |cons c u i2=>unfold lexI;symm;apply Aj;simp at hln;omega
    | cons a t i1 =>
     cases i2 with
     |nil=>unfold lexI;symm;apply Ay;simp at hln;omega
     |cons c u i2=>simp at hz
   rw[this] at hR;simpa [Builtin.Tuple.tupleCompareSizes] using hR
  case h =>
   exact⟨rfl,rfl,items.toList,items2.toList,ns,ms,rfl,h1,h2,by omega,by simpa using h⟩
theorem zo9 {xs ys zs:List Int} (h:lexI xs zs=true):lexI xs ys=true\/lexI ys zs=true:=by
 cases q:lexI xs ys with
 |true=>exact .inl rfl
 | false =>
  cases q2:lexI ys xs with
  |true=>exact .inr (zfn q2 h)
  |false=>rw[zjw q q2] at h;exact .inr h
theorem zx8 (kf:Value->List Int):Tim.Ord (λx y:Keyed=>lexI (kf x.1) (kf y.1)) (λ_ _=>True) (λx y=>lexI (kf y.1) (kf x.1)=false) where
 tr:=λ{x y z} h1 h2=>by
  cases q:lexI (kf z.1) (kf x.1) with
  |false=>rfl
  | true =>
   rcases zo9 (ys:=kf y.1) q with a|a
   ·rw[h2] at a;cases a
   ·rw[h1] at a;cases a
 tot:=λx y=>by
  cases q:lexI (kf y.1) (kf x.1) with
  |false=>exact .inl rfl
  | true =>
   right
   cases q2:lexI (kf x.1) (kf y.1) with
   |false=>rfl
   | true =>
    have:=zfn q q2;rw[zd4] at this;cases this
 f1:=λ_=>Iff.rfl
 f2:=λ{x y} h=>by
  cases q2:lexI (kf y.1) (kf x.1) with
  |false=>rfl
  | true =>
   have:=zfn h q2;rw[zd4] at this;cases this
 irr:=λx=>zd4 _
 ltr:=λh1 h2=>zfn h1 h2
 nt:=λy h=>zo9 h
section
variable {prog:Program}{w:World}{A:Around}{E:Value->Shared->Prop}{s:Shared}{a₀:Array Keyed}
theorem zt3 {κ:SortKind}{lt:Keyed->Keyed->Bool}(h:∀(x y:Keyed) (E:Value->Shared->Prop) (Q:Bool->Shared->Prop),x∈a₀.toList->y∈a₀.toList->Q (lt x y) s->wpAny (model prog w) A (keyLt' κ x.1 y.1) Q E s):Tim.Asks prog w A E s κ a₀ lt:=λx y st Q hx hy hk hq=>by
 rw[lt'_eq];refine Aq (Hj ?_);rw[hk];refine Aq (wpS_lift (Fs (h x y _ _ hx hy ⟨rfl,?_⟩)));exact Av hq
theorem zq4 {kf:Value->List Int}(h:∀x∈a₀.toList,∃n t,x.1=.int n t/\kf x.1=[n]):Tim.Asks prog w A E s oneType' a₀ (λx y=>lexI (kf x.1) (kf y.1)):=zt3 λx y E Q hx hy hq=>by
 nofun;obtain⟨n,t,e1,e2⟩:=h x hx;obtain⟨m,u,e3,e4⟩:=h y hy;ac_rfl;rw[keyLt'_oneType,e1,e3];refine oneLt_int ?_;have e:lexI (kf x.1) (kf y.1)=decide (n<m):=by
  rw[e2,e4];unfold lexI;by_cases q:n=m
  ·rw[if_pos q];subst q;simp [lexI]
  ·rw[if_neg q]
 rw[<-e];exact hq
theorem eqv_ints:∀ns ms:List Int,PyData.eqvAll (ns.map .int) (ms.map .int)=decide (ns=ms)
 |[],[]=>by simp [PyData.eqvAll]
 |[],_::_=>by simp [PyData.eqvAll]
 |_::_,[]=>by simp [PyData.eqvAll]
 | a::ns,b::ms=>by
  rw[Am,Am,PyData.eqvAll,eqv_ints ns ms,PyData.eqv];by_cases h:a=b
  ·simp [h]
  ·simp [h]
theorem ze0 {h:Heap}:∀{its:List Value}{ns:List Int},IntsAre its ns->ReadsAll h its (ns.map .int) []
 |_,_,.nil=>.nil
 |_,_,.cons n t r=>.cons (.int n t) (ze0 r)
theorem zna {h:Heap}{b:Addr}{its:List Value}{ns:List Int}(q:IsTup h b its.toArray)(r:IntsAre its ns):Reads h (.ref b) (.tuple (ns.map .int)) []:=by
 obtain⟨o,g1,g2,n,g3⟩:=id q;exact .tuple g1 g2 g3 (by simpa using ze0 r)
theorem zqu (ns:List Int):PyData.canLay0 (.tuple (ns.map .int))=true:=by
 rw[PyData.canLay0];exact canLayAll_ints ns
theorem depth_ints (ns:List Int):PyData.depth (.tuple (ns.map .int))<=1:=by
 rw[PyData.depth,depthAll_ints]
 decide
theorem z0y {b b':Addr}{its its':List Value}{ns ns':List Int}{Q:Bool->Shared->Prop} (hu:A.units+1<cLine) (q2:IsTup s.heap b its.toArray) (q3:IntsAre its ns) (p2:IsTup s.heap b' its'.toArray) (p3:IntsAre its' ns') (h:Q (decide (ns=ns')) s) :
  wpAny (model prog w) A (eqBool (.ref b) (.ref b')) Q E s:=by
 refine PySem.SeqAt.eqBoolOverData prog w A E s _ _ _ _ [] [] Q (zna q2 q3) (zna p2 p3) (zqu ns) (zqu ns') ?_ ?_
 ·have:=depth_ints ns;omega
 ·have e:PyData.eqv (.tuple (ns.map .int)) (.tuple (ns'.map .int))=decide (ns=ns'):=by rw[PyData.eqv];exact eqv_ints ns ns'
  rw[e];exact h
theorem z1s {b b':Addr}{its its':List Value}{ns ns':List Int}{Q:Value->Shared->Prop} (hu:A.units<cLine) (q2:IsTup s.heap b its.toArray) (q3:IntsAre its ns) (p2:IsTup s.heap b' its'.toArray) (p3:IntsAre its' ns') (h:Q (.bool (lexI ns ns')) s) :
  wpAny (model prog w) A (compareOp .Lt (.ref b) (.ref b')) Q E s:=by
 nofun;obtain⟨⟨cls,dd,data,sl⟩,ho,hc,n,hd⟩:=id q2;obtain⟨⟨cls2,dd2,data2,sl2⟩,ho2,hc2,n2,hd2⟩:=id p2;ac_rfl;simp only at hc hd hc2 hd2;subst hc hd hc2 hd2;exact richCompare_meets_room (op:=.Lt) ⟨_,ho,rfl⟩ ⟨_,ho2,rfl⟩ F.slot_tuple_lt F.entry_tuple_lt (F.args_tuple_lt_2 _ _) (ztf b b' its.toArray its'.toArray n n2 dd dd2 sl sl2 ns ns' (by simpa using q3) (by simpa using p3))
  ⟨ho,ho2,show Value.bool (lexI ns ns')≠Value.notImplemented/\Q (.bool (lexI ns ns')) s from ⟨(λx=>nomatch x),h⟩⟩ hu
structure KeyT (h:Heap) (v:Value) (k:List Int):Prop where
 ex:∃(a b:Addr) (i:Int) (t:Tok) (ns:List Int) (its:List Value) (c:Value),v=.ref a/\k=i::ns/\IsTup h a [.int i t,c].toArray/\c=.ref b/\IsTup h b its.toArray/\IntsAre its ns
theorem z01 {kf:Value->List Int}(hu:A.units+2<cLine)(h:∀x∈a₀.toList,KeyT s.heap x.1 (kf x.1)):Tim.Asks prog w A E s (tuples' true) a₀ (λx y=>lexI (kf x.1) (kf y.1)):=zt3 λx y E Q hx hy hq=>by
 nofun;obtain⟨a,b,i,t,ns,its,c,e1,e2,q1,rfl,q2,q3⟩:=(h x hx).ex;obtain⟨a',b',i',t',ns',its',c',f1,f2,p1,rfl,p2,p3⟩:=(h y hy).ex;ac_rfl;rw[e2,f2] at hq;rw[e1,f1];nofun;obtain⟨o,g1,g2,n,g3⟩:=id q1;obtain⟨o',k1,k2,n',k3⟩:=id p1;ac_rfl;refine PySem.W.kat_lt g1 g3 k1 k3 ?_;refine PySem.W.kat_cons (wpAny_eqBool_int ?_);unfold lexI at hq;by_cases z:i=i'
 ·have zz:(i==i')=true:=by simpa using z
  rw[zz];rw[if_pos z] at hq;refine PySem.W.kat_yes (PySem.W.kat_cons (z0y #v[] q2 q3 p2 p3 ?_));by_cases z2:ns=ns'
  ·rw[Aj z2];refine PySem.W.kat_yes (PySem.W.kat_nil ?_);subst z2;rw[zd4] at hq;exact hq
  ·rw[Ay z2];refine PySem.W.kat_no ?_;exact PySem.W.kat_one _ _ (z1s #v[] q2 q3 p2 p3 hq)
 ·have zz:(i==i')=false:=by simpa using z
  rw[zz];rw[if_neg z] at hq;refine PySem.W.kat_no ?_;exact oneLt_int hq
end
end L2
namespace L2
open PySem PySem.Spec PyProof.Rows
section
variable {prog:Program}{w:World}{A:Around}{E:Value->Shared->Prop}{s:Shared}{a kS:Addr}{e e1:Nat}{keys:Array Value}{vs:List Value}{P:PySem.Fin->Shared->Prop}
theorem z13 {st:SortSt} (hk:s.heap.get? kS=some (seqObj "list" keys e)) (ha:s.heap.get? a=some (seqObj "list" #[] e1)) (hne:kS≠a) (hz:keys.size<=sizeLine) (hz2:(arrOf st).size<=sizeLine) (hf:failedOf st=none)
  (h:∀h' c,h'.get? a=some (seqObj "list" ((arrOf st).map (·.2)) c)->(∀b o,b≠a->b≠kS->s.heap.get? b=some o->h'.get? b=some o)->P (.done (.ret .none)) { s with heap:=h' }):wpAny (model prog w) A (ksk_tail a false e1 (.ref kS) st) P E s:=by
 have s1:=Ct s.heap kS #v[6,8];have na1:(s.heap.update kS #v[6,8]).get? a=some (seqObj "list" #[] e1):=(s1.2 a hne.symm).trans ha;have s2:=Ct (s.heap.update kS #v[6,8]) a (Obj.mapSeq λ_=>(arrOf st).map (·.2));unfold ksk_tail
 try dsimp only
 refine Aa (Fm hk rfl ?_ hz (Bm _));refine Aa (Ga ?_);refine Aa (seqEpoch_at na1 rfl ?_);refine Aa (Fm na1 rfl ?_ (Bm _) (by simp only [Cm,Fe,Array.size_map];omega));rw[hf];simp only [bne_self_eq_false,Cm,Fe];refine Ag (h _ _ (Gj na1 λ_=>(arrOf st).map (·.2)) λb o n1 n2 eb=>?_);exact (s2.2 b n1).trans ((s1.2 b n2).trans eb)
theorem z6v {κ:SortKind}{kf:Value->List Int} (hk:s.heap.get? kS=some (seqObj "list" keys e)) (ha:s.heap.get? a=some (seqObj "list" #[] e1)) (hne:kS≠a) (hl:keys.size=vs.length) (hz:vs.length<=sizeLine)
  (kd:2<=vs.length->∀Q':SortKind->Shared->Prop,Q' κ s->wpAny (model prog w) A (keyKind' keys) Q' E s)
  (C:Tim.Asks prog w A E s κ (keys.zip vs.toArray) (λx y=>lexI (kf x.1) (kf y.1)))
  (h:∀(r:List Keyed) h' c,r.Perm (keys.toList.zip vs)->r.Pairwise (λx y=>lexI (kf y.1) (kf x.1)=false)->h'.get? a=some (seqObj "list" (r.map (·.2)).toArray c)->(∀b o,b≠a->b≠kS->s.heap.get? b=some o->h'.get? b=some o)->P (.done (.ret .none)) { s with heap:=h' }) :
  wpAny (model prog w) A (ksk_end a false vs.toArray e1 (.ref kS) keys) P E s:=by
 have hzs:(keys.zip vs.toArray).size=vs.length:=by rw[Array.size_zip,hl,Ah,Nat.min_self]
 have fin:∀st:SortSt,(arrOf st).Perm (keys.zip vs.toArray)->failedOf st=none->Tim.Srt (λx y=>lexI (kf y.1) (kf x.1)=false) (arrOf st) 0 (keys.zip vs.toArray).size->wpAny (model prog w) A (ksk_tail a false e1 (.ref kS) st) P E s:=λst hp hf hs=>by
  refine z13 hk ha hne #v[] (by rw[hp.size_eq,hzs];exact hz) hf λh' c ea kp=>?_;refine h (arrOf st).toList h' c ?_ (Tim.srt_list (by rw[hp.size_eq];exact hs)) (by rw[ea,<-Array.toList_map,Gi]) kp;rw[<-ksk_zip];exact Ez.mp hp
 unfold ksk_end
 try dsimp only
 simp only [Cm,Fe];by_cases h2:vs.toArray.size<2
 ·rw[if_pos h2,if_pos h2];refine Aa (Ag ?_);rw[StateT.run_pure];refine Aa (Ag ?_)
  try dsimp only
  refine fin (SortSt.mk' general' (keys.zip vs.toArray) #[] 7 none) (Array.Perm.refl _) rfl λi j _ h3 h4=>?_;rw[Ah] at h2;omega
 ·rw [if_neg h2,if_neg h2];rw [Ah] at h2;refine Aa (kd (by omega) _ ?_);refine Aa (Cj (Tim.q_sort (bf:=λ_ _=>True) (st:=SortSt.mk' κ (keys.zip vs.toArray) #[] 7 none) (Q:=λ_ st'=>(arrOf st').Perm (keys.zip vs.toArray)/\failedOf st'=none/\Tim.Srt (λx y=>lexI (kf y.1) (kf x.1)=false) (arrOf st') 0 (keys.zip vs.toArray).size)
   C (zx8 kf) ⟨rfl,rfl,Array.Perm.refl _,rfl⟩ rfl (λ_ _ _ _ _ _=>trivial) λst' a1 a2 a3=>⟨a2,a1,a3⟩) ?_ λ_ _ e=>e)
  rintro ⟨⟨⟩,st'⟩ s' ⟨rfl,hp,hf,hs⟩
  try dsimp only
  exact fin st' hp hf hs
end
noncomputable abbrev KP:=List Int×W
def insK (x:KP):List KP->List KP
 |[]=>[x]
 |y::ys=>if lexI x.1 y.1 then x::y::ys else y::insK x ys
noncomputable def zlw:List KP->List KP
 |[]=>[]
 |x::xs=>insK x (zlw xs)
theorem zgr (x:KP):∀l,(insK x l).Perm (x::l)
 |[]=>.refl _
 | y::ys=>by
  unfold insK;split
  ·exact .refl _
  ·exact ((zgr x ys).cons y).trans (.swap x y ys)
theorem zf4:∀l:List KP,(zlw l).Perm l
 |[]=>.refl _
 |x::xs=>(zgr x _).trans ((zf4 xs).cons x)
abbrev leK (x y:KP):Prop:=lexI y.1 x.1=false
theorem ybb {x y z:KP} (h1:leK x y) (h2:leK y z):leK x z:=by
 unfold leK at *
 cases q:lexI z.1 x.1 with
 |false=>rfl
 | true =>
  rcases zo9 (ys:=y.1) q with a|a
  ·rw[h2] at a;cases a
  ·rw[h1] at a;cases a
theorem zlr {x y:KP} (h:lexI x.1 y.1=true):leK x y:=by
 unfold leK;cases q:lexI y.1 x.1 with
 |false=>rfl
 | true =>
  have:=zfn h q;rw[zd4] at this;cases this
theorem zgp {x:KP}:∀{l:List KP},l.Pairwise leK->(insK x l).Pairwise leK
 |[],_=>List.pairwise_singleton _ _
 | y::ys,h=>by
  have hy:=Cw.mp h;unfold insK;split
  ·rename_i q
   refine Cw.mpr ⟨λz hz=>?_,h⟩;rcases Ap.mp hz with rfl|hz
   ·exact zlr q
   ·exact ybb (zlr q) (hy.1 z hz)
  ·rename_i q
   refine Cw.mpr ⟨λz hz=>?_,zgp hy.2⟩;rcases Ap.mp ((zgr x ys).mem_iff.mp hz) with rfl|hz
   ·unfold leK;simpa using q
   ·exact hy.1 z hz
theorem zdq:∀l:List KP,(zlw l).Pairwise leK
 |[]=>.nil
 |x::xs=>zgp (zdq xs)
theorem zfr:∀{l l':List KP},l.Perm l'->l.Pairwise leK->l'.Pairwise leK->(∀x∈l,∀y∈l,x.1=y.1->x=y)->l=l'
 |[],l',p,_,_,_=>p.nil_eq
 |x::xs,[],p,_,_,_=>by simpa using p.length_eq
 | x::xs,y::ys,p,h1,h2,hu=>by
  have a1:=Cw.mp h1;have a2:=Cw.mp h2;have hy:y∈x::xs:=p.mem_iff.mpr Ax;have hx:x∈y::ys:=p.mem_iff.mp Ax;have exy:x=y:=by
   rcases Ap.mp hy with e|hy'
   ·exact e.symm
   ·rcases Ap.mp hx with e | hx'
    ·exact e
    ·exact hu x Ax y hy (zjw (show lexI x.1 y.1=false from a2.1 x hx') (show lexI y.1 x.1=false from a1.1 y hy'))
  subst exy;have p':=(List.perm_cons x).mp p;rw[zfr p' a1.2 a2.2 λu hu' v hv=>hu u (As _ hu') v (As _ hv)]
inductive All2 {α β:Type} (R:α->β->Prop):List α->List β->Prop where
 |nil:All2 R [] []
 |cons {a b as bs} (h:R a b) (t:All2 R as bs):All2 R (a::as) (b::bs)
theorem All2.perm {α β:Type}{R:α->β->Prop}{bs bs':List β} (p:bs.Perm bs'):∀{as:List α},All2 R as bs->∃as',as.Perm as'/\All2 R as' bs':=by
 induction p with
 |nil=>exact λh=>⟨_,.refl _,h⟩
 | cons x p ih =>
  intro as h;cases h with
  | cons h t =>
   obtain⟨as',q1,q2⟩:=ih t;exact⟨_,q1.cons _,.cons h q2⟩
 | swap x y l =>
  intro as h;cases h with
  | cons h1 t =>
   cases t with
   |cons h2 t=>exact⟨_,.swap _ _ _,.cons h2 (.cons h1 t)⟩
 | trans p1 p2 ih1 ih2 =>
  intro as h;obtain⟨as1,q1,h1⟩:=ih1 h;obtain⟨as2,q2,h2⟩:=ih2 h1;exact⟨as2,q1.trans q2,h2⟩
theorem All2.pair {α β:Type}{R:α->β->Prop}{P:α->α->Prop}{Q:β->β->Prop} (hPQ:∀a b a' b',R a b->R a' b'->Q b b'->P a a'):∀{as:List α}{bs:List β},All2 R as bs->bs.Pairwise Q->as.Pairwise P
 |_,_,.nil,_=>.nil
 | _,_,.cons h t,hp=>by
  have hc:=Cw.mp hp;refine Cw.mpr ⟨λa' ha'=>?_,All2.pair hPQ t hc.2⟩;have:∀{as:List α}{bs:List β},All2 R as bs->a'∈as->∃b',b'∈bs/\R a' b':=by
   intro as bs h
   induction h with
   |nil=>intro z;cases z
   | cons h t ih =>
    intro z;rcases Ap.mp z with rfl|z
    ·exact⟨_,Ax,h⟩
    ·obtain ⟨b', q1,q2⟩:=ih z
     exact⟨b',As _ q1,q2⟩
  obtain⟨b',hb',hr⟩:=this t ha';exact hPQ _ _ _ _ h hr (hc.1 b' hb')
noncomputable def z0p:List W->Option (List Int)
 |[]=>some []
 |.int i::ws=>(z0p ws).bind λis=>some (i::is)
 |_=>none
noncomputable def kI:W->Option (List Int)
 |.int i=>some [i]
 |_=>none
def kT:W->Option (List Int)
 |.tup [.int i,.tup xs]=>(z0p xs).bind λis=>some (i::is)
 |_=>none
noncomputable def mapO {α β:Type} (f:α->Option β):List α->Option (List β)
 |[]=>some []
 |a::as=>(f a).bind λb=>(mapO f as).bind λbs=>some (b::bs)
noncomputable def zgm:List (List Int)->Bool
 |[]=>true
 |x::xs=>xs.all (λy=>decide (x≠y))&&zgm xs
theorem zhu:∀{l:List (List Int)},zgm l=true->l.Nodup
 |[],_=>List.nodup_nil
 | x::xs,h=>by
  unfold zgm at h;rw[Ad] at h;refine Df.mpr ⟨λz=>?_,zhu h.2⟩;have:=Bd.mp h.1 x z;simp at this
def z63 (ks ws:List W):Option (List W):=((mapO kI ks).orElse λ_=>mapO kT ks).bind λkl=>if zgm kl&&decide (kl.length=ws.length) then some ((zlw (kl.zip ws)).map (·.2)) else none
noncomputable def Cx.inn (X:Cx):Cx:={ X with A:=X.A.in1.in1 }
section
variable {X:Cx}{pins:List (Addr × Obj)}{σ:St}{H:Hp}{s:Shared}
theorem Cx.Ok.inn (o:X.Ok):X.inn.Ok:=⟨o.mod,o.kind,o.glob,o.blt,o.above,o.inj,o.has,o.cab,o.hd,o.frames,o.stk,o.exf,o.bs,o.bsz,o.noex,o.exfs,o.funs,o.frf⟩
theorem Cx.Ok.out (o:X.inn.Ok):X.Ok:=⟨o.mod,o.kind,o.glob,o.blt,o.above,o.inj,o.has,o.cab,o.hd,o.frames,o.stk,o.exf,o.bs,o.bsz,o.noex,o.exfs,o.funs,o.frf⟩
theorem Inv.inn (I:Inv X pins σ H s):Inv X.inn pins σ H s:=⟨I.ok.inn,I.os,I.bare,I.base,I.loc,I.cell,I.free,I.freeC,I.pin,I.hok,I.len⟩
theorem Inv.out (I:Inv X.inn pins σ H s):Inv X pins σ H s:=⟨I.ok.out,I.os,I.bare,I.base,I.loc,I.cell,I.free,I.freeC,I.pin,I.hok,I.len⟩
theorem Inv.adopt {h':Heap}{t':Nat}{ch:List Addr}{T:Addr}{o:HO} (I:Inv X pins σ H s) (k:∀b o,b ∉ ch->s.heap.get? b=some o->h'.get? b=some o) (hch:∀b∈ch,FpOk X pins H b) (hT:T∈ch)
  (new:zaz X.prog X.w (upd H T o) h' T o):Inv X pins σ (upd H T o) { s with heap:=h',toks:=t' }:=by
 have hn:H T=none:=(hch T hT).1;have nch:∀b u,H b=some u->b ∉ ch:=λb u e hb=>by rw[(hch b hb).1] at e;exact noSome e
 refine I.step (g':=s.gens) (d':=s.drawn) (ch:=ch) (λb hb=>⟨(hch b hb).2.2.2.1,(hch b hb).2.1,(hch b hb).2.2.2.2.1,(hch b hb).2.2.2.2.2⟩) (λb o _ _ hc e _=>k b o hc e) (λb o _ _ hc e _=>⟨o.slots,k b o hc e⟩) (λb u hc e n=>by rw[upd_ne (λz=>hc (by rw[z];exact hT))];exact n)
  (λb u hc e=>⟨u,k b u hc e⟩) (λb xs e=>by rw[upd_ne (zac e hn)];exact e) (λb u xs e=>by rw[upd_ne (zac e hn)];exact e) (λb ps e=>⟨#[],by rw[upd_ne (zac e hn),e];simp⟩) (λm hm=>?_) (λb u e=>?_) I.bare
 ·obtain⟨o,es,ep,ho,r⟩:=hm;exact⟨o,es,ep,k _ o (λz=>(hch _ z).2.1 rfl) ho,r⟩
 ·by_cases hb:b=T
  ·subst hb;rw[upd_same] at e;obtain rfl:=sI e;exact new
  ·rw[upd_ne hb] at e;refine (I.hok b u e).stay (λc v hc q=>k c v ?_ q) (λc q=>by rw[upd_ne (zac q hn)];exact q) λc xs q=>by rw[upd_ne (zac q hn)];exact q
   rcases hc with z|z
   ·rw[z];exact nch b u e
   ·exact nch c _ z
structure KCall (X:Cx) (f:Value) (Φ:W->Option W) (Al:List (Addr×Obj)->Hp->Prop):Prop where
 mono:∀{pins pins':List (Addr×Obj)}{F F':Hp},Al pins F->(∀p∈pins,p∈pins')->Same F F'->Al pins' F'
 run:∀(pins:List (Addr×Obj)) (s:Shared) (σ:St) (H F:Hp) (pr:Prt) (en:En) (w k:W) (v:V) (u:Value),Al pins F->Inv X pins σ H s->Rel X.K F pr en σ H->Rep X.K F w v->RelV v u->Φ w=some k ->
  wpAny #v[1,7] X.A (call f [u]) (λu' s'=>∃v' F' H',Inv X pins σ H' s'/\Same F F'/\Rel X.K F' pr en σ H'/\RelV v' u'/\Rep X.K F' k v') (λ_ _=>False) s
structure Apart (X:Cx) (pins:List (Addr×Obj)) (b:Addr):Prop where
 l:b≠X.env.locals
 f:b ∉ X.fs
 x:b∈X.ex\/X.s₀.heap.objs.size<=b
 c:∀x c,X.env.cells.lookup x=some c->c≠b
 p:∀p∈X.pn++pins,p.1≠b
theorem Apart.fp {b:Addr}(a:Apart X pins b)(h:H b=none):FpOk X pins H b:=⟨h,a.l,a.f,a.x,a.c,a.p⟩
theorem FpOk.apart {b:Addr}(h:FpOk X pins H b):Apart X pins b:=⟨h.2.1,h.2.2.1,h.2.2.2.1,h.2.2.2.2.1,h.2.2.2.2.2⟩
theorem zgh {α β:Type}{f:α->Option β}:∀{as:List α}{bs:List β}{i:Nat}{a:α},mapO f as=some bs->as[i]?=some a->∃b,f a=some b/\bs[i]?=some b
 |[],_,_,_,_,h=>by simp at h
 | x::xs,bs,i,a,e,h=>by
  obtain⟨b,h1,e⟩:=bS e;obtain⟨bs',h2,e⟩:=bS e;obtain rfl:=sI e;cases i with
  |zero=>simp at h;subst h;exact⟨b,h1,rfl⟩
  | succ i =>
   obtain⟨c,q1,q2⟩:=zgh (i:=i) h2 (by simpa using h);exact⟨c,q1,by simpa using q2⟩
theorem zgn {α β:Type}{f:α->Option β}:∀{as:List α}{bs:List β},mapO f as=some bs->bs.length=as.length
 |[],_,e=>by obtain rfl:=sI e;rfl
 | x::xs,bs,e=>by
  obtain⟨b,h1,e⟩:=bS e;obtain⟨bs',h2,e⟩:=bS e;obtain rfl:=sI e;exact congrArg (· + 1) (zgn h2)
theorem zzd {f:Value}{Φ:W->Option W}{Al:List (Addr×Obj)->Hp->Prop} (KC:KCall X f Φ Al) {F:Hp}{pr:Prt}{en:En}{a kS:Addr}{e1:Nat}{vs:List Value}{vvs:List V}{ws ks:List W}{P:PySem.Fin->Shared->Prop}{E:Value->Shared->Prop}
  (I:Inv X ((kS,seqObj "list" #[] 0)::(a,seqObj "list" #[] e1)::pins) σ H s) (al:Al pins F) (R:Rel X.K F pr en σ H) (rv:Vals vvs vs) (rw':Reps X.K F ws vvs) (hk:mapO Φ ws=some ks) (hz:vs.length<=sizeLine)
  (ap:Apart X ((a,seqObj "list" #[] e1)::pins) kS)
  (fin:∀s' H' F' keys e kvs,Inv X ((kS,seqObj "list" keys e)::(a,seqObj "list" #[] e1)::pins) σ H' s'->Same F F'->Rel X.K F' pr en σ H'->Vals kvs keys.toList->Reps X.K F' ks kvs->wpAny #v[1,7] X.A (ksk_end a false vs.toArray e1 (.ref kS) keys) P E s') :
  wpAny #v[1,7] X.A (ksk_rest a f false vs.toArray e1 (.ref kS)) P E s:=by
 have lw:ws.length=vs.length:=by rw[rw'.length,rv.length]
 have lk:ks.length=vs.length:=by rw[zgn hk,lw]
 unfold ksk_rest;refine Aa (Dc ?_);rw[List.forIn_toArray];refine Aa (ksk_fold (λi s'=>∃H' F' keys e kvs,Inv X ((kS,seqObj "list" keys e)::(a,seqObj "list" #[] e1)::pins) σ H' s'/\Same F F'/\Rel X.K F' pr en σ H'/\Vals kvs keys.toList/\Reps X.K F' (ks.take i) kvs) vs 0 s
  ⟨H,F,#[],0,[],I,.refl F,R,.nil,.nil⟩ ?step ?done)
 case step =>
  rintro j x s' hx ⟨H',F',keys,e,kvs,I',s1,R',rk,rp⟩;simp only [Ce] at rp ⊢;have hj:j<vs.length:=(Ak.mp hx).1;obtain⟨w,hw⟩ : ∃w,ws[j]?=some w:=⟨_,Ac #v[]⟩;nofun;obtain⟨k,hk1,hk2⟩:=zgh hk hw;obtain⟨v,hv,rp1⟩:=rw'.get hw;obtain⟨u,hu,ru⟩:=rv.get hv;ac_rfl;rw[hx] at hu;obtain rfl:=sI hu;have zk:keys.size<=vs.length:=by
   have a1:kvs.length=keys.size:=rk.length.trans Bx;have a2:min j ks.length=kvs.length:=by rw[<-Ee];exact rp.length
   omega
  refine Aa (Fs (Cj (KC.run _ s' σ H' F' pr en w k v x (KC.mono al (λp hp=>As _ (As _ hp)) s1) I' R' (rp1.mono s1) ru hk1) (λu' s2 he=>?_) λ_ _ hF=>hF.elim));nofun;obtain⟨v',F2,H2,I2,s2',R2,ru',rp2⟩:=he;obtain⟨g1,g2,_,_,_⟩:=I2.pin (kS,seqObj "list" keys e) (Aw _ Ax);ac_rfl
  try dsimp only
  refine Aa (Fm g1 rfl ?_ #v[] (Cf (Nat.le_of_eq (Array.size_push ..)) #v[]));have sb:=Ct s2.heap kS (Obj.mapSeq (·.push u'));obtain⟨c2,hc2⟩ : ∃c2,(s2.heap.update kS (Obj.mapSeq (·.push u'))).get? kS=some (seqObj "list" (keys.push u') c2):=⟨_,Gj g1 (·.push u')⟩;have I3:Inv X ((a,seqObj "list" #[] e1)::pins) σ H2 s2:=I2.pins_of λp hp=>I2.pin p (Aw _ (As _ hp));have I4:Inv X ((a,seqObj "list" #[] e1)::pins) σ H2 { s2 with heap:=s2.heap.update kS (Obj.mapSeq (·.push u')) }:=I3.turned (t':=s2.toks) (it:=kS) (λb o hb eb=>(sb.2 b hb).trans eb) g2 ap.l ap.x ap.c ap.p;refine Ag ⟨rfl,H2,F2,keys.push u',c2,kvs++[v'],?_,s1.trans s2',R2,?_,?_⟩
  ·refine I4.pins_of λp hp => ?_;rcases Ap.mp hp with rfl|hp
   ·exact⟨hc2,g2,ap.l,ap.f,λv z=>by cases z⟩
   ·exact I4.pin p (Aw _ hp)
  ·rw[Do];exact Vals.append rk (.cons ru' .nil)
  ·rw[Dy,hk2];exact (rp.mono s2').append (.cons rp2 .nil)
 case done =>
  rintro s' ⟨H',F',keys,e,kvs,I',s1,R',rk,rp⟩;rw[Ce,List.take_of_length_le #v[]] at rp;obtain⟨g1,_⟩:=I'.pin (kS,seqObj "list" keys e) (Aw _ Ax)
  try dsimp only
  refine Aa (listItems_at g1 rfl ?_);exact fin s' H' F' keys e kvs I' s1 R' rk rp
end
noncomputable def intV:V->Option Int
 |.int j=>some j
 |_=>none
def kfV (H:Hp):Value->List Int
 |.int n _=>[n]
 | .ref a=>match H a with
  | some (.tup [.int i,.ref b])=>(match H b with
   |some (.tup vs)=>i::vs.filterMap intV
   |_=>[])
  |_=>[]
 |_=>[]
theorem zhr:∀is:List Int,(is.map V.int).filterMap intV=is
 |[]=>rfl
 |i::is=>by rw[Am,Gq];show i::_=_;rw[zhr is]
theorem zi7 {K:PySem.W.Frag}{F:Hp}:∀{ws:List W}{is:List Int}{vs:List V},z0p ws=some is->Reps K F ws vs->vs=is.map V.int
 |[],_,_,e,r=>by obtain rfl:=sI e;cases r;rfl
 | w::ws,is,vs,e,r=>by
  cases w with
  | int i =>
   obtain⟨is',h,e⟩:=bS (show (z0p ws).bind _=_ from e);obtain rfl:=sI e;cases r with
   | cons h1 r =>
    cases h1;rw[zi7 h r];rfl
  |_=>exact noSome e
theorem zgt {is:List Int}{its:List Value} (h:Vals (is.map V.int) its):IntsAre its is:=by
 induction is generalizing its with
 |nil=>cases h;exact .nil
 | cons i is ih =>
  cases h with
  | cons h1 t =>
   obtain⟨t1,rfl⟩:=h1;exact .cons i t1 (ih t)
section
variable {X:Cx}{pins:List (Addr × Obj)}{σ:St}{H F:Hp}{s:Shared}
theorem zyk {k:W}{kl:List Int}{v:V}{u:Value} (e:kI k=some kl) (r:Rep X.K F k v) (ru:RelV v u):(∃n t,u=.int n t/\kfV H u=[n])/\kfV H u=kl:=by
 cases k with
 | int i =>
  obtain rfl:=sI e;cases r;obtain⟨t,rfl⟩:=ru;exact⟨⟨i,t,rfl,rfl⟩,rfl⟩
 |_=>exact noSome e
theorem zuq (I:Inv X pins σ H s) (sm:Same F H) {k:W}{kl:List Int}{v:V}{u:Value} (e:kT k=some kl) (r:Rep X.K F k v) (ru:RelV v u):KeyT s.heap u kl/\kfV H u=kl:=by
 unfold kT at e;split at e
 ·rename_i i xs
  obtain⟨is,hi,e⟩:=bS e;obtain rfl:=sI e;cases r with
  | @tup ws a vs h rs =>
   cases rs with
   | @cons _ v1 _ vs1 h1 rs =>
    cases h1;cases rs with
    | @cons _ v2 _ vs2 h2 rs =>
     cases rs;cases h2 with
     | @tup _ b us hb rb =>
      have eu:=zi7 hi rb;subst eu;cases (show u=Value.ref a from ru);nofun;obtain⟨its,r1,t1,_⟩:=I.tuple (.inl (.inl (sm _ _ h)));obtain⟨its2,r2,t2,_⟩:=I.tuple (.inl (.inl (sm _ _ hb)));ac_rfl;cases r1 with
      | cons q1 r1 =>
       cases r1 with
       | cons q2 r1 =>
        cases r1;obtain⟨t,rfl⟩:=q1;cases (show _=Value.ref b from q2);refine⟨⟨a,b,i,t,is,its2,.ref b,rfl,rfl,t1,rfl,t2,zgt r2⟩,?_⟩;show (match H a with|some (.tup [.int i,.ref b])=>_|_=>_)=_;rw[sm _ _ h];show (match H b with|some (.tup vs)=>i::vs.filterMap intV|_=>[])=_;rw[sm _ _ hb];show i::_=_;rw[zhr]
 ·exact noSome e
theorem z1f {keys:Array Value}{vs:List Value}{ks:List W}{kvs:List V}{kl:List (List Int)}{A:Around}{E:Value->Shared->Prop} (I:Inv X pins σ H s) (sm:Same F H) (hu:A.units+2<cLine) (rk:Vals kvs keys.toList) (rp:Reps X.K F ks kvs) (hkl:((mapO kI ks).orElse λ_=>mapO kT ks)=some kl) (hl:keys.size=vs.length) :
  ∃κ:SortKind,(2<=vs.length->∀Q':SortKind->Shared->Prop,Q' κ s->wpAny #v[1,7] A (keyKind' keys) Q' E s)/\Tim.Asks X.prog X.w A E s κ (keys.zip vs.toArray) (λx y=>lexI (kfV H x.1) (kfV H y.1))/\keys.toList.map (kfV H)=kl:=by
 have lk:ks.length=keys.size:=by rw[rp.length,rk.length,Bx]
 have mem:∀x∈(keys.zip vs.toArray).toList,∃i,keys.toList[i]?=some x.1:=λx hx=>by
  rw[ksk_zip] at hx;obtain⟨a,b⟩:=x;have:=(Dx hx).1;obtain⟨i,hi,e⟩:=Ck.mp this;exact⟨i,by rw[Ac hi,e]⟩
 have back:∀(f:W->Option (List Int)),mapO f ks=some kl->(∀(k:W) (l:List Int) (v:V) (u:Value),f k=some l->Rep X.K F k v->RelV v u->kfV H u=l)->keys.toList.map (kfV H)=kl:=λf hf hk=>by
  apply De;intro i;rw[Au];by_cases hi:i<keys.size
  ·obtain ⟨k,ek⟩ : ∃ k,ks[i]? = some k:=⟨_,Ac (by omega)⟩
   nofun;obtain⟨l,e1,e2⟩:=zgh hf ek;obtain⟨v,ev,rv⟩:=rp.get ek;obtain⟨u,eu,ru⟩:=rk.get ev;ac_rfl;rw[eu,e2];exact congrArg some (hk k l v u e1 rv ru)
  ·rw[Bo (by simpa using hi),Bo (by rw[zgn hf];omega)];rfl
 have at' : ∀(f:W->Option (List Int)),mapO f ks=some kl->∀(i:Nat) (u:Value),keys.toList[i]?=some u->∃k l v,f k=some l/\Rep X.K F k v/\RelV v u:=λf hf i u hu=>by
  have hi:i<keys.size:=by have:=(Ak.mp hu).1;simpa using this
  obtain⟨k,ek⟩ : ∃k,ks[i]?=some k:=⟨_,Ac #v[]⟩;nofun;obtain⟨l,e1,e2⟩:=zgh hf ek;obtain⟨v,ev,rv⟩:=rp.get ek;obtain⟨u',eu,ru⟩:=rk.get ev;ac_rfl;rw[hu] at eu;obtain rfl:=sI eu;exact⟨k,l,v,e1,rv,ru⟩
 cases q:mapO kI ks with
 | some kl' =>
  rw [q] at hkl;cases (show some kl'=some kl from hkl);have all:∀(i:Nat) (u:Value),keys.toList[i]?=some u->∃n t,u=.int n t/\kfV H u=[n]:=λi u hu=>by
   nofun;obtain⟨k,l,v,e1,rv,ru⟩:=at' kI q i u hu;ac_rfl;exact (zyk (H:=H) e1 rv ru).1
  refine⟨oneType',λh2 Q' hq=>?_,zq4 λx hx=>?_,back kI q λk l v u e1 rv ru=>(zyk (H:=H) e1 rv ru).2⟩
  ·have ia:=intsAre_map keys.toList λv hv=>by
    nofun;obtain⟨i,hi,e⟩:=Ck.mp hv;obtain⟨n,t,h,_⟩:=all i v (by rw[Ac hi,e]);ac_rfl;exact⟨n,t,h⟩
   rw[ksk_kind ia #v[]];exact Ag hq
  ·obtain ⟨i,hi⟩:=mem x hx
   exact all i x.1 hi
 | none =>
  rw [q] at hkl;have hkl:mapO kT ks=some kl:=hkl;have all:∀(i:Nat) (u:Value),keys.toList[i]?=some u->KeyT s.heap u (kfV H u):=λi u hu=>by
   nofun;obtain⟨k,l,v,e1,rv,ru⟩:=at' kT hkl i u hu;obtain⟨g1,g2⟩:=zuq I sm e1 rv ru;ac_rfl;rw[g2];exact g1
  refine⟨tuples' true,λh2 Q' hq=>?_,z01 hu λx hx=>?_,back kT hkl λk l v u e1 rv ru=>(zuq I sm e1 rv ru).2⟩
  ·have kt:∃fs:List Value,PySem.W.KatTups s.heap keys.toList fs/\fs.length=keys.size/\∀v∈fs,∃n t,v=.int n t:=by
    have gen:∀l:List Value,(∀(i:Nat) (u:Value),l[i]?=some u->KeyT s.heap u (kfV H u))->∃fs:List Value,PySem.W.KatTups s.heap l fs/\fs.length=l.length/\∀v∈fs,∃n t,v=.int n t:=by
     intro l
     induction l with
     |nil=>exact λ_=>⟨[],trivial,rfl,λv hv=>by simp at hv⟩
     | cons u l ih =>
      intro h;nofun;obtain⟨fs,g1,g2,g3⟩:=ih λi v hv=>h (i+1) v (by simpa using hv);obtain⟨a,b,i,t,ns,its,c,e1,e2,q1,rfl,q2,q3⟩:=(h 0 u rfl).ex;obtain⟨o,k1,k2,n,k3⟩:=id q1;ac_rfl;subst e1;exact⟨.int i t::fs,PySem.W.KatTups.cons k1 k2 k3 rfl g1,by simpa using g2,λv hv=>(Ap.mp hv).elim (λz=>⟨i,t,z⟩) (g3 v)⟩
    nofun;obtain⟨fs,g1,g2,g3⟩:=gen keys.toList all;ac_rfl;exact⟨fs,g1,by simpa using g2,g3⟩
   refine aG λ_ qG=>?_;obtain ⟨fs,g1,g2,g3⟩:=kt;refine qG ?_;clear qG;have:=PySem.W.kat_kind (M:=model X.prog X.w) (A:=A) (E:=E) (s:=s) (T:=.type "int") (Q:=Q') g1 (by omega) (λv hv=>by
    obtain⟨n,t,rfl⟩:=g3 v hv;exact .now) rfl hq
   rw[Gi] at this;exact this
  ·obtain ⟨i,hi⟩:=mem x hx
   exact all i x.1 hi
end
section
variable {X:Cx}{pins:List (Addr × Obj)}{σ:St}{H F:Hp}{s:Shared}{pr:Prt}{en:En}
theorem zty {α:Type} [DecidableEq α] {β:Type}:∀{kl:List α}{ws:List β},kl.Nodup->∀x∈kl.zip ws,∀y∈kl.zip ws,x.1=y.1->x=y
 |[],_,_,x,hx,_,_,_=>by simp at hx
 |_::_,[],_,x,hx,_,_,_=>by simp at hx
 | k::kl,w::ws,nd,x,hx,y,hy,e=>by
  have n:=Df.mp nd;rw[Bn] at hx hy;rcases Ap.mp hx with rfl|hx
  ·rcases Ap.mp hy with rfl | hy
   ·rfl
   ·have:=(Dx (a:=y.1) (b:=y.2) hy).1
    exact absurd (by rw[<-e] at this;exact this) n.1
  ·rcases Ap.mp hy with rfl | hy
   ·have:=(Dx (a:=x.1) (b:=x.2) hx).1
    exact absurd (by rw[e] at this;exact this) n.1
   ·exact zty n.2 x hx y hy e
theorem zqt {K:PySem.W.Frag}{F:Hp}{kf:Value->List Int}:∀{ku:List Value}{ws:List W}{vvs:List V}{vs:List Value},Vals vvs vs->Reps K F ws vvs->All2 (λ(z:KP) (x:Keyed)=>kf x.1=z.1/\∃v,RelV v x.2/\Rep K F z.2 v) ((ku.map kf).zip ws) (ku.zip vs)
 |[],_,_,_,_,_=>by simp;exact .nil
 |k::ku,_,_,_,.nil,.nil=>by simp;exact .nil
 |k::ku,_,_,_,.cons r rv,.cons h hr=>.cons ⟨rfl,_,r,h⟩ (zqt rv hr)
theorem zre {K:PySem.W.Frag}{F:Hp}{kf:Value->List Int}:∀{zs:List KP}{r:List Keyed},All2 (λ(z:KP) (x:Keyed)=>kf x.1=z.1/\∃v,RelV v x.2/\Rep K F z.2 v) zs r->∃vs,Vals vs (r.map (·.2))/\Reps K F (zs.map (·.2)) vs
 |_,_,.nil=>⟨[],.nil,.nil⟩
 | _,_,.cons ⟨_,v,h1,h2⟩ t=>by
  obtain⟨vs,a,b⟩:=zre t;exact⟨v::vs,.cons h1 a,.cons h2 b⟩
theorem zs0 {q l:Addr}{Φ:W->Option W}{Al:List (Addr×Obj)->Hp->Prop}{vvs:List V}{ws ks out:List W}{Q:VK}{E:Value->Shared->Prop} (KC:KCall X.inn (.ref q) Φ Al) (I:Inv X pins σ H s) (al:Al pins F) (R:Rel X.K F pr en σ H) (hl:SqL X.K H l vvs) (rws:Reps X.K F ws vvs)
  (hk:mapO Φ ws=some ks) (hs:z63 ks ws=some out) (hu:X.A.units+4<cLine) (h:∀F' H' v,Same F F'->Rel X.K F' pr en σ H'->Res X.K F' H' pr en σ (.lst out,true) v->Q v H') :
  wpAny #v[1,7] X.A (call (.builtin "sorted") [.ref l] [(Str.ofString "key",.ref q)]) (EP X pins σ Q) E s:=by
 nofun;obtain⟨vs,rv,pl,hz⟩:=I.list hl;ac_rfl;have lv:vvs.length=vs.length:=rv.length;have hz':vs.length<=sizeLine:=by omega
 have il:s.heap.IsList l vs.toArray:=by
  nofun;obtain⟨o,n,g1,g2,g3,g4⟩:=pl;ac_rfl;exact⟨o,g1,g2,_,g4⟩
 have lw:ws.length=vs.length:=by rw[rws.length,lv]
 have lk:ks.length=vs.length:=by rw[zgn hk,lw]
 refine call_function_entry_kw kind_sorted plain_sorted entry_sorted (ksk_s1 _ _) ?_;unfold Builtin.«sorted»;refine Aa (m:=checkCount "sorted" 1 1 _) (Ag ?_);refine Aa (collect_list il ?_ hz');refine Aa (Gw ?_ hz');have hsz:(#v[1,8].update s.heap.objs.size (Obj.mapSeq (·++vs.toArray))).objs.size=s.heap.objs.size+1:=by
  rw[Heap.size_update,size_push']
 have hoL:((#v[1,8].update s.heap.objs.size (Obj.mapSeq (·++vs.toArray))).push #v[4,8]).get? #v[8,10]=some #v[4,8]:=by
  rw[<-hsz];exact An _ rfl
 have keep:∀b o,s.heap.get? b=some o->((#v[1,8].update s.heap.objs.size (Obj.mapSeq (·++vs.toArray))).push #v[4,8]).get? b=some o:=λb o q=>by
  have hlt:b<s.heap.objs.size:=Ai q;rw[Hi _ _ _ (by rw[hsz];exact Az (Dn hlt)),Heap.get?_update_ne _ _ _ _ (Az hlt),Hi _ _ _ (Az hlt)];exact q
 have hsz3:((#v[1,8].update s.heap.objs.size (Obj.mapSeq (·++vs.toArray))).push #v[4,8]).objs.size=s.heap.objs.size+2:=by rw[size_push',hsz]
 show wpAny _ _ _ _ _ { s with heap:=(#v[1,8].update s.heap.objs.size (Obj.mapSeq (·++vs.toArray))).push #v[4,8] };rw[hsz];generalize (#v[1,8].update s.heap.objs.size (Obj.mapSeq (·++vs.toArray))).push #v[4,8]=h3 at hoL keep hsz3 ⊢;obtain⟨a,ea⟩ : ∃a,a=s.heap.objs.size+1:=⟨_,rfl⟩;rw[<-ea] at hoL ⊢;refine Aa (Bw (wpAny_call_entry_kw slot_list_sort ⟨_,hoL,rfl⟩ entry_list_sort ?body (ksk_l1 _ _)))
 case body =>
  show wpAny #v[1,7] X.A.in1.in1 (Builtin.«list.sort» ⟨[.ref a],[(Str.ofString "key",.ref q)]⟩) _ _ _;rw[ksk_t1];have ha:a<h3.objs.size:=by omega
  have s1:=Ct h3 a #v[6,8];obtain⟨e1,ho1⟩ : ∃e1,(h3.update a #v[6,8]).get? a=some (seqObj "list" #[] e1):=⟨_,Gj hoL λ_=>#[]⟩;unfold ksk_tree;refine Aa (listItems_at hoL rfl ?_);refine Aa (Fm hoL rfl ?_ (by rw[Ah];omega) (Bm _));refine Aa (seqEpoch_at ho1 rfl ?_);refine Aa (wpAny_newTuple ?_ hz');refine Aa (Gw ?_ (Bm _));refine Bw ?_;have hz4:#v[3,7].objs.size=s.heap.objs.size+3:=by rw[size_push',Heap.size_update,hsz3]
  show wpAny _ _ (ksk_rest a (.ref q) false vs.toArray e1 (.ref #v[3,7].objs.size)) _ _ { s with heap:=#v[3,7].push #v[2,11] };obtain⟨kS,ek⟩ : ∃kS,kS=#v[3,7].objs.size:=⟨_,rfl⟩;rw[<-ek] at hz4 ⊢;have kp6:∀b o,s.heap.get? b=some o->(#v[3,7].push #v[2,11]).get? b=some o:=λb o eb=>by
   refine Ab _ (Ab _ ?_);have hlt:b<s.heap.objs.size:=Ai eb;exact (s1.2 b (Az (by rw[ea];exact Dn hlt))).trans (keep b o eb)
  have ga:(#v[3,7].push #v[2,11]).get? a=some (seqObj "list" #[] e1):=Ab _ (Ab _ ho1);have gk:(#v[3,7].push #v[2,11]).get? kS=some #v[2,11]:=by rw[ek];exact An _ rfl
  generalize #v[3,7].push #v[2,11]=h6 at kp6 ga gk ⊢;have na:H a=none:=I.hok.fresh #v[];have nk:H kS=none:=I.hok.fresh #v[];have pa:Apart X pins a:=(I.fpOk (H':=H) #v[] na).apart;have pk:Apart X pins kS:=(I.fpOk (H':=H) #v[] nk).apart;have hak:kS≠a:=by omega
  have pk':Apart X ((a,seqObj "list" #[] e1)::pins) kS:=⟨pk.l,pk.f,pk.x,pk.c,λp hp=>by
   rcases Bq.mp hp with z|z
   ·exact pk.p p (Cz _ z)
   ·rcases Ap.mp z with rfl|z
    ·exact hak.symm
    ·exact pk.p p (Aw _ z)⟩
  have I6:Inv X pins σ H { s with heap:=h6 }:=I.kept (t':=s.toks) kp6;have I7:Inv X ((kS,seqObj "list" #[] 0)::(a,seqObj "list" #[] e1)::pins) σ H { s with heap:=h6 }:=I6.pins_of λp hp=>by
   rcases Ap.mp hp with rfl|hp
   ·exact⟨gk,nk,pk.l,pk.f,λv z=>by cases z⟩
   ·rcases Ap.mp hp with rfl|hp
    ·exact⟨ga,na,pa.l,pa.f,λv z=>by cases z⟩
    ·exact I6.pin p (Aw _ hp)
  refine zzd (X:=X.inn) (pins:=pins) KC I7.inn al R rv rws hk hz' ⟨pk'.l,pk'.f,pk'.x,pk'.c,pk'.p⟩ λs' H' F' keys e kvs I8 s8 R8 rk rp=>?_;have I8':=I8.out;nofun;obtain⟨g1,g2,_⟩:=I8'.pin (kS,seqObj "list" keys e) (Aw _ Ax);obtain⟨g3,g4,_⟩:=I8'.pin (a,seqObj "list" #[] e1) (Aw _ (As _ Ax));ac_rfl;have hks:keys.size=vs.length:=by
   have a1:kvs.length=keys.size:=rk.length.trans Bx;have a2:ks.length=kvs.length:=rp.length;omega
  unfold z63 at hs;obtain⟨kl,hkl,hs⟩:=bS hs;split at hs
  ·rename_i dc;rw[Ad] at dc;nofun;obtain⟨κ,kd,C,ekl⟩:=z1f (A:=X.A.in1.in1) (E:=E) (vs:=vs) I8' R8.sub (by show X.A.units+1+1+2<cLine;omega) rk rp hkl hks;ac_rfl;refine z6v (kf:=kfV H') g1 g3 hak hks hz' kd C λr h' c pm pw ga' kp'=>⟨_,rfl,?_⟩;obtain⟨zs,p1,al2⟩:=All2.perm pm.symm (zqt (K:=X.K) (F:=F') (kf:=kfV H') (ku:=keys.toList) rv (rws.mono s8));rw[ekl] at p1;have ps:zs.Pairwise leK:=All2.pair (P:=leK) (Q:=λx y:Keyed=>lexI (kfV H' y.1) (kfV H' x.1)=false) (λz x z' x' h1 h2 q=>by show lexI z'.1 z.1=false;rw[<-h1.1,<-h2.1];exact q) al2 pw;have ez:zs=zlw (kl.zip ws):=zfr (p1.symm.trans (zf4 _).symm) ps (zdq _) λx hx y hy=>zty (zhu dc.1) x (p1.symm.mem_iff.mp hx) y (p1.symm.mem_iff.mp hy);obtain⟨ov,o1,o2⟩:=zre al2;have eo:out=zs.map (·.2):=by rw[ez];exact (sI hs).symm
   rw[<-eo] at o2;have lo:ov.length<=sizeLine:=by
    have:out.length=ov.length:=o2.length;have l2:out.length=zs.length:=by rw[eo,Ae]
    have l3:=p1.length_eq;rw[List.length_zip] at l3;omega
   have I9:Inv X pins σ H' s':=I8'.pins_of λp hp=>I8'.pin p (Aw _ (As _ (As _ hp)));have I10:Inv X pins σ (upd H' a (.lst ov)) { s' with heap:=h' }:=I9.adopt (t':=s'.toks) (ch:=[a,kS]) (λb o hb eb=>kp' b o (λz=>hb (by simp [z])) (λz=>hb (by simp [z])) eb) (λb hb=>by
    rcases Ap.mp hb with rfl|hb
    ·exact pa.fp g4
    ·rw[Ao.mp hb];exact pk.fp g2) Ax ⟨lo,r.map (·.2),c,o1,ga'⟩
   refine Ag ⟨_,rfl,.ref a,_,I10,rfl,?_⟩;nofun;obtain⟨F9,s9,R9,y9⟩:=(Out.lst (K:=X.K) (F:=F') (H:=H') (p:=a) g4 o2).close R8;ac_rfl;exact h F9 _ _ (s8.trans s9) R9 y9
  ·exact noSome hs
end
section
variable {prog:Program}{w:World}{A:Around}{E:Value->Shared->Prop}{s:Shared}{a:Addr}{vs:List Value}{P:PySem.Fin->Shared->Prop}
noncomputable def kN:Value->List Int
 |.int n _=>[n]
 |_=>[]
theorem zns {ns:List Int}{n:Nat} (ho:s.heap.get? a=some (seqObj "list" vs.toArray n)) (ia:IntsAre vs ns) (hz:vs.length<=sizeLine)
  (h:∀(r:List Keyed) h' c,r.Perm (vs.zip vs)->r.Pairwise (λx y=>lexI (kN y.1) (kN x.1)=false)->h'.get? a=some (seqObj "list" (r.map (·.2)).toArray c)->(∀b o,b≠a->s.heap.get? b=some o->h'.get? b=some o)->P (.done (.ret .none)) { s with heap:=h' }) :
  wpAny (model prog w) A (Builtin.«list.sort» ⟨[.ref a],[]⟩) P E s:=by
 have lt:a<s.heap.objs.size:=Ai ho;have s1:=Ct s.heap a #v[6,8];rw[list_sort_plain];refine Aa (listItems_at ho rfl ?_);refine Aa (Fm ho rfl ?_ (by rw[Ah];exact hz) (Bm _));obtain⟨e1,g1⟩ : ∃e1,(s.heap.update a #v[6,8]).get? a=some (seqObj "list" #[] e1):=⟨_,Gj ho λ_=>#[]⟩;refine Aa (seqEpoch_at g1 rfl ?_);refine Aa (wpAny_newTuple ?_ hz);refine Aa (Gw ?_ (Bm _));refine Bw ?_;have g6:(#v[0,10].push #v[2,11]).get? a=some (seqObj "list" #[] e1):=Ab _ (Ab _ g1);have k6:∀b o,b≠a->s.heap.get? b=some o->(#v[0,10].push #v[2,11]).get? b=some o:=λb o nb eb=>Ab _ (Ab _ ((s1.2 b nb).trans eb));show wpAny _ _ _ _ _ { s with heap:=#v[0,10].push #v[2,11] };generalize #v[0,10].push #v[2,11]=h6 at g6 k6 ⊢;have zs:(vs.toArray.zip vs.toArray).size=vs.length:=by rw[Array.size_zip,Ah,Nat.min_self]
 have fin:∀st:SortSt,(arrOf st).Perm (vs.toArray.zip vs.toArray)->Tim.Srt (λx y=>lexI (kN y.1) (kN x.1)=false) (arrOf st) 0 (vs.toArray.zip vs.toArray).size->P (.done (.ret .none)) { s with heap:=h6.update a (Obj.mapSeq λ_=>(arrOf st).map (·.2)) }:=λst hp hs=>by
  have s2:=Ct h6 a (Obj.mapSeq λ_=>(arrOf st).map (·.2));refine h (arrOf st).toList _ _ ?_ (Tim.srt_list (by rw[hp.size_eq];exact hs)) (by rw[<-Array.toList_map,Gi];exact Gj g6 λ_=>(arrOf st).map (·.2)) λb o nb eb=>(s2.2 b nb).trans (k6 b o nb eb);have:=Ez.mp hp;rw[ksk_zip] at this;exact this
 have fz:∀st:SortSt,(arrOf st).Perm (vs.toArray.zip vs.toArray)->((arrOf st).map (·.2)).size<=sizeLine+1:=λst hp=>by rw[Array.size_map,hp.size_eq,zs];omega
 dsimp only;by_cases h2:vs.toArray.size<2
 ·rw[if_pos h2,if_pos h2];refine Aa (Ag ?_);rw[StateT.run_pure];refine Aa (Ag ?_);dsimp only;have hp:(arrOf (SortSt.mk' general' (vs.toArray.zip vs.toArray) #[] 7 none)).Perm (vs.toArray.zip vs.toArray):=Array.Perm.refl _;refine Aa (seqEpoch_at g6 rfl ?_);refine Aa (Fm g6 rfl ?_ (Bm _) (fz _ hp));simp only [bne_self_eq_false,Cm,Fe];refine Ag (fin (SortSt.mk' general' (vs.toArray.zip vs.toArray) #[] 7 none) hp λi j _ h3 h4=>?_);rw[Ah] at h2;omega
 ·rw [if_neg h2,if_neg h2];rw [Ah] at h2;have iv:∀v∈vs,∃m t,v=.int m t/\kN v=[m]:=λv hv=>by
   obtain⟨i,hi,e⟩:=Ck.mp hv;have hl:=ia.length;obtain⟨t,ht⟩:=ia.get i ns[i] (Ac #v[]);rw[Ac hi,e] at ht;obtain rfl:=sI ht;exact⟨_,t,rfl,rfl⟩
  have as:∀s,Tim.Asks prog w A E s oneType' (vs.toArray.zip vs.toArray) (λx y=>lexI (kN x.1) (kN y.1)):=λs=>zq4 λx hx=>by
   rw[ksk_zip] at hx;exact iv x.1 (Dx (a:=x.1) (b:=x.2) hx).1
  rw[ksk_kind (keys:=vs.toArray) (by rw[List.toList_toArray];exact ia) (by rw[Ah];omega)];refine Aa (Ag ?_);refine Aa (Cj (Tim.q_sort (bf:=λ_ _=>True) (st:=SortSt.mk' oneType' (vs.toArray.zip vs.toArray) #[] 7 none) (Q:=λ_ st'=>(arrOf st').Perm (vs.toArray.zip vs.toArray)/\failedOf st'=none/\Tim.Srt (λx y=>lexI (kN y.1) (kN x.1)=false) (arrOf st') 0 (vs.toArray.zip vs.toArray).size)
   (as _) (zx8 kN) ⟨rfl,rfl,Array.Perm.refl _,rfl⟩ rfl (λ_ _ _ _ _ _=>trivial) λst' a1 a2 a3=>⟨a2,a1,a3⟩) ?_ λ_ _ e=>e)
  rintro ⟨⟨⟩,st'⟩ s' ⟨rfl,hp,hf,hs⟩;dsimp only;refine Aa (seqEpoch_at g6 rfl ?_);refine Aa (Fm g6 rfl ?_ (Bm _) (fz _ hp));rw[hf];simp only [bne_self_eq_false,Cm,Fe];exact Ag (fin st' hp hs)
end
def zfv (ns:List Int):List Int:=(zlw (ns.map λn=>([n],W.int n))).map λz=>z.1.headD 0
noncomputable def pz (n:Int):KP:=([n],W.int n)
theorem zld (a b:Int):lexI [a] [b]=decide (a<b):=by
 unfold lexI;by_cases c:a<b
 ·have : ¬ a=b:=by omega
  simp [c,this]
 ·simp [c,lexI]
theorem zj6 {ns ms:List Int}(p:ms.Perm ns)(s:ms.Pairwise (·<=·)):zfv ns=ms:=by
 have e:ms.map pz=zlw (ns.map pz):=zfr ((p.map pz).trans (zf4 _).symm) (by
  rw[Er];exact s.imp λ{a b} h=>by show lexI [b] [a]=false;rw[zld];exact Ay #v[]) (zdq _) λx hx y hy h=>by
   obtain⟨a,_,rfl⟩:=Bf.mp hx;obtain⟨b,_,rfl⟩:=Bf.mp hy;have:a=b:=by injection h
   rw[this]
 show (zlw (ns.map pz)).map _=ms;rw[<-e,Bz];exact (Fb λa _=>rfl).trans (List.map_id ms)
section
variable {X:Cx}
theorem zhw:∀{l:List Keyed},(∀x∈l,x.2=x.1/\∃n t,x.1=.int n t)->Vals ((l.map λx=>(kN x.1).headD 0).map V.int) (l.map (·.2))
 |[],_=>.nil
 | x::l,h=>by
  obtain⟨e,n,t,q⟩:=h x (.head _);refine .cons ?_ (zhw λy hy=>h y (.tail _ hy));show RelV (V.int ((kN x.1).headD 0)) x.2;rw[e,q];exact⟨t,rfl⟩
theorem zgj{vs:List Value}{x:Keyed}(h:x∈vs.zip vs):x.2=x.1/\x.1∈vs:=by
 induction vs with
 |nil=>exact absurd h List.not_mem_nil
 |cons v vs ih=>
  rw[Bn] at h;rcases Ap.mp h with rfl|h
  ·exact⟨rfl,.head _⟩
  ·exact⟨(ih h).1,.tail _ (ih h).2⟩
theorem zms {prog:Program}{w:World}{A:Around}{E:Value->Shared->Prop}{s:Shared}{l:Addr}{vs:List Value}{Q:List Value->Shared->Prop}{T:String}{o:Obj}{n:Nat} (hT:T = "list"\/T = "tuple") (ho:s.heap.get? l=some o) (hc:o.cls=.type T) (hd:o.data=.seq vs.toArray n)
  (h:Q vs { s with heap:=#v[1,8].update s.heap.objs.size (Obj.mapSeq (·++vs.toArray)) }) (hsz:vs.length<=sizeLine) :
  wpAny (model prog w) A (collect (.ref l)) Q E s:=by
 unfold collect;refine Aa (wpAny_runValue (Dr entry_proto_collect' ?_));show wpAny _ _ (do again (.builtin "list.__iadd__" ⟨[<-newList [],.ref l],[]⟩)) _ _ s;refine Aa (Gw (Ag ⟨Code.quiet_builtin _ #v[0,0,7],Dr entry_list_iadd' ?_⟩));show wpAny _ _ (Builtin.List.listExtendWith (.ref s.heap.objs.size) (.ref l) (.ref s.heap.objs.size)) _ _ { s with heap:=s.heap.push #v[2,11] };unfold Builtin.List.listExtendWith;have ho' : #v[1,8].get? l=some o:=Ab _ ho;refine Aa (wpAny_typeOf (T:=T) ⟨o,ho',hc⟩ ?_);have ht:(Value.type T==Value.type "list" || Value.type T==Value.type "tuple")=true:=by rcases hT with rfl|rfl<;>rfl
 rw [if_pos (by rw [Bool.or_assoc,ht,Bool.or_true])];refine Aa (listItems_at ho' hd ?_);refine Aa (listItems_at (xs:=#[]) (n:=0) (An _ rfl) rfl ?_);rw [if_neg (by simp)];refine Aa (Fm (xs:=#[]) (n:=0) (An _ rfl) rfl ?_ (Bm _) (by show (#[]++vs.toArray).size<=sizeLine+1;simp only [Array.size_append,Ah,Fj];omega));refine Ag ?_;show wpAny (model prog w) A (do
   let o <- load s.heap.objs.size
   match o.data with
   |.seq xs _=>pure xs.toList
   |_=>unsupported "internal:collect") Q E { s with heap:=#v[1,8].update s.heap.objs.size (Obj.mapSeq (·++vs.toArray)) }
 refine Aa (wpAny_load (Gj (An _ rfl) _) ?_);show wpAny _ _ (pure ((#[]:Array Value)++vs.toArray).toList) Q E _;rw[show ((#[]:Array Value)++vs.toArray).toList=vs by simp];exact Ag h
theorem zjl:zcb X (.builtin "sorted") (λxs H Q=>∃(l:Addr) (ns:List Int),xs=[.ref l]/\(SqL X.K H l (ns.map V.int)\/SqT X.K H l (ns.map V.int))/\∀p,H p=none->Q (.ref p) (upd H p (.lst ((zfv ns).map V.int)))):=by
 intro pins s σ H xs us Q I r h;obtain⟨l,ns,rfl,hq,q⟩:=h;obtain⟨u,rfl,rx⟩:=vals1 r;cases rx;obtain⟨vs,rv,T,o,n,hT,ho,hc,hd,hz⟩ : ∃vs,Vals (ns.map V.int) vs/\∃T o n,(T = "list"\/T = "tuple")/\s.heap.get? l=some o/\o.cls=.type T/\o.data=.seq vs.toArray n/\(ns.map V.int).length<=sizeLine:=by
  rcases hq with hq|hq
  ·obtain⟨vs,rv,⟨o,n,ho,hc,_,hd⟩,hz⟩:=I.list hq;exact⟨vs,rv,_,o,n,.inl rfl,ho,hc,hd,hz⟩
  ·obtain⟨vs,rv,⟨o,ho,hc,n,hd⟩,hz⟩:=I.tuple hq;exact⟨vs,rv,_,o,n,.inr rfl,ho,hc,hd,hz⟩
 have lv:ns.length=vs.length:=by have:=rv.length;rw[Ae] at this;exact this
 have hz':vs.length<=sizeLine:=by rw[Ae] at hz;omega
 have ia:IntsAre vs ns:=zgt rv;refine call_function_entry_kw kind_sorted plain_sorted entry_sorted (args_sorted1 _) ?_;unfold Builtin.«sorted»;refine Aa (m:=checkCount "sorted" 1 1 _) (Ag ?_);refine Aa (zms hT ho hc hd ?_ hz');refine Aa (Gw ?_ hz');have hsz:(#v[1,8].update s.heap.objs.size (Obj.mapSeq (·++vs.toArray))).objs.size=s.heap.objs.size+1:=by
  rw[Heap.size_update,size_push']
 have hoL:((#v[1,8].update s.heap.objs.size (Obj.mapSeq (·++vs.toArray))).push #v[4,8]).get? #v[8,10]=some #v[4,8]:=by
  rw[<-hsz];exact An _ rfl
 have keep:∀b o,s.heap.get? b=some o->((#v[1,8].update s.heap.objs.size (Obj.mapSeq (·++vs.toArray))).push #v[4,8]).get? b=some o:=λb o q=>by
  have hlt:b<s.heap.objs.size:=Ai q;rw[Hi _ _ _ (by rw[hsz];exact Az (Dn hlt)),Heap.get?_update_ne _ _ _ _ (Az hlt),Hi _ _ _ (Az hlt)];exact q
 show wpAny _ _ _ _ _ { s with heap:=(#v[1,8].update s.heap.objs.size (Obj.mapSeq (·++vs.toArray))).push #v[4,8] };rw[hsz];generalize (#v[1,8].update s.heap.objs.size (Obj.mapSeq (·++vs.toArray))).push #v[4,8]=h3 at hoL keep ⊢;obtain⟨a,ea⟩ : ∃a,a=s.heap.objs.size+1:=⟨_,rfl⟩;rw[<-ea] at hoL ⊢;refine Aa (Bw (wpAny_call_entry_kw slot_list_sort ⟨_,hoL,rfl⟩ entry_list_sort ?body (args_list_sort _)))
 case body =>
  refine zns (s:={ s with heap:=h3 }) hoL ia hz' λr h' c pm pw ga kp=>⟨_,rfl,?_⟩;have al:∀x∈r,x.2=x.1/\∃n t,x.1=Value.int n t:=λx hx=>by
   obtain⟨e1,e2⟩:=zgj (pm.mem_iff.mp hx);obtain⟨i,hi,e⟩:=Ck.mp e2;obtain⟨t,ht⟩:=ia.get i ns[i] (Ac #v[]);rw[Ac hi,e] at ht;exact⟨e1,_,t,sI ht⟩
  have pi:(r.map λx=>(kN x.1).headD 0).Perm ns:=by
   refine (pm.map _).trans ?_;have:∀{vs:List Value}{ns:List Int},IntsAre vs ns->(vs.zip vs).map (λx=>(kN x.1).headD 0)=ns:=λ{vs ns} h=>by
    induction h with
    |nil=>rfl
    |cons n t h ih=>rw[Bn,Am,ih];rfl
   rw[this ia]
  have ps:(r.map λx=>(kN x.1).headD 0).Pairwise (·<=·):=by
   rw[Er];refine pw.imp_of_mem λ{x y} hx hy z=>?_;obtain⟨_,n,t,e1⟩:=al x hx;obtain⟨_,m,t',e2⟩:=al y hy;rw[e1,e2] at z ⊢;have z:lexI [m] [n]=false:=z;rw[zld] at z;have:=Gy z;show n<=m;omega
  have eo:=zj6 pi ps;have rv':=zhw al;rw[<-eo] at rv';refine Ag ⟨_,rfl,.ref a,_,I.laid (t':=s.toks) (o:=.lst ((zfv ns).map V.int)) (λb o eb=>kp b o (λz=>Bt _ (Nat.lt_trans (Ai eb) (by rw[z,ea];exact Fa _))) (keep b o eb)) #v[] ?_,rfl,q a (I.hok.fresh #v[])⟩;exact⟨by rw[eo,Ae,pi.length_eq];omega,_,c,rv',ga⟩
end
def zds:ON
 |[w]=>(seqW w).bind λws=>(zcd ws).bind λns=>#v[((zfv ns).map W.int),2]
 |_=>none
theorem zhh {K:PySem.W.Frag}{F:Hp}:∀ns:List Int,Reps K F (ns.map W.int) (ns.map V.int)
 |[]=>.nil
 |n::ns=>.cons (.int n) (zhh ns)
theorem zi6 {K:PySem.W.Frag}:OpSN K (λxs H Q=>∃(l:Addr) (ns:List Int),xs=[.ref l]/\(SqL K H l (ns.map V.int)\/SqT K H l (ns.map V.int))/\∀p,H p=none->Q (.ref p) (upd H p (.lst ((zfv ns).map V.int)))) zds:=λF H ws vs rv Q s r e q=>by
 match ws,e with
 | [w],e =>
  nofun;obtain⟨ws,hs,e⟩:=bS (show (seqW _).bind _=_ from e);obtain⟨ns,hb,e⟩:=bS e;ac_rfl;obtain rfl:=sI e;nofun;obtain⟨v,e1,h⟩:=r.one;obtain⟨a,us,e2,hq,p⟩:=h.seqW s hs;ac_rfl;subst e1 e2;rw[zcc hb] at p;rw[p.ints] at hq;exact⟨a,ns,rfl,hq,λl hl=>q _ _ (.lst hl (zhh _))⟩
structure Sx where
 N:List Str
 kd:List (Str×NameKind)
 bn:List Str
 fs:List (Str×(List Bool×Fn))
 mp:List Nat
 top:Bool
 nm:Str := ""
 dp:Nat:=0
noncomputable def Sx.rd (S:Sx) (x:Str):Option Nat:=if x==("__debug__" : Str)||x==("__classdict__" : Str) then none else match S.kd.lookup x with
 |some .local=>S.N.findIdx? (· == x)
 |some .cell=>S.N.findIdx? (· == x)
 |some .free=>S.N.findIdx? (· == x)
 |_=>none
noncomputable def Sx.wr (S:Sx) (x:Str):Option Nat:=match S.kd.lookup x with
 |some .local=>S.N.findIdx? (· == x)
 |some .cell=>S.N.findIdx? (· == x)
 |_=>none
noncomputable def Sx.bl (S:Sx) (x:Str):Bool:=S.kd.lookup x==some .globalImplicit&&S.bn.contains x
structure CxOk (X:Cx) (S:Sx) (d:Nat):Prop where
 N:X.N=S.N
 nd:S.N.Nodup
 loc:∀x,S.kd.lookup x=some .local->X.env.scope.names.lookup x=some .local
 cel:∀x,S.kd.lookup x=some .cell->X.env.scope.names.lookup x=some .cell/\X.fn x=true
 vis:∀x,S.kd.lookup x=some .cell\/S.kd.lookup x=some .free->X.env.scope.names.lookup x=some .cell\/X.env.scope.names.lookup x=some .free
 gl:∀x,S.kd.lookup x=some .globalImplicit->Gl X x
 calm:X.calm=true
 xe:X.xe=λ_ _=>False
 bn:∀x∈S.bn,X.mg x=none
 fs:∀x m Φ,S.fs.lookup x=some (m,Φ)->∃ps,ps.length=m.length/\Cal X.prog X.w X.K X.mg X.base d x ps (spF X.K m Φ)
 room:Room d X.A
 sl:X.A.units+16*d+205<cLine
 bk:X.env.blockKind=.function
 lam:S.nm∈lams->∃c P,PySem.W.tabIn X.K S.nm=some (c,P)/\PySem.W.codeHdIn X.K c P=true/\X.env.code=.ref c/\X.env.qual=S.nm++".<locals>."
 dpo:S.dp<=d
theorem zhd {N:List Str}{x:Str}{i:Nat}(h:N.findIdx? (· == x)=some i):N[i]?=some x:=by
 obtain⟨hl,h1,_⟩:=List.findIdx?_eq_some_iff_getElem.mp h;rw[Ac hl];have:N[i]=x:=by simpa using h1
 rw[this]
section
variable {X:Cx}{S:Sx}{d:Nat}
theorem zs5 (C:CxOk X S d){x:Str}{i:Nat}{pos:Pos}(h:S.rd x=some i):PE X (.Name x pos) (tVar i):=by
 unfold Sx.rd at h;split at h
 ·exact noSome h
 ·rename_i z;rw[Co,not_or,Bv,Bv] at z;split at h
  ·rename_i e;exact zrd (by rw[C.N];exact zhd h) (.inl (C.loc x e)) z.1 z.2
  ·rename_i e;exact zrd (by rw[C.N];exact zhd h) (.inr (C.vis x (.inl e))) z.1 z.2
  ·rename_i e;exact zrd (by rw[C.N];exact zhd h) (.inr (C.vis x (.inr e))) z.1 z.2
  ·exact noSome h
theorem zwm (C:CxOk X S d){x:Str}{i:Nat}(h:S.wr x=some i):X.N[i]?=some x/\Loc X.env.scope x/\(X.fn x=true\/X.env.scope.names.lookup x=some .local):=by
 unfold Sx.wr at h;split at h
 ·rename_i e;exact⟨by rw[C.N];exact zhd h,.inl (C.loc x e),.inr (C.loc x e)⟩
 ·rename_i e;exact⟨by rw[C.N];exact zhd h,.inr (C.cel x e).1,.inl (C.cel x e).2⟩
 ·exact noSome h
theorem zge (C:CxOk X S d){x:Str}(h:S.bl x=true):Gl X x/\X.mg x=none:=by
 unfold Sx.bl at h;rw[Ad] at h;exact⟨C.gl x (by simpa using h.1),C.bn x (by simpa using h.2)⟩
theorem ndN (C:CxOk X S d):X.N.Nodup:=by rw[C.N];exact C.nd
end
noncomputable def zgv:Expr->Bool
 |.Set ..=>false
 |_=>true
noncomputable def zeg:Expr->Bool
 |.Slice ..=>false
 |_=>true
noncomputable def zha:Expr->Bool
 |.ListComp ..=>false
 |.SetComp ..=>false
 |.DictComp ..=>false
 |_=>true
noncomputable def zse:Expr->Bool
 |.UnaryOp .Not _ _=>false
 |.BoolOp ..=>false
 |.IfExp ..=>false
 |.Compare ..=>false
 |_=>true
theorem zvd {e:Expr}{env:Env}(h:zgv e=true):∀x,foldedSetIterable e env x=pure x:=by
 intro x;cases e<;>first|rfl|(cases h)
theorem ze2 {op:CmpOp}{e:Expr}(h:zgv e=true):behindInMarks op e=false:=by
 cases e<;>first|rfl|(cases h)
theorem zl0 {op op':CmpOp}{b c:Expr}(h:zgv c=true):lastMarks [op,op'] [b,c]=false:=ze2 h
theorem ztj {e:Expr}(h:zeg e=true):zua e:=λo i=>by
 cases e<;>first|rfl|(cases h)
theorem zq1 {e:Expr}{t:Option Expr}{l:Nat}{env:Env}(h:zha e=true):swapsWith e t l env=pure false:=by
 cases e<;>first|rfl|(cases h)
theorem zsx {e:Expr}{env:Env}(h:zse e=true):∀whole,isTrue e env whole=(do let v <- whole;standAt e.pos;holding [v] (truthy v)):=by
 intro whole;cases e with
 |UnaryOp op _ _=>cases op<;>first|rfl|(cases h)
 |_=>first|rfl|(cases h)
theorem zgi {es:List Expr}{env:Env}{pos:Pos} (h:es.all zak=true):(backTo pos (starEach es env)).any (·.1)=false:=by
 induction es with
 |nil=>rfl
 | cons e es ih =>
  rw[Bp,Ad] at h;rw[zag h.1];show (false||(backTo pos (starEach es env)).any (·.1))=false;rw[ih h.2]
  rfl
noncomputable def cPow (i j:Int):Bool:=decide (0<=j)&&decide (j<=1000000)&&decide (i.natAbs<2^64)
noncomputable def cMul (i j:Int):Bool:=(decide (-(2^64)<i)&&decide (i<2^64))||(decide (-(2^64)<j)&&decide (j<2^64))
noncomputable def zsu (i j:Int):Bool:=decide (Builtin.Int.intBits i<=2^20)&&decide (Builtin.Int.intBits j<=2^20)
noncomputable def cDiv (i j:Int):Bool:=decide (0<j)&&decide (j.natAbs.log2<9000)
noncomputable def yes2 (_ _:Int):Bool:=true
def oAdd:O2:=oOr #v[4,11] (oOr oCat (oOr zzx (oOr z4n z2m)))
def oMult:O2:=oOr (oI cMul λi j=>.int (i*j)) (oOr (oI zsu λi j=>.int (i*j)) oRep)
def binO:Operator->Option O2
 |.Add=>some oAdd
 |.Sub=>some #v[0,0,0]
 |.Mult=>some oMult
 |.FloorDiv=>some #v[0,0,3]
 |.Mod=>some #v[0,0,2]
 |.Pow=>some (oI cPow λi j=>.int (i^j.toNat))
 |.LShift=>some #v[0,0,1]
 |.RShift=>some #v[3,10]
 |.BitAnd=>some #v[0,8]
 |.BitOr=>some #v[5,12]
 |.BitXor=>some #v[0,11]
 |_=>none
theorem zup {i j:Int}(h:cPow i j=true):CPow i j:=by
 unfold cPow at h;rw[Ad,Ad] at h;exact⟨At h.1.1,At h.1.2,At h.2⟩
theorem zwj {i j:Int}(h:cMul i j=true):CMul i j:=by
 unfold cMul at h;rw[Co,Ad,Ad] at h;rcases h with h|h
 ·exact .inl ⟨At h.1,At h.2⟩
 ·exact .inr ⟨At h.1,At h.2⟩
theorem zzg {i j:Int}(h:zsu i j=true):ycg i j:=by
 unfold zsu at h;rw[Ad] at h;exact⟨At h.1,At h.2⟩
theorem z7p {i j:Int}(h:cDiv i j=true):0<j/\j.natAbs.log2<9000:=by
 unfold cDiv at h;rw[Ad] at h;exact⟨At h.1,At h.2⟩
section
variable {X:Cx}
theorem z47 {op:Operator}{o:O2}(h:binO op=some o):∃r,OpR X (binaryOp op) r/\OpS X.K r o:=by
 cases op with
 |Add=>obtain rfl:=sI h;exact⟨_,ybv.or (z8w.or (z4h.or (z7r.or zs8))),(zcg λ_ _ _=>.int _).or (z78.or (z1h.or (zzb.or z2h)))⟩
 |Sub=>obtain rfl:=sI h;exact⟨_,z9c,zcg λ_ _ _=>.int _⟩
 |Mult=>obtain rfl:=sI h;exact⟨_,yap.or (z6i.or ybe),(zmd (λ_ _=>zwj) λ_ _ _=>.int _).or ((zmd (λ_ _=>zzg) λ_ _ _=>.int _).or z61)⟩
 |FloorDiv=>obtain rfl:=sI h;exact⟨_,z2s,zmd (λ_ _=>z7p) λ_ _ _=>.int _⟩
 |Mod=>obtain rfl:=sI h;exact⟨_,z9r,zmd (λ_ _=>At) λ_ _ _=>.int _⟩
 |Pow=>obtain rfl:=sI h;exact⟨_,z97,zmd (λ_ _=>zup) λ_ _ _=>.int _⟩
 |LShift=>obtain rfl:=sI h;exact⟨_,yag,zmd (λ_ _=>zup) λ_ _ _=>.int _⟩
 |RShift=>obtain rfl:=sI h;exact⟨_,z9s,zmd (λ_ _=>At) λ_ _ _=>.int _⟩
 |BitAnd=>obtain rfl:=sI h;exact⟨_,z82,zcg λ_ _ _=>.int _⟩
 |BitOr=>obtain rfl:=sI h;exact⟨_,ydp,zcg λ_ _ _=>.int _⟩
 |BitXor=>obtain rfl:=sI h;exact⟨_,ya4,zcg λ_ _ _=>.int _⟩
 |_=>exact noSome h
def augO:Operator->Option O2
 |.Add=>some #v[4,11]
 |.Sub=>some #v[0,0,0]
 |.Mult=>some (oI cMul λi j=>.int (i*j))
 |.BitAnd=>some #v[0,8]
 |.BitOr=>some #v[5,12]
 |.BitXor=>some #v[0,11]
 |_=>none
theorem z7q {op:Operator}{o:O2}(h:augO op=some o):∃r,PIp X op r/\OpS X.K r o:=by
 cases op with
 |Add=>obtain rfl:=sI h;exact⟨_,zwu,zcg λ_ _ _=>.int _⟩
 |Sub=>obtain rfl:=sI h;exact⟨_,z5e,zcg λ_ _ _=>.int _⟩
 |Mult=>obtain rfl:=sI h;exact⟨_,z5n,zmd (λ_ _=>zwj) λ_ _ _=>.int _⟩
 |BitAnd=>obtain rfl:=sI h;exact⟨_,z5t,zcg λ_ _ _=>.int _⟩
 |BitOr=>obtain rfl:=sI h;exact⟨_,z88,zcg λ_ _ _=>.int _⟩
 |BitXor=>obtain rfl:=sI h;exact⟨_,z74,zcg λ_ _ _=>.int _⟩
 |_=>exact noSome h
def cmpO:CmpOp->Option O2
 |.Eq=>some oEq
 |.NotEq=>some oNe
 |.Lt=>some (oI yes2 λi j=>.bl (decide (i<j)))
 |.LtE=>some (oI yes2 λi j=>.bl (decide (i<=j)))
 |.Gt=>some #v[9,11]
 |.GtE=>some (oI yes2 λi j=>.bl (decide (j<=i)))
 |.Is=>some oIs
 |.In=>some (oIn false)
 |.NotIn=>some (oIn true)
 |_=>none
theorem zp9 {kr:Nat}(hr:Room kr X.A){op:CmpOp}{o:O2}(h:cmpO op=some o):∃r,OpR X (compareOp op) r/\OpS X.K r o:=by
 cases op with
 |Eq=>obtain rfl:=sI h;exact⟨_,.or ydh (yad hr),z9m⟩
 |NotEq=>obtain rfl:=sI h;exact⟨_,.or ycs (ych hr),ycc⟩
 |Lt=>obtain rfl:=sI h;exact⟨_,yd8,zcg λ_ _ _=>.bl _⟩
 |LtE=>obtain rfl:=sI h;exact⟨_,ydd,zcg λ_ _ _=>.bl _⟩
 |Gt=>obtain rfl:=sI h;exact⟨_,ydx,zcg λ_ _ _=>.bl _⟩
 |GtE=>obtain rfl:=sI h;exact⟨_,yeb,zcg λ_ _ _=>.bl _⟩
 |Is=>obtain rfl:=sI h;exact⟨_,z8m.or yab,z8u⟩
 |In=>obtain rfl:=sI h;exact⟨_,znn,zvl false⟩
 |NotIn=>obtain rfl:=sI h;exact⟨_,zf6,zvl true⟩
 |_=>exact noSome h
end
def zax (f:Sx->Expr->Option GE) (S:Sx) (e:Expr):Option GA:=match e with
 |.Name x _=>(S.rd x).bind λi=>some (zaa i)
 |_=>(f S e).bind λg=>some (gArg g)
def asL (f:Expr->Option GA):List Expr->Option GAs
 |[]=>some gA0
 |e::es=>if zak e then (f e).bind λa=>(asL f es).bind λas=>some (gCns a as) else none
def asM (f:Sx->Expr->Option GE) (S:Sx):List Expr->List Bool->Option GAs
 |[],[]=>some gA0
 |e::es,b::m=>if zak e then (if b then zax f S e else (f S e).bind λg=>some (gArg g)).bind λa=>(asM f S es m).bind λas=>some (gCns a as) else none
 |_,_=>none
def zbu (f:Sx->Expr->Option GE):Prop:=∀X S d,CxOk X S d->∀e g,f S e=some g->PE X e (tE X.K g)
def zm5 (f:Sx->Expr->Option GT):Prop:=∀X S d,CxOk X S d->∀e g,f S e=some g->PT X e (tT X.K g)
section
variable {X:Cx}{S:Sx}{d:Nat}{f:Sx->Expr->Option GE}
theorem zaf (Hf:zbu f)(C:CxOk X S d){e:Expr}{a:GA}(h:zax f S e=some a):PE X e (tA X.K a):=by
 unfold zax at h;split at h
 ·obtain⟨i,hi,h⟩:=bS h;obtain rfl:=sI h;exact (zs5 C hi).wk λ_ _ _=>zys
 ·obtain⟨g,hg,h⟩:=bS h;obtain rfl:=sI h;exact (Hf X S d C _ _ hg).wk λ_ _ _=>zgl
theorem zf8 {fa:Expr->Option GA} (Hf:∀e a,fa e=some a->PE X e (tA X.K a)):∀{es:List Expr}{as:GAs},asL fa es=some as->PA X es (tAs X.K as)/\es.all zak=true
 |[],_,h=>by obtain rfl:=sI h;exact⟨zel.wk λ_ _ _=>zry,rfl⟩
 | e::es,_,h=>by
  unfold asL at h;split at h
  ·rename_i z
   obtain⟨a,ha,h⟩:=bS h;obtain⟨as,has,h⟩:=bS h;obtain rfl:=sI h;obtain⟨p,q⟩:=zf8 Hf has;exact⟨(pac (Hf e a ha) p z).wk λ_ _ _=>zrg,by rw[Bp,z,q];rfl⟩
  ·exact noSome h
theorem z3w (Hf:zbu f) (C:CxOk X S d):∀{es:List Expr}{m:List Bool}{as:GAs},asM f S es m=some as->PA X es (tAs X.K as)/\es.all zak=true
 |[],[],_,h=>by obtain rfl:=sI h;exact⟨zel.wk λ_ _ _=>zry,rfl⟩
 | e::es,b::m,_,h=>by
  unfold asM at h;split at h
  ·rename_i z
   obtain ⟨a,ha,h⟩:=bS h;obtain ⟨as,has,h⟩:=bS h;obtain rfl:=sI h;obtain ⟨p,q⟩:=z3w Hf C has;have pe:PE X e (tA X.K a):=by
    cases b with
    |true=>exact zaf Hf C (by simpa using ha)
    | false =>
     obtain⟨g,hg,ha⟩:=bS (show (f S e).bind _=some a from by simpa using ha);obtain rfl:=sI ha;exact (Hf X S d C _ _ hg).wk λ_ _ _=>zgl
   exact⟨(pac pe p z).wk λ_ _ _=>zrg,by rw[Bp,z,q];rfl⟩
  ·exact noSome h
 |[],_::_,_,h=>by exact noSome h
 |_::_,[],_,h=>by exact noSome h
end
def cmpE (f:Sx->Expr->Option GE) (S:Sx) (a:Expr) (ops:List CmpOp) (cs:List Expr):Option GE:=match ops,cs with
 |[op],[b]=>if zgv b then (zax f S a).bind λx=>(zax f S b).bind λy=>(cmpO op).bind λo=>some (gOp2 o x y) else none
 |[op,op'],[b,c]=>if zgv c then (zax f S a).bind λx=>(zax f S b).bind λy=>(zax f S c).bind λz=>(cmpO op).bind λo=>(cmpO op').bind λo'=>some (zqs o o' x y z) else none
 |_,_=>none
def z59 (f:Expr->Option GE) (op:BoolOp):Expr->List Expr->Option GE
 |v,[]=>f v
 |v,u::us=>match op with|.And=>(f v).bind λa=>(z59 f op u us).bind λb=>some (gAnd a b)|.Or=>none
def z4w (f:Expr->Option GT) (op:BoolOp):Expr->List Expr->Option GT
 |v,[]=>f v
 |v,u::us=>(f v).bind λa=>(z4w f op u us).bind λb=>some (match op with|.And=>zi1 a b|.Or=>gOrT a b)
section
variable {X:Cx}{S:Sx}{d:Nat}{f:Sx->Expr->Option GE}
theorem z4z (Hf:zbu f)(C:CxOk X S d){a:Expr}{ops:List CmpOp}{cs:List Expr}{g:GE}{pos:Pos}(h:cmpE f S a ops cs=some g):PE X (.Compare a ops cs pos) (tE X.K g)/\PT X (.Compare a ops cs pos) (tT X.K (zah g)):=by
 unfold cmpE at h;split at h
 ·rename_i op b;split at h
  ·rename_i z;nofun;obtain⟨x,hx,h⟩:=bS h;obtain⟨y,hy,h⟩:=bS h;obtain⟨o,ho,h⟩:=bS h;ac_rfl;obtain rfl:=sI h;obtain⟨r,h1,h2⟩:=zp9 (X:=X) C.room ho;exact⟨(zuy h1 (zaf Hf C hx) (zaf Hf C hy) (ze2 z)).wk λ_ _ _=>zd6 h2,(zww h1 (zaf Hf C hx) (zaf Hf C hy) (ze2 z)).wk λ_ _ _=>zfj λ_ _ _=>zd6 h2⟩
  ·exact noSome h
 ·rename_i op op' b c;split at h
  ·rename_i z;nofun;obtain⟨x,hx,h⟩:=bS h;obtain⟨y,hy,h⟩:=bS h;obtain⟨w,hw,h⟩:=bS h;obtain⟨o,ho,h⟩:=bS h;obtain⟨o',ho',h⟩:=bS h;ac_rfl;obtain rfl:=sI h;nofun;obtain⟨r,h1,h2⟩:=zp9 (X:=X) C.room ho;obtain⟨r',h1',h2'⟩:=zp9 (X:=X) C.room ho';ac_rfl;exact⟨(z11 h1 h1' (zaf Hf C hx) (zaf Hf C hy) (zaf Hf C hw) (zl0 z)).wk λ_ _ _=>zjf h2 h2',(z09 h1 h1' (zaf Hf C hx) (zaf Hf C hy) (zaf Hf C hw) (zl0 z)).wk λ_ _ _=>zfj λ_ _ _=>zjf h2 h2'⟩
  ·exact noSome h
 ·exact noSome h
theorem zqr {fe:Expr->Option GE} (Hf:∀e g,fe e=some g->PE X e (tE X.K g)) {op:BoolOp}{pos:Pos}:∀{v:Expr}{vs:List Expr}{g:GE},z59 fe op v vs=some g->PE X (.BoolOp op (v::vs) pos) (tE X.K g)
 |v,[],g,h=>z8g (Hf v g h)
 | v,u::us,g,h=>by
  cases op with
  | And =>
   obtain⟨a,ha,h⟩:=bS h;obtain⟨b,hb,h⟩:=bS h;obtain rfl:=sI h;exact (yb5 (Hf v a ha) (zqr Hf hb)).wk λ_ _ _=>z0x
  |Or=>exact noSome h
theorem zlp {fe:Expr->Option GT} (Hf:∀e g,fe e=some g->PT X e (tT X.K g)) {op:BoolOp}{pos:Pos}:∀{v:Expr}{vs:List Expr}{g:GT},z4w fe op v vs=some g->PW X (.BoolOp op (v::vs) pos) (tT X.K g)
 | v,[],g,h=>by
  cases op with
  |And=>exact z7d (Hf v g h)
  |Or=>exact yau (Hf v g h)
 | v,u::us,g,h=>by
  obtain⟨a,ha,h⟩:=bS h;obtain⟨b,hb,h⟩:=bS h;obtain rfl:=sI h;cases op with
  |And=>exact (z9h (Hf v a ha) (zlp Hf hb)).wk λ_ _ _=>zyw
  |Or=>exact (yc1 (Hf v a ha) (zlp Hf hb)).wk λ_ _ _=>z2e
end
theorem ybp:bootBuiltins "min" = some (.builtin "min"):=by decide +kernel
theorem z5q:bootBuiltins "repr" = some (.builtin "repr"):=by decide +kernel
theorem z3m:bootBuiltins "max" = some (.builtin "max"):=by decide +kernel
def bltO (x:Str):Option ON :=
 if x==("len" : Str) then some oLen else if x==("abs" : Str) then some oAbs else if x==("int" : Str) then some oInt else if x==("list" : Str) then some zzv else if x==("tuple" : Str) then some zc2 else if x==("all" : Str) then some (oBl λbs=>bs.all id) else if x==("any" : Str) then some (oBl λbs=>bs.any id)
 else if x==("sum" : Str) then some oSum else if x==("min" : Str) then some oMin else if x==("max" : Str) then some oMax else none
section
variable {X:Cx}{S:Sx}{d:Nat}
set_option maxHeartbeats 4000000 in
theorem z4k (C:CxOk X S d){x:Str}{o:ON}{e:Expr}{es:List Expr}{t:TA}{p pos:Pos}(hb:S.bl x=true)(h:bltO x=some o)(ha:PA X (e::es) t)(hst:(e::es).all zak=true):∃r,PE X (.Call (.Name x p) (e::es) [] pos) (tCB r t)/\OpSN X.K r o:=by
 obtain⟨g,m⟩:=zge C hb;rw[Bp,Ad] at hst;have s1:=zag (env:=X.env) (es:=es) hst.1;have s2:=zgi (env:=X.env) (pos:=pos) hst.2;unfold bltO at h;split at h
 ·rename_i z;obtain rfl:=sI h;have e:=Bj z;subst e;exact⟨_,zbe znx g m yb8 ha #v[0,9] #v[0,9] s1 s2,z76⟩
 split at h
 ·rename_i z;obtain rfl:=sI h;have e:=Bj z;subst e;exact⟨_,zbe z1m g m z8a ha #v[0,9] #v[0,9] s1 s2,z5b⟩
 split at h
 ·rename_i z;obtain rfl:=sI h;have e:=Bj z;subst e;exact⟨_,zfb zv8 g m z30 ha #v[0,9] #v[0,9] s1 s2,z7t⟩
 split at h
 ·rename_i z;obtain rfl:=sI h;have e:=Bj z;subst e;exact⟨_,zfb zf7 g m zp3 ha #v[0,9] #v[0,9] s1 s2,zrf⟩
 split at h
 ·rename_i z;obtain rfl:=sI h;have e:=Bj z;subst e;exact⟨_,zfb zkj g m zrl ha #v[0,9] #v[0,9] s1 s2,zw3⟩
 split at h
 ·rename_i z;obtain rfl:=sI h;have e:=Bj z;subst e;exact⟨_,zbe (z1p C.calm) g m z86 ha #v[0,9] #v[0,9] s1 s2,z20⟩
 split at h
 ·rename_i z;obtain rfl:=sI h;have e:=Bj z;subst e;exact⟨_,zbe (z2k C.calm) g m z8z ha #v[0,9] #v[0,9] s1 s2,z20⟩
 split at h
 ·rename_i z;obtain rfl:=sI h;have e:=Bj z;subst e;exact⟨_,zbe (zt8 C.calm) g m yar ha #v[0,9] #v[0,9] s1 s2,z6c⟩
 split at h
 ·rename_i z;obtain rfl:=sI h;have e:=Bj z;subst e;exact⟨_,zbe (zx2 C.calm) g m ybp ha #v[0,9] #v[0,9] s1 s2,z72⟩
 split at h
 ·rename_i z;obtain rfl:=sI h;have e:=Bj z;subst e;exact⟨_,zbe (zx1 C.calm) g m z3m ha #v[0,9] #v[0,9] s1 s2,z49⟩
 exact noSome h
def z7w (x:Str):Option ON:=if x==("repr" : Str) then some zoo else if x==("sorted" : Str) then some zds else bltO x
theorem zz2 (C:CxOk X S d){x:Str}{o:ON}{e:Expr}{es:List Expr}{t:TA}{p pos:Pos}(hb:S.bl x=true)(h:z7w x=some o)(ha:PA X (e::es) t)(hst:(e::es).all zak=true):∃r,PE X (.Call (.Name x p) (e::es) [] pos) (tCB r t)/\OpSN X.K r o:=by
 unfold z7w at h;split at h
 ·rename_i z;obtain rfl:=sI h;have e:=Bj z;subst e;obtain⟨g,m⟩:=zge C hb;rw[Bp,Ad] at hst;exact⟨_,zbe (zu8 C.room) g m z5q ha #v[0,9] #v[0,9] (zag hst.1) (zgi hst.2),z0u⟩
 split at h
 ·rename_i z;obtain rfl:=sI h;have e:=Bj z;subst e;obtain⟨g,m⟩:=zge C hb;rw[Bp,Ad] at hst;exact⟨_,zbe zjl g m (show bootBuiltins "sorted" = some (.builtin "sorted") from He) ha #v[0,9] #v[0,9] (zag hst.1) (zgi hst.2),zi6⟩
 ·exact z4k C hb h ha hst
end
noncomputable def kdOf (x:Str):Option Kd:=if x==("int" : Str) then some .int else if x==("bool" : Str) then some .bool else if x==("str" : Str) then some .str else if x==("tuple" : Str) then some .tuple else if x==("list" : Str) then some .list else none
theorem z5u {x:Str}{k:Kd}(h:kdOf x=some k):bootBuiltins x=some (.type k.nm)/\x≠("__name__" : Str)/\(x==("__debug__" : Str))=false:=by
 unfold kdOf at h;split at h
 ·rename_i z;obtain rfl:=sI h;have e:=Bj z;subst e;exact⟨z30,by decide,by decide⟩
 split at h
 ·rename_i z;obtain rfl:=sI h;have e:=Bj z;subst e;exact⟨z60,by decide,by decide⟩
 split at h
 ·rename_i z;obtain rfl:=sI h;have e:=Bj z;subst e;exact⟨z9k,by decide,by decide⟩
 split at h
 ·rename_i z;obtain rfl:=sI h;have e:=Bj z;subst e;exact⟨zrl,by decide,by decide⟩
 split at h
 ·rename_i z;obtain rfl:=sI h;have e:=Bj z;subst e;exact⟨zp3,by decide,by decide⟩
 exact noSome h
noncomputable def zfx:W->Option (W×Bool)
 |.int i=>#v[(Builtin.Int.intBits i),0]
 |_=>none
theorem zx9 {X:Cx}:MtR X "int.bit_length" (λx vs H Q=>∃i,x=.int i/\vs=[]/\Q (.int (Builtin.Int.intBits i)) H):=by
 intro pins s σ H x vs v us Q I rx rv h;obtain⟨i,rfl,rfl,q⟩:=h;obtain⟨t,rfl⟩:=rx;cases rv;exact call_int_bit_length ⟨.int _,H,I.tok _,⟨_,rfl⟩,q⟩
theorem zqa {K:PySem.W.Frag}{a:GA}{σ:St}{H:Hp}{Q:VK} (h:tE K (gOp1 zfx a) σ H Q):tBM0 K "int" (λx vs H Q=>∃i,x=.int i/\vs=[]/\Q (.int (Builtin.Int.intBits i)) H) (tA K a) σ H Q:=by
 nofun;obtain⟨F,pr,en,en',rv,R,h,q⟩:=h;obtain⟨⟨e1,x1⟩,h1,h⟩:=bS h;obtain⟨w1,hw1,h⟩:=bS h;obtain⟨r',hr,h⟩:=bS h;ac_rfl;cases h;refine⟨F,pr,en,e1,x1,R,h1,λF1 H1 v1 s1 R1 a1=>?_⟩;cases w1 with
 | int i =>
  obtain rfl:=sI hr;have:=(a1.repB R1 hw1).int;subst this;exact⟨rfl,i,rfl,rfl,q F1 H1 _ s1 R1 (.int _)⟩
 |_=>cases hr
noncomputable def zw4:Expr->Bool
 |.Call _ _ _ _=>true
 |_=>false
theorem zwe {o:Expr}{a:Str}{env:Env}{w:Sem Value}(h:zw4 o=false):attributeBase o a env w=w:=by
 cases o<;>first|rfl|(cases h)
def z41 (f:Sx->Expr->Option GE) (S:Sx) (o:Expr) (name:Str) (apos:Pos) (args:List Expr) (cpos:Pos):Option GE :=
 if !(apos.endLine==cpos.line)||zw4 o then none else match args with
 |[]=>if name==("bit_length" : Str) then (zax f S o).bind λa=>some (gOp1 zfx a) else none
 | [e]=>if !zak e then none else match o with
  |.Name x _=>(S.rd x).bind λi=>(f S e).bind λg=>if name==("append" : Str) then some (gApp i g) else none
  |_=>none
 |_=>none
theorem zyi {e:Expr}{env:Env}{cpos:Pos}(h:zak e=true):((backTo cpos (starEach [e] env)).all (λx=>!x.1)&&(backToKw cpos (keywordEach [] env)).all (λx=>x.1.isSome)&&decide (([e]:List Expr).length+([]:List Keyword).length+(if ([]:List Keyword).isEmpty then 0 else 1)<30))=true:=by
 rw[zag h];rfl
section
variable {X:Cx}{S:Sx}{d:Nat}{f:Sx->Expr->Option GE}
theorem z1y (Hf:zbu f)(C:CxOk X S d){o:Expr}{name:Str}{apos cpos:Pos}{args:List Expr}{g:GE}(h:z41 f S o name apos args cpos=some g):PE X (.Call (.Attribute o name apos) args [] cpos) (tE X.K g):=by
 unfold z41 at h;split at h
 ·exact noSome h
 ·rename_i z;rw[Co,not_or,Bv,Bv,Du] at z;have hb:=zwe (a:=name) (env:=X.env) (w:=eval o X.env) z.2;split at h
  ·split at h
   ·rename_i y;have e:=Bj y;subst e;obtain⟨a,ha,h⟩:=bS h;obtain rfl:=sI h;exact (z8j PySem.F.plainAttrs_int PySem.F.slot_int_bit_length PySem.F.type_int_bit_length zx9 (zaf Hf C ha) hb z.1).wk λ_ _ _=>zqa
   ·exact noSome h
  ·rename_i e;split at h
   ·exact noSome h
   ·rename_i y;rw[Bv,Du] at y;split at h
    ·rename_i x px;obtain⟨i,hi,h⟩:=bS h;obtain⟨ge,hg,h⟩:=bS h;have pa:PA X [e] (zfs (tE X.K ge) tNil):=pac (Hf X S d C _ _ hg) zel y;split at h
     ·rename_i q;obtain rfl:=sI h;have e':=Bj q;subst e';exact (z9e PySem.F.plainAttrs_list PySem.F.slot_list_append PySem.F.type_list_append zmu (zs5 C hi) pa hb (zyi y) z.1 (zag y) rfl).wk λ_ _ _=>z2t
     ·exact noSome h
    ·exact noSome h
  ·exact noSome h
end
def z69 (f:Sx->Expr->Option GE) (S:Sx) (x:Str) (args:List Expr):Option GE:=if x==("__debug__" : Str) then none else match args with
 |[]=>none
 | e::es=>match S.fs.lookup x with
  |some (m,Φ)=>if S.kd.lookup x==some .globalImplicit then (asM f S (e::es) m).bind λas=>some (zad m Φ as) else none
  | none=>if x==("isinstance" : Str)&&S.bl x then (match e,es with
    |e,[.Name t _]=>if zak e&&S.bl t then (kdOf t).bind λk=>(zax f S e).bind λa=>some (gOp1 (oIsi k) a) else none
    |_,_=>none)
   else if S.bl x then (z7w x).bind λo=>(asL (zax f S) (e::es)).bind λas=>some (gOpN o as) else none
theorem z1i {X:Cx}{S:Sx}{d:Nat}{f:Sx->Expr->Option GE}(Hf:zbu f)(C:CxOk X S d){x:Str}{args:List Expr}{g:GE}{p pos:Pos}(h:z69 f S x args=some g):PE X (.Call (.Name x p) args [] pos) (tE X.K g):=by
 unfold z69 at h;split at h
 ·exact noSome h
 ·rename_i hdb;rw[Bv] at hdb;split at h
  ·exact noSome h
  ·rename_i e es;split at h
   ·rename_i m Φ hfs;split at h
    ·rename_i hgl;obtain⟨as,has,h⟩:=bS h;obtain rfl:=sI h;obtain⟨ps,hl,cal⟩:=C.fs x m Φ hfs;obtain⟨pa,st⟩:=z3w Hf C has;rw[Bp,Ad] at st;exact (yat cal C.room (C.gl x (by simpa using hgl)) pa (Af _) hdb (zag st.1) (zgi st.2)).wk λ_ _ _=>zvf
    ·exact noSome h
   ·split at h
    ·rename_i hi;rw[Ad] at hi;have e':=Bj hi.1;subst e';obtain⟨gI,mI⟩:=zge C hi.2;split at h
     ·rename_i t pt;split at h
      ·rename_i z;rw[Ad] at z;obtain⟨k,hk,h⟩:=bS h;obtain⟨a,ha,h⟩:=bS h;obtain rfl:=sI h;obtain⟨k1,k2,k3⟩:=z5u hk;obtain⟨gT,mT⟩:=zge C z.2;have pt':PE X (.Name t pt) (tC (.ty k.nm)):=z4x gT mT k1 rfl k2 k3;have pa:PA X [e,.Name t pt] (zfs (tA X.K a) (zfs (tC (.ty k.nm)) tNil)):=pac (zaf Hf C ha) (pac pt' zel rfl) z.1;exact (zbe z12 gI mI zjr pa #v[0,9] hdb (zag z.1) rfl).wk λ_ _ _=>z2o
      ·exact noSome h
     ·exact noSome h
    ·split at h
     ·rename_i hb;obtain⟨o,ho,h⟩:=bS h;obtain⟨as,has,h⟩:=bS h;obtain rfl:=sI h;obtain⟨pa,st⟩:=zf8 (λe a ha=>zaf Hf C ha) has;obtain⟨r,h1,h2⟩:=zz2 (pos:=pos) (p:=p) C hb ho pa st;exact h1.wk λ_ _ _=>zki h2
     ·exact noSome h
def zpn (f:Sx->Expr->Option GE) (S:Sx) (tg e:Expr):Option GL:=if !zgv e then none else match e with
 | .Call (.Name x _) args [] _ =>
  if x==("range" : Str)&&S.bl x then (match args with
   |[a]=>if zak a then (asL (zax f S) [a]).bind λas=>some (zbs as) else none
   |[a,b]=>if zak a&&zak b then (asL (zax f S) [a,b]).bind λas=>some (zuv as) else none
   |_=>none)
  else if x==("enumerate" : Str)&&S.bl x then (match args,tg with
   |[a],.Tuple _ _ _=>if zak a then (f S a).bind λg=>some (zob g) else none
   |_,_=>none)
  else if x==("reversed" : Str)&&S.bl x then (match args with
   |[a]=>if zak a then (f S a).bind λg=>some (gRev g) else none
   |_=>none)
  else if x==("zip" : Str)&&S.bl x then (match args,tg with
   |[a,b],.Tuple _ _ _=>if zak a&&zak b then (f S a).bind λg=>(f S b).bind λg'=>some (gZip g g') else none
   |_,_=>none)
  else (f S e).bind λg=>some (zan g)
 |_=>(f S e).bind λg=>some (zan g)
theorem zfg {X:Cx}{S:Sx}{d:Nat}{f:Sx->Expr->Option GE}(Hf:zbu f)(C:CxOk X S d){tg e:Expr}{g:GL}(h:zpn f S tg e=some g):PI X tg e (tI X.K g)/\∀x,foldedSetIterable e X.env x=pure x:=by
 unfold zpn at h;split at h
 ·exact noSome h
 ·rename_i hs;rw[Bv,Du] at hs;refine⟨?_,zvd hs⟩;split at h
  ·rename_i x px args pc;split at h
   ·rename_i z;rw[Ad] at z;have e':=Bj z.1;subst e';obtain⟨gl,mg⟩:=zge C z.2;split at h
    ·rename_i a;split at h
     ·rename_i y;obtain⟨as,has,h⟩:=bS h;obtain rfl:=sI h;obtain⟨pa,_⟩:=zf8 (λe a ha=>zaf Hf C ha) has;exact (zwq gl mg pa (zag y)).wk λ_ _ _=>zux
     ·exact noSome h
    ·rename_i a b;split at h
     ·rename_i y;rw[Ad] at y;obtain⟨as,has,h⟩:=bS h;obtain rfl:=sI h;obtain⟨pa,_⟩:=zf8 (λe a ha=>zaf Hf C ha) has;exact (zx6 gl mg pa (by rw[zag y.1,zag y.2];rfl) (zag y.2)).wk λ_ _ _=>zu2
     ·exact noSome h
    ·exact noSome h
   ·split at h
    ·rename_i z;rw[Ad] at z;have e':=Bj z.1;subst e';obtain⟨gl,mg⟩:=zge C z.2;split at h
     ·rename_i a es k1 p1;split at h
      ·rename_i y;obtain⟨ge,hg,h⟩:=bS h;obtain rfl:=sI h;exact (z0a gl mg (pac (Hf X S d C _ _ hg) zel y) (zag y)).wk λ_ _ _=>zx5
      ·exact noSome h
     ·exact noSome h
    ·split at h
     ·rename_i z;rw[Ad] at z;have e':=Bj z.1;subst e';obtain⟨gl,mg⟩:=zge C z.2;split at h
      ·rename_i a;split at h
       ·rename_i y;obtain⟨ge,hg,h⟩:=bS h;obtain rfl:=sI h;exact (yay gl mg (pac (Hf X S d C _ _ hg) zel y) (zag y)).wk λ_ _ _=>zzh
       ·exact noSome h
      ·exact noSome h
     ·split at h
      ·rename_i z;rw[Ad] at z;have e':=Bj z.1;subst e';obtain⟨gl,mg⟩:=zge C z.2;split at h
       ·rename_i a b es k1 p1;split at h
        ·rename_i y;rw[Ad] at y;nofun;obtain⟨ge,hg,h⟩:=bS h;obtain⟨ge',hg',h⟩:=bS h;ac_rfl;obtain rfl:=sI h;exact (yce gl mg (pac (Hf X S d C _ _ hg) (pac (Hf X S d C _ _ hg') zel y.2) y.1) (by rw[zag y.1,zag y.2];rfl) (zag y.2)).wk λ_ _ _=>zzl
        ·exact noSome h
       ·exact noSome h
      ·obtain⟨ge,hg,h⟩:=bS h;obtain rfl:=sI h;exact (z26 (Hf X S d C _ _ hg)).wk λ_ _ _=>zmj
  ·obtain⟨ge,hg,h⟩:=bS h;obtain rfl:=sI h;exact (z26 (Hf X S d C _ _ hg)).wk λ_ _ _=>zmj
def zhk (S:Sx):List Expr->Option (List Nat)
 |[]=>some []
 |.Name x _::es=>(S.wr x).bind λi=>(zhk S es).bind λis=>some (i::is)
 |_=>none
def tgE (S:Sx):Expr->Option Tg
 |.Name x _=>(S.wr x).bind λi=>some (.nm i)
 |.Tuple es _ _=>(zhk S es).bind λis=>some (.tp is)
 |_=>none
section
variable {X:Cx}{S:Sx}{d:Nat}
theorem zjc (C:CxOk X S d):∀(es:List Expr) {is:List Nat},zhk S es=some is->PGs X es (zsa is)/\(assignEach es X.env).length=is.length/\(assignEach es X.env).findIdx? (·.1)=none:=by
 intro es
 induction es with
 |nil=>intro is h;obtain rfl:=sI h;exact⟨z5v,rfl,rfl⟩
 | cons e es ih =>
  intro is h;obtain ⟨x,p,rfl⟩ : ∃x p,e=.Name x p:=by
   cases e with
   |Name x p=>exact⟨x,p,rfl⟩
   |_=>exact noSome h
  nofun;obtain⟨i,hi,h⟩:=bS (show (S.wr x).bind _=_ from h);obtain⟨is,his,h⟩:=bS h;ac_rfl;obtain rfl:=sI h;nofun;obtain⟨a,b,c⟩:=ih his;obtain⟨w1,w2,w3⟩:=zwm C hi;ac_rfl;refine⟨z2l (zxr (ndN C) w1 w2 w3) a rfl,congrArg (· + 1) b,?_⟩;show List.findIdx? (·.1) ((false,assign (.Name x p) X.env)::assignEach es X.env)=none;rw[List.findIdx?_cons,c]
  rfl
theorem zqz (C:CxOk X S d){e:Expr}{T:Tg}(h:tgE S e=some T):PG X e (TGof X.K T):=by
 unfold tgE at h;split at h
 ·obtain⟨i,hi,h⟩:=bS h;obtain rfl:=sI h;obtain⟨w1,w2,w3⟩:=zwm C hi;exact zxr (ndN C) w1 w2 w3
 ·obtain⟨is,his,h⟩:=bS h;obtain rfl:=sI h;obtain⟨a,b,c⟩:=zjc C _ his;exact zwi C.calm a b c
 ·exact noSome h
end
def z46 (te:GE):Fn:=zae [false] 1 (gRet te)
noncomputable def lamΦ (te:GE) (w:W):Option W:=(z46 te [w]).bind λp=>if p.1.length=1 then some p.2.1 else none
def zqk (te:GE) (a:GA):GE:=λen=>(a en).bind λp=>(resA p.1 p.2).bind λw=>(seqL w).bind λws=>(mapO (lamΦ te) ws).bind λks=>(z63 ks ws).bind λout=>some (p.1,(.lst out,true))
theorem zn3 {scope:Scope}{env:Env} (h:(scope.names.all λp=>!(p.2==NameKind.free))=true):closureFor scope env=pure []:=by
 unfold closureFor;have go:∀(names:List (Str×NameKind)) (cs:List (Str×Addr)),(names.all λp=>!(p.2==NameKind.free))=true->(forIn names cs λ(p:Str×NameKind) cs=>(if p.2==NameKind.free then do let c <- cellOf env p.1;pure (ForInStep.yield ((p.1,c)::cs)) else pure (ForInStep.yield cs):Sem (ForInStep (List (Str×Addr)))))=pure cs:=by
  intro names
  induction names with
  |nil=>intro cs _;rw[Ex]
  | cons p r ih =>
   intro cs h;rw[Bp,Ad] at h;rw[Gm];have e:(p.2==NameKind.free)=false:=by simpa using h.1
   simp only [e,Cm,Fe,pure_bind];exact ih cs h.2
 have:=go scope.names [] h;simpa using this
theorem z4u {P:Program}{w:World}{K:PySem.W.Frag}{mg:Str->Option Value}{base:Heap}{k:Nat}{f c':Addr}{qual:Str}{params:Arguments}{body:Expr}{scope:Scope}{pm ctv:Value}{N ps:List Str}{A:Around}{outer:List Env}{s:Shared}{H:Hp}{us:List Value}{vs:List V}{Q:VK}{E:XK}
  (ho:s.heap.get? f=some (PySem.W.kla_obj "<lambda>" qual params body scope [] pm c' ctv)) (hcd:s.heap.CodeRec (.ref c') qual) (S:FnScope N ps scope) (hr:Room (k+1) A) (e0:Env0 P w K mg base A outer s H)
  (hb:bindArgs (PySem.W.kla_fn "<lambda>" qual params body scope [] pm (.ref c') ctv) ⟨us,[]⟩=pure (ps.zip us)) (r:Vals vs us) (hl:vs.length=ps.length)
  (hbody:Room k (A.deeper (envOfC qual scope s.heap.objs.size f (.ref c')))->∃t,PE (cxOf CX0 P w K mg base N qual scope f (.ref c') A outer s H E).nox body t/\t (start N vs) H Q) :
  codeAny (model P w) A (.call (.ref f) ⟨us,[]⟩) (CR CX0 outer P w H s Q E) s:=by
 have lim:s.heap.NoLimit:=e0.mod.nolimit.keeps λb o e=>(e0.bs b o e).1;have hkind:∀y∈ps.zip us,scope.names.lookup y.1=some .local\/#v[2,13]:=λ⟨n,v⟩ hy=>by
  rcases S.par n (Dx hy).1 with q|q
  ·exact .inl q
  ·exact .inr ⟨q,Fu _ _ _ (.inl q)⟩
 refine PySem.W.kla_callFunE hr.depth ho rfl S.co S.gen rfl hcd ?_;rw[hb];refine Ag (wpAny_newFunctionEnv_cells S.kind hkind λenv he s1 x=>?_);subst he;refine⟨lim.keeps x.toInCall.keep,PySem.W.kla_codeExpr ?_⟩;obtain⟨t,ht,hq⟩:=hbody (hr.deeper _);have I:Inv (cxOf CX0 P w K mg base N qual scope f (.ref c') A outer s H E) [] (start N vs) H s1:=zmg S hr.hd e0 hl r x;refine Cj (ht.nox [] s1 (start N vs) H Q I hq) (λu s' hs=>?_) λe s' hs=>hs;obtain⟨v,H',J,rv,q⟩:=hs;exact⟨v,H',J.os,J.bare,J.base,J.hok,rv,q⟩
noncomputable def zgq (params:Arguments):Option Str:=match params.posonlyargs,params.args,params.vararg,params.kwonlyargs,params.kwarg,params.defaults,params.kw_defaults with
 |[],[a],none,[],none,[],[]=>some a.arg
 |_,_,_,_,_,_,_=>none
theorem z2b {params:Arguments}{p:Str}(hp:zgq params=some p){qual:Str}{body:Expr}{scope:Scope}{pm ctv:Value}{c':Addr}{u:Value}:bindArgs (PySem.W.kla_fn "<lambda>" qual params body scope [] pm (.ref c') ctv) ⟨[u],[]⟩=pure ([p].zip [u]):=by
 nofun;obtain⟨po,ar,va,ko,kd,ka,df⟩:=params;ac_rfl;unfold zgq at hp;split at hp
 ·rename_i a q1 q2 q3 q4 q5 q6 q7;simp only at q1 q2 q3 q4 q5 q6 q7;subst q1 q2 q3 q4 q5 q6 q7;obtain rfl:=sI hp;have e:([(a.arg,u)]:List (Str×Value)).lookup a.arg=some u:=by simp [List.lookup]
  have d:seqItems? (Value.none)=(pure none:Sem _):=rfl;unfold bindArgs;simp [e,d]
 ·exact noSome hp
noncomputable def zon (scope:Scope) (p:Str):Bool:=decide (scope.kind=.function) && !scope.isCoroutine && !scope.isGenerator&&decide (scope.names.lookup p=some .local)&&(scope.names.all λq=>!(q.2==NameKind.free))
theorem z2r {scope:Scope}{p:Str}(h:zon scope p=true):FnScope [p] [p] scope:=by
 unfold zon at h;simp only [Ad,Bool.not_eq_true',Cq] at h;obtain⟨⟨⟨⟨h1,h2⟩,h3⟩,h4⟩,h5⟩:=h;refine⟨h1,h2,h3,by simp,rfl,λx hx=>.inl (by rw[Ao.mp hx];exact h4),λy hy z=>?_⟩;have:=Bd.mp h5 y hy;rw[z] at this;cases this
noncomputable def lamS (S:Sx) (scope:Scope) (p:Str):Sx:={ N:=[p],kd:=scope.names,bn:=S.bn,fs:=[],mp:=[],top:=true }
section
variable {X:Cx}{S:Sx}{d:Nat}
theorem zze {fE:Sx->Expr->Option GE} (HE:zbu fE) {f c':Addr}{qual:Str}{params:Arguments}{body:Expr}{scope:Scope}{pm ctv:Value}{p:Str}{te:GE} (hp:zgq params=some p) (hs:zon scope p=true) (ht:fE (lamS S scope p) body=some te) (hbn:∀x∈S.bn,X.mg x=none) (hr:Room 1 X.A) :
  KCall X (.ref f) (lamΦ te) (λpins F=>(f,PySem.W.kla_obj "<lambda>" qual params body scope [] pm c' ctv)∈pins/\F c'=some (.ext (zdt c' qual))) where
 mono:=λh hp sm=>⟨hp _ h.1,sm _ _ h.2⟩
 run:=λpins s σ H F pr en w k v u al I R rp ru hΦ=>by
  have FS:=z2r hs;nofun;obtain⟨⟨ws',r⟩,e1,e2⟩:=bS hΦ;ac_rfl;split at e2
  ·rename_i hl1
   obtain rfl:=sI e2;have cr:s.heap.CodeRec (.ref c') qual:=by
    nofun;obtain⟨φ,_,_⟩:=(show zaz X.prog X.w H s.heap c' (.ext (zdt c' qual)) from I.hok c' _ (R.sub _ _ al.2));obtain⟨oc,vs,t,g1,g2,g3⟩:=φ;ac_rfl;exact⟨c',oc,vs,t,rfl,g1,g2,g3⟩
   have ho:=(I.pin _ (Aw _ al.1)).1;have bk:zau (za4 [(Sum.inl w:W ⊕ Nat)]) en (za6 [false] ws')=en:=by
    unfold zau;apply De;intro i;rw[Gf];cases en[i]? with
    |none=>rfl
    |some x=>rfl
   have sp:spF X.K [false] (z46 te) [v] H (λv' H'=>∃F',Same F F'/\Rel X.K F' pr en σ H'/\Rep X.K F' r.1 v') E0:=by
    refine zve (xs:=[.inl w]) (en':=en) (r:=r) R (.cons rp .nil) ?_ λF' H' v' s' R' y=>?_
    ·show (if (true&&true&&_)=true then _ else none)=_
     rw[if_pos (by rfl)];show ((z46 te) [w]).bind _=_;rw[e1];show (if ws'.length=1 then some (zau (za4 [(Sum.inl w:W ⊕ Nat)]) en (za6 [false] ws'),r) else none)=_;rw[if_pos hl1,bk]
    ·refine aG λGg qG => ?_
     obtain⟨F'',s'',R'',y''⟩:=y.freeze R';ac_rfl;exact⟨F'',s'.trans s'',R'',y''⟩
   refine wpAny_call (Hb (z4u (N:=[p]) (ps:=[p]) (E:=E0) (Q:=λv' H'=>∃F',Same F F'/\Rel X.K F' pr en σ H'/\Rep X.K F' r.1 v') ho cr FS hr I.env0 ?bind (.cons ru .nil) rfl λhr'=>?body) λres s' hq=>?_)
   case bind =>
    exact z2b hp
   case body =>
    have rd:=zut (N:=[p]) sp;have C:CxOk (cxOf CX0 X.prog X.w X.K X.mg X.base [p] qual scope f (.ref c') X.A X.stack s H E0).nox (lamS S scope p) 0:={
     N:=rfl
     nd:=by show [p].Nodup;simp
     loc:=λx e=>e
     cel:=λx e=>⟨e,rfl⟩
     vis:=λx e=>e
     gl:=λx e=>e
     calm:=rfl
     xe:=rfl
     bn:=hbn
     fs:=λx m Φ e=>by exact noSome e
     room:=hr'
     sl:=by have:=hr.un;show X.A.units+3+16*0+205<cLine;omega
     bk:=by
      show (if scope.kind.isAnnotationScope then ScopeKind.function else scope.kind)=.function;rw[FS.kind];rfl
     lam:=λh=>absurd (show ("" : Str)∈lams from h) #v[0,0,7]
     dpo:=Bm _ }
    exact⟨_,HE _ _ _ C _ _ ht,zqx rd⟩
   cases res with
   |error e=>exact hq.elim
   | ok fl =>
    cases fl with
    | ret u' =>
     nofun;obtain⟨v',H',I',rv',F',s1,R1,y1⟩:=I.after hq;ac_rfl;exact⟨v',F',H',I',s1,R1,rv',y1⟩
    |next=>exact False.elim hq
    |brk=>exact False.elim hq
    |cont=>exact False.elim hq
  ·exact noSome e2
variable {pins:List (Addr × Obj)}{σ:St}{H F:Hp}{s:Shared}{pr:Prt}{en:En}
theorem z0v (C:CxOk X S d) (hn:S.nm∈lams) {params:Arguments}{body:Expr}{scope:Scope}{pos:Pos}{p:Str} (hp:zgq params=some p) (hs:zon scope p=true) (I:Inv X pins σ H s) (R:Rel X.K F pr en σ H) {Q:Value->Shared->Prop}{E:Value->Shared->Prop}
  (h:∀f c' pm ctv s' H' F',Inv X pins σ H' s'->Same F F'->Rel X.K F' pr en σ H'->s'.heap.get? f=some (PySem.W.kla_obj "<lambda>" (lamQ S.nm) params body scope [] pm c' ctv)->H' f=none->Apart X pins f->F' c'=some (.ext (zdt c' (lamQ S.nm)))->Q (.ref f) s') :
  wpAny #v[1,7] X.A (eval (.Lambda params body scope pos) X.env) Q E s:=by
 refine aG λ_ qG=>?_;obtain ⟨c,P,ht,hc,ecd,eq⟩:=C.lam hn;obtain ⟨ps,t1,t2,t3,t4,t5⟩:=R.tb.2 S.nm hn c P ht;refine qG ?_;clear qG;have hcl:closureFor scope X.env=pure []:=zn3 (by unfold zon at hs;simp only [Ad] at hs;exact hs.2);have hg:=I.mod.glob.keeps I.bk;have CH:PySem.W.CodeHd s.heap c P:=PySem.W.codeHd_of_K I.kIn hc;have hP:s.heap.get? P=some (PySem.W.tabObj ps):=I.hok P _ t1;have hgP:mainGlobals≠P:=λz=>by
  nofun;obtain⟨o,es,ep,g1,g2,_⟩:=hg;ac_rfl;rw[z,hP] at g1;obtain rfl:=sI g1;cases g2
 refine aG λ_ qG=>?_;obtain ⟨bm,ob,b1,b2,b3,b4,b5,b6⟩:=I.mod.bmn;refine qG ?_;clear qG;have b3':=I.bk _ _ b3;have hbG:bm≠mainGlobals:=λz=>by
  nofun;obtain⟨o,es,ep,g1,g2,_⟩:=hg;ac_rfl;rw[z,g1] at b3';obtain rfl:=sI b3';rw[g2] at b6;cases b6
 have hbP:bm≠P:=λz=>by
  rw[z,hP] at b3';obtain rfl:=sI b3';cases b4
 have hbm:s.heap.BuiltinsAt X.mg P:=⟨bm,ob,b1,b2,hbG,hbP,b3',b4,b5,b6⟩;have hdef:defaultsOf params X.env=([],[]):=by
  nofun;obtain⟨po,ar,va,ko,kd,ka,df⟩:=params;ac_rfl;unfold zgq at hp;split at hp
  ·rename_i a q1 q2 q3 q4 q5 q6 q7
   simp only at q1 q2 q3 q4 q5 q6 q7;subst q1 q2 q3 q4 q5 q6 q7
   rfl
  ·cases hp
 have eq':X.env.qual++"<lambda>" = lamQ S.nm:=by rw[eq];rfl
 refine PySem.W.kla_eval hdef ?_;rw[eq'];cases hf:codeAmong pos ps.toList with
 | some cv =>
  obtain⟨c',rfl,hc'⟩:=t5 pos cv hf;refine PySem.W.kla_makeFunctionHit hcl I.ok.glob hg ecd CH hP t4 hf hbm λctv h' tk k hz=>?_;have k2:∀b o,s.heap.get? b=some o->(h'.push (PySem.W.kla_obj "<lambda>" (lamQ S.nm) params body scope [] ((X.mg "__name__").getD .none) c' ctv)).get? b=some o:=λb o e=>Ab _ (k b o e);exact h h'.objs.size c' _ ctv _ H F (I.kept k2) (.refl F) R (An _ rfl) (I.hok.fresh hz) (I.fpOk (H':=H) hz (I.hok.fresh hz)).apart hc'
 | none =>
  refine PySem.W.kla_makeFunction hcl I.ok.glob hg ecd CH hP t4 hf hgP hbm λc' ctv h' tk hx hge hlt hrec htb=>?_;have hn':H c'=none:=I.hok.fresh hge;have nP:c'≠P:=λz=>by rw[z,t1] at hn';cases hn'
  obtain⟨ps',eps⟩ : ∃ps',ps'=ps++#[rawInt pos.line,rawInt pos.col,.ref c']:=⟨_,rfl⟩;rw[<-eps] at htb;have sizes:s.heap.objs.size<=h'.objs.size:=Nat.le_of_lt (Nat.lt_of_le_of_lt hge hlt);have neP:∀b,H b=none->b≠P:=λb e z=>by rw[z,t1] at e;cases e
  let fo:=PySem.W.kla_obj "<lambda>" (lamQ S.nm) params body scope [] ((X.mg "__name__").getD .none) c' ctv
  have k2:∀b o,b≠P->s.heap.get? b=some o->(h'.push fo).get? b=some o:=λb o hb e=>Ab _ (hx b o hb e)
  let H':Hp:=upd (upd H P (.tbl ps')) c' (.ext (zdt c' (lamQ S.nm)))
  have hH:∀b,b≠P->b≠c'->H' b=H b:=λb h1 h2=>by show upd (upd H P _) c' _ b=_;rw[upd_ne h2,upd_ne h1]
  have hHP:H' P=some (.tbl ps'):=by show upd (upd H P _) c' _ P=_;rw[upd_ne nP.symm,upd_same]
  have hHc:H' c'=some (.ext (zdt c' (lamQ S.nm))):=upd_same;have nc:∀b o,s.heap.get? b=some o->b≠c':=λb o e z=>by subst z;exact absurd (Ai e) (Nat.not_lt_of_le hge)
  have nH:∀b u,H b=some u->b≠c':=λb u e z=>by rw[z,hn'] at e;cases e
  have ntb:∀b u,H b=some u->(∀q,u≠.tbl q)->b≠P:=λb u e hu z=>by rw[z,t1] at e;obtain rfl:=sI e;exact hu _ rfl
  have I':Inv X pins σ H' { s with heap:=h'.push fo,toks:=tk }:=by
   refine I.step (g':=s.gens) (d':=s.drawn) (ch:=[]) (λb hb=>by cases hb) (λb o _ _ _ e n=>k2 b o (neP b n) e) (λb o _ _ _ e n=>⟨o.slots,k2 b o (neP b n) e⟩) (λb u _ e n=>by rw [hH b (neP b n) (nc b u e)];exact n)
    (λb u _ e=>?_) (λb xs e=>by rw[hH b (ntb b _ e λ_ z=>by cases z) (nH b _ e)];exact e) (λb u xs e=>by rw[hH b (ntb b _ e λ_ z=>by cases z) (nH b _ e)];exact e) (λb qs e=>?_) (λm hm=>?_) (λb u e=>?_) I.bare
   ·by_cases hb:b=P
    ·subst hb;exact⟨_,Ab _ htb⟩
    ·exact⟨u,k2 b u hb e⟩
   ·by_cases hb:b=P
    ·subst hb
     rw[t1] at e;cases e;exact⟨#[rawInt pos.line,rawInt pos.col,.ref c'],by rw[hHP,eps]⟩
    ·exact⟨#[],by rw[hH b hb (nH b _ e),e];simp⟩
   ·refine aG λGg qG => ?_
    obtain⟨o,es,ep,ho,r⟩:=hm;ac_rfl;exact⟨o,es,ep,k2 _ o (neP _ I.free) ho,r⟩
   ·by_cases hb:b=c'
    ·subst hb
     rw[hHc] at e;obtain rfl:=sI e;nofun;obtain⟨c2,oc,vs,t,e2,hoc,hd,hv⟩:=hrec;ac_rfl;cases e2;refine⟨⟨oc,vs,t,Ab _ hoc,hd,hv⟩,⟨oc,Ab _ hoc⟩,λh1 h2 ⟨oc,vs,t,g1,g2,g3⟩ kk=>⟨oc,vs,t,kk oc g1,g2,g3⟩⟩
    ·by_cases hb2:b=P
     ·subst hb2
      rw[hHP] at e;obtain rfl:=sI e;exact Ab _ htb
     ·rw [hH b hb2 hb] at e
      refine (I.hok b u e).stay (λc v hc q=>k2 c v ?_ q) (λc q=>by rw[hH c (ntb c _ q λ_ z=>by cases z) (nH c _ q)];exact q) λc xs q=>by rw[hH c (ntb c _ q λ_ z=>by cases z) (nH c _ q)];exact q
      rcases hc with z|z
      ·rw[z];exact hb2
      ·exact ntb c _ z λ_ y=>by cases y
  have fc:F c'=none:=R.sub.free hn';have sF:Same F (upd F c' (.ext (zdt c' (lamQ S.nm)))):=Same.new fc _;have R':Rel X.K (upd F c' (.ext (zdt c' (lamQ S.nm)))) pr en σ H':=by
   refine⟨R.len,λb u e=>?_,λi w e=>?_,λi w e=>?_,R.inj,λb o q=>?_,R.tb.1,λx hx' c0 P0 e0=>?_⟩
   ·by_cases hb:b=c'
    ·subst hb;rw[upd_same] at e;rw[hHc];exact e
    ·rw [upd_ne hb] at e
     have e':=R.sub _ _ e;rw[hH b (λz=>by rw[z,t2] at e;cases e) hb];exact e'
   ·obtain ⟨v,g1,g2⟩:=R.val i w e
    exact⟨v,g1,g2.mono sF⟩
   ·refine aG λGg qG => ?_
    obtain⟨a,o,w',g1,g2,g3,g4,g5⟩:=R.own i w e;ac_rfl;have na:a≠c':=nH a _ g3;exact⟨a,o,w',g1,g2,by rw[hH a (ntb a _ g3 λ_ z=>by cases g5<;>cases z) na];exact g3,by rw[upd_ne na];exact g4,g5.mono sF⟩
   ·obtain ⟨g1,g2,g3⟩:=R.prt b o q
    have nb:b≠c':=nH b _ g1;exact⟨by rw[hH b (λz=>by subst z;exact t3 o q) nb];exact g1,by rw[upd_ne nb];exact g2,g3⟩
   ·refine aG λGg qG => ?_
    obtain⟨qs,u1,u2,u3,u4,u5⟩:=R.tb.2 x hx' c0 P0 e0;ac_rfl;by_cases hp0:P0=P
    ·subst hp0
     have ex:x=S.nm:=R.tb.1 x hx' S.nm hn c0 c P0 e0 ht;subst ex;rw[t1] at u1;cases u1;refine⟨ps',hHP,by rw[upd_ne nP.symm];exact t2,t3,?_,λpos2 cv e2=>?_⟩
     ·rw [eps]
      have:=TriplesOk_snoc pos.line pos.col (.ref c') ps.toList t4;simpa using this
     ·rw [eps] at e2
      have e3:codeAmong pos2 (ps.toList++[rawInt pos.line,rawInt pos.col,.ref c'])=some cv:=by simpa using e2
      have gen:∀l:List Value,TriplesOk l->codeAmong pos2 (l++[rawInt pos.line,rawInt pos.col,.ref c'])=some cv->codeAmong pos2 l=some cv\/cv=.ref c':=λl hl=>by
       fun_induction TriplesOk l with
       | case1 =>
        intro z;show _\/_
        right
        simp only [List.nil_append,rawInt,codeAmong] at z;split at z
        ·exact (sI z).symm
        ·cases z
       | case2 a b c d e rest ih =>
        intro z;simp only [List.cons_append,codeAmong] at z ⊢;split at z
        ·rename_i q;rw[if_pos q];exact .inl z
        ·rename_i q;rw[if_neg q];exact ih hl z
       |case3=>exact hl.elim
      rcases gen ps.toList t4 e3 with z|z
      ·obtain ⟨c2,q1,q2⟩:=u5 pos2 cv z
       exact⟨c2,q1,sF _ _ q2⟩
      ·exact⟨c',z,upd_same⟩
    ·have np0:P0≠c':=nH P0 _ u1
     refine⟨qs,by rw[hH P0 hp0 np0];exact u1,by rw[upd_ne np0];exact u2,u3,u4,λpos2 cv e2=>?_⟩;obtain⟨c2,q1,q2⟩:=u5 pos2 cv e2;exact⟨c2,q1,sF _ _ q2⟩
  have nf:H' h'.objs.size=none:=by
   rw[hH _ (λz=>?_) (Gu hlt)]
   ·exact I.hok.fresh sizes
   ·have:=I.hok.fresh sizes
    rw[z,t1] at this;cases this
  exact h h'.objs.size c' _ ctv _ H' _ I' sF R' (An _ rfl) nf (I.fpOk (H':=H) sizes (I.hok.fresh sizes)).apart upd_same
theorem zz6 (h:Room 2 X.A):Room 1 X.inn.A:=⟨h.hd,by have:=h.dp;show X.A.depth+3*1+5<_;omega,by have:=h.un;show X.A.units+1+1+16*1+200<_;omega,h.gd⟩
theorem z0d {fE:Sx->Expr->Option GE} (HE:zbu fE) (C:CxOk X S d) {e:Expr}{a:GA} (ha:zax fE S e=some a) (hns:zak e=true) {params:Arguments}{body:Expr}{scope:Scope}{lpos kpos px pos:Pos}{p:Str}{te:GE} (hn:S.nm∈lams) (h2:2<=S.dp) (hp:zgq params=some p) (hs:zon scope p=true) (ht:fE (lamS S scope p) body=some te) (hbl:S.bl "sorted" = true) :
  PE X (.Call (.Name "sorted" px) [e] [⟨some "key",.Lambda params body scope lpos,kpos⟩] pos) (tE X.K (zqk te a)):=by
 intro pins s σ H Q I h;nofun;nofun;obtain⟨F,pr,en,en',r,R,hg,q⟩:=h;obtain⟨⟨e1,x⟩,h1,hg⟩:=bS hg;obtain⟨w,hw,hg⟩:=bS hg;obtain⟨ws,hws,hg⟩:=bS hg;obtain⟨ks,hks,hg⟩:=bS hg;obtain⟨out,ho,hg⟩:=bS hg;ac_rfl;ac_rfl;cases hg;obtain⟨gl,mn⟩:=zge C hbl;have hr:Room 2 X.A:=C.room.mono (Cf h2 C.dpo);have hst:starEach [e] X.env=(false,eval e X.env)::starEach [] X.env:=by cases e<;>first|rfl|(cases hns)
 refine Fz (zem I gl mn (show bootBuiltins "sorted" = some (.builtin "sorted") from He) ?_);refine PyProof.Rows.callWith_kw ?_ (by rw[hst];rfl) (by rw[hst];rfl);refine thn (zpj (zaf HE C ha) zel hst pos pins s σ H (λvs H1=>∃v F1,vs=[v]/\Same F F1/\Rel X.K F1 pr e1 σ H1/\ArgR X.K F1 σ x v) I ⟨F,pr,en,e1,x,R,h1,λF1 H1 v s1 R1 a1=>⟨v,F1,rfl,s1,R1,a1⟩⟩) λus s1 ⟨vs,H1,I1,rv,v,F1,ev,sm1,R1,a1⟩=>?_;subst ev;cases rv with
 | cons ru rv =>
  cases rv;refine PyProof.Rows.kws_cons (z0v C hn hp hs I1 R1 λf c' pm ctv s2 H2 F2 I2 sm2 R2 gf nf apf gc=>PyProof.Rows.kws_nil ?_);have I3:Inv X ((f,PySem.W.kla_obj "<lambda>" (lamQ S.nm) params body scope [] pm c' ctv)::pins) σ H2 s2:=I2.pins_of λy hy=>by
   rcases Ap.mp hy with rfl|hy
   ·exact⟨gf,nf,apf.l,apf.f,λv z=>by cases z⟩
   ·exact I2.pin y (Aw _ hy)
  have rb:=(a1.mono sm2).repB R2 hw;nofun;nofun;obtain⟨l,vvs,ev,sq,rps⟩:=rb.seqL R2.sub hws;ac_rfl;ac_rfl;subst ev;cases (show _=Value.ref l from ru);refine thn (zs0 (E:=X.xe) (Q:=Q) (zze (X:=X.inn) (S:=S) (f:=f) (c':=c') (qual:=lamQ S.nm) (pm:=pm) (ctv:=ctv) HE hp hs ht C.bn (zz6 hr)) I3 ⟨Ax,gc⟩ R2 sq rps hks ho (by have:=hr.un;omega) λF' H' v s' R' y=>q F' H' v (sm1.trans (sm2.trans s')) R' y) λu s' ⟨v,H',I',rv',q'⟩=>⟨v,H',I'.pins_of λy hy=>I'.pin y (Aw _ (As _ hy)),rv',q'⟩
def z6w (fE:Sx->Expr->Option GE) (S:Sx) (x:Str) (e:Expr) (key:Str) (params:Arguments) (body:Expr) (scope:Scope):Option GE :=
 if x==("sorted" : Str)&&key==("key" : Str)&&S.bl x&&zak e&&lams.contains S.nm&&decide (2<=S.dp) then (zgq params).bind λp=>if zon scope p then (zax fE S e).bind λa=>(fE (lamS S scope p) body).bind λte=>some (zqk te a) else none else none
theorem zzf {fE:Sx->Expr->Option GE}(HE:zbu fE)(C:CxOk X S d){x key:Str}{e:Expr}{params:Arguments}{body:Expr}{scope:Scope}{lpos kpos px pos:Pos}{g:GE}(h:z6w fE S x e key params body scope=some g):PE X (.Call (.Name x px) [e] [⟨some key,.Lambda params body scope lpos,kpos⟩] pos) (tE X.K g):=by
 unfold z6w at h;split at h
 ·rename_i z;simp only [Ad,Cq,List.contains_iff_mem] at z;nofun;obtain⟨⟨⟨⟨⟨z1,z2⟩,z3⟩,z4⟩,z5⟩,z6⟩:=z;ac_rfl;have e1:=Bj z1;have e2:=Bj z2;subst e1 e2;obtain⟨p,hp,h⟩:=bS h;split at h
  ·rename_i y;nofun;obtain⟨a,ha,h⟩:=bS h;obtain⟨te,ht,h⟩:=bS h;ac_rfl;obtain rfl:=sI h;exact z0d HE C ha z4 z5 z6 hp y ht z3
  ·exact noSome h
 ·exact noSome h
end
section
variable {prog:Program}{w:World}{A:Around}{E:Value->Shared->Prop}{s:Shared}
theorem zqh {id:String}{b:Builtin}{args:List Value}{kw:List (Str×Value)}{Q:Value->Shared->Prop} (hk:builtinKind id=none) (hp:plainId id=true) (hb:entryFor table id=some b) (ha:argsOk id ⟨args,kw⟩)
  (hc:wpAny (model prog w) A.in1 (b ⟨args,kw⟩) (λfin s'=>∃c,fin=.again c/\c.quiet=true/\codeAny (model prog w) A c (λr t=>∃v,r=.ok (.ret v)/\Q v t) s') E s):wpAny (model prog w) A (call (.builtin id) args kw) Q E s:=by
 refine wpAny_call (codeAny_call_builtin hp hb ?_);have fin:=Cj hc (Q':=λfin s'=>match fin with
  |.done f=>(match (Except.ok f:Result) with|.ok (.ret v)=>Q v s'|.ok _=>False|.error e=>E e s')
  | .again c=>c.quiet=true/\codeAny (model prog w) A c (λr t=>match r with | .ok (.ret v)=>Q v t | .ok _=>False | .error e=>E e t) s') (λf t z=>by
   obtain⟨c,rfl,q,z⟩:=z;exact⟨q,Hb z λr t y=>by obtain⟨v,rfl,y⟩:=y;exact y⟩) λ_ _ z=>z
 simp only [checkBuiltinCall,hk];cases sg:Manifest.signature? id with
 |none=>exact Ag fin
 | some sig =>
  have e:Bind.checkArgs id sig ⟨args,kw⟩=pure ():=by simpa only [argsOk,sg] using ha
  simp only [e];exact Ag fin
theorem zv9 (a v:Value):argsOk "max" ⟨[a],[("default",v)]⟩:=by unfold argsOk;kernel_rfl
noncomputable def mxF (f:Nat->Int):Nat->Nat->Int->Int
 |_,0,b=>b
 |j,k+1,b=>mxF f (j+1) k (if f j > b then f j else b)
variable {I:Addr}{fp wr:List Addr}{n:Nat}{P:Nat->Value->Prop}{St:Nat->Heap->Prop}{R:Result->Shared->Prop}
theorem z7j (W:Walks prog w A.in1 I fp wr n P St) (f:Nat->Int) (hP:∀i v,P i v->∃t,v=.int (f i) t) (S:Addr) (nS:S ∉ fp) (d:Value) :
  ∀(k j:Nat) (s:Shared) (b:Int) (tb:Tok) (i0:Nat) (c:Nat),n=j+k->P i0 (.int b tb)->St j s.heap->s.heap.get? S=some { cls:=.type "list",dict:=none,data:=.seq #[.int b tb,.int b tb] c,slots:=#[] } ->
   (∀h' tk t,(∀a o,a ∉ wr->a≠S->s.heap.get? a=some o->h'.get? a=some o)->R (.ok (.ret (.int (mxF f j k b) t))) { s with heap:=h',toks:=tk })->codeAny (model prog w) A (.builtin "max.loop" ⟨[.ref I,.none,.ref S],[("default",d)]⟩) R s:=by
 have nW:S ∉ wr:=λh=>nS (W.sub _ h);have nm:(toString "max"++toString ".loop" : String) = "max.loop" := by decide
 have cmp:=CmpOf.ints_gt (prog:=prog) (w:=w) (A:=A.in1) (P:=P) f hP;intro k
 induction k with
 | zero =>
  intro j s b tb i0 c hn hb st hs hR;refine Dr F.entry_max_loop ?_;rw[Dp El _];show wpAny _ A.in1 (seqItems? (.ref S)>>=_) _ _ s;refine Aa (Cy hs rfl ?_);show wpAny _ A.in1 (tryCatch (pyNext (.ref I)) _>>=_) _ _ s;have st':St n s.heap:=by rw[hn];exact st
  refine Aa (Gd (W.done s _ _ st' λh' tk k1=>?_));show wpAny _ A.in1 (updateSeq S (λ_=>#[])>>=_) _ _ _;refine Aa (wpAny_updateSeq (k1 S _ nW hs) rfl (Aa (Ga (Ag ?_))));exact hR _ tk tb λa o a1 a2 e=>(Dk _ _ (Ne.symm a2)).trans (k1 a o a1 e)
 | succ k ih =>
  intro j s b tb i0 c hn hb st hs hR;refine Dr F.entry_max_loop ?_;rw[Dp El _];show wpAny _ A.in1 (seqItems? (.ref S)>>=_) _ _ s;refine Aa (Cy hs rfl ?_);show wpAny _ A.in1 (tryCatch (pyNext (.ref I)) _>>=_) _ _ s;refine Aa (Gd (W.item j s _ _ #v[] st λv h1 tk p1 st1 k1=>?_));obtain⟨t1,rfl⟩:=hP j v p1;have hs1:=k1 S _ nW hs;show wpAny _ A.in1 (tryCatch (holding [.int (f j) t1,.int (f j) t1] (richCompare .Gt (.int (f j) t1) (.int b tb)>>=_)) _>>=_) _ _ _;refine Aa (Gd (Bw (Aa (cmp j i0 _ _ _ _ _ p1 hb ?_))));have eb:f i0=b:=by obtain⟨_,e⟩:=hP i0 _ hb;cases e;rfl
  refine Aa (Bw (Cu ?_));refine Aa (Ga (Ag ?_));show wpAny _ A.in1 (if decide (f j > f i0)=true then _ else _) _ _ _;rw[eb];by_cases g:f j > b
  ·rw [Aj g]
   simp only [Fi];refine Aa (wpAny_updateSeq hs1 rfl (Aa (Ga ?_)));rw[nm];refine Ag ⟨Ft El _,ih (j+1) _ (f j) t1 j _ #v[] p1 (W.frame _ _ _ st1 λa ha o e=>(Dk _ _ (λz:S=a=>nS (z ▸ ha))).trans e) (Gr _ hs1 rfl) λh' tk' t k2=>?_⟩;have:=hR h' tk' t λa o a1 a2 e=>k2 a o a1 a2 ((Dk _ _ (Ne.symm a2)).trans (k1 a o a1 e));rw[mxF,if_pos g] at this;exact this
  ·rw [Ay g]
   simp only [Cm,Fe];refine Aa (Ga ?_);rw[nm];refine Ag ⟨Ft El _,ih (j+1) _ b tb i0 c #v[] hb st1 hs1 λh' tk' t k2=>?_⟩;have:=hR h' tk' t λa o a1 a2 e=>k2 a o a1 a2 (k1 a o a1 e);rw[mxF,if_neg g] at this;exact this
def maxD (f:Nat->Int) (n:Nat) (d:Int):Int:=match n with
 |0=>d
 |n+1=>mxF f 1 n (f 0)
theorem z0k (W:Walks prog w A.in1 I fp wr n P St) (f:Nat->Int) (hP:∀i v,P i v->∃t,v=.int (f i) t) (S:Addr) (nS:S ∉ fp) (d:Int) (td:Tok) {c:Nat} (st:St 0 s.heap) (hs:s.heap.get? S=some { cls:=.type "list",dict:=none,data:=.seq #[] c,slots:=#[] })
  (hR:∀h' tk t,(∀a o,a ∉ wr->a≠S->s.heap.get? a=some o->h'.get? a=some o)->R (.ok (.ret (.int (maxD f n d) t))) { s with heap:=h',toks:=tk }):codeAny (model prog w) A (.builtin "max.loop" ⟨[.ref I,.none,.ref S],[("default",.int d td)]⟩) R s:=by
 have nW:S ∉ wr:=λh=>nS (W.sub _ h);have nm:(toString "max"++toString ".loop" : String) = "max.loop" := by decide
 refine Dr F.entry_max_loop ?_;rw[Dp El _];show wpAny _ A.in1 (seqItems? (.ref S)>>=_) _ _ s;refine Aa (Cy hs rfl ?_);show wpAny _ A.in1 (tryCatch (pyNext (.ref I)) _>>=_) _ _ s;cases n with
 | zero =>
  refine Aa (Gd (W.done s _ _ st λh' tk k1=>?_));show wpAny _ A.in1 (rule _>>=_) _ _ _;refine Aa (Dc (Ag ?_));exact hR h' tk td λa o a1 _ e=>k1 a o a1 e
 | succ n =>
  refine Aa (Gd (W.item 0 s _ _ (Nat.succ_pos n) st λv h1 tk p1 st1 k1=>?_));obtain⟨t1,rfl⟩:=hP 0 v p1;have hs1:=k1 S _ nW hs;show wpAny _ A.in1 (updateSeq S (λ_=>#[.int (f 0) t1,.int (f 0) t1])>>=_) _ _ _;refine Aa (wpAny_updateSeq hs1 rfl ?_);rw[nm];refine Ag ⟨Ft El _,z7j W f hP S nS _ n 1 _ (f 0) t1 0 _ (Nat.add_comm n 1) p1 (W.frame _ _ _ st1 λa ha o e=>(Dk _ _ (λz:S=a=>nS (z ▸ ha))).trans e) (Gr _ hs1 rfl) λh' tk' t k2=>?_⟩;exact hR h' tk' t λa o a1 a2 e=>k2 a o a1 a2 ((Dk _ _ (Ne.symm a2)).trans (k1 a o a1 e))
theorem zm9 {x:Value}{d:Int}{td:Tok}{Q:Value->Shared->Prop}
  (h:wpAny (model prog w) A.in1 (pyIter x) (λit s2=>∃I fp wr n P St f,it=.ref I/\Walks prog w A.in1 I fp wr n P St/\St 0 s2.heap/\(∀b∈fp,b<s2.heap.objs.size)/\(∀i v,P i v->∃t,v=.int (f i) t) /\
   ∀h' tk t,(∀a o,a ∉ wr->s2.heap.get? a=some o->h'.get? a=some o)->Q (.int (maxD f n d) t) { s2 with heap:=h',toks:=tk }) E s) :
  wpAny (model prog w) A (call (.builtin "max") [x] [("default",.int d td)]) Q E s:=by
 have nm:(toString "max"++toString ".loop" : String) = "max.loop" := by decide
 refine zqh F.kind_max F.plain_max F.entry_max (zv9 _ _) ?_;show wpAny _ A.in1 (Builtin.Builtins.bindParams "max" ["key","default"] 0 ⟨[],[("default",.int d td)]⟩>>=_) _ _ s;refine Aa (Gx (show Builtin.Builtins.bindParams "max" ["key","default"] 0 ⟨[],[("default",.int d td)]⟩=pure [none,some (.int d td)] from rfl) ?_);refine Aa (Ag ?_);refine Aa (Cj h (λit s2 z=>?_) λ_ _ e=>e);nofun;obtain⟨I,fp,wr,n,P,St,f,rfl,W,st,hf,hP,hQ⟩:=z;ac_rfl;refine Aa (Dj ?_);have nS:s2.heap.objs.size ∉ fp:=λm=>Bt _ (hf _ m);rw[nm];refine Ag ⟨_,rfl,Ft El _,z0k W f hP s2.heap.objs.size nS d td (W.frame _ _ _ st λa _ o e=>Ab _ e) (An _ rfl) λh' tk t k=>⟨_,rfl,?_⟩⟩;exact hQ h' tk t λa o a1 e=>k a o a1 (Az (Ai e)) (Ab _ e)
end
noncomputable def mxL (ns:List Int) (d:Int):Int:=maxD (λi=>ns.getD i 0) ns.length d
def z05 (a:GA) (g:GE):GE:=λen=>(a en).bind λp=>(g p.1).bind λq=>(resA q.1 p.2).bind λw=>(seqW w).bind λws=>(zcd ws).bind λns=>match q.2.1 with
 |.int d=>some (q.1,(.int (mxL ns d),false))
 |_=>none
section
variable {X:Cx}{S:Sx}{d:Nat}
theorem zwf {σ:St}{H:Hp}{s:Shared}{pins:List (Addr×Obj)}{ns:List Int}{k:Int}{tk:Tok}{a:Addr}{Q:Value->Shared->Prop} (hc:X.calm=true) (I:Inv X pins σ H s) (h:SqL X.K H a (ns.map V.int)\/SqT X.K H a (ns.map V.int))
  (q:∀h' tk t,(∀b o,s.heap.get? b=some o->h'.get? b=some o)->Q (.int (mxL ns k) t) { s with heap:=h',toks:=tk }):wpAny #v[1,7] X.A (call (.builtin "max") [.ref a] [("default",.int k tk)]) Q X.xe s:=by
 have go:∀{its:List Value},Vals (ns.map V.int) its->its.toArray.size=ns.length/\∀(i:Nat) (v:Value),its.toArray[i]?=some v->∃t,v=.int (ns.getD i 0) t:=λ{its} rv=>by
  have hl:=rv.length;rw[Ae] at hl;exact⟨by rw[Ah,hl],λi v e=>zkv rv (by simpa using e)⟩
 have kp:∀{ob:Obj}{h':Heap},(∀b o,b ∉ [s.heap.objs.size]->(s.heap.push ob).get? b=some o->h'.get? b=some o)->∀b o,s.heap.get? b=some o->h'.get? b=some o:=λhk b o e =>
  hk b o (λz=>by rw[Ao] at z;subst z;exact absurd (Ai e) (Bt _)) (Ab _ e)
 have bd:∀{ob:Obj},a<s.heap.objs.size->∀b∈[s.heap.objs.size,a],b<(s.heap.push ob).objs.size:=λha b hb=>by
  rw[Da];simp only [Ap,Cb,Ge] at hb;rcases hb with rfl|rfl
  ·exact Fa _
  ·exact Dn ha
 rcases h with h|h
 ·refine aG λGg qG => ?_;obtain⟨its,rv,p,_⟩:=I.list h;obtain⟨e1,e2⟩:=go rv;ac_rfl;have ha:a<s.heap.objs.size:=by obtain⟨o,e,_⟩:=p.isList;exact Ai e
  refine zm9 (Di p.isList ?_);refine⟨s.heap.objs.size,_,[s.heap.objs.size],its.toArray.size,_,_,λi=>ns.getD i 0,rfl,Hg (A:=X.A.in1) (show X.A.in1.handled=none from I.ok.hd hc) _ a (Az ha) its.toArray,⟨⟨_,An _ rfl,rfl,rfl⟩,p.isList.push _⟩,bd ha,e2,λh' tk t hk=>?_⟩;rw[e1];exact q h' tk t (kp hk)
 ·refine aG λGg qG => ?_;obtain⟨its,rv,⟨o,g1,g2,n,g3⟩,_⟩:=I.tuple h;obtain⟨e1,e2⟩:=go rv;ac_rfl;have p:s.heap.IsTuple a its.toArray:=⟨o,g1,g2,n,g3⟩;have ha:a<s.heap.objs.size:=Ai g1;refine zm9 (Fy p ?_);refine⟨s.heap.objs.size,_,[s.heap.objs.size],its.toArray.size,_,_,λi=>ns.getD i 0,rfl,Walks.tuple (A:=X.A.in1) (show X.A.in1.handled=none from I.ok.hd hc) _ a (Az ha) its.toArray,⟨⟨_,An _ rfl,rfl,rfl⟩,p.push _⟩,bd ha,e2,λh' tk t hk=>?_⟩;rw[e1];exact q h' tk t (kp hk)
theorem z5g {fE:Sx->Expr->Option GE} (HE:zbu fE) (C:CxOk X S d) {e ed:Expr}{a:GA}{g:GE}{kpos px pos:Pos} (ha:zax fE S e=some a) (hns:zak e=true) (hd:fE S ed=some g) (hbl:S.bl "max" = true) :
  PE X (.Call (.Name "max" px) [e] [⟨some "default",ed,kpos⟩] pos) (tE X.K (z05 a g)):=by
 intro pins s σ H Q I h;nofun;nofun;obtain⟨F,pr,en,en',r,R,hg,q⟩:=h;obtain⟨⟨e1,x⟩,h1,hg⟩:=bS hg;obtain⟨⟨e2,wd,fd⟩,h2,hg⟩:=bS hg;obtain⟨w,hw,hg⟩:=bS hg;obtain⟨ws,hws,hg⟩:=bS hg;obtain⟨ns,hi,hg⟩:=bS hg;ac_rfl;ac_rfl;cases wd with
 | int k =>
  have hg:some (e2,(W.int (mxL ns k),false))=some (en',r):=hg;obtain rfl:=(Prod.mk.inj (sI hg)).1;obtain rfl:=(Prod.mk.inj (sI hg)).2;obtain⟨gl,mn⟩:=zge C hbl;have hst:starEach [e] X.env=(false,eval e X.env)::starEach [] X.env:=zag hns;refine Fz (zem I gl mn z3m ?_);refine PyProof.Rows.callWith_kw ?_ (by rw[hst];rfl) (by rw[hst];rfl);refine thn (zpj (zaf HE C ha) zel hst pos pins s σ H (λvs H1=>∃v F1,vs=[v]/\Same F F1/\Rel X.K F1 pr e1 σ H1/\ArgR X.K F1 σ x v) I ⟨F,pr,en,e1,x,R,h1,λF1 H1 v s1 R1 a1=>⟨v,F1,rfl,s1,R1,a1⟩⟩) λus s1 ⟨vs,H1,I1,rv,v,F1,ev,sm1,R1,a1⟩=>?_;subst ev;cases rv with
  | cons ru rv =>
   cases rv;refine PyProof.Rows.kws_cons (thn (HE X S d C _ _ hd pins s1 σ H1 (λdv H2=>∃F2,dv=.int k/\Same F1 F2/\Rel X.K F2 pr e2 σ H2) I1 ⟨F1,pr,e1,e2,(.int k,fd),R1,h2,λF2 H2 dv s2 R2 y=>⟨F2,y.isInt,s2,R2⟩⟩) λud s2 ⟨dv,H2,I2,rd,F2,ed',sm2,R2⟩=>PyProof.Rows.kws_nil ?_);subst ed';obtain⟨td,rfl⟩:=(show ∃t,ud=Value.int k t from rd);have rb:=(a1.mono sm2).repB R2 hw;nofun;obtain⟨l,vvs,ev,sq,rps⟩:=rb.seqW R2.sub hws;ac_rfl;subst ev;cases (show _=Value.ref l from ru);rw[zcc hi] at rps;rw[rps.ints] at sq;exact zwf C.calm I2 sq λh' tk t hk=>⟨.int _,H2,I2.kept hk,⟨_,rfl⟩,q F2 H2 _ (sm1.trans sm2) R2 (.int _)⟩
 |_=>exact noSome hg
def maxE (fE:Sx->Expr->Option GE) (S:Sx) (x:Str) (e:Expr) (key:Str) (ed:Expr):Option GE :=
 if x==("max" : Str)&&key==("default" : Str)&&S.bl x&&zak e then (zax fE S e).bind λa=>(fE S ed).bind λg=>some (z05 a g) else none
theorem z73 {fE:Sx->Expr->Option GE}(HE:zbu fE)(C:CxOk X S d){x key:Str}{e ed:Expr}{kpos px pos:Pos}{g:GE}(h:maxE fE S x e key ed=some g):PE X (.Call (.Name x px) [e] [⟨some key,ed,kpos⟩] pos) (tE X.K g):=by
 unfold maxE at h;split at h
 ·rename_i z;simp only [Ad] at z;obtain⟨⟨⟨z1,z2⟩,z3⟩,z4⟩:=z;have e1:=Bj z1;have e2:=Bj z2;subst e1 e2;obtain⟨a,ha,h⟩:=bS h;obtain⟨gd,hd,h⟩:=bS h;obtain rfl:=sI h;exact z5g HE C ha z4 hd z3
 ·exact noSome h
end
section
variable {X:Cx}
end
section
variable {X:Cx}{S:Sx}{d:Nat}
end
section
variable {K:PySem.W.Frag}{σ:St}{H:Hp}
end
def zpv (x:Expr->Option GE) (X:Cx):Prop:=∀e g,x e=some g->PE X e (tE X.K g)
section
variable {X:Cx}{S:Sx}{d:Nat}{fE:Sx->Expr->Option GE}
end
noncomputable def keyF:W->Option Key
 |.int i=>some (.inl i)
 |.str s=>some (.inr s)
 |_=>none
def keysF:List W->Option (List Key)
 |[]=>some []
 |w::ws=>(keyF w).bind λk=>(keysF ws).bind λks=>some (k::ks)
def keyD:W->Option DKey
 |.tup ws=>(keysF ws).bind λks=>some (.inr ks)
 |w=>(keyF w).bind λk=>some (.inl k)
def KeyR (F:Hp):DKey->V->Prop
 |.inl k,v=>v=kV k
 |.inr ks,v=>∃b,v=.ref b/\F b=some (.tup (ks.map kV))
section
variable {K:PySem.W.Frag}{F H:Hp}
theorem Rep.keyF {w:W}{v:V}{k:Key}(h:Rep K F w v)(e:keyF w=some k):v=kV k:=by
 cases w with
 |int i=>obtain rfl:=sI e;exact h.isIt
 |str s=>obtain rfl:=sI e;cases h;rfl
 |_=>exact noSome e
theorem Reps.keysF:∀{ws:List W}{vs:List V}{ks:List Key},Reps K F ws vs->keysF ws=some ks->vs=ks.map kV
 |_,_,_,.nil,e=>by obtain rfl:=sI e;rfl
 | _,_,_,.cons h r,e=>by
  obtain⟨k,h1,e⟩:=bS e;obtain⟨ks,h2,e⟩:=bS e;obtain rfl:=sI e;rw[h.keyF h1,Reps.keysF r h2];rfl
theorem Rep.keyD {w:W}{v:V}{k:DKey} (h:Rep K F w v) (e:keyD w=some k):KeyR F k v:=by
 have flat:(L2.keyF w).bind (λk=>some (Sum.inl k:DKey))=some k->KeyR F k v:=λe=>by
  obtain⟨k1,h1,e⟩:=bS e;obtain rfl:=sI e;exact h.keyF h1
 cases w with
 | tup ws =>
  obtain⟨ks,h1,e⟩:=bS (show (L2.keysF ws).bind _=_ from e);obtain rfl:=sI e;cases h with
  |tup hh r=>exact⟨_,rfl,by rw[hh,r.keysF h1]⟩
 |_=>exact flat e
noncomputable def valW (kvs:List (DKey×W)) (k:DKey):Option W:=(kvs.find? λkv=>decide (kv.1=k)).map (·.2)
theorem ze3 (p:DKey×W)(r:List (DKey×W))(k:DKey):valW (p::r) k=if p.1=k then some p.2 else valW r k:=by
 unfold valW;rw[Dg];by_cases h:p.1=k
 ·rw[Aj h,if_pos h];rfl
 ·rw[Ay h,if_neg h]
theorem znr {κ:Type} [DecidableEq κ] (p:κ×V)(r:List (κ×V))(k:κ):valV (p::r) k=if p.1=k then some p.2 else valV r k:=by
 by_cases h:p.1=k
 ·rw[zjy h,if_pos h]
 ·rw[zk4 h,if_neg h]
theorem zka {κ:Type} [DecidableEq κ] {f:κ->DKey} (hf:∀a b,f a=f b->a=b):∀{ks:List κ}{ws:List W}{vs:List V}{k:κ}{w:W},ks.length=vs.length->Reps K F ws vs->valW ((ks.map f).zip ws) (f k)=some w->∃v,valV (ks.zip vs) k=some v/\Rep K F w v
 |[],_,_,_,_,_,_,e=>by simp [valW] at e
 |_::_,_,_,_,_,_,.nil,e=>by simp [valW] at e
 | k'::ks,w'::ws,v'::vs,k,w,hl,.cons h r,e=>by
  rw[Am,Bn,ze3] at e;rw[Bn,znr];by_cases z:k'=k
  ·subst z
   rw[if_pos rfl] at e ⊢;obtain rfl:=sI e;exact⟨_,rfl,h⟩
  ·rw [if_neg λq=>z (hf _ _ q)] at e
   rw[if_neg z];exact zka hf (Gs hl) r e
theorem zkw {κ:Type} [DecidableEq κ] {f:κ->DKey} (hf:∀a b,f a=f b->a=b):∀{ks:List κ}{ws:List W}{vs:List V}{k:κ},ks.length=vs.length->Reps K F ws vs->valW ((ks.map f).zip ws) (f k)=none->valV (ks.zip vs) k=none
 |[],_,_,_,_,_,_=>rfl
 |_::_,_,_,_,hl,.nil,_=>by simp at hl
 | k'::ks,w'::ws,v'::vs,k,hl,.cons h r,e=>by
  rw[Am,Bn,ze3] at e;rw[Bn,znr];by_cases z:k'=k
  ·subst z;rw[if_pos rfl] at e;exact nomatch e
  ·rw [if_neg λq=>z (hf _ _ q)] at e
   rw[if_neg z];exact zkw hf (Gs hl) r e
theorem zg0 {κ:Type}{f:κ->DKey}{k:DKey} (hk:∀a,f a≠k):∀{ks:List κ}{ws:List W},valW ((ks.map f).zip ws) k=none
 |[],_=>rfl
 |_::_,[]=>rfl
 | k'::ks,w'::ws=>by
  rw[Am,Bn,ze3,if_neg (hk k')];exact zg0 hk
noncomputable def zf3 {κ:Type} [DecidableEq κ] (ks:List κ) (k:κ):List κ:=if k∈ks then ks else ks++[k]
noncomputable def zfm {κ α:Type} [DecidableEq κ] (ks:List κ) (vs:List α) (k:κ) (v:α):List α:=if k∈ks then List.zipWith (λk' v'=>if k'=k then v else v') ks vs else vs++[v]
theorem zuf {κ:Type} [DecidableEq κ] {f:κ->DKey}(hf:∀a b,f a=f b->a=b)(ks:List κ)(k:κ):zf3 (ks.map f) (f k)=(zf3 ks k).map f:=by
 have m:f k∈ks.map f↔k∈ks:=by
  rw[Bf];exact⟨λ⟨a,h,e⟩=>hf _ _ e ▸ h,λh=>⟨k,h,rfl⟩⟩
 unfold zf3;by_cases h:k∈ks
 ·rw[if_pos h,if_pos (m.mpr h)]
 ·rw[if_neg h,if_neg (mt m.mp h),Ca];rfl
theorem znq {κ:Type} [DecidableEq κ] {f:κ->DKey} (hf:∀a b,f a=f b->a=b) {k:κ}{w:W}{v:V} (h:Rep K F w v):∀{ks:List κ}{ws:List W}{vs:List V},Reps K F ws vs->Reps K F (List.zipWith (λk' v'=>if k'=f k then w else v') (ks.map f) ws) (List.zipWith (λk' v'=>if k'=k then v else v') ks vs)
 |[],_,_,_=>.nil
 |_::_,_,_,.nil=>.nil
 | k'::ks,_,_,.cons q r=>by
  rw[Am,Fx,Fx];refine .cons ?_ (znq hf h r);by_cases z:k'=k
  ·subst z;rw[if_pos rfl,if_pos rfl];exact h
  ·rw[if_neg z,if_neg λe=>z (hf _ _ e)];exact q
theorem zsy {κ:Type} [DecidableEq κ] {f:κ->DKey}(hf:∀a b,f a=f b->a=b){k:κ}{w:W}{v:V}(h:Rep K F w v){ks:List κ}{ws:List W}{vs:List V}(r:Reps K F ws vs):Reps K F (zfm (ks.map f) ws (f k) w) (zfm ks vs k v):=by
 have m:f k∈ks.map f↔k∈ks:=by
  rw[Bf];exact⟨λ⟨a,h,e⟩=>hf _ _ e ▸ h,λh=>⟨k,h,rfl⟩⟩
 unfold zfm;by_cases z:k∈ks
 ·rw[if_pos z,if_pos (m.mpr z)];exact znq hf h r
 ·rw[if_neg z,if_neg (mt m.mp z)];exact r.append (.cons h .nil)
theorem z5f {κ α:Type} [DecidableEq κ] {ks:List κ}{vs:List α}(hl:ks.length=vs.length)(k:κ)(v:α):(zf3 ks k).length=(zfm ks vs k v).length:=by
 unfold zf3 zfm;split
 ·rw[Gp,hl,Nat.min_self]
 ·rw[Bc,Bc,hl];rfl
theorem zwr {κ:Type} [DecidableEq κ] (k:κ) (v:V):∀{ks:List κ}{vs:List V},(ks.zip vs).map (λkv=>if kv.1=k then (kv.1,v) else kv)=ks.zip (List.zipWith (λk' v'=>if k'=k then v else v') ks vs)
 |[],_=>rfl
 |_::_,[]=>rfl
 | k'::ks,v'::vs=>by
  rw[Bn,Am,zwr k v,Fx,Bn];by_cases z:k'=k
  ·rw[if_pos z,if_pos z]
  ·rw[if_neg z,if_neg z]
theorem zw2 {κ:Type} [DecidableEq κ] (k:κ):∀{ks:List κ}{vs:List V},ks.length=vs.length->((ks.zip vs).any λkv=>decide (kv.1=k))=decide (k∈ks)
 |[],_,_=>rfl
 |_::_,[],h=>by simp at h
 | k'::ks,v'::vs,h=>by
  rw[Bn,Fg,zw2 k (Gs h)];by_cases z:k'=k
  ·subst z;simp
  ·have : ¬ k=k':=λe=>z e.symm
   simp [z,this]
theorem z0s {κ:Type} [DecidableEq κ] {ks:List κ}{vs:List V}(hl:ks.length=vs.length)(k:κ)(v:V):putK (ks.zip vs) k v=(zf3 ks k).zip (zfm ks vs k v):=by
 unfold putK zf3 zfm;rw[zw2 k hl];by_cases z:k∈ks
 ·rw[if_pos (Aj z),if_pos z,if_pos z,zwr]
 ·rw[if_neg (λq=>z (At q)),if_neg z,if_neg z,List.zip_append hl];rfl
noncomputable def DctR (K:PySem.W.Frag) (F H:Hp) (a:Addr) (ks:List DKey) (ws:List W):Prop :=
 (∃(js:List Key) (vs:List V),ks=js.map .inl/\H a=some (.dK (js.zip vs))/\js.length=vs.length/\Reps K F ws vs) \/
 ∃(js:List (List Key)) (vs:List V),ks=js.map .inr/\H a=some (.dT (js.zip vs))/\js.length=vs.length/\Reps K F ws vs
theorem OwnR.dct' {ks:List DKey}{ws:List W}{o:HO}{a:Addr}(h:OwnR K F (.dct ks ws) o)(e:H a=some o):DctR K F H a ks ws:=by
 generalize hw:W.dct ks ws=w at h;cases h with
 |lst r=>cases hw
 |dct hl r=>cases hw;exact .inl ⟨_,_,rfl,e,hl,r⟩
 |dctT hl r=>cases hw;exact .inr ⟨_,_,rfl,e,hl,r⟩
theorem RepB.dct {ks:List DKey}{ws:List W}{v:V}(s:Same F H)(r:RepB K F H (.dct ks ws) v):∃a,v=.ref a/\DctR K F H a ks ws:=by
 rcases r with r|⟨a,o,w',e,rfl,h,q⟩
 ·generalize hw:W.dct ks ws=w at r;cases r with
  |dct h hl r=>cases hw;exact⟨_,rfl,.inl ⟨_,_,rfl,s _ _ h,hl,r⟩⟩
  |dctT h hl r=>cases hw;exact⟨_,rfl,.inr ⟨_,_,rfl,s _ _ h,hl,r⟩⟩
  |_=>cases hw
 ·subst e;exact⟨a,rfl,q.dct' h⟩
theorem zg7 (a b:Key)(h:(Sum.inl a:DKey)=.inl b):a=b:=Sum.inl.inj h
theorem zx7 (a b:List Key)(h:(Sum.inr a:DKey)=.inr b):a=b:=Sum.inr.inj h
theorem DctR.get {a:Addr}{ks:List DKey}{ws:List W}{d:DKey}{y:V}{w:W} (s:Same F H) (h:DctR K F H a ks ws) (hk:KeyR F d y) (e:valW (ks.zip ws) d=some w):∃v,DGet H a y (some v)/\Rep K F w v:=by
 rcases h with⟨js,vs,rfl,h,hl,r⟩|⟨js,vs,rfl,h,hl,r⟩
 ·cases d with
  | inl k =>
   obtain⟨v,h1,h2⟩:=zka zg7 hl r e;exact⟨v,.inl ⟨_,k,.inl h,hk,h1.symm⟩,h2⟩
  |inr k=>rw[zg0 (f:=Sum.inl) (λa z=>by cases z)] at e;exact nomatch e
 ·cases d with
  |inl k=>rw[zg0 (f:=Sum.inr) (λa z=>by cases z)] at e;exact nomatch e
  | inr k =>
   obtain⟨v,h1,h2⟩:=zka zx7 hl r e;obtain⟨b,hb,fb⟩:=hk;exact⟨v,.inr ⟨_,k,b,.inl h,hb,s _ _ fb,h1.symm⟩,h2⟩
noncomputable def DNo (H:Hp) (a:Addr) (y:V):Prop:=DGet H a y none\/(H a=some (.dK [])/\∃(b:Addr) (k:List Key),y=.ref b/\H b=some (.tup (k.map kV)))\/(H a=some (.dT [])/\∃k,y=kV k)
noncomputable def zim (d:DKey) (ks:List DKey):Bool:=ks.all λk=>k.isLeft==d.isLeft
theorem DctR.no {a:Addr}{ks:List DKey}{ws:List W}{d:DKey}{y:V} (s:Same F H) (h:DctR K F H a ks ws) (hk:KeyR F d y) (hs:zim d ks=true) (e:valW (ks.zip ws) d=none):DNo H a y:=by
 rcases h with⟨js,vs,rfl,h,hl,r⟩|⟨js,vs,rfl,h,hl,r⟩
 ·cases d with
  |inl k=>exact .inl (.inl ⟨_,k,.inl h,hk,(zkw zg7 hl r e).symm⟩)
  | inr k =>
   cases js with
   |nil=>obtain⟨b,hb,fb⟩:=hk;exact .inr (.inl ⟨h,b,k,hb,s _ _ fb⟩)
   |cons j js=>unfold zim at hs;rw[Am,Bp,Ad] at hs;exact nomatch hs.1
 ·cases d with
  | inl k =>
   cases js with
   |nil=>exact .inr (.inr ⟨h,k,hk⟩)
   |cons j js=>unfold zim at hs;rw[Am,Bp,Ad] at hs;exact nomatch hs.1
  |inr k=>obtain⟨b,hb,fb⟩:=hk;exact .inl (.inr ⟨_,k,b,.inl h,hb,s _ _ fb,(zkw zx7 hl r e).symm⟩)
end
section
variable {X:Cx}{pins:List (Addr × Obj)}{σ:St}{H:Hp}{s:Shared}{a:Addr}
theorem zkq {H:Hp}{a:Addr}{o o':HO}(e:H a=some o):upd (upd H a o') a o=H:=by
 rw[zwb]
 funext b
 by_cases h:b=a
 ·subst h;rw[upd_same,e]
 ·rw[upd_ne h]
theorem reT (I:Inv X pins σ H s)(e:H a=some (.dK [])):Inv X pins σ (upd H a (.dT [])) s:=by
 obtain⟨z,hd,vs,rel,o,es,ep,h1,h2,h3,h4,h5,h6⟩:=zyf I.hok e;have hv:vs=[]:=List.length_eq_zero_iff.mp rel.length.symm;subst hv;have he:es.toList=[]:=by
  generalize es.toList=l at h5;cases h5
  rfl
 exact zov (h':=s.heap) (t':=s.toks) I (by rw[e];exact True.intro) ⟨rfl,λ_ _=>rfl⟩ ⟨o,h1⟩ ⟨Bm _,hd,[],.nil,o,es,ep,h1,h2,h3,he,List.nodup_nil⟩
theorem reK (I:Inv X pins σ H s)(e:H a=some (.dT [])):Inv X pins σ (upd H a (.dK [])) s:=by
 obtain⟨z,hd,xs,rel,o,es,ep,h1,h2,h3,h4,h5⟩:=(show zaz X.prog X.w H s.heap a (.dT []) from I.hok a _ e);cases rel;have he:es=#[]:=by cases es;simp at h4;rw[h4]
 subst he;exact zov (h':=s.heap) (t':=s.toks) I (by rw[e];exact True.intro) ⟨rfl,λ_ _=>rfl⟩ ⟨o,h1⟩ ⟨Bm _,hd,[],.nil,o,#[],ep,h1,h2,h3,(λe he=>absurd he (by simp)),.nil,List.nodup_nil⟩
end
def oIxD:O2:=λa k=>match a with
 |.dct ks ws=>(keyD k).bind λd=>(valW (ks.zip ws) d).bind λw=>#v[w,6]
 |a=>oIx a k
theorem RepB.key {K:PySem.W.Frag}{F H:Hp}{w:W}{v:V}{d:DKey}(r:RepB K F H w v)(e:keyD w=some d):KeyR F d v:=by
 rcases r with r|⟨a,o,w',z,rfl,h,q⟩
 ·exact r.keyD e
 ·subst z;cases q<;>exact noSome e
section
variable {K:PySem.W.Frag}{F H:Hp}{pr:Prt}{en:En}{σ:St}
end
def ycq (i:Nat) (g g':GE):GE:=λen=>match en[i]? with
 | some (some (.dct _ _,_))=>(g en).bind λp=>(g' p.1).bind λq=>(keyD p.2.1).bind λd=>match q.1[i]? with
  | some (some (.dct ks ws,_))=>(match valW (ks.zip ws) d with
   |some w=>some (q.1,(w,false))
   |none=>if zim d ks then some (q.1,q.2) else none)
  |_=>none
 |_=>none
theorem Rel.repD {K:PySem.W.Frag}{F H:Hp}{pr:Prt}{en:En}{σ:St}(R:Rel K F pr en σ H){i:Nat}{ks:List DKey}{ws:List W}{f:Bool}(e:en[i]?=some (some (.dct ks ws,f))):∃a,σ[i]?=some (some (.ref a))/\DctR K F H a ks ws:=by
 obtain⟨v,hv⟩:=R.has e;obtain⟨a,rfl,D⟩:=(R.repB e hv).dct R.sub;exact⟨a,hv,D⟩
theorem zju {P:Program}{w:World}:∀{vs:List (Key×Value)}{us:List Value},us.length=vs.length->(∀(j:Nat) (v:Value),us[j]?=some v->∃k x,vs[j]?=some (k,x)/\(zap P w).is k v=true)->Vals (vs.map λp=>kV p.1) us
 |[],[],_,_=>.nil
 |[],_::_,h,_=>nomatch h
 |_::_,[],h,_=>nomatch h
 | (k,x)::vs,u::us,h,q=>by
  refine .cons ?_ (zju (Gs h) λj v e=>q (j+1) v e);obtain⟨k',x',e,hk⟩:=q 0 u rfl;cases e;rcases keyIs_shape (show zpp k u=true from hk) with⟨i,t,rfl,rfl⟩|⟨i,t,rfl,rfl⟩
  ·exact⟨t,rfl⟩
  ·exact⟨t,rfl⟩
theorem zga {P:Nat->Value->Prop}{acc:Array Value}{n:Nat}(h:ItemsOf P acc n):acc.toList.length=n/\∀(j:Nat) (v:Value),acc.toList[j]?=some v->P j v :=
 ⟨by rw[Bx];exact h.1,λj v e=>h.2 j v (by rw[<-Gb];exact e)⟩
theorem zul {kvs:List (Key×V)}{vs:List (Key×Value)}(r:KV kvs vs):(kvs.map λp=>kV p.1)=vs.map λp=>kV p.1:=by
 have:=congrArg (List.map kV) r.keys;rw[Bz,Bz] at this;exact this
def z28:List V->Hp->VK->Prop:=λxs H Q=>∃(p:Addr) (kvs:List (Key×V)),xs=[.ref p]/\(H p=some (.dK kvs)\/(H p=some (.dT [])/\kvs=[]))/\∀l,H l=none->Q (.ref l) (upd H l (.lst (kvs.map λp=>kV p.1)))
section
variable {X:Cx}
theorem call_listK (hc:X.calm=true){pins:List (Addr×Obj)}{s:Shared}{σ:St}{H:Hp}{Q:Value->Shared->Prop}{p:Addr}{kvs:List (Key×V)}(I:Inv X pins σ H s)(hp:H p=some (.dK kvs))(q:∀l s',H l=none->Inv X pins σ (upd H l (.lst (kvs.map λp=>kV p.1))) s'->Q (.ref l) s'):wpAny #v[1,7] X.A (call (.type "list") [.ref p]) Q X.xe s:=by
 obtain⟨z,hd,vs,rel,dd⟩:=zyf I.hok hp;obtain⟨ep,da⟩:=dd.dictAt;refine PySem.W.kdl_call (PySem.W.kdl_dict (knd:=zap X.prog X.w) (kvs:=vs) (ep:=ep) hd) (I.ok.hd hc) da (by rw[<-rel.length];exact z) λh' tk acc c kp ga it=>?_;obtain⟨l1,l2⟩:=zga it;have rv:=zju l1 l2;rw[<-zul rel] at rv;exact q _ _ (I.hok.fresh (Af _)) (I.laid (t':=tk) (o:=.lst (kvs.map λp=>kV p.1)) kp (Af _) ⟨by rw[Ae];exact z,acc.toList,c,rv,by rw[Gi];exact ga⟩)
theorem zzr {H:Hp}{a b:Addr}{o u:HO}(ne:a≠b):upd (upd H a o) b u=upd (upd H b u) a o:=by
 funext c
 by_cases h:c=a
 ·subst h;rw[upd_ne ne,upd_same,upd_same]
 ·by_cases k:c=b
  ·subst k;rw[upd_same,upd_ne h,upd_same]
  ·rw[upd_ne k,upd_ne h,upd_ne h,upd_ne k]
theorem ztg (hc:X.calm=true):zcb X (.type "list") z28:=by
 intro pins s σ H xs us Q I r h;obtain⟨p,kvs,rfl,hp,q⟩:=h;obtain⟨u,rfl,rx⟩:=vals1 r;cases rx;rcases hp with hp|⟨hp,rfl⟩
 ·exact call_listK hc I hp λl s' hl I'=>⟨.ref l,_,I',rfl,q l hl⟩
 ·refine call_listK hc (reK I hp) upd_same λl s' hl I' => ?_;have ne:l≠p:=λz=>by subst z;rw[upd_same] at hl;exact nomatch hl
  rw[upd_ne ne] at hl;have I2:=reT (a:=p) I' (by rw[upd_ne (Ne.symm ne),upd_same]);rw[zzr ne,zkq hp] at I2;exact⟨.ref l,_,I2,rfl,q l hl⟩
end
noncomputable def keyV:DKey->Option W
 |.inl (.inl i)=>some (.int i)
 |.inl (.inr s)=>some (.str s)
 |.inr _=>none
def zno:List DKey->Option (List W)
 |[]=>some []
 |k::ks=>(keyV k).bind λw=>(zno ks).bind λws=>some (w::ws)
theorem zk6 {K:PySem.W.Frag}{F:Hp}:∀{ks:List DKey}{ws:List W},zno ks=some ws->∃js:List Key,ks=js.map .inl/\Reps K F ws (js.map kV)
 |[],_,e=>by obtain rfl:=sI e;exact⟨[],rfl,.nil⟩
 | k::ks,_,e=>by
  obtain⟨w,h1,e⟩:=bS e;obtain⟨ws,h2,e⟩:=bS e;obtain rfl:=sI e;obtain⟨js,rfl,r⟩:=zk6 h2
  match k,h1 with
  |.inl (.inl i),h1=>obtain rfl:=sI h1;exact⟨.inl i::js,rfl,.cons (.int i) r⟩
  |.inl (.inr s),h1=>obtain rfl:=sI h1;exact⟨.inr s::js,rfl,.cons (.str s) r⟩
  |.inr _,h1=>exact noSome h1
theorem zu7 {as bs:List Key}(h:as.map (Sum.inl:Key->DKey)=bs.map .inl):as=bs:=List.map_inj_right (λa b=>zg7 a b) |>.mp h
theorem zll:∀{js:List Key}{vs:List V},js.length=vs.length->((js.zip vs).map λp=>kV p.1)=js.map kV
 |[],_,_=>rfl
 |_::_,[],h=>nomatch h
 | j::js,v::vs,h=>by
  rw[Bn,Am,Am,zll (Gs h)]
noncomputable def znf:ON
 |[.dct ks _]=>(zno ks).bind λws=>#v[ws,2]
 |ws=>zzv ws
theorem DctR.dK {K:PySem.W.Frag}{F H:Hp}{a:Addr}{js:List Key}{ws:List W} (hj:js≠[]) (D:DctR K F H a (js.map .inl) ws):∃vs,H a=some (.dK (js.zip vs))/\js.length=vs.length:=by
 rcases D with⟨js',vs,e,h,hl,_⟩|⟨js',vs,e,h,hl,_⟩
 ·obtain rfl:=zu7 e;exact⟨vs,h,hl⟩
 ·cases js with
  |nil=>exact absurd rfl hj
  | cons j js=>cases js' with
   |nil=>exact nomatch e
   |cons j' js'=>rw[Am,Am] at e;exact nomatch (List.cons.inj e).1
theorem DctR.dK0 {K:PySem.W.Frag}{F H:Hp}{a:Addr}{js:List Key}{ws:List W} (D:DctR K F H a (js.map .inl) ws):∃kvs:List (Key×V),(H a=some (.dK kvs)\/(H a=some (.dT [])/\kvs=[]))/\(kvs.map λp=>kV p.1)=js.map kV:=by
 rcases D with⟨js',vs,e,h,hl,_⟩|⟨js',vs,e,h,hl,_⟩
 ·obtain rfl:=zu7 e;exact⟨_,.inl h,zll hl⟩
 ·cases js with
  | nil =>
   cases js' with
   |nil=>exact⟨[],.inr ⟨h,rfl⟩,rfl⟩
   |cons j' js'=>exact nomatch e
  | cons j js=>cases js' with
   |nil=>exact nomatch e
   |cons j' js'=>rw[Am,Am] at e;exact nomatch (List.cons.inj e).1
theorem zvb {K:PySem.W.Frag}:OpSN K (λxs H Q=>(∃p ys,xs=[.ref p]/\(SqL K H p ys\/SqT K H p ys)/\∀l,H l=none->Q (.ref l) (upd H l (.lst ys)))\/z28 xs H Q) znf:=λF H ws vs rv Q s r e q=>by
 unfold znf at e;split at e
 ·rename_i ks us;nofun;obtain⟨ws',h1,e⟩:=bS e;obtain⟨v,e1,h⟩:=r.one;obtain⟨js,rfl,rj⟩:=zk6 (K:=K) (F:=F) h1;obtain⟨a,rfl,D⟩:=h.dct s;ac_rfl;rw[h1] at e;obtain rfl:=sI e;subst e1;obtain⟨kvs,ha,hk⟩:=D.dK0;exact .inr ⟨a,kvs,rfl,ha,λl hl'=>by rw[hk];exact q _ _ (.lst hl' rj)⟩
 ·exact .inl (zrf F H ws vs rv Q s r e q)
def z3z:List V->Hp->VK->Prop:=λxs H Q=>∃(l:Addr) (kvs:List (Key×V)) (ns:List Int),xs=[.ref l]/\H l=some (.dK kvs)/\(kvs.map λp=>kV p.1)=ns.map V.int/\∀p,H p=none->Q (.ref p) (upd H p (.lst ((zfv ns).map V.int)))
theorem zfa {prog:Program}{w:World}{A:Around}{E:Value->Shared->Prop}{s:Shared}{Q:List Value->Shared->Prop}{d:Addr}{vs:List (Key×Value)}{ep:Nat} (hh:A.handled=none) (hd:(d==sysModules)=false) (da:s.heap.DictAt (zap prog w) d vs ep) (hz:vs.length<=sizeLine)
  (hQ:∀(h':Heap) (tk:Nat) (acc:Array Value),(∀b o,s.heap.get? b=some o->h'.get? b=some o)->ItemsOf (λi v=>∃k x,vs[i]?=some (k,x)/\(zap prog w).is k v=true) acc vs.length->Q acc.toList { s with heap:=h',toks:=tk }) :
  wpAny (model prog w) A (collect (.ref d)) Q E s:=by
 have lt:d<s.heap.objs.size:=da.lt_size;unfold collect;refine Aa (wpAny_runValue (Dr PySem.F.entry_proto_collect ?_));rw [Dp PySem.F.plain_proto_collect _];show wpAny _ A.in1 (newList []>>=λl=>again (.builtin "list.__iadd__" ⟨[l,.ref d],[]⟩)) _ _ s;refine Aa (Dj ?_);refine Ag ⟨Ft PySem.F.plain_list_iadd _,Dr PySem.F.entry_list_iadd ?_⟩;rw [Dp PySem.F.plain_list_iadd _];show wpAny _ A.in1 (Builtin.List.listExtendWith (.ref s.heap.objs.size) (.ref d) (.ref s.heap.objs.size)) _ _ _;have hS:(s.heap.push { cls:=.type "list",data:=.seq ([]:List Value).toArray }).get? s.heap.objs.size=some { cls:=.type "list",data:=.seq #[] 0 }:=An _ rfl;refine Cj (PySem.W.kdl_extend (A:=A) (R:=λres s'=>∃(h':Heap) (tk:Nat) (acc:Array Value) (c':Nat),res=.ok (.ret (.ref s.heap.objs.size))/\s'={ s with heap:=h',toks:=tk }/\(∀b o,s.heap.get? b=some o->h'.get? b=some o)/\h'.get? s.heap.objs.size=some { cls:=.type "list",dict:=none,data:=.seq acc c',slots:=#[] }/\ItemsOf (λi v=>∃k x,vs[i]?=some (k,x)/\(zap prog w).is k v=true) acc vs.length)
  (s:={ s with heap:=s.heap.push { cls:=.type "list",data:=.seq ([]:List Value).toArray } }) (PySem.W.kdl_dict (knd:=zap prog w) (kvs:=vs) (ep:=ep) hd) hh (da.push _) s.heap.objs.size (Gu lt) (Gu lt) (.ref s.heap.objs.size) 0 hS (λh' tk acc c' hk hS' hacc=>⟨h',tk,acc,c',rfl,rfl,λb o e=>hk b o (Az (Ai e)) (Ab _ e),hS',hacc⟩) hz) (λfin s' h=>?_) (λe s' h=>?_)
 ·have fin' : ∀s',(∃(h':Heap) (tk:Nat) (acc:Array Value) (c':Nat),s'={ s with heap:=h',toks:=tk }/\(∀b o,s.heap.get? b=some o->h'.get? b=some o)/\h'.get? s.heap.objs.size=some { cls:=.type "list",dict:=none,data:=.seq acc c',slots:=#[] }/\ItemsOf (λi v=>∃k x,vs[i]?=some (k,x)/\(zap prog w).is k v=true) acc vs.length)->wpAny (model prog w) A (match Value.ref s.heap.objs.size with
   | Value.ref a=>do
    match (<- load a).data with
     |Data.seq xs _=>pure xs.toList
     |_=>unsupported "internal:collect"
   |_=>unsupported "internal:collect") Q E s':=by
   rintro s' ⟨h',tk,acc,c',rfl,k1,k2,k3⟩;show wpAny _ A (load s.heap.objs.size>>=_) _ _ _;refine Aa (wpAny_load k2 ?_);exact Ag (hQ h' tk acc k1 k3)
  cases fin with
  | done f =>
   obtain⟨h',tk,acc,c',e,r⟩:=h;cases e;exact fin' s' ⟨h',tk,acc,c',r⟩
  |again c'=>exact⟨h.1,Hb h.2 λr s'' hr=>by obtain⟨h',tk,acc,c',rfl,q⟩:=hr;exact fin' s'' ⟨h',tk,acc,c',q⟩⟩
 ·obtain ⟨h', tk,acc,c', e,r⟩:=h
  cases e
section
variable {X:Cx}
theorem ztc (hc:X.calm=true):zcb X (.builtin "sorted") z3z:=by
 intro pins s σ H xs us Q I r h;obtain⟨d,kvs,ns,rfl,hp,ek,q⟩:=h;obtain⟨u,rfl,rx⟩:=vals1 r;cases rx;obtain⟨z,hd,kv,rel,dd⟩:=zyf I.hok hp;obtain⟨ep,da⟩:=dd.dictAt;have zk:kv.length<=sizeLine:=by rw[<-rel.length];exact z
 refine call_function_entry_kw kind_sorted plain_sorted entry_sorted (args_sorted1 _) ?_;unfold Builtin.«sorted»;refine Aa (m:=checkCount "sorted" 1 1 _) (Ag ?_);refine Aa (zfa (I.ok.hd hc) hd da zk λh1 tk acc kp1 it=>?_);obtain⟨l1,l2⟩:=zga it;have rv:=zju l1 l2;rw[<-zul rel,ek] at rv;generalize acc.toList=vs at l1 rv ⊢;have lv:ns.length=vs.length:=by have:=rv.length;rw[Ae] at this;exact this
 have hz':vs.length<=sizeLine:=by rw[l1];exact zk
 have ia:IntsAre vs ns:=zgt rv;have I1:Inv X pins σ H { s with heap:=h1,toks:=tk }:=I.kept kp1;refine Aa (Gw ?_ hz');have hoL:(h1.push #v[4,8]).get? h1.objs.size=some #v[4,8]:=An _ rfl;have keep:∀b o,h1.get? b=some o->(h1.push #v[4,8]).get? b=some o:=λb o q=>Ab _ q;show wpAny _ _ _ _ _ { s with heap:=h1.push #v[4,8],toks:=tk };generalize h1.push #v[4,8]=h3 at hoL keep ⊢;obtain⟨a,ea⟩ : ∃a,a=h1.objs.size:=⟨_,rfl⟩;show wpAny _ _ (holding [.ref h1.objs.size] _>>=_) _ _ _;rw[<-ea] at hoL ⊢;refine Aa (Bw (wpAny_call_entry_kw slot_list_sort ⟨_,hoL,rfl⟩ entry_list_sort ?body (args_list_sort _)))
 case body =>
  refine zns (s:={ s with heap:=h3,toks:=tk }) hoL ia hz' λr h' c pm pw ga kp=>⟨_,rfl,?_⟩;have al:∀x∈r,x.2=x.1/\∃n t,x.1=Value.int n t:=λx hx=>by
   obtain⟨e1,e2⟩:=zgj (pm.mem_iff.mp hx);obtain⟨i,hi,e⟩:=Ck.mp e2;obtain⟨t,ht⟩:=ia.get i ns[i] (Ac #v[]);rw[Ac hi,e] at ht;exact⟨e1,_,t,sI ht⟩
  have pi:(r.map λx=>(kN x.1).headD 0).Perm ns:=by
   refine (pm.map _).trans ?_;have:∀{vs:List Value}{ns:List Int},IntsAre vs ns->(vs.zip vs).map (λx=>(kN x.1).headD 0)=ns:=λ{vs ns} h=>by
    induction h with
    |nil=>rfl
    |cons n t h ih=>rw[Bn,Am,ih];rfl
   rw[this ia]
  have ps:(r.map λx=>(kN x.1).headD 0).Pairwise (·<=·):=by
   rw[Er];refine pw.imp_of_mem λ{x y} hx hy z=>?_;obtain⟨_,n,t,e1⟩:=al x hx;obtain⟨_,m,t',e2⟩:=al y hy;rw[e1,e2] at z ⊢;have z:lexI [m] [n]=false:=z;rw[zld] at z;have:=Gy z;show n<=m;omega
  have eo:=zj6 pi ps;have rv':=zhw al;rw[<-eo] at rv';refine Ag ⟨_,rfl,.ref a,_,I1.laid (t':=tk) (o:=.lst ((zfv ns).map V.int)) (λb o eb=>kp b o (λz=>Bt _ (by have:=Ai eb;rw[z,ea] at this;exact this)) (keep b o eb)) (Nat.le_of_eq ea.symm) ?_,rfl,q a (I1.hok.fresh (Nat.le_of_eq ea.symm))⟩;exact⟨by rw[eo,Ae,pi.length_eq];omega,_,c,rv',ga⟩
end
def zl9:ON
 |[.dct ks _]=>(zno ks).bind λws=>(zcd ws).bind λns=>if ks.isEmpty then none else #v[((zfv ns).map W.int),2]
 |ws=>zds ws
theorem zu5 {K:PySem.W.Frag}:OpSN K (λxs H Q=>(∃(l:Addr) (ns:List Int),xs=[.ref l]/\(SqL K H l (ns.map V.int)\/SqT K H l (ns.map V.int))/\∀p,H p=none->Q (.ref p) (upd H p (.lst ((zfv ns).map V.int))))\/z3z xs H Q) zl9:=λF H ws vs rv Q s r e q=>by
 unfold zl9 at e;split at e
 ·rename_i ks us;nofun;obtain⟨ws',h1,e⟩:=bS e;obtain⟨ns,h2,e⟩:=bS e;obtain⟨v,e1,h⟩:=r.one;obtain⟨js,rfl,rj⟩:=zk6 (K:=K) (F:=F) h1;obtain⟨a,rfl,D⟩:=h.dct s;ac_rfl;split at e
  ·exact noSome e
  ·rename_i hne;obtain rfl:=sI e;subst e1;obtain⟨vs,ha,hl⟩:=D.dK (λz=>hne (by rw[z];rfl));rw[zcc h2] at rj;exact .inr ⟨a,_,ns,rfl,ha,by rw[zll hl,rj.ints],λl hl'=>q _ _ (.lst hl' (zhh _))⟩
 ·exact .inl (zi6 F H ws vs rv Q s r e q)
noncomputable def dOn (S:Sx) (x:Str):Bool:=S.bn.contains (("d " : Str)++x)
def z21 (S:Sx):Expr->Bool
 |.Name x _=>dOn S x
 |_=>false
section
variable {X:Cx}{S:Sx}{d:Nat}{fE:Sx->Expr->Option GE}
theorem z79 (C:CxOk X S d):X.A.units+1<cLine:=by have:=C.sl;omega
def ydr (fE:Sx->Expr->Option GE) (S:Sx):Expr->Option GE
 |.Call (.Attribute (.Name x _) name apos) [e,e'] [] cpos=>if name==("get" : Str)&&(apos.endLine==cpos.line)&&zak e&&zak e' then (S.rd x).bind λi=>(fE S e).bind λg=>(fE S e').bind λg'=>some (ycq i g g') else none
 |_=>none
def zui (fE:Sx->Expr->Option GE) (S:Sx):Expr->Option GE
 |.Call (.Name x _) [e] [] _=>if z21 S e&&S.bl x&&zak e then (if x==("list" : Str) then (asL (zax fE S) [e]).bind λas=>some (gOpN znf as) else if x==("sorted" : Str) then (asL (zax fE S) [e]).bind λas=>some (gOpN zl9 as) else none) else none
 |_=>none
theorem zyy (HE:zbu fE)(C:CxOk X S d):zpv (zui fE S) X:=λe g h=>by
 unfold zui at h;split at h
 ·split at h
  ·rename_i z;rw[Ad,Ad] at z;obtain⟨gl,m⟩:=zge C z.1.2;split at h
   ·rename_i z1;have e1:=Bj z1;subst e1;obtain⟨as,has,h⟩:=bS h;obtain rfl:=sI h;obtain⟨pa,_⟩:=zf8 (λe a ha=>zaf HE C ha) has;exact (zfb (zf7.or (ztg C.calm)) gl m zp3 pa #v[0,9] #v[0,9] (zag z.2) rfl).wk λ_ _ _=>zki zvb
   ·split at h
    ·rename_i z1;have e1:=Bj z1;subst e1;obtain⟨as,has,h⟩:=bS h;obtain rfl:=sI h;obtain⟨pa,_⟩:=zf8 (λe a ha=>zaf HE C ha) has;exact (zbe (zjl.or (ztc C.calm)) gl m (show bootBuiltins "sorted" = some (.builtin "sorted") from He) pa #v[0,9] #v[0,9] (zag z.2) rfl).wk λ_ _ _=>zki zu5
    ·exact noSome h
  ·exact noSome h
 ·exact noSome h
end
section
variable {X:Cx}{S:Sx}{d:Nat}{fE:Sx->Expr->Option GE}
end
section
variable {X:Cx}{pins:List (Addr × Obj)}{σ:St}{H:Hp}{s:Shared}{a:Addr}{y:V}{u:Value}{A:Around}{E:Value->Shared->Prop}{Q:Value->Shared->Prop}
theorem d_no {f:Sem Value}{b:Bool}(go:∀{H:Hp},Inv X pins σ H s->DGet H a y none->RelV y u->(∀s',Inv X pins σ H s'->Q (.bool b) s')->wpAny #v[1,7] A f Q E s)(I:Inv X pins σ H s)(g:DNo H a y)(ry:RelV y u)(h:∀s',Inv X pins σ H s'->Q (.bool b) s'):wpAny #v[1,7] A f Q E s:=by
 rcases g with g|⟨e,b',k,rfl,hb⟩|⟨e,k,rfl⟩
 ·exact go I g ry h
 ·have ne:b'≠a:=λz=>by subst z;rw[e] at hb;exact nomatch hb
  refine go (reT I e) (.inr ⟨[],k,b',.inl upd_same,rfl,by rw[upd_ne ne];exact hb,rfl⟩) ry λs' I'=>h s' ?_;have:=reK I' upd_same
  rwa [zkq e] at this
 ·refine go (reK I e) (.inl ⟨[],k,.inl upd_same,rfl,rfl⟩) ry λs' I'=>h s' ?_;have:=reT I' upd_same
  rwa [zkq e] at this
end
noncomputable def rInD (neg:Bool):R2:=λx y H Q=>∃a,y=.ref a/\((∃v,DGet H a x (some v)/\Q (.bl (!neg)) H)\/(DNo H a x/\Q (.bl neg) H))
theorem yas {X:Cx}(hu:X.A.units+1<cLine):OpR X (compareOp .In) (rInD false):=by
 intro pins s σ H x y v u Q I rx ry h;obtain⟨a,rfl,h⟩:=h;cases ry;rcases h with⟨z,g,q⟩|⟨g,q⟩
 ·exact d_in hu I g rx λs' I'=>⟨.bl _,H,I',rfl,q⟩
 ·exact d_no (λI g ry h=>d_in hu I g ry h) I g rx λs' I'=>⟨.bl _,H,I',rfl,q⟩
theorem zuz {X:Cx}(hu:X.A.units+1<cLine):OpR X (compareOp .NotIn) (rInD true):=by
 intro pins s σ H x y v u Q I rx ry h;obtain⟨a,rfl,h⟩:=h;cases ry;rcases h with⟨z,g,q⟩|⟨g,q⟩
 ·exact zwn hu I g rx λs' I'=>⟨.bl _,H,I',rfl,q⟩
 ·exact d_no (λI g ry h=>zwn hu I g ry h) I g rx λs' I'=>⟨.bl _,H,I',rfl,q⟩
def oInD (neg:Bool):O2:=λk a=>match a with
 | .dct ks ws=>(keyD k).bind λd=>match valW (ks.zip ws) d with
  |some _=>some (.bl (!neg),false)
  |none=>if zim d ks then some (.bl neg,false) else none
 |a=>oIn neg k a
theorem zw5 {K:PySem.W.Frag} (neg:Bool):OpS K (λx y H Q=>rIn K neg x y H Q\/rInD neg x y H Q) (oInD neg):=λF H w1 w2 v1 v2 rv Q s r1 r2 e q=>by
 cases w2 with
 | dct ks ws =>
  obtain⟨d,hd,e⟩:=bS (show (keyD w1).bind _=_ from e);obtain⟨a,rfl,D⟩:=r2.dct s;split at e
  ·rename_i w hw
   obtain rfl:=sI e;obtain⟨v,h1,h2⟩:=D.get s (r1.key hd) hw;exact .inr ⟨a,rfl,.inl ⟨v,h1,q _ _ (.val (.bl _))⟩⟩
  ·rename_i hw
   split at e
   ·rename_i hs
    obtain rfl:=sI e;exact .inr ⟨a,rfl,.inr ⟨D.no s (r1.key hd) hs hw,q _ _ (.val (.bl _))⟩⟩
   ·exact noSome e
 |_=>exact .inl (zvl neg F H w1 _ v1 v2 rv Q s r1 r2 e q)
section
variable {K:PySem.W.Frag}{F H:Hp}{pr:Prt}{en:En}{σ:St}
theorem Rel.letgo {pr':Prt}(R:Rel K F pr' en σ H){p:Addr}{o:HO}(hg:pr' p o)(no:∀ps,o≠.tbl ps){w:W}{o':HO}(h:OwnR K F w o')(hpr:∀b u,pr b u->pr' b u/\b≠p):Rel K F pr en σ (upd H p o')/\Res K F (upd H p o') pr en σ (w,true) (.ref p):=by
 obtain⟨g1,g2,g3⟩:=R.prt p o hg;have nt:∀b ps,H b=some (.tbl ps)->b≠p:=λb ps e z=>by subst z;rw[g1] at e;exact no ps (sI e)
 have fn:∀b u,F b=some u->b≠p:=λb u e z=>by subst z;rw[g2] at e;exact noSome e
 refine⟨⟨R.len,λb u e=>by rw[upd_ne (fn b u e)];exact R.sub b u e,R.val,λi w e=>?_,R.inj,λq o2 hq=>?_,R.tb.go (λb ps e f=>⟨by rw[upd_ne (nt b ps e)];exact e,f⟩) (.refl F) λb ps e h o z=>h o (hpr b o z).1⟩,p,o',w,rfl,rfl,upd_same,g2,h,g3,λb u hb=>(hpr b u hb).2⟩
 ·obtain⟨a,vs,ws,h1,h2,h3,h4,h5⟩:=R.own i w e;have ne:a≠p:=λz=>by subst z;exact g3 i w e h2
  exact⟨a,vs,ws,h1,h2,by rw[upd_ne ne];exact h3,h4,h5⟩
 ·obtain⟨h0,ne⟩:=hpr q o2 hq;obtain⟨h1,h2,h3⟩:=R.prt q o2 h0;exact⟨by rw[upd_ne ne];exact h1,h2,h3⟩
end
def z5a (k v:GE):GE:=λen=>(k en).bind λp=>(keyF p.2.1).bind λd=>(v p.1).bind λq=>some (q.1,(.dct [.inl d] [q.2.1],true))
theorem ztv {K:PySem.W.Frag}{k v:GE}{σ:St}{H:Hp}{Q:VK}(h:tE K (z5a k v) σ H Q):z9b [(tE K k,tE K v)] σ H Q:=by
 obtain⟨F,pr,en,en',r,R,h,q⟩:=h;obtain⟨⟨e1,r1⟩,h1,h⟩:=bS h;obtain⟨d,hd,h⟩:=bS h;obtain⟨⟨e2,r2⟩,h2,h⟩:=bS h;cases h;intro p hp;refine⟨F,_,en,e1,r1,R.guard hp (.dK []),h1,λF1 H1 x s1 R1 y1=>?_⟩;obtain⟨F1',s1',R1',x1⟩:=y1.freeze R1;refine⟨F1',_,e1,e2,r2,R1',h2,λF2 H2 y s2 R2 y2=>?_⟩;obtain⟨F3,s3,R3,x3⟩:=y2.freeze R2;have kx:x=kV d:=x1.keyF hd;subst kx;have g:(λb u=>pr b u\/(b=p/\u=HO.dK [])) p (.dK []):=.inr ⟨rfl,rfl⟩;obtain⟨g1,g2,_⟩:=R3.prt p _ g;refine⟨g1,[(d,y)],rfl,(by decide:1<=15),?_⟩;obtain⟨R4,y4⟩:=R3.letgo (pr:=pr) (p:=p) (o:=.dK []) (w:=.dct [.inl d] [r2.1]) (o':=.dK (zen [] [(d,y)])) g (λ_ z=>nomatch z) (.dct (ks:=[d]) (ws:=[r2.1]) (vs:=[y]) rfl (.cons x3 .nil)) λb u hb=>⟨.inl hb,λz=>by have:=(R.prt b u hb).1;rw[z,hp] at this;exact noSome this⟩;exact q F3 _ _ (s1.trans (s1'.trans (s2.trans s3))) R4 y4
noncomputable def ydb:CmpOp->Option Bool
 |.In=>some false
 |.NotIn=>some true
 |_=>none
def cmpD (f:Sx->Expr->Option GE) (S:Sx) (a:Expr) (ops:List CmpOp) (cs:List Expr):Option GE:=match ops,cs with
 |[op],[b]=>(ydb op).bind λn=>if z21 S b&&zgv b then (zax f S a).bind λx=>(zax f S b).bind λy=>some (gOp2 (oInD n) x y) else none
 |_,_=>none
noncomputable def cmpY (f:Sx->Expr->Option GE) (S:Sx) (a:Expr) (ops:List CmpOp) (cs:List Expr):Option GE:=match cmpD f S a ops cs with
 |some g=>some g
 |none=>cmpE f S a ops cs
section
variable {X:Cx}{S:Sx}{d:Nat}{f:Sx->Expr->Option GE}
theorem z5m (Hf:zbu f)(C:CxOk X S d){a:Expr}{ops:List CmpOp}{cs:List Expr}{g:GE}{pos:Pos}(h:cmpD f S a ops cs=some g):PE X (.Compare a ops cs pos) (tE X.K g)/\PT X (.Compare a ops cs pos) (tT X.K (zah g)):=by
 unfold cmpD at h;split at h
 ·rename_i op b;obtain⟨n,hn,h⟩:=bS h;split at h
  ·rename_i z;rw [Ad] at z;obtain ⟨x,hx,h⟩:=bS h;obtain ⟨y,hy,h⟩:=bS h;obtain rfl:=sI h;have h1:OpR X (compareOp op) (λx y H Q=>rIn X.K n x y H Q\/rInD n x y H Q):=by
    cases op with
    |In=>obtain rfl:=sI hn;exact .or znn (yas (z79 C))
    |NotIn=>obtain rfl:=sI hn;exact .or zf6 (zuz (z79 C))
    |_=>exact noSome hn
   exact⟨(zuy h1 (zaf Hf C hx) (zaf Hf C hy) (ze2 z.2)).wk λ_ _ _=>zd6 (zw5 n),(zww h1 (zaf Hf C hx) (zaf Hf C hy) (ze2 z.2)).wk λ_ _ _=>zfj λ_ _ _=>zd6 (zw5 n)⟩
  ·exact noSome h
 ·exact noSome h
theorem zvx (Hf:zbu f)(C:CxOk X S d){a:Expr}{ops:List CmpOp}{cs:List Expr}{g:GE}{pos:Pos}(h:cmpY f S a ops cs=some g):PE X (.Compare a ops cs pos) (tE X.K g)/\PT X (.Compare a ops cs pos) (tT X.K (zah g)):=by
 unfold cmpY at h;split at h
 ·rename_i q;obtain rfl:=sI h;exact z5m Hf C q
 ·exact z4z Hf C h
noncomputable def zoi (fE:Sx->Expr->Option GE) (S:Sx):Expr->Option GE
 |.Dict [some k] [v] _=>if S.bn.contains ("dict" : Str) then (fE S k).bind λa=>(fE S v).bind λb=>some (z5a a b) else none
 |_=>none
theorem zs9 (HE:zbu f)(C:CxOk X S d):zpv (zoi f S) X:=λe g h=>by
 unfold zoi at h;split at h
 ·split at h
  ·obtain⟨a,ha,h⟩:=bS h;obtain⟨b,hb,h⟩:=bS h;obtain rfl:=sI h;exact (z7k (z1k (HE X S d C _ _ ha) (HE X S d C _ _ hb) z51) rfl rfl (by intro z;cases z) (show 1<=15 by decide)).wk λ_ _ _=>ztv
  ·exact noSome h
 ·exact noSome h
end
section
variable {prog:Program}{w:World}{A:Around}{E:Value->Shared->Prop}{s:Shared}
theorem ze4:entryFor table "dict.update.loop" = some Builtin.«dict.update.loop»:=by kernel_rfl
theorem zbx:plainId "dict.update.loop" = true:=by decide +kernel
variable {K:Type} [DecidableEq K]
noncomputable def dmF (kf:Nat->K) (vf:Nat->Value):Nat->Nat->List (K×Value)->List (K×Value)
 |_,0,kvs=>kvs
 |j,k+1,kvs=>dmF kf vf (j+1) k (stored kvs (kf j) (vf j))
theorem zk1 {a:Addr}{ps:Array Value}{o:Obj}{Q:List Value->Shared->Prop}(h:s.heap.get? a=some o)(hc:o.cls=.type "tuple")(hd:∃c,o.data=.seq ps c)(q:Q ps.toList s):wpAny (model prog w) A (Builtin.Dict.pairItems (.ref a)) Q E s:=by
 obtain⟨c,hd⟩:=hd;show wpAny _ A (typeOf (.ref a)>>=_) Q E s;refine Aa (wpAny_typeOf_ref h ?_);rw[hc];show wpAny _ A (seqItems? (.ref a)>>=_) Q E s;refine Aa (Cy h hd (Ag ?_));exact q
variable {I:Addr}{fp wr:List Addr}{n:Nat}{P:Nat->Value->Prop}{St:Nat->Heap->Prop}{R:Result->Shared->Prop}
noncomputable def zwx (prog:Program) (w:World) {K:Type} [DecidableEq K] (knd:KeyKind prog w K) (h:Heap) (v:Value) (k:K) (x:Value) (wr:List Addr) (D:Addr):Prop:=∃a o c key,v=.ref a/\h.get? a=some o/\o.cls=.type "tuple"/\o.data=.seq #[key,x] c/\knd.is k key=true/\a ∉ wr/\a≠D
theorem z4d {knd:KeyKind prog w K} (W:Walks prog w A.in1 I fp wr n P St) (kf:Nat->K) (vf:Nat->Value) (D:Addr) (nD:D ∉ fp) :
  ∀(k j:Nat) (s:Shared) (kvs:List (K×Value)) (i:Int) (t:Tok),n=j+k->(∀i v,P i v->zwx prog w knd s.heap v (kf i) (vf i) wr D)->St j s.heap->Heap.DictOf knd s.heap D kvs->kvs.length+k<=sizeLine ->
   (∀h' tk,(∀a o,a ∉ wr->a≠D->s.heap.get? a=some o->h'.get? a=some o)->Heap.DictOf knd h' D (dmF kf vf j k kvs)->R (.ok (.ret .none)) { s with heap:=h',toks:=tk })->codeAny (model prog w) A (.builtin "dict.update.loop" ⟨[.ref D,.ref I,.int i t,.none],[]⟩) R s:=by
 have nW:D ∉ wr:=λh=>nD (W.sub _ h);intro k
 induction k with
 | zero =>
  intro j s kvs i t hn hP st hD hz hR;refine Dr ze4 ?_;rw[Dp zbx _];show wpAny _ A.in1 (pyNext (.ref I)>>=_) _ _ s;have st':St n s.heap:=by rw[hn];exact st
  refine Aa (W.done s _ _ st' λh' tk k1=>?_);show wpAny _ A.in1 (Builtin.Dict.addKeywords D []>>=_) _ _ _;refine Aa (Gx (show Builtin.Dict.addKeywords D []=pure () from rfl) (Ag ?_));obtain⟨o,es,ep,g1,g2⟩:=hD;exact hR h' tk (λa o a1 _ e=>k1 a o a1 e) ⟨o,es,ep,k1 D o nW g1,g2⟩
 | succ k ih =>
  intro j s kvs i t hn hP st hD hz hR;refine Dr ze4 ?_;rw [Dp zbx _];show wpAny _ A.in1 (pyNext (.ref I)>>=_) _ _ s;refine Aa (W.item j s _ _ (by omega) st λv h1 tk p1 st1 k1=>?_);obtain ⟨a,o,c,key,rfl,ha,hc,hd,hk,aw,aD⟩:=hP j v p1;have ha1:=k1 a o aw ha;have hD1:Heap.DictOf knd h1 D kvs:=by
   obtain⟨o,es,ep,g1,g2⟩:=hD;exact⟨o,es,ep,k1 D o nW g1,g2⟩
  show wpAny _ A.in1 (holding [.ref a] (tryCatch (Builtin.Dict.pairItems (.ref a)) _>>=_)>>=_) _ _ _;refine Aa (Bw (Aa (Gd (zk1 ha1 hc ⟨c,hd⟩ ?_))));show wpAny _ A.in1 (holding [key,vf j] (dictSet D key (vf j))) _ _ _;refine Bw (wpAny_dictSet_pairs hk hD1 (λh2 hD2 sb=>?_) #v[]);refine Ag ⟨Ft zbx _,ih (j+1) _ _ _ _ #v[] ?_ ?_ hD2 ?_ λh' tk' k2 d2=>?_⟩
  ·intro i v p
   obtain⟨a,o,c,key,rfl,ha,hc,hd,hk,aw,aD⟩:=hP i v p;exact⟨a,o,c,key,rfl,(sb.2 a aD).trans (k1 a o aw ha),hc,hd,hk,aw,aD⟩
  ·exact W.frame _ _ _ st1 λb hb o e=>(sb.2 b λz=>nD (z ▸ hb)).trans e
  ·have:=PySem.stored_length_le kvs (kf j) (vf j)
   omega
  ·refine hR h' tk' (λb o b1 b2 e=>k2 b o b1 b2 ((sb.2 b b2).trans (k1 b o b1 e))) d2
end
section
variable {prog:Program}{w:World}{A:Around}{E:Value->Shared->Prop}{s:Shared}
theorem z2d (v:Value):bindSpecial (.builtin "list.__getattribute__") v=pure (.builtin "list.__getattribute__",[v]):=by
 have h:typeOf (.builtin "list.__getattribute__")=pure (.type "wrapper_descriptor"):=by kernel_rfl
 unfold bindSpecial;rw[h]
 rfl
theorem zwa:typeLookup (Value.type "list") (Str.ofString "keys")=pure none:=am_miss_of_fast #v[0,0,7]
theorem zkc {l:Addr}{o:Obj}{xs:Array Value}{k:Nat}{Q:Option Value->Shared->Prop} (h:s.heap.get? l=some o) (hc:o.cls=.type "list") (hd:o.data=.seq xs k) (ho:o.dict=none) (hh:A.handled=none)
  (q:∀h' tk,(∀b ob,s.heap.get? b=some ob->h'.get? b=some ob)->Q none { s with heap:=h',toks:=tk }):wpAny (model prog w) A (getAttr? (.ref l) (Str.ofString "keys")) Q E s:=by
 obtain⟨oc,od,odt,osl⟩:=o;simp only at hc hd ho;subst hc hd ho;unfold getAttr?;refine Aa (wpAny_mkText ?_);unfold getAttrBy?;refine Aa (Fs ?_);unfold getAttrBy;refine Bw (Aa (wpAny_typeOf_ref h ?_));rw[list_getattribute];refine Aa (Ag ?_);show wpAny _ A (getAttrByItsOwn (.ref l) _ (.type "list") (.builtin "list.__getattribute__") false false) _ _ _;unfold getAttrByItsOwn;show wpAny _ A (hookBefore (.type "list")>>=_) _ _ _;refine Aa (Gx (show hookBefore (.type "list")=pure none from rfl) ?_);refine Aa (Fs (Bw ?_));show wpAny _ A (boundAndCalled (.builtin "list.__getattribute__") (.ref l) _) _ _ _;unfold boundAndCalled;rw[z2d];refine Aa (Ag ?_);show wpAny _ A (call (.builtin "list.__getattribute__") [.ref l,_]) _ _ _;refine call_meets PySem.F.slot_list_getattribute ⟨_,h,rfl⟩ am_entry_list_getattribute (PySem.F.args_list_getattribute_2 _ _) (meets_getattribute_miss_list l xs k osl (Str.ofString "keys") _ zwa #v[0,0,7]) ⟨h,hh,λh' tk e ne=>?_⟩;show wpAny _ A (getattributeRaised (.ref l) _ (.type "list") (.ref e) none false false) _ _ _;obtain⟨t,u,he⟩:=ne.there;have ty:Shared.TypeIs { s with heap:=h',toks:=tk } (.ref e) "AttributeError" := ⟨_,he,rfl⟩;unfold getattributeRaised;refine Aa (wpAny_isInstance ty sub_AttributeError ?_);rw[if_pos rfl];show wpAny _ A (typeLookup (.type "list") (Str.ofString "__getattr__")>>=_) _ _ _;rw[am_list_getattr_none];refine Aa (Ag ?_);show wpAny _ A (throw (.ref e)>>=_) _ _ _;refine Aa (wpAny_throw ?_);show wpAny _ A (isInstance (.ref e) (.type "AttributeError")>>=_) _ _ _;refine Aa (wpAny_isInstance ty sub_AttributeError ?_);rw[if_pos rfl];exact Ag (q h' tk ne.keeps)
theorem z0n {K:Type} [DecidableEq K] {knd:KeyKind prog w K}{d l:Addr}{o:Obj}{xs:Array Value}{k:Nat}{kvs:List (K×Value)}{Q:Value->Shared->Prop} (hl:s.heap.get? l=some o) (hc:o.cls=.type "list") (hd:o.data=.seq xs k) (ho:o.dict=none) (hL:s.heap.IsList l xs)
  (hD:Heap.DictOf knd s.heap d kvs) (ne:d≠l) (hh:A.handled=none) (kf:Nat->K) (vf:Nat->Value) (hP:∀i v,xs[i]?=some v->zwx prog w knd s.heap v (kf i) (vf i) [] d) (hz:kvs.length+xs.size<=sizeLine)
  (q:∀h' tk,(∀a o,a≠d->s.heap.get? a=some o->h'.get? a=some o)->Heap.DictOf knd h' d (dmF kf vf 0 xs.size kvs)->Q .none { s with heap:=h',toks:=tk }):wpAny (model prog w) A (call (.builtin "dict.update") [.ref d,.ref l]) Q E s:=by
 obtain⟨od,es,ep,g1,g2,g3⟩:=hD;have td:s.TypeIs (.ref d) "dict" := ⟨od,g1,g2.1⟩;refine call_meetsIn (S:=λA R s=>wpAny (model prog w) A.in1 (Builtin.«dict.update» ⟨[.ref d,.ref l],[]⟩) (λfin s'=>match fin with
  |.done f=>R (.ok f) s'
  |.again c'=>c'.quiet=true/\codeAny (model prog w) A c' R s') (λe s'=>R (.error e) s') s) PySem.F.slot_dict_update td PySem.F.entry_dict_update (PySem.F.args_dict_update_2 _ _) (λA R s h=>h) ?_
 show wpAny _ A.in1 (Builtin.Dict.selfAndRest "update" ⟨[.ref d,.ref l],[]⟩>>=_) _ _ s;unfold Builtin.Dict.selfAndRest;refine Aa (Aa (wpAny_notOrdered_dict td ?_));show wpAny _ A.in1 (pure d>>=_) _ _ _;refine Aa (Ag (Ag ?_));show wpAny _ A.in1 (Builtin.Dict.updateFrom "dict.update" d (.ref l) [] .none) _ _ _;unfold Builtin.Dict.updateFrom;refine Aa (wpAny_typeOf_ref hl ?_);rw[hc];show wpAny _ A.in1 (getAttr? (.ref l) (Str.ofString "keys")>>=_) _ _ _;refine Aa (zkc hl hc hd ho hh λh1 tk k1=>?_);show wpAny _ A.in1 (rule _>>=_) _ _ _;refine Aa (Dc ?_);have hL1:h1.IsList l xs:=by
  obtain⟨o',a1,a2⟩:=hL;exact⟨o',k1 l o' a1,a2⟩
 refine Aa (Di hL1 (Ag ⟨Ft zbx _,?_⟩));have lh:l<h1.objs.size:=Ai (k1 l o hl);have dh:d<h1.objs.size:=Ai (k1 d od g1);refine z4d (knd:=knd) (Hg (A:=A.in1) hh h1.objs.size l (Az lh) xs) kf vf d (λm=>?_) xs.size 0 _ kvs 0 0 #v[] (λi v p=>?_) ⟨⟨_,An _ rfl,rfl,rfl⟩,hL1.push _⟩ ⟨od,es,ep,Ab _ (k1 d od g1),g2,g3⟩ hz λh' tk' k2 d2=>?_
 ·rcases Ap.mp m with z|z
  ·exact Az dh z
  ·exact ne (Ao.mp z)
 ·obtain⟨a,ob,c,key,rfl,ha,x1,x2,x3,_,x5⟩:=hP i v p;have ah:a<h1.objs.size:=Ai (k1 a ob ha);exact⟨a,ob,c,key,rfl,Ab _ (k1 a ob ha),x1,x2,x3,λm=>Az ah (Ao.mp m),x5⟩
 ·refine q h' tk' (λa ob na e => ?_) d2;have ah:a<h1.objs.size:=Ai (k1 a ob e);exact k2 a ob (λm=>Az ah (Ao.mp m)) na (Ab _ (k1 a ob e))
end
section
variable {X:Cx}{pins:List (Addr × Obj)}{σ:St}{H:Hp}{s:Shared}{A:Around}{E:Value->Shared->Prop}
def PV (H:Hp):List V->List (Key×V)->Prop:=Paired λv p=>∃b,v=V.ref b/\Rd H b (.tup [kV p.1,p.2])
theorem z37 {K:Type} [DecidableEq K] {kf:Nat->K}{vf:Nat->Value}:∀(rs:List (K×Value)) (j:Nat) (kvs:List (K×Value)),(∀i p,rs[i]?=some p->kf (j+i)=p.1/\vf (j+i)=p.2)->dmF kf vf j rs.length kvs=merged kvs rs
 |[],_,_,_=>rfl
 | p::rs,j,kvs,h=>by
  obtain ⟨e1,e2⟩:=h 0 p rfl;show dmF kf vf (j+1) rs.length (stored kvs (kf (j+0)) (vf (j+0)))=_;rw [e1,e2,z37 rs (j+1) _ λi q hq=>by
   have:=h (i+1) q hq
   rwa [show j+(i+1)=j+1+i by omega] at this]
  rfl
theorem z89 (I:Inv X pins σ H s) {d:Addr}{kvs:List (Key×V)} (e:H d=some (.dK kvs)):∀{vs:List V}{more:List (Key×V)}{its:List Value},PV H vs more->Vals vs its->∃rs:List (Key×Value),KV more rs/\rs.length=its.length/\∀(i:Nat) (v:Value),its[i]?=some v->∃p,rs[i]?=some p/\zwx X.prog X.w (zap X.prog X.w) s.heap v p.1 p.2 [] d
 |_,_,_,.nil,.nil=>⟨[],.nil,rfl,λi v h=>by simp at h⟩
 | _,_,_,.cons (b:=p) ⟨b,ev,hb⟩ pv,.cons (b:=u) ru vs=>by
  obtain⟨rs,r1,r2,r3⟩:=z89 I e pv vs;subst ev;obtain rfl:u=Value.ref b:=ru;obtain⟨its,r,⟨o,ho,hc,n,hd⟩,hz⟩:=I.tuple (show SqT X.K H b _ from .inl hb);cases r with
  | cons rk r =>
   cases r with
   | cons rx r =>
    cases r;rename_i uk ux;refine⟨(p.1,ux)::rs,.cons ⟨rfl,rx⟩ r1,by rw[Be,Be,r2],λi v hv=>?_⟩;cases i with
    | zero =>
     obtain rfl:=sI hv;refine⟨_,rfl,b,o,n,uk,rfl,ho,hc,hd,zxx rk,Cb,λz=>?_⟩;subst z;rcases hb with z|⟨o,z⟩<;>rw[e] at z<;>cases z
    |succ i=>exact r3 i v hv
theorem zrs {d l:Addr}{kvs more:List (Key×V)}{vs:List V}{Q:Value->Shared->Prop} (hh:A.handled=none) (I:Inv X pins σ H s) (e:H d=some (.dK kvs)) (el:H l=some (.lst vs)) (pv:PV H vs more) (hz:kvs.length+more.length<=sizeLine)
  (h:∀s',Inv X pins σ (upd H d (.dK (zen kvs more))) s'->Q .none s'):wpAny #v[1,7] A (call (.builtin "dict.update") [.ref d,.ref l]) Q E s:=by
 obtain⟨its,r,⟨o,n,ho,hc,hd0,hd⟩,_⟩:=I.list (SqL.of' el);obtain⟨rs,r1,r2,r3⟩:=z89 I e pv r;obtain⟨z,hs,kv,rel,dd⟩:=zyf I.hok e;have ne:d≠l:=λz=>by subst z;rw[e] at el;cases el
 have lr:more.length=rs.length:=r1.length;have lk:kvs.length=kv.length:=rel.length;have get:∀i p,rs[i]?=some p->(rs.getD (0+i) (Sum.inl 0,.none)).1=p.1/\(rs.getD (0+i) (Sum.inl 0,.none)).2=p.2:=λi p hp=>by
  rw[Ce,Bg,hp];exact⟨rfl,rfl⟩
 refine z0n (knd:=zap X.prog X.w) (xs:=its.toArray) ho hc hd hd0 ⟨o,ho,hc,n,hd⟩ dd ne hh (λi=>(rs.getD i (Sum.inl 0,.none)).1) (λi=>(rs.getD i (Sum.inl 0,.none)).2) (λi v hv=>?_) (by simp only [Ah];omega) λh' tk k1 d1=>h _ ?_
 ·have hv:its[i]? = some v:=by simpa using hv
  obtain⟨p,hp,q⟩:=r3 i v hv;obtain⟨e1,e2⟩:=get i p hp;rw[Ce] at e1 e2;rw[e1,e2];exact q
 ·have sz:its.toArray.size=rs.length:=by simp only [Ah];exact r2.symm
  rw[sz,z37 rs 0 kv get] at d1;have he:∃q,h'.get? d=some q:=let ⟨q,_,_,hq,_⟩:=d1;⟨q,hq⟩;exact I.write (x:=d) (e:=d) (by rw[e];exact True.intro) (.inl rfl) k1 he (z3c (by have:=zdh more kvs;omega) hs (r1.merge rel) d1)
end
def rUpd:V->List V->Hp->VK->Prop:=λx us H Q=>∃d l kvs vs more,x=.ref d/\us=[.ref l]/\(H d=some (.dK kvs)\/(kvs=[]/\H d=some (.dT [])))/\H l=some (.lst vs)/\PV H vs more/\kvs.length+more.length<=sizeLine/\Q .non (upd H d (.dK (zen kvs more)))
theorem z8b {X:Cx}(hc:X.calm=true):MtR X "dict.update" rUpd:=by
 intro pins s σ H x xs v us Q I rx rs h;obtain⟨d,l,kvs,vs,more,rfl,rfl,e,el,pv,hz,q⟩:=h;obtain⟨u,rfl,ru⟩:=vals1 rs;cases rx;cases ru;rcases e with e|⟨rfl,e⟩
 ·exact zrs (I.ok.hd hc) I e el pv hz λs' I'=>⟨.non,_,I',rfl,q⟩
 ·have nl:l≠d:=λz=>by subst z;rw[e] at el;cases el
  refine zrs (I.ok.hd hc) (reK I e) upd_same (by rw[upd_ne nl];exact el) (Paired.mapP pv λv p ⟨b,h1,h2⟩=>⟨b,h1,?_⟩) hz λs' I'=>⟨.non,_,I',rfl,?_⟩
  ·have nb:b≠d:=λz=>by subst z;rcases h2 with z|⟨o,z⟩ <;> rw[e] at z <;> cases z
   unfold Rd;rw[upd_ne nb];exact h2
  ·rw[zwb];exact q
def zvw:W->Option (Key×W)
 |.tup [k,v]=>(keyF k).bind λd=>some (d,v)
 |_=>none
noncomputable def zjk:List W->Option (List (Key×W))
 |[]=>some []
 |w::ws=>(zvw w).bind λp=>(zjk ws).bind λps=>some (p::ps)
def updW:List (Key×W)->List DKey->List W->List DKey×List W
 |[],ks,ws=>(ks,ws)
 |p::ps,ks,ws=>updW ps (zf3 ks (.inl p.1)) (zfm ks ws (.inl p.1) p.2)
def zsz (i:Nat) (g:GE):GE:=λen=>match en[i]? with
 | some (some (.dct _ _,true))=>(g en).bind λp=>match p.2 with
  | (.lst us,true)=>(zjk us).bind λps=>match p.1[i]? with
   |some (some (.dct ks ws,true))=>if (ks.all λk=>k.isLeft)&&decide (ks.length+ps.length<=sizeLine) then some (p.1.set i (some (.dct (updW ps ks ws).1 (updW ps ks ws).2,true)),(.non,false)) else none
   |_=>none
  |_=>none
 |_=>none
section
variable {K:PySem.W.Frag}{F H:Hp}
theorem zqj (s:Same F H):∀{us:List W}{ps:List (Key×W)}{vs:List V},zjk us=some ps->Reps K F us vs->∃more:List (Key×V),PV H vs more/\Paired (λ(p:Key×W) (q:Key×V)=>p.1=q.1/\Rep K F p.2 q.2) ps more
 |[],_,_,e,.nil=>by obtain rfl:=sI e;exact⟨[],.nil,.nil⟩
 | w::us,_,_,e,.cons r rs=>by
  obtain⟨p,hp,e⟩:=bS (show (zvw w).bind _=_ from e);obtain⟨ps,hps,e⟩:=bS e;obtain rfl:=sI e;obtain⟨more,h1,h2⟩:=zqj s hps rs;unfold zvw at hp;split at hp
  ·rename_i k v
   obtain⟨d,hd,hp⟩:=bS hp;obtain rfl:=sI hp;cases r with
   | tup h rr =>
    cases rr with
    | cons rk rr =>
     cases rr with
     | cons rx rr =>
      cases rr;have kx:=rk.keyF hd;subst kx;exact⟨(d,_)::more,.cons ⟨_,rfl,.inl (s _ _ h)⟩ h1,.cons ⟨rfl,rx⟩ h2⟩
  ·exact noSome hp
theorem zqd:∀{ps:List (Key×W)}{more:List (Key×V)}{js:List Key}{vs:List V}{ws:List W},Paired (λ(p:Key×W) (q:Key×V)=>p.1=q.1/\Rep K F p.2 q.2) ps more->js.length=vs.length->Reps K F ws vs->OwnR K F (.dct (updW ps (js.map .inl) ws).1 (updW ps (js.map .inl) ws).2) (.dK (zen (js.zip vs) more))
 |_,_,_,_,_,.nil,hl,r=>.dct hl r
 | p::ps,q::more,js,vs,ws,.cons ⟨e,rx⟩ h,hl,r=>by
  show OwnR K F (.dct (updW ps (zf3 (js.map (Sum.inl:Key->DKey)) (.inl p.1)) (zfm (js.map (Sum.inl:Key->DKey)) ws (.inl p.1) p.2)).1 (updW ps (zf3 (js.map (Sum.inl:Key->DKey)) (.inl p.1)) (zfm (js.map (Sum.inl:Key->DKey)) ws (.inl p.1) p.2)).2) (.dK (zen (putK (js.zip vs) q.1 q.2) more));rw[zuf zg7,z0s hl,<-e];exact zqd h (z5f hl _ _) (zsy zg7 rx r)
theorem zvi {σ:St}{i:Nat}{g:GE}{Q:VK} (h:tE K (zsz i g) σ H Q):tBM K "dict" rUpd (tVar i) (zfs (tE K g) tNil) σ H Q:=by
 obtain⟨F,pr,en,en',r,R,h,q⟩:=h;unfold zsz at h;split at h
 ·rename_i ks0 ws0 hx0
  obtain⟨a,ha,D0⟩:=R.repD hx0;obtain⟨⟨e1,r1⟩,h1,h⟩:=bS h;refine⟨.ref a,ha,.inr (.inr (.inl ⟨rfl,?_⟩)),F,pr,en,e1,r1,R,h1,λF1 H1 v1 s1 R1 y1=>?_⟩
  ·rcases D0 with ⟨js,vs,_,hH,_⟩ | ⟨js,vs,_,hH,_⟩
   ·exact .inl ⟨_,hH⟩
   ·exact .inr ⟨_,hH⟩
  ·split at h
   ·rename_i us er
    obtain⟨ps,hps,h⟩:=bS h;have er:r1=(.lst us,true):=er;subst er;split at h
    ·rename_i ks ws hx1
     split at h
     ·rename_i z
      rw[Ad] at z;have z2:=At z.2;cases h;obtain⟨l,o,w',ew,ev,hl,fl,ow,_⟩:=y1;subst ew ev;obtain⟨vs,rfl,rv⟩:=ow.list;obtain⟨a',ha',D⟩:=R1.repD hx1;rw[ha] at ha';cases ha';obtain⟨more,pv,pm⟩:=zqj R1.sub hps rv;rcases D with⟨js,vs',rfl,hH,hl',r⟩|⟨js,vs',rfl,hH,hl',r⟩
      ·refine ⟨a,l,_,vs,more,rfl,rfl,.inl hH,hl,pv, ?_, ?_⟩
       ·have:=Paired.length pm
        rw[List.length_zip,<-hl',Nat.min_self];rw[Ae] at z2;omega
       ·exact q F1 _ _ s1 (R1.changeO hx1 ha (zqd pm hl' r)) .non
      ·cases js with
       | nil =>
        have hv:vs'=[]:=List.length_eq_zero_iff.mp hl'.symm;subst hv;refine⟨a,l,[],vs,more,rfl,rfl,.inr ⟨rfl,hH⟩,hl,pv,?_,q F1 _ _ s1 (R1.changeO hx1 ha (zqd (js:=[]) (vs:=[]) pm rfl r)) .non⟩;have:=Paired.length pm;rw[List.map_nil,Fj] at z2;show 0+_<=_;omega
       |cons j js=>have z1:=z.1;rw[Am,Bp,Ad] at z1;exact nomatch z1.1
     ·exact noSome h
    ·exact noSome h
   ·exact noSome h
 ·exact noSome h
end
section
variable {X:Cx}{S:Sx}{d:Nat}{fE:Sx->Expr->Option GE}
def zof (fE:Sx->Expr->Option GE) (S:Sx):Expr->Option GE
 |.Call (.Attribute (.Name x _) name apos) [e] [] cpos=>if name==("update" : Str)&&(apos.endLine==cpos.line)&&zak e then (S.rd x).bind λi=>(fE S e).bind λg=>some (zsz i g) else none
 |_=>none
theorem zs6 (HE:zbu fE)(C:CxOk X S d):zpv (zof fE S) X:=λe g h=>by
 unfold zof at h;split at h
 ·split at h
  ·rename_i z;rw[Ad,Ad] at z;obtain⟨⟨z1,z2⟩,y⟩:=z;have e1:=Bj z1;subst e1;obtain⟨i,hi,h⟩:=bS h;obtain⟨g1,hg1,h⟩:=bS h;obtain rfl:=sI h;exact (z9e PySem.F.plainAttrs_dict PySem.F.slot_dict_update PySem.F.type_dict_update (z8b C.calm) (zs5 C hi) (pac (HE X S d C _ _ hg1) zel y) (zwe rfl) (zyi y) z2 (zag y) rfl).wk λ_ _ _=>zvi
  ·exact noSome h
 ·exact noSome h
end
section
variable {X:Cx}{pins:List (Addr × Obj)}{σ:St}{H:Hp}
end
section
variable {X:Cx}
variable {S:Sx}{d:Nat}{fE:Sx->Expr->Option GE}
end
section
variable {prog:Program}{w:World}{A:Around}{E:Value->Shared->Prop}{s:Shared}
end
section
variable {X:Cx}{pins:List (Addr × Obj)}{σ:St}{H:Hp}{s:Shared}{A:Around}{E:Value->Shared->Prop}
end
section
variable {X:Cx}{S:Sx}{d:Nat}{fE:Sx->Expr->Option GE}
end
section
variable {X:Cx}
end
section
variable {K:PySem.W.Frag}{F H:Hp}{pr pb:Prt}{en:En}{σ:St}
end
section
variable {K:PySem.W.Frag}{mp:List Nat}{pb:Prt}{acc:Addr}
end
section
variable {X:Cx}{S:Sx}{d:Nat}{f:Sx->Expr->Option GE}
end
section
open PySem.AutoSeq1 (wpAny_loadPart')
end
section
variable {X:Cx}{S:Sx}{d:Nat}{fE:Sx->Expr->Option GE}
end
section
open PySem.AutoSeq1 (wpAny_loadPart')
variable {prog:Program}{w:World}{A:Around}{E:Value->Shared->Prop}{s:Shared}
end
section
variable {X:Cx}{S:Sx}{d:Nat}{fE:Sx->Expr->Option GE}
end
section
variable {prog:Program}{w:World}{A:Around}{E:Value->Shared->Prop}{s:Shared}
open HT in
end
section
variable {X:Cx}{S:Sx}{d:Nat}{fE:Sx->Expr->Option GE}
noncomputable def orX (a b:Option GE):Option GE:=match a with
 |some g=>some g
 |none=>b
theorem zuc {x y:Expr->Option GE}(hx:zpv x X)(hy:zpv y X):zpv (λe=>orX (x e) (y e)) X:=λe g h=>by
 have h:orX (x e) (y e)=some g:=h;unfold orX at h;split at h
 ·rename_i g' q;obtain rfl:=sI h;exact hx e g' q
 ·exact hy e g h
def extE (fE:Sx->Expr->Option GE) (S:Sx) (e:Expr):Option GE:=orX (zoi fE S e) (orX (zui fE S e) (zof fE S e))
theorem z7a (HE:zbu fE)(C:CxOk X S d):zpv (extE fE S) X:=zuc (zs9 HE C) (zuc (zyy HE C) (zs6 HE C))
end
noncomputable def ncOf (scope:Scope):List Str:=(scope.names.filter λp=>p.2==.free||p.2==.local||p.2==.cell).map (·.1)
def capC (S:Sx) (scope:Scope):Cap:=(ncOf scope).map λx=>if scope.names.lookup x==some .free then S.N.findIdx? (· == x) else none
def inS (S:Sx) (scope:Scope):Sx:={ N:=ncOf scope,kd:=scope.names,bn:=S.bn,fs:=S.fs,mp:=capKeep (capC S scope),top:=false }
def zlb (S:Sx) (scope:Scope):Bool:=decide (scope.kind=.function)&&zig (capC S scope) (ncOf scope) S.N scope&&(scope.names.all λp=>!(p.2==.free)||S.kd.lookup p.1==some .cell||S.kd.lookup p.1==some .free) &&
 zf5 scope && #v[7,8]&&decide (ncOf scope).Nodup
def zr4 (fT:Sx->Expr->Option GT) (S:Sx):List Expr->Option GT
 |[]=>some gYes
 |[c]=>fT S c
 |_=>none
noncomputable def zwd (fE:Sx->Expr->Option GE) (fT:Sx->Expr->Option GT) (S:Sx) (elt:Expr) (gens:List Comprehension) (scope:Scope):Option GE:=match gens with
 |[c]=>if zlb S scope&&decide (c.is_async=0) then (zpn fE S c.target c.iter).bind λgi=>(tgE (inS S scope) c.target).bind λT=>(zr4 fT (inS S scope) c.ifs).bind λtc=>(fE (inS S scope) elt).bind λte=>some (zbb (capC S scope) T gi tc te) else none
 |[c,c2]=>if zlb S scope&&decide (c.is_async=0/\c2.is_async=0) then (zpn fE S c.target c.iter).bind λgi=>(tgE (inS S scope) c.target).bind λT=>(zr4 fT (inS S scope) c.ifs).bind λtc=>(zpn fE (inS S scope) c2.target c2.iter).bind λgi2=>(tgE (inS S scope) c2.target).bind λT2=>(zr4 fT (inS S scope) c2.ifs).bind λtc2=>(fE (inS S scope) elt).bind λte=>some (zn5 (capC S scope) T gi tc T2 gi2 tc2 te) else none
 |_=>none
structure ScOk (X:Cx) (S:Sx) (scope:Scope):Prop where
 kind:scope.kind=.function
 cap:zig (capC S scope) (ncOf scope) X.N scope=true
 fr:zh8 scope X.env.scope=true
 nc:zf5 scope=true
 nm:#v[7,8]=true
 nd:(ncOf scope).Nodup
section
variable {X:Cx}{S:Sx}{d:Nat}
theorem zql (C:CxOk X S d){scope:Scope}(h:zlb S scope=true):ScOk X S scope:=by
 unfold zlb at h;simp only [Ad] at h;obtain⟨⟨⟨⟨⟨h1,h2⟩,h3⟩,h4⟩,h5⟩,h6⟩:=h;refine⟨At h1,by rw[C.N];exact h2,?_,h4,h5,At h6⟩;unfold zh8;refine Bd.mpr λp hp=>?_;have q:=Bd.mp h3 p hp;simp only [Co,Bool.not_eq_true',beq_eq_false_iff_ne,beq_iff_eq,Cq] at q ⊢;rcases q with (q|q)|q
 ·exact .inl (.inl q)
 ·rcases C.vis p.1 (.inl q) with z|z
  ·exact .inl (.inr z)
  ·exact .inr z
 ·rcases C.vis p.1 (.inr q) with z|z
  ·exact .inl (.inr z)
  ·exact .inr z
theorem ziz (C:CxOk X S d){scope:Scope}(h:ScOk X S scope)(cl:List (Str×Addr))(L:Addr)(s3:Shared)(H3:Hp)(fp:List Addr):CxOk (zbc X (ncOf scope) scope cl L s3 H3 fp) (inS S scope) d where
 N:=rfl
 nd:=h.nd
 loc:=λx e=>zbd (env:=X.env) #v[0,9] e
 cel:=λx e=>⟨zbd (env:=X.env) #v[0,9] e,Aj e⟩
 vis:=λx e=>by
  rcases e with e|e
  ·exact .inl (zbd (env:=X.env) #v[0,9] e)
  ·exact za7 (env:=X.env) e
 gl:=λx e=>zbd (env:=X.env) #v[0,9] e
 calm:=C.calm
 xe:=rfl
 bn:=C.bn
 fs:=C.fs
 room:=C.room
 sl:=C.sl
 lam:=λh=>absurd (show ("" : Str)∈lams from h) #v[0,0,7]
 dpo:=Bm _
 bk:=by
  show (if scope.kind.isAnnotationScope then ScopeKind.function else scope.kind)=.function;rw[h.kind];rfl
end
theorem zzt {K:PySem.W.Frag}{σ:St}{H:Hp}{Q:Bool->Hp->Prop}(h:tT K gYes σ H Q):z3b σ H Q:=by
 obtain⟨F,pr,en,en',b,R,h,q⟩:=h;cases h;exact q F H (.refl F) R
structure CompP (X:Cx) (S:Sx) (elt:Expr) (gens:List Comprehension) (scope:Scope) (g:GE):Prop where
 ex:∃tg iter ifs gs gi T tc,∃(em:Pos->Value->Env->Sem Unit) (tm:Addr->TM),gens=⟨tg,iter,ifs,0⟩::gs/\(∀pos it acc env,compTurn #v[5,9] 0 it acc env=zm4 #v[5,9] 0 tg iter ifs (em pos acc env) it acc env)/\ScOk X S scope/\PI X tg iter (tI X.K gi)/\(∀x,foldedSetIterable iter X.env x=pure x) /\
  (∀cl C s3 H3 fp,PG (zbc X (ncOf scope) scope cl C s3 H3 fp) tg (TGof X.K T))/\(∀cl C s3 H3 fp,PTs (zbc X (ncOf scope) scope cl C s3 H3 fp) ifs (tT X.K tc))/\(∀pos cl C s3 H3 fp acc,PM (zbc X (ncOf scope) scope cl C s3 H3 fp) (em pos (.ref acc) (zbc X (ncOf scope) scope cl C s3 H3 fp).env) (tm acc)) /\
  ∀σ H Q,tE X.K g σ H Q->zvh (tI X.K gi) (capC S scope) (TGof X.K T) (tT X.K tc) tm σ H Q
section
variable {X:Cx}{S:Sx}{d:Nat}{fE:Sx->Expr->Option GE}{fT:Sx->Expr->Option GT}
theorem PTs.wk {ifs:List Expr}{t t':TT}(h:PTs X ifs t)(i:∀σ H Q,t' σ H Q->t σ H Q):PTs X ifs t':=λpins s σ H Q I q=>h pins s σ H Q I (i σ H Q q)
theorem zkm (HT:zm5 fT)(C:CxOk X S d):∀{ifs:List Expr}{tc:GT},zr4 fT S ifs=some tc->PTs X ifs (tT X.K tc)
 |[],_,h=>by obtain rfl:=sI h;exact z7l.wk λ_ _ _=>zzt
 |[_],_,h=>z7g (HT _ _ d C _ _ h)
 |_::_::_,_,h=>noSome h
theorem zh5 (HE:zbu fE)(HT:zm5 fT)(C:CxOk X S d){elt:Expr}{gens:List Comprehension}{scope:Scope}{g:GE}(h:zwd fE fT S elt gens scope=some g):CompP X S elt gens scope g:=by
 unfold zwd at h;split at h
 ·rename_i c;obtain⟨tg,iter,ifs,as⟩:=c;split at h
  ·rename_i z;rw[Ad] at z;have ha:as=0:=At z.2;subst ha;obtain⟨gi,hi,h⟩:=bS h;obtain⟨T,hT,h⟩:=bS h;obtain⟨tc,htc,h⟩:=bS h;obtain⟨te,hte,h⟩:=bS h;obtain rfl:=sI h;have so:=zql C z.1;obtain⟨pi,pf⟩:=zfg HE C hi;exact⟨tg,iter,ifs,[],gi,T,tc,λ_=>zy5 elt,λacc=>zsg acc (tE X.K te),rfl,λ_ _ _ _=>rfl,so,pi,pf,λcl L s3 H3 fp=>zqz (ziz C so cl L s3 H3 fp) hT,λcl L s3 H3 fp=>zkm HT (ziz C so cl L s3 H3 fp) htc,λ_ cl L s3 H3 fp acc=>z27 (HE _ _ d (ziz C so cl L s3 H3 fp) _ _ hte),λ_ _ _=>zuh⟩
  ·exact noSome h
 ·rename_i c c2;obtain⟨tg,iter,ifs,as⟩:=c;obtain⟨tg2,iter2,ifs2,as2⟩:=c2;split at h
  ·rename_i z;rw [Ad] at z;obtain ⟨ha,ha2⟩:as=0/\as2=0:=At z.2;subst ha ha2;obtain ⟨gi,hi,h⟩:=bS h;obtain ⟨T,hT,h⟩:=bS h;obtain ⟨tc,htc,h⟩:=bS h;obtain ⟨gi2,hi2,h⟩:=bS h;obtain ⟨T2,hT2,h⟩:=bS h;obtain ⟨tc2,htc2,h⟩:=bS h;obtain ⟨te,hte,h⟩:=bS h;obtain rfl:=sI h;have so:=zql C z.1;obtain ⟨pi,pf⟩:=zfg HE C hi;exact ⟨tg,iter,ifs,[⟨tg2,iter2,ifs2,0⟩],gi,T,tc,λpos=>zvt #v[2,7] iter2,λacc=>tTwo (tI X.K gi2) (TGof X.K T2) (tT X.K tc2) (zsg acc (tE X.K te)),rfl,λ_ _ _ _=>z07,so,pi,pf,λcl L s3 H3 fp=>zqz (ziz C so cl L s3 H3 fp) hT,λcl L s3 H3 fp=>zkm HT (ziz C so cl L s3 H3 fp) htc,
   λpos cl L s3 H3 fp acc=>z9o (λ_ _ z=>z) C.calm (zfg HE (ziz C so cl L s3 H3 fp) hi2).1 (zqz (ziz C so cl L s3 H3 fp) hT2) (zkm HT (ziz C so cl L s3 H3 fp) htc2) (HE _ _ d (ziz C so cl L s3 H3 fp) _ _ hte) (zfg HE (ziz C so cl L s3 H3 fp) hi2).2,λ_ _ _=>zjj λpb acc hb=>ydo (ycd hb)⟩
  ·exact noSome h
 ·exact noSome h
theorem zwy (C:CxOk X S d){elt:Expr}{gens:List Comprehension}{scope:Scope}{g:GE}{pos:Pos}(h:CompP X S elt gens scope g):PE X #v[5,9] (tE X.K g):=by
 nofun;obtain⟨tg,iter,ifs,gs,gi,T,tc,em,tm,e1,e2,so,pi,pf,pg,pt,pe,rd⟩:=h.ex;ac_rfl;subst e1;exact (z6q pi pg pt (pe pos) (e2 pos) C.calm so.kind so.cap so.fr so.nc so.nm pf).wk rd
def z57 (fE:Sx->Expr->Option GE) (S:Sx):Option Expr->Option GO
 |none=>some zbt
 |some e=>(fE S e).bind λg=>some (zfq g)
def zz5 (fE:Sx->Expr->Option GE) (fT:Sx->Expr->Option GT) (S:Sx) (e:Expr):Option GE:=match e with
 |.Name x _=>(S.rd x).bind λi=>some (gVar i)
 | .Constant c _ _=>(match c with
  |.int i=>some (gC (.int i))
  |.bool b=>some (gC (.bl b))
  |.none=>some (gC .non)
  |.str x=>some (gC (.str x))
  |_=>none)
 |.BinOp a op b _=>(zax fE S a).bind λx=>(zax fE S b).bind λy=>(binO op).bind λo=>some (gOp2 o x y)
 | .UnaryOp op a _=>(match op with
  |.USub=>(zax fE S a).bind λx=>some (gOp1 oNeg x)
  |.Not=>(fE S a).bind λg=>some (gNot g)
  |_=>none)
 | .BoolOp op vs _=>(match vs with
  |v::vs=>z59 (fE S) op v vs
  |[]=>none)
 |.Compare a ops cs _=>cmpY fE S a ops cs
 | .Subscript a s _=>(match s with
  | .Slice lo hi st _=>(match st with
   |none=>(zax fE S a).bind λx=>(z57 fE S lo).bind λl=>(z57 fE S hi).bind λh=>some (gSl x l h)
   |some _=>none)
  |s=>if zeg s then (zax fE S a).bind λx=>(zax fE S s).bind λy=>some (gOp2 oIx x y) else none)
 |.List es _=>(asL (λe=>(fE S e).bind λg=>some (gArg g)) es).bind λas=>some (zat as)
 |.Tuple es _ _=>(asL (λe=>(fE S e).bind λg=>some (gArg g)) es).bind λas=>some (zcw as)
 | .Call fu args kws pos=>(match kws with
  | []=>(match fu with
   |.Name x _=>z69 fE S x args
   |.Attribute o m ap=>z41 fE S o m ap args pos
   |_=>none)
  | [⟨some key,.Lambda params body scope _,_⟩]=>(match fu,args with
   |.Name x _,[e]=>z6w fE S x e key params body scope
   |_,_=>none)
  | [⟨some key,ed,_⟩]=>(match fu,args with
   |.Name x _,[e]=>maxE fE S x e key ed
   |_,_=>none)
  |_=>none)
 |.ListComp elt gens scope _=>zwd fE fT S elt gens scope
 |_=>none
def z7s (fE:Sx->Expr->Option GE) (fT:Sx->Expr->Option GT) (S:Sx) (e:Expr):Option GT:=match e with
 | .BoolOp op vs _=>(match vs with
  |v::vs=>z4w (fT S) op v vs
  |[]=>none)
 |.Compare a ops cs _=>(cmpY fE S a ops cs).bind λg=>some (zah g)
 | .UnaryOp op a p=>(match op with
  |.Not=>(fT S a).bind λg=>some (zik g)
  |op=>if zse (.UnaryOp op a p) then (fE S (.UnaryOp op a p)).bind λg=>some (zah g) else none)
 |e=>if zse e then (fE S e).bind λg=>some (zah g) else none
theorem zq7 (HE:zbu fE) (C:CxOk X S d) {o:Option Expr}{g:GO} (h:z57 fE S o=some g):PO X o (tO X.K g):=by
 cases o with
 |none=>obtain rfl:=sI h;exact λpins s σ H Q I q=>z5j pins s σ H Q I (zpt q)
 | some e =>
  obtain⟨ge,hg,h⟩:=bS h;obtain rfl:=sI h;exact λpins s σ H Q I q=>z5d (HE X S d C _ _ hg) pins s σ H Q I (zyq q)
theorem z16 (HE:zbu fE) (HT:zm5 fT):zbu (zz5 fE fT):=λX S d C e g h=>by
 have HA:∀e a,((fE S e).bind λg=>some (gArg g))=some a->PE X e (tA X.K a):=λe a h=>by
  obtain⟨ge,hg,h⟩:=bS h;obtain rfl:=sI h;exact (HE X S d C _ _ hg).wk λ_ _ _=>zgl
 cases e with
 | Name x p =>
  obtain⟨i,hi,h⟩:=bS (show (S.rd x).bind _=_ from h);obtain rfl:=sI h;exact (zs5 C hi).wk λ_ _ _=>z0g
 | Constant c k p =>
  cases c with
  |int i=>obtain rfl:=sI h;exact z9w.wk λ_ _ _=>zd2 λ_=>.int i
  |bool b=>obtain rfl:=sI h;exact ycw.wk λ_ _ _=>zd2 λ_=>.bl b
  |none=>obtain rfl:=sI h;exact yb3.wk λ_ _ _=>zd2 λ_=>.non
  |str x=>obtain rfl:=sI h;exact z8y.wk λ_ _ _=>zd2 λ_=>.str x
  |_=>exact noSome h
 | BinOp a op b p =>
  obtain⟨x,hx,h⟩:=bS (show (zax fE S a).bind _=_ from h);obtain⟨y,hy,h⟩:=bS h;obtain⟨o,ho,h⟩:=bS h;obtain rfl:=sI h;obtain⟨r,h1,h2⟩:=z47 (X:=X) ho;exact (ycu h1 (zaf HE C hx) (zaf HE C hy)).wk λ_ _ _=>zd6 h2
 | UnaryOp op a p =>
  cases op with
  | USub =>
   obtain⟨x,hx,h⟩:=bS (show (zax fE S a).bind _=_ from h);obtain rfl:=sI h;exact (yd1 yah (zaf HE C hx)).wk λ_ _ _=>zzc z7o
  | Not =>
   obtain⟨x,hx,h⟩:=bS (show (fE S a).bind _=_ from h);obtain rfl:=sI h;exact (ya2 (HE X S d C _ _ hx)).wk λ_ _ _=>z1u
  |_=>exact noSome h
 | BoolOp op vs p =>
  cases vs with
  |nil=>exact noSome h
  |cons v vs=>exact zqr (λe g=>HE X S d C e g) h
 |Compare a ops cs p=>exact (zvx HE C h).1
 | Subscript a s p =>
  have ix:∀s,(if zeg s then (zax fE S a).bind λx=>(zax fE S s).bind λy=>some (gOp2 oIx x y) else none)=some g->PE X (.Subscript a s p) (tE X.K g):=λs h=>by
   split at h
   ·rename_i z
    obtain⟨x,hx,h⟩:=bS h;obtain⟨y,hy,h⟩:=bS h;obtain rfl:=sI h;exact (ycx (z6b.or z83) (zaf HE C hx) (zaf HE C hy) (ztj z)).wk λ_ _ _=>zd6 ybf
   ·exact noSome h
  cases s with
  | Slice lo hi st p2 =>
   cases st with
   |some _=>exact noSome h
   | none =>
    obtain⟨x,hx,h⟩:=bS (show (zax fE S a).bind _=_ from h);obtain⟨l,hl,h⟩:=bS h;obtain⟨u,hu,h⟩:=bS h;obtain rfl:=sI h;exact (zy9 ((z6a.or yb1).or z6y) (zaf HE C hx) (zq7 HE C hl) (zq7 HE C hu)).wk λ_ _ _=>z4s
  |_=>exact ix _ h
 | List es p =>
  obtain⟨as,has,h⟩:=bS (show (asL _ es).bind _=_ from h);obtain rfl:=sI h;exact (z8t (zf8 HA has).1).wk λ_ _ _=>zza
 | Tuple es k p =>
  obtain⟨as,has,h⟩:=bS (show (asL _ es).bind _=_ from h);obtain rfl:=sI h;exact (yb0 (zf8 HA has).1).wk λ_ _ _=>zzs
 | Call fu args kws p =>
  simp only [zz5] at h;split at h
  ·cases fu with
   |Name x p2=>exact z1i HE C h
   |Attribute o m ap=>exact z1y HE C h
   |_=>exact noSome h
  ·split at h
   ·exact zzf HE C h
   ·exact noSome h
  ·split at h
   ·exact z73 HE C h
   ·exact noSome h
  ·exact noSome h
 |ListComp elt gens scope p=>exact zwy C (zh5 HE HT C h)
 |_=>exact noSome h
theorem z15 (HE:zbu fE) (HT:zm5 fT):zm5 (z7s fE fT):=λX S d C e g h=>by
 have plain:∀e,(if zse e then (fE S e).bind λg=>some (zah g) else none)=some g->PT X e (tT X.K g):=λe h=>by
  split at h
  ·rename_i z
   obtain⟨x,hx,h⟩:=bS h;obtain rfl:=sI h;exact (ya9 (HE X S d C _ _ hx) (zsx z)).wk λ_ _ _=>zfj λ_ _ _ q=>q
  ·exact noSome h
 cases e with
 | BoolOp op vs p =>
  cases vs with
  |nil=>exact noSome h
  |cons v vs=>exact (zlp (λe g=>HT X S d C e g) h).pt
 | Compare a ops cs p =>
  obtain⟨x,hx,h⟩:=bS (show (cmpY fE S a ops cs).bind _=_ from h);obtain rfl:=sI h;exact (zvx HE C hx).2
 | UnaryOp op a p =>
  cases op with
  | Not =>
   obtain⟨x,hx,h⟩:=bS (show (fT S a).bind _=_ from h);obtain rfl:=sI h;exact (yai (HT X S d C _ _ hx)).wk λ_ _ _=>zyo
  |_=>exact plain _ h
 |_=>exact plain _ h
end
noncomputable def z4g:GE:=λ_=>none
noncomputable def zyj:GT:=λ_=>none
mutual
noncomputable def compE:Nat->Sx->Expr->Option GE
 |0,_,_=>some z4g
 |n+1,S,e=>some ((orX (extE (compE n) S e) (zz5 (compE n) (compT n) S e)).getD z4g)
noncomputable def compT:Nat->Sx->Expr->Option GT
 |0,_,_=>some zyj
 |n+1,S,e=>some ((z7s (compE n) (compT n) S e).getD zyj)
end
theorem zvj {X:Cx}{e:Expr}:PE X e (tE X.K z4g):=λ_ _ _ _ _ _ q=>by obtain⟨_,_,_,_,_,_,h,_⟩:=q;exact noSome h
theorem zra {X:Cx}{e:Expr}:PT X e (tT X.K zyj):=λ_ _ _ _ _ _ q=>by obtain⟨_,_,_,_,_,_,h,_⟩:=q;exact noSome h
theorem zh9:∀n,zbu (compE n)/\zm5 (compT n)
 |0=>⟨λ_ _ _ _ _ _ h=>by rw[compE] at h;obtain rfl:=sI h;exact zvj,λ_ _ _ _ _ _ h=>by rw[compT] at h;obtain rfl:=sI h;exact zra⟩
 | n+1=>by
  obtain⟨a,b⟩:=zh9 n;refine⟨λX S d C e g h=>?_,λX S d C e g h=>?_⟩
  ·rw [compE] at h
   cases q:orX (extE (compE n) S e) (zz5 (compE n) (compT n) S e) with
   |none=>rw[q] at h;obtain rfl:=sI h;exact zvj
   |some g'=>rw[q] at h;obtain rfl:=sI h;exact zuc (z7a a C) (z16 a b X S d C) e _ q
  ·rw [compT] at h
   cases q:z7s (compE n) (compT n) S e with
   |none=>rw[q] at h;obtain rfl:=sI h;exact zra
   |some g'=>rw[q] at h;obtain rfl:=sI h;exact z15 a b X S d C e _ q
section
variable {X:Cx}{pos:Pos}
end
section
variable {K:PySem.W.Frag}{mp:List Nat}{D:Ends}{σ:St}{H:Hp}
end
section
variable {X:Cx}{S:Sx}{d:Nat}{fE:Sx->Expr->Option GE}
end
section
variable {X:Cx}{S:Sx}{d:Nat}{fE:Sx->Expr->Option GE}
theorem z9n {o k e:Expr}{p:Pos}{env:Env}:swappedStores [.Subscript o k p] e env=pure none:=by
 cases e<;>rfl
theorem zz4 {o k e:Expr}{p:Pos}{l:Nat}{env:Env}:swapsWithSole [.Subscript o k p] e l env=pure false:=by
 cases e<;>rfl
theorem zso {o k:Expr}{p:Pos}{env:Env} (h:zeg k=true):∀v,assign (.Subscript o k p) env v=(do
  let ov <- holding [v] (eval o env)
  let iv <- holding [v,ov] (eval k env)
  standAt p
  holding [v,ov,iv] (setItem ov iv v)
  release [v,ov,iv] []):=by
 intro v;cases k<;>first|rfl|(cases h)
end
noncomputable def zb2 (mp:List Nat) (i:Nat):GS:=λen=>match en[i]? with
 |some (#v[w,5])=>if mp.contains i then none else some (en.set i none,.ret (w,true))
 |some (#v[w,6])=>some (en,.ret (w,false))
 |_=>none
theorem Rel.drop {K:PySem.W.Frag}{F H:Hp}{pr:Prt}{en:En}{σ:St}(R:Rel K F pr en σ H){i:Nat}{w:W}(e:en[i]?=some (#v[w,5])):∃v,σ[i]?=some (some v)/\Rel K F pr (en.set i none) σ H/\Res K F H pr (en.set i none) σ (w,true) v:=by
 have hi:i<en.length:=(Ak.mp e).1;nofun;obtain⟨a,vs,ws,h1,h2,h3,h4,h5⟩:=R.own i w e;ac_rfl;have g:∀(j:Nat) (x:W×Bool),(en.set i none)[j]?=some (some x)->j≠i/\en[j]?=some (some x):=λj x h=>by
  rcases zfh hi h with⟨_,q⟩|z
  ·cases q
  ·exact z
 refine⟨_,h2,⟨by rw[Ek];exact R.len,R.sub,λj u q=>R.val j u (g j _ q).2,λj u q=>R.own j u (g j _ q).2,λj k b u u' q q'=>R.inj j k b u u' (g j _ q).2 (g k _ q').2,λb o q=>⟨(R.prt b o q).1,(R.prt b o q).2.1,λj u z=>(R.prt b o q).2.2 j u (g j _ z).2⟩,R.tb⟩,a,vs,ws,h1,rfl,h3,h4,h5,λj u q z=>?_,λb o q z=>?_⟩
 ·exact (g j _ q).1 (R.inj j i a _ _ (g j _ q).2 e z h2)
 ·subst z;exact (R.prt b o q).2.2 i w e h2
theorem zvq {K:PySem.W.Frag}{mp:List Nat}{D:Ends}{σ:St}{H:Hp}{i:Nat}(h:tS K mp (zb2 mp i) D σ H):tRet (tVar i) D σ H:=by
 obtain⟨F,pr,en,en',fl,R,h,q⟩:=h;unfold zb2 at h;split at h
 ·rename_i w e;split at h
  ·exact noSome h
  ·cases h;obtain⟨v,hv,R',z⟩:=R.drop e;exact⟨v,hv,q F σ H v (.refl F) R' (.refl _ _) z⟩
 ·rename_i w e;cases h;obtain⟨v,hv,z⟩:=R.val i w e;exact⟨v,hv,q F σ H v (.refl F) R (.refl _ _) z⟩
 ·exact noSome h
def z0c (f:Sx->Stmt->Option GS):Prop:=∀X S d,CxOk X S d->∀st g,f S st=some g->PS X st (tS X.K S.mp g)
def blk (f:Sx->Stmt->Option GS) (S:Sx):List Stmt->Option GS
 |[]=>some zbq
 | st::sts=>match sts with
  |[]=>f S st
  |_::_=>(f S st).bind λa=>(blk f S sts).bind λb=>some (gSeq a b)
noncomputable def zkh (S:Sx) (x:Str) (px:Pos) (scope:Scope) (pos:Pos):Bool:=S.kd.lookup x==some .local&&px.line==pos.line && !#v[5,11]
noncomputable def zp8 (S:Sx) (x:Str):Bool:=S.top&&S.kd.lookup x==some .cell
noncomputable def z5c:Expr->Bool
 |.Tuple ..=>true
 |_=>false
noncomputable def zfc:Nat:=4096
def asgE (fE:Sx->Expr->Option GE) (fT:Sx->Expr->Option GT) (S:Sx) (tg e:Expr):Option GS:=match tg with
 | .Name x px=>(S.wr x).bind λi=>(match e with
  |.ListComp elt gens scope pos=>(zwd fE fT S elt gens scope).bind λg=>if zkh S x px scope pos||zp8 S x then some (gSet S.mp i g) else none
  |e=>if zha e then (fE S e).bind λg=>some (gSet S.mp i g) else none)
 |.Tuple es _ _=>(if z5c e then none else (zhk S es).bind λis=>(fE S e).bind λg=>some (gAsg S.mp (.tp is) g))
 | .Subscript o k _=>(match o with
  |.Name x _=>if zeg k then (S.rd x).bind λi=>(fE S k).bind λgk=>(fE S e).bind λg=>some (za9 i gk g) else none
  |_=>none)
 |_=>none
def ztk (mp:List Nat) (i:Nat) (g:GE):GS:=λen=>match en[i]? with
 |some (#v[_,2])=>z53 mp i g en
 |_=>gAug mp #v[4,11] i (gArg g) en
theorem zxj {K:PySem.W.Frag}{mp:List Nat}{D:Ends}{σ:St}{H:Hp}{i:Nat}{r:R2}{g:GE}(ho:OpS K r #v[4,11])(h:tS K mp (ztk mp i g) D σ H):tAug i (tE K g) z4f D σ H\/tAug i (tA K (gArg g)) r D σ H:=by
 obtain⟨F,pr,en,en',fl,R,h,q⟩:=h;unfold ztk at h;split at h
 ·exact .inl (zwt ⟨F,pr,en,en',fl,R,h,q⟩)
 ·exact .inr (zqo ho ⟨F,pr,en,en',fl,R,h,q⟩)
noncomputable def zq2:Expr->Bool
 |.Constant ..=>false
 |_=>true
def z5r (fS:Sx->Stmt->Option GS) (fE:Sx->Expr->Option GE) (fT:Sx->Expr->Option GT) (S:Sx) (st:Stmt):Option GS:=match st with
 | .Return o _=>(match o with
  |none=>none
  | some e=>(match e with
   |.Name x _=>(S.rd x).bind λi=>some (zb2 S.mp i)
   |e=>(fE S e).bind λg=>some (gRet g)))
 |.If c a b _=>(fT S c).bind λt=>(blk fS S a).bind λx=>(blk fS S b).bind λy=>some (gIfS t x y)
 | .For tg it body els _=>(match els with
  |[]=>(zpn fE S tg it).bind λgi=>(tgE S tg).bind λT=>(blk fS S body).bind λg=>some (gFor S.mp T gi g)
  |_=>none)
 | .While c body els _=>(match els with
  |[]=>(fT S c).bind λt=>(blk fS S body).bind λg=>some (zdz t g zfc)
  |_=>none)
 |.Pass _=>some zbq
 |.Expr e _=>if zha e then (fE S e).bind λg=>some (zeq g) else none
 | .Assign ts e _=>(match ts with
  |[tg]=>asgE fE fT S tg e
  |_=>none)
 | .AugAssign tg op e _=>(match tg with
  |.Name x _=>if op==.Add&&zq2 e then (S.wr x).bind λi=>(fE S e).bind λg=>some (ztk S.mp i g) else (S.wr x).bind λi=>(augO op).bind λo=>(zax fE S e).bind λa=>some (gAug S.mp o i a)
  |_=>none)
 |_=>none
section
variable {X:Cx}{S:Sx}{d:Nat}{fS:Sx->Stmt->Option GS}{fE:Sx->Expr->Option GE}{fT:Sx->Expr->Option GT}
theorem zji (HS:z0c fS) (C:CxOk X S d):∀{sts:List Stmt}{g:GS},blk fS S sts=some g->PSs X sts (tS X.K S.mp g)
 |[],_,h=>by obtain rfl:=sI h;exact z65.wk λ_ _ _=>zn2
 |[st],_,h=>z5x (HS X S d C _ _ h)
 | st::st'::sts,_,h=>by
  obtain⟨a,ha,h⟩:=bS (show (fS S st).bind _=_ from h);obtain⟨b,hb,h⟩:=bS h;obtain rfl:=sI h;exact (z1l (HS X S d C _ _ ha) (zji HS C hb)).wk λ_ _ _=>zz0
theorem ydq (C:CxOk X S d){x:Str}{px pos:Pos}{elt:Expr}{gens:List Comprehension}{scope:Scope}{l:Nat}(h:zkh S x px scope pos=true):swapsWith #v[5,9] (some (.Name x px)) l X.env=pure true:=by
 unfold zkh at h;rw[Ad,Ad] at h;have h1:X.env.kindOf x=some .local:=C.loc x (by simpa using h.1.1);show (pure (X.env.blockKind==.function&&X.env.kindOf x==some .local&&px.line==pos.line && !#v[5,11]):Sem Bool)=pure true;rw[C.bk,h1,h.1.2,h.2]
 rfl
theorem swNo (C:CxOk X S d){x:Str}{px pos:Pos}{elt:Expr}{gens:List Comprehension}{scope:Scope}{l:Nat}(h:zp8 S x=true):swapsWith #v[5,9] (some (.Name x px)) l X.env=pure false:=by
 unfold zp8 at h;rw[Ad] at h;have h1:X.env.kindOf x=some .cell:=(C.cel x (by simpa using h.2)).1;show (pure (X.env.blockKind==.function&&X.env.kindOf x==some .local&&px.line==pos.line && !#v[5,11]):Sem Bool)=pure false;rw[h1];have:(some NameKind.cell==some NameKind.local)=false:=rfl;rw[this,Gz,Ey,Ey]
theorem z0i {e:Expr}{es:List Expr}{kt:Nat}{p:Pos}{env:Env}(h:z5c e=false):swappedStores [.Tuple es kt p] e env=pure none:=by
 cases e with
 |Tuple _ _ _=>cases h
 |_=>rfl
theorem z0e {es:List Expr}{kt:Nat}{p:Pos}{e:Expr}{l:Nat}{env:Env}:swapsWithSole [.Tuple es kt p] e l env=pure false:=by
 cases e<;>rfl
theorem z4i (HE:zbu fE) (HT:zm5 fT) (C:CxOk X S d) {tg e:Expr}{g:GS}{pos:Pos} (h:asgE fE fT S tg e=some g):PS X (.Assign [tg] e pos) (tS X.K S.mp g):=by
 cases tg with
 | Name x px =>
  refine aG λ_ qG=>?_;obtain ⟨i,hi,h⟩:=bS (show (S.wr x).bind _=_ from h);obtain ⟨w1,w2,w3⟩:=zwm C hi;refine qG ?_;clear qG;have plain:(if zha e then (fE S e).bind λg=>some (gSet S.mp i g) else none)=some g->PS X (.Assign [.Name x px] e pos) (tS X.K S.mp g):=λh=>by
   split at h
   ·rename_i z
    obtain⟨ge,hg,h⟩:=bS h;obtain rfl:=sI h;exact (z3l (ndN C) w1 w2 (HE X S d C _ _ hg) (zq1 z) w3).wk λ_ _ _=>zlh
   ·exact noSome h
  cases e with
  | ListComp elt gens scope pc =>
   obtain⟨ge,hg,h⟩:=bS (show (zwd fE fT S elt gens scope).bind _=_ from h);have cp:=zh5 HE HT C hg;split at h
   ·rename_i z
    obtain rfl:=sI h;rw[Co] at z;rcases z with z|z
    ·refine aG λGg qG => ?_
     obtain ⟨tg,iter,ifs,gs,gi,T,tc,em,tm,e1,e2,so,pi,pf,pg,pt,pe,rd⟩:=cp.ex;refine qG ?_;clear qG;subst e1;exact (z42 (ndN C) w1 w2 pi pg pt (pe pc) (e2 pc) (ydq C z) C.calm so.kind so.cap so.fr so.nc so.nm pf w3).wk λD σ H q=>by
      have q':=zlh q;exact rd _ _ _ q'
    ·exact (z3l (ndN C) w1 w2 (zwy C cp) (swNo C z) w3).wk λ_ _ _=>zlh
   ·exact noSome h
  |_=>exact plain h
 | Tuple es kt p =>
  have gen:(if z5c e then none else (zhk S es).bind λis=>(fE S e).bind λg=>some (gAsg S.mp (.tp is) g))=some g->PS X (.Assign [.Tuple es kt p] e pos) (tS X.K S.mp g):=λh=>by
   split at h
   ·exact noSome h
   ·rename_i z
    nofun;obtain⟨is,his,h⟩:=bS h;obtain⟨ge,hg,h⟩:=bS h;ac_rfl;obtain rfl:=sI h;obtain⟨a,b,c⟩:=zjc C _ his;exact (z35 (HE X S d C _ _ hg) (zwi C.calm a b c) z0e (z0i (by simpa using z)) rfl).wk λ_ _ _=>z19
  exact gen h
 | Subscript o k p =>
  cases o with
  | Name x px =>
   have h':(if zeg k then (S.rd x).bind λi=>(fE S k).bind λgk=>(fE S e).bind λg=>some (za9 i gk g) else none)=some g:=h;split at h'
   ·rename_i z
    nofun;obtain⟨i,hi,h⟩:=bS h';obtain⟨gk,hgk,h⟩:=bS h;obtain⟨ge,hg,h⟩:=bS h;ac_rfl;obtain rfl:=sI h;exact (z35 (HE X S d C _ _ hg) (z8i (zs5 C hi) (HE X S d C _ _ hgk) zzq (zso z)) zz4 z9n rfl).wk λ_ _ _=>zsf
   ·exact noSome h'
  |_=>exact noSome h
 |_=>exact noSome h
theorem zz9 (HS:z0c fS) (HE:zbu fE) (HT:zm5 fT):z0c (z5r fS fE fT):=λX S d C st g h=>by
 have pn:PassesOwn #v[1,7] X.A X.env X.xe:=by rw[C.xe];exact PassesOwn.never
 cases st with
 | Return o p =>
  cases o with
  |none=>cases h
  | some e =>
   have gen:((fE S e).bind λg=>some (gRet g))=some g->PS X (.Return (some e) p) (tS X.K S.mp g):=λh=>by
    obtain⟨ge,hg,h⟩:=bS h;obtain rfl:=sI h;exact (z3f (HE X S d C _ _ hg)).wk λ_ _ _=>zqx
   cases e with
   | Name x px =>
    obtain⟨i,hi,h⟩:=bS (show (S.rd x).bind _=_ from h);obtain rfl:=sI h;exact (z3f (zs5 C hi)).wk λ_ _ _=>zvq
   |_=>exact gen h
 | If c a b p =>
  obtain⟨t,ht,h⟩:=bS (show (fT S c).bind _=_ from h);obtain⟨x,hx,h⟩:=bS h;obtain⟨y,hy,h⟩:=bS h;obtain rfl:=sI h;exact (yd9 (HT X S d C _ _ ht) (zji HS C hx) (zji HS C hy)).wk λ_ _ _=>z0l
 | For tg it body els p =>
  cases els with
  |cons _ _=>exact noSome h
  | nil =>
   obtain⟨gi,hgi,h⟩:=bS (show (zpn fE S tg it).bind _=_ from h);obtain⟨T,hT,h⟩:=bS h;obtain⟨gb,hb,h⟩:=bS h;obtain rfl:=sI h;obtain⟨pi,pf⟩:=zfg HE C hgi;exact (yb6 pn C.calm pi (zqz C hT) (zji HS C hb) pf).wk λ_ _ _=>z1e
 | While c body els p =>
  cases els with
  |cons _ _=>exact noSome h
  | nil =>
   obtain⟨t,ht,h⟩:=bS (show (fT S c).bind _=_ from h);obtain⟨gb,hb,h⟩:=bS h;obtain rfl:=sI h;exact (z0h pn (HT X S d C _ _ ht) (zji HS C hb)).wk λ_ _ _=>zsn
 |Pass p=>obtain rfl:=sI h;exact z6d.wk λ_ _ _=>zn2
 | Expr e p =>
  have h':(if zha e then (fE S e).bind λg=>some (zeq g) else none)=some g:=h;split at h'
  ·rename_i z
   obtain⟨ge,hg,h⟩:=bS h';obtain rfl:=sI h;exact (z70 (HE X S d C _ _ hg) (zq1 z)).wk λ_ _ _=>ztq
  ·exact noSome h'
 | Assign ts e p =>
  match ts,h with
  |[tg],h=>exact z4i HE HT C h
  |[],h=>exact noSome h
  |_::_::_,h=>exact noSome h
 | AugAssign tg op e p =>
  cases tg with
  | Name x px =>
   have h':(if (op==.Add&&zq2 e)=true then (S.wr x).bind λi=>(fE S e).bind λg=>some (ztk S.mp i g) else (S.wr x).bind λi=>(augO op).bind λo=>(zax fE S e).bind λa=>some (gAug S.mp o i a))=some g:=h;split at h'
   ·rename_i z
    rw[Ad] at z;have eo:op=.Add:=by simpa using z.1
    subst eo;obtain⟨i,hi,h⟩:=bS h';obtain⟨ge,hg,h⟩:=bS h;obtain rfl:=sI h;obtain⟨w1,w2,w3⟩:=zwm C hi;have pe:=HE X S d C _ _ hg;intro pins s σ H D I q;rcases zxj (zcg λ_ _ _=>.int _) q with q|q
    ·exact zva (ndN C) w1 w2 pe z4q w3 pins s σ H D I q
    ·exact zva (ndN C) w1 w2 (pe.wk λ_ _ _=>zgl) zwu w3 pins s σ H D I q
   ·obtain ⟨i,hi,h⟩:=bS h'
    obtain⟨o,ho,h⟩:=bS h;obtain⟨a,ha,h⟩:=bS h;obtain rfl:=sI h;obtain⟨w1,w2,w3⟩:=zwm C hi;obtain⟨r,h1,h2⟩:=z7q (X:=X) ho;exact (zva (ndN C) w1 w2 (zaf HE C ha) h1 w3).wk λ_ _ _=>zqo h2
  |_=>exact noSome h
 |_=>exact noSome h
end
noncomputable def zu9:GS:=λ_=>none
def zv4:Nat->Sx->Stmt->Option GS
 |0,_,_=>some zu9
 |n+1,S,st=>some ((z5r (zv4 n) (compE n) (compT n) S st).getD zu9)
theorem zr7 {X:Cx}{st:Stmt}{mp:List Nat}:PS X st (tS X.K mp zu9):=λ_ _ _ _ _ _ q=>by obtain⟨_,_,_,_,_,_,h,_⟩:=q;exact noSome h
theorem zi8:∀n,z0c (zv4 n)
 |0=>λ_ _ _ _ _ _ h=>by obtain rfl:=sI h;exact zr7
 | n+1=>λX S d C st g h=>by
  rw[zv4] at h;cases q:z5r (zv4 n) (compE n) (compT n) S st with
  |none=>rw[q] at h;obtain rfl:=sI h;exact zr7
  |some g'=>rw[q] at h;obtain rfl:=sI h;exact zz9 (zi8 n) (zh9 n).1 (zh9 n).2 X S d C st _ q
structure Fd where
 nm:Str
 ps:List Str
 N:List Str
 m:List Bool
 st:Stmt
noncomputable def deep:Nat:=60
def sxOf (T:List Fd) (bn:List Str) (Ψ:Str->Fn) (d:Nat) (t:Fd):Sx:={ N:=t.N,kd:=(zaq t.st).names,bn:=bn,fs:=T.map λu=>(u.nm,(u.m,Ψ u.nm)),mp:=mpOf t.m,top:=true,nm:=t.nm,dp:=d }
def zal (T:List Fd) (bn:List Str) (Ψ:Str->Fn) (d:Nat) (t:Fd):Option GS:=blk (zv4 deep) (sxOf T bn Ψ d t) (zdx t.st)
noncomputable def fnAt (T:List Fd) (bn:List Str) (Ψ:Str->Fn) (d:Nat) (t:Fd):Fn:=match zal T bn Ψ d t with
 |some g=>zae t.m t.N.length g
 |none=>λ_=>none
def sem (T:List Fd) (bn:List Str):Nat->Str->Fn
 |0,_=>λ_=>none
 | d+1,x=>match T.find? (·.nm==x) with
  |some t=>fnAt T bn (sem T bn d) d t
  |none=>λ_=>none
noncomputable def z1a (K:PySem.W.Frag) (x:Str):Bool:=match PySem.W.tabIn K x with
 |some (c,P)=>PySem.W.codeHdIn K c P
 |none=>false
theorem Fun.okC {P:Program}{w:World}{K:PySem.W.Frag}{mg:Str->Option Value}{base:Heap}{x qual:Str}{st:Stmt}{f:Addr}{fd:FuncData}{N ps:List Str}{k:Nat}{sp:Sp} (F:Fun K x qual st f fd) (S:FnScope N ps (zaq st)) (len:∀vs H Q E,sp vs H Q E->vs.length=ps.length)
  (hbody:∀(A:Around) (outer:List Env) (s:Shared) (H:Hp) (vs:List V) (Q:VK) (E:XK),(Room k (A.deeper (envOfC qual (zaq st) s.heap.objs.size f fd.code))/\Room (k+1) A)->sp vs H Q E ->
   ∃t,PSs (cxOf CX0 P w K mg base N qual (zaq st) f fd.code A outer s H E).nox (zdx st) t/\t { nx:=λ_ H'=>Q .non H',rt:=Q } (start N vs) H):FnOk P w K mg base CX0 (k+1) f fd ps sp:=by
 nofun;obtain⟨oc,od,kV,doc,pm,an,cdv,ct,osl,rfl,lk,hcd⟩:=F.ex;ac_rfl;refine ydt lk hcd S len λA outer s H vs Q E hr hsp=>?_;obtain⟨t,h,q⟩:=hbody A outer s H vs Q E hr hsp;exact⟨t,h.nox,q⟩
structure FdOk (K:PySem.W.Frag) (mg:Str->Option Value) (t:Fd):Prop where
 sc:FnScope t.N t.ps (zaq t.st)
 m:t.m.length=t.ps.length
 ex:∃f fd,Fun K t.nm t.nm t.st f fd/\zpo K fd t.ps []/\mg t.nm=some (.ref f)
 lam:t.nm∈lams->z1a K t.nm=true
theorem ztb {T:List Fd}{Ψ:Str->Fn}{x:Str}{m:List Bool}{Φ:Fn} (h:(T.map λu=>(u.nm,(u.m,Ψ u.nm))).lookup x=some (m,Φ)):∃t∈T,t.nm=x/\t.m=m/\Φ=Ψ x:=by
 induction T with
 |nil=>exact noSome h
 | cons t T ih =>
  rw[Am,Bh] at h;cases q:x==t.nm with
  | true =>
   rw[q] at h;cases h;have:=Bj q;subst this;exact⟨t,Ax,rfl,rfl,rfl⟩
  | false =>
   rw[q] at h;obtain⟨u,h1,h2⟩:=ih h;exact⟨u,As _ h1,h2⟩
theorem z7z {T:List Fd} (nd:(T.map (·.nm)).Nodup) {t:Fd} (h:t∈T):T.find? (·.nm==t.nm)=some t:=by
 induction T with
 |nil=>cases h
 | cons u T ih =>
  rw[Am,Df] at nd;rw[Dg];rcases Ap.mp h with rfl|h
  ·simp
  ·have:(u.nm==t.nm)=false:=by
    cases q:u.nm==t.nm with
    |false=>rfl
    |true=>exact absurd (Bf.mpr ⟨t,h,(Bj q).symm⟩) nd.1
   rw[this];exact ih nd.2 h
theorem zxo {P:Program}{w:World}{K:PySem.W.Frag}{mg:Str->Option Value}{base:Heap}{T:List Fd}{bn:List Str} (nd:(T.map (·.nm)).Nodup) (ok:∀t∈T,FdOk K mg t) (hb:∀x∈bn,mg x=none) (kb:K.In base) (nb:base.Ns mainGlobals mg) :
  ∀(d:Nat) (t:Fd),t∈T->∀f fd,Fun K t.nm t.nm t.st f fd->mg t.nm=some (.ref f)->FnOk P w K mg base CX0 d f fd t.ps (spF K t.m (sem T bn d t.nm))
 |0,t,_,f,fd,_,_=>⟨λvs H Q E h=>(by obtain⟨_,_,_,_,_,_,_,_,h,_⟩:=h;cases h),λA outer s H args us vs Q E hr he hbi hv h=>(by obtain⟨_,_,_,_,_,_,_,_,h,_⟩:=h;cases h)⟩
 | d+1,t,ht,f,fd,F,M=>by
  have o:=ok t ht;refine F.okC (k:=d) o.sc (λvs H Q E h=>(zxl h).trans o.m) (λA outer s H vs Q E hr h=>?_);have es:sem T bn (d+1) t.nm=fnAt T bn (sem T bn d) d t:=by
   show (match T.find? (·.nm==t.nm) with|some t=>fnAt T bn (sem T bn d) d t|none=>λ_=>none)=_;rw[z7z nd ht]
  rw[es] at h;unfold fnAt at h;cases e:zal T bn (sem T bn d) d t with
  | none =>
   rw[e] at h;nofun;obtain⟨_,_,_,_,_,_,_,_,h,_⟩:=h;ac_rfl;exact noSome h
  | some g =>
   rw [e] at h;have C:CxOk (cxOf CX0 P w K mg base t.N t.nm (zaq t.st) f fd.code A outer s H E).nox (sxOf T bn (sem T bn d) d t) d:={
    N:=rfl
    nd:=o.sc.nd
    loc:=λx e=>e
    cel:=λx e=>⟨e,rfl⟩
    vis:=λx e=>e
    gl:=λx e=>e
    calm:=rfl
    xe:=rfl
    bn:=hb
    fs:=λx m Φ e=>by
     nofun;obtain⟨u,hu,e1,e2,e3⟩:=ztb e;ac_rfl;subst e1 e2 e3;nofun;obtain⟨fa,fb,F',B',M'⟩:=(ok u hu).ex;ac_rfl;exact⟨u.ps,(ok u hu).m.symm,⟨fa,fb,zxo nd ok hb kb nb d u hu fa fb F' M',B',F'.kp,M'⟩⟩
    room:=hr.1
    sl:=by have:=hr.2.un;show A.units+3+16*d+205<cLine;omega
    dpo:=Af _
    lam:=λh=>by
     have q:=o.lam h;unfold z1a at q;split at q
     ·rename_i c Pt e
      refine⟨c,Pt,e,q,?_,rfl⟩;nofun;obtain⟨oc,od,kV,doc,pm,an,cdv,ct,osl,e1,lk,hcd⟩:=F.ex;ac_rfl;exact PySem.W.law_code kb nb e M (kb _ _ lk) rfl
     ·cases q
    bk:=by
     show (if (zaq t.st).kind.isAnnotationScope then ScopeKind.function else (zaq t.st).kind)=.function;rw[o.sc.kind];rfl }
   exact⟨_,zji (zi8 deep) C e,zut h⟩
theorem zsv {K:PySem.W.Frag}{F H:Hp}{a:Addr}{ns:List Int}{Φ:Fn}{ws':List W}(hs:Same F H)(tb:ztd K F (λ_ _=>False) H)(h:SqL K F a (ns.map V.int))(e:Φ [.frl (ns.map W.int)]=some (ws',#v[1,11]))(hl:ws'.length=1){E:XK}:spF K [false] Φ [.ref a] H (λv _=>v=.bl true) E:=by
 refine⟨F,λ_ _=>False,_,ws',_,rfl,hl,⟨rfl,hs,λi w q=>?_,λi w q=>?_,λi j a w w' q=>?_,λb o q=>q.elim,tb⟩,e,λF' H' v _ _ z=>?_⟩
 ·cases i with
  |zero=>cases q;exact⟨_,rfl,.frl h (Reps.ofInts ns)⟩
  |succ i=>cases i<;>exact noSome q
 ·cases i with
  |zero=>cases q
  |succ i=>cases i<;>exact noSome q
 ·cases i with
  |zero=>cases q
  |succ i=>cases i<;>exact noSome q
 ·exact z.isBl
def tabsOf (K:PySem.W.Frag):List Addr:=lams.filterMap λx=>(PySem.W.tabIn K x).map (·.2)
theorem zjp {K:PySem.W.Frag}{b:Addr}:b∈tabsOf K↔∃x∈lams,∃c,PySem.W.tabIn K x=some (c,b):=by
 unfold tabsOf;rw[List.mem_filterMap];constructor
 ·rintro ⟨x,hx,e⟩;cases q:PySem.W.tabIn K x with
  |none=>rw[q] at e;exact noSome e
  |some p=>rw[q] at e;obtain rfl:=sI e;exact⟨x,hx,p.1,q⟩
 ·rintro ⟨x,hx,c,e⟩;exact⟨x,hx,by rw[e];rfl⟩
noncomputable def z8h (K:PySem.W.Frag) (h:Heap):Prop:=∀x∈lams,∀c P,PySem.W.tabIn K x=some (c,P)->PySem.W.CodeHd h c P/\h.get? P=some (PySem.W.tabObj #[])
structure Start (K:PySem.W.Frag) (F H:Hp):Prop where
 sub:Same F H
 tb:ztd K F (λ_ _=>False) H
theorem zvy {P:Program}{w:World}{K:PySem.W.Frag}{mg mb:Str->Option Value}{CX:CXT}{k:Nat}{fa a:Addr}{fd:FuncData}{x:Str}{sp:Sp}{s₁:Shared}{vs:List Value}{ns:List Int}
  (KX:K.In s₁.heap) (nt:PySem.W.noTabs K=true) (nd:z43 K) (hT:z8h K s₁.heap) (hns:s₁.heap.Ns mainGlobals mg) (hb:s₁.heap.Ns builtinsNs mb) (hbb:∀x:Str,x≠"__name__" -> mb x=bootBuiltins x) (hlim:s₁.heap.NoLimit) (hbm:∃(b:Addr) (ob:Obj),mg "__builtins__" = some (.ref b)/\b≠builtinsNs/\s₁.heap.get? b=some ob/\ob.cls=.type "module"/\ob.dict=some builtinsNs/\ob.data=.plain) (hg:s₁.gens=#[])
  (ha:s₁.heap.get? a=some { cls:=.type "list",data:=.seq vs.toArray }) (hi:IntsAre vs ns) (hl:ns.length<=sizeLine) (hr:Room k callerA)
  (Fk:∀base:Heap,K.In base->base.Ns mainGlobals mg->FnOk P w K mg base CX k fa fd [x] sp) (hbind:∀(s:Shared) (u:Value),BindsTo s fd ⟨[u],[]⟩ [(x,u)])
  (hsp:∀F H:Hp,Start K F H->SqL K F a (ns.map V.int)->sp [.ref a] H (λv _=>v=.bl true) λ_ _ _=>False)
  (hCX:∀H e s',CX [] H s₁ (λ_ _ _=>False) e s'->False) :
  codeAny (model P w) callerA (.call (.ref fa) ⟨[.ref a],[]⟩) (λr s'=>r=.ok (.ret (.bool true))/\OldK s₁.heap s'.heap/\s'.os=s₁.os/\AllBare s'.gens) s₁:=by
 have rv:=zl8 hi;have lenV:=hi.length;have tabAt:∀b∈tabsOf K,s₁.heap.get? b=some (PySem.W.tabObj #[]):=λb h=>by
  nofun;obtain⟨x,hx,c,e⟩:=zjp.mp h;ac_rfl;exact (hT x hx c b e).2
 have na:a ∉ tabsOf K:=λh=>by
  have:=tabAt a h;rw[ha] at this;cases this
 have core:∀F H:Hp,(∀b,H b=none\/(b∈tabsOf K/\H b=some (.tbl #[])/\F b=none)\/(b=a/\K.lookup a=none/\F b=H b/\∃o xs,H b=some (.frz o (.lst xs))))->(∀b,H b=none->F b=none)->(∀b∈tabsOf K,H b=some (.tbl #[]))->SqL K F a (ns.map V.int)->HOk P w H s₁.heap ->
   codeAny (model P w) callerA (.call (.ref fa) ⟨[.ref a],[]⟩) (λr s'=>r=.ok (.ret (.bool true))/\OldK s₁.heap s'.heap/\s'.os=s₁.os/\AllBare s'.gens) s₁:=by
  intro F H hO hF hB hS hok;have base_of:∀{b:Addr}{o:Obj},s₁.heap.get? b=some o->H b=none->(hidT s₁.heap H).get? b=some o:=λe n=>z08 e n;have noA:∀{b:Addr}{o:Obj}{es:Array DictEntry}{ep:Nat},s₁.heap.get? b=some o->o.data=.dict es ep->H b=none:=λ{b o es ep} e d=>by
   rcases hO b with z|⟨z,_⟩|⟨z,_⟩
   ·exact z
   ·rw[tabAt b z] at e;obtain rfl:=sI e;cases d
   ·subst z
    rw[ha] at e;obtain rfl:=sI e;have d':Data.seq vs.toArray _=Data.dict es ep:=d;cases d'
  have nsK:∀{b:Addr}{m:Str->Option Value},s₁.heap.Ns b m->(hidT s₁.heap H).Ns b m:=λ{b m} ⟨o,es,ep,e,d,r⟩=>⟨o,es,ep,base_of e (noA e d),d,r⟩;have hKb:K.In (hidT s₁.heap H):=λb o e=>base_of (KX b o e) (by
   rcases hO b with z|⟨z,_⟩|⟨z,n,_⟩
   ·exact z
   ·have e2:=KX b o e
    rw[tabAt b z] at e2;obtain rfl:=sI e2;have:=Bd.mp nt (b,_) (PySem.W.mem_of_lookupK e);exact absurd (show false=true from this) Ar
   ·subst z
    rw[n] at e;cases e)
  have hM:Mod K mg (hidT s₁.heap H):=⟨hKb,nsK hns,⟨mb,nsK hb,hbb⟩,let ⟨mc,h1,h2⟩:=hlim;⟨mc,nsK h1,h2⟩,by
   nofun;obtain⟨b,ob,b1,b2,b3,b4,b5,b6⟩:=hbm;ac_rfl;refine⟨b,ob,b1,b2,base_of b3 ?_,b4,b5,b6⟩;rcases hO b with z|⟨z,_⟩|⟨z,_⟩
   ·exact z
   ·rw[tabAt b z] at b3;obtain rfl:=sI b3;cases b4
   ·subst z;rw[ha] at b3;obtain rfl:=sI b3;exact absurd b4 (by simp)⟩
  have e0:Env0 P w K mg (hidT s₁.heap H) callerA [] s₁ H:=⟨rfl,hM,λb o e=>z5y e,Nat.le_of_eq (zym _ _),trivial,λb hb=>absurd (show b∈([]:List Addr) from hb) (by simp),hok,.of_eq hg⟩;have st:Start K F H:=⟨λb o e=>by
   rcases hO b with z|⟨_,_,z⟩|⟨_,_,z,_⟩
   ·rw[hF b z] at e;cases e
   ·rw[z] at e;cases e
   ·rw[<-z];exact e,⟨nd,λx hx c Pt e=>by
   have hm:Pt∈tabsOf K:=zjp.mpr ⟨x,hx,c,e⟩;refine⟨#[],hB Pt hm,?_,λ_ z=>z,trivial,λpos cv q=>by cases q⟩;rcases hO Pt with z|⟨_,_,z⟩|⟨z,_⟩
   ·exact hF Pt z
   ·exact z
   ·subst z;exact absurd hm na⟩⟩
  refine Hb ((Fk _ hKb (nsK hns)).run callerA [] s₁ H ⟨[.ref a],[]⟩ [.ref a] [.ref a] _ _ hr e0 (hbind s₁ (.ref a)) (.cons rfl .nil) (hsp F H st hS)) λr s' h=>?_;cases r with
  |error e=>exact (hCX H e s' h).elim
  | ok fl =>
   cases fl with
   |next=>exact False.elim h
   |brk=>exact False.elim h
   |cont=>exact False.elim h
   | ret u =>
    nofun;obtain⟨v,H',os,bare,un,hok',r',q⟩:=h;ac_rfl;have q':v=.bl true:=q;subst q';obtain rfl:u=Value.bool true:=r';refine⟨rfl,⟨λb o e=>?_,λb o e=>un.there b o e (by simp)⟩,os,bare⟩;rcases hO b with z|⟨z,z1,_⟩|⟨_,_,_,ob,xs,z⟩
    ·exact .inl (un.keep b o e z (by intro y;exact absurd (show b∈([]:List Addr) from y) (by simp)) (by simp))
    ·refine aG λGg qG => ?_
     obtain⟨x,hx,c,ex⟩:=zjp.mp z;obtain⟨t1,t2⟩:=hT x hx c b ex;ac_rfl;rw[e] at t2;obtain rfl:=sI t2;obtain⟨more,e2⟩:=un.tbls b #[] z1;exact .inr (.inl ⟨(t1.tab e).isCodeTable,rfl,#[],more,rfl,hok' b _ e2⟩)
    ·have z2:=un.frzs b ob _ z
     obtain⟨e1,_⟩:=hok b _ z;obtain⟨e2,_⟩:=hok' b _ z2;rw[e] at e1;obtain rfl:=sI e1;exact .inl e2
 have tOk:∀b,b∈tabsOf K->∀H,zaz P w H s₁.heap b (.tbl #[]):=λb h H=>tabAt b h;cases hk:K.lookup a with
 | some o =>
  have e:=KX a o hk;rw[ha] at e;obtain rfl:=sI e;refine core (λ_=>none) (λb=>if b∈tabsOf K then some (.tbl #[]) else none) (λb=>?_) (λ_ _=>rfl) (λb h=>if_pos h) (.inr ⟨_,vs.toArray,_,hk,rfl,rfl,rfl,by rw[Ah,lenV];exact hl,by simpa using rv⟩) (λb u z=>?_)
  ·by_cases h:b∈tabsOf K
   ·exact .inr (.inl ⟨h,if_pos h,rfl⟩)
   ·exact .inl (if_neg h)
  ·by_cases h:b∈tabsOf K
   ·have z':=(if_pos h).symm.trans z
    obtain rfl:=sI z';exact tOk b h _
   ·have z':=(if_neg h).symm.trans z
    cases z'
 | none =>
  refine core (λb=>if b=a then some (.frz { cls:=.type "list",data:=.seq vs.toArray } (.lst (ns.map V.int))) else none) (λb=>if b=a then some (.frz { cls:=.type "list",data:=.seq vs.toArray } (.lst (ns.map V.int))) else if b∈tabsOf K then some (.tbl #[]) else none) (λb=>?_) (λb z=>?_) (λb h=>?_) (.inl (.inr ⟨{ cls:=.type "list",data:=.seq vs.toArray },if_pos rfl⟩)) (λb u z=>?_)
  ·by_cases h0:b=a
   ·exact .inr (.inr ⟨h0,hk,by simp only [if_pos h0],_,_,if_pos h0⟩)
   ·by_cases h:b∈tabsOf K
    ·exact .inr (.inl ⟨h,by simp only [if_neg h0,if_pos h],if_neg h0⟩)
    ·exact .inl (by simp only [if_neg h0,if_neg h])
  ·by_cases h0:b=a
   ·simp only [if_pos h0] at z;cases z
   ·exact if_neg h0
  ·have h0:b≠a:=λz=>by subst z;exact na h
   simp only [if_neg h0,if_pos h]
  ·by_cases h0:b=a
   ·have z':some (HO.frz { cls:=.type "list", data:=.seq vs.toArray } (.lst (ns.map V.int)))=some u:=by simpa only [if_pos h0] using z
    obtain rfl:=sI z';subst h0;exact⟨ha,by rw[Ae];exact hl,vs,_,rv,ha⟩
   ·by_cases h:b∈tabsOf K
    ·have z':some (HO.tbl #[])=some u:=by simpa only [if_neg h0,if_pos h] using z
     obtain rfl:=sI z';exact tOk b h _
    ·have z':(none:Option HO)=some u:=by simpa only [if_neg h0,if_neg h] using z
     cases z'
def zxh (K:PySem.W.Frag):Bool:=lams.all λx=>lams.all λx'=>match PySem.W.tabIn K x,PySem.W.tabIn K x' with
 |some p,some p'=>x==x' || !(p.2==p'.2)
 |_,_=>true
theorem z2u {K:PySem.W.Frag}(h:zxh K=true):z43 K:=λx hx x' hx' c c' P e e'=>by
 have:=Bd.mp (Bd.mp h x hx) x' hx';rw[e,e'] at this;simpa using this
theorem walk_ofT {l:PySem.W.OpenLaw}{n k:Nat}{q:Program}{loose:List Str}{XP:(Str->Option Value)->Heap->Prop}{YP:World->Heap->Prop}{d:DefRec}{K:Params->PySem.W.Frag}{CX:World->CXT}{sp:World->Sp}{x:Str}
  (hn:l.most=some n) (hn2:n<=sizeLine) (hdf:d.params.defaults=[]) (hr:Room k callerA)
  (hY:∀(w:World) (h:Heap),YP w h->(K w.params).In h)
  (nt:∀w:World,PySem.W.noTabs (K w.params)=true) (nd:∀w:World,zxh (K w.params)=true) (hrec:∀(w:World),∀x∈lams,∀c P,PySem.W.tabIn (K w.params) x=some (c,P)->∃d,(recsOf q).find? (λe=>e.name==x)=some d)
  (F:∀(w:World) (mg:Str->Option Value) (fa:Addr) (h:Heap),(K w.params).In h->h.Ns mainGlobals mg->mg d.name=some (.ref fa) ->
   ∃fd:FuncData,(∀(s:Shared) (u:Value),BindsTo s fd ⟨[u],[]⟩ [(x,u)]) /\
    ∀base:Heap,(K w.params).In base->base.Ns mainGlobals mg->FnOk l.prog w (K w.params) mg base (CX w) k fa fd [x] (sp w))
  (hsp:∀(w:World) (F H:Hp) (a:Addr) (ns:List Int),ns.length<=n->Start (K w.params) F H->SqL (K w.params) F a (ns.map V.int)->sp w [.ref a] H (λv _=>v=.bl true) λ_ _ _=>False)
  (hCX:∀(w:World) (H:Hp) (s:Shared) (e:Value) (s':Shared),CX w [] H s (λ_ _ _=>False) e s'->False) :
  PySem.W.WalkO q loose XP YP l.row.toRowW d [] (λf vs=>PySem.call f vs):=by
 refine Att.attach_call hn hdf λw s₀ s₁ mg mb fa o pm cd doc a vs ns G Y ho hd hcd hmg hobj hints hlen hg=>?_;have KX:=hY w _ Y;obtain⟨fd,hb,hF⟩:=F w mg fa _ KX G.T.g hmg;refine zvy KX (nt w) (z2u (nd w)) (λx hx c Pt e=>?_) G.T.g G.T.b G.T.builtins G.T.nolimit G.T.bmain hg hobj hints (Cf hlen hn2) hr hF hb (λF H hO hS=>hsp w F H a ns hlen hO hS) λH e s'=>hCX w H s₁ e s';obtain⟨d,hd⟩:=hrec w x hx c Pt e;exact PySem.W.tab_of G.T KX hd e
theorem zus (i j:Int):oAdd (.int i) (.int j)=#v[(i+j),0]:=rfl
theorem zvk {i j:Int}(h:cMul i j=true):oMult (.int i) (.int j)=#v[(i*j),0]:=by
 show (match (if cMul i j then #v[W.int (i*j),6] else none) with|some p=>some p|none=>_)=_;rw[if_pos h]
theorem oMult_l {i j:Int}(h1:-(2^64)<i)(h2:i<2^64):oMult (.int i) (.int j)=#v[(i*j),0]:=zvk (by
 unfold cMul;rw[Co,Ad];exact .inl ⟨Aj h1,Aj h2⟩)
theorem zps {i j:Int}(h1:-(2^64)<j)(h2:j<2^64):oMult (.int i) (.int j)=#v[(i*j),0]:=zvk (by
 unfold cMul;rw[Co,Ad,Ad];exact .inr ⟨Aj h1,Aj h2⟩)
theorem zud {i j:Int}(h1:Builtin.Int.intBits i<=2^20)(h2:Builtin.Int.intBits j<=2^20):oMult (.int i) (.int j)=#v[(i*j),0]:=by
 have h:zsu i j=true:=by
  unfold zsu;rw[Ad];exact⟨Aj h1,Aj h2⟩
 show (match (if cMul i j then #v[W.int (i*j),6] else none) with|some p=>some p|none=>(match (if zsu i j then #v[W.int (i*j),6] else none) with|some p=>some p|none=>_))=_;rw[if_pos h];split<;>simp_all
theorem zuk {xs:List W}{k:Int}(h:-(2^63)<=k/\k<2^63/\xs.length*k.toNat<=sizeLine):oMult (.lst xs) (.int k)=#v[(List.replicate k.toNat xs).flatten,2]:=by
 show (if -(2^63)<=k/\k<2^63/\xs.length*k.toNat<=sizeLine then some (W.lst (List.replicate k.toNat xs).flatten,true) else none)=_;rw[if_pos h]
theorem zt4 {xs ys:List W}(h:xs.length+ys.length<=sizeLine):oAdd (.lst xs) (.lst ys)=#v[(xs++ys),2]:=by
 show (match (if xs.length+ys.length<=sizeLine then #v[W.lst (xs++ys),5] else none) with|some p=>some p|none=>_)=_;rw[if_pos h]
theorem ya5 {i j:Int}(h0:0<j)(h:j<2^200):cDiv i j=true:=by
 unfold cDiv;rw[Ad];refine⟨Aj h0,Aj ?_⟩;have hn:j.natAbs≠0:=by omega
 have h1:j.natAbs<2^200:=by
  have:((j.natAbs:Nat):Int)<((2^200:Nat):Int):=by
   rw[Int.natCast_pow];have e:((j.natAbs:Nat):Int)=j:=by omega
   rw[e];exact h
  exact Int.ofNat_lt.mp this
 exact Bb ((Nat.log2_lt hn).mpr h1) #v[0,9]
theorem zt9 {i j:Int}(h0:0<j)(h:j<18446744073709551617):cDiv i j=true:=ya5 h0 (Int.lt_of_lt_of_le h #v[0,9])
theorem z94 {i j:Int}(h0:0<=j)(h1:j<=1000000)(h2:i.natAbs<2^64):cPow i j=true:=by
 unfold cPow;rw[Ad,Ad];exact⟨⟨Aj h0,Aj h1⟩,Aj h2⟩
theorem zq8 {mp:List Nat}{T:Tg}{body:GS} (P:Nat->En->Prop):∀(ws:List W) (k:Nat) (en:En),P k en->(∀i w e,ws[i]?=some w->P (k+i) e->∃e1 e2,tgSet mp T w e=some e1/\(body e1=some (e2,.nx)\/body e1=some (e2,.cnt))/\P (k+i+1) e2) ->
  ∃en',zie mp T body ws en=some (en',.nx)/\P (k+ws.length) en'
 |[],k,en,h0,_=>⟨en,rfl,h0⟩
 | w::ws,k,en,h0,hs=>by
  refine aG λ_ qG=>?_;obtain ⟨e1,e2,h1,h2,h3⟩:=hs 0 w en rfl h0;refine qG ?_;clear qG;obtain ⟨en',h4,h5⟩:=zq8 P ws (k+1) e2 h3 λi u e hu hp=>by
   have:=hs (i+1) u e (by simpa using hu) (by rw[show k+(i+1)=k+1+i by omega];exact hp);rw[show k+(i+1)+1=k+1+i+1 by omega] at this;exact this
  refine⟨en',?_,by rw[show k+(w::ws).length=k+1+ws.length by rw[Be];omega];exact h5⟩;show (tgSet mp T w en).bind _=_;rw[h1];show (match body e1 with|some (e2,.nx)=>zie mp T body ws e2|some (e2,.cnt)=>zie mp T body ws e2|some (e2,.brk)=>some (e2,.nx)|some (e2,.ret r)=>some (e2,.ret r)|none=>none)=_;rcases h2 with h2|h2<;>(rw[h2];exact h4)
theorem zbv {mp:List Nat}{T:Tg}{it:GL}{body:GS} (P:Nat->En->Prop) {en e0:En}{ws:List W} (hi:it en=some (e0,ws)) (h0:P 0 e0) (hs:∀i w e,ws[i]?=some w->P i e->∃e1 e2,tgSet mp T w e=some e1/\(body e1=some (e2,.nx)\/body e1=some (e2,.cnt))/\P (i+1) e2) :
  ∃en',gFor mp T it body en=some (en',.nx)/\P ws.length en':=by
 obtain⟨en',h1,h2⟩:=zq8 P ws 0 e0 h0 λi w e hw hp=>by
  rw[Ce] at hp ⊢;exact hs i w e hw hp
 refine⟨en',?_,by rw[Ce] at h2;exact h2⟩;unfold gFor;rw[hi];exact h1
theorem zn1 {mp:List Nat}{T:Tg}{tc:GT}{te:GE} (P:Nat->En->List W->Prop):∀(ws:List W) (k:Nat) (ce:En) (dn:List W),P k ce dn ->
  (∀i w c dn,ws[i]?=some w->P (k+i) c dn->∃c1,tgSet mp T w c=some c1/\((∃c2 c3 r,tc c1=#v[c2,5]/\te c2=some (c3,r)/\P (k+i+1) c3 (dn++[r.1]))\/∃c2,tc c1=#v[c2,6]/\P (k+i+1) c2 dn)) ->
  ∃ce' rest,zgy mp T tc te ws ce=some (ce',rest)/\P (k+ws.length) ce' (dn++rest)
 |[],k,ce,dn,h0,_=>⟨ce,[],rfl,by rw[Ch];exact h0⟩
 | w::ws,k,ce,dn,h0,hs=>by
  obtain ⟨c1,h1,h2⟩:=hs 0 w ce dn rfl h0;have next:∀c3 dn',P (k+1) c3 dn'->∃ce' rest,zgy mp T tc te ws c3=some (ce',rest)/\P (k+1+ws.length) ce' (dn'++rest):=λc3 dn' h=>zn1 P ws (k+1) c3 dn' h λi u c d hu hp=>by
   have:=hs (i+1) u c d (by simpa using hu) (by rw[show k+(i+1)=k+1+i by omega];exact hp);rw[show k+(i+1)+1=k+1+i+1 by omega] at this;exact this
  have el:k+(w::ws).length=k+1+ws.length:=by rw[Be];omega
  rcases h2 with⟨c2,c3,r,h3,h4,h5⟩|⟨c2,h3,h5⟩
  ·obtain ⟨ce', rest,h6,h7⟩:=next c3 _ h5
   refine⟨ce',r.1::rest,?_,by rw[el];rw[Ba] at h7;exact h7⟩;show (tgSet mp T w ce).bind _=_;rw[h1];show (match tc c1 with|#v[c2,5]=>(te c2).bind λp=>(zgy mp T tc te ws p.1).bind λq=>some (q.1,p.2.1::q.2)|#v[c2,6]=>zgy mp T tc te ws c2|none=>none)=_;rw[h3];show (te c2).bind _=_;rw[h4];show (zgy mp T tc te ws c3).bind _=_;rw[h6]
   rfl
  ·obtain ⟨ce', rest,h6,h7⟩:=next c2 _ h5
   refine⟨ce',rest,?_,by rw[el];exact h7⟩;show (tgSet mp T w ce).bind _=_;rw[h1];show (match tc c1 with|#v[c2,5]=>(te c2).bind λp=>(zgy mp T tc te ws p.1).bind λq=>some (q.1,p.2.1::q.2)|#v[c2,6]=>zgy mp T tc te ws c2|none=>none)=_;rw[h3];exact h6
theorem zkz {cap:Cap}{T:Tg}{it:GL}{tc:GT}{te:GE} (P:Nat->En->List W->Prop) {en e0:En}{ws:List W} (hi:it en=some (e0,ws)) (hn:zcj cap=true) (hz:ws.length<=sizeLine) (h0:P 0 (zfy cap e0) [])
  (hs:∀i w c dn,ws[i]?=some w->P i c dn->∃c1,tgSet (capKeep cap) T w c=some c1/\((∃c2 c3 r,tc c1=#v[c2,5]/\te c2=some (c3,r)/\P (i+1) c3 (dn++[r.1]))\/∃c2,tc c1=#v[c2,6]/\P (i+1) c2 dn)) :
  ∃ce' out,zbb cap T it tc te en=some (zau cap e0 ce',(.lst out,true))/\P ws.length ce' out:=by
 obtain⟨ce',rest,h1,h2⟩:=zn1 P ws 0 (zfy cap e0) [] h0 λi w c dn hw hp=>by
  rw[Ce] at hp ⊢;exact hs i w c dn hw hp
 refine⟨ce',rest,?_,by rw[Ce] at h2;exact h2⟩;unfold zbb;rw[hi];show (if zcj cap&&decide (ws.length<=sizeLine) then _ else none)=_;rw[if_pos (by rw[hn,Aj hz];rfl),h1]
 rfl
theorem zea {lo:Int}{n i:Nat}{w:W} (h:(rngW lo n)[i]?=some w):i<n/\w=.int (lo+i):=by
 unfold rngW at h;rw[Au] at h;cases q:(List.range n)[i]? with
 |none=>rw[q] at h;exact noSome h
 | some k =>
  rw[q] at h;obtain⟨hl,e⟩:=Ak.mp q;rw[By] at hl;rw[List.getElem_range] at e;subst e;exact⟨hl,(sI h).symm⟩
theorem zd9 (lo:Int)(n:Nat):(rngW lo n).length=n:=by unfold rngW;rw[Ae,By]
theorem zb0 {xs:List W}{i:Nat}{x:W}(h:xs[i]?=some x):atI xs (i:Int)=some x:=z4r h
theorem zyn {en:En}:zcs [] [] en=some []:=rfl
theorem zu4 {m:List Bool}{ws:List W}{en:En}{x w:W}:zcs (true::m) (x::ws) (#v[w,5]::en)=(zcs m ws en).bind λr=>some (w::r):=rfl
theorem zyu {m:List Bool}{ws:List W}{en:En}{w:W}{o:Option (W×Bool)}:zcs (false::m) (w::ws) (o::en)=(zcs m ws en).bind λr=>some (w::r):=rfl
def HS (k:Nat) (w:W):Prop:=∃a b c:Int,w=.lst [.int a,.int b,.int c]/\0<=a/\0<=b/\b<MM/\0<=c/\c<=k
theorem HS.mono {k k':Nat}{w:W}(h:HS k w)(hk:k<=k'):HS k' w:=by
 obtain⟨a,b,c,e,h1,h2,h3,h4,h5⟩:=h;exact⟨a,b,c,e,h1,h2,h3,h4,by omega⟩
noncomputable def zje (Φ:Fn):Prop:=∀(k:Nat) (st:W) (n:Int),HS k st->k<big->0<n->n<1073741824->∃st' r,Φ [st,.int n]=some ([st',.int n],(.int r,false))/\HS (k+1) st'/\0<=r/\r<n
def ztx (Ψ:Str->Fn):GS:=(gSeq (gIfS (zah (gOp2 #v[9,11] (gArg (gOp2 oIx (zaa 0) #v[0])) #v[0])) (gSeq (gSet [0] 2 (gOp2 #v[0,0,2] (gArg (gOp2 oIx (zaa 0) #v[0])) (zaa 1))) (gSeq (za9 0 (gC (.int 0)) (gOp2 #v[0,0,3] (gArg (gOp2 oIx (zaa 0) #v[0])) (zaa 1))) (zb2 [0] 2))) zbq) (gSeq (za9 0 (gC (.int 2)) (gOp2 oAdd (gArg (gOp2 oIx (zaa 0) #v[2])) #v[1])) (gSeq (gSet [0] 3 (gOp2 #v[0,0,2] (gArg (gOp2 oMult (gArg (gOp2 oAdd (gArg (gOp2 oAdd (gArg (gOp2 oIx (zaa 0) #v[1])) (gArg (gOp2 oMult (gArg (gOp2 oMult #v[65537] (gArg (gOp2 oIx (zaa 0) #v[2])))) (gArg (gOp2 oIx (zaa 0) #v[2])))))) #v[11])) #v[48271])) #v[2305843009213693921])) (gSeq (gSet [0] 3 (gOp2 #v[0,0,2] (gArg (gOp2 oMult (zaa 3) (gArg (gOp2 oAdd (gArg (gOp2 #v[0,0,2] (zaa 3) #v[1000003])) (gArg (gOp2 oMult #v[99991] (gArg (gOp2 oIx (zaa 0) #v[2])))))))) #v[2305843009213693907])) (gRet (gOp2 #v[0,0,2] (gArg (gOp2 oAdd (gArg (gOp2 #v[0,0,3] (zaa 3) #v[97])) (gArg (gOp2 #v[0,0,3] (zaa 3) #v[1000033])))) (zaa 1)))))))
theorem z6f (Ψ:Str->Fn):zje (zae [true,false] 4 (ztx Ψ)):=by
 rintro k st n ⟨a,b,c,rfl,h0,h1,h2,h3,h4⟩ hk n0 n1;have hb:(k:Int)<1099511627776:=by have:k<1099511627776:=hk;omega
 by_cases c1:0<a
 ·refine⟨.lst [.int (a/n),.int b,.int c],a%n, ?_,⟨_,_,_,rfl,Int.ediv_nonneg h0 #v[],h1,h2,h3,by omega⟩,Gn _ #v[],Fp _ n0⟩;have hd:cDiv a n=true:=zt9 n0 #v[];simp [zae,ztx,za6,gSeq,gIfS,zah,gOp2,gArg,zaa,gC,resA,oI,yes2,oIx,seqW,atI,ixN,gSet,za9,zb2,zyn,zu4,zyu,c1,n0,hd]
 ·have e1:oMult (.int 65537) (.int (c+1))=some (.int (65537*(c+1)),false):=oMult_l #v[0,9] #v[0,9];have e2:oMult (.int (65537*(c+1))) (.int (c+1))=#v[(65537*(c+1)*(c+1)),0]:=zps #v[] #v[];have e3:oMult (.int (b+65537*(c+1)*(c+1)+11)) (.int 48271)=#v[((b+65537*(c+1)*(c+1)+11)*48271),0]:=zps #v[0,9] #v[0,9];generalize hx:(b+65537*(c+1)*(c+1)+11)*48271=x0 at e3;have e4:oMult (.int 99991) (.int (c+1))=#v[(99991*(c+1)),0]:=oMult_l #v[0,9] #v[0,9];have x1:0<=x0%2305843009213693921:=Gn _ #v[0,9];have x2:x0%2305843009213693921<2305843009213693921:=Fp _ #v[0,9];have e5:oMult (.int (x0%2305843009213693921)) (.int (x0%2305843009213693921%1000003+99991*(c+1)))=#v[(x0%2305843009213693921*(x0%2305843009213693921%1000003+99991*(c+1))),0]:=oMult_l #v[] #v[];have d1:∀i,cDiv i 97=true:=λi=>zt9 #v[0,9] #v[0,9];have d2:∀i,cDiv i 1000033=true:=λi=>zt9 #v[0,9] #v[0,9];refine⟨.lst [.int a,.int b,.int (c+1)],(x0%2305843009213693921*(x0%2305843009213693921%1000003+99991*(c+1))%2305843009213693907/97+x0%2305843009213693921*(x0%2305843009213693921%1000003+99991*(c+1))%2305843009213693907/1000033)%n,?_,⟨_,_,_,rfl,h0,h1,h2,by omega,by omega⟩,Gn _ #v[],Fp _ n0⟩
  ·simp [zae,ztx,za6,gSeq,gIfS,zah,gOp2,gArg,zaa,gC,resA,oI,yes2,oIx,seqW,atI,ixN,gSet,za9,gRet,zbq,zyn,zu4,zyu,c1,n0,zus,e1,e2,e3,e4,e5,d1,d2]
theorem seq_nx {a b:GS}{en e1:En}(h:a en=some (e1,.nx)):gSeq a b en=b e1:=by unfold gSeq;rw[h]
theorem zwk {a b:GS}{en e1:En}{r:W×Bool}(h:a en=some (e1,.ret r)):gSeq a b en=some (e1,.ret r):=by unfold gSeq;rw[h]
theorem zrr {mp:List Nat}{i:Nat}{g:GE}{en e1:En}{r:W×Bool}(h:g en=some (e1,r))(hi:(mp.contains i || !decide (i<e1.length))=false):gSet mp i g en=some (e1.set i (some r),.nx):=by
 unfold gSet;rw[h];show (if (mp.contains i || !decide (i<e1.length))=true then _ else _)=_;rw[hi]
 rfl
theorem zy2 {c:GT}{a b:GS}{en e1:En}(h:c en=#v[e1,5]):gIfS c a b en=a e1:=by unfold gIfS;rw[h]
theorem z8r {c:GT}{a b:GS}{en e1:En}(h:c en=#v[e1,6]):gIfS c a b en=b e1:=by unfold gIfS;rw[h]
theorem z6j {g:GE}{en e1:En}{b f:Bool}(h:g en=some (e1,(.bl b,f))):zah g en=some (e1,b):=by unfold zah;rw[h]
theorem z2v {g:GE}{en e1:En}{r:W×Bool}(h:g en=some (e1,r)):gRet g en=some (e1,.ret r):=by unfold gRet;rw[h];rfl
theorem zws {g:GE}{en e1:En}{r:W×Bool}(h:g en=some (e1,r)):zeq g en=some (e1,.nx):=by unfold zeq;rw[h];rfl
theorem zcn {g:GE}{en e1:En}{r:W×Bool}(h:g en=some (e1,r)):gArg g en=some (e1,.inl r.1):=by unfold gArg;rw[h];rfl
theorem z3n {a:GA}{as:GAs}{en e1 e2:En}{x:W ⊕ Nat}{xs:List (W ⊕ Nat)}(h:a en=some (e1,x))(h2:as e1=some (e2,xs)):gCns a as en=some (e2,x::xs):=by
 unfold gCns;rw[h];show (as e1).bind _=_;rw[h2]
 rfl
theorem zbw {o:O2}{a b:GA}{en e1 e2:En}{x y:W ⊕ Nat}{w u:W}{r:W×Bool}(h1:a en=some (e1,x))(h2:b e1=some (e2,y))(h3:resA e2 x=some w)(h4:resA e2 y=some u)(h5:o w u=some r):gOp2 o a b en=some (e2,r):=by
 unfold gOp2;rw[h1];show (b e1).bind _=_;rw[h2];show (resA e2 x).bind _=_;rw[h3];show (resA e2 y).bind _=_;rw[h4];show (o w u).bind _=_;rw[h5]
 rfl
theorem z8s {o:ON}{as:GAs}{en e1:En}{xs:List (W ⊕ Nat)}{ws:List W}{r:W×Bool}(h1:as en=some (e1,xs))(h2:za8 e1 xs=some ws)(h3:o ws=some r):gOpN o as en=some (e1,r):=by
 unfold gOpN;rw[h1];show (za8 e1 xs).bind _=_;rw[h2];show (o ws).bind _=_;rw[h3]
 rfl
theorem zba {m:List Bool}{n:Nat}{g:GS}{ws ws':List W}{en:En}{r:W×Bool}(hl:ws.length=m.length)(h:g (za6 m ws++List.replicate (n-m.length) none)=some (en,.ret r))(ho:zcs m ws en=some ws'):zae m n g ws=some (ws',r):=by
 unfold zae;rw[if_pos hl,h];show (zcs m ws en).bind _=_;rw[ho]
 rfl
theorem zc3:∀(ws:List W) (i:Nat),zas (za4 (ws.map Sum.inl)) i=none
 |[],i=>rfl
 | w::ws,i=>by
  have:=zc3 ws i;unfold zas za4 at this ⊢;rw[Am,Am,List.findIdx?_cons,this]
  rfl
theorem zg9 (ws:List W):zcj (za4 (ws.map Sum.inl))=true:=by
 unfold zcj;refine Bd.mpr λj _=>?_;have:∀i,(za4 (ws.map Sum.inl))[j]?≠some (some i):=λi=>zdn (zc3 ws i) j;cases q:(za4 (ws.map Sum.inl))[j]? with
 |none=>rfl
 | some o =>
  cases o with
  |none=>rfl
  |some i=>exact absurd q (this i)
theorem zw9 {cap:Cap}{en ce:En}(h:∀i,zas cap i=none):zau cap en ce=en:=by
 unfold zau;apply De;intro i;rw[Gf];cases en[i]? with
 |none=>rfl
 |some x=>simp only [Gk,h i]
theorem zb8 (en:En):∀ws:List W,za8 en (ws.map Sum.inl)=some ws
 |[]=>rfl
 |w::ws=>by show (some w).bind _=_;show (za8 en (ws.map Sum.inl)).bind _=_;rw[zb8 en ws];rfl
theorem ze1 (en:En)(ws:List W):zar en (ws.map Sum.inl)=true:=by
 unfold zar;refine Bd.mpr λx hx=>?_;obtain⟨w,_,rfl⟩:=Bf.mp hx
 rfl
theorem znh {m:List Bool}{Φ:Fn}{as:GAs}{en e1:En}{ws ws':List W}{r:W×Bool}(h:as en=some (e1,ws.map Sum.inl))(hm:(ws.map λ_=>false)=m)(hΦ:Φ ws=some (ws',r))(hl:ws'.length=ws.length):zad m Φ as en=some (e1,r):=by
 unfold zad;rw[h];show (if (decide ((ws.map Sum.inl).map isR=m)&&zar e1 (ws.map Sum.inl)&&zcj (za4 (ws.map Sum.inl)))=true then _ else _)=_;have e:(ws.map Sum.inl).map isR=m:=by rw[<-hm,Bz];rfl
 rw[Aj e,ze1,zg9];show (za8 e1 (ws.map Sum.inl)).bind _=_;rw[zb8];show (Φ ws).bind _=_;rw[hΦ];show (if ws'.length=m.length then _ else _)=_;rw[if_pos (by rw[hl,<-hm,Ae]),zw9 (zc3 ws)]
theorem zrz {m:List Bool}{Φ:Fn}{as:GAs}{en e1:En}{i:Nat}{ws wz:List W}{st st':W}{r:W×Bool} (h:as en=some (e1,.inr i::ws.map Sum.inl)) (hm:(true::ws.map λ_=>false)=m) (hi:e1[i]?=some (some (st,true))) (hΦ:Φ (st::ws)=some (st'::wz,r)) (hl:wz.length=ws.length):zad m Φ as en=some (e1.set i (some (st',true)),r):=by
 have cp:∀j,zas (za4 (.inr i::ws.map Sum.inl)) j=if j=i then some 0 else none:=λj=>by
  have:=zc3 ws j;unfold zas za4 at this ⊢;rw[Am,List.findIdx?_cons];by_cases e:j=i
  ·subst e;simp
  ·have:(some i==some j)=false:=by simp;exact λz=>e z.symm
   simp only [this];rw[if_neg e]
   simp_all
 have nd:zcj (za4 (.inr i::ws.map Sum.inl))=true:=by
  unfold zcj;refine Bd.mpr λj _=>?_;cases j with
  | zero =>
   show (match (za4 (.inr i::ws.map Sum.inl))[0]? with|some (some k)=>zas (za4 (.inr i::ws.map Sum.inl)) k==some 0|_=>true)=true;show (zas (za4 (.inr i::ws.map Sum.inl)) i==some 0)=true;rw[cp i,if_pos rfl]
   rfl
  | succ j =>
   have:∀k,(za4 (ws.map Sum.inl))[j]?≠some (some k):=λk=>zdn (zc3 ws k) j;have e:(za4 (.inr i::ws.map Sum.inl))[j+1]?=(za4 (ws.map Sum.inl))[j]?:=rfl;rw[e];cases q:(za4 (ws.map Sum.inl))[j]? with
   |none=>rfl
   | some o =>
    cases o with
    |none=>rfl
    |some k=>exact absurd q (this k)
 unfold zad;rw[h];show (if (decide ((.inr i::ws.map Sum.inl).map isR=m)&&zar e1 (.inr i::ws.map Sum.inl)&&zcj (za4 (.inr i::ws.map Sum.inl)))=true then _ else _)=_;have e:(Sum.inr i::ws.map Sum.inl).map isR=m:=by rw[<-hm,Am,Bz];rfl
 have ow:zar e1 (.inr i::ws.map Sum.inl)=true:=by
  have:=ze1 e1 ws;unfold zar at this ⊢;rw[Bp,this];simp only [hi,Bool.and_true]
 rw [Aj e,ow,nd];have rs:za8 e1 (.inr i::ws.map Sum.inl)=some (st::ws):=by
  show (resA e1 (.inr i)).bind _=_;have:resA e1 (.inr i)=some st:=by unfold resA;simp only [hi]
  rw[this];show (za8 e1 (ws.map Sum.inl)).bind _=_;rw[zb8]
  rfl
 show (za8 e1 (.inr i::ws.map Sum.inl)).bind _=_;rw[rs];show (Φ (st::ws)).bind _=_;rw[hΦ];show (if (st'::wz).length=m.length then _ else _)=_;rw[if_pos (by rw[<-hm,Be,Be,Ae,hl])];refine congrArg some (congrArg (·,r) ?_);unfold zau;apply De;intro j;rw[Gf];have hi':i<e1.length:=(Ak.mp hi).1;by_cases ej:j=i
 ·subst ej
  rw[Dq hi',hi];simp only [Gk,cp j,if_pos];rw[<-hm]
  rfl
 ·rw [Dm (Ne.symm ej)]
  cases e1[j]? with
  |none=>rfl
  |some x=>simp only [Gk,cp j,if_neg ej]
theorem zhp {m:List Bool}{Φ:Fn}{as:GAs}{en:En}{i:Nat}{ws wz:List W}{st st':W}{r:W×Bool}(h:as en=some (en,.inr i::ws.map Sum.inl))(hm:(true::ws.map λ_=>false)=m)(hi:en[i]?=some (#v[st,5]))(hΦ:Φ (st::ws)=some (st'::wz,r))(hl:wz.length=ws.length):zad m Φ as en=some (en.set i (#v[st',5]),r):=zrz h hm hi hΦ hl
theorem zvn {a w:W}{ws:List W}{i:Int}(h:seqW a=some ws)(h2:atI ws i=some w):oIx a (.int i)=#v[w,6]:=by
 unfold oIx;cases a<;>simp_all
theorem oI_t {c:Int->Int->Bool}{g:Int->Int->W}{i j:Int}(h:c i j=true):oI c g (.int i) (.int j)=#v[g i j,6]:=by
 show (if c i j then #v[g i j,6] else none)=_;rw[if_pos h]
theorem set_0 {mp:List Nat}{i:Nat}{g:GE}{en:En}{r:W×Bool}(h:g en=some (en,r))(hi:(mp.contains i || !decide (i<en.length))=false):gSet mp i g en=some (en.set i (some r),.nx):=zrr h hi
theorem arg_0 {g:GE}{en:En}{r:W×Bool}(h:g en=some (en,r)):gArg g en=some (en,.inl r.1):=zcn h
theorem op2_0 {o:O2}{a b:GA}{en:En}{x y:W ⊕ Nat}{w u:W}{r:W×Bool}(h1:a en=some (en,x))(h2:b en=some (en,y))(h3:resA en x=some w)(h4:resA en y=some u)(h5:o w u=some r):gOp2 o a b en=some (en,r):=zbw h1 h2 h3 h4 h5
theorem yea {a:GA}{as:GAs}{en:En}{x:W ⊕ Nat}{xs:List (W ⊕ Nat)}(h:a en=some (en,x))(h2:as en=some (en,xs)):gCns a as en=some (en,x::xs):=z3n h h2
theorem ya8 {g:GE}{en:En}{r:W×Bool}(h:g en=some (en,r)):gRet g en=some (en,.ret r):=z2v h
theorem z3r {m:List Bool}{Φ:Fn}{as:GAs}{en:En}{ws ws':List W}{r:W×Bool}(h:as en=some (en,ws.map Sum.inl))(hm:(ws.map λ_=>false)=m)(hΦ:Φ ws=some (ws',r))(hl:ws'.length=ws.length):zad m Φ as en=some (en,r):=znh h hm hΦ hl
theorem ztt {i:Nat}{k g:GE}{en:En}{w:W}{ws:List W}{n:Int}{j:Nat}{f f2:Bool}(h:g en=some (en,(w,f)))(hk:k en=some (en,(.int n,f2)))(hi:en[i]?=some (#v[ws,2]))(hj:ixN ws.length n=some j):za9 i k g en=some (en.set i (#v[(ws.set j w),2]),.nx):=by
 unfold za9;simp only [h,Ec,hi,hk,hj]
theorem ybt {i:Nat}{g:GE}{en e1:En}{us ws:List W}{r:W×Bool}(h0:en[i]?=some (#v[us,2]))(h:g en=some (e1,r))(h1:e1[i]?=some (#v[ws,2]))(hz:ws.length<sizeLine):gApp i g en=some (e1.set i (#v[(ws++[r.1]),2]),(.non,false)):=by
 unfold gApp;simp only [h0,h,Ec,h1];rw[if_pos hz]
def yam (Ψ:Str->Fn):GS:=(gSeq (gSet [0] 2 (zad [true,false] (Ψ "_law_take") (gCns (zaa 0) (gCns #v[4] gA0)))) (gSeq (gIfS (zah (gOp2 oEq (zaa 2) #v[3])) (gRet (gOp2 oMult (gArg (zat (gCns (gArg (zad [true,false] (Ψ "_law_take") (gCns (zaa 0) (gCns #v[2] gA0)))) gA0))) (zaa 1))) zbq) (gSeq (gSet [0] 3 (zat gA0)) (gSeq (gFor [0] (.nm 4) (zbs (gCns (zaa 1) gA0)) #v[0,7]) (zb2 [0] 3)))))
noncomputable def znc (Φ:Fn):Prop:=∀(k:Nat) (st:W) (n:Int),HS k st->k+100<big->0<=n->n<=64->∃st' xs,Φ [st,.int n]=some ([st',.int n],(.lst (xs.map W.int),true))/\HS (k+66) st'/\(xs.length:Int)=n/\Bits xs
theorem three {r:Int}(h0:0<=r)(h:r<4)(h3:r≠3):r=0\/r=1\/r=2:=by omega
theorem zq0 {α:Type}(x:α):∀n:Nat,(List.replicate n [x]).flatten=List.replicate n x
 |0=>rfl
 |n+1=>by rw[Cp,Ea,zq0 x n];rfl
theorem z6n {Ψ:Str->Fn}(hT:zje (Ψ "_law_take")):znc (zae [true,false] 6 (yam Ψ)):=by
 intro k st n hs hk n0 n1;have hz:(64:Nat)<=sizeLine:=by decide
 nofun;obtain⟨st1,way,e1,h1,h2,h3⟩:=hT k st 4 hs #v[] #v[0,9] #v[0,9];ac_rfl;have c1:zad [true,false] (Ψ "_law_take") (gCns (zaa 0) (gCns #v[4] gA0)) [#v[st,5],#v[n,0],none,none,none,none]=some ([#v[st1,5],#v[n,0],none,none,none,none],(.int way,false)):=zhp (i:=0) (ws:=[.int 4]) (wz:=[.int 4]) rfl rfl rfl e1 rfl;have s1:=zrr (mp:=[0]) (i:=2) c1 rfl;by_cases c3:way=3
 ·subst c3;refine aG λ_ qG=>?_;obtain ⟨st2,b,e2,g1,g2,g3⟩:=hT (k+1) st1 2 h1 (by omega) (by decide) (by decide);refine qG ?_;clear qG;have c2:zad [true,false] (Ψ "_law_take") (gCns (zaa 0) (gCns (gArg (gC (.int 2))) gA0)) [some (st1,true),some (.int n,false),some (.int 3,false),none,none,none]=some ([some (st2,true),some (.int n,false),some (.int 3,false),none,none,none],(.int b,false)):=zhp (i:=0) (ws:=[.int 2]) (wz:=[.int 2]) rfl rfl rfl e2 rfl;have l2:zat (gCns (gArg (zad [true,false] (Ψ "_law_take") (gCns (zaa 0) (gCns (gArg (gC (.int 2))) gA0)))) gA0) [some (st1,true),some (.int n,false),some (.int 3,false),none,none,none]=some ([some (st2,true),some (.int n,false),some (.int 3,false),none,none,none],(.lst [.int b],true)):=by
   unfold zat;rw[z3n (zcn c2) (show gA0 _=_ from rfl)]
   rfl
  have om:oMult (.lst [.int b]) (.int n)=#v[(List.replicate n.toNat (.int b)),2]:=by
   rw[zuk (by refine⟨by omega,by omega,?_⟩;show 1*n.toNat<=sizeLine;omega),zq0]
  refine⟨st2,List.replicate n.toNat b,?_,g1.mono #v[],by rw[Eo];omega,λx hx=>by rw[List.eq_of_mem_replicate hx];omega⟩;refine zba (en:=[#v[st2,5],#v[n,0],#v[3,0],none,none,none]) rfl ?_ rfl;refine (seq_nx s1).trans (zwk ?_);refine (zy2 (e1:=[#v[st1,5],#v[n,0],#v[3,0],none,none,none]) rfl).trans (z2v (zbw (zcn l2) rfl rfl rfl ?_));rw[List.map_replicate];exact om
 ·have hw:=three h2 h3 c3;have turn:∀(i:Nat) (st:W) (xs:List Int) (v5:Option (W×Bool)),HS (k+1+i) st->i<64->xs.length=i->∃st' x one,HS (k+1+i+1) st'/\(x=0\/x=1) /\
    #v[0,7] #v[2,9] =
     some ([#v[st',5],#v[n,0],#v[way,0],#v[((xs++[x]).map W.int),2],#v[(0+(i:Nat)),0],#v[one,0]],.nx):=by
   intro i st xs v5 hst hi hl;have zz:(xs.map W.int).length<sizeLine:=by rw[Ae,hl];omega
   have fin:∀(q:Int) (x:Int->Int),(∀one,0<=one->one<q->x one=0\/x one=1)->0<q->q<1073741824 ->
     (gCns (zaa 0) (gCns (gArg (gOp2 oIx (gArg (zat (gCns #v[2] (gCns #v[5] (gCns #v[5] gA0))))) (zaa 2))) gA0)) #v[2,9]=some (#v[2,9],[.inr 0,.inl (.int q)]) ->
     (∀(st':W) (one:Int),(gOp2 oIx (gArg (zat (gCns #v[5,4] (gCns (gArg (gOpN oInt (gCns (gArg (gOp2 oEq (zaa 5) #v[0])) gA0))) (gCns (gArg (gOpN oInt (gCns (gArg (gOp2 #v[9,11] (zaa 5) #v[0])) gA0))) gA0))))) (zaa 2)) [#v[st',5],#v[n,0],#v[way,0],#v[(xs.map W.int),2],#v[(0+(i:Nat)),0],#v[one,0]]=some ([#v[st',5],#v[n,0],#v[way,0],#v[(xs.map W.int),2],#v[(0+(i:Nat)),0],#v[one,0]],(.int (x one),false))) ->
     ∃st' x one,HS (k+1+i+1) st'/\(x=0\/x=1)/\#v[0,7] #v[2,9] =
      some ([#v[st',5],#v[n,0],#v[way,0],#v[((xs++[x]).map W.int),2],#v[(0+(i:Nat)),0],#v[one,0]],.nx):=by
    intro q x hx q0 q1 ha hv;nofun;obtain⟨st',one,e2,g1,g2,g3⟩:=hT (k+1+i) st q hst #v[] q0 q1;ac_rfl;have cc:=zhp (m:=[true,false]) (ws:=[.int q]) (wz:=[.int q]) ha rfl rfl e2 rfl;refine⟨st',x one,one,g1,hx one g2 g3,?_⟩;refine (seq_nx (zrr (mp:=[0]) (i:=5) cc rfl)).trans (zws (r:=(.non,false)) ?_);rw[Ca];exact ybt (i:=3) rfl (hv st' one) rfl zz
   rcases hw with rfl|rfl|rfl
   ·exact fin 2 (λone=>one) (λone a b=>by omega) #v[0,9] #v[0,9] rfl λst' one=>rfl
   ·refine fin 5 (λone=>if decide (one=0) then 1 else 0) (λone a b => ?_) #v[0,9] #v[0,9] rfl λst' one=>rfl;by_cases z:one=0<;>simp [z]
   ·refine fin 5 (λone=>if decide (0<one) then 1 else 0) (λone a b => ?_) #v[0,9] #v[0,9] rfl λst' one=>rfl;by_cases z:0<one<;>simp [z]
  obtain⟨en',hf,hp⟩:=zbv (mp:=[0]) (T:=.nm 4) (it:=zbs (gCns (zaa 1) gA0)) (body:=#v[0,7])
   (λi e=>∃st xs v4 v5,e=[#v[st,5],#v[n,0],#v[way,0],#v[(xs.map W.int),2],v4,v5]/\HS (k+1+i) st/\xs.length=i/\Bits xs)
   (en:=[#v[st1,5],#v[n,0],#v[way,0],#v[[],2],none,none]) (e0:=[#v[st1,5],#v[n,0],#v[way,0],#v[[],2],none,none]) (ws:=rngW 0 n.toNat)
   (by
    have hr:zfu n=true:=by unfold zfu;rw[Aj #v[],Aj #v[]];rfl
    show (if zfu n then some (_,rngW 0 n.toNat) else none)=_;rw[hr];rfl)
   ⟨st1,[],none,none,rfl,h1,rfl,λx hx=>by cases hx⟩
   (by
    rintro i w e hw' ⟨st,xs,v4,v5,rfl,hst,hl,hb⟩;nofun;obtain⟨hi,rfl⟩:=zea hw';obtain⟨st',x,one,g1,g2,g3⟩:=turn i st xs v5 hst #v[] hl;ac_rfl;refine⟨_,_,rfl,.inl g3,st',xs++[x],_,_,rfl,g1,by rw[Bc,hl];rfl,λy hy=>?_⟩;rcases Bq.mp hy with hy|hy
    ·exact hb y hy
    ·rw[Ao] at hy;subst hy;exact g2)
  nofun;obtain⟨st2,xs,v4,v5,rfl,g1,g2,g3⟩:=hp;ac_rfl;rw[zd9] at g1 g2;refine⟨st2,xs,?_,g1.mono #v[],by omega,g3⟩;refine zba (en:=[#v[st2,5],#v[n,0],#v[way,0],none,v4,v5]) rfl ?_ rfl;refine (seq_nx s1).trans ((seq_nx (e1:=[#v[st1,5],#v[n,0],#v[way,0],none,none,none]) ?_).trans ((seq_nx (e1:=[#v[st1,5],#v[n,0],#v[way,0],#v[[],2],none,none]) rfl).trans ((seq_nx hf).trans rfl)));rcases hw with rfl|rfl|rfl<;>rfl
def yca (Ψ:Str->Fn):GS:=(gSeq (gSet [] 1 (gC (.int 0))) (gSeq (gFor [] (.nm 2) (gRev (gVar 0)) (gSet [] 1 (gOp2 oAdd (gArg (gOp2 oMult #v[2] (zaa 1))) (zaa 2)))) (zb2 [] 1)))
def z33 (Φ:Fn):Prop:=∀xs:List Int,Φ [.lst (xs.map W.int)]=some ([.lst (xs.map W.int)],(.int (zab xs),false))
theorem z6r (Ψ:Str->Fn):z33 (zae [false] 3 (yca Ψ)):=by
 intro xs;obtain⟨en',hf,hp⟩:=zbv (mp:=[]) (T:=.nm 2) (it:=gRev (gVar 0)) (body:=gSet [] 1 (gOp2 oAdd (gArg (gOp2 oMult #v[2] (zaa 1))) (zaa 2)))
  (λi e=>∃v2,e=[#v[(xs.map W.int),1],#v[(zab (xs.drop (xs.length-i))),0],v2])
  (en:=[#v[(xs.map W.int),1],#v[0,0],none]) (e0:=[#v[(xs.map W.int),1],#v[0,0],none]) (ws:=(xs.map W.int).reverse) rfl
  ⟨none,by rw[Nat.sub_zero,List.drop_length];rfl⟩
  (by
   rintro i w e hw ⟨v2,rfl⟩;have hi:i<xs.length:=by have:=(Ak.mp hw).1;rw[Fc,Ae] at this;exact this
   have hj:xs.length-1-i<xs.length:=by omega
   have ew:w=.int xs[xs.length-1-i]:=by
    rw[List.getElem?_reverse (by rw[Ae];exact hi),Ae,Au,Ac hj] at hw;exact (sI hw).symm
   subst ew;have om:oMult (.int 2) (.int (zab (xs.drop (xs.length-i))))=#v[(2*zab (xs.drop (xs.length-i))),0]:=oMult_l #v[0,9] #v[0,9];have ed:xs.drop (xs.length-(i+1))=xs[xs.length-1-i]::xs.drop (xs.length-i):=by
    have e1:xs.length-(i+1)=xs.length-1-i:=by omega
    have e2:xs.length-i=xs.length-1-i+1:=by omega
    rw[e1,e2];exact Cd hj
   refine⟨_,_,rfl,.inl (zrr (r:=(.int (zab (xs.drop (xs.length-(i+1)))),false)) (zbw (zcn (zbw (x:=.inl (.int 2)) rfl rfl rfl rfl om)) rfl rfl rfl ?_) rfl),_,rfl⟩;rw[ed]
   rfl)
 obtain⟨v2,rfl⟩:=hp;rw[Fc,Ae,Nat.sub_self,Ef] at hf;exact zba (en:=[#v[(xs.map W.int),1],#v[(zab xs),0],v2]) rfl ((seq_nx (e1:=[#v[(xs.map W.int),1],#v[0,0],none]) rfl).trans ((seq_nx hf).trans rfl)) rfl
def z91 (Ψ:Str->Fn):GS:=(gSeq (gSet [] 1 (zat (gCns #v[0] (gCns #v[0] (gCns #v[0] gA0))))) (gSeq (gIfS (zi1 (zah (gOp2 #v[9,11] #v[6,10] #v[0])) (zah (gOp2 (oI yes2 λi j=>.bl (decide (j<=i))) (gArg (gOp2 oIx (zaa 0) #v[0])) (gArg (gOp2 (oI cPow λi j=>.int (i^j.toNat)) #v[10] #v[18]))))) (gSeq (gSet [] 2 (gC (.int 1))) (gFor [] (.nm 3) (zan (gSl (zaa 0) zbt (zfq (gC (.int 63))))) (gSeq (za9 1 (gC (.int 0)) (gOp2 oAdd (gArg (gOp2 oIx (zaa 1) #v[0])) (gArg (gOp2 oMult (gArg (gOp2 #v[0,0,2] #v[3,13] (gArg (gOp2 (oI cPow λi j=>.int (i^j.toNat)) #v[10] #v[60])))) (zaa 2))))) (gSet [] 2 (gOp2 oMult (zaa 2) (gArg (gOp2 (oI cPow λi j=>.int (i^j.toNat)) #v[10] #v[60]))))))) zbq) (gSeq (gFor [] (.tp [4,3]) (zob (gSl (zaa 0) zbt (zfq (gC (.int 63))))) (gSeq (gSet [] 5 (gOp2 oAdd (gArg (gOp2 oAdd (gArg (gOp2 #v[0,0,2] (zaa 3) #v[2305843009213693951])) (gArg (gOp2 oMult #v[7919] (zaa 4))))) #v[3])) (za9 1 (gC (.int 1)) (gOp2 #v[0,0,2] (gArg (gOp2 oAdd (gArg (gOp2 oMult #v[1,10] #v[48271])) (zaa 5))) #v[2305843009213693951])))) (zb2 [] 1))))
def z24 (Φ:Fn):Prop:=∀ns:List Int,ns.length<=63->∃st,Φ [.frl (ns.map W.int)]=some ([.frl (ns.map W.int)],(st,true))/\HS 0 st
theorem ya6 {ns:List Int}(h:ns.length<=63):cutW (ns.map W.int) none (some 63)=ns.map W.int:=by
 unfold cutW;have e1:HT.sIx (ns.map W.int).length 0 none=0:=rfl;have e2:HT.sIx (ns.map W.int).length (ns.map W.int).length (some 63)=(ns.map W.int).length:=by
  have:=HT.sIx_nat (ns.map W.int).length (ns.map W.int).length 63;rw[show ((63:Nat):Int)=63 from rfl] at this;rw[this,Ae];omega
 rw[e1,e2,Ef,Nat.sub_zero,Ci]
theorem z02 {ns:List Int}{i:Nat}{w:W}(h:(zic (ns.map W.int) 0)[i]?=some w):∃hi:i<ns.length,w=.tup [.int i,.int ns[i]]:=by
 have hi:i<ns.length:=by have:=(Ak.mp h).1;rw[zc5,Ae] at this;exact this
 have:=zfe (ws:=ns.map W.int) (k:=0) (i:=i) (w:=.int ns[i]) (by rw[Au,Ac hi];rfl);rw[h,Ce] at this;exact⟨hi,sI this⟩
theorem z7u (Ψ:Str->Fn):z24 (zae [false] 6 (z91 Ψ)):=by
 intro ns hl;have p18:cPow 10 18=true:=by decide
 have p60:cPow 10 60=true:=by decide
 have first:∃a0 v2 v3,0<=a0/\gIfS (zi1 (zah (gOp2 (oI yes2 λi j=>.bl (decide (j<i))) #v[6,10] (gArg (gC (.int 0))))) #v[4,9]) (gSeq (gSet [] 2 (gC (.int 1))) (gFor [] (.nm 3) (zan (gSl (zaa 0) zbt (zfq (gC (.int 63))))) (gSeq (za9 1 (gC (.int 0)) (gOp2 oAdd (gArg (gOp2 oIx (zaa 1) (gArg (gC (.int 0))))) (gArg (gOp2 oMult (gArg (gOp2 (oI (λ_ j=>decide (0<j)) λi j=>.int (i%j)) #v[3,13] #v[9,7])) (zaa 2))))) (gSet [] 2 (gOp2 oMult (zaa 2) #v[9,7]))))) zbq
   #v[9,9]=some (#v[2,12],.nx):=by
  have ln:(zah (gOp2 #v[9,11] #v[6,10] #v[0])) #v[9,9]=some (#v[9,9],decide ((0:Int)<((ns.map W.int).length:Nat))):=rfl;cases ns with
  |nil=>exact⟨0,none,none,by decide,(z8r (by unfold zi1;rw[ln];rfl)).trans rfl⟩
  | cons n0 nr =>
   have t2:#v[4,9] [some #v[9,8],some (.lst [.int 0,.int 0,.int 0],true),none,none,none,none]=some ([some #v[9,8],some (.lst [.int 0,.int 0,.int 0],true),none,none,none,none],decide (10^18<=n0)) :=
    z6j (zbw (zcn (zbw rfl rfl rfl rfl (zvn rfl (zb0 (i:=0) rfl)))) (zcn (zbw (x:=.inl (.int 10)) rfl rfl rfl rfl (oI_t p18))) rfl rfl rfl)
   have ln':decide ((0:Int)<(((n0::nr).map W.int).length:Nat))=true:=Aj (by simp);rw[ln'] at ln;by_cases c:(10:Int)^18<=n0
   ·rw [Aj c] at t2
    obtain ⟨en',hf,hp⟩:=zbv (mp:=[]) (T:=.nm 3) (it:=zan (gSl (zaa 0) zbt (zfq (gC (.int 63))))) (body:=(gSeq (za9 1 (gC (.int 0)) (gOp2 oAdd (gArg (gOp2 oIx (zaa 1) (gArg (gC (.int 0))))) (gArg (gOp2 oMult (gArg (gOp2 (oI (λ_ j=>decide (0<j)) λi j=>.int (i%j)) #v[3,13] #v[9,7])) (zaa 2))))) (gSet [] 2 (gOp2 oMult (zaa 2) #v[9,7]))))
     (λi e=>∃a0 wt v3,e=[some #v[9,8],#v[[.int a0,.int 0,.int 0],2],#v[wt,0],v3,none,none]/\0<=a0/\0<wt/\wt<=2^(200*i))
     (en:=#v[3,11]) (e0:=#v[3,11]) (ws:=(n0::nr).map W.int)
     (by
      show some (_,cutW ((n0::nr).map W.int) none (some 63))=_;rw[ya6 hl])
     ⟨0,1,none,rfl,by decide,by decide,by decide⟩
     (by
      rintro i w e hw ⟨a0,wt,v3,rfl,q0,q1,q2⟩;rw [Au] at hw;have hi:i<(n0::nr).length:=by
       rcases Nat.lt_or_ge i (n0::nr).length with z|z
       ·exact z
       ·rw[Bo z] at hw;exact noSome hw
      rw[Ac hi] at hw;have ew:w=.int (n0::nr)[i]:=(sI hw).symm;subst ew;generalize (n0::nr)[i]=n;have y0:0<=(if n<0 then -n else n)%(10:Int)^60:=Gn _ #v[0,9];have y1:(if n<0 then -n else n)%(10:Int)^60<10^60:=Fp _ #v[0,9];have hb:i<=63:=by omega
      have b1:Builtin.Int.intBits ((if n<0 then -n else n)%(10:Int)^60)<=2^20:=zkx (i:=1) y0 (Int.le_trans (Int.le_of_lt y1) #v[0,9]) #v[0,9];have b2:Builtin.Int.intBits wt<=2^20:=zkx #v[] q2 hb;have m1:=zud b1 b2;have m2:=zud b2 (zkx (w:=10^60) (i:=1) #v[0,9] #v[0,9] #v[0,9]);obtain⟨r1,r2⟩:=z1v q1 q2;refine⟨_,[some #v[9,8],#v[[.int (a0+(if n<0 then -n else n)%(10:Int)^60*wt),.int 0,.int 0],2],#v[(wt*10^60),0],#v[n,0],none,none],rfl,.inl ?_,_,_,_,rfl,?_,r1,r2⟩
      ·refine (seq_nx (e1:=[some (.frl ((n0::nr).map W.int),false),some (.lst [.int (a0+(if n<0 then -n else n)%(10:Int)^60*wt),.int 0,.int 0],true),some (.int wt,false),some (.int n,false),none,none]) ?_).trans (set_0 (op2_0 rfl (arg_0 (op2_0 (x:=.inl (.int 10)) rfl rfl rfl rfl (oI_t p60))) rfl rfl m2) rfl)
       have ge:gOp2 oAdd (gArg (gOp2 oIx (zaa 1) (gArg (gC (.int 0))))) (gArg (gOp2 oMult (gArg (gOp2 (oI (λ_ j=>decide (0<j)) λi j=>.int (i%j)) #v[3,13] #v[9,7])) (zaa 2))) #v[6,12]=some (#v[6,12],(.int (a0+(if n<0 then -n else n)%(10:Int)^60*wt),false)) :=
        zbw (zcn (zbw rfl rfl rfl rfl (zvn rfl (zb0 (i:=0) rfl)))) (zcn (zbw (zcn (zbw (zcn (z8s rfl rfl rfl)) (zcn (zbw (x:=.inl (.int 10)) rfl rfl rfl rfl (oI_t p60))) rfl rfl (oI_t #v[0,9]))) rfl rfl rfl m1)) rfl rfl rfl
       exact ztt (n:=0) (j:=0) (ws:=[.int a0,.int 0,.int 0]) ge rfl rfl rfl
      ·have:=Int.mul_nonneg y0 (Int.le_of_lt q1)
       omega)
    nofun;obtain⟨a0,wt,v3,rfl,q0,_⟩:=hp;ac_rfl;exact⟨a0,_,_,q0,(zy2 (by unfold zi1;rw[ln];exact t2)).trans ((seq_nx (e1:=#v[3,11]) rfl).trans hf)⟩
   ·rw [Ay c] at t2
    exact⟨0,none,none,by decide,(z8r (by unfold zi1;rw[ln];exact t2)).trans rfl⟩
 nofun;obtain⟨a0,v2,v3,q0,hfirst⟩:=first
 refine qG ?_;clear qG;obtain ⟨en',hf,hp⟩:=zbv (mp:=[]) (T:=.tp [4,3]) (it:=zob (gSl (zaa 0) zbt (zfq (gC (.int 63))))) (body:=(gSeq (gSet [] 5 (gOp2 oAdd (gArg (gOp2 oAdd (gArg (gOp2 (oI (λ_ j=>decide (0<j)) λi j=>.int (i%j)) (zaa 3) (gArg (gC (.int 2305843009213693951))))) (gArg (gOp2 oMult (gArg (gC (.int 7919))) (zaa 4))))) (gArg (gC (.int 3))))) (za9 1 (gC (.int 1)) (gOp2 (oI (λ_ j=>decide (0<j)) λi j=>.int (i%j)) #v[7,11] (gArg (gC (.int 2305843009213693951)))))))
  (λi e=>∃b v3 v4 v5,e=[some #v[7,7],#v[[.int a0,.int b,.int 0],2],v2,v3,v4,v5]/\0<=b/\b<MM)
  (en:=#v[2,12]) (e0:=#v[2,12]) (ws:=zic (ns.map W.int) 0)
  (by
   show some (_,zic (cutW (ns.map W.int) none (some 63)) 0)=_;rw[ya6 hl])
  ⟨0,v3,none,none,rfl,by decide,by decide⟩
  (by
   rintro i w e hw ⟨b,v3,v4,v5,rfl,q1,q2⟩;obtain ⟨hi,rfl⟩:=z02 hw;generalize ns[i]=n;have hm:MM=2305843009213693951:=rfl;have m1:oMult (.int 7919) (.int (i:Nat))=some (.int (7919*(i:Nat)),false):=oMult_l (by decide) (by decide);have m2:oMult (.int b) (.int 48271)=some (.int (b*48271),false):=zps (by decide) (by decide);refine ⟨_,[some #v[7,7],some (.lst [.int a0,.int ((b*48271+(n%2305843009213693951+7919*(i:Nat)+3))%2305843009213693951),.int 0],true),v2,some (.int n,false),some (.int (i:Nat),false),some (.int (n%2305843009213693951+7919*(i:Nat)+3),false)],rfl,.inl ?_,_,_,_,_,rfl,Gn _ (by decide),Fp _ (by decide)⟩;refine (seq_nx (e1:=#v[3,8]) (set_0 (op2_0 (arg_0 (op2_0 (arg_0 (op2_0 rfl rfl rfl rfl (oI_t (by decide)))) (arg_0 (op2_0 (x:=.inl (.int 7919)) rfl rfl rfl rfl m1)) rfl rfl rfl)) rfl rfl rfl rfl) rfl)).trans ?_;have ge:gOp2 (oI (λ_ j=>decide (0<j)) λi j=>.int (i%j)) #v[7,11] (gArg (gC (.int 2305843009213693951))) #v[3,8]=some (#v[3,8],(.int ((b*48271+(n%2305843009213693951+7919*(i:Nat)+3))%2305843009213693951),false)) :=
    zbw (zcn (zbw (zcn (zbw (zcn (zbw rfl rfl rfl rfl (zvn rfl (zb0 (i:=1) rfl)))) rfl rfl rfl m2)) rfl rfl rfl rfl)) rfl rfl rfl (oI_t #v[0,9])
   exact ztt (n:=1) (j:=1) (ws:=[.int a0,.int b,.int 0]) ge rfl rfl rfl)
 nofun;obtain⟨b,w3,w4,w5,rfl,q1,q2⟩:=hp;ac_rfl;refine⟨.lst [.int a0,.int b,.int 0],zba (en:=[some #v[7,7],none,v2,w3,w4,w5]) rfl ?_ rfl,⟨_,_,_,rfl,q0,q1,q2,by decide,by decide⟩⟩;exact (seq_nx (e1:=#v[9,9]) rfl).trans ((seq_nx hfirst).trans ((seq_nx hf).trans rfl))
theorem zxb (a b x y:Nat)(hx:x<2)(hy:y<2):(2*a+x) &&& (2*b+y)=2*(a &&& b)+x*y:=by
 have h1:((2*a+x) &&& (2*b+y))/2=a &&& b:=by
  have:=Nat.and_div_two_pow (n:=1) (a:=2*a+x) (b:=2*b+y);rw[Nat.pow_one] at this;rw[this];have e1:(2*a+x)/2=a:=by omega
  have e2:(2*b+y)/2=b:=by omega
  rw[e1,e2]
 have h2:((2*a+x) &&& (2*b+y))%2=x*y:=by
  have:=Nat.and_mod_two_pow (n:=1) (a:=2*a+x) (b:=2*b+y);rw[Nat.pow_one] at this;rw[this];have e1:(2*a+x)%2=x:=by omega
  have e2:(2*b+y)%2=y:=by omega
  rw[e1,e2];have:x=0\/x=1:=by omega
  have:y=0\/y=1:=by omega
  rcases ‹x=0\/x=1› with rfl|rfl<;>rcases ‹y=0\/y=1› with rfl|rfl<;>rfl
 omega
def Bit (x:Int):Prop:=x=0\/x=1
theorem zed {a b x y:Int}(ha:0<=a)(hb:0<=b)(hx:Bit x)(hy:Bit y):Builtin.bitAnd (2*a+x) (2*b+y)=2*Builtin.bitAnd a b+x*y:=by
 have x0:0<=x/\x<2:=by rcases hx with rfl|rfl<;>decide
 have y0:0<=y/\y<2:=by rcases hy with rfl|rfl<;>decide
 rw[bitAnd_pp #v[] #v[],bitAnd_pp ha hb];have e1:(2*a+x).toNat=2*a.toNat+x.toNat:=by omega
 have e2:(2*b+y).toNat=2*b.toNat+y.toNat:=by omega
 rw[e1,e2,zxb _ _ _ _ #v[] #v[]];rcases hx with rfl|rfl<;>rcases hy with rfl|rfl<;>simp
theorem zj9 (x y:Int):Builtin.bitXor x y=x+y-2*Builtin.bitAnd x y:=by
 show Builtin.bitOr x y-Builtin.bitAnd x y=_;rw[bitOr_and];omega
theorem z0z {a b x y:Int}(ha:0<=a)(hb:0<=b)(hx:Bit x)(hy:Bit y):Builtin.bitXor (2*a+x) (2*b+y)=2*Builtin.bitXor a b+(x+y-2*(x*y)):=by
 rw[zj9,zj9,zed ha hb hx hy];omega
theorem xor_zero (x:Int):Builtin.bitXor x 0=x:=by rw[zj9,bitAnd_zero];omega
theorem zsc (x:Int):Builtin.bitAnd 0 x=0:=by rw[bitAnd_comm,bitAnd_zero]
theorem Bits.head {x:Int}{xs:List Int}(h:Bits (x::xs)):Bit x:=h x Ax
theorem Bits.tail {x:Int}{xs:List Int}(h:Bits (x::xs)):Bits xs:=λy hy=>h y (As _ hy)
theorem zez {xs:List Int}(h:Bits xs):0<=zab xs:=(zh3 h).1
theorem zao (x:Int)(xs:List Int):zab (x::xs)=2*zab xs+x:=rfl
theorem zbg:∀(l h:List Int),zab (l++h)=zab l+2^l.length*zab h
 |[],h=>by show zab h=0+1*zab h;omega
 | x::l,h=>by
  show 2*zab (l++h)+x=2*zab l+x+2^(l.length+1)*zab h;rw[zbg l h,Int.pow_succ,Int.mul_add,Int.mul_comm (2^l.length) 2,Int.mul_assoc];omega
theorem zh0:∀{xs ys:List Int},Bits xs->Bits ys->Builtin.bitAnd (zab xs) (zab ys)=zab (List.zipWith (· * ·) xs ys)
 |[],ys,_,_=>zsc _
 |x::xs,[],_,_=>bitAnd_zero _
 | x::xs,y::ys,h1,h2=>by
  rw[zao,zao,zed (zez h1.tail) (zez h2.tail) h1.head h2.head,zh0 h1.tail h2.tail]
  rfl
def ycb (Φ:Fn):Prop:=∀a b:Int,Φ [.int a,.int b]=some ([.int a,.int b],(.int (Builtin.bitXor a b),false))
def z68 (Φ:Fn):Prop:=∀a b:Int,Φ [.int a,.int b]=some ([.int a,.int b],(.int (Builtin.bitAnd a b),false))
def yac (Ψ:Str->Fn):GS:=(gRet (gOp2 #v[0,11] (zaa 0) (zaa 1)))
def z50 (Ψ:Str->Fn):GS:=(gRet (gOp2 #v[0,8] (zaa 0) (zaa 1)))
theorem zx0 (Ψ:Str->Fn):ycb (zae [false,false] 2 (yac Ψ)):=λa b=>rfl
theorem z0j (Ψ:Str->Fn):z68 (zae [false,false] 2 (z50 Ψ)):=λa b=>rfl
noncomputable def dif (a b:Int):Int:=if !decide (a=b) then 1 else 0
theorem z6t {a b:Int}(ha:Bit a)(hb:Bit b):a+b-2*(a*b)=dif a b:=by
 rcases ha with rfl|rfl<;>rcases hb with rfl|rfl<;>decide
theorem zml:∀{xs ys:List Int},Bits xs->Bits ys->xs.length=ys.length->Builtin.bitXor (zab xs) (zab ys)=zab (List.zipWith dif xs ys)
 |[],[],_,_,_=>xor_zero 0
 |[],_::_,_,_,h=>by cases h
 |_::_,[],_,_,h=>by cases h
 | x::xs,y::ys,h1,h2,hl=>by
  rw[zao,zao,z0z (zez h1.tail) (zez h2.tail) h1.head h2.head,zml h1.tail h2.tail (by simpa using hl),z6t h1.head h2.head]
  rfl
theorem zrv {f:Int->Int->Int} (hf:∀a b,Bit a->Bit b->Bit (f a b)):∀{xs ys:List Int},Bits xs->Bits ys->Bits (List.zipWith f xs ys)
 |[],_,_,_=>λx hx=>by simp at hx
 |_::_,[],_,_=>λx hx=>by simp at hx
 | a::xs,b::ys,h1,h2=>λx hx=>by
  rcases Ap.mp (show x∈f a b::List.zipWith f xs ys from hx) with rfl|hx
  ·exact hf a b h1.head h2.head
  ·exact zrv hf h1.tail h2.tail x hx
theorem ydu {a b:Int}(ha:Bit a)(hb:Bit b):Bit (a*b):=by rcases ha with rfl|rfl<;>rcases hb with rfl|rfl<;>first|exact .inl #v[0,9]|exact .inr #v[0,9]
theorem zxt:∀{xs:List Int},Bits xs->List.zipWith dif xs (List.replicate xs.length 1)=xs.map λa=>1-a
 |[],_=>rfl
 | x::xs,h=>by
  show dif x 1::List.zipWith dif xs (List.replicate xs.length 1)=_;rw[zxt h.tail];rcases h.head with rfl|rfl<;>rfl
noncomputable def clr:List Int->List Int
 |[]=>[]
 |x::xs=>if x=1 then 0::xs else x::clr xs
theorem zq3:∀{xs:List Int},Bits xs->Bits (clr xs)
 |[],h=>h
 | x::xs,h=>by
  unfold clr;split
  ·exact λy hy=>(Ap.mp hy).elim (λe=>.inl e) (h.tail y)
  ·exact λy hy=>(Ap.mp hy).elim (λe=>by rw[e];exact h.head) (zq3 h.tail y)
theorem zw0:∀{xs:List Int},Bits xs->0<=xs.sum
 |[],_=>by decide
 | x::xs,h=>by
  have:=zw0 h.tail;rw[Bu];rcases h.head with e|e<;>omega
theorem z2x:∀{xs:List Int},Bits xs->xs.sum<=xs.length
 |[],_=>by decide
 | x::xs,h=>by
  have:=z2x h.tail;rw[Bu,Be];rcases h.head with e|e<;>omega
theorem zmc:∀{xs:List Int},Bits xs->(zab xs=0↔xs.sum=0)
 |[],_=>⟨λ_=>rfl,λ_=>rfl⟩
 | x::xs,h=>by
  have ih:=zmc h.tail;have n1:=zez h.tail;have n2:=zw0 h.tail;rw[zao,Bu];rcases h.head with e|e
  ·subst e
   constructor
   ·intro z;rw[ih.mp #v[]];rfl
   ·intro z;rw[ih.mpr #v[]];rfl
  ·subst e
   constructor<;>intro z<;>omega
theorem zvv:∀{xs:List Int},Bits xs->zab xs≠0->(clr xs).sum=xs.sum-1
 |[],_,h=>absurd rfl h
 | x::xs,h,hz=>by
  unfold clr;split
  ·rename_i e;subst e;rw[Bu,Bu];omega
  ·rename_i e
   have e0:x=0:=h.head.resolve_right e;subst e0;have:zab xs≠0:=λz=>hz (by rw[zao,z];rfl);rw[Bu,Bu,zvv h.tail this];omega
theorem zqq:∀{xs:List Int},Bits xs->zab xs≠0->Builtin.bitAnd (zab xs) (zab xs-1)=zab (clr xs)
 |[],_,h=>absurd rfl h
 | x::xs,h,hz=>by
  have n1:=zez h.tail;unfold clr;split
  ·rename_i e
   subst e;have e1:zab (1::xs)-1=2*zab xs+0:=by rw[zao];omega
   rw[e1,zao,zed n1 n1 (.inr rfl) (.inl rfl),bitAnd_self]
   rfl
  ·rename_i e
   have e0:x=0:=h.head.resolve_right e;subst e0;have nz:zab xs≠0:=λz=>hz (by rw[zao,z];rfl);have e1:zab (0::xs)-1=2*(zab xs-1)+1:=by rw[zao];omega
   rw[e1,zao,zed n1 #v[] (.inl rfl) (.inr rfl),zqq h.tail nz]
   rfl
def zzk (Ψ:Str->Fn):GS:=(gSeq (gSet [] 1 (gC (.int 0))) (gSeq (zdz (zah (gOp2 oNe (zaa 0) #v[0])) (gSeq #v[7,12] (gAug [] #v[4,11] 1 #v[1])) zfc) (zb2 [] 1)))
def zke (Φ:Fn):Prop:=∀xs:List Int,Bits xs->xs.length<=1000->Φ [.int (zab xs)]=some ([.int (zab xs)],(.int xs.sum,false))
theorem zg2:∀(n:Nat) (xs:List Int) (h:Int),Bits xs->xs.sum<n ->
  zdz (zah (gOp2 oNe (zaa 0) #v[0])) (gSeq #v[7,12] (gAug [] #v[4,11] 1 #v[1])) n [#v[(zab xs),0],#v[h,0]]=some ([#v[0,0],#v[(h+xs.sum),0]],.nx)
 |0,xs,h,hb,hs=>by have:=zw0 hb;omega
 | n+1,xs,h,hb,hs=>by
  have tt:zah (gOp2 oNe (zaa 0) #v[0]) [#v[(zab xs),0],#v[h,0]]=some ([#v[(zab xs),0],#v[h,0]],!decide (zab xs=0)):=rfl;unfold zdz;by_cases z:zab xs=0
  ·rw [Aj z] at tt
   rw[tt,(zmc hb).mp z,z,Int.add_zero]
   rfl
  ·rw [Ay z] at tt
   have bd:gSeq #v[7,12] (gAug [] #v[4,11] 1 #v[1]) [#v[(zab xs),0],#v[h,0]]=some ([#v[(Builtin.bitAnd (zab xs) (zab xs-1)),0],#v[(h+1),0]],.nx):=rfl;rw[zqq hb z] at bd;rw[tt];simp only [Bool.not_false,bd];have:=zvv hb z;rw[zg2 n (clr xs) (h+1) (zq3 hb) #v[],this];have e:h+1+(xs.sum-1)=h+xs.sum:=by omega
   rw[e]
theorem zvp (Ψ:Str->Fn):zke (zae [false] 2 (zzk Ψ)):=λxs hb hl=>by
 have w:=zg2 zfc xs 0 hb (by have:=z2x hb;show xs.sum<(4096:Nat);omega);rw[Gv] at w;exact zba (en:=[#v[0,0],#v[xs.sum,0]]) rfl ((seq_nx (e1:=[#v[(zab xs),0],#v[0,0]]) rfl).trans ((seq_nx w).trans rfl)) rfl
def zwh (Ψ:Str->Fn):GS:=(gRet (gOp2 oEq (gArg (gOp2 #v[0,0,2] (gArg (zad [false] (Ψ "weight") (gCns (gArg (zad [false,false] (Ψ "times") (gCns #v[0,4] (gCns #v[1,4] gA0)))) gA0))) #v[2])) #v[0]))
theorem z7i {Ψ:Str->Fn} (hW:zke (Ψ "weight")) (hA:z68 (Ψ "times")) {xs ys:List Int} (bx:Bits xs) (by':Bits ys) (hz:xs.length<=1000) :
  zae [false,false] 2 (zwh Ψ) [.int (zab xs),.int (zab ys)]=some ([.int (zab xs),.int (zab ys)],(.bl (decide ((List.zipWith (· * ·) xs ys).sum%2=0)),false)):=by
 have t:=hA (zab xs) (zab ys);rw[zh0 bx by'] at t;exact zba (en:=[#v[(zab xs),0],#v[(zab ys),0]]) rfl (ya8 (op2_0 (arg_0 (op2_0 (arg_0 (z3r (ws:=[.int (zab (List.zipWith (· * ·) xs ys))]) (yea (arg_0 (z3r (ws:=[.int (zab xs),.int (zab ys)]) rfl rfl t rfl)) rfl) rfl (hW _ (zrv (λ_ _=>ydu) bx by') (by rw[Gp];omega)) rfl)) rfl rfl rfl (oI_t #v[0,9]))) rfl rfl rfl rfl)) rfl
theorem z4y {as:GAs}{en e1:En}{xs:List (W ⊕ Nat)}{j:Int}(h:as en=some (e1,xs))(h2:za8 e1 xs=some [.int j])(h3:zfu j=true):zbs as en=some (e1,rngW 0 j.toNat):=by
 unfold zbs;rw[h];show (match za8 e1 xs with|some [.int j]=>if zfu j then some (e1,rngW 0 j.toNat) else none|_=>none)=_;rw[h2];show (if zfu j then some (e1,rngW 0 j.toNat) else none)=_;rw[if_pos h3]
noncomputable def tab (n:Nat) (f:Nat->Int):List Int:=(List.range n).map f
theorem za5 (n:Nat)(f:Nat->Int):(tab n f).length=n:=by unfold tab;rw[Ae,By]
theorem zes {n:Nat}{f:Nat->Int}{i:Nat}(h:i<n):(tab n f)[i]?=some (f i):=by unfold tab;rw[Au,List.getElem?_range h];rfl
theorem zdr {n:Nat}{f g:Nat->Int}(h:∀i,i<n->f i=g i):tab n f=tab n g:=by
 unfold tab;refine Fb λi hi=>h i (Bl.mp hi)
theorem zxz (n:Nat)(f g:Nat->Int)(h:Int->Int->Int):List.zipWith h (tab n f) (tab n g)=tab n λi=>h (f i) (g i):=by
 apply De;intro i;by_cases hi:i<n
 ·rw[List.getElem?_zipWith,zes hi,zes hi,zes hi]
 ·rw[Bo (by rw[Gp,za5,za5];omega),Bo (by rw[za5];omega)]
theorem zcp {n:Nat}{f:Nat->Int}(h:∀i,i<n->Bit (f i)):Bits (tab n f):=λx hx=>by
 obtain⟨i,hi,rfl⟩:=Bf.mp hx;exact h i (Bl.mp hi)
theorem zw1 (a b:Nat)(f:Nat->Int):tab (a+b) f=tab a f++tab b λi=>f (a+i):=by
 unfold tab;rw[List.range_add,Ca,Bz]
 rfl
theorem zjv (n:Nat):tab n (λ_=>0)=List.replicate n 0:=by unfold tab;rw[List.map_const',By]
theorem zfz (n:Nat):zab (List.replicate n 0)=0:=by
 induction n with
 |zero=>rfl
 |succ n ih=>rw[Cp,zao,ih];rfl
theorem z10 (n:Nat)(f:Nat->Int):tab (n+1) f=tab n f++[f n]:=by unfold tab;rw[List.range_succ,Ca];rfl
noncomputable def zc0 (p:Nat):List Nat:=(List.range (p+1)).filter λo=>o &&& p==o
def coefF (f:Nat->Int) (p:Nat):Int:=((zc0 p).map f).sum%2
noncomputable def evS (L:List Nat) (f:Nat->Int) (S:Nat):Int:=((L.filter λi=>S.testBit i).map f).sum
theorem z3a (f:Nat->Int) (A B:Nat):∀L:List Nat,evS L f (A ^^^ B)%2=(evS L f A+evS L f B)%2
 |[]=>rfl
 | i::L=>by
  have ih:=z3a f A B L;unfold evS at ih ⊢;rw[List.filter_cons,List.filter_cons,List.filter_cons,Dw];cases A.testBit i<;>cases B.testBit i<;>simp only [Bool.xor_false,Bool.xor_true,Bool.not_true,Bool.not_false,Fi,Fe,Am,Bu,Cm]<;>omega
noncomputable def itS:Nat->Nat->Nat
 |0,i=>2^i
 |k+1,i=>if i/2^k%2=1 then itS k i ^^^ itS k (i-2^k) else itS k i
theorem z5o:∀m:Fin 7,∀p:Fin (2^m.val),(List.range 64).filter (λj=>(itS m.val p.val).testBit j)=zc0 p.val:=by decide +kernel
theorem z7h (g:Nat->Int){t:Nat}(ht:t<64):coefF g t=evS (List.range 64) g (itS 6 t)%2:=by
 unfold evS coefF;rw[z5o ⟨6,by decide⟩ ⟨t,ht⟩]
theorem zd0 (n:Nat)(f:Nat->Int):tab (n+1) f=tab n f++[f n]:=by unfold tab;rw[List.range_succ,Ca];rfl
theorem znw:∀(p:Nat) (xs:List Int),Bits xs->Builtin.bitAnd (zab xs/2^p) 1=xs.getD p 0
 | p,[],_=>by
  show Builtin.bitAnd ((0:Int)/2^p) 1=0;rw[Int.zero_ediv,zsc]
 | 0,x::xs,h=>by
  have a:=zed (zez h.tail) (Int.le_refl 0) h.head (show Bit 1 from .inr rfl);rw[bitAnd_zero] at a;show Builtin.bitAnd (zab (x::xs)/1) 1=x;rw[Int.ediv_one,zao];have e:(2*0+1:Int)=1:=rfl;rw[e] at a;rw[a];omega
 | p+1,x::xs,h=>by
  have ih:=znw p xs h.tail;have e:zab (x::xs)/2^(p+1)=zab xs/2^p:=by
   rw[zao,Int.pow_succ,Int.mul_comm ((2:Int)^p) 2,<-Int.ediv_ediv_of_nonneg #v[0,9]];congr 1;rcases h.head with q|q<;>rw[q]<;>omega
  rw[e,ih]
  rfl
theorem z04 {n:Nat}{f:Nat->Int}(h:∀i,n<=i->f i=0)(p:Nat):(tab n f).getD p 0=f p:=by
 rw[Bg];by_cases c:p<n
 ·rw[zes c];rfl
 ·rw[Bo (by rw[za5];omega),h p #v[]];rfl
noncomputable def dueL (f:Nat->Int) (n:Nat):List Nat:=(List.range n).filter λp=>decide (f p=1)
noncomputable def castL (M:List Nat):List W:=M.map λp:Nat=>W.int p
theorem zd3 (M:List Nat):castL M=(M.map λp:Nat=>(p:Int)).map W.int:=by unfold castL;rw[Bz];rfl
theorem zai (M:List Nat):(castL M).length=M.length:=Ae ..
theorem zaw {M:List Nat}{i:Nat}{w:W}(h:(castL M)[i]?=some w):∃p,M[i]?=some p/\w=.int (p:Nat):=by
 unfold castL at h;rw[Au] at h;obtain⟨p,h1,h2⟩:=Option.map_eq_some_iff.mp h;exact⟨p,h1,h2.symm⟩
theorem z45 {f:Nat->Int} (h:∀i,Bit (f i)):∀n,((dueL f n).length:Int)=(tab n f).sum
 |0=>rfl
 | n+1=>by
  have ih:=z45 h n;unfold dueL at ih ⊢;rw[List.range_succ,List.filter_append,Bc,zd0,List.sum_append,<-ih];rcases h n with e|e
  ·rw[List.filter_cons_of_neg (by rw[e];decide),e];rfl
  ·rw[List.filter_cons_of_pos (by rw[e];decide),e];rfl
theorem zri (f g h:Nat->Int):∀n,zab (tab n f)+zab (tab n g)-zab (tab n h)=zab (tab n λi=>f i+g i-h i)
 |0=>rfl
 | n+1=>by
  have ih:=zri f g h n;rw[zd0,zd0,zd0,zd0,zbg,zbg,zbg,zbg,<-ih,za5,za5,za5,za5];show _+2^n*(2*0+f n)+(_+2^n*(2*0+g n))-(_+2^n*(2*0+h n))=_+2^n*(2*0+(f n+g n-h n));rw[show (2*0+f n)=f n by omega,show (2*0+g n)=g n by omega,show (2*0+h n)=h n by omega,show (2*0+(f n+g n-h n))=f n+g n-h n by omega,Int.mul_sub,Int.mul_add];omega
theorem zz3 {n p:Nat}(h:p<n):(1*2^p:Int)=zab (tab n λi=>if i=p then 1 else 0):=by
 obtain⟨k,rfl⟩ : ∃k,n=p+(1+k):=⟨n-p-1,by omega⟩;have e1:(tab p λi=>if i=p then (1:Int) else 0)=List.replicate p 0:=by
  rw[<-zjv];exact zdr λi hi=>if_neg #v[]
 have e2:(tab k λi=>if p+(1+i)=p then (1:Int) else 0)=List.replicate k 0:=by
  rw[<-zjv];exact zdr λi hi=>if_neg #v[]
 have e3:(tab 1 λi=>if p+i=p then (1:Int) else 0)=[1]:=by
  show [if p+0=p then (1:Int) else 0]=[1];rw[if_pos #v[]]
 rw[zw1,zw1,e1,e2,e3,zbg,zfz,Eo];show _=0+2^p*(2*zab (List.replicate k 0)+1);rw[zfz];omega
theorem ybc (x y:Int):Builtin.bitOr x y=x+y-Builtin.bitAnd x y:=by
 have h:=zj9 x y;have e:Builtin.bitXor x y=Builtin.bitOr x y-Builtin.bitAnd x y:=rfl;omega
theorem z7m {n p:Nat}{f:Nat->Int}(h:∀i,Bit (f i))(hp:p<n):Builtin.bitOr (zab (tab n f)) (1*2^p)=zab (tab n λi=>if i=p then 1 else f i):=by
 rw[zz3 hp,ybc,zh0 (zcp λi _=>h i) (zcp λi _=>by split<;>first|exact .inr rfl|exact .inl rfl),zxz,zri];refine congrArg zab (zdr λi _=>?_);by_cases c:i=p
 ·rw[if_pos c,if_pos c];omega
 ·rw[if_neg c,if_neg c];omega
theorem yci {mp:List Nat}{o:O2}{i:Nat}{g:GA}{en e1:En}{x:W ⊕ Nat}{w u:W}{r:W×Bool}(h0:en[i]?=some (#v[w,6]))(h1:g en=some (e1,x))(h2:resA e1 x=some u)(h3:o w u=some r)(hc:(mp.contains i || !decide (i<e1.length))=false):gAug mp o i g en=some (e1.set i (some r),.nx):=by
 unfold gAug;rw[h0];show (g en).bind _=_;rw[h1];show (resA e1 x).bind _=_;rw[h2];show (o w u).bind _=_;rw[h3];show (if (mp.contains i || !decide (i<e1.length))=true then none else some (e1.set i (some r),Fl.nx))=_;rw[hc]
 rfl
def ybx (Ψ:Str->Fn):GS:=(gRet (gOp2 #v[0,8] (gArg (gOp2 #v[3,10] (zaa 0) (zaa 1))) #v[1]))
noncomputable def z38 (Φ:Fn):Prop:=∀(n p:Nat) (f:Nat->Int),(∀i,Bit (f i))->(∀i,n<=i->f i=0)->Φ [.int (zab (tab n f)),.int (p:Nat)]=some ([.int (zab (tab n f)),.int (p:Nat)],(.int (f p),false))
theorem z44 (Ψ:Str->Fn):z38 (zae [false,false] 2 (ybx Ψ)):=λn p f hf h0=>by
 have s:=znw p _ (zcp (n:=n) λi _=>hf i);rw[z04 h0] at s;have a:gArg (gOp2 #v[3,10] (zaa 0) (zaa 1)) [#v[(zab (tab n f)),0],#v[(p:Nat),0]]=some ([#v[(zab (tab n f)),0],#v[(p:Nat),0]],.inl (.int (zab (tab n f)/2^p))):=arg_0 (r:=(.int (zab (tab n f)/2^p),false)) (op2_0 (x:=.inl (.int (zab (tab n f)))) (y:=.inl (.int (p:Nat))) rfl rfl rfl rfl (oI_t (Aj (Int.natCast_nonneg p))));refine zba (en:=[#v[(zab (tab n f)),0],#v[(p:Nat),0]]) rfl (ya8 (op2_0 a (show gArg (gC (.int 1)) _=some (_,.inl (.int 1)) from rfl) rfl rfl ?_)) rfl;show some (W.int (Builtin.bitAnd (zab (tab n f)/2^p) 1),false)=_;rw[s]
def zxc (Ψ:Str->Fn):GS:=(gSeq (gSet [] 1 (gC (.int 0))) (gSeq (gFor [] (.nm 2) (zan (gVar 0)) (gAug [] #v[5,12] 1 (gArg (gOp2 #v[0,0,1] #v[1] (zaa 2))))) (zb2 [] 1)))
noncomputable def zsb (Φ:Fn):Prop:=∀(n:Nat) (M:List Nat),n<=64->(∀p∈M,p<n)->Φ [.tup (castL M)]=some ([.tup (castL M)],(.int (zab (tab n λi=>if i∈M then 1 else 0)),false))
theorem zs1 (Ψ:Str->Fn):zsb (zae [false] 3 (zxc Ψ)):=λn M hn hM=>by
 have z0:(zab (tab n λi=>if i∈M.take 0 then 1 else 0))=0:=by
  have:(tab n λi=>if i∈M.take 0 then (1:Int) else 0)=List.replicate n 0:=by
   rw[<-zjv];exact zdr λi _=>if_neg (by rw[Ed];exact Cb)
  rw[this,zfz]
 obtain⟨en',hl,hp⟩:=zbv (mp:=[]) (T:=(.nm 2)) (it:=(zan (gVar 0))) (body:=(gAug [] #v[5,12] 1 (gArg (gOp2 #v[0,0,1] #v[1] (zaa 2)))))
  (λj e=>∃v2,e=[#v[(castL M),3],#v[(zab (tab n λi=>if i∈M.take j then 1 else 0)),0],v2]) (en:=[#v[(castL M),3],#v[0,0],none]) (e0:=[#v[(castL M),3],#v[0,0],none]) (ws:=castL M) rfl ⟨none,by rw[z0]⟩
  (by
   rintro j w e hw ⟨v2,rfl⟩;obtain⟨p,hp,rfl⟩:=zaw hw;have pn:p<n:=hM p (Bi hp);have ow:=z7m (n:=n) (p:=p) (f:=λi=>if i∈M.take j then 1 else 0) (λi=>by show Bit (if _ then _ else _);split<;>first|exact .inr rfl|exact .inl rfl) pn;have e2:(tab n λi=>if i=p then (1:Int) else if i∈M.take j then 1 else 0)=tab n λi=>if i∈M.take (j+1) then 1 else 0:=zdr λi _=>by
    have m:i∈M.take (j+1)↔(i∈M.take j\/i=p):=by
     rw[Ev,hp,Bq];show _\/i∈[p]↔_;rw[Ao]
    by_cases c:i=p
    ·rw[if_pos c,if_pos (m.mpr (.inr c))]
    ·rw[if_neg c];by_cases c2:i∈M.take j
     ·rw[if_pos c2,if_pos (m.mpr (.inl c2))]
     ·rw[if_neg c2,if_neg (λq=>(m.mp q).elim c2 c)]
   rw[e2] at ow;have pw:(1*2^((p:Nat):Int).toNat:Int)=1*2^p:=rfl;refine⟨[#v[(castL M),3],#v[(zab (tab n λi=>if i∈M.take j then 1 else 0)),0],#v[(p:Nat),0]],[#v[(castL M),3],#v[(zab (tab n λi=>if i∈M.take (j+1) then 1 else 0)),0],#v[(p:Nat),0]],rfl,.inl (yci (w:=.int (zab (tab n λi=>if i∈M.take j then 1 else 0))) (u:=.int (1*2^p)) rfl (arg_0 (r:=(.int (1*2^p),false)) (op2_0 (x:=.inl (.int 1)) (y:=.inl (.int (p:Nat))) rfl rfl rfl rfl (oI_t (z94 #v[] #v[] #v[0,9])))) rfl ?_ rfl),_,rfl⟩;show some (W.int (Builtin.bitOr (zab (tab n λi=>if i∈M.take j then 1 else 0)) (1*2^p)),false)=_;rw[ow])
 obtain⟨v2,rfl⟩:=hp;rw[zai,Ci] at hl;exact zba rfl ((seq_nx (e1:=[#v[(castL M),3],#v[0,0],none]) rfl).trans ((seq_nx hl).trans rfl)) rfl
theorem zfw:∀ws:List W,zbp (ws.map Sum.inl)=some ws
 |[]=>rfl
 |w::ws=>by show (zbp (ws.map Sum.inl)).bind _=_;rw[zfw ws];rfl
theorem zhg:∀{xs:List (W ⊕ Nat)}{ws:List W},zbp xs=some ws->xs=ws.map Sum.inl
 |[],_,e=>by obtain rfl:=sI e;rfl
 | .inl w::xs,_,e=>by
  obtain⟨ws,h,e⟩:=bS (show (zbp xs).bind _=_ from e);obtain rfl:=sI e;rw[zhg h];rfl
 |.inr _::_,_,e=>by exact noSome e
theorem zoa {xs:List (W ⊕ Nat)} (m:List Bool) (hm:(m.all λb=>!b)=true) (h:xs.map isR=m):∃ws:List W,xs=ws.map Sum.inl:=by
 induction xs generalizing m with
 |nil=>exact⟨[],rfl⟩
 | cons x xs ih =>
  cases m with
  |nil=>cases h
  | cons b m =>
   rw[Am] at h;injection h with h1 h2;rw[Bp,Ad] at hm;obtain⟨ws,e⟩:=ih m hm.2 h2;cases x with
   |inl w=>exact⟨w::ws,by rw[e];rfl⟩
   |inr i=>rw[<-h1] at hm;cases hm.1
theorem zh4:∀{m:List Bool} (hm:(m.all λb=>!b)=true) (ws:List W),ws.length=m.length->(ws.map λ_=>false)=m
 |[],_,[],_=>rfl
 |[],_,_::_,h=>by cases h
 |_::_,_,[],h=>by cases h
 | b::m,hm,w::ws,h=>by
  rw[Bp,Ad] at hm;rw[Am,zh4 hm.2 ws (by simpa using h)];cases b with
  |false=>rfl
  |true=>cases hm.1
theorem zdg (m:List Bool) (Φ:Fn) (as:GAs) (en:En) (hm:(m.all λb=>!b)=true):zad m Φ as en=(as en).bind λp=>(zbp p.2).bind λws=>if ws.length=m.length then (Φ ws).bind λq=>if q.1.length=m.length then some (p.1,q.2) else none else none:=by
 cases ha:as en with
 |none=>unfold zad;rw[ha];rfl
 | some p =>
  obtain⟨e1,xs⟩:=p;show _=(zbp xs).bind _;cases hf:zbp xs with
  | none =>
   unfold zad;rw[ha];show (if (decide (xs.map isR=m)&&_&&_)=true then _ else none)=none;rw[Ay (λz=>by obtain⟨ws,e⟩:=zoa m hm z;rw[e,zfw] at hf;cases hf)]
   rfl
  | some ws =>
   have ex:=zhg hf;subst ex;show _=if ws.length=m.length then _ else none;by_cases hl:ws.length=m.length
   ·rw [if_pos hl]
    have h1:=zh4 hm ws hl;cases hq:Φ ws with
    | none =>
     unfold zad;rw[ha];show (if (decide ((ws.map Sum.inl).map isR=m)&&zar e1 (ws.map Sum.inl)&&zcj (za4 (ws.map Sum.inl)))=true then _ else _)=_;have e:(ws.map Sum.inl).map isR=m:=by rw[<-h1,Bz];rfl
     rw[Aj e,ze1,zg9];show (za8 e1 (ws.map Sum.inl)).bind _=_;rw[zb8];show (Φ ws).bind _=_;rw[hq]
     rfl
    | some q =>
     obtain⟨ws',r⟩:=q;show _=if ws'.length=m.length then some (e1,r) else none;by_cases hl2:ws'.length=m.length
     ·rw [if_pos hl2]
      exact znh ha h1 hq #v[]
     ·rw [if_neg hl2]
      unfold zad;rw[ha];show (if (decide ((ws.map Sum.inl).map isR=m)&&zar e1 (ws.map Sum.inl)&&zcj (za4 (ws.map Sum.inl)))=true then _ else _)=_;have e:(ws.map Sum.inl).map isR=m:=by rw[<-h1,Bz];rfl
      rw[Aj e,ze1,zg9];show (za8 e1 (ws.map Sum.inl)).bind _=_;rw[zb8];show (Φ ws).bind _=_;rw[hq];show (if ws'.length=m.length then _ else none)=none;rw[if_neg hl2]
   ·rw [if_neg hl]
    unfold zad;rw[ha];show (if (decide ((ws.map Sum.inl).map isR=m)&&_&&_)=true then _ else none)=none;rw[Ay (λz=>hl (by rw[<-z,Ae,Ae]))]
    rfl
theorem zd1 (m:List Bool) (Φ:Fn) (as:GAs) (en:En) (hm:(m.all λb=>!b)=true):zad (true::m) Φ as en=(as en).bind λp=>match p.2 with
  | .inr i::xs=>(zbp xs).bind λws=>(match p.1[i]? with
   | some (some (st,true))=>if ws.length=m.length then (Φ (st::ws)).bind λq=>(match q.1 with
    |st'::wz=>if wz.length=m.length then some (p.1.set i (#v[st',5]),q.2) else none
    |[]=>none) else none
   |_=>none)
  |_=>none:=by
 cases ha:as en with
 |none=>unfold zad;rw[ha];rfl
 | some p =>
  obtain ⟨e1,xs⟩:=p;have base:zad (true::m) Φ as en=if decide (xs.map isR=true::m)&&zar e1 xs&&zcj (za4 xs) then (za8 e1 xs).bind λws=>(Φ ws).bind λq=>if q.1.length=(true::m).length then some (zau (za4 xs) e1 (za6 (true::m) q.1),q.2) else none else none:=by
   unfold zad;rw[ha];rfl
  have bad:xs.map isR≠true::m->zad (true::m) Φ as en=none:=λz=>by rw[base,Ay z];rfl
  have bad2:zar e1 xs=false->zad (true::m) Φ as en=none:=λz=>by rw[base,z,Gz];rfl
  simp only [Ec]
  match xs,ha,base,bad,bad2 with
  |[],ha,_,bad,_=>rw[bad (by simp)]
  |.inl w::xs,ha,_,bad,_=>rw[bad (by simp [isR])]
  | .inr i::xs,ha,base,bad,bad2 =>
   simp only;cases hf:zbp xs with
   | none=>rw [bad (λz=>by
     rw[Am] at z;injection z with _ z;obtain⟨ws,e⟩:=zoa m hm z;rw[e,zfw] at hf;cases hf)];rfl
   | some ws =>
    have ex:=zhg hf;subst ex;simp only [Ec];have no:(∀st,e1[i]?≠some (some (st,true)))->zar e1 (.inr i::ws.map Sum.inl)=false:=λz=>by
     unfold zar;rw [Bp];have:(match e1[i]? with | some (some (_,true))=>true | _=>false)=false:=by
      split
      ·rename_i q;exact absurd q (z _)
      ·rfl
     simp only [this,Ey]
    split
    ·rename_i st hst
     by_cases hl:ws.length=m.length
     ·rw [if_pos hl]
      have h1:=zh4 hm ws hl;cases hq:Φ (st::ws) with
      | none =>
       rw[base];split
       ·have rs:za8 e1 (.inr i::ws.map Sum.inl)=some (st::ws):=by
         show (resA e1 (.inr i)).bind _=_;have:resA e1 (.inr i)=some st:=by unfold resA;simp only [hst]
         rw[this];show (za8 e1 (ws.map Sum.inl)).bind _=_;rw[zb8]
         rfl
        rw[rs];show (Φ (st::ws)).bind _=_;rw[hq]
        rfl
       ·rfl
      | some q =>
       obtain ⟨ws',r⟩:=q;simp only [Ec];have nn:ws'.length≠(true::m).length->zad (true::m) Φ as en=none:=λz=>by
        rw[base];split
        ·have rs:za8 e1 (.inr i::ws.map Sum.inl)=some (st::ws):=by
          show (resA e1 (.inr i)).bind _=_;have:resA e1 (.inr i)=some st:=by unfold resA;simp only [hst]
          rw[this];show (za8 e1 (ws.map Sum.inl)).bind _=_;rw[zb8]
          rfl
         rw[rs];show (Φ (st::ws)).bind _=_;rw[hq];show (if ws'.length=(true::m).length then _ else none)=none;rw[if_neg z]
        ·rfl
       match ws',hq,nn with
       |[],hq,nn=>rw[nn (by simp)]
       | st'::wz,hq,nn =>
        simp only;by_cases hl2:wz.length=m.length
        ·rw [if_pos hl2]
         exact zrz ha (by rw[h1]) hst hq #v[]
        ·rw[if_neg hl2,nn (by simpa using hl2)]
     ·rw [if_neg hl,bad (λz=>hl (by
       have:=congrArg List.length z;simpa using this))]
    ·rename_i hst
     exact bad2 (no λst z=>hst st z)
theorem oI_e {c:Int->Int->Bool}{g:Int->Int->W}{i j:Int}:oI c g (.int i) (.int j)=if c i j then #v[g i j,6] else none:=rfl
theorem z8d {i j:Int}:yes2 i j=true:=rfl
theorem z2g {ws:List W}:seqW (.tup ws)=some ws:=rfl
theorem z2a {ws:List W}:seqW (.lst ws)=some ws:=rfl
theorem zzp {ws:List W}:seqL (.lst ws)=some ws:=rfl
theorem yc4 {a:W}{i:Int}:oIx a (.int i)=(seqW a).bind λws=>(atI ws i).bind λw=>#v[w,6]:=by cases a<;>rfl
theorem z90 {en:En}{w:W}:resA en (.inl w)=some w:=rfl
theorem z9x {en:En}{i:Nat}:resA en (.inr i)=match en[i]? with|some (some (w,_))=>some w|_=>none:=by
 unfold resA;rfl
theorem yd4 {i j:Int}:oEq (.int i) (.int j)=some (.bl (decide (i=j)),false):=rfl
theorem yde {i j:Int}:oNe (.int i) (.int j)=some (.bl (!decide (i=j)),false):=rfl
theorem zz7 {w:W}{xs:List (W ⊕ Nat)}:zbp (.inl w::xs)=(zbp xs).bind λws=>some (w::ws):=rfl
theorem zzi:zbp []=some []:=rfl
theorem z7y {en:En}{x:W ⊕ Nat}{xs:List (W ⊕ Nat)}:za8 en (x::xs)=(resA en x).bind λw=>(za8 en xs).bind λws=>some (w::ws):=rfl
theorem z6e {en:En}:za8 en []=some []:=rfl
theorem z52 {b:Bool}{m:List Bool}{w:W}{ws:List W}:za6 (b::m) (w::ws)=some (w,b)::za6 m ws:=rfl
theorem z6h {ws:List W}:za6 [] ws=[]:=by unfold za6;simp
theorem z8x {en:En}:zcs [] [] en=some []:=rfl
theorem z8l {m:List Bool}{w u:W}{ws:List W}{en:En}:zcs (true::m) (u::ws) (#v[w,5]::en)=(zcs m ws en).bind λr=>some (w::r):=rfl
theorem yb2 {m:List Bool}{w:W}{ws:List W}{x:Option (W×Bool)}{en:En}:zcs (false::m) (w::ws) (x::en)=(zcs m ws en).bind λr=>some (w::r):=rfl
theorem yc5 {x:W}{xs:List W}:atI (x::xs) 0=some x:=by
 have:=zb0 (xs:=x::xs) (i:=0) rfl;exact this
theorem ydf {x y:W}{xs:List W}:atI (x::y::xs) 1=some y:=by
 have:=zb0 (xs:=x::y::xs) (i:=1) rfl;exact this
theorem ycp {x y z:W}{xs:List W}:atI (x::y::z::xs) 2=some z:=by
 have:=zb0 (xs:=x::y::z::xs) (i:=2) rfl;exact this
theorem z03 {n:Nat}:((no_index (OfNat.ofNat n):Nat):Int)=(OfNat.ofNat n:Int):=rfl
theorem z1g {xs ys:List W}:oAdd (.lst xs) (.lst ys)=if xs.length+ys.length<=sizeLine then #v[(xs++ys),2] else none:=by
 by_cases h:xs.length+ys.length<=sizeLine
 ·rw[if_pos h];exact zt4 h
 ·rw [if_neg h];show oOr oCat (oOr zzx (oOr z4n z2m)) (.lst xs) (.lst ys)=none;have e:oCat (.lst xs) (.lst ys)=none:=by
   show (if xs.length+ys.length<=sizeLine then _ else none)=none;rw[if_neg h]
  unfold oOr;rw[e]
  rfl
theorem zoj:oIsi .int .non=some #v[2,8]:=rfl
theorem ztm {b:Bool}:oIsi .int (.bl b)=some #v[1,11]:=rfl
theorem zoe {n:Int}:oIsi .int (.int n)=some #v[1,11]:=rfl
theorem zph {x:Str}:oIsi .int (.str x)=some #v[2,8]:=rfl
theorem zot {xs:List W}:oIsi .int (.tup xs)=some #v[2,8]:=rfl
theorem zpi {xs:List W}:oIsi .int (.lst xs)=some #v[2,8]:=rfl
theorem zo2:oIsi .int .dic=some #v[2,8]:=rfl
theorem zm1:oIsi .bool .non=some #v[2,8]:=rfl
theorem zo5 {b:Bool}:oIsi .bool (.bl b)=some #v[1,11]:=rfl
theorem zmi {n:Int}:oIsi .bool (.int n)=some #v[2,8]:=rfl
theorem zl6 {x:Str}:oIsi .bool (.str x)=some #v[2,8]:=rfl
theorem znt {xs:List W}:oIsi .bool (.tup xs)=some #v[2,8]:=rfl
theorem znp {xs:List W}:oIsi .bool (.lst xs)=some #v[2,8]:=rfl
theorem zmf:oIsi .bool .dic=some #v[2,8]:=rfl
theorem zod:oIsi .str .non=some #v[2,8]:=rfl
theorem zsh {b:Bool}:oIsi .str (.bl b)=some #v[2,8]:=rfl
theorem zou {n:Int}:oIsi .str (.int n)=some #v[2,8]:=rfl
theorem zpb {x:Str}:oIsi .str (.str x)=some #v[1,11]:=rfl
theorem zok {xs:List W}:oIsi .str (.tup xs)=some #v[2,8]:=rfl
theorem zpk {xs:List W}:oIsi .str (.lst xs)=some #v[2,8]:=rfl
theorem zoh:oIsi .str .dic=some #v[2,8]:=rfl
theorem zlj:oIsi .tuple .non=some #v[2,8]:=rfl
theorem zn9 {b:Bool}:oIsi .tuple (.bl b)=some #v[2,8]:=rfl
theorem zk3 {n:Int}:oIsi .tuple (.int n)=some #v[2,8]:=rfl
theorem zk7 {x:Str}:oIsi .tuple (.str x)=some #v[2,8]:=rfl
theorem zj3 {xs:List W}:oIsi .tuple (.tup xs)=some #v[1,11]:=rfl
theorem zky {xs:List W}:oIsi .tuple (.lst xs)=some #v[2,8]:=rfl
theorem zlf:oIsi .tuple .dic=some #v[2,8]:=rfl
theorem zlz:oIsi .list .non=some #v[2,8]:=rfl
theorem zoq {b:Bool}:oIsi .list (.bl b)=some #v[2,8]:=rfl
theorem znm {n:Int}:oIsi .list (.int n)=some #v[2,8]:=rfl
theorem zl1 {x:Str}:oIsi .list (.str x)=some #v[2,8]:=rfl
theorem zm2 {xs:List W}:oIsi .list (.tup xs)=some #v[2,8]:=rfl
theorem zmn {xs:List W}:oIsi .list (.lst xs)=some #v[1,11]:=rfl
theorem zm6:oIsi .list .dic=some #v[2,8]:=rfl
theorem yco {i j:Bool}:oEq (.bl i) (.bl j)=some (.bl (decide (i=j)),false):=rfl
theorem yc9 {i j:Bool}:oNe (.bl i) (.bl j)=some (.bl (!decide (i=j)),false):=rfl
theorem yc2 {i j:Str}:oEq (.str i) (.str j)=some (.bl (decide (i=j)),false):=rfl
theorem ydj {i j:Str}:oNe (.str i) (.str j)=some (.bl (!decide (i=j)),false):=rfl
theorem ycl {i j:Bool}:oIs (.bl i) (.bl j)=some (.bl (decide (i=j)),false):=rfl
theorem z22 {f:List Bool->Bool}{bs:List Bool}:oBl f [.lst (bs.map W.bl)]=some (.bl (f bs),false):=by
 show (zpz (bs.map W.bl)).bind _=_;rw[zn4];rfl
theorem zmo {cap:Cap}{it:GL}{te:GE}{en e0:En}{ws rs:List W}{xs:En} (hi:it en=some (e0,ws)) (hz:ws.length<=1000) (hl:rs.length=ws.length) (hn:zcj cap=true) (hk:(capKeep cap).contains 1=false) (hx:zfy cap e0=none::none::xs) (hb:∀v0 v1,zau cap e0 (v0::v1::xs)=e0)
  (ht:∀(i:Nat) v0 w r,ws[i]?=some w->rs[i]?=some r->∃u f,te (v0::#v[w,6]::xs)=some (v0::u::xs,(r,f))) :
  zbb cap (.nm 1) it gYes te en=some (e0,(.lst rs,true)):=by
 have s9:(1000:Nat)<=sizeLine:=by decide
 obtain⟨ce',out,hc,hp⟩:=zkz (cap:=cap) (T:=.nm 1) (tc:=gYes) (te:=te) (λi c dn=>(∃v0 v1,c=v0::v1::xs)/\dn=rs.take i) hi hn #v[] ⟨⟨_,_,hx⟩,rfl⟩
  (λi w c dn hw hp=>by
   obtain⟨⟨v0,v1,rfl⟩,rfl⟩:=hp;have lt:i<ws.length:=(Ak.mp hw).1;have hr:rs[i]?=some rs[i]:=Ac #v[];obtain⟨u,f,h⟩:=ht i v0 w _ hw hr;refine⟨v0::#v[w,6]::xs,?_,.inl ⟨_,_,_,rfl,h,⟨_,_,rfl⟩,?_⟩⟩
   ·show (if (capKeep cap).contains 1 || !decide (1<(v0::v1::xs).length) then none else _)=_;rw[hk,Aj (by rw[Be,Be];omega)]
    rfl
   ·show rs.take i ++ [rs[i]]=rs.take (i+1);rw[Ev,hr];rfl)
 obtain⟨⟨v0,v1,rfl⟩,rfl⟩:=hp;rw[hb,<-hl,Ci] at hc;exact hc
theorem za0 {T:List Fd}{bn:List Str}{d:Nat}{x:Str}{t:Fd}{g:GS}(h:T.find? (·.nm==x)=some t)(hb:zal T bn (sem T bn (d+2)) (d+2) t=some g):sem T bn (d+3) x=zae t.m t.N.length g:=by
 show (match T.find? (·.nm==x) with|some t=>fnAt T bn (sem T bn (d+2)) (d+2) t|none=>λ_=>none)=_;rw[h];show fnAt T bn (sem T bn (d+2)) (d+2) t=_;unfold fnAt;rw[hb]
def evA:=And.intro @oI_e ( And.intro @z8d ( And.intro @zus ( And.intro @z1g ( And.intro @z2g ( And.intro @z2a ( And.intro @zzp ( And.intro @yc4 ( And.intro @z90 ( And.intro @z9x ( And.intro @yd4 ( And.intro @yde ( And.intro @yco ( And.intro @yc9 ( And.intro @yc2 ( And.intro @ydj ( And.intro @ycl ( And.intro @z22 ( And.intro @zz7 ( And.intro @zzi ( And.intro @z7y ( And.intro @z6e ( And.intro @z52 ( And.intro @z6h ( And.intro @z8x ( And.intro @z8l ( And.intro @yb2 ( And.intro (λΦ as en=>zdg [false] Φ as en rfl) ( And.intro (λΦ as en=>zdg [false,false] Φ as en rfl) ( And.intro (λΦ as en=>zdg [false,false,false] Φ as en rfl) ( And.intro (λΦ as en=>zdg [false,false,false,false] Φ as en rfl) ( And.intro (λΦ as en=>zd1 [] Φ as en rfl) ( And.intro (λΦ as en=>zd1 [false] Φ as en rfl) ( And.intro (λΦ as en=>zd1 [false,false] Φ as en rfl) ( And.intro (λΦ as en=>zd1 [false,false,false] Φ as en rfl) ( And.intro @yc5 ( And.intro @ydf ( And.intro @ycp ( And.intro @sizeLine_eq ( And.intro @zoj ( And.intro @ztm ( And.intro @zoe ( And.intro @zph ( And.intro @zot ( And.intro @zpi ( And.intro @zo2 ( And.intro @zm1 ( And.intro @zo5 ( And.intro @zmi ( And.intro @zl6 ( And.intro @znt ( And.intro @znp ( And.intro @zmf ( And.intro @zod ( And.intro @zsh ( And.intro @zou ( And.intro @zpb ( And.intro @zok ( And.intro @zpk ( And.intro @zoh ( And.intro @zlj ( And.intro @zn9 ( And.intro @zk3 ( And.intro @zk7 ( And.intro @zj3 ( And.intro @zky ( And.intro @zlf ( And.intro @zlz ( And.intro @zoq ( And.intro @znm ( And.intro @zl1 ( And.intro @zm2 ( And.intro @zmn ( And.intro @zm6 ( And.intro @z03 ( And.intro @Option.bind_some.{0,0} ( And.intro @Option.bind_none.{0,0} ( And.intro @List.length_cons.{0} ( And.intro @List.length_nil.{0} ( And.intro @List.getElem?_cons_zero.{0} ( And.intro @List.getElem?_cons_succ.{0} ( And.intro @List.set_cons_zero.{0} ( And.intro @List.set_cons_succ.{0} ( And.intro @List.nil_append.{0} ( And.intro @List.cons_append.{0} ( And.intro @List.contains_nil.{0} ( And.intro @Bool.false_or ( And.intro @Bool.or_false ( And.intro @Bool.not_true ( And.intro @Bool.not_false ( And.intro @Ce ( And.intro @Nat.lt_add_one ( And.intro @Nat.zero_lt_succ ( And.intro @decide_true ( And.intro @decide_false ( And.intro @Cq ( And.intro @List.elem_nil.{0} ( And.intro @List.elem_cons.{0} ( And.intro @Cm ( And.intro @Bool.true_eq_false ( And.intro @Bool.or_self ( And.intro @Bool.and_self ( And.intro @Bool.true_and ( And.intro @Ey ( And.intro @Bool.and_true ( And.intro @Gz ( And.intro @Bool.true_or ( And.intro @Bool.or_true ( And.intro @Es ( And.intro @gVar.eq_1 ( And.intro @zaa.eq_1 ( And.intro @gC.eq_1 ( And.intro @gArg.eq_1 ( And.intro @gA0.eq_1 ( And.intro @gCns.eq_1 ( And.intro @gOp1.eq_1 ( And.intro @gOp2.eq_1 ( And.intro @gOpN.eq_1 ( And.intro @zah.eq_1 ( And.intro @gAnd.eq_1 ( And.intro @gOr.eq_1 ( And.intro @gNot.eq_1 ( And.intro @zi1.eq_1 ( And.intro @gOrT.eq_1 ( And.intro @zik.eq_1 ( And.intro @gIf.eq_1 ( And.intro @zcw.eq_1 ( And.intro @zat.eq_1 ( And.intro @zqs.eq_1 ( And.intro @zbt.eq_1 ( And.intro @zfq.eq_1 ( And.intro @gSl.eq_1 ( And.intro @zan.eq_1 ( And.intro @zbs.eq_1 ( And.intro @zuv.eq_1 ( And.intro @gRev.eq_1 ( And.intro @zbq.eq_1 ( And.intro @gBrk.eq_1 ( And.intro @gCnt.eq_1 ( And.intro @gSeq.eq_1 ( And.intro @gRet.eq_1 ( And.intro @ydy.eq_1 ( And.intro @gIfS.eq_1 ( And.intro @zeq.eq_1 ( And.intro @gSet.eq_1 ( And.intro @gAsg.eq_1 ( And.intro @gPar.eq_1 ( And.intro @za9.eq_1 ( And.intro @gApp.eq_1 ( And.intro @gExt.eq_1 ( And.intro @gAug.eq_1 ( And.intro @gYes.eq_1 ( And.intro @zb2.eq_1 ( And.intro @gZip.eq_1 ( And.intro @zob.eq_1 ( And.intro @zae.eq_1 ( And.intro @ydi.eq_1 (@ydn.eq_1)))))))))))))))))))))))))))))))))))))))))))))))))))))))))))))))))))))))))))))))))))))))))))))))))))))))))))))))))))))))))))))))))))))))))))))))))))))))))))))
end L2
local macro_rules | `(tactic| simp! [$xs,*])=>`(tactic| simp only [L2.evA,L2.tgSet,L2.keyW,L2.oNeg,L2.oLen,L2.setAll,List.replicate,List.contains,eq_self,Nat.reduceAdd,Nat.reduceSub,Nat.reduceLT,Nat.reduceLeDiff,reduceIte,reduceCtorEq,Nat.reduceEqDiff,Nat.reduceBEq,↓reduceIte,Int.reduceEq,Int.reduceLE,Int.reduceLT,Int.reduceAdd,Int.reduceSub,Int.reduceMul,Int.reduceNeg,$xs,*])
namespace L2
open PySem PySem.Spec PyProof.Rows
def zyc (Ψ:Str->Fn):GE:=zbb [none,none,some 3] (.nm 1) (zan (gVar 2)) gYes (gOp2 oAdd (zaa 1) (gArg (zcw (gCns #v[2,4] gA0))))
def zv3 (Ψ:Str->Fn):GS:=(gSet [] 2 (gOp2 oAdd (zaa 2) (gArg (zyc Ψ))))
def zxk (Ψ:Str->Fn):GS:=gFor [] (.nm 3) (zbs (gCns (zaa 0) gA0)) (zv3 Ψ)
def zwz (Ψ:Str->Fn):GE:=zbb [none,none,some 1] (.nm 1) (zan (gVar 2)) (zah (gOp2 (oI yes2 λi j=>.bl (decide (i<=j))) (gArg (gOpN oLen (gCns (zaa 1) gA0))) (zaa 2))) (gVar 1)
def zrn (Ψ:Str->Fn):GS:=(gSeq (gSet [] 2 (zat (gCns (gArg (zcw gA0)) gA0))) (gSeq (zxk Ψ) (gRet (zqk (zcw (gCns #v[6,10] (gCns #v[0,4] gA0))) (gArg (zwz Ψ))))))
def zft (Ψ:Str->Fn):GE:=zbb [none,none,some 2] (.nm 1) (zan (gVar 1)) gYes (gOp2 oEq (gArg (gOp2 #v[0,0,2] (gArg (gOp2 #v[0,0,3] (zaa 2) (gArg (gOp2 #v[0,0,1] #v[1] (zaa 1))))) #v[2])) #v[1])
def zfo (Ψ:Str->Fn):GE:=zbb [none,none,some 3] (.nm 1) (zan (gVar 1)) (zah (gOpN (oBl λbs=>bs.all id) (gCns (gArg (zft Ψ)) gA0))) (gVar 1)
def zec (Ψ:Str->Fn):GS:=(gSeq (gSet [] 4 (zfo Ψ)) (zeq (gApp 2 (gOp2 #v[0,0,2] (gArg (gOpN oLen (gCns (zaa 4) gA0))) #v[2]))))
noncomputable def zfk (Ψ:Str->Fn):GS:=gFor [] (.nm 3) (zbs #v[8,8]) (zec Ψ)
def zni (Ψ:Str->Fn):GS:=(gSeq (gSet [] 2 (zat gA0)) (gSeq (zfk Ψ) (zb2 [] 2)))
def zlm (Ψ:Str->Fn):GE:=zbb [none,none,none] (.tp [1,2]) (gZip (gVar 3) #v[0,13]) (zah (gOp2 oEq (zaa 2) #v[1])) (gVar 1)
def zvr (Ψ:Str->Fn):GS:=(gSeq (gSet [0] 3 (zad [false,false] (Ψ "_law_terms") (gCns #v[1,4] (gCns #v[2,4] gA0)))) (gRet (gOpN zc2 (gCns (gArg (zlm Ψ)) gA0))))
noncomputable def tmW (t:List Nat):W:=.tup (t.map λl=>.int (l:Nat))
noncomputable def zxw:Nat->Nat->Nat->Nat->List (List Nat)
 |_,_,_,0=>[[]]
 |0,_,_,_+1=>[]
 |fu+1,lo,m,k+1=>(if lo<m then (zxw fu (lo+1) m k).map (lo :: ·)++zxw fu (lo+1) m (k+1) else [])
def zam (m most:Nat):List (List Nat):=(List.range (most+1)).flatMap λk=>zxw (m+1) 0 m k
noncomputable def zpm (Φ:Fn):Prop:=∀m most:Nat,m<=6->most<=6->Φ [.int m,.int most]=some ([.int m,.int most],(.lst ((zam m most).map tmW),true))
noncomputable def tmP (Ψ:Str->Fn) (m k:Nat):Prop:=zae [false,false] 4 (zrn Ψ) [.int (m:Int),.int (k:Int)]=some ([.int (m:Int),.int (k:Int)],(.lst ((zam m k).map tmW),true))
theorem tm0 (Ψ:Str->Fn):tmP Ψ 0 0/\tmP Ψ 0 1/\tmP Ψ 0 2/\tmP Ψ 0 3/\tmP Ψ 0 4/\tmP Ψ 0 5/\tmP Ψ 0 6:=by
 unfold tmP;refine⟨?_,?_,?_,?_,?_,?_,?_⟩<;>kernel_rfl
theorem tm1 (Ψ:Str->Fn):tmP Ψ 1 0/\tmP Ψ 1 1/\tmP Ψ 1 2/\tmP Ψ 1 3/\tmP Ψ 1 4/\tmP Ψ 1 5/\tmP Ψ 1 6:=by
 unfold tmP;refine⟨?_,?_,?_,?_,?_,?_,?_⟩<;>kernel_rfl
theorem tm2 (Ψ:Str->Fn):tmP Ψ 2 0/\tmP Ψ 2 1/\tmP Ψ 2 2/\tmP Ψ 2 3/\tmP Ψ 2 4/\tmP Ψ 2 5/\tmP Ψ 2 6:=by
 unfold tmP;refine⟨?_,?_,?_,?_,?_,?_,?_⟩<;>kernel_rfl
theorem tm3 (Ψ:Str->Fn):tmP Ψ 3 0/\tmP Ψ 3 1/\tmP Ψ 3 2/\tmP Ψ 3 3/\tmP Ψ 3 4/\tmP Ψ 3 5/\tmP Ψ 3 6:=by
 unfold tmP;refine⟨?_,?_,?_,?_,?_,?_,?_⟩<;>kernel_rfl
theorem tm4 (Ψ:Str->Fn):tmP Ψ 4 0/\tmP Ψ 4 1/\tmP Ψ 4 2/\tmP Ψ 4 3/\tmP Ψ 4 4/\tmP Ψ 4 5/\tmP Ψ 4 6:=by
 unfold tmP;refine⟨?_,?_,?_,?_,?_,?_,?_⟩<;>kernel_rfl
theorem tm5 (Ψ:Str->Fn):tmP Ψ 5 0/\tmP Ψ 5 1/\tmP Ψ 5 2/\tmP Ψ 5 3/\tmP Ψ 5 4/\tmP Ψ 5 5/\tmP Ψ 5 6:=by
 unfold tmP;refine⟨?_,?_,?_,?_,?_,?_,?_⟩<;>kernel_rfl
theorem tm6 (Ψ:Str->Fn):tmP Ψ 6 0/\tmP Ψ 6 1/\tmP Ψ 6 2/\tmP Ψ 6 3/\tmP Ψ 6 4/\tmP Ψ 6 5/\tmP Ψ 6 6:=by
 unfold tmP;refine⟨?_,?_,?_,?_,?_,?_,?_⟩<;>kernel_rfl
theorem z1o (Ψ:Str->Fn):zpm (zae [false,false] 4 (zrn Ψ)):=λm k hm hk=>by
 match m,k,hm,hk with
 |0,0,_,_=>exact (tm0 Ψ).1
 |0,1,_,_=>exact (tm0 Ψ).2.1
 |0,2,_,_=>exact (tm0 Ψ).2.2.1
 |0,3,_,_=>exact (tm0 Ψ).2.2.2.1
 |0,4,_,_=>exact (tm0 Ψ).2.2.2.2.1
 |0,5,_,_=>exact (tm0 Ψ).2.2.2.2.2.1
 |0,6,_,_=>exact (tm0 Ψ).2.2.2.2.2.2
 |1,0,_,_=>exact (tm1 Ψ).1
 |1,1,_,_=>exact (tm1 Ψ).2.1
 |1,2,_,_=>exact (tm1 Ψ).2.2.1
 |1,3,_,_=>exact (tm1 Ψ).2.2.2.1
 |1,4,_,_=>exact (tm1 Ψ).2.2.2.2.1
 |1,5,_,_=>exact (tm1 Ψ).2.2.2.2.2.1
 |1,6,_,_=>exact (tm1 Ψ).2.2.2.2.2.2
 |2,0,_,_=>exact (tm2 Ψ).1
 |2,1,_,_=>exact (tm2 Ψ).2.1
 |2,2,_,_=>exact (tm2 Ψ).2.2.1
 |2,3,_,_=>exact (tm2 Ψ).2.2.2.1
 |2,4,_,_=>exact (tm2 Ψ).2.2.2.2.1
 |2,5,_,_=>exact (tm2 Ψ).2.2.2.2.2.1
 |2,6,_,_=>exact (tm2 Ψ).2.2.2.2.2.2
 |3,0,_,_=>exact (tm3 Ψ).1
 |3,1,_,_=>exact (tm3 Ψ).2.1
 |3,2,_,_=>exact (tm3 Ψ).2.2.1
 |3,3,_,_=>exact (tm3 Ψ).2.2.2.1
 |3,4,_,_=>exact (tm3 Ψ).2.2.2.2.1
 |3,5,_,_=>exact (tm3 Ψ).2.2.2.2.2.1
 |3,6,_,_=>exact (tm3 Ψ).2.2.2.2.2.2
 |4,0,_,_=>exact (tm4 Ψ).1
 |4,1,_,_=>exact (tm4 Ψ).2.1
 |4,2,_,_=>exact (tm4 Ψ).2.2.1
 |4,3,_,_=>exact (tm4 Ψ).2.2.2.1
 |4,4,_,_=>exact (tm4 Ψ).2.2.2.2.1
 |4,5,_,_=>exact (tm4 Ψ).2.2.2.2.2.1
 |4,6,_,_=>exact (tm4 Ψ).2.2.2.2.2.2
 |5,0,_,_=>exact (tm5 Ψ).1
 |5,1,_,_=>exact (tm5 Ψ).2.1
 |5,2,_,_=>exact (tm5 Ψ).2.2.1
 |5,3,_,_=>exact (tm5 Ψ).2.2.2.1
 |5,4,_,_=>exact (tm5 Ψ).2.2.2.2.1
 |5,5,_,_=>exact (tm5 Ψ).2.2.2.2.2.1
 |5,6,_,_=>exact (tm5 Ψ).2.2.2.2.2.2
 |6,0,_,_=>exact (tm6 Ψ).1
 |6,1,_,_=>exact (tm6 Ψ).2.1
 |6,2,_,_=>exact (tm6 Ψ).2.2.1
 |6,3,_,_=>exact (tm6 Ψ).2.2.2.1
 |6,4,_,_=>exact (tm6 Ψ).2.2.2.2.1
 |6,5,_,_=>exact (tm6 Ψ).2.2.2.2.2.1
 |6,6,_,_=>exact (tm6 Ψ).2.2.2.2.2.2
 |m+7,_,h,_=>omega
 |_,k+7,_,h=>omega
theorem zfl {α:Type}{cap:Cap}{it:GL}{tc:GT}{te:GE}{en e0:En}{ts:List α}{xs:En} (f:α->W) (p:α->Bool) (g:α->W) (hi:it en=some (e0,ts.map f)) (hz:ts.length<=1000) (hn:zcj cap=true) (hk:(capKeep cap).contains 1=false) (hx:zfy cap e0=none::none::xs) (hb:∀v0 v1,zau cap e0 (v0::v1::xs)=e0)
  (ht:∀v0 a,a∈ts->∃u,tc (v0::#v[f a,6]::xs)=some (v0::u::xs,p a)/\(p a=true->∃u' b,te (v0::u::xs)=some (v0::u'::xs,(g a,b)))) :
  zbb cap (.nm 1) it tc te en=some (e0,(.lst ((ts.filter p).map g),true)):=by
 have s9:(1000:Nat)<=sizeLine:=by decide
 obtain ⟨ce',out,hc,hp⟩:=zkz (cap:=cap) (T:=.nm 1) (tc:=tc) (te:=te) (λi c dn=>(∃v0 v1,c=v0::v1::xs)/\dn=((ts.take i).filter p).map g) hi hn (by rw [Ae];omega) ⟨⟨_,_,hx⟩,rfl⟩
  (λi w c dn hw hp=>by
   obtain⟨⟨v0,v1,rfl⟩,rfl⟩:=hp;rw[Au] at hw;cases ha:ts[i]? with
   |none=>rw[ha] at hw;exact noSome hw
   | some a =>
    rw[ha] at hw;obtain rfl:=sI hw;obtain⟨u,h1,h2⟩:=ht v0 a (Bi ha);have tk:ts.take (i+1)=ts.take i++[a]:=by rw[Ev,ha];rfl
    refine⟨v0::#v[f a,6]::xs,?_,?_⟩
    ·show (if (capKeep cap).contains 1 || !decide (1<(v0::v1::xs).length) then none else _)=_
     rw[hk,Aj (by rw[Be,Be];omega)]
     rfl
    ·cases q:p a with
     | true =>
      obtain⟨u',b,h3⟩:=h2 q;rw[q] at h1;refine .inl ⟨_,_,_,h1,h3,⟨_,_,rfl⟩,?_⟩;rw[tk,List.filter_append,Ca,List.filter_cons_of_pos q];rfl
     | false =>
      rw[q] at h1;refine .inr ⟨_,h1,⟨_,_,rfl⟩,?_⟩;rw[tk,List.filter_append,List.filter_cons_of_neg (by rw[q];decide),List.filter_nil,Ch])
 obtain⟨⟨v0,v1,rfl⟩,rfl⟩:=hp;rw[hb,Ae,Ci] at hc;exact hc
theorem rng1_n {a:GA}{en e1:En}{n:Nat}(h:a en=some (e1,.inl (.int (n:Nat))))(hn:n<=1000000):zbs (gCns a gA0) en=some (e1,rngW 0 n):=by
 have r:zfu (n:Int)=true:=by
  unfold zfu;rw[Aj #v[],Aj #v[]];rfl
 have h2:gCns a gA0 en=some (e1,[.inl (.int (n:Nat))]):=by unfold gCns;rw[h];rfl
 have:=z4y h2 rfl r;rw[Es] at this;exact this
theorem pow1 {l:Nat}(h:l<=100):cPow 1 (l:Int)=true:=by
 unfold cPow;rw[Aj #v[],Aj #v[]];rfl
theorem za3 (l:Nat):(1:Int)*2^l=((2^l:Nat):Int):=by rw[Int.one_mul];norm_cast
theorem z1x (l:Nat):(((2^l:Nat):Int)).natAbs.log2=l:=by
 rw[Int.natAbs_natCast];exact Nat.log2_two_pow
theorem divP {p:Int}{l:Nat}(h:l<=100):cDiv p ((2^l:Nat):Int)=true:=by
 unfold cDiv;have:0<2^l:=Nat.pow_pos #v[0,9];rw[Aj #v[],Aj (by rw[z1x];omega)];rfl
noncomputable def hasT (t:List Nat) (p:Nat):Bool:=t.all λl=>decide (p/2^l%2=1)
def valF (ts:List (List Nat)) (p:Nat):Int:=(((ts.filter λt=>hasT t p).length%2:Nat):Int)
theorem c1v {Ψ:Str->Fn}{v0:Option (W×Bool)}{t:List Nat}{p:Nat} (h6:∀l∈t,l<64) (hl:t.length<=64):zft Ψ [v0,some (tmW t,false),some (.int (p:Nat),false)]=some ([v0,some (tmW t,false),some (.int (p:Nat),false)],(.lst ((t.map λl=>decide (p/2^l%2=1)).map W.bl),true)):=by
 unfold zft;refine zmo (xs:=[#v[(p:Nat),0]]) (e0:=[v0,#v[tmW t,6],#v[(p:Nat),0]]) (ws:=t.map λl=>.int (l:Nat)) (by unfold tmW;simp! []) (by rw[Ae];omega) (by rw[Ae,Ae,Ae]) rfl rfl rfl (λ_ _=>rfl) λi v0 w r hw hr=>?_;rw[Au] at hw;rw[Au,Au] at hr;cases ha:t[i]? with
 |none=>rw[ha] at hw;exact noSome hw
 | some l =>
  rw [ha] at hw hr;obtain rfl:=sI hw;obtain rfl:=sI hr;have ll:=h6 l (Bi ha);have e1:=pow1 (l:=l) (by omega);have e2:=divP (p:=(p:Int)) (l:=l) (by omega);have e3:((p:Int)/((2^l:Nat):Int)%2=1)=(p/2^l%2=1):=by
   rw[<-Int.natCast_ediv];apply propext;constructor<;>intro h<;>omega
  refine⟨#v[(l:Nat),0],false,?_⟩;simp! [e1,za3,e2,e3]
theorem c2v {Ψ:Str->Fn}{a c e:Option (W×Bool)}{ts:List (List Nat)}{p:Nat}(h6:∀t∈ts,∀l∈t,l<64)(hl:∀t∈ts,t.length<=64)(hz:ts.length<=64):zfo Ψ [a,#v[(ts.map tmW),3],c,#v[(p:Nat),0],e]=some ([a,#v[(ts.map tmW),3],c,#v[(p:Nat),0],e],(.lst ((ts.filter λt=>hasT t p).map tmW),true)):=by
 unfold zfo;refine zfl (xs:=[#v[(p:Nat),0]]) tmW (λt=>hasT t p) tmW (e0:=[a,#v[(ts.map tmW),3],c,#v[(p:Nat),0],e]) (by simp! []) #v[] rfl rfl rfl (λ_ _=>rfl) λv0 t ht=>?_;have c1:=c1v (Ψ:=Ψ) (v0:=v0) (t:=t) (p:=p) (h6 t ht) (hl t ht);have al:(t.map λl=>decide (p/2^l%2=1)).all id=hasT t p:=by unfold hasT;rw[List.all_map];rfl
 refine⟨#v[tmW t,6],?_,λ_=>⟨#v[tmW t,6],false,?_⟩⟩
 ·simp! [c1,al]
 ·simp! []
noncomputable def zk5 (Φ:Fn):Prop:=∀(m:Nat) (ts:List (List Nat)),m<=6->ts.length<=64->(∀t∈ts,∀l∈t,l<64)->(∀t∈ts,t.length<=64)->Φ [.int (m:Nat),.tup (ts.map tmW)]=some ([.int (m:Nat),.tup (ts.map tmW)],(.lst ((tab (2^m) (valF ts)).map W.int),true))
theorem zek {m:Nat}(h:m<=6):2^m<=64:=Nat.pow_le_pow_right #v[0,9] h
theorem b3v {Ψ:Str->Fn}{m i:Nat}{ts:List (List Nat)}{v4:Option (W×Bool)}(hi:i<=64)(hz:ts.length<=64)(h6:∀t∈ts,∀l∈t,l<64)(hl:∀t∈ts,t.length<=64):zec Ψ [#v[(m:Nat),0],#v[(ts.map tmW),3],#v[((tab i (valF ts)).map W.int),2],#v[(i:Nat),0],v4]=some ([#v[(m:Nat),0],#v[(ts.map tmW),3],#v[((tab (i+1) (valF ts)).map W.int),2],#v[(i:Nat),0],#v[((ts.filter λt=>hasT t i).map tmW),2]],.nx):=by
 have c2:=c2v (Ψ:=Ψ) (a:=#v[(m:Nat),0]) (c:=#v[((tab i (valF ts)).map W.int),2]) (e:=v4) (ts:=ts) (p:=i) h6 hl hz;have lt:(tab i (valF ts)).length<16777216:=by rw[za5];omega
 have em:(((ts.filter λt=>hasT t i).length:Nat):Int)%2=valF ts i:=by unfold valF;omega
 rw[z10 i,Ca];unfold zec;simp! [c2,Ae,em,lt,Am,List.map_nil]
theorem i3v {m:Nat}{b c d e:Option (W×Bool)}(hm:m<=6):zbs #v[8,8] [#v[(m:Nat),0],b,c,d,e]=some ([#v[(m:Nat),0],b,c,d,e],rngW 0 (2^m)):=by
 have p6:=zek hm;have e1:=pow1 (l:=m) #v[];refine rng1_n ?_ #v[];simp! [e1,za3]
theorem l3v {Ψ:Str->Fn}{m:Nat}{ts:List (List Nat)}(hm:m<=6)(hz:ts.length<=64)(h6:∀t∈ts,∀l∈t,l<64)(hl:∀t∈ts,t.length<=64):∃v3 v4,zfk Ψ [#v[(m:Nat),0],#v[(ts.map tmW),3],#v[[],2],none,none]=some ([#v[(m:Nat),0],#v[(ts.map tmW),3],#v[((tab (2^m) (valF ts)).map W.int),2],v3,v4],.nx):=by
 have p6:=zek hm;unfold zfk;obtain⟨en',h,v3,v4,rfl⟩:=zbv (mp:=[]) (T:=.nm 3) (body:=zec Ψ) (λi e=>∃v3 v4,e=[#v[(m:Nat),0],#v[(ts.map tmW),3],#v[((tab i (valF ts)).map W.int),2],v3,v4]) (i3v (m:=m) (b:=#v[(ts.map tmW),3]) (c:=#v[[],2]) (d:=none) (e:=none) hm) ⟨_,_,rfl⟩ λi w e hw hp=>by
  obtain⟨v3,v4,rfl⟩:=hp;obtain⟨li,rfl⟩:=zea hw;rw[Gv];exact⟨_,_,rfl,.inl (b3v #v[] hz h6 hl),_,_,rfl⟩
 rw[zd9] at h;exact⟨v3,v4,h⟩
theorem zyt (Ψ:Str->Fn):zk5 (zae [false,false] 5 (zni Ψ)):=λm ts hm hz h6 hl=>by
 obtain⟨v3,v4,lp⟩:=l3v (Ψ:=Ψ) hm hz h6 hl;unfold zni;simp! [lp]
theorem z9j {xs ys:List W}{i:Nat}{w:W}(h:(zipW xs ys)[i]?=some w):∃x y,xs[i]?=some x/\ys[i]?=some y/\w=.tup [x,y]:=by
 have l:=(Ak.mp h).1;rw[ze9] at l;have hx:xs[i]?=some xs[i]:=Ac #v[];have hy:ys[i]?=some ys[i]:=Ac #v[];rw[zj7 hx hy] at h;obtain rfl:=sI h;exact⟨_,_,hx,hy,rfl⟩
noncomputable def zwv (Φ:Fn):Prop:=∀(k:Nat) (st:W) (m most:Nat),HS k st->k+100<big->m<=6->most<=6->∃(st':W) (ts:List (List Nat)),Φ [st,.int (m:Nat),.int (most:Nat)]=some ([st',.int (m:Nat),.int (most:Nat)],(.tup (ts.map tmW),false))/\HS (k+66) st'/\ts.Sublist (zam m most)
theorem zwl:∀m most:Fin 7,(zam m.val most.val).length<=64/\∀t∈zam m.val most.val,t.length<=6/\∀l∈t,l<m.val:=by decide +kernel
theorem zhe {m most:Nat}(hm:m<=6)(hk:most<=6):(zam m most).length<=64/\∀t∈zam m most,t.length<=6/\∀l∈t,l<m:=zwl ⟨m,by omega⟩ ⟨most,by omega⟩
theorem z6g {Ψ:Str->Fn} (hT:zpm (Ψ "_law_terms")) (hB:znc (Ψ "_law_bits")):zwv (zae [true,false,false] 4 (zvr Ψ)):=λk st m most hs hk hm ho=>by
 have s9:(1000:Nat)<=sizeLine:=by decide
 obtain⟨tl,_⟩:=zhe hm ho;have t1:=hT m most hm ho;nofun;obtain⟨st',xs,b1,g1,xl,xb⟩:=hB k st ((zam m most).length:Nat) hs hk #v[] #v[];ac_rfl;have lx:xs.length=(zam m most).length:=by omega
 have cc:∃ts:List (List Nat),zlm Ψ #v[4,12]=some (#v[1,12],(.lst (ts.map tmW),true))/\ts.Sublist (zam m most):=by
  unfold zlm;obtain ⟨ce',out,hc,hp⟩:=zkz (cap:=[none,none,none]) (T:=.tp [1,2]) (tc:=zah (gOp2 oEq (zaa 2) (gArg (gC (.int 1))))) (te:=gVar 1) (it:=gZip (gVar 3) #v[0,13]) (en:=#v[4,12]) (e0:=#v[1,12]) (ws:=zipW ((zam m most).map tmW) (xs.map W.int)) (λi c dn=>(∃v0 v1 v2,c=[v0,v1,v2])/\∃ts:List (List Nat),dn=ts.map tmW/\ts.Sublist ((zam m most).take i))
   (by simp! [Ae,b1]) rfl (by rw [ze9,Ae,Ae];omega) ⟨⟨_,_,_,rfl⟩,[],rfl,List.nil_sublist _⟩ λi w c dn hw hp=>by
    nofun;obtain⟨⟨v0,v1,v2,rfl⟩,ts,rfl,hsub⟩:=hp;obtain⟨x,y,hx,hy,rfl⟩:=z9j hw;ac_rfl;rw[Au] at hx hy;cases ha:(zam m most)[i]? with
    |none=>rw[ha] at hx;exact noSome hx
    | some t =>
     cases hb:xs[i]? with
     |none=>rw[hb] at hy;exact noSome hy
     | some n =>
      rw[ha] at hx;rw[hb] at hy;obtain rfl:=sI hx;obtain rfl:=sI hy;have tk:(zam m most).take (i+1)=(zam m most).take i++[t]:=by rw[Ev,ha];rfl
      refine⟨[v0,#v[tmW t,6],#v[n,0]],rfl,?_⟩;have tt:zah (gOp2 oEq (zaa 2) #v[1]) [v0,#v[tmW t,6],#v[n,0]]=some ([v0,#v[tmW t,6],#v[n,0]],decide (n=1)):=by simp! []
      by_cases hn:n=1
      ·refine .inl ⟨[v0,some (tmW t,false),some (.int n,false)], [v0,some (tmW t,false),some (.int n,false)],(tmW t,false), ?_,rfl,⟨_,_,_,rfl⟩,ts ++ [t], ?_, ?_⟩
       ·rw[tt,Aj hn]
       ·rw[Ca];rfl
       ·rw[tk];exact hsub.append (.refl _)
      ·refine .inr ⟨[v0,some (tmW t,false),some (.int n,false)], ?_,⟨_,_,_,rfl⟩,ts,rfl, ?_⟩
       ·rw[tt,Ay hn]
       ·rw[tk];exact hsub.trans (List.sublist_append_left _ _)
  nofun;obtain⟨⟨v0,v1,v2,rfl⟩,ts,rfl,hsub⟩:=hp;ac_rfl;exact⟨ts,hc,hsub.trans (Ep _ _)⟩
 obtain⟨ts,c1,sub⟩:=cc;refine⟨st',ts,?_,g1,sub⟩;have ot:zc2 [.lst (ts.map tmW)]=#v[(ts.map tmW),3]:=rfl;unfold zvr;simp! [t1,c1,ot]
theorem z6s {n q:Nat}(h:q<n):ixN n (q:Int)=some q:=by
 unfold ixN;rw[if_pos #v[],if_pos #v[],Es]
theorem and1 {a:Int}(h:0<=a):Builtin.bitAnd a 1=a%2:=by
 have b:Bit (a%2):=by unfold Bit;omega
 have s:=zed (a:=a/2) (b:=0) #v[] (Int.le_refl 0) b (show Bit 1 from .inr rfl);rw[bitAnd_zero] at s;have e:(2*0+1:Int)=1:=rfl;have e2:2*(a/2)+a%2=a:=by omega
 rw[e,e2] at s;rw[s];omega
theorem getD_bit {xs:List Int}(h:Bits xs)(q:Nat):Bit (xs.getD q 0):=by
 rw[Bg];cases e:xs[q]? with
 |none=>exact .inl rfl
 |some x=>exact h x (Bi e)
def zue (Ψ:Str->Fn):GE:=zn5 [none,none,none,some 0] (.nm 1) (zan (gVar 1)) gYes (.nm 2) (zuv (gCns (gArg (gOp2 oAdd (gArg (z05 (zaa 1) (gOp1 oNeg #v[1]))) #v[1])) (gCns (zaa 3) gA0))) gYes (gOp2 oAdd (zaa 1) (gArg (zcw (gCns #v[2,4] gA0))))
def zh2 (Ψ:Str->Fn):GS:=(gRet (zue Ψ))
def zt6 (Ψ:Str->Fn):GS:=(gSeq (gSet [] 3 (zad [false,false] (Ψ "longer_terms") (gCns #v[1,4] (gCns #v[3,4] gA0)))) (ztk [] 4 (gVar 3)))
def zxm (Ψ:Str->Fn):GS:=gFor [] (.nm 5) (zbs (gCns (zaa 2) gA0)) (zt6 Ψ)
def zcf (Ψ:Str->Fn):GS:=(gSeq (gAsg [] (.tp [1,2]) (gVar 0)) (gSeq (gSet [] 3 (zat (gCns (gArg (zcw gA0)) gA0))) (gSeq (gSet [] 4 (zat (gCns (gArg (zcw gA0)) gA0))) (gSeq (zxm Ψ) (gRet (gOpN zc2 (gCns (zaa 4) gA0)))))))
theorem seq_e {a b:GS}{en e1:En}{r:Option (En×Fl)}(h1:a en=some (e1,.nx))(h2:b e1=r):gSeq a b en=r:=(seq_nx h1).trans h2
noncomputable def bitF (p i:Nat):Int:=((p/2^i%2:Nat):Int)
def letL (p:Nat):List Nat:=dueL (bitF p) 6
noncomputable def zoz (t:List Nat):Nat:=(t.map λl=>2^l).sum
theorem zj5:∀p:Fin 64,zoz (letL p.val)=p.val:=by decide +kernel
theorem zi5:∀m:Fin 7,((List.range (2^m.val)).map letL).isPerm (zam m.val m.val)=true:=by decide +kernel
theorem zs4:∀m:Fin 7,∀p:Fin (2^m.val),(List.range (2^m.val)).filter (λq=>q &&& p.val==q)=zc0 p.val:=by decide +kernel
theorem zl5 (f:Nat->Int):∀L:List Nat,(∀q∈L,q<64)->((L.map (coefF f)).sum)%2=evS (List.range 64) f (L.foldr (λq a=>itS 6 q ^^^ a) 0)%2
 | [],_=>by
  have:evS (List.range 64) f 0=0:=by
   unfold evS;rw[List.filter_eq_nil_iff.mpr (λi _=>by rw[Nat.zero_testBit];decide)];rfl
  show (0:Int)%2=evS (List.range 64) f 0%2;rw[this]
 | q::L,h=>by
  have ih:=zl5 f L λx hx=>h x (As _ hx);have c:=z7h f (h q (Ax ..));rw[Am,Bu,List.foldr_cons,z3a,c];omega
theorem zjt (f:Nat->Int)(p:Nat):Bit (coefF f p):=by unfold coefF Bit;omega
def duT (m:Nat) (f:Nat->Int):List (List Nat):=(zam m m).filter λt=>decide (coefF f (zoz t)=1)
noncomputable def plL (m:Nat) (f:Nat->Int):List Nat:=(List.range (2^m)).filter λq=>decide (coefF f q=1)
theorem yd7 {m:Nat}(f:Nat->Int)(hm:m<=6):((plL m f).map letL).Perm (duT m f):=by
 have p6:=zek hm;have p:=(List.isPerm_iff.mp (zi5 ⟨m,by omega⟩)).filter λt=>decide (coefF f (zoz t)=1);rw[List.filter_map] at p;have e:(List.range (2^m)).filter ((λt=>decide (coefF f (zoz t)=1)) ∘ letL)=plL m f:=List.filter_congr λq hq=>by
  show decide (coefF f (zoz (letL q))=1)=_;have:=Bl.mp hq;rw[zj5 ⟨q,by omega⟩]
 rw[e] at p;exact p
theorem yba {m:Nat}{t:List Nat}(hm:m<=6)(h:t∈zam m m):∃q,q<2^m/\t=letL q:=by
 have:=(List.isPerm_iff.mp (zi5 ⟨m,by omega⟩)).mem_iff.mpr h;obtain⟨q,hq,rfl⟩:=Bf.mp this;exact⟨q,Bl.mp hq,rfl⟩
theorem pl_nodup {m:Nat}(f:Nat->Int)(hm:m<=6):((plL m f).map letL).Nodup:=by
 have p6:=zek hm;rw[Dt,Er];have n:(plL m f).Nodup:=List.Nodup.sublist List.filter_sublist List.nodup_range;rw[Dt] at n;refine n.imp_of_mem λ{a b} ha hb ne e=>ne ?_;have la:=Bl.mp (Cs.mp ha).1;have lb:=Bl.mp (Cs.mp hb).1;have:=congrArg zoz e;rw[zj5 ⟨a,by omega⟩,zj5 ⟨b,by omega⟩] at this;exact this
noncomputable def kdW (m t:Nat):W:=.tup [.int (m:Nat),.int (t:Nat)]
noncomputable def tsP (Ψ:Str->Fn) (m t:Nat):Prop:=zae [false] 6 (zcf λ_=>zae [false,false] 2 (zh2 Ψ)) [kdW m t]=some ([kdW m t],(.tup ((zam m t).map tmW),false))
theorem z9q (Ψ:Str->Fn):∀m t:Nat,1<=m->m<=6->t<=m->tsP Ψ m t
 |1,0,_,_,_=>by unfold tsP;kernel_rfl
 |1,1,_,_,_=>by unfold tsP;kernel_rfl
 |2,0,_,_,_=>by unfold tsP;kernel_rfl
 |2,1,_,_,_=>by unfold tsP;kernel_rfl
 |2,2,_,_,_=>by unfold tsP;kernel_rfl
 |3,0,_,_,_=>by unfold tsP;kernel_rfl
 |3,1,_,_,_=>by unfold tsP;kernel_rfl
 |3,2,_,_,_=>by unfold tsP;kernel_rfl
 |3,3,_,_,_=>by unfold tsP;kernel_rfl
 |4,0,_,_,_=>by unfold tsP;kernel_rfl
 |4,1,_,_,_=>by unfold tsP;kernel_rfl
 |4,2,_,_,_=>by unfold tsP;kernel_rfl
 |4,3,_,_,_=>by unfold tsP;kernel_rfl
 |4,4,_,_,_=>by unfold tsP;kernel_rfl
 |5,0,_,_,_=>by unfold tsP;kernel_rfl
 |5,1,_,_,_=>by unfold tsP;kernel_rfl
 |5,2,_,_,_=>by unfold tsP;kernel_rfl
 |5,3,_,_,_=>by unfold tsP;kernel_rfl
 |5,4,_,_,_=>by unfold tsP;kernel_rfl
 |5,5,_,_,_=>by unfold tsP;kernel_rfl
 |6,0,_,_,_=>by unfold tsP;kernel_rfl
 |6,1,_,_,_=>by unfold tsP;kernel_rfl
 |6,2,_,_,_=>by unfold tsP;kernel_rfl
 |6,3,_,_,_=>by unfold tsP;kernel_rfl
 |6,4,_,_,_=>by unfold tsP;kernel_rfl
 |6,5,_,_,_=>by unfold tsP;kernel_rfl
 |6,6,_,_,_=>by unfold tsP;kernel_rfl
 |0,_,h,_,_=>by omega
 |m+7,_,_,h,_=>by omega
 |1,t+2,_,_,h=>by omega
 |2,t+3,_,_,h=>by omega
 |3,t+4,_,_,h=>by omega
 |4,t+5,_,_,h=>by omega
 |5,t+6,_,_,h=>by omega
 |6,t+7,_,_,h=>by omega
def z71 (Φ:Fn):Prop:=∀m t:Nat,1<=m->m<=6->t<=m->Φ [kdW m t]=some ([kdW m t],(.tup ((zam m t).map tmW),false))
theorem z1t {Ψ Ψ':Str->Fn}(h:Ψ "longer_terms" = zae [false,false] 2 (zh2 Ψ')):z71 (zae [false] 6 (zcf Ψ)):=λm t h1 h6 ht=>by
 have e:zcf Ψ=zcf (λ_=>Ψ "longer_terms"):=rfl;rw[e,h];exact z9q Ψ' m t h1 h6 ht
theorem zq6 (m:Nat)(ts:List (List Nat)):Bits (tab (2^m) (valF ts)):=zcp λi _=>by unfold valF Bit;omega
noncomputable def dotP (xs ys:List Int):Int:=(List.zipWith (· * ·) xs ys).sum%2
theorem ztr (f g:Nat->Int):∀L:List Nat,List.zipWith (· * ·) (L.map f) (L.map g)=L.map λp=>f p*g p
 |[]=>rfl
 |a::l=>by rw[Am,Am,Fx,ztr f g l,Am]
noncomputable def z29 (Φ:Fn):Prop:=∀xs ys:List Int,Bits xs->Bits ys->xs.length<=1000->Φ [.int (zab xs),.int (zab ys)]=some ([.int (zab xs),.int (zab ys)],(.bl (decide (dotP xs ys=0)),false))
theorem z34 (s:Str):oNe (.str s) (.str s)=some #v[2,8]:=by
 show #v[W.bl (!decide (s=s)),6]=_;rw[Aj rfl];rfl
theorem zy0 {xs:List Int}{q:Nat}{n:Int}(h:Bits xs)(hq:xs[q]?=some n):Bits (xs.set q (1-n)):=λx hx=>by
 have bn:=h n (Bi hq);rcases List.mem_or_eq_of_mem_set hx with hx|rfl
 ·exact h x hx
 ·rcases bn with z|z <;> rw[z]
  ·exact .inr rfl
  ·exact .inl rfl
theorem ybj (ns:List Int):oSum [.lst (ns.map W.int)]=#v[ns.sum,0]:=by
 show (zcd (ns.map W.int)).bind _=_;rw[zc6];rfl
theorem zgo (f:Nat->Int){l l':List Nat}(p:l.Perm l'):(l.map f).sum=(l'.map f).sum:=by
 induction p with
 |nil=>rfl
 |cons a _ ih=>rw[Am,Am,Bu,Bu,ih]
 |swap a b l=>rw[Am,Am,Am,Am,Bu,Bu,Bu,Bu];omega
 |trans _ _ i1 i2=>exact i1.trans i2
theorem zqm (f:Nat->Int) (c:Nat->Bool):∀L:List Nat,((L.filter c).map f).sum=(L.map λp=>f p*(if c p then 1 else 0)).sum
 |[]=>rfl
 | a::L=>by
  rw[Am,Bu,<-zqm f c L];cases h:c a with
  |true=>rw[List.filter_cons_of_pos h,Am,Bu,if_pos rfl,Int.mul_one]
  |false=>rw[List.filter_cons_of_neg (by rw[h];decide),if_neg #v[0,9],Int.mul_zero,Gv]
theorem z2p {xs:List Int}{n:Nat}(h:xs.length=n):(tab n λi=>xs.getD i 0)=xs:=by
 apply De;intro i;by_cases hi:i<n
 ·rw[zes hi,Bg,Ac #v[]];rfl
 ·rw[Bo (by rw[za5];omega),Bo #v[]]
section
variable {en:En}{P Q:W->Prop}
end
set_option maxHeartbeats 2000000
noncomputable def dkN (p:Nat):DKey:=.inl (.inl (p:Int))
theorem zpf (a b:Nat)(h:dkN a=dkN b):a=b:=Int.ofNat.inj (Sum.inl.inj (Sum.inl.inj h))
section
variable {κ:Type} [DecidableEq κ] {f:κ->DKey}
theorem zyv (hf:∀a b,f a=f b->a=b) (g:κ->W) (p:κ):∀L:List κ,valW ((L.map f).zip (L.map g)) (f p)=if p∈L then some (g p) else none
 |[]=>rfl
 | q::L=>by
  rw[Am,Am,Bn,ze3,zyv hf g p L];by_cases h:q=p
  ·subst h;rw[if_pos rfl,if_pos Ax]
  ·rw [if_neg λe=>h (hf _ _ e)]
   by_cases m:p∈L
   ·rw[if_pos m,if_pos (As _ m)]
   ·rw[if_neg m,if_neg λz=>by rcases Ap.mp z with z|z;exact h z.symm;exact m z]
theorem zrp (hf:∀a b,f a=f b->a=b){L:List κ}{p:κ}:f p∈L.map f↔p∈L:=by
 rw[Bf];exact⟨λ⟨a,h,e⟩=>hf _ _ e ▸ h,λh=>⟨p,h,rfl⟩⟩
theorem zy4 (hf:∀a b,f a=f b->a=b)(ws:List W){p:κ}(w:W){L:List κ}(h:p ∉ L):zfm (L.map f) ws (f p) w=ws++[w]:=by
 unfold zfm;rw[if_neg (mt (zrp hf).mp h)]
theorem zzz (hf:∀a b,f a=f b->a=b){p:κ}{L:List κ}(h:p ∉ L):zf3 (L.map f) (f p)=L.map f++[f p]:=by
 unfold zf3;rw[if_neg (mt (zrp hf).mp h)]
end
theorem z5p (p:Nat)(L:List Nat):zim (dkN p) (L.map dkN)=true:=by
 unfold zim;rw[List.all_map];exact Bd.mpr λ_ _=>rfl
theorem zp0:∀L:List Nat,zno (L.map dkN)=some (L.map λp:Nat=>W.int (p:Int))
 |[]=>rfl
 | p::L=>by
  show (zno (L.map dkN)).bind _=_;rw[zp0 L];rfl
noncomputable def tp (w:Nat):Nat:=w.log2
theorem zhi {a b:GS}{en e1:En}{r:Option (En×Fl)}(h1:a en=some (e1,.nx))(h2:b e1=r):gSeq a b en=r:=(seq_nx h1).trans h2
theorem zye {w:Nat}(h:w≠0):w.testBit (tp w)=true:=Nat.testBit_log2 h
theorem z32 {w i:Nat}(h:w.testBit i=true):i<=tp w:=by
 have hw:w≠0:=λz=>by rw[z,Nat.zero_testBit] at h;exact Ar h
 exact (Nat.le_log2 hw).mpr (Nat.ge_two_pow_of_testBit h)
theorem zjm {w i:Nat}(h:tp w<i):w.testBit i=false:=by
 cases q:w.testBit i with
 |false=>rfl
 |true=>have:=z32 q;omega
theorem z87 {w t:Nat}(h:w.testBit t=true)(h2:∀i,t<i->w.testBit i=false):tp w=t:=by
 have a:=z32 h;have hw:w≠0:=λz=>by rw[z,Nat.zero_testBit] at h;exact Ar h
 rcases Nat.lt_or_ge t (tp w) with c|c
 ·have:=h2 _ c;rw[zye hw] at this;exact absurd this.symm Ar
 ·omega
def sel:List Nat->Nat->Nat
 |[],_=>0
 |b::B,w=>(if w.testBit (tp b) then b else 0) ^^^ sel B w
theorem z4j (u v:Nat):∀B:List Nat,sel B (u ^^^ v)=sel B u ^^^ sel B v
 |[]=>(Nat.xor_self 0).symm
 | b::B=>by
  show (if (u ^^^ v).testBit (tp b) then b else 0) ^^^ sel B (u ^^^ v)=((if u.testBit (tp b) then b else 0) ^^^ sel B u) ^^^ ((if v.testBit (tp b) then b else 0) ^^^ sel B v);rw[z4j u v B,Dw];have sw:∀a b c d:Nat,(a ^^^ b) ^^^ (c ^^^ d)=(a ^^^ c) ^^^ (b ^^^ d):=λa b c d=>by rw[Cn,Cn,<-Cn b c d,Nat.xor_comm b c,Cn]
  rw[sw];congr 1;cases u.testBit (tp b)<;>cases v.testBit (tp b)<;>simp
noncomputable def bitN (w i:Nat):Int:=if w.testBit i then 1 else 0
theorem zle (w i:Nat):Bit (bitN w i):=by unfold bitN;split<;>first|exact .inr rfl|exact .inl rfl
theorem z5w (w i:Nat):decide (bitN w i=1)=w.testBit i:=by unfold bitN;cases w.testBit i<;>rfl
theorem zy8 (n:Nat)(f:Nat->Int):tab (n+1) f=f 0::tab n λi=>f (i+1):=by
 unfold tab;rw[List.range_succ_eq_map,Am,Bz]
 rfl
theorem zc1:∀(n w:Nat),w<2^n->zab (tab n (bitN w))=(w:Int)
 | 0,w,h=>by
  have:w=0:=by have:2^0=1:=rfl;omega
  subst this;rfl
 | n+1,w,h=>by
  have p2:2^(n+1)=2*2^n:=by rw[Nat.pow_succ];omega
  rw[zy8,zao,zdr (f:=λi=>bitN w (i+1)) (g:=bitN (w/2)) λi _=>by unfold bitN;rw[Nat.testBit_succ],zc1 n (w/2) #v[]];unfold bitN;rw[Nat.testBit_zero];by_cases c:w%2=1
  ·rw[if_pos (Aj c)];omega
  ·rw[if_neg (by rw[Ay c];exact Ar)];omega
theorem zy1 (a b i:Nat):dif (bitN a i) (bitN b i)=bitN (a ^^^ b) i:=by
 unfold bitN dif;rw[Dw];cases a.testBit i<;>cases b.testBit i<;>rfl
theorem zqf (a b:Nat):Builtin.bitXor (a:Int) (b:Int)=((a ^^^ b:Nat):Int):=by
 have ha:a<2^(a+b):=Nat.lt_of_le_of_lt (Ds a b) Nat.lt_two_pow_self;have hb:b<2^(a+b):=Nat.lt_of_le_of_lt (Nat.le_add_left b a) Nat.lt_two_pow_self;have x:=zml (xs:=tab (a+b) (bitN a)) (ys:=tab (a+b) (bitN b)) (zcp λi _=>zle a i) (zcp λi _=>zle b i) (by rw[za5,za5]);rw[zc1 _ a ha,zc1 _ b hb,zxz,zdr λi _=>zy1 a b i,zc1 _ _ (Fo ha hb)] at x;exact x
theorem z40 {w n i:Nat}(h:w<2^n)(hi:n<=i):bitN w i=0:=by
 unfold bitN;rw[Nat.testBit_lt_two_pow (Bb h (Nat.pow_le_pow_right #v[0,9] hi)),if_neg Ar]
def z9a (Φ:Fn):Prop:=∀w p:Nat,Φ [.int (w:Nat),.int (p:Nat)]=some ([.int (w:Nat),.int (p:Nat)],(.int (bitN w p),false))
theorem ybi {Φ:Fn}(h:z38 Φ):z9a Φ:=λw p=>by
 have hw:w<2^w:=Nat.lt_two_pow_self;have:=h w p (bitN w) (zle w) λi hi=>z40 hw hi
 rwa [zc1 w w hw] at this
def XorN (Φ:Fn):Prop:=∀a b:Nat,Φ [.int (a:Nat),.int (b:Nat)]=some ([.int (a:Nat),.int (b:Nat)],(.int ((a ^^^ b:Nat):Int),false))
theorem z8c {Φ:Fn}(h:ycb Φ):XorN Φ:=λa b=>by rw[<-zqf];exact h a b
def z3u (Ψ:Str->Fn):GS:=(gRet (gOp2 #v[0,0,0] (gArg (gOp1 zfx (zaa 0))) #v[1]))
def TopN (Φ:Fn):Prop:=∀w:Nat,w≠0->Φ [.int (w:Nat)]=some ([.int (w:Nat)],(.int (tp w:Nat),false))
theorem ycz (Ψ:Str->Fn):TopN (zae [false] 1 (z3u Ψ)):=λw hw=>by
 have e:(Builtin.Int.intBits (w:Int):Int)-1=(tp w:Nat):=by
  unfold Builtin.Int.intBits tp;rw[if_neg (by simp;exact hw),Int.natAbs_natCast];omega
 have ob:zfx (.int (w:Nat))=#v[(Builtin.Int.intBits (w:Int)),0]:=rfl;unfold z3u;simp! [ob,e]
def zvc (Ψ:Str->Fn):GS:=(gIfS (zah (gOp2 oEq (gArg (zad [false,false] (Ψ "says") (gCns #v[1,4] (gCns (gArg (zad [false] (Ψ "top") (gCns #v[3,4] gA0))) gA0)))) #v[1])) (gSet [] 2 (zad [false,false] (Ψ "plus") (gCns #v[2,4] (gCns #v[3,4] gA0)))) zbq)
def zw6 (Ψ:Str->Fn):GS:=gFor [] (.nm 3) (zan (gVar 0)) (zvc Ψ)
def yav (Ψ:Str->Fn):GS:=(gSeq (gSet [] 2 (gVar 1)) (gSeq (zw6 Ψ) (zb2 [] 2)))
noncomputable def WtN (Φ:Fn):Prop:=∀(B:List Nat) (w:Nat) (x:W),(x=.lst (castL B)\/x=.tup (castL B))->(∀b∈B,b≠0)->Φ [x,.int (w:Nat)]=some ([x,.int (w:Nat)],(.int ((w ^^^ sel B w:Nat):Int),false))
theorem zrq (b w:Nat):∀B:List Nat,sel (B++[b]) w=sel B w ^^^ (if w.testBit (tp b) then b else 0)
 | []=>by
  show (if w.testBit (tp b) then b else 0) ^^^ 0=0 ^^^ (if w.testBit (tp b) then b else 0);rw[Fv,Nat.zero_xor]
 | a::B=>by
  show (if w.testBit (tp a) then a else 0) ^^^ sel (B++[b]) w=((if w.testBit (tp a) then a else 0) ^^^ sel B w) ^^^ _;rw[zrq b w B,Cn]
theorem wt_n {Ψ:Str->Fn} (hS:z9a (Ψ "says")) (hX:XorN (Ψ "plus")) (hT:TopN (Ψ "top")):WtN (zae [false,false] 4 (yav Ψ)):=λB w x hx h0=>by
 have sx:seqW x=some (castL B):=by rcases hx with rfl|rfl<;>rfl
 have si:zan (gVar 0) [#v[x,6],#v[(w:Nat),0],#v[(w:Nat),0],none]=some ([#v[x,6],#v[(w:Nat),0],#v[(w:Nat),0],none],castL B):=by rcases hx with rfl|rfl<;>rfl
 have lp:∃w3,zw6 Ψ [some (x,false),some (.int (w:Nat),false),some (.int (w:Nat),false),none]=some ([some (x,false),some (.int (w:Nat),false),some (.int ((w ^^^ sel B w:Nat):Int),false),w3],.nx):=by
  unfold zw6;obtain ⟨en',h,w3,rfl⟩:=zbv (mp:=[]) (T:=.nm 3) (body:=zvc Ψ) (λi e=>∃w3,e=[some (x,false),some (.int (w:Nat),false),some (.int ((w ^^^ sel (B.take i) w:Nat):Int),false),w3]) si ⟨none,by rw [Ed];show _=[_,_,some (W.int ((w ^^^ 0:Nat):Int),false),_];rw [Fv]⟩ λi u e hw hp=>by
   obtain ⟨w3,rfl⟩:=hp;obtain ⟨b,hb,rfl⟩:=zaw hw;have bm:=Bi hb;have t1:=hT b (h0 b bm);have s1:=hS w (tp b);have x1:=hX (w ^^^ sel (B.take i) w) b;have e1:sel (B.take (i+1)) w=sel (B.take i) w ^^^ (if w.testBit (tp b) then b else 0):=by
    rw[Dy,hb];exact zrq b w _
   have be:=z5w w (tp b);refine⟨[#v[x,6],#v[(w:Nat),0],#v[((w ^^^ sel (B.take i) w:Nat):Int),0],#v[(b:Nat),0]],[#v[x,6],#v[(w:Nat),0],#v[((w ^^^ sel (B.take (i+1)) w:Nat):Int),0],#v[(b:Nat),0]],rfl,.inl ?_,_,rfl⟩;unfold zvc;rw[e1];cases q:w.testBit (tp b) with
   | true =>
    rw[q] at be;rw[if_pos rfl,<-Cn];simp! [t1,s1,be,x1]
   | false =>
    rw[q] at be;rw[if_neg Ar,Fv];simp! [t1,s1,be]
  rw[zai,Ci] at h;exact⟨_,h⟩
 obtain⟨w3,lp⟩:=lp;unfold yav;refine zba (en:=[#v[x,6],#v[(w:Nat),0],#v[((w ^^^ sel B w:Nat):Int),0],w3]) rfl (zhi ?_ (zhi lp ?_)) rfl
 ·show gSet [] 2 (gVar 1) [some (x,false),some (.int (w:Nat),false),none,none]=some ([some (x,false),some (.int (w:Nat),false),some (.int (w:Nat),false),none],.nx)
  simp! []
 ·simp! []
end L2
namespace My
open PySem PySem.Spec PyProof.Rows L2
noncomputable def top (i:Nat):Stmt:=PySem.Challenge.pw_yesnowords_k36_flats_that_are_odd.main.body.getD i (.Pass ⟨0,0,0,0⟩)
def zqv:Fd:=⟨"says",["word","place"],["word","place"],[false,false],top 1⟩
def zgk:Fd:=⟨"weight",["word"],["word","heavy"],[false],top 2⟩
def zfd:Fd:=⟨"word_at",["some"],["some","word","place"],[false],top 3⟩
def zrm:Fd:=⟨"plus",["one","other"],["one","other"],[false,false],top 4⟩
def zlk:Fd:=⟨"times",["one","other"],["one","other"],[false,false],top 5⟩
def zff:Fd:=⟨"is_even",["one","other"],["one","other"],[false,false],top 6⟩
def z1w:Fd:=⟨"top",["word"],["word"],[false],top 8⟩
def zbk:Fd:=⟨"without_tops",["rows","word"],["rows","word","left","row"],[false,false],top 9⟩
def zby:Fd:=⟨"flat_places",["flat"],["flat","place","directions","told","direction"],[false],top 11⟩
def zdk:Fd:=⟨"flat_word",["flat"],["flat"],[false],top 12⟩
def zb1:Fd:=⟨"flats_along",["many","directions"],["many","directions","places"],[false,false],top 13⟩
def zbo:Fd:=⟨"longer_terms",["many","some"],["many","some"],[false,false],top 15⟩
def zj1:Fd:=⟨"terms",["kind"],["kind","many","most","row","told","size"],[false],top 16⟩
def zc8:Fd:=⟨"is_odd_on",["word","flat"],["word","flat"],[false,false],top 18⟩
def zbm:Fd:=⟨"letter_flats",["many","size"],["many","size","some","rows"],[false,false],top 19⟩
def zd8:Fd:=⟨"odd_flat",["kind","word"],["kind","word","many","most","flat"],[false,false],top 20⟩
def zc7:Fd:=⟨"_law_hand",["_law_script"],["_law_script","_law_state","_law_weighs","_law_cell","_law_k","_law_one"],[false],top 22⟩
def zdc:Fd:=⟨"_law_take",["_law_state","_law_count"],["_law_state","_law_count","_law_digit","_law_mixed"],[true,false],top 23⟩
def zdl:Fd:=⟨"_law_many",["_law_state"],["_law_state"],[true],top 24⟩
def zde:Fd:=⟨"_law_bits",["_law_state","_law_count"],["_law_state","_law_count","_law_way","_law_found","_law_k","_law_one"],[true,false],top 25⟩
def zdb:Fd:=⟨"_law_word",["_law_bits_here"],["_law_bits_here","_law_found","_law_bit"],[false],top 26⟩
def zco:Fd:=⟨"_law_terms",["_law_many_here","_law_most"],["_law_many_here","_law_most","_law_found","_law_letter"],[false,false],top 27⟩
def zb3:Fd:=⟨"_law_values",["_law_many_here","_law_poly_here"],["_law_many_here","_law_poly_here","_law_found","_law_place","_law_says_yes"],[false,false],top 28⟩
def zdo:Fd:=⟨"_law_poly",["_law_state","_law_many_here","_law_most"],["_law_state","_law_many_here","_law_most","_law_some"],[true,false,false],top 29⟩
def zdi:Fd:=⟨"_law_sums",["_law_some"],["_law_some","_law_found","_law_one"],[false],top 30⟩
def zbz:Fd:=⟨"_law_places",["_law_flat"],["_law_flat"],[false],top 31⟩
def zbi:Fd:=⟨"_law_is_flat",["_law_many_here","_law_thing"],["_law_many_here","_law_thing","_law_one","_law_k","_law_greatest","_law_others"],[false,false],top 32⟩
def zd5:Fd:=⟨"_law_top",["_law_many_here","_law_bits_here"],["_law_many_here","_law_bits_here","_law_found","_law_place","_law_below"],[false,false],top 33⟩
def za1:Fd:=⟨"_law_kind_word",["_law_state","_law_many_here","_law_most"],["_law_state","_law_many_here","_law_most","_law_bits_here","_law_way","_law_turn","_law_place"],[true,false,false],top 34⟩
def zb6:Fd:=⟨"_law_is_odd",["_law_bits_here","_law_flat"],["_law_bits_here","_law_flat"],[false,false],top 35⟩
def zck:Fd:=⟨"_law_right",["_law_kind","_law_bits_here"],["_law_kind","_law_bits_here","_law_many_here","_law_most","_law_word_here","_law_told"],[false,false],top 36⟩
def zo8:Fd:=⟨"law",["_law_script"],["_law_script","_law_state","_law_turn","_law_many_here","_law_most","_law_some"],[false],top 37⟩
noncomputable def T:List Fd:=[zqv,zgk,zfd,zrm,zlk,zff,z1w,zbk,zby,zdk,zb1,zbo,zj1,zc8,zbm,zd8,zc7,zdc,zdl,zde,zdb,zco,zb3,zdo,zdi,zbz,zbi,zd5,za1,zb6,zck,zo8]
noncomputable def bn:List Str:=["abs","all","bool","d _law_found","dict","enumerate","int","isinstance","len","list","max","min","range","repr","reversed","sorted","sum","tuple","zip"]
theorem sFq {d:Nat}{x:Str}{t:Fd}{g:(Str->Fn)->GS}(h:T.find? (·.nm==x)=some t)(b:∀Ψ d,zal T bn Ψ (d+2) t=some (g Ψ)):sem T bn (d+3) x=zae t.m t.N.length (g (sem T bn (d+2))):=za0 h (b _ d)
theorem z93 (d:Nat):sem T bn (d+3) "says"=zae [false,false] 2 (ybx (sem T bn (d+2))):=sFq (t:=zqv) (by kernel_rfl) λ_ _=>by kernel_rfl
theorem zy6 (d:Nat):sem T bn (d+3) "weight"=zae [false] 2 (zzk (sem T bn (d+2))):=sFq (t:=zgk) (by kernel_rfl) λ_ _=>by kernel_rfl
theorem zyl (d:Nat):sem T bn (d+3) "word_at"=zae [false] 3 (zxc (sem T bn (d+2))):=sFq (t:=zfd) (by kernel_rfl) λ_ _=>by kernel_rfl
theorem z3e (d:Nat):sem T bn (d+3) "plus"=zae [false,false] 2 (yac (sem T bn (d+2))):=sFq (t:=zrm) (by kernel_rfl) λ_ _=>by kernel_rfl
theorem z56 (d:Nat):sem T bn (d+3) "times"=zae [false,false] 2 (z50 (sem T bn (d+2))):=sFq (t:=zlk) (by kernel_rfl) λ_ _=>by kernel_rfl
theorem zwp (d:Nat):sem T bn (d+3) "is_even"=zae [false,false] 2 (zwh (sem T bn (d+2))):=sFq (t:=zff) (by kernel_rfl) λ_ _=>by kernel_rfl
theorem yc7 (d:Nat):sem T bn (d+3) "top"=zae [false] 1 (z3u (sem T bn (d+2))):=sFq (t:=z1w) (by kernel_rfl) λ_ _=>by kernel_rfl
theorem zin (d:Nat):sem T bn (d+3) "without_tops"=zae [false,false] 4 (yav (sem T bn (d+2))):=sFq (t:=zbk) (by kernel_rfl) λ_ _=>by kernel_rfl
def zcz (Ψ:Str->Fn):GE:=zbb [none,none,some 4] (.nm 1) (zan (gVar 3)) gYes (zad [false,false] (Ψ "plus") (gCns #v[1,4] (gCns #v[2,4] gA0)))
def zct (Ψ:Str->Fn):GS:=(gSet [] 3 (gOp2 oAdd (zaa 3) (gArg (zcz Ψ))))
def zcv (Ψ:Str->Fn):GS:=gFor [] (.nm 4) (zan (gVar 2)) (zct Ψ)
def zb5 (Ψ:Str->Fn):GS:=(gSeq (gAsg [] (.tp [1,2]) (gVar 0)) (gSeq (gSet [] 3 (zat (gCns #v[1,4] gA0))) (gSeq (zcv Ψ) (gRet (gOpN zc2 (gCns (gArg (gOpN zds (gCns (zaa 3) gA0))) gA0))))))
theorem zjo (d:Nat):sem T bn (d+3) "flat_places"=zae [false] 5 (zb5 (sem T bn (d+2))):=sFq (t:=zby) (by kernel_rfl) λ_ _=>by kernel_rfl
def zdm (Ψ:Str->Fn):GS:=(gRet (zad [false] (Ψ "word_at") (gCns (gArg (zad [false] (Ψ "flat_places") (gCns #v[0,4] gA0))) gA0)))
theorem zqe (d:Nat):sem T bn (d+3) "flat_word"=zae [false] 1 (zdm (sem T bn (d+2))):=sFq (t:=zdk) (by kernel_rfl) λ_ _=>by kernel_rfl
def zcr (Ψ:Str->Fn):GE:=zbb [none,none,some 1] (.nm 1) (zbs #v[8,8]) (zah (gOp2 oEq (gArg (zad [false,false] (Ψ "without_tops") (gCns #v[2,4] (gCns #v[1,4] gA0)))) (zaa 1))) (gVar 1)
def zcy (Ψ:Str->Fn):GE:=zbb [none,none,some 1] (.nm 1) (zan (gVar 2)) gYes (zcw (gCns #v[1,4] (gCns #v[2,4] gA0)))
def zb7 (Ψ:Str->Fn):GS:=(gSeq (gSet [] 2 (zcr Ψ)) (gRet (gOpN zc2 (gCns (gArg (zcy Ψ)) gA0))))
theorem zks (d:Nat):sem T bn (d+3) "flats_along"=zae [false,false] 3 (zb7 (sem T bn (d+2))):=sFq (t:=zb1) (by kernel_rfl) λ_ _=>by kernel_rfl
def zeo (Ψ:Str->Fn):GS:=(gRet (zue Ψ))
theorem zii (d:Nat):sem T bn (d+3) "longer_terms"=zae [false,false] 2 (zeo (sem T bn (d+2))):=sFq (t:=zbo) (by kernel_rfl) λ_ _=>by kernel_rfl
theorem z5k (d:Nat):sem T bn (d+3) "terms"=zae [false] 6 (zcf (sem T bn (d+2))):=sFq (t:=zj1) (by kernel_rfl) λ_ _=>by kernel_rfl
def zdj (Ψ:Str->Fn):GS:=(gRet (gNot (zad [false,false] (Ψ "is_even") (gCns #v[0,4] (gCns (gArg (zad [false] (Ψ "flat_word") (gCns #v[1,4] gA0))) gA0)))))
theorem e_is_odd_on (d:Nat):sem T bn (d+3) "is_odd_on"=zae [false,false] 2 (zdj (sem T bn (d+2))):=sFq (t:=zc8) (by kernel_rfl) λ_ _=>by kernel_rfl
def zce (Ψ:Str->Fn):GE:=zbb [none,none,some 1] (.nm 1) (zan (zad [false] (Ψ "terms") (gCns (gArg (zcw (gCns #v[0,4] (gCns #v[1,4] gA0)))) gA0))) (zah (gOp2 oEq (gArg (gOpN oLen (gCns (zaa 1) gA0))) (zaa 2))) (gVar 1)
def zca (Ψ:Str->Fn):GE:=zbb [none,none] (.nm 1) (zan (gVar 1)) gYes (gOp2 #v[0,0,1] #v[1] (zaa 1))
def zci (Ψ:Str->Fn):GE:=zbb [none,none,some 0] (.nm 1) (zan (gVar 2)) gYes (zad [false,false] (Ψ "flats_along") (gCns #v[2,4] (gCns (gArg (gOpN zc2 (gCns (gArg (zca Ψ)) gA0))) gA0)))
def zch (Ψ:Str->Fn):GE:=zn5 [none,none,none] (.nm 1) (zan (gVar 3)) gYes (.nm 2) (zan (gVar 1)) gYes (gVar 2)
def zbl (Ψ:Str->Fn):GS:=(gSeq (gSet [] 2 (zce Ψ)) (gSeq (gSet [] 3 (zci Ψ)) (gRet (zch Ψ))))
theorem e_letter_flats (d:Nat):sem T bn (d+3) "letter_flats"=zae [false,false] 4 (zbl (sem T bn (d+2))):=sFq (t:=zbm) (by kernel_rfl) λ_ _=>by kernel_rfl
def zc9 (Ψ:Str->Fn):GS:=(gIfS (zah (zad [false,false] (Ψ "is_odd_on") (gCns #v[1,4] (gCns #v[4,4] gA0)))) (zb2 [] 4) zbq)
noncomputable def zew (Ψ:Str->Fn):GS:=gFor [] (.nm 4) (zan #v[1,13]) (zc9 Ψ)
def zej (Ψ:Str->Fn):GS:=(gSeq (gAsg [] (.tp [2,3]) (gVar 0)) (gSeq (zew Ψ) (gRet (gC .non))))
theorem e_odd_flat (d:Nat):sem T bn (d+3) "odd_flat"=zae [false,false] 5 (zej (sem T bn (d+2))):=sFq (t:=zd8) (by kernel_rfl) λ_ _=>by kernel_rfl
theorem zo1 (d:Nat):sem T bn (d+3) "_law_hand"=zae [false] 6 (z91 (sem T bn (d+2))):=sFq (t:=zc7) (by kernel_rfl) λ_ _=>by kernel_rfl
theorem zp2 (d:Nat):sem T bn (d+3) "_law_take"=zae [true,false] 4 (ztx (sem T bn (d+2))):=sFq (t:=zdc) (by kernel_rfl) λ_ _=>by kernel_rfl
def zb9 (Ψ:Str->Fn):GS:=(gRet (gOp2 oIx (gArg (zat (gCns (gArg (gOp2 oAdd #v[1] (gArg (zad [true,false] (Ψ "_law_take") (gCns (zaa 0) (gCns #v[5] gA0)))))) (gCns #v[6] gA0)))) (gArg (gOpN oInt (gCns (gArg (gOp2 oEq (gArg (zad [true,false] (Ψ "_law_take") (gCns (zaa 0) (gCns #v[8] gA0)))) #v[0])) gA0)))))
theorem zop (d:Nat):sem T bn (d+3) "_law_many"=zae [true] 1 (zb9 (sem T bn (d+2))):=sFq (t:=zdl) (by kernel_rfl) λ_ _=>by kernel_rfl
theorem zo3 (d:Nat):sem T bn (d+3) "_law_bits"=zae [true,false] 6 (yam (sem T bn (d+2))):=sFq (t:=zde) (by kernel_rfl) λ_ _=>by kernel_rfl
theorem zqb (d:Nat):sem T bn (d+3) "_law_word"=zae [false] 3 (yca (sem T bn (d+2))):=sFq (t:=zdb) (by kernel_rfl) λ_ _=>by kernel_rfl
theorem zlx (d:Nat):sem T bn (d+3) "_law_terms"=zae [false,false] 4 (zrn (sem T bn (d+2))):=sFq (t:=zco) (by kernel_rfl) λ_ _=>by kernel_rfl
theorem zkn (d:Nat):sem T bn (d+3) "_law_values"=zae [false,false] 5 (zni (sem T bn (d+2))):=sFq (t:=zb3) (by kernel_rfl) λ_ _=>by kernel_rfl
theorem zp7 (d:Nat):sem T bn (d+3) "_law_poly"=zae [true,false,false] 4 (zvr (sem T bn (d+2))):=sFq (t:=zdo) (by kernel_rfl) λ_ _=>by kernel_rfl
def zcl (Ψ:Str->Fn):GE:=zbb [none,none,some 2] (.nm 1) (zan (gOpN znf (gCns (zaa 1) gA0))) gYes (zcw (gCns (gArg (gOp2 #v[0,11] (zaa 2) (zaa 1))) (gCns (gArg (gC (.bl true))) gA0)))
def zdv (Ψ:Str->Fn):GS:=(gIfS (zah (gOp2 (oInD true) (zaa 2) (zaa 1))) (zeq (zsz 1 (zcl Ψ))) zbq)
def zdy (Ψ:Str->Fn):GS:=gFor [] (.nm 2) (zan (gVar 0)) (zdv Ψ)
def zdf (Ψ:Str->Fn):GS:=(gSeq (gSet [] 1 (z5a (gC (.int 0)) (gC (.bl true)))) (gSeq (zdy Ψ) (gRet (gOpN zl9 (gCns (zaa 1) gA0)))))
theorem zpu (d:Nat):sem T bn (d+3) "_law_sums"=zae [false] 3 (zdf (sem T bn (d+2))):=sFq (t:=zdi) (by kernel_rfl) λ_ _=>by kernel_rfl
def zcx (Ψ:Str->Fn):GE:=zbb [none,none,some 0] (.nm 1) (zan (zad [false] (Ψ "_law_sums") (gCns (gArg (gOp2 oIx (zaa 0) #v[1])) gA0))) gYes (gOp2 #v[0,11] (gArg (gOp2 oIx (zaa 2) #v[0])) (zaa 1))
def G__law_places (Ψ:Str->Fn):GS:=(gRet (gOpN zds (gCns (gArg (zcx Ψ)) gA0)))
theorem zli (d:Nat):sem T bn (d+3) "_law_places"=zae [false] 1 (G__law_places (sem T bn (d+2))):=sFq (t:=zbz) (by kernel_rfl) λ_ _=>by kernel_rfl
def zg1 (Ψ:Str->Fn):GS:=(gIfS (gOrT (zik (zah (gOp1 (oIsi .int) (zaa 2)))) (gOrT (zah (gOp1 (oIsi .bool) (zaa 2))) (zik (zah (zqs (oI yes2 λi j=>.bl (decide (i<=j))) (oI yes2 λi j=>.bl (decide (i<j))) #v[0] (zaa 2) (gArg (gOp2 #v[0,0,1] #v[1] (zaa 0)))))))) (gRet (gC (.bl false))) zbq)
def zh1 (Ψ:Str->Fn):GS:=gFor [] (.nm 2) (zan (gOp2 oAdd #v[1,10] (gArg (zcw (gCns (gArg (gOp2 oIx (zaa 1) #v[0])) gA0))))) (zg1 Ψ)
def zhy (Ψ:Str->Fn):GE:=zbb [none,none,some 4] (.nm 1) (zan (gVar 5)) gYes (gOp2 oEq (gArg (gOp2 #v[0,8] (zaa 1) (zaa 2))) #v[0])
def zhl (Ψ:Str->Fn):GS:=(gSeq (gSet [] 4 (gOp2 #v[0,0,1] #v[1] (gArg (gOp2 #v[0,0,0] (gArg (gOp1 zfx (zaa 2))) #v[1])))) (gSeq (gSet [] 5 (gOp2 oAdd (gArg (gOp2 oAdd (gArg (gSl #v[1,10] zbt (zfq (gVar 3)))) (gArg (gSl #v[1,10] (zfq (gOp2 oAdd (zaa 3) #v[1])) zbt)))) (gArg (zcw (gCns (gArg (gOp2 oIx (zaa 1) #v[0])) gA0))))) (gIfS (zik (zah (gOpN (oBl λbs=>bs.all id) (gCns (gArg (zhy Ψ)) gA0)))) (gRet (gC (.bl false))) zbq)))
def zhz (Ψ:Str->Fn):GS:=gFor [] (.tp [3,2]) (zob (gOp2 oIx (zaa 1) #v[1])) (zhl Ψ)
def zbj (Ψ:Str->Fn):GS:=(gSeq (gIfS (gOrT (zik (zah (gOp1 (oIsi .tuple) (zaa 1)))) (gOrT (zah (gOp2 oNe (gArg (gOpN oLen (gCns (zaa 1) gA0))) #v[2])) (zik (zah (gOp1 (oIsi .tuple) #v[1,10]))))) (gRet (gC (.bl false))) zbq) (gSeq (zh1 Ψ) (gSeq (gIfS (gOrT (zah (gOp2 (oIn false) #v[0] #v[1,10])) (zah (gOp2 oNe (gArg (gOpN zzv (gCns #v[1,10] gA0))) (gArg (gOpN zds (gCns #v[1,10] gA0)))))) (gRet (gC (.bl false))) zbq) (gSeq (zhz Ψ) (gRet (gC (.bl true)))))))
theorem zil (d:Nat):sem T bn (d+3) "_law_is_flat"=zae [false,false] 6 (zbj (sem T bn (d+2))):=sFq (t:=zbi) (by kernel_rfl) λ_ _=>by kernel_rfl
def zet (Ψ:Str->Fn):GE:=zbb [none,none,some 1,some 3] (.nm 1) (zbs #v[8,8]) (zah (gOp2 oEq (gArg (gOp2 #v[0,8] (zaa 1) (zaa 3))) (zaa 1))) (gOp2 oIx (zaa 2) (zaa 1))
def zex (Ψ:Str->Fn):GE:=zbb [none,none,some 3] (.nm 1) (zbs (gCns (zaa 0) gA0)) (zah (gOp2 oEq (gArg (gOp2 #v[0,8] (gArg (gOp2 #v[3,10] (zaa 2) (zaa 1))) #v[1])) #v[1])) (gVar 1)
def zeu (Ψ:Str->Fn):GS:=(gSeq (gSet [] 4 (zet Ψ)) (gIfS (zah (gOp2 oEq (gArg (gOp2 #v[0,0,2] (gArg (gOpN oSum (gCns (zaa 4) gA0))) #v[2])) #v[1])) (gSet [] 2 (gOpN oMax (gCns (zaa 2) (gCns (gArg (gOpN oLen (gCns (gArg (zex Ψ)) gA0))) gA0)))) zbq))
noncomputable def zev (Ψ:Str->Fn):GS:=gFor [] (.nm 3) (zbs #v[8,8]) (zeu Ψ)
def zeh (Ψ:Str->Fn):GS:=(gSeq (gSet [] 2 (gOp1 oNeg #v[1])) (gSeq (zev Ψ) (zb2 [] 2)))
theorem zsp (d:Nat):sem T bn (d+3) "_law_top"=zae [false,false] 5 (zeh (sem T bn (d+2))):=sFq (t:=zd5) (by kernel_rfl) λ_ _=>by kernel_rfl
def zay (Ψ:Str->Fn):GS:=(gSeq (gSet [0] 6 (zad [true,false] (Ψ "_law_take") #v[6,11])) (za9 3 (gVar 6) (gOp2 #v[0,0,0] #v[1] (gArg (gOp2 oIx (zaa 3) (zaa 6))))))
noncomputable def zbf (Ψ:Str->Fn):GS:=gFor [0] (.nm 5) (zbs #v[1,9]) (zay Ψ)
def za2 (Ψ:Str->Fn):GS:=(gSeq (gSet [0] 3 (zad [false,false] (Ψ "_law_values") (gCns #v[1,4] (gCns (gArg (zad [true,false,false] (Ψ "_law_poly") (gCns (zaa 0) (gCns #v[1,4] (gCns #v[2,4] gA0))))) gA0)))) (gSeq (gSet [0] 4 (zad [true,false] (Ψ "_law_take") (gCns (zaa 0) (gCns #v[4] gA0)))) (gSeq (gIfS (zah (gOp2 oEq (zaa 4) #v[3])) (gSet [0] 3 (zad [true,false] (Ψ "_law_bits") #v[6,11])) zbq) (gSeq (zbf Ψ) (zb2 [0] 3)))))
theorem zgc (d:Nat):sem T bn (d+3) "_law_kind_word"=zae [true,false,false] 7 (za2 (sem T bn (d+2))):=sFq (t:=za1) (by kernel_rfl) λ_ _=>by kernel_rfl
def zcu (Ψ:Str->Fn):GE:=zbb [none,none,some 0] (.nm 1) (zan (zad [false] (Ψ "_law_places") (gCns #v[1,4] gA0))) gYes (gOp2 oIx (zaa 2) (zaa 1))
def zb4 (Ψ:Str->Fn):GS:=(gRet (gOp2 oEq (gArg (gOp2 #v[0,0,2] (gArg (gOpN oSum (gCns (gArg (zcu Ψ)) gA0))) #v[2])) #v[1]))
theorem zkt (d:Nat):sem T bn (d+3) "_law_is_odd"=zae [false,false] 2 (zb4 (sem T bn (d+2))):=sFq (t:=zb6) (by kernel_rfl) λ_ _=>by kernel_rfl
def zbr (Ψ:Str->Fn):GS:=(gSeq (gAsg [] (.tp [2,3]) (gVar 0)) (gSeq (gSet [] 4 (zad [false] (Ψ "_law_word") (gCns #v[1,4] gA0))) (gSeq (gSet [] 5 (zad [false,false] (Ψ "odd_flat") (gCns #v[0,4] (gCns #v[4,4] gA0)))) (gSeq (gIfS (zah (gOp2 oNe (gArg (gOpN zoo (gCns (gArg (zad [false,false] (Ψ "odd_flat") (gCns #v[0,4] (gCns #v[4,4] gA0)))) gA0))) (gArg (gOpN zoo (gCns (zaa 5) gA0))))) (gRet (gC (.bl false))) zbq) (gSeq (gIfS (zah (gOp2 (oI yes2 λi j=>.bl (decide (i<=j))) (gArg (zad [false,false] (Ψ "_law_top") (gCns #v[2,4] (gCns #v[1,4] gA0)))) (zaa 3))) (gRet (gOp2 oIs (zaa 5) (gArg (gC .non)))) zbq) (gRet (gAnd (zad [false,false] (Ψ "_law_is_flat") (gCns #v[2,4] (gCns #v[5,4] gA0))) (gAnd (gOp2 oEq (gArg (gOpN oLen (gCns (gArg (gOp2 oIx (zaa 5) #v[1])) gA0))) (gArg (gOp2 oAdd (zaa 3) #v[1]))) (zad [false,false] (Ψ "_law_is_odd") (gCns #v[1,4] (gCns #v[5,4] gA0)))))))))))
theorem znl (d:Nat):sem T bn (d+3) "_law_right"=zae [false,false] 6 (zbr (sem T bn (d+2))):=sFq (t:=zck) (by kernel_rfl) λ_ _=>by kernel_rfl
def zr9 (Ψ:Str->Fn):GE:=zbb [none,none,some 3,some 4] (.nm 1) (zan (gVar 5)) gYes (zad [false,false] (Ψ "_law_right") (gCns (gArg (zcw (gCns #v[2,4] (gCns #v[3,4] gA0)))) (gCns #v[1,4] gA0)))
def zqp (Ψ:Str->Fn):GS:=(gSeq (gSet [] 3 (zad [true] (Ψ "_law_many") (gCns (zaa 1) gA0))) (gSeq (gSet [] 4 (zad [true,false] (Ψ "_law_take") (gCns (zaa 1) (gCns (gArg (gOp2 oAdd (zaa 3) #v[1])) gA0)))) (gSeq (gSet [] 5 (zat (gCns (gArg (zad [true,false,false] (Ψ "_law_kind_word") (gCns (zaa 1) (gCns #v[3,4] (gCns #v[4,4] gA0))))) (gCns (gArg (zad [true,false,false] (Ψ "_law_kind_word") (gCns (zaa 1) (gCns #v[3,4] (gCns (gArg (gOpN oMin (gCns (zaa 3) (gCns (gArg (gOp2 oAdd (zaa 4) #v[1])) gA0)))) gA0))))) gA0)))) (gSeq (zeq (gApp 5 (zad [false,false] (Ψ "_law_values") (gCns #v[3,4] (gCns (gArg (zad [true,false,false] (Ψ "_law_poly") (gCns (zaa 1) (gCns #v[3,4] (gCns #v[3,4] gA0))))) gA0))))) (gIfS (zik (zah (gOpN (oBl λbs=>bs.all id) (gCns (gArg (zr9 Ψ)) gA0)))) (gRet (gC (.bl false))) zbq)))))
def zuo (Ψ:Str->Fn):GS:=gFor [] (.nm 2) (zbs (gCns (gArg (gOp2 oAdd #v[2] (gArg (gOpN oMin (gCns #v[6] (gCns #v[6,10] gA0)))))) gA0)) (zqp Ψ)
def z6x (Ψ:Str->Fn):GS:=(gSeq (gSet [] 1 (zad [false] (Ψ "_law_hand") (gCns #v[0,4] gA0))) (gSeq (zuo Ψ) (gRet (gC (.bl true)))))
theorem ycv (d:Nat):sem T bn (d+3) "law"=zae [false] 6 (z6x (sem T bn (d+2))):=sFq (t:=zo8) (by kernel_rfl) λ_ _=>by kernel_rfl
noncomputable def sumP:List Nat->Nat
 |[]=>0
 |q::M=>2^q ^^^ sumP M
theorem zkf:∀{M:List Nat},M.Nodup->∀i,(sumP M).testBit i=decide (i∈M)
 |[],_,i=>by rw[Ay Cb];exact Nat.zero_testBit i
 | q::M,h,i=>by
  obtain⟨h1,h2⟩:=Df.mp h;show (2^q ^^^ sumP M).testBit i=_;rw[Dw,Nat.testBit_two_pow,zkf h2];by_cases e:q=i
  ·subst e;rw[Aj rfl,Ay h1,Aj Ax];rfl
  ·rw [Ay e]
   by_cases m:i∈M
   ·rw[Aj m,Aj (As _ m)];rfl
   ·rw[Ay m,Ay λz=>by rcases Ap.mp z with z|z;exact e z.symm;exact m z];rfl
theorem zv7 {n:Nat}:∀{M:List Nat},(∀q∈M,q<n)->sumP M<2^n
 |[],_=>Nat.two_pow_pos n
 |q::M,h=>Fo (Nat.pow_lt_pow_right #v[0,9] (h q Ax)) (zv7 λx hx=>h x (As _ hx))
theorem zxd {L:List Nat}(h:L.Nodup):∃P:List Nat,P.Perm L/\P.Pairwise (· < ·):=by
 refine⟨L.mergeSort (λa b=>decide (a<=b)),List.mergeSort_perm _ _,?_⟩;have s:=List.pairwise_mergeSort (le:=λa b:Nat=>decide (a<=b)) (λa b c h1 h2=>Aj (Cf (At h1) (At h2))) (λa b=>by rw[Co,Cq,Cq];exact Nat.le_total a b) L;have nd:(L.mergeSort (λa b=>decide (a<=b))).Nodup:=(List.mergeSort_perm L _).nodup_iff.mpr h;rw[Dt] at nd;exact (s.and nd).imp λ{a b} q=>by have:=At q.1;have:=q.2;omega
theorem zkp {L P:List Nat}(hp:P.Perm L)(ha:P.Pairwise (· < ·)):zfv (L.map λp:Nat=>(p:Int))=P.map λp:Nat=>(p:Int):=zj6 (hp.map _) (by rw[Er];exact ha.imp λh=>by omega)
theorem z0f {Ψ:Str->Fn}(hT:zje (Ψ "_law_take")):∀(k:Nat) (st:W),HS k st->k+10<big->∃st' m,zae [true] 1 (zb9 Ψ) [st]=some ([st'],(.int (m:Nat),false))/\HS (k+2) st'/\1<=m/\m<=6:=λk st hs hk=>by
 obtain⟨st1,r,e1,g1,r0,r5⟩:=hT k st 5 hs #v[] #v[0,9] #v[0,9];obtain⟨st2,q,e2,g2,q0,q8⟩:=hT (k+1) st1 8 g1 #v[] #v[0,9] #v[0,9];obtain⟨r,rfl⟩:=Eg r0;by_cases c:q=0
 ·subst c;refine⟨st2,6,?_,g2,by decide,Af _⟩;have oi:oInt [.bl true]=#v[1,0]:=rfl;unfold zb9;simp! [e1,e2,oi]
 ·refine⟨st2,1+r, ?_,g2,by omega,by omega⟩;have d:decide (q=0)=false:=Ay c;have oi:oInt [.bl false]=#v[0,0]:=rfl;have ec:(1:Int)+(r:Int)=((1+r:Nat):Int):=by omega
  unfold zb9;simp! [e1,e2,d,oi,ec]
theorem zvz:∀{l l':List Nat},l.Nodup->(∀a∈l,a∈l')->l.length<=l'.length
 |[],_,_,_=>Bm _
 | a::l,l',hn,hs=>by
  have ha:=hs a (Ax ..);have hn':=Df.mp hn;have:=zvz (l:=l) (l':=l'.erase a) hn'.2 λb hb=>(List.mem_erase_of_ne (show b≠a from λe=>hn'.1 (by rw[<-e];exact hb))).mpr (hs b (As _ hb));rw[List.length_erase_of_mem ha] at this;have:=List.length_pos_of_mem ha;rw[Be];omega
def Clo (L:List Nat):Prop:=L.Nodup/\0∈L/\∀a∈L,∀b∈L,a ^^^ b∈L
noncomputable def smF (L:List Nat) (x:Nat):List Nat:=if x∈L then L else L++L.map (x ^^^ ·)
theorem zhb (x a:Nat):x ^^^ (x ^^^ a)=a:=by rw[<-Cn,Nat.xor_self,Nat.zero_xor]
theorem z7b {L:List Nat}{x:Nat}(h:Clo L)(hx:x ∉ L){a:Nat}(ha:a∈L):x ^^^ a ∉ L:=λz=>by
 have:=h.2.2 _ z _ ha;rw[Cn,Nat.xor_self,Fv] at this;exact hx this
theorem zg8 {L:List Nat}(h:L.Nodup)(x:Nat):(L.map (x ^^^ ·)).Nodup:=by
 rw[Dt,Er];rw[Dt] at h;refine h.imp λ{a b} ne e=>ne ?_;have:=congrArg (x ^^^ ·) e
 rwa [zhb,zhb] at this
theorem zpy {L:List Nat}(h:Clo L)(x:Nat):Clo (smF L x):=by
 unfold smF;split
 ·exact h
 ·rename_i hx;refine⟨?_,Cz _ h.2.1,λa ha b hb=>?_⟩
  ·rw[List.nodup_append];refine⟨h.1,zg8 h.1 x,λa ha b hb e=>?_⟩;obtain⟨c,hc,rfl⟩:=Bf.mp hb;rw[e] at ha;exact z7b h hx hc ha
  ·rcases Bq.mp ha with ha|ha <;> rcases Bq.mp hb with hb|hb
   ·exact Cz _ (h.2.2 a ha b hb)
   ·obtain⟨c,hc,rfl⟩:=Bf.mp hb;refine Aw _ (Bf.mpr ⟨a ^^^ c,h.2.2 a ha c hc,?_⟩);rw[<-Cn,Nat.xor_comm x a,Cn]
   ·obtain⟨c,hc,rfl⟩:=Bf.mp ha;refine Aw _ (Bf.mpr ⟨c ^^^ b,h.2.2 c hc b hb,?_⟩);rw[Cn]
   ·obtain⟨c,hc,rfl⟩:=Bf.mp ha;obtain⟨e,he,rfl⟩:=Bf.mp hb;refine Cz _ ?_;have:(x ^^^ c) ^^^ (x ^^^ e)=c ^^^ e:=by rw[Nat.xor_comm x c,Cn,zhb]
    rw[this];exact h.2.2 c hc e he
theorem z3q {n:Nat}{L:List Nat}(h:∀a∈L,a<2^n){x:Nat}(hx:x<2^n):∀a∈smF L x,a<2^n:=λa ha=>by
 unfold smF at ha;split at ha
 ·exact h a ha
 ·rcases Bq.mp ha with ha|ha
  ·exact h a ha
  ·obtain⟨c,hc,rfl⟩:=Bf.mp ha;exact Fo hx (h c hc)
def smX (xs:List Nat):List Nat:=xs.foldl smF [0]
theorem zkr {n:Nat}{L:List Nat}(h:L.Nodup)(hl:∀a∈L,a<2^n):L.length<=2^n:=by
 have:=zvz h (l':=List.range (2^n)) λa ha=>Bl.mpr (hl a ha)
 rwa [By] at this
theorem z9d {a b:Nat}(ha:a≠0)(hb:b≠0)(ne:tp a≠tp b):tp (a ^^^ b)=tp a\/tp (a ^^^ b)=tp b:=by
 rcases Nat.lt_or_gt_of_ne ne with h|h
 ·right
  refine z87 ?_ λi hi=>?_
  ·rw[Dw,zjm h,zye hb];rfl
  ·rw[Dw,zjm hi,zjm (Nat.lt_trans h hi)];rfl
 ·left
  refine z87 ?_ λi hi=>?_
  ·rw[Dw,zjm h,zye ha];rfl
  ·rw[Dw,zjm hi,zjm (Nat.lt_trans h hi)];rfl
theorem z66 {L B:List Nat}{b:Nat}(h:∀l∈L,l≠0->tp l∈B.map tp)(hb:b≠0)(nb:tp b ∉ B.map tp):b ∉ L/\∀l∈smF L b,l≠0->tp l∈(B++[b]).map tp:=by
 have out:b ∉ L:=λm=>nb (h b m hb);refine⟨out,λl hl hz=>?_⟩;unfold smF at hl;rw[if_neg out] at hl;rw[Ca];rcases Bq.mp hl with hl|hl
 ·exact Cz _ (h l hl hz)
 ·obtain⟨c,hc,rfl⟩:=Bf.mp hl;by_cases z:c=0
  ·subst z;rw[Fv];exact Aw _ (Ao.mpr rfl)
  ·have cm:=h c hc z;rcases z9d hb z (λe=>nb (by rw[e];exact cm)) with e|e
   ·rw[e];exact Aw _ (Ao.mpr rfl)
   ·rw[e];exact Cz _ cm
def flF (T:List Nat) (b:Nat):List Nat:=T++T.map (· ^^^ b)
theorem z8p {p:Nat}{B:List Nat} (hB:∀b∈B,b≠0) (nd:(B.map tp).Nodup):∀i,i<=B.length->(B.take i).foldl flF [p]=((B.take i).foldl smF [0]).map (p ^^^ ·)/\∀l∈(B.take i).foldl smF [0],l≠0->tp l∈(B.take i).map tp
 |0,_=>⟨by show [p]=[p ^^^ 0];rw[Fv],λl hl hz=>absurd (Ao.mp hl) hz⟩
 | i+1,hi=>by
  have li:i<B.length:=hi;obtain⟨h1,h2⟩:=z8p (p:=p) hB nd i #v[];have hbi:B[i]?=some B[i]:=Ac li;have dr:B.drop i=B[i]::B.drop (i+1):=Cd li;have tk:B.take (i+1)=B.take i++[B[i]]:=by rw[Dy,hbi];rfl
  rw[<-Bk i B,dr,Ca,List.nodup_append] at nd;generalize B[i]=b at *
  have nb:tp b ∉ (B.take i).map tp:=λm=>nd.2.2 _ m (tp b) Ax rfl;obtain⟨out,h3⟩:=z66 h2 (hB b (Bi hbi)) nb;rw[tk,Dz,Dz];refine⟨?_,h3⟩;show flF _ b=(smF _ b).map _;rw[h1];generalize (B.take i).foldl smF [0]=L at *
  unfold smF flF;rw[if_neg out,Ca,Bz,Bz];congr 1;refine Fb λl _=>?_;show (p ^^^ l) ^^^ b=p ^^^ (b ^^^ l);rw[Cn,Nat.xor_comm l b]
theorem zum (q:Nat):∀M:List Nat,sumP (M++[q])=sumP M ^^^ 2^q
 |[]=>by show 2^q ^^^ 0=0 ^^^ 2^q;rw[Fv,Nat.zero_xor]
 |a::M=>by show 2^a ^^^ sumP (M++[q])=(2^a ^^^ sumP M) ^^^ 2^q;rw[zum q M,Cn]
theorem zm8 {n:Nat}{M:List Nat}(hM:M.Nodup)(hl:∀p∈M,p<n):zab (tab n λi=>if i∈M then 1 else 0)=(sumP M:Nat):=by
 rw[zdr (g:=bitN (sumP M)) λi _=>by
  unfold bitN;rw[zkf hM];by_cases m:i∈M
  ·rw[if_pos m,Aj m];rfl
  ·rw[if_neg m,Ay m];rfl,zc1 n _ (zv7 hl)]
def SumW (L:List Nat):W:=.dct (L.map dkN) (L.map λ_=>.bl true)
theorem yc0 {κ:Type}{ks:List DKey}{ws:List W}{u:W}{d:DKey}{o:Option W}(neg:Bool)(hd:keyD u=some d)(hv:valW (ks.zip ws) d=o)(hs:zim d ks=true):oInD neg u (.dct ks ws)=some (.bl (if o.isSome then !neg else neg),false):=by
 show (keyD u).bind _=_;rw[hd];show (match valW (ks.zip ws) d with
  |some _=>#v[W.bl (!neg),6]
  |none=>if zim d ks then #v[W.bl neg,6] else none)=_
 rw[hv];cases o with
 |none=>show (if zim d ks then #v[W.bl neg,6] else none)=_;rw[hs];rfl
 |some w=>rfl
theorem ybg (x:Nat)(L:List Nat):oInD true (.int (x:Nat)) (SumW L)=some (.bl (!decide (x∈L)),false):=by
 have:=yc0 (κ:=Nat) (ks:=L.map dkN) (ws:=L.map λ_=>W.bl true) (u:=.int (x:Nat)) (d:=dkN x) true rfl (zyv zpf _ x L) (z5p x L);rw[show SumW L=.dct (L.map dkN) (L.map λ_=>W.bl true) from rfl,this];by_cases h:x∈L
 ·rw[if_pos h,Aj h];rfl
 ·rw[if_neg h,Ay h];rfl
noncomputable def zpw (y:Nat):W:=.tup [.int (y:Nat),.bl true]
noncomputable def keyX (y:Nat):Key:=.inl (y:Int)
theorem zuu:∀N:List Nat,zjk (N.map zpw)=some (N.map λy=>(keyX y,W.bl true))
 |[]=>rfl
 | y::N=>by
  show (zvw (zpw y)).bind _=_;rw[show zvw (zpw y)=some (keyX y,W.bl true) from rfl];show (zjk (N.map zpw)).bind _=_;rw[zuu N];rfl
theorem ybh:∀(N L:List Nat),(L++N).Nodup->updW (N.map λy=>(keyX y,W.bl true)) (L.map dkN) (L.map λ_=>W.bl true)=((L++N).map dkN,(L++N).map λ_=>W.bl true)
 |[],L,_=>by rw[Ch];rfl
 | y::N,L,h=>by
  have out:y ∉ L:=λm=>by
   rw[List.nodup_append] at h;exact h.2.2 y m y Ax rfl
  show updW (N.map λy=>(keyX y,W.bl true)) (zf3 (L.map dkN) (dkN y)) (zfm (L.map dkN) (L.map λ_=>W.bl true) (dkN y) (W.bl true))=_;rw[zzz zpf out,zy4 zpf _ _ out];have h':((L++[y])++N).Nodup:=by rw[Ba];exact h
  have:=ybh N (L++[y]) h';rw[Ca,Ca] at this;show updW _ (L.map dkN++[y].map dkN) (L.map (λ_=>W.bl true)++[y].map λ_=>W.bl true)=_;rw[this,Ba];rfl
theorem yb4 {i:Nat}{g:GE}{en e1:En}{ks0 ks:List DKey}{ws0 ws us:List W}{ps:List (Key×W)}(h0:en[i]?=some (some (.dct ks0 ws0,true)))(h1:g en=some (e1,(.lst us,true)))(h2:zjk us=some ps)(h3:e1[i]?=some (some (.dct ks ws,true)))(hz:((ks.all λk=>k.isLeft)&&decide (ks.length+ps.length<=sizeLine))=true):zsz i g en=some (e1.set i (some (.dct (updW ps ks ws).1 (updW ps ks ws).2,true)),(.non,false)):=by
 unfold zsz;simp only [h0,h1,Ec,h2,h3,hz,Fi]
theorem z14 (L:List Nat):((L.map dkN).all λk=>k.isLeft)=true:=by rw[List.all_map,Bd];exact λ_ _=>rfl
noncomputable def z31 (Φ:Fn):Prop:=∀(m:Nat) (xs:List Nat) (x0:W),(x0=.lst (castL xs)\/x0=.tup (castL xs))->m<=6->(∀x∈xs,x<2^m)->∃S:List Nat,Φ [x0]=some ([x0],(.lst (castL S),true))/\S.Perm (smX xs)/\S.Pairwise (· < ·)/\Clo (smX xs)/\∀s∈S,s<2^m
theorem z7f (Ψ:Str->Fn):z31 (zae [false] 3 (zdf Ψ)):=λm xs x0 hx hm hl=>by
 have p6:=zek hm;have s9:(1000:Nat)<=sizeLine:=by decide
 have sq:seqW x0=some (castL xs):=by rcases hx with e|e<;>rw[e]<;>rfl
 have l2:∃w2,zdy Ψ [#v[x0,6],#v[SumW [0],5],none]=some ([#v[x0,6],#v[SumW (smX xs),5],w2],.nx)/\Clo (smX xs)/\∀s∈smX xs,s<2^m:=by
  unfold zdy;obtain⟨en',h,w2,rfl,k1,k2⟩:=zbv (mp:=[]) (T:=.nm 2) (it:=zan (gVar 0)) (body:=zdv Ψ) (λi e=>∃w2,e=[#v[x0,6],#v[SumW ((xs.take i).foldl smF [0]),5],w2]/\Clo ((xs.take i).foldl smF [0])/\∀s∈(xs.take i).foldl smF [0],s<2^m) (en:=[#v[x0,6],#v[SumW [0],5],none]) (e0:=[#v[x0,6],#v[SumW [0],5],none]) (ws:=castL xs) (by simp! [sq]) ⟨none,rfl,⟨by simp,Ao.mpr rfl,λa ha b hb=>by rw[Ao.mp ha,Ao.mp hb];exact Ao.mpr rfl⟩,λs hs=>by rw[Ao.mp hs];exact Nat.two_pow_pos m⟩ λi w e hw hp=>by
   obtain⟨w2,rfl,k1,k2⟩:=hp;obtain⟨x,hxi,rfl⟩:=zaw hw;have tk:(xs.take (i+1)).foldl smF [0]=smF ((xs.take i).foldl smF [0]) x:=by rw[Dy,hxi];show (xs.take i++[x]).foldl smF [0]=_;rw[Dz];rfl
   rw[tk];generalize (xs.take i).foldl smF [0]=L at *
   have xl:=hl x (Bi hxi);have ll:=zkr k1.1 k2;have is:=ybg x L;refine⟨#v[7,9],[#v[x0,6],#v[SumW (smF L x),5],#v[(x:Nat),0]],rfl,.inl ?_,_,rfl,zpy k1 x,z3q k2 xl⟩;unfold zdv;by_cases c:x∈L
   ·rw[Aj c] at is;rw[show smF L x=L from if_pos c];simp! [is]
   ·rw [Ay c] at is;have sm:smF L x=L++L.map (x ^^^ ·):=if_neg c;have nd:=(zpy k1 x).1;rw [sm] at nd;have ld:znf [SumW L]=some (.lst (castL L),true):=by
     show (zno (L.map dkN)).bind _=_;rw[zp0];rfl
    have c1:zcl Ψ #v[7,9]=some (#v[7,9],(.lst ((L.map (x ^^^ ·)).map zpw),true)):=by
     unfold zcl;refine zmo (cap:=[none,none,some 2]) (xs:=[#v[(x:Nat),0]]) (e0:=#v[7,9]) (ws:=castL L) (by simp! [ld]) (by rw[zai];omega) (by rw[zai,Ae,Ae]) rfl rfl rfl (λ_ _=>rfl) λj u w r hw hr=>?_;obtain⟨o,ho,rfl⟩:=zaw hw;rw[Au,Au,ho] at hr;have hr:zpw (x ^^^ o)=r:=sI hr;subst hr;have xn:=zqf x o;unfold zpw;refine⟨#v[(o:Nat),0],false,?_⟩;simp! [xn]
    have ud:=yb4 (i:=1) (g:=zcl Ψ) (en:=#v[7,9]) (e1:=#v[7,9]) (ks0:=L.map dkN) (ws0:=L.map λ_=>W.bl true) (ks:=L.map dkN) (ws:=L.map λ_=>W.bl true) rfl c1 (zuu _) rfl (by rw[z14,Bool.true_and,Aj];rw[Ae,Ae,Ae];omega);rw[ybh _ _ nd,<-sm] at ud;rw[zy2 (e1:=#v[7,9]) (by simp! [is])];rw[zws ud]
    rfl
  rw[zai,Ci] at h k1 k2;exact⟨w2,h,k1,k2⟩
 obtain⟨w2,l2,k1,k2⟩:=l2;obtain⟨S,sp,sa⟩:=zxd k1.1;refine⟨S,?_,sp,sa,k1,λs hs=>k2 s (sp.mem_iff.mp hs)⟩;have so:zl9 [SumW (smX xs)]=#v[(castL S),2]:=by
  have ne:(smX xs)≠[]:=λz=>by have:=k1.2.1;rw[z] at this;exact nomatch this
  show (zno ((smX xs).map dkN)).bind _=_;rw[zp0];show (zcd (castL (smX xs))).bind _=_;rw[zd3,zc6];show (if ((smX xs).map dkN).isEmpty then none else some (W.lst ((zfv ((smX xs).map λp:Nat=>(p:Int))).map W.int),true))=_;rw[zkp sp sa,<-zd3,if_neg (by rw[List.isEmpty_iff,List.map_eq_nil_iff];exact ne)]
 unfold zdf;refine zba (en:=[#v[x0,6],#v[SumW (smX xs),5],w2]) rfl (zhi (e1:=[#v[x0,6],#v[SumW [0],5],none]) rfl (zhi l2 (by simp! [so]))) rfl
def flW (p:Nat) (B:List Nat):W:=.tup [.int (p:Nat),.tup (castL B)]
def z2c (m p:Nat) (B:List Nat):Prop:=p<2^m/\(∀b∈B,b≠0/\b<2^m)/\(B.map tp).Nodup/\B.length<=64
noncomputable def plcs (p:Nat) (B:List Nat):List Nat:=(smX B).map (p ^^^ ·)
def IsPl (m p:Nat) (B P:List Nat):Prop:=P.Perm (plcs p B)/\P.Pairwise (· < ·)/\(∀q∈P,q<2^m)
noncomputable def zrt (Φ:Fn):Prop:=∀(m p:Nat) (B:List Nat),m<=6->z2c m p B->∃P,Φ [flW p B]=some ([flW p B],(.lst (castL P),true))/\IsPl m p B P
theorem zu6 {Ψ:Str->Fn}(hS:z31 (Ψ "_law_sums")):zrt (zae [false] 1 (G__law_places Ψ)):=λm p B hm hg=>by
 have p6:=zek hm;obtain⟨S,e1,sp,sa,sc,sl⟩:=hS m B (.tup (castL B)) (.inr rfl) hm λx hx=>(hg.2.1 x hx).2;have Sl:S.length<=64:=by
  have:=zkr (n:=m) (sp.nodup_iff.mpr sc.1) sl;omega
 have sq:seqW (flW p B)=some [.int (p:Nat),.tup (castL B)]:=rfl;have a0:atI [W.int (p:Nat),.tup (castL B)] 0=some (.int (p:Nat)):=rfl;have a1:atI [W.int (p:Nat),.tup (castL B)] 1=some (.tup (castL B)):=rfl;have c1:zcx Ψ [#v[flW p B,6]]=some ([#v[flW p B,6]],(.lst (castL (S.map (p ^^^ ·))),true)):=by
  unfold zcx;refine zmo (cap:=[none,none,some 0]) (xs:=[#v[flW p B,6]]) (e0:=[#v[flW p B,6]]) (ws:=castL S) (by simp! [sq,a1,e1]) (by rw[zai];omega) (by rw[zai,zai,Ae]) rfl rfl rfl (λ_ _=>rfl) λj u w r hw hr=>?_;obtain⟨o,ho,rfl⟩:=zaw hw;obtain⟨q,hq,rfl⟩:=zaw hr;rw[Au,ho] at hq;have hq:p ^^^ o=q:=sI hq;subst hq;have xn:=zqf p o;refine⟨#v[(o:Nat),0],false,?_⟩;simp! [sq,a0,xn]
 have nd:(S.map (p ^^^ ·)).Nodup:=zg8 (sp.nodup_iff.mpr sc.1) p;obtain⟨P,pp,pa⟩:=zxd nd;have so:zds [.lst (castL (S.map (p ^^^ ·)))]=#v[(castL P),2]:=by
  rw[zd3];show (zcd (((S.map (p ^^^ ·)).map λb:Nat=>(b:Int)).map W.int)).bind _=_;rw[zc6];show some (W.lst ((zfv ((S.map (p ^^^ ·)).map λb:Nat=>(b:Int))).map W.int),true)=_;rw[zkp pp pa,<-zd3]
 refine⟨P,?_,pp.trans (sp.map _),pa,λq hq=>?_⟩
 ·unfold G__law_places;simp! [c1,so]
 ·obtain⟨s,hs,rfl⟩:=Bf.mp (pp.mem_iff.mp hq);exact Fo hg.1 (sl s hs)
noncomputable def z3d (Φ:Fn):Prop:=∀(m p:Nat) (B P:List Nat),m<=6->z2c m p B->IsPl m p B P->Φ [flW p B]=some ([flW p B],(.tup (castL P),false))
theorem zw8 {Ψ:Str->Fn}(hX:XorN (Ψ "plus")):z3d (zae [false] 5 (zb5 Ψ)):=λm p B P hm hg hP=>by
 have p6:=zek hm;have s9:(1000:Nat)<=sizeLine:=by decide
 have pl:P.length<=64:=by
  have:=zkr (n:=m) (hP.2.1.imp λh=>Az h) hP.2.2;omega
 have tl:(B.foldl flF [p]).length<=64/\B.foldl flF [p]=plcs p B:=by
  have:=(z8p (p:=p) (λb hb=>(hg.2.1 b hb).1) hg.2.2.1 B.length (Af _)).1;rw[Ci] at this;refine⟨?_,this⟩;rw[this,show ((B.foldl smF [0]).map (p ^^^ ·)).length=P.length from hP.1.length_eq.symm];exact pl
 have grow:∀(C:List Nat) (T:List Nat),T.length<=(C.foldl flF T).length:=λC=>by
  induction C with
  |nil=>exact λT=>Af _
  |cons b C ih=>exact λT=>Cf (by unfold flF;rw[Bc];omega) (ih (flF T b))
 have l2:∃w4,zcv Ψ #v[6,9]=some ([#v[flW p B,6],#v[(p:Nat),0],#v[(castL B),3],#v[(castL (B.foldl flF [p])),2],w4],.nx):=by
  unfold zcv;obtain⟨en',h,w4,rfl⟩:=zbv (mp:=[]) (T:=.nm 4) (it:=zan (gVar 2)) (body:=zct Ψ) (λi e=>∃w4,e=[#v[flW p B,6],#v[(p:Nat),0],#v[(castL B),3],#v[(castL ((B.take i).foldl flF [p])),2],w4]) (en:=#v[6,9]) (e0:=#v[6,9]) (ws:=castL B) (by simp! []) ⟨none,rfl⟩ λi w e hw hp=>by
   obtain⟨w4,rfl⟩:=hp;obtain⟨b,hb,rfl⟩:=zaw hw;have li:=(Ak.mp hb).1;have tk:(B.take (i+1)).foldl flF [p]=flF ((B.take i).foldl flF [p]) b:=by rw[Dy,hb];show (B.take i++[b]).foldl flF [p]=_;rw[Dz];rfl
   have ll:(flF ((B.take i).foldl flF [p]) b).length<=64:=by
    rw[<-tk];have:=grow (B.drop (i+1)) ((B.take (i+1)).foldl flF [p]);rw[<-Dz,Bk] at this;omega
   rw[tk];generalize (B.take i).foldl flF [p]=T at *
   have tl2:T.length+T.length<=64:=by unfold flF at ll;rw[Bc,Ae] at ll;exact ll
   have c1:zcz Ψ [#v[flW p B,6],#v[(p:Nat),0],#v[(castL B),3],#v[(castL T),2],#v[(b:Nat),0]]=some ([#v[flW p B,6],#v[(p:Nat),0],#v[(castL B),3],#v[(castL T),1],#v[(b:Nat),0]],(.lst (castL (T.map (· ^^^ b))),true)):=by
    unfold zcz;refine zmo (cap:=[none,none,some 4]) (xs:=[#v[(b:Nat),0]]) (e0:=[#v[flW p B,6],#v[(p:Nat),0],#v[(castL B),3],#v[(castL T),1],#v[(b:Nat),0]]) (ws:=castL T) (by simp! []) (by rw[zai];omega) (by rw[zai,zai,Ae]) rfl rfl rfl (λ_ _=>rfl) λj u w r hw hr=>?_;obtain⟨o,ho,rfl⟩:=zaw hw;obtain⟨q,hq,rfl⟩:=zaw hr;rw[Au,ho] at hq;have hq:o ^^^ b=q:=sI hq;subst hq;have xn:=hX o b;refine⟨#v[(o:Nat),0],false,?_⟩;simp! [xn]
   have ad:oAdd (.lst (castL T)) (.lst (castL (T.map (· ^^^ b))))=#v[(castL (flF T b)),2]:=by
    rw[zt4 (by rw[zai,zai,Ae];omega)];unfold flF castL;rw[Ca]
   refine⟨[#v[flW p B,6],#v[(p:Nat),0],#v[(castL B),3],#v[(castL T),2],#v[(b:Nat),0]],[#v[flW p B,6],#v[(p:Nat),0],#v[(castL B),3],#v[(castL (flF T b)),2],#v[(b:Nat),0]],rfl,.inl ?_,_,rfl⟩;unfold zct;simp! [c1,ad]
  rw[zai,Ci] at h;exact⟨_,h⟩
 obtain⟨w4,l2⟩:=l2;have so:zds [.lst (castL (B.foldl flF [p]))]=#v[(castL P),2]:=by
  rw[zd3];show (zcd (((B.foldl flF [p]).map λb:Nat=>(b:Int)).map W.int)).bind _=_;rw[zc6];show some (W.lst ((zfv ((B.foldl flF [p]).map λb:Nat=>(b:Int))).map W.int),true)=_;rw[zkp (by rw[tl.2];exact hP.1) hP.2.1,<-zd3]
 have ot:zc2 [.lst (castL P)]=#v[(castL P),3]:=rfl;unfold zb5;refine zba (en:=[#v[flW p B,6],#v[(p:Nat),0],#v[(castL B),3],#v[(castL (B.foldl flF [p])),2],w4]) rfl (zhi (e1:=[#v[flW p B,6],#v[(p:Nat),0],#v[(castL B),3],none,none]) rfl (zhi (e1:=#v[6,9]) (by simp! [];rfl) (zhi l2 (by simp! [so,ot])))) rfl
noncomputable def z3v (Φ:Fn):Prop:=∀(m p:Nat) (B P:List Nat),m<=6->z2c m p B->IsPl m p B P->Φ [flW p B]=some ([flW p B],(.int (sumP P:Nat),false))
theorem pl_nodup {P:List Nat}(h:P.Pairwise (· < ·)):P.Nodup:=h.imp λh=>Az h
theorem zw7 {Ψ:Str->Fn}(hA:zsb (Ψ "word_at"))(hF:z3d (Ψ "flat_places")):z3v (zae [false] 1 (zdm Ψ)):=λm p B P hm hg hP=>by
 have e1:=hF m p B P hm hg hP;have e2:=hA (2^m) P (zek hm) hP.2.2;rw[zm8 (pl_nodup hP.2.1) hP.2.2] at e2;unfold zdm;simp! [e1,e2]
noncomputable def ydk (Φ:Fn):Prop:=∀(k:Nat) (st:W),HS k st->k+10<big->∃st' m,Φ [st]=some ([st'],(.int (m:Nat),false))/\HS (k+2) st'/\1<=m/\m<=6
theorem zg3 (n:Nat):rngW 0 n=castL (List.range n):=by
 apply De;intro i;by_cases h:i<n
 ·unfold castL;rw[Au,List.getElem?_range h];have hl:i<(rngW 0 n).length:=by rw[zd9];exact h
  rw[Ac hl];have:=zea (Ac hl);rw[this.2,Gv];rfl
 ·rw[Bo (by rw[zd9];omega),Bo (by rw[zai,By];omega)]
theorem zzy {Ψ:Str->Fn}(hW:zke (Ψ "weight"))(hA:z68 (Ψ "times")):z29 (zae [false,false] 2 (zwh Ψ)):=λxs ys bx by' hz=>z7i hW hA bx by' hz
noncomputable def endF {α:Type} (r:α->W×Bool):Option α->Fl
 |some x=>.ret (r x)
 |none=>.nx
theorem seq_e {a b:GS}{en e1:En}{r:Option (En×Fl)}(h1:a en=some (e1,.nx))(h2:b e1=r):gSeq a b en=r:=(seq_nx h1).trans h2
noncomputable def uL (t:List Nat):List Nat:=t.map λl=>2^l
theorem u_ok:∀m:Fin 7,∀t∈zam m.val m.val,(∀b∈uL t,b≠0/\b<2^m.val)/\((uL t).map tp).Nodup/\(uL t).length<=64:=by decide +kernel
theorem zxs {m p:Nat}{t:List Nat}(hm:m<=6)(ht:t∈zam m m)(hp:p<2^m):z2c m p (uL t):=⟨hp,(u_ok ⟨m,by omega⟩ t ht).1,(u_ok ⟨m,by omega⟩ t ht).2.1,(u_ok ⟨m,by omega⟩ t ht).2.2⟩
def frP (m:Nat) (t:List Nat):List Nat:=(List.range (2^m)).filter λp=>decide (p ^^^ sel (uL t) p=p)
theorem zr0 {α:Type}{cap:Cap}{it:GL}{te:GE}{en e0:En}{ts:List α}{xs:En} (f:α->W) (g:α->W) (hi:it en=some (e0,ts.map f)) (hz:ts.length<=1000) (hn:zcj cap=true) (hk:(capKeep cap).contains 1=false) (hx:zfy cap e0=none::none::xs) (hb:∀v0 v1,zau cap e0 (v0::v1::xs)=e0)
  (ht:∀v0 a,a∈ts->∃u' b,te (v0::#v[f a,6]::xs)=some (v0::u'::xs,(g a,b))):zbb cap (.nm 1) it gYes te en=some (e0,(.lst (ts.map g),true)):=by
 have:=zfl (tc:=gYes) (te:=te) f (λ_=>true) g hi hz hn hk hx hb λv0 a ha=>⟨#v[f a,6],rfl,λ_=>ht v0 a ha⟩
 rwa [List.filter_eq_self.mpr (λ_ _=>rfl)] at this
noncomputable def z2w (Φ:Fn):Prop:=∀(m:Nat) (t:List Nat),m<=6->t∈zam m m->Φ [.int (m:Nat),.tup (castL (uL t))]=some ([.int (m:Nat),.tup (castL (uL t))],(.tup ((frP m t).map λp=>flW p (uL t)),false))
theorem z1q {Ψ:Str->Fn}(hW:WtN (Ψ "without_tops")):z2w (zae [false,false] 3 (zb7 Ψ)):=λm t hm ht=>by
 have p6:=zek hm;have em:=pow1 (l:=m) #v[];have om:=za3 m;have uo:=u_ok ⟨m,by omega⟩ t ht;have fl:(frP m t).length<=64:=by
  have:=List.length_filter_le (λp=>decide (p ^^^ sel (uL t) p=p)) (List.range (2^m));rw[By] at this;unfold frP;omega
 have c1:zcr Ψ #v[8,9]=some (#v[8,9],(.lst (castL (frP m t)),true)):=by
  unfold zcr;have it:zbs #v[8,8] #v[8,9]=some (#v[8,9],(List.range (2^m)).map λp=>W.int (p:Nat)):=by
   have:=rng1_n (a:=gArg (gOp2 #v[0,0,1] #v[1] (zaa 0))) (en:=#v[8,9]) (e1:=#v[8,9]) (n:=2^m) (by simp! [em,om]) #v[];rw[zg3] at this;exact this
  refine zfl (cap:=[none,none,some 1]) (xs:=[#v[(castL (uL t)),3]]) (λp=>W.int (p:Nat)) (λp=>decide (p ^^^ sel (uL t) p=p)) (λp=>W.int (p:Nat)) it (by rw[By];omega) rfl rfl rfl (λ_ _=>rfl) λv0 p hp=>?_;have e:=hW (uL t) p (.tup (castL (uL t))) (.inr rfl) λb hb=>(uo.1 b hb).1;have d:decide (((p ^^^ sel (uL t) p:Nat):Int)=(p:Int))=decide (p ^^^ sel (uL t) p=p):=decide_eq_decide.mpr Int.ofNat_inj;refine⟨#v[(p:Nat),0],?_,λ_=>⟨#v[(p:Nat),0],false,?_⟩⟩
  ·simp! [e,d]
  ·simp! []
 have c2:zcy Ψ [#v[(m:Nat),0],#v[(castL (uL t)),3],#v[(castL (frP m t)),2]]=some (#v[3,12],(.lst ((frP m t).map λp=>flW p (uL t)),true)):=by
  unfold zcy;refine zr0 (cap:=[none,none,some 1]) (xs:=[#v[(castL (uL t)),3]]) (e0:=#v[3,12]) (λp=>W.int (p:Nat)) (λp=>flW p (uL t)) (by simp! [];rfl) #v[] rfl rfl rfl (λ_ _=>rfl) λv0 p hp=>⟨#v[(p:Nat),0],false,?_⟩;unfold flW;simp! []
 have ot:zc2 [.lst ((frP m t).map λp=>flW p (uL t))]=#v[((frP m t).map λp=>flW p (uL t)),3]:=rfl;unfold zb7;refine zba (en:=#v[3,12]) rfl (seq_e (e1:=[#v[(m:Nat),0],#v[(castL (uL t)),3],#v[(castL (frP m t)),2]]) ?_ ?_) rfl
 ·simp! [c1]
 ·simp! [c2,ot]
noncomputable def lfT (m k:Nat):List (List Nat):=(zam m k).filter λt=>decide (t.length=k)
theorem z5z:∀m:Fin 7,∀k:Fin 8,∀t∈lfT m.val k.val,t∈zam m.val m.val/\t.length=k.val:=by decide +kernel
theorem z3x:∀m:Fin 7,∀k:Fin 8,(lfT m.val k.val).length<=64/\(zam m.val k.val).length<=64/\∀t∈zam m.val k.val,t.length<=6/\∀l∈t,l<6:=by decide +kernel
theorem z4o (Ψ:Str->Fn):∀m:Nat,1<=m->m<=6->tsP Ψ m (m+1)
 |1,_,_=>by unfold tsP;kernel_rfl
 |2,_,_=>by unfold tsP;kernel_rfl
 |3,_,_=>by unfold tsP;kernel_rfl
 |4,_,_=>by unfold tsP;kernel_rfl
 |5,_,_=>by unfold tsP;kernel_rfl
 |6,_,_=>by unfold tsP;kernel_rfl
 |0,h,_=>by omega
 |m+7,_,h=>by omega
def z3i (Φ:Fn):Prop:=∀m k:Nat,1<=m->m<=6->k<=m+1->Φ [kdW m k]=some ([kdW m k],(.tup ((zam m k).map tmW),false))
theorem z4v {Ψ Ψ':Str->Fn}(h:Ψ "longer_terms" = zae [false,false] 2 (zh2 Ψ')):z3i (zae [false] 6 (zcf Ψ)):=λm k h1 h6 hk=>by
 by_cases c:k<=m
 ·exact z1t h m k h1 h6 c
 ·obtain rfl:k=m+1:=by omega
  have e:zcf Ψ=zcf (λ_=>Ψ "longer_terms"):=rfl;rw[e,h];exact z4o Ψ' m h1 h6
theorem z4p (fs:List W) (v0 v1:Option (W×Bool)):∀v2,∃v2',zdd [] (.nm 2) gYes (gOne (gVar 2)) fs [v0,v1,v2]=some ([v0,v1,v2'],fs):=by
 induction fs with
 |nil=>exact λv2=>⟨v2,rfl⟩
 | cons f fs ih =>
  intro v2;obtain⟨v2',e⟩:=ih (#v[f,6]);refine⟨v2',?_⟩;show (zdd [] (.nm 2) gYes (gOne (gVar 2)) fs [v0,v1,#v[f,6]]).bind _=_;rw[e];rfl
theorem zr2 (v0:Option (W×Bool)):∀(rows:List (List W)) (v1 v2:Option (W×Bool)),∃v1' v2',zdd [] (.nm 1) gYes (gTwo [] (.nm 2) (zan (gVar 1)) gYes (gOne (gVar 2))) (rows.map W.tup) [v0,v1,v2]=some ([v0,v1',v2'],rows.flatten)
 |[],v1,v2=>⟨v1,v2,rfl⟩
 | r::rows,v1,v2=>by
  obtain⟨v2',e⟩:=z4p r v0 (#v[r,3]) v2;obtain⟨w1,w2,ih⟩:=zr2 v0 rows (#v[r,3]) v2';refine⟨w1,w2,?_⟩;show (gTwo [] (.nm 2) (zan (gVar 1)) gYes (gOne (gVar 2)) [v0,#v[r,3],v2]).bind _=_;have:gTwo [] (.nm 2) (zan (gVar 1)) gYes (gOne (gVar 2)) [v0,#v[r,3],v2]=some ([v0,#v[r,3],v2'],r):=e;rw[this];show (zdd [] (.nm 1) gYes (gTwo [] (.nm 2) (zan (gVar 1)) gYes (gOne (gVar 2))) (rows.map W.tup) [v0,#v[r,3],v2']).bind _=_;rw[ih];rfl
def lfP (m k:Nat):List (List Nat×Nat):=(lfT m k).flatMap λt=>(frP m t).map λp=>(t,p)
def fW (x:List Nat×Nat):W:=flW x.2 (uL x.1)
theorem ycj (m k:Nat):#v[6,7].flatten=(lfP m k).map fW:=by
 unfold lfP;rw[List.map_flatMap,List.flatMap_def];congr 1;apply Fb;intro t _;rw[Bz];rfl
theorem zuw:∀m:Fin 7,∀k:Fin 8,(lfP m.val k.val).length<=1000:=by decide +kernel
noncomputable def z9l (Φ:Fn):Prop:=∀m k:Nat,1<=m->m<=6->k<=m+1->Φ [.int (m:Nat),.int (k:Nat)]=some ([.int (m:Nat),.int (k:Nat)],(.lst ((lfP m k).map fW),true))
theorem z17 {Ψ:Str->Fn}(hT:z3i (Ψ "terms"))(hA:z2w (Ψ "flats_along")):z9l (zae [false,false] 4 (zbl Ψ)):=λm k h1 h6 hk=>by
 have s9:(1000:Nat)<=sizeLine:=by decide
 obtain⟨ll,lt,ls⟩:=z3x ⟨m,by omega⟩ ⟨k,by omega⟩;have li:=z5z ⟨m,by omega⟩ ⟨k,by omega⟩;have sm:=zuw ⟨m,by omega⟩ ⟨k,by omega⟩;dsimp only at ll lt ls li sm;have e:=hT m k h1 h6 hk;unfold kdW at e;have c1:zce Ψ [#v[(m:Nat),0],#v[(k:Nat),0],none,none]=some ([#v[(m:Nat),0],#v[(k:Nat),0],none,none],(.lst ((lfT m k).map tmW),true)):=by
  unfold zce;refine zfl (cap:=[none,none,some 1]) (xs:=[#v[(k:Nat),0]]) (e0:=[#v[(m:Nat),0],#v[(k:Nat),0],none,none]) tmW (λt=>decide (t.length=k)) tmW (by simp! [e]) #v[] rfl rfl rfl (λ_ _=>rfl) λv0 t ht=>?_;have sq:seqW (tmW t)=some (t.map λl=>W.int (l:Nat)):=rfl;have d:decide ((t.length:Int)=(k:Int))=decide (t.length=k):=decide_eq_decide.mpr Int.ofNat_inj;refine⟨#v[tmW t,6],?_,λ_=>⟨#v[tmW t,6],false,?_⟩⟩
  ·simp! [sq,Ae,d]
  ·simp! []
 have c3:zci Ψ [#v[(m:Nat),0],#v[(k:Nat),0],#v[((lfT m k).map tmW),2],none]=some ([#v[(m:Nat),0],#v[(k:Nat),0],#v[((lfT m k).map tmW),1],none],(.lst (#v[6,7].map W.tup),true)):=by
  unfold zci;rw[Bz];refine zr0 (cap:=[none,none,some 0]) (xs:=[#v[(m:Nat),0]]) (e0:=[#v[(m:Nat),0],#v[(k:Nat),0],#v[((lfT m k).map tmW),1],none]) tmW _ (by simp! []) #v[] rfl rfl rfl (λ_ _=>rfl) λv0 t ht=>⟨#v[tmW t,6],false,?_⟩;have hm:=(li t ht).1;have tl:=z3x ⟨m,by omega⟩ ⟨m,by omega⟩;have t6:=tl.2.2 t hm;have c2:zca Ψ [v0,#v[tmW t,6],#v[(m:Nat),0]]=some ([v0,#v[tmW t,6],#v[(m:Nat),0]],(.lst (castL (uL t)),true)):=by
   unfold zca;refine zmo (cap:=[none,none]) (xs:=[]) (e0:=[v0,#v[tmW t,6],#v[(m:Nat),0]]) (ws:=castL t) (by unfold tmW;simp! [];rfl) (by rw[zai];omega) (by unfold uL;rw[zai,zai,Ae]) rfl rfl rfl (λ_ _=>rfl) λi u w r hw hr=>?_;obtain⟨l,hl,rfl⟩:=zaw hw;obtain⟨q,hq,rfl⟩:=zaw hr;unfold uL at hq;rw[Au,hl] at hq;obtain rfl:=sI hq;have l6:=t6.2 l (Bi hl);have e1:=pow1 (l:=l) #v[];refine⟨#v[(l:Nat),0],false,?_⟩;simp! [e1,za3]
  have ot:zc2 [.lst (castL (uL t))]=#v[(castL (uL t)),3]:=rfl;have fa:=hA m t h6 hm;simp! [c2,ot,fa]
  try rfl
 have c4:zch Ψ #v[4,10]=some (#v[5,10],(.lst ((lfP m k).map fW),true)):=by
  obtain⟨v1,v2,fo⟩:=zr2 none #v[6,7] none none;rw[ycj] at fo;unfold zch zn5 zq5;have it:zan (gVar 3) #v[4,10]=some (#v[5,10],#v[6,7].map W.tup):=by simp! []
  rw[it];show (zdd [] (.nm 1) gYes (gTwo [] (.nm 2) (zan (gVar 1)) gYes (gOne (gVar 2))) (#v[6,7].map W.tup) [none,none,none]).bind _=_;rw[fo];show (if ((lfP m k).map fW).length<=sizeLine then _ else none)=_;rw[if_pos (by rw[Ae];omega)]
  rfl
 unfold zbl;refine zba (en:=#v[5,10]) rfl (seq_e (e1:=[#v[(m:Nat),0],#v[(k:Nat),0],#v[((lfT m k).map tmW),2],none]) ?_ (seq_e (e1:=#v[4,10]) ?_ ?_)) rfl
 ·simp! [c1]
 ·simp! [c3]
 ·simp! [c4]
def parF (f:Nat->Int) (x:List Nat×Nat):Int:=((plcs x.2 (uL x.1)).map f).sum%2
noncomputable def oddB (f:Nat->Int) (x:List Nat×Nat):Bool:=decide (parF f x=1)
theorem z7c (f:Nat->Int)(x:List Nat×Nat):parF f x=0\/parF f x=1:=by unfold parF;omega
theorem z6u {n:Nat}{f:Nat->Int}{P:List Nat}(nd:P.Nodup)(hl:∀q∈P,q<n):dotP (tab n f) (tab n λi=>if i∈P then 1 else 0)=(P.map f).sum%2:=by
 unfold dotP tab;rw[ztr];have h:=zqm f (λi=>decide (i∈P)) (List.range n);have e:((List.range n).map λp=>f p*(if p∈P then 1 else 0))=(List.range n).map λp=>f p*(if decide (p∈P) then 1 else 0):=Fb λp _=>by
  by_cases c:p∈P
  ·rw[if_pos c,Aj c];rfl
  ·rw[if_neg c,Ay c];rfl
 rw[e,<-h];have pm:((List.range n).filter λi=>decide (i∈P)).Perm P:=by
  rw[List.perm_iff_count];intro a;have n1:((List.range n).filter λi=>decide (i∈P)).Nodup:=List.nodup_range.filter _;rw[n1.count,nd.count];have:a∈(List.range n).filter (λi=>decide (i∈P))↔a∈P:=by
   rw[Cs,Bl,Cq];exact⟨λz=>z.2,λz=>⟨hl a z,z⟩⟩
  simp only [this]
 rw[zgo f pm]
theorem z0t (n:Nat)(P:List Nat):Bits (tab n λi=>if i∈P then (1:Int) else 0):=zcp λi _=>by
 show Bit (if i∈P then (1:Int) else 0);split<;>first|exact .inr rfl|exact .inl rfl
def InF (m:Nat) (x:List Nat×Nat):Prop:=x.1∈zam m m/\x.2<2^m
theorem ycm {m:Nat}{x:List Nat×Nat}(hm:m<=6)(h:InF m x):∃P,IsPl m x.2 (uL x.1) P:=by
 have g:=zxs hm h.1 h.2;have cl:∀(xs L:List Nat),(∀a∈xs,a<2^m)->(∀a∈L,a<2^m)->∀a∈xs.foldl smF L,a<2^m:=λxs=>by
  induction xs with
  |nil=>exact λL _ h=>h
  |cons y xs ih=>exact λL hx h=>ih _ (λa ha=>hx a (As _ ha)) (z3q h (hx y Ax))
 have co:∀(xs L:List Nat),Clo L->Clo (xs.foldl smF L):=λxs=>by
  induction xs with
  |nil=>exact λL h=>h
  |cons y xs ih=>exact λL h=>ih _ (zpy h y)
 have c0:Clo [0]:=⟨by simp,by simp,λa ha b hb=>by rw[Ao.mp ha,Ao.mp hb];simp⟩;have hc:Clo (smX (uL x.1)):=co _ _ c0;obtain⟨P,pp,pa⟩:=zxd (zg8 hc.1 x.2);refine⟨P,pp,pa,λq hq=>?_⟩;obtain⟨s,hs,rfl⟩:=Bf.mp (pp.mem_iff.mp hq);exact Fo h.2 (cl _ _ (λa ha=>(g.2.1 a ha).2) (λa ha=>by rw[Ao.mp ha];exact Nat.two_pow_pos m) s hs)
noncomputable def z92 (Φ:Fn):Prop:=∀(m:Nat) (f:Nat->Int) (x:List Nat×Nat),m<=6->(∀i,Bit (f i))->InF m x->Φ [.int (zab (tab (2^m) f)),fW x]=some ([.int (zab (tab (2^m) f)),fW x],(.bl (oddB f x),false))
theorem z1r {Ψ:Str->Fn}(hE:z29 (Ψ "is_even"))(hF:z3v (Ψ "flat_word")):z92 (zae [false,false] 2 (zdj Ψ)):=λm f x hm hf hx=>by
 have p6:=zek hm;obtain⟨P,hP⟩:=ycm hm hx;have nd:=pl_nodup hP.2.1;have e1:=hF m x.2 (uL x.1) P hm (zxs hm hx.1 hx.2) hP;have e2:=hE (tab (2^m) f) (tab (2^m) λi=>if i∈P then 1 else 0) (zcp λi _=>hf i) (z0t _ _) (by rw[za5];omega);rw[zm8 nd hP.2.2,z6u nd hP.2.2,zgo f hP.1] at e2;have e1:Ψ "flat_word" [fW x]=some ([fW x],(.int (sumP P:Nat),false)):=e1;unfold oddB;have pb:=z7c f x;unfold parF at pb ⊢;generalize ((plcs x.2 (uL x.1)).map f).sum%2=z at e2 pb ⊢;unfold zdj;rcases pb with rfl|rfl
 ·rw[show decide ((0:Int)=0)=true from rfl] at e2;rw[show decide ((0:Int)=1)=false from rfl];simp! [e1,e2]
 ·rw[show decide ((1:Int)=0)=false from rfl] at e2;rw[show decide ((1:Int)=1)=true from rfl];simp! [e1,e2]
theorem yaa {m p:Nat}{t:List Nat}(h:p∈frP m t):p<2^m:=Bl.mp (Cs.mp h).1
theorem z8q {m k:Nat}{x:List Nat×Nat}(hm:m<=6)(hk:k<=7)(h:x∈lfP m k):InF m x/\x.1.length=k:=by
 unfold lfP at h;obtain⟨t,ht,h⟩:=List.mem_flatMap.mp h;obtain⟨p,hp,rfl⟩:=Bf.mp h;have:=z5z ⟨m,by omega⟩ ⟨k,by omega⟩ t ht;exact⟨⟨this.1,yaa hp⟩,this.2⟩
def outW (m k:Nat) (f:Nat->Int):W:=match (lfP m k).find? (oddB f) with|some x=>fW x|none=>.non
theorem zne {body:GS}{a b c d:Option (W×Bool)}{α:Type} (f:α->W) (p:α->Bool) (r:α->W×Bool):∀(L:List α),(∀x∈L,p x=true->∃v,body [a,b,c,d,some (f x,false)]=some ([a,b,c,d,v],.ret (r x)))->(∀x∈L,p x=false->∃v,body [a,b,c,d,some (f x,false)]=some ([a,b,c,d,v],.nx))->∀v,∃v',zie [] (.nm 4) body (L.map f) [a,b,c,d,v]=some ([a,b,c,d,v'],endF r (L.find? p))
 |[],_,_,v=>⟨v,rfl⟩
 | x::L,h1,h2,v=>by
  cases hp:p x with
  | true =>
   obtain⟨v',e⟩:=h1 x Ax hp;refine⟨v',?_⟩;rw[Dg,hp];dsimp only [endF];show (match body [a,b,c,d,#v[f x,6]] with|some (e2,.nx)=>_|some (e2,.cnt)=>_|some (e2,.brk)=>_|some (e2,.ret r)=>_|none=>_)=_;rw[e]
  | false =>
   obtain⟨v',e⟩:=h2 x Ax hp;obtain⟨v2,e2⟩:=zne f p r L (λx hx=>h1 x (As _ hx)) (λx hx=>h2 x (As _ hx)) v';refine⟨v2,?_⟩;rw[Dg,hp];show (match body [a,b,c,d,#v[f x,6]] with|some (e2,.nx)=>zie [] (.nm 4) body (L.map f) e2|some (e2,.cnt)=>_|some (e2,.brk)=>_|some (e2,.ret r)=>_|none=>_)=_;rw[e];exact e2
noncomputable def yan (Φ:Fn):Prop:=∀(m k:Nat) (f:Nat->Int),1<=m->m<=6->k<=m->(∀i,Bit (f i))->Φ [kdW m k,.int (zab (tab (2^m) f))]=some ([kdW m k,.int (zab (tab (2^m) f))],(outW m (k+1) f,false))
theorem z2n {Ψ:Str->Fn} (hL:z9l (Ψ "letter_flats")) (hO:z92 (Ψ "is_odd_on")):yan (zae [false,false] 5 (zej Ψ)):=λm k f h1 h6 hk hf=>by
 have e:=hL m (k+1) h1 h6 #v[];have ec:(k:Int)+1=((k+1:Nat):Int):=by omega
 have q:∀x∈lfP m (k+1),Ψ "is_odd_on" [.int (zab (tab (2^m) f)),fW x]=some ([.int (zab (tab (2^m) f)),fW x],(.bl (oddB f x),false)):=λx hx=>hO m f x h6 hf (z8q h6 #v[] hx).1;generalize zab (tab (2^m) f)=w at *
 obtain ⟨v',lp⟩:=zne (body:=zc9 Ψ) (a:=some (kdW m k,false)) (b:=some (.int w,false)) (c:=some (.int (m:Nat),false)) (d:=some (.int (k:Nat),false)) fW (oddB f) (λx=>(fW x,false)) (lfP m (k+1)) (λx hx hp=>by
  have q:=q x hx;rw[hp] at q;refine⟨#v[fW x,6],?_⟩;unfold zc9;simp! [q]) (λx hx hp=>by
  have q:=q x hx;rw[hp] at q;refine⟨#v[fW x,6],?_⟩;unfold zc9;simp! [q]) none
 have l1:zew Ψ [some (kdW m k,false),some (.int w,false),some (.int (m:Nat),false),some (.int (k:Nat),false),none]=some ([some (kdW m k,false),some (.int w,false),some (.int (m:Nat),false),some (.int (k:Nat),false),v'],endF (λx=>(fW x,false)) ((lfP m (k+1)).find? (oddB f))):=by
  unfold zew gFor;have it:zan #v[1,13] #v[9,12]=some (#v[9,12],(lfP m (k+1)).map fW):=by simp! [ec,e]
  rw[it];exact lp
 have as:gAsg [] (.tp [2,3]) (gVar 0) [#v[kdW m k,6],#v[w,0],none,none,none]=some (#v[9,12],.nx):=by unfold kdW;simp! []
 unfold outW zej;cases hf:(lfP m (k+1)).find? (oddB f) with
 | some x =>
  rw[hf] at l1;exact zba rfl (seq_e as (zwk l1)) rfl
 | none =>
  rw[hf] at l1;refine zba (en:=[#v[kdW m k,6],#v[w,0],#v[(m:Nat),0],#v[(k:Nat),0],v']) rfl (seq_e as (seq_e l1 ?_)) rfl;simp! []
theorem z6z {f:Nat->Int}{P:List Nat}(nd:P.Nodup)(hl:∀q∈P,q<64):evS (List.range 64) f (sumP P)=(P.map f).sum:=by
 unfold evS;have pm:((List.range 64).filter λi=>(sumP P).testBit i).Perm P:=by
  rw[List.perm_iff_count];intro a;have n1:((List.range 64).filter λi=>(sumP P).testBit i).Nodup:=List.nodup_range.filter _;rw[n1.count,nd.count];have:a∈(List.range 64).filter (λi=>(sumP P).testBit i)↔a∈P:=by
   rw[Cs,Bl,zkf nd,Cq];exact⟨λz=>z.2,λz=>⟨hl a z,z⟩⟩
  simp only [this]
 exact zgo f pm
noncomputable def free (q t:Nat):Bool:=q &&& t==0
theorem z9p:∀t p:Fin 64,free t.val p.val=true->sumP (plcs p.val (uL (letL t.val)))=((zc0 p.val).map λv=>t.val ||| v).foldr (λq a=>itS 6 q ^^^ a) 0:=by decide +kernel
theorem z3p:∀t p:Fin 64,free t.val p.val=true->(plcs p.val (uL (letL t.val))).Nodup/\(∀q∈plcs p.val (uL (letL t.val)),q<64)/\∀v∈zc0 p.val,t.val ||| v<64/\(letL t.val).length<=(letL (t.val ||| v)).length:=by decide +kernel
theorem zsd {f:Nat->Int}{t p:Nat}(ht:t<64)(hp:p<64)(h:free t p=true):parF f (letL t,p)=(((zc0 p).map λv=>t ||| v).map (coefF f)).sum%2:=by
 obtain⟨n1,n2,n3⟩:=z3p ⟨t,ht⟩ ⟨p,hp⟩ h;unfold parF;rw[zl5 f _ λq hq=>by obtain⟨v,hv,rfl⟩:=Bf.mp hq;exact (n3 v hv).1];have:=z9p ⟨t,ht⟩ ⟨p,hp⟩ h;dsimp only at this;rw[<-this,z6z n1 n2]
theorem z6k {g:Nat->Int}:∀{L:List Nat},(∀q∈L,g q=0)->(L.map g).sum=0
 |[],_=>rfl
 |q::L,h=>by rw[Am,Bu,h q Ax,z6k λx hx=>h x (As _ hx)];rfl
theorem zxu:∀m:Fin 7,∀t:Fin (2^m.val),frP m.val (letL t.val)=(List.range (2^m.val)).filter λp=>free t.val p:=by decide +kernel
theorem or_m:∀m:Fin 7,∀t p:Fin (2^m.val),∀v∈zc0 p.val,t.val ||| v<2^m.val:=by decide +kernel
theorem zs2 {m k:Nat}{f:Nat->Int}(hm:m<=6)(hk:k<=6)(h:∀u,u<2^m->k<(letL u).length->coefF f u=0):∀x∈lfP m (k+1),oddB f x=false:=λx hx=>by
 have p6:=zek hm;unfold lfP at hx;obtain⟨t,ht,hx⟩:=List.mem_flatMap.mp hx;obtain⟨p,hp,rfl⟩:=Bf.mp hx;obtain⟨tm,tl⟩:=z5z ⟨m,by omega⟩ ⟨k+1,by omega⟩ t ht;obtain⟨q,hq,rfl⟩:=yba hm tm;dsimp only at tl;have pl:=yaa hp;have fp:free q p=true:=by
  have:=zxu ⟨m,by omega⟩ ⟨q,hq⟩;dsimp only at this;rw[this] at hp;exact (Cs.mp hp).2
 obtain⟨_,_,n3⟩:=z3p ⟨q,by omega⟩ ⟨p,by omega⟩ fp;unfold oddB;rw[zsd #v[] #v[] fp,z6k,Ay #v[0,9]];intro u hu;obtain⟨v,hv,rfl⟩:=Bf.mp hu;refine h _ (or_m ⟨m,by omega⟩ ⟨q,hq⟩ ⟨p,pl⟩ v hv) ?_;have:=(n3 v hv).2;dsimp only at this;omega
def lowT (u k:Nat):Nat:=zoz ((letL u).take k)
theorem z80:∀m:Fin 7,∀u:Fin (2^m.val),∀k:Fin 7,k.val<(letL u.val).length->letL (lowT u.val (k.val+1))∈lfT m.val (k.val+1)/\free (lowT u.val (k.val+1)) (u.val ^^^ lowT u.val (k.val+1))=true/\lowT u.val (k.val+1)<2^m.val/\u.val ^^^ lowT u.val (k.val+1)<2^m.val:=by decide +kernel
theorem z4m:∀u:Fin 64,∀k:Fin 7,k.val<(letL u.val).length->∀v∈zc0 (u.val ^^^ lowT u.val (k.val+1)),v≠u.val ^^^ lowT u.val (k.val+1)->lowT u.val (k.val+1) ||| v<u.val/\k.val<(letL (lowT u.val (k.val+1) ||| v)).length:=by decide +kernel
theorem z06:∀u:Fin 64,∀k:Fin 7,k.val<(letL u.val).length->lowT u.val (k.val+1) ||| (u.val ^^^ lowT u.val (k.val+1))=u.val/\(zc0 (u.val ^^^ lowT u.val (k.val+1))).Nodup/\(u.val ^^^ lowT u.val (k.val+1))∈zc0 (u.val ^^^ lowT u.val (k.val+1)):=by decide +kernel
theorem zv6 {g:Nat->Int}{w:Nat}:∀{L:List Nat},L.Nodup->w∈L->(∀q∈L,q≠w->g q=0)->(L.map g).sum=g w
 | q::L,nd,hw,h=>by
  obtain⟨n1,n2⟩:=Df.mp nd;rw[Am,Bu];rcases Ap.mp hw with rfl|hw
  ·rw[z6k λx hx=>h x (As _ hx) λz=>n1 (z ▸ hx),Int.add_zero]
  ·rw[h q Ax λz=>n1 (z ▸ hw),Gv,zv6 n2 hw λx hx=>h x (As _ hx)]
theorem z6m {P:Nat->Prop} [DecidablePred P]:∀n,P n->∃u,u<=n/\P u/\∀v,v<u->¬ P v:=λn=>by
 induction n using Nat.strongRecOn with
 | _ n ih =>
  intro h;by_cases c:∃v,v<n/\P v
  ·obtain ⟨v,hv,pv⟩:=c
   obtain⟨u,h1,h2,h3⟩:=ih v hv pv;exact⟨u,by omega,h2,h3⟩
  ·exact⟨n,Af _,h,λv hv pv=>c ⟨v,hv,pv⟩⟩
theorem zwo {m k n:Nat}{f:Nat->Int}(hm:m<=6)(hk:k<=6)(hn:n<2^m)(h1:k<(letL n).length)(h2:coefF f n=1):∃x∈lfP m (k+1),oddB f x=true:=by
 have p6:=zek hm;obtain⟨u,ul,⟨c1,c2⟩,mn⟩:=z6m (P:=λu=>k<(letL u).length/\coefF f u=1) n ⟨h1,h2⟩;have hu:u<2^m:=by omega
 obtain⟨a1,a2,a3,a4⟩:=z80 ⟨m,by omega⟩ ⟨u,hu⟩ ⟨k,by omega⟩ c1;obtain⟨b1,b2,b3⟩:=z06 ⟨u,by omega⟩ ⟨k,by omega⟩ c1;have b4:=z4m ⟨u,by omega⟩ ⟨k,by omega⟩ c1;dsimp only at a1 a2 a3 a4 b1 b2 b3 b4;refine⟨(letL (lowT u (k+1)),u ^^^ lowT u (k+1)),?_,?_⟩
 ·unfold lfP;refine List.mem_flatMap.mpr ⟨_,a1,Bf.mpr ⟨_,?_,rfl⟩⟩;have:=zxu ⟨m,by omega⟩ ⟨lowT u (k+1),a3⟩;dsimp only at this;rw[this];exact Cs.mpr ⟨Bl.mpr a4,a2⟩
 ·unfold oddB;rw[zsd #v[] #v[] a2,Bz,zv6 b2 b3 λv hv ne=>?_]
  ·show decide (coefF f (lowT u (k+1) ||| (u ^^^ lowT u (k+1)))%2=1)=true;rw[b1,c2];rfl
  ·show coefF f (lowT u (k+1) ||| v)=0;obtain⟨d1,d2⟩:=b4 v hv ne;rcases zjt f (lowT u (k+1) ||| v) with z|z
   ·exact z
   ·exact absurd ⟨d2,z⟩ (mn _ d1)
noncomputable def resT:Option (List W×(W×Bool))->Bool
 |some (_,#v[1,11])=>true
 |_=>false
noncomputable def isS:Option (W×Bool)->Bool
 |some (.str _,false)=>true
 |_=>false
theorem z9y {n:Nat}{g:GS}{a b:W} (h:resT (zae [false,false] n g [a,b])=true):zae [false,false] n g [a,b]=some ([a,b],#v[1,11]):=by
 have oo:∀(en:En) (ws':List W),zcs [false,false] [a,b] en=some ws'->ws'=[a,b]:=λen ws' h=>match en,h with
  |_::_::_,h=>(sI h).symm
  |[_],h=>noSome h
  |[],h=>noSome h
 have key:∀o,zae [false,false] n g [a,b]=some o->o.1=[a,b]:=λo ho=>by
  unfold zae at ho;rw[if_pos (show [a,b].length=[false,false].length from rfl)] at ho;split at ho
  ·obtain ⟨ws', h1,h2⟩:=bS ho
   cases h2;exact oo _ _ h1
  ·obtain ⟨ws', h1,h2⟩:=bS ho
   cases h2;exact oo _ _ h1
  ·exact noSome ho
 cases e:zae [false,false] n g [a,b] with
 |none=>rw[e] at h;exact absurd h #v[0,9]
 | some o =>
  have k:=key o e;rw[e] at h;obtain⟨ws,w,c⟩:=o;dsimp only at k;subst k;unfold resT at h;split at h
  ·rename_i q
   cases q;rfl
  ·exact absurd h #v[0,9]
abbrev FC (m k:Nat):Prop:=∀x∈lfP m (k+1),resT (zae [false,false] 6 (zbj λ_ _=>none) [.int (m:Nat),fW x])=true
theorem fc_4:∀m:Fin 5,∀k:Fin 7,FC m.val k.val:=by decide +kernel
theorem fc_5:∀k:Fin 7,FC 5 k.val:=by decide +kernel
theorem ydl:FC 6 0:=by decide +kernel
theorem ydz:FC 6 1:=by decide +kernel
theorem yc6:FC 6 2:=by decide +kernel
theorem yds:∀k:Fin 4,FC 6 (k.val+3):=by decide +kernel
theorem z2i:∀m k:Fin 7,FC m.val k.val:=λ⟨m,hm⟩ ⟨k,hk⟩=>by
 by_cases a:m<5
 ·exact fc_4 ⟨m,a⟩ ⟨k,hk⟩
 by_cases b:m=5
 ·subst b;exact fc_5 ⟨k,hk⟩
 have c:m=6:=by omega
 subst c;by_cases z:k=0
 ·subst z;exact ydl
 by_cases o:k=1
 ·subst o;exact ydz
 by_cases w:k=2
 ·subst w;exact yc6
 have e:=yds ⟨k-3,by omega⟩
 rwa [show k-3+3=k by omega] at e
theorem zzu:∀m:Fin 7,∀k:Fin 7,∀x∈lfP m.val (k.val+1),isS (zoo [fW x])=true:=by decide +kernel
theorem z96 {Ψ:Str->Fn}{m k:Nat}{x:List Nat×Nat}(hm:m<=6)(hk:k<=6)(h:x∈lfP m (k+1)):zae [false,false] 6 (zbj Ψ) [.int (m:Nat),fW x]=some ([.int (m:Nat),fW x],#v[1,11]):=z9y (z2i ⟨m,by omega⟩ ⟨k,by omega⟩ x h)
theorem yby {m k:Nat}{x:List Nat×Nat}(hm:m<=6)(hk:k<=6)(h:x∈lfP m (k+1)):∃s,zoo [fW x]=some (.str s,false):=by
 have:=zzu ⟨m,by omega⟩ ⟨k,by omega⟩ x h;unfold isS at this;split at this
 ·rename_i s e;exact⟨s,e⟩
 ·exact absurd this #v[0,9]
noncomputable def lnM (m p:Nat):Nat:=((List.range m).filter λl=>decide (p/2^l%2=1)).length
theorem z2z:∀m:Fin 7,∀p:Fin (2^m.val),lnM m.val p.val=(letL p.val).length:=by decide +kernel
def tpV (m:Nat) (f:Nat->Int):Nat->Int
 |0=>-1
 |i+1=>if coefF f i=1 then (if (lnM m i:Int) > tpV m f i then (lnM m i:Int) else tpV m f i) else tpV m f i
theorem tp_le {m:Nat}{f:Nat->Int}{k:Int} (hk:-1<=k):∀i,tpV m f i<=k↔∀p,p<i->coefF f p=1->(lnM m p:Int)<=k
 |0=>⟨λ_ p h=>absurd h (Nat.not_lt_zero p),λ_=>hk⟩
 | i+1=>by
  have ih:=tp_le (m:=m) (f:=f) hk i;unfold tpV;constructor
  ·intro h p hp hc
   by_cases z:p=i
   ·subst z
    rw[if_pos hc] at h;split at h<;>omega
   ·refine ih.mp ?_ p (by omega) hc
    split at h
    ·split at h<;>omega
    ·exact h
  ·intro h
   have h2:=ih.mpr λp hp hc=>h p #v[] hc;split
   ·rename_i c
    have:=h i #v[] c;split<;>omega
   ·exact h2
theorem z1z (i l:Nat):(i:Int)/2^l=((i/2^l:Nat):Int):=by norm_cast
theorem yd6:∀a b:Fin 64,Builtin.bitAnd (a.val:Int) (b.val:Int)=((a.val &&& b.val:Nat):Int):=by decide +kernel
noncomputable def z98 (Φ:Fn):Prop:=∀(m:Nat) (f:Nat->Int),m<=6->(∀i,Bit (f i))->Φ [.int (m:Nat),.lst ((tab (2^m) f).map W.int)]=some ([.int (m:Nat),.lst ((tab (2^m) f).map W.int)],(.int (tpV m f (2^m)),false))
theorem z81 (Ψ:Str->Fn):z98 (zae [false,false] 5 (zeh Ψ)):=λm f hm hf=>by
 have p6:=zek hm;have em:=pow1 (l:=m) #v[];have om:=za3 m;generalize hX:(tab (2^m) f).map W.int=X;have at' : ∀q:Nat,q<2^m->atI X (q:Int)=some (.int (f q)):=λq hq=>by rw[<-hX];exact zb0 (by rw[Au,zes hq];rfl)
 have sq:seqW (.lst X)=some X:=rfl;have lp:∃w3 w4,zev Ψ #v[8,11]=some ([#v[(m:Nat),0],#v[X,1],#v[(tpV m f (2^m)),0],w3,w4],.nx):=by
  unfold zev;obtain⟨en',h,w3,w4,rfl⟩:=zbv (mp:=[]) (T:=.nm 3) (body:=zeu Ψ) (λi e=>∃w3 w4,e=[#v[(m:Nat),0],#v[X,1],#v[(tpV m f i),0],w3,w4]) (rng1_n (a:=gArg (gOp2 #v[0,0,1] #v[1] (zaa 0))) (en:=#v[8,11]) (e1:=#v[8,11]) (n:=2^m) (by simp! [em,om]) #v[]) ⟨_,_,rfl⟩ λi w e hw hp=>by
   obtain⟨w3,w4,rfl⟩:=hp;obtain⟨li,rfl⟩:=zea hw;rw[Gv];have c1:zet Ψ #v[5,8]=some (#v[5,8],(.lst (((zc0 i).map f).map W.int),true)):=by
    unfold zet;have it:zbs #v[8,8] #v[5,8]=some (#v[5,8],(List.range (2^m)).map λp=>W.int (p:Nat)):=by
     have:=rng1_n (a:=gArg (gOp2 #v[0,0,1] #v[1] (zaa 0))) (en:=#v[5,8]) (e1:=#v[5,8]) (n:=2^m) (by simp! [em,om]) #v[];rw[zg3] at this;exact this
    have c:=zfl (cap:=[none,none,some 1,some 3]) (tc:=zah (gOp2 oEq (gArg (gOp2 #v[0,8] (zaa 1) (zaa 3))) (zaa 1))) (te:=gOp2 oIx (zaa 2) (zaa 1)) (xs:=[#v[X,1],#v[(i:Nat),0]]) (λp=>W.int (p:Nat)) (λq=>q &&& i==q) (λq=>W.int (f q)) it (by rw[By];omega) rfl rfl rfl (λ_ _=>rfl) λv0 q hq=>by
     have lq:=Bl.mp hq;have a1:=yd6 ⟨q,by omega⟩ ⟨i,by omega⟩;dsimp only at a1;have d:decide (((q &&& i:Nat):Int)=(q:Int))=(q &&& i==q):=by rw[Em,Cq,beq_iff_eq];omega
     have a2:=at' q lq;refine⟨#v[(q:Nat),0],?_,λ_=>⟨#v[(q:Nat),0],false,?_⟩⟩
     ·simp! [a1,d]
     ·simp! [sq,a2]
    have sr:=zs4 ⟨m,by omega⟩ ⟨i,li⟩;dsimp only at sr;rw[sr] at c;rw[Bz];exact c
   have c2:∃L,zex Ψ #v[5,7]=some (#v[5,7],(.lst L,true))/\L.length=lnM m i:=by
    refine⟨((List.range m).filter λl=>decide (i/2^l%2=1)).map λl=>W.int (l:Nat),?_,by rw[Ae];rfl⟩;unfold zex;have it:zbs (gCns (zaa 0) gA0) #v[5,7]=some (#v[5,7],(List.range m).map λp=>W.int (p:Nat)):=by
     have:=rng1_n (a:=zaa 0) (en:=#v[5,7]) (e1:=#v[5,7]) (n:=m) (by simp! []) #v[];rw[zg3] at this;exact this
    refine zfl (cap:=[none,none,some 3]) (xs:=[#v[(i:Nat),0]]) (λp=>W.int (p:Nat)) (λl=>decide (i/2^l%2=1)) (λl=>W.int (l:Nat)) it (by rw[By];omega) rfl rfl rfl (λ_ _=>rfl) λv0 l hl=>?_;have z:(0<=(l:Int))=True:=eq_true #v[];have eb:=z1z i l;have ea:=and1 (a:=((i/2^l:Nat):Int)) (Int.natCast_nonneg _);have ec:((i/2^l:Nat):Int)%2=((i/2^l%2:Nat):Int):=by omega
    rw[ec] at ea;have d:decide (((i/2^l%2:Nat):Int)=1)=decide (i/2^l%2=1):=decide_eq_decide.mpr #v[];refine⟨#v[(l:Nat),0],?_,λ_=>⟨#v[(l:Nat),0],false,?_⟩⟩
    ·simp! [z,eb,ea,d]
    ·simp! []
   obtain⟨L,c2,ll⟩:=c2;have su:=ybj ((zc0 i).map f);have cf:((zc0 i).map f).sum%2=coefF f i:=rfl;have mx:oMax [.int (tpV m f i),.int (lnM m i:Nat)]=#v[(if (lnM m i:Int) > tpV m f i then (lnM m i:Int) else tpV m f i),0]:=rfl;have sl:seqW (.lst L)=some L:=rfl;refine⟨#v[5,8],[#v[(m:Nat),0],#v[X,1],#v[(tpV m f (i+1)),0],#v[(i:Nat),0],#v[(((zc0 i).map f).map W.int),2]],rfl,.inl ?_,_,_,rfl⟩;unfold zeu;refine seq_e (e1:=#v[5,7]) (by simp! [c1]) ?_;rw[tpV];rcases zjt f i with cb|cb
   ·rw[if_neg (by rw[cb];decide)];rw[cb] at cf;simp! [su,cf]
   ·rw[if_pos cb];rw[cb] at cf;simp! [su,cf,c2,sl,ll,mx]
  rw[zd9] at h;exact⟨w3,w4,h⟩
 obtain⟨w3,w4,lp⟩:=lp;unfold zeh;refine zba (en:=[#v[(m:Nat),0],#v[X,1],#v[(tpV m f (2^m)),0],w3,w4]) rfl (seq_e (e1:=#v[8,11]) ?_ (seq_e lp ?_)) rfl
 ·simp! []
 ·simp! []
noncomputable def LOdd (Φ:Fn):Prop:=∀(m:Nat) (f:Nat->Int) (x:List Nat×Nat),m<=6->InF m x->Φ [.lst ((tab (2^m) f).map W.int),fW x]=some ([.lst ((tab (2^m) f).map W.int),fW x],(.bl (oddB f x),false))
theorem z75 {Ψ:Str->Fn}(hP:zrt (Ψ "_law_places")):LOdd (zae [false,false] 2 (zb4 Ψ)):=λm f x hm hx=>by
 have p6:=zek hm;obtain⟨P,e1,pl⟩:=hP m x.2 (uL x.1) hm (zxs hm hx.1 hx.2);have e1:Ψ "_law_places" [fW x]=some ([fW x],(.lst (castL P),true)):=e1;have Pl:P.length<=64:=by
  have:=zkr (n:=m) (pl_nodup pl.2.1) pl.2.2;omega
 generalize hX:(tab (2^m) f).map W.int=X;have at' : ∀q:Nat,q<2^m->atI X (q:Int)=some (.int (f q)):=λq hq=>by rw[<-hX];exact zb0 (by rw[Au,zes hq];rfl)
 have sq:seqW (.lst X)=some X:=rfl;have c1:zcu Ψ [#v[X,1],#v[fW x,6]]=some ([#v[X,1],#v[fW x,6]],(.lst ((P.map f).map W.int),true)):=by
  unfold zcu;rw[Bz];refine zr0 (cap:=[none,none,some 0]) (xs:=[#v[X,1]]) (e0:=[#v[X,1],#v[fW x,6]]) (λp:Nat=>W.int (p:Nat)) _ (by simp! [e1];try rfl) #v[] rfl rfl rfl (λ_ _=>rfl) λv0 q hq=>⟨#v[(q:Nat),0],false,?_⟩;have a2:=at' q (pl.2.2 q hq);simp! [sq,a2]
  try rfl
 have su:=ybj (P.map f);have pe:(P.map f).sum%2=parF f x:=by unfold parF;rw[zgo f pl.1]
 unfold zb4 oddB;simp! [c1,su,pe]
structure Fns (Ψ:Str->Fn):Prop where
 M:ydk (Ψ "_law_many")
 T:zje (Ψ "_law_take")
 B:znc (Ψ "_law_bits")
 V:zk5 (Ψ "_law_values")
 P:zwv (Ψ "_law_poly")
 W:z33 (Ψ "_law_word")
 O:yan (Ψ "odd_flat")
 I:∀(m k:Nat) (x:List Nat×Nat),m<=6->k<=6->x∈lfP m (k+1)->Ψ "_law_is_flat" [.int (m:Nat),fW x]=some ([.int (m:Nat),fW x],#v[1,11])
 L:z98 (Ψ "_law_top")
 D:LOdd (Ψ "_law_is_odd")
noncomputable def zg5 (Φ:Fn):Prop:=∀(m k:Nat) (xs:List Int),1<=m->m<=6->k<=m->xs.length=2^m->Bits xs->Φ [kdW m k,.lst (xs.map W.int)]=some ([kdW m k,.lst (xs.map W.int)],#v[1,11])
theorem getD_bit {xs:List Int}(h:Bits xs)(i:Nat):Bit (xs.getD i 0):=by
 rw[Bg];cases e:xs[i]? with
 |none=>exact .inl rfl
 |some a=>exact h a (Bi e)
theorem z1n {Ψ:Str->Fn}(F:Fns Ψ):zg5 (zae [false,false] 6 (zbr Ψ)):=λm k xs h1 h6 hk hl hb=>by
 obtain⟨f,fb,rfl⟩ : ∃f:Nat->Int,(∀i,Bit (f i))/\xs=tab (2^m) f:=⟨λi=>xs.getD i 0,getD_bit hb,(z2p hl).symm⟩;have e1:=F.W (tab (2^m) f);have e2:=F.O m k f h1 h6 hk fb;have e3:=F.L m f h6 fb;have e4:=λx hx=>F.D m f x h6 hx;generalize hX:(tab (2^m) f).map W.int=X at *
 generalize zab (tab (2^m) f)=w at *
 have as:gAsg [] (.tp [2,3]) (gVar 0) [#v[kdW m k,6],#v[X,1],none,none,none,none]=some ([#v[kdW m k,6],#v[X,1],#v[(m:Nat),0],#v[(k:Nat),0],none,none],.nx):=by unfold kdW;simp! []
 have rn:zoo [.non]=some (.str "None",false):=by kernel_rfl
 by_cases c:tpV m f (2^m)<=(k:Int)
 ·have al:=(tp_le (by omega) (2^m)).mp c;have ev0:=zs2 (m:=m) (k:=k) (f:=f) h6 (by omega) λu hu hlt=>by
   rcases zjt f u with z|z
   ·exact z
   ·have q:=al u hu z;have l:=z2z ⟨m,by omega⟩ ⟨u,hu⟩;dsimp only at l;omega
  have on:outW m (k+1) f=.non:=by
   unfold outW;rw[List.find?_eq_none.mpr λx hx=>by rw[ev0 x hx];decide]
  rw[on] at e2;have d:decide (tpV m f (2^m)<=(k:Int))=true:=Aj c;have n1:=z34 "None";have i1:oIs .non .non=some #v[1,11]:=rfl;unfold zbr;refine zba (en:=#v[9,10]) rfl (seq_e as (seq_e (e1:=[#v[kdW m k,6],#v[X,1],#v[(m:Nat),0],#v[(k:Nat),0],#v[w,0],none]) ?_ (seq_e (e1:=#v[9,10]) ?_ (seq_e (e1:=#v[9,10]) ?_ (zwk ?_))))) rfl
  ·simp! [e1]
  ·simp! [e2]
  ·simp! [e2,rn,n1]
  ·simp! [e3,d,i1]
 ·obtain ⟨n,hn,hc,hln⟩ : ∃n,n<2^m/\coefF f n=1/\k<(letL n).length:=Classical.byContradiction λz=>c ((tp_le (by omega) (2^m)).mpr λp hp hcp=>by
   have l:=z2z ⟨m,by omega⟩ ⟨p,hp⟩;dsimp only at l;rw[l];exact Int.ofNat_le.mpr (Nat.le_of_not_lt λq=>z ⟨p,hp,hcp,q⟩))
  obtain⟨x,hx,ox⟩:=zwo h6 #v[] hn hln hc;obtain⟨y,hy⟩ : ∃y,(lfP m (k+1)).find? (oddB f)=some y:=by
   cases e:(lfP m (k+1)).find? (oddB f) with
   |some y=>exact⟨y,rfl⟩
   |none=>have:=List.find?_eq_none.mp e x hx;rw[ox] at this;exact absurd rfl this
  have ym:=List.mem_of_find?_eq_some hy;have yo:=List.find?_some hy;obtain⟨yi,yl⟩:=z8q h6 #v[] ym;have on:outW m (k+1) f=fW y:=by unfold outW;rw[hy]
  rw[on] at e2;have d:decide (tpV m f (2^m)<=(k:Int))=false:=Ay c;obtain⟨s,r1⟩:=yby h6 #v[] ym;have n1:=z34 s;have f1:=F.I m k y h6 #v[] ym;have f2:=e4 y yi;rw[yo] at f2;have sq:seqW (fW y)=some [.int (y.2:Nat),.tup (castL (uL y.1))]:=rfl;have a1:atI [W.int (y.2:Nat),.tup (castL (uL y.1))] 1=some (.tup (castL (uL y.1))):=rfl;have ln:(castL (uL y.1)).length=k+1:=by unfold uL;rw[zai,Ae,yl]
  have dk:decide (((k+1:Nat):Int)=(k:Int)+1)=true:=Aj #v[];unfold zbr;refine zba (en:=#v[3,9]) rfl (seq_e as (seq_e (e1:=[#v[kdW m k,6],#v[X,1],#v[(m:Nat),0],#v[(k:Nat),0],#v[w,0],none]) ?_ (seq_e (e1:=#v[3,9]) ?_ (seq_e (e1:=#v[3,9]) ?_ (seq_e (e1:=#v[3,9]) ?_ ?_))))) rfl
  ·simp! [e1]
  ·simp! [e2]
  ·simp! [e2,r1,n1]
  ·simp! [e3,d]
  ·simp! [f1,sq,a1,ln,dk,f2]
noncomputable def KWOk (Φ:Fn):Prop:=∀(k:Nat) (st:W) (m t:Nat),HS k st->k+300<big->m<=6->t<=m->∃(st':W) (xs:List Int),Φ [st,.int (m:Nat),.int (t:Nat)]=some ([st',.int (m:Nat),.int (t:Nat)],(.lst (xs.map W.int),true))/\HS (k+150) st'/\xs.length=2^m/\Bits xs
theorem yck {Ψ:Str->Fn}{m q:Nat}{st st1:W}{xs:List Int}{v2 v4 v5 v6:Option (W×Bool)}{n:Int} (hm:m<=6) (e1:Ψ "_law_take" [st,.int ((2^m:Nat):Int)]=some ([st1,.int ((2^m:Nat):Int)],(.int (q:Nat),false))) (hq:xs[q]?=some n) :
  zay Ψ [#v[st,5],#v[(m:Nat),0],v2,#v[(xs.map W.int),2],v4,v5,v6]=some ([#v[st1,5],#v[(m:Nat),0],v2,#v[((xs.set q (1-n)).map W.int),2],v4,v5,#v[(q:Nat),0]],.nx):=by
 have em:=pow1 (l:=m) #v[];have om:=za3 m;have lq:q<xs.length:=(Ak.mp hq).1;have a1:atI (xs.map W.int) (q:Int)=some (.int n):=zb0 (by rw[Au,hq];rfl);have ix:ixN xs.length (q:Int)=some q:=z6s lq;unfold zay;refine seq_e (e1:=[#v[st1,5],#v[(m:Nat),0],v2,#v[(xs.map W.int),2],v4,v5,#v[(q:Nat),0]]) ?_ ?_
 ·simp! [em,om,e1]
 ·simp! [Ae,a1,ix,List.map_set]
theorem yd5 {Ψ:Str->Fn}(hT:zje (Ψ "_law_take"))(hB:znc (Ψ "_law_bits"))(hV:zk5 (Ψ "_law_values"))(hP:zwv (Ψ "_law_poly")):KWOk (zae [true,false,false] 7 (za2 Ψ)):=λk st m t hs hk hm ht=>by
 have p6:=zek hm;have pp:=Nat.two_pow_pos m;have em:=pow1 (l:=m) #v[];have om:=za3 m;obtain⟨st1,ts,e1,g1,sub⟩:=hP k st m t hs #v[] hm #v[];obtain⟨tl,ta⟩:=zhe (m:=m) (most:=t) hm #v[];have e2:=hV m ts hm (by have:=sub.length_le;omega) (λt ht l hl=>by have:=(ta t (sub.mem ht)).2 l hl;omega) (λt ht=>by have:=(ta t (sub.mem ht)).1;omega);obtain⟨st2,w,e3,g2,w0,w4⟩:=hT (k+66) st1 4 g1 #v[] #v[0,9] #v[0,9];obtain⟨w,rfl⟩:=Eg w0;have w4:w<4:=by omega
 have sf:∃st3 xs,gIfS (zah (gOp2 oEq (zaa 4) #v[3])) (gSet [0] 3 (zad [true,false] (Ψ "_law_bits") #v[6,11])) zbq #v[8,12]=some (#v[2,10],.nx)/\HS (k+140) st3/\xs.length=2^m/\Bits xs:=by
  by_cases c:w=3
  ·subst c;obtain⟨st3,zs,e4,g3,lz,bz⟩:=hB (k+66+1) st2 ((2^m:Nat):Int) g2 #v[] #v[] #v[];refine⟨st3,zs,?_,g3.mono #v[],by omega,bz⟩;rw[zy2 (e1:=[#v[st2,5],#v[(m:Nat),0],#v[(t:Nat),0],#v[((tab (2^m) (valF ts)).map W.int),2],#v[((3:Nat):Int),0],none,none]) (by simp! [];try rfl)];simp! [em,om,e4]
  ·have d:decide ((w:Int)=3)=false:=Ay #v[];refine⟨st2,tab (2^m) (valF ts),?_,g2.mono #v[],za5 _ _,zq6 m ts⟩;simp! [d]
 obtain⟨st3,xs,sf,g3,lx,bx⟩:=sf;obtain⟨st4,j,e5,g4,j0,j2⟩:=hT (k+140) st3 2 g3 #v[] #v[0,9] #v[0,9];obtain⟨j,rfl⟩:=Eg j0;have ej:(1:Int)+(j:Int)=((1+j:Nat):Int):=by omega
 have it:∃n,n<=2/\zbs #v[1,9] #v[2,10]=some ([#v[st4,5],#v[(m:Nat),0],#v[(t:Nat),0],#v[(xs.map W.int),2],#v[(w:Nat),0],none,none],rngW 0 n):=by
  have cs:w=0\/w=1\/w=2\/w=3:=by omega
  rcases cs with rfl|rfl|rfl|rfl
  ·refine⟨0,by omega,rng1_n ?_ #v[]⟩;have a:atI #v[7,10] ((0:Nat):Int)=some (.int ((0:Nat):Int)):=rfl;simp! [e5,ej,a]
  ·refine⟨0,by omega,rng1_n ?_ #v[]⟩;have a:atI #v[7,10] ((1:Nat):Int)=some (.int ((0:Nat):Int)):=rfl;simp! [e5,ej,a]
  ·refine⟨1+j,by omega,rng1_n ?_ #v[]⟩;have a:atI #v[7,10] ((2:Nat):Int)=some (.int ((1+j:Nat):Int)):=rfl;simp! [e5,ej,a]
  ·refine⟨0,by omega,rng1_n ?_ #v[]⟩;have a:atI #v[7,10] ((3:Nat):Int)=some (.int ((0:Nat):Int)):=rfl;have a':atI #v[7,10] 3=some (.int ((0:Nat):Int)):=rfl;simp! [e5,ej,a,a']
   try rfl
 obtain⟨n,hn,it⟩:=it;have lp:∃st5 ys w5 w6,zbf Ψ #v[2,10]=some ([#v[st5,5],#v[(m:Nat),0],#v[(t:Nat),0],#v[(ys.map W.int),2],#v[(w:Nat),0],w5,w6],.nx)/\HS (k+150) st5/\ys.length=2^m/\Bits ys:=by
  unfold zbf;obtain⟨en',h,st5,ys,w5,w6,rfl,g5,ly,by5⟩:=zbv (mp:=[0]) (T:=.nm 5) (body:=zay Ψ) (λi e=>∃st5 ys w5 w6,e=[#v[st5,5],#v[(m:Nat),0],#v[(t:Nat),0],#v[(ys.map W.int),2],#v[(w:Nat),0],w5,w6]/\HS (k+141+i) st5/\ys.length=2^m/\Bits ys) it ⟨_,_,_,_,rfl,g4,lx,bx⟩ λi wi e hw hp=>by
   obtain⟨st5,ys,w5,w6,rfl,g5,ly,by5⟩:=hp;obtain⟨li,rfl⟩:=zea hw;obtain⟨st6,q,e6,g6,q0,q4⟩:=hT (k+141+i) st5 ((2^m:Nat):Int) g5 #v[] #v[] #v[];obtain⟨q,rfl⟩:=Eg q0;have hq:ys[q]?=some ys[q]:=Ac #v[];exact⟨_,_,rfl,.inl (yck hm e6 hq),st6,_,_,_,rfl,g6,by rw[Ek];exact ly,zy0 by5 hq⟩
  rw[zd9] at g5;exact⟨st5,ys,w5,w6,h,g5.mono #v[],ly,by5⟩
 obtain⟨st5,ys,w5,w6,lp,g5,ly,by5⟩:=lp;refine⟨st5,ys,?_,g5,ly,by5⟩;unfold za2;refine zba (en:=[#v[st5,5],#v[(m:Nat),0],#v[(t:Nat),0],none,#v[(w:Nat),0],w5,w6]) rfl (seq_e (e1:=[#v[st1,5],#v[(m:Nat),0],#v[(t:Nat),0],#v[((tab (2^m) (valF ts)).map W.int),2],none,none,none]) ?_ (seq_e (e1:=#v[8,12]) ?_ (seq_e sf (seq_e lp ?_)))) rfl
 ·simp! [e1,e2]
 ·simp! [e3]
 ·simp! []
theorem ybu {Ψ:Str->Fn}(hR:zg5 (Ψ "_law_right")){m k:Nat}{L:List (List Int)}{o:Bool}{v0 v1 v2:Option (W×Bool)}(h1:1<=m)(h6:m<=6)(hk:k<=m)(hl:L.length<=10)(hL:∀xs∈L,xs.length=2^m/\Bits xs):zr9 Ψ [v0,v1,v2,#v[(m:Nat),0],#v[(k:Nat),0],#v[(L.map λxs=>.lst (xs.map W.int)),2]]=some ([v0,v1,v2,#v[(m:Nat),0],#v[(k:Nat),0],#v[(L.map λxs=>.lst (xs.map W.int)),1]],(.lst (L.map λ_=>.bl true),true)):=by
 unfold zr9;refine zr0 (cap:=[none,none,some 3,some 4]) (it:=zan (gVar 5)) (en:=[v0,v1,v2,#v[(m:Nat),0],#v[(k:Nat),0],#v[(L.map λxs=>.lst (xs.map W.int)),2]]) (ts:=L) (xs:=[#v[(m:Nat),0],#v[(k:Nat),0]]) (e0:=[v0,v1,v2,#v[(m:Nat),0],#v[(k:Nat),0],#v[(L.map λxs=>.lst (xs.map W.int)),1]]) (λxs:List Int=>W.lst (xs.map W.int)) (λ_=>.bl true) (by simp! [];try rfl) #v[] rfl rfl rfl (λ_ _=>rfl) λu0 xs hx=>⟨#v[(xs.map W.int),1],false,?_⟩;obtain⟨lx,bx⟩:=hL xs hx;have e:=hR m k xs h1 h6 hk lx bx;unfold kdW at e;simp! [e]
theorem all3 (L:List (List Int)):oBl (λbs=>bs.all id) [.lst (L.map λ_=>.bl true)]=some #v[1,11]:=by
 have q:∀L:List (List Int),(L.map λ_=>true).all id=true:=λL=>by
  induction L with
  |nil=>rfl
  |cons a L ih=>rw[Am,Bp,ih];rfl
 have:=z22 (f:=λbs=>bs.all id) (bs:=L.map λ_=>true);rw[Bz] at this;refine this.trans ?_;rw[q]
theorem z9g {Ψ:Str->Fn}(F:Fns Ψ)(hR:zg5 (Ψ "_law_right"))(hK:KWOk (Ψ "_law_kind_word")){k:Nat}{st:W}{v0 v2 v3 v4 v5:Option (W×Bool)}(hs:HS k st)(hk:k+900<big):∃st' w3 w4 w5,zqp Ψ [v0,#v[st,5],v2,v3,v4,v5]=some ([v0,#v[st',5],v2,w3,w4,w5],.nx)/\HS (k+400) st':=by
 obtain⟨st1,m,e1,g1,m1,hm⟩:=F.M k st hs #v[];have p6:=zek hm;obtain⟨st2,t,e2,g2,t0,t1⟩:=F.T (k+2) st1 ((m:Int)+1) g1 #v[] #v[] #v[];obtain⟨t,rfl⟩:=Eg t0;have tm:t<=m:=by omega
 obtain⟨st3,xs,e3,g3,lx,bx⟩:=hK (k+2+1) st2 m t g2 #v[] hm tm;have mn:∃u:Nat,u<=m/\oMin [.int (m:Nat),.int ((t:Int)+1)]=#v[(u:Nat),0]:=by
  by_cases c:(t:Int)+1<(m:Int)
  ·exact⟨t+1,by omega,by show some (W.int (if (t:Int)+1<(m:Int) then _ else _),false)=_;rw[if_pos c];rfl⟩
  ·exact⟨m,Af _,by show some (W.int (if (t:Int)+1<(m:Int) then _ else _),false)=_;rw[if_neg c]⟩
 obtain⟨u,um,mn⟩:=mn;obtain⟨st4,ys,e4,g4,ly,by4⟩:=hK (k+2+1+150) st3 m u g3 #v[] hm um;obtain⟨st5,ts,e5,g5,sub⟩:=F.P (k+2+1+150+150) st4 m m g4 #v[] hm hm;obtain⟨tl,ta⟩:=zhe (m:=m) (most:=m) hm hm;have e6:=F.V m ts hm (by have:=sub.length_le;omega) (λt ht l hl=>by have:=(ta t (sub.mem ht)).2 l hl;omega) (λt ht=>by have:=(ta t (sub.mem ht)).1;omega);have lz:(tab (2^m) (valF ts)).length=2^m:=za5 _ _;have bz:=zq6 m ts;generalize tab (2^m) (valF ts)=zs at e6 lz bz;have c1:=ybu (Ψ:=Ψ) (L:=[xs,ys,zs]) (o:=true) (v0:=v0) (v1:=#v[st5,5]) (v2:=v2) hR m1 hm tm (by show 3<=10;decide) λa ha=>by
  rcases Ap.mp ha with rfl|ha
  ·exact⟨lx,bx⟩
  rcases Ap.mp ha with rfl|ha
  ·exact⟨ly,by4⟩
  rw[Ao.mp ha];exact⟨lz,bz⟩
 have al:=all3 [xs,ys,zs];have c1:zr9 Ψ #v[0,12]=some ([v0,#v[st5,5],v2,#v[(m:Nat),0],#v[(t:Nat),0],#v[[.lst (xs.map W.int),.lst (ys.map W.int),.lst (zs.map W.int)],1]],(.lst [.bl true,.bl true,.bl true],true)):=c1;have al:oBl (λbs=>bs.all id) [.lst [.bl true,.bl true,.bl true]]=some #v[1,11]:=al;refine⟨st5,#v[(m:Nat),0],#v[(t:Nat),0],#v[[.lst (xs.map W.int),.lst (ys.map W.int),.lst (zs.map W.int)],1],?_,g5.mono #v[]⟩;unfold zqp;refine seq_e (e1:=[v0,#v[st1,5],v2,#v[(m:Nat),0],v4,v5]) ?_ (seq_e (e1:=[v0,#v[st2,5],v2,#v[(m:Nat),0],#v[(t:Nat),0],v5]) ?_ (seq_e (e1:=[v0,#v[st4,5],v2,#v[(m:Nat),0],#v[(t:Nat),0],#v[[.lst (xs.map W.int),.lst (ys.map W.int)],2]]) ?_ (seq_e (e1:=#v[0,12]) ?_ ?_)))
 ·simp! [e1]
 ·simp! [e2]
 ·simp! [e3,mn,e4]
 ·simp! [e5,e6];try rfl
 ·simp! [c1,al]
theorem z9f {Ψ:Str->Fn}(F:Fns Ψ)(hR:zg5 (Ψ "_law_right"))(hK:KWOk (Ψ "_law_kind_word")){st:W}{ns:List Int}(hl:ns.length<=63)(hs:HS 0 st):∃en',zuo Ψ [some #v[7,7],#v[st,5],none,none,none,none]=some (some #v[7,7]::en',.nx):=by
 have bb:(20000:Nat)<big:=by decide
 have om:∃n:Nat,oMin [.int 6,.int (ns.length:Nat)]=#v[(n:Nat),0]/\n<=6:=by
  by_cases c:(ns.length:Int)<6
  ·exact⟨ns.length,by show some (W.int (if (ns.length:Int)<6 then _ else _),false)=_;rw[if_pos c],by omega⟩
  ·exact⟨6,by show some (W.int (if (ns.length:Int)<6 then _ else _),false)=_;rw[if_neg c];rfl,by omega⟩
 obtain⟨n,om,hn⟩:=om;have ec:(2:Int)+(n:Int)=((2+n:Nat):Int):=by omega
 have sf:seqW (.frl (ns.map W.int))=some (ns.map W.int):=rfl;unfold zuo;obtain⟨en',h,st',w2,w3,w4,w5,rfl,_⟩:=zbv (mp:=[]) (T:=.nm 2) (body:=zqp Ψ) (λi e=>∃st' w2 w3 w4 w5,e=[some #v[7,7],#v[st',5],w2,w3,w4,w5]/\HS (400*i) st') (rng1_n (a:=(gArg (gOp2 oAdd #v[2] (gArg (gOpN oMin (gCns #v[6] (gCns #v[6,10] gA0))))))) (en:=[some #v[7,7],#v[st,5],none,none,none,none]) (e1:=[some #v[7,7],#v[st,5],none,none,none,none]) (n:=2+n) (by simp! [sf,Ae,om,ec]) #v[]) ⟨_,_,_,_,_,rfl,hs⟩ λi w e hw hp=>by
  obtain⟨st',w2,w3,w4,w5,rfl,g⟩:=hp;obtain⟨li,rfl⟩:=zea hw;obtain⟨st2,x3,x4,x5,hb,g2⟩:=z9g (Ψ:=Ψ) (v0:=some #v[7,7]) (v2:=#v[(0+(i:Int)),0]) (v3:=w3) (v4:=w4) (v5:=w5) F hR hK g #v[];exact⟨_,_,rfl,.inl hb,_,_,_,_,_,rfl,g2.mono #v[]⟩
 exact⟨_,h⟩
theorem z0w (ns:List Int)(hl:ns.length<=63):sem T bn 40 "law" [.frl (ns.map W.int)]=some ([.frl (ns.map W.int)],#v[1,11]):=by
 rw[ycv];have Fd:∀d,20<=d->Fns (sem T bn d):=λd hd=>by
  obtain⟨d,rfl⟩ : ∃e,d=e+20:=⟨d-20,by omega⟩;have hT:∀d,zje (sem T bn (d+3) "_law_take"):=λd=>by rw[zp2];exact z6f (sem T bn 0)
  have hB:∀d,znc (sem T bn (d+6) "_law_bits"):=λd=>by rw[zo3];exact z6n (hT _)
  have hTe:∀d,zpm (sem T bn (d+3) "_law_terms"):=λd=>by rw[zlx];exact z1o (sem T bn 0)
  have hWt:∀d,WtN (sem T bn (d+8) "without_tops"):=λd=>by rw[zin];exact wt_n (by rw[z93];exact ybi (z44 (sem T bn 0))) (by rw[z3e];exact z8c (zx0 (sem T bn 0))) (by rw[yc7];exact ycz (sem T bn 0))
  refine⟨?_,hT _,hB _,?_,?_,?_,?_,?_,?_,?_⟩
  ·rw[zop];exact z0f (hT _)
  ·rw[zkn];exact zyt (sem T bn 0)
  ·rw[zp7];exact z6g (hTe _) (hB _)
  ·rw[zqb];exact z6r (sem T bn 0)
  ·rw[e_odd_flat];refine z2n ?_ ?_
   ·rw[e_letter_flats];refine z17 (by rw[z5k];exact z4v (Ψ':=sem T bn 0) (zii _)) ?_;rw[zks];exact z1q (hWt _)
   ·rw[e_is_odd_on];refine z1r (by rw[zwp];exact zzy (by rw[zy6];exact zvp (sem T bn 0)) (by rw[z56];exact z0j (sem T bn 0))) ?_;rw[zqe];exact zw7 (by rw[zyl];exact zs1 (sem T bn 0)) (by rw[zjo];exact zw8 (by rw[z3e];exact z8c (zx0 (sem T bn 0))))
  ·intro m k x hm hk hx;rw[zil];exact z96 hm hk hx
  ·rw[zsp];exact z81 _
  ·rw[zkt];exact z75 (by rw[zli];exact zu6 (by rw[zpu];exact z7f _))
 have F:=Fd 39 #v[0,9];have hR:zg5 (sem T bn 39 "_law_right"):=by rw[znl];exact z1n (Fd 38 #v[0,9])
 have hK:KWOk (sem T bn 39 "_law_kind_word"):=by
  rw[zgc];exact yd5 (Fd 38 #v[0,9]).T (Fd 38 #v[0,9]).B (Fd 38 #v[0,9]).V (Fd 38 #v[0,9]).P
 have hH:z24 (sem T bn 39 "_law_hand"):=by rw[zo1];exact z7u (sem T bn 0)
 generalize sem T bn 39=Ψ at *
 obtain⟨st0,h0,g0⟩:=hH ns hl;obtain⟨en',l2⟩:=z9f F hR hK hl g0;unfold z6x;refine zba (en:=some #v[7,7]::en') rfl (seq_e (e1:=[some #v[7,7],#v[st0,5],none,none,none,none]) ?_ (seq_e l2 ?_)) rfl
 ·simp! [h0]
 ·simp! []
abbrev nA (K:PySem.W.Frag) (n:Str) (f:Addr):Prop:=PySem.W.nsIn K mainGlobals n=some (some (.ref f))
noncomputable abbrev nL (K:PySem.W.Frag) (f:Addr) (oc:Value) (od:Option Addr) (n:Str) (st:Stmt) (kV dc pm:Value) (an:Option Addr) (cd ct:Value) (sl:Array (Option Value)):Prop:=K.lookup f=some ⟨oc,od,.func (PySem.W.fnOf n n (zf0 st) (zdx st) (zaq st) .none kV dc pm an cd ct),sl⟩
abbrev nC (K:PySem.W.Frag) (cd:Value) (n:Str):Prop:=PySem.W.codeIn K cd n=true
abbrev nK (K:PySem.W.Frag) (f:Addr):Prop:=PySem.W.keepIn K (.ref f)=true
noncomputable def nD (K:PySem.W.Frag) (t:Fd):Prop:=∃(f:Addr) (oc:Value) (od:Option Addr) (kV dc pm:Value) (an:Option Addr) (cd ct:Value) (sl:Array (Option Value)),nA K t.nm f/\nL K f oc od t.nm t.st kV dc pm an cd ct sl/\nC K cd t.nm/\nK K f
theorem nD_i {K:PySem.W.Frag}{n:Str}{t:Fd}{f:Addr}{oc:Value}{od:Option Addr}{kV dc pm:Value}{an:Option Addr}{cd ct:Value}{sl:Array (Option Value)}(e:t.nm=n)(a:nA K n f)(l:nL K f oc od n t.st kV dc pm an cd ct sl)(c:nC K cd n)(k:nK K f):nD K t:=by
 subst e;exact⟨_,_,_,_,_,_,_,_,_,_,a,l,c,k⟩
noncomputable def bO (t:Fd):Prop:=FnScope t.N t.ps (zaq t.st)/\t.m.length=t.ps.length/\∀(kV doc pm:Value) (an:Option Addr) (cdv ct:Value) (us:List Value),us.length=t.ps.length->bindArgs (PySem.W.fnOf t.nm t.nm (zf0 t.st) (zdx t.st) (zaq t.st) .none kV doc pm an cdv ct) ⟨us,[]⟩=pure (t.ps.zip us)
theorem yc8 {K:PySem.W.Frag}{h:Heap}{mg:Str->Option Value}(X:K.In h)(G:h.Ns mainGlobals mg){t:Fd}(b:bO t)(lm:t.nm∈lams->z1a K t.nm=true)(d:nD K t):FdOk K mg t:=by
 obtain⟨f,oc,od,kV,dc,pm,an,cd,ct,sl,a,l,c,k⟩:=d;have F:=z23 (st:=t.st) l c k;exact⟨b.1,b.2.1,⟨_,_,F,F.binds b.2.2,PySem.W.mg_of X G a⟩,lm⟩
theorem nd_T:(T.map (·.nm)).Nodup:=by decide +kernel
theorem all_c {α:Type}{P:α->Prop}{a:α}{l:List α}(h:P a)(r:∀x∈l,P x):∀x∈a::l,P x:=List.forall_mem_cons.mpr ⟨h,r⟩
theorem all_n {α:Type}{P:α->Prop}:∀x∈([]:List α),P x:=λ_ h=>nomatch h
@[elab_as_elim] theorem lenS {α:Type}{P:List α->Prop}{n:Nat} (us:List α) (hl:us.length=n+1) (h:∀a l,l.length=n->P (a::l)):P us:=by
 cases us with
 |nil=>cases hl
 |cons a l=>exact h a l (Gs hl)
@[elab_as_elim] theorem len0 {α:Type}{P:List α->Prop} (us:List α) (hl:us.length=0) (h:P []):P us:=by
 cases us with
 |nil=>exact h
 |cons a l=>cases hl
@[elab_as_elim] theorem len1 {α:Type}{P:List α->Prop} (us:List α) (hl:us.length=1) (h:∀a,P [a]):P us:=lenS us hl λa l e=>len0 l e (h a)
@[elab_as_elim] theorem len2 {α:Type}{P:List α->Prop} (us:List α) (hl:us.length=2) (h:∀a b,P [a,b]):P us:=lenS us hl λa l e=>lenS l e λb l e=>len0 l e (h a b)
@[elab_as_elim] theorem len3 {α:Type}{P:List α->Prop} (us:List α) (hl:us.length=3) (h:∀a b c,P [a,b,c]):P us:=lenS us hl λa l e=>len2 l e (h a)
theorem z7n:bO zqv:=⟨#v[0,0,5],rfl,λ_ _ _ _ _ _ us hl=>len2 us hl λ_ _=>rfl⟩
theorem zvo:bO zgk:=⟨#v[0,0,5],rfl,λ_ _ _ _ _ _ us hl=>len1 us hl λ_=>rfl⟩
theorem zsj:bO zfd:=⟨#v[0,0,5],rfl,λ_ _ _ _ _ _ us hl=>len1 us hl λ_=>rfl⟩
theorem z55:bO zrm:=⟨#v[0,0,5],rfl,λ_ _ _ _ _ _ us hl=>len2 us hl λ_ _=>rfl⟩
theorem zzj:bO zlk:=⟨#v[0,0,5],rfl,λ_ _ _ _ _ _ us hl=>len2 us hl λ_ _=>rfl⟩
theorem zst:bO zff:=⟨#v[0,0,5],rfl,λ_ _ _ _ _ _ us hl=>len2 us hl λ_ _=>rfl⟩
theorem yb7:bO z1w:=⟨#v[0,0,5],rfl,λ_ _ _ _ _ _ us hl=>len1 us hl λ_=>rfl⟩
theorem zgs:bO zbk:=⟨#v[0,0,5],rfl,λ_ _ _ _ _ _ us hl=>len2 us hl λ_ _=>rfl⟩
theorem zit:bO zby:=⟨#v[0,0,5],rfl,λ_ _ _ _ _ _ us hl=>len1 us hl λ_=>rfl⟩
theorem zm3:bO zdk:=⟨#v[0,0,5],rfl,λ_ _ _ _ _ _ us hl=>len1 us hl λ_=>rfl⟩
theorem ziu:bO zb1:=⟨#v[0,0,5],rfl,λ_ _ _ _ _ _ us hl=>len2 us hl λ_ _=>rfl⟩
theorem zgu:bO zbo:=⟨#v[0,0,5],rfl,λ_ _ _ _ _ _ us hl=>len2 us hl λ_ _=>rfl⟩
theorem zzn:bO zj1:=⟨#v[0,0,5],rfl,λ_ _ _ _ _ _ us hl=>len1 us hl λ_=>rfl⟩
theorem zny:bO zc8:=⟨#v[0,0,5],rfl,λ_ _ _ _ _ _ us hl=>len2 us hl λ_ _=>rfl⟩
theorem zg6:bO zbm:=⟨#v[0,0,5],rfl,λ_ _ _ _ _ _ us hl=>len2 us hl λ_ _=>rfl⟩
theorem zos:bO zd8:=⟨#v[0,0,5],rfl,λ_ _ _ _ _ _ us hl=>len2 us hl λ_ _=>rfl⟩
theorem zlv:bO zc7:=⟨#v[0,0,5],rfl,λ_ _ _ _ _ _ us hl=>len1 us hl λ_=>rfl⟩
theorem zmt:bO zdc:=⟨#v[0,0,5],rfl,λ_ _ _ _ _ _ us hl=>len2 us hl λ_ _=>rfl⟩
theorem znb:bO zdl:=⟨#v[0,0,5],rfl,λ_ _ _ _ _ _ us hl=>len1 us hl λ_=>rfl⟩
theorem zn8:bO zde:=⟨#v[0,0,5],rfl,λ_ _ _ _ _ _ us hl=>len2 us hl λ_ _=>rfl⟩
theorem zmp:bO zdb:=⟨#v[0,0,5],rfl,λ_ _ _ _ _ _ us hl=>len1 us hl λ_=>rfl⟩
theorem zln:bO zco:=⟨#v[0,0,5],rfl,λ_ _ _ _ _ _ us hl=>len2 us hl λ_ _=>rfl⟩
theorem zib:bO zb3:=⟨#v[0,0,5],rfl,λ_ _ _ _ _ _ us hl=>len2 us hl λ_ _=>rfl⟩
theorem zmy:bO zdo:=⟨#v[0,0,5],rfl,λ_ _ _ _ _ _ us hl=>len3 us hl λ_ _ _=>rfl⟩
theorem zmv:bO zdi:=⟨#v[0,0,5],rfl,λ_ _ _ _ _ _ us hl=>len1 us hl λ_=>rfl⟩
theorem zix:bO zbz:=⟨#v[0,0,5],rfl,λ_ _ _ _ _ _ us hl=>len1 us hl λ_=>rfl⟩
theorem zhm:bO zbi:=⟨#v[0,0,5],rfl,λ_ _ _ _ _ _ us hl=>len2 us hl λ_ _=>rfl⟩
theorem zp4:bO zd5:=⟨#v[0,0,5],rfl,λ_ _ _ _ _ _ us hl=>len2 us hl λ_ _=>rfl⟩
theorem zf2:bO za1:=⟨#v[0,0,5],rfl,λ_ _ _ _ _ _ us hl=>len3 us hl λ_ _ _=>rfl⟩
theorem zif:bO zb6:=⟨#v[0,0,5],rfl,λ_ _ _ _ _ _ us hl=>len2 us hl λ_ _=>rfl⟩
theorem zj2:bO zck:=⟨#v[0,0,5],rfl,λ_ _ _ _ _ _ us hl=>len2 us hl λ_ _=>rfl⟩
theorem ybd:bO zo8:=⟨#v[0,0,5],rfl,λ_ _ _ _ _ _ us hl=>len1 us hl λ_=>rfl⟩
theorem all_mk {l:PySem.W.OpenLaw}{w:World}{K:PySem.W.Frag}{h:Heap}{mg:Str->Option Value}{fa:Addr} (X:K.In h) (G:h.Ns mainGlobals mg) (hfa:mg "law" = some (.ref fa)) (D:∀t∈T,nD K t) (M:∀x∈(["_law_terms","law"]:List Str),z1a K x=true) (Z:∀x∈bn,PySem.W.nsIn K mainGlobals x=some none) :
  ∃fd:FuncData,(∀(s:Shared) (v:Value),BindsTo s fd ⟨[v],[]⟩ [("_law_script",v)])/\∀base:Heap,K.In base->base.Ns mainGlobals mg->FnOk l.prog w K mg base CX0 40 fa fd ["_law_script"] (spF K [false] (sem T bn 40 "law")):=by
 have B:∀t∈T,bO t:=all_c z7n (all_c zvo (all_c zsj (all_c z55 (all_c zzj (all_c zst (all_c yb7 (all_c zgs (all_c zit (all_c zm3 (all_c ziu (all_c zgu (all_c zzn (all_c zny (all_c zg6 (all_c zos (all_c zlv (all_c zmt (all_c znb (all_c zn8 (all_c zmp (all_c zln (all_c zib (all_c zmy (all_c zmv (all_c zix (all_c zhm (all_c zp4 (all_c zf2 (all_c zif (all_c zj2 (all_c ybd (all_n))))))))))))))))))))))))))))))));have q:∀t∈T,t.nm∈lams->t.nm∈(["_law_terms","law"]:List Str):=by decide +kernel
 obtain⟨f,oc,od,kV,dc,pm,an,cd,ct,sl,a,lk,c,k⟩:=D zo8 (by simp [T]);have F:=z23 (st:=zo8.st) lk c k;have e:=hfa.symm.trans (PySem.W.mg_of X G a);cases e;exact⟨_,λs v=>.of_eq rfl,λbase kb nb=>zxo nd_T (λt ht=>yc8 X G (B t ht) (λhl=>M _ (q t ht hl)) (D t ht)) (λx hx=>PySem.W.mg_none_of X G (Z x hx)) kb nb 40 zo8 (by simp [T]) _ _ F (PySem.W.mg_of X G a)⟩
theorem walk {l:PySem.W.OpenLaw}{q:Program}{loose:List Str}{XP:(Str->Option Value)->Heap->Prop}{YP:World->Heap->Prop}{d:DefRec}{K:Params->PySem.W.Frag} (hn:l.most=some 63) (hdf:d.params.defaults=[])
  (hY:∀(w:World) (h:Heap),YP w h->(K w.params).In h)
  (nt:∀w:World,PySem.W.noTabs (K w.params)=true) (nd:∀w:World,zxh (K w.params)=true) (hrec:∀(w:World),∀x∈lams,∀c P,PySem.W.tabIn (K w.params) x=some (c,P)->∃d,(recsOf q).find? (λe=>e.name==x)=some d)
  (F:∀(w:World) (mg:Str->Option Value) (fa:Addr) (h:Heap),(K w.params).In h->h.Ns mainGlobals mg->mg d.name=some (.ref fa) ->
   ∃fd:FuncData,(∀(s:Shared) (u:Value),BindsTo s fd ⟨[u],[]⟩ [("_law_script",u)])/\∀base:Heap,(K w.params).In base->base.Ns mainGlobals mg->FnOk l.prog w (K w.params) mg base CX0 40 fa fd ["_law_script"] (spF (K w.params) [false] (sem T bn 40 "law"))) :
  PySem.W.WalkO q loose XP YP l.row.toRowW d [] (λf vs=>PySem.call f vs) :=
 L2.walk_ofT (n:=63) (k:=40) (x := "_law_script") (CX:=λ_=>CX0) (sp:=λw=>spF (K w.params) [false] (sem T bn 40 "law")) hn #v[0,9] hdf ⟨rfl,by decide,by decide,rfl⟩ hY nt nd hrec F (λ_ _ _ a ns hl st hS=>zsv st.sub st.tb hS (ws':=[.frl (ns.map W.int)]) (z0w ns hl) rfl) λ_ _ _ _ _ z=>z
end My
open PySem PySem.W PyProof.Rows
set_option maxRecDepth 100000 in
set_option maxHeartbeats 0 in
theorem PySem.Challenge.cw_yesnowords_k36_flats_that_are_odd_holds : PySem.Challenge.rw_yesnowords_k36_flats_that_are_odd.Holds := by
 w_on;o_law;k_head;(case hw=>w_witness2)
 k_fill
 refine My.walk (l:=PySem.Challenge.rw_yesnowords_k36_flats_that_are_odd) rfl rfl (fun w h Y=>by first | exact PySem.W.kIn_of Y | exact PySem.W.km_in_of Y) ?nt ?nd ?hrec ?F
 case nt=>exact fun w=>by kernel_rfl
 case nd=>exact fun w=>by kernel_rfl
 case hrec =>
  intro w x hx c P e;simp only [L2.lams,Ap,Cb,Ge] at hx;rcases hx with rfl | rfl | rfl | rfl | rfl
  ·exact Ff.mp (by kernel_rfl)
  ·exact nomatch (Eq.trans (by kernel_rfl) e:(none:Option (Addr × Addr))=some (c,P))
  ·exact nomatch (Eq.trans (by kernel_rfl) e:(none:Option (Addr × Addr))=some (c,P))
  ·exact nomatch (Eq.trans (by kernel_rfl) e:(none:Option (Addr × Addr))=some (c,P))
  ·exact Ff.mp (by kernel_rfl)
 case F =>
  intro w mg fa h KX G hmg;refine My.all_mk KX G hmg ?xD ?xM ?xZ
  case xM=>exact My.all_c (by kernel_rfl) (My.all_c (by kernel_rfl) (My.all_n))
  case xZ =>
   refine' My.all_c ?_ (My.all_c ?_ (My.all_c ?_ (My.all_c ?_ (My.all_c ?_ (My.all_c ?_ (My.all_c ?_ (My.all_c ?_ (My.all_c ?_ (My.all_c ?_ (My.all_c ?_ (My.all_c ?_ (My.all_c ?_ (My.all_c ?_ (My.all_c ?_ (My.all_c ?_ (My.all_c ?_ (My.all_c ?_ (My.all_c ?_ (My.all_n)))))))))))))))))))
   any_goals k_is
  case xD =>
   refine' My.all_c (My.nD_i (n := "says") rfl ?_ ?_ ?_ ?_) (My.all_c (My.nD_i (n := "weight") rfl ?_ ?_ ?_ ?_) (My.all_c (My.nD_i (n := "word_at") rfl ?_ ?_ ?_ ?_) (My.all_c (My.nD_i (n := "plus") rfl ?_ ?_ ?_ ?_) (My.all_c (My.nD_i (n := "times") rfl ?_ ?_ ?_ ?_) (My.all_c (My.nD_i (n := "is_even") rfl ?_ ?_ ?_ ?_) (My.all_c (My.nD_i (n := "top") rfl ?_ ?_ ?_ ?_) (My.all_c (My.nD_i (n := "without_tops") rfl ?_ ?_ ?_ ?_) (My.all_c (My.nD_i (n := "flat_places") rfl ?_ ?_ ?_ ?_) (My.all_c (My.nD_i (n := "flat_word") rfl ?_ ?_ ?_ ?_) (My.all_c (My.nD_i (n := "flats_along") rfl ?_ ?_ ?_ ?_) (My.all_c (My.nD_i (n := "longer_terms") rfl ?_ ?_ ?_ ?_) (My.all_c (My.nD_i (n := "terms") rfl ?_ ?_ ?_ ?_) (My.all_c (My.nD_i (n := "is_odd_on") rfl ?_ ?_ ?_ ?_) (My.all_c (My.nD_i (n := "letter_flats") rfl ?_ ?_ ?_ ?_) (My.all_c (My.nD_i (n := "odd_flat") rfl ?_ ?_ ?_ ?_) (My.all_c (My.nD_i (n := "_law_hand") rfl ?_ ?_ ?_ ?_) (My.all_c (My.nD_i (n := "_law_take") rfl ?_ ?_ ?_ ?_) (My.all_c (My.nD_i (n := "_law_many") rfl ?_ ?_ ?_ ?_) (My.all_c (My.nD_i (n := "_law_bits") rfl ?_ ?_ ?_ ?_) (My.all_c (My.nD_i (n := "_law_word") rfl ?_ ?_ ?_ ?_) (My.all_c (My.nD_i (n := "_law_terms") rfl ?_ ?_ ?_ ?_) (My.all_c (My.nD_i (n := "_law_values") rfl ?_ ?_ ?_ ?_) (My.all_c (My.nD_i (n := "_law_poly") rfl ?_ ?_ ?_ ?_) (My.all_c (My.nD_i (n := "_law_sums") rfl ?_ ?_ ?_ ?_) (My.all_c (My.nD_i (n := "_law_places") rfl ?_ ?_ ?_ ?_) (My.all_c (My.nD_i (n := "_law_is_flat") rfl ?_ ?_ ?_ ?_) (My.all_c (My.nD_i (n := "_law_top") rfl ?_ ?_ ?_ ?_) (My.all_c (My.nD_i (n := "_law_kind_word") rfl ?_ ?_ ?_ ?_) (My.all_c (My.nD_i (n := "_law_is_odd") rfl ?_ ?_ ?_ ?_) (My.all_c (My.nD_i (n := "_law_right") rfl ?_ ?_ ?_ ?_) (My.all_c (My.nD_i (n := "law") rfl ?_ ?_ ?_ ?_) (My.all_n))))))))))))))))))))))))))))))))
   any_goals (first | (delta My.nA;k_is) | (delta My.nL;k_is) | (delta My.nC;k_is) | (delta My.nK;k_is) | k_is)