import PyProof.Rows.All
import Wide.All
import OpenK.AllK
import Wide.FinOn
import Lean
import PyProof.EqAt
import PyProof.EqKinds
import PyProof.TupleCall
import PySem.Challenge.RW_yesnowords_k48_words_mended
set_option Elab.async false
set_option linter.all false
set_option compiler.extract_closed false
set_option bootstrap.genMatcherCode false
set_option maxRecDepth 100000
open Option renaming some → Za, none → Zb
open Bool renaming false → Zc, true → Zd
open PySem renaming Value → Ze, Shared → Zf, Addr → Zh, Expr → Zi
open PySem.W renaming Frag → Zg
open PySem renaming wpAny_bind → Aa, wpAny_pure → Am, mem_of_lookup → Bu, wpAny_mono → Cw, wpAny_field → Da, wpAny_loadPart' → Dg, wpAny_rule → Dh, wpAny_callSpecial?_slot → Di, wpAny_holding → Dk, wpAny_seqItems → Dm, wpAny_newObj_type → Dn, wpAny_pyIter_list → Dw, wpAny_is_plain → Ez, wpAny_call_entry → Fa, wpAny_setField_rec → Fg, wpAny_passesOwn → Fh, wpAny_standAt → Fp, wpAny_truthy_bool → Ft, wpAny_pyIter_tuple → Ge, wpAny_Call_Name_kw → Gf, wpAny_letGo → Gh, sizeLine_eq → Hd, codeAny_builtin → Hj, wpAny_tryCatch → Hn, call_meets → Ho, wpAny_pyIter_enum → Hq, wpAny_attempt → Hr
open Bool renaming and_eq_true → Ab, false_ne_true → At, not_eq_true → Bn, or_eq_true → Cd, not_eq_false' → Dc, false_eq_true → Dq, eq_iff_iff → Eh, not_eq_true' → Em, false_and → Ev, xor_false → Fo, not_false → Gd, and_false → Hh
open PySem.Heap renaming get?_push_of_some → Ac, get?_push_size → Aq, lt_size → Ar, size_push → Df, get?_update_other → Do, get?_update_self → Gy
open List renaming length_map → Ad, getElem?_eq_getElem → Ae, getElem?_eq_some_iff → Af, getElem?_map → Aj, size_toArray → Ak, mem_cons_of_mem → An, mem_cons → Ap, mem_cons_self → Av, all_eq_true → Aw, map_cons → Ax, length_cons → Ay, mem_singleton → Az, mem_append_right → Ba, length_append → Bb, append_assoc → Bc, filter_cons_of_pos → Be, filter_cons_of_neg → Bf, mem_of_getElem? → Bh, length_range → Bi, mem_range → Bk, mem_filter → Bl, lookup_cons → Bm, map_append → Bo, nodup_cons → Bq, take_length → Bs, length_filter_le → Bt, append_nil → By, take_append_drop → Bz, not_mem_nil → Cb, mem_append → Cc, take_succ → Ce, filter_append → Cf, all_cons → Cg, getElem?_eq_none → Ci, length_take → Cj, pairwise_append → Ck, contains_iff_mem → Cn, getElem?_set_ne → Cp, getD_eq_getElem?_getD → Cq, map_map → Cr, drop_eq_getElem_cons → Cs, replicate_succ → Ct, filter_congr → Cu, sum_cons → Cv, length_set → Cz, pairwise_cons → Db, mem_iff_getElem → De, getElem?_append_left → Dl, mem_map → Dr, ext_getElem? → Ds, getElem?_set_self → Dv, filter_cons → Dy, take_zero → Dz, perm_ext_iff_of_nodup → Ea, length_replicate → Ed, pairwise_iff_getElem → Ef, take_sublist → Ej, map_inj_left → Ek, flatten_cons → El, getElem?_range → Er, drop_zero → Et, of_mem_zip → Fb, filter_nil → Fc, any_cons → Ff, getElem?_append_right → Fj, forIn_nil → Fm, length_zipWith → Fv, length_reverse → Fw, length_nil → Fy, take_of_length_le → Gc, length_singleton → Gi, length_drop → Gj, mem_append_left → Gn, getElem?_mapIdx → Go, range_succ → Gr, forIn_cons → Gs, filterMap_cons → Gx, nodup_nil → Hg, foldl_append → Hk, drop_sublist → Hl
open Nat renaming le_refl → Ag, lt_of_lt_of_le → Bd, ne_of_lt → Bg, le_trans → Bj, lt_irrefl → Bx, zero_le → Ch, zero_add → Co, pow_le_pow_right → Dd, le_add_right → Dx, testBit_xor → Eg, lt_succ_of_lt → Ei, lt_succ_self → Fs, le_of_succ_le → Gb, testBit_two_pow → Gv, add_sub_cancel' → Gw, two_pow_add_eq_or_of_lt → Gz, min_self → Ha, lt_of_le_of_lt → He
open PyProof.Rows renaming wpS_bind → As, wpS_pure → Au, callWith_type1 → Bw, wpS_forRange → Cm, wpS_mono → Ec, slot_tuple_getitem → Ep, wpS_get → Hs, assignInOrder_cons → Ht
open LawfulBEq renaming eq_of_beq → Bp
open Array renaming toList_append → Bv, length_toList → Ca, toList_push → Dt, getElem?_toList → Ee, getElem?_eq_none → Ey, toList_reverse → Gp, perm_iff_toList_perm → Hi
open PySem.W renaming kia_one → Cy, cellsFrom_some → Ga
open Int renaming toNat_natCast → Dj, eq_ofNat_of_zero_le → Eu, natCast_nonneg → Ew, emod_lt_of_pos → Ex, emod_nonneg → Fz, zero_add → Hb
open Option renaming bind_some → Dp, map_eq_some_iff → Du, isSome_iff_exists → Eo, map_some → Gq
open PySem.Heap.SameBut renaming update → Eb
open PySem.F renaming plain_max_loop → Fe, slot_tuple_iterator_next → Fx, args_tuple_add_2 → Hm
open LawfulMonad renaming pure_bind → Gu
def Ah:=@decide_eq_true
def Ai:=@of_decide_eq_true
def Ao:=@decide_eq_false
def Br:=@decide_eq_true_eq
def Es:=@decide_eq_decide
def Fq:=@if_true
def Fu:=@beq_eq_false_iff_ne
def Gk:=@or_false
def Gm:=@if_false
namespace PySem.W.Fast
def tw17369967827091347049:=0
def tw13656035221942689794:=0
def tw7755448696244343857:=0
def tw8069539902746657334:=0
def tw16516029679971162723:=0
def tw2341197496366571768:=0
def tw9081921809594600554:=0
def tw4861413371587198008:=0
def tw9611974657003671945:=0
def tw12363105242719258477:=0
def tw17263408051989197419:=0
def tw16755112580812792309:=0
def tw8809079630097424976:=0
def tw2491613525700235991:=0
def tw5925046314144706051:=0
def tw16626346672474631828:=0
def tw6476925370424904043:=0
def tw2401361414526267537:=0
def tw10168619911128200639:=0
def tw15986156798931573687:=0
def tw13554622846203091465:=0
def tw14036193723193516336:=0
def tw16722583830700792354:=0
def tw12508833279776504460:=0
def tw7341999839832855398:=0
def tw8208261209368403901:=0
def tw4985562415896565902:=0
def tw11058224771364586572:=0
def tw10897965964344955397:=0
def tw3445432885977057877:=0
def tw5395961060080218799:=0
def tw5661699815698305561:=0
def tw3821707657755950365:=0
def tw7260855529591124766:=0
def tw7457887987012573990:=0
def tw15835314895283188464:=0
def tw869458882709191194:=0
def tw13699057836911108750:=0
def tw11652248936808783437:=0
def tw17858731698165793303:=0
def tw7340787021388732608:=0
def tw12514527395076490975:=0
def tw1359467109568239243:=0
def tw13180868360204923486:=0
def tw2132947968967539021:=0
def tw11546710493756298937:=0
def tw16461909241832730923:=0
def tw4169954409056578322:=0
def tw13922007575676590360:=0
def tw14835825089701076066:=0
def tw265278372634130889:=0
def tw11547329753229249991:=0
def tw12277444068687743299:=0
def tw17791226176006249867:=0
def tw5506493523807424861:=0
def tw8254045536264636960:=0
def tw4237880496243897284:=0
def tw9530974899047710878:=0
def tw9432517750920743602:=0
def tw9865281348907071400:=0
def tw2881315754639348923:=0
def tw157353003361556756:=0
def tw16260817581605973228:=0
def tw11235931335071428372:=0
def tw10049893368754086501:=0
def tw5330011048254709717:=0
def tw10437420088361026646:=0
def tw664679228912276703:=0
def tw14091094115075601048:=0
def tw14473171143386559301:=0
def tw4242519972861449579:=0
def tw718025537166495590:=0
def tw2716050023893411601:=0
def tw5064733824490685794:=0
def tw15059023793775781250:=0
def tw7975128299944671068:=0
def tw5157439009530431507:=0
def tw16384375267537391612:=0
def tw9110541548012510286:=0
def tw6012381922897003677:=0
def tw1514486728186626987:=0
def tw11051501933654542572:=0
def tw9440551228394892783:=0
def tw17870696649916689397:=0
def tw17713162985612596299:=0
def tw12528865129266780049:=0
def tw6734315545947250134:=0
def tw14419433341371374723:=0
def tw1745449529830452182:=0
def tw1270653729870827794:=0
def tw16468319428841866256:=0
def tw16831714007181942475:=0
def tw5800451493077402523:=0
def tw16135043817798341549:=0
def tw14398045505348511542:=0
def tw5346303698627603568:=0
def tw14553526097632299366:=0
def tw3769699454859959022:=0
def tw5457606929261074275:=0
def tw17012026374288295716:=0
def tw14665256602899444273:=0
def tw15232006731791602385:=0
def tw14950772095524738790:=0
def tw1067058325843423129:=0
def tw2573995774802855955:=0
def tw11315017181466711251:=0
def tw9993323514726869894:=0
def tw3630645502950524474:=0
def tw1962330077009075159:=0
def tw15900259786193030762:=0
def tw15847902477137302718:=0
def tw596495326958116604:=0
def tw9580373212343683930:=0
def tw9176239029813215772:=0
def tw2861731884021799224:=0
def tw898603355437005013:=0
def tw9095061649368619657:=0
def tw7657576429916626295:=0
def tw17529378358627427111:=0
def tw11392122173197401992:=0
def tw11620177381125340348:=0
def tw5913813105050398576:=0
def tw7186382127300342344:=0
def tw14814323885670243971:=0
def tw14922203175912572746:=0
def tw4226908485180552587:=0
def tw641974282043779178:=0
def tw7806643005652915859:=0
def tw7322082833801786455:=0
def tw8393890740877099884:=0
def tw11411489775310923475:=0
def tw17285710884148348906:=0
def tw8222879272106481644:=0
def tw13438484152838270941:=0
def tw5803739872452806267:=0
def tw1213665092913249995:=0
def tw17852247791702825866:=0
def tw5005751151841813160:=0
def tw12724144401254167578:=0
def tw7716507257530566973:=0
def tw12657716875740133911:=0
def tw8580285414806616448:=0
def tw8679377158725433034:=0
def tw3977761764060952280:=0
def tw5946825249896108012:=0
def tw12970841841555518579:=0
def tw11549194129698826875:=0
def tw13588464478089560288:=0
def tw7239085934140917865:=0
def tw13291807554248305611:=0
def tw1567664046397165865:=0
def tw10260637251798781270:=0
def tw8539669921749677506:=0
def tw9957622514110792267:=0
def tw866487533244104219:=0
def tw11248519431486230924:=0
def tw8013606516915832602:=0
def tw12001055961311350194:=0
def tw8359887314811936020:=0
def tw16254998362002212703:=0
def tw14823483427151090031:=0
def tw1432189979657361085:=0
def tw6259855582916331513:=0
def tw11109971123595502279:=0
def tw13349261939192511128:=0
def tw1506728164700595284:=0
def tw7028583812551092745:=0
def tw17152870331366582868:=0
def tw9701925765136400150:=0
def tw16089538963016819558:=0
def tw9702084349511359238:=0
def tw18185328655192978803:=0
def tw3230052691249201443:=0
def tw5203095131412776289:=0
def tw15319805778890579429:=0
def tw1323456806624795015:=0
def tw4670761265600499386:=0
def tw4232009249146910862:=0
def tw16526040302071219435:=0
def tw12562543515000942190:=0
def tw14970138457242783678:=0
def tw16371881633321653745:=0
def tw16662810220972571930:=0
def tw16042040104980598487:=0
def tw8258819985063484429:=0
def tw9524052654193446958:=0
def tw12749584263708806517:=0
def tw14373606880267735216:=0
def tw1838146970628051051:=0
def tw6022637959641137013:=0
def tw1922858319065121337:=0
def tw14018530390431176282:=0
def tw1448046776118120668:=0
def tw13708698282284657328:=0
def tw9165423063517022385:=0
def tw615315840033144916:=0
def tw2307107482905456163:=0
def tw9864460905915695165:=0
def tw13907676236379216546:=0
def tw17612580147306448001:=0
def tw14888127873807852381:=0
def tw8081994023952107014:=0
def tw1064139410452186317:=0
def tw16680431768981837123:=0
def tw11346685297344923224:=0
def tw15194728819166411191:=0
def tw1256423460741885214:=0
def tw9320516116918892966:=0
def tw3990209436528523147:=0
def tw7708324367321212445:=0
def tw7787707299577688372:=0
def tw12267599700426125544:=0
def tw16850148519194394858:=0
def tw9311472371991647529:=0
def tw12177536860879928385:=0
def tw6718193026265261508:=0
def tw9240251988062247250:=0
def tw9095531581485981500:=0
def tw14834623842607615634:=0
def tw15561770587438776940:=0
def tw18213509659406230093:=0
def tw6871193394069965520:=0
def tw5927371164570380188:=0
def tw14697008625423983090:=0
def tw9218735946681707846:=0
def tw10576797840092727368:=0
def tw1053681067403432121:=0
def tw8384705044792057631:=0
def tw1196276009694742738:=0
def tw3706116079096283485:=0
def tw3209573385189917879:=0
def tw16778170932439848308:=0
def tw791580798694985590:=0
def tw4441095685392740730:=0
def tw18291690785589385761:=0
def tw2543910476971269272:=0
def tw6053739681145679647:=0
def tw7999582371623992330:=0
def tw5638444799419443602:=0
def tw5364113206091898206:=0
def tw7403352345579910599:=0
def tw12738618740980721188:=0
def tw2991067179798880440:=0
def tw4272151532153211705:=0
def tw13388482694223470295:=0
def tw6900223265631659186:=0
def tw9720857888655446971:=0
def tw7497312998023282708:=0
def tw5987131927864455778:=0
def tw13918476069429336246:=0
def tw6175394760625177053:=0
def tw2570125003625951627:=0
def tw5804512823626674329:=0
def tw6864583037969139845:=0
def tw9978789319782702895:=0
def tw6692149884322518274:=0
def tw10792184737457372816:=0
def tw5561769463919303091:=0
def tw1440604486021338675:=0
end PySem.W.Fast
theorem bS {α β}{o:Option α}{f:α->Option β}{b}(h:o.bind f=Za b):∃a,o=Za a/\f a=Za b:=Option.bind_eq_some_iff.mp h
theorem sI {α}{a b:α}(h:Za a=Za b):a=b:=Option.some.inj h
namespace L2
open PySem PySem.Spec PyProof.Rows
theorem aG {P:Prop}(h:∀G:Prop,(P->G)->G):P:=h P id
end L2
section
open Lean
abbrev nY:=Syntax
def nM:=mkAtom
def nK (k:Name)(xs:List nY):nY:=.node .none (`Lean.Parser.Term++k) xs.toArray
def nC (xs:List nY):nY:=mkNullNode ((xs.intersperse (nM ",")).toArray)
def nB (k a b:String)(x:List nY):nY:=.node .none (.mkSimple k) #[nM a,nC x,nM b]
def nP:nY:=nK `hygienicLParen [nM "(",.node .none `hygieneInfo #[mkIdent .anonymous]]
def nT (w:String):nY:=if w.front.isDigit then Syntax.mkNumLit w else if w.front=='.' then nK `dotIdent [nM ".",mkIdent (w.drop 1).toString.toName] else if w=="_" then nK `hole [nM "_"] else mkIdent w.toName
def nA:List nY->nY
 |[f]=>f
 |f::r=>nK `app [f,mkNullNode r.toArray]
 |[]=>.missing
def nG:Nat->List Char->String->List nY->List nY->List nY×List Char
 |0,cs,_,_,r=>(r,cs)
 |n+1,cs,w,a,r=>
  let b:=if w=="" then a else nT w::a
  let e:=(if b.isEmpty then r else nA b.reverse::r).reverse
  match cs with
  |[]=>(e,cs)
  |c::cs=>
   let sub:=λ(k:_->nY) b=>
    let(x,ds):=nG n cs "" [] []
    match ds with
    |'.'::es=>let f:=es.takeWhile Char.isAlphanum;nG n (es.drop f.length) "" (nK `proj [k x,nM ".",mkIdent (String.ofList f).toName]::b) r
    |_=>nG n ds "" (k x::b) r
   let fin:=λds (f:nY->nY)=>let(x,ds):=nG n ds "" [] [];(r.reverse++match x with|y::z=>f y::z|_=>[],ds)
   if c==')'||c==']'||c=='⟩' then (e,cs)
   else if c==',' then nG n cs "" [] (nA b.reverse::r)
   else if c==' ' then nG n cs "" b r
   else if c=='(' then sub (λxs=>match xs with|[x]=>nK `paren [nP,x,nM ")"]|[.missing,x,y]=>nK `typeAscription [nP,x,nM ":",mkNullNode #[y],nM ")"]|x::y=>nK `tuple [nP,mkNullNode #[x,nM ",",nC y],nM ")"]|_=>.missing) b
   else if c=='⟨' then sub (λx=>nK `anonymousCtor [nM "⟨",nC x,nM "⟩"]) b
   else if c=='[' then if w=="#v" then sub (λx=>.node .none `Vector.«term#v[_,]» #[nM "#v[",nC x,nM "]"]) a else if w=="#" then sub (nB "term#[_,]" "#[" "]") a else sub (nB "term[_]" "[" "]") b
   else if c=='"' then let s:=cs.takeWhile (·!='"');nG n (cs.drop (s.length+1)) "" (Syntax.mkStrLit (String.ofList s)::b) r
   else if c=='λ' then let s:=cs.takeWhile (·!='=');fin (cs.drop (s.length+2)) λx=>nA (nK `fun [nM "λ",nK `basicFun [mkNullNode (((String.ofList s).splitOn " ").map nT).toArray,mkNullNode,nM "=>",x]]::b).reverse
   else if "+-*^/%<=&:".contains c then
    let s:=c::cs.takeWhile ("=&:/\\".contains ·)
    if s==[':'] then nG n cs "" [] (nA b.reverse::.missing::r) else fin (cs.drop (s.length-1)) λx=>.node .none (.mkSimple s!"term_{String.ofList s}_") #[nA b.reverse,nM (String.ofList s),x]
   else nG n cs (w.push c) a r
def nD (t:String)(i j:Nat):Option nY:=((t.splitOn "|")[10*(j-7)+i]?).map λs=>nA (nG 999 s.toList "" [] []).1
end
open Lean in
local macro_rules | `(#v[$a,$b])=>(do nD "(gSeq (gSet [0] 5 (gCall [true,false] (Ψ \"_law_take\") (gCns (zaa 0) (gCns (gArg (gOp2 oIx (gArg (zaq (gCns #v[2] (gCns #v[5] (gCns #v[5] gA0))))) (zaa 2))) gA0)))) (zc2 (gApp 3 (gOp2 oIx (gArg (zaq (gCns #v[5,4] (gCns (gArg (gOpN oInt (gCns (gArg (gOp2 oEq (zaa 5) #v[0])) gA0))) (gCns (gArg (gOpN oInt (gCns (gArg (gOp2 (oI yes2 λi j=>.bl (decide (j<i))) (zaa 5) #v[0])) gA0))) gA0))))) (zaa 2)))))|⟨#v[0,0,5],rfl,λ_ _ _ _ _ _ us hl=>len2 us hl λ_ _=>rfl⟩|(model X.prog X.w)|(.ListComp elt [⟨tg,iter,ifs,0⟩,⟨tg2,iter2,ifs2,0⟩] scope pos)|((h3.update a (Obj.mapSeq λ_=>(#[]:Array Value))).push (seqObj \"tuple\" vs.toArray 0))|⟨#v[0,0,5],rfl,λ_ _ _ _ _ _ us hl=>len1 us hl λ_=>rfl⟩|(.ListComp elt (⟨tg,iter,ifs,0⟩ :: gs) scope pos)|(.frl (ns.map W.int),false)||(gArg (gOp2 (oI cPow λi j=>.int (i ^ j.toNat)) (gArg (gC (.int 10))) (gArg (gC (.int 60)))))|⟨#v[0,0,5],rfl,λ_ _ _ _ _ _ us hl=>len3 us hl λ_ _ _=>rfl⟩|(.bl false,false)|||[#v[(m:Nat),0],#v[(N:Nat),0],#v[tmW T,6],#v[(SN T N:Nat),0],v4,#v[(zao T:Nat),0]]|[#v[st,5],#v[bLW m f,6],#v[(c:Nat),0],#v[bLW m f,5],#v[(zac (List.range (2 ^ m))),2],none,none]||(zbb X Nc scope cl C s3 H3 fp)|(gArg (gOpN oLen (gCns (zaa 0) gA0)))|[#v[(m:Nat),0],#v[(r:Nat),0],#v[bLW m N.testBit,6],#v[bLW m N.testBit,6],#v[[],1],#v[[],2],none,none,none,none,none]||(gCns (gArg (gCall [true,false,false] (Ψ \"_law_poly\") (gCns (zaa 1) (gCns #v[3,4] (gCns #v[4,4] gA0))))) (gCns (gArg (zaq gA0)) (gCns (gArg (gCall [false,false] (Ψ \"_law_terms\") (gCns #v[3,4] (gCns #v[4,4] gA0)))) gA0)))|(oI yes2 λi j=>.int (Builtin.bitAnd i j))|(gArg (gOpN oLen (gCns (zaa 1) gA0)))|(.frl ((n0::nr).map W.int),false)|(seqObj \"list\" #[] 0)|(oI yes2 λi j=>.bl (decide (j<i)))|[#v[st,5],#v[n,0],#v[way,0],#v[(xs.map W.int),2],#v[(0+(i:Nat)),0],v5]|[#v[m,0],#v[(rowF m f 0),0],#v[((tab 1 (rowF m f)).map W.int),2],none]|(gArg (gCall [false] (Ψ \"terms\") (gCns #v[0,4] gA0)))||[#v[kdW m r,6],#v[(N:Nat),0],#v[(m:Nat),0],#v[[],2],none,none,none]|(.ListComp elt gens scope pos)|[#v[(m:Nat),0],#v[(N:Nat),0],#v[tmW T,6],#v[(N:Nat),0],none,none]|[.int (w:Nat),.tup (R.map rowW)]|[#v[(m:Nat),0],#v[(r:Nat),0],#v[bLW m N.testBit,6],none,none,none,none,none,none,none,none]|(gAug [] (oI yes2 λi j=>.int (Builtin.bitOr i j)) 1 (gArg (gOp2 #v[0,0,1] #v[1] (zaa 2))))|[some #v[7,7],#v[[.int 0,.int 0,.int 0],2],none,none,none,none]|(gCns #v[2,4] (gCns #v[1,4] (gCns #v[3,4] (gCns #v[4,4] gA0))))|(gCns (gArg (gOpN oLen (gCns (zaa 3) gA0))) gA0)|[#v[m,0],#v[(rowF m f 0),0],#v[((tab (i+1) (rowF m f)).map W.int),2],#v[(0+(i:Nat)),0]]||[v0,#v[st3,5],v2,#v[(m:Nat),0],#v[(r:Nat),0],#v[(c:Nat),0],#v[x,6],#v[bLW m (par ts),6],#v[bLW m N.testBit,6],#v[[bLW m (par ts),.tup R],3],v10]|[#v[(m:Nat),0],#v[x,6],#v[((tab i (valF ts)).map W.int),2],#v[(i:Nat),0],v4]|[#v[(m:Nat),0],#v[Z,6],#v[tmW T,6],#v[(zac (al T)),2],#v[(zac (oth m T)),2]]||(.bl true,false)|(s.heap.objs.size+1)|(gCns #v[0,4] (gCns (gArg (gOp2 oIx (zaa 2) (zaa 3))) (gCns #v[3,4] gA0)))|[#v[(m:Nat),0],v1,v2,#v[bLW m g,6],v4,v5,v6,#v[(CH.map tmW),1],v8,v9,v10]|[#v[kdW m r,6],#v[(N:Nat),0],#v[(m:Nat),0],#v[R,2],v4,v5,#v[(w:Nat),0]]|[#v[kdW m r,6],#v[(N:Nat),0],#v[(m:Nat),0],#v[R,2],#v[tmW T,6],v5,none]||[some #v[7,7],#v[st,5],none,none,none,none,none,none,none,none,none]|[#v[(m:Nat),0],#v[(r:Nat),0],v2,v3,v4,v5,#v[(s:Nat),0],v7,v8,v9,v10]|[#v[st,5],#v[bLW m f,6],#v[(c:Nat),0],#v[bLW m f,5],none,none,none]|[v0,v1,v2,#v[(m:Nat),0],#v[(r:Nat),0],v5,v6,#v[bLW m (par ts),6],#v[bLW m N.testBit,6],#v[[bLW m (par ts),.tup R],3],#v[x,6]]|[some #v[4,9],#v[[.int 0,.int 0,.int 0],2],#v[1,0],none,none,none]|(oI yes2 λi j=>.int (i+j))|[v0,v1,v2,#v[(m:Nat),0],#v[(r:Nat),0],v5,v6,#v[bLW m (par ts),6],#v[bLW m N.testBit,6],#v[[bLW m (par ts),.tup R],3],v10]||(gArg (gOp2 oAdd (gArg (gOp2 oMult (gArg (gOp2 oIx (zaa 1) (gArg (gC (.int 1))))) (gArg (gC (.int 48271))))) (zaa 5)))|[#v[kdW m r,6],#v[(N:Nat),0],#v[(m:Nat),0],#v[R,2],v4,v5,none]|(gCns (gArg (gOp1 oNeg #v[1])) gA0)|(Obj.mapSeq λ_=>(#[]:Array Value))|[some (st',true),some (.int (m:Nat),false),some (.int (most:Nat),false),some (.lst ((zab m most).map tmW),false)]|[#v[(m:Nat),0],v1,v2,#v[bLW m g,6],v4,#v[(R.map rowW),2],v6,#v[(CH.map tmW),2],#v[tmW T,6],#v[X,2],#v[(y:Nat),0]]|[some #v[7,7],#v[[.int a0,.int 0,.int 0],2],v2,v3,none,none]|[some (st,true),some (.int (m:Nat),false),some (.int (most:Nat),false),some (.lst ((zab m most).map tmW),true)]|[#v[(m:Nat),0],#v[Z,6],#v[tmW T,6],#v[(zac (al T)),2],none]|(gSeq (za9 1 (gC (.int 0)) (gOp2 oAdd (gArg (gOp2 oIx (zaa 1) (gArg (gC (.int 0))))) (gArg (gOp2 oMult (gArg (gOp2 (oI (λ_ j=>decide (0<j)) λi j=>.int (i%j)) (gArg (gOpN oAbs (gCns (zaa 3) gA0))) #v[9,7])) (zaa 2))))) (gSet [] 2 (gOp2 oMult (zaa 2) #v[9,7])))|(oI (λ_ j=>decide (0<j)) λi j=>.int (i%j))|(seqObj \"list\" vs.toArray 0)|[some #v[4,9],some (.lst [.int a0,.int 0,.int 0],true),some (.int wt,false),some (.int n,false),none,none]|(gAug [] #v[2,9] 0 (gArg (gOp2 #v[0,0,0] (zaa 0) #v[1])))|(zbb X (ncOf scope) scope cl C s3 H3 fp)|(s.heap.push #v[5,9])||(gCns #v[2,4] gA0)||[some (.lst (R.map rowW),false),some (.int s,false)]|(gArg (gOp2 #v[0,0,1] #v[1] (zaa 0)))||(gArg (gOpN oMax (gCns #v[3] (gCns (gArg (gOpN oMin (gCns #v[8] (gCns #v[8,8] gA0)))) gA0))))|[#v[st,5],v1,v2,#v[bLW m g,5],#v[(zac R),2],v5,v6]|[.int (m:Nat),.int (N:Nat),.lst ((((votL m r).take i).map (rowD m ts N)).map rowW),tmW T]|[#v[st1,5],#v[n,0],#v[way,0],#v[[],2],none,none]|[#v[(m:Nat),0],v1,v2,some (bLW m g,b3),v4,v5,v6,some (.lst (CH.map tmW),b7),v8,v9,v10]||[#v[(m:Nat),0],#v[Z,6],#v[tmW T,6],some (.lst (zac (al T)),b),#v[(zac (oth m T)),1]]|(oI cPow λi j=>.int (i^j.toNat))|(gCns #v[2,4] (gCns #v[3,4] gA0))|[#v[(m:Nat),0],v1,v2,#v[bLW m g,6],v4,v5,v6,some (.lst (CH.map tmW),b7),v8,v9,v10]|[v0,some (tmW t,false),some (.int n,false)]|[#v[st',5],#v[n,0],#v[way,0],#v[(xs.map W.int),2],#v[(0+(i:Nat)),0],#v[one,0]]|(gArg (gOp2 oIx (zaa 0) #v[2]))|(gArg (gOp2 oIx (zaa 0) #v[0]))|(oI yes2 λi j=>.int (Builtin.bitXor i j))|[#v[st2,5],v1,v2,#v[bLW m g,5],#v[(zac (R.eraseIdx q)),2],v5,#v[(x:Nat),0]]|[some #v[4,9],some (.lst [.int 0,.int 0,.int 0],true),none,none,none,none]|[#v[(m:Nat),0],#v[(N:Nat),0],#v[tmW T,6],#v[(S:Nat),0],#v[(l:Nat),0],none]|[#v[st',5],#v[bLW m f,6],#v[(c:Nat),0],#v[bLW m g,5],#v[(zac R),2],v5,v6]|[some (st2,true),some (.int n,false),some (.int 3,false),none,none,none]|[some (st1,true),some (.int n,false),some (.int 3,false),none,none,none]|[#v[(wordOf (tab n f)),0],#v[(p:Nat),0]]|[#v[x,6],#v[[.int 0],2],none]|[#v[(m:Nat),0],#v[(N:Nat),0],#v[(R.map rowW),1],#v[tmW T,6],none,none]|(gArg (gC (.int 2305843009213693951)))|(gArg (gOpN oLen (gCns (zaa 9) gA0)))|(gArg (gOpN oLen (gCns (zaa 4) gA0)))|[#v[(wordOf xs),0],#v[h,0]]|[.int i,.int j]||(seqObj \"list\" #[] e1)||[some (.int (m:Nat),false),some (.tup (ts.map tmW),false),none]|[#v[[.int (m:Nat),.int (t:Nat)],3],#v[(m:Nat),0],#v[(t:Nat),0]]|[#v[(xs.map W.int),1],#v[0,0],none]|(.bl (decide (i=j)),false)|(gApp 2 (gCall [false,false,false] (Ψ \"stepped\") #v[8,11]))|(gCns #v[1,4] gA0)|(gCns #v[0,4] gA0)|[.int (m:Nat),.lst ((tab (2^m) (bI f)).map W.int),tmW T]|(gOp2 oAdd (gArg (gOp2 oMult #v[2] (zaa 1))) (zaa 2))|(gCns #v[1,4] #v[8,14])|[.int (m:Nat),.int (N:Nat),.lst (R.map rowW),tmW T]|[.int i,.int j,.int c]|[.int (m:Nat),.lst ((chsn ts (votL m r)).map tmW)]|[v0,some (tmW t,false),some (.int (p:Nat),false)]|[.int m,.int (wordOf (tab (2^m.toNat) f)),.int j]|[#v[(zac M),3],#v[0,0],none]|[#v[(zac M),1],#v[0,0],none]|(gCns (zaa 3) gA0)|(gCns (zaa 2) gA0)|(gCns (zaa 0) gA0)|(oI cMul λi j=>.int (i*j))|(gCns (zaa 0) (gCns (gArg (gC (.int 2))) gA0))|(gCns (gArg (zbr gA0)) gA0)||(gOpN oMin (gCns (zaa 2) (gCns #v[3,9] gA0)))|(gArg (gOpN oSum (gCns (gArg (zb3 Ψ)) gA0)))|(gOp2 oEq (zaa 0) (zaa 1))|(gAug [] #v[8,12] 1 #v[1])|[.int a,.int a]|[.int (m:Nat),.int (r:Nat),bLW m N.testBit]|[none,none,some 3,some 1]|[W.int (c:Nat),.int (c:Nat),.int (q1:Nat)]|(gSet [] 1 (gC (.int 0)))|(oI yes2 λi j=>.int (Builtin.bitOr i j))|(gOp2 oAdd (zaa 1) (gArg (zbr #v[8,14])))|[v0,#v[tmW t,6],#v[n,0]]|(gOp2 oNe (zaa 0) #v[0])|(gCns (gArg (gOp1 oNeg #v[1])) #v[3,13])|[.int a0,.int b,.int 0]|[.int (wordOf (tab n f)),.int (p:Nat)]|(gRet (gC (.bl false)))|(gCns (zaa 1) gA0)|(gCns #v[8,4] gA0)|(gCns #v[2,4] #v[9,10])|(gCns #v[1,4] #v[3,13])" (<-a.raw.isNatLit?) (<-b.raw.isNatLit?):Option _).elim Macro.throwUnsupported pure
set_option hygiene false
local macro_rules | `(tactic| nofun) => `(tactic| refine L2.aG fun _ qG=>?_)
local macro_rules | `(tactic| ac_rfl) => `(tactic| (refine qG ?_;clear qG))
local macro_rules | `(#v[$x]) => `((gArg (gC (.int $x))))
local macro_rules | `(#v[$x,0]) => `(some (.int $x,false))
local macro_rules | `(#v[$x,1]) => `(some (.lst $x,false))
local macro_rules | `(#v[$x,2]) => `(some (.lst $x,true))
local macro_rules | `(#v[$x,3]) => `(some (.tup $x,false))
local macro_rules | `(#v[$x,4]) => `((gArg (gVar $x)))
local macro_rules | `(#v[$x,5]) => `(some ($x,true))
local macro_rules | `(#v[$x,6]) => `(some ($x,false))
local macro_rules | `(#v[0,0,0]) => `((oI yes2 fun i j=>.int (i - j)))
local macro_rules | `(#v[0,0,1]) => `((oI cPow fun i j=>.int (i * 2 ^ j.toNat)))
local macro_rules | `(#v[0,0,2]) => `((oI (fun _ j=>decide (0 < j)) fun i j=>.int (i % j)))
local macro_rules | `(#v[0,0,3]) => `((oI cDiv fun i j=>.int (i / j)))
local macro_rules | `(#v[]) => `((by omega))
local macro_rules | `(#v[0,0,5]) => `(⟨by kernel_rfl,by kernel_rfl,by kernel_rfl,by decide +kernel,rfl,by decide +kernel,by decide +kernel⟩)
local macro_rules | `(#v[0,9]) => `((by decide))
local macro_rules | `(#v[0,0,7]) => `((by decide +kernel))
local macro_rules | `(tactic| omega) => `(tactic| first | lia | omega +splitDisjunctions)

set_option hygiene true
namespace L2
open PySem PySem.Spec PyProof.Rows
noncomputable abbrev Key:=Sum Int Str
noncomputable def yay:Key->Ze->Bool
 |.inl k,v=>Ze.isInt k v
 |.inr x,v=>Ze.isStrOf x v
noncomputable def keyH (w:World):Key->Int
 |.inl k=>hashInt k
 |.inr x=>hashStr w x
theorem keyIs_shape:∀{k:Key}{v:Ze},yay k v=Zd->(∃i t,k=Sum.inl i/\v=Ze.int i t)\/(∃x t,k=Sum.inr x/\v=Ze.str x t)
 | .inl i,v,h=>by
  obtain⟨t,e⟩:=Ze.isInt_shape (k:=i) (v:=v) h;exact .inl ⟨i,t,rfl,e⟩
 | .inr x,v,h=>by
  obtain⟨t,e⟩:=Ze.isStrOf_shape (x:=x) (v:=v) h;exact .inr ⟨x,t,rfl,e⟩
theorem ybo (a b:Int):decide ((Sum.inl a:Key)=Sum.inl b)=(a==b):=by
 by_cases e:a=b
 ·subst e;simp
 ·have h : ¬ (Sum.inl a:Key)=Sum.inl b:=λq=>e (Sum.inl.inj q);rw[Ao h];exact (Fu.mpr e).symm
theorem z8m (a b:Str):decide ((Sum.inr a:Key)=Sum.inr b)=decide (a=b):=by
 by_cases e:a=b
 ·subst e;simp
 ·have h : ¬ (Sum.inr a:Key)=Sum.inr b:=λq=>e (Sum.inr.inj q);rw[Ao h,Ao e]
theorem yax (a:Int)(b:Str):decide ((Sum.inl a:Key)=Sum.inr b)=Zc:=Ao (λq=>nomatch q)
theorem yag (a:Str)(b:Int):decide ((Sum.inr a:Key)=Sum.inl b)=Zc:=Ao (λq=>nomatch q)
noncomputable def zxh (prog:Program) (w:World):PySem.KeyKind prog w Key where
 is:=yay
 hash:=keyH w
 inj:=λv a b g d=>by
  rcases keyIs_shape g with⟨i,t,rfl,rfl⟩|⟨x,t,rfl,rfl⟩
  ·rcases keyIs_shape d with⟨j,u,rfl,e⟩|⟨y,u,rfl,e⟩
   ·injection e with e1 _;rw[e1]
   ·exact nomatch e
  ·rcases keyIs_shape d with⟨j,u,rfl,e⟩|⟨y,u,rfl,e⟩
   ·exact nomatch e
   ·injection e with e1 _;rw[e1]
 byValue:=λk v h=>by
  rcases keyIs_shape h with⟨i,t,rfl,rfl⟩|⟨x,t,rfl,rfl⟩<;>rfl
 pyHash:=λc h=>by
  rcases keyIs_shape c with⟨i,t,rfl,rfl⟩|⟨x,t,rfl,rfl⟩
  ·exact wpAny_pyHash_int h
  ·exact wpAny_pyHash_str h
 eqBool:=λf c h=>by
  rcases keyIs_shape f with⟨i,t,rfl,rfl⟩|⟨x,t,rfl,rfl⟩
  ·rcases keyIs_shape c with⟨j,u,rfl,rfl⟩|⟨y,u,rfl,rfl⟩
   ·rw[ybo] at h;exact wpAny_eqBool_int h
   ·rw[yax] at h;exact SeqAt.EqAt.int_str i t y u _ _ _ _ h
  ·rcases keyIs_shape c with⟨j,u,rfl,rfl⟩|⟨y,u,rfl,rfl⟩
   ·rw[yag] at h;exact SeqAt.EqAt.str_int x t j u _ _ _ _ h
   ·rw[z8m] at h;exact wpAny_eqBool_str h
 «strs»:=λk x t v h=>by
  rcases keyIs_shape h with⟨i,u,rfl,e⟩|⟨y,u,rfl,e⟩
  ·exact nomatch e
  ·injection e with e1 _;subst e1;cases v<;>rfl
inductive V where
 |non|bl (b:Bool)|int (i:Int)|str (x:Str)|byt (b:Array UInt8)|flt (b:UInt64)|ref (a:Zh)|ty (n:String)
 deriving DecidableEq
noncomputable def RelV:V->Ze->Prop
 |.non,u=>u=Ze.none
 |.bl b,u=>u=Ze.bool b
 |.int i,u=>∃t,u=Ze.int i t
 |.str x,u=>∃t,u=Ze.str x t
 |.byt b,u=>∃t,u=Ze.bytes b t
 |.flt b,u=>∃t,u=Ze.float b t
 |.ref a,u=>u=Ze.ref a
 |.ty n,u=>u=Ze.type n
noncomputable abbrev Vals:List V->List Ze->Prop:=Paired RelV
theorem Vals.length {xs:List V}{u:List Ze}(r:Vals xs u):xs.length=u.length:=Paired.length r
theorem Vals.get:∀{b:List V}{a:List Ze}{i:Nat}{x:V},Vals b a->b[i]?=Za x->∃u,a[i]?=Za u/\RelV x u
 |_,_,_,_,.nil,e=>by simp at e
 |_,_,0,_,.cons r _,e=>by simp at e;subst e;exact⟨_,rfl,r⟩
 | _,_,i+1,x,.cons _ t,e=>by
  obtain⟨u,c,h⟩:=Vals.get (i:=i) (x:=x) t (by simpa using e);exact⟨u,by simpa using c,h⟩
theorem Vals.set {x:V}{u:Ze}(r:RelV x u):∀{b:List V}{a:List Ze} (i:Nat),Vals b a->Vals (b.set i x) (a.set i u)
 |_,_,_,.nil=>.nil
 |_,_,0,.cons _ t=>.cons r t
 |_,_,i+1,.cons q t=>.cons q (Vals.set r i t)
theorem Vals.append:∀{x y:List V}{u w:List Ze},Vals x u->Vals y w->Vals (x++y) (u++w)
 |_,_,_,_,.nil,s=>s
 |_,_,_,_,.cons r t,s=>.cons r (Vals.append t s)
theorem Vals.take:∀{x:List V}{u:List Ze} (n:Nat),Vals x u->Vals (x.take n) (u.take n)
 |_,_,0,_=>.nil
 |_,_,_+1,.nil=>.nil
 |_,_,n+1,.cons r t=>.cons r (Vals.take n t)
theorem Vals.drop:∀{x:List V}{u:List Ze} (n:Nat),Vals x u->Vals (x.drop n) (u.drop n)
 |_,_,0,r=>r
 |_,_,_+1,.nil=>.nil
 |_,_,n+1,.cons _ t=>Vals.drop n t
noncomputable def RelO:Option V->Option Ze->Prop
 |some v,Za u=>RelV v u
 |none,Zb=>True
 |_,_=>False
noncomputable def KV {κ:Type}:List (κ×V)->List (κ×Ze)->Prop:=Paired λ(p:κ×V) (q:κ×Ze)=>p.1=q.1/\RelV p.2 q.2
noncomputable def kV:Key->V
 |.inl i=>.int i
 |.inr x=>.str x
inductive HO where
 /-- a list -/
 |lst (xs:List V)
 /-- a tuple (never changes) -/
 |tup (xs:List V)
 /-- a dict whose keys are ints and texts;one whose keys are tuples of ints and texts (the empty one is both) -/
 |dK (kvs:List (Key×V))|dT (kvs:List (List Key×V))
 /-- a set of ints: its members,its size -/
 |set (S:Int->Bool) (n:Nat)
 /-- an instance of the class at C,its dict at dx,its attributes -/
 |ins (C dx:Zh) (fs:List (Str×V))
 /-- the dict of the instance at x -/
 |own (x:Zh)
 /-- the dict of an exception -/
 |xd (fs:List (Str×V))
 /-- a bound method,f of x -/
 |met (f x:Zh)
 /-- a range object lo,lo+1,.. below hi -/
 |rng (lo hi:Int)
 /-- a thing that is known to the object (the script;a dict while a loop walks it): read,never written while it is so -/
 |frz (o:Obj) (u:HO)
 /-- a code object's table -/
 |tbl (ps:Array Ze)
 /-- any other thing,by what is Zd of its one object (a def of one's own: SetO a S n:=HO.ext λh=>..) -/
 |ext (φ:Heap->Prop)
noncomputable abbrev Hp:=Zh->Option HO
noncomputable def upd (H:Hp) (a:Zh) (o:HO):Hp:=λb=>if b=a then Za o else H b
theorem upd_same {H:Hp}{a:Zh}{o:HO}:upd H a o a=Za o:=by unfold upd;rw[if_pos rfl]
theorem upd_ne {H:Hp}{a b:Zh}{o:HO}(h:b≠a):upd H a o b=H b:=by unfold upd;rw[if_neg h]
theorem zae {H:Hp}{a b:Zh}{o:HO}(h:H a=Za o)(h':H b=Zb):a≠b:=by
 intro e;subst e;rw[h] at h';cases h'
noncomputable def zlw (h:Heap) (a:Zh) (items:Array Ze):Prop:=∃o,h.get? a=Za o/\(o.cls=.type "tuple"/\∃n,o.data=.seq items n)/\o.dict=Zb
theorem zlw.t {h:Heap}{a:Zh}{items:Array Ze}(x:zlw h a items):IsTup h a items:=let ⟨o,e,r,_⟩:=x;⟨o,e,r⟩
theorem zlw.new (h:Heap)(items:Array Ze):zlw (h.push { cls:=.type "tuple",data:=.seq items }) h.objs.size items:=⟨_,Aq _ rfl,⟨rfl,_,rfl⟩,rfl⟩
section
variable (P:Program) (w:World)
noncomputable def zbp (H:Hp) (h:Heap) (a:Zh):HO->Prop
 |.lst b=>b.length<=sizeLine/\∃(i:List Ze) (n:Nat),Vals b i/\h.get? a=Za { cls:=.type "list",data:=.seq i.toArray n }
 |.tup b=>b.length<=sizeLine/\∃i:List Ze,Vals b i/\zlw h a i.toArray
 |.dK kvs=>kvs.length<=sizeLine/\(a==sysModules)=Zc/\∃j,KV kvs j/\h.DictOf (zxh P w) a j
 | .dT kvs=>kvs.length<=sizeLine/\(a==sysModules)=Zc/\∃b:List (List Key×Zh×Ze),
  Paired (λ(p:List Key×V) (q:List Key×Zh×Ze)=>p.1=q.1/\H q.2.1=Za (.tup (p.1.map kV))/\RelV p.2 q.2.2) kvs b /\
  ∃o g r,h.get? a=Za o/\o.ExactDict/\o.data=.dict g r/\g.toList=b.map (entryOfKey (tupleKind (zxh P w)))/\(b.map (·.1)).Nodup
 |.set S n=>h.SetOf (intKind P w) a S n
 | .ins C d fs=>H d=Za (.own a)/\fs.length<=1000/\d≠a/\h.get? a=Za (PySem.W.instObj C d) /\
  ∃mA,h.Ns1 d mA/\(∀f,RelO (fs.lookup f) (mA f))/\PySem.Within mA (fs.map (·.1))
 |.own _=>∃o,h.get? a=Za o
 |.xd fs=>∃mA,h.Ns1 a mA/\∀f,RelO (fs.lookup f) (mA f)
 |.rng m k=>∃t u v,h.get? a=Za { cls:=.type "range",data:=.fields #[.int m t,.int k u,.int 1 v] }
 |.frz o u=>h.get? a=Za o/\zbp H h a u
 |.tbl l=>h.get? a=Za { cls:=.none,data:=.fields l }
 |.met f x=>h.get? a=Za (PySem.W.methodObj (.ref f) (.ref x))
 |.ext φ=>φ h/\(∃o,h.get? a=Za o)/\∀e c:Heap,φ e->(∀o,e.get? a=Za o->c.get? a=Za o)->φ c
noncomputable def HOk (H:Hp) (h:Heap):Prop:=∀a o,H a=Za o->zbp P w H h a o
end
section
variable {P:Program}{w:World}{H H' : Hp}{h h' : Heap}{a:Zh}{o:HO}
theorem zbp.lt (x:zbp P w H h a o):a<h.objs.size:=by
 cases o with
 |lst b=>obtain⟨_,_,_,_,e⟩:=x;exact Ar e
 |tup b=>obtain⟨_,_,_,p⟩:=x;exact p.t.lt
 |dK kvs=>obtain⟨_,_,_,_,o,_,_,e,_⟩:=x;exact Ar e
 |dT kvs=>obtain⟨_,_,_,_,o,_,_,e,_⟩:=x;exact Ar e
 |set S n=>obtain⟨o,_,_,_,e,_⟩:=x;exact Ar e
 |ins C i fs=>obtain⟨_,_,_,e,_⟩:=x;exact Ar e
 |own y=>obtain⟨_,e⟩:=x;exact Ar e
 |xd fs=>obtain⟨_,⟨_,_,_,e,_⟩,_⟩:=x;exact Ar e
 |rng l c=>obtain⟨_,_,_,e⟩:=x;exact Ar e
 |frz g u=>obtain⟨e,_⟩:=x;exact Ar e
 |tbl d=>exact Ar (show h.get? a=Za _ from x)
 |met f y=>exact Ar (show h.get? a=Za _ from x)
 |ext φ=>obtain⟨_,⟨_,e⟩,_⟩:=x;exact Ar e
theorem Paired.mapP {α β:Type}{F G:α->β->Prop}:∀{l:List α}{c:List β},Paired F l c->(∀a b,F a b->G a b)->Paired G l c
 |_,_,.nil,_=>.nil
 |_,_,.cons r t,f=>.cons (f _ _ r) (Paired.mapP t f)
theorem zbp.stay (x:zbp P w H h a o) (k:∀b u,(b=a\/H b=Za (.own a))->h.get? b=Za u->h'.get? b=Za u)
  (G:∀b,H b=Za (.own a)->H' b=Za (.own a)) (E:∀b m,H b=Za (.tup m)->H' b=Za (.tup m)):zbp P w H' h' a o:=by
 induction o with
 |lst m=>obtain⟨z,l,n,r,e⟩:=x;exact⟨z,l,n,r,k _ _ (.inl rfl) e⟩
 |tup m=>obtain⟨z,l,r,g,e,c⟩:=x;exact⟨z,l,r,g,k _ _ (.inl rfl) e,c⟩
 |dK kvs=>obtain⟨z,y,D,r,g,j,i,e,c⟩:=x;exact⟨z,y,D,r,g,j,i,k _ _ (.inl rfl) e,c⟩
 | dT kvs =>
  obtain⟨z,y,m,r,g,j,i,e,c⟩:=x;exact⟨z,y,m,Paired.mapP r λp q z=>⟨z.1,E _ _ z.2.1,z.2.2⟩,g,j,i,k _ _ (.inl rfl) e,c⟩
 |set S n=>obtain⟨g,j,i,t,e,c⟩:=x;exact⟨g,j,i,t,k _ _ (.inl rfl) e,c⟩
 | ins C L fs =>
  obtain⟨d,z,ne,e,mA,⟨s,j,i,F,c⟩,r⟩:=x;exact⟨G _ d,z,ne,k _ _ (.inl rfl) e,mA,⟨s,j,i,k _ _ (.inr d) F,c⟩,r⟩
 |own y=>obtain⟨g,e⟩:=x;exact⟨g,k _ _ (.inl rfl) e⟩
 |xd fs=>obtain⟨mA,⟨s,j,i,e,c⟩,r⟩:=x;exact⟨mA,⟨s,j,i,k _ _ (.inl rfl) e,c⟩,r⟩
 |rng K J=>obtain⟨t,u,v,e⟩:=x;exact⟨t,u,v,k _ _ (.inl rfl) e⟩
 |frz g u I=>obtain⟨e,q⟩:=x;exact⟨k _ _ (.inl rfl) e,I q⟩
 | tbl A =>
  have e:h.get? a=Za { cls:=.none,data:=.fields A }:=x;show h'.get? a=Za { cls:=.none,data:=.fields A };exact k a _ (.inl rfl) e
 | met f y =>
  have e:h.get? a=Za (PySem.W.methodObj (.ref f) (.ref y)):=x;show h'.get? a=Za (PySem.W.methodObj (.ref f) (.ref y));exact k a _ (.inl rfl) e
 |ext φ=>obtain⟨p,⟨o,e⟩,B⟩:=x;exact⟨B _ _ p λo q=>k _ _ (.inl rfl) q,⟨o,k _ _ (.inl rfl) e⟩,B⟩
theorem HOk.lt (x:HOk P w H h)(e:H a=Za o):a<h.objs.size:=(x a o e).lt
theorem HOk.fresh (x:HOk P w H h)(e:h.objs.size<=a):H a=Zb:=by
 cases q:H a with
 |none=>rfl
 |some u=>exact absurd (Bd (x.lt q) e) (Bx _)
theorem HOk.kept (x:HOk P w H h)(k:∀b u,h.get? b=Za u->h'.get? b=Za u):HOk P w H h':=λa o e =>
 (x a o e).stay (λb u _ q=>k b u q) (λ_ q=>q) λ_ _ q=>q
theorem HOk.laid (x:HOk P w H h)(k:∀b u,h.get? b=Za u->h'.get? b=Za u)(g:h.objs.size<=a)(new:zbp P w (upd H a o) h' a o):HOk P w (upd H a o) h':=λb u e=>by
 have f:=x.fresh g;by_cases d:b=a
 ·subst d;rw[upd_same] at e;obtain rfl:=sI e;exact new
 ·rw[upd_ne d] at e;exact (x b u e).stay (λc v _ q=>k c v q) (λc q=>by rw[upd_ne (zae q f)];exact q) λc i q=>by rw[upd_ne (zae q f)];exact q
end
noncomputable def Rd (H:Hp) (a:Zh) (u:HO):Prop:=H a=Za u\/∃o,H a=Za (.frz o u)
theorem Rd.ok {P:Program}{w:World}{H:Hp}{h:Heap}{a:Zh}{u:HO}(r:Rd H a u)(x:HOk P w H h):zbp P w H h a u:=by
 rcases r with r|⟨o,r⟩
 ·exact x a u r
 ·obtain⟨_,q⟩:=x a _ r;exact q
noncomputable def Mut:Option HO->Prop
 |some (.lst _)=>True
 |some (.dK _)=>True
 |some (.dT _)=>True
 |some (.set _ _)=>True
 |some (.ins _ _ _)=>True
 |some (.ext _)=>True
 |_=>False
section
variable {P:Program}{w:World}{H:Hp}{h h' : Heap}{x e:Zh}{o' : HO}
theorem HOk.write (ok:HOk P w H h) (m:Mut (H x)) (l:e=x\/H e=Za (.own x)) (k:∀b u,b≠e->h.get? b=Za u->h'.get? b=Za u) (j:∃u,h'.get? e=Za u)
  (new:zbp P w (upd H x o') h' x o'):HOk P w (upd H x o') h':=λb u q=>by
 have n:∀c y,H c=Za (.own y)->c≠x:=λc y r z=>by subst z;rw[r] at m;exact m
 have d:∀c f,H c=Za (.tup f)->c≠x:=λc f r z=>by subst z;rw[r] at m;exact m
 by_cases i:b=x
 ·subst i;rw[upd_same] at q;obtain rfl:=sI q;exact new
 ·rw[upd_ne i] at q;by_cases a:b=e
  ·have o:H b=Za (.own x):=by
    rcases l with z|z
    ·exact absurd (a.trans z) i
    ·rw[a];exact z
   rw[q] at o;obtain rfl:=sI o;obtain⟨v,p⟩:=j;exact⟨v,by rw[a];exact p⟩
  ·refine (ok b u q).stay (λc v g r=>k c v ?_ r) (λc r=>by rw[upd_ne (n c b r)];exact r) λc f r=>by rw[upd_ne (d c f r)];exact r
   rcases g with rfl|g
   ·exact a
   ·rintro rfl;rcases l with z|z
    ·exact n c b g z
    ·rw[g] at z;cases z;exact i rfl
end
structure Un (fs ex:List Zh) (H H':Hp) (h h':Heap):Prop where
 keep:∀b o,h.get? b=Za o->H b=Zb->b ∉ fs->b ∉ ex->h'.get? b=Za o
 slot:∀b o,h.get? b=Za o->H b=Zb->b∈fs->b ∉ ex->∃sl,h'.get? b=Za { o with slots:=sl }
 free:∀b o,h.get? b=Za o->H b=Zb->b ∉ ex->H' b=Zb
 there:∀b o,h.get? b=Za o->b ∉ ex->∃o',h'.get? b=Za o'
 tups:∀b xs,H b=Za (.tup xs)->H' b=Za (.tup xs)
 frzs:∀b o u,H b=Za (.frz o u)->H' b=Za (.frz o u)
 tbls:∀b ps,H b=Za (.tbl ps)->∃more,H' b=Za (.tbl (ps++more))
section
variable {fs fs' ex ex' : List Zh}{H H1 H2:Hp}{h h1 h2 h' : Heap}{a x e:Zh}{o:HO}
theorem Un.any (u:Un fs ex H H1 h h1){b:Zh}{o:Obj}(q:h.get? b=Za o)(n:H b=Zb)(c:b ∉ ex):∃s,h1.get? b=Za { o with slots:=s }:=by
 by_cases a:b∈fs
 ·exact u.slot b o q n a c
 ·exact⟨o.slots,u.keep b o q n a c⟩
theorem Un.kept (k:∀b u,h.get? b=Za u->h'.get? b=Za u):Un fs ex H H h h' :=
 ⟨λb o q _ _ _=>k b o q,λb o q _ _ _=>⟨o.slots,k b o q⟩,λ_ _ _ n _=>n,λb o q _=>⟨o,k b o q⟩,λ_ _ q=>q,λ_ _ _ q=>q,λ_ p q=>⟨#[],by rw[q];simp⟩⟩
theorem Un.refl:Un fs ex H H h h:=Un.kept λ_ _ q=>q
theorem Un.laid (k:∀b u,h.get? b=Za u->h'.get? b=Za u)(d:h.objs.size<=a)(c:H a=Zb):Un fs ex H (upd H a o) h h' where
 keep:=λb u q _ _ _=>k b u q
 slot:=λb u q _ _ _=>⟨u.slots,k b u q⟩
 free:=λb u q n _=>by rw[upd_ne (Bg (Bd (Ar q) d))];exact n
 there:=λb u q _=>⟨u,k b u q⟩
 tups:=λb x q=>by rw[upd_ne (zae q c)];exact q
 frzs:=λb u x q=>by rw[upd_ne (zae q c)];exact q
 tbls:=λb p q=>⟨#[],by rw[upd_ne (zae q c),q];simp⟩
theorem Un.write (m:Mut (H x))(j:e=x\/H e=Za (.own x))(k:∀b u,b≠e->h.get? b=Za u->h'.get? b=Za u)(d:∃u,h'.get? e=Za u):Un fs ex H (upd H x o) h h':=by
 have f:∀b,H b=Zb->b≠x:=λb n z=>by subst z;rw[n] at m;exact m
 have g:∀b,H b=Zb->b≠e:=λb n z=>by
  subst z;rcases j with r|r
  ·exact f b n r
  ·rw[n] at r;cases r
 have c:∀b u,H b=Za u->¬ Mut (Za u)->b≠x:=λb u q nm z=>by subst z;rw[q] at m;exact nm m
 refine⟨λb u q n _ _=>k b u (g b n) q,λb u q n _ _=>⟨u.slots,k b u (g b n) q⟩,λb u q n _=>by rw[upd_ne (f b n)];exact n,λb u q _=>?_,
  λb i q=>by rw[upd_ne (c b _ q λz=>z)];exact q,λb u i q=>by rw[upd_ne (c b _ q λz=>z)];exact q,λb p q=>⟨#[],by rw[upd_ne (c b _ q λz=>z),q];simp⟩⟩
 by_cases a:b=e
 ·subst a;exact d
 ·exact⟨u,k b u a q⟩
end
noncomputable def trk (h:Heap) (H:Hp):List Zh:=(List.range h.objs.size).filter λa=>(H a).isSome
noncomputable def hidT (h:Heap) (H:Hp):Heap:=PySem.W.hideAll h (trk h H)
theorem zwj (h:Heap)(H:Hp):(hidT h H).objs.size=h.objs.size:=PySem.W.hideAll_size _ _
theorem z0b {h:Heap}{H:Hp}{b:Zh}{o:Obj}(e:h.get? b=Za o)(n:H b=Zb):(hidT h H).get? b=Za o :=
 PySem.W.hideAll_get _ e λa=>by
  have q:(H b).isSome=Zd:=(Bl.mp a).2;rw[n] at q;simp at q
theorem z5a {h:Heap}{H:Hp}{b:Zh}{o:Obj} (e:(hidT h H).get? b=Za o):h.get? b=Za o/\H b=Zb:=by
 have a:h.get? b=Za o:=PySem.W.of_hideAll (trk h H) e;refine⟨a,?_⟩;cases q:H b with
 |none=>rfl
 | some x =>
  have c:b∈trk h H:=Bl.mpr ⟨Bk.mpr (Ar a),by simp [q]⟩;have z:(hidT h H).get? b=Zb:=PySem.W.hideAll_none (trk h H) c;rw[z] at e;cases e
noncomputable def z61 (g h:Heap) (L:Zh):List (Zh×Obj):=(List.range h.objs.size).filterMap λa=>if a=L\/(g.get? a).isSome=Zd then Zb else (h.get? a).map λo=>(a,o)
noncomputable def rest (g h:Heap) (L d:Zh):List (Zh×Obj):=(z61 g h L).filter λp=>decide (p.1≠d)
structure Mod (K:Zg) (mg:Str->Option Ze) (base:Heap):Prop where
 kin:K.In base
 glob:base.Ns mainGlobals mg
 blt:∃mb,base.Ns builtinsNs mb/\∀x:Str,x≠"__name__" -> mb x=bootBuiltins x
 nolimit:base.NoLimit
 bmn:∃(b:Zh) (ob:Obj),mg "__builtins__" = Za (.ref b)/\b≠builtinsNs/\base.get? b=Za ob/\ob.cls=.type "module"/\ob.dict=Za builtinsNs/\ob.data=.plain
structure Cx where
 prog:Program
 w:World
 K:Zg
 mg:Str->Option Ze
 base:Heap
 A:Around
 N:List Str
 s₀:Zf
 H₀:Hp
 env:Env
 outer:List Env
 stack:List Env
 ex:List Zh
 fn:Str->Bool
 calm:Bool
 pn:List (Zh×Obj)
 xe:Ze->Zf->Prop
noncomputable def frs (l:List Env):List Zh:=l.filterMap (·.frame)
noncomputable abbrev Cx.fs (X:Cx):List Zh:=frs X.outer
noncomputable def Vis (s:Scope) (x:Str):Prop:=s.names.lookup x=Za .local\/s.names.lookup x=Za .cell\/s.names.lookup x=Za .free
noncomputable def Loc (s:Scope) (x:Str):Prop:=s.names.lookup x=Za .local\/s.names.lookup x=Za .cell
noncomputable def Look (env:Env) (h:Heap) (m:Str->Option Ze) (x:Str) (u:Ze):Prop :=
 (env.kindOf x=Za .local/\m x=Za u)\/((env.kindOf x=Za .cell\/env.kindOf x=Za .free)/\∃c,env.cells.lookup x=Za c/\h.IsCell c (Za u))
structure Cx.Ok (X:Cx):Prop where
 mod:Mod X.K X.mg X.base
 kind:X.env.scope.kind=.function
 glob:X.env.globals=mainGlobals
 blt:X.env.builtins=builtinsNs
 above:X.s₀.heap.objs.size<=X.env.locals
 inj:∀x y c,X.env.cells.lookup x=Za c->X.env.cells.lookup y=Za c->x=y
 has:∀x,(X.env.kindOf x=Za .cell\/X.env.kindOf x=Za .free)->∃c,X.env.cells.lookup x=Za c
 cab:∀x c,X.fn x=Zd->X.env.cells.lookup x=Za c->X.s₀.heap.objs.size<=c
 hd:X.calm=Zd->X.A.handled=Zb
 frames:X.A.frames=Za X.stack
 stk:X.stack=X.outer\/(X.stack=X.env::X.outer/\X.env.frame=Za X.env.locals)
 exf:∀b∈X.ex,b≠X.env.locals/\∀x c,X.env.cells.lookup x=Za c->c≠b
 bs:∀b o,X.base.get? b=Za o->X.s₀.heap.get? b=Za o/\X.H₀ b=Zb
 bsz:X.base.objs.size<=X.s₀.heap.objs.size
 noex:∀b o,X.base.get? b=Za o->b ∉ X.ex
 exfs:∀b∈X.ex,b ∉ X.fs
 funs:X.s₀.heap.FunFrames X.base X.outer
 frf:∀b∈X.fs,X.H₀ b=Zb
structure Inv (X:Cx) (pins:List (Zh×Obj)) (σ:List (Option V)) (H:Hp) (s:Zf):Prop where
 ok:X.Ok
 os:s.os=X.s₀.os
 bare:AllBare s.gens
 base:Un X.fs X.ex X.H₀ H X.s₀.heap s.heap
 loc:∃m,s.heap.Ns X.env.locals m/\∀(i:Nat) (x:Str) (v:V),X.N[i]?=Za x->σ[i]?=Za (Za v)->Vis X.env.scope x->∃u,RelV v u/\Look X.env s.heap m x u
 cell:∀x c,X.env.cells.lookup x=Za c->∃v,s.heap.IsCell c v
 free:H X.env.locals=Zb
 freeC:∀x c,X.env.cells.lookup x=Za c->H c=Zb
 pin:∀p∈X.pn++pins,s.heap.get? p.1=Za p.2/\H p.1=Zb/\p.1≠X.env.locals/\p.1 ∉ X.fs/\∀v,p.2.data≠.cell v
 hok:HOk X.prog X.w H s.heap
 len:σ.length=X.N.length
section
variable {X:Cx}{pins:List (Zh × Obj)}{σ:List (Option V)}{H H' : Hp}{s:Zf}{h' : Heap}
theorem Cx.Ok.nofr (ok:X.Ok){b:Zh}{o:Obj}(e:X.base.get? b=Za o):b ∉ X.fs:=λh=>by
 have:=(ok.funs.mem h).1;rw[e] at this;cases this
theorem Inv.bs (I:Inv X pins σ H s):∀b o,X.base.get? b=Za o->s.heap.get? b=Za o/\H b=Zb:=λb o e =>
 ⟨I.base.keep b o (I.ok.bs b o e).1 (I.ok.bs b o e).2 (I.ok.nofr e) (I.ok.noex b o e),I.base.free b o (I.ok.bs b o e).1 (I.ok.bs b o e).2 (I.ok.noex b o e)⟩
theorem Inv.bk (I:Inv X pins σ H s):∀b o,X.base.get? b=Za o->s.heap.get? b=Za o:=λb o e=>(I.bs b o e).1
theorem Inv.mod (I:Inv X pins σ H s):Mod X.K X.mg X.base:=I.ok.mod
theorem Inv.kIn (I:Inv X pins σ H s):X.K.In s.heap:=I.ok.mod.kin.keeps I.bk
theorem Inv.lt (I:Inv X pins σ H s):X.env.locals<s.heap.objs.size:=let ⟨_,h,_⟩:=I.loc;h.lt
theorem Inv.sz (I:Inv X pins σ H s):X.s₀.heap.objs.size<=s.heap.objs.size:=Bj I.ok.above (Nat.le_of_lt I.lt)
theorem Inv.nofs (I:Inv X pins σ H s){a:Zh}(h:s.heap.objs.size<=a):a ∉ X.fs:=λc=>by
 obtain⟨_,o,b,_⟩:=I.ok.funs.mem c;exact absurd (Bd (Ar b) (Bj I.sz h)) (Bx _)
theorem Inv.cne (I:Inv X pins σ H s):∀x c,X.env.cells.lookup x=Za c->c≠X.env.locals:=λx c e z=>by
 obtain⟨v,o,b,d⟩:=I.cell x c e;obtain⟨m,⟨g,f,i,h,a,_⟩,_⟩:=I.loc;rw[z,h] at b;obtain rfl:=sI b;rw[a] at d;cases d
theorem Inv.funs (I:Inv X pins σ H s):s.heap.FunFrames X.base X.outer:=by
 have all:∀(l:List Env),(∀b∈frs l,b∈X.fs)->X.s₀.heap.FunFrames X.base l->s.heap.FunFrames X.base l:=by
  intro l
  induction l with
  |nil=>intro _ _;trivial
  | cons env r n =>
   intro d i;nofun;obtain⟨g,⟨L,o,c,m,f,k⟩,j⟩:=i;ac_rfl;have a:L∈X.fs:=d L (by unfold frs;rw[Gx,c];exact Av);obtain⟨p,e⟩:=I.base.slot L o f (I.ok.frf L a) a λz=>I.ok.exfs L z a;exact⟨g,⟨L,_,c,m,e,k⟩,n (λb h=>d b (by unfold frs;rw[Gx,c];exact An _ h)) j⟩
 exact all X.outer (λ_ h=>h) I.ok.funs
theorem Inv.stack (I:Inv X pins σ H s):s.heap.FunFrames X.base X.stack:=by
 rcases I.ok.stk with e|⟨e,h⟩
 ·rw[e];exact I.funs
 ·rw[e];obtain⟨m,a,_⟩:=I.loc;refine .cons (by rw[I.ok.kind];decide) h a ?_ I.funs;exact Heap.get?_none_of_le (Bj I.ok.bsz I.ok.above)
theorem Inv.stkSub (I:Inv X pins σ H s):∀b∈frs X.stack,b∈X.env.locals::X.fs:=λb h=>by
 rcases I.ok.stk with e|⟨e,a⟩
 ·rw[e] at h;exact An _ h
 ·rw[e] at h;unfold frs at h;rw[Gx,a] at h;exact h
theorem Inv.stkFree (I:Inv X pins σ H s):∀b∈frs X.stack,H b=Zb:=λb h=>by
 rcases Ap.mp (I.stkSub b h) with e|h
 ·rw[e];exact I.free
 ·obtain⟨_,o,a,_⟩:=I.ok.funs.mem h;exact I.base.free b o a (I.ok.frf b h) λz=>I.ok.exfs b z h
theorem Inv.step {g':Array GenState}{t':Nat}{d':Drawn}{ch:List Zh} (I:Inv X pins σ H s)
  (g:∀b∈ch,(b∈X.ex\/X.s₀.heap.objs.size<=b)/\b≠X.env.locals/\(∀x c,X.env.cells.lookup x=Za c->c≠b)/\∀p∈X.pn++pins,p.1≠b)
  (keep:∀b o,b≠X.env.locals->b ∉ X.fs->b ∉ ch->s.heap.get? b=Za o->H b=Zb->h'.get? b=Za o)
  (slot:∀b o,b≠X.env.locals->b∈X.fs->b ∉ ch->s.heap.get? b=Za o->H b=Zb->∃F,h'.get? b=Za { o with slots:=F }) (free:∀b o,b ∉ ch->s.heap.get? b=Za o->H b=Zb->H' b=Zb)
  (there:∀b o,b ∉ ch->s.heap.get? b=Za o->∃D,h'.get? b=Za D)
  (tups:∀b w,H b=Za (.tup w)->H' b=Za (.tup w)) (frzs:∀b o u,H b=Za (.frz o u)->H' b=Za (.frz o u)) (tbls:∀b E,H b=Za (.tbl E)->∃more,H' b=Za (.tbl (E++more)))
  (U:∀m,s.heap.Ns X.env.locals m->h'.Ns X.env.locals m) (G:HOk X.prog X.w H' h') (P:AllBare g') :
  Inv X pins σ H' { s with heap:=h',gens:=g',drawn:=d',toks:=t' }:=by
 have C:∀b o,X.s₀.heap.get? b=Za o->b≠X.env.locals:=λb o e=>Bg (Bd (Ar e) I.ok.above);have j:∀b o,X.s₀.heap.get? b=Za o->b ∉ X.ex->b ∉ ch:=λb o e h y=>by
  rcases (g b y).1 with z|z
  ·exact h z
  ·exact absurd (Bd (Ar e) z) (Bx _)
 have a:∀x c,X.env.cells.lookup x=Za c->∀v,s.heap.IsCell c v->h'.IsCell c v:=λx c e v ⟨o,A,J⟩=>by
  have f:c ∉ ch:=λz=>(g c z).2.2.1 x c e rfl;by_cases L:c∈X.fs
  ·obtain⟨F,q⟩:=slot c o (I.cne x c e) L f A (I.freeC x c e);exact⟨_,q,J⟩
  ·exact⟨o,keep c o (I.cne x c e) L f A (I.freeC x c e),J⟩
 refine⟨I.ok,I.os,P,⟨λb o e n y h=>?_,λb o e n y h=>?_,λb o e n h=>?_,λb o e h=>?_,λb w e=>tups b w (I.base.tups b w e),λb o w e=>frzs b o w (I.base.frzs b o w e),λb E e=>?_⟩,?_,λx c e=>?_,?_,λx c e=>?_,λp M=>?_,G,I.len⟩
 ·exact keep b o (C b o e) y (j b o e h) (I.base.keep b o e n y h) (I.base.free b o e n h)
 ·obtain⟨F,t⟩:=I.base.slot b o e n y h;obtain⟨K,B⟩:=slot b _ (C b o e) y (j b o e h) t (I.base.free b o e n h);exact⟨K,B⟩
 ·obtain⟨D, t⟩:=I.base.there b o e h;exact free b D (j b o e h) t (I.base.free b o e n h)
 ·obtain⟨D, t⟩:=I.base.there b o e h;exact there b D (j b o e h) t
 ·obtain⟨R,t⟩:=I.base.tbls b E e;obtain⟨T,B⟩:=tbls b _ t;exact⟨R++T,by rw[B,Array.append_assoc]⟩
 ·obtain⟨m,S,Q⟩:=I.loc;refine⟨m,U m S,λi x v t B O=>?_⟩;obtain⟨u,r,l⟩:=Q i x v t B O;refine⟨u,r,?_⟩;rcases l with l|⟨k,c,e,z⟩
  ·exact .inl l
  ·exact .inr ⟨k,c,e,a x c e _ z⟩
 ·obtain⟨v,z⟩:=I.cell x c e;exact⟨v,a x c e v z⟩
 ·obtain⟨m,⟨o,_,_,A,_⟩,_⟩:=I.loc;exact free _ o (λz=>(g _ z).2.1 rfl) A I.free
 ·obtain⟨v,o,A,J⟩:=I.cell x c e;exact free c o (λz=>(g c z).2.2.1 x c e rfl) A (I.freeC x c e)
 ·obtain⟨e,n,ne,N,d⟩:=I.pin p M;have f:p.1 ∉ ch:=λz=>(g p.1 z).2.2.2 p M rfl;exact⟨keep p.1 p.2 ne N f e n,free p.1 p.2 f e n,ne,N,d⟩
theorem Inv.un {t':Nat}(I:Inv X pins σ H s)(u:Un X.fs [] H H' s.heap h')(f:HOk X.prog X.w H' h'):Inv X pins σ H' { s with heap:=h',toks:=t' }:=by
 obtain⟨m,⟨o,l,v,g,r⟩,_⟩:=id I.loc;obtain⟨q,k⟩:=u.any g I.free (by simp);exact I.step (g':=s.gens) (d':=s.drawn) (ch:=[]) (λ_ z=>nomatch z) (λb o _ d _ e n=>u.keep b o e n d (by simp)) (λb o _ d _ e n=>u.slot b o e n d (by simp)) (λb o _ e n=>u.free b o e n (by simp)) (λb o _ e=>u.there b o e (by simp)) u.tups u.frzs u.tbls (λp j=>by
  obtain⟨t,a,c,h,i⟩:=j;rw[g] at h;obtain rfl:=sI h;exact⟨_,a,c,k,i⟩) f I.bare
theorem Inv.call {g':Array GenState}{t':Nat}{d':Drawn}{ch:List Zh} (I:Inv X pins σ H s) (u:Un (frs X.stack) ch H H' s.heap h') (g:HOk X.prog X.w H' h') (t:AllBare g')
  (d:∀b∈ch,(b∈X.ex\/X.s₀.heap.objs.size<=b)/\b≠X.env.locals/\(∀x c,X.env.cells.lookup x=Za c->c≠b)/\∀p∈X.pn++pins,p.1≠b) :
  Inv X pins σ H' { s with heap:=h',gens:=g',drawn:=d',toks:=t' }:=by
 obtain⟨m,⟨o,A,y,k,r⟩,_⟩:=id I.loc;obtain⟨w,j⟩:=u.any k I.free λz=>(d _ z).2.1 rfl;exact I.step (ch:=ch) d (λb o j v h e n=>u.keep b o e n (λz=>(Ap.mp (I.stkSub b z)).elim j v) h) (λb o _ _ h e n=>u.any e n h) (λb o h e n=>u.free b o e n h) (λb o h e=>u.there b o e h) u.tups u.frzs u.tbls (λB q=>by
  obtain⟨C,f,i,a,l⟩:=q;rw[k] at a;obtain rfl:=sI a;exact⟨_,f,i,j,l⟩) g t
theorem Inv.turned {t':Nat}{it:Zh} (I:Inv X pins σ H s) (k:∀b o,b≠it->s.heap.get? b=Za o->h'.get? b=Za o) (A:H it=Zb) (d:it≠X.env.locals)
  (i:it∈X.ex\/X.s₀.heap.objs.size<=it) (g:∀x c,X.env.cells.lookup x=Za c->c≠it) (y:∀p∈X.pn++pins,p.1≠it):Inv X pins σ H { s with heap:=h',toks:=t' }:=by
 have a:∀b u,H b=Za u->b≠it:=λb u e z=>by rw[z,A] at e;cases e
 refine I.step (g':=s.gens) (d':=s.drawn) (ch:=[it]) (λb t=>?_) (λb o _ _ h e _=>k b o (λz=>h (by simp [z])) e) (λb o _ _ h e _=>⟨o.slots,k b o (λz=>h (by simp [z])) e⟩) (λ_ _ _ _ n=>n)
  (λb o h e=>⟨o,k b o (λz=>h (by simp [z])) e⟩) (λ_ _ e=>e) (λ_ _ _ e=>e) (λb B e=>⟨#[],by rw[e];simp⟩) (λm j=>?_) (λb u e=>?_) I.bare
 ·have e:b=it:=by simpa using t
  subst e;exact⟨i,d,g,y⟩
 ·obtain⟨o,l,w,f,r⟩:=j;exact⟨o,l,w,k _ o (Ne.symm d) f,r⟩
 ·refine (I.hok b u e).stay (λc v h q=>k c v ?_ q) (λ_ q=>q) λ_ _ q=>q;rcases h with z|z
  ·rw[z];exact a b u e
  ·exact a c _ z
theorem Inv.tok (I:Inv X pins σ H s)(t:Nat):Inv X pins σ H { s with toks:=t }:=I.un (h':=s.heap) (t':=t) Un.refl I.hok
theorem Inv.kept {t':Nat}(I:Inv X pins σ H s)(k:∀b u,s.heap.get? b=Za u->h'.get? b=Za u):Inv X pins σ H { s with heap:=h',toks:=t' }:=I.un (Un.kept k) (I.hok.kept k)
theorem Inv.laid {a:Zh}{o:HO}{t':Nat} (I:Inv X pins σ H s) (k:∀b u,s.heap.get? b=Za u->h'.get? b=Za u) (h:s.heap.objs.size<=a) (new:zbp X.prog X.w (upd H a o) h' a o) :
 Inv X pins σ (upd H a o) { s with heap:=h',toks:=t' }:=I.un (Un.laid k h (I.hok.fresh h)) (I.hok.laid k h new)
theorem Inv.write {x e:Zh}{o:HO}{t':Nat} (I:Inv X pins σ H s) (m:Mut (H x)) (a:e=x\/H e=Za (.own x)) (k:∀b u,b≠e->s.heap.get? b=Za u->h'.get? b=Za u) (h:∃u,h'.get? e=Za u)
 (new:zbp X.prog X.w (upd H x o) h' x o):Inv X pins σ (upd H x o) { s with heap:=h',toks:=t' }:=I.un (Un.write m a k h) (I.hok.write m a k h new)
theorem Inv.pins_of {pins':List (Zh×Obj)}(I:Inv X pins σ H s)(h:∀p∈pins',s.heap.get? p.1=Za p.2/\H p.1=Zb/\p.1≠X.env.locals/\p.1 ∉ X.fs/\∀v,p.2.data≠.cell v):Inv X pins' σ H s :=
 ⟨I.ok,I.os,I.bare,I.base,I.loc,I.cell,I.free,I.freeC,λp a=>(Cc.mp a).elim (λz=>I.pin p (Gn _ z)) (h p),I.hok,I.len⟩
theorem zp7 {N:List Str}(h:N.Nodup){i j:Nat}{x:Str}(a:N[i]?=Za x)(b:N[j]?=Za x):i=j:=by
 obtain⟨f,c⟩:=Af.mp a;obtain⟨d,e⟩:=Af.mp b;exact (List.getElem_inj h).mp (c.trans e.symm)
theorem znb {M:Model}{A:Around}{E:Ze->Zf->Prop}{i:Nat}{x:Str}{v:V}{u:Ze}{Q:Unit->Zf->Prop} (I:Inv X pins σ H s) (hN:X.N.Nodup) (N:X.N[i]?=Za x) (w:Loc X.env.scope x) (r:RelV v u)
  (h:∀s',Inv X pins (σ.set i (Za v)) H s'->(∃a,Heap.SameBut a s.heap s'.heap/\(a=X.env.locals\/X.env.cells.lookup x=Za a))->Q () s') (hf:X.fn x=Zd\/X.env.scope.names.lookup x=Za .local:=by first|exact .inl rfl|exact .inr rfl|assumption):wpAny M A (storeName X.env x u) Q E s:=by
 obtain⟨m,hn,hl⟩:=id I.loc;have O:(X.env.scope.kind == .class || (X.env.scope.kind == .module && X.env.locals != X.env.globals))=Zc:=by rw[I.ok.kind];rfl
 have F:i<σ.length:=by rw[I.len];exact (Af.mp N).1
 have cne:=I.cne;have t:∀{a:Zh}{h' : Heap},(∃o,s.heap.get? a=Za o/\H a=Zb)->Heap.SameBut a s.heap h'->HOk X.prog X.w H h':=λ{a h'} ha f b ob e=>by
  obtain⟨_,_,B⟩:=ha;refine (I.hok b ob e).stay (λc U l q=>(f.2 c ?_).trans q) (λ_ q=>q) λ_ _ q=>q;rintro rfl;rcases l with rfl|l
  ·rw[B] at e;cases e
  ·rw[B] at l;cases l
 rcases w with D|D
 ·refine wpAny_storeName_local D hn (λh' hn' f => ?_) O;obtain⟨oL,_,_,hoL,_⟩:=id hn;refine h _ ⟨I.ok,I.os,I.bare,⟨λb o e n J w=>?_,λb o e n J w=>?_,I.base.free,λb o e w=>?_,I.base.tups,I.base.frzs,I.base.tbls⟩,⟨_,hn',λj y v' g C W=>?_⟩,λy c e=>?_,I.free,I.freeC,λp hp=>?_,t ⟨oL,hoL,I.free⟩ f,by simpa using I.len⟩ ⟨_,f,.inl rfl⟩
  ·exact (f.2 b (Bg (Bd (Ar e) I.ok.above))).trans (I.base.keep b o e n J w)
  ·obtain⟨Z,g⟩:=I.base.slot b o e n J w;exact⟨Z,(f.2 b (Bg (Bd (Ar e) I.ok.above))).trans g⟩
  ·obtain⟨o', g⟩:=I.base.there b o e w;exact⟨o',(f.2 b (Bg (Bd (Ar e) I.ok.above))).trans g⟩
  ·by_cases G : j = i
   ·subst G;rw[N] at g;obtain rfl:=sI g;rw[Dv F] at C;cases C;exact⟨u,r,.inl ⟨D,by simp⟩⟩
   ·rw[Cp (Ne.symm G)] at C;obtain⟨u',Y,q⟩:=hl j y v' g C W;refine⟨u',Y,?_⟩;rcases q with⟨k,e⟩|⟨k,c,e,z⟩
    ·refine .inl ⟨k, ?_⟩;have:y≠x:=λe=>G (zp7 hN g (e ▸ N));simp [this,e]
    ·exact .inr ⟨k,c,e,z.sameBut f (cne y c e)⟩
  ·obtain⟨U, z⟩:=I.cell y c e;exact⟨U,z.sameBut f (cne y c e)⟩
  ·obtain⟨e,n,ne,nf,d⟩:=I.pin p hp;exact⟨(f.2 p.1 ne).trans e,n,ne,nf,d⟩
 ·have K:X.fn x=Zd:=by
   rcases hf with z|z
   ·exact z
   ·rw[z] at D;cases D
  obtain⟨c,l⟩:=I.ok.has x (.inl D);obtain⟨U,z⟩:=I.cell x c l;refine wpAny_storeName_cell I.ok.kind D l z (λh' S f=>?_);obtain⟨oc,R,P⟩:=id z;refine h { s with heap:=h' } ⟨I.ok,I.os,I.bare,⟨λb o e n J w=>?_,λb o e n J w=>?_,I.base.free,λb o e w=>?_,I.base.tups,I.base.frzs,I.base.tbls⟩,⟨m,hn.sameBut f (Ne.symm (cne x c l)),λj y v' g C W=>?_⟩,λy T e=>?_,I.free,I.freeC,λp hp=>?_,t ⟨oc,R,I.freeC x c l⟩ f,by simpa using I.len⟩ ⟨c,f,.inr l⟩
  ·exact (f.2 b (Bg (Bd (Ar e) (I.ok.cab x c K l)))).trans (I.base.keep b o e n J w)
  ·obtain⟨Z,g⟩:=I.base.slot b o e n J w;exact⟨Z,(f.2 b (Bg (Bd (Ar e) (I.ok.cab x c K l)))).trans g⟩
  ·obtain⟨o', g⟩:=I.base.there b o e w;exact⟨o',(f.2 b (Bg (Bd (Ar e) (I.ok.cab x c K l)))).trans g⟩
  ·by_cases G : j = i
   ·subst G;rw[N] at g;obtain rfl:=sI g;rw[Dv F] at C;cases C;exact⟨u,r,.inr ⟨.inl D,c,l,S⟩⟩
   ·rw[Cp (Ne.symm G)] at C;obtain⟨u',Y,q⟩:=hl j y v' g C W;refine⟨u',Y,?_⟩;rcases q with q|⟨k,T,e,z'⟩
    ·exact .inl q
    ·refine .inr ⟨k,T, e,z'.sameBut f ?_⟩;rintro rfl;exact G (zp7 hN g (I.ok.inj _ _ _ e l ▸ N))
  ·by_cases L : T = c
   ·subst L;exact⟨_,S⟩
   ·obtain⟨w2,z2⟩:=I.cell y T e;exact⟨w2,z2.sameBut f L⟩
  ·obtain⟨e,n,ne,nf,d⟩:=I.pin p hp;refine⟨(f.2 p.1 ?_).trans e,n,ne,nf,d⟩;intro q;rw[q,R] at e;have q' : oc=p.2:=sI e;exact d U (by rw[<-q'];exact P)
theorem zd8 {M:Model}{A:Around}{E:Ze->Zf->Prop}{i:Nat}{x:Str}{v:V}{u:Ze}{Q:Unit->Zf->Prop} (I:Inv X pins σ H s) (e:X.N.Nodup) (b:X.N[i]?=Za x) (c:Loc X.env.scope x) (r:RelV v u)
  (h:∀a,Inv X pins (σ.set i (Za v)) H a->Q () a) (f:X.fn x=Zd\/X.env.scope.names.lookup x=Za .local:=by first|exact .inl rfl|exact .inr rfl|assumption):wpAny M A (storeName X.env x u) Q E s :=
 znb I e b c r (λa d _=>h a d) f
theorem Inv.call' {s':Zf}{ch:List Zh} (I:Inv X pins σ H s) (f:s'.os=s.os) (u:Un (frs X.stack) ch H H' s.heap s'.heap) (a:HOk X.prog X.w H' s'.heap) (i:AllBare s'.gens)
  (h:∀b∈ch,(b∈X.ex\/X.s₀.heap.objs.size<=b)/\b≠X.env.locals/\(∀x c,X.env.cells.lookup x=Za c->c≠b)/\∀p∈X.pn++pins,p.1≠b):Inv X pins σ H' s':=by
 obtain⟨h',g,d,t,o⟩:=s';have e:o=s.os:=f;subst e;exact I.call (g':=g) (t':=t) (d':=d) u a i h
end
noncomputable abbrev XK:=Ze->Option Zh->Hp->Prop
noncomputable abbrev St:=List (Option V)
noncomputable abbrev VK:=V->Hp->Prop
noncomputable abbrev TE:=St->Hp->VK->Prop
noncomputable abbrev TT:=St->Hp->(Bool->Hp->Prop)->Prop
noncomputable abbrev TA:=St->Hp->(List V->Hp->Prop)->Prop
structure Ends where
 nx:St->Hp->Prop
 rt:VK
 bk:St->Hp->Prop:=λ_ _=>False
 ct:St->Hp->Prop:=λ_ _=>False
noncomputable abbrev TS:=Ends->St->Hp->Prop
noncomputable def EP (X:Cx) (pins:List (Zh×Obj)) (σ:St) (Q:VK) (u:Ze) (s':Zf):Prop:=∃v H,Inv X pins σ H s'/\RelV v u/\Q v H
noncomputable def TP (X:Cx) (pins:List (Zh×Obj)) (σ:St) (Q:Bool->Hp->Prop) (b:Bool) (s':Zf):Prop:=∃H,Inv X pins σ H s'/\Q b H
noncomputable def AP (X:Cx) (pins:List (Zh×Obj)) (σ:St) (Q:List V->Hp->Prop) (u:List Ze) (s':Zf):Prop:=∃v H,Inv X pins σ H s'/\Vals v u/\Q v H
noncomputable def SP (X:Cx) (pins:List (Zh×Obj)) (D:Ends) (f:Flow) (s':Zf):Prop :=
 match f with
 |.next=>∃a H,Inv X pins a H s'/\D.nx a H
 |.brk=>∃a H,Inv X pins a H s'/\D.bk a H
 |.cont=>∃a H,Inv X pins a H s'/\D.ct a H
 |.ret u=>∃v a H,Inv X pins a H s'/\RelV v u/\D.rt v H
noncomputable def PE (X:Cx) (e:Zi) (t:TE):Prop :=
 ∀(pins:List (Zh×Obj)) (s:Zf) (σ:St) (H:Hp) (Q:VK),Inv X pins σ H s->t σ H Q->wpAny #v[2,7] X.A (eval e X.env) (EP X pins σ Q) X.xe s
noncomputable def PT (X:Cx) (e:Zi) (t:TT):Prop :=
 ∀(pins:List (Zh×Obj)) (s:Zf) (σ:St) (H:Hp) (Q:Bool->Hp->Prop),Inv X pins σ H s->t σ H Q->wpAny #v[2,7] X.A (isTrue e X.env (eval e X.env)) (TP X pins σ Q) X.xe s
noncomputable def PW (X:Cx) (e:Zi) (t:TT):Prop :=
 ∀(w:Sem Ze) (pins:List (Zh×Obj)) (s:Zf) (σ:St) (H:Hp) (Q:Bool->Hp->Prop),Inv X pins σ H s->t σ H Q->wpAny #v[2,7] X.A (isTrue e X.env w) (TP X pins σ Q) X.xe s
theorem PW.pt {X:Cx}{e:Zi}{t:TT}(h:PW X e t):PT X e t:=h _
noncomputable def PA (X:Cx) (es:List Zi) (t:TA):Prop :=
 ∀(pos:Pos) (pins:List (Zh×Obj)) (s:Zf) (σ:St) (H:Hp) (Q:List V->Hp->Prop),Inv X pins σ H s->t σ H Q->wpAny #v[2,7] X.A (spliced (backTo pos (starEach es X.env))) (AP X pins σ Q) X.xe s
noncomputable def PS (X:Cx) (st:Stmt) (t:TS):Prop :=
 ∀(pins:List (Zh×Obj)) (s:Zf) (σ:St) (H:Hp) (D:Ends),Inv X pins σ H s->t D σ H->wpAny #v[2,7] X.A (exec st X.env) (SP X pins D) X.xe s
noncomputable def PSs (X:Cx) (st:List Stmt) (t:TS):Prop :=
 ∀(pins:List (Zh×Obj)) (s:Zf) (σ:St) (H:Hp) (D:Ends),Inv X pins σ H s->t D σ H->wpAny #v[2,7] X.A (execs st X.env) (SP X pins D) X.xe s
theorem thn {α:Type}{t:Sem α}{Q Q':α->Zf->Prop}{M:Model}{A:Around}{E:Ze->Zf->Prop}{s:Zf}(h:wpAny M A t Q E s)(hQ:∀a s,Q a s->Q' a s):wpAny M A t Q' E s:=Cw h hQ λ_ _ x=>x
section
variable {X:Cx}
theorem bin {a b:Zi}{t j:TE} (k:PE X a t) (w:PE X b j) {pins:List (Zh×Obj)}{s:Zf}{σ:St}{H:Hp}{R:V->V->Hp->Prop} (I:Inv X pins σ H s) (h:t σ H λx i=>j σ i λy c=>R x y c)
  {α:Type}{Q:α->Zf->Prop}{f:Ze->Ze->Sem α}
  (o:∀v u g x y c,Inv X pins σ c g->RelV x v->RelV y u->R x y c->wpAny #v[2,7] X.A (f v u) Q X.xe g) :
  wpAny #v[2,7] X.A (eval a X.env) (λv d=>wpAny #v[2,7] X.A (eval b X.env) (λu e=>wpAny #v[2,7] X.A (f v u) Q X.xe e) X.xe d) X.xe s:=by
 refine thn (k pins s σ H _ I h) λv m ⟨x,i,l,p,q⟩=>?_;refine thn (w pins m σ i _ l q) λu g ⟨y,c,z,r,n⟩=>?_;exact o v u g x y c z p r n
noncomputable def tVar (i:Nat):TE:=λσ H Q=>∃v,σ[i]?=Za (Za v)/\Q v H
noncomputable def tC (v:V):TE:=λ_ H Q=>Q v H
theorem ztm {i:Nat}{x:Str}{pos:Pos}(n:X.N[i]?=Za x)(k:Vis X.env.scope x)(f:(x==("__debug__" : Str))=Zc:=by decide)(d:(x==("__classdict__" : Str))=Zc:=by decide):PE X (.Name x pos) (tVar i):=by
 intro pins s σ H Q I h;nofun;obtain⟨v,e,h⟩:=h;obtain⟨m,p,o⟩:=I.loc;obtain⟨u,r,l⟩:=o i x v n e k;ac_rfl;have fin:EP X pins σ Q u s:=⟨v,H,I,r,h⟩;rcases l with⟨b,j⟩|⟨b,c,g,a⟩
 ·exact wpAny_Name (wpAny_loadName_local I.ok.kind b p j fin) f
 ·rcases b with b|b
  ·exact wpAny_Name (wpAny_loadName_cell I.ok.kind b g a fin) f
  ·exact wpAny_Name (wpAny_loadName_free I.ok.kind b g a fin d) f
theorem yat {i j pos}:PE X (.Constant (.int i) j pos) (tC (.int i)):=λ_ _ _ H _ I h=>wpAny_Constant_int ⟨.int i,H,I.tok _,⟨_,rfl⟩,h⟩
theorem ycl {b j pos}:PE X (.Constant (.bool b) j pos) (tC (.bl b)):=λ_ _ _ H _ I h=>Constant_bool ⟨.bl b,H,I,rfl,h⟩
theorem ybi {j pos}:PE X (.Constant .none j pos) (tC .non):=λ_ _ _ H _ I h=>Constant_none ⟨.non,H,I,rfl,h⟩
theorem yb7 {x j pos}:PE X (.Constant (.str x) j pos) (tC (.str x)):=λ_ _ _ H _ I h=>Calls.Constant_str ⟨.str x,H,I.tok _,⟨_,rfl⟩,h⟩
noncomputable def Gl (X:Cx) (x:Str):Prop:=X.env.kindOf x=Za .globalImplicit
theorem z8b {E:Ze->Zf->Prop}{pins:List (Zh×Obj)}{s:Zf}{σ:St}{H:Hp}{x:Str}{u:Ze}{pos:Pos}{Q:Ze->Zf->Prop} (I:Inv X pins σ H s) (b:Gl X x) (a:X.mg x=Za u) (h:Q u s)
  (c:(x==("__debug__" : Str))=Zc:=by decide):wpAny #v[2,7] X.A (eval (.Name x pos) X.env) Q E s :=
 Calls.Name_function_global I.ok.kind b (Calls.loadGlobal_global (by rw[I.ok.glob];exact I.mod.glob.keeps I.bk) a h) c
theorem zcs {E:Ze->Zf->Prop}{pins:List (Zh×Obj)}{s:Zf}{σ:St}{H:Hp}{x:Str}{u:Ze}{pos:Pos}{Q:Ze->Zf->Prop} (I:Inv X pins σ H s) (e:Gl X x) (c:X.mg x=Zb) (d:bootBuiltins x=Za u) (h:Q u s)
  (g:x≠"__name__" := by decide) (f:(x==("__debug__" : Str))=Zc:=by decide):wpAny #v[2,7] X.A (eval (.Name x pos) X.env) Q E s:=by
 obtain⟨m,a,b⟩:=I.mod.blt;exact Calls.Name_function_global I.ok.kind e (Calls.loadGlobal_builtin (by rw[I.ok.glob];exact I.mod.glob.keeps I.bk) c (by rw[I.ok.blt];exact a.keeps I.bk) ((b x g).trans d) h) f
theorem z5x {x:Str}{v:V}{u:Ze}{pos:Pos}(c:Gl X x)(a:X.mg x=Zb)(b:bootBuiltins x=Za u)(r:RelV v u)(e:x≠"__name__" := by decide)(d:(x==("__debug__" : Str))=Zc:=by decide):PE X (.Name x pos) (tC v) :=
 λ_ _ _ H _ I h=>zcs I c a b ⟨v,H,I,r,h⟩ e d
variable {a b:Zi}{ta tb:TE}{pos:Pos}
noncomputable def PC (X:Cx) (op:CmpOp) (a b:Zi) (t:TE):Prop :=
 ∀(pins:List (Zh×Obj)) (s:Zf) (σ:St) (H:Hp) (Q:VK),Inv X pins σ H s->t σ H Q ->
  wpAny #v[2,7] X.A (eval a X.env) (λv d=>wpAny #v[2,7] X.A (eval b X.env) (λu c=>wpAny #v[2,7] X.A (compareOp op v u) (EP X pins σ Q) X.xe c) X.xe d) X.xe s
theorem zys (b:Zi){op:CmpOp}(h:op≠.In)(a:op≠.NotIn):behindInMarks op b=Zc:=by
 have c:(op==CmpOp.In)=Zc:=by cases op<;>first|rfl|exact absurd rfl h
 have e:(op==CmpOp.NotIn)=Zc:=by cases op<;>first|rfl|exact absurd rfl a
 cases b<;>simp [behindInMarks,c,e]
noncomputable def tB (t:TE):TT:=λσ H Q=>t σ H λx a=>∃c,x=.bl c/\Q c a
theorem yd9 {op:CmpOp}{t:TE}(h:PC X op a b t)(e:behindInMarks op b=Zc:=by first|exact zys _ #v[0,9] #v[0,9]|rfl):PT X (.Compare a [op] [b] pos) (tB t):=by
 intro pins s σ H Q I k;refine wpAny_isTrue_Compare1 (thn (h pins s σ H _ I k) λv l e=>thn e λu n f=>thn f λc m ⟨x,j,i,r,g⟩=>?_) e;obtain⟨d,rfl,q⟩:=g;cases r;exact Ft ⟨j,i,q⟩
theorem yas {e:Zi}{t:TE}(h:PE X e t)(b:∀w,isTrue e X.env w=(do let v <- w;standAt e.pos;holding [v] (truthy v)):=by intro _;rfl):PT X e (tB t):=by
 intro pins s σ H Q I g;refine isTrue_plain (thn (h pins s σ H _ I g) λv i ⟨x,f,c,r,a⟩=>?_) (b _);obtain⟨d,rfl,q⟩:=a;cases r;exact Ft ⟨f,c,q⟩
variable {tA tB' : TT}{rest:List Zi}
noncomputable def tAnd (t u:TT):TT:=λσ H Q=>t σ H λc a=>if c=Zd then u σ a Q else Q Zc a
noncomputable def tOr (t u:TT):TT:=λσ H Q=>t σ H λc a=>if c=Zd then Q Zd a else u σ a Q
noncomputable def tNot (t:TT):TT:=λσ H Q=>t σ H λc a=>Q (!c) a
theorem z6m (b:PT X a tA):PW X (.BoolOp .And [a] pos) tA:=by
 intro w pins s σ H Q I h;refine isTrue_and (thn (b pins s σ H Q I h) λc d e=>?_);cases c with
 |true=>exact isTrue_and_nil e
 |false=>exact e
theorem z84 (b:PT X a tA):PW X (.BoolOp .Or [a] pos) tA:=by
 intro w pins s σ H Q I h;refine isTrue_or (thn (b pins s σ H Q I h) λc d e=>?_);cases c with
 |false=>exact isTrue_or_nil e
 |true=>exact e
theorem z88 (i:PT X a tA)(g:PW X (.BoolOp .And (b::rest) pos) tB'):PW X (.BoolOp .And (a::b::rest) pos) (tAnd tA tB'):=by
 intro w pins s σ H Q I h;refine isTrue_and (thn (i pins s σ H _ I h) λc f ⟨e,d,q⟩=>?_);cases c with
 |true=>exact g w pins f σ e Q d q
 |false=>exact⟨e,d,q⟩
theorem ydq (i:PT X a tA)(g:PW X (.BoolOp .Or (b::rest) pos) tB'):PW X (.BoolOp .Or (a::b::rest) pos) (tOr tA tB'):=by
 intro w pins s σ H Q I h;refine isTrue_or (thn (i pins s σ H _ I h) λc f ⟨e,d,q⟩=>?_);cases c with
 |true=>exact⟨e,d,q⟩
 |false=>exact g w pins f σ e Q d q
theorem yb0 (d:PT X a tA):PT X (.UnaryOp .Not a pos) (tNot tA):=by
 intro pins s σ H Q I h;exact isTrue_not (d pins s σ H (λc b=>Q (!c) b) I h)
noncomputable def z97 (ta tb:TE):TE:=λσ H Q=>ta σ H λx a=>∃c,x=.bl c/\if c=Zd then tb σ a Q else Q (.bl Zc) a
theorem ych {op}{t:TE}(h:PE X a t):PE X (.BoolOp op [a] pos) t:=λpins s σ H Q I b=>BoolOp_one (h pins s σ H Q I b)
theorem z94 (i:PE X a ta)(g:PE X (.BoolOp .And (b::rest) pos) tb):PE X (.BoolOp .And (a::b::rest) pos) (z97 ta tb):=by
 intro pins s σ H Q I h;refine BoolOp_and (thn (i pins s σ H _ I h) λv f ⟨x,e,d,r,q⟩=>?_);obtain⟨c,rfl,q⟩:=q;cases r;refine Ft ?_;cases c with
 |true=>exact g pins f σ e Q d q
 |false=>exact⟨.bl Zc,e,d,rfl,q⟩
end
noncomputable def SqL (K:Zg) (H:Hp) (a:Zh) (xs:List V):Prop :=
 Rd H a (.lst xs) \/
  ∃(o:Obj) (i:Array Ze) (n:Nat),K.lookup a=Za o/\o.cls=.type "list"/\o.dict=Zb/\o.data=.seq i n/\i.size<=sizeLine/\Vals xs i.toList
noncomputable def SqT (K:Zg) (H:Hp) (a:Zh) (xs:List V):Prop :=
 Rd H a (.tup xs) \/
  ∃(o:Obj) (i:Array Ze) (n:Nat),K.lookup a=Za o/\o.cls=.type "tuple"/\o.data=.seq i n/\i.size<=sizeLine/\Vals xs i.toList
noncomputable def absV:Ze->Option V
 |.none=>Za .non
 |.bool b=>Za (.bl b)
 |.int i _=>Za (.int i)
 |.str x _=>Za (.str x)
 |.bytes b _=>Za (.byt b)
 |.float b _=>Za (.flt b)
 |.ref a=>Za (.ref a)
 |.type n=>Za (.ty n)
 |_=>Zb
theorem RelV.abs {x:V}{u:Ze}(r:RelV x u):absV u=Za x:=by
 cases x with
 |non=>cases r;rfl
 |bl _=>cases r;rfl
 |int _=>obtain⟨t,rfl⟩:=r;rfl
 |str _=>obtain⟨t,rfl⟩:=r;rfl
 |byt _=>obtain⟨t,rfl⟩:=r;rfl
 |flt _=>obtain⟨t,rfl⟩:=r;rfl
 |ref _=>cases r;rfl
 |ty _=>cases r;rfl
theorem RelV.inj {x y:V}{u:Ze}(r:RelV x u)(q:RelV y u):x=y:=sI (r.abs.symm.trans q.abs)
theorem Vals.inj:∀{x y:List V}{u:List Ze},Vals x u->Vals y u->x=y
 |_,_,_,.nil,.nil=>rfl
 |_,_,_,.cons r t,.cons a b=>by rw[r.inj a,Vals.inj t b]
section
variable {X:Cx}{pins:List (Zh × Obj)}{σ:St}{H:Hp}{s:Zf}{a:Zh}{xs ys:List V}
theorem Inv.list (I:Inv X pins σ H s)(h:SqL X.K H a xs):∃i:List Ze,Vals xs i/\PlainL s.heap a i.toArray/\xs.length<=sizeLine:=by
 rcases h with h|⟨o,i,n,d,b,f,c,g,r⟩
 ·obtain⟨z,i,n,r,e⟩:=h.ok I.hok;exact⟨i,r,⟨_,n,e,rfl,rfl,rfl⟩,z⟩
 ·refine⟨i.toList,r,⟨o,n,I.kIn a o d,b,f,by simpa using c⟩, ?_⟩;have e:=r.length;simp only [Ca] at e;omega
theorem Inv.tuple (I:Inv X pins σ H s)(h:SqT X.K H a xs):∃i:List Ze,Vals xs i/\IsTup s.heap a i.toArray/\xs.length<=sizeLine:=by
 rcases h with h|⟨o,i,n,d,b,c,f,r⟩
 ·obtain⟨z,i,r,p⟩:=h.ok I.hok;exact⟨i,r,p.t,z⟩
 ·refine⟨i.toList,r,⟨o,I.kIn a o d,b,n,by simpa using c⟩, ?_⟩;have e:=r.length;simp only [Ca] at e;omega
theorem Inv.list_inj (I:Inv X pins σ H s)(h:SqL X.K H a xs)(h':SqL X.K H a ys):xs=ys:=by
 obtain⟨i,r,⟨o,n,e,_,_,d⟩,_⟩:=I.list h;obtain⟨its',f,⟨g,j,b,_,_,c⟩,_⟩:=I.list h';rw[e] at b;obtain rfl:=sI b;rw[d] at c;injection c with d1 _;have:i=its':=by simpa using congrArg Array.toList d1
 subst this;exact r.inj f
theorem Inv.tuple_inj (I:Inv X pins σ H s)(h:SqT X.K H a xs)(h':SqT X.K H a ys):xs=ys:=by
 obtain⟨i,r,⟨o,e,_,n,d⟩,_⟩:=I.tuple h;obtain⟨its',f,⟨g,b,_,j,c⟩,_⟩:=I.tuple h';rw[e] at b;obtain rfl:=sI b;rw[d] at c;injection c with d1 _;have:i=its':=by simpa using congrArg Array.toList d1
 subst this;exact r.inj f
end
noncomputable abbrev Cx.wish (X:Cx) (E:Ze->Zf->Prop):Cx:={ X with xe:=E }
noncomputable abbrev Cx.nox (X:Cx):Cx:=X.wish λ_ _=>False
theorem Cx.Ok.wish {X:Cx}(ok:X.Ok)(E:Ze->Zf->Prop):(X.wish E).Ok :=
 ⟨ok.mod,ok.kind,ok.glob,ok.blt,ok.above,ok.inj,ok.has,ok.cab,ok.hd,ok.frames,ok.stk,ok.exf,ok.bs,ok.bsz,ok.noex,ok.exfs,ok.funs,ok.frf⟩
theorem Cx.Ok.unwish {X:Cx}{E:Ze->Zf->Prop}(ok:(X.wish E).Ok):X.Ok :=
 ⟨ok.mod,ok.kind,ok.glob,ok.blt,ok.above,ok.inj,ok.has,ok.cab,ok.hd,ok.frames,ok.stk,ok.exf,ok.bs,ok.bsz,ok.noex,ok.exfs,ok.funs,ok.frf⟩
section
variable {X:Cx}{pins:List (Zh × Obj)}{σ:St}{H:Hp}{s:Zf}{E:Ze->Zf->Prop}
theorem Inv.wish (I:Inv X pins σ H s)(E:Ze->Zf->Prop):Inv (X.wish E) pins σ H s:=⟨I.ok.wish E,I.os,I.bare,I.base,I.loc,I.cell,I.free,I.freeC,I.pin,I.hok,I.len⟩
theorem Inv.unwish (I:Inv (X.wish E) pins σ H s):Inv X pins σ H s:=⟨I.ok.unwish,I.os,I.bare,I.base,I.loc,I.cell,I.free,I.freeC,I.pin,I.hok,I.len⟩
theorem SP.unwish {D:Ends}{f:Flow}{s':Zf}(h:SP (X.wish E) pins D f s'):SP X pins D f s':=by
 cases f with
 |next=>obtain⟨a,H,I,q⟩:=h;exact⟨a,H,I.unwish,q⟩
 |brk=>obtain⟨a,H,I,q⟩:=h;exact⟨a,H,I.unwish,q⟩
 |cont=>obtain⟨a,H,I,q⟩:=h;exact⟨a,H,I.unwish,q⟩
 |ret u=>obtain⟨v,a,H,I,r,q⟩:=h;exact⟨v,a,H,I.unwish,r,q⟩
theorem PE.nox {e:Zi}{t:TE}(h:PE X.nox e t):PE X e t:=λpins s σ H Q I c =>
 Cw (h pins s σ H Q (I.wish _) c) (λ_ _ ⟨v,a,b,r,q⟩=>⟨v,a,b.unwish,r,q⟩) λ_ _ z=>False.elim z
theorem PSs.nox {st:List Stmt}{t:TS}(h:PSs X.nox st t):PSs X st t:=λpins s σ H D I a =>
 Cw (h pins s σ H D (I.wish _) a) (λ_ _ q=>q.unwish) λ_ _ z=>False.elim z
end
section
variable {X:Cx}{st:Stmt}{rest:List Stmt}{t u:TS}{e:Zi}{te:TE}{pos:Pos}
noncomputable def z5h:TS:=λD σ H=>D.nx σ H
noncomputable def tSeq (t u:TS):TS:=λD σ H=>t { D with nx:=u D } σ H
theorem z6e:PSs X [] z5h:=λ_ _ σ H _ I h=>wpAny_execs_nil ⟨σ,H,I,h⟩
theorem z1y (d:PS X st t) (b:PSs X rest u):PSs X (st::rest) (tSeq t u):=by
 intro pins s σ H D I h;refine wpAny_execs_cons (thn (d pins s σ H { D with nx:=u D } I h) λf c q=>?_);cases f with
 | next =>
  obtain⟨a,e,g,q⟩:=q;exact b pins c a e D g q
 |ret v=>exact q
 |brk=>exact q
 |cont=>exact q
theorem z6t (a:PS X st t):PSs X [st] t:=by
 intro pins s σ H D I h;refine wpAny_execs_cons (thn (a pins s σ H D I h) λf b q=>?_);cases f with
 |next=>exact wpAny_execs_nil q
 |ret v=>exact q
 |brk=>exact q
 |cont=>exact q
theorem z53:PS X (.Pass pos) z5h:=λ_ _ σ H _ I h=>wpAny_Pass ⟨σ,H,I,h⟩
theorem Inv.quiet {pins:List (Zh×Obj)}{σ:St}{H:Hp}{s:Zf}(I:Inv X pins σ H s):interactive X.env=Zc:=by simp [interactive,I.ok.kind]
noncomputable def yb3 (te:TE):TS:=λD σ H=>te σ H λ_ a=>D.nx σ a
theorem z4p (b:PE X e te)(a:swapsWith e Zb pos.line X.env=pure Zc:=by rfl):PS X (.Expr e pos) (yb3 te):=by
 intro pins s σ H D I h;exact wpAny_Expr_any (thn (b pins s σ H _ I h) λv f ⟨x,d,c,r,q⟩=>⟨σ,d,c,q⟩) I.quiet a
noncomputable def tRet (te:TE):TS:=λD σ H=>te σ H D.rt
theorem z2m (a:PE X e te):PS X (.Return (Za e) pos) (tRet te):=by
 intro pins s σ H D I h;exact wpAny_Return_some (thn (a pins s σ H _ I h) λv d ⟨x,c,b,r,q⟩=>⟨x,σ,c,b,r,q⟩)
noncomputable def tIfS (c:TT) (t u:TS):TS:=λD σ H=>c σ H λb a=>if b=Zd then t D σ a else u D σ a
theorem ycz {c:Zi}{a b:List Stmt}{tc:TT}(i:PT X c tc)(k:PSs X a t)(j:PSs X b u):PS X (.If c a b pos) (tIfS tc t u):=by
 intro pins s σ H D I h;refine wpAny_If (thn (i pins s σ H _ I h) λd e ⟨g,f,q⟩=>?_);cases d with
 |true=>exact k pins e σ g D f q
 |false=>exact j pins e σ g D f q
end
noncomputable abbrev TG:=V->St->Hp->(St->Hp->Prop)->Prop
noncomputable abbrev TGs:=List V->St->Hp->(St->Hp->Prop)->Prop
noncomputable def PG (X:Cx) (a:Zi) (t:TG):Prop :=
 ∀(pins:List (Zh×Obj)) (s:Zf) (σ:St) (H:Hp) (v:V) (u:Ze) (Q:St->Hp->Prop),Inv X pins σ H s->RelV v u->t v σ H Q ->
  wpAny #v[2,7] X.A (assign a X.env u) (λ_ d=>∃b c,Inv X pins b c d/\Q b c) X.xe s
noncomputable def PGs (X:Cx) (ts:List Zi) (t:TGs):Prop :=
 ∀(pins:List (Zh×Obj)) (s:Zf) (σ:St) (H:Hp) (c:List V) (u:List Ze) (Q:St->Hp->Prop),Inv X pins σ H s->Vals c u->t c σ H Q ->
  wpAny #v[2,7] X.A (assignInOrder ((assignEach ts X.env).map (·.2)) u) (λ_ d=>∃a b,Inv X pins a b d/\Q a b) X.xe s
noncomputable abbrev TSet:=V->V->V->Hp->(Hp->Prop)->Prop
noncomputable def PSet (X:Cx) (t:TSet):Prop :=
 ∀(pins:List (Zh×Obj)) (s:Zf) (σ:St) (H:Hp) (o i v:V) (a c u:Ze) (Q:Hp->Prop),Inv X pins σ H s->RelV o a->RelV i c->RelV v u->t o i v H Q ->
  wpAny #v[2,7] X.A (setItem a c u) (λ_ d=>∃b,Inv X pins σ b d/\Q b) X.xe s
noncomputable abbrev TIp:=V->V->Hp->VK->Prop
noncomputable def PIp (X:Cx) (op:Operator) (t:TIp):Prop :=
 ∀(pins:List (Zh×Obj)) (s:Zf) (σ:St) (H:Hp) (x y:V) (v u:Ze) (Q:VK),Inv X pins σ H s->RelV x v->RelV y u->t x y H Q ->
  wpAny #v[2,7] X.A (inplaceOp op v u) (EP X pins σ Q) X.xe s
section
variable {X:Cx}{pos:Pos}
noncomputable def zn3 (i:Nat):TG:=λv σ H Q=>Q (σ.set i (Za v)) H
theorem zv7 {i:Nat}{x:Str}(d:X.N.Nodup)(a:X.N[i]?=Za x)(b:Loc X.env.scope x)(e:X.fn x=Zd\/X.env.scope.names.lookup x=Za .local:=by first|exact .inl rfl|exact .inr rfl|assumption):PG X (.Name x pos) (zn3 i):=by
 intro pins s σ H v u Q I r h;exact wpAny_assign_Name (zd8 I d a b r (λf c=>⟨_,H,c,h⟩) e)
noncomputable def gNil:TGs:=λv σ H Q=>v=[]/\Q σ H
noncomputable def zyq (t:TG) (u:TGs):TGs:=λc σ H Q=>∃v r,c=v::r/\t v σ H λa b=>u r a b Q
theorem z5r:PGs X [] gNil:=by
 intro pins s σ H v u Q I r h;obtain⟨e,h⟩:=h;subst e;cases r;exact assignInOrder_nil ⟨σ,H,I,h⟩
theorem z15 {e:Zi}{es:List Zi}{t:TG}{u:TGs} (d:PG X e t) (b:PGs X es u)
  (f:(assignEach (e::es) X.env).map (·.2)=assign e X.env::(assignEach es X.env).map (·.2):=by rfl):PGs X (e::es) (zyq t u):=by
 intro pins s σ H l n Q I r h;obtain⟨v,m,i,h⟩:=h;subst i;cases r with
 | cons r g =>
  rw[f];refine Ht (thn (d pins s σ H _ _ _ I r h) λ_ c ⟨a,k,j,q⟩=>?_);exact b pins c a k _ _ Q j g q
noncomputable def gTup (K:Zg) (n:Nat) (t:TGs):TG:=λv σ H Q=>∃a x,v=.ref a/\SqT K H a x/\x.length=n/\t x σ H Q
theorem yao {es:List Zi}{k:Nat}{t:TGs}{n:Nat} (p:X.calm=Zd) (h:PGs X es t)
  (z:(assignEach es X.env).length=n:=by rfl) (c:(assignEach es X.env).findIdx? (·.1)=Zb:=by rfl):PG X (.Tuple es k pos) (gTup X.K n t):=by
 intro pins s σ H v u Q I r d;nofun;obtain⟨a,x,q,i,w,d⟩:=d;ac_rfl;subst q;cases r;nofun;obtain⟨m,f,g,A⟩:=I.tuple i;ac_rfl;refine assign_Tuple_tuple (I.ok.hd p) g (by simp [z,<-w,f.length]) c λl j=>?_;have y:Inv X pins σ H { s with heap:=l }:=I.kept (t':=s.toks) λb o e=>j b o (Bg (Ar e)) e;exact h pins _ σ H x _ Q y (by simpa using f) d
noncomputable def gSub (a d:TE) (t:TSet):TG:=λv σ H Q=>a σ H λo e=>d σ e λi c=>t o i v c λb=>Q σ b
theorem z80 {o i:Zi}{d c:TE}{t:TSet} (w:PE X o d) (e:PE X i c) (z:PSet X t)
  (C:∀v,assign (.Subscript o i pos) X.env v=(do
   let a <- holding [v] (eval o X.env)
   let b <- holding [v,a] (eval i X.env)
   standAt pos
   holding [v,a,b] (setItem a b v)
   release [v,a,b] []):=by intro _;rfl):PG X (.Subscript o i pos) (gSub d c t):=by
 intro pins s σ H v u Q I r h;rw[C];refine Aa (Dk (thn (w pins s σ H _ I h) λa k ⟨x,D,g,p,q⟩=>?_));refine Aa (Dk (thn (e pins k σ D _ g q) λb m ⟨y,A,B,n,l⟩=>?_));refine Aa (Fp (Aa (Dk (thn (z pins m σ A x y v a b u _ B p n r l) λ_ F ⟨f,j,E⟩=>?_))));exact wpAny_release ⟨σ,f,j,E⟩
noncomputable def tAsg (te:TE) (g:TG):TS:=λD σ H=>te σ H λx a=>g x σ a D.nx
theorem z2w {t e:Zi}{te:TE}{g:TG} (i:PE X e te) (f:PG X t g) (d:swapsWithSole [t] e pos.line X.env=pure Zc:=by rfl) (l:swappedStores [t] e X.env=pure Zb:=by rfl)
  (c:(assignEach [t] X.env).map (·.2)=[assign t X.env]:=by rfl):PS X (.Assign [t] e pos) (tAsg te g):=by
 intro pins s σ H D I h;refine wpAny_Assign_stores (thn (i pins s σ H _ I h) λv a ⟨x,k,j,r,b⟩=>?_) d l;rw[c];exact thn (f pins a σ k x v _ j r b) λ_ m q=>q
theorem z26 {i:Nat}{x:Str}{e:Zi}{te:TE}{pos':Pos} (f:X.N.Nodup) (a:X.N[i]?=Za x) (b:Loc X.env.scope x) (g:PE X e te) (d:swapsWith e (Za (.Name x pos')) pos.line X.env=pure Zc:=by rfl) (c:X.fn x=Zd\/X.env.scope.names.lookup x=Za .local:=by first | exact .inl rfl | exact .inr rfl | assumption) :
  PS X (.Assign [.Name x pos'] e pos) (tAsg te (zn3 i)):=by
 intro pins s σ H D I h;refine wpAny_Assign_Name (thn (g pins s σ H _ I h) λv m ⟨y,l,k,r,q⟩=>?_) d;exact zd8 k f a b r (λn j=>⟨_,l,j,q⟩) c
noncomputable def tAug (i:Nat) (te:TE) (t:TIp):TS:=λD σ H=>∃x,σ[i]?=Za (Za x)/\te σ H λy b=>t x y b λz a=>D.nx (σ.set i (Za z)) a
theorem zvt {i:Nat}{x:Str}{e:Zi}{te:TE}{op:Operator}{t:TIp}{pos':Pos} (N:X.N.Nodup) (j:X.N[i]?=Za x) (g:Loc X.env.scope x) (o:PE X e te) (M:PIp X op t) (G:X.fn x=Zd\/X.env.scope.names.lookup x=Za .local:=by first | exact .inl rfl | exact .inr rfl | assumption) :
  PS X (.AugAssign (.Name x pos') op e pos) (tAug i te t):=by
 intro pins s σ H D I h;obtain⟨v,O,h⟩:=h;obtain⟨m,L,F⟩:=I.loc;have vis:Vis X.env.scope x:=by rcases g with k|k;exact .inl k;exact .inr (.inl k)
 obtain⟨u,r,l⟩:=F i x v j O vis;refine wpAny_AugAssign_Name ?_;have go:wpAny #v[2,7] X.A (eval e X.env) (λw f=>wpAny #v[2,7] X.A (inplaceOp op u w) (λr d=>wpAny #v[2,7] X.A (storeName X.env x r) (λ_=>SP X pins D .next) X.xe d) X.xe f) X.xe s:=by
  refine thn (o pins s σ H _ I h) λw A ⟨y,R,p,K,B⟩=>?_;refine thn (M pins A σ R v y u w _ p r K B) λz U ⟨T,P,Q,J,E⟩=>?_;exact zd8 Q N j g J (λS q=>⟨_,P,q,E⟩) G
 rcases l with⟨a,n⟩|⟨a,c,C,b⟩
 ·exact wpAny_loadName_local I.ok.kind a L n go
 ·rcases a with a|a
  ·exact wpAny_loadName_cell I.ok.kind a C b go
  ·rcases g with k|k
   ·have:X.env.scope.names.lookup x=Za .free:=a;rw[k] at this;cases this
   ·have:X.env.scope.names.lookup x=Za .free:=a;rw[k] at this;cases this
end
section
variable {X:Cx}{pos:Pos}
noncomputable def z3b (c:TT) (t:TS):TS:=λD σ H=>∃W:Nat->St->Hp->Prop,(∃m,W m σ H)/\∀m σ H,W m σ H ->
 c σ H λb f=>if b=Zd then ∃N:St->Hp->Prop,(∀a d,N a d->∃e,e<m/\W e a d)/\t { D with nx:=N,ct:=N,bk:=D.nx } σ f else D.nx σ f
theorem z0e {c:Zi}{body:List Stmt}{tc:TT}{y:TS} (p:PassesOwn #v[2,7] X.A X.env X.xe) (C:PT X c tc) (K:PSs X body y):PS X (.While c body [] pos) (z3b tc y):=by
 intro pins s σ H D I h;nofun;obtain⟨W,⟨z,F⟩,turn⟩:=h;ac_rfl;refine wpAny_While (codeAny_whileLoop (λn E=>∃g o,Inv X pins g o E/\W n g o) ?_ z ⟨σ,H,I,F⟩);rintro n B ⟨d,x,A,J⟩;refine Fh p (thn (C pins B d x _ A (turn n d x J)) λb G ⟨t,u,q⟩=>?_);cases b with
 | true =>
  obtain⟨N,r,q⟩:=q;rw[if_pos rfl];refine Fh p (thn (K pins G d t _ u q) λf L i=>?_);cases f with
  | next =>
   nofun;obtain⟨a,e,k,l⟩:=i;obtain⟨m,j,w⟩:=r a e l;ac_rfl;exact⟨m,j,a,e,k,w⟩
  | cont =>
   nofun;obtain⟨a,e,k,l⟩:=i;obtain⟨m,j,w⟩:=r a e l;ac_rfl;exact⟨m,j,a,e,k,w⟩
  |brk=>exact i
  |ret v=>exact i
 | false =>
  rw[if_neg At];exact wpAny_execs_nil ⟨d,t,u,q⟩
end
structure It where
 go:Nat->Hp->Prop
 yld:Nat->Hp->V->Hp->Prop
 stop:Nat->Hp->Prop
noncomputable def FpOk (X:Cx) (pins:List (Zh×Obj)) (H:Hp) (b:Zh):Prop :=
 H b=Zb/\b≠X.env.locals/\b ∉ X.fs/\(b∈X.ex\/X.s₀.heap.objs.size<=b)/\(∀x c,X.env.cells.lookup x=Za c->c≠b)/\∀p∈X.pn++pins,p.1≠b
theorem Inv.fpOk {X:Cx}{pins:List (Zh×Obj)}{σ:St}{H H':Hp}{s:Zf}{b:Zh}(I:Inv X pins σ H s)(h:s.heap.objs.size<=b)(a:H' b=Zb):FpOk X pins H' b:=by
 refine⟨a,Nat.ne_of_gt (Bd I.lt h),I.nofs h,.inr (Bj I.sz h),λx c e z=>?_,λp d z=>?_⟩
 ·obtain⟨v,q⟩:=I.cell x c e;exact absurd (Bd q.lt (by rw[z];exact h)) (Bx _)
 ·exact absurd (Bd (Ar (I.pin p d).1) (by rw[z];exact h)) (Bx _)
structure Turn (P:Program) (w:World) (K:Zg) (tg:Zi) (J:It) (fp:List Zh) (it:Zh) (tn:Nat->Heap->Prop):Prop where
 mem:it∈fp
 obj:∀i h,tn i h->∀b∈fp,∃o,h.get? b=Za o/\∀v,o.data≠.cell v
 keep:∀i h h',tn i h->(∀b∈fp,∀o,h.get? b=Za o->h'.get? b=Za o)->tn i h'
 item:∀(X:Cx),X.prog=P->X.w=w->X.K=K->X.calm=Zd->∀(i:Nat) (pins:List (Zh×Obj)) (s:Zf) (σ:St) (H:Hp) (E:Ze->Zf->Prop),Inv X pins σ H s->(∀b∈fp,FpOk X pins H b)->tn i s.heap->J.go i H ->
  wpAny (model P w) X.A (pyNext (.ref it)) (λr s1=>∃u,r=Za u /\
   wpAny (model P w) X.A (letOwnedTupleGo tg (.ref it) u) (λ_ s2=>∃x H',Inv X pins σ H' s2/\RelV x u/\J.yld i H x H'/\tn (i+1) s2.heap/\∀b∈fp,H' b=Zb) E s1) E s
 done:∀(X:Cx),X.prog=P->X.w=w->X.K=K->X.calm=Zd->∀(i:Nat) (pins:List (Zh×Obj)) (s:Zf) (σ:St) (H:Hp) (E:Ze->Zf->Prop),Inv X pins σ H s->(∀b∈fp,FpOk X pins H b)->tn i s.heap->J.stop i H ->
  wpAny (model P w) X.A (pyNext (.ref it)) (λr s1=>r=Zb/\Inv X pins σ H s1) E s
 self:∀(A:Around) (i:Nat) (s:Zf) (Q:Ze->Zf->Prop) (E:Ze->Zf->Prop),tn i s.heap->Q (.ref it) s->wpAny (model P w) A (pyIter (.ref it)) Q E s
noncomputable abbrev TI:=St->Hp->(It->Hp->Prop)->Prop
noncomputable def PIE (X:Cx) (pins:List (Zh×Obj)) (σ:St) (c:Zi) (R:It->Hp->Prop) (i:Ze) (s:Zf):Prop :=
 ∃(a:Zh) (fp:List Zh) (t:Nat->Heap->Prop) (J:It) (H:Hp),i=.ref a/\Inv X pins σ H s/\Turn X.prog X.w X.K c J fp a t/\t 0 s.heap/\(∀b∈fp,FpOk X pins H b)/\R J H
noncomputable def PI (X:Cx) (t iter:Zi) (w:TI):Prop :=
 ∀(pins:List (Zh×Obj)) (s:Zf) (σ:St) (H:Hp) (R:It->Hp->Prop),Inv X pins σ H s->w σ H R ->
  wpAny #v[2,7] X.A (eval iter X.env) (λv a=>wpAny #v[2,7] X.A (pyIter v) (PIE X pins σ t R) X.xe a) X.xe s
theorem zwr {M:Model}{A:Around}{E:Ze->Zf->Prop}{s:Zf}{t:Zi}{it:Zh}{u:Ze}{o:Obj}{n:String}{vs:Array Ze}{Q:Unit->Zf->Prop} (a:s.heap.get? it=Za o) (b:o.cls=.type n) (c:o.data=.fields vs)
    (d:["enumerate","zip","dict_itemiterator","dict_reverseitemiterator","odict_iterator","itertools.zip_longest","itertools.pairwise"].contains n=Zc) (hQ:Q () s):wpAny M A (letOwnedTupleGo t (.ref it) u) Q E s:=by
  unfold letOwnedTupleGo;cases t<;>first
    |exact Am hQ
    | (cases u<;>first
        |exact Am hQ
        | (refine Aa (wpAny_load a ?_)
           rw[b,c];show wpAny M A (if (["enumerate","zip","dict_itemiterator","dict_reverseitemiterator","odict_iterator","itertools.zip_longest","itertools.pairwise"].contains n&&vs[0]? == Za (rawInt _))=Zd then _ else _) Q E s;rw[if_neg (by intro h;rw[d,Ev] at h;cases h)];exact Am hQ))
noncomputable def Itl (K:Zg) (a:Zh):It :=
 ⟨λi H=>∃b x,SqL K H a b/\b[i]?=Za x,λi H x c=>c=H/\∀b,SqL K H a b->b[i]?=Za x,λi H=>∃b,SqL K H a b/\b.length<=i⟩
noncomputable def Itt (K:Zg) (a:Zh):It :=
 ⟨λi H=>∃b x,SqT K H a b/\b[i]?=Za x,λi H x c=>c=H/\∀b,SqT K H a b->b[i]?=Za x,λi H=>∃b,SqT K H a b/\b.length<=i⟩
noncomputable def Itr (lo:Int) (n:Nat):It:=⟨λi _=>i<n,λi H x a=>a=H/\x=.int (lo+i),λi _=>n<=i⟩
theorem zt9 {P:Program}{w:World}{K:Zg}{U:Zi}(a it:Zh):Turn P w K U (Itl K a) [it] it (λi h=>h.IsListIter it a i) where
 mem:=by simp
 obj:=λi h f b g=>by
  have e:b=it:=by simpa using g
  subst e;nofun;obtain⟨o,e,c,d⟩:=f;ac_rfl;exact⟨o,e,λv z=>by rw[d] at z;cases z⟩
 keep:=λi h m f k=>f.at λo e=>k it (by simp) o e
 item:=by
  intro X hP t hK G i pins s σ H E I n f q;subst hP t hK;nofun;obtain⟨J,x,l,y⟩:=q;obtain⟨B,F,p,L⟩:=I.list l;obtain⟨u,T,Q⟩:=F.get y;obtain⟨D,r,R,f3,C,A⟩:=n it (by simp);ac_rfl;refine wpAny_pyNext_list_item f p.isList (x:=u) (by simpa using T) λm j N=>?_;have M:Inv X pins σ H { s with heap:=m }:=I.turned (t':=s.toks) (λb o g e=>(N.2 b g).trans e) D r f3 C A;nofun;obtain⟨o,e,c,d⟩:=id j;ac_rfl;exact⟨u,rfl,zwr (s:={ s with heap:=m }) e c d #v[0,9] ⟨x,H,M,Q,⟨rfl,λW O=>by rw[I.list_inj O l];exact y⟩,j,λb g=>(n b g).1⟩⟩
 done:=by
  intro X hP t hK G i pins s σ H E I n f q;subst hP t hK;nofun;obtain⟨J,l,y⟩:=q;obtain⟨B,F,p,L⟩:=I.list l;obtain⟨D,r,R,f3,C,A⟩:=n it (by simp);ac_rfl;have V:=F.length;exact wpAny_pyNext_list_end (I.ok.hd G) f p.isList (by simp;omega) λm S=>⟨rfl,I.turned (t':=s.toks) (λb o g e=>S b o g e) D r f3 C A⟩
 self:=λ_ _ _ _ _ f h=>wpAny_pyIter_listiter f h
theorem zr7 {P:Program}{w:World}{K:Zg}{U:Zi}(a it:Zh):Turn P w K U (Itt K a) [it] it (λi h=>h.IsTupleIter it a i) where
 mem:=by simp
 obj:=λi h f b j=>by
  have e:b=it:=by simpa using j
  subst e;nofun;obtain⟨o,e,c,d⟩:=f;ac_rfl;exact⟨o,e,λv z=>by rw[d] at z;cases z⟩
 keep:=λi h n f k=>f.at λo e=>k it (by simp) o e
 item:=by
  intro X hP y hK G i pins s σ H E I q f r;subst hP y hK;nofun;obtain⟨J,x,m,A⟩:=r;obtain⟨g,F,p,L⟩:=I.tuple m;obtain⟨u,T,Q⟩:=F.get A;obtain⟨D,t,R,f3,C,B⟩:=q it (by simp);ac_rfl;refine wpAny_pyNext_tuple_item f (show s.heap.IsTuple a g.toArray from p) (x:=u) (by simpa using T) λn l N=>?_;have M:Inv X pins σ H { s with heap:=n }:=I.turned (t':=s.toks) (λb o j e=>(N.2 b j).trans e) D t f3 C B;nofun;obtain⟨o,e,c,d⟩:=id l;ac_rfl;exact⟨u,rfl,zwr (s:={ s with heap:=n }) e c d #v[0,9] ⟨x,H,M,Q,⟨rfl,λW O=>by rw[I.tuple_inj O m];exact A⟩,l,λb j=>(q b j).1⟩⟩
 done:=by
  intro X hP y hK G i pins s σ H E I q f r;subst hP y hK;nofun;obtain⟨J,m,A⟩:=r;obtain⟨g,F,p,L⟩:=I.tuple m;obtain⟨D,t,R,f3,C,B⟩:=q it (by simp);ac_rfl;have V:=F.length;exact wpAny_pyNext_tuple_end (I.ok.hd G) f (show s.heap.IsTuple a g.toArray from p) (by simp;omega) λn S=>⟨rfl,I.turned (t':=s.toks) (λb o j e=>S b o j e) D t f3 C B⟩
 self:=λ_ _ _ _ _ f h=>wpAny_pyIter_tupleiter f h
theorem zsm {P:Program}{w:World}{K:Zg}{G:Zi}(it:Zh)(lo:Int)(n:Nat):Turn P w K G (Itr lo n) [it] it (λi h=>IsRangeIter h it (lo+(i:Nat)*1) ((n:Int)-(i:Nat)) 1) where
 mem:=by simp
 obj:=λi h a b c=>by
  have e:b=it:=by simpa using c
  subst e;exact⟨_,a,λv z=>by
   have C:Data.fields _=Data.cell v:=z;cases C⟩
 keep:=λi h f a k=>k it (by simp) _ a
 item:=by
  intro X hP m hK p i pins s σ H E I g a j;subst hP m hK;nofun;obtain⟨u,l,A,f3,r,q⟩:=g it (by simp);ac_rfl;have W:=Walks.range (prog:=X.prog) (w:=X.w) (I.ok.hd p) it lo 1 n;refine W.item i s _ _ j a λv f x B d F=>?_;obtain⟨t,rfl⟩:=B;have y:Inv X pins σ H { s with heap:=f,toks:=x }:=I.turned (λb o c e=>F b o (by simpa using c) e) u l f3 r q;refine⟨_,rfl,zwr (s:={ s with heap:=f,toks:=x }) (n := "range_iterator") d rfl rfl #v[0,9] ⟨.int (lo+i),H,y,⟨t,?_⟩,⟨rfl,rfl⟩,d,λb c=>(g b c).1⟩⟩;rw[Int.mul_one]
 done:=by
  intro X hP m hK p i pins s σ H E I g a j;subst hP m hK;nofun;obtain⟨u,l,A,f3,r,q⟩:=g it (by simp);ac_rfl;exact wpAny_pyNext_range_end (I.ok.hd p) a (by have:n<=i:=j;omega) λf D=>⟨rfl,I.turned (t':=s.toks) (λb o c e=>D b o c e) u l f3 r q⟩
 self:=λ_ _ _ _ _ a h=>wpAny_pyIter_rangeiter a h
section
variable {X:Cx}{tg:Zi}
theorem zqj {pins:List (Zh×Obj)}{σ:St}{H:Hp}{s:Zf}{R:It->Hp->Prop}{E:Ze->Zf->Prop}{lo h:Int}{t u v:Tok}{tk:Nat} (I:Inv X pins σ H s) (d:-(2^62)<=lo) (c:lo<2^62) (j:-(2^62)<=h) (h4:h<2^62)
  (q:R (Itr lo (h-lo).toNat) H):wpAny #v[2,7] X.A (pyIter (.ref s.heap.objs.size)) (PIE X pins σ tg R) E { s with heap:=s.heap.push { cls:=.type "range",data:=.fields #[.int lo t,.int h u,.int 1 v] },toks:=tk }:=by
 refine wpAny_pyIter_range (IsRange.new ..) (small_one d c j h4) ?_;have a:Inv X pins σ H { s with heap:=s.heap.push { cls:=.type "range",data:=.fields #[.int lo t,.int h u,.int 1 v] },toks:=tk }:=I.kept λb o e=>Ac _ e;refine⟨(s.heap.push { cls:=.type "range",data:=.fields #[.int lo t,.int h u,.int 1 v] }).objs.size,[(s.heap.push { cls:=.type "range",data:=.fields #[.int lo t,.int h u,.int 1 v] }).objs.size],_,_,H,rfl,
  a.kept (t':=tk) λb o e=>Ac _ e,zsm _ lo (h-lo).toNat,?_,λb g=>?_,q⟩
 ·have i:lo+((0:Nat):Int)*1=lo:=by simp
  have f:(((h-lo).toNat:Nat):Int)-((0:Nat):Int)=Builtin.Range.rangeSize lo h 1:=by rw[rangeSize_one];split<;>omega
  show IsRangeIter _ _ (lo+((0:Nat):Int)*1) ((((h-lo).toNat:Nat):Int)-((0:Nat):Int)) 1;rw[i,f];exact Aq _ rfl
 ·have e:b=(s.heap.push { cls:=.type "range", data:=.fields #[.int lo t,.int h u,.int 1 v] }).objs.size:=by simpa using g
  subst e;exact a.fpOk (Ag _) (a.hok.fresh (Ag _))
noncomputable def ybt (t:TA):TI:=λσ H R=>t σ H λv a=>∃j:Int,v=[.int j]/\-(2^62)<=j/\j<2^62/\R (Itr 0 j.toNat) a
noncomputable def ya5 (t:TA):TI:=λσ H R=>t σ H λb a=>∃i j:Int,b=#v[1,18]/\(-(2^62)<=i/\i<2^62/\-(2^62)<=j/\j<2^62)/\R (Itr i (j-i).toNat) a
theorem zt7 {a:Zi}{c:TA}{p pos:Pos} (k:Gl X "range") (d:X.mg "range" = Zb) (m:PA X [a] c) (i:starEach [a] X.env=[(Zc,eval a X.env)]:=by rfl):PI X tg (.Call (.Name "range" p) [a] [] pos) (ybt c):=by
 intro pins s σ H R I h;refine Call_ (zcs I k d boot_range (Bw (thn (m pos pins s σ H _ I h) λx o ⟨u,w,l,n,b⟩=>?_) i rfl));nofun;obtain⟨j,e,b,f,q⟩:=b;ac_rfl;subst e;cases n with
 | cons r g =>
  cases g;obtain⟨t,rfl⟩:=r;exact call_range_1 (zqj l #v[] #v[] b f (by simpa using q))
theorem zwt {a b:Zi}{g:TA}{p pos:Pos} (m:Gl X "range") (l:X.mg "range" = Zb) (x:PA X [a,b] g) (w:starEach [a,b] X.env=[(Zc,eval a X.env),(Zc,eval b X.env)]:=by rfl) (c:starEach [b] X.env=[(Zc,eval b X.env)]:=by rfl) :
  PI X tg (.Call (.Name "range" p) [a,b] [] pos) (ya5 g):=by
 intro pins s σ H R I h;refine Call_ (zcs I m l boot_range (Bw (thn (x pos pins s σ H _ I h) λC z ⟨A,D,n,v,d⟩=>?_) (by rw[w,c]) (by rw[c];rfl)));nofun;obtain⟨i,j,e,⟨d,u,y,o⟩,q⟩:=d;ac_rfl;subst e;cases v with
 | cons r f =>
  cases f with
  | cons k f =>
   cases f;obtain⟨t,rfl⟩:=r;obtain⟨B,rfl⟩:=k;exact call_range_2 (zqj n d u y o q)
noncomputable def tFor (w:TI) (g:TG) (t:TS):TS:=λD σ H=>w σ H λJ f=>∃W:Nat->Nat->St->Hp->Prop,(∃m,W 0 m σ f)/\∀i m σ H,W i m σ H ->
 (J.stop i H/\D.nx σ H)\/(J.go i H/\∃N:St->Hp->Prop,(∀b a,N b a->∃d,d<m/\W (i+1) d b a)/\∀x a,J.yld i H x a->g x σ a λc e=>t { D with nx:=N,ct:=N,bk:=D.nx } c e)
noncomputable def zml (fp:List Zh) (h:Heap):List (Zh×Obj):=fp.filterMap λb=>(h.get? b).map λo=>(b,o)
theorem zd2 {fp:List Zh}{h:Heap}{b:Zh}{o:Obj}(a:b∈fp)(e:h.get? b=Za o):(b,o)∈zml fp h:=List.mem_filterMap.mpr ⟨b,a,by rw[e];rfl⟩
theorem zv0 {fp:List Zh}{h:Heap}{p:Zh×Obj} (a:p∈zml fp h):p.1∈fp/\h.get? p.1=Za p.2:=by
 obtain⟨b,d,e⟩:=List.mem_filterMap.mp a;cases q:h.get? b with
 |none=>rw[q] at e;cases e
 | some o =>
  rw[q] at e;have c:(b,o)=p:=sI e;subst c;exact⟨d,q⟩
theorem Inv.pinned {pins:List (Zh×Obj)}{σ:St}{H:Hp}{s:Zf}{fp:List Zh}(I:Inv X pins σ H s)(j:∀b∈fp,FpOk X pins H b)(c:∀b∈fp,∃o,s.heap.get? b=Za o/\∀v,o.data≠.cell v):Inv X (pins++zml fp s.heap) σ H s :=
 I.pins_of λp k=>(Cc.mp k).elim (λz=>I.pin p (Ba _ z)) λz=>by
  nofun;obtain⟨h,e⟩:=zv0 z;obtain⟨f,i,g,_⟩:=j p.1 h;obtain⟨o,a,d⟩:=c p.1 h;ac_rfl;rw[e] at a;obtain rfl:=sI a;exact⟨e,f,i,g,d⟩
theorem Inv.unpinned {pins a:List (Zh×Obj)}{σ:St}{H:Hp}{s:Zf}(I:Inv X (pins++a) σ H s):Inv X pins σ H s:=I.pins_of λp h=>I.pin p (Ba _ (Gn _ h))
theorem z9s {iter:Zi}{body:List Stmt}{P:TI}{g:TG}{tb:TS}{pos:Pos} (z:PassesOwn #v[2,7] X.A X.env X.xe) (U:X.calm=Zd) (hi:PI X tg iter P) (hg:PG X tg g) (q:PSs X body tb)
  (hs:∀x,foldedSetIterable iter X.env x=pure x:=by intro _;rfl):PS X (.For tg iter body [] pos) (tFor P g tb):=by
 intro pins s σ H D I h;refine wpAny_For (thn (hi pins s σ H _ I h) λv s1 h1=>thn h1 λitv s2 h2=>?_) hs;nofun;obtain⟨it,fp,R,J,H2,e,I2,T,F,Y,W,⟨m0,w0⟩,turn⟩:=h2;ac_rfl;subst e;have p:∀{t:Hp},(∀b∈fp,t b=Zb)->∀b∈fp,FpOk X pins t b:=λhn b q=>⟨hn b q,(Y b q).2⟩;refine codeAny_forLoop_any (λn Z=>∃i j t,Inv X pins j t Z/\R i Z.heap/\(∀b∈fp,t b=Zb)/\W i n j t) ?_ m0 ⟨0,σ,H2,I2,F,λb q=>(Y b q).1,w0⟩;rintro n Q ⟨i,l,E,S,B,A,w3⟩;rcases turn i n l E w3 with⟨stop,qn⟩|⟨go,N,hN,step⟩
 ·refine Fh z (thn (T.done X rfl rfl rfl U i pins Q l E X.xe S (p A) B stop) λr s4 ⟨G,I4⟩ => ?_);subst G;exact wpAny_execs_nil ⟨l,E,I4,qn⟩
 ·refine Fh z (thn (T.item X rfl rfl rfl U i pins Q l E X.xe S (p A) B go) λr s4 ⟨u,G,h4⟩ => ?_);subst G;refine Fh z (thn h4 λ_ s5 ⟨x,V,I5,r5,y5,y,M⟩=>?_);have O:=I5.pinned (p M) (T.obj _ _ y);refine Fh z (thn (hg _ s5 l V x u _ O r5 (step x V y5)) λ_ s6 ⟨K,H6,I6,q6⟩=>?_);refine Fh z (thn (q _ s6 K H6 _ I6 q6) λf L w=>?_);have again:∀{a:St}{c:Hp},Inv X (pins++zml fp s5.heap) a c L->N a c->∃m,m<n/\∃i j t,Inv X pins j t L/\R i L.heap/\(∀b∈fp,t b=Zb)/\W i m j t:=λ{a c} k C=>by
   obtain⟨m',hm,w7⟩:=hN a c C;refine⟨m',hm,i+1,a,c,k.unpinned,T.keep _ _ _ y λb q o e=>(k.pin (b,o) (Ba _ (Ba _ (zd2 q e)))).1,λb q=>?_,w7⟩;obtain⟨o,e,d⟩:=T.obj _ _ y b q;exact (k.pin (b,o) (Ba _ (Ba _ (zd2 q e)))).2.1
  cases f with
  |next=>obtain⟨a,c,k,C⟩:=w;exact again k C
  |cont=>obtain⟨a,c,k,C⟩:=w;exact again k C
  |brk=>obtain⟨a,c,k,w⟩:=w;exact⟨a,c,k.unpinned,w⟩
  |ret v=>obtain⟨x7,a,c,k,r7,w⟩:=w;exact⟨x7,a,c,k.unpinned,r7,w⟩
end
noncomputable abbrev R2:=V->V->Hp->VK->Prop
noncomputable def OpR (X:Cx) (f:Ze->Ze->Sem Ze) (r:R2):Prop :=
 ∀(pins:List (Zh×Obj)) (s:Zf) (σ:St) (H:Hp) (x y:V) (v u:Ze) (Q:VK),Inv X pins σ H s->RelV x v->RelV y u->r x y H Q ->
  wpAny #v[2,7] X.A (f v u) (EP X pins σ Q) X.xe s
noncomputable def UnR (X:Cx) (f:Ze->Sem Ze) (r:V->Hp->VK->Prop):Prop :=
 ∀(pins:List (Zh×Obj)) (s:Zf) (σ:St) (H:Hp) (x:V) (v:Ze) (Q:VK),Inv X pins σ H s->RelV x v->r x H Q ->
  wpAny #v[2,7] X.A (f v) (EP X pins σ Q) X.xe s
noncomputable def zek (X:Cx) (f:Ze) (r:List V->Hp->VK->Prop):Prop :=
 ∀(pins:List (Zh×Obj)) (s:Zf) (σ:St) (H:Hp) (x:List V) (u:List Ze) (Q:VK),Inv X pins σ H s->Vals x u->r x H Q ->
  wpAny #v[2,7] X.A (call f u) (EP X pins σ Q) X.xe s
noncomputable def tOp (r:R2) (c t:TE):TE:=λσ H Q=>c σ H λx b=>t σ b λy a=>r x y a Q
noncomputable def tUn (r:V->Hp->VK->Prop) (t:TE):TE:=λσ H Q=>t σ H λx a=>r x a Q
noncomputable def rI (C:Int->Int->Prop) (g:Int->Int->V):R2:=λx y H Q=>∃i j,x=.int i/\y=.int j/\C i j/\Q (g i j) H
noncomputable def rI0 (g:Int->Int->V):R2:=λx y H Q=>∃i j,x=.int i/\y=.int j/\Q (g i j) H
noncomputable def rU (g:Int->V):V->Hp->VK->Prop:=λx H Q=>∃i,x=.int i/\Q (g i) H
section
variable {X:Cx}{a b c:Zi}{ta tb tc:TE}{pos:Pos}
theorem binT (n:PE X a ta) (m:PE X b tb) {pins:List (Zh×Obj)}{s:Zf}{σ:St}{H:Hp}{R:V->V->Hp->Prop} (I:Inv X pins σ H s)
  (h:ta σ H λx i=>tb σ i λy c=>R x y c) {Q:Ze->Zf->Prop}{f:Ze->Ze->Sem Ze}
  (k:∀v u g x y c,Inv X pins σ c g->RelV x v->RelV y u->R x y c->wpAny #v[2,7] X.A (f v u) Q X.xe g) :
  wpAny #v[2,7] X.A (eval a X.env) (λv e=>wpAny #v[2,7] X.A (eval b X.env) (λu d=>wpAny #v[2,7] X.A (f v u) Q X.xe d) X.xe e) X.xe s:=by
 refine thn (n pins s σ H _ I h) λv j ⟨x,i,p,t,q⟩=>?_;refine thn (m pins j σ i _ p q) λu g ⟨y,c,o,r,l⟩=>?_;exact k v u g x y c o t r l
theorem ydu {op:Operator}{r:R2}(c:OpR X (binaryOp op) r)(j:PE X a ta)(e:PE X b tb):PE X (.BinOp a op b pos) (tOp r ta tb):=by
 intro pins s σ H Q I h;exact wpAny_BinOp (binT j e I h λv u f x y g i d k q=>c pins f σ g x y v u Q i d k q)
theorem ycu {op:UnaryOp}{r:V->Hp->VK->Prop}(b:UnR X (unaryOp op) r)(f:PE X a ta):PE X (.UnaryOp op a pos) (tUn r ta):=by
 intro pins s σ H Q I h;exact UnaryOp_ (thn (f pins s σ H _ I h) λv c ⟨x,e,d,g,q⟩=>b pins c σ e x v Q d g q)
theorem opI {f:Ze->Ze->Sem Ze}{C:Int->Int->Prop}{g:Int->Int->Int}
  (rule:∀(i j:Int) (t u:Tok) (s:Zf) (Q:Ze->Zf->Prop) (E:Ze->Zf->Prop),C i j->Q (.int (g i j) s.toks) { s with toks:=s.toks+1 }->wpAny #v[2,7] X.A (f (.int i t) (.int j u)) Q E s) :
  OpR X f (rI C λi j=>.int (g i j)):=by
 intro pins s σ H x y v u Q I r c h;obtain⟨i,j,rfl,rfl,a,q⟩:=h;obtain⟨t,rfl⟩:=r;obtain⟨b,rfl⟩:=c;exact rule i j t b s _ _ a ⟨.int (g i j),H,I.tok _,⟨_,rfl⟩,q⟩
theorem opI0 {f:Ze->Ze->Sem Ze}{g:Int->Int->Int}
  (rule:∀(i j:Int) (t u:Tok) (s:Zf) (Q:Ze->Zf->Prop) (E:Ze->Zf->Prop),Q (.int (g i j) s.toks) { s with toks:=s.toks+1 }->wpAny #v[2,7] X.A (f (.int i t) (.int j u)) Q E s) :
  OpR X f (rI0 λi j=>.int (g i j)):=by
 intro pins s σ H x y v u Q I r b h;obtain⟨i,j,rfl,rfl,q⟩:=h;obtain⟨t,rfl⟩:=r;obtain⟨a,rfl⟩:=b;exact rule i j t a s _ _ ⟨.int (g i j),H,I.tok _,⟨_,rfl⟩,q⟩
theorem opB0 {f:Ze->Ze->Sem Ze}{g:Int->Int->Bool}
  (rule:∀(i j:Int) (t u:Tok) (s:Zf) (Q:Ze->Zf->Prop) (E:Ze->Zf->Prop),Q (.bool (g i j)) s->wpAny #v[2,7] X.A (f (.int i t) (.int j u)) Q E s) :
  OpR X f (rI0 λi j=>.bl (g i j)):=by
 intro pins s σ H x y v u Q I r b h;obtain⟨i,j,rfl,rfl,q⟩:=h;obtain⟨t,rfl⟩:=r;obtain⟨a,rfl⟩:=b;exact rule i j t a s _ _ ⟨.bl (g i j),H,I,rfl,q⟩
noncomputable def CPow (i j:Int):Prop:=0<=j/\j<=1000000/\i.natAbs<2^64
noncomputable def CMul (i j:Int):Prop:=(-(2^64)<i/\i<2^64)\/(-(2^64)<j/\j<2^64)
theorem CMul.ok {i j:Int}(h:CMul i j):IntMulOk i j:=by
 rcases h with⟨b,a⟩|⟨b,a⟩
 ·exact .of_left (intBits_le_64 b a)
 ·exact .of_right (intBits_le_64 b a)
theorem zrv (k:Nat):(0:Int)<=2^k:=by
 rw[two_pow_cast];exact Ew _
theorem yal:OpR X (binaryOp .Add) (rI0 λi j=>.int (i+j)):=opI0 λ_ _ _ _ _ _ _ q=>add_int q
theorem ya2:OpR X (binaryOp .Sub) (rI0 λi j=>.int (i-j)):=opI0 λ_ _ _ _ _ _ _ q=>sub_int q
theorem z9g:OpR X (binaryOp .Mult) (rI CMul λi j=>.int (i*j)):=opI λ_ _ _ _ _ _ _ h q=>mul_int q h.ok
theorem ybf:OpR X (binaryOp .Mod) (rI (λ_ j=>0<j) λi j=>.int (i%j)):=opI λi j _ _ _ _ _ h q=>by
 have a:(0:Int)<j:=h;exact mod_int' #v[] (by rw[Int.fmod_eq_emod_of_nonneg i #v[]];exact q)
theorem z89:OpR X (binaryOp .Pow) (rI CPow λi j=>.int (i^j.toNat)):=opI λ_ _ _ _ _ _ _ h q=>pow_int_small h.1 h.2.1 h.2.2 q
theorem z9q:OpR X (binaryOp .LShift) (rI CPow λi j=>.int (i*2^j.toNat)):=opI λ_ _ _ _ _ _ _ h q=>lshift_int_small h.1 h.2.1 h.2.2 q
theorem z8x:OpR X (binaryOp .RShift) (rI (λ_ j=>0<=j) λi j=>.int (i/2^j.toNat)):=opI λi j _ _ _ _ _ h q =>
 rshift_int h (by rw[Int.fdiv_eq_ediv_of_nonneg i (zrv _)];exact q)
theorem yai:OpR X (binaryOp .BitAnd) (rI0 λi j=>.int (Builtin.bitAnd i j)):=opI0 λ_ _ _ _ _ _ _ q=>and_int q
theorem ydi:OpR X (binaryOp .BitOr) (rI0 λi j=>.int (Builtin.bitOr i j)):=opI0 λ_ _ _ _ _ _ _ q=>or_int q
theorem ybj:OpR X (binaryOp .BitXor) (rI0 λi j=>.int (Builtin.bitXor i j)):=opI0 λ_ _ _ _ _ _ _ q=>xor_int q
theorem zwi:OpR X (inplaceOp .Add) (rI0 λi j=>.int (i+j)):=opI0 λ_ _ _ _ _ _ _ q=>iadd_int q
theorem z4e:OpR X (inplaceOp .Sub) (rI0 λi j=>.int (i-j)):=opI0 λ_ _ _ _ _ _ _ q=>isub_int q
theorem z7d:OpR X (inplaceOp .Mult) (rI CMul λi j=>.int (i*j)):=opI λ_ _ _ _ _ _ _ h q=>imul_int q h.ok
theorem z73:OpR X (inplaceOp .BitAnd) (rI0 λi j=>.int (Builtin.bitAnd i j)):=opI0 λ_ _ _ _ _ _ _ q=>iand_int q
theorem z9k:OpR X (inplaceOp .BitOr) (rI0 λi j=>.int (Builtin.bitOr i j)):=opI0 λ_ _ _ _ _ _ _ q=>ior_int q
theorem z4d:OpR X (inplaceOp .BitXor) (rI0 λi j=>.int (Builtin.bitXor i j)):=opI0 λ_ _ _ _ _ _ _ q=>ixor_int q
theorem unI {f:Ze->Sem Ze}{g:Int->Int}
  (rule:∀(i:Int) (t:Tok) (s:Zf) (Q:Ze->Zf->Prop) (E:Ze->Zf->Prop),Q (.int (g i) s.toks) { s with toks:=s.toks+1 }->wpAny #v[2,7] X.A (f (.int i t)) Q E s) :
  UnR X f (rU λi=>.int (g i)):=by
 intro pins s σ H x v Q I r h;obtain⟨i,rfl,q⟩:=h;obtain⟨t,rfl⟩:=r;exact rule i t s _ _ ⟨.int (g i),H,I.tok _,⟨_,rfl⟩,q⟩
theorem yci:UnR X (unaryOp .USub) (rU λi=>.int (-i)):=unI λ_ _ _ _ _ q=>neg_int q
end
noncomputable def scal:V->V->Bool
 |.non,.non=>Zd|.non,.int _=>Zd|.int _,.non=>Zd|.non,.bl _=>Zd|.bl _,.non=>Zd|.non,.str _=>Zd|.str _,.non=>Zd
 |.int _,.int _=>Zd|.bl _,.bl _=>Zd|.str _,.str _=>Zd|.byt _,.byt _=>Zd
 |.int _,.str _=>Zd|.str _,.int _=>Zd|.bl _,.str _=>Zd|.str _,.bl _=>Zd
 |_,_=>Zc
noncomputable def rEq:R2:=λx y H Q=>scal x y=Zd/\Q (.bl (decide (x=y))) H
noncomputable def rNe:R2:=λx y H Q=>scal x y=Zd/\Q (.bl (!decide (x=y))) H
theorem zyd {i j:Int}:decide (V.int i=V.int j)=(i==j):=by
 rw[Eh];simp
theorem z3u {i j:Bool}:decide (V.bl i=V.bl j)=(i==j):=by
 rw[Eh];simp
theorem zs5 {i j:Str}:decide (V.str i=V.str j)=(i==j):=by
 rw[Eh];simp
theorem zwh {i j:Array UInt8}:decide (V.byt i=V.byt j)=(i.toList==j.toList):=by
 rw[Eh];cases i;cases j;simp
section
variable {X:Cx}{a b c:Zi}{ta tb tc:TE}{pos:Pos}
theorem zah {pins:List (Zh×Obj)}{σ:St}{H:Hp}{s:Zf}{Q:VK}{k a:Bool}(I:Inv X pins σ H s)(q:Q (.bl k) H)(e:k=a):EP X pins σ Q (.bool a) s:=by
 subst e;exact⟨.bl k,H,I,rfl,q⟩
theorem ydc:OpR X (compareOp .Eq) rEq:=by
 intro pins s σ H x y v u Q I c r h;obtain⟨b,q⟩:=h;cases x with
 | non =>
  cases c;cases y with
  |non=>cases r;exact PySem.EqNone.eq_none_none (zah I q (by simp))
  |bl j=>cases r;exact PySem.EqNone.eq_none_bool (zah I q (by simp))
  |int j=>obtain⟨a,rfl⟩:=r;exact PySem.EqNone.eq_none_int (zah I q (by simp))
  |str j=>obtain⟨a,rfl⟩:=r;exact PySem.EqNone.eq_none_str (zah I q (by simp))
  |_=>exact absurd (show Zc=Zd from b) At
 | bl i =>
  cases c;cases y with
  |non=>cases r;exact PySem.EqNone.eq_bool_none (zah I q (by simp))
  |bl j=>cases r;exact eq_bool (zah I q z3u)
  |str j=>obtain⟨a,rfl⟩:=r;exact PySem.EqMixed.eq_bool_str (zah I q (by simp))
  |_=>exact absurd (show Zc=Zd from b) At
 | int i =>
  obtain⟨t,rfl⟩:=c;cases y with
  |non=>cases r;exact PySem.EqNone.eq_int_none (zah I q (by simp))
  |int j=>obtain⟨a,rfl⟩:=r;exact eq_int (zah I q zyd)
  |str j=>obtain⟨a,rfl⟩:=r;exact PySem.EqMixed.eq_int_str (zah I q (by simp))
  |_=>exact absurd (show Zc=Zd from b) At
 | str i =>
  obtain⟨t,rfl⟩:=c;cases y with
  |non=>cases r;exact PySem.EqNone.eq_str_none (zah I q (by simp))
  |bl j=>cases r;exact PySem.EqMixed.eq_str_bool (zah I q (by simp))
  |int j=>obtain⟨a,rfl⟩:=r;exact PySem.EqMixed.eq_str_int (zah I q (by simp))
  |str j=>obtain⟨a,rfl⟩:=r;exact eq_str (zah I q zs5)
  |_=>exact absurd (show Zc=Zd from b) At
 | byt i =>
  obtain⟨t,rfl⟩:=c;cases y with
  |byt j=>obtain⟨a,rfl⟩:=r;exact PySem.W.eq_bytes (zah I q zwh)
  |_=>exact absurd (show Zc=Zd from b) At
 |_=>cases y<;>exact absurd (show Zc=Zd from b) At
theorem yc4:OpR X (compareOp .NotEq) rNe:=by
 intro pins s σ H x y v u Q I c r h;obtain⟨b,q⟩:=h;cases x with
 | non =>
  cases c;cases y with
  |non=>cases r;exact PySem.EqNone.ne_none_none (zah I q (by simp))
  |bl j=>cases r;exact PySem.EqNone.ne_none_bool (zah I q (by simp))
  |int j=>obtain⟨a,rfl⟩:=r;exact PySem.EqNone.ne_none_int (zah I q (by simp))
  |str j=>obtain⟨a,rfl⟩:=r;exact PySem.EqNone.ne_none_str (zah I q (by simp))
  |_=>exact absurd (show Zc=Zd from b) At
 | bl i =>
  cases c;cases y with
  |non=>cases r;exact PySem.EqNone.ne_bool_none (zah I q (by simp))
  |bl j=>cases r;exact ne_bool (zah I q (congrArg not z3u))
  |str j=>obtain⟨a,rfl⟩:=r;exact PySem.EqMixed.ne_bool_str (zah I q (by simp))
  |_=>exact absurd (show Zc=Zd from b) At
 | int i =>
  obtain⟨t,rfl⟩:=c;cases y with
  |non=>cases r;exact PySem.EqNone.ne_int_none (zah I q (by simp))
  |int j=>obtain⟨a,rfl⟩:=r;exact ne_int (zah I q (congrArg not zyd))
  |str j=>obtain⟨a,rfl⟩:=r;exact PySem.EqMixed.ne_int_str (zah I q (by simp))
  |_=>exact absurd (show Zc=Zd from b) At
 | str i =>
  obtain⟨t,rfl⟩:=c;cases y with
  |non=>cases r;exact PySem.EqNone.ne_str_none (zah I q (by simp))
  |bl j=>cases r;exact PySem.EqMixed.ne_str_bool (zah I q (by simp))
  |int j=>obtain⟨a,rfl⟩:=r;exact PySem.EqMixed.ne_str_int (zah I q (by simp))
  |str j=>obtain⟨a,rfl⟩:=r;exact ne_str (zah I q (congrArg not zs5))
  |_=>exact absurd (show Zc=Zd from b) At
 | byt i =>
  obtain⟨t,rfl⟩:=c;cases y with
  |byt j=>obtain⟨a,rfl⟩:=r;exact PySem.W.ne_bytes (zah I q (congrArg not zwh))
  |_=>exact absurd (show Zc=Zd from b) At
 |_=>cases y<;>exact absurd (show Zc=Zd from b) At
theorem yc1:OpR X (compareOp .Lt) (rI0 λi j=>.bl (decide (i<j))):=opB0 λ_ _ _ _ _ _ _ q=>lt_int q
theorem yco:OpR X (compareOp .LtE) (rI0 λi j=>.bl (decide (i<=j))):=opB0 λ_ _ _ _ _ _ _ q=>le_int q
theorem ycw:OpR X (compareOp .Gt) (rI0 λi j=>.bl (decide (j<i))):=opB0 λ_ _ _ _ _ _ _ q=>gt_int q
theorem yc8:OpR X (compareOp .GtE) (rI0 λi j=>.bl (decide (j<=i))):=opB0 λ_ _ _ _ _ _ _ q=>ge_int q
theorem yb9:OpR X (compareOp .Is) (λx y H Q=>y=.non/\Q (.bl (decide (x=.non))) H):=by
 intro pins s σ H x y v u Q I r a h;obtain⟨rfl,q⟩:=h;cases a;refine is_none_gen (zah I q ?_);cases x<;>first
  |(cases r;rfl)
  |(obtain⟨t,rfl⟩:=r;rfl)
theorem OpR.or {f:Ze->Ze->Sem Ze}{r a:R2}(h:OpR X f r)(h':OpR X f a):OpR X f (λx y H Q=>r x y H Q\/a x y H Q):=by
 intro pins s σ H x y v u Q I b c q;rcases q with q|q
 ·exact h pins s σ H x y v u Q I b c q
 ·exact h' pins s σ H x y v u Q I b c q
theorem z41 {op:CmpOp}{r:R2}(c:OpR X (compareOp op) r)(k:PE X a ta)(f:PE X b tb)(d:behindInMarks op b=Zc):PE X (.Compare a [op] [b] pos) (tOp r ta tb):=by
 intro pins s σ H Q I h;exact wpAny_Compare1 (binT k f I h λv u g x y i j e l q=>c pins g σ i x y v u Q j e l q) d
noncomputable def ybh (t:TE):TT:=λσ H Q=>t σ H λx a=>∃k,x=.bl k/\Q k a
theorem z65 {op:CmpOp}{r:R2}(t:OpR X (compareOp op) r)(D:PE X a ta)(w:PE X b tb)(f:behindInMarks op b=Zc):PT X (.Compare a [op] [b] pos) (ybh (tOp r ta tb)):=by
 intro pins s σ H Q I h;refine wpAny_isTrue_Compare1 (thn (D pins s σ H _ I h) λv l ⟨x,C,i,p,q⟩=>thn (w pins l σ C _ i q) λu n ⟨y,A,B,o,m⟩ =>
  thn (t pins n σ A x y v u _ B p o m) λc F ⟨z,d,j,g,k,e,E⟩=>?_) f
 subst e;cases g;exact Ft ⟨d,j,E⟩
theorem zp3:(sizeLine:Nat)<2^63:=by rw[Hd];decide
theorem zsf:OpR X (binaryOp .Add) (λx y H Q=>∃i j,x=.str i/\y=.str j/\i.length+j.length<=sizeLine/\Q (.str (i++j)) H):=by
 intro pins s σ H x y v u Q I r c h;obtain⟨i,j,rfl,rfl,b,q⟩:=h;obtain⟨t,rfl⟩:=r;obtain⟨a,rfl⟩:=c;exact add_str (λa d=>⟨.str (i++j),H,I.tok _,⟨_,rfl⟩,q⟩) b
theorem vals1 {x:V}{a:List Ze}(r:Vals [x] a):∃u,a=[u]/\RelV x u:=by
 cases r with
 |cons b c=>cases c;exact⟨_,rfl,b⟩
theorem z8o {x y:V}{a:List Ze} (r:Vals [x,y] a):∃u w,a=[u,w]/\RelV x u/\RelV y w:=by
 cases r with
 | cons e c =>
  cases c with
  |cons b d=>cases d;exact⟨_,_,rfl,e,b⟩
theorem z2g:zek X (.builtin "abs") (λx H Q=>∃i,x=[.int i]/\Q (.int (if i<0 then -i else i)) H):=by
 intro pins s σ H x b Q I r h;obtain⟨i,rfl,q⟩:=h;obtain⟨u,rfl,t,rfl⟩:=vals1 r;exact call_abs_int λu a=>⟨.int (if i<0 then -i else i),H,I.tok _,⟨_,rfl⟩,q⟩
theorem zuf (b:X.calm=Zd):zek X (.builtin "max") (λx H Q=>∃i j,x=#v[1,18]/\Q (.int (if j > i then j else i)) H):=by
 intro pins s σ H x f Q I r h;nofun;obtain⟨i,j,rfl,q⟩:=h;obtain⟨u,w,rfl,⟨t,rfl⟩,⟨d,rfl⟩⟩:=z8o r;ac_rfl;refine max_two_ints (I.ok.hd b) λc e k=>⟨_,H,I.kept k,?_,q⟩;by_cases a:j > i
 ·rw[if_pos a,if_pos a];exact⟨_,rfl⟩
 ·rw[if_neg a,if_neg a];exact⟨_,rfl⟩
theorem zvo (b:X.calm=Zd):zek X (.builtin "min") (λx H Q=>∃i j,x=#v[1,18]/\Q (.int (if j<i then j else i)) H):=by
 intro pins s σ H x f Q I r h;obtain⟨i,j,rfl,q⟩:=h;obtain⟨u,w,rfl,⟨t,rfl⟩,⟨d,rfl⟩⟩:=z8o r;refine min_two_ints (I.ok.hd b) λc e k=>⟨_,H,I.kept k,?_,q⟩;by_cases a:j<i
 ·rw[if_pos a,if_pos a];exact⟨_,rfl⟩
 ·rw[if_neg a,if_neg a];exact⟨_,rfl⟩
theorem zye:zek X (.type "int") (λx H Q=>(∃i,x=[.int i]/\Q (.int i) H)\/∃k,x=[.bl k]/\Q (.int (if k then 1 else 0)) H):=by
 intro pins s σ H x b Q I r h;rcases h with⟨i,rfl,q⟩|⟨k,rfl,q⟩
 ·obtain⟨u,rfl,t,rfl⟩:=vals1 r;exact call_int_int ⟨.int i,H,I,⟨_,rfl⟩,q⟩
 ·obtain⟨u,rfl,a⟩:=vals1 r;cases a;exact call_int_bool ⟨.int (if k then 1 else 0),H,I.tok _,⟨_,rfl⟩,q⟩
end
structure ObjM (h:Heap) (x dx C:Zh) (mA:Str->Option Ze):Prop where
 obj:h.get? x=Za (PySem.W.instObj C dx)
 ns:h.Ns1 dx mA
 ne:dx≠x
theorem zv1 {h:Heap}{d:Zh}{mA:Str->Option Ze}(n:h.Ns1 d mA):∃f,h.get? d=Za f/\∀name,PySem.W.lookIn name f=Za (mA name):=by
 nofun;obtain⟨o,c,p,g,m,k,_,i⟩:=n;ac_rfl;refine⟨o,g,λname=>?_⟩;have e:=i name;unfold nsFind findBy at e;rw[<-Array.find?_toList] at e;unfold PySem.W.lookIn;rw[m];dsimp only;split
 ·rename_i y q;rw[q] at e;exact congrArg Za e
 ·rename_i q;rw [q] at e;have a:c.toList.any (·.refKey)=Zc:=by
   rw[List.any_eq_false];intro y j;obtain⟨z,t,b⟩:=k y (Array.mem_toList_iff.mp j);simp [DictEntry.refKey,b]
  have l : ¬ c.toList.any (·.refKey)=Zd:=by rw[a];exact At
  rw[if_neg l];exact congrArg Za e
theorem ObjM.look {h:Heap}{x d C:Zh}{mA:Str->Option Ze}(I:ObjM h x d C mA):∃o,PySem.W.InstAt h x (PySem.W.instObj C d) C (Za o)/\∀name,PySem.W.lookIn name o=Za (mA name) :=
 let ⟨o,a,b⟩:=zv1 I.ns
 ⟨o,⟨I.obj,rfl,rfl,a⟩,b⟩
section
variable {prog:Program}{w:World}{A:Around}{E:Ze->Zf->Prop}{s:Zf}{K:Zg}{x dx C f:Zh}{mA:Str->Option Ze}{name:Str}{v:Ze}
end
section
variable {P:Program}{w:World}{H H' : Hp}{h h' : Heap}{a C dx:Zh}{fs fs' : List (Str × V)}
theorem z5d (b:HOk P w H h)(e:H a=Za (.ins C dx fs)):∃mA,ObjM h a dx C mA/\(∀f,RelO (fs.lookup f) (mA f))/\PySem.Within mA (fs.map (·.1))/\fs.length<=1000/\H dx=Za (.own a):=by
 nofun;obtain⟨d,z,ne,o,mA,n,r,q⟩:=(show zbp P w H h a (.ins C dx fs) from b a _ e);ac_rfl;exact⟨mA,⟨o,n,ne⟩,r,q,z,d⟩
end
structure Cls (K:Zg) (C:Zh):Prop where
 pg:PySem.W.plainGet K C Str.empty=Zd
 hd:PySem.W.hasDictIn K C=Zd
 po:PySem.W.plainOver K C=Zd
 sa:PySem.W.findIn K (.ref C) "__setattr__" = Za (Za (.builtin "object.__setattr__"))
theorem Cls.get {K:Zg}{C:Zh}(c:Cls K C)(f:Str):PySem.W.plainGet K C f=Zd:=c.pg
section
variable {X:Cx}{pins:List (Zh × Obj)}{σ:St}{H:Hp}{s:Zf}{a C dx:Zh}{fs:List (Str × V)}{f:Str}{v:V}{A:Around}{E:Ze->Zf->Prop}
end
section
variable {X:Cx}{o e value:Zi}{f:Str}{pos pos' tpos:Pos}{ta tv:TE}
end
section
variable {X:Cx}{pins:List (Zh × Obj)}{σ:St}{H:Hp}{s:Zf}{A:Around}{E:Ze->Zf->Prop}{Q:Ze->Zf->Prop}{c:Ze}{b:Bool}
inductive TyOf (K:Zg) (H:Hp):V->Ze->Prop where
 |non:TyOf K H .non (.type "NoneType")
 |bl (x:Bool):TyOf K H (.bl x) (.type "bool")
 |int (i:Int):TyOf K H (.int i) (.type "int")
 |str (x:Str):TyOf K H (.str x) (.type "str")
 |flt (x:UInt64):TyOf K H (.flt x) (.type "float")
 |lst {a:Zh}{xs:List V} (e:H a=Za (.lst xs)):TyOf K H (.ref a) (.type "list")
 |frz {a:Zh}{o:Obj}{xs:List V} (e:H a=Za (.frz o (.lst xs))):TyOf K H (.ref a) (.type "list")
 |tup {a:Zh}{xs:List V} (e:H a=Za (.tup xs)):TyOf K H (.ref a) (.type "tuple")
 |dK {a:Zh}{kvs:List (Key×V)} (e:H a=Za (.dK kvs)):TyOf K H (.ref a) (.type "dict")
 |dT {a:Zh}{kvs:List (List Key×V)} (e:H a=Za (.dT kvs)):TyOf K H (.ref a) (.type "dict")
 | ins {a C dx:Zh}{fs:List (Str×V)} (e:H a=Za (.ins C dx fs)) (cl:Cls K C) (ha:PySem.W.findIn K (.ref C) "__class__" = Za (Za (.builtin "object.__class__")))
  (hn:PySem.W.specialIn K (.builtin "object.__class__") "__get__" = Za (Za (.builtin "getset_descriptor.__get__"))) (htk:PySem.W.takesIn K (.builtin "object.__class__")=Za Zd)
  (hm:PySem.W.mroIn K C (.type "object")=Za Zd):TyOf K H (.ref a) (.ref C)
theorem zte {x:V}{u t:Ze} (I:Inv X pins σ H s) (r:RelV x u) (F:TyOf X.K H x t) (e:PySem.W.kitOne X.K t c=Za b) (h:∀G,Q (.bool b) { s with toks:=G }) :
  wpAny #v[2,7] A (call (.builtin "isinstance") [u,c]) Q E s:=by
 cases F with
 |non=>cases (show u=Ze.none from r);exact Cy PySem.W.kitx_none I.kIn True.intro e (λz=>nomatch z) h
 |bl y=>cases (show u=Ze.bool y from r);exact Cy PySem.W.kitx_bool I.kIn True.intro e (λz=>nomatch z) h
 |int i=>obtain⟨t,q⟩:=(show ∃t,u=Ze.int i t from r);cases q;exact Cy PySem.W.kitx_int I.kIn True.intro e (λz=>nomatch z) h
 |str y=>obtain⟨t,q⟩:=(show ∃t,u=Ze.str y t from r);cases q;exact Cy PySem.W.kitx_str I.kIn True.intro e (λz=>nomatch z) h
 |flt y=>obtain⟨t,q⟩:=(show ∃t,u=Ze.float y t from r);cases q;exact Cy PySem.W.kitx_float I.kIn True.intro e (λz=>nomatch z) h
 | @lst a g d =>
  cases (show u=Ze.ref a from r);obtain⟨_,_,n,_,f⟩:=(show zbp X.prog X.w H s.heap a (.lst g) from I.hok a _ d);exact Cy PySem.W.kitx_list I.kIn ⟨_,f,rfl⟩ e (λz=>nomatch z) h
 | @frz a w g d =>
  cases (show u=Ze.ref a from r);obtain⟨_,_,_,n,_,f⟩:=(show zbp X.prog X.w H s.heap a (.frz w (.lst g)) from I.hok a _ d);exact Cy PySem.W.kitx_list I.kIn ⟨_,f,rfl⟩ e (λz=>nomatch z) h
 | @tup a g d =>
  cases (show u=Ze.ref a from r);obtain⟨_,_,_,p⟩:=(show zbp X.prog X.w H s.heap a (.tup g) from I.hok a _ d);obtain⟨o,f,j,_⟩:=p;exact Cy PySem.W.kitx_tuple I.kIn ⟨o,f,j.1⟩ e (λz=>nomatch z) h
 | @dK a kvs d =>
  cases (show u=Ze.ref a from r);obtain⟨_,_,M,_,p⟩:=(show zbp X.prog X.w H s.heap a (.dK kvs) from I.hok a _ d);obtain⟨o,D,B,f,j,_⟩:=p;exact Cy PySem.W.kitx_dict I.kIn ⟨o,f,j.1⟩ e (λz=>nomatch z) h
 | @dT a kvs d =>
  cases (show u=Ze.ref a from r);obtain⟨_,_,g,_,o,D,B,f,j,_⟩:=(show zbp X.prog X.w H s.heap a (.dT kvs) from I.hok a _ d);exact Cy PySem.W.kitx_dict I.kIn ⟨o,f,j.1⟩ e (λz=>nomatch z) h
 | @ins a C N fs d l L K k m =>
  cases (show u=Ze.ref a from r);obtain⟨mA,O,_⟩:=z5d I.hok d;obtain⟨P,J,_⟩:=O.look;exact Cy (PySem.W.kitx_own (l.get _) l.hd L K k m) I.kIn J e (λz=>nomatch z) h
end
structure Room (k:Nat) (A:Around):Prop where
 hd:A.handled=Zb
 dp:A.depth+3*k+5<recursionLimit
 un:A.units+16*k+200<cLine
 gd:A.guards=Za []
theorem Room.mono {j k:Nat}{A:Around}(r:Room k A)(h:j<=k):Room j A:=⟨r.hd,by have:=r.dp;omega,by have:=r.un;omega,r.gd⟩
theorem Room.deeper {k:Nat}{A:Around}(r:Room (k+1) A)(env:Env):Room k (A.deeper env) :=
 ⟨r.hd,by have:=r.dp;show A.depth+1+3*k+5<_;omega,by have:=r.un;show A.units+3+16*k+200<_;omega,r.gd⟩
theorem Room.depth {k:Nat}{A:Around}(r:Room k A):A.depth<recursionLimit:=by have:=r.dp;omega
noncomputable def tNil:TA:=λ_ H Q=>Q [] H
noncomputable def zds (d:TE) (t:TA):TA:=λσ H Q=>d σ H λx c=>t σ c λa b=>Q (x::a) b
section
variable {X:Cx}{e:Zi}{es:List Zi}{te:TE}{t:TA}{pos:Pos}
theorem zdi:PA X [] tNil:=λ_ _ _ _ H Q I h=>Calls.spliced_nil ⟨[],H,I,.nil,h⟩
theorem zj3 (k:PE X e te)(m:PA X es t)(d:starEach (e::es) X.env=(Zc,eval e X.env)::starEach es X.env:=by rfl):PA X (e::es) (zds te t):=by
 intro pos pins s σ H Q I h;rw[d];show wpAny _ _ (spliced ((Zc,eval e X.env)::backTo pos (starEach es X.env))) _ _ s;refine Calls.spliced_cons (thn (k pins s σ H _ I h) λu a ⟨x,j,i,l,q⟩=>?_);exact thn (m pos pins a σ j _ i q) λo n ⟨b,f,g,r,c⟩=>⟨x::b,f,g,.cons l r,c⟩
noncomputable def tTup (t:TA):TE:=λσ H Q=>t σ H λx a=>x.length<=sizeLine/\∀p,a p=Zb->Q (.ref p) (upd a p (.tup x))
noncomputable def tLst (t:TA):TE:=λσ H Q=>t σ H λx a=>x.length<=sizeLine/\∀p,a p=Zb->Q (.ref p) (upd a p (.lst x))
theorem z83 {i}(h:PA X es t):PE X (.Tuple es i pos) (tTup t):=by
 intro pins s σ H Q I f;refine wpAny_Tuple_spliced (thn (h pos pins s σ H _ I f) λj a ⟨x,d,c,r,z,q⟩=>⟨by rw[<-r.length];exact z,?_⟩);have g:d a.heap.objs.size=Zb:=c.hok.fresh (Ag _);refine⟨.ref a.heap.objs.size,upd d a.heap.objs.size (.tup x),c.laid (t':=a.toks) (λb u e=>Ac _ e) (Ag _) ?_,rfl,q _ g⟩;exact⟨z,j,r,⟨_,Aq _ rfl,⟨rfl,_,rfl⟩,rfl⟩⟩
theorem z9i (h:PA X es t):PE X (.List es pos) (tLst t):=by
 intro pins s σ H Q I f;refine wpAny_List_spliced (thn (h pos pins s σ H _ I f) λi a ⟨x,d,c,r,z,q⟩=>⟨by rw[<-r.length];exact z,?_⟩);have g:d a.heap.objs.size=Zb:=c.hok.fresh (Ag _);refine⟨.ref a.heap.objs.size,upd d a.heap.objs.size (.lst x),c.laid (t':=a.toks) (λb u e=>Ac _ e) (Ag _) ?_,rfl,q _ g⟩;exact⟨z,i,0,r,Aq _ rfl⟩
end
noncomputable abbrev Sp:=List V->Hp->VK->XK->Prop
noncomputable abbrev CXT:=List Env->Hp->Zf->XK->Ze->Zf->Prop
structure Env0 (P:Program) (w:World) (K:Zg) (mg:Str->Option Ze) (base:Heap) (A:Around) (outer:List Env) (s:Zf) (H:Hp):Prop where
 frames:A.frames=Za outer
 mod:Mod K mg base
 bs:∀b o,base.get? b=Za o->s.heap.get? b=Za o/\H b=Zb
 bsz:base.objs.size<=s.heap.objs.size
 funs:s.heap.FunFrames base outer
 frf:∀b∈frs outer,H b=Zb
 hok:HOk P w H s.heap
 bare:AllBare s.gens
noncomputable def CE (outer:List Env) (P:Program) (w:World) (H:Hp) (s:Zf) (Q:VK) (u:Ze) (s':Zf):Prop :=
 ∃v a,s'.os=s.os/\AllBare s'.gens/\Un (frs outer) [] H a s.heap s'.heap/\HOk P w a s'.heap/\RelV v u/\Q v a
noncomputable def CR (CX:CXT) (outer:List Env) (P:Program) (w:World) (H:Hp) (s:Zf) (Q:VK) (E:XK) (r:Result) (s':Zf):Prop :=
 match r with
 |.ok (.ret u)=>CE outer P w H s Q u s'
 |.ok _=>False
 |.error e=>CX outer H s E e s'
structure FnOk (P:Program) (w:World) (K:Zg) (mg:Str->Option Ze) (base:Heap) (CX:CXT) (k:Nat) (f:Zh) (fd:FuncData) (ps:List Str) (sp:Sp):Prop where
 len:∀vs H Q E,sp vs H Q E->vs.length=ps.length
 run:∀(A:Around) (outer:List Env) (s:Zf) (H:Hp) (args:Args) (us:List Ze) (vs:List V) (Q:VK) (E:XK),Room k A->Env0 P w K mg base A outer s H->BindsTo s fd args (ps.zip us)->Vals vs us->sp vs H Q E ->
  codeAny (model P w) A (.call (.ref f) args) (CR CX outer P w H s Q E) s
section
variable {X:Cx}{pins:List (Zh × Obj)}{σ:St}{H:Hp}{s s' : Zf}
theorem Inv.env0 (I:Inv X pins σ H s):Env0 X.prog X.w X.K X.mg X.base X.A X.stack s H :=
 ⟨I.ok.frames,I.ok.mod,I.bs,Bj I.ok.bsz I.sz,I.stack,I.stkFree,I.hok,I.bare⟩
theorem Inv.after {Q:VK}{u:Ze}(I:Inv X pins σ H s)(h:CE X.stack X.prog X.w H s Q u s'):EP X pins σ Q u s':=by
 nofun;obtain⟨v,c,e,bare,un,a,r,q⟩:=h;obtain⟨f,g,d,t,o⟩:=s';ac_rfl;obtain rfl:o=s.os:=e;exact⟨v,c,I.call (h':=f) (g':=g) (d':=d) (t':=t) (ch:=[]) un a bare (λb z=>absurd z (by simp)),r,q⟩
end
noncomputable def z4l (sp:Sp) (dvs:List V) (E:XK) (t:TA):TE:=λσ H Q=>t σ H λv a=>sp (v++dvs) a Q E
noncomputable def zoi (K:Zg) (f:FuncData) (ps:List Str) (d:List Ze):Prop :=
 ∀(s:Zf) (u:List Ze),K.In s.heap->(u++d).length=ps.length->BindsTo s f ⟨u,[]⟩ (ps.zip (u++d))
theorem zoi.all {K:Zg}{f:FuncData}{ps:List Str}(h:∀u:List Ze,u.length=ps.length->bindArgs f ⟨u,[]⟩=pure (ps.zip u)):zoi K f ps []:=λs u _ a=>by
 rw[By] at a ⊢;exact .of_eq (h u a)
noncomputable def zug (CX:CXT) (X:Cx) (E:XK):Prop:=∀(pins:List (Zh×Obj)) (σ:St) (H:Hp) (s:Zf) (e:Ze) (a:Zf),Inv X pins σ H s->CX X.stack H s E e a->X.xe e a
section
variable {X:Cx}{CX:CXT}{k:Nat}{f C:Zh}{fd:FuncData}{ps:List Str}{sp:Sp}{dvs:List V}{ds:List Ze}{E:XK}{x m:Str}{p pos apos:Pos}{e o:Zi}{es:List Zi}{ta:TE}{t:TA}
theorem z9r {pins:List (Zh×Obj)}{σ:St}{H:Hp}{s:Zf}{Q:VK}{a:List Ze}{vs:List V} (F:FnOk X.prog X.w X.K X.mg X.base CX k f fd ps sp) (m:Room k X.A) (i:zoi X.K fd ps ds) (n:Vals dvs ds) (g:zug CX X E)
  (I:Inv X pins σ H s) (r:Vals vs a) (h:sp (vs++dvs) H Q E):wpAny #v[2,7] X.A (call (.ref f) a) (EP X pins σ Q) X.xe s:=by
 have c:Vals (vs++dvs) (a++ds):=r.append n;have l:(a++ds).length=ps.length:=by rw[<-c.length];exact F.len _ _ _ _ h
 refine wpAny_call (codeAny_mono (F.run X.A X.stack s H ⟨a,[]⟩ (a++ds) (vs++dvs) Q E m I.env0 (i s a I.kIn l) c h) λr d b=>?_);cases r with
 |error e=>exact g pins σ H s e d I b
 | ok j =>
  cases j with
  |ret u=>exact I.after b
  |next=>exact False.elim b
  |brk=>exact False.elim b
  |cont=>exact False.elim b
theorem z7z (F:FnOk X.prog X.w X.K X.mg X.base CX k f fd ps sp) (o:Room k X.A) (j:Gl X x) (d:X.mg x=Za (.ref f)) (l:PySem.W.keepIn X.K (.ref f)=Zd) (i:zoi X.K fd ps ds) (u:Vals dvs ds) (g:zug CX X E)
  (n:PA X (e::es) t) (b:(x==("__debug__" : Str))=Zc:=by decide) (m:starEach (e::es) X.env=(Zc,eval e X.env)::starEach es X.env:=by rfl) (a:(backTo pos (starEach es X.env)).any (·.1)=Zc:=by rfl) :
  PE X (.Call (.Name x p) (e::es) [] pos) (z4l sp dvs E t):=by
 intro pins s σ H Q I h;refine Gf (z8b I j d ?_ b);refine PySem.W.callWith_K (h₀:=X.base) I.ok.mod.kin l (thn (n pos pins s σ H _ I h) λz v ⟨w,y,c,r,q⟩=>⟨c.kIn,?_⟩) m a;exact z9r F o i u g c r q
end
section
variable {X:Cx}{CX:CXT}{k:Nat}{f C:Zh}{fd:FuncData}{ps ks:List Str}{sp:Sp}{E:XK}{x m:Str}{p pos apos kpos:Pos}{e o:Zi}{es:List Zi}{kws:List Keyword}{te ta:TE}{t tk:TA}{nm:Option Str}
variable {g:List Ze->List Ze->List Ze}{gV:List V->List V->List V}
end
structure FnScope (N P:List Str) (sc:Scope):Prop where
 kind:sc.kind=.function
 co:sc.isCoroutine=Zc
 gen:sc.isGenerator=Zc
 nd:N.Nodup
 pre:N.take P.length=P
 par:∀x∈P,sc.names.lookup x=Za .local\/sc.names.lookup x=Za .cell
 nofree:∀y∈sc.names,y.2≠.free
theorem znc {kindOf:Str->Option NameKind}{x:Str}:∀{binds:List (Str×Ze)}{m:Str->Option Ze},(∀v,(x,v) ∉ binds)->bindL kindOf binds m x=m x
 |[],_,_=>rfl
 | (n,v)::r,m,h=>by
  unfold bindL;rw[znc λw a=>h w (An _ a)];split
  ·have:x≠n:=by rintro rfl;exact h v Av
   simp [this]
  ·rfl
theorem zlr {kindOf:Str->Option NameKind}{x:Str}:∀{binds:List (Str×Ze)}{m:Str->Option Ze},(∀v,(x,v) ∉ binds)->bindC kindOf binds m x=m x
 |[],_,_=>rfl
 | (n,v)::r,m,h=>by
  unfold bindC;rw[zlr λw a=>h w (An _ a)];split
  ·rfl
  ·have:x≠n:=by rintro rfl;exact h v Av
   simp [this]
theorem zlu {kindOf:Str->Option NameKind}{x:Str}{v:Ze}:∀{P:List Str}{a:List Ze}{i:Nat}{m:Str->Option Ze},P.Nodup->P[i]?=Za x->a[i]?=Za v->kindOf x=Za .local ->
  bindL kindOf (P.zip a) m x=Za v
 |[],_,_,_,_,h,_,_=>by simp at h
 |_::_,[],_,_,_,_,h,_=>by simp at h
 | p::P,w::a,0,m,n,c,b,d=>by
  simp at c b;subst c;subst b;show bindL kindOf ((p,w)::P.zip a) m p=_;unfold bindL;rw[znc λv e=>(Bq.mp n).1 (Fb e).1,if_pos d];simp
 | p::P,w::a,i+1,m,n,c,b,d=>by
  show bindL kindOf ((p,w)::P.zip a) m x=_;unfold bindL;exact zlu (i:=i) (Bq.mp n).2 (by simpa using c) (by simpa using b) d
theorem zlg {kindOf:Str->Option NameKind}{x:Str}{v:Ze}:∀{P:List Str}{a:List Ze}{i:Nat}{m:Str->Option Ze},P.Nodup->P[i]?=Za x->a[i]?=Za v->kindOf x≠Za .local ->
  bindC kindOf (P.zip a) m x=Za v
 |[],_,_,_,_,h,_,_=>by simp at h
 |_::_,[],_,_,_,_,h,_=>by simp at h
 | p::P,w::a,0,m,n,c,b,d=>by
  simp at c b;subst c;subst b;show bindC kindOf ((p,w)::P.zip a) m p=_;unfold bindC;rw[zlr λv e=>(Bq.mp n).1 (Fb e).1,if_neg d];simp
 | p::P,w::a,i+1,m,n,c,b,d=>by
  show bindC kindOf ((p,w)::P.zip a) m x=_;unfold bindC;exact zlg (i:=i) (Bq.mp n).2 (by simpa using c) (by simpa using b) d
noncomputable def start (N:List Str) (vs:List V):St:=vs.map Za++List.replicate (N.length-vs.length) Zb
noncomputable def cxOf (CX:CXT) (P:Program) (w:World) (K:Zg) (mg:Str->Option Ze) (base:Heap) (N:List Str) (qual:Str) (scope:Scope) (f:Zh) (c:Ze) (A:Around) (outer:List Env) (s:Zf) (H:Hp) (E:XK):Cx where
 prog:=P
 w:=w
 K:=K
 mg:=mg
 base:=base
 A:=A.deeper (envOfC qual scope s.heap.objs.size f c)
 N:=N
 s₀:=s
 H₀:=H
 env:=envOfC qual scope s.heap.objs.size f c
 outer:=outer
 stack:=envOfC qual scope s.heap.objs.size f c::outer
 ex:=[]
 calm:=Zd
 fn:=λ_=>Zd
 pn:=[]
 xe:=λe d=>wpAny (model P w) (A.deeper (envOfC qual scope s.heap.objs.size f c)) (leaving (envOfC qual scope s.heap.objs.size f c) e) (λ_ a=>CX outer H s E e a) (λb a=>CX outer H s E b a) d
theorem cell_has {s:Scope}{n:Nat}{x:Str}(h:s.names.lookup x=Za .cell):∃c,(cellsFrom n s.names []).lookup x=Za c:=by
 have q:=Ga s.names n [] (.inl h);exact Eo.mp q
theorem zlx {CX:CXT}{P:Program}{w:World}{K:Zg}{C:Str->Option Ze}{base:Heap}{N ps:List Str}{qual:Str}{scope:Scope}{f:Zh}{t:Ze}{A:Around}{outer:List Env}{s G:Zf}{H:Hp}{E:XK}{D:List Ze}{vs:List V}
  (S:FnScope N ps scope) (L:A.handled=Zb) (e0:Env0 P w K C base A outer s H) (R:vs.length=ps.length) (r:Vals vs D)
  (x:InCallC s s.heap.objs.size (bindL (envOfC qual scope s.heap.objs.size f t).kindOf (ps.zip D) λ_=>Zb) (cellsFrom #v[7,11] scope.names []) (bindC (envOfC qual scope s.heap.objs.size f t).kindOf (ps.zip D) λ_=>Zb) G) :
  Inv (cxOf CX P w K C base N qual scope f t A outer s H E) [] (start N vs) H G:=by
 have J:ps.length<=N.length:=by have:=congrArg List.length S.pre;rw[Cj] at this;omega
 obtain⟨B,T,rfl,F⟩:=x.done;have j:∀b:Zh,b ∉ (cxOf CX P w K C base N qual scope f t A outer s H E).ex:=λb z=>absurd (show b∈([]:List Zh) from z) (by simp);refine⟨⟨e0.mod,S.kind,rfl,rfl,Ag _,λy z c B d=>?_,λy g=>?_,λy c _ h=>?_,λ_=>L,Around.frames_deeper e0.frames,.inr ⟨rfl,rfl⟩,λb z=>absurd z (j b),e0.bs,e0.bsz,λb _ _=>j b,λb z=>absurd z (j b),e0.funs,e0.frf⟩,
  rfl,e0.bare,Un.kept F,⟨_,x.toInCall.ns,λi y v B d Q=>?_⟩,λy c h=>⟨_,x.cell y c h⟩,e0.hok.fresh (Ag _),λy c h=>?_,λp l=>absurd (show p∈([]:List (Zh×Obj)) from l) (by simp),e0.hok.kept F,?_⟩
 ·exact name_of_addr x.apart (Bu B) (Bu d)
 ·have g:scope.names.lookup y=Za .cell \/ scope.names.lookup y=Za .free:=g;rcases g with g|g
  ·exact cell_has g
  ·exact absurd rfl (S.nofree _ (Bu g))
 ·exact Nat.le_of_lt (x.above y c (Bu h))
 ·have o:i<vs.length:=by
   unfold start at d;by_cases o:i<vs.length
   ·exact o
   ·rw[Fj (by simpa using o)] at d;rw[List.getElem?_replicate] at d;split at d<;>cases d
  have O:vs[i]?=Za v:=by
   unfold start at d;rw[Dl (by simpa using o),Aj] at d;cases e:vs[i]? with
   |none=>rw[e] at d;cases d
   |some a=>rw[e] at d;cases d;rfl
  obtain⟨u,I,M⟩:=r.get O;have l:ps[i]?=Za y:=by
   rw[<-S.pre,List.getElem?_take_of_lt #v[]];exact B
  have m:ps.Nodup:=by rw[<-S.pre];exact S.nd.sublist (Ej _ _)
  refine⟨u,M,?_⟩;rcases S.par y (Bh l) with k|k
  ·exact .inl ⟨k,zlu m l I k⟩
  ·obtain⟨c,e⟩:=cell_has (n:=s.heap.objs.size+1) k;refine .inr ⟨.inl k,c,e,?_⟩;have q:=x.cell y c e;rw[zlg m l I (by show scope.names.lookup y≠_;rw[k];decide)] at q;exact q
 ·exact e0.hok.fresh (Nat.le_of_lt (x.above y c (Bu h)))
 ·unfold start;show _=N.length;rw[Bb,Ad,Ed];omega
theorem yd1 {CX:CXT}{P:Program}{w:World}{K:Zg}{m:Str->Option Ze}{base:Heap}{k:Nat}{f:Zh}{name qual:Str}{p:Arguments}{body:List Stmt}{scope:Scope}{R kV doc pm cdv O oc:Ze}{G od:Option Zh}
  {osl:Array (Option Ze)}{N ps:List Str}{sp:Sp} (X:K.lookup f=Za ⟨oc,od,.func (PySem.W.fnOf name qual p body scope R kV doc pm G cdv O),osl⟩) (B:PySem.W.codeIn K cdv qual=Zd) (S:FnScope N ps scope)
  (len:∀a H Q E,sp a H Q E->a.length=ps.length)
  (h:∀(A:Around) (outer:List Env) (s:Zf) (H:Hp) (a:List V) (Q:VK) (E:XK),(Room k (A.deeper (envOfC qual scope s.heap.objs.size f cdv))/\Room (k+1) A)->sp a H Q E ->
   ∃t,PSs (cxOf CX P w K m base N qual scope f cdv A outer s H E) body t/\t { nx:=λ_ d=>Q .non d,rt:=Q } (start N a) H) :
  FnOk P w K m base CX (k+1) f (PySem.W.fnOf name qual p body scope R kV doc pm G cdv O) ps sp:=by
 refine ⟨len,λA outer s H args us a Q E z l hb r j=>?_⟩;have Y:=len _ _ _ _ j;have L:K.In s.heap:=l.mod.kin.keeps λb o e=>(l.bs b o e).1;have C:s.heap.NoLimit:=l.mod.nolimit.keeps λb o e=>(l.bs b o e).1;have g:∀y∈ps.zip us,scope.names.lookup y.1=Za .local\/(scope.names.lookup y.1=some .cell/\((cellsFrom #v[7,11] scope.names []).lookup y.1).isSome=true):=λ⟨n,v⟩ W=>by
  rcases S.par n (Fb W).1 with q|q
  ·exact .inl q
  ·exact .inr ⟨q,Ga _ _ _ (.inl q)⟩
 refine codeAny_call_function z.depth (L _ _ X) rfl S.co S.gen rfl (PySem.W.codeRec_of L B) (hb _ _ _ _ ?_);refine wpAny_newFunctionEnv_cells S.kind g λenv T M x=>?_;subst T;refine ⟨C.keeps x.toInCall.keep,codeAny_func ?_⟩;obtain ⟨t,Z,U⟩:=h A outer s H a Q E ⟨z.deeper _,z⟩ j;have I:Inv (cxOf CX P w K m base N qual scope f cdv A outer s H E) [] (start N a) H M:=zlx S z.hd l Y r x;refine Cw (Z [] M (start N a) H _ I U) (λfl D i=>?_) λe D i=>i;have fin:∀{c:St}{d:Hp}{v:V}{u:Ze},Inv (cxOf CX P w K m base N qual scope f cdv A outer s H E) [] c d D->RelV v u->Q v d->CE outer P w H s Q u D :=
  λ{c d v u} J F q=>⟨v,d,J.os,J.bare,J.base,J.hok,F,q⟩
 cases fl with
 | ret u =>
  obtain⟨v,c,d,J,F,q⟩:=i;exact fin J F q
 | next =>
  obtain⟨c,d,J,q⟩:=i;exact fin (v:=V.non) (u:=Ze.none) J rfl q
 | brk =>
  obtain⟨_,_,_,q⟩:=i;exact False.elim q
 | cont =>
  obtain⟨_,_,_,q⟩:=i;exact False.elim q
section
variable {X:Cx}{x:Str}{p pos:Pos}{e:Zi}{es:List Zi}{t:TA}{id T:String}{r:List V->Hp->VK->Prop}
noncomputable def tCB (r:List V->Hp->VK->Prop) (t:TA):TE:=λσ H Q=>t σ H λv a=>r v a Q
theorem zcj (f:zek X (.builtin id) r) (j:Gl X x) (d:X.mg x=Zb) (g:bootBuiltins x=Za (.builtin id)) (n:PA X (e::es) t) (o:x≠"__name__" := by decide) (b:(x==("__debug__" : Str))=Zc:=by decide)
  (k:starEach (e::es) X.env=(Zc,eval e X.env)::starEach es X.env:=by rfl) (a:(backTo pos (starEach es X.env)).any (·.1)=Zc:=by rfl):PE X (.Call (.Name x p) (e::es) [] pos) (tCB r t):=by
 intro pins s σ H Q I h;refine Gf (zcs I j d g ?_ o b);exact PyProof.Rows.callWith_builtin1 (thn (n pos pins s σ H _ I h) λu c ⟨v,m,l,i,q⟩=>f pins c σ m v u Q l i q) k a
theorem zhg (f:zek X (.type T) r) (j:Gl X x) (d:X.mg x=Zb) (g:bootBuiltins x=Za (.type T)) (n:PA X (e::es) t) (o:x≠"__name__" := by decide) (b:(x==("__debug__" : Str))=Zc:=by decide)
  (k:starEach (e::es) X.env=(Zc,eval e X.env)::starEach es X.env:=by rfl) (a:(backTo pos (starEach es X.env)).any (·.1)=Zc:=by rfl):PE X (.Call (.Name x p) (e::es) [] pos) (tCB r t):=by
 intro pins s σ H Q I h;refine Gf (zcs I j d g ?_ o b);exact Bw (thn (n pos pins s σ H _ I h) λu c ⟨v,m,l,i,q⟩=>f pins c σ m v u Q l i q) k a
end
end L2
namespace HT
open PySem PyProof.Rows
section
open PySem.SeqAt
open PySem.AutoSeq1 (wpAny_loadPart')
open PySem.MeetsSeq PySem.MeetsSeq2 PySem.MeetsSeq3
end
section
variable {prog:Program}{w:World}{A:Around}{E:Ze->Zf->Prop}{s:Zf}
theorem cat_tup {t b:Zh}{vs ws:List Ze}{Q:Ze->Zf->Prop} (x:IsTup s.heap t vs.toArray) (z:IsTup s.heap b ws.toArray) (r:vs≠[])
  (v:ws=[]->Q (.ref t) s) (y:ws≠[]->Q (.ref s.heap.objs.size) { s with heap:=s.heap.push { cls:=.type "tuple",data:=.seq (vs++ws).toArray } })
  (j:vs.length+ws.length<=sizeLine):wpAny (model prog w) A (binaryOp .Add (.ref t) (.ref b)) Q E s:=by
 obtain⟨⟨cls,q,data,m⟩,i,o,n,p⟩:=id x;obtain⟨⟨l,f,k,d⟩,h,c,u,a⟩:=id z;simp only at o p c a;subst o p c a;have e:vs.toArray++ws.toArray=(vs++ws).toArray:=by simp
 by_cases g:ws=[]
 ·exact concat_meets ⟨_,i,rfl⟩ ⟨_,h,rfl⟩ noFill_tuple_add seq_tuple_add PySem.F.slot_tuple_add PySem.F.entry_tuple_add (Hm _ _)
   (tuple_addW1 t b vs.toArray ws.toArray n u q f m d (by simpa using r) (by simp [g])) ⟨i,h,v g⟩
 ·refine concat_meets ⟨_,i,rfl⟩ ⟨_,h,rfl⟩ noFill_tuple_add seq_tuple_add PySem.F.slot_tuple_add PySem.F.entry_tuple_add (Hm _ _)
   (tuple_addW2 t b vs.toArray ws.toArray n u q f m d (by simpa using r) (by simpa using g) (by rw[Ak,Ak];exact j)) ⟨i,h,?_⟩
  rw[e];exact y g
noncomputable def sIx (n d:Nat):Option Int->Nat
 |none=>d
 |some v=>if v<0 then (v+(n:Int)).toNat else min v.toNat n
theorem sIx_nat (n d k:Nat):sIx n d (Za (k:Int))=min k n:=by
 show (if (k:Int)<0 then ((k:Int)+(n:Int)).toNat else min (k:Int).toNat n)=min k n;rw[if_neg #v[],Dj]
theorem z9w (n d:Nat) (a:d<=n) (o:Option Int):sIx n d o<=n:=by
 cases o with
 |none=>exact a
 | some v =>
  show (if v<0 then (v+(n:Int)).toNat else min v.toNat n)<=n;by_cases h:v<0
  ·rw[if_pos h];omega
  ·rw[if_neg h];exact Nat.min_le_right _ _
theorem zx5 (v:Int)(n d:Nat):(if v<0 then max (v+(n:Int)) 0 else min v (n:Int))=((sIx n d (Za v):Nat):Int):=by
 show (if v<0 then max (v+(n:Int)) 0 else min v (n:Int))=(((if v<0 then (v+(n:Int)).toNat else min v.toNat n):Nat):Int);by_cases h:v<0
 ·simp only [if_pos h];omega
 ·simp only [if_neg h];omega
theorem zr2 (lo h:Option Int)(n:Nat):Builtin.Slice.sliceAdjust lo h 1 (n:Int)=(((sIx n 0 lo:Nat):Int),((sIx n n h:Nat):Int)):=by
 have a:¬ ((1:Int)<0):=by omega
 unfold Builtin.Slice.sliceAdjust;simp only [a,Gm];refine Prod.ext ?_ ?_
 ·cases lo with
  |none=>rfl
  |some v=>exact zx5 v n 0
 ·cases h with
  |none=>rfl
  |some v=>exact zx5 v n n
theorem zss (i j:Nat):Builtin.Slice.slicePlaces (i:Int) (j:Int) 1=j-i:=by
 unfold Builtin.Slice.slicePlaces;have h:(1:Int) > 0:=by omega
 simp only [h,Fq,Int.ediv_one];split<;>omega
theorem zie {v:Ze}{o:Option Int}{Q:Option Int->Zf->Prop}(p:IsPart v o)(h:Q o s):wpAny (model prog w) A (Builtin.Slice.slicePartIndex v) Q E s:=by
 cases p with
 |none=>exact slicePart_none h
 |int i t=>exact slicePart_int h
theorem zdj {f:Zh}{e d:Ze}{lo a:Option Int}{n:Nat}{Q:Int×Int×Nat->Zf->Prop} (g:s.heap.IsSliceOf f e d .none) (p:IsPart e lo) (i:IsPart d a)
  (h:Q (((sIx n 0 lo:Nat):Int),1,sIx n n a-sIx n 0 lo) s):wpAny (model prog w) A (Builtin.Slice.sliceApplied (.ref f) (pure (n:Int))) Q E s:=by
 obtain⟨o,c,j,b⟩:=id g;unfold Builtin.Slice.sliceApplied Builtin.Slice.sliceFields;refine Aa (Aa (Da c b (x:=e) rfl (Aa (Da c b (x:=d) rfl (Aa (Da c b (x:=.none) rfl (Am ?_)))))));refine Aa (slicePart_none ?_);show wpAny _ _ (if ((1:Int)==0)=Zd then _ else _) _ _ s;rw[if_neg #v[0,9]];refine Aa (zie p (Aa (zie i (Aa (Am ?_)))));show wpAny _ _ (match Builtin.Slice.sliceAdjust lo a 1 (n:Int) with|(lo,a)=>pure (lo,(1:Int),Builtin.Slice.slicePlaces lo a 1)) _ _ s;rw[zr2 lo a n];show wpAny _ _ (pure (((sIx n 0 lo:Nat):Int),(1:Int),Builtin.Slice.slicePlaces ((sIx n 0 lo:Nat):Int) ((sIx n n a:Nat):Int) 1)) _ _ s;rw[zss];exact Am h
theorem z13 (xs:Array Ze)(i k:Nat):((List.range k).filterMap λ(m:Nat)=>xs[((i:Int)+(m:Int)*1).toNat]?).toArray=((xs.toList.drop i).take k).toArray:=by
 have e:(λ(m:Nat)=>xs[((i:Int)+(m:Int)*1).toNat]?)=λm=>xs[i+m]?:=by
  funext m
  have:((i:Int)+(m:Int)*1).toNat=i+m:=by omega
  rw[this]
 rw[e];have:=pick_run xs i k;rw[List.filterMap_map] at this;have a:((λx=>xs[x]?) ∘ λx=>i+x)=λm=>xs[i+m]?:=rfl;rw[a] at this;rw[this]
theorem getItem_tuple_cut {t d:Zh}{items:Array Ze}{k j:Ze}{lo b:Option Int}{Q:Ze->Zf->Prop} (c:IsTup s.heap t items) (l:s.heap.IsSliceOf d k j .none) (u:IsPart k lo) (x:IsPart j b)
  (o:¬ (sIx items.size 0 lo=0/\sIx items.size items.size b=items.size))
  (h:Q (.ref s.heap.objs.size) { s with heap:=s.heap.push { cls:=.type "tuple",data:=.seq ((items.toList.drop (sIx items.size 0 lo)).take (sIx items.size items.size b-sIx items.size 0 lo)).toArray } })
  (n:items.size<=sizeLine):wpAny (model prog w) A (getItem (.ref t) (.ref d)) Q E s:=by
 have a:sizeOk (.seq ((items.toList.drop (sIx items.size 0 lo)).take (sIx items.size items.size b-sIx items.size 0 lo)).toArray):=by
  show ((items.toList.drop (sIx items.size 0 lo)).take (sIx items.size items.size b-sIx items.size 0 lo)).toArray.size<=sizeLine;rw[Ak,Cj,Gj,Ca];omega
 have B:sIx items.size items.size b<=items.size:=z9w _ _ (Ag _) b;obtain⟨p,g,f,r⟩:=id l;have e:s.TypeIs (.ref d) "slice" := ⟨p,g,f⟩;unfold getItem
 try with_reducible refine Dk ?_
 first|refine Aa (Am ?_)|skip
 refine Aa (wpAny_sequenceKey c.typeIs #v[0,9] ?_);refine Aa (Di (name:=Str.ofString "__getitem__") c.typeIs Ep
  (Fa Ep c.typeIs entry_tuple_getitem ?_ (args_tuple_getitem _ _)))
 show wpAny _ _ (Builtin.Tuple.tupleItemsOf (.ref t)>>=_) _ _ s;refine Aa (tupleItemsOf_ c ?_);refine Aa (wpAny_typeOf e ?_);rw[if_pos #v[0,9]];refine Aa (zdj l u x ?_);have i:¬ ((((sIx items.size 0 lo:Nat):Int)==0&&(1:Int)==1&&(sIx items.size items.size b-sIx items.size 0 lo)==items.size)=Zd):=by
  intro q;rw[Ab,Ab] at q;have y:((sIx items.size 0 lo:Nat):Int)=0:=Bp q.1.1;have z:sIx items.size items.size b-sIx items.size 0 lo=items.size:=Bp q.2;exact o ⟨by omega,by omega⟩
 show wpAny _ _ (if (((sIx items.size 0 lo:Nat):Int)==0&&(1:Int)==1&&(sIx items.size items.size b-sIx items.size 0 lo)==items.size)=Zd then _ else _) _ _ s;rw[if_neg i,z13]
 first
  |exact Aa (m:=Builtin.Tuple.tupleExact _) (Dn (Am ⟨_,rfl,Am h⟩) a)
  |exact Aa (m:=Builtin.Tuple.tupleExact _) (Dn (Aa (Am (Am ⟨_,rfl,Am h⟩))) a)
  |exact Aa (Aa (m:=Builtin.Tuple.tupleExact _) (Dn (Am (Am ⟨_,rfl,Am h⟩)) a))
  |exact Aa (Aa (m:=Builtin.Tuple.tupleExact _) (Dn (Am ⟨_,rfl,Am h⟩) a))
end
end HT
namespace L2
open PySem PySem.Spec PyProof.Rows
noncomputable abbrev TO:=St->Hp->(Option Int->Hp->Prop)->Prop
noncomputable def PO (X:Cx) (e:Option Zi) (t:TO):Prop :=
 ∀(pins:List (Zh×Obj)) (s:Zf) (σ:St) (H:Hp) (Q:Option Int->Hp->Prop),Inv X pins σ H s->t σ H Q ->
  wpAny #v[2,7] X.A (evalPart e X.env) (λu b=>∃o a,Inv X pins σ a b/\IsPart u o/\Q o a) X.xe s
noncomputable def zuc:TO:=λ_ H Q=>Q Zb H
noncomputable def yba (t:TE):TO:=λσ H Q=>t σ H λx a=>∃i,x=.int i/\Q (Za i) a
theorem zrt {a:List Int}:∀{u:List Ze},Vals (a.map V.int) u->IntsAre u a:=by
 induction a with
 |nil=>intro u r;rw[List.map_nil] at r;cases r;exact .nil
 | cons n a i =>
  intro u r;rw[Ax] at r;cases r with
  | cons c b =>
   obtain⟨t,e⟩:=c;subst e;exact .cons n t (i b)
section
variable {X:Cx}{e:Zi}{te:TE}{lo hi:Option Zi}{tl th:TO}{pos p2:Pos}
theorem z5b:PO X Zb zuc:=by
 intro pins s σ H Q I h;rw[evalPart_none];exact Am ⟨Zb,H,I,.none,h⟩
theorem z4a (h:PE X e te):PO X (Za e) (yba te):=by
 intro pins s σ H Q I d;rw[evalPart_some];refine thn (h pins s σ H _ I d) λu f ⟨x,c,b,r,a⟩=>?_;obtain⟨i,rfl,q⟩:=a;obtain⟨t,rfl⟩:=r;exact⟨Za i,c,b,.int i t,q⟩
noncomputable def SlR (X:Cx) (r:V->Option Int->Option Int->Hp->VK->Prop):Prop :=
 ∀(pins:List (Zh×Obj)) (s:Zf) (σ:St) (H:Hp) (x:V) (v b a:Ze) (lo hi:Option Int) (c:Zh) (Q:VK),Inv X pins σ H s->RelV x v->s.heap.IsSliceOf c b a .none->IsPart b lo->IsPart a hi->r x lo hi H Q ->
  ∃T id,typeLookup (.type T) "__getitem__" = pure (Za (.builtin id))/\s.TypeIs v T/\wpAny #v[2,7] X.A (getItem v (.ref c)) (EP X pins σ Q) X.xe s
theorem SlR.or {r b:V->Option Int->Option Int->Hp->VK->Prop}(h:SlR X r)(h':SlR X b):SlR X (λx lo hi H Q=>r x lo hi H Q\/b x lo hi H Q):=by
 intro pins s σ H x v c a lo hi g Q I d e p f q;rcases q with q|q
 ·exact h pins s σ H x v c a lo hi g Q I d e p f q
 ·exact h' pins s σ H x v c a lo hi g Q I d e p f q
noncomputable def tSl (r:V->Option Int->Option Int->Hp->VK->Prop) (te:TE) (tl th:TO):TE:=λσ H Q=>te σ H λx c=>tl σ c λl b=>th σ b λu a=>r x l u a Q
theorem zyo {r:V->Option Int->Option Int->Hp->VK->Prop}(G:SlR X r)(i:PE X e te)(p:PO X lo tl)(A:PO X hi th):PE X (.Subscript e (.Slice lo hi Zb p2) pos) (tSl r te tl th):=by
 intro pins s σ H Q I h;refine Subscript_ (thn (i pins s σ H _ I h) λv m ⟨x,F,j,z,n⟩=>?_);refine wpAny_Slice (thn (p pins m σ F _ j n) λd y ⟨l,C,D,B,o⟩=>thn (A pins y σ C _ D o) λc a ⟨u,f,k,E,J⟩=>?_);rw[evalPart_none];refine Am ?_;have w:Inv X pins σ f { a with heap:=a.heap.push { cls:=.type "slice",data:=.fields #[d,c,.none] } }:=k.kept (t':=a.toks) λb K q=>Ac _ q;obtain⟨T,id,hT,t,g⟩:=G pins { a with heap:=a.heap.push { cls:=.type "slice",data:=.fields #[d,c,.none] } } σ f x v d c l u a.heap.objs.size Q w z (Heap.IsSliceOf.new ..) B E J;show wpAny #v[2,7] X.A (subscriptTail e (.Slice lo hi Zb p2) v (.ref a.heap.objs.size)) (EP X pins σ Q) X.xe { a with heap:=a.heap.push { cls:=.type "slice",data:=.fields #[d,c,.none] } };exact tail_any (ops:=[.ref a.heap.objs.size,v]) t hT g (by with_unfolding_all rfl)
noncomputable def cutV (xs:List V) (lo hi:Option Int):List V:=(xs.drop (HT.sIx xs.length 0 lo)).take (HT.sIx xs.length xs.length hi-HT.sIx xs.length 0 lo)
theorem zgh (xs:List V)(lo hi:Option Int):(cutV xs lo hi).length<=xs.length:=by
 unfold cutV;rw[Cj,Gj];omega
noncomputable def rSlT (K:Zg):V->Option Int->Option Int->Hp->VK->Prop:=λx lo hi H Q=>∃a b,x=.ref a/\SqT K H a b /\
 ¬ (HT.sIx b.length 0 lo=0/\HT.sIx b.length b.length hi=b.length)/\∀p,H p=Zb->Q (.ref p) (upd H p (.tup (cutV b lo hi)))
theorem yae:SlR X (rSlT X.K):=by
 intro pins s σ H x v w u lo hi t Q I g l p m h;obtain⟨a,d,rfl,k,j,q⟩:=h;cases g;obtain⟨i,r,f,e⟩:=I.tuple k;have c:i.toArray.size=d.length:=by rw[Ak];exact r.length.symm
 refine⟨"tuple",_,PyProof.Rows.slot_tuple_getitem.lookup,f.typeIs,?_⟩;refine HT.getItem_tuple_cut f l p m (by rw[c];exact j) ?_ (by rw[c];exact e);rw[c];refine⟨.ref s.heap.objs.size,_,I.laid (t':=s.toks) (o:=.tup (cutV d lo hi)) (λb n q=>Ac _ q) (Ag _) ?_,rfl,q _ (I.hok.fresh (Ag _))⟩;exact⟨Bj (zgh d lo hi) e,_,(r.drop (HT.sIx d.length 0 lo)).take (HT.sIx d.length d.length hi-HT.sIx d.length 0 lo),zlw.new _ _⟩
noncomputable def z8v (K:Zg):R2:=λx y H Q=>∃a b d c,x=.ref a/\y=.ref b/\SqT K H a d/\SqT K H b c/\d≠[]/\d.length+c.length<=sizeLine /\
 (c=[]->Q (.ref a) H)/\(c≠[]->∀p,H p=Zb->Q (.ref p) (upd H p (.tup (d++c))))
theorem Vals.nil_iff {xs:List V}{u:List Ze}(r:Vals xs u):u=[]↔xs=[]:=by
 cases r with
 |nil=>simp
 |cons _ _=>simp
theorem z5k:OpR X (binaryOp .Add) (z8v X.K):=by
 intro pins s σ H x y v u Q I f g h;obtain⟨a,b,e,A,rfl,rfl,t,n,k,d,j,l⟩:=h;cases f;cases g;obtain⟨m,c,p,_⟩:=I.tuple t;obtain⟨i,r,p2,_⟩:=I.tuple n;refine HT.cat_tup p p2 (λz=>k (c.nil_iff.mp z)) (λz=>⟨.ref a,H,I,rfl,j (r.nil_iff.mp z)⟩) (λz=>?_) (by rw[<-c.length,<-r.length];exact d);refine⟨.ref s.heap.objs.size,_,I.laid (t':=s.toks) (o:=.tup (e++A)) (λb B q=>Ac _ q) (Ag _) ?_,rfl,l (λw=>z (r.nil_iff.mpr w)) _ (I.hok.fresh (Ag _))⟩;exact⟨by rw[Bb];exact d,_,c.append r,zlw.new _ _⟩
end
noncomputable def ixN (n:Nat) (i:Int):Option Nat:=if 0<=i then (if i<n then Za i.toNat else Zb) else if -(n:Int)<=i then Za (i+n).toNat else Zb
noncomputable def atI {α:Type} (xs:List α) (i:Int):Option α:=(ixN xs.length i).bind λj=>xs[j]?
theorem znr {n:Nat}{i:Int}{j:Nat}(h:ixN n i=Za j):seqIndex? i n=Za j/\j<n/\-(n:Int)<=i/\i<n:=by
 unfold ixN at h;by_cases b:0<=i
 ·rw[if_pos b] at h;by_cases a:i<n
  ·rw[if_pos a] at h;have e:i.toNat=j:=sI h;exact⟨by rw[seqIndex_of b a,e],by omega,by omega,a⟩
  ·rw[if_neg a] at h;cases h
 ·rw[if_neg b] at h;by_cases a:-(n:Int)<=i
  ·rw[if_pos a] at h;have e:(i+n).toNat=j:=sI h;exact⟨by rw[seqIndex_neg #v[] a,e],by omega,a,by omega⟩
  ·rw[if_neg a] at h;cases h
theorem zxx {α:Type}{xs:List α}{i:Int}{v:α} (h:atI xs i=Za v):∃j,seqIndex? i xs.length=Za j/\xs[j]?=Za v/\j<xs.length/\-(xs.length:Int)<=i/\i<xs.length:=by
 unfold atI at h;cases e:ixN xs.length i with
 |none=>rw[e] at h;cases h
 | some j =>
  rw[e] at h;obtain⟨b,a,d,c⟩:=znr e;exact⟨j,b,h,a,d,c⟩
theorem z6b {α:Type}{xs:List α}{j:Nat}{v:α}(h:xs[j]?=Za v):atI xs (j:Int)=Za v:=by
 have a:j<xs.length:=(Af.mp h).1;have e:ixN xs.length (j:Int)=Za j:=by
  unfold ixN;rw[if_pos #v[],if_pos #v[]];simp
 unfold atI;rw[e];exact h
noncomputable def zxt (b:Zi):Prop:=∀o i,subscripted b Zc o i=operate [o,i] (getItem o i)
noncomputable def IxR (X:Cx) (r:R2):Prop :=
 ∀(value a:Zi) (pins:List (Zh×Obj)) (s:Zf) (σ:St) (H:Hp) (x y:V) (v u:Ze) (Q:VK),Inv X pins σ H s->RelV x v->RelV y u->r x y H Q ->
  subscripted a Zc v u=operate [v,u] (getItem v u)->wpAny #v[2,7] X.A (subscriptTail value a v u) (EP X pins σ Q) X.xe s
noncomputable def MtR (X:Cx) (id:String) (r:V->List V->Hp->VK->Prop):Prop :=
 ∀(pins:List (Zh×Obj)) (s:Zf) (σ:St) (H:Hp) (x:V) (a:List V) (v:Ze) (u:List Ze) (Q:VK),Inv X pins σ H s->RelV x v->Vals a u->r x a H Q ->
  wpAny #v[2,7] X.A (call (.builtin id) (v::u)) (EP X pins σ Q) X.xe s
section
variable {X:Cx}{a b:Zi}{ta tb:TE}{pos:Pos}
theorem IxR.or {r b:R2}(h:IxR X r)(h':IxR X b):IxR X (λx y H Q=>r x y H Q\/b x y H Q):=by
 intro value a pins s σ H x y v u Q I c e q d;rcases q with q|q
 ·exact h value a pins s σ H x y v u Q I c e q d
 ·exact h' value a pins s σ H x y v u Q I c e q d
theorem ydo {r:R2}(k:IxR X r)(j:PE X a ta)(d:PE X b tb)(e:zxt b):PE X (.Subscript a b pos) (tOp r ta tb):=by
 intro pins s σ H Q I h;exact Subscript_ (binT j d I h λv u f x y g i c l q=>k a b pins f σ g x y v u Q i c l q (e _ _))
noncomputable def rIxL (K:Zg):R2:=λx y H Q=>∃p a i v,x=.ref p/\y=.int i/\SqL K H p a/\atI a i=Za v/\Q v H
noncomputable def rIxT (K:Zg):R2:=λx y H Q=>∃p a i v,x=.ref p/\y=.int i/\SqT K H p a/\atI a i=Za v/\Q v H
theorem z7u:IxR X (rIxL X.K):=by
 intro value c pins s σ H x y v u Q I m A h l;nofun;obtain⟨p,G,i,z,rfl,rfl,B,n,q⟩:=h;ac_rfl;cases m;nofun;obtain⟨t,rfl⟩:=A;obtain⟨d,r,f,J⟩:=I.list B;obtain⟨j,a,D,K,F,o⟩:=zxx n;obtain⟨w,g,b⟩:=r.get D;ac_rfl;have C:=r.length;have L:=zp3;have fin:EP X pins σ Q w s:=⟨z,H,I,b,q⟩;by_cases k:0<=i
 ·have e:i.toNat=j:=by
   rw[seqIndex_of k o] at a;exact sI a
  exact item_listR f.isList k #v[] (by rw[e];simpa using g) fin l
 ·have e:(i+(d.toArray.size:Int)).toNat=j:=by
   rw[seqIndex_neg #v[] F] at a;rw[Ak,<-C];exact sI a
  exact subscriptTail_builtinR (x:=w) f.isList.typeIs slot_list_getitem.lookup
   (wpAny_getItem_list_neg (Q:=λr E=>r=w/\EP X pins σ Q r E) f.isList #v[] (by rw[Ak]<;>omega) #v[] (by rw[e];simpa using g) ⟨rfl,fin⟩) l
theorem z8q:IxR X (rIxT X.K):=by
 intro value b pins s σ H x y v u Q I d f h B;obtain⟨p,C,i,z,rfl,rfl,k,e,q⟩:=h;cases d;obtain⟨t,rfl⟩:=f;obtain⟨l,r,c,D⟩:=I.tuple k;obtain⟨j,g,o,F,J,E⟩:=zxx e;obtain⟨w,m,a⟩:=r.get o;have n:=r.length;have G:=zp3;have fin:EP X pins σ Q w s:=⟨z,H,I,a,q⟩;exact subscriptTail_builtinR (x:=w) c.typeIs slot_tuple_getitem.lookup
  (getItem_tuple (j:=j) (Q:=λr A=>r=w/\EP X pins σ Q r A) c #v[] #v[] (by rw[Ak,<-n];exact g) (by simpa using m) ⟨rfl,fin⟩) B
theorem zsy (i:List Ze)(n j:Nat)(u:Ze):Obj.mapSeq (·.setIfInBounds j u) { cls:=.type "list",data:=.seq i.toArray n }={ cls:=.type "list",data:=.seq (i.set j u).toArray n }:=by
 simp [Obj.mapSeq]
theorem Inv.lst {pins:List (Zh×Obj)}{σ:St}{H:Hp}{s:Zf}{p:Zh}{xs:List V} (I:Inv X pins σ H s) (h:H p=Za (.lst xs)) :
  ∃(i:List Ze) (n:Nat),Vals xs i/\s.heap.get? p=Za { cls:=.type "list",data:=.seq i.toArray n }/\xs.length<=sizeLine:=by
 nofun;obtain⟨z,i,n,r,e⟩:=I.hok p _ h;ac_rfl;exact⟨i,n,r,e,z⟩
theorem Inv.lstUpd {pins:List (Zh×Obj)}{σ:St}{H:Hp}{s:Zf}{p:Zh}{xs ys:List V}{i its':List Ze}{n a:Nat}{f:Obj->Obj} (I:Inv X pins σ H s) (h:H p=Za (.lst xs))
  (d:s.heap.get? p=Za { cls:=.type "list",data:=.seq i.toArray n }) (c:f { cls:=.type "list",data:=.seq i.toArray n }={ cls:=.type "list",data:=.seq its'.toArray a }) (r:Vals ys its') (g:ys.length<=sizeLine) (t:Nat) :
  Inv X pins σ (upd H p (.lst ys)) { s with heap:=s.heap.update p f,toks:=t }:=by
 have e:(s.heap.update p f).get? p=Za { cls:=.type "list",data:=.seq its'.toArray a }:=by
  rw[Gy f d (by rw[c]<;>rfl),c]
 refine I.write (x:=p) (e:=p) (by rw[h];trivial) (.inl rfl) (λb u j q=>(Do _ _ (Ne.symm j)).trans q) ⟨_,e⟩ ?_;exact⟨g,its',a,r,e⟩
noncomputable def ybv:V->V->V->Hp->(Hp->Prop)->Prop:=λo i v H Q=>∃p x k j,o=.ref p/\i=.int k/\H p=Za (.lst x)/\ixN x.length k=Za j/\Q (upd H p (.lst (x.set j v)))
theorem z0q:PSet X ybv:=by
 intro pins s σ H o i v D G u Q I B z C h;nofun;obtain⟨p,x,k,j,rfl,rfl,g,A,q⟩:=h;ac_rfl;cases B;nofun;obtain⟨t,rfl⟩:=z;obtain⟨a,n,r,e,y⟩:=I.lst g;obtain⟨b,E,f,w⟩:=znr A;ac_rfl;have d:=r.length;have F:=zp3;have m:Inv X pins σ (upd H p (.lst (x.set j v))) { s with heap:=s.heap.update p (Obj.mapSeq (·.setIfInBounds j u)) } :=
  I.lstUpd g e (zsy a n j u) (r.set C j) (by rw[Cz];exact y) s.toks
 by_cases l:0<=k
 ·have c:k.toNat=j:=by
   rw[seqIndex_of l w] at b;exact sI b
  exact PySem.W.ki_setAt e l #v[] (by rw[Ak,<-d];exact w) (by rw[c];exact⟨_,m,q⟩)
 ·have c:(k+(a.toArray.size:Int)).toNat=j:=by
   rw[seqIndex_neg #v[] f] at b;rw[Ak,<-d];exact sI b
  exact PySem.W.ki_setBack e #v[] (by rw[Ak,<-d];exact f) #v[] (by rw[c];exact⟨_,m,q⟩)
theorem zmg (lo a:Option Int) (n:Nat):(sliceBounds lo a Zb n).1=((HT.sIx n 0 lo:Nat):Int)/\(sliceBounds lo a Zb n).2.1=((HT.sIx n n a:Nat):Int)/\(sliceBounds lo a Zb n).2.2=1:=by
 refine⟨?_,?_,rfl⟩
 ·cases lo with
  |none=>simp [sliceBounds,HT.sIx]
  | some i =>
   simp only [sliceBounds,HT.sIx,Option.getD_none,show (1:Int) > 0 by decide,Fq];by_cases h:i<0
   ·simp only [h,Fq]<;>omega
   ·simp only [h,Gm]<;>omega
 ·cases a with
  |none=>simp [sliceBounds,HT.sIx]
  | some i =>
   simp only [sliceBounds,HT.sIx,Option.getD_none,show (1:Int) > 0 by decide,Fq];by_cases h:i<0
   ·simp only [h,Fq]<;>omega
   ·simp only [h,Gm]<;>omega
theorem zjt (i:List Ze)(lo h:Option Int):slicePick i.toArray lo h Zb=((i.drop (HT.sIx i.length 0 lo)).take (HT.sIx i.length i.length h-HT.sIx i.length 0 lo)).toArray:=by
 obtain⟨b,a,c⟩:=zmg lo h i.toArray.size;unfold slicePick;rw[b,a,c];simp only [sliceRange_one,pick_run,Ak]<;>rfl
noncomputable def rSlL (K:Zg):V->Option Int->Option Int->Hp->VK->Prop:=λx l h H Q=>∃a b,x=.ref a/\SqL K H a b/\∀p,H p=Zb->Q (.ref p) (upd H p (.lst (cutV b l h)))
theorem z75:SlR X (rSlL X.K):=by
 intro pins s σ H x v u t l e y Q I i k p n h;obtain⟨a,c,rfl,g,q⟩:=h;cases i;obtain⟨m,r,f,j⟩:=I.list g;have d:=r.length;refine⟨"list",_,slot_list_getitem.lookup,f.isList.typeIs,?_⟩;refine wpAny_getItem_list_slice f.isList k p n .none (by simp) ?_ (by rw[Ak]<;>omega);rw[zjt,<-d];refine⟨.ref s.heap.objs.size,_,I.laid (t':=s.toks) (o:=.lst (cutV c l e)) (λb w q=>Ac _ q) (Ag _) ?_,rfl,q _ (I.hok.fresh (Ag _))⟩;exact⟨Bj (zgh c l e) j,_,0,(r.drop (HT.sIx c.length 0 l)).take (HT.sIx c.length c.length e-HT.sIx c.length 0 l),Aq _ rfl⟩
noncomputable def zhj:V->Bool
 |.non=>Zd
 |.bl _=>Zd
 |.int _=>Zd
 |.str _=>Zd
 |_=>Zc
noncomputable def eqV:V->V->Bool
 |.non,.non=>Zd
 |.bl a,.bl b=>a==b
 |.bl a,.int b=>(if a then 1 else 0)==b
 |.int a,.bl b=>a==(if b then 1 else 0)
 |.int a,.int b=>a==b
 |.str a,.str b=>a==b
 |_,_=>Zc
theorem ybm {A:Around}{s:Zf}{y x:V}{u v:Ze} (d:RelV y u) (r:RelV x v) (e:zhj y=Zd) (f:zhj x=Zd):SeqAt.EqAt A s u v (eqV y x):=by
 cases y with
 | non =>
  cases d;cases x with
  |non=>cases r;exact SeqAt.EqAt.same _
  |bl b=>cases r;exact SeqAt.EqAt.none_bool b
  |int b=>obtain⟨t,rfl⟩:=r;exact SeqAt.EqAt.none_int b t
  |str b=>obtain⟨t,rfl⟩:=r;exact SeqAt.EqAt.none_str b t
  |_=>exact absurd (show Zc=Zd from f) At
 | bl a =>
  cases d;cases x with
  |non=>cases r;exact SeqAt.EqAt.bool_none a
  |bl b=>cases r;exact SeqAt.EqAt.bool_bool a b
  |int b=>obtain⟨t,rfl⟩:=r;exact SeqAt.EqAt.bool_int a b t
  |str b=>obtain⟨t,rfl⟩:=r;exact SeqAt.EqAt.bool_str a b t
  |_=>exact absurd (show Zc=Zd from f) At
 | int a =>
  obtain⟨c,rfl⟩:=d;cases x with
  |non=>cases r;exact SeqAt.EqAt.int_none a c
  |bl b=>cases r;exact SeqAt.EqAt.int_bool a c b
  |int b=>obtain⟨t,rfl⟩:=r;exact SeqAt.EqAt.int_int a c b t
  |str b=>obtain⟨t,rfl⟩:=r;exact SeqAt.EqAt.int_str a c b t
  |_=>exact absurd (show Zc=Zd from f) At
 | str a =>
  obtain⟨c,rfl⟩:=d;cases x with
  |non=>cases r;exact SeqAt.EqAt.str_none a c
  |bl b=>cases r;exact SeqAt.EqAt.str_bool a c b
  |int b=>obtain⟨t,rfl⟩:=r;exact SeqAt.EqAt.str_int a c b t
  |str b=>obtain⟨t,rfl⟩:=r;exact SeqAt.EqAt.str_str a c b t
  |_=>exact absurd (show Zc=Zd from f) At
 |_=>exact absurd (show Zc=Zd from e) At
noncomputable def eqU (x:V) (u:Ze):Bool:=match u with
 |.none=>eqV .non x
 |.bool b=>eqV (.bl b) x
 |.int i _=>eqV (.int i) x
 |.str z _=>eqV (.str z) x
 |_=>Zc
theorem z21 {x y:V}{u:Ze}(r:RelV y u)(f:zhj y=Zd):eqU x u=eqV y x:=by
 cases y with
 |non=>cases r;rfl
 |bl b=>cases r;rfl
 |int i=>obtain⟨t,rfl⟩:=r;rfl
 |str z=>obtain⟨t,rfl⟩:=r;rfl
 |_=>exact absurd (show Zc=Zd from f) At
theorem zgn {x:V}:∀{a:List V}{b:List Ze},Vals a b->a.all zhj=Zd->b.any (eqU x)=a.any λy=>eqV y x
 |_,_,.nil,_=>rfl
 | y::a,u::b,.cons r t,f=>by
  rw[Cg,Ab] at f;rw[Ff,Ff,z21 r f.1,zgn t f.2]
theorem ze0 {A:Around}{s:Zf}{x:V}{v:Ze} (c:RelV x v) (d:zhj x=Zd):∀{a:List V}{b:List Ze},Vals a b->a.all zhj=Zd->∀u∈b,SeqAt.EqAt A s u v (eqU x u)
 |_,_,.nil,_=>λu h=>by cases h
 | y::a,u::b,.cons r t,f=>λe h=>by
  rw[Cg,Ab] at f;rcases Ap.mp h with rfl|h
  ·rw[z21 r f.1];exact ybm r c f.1 d
  ·exact ze0 c d t f.2 e h
noncomputable def inV (x:V) (xs:List V):Bool:=xs.any λy=>eqV y x
noncomputable def rIn (K:Zg) (n:Bool):R2:=λx y H Q=>∃p a,y=.ref p/\(SqL K H p a\/SqT K H p a)/\zhj x=Zd/\a.all zhj=Zd/\Q (.bl (if n then !inV x a else inV x a)) H
theorem zvr:OpR X (compareOp .In) (rIn X.K Zc):=by
 intro pins s σ H x y v u Q I d g h;obtain⟨p,j,rfl,a,f,fs,q⟩:=h;cases g;rcases a with a|a
 ·obtain⟨i,r,b,e⟩:=I.list a;refine SeqAt.in_listAt (eqU x) b.isList (λw c=>ze0 d f r fs w (by simpa using c)) ⟨.bl _,H,I,rfl,?_⟩;rw[show i.toArray.any (eqU x)=i.any (eqU x) by simp,zgn r fs];exact q
 ·obtain⟨i,r,b,e⟩:=I.tuple a;refine SeqAt.in_tupleAt (eqU x) b (λw c=>ze0 d f r fs w (by simpa using c)) ⟨.bl _,H,I,rfl,?_⟩;rw[show i.toArray.any (eqU x)=i.any (eqU x) by simp,zgn r fs];exact q
theorem zlp:OpR X (compareOp .NotIn) (rIn X.K Zd):=by
 intro pins s σ H x y v u Q I d g h;obtain⟨p,j,rfl,a,f,fs,q⟩:=h;cases g;rcases a with a|a
 ·obtain⟨i,r,b,e⟩:=I.list a;refine SeqAt.notIn_listAt (eqU x) b.isList (λw c=>ze0 d f r fs w (by simpa using c)) ⟨.bl _,H,I,rfl,?_⟩;rw[show i.toArray.any (eqU x)=i.any (eqU x) by simp,zgn r fs];exact q
 ·obtain⟨i,r,b,e⟩:=I.tuple a;refine SeqAt.notIn_tupleAt (eqU x) b (λw c=>ze0 d f r fs w (by simpa using c)) ⟨.bl _,H,I,rfl,?_⟩;rw[show i.toArray.any (eqU x)=i.any (eqU x) by simp,zgn r fs];exact q
theorem zlq:zek X (.builtin "len") (λx H Q=>∃p y,x=[.ref p]/\(SqL X.K H p y\/SqT X.K H p y)/\Q (.int y.length) H):=by
 intro pins s σ H x g Q I r h;obtain⟨p,y,rfl,b,q⟩:=h;obtain⟨u,rfl,f⟩:=vals1 r;cases f;have j:=zp3;rcases b with b|b
 ·obtain⟨i,c, d,e⟩:=I.list b;have a:=c.length;exact Calls.call_len_list d.isList (by simp only [Ak]<;>omega) ⟨.int y.length,H,I.tok _,⟨s.toks+1,by rw[Ak,a]⟩,q⟩
 ·obtain⟨i,c, d,e⟩:=I.tuple b;have a:=c.length;exact len_tuple d (by simp only [Ak]<;>omega) ⟨.int y.length,H,I.tok _,⟨s.toks+1,by rw[Ak,a]⟩,q⟩
theorem zk1:zek X (.type "list") (λx H Q=>∃p y,x=[.ref p]/\(SqL X.K H p y\/SqT X.K H p y)/\∀l,H l=Zb->Q (.ref l) (upd H l (.lst y))):=by
 intro pins s σ H x B Q I r h;obtain ⟨p,y,rfl,g,q⟩:=h;obtain ⟨u,rfl,A⟩:=vals1 r;cases A;have fin:∀(i:List Ze),Vals y i->y.length<=sizeLine->∀(a:Heap) (d:Nat),(∀b z,s.heap.get? b=Za z->a.get? b=Za z) ->
   a.get? s.heap.objs.size=Za { cls:=.type "list",dict:=Zb,data:=.seq i.toArray d,slots:=#[] }->EP X pins σ Q (.ref s.heap.objs.size) { s with heap:=a }:=λi c f a d k e =>
  ⟨.ref s.heap.objs.size,_,I.laid (t':=s.toks) k (Ag _) (show zbp X.prog X.w _ a _ (.lst y) from ⟨f,i,d,c,e⟩),rfl,q _ (I.hok.fresh (Ag _))⟩
 rcases g with g|g
 ·obtain⟨i,c, w,f⟩:=I.list g;have j:=c.length;obtain⟨o,v,m,n,t⟩:=w.isList;exact call_list_seq p (.inl rfl) v m t (λa d k e=>fin i c f a d k e) (by simp only [Ak]<;>omega)
 ·obtain⟨i,c, w,f⟩:=I.tuple g;have j:=c.length;obtain⟨o,v,m,n,t⟩:=w;exact call_list_seq p (.inr rfl) v m t (λa d k e=>fin i c f a d k e) (by simp only [Ak]<;>omega)
theorem ziz:zek X (.type "tuple") (λx H Q=>∃p y,x=[.ref p]/\((SqL X.K H p y/\∀l,H l=Zb->Q (.ref l) (upd H l (.tup y)))\/(SqT X.K H p y/\Q (.ref p) H))):=by
 intro pins s σ H x v Q I r h;obtain⟨p,y,rfl,h⟩:=h;obtain⟨u,rfl,n⟩:=vals1 r;cases n;rcases h with⟨d,q⟩|⟨d,q⟩
 ·obtain ⟨i,c, f,g⟩:=I.list d;have j:=c.length;refine call_tuple_list f.isList (λa m=>?_) (by simp only [Ak]<;>omega);have k:Inv X pins σ H { s with heap:=a }:=I.kept (t':=s.toks) m;have t:Inv X pins σ (upd H a.objs.size (.tup y)) { s with heap:=a.push { cls:=.type "tuple",data:=.seq i.toArray } } :=
   k.laid (t':=s.toks) (λb o e=>Ac _ e) (Ag _) (show zbp X.prog X.w _ _ _ (.tup y) from ⟨g,i,c,zlw.new _ _⟩)
  exact⟨.ref a.objs.size,_,t,rfl,q _ (k.hok.fresh (Ag _))⟩
 ·obtain⟨i,c, f,g⟩:=I.tuple d;exact call_tuple_same f ⟨.ref p,H,I,rfl,q⟩
noncomputable def tyV (K:Zg) (T:String) (x:V) (H:Hp):Prop:=match x with
 |.str _=>T = "str"
 |.int _=>T = "int"
 | .ref p=>(T = "list"/\∃a,SqL K H p a)\/(T = "tuple"/\∃o,K.lookup p=Za o/\o.cls=.type "tuple"/\o.dict=Zb) \/
  (T = "dict"/\((∃kvs,H p=Za (.dK kvs))\/∃kvs,H p=Za (.dT kvs)))\/(T = "set"/\∃S n,H p=Za (.set S n))
 |_=>False
theorem ya6 {pins:List (Zh×Obj)}{σ:St}{H:Hp}{s:Zf}{T:String}{x:V}{v:Ze} (I:Inv X pins σ H s) (r:RelV x v) (d:tyV X.K T x H) :
  s.TypeIs v T/\∀a,v=.ref a->∃k,s.heap.get? a=Za k/\k.dict=Zb:=by
 cases x with
 | str z =>
  obtain⟨t,rfl⟩:=r;cases (show T = "str" from d);exact⟨typeIs_str s z t,λ_ e=>nomatch e⟩
 | int i =>
  obtain⟨t,rfl⟩:=r;cases (show T = "int" from d);exact⟨typeIs_int s i t,λ_ e=>nomatch e⟩
 | ref p =>
  cases r;rcases d with⟨rfl,u,l⟩|⟨rfl,o,h,m,g⟩|⟨rfl,h⟩|⟨rfl,S,n,h⟩
  ·obtain ⟨q,_,j,_⟩:=I.list l
   refine⟨j.isList.typeIs,λa e=>?_⟩;cases e;obtain⟨o,n,e,c,g,_⟩:=j;exact⟨o,e,g⟩
  ·refine ⟨⟨o,I.kIn p o h,m⟩,λa e => ?_⟩
   cases e;exact⟨o,I.kIn _ o h,g⟩
  ·have z:∃o,s.heap.get? p=Za o/\o.ExactDict:=by
    rcases h with⟨kvs,h⟩|⟨kvs,h⟩
    ·obtain ⟨_,_,_,_,o,_,_,e,b,_⟩:=I.hok p _ h
     exact⟨o,e,b⟩
    ·obtain ⟨_,_,_,_,o,_,_,e,b,_⟩:=I.hok p _ h
     exact⟨o,e,b⟩
   obtain⟨o,e,b⟩:=z;refine⟨⟨o,e,b.1⟩,λa f=>?_⟩;cases f;exact⟨o,e,b.2.1⟩
  ·obtain ⟨o,_,_,_,e,b,_⟩:=I.hok p _ h
   refine⟨⟨o,e,b.1⟩,λa f=>?_⟩;cases f;exact⟨o,e,b.2.1⟩
 |_=>exact False.elim d
noncomputable def tBM (K:Zg) (T:String) (r:V->List V->Hp->VK->Prop) (b:TE) (t:TA):TE:=λσ H Q=>b σ H λx a=>tyV K T x a/\t σ a λc d=>r x c d Q
variable {o e:Zi}{es:List Zi}{to:TE}{t:TA}{name:Str}{apos cpos:Pos}{T id:String}{r:V->List V->Hp->VK->Prop}
theorem z8y (p:PlainAttrs T) (slot:Slot T name id) (f:typeOf (.builtin id)=pure (.type "method_descriptor")) (k:MtR X id r) (C:PE X o to) (J:PA X (e::es) t)
  (b:attributeBase o name X.env (eval o X.env)=eval o X.env:=by rfl)
  (d:((backTo cpos (starEach (e::es) X.env)).all (λx=>!x.1)&&(backToKw cpos (keywordEach [] X.env)).all (λx=>x.1.isSome)
   && decide ((e::es).length+([]:List Keyword).length+(if ([]:List Keyword).isEmpty then 0 else 1)<30))=Zd:=by rfl)
  (c:(apos.endLine==cpos.line)=Zd:=by rfl) (D:starEach (e::es) X.env=(Zc,eval e X.env)::starEach es X.env:=by rfl) (a:(backTo cpos (starEach es X.env)).any (·.1)=Zc:=by rfl) :
  PE X (.Call (.Attribute o name apos) (e::es) [] cpos) (tBM X.K T r to t):=by
 intro pins s σ H Q I h;refine wpAny_Call_method_late b d c rfl (thn (C pins s σ H _ I h) λv l ⟨x,G,g,j,n,q⟩=>?_);obtain⟨m,y⟩:=ya6 g j n;refine⟨T,id,p,slot,f,m,y,?_⟩;have i:=J cpos pins l σ G _ g q;rw[D] at i ⊢;refine Calls.callWith_builtin (by show (Zc||(backTo cpos (starEach es X.env)).any (·.1))=Zc;rw[a]<;>rfl) (Calls.evalArgs_plain ?_);exact thn i λB z ⟨w,E,F,A,u⟩=>k pins z σ E x w v B Q F j A u
end
noncomputable def MtM (X:Cx) (id:String) (r:V->List V->Hp->VK->Prop):Prop :=
 ∀(pins:List (Zh×Obj)) (s:Zf) (σ:St) (H:Hp) (x:V) (a:List V) (v:Ze) (u:List Ze) (Q:VK),Inv X pins σ H s->RelV x v->Vals a u->r x a H Q ->
  wpAny #v[2,7] X.A (call (.builtin id) (v::u)) (EP X pins σ Q) X.xe s
theorem Vals.one:∀{x:V}{a:List Ze},Vals [x] a->∃u,a=[u]/\RelV x u
 |_,_,.cons r .nil=>⟨_,rfl,r⟩
theorem Vals.eraseIdx:∀{x:List V}{u:List Ze} (i:Nat),Vals x u->Vals (x.eraseIdx i) (u.eraseIdx i)
 |_,_,_,.nil=>.nil
 |_,_,0,.cons _ t=>t
 |_,_,i+1,.cons r t=>.cons r (Vals.eraseIdx i t)
theorem Vals.rep {xs:List V}{u:List Ze} (h:Vals xs u):∀k:Nat,Vals (List.replicate k xs).flatten (List.replicate k u).flatten
 |0=>.nil
 | k+1=>by
  rw[Ct,Ct,El,El];exact Vals.append h (Vals.rep h k)
theorem len_erase {α:Type}:∀(l:List α) (i:Nat),(l.eraseIdx i).length<=l.length
 |[],_=>Ag _
 |_::_,0=>Nat.le_succ _
 |_::r,i+1=>Nat.succ_le_succ (len_erase r i)
theorem zlb (i:List Ze):∀(k:Nat) (a:List Ze),
  List.foldl (λx c=>x++c) a.toArray (List.replicate k i.toArray)=(a++(List.replicate k i).flatten).toArray
 |0,a=>by simp
 | k+1,a=>by
  have e:a.toArray++i.toArray=(a++i).toArray:=by simp
  have b:(a++i)++(List.replicate k i).flatten=a++(List.replicate (k+1) i).flatten:=by
   rw[Ct,El,Bc]
  rw[<-b,<-zlb i k (a++i),<-e,Ct,List.foldl_cons]
section
variable {X:Cx}{pins:List (Zh × Obj)}{σ:St}{H:Hp}{s:Zf}{l b:Zh}{xs ys zs:List V}
theorem Inv.lset {i its':List Ze}{n:Nat}{f:Array Ze->Array Ze}{t':Nat} (I:Inv X pins σ H s) (g:H l=Za (.lst xs))
  (e:s.heap.get? l=Za { cls:=.type "list",data:=.seq i.toArray n }) (d:f i.toArray=its'.toArray) (b:Vals ys its') (a:ys.length<=sizeLine) :
  Inv X pins σ (upd H l (.lst ys)) { s with heap:=s.heap.update l (Obj.mapSeq f),toks:=t' }:=by
 have q:=PySem.IsL.update e f;rw[d] at q;refine I.write (x:=l) (e:=l) (by rw[g];exact trivial) (.inl rfl) (λj u c h=>(Do s.heap (Obj.mapSeq f) (Ne.symm c)).trans h) ⟨_,q⟩ ?_;exact⟨a,its',_,b,q⟩
theorem Inv.lnew {i:List Ze}{t':Nat} (I:Inv X pins σ H s) (h:Vals ys i) (a:ys.length<=sizeLine) :
  Inv X pins σ (upd H s.heap.objs.size (.lst ys)) { s with heap:=s.heap.push { cls:=.type "list",data:=.seq i.toArray },toks:=t' } :=
 I.laid (λ_ _ q=>Ac _ q) (Ag _) ⟨a,i,0,h,Aq _ rfl⟩
theorem Inv.fresh (I:Inv X pins σ H s):H s.heap.objs.size=Zb:=I.hok.fresh (Ag _)
theorem Inv.lstM (I:Inv X pins σ H s)(h:H l=Za (.lst xs)):xs.length<=sizeLine/\∃(i:List Ze) (n:Nat),Vals xs i/\xs.length=i.length/\s.heap.get? l=Za { cls:=.type "list",data:=.seq i.toArray n }:=by
 nofun;obtain⟨z,i,n,r,e⟩:=I.hok l _ h;ac_rfl;exact⟨z,i,n,r,r.length,e⟩
theorem zi0 {n:Nat}(h:n<=sizeLine):Builtin.List.listTooLong n=Zc:=by
 unfold Builtin.List.listTooLong;exact Ao #v[]
end
section
variable {X:Cx}
noncomputable def zuh:V->List V->Hp->VK->Prop:=λx v H Q=>∃l a y,x=.ref l/\v=[y]/\H l=Za (.lst a)/\a.length<sizeLine/\Q .non (upd H l (.lst (a++[y])))
theorem zm7:MtM X "list.append" zuh:=by
 intro pins s σ H x j v m Q I b c h;obtain⟨l,f,y,rfl,rfl,a,g,q⟩:=h;cases b;obtain⟨u,rfl,d⟩:=c.one;obtain⟨z,i,n,r,k,e⟩:=I.lstM a;refine Ho F.slot_list_append ⟨_,e,rfl⟩ F.entry_list_append (F.args_list_append_2 _ _) (PySem.list_append l i.toArray n u (by rw[Ak];omega)) ⟨e,?_⟩;refine⟨.non,_,I.lset (its':=i++[u]) a e (by simp) (r.append (.cons d .nil)) ?_,rfl,q⟩;rw[Bb,Gi];omega
noncomputable def z4b:V->List V->Hp->VK->Prop:=λx v H Q=>∃l b a z,x=.ref l/\v=[.ref b]/\H l=Za (.lst a)/\H b=Za (.lst z)/\a.length+z.length<=sizeLine/\Q .non (upd H l (.lst (a++z)))
theorem z9b:MtM X "list.extend" z4b:=by
 intro pins s σ H x B v D Q I g t h;nofun;obtain⟨l,b,y,E,rfl,rfl,f,j,A,q⟩:=h;ac_rfl;cases g;obtain⟨u,rfl,k⟩:=t.one;cases k;nofun;obtain⟨z,a,n,r,C,e⟩:=I.lstM f;obtain⟨G,i,p,o,w,m⟩:=I.lstM j;ac_rfl;have d:a.toArray.size+i.toArray.size<=sizeLine:=by rw[Ak,Ak];omega
 have c:¬ (!a.toArray.isEmpty&&Builtin.List.listTooLong (a.toArray.size+i.toArray.size))=Zd:=by
  rw[zi0 d,Hh];exact At
 refine Ho F.slot_list_extend ⟨_,e,rfl⟩ F.entry_list_extend (F.args_list_extend_2 _ _)
  (AutoSeq1.list_extend_list_list_0 l a.toArray n b i.toArray p c (by rw[Ak];omega) #v[]) ⟨e,m,?_⟩
 refine⟨.non,_,I.lset (its':=a++i) f e (by simp) (r.append o) ?_,rfl,q⟩;rw[Bb];omega
noncomputable def z2x:V->List V->Hp->VK->Prop:=λx v H Q=>∃l a i k y,x=.ref l/\v=[.int i]/\H l=Za (.lst a)/\-(2^63)<=i/\i<2^63/\seqIndex? i a.length=Za k/\a[k]?=Za y/\Q y (upd H l (.lst (a.eraseIdx k)))
theorem z05:MtM X "list.pop" z2x:=by
 intro pins s σ H x D v E Q I j m h;nofun;obtain⟨l,g,i,k,y,rfl,rfl,c,f,d,p,o,q⟩:=h;ac_rfl;cases j;nofun;obtain⟨u,rfl,A⟩:=m.one;obtain⟨t,rfl⟩:=A;obtain⟨z,a,n,r,B,e⟩:=I.lstM c;obtain⟨w,C,b⟩:=r.get o;ac_rfl;refine Ho F.slot_list_pop ⟨_,e,rfl⟩ F.entry_list_pop (F.args_list_pop_2 _ _)
  (MeetsSeq.list_pop_at l a.toArray n i t k w (fitsIndex_both f d) (by rw[Ak,<-B];exact p) (by rw[<-Ee];exact C) (by rw[Ak];omega)) ⟨e,?_⟩
 refine⟨y,_,I.lset (its':=a.eraseIdx k) c e ?_ (r.eraseIdx k) ?_,b,q⟩
 ·show a.toArray.eraseIdxIfInBounds k=(a.eraseIdx k).toArray;rw[List.eraseIdxIfInBounds_toArray]
 ·have:=len_erase g k;omega
noncomputable def rCat:R2:=λx y H Q=>∃l b a z,x=.ref l/\y=.ref b/\H l=Za (.lst a)/\H b=Za (.lst z)/\a.length+z.length<=sizeLine/\∀p,H p=Zb->Q (.ref p) (upd H p (.lst (a++z)))
theorem z9a:OpR X (binaryOp .Add) rCat:=by
 intro pins s σ H x y v u Q I f o h;nofun;obtain⟨l,b,w,t,rfl,rfl,k,g,A,q⟩:=h;ac_rfl;cases f;cases o;nofun;obtain⟨z,a,n,r,B,e⟩:=I.lstM k;obtain⟨C,i,p,m,d,j⟩:=I.lstM g;ac_rfl;refine PySem.P.add_list e j ?_ (by rw[Ak,Ak];omega);have c:a.toArray++i.toArray=(a++i).toArray:=by simp
 rw[c];exact⟨.ref _,_,I.lnew (t':=s.toks) (r.append m) (by rw[Bb];omega),rfl,q _ I.fresh⟩
noncomputable def rRep:R2:=λx y H Q=>∃l k a,x=.ref l/\y=.int k/\H l=Za (.lst a)/\-(2^63)<=k/\k<2^63/\a.length*k.toNat<=sizeLine /\
 ∀p,H p=Zb->Q (.ref p) (upd H p (.lst (List.replicate k.toNat a).flatten))
theorem z6a {α:Type}(xs:List α)(k:Nat):(List.replicate k xs).flatten.length=k*xs.length:=by
 induction k with
 |zero=>simp
 |succ k i=>rw[Ct,El,Bb,i,Nat.succ_mul,Nat.add_comm]
theorem ybk:OpR X (binaryOp .Mult) rRep:=by
 intro pins s σ H x y v u Q I w A h;nofun;obtain⟨l,k,L,rfl,rfl,G,B,D,p,q⟩:=h;ac_rfl;cases w;nofun;obtain⟨t,rfl⟩:=A;obtain⟨z,i,n,r,C,e⟩:=I.lstM G;ac_rfl;have d:i.toArray.size*k.toNat<=sizeLine:=by rw[Ak,<-C];exact p
 have g:¬ i.toArray.size*k.toNat > (2^63-1)/8:=by
  have:(sizeLine:Nat)<=(2^63-1)/8:=by decide
  omega
 have c:¬ (!Builtin.List.listFitsIndex k)=Zd:=by
  rw[fitsIndex_both B D];exact At
 have b:¬ Builtin.List.listTooLong (i.toArray.size*k.toNat)=Zd:=by
  rw[zi0 d];exact At
 have f:List.foldl (λo j=>o++j) #[] (List.replicate (if i.toArray.isEmpty=Zd then 0 else k.toNat) i.toArray)=(List.replicate k.toNat i).flatten.toArray:=by
  have J:∀m:Nat,List.foldl (λo j=>o++j) #[] (List.replicate m i.toArray)=(List.replicate m i).flatten.toArray:=λm=>by
   have:=zlb i m [];rw[List.nil_append] at this;exact this
  rw[J];cases i with
  |nil=>simp
  |cons a K=>rw[if_neg (by simp)]
 refine wpAny_binaryOp_repeat_ref (T := "list") (U := "int") #v[0,9] ⟨_,e,rfl⟩ (λE=>typeIs_int E k t) noFill_list_mul F.fills_int_mul F.slot_int_rmul repeat_list F.slot_int_index.lookup
  (Ho F.slot_int_rmul (typeIs_int s k t) F.entry_int_rmul (F.args_int_rmul_2 _ _) (int___rmul___int_list k t l i.toArray n)
   ⟨e,rfl,⟨_,e,rfl⟩,Ho F.slot_list_mul ⟨_,e,rfl⟩ F.entry_list_mul (F.args_list_mul_2 _ _) (AutoListH.list___mul___list_int_3 l i.toArray n k t c g b) ⟨e,?_⟩⟩)
 rw[f];exact⟨.ref _,_,I.lnew (t':=s.toks) (r.rep k.toNat) (by rw[z6a,Nat.mul_comm];exact p),rfl,q _ I.fresh⟩
end
section
variable {prog:Program}{w:World}{A:Around}{E:Ze->Zf->Prop}{s:Zf}
end
section
variable {X:Cx}
end
end L2
namespace Att
open PySem PySem.W PySem.Calls PyProof.Rows
theorem zhb {P:Params}{h:Heap}:∀(c:List Int) (v:List Ze),WellAll P h v (c.map WData.int)->IntsAre v c:=by
 intro c
 induction c with
 | nil =>
  intro v w;rw[List.map_nil] at w;cases w;exact .nil
 | cons n c i =>
  intro v w;rw[Ax] at w;cases w with
  | cons a b =>
   cases a;exact .cons _ _ (i _ b)
theorem zwc {l:OpenLaw}{n:Nat} (w:l.most=Za n) {P:Params}{h:Heap}{args:List WData}{c:List Ze}
  (e:l.row.toRowW.claim.pre args=Zd) (k:WellAll P h c args) :
  ∃a p b,c=[Ze.ref a]/\args=[WData.list (b.map WData.int)]/\h.get? a=Za { cls:=.type "list",data:=.seq p.toArray }/\IntsAre p b/\b.length<=n:=by
 have m:WShape.hasAll [] args [.list .int]=Zd:=(pre_splitW e).1;have o:l.pre.holds [] { args:=args }=Zd:=(pre_splitW e).2;obtain ⟨d,r,rfl,t,u⟩:=hasAllW_cons m;obtain rfl:=hasAllW_nil u;obtain ⟨B,rfl,s⟩:=hasW_list t;obtain ⟨b,rfl⟩:=items_int s;have g:b.length<=n:=by
  unfold OpenLaw.pre at o;have j:(WTm.not (.lt (.lit (.int (n:Int))) (.len (.arg 0)))).holds [] { args:=[.list (b.map .int)] }=Zd:=by
   have j:=(holds_andW o).1;rw[w] at j;exact j
  have i:=condW_of j (w_not (w_lt w_lit (w_len_list (w_arg rfl))));rw[Ad] at i;refine Nat.le_of_not_lt λq=>?_;have A:(n:Int)<((b.length:Nat):Int):=by omega
  first
   |(rw[Ah A] at i;exact absurd i #v[0,9])
   |(simp at i;omega)
 cases k with
 | cons y z =>
  cases z;cases y with
  |list x f=>exact⟨_,_,b,rfl,rfl,x,zhb b _ f,g⟩
theorem zxe (l:OpenLaw)(args:List WData):l.row.toRowW.claim.post args (.bool Zd) args=Zd :=
 postW_of (r:=l.row.toRowW) (X:=(Zd==Zd))
  (show WShape.has [] (.bool Zd) .bool=Zd by first|rfl|decide|simp [WShape.has,WShape.arms,WShape.armsAll])
  (show (WTm.eq .res (.lit (.bool Zd))).value [] { args:=args,res:=Za (.bool Zd),after:=args }=Za (.bool (Zd==Zd)) from w_eq_bool (w_res rfl) w_lit) rfl
theorem attach_call {l:OpenLaw}{n:Nat}{q:Program}{b:List Str}{X:(Str->Option Ze)->Heap->Prop}{B:World->Heap->Prop}{d:DefRec}
  (O:l.most=Za n) (z:d.params.defaults=[])
  (call:∀(w:World) (s₀ s:Zf) (m u:Str->Option Ze) (i:Zh) (o:Obj) (y j doc:Ze) (a:Zh) (v:List Ze) (p:List Int),
   Ground q b [] X w s₀ m u s.heap->B w s.heap ->
   s.heap.get? i=Za o->o.data=.func (docDef d.name d.params d.body d.scope y j doc)->s.heap.CodeRec j d.name->m d.name=Za (.ref i) ->
   s.heap.get? a=Za { cls:=.type "list",data:=.seq v.toArray }->IntsAre v p->p.length<=n->s.gens=#[] ->
   codeAny (model l.prog w) callerA (.call (.ref i) ⟨[.ref a],[]⟩) (λr k=>r=.ok (.ret (.bool Zd))/\OldK s.heap k.heap/\k.os=s.os/\AllBare k.gens) s) :
  WalkO q b X B l.row.toRowW d [] (λf v=>PySem.call f v):=by
 intro w s₀ s m u G Y i o y j doc N kV P L t E A H args C S e D R x K;obtain rfl:N=.none:=Dflts.none E z;obtain rfl:kV=.none:=Dflts.noKw E;obtain⟨a,v,p,rfl,rfl,c,h,g⟩:=zwc O e x;refine enter_call (codeAny_mono (call w s₀ s m u i o y j doc a v p G Y P (fd_plain L) t A c h g H) λr k J=>?_);obtain⟨rfl,M,I,Q⟩:=J;exact⟨.inl ⟨.bool Zd,.bool Zd,[],rfl,λ_=>rfl,.bool Zd,zxe l _,λ_=>⟨List.Pairwise.nil,λ_ F=>(nomatch F)⟩⟩,M,I,Q⟩
section
variable {prog:Program}{w:World}{A:Around}{E:Ze->Zf->Prop}{s:Zf}{K:Frag}
end
end Att
namespace L2
open PySem PySem.Spec PyProof.Rows
theorem zk4:∀{v:List Ze}{a:List Int},IntsAre v a->Vals (a.map V.int) v
 |_,_,.nil=>.nil
 |_,_,.cons n t h=>.cons ⟨t,rfl⟩ (zk4 h)
noncomputable def zfn (s:Stmt):Arguments:=match s with
 |.FunctionDef _ a _ _ _ _ _ _ _ _=>a
 |_=>{ posonlyargs:=[],args:=[],vararg:=Zb,kwonlyargs:=[],kw_defaults:=[],kwarg:=Zb,defaults:=[] }
noncomputable def zdr (s:Stmt):List Stmt:=match s with
 |.FunctionDef _ _ b _ _ _ _ _ _ _=>b
 |_=>[]
noncomputable def zar (s:Stmt):Scope:=match s with
 |.FunctionDef _ _ _ _ _ _ a _ _ _=>a
 |_=>{ kind:=.function,names:=[],isGenerator:=Zc,isCoroutine:=Zc }
noncomputable abbrev CX0:CXT:=λ_ _ _ _ _ _=>False
noncomputable abbrev E0:XK:=λ_ _ _=>False
theorem ycm {X:Cx}:zug CX0 X E0:=λ_ _ _ _ _ _ _ h=>h.elim
structure Fun (K:Zg) (x qual:Str) (st:Stmt) (f:Zh) (fd:FuncData):Prop where
 ex:∃(oc:Ze) (od:Option Zh) (kV doc pm:Ze) (an:Option Zh) (cdv ct:Ze) (osl:Array (Option Ze)),
  fd=PySem.W.fnOf x qual (zfn st) (zdr st) (zar st) .none kV doc pm an cdv ct/\K.lookup f=Za ⟨oc,od,.func fd,osl⟩/\PySem.W.codeIn K cdv qual=Zd
 kp:PySem.W.keepIn K (.ref f)=Zd
section
variable {P:Program}{w:World}{K:Zg}{mg:Str->Option Ze}{base:Heap}
theorem Fun.binds {x qual:Str}{st:Stmt}{f:Zh}{b:FuncData}{ps:List Str} (F:Fun K x qual st f b)
  (h:∀(kV doc p:Ze) (a:Option Zh) (cdv c:Ze) (u:List Ze),u.length=ps.length->bindArgs (PySem.W.fnOf x qual (zfn st) (zdr st) (zar st) .none kV doc p a cdv c) ⟨u,[]⟩=pure (ps.zip u)):zoi K b ps []:=by
 obtain⟨o,e,kV,doc,p,a,cdv,c,osl,rfl,l,d⟩:=F.ex;exact .all (h kV doc p a cdv c)
theorem z3l {x qual:Str}{st:Stmt}{f:Zh}{o:Ze}{d b:Option Zh}{osl:Array (Option Ze)}{kV doc pm cdv a:Ze} (l:K.lookup f=Za ⟨o,d,.func (PySem.W.fnOf x qual (zfn st) (zdr st) (zar st) .none kV doc pm b cdv a),osl⟩)
 (c:PySem.W.codeIn K cdv qual=Zd) (k:PySem.W.keepIn K (.ref f)=Zd):Fun K x qual st f (PySem.W.fnOf x qual (zfn st) (zdr st) (zar st) .none kV doc pm b cdv a):=⟨⟨o,d,kV,doc,pm,b,cdv,a,osl,rfl,l,c⟩,k⟩
end
section
variable {X:Cx}
end
theorem iteF {A B:Prop}(h:B):if Zc=Zd then A else B:=by
 rw[if_neg At];exact h
theorem iteT {A B:Prop}(h:A):if Zd=Zd then A else B:=by
 rw[if_pos rfl];exact h
noncomputable def Same (H H':Hp):Prop:=∀b o,H b=Za o->H' b=Za o
theorem Same.refl (H:Hp):Same H H:=λ_ _ h=>h
theorem Same.trans {H e d:Hp}(a:Same H e)(b:Same e d):Same H d:=λc o h=>b c o (a c o h)
theorem Same.free {H H':Hp} (e:Same H H') {l:Zh} (h:H' l=Option.none):H l=Option.none:=by
 cases q:H l with
 |none=>rfl
 | some o =>
  rw[e l o q] at h;cases h
theorem Same.seq {K:Zg}{H H':Hp}{a:Zh}{xs:List V}(e:Same H H')(h:SqL K H a xs):SqL K H' a xs:=by
 rcases h with (h|⟨o,h⟩)|h
 ·exact .inl (.inl (e _ _ h))
 ·exact .inl (.inr ⟨o,e _ _ h⟩)
 ·exact .inr h
noncomputable def capSt (cap:List (Option Nat)) (σ:St):St:=cap.map λo=>match o with
 |some i=>(σ[i]?).getD Zb
 |none=>Zb
noncomputable def zho (cap:List (Option Nat)) (Nc N:List Str) (scope:Scope):Bool :=
 decide (cap.length=Nc.length)&&(cap.zip Nc).all λp=>match p.1 with
  |some i=>decide (N[i]?=Za p.2)&&decide (scope.names.lookup p.2=Za NameKind.free)
  |none=>Zd
theorem zvj {cap Nc N scope}(h:zho cap Nc N scope=Zd):cap.length=Nc.length:=by
 unfold zho at h;rw[Ab] at h;exact Ai h.1
theorem zt1 {cap:List (Option Nat)}{Nc N:List Str}{scope:Scope}(h:zho cap Nc N scope=Zd){j i:Nat}{x:Str}(b:cap[j]?=Za (Za i))(a:Nc[j]?=Za x):N[i]?=Za x/\scope.names.lookup x=Za .free:=by
 unfold zho at h;rw[Ab] at h;have c:(Za i,x)∈cap.zip Nc:=by
  refine Bh (i:=j) ?_;rw[List.getElem?_zip_eq_some];exact⟨b,a⟩
 have q:=Aw.mp h.2 _ c;simp only [Ab,Br] at q;exact q
noncomputable def zhf (scope:Scope) (out:Scope):Bool:=scope.names.all λp=>!(p.2==NameKind.free)||decide (out.names.lookup p.1=Za .cell)||decide (out.names.lookup p.1=Za .free)
theorem zfh {env:Env}:∀(names:List (Str × NameKind)) (f:List (Str × Zh)),(∀x,(x,NameKind.free)∈names->∃c,env.cells.lookup x=Za c)->(∀x c,f.lookup x=Za c->env.cells.lookup x=Za c) ->
    ∃i,(forIn names f fun (p:Str × NameKind) t=>if p.2 == NameKind.free then do let c <- cellOf env p.1;pure (ForInStep.yield ((p.1,c)::t)) else pure (ForInStep.yield t):Sem (List (Str × Zh)))=pure i /\
      (∀x c,i.lookup x=Za c->env.cells.lookup x=Za c)/\(∀x,(x,NameKind.free)∈names\/(∃c,f.lookup x=Za c)->∃c,i.lookup x=Za c)
  | [],f,_,l=>⟨f,by rw [Fm],l,fun x h=>by
      rcases h with h|h
      · cases h
      · exact h⟩
  | (n,k)::r,f,m,l=>by
    rw[Gs];by_cases s:(k == NameKind.free)=Zd
    · have u : k = .free := by simpa using s
      subst u;obtain ⟨c,q⟩:=m n Av;have o : ∀x d,((n,c)::f).lookup x=Za d->env.cells.lookup x=Za d:=fun x d h=>by
        rw[Bm] at h;cases e:x == n with
        | true => rw [e] at h; obtain rfl := sI h; have : x = n := by simpa using e
                  rw[this];exact q
        |false=>rw[e] at h;exact l x d h
      obtain⟨i,e,a,b⟩:=zfh r ((n,c)::f) (λx h=>m x (An _ h)) o;refine⟨i,?_,a,λx h=>b x ?_⟩
      · rw [<- e]
        have g:cellOf env n=pure c:=by unfold cellOf;rw[q]
        simp only [beq_self_eq_true,Fq,g]
        rfl
      · have gen:∀y d,f.lookup y=Za d->∃w,((n,c)::f).lookup y=Za w:=fun y d v=>by
          rw[Bm];cases e:y == n with
          |true=>exact⟨_,rfl⟩
          |false=>exact⟨d,v⟩
        rcases h with h|⟨d,h⟩
        · rcases Ap.mp h with h | h
          · injection h with h _
            subst h;exact .inr ⟨c,by rw[Bm];simp⟩
          · exact .inl h
        · exact .inr (gen x d h)
    · have j : (k == NameKind.free) = Zc := by simpa using s
      obtain⟨i,e,a,b⟩:=zfh r f (λx h=>m x (An _ h)) l;refine⟨i,?_,a,λx h=>b x ?_⟩
      · rw [<- e]
        simp only [j,Dq,Gm]
        rfl
      · rcases h with h | h
        · rcases Ap.mp h with h | h
          · injection h with _ h
            subst h;simp at j
          · exact .inl h
        · exact .inr h
theorem zdp {env:Env}{scope:Scope} (h:∀x,(x,NameKind.free)∈scope.names->∃c,env.cells.lookup x=Za c) :
  ∃d,closureFor scope env=pure d/\(∀x c,d.lookup x=Za c->env.cells.lookup x=Za c)/\(∀x,(x,NameKind.free)∈scope.names->∃c,d.lookup x=Za c):=by
 nofun;obtain⟨d,e,a,b⟩:=zfh (env:=env) scope.names [] h (λx c f=>by simp at f);ac_rfl;refine⟨d,?_,a,λx f=>b x (.inl f)⟩;rw[closureFor];have g:=e;simp only [bind_assoc,Gu] at g ⊢;exact congrArg (λm=>m>>=λr=>pure r) e |>.trans (by rw[Gu])
noncomputable def zbb (X:Cx) (Nc:List Str) (scope:Scope) (c:List (Str×Zh)) (C:Zh) (s:Zf) (H:Hp) (fp:List Zh):Cx where
 prog:=X.prog
 w:=X.w
 K:=X.K
 mg:=X.mg
 base:=X.base
 A:=X.A
 N:=Nc
 s₀:=s
 H₀:=H
 env:=compEnvC scope c C X.env
 outer:=X.stack
 stack:=X.stack
 ex:=fp
 fn:=λx=>decide (scope.names.lookup x=Za NameKind.cell)
 calm:=X.calm
 pn:=[]
 xe:=λ_ _=>False
noncomputable def z2o:TT:=λσ H Q=>Q Zd H
noncomputable def PTs (X:Cx) (ifs:List Zi) (t:TT):Prop :=
 ∀(pins:List (Zh×Obj)) (s:Zf) (σ:St) (H:Hp) (Q:Bool->Hp->Prop),Inv X pins σ H s->t σ H Q ->
  wpAny #v[2,7] X.A (forIn ifs Zd λc r=>if r=Zd then do let ok <- isTrue c X.env (eval c X.env);pure (ForInStep.yield ok) else pure (ForInStep.yield r)) (TP X pins σ Q) X.xe s
theorem z5u {X:Cx}:PTs X [] z2o:=λpins s σ H Q I h=>by
 rw[Fm];exact Am ⟨H,I,h⟩
theorem z7p {X:Cx}{c:Zi}{t:TT}(h:PT X c t):PTs X [c] t:=λpins s σ H Q I q=>by
 rw[Gs];simp only [Fq];refine Aa (Aa (thn (h pins s σ H Q I q) λb d a=>?_));refine Am ?_;dsimp only;rw[Fm];exact Am a
section
variable {X:Cx}
theorem za5 {env:Env}:∀{names:List (Str×NameKind)}{x:Str},names.lookup x=Za .free ->
  (names.map λ(n,k)=>if (k == NameKind.free && env.scope.kind == .function && env.kindOf n == some .cell) then (n,NameKind.cell) else (n,k)).lookup x=Za .cell \/
  (names.map λ(n,k)=>if (k == NameKind.free && env.scope.kind == .function && env.kindOf n == some .cell) then (n,NameKind.cell) else (n,k)).lookup x=Za .free
 |[],_,h=>by simp at h
 | (n,k)::r,x,h=>by
  have i:=@za5 env r x;rw[Ax];rw[Bm] at h;cases hx:x==n with
  | true =>
   rw[hx] at h;obtain rfl:=sI h;dsimp only;split
   ·rw[Bm,hx];exact .inl rfl
   ·rw[Bm,hx];exact .inr rfl
  | false =>
   rw[hx] at h;dsimp only;split
   ·rw[Bm,hx];exact i h
   ·rw[Bm,hx];exact i h
theorem zbh {env:Env}:∀{names:List (Str×NameKind)}{x:Str}{k:NameKind},(k=.cell\/k=.free) ->
  (names.map λ(n,k)=>if (k == NameKind.free && env.scope.kind == .function && env.kindOf n == some .cell) then (n,NameKind.cell) else (n,k)).lookup x=Za k->names.lookup x=Za .free\/names.lookup x=Za .cell
 |[],_,_,_,h=>by simp at h
 | (n,c)::r,x,k,a,h=>by
  rw[Ax] at h;rw[Bm];cases hx:x==n with
  | true =>
   dsimp only at h;split at h
   ·rename_i b
    rw[Bm,hx] at h;simp only [Ab,beq_iff_eq] at b;rw[b.1.1];exact .inl rfl
   ·rw [Bm,hx] at h
    obtain rfl:=sI h;rcases a with rfl|rfl
    ·exact .inr rfl
    ·exact .inl rfl
  | false =>
   dsimp only at h;split at h
   ·rw[Bm,hx] at h;exact zbh a h
   ·rw[Bm,hx] at h;exact zbh a h
theorem zd7 {scope out:Scope}(h:zhf scope out=Zd){x:Str}(a:(x,NameKind.free)∈scope.names):out.names.lookup x=Za .cell\/out.names.lookup x=Za .free:=by
 have q:=Aw.mp h _ a;simpa using q
theorem capSt_get {cap:List (Option Nat)}{σ:St}{j:Nat}{v:V} (h:(capSt cap σ)[j]?=Za (Za v)):∃i,cap[j]?=Za (Za i)/\σ[i]?=Za (Za v):=by
 unfold capSt at h;rw[Aj] at h;cases e:cap[j]? with
 |none=>rw[e] at h;cases h
 | some o =>
  rw[e] at h;cases o with
  |none=>cases h
  | some i =>
   refine⟨i,rfl,?_⟩;have a:(σ[i]?).getD Zb=Za v:=sI h;cases e2:σ[i]? with
   |none=>rw[e2] at a;cases a
   |some z=>rw[e2] at a;exact congrArg Za a
theorem zbd {env:Env}:∀{names:List (Str×NameKind)}{x:Str}{k:NameKind},k≠.free->names.lookup x=Za k ->
  (names.map λ(n,k)=>if (k == NameKind.free && env.scope.kind == .function && env.kindOf n == some .cell) then (n,NameKind.cell) else (n,k)).lookup x=Za k
 |[],_,_,_,h=>by simp at h
 | (n,a)::r,x,k,b,h=>by
  have i:=@zbd env r x k b;rw[Ax];rw[Bm] at h;cases hx:x==n with
  | true =>
   rw[hx] at h;obtain rfl:=sI h;have:(a==NameKind.free)=Zc:=by cases a<;>first|rfl|exact absurd rfl b
   dsimp only;rw[this,Ev,Ev,if_neg At,Bm,hx]
  | false =>
   rw[hx] at h;dsimp only;split
   ·rw[Bm,hx];exact i h
   ·rw[Bm,hx];exact i h
noncomputable def zfw (scope:Scope):Bool:=scope.names.all λp=>!(p.2==NameKind.cell)||decide (scope.names.lookup p.1=Za .cell)
theorem zso {scope:Scope}(h:zfw scope=Zd){x:Str}(a:(x,NameKind.cell)∈scope.names):scope.names.lookup x=Za .cell:=by
 have q:=Aw.mp h _ a;simpa using q
theorem zct:∀(names:List (Str×NameKind)) (n:Nat) (a:List (Str×Zh)),cellsFrom n names a=cellsFrom n names []++a
 |[],_,_=>rfl
 | (x,k)::r,n,a=>by
  unfold cellsFrom;split
  ·rw[zct r (n+1) ((x,n)::a),zct r (n+1) [(x,n)],Bc];rfl
  ·exact zct r n a
theorem zg5:∀(names:List (Str×NameKind)) (n:Nat) {x:Str}{c:Zh},(x,c)∈cellsFrom n names []->(x,NameKind.cell)∈names
 |[],_,_,_,h=>by cases h
 | (y,k)::r,n,x,c,h=>by
  unfold cellsFrom at h;split at h
  ·rename_i a
   rw[zct] at h;rcases Cc.mp h with h|h
   ·exact An _ (zg5 r _ h)
   ·have e:=Az.mp h
    cases e;have:k=NameKind.cell:=by simpa using a
    rw[this];exact Av
  ·exact An _ (zg5 r _ h)
theorem cells_of {names:List (Str×NameKind)}{n:Nat}{a:List (Str×Zh)}{x:Str}{c:Zh}(h:(cellsFrom n names a).lookup x=Za c):(cellsFrom n names []).lookup x=Za c\/((cellsFrom n names []).lookup x=Zb/\a.lookup x=Za c):=by
 rw[zct,List.lookup_append] at h;cases e:(cellsFrom n names []).lookup x with
 |some d=>rw[e] at h;exact .inl h
 |none=>rw[e] at h;exact .inr ⟨rfl,h⟩
theorem zia {scope:Scope} (h:zfw scope=Zd) {n:Nat}{a:List (Str×Zh)}{x:Str}{c:Zh} (b:scope.names.lookup x=Za .free) (f:a.lookup x=Za c):(cellsFrom n scope.names a).lookup x=Za c:=by
 rw[zct,List.lookup_append];cases e:(cellsFrom n scope.names []).lookup x with
 |none=>exact f
 | some d =>
  have:=zso h (zg5 _ _ (Bu e));rw[b] at this;cases this
theorem zz2 {pins:List (Zh×Obj)}{σ:St}{O:Hp}{s:Zf}{Nc:List Str}{scope:Scope}{G:List (Str×Zh)}{cap:List (Option Nat)}{fp:List Zh}{h4:Heap}{tk:Nat}
  (I:Inv X pins σ O s) (hk:scope.kind=.function) (t:zho cap Nc X.N scope=Zd) (H:zhf scope X.env.scope=Zd) (L:zfw scope=Zd)
  (E:∀x c,G.lookup x=Za c->X.env.cells.lookup x=Za c) (V:∀x,(x,NameKind.free)∈scope.names->∃c,G.lookup x=Za c)
  (S:∀b∈fp,FpOk X pins O b) (W:∀b∈fp,b<s.heap.objs.size)
  (Q:h4.Ns s.heap.objs.size (λ_=>Zb)) (f:∀b o,s.heap.get? b=Za o->h4.get? b=Za o) (K:CellsOk h4 (s.heap.objs.size+1) (cellsFrom (s.heap.objs.size+1) scope.names [])) :
  Inv (zbb X Nc scope (cellsFrom (s.heap.objs.size+1) scope.names G) s.heap.objs.size s O fp) [] (capSt cap σ) O { s with heap:=h4,toks:=tk }:=by
 have w:∀b∈fp,b ∉ frs X.stack:=λb D z=>by
  obtain⟨_,g1,Z,_⟩:=S b D;rcases Ap.mp (I.stkSub b z) with e|e
  ·exact g1 e
  ·exact Z e
 have own:∀x c,(cellsFrom (s.heap.objs.size+1) scope.names []).lookup x=Za c->h4.IsCell c Zb/\s.heap.objs.size+1<=c:=λx c h=>K.empty x c (Bu h);have N:∀x c,G.lookup x=Za c->c<s.heap.objs.size:=λx c h=>by
  obtain⟨v,q⟩:=I.cell x c (E x c h);exact q.lt
 refine⟨⟨I.mod,hk,I.ok.glob,I.ok.blt,Ag _,λx y c J P=>?_,λx A=>?_,λx c h h'=>?_,I.ok.hd,I.ok.frames,.inl rfl,λb D=>⟨Bg (W b D),λx c h=>?_⟩,
  λb o e=>I.bs b o e,Bj I.ok.bsz I.sz,λb o e D=>?_,w,I.stack,I.stkFree⟩,rfl,I.bare,Un.kept f,⟨_,Q,λj x v J P h3=>?_⟩,λx c h=>?_,I.hok.fresh (Ag _),λx c h=>?_,λp hp=>absurd (show p∈([]:List (Zh×Obj)) from hp) (by simp),I.hok.kept f,?_⟩
 ·rcases cells_of J with F|⟨_,F⟩
  ·rcases cells_of P with B|⟨_,B⟩
   ·exact name_of_addr K.apart (Bu F) (Bu B)
   ·have a:=(own x c F).2;have b:=N y c B;exact absurd (Bd b (Gb a)) (Bx _)
  ·rcases cells_of P with B|⟨_,B⟩
   ·have a:=(own y c B).2;have b:=N x c F;exact absurd (Bd b (Gb a)) (Bx _)
   ·exact I.ok.inj x y c (E x c F) (E y c B)
 ·have g:scope.names.lookup x=Za .free\/scope.names.lookup x=Za .cell:=by
   rcases A with A|A
   ·exact zbh (env:=X.env) (.inl rfl) A
   ·exact zbh (env:=X.env) (.inr rfl) A
  rcases g with g|g
  ·obtain⟨c,e⟩:=V x (Bu g);exact⟨c,zia L g e⟩
  ·exact Eo.mp (Ga scope.names _ G (.inl g))
 ·have A:scope.names.lookup x=Za .cell:=Ai h;rcases cells_of h' with z|⟨z,_⟩
  ·exact Gb (own x c z).2
  ·obtain⟨d,e⟩:=cell_has (n:=s.heap.objs.size+1) A;rw[z] at e;cases e
 ·rcases cells_of h with z|⟨_,z⟩
  ·have a:=(own x c z).2;have:=W b D;exact Ne.symm (Bg (Bd this (Gb a)))
  ·exact (S b D).2.2.2.2.1 x c (E x c z)
 ·rcases (S b D).2.2.2.1 with z|z
  ·exact I.ok.noex b o e z
  ·have J:b<X.base.objs.size:=Ar e;exact absurd (Bd J (Bj I.ok.bsz z)) (Bx _)
 ·obtain ⟨i,e1,e2⟩:=capSt_get P;have U:Nc[j]?=Za x:=J;obtain ⟨n1,M⟩:=zt1 t e1 U;have vis:Vis X.env.scope x:=by
   rcases zd7 H (Bu M) with z|z
   ·exact .inr (.inl z)
   ·exact .inr (.inr z)
  obtain⟨m,hn,hl⟩:=I.loc;obtain⟨u,r,l⟩:=hl i x v n1 e2 vis;refine⟨u,r,?_⟩;rcases l with⟨R,_⟩|⟨_,c,e,z⟩
  ·have k:X.env.scope.names.lookup x=Za .local:=R;rcases zd7 H (Bu M) with z|z
   ·rw[z] at k;cases k
   ·rw[z] at k;cases k
  ·obtain⟨c', Y⟩:=V x (Bu M);have:=E x c' Y;rw[e] at this;obtain rfl:=sI this;refine .inr ⟨za5 (env:=X.env) M,c,zia L M Y,?_⟩;obtain⟨o,C,T⟩:=z;exact⟨o,f _ _ C,T⟩
 ·rcases cells_of h with z|⟨_,z⟩
  ·exact⟨Zb,(own x c z).1⟩
  ·obtain⟨v,o,C, T⟩:=I.cell x c (E x c z);exact⟨v,o,f _ _ C,T⟩
 ·rcases cells_of h with z|⟨_,z⟩
  ·exact I.hok.fresh (Gb (own x c z).2)
  ·exact I.freeC x c (E x c z)
 ·show (capSt cap σ).length=Nc.length;rw[<-zvj t];unfold capSt;rw[Ad]
theorem zjd {M:Model}{A:Around}{E:Ze->Zf->Prop}{s:Zf}{scope:Scope}{g:Zh}{a:List (Str×Zh)}{qual:Str}{outer:Env}{Q:Env->Zf->Prop}
  (hQ:∀h,h.Ns s.heap.objs.size (λ_=>Zb)->(∀b o,s.heap.get? b=Za o->h.get? b=Za o)->CellsOk h #v[7,11] (cellsFrom #v[7,11] scope.names []) ->
   Q (newEnv scope s.heap.objs.size g (cellsFrom #v[7,11] scope.names a) qual Zb .none (Za outer) builtinsNs) { s with heap:=h }) :
  wpAny M A (newFunctionEnv scope g a [] qual Zb .none (Za outer)) Q E s:=by
 simp only [newFunctionEnv,Option.isSome_some,Fq];refine Aa (wpAny_alloc ?_);refine Aa (wpAny_layCells _ (λname kind c=>by cases hkc:kind==NameKind.cell<;>simp [hkc]) _ _ _ _ ?_);have ok:=cellsFrom_ok scope.names (s.heap.push { cls:=.type "dict",data:=.dict #[] }) #v[7,11] [] ⟨λ_ _ d=>(nomatch d),List.Pairwise.nil⟩ (by rw[Df];exact Ag _);rw[Df] at ok;rw[show ({ s with heap:=s.heap.push { cls:=.type "dict",data:=.dict #[] } }:Zf).heap.objs.size=s.heap.objs.size+1 from Df ..];refine Aa ?_;rw[Fm];exact Am (Am (hQ _ ((Heap.Ns.new s.heap (.type "dict")).keeps (pushCells_keeps _ _)) (λb o e=>pushCells_keeps _ _ b o (Ac _ e)) ok))
end
noncomputable abbrev TM:=St->Hp->(St->Hp->Prop)->Prop
noncomputable def PM (X:Cx) (em:Sem Unit) (t:TM):Prop :=
 ∀(pins:List (Zh×Obj)) (s:Zf) (σ:St) (H:Hp) (N:St->Hp->Prop),Inv X pins σ H s->t σ H N ->
  wpAny #v[2,7] X.A em (λ_ c=>∃a b,Inv X pins a b c/\N a b) X.xe s
noncomputable def zmw (e:Zi) (d:Nat) (tg iter:Zi) (ifs:List Zi) (em:Sem Unit) (it acc:Ze) (env:Env):Sem Fin:=do
 standAt iter.pos
 match <- pyNext it with
 |none=>pure (.done .next)
 | some v =>
  letOwnedTupleGo tg it v
  assign tg env v
  let mut ok:=Zd
  for c in ifs do
   if ok then ok <- isTrue c env (eval c env)
  if ok then em
  again (.compLoop e d it acc env)
noncomputable def zl9 (J:It) (g:TG) (tc:TT) (t:TM) (σ:St) (H:Hp) (Q:St->Hp->Prop):Prop:=∃W:Nat->Nat->St->Hp->Prop,(∃m,W 0 m σ H) /\
 ∀i m c d,W i m c d->(J.stop i d/\Q c d)\/(J.go i d/\∃N:St->Hp->Prop,(∀f e,N f e->∃j,j<m/\W (i+1) j f e)/\∀x e,J.yld i d x e->g x c e λa k =>
  tc a k λb h=>if b=Zd then t a h N else N a h)
noncomputable def zx9 (w:TI) (cap:List (Option Nat)) (g:TG) (tc:TT) (t:Zh->TM):TE:=λσ H Q=>w σ H λJ b=>∀a,b a=Zb->zl9 J g tc (t a) (capSt cap σ) (upd b a (.lst [])) λ_ c=>Q (.ref a) c
section
variable {X:Cx}
theorem zmu {elt:Zi}{gens:List Comprehension}{scope:Scope}{pos:Pos}{d:Nat}{G iter:Zi}{ifs:List Zi}{em:Sem Unit}{l:Ze}{g:TG}{tc:TT}{S:TM}{pins:List (Zh×Obj)}{σ:St}{H:Hp}{s:Zf}{it:Zh}{fp:List Zh}{D:Nat->Heap->Prop}{J:It}{Z:St->Hp->Prop}{R:Result->Zf->Prop}
  (F:∀v s,¬ X.xe v s) (U:X.calm=Zd) (ht:compTurn #v[2,10] d (.ref it) l X.env=zmw #v[2,10] d G iter ifs em (.ref it) l X.env)
  (hg:PG X G g) (hs:PTs X ifs tc) (O:PM X em S) (I:Inv X pins σ H s) (T:Turn X.prog X.w X.K G J fp it D) (st:D 0 s.heap) (f:∀b∈fp,FpOk X pins H b)
  (hW:zl9 J g tc S σ H Z)
  (hR:∀a c A,Inv X pins a c A->Z a c->R (.ok .next) A):codeAny #v[2,7] X.A (.compLoop #v[2,10] d (.ref it) l X.env) R s:=by
 have k:∀{c:Hp},(∀b∈fp,c b=Zb)->∀b∈fp,FpOk X pins c b:=λhn b p=>⟨hn b p,(f b p).2⟩;nofun;obtain⟨W,⟨m0,w0⟩,turn⟩:=hW;ac_rfl;refine codeAny_loop rfl (λn A=>∃i a c,Inv X pins a c A/\D i A.heap/\(∀b∈fp,c b=Zb)/\W i n a c) ?_ m0 ⟨0,σ,H,I,st,λb p=>(f b p).1,w0⟩;rintro n L ⟨i,h,E,I3,w,y,w3⟩;show wpAny _ X.A ((compTurn #v[2,10] d (.ref it) l X.env).onRaise (λx=>do noteFrame x X.env;theTreesLotGoes x)) _ _ L;refine wpAny_noted ?_;rw[ht];unfold zmw;refine Aa (Fp (Aa ?_));rcases turn i n h E w3 with⟨stop,qn⟩|⟨go,N,hN,step⟩
 ·refine Cw (T.done X rfl rfl rfl U i pins L h E (λ_ _=>False) I3 (k y) w stop) (λr s4 ⟨Q,I4⟩ => ?_) λ_ _ z=>z.elim;subst Q;exact Am (hR h E s4 I4 qn)
 ·refine Cw (T.item X rfl rfl rfl U i pins L h E (λ_ _=>False) I3 (k y) w go) (λr s4 ⟨u,Q,h4⟩ => ?_) λ_ _ z=>z.elim;subst Q;refine Aa (Cw h4 (λ_ s5 ⟨x,Y,I5,r5,y5,q,P⟩=>?_) λ_ _ z=>z.elim);have K:=I5.pinned (k P) (T.obj _ _ q);refine Aa (Cw (hg _ s5 h Y x u _ K r5 (step x Y y5)) (λ_ s6 ⟨t,H6,I6,q6⟩=>?_) λv s z=>(F v s z).elim);refine Aa (Cw (hs _ s6 t H6 _ I6 q6) (λok s7 ⟨H7,V,q7⟩=>?_) λv s z=>(F v s z).elim);have again:∀{C:Zf}{j:St}{B:Hp},Inv X (pins++zml fp s5.heap) j B C->N j B->∃m,m<n/\∃i a c,Inv X pins a c C/\D i C.heap/\(∀b∈fp,c b=Zb)/\W i m a c:=λ{C j B} M nx=>by
   obtain⟨m',O,wx⟩:=hN j B nx;refine⟨m',O,i+1,j,B,M.unpinned,T.keep _ _ _ q λb p o e=>(M.pin (b,o) (Ba _ (Ba _ (zd2 p e)))).1,λb p=>?_,wx⟩;obtain⟨o,e,d⟩:=T.obj _ _ q b p;exact (M.pin (b,o) (Ba _ (Ba _ (zd2 p e)))).2.1
  cases ok with
  |false=>exact Am ⟨rfl,again V q7⟩
  |true=>exact Aa (Cw (O _ s7 t H7 N V q7) (λ_ s8 ⟨σ8,H8,I8,n8⟩=>Am ⟨rfl,again I8 n8⟩) λv s z=>(F v s z).elim)
noncomputable def zr9 (a:Zh) (te:TE):TM:=λσ H N=>te σ H λy c=>∃b,c a=Za (.lst b)/\b.length<sizeLine/\N σ (upd c a (.lst (b++[y])))
noncomputable def z08 (elt:Zi) (a:Ze) (env:Env):Sem Unit:=do let _ <- call (.builtin "list.append") [a,<-eval elt env]
theorem z3w {elt:Zi}{te:TE}{a:Zh}(l:PE X elt te):PM X (z08 elt (.ref a) X.env) (zr9 a te):=by
 intro pins s σ H N I h;unfold z08;refine Aa (thn (l pins s σ H _ I h) λi f ⟨y,d,c,r,o,n,j,e⟩=>?_);refine Aa (thn (zm7 _ f σ d (.ref a) [y] _ [i] (λ_ k=>N σ k) c rfl (.cons r .nil) ⟨_,o,y,rfl,rfl,n,j,e⟩) λ_ m ⟨_,g,b,_,q⟩=>?_);exact Am ⟨σ,g,b,q⟩
noncomputable def tTwo (w:TI) (g:TG) (tc:TT) (t:TM):TM:=λσ H N=>w σ H λJ a=>zl9 J g tc t σ a N
noncomputable def zu9 (e iter:Zi) (a:Ze) (env:Env):Sem Unit:=do
 let x <- eval iter env
 standAt iter.pos
 let x <- foldedSetIterable iter env x
 let _ <- runOwn (.compStart e 1 (<- holding [x] (pyIter x)) a env) env
theorem z0u {elt tg iter tg2 iter2:Zi}{ifs ifs2:List Zi}{scope:Scope}{pos:Pos}{it a:Ze}{env:Env} :
  compTurn #v[3,7] 0 it a env=zmw #v[3,7] 0 tg iter ifs (zu9 #v[3,7] iter2 a env) it a env:=by
 unfold zmw zu9;simp only [bind_assoc,Gu]
 rfl
theorem zs6 {A:Around}{R:Result->Zf->Prop}{s:Zf}{elt tg iter tg2 iter2:Zi}{ifs ifs2:List Zi}{scope:Scope}{pos:Pos}{it a:Ze}{env:Env}{prog:Program}{w:World}
  (d:codeAny (model prog w) A (.compLoop #v[3,7] 1 it a env) R s)
  (h:wpAny (model prog w) A (pyIter it) (λi b=>codeAny (model prog w) A (.compLoop #v[3,7] 1 i a env) R b)
   (notedBy (model prog w) A env λx b=>R (.error x) b) s) :
  codeAny (model prog w) A (.compStart #v[3,7] 1 it a env) R s:=by
 refine codeAny_of_tree ?_;show wpAny _ _ ((compStart #v[3,7] 1 it a env).onRaise (λx=>do noteFrame x env;standAt theWindowsPlace)) _ _ s;refine wpAny_notedAt ?_;unfold compStart;show wpAny _ _ (ask>>=_) _ _ s;refine Aa (wpAny_askSetting (wpAny_ite ?_));split
 ·first
   |exact Aa (Am (Am (And.intro rfl d)))
   |exact Am (And.intro rfl d)
 ·first
   |exact Aa (Dh (Aa (Fp (Aa (Cw h (λi b c=>Am (And.intro rfl c)) λ_ _ x=>x)))))
   |(refine Aa (Dh ?_);show wpAny _ _ (standAt iter2.pos>>=_) _ _ s;exact Aa (Fp (Aa (Cw h (λi b c=>Am (And.intro rfl c)) λ_ _ x=>x))))
theorem ya9 {elt tg iter tg2 iter2:Zi}{ifs ifs2:List Zi}{scope:Scope}{pos:Pos}{w:TI}{g:TG}{tc:TT}{te:TE}{b:Zh} (o:∀v s,¬ X.xe v s) (p:X.calm=Zd) (j:PI X tg2 iter2 w) (k:PG X tg2 g) (t:PTs X ifs2 tc) (l:PE X elt te) (A:∀x,foldedSetIterable iter2 X.env x=pure x) :
  PM X (zu9 #v[3,7] iter2 (.ref b) X.env) (tTwo w g tc (zr9 b te)):=by
 intro pins s σ H N I h;unfold zu9;refine Aa (thn (j pins s σ H _ I h) λv F m=>Aa (Fp (Aa (wpAny_of_eq (A v) (Aa (Dk (thn m λq z y=>?_)))))));nofun;obtain⟨n,fp,E,J,G,e,C,T,d,u,hW⟩:=y;ac_rfl;subst e;refine Aa (wpAny_runOwn ?_);have loop:codeAny #v[2,7] X.A (.compLoop #v[3,7] 1 (.ref n) (.ref b) X.env) (λr c=>match r with|.ok f=>(λ_ c=>wpAny #v[2,7] X.A (pure ()) (λ_ c=>∃a i,Inv X pins a i c/\N a i) X.xe c) f c|.error e=>cameBackBy #v[2,7] X.A X.env X.xe e c) z :=
  zmu (em:=z08 elt (.ref b) X.env) o p rfl k t (z3w l) C T d u hW λa i c B D=>Am ⟨a,i,B,D⟩
 exact zs6 loop (T.self _ 0 _ _ _ d loop)
end
theorem HOk.but {P:Program}{w:World}{H:Hp}{h h':Heap}{a:Zh}(x:HOk P w H h)(f:H a=Zb)(g:Heap.SameBut a h h'):HOk P w H h':=λb o e=>by
 refine (x b o e).stay (λc i d q=>(g.2 c ?_).trans q) (λ_ q=>q) λ_ _ q=>q;rintro rfl;rcases d with rfl|d
 ·rw[f] at e;cases e
 ·rw[f] at d;cases d
section
variable {X:Cx}
theorem zh5 {elt tg iter:Zi}{ifs:List Zi}{gs:List Comprehension}{scope:Scope}{pos:Pos}{cl:List (Str×Zh)}{Nc:List Str}{cap:List (Option Nat)}{g:TG}{tc:TT}{em:Ze->Env->Sem Unit}{tm:Zh->TM}{pins:List (Zh×Obj)}{σ:St}{H:Hp}{s:Zf}{it:Zh}{fp:List Zh}{N:Nat->Heap->Prop}{J:It}{Q:VK}{RR:Ze->Zh->Result->Zf->Prop}{E:Ze->Zf->Prop}
  (hc:X.calm=Zd) (hk:scope.kind=.function) (A:zho cap Nc X.N scope=Zd) (O:zhf scope X.env.scope=Zd) (M:zfw scope=Zd)
  (r:∀it a env,compTurn #v[6,7] 0 it a env=zmw #v[6,7] 0 tg iter ifs (em a env) it a env)
  (hg:∀cl C s3 H3 fp,PG #v[7,8] tg g) (ht:∀cl C s3 H3 fp,PTs #v[7,8] ifs tc) (hm:∀cl C s3 H3 fp a,PM #v[7,8] (em (.ref a) #v[7,8].env) (tm a))
  (c1:∀x c,cl.lookup x=Za c->X.env.cells.lookup x=Za c) (c2:∀x,(x,NameKind.free)∈scope.names->∃c,cl.lookup x=Za c)
  (I2:Inv X pins σ H s) (T:Turn X.prog X.w X.K tg J fp it N) (q:N 0 s.heap) (f2:∀b∈fp,FpOk X pins H b)
  (hW:∀a,H a=Zb->zl9 J g tc (tm a) (capSt cap σ) (upd H a (.lst [])) λ_ Hc=>Q (.ref a) Hc)
  (hR:∀a C F V,(∃m,F.heap.Ns C m)->(∀L,Heap.SameBut C F.heap L->Inv X pins σ V { F with heap:=L })->FpOk X pins V C->Q (.ref a) V->RR (.ref a) C (.ok .next) F) :
  wpAny #v[2,7] X.A (newList []) (λa y=>wpAny #v[2,7] X.A (newFunctionEnv scope X.env.globals cl [] X.env.qual Zb .none (Za X.env)) (λj w =>
   codeAny #v[2,7] X.A (.compStart #v[6,7] 0 (.ref it) a { j with scope:=relabel scope X.env }) (RR a j.locals) w) E y) E s:=by
 refine Dn (zjd λf d k l=>?_);dsimp only at d k l ⊢;have D:H s.heap.objs.size=Zb:=I2.hok.fresh (Ag _);have G:Inv X pins σ (upd H s.heap.objs.size (.lst [])) { s with heap:=s.heap.push { cls:=.type "list",dict:=Zb,data:=.seq ([]:List Ze).toArray },toks:=s.toks } :=
  I2.laid (t':=s.toks) (λb u e=>Ac _ e) (Ag _) ⟨by simp,[],0,.nil,Aq _ rfl⟩
 have Z:=hW s.heap.objs.size D;generalize hH:s.heap.push { cls:=.type "list",dict:=Zb,data:=.seq ([]:List Ze).toArray }=hp at d k l G ⊢;have f3:∀b∈fp,FpOk X pins (upd H s.heap.objs.size (.lst [])) b:=λb h=>by
  obtain⟨o,R,_⟩:=T.obj _ _ q b h;exact⟨by rw[upd_ne (Bg (Ar R))];exact (f2 b h).1,(f2 b h).2⟩
 have up:∀b o,s.heap.get? b=Za o->hp.get? b=Za o:=λb o e=>hH ▸ Ac _ e;have K:=zz2 (Nc:=Nc) (cap:=cap) (fp:=fp) (h4:=f) (tk:=s.toks) G hk A O M c1 c2 f3 (λb h=>by
  obtain⟨o,R,_⟩:=T.obj _ _ q b h;exact Ar (up b o R)) d k l
 have B:N 0 f:=T.keep _ _ _ q λb _ o e=>k b o (up b o e);have loop:codeAny #v[2,7] X.A (.compLoop #v[6,7] 0 (.ref it) (.ref s.heap.objs.size) (compEnvC scope (cellsFrom (hp.objs.size+1) scope.names cl) hp.objs.size X.env)) (RR (.ref s.heap.objs.size) hp.objs.size) { s with heap:=f,toks:=s.toks }:=by
  refine zmu (X:=zbb X Nc scope (cellsFrom (hp.objs.size+1) scope.names cl) hp.objs.size { s with heap:=hp,toks:=s.toks } (upd H s.heap.objs.size (.lst [])) fp) (λ_ _ z=>z) hc (r _ _ _) (hg _ _ _ _ _) (ht _ _ _ _ _) (hm _ _ _ _ _ _) K T B
   (λb h=>⟨(f3 b h).1,(K.ok.exf b h).1,K.ok.exfs b h,.inl h,(K.ok.exf b h).2,λp Y=>absurd (show p∈([]:List (Zh×Obj)) from Y) (by simp)⟩) Z λσ5 P s6 I qn=>?_
  obtain⟨m6,S,_⟩:=I.loc;have fC:P hp.objs.size=Zb:=I.free;refine hR _ _ _ P ⟨m6,S⟩ (λL i=>?_) (G.fpOk (Ag _) fC) qn;refine G.call' (s':={ s6 with heap:=L }) (ch:=fp) I.os ?_ (I.hok.but fC i) I.bare λb h=>⟨(f3 b h).2.2.2.1,(f3 b h).2.1,(f3 b h).2.2.2.2.1,(f3 b h).2.2.2.2.2⟩;have U:Un (frs X.stack) fp (upd H s.heap.objs.size (.lst [])) P hp s6.heap:=I.base;have W:∀b o,hp.get? b=Za o->b≠hp.objs.size:=λb o e=>Bg (Ar e);exact⟨λb o e n h t=>(i.2 b (W b o e)).trans (U.keep b o e n h t),λb o e n h t=>let ⟨sl,z⟩:=U.slot b o e n h t;⟨sl,(i.2 b (W b o e)).trans z⟩,U.free,λb o e t=>let ⟨o',z⟩:=U.there b o e t;⟨o',(i.2 b (W b o e)).trans z⟩,U.tups,U.frzs,U.tbls⟩
 exact codeAny_compStart_list loop (T.self _ 0 _ _ _ B loop)
theorem z57 {elt tg iter:Zi}{ifs:List Zi}{gs:List Comprehension}{scope:Scope}{pos:Pos}{Nc:List Str}{cap:List (Option Nat)}{w:TI}{g:TG}{tc:TT}{em:Ze->Env->Sem Unit}{u:Zh->TM} (z:PI X tg iter w)
  (A:∀cl C s3 H3 fp,PG #v[7,8] tg g) (L:∀cl C s3 H3 fp,PTs #v[7,8] ifs tc) (j:∀cl C s3 H3 fp a,PM #v[7,8] (em (.ref a) #v[7,8].env) (u a))
  (c:∀l a env,compTurn #v[6,7] 0 l a env=zmw #v[6,7] 0 tg iter ifs (em a env) l a env)
  (F:X.calm=Zd:=by rfl) (t:scope.kind=.function:=by rfl) (i:zho cap Nc X.N scope=Zd:=by rfl) (f:zhf scope X.env.scope=Zd:=by rfl) (r:zfw scope=Zd:=by rfl)
  (o:(scope.names.all λp=>!(p.2 == NameKind.local) || decide (scope.names.lookup p.1=some .local))=Zd:=by rfl)
  (O:∀x,foldedSetIterable iter X.env x=pure x:=by intro _;rfl):PE X #v[6,7] (zx9 w cap g tc u):=by
 intro pins s σ H Q I h;rw[eval_ListComp];nofun;obtain⟨cl,d,P,G⟩:=zdp (env:=X.env) (scope:=scope) λx n=>I.ok.has x (zd7 f n);ac_rfl;have b:∀x∈scope.names,x.2=.local->scope.names.lookup x.1=Za .local:=λx n e=>by
  have q:=Aw.mp o _ n;simpa [e] using q
 refine wpAny_comprehension_free (use:=Zb) rfl O d t b (thn (z pins s σ H _ I h) λv V D=>thn D λK Y N=>?_);nofun;obtain⟨l,fp,U,J,Z,e,R,T,k,M,hW⟩:=N;ac_rfl;subst e;refine zh5 (RR:=λa C=>compPost #v[2,7] X.A X.xe Zb (EP X pins σ Q) a C) F t i f r c A L j P G R T k M hW ?_;intro a C W y ⟨m,j⟩ B S q;exact⟨m,j,λE p=>⟨.ref a,y,B E p,rfl,q⟩⟩
theorem z5g {y:Str}{p:Pos}{f:Pos}{i:Nat}{elt tg iter:Zi}{ifs:List Zi}{gs:List Comprehension}{scope:Scope}{pos:Pos}{Nc:List Str}{cap:List (Option Nat)}{R:TI}{g:TG}{tc:TT}{em:Ze->Env->Sem Unit}{V:Zh->TM} (hN:X.N.Nodup) (O:X.N[i]?=Za y) (hy:Loc X.env.scope y) (W:PI X tg iter R)
  (Y:∀cl C s3 H3 fp,PG #v[7,8] tg g) (ht:∀cl C s3 H3 fp,PTs #v[7,8] ifs tc) (w:∀cl C s3 H3 fp c,PM #v[7,8] (em (.ref c) #v[7,8].env) (V c))
  (l:∀B c env,compTurn #v[6,7] 0 B c env=zmw #v[6,7] 0 tg iter ifs (em c env) B c env)
  (F:swapsWith #v[6,7] (Za (.Name y p)) f.line X.env=pure Zd:=by rfl)
  (hc:X.calm=Zd:=by rfl) (U:scope.kind=.function:=by rfl) (t:zho cap Nc X.N scope=Zd:=by rfl) (r:zhf scope X.env.scope=Zd:=by rfl) (N:zfw scope=Zd:=by rfl)
  (G:(scope.names.all λp=>!(p.2 == NameKind.local) || decide (scope.names.lookup p.1=some .local))=Zd:=by rfl)
  (hs:∀x,foldedSetIterable iter X.env x=pure x:=by intro _;rfl) (hf:X.fn y=Zd\/X.env.scope.names.lookup y=Za .local:=by first|exact .inl rfl|exact .inr rfl|assumption) :
  PS X (.Assign [.Name y p] #v[6,7] f) (tAsg (zx9 R cap g tc V) (zn3 i)):=by
 intro pins s σ H D I h;nofun;obtain⟨cl,n,c1,c2⟩:=zdp (env:=X.env) (scope:=scope) λx E=>I.ok.has x (zd7 r E);ac_rfl;have d:∀x∈scope.names,x.2=.local->scope.names.lookup x.1=Za .local:=λx E e=>by
  have q:=Aw.mp G _ E;simpa [e] using q
 rw[exec_Assign_Name_used _ _ _ _ F];refine Aa (Fp (Aa ?_));show wpAny _ X.A (do let _ <- comprehension #v[6,7] scope X.env _ (newList []) Zc (eval iter X.env) (Za (assign (.Name y p) X.env))) _ _ s;refine Aa (Cw (wpAny_comprehension_free (use:=Za (assign (.Name y p) X.env)) (Q:=λ_ k=>SP X pins D .next k) rfl hs n U d
  (thn (W pins s σ H _ I h) λv s1 h1=>thn h1 λitv s2 h2=>?_)) (λ_ k hq=>Am (Am hq)) λ_ _ e=>e)
 nofun;obtain⟨B,fp,tn,J,H2,e,I2,T,A,f2,hW⟩:=h2;ac_rfl;subst e;refine zh5 (Q:=λx H1=>D.nx (σ.set i (Za x)) H1) (RR:=λc C=>compPost #v[2,7] X.A X.xe (Za (assign (.Name y p) X.env)) (λ_ k=>SP X pins D .next k) c C) hc U t r N l Y ht w c1 c2 I2 T A f2 hW ?_;intro c C k S ⟨m,w⟩ Z j q;show wpAny _ X.A (assign (.Name y p) X.env (.ref c)) _ _ _;have I':Inv X pins σ S k:=Z k.heap (.refl ..);refine wpAny_assign_Name (znb I' hN O hy (v:=.ref c) rfl (λM L ⟨a,K,P⟩=>?_) hf);have ne:C≠a:=by
  rcases P with rfl|P
  ·exact j.2.1
  ·exact λz=>j.2.2.2.2.1 y a P z.symm
 refine⟨m,w.sameBut K ne,λh' u=>⟨_,S,?_,q⟩⟩;exact L.turned (t':=M.toks) (λb o hb e=>(u.2 b hb).trans e) j.1 j.2.1 j.2.2.2.1 j.2.2.2.2.1 j.2.2.2.2.2
end
section
variable {X:Cx}{pins:List (Zh × Obj)}{σ:St}{H:Hp}{s:Zf}
theorem Inv.turnLay {h':Heap}{t':Nat}{ch:List Zh}{T:Zh}{o:HO} (I:Inv X pins σ H s) (k:∀b o,b ∉ ch->s.heap.get? b=Za o->h'.get? b=Za o) (w:∀b∈ch,∃t,h'.get? b=Za t) (h:∀b∈ch,FpOk X pins H b) (hT:s.heap.objs.size<=T)
  (new:zbp X.prog X.w (upd H T o) h' T o):Inv X pins σ (upd H T o) { s with heap:=h',toks:=t' }:=by
 have g:H T=Zb:=I.hok.fresh hT;have ne:∀b u,s.heap.get? b=Za u->b≠T:=λb u e=>Bg (Bd (Ar e) hT);have f:∀b u,H b=Za u->b ∉ ch:=λb u e a=>by rw[(h b a).1] at e;cases e
 refine I.step (g':=s.gens) (d':=s.drawn) (ch:=ch) (λb a=>⟨(h b a).2.2.2.1,(h b a).2.1,(h b a).2.2.2.2.1,(h b a).2.2.2.2.2⟩) (λb o _ _ d e _=>k b o d e) (λb o _ _ d e _=>⟨o.slots,k b o d e⟩) (λb u _ e n=>by rw[upd_ne (ne b u e)];exact n)
  (λb u d e=>⟨u,k b u d e⟩) (λb x e=>by rw[upd_ne (zae e g)];exact e) (λb u x e=>by rw[upd_ne (zae e g)];exact e) (λb y e=>⟨#[],by rw[upd_ne (zae e g),e];simp⟩) (λm i=>?_) (λb u e=>?_) I.bare
 ·obtain⟨o,l,j,p,r⟩:=i;exact⟨o,l,j,k _ o (λz=>(h _ z).2.1 rfl) p,r⟩
 ·by_cases a:b=T
  ·subst a;rw[upd_same] at e;obtain rfl:=sI e;exact new
  ·rw[upd_ne a] at e;refine (I.hok b u e).stay (λc v d q=>k c v ?_ q) (λc q=>by rw[upd_ne (zae q g)];exact q) λc x q=>by rw[upd_ne (zae q g)];exact q
   rcases d with z|z
   ·rw[z];exact f b u e
   ·exact f c _ z
theorem Inv.turnL {h':Heap}{t':Nat}{ch:List Zh}(I:Inv X pins σ H s)(k:∀b o,b ∉ ch->s.heap.get? b=Za o->h'.get? b=Za o)(h:∀b∈ch,FpOk X pins H b):Inv X pins σ H { s with heap:=h',toks:=t' }:=by
 have f:∀b u,H b=Za u->b ∉ ch:=λb u e d=>by rw[(h b d).1] at e;cases e
 refine I.step (g':=s.gens) (d':=s.drawn) (ch:=ch) (λb d=>⟨(h b d).2.2.2.1,(h b d).2.1,(h b d).2.2.2.2.1,(h b d).2.2.2.2.2⟩) (λb o _ _ a e _=>k b o a e) (λb o _ _ a e _=>⟨o.slots,k b o a e⟩) (λb u _ e n=>n)
  (λb u a e=>⟨u,k b u a e⟩) (λb x e=>e) (λb u x e=>e) (λb p e=>⟨#[],by rw[e];simp⟩) (λm i=>?_) (λb u e=>?_) I.bare
 ·obtain⟨o,j,l,g,r⟩:=i;exact⟨o,j,l,k _ o (λz=>(h _ z).2.1 rfl) g,r⟩
 ·refine (I.hok b u e).stay (λc v a q=>k c v ?_ q) (λc q=>q) λc x q=>q;rcases a with z|z
  ·rw[z];exact f b u e
  ·exact f c _ z
end
noncomputable def Ite (K:Zg) (a:Zh):It :=
 ⟨λi H=>∃b x,SqL K H a b/\b[i]?=Za x,λi H x c=>∃p v,x=.ref p/\H p=Zb/\c=upd H p (.tup [.int i,v])/\∀b,SqL K H a b->b[i]?=Za v,λi H=>∃b,SqL K H a b/\b.length<=i⟩
theorem zxo {P:Program}{w:World}{K:Zg}{es:List Zi}{x1}{px:Pos}(a e it:Zh)(B:e≠it):Turn P w K (.Tuple es x1 px) (Ite K a) [e,it] e (λi h=>(∃g,IsEnum h e it i g)/\h.IsListIter it a i) where
 mem:=by simp
 obj:=λi h n b f=>by
  nofun;obtain⟨⟨g,m⟩,o,T,c,d⟩:=n;ac_rfl;rcases Ap.mp f with rfl|f
  ·exact⟨_,m,λv z=>by cases z⟩
  ·have:b=it:=by simpa using f
   subst this;exact⟨o,T,λv z=>by rw[d] at z;cases z⟩
 keep:=λi h S n k=>⟨let ⟨g,m⟩:=n.1;⟨g,k e (by simp) _ m⟩,n.2.at λo z=>k it (by simp) o z⟩
 item:=by
  intro X hP L hK R i pins s σ H E I G n J;subst hP L hK;nofun;obtain⟨V,x,F,M⟩:=J;obtain⟨N,O,p,W⟩:=I.list F;obtain⟨u,hu,ru⟩:=O.get M;obtain⟨⟨g,m⟩,r⟩:=n;ac_rfl;refine wpAny_pyNext_enum_item m r p.isList (x:=u) (by simpa using hu) B λS ho C hT U Y=>⟨_,rfl,?_⟩;refine wpAny_letOwnedTupleGo_enum ho λA t j=>?_;have kk:∀b o,b ∉ [e,it]->s.heap.get? b=Za o->A.get? b=Za o:=λb o f q=>by
   have Q:b≠e:=λz=>f (by simp [z]);have h2:b≠it:=λz=>f (by simp [z]);exact (j.2 b Q).trans (Y b o Q h2 q)
  have D:s.heap.objs.size≠e:=λz=>absurd (Ar m) (by rw[z];exact Bx _);have l:A.IsListIter it a (i+1):=C.at λo y=>(j.2 it B.symm).trans y;refine⟨.ref s.heap.objs.size,upd H s.heap.objs.size (.tup [.int i,x]),I.turnLay kk (λb f=>?_) G (Ag _) ⟨by show 2<=sizeLine;decide,[.int i s.toks,u],.cons ⟨_,rfl⟩ (.cons ru .nil),?_⟩,rfl,⟨_,x,rfl,I.hok.fresh (Ag _),rfl,λys hy=>by rw[I.list_inj hy F];exact M⟩,⟨⟨_,by simpa using t⟩,l⟩,λb f=>?_⟩
  ·rcases Ap.mp f with rfl|f
   ·exact⟨_,t⟩
   ·have:b=it:=by simpa using f
    subst this;obtain⟨o,z,_⟩:=l;exact⟨o,z⟩
  ·exact⟨_,(j.2 _ D).trans hT,⟨rfl,_,rfl⟩,rfl⟩
  ·have:b≠s.heap.objs.size:=by
    rcases Ap.mp f with rfl|f
    ·exact D.symm
    ·have e2:b=it:=by simpa using f
     subst e2;obtain⟨o,z,_⟩:=r;exact Bg (Ar z)
   rw[upd_ne this];exact (G b f).1
 done:=by
  intro X hP L hK R i pins s σ H E I G n J;subst hP L hK;nofun;obtain⟨V,F,M⟩:=J;obtain⟨N,O,p,W⟩:=I.list F;obtain⟨⟨g,m⟩,r⟩:=n;obtain⟨f0,Z,f2,f3,f4,f5⟩:=G it (by simp);ac_rfl;have hl:=O.length;exact wpAny_pyNext_enum_end (I.ok.hd R) m r p.isList (Ey (by simp;omega)) λS eb=>⟨rfl,I.turned (t':=s.toks) (λb o f e=>eb b o f e) f0 Z f3 f4 f5⟩
 self:=λ_ _ _ _ _ n h=>let ⟨_,m⟩:=n.1;Hq m h
section
variable {X:Cx}
end
noncomputable def Itv (K:Zg) (a:Zh) (n:Nat):It :=
 ⟨λi H=>i<n/\∃b,SqL K H a b/\b.length=n,λi H x c=>c=H/\∀b,SqL K H a b->b[n-1-i]?=Za x,λi H=>i=n⟩
theorem zze {P:Program}{w:World}{K:Zg}{Y:Zi}(a it:Zh)(n:Nat):Turn P w K Y (Itv K a n) [it] it (λi h=>h.IsRevIter it a ((n:Int)-1-(i:Int))) where
 mem:=by simp
 obj:=λi h g b j=>by
  have e:b=it:=by simpa using j
  subst e;nofun;obtain⟨o,e,c,d⟩:=g;ac_rfl;exact⟨o,e,λv z=>by rw[d] at z;cases z⟩
 keep:=λi h m g k=>g.at λo e=>k it (by simp) o e
 item:=by
  intro X hP y hK G i pins s σ H E I q g r;subst hP y hK;nofun;obtain⟨Z,L,F,hn⟩:=r;ac_rfl;have l:n-1-i<L.length:=by omega
  nofun;obtain⟨N,W,p,hz⟩:=I.list F;obtain⟨u,V,R⟩:=W.get (Ae l);obtain⟨C,t,S,f3,B,A⟩:=q it (by simp);ac_rfl;have e:(n:Int)-1-(i:Int)=((n-1-i:Nat):Int):=by omega
  have f:=g;rw[e] at f;refine wpAny_pyNext_rev_item f p.isList (x:=u) (by simpa using V) λm f O=>?_;have M:Inv X pins σ H { s with heap:=m }:=I.turned (t':=s.toks) (λb o j e=>(O.2 b j).trans e) C t f3 B A;nofun;obtain⟨o,T,c,d⟩:=id f;ac_rfl;have J:((n-1-i:Nat):Int)-1=(n:Int)-1-((i+1:Nat):Int):=by omega
  rw[J] at f;exact⟨u,rfl,zwr (s:={ s with heap:=m }) T c d #v[0,9] ⟨_,H,M,R,⟨rfl,λys Q=>by rw[I.list_inj Q F];exact Ae l⟩,f,λb j=>(q b j).1⟩⟩
 done:=by
  intro X hP y hK G i pins s σ H E I q g r;subst hP y hK;have D:i=n:=r;subst D;nofun;obtain⟨C,t,S,f3,B,A⟩:=q it (by simp);ac_rfl;have e:(i:Int)-1-(i:Int)=-1:=by omega
  rw[e] at g;exact wpAny_pyNext_rev_end (I.ok.hd G) g λm U=>⟨rfl,I.turned (t':=s.toks) (λb o j e=>U b o j e) C t f3 B A⟩
 self:=λ_ _ _ _ _ g h=>wpAny_pyIter_revIter g h
section
variable {X:Cx}{tg:Zi}
noncomputable def iRev (K:Zg) (t:TA):TI:=λσ H R=>t σ H λv b=>∃a x,v=[.ref a]/\SqL K b a x/\R (Itv K a x.length) b
theorem ycc {l:Zi}{t:TA}{p pos:Pos} (j:Gl X "reversed") (g:X.mg "reversed" = Zb) (n:PA X [l] t) (y:starEach [l] X.env=[(Zc,eval l X.env)]:=by rfl) :
  PI X tg (.Call (.Name "reversed" p) [l] [] pos) (iRev X.K t):=by
 intro pins s σ H R I h;refine Call_ (zcs I j g boot_reversed (Bw (thn (n pos pins s σ H _ I h) λF c ⟨E,C,f,v,k⟩=>?_) y rfl));nofun;obtain⟨a,x,e,m,q⟩:=k;ac_rfl;subst e;cases v with
 | cons r z =>
  cases z;cases r;nofun;obtain⟨i,w,B,D⟩:=f.list m;ac_rfl;refine call_reversed_list B.isList ?_;have d:(c.heap.push (revObj a ((i.toArray.size:Int)-1))).IsRevIter c.heap.objs.size a ((i.toArray.size:Int)-1):=⟨_,Aq _ rfl,rfl,rfl⟩;refine wpAny_pyIter_revIter d ?_;refine⟨c.heap.objs.size,[c.heap.objs.size],_,_,C,rfl,f.kept (t':=c.toks) λb o e=>Ac _ e,zze a _ x.length,?_,λb A=>?_,q⟩
  ·have e:((i.toArray.size:Int)-1)=(x.length:Int)-1-((0:Nat):Int):=by have:=w.length;simp;omega
   rw[e] at d;have u:((i.toArray.size:Int)-1)=(x.length:Int)-1-((0:Nat):Int):=e;dsimp only;rw[<-u];exact⟨_,Aq _ rfl,rfl,rfl⟩
  ·have e:b=c.heap.objs.size:=by simpa using A
   subst e;exact f.fpOk (Ag _) (f.hok.fresh (Ag _))
end
section
variable {κ:Type} [DecidableEq κ]
end
section
variable {P:Program}{w:World}{H:Hp}{h:Heap}{a:Zh}
end
section
variable {X:Cx}{pins:List (Zh × Obj)}{σ:St}{H:Hp}{s:Zf}{a:Zh}{y v:V}{u r:Ze}{o:Option V}{A:Around}{E:Ze->Zf->Prop}
end
section
variable {X:Cx}{pins:List (Zh × Obj)}{σ:St}{H:Hp}{s:Zf}{a:Zh}{kvs:List (Key × V)}{k:Key}{u:Ze}{A:Around}{E:Ze->Zf->Prop}
end
section
variable {X:Cx}{o i e value:Zi}{pos pos' tpos:Pos}{td ty tv:TE}
end
section
variable {X:Cx}{pos:Pos}
end
section
variable {X:Cx}{pins:List (Zh × Obj)}{σ:St}{H:Hp}{s:Zf}{a:Zh}{y d:V}{u r:Ze}{o:Option V}{A:Around}{E:Ze->Zf->Prop}
end
section
variable {X:Cx}{o e f:Zi}{apos cpos:Pos}{td ty tx:TE}
end
section
variable {X:Cx}{pins:List (Zh × Obj)}{σ:St}{H:Hp}{s:Zf}{a:Zh}{kvs:List (Key × V)}{A:Around}{E:Ze->Zf->Prop}
end
section
variable {X:Cx}{pins:List (Zh × Obj)}{σ:St}{H:Hp}{s:Zf}{a:Zh}{y:V}{u:Ze}{A:Around}{E:Ze->Zf->Prop}
end
section
variable {X:Cx}
theorem z82 {bs:List Bool}{a:List Ze}{i:Nat}{v:Ze}(r:Vals (bs.map V.bl) a)(h:a[i]?=Za v):∃b,bs[i]?=Za b/\v=.bool b:=by
 have e:=r.length;rw[Ad] at e;have d:i<bs.length:=by rw[e];exact (Af.mp h).1
 obtain⟨u,c,f⟩:=r.get (i:=i) (x:=.bl bs[i]) (by rw[Aj,Ae d];rfl);rw[h] at c;obtain rfl:=sI c;exact⟨bs[i],Ae d,f⟩
theorem zji {bs:List Bool}{i:Nat}(h:i<bs.length):bs.getD i Zc=bs[i]:=by rw[Cq,Ae h];rfl
theorem zx6 (bs:List Bool):((List.range bs.length).any λi=>bs.getD i Zc)=bs.any id:=by
 rw[Eh,List.any_eq_true,List.any_eq_true];constructor
 ·rintro ⟨i,a,h⟩;rw[Bk] at a;refine⟨bs[i],List.getElem_mem a,?_⟩;rw[zji a] at h;exact h
 ·rintro ⟨b,c,h⟩;obtain⟨i,a,e⟩:=De.mp c;refine⟨i,Bk.mpr a,?_⟩;rw[zji a,e];exact h
theorem zt8 (bs:List Bool):((List.range bs.length).all λi=>bs.getD i Zc)=bs.all id:=by
 rw[Eh,Aw,Aw];constructor
 ·intro h b c;obtain⟨i,a,e⟩:=De.mp c;have:=h i (Bk.mpr a);rw[zji a,e] at this;exact this
 ·intro h i a;rw[Bk] at a;rw[zji a];exact h _ (List.getElem_mem a)
theorem zqu {P:Program}{w:World}{A:Around}{bs:List Bool}{a:List Ze}(r:Vals (bs.map V.bl) a):TruthOf P w A (λi v=>a.toArray[i]?=Za v) (λi=>bs.getD i Zc):=λi v s Q E hP hQ=>by
 obtain⟨b,c,e⟩:=z82 r (by simpa using hP);subst e;have:bs.getD i Zc=b:=by rw[Cq,c];rfl
 have h:Q (bs.getD i Zc) s:=hQ;rw[this] at h;exact Ft h
theorem z06 (g:X.calm=Zd):zek X (.builtin "any") (λx H Q=>∃(a:Zh) (bs:List Bool),x=[.ref a]/\SqL X.K H a (bs.map V.bl)/\Q (.bl (bs.any id)) H):=by
 intro pins s σ H x w Q I r h;obtain⟨a,bs,rfl,f,q⟩:=h;obtain⟨u,rfl,j⟩:=vals1 r;cases j;obtain⟨i,c,p,t⟩:=I.list f;have l:=c.length;rw[Ad] at l;have m:a<s.heap.objs.size:=by obtain⟨o,e,_⟩:=p.isList;exact Ar e
 refine call_any_walk (Dw p.isList ?_);refine⟨s.heap.objs.size,_,[s.heap.objs.size],i.toArray.size,_,_,_,rfl,Walks.list (A:=X.A.in1) (show X.A.in1.handled=Zb from I.ok.hd g) _ a (Bg m) i.toArray,⟨⟨_,Aq _ rfl,rfl,rfl⟩,p.isList.push _⟩,zqu c,λn v k=>?_⟩;have e:i.toArray.size=bs.length:=by simp;omega
 rw[e,zx6];refine⟨.bl _,H,I.kept λb o d=>?_,rfl,q⟩;exact k b o (by intro z;rw[Az] at z;subst z;exact absurd (Ar d) (Bx _)) (Ac _ d)
theorem zy9 (g:X.calm=Zd):zek X (.builtin "all") (λx H Q=>∃(a:Zh) (bs:List Bool),x=[.ref a]/\SqL X.K H a (bs.map V.bl)/\Q (.bl (bs.all id)) H):=by
 intro pins s σ H x w Q I r h;obtain⟨a,bs,rfl,f,q⟩:=h;obtain⟨u,rfl,j⟩:=vals1 r;cases j;obtain⟨i,c,p,t⟩:=I.list f;have l:=c.length;rw[Ad] at l;have m:a<s.heap.objs.size:=by obtain⟨o,e,_⟩:=p.isList;exact Ar e
 refine call_all_walk (Dw p.isList ?_);refine⟨s.heap.objs.size,_,[s.heap.objs.size],i.toArray.size,_,_,_,rfl,Walks.list (A:=X.A.in1) (show X.A.in1.handled=Zb from I.ok.hd g) _ a (Bg m) i.toArray,⟨⟨_,Aq _ rfl,rfl,rfl⟩,p.isList.push _⟩,zqu c,λn v k=>?_⟩;have e:i.toArray.size=bs.length:=by simp;omega
 rw[e,zt8];refine⟨.bl _,H,I.kept λb o d=>?_,rfl,q⟩;exact k b o (by intro z;rw[Az] at z;subst z;exact absurd (Ar d) (Bx _)) (Ac _ d)
theorem z0d:zek X (.builtin "isinstance") (λa H Q=>∃x t c b,a=[x,.ty c]/\TyOf X.K H x t/\PySem.W.kitOne X.K t (.type c)=Za b/\Q (.bl b) H):=by
 intro pins s σ H a k Q I r h;nofun;obtain⟨x,t,c,b,rfl,d,e,q⟩:=h;ac_rfl;cases r with
 | cons f g =>
  obtain⟨u,rfl,i⟩:=vals1 g;cases (show u=Ze.type c from i);exact zte I f d e λj=>⟨.bl b,H,I.tok _,rfl,q⟩
theorem z86:OpR X (compareOp .Is) (λx y H Q=>∃b,y=.bl b/\Q (.bl (decide (x=.bl b))) H):=by
 intro pins s σ H x y v u Q I r a h;obtain⟨b,rfl,q⟩:=h;cases a;cases x with
 |bl c=>cases r;exact Ez rfl (zah I q (by cases b<;>cases c<;>rfl))
 |non=>cases r;exact Ez rfl (zah I q (by cases b<;>rfl))
 |ref _=>cases r;exact Ez rfl (zah I q (by cases b<;>rfl))
 |ty _=>cases r;exact Ez rfl (zah I q (by cases b<;>rfl))
 |int _=>obtain⟨t,e⟩:=r;subst e;exact Ez rfl (zah I q (by cases b<;>rfl))
 |str _=>obtain⟨t,e⟩:=r;subst e;exact Ez rfl (zah I q (by cases b<;>rfl))
 |byt _=>obtain⟨t,e⟩:=r;subst e;exact Ez rfl (zah I q (by cases b<;>rfl))
 |flt _=>obtain⟨t,e⟩:=r;subst e;exact Ez rfl (zah I q (by cases b<;>rfl))
end
noncomputable def ya4 (i j:Int):Prop:=Builtin.Int.intBits i<=2^20/\Builtin.Int.intBits j<=2^20
theorem z6y {X:Cx}:OpR X (binaryOp .Mult) (rI ya4 λi j=>.int (i*j)):=opI λ_ _ _ _ _ _ _ h q=>mul_int q (IntMulOk.of_bits h.1 h.2)
structure Cal (P:Program) (w:World) (K:Zg) (mg:Str->Option Ze) (base:Heap) (n:Nat) (x:Str) (ps:List Str) (sp:Sp):Prop where
 ex:∃f fd,FnOk P w K mg base CX0 n f fd ps sp/\zoi K fd ps []/\PySem.W.keepIn K (.ref f)=Zd/\mg x=Za (.ref f)
theorem z81 {X:Cx}{n k:Nat}{x:Str}{ps:List Str}{sp:Sp}{e:Zi}{es:List Zi}{t:TA}{p pos:Pos} (C:Cal X.prog X.w X.K X.mg X.base n x ps sp) (l:Room k X.A) (g:Gl X x) (j:PA X (e::es) t) (i:n<=k:=by decide)
  (a:(x==("__debug__" : Str))=Zc:=by decide) (d:starEach (e::es) X.env=(Zc,eval e X.env)::starEach es X.env:=by rfl) (h:(backTo pos (starEach es X.env)).any (·.1)=Zc:=by rfl) :
  PE X (.Call (.Name x p) (e::es) [] pos) (z4l sp [] E0 t):=by
 nofun;obtain⟨f,o,F,b,c,m⟩:=C.ex;ac_rfl;exact z7z F (l.mono i) g m c b .nil ycm j a d h
theorem Same.new {p:Zh}{H:Hp}(h:H p=Zb)(o:HO):Same H (L2.upd H p o):=λb u e=>by rw[upd_ne (zae e h)];exact e
theorem SqL.of' {K:Zg}{H:Hp}{a:Zh}{xs:List V}(h:H a=Za (.lst xs)):SqL K H a xs:=.inl (.inl h)
noncomputable def MM:Int:=2305843009213693951
noncomputable def big:Nat:=1099511627776
noncomputable def Bits (xs:List Int):Prop:=∀x∈xs,x=0\/x=1
noncomputable def wordOf (xs:List Int):Int:=xs.foldr (λb a=>2*a+b) 0
theorem z8z:bootBuiltins "len" = Za (.builtin "len"):=by decide +kernel
theorem ycg:bootBuiltins "abs" = Za (.builtin "abs"):=by decide +kernel
theorem z9y:bootBuiltins "any" = Za (.builtin "any"):=by decide +kernel
theorem ybu:bootBuiltins "all" = Za (.builtin "all"):=by decide +kernel
theorem z9x:bootBuiltins "sum" = Za (.builtin "sum"):=by decide +kernel
theorem ziw:bootBuiltins "isinstance" = Za (.builtin "isinstance"):=by decide +kernel
theorem z28:bootBuiltins "int" = Za (.type "int"):=by decide +kernel
theorem z55:bootBuiltins "bool" = Za (.type "bool"):=by decide +kernel
theorem z9f:bootBuiltins "str" = Za (.type "str"):=by decide +kernel
theorem zrj:bootBuiltins "tuple" = Za (.type "tuple"):=by decide +kernel
theorem znk:bootBuiltins "list" = Za (.type "list"):=by decide +kernel
theorem z1j {w:Int}{i:Nat}(a:0<w)(h:w<=2^(200*i)):0<w*10^60/\w*10^60<=2^(200*(i+1)):=by
 have e:(2:Int)^(200*(i+1))=2^(200*i)*2^200:=by rw[Nat.mul_add,Int.pow_add]
 rw[e];refine⟨Int.mul_pos a #v[0,9],?_⟩;have c:w*10^60<=2^(200*i)*10^60:=Int.mul_le_mul_of_nonneg_right h #v[0,9];have b:(2:Int)^(200*i)*10^60<=2^(200*i)*2^200:=Int.mul_le_mul_of_nonneg_left #v[0,9] #v[];omega
theorem zj6 {w:Int}{i:Nat}(c:0<=w)(h:w<=2^(200*i))(d:i<=63):Builtin.Int.intBits w<=2^20:=by
 have b:(2:Int)^(200*i)<2^(200*i+1):=by rw[Int.pow_succ];have:(0:Int)<2^(200*i):=Int.pow_pos #v[0,9];omega
 have a:w.natAbs<2^(200*i+1):=by
  have:((w.natAbs:Nat):Int)<((2^(200*i+1):Nat):Int):=by
   rw[Int.natCast_pow];have e:((w.natAbs:Nat):Int)=w:=by omega
   rw[e];exact Int.lt_of_le_of_lt h b
  exact Int.ofNat_lt.mp this
 have:=PyProof.Rows.intBits_le a;omega
theorem zel:∀{xs:List Int},Bits xs->0<=wordOf xs/\wordOf xs<2^xs.length
 |[],_=>by decide
 | x::r,h=>by
  have hx:=h x Av;have ih:=zel (xs:=r) λy hy=>h y (An _ hy);show 0<=2*wordOf r+x/\2*wordOf r+x<2^(r.length+1);rw[Int.pow_succ];omega
noncomputable def zag:Zi->Bool
 |.Starred ..=>Zc
 |_=>Zd
theorem zaf {e:Zi}{es:List Zi}{env:Env}(h:zag e=Zd):starEach (e::es) env=(Zc,eval e env)::starEach es env:=by
 cases e<;>first|rfl|(cases h)
theorem pac {X:Cx}{e:Zi}{es:List Zi}{te:TE}{t:TA}(b:PE X e te)(a:PA X es t)(h:zag e=Zd:=by rfl):PA X (e::es) (zds te t):=zj3 b a (zaf h)
end L2
namespace L2
theorem noSome {α:Type}{a:α}{P:Prop}(h:Zb=Za a):P:=by cases h
open PySem PySem.Spec PyProof.Rows
noncomputable abbrev DKey:=Key ⊕ List Key
inductive W where
 |non|bl (b:Bool)|int (i:Int)|str (x:Str)|tup (xs:List W)|lst (xs:List W)|frl (xs:List W)|dic|dct (ks:List DKey) (vs:List W)|dcz (ks:List DKey) (vs:List W)
 deriving BEq,Inhabited
mutual
inductive Rep (K:Zg) (F:Hp):W->V->Prop where
 |non:Rep K F .non .non
 |bl (b:Bool):Rep K F (.bl b) (.bl b)
 |int (i:Int):Rep K F (.int i) (.int i)
 |str (x:Str):Rep K F (.str x) (.str x)
 |tup {ws:List W}{a:Zh}{vs:List V} (h:F a=Za (.tup vs)) (r:Reps K F ws vs):Rep K F (.tup ws) (.ref a)
 |lst {ws:List W}{a:Zh}{vs:List V} (h:F a=Za (.lst vs)) (r:Reps K F ws vs):Rep K F (.lst ws) (.ref a)
 |frl {ws:List W}{a:Zh}{vs:List V} (h:SqL K F a vs) (r:Reps K F ws vs):Rep K F (.frl ws) (.ref a)
 |dic {a:Zh}{kvs:List (Key×V)} (h:F a=Za (.dK kvs)):Rep K F .dic (.ref a)
 |dct {a:Zh}{ks:List Key}{ws:List W}{vs:List V} (h:F a=Za (.dK (ks.zip vs))) (hl:ks.length=vs.length) (r:Reps K F ws vs):Rep K F (.dct (ks.map .inl) ws) (.ref a)
 |dctT {a:Zh}{ks:List (List Key)}{ws:List W}{vs:List V} (h:F a=Za (.dT (ks.zip vs))) (hl:ks.length=vs.length) (r:Reps K F ws vs):Rep K F (.dct (ks.map .inr) ws) (.ref a)
 |dcz {a:Zh}{o:Obj}{ks:List Key}{ws:List W}{vs:List V} (h:F a=Za (.frz o (.dK (ks.zip vs)))) (hl:ks.length=vs.length) (r:Reps K F ws vs):Rep K F (.dcz (ks.map .inl) ws) (.ref a)
 |dczT {a:Zh}{o:Obj}{ks:List (List Key)}{ws:List W}{vs:List V} (h:F a=Za (.frz o (.dT (ks.zip vs)))) (hl:ks.length=vs.length) (r:Reps K F ws vs):Rep K F (.dcz (ks.map .inr) ws) (.ref a)
inductive Reps (K:Zg) (F:Hp):List W->List V->Prop where
 |nil:Reps K F [] []
 |cons {w:W}{v:V}{ws:List W}{vs:List V} (h:Rep K F w v) (r:Reps K F ws vs):Reps K F (w::ws) (v::vs)
end
theorem set_cases {α:Type}{l:List α}{i j:Nat}{x y:α}(a:i<l.length)(h:(l.set i x)[j]?=Za y):(j=i/\y=x)\/(j≠i/\l[j]?=Za y):=by
 by_cases e:j=i
 ·subst e;rw[Dv a] at h;exact .inl ⟨rfl,(sI h).symm⟩
 ·rw[Cp (Ne.symm e)] at h;exact .inr ⟨e,h⟩
theorem z1k {α:Type}{l:List α}{i:Nat}{x:α}(h:l[i]?=Za x):l.set i x=l:=by
 apply Ds;intro j;by_cases e:j=i
 ·subst e;rw[Dv (Af.mp h).1,h]
 ·rw[Cp (Ne.symm e)]
section
variable {K:Zg}{F F' H H' : Hp}
mutual
theorem Rep.mono (s:Same F F'):∀{w:W}{v:V},Rep K F w v->Rep K F' w v
 |_,_,.non=>.non
 |_,_,.bl b=>.bl b
 |_,_,.int i=>.int i
 |_,_,.str x=>.str x
 |_,_,.tup h r=>.tup (s _ _ h) (Reps.mono s r)
 |_,_,.lst h r=>.lst (s _ _ h) (Reps.mono s r)
 |_,_,.frl h r=>.frl (s.seq h) (Reps.mono s r)
 |_,_,.dic h=>.dic (s _ _ h)
 |_,_,.dct h a r=>.dct (s _ _ h) a (Reps.mono s r)
 |_,_,.dctT h a r=>.dctT (s _ _ h) a (Reps.mono s r)
 |_,_,.dcz h a r=>.dcz (s _ _ h) a (Reps.mono s r)
 |_,_,.dczT h a r=>.dczT (s _ _ h) a (Reps.mono s r)
theorem Reps.mono (s:Same F F'):∀{w:List W}{v:List V},Reps K F w v->Reps K F' w v
 |_,_,.nil=>.nil
 |_,_,.cons h r=>.cons (Rep.mono s h) (Reps.mono s r)
end
theorem Reps.length:∀{w:List W}{v:List V},Reps K F w v->w.length=v.length
 |_,_,.nil=>rfl
 |_,_,.cons _ r=>congrArg (· + 1) (Reps.length r)
theorem Reps.get:∀{a:List W}{b:List V}{i:Nat}{w:W},Reps K F a b->a[i]?=Za w->∃v,b[i]?=Za v/\Rep K F w v
 |_,_,_,_,.nil,e=>by simp at e
 |_,_,0,_,.cons h _,e=>by simp at e;subst e;exact⟨_,rfl,h⟩
 | _,_,i+1,w,.cons _ r,e=>by
  obtain⟨v,d,c⟩:=Reps.get (i:=i) (w:=w) r (by simpa using e);exact⟨v,by simpa using d,c⟩
theorem Reps.getV:∀{a:List W}{b:List V}{i:Nat}{v:V},Reps K F a b->b[i]?=Za v->∃w,a[i]?=Za w/\Rep K F w v
 |_,_,_,_,.nil,e=>by simp at e
 |_,_,0,_,.cons h _,e=>by simp at e;subst e;exact⟨_,rfl,h⟩
 | _,_,i+1,v,.cons _ r,e=>by
  obtain⟨w,d,c⟩:=Reps.getV (i:=i) (v:=v) r (by simpa using e);exact⟨w,by simpa using d,c⟩
theorem Reps.append:∀{x y:List W}{u w:List V},Reps K F x u->Reps K F y w->Reps K F (x++y) (u++w)
 |_,_,_,_,.nil,s=>s
 |_,_,_,_,.cons h r,s=>.cons h (Reps.append r s)
theorem Reps.take:∀{x:List W}{u:List V} (n:Nat),Reps K F x u->Reps K F (x.take n) (u.take n)
 |_,_,0,_=>.nil
 |_,_,_+1,.nil=>.nil
 |_,_,n+1,.cons h r=>.cons h (Reps.take n r)
theorem Reps.drop:∀{x:List W}{u:List V} (n:Nat),Reps K F x u->Reps K F (x.drop n) (u.drop n)
 |_,_,0,r=>r
 |_,_,_+1,.nil=>.nil
 |_,_,n+1,.cons _ r=>Reps.drop n r
theorem Reps.set {w:W}{v:V}(h:Rep K F w v):∀{x:List W}{u:List V} (i:Nat),Reps K F x u->Reps K F (x.set i w) (u.set i v)
 |_,_,_,.nil=>.nil
 |_,_,0,.cons _ r=>.cons h r
 |_,_,i+1,.cons q r=>.cons q (Reps.set h i r)
theorem Reps.rep {xs:List W}{u:List V}(r:Reps K F xs u):∀k:Nat,Reps K F (List.replicate k xs).flatten (List.replicate k u).flatten
 |0=>.nil
 |k+1=>by rw[Ct,Ct,El,El];exact r.append (r.rep k)
noncomputable def isIt:W->V->Prop
 |.int i,v=>v=.int i
 |.bl b,v=>v=.bl b
 |_,_=>True
theorem Rep.isIt {w:W}{v:V}(h:Rep K F w v):isIt w v:=by cases h<;>first|rfl|trivial
theorem Reps.uncons {w:W}{ws:List W}{vs:List V}(h:Reps K F (w::ws) vs):∃v u,vs=v::u/\Rep K F w v/\Reps K F ws u:=by
 cases h with
 |cons h r=>exact⟨_,_,rfl,h,r⟩
theorem Reps.ints:∀{a:List Int}{b:List V},Reps K F (a.map W.int) b->b=a.map V.int:=by
 intro a
 induction a with
 |nil=>intro b h;cases h;rfl
 | cons n a i =>
  intro b h;obtain⟨v,u,e,d,c⟩:=Reps.uncons h;rw[e,i c,show v=.int n from d.isIt];rfl
theorem Reps.ofInts:∀(a:List Int),Reps K F (a.map W.int) (a.map V.int)
 |[]=>.nil
 |n::a=>.cons (.int n) (Reps.ofInts a)
theorem Reps.bls:∀{bs:List Bool}{a:List V},Reps K F (bs.map W.bl) a->a=bs.map V.bl:=by
 intro b
 induction b with
 |nil=>intro a h;cases h;rfl
 | cons n b i =>
  intro a h;obtain⟨v,u,e,d,c⟩:=Reps.uncons h;rw[e,i c,show v=.bl n from d.isIt];rfl
noncomputable abbrev En:=List (Option (W×Bool))
noncomputable abbrev Prt:=Zh->HO->Prop
inductive OwnR (K:Zg) (F:Hp):W->HO->Prop where
 |lst {ws:List W}{vs:List V} (r:Reps K F ws vs):OwnR K F (.lst ws) (.lst vs)
 |dct {ks:List Key}{ws:List W}{vs:List V} (hl:ks.length=vs.length) (r:Reps K F ws vs):OwnR K F (.dct (ks.map .inl) ws) (.dK (ks.zip vs))
 |dctT {ks:List (List Key)}{ws:List W}{vs:List V} (hl:ks.length=vs.length) (r:Reps K F ws vs):OwnR K F (.dct (ks.map .inr) ws) (.dT (ks.zip vs))
theorem OwnR.mono {w:W}{o:HO}(s:Same F F')(h:OwnR K F w o):OwnR K F' w o:=by
 cases h with
 |lst r=>exact .lst (r.mono s)
 |dct a r=>exact .dct a (r.mono s)
 |dctT a r=>exact .dctT a (r.mono s)
theorem OwnR.rep {w:W}{o:HO}{a:Zh}(h:OwnR K F w o)(e:F a=Za o):Rep K F w (.ref a):=by
 cases h with
 |lst r=>exact .lst e r
 |dct b r=>exact .dct e b r
 |dctT b r=>exact .dctT e b r
theorem OwnR.list {ws:List W}{o:HO}(h:OwnR K F (.lst ws) o):∃v,o=.lst v/\Reps K F ws v:=by
 cases h with
 |lst r=>exact⟨_,rfl,r⟩
noncomputable def lams:List Str:=["_law_terms","_law_in_order","_law_poly_of","voted_terms","law"]
noncomputable def lamQ (x:Str):Str:=x++".<locals>."++"<lambda>"
noncomputable def zdw (c:Zh) (q:Str) (h:Heap):Prop:=∃o v t,h.get? c=Za o/\o.data=.fields v/\v[1]?=Za (.str q t)
noncomputable def z64 (K:Zg):Prop:=∀x∈lams,∀a∈lams,∀c b P,PySem.W.tabIn K x=Za (c,P)->PySem.W.tabIn K a=Za (b,P)->x=a
noncomputable def NoT (p:Prt):Prop:=∀b x,¬ p b (.tup x)
noncomputable def zru (K:Zg) (F:Hp) (d:Prt) (H:Hp):Prop:=(z64 K/\NoT d)/\∀x∈lams,∀c P,PySem.W.tabIn K x=Za (c,P)->∃p:Array Ze,H P=Za (.tbl p)/\F P=Zb/\(∀o,¬ d P o)/\TriplesOk p.toList /\
 ∀pos b,codeAmong pos p.toList=Za b->∃a,b=.ref a/\F a=Za (.ext (zdw a (lamQ x)))
theorem zru.go {F h H H':Hp}{g a:Prt}(T:zru K F g H)(h4:∀b d,a b (.tup d)->g b (.tup d))(j:∀b p,H b=Za (.tbl p)->F b=Zb->H' b=Za (.tbl p)/\h b=Zb)(v:Same F h)(r:∀b p,H b=Za (.tbl p)->(∀o,¬ g b o)->∀o,¬ a b o):zru K h a H':=⟨⟨T.1.1,λb d z=>T.1.2 b d (h4 b d z)⟩,λx u c P e=>by
 nofun;obtain⟨p,f,i,n,w,t⟩:=T.2 x u c P e;ac_rfl;refine⟨p,(j P p f i).1,(j P p f i).2,r P p f n,w,λpos k q=>?_⟩;obtain⟨s,m,l⟩:=t pos k q;exact⟨s,m,v _ _ l⟩⟩
structure Rel (K:Zg) (F:Hp) (pr:Prt) (en:En) (σ:St) (H:Hp):Prop where
 len:en.length=σ.length
 sub:Same F H
 val:∀(i:Nat) (w:W),en[i]?=Za (#v[w,6])->∃v,σ[i]?=Za (Za v)/\Rep K F w v
 own:∀(i:Nat) (w:W),en[i]?=Za (#v[w,5])->∃(a:Zh) (o:HO) (w':W),w=w'/\σ[i]?=Za (Za (V.ref a))/\H a=Za o/\F a=Zb/\OwnR K F w' o
 inj:∀(i j:Nat) (a:Zh) (w w':W),en[i]?=Za (#v[w,5])->en[j]?=Za (#v[w',5])->σ[i]?=Za (Za (V.ref a))->σ[j]?=Za (Za (V.ref a))->i=j
 prt:∀b o,pr b o->H b=Za o/\F b=Zb/\∀(i:Nat) (w:W),en[i]?=Za (#v[w,5])->σ[i]?≠Za (Za (V.ref b))
 tb:zru K F pr H
noncomputable def Res (K:Zg) (F H:Hp) (p:Prt) (en:En) (σ:St):W×Bool->V->Prop
 |(w,Zc),v=>Rep K F w v
 |(w,Zd),v=>∃(a:Zh) (o:HO) (c:W),w=c/\v=V.ref a/\H a=Za o/\F a=Zb/\OwnR K F c o/\(∀(i:Nat) (c:W),en[i]?=Za (#v[c,5])->σ[i]?≠Za (Za (V.ref a)))/\∀b o,p b o->b≠a
noncomputable def RepB (K:Zg) (F H:Hp) (w:W) (v:V):Prop:=Rep K F w v\/∃(a:Zh) (o:HO) (b:W),w=b/\v=V.ref a/\H a=Za o/\OwnR K F b o
inductive Out (K:Zg) (F H:Hp):W×Bool->V->Hp->Prop where
 |val {w:W}{v:V} (r:Rep K F w v):Out K F H (w,Zc) v H
 |lst {p:Zh}{ws:List W}{vs:List V} (n:H p=Zb) (r:Reps K F ws vs):Out K F H (.lst ws,Zd) (.ref p) (upd H p (.lst vs))
 |tup {p:Zh}{ws:List W}{vs:List V} (n:H p=Zb) (r:Reps K F ws vs):Out K F H (.tup ws,Zc) (.ref p) (upd H p (.tup vs))
theorem Same.upd_both {F H:Hp}(s:Same F H)(p:Zh)(o:HO):Same (upd F p o) (upd H p o):=λb u e=>by
 by_cases h:b=p
 ·subst h;rw[upd_same] at e ⊢;exact e
 ·rw[upd_ne h] at e ⊢;exact s _ _ e
variable {pr:Prt}{en:En}{σ:St}
theorem Rel.lay (R:Rel K F pr en σ H){p:Zh}(j:H p=Zb)(o:HO):Rel K F pr en σ (upd H p o):=by
 have ne:∀a u,H a=Za u->a≠p:=λa u e=>zae e j;refine⟨R.len,R.sub.trans (Same.new j o),R.val,λi w e=>?_,R.inj,λq k l=>?_,R.tb.go (λ_ _ z=>z) (λb m e f=>⟨by rw[upd_ne (ne b _ e)];exact e,f⟩) (.refl F) λb m e h=>h⟩
 ·refine aG λG qG => ?_;obtain⟨a,v,n,c,g,d,r,s⟩:=R.own i w e;ac_rfl;exact⟨a,v,n,c,g,by rw[upd_ne (ne a _ d)];exact d,r,s⟩
 ·obtain⟨c,g,d⟩:=R.prt q k l;exact⟨by rw[upd_ne (ne _ _ c)];exact c,g,d⟩
theorem Rel.layF (R:Rel K F pr en σ H){p:Zh}(j:H p=Zb)(o:HO):Rel K (upd F p o) pr en σ (upd H p o):=by
 have ne:∀a u,H a=Za u->a≠p:=λa u e=>zae e j;have fp:F p=Zb:=R.sub.free j;have s:Same F (upd F p o):=Same.new fp o;refine⟨R.len,R.sub.upd_both p o,λi w e=>?_,λi w e=>?_,R.inj,λq k l=>?_,R.tb.go (λ_ _ z=>z) (λb m e f=>⟨by rw[upd_ne (ne b _ e)];exact e,by rw[upd_ne (ne b _ e)];exact f⟩) s λb m e h=>h⟩
 ·obtain⟨v,c,d⟩:=R.val i w e;exact⟨v,c,d.mono s⟩
 ·refine aG λG qG => ?_;obtain⟨a,r,n,c,d,g,t,x⟩:=R.own i w e;ac_rfl;exact⟨a,r,n,c,d,by rw[upd_ne (ne a _ g)];exact g,by rw[upd_ne (ne a _ g)];exact t,x.mono s⟩
 ·obtain⟨c,d,g⟩:=R.prt q k l;exact⟨by rw[upd_ne (ne _ _ c)];exact c,by rw[upd_ne (ne _ _ c)];exact d,g⟩
theorem Out.close {r:W×Bool}{v:V} (R:Rel K F pr en σ H) (o:Out K F H r v H'):∃c,Same F c/\Rel K c pr en σ H'/\Res K c H' pr en σ r v:=by
 cases o with
 |val r=>exact⟨F,.refl F,R,r⟩
 | @lst p w b n r =>
  refine⟨F,.refl F,R.lay n _,p,_,_,rfl,rfl,upd_same,R.sub.free n,.lst r,λi j e z=>?_,λq d g z=>?_⟩
  ·obtain ⟨a,b,w,k,f,h,l,m⟩:=R.own i j e
   rw[f] at z;cases z;rw[n] at h;exact noSome h
  ·have:=(R.prt q d g).1
   rw[z,n] at this;exact noSome this
 |@tup p w b n r=>exact⟨upd F p (.tup b),Same.new (R.sub.free n) _,R.layF n _,.tup upd_same (r.mono (Same.new (R.sub.free n) _))⟩
theorem Out.mono {r:W×Bool}{v:V}(s:Same F F')(o:Out K F H r v H'):Out K F' H r v H':=by
 cases o with
 |val r=>exact .val (r.mono s)
 |lst n r=>exact .lst n (r.mono s)
 |tup n r=>exact .tup n (r.mono s)
theorem Res.freeze {r:W×Bool}{v:V} (R:Rel K F pr en σ H) (h:Res K F H pr en σ r v):∃k,Same F k/\Rel K k pr en σ H/\Rep K k r.1 v:=by
 obtain⟨w,b⟩:=r;cases b with
 |false=>exact⟨F,.refl F,R,h⟩
 | true =>
  nofun;obtain⟨a,g,L,rfl,rfl,t,E,n,I,C⟩:=h;ac_rfl;have s:Same F (upd F a g):=Same.new E _;have B:∀p,g≠.tbl p:=λp z=>by cases n<;>cases z
  refine⟨upd F a g,s,⟨R.len,λb u e=>?_,λi w e=>?_,λi w e=>?_,R.inj,λq o x=>?_,R.tb.go (λ_ _ z=>z) (λb p e f=>⟨e,by rw[upd_ne (λz=>by subst z;rw[t] at e;exact B p (sI e))];exact f⟩) s λb p e h=>h⟩,(n.mono s).rep upd_same⟩
  ·by_cases A:b=a
   ·subst A;rw[upd_same] at e;obtain rfl:=sI e;exact t
   ·rw[upd_ne A] at e;exact R.sub _ _ e
  ·obtain ⟨v,d,c⟩:=R.val i w e
   exact⟨v,d,c.mono s⟩
  ·refine aG λJ qG => ?_
   obtain⟨y,l,j,d,c,m,D,G⟩:=R.own i w e;ac_rfl;have ne:y≠a:=λz=>by subst z;exact I i w e c
   exact⟨y,l,j,d,c,m,by rw[upd_ne ne];exact D,G.mono s⟩
  ·obtain ⟨d,c,m⟩:=R.prt q o x
   exact⟨d,by rw[upd_ne (C q o x)];exact c,m⟩
theorem Rel.freeze (R:Rel K F pr en σ H) {i:Nat}{w:W}{v:V}{L:Bool} (e:en[i]?=Za (Za (w,L))) (n:σ[i]?=Za (Za v)):∃C,Same F C/\Rel K C pr (en.set i (Za (w,Zc))) σ H/\Rep K C w v:=by
 have N:i<en.length:=(Af.mp e).1;cases L with
 | false =>
  obtain⟨I,G,o⟩:=R.val i w e;rw[n] at G;cases G;refine⟨F,.refl F,?_,o⟩;rw[z1k e];exact R
 | true =>
  nofun;obtain⟨a,x,ws,e0,o,E,T,t⟩:=R.own i w e;ac_rfl;subst e0;rw[n] at o;cases o;have s:Same F (upd F a x):=Same.new T _;have O:∀p,x≠.tbl p:=λp z=>by cases t<;>cases z
  have g:∀j c b,(en.set i (Za (w,Zc)))[j]?=Za (Za (c,b))->(j=i/\c=w/\b=Zc)\/(j≠i/\en[j]?=Za (Za (c,b))):=λj c b h=>by
   rcases set_cases N h with⟨z,q⟩|z
   ·cases q;exact .inl ⟨z,rfl,rfl⟩
   ·exact .inr z
  refine⟨upd F a x,s,⟨by rw[Cz];exact R.len,λb u d=>?_,λj c d=>?_,λj c d=>?_,λj k b Y Z e1 U=>?_,λq P Q=>?_,R.tb.go (λ_ _ z=>z) (λb p e f=>⟨e,by rw[upd_ne (λz=>by subst z;rw[E] at e;exact O p (sI e))];exact f⟩) s λb p e h=>h⟩,(t.mono s).rep upd_same⟩
  ·by_cases J:b=a
   ·subst J;rw[upd_same] at d;obtain rfl:=sI d;exact E
   ·rw[upd_ne J] at d;exact R.sub _ _ d
  ·rcases g j c Zc d with ⟨rfl,rfl,_⟩ | ⟨_,z⟩
   ·exact⟨_,n,(t.mono s).rep upd_same⟩
   ·obtain ⟨I, m,l⟩:=R.val j c z
    exact⟨I,m,l.mono s⟩
  ·rcases g j c Zd d with ⟨_,_,z⟩ | ⟨ne,z⟩
   ·cases z
   ·refine aG λGg qG => ?_
    obtain⟨y,D,B,m,l,r,S,X⟩:=R.own j c z;ac_rfl;have A:y≠a:=λq=>by subst q;exact ne (R.inj j i y _ _ z e l n)
    exact⟨y,D,B,m,l,r,by rw[upd_ne A];exact S,X.mono s⟩
  ·rcases g j Y Zd e1 with ⟨_,_,z⟩ | ⟨_,M⟩
   ·cases z
   ·rcases g k Z Zd U with ⟨_,_,z⟩ | ⟨_,z2⟩
    ·cases z
    ·exact R.inj j k b _ _ M z2
  ·obtain ⟨m,l,r⟩:=R.prt q P Q
   have ne:q≠a:=λz=>by
    have:=r i _ e;rw[n,z] at this;exact this rfl
   refine⟨m,by rw[upd_ne ne];exact l,λj c d=>?_⟩;rcases g j c Zd d with⟨_,_,z⟩|⟨_,z⟩
   ·cases z
   ·exact r j c z
theorem Rel.repB (R:Rel K F pr en σ H) {i:Nat}{w:W}{f:Bool}{v:V} (e:en[i]?=Za (Za (w,f))) (c:σ[i]?=Za (Za v)):RepB K F H w v:=by
 cases f with
 | false =>
  obtain⟨k,b,h⟩:=R.val i w e;rw[c] at b;cases b;exact .inl h
 | true =>
  nofun;obtain⟨a,o,d,b,h,j,l,g⟩:=R.own i w e;ac_rfl;rw[c] at h;cases h;exact .inr ⟨a,o,d,b,rfl,j,g⟩
theorem Rel.has (R:Rel K F pr en σ H){i:Nat}{w:W}{f:Bool}(e:en[i]?=Za (Za (w,f))):∃v,σ[i]?=Za (Za v):=by
 cases f with
 |false=>obtain⟨v,h,_⟩:=R.val i w e;exact⟨v,h⟩
 |true=>obtain⟨a,_,_,_,h,_⟩:=R.own i w e;exact⟨_,h⟩
theorem Rel.store (R:Rel K F pr en σ H){i:Nat}{r:W×Bool}{v:V}(h:Res K F H pr en σ r v)(E:i<en.length):Rel K F pr (en.set i (Za r)) (σ.set i (Za v)) H:=by
 have D:i<σ.length:=by rw[<-R.len];exact E
 have g:∀j x,(en.set i (Za r))[j]?=Za (Za x)->(j=i/\x=r)\/(j≠i/\en[j]?=Za (Za x)):=λj x h=>by
  rcases set_cases E h with⟨z,q⟩|z
  ·obtain rfl:=sI q;exact .inl ⟨z,rfl⟩
  ·exact .inr z
 have m:(σ.set i (Za v))[i]?=Za (Za v):=Dv D;have s:∀j,j≠i->(σ.set i (Za v))[j]?=σ[j]?:=λj b=>Cp (Ne.symm b);refine⟨by rw[Cz,Cz];exact R.len,R.sub,λj w e=>?_,λj w e=>?_,λj k a Q S N L=>?_,λq G I=>?_,R.tb⟩
 ·rcases g j _ e with⟨rfl,z⟩|⟨b,z⟩
  ·subst z;exact⟨v,m,h⟩
  ·rw[s j b];exact R.val j w z
 ·rcases g j _ e with⟨rfl,z⟩|⟨b,z⟩
  ·subst z;obtain⟨a,y,A,t,f,p,u,o,_⟩:=h;exact⟨a,y,A,t,by rw[m,f],p,u,o⟩
  ·rw[s j b];exact R.own j w z
 ·intro c d;rcases g j _ N with⟨rfl,n⟩|⟨b,n⟩
  ·rcases g k _ L with⟨rfl,l⟩|⟨C,l⟩
   ·rfl
   ·subst n;obtain⟨J,y,A,t,f,p,u,o,B,_⟩:=h;rw[m,f] at c;cases c;rw[s k C] at d;exact absurd d (B k _ l)
  ·rcases g k _ L with⟨rfl,l⟩|⟨C,l⟩
   ·subst l;obtain⟨J,y,A,t,f,p,u,o,B,_⟩:=h;rw[m,f] at d;cases d;rw[s j b] at c;exact absurd c (B j _ n)
   ·rw[s j b] at c;rw[s k C] at d;exact R.inj j k a _ _ n l c d
 ·obtain⟨c,d,P⟩:=R.prt q G I;refine⟨c,d,λj w e=>?_⟩;rcases g j _ e with⟨rfl,z⟩|⟨b,z⟩
  ·subst z;obtain⟨J,y,A,t,f,p,u,o,B,M⟩:=h;rw[m,f];intro O;cases O;exact M q G I rfl
  ·rw[s j b];exact P j w z
theorem Rel.changeO (R:Rel K F pr en σ H){i:Nat}{w c:W}{a:Zh}{y:HO}(e:en[i]?=Za (#v[w,5]))(s:σ[i]?=Za (Za (.ref a)))(r:OwnR K F c y):Rel K F pr (en.set i (#v[c,5])) σ (upd H a y):=by
 have M:i<en.length:=(Af.mp e).1;nofun;obtain⟨Z,J,ws,h1,L,O,I,G⟩:=R.own i w e;ac_rfl;rw[s] at L;cases L;have N:∀p,J≠.tbl p:=λp z=>by cases G<;>cases z
 have nx:∀φ,J≠.ext φ:=λp z=>by cases G<;>cases z
 have g:∀j x,(en.set i (#v[c,5]))[j]?=Za (Za x)->(j=i/\x=(c,Zd))\/(j≠i/\en[j]?=Za (Za x)):=λj x h=>by
  rcases set_cases M h with⟨z,q⟩|z
  ·obtain rfl:=sI q;exact .inl ⟨z,rfl⟩
  ·exact .inr z
 refine⟨by rw[Cz];exact R.len,λb u C=>?_,λj m n=>?_,λj m n=>?_,λj k b w1 w2 Y U l d=>?_,λq P Q=>?_,R.tb.go (λ_ _ z=>z) (λb p e f=>⟨by rw[upd_ne (λz=>by subst z;rw[O] at e;exact N p (sI e))];exact e,f⟩) (.refl F) λb p e h=>h⟩
 ·have:b≠a:=λz=>by subst z;rw[I] at C;cases C
  rw[upd_ne this];exact R.sub _ _ C
 ·rcases g j _ n with⟨_,z⟩|⟨_,z⟩
  ·cases z
  ·exact R.val j m z
 ·rcases g j _ n with⟨rfl,z⟩|⟨T,z⟩
  ·cases z;exact⟨a,y,c,rfl,s,upd_same,I,r⟩
  ·refine aG λGg qG => ?_;obtain⟨A,D,B,l,d,o,S,V⟩:=R.own j m z;ac_rfl;have ne:A≠a:=λX=>by subst X;exact T (R.inj j i A _ _ z e d s)
   exact⟨A,D,B,l,d,by rw[upd_ne ne];exact o,S,V⟩
 ·have t:∃c,en[j]?=Za (Za (c,Zd)):=by
   rcases g j _ Y with⟨rfl,_⟩|⟨_,z⟩
   ·exact⟨_,e⟩
   ·exact⟨_,z⟩
  have E:∃c,en[k]?=Za (#v[c,5]):=by
   rcases g k _ U with⟨rfl,_⟩|⟨_,z⟩
   ·exact⟨_,e⟩
   ·exact⟨_,z⟩
  obtain⟨_,t⟩:=t;obtain⟨_,E⟩:=E;exact R.inj j k b _ _ t E l d
 ·obtain ⟨l,d,o⟩:=R.prt q P Q;have ne:q≠a:=λz=>by
   have:=o i _ e;rw[s,z] at this;exact this rfl
  refine⟨by rw[upd_ne ne];exact l,d,λj m n=>?_⟩;rcases g j _ n with⟨rfl,_⟩|⟨_,z⟩
  ·exact o j _ e
  ·exact o j m z
theorem Rel.change (R:Rel K F pr en σ H){i:Nat}{w:W}{a:Zh}{ws':List W}{b:List V}(e:en[i]?=Za (#v[w,5]))(h:σ[i]?=Za (Za (.ref a)))(r:Reps K F ws' b):Rel K F pr (en.set i (#v[ws',2])) σ (upd H a (.lst b)):=R.changeO e h (.lst r)
theorem Rel.ownL (R:Rel K F pr en σ H){i:Nat}{ws:List W}(e:en[i]?=Za (#v[ws,2])):∃(a:Zh) (b:List V) (w:List W),W.lst ws=.lst w/\σ[i]?=Za (Za (V.ref a))/\H a=Za (.lst b)/\F a=Zb/\Reps K F w b:=by
 nofun;obtain⟨a,o,j,c,h,g,d,f⟩:=R.own i _ e;ac_rfl;subst c;obtain⟨b,rfl,r⟩:=f.list;exact⟨a,b,ws,rfl,h,g,d,r⟩
end
end L2
namespace L2
open PySem PySem.Spec PyProof.Rows
noncomputable abbrev GE:=En->Option (En×(W×Bool))
noncomputable abbrev GA:=En->Option (En×(W ⊕ Nat))
noncomputable abbrev GT:=En->Option (En×Bool)
noncomputable abbrev GAs:=En->Option (En×List (W ⊕ Nat))
noncomputable abbrev GL:=En->Option (En×List W)
noncomputable def ArgR (K:Zg) (F:Hp) (σ:St):W ⊕ Nat->V->Prop
 |.inl w,v=>Rep K F w v
 |.inr i,v=>σ[i]?=Za (Za v)
inductive ArgRs (K:Zg) (F:Hp) (σ:St):List (W ⊕ Nat)->List V->Prop where
 |nil:ArgRs K F σ [] []
 |cons {x:W ⊕ Nat}{v:V}{xs:List (W ⊕ Nat)}{vs:List V} (h:ArgR K F σ x v) (r:ArgRs K F σ xs vs):ArgRs K F σ (x::xs) (v::vs)
noncomputable def resA (en:En):W ⊕ Nat->Option W
 |.inl w=>Za w
 | .inr i=>match en[i]? with
  |some (Za (w,_))=>Za w
  |_=>Zb
section
variable {K:Zg}{F F' H:Hp}{pr:Prt}{en:En}{σ:St}
theorem ArgR.mono (s:Same F F'){x:W ⊕ Nat}{v:V}(h:ArgR K F σ x v):ArgR K F' σ x v:=by
 cases x with
 |inl w=>exact Rep.mono s h
 |inr i=>exact h
theorem ArgR.repB (R:Rel K F pr en σ H) {x:W ⊕ Nat}{v:V}{w:W} (h:ArgR K F σ x v) (e:resA en x=Za w):RepB K F H w v:=by
 cases x with
 |inl u=>obtain rfl:=sI e;exact .inl h
 | inr i =>
  unfold resA at e;cases q:en[i]? with
  |none=>simp only [q] at e;exact noSome e
  | some o =>
   cases o with
   |none=>simp only [q] at e;exact noSome e
   | some p =>
    obtain⟨u,f⟩:=p;simp only [q] at e;obtain rfl:=sI e;exact R.repB q h
end
noncomputable def tE (K:Zg) (g:GE):TE:=λσ H Q=>∃F pr en e r,Rel K F pr en σ H/\g en=Za (e,r)/\∀b a v,Same F b->Rel K b pr e σ a->Res K b a pr e σ r v->Q v a
noncomputable def tA (K:Zg) (g:GA):TE:=λσ H Q=>∃F pr en e x,Rel K F pr en σ H/\g en=Za (e,x)/\∀a b v,Same F a->Rel K a pr e σ b->ArgR K a σ x v->Q v b
noncomputable def tT (K:Zg) (g:GT):TT:=λσ H Q=>∃F pr en e b,Rel K F pr en σ H/\g en=Za (e,b)/\∀c a,Same F c->Rel K c pr e σ a->Q b a
noncomputable def tAs (K:Zg) (g:GAs):TA:=λσ H Q=>∃F pr en e x,Rel K F pr en σ H/\g en=Za (e,x)/\∀a b v,Same F a->Rel K a pr e σ b->ArgRs K a σ x v->Q v b
theorem PE.wk {X:Cx}{e:Zi}{t t':TE}(h:PE X e t)(i:∀σ H Q,t' σ H Q->t σ H Q):PE X e t':=λpins s σ H Q I q=>h pins s σ H Q I (i σ H Q q)
theorem PT.wk {X:Cx}{e:Zi}{t t':TT}(h:PT X e t)(i:∀σ H Q,t' σ H Q->t σ H Q):PT X e t':=λpins s σ H Q I q=>h pins s σ H Q I (i σ H Q q)
theorem PW.wk {X:Cx}{e:Zi}{t t':TT}(h:PW X e t)(i:∀σ H Q,t' σ H Q->t σ H Q):PW X e t':=λw pins s σ H Q I q=>h w pins s σ H Q I (i σ H Q q)
theorem PA.wk {X:Cx}{es:List Zi}{t t':TA}(h:PA X es t)(i:∀σ H Q,t' σ H Q->t σ H Q):PA X es t':=λpos pins s σ H Q I q=>h pos pins s σ H Q I (i σ H Q q)
theorem PS.wk {X:Cx}{st:Stmt}{t t':TS}(h:PS X st t)(i:∀D σ H,t' D σ H->t D σ H):PS X st t':=λpins s σ H D I q=>h pins s σ H D I (i D σ H q)
theorem PSs.wk {X:Cx}{st:List Stmt}{t t':TS}(h:PSs X st t)(i:∀D σ H,t' D σ H->t D σ H):PSs X st t':=λpins s σ H D I q=>h pins s σ H D I (i D σ H q)
theorem PI.wk {X:Cx}{a e:Zi}{t t':TI}(h:PI X a e t)(i:∀σ H R,t' σ H R->t σ H R):PI X a e t':=λpins s σ H R I q=>h pins s σ H R I (i σ H R q)
noncomputable def gVar (i:Nat):GE:=λen=>match en[i]? with
 |some (Za (w,_))=>Za (en.set i (#v[w,6]),(w,Zc))
 |_=>Zb
noncomputable def zaa (i:Nat):GA:=λen=>match en[i]? with
 |some (#v[w,5])=>Za (en,.inr i)
 |some (#v[w,6])=>Za (en,.inl w)
 |_=>Zb
noncomputable def gC (w:W):GE:=λen=>Za (en,(w,Zc))
noncomputable def gArg (g:GE):GA:=λen=>(g en).bind λp=>Za (p.1,.inl p.2.1)
noncomputable def gA0:GAs:=λen=>Za (en,[])
noncomputable def gCns (a:GA) (as:GAs):GAs:=λen=>(a en).bind λp=>(as p.1).bind λq=>Za (q.1,p.2::q.2)
noncomputable def gOp1 (o:W->Option (W×Bool)) (a:GA):GE:=λen=>(a en).bind λp=>(resA p.1 p.2).bind λw=>(o w).bind λr=>Za (p.1,r)
noncomputable def gOp2 (o:W->W->Option (W×Bool)) (a b:GA):GE:=λen=>(a en).bind λp=>(b p.1).bind λq=>(resA q.1 p.2).bind λw=>(resA q.1 q.2).bind λu=>(o w u).bind λr=>Za (q.1,r)
noncomputable def zas (en:En):List (W ⊕ Nat)->Option (List W)
 |[]=>Za []
 |x::b=>(resA en x).bind λw=>(zas en b).bind λa=>Za (w::a)
noncomputable def gOpN (o:List W->Option (W×Bool)) (as:GAs):GE:=λen=>(as en).bind λp=>(zas p.1 p.2).bind λw=>(o w).bind λr=>Za (p.1,r)
noncomputable def zaj (g:GE):GT:=λen=>match g en with
 |some (e,(.bl b,_))=>Za (e,b)
 |_=>Zb
noncomputable def gAnd (a b:GE):GE:=λen=>match a en with
 |some (e,(.bl Zd,_))=>b e
 |some (e,(.bl Zc,_))=>Za (e,#v[1,8])
 |_=>Zb
noncomputable def gOr (a b:GE):GE:=λen=>match a en with
 |some (e,(.bl Zd,_))=>Za (e,#v[6,11])
 |some (e,(.bl Zc,_))=>b e
 |_=>Zb
noncomputable def gNot (a:GE):GE:=λen=>match a en with
 |some (e,(.bl b,_))=>Za (e,(.bl (!b),Zc))
 |_=>Zb
noncomputable def zg7 (a b:GT):GT:=λen=>match a en with
 |#v[e,5]=>b e
 |#v[e,6]=>#v[e,6]
 |none=>Zb
noncomputable def gOrT (a b:GT):GT:=λen=>match a en with
 |#v[e,5]=>#v[e,5]
 |#v[e,6]=>b e
 |none=>Zb
noncomputable def zpc (a:GT):GT:=λen=>match a en with
 |some (e,b)=>Za (e,!b)
 |none=>Zb
noncomputable def gIf (c:GT) (a b:GE):GE:=λen=>match c en with
 |#v[e,5]=>a e
 |#v[e,6]=>b e
 |none=>Zb
section
variable {K:Zg}{σ:St}{H:Hp}
theorem zzh {i:Nat}{Q:VK} (h:tE K (gVar i) σ H Q):tVar i σ H Q:=by
 obtain⟨F,pr,en,d,r,R,h,q⟩:=h;unfold gVar at h;cases e:en[i]? with
 |none=>simp only [e] at h;exact noSome h
 | some o =>
  cases o with
  |none=>simp only [e] at h;exact noSome h
  | some p =>
   obtain⟨w,f⟩:=p;simp only [e] at h;cases h;obtain⟨v,a⟩:=R.has e;obtain⟨b,s,c,z⟩:=R.freeze e a;exact⟨v,a,q b H v s c z⟩
theorem zyf {i:Nat}{Q:VK} (h:tA K (zaa i) σ H Q):tVar i σ H Q:=by
 obtain⟨F,pr,en,b,r,R,h,q⟩:=h;unfold zaa at h;cases e:en[i]? with
 |none=>simp only [e] at h;exact noSome h
 | some o =>
  cases o with
  |none=>simp only [e] at h;exact noSome h
  | some p =>
   obtain⟨w,f⟩:=p;cases f with
   | true =>
    simp only [e] at h;cases h;obtain⟨v,a⟩:=R.has e;exact⟨v,a,q F H v (.refl F) R a⟩
   | false =>
    simp only [e] at h;cases h;obtain⟨v,a,z⟩:=R.val i w e;exact⟨v,a,q F H v (.refl F) R z⟩
theorem zd1 {w:W}{v:V}{Q:VK}(a:∀F,Rep K F w v)(h:tE K (gC w) σ H Q):tC v σ H Q:=by
 obtain⟨F,pr,en,e,r,R,h,q⟩:=h;cases h;exact q F H v (.refl F) R (a F)
theorem zf2 {g:GE}{Q:VK}(h:tA K (gArg g) σ H Q):tE K g σ H Q:=by
 obtain⟨F,pr,en,i,x,R,h,q⟩:=h;obtain⟨⟨e,r⟩,a,h⟩:=bS h;cases h;refine⟨F,pr,en,e,r,R,a,λj f v s c z=>?_⟩;obtain⟨b,d,R2,y⟩:=z.freeze c;exact q b f v (s.trans d) R2 y
theorem zqy {Q:List V->Hp->Prop}(h:tAs K gA0 σ H Q):tNil σ H Q:=by
 obtain⟨F,pr,en,e,x,R,h,q⟩:=h;cases h;exact q F H [] (.refl F) R .nil
theorem zqb {a:GA}{as:GAs}{Q:List V->Hp->Prop}(h:tAs K (gCns a as) σ H Q):tA K a σ H λx c=>tAs K as σ c λd b=>Q (x::d) b:=by
 nofun;obtain⟨F,pr,en,g,x,R,h,q⟩:=h;obtain⟨⟨e,y⟩,i,h⟩:=bS h;obtain⟨⟨o,t⟩,n,h⟩:=bS h;ac_rfl;cases h;exact⟨F,pr,en,e,y,R,i,λp c v j r l=>⟨p,pr,e,o,t,r,n,λk b m s R2 f=>q k b (v::m) (j.trans s) R2 (.cons (l.mono s) f)⟩⟩
noncomputable def OpS (K:Zg) (r:R2) (o:W->W->Option (W×Bool)):Prop:=∀F H w b e a c Q,Same F H->RepB K F H w e->RepB K F H b a->o w b=Za c->(∀v d,Out K F H c v d->Q v d)->r e a H Q
theorem zf9 {r:R2}{o:W->W->Option (W×Bool)}{a b:GA}{Q:VK}(B:OpS K r o)(h:tE K (gOp2 o a b) σ H Q):tOp r (tA K a) (tA K b) σ H Q:=by
 nofun;obtain⟨F,pr,en,k,G,R,h,q⟩:=h;obtain⟨⟨e,L⟩,l,h⟩:=bS h;obtain⟨⟨w,A⟩,u,h⟩:=bS h;obtain⟨D,d,h⟩:=bS h;obtain⟨E,c,h⟩:=bS h;obtain⟨O,M,h⟩:=bS h;ac_rfl;cases h;refine⟨F,pr,en,e,L,R,l,λC P N m I p=>⟨C,pr,e,w,A,I,u,λn J f s R2 j=>?_⟩⟩;refine B n J D E N f G Q R2.sub ((p.mono s).repB R2 d) (j.repB R2 c) M λv i z=>?_;nofun;obtain⟨x,g,t,y⟩:=z.close R2;ac_rfl;exact q x i v (m.trans (s.trans g)) t y
noncomputable def OpS1 (K:Zg) (r:V->Hp->VK->Prop) (o:W->Option (W×Bool)):Prop:=∀F H w v a Q,Same F H->RepB K F H w v->o w=Za a->(∀u b,Out K F H a u b->Q u b)->r v H Q
theorem zzg {r:V->Hp->VK->Prop}{o:W->Option (W×Bool)}{a:GA}{Q:VK}(l:OpS1 K r o)(h:tE K (gOp1 o a) σ H Q):tUn r (tA K a) σ H Q:=by
 nofun;obtain⟨F,pr,en,e,n,R,h,q⟩:=h;obtain⟨⟨p,x⟩,f,h⟩:=bS h;obtain⟨w,b,h⟩:=bS h;obtain⟨B,u,h⟩:=bS h;ac_rfl;cases h;refine⟨F,pr,en,p,x,R,f,λm t A g c j=>?_⟩;refine l m t w A n Q c.sub (j.repB c b) u λv d z=>?_;nofun;obtain⟨k,s,i,y⟩:=z.close c;ac_rfl;exact q k d v (g.trans s) i y
inductive RepBs (K:Zg) (F H:Hp):List W->List V->Prop where
 |nil:RepBs K F H [] []
 |cons {w:W}{v:V}{ws:List W}{vs:List V} (h:RepB K F H w v) (r:RepBs K F H ws vs):RepBs K F H (w::ws) (v::vs)
theorem ArgRs.repBs {F:Hp}{pr:Prt}{en:En} (R:Rel K F pr en σ H):∀{x:List (W ⊕ Nat)}{v:List V}{a:List W},ArgRs K F σ x v->zas en x=Za a->RepBs K F H a v
 |_,_,_,.nil,e=>by obtain rfl:=sI e;exact .nil
 | _,_,_,.cons h r,e=>by
  obtain⟨w,c,e⟩:=bS e;obtain⟨a,b,e⟩:=bS e;obtain rfl:=sI e;exact .cons (h.repB R c) (ArgRs.repBs R r b)
noncomputable def OpSN (K:Zg) (r:List V->Hp->VK->Prop) (o:List W->Option (W×Bool)):Prop:=∀F H w v a Q,Same F H->RepBs K F H w v->o w=Za a->(∀u b,Out K F H a u b->Q u b)->r v H Q
theorem z0i {r:List V->Hp->VK->Prop}{o:List W->Option (W×Bool)}{as:GAs}{Q:VK}(k:OpSN K r o)(h:tE K (gOpN o as) σ H Q):tCB r (tAs K as) σ H Q:=by
 nofun;obtain⟨F,pr,en,e,m,R,h,q⟩:=h;obtain⟨⟨n,x⟩,d,h⟩:=bS h;obtain⟨w,a,h⟩:=bS h;obtain⟨A,t,h⟩:=bS h;ac_rfl;cases h;refine⟨F,pr,en,n,x,R,d,λl p u f b i=>?_⟩;refine k l p w u m Q b.sub (i.repBs b a) t λv c z=>?_;nofun;obtain⟨j,s,g,y⟩:=z.close b;ac_rfl;exact q j c v (f.trans s) g y
theorem Res.isBl {F H:Hp}{pr:Prt}{en:En}{σ:St}{b f:Bool}{v:V}(h:Res K F H pr en σ (.bl b,f) v):v=.bl b:=by
 cases f with
 |false=>cases (show Rep K F (.bl b) v from h);rfl
 |true=>obtain⟨_,_,_,e,_,_,_,q,_⟩:=h;subst e;cases q
theorem zmj {g:GE}{t:TE}{Q:Bool->Hp->Prop} (a:∀σ H Q,tE K g σ H Q->t σ H Q) (h:tT K (zaj g) σ H Q):ybh t σ H Q:=by
 obtain⟨F,pr,en,j,b,R,h,q⟩:=h;unfold zaj at h;refine a σ H _ ?_;cases e:g en with
 |none=>simp only [e] at h;exact noSome h
 | some p =>
  obtain⟨l,w,k⟩:=p;cases w with
  |bl c=>simp only [e] at h;cases h;exact⟨F,pr,en,_,_,R,e,λf d v s i z=>⟨b,z.isBl,q f d s i⟩⟩
  |_=>simp only [e] at h;exact noSome h
theorem z1a {a b:GE}{Q:VK} (h:tE K (gAnd a b) σ H Q):z97 (tE K a) (tE K b) σ H Q:=by
 nofun;obtain⟨F,pr,en,d,r,R,h,q⟩:=h;ac_rfl;unfold gAnd at h;cases e:a en with
 |none=>simp only [e] at h;exact noSome h
 | some p =>
  obtain⟨k,w,o⟩:=p;cases w with
  | bl c =>
   refine⟨F,pr,en,_,_,R,e,λf m v s g z=>⟨c,z.isBl,?_⟩⟩;cases c with
   | true =>
    simp only [e] at h;exact iteT ⟨f,pr,k,d,r,g,h,λi l v j R2 n=>q i l v (s.trans j) R2 n⟩
   | false =>
    simp only [e] at h;cases h;exact iteF (q f m _ s g (.bl Zc))
  |_=>simp only [e] at h;exact noSome h
theorem zti {a b:GT}{Q:Bool->Hp->Prop} (h:tT K (zg7 a b) σ H Q):tAnd (tT K a) (tT K b) σ H Q:=by
 nofun;obtain⟨F,pr,en,d,r,R,h,q⟩:=h;ac_rfl;unfold zg7 at h;cases e:a en with
 |none=>simp only [e] at h;exact noSome h
 | some p =>
  obtain⟨k,c⟩:=p;refine⟨F,pr,en,_,_,R,e,λf m s g=>?_⟩;cases c with
  |true=>simp only [e] at h;exact iteT ⟨f,pr,k,d,r,g,h,λi l j R2=>q i l (s.trans j) R2⟩
  |false=>simp only [e] at h;cases h;exact iteF (q f m s g)
theorem z1e {a b:GT}{Q:Bool->Hp->Prop} (h:tT K (gOrT a b) σ H Q):tOr (tT K a) (tT K b) σ H Q:=by
 nofun;obtain⟨F,pr,en,d,r,R,h,q⟩:=h;ac_rfl;unfold gOrT at h;cases e:a en with
 |none=>simp only [e] at h;exact noSome h
 | some p =>
  obtain⟨k,c⟩:=p;refine⟨F,pr,en,_,_,R,e,λf m s g=>?_⟩;cases c with
  |false=>simp only [e] at h;exact iteF ⟨f,pr,k,d,r,g,h,λi l j R2=>q i l (s.trans j) R2⟩
  |true=>simp only [e] at h;cases h;exact iteT (q f m s g)
theorem zvy {a:GT}{Q:Bool->Hp->Prop} (h:tT K (zpc a) σ H Q):tNot (tT K a) σ H Q:=by
 obtain⟨F,pr,en,g,r,R,h,q⟩:=h;unfold zpc at h;cases e:a en with
 |none=>simp only [e] at h;exact noSome h
 | some p =>
  obtain⟨i,c⟩:=p;simp only [e] at h;cases h;exact⟨F,pr,en,_,_,R,e,λb f s d=>q b f s d⟩
end
noncomputable def zbq:List (W ⊕ Nat)->Option (List W)
 |[]=>Za []
 |.inl w::x=>(zbq x).bind λa=>Za (w::a)
 |.inr _::_=>Zb
theorem ArgRs.reps {K:Zg}{F:Hp}{σ:St}:∀{x:List (W ⊕ Nat)}{v:List V}{a:List W},ArgRs K F σ x v->zbq x=Za a->Reps K F a v
 |_,_,_,.nil,e=>by obtain rfl:=sI e;exact .nil
 | .inl w::x,_,_,.cons h r,e=>by
  obtain⟨a,b,e⟩:=bS (show (zbq x).bind _=_ from e);obtain rfl:=sI e;exact .cons h (ArgRs.reps r b)
 |.inr i::x,_,_,.cons h r,e=>by exact noSome e
noncomputable def zbr (as:GAs):GE:=λen=>(as en).bind λp=>(zbq p.2).bind λw=>if w.length<=sizeLine then Za (p.1,(.tup w,Zc)) else Zb
noncomputable def zaq (as:GAs):GE:=λen=>(as en).bind λp=>(zbq p.2).bind λw=>if w.length<=sizeLine then Za (p.1,(.lst w,Zd)) else Zb
section
variable {K:Zg}{σ:St}{H:Hp}
theorem zy0 {as:GAs}{Q:VK}(h:tE K (zbr as) σ H Q):tTup (tAs K as) σ H Q:=by
 obtain⟨F,pr,en,e,r,R,h,q⟩:=h;obtain⟨⟨l,x⟩,c,h⟩:=bS h;obtain⟨w,i,h⟩:=bS h;split at h
 ·rename_i b;cases h;refine⟨F,pr,en,l,x,R,c,λm n v s k f=>?_⟩;have a:=f.reps i;refine⟨by rw[<-a.length];exact b,λp g=>?_⟩;obtain⟨d,j,R2,z⟩:=(Out.tup (K:=K) g a).close k;exact q d _ _ (s.trans j) R2 z
 ·exact noSome h
theorem z2i {as:GAs}{Q:VK}(h:tE K (zaq as) σ H Q):tLst (tAs K as) σ H Q:=by
 nofun;obtain⟨F,pr,en,e,r,R,h,q⟩:=h;obtain⟨⟨l,x⟩,c,h⟩:=bS h;obtain⟨w,i,h⟩:=bS h;ac_rfl;split at h
 ·rename_i b;cases h;refine⟨F,pr,en,l,x,R,c,λm n v s k f=>?_⟩;have a:=f.reps i;refine⟨by rw[<-a.length];exact b,λp g=>?_⟩;nofun;obtain⟨d,j,R2,z⟩:=(Out.lst (K:=K) g a).close k;ac_rfl;exact q d _ _ (s.trans j) R2 z
 ·exact noSome h
noncomputable def z9c (o d:W->W->Option (W×Bool)) (a b c:GA):GE:=λen=>(a en).bind λp=>(b p.1).bind λq=>(resA q.1 p.2).bind λw=>(resA q.1 q.2).bind λu=>match o w u with
 |some #v[6,11]=>(c q.1).bind λt=>(resA t.1 q.2).bind λe=>(resA t.1 t.2).bind λz=>(d e z).bind λr=>Za (t.1,r)
 |some #v[1,8]=>Za (q.1,#v[1,8])
 |_=>Zb
end
section
variable {K:Zg}{F H:Hp}{v:V}
theorem RepB.int {i:Int}(h:RepB K F H (.int i) v):v=.int i:=by
 rcases h with h|⟨_,_,_,e,_,_,q⟩
 ·cases h;rfl
 ·subst e;cases q
theorem RepB.bl {b:Bool}(h:RepB K F H (.bl b) v):v=.bl b:=by
 rcases h with h|⟨_,_,_,e,_,_,q⟩
 ·cases h;rfl
 ·subst e;cases q
theorem RepB.str {x:Str}(h:RepB K F H (.str x) v):v=.str x:=by
 rcases h with h|⟨_,_,_,e,_,_,q⟩
 ·cases h;rfl
 ·subst e;cases q
theorem RepB.non (h:RepB K F H .non v):v=.non:=by
 rcases h with h|⟨_,_,_,e,_,_,q⟩
 ·cases h;rfl
 ·subst e;cases q
theorem RepB.lst {ws:List W}(s:Same F H)(h:RepB K F H (.lst ws) v):∃a b,v=.ref a/\H a=Za (.lst b)/\Reps K F ws b:=by
 rcases h with h|⟨a,o,w,e,d,h,r⟩
 ·cases h with
  |lst h r=>exact⟨_,_,rfl,s _ _ h,r⟩
 ·subst e;obtain⟨b,rfl,c⟩:=r.list;exact⟨a,b,d,h,c⟩
theorem RepB.tup {ws:List W}(s:Same F H)(h:RepB K F H (.tup ws) v):∃a b,v=.ref a/\H a=Za (.tup b)/\F a=Za (.tup b)/\Reps K F ws b:=by
 rcases h with h|⟨_,_,_,e,_,_,q⟩
 ·cases h with
  |tup h r=>exact⟨_,_,rfl,s _ _ h,h,r⟩
 ·subst e;cases q
theorem RepB.frl {ws:List W}(s:Same F H)(h:RepB K F H (.frl ws) v):∃a b,v=.ref a/\SqL K H a b/\Reps K F ws b:=by
 rcases h with h|⟨_,_,_,e,_,_,q⟩
 ·cases h with
  |frl h r=>exact⟨_,_,rfl,s.seq h,r⟩
 ·subst e;cases q
noncomputable def seqL:W->Option (List W)
 |.lst w=>Za w
 |.frl w=>Za w
 |_=>Zb
noncomputable def seqW:W->Option (List W)
 |.lst w=>Za w
 |.frl w=>Za w
 |.tup w=>Za w
 |_=>Zb
theorem RepB.seqL {w:W}{ws:List W}(s:Same F H)(h:RepB K F H w v)(e:L2.seqL w=Za ws):∃a b,v=.ref a/\SqL K H a b/\Reps K F ws b:=by
 cases w with
 |lst x=>obtain rfl:=sI e;obtain⟨a,b,e,h,r⟩:=h.lst s;exact⟨a,b,e,SqL.of' h,r⟩
 |frl x=>obtain rfl:=sI e;exact h.frl s
 |_=>exact noSome e
theorem RepB.seqW {w:W}{ws:List W}(s:Same F H)(h:RepB K F H w v)(e:L2.seqW w=Za ws):∃a b,v=.ref a/\(SqL K H a b\/SqT K H a b)/\Reps K F ws b:=by
 cases w with
 |lst x=>obtain rfl:=sI e;obtain⟨a,b,e,h,r⟩:=h.lst s;exact⟨a,b,e,.inl (SqL.of' h),r⟩
 |frl x=>obtain rfl:=sI e;obtain⟨a,b,e,h,r⟩:=h.frl s;exact⟨a,b,e,.inl h,r⟩
 |tup x=>obtain rfl:=sI e;obtain⟨a,b,e,h,_,r⟩:=h.tup s;exact⟨a,b,e,.inr (.inl (.inl h)),r⟩
 |_=>exact noSome e
end
noncomputable abbrev O2:=W->W->Option (W×Bool)
noncomputable def oI (c:Int->Int->Bool) (g:Int->Int->W):O2
 |.int i,.int j=>if c i j then #v[g i j,6] else Zb
 |_,_=>Zb
section
variable {K:Zg}
theorem zk3 {c:Int->Int->Bool}{C:Int->Int->Prop}{g:Int->Int->W}{g':Int->Int->V} (h:∀i j,c i j=Zd->C i j) (b:∀F i j,Rep K F (g i j) (g' i j)):OpS K (rI C g') (oI c g):=λF H w a k v f Q s d r e q=>by
 cases w with
 | int i =>
  cases a with
  | int j =>
   unfold oI at e;simp only at e;split at e
   ·rename_i z
    obtain rfl:=sI e;exact⟨i,j,d.int,r.int,h i j z,q _ _ (.val (b F i j))⟩
   ·exact noSome e
  |_=>exact noSome e
 |_=>exact noSome e
theorem zb8 {g:Int->Int->W}{g':Int->Int->V} (h:∀F i j,Rep K F (g i j) (g' i j)):OpS K (rI0 g') (oI (λ_ _=>Zd) g):=λF H w a d v c Q s b r e q=>by
 cases w with
 | int i =>
  cases a with
  |int j=>obtain rfl:=sI e;exact⟨i,j,b.int,r.int,q _ _ (.val (h F i j))⟩
  |_=>exact noSome e
 |_=>exact noSome e
theorem OpS.or {r d:R2}{o g:O2}(h:OpS K r o)(h':OpS K d g):OpS K (λx y H Q=>r x y H Q\/d x y H Q) (λa b=>match o a b with|some p=>Za p|none=>g a b):=λF H w c j v k Q s i f e q=>by
 cases z:o w c with
 |some p=>simp only [z] at e;obtain rfl:=sI e;exact .inl (h F H w c j v _ Q s i f z q)
 |none=>simp only [z] at e;exact .inr (h' F H w c j v _ Q s i f e q)
end
noncomputable def oOr (o c:O2):O2:=λa b=>match o a b with|some p=>Za p|none=>c a b
noncomputable def oCat:O2
 |.lst x,.lst y=>if x.length+y.length<=sizeLine then #v[(x++y),2] else Zb
 |_,_=>Zb
noncomputable def zz1:O2
 |.tup (x::a),.tup y=>if (x::a).length+y.length<=sizeLine then #v[(x::a++y),3] else Zb
 |_,_=>Zb
noncomputable def z7y:O2
 |.tup [],.tup y=>#v[y,3]
 |_,_=>Zb
noncomputable def z2f:O2
 |.str x,.str y=>if x.length+y.length<=sizeLine then Za (.str (x++y),Zc) else Zb
 |_,_=>Zb
noncomputable def oRep:O2
 |.lst x,.int k=>if -(2^63)<=k/\k<2^63/\x.length*k.toNat<=sizeLine then #v[(List.replicate k.toNat x).flatten,2] else Zb
 |_,_=>Zb
section
variable {K:Zg}
theorem z6l:OpS K rCat oCat:=λF H w g o m n Q s k r e q=>by
 cases w with
 | lst x =>
  cases g with
  | lst y =>
   unfold oCat at e;simp only at e;split at e
   ·rename_i z
    obtain rfl:=sI e;nofun;obtain⟨a,v,j,f,c⟩:=k.lst s;obtain⟨b,u,i,h,d⟩:=r.lst s;ac_rfl;exact⟨a,b,v,u,j,i,f,h,by rw[<-c.length,<-d.length];exact z,λp l=>q _ _ (.lst l (c.append d))⟩
   ·exact noSome e
  |_=>exact noSome e
 |_=>exact noSome e
theorem z6j:OpS K rRep oRep:=λF H w c l i j Q s f r e q=>by
 cases w with
 | lst x =>
  cases c with
  | int k =>
   unfold oRep at e;simp only at e;split at e
   ·rename_i z
    obtain rfl:=sI e;obtain⟨a,v,d,h,b⟩:=f.lst s;exact⟨a,k,v,d,r.int,h,z.1,z.2.1,by rw[<-b.length];exact z.2.2,λp g=>q _ _ (.lst g (b.rep _))⟩
   ·exact noSome e
  |_=>exact noSome e
 |_=>exact noSome e
theorem zzt:OpS K (z8v K) zz1:=λF H n w C t A Q s l r e q=>by
 cases n with
 | tup f =>
  cases f with
  |nil=>cases w<;>exact noSome e
  | cons x f =>
   cases w with
   | tup B =>
    unfold zz1 at e;simp only at e;split at e
    ·rename_i z
     obtain rfl:=sI e;nofun;obtain⟨a,v,o,h,g,c⟩:=l.tup s;obtain⟨b,u,k,j,y,d⟩:=r.tup s;ac_rfl;refine⟨a,b,v,u,o,k,.inl (.inl h),.inl (.inl j),?_,by rw[<-c.length,<-d.length];exact z,λm=>?_,λ_ p i=>q _ _ (.tup i (c.append d))⟩
     ·intro e;subst e;cases c
     ·subst m
      cases d;rw[By] at q;exact q _ _ (.val (.tup g c))
    ·exact noSome e
   |_=>exact noSome e
 |_=>exact noSome e
mutual
inductive DV (H:Hp):V->PyData->Prop where
 |non:DV H .non .none
 |bl (b:Bool):DV H (.bl b) (.bool b)
 |int (i:Int):DV H (.int i) (.int i)
 |str (x:Str):DV H (.str x) (.str x)
 |tup {a:Zh}{vs:List V}{ds:List PyData} (h:H a=Za (.tup vs)) (r:DVs H vs ds):DV H (.ref a) (.tuple ds)
 |lst {a:Zh}{vs:List V}{ds:List PyData} (h:H a=Za (.lst vs)) (r:DVs H vs ds):DV H (.ref a) (.list ds)
inductive DVs (H:Hp):List V->List PyData->Prop where
 |nil:DVs H [] []
 |cons {v:V}{d:PyData}{vs:List V}{ds:List PyData} (h:DV H v d) (r:DVs H vs ds):DVs H (v::vs) (d::ds)
end
section
variable {X:Cx}{pins:List (Zh × Obj)}{σ:St}{H:Hp}{s:Zf}
mutual
theorem DV.reads (I:Inv X pins σ H s):∀{v:V}{d:PyData}{u:Ze},DV H v d->RelV v u->∃a,Reads s.heap u d a
 |_,_,_,.non,r=>by cases (show _=Ze.none from r);exact⟨_,.none⟩
 |_,_,_,.bl b,r=>by cases (show _=Ze.bool b from r);exact⟨_,.bool b⟩
 |_,_,_,.int i,r=>by obtain⟨t,e⟩:=(show ∃t,_=Ze.int i t from r);subst e;exact⟨_,.int i t⟩
 |_,_,_,.str x,r=>by obtain⟨t,e⟩:=(show ∃t,_=Ze.str x t from r);subst e;exact⟨_,.str x t⟩
 | _,_,_,.tup h q,r=>by
  cases r;obtain⟨g,f,⟨o,e,c,n,k⟩,_⟩:=I.tuple (.inl (.inl h));obtain⟨a,j⟩:=DVs.reads I q f;exact⟨a,.tuple e c k (by simpa using j)⟩
 | _,_,_,.lst h q,r=>by
  cases r;obtain⟨g,f,⟨o,n,e,c,_,k⟩,_⟩:=I.list (SqL.of' h);obtain⟨a,j⟩:=DVs.reads I q f;exact⟨_,.list e c k (by simpa using j)⟩
theorem DVs.reads (I:Inv X pins σ H s):∀{v:List V}{d:List PyData}{u:List Ze},DVs H v d->Vals v u->∃c,ReadsAll s.heap u d c
 |_,_,_,.nil,r=>by cases r;exact⟨_,.nil⟩
 | _,_,_,.cons h q,r=>by
  cases r with
  | cons f e =>
   obtain⟨c,a⟩:=DV.reads I h f;obtain⟨bs,b⟩:=DVs.reads I q e;exact⟨_,.cons a b⟩
end
end
mutual
noncomputable def dW:W->Option PyData
 |.non=>Za .none
 |.bl b=>Za (.bool b)
 |.int i=>Za (.int i)
 |.str x=>Za (.str x)
 |.tup w=>(dWs w).bind λd=>Za (.tuple d)
 |.lst w=>(dWs w).bind λd=>Za (.list d)
 |_=>Zb
noncomputable def dWs:List W->Option (List PyData)
 |[]=>Za []
 |w::b=>(dW w).bind λd=>(dWs b).bind λa=>Za (d::a)
end
section
variable {K:Zg}{F H:Hp}
mutual
theorem z3a (s:Same F H):∀{w:W}{v:V}{d:PyData},Rep K F w v->dW w=Za d->DV H v d
 |_,_,_,.non,e=>by obtain rfl:=sI e;exact .non
 |_,_,_,.bl b,e=>by obtain rfl:=sI e;exact .bl b
 |_,_,_,.int i,e=>by obtain rfl:=sI e;exact .int i
 |_,_,_,.str x,e=>by obtain rfl:=sI e;exact .str x
 | _,_,_,.tup h r,e=>by
  rw[dW] at e;obtain⟨f,c,a⟩:=bS e;obtain rfl:=sI a;exact .tup (s _ _ h) (zj0 s r c)
 | _,_,_,.lst h r,e=>by
  rw[dW] at e;obtain⟨f,c,a⟩:=bS e;obtain rfl:=sI a;exact .lst (s _ _ h) (zj0 s r c)
 |_,_,_,.frl _ _,e=>by exact noSome e
 |_,_,_,.dic _,e=>by exact noSome e
 |_,_,_,.dct _ _ _,e=>by exact noSome e
 |_,_,_,.dctT _ _ _,e=>by exact noSome e
 |_,_,_,.dcz _ _ _,e=>by exact noSome e
 |_,_,_,.dczT _ _ _,e=>by exact noSome e
theorem zj0 (s:Same F H):∀{w:List W}{v:List V}{a:List PyData},Reps K F w v->dWs w=Za a->DVs H v a
 |_,_,_,.nil,e=>by cases e;exact .nil
 | _,_,_,.cons h r,e=>by
  rw[dWs] at e;obtain⟨d,f,e⟩:=bS e;obtain⟨a,c,b⟩:=bS e;cases b;exact .cons (z3a s h f) (zj0 s r c)
end
theorem zuo {w:W}{v:V}{d:PyData} (s:Same F H) (r:RepB K F H w v) (b:dW w=Za d):DV H v d:=by
 rcases r with r|⟨a,o,u,z,rfl,h,q⟩
 ·exact z3a s r b
 ·subst z
  cases q with
  |dct f q=>exact noSome b
  |dctT f q=>exact noSome b
  | lst q =>
   rw[dW] at b;obtain⟨g,c,e⟩:=bS b;obtain rfl:=sI e;exact .lst h (zj0 s q c)
end
noncomputable def rEqD (g:Bool->Bool):R2:=λx y H Q=>∃d a,DV H x d/\DV H y a/\d.canLay0=Zd/\a.canLay0=Zd/\d.depth<=100/\Q (.bl (g (PyData.eqv d a))) H
theorem ycf {X:Cx}{k:Nat}(e:Room k X.A):OpR X (compareOp .Eq) (rEqD id):=by
 intro pins s σ H x y v u Q I r j h;nofun;obtain⟨d,n,c,i,b,a,m,q⟩:=h;obtain⟨l,g⟩:=c.reads I r;obtain⟨bs,f⟩:=i.reads I j;ac_rfl;exact SeqAt.compareEq_reads g f b a (by have:=e.un;omega) ⟨.bl _,H,I,rfl,q⟩
theorem yaj {X:Cx}{k:Nat}(f:Room k X.A):OpR X (compareOp .NotEq) (rEqD not):=by
 intro pins s σ H x y v u Q I r l h;nofun;obtain⟨d,m,e,j,b,a,n,q⟩:=h;obtain⟨c,i⟩:=e.reads I r;obtain⟨bs,g⟩:=j.reads I l;ac_rfl;exact SeqAt.neOverData X.prog X.w X.A X.xe s v u d m c bs _ i g b a (by have:=f.un;omega) ⟨.bl _,H,I,rfl,q⟩
noncomputable def eqD (a b:W):Option Bool:=(dW a).bind λd=>(dW b).bind λc=>if d.canLay0&&c.canLay0&&decide (d.depth<=100) then Za (PyData.eqv d c) else Zb
theorem z3j {K:Zg}{F H:Hp}{w b:W}{v1 v2:V}{k:Bool}(s:Same F H)(f:RepB K F H w v1)(r:RepB K F H b v2)(e:eqD w b=Za k):∃d a,DV H v1 d/\DV H v2 a/\d.canLay0=Zd/\a.canLay0=Zd/\d.depth<=100/\k=PyData.eqv d a:=by
 nofun;obtain⟨d,c,e⟩:=bS e;obtain⟨a,h,e⟩:=bS e;ac_rfl;split at e
 ·rename_i z;rw[Ab,Ab] at z;obtain rfl:=sI e;exact⟨d,a,zuo s f c,zuo s r h,z.1.1,z.1.2,Ai z.2,rfl⟩
 ·exact noSome e
noncomputable def z6u:W->W->Option Bool
 |.non,.non=>Za Zd|.non,.int _=>Za Zc|.int _,.non=>Za Zc|.non,.bl _=>Za Zc|.bl _,.non=>Za Zc|.non,.str _=>Za Zc|.str _,.non=>Za Zc
 |.int i,.int j=>Za (decide (i=j))|.bl i,.bl j=>Za (decide (i=j))|.str i,.str j=>Za (decide (i=j))
 |.int _,.str _=>Za Zc|.str _,.int _=>Za Zc|.bl _,.str _=>Za Zc|.str _,.bl _=>Za Zc
 |_,_=>Zb
noncomputable def oEq:O2:=λa b=>match z6u a b with
 |some k=>Za (.bl k,Zc)
 |none=>(eqD a b).bind λk=>Za (.bl k,Zc)
noncomputable def oNe:O2:=λa b=>match z6u a b with
 |some k=>Za (.bl (!k),Zc)
 |none=>(eqD a b).bind λk=>Za (.bl (!k),Zc)
theorem zpt {F H:Hp}{b w:W}{v1 v2:V}{k:Bool} (a:RepB K F H b v1) (r:RepB K F H w v2) (e:z6u b w=Za k):scal v1 v2=Zd/\decide (v1=v2)=k:=by
 cases b with
 | non =>
  have:=a.non;subst this;cases w with
  |non=>have:=r.non;subst this;obtain rfl:=sI e;exact⟨rfl,by decide⟩
  |int j=>have:=r.int;subst this;obtain rfl:=sI e;exact⟨rfl,by simp⟩
  |bl j=>have:=r.bl;subst this;obtain rfl:=sI e;exact⟨rfl,by simp⟩
  |str j=>have:=r.str;subst this;obtain rfl:=sI e;exact⟨rfl,by simp⟩
  |_=>exact noSome e
 | int i =>
  have:=a.int;subst this;cases w with
  |non=>have:=r.non;subst this;obtain rfl:=sI e;exact⟨rfl,by simp⟩
  |int j=>have:=r.int;subst this;obtain rfl:=sI e;exact⟨rfl,by simp⟩
  |str j=>have:=r.str;subst this;obtain rfl:=sI e;exact⟨rfl,by simp⟩
  |_=>exact noSome e
 | bl i =>
  have:=a.bl;subst this;cases w with
  |non=>have:=r.non;subst this;obtain rfl:=sI e;exact⟨rfl,by simp⟩
  |bl j=>have:=r.bl;subst this;obtain rfl:=sI e;exact⟨rfl,by simp⟩
  |str j=>have:=r.str;subst this;obtain rfl:=sI e;exact⟨rfl,by simp⟩
  |_=>exact noSome e
 | str i =>
  have:=a.str;subst this;cases w with
  |non=>have:=r.non;subst this;obtain rfl:=sI e;exact⟨rfl,by simp⟩
  |int j=>have:=r.int;subst this;obtain rfl:=sI e;exact⟨rfl,by simp⟩
  |bl j=>have:=r.bl;subst this;obtain rfl:=sI e;exact⟨rfl,by simp⟩
  |str j=>have:=r.str;subst this;obtain rfl:=sI e;exact⟨rfl,by simp⟩
  |_=>exact noSome e
 |_=>cases w<;>exact noSome e
theorem z9z:OpS K (λx y H Q=>rEq x y H Q\/rEqD id x y H Q) oEq:=λF H w l n v m Q s c r e q=>by
 unfold oEq at e;split at e
 ·rename_i k b;obtain rfl:=sI e;obtain⟨a,h⟩:=zpt c r b;refine .inl ⟨a,?_⟩;rw[h];exact q _ _ (.val (.bl k))
 ·obtain⟨k,b,e⟩:=bS e;obtain rfl:=sI e;nofun;obtain⟨d,j,f,g,a,h,i,rfl⟩:=z3j s c r b;ac_rfl;exact .inr ⟨d,j,f,g,a,h,i,q _ _ (.val (.bl _))⟩
theorem yb8:OpS K (λx y H Q=>rNe x y H Q\/rEqD not x y H Q) oNe:=λF H w l n v m Q s c r e q=>by
 unfold oNe at e;split at e
 ·rename_i k b;obtain rfl:=sI e;obtain⟨a,h⟩:=zpt c r b;refine .inl ⟨a,?_⟩;rw[h];exact q _ _ (.val (.bl _))
 ·obtain⟨k,b,e⟩:=bS e;obtain rfl:=sI e;nofun;obtain⟨d,j,f,g,a,h,i,rfl⟩:=z3j s c r b;ac_rfl;exact .inr ⟨d,j,f,g,a,h,i,q _ _ (.val (.bl _))⟩
noncomputable def isW:W->W->Option Bool
 |.non,.non=>Za Zd
 |_,.non=>Za Zc
 |.bl a,.bl b=>Za (decide (a=b))
 |_,.bl _=>Za Zc
 |_,_=>Zb
noncomputable def rIs:R2:=λx y H Q=>(y=.non/\Q (.bl (decide (x=.non))) H)\/(∃b,y=.bl b/\Q (.bl (decide (x=.bl b))) H)
noncomputable def oIs:O2:=λa b=>(isW a b).bind λk=>Za (.bl k,Zc)
theorem RepB.noBl {F H:Hp}{w:W}{v:V}(r:RepB K F H w v)(h:∀b,w≠.bl b)(b:Bool):v≠.bl b:=λe=>by
 subst e;rcases r with r|⟨_,_,_,_,e,_⟩
 ·cases r;exact h b rfl
 ·cases e
theorem RepB.noNon {F H:Hp}{w:W}{v:V}(r:RepB K F H w v)(h:w≠.non):v≠.non:=λe=>by
 subst e;rcases r with r|⟨_,_,_,_,e,_⟩
 ·cases r;exact h rfl
 ·cases e
theorem ybr {F H:Hp}{w c:W}{v1 v2:V}{k:Bool} (r:RepB K F H w v1) (d:RepB K F H c v2) (e:isW w c=Za k):(v2=.non/\decide (v1=.non)=k)\/(∃b,v2=.bl b/\decide (v1=.bl b)=k):=by
 cases c with
 | non =>
  refine .inl ⟨d.non,?_⟩;cases w with
  |non=>obtain rfl:=sI e;rw[r.non];rfl
  |_=>obtain rfl:=sI e;exact Ao (r.noNon (by simp))
 | bl b =>
  refine .inr ⟨b,d.bl,?_⟩;cases w with
  |bl a=>obtain rfl:=sI e;rw[r.bl];simp
  |_=>obtain rfl:=sI e;exact Ao (r.noBl (by simp) b)
 |_=>cases w<;>exact noSome e
theorem z8g:OpS K rIs oIs:=λF H w f i v g Q s d r e q=>by
 obtain⟨k,c,e⟩:=bS e;obtain rfl:=sI e;rcases ybr d r c with⟨a,h⟩|⟨b,a,h⟩
 ·exact .inl ⟨a,by rw[h];exact q _ _ (.val (.bl k))⟩
 ·exact .inr ⟨b,a,by rw[h];exact q _ _ (.val (.bl k))⟩
noncomputable def zgr:W->Bool
 |.non=>Zd
 |.bl _=>Zd
 |.int _=>Zd
 |.str _=>Zd
 |_=>Zc
noncomputable def eqF:W->W->Bool
 |.non,.non=>Zd
 |.bl a,.bl b=>a==b
 |.bl a,.int b=>(if a then 1 else 0)==b
 |.int a,.bl b=>a==(if b then 1 else 0)
 |.int a,.int b=>a==b
 |.str a,.str b=>a==b
 |_,_=>Zc
theorem Rep.flat {F:Hp}{w:W}{v:V}(h:Rep K F w v)(f:zgr w=Zd):zhj v=Zd:=by
 cases h<;>first|rfl|(cases f)
theorem Reps.flat {F:Hp}:∀{w:List W}{v:List V},Reps K F w v->w.all zgr=Zd->v.all zhj=Zd
 |_,_,.nil,_=>rfl
 | _,_,.cons h r,f=>by
  rw[Cg,Ab] at f ⊢;exact⟨h.flat f.1,r.flat f.2⟩
theorem z92 {F b:Hp}{w u:W}{v z:V}(h:Rep K F w v)(a:Rep K b u z)(f:zgr w=Zd)(f2:zgr u=Zd):eqV v z=eqF w u:=by
 cases h<;>first|(cases f;done)|(cases a<;>first|rfl|(cases f2))
theorem z2n {F b:Hp}{u:W}{z:V} (a:Rep K b u z) (f2:zgr u=Zd):∀{w:List W}{v:List V},Reps K F w v->w.all zgr=Zd->inV z v=w.any λy=>eqF y u
 |_,_,.nil,_=>rfl
 | _,_,.cons h r,f=>by
  rw[Cg,Ab] at f;have i:=z2n a f2 r f.2;unfold inV at i ⊢;rw[Ff,Ff,i,z92 h a f.1 f2]
noncomputable def oIn (n:Bool):O2:=λa b=>(seqW b).bind λw=>if zgr a&&w.all zgr then Za (.bl (if n then !(w.any λy=>eqF y a) else w.any λy=>eqF y a),Zc) else Zb
theorem z2v (n:Bool):OpS K (rIn K n) (oIn n):=λF H w k i j l Q s g f e q=>by
 obtain⟨m,d,e⟩:=bS e;split at e
 ·rename_i z;rw [Ab] at z;obtain rfl:=sI e;obtain ⟨a,v,c,h,p⟩:=f.seqW s d;have b:Rep K F w i:=by
   rcases g with r|⟨_,_,_,e,_,_,y⟩
   ·exact r
   ·subst e;cases y<;>cases z.1
  refine⟨a,v,c,h,b.flat z.1,p.flat z.2,?_⟩;rw[z2n b z.1 p z.2];exact q _ _ (.val (.bl _))
 ·exact noSome e
noncomputable def oIx:O2
 |a,.int i=>(seqW a).bind λb=>(atI b i).bind λw=>#v[w,6]
 |_,_=>Zb
theorem z1c {F:Hp}{ws:List W}{vs:List V}{i:Int}{w:W}(r:Reps K F ws vs)(h:atI ws i=Za w):∃v,atI vs i=Za v/\Rep K F w v:=by
 unfold atI at h ⊢;rw[<-r.length];obtain⟨j,b,a⟩:=bS h;obtain⟨v,d,c⟩:=r.get a;exact⟨v,by rw[b];exact d,c⟩
noncomputable def rIxB (K:Zg):R2:=λx y H Q=>rIxL K x y H Q\/rIxT K x y H Q
theorem yaw:OpS K (rIxB K) oIx:=λF H b j t n r Q s l g e q=>by
 cases j with
 | int i =>
  obtain⟨o,k,e⟩:=bS (show (seqW b).bind _=_ from e);obtain⟨w,m,e⟩:=bS e;obtain rfl:=sI e;obtain⟨a,f,d,h,p⟩:=l.seqW s k;obtain⟨v,c,r⟩:=z1c p m;rcases h with h|h
  ·exact .inl ⟨a,f,i,v,d,g.int,h,c,q _ _ (.val r)⟩
  ·exact .inr ⟨a,f,i,v,d,g.int,h,c,q _ _ (.val r)⟩
 |_=>cases b<;>exact noSome e
noncomputable def oNeg:W->Option (W×Bool)
 |.int i=>#v[(-i),0]
 |_=>Zb
theorem z70:OpS1 K (rU λi=>.int (-i)) oNeg:=λF H w v a Q s r e q=>by
 cases w with
 |int i=>obtain rfl:=sI e;exact⟨i,r.int,q _ _ (.val (.int _))⟩
 |_=>exact noSome e
end
theorem zig:∀(n:List Int) (k:Nat),k<=n.length->preSum (λi=>n.getD i 0) k=(n.take k).sum
 |n,0,_=>rfl
 | n,k+1,h=>by
  have b:=zig n k #v[];show preSum (λi=>n.getD i 0) k+n.getD k 0=_;rw[b,Ce,List.sum_append];have a:k<n.length:=by omega
  rw[Ae a,Cq,Ae a];simp
section
variable {X:Cx}
theorem zjv {n:List Int}{a:List Ze}{i:Nat}{v:Ze}(r:Vals (n.map V.int) a)(h:a[i]?=Za v):∃t,v=.int (n.getD i 0) t:=by
 have d:=r.length;rw[Ad] at d;have c:i<n.length:=by rw[d];exact (Af.mp h).1
 obtain⟨u,b,f⟩:=r.get (i:=i) (x:=.int n[i]) (by rw[Aj,Ae c];rfl);rw[h] at b;obtain rfl:=sI b;obtain⟨t,e⟩:=f;exact⟨t,by rw[e,Cq,Ae c];rfl⟩
theorem zwg (t:X.calm=Zd):zek X (.builtin "sum") (λx H Q=>∃(a:Zh) (n:List Int),x=[.ref a]/\SqL X.K H a (n.map V.int)/\Q (.int n.sum) H):=by
 intro pins s σ H x G Q I r h;nofun;obtain⟨a,n,rfl,m,q⟩:=h;obtain⟨u,rfl,k⟩:=vals1 r;ac_rfl;cases k;nofun;obtain⟨c,g,p,C⟩:=I.list m;ac_rfl;have w:=g.length;rw[Ad] at w;have j:a<s.heap.objs.size:=by obtain⟨o,e,_⟩:=p.isList;exact Ar e
 refine call_sum_walkG (Dw p.isList ?_);refine⟨s.heap.objs.size,_,[s.heap.objs.size],c.toArray.size,_,_,λi=>n.getD i 0,rfl,Walks.list (A:=X.A.in1) (show X.A.in1.handled=Zb from I.ok.hd t) _ a (Bg j) c.toArray,⟨⟨_,Aq _ rfl,rfl,rfl⟩,p.isList.push _⟩,?_,λi v y=>zjv g (by simpa using y),λD F E l=>?_⟩
 ·intro b d;have B:∀o:Obj,(s.heap.push o).objs.size=s.heap.objs.size+1:=λo=>Df ..;have f:b=s.heap.objs.size\/b=a:=by simpa using d
  show b<(s.heap.push _).objs.size;rw[B];rcases f with rfl|rfl
  ·exact Fs _
  ·exact Ei j
 ·have e:c.toArray.size=n.length:=by simp;omega
  rw[e,zig n n.length (Ag _),Bs];refine⟨.int _,H,I.kept λb o d=>?_,⟨_,rfl⟩,q⟩;exact l b o (by intro z;rw[Az] at z;subst z;exact absurd (Ar d) (Bx _)) (Ac _ d)
noncomputable def mx1 (n:Int) (r:List Int):Int:=r.foldl (λb x=>if x > b then x else b) n
theorem zx4 (n:Int) (r:List Int):∀k,k<=r.length->(n::r).getD (argBest (λi j=>decide ((n::r).getD i 0 > (n::r).getD j 0)) k) 0=mx1 n (r.take k)
 |0,_=>rfl
 | k+1,h=>by
  have b:=zx4 n r k #v[];have a:k<r.length:=by omega
  have g:(n::r).getD (k+1) 0=r[k]:=by rw[List.getD_cons_succ,Cq,Ae a];rfl
  have t:mx1 n (r.take (k+1))=if r[k] > mx1 n (r.take k) then r[k] else mx1 n (r.take k):=by
   unfold mx1;rw[Ce,Ae a,Hk];rfl
  rw[t];show (n::r).getD (if decide ((n::r).getD (k+1) 0 > (n::r).getD (argBest (λi j=>decide ((n::r).getD i 0 > (n::r).getD j 0)) k) 0)=Zd then k+1 else argBest _ k) 0=_;rw[b,g];by_cases c:r[k] > mx1 n (r.take k)
  ·rw[Ah c,if_pos rfl,if_pos c,g]
  ·rw[Ao c,if_neg At,if_neg c,b]
theorem zvw (k:X.calm=Zd):zek X (.builtin "max") (λx H Q=>(∃i j,x=#v[1,18]/\Q (.int (if j > i then j else i)) H)\/∃(a:Zh) (n:Int) (r:List Int),x=[.ref a]/\SqL X.K H a ((n::r).map V.int)/\Q (.int (mx1 n r)) H):=by
 intro pins s σ H x E Q I r h;rcases h with h|h
 ·exact zuf k pins s σ H x E Q I r h
 obtain⟨a,n,f,rfl,C,q⟩:=h;obtain⟨u,rfl,y⟩:=vals1 r;cases y;obtain⟨c,l,p,F⟩:=I.list C;have g:=l.length;rw[Ad] at g;have w:a<s.heap.objs.size:=by obtain⟨o,e,_⟩:=p.isList;exact Ar e
 have m:∀(i:Nat) (v:Ze),c.toArray[i]?=Za v->∃t,v=Ze.int ((n::f).getD i 0) t:=λi v e=>zjv l (by simpa using e);refine call_max_walk (Dw p.isList ?_);refine⟨s.heap.objs.size,_,[s.heap.objs.size],c.toArray.size,_,_,_,rfl,Walks.list (A:=X.A.in1) (show X.A.in1.handled=Zb from I.ok.hd k) _ a (Bg w) c.toArray,⟨⟨_,Aq _ rfl,rfl,rfl⟩,p.isList.push _⟩,λb d=>?_,by rw[Ak,<-g];exact Nat.succ_pos _,CmpOf.ints_gt _ m,λv G J D B=>?_⟩
 ·rw[Df];simp only [Ap,Cb,Gk] at d;rcases d with rfl|rfl
  ·exact Fs _
  ·exact Ei w
 ·obtain⟨t,rfl⟩:=m _ _ D;have e:c.toArray.size-1=f.length:=by rw[Ak,<-g];rfl
  refine⟨.int _,H,I.kept λb o d=>B b o (λz=>by rw[Az] at z;subst z;exact absurd (Ar d) (Bx _)) (Ac _ d),⟨_,rfl⟩,?_⟩;rw[e,zx4 n f f.length (Ag _),Bs];exact q
noncomputable def mn1 (n:Int) (r:List Int):Int:=r.foldl (λb x=>if x<b then x else b) n
theorem zwo (n:Int) (r:List Int):∀k,k<=r.length->(n::r).getD (argBest (λi j=>decide ((n::r).getD i 0<(n::r).getD j 0)) k) 0=mn1 n (r.take k)
 |0,_=>rfl
 | k+1,h=>by
  have b:=zwo n r k #v[];have a:k<r.length:=by omega
  have g:(n::r).getD (k+1) 0=r[k]:=by rw[List.getD_cons_succ,Cq,Ae a];rfl
  have t:mn1 n (r.take (k+1))=if r[k]<mn1 n (r.take k) then r[k] else mn1 n (r.take k):=by
   unfold mn1;rw[Ce,Ae a,Hk];rfl
  rw[t];show (n::r).getD (if decide ((n::r).getD (k+1) 0<(n::r).getD (argBest (λi j=>decide ((n::r).getD i 0<(n::r).getD j 0)) k) 0)=Zd then k+1 else argBest _ k) 0=_;rw[b,g];by_cases c:r[k]<mn1 n (r.take k)
  ·rw[Ah c,if_pos rfl,if_pos c,g]
  ·rw[Ao c,if_neg At,if_neg c,b]
theorem zxm (k:X.calm=Zd):zek X (.builtin "min") (λx H Q=>(∃i j,x=#v[1,18]/\Q (.int (if j<i then j else i)) H)\/∃(a:Zh) (n:Int) (r:List Int),x=[.ref a]/\SqL X.K H a ((n::r).map V.int)/\Q (.int (mn1 n r)) H):=by
 intro pins s σ H x E Q I r h;rcases h with h|h
 ·exact zvo k pins s σ H x E Q I r h
 obtain⟨a,n,f,rfl,C,q⟩:=h;obtain⟨u,rfl,y⟩:=vals1 r;cases y;obtain⟨c,l,p,F⟩:=I.list C;have g:=l.length;rw[Ad] at g;have w:a<s.heap.objs.size:=by obtain⟨o,e,_⟩:=p.isList;exact Ar e
 have m:∀(i:Nat) (v:Ze),c.toArray[i]?=Za v->∃t,v=Ze.int ((n::f).getD i 0) t:=λi v e=>zjv l (by simpa using e);refine call_min_walk (Dw p.isList ?_);refine⟨s.heap.objs.size,_,[s.heap.objs.size],c.toArray.size,_,_,_,rfl,Walks.list (A:=X.A.in1) (show X.A.in1.handled=Zb from I.ok.hd k) _ a (Bg w) c.toArray,⟨⟨_,Aq _ rfl,rfl,rfl⟩,p.isList.push _⟩,λb d=>?_,by rw[Ak,<-g];exact Nat.succ_pos _,CmpOf.ints_lt _ m,λv G J D B=>?_⟩
 ·rw[Df];simp only [Ap,Cb,Gk] at d;rcases d with rfl|rfl
  ·exact Fs _
  ·exact Ei w
 ·obtain⟨t,rfl⟩:=m _ _ D;have e:c.toArray.size-1=f.length:=by rw[Ak,<-g];rfl
  refine⟨.int _,H,I.kept λb o d=>B b o (λz=>by rw[Az] at z;subst z;exact absurd (Ar d) (Bx _)) (Ac _ d),⟨_,rfl⟩,?_⟩;rw[e,zwo n f f.length (Ag _),Bs];exact q
theorem z6d:OpR X (binaryOp .Add) (λx y H Q=>∃a b l,x=.ref a/\y=.ref b/\SqT X.K H a []/\SqT X.K H b l/\Q (.ref b) H):=by
 intro pins s σ H x y v u Q I r m h;nofun;obtain⟨a,b,l,rfl,rfl,D,A,q⟩:=h;ac_rfl;cases r;cases m;nofun;obtain⟨i,w,t,_⟩:=I.tuple D;obtain⟨e,L,F,_⟩:=I.tuple A;obtain⟨⟨M,p,J,n⟩,j,k,o,c⟩:=id t;obtain⟨⟨K,C,G,B⟩,g,f,z,d⟩:=id F;ac_rfl;simp only at k c f d;subst k c f d;have E:i=[]:=by cases w;rfl
 subst E;exact concat_meets (T := "tuple") ⟨_,j,rfl⟩ ⟨_,g,rfl⟩ noFill_tuple_add seq_tuple_add PySem.F.slot_tuple_add PySem.F.entry_tuple_add (Hm _ _)
  (tuple_addW0 a b _ _ o z p C n B rfl) ⟨j,g,⟨.ref b,H,I.tok _,rfl,q⟩⟩
theorem zzz:OpR X (binaryOp .FloorDiv) (rI (λ_ j=>0<j/\j.natAbs.log2<9000) λi j=>.int (i/j)):=opI λi j _ _ _ _ _ h q=>by
 have a:(0:Int)<j:=h.1;exact floordiv_int #v[] (by rw[Int.fdiv_eq_ediv_of_nonneg i #v[]];exact q) (.inl (PyProof.noPylong_of_log2 h.2))
end
section
variable {K:Zg}
noncomputable def yc7 (K:Zg):R2:=λx y H Q=>∃a b c,x=.ref a/\y=.ref b/\SqT K H a []/\SqT K H b c/\Q (.ref b) H
theorem z0f:OpS K (yc7 K) z7y:=λF H i w o v n Q s g r e q=>by
 cases i with
 | tup x =>
  cases x with
  |cons _ _=>cases w<;>exact noSome e
  | nil =>
   cases w with
   | tup y =>
    obtain rfl:=sI e;nofun;obtain⟨a,m,j,h,l,p⟩:=g.tup s;obtain⟨b,u,d,c,f,k⟩:=r.tup s;ac_rfl;cases p;subst d;exact⟨a,b,u,j,rfl,.inl (.inl h),.inl (.inl c),q _ _ (.val (.tup f k))⟩
   |_=>exact noSome e
 |_=>exact noSome e
noncomputable def ydx:R2:=λx y H Q=>∃i j,x=.str i/\y=.str j/\i.length+j.length<=sizeLine/\Q (.str (i++j)) H
theorem z01:OpS K ydx z2f:=λF H w a d v c Q s b r e q=>by
 cases w with
 | str x =>
  cases a with
  | str y =>
   unfold z2f at e;simp only at e;split at e
   ·rename_i z;obtain rfl:=sI e;exact⟨x,y,b.str,r.str,z,q _ _ (.val (.str _))⟩
   ·exact noSome e
  |_=>exact noSome e
 |_=>exact noSome e
noncomputable abbrev ON:=List W->Option (W×Bool)
noncomputable def oLen:ON
 |[w]=>(seqW w).bind λa=>#v[a.length,0]
 |_=>Zb
theorem z71:OpSN K (λx H Q=>∃p y,x=[.ref p]/\(SqL K H p y\/SqT K H p y)/\Q (.int y.length) H) oLen:=λF H w v f Q s r e q=>by
 cases r with
 |nil=>exact noSome e
 | cons h r =>
  cases r with
  |cons _ _=>exact noSome e
  | nil =>
   obtain⟨w,c,e⟩:=bS (show (seqW _).bind _=_ from e);obtain rfl:=sI e;obtain⟨a,v,d,b,p⟩:=h.seqW s c;subst d;exact⟨a,v,rfl,b,by rw[<-p.length];exact q _ _ (.val (.int _))⟩
noncomputable def oAbs:ON
 |[.int i]=>#v[(if i<0 then -i else i),0]
 |_=>Zb
theorem RepBs.one {F H:Hp}{w:W}{vs:List V}(r:RepBs K F H [w] vs):∃v,vs=[v]/\RepB K F H w v:=by
 cases r with
 |cons h r=>cases r;exact⟨_,rfl,h⟩
theorem RepBs.two {F H:Hp}{w u:W}{vs:List V}(r:RepBs K F H [w,u] vs):∃v z,vs=[v,z]/\RepB K F H w v/\RepB K F H u z:=by
 cases r with
 |cons h r=>obtain⟨z,e,a⟩:=r.one;subst e;exact⟨_,z,rfl,h,a⟩
theorem z4f:OpSN K (λx H Q=>∃i,x=[.int i]/\Q (.int (if i<0 then -i else i)) H) oAbs:=λF H w c b Q s r e q=>by
 match w,e with
 | [.int i],e =>
  obtain rfl:=sI e;obtain⟨v,a,h⟩:=r.one;subst a;exact⟨i,by rw[h.int],q _ _ (.val (.int _))⟩
noncomputable def oInt:ON
 |[.int i]=>#v[i,0]
 |[.bl k]=>#v[(if k then 1 else 0),0]
 |_=>Zb
theorem z7k:OpSN K (λx H Q=>(∃i,x=[.int i]/\Q (.int i) H)\/∃k,x=[.bl k]/\Q (.int (if k then 1 else 0)) H) oInt:=λF H w c b Q s r e q=>by
 match w,e with
 | [.int i],e =>
  obtain rfl:=sI e;obtain⟨v,a,h⟩:=r.one;subst a;exact .inl ⟨i,by rw[h.int],q _ _ (.val (.int _))⟩
 | [.bl k],e =>
  obtain rfl:=sI e;obtain⟨v,a,h⟩:=r.one;subst a;exact .inr ⟨k,by rw[h.bl],q _ _ (.val (.int _))⟩
noncomputable def oList:ON
 |[w]=>(seqW w).bind λa=>#v[a,2]
 |_=>Zb
theorem zyk:OpSN K (λx H Q=>∃p y,x=[.ref p]/\(SqL K H p y\/SqT K H p y)/\∀l,H l=Zb->Q (.ref l) (upd H l (.lst y))) oList:=λF H b k j Q s r e q=>by
 match b,e with
 | [w],e =>
  obtain⟨b,f,e⟩:=bS (show (seqW _).bind _=_ from e);obtain rfl:=sI e;nofun;obtain⟨v,g,h⟩:=r.one;obtain⟨a,u,d,c,p⟩:=h.seqW s f;ac_rfl;subst g d;exact⟨a,u,rfl,c,λl i=>q _ _ (.lst i p)⟩
noncomputable def oTuple:ON
 |[.tup a]=>#v[a,3]
 |[w]=>(seqL w).bind λa=>#v[a,3]
 |_=>Zb
theorem zts:OpSN K (λx H Q=>∃p y,x=[.ref p]/\((SqL K H p y/\∀l,H l=Zb->Q (.ref l) (upd H l (.tup y)))\/(SqT K H p y/\Q (.ref p) H))) oTuple:=λF H w j i Q s r e q=>by
 match w,e with
 | [.tup w],e =>
  obtain rfl:=sI e;nofun;obtain⟨v,d,h⟩:=r.one;obtain⟨a,u,c,b,f,p⟩:=h.tup s;ac_rfl;subst d c;exact⟨a,u,rfl,.inr ⟨.inl (.inl b),q _ _ (.val (.tup f p))⟩⟩
 | [.lst w],e =>
  obtain rfl:=sI e;nofun;obtain⟨v,d,h⟩:=r.one;obtain⟨a,u,c,b,p⟩:=h.lst s;ac_rfl;subst d c;exact⟨a,u,rfl,.inl ⟨SqL.of' b,λl g=>q _ _ (.tup g p)⟩⟩
 | [.frl w],e =>
  obtain rfl:=sI e;nofun;obtain⟨v,d,h⟩:=r.one;obtain⟨a,u,c,b,p⟩:=h.frl s;ac_rfl;subst d c;exact⟨a,u,rfl,.inl ⟨b,λl g=>q _ _ (.tup g p)⟩⟩
 |[.non],e=>exact noSome e
 |[.bl _],e=>exact noSome e
 |[.int _],e=>exact noSome e
 |[.str _],e=>exact noSome e
 |[.dic],e=>exact noSome e
 |[.dct _ _],e=>exact noSome e
 |[.dcz _ _],e=>exact noSome e
noncomputable def zo8:List W->Option (List Bool)
 |[]=>Za []
 |.bl b::w=>(zo8 w).bind λbs=>Za (b::bs)
 |_=>Zb
noncomputable def zdt:List W->Option (List Int)
 |[]=>Za []
 |.int b::w=>(zdt w).bind λbs=>Za (b::bs)
 |_=>Zb
theorem zrb:∀{w:List W}{bs:List Bool},zo8 w=Za bs->w=bs.map W.bl
 |[],_,e=>by obtain rfl:=sI e;rfl
 | .bl b::w,_,e=>by
  obtain⟨bs,h,e⟩:=bS (show (zo8 w).bind _=_ from e);obtain rfl:=sI e;rw[zrb h];rfl
 |.non::_,_,e=>by exact noSome e
 |.int _::_,_,e=>by exact noSome e
 |.str _::_,_,e=>by exact noSome e
 |.tup _::_,_,e=>by exact noSome e
 |.lst _::_,_,e=>by exact noSome e
 |.frl _::_,_,e=>by exact noSome e
theorem zcu:∀{w:List W}{bs:List Int},zdt w=Za bs->w=bs.map W.int
 |[],_,e=>by obtain rfl:=sI e;rfl
 | .int b::w,_,e=>by
  obtain⟨bs,h,e⟩:=bS (show (zdt w).bind _=_ from e);obtain rfl:=sI e;rw[zcu h];rfl
 |.non::_,_,e=>by exact noSome e
 |.bl _::_,_,e=>by exact noSome e
 |.str _::_,_,e=>by exact noSome e
 |.tup _::_,_,e=>by exact noSome e
 |.lst _::_,_,e=>by exact noSome e
 |.frl _::_,_,e=>by exact noSome e
theorem zft:∀(a:List Int),zdt (a.map W.int)=Za a
 |[]=>rfl
 |n::a=>by show (zdt (a.map W.int)).bind _=_;rw[zft a];rfl
theorem zl4:∀(a:List Bool),zo8 (a.map W.bl)=Za a
 |[]=>rfl
 |n::a=>by show (zo8 (a.map W.bl)).bind _=_;rw[zl4 a];rfl
noncomputable def oBl (f:List Bool->Bool):ON
 |[w]=>(seqL w).bind λa=>(zo8 a).bind λbs=>Za (.bl (f bs),Zc)
 |_=>Zb
theorem z3f {f:List Bool->Bool}:OpSN K (λx H Q=>∃(a:Zh) (bs:List Bool),x=[.ref a]/\SqL K H a (bs.map V.bl)/\Q (.bl (f bs)) H) (oBl f):=λF H c l k Q s r e q=>by
 match c,e with
 | [w],e =>
  nofun;obtain⟨c,g,e⟩:=bS (show (seqL _).bind _=_ from e);obtain⟨bs,i,e⟩:=bS e;ac_rfl;obtain rfl:=sI e;nofun;obtain⟨v,j,h⟩:=r.one;obtain⟨a,u,d,b,p⟩:=h.seqL s g;ac_rfl;subst j d;rw[zrb i] at p;rw[p.bls] at b;exact⟨a,bs,rfl,b,q _ _ (.val (.bl _))⟩
noncomputable def oSum:ON
 |[w]=>(seqL w).bind λa=>(zdt a).bind λn=>#v[n.sum,0]
 |_=>Zb
theorem z7h:OpSN K (λx H Q=>∃(a:Zh) (n:List Int),x=[.ref a]/\SqL K H a (n.map V.int)/\Q (.int n.sum) H) oSum:=λF H c k j Q s r e q=>by
 match c,e with
 | [w],e =>
  nofun;obtain⟨c,f,e⟩:=bS (show (seqL _).bind _=_ from e);obtain⟨bs,g,e⟩:=bS e;ac_rfl;obtain rfl:=sI e;nofun;obtain⟨v,i,h⟩:=r.one;obtain⟨a,u,d,b,p⟩:=h.seqL s f;ac_rfl;subst i d;rw[zcu g] at p;rw[p.ints] at b;exact⟨a,bs,rfl,b,q _ _ (.val (.int _))⟩
noncomputable def mnW (w:W):Option (W×Bool):=(seqL w).bind λb=>(zdt b).bind λa=>match a with
 |n::r=>#v[(mn1 n r),0]
 |[]=>Zb
noncomputable def oMin:ON
 |#v[1,18]=>#v[(if j<i then j else i),0]
 |[w]=>mnW w
 |_=>Zb
noncomputable def mxW (w:W):Option (W×Bool):=(seqL w).bind λb=>(zdt b).bind λa=>match a with
 |n::r=>#v[(mx1 n r),0]
 |[]=>Zb
noncomputable def mx2:W->W->Option (W×Bool)
 |.int i,.int j=>#v[(if j > i then j else i),0]
 |_,_=>Zb
noncomputable def oMax:ON
 |[w]=>mxW w
 |[a,b]=>mx2 a b
 |_=>Zb
theorem z48:OpSN K (λx H Q=>(∃i j,x=#v[1,18]/\Q (.int (if j<i then j else i)) H)\/∃(a:Zh) (n:Int) (r:List Int),x=[.ref a]/\SqL K H a ((n::r).map V.int)/\Q (.int (mn1 n r)) H) oMin:=λF H t u l Q s r e q=>by
 unfold oMin at e;split at e
 ·obtain rfl:=sI e
  obtain⟨v,z,b,g,f⟩:=r.two;subst b;exact .inl ⟨_,_,by rw[g.int,f.int],q _ _ (.val (.int _))⟩
 ·rename_i w
  nofun;obtain⟨t,m,e⟩:=bS (show (seqL w).bind _=Za l from e);obtain⟨c,o,e⟩:=bS e;obtain⟨v,b,h⟩:=r.one;obtain⟨a,y,k,d,p⟩:=h.seqL s m;ac_rfl;subst b k;rw[zcu o] at p;rw[p.ints] at d;cases c with
  |nil=>exact noSome e
  | cons n c =>
   obtain rfl:=sI e;exact .inr ⟨a,n,c,rfl,d,q _ _ (.val (.int _))⟩
 ·exact noSome e
theorem z7o:OpSN K (λf H Q=>(∃i j,f=#v[1,18]/\Q (.int (if j > i then j else i)) H)\/∃(a:Zh) (n:Int) (r:List Int),f=[.ref a]/\SqL K H a ((n::r).map V.int)/\Q (.int (mx1 n r)) H) oMax:=λF H k A g Q s r e q=>by
 match k,e with
 | [x,y],e =>
  have e:mx2 x y=Za g:=e;unfold mx2 at e;split at e
  ·obtain rfl:=sI e
   nofun;obtain⟨v,z,b,m,l⟩:=r.two;ac_rfl;subst b;exact .inl ⟨_,_,by rw[m.int,l.int],q _ _ (.val (.int _))⟩
  ·exact noSome e
 | [w],e =>
  nofun;obtain⟨k,t,e⟩:=bS (show (seqL w).bind _=Za g from e);obtain⟨c,u,e⟩:=bS e;obtain⟨v,b,h⟩:=r.one;obtain⟨a,B,o,d,p⟩:=h.seqL s t;ac_rfl;subst b o;rw[zcu u] at p;rw[p.ints] at d;cases c with
  |nil=>exact noSome e
  | cons n c =>
   obtain rfl:=sI e;exact .inr ⟨a,n,c,rfl,d,q _ _ (.val (.int _))⟩
noncomputable def tyW:W->Option String
 |.non=>Za "NoneType"
 |.bl _=>Za "bool"
 |.int _=>Za "int"
 |.str _=>Za "str"
 |.tup _=>Za "tuple"
 |.lst _=>Za "list"
 |.frl _=>Zb
 |.dic=>Zb
 |.dct _ _=>Zb
 |.dcz _ _=>Zb
inductive Kd where
 |int|bool|str|tuple|list
 deriving DecidableEq
noncomputable def Kd.nm:Kd->String
 |.int => "int" | .bool => "bool" | .str => "str" | .tuple => "tuple" | .list => "list"
noncomputable def isiW (k:Kd):W->Option Bool
 |.non=>Za Zc
 |.bl _=>Za (k==.bool||k==.int)
 |.int _=>Za (k==.int)
 |.str _=>Za (k==.str)
 |.tup _=>Za (k==.tuple)
 |.lst _=>Za (k==.list)
 |.frl _=>Zb
 |.dic=>Za Zc
 |.dct _ _=>Za Zc
 |.dcz _ _=>Zb
noncomputable def oIsi (k:Kd) (w:W):Option (W×Bool):=(isiW k w).bind λb=>Za (.bl b,Zc)
theorem z7s {F H:Hp}{w:W}{v:V}{k:Kd}{b:Bool} (s:Same F H) (r:RepB K F H w v) (e:isiW k w=Za b):∃t,TyOf K H v t/\PySem.W.kitOne K t (.type k.nm)=Za b:=by
 cases w with
 |non=>rw[r.non];obtain rfl:=sI e;exact⟨_,.non,by cases k<;>(with_unfolding_all rfl)⟩
 |bl x=>rw[r.bl];obtain rfl:=sI e;exact⟨_,.bl x,by cases k<;>(with_unfolding_all rfl)⟩
 |int x=>rw[r.int];obtain rfl:=sI e;exact⟨_,.int x,by cases k<;>(with_unfolding_all rfl)⟩
 |str x=>rw[r.str];obtain rfl:=sI e;exact⟨_,.str x,by cases k<;>(with_unfolding_all rfl)⟩
 |tup x=>obtain⟨a,f,c,h,_⟩:=r.tup s;subst c;obtain rfl:=sI e;exact⟨_,.tup h,by cases k<;>(with_unfolding_all rfl)⟩
 |lst x=>obtain⟨a,f,c,h,_⟩:=r.lst s;subst c;obtain rfl:=sI e;exact⟨_,.lst h,by cases k<;>(with_unfolding_all rfl)⟩
 |frl x=>exact noSome e
 | dic =>
  rcases r with r|⟨_,_,_,z,_,_,q⟩
  ·cases r with
   |dic h=>obtain rfl:=sI e;exact⟨_,.dK (s _ _ h),by cases k<;>(with_unfolding_all rfl)⟩
  ·subst z;cases q
 | dct d g =>
  obtain rfl:=sI e;rcases r with r|⟨_,_,_,z,c,h,q⟩
  ·cases r with
   |dct h _ _=>exact⟨_,.dK (s _ _ h),by cases k<;>(with_unfolding_all rfl)⟩
   |dctT h _ _=>exact⟨_,.dT (s _ _ h),by cases k<;>(with_unfolding_all rfl)⟩
  ·subst z c
   cases q with
   |dct _ _=>exact⟨_,.dK h,by cases k<;>(with_unfolding_all rfl)⟩
   |dctT _ _=>exact⟨_,.dT h,by cases k<;>(with_unfolding_all rfl)⟩
 |dcz d g=>exact noSome e
noncomputable def rIsi (K:Zg):List V->Hp->VK->Prop:=λa H Q=>∃x t c b,a=[x,.ty c]/\TyOf K H x t/\PySem.W.kitOne K t (.type c)=Za b/\Q (.bl b) H
theorem z00 {k:Kd}{a:GA}{σ:St}{H:Hp}{Q:VK}(h:tE K (gOp1 (oIsi k) a) σ H Q):tCB (rIsi K) (zds (tA K a) (zds (tC (.ty k.nm)) tNil)) σ H Q:=by
 nofun;obtain⟨F,pr,en,f,u,R,h,q⟩:=h;obtain⟨⟨o,x⟩,g,h⟩:=bS h;obtain⟨w,c,h⟩:=bS h;obtain⟨r,e,h⟩:=bS h;obtain⟨b,n,e⟩:=bS e;ac_rfl;obtain rfl:=sI e;cases h;refine⟨F,pr,en,o,x,R,g,λm p v s d j=>?_⟩;obtain⟨t,i,l⟩:=z7s d.sub (j.repB d c) n;exact⟨v,t,_,b,rfl,i,l,q m p _ s d (.bl b)⟩
noncomputable abbrev GO:=En->Option (En×Option Int)
noncomputable def zco:GO:=λen=>Za (en,Zb)
noncomputable def zg6 (g:GE):GO:=λen=>match g en with
 |some (e,(.int i,_))=>Za (e,Za i)
 |_=>Zb
noncomputable def tO (K:Zg) (g:GO):TO:=λσ H Q=>∃F pr en e o,Rel K F pr en σ H/\g en=Za (e,o)/\∀b a,Same F b->Rel K b pr e σ a->Q o a
theorem Res.isInt {F H:Hp}{pr:Prt}{en:En}{σ:St}{i:Int}{f:Bool}{v:V}(h:Res K F H pr en σ (.int i,f) v):v=.int i:=by
 cases f with
 |false=>cases (show Rep K F (.int i) v from h);rfl
 |true=>obtain⟨_,_,_,e,_,_,_,q,_⟩:=h;subst e;cases q
theorem zow {σ:St}{H:Hp}{Q:Option Int->Hp->Prop}(h:tO K zco σ H Q):zuc σ H Q:=by
 obtain⟨F,pr,en,e,o,R,h,q⟩:=h;cases h;exact q F H (.refl F) R
theorem zud {g:GE}{σ:St}{H:Hp}{Q:Option Int->Hp->Prop} (h:tO K (zg6 g) σ H Q):yba (tE K g) σ H Q:=by
 nofun;obtain⟨F,pr,en,f,o,R,h,q⟩:=h;ac_rfl;unfold zg6 at h;cases e:g en with
 |none=>simp only [e] at h;exact noSome h
 | some p =>
  obtain⟨j,w,i⟩:=p;cases w with
  |int c=>simp only [e] at h;cases h;exact⟨F,pr,en,_,_,R,e,λb a v s d z=>⟨c,z.isInt,q b a s d⟩⟩
  |_=>simp only [e] at h;exact noSome h
open HT in
theorem zs0 {prog:Program}{w:World}{A:Around}{E:Ze->Zf->Prop}{s:Zf}{t b:Zh}{items:Array Ze}{d c:Ze}{lo e:Option Int}{Q:Ze->Zf->Prop} (a:IsTup s.heap t items) (f:s.heap.IsSliceOf b d c .none) (p:IsPart d lo) (l:IsPart c e)
  (i:sIx items.size 0 lo=0) (g:sIx items.size items.size e=items.size) (h:Q (.ref t) s):wpAny (model prog w) A (getItem (.ref t) (.ref b)) Q E s:=by
 obtain⟨o,m,k,_⟩:=id f;have j:s.TypeIs (.ref b) "slice" := ⟨o,m,k⟩;unfold getItem
 try with_reducible refine Dk ?_
 first|refine Aa (Am ?_)|skip
 refine Aa (wpAny_sequenceKey a.typeIs #v[0,9] ?_);refine Aa (Di (name:=Str.ofString "__getitem__") a.typeIs Ep (Fa Ep a.typeIs entry_tuple_getitem ?_ (args_tuple_getitem _ _)));show wpAny _ _ (Builtin.Tuple.tupleItemsOf (.ref t)>>=_) _ _ s;refine Aa (tupleItemsOf_ a ?_);refine Aa (wpAny_typeOf j ?_);rw[if_pos #v[0,9]];refine Aa (zdj f p l ?_);rw[i,g];show wpAny _ _ (if ((((0:Nat):Int)==0&&(1:Int)==1&&(items.size-0)==items.size)=Zd) then _ else _) _ _ s;rw[if_pos (by simp)];unfold Builtin.Tuple.tupleIsExact;refine Aa (Aa (wpAny_typeOf a.typeIs (Am ?_)));rw[if_pos #v[0,9]];refine Aa (Dh (Am ⟨_,rfl,?_⟩));exact Am h
noncomputable def rSlW (K:Zg):V->Option Int->Option Int->Hp->VK->Prop:=λx l h H Q=>∃a b,x=.ref a/\SqT K H a b/\HT.sIx b.length 0 l=0/\HT.sIx b.length b.length h=b.length/\Q x H
theorem z5w {X:Cx}:SlR X (rSlW X.K):=by
 intro pins s σ H x v w u t m o Q I e k p l h;nofun;obtain⟨a,d,rfl,g,j,f,q⟩:=h;ac_rfl;cases e;nofun;obtain⟨i,r,c,n⟩:=I.tuple g;ac_rfl;have b:i.toArray.size=d.length:=by rw[Ak];exact r.length.symm
 exact⟨"tuple",_,PyProof.Rows.slot_tuple_getitem.lookup,c.typeIs,zs0 c k p l (by rw[b];exact j) (by rw[b];exact f) ⟨.ref a,H,I,rfl,q⟩⟩
noncomputable def cutW (xs:List W) (lo h:Option Int):List W:=(xs.drop (HT.sIx xs.length 0 lo)).take (HT.sIx xs.length xs.length h-HT.sIx xs.length 0 lo)
noncomputable def oSl (w:W) (lo h:Option Int):Option (W×Bool):=match w with
 |.lst a=>#v[(cutW a lo h),2]
 |.frl a=>#v[(cutW a lo h),2]
 |.tup a=>#v[(cutW a lo h),3]
 |_=>Zb
noncomputable def rSlB (K:Zg):V->Option Int->Option Int->Hp->VK->Prop:=λx l h H Q=>(rSlL K x l h H Q\/rSlT K x l h H Q)\/rSlW K x l h H Q
theorem yap {F H:Hp}{w:W}{v:V}{lo f:Option Int}{i:W×Bool}{Q:VK} (s:Same F H) (r:RepB K F H w v) (e:oSl w lo f=Za i) (q:∀u j,Out K F H i u j->Q u j):rSlB K v lo f H Q:=by
 have cut:∀{c:List W}{b:List V},Reps K F c b->Reps K F (cutW c lo f) (cutV b lo f):=λ{c b} p=>by
  unfold cutW cutV;rw[<-p.length];exact (p.drop _).take _
 cases w with
 |lst c=>obtain rfl:=sI e;obtain⟨a,b,d,h,p⟩:=r.lst s;exact .inl (.inl ⟨a,b,d,SqL.of' h,λl g=>q _ _ (.lst g (cut p))⟩)
 |frl c=>obtain rfl:=sI e;obtain⟨a,b,d,h,p⟩:=r.frl s;exact .inl (.inl ⟨a,b,d,h,λl g=>q _ _ (.lst g (cut p))⟩)
 | tup c =>
  obtain rfl:=sI e;obtain⟨a,b,d,h,m,p⟩:=r.tup s;by_cases y:HT.sIx b.length 0 lo=0/\HT.sIx b.length b.length f=b.length
  ·refine .inr ⟨a,b,d,.inl (.inl h),y.1,y.2, ?_⟩
   have k:cutW c lo f=c:=by
    unfold cutW;rw[p.length,y.1,y.2,Et,Nat.sub_zero,<-p.length,Bs]
   rw[k] at q;subst d;exact q _ _ (.val (.tup m p))
  ·exact .inl (.inr ⟨a,b,d,.inl (.inl h),y,λl g=>q _ _ (.tup g (cut p))⟩)
 |_=>exact noSome e
noncomputable def gSl (a:GA) (lo b:GO):GE:=λen=>(a en).bind λp=>(lo p.1).bind λl=>(b l.1).bind λh=>(resA h.1 p.2).bind λw=>(oSl w l.2 h.2).bind λr=>Za (h.1,r)
theorem z4r {a:GA}{lo d:GO}{σ:St}{H:Hp}{Q:VK}(h:tE K (gSl a lo d) σ H Q):tSl (rSlB K) (tA K a) (tO K lo) (tO K d) σ H Q:=by
 nofun;obtain⟨F,pr,en,m,M,R,h,q⟩:=h;obtain⟨⟨g,C⟩,n,h⟩:=bS h;obtain⟨⟨e,l⟩,w,h⟩:=bS h;obtain⟨⟨i,u⟩,k,h⟩:=bS h;obtain⟨L,c,h⟩:=bS h;obtain⟨G,D,h⟩:=bS h;ac_rfl;cases h;refine⟨F,pr,en,g,C,R,n,λx P N o A r=>⟨x,pr,g,e,l,A,w,λp O f R2=>⟨p,pr,e,i,u,R2,k,λJ I s b=>?_⟩⟩⟩;refine yap b.sub ((r.mono (f.trans s)).repB b c) D λv j z=>?_;nofun;obtain⟨t,B,E,y⟩:=z.close b;ac_rfl;exact q t j v (o.trans (f.trans (s.trans B))) E y
end
structure ItOk (K:Zg) (F:Hp) (J:It) (ws:List W):Prop where
 go:∀i H,Same F H->i<ws.length->J.go i H
 stop:∀H,Same F H->J.stop ws.length H
 yld:∀i H x H',Same F H->i<ws.length->J.yld i H x H'->∃w,ws[i]?=Za w/\Out K F H (w,Zc) x H'
noncomputable def tI (K:Zg) (g:GL):TI:=λσ H R=>∃F pr en e w,Rel K F pr en σ H/\g en=Za (e,w)/\∀a b J,Same F a->Rel K a pr e σ b->ItOk K a J w->R J b
section
variable {K:Zg}{F H:Hp}
theorem zcg {F b:Hp}{a:Zh}{vs:List V}(s:Same F b)(h:SqT K F a vs):SqT K b a vs:=by
 rcases h with (h|⟨o,h⟩)|h
 ·exact .inl (.inl (s _ _ h))
 ·exact .inl (.inr ⟨o,s _ _ h⟩)
 ·exact .inr h
theorem zpu {a:Zh}{vs:List V}{ws:List W}(h:SqL K F a vs)(r:Reps K F ws vs):ItOk K F (Itl K a) ws where
 go:=λi H s b=>⟨vs,vs[i]'(by rw[<-r.length];exact b),s.seq h,by rw[Ae]⟩
 stop:=λH s=>⟨vs,s.seq h,by rw[r.length];exact Ag _⟩
 yld:=λi H x c s b y=>by
  obtain⟨e,y⟩:=y;subst e;obtain⟨w,e,q⟩:=r.getV (y vs (s.seq h));exact⟨w,e,.val q⟩
theorem ybb {a:Zh}{vs:List V}{ws:List W}(h:SqT K F a vs)(r:Reps K F ws vs):ItOk K F (Itt K a) ws where
 go:=λi H s b=>⟨vs,vs[i]'(by rw[<-r.length];exact b),zcg s h,by rw[Ae]⟩
 stop:=λH s=>⟨vs,zcg s h,by rw[r.length];exact Ag _⟩
 yld:=λi H x c s b y=>by
  obtain⟨e,y⟩:=y;subst e;obtain⟨w,e,q⟩:=r.getV (y vs (zcg s h));exact⟨w,e,.val q⟩
noncomputable def rngW (lo:Int) (n:Nat):List W:=(List.range n).map λk=>W.int (lo+(k:Nat))
theorem zrp (lo:Int)(n:Nat):ItOk K F (Itr lo n) (rngW lo n) where
 go:=λi H s h=>by unfold rngW at h;rw[Ad,Bi] at h;exact h
 stop:=λH s=>by unfold rngW;rw[Ad,Bi];exact Ag n
 yld:=λi H x a s h y=>by
  obtain⟨e,y⟩:=y;subst e y;unfold rngW at h ⊢;rw[Ad,Bi] at h;exact⟨_,by rw[Aj,Er h];rfl,.val (.int _)⟩
noncomputable def zhw (ws:List W) (k:Nat):List W:=match ws with
 |[]=>[]
 |w::ws=>.tup [.int k,w]::zhw ws (k+1)
theorem zcx:∀(w:List W) (k:Nat),(zhw w k).length=w.length
 |[],_=>rfl
 |_::w,k=>congrArg (· + 1) (zcx w (k+1))
theorem ze8:∀{ws:List W}{k i:Nat}{w:W},ws[i]?=Za w->(zhw ws k)[i]?=Za (.tup [.int (k+i:Nat),w])
 |[],_,_,_,e=>by simp at e
 |w::ws,k,0,_,e=>by simp at e;subst e;rfl
 | w::ws,k,i+1,u,e=>by
  have:=ze8 (ws:=ws) (k:=k+1) (i:=i) (w:=u) (by simpa using e);show (zhw ws (k+1))[i]?=_;rw[this];have:k+1+i=k+(i+1):=by omega
  rw[this]
theorem z4x {a:Zh}{vs:List V}{ws:List W}(h:SqL K F a vs)(r:Reps K F ws vs):ItOk K F (Ite K a) (zhw ws 0) where
 go:=λi H s b=>by rw[zcx] at b;exact⟨vs,vs[i]'(by rw[<-r.length];exact b),s.seq h,by rw[Ae]⟩
 stop:=λH s=>⟨vs,s.seq h,by rw[zcx,r.length];exact Ag _⟩
 yld:=λi H x f s b y=>by
  nofun;obtain⟨p,v,e,d,c,y⟩:=y;ac_rfl;subst e c;obtain⟨w,e,q⟩:=r.getV (y vs (s.seq h));refine⟨_,ze8 e,?_⟩;rw[Co];exact .tup d (.cons (.int _) (.cons q .nil))
theorem yb4 {a:Zh}{vs:List V}{ws:List W}(h:SqL K F a vs)(r:Reps K F ws vs):ItOk K F (Itv K a vs.length) ws.reverse where
 go:=λi H s b=>by rw[Fw,r.length] at b;exact⟨b,vs,s.seq h,rfl⟩
 stop:=λH s=>by rw[Fw,r.length];rfl
 yld:=λi H x c s b y=>by
  obtain⟨e,y⟩:=y;subst e;obtain⟨w,e,q⟩:=r.getV (y vs (s.seq h));refine⟨w,?_,.val q⟩;rw[Fw] at b;rw[List.getElem?_reverse b,r.length];exact e
end
section
variable {X:Cx}{tg:Zi}
noncomputable def iSeq (K:Zg) (t:TE):TI:=λσ H R=>t σ H λx b=>∃a,x=.ref a/\((∃c,SqL K b a c)/\R (Itl K a) b\/(∃c,SqT K b a c)/\R (Itt K a) b)
theorem z2u {l:Zi}{t:TE}(n:PE X l t):PI X tg l (iSeq X.K t):=λpins s σ H R I h =>
 thn (n pins s σ H _ I h) λv d ⟨x,g,c,r,a,e,k⟩=>by
  subst e;cases r;have fp:∀b∈[d.heap.objs.size],FpOk X pins g b:=λb j=>by
   rw[Az] at j;subst j;exact c.fpOk (Ag _) (c.hok.fresh (Ag _))
  rcases k with⟨⟨m,f⟩,q⟩|⟨⟨m,f⟩,q⟩
  ·obtain⟨i,_,p,_⟩:=c.list f;exact Dw p.isList ⟨_,_,_,_,g,rfl,c.kept (t':=d.toks) λb o e=>Ac _ e,zt9 a _,⟨_,Aq _ rfl,rfl,rfl⟩,fp,q⟩
  ·obtain⟨i,_,p,_⟩:=c.tuple f;exact Ge (show d.heap.IsTuple a i.toArray from p) ⟨_,_,_,_,g,rfl,c.kept (t':=d.toks) λb o e=>Ac _ e,zr7 a _,⟨_,Aq _ rfl,rfl,rfl⟩,fp,q⟩
end
noncomputable def zap (g:GE):GL:=λen=>(g en).bind λp=>(seqW p.2.1).bind λw=>Za (p.1,w)
noncomputable def zdk (i:Int):Bool:=decide (-(2^62)<=i)&&decide (i<2^62)
noncomputable def zbt (as:GAs):GL:=λen=>(as en).bind λp=>match zas p.1 p.2 with
 |some [.int j]=>if zdk j then Za (p.1,rngW 0 j.toNat) else Zb
 |_=>Zb
noncomputable def ztk (as:GAs):GL:=λen=>(as en).bind λp=>match zas p.1 p.2 with
 |some #v[1,18]=>if zdk i&&zdk j then Za (p.1,rngW i (j-i).toNat) else Zb
 |_=>Zb
noncomputable def gRev (g:GE):GL:=λen=>(g en).bind λp=>(seqL p.2.1).bind λw=>Za (p.1,w.reverse)
theorem zc3 {i:Int}(h:zdk i=Zd):-(2^62)<=i/\i<2^62:=by
 unfold zdk at h;rw[Ab] at h;exact⟨Ai h.1,Ai h.2⟩
section
variable {K:Zg}{σ:St}{H:Hp}
theorem zlf {g:GE}{R:It->Hp->Prop} (h:tI K (zap g) σ H R):iSeq K (tE K g) σ H R:=by
 nofun;obtain⟨F,pr,en,f,l,Re,h,q⟩:=h;obtain⟨⟨k,e⟩,i,h⟩:=bS h;obtain⟨u,a,h⟩:=bS h;ac_rfl;cases h;refine⟨F,pr,en,k,e,Re,i,λm d v s j z=>?_⟩;nofun;obtain⟨b,c,R2,y⟩:=z.freeze j;obtain⟨w,n⟩:=e;ac_rfl;cases w with
 | lst x=>obtain rfl:=sI a;cases y with
  |lst y r=>exact⟨_,rfl,.inl ⟨⟨_,SqL.of' (R2.sub _ _ y)⟩,q b d _ (s.trans c) R2 (zpu (SqL.of' y) r)⟩⟩
 | frl x=>obtain rfl:=sI a;cases y with
  |frl y r=>exact⟨_,rfl,.inl ⟨⟨_,R2.sub.seq y⟩,q b d _ (s.trans c) R2 (zpu y r)⟩⟩
 | tup x=>obtain rfl:=sI a;cases y with
  |tup y r=>exact⟨_,rfl,.inr ⟨⟨_,.inl (.inl (R2.sub _ _ y))⟩,q b d _ (s.trans c) R2 (ybb (.inl (.inl y)) r)⟩⟩
 |_=>cases a
theorem zvg {as:GAs}{R:It->Hp->Prop} (h:tI K (zbt as) σ H R):ybt (tAs K as) σ H R:=by
 nofun;obtain⟨F,pr,en,k,w,Re,h,q⟩:=h;obtain⟨⟨a,x⟩,d,h⟩:=bS h;ac_rfl;refine⟨F,pr,en,a,x,Re,d,λc i l s b f=>?_⟩;cases e:zas a x with
 |none=>simp only [e] at h;exact noSome h
 | some u =>
  have r:=f.repBs b e
  match u,e,r with
  | [.int j],e,r =>
   simp only [e] at h;split at h
   ·rename_i z
    cases h;obtain⟨v,a,g⟩:=r.one;subst a;exact⟨j,by rw[g.int],(zc3 z).1,(zc3 z).2,q c i _ s b (zrp 0 j.toNat)⟩
   ·exact noSome h
  |[],e,_=>simp only [e] at h;exact noSome h
  |.non::_,e,_=>simp only [e] at h;exact noSome h
  |.bl _::_,e,_=>simp only [e] at h;exact noSome h
  |.str _::_,e,_=>simp only [e] at h;exact noSome h
  |.tup _::_,e,_=>simp only [e] at h;exact noSome h
  |.lst _::_,e,_=>simp only [e] at h;exact noSome h
  |.frl _::_,e,_=>simp only [e] at h;exact noSome h
  |.dic::_,e,_=>simp only [e] at h;exact noSome h
  |.dct _ _::_,e,_=>simp only [e] at h;exact noSome h
  |.dcz _ _::_,e,_=>simp only [e] at h;exact noSome h
  |.int _::_::_,e,_=>simp only [e] at h;exact noSome h
theorem zvl {as:GAs}{R:It->Hp->Prop} (h:tI K (ztk as) σ H R):ya5 (tAs K as) σ H R:=by
 nofun;obtain⟨F,pr,en,d,w,Re,h,q⟩:=h;obtain⟨⟨a,x⟩,f,h⟩:=bS h;ac_rfl;refine⟨F,pr,en,a,x,Re,f,λm n p s c g=>?_⟩;cases e:zas a x with
 |none=>simp only [e] at h;exact noSome h
 | some u =>
  have r:=g.repBs c e;simp only [e] at h;split at h
  ·rename_i i j k
   obtain rfl:=sI k;split at h
   ·rename_i z
    rw[Ab] at z;cases h;nofun;obtain⟨v,o,a,l,b⟩:=r.two;ac_rfl;subst a;exact⟨i,j,by rw[l.int,b.int],⟨(zc3 z.1).1,(zc3 z.1).2,(zc3 z.2).1,(zc3 z.2).2⟩,q m n _ s c (zrp i (j-i).toNat)⟩
   ·exact noSome h
  ·exact noSome h
noncomputable def Itr3 (lo c:Int) (n:Nat):It:=⟨λi _=>i<n,λi H x a=>a=H/\x=.int (lo+i*c),λi _=>n<=i⟩
theorem zom {P:Program}{w:World}{K:Zg}{J:Zi}(it:Zh)(lo c:Int)(n:Nat):Turn P w K J (Itr3 lo c n) [it] it (λi h=>IsRangeIter h it (lo+(i:Nat)*c) ((n:Int)-(i:Nat)) c) where
 mem:=by simp
 obj:=λi h a b d=>by
  have e:b=it:=by simpa using d
  subst e;exact⟨_,a,λv z=>by
   have D:Data.fields _=Data.cell v:=z;cases D⟩
 keep:=λi h g a k=>k it (by simp) _ a
 item:=by
  intro X hP p hK q i pins s σ H E I j a l;subst hP p hK;obtain⟨x,m,B,f3,u,r⟩:=j it (by simp);have W:=Walks.range (prog:=X.prog) (w:=X.w) (I.ok.hd q) it lo c n;refine W.item i s _ _ l a λv g y C f G=>?_;obtain⟨t,rfl⟩:=C;have A:Inv X pins σ H { s with heap:=g,toks:=y }:=I.turned (λb o d e=>G b o (by simpa using d) e) x m f3 u r;exact⟨_,rfl,zwr (s:={ s with heap:=g,toks:=y }) (n := "range_iterator") f rfl rfl #v[0,9] ⟨.int (lo+i*c),H,A,⟨t,rfl⟩,⟨rfl,rfl⟩,f,λb d=>(j b d).1⟩⟩
 done:=by
  intro X hP p hK q i pins s σ H E I j a l;subst hP p hK;obtain⟨x,m,B,f3,u,r⟩:=j it (by simp);exact wpAny_pyNext_range_end (I.ok.hd q) a (by have:n<=i:=l;omega) λg F=>⟨rfl,I.turned (t':=s.toks) (λb o d e=>F b o d e) x m f3 u r⟩
 self:=λ_ _ _ _ _ a h=>wpAny_pyIter_rangeiter a h
noncomputable def rg3 (i j c:Int):Bool:=decide (c≠0)&&Builtin.Range.small i j c && !Builtin.divisionGoesByPylong (j-i) c
noncomputable def rn3 (i j c:Int):Nat:=(Builtin.Range.rangeSize i j c).toNat
noncomputable def yar (t:TA):TI:=λσ H R=>t σ H λb a=>∃i j c:Int,b=#v[6,19]/\rg3 i j c=Zd/\R (Itr3 i c (rn3 i j c)) a
theorem ztl {X:Cx}{O a b c:Zi}{v:TA}{p pos:Pos} (C:Gl X "range") (A:X.mg "range" = Zb) (B:PA X [a,b,c] v) (K:starEach [a,b,c] X.env=[(Zc,eval a X.env),(Zc,eval b X.env),(Zc,eval c X.env)]) (l:starEach [b,c] X.env=[(Zc,eval b X.env),(Zc,eval c X.env)]) :
  PI X O (.Call (.Name "range" p) [a,b,c] [] pos) (yar v):=by
 intro pins s σ H R I h;refine Call_ (zcs I C A boot_range (Bw (thn (B pos pins s σ H _ I h) λQ f ⟨P,w,D,J,E⟩=>?_) (by rw[K,l]) (by rw[l];rfl)));obtain⟨i,j,k,e,z,q⟩:=E;subst e;unfold rg3 at z;rw[Ab,Ab,Em] at z;obtain⟨⟨y,N⟩,F⟩:=z;cases J with
 | cons r m =>
  cases m with
  | cons x m =>
   cases m with
   | cons n m =>
    cases m;obtain ⟨t,rfl⟩:=r;obtain ⟨g,rfl⟩:=x;obtain ⟨d,rfl⟩:=n;refine call_range_3 (Ai y) ?_ (.inl F);refine wpAny_pyIter_range (IsRange.new ..) N ?_;have u:Inv X pins σ w { f with heap:=f.heap.push { cls:=.type "range",data:=.fields #[.int i t,.int j g,.int k d] },toks:=f.toks }:=D.kept λb o e=>Ac _ e;refine ⟨(f.heap.push { cls:=.type "range",data:=.fields #[.int i t,.int j g,.int k d] }).objs.size,[(f.heap.push { cls:=.type "range",data:=.fields #[.int i t,.int j g,.int k d] }).objs.size],_,_,w,rfl,
     u.kept (t':=f.toks) λb o e=>Ac _ e,zom _ i k (rn3 i j k),?_,λb L=>?_,q⟩
    ·have M:i+((0:Nat):Int)*k=i:=by simp
     have G:((rn3 i j k:Nat):Int)-((0:Nat):Int)=Builtin.Range.rangeSize i j k:=by unfold rn3;rw[<-PyProof.Rows.rangeSize_toNat];simp
     show IsRangeIter _ _ (i+((0:Nat):Int)*k) (((rn3 i j k:Nat):Int)-((0:Nat):Int)) k;rw[M,G];exact Aq _ rfl
    ·have e:b=(f.heap.push { cls:=.type "range", data:=.fields #[.int i t,.int j g, .int k d] }).objs.size:=by simpa using L
     subst e;exact u.fpOk (Ag _) (u.hok.fresh (Ag _))
noncomputable def zfy (i c:Int) (n:Nat):List W:=(List.range n).map λk:Nat=>W.int (i+k*c)
theorem zue (lo c:Int)(n:Nat){F:Hp}:ItOk K F (Itr3 lo c n) (zfy lo c n) where
 go:=λi H _ h=>by unfold zfy at h;rw[Ad,Bi] at h;exact h
 stop:=λH _=>by show n<=(zfy lo c n).length;unfold zfy;rw[Ad,Bi];exact Ag _
 yld:=λi H x a _ h y=>by
  obtain⟨rfl,rfl⟩:=y;unfold zfy at h ⊢;rw[Ad,Bi] at h;exact⟨.int (lo+i*c),by rw[Aj,Er h];rfl,.val (.int _)⟩
noncomputable def zyh (as:GAs):GL:=λen=>(as en).bind λp=>match zas p.1 p.2 with
 |some #v[6,19]=>if rg3 i j c then Za (p.1,zfy i c (rn3 i j c)) else Zb
 |_=>Zb
theorem zui {as:GAs}{R:It->Hp->Prop} (h:tI K (zyh as) σ H R):yar (tAs K as) σ H R:=by
 nofun;obtain⟨F,pr,en,g,w,Re,h,q⟩:=h;obtain⟨⟨f,x⟩,k,h⟩:=bS h;ac_rfl;refine⟨F,pr,en,f,x,Re,k,λo p v s d l=>?_⟩;cases e:zas f x with
 |none=>simp only [e] at h;exact noSome h
 | some u =>
  have r:=l.repBs d e;simp only [e] at h;split at h
  ·rename_i i j c m
   obtain rfl:=sI m;split at h
   ·rename_i z
    cases h;cases r with
    | cons n r =>
     cases r with
     | cons a r =>
      cases r with
      | cons b r =>
       cases r;exact⟨i,j,c,by rw[n.int,a.int,b.int],z,q o p _ s d (zue i c (rn3 i j c))⟩
   ·exact noSome h
  ·exact noSome h
theorem zog {F:Hp}{w:W}{ws:List W}{v:V} (y:Rep K F w v) (h:seqL w=Za ws):∃a b,v=.ref a/\SqL K F a b/\Reps K F ws b:=by
 cases w with
 | lst x=>obtain rfl:=sI h;cases y with
  |lst y r=>exact⟨_,_,rfl,SqL.of' y,r⟩
 | frl x=>obtain rfl:=sI h;cases y with
  |frl y r=>exact⟨_,_,rfl,y,r⟩
 |_=>cases h
theorem zzc {g:GE}{R:It->Hp->Prop}(h:tI K (gRev g) σ H R):iRev K (zds (tE K g) tNil) σ H R:=by
 nofun;obtain⟨F,pr,en,c,w,Re,h,q⟩:=h;obtain⟨⟨n,k⟩,d,h⟩:=bS h;obtain⟨u,l,h⟩:=bS h;ac_rfl;cases h;refine⟨F,pr,en,n,k,Re,d,λp o v s m z=>?_⟩;nofun;obtain⟨f,j,R2,y⟩:=z.freeze m;obtain⟨a,i,e,b,r⟩:=zog y l;ac_rfl;subst e;exact⟨a,i,rfl,R2.sub.seq b,q f o _ (s.trans j) R2 (yb4 b r)⟩
end
inductive Tg where
 |nm (i:Nat)
 |tp (is:List Nat)
 |nt (i:Nat) (js:List Nat)
noncomputable def setAll (mp:List Nat):List Nat->List W->En->Option En
 |[],[],en=>Za en
 |i::a,w::b,en=>if mp.contains i || !decide (i<en.length) then Zb else setAll mp a b (en.set i (#v[w,6]))
 |_,_,_=>Zb
noncomputable def tgSet (mp:List Nat):Tg->W->En->Option En
 |.nm i,w,en=>if mp.contains i || !decide (i<en.length) then Zb else Za (en.set i (#v[w,6]))
 |.tp b,.tup a,en=>setAll mp b a en
 |.tp b,.lst a,en=>setAll mp b a en
 |.nt i j,.tup [w,.tup a],en=>if mp.contains i || !decide (i<en.length) then Zb else setAll mp j a (en.set i (#v[w,6]))
 |_,_,_=>Zb
noncomputable def zim:List Nat->TGs
 |[]=>gNil
 |i::a=>zyq (zn3 i) (zim a)
noncomputable def zwp (K:Zg) (n:Nat) (t:TGs):TG:=λv σ H Q=>∃a x,v=.ref a/\(SqT K H a x\/SqL K H a x)/\x.length=n/\t x σ H Q
theorem zu8 {X:Cx}{es:List Zi}{k:Nat}{t:TGs}{n:Nat}{pos:Pos}(g:X.calm=Zd)(h:PGs X es t)(l:(assignEach es X.env).length=n)(d:(assignEach es X.env).findIdx? (·.1)=Zb):PG X (.Tuple es k pos) (zwp X.K n t):=by
 intro pins s σ H v u Q I r f;nofun;obtain⟨a,x,q,c,j,f⟩:=f;ac_rfl;rcases c with c|c
 ·exact yao g h l d pins s σ H v u Q I r ⟨a,x,q,c,j,f⟩
 ·subst q;cases r;nofun;obtain⟨i,p,⟨o,m,y,B,_,D⟩,E⟩:=I.list c;ac_rfl;rw[assign_Tuple];refine Aa (Fp ?_);unfold unpack;have C:(assignEach es X.env).length=i.toArray.size:=by rw[Ak,l,<-j,p.length]
  rw[C,d];refine Aa (Dk (PySem.W.kun_itemsOf (I.ok.hd g) ⟨o,y,B,m,D⟩ λA z=>?_));have w:Inv X pins σ H { s with heap:=A }:=I.kept (t':=s.toks) λb o e=>z b o (Bg (Ar e)) e;exact h pins _ σ H x _ Q w (by simpa using p) f
noncomputable def TGof (K:Zg):Tg->TG
 |.nm i=>zn3 i
 |.tp a=>zwp K a.length (zim a)
 |.nt i j=>zwp K 2 (zyq (zn3 i) (zyq (zwp K j.length (zim j)) gNil))
noncomputable def Keep (mp:List Nat) (σ a:St):Prop:=∀i∈mp,a[i]?=σ[i]?
theorem Keep.refl (mp:List Nat)(σ:St):Keep mp σ σ:=λ_ _=>rfl
theorem Keep.trans {mp:List Nat}{σ c d:St}(a:Keep mp σ c)(b:Keep mp c d):Keep mp σ d:=λi h=>(b i h).trans (a i h)
theorem Keep.set {mp:List Nat}{σ:St}{i:Nat}(h:mp.contains i=Zc)(v:Option V):Keep mp σ (σ.set i v):=λj a=>by
 have:i≠j:=λe=>by subst e;rw[Cn.mpr a] at h;cases h
 exact Cp this
section
variable {K:Zg}{F H:Hp}{pr:Prt}
theorem zei {mp:List Nat}{Q:St->Hp->Prop}:∀{d:List Nat}{c:List W}{b:List V}{en e:En}{σ:St},Rel K F pr en σ H->Reps K F c b->setAll mp d c en=Za e->(∀a,Rel K F pr e a H->Keep mp σ a->Q a H)->zim d b σ H Q
 |[],[],_,en,e,σ,R,.nil,h,q=>by obtain rfl:=sI h;exact⟨rfl,q σ R (.refl _ _)⟩
 | i::d,w::c,_,en,e,σ,R,.cons (v:=v) (vs:=b) h0 r,h,q=>by
  unfold setAll at h;split at h
  ·exact noSome h
  ·rename_i z
   rw[Cd,not_or,Bn,Bn,Dc] at z;refine⟨v,b,rfl,?_⟩;exact zei (R.store (r:=(w,Zc)) (i:=i) h0 (Ai z.2)) r h λa f k=>q a f ((Keep.set z.1 _).trans k)
 |[],_::_,_,_,_,_,_,_,h,_=>by exact noSome h
 |_::_,[],_,_,_,_,_,_,h,_=>by exact noSome h
theorem zwe {mp:List Nat}:∀(b:List Nat) (a:List W) (en e:En),setAll mp b a en=Za e->b.length=a.length:=by
 intro b
 induction b with
 | nil=>intro a en e h;cases a with
  |nil=>rfl
  |cons _ _=>exact noSome h
 | cons i b c=>intro a en e h;cases a with
  |nil=>exact noSome h
  | cons w a =>
   unfold setAll at h;split at h
   ·exact noSome h
   ·exact congrArg (· + 1) (c _ _ _ h)
theorem zxn {mp i:List Nat}{ws:List W}{v:V}{en en':En}{σ:St}{Q:St->Hp->Prop}(R:Rel K F pr en σ H)(b:Rep K F (.tup ws) v)(h:setAll mp i ws en=Za en')(q:∀a,Rel K F pr en' a H->Keep mp σ a->Q a H):zwp K i.length (zim i) v σ H Q:=by
 cases b with
 |tup c r=>exact⟨_,_,rfl,.inl (.inl (.inl (R.sub _ _ c))),by rw[zwe i ws en en' h,r.length],zei R r h q⟩
theorem zo7 {mp:List Nat}{T:Tg}{w:W}{v:V}{en en':En}{σ:St}{Q:St->Hp->Prop} (R:Rel K F pr en σ H) (b:Rep K F w v) (h:tgSet mp T w en=Za en') (q:∀a,Rel K F pr en' a H->Keep mp σ a->Q a H):TGof K T v σ H Q:=by
 cases T with
 | nm i =>
  unfold tgSet at h;simp only at h;split at h
  ·exact noSome h
  ·rename_i z
   rw[Cd,not_or,Bn,Bn,Dc] at z;obtain rfl:=sI h;exact q _ (R.store (r:=(w,Zc)) b (Ai z.2)) (Keep.set z.1 _)
 | tp j =>
  cases w with
  |tup d=>exact zxn R b h q
  | lst d =>
   cases b with
   | lst c r =>
    exact⟨_,_,rfl,.inr (SqL.of' (R.sub _ _ c)),by rw[zwe j d en en' h,r.length],zei R r h q⟩
  |_=>exact noSome h
 | nt i o =>
  unfold tgSet at h;split at h
  ·rename_i e;cases e
  ·rename_i e;cases e
  ·rename_i e;cases e
  ·rename_i p l u s f
   cases f;cases b with
   | tup c r =>
    cases r with
    | cons g r =>
     cases r with
     | cons m r =>
      cases r;split at h
      ·exact noSome h
      ·rename_i z
       rw[Cd,not_or,Bn,Bn,Dc] at z;exact⟨_,_,rfl,.inl (.inl (.inl (R.sub _ _ c))),rfl,_,_,rfl,_,_,rfl,zxn (R.store (r:=(u,Zc)) (i:=i) g (Ai z.2)) m h λa n k=>⟨rfl,q a n ((Keep.set z.1 _).trans k)⟩⟩
  ·exact noSome h
end
inductive Fl where
 |nx|ret (r:W×Bool)|brk|cnt
noncomputable abbrev GS:=En->Option (En×Fl)
noncomputable def zyw (K:Zg) (mp:List Nat) (F:Hp) (pr:Prt) (σ:St) (D:Ends) (en':En):Fl->Prop
 |.nx=>∀b a H,Same F b->Rel K b pr en' a H->Keep mp σ a->D.nx a H
 |.brk=>∀b a H,Same F b->Rel K b pr en' a H->Keep mp σ a->D.bk a H
 |.cnt=>∀b a H,Same F b->Rel K b pr en' a H->Keep mp σ a->D.ct a H
 |.ret r=>∀b a H v,Same F b->Rel K b pr en' a H->Keep mp σ a->Res K b H pr en' a r v->D.rt v H
noncomputable def tS (K:Zg) (mp:List Nat) (g:GS):TS:=λD σ H=>∃F pr en e f,Rel K F pr en σ H/\g en=Za (e,f)/\zyw K mp F pr σ D e f
theorem zyw.step {K:Zg}{mp:List Nat}{F g:Hp}{pr:Prt}{σ e:St}{D:Ends}{en':En}{f:Fl}(s:Same F g)(k:Keep mp σ e)(h:zyw K mp F pr σ D en' f):zyw K mp g pr e D en' f:=by
 cases f with
 |nx=>exact λd a H c R b=>h d a H (s.trans c) R (k.trans b)
 |brk=>exact λd a H c R b=>h d a H (s.trans c) R (k.trans b)
 |cnt=>exact λd a H c R b=>h d a H (s.trans c) R (k.trans b)
 |ret r=>exact λd a H v c R b z=>h d a H v (s.trans c) R (k.trans b) z
noncomputable def zb6:GS:=λen=>Za (en,.nx)
noncomputable def gBrk:GS:=λen=>Za (en,.brk)
noncomputable def gCnt:GS:=λen=>Za (en,.cnt)
noncomputable def gSeq (a b:GS):GS:=λen=>match a en with
 |some (e,.nx)=>b e
 |some (e,f)=>Za (e,f)
 |none=>Zb
noncomputable def gRet (g:GE):GS:=λen=>(g en).bind λp=>Za (p.1,.ret p.2)
noncomputable def ycp:GS:=λen=>Za (en,.ret (.non,Zc))
noncomputable def gIfS (c:GT) (a b:GS):GS:=λen=>match c en with
 |#v[e,5]=>a e
 |#v[e,6]=>b e
 |none=>Zb
noncomputable def zc2 (g:GE):GS:=λen=>(g en).bind λp=>Za (p.1,.nx)
noncomputable def gSet (mp:List Nat) (i:Nat) (g:GE):GS:=λen=>(g en).bind λp=>if mp.contains i || !decide (i<p.1.length) then Zb else Za (p.1.set i (Za p.2),.nx)
noncomputable def gAsg (mp:List Nat) (T:Tg) (g:GE):GS:=λen=>(g en).bind λp=>(tgSet mp T p.2.1 p.1).bind λe=>Za (e,.nx)
section
variable {K:Zg}{mp:List Nat}{D:Ends}{σ:St}{H:Hp}
theorem zlo (h:tS K mp zb6 D σ H):z5h D σ H:=by
 obtain⟨F,pr,en,e,f,R,h,q⟩:=h;cases h;exact q F σ H (.refl F) R (.refl _ _)
theorem zz7 {a b:GS} (h:tS K mp (gSeq a b) D σ H):tSeq (tS K mp a) (tS K mp b) D σ H:=by
 nofun;obtain⟨F,pr,en,c,j,R,h,q⟩:=h;ac_rfl;unfold gSeq at h;cases e:a en with
 |none=>simp only [e] at h;exact noSome h
 | some p =>
  obtain⟨d,f⟩:=p;refine⟨F,pr,en,d,f,R,e,?_⟩;cases f with
  | nx =>
   simp only [e] at h;exact λi g m s l k=>⟨i,pr,d,c,j,l,h,q.step s k⟩
  |brk=>simp only [e] at h;cases h;exact q
  |cnt=>simp only [e] at h;cases h;exact q
  |ret r=>simp only [e] at h;cases h;exact q
theorem zpr {g:GE}(h:tS K mp (gRet g) D σ H):tRet (tE K g) D σ H:=by
 nofun;obtain⟨F,pr,en,f,i,R,h,q⟩:=h;obtain⟨⟨e,r⟩,a,h⟩:=bS h;ac_rfl;cases h;exact⟨F,pr,en,e,r,R,a,λc b v s d z=>q c σ b v s d (.refl _ _) z⟩
theorem z1t {c:GT}{a b:GS} (h:tS K mp (gIfS c a b) D σ H):tIfS (tT K c) (tS K mp a) (tS K mp b) D σ H:=by
 nofun;obtain⟨F,pr,en,f,k,R,h,q⟩:=h;ac_rfl;unfold gIfS at h;cases e:c en with
 |none=>simp only [e] at h;exact noSome h
 | some p =>
  obtain⟨g,d⟩:=p;refine⟨F,pr,en,g,d,R,e,λi l s j=>?_⟩;cases d with
  |true=>simp only [e] at h;exact iteT ⟨i,pr,g,f,k,j,h,q.step s (.refl _ _)⟩
  |false=>simp only [e] at h;exact iteF ⟨i,pr,g,f,k,j,h,q.step s (.refl _ _)⟩
theorem zw1 {g:GE}(h:tS K mp (zc2 g) D σ H):yb3 (tE K g) D σ H:=by
 nofun;obtain⟨F,pr,en,f,i,R,h,q⟩:=h;obtain⟨⟨e,r⟩,a,h⟩:=bS h;ac_rfl;cases h;exact⟨F,pr,en,e,r,R,a,λc b v s d z=>q c σ b s d (.refl _ _)⟩
theorem zj7 {i:Nat}{g:GE}(h:tS K mp (gSet mp i g) D σ H):tAsg (tE K g) (zn3 i) D σ H:=by
 nofun;obtain⟨F,pr,en,f,j,R,h,q⟩:=h;obtain⟨⟨e,r⟩,a,h⟩:=bS h;ac_rfl;split at h
 ·exact noSome h
 ·rename_i z;rw[Cd,not_or,Bn,Bn,Dc] at z;cases h;exact⟨F,pr,en,e,r,R,a,λc b v s d y=>q c _ b s (d.store y (Ai z.2)) (Keep.set z.1 _)⟩
theorem zy2 {T:Tg}{g:GE}(h:tS K mp (gAsg mp T g) D σ H):tAsg (tE K g) (TGof K T) D σ H:=by
 nofun;obtain⟨F,pr,en,m,p,R,h,q⟩:=h;obtain⟨⟨i,r⟩,c,h⟩:=bS h;obtain⟨o,b,h⟩:=bS h;ac_rfl;cases h;refine⟨F,pr,en,i,r,R,c,λn j v s e y=>?_⟩;nofun;obtain⟨d,f,R2,z⟩:=y.freeze e;ac_rfl;exact zo7 R2 z b λa l k=>q d a j (s.trans f) l k
noncomputable def gPar (mp:List Nat) (i j:Nat) (a b:GE):GS:=λen=>(a en).bind λp=>(b p.1).bind λq=>if mp.contains i||mp.contains j || !decide (i<q.1.length) || !decide (j<q.1.length) then Zb else Za ((q.1.set i (#v[p.2.1,6])).set j (Za q.2),.nx)
noncomputable def za9 (i:Nat) (k:GE) (g:GE):GS:=λen=>(g en).bind λp=>match p.1[i]? with
 | some (Za _)=>(k p.1).bind λq=>match q.2,q.1[i]? with
  |(.int n,_),Za (#v[w,2])=>(ixN w.length n).bind λj=>Za (q.1.set i (#v[(w.set j p.2.1),2]),.nx)
  |_,_=>Zb
 |_=>Zb
theorem zr0 {i:Nat}{k g:GE}(h:tS K mp (za9 i k g) D σ H):tAsg (tE K g) (gSub (tVar i) (tE K k) ybv) D σ H:=by
 obtain⟨F,pr,en,p,fl,R,h,q⟩:=h;obtain⟨⟨o,L⟩,r,h⟩:=bS h;refine⟨F,pr,en,o,L,R,r,λY Z v1 t N y=>?_⟩;obtain⟨u,I,R2,P⟩:=y.freeze N;split at h
 ·rename_i O d;obtain⟨⟨C,J⟩,B,h⟩:=bS h;obtain⟨V,X⟩:=O;obtain⟨v,b⟩:=R2.has d;refine⟨v,b,u,pr,o,C,J,R2,B,λG T S s f M=>?_⟩;split at h
  ·rename_i n w W c e;simp only at c;subst c;obtain⟨j,A,h⟩:=bS h;cases h;obtain⟨a,z,E,x,l,Q,U,m⟩:=f.ownL e;cases x;rw[b] at l;cases l;refine⟨a,z,n,j,rfl,M.isInt,Q,by rw[<-m.length];exact A,?_⟩;exact q G σ _ (t.trans (I.trans s)) (f.change e b (m.set (P.mono s) j)) (.refl _ _)
  ·exact noSome h
 ·exact noSome h
noncomputable def gApp (i:Nat) (g:GE):GE:=λen=>match en[i]? with
 | some (Za (.lst _,Zd))=>(g en).bind λp=>match p.1[i]? with
  |some (#v[w,2])=>if w.length<sizeLine then Za (p.1.set i (#v[(w++[p.2.1]),2]),(.non,Zc)) else Zb
  |_=>Zb
 |_=>Zb
theorem z0h {i:Nat}{g:GE}{Q:VK}(h:tE K (gApp i g) σ H Q):tBM K "list" zuh (tVar i) (zds (tE K g) tNil) σ H Q:=by
 nofun;obtain⟨F,pr,en,j,r,R,h,q⟩:=h;ac_rfl;unfold gApp at h;split at h
 ·rename_i L d;nofun;obtain⟨a,m,x,E,c,o,G,N⟩:=R.ownL d;obtain⟨⟨B,u⟩,k,h⟩:=bS h;ac_rfl;refine⟨.ref a,c,.inl ⟨rfl,m,SqL.of' o⟩,F,pr,en,B,u,R,k,λO P D s A y=>?_⟩;nofun;obtain⟨l,t,R2,C⟩:=y.freeze A;ac_rfl;split at h
  ·rename_i M b;split at h
   ·rename_i f;cases h;nofun;obtain⟨I,v,w,n,e,z,J,p⟩:=R2.ownL b;ac_rfl;cases n;rw[c] at e;cases e;refine⟨a,v,D,rfl,rfl,z,by rw[<-p.length];exact f,?_⟩;exact q l _ _ (s.trans t) (R2.change b c (p.append (.cons C .nil))) .non
   ·exact noSome h
  ·exact noSome h
 ·exact noSome h
noncomputable def gExt (i:Nat) (g:GE):GE:=λen=>match en[i]? with
 | some (Za (.lst _,Zd))=>(g en).bind λp=>match p.2.1,p.1[i]? with
  |.lst u,Za (#v[w,2])=>if w.length+u.length<=sizeLine then Za (p.1.set i (#v[(w++u),2]),(.non,Zc)) else Zb
  |_,_=>Zb
 |_=>Zb
noncomputable def gAug (mp:List Nat) (o:O2) (i:Nat) (g:GA):GS:=λen=>match en[i]? with
 |some (#v[w,6])=>(g en).bind λp=>(resA p.1 p.2).bind λu=>(o w u).bind λr=>if mp.contains i || !decide (i<p.1.length) then Zb else Za (p.1.set i (Za r),.nx)
 |_=>Zb
theorem zp1 {i:Nat}{o:O2}{r:R2}{g:GA}(t:OpS K r o)(h:tS K mp (gAug mp o i g) D σ H):tAug i (tA K g) r D σ H:=by
 nofun;obtain⟨F,pr,en,e,M,R,h,q⟩:=h;ac_rfl;unfold gAug at h;split at h
 ·rename_i w k;nofun;obtain⟨v,m,a⟩:=R.val i w k;obtain⟨⟨B,G⟩,j,h⟩:=bS h;obtain⟨u,p,h⟩:=bS h;obtain⟨A,I,h⟩:=bS h;ac_rfl;split at h
  ·exact noSome h
  ·rename_i z;rw[Cd,not_or,Bn,Bn,Dc] at z;cases h;refine⟨v,m,F,pr,en,B,G,R,j,λx E J s b l=>?_⟩;refine t x E w u v J A _ b.sub (.inl (a.mono s)) (l.repB b p) I λL C d=>?_;nofun;obtain⟨n,c,f,y⟩:=d.close b;ac_rfl;exact q n _ C (s.trans c) (f.store y (Ai z.2)) (Keep.set z.1 _)
 ·exact noSome h
theorem zoh {M:Model}{A:Around}{E:Ze->Zf->Prop}{s:Zf}{a b:Ze}{T id:String}{Q:Ze->Zf->Prop} (i:s.TypeIs a T) (k:s.TypeIs b T)
  (g:typeLookup (.type T) (dunderI "add")=pure (Za (.builtin id))) (e:isSeqSlotId id=Zd) (h:fillsNumberSlot (.type T) "add" = pure Zc)
  (j:wpAny M A (call (.builtin id) [a,b]) Q E s):wpAny M A (inplaceOp .Add a b) Q E s:=by
 unfold inplaceOp;refine Dk ?_;have c:fillsInplaceSlot (.type T) "add" (Operator.Add==.Add)=pure Zc:=by
  unfold fillsInplaceSlot;show (typeLookup (.type T) (dunderI "add")>>=λf=>pure (f.isSome && !isSeqSlot f))=pure Zc;rw[g,Gu];show pure (Zd && !isSeqSlotId id)=pure Zc;rw[e];rfl
 have d:seqSlot? (.type T) (dunderI "add")=pure (Za (.builtin id)):=by
  unfold seqSlot?;rw[g,Gu];show (if (!isSeqSlotId id)=Zd then _ else _)=_;rw[e];rfl
 refine Aa (wpAny_typeOf i (Aa (wpAny_of_eq c ?_)));show wpAny M A (if Zc=Zd then _ else _) Q E s;rw[if_neg At];refine Aa (wpAny_binaryOp1_none (nm := "add") i k h ?_);refine Aa (wpAny_of_eq d ?_);exact Aa (Dh j)
noncomputable def z63:R2:=λx y H Q=>∃l b a z,x=.ref l/\y=.ref b/\H l=Za (.lst a)/\H b=Za (.lst z)/\a.length+z.length<=sizeLine/\Q (.ref l) (upd H l (.lst (a++z)))
theorem z5n {X:Cx}:PIp X .Add z63:=by
 intro pins s σ H x y v u Q I j m h;obtain⟨l,b,w,C,rfl,rfl,g,k,A,q⟩:=h;cases j;cases m;obtain⟨z,a,n,r,B,e⟩:=I.lstM g;obtain⟨D,i,p,o,t,f⟩:=I.lstM k;have d:a.toArray.size+i.toArray.size<=sizeLine:=by rw[Ak,Ak];omega
 have c:¬ (!a.toArray.isEmpty&&Builtin.List.listTooLong (a.toArray.size+i.toArray.size))=Zd:=by
  rw[zi0 d,Hh];exact At
 refine zoh (T := "list") (id := "list.__iadd__") ⟨_,e,rfl⟩ ⟨_,f,rfl⟩ F.slot_list_iadd.lookup #v[0,0,7] noFill_list_add ?_;refine Ho F.slot_list_iadd ⟨_,e,rfl⟩ F.entry_list_iadd (F.args_list_iadd_2 _ _)
  (AutoSeq1.list___iadd___list_list_0 l a.toArray n b i.toArray p c (by rw[Ak];omega) #v[]) ⟨e,f,?_⟩
 refine⟨.ref l,_,I.lset (its':=a++i) g e (by simp) (r.append o) ?_,rfl,q⟩;rw[Bb];omega
noncomputable def z72 (mp:List Nat) (i:Nat) (g:GE):GS:=λen=>match en[i]? with
 | some (Za (.lst _,Zd))=>(g en).bind λp=>match p.2.1,p.1[i]? with
  |.lst u,Za (#v[w,2])=>if w.length+u.length<=sizeLine/\mp.contains i=Zc then Za (p.1.set i (#v[(w++u),2]),.nx) else Zb
  |_,_=>Zb
 |_=>Zb
theorem zwz {i:Nat}{g:GE} (h:tS K mp (z72 mp i g) D σ H):tAug i (tE K g) z63 D σ H:=by
 nofun;obtain⟨F,pr,en,n,Y,R,h,q⟩:=h;ac_rfl;unfold z72 at h;split at h
 ·rename_i Q f
  nofun;obtain⟨a,M,A,J,d,O,L,T⟩:=R.ownL f;obtain⟨⟨I,C,m⟩,o,h⟩:=bS h;ac_rfl;refine⟨.ref a,d,F,pr,en,I,(C,m),R,o,λW X Z s G y=>?_⟩;nofun;obtain⟨t,z,R2,x⟩:=y.freeze G;ac_rfl;split at h
  ·rename_i U S c b
   simp only at c x;subst c;split at h
   ·rename_i l
    cases h;nofun;obtain⟨N,v,w,u,j,B,P,p⟩:=R2.ownL b;ac_rfl;cases u;rw[d] at j;cases j;cases x with
    | lst E r =>
     refine ⟨a,_,v,_,rfl,rfl,B,R2.sub _ _ E,by rw [<-p.length,<-r.length];exact l.1,?_⟩;have e:σ.set i (Za (V.ref a))=σ:=by
      obtain⟨k,e⟩:=Af.mp d;rw[<-e];exact List.set_getElem_self k
     show D.nx (σ.set i (Za (V.ref a))) _;rw[e];exact q t σ _ (s.trans z) (R2.change b d (p.append r)) (.refl _ _)
   ·exact noSome h
  ·exact noSome h
 ·exact noSome h
noncomputable def zmf (mp:List Nat) (T:Tg) (body:GS):List W->En->Option (En×Fl)
 |[],en=>Za (en,.nx)
 | w::a,en=>(tgSet mp T w en).bind λb=>match body b with
  |some (e,.nx)=>zmf mp T body a e
  |some (e,.cnt)=>zmf mp T body a e
  |some (e,.brk)=>Za (e,.nx)
  |some (e,.ret r)=>Za (e,.ret r)
  |none=>Zb
noncomputable def gFor (mp:List Nat) (T:Tg) (it:GL) (body:GS):GS:=λen=>(it en).bind λp=>zmf mp T body p.2 p.1
theorem zyx {T:Tg}{it:GL}{body:GS} (h:tS K mp (gFor mp T it body) D σ H):tFor (tI K it) (TGof K T) (tS K mp body) D σ H:=by
 nofun;obtain⟨F,pr,en,u,Z,R,h,q⟩:=h;obtain⟨⟨Y,b⟩,h1,h⟩:=bS h;ac_rfl;refine⟨F,pr,en,Y,b,R,h1,λL H1 J P R1 ok=>?_⟩;refine⟨λi m f n=>m=b.length-i/\i<=b.length/\∃O M,Same L O/\Rel K O pr M f n/\Keep mp σ f/\zmf mp T body (b.drop i) M=Za (u,Z),⟨_,rfl,Ch _,L,Y,.refl _,R1,.refl _ _,by simpa using h⟩,?_⟩;rintro i m f n ⟨rfl,hi,O,M,o,A,B,a⟩;by_cases d:i<b.length
 ·refine .inr ⟨ok.go i n (o.trans A.sub) d, ?_⟩
  have hd:b.drop i=b[i]::b.drop (i+1):=(Cs d);rw[hd] at a;obtain⟨W,h2,a⟩:=bS (show (tgSet mp T b[i] M).bind _=_ from a);refine⟨λl N=>∃E C,Same L E/\Rel K E pr C l N/\Keep mp σ l/\zmf mp T body (b.drop (i+1)) C=Za (u,Z),?_,?_⟩
  ·rintro l N ⟨E,C,s2,R2,k2,S⟩
   exact⟨b.length-(i+1),by omega,rfl,d,E,C,s2,R2,k2,S⟩
  ·intro x N y
   obtain⟨w,V,out⟩:=ok.yld i n x N (o.trans A.sub) d y;rw[Ae d] at V;obtain rfl:=sI V;nofun;obtain⟨X,s3,R3,z⟩:=(out.mono o).close A;ac_rfl;refine zo7 (w:=b[i]) R3 z h2 λσ3 R4 I=>?_;cases eb:body W with
   |none=>simp only [eb] at a;exact noSome a
   | some p =>
    obtain⟨Q,U⟩:=p;refine⟨X,pr,W,Q,U,R4,eb,?_⟩;have G:Same L X:=o.trans s3;cases U with
    | nx =>
     simp only [eb] at a;exact λg c t s j k=>⟨g,Q,G.trans s,j,(B.trans I).trans k,a⟩
    | cnt =>
     simp only [eb] at a;exact λg c t s j k=>⟨g,Q,G.trans s,j,(B.trans I).trans k,a⟩
    | brk =>
     simp only [eb] at a;cases a;exact λg c t s j k=>q g c t (P.trans (G.trans s)) j ((B.trans I).trans k)
    | ret r =>
     simp only [eb] at a;cases a;exact λg c t v s j k z=>q g c t v (P.trans (G.trans s)) j ((B.trans I).trans k) z
 ·have e:i=b.length:=by omega
  subst e;rw[List.drop_length] at a;cases a;exact .inl ⟨ok.stop n (o.trans A.sub),q O f n (P.trans o) A B⟩
noncomputable def zdv (c:GT) (body:GS):Nat->GS
 |0,_=>Zb
 | n+1,en=>match c en with
  | some (a,Zd)=>match body a with
   |some (e,.nx)=>zdv c body n e
   |some (e,.cnt)=>zdv c body n e
   |some (e,.brk)=>Za (e,.nx)
   |some (e,.ret r)=>Za (e,.ret r)
   |none=>Zb
  |#v[a,6]=>Za (a,.nx)
  |none=>Zb
theorem zrr {n:Nat}{c:GT}{body:GS} (h:tS K mp (zdv c body n) D σ H):z3b (tT K c) (tS K mp body) D σ H:=by
 nofun;obtain⟨F,pr,en,l,N,R,h,q⟩:=h;ac_rfl;refine⟨λm e C=>∃w o,Same F w/\Rel K w pr o e C/\Keep mp σ e/\zdv c body m o=Za (l,N),⟨n,F,en,.refl _,R,.refl _ _,h⟩,?_⟩;rintro m e C ⟨w,o,J,O,t,a⟩;cases m with
 |zero=>exact noSome a
 | succ m =>
  unfold zdv at a;cases ec:c o with
  |none=>simp only [ec] at a;exact noSome a
  | some p =>
   obtain⟨A,b⟩:=p;refine⟨w,pr,o,A,b,O,ec,λy P E L=>?_⟩;cases b with
   | false =>
    simp only [ec] at a;cases a;exact iteF (q y e P (J.trans E) L t)
   | true =>
    simp only [ec] at a;refine iteT ⟨λi M=>∃G B,Same F G/\Rel K G pr B i M/\Keep mp σ i/\zdv c body m B=Za (l,N),λi M z=>⟨m,Fs m,z⟩,?_⟩;cases eb:body A with
    |none=>simp only [eb] at a;exact noSome a
    | some p =>
     obtain⟨x,I⟩:=p;refine⟨y,pr,A,x,I,L,eb,?_⟩;have u:Same F y:=J.trans E;cases I with
     | nx =>
      simp only [eb] at a;exact λf d j s g k=>⟨f,x,u.trans s,g,t.trans k,a⟩
     | cnt =>
      simp only [eb] at a;exact λf d j s g k=>⟨f,x,u.trans s,g,t.trans k,a⟩
     | brk =>
      simp only [eb] at a;cases a;exact λf d j s g k=>q f d j (u.trans s) g (t.trans k)
     | ret r =>
      simp only [eb] at a;cases a;exact λf d j v s g k z=>q f d j v (u.trans s) g (t.trans k) z
end
section
variable {X:Cx}
end
section
variable {K:Zg}{σ:St}{H:Hp}
noncomputable def intW:W->Option Int
 |.int k=>Za k
 |_=>Zb
end
section
variable {prog:Program}{w:World}{A:Around}{E:Ze->Zf->Prop}{s:Zf}{it d:Zh}{o:Obj}{es:Array DictEntry}{i ep:Nat}
end
section
variable {X:Cx}{tg:Zi}
end
noncomputable def yce:Key->W
 |.inl i=>.int i
 |.inr x=>.str x
noncomputable def dkW:DKey->W
 |.inl k=>yce k
 |.inr a=>.tup (a.map yce)
section
variable {K:Zg}{F F' H:Hp}{pr:Prt}{en:En}{σ:St}
end
theorem Rel.drop {K:Zg}{F H:Hp}{pr:Prt}{en:En}{σ:St}(R:Rel K F pr en σ H){i:Nat}{w:W}(e:en[i]?=Za (#v[w,5])):∃v,σ[i]?=Za (Za v)/\Rel K F pr (en.set i Zb) σ H/\Res K F H pr (en.set i Zb) σ (w,Zd) v:=by
 have f:i<en.length:=(Af.mp e).1;nofun;obtain⟨a,m,l,d,c,t,p,s⟩:=R.own i w e;ac_rfl;have g:∀(j:Nat) (x:W×Bool),(en.set i Zb)[j]?=Za (Za x)->j≠i/\en[j]?=Za (Za x):=λj x h=>by
  rcases set_cases f h with⟨_,q⟩|z
  ·cases q
  ·exact z
 refine⟨_,c,⟨by rw[Cz];exact R.len,R.sub,λj u q=>R.val j u (g j _ q).2,λj u q=>R.own j u (g j _ q).2,λj k b u n q r=>R.inj j k b u n (g j _ q).2 (g k _ r).2,λb o q=>⟨(R.prt b o q).1,(R.prt b o q).2.1,λj u z=>(R.prt b o q).2.2 j u (g j _ z).2⟩,R.tb⟩,a,m,l,d,rfl,t,p,s,λj u q z=>?_,λb o q z=>?_⟩
 ·exact (g j _ q).1 (R.inj j i a _ _ (g j _ q).2 e z c)
 ·subst z;exact (R.prt b o q).2.2 i w e c
section
variable {prog:Program}{w:World}{A:Around}{E:Ze->Zf->Prop}{s:Zf}{d:Zh}{o:Obj}{es:Array DictEntry}{ep:Nat}
end
noncomputable abbrev Cap:=List (Option Nat)
noncomputable def zej (cap:Cap) (en:En):En:=cap.map λo=>match o with
 |some i=>(en[i]?).getD Zb
 |none=>Zb
noncomputable def zav (cap:Cap) (i:Nat):Option Nat:=cap.findIdx? (· == Za i)
noncomputable def zb0 (cap:Cap):Bool:=(List.range cap.length).all λj=>match cap[j]? with
 |some (Za i)=>zav cap i==Za j
 |_=>Zd
noncomputable def capKeep (cap:Cap):List Nat:=(List.range cap.length).filter λj=>match cap[j]? with
 |some (Za _)=>Zd
 |_=>Zc
noncomputable def zau (cap:Cap) (en c:En):En:=en.mapIdx λi x=>match zav cap i with
 |some j=>(c[j]?).getD Zb
 |none=>x
theorem zbg {cap:Cap}{i j:Nat}(h:zav cap i=Za j):cap[j]?=Za (Za i):=by
 unfold zav at h;obtain⟨a,b,_⟩:=List.findIdx?_eq_some_iff_getElem.mp h;rw[Ae a];have:cap[j]=Za i:=by simpa using b
 rw[this]
theorem zc0 {cap:Cap}{i:Nat}(h:zav cap i=Zb)(j:Nat):cap[j]?≠Za (Za i):=λe=>by
 unfold zav at h;have:=List.findIdx?_eq_none_iff.mp h (Za i) (Bh e);simp at this
theorem zf0 {cap:Cap}(h:zb0 cap=Zd){i j:Nat}(e:cap[j]?=Za (Za i)):zav cap i=Za j:=by
 unfold zb0 at h;have a:j<cap.length:=(Af.mp e).1;have:=Aw.mp h j (Bk.mpr a);simp only [e] at this;simpa using this
theorem zns {cap:Cap}{i j:Nat}(e:cap[j]?=Za (Za i)):j∈capKeep cap:=by
 unfold capKeep;exact Bl.mpr ⟨Bk.mpr (Af.mp e).1,by simp only [e]⟩
theorem zdu {cap:Cap}{en:En}{j:Nat}{x:W×Bool} (h:(zej cap en)[j]?=Za (Za x)):∃i,cap[j]?=Za (Za i)/\en[i]?=Za (Za x):=by
 unfold zej at h;rw[Aj] at h;cases e:cap[j]? with
 |none=>rw[e] at h;exact noSome h
 | some o =>
  rw[e] at h;cases o with
  |none=>cases h
  | some i =>
   refine⟨i,rfl,?_⟩;have a:(en[i]?).getD Zb=Za x:=sI h;cases e2:en[i]? with
   |none=>rw[e2] at a;exact noSome a
   |some z=>rw[e2] at a;exact congrArg Za a
theorem zql {cap:Cap}{σ:St}{i j:Nat}(h:cap[j]?=Za (Za i)):(capSt cap σ)[j]?=Za ((σ[i]?).getD Zb):=by
 unfold capSt;rw[Aj,h]
 rfl
theorem zfj {cap:Cap}{σ:St}{i j:Nat}{v:V}(h:cap[j]?=Za (Za i))(a:σ[i]?=Za (Za v)):(capSt cap σ)[j]?=Za (Za v):=by
 rw[zql h,a];rfl
theorem backEn_get {cap:Cap}{en a:En}{i:Nat}{x:W×Bool} (h:(zau cap en a)[i]?=Za (Za x)):(∃j,zav cap i=Za j/\a[j]?=Za (Za x))\/(zav cap i=Zb/\en[i]?=Za (Za x)):=by
 unfold zau at h;rw[Go] at h;cases e:en[i]? with
 |none=>rw[e] at h;exact noSome h
 | some o =>
  rw[e] at h;cases c:zav cap i with
  |none=>simp only [c,Gq] at h;exact .inr ⟨rfl,h⟩
  | some j =>
   simp only [c,Gq] at h;have b:(a[j]?).getD Zb=Za x:=sI h;refine .inl ⟨j,rfl,?_⟩;cases e2:a[j]? with
   |none=>rw[e2] at b;exact noSome b
   |some z=>rw[e2] at b;exact congrArg Za b
noncomputable def zby (pr:Prt) (cap:Cap) (en:En) (σ:St) (H:Hp):Prt:=λb o=>pr b o\/∃(j:Nat) (w:W),en[j]?=Za (#v[w,5])/\zav cap j=Zb/\σ[j]?=Za (Za (V.ref b))/\H b=Za o
noncomputable def zhn (p:Prt) (a:Zh) (vs:List V):Prt:=λb o=>p b o\/(b=a/\o=.lst vs)
section
variable {K:Zg}{F H:Hp}{pr pb:Prt}{en:En}{σ:St}
theorem Rel.ownT (R:Rel K F pr en σ H){j:Nat}{w:W}{b:Zh}{ps:Array Ze}(e:en[j]?=Za (#v[w,5]))(s:σ[j]?=Za (Za (V.ref b))):H b≠Za (.tbl ps):=λz=>by
 obtain⟨a,o,f,_,h,c,_,d⟩:=R.own j w e;rw[s] at h;cases h;rw[z] at c;obtain rfl:=sI c;cases d
theorem zij {cap:Cap}{b:Zh}{ps:Array Ze}(R:Rel K F pr en σ H)(e:H b=Za (.tbl ps))(h:∀o,¬ pr b o):∀o,¬ zby pr cap en σ H b o:=λo z=>by
 rcases z with z|⟨j,w,q,_,a,_⟩
 ·exact h o z
 ·exact R.ownT q a e
theorem zio {cap:Cap}{b:Zh}{xs:List V}(R:Rel K F pr en σ H)(z:zby pr cap en σ H b (.tup xs)):pr b (.tup xs):=by
 rcases z with z|⟨j,w,q,_,d,f⟩
 ·exact z
 ·obtain⟨a,o,g, _,h,c,_,e⟩:=R.own j w q;rw[d] at h;cases h;rw[f] at c;obtain rfl:=sI c;cases e
theorem Rel.accUpd {c:Zh}{vs u:List V}(R:Rel K F (zhn pb c vs) en σ H)(A:∀b o,pb b o->b≠c):Rel K F (zhn pb c u) en σ (upd H c (.lst u)):=by
 obtain⟨h,g,d⟩:=R.prt c (.lst vs) (.inr ⟨rfl,rfl⟩);have n:∀b p,H b=Za (.tbl p)->b≠c:=λb p e z=>by subst z;rw[h] at e;cases e
 have nx:∀b φ,H b=Za (.ext φ)->b≠c:=λb φ e z=>by subst z;rw[h] at e;cases e
 refine⟨R.len,λb o e=>?_,R.val,λi w e=>?_,R.inj,λb o q=>?_,R.tb.go (λb C z=>z.elim .inl λz=>nomatch z.2) (λb p e f=>⟨by rw[upd_ne (n b p e)];exact e,f⟩) (.refl F) λb p e y o z=>z.elim (λz=>y o (.inl z)) λz=>n b p e z.1⟩
 ·have:b≠c:=λz=>by subst z;rw[g] at e;exact noSome e
  rw[upd_ne this];exact R.sub _ _ e
 ·refine aG λG qG => ?_;obtain⟨a,v,t,s,j,r,B,m⟩:=R.own i w e;ac_rfl;have:a≠c:=λz=>by subst z;exact d i w e j
  exact⟨a,v,t,s,j,by rw[upd_ne this];exact r,B,m⟩
 ·rcases q with q|⟨rfl,rfl⟩
  ·obtain⟨l,k,x⟩:=R.prt b o (.inl q);exact⟨by rw[upd_ne (A b o q)];exact l,k,x⟩
  ·exact⟨upd_same,g,d⟩
theorem zwf {cap:Cap}{a:Zh}(R:Rel K F pr en σ H)(h:H a=Zb):∀b o,zby pr cap en σ H b o->b≠a:=λb o q=>by
 rcases q with q|⟨j,w,_,_,_,q⟩
 ·exact zae (R.prt b o q).1 h
 ·exact zae q h
theorem Rel.block {cap:Cap}{m:Zh}(R:Rel K F pr en σ H)(p:H m=Zb)(M:zb0 cap=Zd):Rel K F (zhn (zby pr cap en σ H) m []) (zej cap en) (capSt cap σ) (upd H m (.lst [])):=by
 have fa:F m=Zb:=R.sub.free p;have R2:=R.lay p (.lst []);refine⟨by unfold zej capSt;rw[Ad,Ad],R2.sub,λj w e=>?_,λj w e=>?_,λj l a w w' E C y A=>?_,λb o q=>?_,R.tb.go (λb xs z=>z.elim (zio R) λz=>nomatch z.2) (λb U e f=>⟨by rw[upd_ne (zae e p)];exact e,f⟩) (.refl F) λb U e Z o z=>z.elim (zij R e Z o) λz=>zae e p z.1⟩
 ·refine aG λG qG => ?_;obtain⟨i,c,e⟩:=zdu e;obtain⟨v,s,h⟩:=R.val i w e;ac_rfl;exact⟨v,zfj c s,h⟩
 ·refine aG λG qG => ?_;obtain⟨i,c,e⟩:=zdu e;obtain⟨a,B,D,s,h,g,n,u⟩:=R2.own i w e;ac_rfl;exact⟨a,B,D,s,zfj c h,g,n,u⟩
 ·refine aG λG qG => ?_;obtain⟨i,N,E⟩:=zdu E;obtain⟨k,J,C⟩:=zdu C;obtain⟨i',r,y⟩:=capSt_get y;obtain⟨k',t,A⟩:=capSt_get A;ac_rfl;rw[N] at r;cases r;rw[J] at t;cases t;have:=R.inj i k a _ _ E C y A;subst this;have x:=zf0 M N;rw[zf0 M J] at x;exact (sI x).symm
 ·have d:∀(j:Nat) (w:W),(zej cap en)[j]?=Za (Za (w,Zd))->∃(i:Nat) (a:Zh),cap[j]?=Za (Za i)/\en[i]?=Za (Za (w,Zd))/\σ[i]?=Za (Za (V.ref a))/\(capSt cap σ)[j]?=Za (Za (V.ref a))/\∃o,H a=Za o:=λj w e=>by
   nofun;obtain⟨i,c,e⟩:=zdu e;obtain⟨a,B,D,s,h,g,n,u⟩:=R.own i w e;ac_rfl;exact⟨i,a,c,e,h,zfj c h,_,g⟩
  rcases q with (q|⟨O,X,P,T,I,L⟩)|⟨rfl,rfl⟩
  ·obtain⟨S,Q,Y⟩:=R2.prt b o q;refine⟨S,Q,λj w e=>?_⟩;nofun;obtain⟨i,a,_,e,h,g,_⟩:=d j w e;ac_rfl;rw[g];intro z;cases z;exact Y i w e h
  ·refine aG λG qG => ?_;obtain⟨a,B,D,s,h,g,n,u⟩:=R.own O X P;ac_rfl;rw[I] at h;cases h;refine⟨by rw[upd_ne (zae L p)];exact L,n,λj w e=>?_⟩;nofun;obtain⟨i,a,c,e,h,g,_⟩:=d j w e;ac_rfl;rw[g];intro z;cases z;have:=R.inj i O _ _ _ e P h I;subst this;exact zc0 T j c
  ·refine⟨upd_same,fa,λj w e => ?_⟩;nofun;obtain⟨i,a,c,e,h,g,o,n⟩:=d j w e;ac_rfl;rw[g];intro z;cases z;rw[p] at n;exact noSome n
theorem Rel.unblock {cap:Cap}{p:Zh}{t H':Hp}{I:En}{r:St}{vs:List V}{ws:List W} (R:Rel K F pr en σ H) (U:H p=Zb) (s:Same F t) (y:Rel K t (zhn (zby pr cap en σ H) p vs) I r H') (kp:Keep (capKeep cap) (capSt cap σ) r) (rs:Reps K t ws vs) :
  Rel K t pr (zau cap en I) σ H'/\Res K t H' pr (zau cap en I) σ (.lst ws,Zd) (.ref p):=by
 have slot:∀(i j:Nat) (v:V),zav cap i=Za j->r[j]?=Za (Za v)->σ[i]?=Za (Za v):=λi j v c e=>by
  have T:=zbg c;rw[kp j (zns T),zql T] at e;have N:(σ[i]?).getD Zb=Za v:=sI e;cases q:σ[i]? with
  |none=>rw[q] at N;exact noSome N
  |some z=>rw[q] at N;exact congrArg Za N
 obtain⟨Z,Y,X⟩:=y.prt p (.lst vs) (.inr ⟨rfl,rfl⟩);have un:∀(i:Nat) (w:W),zav cap i=Zb->en[i]?=Za (#v[w,5])->∃(a:Zh) (vs:HO) (ws:W),w=ws/\σ[i]?=Za (Za (V.ref a))/\H a=Za vs/\H' a=Za vs/\t a=Zb/\OwnR K F ws vs/\∀(j:Nat) (D:W),I[j]?=Za (#v[D,5])->r[j]?≠Za (Za (V.ref a)):=λi w c e=>by
  nofun;obtain⟨a,vs,ws,n,h,d,E,B⟩:=R.own i w e;obtain⟨P,O,S⟩:=y.prt a vs (.inl (.inr ⟨i,w,e,c,h,d⟩));ac_rfl;exact⟨a,vs,ws,n,h,d,P,O,B,S⟩
 have g:∀(i j:Nat) (w:W),zav cap i=Za j->I[j]?=Za (#v[w,5])->∃(a:Zh) (vs:HO) (ws:W),w=ws/\σ[i]?=Za (Za (V.ref a))/\r[j]?=Za (Za (V.ref a))/\H' a=Za vs/\t a=Zb/\OwnR K t ws vs:=λi j w c e=>by
  nofun;obtain⟨a,vs,ws,n,h,d,E,B⟩:=y.own j w e;ac_rfl;exact⟨a,vs,ws,n,slot i j _ c h,h,d,E,B⟩
 refine⟨⟨by unfold zau;rw[List.length_mapIdx];exact R.len,y.sub,λi w e=>?_,λi w e=>?_,λi k a w D A m Q L=>?_,λb o q=>?_,y.tb.go (λb xs z=>.inl (.inl z)) (λb ps e f=>⟨e,f⟩) (.refl t) λb ps e hh o z=>hh o (.inl (.inl z))⟩,p,_,_,rfl,rfl,Z,Y,.lst rs,λi w e=>?_,λb o q=>zae (R.prt b o q).1 U⟩
 ·rcases backEn_get e with⟨j,c,e⟩|⟨c,e⟩
  ·obtain⟨v,n,h⟩:=y.val j w e;exact⟨v,slot i j v c n,h⟩
  ·obtain⟨v,n,h⟩:=R.val i w e;exact⟨v,n,h.mono s⟩
 ·rcases backEn_get e with⟨j,c,e⟩|⟨c,e⟩
  ·refine aG λG qG => ?_;obtain⟨a,vs,ws,n,h,_,d,E,B⟩:=g i j w c e;ac_rfl;exact⟨a,vs,ws,n,h,d,E,B⟩
  ·refine aG λG qG => ?_;obtain⟨a,vs,ws,n,h,_,d,E,B,_⟩:=un i w c e;ac_rfl;exact⟨a,vs,ws,n,h,d,E,B.mono s⟩
 ·rcases backEn_get A with⟨j,c,A⟩|⟨c,A⟩
  ·refine aG λG qG => ?_;obtain⟨M,_,_,_,h,d,_⟩:=g i j w c A;ac_rfl;rw[Q] at h;cases h;rcases backEn_get m with⟨l,C,m⟩|⟨C,m⟩
   ·refine aG λG qG => ?_;obtain⟨M,_,_,_,u,J,_⟩:=g k l D C m;ac_rfl;rw[L] at u;cases u;have:=y.inj j l a _ _ A m d J;subst this;have x:=zbg c;rw[zbg C] at x;cases x;rfl
   ·refine aG λG qG => ?_;obtain⟨M,_,_,_,u,_,_,_,_,J⟩:=un k D C m;ac_rfl;rw[L] at u;cases u;exact absurd d (J j w A)
  ·refine aG λG qG => ?_;obtain⟨M,_,_,_,h,_,_,_,_,d⟩:=un i w c A;ac_rfl;rw[Q] at h;cases h;rcases backEn_get m with⟨l,C,m⟩|⟨C,m⟩
   ·refine aG λG qG => ?_;obtain⟨M,_,_,_,u,J,_⟩:=g k l D C m;ac_rfl;rw[L] at u;cases u;exact absurd J (d l D m)
   ·exact R.inj i k a _ _ A m Q L
 ·obtain⟨P,O,S⟩:=y.prt b o (.inl (.inl q));refine⟨P,O,λi w e=>?_⟩;rcases backEn_get e with⟨j,c,e⟩|⟨c,e⟩
  ·refine aG λG qG => ?_;obtain⟨a,_,_,_,h,d,_⟩:=g i j w c e;ac_rfl;rw[h];intro z;cases z;exact S j w e d
  ·exact (R.prt b o q).2.2 i w e
 ·rcases backEn_get e with⟨j,c,e⟩|⟨c,e⟩
  ·refine aG λG qG => ?_;obtain⟨a,_,_,_,h,d,_⟩:=g i j w c e;ac_rfl;rw[h];intro z;cases z;exact X j w e d
  ·refine aG λG qG => ?_;obtain⟨a,_,_,_,h,d,_⟩:=un i w c e;ac_rfl;rw[h];intro z;cases z;rw[U] at d;exact noSome d
end
noncomputable def zgx (mp:List Nat) (T:Tg) (tc:GT) (te:GE):List W->En->Option (En×List W)
 |[],c=>Za (c,[])
 | w::b,c=>(tgSet mp T w c).bind λd=>match tc d with
  |#v[a,5]=>(te a).bind λp=>(zgx mp T tc te b p.1).bind λq=>Za (q.1,p.2.1::q.2)
  |#v[a,6]=>zgx mp T tc te b a
  |none=>Zb
noncomputable def za7 (cap:Cap) (T:Tg) (it:GL) (tc:GT) (te:GE):GE:=λen=>(it en).bind λp=>if zb0 cap&&decide (p.2.length<=sizeLine) then (zgx (capKeep cap) T tc te p.2 (zej cap p.1)).bind λq=>Za (zau cap p.1 q.1,(.lst q.2,Zd)) else Zb
noncomputable def gYes:GT:=λen=>#v[en,5]
noncomputable def ze4 (mp:List Nat) (T:Tg) (tc:GT) (em:GL):List W->En->Option (En×List W)
 |[],c=>Za (c,[])
 | w::b,c=>(tgSet mp T w c).bind λd=>match tc d with
  |#v[a,5]=>(em a).bind λp=>(ze4 mp T tc em b p.1).bind λq=>Za (q.1,p.2++q.2)
  |#v[a,6]=>ze4 mp T tc em b a
  |none=>Zb
noncomputable def gOne (te:GE):GL:=λen=>(te en).bind λp=>Za (p.1,[p.2.1])
noncomputable def gTwo (mp:List Nat) (T:Tg) (it:GL) (tc:GT) (em:GL):GL:=λen=>(it en).bind λp=>ze4 mp T tc em p.2 p.1
noncomputable def zw2 (cap:Cap) (T:Tg) (it:GL) (tc:GT) (em:GL):GE:=λen=>(it en).bind λp=>if zb0 cap then (ze4 (capKeep cap) T tc em p.2 (zej cap p.1)).bind λq=>if q.2.length<=sizeLine then Za (zau cap p.1 q.1,(.lst q.2,Zd)) else Zb else Zb
noncomputable def ztz (cap:Cap) (T:Tg) (it:GL) (tc:GT) (a:Tg) (i:GL) (t:GT) (te:GE):GE:=zw2 cap T it tc (gTwo (capKeep cap) a i t (gOne te))
theorem zgg {mp:List Nat}{T:Tg}{tc:GT}{te:GE}:∀{a:List W}{d c:En}{out:List W},zgx mp T tc te a d=Za (c,out)->ze4 mp T tc (gOne te) a d=Za (c,out)/\out.length<=a.length
 |[],_,_,_,h=>by cases h;exact⟨rfl,Ag _⟩
 | w::a,d,c,out,h=>by
  obtain ⟨g,j,h⟩:=bS (show (tgSet mp T w d).bind _=_ from h);have e:ze4 mp T tc (gOne te) (w::a) d=match tc g with
   |#v[f,5]=>(gOne te f).bind λp=>(ze4 mp T tc (gOne te) a p.1).bind λq=>Za (q.1,p.2++q.2)
   |#v[f,6]=>ze4 mp T tc (gOne te) a f
   |none=>Zb:=by rw[ze4,j];rfl
  rw[e];cases et:tc g with
  |none=>simp only [et] at h;exact noSome h
  | some p =>
   obtain⟨f,b⟩:=p;cases b with
   |false=>simp only [et] at h;exact⟨(zgg h).1,Nat.le_succ_of_le (zgg h).2⟩
   | true =>
    simp only [et] at h;obtain⟨⟨k,r⟩,l,h⟩:=bS h;obtain⟨⟨m,rest⟩,i,h⟩:=bS h;cases h;refine⟨?_,Nat.succ_le_succ (zgg i).2⟩;show (gOne te f).bind _=_;rw[gOne,l];show (ze4 mp T tc (gOne te) a k).bind _=_;rw[(zgg i).1]
    rfl
noncomputable def MOk (K:Zg) (mp:List Nat) (p:Prt) (b:Zh) (em:GL) (t:TM):Prop:=∀(F:Hp) (e:En) (σ:St) (H:Hp) (v:List V) (c:En) (out:List W) (N:St->Hp->Prop),Rel K F (zhn p b v) e σ H->em e=Za (c,out)->v.length+out.length<=sizeLine ->
 (∀d a f u,Same F d->Rel K d (zhn p b (v++u)) c a f->Keep mp σ a->Reps K d out u->N a f)->t σ H N
section
variable {K:Zg}{mp:List Nat}{pb:Prt}{acc:Zh}
theorem z9h {te:GE}(n:∀b o,pb b o->b≠acc):MOk K mp pb acc (gOne te) (zr9 acc (tE K te)):=by
 intro F d σ H a i out N R h e q;nofun;obtain⟨⟨l,r⟩,f,h⟩:=bS h;ac_rfl;cases h;refine⟨F,_,d,l,r,R,f,λu t v s m j=>?_⟩;nofun;obtain⟨p,k,c,y⟩:=j.freeze m;obtain⟨g,_,_⟩:=c.prt acc (.lst a) (.inr ⟨rfl,rfl⟩);ac_rfl;exact⟨a,g,e,q p σ _ [v] (s.trans k) (c.accUpd n) (.refl _ _) (.cons y .nil)⟩
theorem zuq {em:GL}{tm:TM}{T:Tg}{tc:GT}{C:Hp}{v:List V}{l f:En}{c:St}{U:Hp}{J:It}{ws out:List W}{N0:St->Hp->Prop} (M:MOk K mp pb acc em tm) (R:Rel K C (zhn pb acc v) l c U) (ok:ItOk K C J ws) (h:ze4 mp T tc em ws l=Za (f,out)) (hz:v.length+out.length<=sizeLine)
  (q:∀F n S u,Same C F->Rel K F (zhn pb acc (v++u)) f n S->Keep mp c n->Reps K F out u->N0 n S):zl9 J (TGof K T) (tT K tc) tm c U N0:=by
 refine ⟨λi m g H=>m=ws.length-i/\i<=ws.length/\∃F k j u rest,Same C F/\Rel K F (zhn pb acc (v++u)) k g H/\Keep mp c g/\Reps K F j u/\ze4 mp T tc em (ws.drop i) k=Za (f,rest)/\j++rest=out,
  ⟨_,rfl,Ch _,C,l,[],[],out,.refl _,by rw[By];exact R,.refl _ _,.nil,h,rfl⟩,?_⟩
 rintro i m g H ⟨rfl,hi,F,k,j,u,rest,t,D,O,rd,a,B⟩;by_cases d:i<ws.length
 ·refine .inr ⟨ok.go i H (t.trans D.sub) d, ?_⟩
  have hd:ws.drop i=ws[i]::ws.drop (i+1):=(Cs d);rw[hd] at a;obtain⟨c1,h3,a⟩:=bS (show (tgSet mp T ws[i] k).bind _=_ from a);refine⟨λA E=>∃F k j u rest,Same C F/\Rel K F (zhn pb acc (v++u)) k A E/\Keep mp c A/\Reps K F j u/\ze4 mp T tc em (ws.drop (i+1)) k=Za (f,rest)/\j++rest=out,λA E z=>⟨ws.length-(i+1),by omega,rfl,d,z⟩,?_⟩;intro x E y;obtain⟨w,X,o⟩:=ok.yld i H x E (t.trans D.sub) d y;rw[Ae d] at X;obtain rfl:=sI X;nofun;obtain⟨F3,G,R3,z3⟩:=(o.mono t).close D;ac_rfl;refine zo7 (w:=ws[i]) R3 z3 h3 λN R4 k4=>?_;cases et:tc c1 with
  |none=>simp only [et] at a;exact noSome a
  | some p =>
   obtain⟨I,b⟩:=p;refine⟨F3,_,c1,I,b,R4,et,λQ H5 P R5=>?_⟩;cases b with
   | false =>
    simp only [et] at a;exact iteF ⟨Q,I,j,u,rest,t.trans (G.trans P),R5,O.trans k4,rd.mono (G.trans P),a,B⟩
   | true =>
    simp only [et] at a;nofun;obtain⟨⟨c3,Y⟩,h5,a⟩:=bS a;obtain⟨⟨c4,r⟩,h6,a⟩:=bS a;ac_rfl;cases a;refine iteT (M Q I N H5 (v++u) c3 Y _ R5 h5 ?_ λZ σ6 H6 L s6 R6 k6 r6=>?_)
    ·dsimp only at B
     rw[<-B,Bb,Bb,rd.length] at hz;rw[Bb];omega
    ·have s:Same F Z:=G.trans (P.trans s6)
     exact⟨Z,c3,j++Y,u++L,r,t.trans s,by rw[<-Bc];exact R6,O.trans (k4.trans k6),(rd.mono s).append r6,h6,by rw[Bc];exact B⟩
 ·have e:i=ws.length:=by omega
  subst e;rw[List.drop_length] at a;cases a;rw[By] at B;subst B;exact .inl ⟨ok.stop H (t.trans D.sub),q F g H u t D O rd⟩
theorem ycq {em:GL}{t:TM}{T:Tg}{it:GL}{tc:GT}(M:MOk K mp pb acc em t):MOk K mp pb acc (gTwo mp T it tc em) (tTwo (tI K it) (TGof K T) (tT K tc) t):=by
 intro F c σ H v f out N R h b q;nofun;obtain⟨⟨j,w⟩,e,h⟩:=bS h;ac_rfl;exact⟨F,_,c,j,w,R,e,λl m J s i ok=>zuq M i ok h b λk a d u g=>q k a d u (s.trans g)⟩
end
theorem zih {K:Zg}{cap:Cap}{T:Tg}{it:GL}{tc:GT}{em:GL}{t:Zh->TM}{σ:St}{H:Hp}{Q:VK}(M:∀(p:Prt) (c:Zh),(∀b o,p b o->b≠c)->MOk K (capKeep cap) p c em (t c))(h:tE K (zw2 cap T it tc em) σ H Q):zx9 (tI K it) cap (TGof K T) (tT K tc) t σ H Q:=by
 nofun;obtain⟨F,pr,en,g,r,R,h,q⟩:=h;obtain⟨⟨x,w⟩,i,h⟩:=bS h;ac_rfl;refine⟨F,pr,en,x,w,R,i,λC D J j d ok c a=>?_⟩;split at h
 ·rename_i n;nofun;obtain⟨⟨k,out⟩,m,h⟩:=bS h;ac_rfl;split at h
  ·rename_i e;cases h;refine zuq (M _ c (zwf (cap:=cap) d a)) (d.block a n) ok m (by rw[Fy,Co];exact e) λy l f B s z u rd=>?_;obtain⟨A,v⟩:=d.unblock a s z u rd;exact q y f _ (j.trans s) A v
  ·exact noSome h
 ·exact noSome h
theorem zuy {K:Zg}{cap:Cap}{T:Tg}{it:GL}{tc:GT}{te:GE}{σ:St}{H:Hp}{Q:VK}(h:tE K (za7 cap T it tc te) σ H Q):zx9 (tI K it) cap (TGof K T) (tT K tc) (λa=>zr9 a (tE K te)) σ H Q:=by
 refine zih (λp a g=>z9h g) ?_;obtain⟨F,pr,en,e,r,R,h,q⟩:=h;refine⟨F,pr,en,e,r,R,?_,q⟩;nofun;obtain⟨⟨i,w⟩,c,h⟩:=bS h;ac_rfl;split at h
 ·rename_i z;rw[Ab] at z;nofun;obtain⟨⟨d,out⟩,f,h⟩:=bS h;ac_rfl;obtain⟨b,j⟩:=zgg f;rw[zw2,c];show (if zb0 cap=Zd then (ze4 (capKeep cap) T tc (gOne te) w (zej cap i)).bind _ else Zb)=_;rw[if_pos z.1,b];show (if out.length<=sizeLine then _ else Zb)=_;rw[if_pos (Bj j (Ai z.2))];exact h
 ·exact noSome h
noncomputable def yc0:GE:=λen=>Za (en,(.dic,Zc))
noncomputable def keyW:W->Bool
 |.int _=>Zd
 |.str _=>Zd
 |_=>Zc
noncomputable def yd0 (k v:GE):GE:=λen=>(k en).bind λp=>if keyW p.2.1 then (v p.1).bind λq=>Za (q.1,(.dic,Zc)) else Zb
noncomputable def Src (h:Heap) (it l:Zh) (k:Nat) (xs:Array Ze):Prop:=(h.IsListIter it l k/\h.IsList l xs)\/(h.IsTupleIter it l k/\h.IsTuple l xs)
theorem Src.at {h h':Heap}{it l:Zh}{k:Nat}{xs:Array Ze}(c:Src h it l k xs)(a:∀o,h.get? it=Za o->h'.get? it=Za o)(b:∀o,h.get? l=Za o->h'.get? l=Za o):Src h' it l k xs:=by
 rcases c with⟨p,q⟩|⟨p,q⟩
 ·exact .inl ⟨p.at a,q.at b⟩
 ·obtain⟨o,e,r⟩:=q;exact .inr ⟨p.at a,o,b o e,r⟩
theorem Src.src {h:Heap}{it l:Zh}{k:Nat}{xs:Array Ze}(c:Src h it l k xs):∃o,h.get? l=Za o:=by
 rcases c with⟨_,⟨o,e,_⟩⟩|⟨_,⟨o,e,_⟩⟩<;>exact⟨o,e⟩
section
variable {prog:Program}{w:World}{A:Around}{E:Ze->Zf->Prop}{s:Zf}
theorem zf8 {it l:Zh}{k:Nat}{xs:Array Ze}{x:Ze}{Q:Ze->Zf->Prop} (c:Src s.heap it l k xs) (n:xs[k]?=Za x) (ne:l≠it)
  (q:∀h,Src h it l (k+1) xs->Heap.SameBut it s.heap h->Q x { s with heap:=h }):wpAny (model prog w) A (Builtin.SmallTypes.nextOf (.ref it)) Q E s:=by
 rcases c with⟨d,i⟩|⟨d,i⟩
 ·exact wpAny_nextOf_list_item d i n λh a b=>q h (.inl ⟨a,i.at λo e=>(b.2 l ne).trans e⟩) b
 ·refine aG λG qG => ?_;obtain⟨v,g,p,f⟩:=id d;obtain⟨r,m,u,t,j⟩:=id i;ac_rfl;unfold Builtin.SmallTypes.nextOf;refine Aa (Di (name:=Str.ofString "__next__") d.typeIs Fx (Fa Fx d.typeIs F.entry_tuple_iterator_next ?_ (F.args_tuple_iterator_next_1 _)));refine (show wpAny _ _ (field (.ref it) 0>>=_) _ _ s from Aa (Da g f (x:=.ref l) rfl ?_));refine (show wpAny _ _ (if (Ze.ref l==Ze.none)=Zd then _ else _) _ _ s from ?_);rw[if_neg (by intro z;cases z)];refine (show wpAny _ _ (field (.ref it) 1>>=_) _ _ s from Aa (Da g f (x:=.int k 0) rfl ?_));refine (show wpAny _ _ (seqItems? (.ref l)>>=_) _ _ s from Aa (Dm m j ?_));simp only [Dj,n];refine Aa (wpAny_setField g f (by simp) (Am ⟨x,rfl,Am ?_⟩));refine q _ (.inr ⟨⟨_,Gy _ g (Obj.isFreed_of_fields (Obj.data_mapFields f _)),(Obj.cls_mapFields ..).trans p,by rw[Obj.data_mapFields f];simp [rawInt]⟩,r,?_,u,t,j⟩) (Eb ..);exact ((Eb ..).2 l ne).trans m
theorem zkm {it l:Zh}{k:Nat}{xs:Array Ze}{Q:Ze->Zf->Prop} (i:A.handled=Zb) (c:Src s.heap it l k xs) (j:xs[k]?=Zb)
  (q:∀h e,Heap.ExtBut it s.heap h->(∃o,h.get? e=Za o/\o.cls=.type "StopIteration")->E (.ref e) { s with heap:=h }):wpAny (model prog w) A (Builtin.SmallTypes.nextOf (.ref it)) Q E s:=by
 rcases c with⟨b,g⟩|⟨b,g⟩
 ·exact wpAny_nextOf_list_end i b g j q
 ·obtain⟨u,d,r,f⟩:=id b;obtain⟨t,p,y,v,n⟩:=id g;unfold Builtin.SmallTypes.nextOf;refine Aa (Di (name:=Str.ofString "__next__") b.typeIs Fx (Fa Fx b.typeIs F.entry_tuple_iterator_next ?_ (F.args_tuple_iterator_next_1 _)));refine (show wpAny _ _ (field (.ref it) 0>>=_) _ _ s from Aa (Da d f (x:=.ref l) rfl ?_));refine (show wpAny _ _ (if (Ze.ref l==Ze.none)=Zd then _ else _) _ _ s from ?_);rw[if_neg (by intro z;cases z)];refine (show wpAny _ _ (field (.ref it) 1>>=_) _ _ s from Aa (Da d f (x:=.int k 0) rfl ?_));refine (show wpAny _ _ (seqItems? (.ref l)>>=_) _ _ s from Aa (Dm p n ?_));simp only [Dj,j];refine Aa (Dh (Aa (wpAny_setField d f (by simp) (show wpAny _ _ (newExc (.type "StopIteration") []>>=_) _ _ _ from Aa ?_))));simp only [newExc,newTuple];refine Aa (Dn (Aa (m:=firstArgMember _ _) (wpAny_of_eq (a:=Ze.none) (by first|rfl|(simp only [firstArgMember];rfl)) (Dn ?_ (by size_fits)))) (by size_fits));simp only [raiseNew];refine Aa (wpAny_handled ?_);rw[show A.in1.handled=Zb from i];exact Aa (Am (wpAny_throw (q _ _ (((Eb ..).extBut.push _).push _) ⟨_,Aq _ rfl,rfl⟩)))
theorem z8c {z TI TO i d J K:Zh}{H k2:Nat}{xs ys:Array Ze}{x y a b:Ze}{Q:Ze->Zf->Prop} (D:ZipApart z TI TO i d J K) (C:IsZip s.heap z TI TO .none) (gi:IsPair s.heap TI (.ref i) (.ref d)) (go:IsPair s.heap TO a b)
  (c1:Src s.heap i J H xs) (c2:Src s.heap d K k2 ys) (ex:xs[H]?=Za x) (ey:ys[k2]?=Za y)
  (q:∀h,IsZip h z TI TO (rawInt s.heap.objs.size)->IsPair h TO x y->Src h i J (H+1) xs->Src h d K (k2+1) ys->IsPair h s.heap.objs.size x y ->
   (∀c o,c≠z->c≠TO->c≠i->c≠d->s.heap.get? c=Za o->h.get? c=Za o)->Q (.ref s.heap.objs.size) { s with heap:=h }) :
  wpAny (model prog w) A (Builtin.«zip.__next__» ⟨[.ref z],[]⟩) (λfin s'=>∃v,fin=.done (.ret v)/\Q v s') E s:=by
 refine (show wpAny _ _ (field (.ref z) 2>>=_) _ _ _ from Aa (Da C rfl (x:=.bool Zc) rfl ?_));refine (show wpAny _ _ (field (.ref z) 3>>=_) _ _ _ from Aa (Da C rfl (x:=.ref TI) rfl (Aa (Dm gi rfl ?_))));refine (show wpAny _ _ (Builtin.SmallTypes.ownedTupleIsFree (.ref z)>>=_) _ _ _ from Aa ?_);unfold Builtin.SmallTypes.ownedTupleIsFree;refine Aa (Da C rfl (x:=.none) rfl (Am ?_));simp only [Fq];refine Aa (Dh (Aa (Da C rfl (x:=.ref TO) rfl (Aa (Fg C (by simp) λY z1 X=>?_)))));have O:IsZip Y z TI TO .ellipsis:=z1;refine Aa ?_;simp only [List.zipIdx_cons,List.zipIdx_nil,Gs,Fm];have j : ∀c o,c≠z->s.heap.get? c=Za o->Y.get? c=Za o:=λc o n e=>X.extBut _ _ n e;refine Aa (Aa (wpAny_onRaise (show wpAny _ _ (Builtin.SmallTypes.nextOf (.ref i)>>=_) _ _ _ from Aa (zf8 (c1.at (λo=>j _ o D.i1z) λo=>j _ o D.l1z) ex D.l1i1 λg2 d2 N=>Am ?_))));have f : ∀c o,c≠z->c≠i->s.heap.get? c=Za o->g2.get? c=Za o:=λc o n m e=>N.extBut _ _ m (j c o n e);refine Aa (Dm (f _ _ D.TOz D.TOi1 go) rfl (Aa (wpAny_updateSeq_pair (f _ _ D.TOz D.TOi1 go) λR t3 G=>Aa (Gh (Am ?_)))));have M:IsPair R TO x b:=t3;have k : ∀c o,c≠z->c≠i->c≠TO->s.heap.get? c=Za o->R.get? c=Za o:=λc o n m r e=>G.extBut _ _ r (f c o n m e);refine Aa (Aa (wpAny_onRaise (show wpAny _ _ (Builtin.SmallTypes.nextOf (.ref d)>>=_) _ _ _ from Aa (zf8 (c2.at (λo=>k _ o D.i2z D.i12.symm D.TOi2.symm) λo=>k _ o D.l2z D.l2i1 D.l2TO) ey D.l2i2 λg4 d4 l=>Am ?_))));have W:IsPair g4 TO x b:=l.extBut _ _ D.TOi2 M;refine Aa (Dm W rfl (Aa (wpAny_updateSeq_pair W λg t5 u=>Aa (Gh (Am (Am ?_))))));have F:IsPair g TO x y:=t5;refine Aa (Dm F rfl (Aa (wpAny_newTuple ?_)));have V:g.objs.size=s.heap.objs.size:=by rw[u.1,l.1,G.1,N.1,X.1]
 have T:IsZip g z TI TO .ellipsis:=u.extBut _ _ D.TOz.symm (l.extBut _ _ D.i2z.symm (G.extBut _ _ D.TOz.symm (N.extBut _ _ D.i1z.symm O)));have k5:∀c o,c≠z->c≠TO->c≠i->c≠d->s.heap.get? c=Za o->g.get? c=Za o:=λc o n r m p e=>u.extBut _ _ r (l.extBut _ _ p (k c o n m r e));have L:Src g i J (H+1) xs:=d2.at (λo e=>u.extBut _ _ D.TOi1.symm (l.extBut _ _ D.i12 (G.extBut _ _ D.TOi1.symm e))) λo e=>u.extBut _ _ D.l1TO (l.extBut _ _ D.l1i2 (G.extBut _ _ D.l1TO e));have P:Src g d K (k2+1) ys:=d4.at (λo e=>u.extBut _ _ D.TOi2.symm e) λo e=>u.extBut _ _ D.l2TO e;refine (show wpAny _ _ (Builtin.SmallTypes.ownedTupleHandOut (.ref z) (.ref g.objs.size)>>=_) _ _ _ from Aa ?_);unfold Builtin.SmallTypes.ownedTupleHandOut;have z6:IsZip (g.push { cls:=.type "tuple",data:=.seq #[x,y] }) z TI TO .ellipsis:=Ac _ T;refine Aa (Fg z6 (by simp) λg7 z7 U=>Fg (show IsZip g7 z TI TO (rawInt g.objs.size) from z7) (by simp) λI z8 S=>Am ⟨_,rfl,?_⟩);have t:∀c o,c≠z->g.get? c=Za o->I.get? c=Za o:=λc o n e=>S.extBut _ _ n (U.extBut _ _ n (Ac _ e));have Z:g.objs.size≠z:=Nat.ne_of_gt (Ar T);have t8:IsPair I g.objs.size x y:=S.extBut _ _ Z (U.extBut _ _ Z (Aq _ rfl));have B:IsZip I z TI TO (rawInt g.objs.size):=z8;rw[V] at t8 B;show Q (.ref g.objs.size) _;rw[V];exact q I B (t _ _ D.TOz F) (L.at (λo=>t _ o D.i1z) λo=>t _ o D.l1z) (P.at (λo=>t _ o D.i2z) λo=>t _ o D.l2z) t8 λc o n r m p e=>t c o n (k5 c o n r m p e)
theorem yac {z TI TO i v F P:Zh}{y k2:Nat}{xs ys:Array Ze}{a b:Ze}{Q:Fin->Zf->Prop} (O:A.handled=Zb) (D:ZipApart z TI TO i v F P) (j:IsZip s.heap z TI TO .none) (gi:IsPair s.heap TI (.ref i) (.ref v)) (go:IsPair s.heap TO a b)
  (Z:Src s.heap i F y xs) (X:Src s.heap v P k2 ys) (T:xs[y]?=Zb\/ys[k2]?=Zb)
  (q:∀G e,(∀c o,c≠z->c≠TO->c≠i->c≠v->s.heap.get? c=Za o->G.get? c=Za o)->(∃o,G.get? e=Za o/\o.cls=.type "StopIteration")->E (.ref e) { s with heap:=G }) :
  wpAny (model prog w) A (Builtin.«zip.__next__» ⟨[.ref z],[]⟩) Q E s:=by
 refine (show wpAny _ _ (field (.ref z) 2>>=_) _ _ _ from Aa (Da j rfl (x:=.bool Zc) rfl ?_));refine (show wpAny _ _ (field (.ref z) 3>>=_) _ _ _ from Aa (Da j rfl (x:=.ref TI) rfl (Aa (Dm gi rfl ?_))));refine (show wpAny _ _ (Builtin.SmallTypes.ownedTupleIsFree (.ref z)>>=_) _ _ _ from Aa ?_);unfold Builtin.SmallTypes.ownedTupleIsFree;refine Aa (Da j rfl (x:=.none) rfl (Am ?_));simp only [Fq];refine Aa (Dh (Aa (Da j rfl (x:=.ref TO) rfl (Aa (Fg j (by simp) λH S Y=>?_)))));have l:IsZip H z TI TO .ellipsis:=S;refine Aa ?_;simp only [List.zipIdx_cons,List.zipIdx_nil,Gs,Fm];have k : ∀c o,c≠z->s.heap.get? c=Za o->H.get? c=Za o:=λc o n e=>Y.extBut _ _ n e;refine Aa (Aa (wpAny_onRaise (show wpAny _ _ (Builtin.SmallTypes.nextOf (.ref i)>>=_) _ _ _ from Aa ?_)));have N:Src H i F y xs:=Z.at (λo=>k _ o D.i1z) λo=>k _ o D.l1z;cases hx:xs[y]? with
 | none =>
  refine zkm O N hx λB e u J=>?_;obtain⟨I,g,h⟩:=J;have R:IsZip B z TI TO .ellipsis:=u _ _ D.i1z.symm l;have ne:e≠z:=λr=>by subst r;rw[R] at g;obtain rfl:=sI g;simp at h
  exact Fg R (by simp) λC _ t=>q C e (λc o n _ m _ x=>t.extBut _ _ n (u _ _ m (k c o n x))) ⟨I,t.extBut _ _ ne g,h⟩
 | some x =>
  have V:ys[k2]?=Zb:=T.resolve_left (by rw[hx];simp);refine zf8 N hx D.l1i1 λB d2 u=>Am ?_;have f : ∀c o,c≠z->c≠i->s.heap.get? c=Za o->B.get? c=Za o:=λc o n m e=>u.extBut _ _ m (k c o n e);refine Aa (Dm (f _ _ D.TOz D.TOi1 go) rfl (Aa (wpAny_updateSeq_pair (f _ _ D.TOz D.TOi1 go) λC t3 t=>Aa (Gh (Am ?_)))));have d : ∀c o,c≠z->c≠i->c≠TO->s.heap.get? c=Za o->C.get? c=Za o:=λc o n m r e=>t.extBut _ _ r (f c o n m e);refine Aa (Aa (wpAny_onRaise (show wpAny _ _ (Builtin.SmallTypes.nextOf (.ref v)>>=_) _ _ _ from Aa (zkm O (X.at (λo=>d _ o D.i2z D.i12.symm D.TOi2.symm) λo=>d _ o D.l2z D.l2i1 D.l2TO) V λU e K J=>?_))));obtain⟨I,g,h⟩:=J;have M:IsZip U z TI TO .ellipsis:=K _ _ D.i2z.symm (t.extBut _ _ D.TOz.symm (u.extBut _ _ D.i1z.symm l));have ne:e≠z:=λr=>by subst r;rw[M] at g;obtain rfl:=sI g;simp at h
  exact Fg M (by simp) λW _ L=>q W e (λc o n r m p x=>L.extBut _ _ n (K _ _ p (d c o n m r x))) ⟨I,L.extBut _ _ ne g,h⟩
theorem z7b {z TI TO i d l e:Zh}{k k2:Nat}{xs ys:Array Ze}{x y a b:Ze}{Q:Option Ze->Zf->Prop} (D:ZipApart z TI TO i d l e) (g:IsZip s.heap z TI TO .none) (C:IsPair s.heap TI (.ref i) (.ref d)) (go:IsPair s.heap TO a b)
  (v:Src s.heap i l k xs) (r:Src s.heap d e k2 ys) (u:xs[k]?=Za x) (G:ys[k2]?=Za y)
  (q:∀h,IsZip h z TI TO (rawInt s.heap.objs.size)->IsPair h TO x y->Src h i l (k+1) xs->Src h d e (k2+1) ys->IsPair h s.heap.objs.size x y ->
   (∀c o,c≠z->c≠TO->c≠i->c≠d->s.heap.get? c=Za o->h.get? c=Za o)->Q (Za (.ref s.heap.objs.size)) { s with heap:=h }):wpAny (model prog w) A (pyNext (.ref z)) Q E s:=by
 have t:s.TypeIs (.ref z) "zip" := ⟨_,g,rfl⟩;unfold pyNext;exact Aa (Hr (Di (name:=Str.ofString "__next__") t F.slot_zip_next (Fa F.slot_zip_next t F.entry_zip_next (z8c D g C go v r u G λh n j f B m p=>Am (q h n j f B m p)) (F.args_zip_next_1 _))))
theorem z9t {z TI TO i d l m:Zh}{f k2:Nat}{xs ys:Array Ze}{a b:Ze}{Q:Option Ze->Zf->Prop} (u:A.handled=Zb) (D:ZipApart z TI TO i d l m) (j:IsZip s.heap z TI TO .none) (y:IsPair s.heap TI (.ref i) (.ref d)) (go:IsPair s.heap TO a b)
  (v:Src s.heap i l f xs) (r:Src s.heap d m k2 ys) (n:xs[f]?=Zb\/ys[k2]?=Zb)
  (q:∀h,(∀c o,c≠z->c≠TO->c≠i->c≠d->s.heap.get? c=Za o->h.get? c=Za o)->Q Zb { s with heap:=h }):wpAny (model prog w) A (pyNext (.ref z)) Q E s:=by
 have t:s.TypeIs (.ref z) "zip" := ⟨_,j,rfl⟩;unfold pyNext;refine Aa (Hr (Di (name:=Str.ofString "__next__") t F.slot_zip_next (Fa F.slot_zip_next t F.entry_zip_next (yac u D j y go v r n λh e k x=>?_) (F.args_zip_next_1 _))));obtain⟨o,g,p⟩:=x;exact Aa (wpAny_isInstance (T := "StopIteration") (b:=Zd) ⟨o,g,p⟩ isSubtype_stop (Am (q _ k)))
end
noncomputable def SrcO (h:Heap) (b:Bool) (l:Zh) (xs:Array Ze):Prop:=match b with
 |true=>h.IsList l xs
 |false=>h.IsTuple l xs
noncomputable def itO (b:Bool) (l:Zh):Obj:={ cls:=.type (if b then "list_iterator" else "tuple_iterator"),data:=.fields #[.ref l,.int 0 0] }
theorem SrcO.push {h:Heap}{b:Bool}{l:Zh}{xs:Array Ze} (c:SrcO h b l xs) (o:Obj):SrcO (h.push o) b l xs:=by
 cases b with
 |true=>exact Heap.IsList.push c o
 | false =>
  obtain⟨q,e,r⟩:=c;exact⟨q,Ac _ e,r⟩
section
variable {prog:Program}{w:World}{A:Around}{E:Ze->Zf->Prop}{s:Zf}
theorem zni {b:Bool}{l:Zh}{xs:Array Ze}{Q:Ze->Zf->Prop}(c:SrcO s.heap b l xs)(q:Q (.ref s.heap.objs.size) { s with heap:=s.heap.push (itO b l) }):wpAny (model prog w) A (pyIter (.ref l)) Q E s:=by
 cases b with
 |true=>exact Dw c q
 |false=>exact Ge c q
end
noncomputable abbrev zA (h:Heap) (b:Bool) (l:Zh):Heap:=h.push (itO b l)
noncomputable abbrev zB (h:Heap) (b c:Bool) (l m:Zh):Heap:=(zA h b l).push (itO c m)
noncomputable abbrev zC (h:Heap) (b c:Bool) (l m:Zh):Heap:=(zB h b c l m).push { cls:=.type "tuple",data:=.seq #[.ref h.objs.size,.ref (zA h b l).objs.size] }
noncomputable abbrev zD (h:Heap) (b c:Bool) (l m:Zh):Heap:=(zC h b c l m).push { cls:=.type "tuple",data:=.seq #[.none,.none] }
noncomputable abbrev zE (h:Heap) (b c:Bool) (l m:Zh):Heap:=(zD h b c l m).push { cls:=.type "zip",data:=.fields #[.none,.bool Zc,.bool Zc,.ref (zB h b c l m).objs.size,.ref (zC h b c l m).objs.size] }
theorem zve (b c:Bool)(l m:Zh)(xs ys:Array Ze):Meets (Builtin.«zip.__new__» ⟨[.type "zip",.ref l,.ref m],[]⟩) (λ_ R s=>SrcO s.heap b l xs/\SrcO s.heap c m ys/\R (.ok (.ret (.ref (zD s.heap b c l m).objs.size))) { s with heap:=zE s.heap b c l m }) :=
 .of_wp λprog w A R s h=>by
  obtain⟨e,g,d,t,o⟩:=s;obtain⟨x,f,h⟩:=h;have a:=sub_zip;have i:SrcO (Zf.heap ⟨e,g,d,t,o⟩) b l xs:=x;have y:SrcO (Zf.heap ⟨e.push (itO b l),g,d,t,o⟩) c m ys:=SrcO.push f _
  wp_walk using zni i,zni y
  exact⟨_,rfl,h⟩
section
variable {prog:Program}{w:World}{A:Around}{E:Ze->Zf->Prop}{s:Zf}
theorem zy8 {b c:Bool}{l m:Zh}{xs ys:Array Ze}{Q:Ze->Zf->Prop} (q:SrcO s.heap b l xs) (t:SrcO s.heap c m ys)
  (h:∀a,IsZip a (s.heap.objs.size+4) (s.heap.objs.size+2) (s.heap.objs.size+3) .none->IsPair a (s.heap.objs.size+2) (.ref s.heap.objs.size) (.ref #v[7,11])->IsPair a (s.heap.objs.size+3) .none .none ->
   a.get? s.heap.objs.size=Za (itO b l)->a.get? #v[7,11]=Za (itO c m)->(∀c o,s.heap.get? c=Za o->a.get? c=Za o)->Q (.ref (s.heap.objs.size+4)) { s with heap:=a }) :
  wpAny (model prog w) A (call (.type "zip") [.ref l,.ref m]) Q E s:=by
 refine callType_new F.called_zip #v[0,9] (F.typeCall_zip_2 _ _) (F.newCall_zip_2 _ _) (λobj=>F.args_object_init_3 obj _ _) F.entry_zip_new (zve b c l m xs ys) ⟨q,t,?_⟩;have d:(zA s.heap b l).objs.size=s.heap.objs.size+1:=Df ..;have n:(zB s.heap b c l m).objs.size=s.heap.objs.size+2:=by rw[Df,d]
 have f:(zC s.heap b c l m).objs.size=s.heap.objs.size+3:=by rw[Df,n]
 have i:(zD s.heap b c l m).objs.size=s.heap.objs.size+4:=by rw[Df,f]
 have u:∀r o,s.heap.get? r=Za o->(zE s.heap b c l m).get? r=Za o:=λr o x=>Ac _ (Ac _ (Ac _ (Ac _ (Ac _ x))));have e:(zE s.heap b c l m).get? (zD s.heap b c l m).objs.size=Za _:=Aq _ rfl;have k:(zE s.heap b c l m).get? (zC s.heap b c l m).objs.size=Za _:=Ac _ (Aq _ rfl);have g:(zE s.heap b c l m).get? (zB s.heap b c l m).objs.size=Za _:=Ac _ (Ac _ (Aq _ rfl));have j:(zE s.heap b c l m).get? (zA s.heap b l).objs.size=Za (itO c m):=Ac _ (Ac _ (Ac _ (Aq _ rfl)));have p:(zE s.heap b c l m).get? s.heap.objs.size=Za (itO b l):=Ac _ (Ac _ (Ac _ (Ac _ (Aq _ rfl))));show _/\_;rw[n,f,i] at e;rw[d,n] at g;rw[f] at k;rw[d] at j;rw[i];exact⟨⟨_,e,rfl⟩,h _ e g k p j u⟩
end
noncomputable def SqK (K:Zg) (k:Bool) (H:Hp) (a:Zh) (xs:List V):Prop:=match k with
 |true=>SqL K H a xs
 |false=>SqT K H a xs
noncomputable def ItI (h:Heap) (k:Bool) (it l:Zh) (i:Nat):Prop:=match k with
 |true=>h.IsListIter it l i
 |false=>h.IsTupleIter it l i
theorem SqK.mono {K:Zg}{k:Bool}{F H:Hp}{a:Zh}{xs:List V}(s:Same F H)(h:SqK K k F a xs):SqK K k H a xs:=by
 cases k with
 |true=>exact s.seq h
 |false=>exact zcg s h
theorem Inv.sqK {X:Cx}{pins:List (Zh×Obj)}{σ:St}{H:Hp}{s:Zf}{k:Bool}{a:Zh}{xs:List V}(I:Inv X pins σ H s)(h:SqK X.K k H a xs):∃i:List Ze,Vals xs i/\SrcO s.heap k a i.toArray:=by
 cases k with
 |true=>obtain⟨i,r,p,_⟩:=I.list h;exact⟨i,r,p.isList⟩
 |false=>obtain⟨i,r,p,_⟩:=I.tuple h;exact⟨i,r,p⟩
theorem Inv.sqK_inj {X:Cx}{pins:List (Zh×Obj)}{σ:St}{H:Hp}{s:Zf}{k:Bool}{a:Zh}{xs ys:List V}(I:Inv X pins σ H s)(h:SqK X.K k H a xs)(h':SqK X.K k H a ys):xs=ys:=by
 cases k with
 |true=>exact I.list_inj h h'
 |false=>exact I.tuple_inj h h'
theorem ItI.src {h:Heap}{k:Bool}{it l:Zh}{i:Nat}{xs:Array Ze}(a:ItI h k it l i)(b:SrcO h k l xs):Src h it l i xs:=by
 cases k with
 |true=>exact .inl ⟨a,b⟩
 |false=>exact .inr ⟨a,b⟩
theorem Src.itI {h:Heap}{k:Bool}{it l:Zh}{i:Nat}{xs:Array Ze} (c:Src h it l i xs) (b:SrcO h k l xs):ItI h k it l i:=by
 cases k with
 | true =>
  rcases c with⟨c,_⟩|⟨_,⟨o,e,q,_⟩⟩
  ·exact c
  ·obtain ⟨f, a, d, _⟩:=b
   rw[e] at a;obtain rfl:=sI a;rw[q] at d;simp at d
 | false =>
  rcases c with⟨_,⟨o,e,q,_⟩⟩|⟨c,_⟩
  ·obtain ⟨f, a, d, _⟩:=b
   rw[e] at a;obtain rfl:=sI a;rw[q] at d;simp at d
  ·exact c
theorem ItI.at {h h':Heap}{k:Bool}{it l:Zh}{i:Nat}(a:ItI h k it l i)(q:∀o,h.get? it=Za o->h'.get? it=Za o):ItI h' k it l i:=by
 cases k with
 |true=>exact Heap.IsListIter.at a q
 |false=>exact Heap.IsTupleIter.at a q
theorem ItI.obj {h:Heap}{k:Bool}{it l:Zh}{i:Nat}(a:ItI h k it l i):∃o,h.get? it=Za o/\∀v,o.data≠.cell v:=by
 cases k with
 |true=>obtain⟨o,e,_,d⟩:=a;exact⟨o,e,λv z=>by rw[d] at z;cases z⟩
 |false=>obtain⟨o,e,_,d⟩:=a;exact⟨o,e,λv z=>by rw[d] at z;cases z⟩
noncomputable def Itz (K:Zg) (e k:Bool) (a b:Zh):It :=
 ⟨λi H=>∃c d x y,SqK K e H a c/\SqK K k H b d/\c[i]?=Za x/\d[i]?=Za y,
  λi H x f=>∃p v u,x=.ref p/\H p=Zb/\f=upd H p (.tup [v,u])/\(∀c,SqK K e H a c->c[i]?=Za v)/\(∀d,SqK K k H b d->d[i]?=Za u),
  λi H=>∃c d,SqK K e H a c/\SqK K k H b d/\(c.length<=i\/d.length<=i)⟩
noncomputable def zSt (e k:Bool) (z TI TO c d a b:Zh) (i:Nat) (h:Heap):Prop:=IsZip h z TI TO .none/\IsPair h TI (.ref c) (.ref d)/\(∃u v,IsPair h TO u v)/\ItI h e c a i/\ItI h k d b i
theorem z1s {P:Program}{w:World}{K:Zg}{es:List Zi}{x1}{px:Pos}(M O:Bool)(z TI TO l p a b:Zh)(D:ZipApart z TI TO l p a b):Turn P w K (.Tuple es x1 px) (Itz K M O a b) [z,TI,TO,l,p] z (zSt M O z TI TO l p a b) where
 mem:=by simp
 obj:=λi h B c J=>by
  nofun;obtain⟨m,A,⟨u,v,go⟩,n,t⟩:=B;ac_rfl;simp only [Ap,Az,Cb,Gk] at J;rcases J with rfl|rfl|rfl|rfl|rfl
  ·exact⟨_,m,λv q=>by cases q⟩
  ·exact⟨_,A,λv q=>by cases q⟩
  ·exact⟨_,go,λv q=>by cases q⟩
  ·exact n.obj
  ·exact t.obj
 keep:=λi h V B k=>by
  nofun;obtain⟨m,A,⟨u,v,go⟩,n,t⟩:=B;ac_rfl;exact⟨k z (by simp) _ m,k TI (by simp) _ A,⟨u,v,k TO (by simp) _ go⟩,n.at λo e=>k l (by simp) o e,t.at λo e=>k p (by simp) o e⟩
 item:=by
  intro X hP hw hK J i pins s σ H E I Y B hg;subst hP hw hK;nofun;obtain⟨xs,ys,x,y,U,W,e1,e2⟩:=hg;obtain⟨m,A,⟨u0,v0,go⟩,n,t⟩:=B;obtain⟨L,r1,f⟩:=I.sqK U;obtain⟨its',r2,g⟩:=I.sqK W;obtain⟨u,hu,ru⟩:=r1.get e1;obtain⟨v,hv,rv⟩:=r2.get e2;ac_rfl;refine z7b D m A go (n.src f) (t.src g) (x:=u) (y:=v) (by simpa using hu) (by simpa using hv) λV g1 g2 g3 g4 g5 C=>⟨_,rfl,?_⟩;refine wpAny_letOwnedTupleGo_zip g1 λj k1 F=>?_;have lt:∀c o,s.heap.get? c=Za o->c≠s.heap.objs.size:=λc o e=>Bg (Ar e);have kk:∀c o,c ∉ [z,TI,TO,l,p]->s.heap.get? c=Za o->j.get? c=Za o:=λc o d e=>by
   simp only [Ap,Az,Cb,Gk,not_or] at d;exact (F.2 c d.1).trans (C c o d.1 d.2.2.1 d.2.2.2.1 d.2.2.2.2 e)
  obtain⟨o1,eo1⟩:=(n.src f).src;obtain⟨o2,eo2⟩:=(t.src g).src;have N:SrcO V M a L.toArray:=by
   cases M with
   |true=>exact f.at λo e=>C a o D.l1z D.l1TO D.l1i1 D.l1i2 e
   |false=>obtain⟨o,e,r⟩:=f;exact⟨o,C a o D.l1z D.l1TO D.l1i1 D.l1i2 e,r⟩
  have S:SrcO V O b its'.toArray:=by
   cases O with
   |true=>exact g.at λo e=>C b o D.l2z D.l2TO D.l2i1 D.l2i2 e
   |false=>obtain⟨o,e,r⟩:=g;exact⟨o,C b o D.l2z D.l2TO D.l2i1 D.l2i2 e,r⟩
  have G:ItI j M l a (i+1):=(g3.itI N).at λo e=>(F.2 l D.i1z).trans e;have Q:ItI j O p b (i+1):=(g4.itI S).at λo e=>(F.2 p D.i2z).trans e;have T:IsPair j TI (.ref l) (.ref p):=(F.2 TI D.TIz).trans (C TI _ D.TIz D.TITO D.TIi1 D.TIi2 A);have R:IsPair j TO u v:=(F.2 TO D.TOz).trans g2;have Tz:s.heap.objs.size≠z:=(lt z _ m).symm;refine⟨.ref s.heap.objs.size,upd H s.heap.objs.size (.tup [x,y]),I.turnLay kk (λc d=>?_) Y (Ag _) ⟨by show 2<=sizeLine;decide,[u,v],.cons ru (.cons rv .nil),?_⟩,rfl,⟨_,x,y,rfl,I.hok.fresh (Ag _),rfl,λzs Z=>by rw[I.sqK_inj Z U];exact e1,λzs Z=>by rw[I.sqK_inj Z W];exact e2⟩,⟨k1,T,⟨u,v,R⟩,G,Q⟩,λc d=>?_⟩
  ·simp only [Ap,Az,Cb,Gk] at d;rcases d with rfl|rfl|rfl|rfl|rfl
   ·exact⟨_,k1⟩
   ·exact⟨_,T⟩
   ·exact⟨_,R⟩
   ·obtain⟨o,e,_⟩:=G.obj;exact⟨o,e⟩
   ·obtain⟨o,e,_⟩:=Q.obj;exact⟨o,e⟩
  ·exact⟨_,(F.2 _ Tz).trans g5,⟨rfl,_,rfl⟩,rfl⟩
  ·have ne:c≠s.heap.objs.size:=by
    simp only [Ap,Az,Cb,Gk] at d;rcases d with rfl|rfl|rfl|rfl|rfl
    ·exact lt _ _ m
    ·exact lt _ _ A
    ·exact lt _ _ go
    ·obtain⟨o,e,_⟩:=n.obj;exact lt _ _ e
    ·obtain⟨o,e,_⟩:=t.obj;exact lt _ _ e
   rw[upd_ne ne];exact (Y c d).1
 done:=by
  intro X hP hw hK J i pins s σ H E I Y B hg;subst hP hw hK;nofun;obtain⟨xs,ys,U,W,he⟩:=hg;obtain⟨m,A,⟨u0,v0,go⟩,n,t⟩:=B;obtain⟨L,r1,f⟩:=I.sqK U;obtain⟨its',r2,g⟩:=I.sqK W;ac_rfl;have l1:=r1.length;have l2:=r2.length;refine z9t (I.ok.hd J) D m A go (n.src f) (t.src g) ?_ λV k=>⟨rfl,I.turnL (t':=s.toks) (ch:=[z,TI,TO,l,p]) (λc o d e=>?_) Y⟩
  ·rcases he with he|he
   ·exact .inl (Ey (by simp;omega))
   ·exact .inr (Ey (by simp;omega))
  ·simp only [Ap,Az,Cb,Gk,not_or] at d;exact k c o d.1 d.2.2.1 d.2.2.2.1 d.2.2.2.2 e
 self:=λ_ _ _ _ _ B h=>wpAny_pyIter_zip B.1 h
theorem z0s:bootBuiltins "zip" = Za (.type "zip"):=by decide +kernel
section
variable {X:Cx}
noncomputable def iZip (K:Zg) (t:TA):TI:=λσ H R=>t σ H λv c=>∃a b d k x y,v=[.ref a,.ref b]/\SqK K d c a x/\SqK K k c b y/\R (Itz K d k a b) c
theorem ybw {es:List Zi}{x1}{W:Pos}{l m:Zi}{C:TA}{p pos:Pos} (J:Gl X "zip") (F:X.mg "zip" = Zb) (T:PA X [l,m] C) (Z:starEach [l,m] X.env=[(Zc,eval l X.env),(Zc,eval m X.env)]) (j:starEach [m] X.env=[(Zc,eval m X.env)]) :
  PI X (.Tuple es x1 W) (.Call (.Name "zip" p) [l,m] [] pos) (iZip X.K C):=by
 intro pins s σ H R I h;refine Call_ (zcs I J F z0s (Bw (thn (T pos pins s σ H _ I h) λus d ⟨vs,H1,i,V,N⟩=>?_) (by rw[Z,j]) (by rw[j];rfl)));nofun;obtain⟨a,b,t,v,xs,ys,e,O,q3,q⟩:=N;ac_rfl;subst e;cases V with
 | cons r x =>
  cases x with
  | cons E x =>
   cases x;cases r;cases E;refine aG λ_ qG=>?_;obtain ⟨P,U,f⟩:=i.sqK O;obtain ⟨its',Y,g⟩:=i.sqK q3;refine qG ?_;clear qG;refine zy8 f g λy A G K M Q u=>wpAny_pyIter_zip A ?_;have n:a<d.heap.objs.size:=by
    cases t with
    |true=>obtain⟨o,e,_⟩:=f;exact Ar e
    |false=>obtain⟨o,e,_⟩:=f;exact Ar e
   have w:b<d.heap.objs.size:=by
    cases v with
    |true=>obtain⟨o,e,_⟩:=g;exact Ar e
    |false=>obtain⟨o,e,_⟩:=g;exact Ar e
   have D:ZipApart (d.heap.objs.size+4) (d.heap.objs.size+2) (d.heap.objs.size+3) d.heap.objs.size (d.heap.objs.size+1) a b:=by
    have u:∀{c:Zh} (k:Nat),c<d.heap.objs.size->c≠d.heap.objs.size+k:=λk h=>Bg (Bd h (Dx _ k));refine⟨?_,?_,?_,?_,?_,?_,?_,?_,?_,?_,u 4 n,u 3 n,u 0 n,u 1 n,u 4 w,u 3 w,u 0 w,u 1 w⟩<;>(intro z;have z':(_:Nat)=_:=z;omega)
   have S:ItI y t d.heap.objs.size a 0:=by cases t<;>exact⟨_,M,rfl,rfl⟩
   have L:ItI y v (d.heap.objs.size+1) b 0:=by cases v<;>exact⟨_,Q,rfl,rfl⟩
   refine ⟨_,_,_,_,H1,rfl,i.kept (t':=d.toks) u,z1s t v _ _ _ _ _ a b D,⟨A,G,⟨_,_,K⟩,S,L⟩,λc B=>?_,q⟩;have le:d.heap.objs.size<=c:=by
    simp only [Ap,Az,Cb,Gk] at B;rcases B with rfl|rfl|rfl|rfl|rfl
    ·exact Dx _ _
    ·exact Dx _ _
    ·exact Dx _ _
    ·exact Ag _
    ·exact Dx _ _
   exact i.fpOk le (i.hok.fresh le)
end
noncomputable def zipW:List W->List W->List W
 |x::b,y::a=>.tup [x,y]::zipW b a
 |_,_=>[]
theorem zev:∀(x y:List W),(zipW x y).length=min x.length y.length
 |[],_=>by simp [zipW]
 |_::_,[]=>by simp [zipW]
 |_::x,_::y=>by simp only [zipW,Ay,zev x y];omega
theorem zjy:∀{b a:List W}{i:Nat}{x y:W},b[i]?=Za x->a[i]?=Za y->(zipW b a)[i]?=Za (.tup [x,y])
 |[],_,_,_,_,e,_=>by simp at e
 |_::_,[],_,_,_,_,e=>by simp at e
 |_::b,_::a,0,_,_,e,c=>by simp at e c;subst e c;rfl
 | _::b,_::a,i+1,x,y,e,c=>by
  show (zipW b a)[i]?=_;exact zjy (by simpa using e) (by simpa using c)
noncomputable def gZip (g g':GE):GL:=λen=>(g en).bind λp=>(g' p.1).bind λq=>(seqW p.2.1).bind λw=>(seqW q.2.1).bind λu=>Za (q.1,zipW w u)
section
variable {K:Zg}{F H:Hp}{σ:St}
theorem zeh {w:W}{ws:List W}{v:V} (y:Rep K F w v) (h:seqW w=Za ws):∃a k b,v=.ref a/\SqK K k F a b/\Reps K F ws b:=by
 cases w with
 | lst x=>obtain rfl:=sI h;cases y with
  |lst y r=>exact⟨_,Zd,_,rfl,SqL.of' y,r⟩
 | frl x=>obtain rfl:=sI h;cases y with
  |frl y r=>exact⟨_,Zd,_,rfl,y,r⟩
 | tup x=>obtain rfl:=sI h;cases y with
  |tup y r=>exact⟨_,Zc,_,rfl,.inl (.inl y),r⟩
 |_=>exact noSome h
theorem z98 {a b:Zh}{k f:Bool}{vs c:List V}{ws z:List W}(h:SqK K k F a vs)(h':SqK K f F b c)(r:Reps K F ws vs)(d:Reps K F z c):ItOk K F (Itz K k f a b) (zipW ws z) where
 go:=λi H s e=>by
  rw[zev] at e;have l:i<vs.length:=by rw[<-r.length];omega
  have B:i<c.length:=by rw[<-d.length];omega
  exact⟨vs,c,vs[i],c[i],h.mono s,h'.mono s,Ae l,Ae B⟩
 stop:=λH s=>⟨vs,c,h.mono s,h'.mono s,by rw[zev,r.length,d.length];omega⟩
 yld:=λi H x C s e y=>by
  nofun;obtain⟨p,v,u,A,n,o,j,w⟩:=y;ac_rfl;subst A o;nofun;obtain⟨D,t,q⟩:=r.getV (j vs (h.mono s));obtain⟨E,g,m⟩:=d.getV (w c (h'.mono s));ac_rfl;exact⟨_,zjy t g,.tup n (.cons q (.cons m .nil))⟩
theorem zy7 {g g':GE}{R:It->Hp->Prop}(h:tI K (gZip g g') σ H R):iZip K (zds (tE K g) (zds (tE K g') tNil)) σ H R:=by
 nofun;obtain⟨F,pr,en,n,S,Re,h,q⟩:=h;obtain⟨⟨j,L⟩,o,h⟩:=bS h;obtain⟨⟨C,I⟩,A,h⟩:=bS h;obtain⟨U,N,h⟩:=bS h;obtain⟨W,c,h⟩:=bS h;ac_rfl;cases h;refine⟨F,pr,en,j,L,Re,o,λV X v p O z=>?_⟩;nofun;obtain⟨r,D,R2,y⟩:=z.freeze O;ac_rfl;refine⟨r,pr,j,C,I,R2,A,λT m Q s t J=>?_⟩;nofun;obtain⟨x,k,e,P⟩:=J.freeze t;obtain⟨a,u,w,l,i,G⟩:=zeh (y.mono (s.trans k)) N;obtain⟨b,B,d,M,f,E⟩:=zeh P c;ac_rfl;subst l M;exact⟨a,b,u,B,w,d,rfl,i.mono e.sub,f.mono e.sub,q x m _ (p.trans (D.trans (s.trans k))) e (z98 i f G E)⟩
end
open AutoSeq1 (wpAny_loadPart')
section
variable {prog:Program}{w:World}{A:Around}{E:Ze->Zf->Prop}{s:Zf}
theorem zvb {it l:Zh}{xs:Array Ze}(ne:l≠it)(u:A.handled=Zb):Draws prog w A.in1 it [it,l] xs.size (λi x=>xs[i]?=Za x) (λk h=>h.IsTupleIter it l k/\h.IsTuple l xs) where
 live:=λi h a=>let ⟨⟨o,e,_⟩,_⟩:=a;⟨o,e⟩
 frame:=λi h f a k=>⟨a.1.at λo e=>k it (by simp) o e,let ⟨o,e,r⟩:=a.2;⟨o,k l (by simp) o e,r⟩⟩
 item:=λi s Q E d a q=>zf8 (k:=i) (xs:=xs) (x:=xs[i]) (.inr a) (Array.getElem?_eq_getElem d) ne λf c g=>by
  rcases c with⟨⟨o,e,C,_⟩,b⟩|c
  ·obtain ⟨D, B, p, _⟩:=a.1;have:=a.2;exact absurd b (λb=>by
   obtain⟨z,j,m,_⟩:=b;obtain⟨y,n,t,_⟩:=a.2;rw[(g.2 l ne).trans n] at j;obtain rfl:=sI j;rw[t] at m;exact absurd (Ze.type.inj m) #v[0,9])
  ·exact q xs[i] f s.toks (Array.getElem?_eq_getElem d) c g
 done:=λs Q E a q=>zkm (k:=xs.size) (xs:=xs) (show A.in1.handled=Zb from u) (.inr a) (Ey (Ag _)) q
theorem zoy (l:Zh) (items:Array Ze) (n:Nat) (dct:Option Zh) (f:Array (Option Ze)) :
  Meets (Builtin.«enumerate.__new__» ⟨[.type "enumerate",.ref l],[]⟩) (λ_ R s=>s.heap.get? l=Za { cls:=.type "tuple",dict:=dct,data:=.seq items n,slots:=f } /\
   R (.ok (.ret (.ref (s.heap.push { cls:=.type "tuple_iterator",data:=.fields #[.ref l,.int 0 0] }).objs.size)))
    { s with heap:=(s.heap.push { cls:=.type "tuple_iterator",data:=.fields #[.ref l,.int 0 0] }).push { cls:=.type "enumerate",data:=.fields #[.none,.bool Zc,.ref s.heap.objs.size,rawInt 0,.none,.none] } }) :=
 .of_wp λprog w A R s h=>by
  obtain⟨i,g,d,t,o⟩:=s;obtain⟨a,h⟩:=h;have b:=sub_enumerate;have e:Heap.IsTuple (Zf.heap ⟨i,g,d,t,o⟩) l items:=⟨_,a,rfl,n,rfl⟩
  wp_walk using Dg a
  refine wpAny_stack_any λj=>Am ?_;split
  ·rename_i c _ _ _ _ _;cases (c==Ze.type "enumerate")<;>(wp_walk using Dg a,Ge e)<;>exact⟨_,rfl,h⟩
  ·wp_walk using Dg a,Ge e
   exact⟨_,rfl,h⟩
theorem zsa {l:Zh}{items:Array Ze}{Q:Ze->Zf->Prop} (g:s.heap.IsTuple l items)
  (h:∀a,IsEnum a #v[7,11] s.heap.objs.size 0 .none->a.IsTupleIter s.heap.objs.size l 0->(∀b o,s.heap.get? b=Za o->a.get? b=Za o)->Q (.ref #v[7,11]) { s with heap:=a }) :
  wpAny (model prog w) A (call (.type "enumerate") [.ref l]) Q E s:=by
 nofun;obtain⟨⟨c,dct,k,j⟩,i,f,n,m⟩:=g;ac_rfl;cases (show c=.type "tuple" from f);cases (show k=.seq items n from m);refine callType_new F.called_enumerate #v[0,9] (F.typeCall_enumerate_1 _) (F.newCall_enumerate_1 _) (λobj=>F.args_object_init_2 obj _) F.entry_enumerate_new (zoy l items n dct j) ⟨i,?_⟩;have e:(s.heap.push { cls:=.type "tuple_iterator",data:=.fields #[.ref l,.int 0 0] }).objs.size=s.heap.objs.size+1:=Df ..;show _/\_;rw[e];have d:=Aq (s.heap.push { cls:=.type "tuple_iterator",data:=.fields #[.ref l,.int 0 0] }) (o:={ cls:=.type "enumerate",data:=.fields #[.none,.bool Zc,.ref s.heap.objs.size,rawInt 0,.none,.none] }) rfl;rw[e] at d;exact⟨⟨_,d,rfl⟩,h _ d ⟨_,Ac _ (Aq _ rfl),rfl,rfl⟩ λb o x=>Ac _ (Ac _ x)⟩
end
noncomputable def IteT (K:Zg) (a:Zh):It :=
 ⟨λi H=>∃b x,SqT K H a b/\b[i]?=Za x,λi H x c=>∃p v,x=.ref p/\H p=Zb/\c=upd H p (.tup [.int i,v])/\∀b,SqT K H a b->b[i]?=Za v,λi H=>∃b,SqT K H a b/\b.length<=i⟩
theorem zrs {P:Program}{w:World}{K:Zg}{es:List Zi}{x1}{px:Pos}(a e it:Zh)(B:e≠it)(M:e≠a)(W:a≠it):Turn P w K (.Tuple es x1 px) (IteT K a) [e,it] e (λi h=>(∃g,IsEnum h e it i g)/\h.IsTupleIter it a i) where
 mem:=by simp
 obj:=λi h r b f=>by
  nofun;obtain⟨⟨g,j⟩,o,hi,c,d⟩:=r;ac_rfl;rcases Ap.mp f with rfl|f
  ·exact⟨_,j,λv z=>by cases z⟩
  ·have:b=it:=by simpa using f
   subst this;exact⟨o,hi,λv z=>by rw[d] at z;cases z⟩
 keep:=λi h h' r k=>⟨let ⟨g,j⟩:=r.1;⟨g,k e (by simp) _ j⟩,r.2.at λo z=>k it (by simp) o z⟩
 item:=by
  intro X hP O hK R i pins s σ H E I L r N;subst hP O hK;nofun;obtain⟨xs,x,J,Q⟩:=N;obtain⟨l,rv,p,hz⟩:=I.tuple J;obtain⟨u,hu,ru⟩:=rv.get Q;obtain⟨⟨g,j⟩,t⟩:=r;ac_rfl;have hT:s.heap.IsTuple a l.toArray:=p;have lt:i<l.toArray.size:=by
   rw[Ak];exact (Af.mp hu).1
  refine wpAny_pyNext_enum_itemD (zvb W (I.ok.hd R)) j ⟨t,hT⟩ lt B (by simp [B,M]) λy h' tk U Z V S hsz hk=>⟨_,rfl,?_⟩;have eu:y=u:=by
   have:l[i]?=Za y:=by simpa using U
   rw[hu] at this;exact (sI this).symm
  subst eu;refine wpAny_letOwnedTupleGo_enum Z λC A m=>?_;have kk:∀b o,b ∉ [e,it]->s.heap.get? b=Za o->C.get? b=Za o:=λb o f q=>by
   have h1:b≠e:=λz=>f (by simp [z]);have h2:b≠it:=λz=>f (by simp [z]);exact (m.2 b h1).trans (hk b o h1 h2 q)
  have G:s.heap.objs.size≠e:=λz=>absurd (Ar j) (by rw[z];exact Bx _);have n:C.IsTupleIter it a (i+1):=V.1.at λo y=>(m.2 it B.symm).trans y;refine⟨.ref s.heap.objs.size,upd H s.heap.objs.size (.tup [.int i,x]),I.turnLay kk (λb f=>?_) L (Ag _) ⟨by show 2<=sizeLine;decide,[.int i tk,y],.cons ⟨_,rfl⟩ (.cons ru .nil),?_⟩,rfl,⟨_,x,rfl,I.hok.fresh (Ag _),rfl,λys U=>by rw[I.tuple_inj U J];exact Q⟩,⟨⟨_,by simpa using A⟩,n⟩,λb f=>?_⟩
  ·rcases Ap.mp f with rfl|f
   ·exact⟨_,A⟩
   ·have:b=it:=by simpa using f
    subst this;obtain⟨o,z,_⟩:=n;exact⟨o,z⟩
  ·exact⟨_,(m.2 _ G).trans S,⟨rfl,_,rfl⟩,rfl⟩
  ·have:b≠s.heap.objs.size:=by
    rcases Ap.mp f with rfl|f
    ·exact G.symm
    ·have e2:b=it:=by simpa using f
     subst e2;obtain⟨o,z,_⟩:=t;exact Bg (Ar z)
   rw[upd_ne this];exact (L b f).1
 done:=by
  intro X hP O hK R i pins s σ H E I L r N;subst hP O hK;nofun;obtain⟨xs,J,Q⟩:=N;obtain⟨l,rv,p,hz⟩:=I.tuple J;obtain⟨⟨g,j⟩,t⟩:=r;obtain⟨f0,f1,f2,f3,f4,f5⟩:=L it (by simp);ac_rfl;have hl:=rv.length;have hT:s.heap.IsTuple a l.toArray:=p;have D:s.TypeIs (.ref e) "enumerate" := ⟨_,j,rfl⟩;unfold pyNext;refine Aa (Hr (Di (name:=Str.ofString "__next__") D F.slot_enumerate_next (Fa F.slot_enumerate_next D F.entry_enumerate_next ?_ (F.args_enumerate_next_1 _))));show wpAny _ _ (field (.ref e) 2>>=_) _ _ _;refine Aa (Da j rfl (x:=.ref it) rfl ?_);refine Aa (zkm (show _=Zb from I.ok.hd R) (.inr ⟨t,hT⟩) (Ey (by simp;omega)) λh' x eb Y=>?_);obtain⟨o,Z,hc'⟩:=Y;refine Aa (wpAny_isInstance (T := "StopIteration") (b:=Zd) ⟨o,Z,hc'⟩ isSubtype_stop ?_);exact Am ⟨rfl,I.turned (t':=s.toks) (λb o f e=>eb b o f e) f0 f1 f3 f4 f5⟩
 self:=λ_ _ _ _ _ r h=>let ⟨_,j⟩:=r.1;Hq j h
section
variable {X:Cx}
noncomputable def z22 (K:Zg) (t:TA):TI:=λσ H R=>t σ H λv b=>∃a x,v=[.ref a]/\(SqL K b a x/\R (Ite K a) b\/SqT K b a x/\R (IteT K a) b)
theorem z0r {es:List Zi}{K}{E:Pos}{l:Zi}{u:TA}{p pos:Pos} (y:Gl X "enumerate") (w:X.mg "enumerate" = Zb) (B:PA X [l] u) (J:starEach [l] X.env=[(Zc,eval l X.env)]:=by rfl) :
  PI X (.Tuple es K E) (.Call (.Name "enumerate" p) [l] [] pos) (z22 X.K u):=by
 intro pins s σ H R I h;refine Call_ (zcs I y w boot_enumerate (Bw (thn (B pos pins s σ H _ I h) λN c ⟨M,t,f,D,z⟩=>?_) J rfl));obtain⟨a,L,e,q⟩:=z;subst e;cases D with
 | cons r G =>
  cases G;cases r;have fp:∀b∈[c.heap.objs.size+1,c.heap.objs.size],FpOk X pins t b:=λb m=>by
   have e:c.heap.objs.size<=b:=by
    rcases Ap.mp m with rfl|m
    ·exact Nat.le_succ _
    ·have C:b=c.heap.objs.size:=by simpa using m
     rw[C];exact Ag _
   exact f.fpOk e (f.hok.fresh e)
  rcases q with⟨k,q⟩|⟨k,q⟩
  ·obtain ⟨i,F,n, x⟩:=f.list k
   refine call_enumerate_list n.isList λA g d v j=>Hq g ?_;exact⟨c.heap.objs.size+1,[c.heap.objs.size+1,c.heap.objs.size],_,_,t,rfl,f.kept (t':=c.toks) j,zxo a _ _ (Nat.succ_ne_self _),⟨⟨_,by simpa using g⟩,d⟩,fp,q⟩
  ·obtain ⟨i,F,n, x⟩:=f.tuple k
   have hT:c.heap.IsTuple a i.toArray:=n;have al:a<c.heap.objs.size:=let ⟨o,e,_⟩:=hT;Ar e;refine zsa hT λA g d j=>Hq g ?_;exact⟨c.heap.objs.size+1,[c.heap.objs.size+1,c.heap.objs.size],_,_,t,rfl,f.kept (t':=c.toks) j,zrs a _ _ (Nat.succ_ne_self _) (Nat.ne_of_gt (Ei al)) (Bg al),⟨⟨_,by simpa using g⟩,d⟩,fp,q⟩
end
section
variable {K:Zg}{F H:Hp}{σ:St}
theorem z1i {a:Zh}{vs:List V}{ws:List W}(h:SqT K F a vs)(r:Reps K F ws vs):ItOk K F (IteT K a) (zhw ws 0) where
 go:=λi H s b=>by rw[zcx] at b;exact⟨vs,vs[i]'(by rw[<-r.length];exact b),zcg s h,by rw[Ae]⟩
 stop:=λH s=>⟨vs,zcg s h,by rw[zcx,r.length];exact Ag _⟩
 yld:=λi H x f s b y=>by
  nofun;obtain⟨p,v,e,d,c,y⟩:=y;ac_rfl;subst e c;obtain⟨w,e,q⟩:=r.getV (y vs (zcg s h));refine⟨_,ze8 e,?_⟩;rw[Co];exact .tup d (.cons (.int _) (.cons q .nil))
noncomputable def zr3 (g:GE):GL:=λen=>(g en).bind λp=>(seqW p.2.1).bind λw=>Za (p.1,zhw w 0)
theorem zuw {g:GE}{R:It->Hp->Prop}(h:tI K (zr3 g) σ H R):z22 K (zds (tE K g) tNil) σ H R:=by
 nofun;obtain⟨F,pr,en,j,w,Re,h,q⟩:=h;obtain⟨⟨p,m⟩,l,h⟩:=bS h;obtain⟨u,n,h⟩:=bS h;ac_rfl;cases h;refine⟨F,pr,en,p,m,Re,l,λt i v s o z=>?_⟩;nofun;obtain⟨c,f,R2,y⟩:=z.freeze o;obtain⟨a,k,d,e,b,r⟩:=zeh y n;ac_rfl;subst e;cases k with
 |true=>exact⟨a,d,rfl,.inl ⟨R2.sub.seq b,q c i _ (s.trans f) R2 (z4x b r)⟩⟩
 |false=>exact⟨a,d,rfl,.inr ⟨zcg R2.sub b,q c i _ (s.trans f) R2 (z1i b r)⟩⟩
end
end L2
namespace L2
open PySem PySem.Spec PyProof.Rows
section
variable {X:Cx}{pins:List (Zh × Obj)}{σ:St}{H:Hp}{s:Zf}
end
section
variable {K:Zg}{F H:Hp}
end
noncomputable abbrev Fn:=List W->Option (List W×(W×Bool))
noncomputable def za8 (m:List Bool) (ws:List W):En:=List.zipWith (λw b=>Za (w,b)) ws m
noncomputable def spF (K:Zg) (m:List Bool) (Φ:Fn):Sp:=λc H Q _=>∃F pr b w r,b.length=m.length/\w.length=m.length/\Rel K F pr (za8 m b) (c.map Za) H/\Φ b=Za (w,r) /\
 ∀d a v,Same F d->Rel K d pr (za8 m w) (c.map Za) a->Res K d a pr (za8 m w) (c.map Za) r v->Q v a
theorem ze5 {m:List Bool}{ws:List W}{k:Nat}{w:W}{b:Bool}:(za8 m ws)[k]?=Za (Za (w,b))↔ws[k]?=Za w/\m[k]?=Za b:=by
 unfold za8;rw[List.getElem?_zipWith];cases ws[k]?<;>cases m[k]?<;>simp
theorem ze2 {m:List Bool}{ws:List W}(h:ws.length=m.length):(za8 m ws).length=m.length:=by
 unfold za8;rw[Fv,h,Ha]
theorem zv3 {K:Zg}{m:List Bool}{Φ:Fn}{vs:List V}{H:Hp}{Q:VK}{E:XK}(h:spF K m Φ vs H Q E):vs.length=m.length:=by
 obtain⟨F,pr,b,w,r,a,_,R,_⟩:=h;have:=R.len;rw[ze2 a,Ad] at this;exact this.symm
noncomputable def isR:W ⊕ Nat->Bool
 |.inr _=>Zd
 |.inl _=>Zc
noncomputable def za6 (xs:List (W ⊕ Nat)):Cap:=xs.map λx=>match x with
 |.inr i=>Za i
 |.inl _=>Zb
noncomputable def zaw (en:En) (xs:List (W ⊕ Nat)):Bool:=xs.all λx=>match x with
 | .inr i=>match en[i]? with
  |some (#v[_,5])=>Zd
  |_=>Zc
 |.inl _=>Zd
noncomputable def gCall (m:List Bool) (Φ:Fn) (as:GAs):GE:=λen=>(as en).bind λp=>if decide (p.2.map isR=m)&&zaw p.1 p.2&&zb0 (za6 p.2) then (zas p.1 p.2).bind λw=>(Φ w).bind λq=>if q.1.length=m.length then Za (zau (za6 p.2) p.1 (za8 m q.1),q.2) else Zb else Zb
theorem ArgRs.get {K:Zg}{F:Hp}{σ:St}:∀{a:List (W ⊕ Nat)}{b:List V}{k:Nat}{x:W ⊕ Nat},ArgRs K F σ a b->a[k]?=Za x->∃v,b[k]?=Za v/\ArgR K F σ x v
 |_,_,_,_,.nil,e=>by simp at e
 |_,_,0,_,.cons h _,e=>by simp at e;subst e;exact⟨_,rfl,h⟩
 | _,_,k+1,x,.cons _ r,e=>by
  obtain⟨v,d,c⟩:=ArgRs.get (k:=k) (x:=x) r (by simpa using e);exact⟨v,by simpa using d,c⟩
theorem ArgRs.length {K:Zg}{F:Hp}{σ:St}:∀{x:List (W ⊕ Nat)}{v:List V},ArgRs K F σ x v->x.length=v.length
 |_,_,.nil=>rfl
 |_,_,.cons _ r=>congrArg (· + 1) (ArgRs.length r)
theorem zm6 {en:En}:∀{b:List (W ⊕ Nat)}{a:List W},zas en b=Za a->a.length=b.length
 |[],_,e=>by obtain rfl:=sI e;rfl
 | x::b,_,e=>by
  obtain⟨w,_,e⟩:=bS e;obtain⟨a,h,e⟩:=bS e;obtain rfl:=sI e;exact congrArg (· + 1) (zm6 h)
theorem zmt {en:En}:∀{a:List (W ⊕ Nat)}{b:List W}{k:Nat}{w:W},zas en a=Za b->b[k]?=Za w->∃x,a[k]?=Za x/\resA en x=Za w
 |[],_,_,_,e,h=>by obtain rfl:=sI e;simp at h
 | x::a,_,k,w,e,h=>by
  obtain⟨u,c,e⟩:=bS e;obtain⟨i,d,e⟩:=bS e;obtain rfl:=sI e;cases k with
  |zero=>simp at h;subst h;exact⟨x,rfl,c⟩
  |succ k=>obtain⟨y,g,f⟩:=zmt (k:=k) d (by simpa using h);exact⟨y,by simpa using g,f⟩
theorem zez {xs:List (W ⊕ Nat)}{k i:Nat}:(za6 xs)[k]?=Za (Za i)↔xs[k]?=Za (.inr i):=by
 unfold za6;rw[Aj];cases e:xs[k]? with
 |none=>simp
 |some x=>cases x<;>simp
section
variable {K:Zg}{F H:Hp}{pr:Prt}{en:En}{σ:St}
theorem Rel.back {cap:Cap}{B H':Hp}{L:En}{A:St} (R:Rel K F pr en σ H) (s:Same F B) (I:Rel K B (zby pr cap en σ H) L A H') (slot:∀(i j:Nat) (v:V),zav cap i=Za j->A[j]?=Za (Za v)->σ[i]?=Za (Za v)) :
  Rel K B pr (zau cap en L) σ H'/\∀r v,Res K B H' (zby pr cap en σ H) L A r v->Res K B H' pr (zau cap en L) σ r v:=by
 have un:∀(i:Nat) (w:W),zav cap i=Zb->en[i]?=Za (Za (w,Zd))->∃(a:Zh) (m:HO) (n:W),w=n/\σ[i]?=Za (Za (V.ref a))/\H a=Za m/\H' a=Za m/\B a=Zb/\OwnR K F n m/\∀(j:Nat) (y:W),L[j]?=Za (Za (y,Zd))->A[j]?≠Za (Za (V.ref a)):=λi w c e=>by
  obtain⟨a,m,n,t,h,g,J,D⟩:=R.own i w e;obtain⟨S,Q,T⟩:=I.prt a m (.inr ⟨i,w,e,c,h,g⟩);exact⟨a,m,n,t,h,g,S,Q,D,T⟩
 have d:∀(i j:Nat) (w:W),zav cap i=Za j->L[j]?=Za (Za (w,Zd))->∃(a:Zh) (m:HO) (n:W),w=n/\σ[i]?=Za (Za (V.ref a))/\A[j]?=Za (Za (V.ref a))/\H' a=Za m/\B a=Zb/\OwnR K B n m:=λi j w c e=>by
  obtain⟨a,m,n,t,h,g,J,D⟩:=I.own j w e;exact⟨a,m,n,t,slot i j _ c h,h,g,J,D⟩
 refine⟨⟨by unfold zau;rw[List.length_mapIdx];exact R.len,I.sub,λi w e=>?_,λi w e=>?_,λi k a w y E u P M=>?_,λb o q=>?_,I.tb.go (λb xs z=>.inl z) (λb ps e f=>⟨e,f⟩) (.refl B) λb ps e hh o z=>hh o (.inl z)⟩,λr v z=>?_⟩
 ·rcases backEn_get e with ⟨j,c,e⟩ | ⟨c,e⟩
  ·obtain ⟨v,t,h⟩:=I.val j w e
   exact⟨v,slot i j v c t,h⟩
  ·obtain ⟨v,t,h⟩:=R.val i w e
   exact⟨v,t,h.mono s⟩
 ·rcases backEn_get e with ⟨j,c,e⟩ | ⟨c,e⟩
  ·obtain ⟨a,m,n,t,h,_,g,J,D⟩:=d i j w c e
   exact⟨a,m,n,t,h,g,J,D⟩
  ·obtain ⟨a,m,n,t,h,_,g,J,D,_⟩:=un i w c e
   exact⟨a,m,n,t,h,g,J,D.mono s⟩
 ·rcases backEn_get E with ⟨j,c,E⟩ | ⟨c,E⟩
  ·obtain ⟨N, _,_,_,h,g,_⟩:=d i j w c E
   rw[P] at h;cases h;rcases backEn_get u with⟨l,G,u⟩|⟨G,u⟩
   ·obtain ⟨N, _,_,_,C,O,_⟩:=d k l y G u
    rw[M] at C;cases C;have:=I.inj j l a _ _ E u g O;subst this;have x:=zbg c;rw[zbg G] at x;cases x;rfl
   ·obtain ⟨N, _,_,_,C,_,_,_,_,O⟩:=un k y G u
    rw[M] at C;cases C;exact absurd g (O j w E)
  ·obtain ⟨N, _,_,_,h,_,_,_,_,g⟩:=un i w c E
   rw[P] at h;cases h;rcases backEn_get u with⟨l,G,u⟩|⟨G,u⟩
   ·obtain ⟨N, _,_,_,C,O,_⟩:=d k l y G u
    rw[M] at C;cases C;exact absurd O (g l y u)
   ·exact R.inj i k a _ _ E u P M
 ·obtain ⟨S,Q,T⟩:=I.prt b o (.inl q)
  refine⟨S,Q,λi w e=>?_⟩;rcases backEn_get e with⟨j,c,e⟩|⟨c,e⟩
  ·obtain ⟨a,_,_,_,h,g,_⟩:=d i j w c e
   rw[h];intro z;cases z;exact T j w e g
  ·exact (R.prt b o q).2.2 i w e
 ·obtain ⟨w,fl⟩:=r
  cases fl with
  |false=>exact z
  | true =>
   obtain⟨a,m,n,P,M,q3,Y,q5,Z,X⟩:=z;refine⟨a,m,n,P,M,q3,Y,q5,λi y e=>?_,λb o p=>X b o (.inl p)⟩;rcases backEn_get e with⟨j,c,e⟩|⟨c,e⟩
   ·obtain ⟨N, _,_,_,h,g,_⟩:=d i j y c e
    rw[h];intro z;cases z;exact Z j y e g
   ·obtain ⟨N, U, ws', t,h,g,J,D⟩:=R.own i y e
    rw[h];intro z;cases z;exact X a U (.inr ⟨i,y,e,c,h,g⟩) rfl
theorem zxj {m:List Bool}{Φ:Fn}{xs:List (W ⊕ Nat)}{e1 en':En}{F H:Hp}{vs:List V}{r:W×Bool}{Q:VK}{E:XK} (R:Rel K F pr e1 σ H) (N:ArgRs K F σ xs vs)
  (h:(if decide (xs.map isR=m)&&zaw e1 xs&&zb0 (za6 xs) then (zas e1 xs).bind λt=>(Φ t).bind λq=>if q.1.length=m.length then Za (zau (za6 xs) e1 (za8 m q.1),q.2) else Zb else Zb)=Za (en',r))
  (q:∀U L v,Same F U->Rel K U pr en' σ L->Res K U L pr en' σ r v->Q v L):spF K m Φ vs H Q E:=by
 split at h
 ·rename_i z
  rw[Ab,Ab] at z;obtain⟨⟨z1,z2⟩,nd⟩:=z;have X:xs.map isR=m:=Ai z1;nofun;obtain⟨t,Z,h⟩:=bS h;obtain⟨⟨T,r'⟩,h3,h⟩:=bS h;ac_rfl;split at h
  ·rename_i hl
   cases h;have lx:t.length=xs.length:=zm6 Z;have lm:xs.length=m.length:=by rw[<-X,Ad]
   have lv:=N.length;have B : ∀(k:Nat) (w:W) (b:Bool),(za8 m t)[k]?=Za (Za (w,b))->∃x v,xs[k]?=Za x/\isR x=b/\resA e1 x=Za w/\vs[k]?=Za v/\ArgR K F σ x v:=λk w b e=>by
    nofun;obtain⟨s,d⟩:=ze5.mp e;obtain⟨x,g,n⟩:=zmt Z s;obtain⟨v,A,g6⟩:=N.get g;ac_rfl;rw[<-X,Aj,g] at d;exact⟨x,v,g,sI d,n,A,g6⟩
   have C:∀(k:Nat) (w:W),(za8 m t)[k]?=Za (Za (w,Zd))->∃i v,xs[k]?=Za (.inr i)/\e1[i]?=Za (Za (w,Zd))/\vs[k]?=Za v/\σ[i]?=Za (Za v):=λk w e=>by
    nofun;obtain⟨x,v,s,d,g,n,A⟩:=B k w Zd e;ac_rfl;cases x with
    |inl _=>cases d
    | inr i =>
     refine⟨i,v,s,?_,n,A⟩;have o:=Aw.mp z2 _ (Bh s);simp only at o;split at o
     ·rename_i w0 e0
      unfold resA at g;simp only [e0] at g;obtain rfl:=sI g;exact e0
     ·cases o
   have RC:Rel K F (zby pr (za6 xs) e1 σ H) (za8 m t) (vs.map Za) H:=by
    refine⟨by rw[ze2 #v[],Ad];omega,R.sub,λk w e=>?_,λk w e=>?_,λk l a w O s d g n=>?_,λb o p=>?_,R.tb.go (λb xs z=>zio R z) (λb ps e f=>⟨e,f⟩) (.refl F) λb ps e hh o z=>zij R e hh o z⟩
    ·refine aG λP qG => ?_
     obtain⟨x,v,s,d,g,n,A⟩:=B k w Zc e;ac_rfl;cases x with
     |inr _=>cases d
     |inl u=>obtain rfl:=sI g;exact⟨v,by rw[Aj,n];rfl,A⟩
    ·refine aG λP qG => ?_
     obtain⟨i,v,s,d,g,n⟩:=C k w e;obtain⟨a,us,Y,G,J,I,S,p5⟩:=R.own i w d;ac_rfl;rw[n] at J;cases J;exact⟨a,us,Y,G,by rw[Aj,g];rfl,I,S,p5⟩
    ·refine aG λP qG => ?_
     obtain⟨i,v,k1,k2,k3,k4⟩:=C k w s;obtain⟨i',v',l1,l2,l3,l4⟩:=C l O d;ac_rfl;rw[Aj,k3] at g;cases g;rw[Aj,l3] at n;cases n;have:=R.inj i i' a _ _ k2 l2 k4 l4;subst this;have y:=zf0 nd (zez.mpr k1);rw[zf0 nd (zez.mpr l1)] at y;exact (sI y).symm
    ·rcases p with p | ⟨j,w,G,J,I,S⟩
     ·obtain ⟨b1,b2,b3⟩:=R.prt b o p
      refine⟨b1,b2,λk w e=>?_⟩;nofun;obtain⟨i,v,s,d,g,n⟩:=C k w e;ac_rfl;rw[Aj,g];intro y;cases y;exact b3 i w d n
     ·refine aG λP qG => ?_
      obtain⟨a,us,Y,p1',D,p3',M,p5'⟩:=R.own j w G;ac_rfl;rw[I] at D;cases D;refine⟨S,M,λk O e=>?_⟩;nofun;obtain⟨i,v,s,d,g,n⟩:=C k O e;ac_rfl;rw[Aj,g];intro y;cases y;have:=R.inj i j _ _ _ d G n I;subst this;exact zc0 J k (zez.mpr s)
   refine ⟨F,zby pr (za6 xs) e1 σ H,t,T,_,by omega,hl,RC,h3,λF2 H2 v s2 R2 y2=>?_⟩;obtain ⟨Ro,rz⟩:=R.back s2 R2 λi j v c e=>by
    have c':=zez.mp (zbg c);obtain⟨v',s,d⟩:=N.get c';rw[Aj,s] at e;cases e;exact d
   exact q F2 H2 v s2 Ro (rz _ _ y2)
  ·cases h
 ·cases h
theorem zx1 {m:List Bool}{Φ:Fn}{as:GAs}{Q:VK}(h:tE K (gCall m Φ as) σ H Q):z4l (spF K m Φ) [] E0 (tAs K as) σ H Q:=by
 nofun;obtain⟨F,pr,en,k,r,R,h,q⟩:=h;obtain⟨⟨f,x⟩,a,h⟩:=bS h;ac_rfl;refine⟨F,pr,en,f,x,R,a,λl j g s e c=>?_⟩;show spF K m Φ (g++[]) j Q E0;rw[By];exact zxj e c h λi d v b=>q i d v (s.trans b)
end
noncomputable def zcw:List Bool->List W->En->Option (List W)
 |[],[],_=>Za []
 |true::m,_::a,#v[w,5]::en=>(zcw m a en).bind λr=>Za (w::r)
 |false::m,w::a,_::en=>(zcw m a en).bind λr=>Za (w::r)
 |_,_,_=>Zb
noncomputable def mpOf (m:List Bool):List Nat:=(List.range m.length).filter λk=>m[k]? == Za Zd
noncomputable def zad (m:List Bool) (n:Nat) (g:GS):Fn:=λa=>if a.length=m.length then match g (za8 m a++List.replicate (n-m.length) Zb) with
 |some (en,.ret r)=>(zcw m a en).bind λw=>Za (w,r)
 |some (en,.nx)=>(zcw m a en).bind λw=>Za (w,(.non,Zc))
 |_=>Zb else Zb
theorem zjw:∀{m:List Bool}{c:List W}{en:En}{a:List W},zcw m c en=Za a->a.length=m.length/\∀(k:Nat) (w:W),a[k]?=Za w->(m[k]?=Za Zd->en[k]?=Za (Za (w,Zd)))/\(m[k]?=Za Zc->c[k]?=Za w)
 |[],[],_,_,e=>by obtain rfl:=sI e;exact⟨rfl,λk w h=>by simp at h⟩
 | true::m,_::c,Za (u,Zd)::en,_,e=>by
  obtain⟨r,h,e⟩:=bS (show (zcw m c en).bind _=_ from e);obtain rfl:=sI e;obtain⟨f,d⟩:=zjw h;refine⟨congrArg (· + 1) f,λk w b=>?_⟩;cases k with
  |zero=>simp at b;subst b;exact⟨λ_=>rfl,λz=>by simp at z⟩
  | succ k =>
   have:=d k w (by simpa using b);exact⟨λz=>by simpa using this.1 (by simpa using z),λz=>by simpa using this.2 (by simpa using z)⟩
 | false::m,u::c,_::en,_,e=>by
  obtain⟨r,h,e⟩:=bS (show (zcw m c en).bind _=_ from e);obtain rfl:=sI e;obtain⟨f,d⟩:=zjw h;refine⟨congrArg (· + 1) f,λk w b=>?_⟩;cases k with
  |zero=>simp at b;subst b;exact⟨λz=>by simp at z,λ_=>rfl⟩
  | succ k =>
   have:=d k w (by simpa using b);exact⟨λz=>by simpa using this.1 (by simpa using z),λz=>by simpa using this.2 (by simpa using z)⟩
 |[],_::_,_,_,e=>by exact noSome e
 |true::_,[],_,_,e=>by exact noSome e
 |false::_,[],_,_,e=>by exact noSome e
 |true::_,_::_,[],_,e=>by exact noSome e
 |false::_,_::_,[],_,e=>by exact noSome e
 |true::_,_::_,Zb::_,_,e=>by exact noSome e
 |true::_,_::_,#v[_,6]::_,_,e=>by exact noSome e
theorem zuv {K:Zg}{m:List Bool}{N:List Str}{g:GS}{vs:List V}{H:Hp}{Q:VK}{E:XK} (h:spF K m (zad m N.length g) vs H Q E):tS K (mpOf m) g { nx:=λ_ t=>Q .non t,rt:=Q } (start N vs) H:=by
 have hv:=zv3 h;refine aG λ_ qG=>?_;obtain ⟨F,pr,G,M,r,h1,h2,R,n,q⟩:=h;refine qG ?_;clear qG;unfold zad at n;rw [if_pos h1] at n;have la:=ze2 h1;have f:∀(i:Nat) (x:W×Bool),(za8 m G++List.replicate (N.length-m.length) Zb)[i]?=Za (Za x)->(za8 m G)[i]?=Za (Za x):=λi x e=>by
  by_cases hi:i<(za8 m G).length
  ·rw[Dl hi] at e;exact e
  ·rw [Fj (by omega),List.getElem?_replicate] at e
   split at e<;>cases e
 have st:∀(i:Nat) (v:V),(vs.map Za)[i]?=Za (Za v)->(start N vs)[i]?=Za (Za v):=λi v e=>by
  unfold start;rw[Dl (by have:=(Af.mp e).1;exact this)];exact e
 have B : ∀(i:Nat) (v:V),i<m.length->(start N vs)[i]?=Za (Za v)->(vs.map Za)[i]?=Za (Za v):=λi v hi e=>by
  unfold start at e;rw[Dl (by rw[Ad];omega)] at e;exact e
 have R0:Rel K F pr (za8 m G++List.replicate (N.length-m.length) Zb) (start N vs) H:=by
  refine⟨?_,R.sub,λi w e=>?_,λi w e=>?_,λi j a w w' X U J L=>?_,λb o p=>?_,R.tb⟩
  ·unfold start
   rw[Bb,Bb,Ed,Ed,Ad,la,hv]
  ·obtain ⟨v,s,d⟩:=R.val i w (f i _ e)
   exact⟨v,st i v s,d⟩
  ·refine aG λGg qG => ?_
   obtain⟨a,O,A,s,d,I⟩:=R.own i w (f i _ e);ac_rfl;exact⟨a,O,A,s,st i _ d,I⟩
  ·have l1:i<m.length:=by have:=(Af.mp (f i _ X)).1;omega
   have l2:j<m.length:=by have:=(Af.mp (f j _ U)).1;omega
   exact R.inj i j a w w' (f i _ X) (f j _ U) (B i _ l1 J) (B j _ l2 L)
  ·obtain ⟨Z,Y,b3⟩:=R.prt b o p
   refine⟨Z,Y,λi w e z=>?_⟩;have l1:i<m.length:=by have:=(Af.mp (f i _ e)).1;omega
   exact b3 i w (f i _ e) (B i _ l1 z)
 have back:∀(en:En) (A:List W) (u:Hp) (c:St) (t:Hp),zcw m G en=Za A->Same F u->Rel K u pr en c t->Keep (mpOf m) (start N vs) c ->
   Rel K u pr (za8 m A) (vs.map Za) t/\∀r v,Res K u t pr en c r v->Res K u t pr (za8 m A) (vs.map Za) r v:=λen A u c t P D C S=>by
  obtain ⟨o1,o2⟩:=zjw P;have own:∀(k:Nat) (w:W),(za8 m A)[k]?=Za (Za (w,Zd))->en[k]?=Za (Za (w,Zd))/\∀v,c[k]?=Za (Za v)↔(vs.map Za)[k]?=Za (Za v):=λk w e=>by
   obtain⟨s,d⟩:=ze5.mp e;have lk:k<m.length:=(Af.mp d).1;have hk:k∈mpOf m:=Bl.mpr ⟨Bk.mpr lk,by rw[d];simp⟩;refine⟨(o2 k w s).1 d,λv=>?_⟩;rw[S k hk];exact⟨B k v lk,st k v⟩
  refine⟨⟨by rw[ze2 o1,Ad,hv],C.sub,λk w e=>?_,λk w e=>?_,λk l a w w' X U J L=>?_,λb o p=>?_,C.tb⟩,λr v z=>?_⟩
  ·refine aG λGg qG => ?_
   obtain⟨s,d⟩:=ze5.mp e;obtain⟨v,I,g4⟩:=R.val k w (ze5.mpr ⟨(o2 k w s).2 d,d⟩);ac_rfl;exact⟨v,I,g4.mono D⟩
  ·refine aG λGg qG => ?_
   obtain⟨s,d⟩:=own k w e;obtain⟨a,O,A,p1,p2,p3⟩:=C.own k w s;ac_rfl;exact⟨a,O,A,p1,(d _).mp p2,p3⟩
  ·obtain ⟨s,d⟩:=own k w X
   obtain⟨I,g4⟩:=own l w' U;exact C.inj k l a _ _ s I ((d _).mpr J) ((g4 _).mpr L)
  ·obtain ⟨Z,Y,b3⟩:=C.prt b o p
   refine⟨Z,Y,λk w e z=>?_⟩;obtain⟨s,d⟩:=own k w e;exact b3 k w s ((d _).mpr z)
  ·obtain ⟨w0,T⟩:=r
   cases T with
   |false=>exact z
   | true =>
    nofun;obtain⟨a,O,wz',J,L,q3,q4,q5,q6,q7⟩:=z;ac_rfl;refine⟨a,O,wz',J,L,q3,q4,q5,λk w e y=>?_,q7⟩;obtain⟨s,d⟩:=own k w e;exact q6 k w s ((d _).mpr y)
 cases eg:g (za8 m G++List.replicate (N.length-m.length) Zb) with
 |none=>simp only [eg] at n;exact noSome n
 | some p =>
  obtain⟨en,T⟩:=p;refine⟨F,pr,_,en,T,R0,eg,?_⟩;cases T with
  |brk=>simp only [eg] at n;exact noSome n
  |cnt=>simp only [eg] at n;exact noSome n
  | nx =>
   simp only [eg] at n;obtain⟨A,P,n⟩:=bS n;cases n;intro u c t D C S;obtain⟨Rb,_⟩:=back en M u c t P D C S;exact q u t .non D Rb .non
  | ret r' =>
   simp only [eg] at n;obtain⟨A,P,n⟩:=bS n;cases n;intro u c t v D C S z;obtain⟨Rb,rb⟩:=back en M u c t P D C S;exact q u t v D Rb (rb _ _ z)
end L2
set_option maxHeartbeats 4000000
namespace L2
open PySem PyProof.Rows
namespace Tim
noncomputable def gal:Bool->Keyed->Array Keyed->Nat->Nat->Nat->StateT SortSt Sem (Option Nat):=sortPriv% PySem.Builtin.gallop
noncomputable def mLo:Array Keyed->Array Keyed->StateT SortSt Sem (Array Keyed):=sortPriv% PySem.Builtin.mergeLo
noncomputable def mHi:Array Keyed->Array Keyed->StateT SortSt Sem (Array Keyed):=sortPriv% PySem.Builtin.mergeHi
theorem aG {P:Prop}(h:∀G:Prop,(P->G)->G):P:=h P id
structure Ord (lt:Keyed->Keyed->Bool) (bf le:Keyed->Keyed->Prop):Prop where
 tr:∀{x y z},le x y->le y z->le x z
 tot:∀x y,le x y\/le y x
 f1:∀{x y},bf x y->(lt y x=Zc↔le x y)
 f2:∀{x y},lt x y=Zd->le x y
 irr:∀x,lt x x=Zc
 ltr:∀{x y z},lt x y=Zd->lt y z=Zd->lt x z=Zd
 nt:∀{x z} (y),lt x z=Zd->lt x y=Zd\/lt y z=Zd
section
variable {lt:Keyed->Keyed->Bool}{bf le:Keyed->Keyed->Prop} (O:Ord lt bf le)
include O
theorem Ord.rf (x:Keyed):le x x:=(O.tot x x).elim id id
theorem Ord.f3 {x y:Keyed}(h:bf x y)(q:lt y x=Zd):¬ le x y:=λz=>by rw[(O.f1 h).mpr z] at q;cases q
end
noncomputable abbrev d0:Keyed:=(Ze.none,Ze.none)
noncomputable def G (xs:Array Keyed) (i:Nat):Keyed:=(xs[i]?).getD d0
theorem G_some {xs:Array Keyed}{i:Nat}(h:i<xs.size):xs[i]?=Za (G xs i):=by unfold G;rw[getElem?_pos xs i h];rfl
theorem z42 {xs a₀:Array Keyed}(p:xs.Perm a₀){i:Nat}(h:i<xs.size):G xs i∈a₀.toList:=by
 refine (Hi.mp p).mem_iff.mp ?_;unfold G;rw[getElem?_pos xs i h];simp
theorem zgf {xs ys:Array Keyed}{i j:Nat}(h:xs[i]?=ys[j]?):G xs i=G ys j:=by unfold G;rw[h]
noncomputable def Asks (prog:Program) (w:World) (A:Around) (E:Ze->Zf->Prop) (s:Zf) (κ:SortKind) (a₀:Array Keyed) (lt:Keyed->Keyed->Bool):Prop :=
 ∀(x y:Keyed) (a:SortSt) (Q:Option Bool->SortSt->Prop),x∈a₀.toList->y∈a₀.toList->kindOf a=κ->Q (Za (lt x y)) a->wpS (model prog w) A E s (lt' x y) Q a
section
variable {prog:Program}{w:World}{A:Around}{E:Ze->Zf->Prop}{s:Zf}{κ:SortKind}{a₀:Array Keyed}{lt:Keyed->Keyed->Bool}{st:SortSt}
theorem zax {arr:Array Keyed}{i:Nat}{Q:Keyed->SortSt->Prop}(a:i<arr.size)(h:Q (G arr i) st):wpS (model prog w) A E s (elem' arr i) Q st:=by
 rw[elem'_eq,G_some a];exact Au h
theorem zh8 {i j:Nat}{Q:Option Bool->SortSt->Prop} (C:Asks prog w A E s κ a₀ lt) (a:kindOf st=κ) (p:(arrOf st).Perm a₀) (c:i<a₀.size) (b:j<a₀.size) (h:Q (Za (lt (G (arrOf st) i) (G (arrOf st) j))) st) :
  wpS (model prog w) A E s (ltAt' i j) Q st:=by
 have e:=p.size_eq;rw[ltAt'_eq];refine As (Hs ?_);exact As (zax #v[] (As (zax #v[] (C _ _ _ _ (z42 p #v[]) (z42 p #v[]) a h))))
theorem zr8 {left:Bool}{key:Keyed}{arr:Array Keyed}{base n hint:Nat}{B:Nat->Bool}{Q:Option Nat->SortSt->Prop} (C:Asks prog w A E s κ a₀ lt) (P:kindOf st=κ) (J:key∈a₀.toList)
  (V:base+n<=arr.size) (N:∀i,i<n->G arr (base+i)∈a₀.toList) (T:∀i,i<n->B i=if left then lt (G arr (base+i)) key else !lt key (G arr (base+i)))
  (mono:∀i j,i<=j->j<n->B j=Zd->B i=Zd) (U:hint<n)
  (h:∀k,k<=n->(∀i,i<k->B i=Zd)->(∀i,k<=i->i<n->B i=Zc)->Q (Za k) st):wpS (model prog w) A E s (gal left key arr base n hint) Q st:=by
 have t : ∀i j,i<=j->j<n->B i=Zc->B j=Zc:=λi j H F S=>by
  cases q:B j with
  |false=>rfl
  |true=>rw[mono i j H F q] at S;cases S
 let D:Nat->StateT SortSt Sem (Option Bool):=λi=>do
  let x <- elem' arr (base+i)
  if left=Zd then lt' x key else do
   let r <- lt' key x
   pure (r.map (!·))
 have K:∀(i:Nat) (R:Option Bool->SortSt->Prop),i<n->R (Za (B i)) st->wpS (model prog w) A E s (D i) R st:=λi R a O=>by
  refine As (zax #v[] ?_);have e:=T i a;cases left with
  | true =>
   rw[if_pos rfl] at e;rw[if_pos rfl];exact C _ _ _ _ (N i a) J P (by rw[<-e];exact O)
  | false =>
   rw[if_neg #v[0,9]] at e;rw[if_neg #v[0,9]];exact As (C _ _ _ _ J (N i a) P (Au (by show R (Za (!lt key (G arr (base+i)))) st;rw[<-e];exact O)))
 show wpS (model prog w) A E s (do let o <- D hint;_) Q st;refine As (K _ _ U ?_);cases q:B hint with
 | true =>
  refine As (Ec (Cm (I:=λx c f=>f=st/\∃l o,c=(Zb,l,o)/\l<o/\x<o/\hint+l<n/\B (hint+l)=Zd)
   (Q:=λc f=>f=st/\∃l o,c=(Zb,l,o)/\l<o/\hint+l<n/\B (hint+l)=Zd/\(n-hint<=o\/hint+o<n/\B (hint+o)=Zc)) ?step ?fin ⟨rfl,0,1,rfl,by omega,by omega,by omega,q⟩) ?post)
  case fin =>
   rintro c f ⟨rfl,l,o,rfl,z,u,y,m⟩;exact⟨rfl,l,o,rfl,z,y,m,.inl #v[]⟩
  case step =>
   rintro x c f _ L ⟨rfl,l,o,rfl,z,u,y,m⟩;dsimp only;by_cases g:o ≥ n-hint
   ·rw [if_pos g]
    exact Au ⟨rfl,l,o,rfl,z,y,m,.inl g⟩
   ·rw [if_neg g]
    refine As (K _ _ #v[] ?_);cases q2:B (hint+o) with
    | true =>
     dsimp only;rw[if_neg #v[0,9]];exact Au ⟨rfl,o,2*o+1,rfl,by omega,by omega,by omega,q2⟩
    | false =>
     dsimp only;rw[if_pos #v[0,9]];exact Au ⟨rfl,l,o,rfl,z,y,m,.inr ⟨by omega,q2⟩⟩
  case post =>
   rintro c f ⟨rfl,l,o,rfl,z,y,m,p⟩;dsimp only;refine As (Ec (Cm (I:=λx c d=>d=f/\∃b a,c=(Zb,b,a)/\b<=a/\a<=n/\a-b<=n-x/\(∀i,i<b->B i=Zd)/\∀i,a<=i->i<n->B i=Zc)
    (Q:=λc d=>d=f/\∃b a,c=(Zb,b,a)/\b=a/\a<=n/\(∀i,i<b->B i=Zd)/\∀i,a<=i->i<n->B i=Zc) ?s3 ?f3 ⟨rfl,hint+l+1,hint+min o (n-hint),rfl,by omega,by omega,by omega,λi a=>mono i _ #v[] y m,λi H F=>p.elim (λp=>by omega) λp=>t _ i #v[] F p.2⟩) ?p3)
   case f3 =>
    rintro c d ⟨rfl,b,a,rfl,z,u,y,m,p⟩;exact⟨rfl,b,a,rfl,by omega,u,m,p⟩
   case s3 =>
    rintro x c d _ L ⟨rfl,b,a,rfl,z,u,y,m,p⟩;dsimp only;by_cases g:b ≥ a
    ·rw [if_pos g]
     exact Au ⟨rfl,b,a,rfl,by omega,u,m,p⟩
    ·rw [if_neg g]
     refine As (K _ _ #v[] ?_);cases q:B (b+(a-b)/2) with
     | true =>
      dsimp only;rw[if_pos rfl];refine Au ⟨rfl,b+(a-b)/2+1,a,rfl,by omega,u,by omega,λi M=>?_,p⟩;exact mono i _ #v[] #v[] q
     | false =>
      dsimp only;rw[if_neg #v[0,9]];refine Au ⟨rfl,b,b+(a-b)/2,rfl,by omega,by omega,by omega,m,λi H F=>?_⟩;exact t _ i H F q
   case p3 =>
    rintro c d ⟨rfl,b,a,rfl,rfl,u,m,p⟩;exact Au (h b u m p)
 | false =>
  refine As (Ec (Cm (I:=λx c f=>f=st/\∃l o,c=(Zb,l,o)/\l<o/\x<o/\l<=hint/\B (hint-l)=Zc)
   (Q:=λc f=>f=st/\∃l o,c=(Zb,l,o)/\l<o/\l<=hint/\B (hint-l)=Zc/\(hint+1<=o\/o<=hint/\B (hint-o)=Zd)) ?step ?fin ⟨rfl,0,1,rfl,by omega,by omega,by omega,q⟩) ?post)
  case fin =>
   rintro c f ⟨rfl,l,o,rfl,z,u,y,m⟩;exact⟨rfl,l,o,rfl,z,y,m,.inl #v[]⟩
  case step =>
   rintro x c f _ L ⟨rfl,l,o,rfl,z,u,y,m⟩;dsimp only;by_cases g:o ≥ hint+1
   ·rw [if_pos g]
    exact Au ⟨rfl,l,o,rfl,z,y,m,.inl g⟩
   ·rw [if_neg g]
    refine As (K _ _ #v[] ?_);cases q2:B (hint-o) with
    | true =>
     dsimp only;rw[if_pos rfl];exact Au ⟨rfl,l,o,rfl,z,y,m,.inr ⟨by omega,q2⟩⟩
    | false =>
     dsimp only;rw[if_neg #v[0,9]];exact Au ⟨rfl,o,2*o+1,rfl,by omega,by omega,by omega,q2⟩
  case post =>
   rintro c f ⟨rfl,l,o,rfl,z,y,m,p⟩;dsimp only;refine As (Ec (Cm (I:=λx c d=>d=f/\∃b a,c=(Zb,b,a)/\b<=a/\a<=n/\a-b<=n-x/\(∀i,i<b->B i=Zd)/\∀i,a<=i->i<n->B i=Zc)
    (Q:=λc d=>d=f/\∃b a,c=(Zb,b,a)/\b=a/\a<=n/\(∀i,i<b->B i=Zd)/\∀i,a<=i->i<n->B i=Zc) ?s4 ?f4 ⟨rfl,hint+1-min o (hint+1),hint-l,rfl,by omega,by omega,by omega,λi a=>p.elim (λp=>by omega) λp=>mono i _ #v[] #v[] p.2,λi H F=>t _ i H F m⟩) ?p4)
   case f4 =>
    rintro c d ⟨rfl,b,a,rfl,z,u,y,m,p⟩;exact⟨rfl,b,a,rfl,by omega,u,m,p⟩
   case s4 =>
    rintro x c d _ L ⟨rfl,b,a,rfl,z,u,y,m,p⟩;dsimp only;by_cases g:b ≥ a
    ·rw [if_pos g]
     exact Au ⟨rfl,b,a,rfl,by omega,u,m,p⟩
    ·rw [if_neg g]
     refine As (K _ _ #v[] ?_);cases q:B (b+(a-b)/2) with
     | true =>
      dsimp only;rw[if_pos rfl];refine Au ⟨rfl,b+(a-b)/2+1,a,rfl,by omega,u,by omega,λi M=>?_,p⟩;exact mono i _ #v[] #v[] q
     | false =>
      dsimp only;rw[if_neg #v[0,9]];refine Au ⟨rfl,b,b+(a-b)/2,rfl,by omega,by omega,by omega,m,λi H F=>?_⟩;exact t _ i H F q
   case p4 =>
    rintro c d ⟨rfl,b,a,rfl,rfl,u,m,p⟩;exact Au (h b u m p)
end
end Tim
namespace Tim
noncomputable def Srt (le:Keyed->Keyed->Prop) (xs:Array Keyed) (lo h:Nat):Prop:=∀i j,lo<=i->i<j->j<h->le (G xs i) (G xs j)
noncomputable def Cut (bf:Keyed->Keyed->Prop) (xs:Array Keyed) (c:Nat):Prop:=∀i j,i<c->c<=j->j<xs.size->bf (G xs i) (G xs j)
structure Re (xs ys:Array Keyed) (lo hi:Nat):Prop where
 perm:ys.Perm xs
 out:∀i,i<lo\/hi<=i->G ys i=G xs i
 inn:∀i,lo<=i->i<hi->∃j,lo<=j/\j<hi/\G ys i=G xs j
theorem Re.refl (xs:Array Keyed)(lo b:Nat):Re xs xs lo b:=⟨.refl _,λ_ _=>rfl,λi a h=>⟨i,a,h,rfl⟩⟩
theorem Re.trans {xs ys z:Array Keyed}{lo c:Nat}(a:Re xs ys lo c)(b:Re ys z lo c):Re xs z lo c :=
 ⟨b.perm.trans a.perm,λi h=>(b.out i h).trans (a.out i h),λi f l=>by
  obtain⟨j,o,m,e⟩:=b.inn i f l;obtain⟨k,g,n,d⟩:=a.inn j o m;exact⟨k,g,n,e.trans d⟩⟩
theorem Re.mono {xs ys:Array Keyed}{lo d l b:Nat}(a:Re xs ys lo d)(m:l<=lo)(n:d<=b):Re xs ys l b :=
 ⟨a.perm,λi h=>a.out i #v[],λi f g=>by
  by_cases c:lo<=i/\i<d
  ·obtain⟨j,k,o,e⟩:=a.inn i c.1 c.2;exact⟨j,by omega,by omega,e⟩
  ·exact⟨i,f,g,a.out i #v[]⟩⟩
theorem Re.size {xs ys:Array Keyed}{lo h:Nat}(a:Re xs ys lo h):ys.size=xs.size:=a.perm.size_eq
theorem Cut.re {bf:Keyed->Keyed->Prop}{xs ys:Array Keyed}{lo f c:Nat}(h:Cut bf xs c)(a:Re xs ys lo f)(y:f<=xs.size)(x:c<=lo\/f<=c):Cut bf ys c:=λi j o q u=>by
 have e:=a.size;have w:∃d,d<c/\G ys i=G xs d:=by
  by_cases k:lo<=i/\i<f
  ·obtain⟨d, s,l,e⟩:=a.inn i k.1 k.2;exact⟨d,by omega,e⟩
  ·exact⟨i,o,a.out i #v[]⟩
 have m:∃b,c<=b/\b<xs.size/\G ys j=G xs b:=by
  by_cases k:lo<=j/\j<f
  ·obtain⟨b, s,l,e⟩:=a.inn j k.1 k.2;exact⟨b,by omega,by omega,e⟩
  ·exact⟨j,q,by omega,a.out j #v[]⟩
 obtain⟨d,t,r⟩:=w;obtain⟨b,g,n,p⟩:=m;rw[r,p];exact h d b t g n
theorem Srt.re {le:Keyed->Keyed->Prop}{xs ys:Array Keyed}{lo c a b:Nat}(h:Srt le xs a b)(r:Re xs ys lo c)(g:b<=lo\/c<=a):Srt le ys a b:=λi j d e f=>by
 rw[r.out i #v[],r.out j #v[]];exact h i j d e f
noncomputable def mir (xs:Array Keyed) (i j:Nat):Array Keyed:=mirror xs i j ((j-i)/2)
theorem zhm {xs:Array Keyed}{i j:Nat}(a:j<=xs.size)(k:Nat):G (mir xs i j) k=if i<=k/\k<j then G xs (i+j-1-k) else G xs k:=by
 have e:=getElem?_mirror_all (i:=i) a k;unfold mir;by_cases h:i<=k/\k<j
 ·rw[if_pos h] at e ⊢;exact zgf e
 ·rw[if_neg h] at e ⊢;exact zgf e
theorem Re.mir {xs:Array Keyed}{i j:Nat}(a:j<=xs.size):Re xs (mir xs i j) i j :=
 ⟨mirror_perm _ _ _ _,λk h=>by rw[zhm a,if_neg #v[]],λk c b=>⟨i+j-1-k,by omega,by omega,by rw[zhm a,if_pos ⟨c,b⟩]⟩⟩
theorem zy4 {xs:Array Keyed}{src d:Nat}(b:src<xs.size)(c:d<=src)(k:Nat):G (bubble xs src d) k=if k=src-d then G xs src else if src-d<k/\k<=src then G xs (k-1) else G xs k:=by
 have e:=getElem?_bubble b d c k;by_cases a:k=src-d
 ·rw[if_pos a] at e ⊢;exact zgf e
 ·rw[if_neg a] at e ⊢;by_cases h:src-d<k/\k<=src
  ·rw[if_pos h] at e ⊢;exact zgf e
  ·rw[if_neg h] at e ⊢;exact zgf e
theorem Re.bub {xs:Array Keyed}{src d:Nat}(a:src<xs.size)(b:d<=src):Re xs (bubble xs src d) (src-d) (src+1) :=
 ⟨bubble_perm _ _ _,λk h=>by rw[zy4 a b,if_neg #v[],if_neg #v[]],λk f e=>by
  rw[zy4 a b];by_cases c:k=src-d
  ·exact⟨src,by omega,by omega,by rw[if_pos c]⟩
  ·exact⟨k-1,by omega,by omega,by rw[if_neg c,if_pos ⟨by omega,by omega⟩]⟩⟩
structure SI (κ:SortKind) (a₀:Array Keyed) (pd:Array (Nat×Nat×Nat)) (st:SortSt):Prop where
 kind:kindOf st=κ
 failed:failedOf st=Zb
 perm:(arrOf st).Perm a₀
 pend:pendingOf st=pd
theorem SI.size {κ a₀ p st}(h:SI κ a₀ p st):(arrOf st).size=a₀.size:=h.perm.size_eq
theorem SI.set {κ a₀ a st}(h:SI κ a₀ a st){ys:Array Keyed}(p:ys.Perm (arrOf st)):SI κ a₀ a (setArr st ys):=⟨h.kind,h.failed,p.trans h.perm,h.pend⟩
section
variable {prog:Program}{w:World}{A:Around}{E:Ze->Zf->Prop}{s:Zf}{κ:SortKind}{a₀:Array Keyed}{lt:Keyed->Keyed->Bool}{bf le:Keyed->Keyed->Prop}{st:SortSt}{pd:Array (Nat × Nat × Nat)}
theorem z0m {i j:Nat}{Q:Unit->SortSt->Prop}(h:Q () (setArr st (mir (arrOf st) i j))):wpS (model prog w) A E s (reverseSlice' i j) Q st:=by
 rw[reverseSlice'_eq];exact wpS_modify h
theorem z8k {i j:Nat}{Q:Unit->SortSt->Prop}(h:Q () (setArr st (bubble (arrOf st) i (i-j)))):wpS (model prog w) A E s (moveDown' i j) Q st:=by
 rw[moveDown'_eq];exact wpS_modify h
theorem grp (O:Ord lt bf le) {xs ys:Array Keyed}{lo n c:Nat} (r:lo<=c) (s:c<lo+n) (e:∀k,G ys k=if c<=k/\k<lo+n then G xs (c+(lo+n)-1-k) else G xs k)
  (l:∀i j,lo<=i->i<j->j<c->le (G xs j) (G xs i)) (g:∀i j,lo<=i->i<c->c<=j->j<lo+n->lt (G xs j) (G xs i)=Zd)
  (m:∀i j,c<=i->i<j->j<lo+n->le (G xs i) (G xs j)) (o:∀i j,c<=i->i<lo+n->c<=j->j<lo+n->lt (G xs i) (G xs j)=Zc) :
  (∀i j,lo<=i->i<j->j<lo+n->le (G ys j) (G ys i))/\∀y,lt y (G xs (lo+n-1))=Zd->∀i,lo<=i->i<lo+n->lt y (G ys i)=Zd:=by
 constructor
 ·intro i j d f p;rw[e i,e j];by_cases a:j<c
  ·rw[if_neg #v[],if_neg #v[]];exact l i j d f a
  ·rw[if_pos ⟨by omega,p⟩];by_cases b:i<c
   ·rw[if_neg #v[]];exact O.f2 (g i _ d b #v[] #v[])
   ·rw[if_pos ⟨by omega,by omega⟩];exact m _ _ #v[] #v[] #v[]
 ·intro y h i d f;rw[e i];by_cases b:c<=i/\i<lo+n
  ·rw[if_pos b];exact (O.nt _ h).resolve_right (λq=>by rw[o _ _ #v[] #v[] #v[] #v[]] at q;cases q)
  ·rw[if_neg b];exact O.ltr h (g i _ d #v[] #v[] #v[])
structure DI (lt:Keyed->Keyed->Bool) (le:Keyed->Keyed->Prop) (lo n neq:Nat) (xs:Array Keyed):Prop where
 nq:neq+1<=n
 d1:∀i j,lo<=i->i<j->j<lo+n-(neq+1)->le (G xs j) (G xs i)
 d2:∀i j,lo<=i->i<lo+n-(neq+1)->lo+n-(neq+1)<=j->j<lo+n->lt (G xs j) (G xs i)=Zd
 d3:∀i j,lo+n-(neq+1)<=i->i<j->j<lo+n->le (G xs i) (G xs j)
 d4:∀i j,lo+n-(neq+1)<=i->i<lo+n->lo+n-(neq+1)<=j->j<lo+n->lt (G xs i) (G xs j)=Zc
theorem DI.turn (O:Ord lt bf le) {lo n neq:Nat}{xs:Array Keyed} (d:DI lt le lo n neq xs) (h:lo+n<=xs.size) :
  (∀i j,lo<=i->i<j->j<lo+n->le (G (mir xs (lo+n-(neq+1)) (lo+n)) j) (G (mir xs (lo+n-(neq+1)) (lo+n)) i))/\∀y,lt y (G xs (lo+n-1))=Zd->∀i,lo<=i->i<lo+n->lt y (G (mir xs (lo+n-(neq+1)) (lo+n)) i)=Zd :=
 grp O (by have:=d.nq;omega) (by have:=d.nq;omega) (λk=>zhm h k) d.d1 d.d2 d.d3 d.d4
theorem DI.turn0 (O:Ord lt bf le) {lo n:Nat}{xs:Array Keyed} (d:DI lt le lo n 0 xs) :
  (∀i j,lo<=i->i<j->j<lo+n->le (G xs j) (G xs i))/\∀y,lt y (G xs (lo+n-1))=Zd->∀i,lo<=i->i<lo+n->lt y (G xs i)=Zd :=
 grp (c:=lo+n-1) O (by have:=d.nq;omega) (by have:=d.nq;omega) (λk=>by
  split
  ·congr 1;omega
  ·rfl) d.d1 d.d2 d.d3 d.d4
theorem DI.next (O:Ord lt bf le){lo n:Nat}{xs:Array Keyed}(h:∀i j,lo<=i->i<j->j<lo+n->le (G xs j) (G xs i))(f:∀i,lo<=i->i<lo+n->lt (G xs (lo+n)) (G xs i)=Zd):DI lt le lo (n+1) 0 xs :=
 ⟨by omega,λi j a b c=>h i j a b #v[],λi j a b c d=>by
  have e:j=lo+n:=by omega
  rw[e];exact f i a #v[],λi j a b c=>by omega,λi j a b c d=>by
  have e:j=i:=by omega
  rw[e];exact O.irr _⟩
theorem DI.like (O:Ord lt bf le) {lo n neq:Nat}{xs:Array Keyed} (d:DI lt le lo n neq xs) (o:∀i,lo<=i->i<lo+n->bf (G xs i) (G xs (lo+n))) (m:lt (G xs (lo+n)) (G xs (lo+n-1))=Zc) (l:lt (G xs (lo+n-1)) (G xs (lo+n))=Zc):DI lt le lo (n+1) (neq+1) xs:=by
 have s:=d.nq;have p:lo+(n+1)-(neq+1+1)=lo+n-(neq+1):=by omega
 have t:∀i,lo+n-(neq+1)<=i->i<lo+n->lt (G xs (lo+n)) (G xs i)=Zc:=λi a b=>by
  cases q:lt (G xs (lo+n)) (G xs i) with
  |false=>rfl
  | true =>
   rcases O.nt (G xs (lo+n-1)) q with z|z
   ·rw[m] at z;cases z
   ·rw[d.d4 _ _ #v[] #v[] a b] at z;cases z
 have r:∀i,lo+n-(neq+1)<=i->i<lo+n->lt (G xs i) (G xs (lo+n))=Zc:=λi a b=>by
  cases q:lt (G xs i) (G xs (lo+n)) with
  |false=>rfl
  | true =>
   rcases O.nt (G xs (lo+n-1)) q with z|z
   ·rw[d.d4 _ _ a b #v[] #v[]] at z;cases z
   ·rw[l] at z;cases z
 refine⟨by omega,?_,?_,?_,?_⟩<;>rw[p]
 ·exact d.d1
 ·intro i j a b c e
  by_cases k:j<lo+n
  ·exact d.d2 i j a b c k
  ·have f:j=lo+n:=by omega
   rw[f];exact (O.nt (G xs (lo+n)) (d.d2 i (lo+n-1) a b #v[] #v[])).resolve_left (λz=>by rw[l] at z;cases z)
 ·intro i j a b c
  by_cases k:j<lo+n
  ·exact d.d3 i j a b k
  ·have f:j=lo+n:=by omega
   rw[f];exact (O.f1 (o i #v[] #v[])).mp (t i a #v[])
 ·intro i j a b c e
  by_cases k:j<lo+n
  ·by_cases g:i<lo+n
   ·exact d.d4 i j a g c k
   ·have h:i=lo+n:=by omega
    rw[h];exact t j c k
  ·have f:j=lo+n:=by omega
   rw[f];by_cases g:i<lo+n
   ·exact r i a g
   ·have h:i=lo+n:=by omega
    rw[h];exact O.irr _
theorem ybs {α:Type}{c:Prop} [Decidable c] {x y:StateT SortSt Sem α}{Q:α->SortSt->Prop}{T:SortSt->Prop}(h:∀a,T a->wpS (model prog w) A E s y Q a)(b:¬ c->T st)(d:c->(∀a,T a->wpS (model prog w) A E s y Q a)->wpS (model prog w) A E s x Q st):wpS (model prog w) A E s (if c then x else y) Q st:=by
 by_cases k:c
 ·rw[if_pos k];exact d k h
 ·rw[if_neg k];exact h st (b k)
theorem z4n (C:Asks prog w A E s κ a₀ lt) (O:Ord lt bf le) {lo a:Nat}{Q:Option Nat->SortSt->Prop} (I:SI κ a₀ pd st) (hsz:lo+a<=a₀.size) (u:1<=a) (hc:∀c,lo<=c->Cut bf (arrOf st) c)
  (h:∀m r,SI κ a₀ pd r->1<=m->m<=a->Re (arrOf st) (arrOf r) lo (lo+m)->Srt le (arrOf r) lo (lo+m)->Q (Za m) r):wpS (model prog w) A E s (countRun' lo a) Q st:=by
 have sz:=I.size;rw [countRun'_eq];refine As (Ec (Cm (I:=λx c d=>d=st/\c=(Zb,x)/\1<=x/\x<=a/\Srt le (arrOf st) lo (lo+x))
  (Q:=λc d=>d=st/\∃k,c=(Zb,k)/\1<=k/\k<=a/\Srt le (arrOf st) lo (lo+k)/\(k=a\/lt (G (arrOf st) (lo+k)) (G (arrOf st) (lo+k-1))=Zd)) ?as1 ?af1 ⟨rfl,rfl,Ag _,u,(λi j K B g3=>by omega)⟩) ?ap1)
 case af1 =>
  rintro c d ⟨t,rfl,S,V,g⟩;rw[show max 1 a=a by omega] at *
  exact⟨t,a,rfl,by omega,Ag _,g,.inl rfl⟩
 case as1 =>
  rintro x c d N b2 ⟨t,rfl,S,V,g⟩;subst t;dsimp only;refine As (zh8 C I.kind I.perm #v[] #v[] ?_);cases q:lt (G (arrOf d) (lo+x)) (G (arrOf d) (lo+x-1)) with
  | true =>
   dsimp only;rw[if_pos rfl];exact Au ⟨rfl,x,rfl,S,V,g,.inr q⟩
  | false =>
   dsimp only;rw[if_neg #v[0,9]];refine Au ⟨rfl,rfl,by omega,by omega,λi j u h2 h3=>?_⟩;by_cases hj:j<lo+x
   ·exact g i j u h2 hj
   ·have ej:j=lo+x:=by omega
    subst ej;have b:le (G (arrOf d) (lo+x-1)) (G (arrOf d) (lo+x)):=(O.f1 (hc (lo+x) #v[] (lo+x-1) (lo+x) #v[] (Ag _) (by rw[I.size];omega))).mp q;by_cases hi:i=lo+x-1
    ·rw[hi];exact b
    ·exact O.tr (g i (lo+x-1) u #v[] #v[]) b
 case ap1 =>
  rintro c d ⟨t,n,rfl,S,V,g,a3⟩;subst t;dsimp only;by_cases en:n=a
  ·rw [if_pos (by simpa using en)]
   exact Au (h n d I S V (.refl _ _ _) g)
  ·rw [if_neg (by simpa using en)]
   have q3:=a3.resolve_left en;refine ybs (T:=λp=>SI κ a₀ pd p/\Re (arrOf d) (arrOf p) lo (lo+(n+1))/\DI lt le lo (n+1) 0 (arrOf p)) (λp ⟨I3,R3,D3⟩=>?main) (λn1=>?no) (λn1 H=>?yes)
   case yes =>
    refine As (zh8 C I.kind I.perm #v[] #v[] ?_);cases q:lt (G (arrOf d) lo) (G (arrOf d) (lo+n-1)) with
    | true =>
     dsimp only;rw[if_pos rfl];exact Au (h n d I S V (.refl _ _ _) g)
    | false =>
     dsimp only;rw [if_neg (by decide)];refine As (z0m ?_);have lk:∀i,lo<=i->i<lo+n->lt (G (arrOf d) (lo+n)) (G (arrOf d) i)=Zd:=λi K B=>by
      have z1:lt (G (arrOf d) i) (G (arrOf d) (lo+n-1))=Zc:=by
       cases z:lt (G (arrOf d) i) (G (arrOf d) (lo+n-1)) with
       |false=>rfl
       | true =>
        rcases O.nt (G (arrOf d) lo) z with y|y
        ·by_cases ei:i=lo
         ·rw[ei,O.irr] at y;cases y
         ·have:=O.f3 (hc i K lo i (by omega) (Ag _) (by omega)) y
          exact absurd (g lo i (Ag _) #v[] B) this
        ·rw[q] at y;cases y
      exact (O.nt _ q3).resolve_right (λy=>by rw[z1] at y;cases y)
     obtain ⟨p,e3,I3,R3,D3⟩ : ∃p,p=(setArr d (mir (arrOf d) lo (lo+n)))/\SI κ a₀ pd p/\Re (arrOf d) (arrOf p) lo (lo+(n+1))/\DI lt le lo (n+1) 0 (arrOf p):=⟨_,rfl,I.set (Re.mir (by omega)).perm,(Re.mir (by omega)).mono (Ag _) (by omega),DI.next O (λi j K B g3=>by
           show le (G (mir (arrOf d) lo (lo+n)) j) (G (mir (arrOf d) lo (lo+n)) i);rw[zhm #v[],zhm #v[],if_pos ⟨by omega,by omega⟩,if_pos ⟨by omega,by omega⟩];exact g _ _ #v[] #v[] #v[]) (λi K B=>by
           show lt (G (mir (arrOf d) lo (lo+n)) (lo+n)) (G (mir (arrOf d) lo (lo+n)) i)=Zd;rw[zhm #v[],zhm #v[],if_neg #v[],if_pos ⟨by omega,by omega⟩];exact lk _ #v[] #v[])⟩
     rw[<-e3];exact H p ⟨I3,R3,D3⟩
   case no =>
    have en1:n=1:=by omega
    subst en1;exact ⟨I,.refl _ _ _,DI.next O (λi j K B g3=>by omega) (λi K B=>by
     have ei:i=lo:=by omega
     rw[ei];exact q3)⟩
   case main =>
    refine As (wpS_lift (Dh ⟨rfl,?_⟩));refine As (Ec (Cm (I:=λx c f=>∃neq,c=(Zb,x,neq)/\n+1<=x/\x<=a/\SI κ a₀ pd f/\Re (arrOf d) (arrOf f) lo (lo+x)/\DI lt le lo x neq (arrOf f))
     (Q:=λc f=>∃m neq,c=(Zb,m,neq)/\n+1<=m/\m<=a/\SI κ a₀ pd f/\Re (arrOf d) (arrOf f) lo (lo+m)/\DI lt le lo m neq (arrOf f)) ?dsd1 ?dfd1 ⟨0,rfl,Ag _,by omega,I3,R3,D3⟩) ?dpd1)
    case dfd1 =>
     rintro c f ⟨neq,rfl,P,N,b2,b3,b4⟩;have e:max (n+1) a=a:=by omega
     rw[e] at P N b3 b4 ⊢;exact⟨a,neq,rfl,P,N,b2,b3,b4⟩
    case dsd1 =>
     rintro x c f K B ⟨neq,rfl,P,N,o,R,D⟩;dsimp only;have z4:=o.size;have U:∀c,lo+x<=c->Cut bf (arrOf f) c:=λc L=>(hc c #v[]).re R #v[] (.inr L);refine As (zh8 C o.kind o.perm #v[] #v[] ?_);cases q5:lt (G (arrOf f) (lo+x)) (G (arrOf f) (lo+x-1)) with
     | true =>
      dsimp only;rw[if_pos rfl];by_cases Z:neq > 0
      ·rw [if_pos Z]
       refine As (z0m (Au ⟨0,rfl,by omega,by omega,o.set (Re.mir #v[]).perm,(R.trans ((Re.mir #v[]).mono (by have:=D.nq;omega) (Ag _))).mono (Ag _) #v[],?_⟩));obtain⟨F,t2⟩:=D.turn O #v[];refine DI.next O F λi X W=>?_;have:=t2 _ q5 i X W;show lt (G (mir (arrOf f) (lo+x-(neq+1)) (lo+x)) (lo+x)) _=Zd;rw[zhm #v[],if_neg #v[]];exact this
      ·rw [if_neg Z]
       have e0:neq=0:=by omega
       subst e0;obtain⟨F,t2⟩:=D.turn0 O;exact Au ⟨0,rfl,by omega,by omega,o,R.mono (Ag _) #v[],DI.next O F λi X W=>t2 _ q5 i X W⟩
     | false =>
      dsimp only;rw[if_neg #v[0,9]];refine As (zh8 C o.kind o.perm #v[] #v[] ?_);cases q6:lt (G (arrOf f) (lo+x-1)) (G (arrOf f) (lo+x)) with
      | true =>
       dsimp only;rw[if_pos rfl];exact Au ⟨x,neq,rfl,P,N,o,R,D⟩
      | false =>
       dsimp only;rw[if_neg #v[0,9]];exact Au ⟨neq+1,rfl,by omega,by omega,o,R.mono (Ag _) #v[],D.like O (λi X W=>U (lo+x) (Ag _) i (lo+x) W (Ag _) #v[]) q5 q6⟩
    case dpd1 =>
     rintro c f ⟨n,neq,rfl,P,n2,o,R,D⟩;dsimp only;have z4:=o.size;refine ybs (T:=λl=>SI κ a₀ pd l/\Re (arrOf d) (arrOf l) lo (lo+n)/\∀i j,lo<=i->i<j->j<lo+n->le (G (arrOf l) j) (G (arrOf l) i)) (λl ⟨Y,R6,F⟩=>?tl) (λZ=>?tn) (λZ H=>?ty)
     case ty =>
      refine As (z0m ?_);have Y:SI κ a₀ pd (setArr f (mir (arrOf f) (lo+n-(neq+1)) (lo+n))):=o.set (Re.mir #v[]).perm;have R6:Re (arrOf d) (mir (arrOf f) (lo+n-(neq+1)) (lo+n)) lo (lo+n):=R.trans ((Re.mir #v[]).mono (by have:=D.nq;omega) (Ag _));have F:=(D.turn O #v[]).1;exact H _ ⟨Y,R6,F⟩
     case tn =>
      have e0:neq=0:=by omega
      subst e0;exact⟨o,R,(D.turn0 O).1⟩
     case tl =>
      have z6:=Y.size;refine As (z0m ?_);have J:SI κ a₀ pd (setArr l (mir (arrOf l) lo (lo+n))):=Y.set (Re.mir (by omega)).perm;have R5:Re (arrOf d) (mir (arrOf l) lo (lo+n)) lo (lo+n):=R6.trans (Re.mir (by omega));have z5:Srt le (mir (arrOf l) lo (lo+n)) lo (lo+n):=λi j u h2 h3=>by
       rw[zhm #v[],zhm #v[],if_pos ⟨by omega,by omega⟩,if_pos ⟨by omega,by omega⟩];exact F _ _ #v[] #v[] #v[]
      have ea:mir (arrOf l) lo (lo+n)=arrOf (setArr l (mir (arrOf l) lo (lo+n))):=rfl
      revert J R5 z5
      rw [ea];generalize (setArr l (mir (arrOf l) lo (lo+n)))=M;intro J R5 z5;have hz5:=J.size;have hc5:∀c,lo+n<=c->Cut bf (arrOf M) c:=λc L=>(hc c (by omega)).re R5 (by omega) (.inr L);refine As (Ec (Cm (I:=λx c d=>d=M/\c=(Zb,x)/\n<=x/\x<=a/\Srt le (arrOf M) lo (lo+x))
       (Q:=λc d=>d=M/\∃k,c=(Zb,k)/\n<=k/\k<=a/\Srt le (arrOf M) lo (lo+k)/\(k=a\/lt (G (arrOf M) (lo+k)) (G (arrOf M) (lo+k-1))=Zd)) ?asd11 ?afd11 ⟨rfl,rfl,Ag _,n2,z5⟩) ?apd11)
      case afd11 =>
       rintro c d ⟨t,rfl,y0,y1,g⟩;rw[show max n a=a by omega] at *
       exact⟨t,a,rfl,by omega,Ag _,g,.inl rfl⟩
      case asd11 =>
       rintro x c d N b2 ⟨t,rfl,y0,y1,g⟩;subst t;dsimp only;refine As (zh8 C J.kind J.perm #v[] #v[] ?_);cases q:lt (G (arrOf d) (lo+x)) (G (arrOf d) (lo+x-1)) with
       | true =>
        dsimp only;rw[if_pos rfl];exact Au ⟨rfl,x,rfl,y0,y1,g,.inr q⟩
       | false =>
        dsimp only;rw[if_neg #v[0,9]];refine Au ⟨rfl,rfl,by omega,by omega,λi j u h2 h3=>?_⟩;by_cases hj:j<lo+x
        ·exact g i j u h2 hj
        ·have ej:j=lo+x:=by omega
         subst ej;have b:le (G (arrOf d) (lo+x-1)) (G (arrOf d) (lo+x)):=(O.f1 (hc5 (lo+x) #v[] (lo+x-1) (lo+x) #v[] (Ag _) (by rw[J.size];omega))).mp q;by_cases hi:i=lo+x-1
         ·rw[hi];exact b
         ·exact O.tr (g i (lo+x-1) u #v[] #v[]) b
      case apd11 =>
       rintro c s7 ⟨e7,m,rfl,y0,y1,y2,y3⟩;subst e7;exact Au (h m s7 J #v[] y1 (R5.mono (Ag _) #v[]) y2)
end
end Tim
namespace Tim
section
variable {prog:Program}{w:World}{A:Around}{E:Ze->Zf->Prop}{s:Zf}{κ:SortKind}{a₀:Array Keyed}{lt:Keyed->Keyed->Bool}{bf le:Keyed->Keyed->Prop}{st:SortSt}{pd:Array (Nat × Nat × Nat)}
theorem ydf (C:Asks prog w A E s κ a₀ lt) (O:Ord lt bf le) {lo n ok:Nat}{Q:Bool->SortSt->Prop} (I:SI κ a₀ pd st) (N:lo+n<=a₀.size) (z:ok<=n) (J:1<=ok) (Z:Srt le (arrOf st) lo (lo+ok)) (B:∀c,lo+ok<=c->Cut bf (arrOf st) c)
  (h:∀f,SI κ a₀ pd f->Re (arrOf st) (arrOf f) lo (lo+n)->Srt le (arrOf f) lo (lo+n)->Q Zd f):wpS (model prog w) A E s (binarySort' lo n ok) Q st:=by
 have sz:=I.size;rw[binarySort'_eq];have R:max ok 1=ok:=by omega
 rw [R];refine As (Ec (Cm (I:=λk c a=>c=(Zb,())/\ok<=k/\k<=n/\SI κ a₀ pd a/\Re (arrOf st) (arrOf a) lo (lo+k)/\Srt le (arrOf a) lo (lo+k))
  (Q:=λc a=>c=(Zb,())/\SI κ a₀ pd a/\Re (arrOf st) (arrOf a) lo (lo+n)/\Srt le (arrOf a) lo (lo+n)) ?step ?fin ⟨rfl,Ag _,z,I,.refl _ _ _,Z⟩) ?post)
 case post =>
  rintro c a ⟨rfl,m,R2,S⟩;exact Au (h a m R2 S)
 case fin =>
  rintro c a ⟨B,T,P,m,R2,S⟩;have e:max ok n=n:=by omega
  rw[e] at R2 S;exact⟨B,m,R2,S⟩
 case step =>
  rintro k c a g1 g2 ⟨rfl,T,P,m,R2,S⟩;have z2:=m.size;have W:Cut bf (arrOf a) (lo+k):=(B (lo+k) (by omega)).re R2 (by omega) (.inr (Ag _));refine As (Ec (Cm (I:=λx c d=>d=a/\∃l r,c=(Zb,l,r)/\l<=r/\r<=k/\r-l<=k-x/\(∀i,i<l->le (G (arrOf a) (lo+i)) (G (arrOf a) (lo+k)))/\∀i,r<=i->i<k->le (G (arrOf a) (lo+k)) (G (arrOf a) (lo+i)))
   (Q:=λc d=>d=a/\∃l,c=(Zb,l,l)/\l<=k/\(∀i,i<l->le (G (arrOf a) (lo+i)) (G (arrOf a) (lo+k)))/\∀i,l<=i->i<k->le (G (arrOf a) (lo+k)) (G (arrOf a) (lo+i))) ?istep ?ifin ⟨rfl,0,k,rfl,by omega,by omega,by omega,λi hi=>by omega,λi u D=>by omega⟩) ?ipost)
  case ifin =>
   rintro c d ⟨t,l,r,rfl,c1,y,Y,p,o⟩;have e:r=l:=by omega
   subst e;exact⟨t,r,rfl,y,p,o⟩
  case istep =>
   rintro x c d _ hx ⟨t,l,r,rfl,c1,y,Y,p,o⟩;subst t;dsimp only;by_cases g:l ≥ r
   ·rw [if_pos g]
    have e:r=l:=by omega
    subst e;exact Au ⟨rfl,r,rfl,y,p,o⟩
   ·rw [if_neg g]
    refine As (zh8 C m.kind m.perm #v[] #v[] ?_);have b:=W (lo+(l+r)/2) (lo+k) #v[] (Ag _) #v[];cases q:lt (G (arrOf d) (lo+k)) (G (arrOf d) (lo+(l+r)/2)) with
    | true =>
     dsimp only;rw[if_pos rfl];refine Au ⟨rfl,l,(l+r)/2,rfl,by omega,by omega,by omega,p,λi u D=>?_⟩;by_cases e:i=(l+r)/2
     ·rw[e];exact O.f2 q
     ·exact O.tr (O.f2 q) (S _ _ #v[] #v[] #v[])
    | false =>
     dsimp only;rw[if_neg #v[0,9]];refine Au ⟨rfl,(l+r)/2+1,r,rfl,by omega,by omega,by omega,λi u=>?_,o⟩;by_cases e:i=(l+r)/2
     ·rw[e];exact (O.f1 b).mp q
     ·exact O.tr (S _ _ #v[] #v[] #v[]) ((O.f1 b).mp q)
  case ipost =>
   rintro c d ⟨t,l,rfl,y,p,o⟩;subst t;refine As (z8k (Au ⟨rfl,by omega,by omega,m.set (bubble_perm _ _ _),?_,?_⟩))
   ·refine (R2.mono (Ag _) #v[]).trans ((Re.bub #v[] #v[]).mono #v[] #v[])
   ·intro i j J h2 h3
    show le (G (bubble (arrOf d) (lo+k) (lo+k-(lo+l))) i) (G (bubble (arrOf d) (lo+k) (lo+k-(lo+l))) j);have M:lo+k-(lo+k-(lo+l))=lo+l:=by omega
    rw [zy4 (by omega) (by omega),zy4 (by omega) (by omega),M];have X:∀i,lo<=i->i<lo+l->le (G (arrOf d) i) (G (arrOf d) (lo+k)):=λi u D=>by
     have:=p (i-lo) #v[];rw[show lo+(i-lo)=i by omega] at this;exact this
    have V:∀i,lo+l<=i->i<lo+k->le (G (arrOf d) (lo+k)) (G (arrOf d) i):=λi u D=>by
     have:=o (i-lo) #v[] #v[];rw[show lo+(i-lo)=i by omega] at this;exact this
    by_cases K:i=lo+l
    ·rw [if_pos K,if_neg (by omega),if_pos ⟨by omega,by omega⟩]
     exact V _ #v[] #v[]
    ·rw [if_neg K]
     by_cases H:j=lo+l
     ·rw [if_neg (by omega),if_pos H]
      exact X _ J #v[]
     ·rw [if_neg H]
      by_cases F:lo+l<i/\i<=lo+k
      ·rw [if_pos F,if_pos ⟨by omega,by omega⟩]
       exact S _ _ #v[] #v[] #v[]
      ·rw [if_neg F]
       by_cases L:lo+l<j/\j<=lo+k
       ·rw [if_pos L]
        by_cases U:i=j-1
        ·rw[U];exact O.rf _
        ·exact S _ _ #v[] #v[] #v[]
       ·rw [if_neg L]
        exact S _ _ #v[] #v[] #v[]
end
end Tim
namespace Tim
theorem G_list {a:Array Keyed}{i:Nat}(h:i<a.size):a.toList[i]?=Za (G a i):=by rw[Ee];exact G_some h
theorem take_G {a:Array Keyed}{i:Nat}(h:i<a.size):a.toList.take (i+1)=a.toList.take i++[G a i]:=by rw[List.take_add_one,G_list h];rfl
theorem zv6 {a:Array Keyed}{i:Nat}(h:i<a.size):a.toList.drop i=G a i::a.toList.drop (i+1):=by
 have b:i<a.toList.length:=by simpa using h
 rw[Cs b];have e:=G_list h;rw[Ae b] at e;rw[sI e]
theorem mem_drop {a:Array Keyed}{n:Nat}{x:Keyed}(h:x∈a.toList.drop n):∃i,n<=i/\i<a.size/\x=G a i:=by
 obtain⟨i,d,e⟩:=De.mp h;have c:n+i<a.toList.length:=by rw[Gj] at d;omega
 have b:n+i<a.size:=by simpa using c
 refine⟨n+i,by omega,b,?_⟩;rw[List.getElem_drop] at e;have g:=G_list b;rw[Ae c] at g;rw[<-e];exact sI g
theorem mem_take {a:Array Keyed}{n:Nat}{x:Keyed}(h:x∈a.toList.take n):∃i,i<n/\i<a.size/\x=G a i:=by
 obtain⟨i,d,e⟩:=De.mp h;rw[Cj] at d;have c:i<a.toList.length:=by omega
 have b:i<a.size:=by simpa using c
 refine⟨i,by omega,b,?_⟩;rw[List.getElem_take] at e;have g:=G_list b;rw[Ae c] at g;rw[<-e];exact sI g
theorem srt_list {le:Keyed->Keyed->Prop}{a:Array Keyed}(h:Srt le a 0 a.size):a.toList.Pairwise le:=by
 rw[Ef];intro i j e k c;have d:i<a.size:=by simpa using e
 have b:j<a.size:=by simpa using k
 have g:=G_list d;have f:=G_list b;rw[Ae e] at g;rw[Ae k] at f;rw[sI g,sI f];exact h i j (Ch _) c b
theorem zde (a:Array Keyed)(i j:Nat):(a.extract i j).toList=(a.toList.drop i).take (j-i):=by rw[Array.toList_extract]
theorem zi2 (a:Array Keyed)(i:Nat):(a.extract i a.size).toList=a.toList.drop i:=by
 rw[zde,Gc];rw[Gj];simp
structure Fin (le:Keyed->Keyed->Prop) (a b:Array Keyed) (r:List Keyed):Prop where
 p:r.Perm (a.toList++b.toList)
 s:r.Pairwise le
structure MI (le:Keyed->Keyed->Prop) (a b:Array Keyed) (o:List Keyed) (ia ib:Nat):Prop where
 p:o.Perm (a.toList.take ia++b.toList.take ib)
 s:o.Pairwise le
 oa:∀x∈o,∀i,ia<=i->i<a.size->le x (G a i)
 ob:∀x∈o,∀j,ib<=j->j<b.size->le x (G b j)
structure MH (le:Keyed->Keyed->Prop) (a b:Array Keyed) (o:List Keyed) (na nb:Nat):Prop where
 p:o.Perm (a.toList.drop na++b.toList.drop nb)
 s:o.Pairwise le
 oa:∀x∈o,∀i,i<na->le (G a i) x
 ob:∀x∈o,∀j,j<nb->le (G b j) x
section
variable {lt:Keyed->Keyed->Bool}{bf le:Keyed->Keyed->Prop} (O:Ord lt bf le) {a b:Array Keyed}{o:List Keyed}{ia ib na nb:Nat} (Sa:Srt le a 0 a.size) (Sb:Srt le b 0 b.size)
theorem z0o {x:Keyed}{o p q:List Keyed}(h:o.Perm (p++q)):(o++[x]).Perm ((p++[x])++q):=by
 refine (h.append_right [x]).trans ?_;rw[Bc,Bc];exact List.perm_append_comm.append_left p
theorem MI.pushA (Sa:Srt le a 0 a.size)(m:MI le a b o ia ib)(e:ia<a.size)(f:∀j,ib<=j->j<b.size->le (G a ia) (G b j)):MI le a b (o++[G a ia]) (ia+1) ib:=by
 refine⟨by rw[take_G e];exact z0o m.p,?_,λx c i d h=>?_,λx c j d h=>?_⟩
 ·rw[Ck];refine⟨m.s,List.pairwise_singleton _ _,λx c y g=>?_⟩;rw[Az.mp g];exact m.oa x c ia (Ag _) e
 ·rcases Cc.mp c with z|z
  ·exact m.oa x z i #v[] h
  ·rw[Az.mp z];exact Sa _ _ (Ch _) #v[] h
 ·rcases Cc.mp c with z|z
  ·exact m.ob x z j d h
  ·rw[Az.mp z];exact f j d h
theorem MI.pushB (Sb:Srt le b 0 b.size)(m:MI le a b o ia ib)(e:ib<b.size)(g:∀i,ia<=i->i<a.size->le (G b ib) (G a i)):MI le a b (o++[G b ib]) ia (ib+1):=by
 refine⟨?_,?_,λx c i d h=>?_,λx c j d h=>?_⟩
 ·rw[take_G e];have:=m.p.append_right [G b ib];rw[Bc] at this;exact this
 ·rw[Ck];refine⟨m.s,List.pairwise_singleton _ _,λx c y f=>?_⟩;rw[Az.mp f];exact m.ob x c ib (Ag _) e
 ·rcases Cc.mp c with z|z
  ·exact m.oa x z i d h
  ·rw[Az.mp z];exact g i d h
 ·rcases Cc.mp c with z|z
  ·exact m.ob x z j #v[] h
  ·rw[Az.mp z];exact Sb _ _ (Ch _) #v[] h
theorem zpl {a:Array Keyed}{i k:Nat}(h:i+k<a.size):(a.toList.drop i).take (k+1)=(a.toList.drop i).take k++[G a (i+k)]:=by
 rw[List.take_add_one,List.getElem?_drop,G_list h];rfl
theorem MI.appA (Sa:Srt le a 0 a.size) (m:MI le a b o ia ib):∀k,ia+k<=a.size->(∀i,ia<=i->i<ia+k->∀j,ib<=j->j<b.size->le (G a i) (G b j))->MI le a b (o++(a.toList.drop ia).take k) (ia+k) ib
 |0,_,_=>by rw[Dz,By];exact m
 | k+1,c,h=>by
  have:=(m.appA Sa k #v[] λi g d=>h i g #v[]).pushA Sa #v[] (h (ia+k) #v[] #v[]);rw[zpl #v[],<-Bc];exact this
theorem MI.appB (Sb:Srt le b 0 b.size) (m:MI le a b o ia ib):∀k,ib+k<=b.size->(∀j,ib<=j->j<ib+k->∀i,ia<=i->i<a.size->le (G b j) (G a i))->MI le a b (o++(b.toList.drop ib).take k) ia (ib+k)
 |0,_,_=>by rw[Dz,By];exact m
 | k+1,c,h=>by
  have:=(m.appB Sb k #v[] λi g d=>h i g #v[]).pushB Sb #v[] (h (ib+k) #v[] #v[]);rw[zpl #v[],<-Bc];exact this
theorem zpo (b:Array Keyed):b.toList.take b.size=b.toList:=Gc (by simp)
theorem MI.finB (Sa:Srt le a 0 a.size)(m:MI le a b o ia b.size):Fin le a b (o++a.toList.drop ia):=by
 refine⟨?_,?_⟩
 ·have h:=m.p;rw[zpo] at h;refine (h.append_right _).trans ?_;rw[Bc];refine (List.perm_append_comm.append_left _).trans ?_;rw[<-Bc,Bz]
 ·rw[Ck];refine⟨m.s,(srt_list Sa).sublist (Hl _ _),λx e y f=>?_⟩;obtain⟨i,d,c,rfl⟩:=mem_drop f;exact m.oa x e i d c
theorem MI.finA (Sb:Srt le b 0 b.size)(m:MI le a b o a.size ib):Fin le a b (o++b.toList.drop ib):=by
 refine⟨?_,?_⟩
 ·have h:=m.p;rw[zpo] at h;refine (h.append_right _).trans ?_;rw[Bc,Bz]
 ·rw[Ck];refine⟨m.s,(srt_list Sb).sublist (Hl _ _),λx e y f=>?_⟩;obtain⟨i,c,d,rfl⟩:=mem_drop f;exact m.ob x e i c d
theorem MI.finL (Sa:Srt le a 0 a.size)(Sb:Srt le b 0 b.size)(m:MI le a b o ia ib)(e:ia+1=a.size)(H:∀j,j<b.size->le (G b j) (G a (a.size-1))):Fin le a b (o++b.toList.drop ib++a.toList.drop ia):=by
 refine⟨?_,?_⟩
 ·refine ((m.p.append_right _).append_right _).trans ?_;rw[Bc,Bc,<-Bc (b.toList.take ib),Bz];refine (List.perm_append_comm.append_left _).trans ?_;rw[<-Bc,Bz]
 ·rw[Ck,Ck];refine⟨⟨m.s,(srt_list Sb).sublist (Hl _ _),λx d y f=>?_⟩,(srt_list Sa).sublist (Hl _ _),λx d y f=>?_⟩
  ·obtain⟨i,c,h,rfl⟩:=mem_drop f;exact m.ob x d i c h
  ·obtain⟨i,c,h,rfl⟩:=mem_drop f;rcases Cc.mp d with z|z
   ·exact m.oa x z i c h
   ·obtain⟨j,k,g,rfl⟩:=mem_drop z;have:i=a.size-1:=by omega
    rw[this];exact H j g
theorem MH.pushA (Sa:Srt le a 0 a.size)(m:MH le a b o (na+1) nb)(h:na<a.size)(e:∀j,j<nb->le (G b j) (G a na)):MH le a b (G a na::o) na nb:=by
 refine⟨?_,Db.mpr ⟨λx c=>m.oa x c na #v[],m.s⟩,λx c i d=>?_,λx c j d=>?_⟩
 ·rw[zv6 h];exact m.p.cons _
 ·rcases Ap.mp c with z|z
  ·rw[z];exact Sa _ _ (Ch _) d h
  ·exact m.oa x z i #v[]
 ·rcases Ap.mp c with z|z
  ·rw[z];exact e j d
  ·exact m.ob x z j d
theorem MH.pushB (Sb:Srt le b 0 b.size)(m:MH le a b o na (nb+1))(h:nb<b.size)(e:∀i,i<na->le (G a i) (G b nb)):MH le a b (G b nb::o) na nb:=by
 refine⟨?_,Db.mpr ⟨λx c=>m.ob x c nb #v[],m.s⟩,λx c i d=>?_,λx c j d=>?_⟩
 ·rw[zv6 h];exact (m.p.cons _).trans List.perm_middle.symm
 ·rcases Ap.mp c with z|z
  ·rw[z];exact e i d
  ·exact m.oa x z i d
 ·rcases Ap.mp c with z|z
  ·rw[z];exact Sb _ _ (Ch _) d h
  ·exact m.ob x z j #v[]
theorem zp5 {a:Array Keyed}{i k:Nat}(h:i<a.size):(a.toList.drop i).take (k+1)=G a i::(a.toList.drop (i+1)).take k:=by
 rw[zv6 h,List.take_succ_cons]
theorem MH.appA (Sa:Srt le a 0 a.size):∀(k at_:Nat),MH le a b o (at_+k) nb->at_+k<=a.size->(∀i,at_<=i->i<at_+k->∀j,j<nb->le (G b j) (G a i))->MH le a b ((a.toList.drop at_).take k++o) at_ nb
 |0,at_,m,_,_=>by rw[Dz];exact m
 | k+1,at_,m,c,h=>by
  have:=(MH.appA Sa k (at_+1) (by rw[show at_+1+k=at_+(k+1) by omega];exact m) #v[] λi d g=>h i #v[] #v[]).pushA Sa #v[] (h at_ (Ag _) #v[]);rw[zp5 #v[]];exact this
theorem MH.appB (Sb:Srt le b 0 b.size):∀(k at_:Nat),MH le a b o na (at_+k)->at_+k<=b.size->(∀j,at_<=j->j<at_+k->∀i,i<na->le (G a i) (G b j))->MH le a b ((b.toList.drop at_).take k++o) na at_
 |0,at_,m,_,_=>by rw[Dz];exact m
 | k+1,at_,m,c,h=>by
  have:=(MH.appB Sb k (at_+1) (by rw[show at_+1+k=at_+(k+1) by omega];exact m) #v[] λi d g=>h i #v[] #v[]).pushB Sb #v[] (h at_ (Ag _) #v[]);rw[zp5 #v[]];exact this
theorem MH.finA (Sb:Srt le b 0 b.size)(m:MH le a b o 0 nb):Fin le a b (b.toList.take nb++o):=by
 refine⟨?_,?_⟩
 ·refine (m.p.append_left _).trans ?_;rw[Et];refine List.perm_append_comm_assoc _ _ _ |>.trans ?_;rw[Bz]
 ·rw[Ck];refine⟨(srt_list Sb).sublist (Ej _ _),m.s,λx c y d=>?_⟩;obtain⟨i,h,e,rfl⟩:=mem_take c;exact m.ob y d i h
theorem MH.finB (Sa:Srt le a 0 a.size)(m:MH le a b o na 0):Fin le a b (a.toList.take na++o):=by
 refine⟨?_,?_⟩
 ·refine (m.p.append_left _).trans ?_;rw[Et,<-Bc,Bz]
 ·rw[Ck];refine⟨(srt_list Sa).sublist (Ej _ _),m.s,λx c y d=>?_⟩;obtain⟨i,h,e,rfl⟩:=mem_take c;exact m.oa y d i h
theorem MH.finF (Sa:Srt le a 0 a.size)(Sb:Srt le b 0 b.size)(m:MH le a b o na 1)(H:∀i,i<a.size->le (G b 0) (G a i)):Fin le a b (b.toList.take 1++a.toList.take na++o):=by
 refine⟨?_,?_⟩
 ·refine (m.p.append_left _).trans ?_;rw[Bc,<-Bc (a.toList.take na),Bz];refine List.perm_append_comm_assoc _ _ _ |>.trans ?_;rw[Bz]
 ·rw[Ck,Ck];refine⟨⟨(srt_list Sb).sublist (Ej _ _),(srt_list Sa).sublist (Ej _ _),λx d y c=>?_⟩,m.s,λx d y c=>?_⟩
  ·obtain⟨i,h,e,rfl⟩:=mem_take d;obtain⟨j,f,g,rfl⟩:=mem_take c;have:i=0:=by omega
   rw[this];exact H j g
  ·rcases Cc.mp d with z|z
   ·obtain⟨i,h,e,rfl⟩:=mem_take z;exact m.ob y c i h
   ·obtain⟨i,h,e,rfl⟩:=mem_take z;exact m.oa y c i h
end
end Tim
namespace Tim
noncomputable def setG:Nat->StateT SortSt Sem Unit:=sortPriv% PySem.Builtin.setMinGallop
section
variable {prog:Program}{w:World}{A:Around}{E:Ze->Zf->Prop}{s:Zf}{κ:SortKind}{a₀:Array Keyed}{lt:Keyed->Keyed->Bool}{bf le:Keyed->Keyed->Prop}{st:SortSt}{pd:Array (Nat × Nat × Nat)}
structure SG (κ:SortKind) (a₀:Array Keyed) (pd:Array (Nat×Nat×Nat)) (xs:Array Keyed) (st:SortSt):Prop where
 i:SI κ a₀ pd st
 e:arrOf st=xs
theorem zqa {xs:Array Keyed}{g:Nat}{Q:Unit->SortSt->Prop}(S:SG κ a₀ pd xs st)(h:∀a,SG κ a₀ pd xs a->Q () a):wpS (model prog w) A E s (setG g) Q st :=
 wpS_modify (h _ ⟨⟨S.i.kind,S.i.failed,S.i.perm,S.i.pend⟩,S.e⟩)
theorem q_lt {x y:Keyed}{Q:Option Bool->SortSt->Prop}(C:Asks prog w A E s κ a₀ lt){xs:Array Keyed}(S:SG κ a₀ pd xs st)(a:x∈a₀.toList)(b:y∈a₀.toList)(h:Q (Za (lt x y)) st):wpS (model prog w) A E s (lt' x y) Q st:=C _ _ _ _ a b S.i.kind h
theorem zky {out a b:Array Keyed}{ia ib:Nat}:(out++a.extract ia a.size++b.extract ib b.size).toList=out.toList++a.toList.drop ia++b.toList.drop ib:=by
 rw[Bv,Bv,zi2,zi2]
theorem zp2 {le:Keyed->Keyed->Prop}{out a b:Array Keyed}{ia ib:Nat}(e:ib=b.size)(h:Fin le a b (out.toList++a.toList.drop ia)):Fin le a b (out++a.extract ia a.size++b.extract ib b.size).toList:=by
 subst e;rw[zky,List.drop_of_length_le (l:=b.toList) (by simp),By];exact h
theorem z9m {le:Keyed->Keyed->Prop}{out a b:Array Keyed}{ia ib:Nat}(e:ia=a.size)(h:Fin le a b (out.toList++b.toList.drop ib)):Fin le a b (out++a.extract ia a.size++b.extract ib b.size).toList:=by
 subst e;rw[zky,List.drop_of_length_le (l:=a.toList) (by simp),By];exact h
theorem zq6 {le:Keyed->Keyed->Prop}{out a b:Array Keyed}{ia ib:Nat}(h:Fin le a b (out.toList++b.toList.drop ib++a.toList.drop ia)):Fin le a b (out++b.extract ib b.size++a.extract ia a.size).toList:=by
 rw[Bv,Bv,zi2,zi2];exact h
theorem q_if {α:Type}{c:Prop} [Decidable c] {x y:StateT SortSt Sem α}{Q:α->SortSt->Prop}(b:c->wpS (model prog w) A E s x Q st)(a:¬ c->wpS (model prog w) A E s y Q st):wpS (model prog w) A E s (if c then x else y) Q st:=by
 by_cases h:c
 ·rw[if_pos h];exact b h
 ·rw[if_neg h];exact a h
theorem zta {α:Type}{x:StateT SortSt Sem α}{Q:α->SortSt->Prop}(h:∀a,(∀r t,Q r t->a r t)->wpS (model prog w) A E s x a st):wpS (model prog w) A E s x Q st:=h Q λ_ _ z=>z
theorem q_eq {α β:Type}{c:β->Prop} [∀m,Decidable (c m)] {x:β->StateT SortSt Sem α}{Q:α->SortSt->Prop}{g:β->β}{f:β->StateT SortSt Sem α}(e:∀m,x m=f (g m))(h:∀u,wpS (model prog w) A E s (f u) Q st):∀m,wpS (model prog w) A E s (if c m then x m else f m) Q st:=λm=>by
 rw[e];exact q_if (λ_=>h _) λ_=>h _
theorem z1d {α β γ:Type}{c:Prop} [Decidable c] {x:β->γ->StateT SortSt Sem α}{Q:α->SortSt->Prop}{v:β}{u:γ}{f:β->γ->StateT SortSt Sem α} (P:β->γ->Prop) (d:¬ c->P v u) (e:c->(∀v u,P v u->wpS (model prog w) A E s (f v u) Q st)->wpS (model prog w) A E s (x v u) Q st)
  (h:∀v u,P v u->wpS (model prog w) A E s (f v u) Q st):∀a,v=a->∀b,u=b->wpS (model prog w) A E s (if c then x a b else f a b) Q st:=by
 rintro _ rfl _ rfl;exact q_if (λk=>e k h) λk=>h _ _ (d k)
theorem MI.finA' {le:Keyed->Keyed->Prop}{a b:Array Keyed}{o:List Keyed}{ia ib:Nat}(S:Srt le b 0 b.size)(m:MI le a b o ia ib)(e:ia=a.size):Fin le a b (o++b.toList.drop ib):=by subst e;exact m.finA S
theorem MI.finB' {le:Keyed->Keyed->Prop}{a b:Array Keyed}{o:List Keyed}{ia ib:Nat}(S:Srt le a 0 a.size)(m:MI le a b o ia ib)(e:ib=b.size):Fin le a b (o++a.toList.drop ia):=by subst e;exact m.finB S
structure MP (lt:Keyed->Keyed->Bool) (bf le:Keyed->Keyed->Prop) (a₀ a b:Array Keyed):Prop where
 sa:Srt le a 0 a.size
 sb:Srt le b 0 b.size
 ma:∀i,i<a.size->G a i∈a₀.toList
 mb:∀i,i<b.size->G b i∈a₀.toList
 bf:∀i j,i<a.size->j<b.size->bf (G a i) (G b j)
 a1:1<=a.size
 b1:1<=b.size
 h0:∀i,i<a.size->le (G b 0) (G a i)
 ha:∀j,j<b.size->le (G b j) (G a (a.size-1))
inductive Fi {γ:Type} (F:Array Keyed->Prop):Option (Array Keyed)×γ->Prop
 |mk (r:Array Keyed) (g:γ):F r->Fi F (Za r,g)
structure LX (le:Keyed->Keyed->Prop) (a b:Array Keyed) (x:Nat) (out:Array Keyed) (ia ib:Nat):Prop where
 m:MI le a b out.toList ia ib
 l:ia+1<a.size
 r:ib<b.size
 s:x<=ia+ib
inductive L5 (P:Array Keyed->Nat->Nat->Prop):Option (Array Keyed)×Array Keyed×Nat×Nat×Nat->Prop
 |mk (out:Array Keyed) (ia ib mg:Nat):P out ia ib->L5 P (Zb,out,ia,ib,mg)
inductive L6 (P:Array Keyed->Nat->Nat->Prop):Option (Array Keyed)×Array Keyed×Nat×Nat×Nat×Nat->Prop
 |mk (out:Array Keyed) (ia ib ac bc:Nat):P out ia ib->L6 P (Zb,out,ia,ib,ac,bc)
inductive L7 (P:Array Keyed->Nat->Nat->Prop):Option (Array Keyed)×Array Keyed×Nat×Nat×Nat×Nat×Nat->Prop
 |mk (out:Array Keyed) (ia ib mg ac bc:Nat):P out ia ib->L7 P (Zb,out,ia,ib,mg,ac,bc)
theorem ydb (C:Asks prog w A E s κ a₀ lt) (O:Ord lt bf le) {a b xs:Array Keyed}{Q:Array Keyed->SortSt->Prop} (S:SG κ a₀ pd xs st) (P:MP lt bf le a₀ a b)
  (h:∀r st',SG κ a₀ pd xs st'->Fin le a b r.toList->Q r st'):wpS (model prog w) A E s (mLo a b) Q st:=by
 have leA:∀i j,i<=j->j<a.size->le (G a i) (G a j):=λi j h1 Y=>by
  by_cases e:i=j
  ·rw[e];exact O.rf _
  ·exact P.sa i j (Ch _) #v[] Y
 have leB:∀i j,i<=j->j<b.size->le (G b i) (G b j):=λi j h1 Y=>by
  by_cases e:i=j
  ·rw[e];exact O.rf _
  ·exact P.sb i j (Ch _) #v[] Y
 have pa:=P.a1;have pb:=P.b1;show wpS (model prog w) A E s (liftM (rule _)>>=_) Q st;refine As (wpS_lift (Dh ⟨rfl,?_⟩));refine As (zax pb ?_);have m0:MI le a b (#[G b 0]:Array Keyed).toList 0 1:=by
  have:=MI.pushB (o:=[]) (ia:=0) (ib:=0) P.sb ⟨by simp,.nil,λx hx=>by simp at hx,λx hx=>by simp at hx⟩ #v[] (λi _ Y=>P.h0 i Y);simpa using this
 dsimp only;by_cases N:1=b.size
 ·rw [if_pos (by simpa using N)]
  refine Au (h _ _ S (zp2 N (m0.finB' P.sa N)))
 rw[if_neg (by simpa using N)];by_cases T:0+1=a.size
 ·rw [if_pos (by simpa using T)]
  exact Au (h _ _ S (zq6 (m0.finL P.sa P.sb T P.ha)))
 rw [if_neg (by simpa using T)];refine As (Hs ?_);refine As (Ec (Cm (I:=λx c X=>SG κ a₀ pd xs X/\L5 (LX le a b x) c)
  (Q:=λc X=>SG κ a₀ pd xs X/\Fi (λr=>Fin le a b r.toList) c) ?os ?of ⟨S,.mk _ 0 1 _ ⟨m0,by omega,by omega,by omega⟩⟩) ?op)
 case of =>
  rintro c X ⟨_,out,p,d,U,b2,b3,b4,b5⟩;exfalso;omega
 case op =>
  rintro c X hC;refine aG λG t=>?_;obtain⟨b1,r,g,b2⟩:=hC;refine t ?_;clear t;clear G;exact Au (h _ _ b1 b2)
 case os =>
  rintro x c X _ hx hC;refine aG λG t=>?_;obtain ⟨S2,out,p,d,U,Z2⟩:=hC;refine t ?_;clear t;clear G;dsimp only;refine As (Ec (Cm (I:=λy c s3=>s3=X/\L6 (LX le a b x) c)
   (Q:=λc s3=>s3=X/\(Fi (λr=>Fin le a b r.toList) c\/L6 (LX le a b x) c)) ?is1 ?if1 ⟨rfl,.mk out p d 0 0 Z2⟩) ?ip1)
  case if1 =>
   rintro c s3 ⟨J,z⟩;exact⟨J,.inr z⟩
  case is1 =>
   rintro y c s3 _ hy hC;refine aG λG t=>?_;obtain⟨J,out,p,d,ac,bc,m3,c3,V,c5⟩:=hC;refine t ?_;clear t;clear G;subst J;dsimp only;refine As (zax V (As (zax #v[] (As (q_lt C S2 (P.mb _ V) (P.ma _ #v[]) ?_)))));have bb:=P.bf p d #v[] V;cases q:lt (G b d) (G a p) with
   | true =>
    dsimp only;rw [if_pos rfl];refine As (zax V ?_);have F:MI le a b (out.push (G b d)).toList p (d+1):=by
     rw[Dt];exact m3.pushB P.sb V λi D L=>O.tr (O.f2 q) (leA _ _ D L)
    by_cases e:d+1=b.size
    ·rw [if_pos (by simpa using e)]
     refine Au ⟨rfl,.inl (.mk _ _ (zp2 e ?_))⟩;rw[e] at F;exact F.finB P.sa
    ·rw [if_neg (by simpa using e)]
     split
     ·exact Au ⟨rfl,.inr (.mk _ _ _ _ _ ⟨F,c3,by omega,by omega⟩)⟩
     ·exact Au ⟨rfl,.mk _ _ _ _ _ ⟨F,c3,by omega,by omega⟩⟩
   | false =>
    dsimp only;rw [if_neg (by decide)];refine As (zax (by omega) ?_);have F:MI le a b (out.push (G a p)).toList (p+1) d:=by
     rw[Dt];exact m3.pushA P.sa #v[] λj D L=>O.tr ((O.f1 bb).mp q) (leB _ _ D L)
    by_cases e:p+1+1=a.size
    ·rw [if_pos (by simpa using e)]
     exact Au ⟨rfl,.inl (.mk _ _ (zq6 (F.finL P.sa P.sb e P.ha)))⟩
    ·rw [if_neg (by simpa using e)]
     split
     ·exact Au ⟨rfl,.inr (.mk _ _ _ _ _ ⟨F,by omega,V,by omega⟩)⟩
     ·exact Au ⟨rfl,.mk _ _ _ _ _ ⟨F,by omega,V,by omega⟩⟩
  case ip1 =>
   rintro c s3 ⟨J,z⟩;subst J;refine aG λG t=>?_;rcases z with⟨r,g,f⟩|⟨out,p,d,ac,bc,m3,c3,V,c5⟩
   ·refine t ?_
    clear t;clear G;exact Au ⟨S2,.mk _ _ f⟩
   ·refine t ?_
    clear t;clear G;dsimp only;refine As (wpS_lift (Dh ⟨rfl,?_⟩));refine As (Ec (Cm (I:=λy c s4=>SG κ a₀ pd xs s4/\L7 (LX le a b (x+y)) c)
     (Q:=λc s4=>SG κ a₀ pd xs s4/\(Fi (λr=>Fin le a b r.toList) c\/L7 (LX le a b (x+1)) c)) ?gs ?gf ⟨S2,.mk out p d _ ac bc ⟨m3,c3,V,by omega⟩⟩) ?gp)
    case gf =>
     rintro c s4 ⟨S4,out,p,d,U,ac,bc,F,d3,W,d5⟩;exact⟨S4,.inr (.mk _ _ _ _ _ _ ⟨F,d3,W,by omega⟩)⟩
    case gp =>
     rintro c s4 ⟨S4,z⟩;refine aG λG t=>?_;rcases z with⟨r,g,f⟩|⟨out,p,d,U,ac,bc,Z4⟩
     ·refine t ?_
      clear t;clear G;exact Au ⟨S4,.mk _ _ f⟩
     ·refine t ?_
      clear t;clear G;dsimp only;exact As (zqa S4 λs5 R=>Au ⟨R,.mk _ _ _ _ Z4⟩)
    case gs =>
     rintro y c s4 _ hy hC;refine aG λG t=>?_;obtain⟨S4,out,p,d,U,ac,bc,F,d3,W,d5⟩:=hC;refine t ?_;clear t;clear G;simp (config:={ maxSteps:=10000000,failIfUnchanged:=Zc }) only [];refine zta λQ' hQ=>?_;generalize U=U
     revert U
     refine q_eq (g:=λU=>U-1) (λ_=>rfl) λU=>?_;dsimp (config:={ failIfUnchanged:=Zc }) only;refine As (zqa S4 λs5 R=>As (zax W (As (zr8 (left:=Zc) (key:=G b d) (arr:=a) (base:=p) (n:=a.size-p) (hint:=0) (B:=λi=>!lt (G b d) (G a (p+i))) C R.i.kind (P.mb _ W) #v[] (λi hi=>P.ma _ #v[]) (λi hi=>rfl) (λi j h1 Y h3=>?mono1) #v[] λk k1 k2 k3=>?_))))
     case mono1 =>
      have h3':lt (G b d) (G a (p+j))=Zc:=by simpa using h3
      have l1:=(O.f1 (P.bf (p+j) d #v[] W)).mp h3';have l2:=(O.f1 (P.bf (p+i) d #v[] W)).mpr (O.tr (leA _ _ #v[] #v[]) l1);show (!lt (G b d) (G a (p+i)))=Zd;rw[l2];rfl
     have w1:∀i,p<=i->i<p+k->le (G a i) (G b d):=λi D L=>by
      have:=k2 (i-p) #v[];rw[Gw D] at this;exact (O.f1 (P.bf i d #v[] W)).mp (by simpa using this)
     have w2:∀i,p+k<=i->i<a.size->le (G b d) (G a i):=λi D L=>by
      have:=k3 (i-p) #v[] #v[];rw[Gw (Bj (Dx _ _) D)] at this;exact O.f2 (by simpa using this)
     have m5:MI le a b (out++a.extract p (p+k)).toList (p+k) d:=by
      rw[Bv,zde,Nat.add_sub_cancel_left];exact F.appA P.sa k #v[] λi D L j g3 g4=>O.tr (w1 i D L) (leB _ _ g3 g4)
     dsimp (config:={ failIfUnchanged:=Zc }) only;generalize eou:out=out'
     revert out'
     generalize ena:p=na'
     revert na'
     refine z1d (λm u=>MI le a b u.toList m d/\(∀i,m<=i->i<a.size->le (G b d) (G a i))/\m+1<a.size/\x+y<=m+d) (λhk0=>?_) (λhc H=>?_) λm u ⟨n5,u1,b6,p6⟩=>?_
     ·have k0:k=0:=by omega
      subst k0;exact⟨F,w2,d3,d5⟩
     ·refine q_if (λN => ?_) λN => ?_
      ·have N:p+k+1=a.size:=by simpa using N
       exact Au (hQ _ _ ⟨R,.inl (.mk _ _ (zq6 (m5.finL P.sa P.sb N P.ha)))⟩)
      have N:¬ p+k+1=a.size:=by simpa using N
      refine q_if (λT=>?_) λT=>?_
      ·have T:p+k=a.size:=by simpa using T
       exact Au (hQ _ _ ⟨R,.inl (.mk _ _ (z9m T (m5.finA' P.sb T)))⟩)
      have T:¬ p+k=a.size:=by simpa using T
      exact H _ _ ⟨m5,w2,by omega,by omega⟩
     clear m5 F w2 w1 k3 k2 k1;dsimp (config:={ failIfUnchanged:=Zc }) only;refine As (zax W ?_);have m6:MI le a b (u.push (G b d)).toList m (d+1):=by
      rw[Dt];exact n5.pushB P.sb W u1
     refine q_if (λJ=>?_) λJ=>?_
     ·have J:d+1=b.size:=by simpa using J
      exact Au (hQ _ _ ⟨R,.inl (.mk _ _ (zp2 J (m6.finB' P.sa J)))⟩)
     have J:¬ d+1=b.size:=by simpa using J
     refine As (zax #v[] (As (zr8 (left:=Zd) (key:=G a m) (arr:=b) (base:=d+1) (n:=b.size-(d+1)) (hint:=0) (B:=λj=>lt (G b (d+1+j)) (G a m)) C R.i.kind (P.ma _ #v[]) #v[] (λj hj=>P.mb _ #v[]) (λj hj=>rfl) (λi j h1 Y h3=>?mono2) #v[] λl l1 l2 l3=>?_)))
     case mono2 =>
      have n1:=O.f3 (P.bf m (d+1+j) #v[] #v[]) h3;cases q:lt (G b (d+1+i)) (G a m) with
      |true=>rfl
      |false=>exact absurd (O.tr ((O.f1 (P.bf m (d+1+i) #v[] #v[])).mp q) (leB _ _ #v[] #v[])) n1
     have v1:∀j,d+1<=j->j<d+1+l->le (G b j) (G a m):=λj D L=>by
      have:=l2 (j-(d+1)) #v[];rw[Gw D] at this;exact O.f2 this
     have v2:∀j,d+1+l<=j->j<b.size->le (G a m) (G b j):=λj D L=>by
      have:=l3 (j-(d+1)) #v[] #v[];rw[Gw (Bj (Dx _ _) D)] at this;exact (O.f1 (P.bf m j #v[] L)).mp this
     have m7:MI le a b (u.push (G b d)++b.extract (d+1) (d+1+l)).toList m (d+1+l):=by
      rw[Bv,zde,Nat.add_sub_cancel_left];exact m6.appB P.sb l #v[] λj D L i g3 g4=>O.tr (v1 j D L) (leA _ _ g3 g4)
     dsimp (config:={ failIfUnchanged:=Zc }) only;generalize hnb:d+1=ib1 at m7 m6 v2 J ⊢;generalize hout:u.push (G b d)=M at m7 m6 ⊢;generalize eou:M=out'
     revert out'
     generalize ena:ib1=na'
     revert na'
     refine z1d (λK M=>MI le a b M.toList m K/\(∀j,K<=j->j<b.size->le (G a m) (G b j))/\K<b.size/\x+y+1<=m+K) (λhl0=>?_) (λhc H=>?_) λK out3 ⟨n7,u2,b7,p7⟩=>?_
     ·have k0:l=0:=by omega
      subst k0;exact⟨m6,v2,by omega,by omega⟩
     ·refine q_if (λZ => ?_) λZ => ?_
      ·have Z:ib1+l=b.size:=by simpa using Z
       exact Au (hQ _ _ ⟨R,.inl (.mk _ _ (zp2 Z (m7.finB' P.sa Z)))⟩)
      have Z:¬ ib1+l=b.size:=by simpa using Z
      exact H _ _ ⟨m7,v2,by omega,by omega⟩
     dsimp (config:={ failIfUnchanged:=Zc }) only;refine As (zax (by omega) ?_);have m8:MI le a b (out3.push (G a m)).toList (m+1) K:=by
      rw[Dt];exact n7.pushA P.sa #v[] u2
     refine q_if (λe5=>?_) λe5=>?_
     ·have e5:m+1+1=a.size:=by simpa using e5
      exact Au (hQ _ _ ⟨R,.inl (.mk _ _ (zq6 (m8.finL P.sa P.sb e5 P.ha)))⟩)
     have e5:¬ m+1+1=a.size:=by simpa using e5
     refine q_if (λ_=>?_) λ_=>?_
     ·exact Au (hQ _ _ ⟨R,.inr (.mk _ _ _ _ _ _ ⟨m8,by omega,b7,by omega⟩)⟩)
     ·exact Au (hQ _ _ ⟨R,.mk _ _ _ _ _ _ ⟨m8,by omega,b7,by omega⟩⟩)
end
end Tim
namespace Tim
section
variable {prog:Program}{w:World}{A:Around}{E:Ze->Zf->Prop}{s:Zf}{κ:SortKind}{a₀:Array Keyed}{lt:Keyed->Keyed->Bool}{bf le:Keyed->Keyed->Prop}{st:SortSt}{pd:Array (Nat × Nat × Nat)}
variable {a b out:Array Keyed}{o:List Keyed}{na nb at_:Nat}
theorem MH.pushA' (S:Srt le a 0 a.size)(m:MH le a b out.toList.reverse na nb)(d:1<=na)(h:na<=a.size)(c:∀j,j<nb->le (G b j) (G a (na-1))):MH le a b (out.push (G a (na-1))).toList.reverse (na-1) nb:=by
 obtain⟨n,rfl⟩ : ∃n,na=n+1:=⟨na-1,by omega⟩;rw[Dt,List.reverse_append];exact m.pushA S #v[] c
theorem MH.pushB' (S:Srt le b 0 b.size)(m:MH le a b out.toList.reverse na nb)(d:1<=nb)(h:nb<=b.size)(c:∀i,i<na->le (G a i) (G b (nb-1))):MH le a b (out.push (G b (nb-1))).toList.reverse na (nb-1):=by
 obtain⟨n,rfl⟩ : ∃n,nb=n+1:=⟨nb-1,by omega⟩;rw[Dt,List.reverse_append];exact m.pushB S #v[] c
theorem zwk (x:Array Keyed)(i j:Nat):(out++(x.extract i j).reverse).toList.reverse=(x.toList.drop i).take (j-i)++out.toList.reverse:=by
 rw[Bv,List.reverse_append,Gp,List.reverse_reverse,zde]
theorem MH.appA' (S:Srt le a 0 a.size)(m:MH le a b out.toList.reverse na nb)(d:at_<=na)(h:na<=a.size)(c:∀i,at_<=i->i<na->∀j,j<nb->le (G b j) (G a i)):MH le a b (out++(a.extract at_ na).reverse).toList.reverse at_ nb:=by
 rw[zwk];obtain⟨k,rfl⟩ : ∃k,na=at_+k:=⟨na-at_,by omega⟩;rw[show at_+k-at_=k by omega];exact MH.appA S k at_ m h c
theorem MH.appB' (S:Srt le b 0 b.size)(m:MH le a b out.toList.reverse na nb)(d:at_<=nb)(h:nb<=b.size)(c:∀j,at_<=j->j<nb->∀i,i<na->le (G a i) (G b j)):MH le a b (out++(b.extract at_ nb).reverse).toList.reverse na at_:=by
 rw[zwk];obtain⟨k,rfl⟩ : ∃k,nb=at_+k:=⟨nb-at_,by omega⟩;rw[show at_+k-at_=k by omega];exact MH.appB S k at_ m h c
theorem zeb (x:Array Keyed)(n:Nat):(x.extract 0 n).toList=x.toList.take n:=by rw[zde,Et,Nat.sub_zero]
theorem MH.done0 (S:Srt le b 0 b.size)(m:MH le a b out.toList.reverse na nb)(e:na=0):Fin le a b (a.extract 0 na++b.extract 0 nb++out.reverse).toList:=by
 subst e;rw[Bv,Bv,zeb,zeb,Dz,List.nil_append,Gp];exact m.finA S
theorem MH.done1 (S:Srt le a 0 a.size)(m:MH le a b out.toList.reverse na nb)(e:nb=0):Fin le a b (a.extract 0 na++b.extract 0 nb++out.reverse).toList:=by
 subst e;rw[Bv,Bv,zeb,zeb,Dz,By,Gp];exact m.finB S
theorem MH.first (c:Srt le a 0 a.size)(S:Srt le b 0 b.size)(m:MH le a b out.toList.reverse na nb)(e:nb=1)(H:∀i,i<a.size->le (G b 0) (G a i)):Fin le a b (b.extract 0 nb++a.extract 0 na++out.reverse).toList:=by
 subst e;rw[Bv,Bv,zeb,zeb,Gp];exact m.finF c S H
structure HX (le:Keyed->Keyed->Prop) (a b:Array Keyed) (x:Nat) (out:Array Keyed) (na nb:Nat):Prop where
 m:MH le a b out.toList.reverse na nb
 l:1<=na
 r:2<=nb
 s:na<=a.size
 t:nb<=b.size
 u:x+na+nb<=a.size+b.size
inductive H5 (P:Array Keyed->Nat->Nat->Prop):Option (Array Keyed)×Nat×Nat×Array Keyed×Nat->Prop
 |mk (out:Array Keyed) (na nb mg:Nat):P out na nb->H5 P (Zb,na,nb,out,mg)
inductive H6 (P:Array Keyed->Nat->Nat->Prop):Option (Array Keyed)×Nat×Nat×Array Keyed×Nat×Nat->Prop
 |mk (out:Array Keyed) (na nb ac bc:Nat):P out na nb->H6 P (Zb,na,nb,out,ac,bc)
inductive H7 (P:Array Keyed->Nat->Nat->Prop):Option (Array Keyed)×Nat×Nat×Array Keyed×Nat×Nat×Nat->Prop
 |mk (out:Array Keyed) (na nb mg ac bc:Nat):P out na nb->H7 P (Zb,na,nb,out,mg,ac,bc)
theorem ydr (C:Asks prog w A E s κ a₀ lt) (O:Ord lt bf le) {a b xs:Array Keyed}{Q:Array Keyed->SortSt->Prop} (S:SG κ a₀ pd xs st) (P:MP lt bf le a₀ a b)
  (h:∀r st',SG κ a₀ pd xs st'->Fin le a b r.toList->Q r st'):wpS (model prog w) A E s (mHi a b) Q st:=by
 have N:∀i j,i<=j->j<a.size->le (G a i) (G a j):=λi j h1 h2=>by
  by_cases e:i=j
  ·rw[e];exact O.rf _
  ·exact P.sa i j (Ch _) #v[] h2
 have R:∀i j,i<=j->j<b.size->le (G b i) (G b j):=λi j h1 h2=>by
  by_cases e:i=j
  ·rw[e];exact O.rf _
  ·exact P.sb i j (Ch _) #v[] h2
 have pa:=P.a1;have pb:=P.b1;show wpS (model prog w) A E s (liftM (rule _)>>=_) Q st;refine As (wpS_lift (Dh ⟨rfl,?_⟩));refine As (zax (show a.size-1<a.size by omega) ?_);have m0:MH le a b (#[G a (a.size-1)]:Array Keyed).toList.reverse (a.size-1) b.size:=by
  have:=MH.pushA' (out:=#[]) (na:=a.size) (nb:=b.size) (a:=a) (b:=b) P.sa ⟨by simp,.nil,λx hx=>by simp at hx,λx hx=>by simp at hx⟩ pa (Ag _) P.ha;simpa using this
 dsimp only;by_cases K:a.size-1=0
 ·rw [if_pos (by simpa using K)]
  exact Au (h _ _ S (m0.done0 P.sb K))
 rw[if_neg (by simpa using K)];by_cases e2:b.size=1
 ·rw [if_pos (by simpa using e2)]
  exact Au (h _ _ S (m0.first P.sa P.sb e2 P.h0))
 rw [if_neg (by simpa using e2)];refine As (Hs ?_);refine As (Ec (Cm (I:=λx c M=>SG κ a₀ pd xs M/\H5 (HX le a b x) c)
  (Q:=λc M=>SG κ a₀ pd xs M/\Fi (λr=>Fin le a b r.toList) c) ?os ?of ⟨S,.mk _ (a.size-1) b.size _ ⟨m0,by omega,by omega,by omega,by omega,by omega⟩⟩) ?op)
 case of =>
  rintro c M ⟨_,out,na,nb,J,b2,b3,b4,b5,b6,b7⟩;exfalso;omega
 case op =>
  rintro c M T;refine aG λG m=>?_;obtain⟨b1,r,g,b2⟩:=T;refine m ?_;clear m;clear G;exact Au (h _ _ b1 b2)
 case os =>
  rintro x c M _ hx T;refine aG λG m=>?_;obtain ⟨S2,out,na,nb,J,Z2⟩:=T;refine m ?_;clear m;clear G;dsimp only;refine As (Ec (Cm (I:=λy c V=>V=M/\H6 (HX le a b x) c)
   (Q:=λc V=>V=M/\(Fi (λr=>Fin le a b r.toList) c\/H6 (HX le a b x) c)) ?is1 ?if1 ⟨rfl,.mk out na nb 0 0 Z2⟩) ?ip1)
  case if1 =>
   rintro c V ⟨t,z⟩;exact⟨t,.inr z⟩
  case is1 =>
   rintro y c V _ hy T;refine aG λG m=>?_;obtain⟨t,out,na,nb,ac,bc,m3,c3,c4,c5,c6,c7⟩:=T;refine m ?_;clear m;clear G;subst t;dsimp only;refine As (zax #v[] (As (zax #v[] (As (q_lt C S2 (P.mb _ #v[]) (P.ma _ #v[]) ?_)))));have bb:=P.bf (na-1) (nb-1) #v[] #v[];cases q:lt (G b (nb-1)) (G a (na-1)) with
   | true =>
    dsimp only;rw[if_pos rfl];refine As (zax #v[] ?_);have p:=m3.pushA' P.sa c3 c5 λj g=>O.tr (R j (nb-1) #v[] #v[]) (O.f2 q);by_cases e:na-1=0
    ·rw [if_pos (by simpa using e)]
     exact Au ⟨rfl,.inl (.mk _ _ (p.done0 P.sb e))⟩
    ·rw [if_neg (by simpa using e)]
     split
     ·exact Au ⟨rfl,.inr (.mk _ _ _ _ _ ⟨p,by omega,by omega,by omega,by omega,by omega⟩)⟩
     ·exact Au ⟨rfl,.mk _ _ _ _ _ ⟨p,by omega,by omega,by omega,by omega,by omega⟩⟩
   | false =>
    dsimp only;rw[if_neg #v[0,9]];refine As (zax #v[] ?_);have p:=m3.pushB' P.sb #v[] c6 λi g=>O.tr (N i (na-1) #v[] #v[]) ((O.f1 bb).mp q);by_cases e:nb-1=1
    ·rw [if_pos (by simpa using e)]
     exact Au ⟨rfl,.inl (.mk _ _ (p.first P.sa P.sb e P.h0))⟩
    ·rw [if_neg (by simpa using e)]
     split
     ·exact Au ⟨rfl,.inr (.mk _ _ _ _ _ ⟨p,by omega,by omega,by omega,by omega,by omega⟩)⟩
     ·exact Au ⟨rfl,.mk _ _ _ _ _ ⟨p,by omega,by omega,by omega,by omega,by omega⟩⟩
  case ip1 =>
   rintro c V ⟨t,z⟩;subst t;refine aG λG m=>?_;rcases z with⟨r,g,f⟩|⟨out,na,nb,ac,bc,m3,c3,c4,c5,c6,c7⟩
   ·refine m ?_
    clear m;clear G;exact Au ⟨S2,.mk _ _ f⟩
   ·refine m ?_
    clear m;clear G;dsimp only;refine As (wpS_lift (Dh ⟨rfl,?_⟩));refine As (Ec (Cm (I:=λy c s4=>SG κ a₀ pd xs s4/\H7 (HX le a b (x+y)) c)
     (Q:=λc s4=>SG κ a₀ pd xs s4/\(Fi (λr=>Fin le a b r.toList) c\/H7 (HX le a b (x+1)) c)) ?gs ?gf ⟨S2,.mk out na nb _ ac bc ⟨m3,c3,c4,c5,c6,by omega⟩⟩) ?gp)
    case gf =>
     rintro c s4 ⟨X,out,na,nb,J,ac,bc,p,d3,d4,d5,d6,d7⟩;exact⟨X,.inr (.mk _ _ _ _ _ _ ⟨p,d3,d4,d5,d6,by omega⟩)⟩
    case gp =>
     rintro c s4 ⟨X,z⟩;refine aG λG m=>?_;rcases z with⟨r,g,f⟩|⟨out,na,nb,J,ac,bc,Z4⟩
     ·refine m ?_
      clear m;clear G;exact Au ⟨X,.mk _ _ f⟩
     ·refine m ?_
      clear m;clear G;dsimp only;exact As (zqa X λs5 F=>Au ⟨F,.mk _ _ _ _ Z4⟩)
    case gs =>
     rintro y c s4 _ hy T;refine aG λG m=>?_;obtain⟨X,out,na,nb,J,ac,bc,p,d3,d4,d5,d6,d7⟩:=T;refine m ?_;clear m;clear G;simp (config:={ maxSteps:=10000000,failIfUnchanged:=Zc }) only [];refine zta λQ' hQ=>?_;generalize J=J
     revert J
     refine q_eq (g:=λJ=>J-1) (λ_=>rfl) λJ=>?_;dsimp (config:={ failIfUnchanged:=Zc }) only;refine As (zqa X λs5 F=>As (zax (show nb-1<b.size by omega) (As (zr8 (left:=Zc) (key:=G b (nb-1)) (arr:=a) (base:=0) (n:=na) (hint:=na-1) (B:=λi=>!lt (G b (nb-1)) (G a (0+i))) C F.i.kind (P.mb _ #v[]) #v[] (λi hi=>P.ma _ #v[]) (λi hi=>rfl) (λi j h1 h2 h3=>?mono1) #v[] λk k1 k2 k3=>?_))))
     case mono1 =>
      have h3':lt (G b (nb-1)) (G a (0+j))=Zc:=by simpa using h3
      have l1:=(O.f1 (P.bf (0+j) (nb-1) #v[] #v[])).mp h3';have l2:=(O.f1 (P.bf (0+i) (nb-1) #v[] #v[])).mpr (O.tr (N _ _ #v[] #v[]) l1);show (!lt (G b (nb-1)) (G a (0+i)))=Zd;rw[l2];rfl
     have w1:∀i,i<k->le (G a i) (G b (nb-1)):=λi L=>by
      have:=k2 i L;rw[Co] at this;exact (O.f1 (P.bf i (nb-1) #v[] #v[])).mp (by simpa using this)
     have w2:∀i,k<=i->i<na->le (G b (nb-1)) (G a i):=λi L g2=>by
      have:=k3 i #v[] #v[];rw[Co] at this;exact O.f2 (by simpa using this)
     have m5:=p.appA' P.sa k1 d5 λi L g2 j g3=>O.tr (R j (nb-1) #v[] #v[]) (w2 i L g2);dsimp (config:={ failIfUnchanged:=Zc }) only;generalize hac:na-k=ac1 at m5 ⊢;generalize eou:out=out'
     revert out'
     generalize ena:na=na'
     revert na'
     refine z1d (λd D=>MH le a b D.toList.reverse d nb/\(∀i,i<d->le (G a i) (G b (nb-1)))/\(1<=d/\d<=a.size)/\x+y+d+nb<=a.size+b.size) (λhk0=>?_) (λhc H=>?_) λd D ⟨n5,u1,b8,p6⟩=>?_
     ·have k0:k=na:=by omega
      exact⟨p,k0 ▸ w1,by omega,by omega⟩
     ·refine q_if (λK => ?_) λK => ?_
      ·have K:k=0:=by simpa using K
       exact Au (hQ _ _ ⟨F,.inl (.mk _ _ (m5.done0 P.sb K))⟩)
      have K:¬ k=0:=by simpa using K
      exact H _ _ ⟨m5,w1,by omega,by omega⟩
     clear m5 p w2 w1 k3 k2 k1 hac;dsimp (config:={ failIfUnchanged:=Zc }) only;refine As (zax #v[] ?_);have m6:=n5.pushB' P.sb #v[] d6 u1;refine q_if (λt=>?_) λt=>?_
     ·have t:nb-1=1:=by simpa using t
      exact Au (hQ _ _ ⟨F,.inl (.mk _ _ (m6.first P.sa P.sb t P.h0))⟩)
     have t:¬ nb-1=1:=by simpa using t
     refine As (zax (show d-1<a.size by omega) (As (zr8 (left:=Zd) (key:=G a (d-1)) (arr:=b) (base:=0) (n:=nb-1) (hint:=nb-1-1) (B:=λj=>lt (G b (0+j)) (G a (d-1))) C F.i.kind (P.ma _ #v[]) #v[] (λj hj=>P.mb _ #v[]) (λj hj=>rfl) (λi j h1 h2 h3=>?mono2) #v[] λl l1 l2 l3=>?_)))
     case mono2 =>
      have n1:=O.f3 (P.bf (d-1) (0+j) #v[] #v[]) h3;cases q:lt (G b (0+i)) (G a (d-1)) with
      |true=>rfl
      |false=>exact absurd (O.tr ((O.f1 (P.bf (d-1) (0+i) #v[] #v[])).mp q) (R _ _ #v[] #v[])) n1
     have v1:∀j,j<l->le (G b j) (G a (d-1)):=λj L=>by
      have:=l2 j L;rw[Co] at this;exact O.f2 this
     have v2:∀j,l<=j->j<nb-1->le (G a (d-1)) (G b j):=λj L g2=>by
      have:=l3 j #v[] #v[];rw[Co] at this;exact (O.f1 (P.bf (d-1) j #v[] #v[])).mp this
     have U:=m6.appB' P.sb l1 #v[] λj L g2 i g3=>O.tr (N i (d-1) #v[] #v[]) (v2 j L g2);dsimp (config:={ failIfUnchanged:=Zc }) only;generalize hbc:nb-1-l=bc1 at U ⊢;generalize hnb:nb-1=nb1 at hbc U m6 ⊢;generalize hout:D.push (G b nb1)=u at U m6 ⊢;generalize eou:u=out'
     revert out'
     generalize ena:nb1=na'
     revert na'
     refine z1d (λo u=>MH le a b u.toList.reverse d o/\(∀j,j<o->le (G b j) (G a (d-1)))/\(2<=o/\o<=b.size)/\x+y+1+d+o<=a.size+b.size) (λhl0=>?_) (λhc H=>?_) λo out3 ⟨n7,u2,b7,p7⟩=>?_
     ·have k0:l=nb1:=by omega
      exact⟨m6,k0 ▸ v1,by omega,by omega⟩
     ·refine q_if (λW => ?_) λW => ?_
      ·have W:l=1:=by simpa using W
       exact Au (hQ _ _ ⟨F,.inl (.mk _ _ (U.first P.sa P.sb W P.h0))⟩)
      have W:¬ l=1:=by simpa using W
      refine q_if (λY=>?_) λY=>?_
      ·have Y:l=0:=by simpa using Y
       exact Au (hQ _ _ ⟨F,.inl (.mk _ _ (U.done1 P.sa Y))⟩)
      have Y:¬ l=0:=by simpa using Y
      exact H _ _ ⟨U,v1,by omega,by omega⟩
     dsimp (config:={ failIfUnchanged:=Zc }) only;refine As (zax #v[] ?_);have m8:=n7.pushA' P.sa b8.1 b8.2 u2;refine q_if (λZ=>?_) λZ=>?_
     ·have Z:d-1=0:=by simpa using Z
      exact Au (hQ _ _ ⟨F,.inl (.mk _ _ (m8.done0 P.sb Z))⟩)
     have Z:¬ d-1=0:=by simpa using Z
     refine q_if (λ_=>?_) λ_=>?_
     ·exact Au (hQ _ _ ⟨F,.inr (.mk _ _ _ _ _ _ ⟨m8,by omega,by omega,by omega,by omega,by omega⟩)⟩)
     ·exact Au (hQ _ _ ⟨F,.mk _ _ _ _ _ _ ⟨m8,by omega,by omega,by omega,by omega,by omega⟩⟩)
end
end Tim
namespace Tim
noncomputable def wr (xs:Array Keyed) (s0:Nat) (l:List Keyed) (m:Nat):Array Keyed:=(l.zipIdx m).foldl (λa (x:Keyed×Nat)=>match x with|(p,j)=>a.setIfInBounds (s0+j) p) xs
theorem zwn (xs:Array Keyed)(s0:Nat)(p:Keyed)(l:List Keyed)(m:Nat):wr xs s0 (p::l) m=wr (xs.setIfInBounds (s0+m) p) s0 l (m+1):=by unfold wr;rw[List.zipIdx_cons,List.foldl_cons]
theorem zvs (s0:Nat):∀(l:List Keyed) (m:Nat) (x:Array Keyed),(wr x s0 l m).size=x.size
 |[],m,x=>rfl
 |p::l,m,x=>by rw[zwn,zvs s0 l,Array.size_setIfInBounds]
theorem ydg {xs:Array Keyed}{i k:Nat}{p:Keyed}(h:i<xs.size):G (xs.setIfInBounds i p) k=if i=k then p else G xs k:=by
 unfold G;rw[Array.getElem?_setIfInBounds];split
 ·rename_i e;subst e
  first|rfl|(rw[if_pos h];rfl)
 ·rfl
theorem G_wr (s0:Nat):∀(l:List Keyed) (m:Nat) (x:Array Keyed),s0+m+l.length<=x.size->∀i,G (wr x s0 l m) i=if s0+m<=i/\i<s0+m+l.length then (l[i-(s0+m)]?).getD d0 else G x i
 |[],m,x,h,i=>by rw[if_neg (by simp)];rfl
 | p::l,m,x,h,i=>by
  rw[Ay] at h;rw[zwn,G_wr s0 l (m+1) _ (by rw[Array.size_setIfInBounds];omega),ydg #v[]];rw[Ay];by_cases c:i=s0+m
  ·subst c
   rw[if_neg #v[],if_pos rfl,if_pos ⟨by omega,by omega⟩,Nat.sub_self]
   rfl
  ·by_cases a:s0+m ≤ i /\ i<s0+m+(l.length+1)
   ·rw[if_pos ⟨by omega,by omega⟩,if_pos a,show i-(s0+m)=i-(s0+(m+1))+1 by omega,List.getElem?_cons_succ]
   ·rw[if_neg #v[],if_neg #v[],if_neg a]
theorem zqp {xs:Array Keyed}{i:Nat}(h:i<xs.size):G xs i=xs[i]:=by unfold G;rw[getElem?_pos xs i h];rfl
theorem zpy {xs:Array Keyed}{i j k:Nat}(a:j<=xs.size)(b:i+k<j):G (xs.extract i j) k=G xs (i+k):=by
 have h:k<(xs.extract i j).size:=by rw[Array.size_extract];omega
 rw[zqp h,Array.getElem_extract,zqp #v[]]
theorem zd5 {xs:Array Keyed}{i j:Nat}(h:j<=xs.size):(xs.extract i j).size=j-i:=by rw[Array.size_extract];omega
theorem ydd {xs:Array Keyed}{s0 m e:Nat}{r:List Keyed}(B:s0<=m)(D:m<=e)(c:e<=xs.size)(p:r.Perm ((xs.extract s0 m).toList++(xs.extract m e).toList)):Re xs (wr xs s0 r 0) s0 e/\r.length=e-s0:=by
 have s:r.length=e-s0:=by
  rw[p.length_eq,Bb,Ca,Ca,zd5 #v[],zd5 c];omega
 have b:=G_wr s0 r 0 xs #v[];refine⟨⟨?_,λi h=>?_,λi E A=>?_⟩,s⟩
 ·have y:(wr xs s0 r 0).toList=xs.toList.take s0++r++xs.toList.drop e:=by
   apply Ds;intro i;have sz:(wr xs s0 r 0).size=xs.size:=zvs _ _ _ _;by_cases h:i<xs.size
   ·have o:(wr xs s0 r 0).toList[i]? = Za (G (wr xs s0 r 0) i):=G_list #v[];rw[o,b i];by_cases x:i<s0
    ·rw[if_neg #v[],Bc,Dl (by simp;omega),List.getElem?_take_of_lt x,G_list h]
    ·by_cases C:i<e
     ·rw[if_pos ⟨by omega,by omega⟩,Bc,Fj (by simp;omega),Dl (by simp;omega)];have:(List.take s0 xs.toList).length=s0:=by simp;omega
      rw[this,Nat.add_zero,Ae #v[]]
      rfl
     ·rw[if_neg #v[],Fj (by simp;omega),List.getElem?_drop];have:(List.take s0 xs.toList++r).length=e:=by simp;omega
      rw[this,show e+(i-e)=i by omega,G_list h]
   ·rw[Ci (by simp;omega),Ci (by simp;omega)]
  have w:xs.toList=xs.toList.take s0++((xs.extract s0 m).toList++(xs.extract m e).toList)++xs.toList.drop e:=by
   rw[zde,zde];have u:(xs.toList.drop s0).take (m-s0)++(xs.toList.drop m).take (e-m)=(xs.toList.drop s0).take (e-s0):=by
    rw[show e-s0=(m-s0)+(e-m) by omega,List.take_add,List.drop_drop,show s0+(m-s0)=m by omega]
   rw[u,Bc];have t:(xs.toList.drop s0).take (e-s0)++xs.toList.drop e=xs.toList.drop s0:=by
    have:=Bz (e-s0) (xs.toList.drop s0);rw[List.drop_drop,show s0+(e-s0)=e by omega] at this;exact this
   rw[t,Bz]
  refine Hi.mpr ?_;rw[y];have q:=(p.append_left (xs.toList.take s0)).append_right (xs.toList.drop e);rw[<-w] at q;exact q
 ·rw[b i,if_neg #v[]]
 ·rw[b i,if_pos ⟨by omega,by omega⟩,Ae #v[]];have g:=p.mem_iff.mp (List.getElem_mem (l:=r) (n:=i-(s0+0)) #v[]);show ∃j,s0<=j/\j<e/\r[i-(s0+0)]=G xs j;rcases Cc.mp g with z|z
  ·obtain⟨k,f,d,a⟩:=mem_drop (n:=0) (by rw[Et];exact z);rw[zd5 #v[]] at d;exact⟨s0+k,by omega,by omega,by rw[a,zpy #v[] #v[]]⟩
  ·obtain⟨k,f,d,a⟩:=mem_drop (n:=0) (by rw[Et];exact z);rw[zd5 c] at d;exact⟨m+k,by omega,by omega,by rw[a,zpy c #v[]]⟩
section
variable (bf le:Keyed->Keyed->Prop)
noncomputable def Chain (xs:Array Keyed):Nat->List (Nat×Nat×Nat)->Nat->Prop
 |c,[],h=>c=h
 |c,(s,n,_)::r,h=>s=c/\1<=n/\Srt le xs c (c+n)/\Cut bf xs c/\Chain xs (c+n) r h
end
section
variable {bf le:Keyed->Keyed->Prop}{xs ys:Array Keyed}
theorem Chain.len:∀{l:List (Nat×Nat×Nat)}{c a:Nat},Chain bf le xs c l a->c+l.length<=a
 |[],c,a,h=>by cases h;simp
 | (s,n,_)::r,c,a,h=>by
  have:=Chain.len h.2.2.2.2;have:=h.2.1;rw[Ay];omega
theorem Chain.app:∀{l a:List (Nat×Nat×Nat)}{c b:Nat},Chain bf le xs c (l++a) b↔∃m,Chain bf le xs c l m/\Chain bf le xs m a b
 |[],a,c,b=>⟨λh=>⟨c,rfl,h⟩,λ⟨m,e,h⟩=>by cases e;exact h⟩
 | (s,n,_)::r,a,c,b=>⟨λ⟨d,k,i,j,o⟩=>by
  obtain⟨m,g,f⟩:=Chain.app.mp o;exact⟨m,⟨d,k,i,j,g⟩,f⟩,λ⟨m,⟨d,k,i,j,g⟩,f⟩=>⟨d,k,i,j,Chain.app.mpr ⟨m,g,f⟩⟩⟩
theorem Chain.re:∀{l:List (Nat×Nat×Nat)}{c d b a:Nat},Chain bf le xs c l d->Re xs ys b a->a<=xs.size->(d<=b\/a<=c)->Chain bf le ys c l d
 |[],c,d,b,a,h,_,_,_=>h
 | (s,n,q)::r,c,d,b,a,⟨g,k,i,j,e⟩,R,f,m=>by
  have:=Chain.len e;exact⟨g,k,i.re R #v[],j.re R f #v[],Chain.re e R f #v[]⟩
end
section
variable {prog:Program}{w:World}{A:Around}{E:Ze->Zf->Prop}{s:Zf}{κ:SortKind}{a₀:Array Keyed}{lt:Keyed->Keyed->Bool}{bf le:Keyed->Keyed->Prop}{st:SortSt}{pd:Array (Nat × Nat × Nat)}
theorem yc2 {a:SortSt}{Q:PUnit->SortSt->Prop}(h:Q ⟨⟩ a):wpS (model prog w) A E s (set a:StateT SortSt Sem PUnit) Q st:=by
 unfold wpS;rw[StateT.run_set];exact Am ⟨rfl,h⟩
theorem z8t {a:SortSt}{P:SortSt->Prop}{Q:PUnit->SortSt->Prop}(c:P a)(h:∀b,P b->Q ⟨⟩ b):wpS (model prog w) A E s (set a:StateT SortSt Sem PUnit) Q st:=yc2 (h _ c)
theorem z8w {l:List (Nat×Nat×Nat)}{i:Nat}(h:i+1<l.length):l=l.take i++l[i]::l[i+1]::l.drop (i+2):=by
 have a:=Cs (l:=l) (i:=i) #v[];have e:=Cs (l:=l) (i:=i+1) #v[];have:=Bz i l;rw[a,e] at this;exact this.symm
theorem zks (C:Asks prog w A E s κ a₀ lt) (O:Ord lt bf le) {i lo:Nat}{Q:Bool->SortSt->Prop} (I:SI κ a₀ pd st) (u:i+1<pd.size) (ch:Chain bf le (arrOf st) 0 pd.toList lo) (hlo:lo<=a₀.size)
  (h:∀f p,SI κ a₀ p f->p.size+1=pd.size->Chain bf le (arrOf f) 0 p.toList lo->Re (arrOf st) (arrOf f) 0 lo->Q Zd f):wpS (model prog w) A E s (mergeAt' i) Q st:=by
 have sz:=I.size;have N:i+1<pd.toList.length:=by simpa using u
 have es:=z8w N;obtain⟨⟨a,b,W⟩,ea⟩ : ∃t,pd.toList[i]=t:=⟨_,rfl⟩;obtain⟨⟨sb,y,pw'⟩,eb⟩ : ∃t,pd.toList[i+1]=t:=⟨_,rfl⟩;rw[ea,eb] at es;have ch0:=ch;rw[es] at ch;obtain⟨m,V,⟨e1,a2,Z,a4,⟨e2,b2,b3,b4,c2⟩⟩⟩:=Chain.app.mp ch;subst e1;subst e2;have l2:=Chain.len c2;have l1:=Chain.len V;have np:∃p:Array (Nat×Nat×Nat),p=(pd.setIfInBounds i (a,b+y,W)).eraseIdxIfInBounds (i+1)/\p.size+1=pd.size/\p.toList=pd.toList.take i++(a,b+y,W)::pd.toList.drop (i+2):=by
  refine (λ(q:((pd.setIfInBounds i (a,b+y,W)).eraseIdxIfInBounds (i+1)).toList=_)=>⟨_,rfl,by
   have M:=congrArg List.length q;rw[Ca,Bb,Ay,Cj,Gj,Ca] at M;omega,q⟩) ?_
  ·rw [Array.toList_eraseIdxIfInBounds,Array.toList_setIfInBounds];have:(pd.toList.set i (a,b+y,W))=pd.toList.take i++(a,b+y,W)::(a+b,y,pw')::pd.toList.drop (i+2):=by
    rw[List.set_eq_take_append_cons_drop,if_pos #v[],Cs N,eb]
   rw[this];have l3:(pd.toList.take i).length=i:=by rw[Cj];omega
   rw[List.eraseIdx_append_of_length_le #v[],l3,show i+1-i=1 by omega]
   rfl
 obtain⟨p,epd,zpd,lpd⟩:=np;have fin:∀f,kindOf f=κ->failedOf f=Zb->pendingOf f=p->Re (arrOf st) (arrOf f) a (a+b+y)->Srt le (arrOf f) a (a+b+y)->Q Zd f:=λf k1 k2 k3 R S=>by
  refine h f p ⟨k1,k2,R.perm.trans I.perm,k3⟩ zpd ?_ (R.mono #v[] #v[]);rw[lpd];refine Chain.app.mpr ⟨a,V.re R #v[] (.inl (Ag _)),rfl,by omega,?_,a4.re R #v[] (.inl (Ag _)),?_⟩
  ·rw[<-Nat.add_assoc];exact S
  ·rw[<-Nat.add_assoc];exact c2.re R #v[] (.inr (Ag _))
 have K:∀i j,a<=i->i<=j->j<a+b->le (G (arrOf st) i) (G (arrOf st) j):=λi j o x g=>by
  by_cases e:i=j
  ·rw[e];exact O.rf _
  ·exact Z i j o #v[] g
 have L:∀i j,a+b<=i->i<=j->j<a+b+y->le (G (arrOf st) i) (G (arrOf st) j):=λi j o x g=>by
  by_cases e:i=j
  ·rw[e];exact O.rf _
  ·exact b3 i j o #v[] g
 have D:∀i j,i<a+b->a+b<=j->j<a+b+y->bf (G (arrOf st) i) (G (arrOf st) j):=λi j o x g=>b4 i j o x #v[];have mem:∀i,i<a₀.size->G (arrOf st) i∈a₀.toList:=λi u=>z42 I.perm #v[];show wpS (model prog w) A E s (get>>=_) Q st;refine As (Hs ?_);have g1:(pendingOf st)[i]?=Za (a,b,W):=by
  rw[I.pend,<-Ee,Ae #v[],ea]
 have X:(pendingOf st)[i+1]?=Za (a+b,y,pw'):=by
  rw[I.pend,<-Ee,Ae N,eb]
 dsimp only;rw[g1,X];refine As (z8t (P:=SG κ a₀ p (arrOf st)) ⟨⟨I.kind,I.failed,I.perm,by have q:=I.pend;subst epd;subst q;rfl⟩,rfl⟩ λst1 H=>?_);refine As (zax (show a+b<(arrOf st).size by omega) (As (zr8 (left:=Zc) (key:=G (arrOf st) (a+b)) (arr:=arrOf st) (base:=a) (n:=b) (hint:=0) (B:=λi=>!lt (G (arrOf st) (a+b)) (G (arrOf st) (a+i))) C H.i.kind (mem _ #v[]) #v[] (λi u=>mem _ #v[]) (λi u=>rfl) (λi j o x g=>?mono1) #v[] λk k1 k2 k3=>?_)))
 case mono1 =>
  have h3':lt (G (arrOf st) (a+b)) (G (arrOf st) (a+j))=Zc:=by simpa using g
  have z1:=(O.f1 (D (a+j) (a+b) #v[] #v[] #v[])).mp h3';have z2:=(O.f1 (D (a+i) (a+b) #v[] #v[] #v[])).mpr (O.tr (K _ _ #v[] #v[] #v[]) z1);show (!lt (G (arrOf st) (a+b)) (G (arrOf st) (a+i)))=Zd;rw[z2];rfl
 have w1:∀i,a<=i->i<a+k->le (G (arrOf st) i) (G (arrOf st) (a+b)):=λi g1 X=>by
  have:=k2 (i-a) #v[];rw[show a+(i-a)=i by omega] at this;exact (O.f1 (D i (a+b) #v[] #v[] #v[])).mp (by simpa using this)
 have w2:∀i,a+k<=i->i<a+b->le (G (arrOf st) (a+b)) (G (arrOf st) i):=λi g1 X=>by
  have:=k3 (i-a) #v[] #v[];rw[show a+(i-a)=i by omega] at this;exact O.f2 (by simpa using this)
 refine q_if (λq1=>?_) λq1=>?_
 ·have q1:b-k=0:=by simpa using q1
  refine Au (fin _ H.i.kind H.i.failed H.i.pend (by rw[H.e];exact .refl _ _ _) ?_);rw[H.e];intro i j o x g;by_cases V:j<a+b
  ·exact Z i j o x V
  ·by_cases c2:i<a+b
   ·exact O.tr (w1 i o #v[]) (L _ _ (Ag _) #v[] g)
   ·exact b3 i j #v[] x g
 have q1:¬ b-k=0:=by simpa using q1
 have e3:a+k+(b-k)-1=a+b-1:=by omega
 refine As (zax (show a+k+(b-k)-1<(arrOf st).size by omega) (As (zr8 (left:=Zd) (key:=G (arrOf st) (a+k+(b-k)-1)) (arr:=arrOf st) (base:=a+b) (n:=y) (hint:=y-1) (B:=λi=>lt (G (arrOf st) (a+b+i)) (G (arrOf st) (a+k+(b-k)-1))) C H.i.kind (mem _ #v[]) #v[] (λi u=>mem _ #v[]) (λi u=>rfl) (λi j o x g=>?mono2) #v[] λl l1 l2 l3=>?_)))
 case mono2 =>
  have n1:=O.f3 (D (a+k+(b-k)-1) (a+b+j) #v[] #v[] #v[]) g;cases q:lt (G (arrOf st) (a+b+i)) (G (arrOf st) (a+k+(b-k)-1)) with
  |true=>rfl
  |false=>exact absurd (O.tr ((O.f1 (D _ (a+b+i) #v[] #v[] #v[])).mp q) (L _ _ #v[] #v[] #v[])) n1
 rw[e3] at l2 l3;have v1:∀j,a+b<=j->j<a+b+l->le (G (arrOf st) j) (G (arrOf st) (a+b-1)):=λj g1 X=>by
  have:=l2 (j-(a+b)) #v[];rw[show a+b+(j-(a+b))=j by omega] at this;exact O.f2 this
 have v2:∀j,a+b+l<=j->j<a+b+y->le (G (arrOf st) (a+b-1)) (G (arrOf st) j):=λj g1 X=>by
  have:=l3 (j-(a+b)) #v[] #v[];rw[show a+b+(j-(a+b))=j by omega] at this;exact (O.f1 (D _ j #v[] #v[] X)).mp this
 refine q_if (λM=>?_) λM=>?_
 ·have M:l=0:=by simpa using M
  refine Au (fin _ H.i.kind H.i.failed H.i.pend (by rw[H.e];exact .refl _ _ _) ?_);rw[H.e];intro i j o x g;by_cases V:j<a+b
  ·exact Z i j o x V
  ·by_cases c2:i<a+b
   ·exact O.tr (K i (a+b-1) o #v[] #v[]) (v2 j #v[] g)
   ·exact b3 i j #v[] x g
 have M:¬ l=0:=by simpa using M
 have U:((arrOf st).extract (a+k) (a+b)).size=b-k:=by rw[zd5 #v[]];omega
 have sy:((arrOf st).extract (a+b) (a+b+l)).size=l:=by rw[zd5 #v[]];omega
 have T:∀i,i<b-k->G ((arrOf st).extract (a+k) (a+b)) i=G (arrOf st) (a+k+i):=λi u=>zpy #v[] #v[];have Y:∀i,i<l->G ((arrOf st).extract (a+b) (a+b+l)) i=G (arrOf st) (a+b+i):=λi u=>zpy #v[] #v[];have P:MP lt bf le a₀ ((arrOf st).extract (a+k) (a+b)) ((arrOf st).extract (a+b) (a+b+l)):=by
  refine⟨?_,?_,?_,?_,?_,?_,?_,?_,?_⟩
  ·intro i j o x g;rw[U] at g;rw[T i #v[],T j g];exact Z _ _ #v[] #v[] #v[]
  ·intro i j o x g;rw[sy] at g;rw[Y i #v[],Y j g];exact b3 _ _ #v[] #v[] #v[]
  ·intro i u;rw[U] at u;rw[T i u];exact mem _ #v[]
  ·intro i u;rw[sy] at u;rw[Y i u];exact mem _ #v[]
  ·intro i j u hj;rw[U] at u;rw[sy] at hj;rw[T i u,Y j hj];exact D _ _ #v[] #v[] #v[]
  ·rw[U];omega
  ·rw[sy];omega
  ·intro i u;rw[U] at u;rw[T i u,Y 0 #v[]];exact w2 _ #v[] #v[]
  ·intro j hj;rw[sy] at hj;rw[Y j hj,U,T _ #v[],show a+k+(b-k-1)=a+b-1 by omega];exact v1 _ #v[] #v[]
 have close:∀(r:Array Keyed) (d:SortSt),SG κ a₀ p (arrOf st) d->Fin le ((arrOf st).extract (a+k) (a+b)) ((arrOf st).extract (a+b) (a+b+l)) r.toList ->
   Q Zd (setArr d (wr (arrOf d) (a+k) r.toList 0)):=λr d J F=>by
  obtain⟨R,hl⟩:=ydd (xs:=arrOf st) (s0:=a+k) (m:=a+b) (e:=a+b+l) #v[] #v[] #v[] F.p;have hg:=G_wr (a+k) r.toList 0 (arrOf st) #v[];refine fin _ J.i.kind J.i.failed J.i.pend ?_ ?_
  ·show Re (arrOf st) (wr (arrOf d) (a+k) r.toList 0) a (a+b+y);rw[J.e];exact R.mono #v[] #v[]
  ·show Srt le (wr (arrOf d) (a+k) r.toList 0) a (a+b+y);rw[J.e];have inm:∀i,a+k<=i->i<a+b+l->(∃j,a+k<=j/\j<a+b+l/\G (wr (arrOf st) (a+k) r.toList 0) i=G (arrOf st) j):=λi o x=>R.inn i o x;intro i j o x g;by_cases ci:i<a+k
   ·rw[R.out i (.inl ci)];by_cases cj:j<a+k
    ·rw[R.out j (.inl cj)];exact Z i j o x #v[]
    ·have below:∀z,a+k<=z->z<a+b+y->le (G (arrOf st) i) (G (arrOf st) z):=λz z1 z2=>by
      by_cases c:z<a+b
      ·exact K i z o #v[] c
      ·exact O.tr (w1 i o ci) (L _ _ (Ag _) #v[] z2)
     by_cases cj2:j<a+b+l
     ·obtain⟨z,z1,z2,z3⟩:=inm j #v[] cj2;rw[z3];exact below z z1 #v[]
     ·rw[R.out j (.inr #v[])];exact below j #v[] g
   ·by_cases ci2:i<a+b+l
    ·by_cases cj2:j<a+b+l
     ·rw[hg i,hg j,if_pos ⟨by omega,by omega⟩,if_pos ⟨by omega,by omega⟩,Ae #v[],Ae #v[]];exact (Ef.mp F.s) _ _ _ _ #v[]
     ·rw[R.out j (.inr #v[])];obtain⟨z,z1,z2,z3⟩:=inm i #v[] ci2;rw[z3];by_cases c:z<a+b
      ·exact O.tr (K z (a+b-1) #v[] #v[] #v[]) (v2 j #v[] g)
      ·exact L z j #v[] #v[] g
    ·rw[R.out i (.inr #v[]),R.out j (.inr #v[])];exact b3 i j #v[] x g
 have en:∀(r:Array Keyed) (d:SortSt),SG κ a₀ p (arrOf st) d->Fin le ((arrOf st).extract (a+k) (a+b)) ((arrOf st).extract (a+b) (a+b+l)) r.toList ->
   Q ((failedOf (setArr d (wr (arrOf d) (a+k) r.toList 0))).isNone) (setArr d (wr (arrOf d) (a+k) r.toList 0)):=λr d J F=>by
  have e:failedOf (setArr d (wr (arrOf d) (a+k) r.toList 0))=Zb:=J.i.failed;rw[e];exact close r d J F
 refine q_if (λ_=>?_) λ_=>?_
 ·exact As (ydb C O H P λr d J F=>As (wpS_modify (As (Hs (Au (en r d J F))))))
 ·exact As (ydr C O H P λr d J F=>As (wpS_modify (As (Hs (Au (en r d J F))))))
end
end Tim
namespace Tim
section
variable {prog:Program}{w:World}{A:Around}{E:Ze->Zf->Prop}{s:Zf}{κ:SortKind}{a₀:Array Keyed}{lt:Keyed->Keyed->Bool}{bf le:Keyed->Keyed->Prop}{st:SortSt}{pd:Array (Nat × Nat × Nat)}
structure SP (κ:SortKind) (bf le:Keyed->Keyed->Prop) (a₀:Array Keyed) (lo:Nat) (st:SortSt):Prop where
 kind:kindOf st=κ
 failed:failedOf st=Zb
 perm:(arrOf st).Perm a₀
 ch:Chain bf le (arrOf st) 0 (pendingOf st).toList lo
 cut:∀c,lo<=c->Cut bf (arrOf st) c
theorem SP.si {lo:Nat}(h:SP κ bf le a₀ lo st):SI κ a₀ (pendingOf st) st:=⟨h.kind,h.failed,h.perm,rfl⟩
theorem zlh:∀{l:List (Nat×Nat×Nat)}{i c d p:Nat}{e:Array Keyed},Chain bf le e c l d->Chain bf le e c (l.modify i λx=>match x with|(a,b,_)=>(a,b,p)) d
 |[],i,c,d,p,e,h=>by cases i<;>exact h
 |(s,n,q)::r,0,c,d,p,e,h=>h
 |(s,n,q)::r,i+1,c,d,p,e,⟨g,m,j,k,f⟩=>⟨g,m,j,k,zlh f⟩
theorem ztr {f:SortSt->SortSt}{P:SortSt->Prop}{Q:PUnit->SortSt->Prop}(b:P (f st))(h:∀a,P a->Q ⟨⟩ a):wpS (model prog w) A E s (modify f:StateT SortSt Sem PUnit) Q st:=wpS_modify (h _ b)
theorem q_sort (C:Asks prog w A E s κ a₀ lt) (O:Ord lt bf le) {Q:Unit->SortSt->Prop} (I:SI κ a₀ #[] st) (ea:arrOf st=a₀) (hb:∀c,Cut bf a₀ c)
  (h:∀D,failedOf D=Zb->(arrOf D).Perm a₀->Srt le (arrOf D) 0 a₀.size->Q () D):wpS (model prog w) A E s sortRuns' Q st:=by
 rw [sortRuns'_eq];refine As (Hs ?_);have sz:=I.size;rw [sz];dsimp only;have P0:SP κ bf le a₀ 0 st:=⟨I.kind,I.failed,I.perm,by rw [I.pend];rfl,λc _=>by rw [ea];exact hb c⟩;refine As (Ec (Cm (I:=λx c G=>∃a,c=(Zb,a)/\x<=a/\a<=a₀.size/\SP κ bf le a₀ a G)
  (Q:=λc G=>c=(Zb,a₀.size)/\SP κ bf le a₀ a₀.size G) ?os ?of ⟨0,rfl,by omega,by omega,P0⟩) ?op)
 case of =>
  rintro c G ⟨a,rfl,h1,h2,P⟩;have e:a=a₀.size:=by omega
  subst e;exact⟨rfl,P⟩
 case os =>
  rintro x c G _ hx ⟨a,rfl,h1,h2,P⟩;refine q_if (λg=>?_) λg=>?_
  ·have e:a=a₀.size:=by omega
   subst e;exact Au ⟨rfl,P⟩
  have g:a<a₀.size:=by omega
  refine As (z4n C O P.si (show a+(a₀.size-a)<=a₀.size by omega) #v[] P.cut λn f N n1 n2 J X=>?_);have z3:=N.size;have z2:=P.si.size;have c3:∀c,a+n<=c->Cut bf (arrOf f) c:=λc o=>(P.cut c #v[]).re J #v[] (.inr o);dsimp only;refine q_if (λg2=>?_) λg2=>?_;refine As (wpS_lift (Dh ⟨rfl,?_⟩));refine As (ydf C O N (show a+min (a₀.size-a) (minRun' a₀.size a₀.size 0)<=a₀.size by omega) #v[] n1 X c3 λk p V S=>?_);refine q_if (λz=>by simp at z) λ_=>?_;have Z:1<=min (a₀.size-a) (minRun' a₀.size a₀.size 0):=by omega
  have hM:a+min (a₀.size-a) (minRun' a₀.size a₀.size 0)<=a₀.size:=by omega
  have R:Re (arrOf G) (arrOf k) a (a+min (a₀.size-a) (minRun' a₀.size a₀.size 0)):=(J.mono (Ag _) #v[]).trans V;generalize min (a₀.size-a) (minRun' a₀.size a₀.size 0)=m at p V S Z hM R ⊢;clear N J X z3 c3 V g2
  rotate_left
  have Z:=n1;have hM:a+n<=a₀.size:=by omega
  have R:=J;have p:=N;have S:=X;clear N J X z3 c3 g2;generalize n=m at p S Z hM R ⊢;generalize f=k at p S R ⊢
  rotate_left
  all_goals
   have z4:=p.size;have c4:∀c,a+m<=c->Cut bf (arrOf k) c:=λc o=>(P.cut c (by omega)).re R (by omega) (.inr o);have k4:Cut bf (arrOf k) a:=(P.cut a (Ag _)).re R (by omega) (.inl (Ag _));have F:Chain bf le (arrOf k) 0 (pendingOf k).toList a:=by
    rw[p.pend];exact P.ch.re R #v[] (.inl (Ag _))
   have Y:kindOf k=κ/\failedOf k=Zb/\(arrOf k).Perm a₀:=⟨p.kind,p.failed,p.perm⟩;clear p R;refine As (Hs ?_);have push:∀d,kindOf d=κ->failedOf d=Zb->(arrOf d).Perm a₀->Chain bf le (arrOf d) 0 (pendingOf d).toList a->Srt le (arrOf d) a (a+m)->Cut bf (arrOf d) a->(∀c,a+m<=c->Cut bf (arrOf d) c) ->
     SP κ bf le a₀ (a+m) (setPending d ((pendingOf d).push (a,m,0))):=λd a1 a2 a3 a4 a5 a6 a7=>by
    refine⟨a1,a2,a3,?_,a7⟩;show Chain bf le (arrOf d) 0 ((pendingOf d).push (a,m,0)).toList (a+m);rw[Dt];exact Chain.app.mpr ⟨a,a4,rfl,Z,a5,a6,rfl⟩
   cases q:(pendingOf k).back? with
   | none =>
    exact As (ztr (P:=SP κ bf le a₀ (a+m)) (push k Y.1 Y.2.1 Y.2.2 F S k4 c4) λu P6=>Au ⟨a+m,rfl,by omega,hM,P6⟩)
   | some t =>
    obtain ⟨s1,n1',p1⟩:=t;dsimp only;refine As (Ec (Cm (I:=λy c d=>c=(Zb,())/\(kindOf d=κ/\failedOf d=Zb/\(arrOf d).Perm a₀)/\Chain bf le (arrOf d) 0 (pendingOf d).toList a/\Srt le (arrOf d) a (a+m)/\Cut bf (arrOf d) a/\∀c,a+m<=c->Cut bf (arrOf d) c)
     (Q:=λc d=>c=(Zb,())/\(kindOf d=κ/\failedOf d=Zb/\(arrOf d).Perm a₀)/\Chain bf le (arrOf d) 0 (pendingOf d).toList a/\Srt le (arrOf d) a (a+m)/\Cut bf (arrOf d) a/\∀c,a+m<=c->Cut bf (arrOf d) c) ?ms ?mf ⟨rfl,Y,F,S,k4,c4⟩) ?mp)
    case mf =>
     intro c d z;exact z
    case mp =>
     rintro c d ⟨rfl,K,B,U,L,T⟩;dsimp only;refine As (ztr (P:=λu=>(kindOf u=κ/\failedOf u=Zb/\(arrOf u).Perm a₀)/\Chain bf le (arrOf u) 0 (pendingOf u).toList a/\Srt le (arrOf u) a (a+m)/\Cut bf (arrOf u) a/\∀c,a+m<=c->Cut bf (arrOf u) c) ⟨K,?_,U,L,T⟩ λu z6=>?_)
     ·show Chain bf le (arrOf d) 0 ((pendingOf d).modify _ _).toList a
      rw[Array.toList_modify];exact zlh B
     ·refine aG λGg qG => ?_
      obtain⟨K6,H,S6,k6,c6⟩:=z6;ac_rfl;exact As (ztr (P:=SP κ bf le a₀ (a+m)) (push u K6.1 K6.2.1 K6.2.2 H S6 k6 c6) λs7 P7=>Au ⟨a+m,rfl,by omega,hM,P7⟩)
    case ms =>
     rintro y c d _ hy ⟨rfl,K,B,U,L,T⟩;refine As (Hs ?_)
     try dsimp only
     by_cases g4:(pendingOf d).size > 1
     ·rw [if_pos g4]
      obtain⟨⟨t1,t2,t3⟩,et⟩ : ∃t,(pendingOf d)[(pendingOf d).size-2]?=Za t:=⟨_,getElem?_pos _ _ #v[]⟩;rw[et];dsimp only;refine q_if (λ_=>Au ⟨rfl,K,B,U,L,T⟩) λ_=>?_;refine As (zks C O (i:=(pendingOf d).size-2) (lo:=a) ⟨K.1,K.2.1,K.2.2,rfl⟩ #v[] B h2 λu pd6 W z6 H R6=>?_);have zz:=K.2.2.size_eq;refine q_if (λz=>by simp at z) λ_=>?_;refine Au ⟨rfl,⟨W.kind,W.failed,W.perm⟩,by rw[W.pend];exact H,U.re R6 (.inr (Ag _)),L.re R6 #v[] (.inr (Ag _)),λc o=>(T c o).re R6 #v[] (.inr #v[])⟩
     ·rw [if_neg g4]
      exact Au ⟨rfl,K,B,U,L,T⟩
 case op =>
  rintro c G ⟨rfl,P⟩;have l0:=Chain.len P.ch;rw [Ca] at l0;have one:∀f,SP κ bf le a₀ a₀.size f->(pendingOf f).size<=1->Srt le (arrOf f) 0 a₀.size:=λf r h1=>by
   have o:=r.ch;have M:(pendingOf f).toList.length<=1:=by simpa using h1
   revert o M
   generalize (pendingOf f).toList=l;intro o M
   match l,o,M with
   | [],o,_ =>
    have:0=a₀.size:=o;intro i j g1 g2 g3;omega
   | [(s0,n,q)],⟨b1,b2,b3,b4,b5⟩,_ =>
    have:0+n=a₀.size:=b5;rw[<-this];exact b3
   |_::_::_,_,M=>simp at M
  refine As (Ec (Cm (I:=λy c f=>c=(Zb,())/\SP κ bf le a₀ a₀.size f/\((pendingOf f).size<=1\/(pendingOf f).size+y<=a₀.size)) (Q:=λc f=>c=(Zb,())/\SP κ bf le a₀ a₀.size f/\(pendingOf f).size<=1) ?fs ?ff ⟨rfl,P,.inr #v[]⟩) ?fp)
  case ff =>
   rintro c f ⟨o,r,z⟩;exact⟨o,r,by omega⟩
  case fp =>
   rintro c f ⟨rfl,r,z⟩;exact Au (h f r.failed r.perm (one f r z))
  case fs =>
   rintro y c f _ hy ⟨rfl,r,z⟩;refine As (Hs ?_);refine q_if (λg=>Au ⟨rfl,r,g⟩) λg=>?_;have zz:=r.perm.size_eq;have go:∀i,i+1<(pendingOf f).size->wpS (model prog w) A E s (mergeAt' i) (λb k=>b=Zd/\SP κ bf le a₀ a₀.size k/\((pendingOf k).size<=1\/(pendingOf k).size+(y+1)<=a₀.size)) f:=λi hi =>
    zks C O (lo:=a₀.size) r.si hi r.ch (Ag _) λk pd4 p z4 F V=>⟨rfl,⟨p.kind,p.failed,p.perm,by rw[p.pend];exact F,λc o=>(r.cut c o).re V #v[] (.inr o)⟩,by rw[p.pend];omega⟩
   refine As (Ec (go _ (by
    have g' : ¬ (pendingOf f).size<=1:=g;generalize (if (pendingOf f).size-2 > 0 then Option.map (λx=>x.snd.fst) (pendingOf f)[(pendingOf f).size-2-1]? else Zb)=bf9
    try dsimp only
    split<;>omega)) λb k z4=>?_)
   obtain⟨rfl,P4,z5⟩:=z4;refine q_if (λz=>by simp at z) λ_=>?_;exact Au ⟨rfl,P4,z5⟩
end
end Tim
end L2
namespace L2
open PySem PySem.Spec PyProof.Rows
open PySem.AutoSeq1 (wpAny_loadPart')
open PySem.SeqAt
noncomputable def lexI:List Int->List Int->Bool
 |[],[]=>Zc
 |[],_::_=>Zd
 |_::_,[]=>Zc
 |a::c,b::bs=>if a=b then lexI c bs else decide (a<b)
theorem zcb:∀x,lexI x x=Zc
 |[]=>rfl
 |a::b=>by unfold lexI;rw[if_pos rfl];exact zcb b
theorem zdq:∀{x y z:List Int},lexI x y=Zd->lexI y z=Zd->lexI x z=Zd
 |[],[],_,h,_=>by cases h
 |[],_::_,[],_,h=>by cases h
 |[],_::_,_::_,_,_=>rfl
 |_::_,[],_,h,_=>by cases h
 |_::_,_::_,[],_,h=>by cases h
 | a::i,b::bs,c::k,e,d=>by
  unfold lexI at e d ⊢;by_cases g:a=b
  ·subst g
   rw[if_pos rfl] at e;by_cases f:a=c
   ·rw[if_pos f] at d ⊢;exact zdq e d
   ·rw[if_neg f] at d ⊢;exact d
  ·rw [if_neg g] at e
   have l:=Ai e;by_cases f:b=c
   ·subst f;rw[if_neg g];exact e
   ·rw [if_neg f] at d
    have j:=Ai d;rw[if_neg #v[]];exact Ah #v[]
theorem zjc:∀{x y:List Int},lexI x y=Zc->lexI y x=Zc->x=y
 |[],[],_,_=>rfl
 |[],_::_,h,_=>by cases h
 |_::_,[],_,h=>by cases h
 | a::f,b::bs,d,c=>by
  unfold lexI at d c;by_cases e:a=b
  ·subst e
   rw[if_pos rfl] at d c;rw[zjc d c]
  ·rw [if_neg e] at d
   rw[if_neg (λz=>e z.symm)] at c;have:=of_decide_eq_false d;have:=of_decide_eq_false c;omega
theorem zsc (l b:Zh) (items i:Array Ze) (n P:Nat) (N F:Option Zh) (L E:Array (Option Ze)) (z v:List Int) (G:IntsAre items.toList z) (J:IntsAre i.toList v) :
  Meets (Builtin.«tuple.__lt__» ⟨[.ref l,.ref b],[]⟩)
   (λA R s=>s.heap.get? l=Za { cls:=.type "tuple",dict:=N,data:=.seq items n,slots:=L }/\s.heap.get? b=Za { cls:=.type "tuple",dict:=F,data:=.seq i P,slots:=E } /\
    R (.ok (.ret (.bool (lexI z v)))) s) :=
 .of_wp λprog w A R s h=>by
  obtain⟨I,g,d,K,H⟩:=s;obtain⟨M,Q,h⟩:=h;have V:=AutoSeq1.sub_tuple_tuple;have S:items.size=z.length:=by have:=G.length;simpa using this
  have O:i.size=v.length:=by have:=J.length;simpa using this
  wp_walk using Dg M,Dg Q,wpAny_forIn_list _ (λrest b D=>b.1=Zb/\D=⟨I,g,d,K,H⟩/\∃B C e m,rest=List.zip B C/\IntsAre B e/\IntsAre C m/\z.length+m.length=e.length+v.length /\
   R (.ok (.ret (.bool (lexI e m)))) ⟨I,g,d,K,H⟩) _
  case turn =>
   rintro ⟨y,x⟩ rest b D ⟨o,rfl,B,C,e,m,p,r,k,f,j⟩;cases r with
   |nil=>simp at p
   | cons a t r =>
    cases k with
    |nil=>simp at p
    | cons c u k =>
     rw[List.zip_cons_cons] at p;injection p with hyx hrest;cases hyx;unfold lexI at j;refine Aa (wpAny_eqBool_int ?_);by_cases q:a=c
     ·rw [if_pos q] at j
      have:(a==c)=Zd:=by simpa using q
      rw[this]
      wp_walk
      exact⟨rfl,rfl,_,_,_,_,hrest,r,k,by simp at f;omega,j⟩
     ·rw [if_neg q] at j
      have:(a==c)=Zc:=by simpa using q
      rw[this];simp only [Gd,Fq];refine Aa (Dh ?_);refine Aa (show wpAny _ _ (compareOp .Lt _ _) _ _ _ from PyProof.Rows.lt_int ?_)
      wp_walk
      exact⟨_,rfl,by simpa using j⟩
  case fin =>
   rintro ⟨U,T⟩ D ⟨o,rfl,B,C,e,m,p,r,k,f,j⟩;simp only at o;subst o
   wp_walk
   refine ⟨_,rfl,?_⟩;have:lexI e m=decide (items.size<i.size):=by
    rw[S,O];cases r with
    | nil =>
     cases k with
     |nil=>unfold lexI;symm;apply Ao;simp at f;omega
     |cons c u k=>unfold lexI;symm;apply Ah;simp at f;omega
    | cons a t r =>
     cases k with
     |nil=>unfold lexI;symm;apply Ao;simp at f;omega
     |cons c u k=>simp at p
   rw[this] at j;simpa [Builtin.Tuple.tupleCompareSizes] using j
  case h =>
   exact⟨rfl,rfl,items.toList,i.toList,z,v,rfl,G,J,by omega,by simpa using h⟩
theorem lexI_nt {xs ys z:List Int} (h:lexI xs z=Zd):lexI xs ys=Zd\/lexI ys z=Zd:=by
 cases q:lexI xs ys with
 |true=>exact .inl rfl
 | false =>
  cases q2:lexI ys xs with
  |true=>exact .inr (zdq q2 h)
  |false=>rw[zjc q q2] at h;exact .inr h
theorem z5f (kf:Ze->List Int):Tim.Ord (λx y:Keyed=>lexI (kf x.1) (kf y.1)) (λ_ _=>True) (λx y=>lexI (kf y.1) (kf x.1)=Zc) where
 tr:=λ{x y z} c b=>by
  cases q:lexI (kf z.1) (kf x.1) with
  |false=>rfl
  | true =>
   rcases lexI_nt (ys:=kf y.1) q with a|a
   ·rw[b] at a;cases a
   ·rw[c] at a;cases a
 tot:=λx y=>by
  cases q:lexI (kf y.1) (kf x.1) with
  |false=>exact .inl rfl
  | true =>
   right
   cases q2:lexI (kf x.1) (kf y.1) with
   |false=>rfl
   | true =>
    have:=zdq q q2;rw[zcb] at this;cases this
 f1:=λ_=>Iff.rfl
 f2:=λ{x y} h=>by
  cases q2:lexI (kf y.1) (kf x.1) with
  |false=>rfl
  | true =>
   have:=zdq h q2;rw[zcb] at this;cases this
 irr:=λx=>zcb _
 ltr:=λc b=>zdq c b
 nt:=λy h=>lexI_nt h
section
variable {prog:Program}{w:World}{A:Around}{E:Ze->Zf->Prop}{s:Zf}{a₀:Array Keyed}
theorem zu6 {κ:SortKind}{lt:Keyed->Keyed->Bool}(h:∀(x y:Keyed) (E:Ze->Zf->Prop) (Q:Bool->Zf->Prop),x∈a₀.toList->y∈a₀.toList->Q (lt x y) s->wpAny (model prog w) A (keyLt' κ x.1 y.1) Q E s):Tim.Asks prog w A E s κ a₀ lt:=λx y e Q b c d a=>by
 rw[lt'_eq];refine As (Hs ?_);rw[d];refine As (wpS_lift (Hr (h x y _ _ b c ⟨rfl,?_⟩)));exact Au a
theorem z0y {kf:Ze->List Int}(h:∀x∈a₀.toList,∃n t,x.1=.int n t/\kf x.1=[n]):Tim.Asks prog w A E s oneType' a₀ (λx y=>lexI (kf x.1) (kf y.1)):=zu6 λx y E Q c f b=>by
 nofun;obtain⟨n,t,g,d⟩:=h x c;obtain⟨m,u,a,i⟩:=h y f;ac_rfl;rw[keyLt'_oneType,g,a];refine oneLt_int ?_;have e:lexI (kf x.1) (kf y.1)=decide (n<m):=by
  rw[d,i];unfold lexI;by_cases q:n=m
  ·rw[if_pos q];subst q;simp [lexI]
  ·rw[if_neg q]
 rw[<-e];exact b
theorem eqv_ints:∀n m:List Int,PyData.eqvAll (n.map .int) (m.map .int)=decide (n=m)
 |[],[]=>by simp [PyData.eqvAll]
 |[],_::_=>by simp [PyData.eqvAll]
 |_::_,[]=>by simp [PyData.eqvAll]
 | a::n,b::m=>by
  rw[Ax,Ax,PyData.eqvAll,eqv_ints n m,PyData.eqv];by_cases h:a=b
  ·simp [h]
  ·simp [h]
theorem zeu {h:Heap}:∀{i:List Ze}{a:List Int},IntsAre i a->ReadsAll h i (a.map .int) []
 |_,_,.nil=>.nil
 |_,_,.cons n t r=>.cons (.int n t) (zeu r)
theorem zmc {h:Heap}{b:Zh}{i:List Ze}{a:List Int}(q:IsTup h b i.toArray)(r:IntsAre i a):Reads h (.ref b) (.tuple (a.map .int)) []:=by
 obtain⟨o,d,g,n,c⟩:=id q;exact .tuple d g c (by simpa using zeu r)
theorem zp8 (n:List Int):PyData.canLay0 (.tuple (n.map .int))=Zd:=by
 rw[PyData.canLay0];exact canLayAll_ints n
theorem depth_ints (n:List Int):PyData.depth (.tuple (n.map .int))<=1:=by
 rw[PyData.depth,depthAll_ints]
 decide
theorem zz8 {b c:Zh}{i its':List Ze}{a n:List Int}{Q:Bool->Zf->Prop} (g:A.units+1<cLine) (q:IsTup s.heap b i.toArray) (d:IntsAre i a) (f:IsTup s.heap c its'.toArray) (p:IntsAre its' n) (h:Q (decide (a=n)) s) :
  wpAny (model prog w) A (eqBool (.ref b) (.ref c)) Q E s:=by
 refine PySem.SeqAt.eqBoolOverData prog w A E s _ _ _ _ [] [] Q (zmc q d) (zmc f p) (zp8 a) (zp8 n) ?_ ?_
 ·have:=depth_ints a;omega
 ·have e:PyData.eqv (.tuple (a.map .int)) (.tuple (n.map .int))=decide (a=n):=by rw[PyData.eqv];exact eqv_ints a n
  rw[e];exact h
theorem z04 {b g:Zh}{i its':List Ze}{f a:List Int}{Q:Ze->Zf->Prop} (y:A.units<cLine) (t:IsTup s.heap b i.toArray) (u:IntsAre i f) (C:IsTup s.heap g its'.toArray) (B:IntsAre its' a) (h:Q (.bool (lexI f a)) s) :
  wpAny (model prog w) A (compareOp .Lt (.ref b) (.ref g)) Q E s:=by
 nofun;obtain⟨⟨cls,v,data,r⟩,q,o,n,p⟩:=id t;obtain⟨⟨m,l,k,j⟩,e,d,z,c⟩:=id C;ac_rfl;simp only at o p d c;subst o p d c;exact richCompare_meets_room (op:=.Lt) ⟨_,q,rfl⟩ ⟨_,e,rfl⟩ F.slot_tuple_lt F.entry_tuple_lt (F.args_tuple_lt_2 _ _) (zsc b g i.toArray its'.toArray n z v l r j f a (by simpa using u) (by simpa using B))
  ⟨q,e,show Ze.bool (lexI f a)≠Ze.notImplemented/\Q (.bool (lexI f a)) s from ⟨(λx=>nomatch x),h⟩⟩ y
structure KeyT (h:Heap) (v:Ze) (k:List Int):Prop where
 ex:∃(a b:Zh) (i:Int) (t:Tok) (ns:List Int) (its:List Ze) (c:Ze),v=.ref a/\k=i::ns/\IsTup h a [.int i t,c].toArray/\c=.ref b/\IsTup h b its.toArray/\IntsAre its ns
theorem zy5 {kf:Ze->List Int}(V:A.units+2<cLine)(h:∀x∈a₀.toList,KeyT s.heap x.1 (kf x.1)):Tim.Asks prog w A E s (tuples' Zd) a₀ (λx y=>lexI (kf x.1) (kf y.1)):=zu6 λx y E Q D G d=>by
 nofun;obtain⟨a,b,i,t,M,F,c,L,J,C,rfl,q,l⟩:=(h x D).ex;obtain⟨R,P,f,S,g,its',O,B,I,H,rfl,p,k⟩:=(h y G).ex;ac_rfl;rw[J,I] at d;rw[L,B];nofun;obtain⟨o,K,N,n,u⟩:=id C;obtain⟨W,m,T,U,r⟩:=id H;ac_rfl;refine PySem.W.kat_lt K u m r ?_;refine PySem.W.kat_cons (wpAny_eqBool_int ?_);unfold lexI at d;by_cases z:i=f
 ·have e:(i==f)=Zd:=by simpa using z
  rw[e];rw[if_pos z] at d;refine PySem.W.kat_yes (PySem.W.kat_cons (zz8 #v[] q l p k ?_));by_cases j:M=g
  ·rw[Ah j];refine PySem.W.kat_yes (PySem.W.kat_nil ?_);subst j;rw[zcb] at d;exact d
  ·rw[Ao j];refine PySem.W.kat_no ?_;exact PySem.W.kat_one _ _ (z04 #v[] q l p k d)
 ·have e:(i==f)=Zc:=by simpa using z
  rw[e];rw[if_neg z] at d;refine PySem.W.kat_no ?_;exact oneLt_int d
end
end L2
namespace L2
open PySem PySem.Spec PyProof.Rows
section
variable {prog:Program}{w:World}{A:Around}{E:Ze->Zf->Prop}{s:Zf}{a kS:Zh}{e e1:Nat}{keys:Array Ze}{vs:List Ze}{P:PySem.Fin->Zf->Prop}
theorem z2e {st:SortSt} (m:s.heap.get? kS=Za (seqObj "list" keys e)) (q:s.heap.get? a=Za #v[3,18]) (f:kS≠a) (l:keys.size<=sizeLine) (j:(arrOf st).size<=sizeLine) (r:failedOf st=Zb)
  (h:∀d c,d.get? a=Za (seqObj "list" ((arrOf st).map (·.2)) c)->(∀b o,b≠a->b≠kS->s.heap.get? b=Za o->d.get? b=Za o)->P (.done (.ret .none)) { s with heap:=d }):wpAny (model prog w) A (ksk_tail a Zc e1 (.ref kS) st) P E s:=by
 have g:=Eb s.heap kS #v[4,13];have n:(s.heap.update kS #v[4,13]).get? a=Za #v[3,18]:=(g.2 a f.symm).trans q;have p:=Eb (s.heap.update kS #v[4,13]) a (Obj.mapSeq λ_=>(arrOf st).map (·.2));unfold ksk_tail
 try dsimp only
 refine Aa (listUpdate_at m rfl ?_ l (Ch _));refine Aa (Gh ?_);refine Aa (seqEpoch_at n rfl ?_);refine Aa (listUpdate_at n rfl ?_ (Ch _) (by simp only [Dq,Gm,Array.size_map];omega));rw[r];simp only [bne_self_eq_false,Dq,Gm];refine Am (h _ _ (get?_update_seq n λ_=>(arrOf st).map (·.2)) λb o k i t=>?_);exact (p.2 b k).trans ((g.2 b i).trans t)
theorem z68 {κ:SortKind}{kf:Ze->List Int}{bf le:Keyed->Keyed->Prop} (O:Tim.Ord (λx y:Keyed=>lexI (kf x.1) (kf y.1)) bf le) (L:∀c,Tim.Cut bf (keys.zip vs.toArray) c) (D:s.heap.get? kS=Za (seqObj "list" keys e)) (B:s.heap.get? a=Za #v[3,18]) (p:kS≠a) (J:keys.size=vs.length) (z:vs.length<=sizeLine)
  (H:2<=vs.length->∀t:SortKind->Zf->Prop,t κ s->wpAny (model prog w) A (keyKind' keys) t E s)
  (C:Tim.Asks prog w A E s κ (keys.zip vs.toArray) (λx y=>lexI (kf x.1) (kf y.1)))
  (h:∀(r:List Keyed) k c,r.Perm (keys.toList.zip vs)->r.Pairwise le->k.get? a=Za (seqObj "list" (r.map (·.2)).toArray c)->(∀b o,b≠a->b≠kS->s.heap.get? b=Za o->k.get? b=Za o)->P (.done (.ret .none)) { s with heap:=k }) :
  wpAny (model prog w) A (ksk_end a Zc vs.toArray e1 (.ref kS) keys) P E s:=by
 have m:(keys.zip vs.toArray).size=vs.length:=by rw[Array.size_zip,J,Ak,Ha]
 have fin:∀f:SortSt,(arrOf f).Perm (keys.zip vs.toArray)->failedOf f=Zb->Tim.Srt le (arrOf f) 0 (keys.zip vs.toArray).size->wpAny (model prog w) A (ksk_tail a Zc e1 (.ref kS) f) P E s:=λf l n q=>by
  refine z2e D B p #v[] (by rw[l.size_eq,m];exact z) n λk c u K=>?_;refine h (arrOf f).toList k c ?_ (Tim.srt_list (by rw[l.size_eq];exact q)) (by rw[u,<-Array.toList_map,Array.toArray_toList]) K;rw[<-ksk_zip];exact Hi.mp l
 unfold ksk_end
 try dsimp only
 simp only [Dq,Gm];by_cases g:vs.toArray.size<2
 ·rw[if_pos g,if_pos g];refine Aa (Am ?_);rw[StateT.run_pure];refine Aa (Am ?_)
  try dsimp only
  refine fin (SortSt.mk' general' (keys.zip vs.toArray) #[] 7 Zb) (Array.Perm.refl _) rfl λi j _ M R=>?_;rw[Ak] at g;omega
 ·rw [if_neg g,if_neg g];rw [Ak] at g;refine Aa (H (by omega) _ ?_);refine Aa (Cw (Tim.q_sort (bf:=bf) (st:=SortSt.mk' κ (keys.zip vs.toArray) #[] 7 Zb) (Q:=λ_ d=>(arrOf d).Perm (keys.zip vs.toArray)/\failedOf d=Zb/\Tim.Srt le (arrOf d) 0 (keys.zip vs.toArray).size)
   C O ⟨rfl,rfl,Array.Perm.refl _,rfl⟩ rfl L λd I G F=>⟨G,I,F⟩) ?_ λ_ _ e=>e)
  rintro ⟨⟨⟩,d⟩ N ⟨rfl,l,n,q⟩
  try dsimp only
  exact fin d l n q
end
noncomputable abbrev KP:=List Int×W
noncomputable def insK (x:KP):List KP->List KP
 |[]=>[x]
 |y::a=>if lexI x.1 y.1 then x::y::a else y::insK x a
noncomputable def zny:List KP->List KP
 |[]=>[]
 |x::a=>insK x (zny a)
theorem zgz (x:KP):∀l,(insK x l).Perm (x::l)
 |[]=>.refl _
 | y::a=>by
  unfold insK;split
  ·exact .refl _
  ·exact ((zgz x a).cons y).trans (.swap x y a)
theorem zfi:∀l:List KP,(zny l).Perm l
 |[]=>.refl _
 |x::a=>(zgz x _).trans ((zfi a).cons x)
noncomputable abbrev leK (x y:KP):Prop:=lexI y.1 x.1=Zc
theorem z8i {x y z:KP} (b:leK x y) (h:leK y z):leK x z:=by
 unfold leK at *
 cases q:lexI z.1 x.1 with
 |false=>rfl
 | true =>
  rcases lexI_nt (ys:=y.1) q with a|a
  ·rw[h] at a;cases a
  ·rw[b] at a;cases a
theorem zk2 {x y:KP} (h:lexI x.1 y.1=Zd):leK x y:=by
 unfold leK;cases q:lexI y.1 x.1 with
 |false=>rfl
 | true =>
  have:=zdq h q;rw[zcb] at this;cases this
theorem zg0 {x:KP}:∀{l:List KP},l.Pairwise leK->(insK x l).Pairwise leK
 |[],_=>List.pairwise_singleton _ _
 | y::c,h=>by
  have b:=Db.mp h;unfold insK;split
  ·rename_i q
   refine Db.mpr ⟨λz a=>?_,h⟩;rcases Ap.mp a with rfl|a
   ·exact zk2 q
   ·exact z8i (zk2 q) (b.1 z a)
  ·rename_i q
   refine Db.mpr ⟨λz a=>?_,zg0 b.2⟩;rcases Ap.mp ((zgz x c).mem_iff.mp a) with rfl|a
   ·unfold leK;simpa using q
   ·exact b.1 z a
theorem zdo:∀l:List KP,(zny l).Pairwise leK
 |[]=>.nil
 |x::a=>zg0 (zdo a)
theorem zfp:∀{l a:List KP},l.Perm a->l.Pairwise leK->a.Pairwise leK->(∀x∈l,∀y∈l,x.1=y.1->x=y)->l=a
 |[],a,p,_,_,_=>p.nil_eq
 |x::g,[],p,_,_,_=>by simpa using p.length_eq
 | x::g,y::s,p,n,m,f=>by
  have i:=Db.mp n;have k:=Db.mp m;have j:y∈x::g:=p.mem_iff.mpr Av;have o:x∈y::s:=p.mem_iff.mp Av;have d:x=y:=by
   rcases Ap.mp j with e|b
   ·exact e.symm
   ·rcases Ap.mp o with e | c
    ·exact e
    ·exact f x Av y j (zjc (show lexI x.1 y.1=Zc from k.1 x c) (show lexI y.1 x.1=Zc from i.1 y b))
  subst d;have r:=(List.perm_cons x).mp p;rw[zfp r i.2 k.2 λu h v q=>f u (An _ h) v (An _ q)]
inductive All2 {α β:Type} (R:α->β->Prop):List α->List β->Prop where
 |nil:All2 R [] []
 |cons {a b as bs} (h:R a b) (t:All2 R as bs):All2 R (a::as) (b::bs)
theorem All2.perm {α β:Type}{R:α->β->Prop}{bs c:List β} (p:bs.Perm c):∀{b:List α},All2 R b bs->∃a,b.Perm a/\All2 R a c:=by
 induction p with
 |nil=>exact λh=>⟨_,.refl _,h⟩
 | cons x p m =>
  intro b h;cases h with
  | cons h t =>
   obtain⟨a,q,g⟩:=m t;exact⟨_,q.cons _,.cons h g⟩
 | swap x y l =>
  intro b h;cases h with
  | cons e t =>
   cases t with
   |cons d t=>exact⟨_,.swap _ _ _,.cons d (.cons e t)⟩
 | trans o n i j =>
  intro b h;obtain⟨k,q,e⟩:=i h;obtain⟨f,g,d⟩:=j e;exact⟨f,q.trans g,d⟩
theorem All2.pair {α β:Type}{R:α->β->Prop}{P:α->α->Prop}{Q:β->β->Prop} (f:∀a b e c,R a b->R e c->Q b c->P a e):∀{d:List α}{bs:List β},All2 R d bs->bs.Pairwise Q->d.Pairwise P
 |_,_,.nil,_=>.nil
 | _,_,.cons h t,m=>by
  have j:=Db.mp m;refine Db.mpr ⟨λe g=>?_,All2.pair f t j.2⟩;have:∀{d:List α}{bs:List β},All2 R d bs->e∈d->∃c,c∈bs/\R e c:=by
   intro d bs h
   induction h with
   |nil=>intro z;cases z
   | cons h t k =>
    intro z;rcases Ap.mp z with rfl|z
    ·exact⟨_,Av,h⟩
    ·obtain ⟨c, q,l⟩:=k z
     exact⟨c,An _ q,l⟩
  obtain⟨c,i,n⟩:=this t g;exact f _ _ _ _ h n (j.1 c i)
noncomputable def zfe:List W->Option (List Int)
 |[]=>Za []
 |.int i::w=>(zfe w).bind λa=>Za (i::a)
 |_=>Zb
noncomputable def kI:W->Option (List Int)
 |.int i=>Za [i]
 |_=>Zb
noncomputable def kT:W->Option (List Int)
 |.tup [.int i,.tup x]=>(zfe x).bind λa=>Za (i::a)
 |_=>Zb
noncomputable def mapO {α β:Type} (f:α->Option β):List α->Option (List β)
 |[]=>Za []
 |a::c=>(f a).bind λb=>(mapO f c).bind λbs=>Za (b::bs)
noncomputable def ze9:List (List Int)->Bool
 |[]=>Zd
 |x::a=>a.all (λy=>decide (x≠y))&&ze9 a
theorem zeg:∀{l:List (List Int)},ze9 l=Zd->l.Nodup
 |[],_=>Hg
 | x::a,h=>by
  unfold ze9 at h;rw[Ab] at h;refine Bq.mpr ⟨λz=>?_,zeg h.2⟩;have:=Aw.mp h.1 x z;simp at this
noncomputable def zzs (a ws:List W):Option (List W):=((mapO kI a).orElse λ_=>mapO kT a).bind λk=>if ze9 k&&decide (k.length=ws.length) then Za ((zny (k.zip ws)).map (·.2)) else Zb
noncomputable def Cx.inn (X:Cx):Cx:={ X with A:=X.A.in1.in1 }
section
variable {X:Cx}{pins:List (Zh × Obj)}{σ:St}{H:Hp}{s:Zf}
theorem Cx.Ok.inn (o:X.Ok):X.inn.Ok:=⟨o.mod,o.kind,o.glob,o.blt,o.above,o.inj,o.has,o.cab,o.hd,o.frames,o.stk,o.exf,o.bs,o.bsz,o.noex,o.exfs,o.funs,o.frf⟩
theorem Cx.Ok.out (o:X.inn.Ok):X.Ok:=⟨o.mod,o.kind,o.glob,o.blt,o.above,o.inj,o.has,o.cab,o.hd,o.frames,o.stk,o.exf,o.bs,o.bsz,o.noex,o.exfs,o.funs,o.frf⟩
theorem Inv.inn (I:Inv X pins σ H s):Inv X.inn pins σ H s:=⟨I.ok.inn,I.os,I.bare,I.base,I.loc,I.cell,I.free,I.freeC,I.pin,I.hok,I.len⟩
theorem Inv.out (I:Inv X.inn pins σ H s):Inv X pins σ H s:=⟨I.ok.out,I.os,I.bare,I.base,I.loc,I.cell,I.free,I.freeC,I.pin,I.hok,I.len⟩
theorem Inv.adopt {h':Heap}{t':Nat}{ch:List Zh}{T:Zh}{o:HO} (I:Inv X pins σ H s) (k:∀b o,b ∉ ch->s.heap.get? b=Za o->h'.get? b=Za o) (h:∀b∈ch,FpOk X pins H b) (hT:T∈ch)
  (new:zbp X.prog X.w (upd H T o) h' T o):Inv X pins σ (upd H T o) { s with heap:=h',toks:=t' }:=by
 have g:H T=Zb:=(h T hT).1;have f:∀b u,H b=Za u->b ∉ ch:=λb u e d=>by rw[(h b d).1] at e;exact noSome e
 refine I.step (g':=s.gens) (d':=s.drawn) (ch:=ch) (λb d=>⟨(h b d).2.2.2.1,(h b d).2.1,(h b d).2.2.2.2.1,(h b d).2.2.2.2.2⟩) (λb o _ _ a e _=>k b o a e) (λb o _ _ a e _=>⟨o.slots,k b o a e⟩) (λb u a e n=>by rw[upd_ne (λz=>a (by rw[z];exact hT))];exact n)
  (λb u a e=>⟨u,k b u a e⟩) (λb x e=>by rw[upd_ne (zae e g)];exact e) (λb u x e=>by rw[upd_ne (zae e g)];exact e) (λb t e=>⟨#[],by rw[upd_ne (zae e g),e];simp⟩) (λm j=>?_) (λb u e=>?_) I.bare
 ·obtain⟨o,l,p,i,r⟩:=j;exact⟨o,l,p,k _ o (λz=>(h _ z).2.1 rfl) i,r⟩
 ·by_cases d:b=T
  ·subst d;rw[upd_same] at e;obtain rfl:=sI e;exact new
  ·rw[upd_ne d] at e;refine (I.hok b u e).stay (λc v a q=>k c v ?_ q) (λc q=>by rw[upd_ne (zae q g)];exact q) λc x q=>by rw[upd_ne (zae q g)];exact q
   rcases a with z|z
   ·rw[z];exact f b u e
   ·exact f c _ z
structure KCall (X:Cx) (f:Ze) (Φ:W->Option W) (Al:List (Zh×Obj)->Hp->Prop):Prop where
 mono:∀{pins pins':List (Zh×Obj)}{F F':Hp},Al pins F->(∀p∈pins,p∈pins')->Same F F'->Al pins' F'
 run:∀(pins:List (Zh×Obj)) (s:Zf) (σ:St) (H F:Hp) (pr:Prt) (en:En) (w k:W) (v:V) (u:Ze),Al pins F->Inv X pins σ H s->Rel X.K F pr en σ H->Rep X.K F w v->RelV v u->Φ w=Za k ->
  wpAny #v[2,7] X.A (call f [u]) (λu' s'=>∃v' F' H',Inv X pins σ H' s'/\Same F F'/\Rel X.K F' pr en σ H'/\RelV v' u'/\Rep X.K F' k v') (λ_ _=>False) s
structure Apart (X:Cx) (pins:List (Zh×Obj)) (b:Zh):Prop where
 l:b≠X.env.locals
 f:b ∉ X.fs
 x:b∈X.ex\/X.s₀.heap.objs.size<=b
 c:∀x c,X.env.cells.lookup x=Za c->c≠b
 p:∀p∈X.pn++pins,p.1≠b
theorem Apart.fp {b:Zh}(a:Apart X pins b)(h:H b=Zb):FpOk X pins H b:=⟨h,a.l,a.f,a.x,a.c,a.p⟩
theorem FpOk.apart {b:Zh}(h:FpOk X pins H b):Apart X pins b:=⟨h.2.1,h.2.2.1,h.2.2.2.1,h.2.2.2.2.1,h.2.2.2.2.2⟩
theorem zd0 {α β:Type}{f:α->Option β}:∀{d:List α}{bs:List β}{i:Nat}{a:α},mapO f d=Za bs->d[i]?=Za a->∃b,f a=Za b/\bs[i]?=Za b
 |[],_,_,_,_,h=>by simp at h
 | x::m,bs,i,a,e,h=>by
  obtain⟨b,g,e⟩:=bS e;obtain⟨l,j,e⟩:=bS e;obtain rfl:=sI e;cases i with
  |zero=>simp at h;subst h;exact⟨b,g,rfl⟩
  | succ i =>
   obtain⟨c,q,k⟩:=zd0 (i:=i) j (by simpa using h);exact⟨c,q,by simpa using k⟩
theorem zf4 {α β:Type}{f:α->Option β}:∀{a:List α}{bs:List β},mapO f a=Za bs->bs.length=a.length
 |[],_,e=>by obtain rfl:=sI e;rfl
 | x::g,bs,e=>by
  obtain⟨b,d,e⟩:=bS e;obtain⟨c,h,e⟩:=bS e;obtain rfl:=sI e;exact congrArg (· + 1) (zf4 h)
theorem z0w {f:Ze}{Φ:W->Option W}{Al:List (Zh×Obj)->Hp->Prop} (KC:KCall X f Φ Al) {F:Hp}{pr:Prt}{en:En}{a kS:Zh}{e1:Nat}{vs:List Ze}{t:List V}{ws A:List W}{P:PySem.Fin->Zf->Prop}{E:Ze->Zf->Prop}
  (I:Inv X ((kS,seqObj "list" #[] 0)::(a,seqObj "list" #[] e1)::pins) σ H s) (al:Al pins F) (R:Rel X.K F pr en σ H) (rv:Vals t vs) (q:Reps X.K F ws t) (Z:mapO Φ ws=Za A) (hz:vs.length<=sizeLine)
  (l:Apart X ((a,seqObj "list" #[] e1)::pins) kS)
  (fin:∀g d c keys e kvs,Inv X ((kS,seqObj "list" keys e)::(a,seqObj "list" #[] e1)::pins) σ d g->Same F c->Rel X.K c pr en σ d->Vals kvs keys.toList->Reps X.K c A kvs->wpAny #v[2,7] X.A (ksk_end a Zc vs.toArray e1 (.ref kS) keys) P E g) :
  wpAny #v[2,7] X.A (ksk_rest a f Zc vs.toArray e1 (.ref kS)) P E s:=by
 have lw:ws.length=vs.length:=by rw[q.length,rv.length]
 have lk:A.length=vs.length:=by rw[zf4 Z,lw]
 unfold ksk_rest;refine Aa (Dh ?_);rw[List.forIn_toArray];refine Aa (ksk_fold (λi g=>∃d c keys e kvs,Inv X ((kS,seqObj "list" keys e)::(a,seqObj "list" #[] e1)::pins) σ d g/\Same F c/\Rel X.K c pr en σ d/\Vals kvs keys.toList/\Reps X.K c (A.take i) kvs) vs 0 s
  ⟨H,F,#[],0,[],I,.refl F,R,.nil,.nil⟩ ?step ?done)
 case step =>
  rintro j x g hx ⟨d,c,keys,e,kvs,G,y,U,C,r⟩;simp only [Co] at r ⊢;have hj:j<vs.length:=(Af.mp hx).1;obtain⟨w,hw⟩ : ∃w,ws[j]?=Za w:=⟨_,Ae #v[]⟩;nofun;obtain⟨k,L,K⟩:=zd0 Z hw;obtain⟨v,hv,Q⟩:=q.get hw;obtain⟨u,hu,ru⟩:=rv.get hv;ac_rfl;rw[hx] at hu;obtain rfl:=sI hu;have zk:keys.size<=vs.length:=by
   have a1:kvs.length=keys.size:=C.length.trans Ca;have a2:min j A.length=kvs.length:=by rw[<-Cj];exact r.length
   omega
  refine Aa (Hr (Cw (KC.run _ g σ d c pr en w k v x (KC.mono al (λp h=>An _ (An _ h)) y) G U (Q.mono y) ru L) (λm n he=>?_) λ_ _ hF=>hF.elim));nofun;obtain⟨v',F2,S,T,B,R2,J,M⟩:=he;obtain⟨D,Y,_,_,_⟩:=T.pin (kS,seqObj "list" keys e) (Ba _ Av);ac_rfl
  try dsimp only
  refine Aa (listUpdate_at D rfl ?_ #v[] (Bj (Nat.le_of_eq (Array.size_push ..)) #v[]));have sb:=Eb n.heap kS (Obj.mapSeq (·.push m));obtain⟨O,N⟩ : ∃O,(n.heap.update kS (Obj.mapSeq (·.push m))).get? kS=Za (seqObj "list" (keys.push m) O):=⟨_,get?_update_seq D (·.push m)⟩;have I3:Inv X ((a,seqObj "list" #[] e1)::pins) σ S n:=T.pins_of λp h=>T.pin p (Ba _ (An _ h));have I4:Inv X ((a,seqObj "list" #[] e1)::pins) σ S { n with heap:=n.heap.update kS (Obj.mapSeq (·.push m)) }:=I3.turned (t':=n.toks) (it:=kS) (λb o hb eb=>(sb.2 b hb).trans eb) Y l.l l.x l.c l.p;refine Am ⟨rfl,S,F2,keys.push m,O,kvs++[v'],?_,y.trans B,R2,?_,?_⟩
  ·refine I4.pins_of λp h => ?_;rcases Ap.mp h with rfl|h
   ·exact⟨N,Y,l.l,l.f,λv z=>by cases z⟩
   ·exact I4.pin p (Ba _ h)
  ·rw[Dt];exact Vals.append C (.cons J .nil)
  ·rw[List.take_add_one,K];exact (r.mono B).append (.cons M .nil)
 case done =>
  rintro g ⟨d,c,keys,e,kvs,G,y,U,C,r⟩;rw[Co,Gc #v[]] at r;obtain⟨D,_⟩:=G.pin (kS,seqObj "list" keys e) (Ba _ Av)
  try dsimp only
  refine Aa (listItems_at D rfl ?_);exact fin g d c keys e kvs G y U C r
end
noncomputable def intV:V->Option Int
 |.int j=>Za j
 |_=>Zb
noncomputable def kfV (H:Hp):Ze->List Int
 |.int n _=>[n]
 | .ref a=>match H a with
  | some (.tup [.int i,.ref b])=>(match H b with
   |some (.tup v)=>i::v.filterMap intV
   |_=>[])
  |_=>[]
 |_=>[]
theorem zg1:∀a:List Int,(a.map V.int).filterMap intV=a
 |[]=>rfl
 |i::a=>by rw[Ax,Gx];show i::_=_;rw[zg1 a]
theorem zib {K:Zg}{F:Hp}:∀{a:List W}{b:List Int}{v:List V},zfe a=Za b->Reps K F a v->v=b.map V.int
 |[],_,_,e,r=>by obtain rfl:=sI e;cases r;rfl
 | w::a,b,v,e,r=>by
  cases w with
  | int i =>
   obtain⟨d,h,e⟩:=bS (show (zfe a).bind _=_ from e);obtain rfl:=sI e;cases r with
   | cons c r =>
    cases c;rw[zib h r];rfl
  |_=>exact noSome e
theorem zxk {b:List Int}{a:List Ze} (h:Vals (b.map V.int) a):IntsAre a b:=by
 induction b generalizing a with
 |nil=>cases h;exact .nil
 | cons i b e =>
  cases h with
  | cons c t =>
   obtain⟨d,rfl⟩:=c;exact .cons i d (e t)
section
variable {X:Cx}{pins:List (Zh × Obj)}{σ:St}{H F:Hp}{s:Zf}
theorem zt5 {k:W}{kl:List Int}{v:V}{u:Ze} (e:kI k=Za kl) (r:Rep X.K F k v) (a:RelV v u):(∃n t,u=.int n t/\kfV H u=[n])/\kfV H u=kl:=by
 cases k with
 | int i =>
  obtain rfl:=sI e;cases r;obtain⟨t,rfl⟩:=a;exact⟨⟨i,t,rfl,rfl⟩,rfl⟩
 |_=>exact noSome e
theorem zxa (I:Inv X pins σ H s) (g:Same F H) {k:W}{kl:List Int}{v:V}{u:Ze} (e:kT k=Za kl) (r:Rep X.K F k v) (x:RelV v u):KeyT s.heap u kl/\kfV H u=kl:=by
 unfold kT at e;split at e
 ·rename_i i K
  obtain⟨z,m,e⟩:=bS e;obtain rfl:=sI e;cases r with
  | @tup L a j h f =>
   cases f with
   | @cons _ N _ E o f =>
    cases o;cases f with
    | @cons _ J _ G A f =>
     cases f;cases A with
     | @tup _ b M l B =>
      have D:=zib m B;subst D;cases (show u=Ze.ref a from x);nofun;obtain⟨w,d,y,_⟩:=I.tuple (.inl (.inl (g _ _ h)));obtain⟨c,C,n,_⟩:=I.tuple (.inl (.inl (g _ _ l)));ac_rfl;cases d with
      | cons q d =>
       cases d with
       | cons p d =>
        cases d;obtain⟨t,rfl⟩:=q;cases (show _=Ze.ref b from p);refine⟨⟨a,b,i,t,z,c,.ref b,rfl,rfl,y,rfl,n,zxk C⟩,?_⟩;show (match H a with|some (.tup [.int i,.ref b])=>_|_=>_)=_;rw[g _ _ h];show (match H b with|some (.tup j)=>i::j.filterMap intV|_=>[])=_;rw[g _ _ l];show i::_=_;rw[zg1]
 ·exact noSome e
theorem zp6 {keys:Array Ze}{vs:List Ze}{p:List W}{kvs:List V}{kl:List (List Int)}{A:Around}{E:Ze->Zf->Prop} (I:Inv X pins σ H s) (sm:Same F H) (B:A.units+2<cLine) (U:Vals kvs keys.toList) (R:Reps X.K F p kvs) (d:((mapO kI p).orElse λ_=>mapO kT p)=Za kl) (hl:keys.size=vs.length) :
  ∃κ:SortKind,(2<=vs.length->∀K:SortKind->Zf->Prop,K κ s->wpAny #v[2,7] A (keyKind' keys) K E s)/\Tim.Asks X.prog X.w A E s κ (keys.zip vs.toArray) (λx y=>lexI (kfV H x.1) (kfV H y.1))/\keys.toList.map (kfV H)=kl:=by
 have lk:p.length=keys.size:=by rw[R.length,U.length,Ca]
 have mem:∀x∈(keys.zip vs.toArray).toList,∃i,keys.toList[i]?=Za x.1:=λx G=>by
  rw[ksk_zip] at G;obtain⟨a,b⟩:=x;have:=(Fb G).1;obtain⟨i,m,e⟩:=De.mp this;exact⟨i,by rw[Ae m,e]⟩
 have back:∀(f:W->Option (List Int)),mapO f p=Za kl->(∀(k:W) (l:List Int) (v:V) (u:Ze),f k=Za l->Rep X.K F k v->RelV v u->kfV H u=l)->keys.toList.map (kfV H)=kl:=λf O hk=>by
  apply Ds;intro i;rw[Aj];by_cases m:i<keys.size
  ·obtain ⟨k,N⟩ : ∃ k,p[i]? = Za k:=⟨_,Ae (by omega)⟩
   nofun;obtain⟨l,g,Y⟩:=zd0 O N;obtain⟨v,ev,j⟩:=R.get N;obtain⟨u,P,r⟩:=U.get ev;ac_rfl;rw[P,Y];exact congrArg Za (hk k l v u g j r)
  ·rw[Ci (by simpa using m),Ci (by rw[zf4 O];omega)];rfl
 have L : ∀(f:W->Option (List Int)),mapO f p=Za kl->∀(i:Nat) (u:Ze),keys.toList[i]?=Za u->∃k l v,f k=Za l/\Rep X.K F k v/\RelV v u:=λf O i u B=>by
  have m:i<keys.size:=by have:=(Af.mp B).1;simpa using this
  obtain⟨k,N⟩ : ∃k,p[i]?=Za k:=⟨_,Ae #v[]⟩;nofun;obtain⟨l,g,Y⟩:=zd0 O N;obtain⟨v,ev,j⟩:=R.get N;obtain⟨u',P,r⟩:=U.get ev;ac_rfl;rw[B] at P;obtain rfl:=sI P;exact⟨k,l,v,g,j,r⟩
 cases q:mapO kI p with
 | some Z =>
  rw [q] at d;cases (show Za Z=Za kl from d);have all:∀(i:Nat) (u:Ze),keys.toList[i]?=Za u->∃n t,u=.int n t/\kfV H u=[n]:=λi u B=>by
   nofun;obtain⟨k,l,v,g,j,r⟩:=L kI q i u B;ac_rfl;exact (zt5 (H:=H) g j r).1
  refine⟨oneType',λh2 K S=>?_,z0y λx G=>?_,back kI q λk l v u g j r=>(zt5 (H:=H) g j r).2⟩
  ·have ia:=intsAre_map keys.toList λv w=>by
    nofun;obtain⟨i,m,e⟩:=De.mp w;obtain⟨n,t,h,_⟩:=all i v (by rw[Ae m,e]);ac_rfl;exact⟨n,t,h⟩
   rw[ksk_kind ia #v[]];exact Am S
  ·obtain ⟨i,m⟩:=mem x G
   exact all i x.1 m
 | none =>
  rw [q] at d;have d:mapO kT p=Za kl:=d;have all:∀(i:Nat) (u:Ze),keys.toList[i]?=Za u->KeyT s.heap u (kfV H u):=λi u B=>by
   nofun;obtain⟨k,l,v,g,j,r⟩:=L kT d i u B;obtain⟨C,D⟩:=zxa I sm g j r;ac_rfl;rw[D];exact C
  refine⟨tuples' Zd,λh2 K S=>?_,zy5 B λx G=>?_,back kT d λk l v u g j r=>(zxa I sm g j r).2⟩
  ·have kt:∃fs:List Ze,PySem.W.KatTups s.heap keys.toList fs/\fs.length=keys.size/\∀v∈fs,∃n t,v=.int n t:=by
    have gen:∀l:List Ze,(∀(i:Nat) (u:Ze),l[i]?=Za u->KeyT s.heap u (kfV H u))->∃fs:List Ze,PySem.W.KatTups s.heap l fs/\fs.length=l.length/\∀v∈fs,∃n t,v=.int n t:=by
     intro l
     induction l with
     |nil=>exact λ_=>⟨[],trivial,rfl,λv w=>by simp at w⟩
     | cons u l ih =>
      intro h;nofun;obtain⟨fs,C,D,J⟩:=ih λi v w=>h (i+1) v (by simpa using w);obtain⟨a,b,i,t,ns,its,c,g,Y,q1,rfl,q2,q3⟩:=(h 0 u rfl).ex;obtain⟨o,k1,k2,n,k3⟩:=id q1;ac_rfl;subst g;exact⟨.int i t::fs,PySem.W.KatTups.cons k1 k2 k3 rfl C,by simpa using D,λv w=>(Ap.mp w).elim (λz=>⟨i,t,z⟩) (J v)⟩
    nofun;obtain⟨fs,C,D,J⟩:=gen keys.toList all;ac_rfl;exact⟨fs,C,by simpa using D,J⟩
   refine aG λ_ qG=>?_;obtain ⟨fs,C,D,J⟩:=kt;refine qG ?_;clear qG;have:=PySem.W.kat_kind (M:=model X.prog X.w) (A:=A) (E:=E) (s:=s) (T:=.type "int") (Q:=K) C (by omega) (λv w=>by
    obtain⟨n,t,rfl⟩:=J v w;exact .now) rfl S
   rw[Array.toArray_toList] at this;exact this
  ·obtain ⟨i,m⟩:=mem x G
   exact all i x.1 m
end
section
variable {X:Cx}{pins:List (Zh × Obj)}{σ:St}{H F:Hp}{s:Zf}{pr:Prt}{en:En}
theorem zn7 {α:Type} [DecidableEq α] {β:Type}:∀{d:List α}{f:List β},d.Nodup->∀x∈d.zip f,∀y∈d.zip f,x.1=y.1->x=y
 |[],_,_,x,h,_,_,_=>by simp at h
 |_::_,[],_,x,h,_,_,_=>by simp at h
 | k::d,w::f,g,x,h,y,c,e=>by
  have n:=Bq.mp g;rw[List.zip_cons_cons] at h c;rcases Ap.mp h with rfl|h
  ·rcases Ap.mp c with rfl | c
   ·rfl
   ·have:=(Fb (a:=y.1) (b:=y.2) c).1
    exact absurd (by rw[<-e] at this;exact this) n.1
  ·rcases Ap.mp c with rfl | c
   ·have:=(Fb (a:=x.1) (b:=x.2) h).1
    exact absurd (by rw[e] at this;exact this) n.1
   ·exact zn7 n.2 x h y c e
theorem zre {K:Zg}{F:Hp}{kf:Ze->List Int}:∀{ku:List Ze}{ws:List W}{vvs:List V}{vs:List Ze},Vals vvs vs->Reps K F ws vvs->All2 (λ(z:KP) (x:Keyed)=>kf x.1=z.1/\∃v,RelV v x.2/\Rep K F z.2 v) ((ku.map kf).zip ws) (ku.zip vs)
 |[],_,_,_,_,_=>by simp;exact .nil
 |k::ku,_,_,_,.nil,.nil=>by simp;exact .nil
 |k::ku,_,_,_,.cons r rv,.cons h hr=>.cons ⟨rfl,_,r,h⟩ (zre rv hr)
theorem zqs {K:Zg}{F:Hp}{kf:Ze->List Int}:∀{d:List KP}{r:List Keyed},All2 (λ(z:KP) (x:Keyed)=>kf x.1=z.1/\∃v,RelV v x.2/\Rep K F z.2 v) d r->∃c,Vals c (r.map (·.2))/\Reps K F (d.map (·.2)) c
 |_,_,.nil=>⟨[],.nil,.nil⟩
 | _,_,.cons ⟨_,v,e,h⟩ t=>by
  obtain⟨c,a,b⟩:=zqs t;exact⟨v::c,.cons e a,.cons h b⟩
noncomputable def zqv (ks ws out:List W):Prop:=∀{X:Cx}{pins:List (Zh×Obj)}{σ:St}{H F:Hp}{s:Zf}{keys:Array Ze}{vs:List Ze}{kvs vvs:List V}{A:Around}{E:Ze->Zf->Prop},Inv X pins σ H s->Same F H->A.units+2<cLine->Vals kvs keys.toList->Reps X.K F ks kvs->Vals vvs vs->Reps X.K F ws vvs->keys.size=vs.length ->
 ∃(κ:SortKind) (kf:Ze->List Int) (bf le:Keyed->Keyed->Prop),(2<=vs.length->∀Q':SortKind->Zf->Prop,Q' κ s->wpAny #v[2,7] A (keyKind' keys) Q' E s)/\Tim.Asks X.prog X.w A E s κ (keys.zip vs.toArray) (λx y=>lexI (kf x.1) (kf y.1))/\Tim.Ord (λx y:Keyed=>lexI (kf x.1) (kf y.1)) bf le/\(∀c,Tim.Cut bf (keys.zip vs.toArray) c) /\
  ∀r:List Keyed,r.Perm (keys.toList.zip vs)->r.Pairwise le->∃ov,Vals ov (r.map (·.2))/\Reps X.K F out ov/\ov.length<=vs.length
theorem zzp {k ws out:List W}(h:zzs k ws=Za out):zqv k ws out:=by
 intro X pins σ H F s keys v kvs m A E I M T G l j b c;unfold zzs at h;obtain⟨R,d,h⟩:=bS h;split at h
 ·rename_i i;rw[Ab] at i;nofun;obtain⟨κ,n,C,e⟩:=zp6 (A:=A) (E:=E) (vs:=v) I M T G l d c;ac_rfl;refine⟨κ,kfV H,λ_ _=>True,_,n,C,z5f _,λ_ _ _ _ _ _=>trivial,λr D Y=>?_⟩;obtain⟨f,p,a⟩:=All2.perm D.symm (zre (K:=X.K) (F:=F) (kf:=kfV H) (ku:=keys.toList) j b);rw[e] at p;have O:f.Pairwise leK:=All2.pair (P:=leK) (Q:=λx y:Keyed=>lexI (kfV H y.1) (kfV H x.1)=Zc) (λz x S x' u N q=>by show lexI S.1 z.1=Zc;rw[<-u.1,<-N.1];exact q) a Y;have J:f=zny (R.zip ws):=zfp (p.symm.trans (zfi _).symm) O (zdo _) λx w y B=>zn7 (zeg i.1) x (p.symm.mem_iff.mp w) y (p.symm.mem_iff.mp B);obtain⟨t,L,o⟩:=zqs a;have g:out=f.map (·.2):=by rw[J];exact (sI h).symm
  rw[<-g] at o;refine⟨t,L,o,?_⟩;have U:=o.length;have Z:=j.length;have l2:=b.length;have V:=p.length_eq;rw[List.length_zip] at V;rw[g,Ad] at U;omega
 ·exact noSome h
theorem zle {prog:Program}{w:World}{A:Around}{E:Ze->Zf->Prop}{s:Zf}{l:Zh}{vs:List Ze}{Q:List Ze->Zf->Prop}{T:String}{o:Obj}{n:Nat} (hT:T = "list"\/T = "tuple") (c:s.heap.get? l=Za o) (e:o.cls=.type T) (f:o.data=.seq vs.toArray n)
  (h:Q vs { s with heap:=#v[6,14].update s.heap.objs.size (Obj.mapSeq (·++vs.toArray)) }) (d:vs.length<=sizeLine) :
  wpAny (model prog w) A (collect (.ref l)) Q E s:=by
 unfold collect;refine Aa (wpAny_runValue (Hj entry_proto_collect' ?_));show wpAny _ _ (do again (.builtin "list.__iadd__" ⟨[<-newList [],.ref l],[]⟩)) _ _ s;refine Aa (wpAny_newList (Am ⟨Code.quiet_builtin _ #v[0,0,7],Hj entry_list_iadd' ?_⟩));show wpAny _ _ (Builtin.List.listExtendWith (.ref s.heap.objs.size) (.ref l) (.ref s.heap.objs.size)) _ _ { s with heap:=s.heap.push #v[5,9] };unfold Builtin.List.listExtendWith;have a:#v[6,14].get? l=Za o:=Ac _ c;refine Aa (wpAny_typeOf (T:=T) ⟨o,a,e⟩ ?_);have b:(Ze.type T==Ze.type "list" || Value.type T==Ze.type "tuple")=Zd:=by rcases hT with rfl|rfl<;>rfl
 rw [if_pos (by rw [Bool.or_assoc,b,Bool.or_true])];refine Aa (listItems_at a f ?_);refine Aa (listItems_at (xs:=#[]) (n:=0) (Aq _ rfl) rfl ?_);rw [if_neg (by simp)];refine Aa (listUpdate_at (xs:=#[]) (n:=0) (Aq _ rfl) rfl ?_ (Ch _) (by show (#[]++vs.toArray).size<=sizeLine+1;simp only [Array.size_append,Ak,Fy];omega));refine Am ?_;show wpAny (model prog w) A (do
   let o <- load s.heap.objs.size
   match o.data with
   |.seq x _=>pure x.toList
   |_=>unsupported "internal:collect") Q E { s with heap:=#v[6,14].update s.heap.objs.size (Obj.mapSeq (·++vs.toArray)) }
 refine Aa (wpAny_load (get?_update_seq (Aq _ rfl) _) ?_);show wpAny _ _ (pure ((#[]:Array Ze)++vs.toArray).toList) Q E _;rw[show ((#[]:Array Ze)++vs.toArray).toList=vs by simp];exact Am h
theorem zsv {q l:Zh}{Φ:W->Option W}{Al:List (Zh×Obj)->Hp->Prop}{d:List V}{ws ks out:List W}{Q:VK}{E:Ze->Zf->Prop} (KC:KCall X.inn (.ref q) Φ Al) (I:Inv X pins σ H s) (al:Al pins F) (R:Rel X.K F pr en σ H) (hl:SqL X.K H l d\/SqT X.K H l d) (D:Reps X.K F ws d)
  (hk:mapO Φ ws=Za ks) (hs:zqv ks ws out) (hu:X.A.units+4<cLine) (h:∀N w v,Same F N->Rel X.K N pr en σ w->Res X.K N w pr en σ (.lst out,Zd) v->Q v w) :
  wpAny #v[2,7] X.A (call (.builtin "sorted") [.ref l] [(Str.ofString "key",.ref q)]) (EP X pins σ Q) E s:=by
 nofun;obtain⟨vs,G,T,o,n,hT,M,L,U,Z⟩ : ∃vs,Vals d vs/\∃T o n,(T = "list"\/T = "tuple")/\s.heap.get? l=Za o/\o.cls=.type T/\o.data=.seq vs.toArray n/\d.length<=sizeLine:=by
  rcases hl with hq|hq
  ·obtain⟨vs,G,⟨o,n,M,L,_,U⟩,Z⟩:=I.list hq;exact⟨vs,G,_,o,n,.inl rfl,M,L,U,Z⟩
  ·obtain⟨vs,G,⟨o,M,L,n,U⟩,Z⟩:=I.tuple hq;exact⟨vs,G,_,o,n,.inr rfl,M,L,U,Z⟩
 ac_rfl;have lv:d.length=vs.length:=G.length;have g:vs.length<=sizeLine:=by omega
 have lw:ws.length=vs.length:=by rw[D.length,lv]
 have lk:ks.length=vs.length:=by rw[zf4 hk,lw]
 refine call_function_entry_kw kind_sorted plain_sorted entry_sorted (ksk_s1 _ _) ?_;unfold Builtin.«sorted»;refine Aa (m:=checkCount "sorted" 1 1 _) (Am ?_);refine Aa (zle hT M L U ?_ g);refine Aa (wpAny_newList ?_ g);have u:(#v[6,14].update s.heap.objs.size (Obj.mapSeq (·++vs.toArray))).objs.size=s.heap.objs.size+1:=by
  rw[Heap.size_update,size_push']
 have f:((#v[6,14].update s.heap.objs.size (Obj.mapSeq (·++vs.toArray))).push #v[2,14]).get? #v[7,11]=Za #v[2,14]:=by
  rw[<-u];exact Aq _ rfl
 have keep:∀b o,s.heap.get? b=Za o->((#v[6,14].update s.heap.objs.size (Obj.mapSeq (·++vs.toArray))).push #v[2,14]).get? b=Za o:=λb o q=>by
  have i:b<s.heap.objs.size:=Ar q;rw[Heap.get?_push_ne _ _ _ (by rw[u];exact Bg (Ei i)),Heap.get?_update_ne _ _ _ _ (Bg i),Heap.get?_push_ne _ _ _ (Bg i)];exact q
 have y:((#v[6,14].update s.heap.objs.size (Obj.mapSeq (·++vs.toArray))).push #v[2,14]).objs.size=s.heap.objs.size+2:=by rw[size_push',u]
 show wpAny _ _ _ _ _ { s with heap:=(#v[6,14].update s.heap.objs.size (Obj.mapSeq (·++vs.toArray))).push #v[2,14] };rw[u];generalize (#v[6,14].update s.heap.objs.size (Obj.mapSeq (·++vs.toArray))).push #v[2,14]=h3 at f keep y ⊢;obtain⟨a,ea⟩ : ∃a,a=s.heap.objs.size+1:=⟨_,rfl⟩;rw[<-ea] at f ⊢;refine Aa (Dk (wpAny_call_entry_kw slot_list_sort ⟨_,f,rfl⟩ entry_list_sort ?body (ksk_l1 _ _)))
 case body =>
  show wpAny #v[2,7] X.A.in1.in1 (Builtin.«list.sort» ⟨[.ref a],[(Str.ofString "key",.ref q)]⟩) _ _ _;rw[ksk_t1];have ha:a<h3.objs.size:=by omega
  have s1:=Eb h3 a #v[4,13];obtain⟨e1,Y⟩ : ∃e1,(h3.update a #v[4,13]).get? a=Za #v[3,18]:=⟨_,get?_update_seq f λ_=>#[]⟩;unfold ksk_tree;refine Aa (listItems_at f rfl ?_);refine Aa (listUpdate_at f rfl ?_ (by rw[Ak];omega) (Ch _));refine Aa (seqEpoch_at Y rfl ?_);refine Aa (wpAny_newTuple ?_ g);refine Aa (wpAny_newList ?_ (Ch _));refine Dk ?_;have hz4:#v[4,7].objs.size=s.heap.objs.size+3:=by rw[size_push',Heap.size_update,y]
  show wpAny _ _ (ksk_rest a (.ref q) Zc vs.toArray e1 (.ref #v[4,7].objs.size)) _ _ { s with heap:=#v[4,7].push #v[5,9] };obtain⟨kS,ek⟩ : ∃kS,kS=#v[4,7].objs.size:=⟨_,rfl⟩;rw[<-ek] at hz4 ⊢;have J:∀b o,s.heap.get? b=Za o->(#v[4,7].push #v[5,9]).get? b=Za o:=λb o eb=>by
   refine Ac _ (Ac _ ?_);have i:b<s.heap.objs.size:=Ar eb;exact (s1.2 b (Bg (by rw[ea];exact Ei i))).trans (keep b o eb)
  have ga:(#v[4,7].push #v[5,9]).get? a=Za #v[3,18]:=Ac _ (Ac _ Y);have gk:(#v[4,7].push #v[5,9]).get? kS=Za #v[5,9]:=by rw[ek];exact Aq _ rfl
  generalize #v[4,7].push #v[5,9]=h6 at J ga gk ⊢;have na:H a=Zb:=I.hok.fresh #v[];have nk:H kS=Zb:=I.hok.fresh #v[];have pa:Apart X pins a:=(I.fpOk (H':=H) #v[] na).apart;have x:Apart X pins kS:=(I.fpOk (H':=H) #v[] nk).apart;have S:kS≠a:=by omega
  have j:Apart X ((a,seqObj "list" #[] e1)::pins) kS:=⟨x.l,x.f,x.x,x.c,λp t=>by
   rcases Cc.mp t with z|z
   ·exact x.p p (Gn _ z)
   ·rcases Ap.mp z with rfl|z
    ·exact S.symm
    ·exact x.p p (Ba _ z)⟩
  have I6:Inv X pins σ H { s with heap:=h6 }:=I.kept (t':=s.toks) J;have I7:Inv X ((kS,seqObj "list" #[] 0)::(a,seqObj "list" #[] e1)::pins) σ H { s with heap:=h6 }:=I6.pins_of λp t=>by
   rcases Ap.mp t with rfl|t
   ·exact⟨gk,nk,x.l,x.f,λv z=>by cases z⟩
   ·rcases Ap.mp t with rfl|t
    ·exact⟨ga,na,pa.l,pa.f,λv z=>by cases z⟩
    ·exact I6.pin p (Ba _ t)
  refine z0w (X:=X.inn) (pins:=pins) KC I7.inn al R G D hk g ⟨j.l,j.f,j.x,j.c,j.p⟩ λs' w N keys e kvs I8 s8 R8 rk rp=>?_;have k:=I8.out;nofun;obtain⟨g1,g2,_⟩:=k.pin (kS,seqObj "list" keys e) (Ba _ Av);obtain⟨g3,g4,_⟩:=k.pin (a,seqObj "list" #[] e1) (Ba _ (An _ Av));ac_rfl;have P:keys.size=vs.length:=by
   have a1:kvs.length=keys.size:=rk.length.trans Ca;have a2:ks.length=kvs.length:=rp.length;omega
  nofun;obtain⟨κ,kf,bf,le,kd,C,O,B,fn⟩:=hs (A:=X.A.in1.in1) (E:=E) (vs:=vs) k R8.sub (by show X.A.units+1+1+2<cLine;omega) rk rp G (D.mono s8) P;ac_rfl;refine z68 (kf:=kf) O B g1 g3 S P g kd C λr h' c pm pw ga' kp'=>⟨_,rfl,?_⟩;obtain⟨ov,o1,o2,lo⟩:=fn r pm pw;have lo:ov.length<=sizeLine:=by omega
  have I9:Inv X pins σ w s':=k.pins_of λp t=>k.pin p (Ba _ (An _ (An _ t)));have I10:Inv X pins σ (upd w a (.lst ov)) { s' with heap:=h' }:=I9.adopt (t':=s'.toks) (ch:=[a,kS]) (λb o B eb=>kp' b o (λz=>B (by simp [z])) (λz=>B (by simp [z])) eb) (λb B=>by
   rcases Ap.mp B with rfl|B
   ·exact pa.fp g4
   ·rw[Az.mp B];exact x.fp g2) Av ⟨lo,r.map (·.2),c,o1,ga'⟩
  refine Am ⟨_,rfl,.ref a,_,I10,rfl,?_⟩;nofun;obtain⟨F9,s9,R9,y9⟩:=(Out.lst (K:=X.K) (F:=N) (H:=w) (p:=a) g4 o2).close R8;ac_rfl;exact h F9 _ _ (s8.trans s9) R9 y9
end
noncomputable def kTI:W->Option (List Int)
 |.tup x=>zfe x
 |_=>Zb
noncomputable def stN:List Int->Nat->List (List Int)
 |[],_=>[]
 |n::a,i=>[n,(i:Int)]::stN a (i+1)
noncomputable def zee (k ws:List W):Option (List W):=(zfe k).bind λn=>(mapO kTI ws).bind λt=>if ze9 t&&decide (n.length=ws.length) then Za ((zny ((stN n 0).zip ws)).map (·.2)) else Zb
theorem z7n:∀(n:List Int) (i:Nat),(stN n i).length=n.length
 |[],_=>rfl
 |_::n,i=>congrArg (· + 1) (z7n n (i+1))
theorem stN_mem:∀(a:List Int) (i:Nat) (x:List Int),x∈stN a i->∃n:Int,∃j:Nat,x=[n,(j:Int)]/\i<=j
 |[],_,_,h=>nomatch h
 | n::a,i,x,h=>by
  rcases Ap.mp h with rfl|h
  ·exact⟨n,i,rfl,Ag _⟩
  ·obtain ⟨m,j,e,l⟩:=stN_mem a (i+1) x h
   exact⟨m,j,e,by omega⟩
theorem z20:∀(a:List Int) (i:Nat),(stN a i).Nodup
 |[],_=>Hg
 | n::a,i=>Bq.mpr ⟨λz=>by
  obtain⟨m,j,e,l⟩:=stN_mem a (i+1) _ z;have b:=(List.cons.inj (List.cons.inj e).2).1;omega,z20 a (i+1)⟩
open Classical in
noncomputable def ixV:List Ze->Ze->Nat
 |[],_=>0
 |v::a,u=>if v=u then 0 else ixV a u+1
theorem zra:∀{a:List Ze}{i:Nat}{v:Ze},a.Nodup->a[i]?=Za v->ixV a v=i
 |[],_,_,_,h=>by simp at h
 | u::a,0,v,_,h=>by
  obtain rfl:=sI h;unfold ixV;rw[if_pos rfl]
 | u::a,i+1,v,n,h=>by
  have h:a[i]?=Za v:=h;rw[Bq] at n;unfold ixV;rw[if_neg λz=>n.1 (by rw[z];exact Bh h),zra n.2 h]
noncomputable def stBf (ix:Ze->Nat) (x y:Keyed):Prop:=ix x.2<ix y.2
noncomputable def stLe (kf:Ze->List Int) (ix:Ze->Nat) (x y:Keyed):Prop:=lexI (kf y.1) (kf x.1)=Zc/\(lexI (kf x.1) (kf y.1)=Zd\/ix x.2<=ix y.2)
theorem ztn {a b:List Int} (h:lexI a b=Zd):lexI b a=Zc:=by
 cases q:lexI b a with
 |false=>rfl
 | true =>
  have:=zdq h q;rw[zcb] at this;cases this
theorem ybg (kf:Ze->List Int) (ix:Ze->Nat):Tim.Ord (λx y:Keyed=>lexI (kf x.1) (kf y.1)) (stBf ix) (stLe kf ix) where
 tr:=λ{x y z} e d=>by
  obtain⟨f,c⟩:=e;obtain⟨g,b⟩:=d;refine⟨?_,?_⟩
  ·cases q:lexI (kf z.1) (kf x.1) with
   |false=>rfl
   | true =>
    rcases lexI_nt (ys:=kf y.1) q with a|a
    ·rw[g] at a;cases a
    ·rw[f] at a;cases a
  ·rcases c with c | c
   ·rcases lexI_nt (ys:=kf z.1) c with a | a
    ·exact .inl a
    ·rw[g] at a;cases a
   ·rcases b with b | b
    ·rcases lexI_nt (ys:=kf x.1) b with a | a
     ·rw[f] at a;cases a
     ·exact .inl a
    ·exact .inr (Bj c b)
 tot:=λx y=>by
  cases q:lexI (kf x.1) (kf y.1) with
  |true=>exact .inl ⟨ztn q,.inl q⟩
  | false =>
   cases q2:lexI (kf y.1) (kf x.1) with
   |true=>exact .inr ⟨q,.inl q2⟩
   | false =>
    rcases Nat.le_total (ix x.2) (ix y.2) with l|l
    ·exact .inl ⟨q2,.inr l⟩
    ·exact .inr ⟨q,.inr l⟩
 f1:=λ{x y} h=>⟨λz=>⟨z,.inr (Nat.le_of_lt h)⟩,λz=>z.1⟩
 f2:=λ{x y} h=>⟨ztn h,.inl h⟩
 irr:=λx=>zcb _
 ltr:=λe d=>zdq e d
 nt:=λy h=>lexI_nt h
section
variable {K:Zg}{F H:Hp}
theorem ztv:∀{c d:List W}{g e:List Int}{u:List V},zfe c=Za g->zfe d=Za e->Reps K F c u->Reps K F d u->g=e
 |[],[],_,_,_,b,a,.nil,.nil=>by obtain rfl:=sI b;obtain rfl:=sI a;rfl
 |[],_::_,_,_,_,_,_,h,r=>by cases h;cases r
 |_::_,[],_,_,_,_,_,h,r=>by cases r;cases h
 | x::c,y::d,_,_,_,b,a,.cons o k,.cons n f=>by
  cases x with
  | int i =>
   cases y with
   | int j =>
    obtain⟨g,m,b⟩:=bS (show (zfe c).bind _=_ from b);obtain⟨e,l,a⟩:=bS (show (zfe d).bind _=_ from a);obtain rfl:=sI b;obtain rfl:=sI a;cases o;cases n;rw[ztv m l k f]
   |_=>cases a
  |_=>cases b
theorem yda {ws:List W}{t:List (List Int)} (n:mapO kTI ws=Za t) (O:t.Nodup) {v:List V}{vs:List Ze} (c:Vals v vs) (r:Reps K F ws v):vs.Nodup:=by
 refine Ef.mpr λi j s G E e=>?_;have X:=c.length;have Z:=r.length;obtain ⟨w,o⟩ : ∃k,ws[i]?=Za k:=⟨_,Ae (by omega)⟩;obtain ⟨z,l⟩ : ∃k,ws[j]?=Za k:=⟨_,Ae (by omega)⟩;obtain ⟨A,m,h⟩:=zd0 n o;obtain ⟨y,g,f⟩:=zd0 n l;obtain ⟨U,P,H⟩:=r.get o;obtain ⟨T,B,Q⟩:=r.get l;obtain ⟨u,p,x⟩:=c.get P;obtain ⟨S,d,I⟩:=c.get B;have e:u=S:=by
  rw[Ae s] at p;rw[Ae G] at d;exact (sI p).symm.trans (e.trans (sI d))
 subst e;cases w with
 | tup N =>
  cases z with
  | tup C =>
   cases H with
   | @tup _ a Y R M =>
    cases Q with
    | @tup _ b J q L =>
     cases (show u=Ze.ref a from x);cases (show Ze.ref a=Ze.ref b from I);rw[R] at q;cases q;have D:=ztv (show zfe N=Za A from m) (show zfe C=Za y from g) M L;subst D;exact Ef.mp O i j (Af.mp h).1 (Af.mp f).1 E ((Af.mp h).2.trans (Af.mp f).2.symm)
  |_=>cases g
 |_=>cases m
noncomputable def StR (K:Zg) (F:Hp) (kf:Ze->List Int) (ix:Ze->Nat) (z:KP) (x:Keyed):Prop:=∃n:Int,kf x.1=[n]/\z.1=[n,(ix x.2:Int)]/\∃v,RelV v x.2/\Rep K F z.2 v
theorem all2_st {kf:Ze->List Int}{ix:Ze->Nat}:∀{c:List Ze}{b:List Int}{w:List W}{a:List V}{f:List Ze}{i:Nat},c.map kf=b.map (λn=>[n])->Vals a f->Reps K F w a->(∀j v,f[j]?=Za v->ix v=i+j)->All2 (StR K F kf ix) ((stN b i).zip w) (c.zip f)
 |[],[],_,_,_,_,_,_,_,_=>.nil
 |[],_::_,_,_,_,_,h,_,_,_=>by cases h
 |_::_,[],_,_,_,_,h,_,_,_=>by cases h
 | k::c,n::b,_,_,_,i,h,.nil,.nil,_=>by
  show All2 _ (List.zip (_::_) []) (List.zip _ []);rw[List.zip_nil_right,List.zip_nil_right];exact .nil
 | k::c,n::b,_,_,_,i,h,.cons r o,.cons p d,g=>by
  rw[Ax,Ax] at h;obtain⟨m,l⟩:=List.cons.inj h;exact .cons ⟨n,m,by rw[g 0 _ rfl];rfl,_,r,p⟩ (all2_st l o d λj v e=>by rw[g (j+1) v e];omega)
theorem zt2 {kf:Ze->List Int}{ix:Ze->Nat}:∀{z:List KP}{r:List Keyed},All2 (StR K F kf ix) z r->∃c,Vals c (r.map (·.2))/\Reps K F (z.map (·.2)) c
 |_,_,.nil=>⟨[],.nil,.nil⟩
 | _,_,.cons ⟨_,_,_,v,d,h⟩ t=>by
  obtain⟨c,a,b⟩:=zt2 t;exact⟨v::c,.cons d a,.cons h b⟩
end
theorem zvq:∀{a:List W}{b:List Int},zfe a=Za b->mapO kI a=Za (b.map λn=>[n])
 |[],_,h=>by obtain rfl:=sI h;rfl
 | k::a,_,h=>by
  cases k with
  | int i =>
   obtain⟨b,e,h⟩:=bS (show (zfe a).bind _=_ from h);obtain rfl:=sI h;show (mapO kI a).bind _=_;rw[zvq e];rfl
  |_=>cases h
theorem zu5 {N ws out:List W}(h:zee N ws=Za out):zqv N ws out:=by
 intro X pins σ H F s keys a kvs Z A E I sm hu rk U D d l;unfold zee at h;obtain⟨G,hn,h⟩:=bS h;obtain⟨tl,ht,h⟩:=bS h;split at h
 ·rename_i S;rw[Ab] at S;nofun;obtain⟨κ,kd,C,t⟩:=zp6 (A:=A) (E:=E) (vs:=a) I sm hu rk U (kl:=G.map λn=>[n]) (by rw[zvq hn];rfl) l;ac_rfl;have w:=yda ht (zeg S.1) D d;have L:∀j v,a[j]?=Za v->ixV a v=0+j:=λj v e=>by rw[zra w e,Co]
  refine⟨κ,kfV H,stBf (ixV a),stLe (kfV H) (ixV a),kd,C,ybg _ _,λc i j M R h3=>?_,λr pm pw=>?_⟩
  ·have sz:(keys.zip a.toArray).size=a.length:=by rw[Array.size_zip,l,Ak,Ha]
   have k:∀i,i<a.length->∃v,a[i]?=Za v/\(Tim.G (keys.zip a.toArray) i).2=v:=λi hi=>by
    have e:=Tim.G_some (xs:=keys.zip a.toArray) (i:=i) #v[];rw[<-Ee,ksk_zip,List.getElem?_zip_eq_some] at e;exact⟨_,e.2,rfl⟩
   obtain⟨u,e1,e2⟩:=k i #v[];obtain⟨v,T,e4⟩:=k j #v[];show ixV a _<ixV a _;rw[e2,e4,zra w e1,zra w T];omega
  ·obtain ⟨B,p,g⟩:=All2.perm pm.symm (all2_st (K:=X.K) (F:=F) (kf:=kfV H) (ix:=ixV a) (i:=0) t D d L);have ps:B.Pairwise leK:=All2.pair (P:=leK) (Q:=stLe (kfV H) (ixV a)) (λz x z' x' M R q=>by
    obtain⟨n,a1,a2,_⟩:=M;obtain⟨m,Y,V,_⟩:=R;obtain⟨f,b⟩:=q;show lexI z'.1 z.1=Zc;rw[a1,Y] at f b;rw[a2,V];unfold lexI at f b ⊢;by_cases c:m=n
    ·subst c;rw[if_pos rfl] at f b ⊢;rcases b with b|b
     ·unfold lexI at b;cases b
     ·unfold lexI;by_cases O:(ixV a x'.2:Int)=(ixV a x.2:Int)
      ·rw[if_pos O];unfold lexI;rfl
      ·rw[if_neg O];exact Ao #v[]
    ·rw[if_neg c] at f ⊢;exact f) g pw
   have ez:B=zny ((stN G 0).zip ws):=zfp (p.symm.trans (zfi _).symm) ps (zdo _) λx hx y hy=>zn7 (z20 G 0) x (p.symm.mem_iff.mp hx) y (p.symm.mem_iff.mp hy);obtain⟨ov,o1,o⟩:=zt2 g;have J:out=B.map (·.2):=by rw[ez];exact (sI h).symm
   rw[<-J] at o;refine⟨ov,o1,o,?_⟩;have l0:=o.length;have l1:=D.length;have l2:=d.length;have l3:=p.length_eq;rw[List.length_zip] at l3;rw[J,Ad] at l0;omega
 ·exact noSome h
end L2
namespace L2
open PySem PySem.Spec PyProof.Rows
section
variable {prog:Program}{w:World}{A:Around}{E:Ze->Zf->Prop}{s:Zf}{a:Zh}{vs:List Ze}{P:PySem.Fin->Zf->Prop}
end
section
variable {X:Cx}
end
structure Sx where
 N:List Str
 kd:List (Str×NameKind)
 bn:List Str
 fs:List (Str×(List Bool×Fn))
 mp:List Nat
 top:Bool
 nm:Str := ""
 dp:Nat:=0
noncomputable def Sx.rd (S:Sx) (x:Str):Option Nat:=if x==("__debug__" : Str)||x==("__classdict__" : Str) then Zb else match S.kd.lookup x with
 |some .local=>S.N.findIdx? (· == x)
 |some .cell=>S.N.findIdx? (· == x)
 |some .free=>S.N.findIdx? (· == x)
 |_=>Zb
noncomputable def Sx.wr (S:Sx) (x:Str):Option Nat:=match S.kd.lookup x with
 |some .local=>S.N.findIdx? (· == x)
 |some .cell=>S.N.findIdx? (· == x)
 |_=>Zb
noncomputable def Sx.bl (S:Sx) (x:Str):Bool:=S.kd.lookup x==Za .globalImplicit&&S.bn.contains x
structure CxOk (X:Cx) (S:Sx) (d:Nat):Prop where
 N:X.N=S.N
 nd:S.N.Nodup
 loc:∀x,S.kd.lookup x=Za .local->X.env.scope.names.lookup x=Za .local
 cel:∀x,S.kd.lookup x=Za .cell->X.env.scope.names.lookup x=Za .cell/\X.fn x=Zd
 vis:∀x,S.kd.lookup x=Za .cell\/S.kd.lookup x=Za .free->X.env.scope.names.lookup x=Za .cell\/X.env.scope.names.lookup x=Za .free
 gl:∀x,S.kd.lookup x=Za .globalImplicit->Gl X x
 calm:X.calm=Zd
 xe:X.xe=λ_ _=>False
 bn:∀x∈S.bn,X.mg x=Zb
 fs:∀x m Φ,S.fs.lookup x=Za (m,Φ)->∃ps,ps.length=m.length/\Cal X.prog X.w X.K X.mg X.base d x ps (spF X.K m Φ)
 room:Room d X.A
 sl:X.A.units+16*d+205<cLine
 bk:X.env.blockKind=.function
 lam:S.nm∈lams->∃c P,PySem.W.tabIn X.K S.nm=Za (c,P)/\PySem.W.codeHdIn X.K c P=Zd/\X.env.code=.ref c/\X.env.qual=S.nm++".<locals>."
 dpo:S.dp<=d
theorem zgd {N:List Str}{x:Str}{i:Nat}(h:N.findIdx? (· == x)=Za i):N[i]?=Za x:=by
 obtain⟨a,b,_⟩:=List.findIdx?_eq_some_iff_getElem.mp h;rw[Ae a];have:N[i]=x:=by simpa using b
 rw[this]
section
variable {X:Cx}{S:Sx}{d:Nat}
theorem zno (C:CxOk X S d){x:Str}{i:Nat}{pos:Pos}(h:S.rd x=Za i):PE X (.Name x pos) (tVar i):=by
 unfold Sx.rd at h;split at h
 ·exact noSome h
 ·rename_i z;rw[Cd,not_or,Bn,Bn] at z;split at h
  ·rename_i e;exact ztm (by rw[C.N];exact zgd h) (.inl (C.loc x e)) z.1 z.2
  ·rename_i e;exact ztm (by rw[C.N];exact zgd h) (.inr (C.vis x (.inl e))) z.1 z.2
  ·rename_i e;exact ztm (by rw[C.N];exact zgd h) (.inr (C.vis x (.inr e))) z.1 z.2
  ·exact noSome h
theorem zmn (C:CxOk X S d){x:Str}{i:Nat}(h:S.wr x=Za i):X.N[i]?=Za x/\Loc X.env.scope x/\(X.fn x=Zd\/X.env.scope.names.lookup x=Za .local):=by
 unfold Sx.wr at h;split at h
 ·rename_i e;exact⟨by rw[C.N];exact zgd h,.inl (C.loc x e),.inr (C.loc x e)⟩
 ·rename_i e;exact⟨by rw[C.N];exact zgd h,.inr (C.cel x e).1,.inl (C.cel x e).2⟩
 ·exact noSome h
theorem zgi (C:CxOk X S d){x:Str}(h:S.bl x=Zd):Gl X x/\X.mg x=Zb:=by
 unfold Sx.bl at h;rw[Ab] at h;exact⟨C.gl x (by simpa using h.1),C.bn x (by simpa using h.2)⟩
theorem ndN (C:CxOk X S d):X.N.Nodup:=by rw[C.N];exact C.nd
end
noncomputable def zqo:Zi->Bool
 |.Set ..=>Zc
 |_=>Zd
noncomputable def zd9:Zi->Bool
 |.Slice ..=>Zc
 |_=>Zd
noncomputable def zgq:Zi->Bool
 |.ListComp ..=>Zc
 |.SetComp ..=>Zc
 |.DictComp ..=>Zc
 |_=>Zd
noncomputable def zq3:Zi->Bool
 |.UnaryOp .Not _ _=>Zc
 |.BoolOp ..=>Zc
 |.IfExp ..=>Zc
 |.Compare ..=>Zc
 |_=>Zd
theorem zw8 {e:Zi}{env:Env}(h:zqo e=Zd):∀x,foldedSetIterable e env x=pure x:=by
 intro x;cases e<;>first|rfl|(cases h)
theorem zpp {op:CmpOp}{e:Zi}(h:zqo e=Zd):behindInMarks op e=Zc:=by
 cases e<;>first|rfl|(cases h)
theorem zsl {e:Zi}(h:zd9 e=Zd):zxt e:=λo i=>by
 cases e<;>first|rfl|(cases h)
theorem zq8 {e:Zi}{t:Option Zi}{l:Nat}{env:Env}(h:zgq e=Zd):swapsWith e t l env=pure Zc:=by
 cases e<;>first|rfl|(cases h)
theorem zsq {e:Zi}{env:Env}(h:zq3 e=Zd):∀w,isTrue e env w=(do let v <- w;standAt e.pos;holding [v] (truthy v)):=by
 intro w;cases e with
 |UnaryOp o _ _=>cases o<;>first|rfl|(cases h)
 |_=>first|rfl|(cases h)
theorem zq5 {es:List Zi}{env:Env}{pos:Pos} (h:es.all zag=Zd):(backTo pos (starEach es env)).any (·.1)=Zc:=by
 induction es with
 |nil=>rfl
 | cons e es i =>
  rw[Cg,Ab] at h;rw[zaf h.1];show (Zc||(backTo pos (starEach es env)).any (·.1))=Zc;rw[i h.2]
  rfl
noncomputable def cPow (i j:Int):Bool:=decide (0<=j)&&decide (j<=1000000)&&decide (i.natAbs<2^64)
noncomputable def cMul (i j:Int):Bool:=(decide (-(2^64)<i)&&decide (i<2^64))||(decide (-(2^64)<j)&&decide (j<2^64))
noncomputable def zry (i j:Int):Bool:=decide (Builtin.Int.intBits i<=2^20)&&decide (Builtin.Int.intBits j<=2^20)
noncomputable def cDiv (i j:Int):Bool:=decide (0<j)&&decide (j.natAbs.log2<9000)
noncomputable def yes2 (_ _:Int):Bool:=Zd
noncomputable def oAdd:O2:=oOr #v[8,12] (oOr oCat (oOr zz1 (oOr z7y z2f)))
noncomputable def oMult:O2:=oOr #v[5,20] (oOr (oI zry λi j=>.int (i*j)) oRep)
noncomputable def binO:Operator->Option O2
 |.Add=>Za oAdd
 |.Sub=>Za #v[0,0,0]
 |.Mult=>Za oMult
 |.FloorDiv=>Za #v[0,0,3]
 |.Mod=>Za #v[0,0,2]
 |.Pow=>Za #v[0,16]
 |.LShift=>Za #v[0,0,1]
 |.RShift=>Za (oI (λ_ j=>decide (0<=j)) λi j=>.int (i / 2 ^ j.toNat))
 |.BitAnd=>Za #v[2,9]
 |.BitOr=>Za #v[8,21]
 |.BitXor=>Za #v[7,16]
 |_=>Zb
theorem zw0 {i j:Int}(h:cPow i j=Zd):CPow i j:=by
 unfold cPow at h;rw[Ab,Ab] at h;exact⟨Ai h.1.1,Ai h.1.2,Ai h.2⟩
theorem zxu {i j:Int}(h:cMul i j=Zd):CMul i j:=by
 unfold cMul at h;rw[Cd,Ab,Ab] at h;rcases h with h|h
 ·exact .inl ⟨Ai h.1,Ai h.2⟩
 ·exact .inr ⟨Ai h.1,Ai h.2⟩
theorem z1u {i j:Int}(h:zry i j=Zd):ya4 i j:=by
 unfold zry at h;rw[Ab] at h;exact⟨Ai h.1,Ai h.2⟩
theorem z6q {i j:Int}(h:cDiv i j=Zd):0<j/\j.natAbs.log2<9000:=by
 unfold cDiv at h;rw[Ab] at h;exact⟨Ai h.1,Ai h.2⟩
section
variable {X:Cx}
theorem z5y {op:Operator}{o:O2}(h:binO op=Za o):∃r,OpR X (binaryOp op) r/\OpS X.K r o:=by
 cases op with
 |Add=>obtain rfl:=sI h;exact⟨_,yal.or (z9a.or (z5k.or (z6d.or zsf))),(zb8 λ_ _ _=>.int _).or (z6l.or (zzt.or (z0f.or z01)))⟩
 |Sub=>obtain rfl:=sI h;exact⟨_,ya2,zb8 λ_ _ _=>.int _⟩
 |Mult=>obtain rfl:=sI h;exact⟨_,z9g.or (z6y.or ybk),(zk3 (λ_ _=>zxu) λ_ _ _=>.int _).or ((zk3 (λ_ _=>z1u) λ_ _ _=>.int _).or z6j)⟩
 |FloorDiv=>obtain rfl:=sI h;exact⟨_,zzz,zk3 (λ_ _=>z6q) λ_ _ _=>.int _⟩
 |Mod=>obtain rfl:=sI h;exact⟨_,ybf,zk3 (λ_ _=>Ai) λ_ _ _=>.int _⟩
 |Pow=>obtain rfl:=sI h;exact⟨_,z89,zk3 (λ_ _=>zw0) λ_ _ _=>.int _⟩
 |LShift=>obtain rfl:=sI h;exact⟨_,z9q,zk3 (λ_ _=>zw0) λ_ _ _=>.int _⟩
 |RShift=>obtain rfl:=sI h;exact⟨_,z8x,zk3 (λ_ _=>Ai) λ_ _ _=>.int _⟩
 |BitAnd=>obtain rfl:=sI h;exact⟨_,yai,zb8 λ_ _ _=>.int _⟩
 |BitOr=>obtain rfl:=sI h;exact⟨_,ydi,zb8 λ_ _ _=>.int _⟩
 |BitXor=>obtain rfl:=sI h;exact⟨_,ybj,zb8 λ_ _ _=>.int _⟩
 |_=>exact noSome h
noncomputable def augO:Operator->Option O2
 |.Add=>Za #v[8,12]
 |.Sub=>Za #v[0,0,0]
 |.Mult=>Za #v[5,20]
 |.BitAnd=>Za #v[2,9]
 |.BitOr=>Za #v[8,21]
 |.BitXor=>Za #v[7,16]
 |_=>Zb
theorem z4v {op:Operator}{o:O2}(h:augO op=Za o):∃r,PIp X op r/\OpS X.K r o:=by
 cases op with
 |Add=>obtain rfl:=sI h;exact⟨_,zwi,zb8 λ_ _ _=>.int _⟩
 |Sub=>obtain rfl:=sI h;exact⟨_,z4e,zb8 λ_ _ _=>.int _⟩
 |Mult=>obtain rfl:=sI h;exact⟨_,z7d,zk3 (λ_ _=>zxu) λ_ _ _=>.int _⟩
 |BitAnd=>obtain rfl:=sI h;exact⟨_,z73,zb8 λ_ _ _=>.int _⟩
 |BitOr=>obtain rfl:=sI h;exact⟨_,z9k,zb8 λ_ _ _=>.int _⟩
 |BitXor=>obtain rfl:=sI h;exact⟨_,z4d,zb8 λ_ _ _=>.int _⟩
 |_=>exact noSome h
noncomputable def cmpO:CmpOp->Option O2
 |.Eq=>Za oEq
 |.NotEq=>Za oNe
 |.Lt=>Za (oI yes2 λi j=>.bl (decide (i<j)))
 |.LtE=>Za (oI yes2 λi j=>.bl (decide (i<=j)))
 |.Gt=>Za #v[6,9]
 |.GtE=>Za (oI yes2 λi j=>.bl (decide (j<=i)))
 |.Is=>Za oIs
 |.In=>Za (oIn Zc)
 |.NotIn=>Za (oIn Zd)
 |_=>Zb
theorem z6s {k:Nat}(a:Room k X.A){op:CmpOp}{o:O2}(h:cmpO op=Za o):∃r,OpR X (compareOp op) r/\OpS X.K r o:=by
 cases op with
 |Eq=>obtain rfl:=sI h;exact⟨_,.or ydc (ycf a),z9z⟩
 |NotEq=>obtain rfl:=sI h;exact⟨_,.or yc4 (yaj a),yb8⟩
 |Lt=>obtain rfl:=sI h;exact⟨_,yc1,zb8 λ_ _ _=>.bl _⟩
 |LtE=>obtain rfl:=sI h;exact⟨_,yco,zb8 λ_ _ _=>.bl _⟩
 |Gt=>obtain rfl:=sI h;exact⟨_,ycw,zb8 λ_ _ _=>.bl _⟩
 |GtE=>obtain rfl:=sI h;exact⟨_,yc8,zb8 λ_ _ _=>.bl _⟩
 |Is=>obtain rfl:=sI h;exact⟨_,yb9.or z86,z8g⟩
 |In=>obtain rfl:=sI h;exact⟨_,zvr,z2v Zc⟩
 |NotIn=>obtain rfl:=sI h;exact⟨_,zlp,z2v Zd⟩
 |_=>exact noSome h
end
noncomputable def zbf (f:Sx->Zi->Option GE) (S:Sx) (e:Zi):Option GA:=match e with
 |.Name x _=>(S.rd x).bind λi=>Za (zaa i)
 |_=>(f S e).bind λg=>Za (gArg g)
noncomputable def asL (f:Zi->Option GA):List Zi->Option GAs
 |[]=>Za gA0
 |e::c=>if zag e then (f e).bind λa=>(asL f c).bind λb=>Za (gCns a b) else Zb
noncomputable def asM (f:Sx->Zi->Option GE) (S:Sx):List Zi->List Bool->Option GAs
 |[],[]=>Za gA0
 |e::d,b::m=>if zag e then (if b then zbf f S e else (f S e).bind λg=>Za (gArg g)).bind λa=>(asM f S d m).bind λc=>Za (gCns a c) else Zb
 |_,_=>Zb
noncomputable def zbs (f:Sx->Zi->Option GE):Prop:=∀X S d,CxOk X S d->∀e g,f S e=Za g->PE X e (tE X.K g)
noncomputable def zkx (f:Sx->Zi->Option GT):Prop:=∀X S d,CxOk X S d->∀e g,f S e=Za g->PT X e (tT X.K g)
section
variable {X:Cx}{S:Sx}{d:Nat}{f:Sx->Zi->Option GE}
theorem zak (H:zbs f)(C:CxOk X S d){e:Zi}{a:GA}(h:zbf f S e=Za a):PE X e (tA X.K a):=by
 unfold zbf at h;split at h
 ·obtain⟨i,b,h⟩:=bS h;obtain rfl:=sI h;exact (zno C b).wk λ_ _ _=>zyf
 ·obtain⟨g,c,h⟩:=bS h;obtain rfl:=sI h;exact (H X S d C _ _ c).wk λ_ _ _=>zf2
theorem zfv {f:Zi->Option GA} (H:∀e a,f e=Za a->PE X e (tA X.K a)):∀{b:List Zi}{c:GAs},asL f b=Za c->PA X b (tAs X.K c)/\b.all zag=Zd
 |[],_,h=>by obtain rfl:=sI h;exact⟨zdi.wk λ_ _ _=>zqy,rfl⟩
 | e::b,_,h=>by
  unfold asL at h;split at h
  ·rename_i z
   obtain⟨a,d,h⟩:=bS h;obtain⟨c,has,h⟩:=bS h;obtain rfl:=sI h;obtain⟨p,q⟩:=zfv H has;exact⟨(pac (H e a d) p z).wk λ_ _ _=>zqb,by rw[Cg,z,q];rfl⟩
  ·exact noSome h
theorem z3k (H:zbs f) (C:CxOk X S d):∀{c:List Zi}{m:List Bool}{j:GAs},asM f S c m=Za j->PA X c (tAs X.K j)/\c.all zag=Zd
 |[],[],_,h=>by obtain rfl:=sI h;exact⟨zdi.wk λ_ _ _=>zqy,rfl⟩
 | e::c,b::m,_,h=>by
  unfold asM at h;split at h
  ·rename_i z
   obtain ⟨a,i,h⟩:=bS h;obtain ⟨j,has,h⟩:=bS h;obtain rfl:=sI h;obtain ⟨p,q⟩:=z3k H C has;have l:PE X e (tA X.K a):=by
    cases b with
    |true=>exact zak H C (by simpa using i)
    | false =>
     obtain⟨g,k,i⟩:=bS (show (f S e).bind _=Za a from by simpa using i);obtain rfl:=sI i;exact (H X S d C _ _ k).wk λ_ _ _=>zf2
   exact⟨(pac l p z).wk λ_ _ _=>zqb,by rw[Cg,z,q];rfl⟩
  ·exact noSome h
 |[],_::_,_,h=>by exact noSome h
 |_::_,[],_,h=>by exact noSome h
end
noncomputable def cmpE (f:Sx->Zi->Option GE) (S:Sx) (a:Zi) (ops:List CmpOp) (c:List Zi):Option GE:=match ops,c with
 |[d],[b]=>if zqo b then (zbf f S a).bind λx=>(zbf f S b).bind λy=>(cmpO d).bind λo=>Za (gOp2 o x y) else Zb
 |_,_=>Zb
noncomputable def z37 (f:Zi->Option GE) (op:BoolOp):Zi->List Zi->Option GE
 |v,[]=>f v
 |v,u::c=>match op with|.And=>(f v).bind λa=>(z37 f op u c).bind λb=>Za (gAnd a b)|.Or=>Zb
noncomputable def z6h (f:Zi->Option GT) (op:BoolOp):Zi->List Zi->Option GT
 |v,[]=>f v
 |v,u::c=>(f v).bind λa=>(z6h f op u c).bind λb=>Za (match op with|.And=>zg7 a b|.Or=>gOrT a b)
section
variable {X:Cx}{S:Sx}{d:Nat}{f:Sx->Zi->Option GE}
theorem ztg (H:zbs f)(C:CxOk X S d){a:Zi}{ops:List CmpOp}{c:List Zi}{g:GE}{pos:Pos}(h:cmpE f S a ops c=Za g):PE X (.Compare a ops c pos) (tE X.K g)/\PT X (.Compare a ops c pos) (tT X.K (zaj g)):=by
 unfold cmpE at h;split at h
 ·rename_i m b;split at h
  ·rename_i z;nofun;obtain⟨x,j,h⟩:=bS h;obtain⟨y,k,h⟩:=bS h;obtain⟨o,l,h⟩:=bS h;ac_rfl;obtain rfl:=sI h;obtain⟨r,e,i⟩:=z6s (X:=X) C.room l;exact⟨(z41 e (zak H C j) (zak H C k) (zpp z)).wk λ_ _ _=>zf9 i,(z65 e (zak H C j) (zak H C k) (zpp z)).wk λ_ _ _=>zmj λ_ _ _=>zf9 i⟩
  ·exact noSome h
 ·exact noSome h
theorem zpx {f:Zi->Option GE} (H:∀e g,f e=Za g->PE X e (tE X.K g)) {op:BoolOp}{pos:Pos}:∀{v:Zi}{c:List Zi}{g:GE},z37 f op v c=Za g->PE X (.BoolOp op (v::c) pos) (tE X.K g)
 |v,[],g,h=>ych (H v g h)
 | v,u::j,g,h=>by
  cases op with
  | And =>
   obtain⟨a,i,h⟩:=bS h;obtain⟨b,d,h⟩:=bS h;obtain rfl:=sI h;exact (z94 (H v a i) (zpx H d)).wk λ_ _ _=>z1a
  |Or=>exact noSome h
theorem zir {f:Zi->Option GT} (H:∀e g,f e=Za g->PT X e (tT X.K g)) {op:BoolOp}{pos:Pos}:∀{v:Zi}{d:List Zi}{g:GT},z6h f op v d=Za g->PW X (.BoolOp op (v::d) pos) (tT X.K g)
 | v,[],g,h=>by
  cases op with
  |And=>exact z6m (H v g h)
  |Or=>exact z84 (H v g h)
 | v,u::j,g,h=>by
  obtain⟨a,i,h⟩:=bS h;obtain⟨b,c,h⟩:=bS h;obtain rfl:=sI h;cases op with
  |And=>exact (z88 (H v a i) (zir H c)).wk λ_ _ _=>zti
  |Or=>exact (ydq (H v a i) (zir H c)).wk λ_ _ _=>z1e
end
theorem ybc:bootBuiltins "min" = Za (.builtin "min"):=by decide +kernel
theorem z2z:bootBuiltins "max" = Za (.builtin "max"):=by decide +kernel
noncomputable def bltO (x:Str):Option ON :=
 if x==("len" : Str) then Za oLen else if x==("abs" : Str) then Za oAbs else if x==("int" : Str) then Za oInt else if x==("list" : Str) then Za oList else if x==("tuple" : Str) then Za oTuple else if x==("all" : Str) then Za (oBl λbs=>bs.all id) else if x==("any" : Str) then Za (oBl λbs=>bs.any id)
 else if x==("sum" : Str) then Za oSum else if x==("min" : Str) then Za oMin else if x==("max" : Str) then Za oMax else Zb
section
variable {X:Cx}{S:Sx}{d:Nat}
set_option maxHeartbeats 4000000 in
theorem z7v (C:CxOk X S d){x:Str}{o:ON}{e:Zi}{es:List Zi}{t:TA}{p pos:Pos}(f:S.bl x=Zd)(h:bltO x=Za o)(b:PA X (e::es) t)(c:(e::es).all zag=Zd):∃r,PE X (.Call (.Name x p) (e::es) [] pos) (tCB r t)/\OpSN X.K r o:=by
 obtain⟨g,m⟩:=zgi C f;rw[Cg,Ab] at c;have s:=zaf (env:=X.env) (es:=es) c.1;have a:=zq5 (env:=X.env) (pos:=pos) c.2;unfold bltO at h;split at h
 ·rename_i z;obtain rfl:=sI h;have e:=Bp z;subst e;exact⟨_,zcj zlq g m z8z b #v[0,9] #v[0,9] s a,z71⟩
 split at h
 ·rename_i z;obtain rfl:=sI h;have e:=Bp z;subst e;exact⟨_,zcj z2g g m ycg b #v[0,9] #v[0,9] s a,z4f⟩
 split at h
 ·rename_i z;obtain rfl:=sI h;have e:=Bp z;subst e;exact⟨_,zhg zye g m z28 b #v[0,9] #v[0,9] s a,z7k⟩
 split at h
 ·rename_i z;obtain rfl:=sI h;have e:=Bp z;subst e;exact⟨_,zhg zk1 g m znk b #v[0,9] #v[0,9] s a,zyk⟩
 split at h
 ·rename_i z;obtain rfl:=sI h;have e:=Bp z;subst e;exact⟨_,zhg ziz g m zrj b #v[0,9] #v[0,9] s a,zts⟩
 split at h
 ·rename_i z;obtain rfl:=sI h;have e:=Bp z;subst e;exact⟨_,zcj (zy9 C.calm) g m ybu b #v[0,9] #v[0,9] s a,z3f⟩
 split at h
 ·rename_i z;obtain rfl:=sI h;have e:=Bp z;subst e;exact⟨_,zcj (z06 C.calm) g m z9y b #v[0,9] #v[0,9] s a,z3f⟩
 split at h
 ·rename_i z;obtain rfl:=sI h;have e:=Bp z;subst e;exact⟨_,zcj (zwg C.calm) g m z9x b #v[0,9] #v[0,9] s a,z7h⟩
 split at h
 ·rename_i z;obtain rfl:=sI h;have e:=Bp z;subst e;exact⟨_,zcj (zxm C.calm) g m ybc b #v[0,9] #v[0,9] s a,z48⟩
 split at h
 ·rename_i z;obtain rfl:=sI h;have e:=Bp z;subst e;exact⟨_,zcj (zvw C.calm) g m z2z b #v[0,9] #v[0,9] s a,z7o⟩
 exact noSome h
noncomputable def z9n (x:Str):Option ON:=bltO x
theorem zzy (C:CxOk X S d){x:Str}{o:ON}{e:Zi}{es:List Zi}{t:TA}{p pos:Pos}(b:S.bl x=Zd)(h:z9n x=Za o)(c:PA X (e::es) t)(a:(e::es).all zag=Zd):∃r,PE X (.Call (.Name x p) (e::es) [] pos) (tCB r t)/\OpSN X.K r o:=by
 exact z7v C b h c a
end
noncomputable def kdOf (x:Str):Option Kd:=if x==("int" : Str) then Za .int else if x==("bool" : Str) then Za .bool else if x==("str" : Str) then Za .str else if x==("tuple" : Str) then Za .tuple else if x==("list" : Str) then Za .list else Zb
theorem z4k {x:Str}{k:Kd}(h:kdOf x=Za k):bootBuiltins x=Za (.type k.nm)/\x≠("__name__" : Str)/\(x==("__debug__" : Str))=Zc:=by
 unfold kdOf at h;split at h
 ·rename_i z;obtain rfl:=sI h;have e:=Bp z;subst e;exact⟨z28,by decide,by decide⟩
 split at h
 ·rename_i z;obtain rfl:=sI h;have e:=Bp z;subst e;exact⟨z55,by decide,by decide⟩
 split at h
 ·rename_i z;obtain rfl:=sI h;have e:=Bp z;subst e;exact⟨z9f,by decide,by decide⟩
 split at h
 ·rename_i z;obtain rfl:=sI h;have e:=Bp z;subst e;exact⟨zrj,by decide,by decide⟩
 split at h
 ·rename_i z;obtain rfl:=sI h;have e:=Bp z;subst e;exact⟨znk,by decide,by decide⟩
 exact noSome h
noncomputable def zwa:Zi->Bool
 |.Call _ _ _ _=>Zd
 |_=>Zc
theorem znj {o:Zi}{a:Str}{env:Env}{w:Sem Ze}(h:zwa o=Zc):attributeBase o a env w=w:=by
 cases o<;>first|rfl|(cases h)
noncomputable def z4j (f:Sx->Zi->Option GE) (S:Sx) (o:Zi) (name:Str) (apos:Pos) (args:List Zi) (cpos:Pos):Option GE :=
 if !(apos.endLine==cpos.line)||zwa o then Zb else match args with
 | [e]=>if !zag e then Zb else match o with
  |.Name x _=>(S.rd x).bind λi=>(f S e).bind λg=>if name==("append" : Str) then Za (gApp i g) else Zb
  |_=>Zb
 |_=>Zb
theorem zph {e:Zi}{env:Env}{cpos:Pos}(h:zag e=Zd):((backTo cpos (starEach [e] env)).all (λx=>!x.1)&&(backToKw cpos (keywordEach [] env)).all (λx=>x.1.isSome)&&decide (([e]:List Zi).length+([]:List Keyword).length+(if ([]:List Keyword).isEmpty then 0 else 1)<30))=Zd:=by
 rw[zaf h];rfl
section
variable {X:Cx}{S:Sx}{d:Nat}{f:Sx->Zi->Option GE}
theorem z10 (H:zbs f)(C:CxOk X S d){o:Zi}{name:Str}{apos cpos:Pos}{args:List Zi}{g:GE}(h:z4j f S o name apos args cpos=Za g):PE X (.Call (.Attribute o name apos) args [] cpos) (tE X.K g):=by
 unfold z4j at h;split at h
 ·exact noSome h
 ·rename_i z;rw[Cd,not_or,Bn,Bn,Dc] at z;have j:=znj (a:=name) (env:=X.env) (w:=eval o X.env) z.2;split at h
  ·rename_i e;split at h
   ·exact noSome h
   ·rename_i y;rw[Bn,Dc] at y;split at h
    ·rename_i x m;obtain⟨i,c,h⟩:=bS h;obtain⟨l,k,h⟩:=bS h;have p:PA X [e] (zds (tE X.K l) tNil):=pac (H X S d C _ _ k) zdi y;split at h
     ·rename_i q;obtain rfl:=sI h;have b:=Bp q;subst b;exact (z8y PySem.F.plainAttrs_list PySem.F.slot_list_append PySem.F.type_list_append zm7 (zno C c) p j (zph y) z.1 (zaf y) rfl).wk λ_ _ _=>z0h
     ·exact noSome h
    ·exact noSome h
  ·exact noSome h
end
noncomputable def z16 (f:Sx->Zi->Option GE) (S:Sx) (x:Str) (args:List Zi):Option GE:=if x==("__debug__" : Str) then Zb else match args with
 |[]=>Zb
 | e::c=>match S.fs.lookup x with
  |some (m,Φ)=>if S.kd.lookup x==Za .globalImplicit then (asM f S (e::c) m).bind λb=>Za (gCall m Φ b) else Zb
  | none=>if x==("isinstance" : Str)&&S.bl x then (match e,c with
    |e,[.Name t _]=>if zag e&&S.bl t then (kdOf t).bind λk=>(zbf f S e).bind λa=>Za (gOp1 (oIsi k) a) else Zb
    |_,_=>Zb)
   else if S.bl x then (z9n x).bind λo=>(asL (zbf f S) (e::c)).bind λb=>Za (gOpN o b) else Zb
theorem zrk {X:Cx}{S:Sx}{d:Nat}{f:Sx->Zi->Option GE}(H:zbs f)(C:CxOk X S d){x:Str}{args:List Zi}{g:GE}{p pos:Pos}(h:z16 f S x args=Za g):PE X (.Call (.Name x p) args [] pos) (tE X.K g):=by
 unfold z16 at h;split at h
 ·exact noSome h
 ·rename_i b;rw[Bn] at b;split at h
  ·exact noSome h
  ·rename_i e O;split at h
   ·rename_i m Φ i;split at h
    ·rename_i n;obtain⟨D,has,h⟩:=bS h;obtain rfl:=sI h;obtain⟨Q,P,l⟩:=C.fs x m Φ i;obtain⟨c,s⟩:=z3k H C has;rw[Cg,Ab] at s;exact (z81 l C.room (C.gl x (by simpa using n)) c (Ag _) b (zaf s.1) (zq5 s.2)).wk λ_ _ _=>zx1
    ·exact noSome h
   ·split at h
    ·rename_i j;rw[Ab] at j;have K:=Bp j.1;subst K;obtain⟨E,G⟩:=zgi C j.2;split at h
     ·rename_i t pt;split at h
      ·rename_i z;rw[Ab] at z;obtain⟨k,A,h⟩:=bS h;obtain⟨a,u,h⟩:=bS h;obtain rfl:=sI h;obtain⟨w,I,y⟩:=z4k A;obtain⟨N,M⟩:=zgi C z.2;have q:PE X (.Name t pt) (tC (.ty k.nm)):=z5x N M w rfl I y;have c:PA X [e,.Name t pt] (zds (tA X.K a) (zds (tC (.ty k.nm)) tNil)):=pac (zak H C u) (pac q zdi rfl) z.1;exact (zcj z0d E G ziw c #v[0,9] b (zaf z.1) rfl).wk λ_ _ _=>z00
      ·exact noSome h
     ·exact noSome h
    ·split at h
     ·rename_i L;obtain⟨o,J,h⟩:=bS h;obtain⟨D,has,h⟩:=bS h;obtain rfl:=sI h;obtain⟨c,s⟩:=zfv (λe a u=>zak H C u) has;obtain⟨r,B,F⟩:=zzy (pos:=pos) (p:=p) C L J c s;exact B.wk λ_ _ _=>z0i F
     ·exact noSome h
noncomputable def zof (f:Sx->Zi->Option GE) (S:Sx) (t e:Zi):Option GL:=if !zqo e then Zb else match e with
 | .Call (.Name x _) args [] _ =>
  if x==("range" : Str)&&S.bl x then (match args with
   |[a]=>if zag a then (asL (zbf f S) [a]).bind λd=>Za (zbt d) else Zb
   |[a,b]=>if zag a&&zag b then (asL (zbf f S) [a,b]).bind λd=>Za (ztk d) else Zb
   |[a,b,c]=>if zag a&&zag b&&zag c then (asL (zbf f S) [a,b,c]).bind λd=>Za (zyh d) else Zb
   |_=>Zb)
  else if x==("enumerate" : Str)&&S.bl x then (match args,t with
   |[a],.Tuple _ _ _=>if zag a then (f S a).bind λg=>Za (zr3 g) else Zb
   |_,_=>Zb)
  else if x==("reversed" : Str)&&S.bl x then (match args with
   |[a]=>if zag a then (f S a).bind λg=>Za (gRev g) else Zb
   |_=>Zb)
  else if x==("zip" : Str)&&S.bl x then (match args,t with
   |[a,b],.Tuple _ _ _=>if zag a&&zag b then (f S a).bind λg=>(f S b).bind λh=>Za (gZip g h) else Zb
   |_,_=>Zb)
  else (f S e).bind λg=>Za (zap g)
 |_=>(f S e).bind λg=>Za (zap g)
theorem zem {X:Cx}{S:Sx}{d:Nat}{f:Sx->Zi->Option GE}(H:zbs f)(C:CxOk X S d){t e:Zi}{g:GL}(h:zof f S t e=Za g):PI X t e (tI X.K g)/\∀x,foldedSetIterable e X.env x=pure x:=by
 unfold zof at h;split at h
 ·exact noSome h
 ·rename_i r;rw[Bn,Dc] at r;refine⟨?_,zw8 r⟩;split at h
  ·rename_i x A args B;split at h
   ·rename_i z;rw[Ab] at z;have k:=Bp z.1;subst k;obtain⟨j,m⟩:=zgi C z.2;split at h
    ·rename_i a;split at h
     ·rename_i y;obtain⟨q,has,h⟩:=bS h;obtain rfl:=sI h;obtain⟨p,_⟩:=zfv (λe a l=>zak H C l) has;exact (zt7 j m p (zaf y)).wk λ_ _ _=>zvg
     ·exact noSome h
    ·rename_i a b;split at h
     ·rename_i y;rw[Ab] at y;obtain⟨q,has,h⟩:=bS h;obtain rfl:=sI h;obtain⟨p,_⟩:=zfv (λe a l=>zak H C l) has;exact (zwt j m p (by rw[zaf y.1,zaf y.2];rfl) (zaf y.2)).wk λ_ _ _=>zvl
     ·exact noSome h
    ·rename_i a b c;split at h
     ·rename_i y;rw[Ab,Ab] at y;obtain⟨q,has,h⟩:=bS h;obtain rfl:=sI h;obtain⟨p,_⟩:=zfv (λe a l=>zak H C l) has;exact (ztl j m p (by rw[zaf y.1.1,zaf y.1.2,zaf y.2];rfl) (by rw[zaf y.1.2,zaf y.2];rfl)).wk λ_ _ _=>zui
     ·exact noSome h
    ·exact noSome h
   ·split at h
    ·rename_i z;rw[Ab] at z;have k:=Bp z.1;subst k;obtain⟨j,m⟩:=zgi C z.2;split at h
     ·rename_i a u s v;split at h
      ·rename_i y;obtain⟨n,i,h⟩:=bS h;obtain rfl:=sI h;exact (z0r j m (pac (H X S d C _ _ i) zdi y) (zaf y)).wk λ_ _ _=>zuw
      ·exact noSome h
     ·exact noSome h
    ·split at h
     ·rename_i z;rw[Ab] at z;have k:=Bp z.1;subst k;obtain⟨j,m⟩:=zgi C z.2;split at h
      ·rename_i a;split at h
       ·rename_i y;obtain⟨n,i,h⟩:=bS h;obtain rfl:=sI h;exact (ycc j m (pac (H X S d C _ _ i) zdi y) (zaf y)).wk λ_ _ _=>zzc
       ·exact noSome h
      ·exact noSome h
     ·split at h
      ·rename_i z;rw[Ab] at z;have k:=Bp z.1;subst k;obtain⟨j,m⟩:=zgi C z.2;split at h
       ·rename_i a b u s v;split at h
        ·rename_i y;rw[Ab] at y;nofun;obtain⟨n,i,h⟩:=bS h;obtain⟨w,o,h⟩:=bS h;ac_rfl;obtain rfl:=sI h;exact (ybw j m (pac (H X S d C _ _ i) (pac (H X S d C _ _ o) zdi y.2) y.1) (by rw[zaf y.1,zaf y.2];rfl) (zaf y.2)).wk λ_ _ _=>zy7
        ·exact noSome h
       ·exact noSome h
      ·obtain⟨n,i,h⟩:=bS h;obtain rfl:=sI h;exact (z2u (H X S d C _ _ i)).wk λ_ _ _=>zlf
  ·obtain⟨n,i,h⟩:=bS h;obtain rfl:=sI h;exact (z2u (H X S d C _ _ i)).wk λ_ _ _=>zlf
noncomputable def zgs (S:Sx):List Zi->Option (List Nat)
 |[]=>Za []
 |.Name x _::e=>(S.wr x).bind λi=>(zgs S e).bind λa=>Za (i::a)
 |_=>Zb
noncomputable def tgE (S:Sx):Zi->Option Tg
 |.Name x _=>(S.wr x).bind λi=>Za (.nm i)
 |.Tuple e _ _=>(zgs S e).bind λa=>Za (.tp a)
 |_=>Zb
section
variable {X:Cx}{S:Sx}{d:Nat}
theorem zh9 (C:CxOk X S d):∀(f:List Zi) {g:List Nat},zgs S f=Za g->PGs X f (zim g)/\(assignEach f X.env).length=g.length/\(assignEach f X.env).findIdx? (·.1)=Zb:=by
 intro f
 induction f with
 |nil=>intro g h;obtain rfl:=sI h;exact⟨z5r,rfl,rfl⟩
 | cons e f n =>
  intro g h;obtain ⟨x,p,rfl⟩ : ∃x p,e=.Name x p:=by
   cases e with
   |Name x p=>exact⟨x,p,rfl⟩
   |_=>exact noSome h
  nofun;obtain⟨i,k,h⟩:=bS (show (S.wr x).bind _=_ from h);obtain⟨g,j,h⟩:=bS h;ac_rfl;obtain rfl:=sI h;nofun;obtain⟨a,b,c⟩:=n j;obtain⟨w,l,m⟩:=zmn C k;ac_rfl;refine⟨z15 (zv7 (ndN C) w l m) a rfl,congrArg (· + 1) b,?_⟩;show List.findIdx? (·.1) ((Zc,assign (.Name x p) X.env)::assignEach f X.env)=Zb;rw[List.findIdx?_cons,c]
  rfl
theorem zpm (C:CxOk X S d){e:Zi}{T:Tg}(h:tgE S e=Za T):PG X e (TGof X.K T):=by
 unfold tgE at h;split at h
 ·obtain⟨i,g,h⟩:=bS h;obtain rfl:=sI h;obtain⟨w,j,k⟩:=zmn C g;exact zv7 (ndN C) w j k
 ·obtain⟨l,f,h⟩:=bS h;obtain rfl:=sI h;obtain⟨a,b,c⟩:=zh9 C _ f;exact zu8 C.calm a b c
 ·exact noSome h
end
noncomputable def z6f (te:GE):Fn:=zad [Zc] 1 (gRet te)
noncomputable def lamΦ (te:GE) (w:W):Option W:=(z6f te [w]).bind λp=>if p.1.length=1 then Za p.2.1 else Zb
noncomputable def zv5 (te:GE) (a:GA):GE:=λen=>(a en).bind λp=>(resA p.1 p.2).bind λw=>(seqL w).bind λb=>(mapO (lamΦ te) b).bind λk=>(zzs k b).bind λout=>Za (p.1,(.lst out,Zd))
theorem zlc {scope:Scope}{env:Env} (h:(scope.names.all λp=>!(p.2==NameKind.free))=Zd):closureFor scope env=pure []:=by
 unfold closureFor;have go:∀(names:List (Str×NameKind)) (a:List (Str×Zh)),(names.all λp=>!(p.2==NameKind.free))=Zd->(forIn names a λ(p:Str×NameKind) a=>(if p.2==NameKind.free then do let c <- cellOf env p.1;pure (ForInStep.yield ((p.1,c)::a)) else pure (ForInStep.yield a):Sem (ForInStep (List (Str×Zh)))))=pure a:=by
  intro names
  induction names with
  |nil=>intro a _;rw[Fm]
  | cons p r i =>
   intro a h;rw[Cg,Ab] at h;rw[Gs];have e:(p.2==NameKind.free)=Zc:=by simpa using h.1
   simp only [e,Dq,Gm,Gu];exact i a h.2
 have:=go scope.names [] h;simpa using this
theorem z5m {P:Program}{w:World}{K:Zg}{m:Str->Option Ze}{base:Heap}{k:Nat}{f c':Zh}{qual:Str}{p:Arguments}{body:Zi}{scope:Scope}{pm ctv:Ze}{N ps:List Str}{A:Around}{outer:List Env}{s:Zf}{H:Hp}{c:List Ze}{vs:List V}{Q:VK}{E:XK}
  (M:s.heap.get? f=Za (PySem.W.kla_obj "<lambda>" qual p body scope [] pm c' ctv)) (d:s.heap.CodeRec (.ref c') qual) (S:FnScope N ps scope) (i:Room (k+1) A) (e0:Env0 P w K m base A outer s H)
  (R:bindArgs (PySem.W.kla_fn "<lambda>" qual p body scope [] pm (.ref c') ctv) ⟨c,[]⟩=pure (ps.zip c)) (r:Vals vs c) (F:vs.length=ps.length)
  (h:Room k (A.deeper (envOfC qual scope s.heap.objs.size f (.ref c')))->∃t,PE (cxOf CX0 P w K m base N qual scope f (.ref c') A outer s H E).nox body t/\t (start N vs) H Q) :
  codeAny (model P w) A (.call (.ref f) ⟨c,[]⟩) (CR CX0 outer P w H s Q E) s:=by
 have l:s.heap.NoLimit:=e0.mod.nolimit.keeps λb o e=>(e0.bs b o e).1;have a:∀y∈ps.zip c,scope.names.lookup y.1=Za .local\/(scope.names.lookup y.1=some .cell/\((cellsFrom #v[7,11] scope.names []).lookup y.1).isSome=true):=λ⟨n,v⟩ D=>by
  rcases S.par n (Fb D).1 with q|q
  ·exact .inl q
  ·exact .inr ⟨q,Ga _ _ _ (.inl q)⟩
 refine PySem.W.kla_callFunE i.depth M rfl S.co S.gen rfl d ?_;rw[R];refine Am (wpAny_newFunctionEnv_cells S.kind a λenv B j x=>?_);subst B;refine⟨l.keeps x.toInCall.keep,PySem.W.kla_codeExpr ?_⟩;obtain⟨t,G,C⟩:=h (i.deeper _);have I:Inv (cxOf CX0 P w K m base N qual scope f (.ref c') A outer s H E) [] (start N vs) H j:=zlx S i.hd e0 F r x;refine Cw (G.nox [] j (start N vs) H Q I C) (λu L g=>?_) λe L g=>g;obtain⟨v,z,J,O,q⟩:=g;exact⟨v,z,J.os,J.bare,J.base,J.hok,O,q⟩
noncomputable def zhi (p:Arguments):Option Str:=match p.posonlyargs,p.args,p.vararg,p.kwonlyargs,p.kwarg,p.defaults,p.kw_defaults with
 |[],[a],Zb,[],Zb,[],[]=>Za a.arg
 |_,_,_,_,_,_,_=>Zb
theorem z12 {b:Arguments}{p:Str}(h:zhi b=Za p){qual:Str}{body:Zi}{scope:Scope}{pm ctv:Ze}{c':Zh}{u:Ze}:bindArgs (PySem.W.kla_fn "<lambda>" qual b body scope [] pm (.ref c') ctv) ⟨[u],[]⟩=pure ([p].zip [u]):=by
 nofun;obtain⟨l,r,v,s,m,n,o⟩:=b;ac_rfl;unfold zhi at h;split at h
 ·rename_i a c g k f j i q;simp only at c g k f j i q;subst c g k f j i q;obtain rfl:=sI h;have e:([(a.arg,u)]:List (Str×Ze)).lookup a.arg=Za u:=by simp [List.lookup]
  have d:seqItems? (Ze.none)=(pure Zb:Sem _):=rfl;unfold bindArgs;simp [e,d]
 ·exact noSome h
noncomputable def zoq (scope:Scope) (p:Str):Bool:=decide (scope.kind=.function) && !scope.isCoroutine && !scope.isGenerator&&decide (scope.names.lookup p=Za .local)&&(scope.names.all λq=>!(q.2==NameKind.free))
theorem zy1 {scope:Scope}{p:Str}(h:zoq scope p=Zd):FnScope [p] [p] scope:=by
 unfold zoq at h;simp only [Ab,Em,Br] at h;obtain⟨⟨⟨⟨b,a⟩,g⟩,e⟩,f⟩:=h;refine⟨b,a,g,by simp,rfl,λx c=>.inl (by rw[Az.mp c];exact e),λy d z=>?_⟩;have:=Aw.mp f y d;rw[z] at this;cases this
noncomputable def lamS (S:Sx) (scope:Scope) (p:Str):Sx:={ N:=[p],kd:=scope.names,bn:=S.bn,fs:=[],mp:=[],top:=Zd }
section
variable {X:Cx}{S:Sx}{d:Nat}
theorem z0z {fE:Sx->Zi->Option GE} (HE:zbs fE) {f c':Zh}{qual:Str}{a:Arguments}{body:Zi}{scope:Scope}{pm ctv:Ze}{p:Str}{te:GE} (A:zhi a=Za p) (hs:zoq scope p=Zd) (ht:fE (lamS S scope p) body=Za te) (D:∀x∈S.bn,X.mg x=Zb) (L:Room 1 X.A) :
  KCall X (.ref f) (lamΦ te) (λpins F=>(f,PySem.W.kla_obj "<lambda>" qual a body scope [] pm c' ctv)∈pins/\F c'=Za (.ext (zdw c' qual))) where
 mono:=λh A sm=>⟨A _ h.1,sm _ _ h.2⟩
 run:=λpins s σ H F pr en w k v u al I R P ru z=>by
  have O:=zy1 hs;nofun;obtain⟨⟨c,r⟩,e1,B⟩:=bS z;ac_rfl;split at B
  ·rename_i o
   obtain rfl:=sI B;have cr:s.heap.CodeRec (.ref c') qual:=by
    nofun;obtain⟨φ,_,_⟩:=(show zbp X.prog X.w H s.heap c' (.ext (zdw c' qual)) from I.hok c' _ (R.sub _ _ al.2));obtain⟨oc,vs,t,g1,T,V⟩:=φ;ac_rfl;exact⟨c',oc,vs,t,rfl,g1,T,V⟩
   have ho:=(I.pin _ (Ba _ al.1)).1;have bk:zau (za6 [(Sum.inl w:W ⊕ Nat)]) en (za8 [Zc] c)=en:=by
    unfold zau;apply Ds;intro i;rw[Go];cases en[i]? with
    |none=>rfl
    |some x=>rfl
   have U:spF X.K [Zc] (z6f te) [v] H (λg d=>∃b,Same F b/\Rel X.K b pr en σ d/\Rep X.K b r.1 g) E0:=by
    refine zxj (xs:=[.inl w]) (en':=en) (r:=r) R (.cons P .nil) ?_ λb d g M R' y=>?_
    ·show (if (Zd&&Zd&&_)=Zd then _ else Zb)=_
     rw[if_pos (by rfl)];show ((z6f te) [w]).bind _=_;rw[e1];show (if c.length=1 then Za (zau (za6 [(Sum.inl w:W ⊕ Nat)]) en (za8 [Zc] c),r) else Zb)=_;rw[if_pos o,bk]
    ·refine aG λGg qG => ?_
     obtain⟨l,G,J,K⟩:=y.freeze R';ac_rfl;exact⟨l,M.trans G,J,K⟩
   refine wpAny_call (codeAny_mono (z5m (N:=[p]) (ps:=[p]) (E:=E0) (Q:=λg d=>∃b,Same F b/\Rel X.K b pr en σ d/\Rep X.K b r.1 g) ho cr O L I.env0 ?bind (.cons ru .nil) rfl λn=>?body) λres M j=>?_)
   case bind =>
    exact z12 A
   case body =>
    have rd:=zuv (N:=[p]) U;have C:CxOk (cxOf CX0 X.prog X.w X.K X.mg X.base [p] qual scope f (.ref c') X.A X.stack s H E0).nox (lamS S scope p) 0:={
     N:=rfl
     nd:=by show [p].Nodup;simp
     loc:=λx e=>e
     cel:=λx e=>⟨e,rfl⟩
     vis:=λx e=>e
     gl:=λx e=>e
     calm:=rfl
     xe:=rfl
     bn:=D
     fs:=λx m Φ e=>by exact noSome e
     room:=n
     sl:=by have:=L.un;show X.A.units+3+16*0+205<cLine;omega
     bk:=by
      show (if scope.kind.isAnnotationScope then ScopeKind.function else scope.kind)=.function;rw[O.kind];rfl
     lam:=λh=>absurd (show ("" : Str)∈lams from h) #v[0,0,7]
     dpo:=Ch _ }
    exact⟨_,HE _ _ _ C _ _ ht,zpr rd⟩
   cases res with
   |error e=>exact j.elim
   | ok fl =>
    cases fl with
    | ret u' =>
     nofun;obtain⟨g,d,I',q,b,Z,R1,Y⟩:=I.after j;ac_rfl;exact⟨g,b,d,I',Z,R1,q,Y⟩
    |next=>exact False.elim j
    |brk=>exact False.elim j
    |cont=>exact False.elim j
  ·exact noSome B
variable {pins:List (Zh × Obj)}{σ:St}{H F:Hp}{s:Zf}{pr:Prt}{en:En}
theorem zyv (C:CxOk X S d) (hn:S.nm∈lams) {g:Arguments}{body:Zi}{scope:Scope}{pos:Pos}{p:Str} (hp:zhi g=Za p) (hs:zoq scope p=Zd) (I:Inv X pins σ H s) (R:Rel X.K F pr en σ H) {Q:Ze->Zf->Prop}{E:Ze->Zf->Prop}
  (h:∀f j pm G s' L F',Inv X pins σ L s'->Same F F'->Rel X.K F' pr en σ L->s'.heap.get? f=Za (PySem.W.kla_obj "<lambda>" (lamQ S.nm) g body scope [] pm j G)->L f=Zb->Apart X pins f->F' j=Za (.ext (zdw j (lamQ S.nm)))->Q (.ref f) s') :
  wpAny #v[2,7] X.A (eval (.Lambda g body scope pos) X.env) Q E s:=by
 refine aG λ_ qG=>?_;obtain ⟨c,P,ht,hc,ecd,eq⟩:=C.lam hn;obtain ⟨ps,t1,t2,t3,t4,t5⟩:=R.tb.2 S.nm hn c P ht;refine qG ?_;clear qG;have hcl:closureFor scope X.env=pure []:=zlc (by unfold zoq at hs;simp only [Ab] at hs;exact hs.2);have hg:=I.mod.glob.keeps I.bk;have CH:PySem.W.CodeHd s.heap c P:=PySem.W.codeHd_of_K I.kIn hc;have hP:s.heap.get? P=Za (PySem.W.tabObj ps):=I.hok P _ t1;have hgP:mainGlobals≠P:=λz=>by
  nofun;obtain⟨o,es,ep,K,T,_⟩:=hg;ac_rfl;rw[z,hP] at K;obtain rfl:=sI K;cases T
 refine aG λ_ qG=>?_;obtain ⟨bm,ob,b1,b2,b3,b4,b5,b6⟩:=I.mod.bmn;refine qG ?_;clear qG;have N:=I.bk _ _ b3;have hbG:bm≠mainGlobals:=λz=>by
  nofun;obtain⟨o,es,ep,K,T,_⟩:=hg;ac_rfl;rw[z,K] at N;obtain rfl:=sI N;rw[T] at b6;cases b6
 have hbP:bm≠P:=λz=>by
  rw[z,hP] at N;obtain rfl:=sI N;cases b4
 have hbm:s.heap.BuiltinsAt X.mg P:=⟨bm,ob,b1,b2,hbG,hbP,N,b4,b5,b6⟩;have hdef:defaultsOf g X.env=([],[]):=by
  nofun;obtain⟨po,ar,va,ko,kd,ka,df⟩:=g;ac_rfl;unfold zhi at hp;split at hp
  ·rename_i a q1 q2 q3 q4 q5 q6 q7
   simp only at q1 q2 q3 q4 q5 q6 q7;subst q1 q2 q3 q4 q5 q6 q7
   rfl
  ·cases hp
 have eq':X.env.qual++"<lambda>" = lamQ S.nm:=by rw[eq];rfl
 refine PySem.W.kla_eval hdef ?_;rw[eq'];cases hf:codeAmong pos ps.toList with
 | some Y =>
  obtain⟨j,rfl,hc'⟩:=t5 pos Y hf;refine PySem.W.kla_makeFunctionHit hcl I.ok.glob hg ecd CH hP t4 hf hbm λG h' tk k hz=>?_;have k2:∀b o,s.heap.get? b=Za o->(h'.push (PySem.W.kla_obj "<lambda>" (lamQ S.nm) g body scope [] ((X.mg "__name__").getD .none) j G)).get? b=Za o:=λb o e=>Ac _ (k b o e);exact h h'.objs.size j _ G _ H F (I.kept k2) (.refl F) R (Aq _ rfl) (I.hok.fresh hz) (I.fpOk (H':=H) hz (I.hok.fresh hz)).apart hc'
 | none =>
  refine PySem.W.kla_makeFunction hcl I.ok.glob hg ecd CH hP t4 hf hgP hbm λj G h' tk hx hge hlt hrec htb=>?_;have W:H j=Zb:=I.hok.fresh hge;have nP:j≠P:=λz=>by rw[z,t1] at W;cases W
  obtain⟨O,V⟩ : ∃O,O=ps++#[rawInt pos.line,rawInt pos.col,.ref j]:=⟨_,rfl⟩;rw[<-V] at htb;have B:s.heap.objs.size<=h'.objs.size:=Nat.le_of_lt (He hge hlt);have U:∀b,H b=Zb->b≠P:=λb e z=>by rw[z,t1] at e;cases e
  let fo:=PySem.W.kla_obj "<lambda>" (lamQ S.nm) g body scope [] ((X.mg "__name__").getD .none) j G
  have k2:∀b o,b≠P->s.heap.get? b=Za o->(h'.push fo).get? b=Za o:=λb o D e=>Ac _ (hx b o D e)
  let L:Hp:=upd (upd H P (.tbl O)) j (.ext (zdw j (lamQ S.nm)))
  have M:∀b,b≠P->b≠j->L b=H b:=λb h1 h2=>by show upd (upd H P _) j _ b=_;rw[upd_ne h2,upd_ne h1]
  have hHP:L P=Za (.tbl O):=by show upd (upd H P _) j _ P=_;rw[upd_ne nP.symm,upd_same]
  have hHc:L j=Za (.ext (zdw j (lamQ S.nm))):=upd_same;have nc:∀b o,s.heap.get? b=Za o->b≠j:=λb o e z=>by subst z;exact absurd (Ar e) (Nat.not_lt_of_le hge)
  have Z:∀b u,H b=Za u->b≠j:=λb u e z=>by rw[z,W] at e;cases e
  have J:∀b u,H b=Za u->(∀q,u≠.tbl q)->b≠P:=λb u e hu z=>by rw[z,t1] at e;obtain rfl:=sI e;exact hu _ rfl
  have I':Inv X pins σ L { s with heap:=h'.push fo,toks:=tk }:=by
   refine I.step (g':=s.gens) (d':=s.drawn) (ch:=[]) (λb D=>by cases D) (λb o _ _ _ e n=>k2 b o (U b n) e) (λb o _ _ _ e n=>⟨o.slots,k2 b o (U b n) e⟩) (λb u _ e n=>by rw [M b (U b n) (nc b u e)];exact n)
    (λb u _ e=>?_) (λb xs e=>by rw[M b (J b _ e λ_ z=>by cases z) (Z b _ e)];exact e) (λb u xs e=>by rw[M b (J b _ e λ_ z=>by cases z) (Z b _ e)];exact e) (λb qs e=>?_) (λm hm=>?_) (λb u e=>?_) I.bare
   ·by_cases D:b=P
    ·subst D;exact⟨_,Ac _ htb⟩
    ·exact⟨u,k2 b u D e⟩
   ·by_cases D:b=P
    ·subst D
     rw[t1] at e;cases e;exact⟨#[rawInt pos.line,rawInt pos.col,.ref j],by rw[hHP,V]⟩
    ·exact⟨#[],by rw[M b D (Z b _ e),e];simp⟩
   ·refine aG λGg qG => ?_
    obtain⟨o,es,ep,ho,r⟩:=hm;ac_rfl;exact⟨o,es,ep,k2 _ o (U _ I.free) ho,r⟩
   ·by_cases D:b=j
    ·subst D
     rw[hHc] at e;obtain rfl:=sI e;nofun;obtain⟨c2,oc,vs,t,e2,hoc,hd,hv⟩:=hrec;ac_rfl;cases e2;refine⟨⟨oc,vs,t,Ac _ hoc,hd,hv⟩,⟨oc,Ac _ hoc⟩,λh1 h2 ⟨oc,vs,t,K,T,g3⟩ kk=>⟨oc,vs,t,kk oc K,T,g3⟩⟩
    ·by_cases hb2:b=P
     ·subst hb2
      rw[hHP] at e;obtain rfl:=sI e;exact Ac _ htb
     ·rw [M b hb2 D] at e
      refine (I.hok b u e).stay (λc v hc q=>k2 c v ?_ q) (λc q=>by rw[M c (J c _ q λ_ z=>by cases z) (Z c _ q)];exact q) λc xs q=>by rw[M c (J c _ q λ_ z=>by cases z) (Z c _ q)];exact q
      rcases hc with z|z
      ·rw[z];exact hb2
      ·exact J c _ z λ_ y=>by cases y
  have fc:F j=Zb:=R.sub.free W;have sF:Same F (upd F j (.ext (zdw j (lamQ S.nm)))):=Same.new fc _;have R':Rel X.K (upd F j (.ext (zdw j (lamQ S.nm)))) pr en σ L:=by
   refine⟨R.len,λb u e=>?_,λi w e=>?_,λi w e=>?_,R.inj,λb o q=>?_,R.tb.1,λx hx' c0 P0 e0=>?_⟩
   ·by_cases D:b=j
    ·subst D;rw[upd_same] at e;rw[hHc];exact e
    ·rw [upd_ne D] at e
     have e':=R.sub _ _ e;rw[M b (λz=>by rw[z,t2] at e;cases e) D];exact e'
   ·obtain ⟨v,K,T⟩:=R.val i w e
    exact⟨v,K,T.mono sF⟩
   ·refine aG λGg qG => ?_
    obtain⟨a,o,w',K,T,g3,g4,g5⟩:=R.own i w e;ac_rfl;have na:a≠j:=Z a _ g3;exact⟨a,o,w',K,T,by rw[M a (J a _ g3 λ_ z=>by cases g5<;>cases z) na];exact g3,by rw[upd_ne na];exact g4,g5.mono sF⟩
   ·obtain ⟨K,T,g3⟩:=R.prt b o q
    have nb:b≠j:=Z b _ K;exact⟨by rw[M b (λz=>by subst z;exact t3 o q) nb];exact K,by rw[upd_ne nb];exact T,g3⟩
   ·refine aG λGg qG => ?_
    obtain⟨qs,u1,u2,u3,u4,u5⟩:=R.tb.2 x hx' c0 P0 e0;ac_rfl;by_cases hp0:P0=P
    ·subst hp0
     have ex:x=S.nm:=R.tb.1.1 x hx' S.nm hn c0 c P0 e0 ht;subst ex;rw[t1] at u1;cases u1;refine⟨O,hHP,by rw[upd_ne nP.symm];exact t2,t3,?_,λA Y e2=>?_⟩
     ·rw [V]
      have:=TriplesOk_snoc pos.line pos.col (.ref j) ps.toList t4;simpa using this
     ·rw [V] at e2
      have e3:codeAmong A (ps.toList++[rawInt pos.line,rawInt pos.col,.ref j])=Za Y:=by simpa using e2
      have gen:∀l:List Ze,TriplesOk l->codeAmong A (l++[rawInt pos.line,rawInt pos.col,.ref j])=Za Y->codeAmong A l=Za Y\/Y=.ref j:=λl hl=>by
       fun_induction TriplesOk l with
       | case1 =>
        intro z;show _\/_
        right
        simp only [List.nil_append,rawInt,codeAmong] at z;split at z
        ·exact (sI z).symm
        ·cases z
       | case2 a b c d e rest ih =>
        intro z;simp only [List.cons_append,codeAmong] at z ⊢;split at z
        ·rename_i q;rw[if_pos q];exact .inl z
        ·rename_i q;rw[if_neg q];exact ih hl z
       |case3=>exact hl.elim
      rcases gen ps.toList t4 e3 with z|z
      ·obtain ⟨c2,q1,q2⟩:=u5 A Y z
       exact⟨c2,q1,sF _ _ q2⟩
      ·exact⟨j,z,upd_same⟩
    ·have np0:P0≠j:=Z P0 _ u1
     refine⟨qs,by rw[M P0 hp0 np0];exact u1,by rw[upd_ne np0];exact u2,u3,u4,λA Y e2=>?_⟩;obtain⟨c2,q1,q2⟩:=u5 A Y e2;exact⟨c2,q1,sF _ _ q2⟩
  have nf:L h'.objs.size=Zb:=by
   rw[M _ (λz=>?_) (Nat.ne_of_gt hlt)]
   ·exact I.hok.fresh B
   ·have:=I.hok.fresh B
    rw[z,t1] at this;cases this
  exact h h'.objs.size j _ G _ L _ I' sF R' (Aq _ rfl) nf (I.fpOk (H':=H) B (I.hok.fresh B)).apart upd_same
theorem z2j (h:Room 2 X.A):Room 1 X.inn.A:=⟨h.hd,by have:=h.dp;show X.A.depth+3*1+5<_;omega,by have:=h.un;show X.A.units+1+1+16*1+200<_;omega,h.gd⟩
noncomputable def zg3 (sq:W->Option (List W)) (S2:List W->List W->Option (List W)) (te:GE) (a:GA):GE:=λen=>(a en).bind λp=>(resA p.1 p.2).bind λw=>(sq w).bind λb=>(mapO (lamΦ te) b).bind λk=>(S2 k b).bind λout=>Za (p.1,(.lst out,Zd))
theorem z9o:∀{w:W}{a:List W},seqL w=Za a->seqW w=Za a:=λ{w a} h=>by
 cases w<;>first|exact h|exact noSome h
theorem zro {sq:W->Option (List W)}{S2:List W->List W->Option (List W)} (hq:∀{w j},sq w=Za j->seqW w=Za j) (hS:∀{U j out},S2 U j=Za out->zqv U j out) {fE:Sx->Zi->Option GE} (HE:zbs fE) (C:CxOk X S d) {e:Zi}{a:GA} (ha:zbf fE S e=Za a) (B:zag e=Zd) {b:Arguments}{body:Zi}{scope:Scope}{o kpos px pos:Pos}{p:Str}{te:GE} (hn:S.nm∈lams) (h2:2<=S.dp) (Y:zhi b=Za p) (hs:zoq scope p=Zd) (ht:fE (lamS S scope p) body=Za te) (t:S.bl "sorted" = Zd) :
  PE X (.Call (.Name "sorted" px) [e] [⟨Za "key",.Lambda b body scope o,kpos⟩] pos) (tE X.K (zg3 sq S2 te a)):=by
 intro pins s σ H Q I h;nofun;nofun;obtain⟨F,pr,en,en',r,R,c,q⟩:=h;obtain⟨⟨e1,x⟩,h1,c⟩:=bS c;obtain⟨w,hw,c⟩:=bS c;obtain⟨j,L,c⟩:=bS c;obtain⟨U,K,c⟩:=bS c;obtain⟨out,ho,c⟩:=bS c;ac_rfl;ac_rfl;cases c;obtain⟨gl,mn⟩:=zgi C t;have hr:Room 2 X.A:=C.room.mono (Bj h2 C.dpo);have i:starEach [e] X.env=(Zc,eval e X.env)::starEach [] X.env:=by cases e<;>first|rfl|(cases B)
 refine Gf (zcs I gl mn (show bootBuiltins "sorted" = Za (.builtin "sorted") from PyProof.Rows.boot_sorted) ?_);refine PyProof.Rows.callWith_kw ?_ (by rw[i];rfl) (by rw[i];rfl);refine thn (zj3 (zak HE C ha) zdi i pos pins s σ H (λvs V=>∃v k,vs=[v]/\Same F k/\Rel X.K k pr e1 σ V/\ArgR X.K k σ x v) I ⟨F,pr,en,e1,x,R,h1,λk V v Z N T=>⟨v,k,rfl,Z,N,T⟩⟩) λus Z ⟨vs,V,I1,D,v,k,G,sm1,N,T⟩=>?_;subst G;cases D with
 | cons ru D =>
  cases D;refine PyProof.Rows.kws_cons (zyv C hn Y hs I1 N λf P J g s2 H2 F2 I2 sm2 R2 gf nf n gc=>PyProof.Rows.kws_nil ?_);have I3:Inv X ((f,PySem.W.kla_obj "<lambda>" (lamQ S.nm) b body scope [] J P g)::pins) σ H2 s2:=I2.pins_of λy m=>by
   rcases Ap.mp m with rfl|m
   ·exact⟨gf,nf,n.l,n.f,λv z=>by cases z⟩
   ·exact I2.pin y (Ba _ m)
  have rb:=(T.mono sm2).repB R2 hw;nofun;nofun;obtain⟨l,vvs,G,sq,M⟩:=rb.seqW R2.sub (hq L);ac_rfl;ac_rfl;subst G;cases (show _=Ze.ref l from ru);refine thn (zsv (E:=X.xe) (Q:=Q) (z0z (X:=X.inn) (S:=S) (f:=f) (c':=P) (qual:=lamQ S.nm) (pm:=J) (ctv:=g) HE Y hs ht C.bn (z2j hr)) I3 ⟨Av,gc⟩ R2 sq M K (hS ho) (by have:=hr.un;omega) λF' O v s' R' y=>q F' O v (sm1.trans (sm2.trans s')) R' y) λu s' ⟨v,O,I',A,q'⟩=>⟨v,O,I'.pins_of λy m=>I'.pin y (Ba _ (An _ m)),A,q'⟩
noncomputable def z4s (fE:Sx->Zi->Option GE) (S:Sx) (x:Str) (e:Zi) (key:Str) (b:Arguments) (body:Zi) (scope:Scope):Option GE :=
 if x==("sorted" : Str)&&key==("key" : Str)&&S.bl x&&zag e&&lams.contains S.nm&&decide (2<=S.dp) then (zhi b).bind λp=>if zoq scope p then (zbf fE S e).bind λa=>(fE (lamS S scope p) body).bind λt=>Za (if S.nm==("voted_terms" : Str) then zg3 seqW zee t a else zv5 t a) else Zb else Zb
theorem zy6 {fE:Sx->Zi->Option GE}(H:zbs fE)(C:CxOk X S d){x key:Str}{e:Zi}{b:Arguments}{body:Zi}{scope:Scope}{l kpos r pos:Pos}{g:GE}(h:z4s fE S x e key b body scope=Za g):PE X (.Call (.Name x r) [e] [⟨Za key,.Lambda b body scope l,kpos⟩] pos) (tE X.K g):=by
 unfold z4s at h;split at h
 ·rename_i z;simp only [Ab,Br,Cn] at z;nofun;obtain⟨⟨⟨⟨⟨o,t⟩,n⟩,i⟩,j⟩,c⟩:=z;ac_rfl;have s:=Bp o;have q:=Bp t;subst s q;obtain⟨p,k,h⟩:=bS h;split at h
  ·rename_i y;nofun;obtain⟨a,f,h⟩:=bS h;obtain⟨u,m,h⟩:=bS h;ac_rfl;obtain rfl:=sI h;split
   ·exact zro (sq:=seqW) (S2:=zee) id zu5 H C f i j c k y m n
   exact zro (sq:=seqL) (S2:=zzs) z9o zzp H C f i j c k y m n
  ·exact noSome h
 ·exact noSome h
end
section
variable {prog:Program}{w:World}{A:Around}{E:Ze->Zf->Prop}{s:Zf}
theorem zo5 {id:String}{b:Builtin}{args:List Ze}{k:List (Str×Ze)}{Q:Ze->Zf->Prop} (i:builtinKind id=Zb) (l:plainId id=Zd) (g:entryFor table id=Za b) (j:argsOk id ⟨args,k⟩)
  (h:wpAny (model prog w) A.in1 (b ⟨args,k⟩) (λfin a=>∃c,fin=.again c/\c.quiet=Zd/\codeAny (model prog w) A c (λr t=>∃v,r=.ok (.ret v)/\Q v t) a) E s):wpAny (model prog w) A (call (.builtin id) args k) Q E s:=by
 refine wpAny_call (codeAny_call_builtin l g ?_);have fin:=Cw h (Q':=λfin a=>match fin with
  |.done f=>(match (Except.ok f:Result) with|.ok (.ret v)=>Q v a|.ok _=>False|.error e=>E e a)
  | .again c=>c.quiet=Zd/\codeAny (model prog w) A c (λr t=>match r with | .ok (.ret v)=>Q v t | .ok _=>False | .error e=>E e t) a) (λf t z=>by
   obtain⟨c,rfl,q,z⟩:=z;exact⟨q,codeAny_mono z λr t y=>by obtain⟨v,rfl,y⟩:=y;exact y⟩) λ_ _ z=>z
 simp only [checkBuiltinCall,i];cases sg:Manifest.signature? id with
 |none=>exact Am fin
 | some d =>
  have e:Bind.checkArgs id d ⟨args,k⟩=pure ():=by simpa only [argsOk,sg] using j
  simp only [e];exact Am fin
theorem zub (a v:Ze):argsOk "max" ⟨[a],[("default",v)]⟩:=by unfold argsOk;kernel_rfl
noncomputable def mxF (f:Nat->Int):Nat->Nat->Int->Int
 |_,0,b=>b
 |j,k+1,b=>mxF f (j+1) k (if f j > b then f j else b)
variable {I:Zh}{fp wr:List Zh}{n:Nat}{P:Nat->Ze->Prop}{St:Nat->Heap->Prop}{R:Result->Zf->Prop}
theorem z67 (W:Walks prog w A.in1 I fp wr n P St) (f:Nat->Int) (hP:∀i v,P i v->∃t,v=.int (f i) t) (S:Zh) (O:S ∉ fp) (d:Ze) :
  ∀(k j:Nat) (s:Zf) (b:Int) (l:Tok) (m:Nat) (c:Nat),n=j+k->P m (.int b l)->St j s.heap->s.heap.get? S=Za { cls:=.type "list",dict:=Zb,data:=.seq #[.int b l,.int b l] c,slots:=#[] } ->
   (∀q G t,(∀a o,a ∉ wr->a≠S->s.heap.get? a=Za o->q.get? a=Za o)->R (.ok (.ret (.int (mxF f j k b) t))) { s with heap:=q,toks:=G })->codeAny (model prog w) A (.builtin "max.loop" ⟨[.ref I,.none,.ref S],[("default",d)]⟩) R s:=by
 have T:S ∉ wr:=λh=>O (W.sub _ h);have nm:(toString "max"++toString ".loop" : String) = "max.loop" := by decide
 have J:=CmpOf.ints_gt (prog:=prog) (w:=w) (A:=A.in1) (P:=P) f hP;intro k
 induction k with
 | zero =>
  intro j s b l m c U H N C D;refine Hj F.entry_max_loop ?_;rw[Around.under_plainId Fe _];show wpAny _ A.in1 (seqItems? (.ref S)>>=_) _ _ s;refine Aa (Dm C rfl ?_);show wpAny _ A.in1 (tryCatch (pyNext (.ref I)) _>>=_) _ _ s;have L:St n s.heap:=by rw[U];exact N
  refine Aa (Hn (W.done s _ _ L λq G x=>?_));show wpAny _ A.in1 (updateSeq S (λ_=>#[])>>=_) _ _ _;refine Aa (wpAny_updateSeq (x S _ T C) rfl (Aa (Gh (Am ?_))));exact D _ G l λa o r y e=>(Do _ _ (Ne.symm y)).trans (x a o r e)
 | succ k Q =>
  intro j s b l m c U H N C D;refine Hj F.entry_max_loop ?_;rw[Around.under_plainId Fe _];show wpAny _ A.in1 (seqItems? (.ref S)>>=_) _ _ s;refine Aa (Dm C rfl ?_);show wpAny _ A.in1 (tryCatch (pyNext (.ref I)) _>>=_) _ _ s;refine Aa (Hn (W.item j s _ _ #v[] N λv Y G K B x=>?_));obtain⟨E,rfl⟩:=hP j v K;have p:=x S _ T C;show wpAny _ A.in1 (tryCatch (holding [.int (f j) E,.int (f j) E] (richCompare .Gt (.int (f j) E) (.int b l)>>=_)) _>>=_) _ _ _;refine Aa (Hn (Dk (Aa (J j m _ _ _ _ _ K H ?_))));have V:f m=b:=by obtain⟨_,e⟩:=hP m _ H;cases e;rfl
  refine Aa (Dk (Ft ?_));refine Aa (Gh (Am ?_));show wpAny _ A.in1 (if decide (f j > f m)=Zd then _ else _) _ _ _;rw[V];by_cases g:f j > b
  ·rw [Ah g]
   simp only [Fq];refine Aa (wpAny_updateSeq p rfl (Aa (Gh ?_)));rw[nm];refine Am ⟨plainId_quiet Fe _,Q (j+1) _ (f j) E j _ #v[] K (W.frame _ _ _ B λa X o e=>(Do _ _ (λz:S=a=>O (z ▸ X))).trans e) (Gy _ p rfl) λq u t M=>?_⟩;have:=D q u t λa o r y e=>M a o r y ((Do _ _ (Ne.symm y)).trans (x a o r e));rw[mxF,if_pos g] at this;exact this
  ·rw [Ao g]
   simp only [Dq,Gm];refine Aa (Gh ?_);rw[nm];refine Am ⟨plainId_quiet Fe _,Q (j+1) _ b l m c #v[] H B p λq u t M=>?_⟩;have:=D q u t λa o r y e=>M a o r y (x a o r e);rw[mxF,if_neg g] at this;exact this
noncomputable def maxD (f:Nat->Int) (n:Nat) (d:Int):Int:=match n with
 |0=>d
 |n+1=>mxF f 1 n (f 0)
theorem z0v (W:Walks prog w A.in1 I fp wr n P St) (f:Nat->Int) (hP:∀i v,P i v->∃t,v=.int (f i) t) (S:Zh) (m:S ∉ fp) (d:Int) (x:Tok) {c:Nat} (st:St 0 s.heap) (C:s.heap.get? S=Za { cls:=.type "list",dict:=Zb,data:=.seq #[] c,slots:=#[] })
  (u:∀b l t,(∀a o,a ∉ wr->a≠S->s.heap.get? a=Za o->b.get? a=Za o)->R (.ok (.ret (.int (maxD f n d) t))) { s with heap:=b,toks:=l }):codeAny (model prog w) A (.builtin "max.loop" ⟨[.ref I,.none,.ref S],[("default",.int d x)]⟩) R s:=by
 have D:S ∉ wr:=λh=>m (W.sub _ h);have nm:(toString "max"++toString ".loop" : String) = "max.loop" := by decide
 refine Hj F.entry_max_loop ?_;rw[Around.under_plainId Fe _];show wpAny _ A.in1 (seqItems? (.ref S)>>=_) _ _ s;refine Aa (Dm C rfl ?_);show wpAny _ A.in1 (tryCatch (pyNext (.ref I)) _>>=_) _ _ s;cases n with
 | zero =>
  refine Aa (Hn (W.done s _ _ st λb l k=>?_));show wpAny _ A.in1 (rule _>>=_) _ _ _;refine Aa (Dh (Am ?_));exact u b l x λa o j _ e=>k a o j e
 | succ n =>
  refine Aa (Hn (W.item 0 s _ _ (Nat.succ_pos n) st λv H l B q k=>?_));obtain⟨p,rfl⟩:=hP 0 v B;have g:=k S _ D C;show wpAny _ A.in1 (updateSeq S (λ_=>#[.int (f 0) p,.int (f 0) p])>>=_) _ _ _;refine Aa (wpAny_updateSeq g rfl ?_);rw[nm];refine Am ⟨plainId_quiet Fe _,z67 W f hP S m _ n 1 _ (f 0) p 0 _ (Nat.add_comm n 1) B (W.frame _ _ _ q λa G o e=>(Do _ _ (λz:S=a=>m (z ▸ G))).trans e) (Gy _ g rfl) λb r t E=>?_⟩;exact u b r t λa o j y e=>E a o j y ((Do _ _ (Ne.symm y)).trans (k a o j e))
theorem zmr {x:Ze}{d:Int}{g:Tok}{Q:Ze->Zf->Prop}
  (h:wpAny (model prog w) A.in1 (pyIter x) (λp c=>∃I fp wr n P St f,p=.ref I/\Walks prog w A.in1 I fp wr n P St/\St 0 c.heap/\(∀b∈fp,b<c.heap.objs.size)/\(∀i v,P i v->∃t,v=.int (f i) t) /\
   ∀j l t,(∀a o,a ∉ wr->c.heap.get? a=Za o->j.get? a=Za o)->Q (.int (maxD f n d) t) { c with heap:=j,toks:=l }) E s) :
  wpAny (model prog w) A (call (.builtin "max") [x] [("default",.int d g)]) Q E s:=by
 have nm:(toString "max"++toString ".loop" : String) = "max.loop" := by decide
 refine zo5 F.kind_max F.plain_max F.entry_max (zub _ _) ?_;show wpAny _ A.in1 (Builtin.Builtins.bindParams "max" ["key","default"] 0 ⟨[],[("default",.int d g)]⟩>>=_) _ _ s;refine Aa (wpAny_of_eq (show Builtin.Builtins.bindParams "max" ["key","default"] 0 ⟨[],[("default",.int d g)]⟩=pure [Zb,Za (.int d g)] from rfl) ?_);refine Aa (Am ?_);refine Aa (Cw h (λp c z=>?_) λ_ _ e=>e);nofun;obtain⟨I,fp,wr,n,P,St,f,rfl,W,y,u,hP,hQ⟩:=z;ac_rfl;refine Aa (Dn ?_);have r:c.heap.objs.size ∉ fp:=λm=>Bx _ (u _ m);rw[nm];refine Am ⟨_,rfl,plainId_quiet Fe _,z0v W f hP c.heap.objs.size r d g (W.frame _ _ _ y λa _ o e=>Ac _ e) (Aq _ rfl) λj l t k=>⟨_,rfl,?_⟩⟩;exact hQ j l t λa o q e=>k a o q (Bg (Ar e)) (Ac _ e)
end
noncomputable def mxL (n:List Int) (d:Int):Int:=maxD (λi=>n.getD i 0) n.length d
noncomputable def zzr (a:GA) (g:GE):GE:=λen=>(a en).bind λp=>(g p.1).bind λq=>(resA q.1 p.2).bind λw=>(seqW w).bind λb=>(zdt b).bind λn=>match q.2.1 with
 |.int d=>Za (q.1,(.int (mxL n d),Zc))
 |_=>Zb
section
variable {X:Cx}{S:Sx}{d:Nat}
theorem zw3 {σ:St}{H:Hp}{s:Zf}{pins:List (Zh×Obj)}{f:List Int}{k:Int}{tk:Tok}{a:Zh}{Q:Ze->Zf->Prop} (w:X.calm=Zd) (I:Inv X pins σ H s) (h:SqL X.K H a (f.map V.int)\/SqT X.K H a (f.map V.int))
  (q:∀d tk t,(∀b o,s.heap.get? b=Za o->d.get? b=Za o)->Q (.int (mxL f k) t) { s with heap:=d,toks:=tk }):wpAny #v[2,7] X.A (call (.builtin "max") [.ref a] [("default",.int k tk)]) Q X.xe s:=by
 have go:∀{c:List Ze},Vals (f.map V.int) c->c.toArray.size=f.length/\∀(i:Nat) (v:Ze),c.toArray[i]?=Za v->∃t,v=.int (f.getD i 0) t:=λ{c} r=>by
  have x:=r.length;rw[Ad] at x;exact⟨by rw[Ak,x],λi v e=>zjv r (by simpa using e)⟩
 have B:∀{l:Obj}{d:Heap},(∀b o,b ∉ [s.heap.objs.size]->(s.heap.push l).get? b=Za o->d.get? b=Za o)->∀b o,s.heap.get? b=Za o->d.get? b=Za o:=λj b o e =>
  j b o (λz=>by rw[Az] at z;subst z;exact absurd (Ar e) (Bx _)) (Ac _ e)
 have y:∀{l:Obj},a<s.heap.objs.size->∀b∈[s.heap.objs.size,a],b<(s.heap.push l).objs.size:=λg b D=>by
  rw[Df];simp only [Ap,Cb,Gk] at D;rcases D with rfl|rfl
  ·exact Fs _
  ·exact Ei g
 rcases h with h|h
 ·refine aG λG qG => ?_;obtain⟨c,r,p,_⟩:=I.list h;obtain⟨u,m⟩:=go r;ac_rfl;have g:a<s.heap.objs.size:=by obtain⟨o,e,_⟩:=p.isList;exact Ar e
  refine zmr (Dw p.isList ?_);refine⟨s.heap.objs.size,_,[s.heap.objs.size],c.toArray.size,_,_,λi=>f.getD i 0,rfl,Walks.list (A:=X.A.in1) (show X.A.in1.handled=Zb from I.ok.hd w) _ a (Bg g) c.toArray,⟨⟨_,Aq _ rfl,rfl,rfl⟩,p.isList.push _⟩,y g,m,λd tk t j=>?_⟩;rw[u];exact q d tk t (B j)
 ·refine aG λG qG => ?_;obtain⟨c,r,⟨o,C,E,n,F⟩,_⟩:=I.tuple h;obtain⟨u,m⟩:=go r;ac_rfl;have p:s.heap.IsTuple a c.toArray:=⟨o,C,E,n,F⟩;have g:a<s.heap.objs.size:=Ar C;refine zmr (Ge p ?_);refine⟨s.heap.objs.size,_,[s.heap.objs.size],c.toArray.size,_,_,λi=>f.getD i 0,rfl,Walks.tuple (A:=X.A.in1) (show X.A.in1.handled=Zb from I.ok.hd w) _ a (Bg g) c.toArray,⟨⟨_,Aq _ rfl,rfl,rfl⟩,p.push _⟩,y g,m,λd tk t j=>?_⟩;rw[u];exact q d tk t (B j)
theorem z5z {fE:Sx->Zi->Option GE} (T:zbs fE) (C:CxOk X S d) {e U:Zi}{a:GA}{g:GE}{kpos px pos:Pos} (ha:zbf fE S e=Za a) (A:zag e=Zd) (hd:fE S U=Za g) (z:S.bl "max" = Zd) :
  PE X (.Call (.Name "max" px) [e] [⟨Za "default",U,kpos⟩] pos) (tE X.K (zzr a g)):=by
 intro pins s σ H Q I h;nofun;nofun;obtain⟨F,pr,en,p,r,R,b,q⟩:=h;obtain⟨⟨K,x⟩,h1,b⟩:=bS b;obtain⟨⟨D,wd,fd⟩,h2,b⟩:=bS b;obtain⟨w,hw,b⟩:=bS b;obtain⟨ws,E,b⟩:=bS b;obtain⟨ns,Z,b⟩:=bS b;ac_rfl;ac_rfl;cases wd with
 | int k =>
  have b:Za (D,(W.int (mxL ns k),Zc))=Za (p,r):=b;obtain rfl:=(Prod.mk.inj (sI b)).1;obtain rfl:=(Prod.mk.inj (sI b)).2;obtain⟨gl,mn⟩:=zgi C z;have f:starEach [e] X.env=(Zc,eval e X.env)::starEach [] X.env:=zaf A;refine Gf (zcs I gl mn z2z ?_);refine PyProof.Rows.callWith_kw ?_ (by rw[f];rfl) (by rw[f];rfl);refine thn (zj3 (zak T C ha) zdi f pos pins s σ H (λN n=>∃v c,N=[v]/\Same F c/\Rel X.K c pr K σ n/\ArgR X.K c σ x v) I ⟨F,pr,en,K,x,R,h1,λc n v u J B=>⟨v,c,rfl,u,J,B⟩⟩) λus u ⟨N,n,I1,G,v,c,M,sm1,J,B⟩=>?_;subst M;cases G with
  | cons ru G =>
   cases G;refine PyProof.Rows.kws_cons (thn (T X S d C _ _ hd pins u σ n (λo m=>∃i,o=.int k/\Same c i/\Rel X.K i pr D σ m) I1 ⟨c,pr,K,D,(.int k,fd),J,h2,λi m o P R2 y=>⟨i,y.isInt,P,R2⟩⟩) λY P ⟨o,m,V,rd,i,L,sm2,R2⟩=>PyProof.Rows.kws_nil ?_);subst L;obtain⟨td,rfl⟩:=(show ∃t,Y=Ze.int k t from rd);have rb:=(B.mono sm2).repB R2 hw;nofun;obtain⟨l,vvs,M,O,j⟩:=rb.seqW R2.sub E;ac_rfl;subst M;cases (show _=Ze.ref l from ru);rw[zcu Z] at j;rw[j.ints] at O;exact zw3 C.calm V O λh' tk t hk=>⟨.int _,m,V.kept hk,⟨_,rfl⟩,q i m _ (sm1.trans sm2) R2 (.int _)⟩
 |_=>exact noSome b
noncomputable def maxE (fE:Sx->Zi->Option GE) (S:Sx) (x:Str) (e:Zi) (key:Str) (b:Zi):Option GE :=
 if x==("max" : Str)&&key==("default" : Str)&&S.bl x&&zag e then (zbf fE S e).bind λa=>(fE S b).bind λg=>Za (zzr a g) else Zb
theorem z6v {fE:Sx->Zi->Option GE}(H:zbs fE)(C:CxOk X S d){x key:Str}{e b:Zi}{kpos p pos:Pos}{g:GE}(h:maxE fE S x e key b=Za g):PE X (.Call (.Name x p) [e] [⟨Za key,b,kpos⟩] pos) (tE X.K g):=by
 unfold maxE at h;split at h
 ·rename_i z;simp only [Ab] at z;obtain⟨⟨⟨c,l⟩,f⟩,m⟩:=z;have k:=Bp c;have i:=Bp l;subst k i;obtain⟨a,j,h⟩:=bS h;obtain⟨o,n,h⟩:=bS h;obtain rfl:=sI h;exact z5z H C j m n f
 ·exact noSome h
end
noncomputable def rgV (n:Nat):List V:=(List.range n).map λi=>V.int (i:Nat)
noncomputable def tLR (t:TA):TE:=λσ H Q=>t σ H λv a=>∃j:Int,v=[.int j]/\-(2^62)<=j/\j<=2^24/\∀p,a p=Zb->Q (.ref p) (upd a p (.lst (rgV j.toNat)))
noncomputable def lrOk (j:Int):Bool:=zdk j&&decide (j<=16777216)
noncomputable def zgw (as:GAs):GE:=λen=>(as en).bind λp=>match zas p.1 p.2 with
 |some [.int j]=>if lrOk j then Za (p.1,(.lst (rngW 0 j.toNat),Zd)) else Zb
 |_=>Zb
theorem z2h {as:GAs}{en e1:En}{xs:List (W ⊕ Nat)}{j:Int}(h:as en=Za (e1,xs))(r:zas e1 xs=Za [.int j])(q:lrOk j=Zd):zgw as en=Za (e1,(.lst (rngW 0 j.toNat),Zd)):=by
 unfold zgw;rw[h];show (match zas e1 xs with
  |some [.int j]=>if lrOk j then Za (e1,(W.lst (rngW 0 j.toNat),Zd)) else Zb
  |_=>Zb)=_
 rw[r];show (if lrOk j then Za (e1,(W.lst (rngW 0 j.toNat),Zd)) else Zb)=_;rw[q];rfl
section
variable {X:Cx}
theorem z5p {n:Nat}{a:Array Ze} (h:ItemsOf (λi v=>∃t,v=Ze.int (0+(i:Int)*1) t) a n):Vals (rgV n) a.toList:=by
 obtain⟨c,b⟩:=h;have d:a.toList.length=n:=by rw[Ca];exact c
 have go:∀(l:List Ze) (k:Nat),(∀(j:Nat) (v:Ze),l[j]?=Za v->∃t,v=Ze.int ((k+j:Nat):Int) t)->Vals ((List.range' k l.length).map λi=>V.int (i:Nat)) l:=by
  intro l
  induction l with
  |nil=>exact λ_ _=>.nil
  | cons v l f =>
   intro k h;rw[Ay,List.range'_succ,Ax];refine .cons ?_ (f (k+1) λj u e=>?_)
   ·obtain ⟨t,e⟩:=h 0 v rfl
    exact⟨t,e⟩
   ·obtain ⟨t,e⟩:=h (j+1) u e
    exact⟨t,by rw[e];congr 1;omega⟩
 have:=go a.toList 0 λj v e=>by
  obtain⟨t,q⟩:=b j v (by rw[<-Ee];exact e);exact⟨t,by rw[q];congr 1;omega⟩
 rw[d] at this;unfold rgV;rw[List.range_eq_range'];exact this
theorem ycy {a:Zi}{i:TA}{p L pos pos':Pos} (A:X.calm=Zd) (C:Gl X "list") (B:X.mg "list" = Zb) (u:Gl X "range") (k:X.mg "range" = Zb) (m:PA X [a] i) (J:starEach [a] X.env=[(Zc,eval a X.env)]):PE X (.Call (.Name "list" p) [.Call (.Name "range" L) [a] [] pos'] [] pos) (tLR i):=by
 intro pins s σ H Q I h;refine Call_ (zcs I C B znk (Bw (Calls.spliced_cons ?_) rfl rfl));refine Call_ (zcs I u k boot_range (Bw (thn (m pos' pins s σ H _ I h) λR d ⟨P,M,x,F,y⟩=>?_) J rfl));nofun;obtain⟨j,e,l,N,q⟩:=y;ac_rfl;subst e;cases F with
 | cons r K =>
  cases K;obtain⟨t,rfl⟩:=r;refine call_range_1 ?_;refine Calls.spliced_nil ?_;have f:Inv X pins σ M { d with heap:=d.heap.push { cls:=.type "range",data:=.fields #[.int 0 d.toks,.int j t,.int 1 (d.toks+1)] },toks:=d.toks+1+1 }:=x.kept λb o e=>Ac _ e;refine call_list_range (n:=j.toNat) (f.ok.hd A) (IsRange.new ..) (small_one #v[] #v[] l #v[]) (by rw[rangeSize_one];split<;>omega) #v[] λO E g c D w z=>?_;have G:=z5p z;exact⟨.ref _,_,f.laid (t':=E) (o:=.lst (rgV j.toNat)) D (Ag _) ⟨by unfold rgV;rw[Ad,Bi,Hd];omega,g.toList,c,G,by rw[Array.toArray_toList];exact w⟩,rfl,q _ (f.hok.fresh (Ag _))⟩
theorem zzw {K:Zg}{F:Hp}(n:Nat):Reps K F (rngW 0 n) (rgV n):=by
 have go:∀l:List Nat,Reps K F (l.map λi=>W.int ((i:Nat):Int)) (l.map λi=>V.int (i:Nat)):=by
  intro l
  induction l with
  |nil=>exact .nil
  |cons a l b=>exact .cons (.int _) b
 have e:rngW 0 n=(List.range n).map λi=>W.int ((i:Nat):Int):=by
  unfold rngW;exact List.map_congr_left λi _=>by rw[Hb]
 rw[e];exact go _
theorem z45 {K:Zg}{as:GAs}{σ:St}{H:Hp}{Q:VK} (h:tE K (zgw as) σ H Q):tLR (tAs K as) σ H Q:=by
 obtain⟨F,pr,en,c,r,Re,h,q⟩:=h;obtain⟨⟨b,x⟩,d,h⟩:=bS h;refine⟨F,pr,en,b,x,Re,d,λn o A s R f=>?_⟩;cases e:zas b x with
 |none=>simp only [e] at h;exact noSome h
 | some u =>
  have a:=f.repBs R e
  match u,e,a with
  | [w],e,a =>
   cases w with
   | int j =>
    simp only [e] at h;split at h
    ·rename_i z
     unfold lrOk at z;rw[Ab] at z;obtain rfl:=(Prod.mk.inj (sI h)).1;obtain rfl:=(Prod.mk.inj (sI h)).2;obtain⟨v,i,k⟩:=a.one;subst i;refine⟨j,by rw[k.int],(zc3 z.1).1,by have:=Ai z.2;omega,λp g=>?_⟩;obtain⟨l,t,m,y⟩:=(Out.lst (K:=K) (F:=n) (H:=o) (p:=p) g (zzw j.toNat)).close R;exact q l _ _ (s.trans t) m y
    ·exact noSome h
   |_=>simp only [e] at h;exact noSome h
  |[],e,_=>simp only [e] at h;exact noSome h
  |_::_::_,e,_=>simp only [e] at h;exact noSome h
end
noncomputable def z38 (f:Sx->Zi->Option GE) (S:Sx) (x:Str) (args:List Zi):Option GE:=match args with
 |[.Call (.Name y _) [a] [] _]=>if x==("list" : Str)&&y==("range" : Str)&&S.bl x&&S.bl y&&zag a then (asL (zbf f S) [a]).bind λb=>Za (zgw b) else z16 f S x args
 |_=>z16 f S x args
theorem z1x {X:Cx}{S:Sx}{d:Nat}{f:Sx->Zi->Option GE}(H:zbs f)(C:CxOk X S d){x:Str}{args:List Zi}{g:GE}{p pos:Pos}(h:z38 f S x args=Za g):PE X (.Call (.Name x p) args [] pos) (tE X.K g):=by
 unfold z38 at h;split at h
 ·rename_i y w a v;split at h
  ·rename_i z;simp only [Ab] at z;obtain⟨⟨⟨⟨b,s⟩,m⟩,k⟩,l⟩:=z;have r:=Bp b;have n:=Bp s;subst r n;obtain⟨u,has,h⟩:=bS h;obtain rfl:=sI h;obtain⟨j,_⟩:=zfv (λe a i=>zak H C i) has;obtain⟨o,t⟩:=zgi C m;obtain⟨c,q⟩:=zgi C k;exact (ycy C.calm o t c q j (zaf l)).wk λ_ _ _=>z45
  ·exact zrk H C h
 ·exact zrk H C h
section
variable {X:Cx}{S:Sx}{d:Nat}
end
section
variable {K:Zg}{σ:St}{H:Hp}
theorem Reps.eraseIdx {K:Zg}{F:Hp}:∀{x:List W}{u:List V} (i:Nat),Reps K F x u->Reps K F (x.eraseIdx i) (u.eraseIdx i)
 |_,_,_,.nil=>.nil
 |_,_,0,.cons _ r=>r
 |_,_,i+1,.cons q r=>.cons q (Reps.eraseIdx i r)
noncomputable def zsw (i:Nat) (g:GE):GE:=λen=>match en[i]? with
 | some (Za (.lst _,Zd))=>(g en).bind λp=>(intW p.2.1).bind λk=>match p.1[i]? with
  |some (#v[a,2])=>if 0<=k/\a.length<sizeLine then (a[k.toNat]?).bind λw=>Za (p.1.set i (#v[(a.eraseIdx k.toNat),2]),(w,Zc)) else Zb
  |_=>Zb
 |_=>Zb
theorem zz6 {i:Nat}{g:GE}{Q:VK}(h:tE K (zsw i g) σ H Q):tBM K "list" z2x (tVar i) (zds (tE K g) tNil) σ H Q:=by
 nofun;obtain⟨F,pr,en,C,r,R,h,q⟩:=h;ac_rfl;unfold zsw at h;split at h
 ·rename_i w0 m;nofun;obtain⟨a,I,P,W,f,L,X,q5⟩:=R.ownL m;obtain⟨⟨V,l,A⟩,D,u⟩:=bS h;obtain⟨k,n,b⟩:=bS u;ac_rfl;clear u h;refine⟨.ref a,f,.inl ⟨rfl,I,SqL.of' L⟩,F,pr,en,V,(l,A),R,D,λS H1 v1 E t B=>?_⟩;split at b
  ·rename_i s c;have G:l=.int k:=by
    cases l with
    |int j=>obtain rfl:=sI n;rfl
    |_=>exact noSome n
   subst G;have M:=B.isInt;subst M;by_cases e:0<=k/\s.length<sizeLine
   ·rw[if_pos e] at b;obtain⟨w,o,b⟩:=bS b;cases b;nofun;obtain⟨Z,d,N,J,y,T,p4,p⟩:=t.ownL c;ac_rfl;cases J;rw[f] at y;cases y;obtain⟨v,O,U⟩:=p.get o;have Y:k.toNat<s.length:=(Af.mp o).1;refine⟨a,d,k,k.toNat,v,rfl,rfl,T,Int.le_trans #v[0,9] e.1,?_,?_,O,?_⟩
    ·have x:sizeLine=16777216:=Hd;omega
    ·have z:ixN d.length k=Za k.toNat:=by
      unfold ixN;rw[if_pos e.1,if_pos (by rw[<-p.length];omega)]
     exact (znr z).1
    ·exact q S _ _ E (t.change c f (p.eraseIdx _)) U
   ·rw[if_neg e] at b;exact noSome b
  ·exact noSome b
 ·exact noSome h
theorem ydz {i:Nat}{g:GE}{en e1:En}{u ws:List W}{k:Nat}{f:Bool}{w:W}(a:en[i]?=Za (#v[u,2]))(b:g en=Za (e1,(.int k,f)))(h:e1[i]?=Za (#v[ws,2]))(d:ws[k]?=Za w)(c:ws.length<sizeLine):zsw i g en=Za (e1.set i (#v[(ws.eraseIdx k),2]),(w,Zc)):=by
 unfold zsw;rw[a];simp only [b,Dp,intW,h];rw[if_pos ⟨Ew k,c⟩,Dj,d]
 rfl
end
noncomputable def zsi (x:Zi->Option GE) (X:Cx):Prop:=∀e g,x e=Za g->PE X e (tE X.K g)
section
variable {X:Cx}{S:Sx}{d:Nat}{fE:Sx->Zi->Option GE}
noncomputable def zv2 (fE:Sx->Zi->Option GE) (S:Sx):Zi->Option GE
 |.Call (.Attribute (.Name x _) name apos) [e] [] cpos=>if name==("pop" : Str)&&(apos.endLine==cpos.line)&&zag e then (S.rd x).bind λi=>(fE S e).bind λg=>Za (zsw i g) else Zb
 |_=>Zb
theorem zxr (H:zbs fE)(C:CxOk X S d):zsi (zv2 fE S) X:=λe g h=>by
 unfold zv2 at h;split at h
 ·split at h
  ·rename_i z;rw[Ab,Ab] at z;obtain⟨⟨b,j⟩,y⟩:=z;have f:=Bp b;subst f;obtain⟨i,c,h⟩:=bS h;obtain⟨k,a,h⟩:=bS h;obtain rfl:=sI h;exact (z8y PySem.F.plainAttrs_list PySem.F.slot_list_pop PySem.F.type_list_pop z05 (zno C c) (pac (H X S d C _ _ a) zdi y) (znj rfl) (zph y) j (zaf y) rfl).wk λ_ _ _=>zz6
  ·exact noSome h
 ·exact noSome h
end
section
variable {K:Zg}{F H:Hp}
end
section
variable {X:Cx}{pins:List (Zh × Obj)}{σ:St}{H:Hp}{s:Zf}{a:Zh}
end
section
variable {K:Zg}{F H:Hp}{pr:Prt}{en:En}{σ:St}
end
section
variable {X:Cx}
end
section
variable {X:Cx}
end
section
variable {X:Cx}{S:Sx}{d:Nat}{fE:Sx->Zi->Option GE}
end
section
variable {X:Cx}{S:Sx}{d:Nat}{fE:Sx->Zi->Option GE}
end
section
variable {X:Cx}{pins:List (Zh × Obj)}{σ:St}{H:Hp}{s:Zf}{a:Zh}{y:V}{u:Ze}{A:Around}{E:Ze->Zf->Prop}{Q:Ze->Zf->Prop}
end
section
variable {K:Zg}{F H:Hp}{pr:Prt}{en:En}{σ:St}
end
section
variable {X:Cx}{S:Sx}{d:Nat}{f:Sx->Zi->Option GE}
end
section
variable {X:Cx}{S:Sx}{d:Nat}{f:Sx->Zi->Option GE}
end
section
variable {prog:Program}{w:World}{A:Around}{E:Ze->Zf->Prop}{s:Zf}
variable {K:Type} [DecidableEq K]
variable {I:Zh}{fp wr:List Zh}{n:Nat}{P:Nat->Ze->Prop}{St:Nat->Heap->Prop}{R:Result->Zf->Prop}
end
section
variable {prog:Program}{w:World}{A:Around}{E:Ze->Zf->Prop}{s:Zf}
end
section
variable {X:Cx}{pins:List (Zh × Obj)}{σ:St}{H:Hp}{s:Zf}{A:Around}{E:Ze->Zf->Prop}
end
section
variable {K:Zg}{F H:Hp}
end
section
variable {X:Cx}{S:Sx}{d:Nat}{fE:Sx->Zi->Option GE}
end
section
variable {X:Cx}{pins:List (Zh × Obj)}{σ:St}{H:Hp}
end
section
variable {X:Cx}
variable {S:Sx}{d:Nat}{fE:Sx->Zi->Option GE}
end
section
variable {prog:Program}{w:World}{A:Around}{E:Ze->Zf->Prop}{s:Zf}{it d v:Zh}{o:Obj}{es:Array DictEntry}{i ep:Nat}
end
section
variable {X:Cx}{tg:Zi}
end
section
variable {X:Cx}{S:Sx}{d:Nat}{f:Sx->Zi->Option GE}
end
section
variable {prog:Program}{w:World}{A:Around}{E:Ze->Zf->Prop}{s:Zf}
end
section
variable {X:Cx}{pins:List (Zh × Obj)}{σ:St}{H:Hp}{s:Zf}{A:Around}{E:Ze->Zf->Prop}
end
section
variable {X:Cx}{S:Sx}{d:Nat}{fE:Sx->Zi->Option GE}
end
section
variable {X:Cx}
end
section
variable {K:Zg}{F H:Hp}{pr pb:Prt}{en:En}{σ:St}
end
section
variable {K:Zg}{mp:List Nat}{pb:Prt}{acc:Zh}
end
section
variable {X:Cx}{S:Sx}{d:Nat}{f:Sx->Zi->Option GE}
end
section
variable {prog:Program}{w:World}{A:Around}{E:Ze->Zf->Prop}{s:Zf}
end
section
variable {K:Zg}{F:Hp}
end
section
variable {X:Cx}{tg:Zi}
end
section
variable {K:Zg}{σ:St}{H:Hp}
end
section
variable {X:Cx}{S:Sx}{d:Nat}{f:Sx->Zi->Option GE}
end
section
variable {K:Zg}
end
section
variable {K:Zg}{σ:St}{H:Hp}
end
section
open PySem.AutoSeq1 (wpAny_loadPart')
end
section
variable {X:Cx}{S:Sx}{d:Nat}{fE:Sx->Zi->Option GE}
end
set_option maxHeartbeats 1000000
section
variable {prog:Program}{w:World}{A:Around}{E:Ze->Zf->Prop}{s:Zf}
end
section
variable {prog:Program}{w:World}{A:Around}{E:Ze->Zf->Prop}{s:Zf}
end
section
variable {X:Cx}{S:Sx}{d:Nat}{fE:Sx->Zi->Option GE}
end
section
variable {X:Cx}{S:Sx}{d:Nat}{fE:Sx->Zi->Option GE}
end
namespace SetT
noncomputable abbrev HT:=Array Int×SetTable
end SetT
section
variable {prog:Program}{w:World}{A:Around}{E:Ze->Zf->Prop}{s:Zf}
end
section
variable {prog:Program}{w:World}{A:Around}{R:Result->Zf->Prop}{I:Zh}{fp wr:List Zh}{G:Array GenState->Array GenState->Prop}{n:Nat}{P:Nat->Ze->Prop}{St:Nat->Zf->Prop}
end
section
variable {prog:Program}{w:World}{A:Around}{E:Ze->Zf->Prop}{s:Zf}
end
end L2
namespace L2
open PySem PySem.Spec PyProof.Rows
section
variable {prog:Program}{w:World}{A:Around}{E:Ze->Zf->Prop}{s:Zf}{it d:Zh}{es:Array (Int × Ze)}{ep slot i:Nat}{t:SetTable}
end
section
variable {prog:Program}{w:World}{A:Around}{E:Ze->Zf->Prop}{s:Zf}
end
section
variable {X:Cx}{pins:List (Zh × Obj)}{σ:St}{H:Hp}
end
section
variable {X:Cx}{pins:List (Zh × Obj)}{σ:St}{H:Hp}
end
section
variable {X:Cx}{S:Sx}{d:Nat}{fE:Sx->Zi->Option GE}
end
noncomputable def isT:DKey->Bool
 |.inr _=>Zd
 |.inl _=>Zc
noncomputable def gLsT (i:Nat):GE:=λen=>match en[i]? with
 |some (Za (.dct (k::a) _,Zd))=>if isT k then Za (en,(.lst ((k::a).map dkW),Zd)) else Zb
 |_=>Zb
noncomputable def kOn (S:Sx):Zi->Bool
 |.Name x _=>S.bn.contains (("k " : Str)++x)
 |_=>Zc
theorem zm9 (k:Int):∀{v:List Ze}{a:List Int},IntsAre v a->v.countP (isInt k)=a.count k
 |_,_,.nil=>rfl
 | _,_,.cons n u h=>by
  rw[List.countP_cons,List.count_cons,zm9 k h]
  rfl
noncomputable def ybn:V->List V->Hp->VK->Prop:=λx v H Q=>∃(l:Zh) (n:List Int) (k:Int),x=.ref l/\v=[.int k]/\H l=Za (.tup (n.map V.int))/\Q (.int (n.count k:Nat)) H
theorem z35 {X:Cx}:MtR X "tuple.count" ybn:=by
 intro pins s σ H x C v D Q I e A h;obtain⟨l,B,k,rfl,rfl,w,q⟩:=h;cases e;obtain⟨u,rfl,m⟩:=A.one;obtain⟨t,rfl⟩:=m;obtain⟨z,i,r,⟨o,d,⟨c,n,a⟩,_⟩⟩:=(show zbp X.prog X.w H s.heap l (.tup (B.map V.int)) from I.hok l _ w);have b:=zrt r;obtain⟨cls,p,f,g⟩:=o;simp only at c a;subst c a;refine Ho PySem.F.slot_tuple_count ⟨_,d,rfl⟩ PySem.F.entry_tuple_count (PySem.F.args_tuple_count_2 _ _)
  (PySem.SeqAt.tuple_countAt l i.toArray n p g (.int k t) (isInt k)) ⟨d,λy j=>(eq_isInt k t b y (by simpa using j)).at _ _,?_⟩
 rw[show i.toArray.toList=i from rfl,zm9 k b];exact⟨.int _,H,I.tok _,⟨_,rfl⟩,q⟩
noncomputable def zit (i:Nat) (g:GE):GE:=λen=>match en[i]? with
 | some (Za (.tup w,Zc))=>(g en).bind λp=>match p.2.1,p.1[i]?,zdt w with
  |.int k,Za (#v[_,3]),Za n=>Za (p.1,(.int (n.count k:Nat),Zc))
  |_,_,_=>Zb
 |_=>Zb
noncomputable def tBT (r:V->List V->Hp->VK->Prop) (c:TE) (t:TA):TE:=λσ H Q=>c σ H λx b=>(∃p a,x=.ref p/\b p=Za (.tup a))/\t σ b λa d=>r x a d Q
theorem yah {X:Cx}{o e:Zi}{q:TE}{t:TA}{name:Str}{apos cpos:Pos}{id:String}{r:V->List V->Hp->VK->Prop} (slot:Slot "tuple" name id) (j:typeOf (.builtin id)=pure (.type "method_descriptor")) (w:MtR X id r) (M:PE X o q) (R:PA X [e] t)
  (c:attributeBase o name X.env (eval o X.env)=eval o X.env)
  (g:((backTo cpos (starEach [e] X.env)).all (λx=>!x.1)&&(backToKw cpos (keywordEach [] X.env)).all (λx=>x.1.isSome)
   && decide (([e]:List Zi).length+([]:List Keyword).length+(if ([]:List Keyword).isEmpty then 0 else 1)<30))=Zd)
  (d:(apos.endLine==cpos.line)=Zd) (N:starEach [e] X.env=(Zc,eval e X.env)::starEach [] X.env) (b:(backTo cpos (starEach [] X.env)).any (·.1)=Zc) :
  PE X (.Call (.Attribute o name apos) [e] [] cpos) (tBT r q t):=by
 intro pins s σ H Q I h;refine wpAny_Call_method_late c g d rfl (thn (M pins s σ H _ I h) λv m ⟨x,u,l,K,A,z⟩=>?_);obtain⟨p,S,rfl,F⟩:=A;cases K;obtain⟨_,D,_,k,f,B,i⟩:=(show zbp X.prog X.w u m.heap p (.tup S) from l.hok p _ F);refine⟨"tuple",id,PySem.F.plainAttrs_tuple,slot,j,⟨k,f,B.1⟩,λa y=>by cases y;exact⟨k,f,i⟩,?_⟩;have n:=R cpos pins m σ u _ l z;rw[N] at n ⊢;refine Calls.callWith_builtin (by show (Zc||(backTo cpos (starEach [] X.env)).any (·.1))=Zc;rw[b]<;>rfl) (Calls.evalArgs_plain ?_);exact thn n λL G ⟨E,O,P,J,C⟩=>w pins G σ O (.ref p) E _ L Q P rfl J C
theorem zyg {K:Zg}{σ:St}{H:Hp}{i:Nat}{g:GE}{Q:VK}(h:tE K (zit i g) σ H Q):tBT ybn (tVar i) (zds (tE K g) tNil) σ H Q:=by
 nofun;obtain⟨F,pr,en,m,E,R,h,q⟩:=h;ac_rfl;unfold zit at h;split at h
 ·rename_i C c;nofun;obtain⟨B,b⟩:=R.has c;obtain⟨a,v,rfl,A,hF,p⟩:=(R.repB c b).tup R.sub;obtain⟨⟨u,w,l⟩,n,h⟩:=bS h;ac_rfl;refine⟨.ref a,b,⟨a,v,rfl,A⟩,F,pr,en,u,(w,l),R,n,λt z G s d y=>?_⟩;split at h
  ·rename_i k D x e f r;simp only at e;subst e;cases h;have o:=y.isInt;subst o;rw[zcu r] at p;have j:=p.ints;subst j;exact⟨a,x,k,rfl,rfl,d.sub _ _ (s _ _ hF),q t z _ s d (.int _)⟩
  ·exact noSome h
 ·exact noSome h
section
variable {fE:Sx->Zi->Option GE}{X:Cx}{S:Sx}{d:Nat}
noncomputable def cOn (S:Sx):Zi->Bool
 |.Name x _=>S.bn.contains (("c " : Str)++x)
 |_=>Zc
noncomputable def yd8 (fE:Sx->Zi->Option GE) (S:Sx):Zi->Option GE
 |.Call (.Name x _) [.Name y p] [] _=>if kOn S (.Name y p)&&S.bl x&&x==("list" : Str) then (S.rd y).bind λi=>Za (gLsT i) else Zb
 |_=>Zb
noncomputable def znm (fE:Sx->Zi->Option GE) (S:Sx):Zi->Option GE
 |.Call (.Attribute (.Name y p) name apos) [e] [] cpos=>if cOn S (.Name y p)&&name==("count" : Str)&&zag e&&apos.endLine==cpos.line then (S.rd y).bind λi=>(fE S e).bind λg=>Za (zit i g) else Zb
 |_=>Zb
theorem zr6 (H:zbs fE)(C:CxOk X S d):zsi (znm fE S) X:=λe g h=>by
 unfold znm at h;split at h
 ·split at h
  ·rename_i z;simp only [Ab] at z;obtain⟨⟨⟨l,j⟩,a⟩,k⟩:=z;have f:=Bp j;subst f;obtain⟨i,b,h⟩:=bS h;obtain⟨m,c,h⟩:=bS h;obtain rfl:=sI h;exact (yah PySem.F.slot_tuple_count PySem.F.type_tuple_count z35 (zno C b) (zj3 (H X S d C _ _ c) zdi (zaf a)) (znj rfl) (zph a) k (zaf a) rfl).wk λ_ _ _=>zyg
  ·exact noSome h
 ·exact noSome h
end
section
open PySem.AutoSeq1 (wpAny_loadPart')
end
section
variable {X:Cx}{S:Sx}{d:Nat}{fE:Sx->Zi->Option GE}
end
section
open PySem.AutoSeq1 (wpAny_loadPart')
variable {prog:Program}{w:World}{A:Around}{E:Ze->Zf->Prop}{s:Zf}
end
section
variable {X:Cx}{S:Sx}{d:Nat}{fE:Sx->Zi->Option GE}
end
section
variable {prog:Program}{w:World}{A:Around}{E:Ze->Zf->Prop}{s:Zf}
open HT in
end
section
variable {X:Cx}{S:Sx}{d:Nat}{fE:Sx->Zi->Option GE}
noncomputable def orX (a b:Option GE):Option GE:=match a with
 |some g=>Za g
 |none=>b
theorem z2l {x y:Zi->Option GE}(c:zsi x X)(b:zsi y X):zsi (λe=>orX (x e) (y e)) X:=λe g h=>by
 have h:orX (x e) (y e)=Za g:=h;unfold orX at h;split at h
 ·rename_i a q;obtain rfl:=sI h;exact c e a q
 ·exact b e g h
noncomputable def extE (fE:Sx->Zi->Option GE) (S:Sx) (e:Zi):Option GE:=orX (znm fE S e) (zv2 fE S e)
theorem z6w (H:zbs fE)(C:CxOk X S d):zsi (extE fE S) X:=z2l (zr6 H C) (zxr H C)
end
noncomputable def ncOf (scope:Scope):List Str:=(scope.names.filter λp=>p.2==.free||p.2==.local||p.2==.cell).map (·.1)
noncomputable def capC (S:Sx) (scope:Scope):Cap:=(ncOf scope).map λx=>if scope.names.lookup x==Za .free then S.N.findIdx? (· == x) else Zb
noncomputable def inS (S:Sx) (scope:Scope):Sx:={ N:=ncOf scope,kd:=scope.names,bn:=S.bn,fs:=S.fs,mp:=capKeep (capC S scope),top:=Zc }
noncomputable def ziv (S:Sx) (scope:Scope):Bool:=decide (scope.kind=.function)&&zho (capC S scope) (ncOf scope) S.N scope&&(scope.names.all λp=>!(p.2==.free)||S.kd.lookup p.1==Za .cell||S.kd.lookup p.1==Za .free) &&
 zfw scope && (scope.names.all λp=>!(p.2 == NameKind.local) || decide (scope.names.lookup p.1=some .local))&&decide (ncOf scope).Nodup
noncomputable def zrg (fT:Sx->Zi->Option GT) (S:Sx):List Zi->Option GT
 |[]=>Za gYes
 |[c]=>fT S c
 |_=>Zb
noncomputable def zxf (fE:Sx->Zi->Option GE) (fT:Sx->Zi->Option GT) (S:Sx) (elt:Zi) (gens:List Comprehension) (scope:Scope):Option GE:=match gens with
 |[c]=>if ziv S scope&&decide (c.is_async=0) then (zof fE S c.target c.iter).bind λg=>(tgE (inS S scope) c.target).bind λT=>(zrg fT (inS S scope) c.ifs).bind λt=>(fE (inS S scope) elt).bind λd=>Za (za7 (capC S scope) T g t d) else Zb
 |[c,a]=>if ziv S scope&&decide (c.is_async=0/\a.is_async=0) then (zof fE S c.target c.iter).bind λg=>(tgE (inS S scope) c.target).bind λT=>(zrg fT (inS S scope) c.ifs).bind λt=>(zof fE (inS S scope) a.target a.iter).bind λe=>(tgE (inS S scope) a.target).bind λf=>(zrg fT (inS S scope) a.ifs).bind λb=>(fE (inS S scope) elt).bind λd=>Za (ztz (capC S scope) T g t f e b d) else Zb
 |_=>Zb
structure ScOk (X:Cx) (S:Sx) (scope:Scope):Prop where
 kind:scope.kind=.function
 cap:zho (capC S scope) (ncOf scope) X.N scope=Zd
 fr:zhf scope X.env.scope=Zd
 nc:zfw scope=Zd
 nm:(scope.names.all λp=>!(p.2 == NameKind.local) || decide (scope.names.lookup p.1=some .local))=Zd
 nd:(ncOf scope).Nodup
section
variable {X:Cx}{S:Sx}{d:Nat}
theorem zpv (C:CxOk X S d){scope:Scope}(h:ziv S scope=Zd):ScOk X S scope:=by
 unfold ziv at h;simp only [Ab] at h;obtain⟨⟨⟨⟨⟨b,a⟩,g⟩,e⟩,f⟩,c⟩:=h;refine⟨Ai b,by rw[C.N];exact a,?_,e,f,Ai c⟩;unfold zhf;refine Aw.mpr λp i=>?_;have q:=Aw.mp g p i;simp only [Cd,Em,Fu,beq_iff_eq,Br] at q ⊢;rcases q with (q|q)|q
 ·exact .inl (.inl q)
 ·rcases C.vis p.1 (.inl q) with z|z
  ·exact .inl (.inr z)
  ·exact .inr z
 ·rcases C.vis p.1 (.inr q) with z|z
  ·exact .inl (.inr z)
  ·exact .inr z
theorem zhs (C:CxOk X S d){scope:Scope}(h:ScOk X S scope)(c:List (Str×Zh))(L:Zh)(s:Zf)(H:Hp)(fp:List Zh):CxOk (zbb X (ncOf scope) scope c L s H fp) (inS S scope) d where
 N:=rfl
 nd:=h.nd
 loc:=λx e=>zbd (env:=X.env) #v[0,9] e
 cel:=λx e=>⟨zbd (env:=X.env) #v[0,9] e,Ah e⟩
 vis:=λx e=>by
  rcases e with e|e
  ·exact .inl (zbd (env:=X.env) #v[0,9] e)
  ·exact za5 (env:=X.env) e
 gl:=λx e=>zbd (env:=X.env) #v[0,9] e
 calm:=C.calm
 xe:=rfl
 bn:=C.bn
 fs:=C.fs
 room:=C.room
 sl:=C.sl
 lam:=λh=>absurd (show ("" : Str)∈lams from h) #v[0,0,7]
 dpo:=Ch _
 bk:=by
  show (if scope.kind.isAnnotationScope then ScopeKind.function else scope.kind)=.function;rw[h.kind];rfl
end
theorem z2a {K:Zg}{σ:St}{H:Hp}{Q:Bool->Hp->Prop}(h:tT K gYes σ H Q):z2o σ H Q:=by
 obtain⟨F,pr,en,e,b,R,h,q⟩:=h;cases h;exact q F H (.refl F) R
structure CompP (X:Cx) (S:Sx) (elt:Zi) (gens:List Comprehension) (scope:Scope) (g:GE):Prop where
 ex:∃tg iter ifs gs gi T tc,∃(em:Pos->Ze->Env->Sem Unit) (tm:Zh->TM),gens=⟨tg,iter,ifs,0⟩::gs/\(∀pos it acc env,compTurn #v[2,10] 0 it acc env=zmw #v[2,10] 0 tg iter ifs (em pos acc env) it acc env)/\ScOk X S scope/\PI X tg iter (tI X.K gi)/\(∀x,foldedSetIterable iter X.env x=pure x) /\
  (∀cl C s3 H3 fp,PG #v[5,14] tg (TGof X.K T))/\(∀cl C s3 H3 fp,PTs #v[5,14] ifs (tT X.K tc))/\(∀pos cl C s3 H3 fp acc,PM #v[5,14] (em pos (.ref acc) #v[5,14].env) (tm acc)) /\
  ∀σ H Q,tE X.K g σ H Q->zx9 (tI X.K gi) (capC S scope) (TGof X.K T) (tT X.K tc) tm σ H Q
section
variable {X:Cx}{S:Sx}{d:Nat}{fE:Sx->Zi->Option GE}{fT:Sx->Zi->Option GT}
theorem PTs.wk {ifs:List Zi}{t t':TT}(h:PTs X ifs t)(i:∀σ H Q,t' σ H Q->t σ H Q):PTs X ifs t':=λpins s σ H Q I q=>h pins s σ H Q I (i σ H Q q)
theorem zkd (HT:zkx fT)(C:CxOk X S d):∀{ifs:List Zi}{t:GT},zrg fT S ifs=Za t->PTs X ifs (tT X.K t)
 |[],_,h=>by obtain rfl:=sI h;exact z5u.wk λ_ _ _=>z2a
 |[_],_,h=>z7p (HT _ _ d C _ _ h)
 |_::_::_,_,h=>noSome h
theorem zgj (j:zbs fE)(HT:zkx fT)(C:CxOk X S d){elt:Zi}{gens:List Comprehension}{scope:Scope}{g:GE}(h:zxf fE fT S elt gens scope=Za g):CompP X S elt gens scope g:=by
 unfold zxf at h;split at h
 ·rename_i c;obtain⟨tg,iter,ifs,o⟩:=c;split at h
  ·rename_i z;rw[Ab] at z;have B:o=0:=Ai z.2;subst B;obtain⟨A,m,h⟩:=bS h;obtain⟨T,hT,h⟩:=bS h;obtain⟨x,i,h⟩:=bS h;obtain⟨t,f,h⟩:=bS h;obtain rfl:=sI h;have b:=zpv C z.1;obtain⟨p,r⟩:=zem j C m;exact⟨tg,iter,ifs,[],A,T,x,λ_=>z08 elt,λe=>zr9 e (tE X.K t),rfl,λ_ _ _ _=>rfl,b,p,r,λa L s H fp=>zpm (zhs C b a L s H fp) hT,λa L s H fp=>zkd HT (zhs C b a L s H fp) i,λ_ a L s H fp e=>z3w (j _ _ d (zhs C b a L s H fp) _ _ f),λ_ _ _=>zuy⟩
  ·exact noSome h
 ·rename_i c E;obtain⟨tg,iter,ifs,o⟩:=c;obtain⟨tg2,iter2,ifs2,n⟩:=E;split at h
  ·rename_i z;rw [Ab] at z;obtain ⟨B,w⟩:o=0/\n=0:=Ai z.2;subst B w;obtain ⟨A,m,h⟩:=bS h;obtain ⟨T,hT,h⟩:=bS h;obtain ⟨x,i,h⟩:=bS h;obtain ⟨q,l,h⟩:=bS h;obtain ⟨D,u,h⟩:=bS h;obtain ⟨y,k,h⟩:=bS h;obtain ⟨t,f,h⟩:=bS h;obtain rfl:=sI h;have b:=zpv C z.1;obtain ⟨p,r⟩:=zem j C m;exact ⟨tg,iter,ifs,[⟨tg2,iter2,ifs2,0⟩],A,T,x,λpos=>zu9 #v[3,7] iter2,λe=>tTwo (tI X.K q) (TGof X.K D) (tT X.K y) (zr9 e (tE X.K t)),rfl,λ_ _ _ _=>z0u,b,p,r,λa L s H fp=>zpm (zhs C b a L s H fp) hT,λa L s H fp=>zkd HT (zhs C b a L s H fp) i,
   λpos a L s H fp e=>ya9 (λ_ _ z=>z) C.calm (zem j (zhs C b a L s H fp) l).1 (zpm (zhs C b a L s H fp) u) (zkd HT (zhs C b a L s H fp) k) (j _ _ d (zhs C b a L s H fp) _ _ f) (zem j (zhs C b a L s H fp) l).2,λ_ _ _=>zih λG e F=>ycq (z9h F)⟩
  ·exact noSome h
 ·exact noSome h
theorem zun (C:CxOk X S d){elt:Zi}{gens:List Comprehension}{scope:Scope}{g:GE}{pos:Pos}(h:CompP X S elt gens scope g):PE X #v[2,10] (tE X.K g):=by
 nofun;obtain⟨m,iter,ifs,i,k,T,t,j,l,f,e,s,p,c,b,pt,a,rd⟩:=h.ex;ac_rfl;subst f;exact (z57 p b pt (a pos) (e pos) C.calm s.kind s.cap s.fr s.nc s.nm c).wk rd
noncomputable def z6c (fE:Sx->Zi->Option GE) (S:Sx):Option Zi->Option GO
 |none=>Za zco
 |some e=>(fE S e).bind λg=>Za (zg6 g)
noncomputable def z1w (fE:Sx->Zi->Option GE) (fT:Sx->Zi->Option GT) (S:Sx) (e:Zi):Option GE:=match e with
 |.Name x _=>(S.rd x).bind λi=>Za (gVar i)
 | .Constant c _ _=>(match c with
  |.int i=>Za (gC (.int i))
  |.bool b=>Za (gC (.bl b))
  |.none=>Za (gC .non)
  |.str x=>Za (gC (.str x))
  |_=>Zb)
 |.BinOp a d b _=>(zbf fE S a).bind λx=>(zbf fE S b).bind λy=>(binO d).bind λo=>Za (gOp2 o x y)
 | .UnaryOp d a _=>(match d with
  |.USub=>(zbf fE S a).bind λx=>Za (gOp1 oNeg x)
  |_=>Zb)
 | .BoolOp d n _=>(match n with
  |v::n=>z37 (fE S) d v n
  |[]=>Zb)
 |.Compare a ops u _=>cmpE fE S a ops u
 | .Subscript a s _=>(match s with
  | .Slice t q z _=>(match z with
   |none=>(zbf fE S a).bind λx=>(z6c fE S t).bind λl=>(z6c fE S q).bind λh=>Za (gSl x l h)
   |some _=>Zb)
  |s=>if zd9 s then (zbf fE S a).bind λx=>(zbf fE S s).bind λy=>Za (gOp2 oIx x y) else Zb)
 |.List f _=>(asL (λe=>(fE S e).bind λg=>Za (gArg g)) f).bind λj=>Za (zaq j)
 |.Tuple f _ _=>(asL (λe=>(fE S e).bind λg=>Za (gArg g)) f).bind λj=>Za (zbr j)
 | .Call k args kws pos=>(match kws with
  | []=>(match k with
   |.Name x _=>z38 fE S x args
   |.Attribute o m r=>z4j fE S o m r args pos
   |_=>Zb)
  | [⟨Za key,.Lambda p body scope _,_⟩]=>(match k,args with
   |.Name x _,[e]=>z4s fE S x e key p body scope
   |_,_=>Zb)
  | [⟨Za key,w,_⟩]=>(match k,args with
   |.Name x _,[e]=>maxE fE S x e key w
   |_,_=>Zb)
  |_=>Zb)
 |.ListComp elt gens scope _=>zxf fE fT S elt gens scope
 |_=>Zb
noncomputable def z30 (fE:Sx->Zi->Option GE) (fT:Sx->Zi->Option GT) (S:Sx) (e:Zi):Option GT:=match e with
 | .BoolOp o b _=>(match b with
  |v::b=>z6h (fT S) o v b
  |[]=>Zb)
 |.Compare a ops c _=>(cmpE fE S a ops c).bind λg=>Za (zaj g)
 | .UnaryOp o a p=>(match o with
  |.Not=>(fT S a).bind λg=>Za (zpc g)
  |o=>if zq3 (.UnaryOp o a p) then (fE S (.UnaryOp o a p)).bind λg=>Za (zaj g) else Zb)
 |e=>if zq3 e then (fE S e).bind λg=>Za (zaj g) else Zb
theorem zqn (a:zbs fE) (C:CxOk X S d) {o:Option Zi}{g:GO} (h:z6c fE S o=Za g):PO X o (tO X.K g):=by
 cases o with
 |none=>obtain rfl:=sI h;exact λpins s σ H Q I q=>z5b pins s σ H Q I (zow q)
 | some e =>
  obtain⟨c,b,h⟩:=bS h;obtain rfl:=sI h;exact λpins s σ H Q I q=>z4a (a X S d C _ _ b) pins s σ H Q I (zud q)
theorem zyu (H:zbs fE) (HT:zkx fT):zbs (z1w fE fT):=λX S d C e g h=>by
 have A:∀e a,((fE S e).bind λg=>Za (gArg g))=Za a->PE X e (tA X.K a):=λe a h=>by
  obtain⟨R,B,h⟩:=bS h;obtain rfl:=sI h;exact (H X S d C _ _ B).wk λ_ _ _=>zf2
 cases e with
 | Name x p =>
  obtain⟨i,t,h⟩:=bS (show (S.rd x).bind _=_ from h);obtain rfl:=sI h;exact (zno C t).wk λ_ _ _=>zzh
 | Constant c k p =>
  cases c with
  |int i=>obtain rfl:=sI h;exact yat.wk λ_ _ _=>zd1 λ_=>.int i
  |bool b=>obtain rfl:=sI h;exact ycl.wk λ_ _ _=>zd1 λ_=>.bl b
  |none=>obtain rfl:=sI h;exact ybi.wk λ_ _ _=>zd1 λ_=>.non
  |str x=>obtain rfl:=sI h;exact yb7.wk λ_ _ _=>zd1 λ_=>.str x
  |_=>exact noSome h
 | BinOp a j b p =>
  obtain⟨x,f,h⟩:=bS (show (zbf fE S a).bind _=_ from h);obtain⟨y,q,h⟩:=bS h;obtain⟨o,M,h⟩:=bS h;obtain rfl:=sI h;obtain⟨r,E,J⟩:=z5y (X:=X) M;exact (ydu E (zak H C f) (zak H C q)).wk λ_ _ _=>zf9 J
 | UnaryOp j a p =>
  cases j with
  | USub =>
   obtain⟨x,f,h⟩:=bS (show (zbf fE S a).bind _=_ from h);obtain rfl:=sI h;exact (ycu yci (zak H C f)).wk λ_ _ _=>zzg z70
  |_=>exact noSome h
 | BoolOp j w p =>
  cases w with
  |nil=>exact noSome h
  |cons v w=>exact zpx (λe g=>H X S d C e g) h
 |Compare a ops Q p=>exact (ztg H C h).1
 | Subscript a s p =>
  have D:∀s,(if zd9 s then (zbf fE S a).bind λx=>(zbf fE S s).bind λy=>Za (gOp2 oIx x y) else Zb)=Za g->PE X (.Subscript a s p) (tE X.K g):=λs h=>by
   split at h
   ·rename_i z
    obtain⟨x,f,h⟩:=bS h;obtain⟨y,q,h⟩:=bS h;obtain rfl:=sI h;exact (ydo (z7u.or z8q) (zak H C f) (zak H C q) (zsl z)).wk λ_ _ _=>zf9 yaw
   ·exact noSome h
  cases s with
  | Slice P t N K =>
   cases N with
   |some _=>exact noSome h
   | none =>
    obtain⟨x,f,h⟩:=bS (show (zbf fE S a).bind _=_ from h);obtain⟨l,I,h⟩:=bS h;obtain⟨u,L,h⟩:=bS h;obtain rfl:=sI h;exact (zyo ((z75.or yae).or z5w) (zak H C f) (zqn H C I) (zqn H C L)).wk λ_ _ _=>z4r
  |_=>exact D _ h
 | List n p =>
  obtain⟨F,has,h⟩:=bS (show (asL _ n).bind _=_ from h);obtain rfl:=sI h;exact (z9i (zfv A has).1).wk λ_ _ _=>z2i
 | Tuple n k p =>
  obtain⟨F,has,h⟩:=bS (show (asL _ n).bind _=_ from h);obtain rfl:=sI h;exact (z83 (zfv A has).1).wk λ_ _ _=>zy0
 | Call G args kws p =>
  simp only [z1w] at h;split at h
  ·cases G with
   |Name x K=>exact z1x H C h
   |Attribute o m O=>exact z10 H C h
   |_=>exact noSome h
  ·split at h
   ·exact zy6 H C h
   ·exact noSome h
  ·split at h
   ·exact z6v H C h
   ·exact noSome h
  ·exact noSome h
 |ListComp elt gens scope p=>exact zun C (zgj H HT C h)
 |_=>exact noSome h
theorem z1l (H:zbs fE) (HT:zkx fT):zkx (z30 fE fT):=λX S d C e g h=>by
 have b:∀e,(if zq3 e then (fE S e).bind λg=>Za (zaj g) else Zb)=Za g->PT X e (tT X.K g):=λe h=>by
  split at h
  ·rename_i z
   obtain⟨x,c,h⟩:=bS h;obtain rfl:=sI h;exact (yas (H X S d C _ _ c) (zsq z)).wk λ_ _ _=>zmj λ_ _ _ q=>q
  ·exact noSome h
 cases e with
 | BoolOp o f p =>
  cases f with
  |nil=>exact noSome h
  |cons v f=>exact (zir (λe g=>HT X S d C e g) h).pt
 | Compare a ops i p =>
  obtain⟨x,c,h⟩:=bS (show (cmpE fE S a ops i).bind _=_ from h);obtain rfl:=sI h;exact (ztg H C c).2
 | UnaryOp o a p =>
  cases o with
  | Not =>
   obtain⟨x,c,h⟩:=bS (show (fT S a).bind _=_ from h);obtain rfl:=sI h;exact (yb0 (HT X S d C _ _ c)).wk λ_ _ _=>zvy
  |_=>exact b _ h
 |_=>exact b _ h
end
mutual
noncomputable def zh3:W->Bool
 |.non=>Zd
 |.bl _=>Zd
 |.int _=>Zd
 |.str _=>Zd
 |.tup x=>zic x
 |_=>Zc
noncomputable def zic:List W->Bool
 |[]=>Zd
 |w::a=>zh3 w&&zic a
end
noncomputable def z6n:W->Bool
 |.lst w=>zic w
 |_=>Zc
noncomputable def borX (x y:Option (W×Bool)):Option (W×Bool):=match x with
 | some (_,Zd)=>(match y with
  |#v[w,5]=>if z6n w then #v[w,5] else Zb
  |_=>Zb)
 |x=>x
noncomputable def gBor (i:Nat) (g:GE):GE:=λen=>match en[i]? with
 |some (#v[w,2])=>(g (en.set i (#v[w,1]))).bind λp=>if p.1.length=en.length/\zh3 p.2.1=Zd/\p.2.2=Zc then Za ((List.zipWith borX en p.1).set i (#v[w,2]),p.2) else Zb
 |_=>g en
section
variable {K:Zg}
mutual
theorem zqc {F a:Hp}(hF:∀b w,zh3 w=Zd->Rep K a w (.ref b)->F b=a b):∀{w:W}{v:V},Rep K a w v->zh3 w=Zd->Rep K F w v
 |_,_,.non,_=>.non
 |_,_,.bl b,_=>.bl b
 |_,_,.int i,_=>.int i
 |_,_,.str x,_=>.str x
 |_,_,.tup h r,p=>.tup ((hF _ _ p (.tup h r)).trans h) (zgk hF r p)
 |_,_,.lst _ _,p=>nomatch p
 |_,_,.frl _ _,p=>nomatch p
 |_,_,.dic _,p=>nomatch p
 |_,_,.dct _ _ _,p=>nomatch p
 |_,_,.dctT _ _ _,p=>nomatch p
 |_,_,.dcz _ _ _,p=>nomatch p
 |_,_,.dczT _ _ _,p=>nomatch p
theorem zgk {F a:Hp}(hF:∀b w,zh3 w=Zd->Rep K a w (.ref b)->F b=a b):∀{c:List W}{v:List V},Reps K a c v->zic c=Zd->Reps K F c v
 |_,_,.nil,_=>.nil
 |_,_,.cons h r,p=>.cons (zqc hF h ((Ab _ _).mp p).1) (zgk hF r ((Ab _ _).mp p).2)
end
open Classical in
noncomputable def zer (K:Zg) (F a:Hp):Hp:=λb=>match F b with
 |some o=>Za o
 |none=>if (∃c,a b=Za (.ext c))\/∃w,zh3 w=Zd/\Rep K a w (.ref b) then a b else Zb
theorem zvz {F a:Hp}(s:Same F a):Same (zer K F a) a:=λb o e=>by
 unfold zer at e;split at e
 ·rename_i d c;cases e;exact s _ _ c
 ·split at e
  ·exact e
  ·cases e
theorem zs8 {F a:Hp}:Same F (zer K F a):=λb o e=>by
 unfold zer;rw[e]
theorem zrw {F a:Hp}(s:Same F a)(b:Zh)(w:W)(p:zh3 w=Zd)(r:Rep K a w (.ref b)):zer K F a b=a b:=by
 unfold zer;split
 ·rename_i o e;exact (s _ _ e).symm
 ·rw[if_pos (.inr ⟨w,p,r⟩)]
theorem z02 {i:Nat}{g:GE}{σ:St}{H:Hp}{Q:VK} (h:tE K (gBor i g) σ H Q):tE K g σ H Q:=by
 obtain⟨F,pr,en,S,r,R,h,q⟩:=h;unfold gBor at h;split at h
 ·rename_i U e
  obtain⟨⟨J,r1⟩,h1,h⟩:=bS h;split at h
  ·rename_i z
   obtain ⟨Y,z2,z3⟩:=z;cases h;obtain ⟨a,o,C,rfl,t,ha,fa,ow⟩:=R.own i _ e;obtain ⟨T,rfl,rv⟩:=ow.list;obtain ⟨F1,s1,R1,d⟩:=R.freeze e t;have f1:F1 a=Za (.lst T):=by
    cases d with
    |lst D _=>exact D.trans ((R1.sub _ _ D).symm.trans ha)
   refine ⟨F1,pr,_,J,r1,R1,h1,λf H2 v s2 R2 l=>?_⟩;have s:Same F f:=s1.trans s2;have E:f a=Za (.lst T):=s2 _ _ f1;have sub:=zvz (K:=K) s;have p:Same F (zer K F f):=zs8;have pu:∀b w,zh3 w=Zd->Rep K f w (.ref b)->zer K F f b=f b:=zrw s;have n:∀b,f b=Zb->zer K F f b=Zb:=λb e=>by
    cases x:zer K F f b with
    |none=>rfl
    |some o=>rw[sub _ _ x] at e;cases e
   have ka:zer K F f a=Zb:=by
    unfold zer;rw[fa];refine if_neg λz=>?_;rcases z with⟨c,z⟩|⟨w,z,y⟩
    ·rw[E] at z;cases z
    ·cases y with
     |tup D _=>rw[E] at D;cases D
     |_=>cases z
   have hi:i<(List.zipWith borX en J).length:=by rw[Fv,Y,Ha];exact (Af.mp e).1
   have get:∀(j:Nat) (w:W) (b:Bool),((List.zipWith borX en J).set i (Za (.lst U,Zd)))[j]?=Za (Za (w,b))->(j=i/\w=.lst U/\b=Zd)\/(j≠i/\b=Zc/\en[j]?=Za (Za (w,Zc)))\/(j≠i/\b=Zd/\(∃M,en[j]?=Za (Za (M,Zd)))/\J[j]?=Za (Za (w,Zd))/\z6n w=Zd):=λj w b x=>by
    have L:=set_cases hi x;clear x;rcases L with⟨ji,y⟩|⟨ne,x⟩
    ·cases y;exact .inl ⟨ji,rfl,rfl⟩
    ·rw [List.getElem?_zipWith] at x
     refine .inr ?_;cases I:en[j]? with
     |none=>rw[I] at x;cases x
     | some u =>
      cases G:J[j]? with
      |none=>rw[I,G] at x;cases x
      | some A =>
       rw[I,G] at x;have x:borX u A=Za (w,b):=sI x
       match u,x with
       |none,x=>cases x
       |#v[M,6],x=>cases x;exact .inl ⟨ne,rfl,rfl⟩
       | some (M,Zd),x =>
        match A,x with
        |none,x=>cases x
        |#v[X,6],x=>cases x
        | some (X,Zd),x =>
         have x:(if z6n X then #v[X,5] else Zb)=Za (w,b):=x;split at x
         ·rename_i N
          cases x;exact .inr ⟨ne,rfl,⟨M,rfl⟩,rfl,N⟩
         ·cases x
   refine q (zer K F f) H2 v p ⟨?_,λb o x=>R2.sub _ _ (sub _ _ x),λj w x=>?_,λj w x=>?_,λj k b w C I G d l=>?_,λb o x=>?_,?_⟩ ?_
   ·rw[Cz,Fv,Y,Ha];exact R.len
   ·rcases get j w Zc x with ⟨_,_,c⟩ | ⟨_,_,x⟩ | ⟨_,c,_⟩
    ·cases c
    ·obtain ⟨v,d,l⟩:=R.val j w x
     exact⟨v,d,l.mono p⟩
    ·cases c
   ·rcases get j w Zd x with ⟨rfl,rfl,_⟩ | ⟨_,c,_⟩ | ⟨_,_,_,x,N⟩
    ·exact⟨a,.lst T,.lst U,rfl,t,R2.sub _ _ E,ka,.lst (rv.mono p)⟩
    ·cases c
    ·obtain ⟨b,o,C, rfl,d,l,m,V⟩:=R2.own j w x
     refine⟨b,o,w,rfl,d,l,n b m,?_⟩;cases V with
     |lst r=>exact .lst (zgk pu r N)
     |_=>cases N
   ·rcases get j w Zd I with ⟨rfl,_,_⟩ | ⟨_,c,_⟩ | ⟨n1,_,_,u1,_⟩
    ·rcases get k C Zd G with ⟨rfl,_,_⟩ | ⟨_,c,_⟩ | ⟨n2,_,_,A,_⟩
     ·rfl
     ·cases c
     ·obtain ⟨b', o,w2,_,m,V,B,_⟩:=R2.own k _ A
      rw[l] at m;cases m;rw[d] at t;cases t;rw[E] at B;cases B
    ·cases c
    ·rcases get k C Zd G with ⟨rfl,_,_⟩ | ⟨_,c,_⟩ | ⟨n2,_,_,A,_⟩
     ·obtain ⟨b', o,w2,_,m,V,B,_⟩:=R2.own j _ u1
      rw[d] at m;cases m;rw[l] at t;cases t;rw[E] at B;cases B
     ·cases c
     ·exact R2.inj j k b w C u1 A d l
   ·obtain ⟨d,l,m⟩:=R2.prt b o x
    refine⟨d,n b l,λj w y=>?_⟩;rcases get j w Zd y with⟨rfl,_,_⟩|⟨_,c,_⟩|⟨_,_,_,u,_⟩
    ·exact (R.prt b o x).2.2 j _ e
    ·cases c
    ·exact m j w u
   ·refine ⟨R2.tb.1,λx hx c P ex => ?_⟩
    obtain⟨ps,a1,a2,a3,a4,a5⟩:=R2.tb.2 x hx c P ex;refine⟨ps,a1,n P a2,a3,a4,λpos cv y=>?_⟩;obtain⟨Z,b1,O⟩:=a5 pos cv y;refine⟨Z,b1,?_⟩;cases L:F Z with
    |some o=>rw[p _ _ L];exact (s _ _ L).symm.trans O
    | none =>
     unfold zer;rw[L];exact (if_pos (.inl ⟨_,O⟩)).trans O
   ·obtain ⟨w,fl⟩:=r1
    cases z3;exact zqc pu l z2
  ·cases h
 ·exact⟨F,pr,en,S,r,R,h,q⟩
end
noncomputable def borA (S:Sx):Zi->Option Nat
 |.Name x _=>if S.bn.contains (("b " : Str)++x) then S.rd x else Zb
 |_=>Zb
noncomputable def borN (S:Sx):Zi->Option Nat
 |.Call (.Name f _) args [] _=>if S.bl f then Zb else args.findSome? (borA S)
 |_=>Zb
noncomputable def borE (S:Sx) (e:Zi) (g:GE):GE:=match borN S e with
 |some i=>gBor i g
 |none=>g
theorem zxi {X:Cx}{S:Sx}{e:Zi}{g:GE}(h:PE X e (tE X.K g)):PE X e (tE X.K (borE S e g)):=by
 unfold borE;split
 ·exact h.wk λ_ _ _=>z02
 ·exact h
noncomputable def z7l:GE:=λ_=>Zb
noncomputable def zwy:GT:=λ_=>Zb
mutual
noncomputable def compE:Nat->Sx->Zi->Option GE
 |0,_,_=>Za z7l
 |n+1,S,e=>Za (borE S e ((orX (extE (compE n) S e) (z1w (compE n) (compT n) S e)).getD z7l))
noncomputable def compT:Nat->Sx->Zi->Option GT
 |0,_,_=>Za zwy
 |n+1,S,e=>Za ((z30 (compE n) (compT n) S e).getD zwy)
end
theorem zul {X:Cx}{e:Zi}:PE X e (tE X.K z7l):=λ_ _ _ _ _ _ q=>by obtain⟨_,_,_,_,_,_,h,_⟩:=q;exact noSome h
theorem zrc {X:Cx}{e:Zi}:PT X e (tT X.K zwy):=λ_ _ _ _ _ _ q=>by obtain⟨_,_,_,_,_,_,h,_⟩:=q;exact noSome h
theorem zfc:∀n,zbs (compE n)/\zkx (compT n)
 |0=>⟨λ_ _ _ _ _ _ h=>by rw[compE] at h;obtain rfl:=sI h;exact zul,λ_ _ _ _ _ _ h=>by rw[compT] at h;obtain rfl:=sI h;exact zrc⟩
 | n+1=>by
  obtain⟨a,b⟩:=zfc n;refine⟨λX S d C e g h=>?_,λX S d C e g h=>?_⟩
  ·rw [compE] at h
   cases q:orX (extE (compE n) S e) (z1w (compE n) (compT n) S e) with
   |none=>rw[q] at h;obtain rfl:=sI h;exact zxi zul
   |some c=>rw[q] at h;obtain rfl:=sI h;exact zxi (z2l (z6w a C) (zyu a b X S d C) e _ q)
  ·rw [compT] at h
   cases q:z30 (compE n) (compT n) S e with
   |none=>rw[q] at h;obtain rfl:=sI h;exact zrc
   |some c=>rw[q] at h;obtain rfl:=sI h;exact z1l a b X S d C e _ q
end L2
namespace L2
open PySem PySem.Spec PyProof.Rows
noncomputable def yau (i j k:Nat) (t:TA):TS:=λD σ H=>t σ H λb a=>∃u v w,b=[u,v,w]/\D.nx (((σ.set i (Za u)).set j (Za v)).set k (Za w)) a
section
variable {X:Cx}{pos:Pos}
theorem z77 {i j k:Nat}{x y z:Str}{a b c:Zi}{R:TA}{F L C pt:Pos}{kt k2 pt2} (Z:X.calm=Zd) (K:X.N.Nodup) (T:X.N[i]?=Za x) (hj:X.N[j]?=Za y) (U:X.N[k]?=Za z) (n:i≠j) (G:i≠k) (J:j≠k)
  (O:X.env.scope.names.lookup x=Za .local) (Q:X.env.scope.names.lookup y=Za .local) (N:X.env.scope.names.lookup z=Za .local) (ha:PA X [a,b,c] R)
  (Y:swappedStores [.Tuple [.Name x F,.Name y L,.Name z C] kt pt] (.Tuple [a,b,c] k2 pt2) X.env=pure (Za [x,y,z]))
  (hs:swapsWithSole [.Tuple [.Name x F,.Name y L,.Name z C] kt pt] (.Tuple [a,b,c] k2 pt2) pos.line X.env=pure Zc) :
  PS X (.Assign [.Tuple [.Name x F,.Name y L,.Name z C] kt pt] (.Tuple [a,b,c] k2 pt2) pos) (yau i j k R):=by
 intro pins s σ H D I h;rw [exec_Assign_arm];refine Aa (Fp ?_);rw [hs];refine Aa (Am ?_);rw [if_neg (by decide)];refine Aa (Tuple_ (thn (ha _ pins s σ H _ I h) λus f ⟨vs,S,V,r1,A⟩=>?_));refine aG λ_ qG=>?_;obtain ⟨u,v,w,e1,A⟩:=A;refine qG ?_;clear qG;subst e1;obtain ⟨l,g,m,rfl,ru,rv,r⟩ : ∃l g m,us=[l,g,m]/\RelV u l/\RelV v g/\RelV w m:=by
  cases r1 with
  | cons p q =>
   cases q with
   | cons p' q' =>
    cases q' with
    | cons B t =>
     cases t;exact⟨_,_,_,rfl,p,p',B⟩
 refine Dn ?_ (by show 3<=sizeLine;decide);have I2:Inv X pins σ S { f with heap:=f.heap.push { cls:=.type "tuple",data:=.seq [l,g,m].toArray } }:=V.kept (t':=f.toks) λb o e=>Ac _ e;rw [Y];refine Aa (Am ?_);show wpAny #v[2,7] X.A (do rule "assign.swapped-stores";let d <- unpackItems (.ref f.heap.objs.size) 3 Zb;assignInOrder [λv=>bindName X.env z v,λv=>bindName X.env y v,λv=>bindName X.env x v] d.reverse;pure Flow.next) _ _ _;refine Aa (Dh (Aa (unpackItems_tuple (items:=#[l,g,m]) (I.ok.hd Z) (IsTup.new f.heap _) λP E=>?_)));have W:=I2.kept (h':=P) (t':=f.toks) λb o e=>E b o (Bg (Ar e)) e;show wpAny _ _ (assignInOrder [λv=>bindName X.env z v,λv=>bindName X.env y v,λv=>bindName X.env x v] [m,g,l]>>=λ_=>pure Flow.next) _ _ _;refine Aa (Ht (wpAny_bindName (zd8 W K U (.inl N) r (λs2 I4=>?_) (.inr N))));refine Ht (wpAny_bindName (zd8 I4 K hj (.inl Q) rv (λs3 I5=>?_) (.inr Q)));refine Ht (wpAny_bindName (zd8 I5 K T (.inl O) ru (λs4 M=>assignInOrder_nil (Am ?_)) (.inr O)));have e:((σ.set k (Za w)).set j (Za v)).set i (Za u)=((σ.set i (Za u)).set j (Za v)).set k (Za w):=by
  rw[List.set_comm _ _ (Ne.symm n),List.set_comm _ _ (Ne.symm G),List.set_comm _ _ (Ne.symm J)]
 rw[e] at M;exact⟨_,S,M,A⟩
end
noncomputable def gPar3 (mp:List Nat) (i j k:Nat) (a b c:GE):GS:=λen=>(a en).bind λp=>(b p.1).bind λq=>(c q.1).bind λr=>if mp.contains i||mp.contains j||mp.contains k || !decide (i<r.1.length) || !decide (j<r.1.length) || !decide (k<r.1.length) then Zb else Za (((r.1.set i (#v[p.2.1,6])).set j (#v[q.2.1,6])).set k (Za r.2),.nx)
section
variable {K:Zg}{mp:List Nat}{D:Ends}{σ:St}{H:Hp}
theorem zuk {i j k:Nat}{a b c:GE} (h:tS K mp (gPar3 mp i j k a b c) D σ H):yau i j k (zds (tE K a) (zds (tE K b) (zds (tE K c) tNil))) D σ H:=by
 nofun;obtain⟨F,pr,en,Q,fl,R,h,q⟩:=h;obtain⟨⟨G,d⟩,V,h⟩:=bS h;obtain⟨⟨E,n⟩,h2,h⟩:=bS h;obtain⟨⟨e,s⟩,O,h⟩:=bS h;ac_rfl;split at h
 ·exact noSome h
 ·rename_i z
  simp only [Cd,not_or,Bn,Dc,Br] at z;refine aG λ_ qG=>?_;obtain ⟨⟨⟨⟨⟨J,z2⟩,z3⟩,A⟩,B⟩,L⟩:=z;refine qG ?_;clear qG;cases h;refine ⟨F,pr,en,G,d,R,V,λF1 H1 o T R1 N=>?_⟩;obtain ⟨U,s2,R2,x1⟩:=N.freeze R1;refine ⟨U,pr,G,E,n,R2,h2,λF3 H3 p x S y2=>?_⟩;obtain ⟨F4,I,R4,x2⟩:=y2.freeze S;refine ⟨F4,pr,E,e,s,R4,O,λf m u w R5 C=>⟨o,p,u,rfl,?_⟩⟩;have M:Rel K f pr (e.set i (Za (d.1,Zc))) (σ.set i (Za o)) m:=R5.store (r:=(d.1,Zc)) (x1.mono (x.trans (I.trans w))) A;have Rb:Rel K f pr ((e.set i (Za (d.1,Zc))).set j (Za (n.1,Zc))) ((σ.set i (Za o)).set j (Za p)) m:=M.store (r:=(n.1,Zc)) (x2.mono w) (by rw [Cz];exact B);have y:Res K f m pr ((e.set i (Za (d.1,Zc))).set j (Za (n.1,Zc))) ((σ.set i (Za o)).set j (Za p)) s u:=by
   obtain⟨w3,t⟩:=s;cases t with
   |false=>exact C
   | true =>
    nofun;obtain⟨a,vs,ws,X,Y,q3,W,q5,q6,P⟩:=C;ac_rfl;refine⟨a,vs,ws,X,Y,q3,W,q5,λl w' g=>?_,P⟩;rcases set_cases (by rw[Cz];exact B) g with⟨_,z⟩|⟨nj,g⟩
    ·cases z
    ·rcases set_cases A g with ⟨_,z⟩ | ⟨Z,g⟩
     ·cases z
     ·rw [Cp (Ne.symm nj),Cp (Ne.symm Z)]
      exact q6 l w' g
  have Rc:Rel K f pr (((e.set i (#v[d.1,6])).set j (#v[n.1,6])).set k (Za s)) (((σ.set i (Za o)).set j (Za p)).set k (Za u)) m:=Rb.store y (by rw[Cz,Cz];exact L);exact q f _ m (T.trans (s2.trans (x.trans (I.trans w)))) Rc (((Keep.set J _).trans (Keep.set z2 _)).trans (Keep.set z3 _))
end
noncomputable def zl6 (S:Sx) (x:Str) (p:Pos) (y:Str) (e:Pos) (z:Str) (d:Pos) (a b c:Zi):Bool:=S.kd.lookup x==Za .local&&S.kd.lookup y==Za .local&&S.kd.lookup z==Za .local&&p.line==e.line&&p.line==d.line && !(x==y) && !(x==z) && !(y==z) && !(foldedForSure 8 a&&foldedForSure 8 b&&foldedForSure 8 c) && !(constantsAlone 8 a&&constantsAlone 8 b&&constantsAlone 8 c)&&zag a&&zag b&&zag c
section
variable {X:Cx}{S:Sx}{d:Nat}{fE:Sx->Zi->Option GE}
theorem ztx {x y:Str}(h:¬ x=y):(y==x)=Zc:=by
 cases q:y==x with
 |false=>rfl
 |true=>exact absurd (Bp q).symm h
theorem z4z (C:CxOk X S d){x y z:Str}{p g f pt pt2:Pos}{a b c:Zi}{kt k2:Nat}(h:zl6 S x p y g z f a b c=Zd):swappedStores [.Tuple [.Name x p,.Name y g,.Name z f] kt pt] (.Tuple [a,b,c] k2 pt2) X.env=pure (Za [x,y,z]):=by
 unfold zl6 at h;simp only [Ab] at h;nofun;obtain⟨⟨⟨⟨⟨⟨⟨⟨⟨⟨⟨⟨E,I⟩,B⟩,R⟩,A⟩,P⟩,M⟩,K⟩,q⟩,i⟩,l⟩,j⟩,n⟩:=h;ac_rfl;have r:X.env.kindOf x=Za .local:=C.loc x (by simpa using E);have k2:X.env.kindOf y=Za .local:=C.loc y (by simpa using I);have t:X.env.kindOf z=Za .local:=C.loc z (by simpa using B);have w:p.line=g.line:=by simpa using R
 have H:p.line=f.line:=by simpa using A
 have u:¬ x=y:=by simpa using P
 have O:¬ x=z:=by simpa using M
 have Q:¬ y=z:=by simpa using K
 have o:∀e,zag e=Zd->(match e with|.Starred ..=>Zd|_=>Zc)=Zc:=λe h=>by cases e<;>first|rfl|(cases h)
 have s:([a,b,c].any λe=>match e with|.Starred ..=>Zd|_=>Zc)=Zc:=by
  rw[Ff,Ff,Ff,List.any_nil,o a l,o b j,o c n];rfl
 unfold swappedStores;simp only [Ay,Fy,C.bk,Gu];rw[if_neg #v[0,9]]
 try simp only [Gu]
 refine (if_neg (λz=>At (s.symm.trans z))).trans ?_;have nm:List.filterMap (λe=>match e with|.Name id pos=>if (X.env.kindOf id==Za .local&&pos.line==(Option.map (λe=>e.pos.line) ([Zi.Name x p,Zi.Name y g,Zi.Name z f]:List Zi).head?).getD 0)=Zd then Za id else Zb|_=>Zb) ([Zi.Name x p,Zi.Name y g,Zi.Name z f]:List Zi)=[x,y,z]:=by
  have J:((Zi.Name x p).pos.line)=p.line:=rfl;have G:g.line=p.line:=w.symm;have L:f.line=p.line:=H.symm;simp [r,k2,t,J,G,L]
 try simp only [Gu]
 generalize F:List.filterMap _ ([Zi.Name x p,Zi.Name y g,Zi.Name z f]:List Zi)=names;have k:names=[x,y,z]:=F.symm.trans nm;subst k;have N:([x,y,z]:List Str).eraseDups=[x,y,z]:=by
  rw[List.eraseDups_cons,Dy,ztx u,Dy,ztx O];simp only [Gd,Fq,Fc];rw[List.eraseDups_cons,Dy,ztx Q];simp only [Gd,Fq,Fc];rw[List.eraseDups_cons,Fc,List.eraseDups_nil]
 rw[N,if_neg (by simp)]
 try simp only [Gu]
 have D:¬ (foldedForSure 8 a&&foldedForSure 8 b&&foldedForSure 8 c)=Zd:=λz=>by rw[z] at q;cases q
 have m:¬ (constantsAlone 8 a&&constantsAlone 8 b&&constantsAlone 8 c)=Zd:=λz=>by rw[z] at i;cases i
 rw[if_neg (by simp only [Cg,List.all_nil,Bool.and_true,<-Bool.and_assoc];exact D),if_neg (by simp only [Cg,List.all_nil,Bool.and_true,<-Bool.and_assoc];exact m)]
end
noncomputable def zm4 (x:Stmt->Option GS) (X:Cx) (S:Sx):Prop:=∀s g,x s=Za g->PS X s (tS X.K S.mp g)
noncomputable def nmOf:Zi->Option (Str×Pos)
 |.Name x p=>Za (x,p)
 |_=>Zb
theorem zn0 {e:Zi}{x:Str×Pos}(h:nmOf e=Za x):e=.Name x.1 x.2:=by
 cases e with
 |Name y p=>obtain rfl:=sI h;rfl
 |_=>exact noSome h
noncomputable def z0j (fE:Sx->Zi->Option GE) (S:Sx) (es vs:List Zi):Option GS:=match es with
 | [d,n,e]=>(match vs with
  |[a,b,c]=>(nmOf d).bind λx=>(nmOf n).bind λy=>(nmOf e).bind λz=>if zl6 S x.1 x.2 y.1 y.2 z.1 z.2 a b c then (S.wr x.1).bind λi=>(S.wr y.1).bind λj=>(S.wr z.1).bind λk=>(fE S a).bind λf=>(fE S b).bind λh=>(fE S c).bind λg=>Za (gPar3 S.mp i j k f h g) else Zb
  |_=>Zb)
 |_=>Zb
noncomputable def zwx:Zi->Option (List Zi×Nat×Pos)
 |.Tuple e k p=>Za (e,k,p)
 |_=>Zb
theorem zpz {e:Zi}{x:List Zi×Nat×Pos}(h:zwx e=Za x):e=.Tuple x.1 x.2.1 x.2.2:=by
 cases e with
 |Tuple y k p=>obtain rfl:=sI h;rfl
 |_=>exact noSome h
noncomputable def zto (fE:Sx->Zi->Option GE) (S:Sx):Stmt->Option GS
 | .Assign t e _=>(match t with
  |[a]=>(zwx a).bind λx=>(zwx e).bind λy=>z0j fE S x.1 y.1
  |_=>Zb)
 |_=>Zb
section
variable {X:Cx}{S:Sx}{d:Nat}{fE:Sx->Zi->Option GE}
theorem zxq {es:List Zi}{kt:Nat}{p:Pos}{e:Zi}{l:Nat}{env:Env}:swapsWithSole [.Tuple es kt p] e l env=pure Zc:=by
 cases e<;>rfl
theorem zsd (H:zbs fE) (C:CxOk X S d):zm4 (zto fE S) X S:=λst g h=>by
 cases st with
 | Assign V e pos =>
  match V,h with
  |[],h=>exact noSome h
  |_::_::_,h=>exact noSome h
  | [tg],h =>
   have h:((zwx tg).bind λx=>(zwx e).bind λy=>z0j fE S x.1 y.1)=Za g:=h;obtain⟨⟨R,r,pt⟩,v,h⟩:=bS h;obtain⟨⟨U,B,p⟩,A,h⟩:=bS h;rw[zpz v,zpz A];have h:z0j fE S R U=Za g:=h;unfold z0j at h;split at h
   ·rename_i n1 n2 n3
    split at h
    ·rename_i a b c
     obtain⟨⟨x,px⟩,P,t⟩:=bS h;obtain⟨⟨y,py⟩,T,l⟩:=bS t;obtain⟨⟨z,Z⟩,W,f⟩:=bS l;clear h t l;rw[zn0 P,zn0 T,zn0 W];have h:(if zl6 S x px y py z Z a b c then (S.wr x).bind λi=>(S.wr y).bind λj=>(S.wr z).bind λk=>(fE S a).bind λJ=>(fE S b).bind λL=>(fE S c).bind λK=>Za (gPar3 S.mp i j k J L K) else Zb)=Za g:=f;clear f;split at h
     ·rename_i u
      refine aG λ_ qG=>?_;obtain ⟨i,M,h⟩:=bS h;obtain ⟨j,Y,h⟩:=bS h;obtain ⟨k,N,h⟩:=bS h;obtain ⟨J,D,h⟩:=bS h;obtain ⟨L,q,h⟩:=bS h;obtain ⟨K,o,h⟩:=bS h;refine qG ?_;clear qG;obtain rfl:=sI h;have w:=λr pt B p=>z4z (kt:=r) (pt:=pt) (k2:=B) (pt2:=p) C u;unfold zl6 at u;simp only [Ab] at u;refine aG λ_ qG=>?_;obtain ⟨⟨⟨⟨⟨⟨⟨⟨⟨⟨⟨⟨v,A⟩,O⟩,h4⟩,t⟩,l⟩,f⟩,h8⟩,h9⟩,Q⟩,I⟩,E⟩,G⟩:=u;obtain ⟨F,_,_⟩:=zmn C M;obtain ⟨s,_,_⟩:=zmn C Y;obtain ⟨m,_,_⟩:=zmn C N;refine qG ?_;clear qG;have ne:∀{i j:Nat}{x y:Str},X.N[i]?=Za x->X.N[j]?=Za y->(!(x==y))=Zd->i≠j:=λa b n e=>by
       subst e;rw[a] at b;obtain rfl:=sI b;simp at n
      exact (z77 C.calm (ndN C) F s m (ne F s l) (ne F m f) (ne s m h8) (C.loc _ (by simpa using v)) (C.loc _ (by simpa using A)) (C.loc _ (by simpa using O)) (pac (H X S d C _ _ D) (pac (H X S d C _ _ q) (pac (H X S d C _ _ o) zdi G) E) I) (w _ _ _ _) zxq).wk λ_ _ _=>zuk
     ·exact noSome h
    ·exact noSome h
   ·exact noSome h
 |_=>exact noSome h
noncomputable def orS (a b:Option GS):Option GS:=match a with
 |some g=>Za g
 |none=>b
theorem z9p {x y:Stmt->Option GS}(c:zm4 x X S)(b:zm4 y X S):zm4 (λe=>orS (x e) (y e)) X S:=λe g h=>by
 have h:orS (x e) (y e)=Za g:=h;unfold orS at h;split at h
 ·rename_i a q;obtain rfl:=sI h;exact c e a q
 ·exact b e g h
theorem yb2 {o k e:Zi}{p:Pos}{env:Env}:swappedStores [.Subscript o k p] e env=pure Zb:=by
 cases e<;>rfl
theorem zz0 {o k e:Zi}{p:Pos}{l:Nat}{env:Env}:swapsWithSole [.Subscript o k p] e l env=pure Zc:=by
 cases e<;>rfl
theorem zsr {o k:Zi}{p:Pos}{env:Env} (h:zd9 k=Zd):∀v,assign (.Subscript o k p) env v=(do
  let a <- holding [v] (eval o env)
  let i <- holding [v,a] (eval k env)
  standAt p
  holding [v,a,i] (setItem a i v)
  release [v,a,i] []):=by
 intro v;cases k<;>first|rfl|(cases h)
noncomputable def extS (fE:Sx->Zi->Option GE) (S:Sx) (st:Stmt):Option GS:=zto fE S st
theorem z56 (H:zbs fE)(C:CxOk X S d):zm4 (extS fE S) X S:=zsd H C
end
noncomputable def zcn (mp:List Nat) (i:Nat):GS:=λen=>match en[i]? with
 |some (#v[w,5])=>if mp.contains i then Zb else Za (en.set i Zb,.ret (w,Zd))
 |some (#v[w,6])=>Za (en,.ret (w,Zc))
 |_=>Zb
theorem ztq {K:Zg}{mp:List Nat}{D:Ends}{σ:St}{H:Hp}{i:Nat}(h:tS K mp (zcn mp i) D σ H):tRet (tVar i) D σ H:=by
 obtain⟨F,pr,en,c,f,R,h,q⟩:=h;unfold zcn at h;split at h
 ·rename_i w e;split at h
  ·exact noSome h
  ·cases h;obtain⟨v,a,b,z⟩:=R.drop e;exact⟨v,a,q F σ H v (.refl F) b (.refl _ _) z⟩
 ·rename_i w e;cases h;obtain⟨v,a,z⟩:=R.val i w e;exact⟨v,a,q F σ H v (.refl F) R (.refl _ _) z⟩
 ·exact noSome h
noncomputable def z1f (f:Sx->Stmt->Option GS):Prop:=∀X S d,CxOk X S d->∀s g,f S s=Za g->PS X s (tS X.K S.mp g)
noncomputable def blk (f:Sx->Stmt->Option GS) (S:Sx):List Stmt->Option GS
 |[]=>Za zb6
 | c::s=>match s with
  |[]=>f S c
  |_::_=>(f S c).bind λa=>(blk f S s).bind λb=>Za (gSeq a b)
noncomputable def zjb (S:Sx) (x:Str) (p:Pos) (scope:Scope) (pos:Pos):Bool:=S.kd.lookup x==Za .local&&p.line==pos.line && !(scope.names.any λ(n,k)=>n == x && (k == .local || k == .cell))
noncomputable def zop (S:Sx) (x:Str):Bool:=S.top&&S.kd.lookup x==Za .cell
noncomputable def z4h:Zi->Bool
 |.Tuple ..=>Zd
 |_=>Zc
noncomputable def ze7:Nat:=4096
noncomputable def asgE (fE:Sx->Zi->Option GE) (fT:Sx->Zi->Option GT) (S:Sx) (t e:Zi):Option GS:=match t with
 | .Name x p=>(S.wr x).bind λi=>(match e with
  |.ListComp elt gens scope pos=>(zxf fE fT S elt gens scope).bind λg=>if zjb S x p scope pos||zop S x then Za (gSet S.mp i g) else Zb
  |e=>if zgq e then (fE S e).bind λg=>Za (gSet S.mp i g) else Zb)
 |.Tuple a _ _=>(if z4h e then Zb else (zgs S a).bind λb=>(fE S e).bind λg=>Za (gAsg S.mp (.tp b) g))
 | .Subscript o k _=>(match o with
  |.Name x _=>if zd9 k then (S.rd x).bind λi=>(fE S k).bind λc=>(fE S e).bind λg=>Za (za9 i c g) else Zb
  |_=>Zb)
 |_=>Zb
noncomputable def zs1 (mp:List Nat) (i:Nat) (g:GE):GS:=λen=>match en[i]? with
 |some (#v[_,2])=>z72 mp i g en
 |_=>gAug mp #v[8,12] i (gArg g) en
theorem zx0 {K:Zg}{mp:List Nat}{D:Ends}{σ:St}{H:Hp}{i:Nat}{r:R2}{g:GE}(a:OpS K r #v[8,12])(h:tS K mp (zs1 mp i g) D σ H):tAug i (tE K g) z63 D σ H\/tAug i (tA K (gArg g)) r D σ H:=by
 obtain⟨F,pr,en,e,f,R,h,q⟩:=h;unfold zs1 at h;split at h
 ·exact .inl (zwz ⟨F,pr,en,e,f,R,h,q⟩)
 ·exact .inr (zp1 a ⟨F,pr,en,e,f,R,h,q⟩)
noncomputable def zq4:Zi->Bool
 |.Constant ..=>Zc
 |_=>Zd
noncomputable def z7w (fS:Sx->Stmt->Option GS) (fE:Sx->Zi->Option GE) (fT:Sx->Zi->Option GT) (S:Sx) (st:Stmt):Option GS:=match st with
 | .Return o _=>(match o with
  |none=>Zb
  | some e=>(match e with
   |.Name x _=>(S.rd x).bind λi=>Za (zcn S.mp i)
   |e=>(fE S e).bind λg=>Za (gRet g)))
 |.If c a b _=>(fT S c).bind λt=>(blk fS S a).bind λx=>(blk fS S b).bind λy=>Za (gIfS t x y)
 | .For f j body d _=>(match d with
  |[]=>(zof fE S f j).bind λk=>(tgE S f).bind λT=>(blk fS S body).bind λg=>Za (gFor S.mp T k g)
  |_=>Zb)
 | .While c body d _=>(match d with
  |[]=>(fT S c).bind λt=>(blk fS S body).bind λg=>Za (zdv t g ze7)
  |_=>Zb)
 |.Pass _=>Za zb6
 |.Expr e _=>if zgq e then (fE S e).bind λg=>Za (zc2 g) else Zb
 | .Assign l e _=>(match l with
  |[f]=>asgE fE fT S f e
  |_=>Zb)
 | .AugAssign f h e _=>(match f with
  |.Name x _=>if h==.Add&&zq4 e then (S.wr x).bind λi=>(fE S e).bind λg=>Za (zs1 S.mp i g) else (S.wr x).bind λi=>(augO h).bind λo=>(zbf fE S e).bind λa=>Za (gAug S.mp o i a)
  |_=>Zb)
 |_=>Zb
section
variable {X:Cx}{S:Sx}{d:Nat}{fS:Sx->Stmt->Option GS}{fE:Sx->Zi->Option GE}{fT:Sx->Zi->Option GT}
theorem zil (HS:z1f fS) (C:CxOk X S d):∀{s:List Stmt}{g:GS},blk fS S s=Za g->PSs X s (tS X.K S.mp g)
 |[],_,h=>by obtain rfl:=sI h;exact z6e.wk λ_ _ _=>zlo
 |[c],_,h=>z6t (HS X S d C _ _ h)
 | c::i::s,_,h=>by
  obtain⟨a,f,h⟩:=bS (show (fS S c).bind _=_ from h);obtain⟨b,e,h⟩:=bS h;obtain rfl:=sI h;exact (z1y (HS X S d C _ _ f) (zil HS C e)).wk λ_ _ _=>zz7
theorem yd6 (C:CxOk X S d){x:Str}{p pos:Pos}{elt:Zi}{gens:List Comprehension}{scope:Scope}{l:Nat}(h:zjb S x p scope pos=Zd):swapsWith #v[2,10] (Za (.Name x p)) l X.env=pure Zd:=by
 unfold zjb at h;rw[Ab,Ab] at h;have a:X.env.kindOf x=Za .local:=C.loc x (by simpa using h.1.1);show (pure (X.env.blockKind==.function&&X.env.kindOf x==Za .local&&p.line==pos.line && !(scope.names.any λ(n,k)=>n == x && (k == .local || k == .cell))):Sem Bool)=pure Zd;rw[C.bk,a,h.1.2,h.2]
 rfl
theorem swNo (C:CxOk X S d){x:Str}{p pos:Pos}{elt:Zi}{gens:List Comprehension}{scope:Scope}{l:Nat}(h:zop S x=Zd):swapsWith #v[2,10] (Za (.Name x p)) l X.env=pure Zc:=by
 unfold zop at h;rw[Ab] at h;have a:X.env.kindOf x=Za .cell:=(C.cel x (by simpa using h.2)).1;show (pure (X.env.blockKind==.function&&X.env.kindOf x==Za .local&&p.line==pos.line && !(scope.names.any λ(n,k)=>n == x && (k == .local || k == .cell))):Sem Bool)=pure Zc;rw[a];have:(Za NameKind.cell==Za NameKind.local)=Zc:=rfl;rw[this,Hh,Ev,Ev]
theorem z0n {e:Zi}{es:List Zi}{kt:Nat}{p:Pos}{env:Env}(h:z4h e=Zc):swappedStores [.Tuple es kt p] e env=pure Zb:=by
 cases e with
 |Tuple _ _ _=>cases h
 |_=>rfl
theorem zyr {es:List Zi}{kt:Nat}{p:Pos}{e:Zi}{l:Nat}{env:Env}:swapsWithSole [.Tuple es kt p] e l env=pure Zc:=by
 cases e<;>rfl
theorem z5s (l:zbs fE) (HT:zkx fT) (C:CxOk X S d) {t e:Zi}{g:GS}{pos:Pos} (h:asgE fE fT S t e=Za g):PS X (.Assign [t] e pos) (tS X.K S.mp g):=by
 cases t with
 | Name x I =>
  refine aG λ_ qG=>?_;obtain ⟨i,m,h⟩:=bS (show (S.wr x).bind _=_ from h);obtain ⟨y,A,w⟩:=zmn C m;refine qG ?_;clear qG;have j:(if zgq e then (fE S e).bind λg=>Za (gSet S.mp i g) else Zb)=Za g->PS X (.Assign [.Name x I] e pos) (tS X.K S.mp g):=λh=>by
   split at h
   ·rename_i z
    obtain⟨v,f,h⟩:=bS h;obtain rfl:=sI h;exact (z26 (ndN C) y A (l X S d C _ _ f) (zq8 z) w).wk λ_ _ _=>zj7
   ·exact noSome h
  cases e with
  | ListComp elt gens scope J =>
   obtain⟨v,f,h⟩:=bS (show (zxf fE fT S elt gens scope).bind _=_ from h);have E:=zgj l HT C f;split at h
   ·rename_i z
    obtain rfl:=sI h;rw[Cd] at z;rcases z with z|z
    ·refine aG λW qG => ?_
     obtain ⟨t,iter,ifs,U,Z,T,Y,V,tm,Q,O,s,K,P,N,pt,L,rd⟩:=E.ex;refine qG ?_;clear qG;subst Q;exact (z5g (ndN C) y A K N pt (L J) (O J) (yd6 C z) C.calm s.kind s.cap s.fr s.nc s.nm P w).wk λD σ H q=>by
      have R:=zj7 q;exact rd _ _ _ R
    ·exact (z26 (ndN C) y A (zun C E) (swNo C z) w).wk λ_ _ _=>zj7
   ·exact noSome h
  |_=>exact j h
 | Tuple B M p =>
  have gen:(if z4h e then Zb else (zgs S B).bind λF=>(fE S e).bind λg=>Za (gAsg S.mp (.tp F) g))=Za g->PS X (.Assign [.Tuple B M p] e pos) (tS X.K S.mp g):=λh=>by
   split at h
   ·exact noSome h
   ·rename_i z
    nofun;obtain⟨F,r,h⟩:=bS h;obtain⟨v,f,h⟩:=bS h;ac_rfl;obtain rfl:=sI h;obtain⟨a,b,c⟩:=zh9 C _ r;exact (z2w (l X S d C _ _ f) (zu8 C.calm a b c) zyr (z0n (by simpa using z)) rfl).wk λ_ _ _=>zy2
  exact gen h
 | Subscript o k p =>
  cases o with
  | Name x I =>
   have n:(if zd9 k then (S.rd x).bind λi=>(fE S k).bind λG=>(fE S e).bind λg=>Za (za9 i G g) else Zb)=Za g:=h;split at n
   ·rename_i z
    nofun;obtain⟨i,m,h⟩:=bS n;obtain⟨G,u,h⟩:=bS h;obtain⟨v,f,h⟩:=bS h;ac_rfl;obtain rfl:=sI h;exact (z2w (l X S d C _ _ f) (z80 (zno C m) (l X S d C _ _ u) z0q (zsr z)) zz0 yb2 rfl).wk λ_ _ _=>zr0
   ·exact noSome n
  |_=>exact noSome h
 |_=>exact noSome h
theorem zzm (HS:z1f fS) (k:zbs fE) (HT:zkx fT):z1f (z7w fS fE fT):=λX S d C st g h=>by
 have K:PassesOwn #v[2,7] X.A X.env X.xe:=by rw[C.xe];exact PassesOwn.never
 cases st with
 | Return o p =>
  cases o with
  |none=>cases h
  | some e =>
   have gen:((fE S e).bind λg=>Za (gRet g))=Za g->PS X (.Return (Za e) p) (tS X.K S.mp g):=λh=>by
    obtain⟨L,m,h⟩:=bS h;obtain rfl:=sI h;exact (z2m (k X S d C _ _ m)).wk λ_ _ _=>zpr
   cases e with
   | Name x W =>
    obtain⟨i,l,h⟩:=bS (show (S.rd x).bind _=_ from h);obtain rfl:=sI h;exact (z2m (zno C l)).wk λ_ _ _=>ztq
   |_=>exact gen h
 | If c a b p =>
  obtain⟨t,E,h⟩:=bS (show (fT S c).bind _=_ from h);obtain⟨x,Q,h⟩:=bS h;obtain⟨y,R,h⟩:=bS h;obtain rfl:=sI h;exact (ycz (HT X S d C _ _ E) (zil HS C Q) (zil HS C R)).wk λ_ _ _=>z1t
 | For n O body j p =>
  cases j with
  |cons _ _=>exact noSome h
  | nil =>
   obtain⟨gi,F,h⟩:=bS (show (zof fE S n O).bind _=_ from h);obtain⟨T,hT,h⟩:=bS h;obtain⟨gb,G,h⟩:=bS h;obtain rfl:=sI h;obtain⟨M,V⟩:=zem k C F;exact (z9s K C.calm M (zpm C hT) (zil HS C G) V).wk λ_ _ _=>zyx
 | While c body j p =>
  cases j with
  |cons _ _=>exact noSome h
  | nil =>
   obtain⟨t,E,h⟩:=bS (show (fT S c).bind _=_ from h);obtain⟨gb,G,h⟩:=bS h;obtain rfl:=sI h;exact (z0e K (HT X S d C _ _ E) (zil HS C G)).wk λ_ _ _=>zrr
 |Pass p=>obtain rfl:=sI h;exact z53.wk λ_ _ _=>zlo
 | Expr e p =>
  have f:(if zgq e then (fE S e).bind λg=>Za (zc2 g) else Zb)=Za g:=h;split at f
  ·rename_i z
   obtain⟨L,m,h⟩:=bS f;obtain rfl:=sI h;exact (z4p (k X S d C _ _ m) (zq8 z)).wk λ_ _ _=>zw1
  ·exact noSome f
 | Assign ts e p =>
  match ts,h with
  |[n],h=>exact z5s k HT C h
  |[],h=>exact noSome h
  |_::_::_,h=>exact noSome h
 | AugAssign n B e p =>
  cases n with
  | Name x W =>
   have f:(if (B==.Add&&zq4 e)=Zd then (S.wr x).bind λi=>(fE S e).bind λg=>Za (zs1 S.mp i g) else (S.wr x).bind λi=>(augO B).bind λo=>(zbf fE S e).bind λa=>Za (gAug S.mp o i a))=Za g:=h;split at f
   ·rename_i z
    rw[Ab] at z;have N:B=.Add:=by simpa using z.1
    subst N;obtain⟨i,l,h⟩:=bS f;obtain⟨L,m,h⟩:=bS h;obtain rfl:=sI h;obtain⟨u,A,w⟩:=zmn C l;have J:=k X S d C _ _ m;intro pins s σ H D I q;rcases zx0 (zb8 λ_ _ _=>.int _) q with q|q
    ·exact zvt (ndN C) u A J z5n w pins s σ H D I q
    ·exact zvt (ndN C) u A (J.wk λ_ _ _=>zf2) zwi w pins s σ H D I q
   ·obtain ⟨i,l,h⟩:=bS f
    obtain⟨o,Y,h⟩:=bS h;obtain⟨a,Z,h⟩:=bS h;obtain rfl:=sI h;obtain⟨u,A,w⟩:=zmn C l;obtain⟨r,P,U⟩:=z4v (X:=X) Y;exact (zvt (ndN C) u A (zak k C Z) P w).wk λ_ _ _=>zp1 U
  |_=>exact noSome h
 |_=>exact noSome h
end
noncomputable def zll:GS:=λ_=>Zb
noncomputable def zxy:Nat->Sx->Stmt->Option GS
 |0,_,_=>Za zll
 |n+1,S,s=>Za ((orS (extS (compE n) S s) (z7w (zxy n) (compE n) (compT n) S s)).getD zll)
theorem zrf {X:Cx}{st:Stmt}{mp:List Nat}:PS X st (tS X.K mp zll):=λ_ _ _ _ _ _ q=>by obtain⟨_,_,_,_,_,_,h,_⟩:=q;exact noSome h
theorem zh4:∀n,z1f (zxy n)
 |0=>λ_ _ _ _ _ _ h=>by obtain rfl:=sI h;exact zrf
 | n+1=>λX S d C s g h=>by
  rw[zxy] at h;cases q:orS (extS (compE n) S s) (z7w (zxy n) (compE n) (compT n) S s) with
  |none=>rw[q] at h;obtain rfl:=sI h;exact zrf
  |some a=>rw[q] at h;obtain rfl:=sI h;exact z9p (z56 (zfc n).1 C) (zzm (zh4 n) (zfc n).1 (zfc n).2 X S d C) s _ q
structure Fd where
 nm:Str
 ps:List Str
 N:List Str
 m:List Bool
 st:Stmt
noncomputable def deep:Nat:=60
noncomputable def sxOf (T:List Fd) (bn:List Str) (Ψ:Str->Fn) (d:Nat) (t:Fd):Sx:={ N:=t.N,kd:=(zar t.st).names,bn:=bn,fs:=T.map λu=>(u.nm,(u.m,Ψ u.nm)),mp:=mpOf t.m,top:=Zd,nm:=t.nm,dp:=d }
noncomputable def zai (T:List Fd) (bn:List Str) (Ψ:Str->Fn) (d:Nat) (t:Fd):Option GS:=blk (zxy deep) (sxOf T bn Ψ d t) (zdr t.st)
noncomputable def fnAt (T:List Fd) (bn:List Str) (Ψ:Str->Fn) (d:Nat) (t:Fd):Fn:=match zai T bn Ψ d t with
 |some g=>zad t.m t.N.length g
 |none=>λ_=>Zb
noncomputable def sem (T:List Fd) (bn:List Str):Nat->Str->Fn
 |0,_=>λ_=>Zb
 | d+1,x=>match T.find? (·.nm==x) with
  |some t=>fnAt T bn (sem T bn d) d t
  |none=>λ_=>Zb
noncomputable def zzj (K:Zg) (x:Str):Bool:=match PySem.W.tabIn K x with
 |some (c,P)=>PySem.W.codeHdIn K c P
 |none=>Zc
theorem Fun.okC {P:Program}{w:World}{K:Zg}{m:Str->Option Ze}{base:Heap}{x qual:Str}{st:Stmt}{f:Zh}{b:FuncData}{N ps:List Str}{k:Nat}{sp:Sp} (F:Fun K x qual st f b) (S:FnScope N ps (zar st)) (len:∀v H Q E,sp v H Q E->v.length=ps.length)
  (a:∀(A:Around) (outer:List Env) (s:Zf) (H:Hp) (v:List V) (Q:VK) (E:XK),(Room k (A.deeper (envOfC qual (zar st) s.heap.objs.size f b.code))/\Room (k+1) A)->sp v H Q E ->
   ∃t,PSs (cxOf CX0 P w K m base N qual (zar st) f b.code A outer s H E).nox (zdr st) t/\t { nx:=λ_ e=>Q .non e,rt:=Q } (start N v) H):FnOk P w K m base CX0 (k+1) f b ps sp:=by
 nofun;obtain⟨o,n,kV,doc,p,i,cdv,j,osl,rfl,l,c⟩:=F.ex;ac_rfl;refine yd1 l c S len λA outer s H v Q E g d=>?_;obtain⟨t,h,q⟩:=a A outer s H v Q E g d;exact⟨t,h.nox,q⟩
structure FdOk (K:Zg) (mg:Str->Option Ze) (t:Fd):Prop where
 sc:FnScope t.N t.ps (zar t.st)
 m:t.m.length=t.ps.length
 ex:∃f fd,Fun K t.nm t.nm t.st f fd/\zoi K fd t.ps []/\mg t.nm=Za (.ref f)
 lam:t.nm∈lams->zzj K t.nm=Zd
theorem zsg {T:List Fd}{Ψ:Str->Fn}{x:Str}{m:List Bool}{Φ:Fn} (h:(T.map λu=>(u.nm,(u.m,Ψ u.nm))).lookup x=Za (m,Φ)):∃t∈T,t.nm=x/\t.m=m/\Φ=Ψ x:=by
 induction T with
 |nil=>exact noSome h
 | cons t T i =>
  rw[Ax,Bm] at h;cases q:x==t.nm with
  | true =>
   rw[q] at h;cases h;have:=Bp q;subst this;exact⟨t,Av,rfl,rfl,rfl⟩
  | false =>
   rw[q] at h;obtain⟨u,b,a⟩:=i h;exact⟨u,An _ b,a⟩
theorem z6k {T:List Fd} (n:(T.map (·.nm)).Nodup) {t:Fd} (h:t∈T):T.find? (·.nm==t.nm)=Za t:=by
 induction T with
 |nil=>cases h
 | cons u T i =>
  rw[Ax,Bq] at n;rw[List.find?_cons];rcases Ap.mp h with rfl|h
  ·simp
  ·have:(u.nm==t.nm)=Zc:=by
    cases q:u.nm==t.nm with
    |false=>rfl
    |true=>exact absurd (Dr.mpr ⟨t,h,(Bp q).symm⟩) n.1
   rw[this];exact i n.2 h
theorem ztc {P:Program}{w:World}{K:Zg}{a:Str->Option Ze}{base:Heap}{T:List Fd}{bn:List Str} (nd:(T.map (·.nm)).Nodup) (ok:∀t∈T,FdOk K a t) (y:∀x∈bn,a x=Zb) (j:K.In base) (nb:base.Ns mainGlobals a) :
  ∀(d:Nat) (t:Fd),t∈T->∀f b,Fun K t.nm t.nm t.st f b->a t.nm=Za (.ref f)->FnOk P w K a base CX0 d f b t.ps (spF K t.m (sem T bn d t.nm))
 |0,t,_,f,b,_,_=>⟨λv H Q E h=>(by obtain⟨_,_,_,_,_,_,_,_,h,_⟩:=h;cases h),λA outer s H args us v Q E i V I Z h=>(by obtain⟨_,_,_,_,_,_,_,_,h,_⟩:=h;cases h)⟩
 | d+1,t,p,f,b,F,M=>by
  have o:=ok t p;refine F.okC (k:=d) o.sc (λv H Q E h=>(zv3 h).trans o.m) (λA outer s H v Q E i h=>?_);have L:sem T bn (d+1) t.nm=fnAt T bn (sem T bn d) d t:=by
   show (match T.find? (·.nm==t.nm) with|some t=>fnAt T bn (sem T bn d) d t|none=>λ_=>Zb)=_;rw[z6k nd p]
  rw[L] at h;unfold fnAt at h;cases e:zai T bn (sem T bn d) d t with
  | none =>
   rw[e] at h;nofun;obtain⟨_,_,_,_,_,_,_,_,h,_⟩:=h;ac_rfl;exact noSome h
  | some g =>
   rw [e] at h;have C:CxOk (cxOf CX0 P w K a base t.N t.nm (zar t.st) f b.code A outer s H E).nox (sxOf T bn (sem T bn d) d t) d:={
    N:=rfl
    nd:=o.sc.nd
    loc:=λx e=>e
    cel:=λx e=>⟨e,rfl⟩
    vis:=λx e=>e
    gl:=λx e=>e
    calm:=rfl
    xe:=rfl
    bn:=y
    fs:=λx m Φ e=>by
     nofun;obtain⟨u,l,z,S,G⟩:=zsg e;ac_rfl;subst z S G;nofun;obtain⟨r,D,B,U,n⟩:=(ok u l).ex;ac_rfl;exact⟨u.ps,(ok u l).m.symm,⟨r,D,ztc nd ok y j nb d u l r D B n,U,B.kp,n⟩⟩
    room:=i.1
    sl:=by have:=i.2.un;show A.units+3+16*d+205<cLine;omega
    dpo:=Ag _
    lam:=λh=>by
     have q:=o.lam h;unfold zzj at q;split at q
     ·rename_i c R e
      refine⟨c,R,e,q,?_,rfl⟩;nofun;obtain⟨oc,od,kV,doc,X,W,cdv,Y,osl,z,O,J⟩:=F.ex;ac_rfl;exact PySem.W.law_code j nb e M (j _ _ O) rfl
     ·cases q
    bk:=by
     show (if (zar t.st).kind.isAnnotationScope then ScopeKind.function else (zar t.st).kind)=.function;rw[o.sc.kind];rfl }
   exact⟨_,zil (zh4 deep) C e,zuv h⟩
theorem zsp {K:Zg}{F H:Hp}{a:Zh}{n:List Int}{Φ:Fn}{ws':List W}(c:Same F H)(t:zru K F (λ_ _=>False) H)(h:SqL K F a (n.map V.int))(e:Φ [.frl (n.map W.int)]=Za (ws',#v[6,11]))(d:ws'.length=1){E:XK}:spF K [Zc] Φ [.ref a] H (λv _=>v=.bl Zd) E:=by
 refine⟨F,λ_ _=>False,_,ws',_,rfl,d,⟨rfl,c,λi w q=>?_,λi w q=>?_,λi j a w k q=>?_,λb o q=>q.elim,t⟩,e,λg f v _ _ z=>?_⟩
 ·cases i with
  |zero=>cases q;exact⟨_,rfl,.frl h (Reps.ofInts n)⟩
  |succ i=>cases i<;>exact noSome q
 ·cases i with
  |zero=>cases q
  |succ i=>cases i<;>exact noSome q
 ·cases i with
  |zero=>cases q
  |succ i=>cases i<;>exact noSome q
 ·exact z.isBl
noncomputable def tabsOf (K:Zg):List Zh:=lams.filterMap λx=>(PySem.W.tabIn K x).map (·.2)
theorem zj5 {K:Zg}{b:Zh}:b∈tabsOf K↔∃x∈lams,∃c,PySem.W.tabIn K x=Za (c,b):=by
 unfold tabsOf;rw[List.mem_filterMap];constructor
 ·rintro ⟨x,h,e⟩;cases q:PySem.W.tabIn K x with
  |none=>rw[q] at e;exact noSome e
  |some p=>rw[q] at e;obtain rfl:=sI e;exact⟨x,h,p.1,q⟩
 ·rintro ⟨x,h,c,e⟩;exact⟨x,h,by rw[e];rfl⟩
noncomputable def z8p (K:Zg) (h:Heap):Prop:=∀x∈lams,∀c P,PySem.W.tabIn K x=Za (c,P)->PySem.W.CodeHd h c P/\h.get? P=Za (PySem.W.tabObj #[])
structure Start (K:Zg) (F H:Hp):Prop where
 sub:Same F H
 tb:zru K F (λ_ _=>False) H
theorem zuj {P:Program}{w:World}{K:Zg}{G mb:Str->Option Ze}{CX:CXT}{k:Nat}{fa a:Zh}{fd:FuncData}{x:Str}{sp:Sp}{f:Zf}{vs:List Ze}{D:List Int}
  (KX:K.In f.heap) (nt:PySem.W.noTabs K=Zd) (nd:z64 K) (hT:z8p K f.heap) (S:f.heap.Ns mainGlobals G) (hb:f.heap.Ns builtinsNs mb) (Z:∀x:Str,x≠"__name__" -> mb x=bootBuiltins x) (O:f.heap.NoLimit) (hbm:∃(b:Zh) (A:Obj),G "__builtins__" = Za (.ref b)/\b≠builtinsNs/\f.heap.get? b=Za A/\A.cls=.type "module"/\A.dict=Za builtinsNs/\A.data=.plain) (hg:f.gens=#[])
  (I:f.heap.get? a=Za { cls:=.type "list",data:=.seq vs.toArray }) (hi:IntsAre vs D) (hl:D.length<=sizeLine) (hr:Room k callerA)
  (Fk:∀base:Heap,K.In base->base.Ns mainGlobals G->FnOk P w K G base CX k fa fd [x] sp) (E:∀(s:Zf) (u:Ze),BindsTo s fd ⟨[u],[]⟩ [(x,u)])
  (hsp:∀F H:Hp,Start K F H->SqL K F a (D.map V.int)->sp [.ref a] H (λv _=>v=.bl Zd) λ_ _ _=>False)
  (hCX:∀H e j,CX [] H f (λ_ _ _=>False) e j->False) :
  codeAny (model P w) callerA (.call (.ref fa) ⟨[.ref a],[]⟩) (λr j=>r=.ok (.ret (.bool Zd))/\OldK f.heap j.heap/\j.os=f.os/\AllBare j.gens) f:=by
 have rv:=zk4 hi;have Q:=hi.length;have t:∀b∈tabsOf K,f.heap.get? b=Za (PySem.W.tabObj #[]):=λb h=>by
  nofun;obtain⟨x,M,c,e⟩:=zj5.mp h;ac_rfl;exact (hT x M c b e).2
 have na:a ∉ tabsOf K:=λh=>by
  have:=t a h;rw[I] at this;cases this
 have B:∀F H:Hp,(∀b,H b=Zb\/(b∈tabsOf K/\H b=Za (.tbl #[])/\F b=Zb)\/(b=a/\K.lookup a=Zb/\F b=H b/\∃o xs,H b=Za (.frz o (.lst xs))))->(∀b,H b=Zb->F b=Zb)->(∀b∈tabsOf K,H b=Za (.tbl #[]))->SqL K F a (D.map V.int)->HOk P w H f.heap ->
   codeAny (model P w) callerA (.call (.ref fa) ⟨[.ref a],[]⟩) (λr j=>r=.ok (.ret (.bool Zd))/\OldK f.heap j.heap/\j.os=f.os/\AllBare j.gens) f:=by
  intro F H L hF hB hS T;have g:∀{b:Zh}{o:Obj},f.heap.get? b=Za o->H b=Zb->(hidT f.heap H).get? b=Za o:=λe n=>z0b e n;have noA:∀{b:Zh}{o:Obj}{N:Array DictEntry}{R:Nat},f.heap.get? b=Za o->o.data=.dict N R->H b=Zb:=λ{b o N R} e d=>by
   rcases L b with z|⟨z,_⟩|⟨z,_⟩
   ·exact z
   ·rw[t b z] at e;obtain rfl:=sI e;cases d
   ·subst z
    rw[I] at e;obtain rfl:=sI e;have d':Data.seq vs.toArray _=Data.dict N R:=d;cases d'
  have p:∀{b:Zh}{m:Str->Option Ze},f.heap.Ns b m->(hidT f.heap H).Ns b m:=λ{b m} ⟨o,N,R,e,d,r⟩=>⟨o,N,R,g e (noA e d),d,r⟩;have U:K.In (hidT f.heap H):=λb o e=>g (KX b o e) (by
   rcases L b with z|⟨z,_⟩|⟨z,n,_⟩
   ·exact z
   ·have J:=KX b o e
    rw[t b z] at J;obtain rfl:=sI J;have:=Aw.mp nt (b,_) (PySem.W.mem_of_lookupK e);exact absurd (show Zc=Zd from this) At
   ·subst z
    rw[n] at e;cases e)
  have hM:Mod K G (hidT f.heap H):=⟨U,p S,⟨mb,p hb,Z⟩,let ⟨mc,h1,h2⟩:=O;⟨mc,p h1,h2⟩,by
   nofun;obtain⟨b,A,b1,b2,X,b4,b5,b6⟩:=hbm;ac_rfl;refine⟨b,A,b1,b2,g X ?_,b4,b5,b6⟩;rcases L b with z|⟨z,_⟩|⟨z,_⟩
   ·exact z
   ·rw[t b z] at X;obtain rfl:=sI X;cases b4
   ·subst z;rw[I] at X;obtain rfl:=sI X;exact absurd b4 (by simp)⟩
  have e0:Env0 P w K G (hidT f.heap H) callerA [] f H:=⟨rfl,hM,λb o e=>z5a e,Nat.le_of_eq (zwj _ _),trivial,λb hb=>absurd (show b∈([]:List Zh) from hb) (by simp),T,.of_eq hg⟩;have st:Start K F H:=⟨λb o e=>by
   rcases L b with z|⟨_,_,z⟩|⟨_,_,z,_⟩
   ·rw[hF b z] at e;cases e
   ·rw[z] at e;cases e
   ·rw[<-z];exact e,⟨⟨nd,λ_ _ z=>z⟩,λx M c Y e=>by
   have hm:Y∈tabsOf K:=zj5.mpr ⟨x,M,c,e⟩;refine⟨#[],hB Y hm,?_,λ_ z=>z,trivial,λpos cv q=>by cases q⟩;rcases L Y with z|⟨_,_,z⟩|⟨z,_⟩
   ·exact hF Y z
   ·exact z
   ·subst z;exact absurd hm na⟩⟩
  refine codeAny_mono ((Fk _ U (p S)).run callerA [] f H ⟨[.ref a],[]⟩ [.ref a] [.ref a] _ _ hr e0 (E f (.ref a)) (.cons rfl .nil) (hsp F H st hS)) λr j h=>?_;cases r with
  |error e=>exact (hCX H e j h).elim
  | ok fl =>
   cases fl with
   |next=>exact False.elim h
   |brk=>exact False.elim h
   |cont=>exact False.elim h
   | ret u =>
    nofun;obtain⟨v,H',os,bare,un,C,r',q⟩:=h;ac_rfl;have q':v=.bl Zd:=q;subst q';obtain rfl:u=Ze.bool Zd:=r';refine⟨rfl,⟨λb o e=>?_,λb o e=>un.there b o e (by simp)⟩,os,bare⟩;rcases L b with z|⟨z,z1,_⟩|⟨_,_,_,A,xs,z⟩
    ·exact .inl (un.keep b o e z (by intro y;exact absurd (show b∈([]:List Zh) from y) (by simp)) (by simp))
    ·refine aG λGg qG => ?_
     obtain⟨x,M,c,ex⟩:=zj5.mp z;obtain⟨t1,t2⟩:=hT x M c b ex;ac_rfl;rw[e] at t2;obtain rfl:=sI t2;obtain⟨more,J⟩:=un.tbls b #[] z1;exact .inr (.inl ⟨(t1.tab e).isCodeTable,rfl,#[],more,rfl,C b _ J⟩)
    ·have z2:=un.frzs b A _ z
     obtain⟨e1,_⟩:=T b _ z;obtain⟨J,_⟩:=C b _ z2;rw[e] at e1;obtain rfl:=sI e1;exact .inl J
 have W:∀b,b∈tabsOf K->∀H,zbp P w H f.heap b (.tbl #[]):=λb h H=>t b h;cases hk:K.lookup a with
 | some o =>
  have e:=KX a o hk;rw[I] at e;obtain rfl:=sI e;refine B (λ_=>Zb) (λb=>if b∈tabsOf K then Za (.tbl #[]) else Zb) (λb=>?_) (λ_ _=>rfl) (λb h=>if_pos h) (.inr ⟨_,vs.toArray,_,hk,rfl,rfl,rfl,by rw[Ak,Q];exact hl,by simpa using rv⟩) (λb u z=>?_)
  ·by_cases h:b∈tabsOf K
   ·exact .inr (.inl ⟨h,if_pos h,rfl⟩)
   ·exact .inl (if_neg h)
  ·by_cases h:b∈tabsOf K
   ·have l:=(if_pos h).symm.trans z
    obtain rfl:=sI l;exact W b h _
   ·have l:=(if_neg h).symm.trans z
    cases l
 | none =>
  refine B (λb=>if b=a then Za (.frz { cls:=.type "list",data:=.seq vs.toArray } (.lst (D.map V.int))) else Zb) (λb=>if b=a then Za (.frz { cls:=.type "list",data:=.seq vs.toArray } (.lst (D.map V.int))) else if b∈tabsOf K then Za (.tbl #[]) else Zb) (λb=>?_) (λb z=>?_) (λb h=>?_) (.inl (.inr ⟨{ cls:=.type "list",data:=.seq vs.toArray },if_pos rfl⟩)) (λb u z=>?_)
  ·by_cases i:b=a
   ·exact .inr (.inr ⟨i,hk,by simp only [if_pos i],_,_,if_pos i⟩)
   ·by_cases h:b∈tabsOf K
    ·exact .inr (.inl ⟨h,by simp only [if_neg i,if_pos h],if_neg i⟩)
    ·exact .inl (by simp only [if_neg i,if_neg h])
  ·by_cases i:b=a
   ·simp only [if_pos i] at z;cases z
   ·exact if_neg i
  ·have i:b≠a:=λz=>by subst z;exact na h
   simp only [if_neg i,if_pos h]
  ·by_cases i:b=a
   ·have l:Za (HO.frz { cls:=.type "list", data:=.seq vs.toArray } (.lst (D.map V.int)))=Za u:=by simpa only [if_pos i] using z
    obtain rfl:=sI l;subst i;exact⟨I,by rw[Ad];exact hl,vs,_,rv,I⟩
   ·by_cases h:b∈tabsOf K
    ·have l:Za (HO.tbl #[])=Za u:=by simpa only [if_neg i,if_pos h] using z
     obtain rfl:=sI l;exact W b h _
    ·have l:(Zb:Option HO)=Za u:=by simpa only [if_neg i,if_neg h] using z
     cases l
noncomputable def zvu (K:Zg):Bool:=lams.all λx=>lams.all λa=>match PySem.W.tabIn K x,PySem.W.tabIn K a with
 |some p,Za b=>x==a || !(p.2==b.2)
 |_,_=>Zd
theorem zzd {K:Zg}(h:zvu K=Zd):z64 K:=λx d f a c g P e b=>by
 have:=Aw.mp (Aw.mp h x d) f a;rw[e,b] at this;simpa using this
theorem walk_ofT {l:PySem.W.OpenLaw}{n k:Nat}{q:Program}{i:List Str}{X:(Str->Option Ze)->Heap->Prop}{J:World->Heap->Prop}{d:DefRec}{K:Params->Zg}{CX:World->CXT}{sp:World->Sp}{x:Str}
  (U:l.most=Za n) (I:n<=sizeLine) (C:d.params.defaults=[]) (hr:Room k callerA)
  (hY:∀(w:World) (h:Heap),J w h->(K w.params).In h)
  (Q:∀w:World,PySem.W.noTabs (K w.params)=Zd) (W:∀w:World,zvu (K w.params)=Zd) (hrec:∀(w:World),∀x∈lams,∀c P,PySem.W.tabIn (K w.params) x=Za (c,P)->∃d,(recsOf q).find? (λe=>e.name==x)=Za d)
  (F:∀(w:World) (m:Str->Option Ze) (r:Zh) (h:Heap),(K w.params).In h->h.Ns mainGlobals m->m d.name=Za (.ref r) ->
   ∃A:FuncData,(∀(s:Zf) (u:Ze),BindsTo s A ⟨[u],[]⟩ [(x,u)]) /\
    ∀base:Heap,(K w.params).In base->base.Ns mainGlobals m->FnOk l.prog w (K w.params) m base (CX w) k r A [x] (sp w))
  (z:∀(w:World) (F H:Hp) (a:Zh) (t:List Int),t.length<=n->Start (K w.params) F H->SqL (K w.params) F a (t.map V.int)->sp w [.ref a] H (λv _=>v=.bl Zd) λ_ _ _=>False)
  (B:∀(w:World) (H:Hp) (s:Zf) (e:Ze) (E:Zf),CX w [] H s (λ_ _ _=>False) e E->False) :
  PySem.W.WalkO q i X J l.row.toRowW d [] (λf L=>PySem.call f L):=by
 refine Att.attach_call U C λw s₀ p m mb r o pm cd doc a L t G Y ho M O D j g b N=>?_;have y:=hY w _ Y;obtain⟨A,Z,hF⟩:=F w m r _ y G.T.g D;refine zuj y (Q w) (zzd (W w)) (λx R c S e=>?_) G.T.g G.T.b G.T.builtins G.T.nolimit G.T.bmain N j g (Bj b I) hr hF Z (λF H T hS=>z w F H a t b T hS) λH e E=>B w H p e E;obtain⟨d,M⟩:=hrec w x R c S e;exact PySem.W.tab_of G.T y M e
theorem zww (i j:Int):oAdd (.int i) (.int j)=#v[(i+j),0]:=rfl
theorem ztt {i j:Int}(h:cMul i j=Zd):oMult (.int i) (.int j)=#v[(i*j),0]:=by
 show (match (if cMul i j then #v[W.int (i*j),6] else Zb) with|some p=>Za p|none=>_)=_;rw[if_pos h]
theorem oMult_l {i j:Int}(a:-(2^64)<i)(h:i<2^64):oMult (.int i) (.int j)=#v[(i*j),0]:=ztt (by
 unfold cMul;rw[Cd,Ab];exact .inl ⟨Ah a,Ah h⟩)
theorem zob {i j:Int}(a:-(2^64)<j)(h:j<2^64):oMult (.int i) (.int j)=#v[(i*j),0]:=ztt (by
 unfold cMul;rw[Cd,Ab,Ab];exact .inr ⟨Ah a,Ah h⟩)
theorem zxb {i j:Int}(b:Builtin.Int.intBits i<=2^20)(a:Builtin.Int.intBits j<=2^20):oMult (.int i) (.int j)=#v[(i*j),0]:=by
 have h:zry i j=Zd:=by
  unfold zry;rw[Ab];exact⟨Ah b,Ah a⟩
 show (match (if cMul i j then #v[W.int (i*j),6] else Zb) with|some p=>Za p|none=>(match (if zry i j then #v[W.int (i*j),6] else Zb) with|some p=>Za p|none=>_))=_;rw[if_pos h];split<;>simp_all
theorem zw9 {xs:List W}{k:Int}(h:-(2^63)<=k/\k<2^63/\xs.length*k.toNat<=sizeLine):oMult (.lst xs) (.int k)=#v[(List.replicate k.toNat xs).flatten,2]:=by
 show (if -(2^63)<=k/\k<2^63/\xs.length*k.toNat<=sizeLine then Za (W.lst (List.replicate k.toNat xs).flatten,Zd) else Zb)=_;rw[if_pos h]
theorem znl {xs ys:List W}(h:xs.length+ys.length<=sizeLine):oAdd (.lst xs) (.lst ys)=#v[(xs++ys),2]:=by
 show (match (if xs.length+ys.length<=sizeLine then #v[W.lst (xs++ys),5] else Zb) with|some p=>Za p|none=>_)=_;rw[if_pos h]
theorem z9j {i j:Int}(a:0<j)(h:j<2^200):cDiv i j=Zd:=by
 unfold cDiv;rw[Ab];refine⟨Ah a,Ah ?_⟩;have c:j.natAbs≠0:=by omega
 have b:j.natAbs<2^200:=by
  have:((j.natAbs:Nat):Int)<((2^200:Nat):Int):=by
   rw[Int.natCast_pow];have e:((j.natAbs:Nat):Int)=j:=by omega
   rw[e];exact h
  exact Int.ofNat_lt.mp this
 exact Bd ((Nat.log2_lt c).mpr b) #v[0,9]
theorem zqf {i j:Int}(a:0<j)(h:j<18446744073709551617):cDiv i j=Zd:=z9j a (Int.lt_of_lt_of_le h #v[0,9])
theorem zkw {i j:Int}(h:0<=j)(b:j<=1000000)(a:i.natAbs<2^64):cPow i j=Zd:=by
 unfold cPow;rw[Ab,Ab];exact⟨⟨Ah h,Ah b⟩,Ah a⟩
theorem zq0 {mp:List Nat}{T:Tg}{body:GS} (P:Nat->En->Prop):∀(b:List W) (k:Nat) (en:En),P k en->(∀i w e,b[i]?=Za w->P (k+i) e->∃d a,tgSet mp T w e=Za d/\(body d=Za (a,.nx)\/body d=Za (a,.cnt))/\P (k+i+1) a) ->
  ∃c,zmf mp T body b en=Za (c,.nx)/\P (k+b.length) c
 |[],k,en,f,_=>⟨en,rfl,f⟩
 | w::b,k,en,f,g=>by
  refine aG λ_ qG=>?_;obtain ⟨d,a,l,h,p⟩:=g 0 w en rfl f;refine qG ?_;clear qG;obtain ⟨c,n,o⟩:=zq0 P b (k+1) a p λi u e j m=>by
   have:=g (i+1) u e (by simpa using j) (by rw[show k+(i+1)=k+1+i by omega];exact m);rw[show k+(i+1)+1=k+1+i+1 by omega] at this;exact this
  refine⟨c,?_,by rw[show k+(w::b).length=k+1+b.length by rw[Ay];omega];exact o⟩;show (tgSet mp T w en).bind _=_;rw[l];show (match body d with|some (a,.nx)=>zmf mp T body b a|some (a,.cnt)=>zmf mp T body b a|some (a,.brk)=>Za (a,.nx)|some (a,.ret r)=>Za (a,.ret r)|none=>Zb)=_;rcases h with h|h<;>(rw[h];exact n)
theorem zaz {mp:List Nat}{T:Tg}{it:GL}{body:GS} (P:Nat->En->Prop) {en e0:En}{ws:List W} (g:it en=Za (e0,ws)) (j:P 0 e0) (k:∀i w e,ws[i]?=Za w->P i e->∃c b,tgSet mp T w e=Za c/\(body c=Za (b,.nx)\/body c=Za (b,.cnt))/\P (i+1) b) :
  ∃a,gFor mp T it body en=Za (a,.nx)/\P ws.length a:=by
 obtain⟨a,f,h⟩:=zq0 P ws 0 e0 j λi w e l d=>by
  rw[Co] at d ⊢;exact k i w e l d
 refine⟨a,?_,by rw[Co] at h;exact h⟩;unfold gFor;rw[g];exact f
theorem zln {mp:List Nat}{T:Tg}{tc:GT}{te:GE} (P:Nat->En->List W->Prop):∀(e:List W) (k:Nat) (l:En) (j:List W),P k l j ->
  (∀i w c j,e[i]?=Za w->P (k+i) c j->∃m,tgSet mp T w c=Za m/\((∃b f r,tc m=#v[b,5]/\te b=Za (f,r)/\P (k+i+1) f (j++[r.1]))\/∃b,tc m=#v[b,6]/\P (k+i+1) b j)) ->
  ∃a rest,zgx mp T tc te e l=Za (a,rest)/\P (k+e.length) a (j++rest)
 |[],k,l,j,t,_=>⟨l,[],rfl,by rw[By];exact t⟩
 | w::e,k,l,j,t,A=>by
  obtain ⟨m,z,C⟩:=A 0 w l j rfl t;have next:∀f g,P (k+1) f g->∃a rest,zgx mp T tc te e f=Za (a,rest)/\P (k+1+e.length) a (g++rest):=λf g h=>zln P e (k+1) f g h λi u c d D B=>by
   have:=A (i+1) u c d (by simpa using D) (by rw[show k+(i+1)=k+1+i by omega];exact B);rw[show k+(i+1)+1=k+1+i+1 by omega] at this;exact this
  have y:k+(w::e).length=k+1+e.length:=by rw[Ay];omega
  rcases C with⟨b,f,r,s,E,o⟩|⟨b,s,o⟩
  ·obtain ⟨a, rest,x,n⟩:=next f _ o
   refine⟨a,r.1::rest,?_,by rw[y];rw[Bc] at n;exact n⟩;show (tgSet mp T w l).bind _=_;rw[z];show (match tc m with|#v[b,5]=>(te b).bind λp=>(zgx mp T tc te e p.1).bind λq=>Za (q.1,p.2.1::q.2)|#v[b,6]=>zgx mp T tc te e b|none=>Zb)=_;rw[s];show (te b).bind _=_;rw[E];show (zgx mp T tc te e f).bind _=_;rw[x]
   rfl
  ·obtain ⟨a, rest,x,n⟩:=next b _ o
   refine⟨a,rest,?_,by rw[y];exact n⟩;show (tgSet mp T w l).bind _=_;rw[z];show (match tc m with|#v[b,5]=>(te b).bind λp=>(zgx mp T tc te e p.1).bind λq=>Za (q.1,p.2.1::q.2)|#v[b,6]=>zgx mp T tc te e b|none=>Zb)=_;rw[s];exact x
theorem zc1 {cap:Cap}{T:Tg}{it:GL}{tc:GT}{te:GE} (P:Nat->En->List W->Prop) {en e0:En}{ws:List W} (j:it en=Za (e0,ws)) (o:zb0 cap=Zd) (k:ws.length<=sizeLine) (n:P 0 (zej cap e0) [])
  (p:∀i w c d,ws[i]?=Za w->P i c d->∃e,tgSet (capKeep cap) T w c=Za e/\((∃b g r,tc e=#v[b,5]/\te b=Za (g,r)/\P (i+1) g (d++[r.1]))\/∃b,tc e=#v[b,6]/\P (i+1) b d)) :
  ∃a out,za7 cap T it tc te en=Za (zau cap e0 a,(.lst out,Zd))/\P ws.length a out:=by
 obtain⟨a,rest,m,f⟩:=zln P ws 0 (zej cap e0) [] n λi w c d l h=>by
  rw[Co] at h ⊢;exact p i w c d l h
 refine⟨a,rest,?_,by rw[Co] at f;exact f⟩;unfold za7;rw[j];show (if zb0 cap&&decide (ws.length<=sizeLine) then _ else Zb)=_;rw[if_pos (by rw[o,Ah k];rfl),m]
 rfl
theorem zen {lo:Int}{n i:Nat}{w:W} (h:(rngW lo n)[i]?=Za w):i<n/\w=.int (lo+i):=by
 unfold rngW at h;rw[Aj] at h;cases q:(List.range n)[i]? with
 |none=>rw[q] at h;exact noSome h
 | some k =>
  rw[q] at h;obtain⟨a,e⟩:=Af.mp q;rw[Bi] at a;rw[List.getElem_range] at e;subst e;exact⟨a,(sI h).symm⟩
theorem zf7 (lo:Int)(n:Nat):(rngW lo n).length=n:=by unfold rngW;rw[Ad,Bi]
theorem zbz {xs:List W}{i:Nat}{x:W}(h:xs[i]?=Za x):atI xs (i:Int)=Za x:=z6b h
theorem zw4 {en:En}:zcw [] [] en=Za []:=rfl
theorem zw6 {m:List Bool}{ws:List W}{en:En}{x w:W}:zcw (Zd::m) (x::ws) (#v[w,5]::en)=(zcw m ws en).bind λr=>Za (w::r):=rfl
theorem zw5 {m:List Bool}{ws:List W}{en:En}{w:W}{o:Option (W×Bool)}:zcw (Zc::m) (w::ws) (o::en)=(zcw m ws en).bind λr=>Za (w::r):=rfl
noncomputable def HS (k:Nat) (w:W):Prop:=∃a b c:Int,w=.lst [.int a,.int b,.int c]/\0<=a/\0<=b/\b<MM/\0<=c/\c<=k
theorem HS.mono {k d:Nat}{w:W}(h:HS k w)(l:k<=d):HS d w:=by
 obtain⟨a,b,c,e,g,f,j,i,m⟩:=h;exact⟨a,b,c,e,g,f,j,i,by omega⟩
noncomputable def zgm (Φ:Fn):Prop:=∀(k:Nat) (a:W) (n:Int),HS k a->k<big->0<n->n<1073741824->∃s r,Φ [a,.int n]=Za ([s,.int n],(.int r,Zc))/\HS (k+1) s/\0<=r/\r<n
noncomputable def zvd (Ψ:Str->Fn):GS:=(gSeq (gIfS (zaj (gOp2 #v[6,9] #v[6,16] #v[0])) (gSeq (gSet [0] 2 (gOp2 #v[0,0,2] #v[6,16] (zaa 1))) (gSeq (za9 0 (gC (.int 0)) (gOp2 #v[0,0,3] #v[6,16] (zaa 1))) (zcn [0] 2))) zb6) (gSeq (za9 0 (gC (.int 2)) (gOp2 oAdd #v[5,16] #v[1])) (gSeq (gSet [0] 3 (gOp2 #v[0,0,2] (gArg (gOp2 oMult (gArg (gOp2 oAdd (gArg (gOp2 oAdd (gArg (gOp2 oIx (zaa 0) #v[1])) (gArg (gOp2 oMult (gArg (gOp2 oMult #v[65537] #v[5,16])) #v[5,16])))) #v[11])) #v[48271])) #v[2305843009213693921])) (gSeq (gSet [0] 3 (gOp2 #v[0,0,2] (gArg (gOp2 oMult (zaa 3) (gArg (gOp2 oAdd (gArg (gOp2 #v[0,0,2] (zaa 3) #v[1000003])) (gArg (gOp2 oMult #v[99991] #v[5,16])))))) #v[2305843009213693907])) (gRet (gOp2 #v[0,0,2] (gArg (gOp2 oAdd (gArg (gOp2 #v[0,0,3] (zaa 3) #v[97])) (gArg (gOp2 #v[0,0,3] (zaa 3) #v[1000033])))) (zaa 1)))))))
theorem z7j (Ψ:Str->Fn):zgm (zad [Zd,Zc] 4 (zvd Ψ)):=by
 rintro k C n ⟨a,b,c,rfl,f,h,g,o,y⟩ l d x;have A:(k:Int)<1099511627776:=by have:k<1099511627776:=l;omega
 by_cases j:0<a
 ·refine⟨.lst [.int (a/n),.int b,.int c],a%n, ?_,⟨_,_,_,rfl,Int.ediv_nonneg f #v[],h,g,o,by omega⟩,Fz _ #v[],Ex _ d⟩;have r:cDiv a n=Zd:=zqf d #v[];simp [zad,zvd,za8,gSeq,gIfS,zaj,gOp2,gArg,zaa,gC,resA,oI,yes2,oIx,seqW,atI,ixN,gSet,za9,zcn,zw4,zw6,zw5,j,d,r]
 ·have t:oMult (.int 65537) (.int (c+1))=Za (.int (65537*(c+1)),Zc):=oMult_l #v[0,9] #v[0,9];have s:oMult (.int (65537*(c+1))) (.int (c+1))=#v[(65537*(c+1)*(c+1)),0]:=zob #v[] #v[];have e:oMult (.int (b+65537*(c+1)*(c+1)+11)) (.int 48271)=#v[((b+65537*(c+1)*(c+1)+11)*48271),0]:=zob #v[0,9] #v[0,9];generalize w:(b+65537*(c+1)*(c+1)+11)*48271=x0 at e;have m:oMult (.int 99991) (.int (c+1))=#v[(99991*(c+1)),0]:=oMult_l #v[0,9] #v[0,9];have B:0<=x0%2305843009213693921:=Fz _ #v[0,9];have z:x0%2305843009213693921<2305843009213693921:=Ex _ #v[0,9];have q:oMult (.int (x0%2305843009213693921)) (.int (x0%2305843009213693921%1000003+99991*(c+1)))=#v[(x0%2305843009213693921*(x0%2305843009213693921%1000003+99991*(c+1))),0]:=oMult_l #v[] #v[];have p:∀i,cDiv i 97=Zd:=λi=>zqf #v[0,9] #v[0,9];have u:∀i,cDiv i 1000033=Zd:=λi=>zqf #v[0,9] #v[0,9];refine⟨.lst [.int a,.int b,.int (c+1)],(x0%2305843009213693921*(x0%2305843009213693921%1000003+99991*(c+1))%2305843009213693907/97+x0%2305843009213693921*(x0%2305843009213693921%1000003+99991*(c+1))%2305843009213693907/1000033)%n,?_,⟨_,_,_,rfl,f,h,g,by omega,by omega⟩,Fz _ #v[],Ex _ d⟩
  ·simp [zad,zvd,za8,gSeq,gIfS,zaj,gOp2,gArg,zaa,gC,resA,oI,yes2,oIx,seqW,atI,ixN,gSet,za9,gRet,zb6,zw4,zw6,zw5,j,d,zww,t,s,e,m,q,p,u]
theorem seq_nx {a b:GS}{en e1:En}(h:a en=Za (e1,.nx)):gSeq a b en=b e1:=by unfold gSeq;rw[h]
theorem z9l {a b:GS}{en e1:En}{r:W×Bool}(h:a en=Za (e1,.ret r)):gSeq a b en=Za (e1,.ret r):=by unfold gSeq;rw[h]
theorem zed {mp:List Nat}{i:Nat}{g:GE}{en e1:En}{r:W×Bool}(h:g en=Za (e1,r))(a:(mp.contains i || !decide (i<e1.length))=Zc):gSet mp i g en=Za (e1.set i (Za r),.nx):=by
 unfold gSet;rw[h];show (if (mp.contains i || !decide (i<e1.length))=Zd then _ else _)=_;rw[a]
 rfl
theorem ya0 {c:GT}{a b:GS}{en e1:En}(h:c en=#v[e1,5]):gIfS c a b en=a e1:=by unfold gIfS;rw[h]
theorem yaf {c:GT}{a b:GS}{en e1:En}(h:c en=#v[e1,6]):gIfS c a b en=b e1:=by unfold gIfS;rw[h]
theorem z5e {g:GE}{en e1:En}{b f:Bool}(h:g en=Za (e1,(.bl b,f))):zaj g en=Za (e1,b):=by unfold zaj;rw[h]
theorem z2r {g:GE}{en e1:En}{r:W×Bool}(h:g en=Za (e1,r)):gRet g en=Za (e1,.ret r):=by unfold gRet;rw[h];rfl
theorem zx8 {g:GE}{en e1:En}{r:W×Bool}(h:g en=Za (e1,r)):zc2 g en=Za (e1,.nx):=by unfold zc2;rw[h];rfl
theorem zcf {g:GE}{en e1:En}{r:W×Bool}(h:g en=Za (e1,r)):gArg g en=Za (e1,.inl r.1):=by unfold gArg;rw[h];rfl
theorem z2t {a:GA}{as:GAs}{en e1 e:En}{x:W ⊕ Nat}{xs:List (W ⊕ Nat)}(h:a en=Za (e1,x))(b:as e1=Za (e,xs)):gCns a as en=Za (e,x::xs):=by
 unfold gCns;rw[h];show (as e1).bind _=_;rw[b]
 rfl
theorem zbu {o:O2}{a b:GA}{en e1 e:En}{x y:W ⊕ Nat}{w u:W}{r:W×Bool}(c:a en=Za (e1,x))(h:b e1=Za (e,y))(f:resA e x=Za w)(h4:resA e y=Za u)(d:o w u=Za r):gOp2 o a b en=Za (e,r):=by
 unfold gOp2;rw[c];show (b e1).bind _=_;rw[h];show (resA e x).bind _=_;rw[f];show (resA e y).bind _=_;rw[h4];show (o w u).bind _=_;rw[d]
 rfl
theorem z96 {o:ON}{as:GAs}{en e1:En}{xs:List (W ⊕ Nat)}{ws:List W}{r:W×Bool}(a:as en=Za (e1,xs))(h:zas e1 xs=Za ws)(b:o ws=Za r):gOpN o as en=Za (e1,r):=by
 unfold gOpN;rw[a];show (zas e1 xs).bind _=_;rw[h];show (o ws).bind _=_;rw[b]
 rfl
theorem za3 {m:List Bool}{n:Nat}{g:GS}{ws ws':List W}{en:En}{r:W×Bool}(b:ws.length=m.length)(h:g (za8 m ws++List.replicate (n-m.length) Zb)=Za (en,.ret r))(a:zcw m ws en=Za ws'):zad m n g ws=Za (ws',r):=by
 unfold zad;rw[if_pos b,h];show (zcw m ws en).bind _=_;rw[a]
 rfl
theorem zcv:∀(a:List W) (i:Nat),zav (za6 (a.map Sum.inl)) i=Zb
 |[],i=>rfl
 | w::a,i=>by
  have:=zcv a i;unfold zav za6 at this ⊢;rw[Ax,Ax,List.findIdx?_cons,this]
  rfl
theorem zgp (ws:List W):zb0 (za6 (ws.map Sum.inl))=Zd:=by
 unfold zb0;refine Aw.mpr λj _=>?_;have:∀i,(za6 (ws.map Sum.inl))[j]?≠Za (Za i):=λi=>zc0 (zcv ws i) j;cases q:(za6 (ws.map Sum.inl))[j]? with
 |none=>rfl
 | some o =>
  cases o with
  |none=>rfl
  |some i=>exact absurd q (this i)
theorem zld {cap:Cap}{en c:En}(h:∀i,zav cap i=Zb):zau cap en c=en:=by
 unfold zau;apply Ds;intro i;rw[Go];cases en[i]? with
 |none=>rfl
 |some x=>simp only [Gq,h i]
theorem zb7 (en:En):∀a:List W,zas en (a.map Sum.inl)=Za a
 |[]=>rfl
 |w::a=>by show (Za w).bind _=_;show (zas en (a.map Sum.inl)).bind _=_;rw[zb7 en a];rfl
theorem zey (en:En)(ws:List W):zaw en (ws.map Sum.inl)=Zd:=by
 unfold zaw;refine Aw.mpr λx h=>?_;obtain⟨w,_,rfl⟩:=Dr.mp h
 rfl
theorem zk9 {m:List Bool}{Φ:Fn}{as:GAs}{en e1:En}{ws ws':List W}{r:W×Bool}(h:as en=Za (e1,ws.map Sum.inl))(b:(ws.map λ_=>Zc)=m)(a:Φ ws=Za (ws',r))(c:ws'.length=ws.length):gCall m Φ as en=Za (e1,r):=by
 unfold gCall;rw[h];show (if (decide ((ws.map Sum.inl).map isR=m)&&zaw e1 (ws.map Sum.inl)&&zb0 (za6 (ws.map Sum.inl)))=Zd then _ else _)=_;have e:(ws.map Sum.inl).map isR=m:=by rw[<-b,Cr];rfl
 rw[Ah e,zey,zgp];show (zas e1 (ws.map Sum.inl)).bind _=_;rw[zb7];show (Φ ws).bind _=_;rw[a];show (if ws'.length=m.length then _ else _)=_;rw[if_pos (by rw[c,<-b,Ad]),zld (zcv ws)]
theorem zq2 {m:List Bool}{Φ:Fn}{as:GAs}{en e1:En}{i:Nat}{ws wz:List W}{st s:W}{r:W×Bool} (h:as en=Za (e1,.inr i::ws.map Sum.inl)) (d:(Zd::ws.map λ_=>Zc)=m) (a:e1[i]?=Za (Za (st,Zd))) (b:Φ (st::ws)=Za (s::wz,r)) (n:wz.length=ws.length):gCall m Φ as en=Za (e1.set i (Za (s,Zd)),r):=by
 have f:∀j,zav (za6 (.inr i::ws.map Sum.inl)) j=if j=i then Za 0 else Zb:=λj=>by
  have:=zcv ws j;unfold zav za6 at this ⊢;rw[Ax,List.findIdx?_cons];by_cases e:j=i
  ·subst e;simp
  ·have:(Za i==Za j)=Zc:=by simp;exact λz=>e z.symm
   simp only [this];rw[if_neg e]
   simp_all
 have t:zb0 (za6 (.inr i::ws.map Sum.inl))=Zd:=by
  unfold zb0;refine Aw.mpr λj _=>?_;cases j with
  | zero =>
   show (match (za6 (.inr i::ws.map Sum.inl))[0]? with|some (Za k)=>zav (za6 (.inr i::ws.map Sum.inl)) k==Za 0|_=>Zd)=Zd;show (zav (za6 (.inr i::ws.map Sum.inl)) i==Za 0)=Zd;rw[f i,if_pos rfl]
   rfl
  | succ j =>
   have:∀k,(za6 (ws.map Sum.inl))[j]?≠Za (Za k):=λk=>zc0 (zcv ws k) j;have e:(za6 (.inr i::ws.map Sum.inl))[j+1]?=(za6 (ws.map Sum.inl))[j]?:=rfl;rw[e];cases q:(za6 (ws.map Sum.inl))[j]? with
   |none=>rfl
   | some o =>
    cases o with
    |none=>rfl
    |some k=>exact absurd q (this k)
 unfold gCall;rw[h];show (if (decide ((.inr i::ws.map Sum.inl).map isR=m)&&zaw e1 (.inr i::ws.map Sum.inl)&&zb0 (za6 (.inr i::ws.map Sum.inl)))=Zd then _ else _)=_;have e:(Sum.inr i::ws.map Sum.inl).map isR=m:=by rw[<-d,Ax,Cr];rfl
 have p:zaw e1 (.inr i::ws.map Sum.inl)=Zd:=by
  have:=zey e1 ws;unfold zaw at this ⊢;rw[Cg,this];simp only [a,Bool.and_true]
 rw [Ah e,p,t];have l:zas e1 (.inr i::ws.map Sum.inl)=Za (st::ws):=by
  show (resA e1 (.inr i)).bind _=_;have:resA e1 (.inr i)=Za st:=by unfold resA;simp only [a]
  rw[this];show (zas e1 (ws.map Sum.inl)).bind _=_;rw[zb7]
  rfl
 show (zas e1 (.inr i::ws.map Sum.inl)).bind _=_;rw[l];show (Φ (st::ws)).bind _=_;rw[b];show (if (s::wz).length=m.length then _ else _)=_;rw[if_pos (by rw[<-d,Ay,Ay,Ad,n])];refine congrArg Za (congrArg (·,r) ?_);unfold zau;apply Ds;intro j;rw[Go];have g:i<e1.length:=(Af.mp a).1;by_cases c:j=i
 ·subst c
  rw[Dv g,a];simp only [Gq,f j,if_pos];rw[<-d]
  rfl
 ·rw [Cp (Ne.symm c)]
  cases e1[j]? with
  |none=>rfl
  |some x=>simp only [Gq,f j,if_neg c]
theorem zg4 {m:List Bool}{Φ:Fn}{as:GAs}{en:En}{i:Nat}{ws wz:List W}{st s:W}{r:W×Bool}(h:as en=Za (en,.inr i::ws.map Sum.inl))(c:(Zd::ws.map λ_=>Zc)=m)(b:en[i]?=Za (#v[st,5]))(a:Φ (st::ws)=Za (s::wz,r))(d:wz.length=ws.length):gCall m Φ as en=Za (en.set i (#v[s,5]),r):=zq2 h c b a d
theorem zif {a w:W}{ws:List W}{i:Int}(h:seqW a=Za ws)(b:atI ws i=Za w):oIx a (.int i)=#v[w,6]:=by
 unfold oIx;cases a<;>simp_all
theorem oI_t {c:Int->Int->Bool}{g:Int->Int->W}{i j:Int}(h:c i j=Zd):oI c g (.int i) (.int j)=#v[g i j,6]:=by
 show (if c i j then #v[g i j,6] else Zb)=_;rw[if_pos h]
theorem set_0 {mp:List Nat}{i:Nat}{g:GE}{en:En}{r:W×Bool}(h:g en=Za (en,r))(a:(mp.contains i || !decide (i<en.length))=Zc):gSet mp i g en=Za (en.set i (Za r),.nx):=zed h a
theorem arg_0 {g:GE}{en:En}{r:W×Bool}(h:g en=Za (en,r)):gArg g en=Za (en,.inl r.1):=zcf h
theorem op2_0 {o:O2}{a b:GA}{en:En}{x y:W ⊕ Nat}{w u:W}{r:W×Bool}(c:a en=Za (en,x))(h:b en=Za (en,y))(e:resA en x=Za w)(h4:resA en y=Za u)(d:o w u=Za r):gOp2 o a b en=Za (en,r):=zbu c h e h4 d
theorem zst {a:GA}{as:GAs}{en:En}{x:W ⊕ Nat}{xs:List (W ⊕ Nat)}(h:a en=Za (en,x))(b:as en=Za (en,xs)):gCns a as en=Za (en,x::xs):=z2t h b
theorem z17 {g:GE}{en:En}{r:W×Bool}(h:g en=Za (en,r)):gRet g en=Za (en,.ret r):=z2r h
theorem znd {m:List Bool}{Φ:Fn}{as:GAs}{en:En}{ws ws':List W}{r:W×Bool}(h:as en=Za (en,ws.map Sum.inl))(b:(ws.map λ_=>Zc)=m)(a:Φ ws=Za (ws',r))(c:ws'.length=ws.length):gCall m Φ as en=Za (en,r):=zk9 h b a c
theorem zn9 {i:Nat}{k g:GE}{en:En}{w:W}{ws:List W}{n:Int}{j:Nat}{f f2:Bool}(h:g en=Za (en,(w,f)))(b:k en=Za (en,(.int n,f2)))(a:en[i]?=Za (#v[ws,2]))(c:ixN ws.length n=Za j):za9 i k g en=Za (en.set i (#v[(ws.set j w),2]),.nx):=by
 unfold za9;simp only [h,Dp,a,b,c]
theorem z3v {i:Nat}{g:GE}{en e1:En}{u ws:List W}{r:W×Bool}(a:en[i]?=Za (#v[u,2]))(h:g en=Za (e1,r))(b:e1[i]?=Za (#v[ws,2]))(c:ws.length<sizeLine):gApp i g en=Za (e1.set i (#v[(ws++[r.1]),2]),(.non,Zc)):=by
 unfold gApp;simp only [a,h,Dp,b];rw[if_pos c]
noncomputable def ya8 (Ψ:Str->Fn):GS:=(gSeq (gSet [0] 2 (gCall [Zd,Zc] (Ψ "_law_take") (gCns (zaa 0) (gCns #v[4] gA0)))) (gSeq (gIfS (zaj (gOp2 oEq (zaa 2) #v[3])) (gRet (gOp2 oMult (gArg (zaq (gCns (gArg (gCall [Zd,Zc] (Ψ "_law_take") (gCns (zaa 0) (gCns #v[2] gA0)))) gA0))) (zaa 1))) zb6) (gSeq (gSet [0] 3 (zaq gA0)) (gSeq (gFor [0] (.nm 4) (zbt #v[6,22]) #v[0,7]) (zcn [0] 3)))))
noncomputable def z3n (Φ:Fn):Prop:=∀(k:Nat) (a:W) (n:Int),HS k a->k+100<big->0<=n->n<=64->∃s x,Φ [a,.int n]=Za ([s,.int n],(.lst (x.map W.int),Zd))/\HS (k+66) s/\(x.length:Int)=n/\Bits x
theorem three {r:Int}(b:0<=r)(h:r<4)(a:r≠3):r=0\/r=1\/r=2:=by omega
theorem zqx {α:Type}(x:α):∀n:Nat,(List.replicate n [x]).flatten=List.replicate n x
 |0=>rfl
 |n+1=>by rw[Ct,El,zqx x n];rfl
theorem z46 {Ψ:Str->Fn}(hT:zgm (Ψ "_law_take")):z3n (zad [Zd,Zc] 6 (ya8 Ψ)):=by
 intro k st n Q Z n0 n1;have Y:(64:Nat)<=sizeLine:=by decide
 nofun;obtain⟨st1,way,p,A,M,F⟩:=hT k st 4 Q #v[] #v[0,9] #v[0,9];ac_rfl;have S:gCall [Zd,Zc] (Ψ "_law_take") (gCns (zaa 0) (gCns #v[4] gA0)) [#v[st,5],#v[n,0],Zb,Zb,Zb,Zb]=Za ([#v[st1,5],#v[n,0],Zb,Zb,Zb,Zb],(.int way,Zc)):=zg4 (i:=0) (ws:=[.int 4]) (wz:=[.int 4]) rfl rfl rfl p rfl;have B:=zed (mp:=[0]) (i:=2) S rfl;by_cases C:way=3
 ·subst C;refine aG λ_ qG=>?_;obtain ⟨st2,b,s,g,c,d⟩:=hT (k+1) st1 2 A (by omega) (by decide) (by decide);refine qG ?_;clear qG;have L:gCall [Zd,Zc] (Ψ "_law_take") #v[6,20] #v[3,17]=Za (#v[2,17],(.int b,Zc)):=zg4 (i:=0) (ws:=[.int 2]) (wz:=[.int 2]) rfl rfl rfl s rfl;have U:zaq (gCns (gArg (gCall [Zd,Zc] (Ψ "_law_take") #v[6,20])) gA0) #v[3,17]=Za (#v[2,17],(.lst [.int b],Zd)):=by
   unfold zaq;rw[z2t (zcf L) (show gA0 _=_ from rfl)]
   rfl
  have D:oMult (.lst [.int b]) (.int n)=#v[(List.replicate n.toNat (.int b)),2]:=by
   rw[zw9 (by refine⟨by omega,by omega,?_⟩;show 1*n.toNat<=sizeLine;omega),zqx]
  refine⟨st2,List.replicate n.toNat b,?_,g.mono #v[],by rw[Ed];omega,λx j=>by rw[List.eq_of_mem_replicate j];omega⟩;refine za3 (en:=[#v[st2,5],#v[n,0],#v[3,0],Zb,Zb,Zb]) rfl ?_ rfl;refine (seq_nx B).trans (z9l ?_);refine (ya0 (e1:=[#v[st1,5],#v[n,0],#v[3,0],Zb,Zb,Zb]) rfl).trans (z2r (zbu (zcf U) rfl rfl rfl ?_));rw[List.map_replicate];exact D
 ·have u:=three M F C;have turn:∀(i:Nat) (st:W) (xs:List Int) (v5:Option (W×Bool)),HS (k+1+i) st->i<64->xs.length=i->∃st' x one,HS (k+1+i+1) st'/\(x=0\/x=1) /\
    #v[0,7] #v[7,9] =
     Za ([#v[st',5],#v[n,0],#v[way,0],#v[((xs++[x]).map W.int),2],#v[(0+(i:Nat)),0],#v[one,0]],.nx):=by
   intro i st xs v5 h E o;have H:(xs.map W.int).length<sizeLine:=by rw[Ad,o];omega
   have fin:∀(q:Int) (x:Int->Int),(∀one,0<=one->one<q->x one=0\/x one=1)->0<q->q<1073741824 ->
     (gCns (zaa 0) (gCns (gArg (gOp2 oIx (gArg (zaq (gCns #v[2] (gCns #v[5] (gCns #v[5] gA0))))) (zaa 2))) gA0)) #v[7,9]=Za (#v[7,9],[.inr 0,.inl (.int q)]) ->
     (∀(st':W) (one:Int),(gOp2 oIx (gArg (zaq (gCns #v[5,4] (gCns (gArg (gOpN oInt (gCns (gArg (gOp2 oEq (zaa 5) #v[0])) gA0))) (gCns (gArg (gOpN oInt (gCns (gArg (gOp2 #v[6,9] (zaa 5) #v[0])) gA0))) gA0))))) (zaa 2)) #v[4,16]=Za (#v[4,16],(.int (x one),Zc))) ->
     ∃st' x one,HS (k+1+i+1) st'/\(x=0\/x=1)/\#v[0,7] #v[7,9] =
      Za ([#v[st',5],#v[n,0],#v[way,0],#v[((xs++[x]).map W.int),2],#v[(0+(i:Nat)),0],#v[one,0]],.nx):=by
    intro q x j P I V N;nofun;obtain⟨st',one,s,g,c,d⟩:=hT (k+1+i) st q h #v[] P I;ac_rfl;have O:=zg4 (m:=[Zd,Zc]) (ws:=[.int q]) (wz:=[.int q]) V rfl rfl s rfl;refine⟨st',x one,one,g,j one c d,?_⟩;refine (seq_nx (zed (mp:=[0]) (i:=5) O rfl)).trans (zx8 (r:=(.non,Zc)) ?_);rw[Bo];exact z3v (i:=3) rfl (N st' one) rfl H
   rcases u with rfl|rfl|rfl
   ·exact fin 2 (λone=>one) (λone a b=>by omega) #v[0,9] #v[0,9] rfl λst' one=>rfl
   ·refine fin 5 (λone=>if decide (one=0) then 1 else 0) (λone a b => ?_) #v[0,9] #v[0,9] rfl λst' one=>rfl;by_cases z:one=0<;>simp [z]
   ·refine fin 5 (λone=>if decide (0<one) then 1 else 0) (λone a b => ?_) #v[0,9] #v[0,9] rfl λst' one=>rfl;by_cases z:0<one<;>simp [z]
  obtain⟨G,J,K⟩:=zaz (mp:=[0]) (T:=.nm 4) (it:=zbt #v[6,22]) (body:=#v[0,7])
   (λi e=>∃st xs l v5,e=[#v[st,5],#v[n,0],#v[way,0],#v[(xs.map W.int),2],l,v5]/\HS (k+1+i) st/\xs.length=i/\Bits xs)
   (en:=#v[6,15]) (e0:=#v[6,15]) (ws:=rngW 0 n.toNat)
   (by
    have X:zdk n=Zd:=by unfold zdk;rw[Ah #v[],Ah #v[]];rfl
    show (if zdk n then Za (_,rngW 0 n.toNat) else Zb)=_;rw[X];rfl)
   ⟨st1,[],Zb,Zb,rfl,A,rfl,λx j=>by cases j⟩
   (by
    rintro i w e t ⟨st,xs,l,v5,rfl,h,o,R⟩;nofun;obtain⟨E,rfl⟩:=zen t;obtain⟨st',x,one,g,c,d⟩:=turn i st xs v5 h #v[] o;ac_rfl;refine⟨_,_,rfl,.inl d,st',xs++[x],_,_,rfl,g,by rw[Bb,o];rfl,λy f=>?_⟩;rcases Cc.mp f with f|f
    ·exact R y f
    ·rw[Az] at f;subst f;exact c)
  nofun;obtain⟨st2,xs,l,v5,rfl,g,c,d⟩:=K;ac_rfl;rw[zf7] at g c;refine⟨st2,xs,?_,g.mono #v[],by omega,d⟩;refine za3 (en:=[#v[st2,5],#v[n,0],#v[way,0],Zb,l,v5]) rfl ?_ rfl;refine (seq_nx B).trans ((seq_nx (e1:=[#v[st1,5],#v[n,0],#v[way,0],Zb,Zb,Zb]) ?_).trans ((seq_nx (e1:=#v[6,15]) rfl).trans ((seq_nx J).trans rfl)));rcases u with rfl|rfl|rfl<;>rfl
noncomputable def yb6 (Ψ:Str->Fn):GS:=(gSeq #v[7,21] (gSeq (gFor [] (.nm 2) (gRev (gVar 0)) (gSet [] 1 #v[3,19])) (zcn [] 1)))
noncomputable def z3r (Φ:Fn):Prop:=∀x:List Int,Φ [.lst (x.map W.int)]=Za ([.lst (x.map W.int)],(.int (wordOf x),Zc))
theorem z59 (Ψ:Str->Fn):z3r (zad [Zc] 3 (yb6 Ψ)):=by
 intro xs;obtain⟨m,b,l⟩:=zaz (mp:=[]) (T:=.nm 2) (it:=gRev (gVar 0)) (body:=gSet [] 1 #v[3,19])
  (λi e=>∃a,e=[#v[(xs.map W.int),1],#v[(wordOf (xs.drop (xs.length-i))),0],a])
  (en:=#v[7,18]) (e0:=#v[7,18]) (ws:=(xs.map W.int).reverse) rfl
  ⟨Zb,by rw[Nat.sub_zero,List.drop_length];rfl⟩
  (by
   rintro i w e h ⟨a,rfl⟩;have f:i<xs.length:=by have:=(Af.mp h).1;rw[Fw,Ad] at this;exact this
   have d:xs.length-1-i<xs.length:=by omega
   have k:w=.int xs[xs.length-1-i]:=by
    rw[List.getElem?_reverse (by rw[Ad];exact f),Ad,Aj,Ae d] at h;exact (sI h).symm
   subst k;have o:oMult (.int 2) (.int (wordOf (xs.drop (xs.length-i))))=#v[(2*wordOf (xs.drop (xs.length-i))),0]:=oMult_l #v[0,9] #v[0,9];have g:xs.drop (xs.length-(i+1))=xs[xs.length-1-i]::xs.drop (xs.length-i):=by
    have c:xs.length-(i+1)=xs.length-1-i:=by omega
    have j:xs.length-i=xs.length-1-i+1:=by omega
    rw[c,j];exact Cs d
   refine⟨_,_,rfl,.inl (zed (r:=(.int (wordOf (xs.drop (xs.length-(i+1)))),Zc)) (zbu (zcf (zbu (x:=.inl (.int 2)) rfl rfl rfl rfl o)) rfl rfl rfl ?_) rfl),_,rfl⟩;rw[g]
   rfl)
 obtain⟨a,rfl⟩:=l;rw[Fw,Ad,Nat.sub_self,Et] at b;exact za3 (en:=[#v[(xs.map W.int),1],#v[(wordOf xs),0],a]) rfl ((seq_nx (e1:=#v[7,18]) rfl).trans ((seq_nx b).trans rfl)) rfl
noncomputable def z8s (Ψ:Str->Fn):GS:=(gSeq (gSet [] 1 (zaq (gCns #v[0] (gCns #v[0] (gCns #v[0] gA0))))) (gSeq (gIfS (zg7 (zaj (gOp2 #v[6,9] #v[8,8] #v[0])) (zaj (gOp2 (oI yes2 λi j=>.bl (decide (j<=i))) #v[6,16] (gArg (gOp2 #v[0,16] #v[10] #v[18]))))) (gSeq (gSet [] 2 (gC (.int 1))) (gFor [] (.nm 3) (zap (gSl (zaa 0) zco (zg6 (gC (.int 63))))) (gSeq (za9 1 (gC (.int 0)) (gOp2 oAdd (gArg (gOp2 oIx (zaa 1) #v[0])) (gArg (gOp2 oMult (gArg (gOp2 #v[0,0,2] (gArg (gOpN oAbs #v[2,20])) (gArg (gOp2 #v[0,16] #v[10] #v[60])))) (zaa 2))))) (gSet [] 2 (gOp2 oMult (zaa 2) (gArg (gOp2 #v[0,16] #v[10] #v[60]))))))) zb6) (gSeq (gFor [] (.tp [4,3]) (zr3 (gSl (zaa 0) zco (zg6 (gC (.int 63))))) (gSeq (gSet [] 5 (gOp2 oAdd (gArg (gOp2 oAdd (gArg (gOp2 #v[0,0,2] (zaa 3) #v[2305843009213693951])) (gArg (gOp2 oMult #v[7919] (zaa 4))))) #v[3])) (za9 1 (gC (.int 1)) (gOp2 #v[0,0,2] (gArg (gOp2 oAdd (gArg (gOp2 oMult (gArg (gOp2 oIx (zaa 1) #v[1])) #v[48271])) (zaa 5))) #v[2305843009213693951])))) (zcn [] 1))))
noncomputable def z3e (Φ:Fn):Prop:=∀n:List Int,n.length<=63->∃s,Φ [.frl (n.map W.int)]=Za ([.frl (n.map W.int)],(s,Zd))/\HS 0 s
theorem z87 {n:List Int}(h:n.length<=63):cutW (n.map W.int) Zb (Za 63)=n.map W.int:=by
 unfold cutW;have a:HT.sIx (n.map W.int).length 0 Zb=0:=rfl;have e:HT.sIx (n.map W.int).length (n.map W.int).length (Za 63)=(n.map W.int).length:=by
  have:=HT.sIx_nat (n.map W.int).length (n.map W.int).length 63;rw[show ((63:Nat):Int)=63 from rfl] at this;rw[this,Ad];omega
 rw[a,e,Et,Nat.sub_zero,Bs]
theorem z19 {n:List Int}{i:Nat}{w:W}(h:(zhw (n.map W.int) 0)[i]?=Za w):∃a:i<n.length,w=.tup [.int i,.int n[i]]:=by
 have a:i<n.length:=by have:=(Af.mp h).1;rw[zcx,Ad] at this;exact this
 have:=ze8 (ws:=n.map W.int) (k:=0) (i:=i) (w:=.int n[i]) (by rw[Aj,Ae a];rfl);rw[h,Co] at this;exact⟨a,sI this⟩
theorem z7q (Ψ:Str->Fn):z3e (zad [Zc] 6 (z8s Ψ)):=by
 intro ns E;have g:cPow 10 18=Zd:=by decide
 have p:cPow 10 60=Zd:=by decide
 have first:∃a0 v2 v3,0<=a0/\gIfS (zg7 (zaj (gOp2 (oI yes2 λi j=>.bl (decide (j<i))) #v[8,8] (gArg (gC (.int 0))))) (zaj (gOp2 (oI yes2 fun i j=>.bl (decide (j<=i))) (gArg (gOp2 oIx (zaa 0) (gArg (gC (.int 0))))) (gArg (gOp2 (oI cPow fun i j=>.int (i ^ j.toNat)) (gArg (gC (.int 10))) (gArg (gC (.int 18)))))))) (gSeq (gSet [] 2 (gC (.int 1))) (gFor [] (.nm 3) (zap (gSl (zaa 0) zco (zg6 (gC (.int 63))))) #v[0,14])) zb6
   #v[7,10]=Za (#v[7,13],.nx):=by
  have l:(zaj (gOp2 #v[6,9] #v[8,8] #v[0])) #v[7,10]=Za (#v[7,10],decide ((0:Int)<((ns.map W.int).length:Nat))):=rfl;cases ns with
  |nil=>exact⟨0,Zb,Zb,by decide,(yaf (by unfold zg7;rw[l];rfl)).trans rfl⟩
  | cons n0 nr =>
   have t:(zaj (gOp2 (oI yes2 fun i j=>.bl (decide (j<=i))) (gArg (gOp2 oIx (zaa 0) (gArg (gC (.int 0))))) (gArg (gOp2 (oI cPow fun i j=>.int (i ^ j.toNat)) (gArg (gC (.int 10))) (gArg (gC (.int 18))))))) #v[9,16]=Za (#v[9,16],decide (10^18<=n0)) :=
    z5e (zbu (zcf (zbu rfl rfl rfl rfl (zif rfl (zbz (i:=0) rfl)))) (zcf (zbu (x:=.inl (.int 10)) rfl rfl rfl rfl (oI_t g))) rfl rfl rfl)
   have r:decide ((0:Int)<(((n0::nr).map W.int).length:Nat))=Zd:=Ah (by simp);rw[r] at l;by_cases c:(10:Int)^18<=n0
   ·rw [Ah c] at t
    obtain ⟨k,m,o⟩:=zaz (mp:=[]) (T:=.nm 3) (it:=zap (gSl (zaa 0) zco (zg6 (gC (.int 63))))) (body:=#v[0,14])
     (λi e=>∃a0 wt v3,e=[Za #v[4,9],#v[[.int a0,.int 0,.int 0],2],#v[wt,0],v3,Zb,Zb]/\0<=a0/\0<wt/\wt<=2^(200*i))
     (en:=#v[7,12]) (e0:=#v[7,12]) (ws:=(n0::nr).map W.int)
     (by
      show Za (_,cutW ((n0::nr).map W.int) Zb (Za 63))=_;rw[z87 E])
     ⟨0,1,Zb,rfl,by decide,by decide,by decide⟩
     (by
      rintro i w e a ⟨a0,wt,v3,rfl,f,q,d⟩;rw [Aj] at a;have A:i<(n0::nr).length:=by
       rcases Nat.lt_or_ge i (n0::nr).length with z|z
       ·exact z
       ·rw[Ci z] at a;exact noSome a
      rw[Ae A] at a;have J:w=.int (n0::nr)[i]:=(sI a).symm;subst J;generalize (n0::nr)[i]=n;have F:0<=(if n<0 then -n else n)%(10:Int)^60:=Fz _ #v[0,9];have I:(if n<0 then -n else n)%(10:Int)^60<10^60:=Ex _ #v[0,9];have N:i<=63:=by omega
      have G:Builtin.Int.intBits ((if n<0 then -n else n)%(10:Int)^60)<=2^20:=zj6 (i:=1) F (Int.le_trans (Int.le_of_lt I) #v[0,9]) #v[0,9];have B:Builtin.Int.intBits wt<=2^20:=zj6 #v[] d N;have y:=zxb G B;have u:=zxb B (zj6 (w:=10^60) (i:=1) #v[0,9] #v[0,9] #v[0,9]);obtain⟨M,L⟩:=z1j q d;refine⟨_,[Za #v[4,9],#v[[.int (a0+(if n<0 then -n else n)%(10:Int)^60*wt),.int 0,.int 0],2],#v[(wt*10^60),0],#v[n,0],Zb,Zb],rfl,.inl ?_,_,_,_,rfl,?_,M,L⟩
      ·refine (seq_nx (e1:=[Za (.frl ((n0::nr).map W.int),Zc),Za (.lst [.int (a0+(if n<0 then -n else n)%(10:Int)^60*wt),.int 0,.int 0],Zd),Za (.int wt,Zc),Za (.int n,Zc),Zb,Zb]) ?_).trans (set_0 (op2_0 rfl (arg_0 (op2_0 (x:=.inl (.int 10)) rfl rfl rfl rfl (oI_t p))) rfl rfl u) rfl)
       have s:gOp2 oAdd (gArg (gOp2 oIx (zaa 1) (gArg (gC (.int 0))))) (gArg (gOp2 oMult (gArg (gOp2 #v[1,14] (gArg (gOpN oAbs #v[2,20])) #v[9,7])) (zaa 2))) #v[3,14]=Za (#v[3,14],(.int (a0+(if n<0 then -n else n)%(10:Int)^60*wt),Zc)) :=
        zbu (zcf (zbu rfl rfl rfl rfl (zif rfl (zbz (i:=0) rfl)))) (zcf (zbu (zcf (zbu (zcf (z96 rfl rfl rfl)) (zcf (zbu (x:=.inl (.int 10)) rfl rfl rfl rfl (oI_t p))) rfl rfl (oI_t #v[0,9]))) rfl rfl rfl y)) rfl rfl rfl
       exact zn9 (n:=0) (j:=0) (ws:=[.int a0,.int 0,.int 0]) s rfl rfl rfl
      ·have:=Int.mul_nonneg F (Int.le_of_lt q)
       omega)
    nofun;obtain⟨a0,wt,v3,rfl,f,_⟩:=o;ac_rfl;exact⟨a0,_,_,f,(ya0 (by unfold zg7;rw[l];exact t)).trans ((seq_nx (e1:=#v[7,12]) rfl).trans m)⟩
   ·rw [Ao c] at t
    exact⟨0,Zb,Zb,by decide,(yaf (by unfold zg7;rw[l];exact t)).trans rfl⟩
 nofun;obtain⟨a0,v2,v3,f,h⟩:=first
 refine qG ?_;clear qG;obtain ⟨k,m,o⟩:=zaz (mp:=[]) (T:=.tp [4,3]) (it:=zr3 (gSl (zaa 0) zco (zg6 (gC (.int 63))))) (body:=(gSeq (gSet [] 5 (gOp2 oAdd (gArg (gOp2 oAdd (gArg (gOp2 #v[1,14] (zaa 3) #v[7,17])) (gArg (gOp2 oMult (gArg (gC (.int 7919))) (zaa 4))))) (gArg (gC (.int 3))))) (za9 1 (gC (.int 1)) (gOp2 #v[1,14] #v[1,13] #v[7,17]))))
  (λi e=>∃b v3 C D,e=[Za #v[7,7],#v[#v[3,22],2],v2,v3,C,D]/\0<=b/\b<MM)
  (en:=#v[7,13]) (e0:=#v[7,13]) (ws:=zhw (ns.map W.int) 0)
  (by
   show Za (_,zhw (cutW (ns.map W.int) Zb (Za 63)) 0)=_;rw[z87 E])
  ⟨0,v3,Zb,Zb,rfl,by decide,by decide⟩
  (by
   rintro i w e a ⟨b,v3,C,D,rfl,q,d⟩;obtain ⟨A,rfl⟩:=z19 a;generalize ns[i]=n;have P:MM=2305843009213693951:=rfl;have y:oMult (.int 7919) (.int (i:Nat))=Za (.int (7919*(i:Nat)),Zc):=oMult_l (by decide) (by decide);have u:oMult (.int b) (.int 48271)=Za (.int (b*48271),Zc):=zob (by decide) (by decide);refine ⟨_,[Za #v[7,7],Za (.lst [.int a0,.int ((b*48271+(n%2305843009213693951+7919*(i:Nat)+3))%2305843009213693951),.int 0],Zd),v2,Za (.int n,Zc),Za (.int (i:Nat),Zc),Za (.int (n%2305843009213693951+7919*(i:Nat)+3),Zc)],rfl,.inl ?_,_,_,_,_,rfl,Fz _ (by decide),Ex _ (by decide)⟩;refine (seq_nx (e1:=[some #v[7,7],some (.lst [.int a0,.int b,.int 0],true),v2,some (.int n,false),some (.int (i:Nat),false),some (.int (n % 2305843009213693951+7919 * (i:Nat)+3),false)]) (set_0 (op2_0 (arg_0 (op2_0 (arg_0 (op2_0 rfl rfl rfl rfl (oI_t (by decide)))) (arg_0 (op2_0 (x:=.inl (.int 7919)) rfl rfl rfl rfl y)) rfl rfl rfl)) rfl rfl rfl rfl) rfl)).trans ?_;have s:gOp2 #v[1,14] #v[1,13] #v[7,17] [some #v[7,7],some (.lst [.int a0,.int b,.int 0],true),v2,some (.int n,false),some (.int (i:Nat),false),some (.int (n % 2305843009213693951+7919 * (i:Nat)+3),false)]=Za ([some #v[7,7],some (.lst [.int a0,.int b,.int 0],true),v2,some (.int n,false),some (.int (i:Nat),false),some (.int (n % 2305843009213693951+7919 * (i:Nat)+3),false)],(.int ((b*48271+(n%2305843009213693951+7919*(i:Nat)+3))%2305843009213693951),Zc)) :=
    zbu (zcf (zbu (zcf (zbu (zcf (zbu rfl rfl rfl rfl (zif rfl (zbz (i:=1) rfl)))) rfl rfl rfl u)) rfl rfl rfl rfl)) rfl rfl rfl (oI_t #v[0,9])
   exact zn9 (n:=1) (j:=1) (ws:=#v[3,22]) s rfl rfl rfl)
 nofun;obtain⟨b,K,O,H,rfl,q,d⟩:=o;ac_rfl;refine⟨.lst #v[3,22],za3 (en:=[Za #v[7,7],Zb,v2,K,O,H]) rfl ?_ rfl,⟨_,_,_,rfl,f,q,d,by decide,by decide⟩⟩;exact (seq_nx (e1:=#v[7,10]) rfl).trans ((seq_nx h).trans ((seq_nx m).trans rfl))
theorem zwv (a b x y:Nat)(f:x<2)(g:y<2):(2*a+x) &&& (2*b+y)=2*(a &&& b)+x*y:=by
 have d:((2*a+x) &&& (2*b+y))/2=a &&& b:=by
  have:=Nat.and_div_two_pow (n:=1) (a:=2*a+x) (b:=2*b+y);rw[Nat.pow_one] at this;rw[this];have c:(2*a+x)/2=a:=by omega
  have e:(2*b+y)/2=b:=by omega
  rw[c,e]
 have h:((2*a+x) &&& (2*b+y))%2=x*y:=by
  have:=Nat.and_mod_two_pow (n:=1) (a:=2*a+x) (b:=2*b+y);rw[Nat.pow_one] at this;rw[this];have c:(2*a+x)%2=x:=by omega
  have e:(2*b+y)%2=y:=by omega
  rw[c,e];have:x=0\/x=1:=by omega
  have:y=0\/y=1:=by omega
  rcases ‹x=0\/x=1› with rfl|rfl<;>rcases ‹y=0\/y=1› with rfl|rfl<;>rfl
 omega
noncomputable def Bit (x:Int):Prop:=x=0\/x=1
theorem ze1 {a b x y:Int}(g:0<=a)(d:0<=b)(h:Bit x)(c:Bit y):Builtin.bitAnd (2*a+x) (2*b+y)=2*Builtin.bitAnd a b+x*y:=by
 have i:0<=x/\x<2:=by rcases h with rfl|rfl<;>decide
 have j:0<=y/\y<2:=by rcases c with rfl|rfl<;>decide
 rw[bitAnd_pp #v[] #v[],bitAnd_pp g d];have f:(2*a+x).toNat=2*a.toNat+x.toNat:=by omega
 have e:(2*b+y).toNat=2*b.toNat+y.toNat:=by omega
 rw[f,e,zwv _ _ _ _ #v[] #v[]];rcases h with rfl|rfl<;>rcases c with rfl|rfl<;>simp
theorem zjp (x y:Int):Builtin.bitXor x y=x+y-2*Builtin.bitAnd x y:=by
 show Builtin.bitOr x y-Builtin.bitAnd x y=_;rw[bitOr_and];omega
theorem z14 {a b x y:Int}(e:0<=a)(h:0<=b)(d:Bit x)(c:Bit y):Builtin.bitXor (2*a+x) (2*b+y)=2*Builtin.bitXor a b+(x+y-2*(x*y)):=by
 rw[zjp,zjp,ze1 e h d c];omega
theorem zym (x:Int):Builtin.bitXor x 0=x:=by rw[zjp,bitAnd_zero];omega
theorem zqk (x:Int):Builtin.bitAnd 0 x=0:=by rw[bitAnd_comm,bitAnd_zero]
theorem Bits.head {x:Int}{xs:List Int}(h:Bits (x::xs)):Bit x:=h x Av
theorem Bits.tail {x:Int}{xs:List Int}(h:Bits (x::xs)):Bits xs:=λy a=>h y (An _ a)
theorem zef {xs:List Int}(h:Bits xs):0<=wordOf xs:=(zel h).1
theorem zal (x:Int)(xs:List Int):wordOf (x::xs)=2*wordOf xs+x:=rfl
theorem za1:∀(l h:List Int),wordOf (l++h)=wordOf l+2^l.length*wordOf h
 |[],h=>by show wordOf h=0+1*wordOf h;omega
 | x::l,h=>by
  show 2*wordOf (l++h)+x=2*wordOf l+x+2^(l.length+1)*wordOf h;rw[za1 l h,Int.pow_succ,Int.mul_add,Int.mul_comm (2^l.length) 2,Int.mul_assoc];omega
theorem ze3:∀{a b:List Int},Bits a->Bits b->Builtin.bitAnd (wordOf a) (wordOf b)=wordOf (List.zipWith (· * ·) a b)
 |[],b,_,_=>zqk _
 |x::a,[],_,_=>bitAnd_zero _
 | x::a,y::b,c,h=>by
  rw[zal,zal,ze1 (zef c.tail) (zef h.tail) c.head h.head,ze3 c.tail h.tail]
  rfl
theorem yck {m:Int}(a:0<=m)(h:m<=6):m=0\/m=1\/m=2\/m=3\/m=4\/m=5\/m=6:=by omega
theorem yam {m:Int}(a:0<=m)(h:m<=6):(1:Int)<=1*2^m.toNat/\(1:Int)*2^m.toNat<=64:=by
 rcases yck a h with rfl|rfl|rfl|rfl|rfl|rfl|rfl<;>decide
theorem cP1 {m:Int}(h:0<=m)(a:m<=6):cPow 1 m=Zd:=zkw h #v[] #v[0,9]
theorem cP2 {m:Int}(a:0<=m)(h:m<=6):cPow 1 (1*2^m.toNat)=Zd:=by
 have:=yam a h;exact zkw #v[] #v[] #v[0,9]
noncomputable def yesW (m:Int):Int:=1*2^(1*2^m.toNat:Int).toNat-1
noncomputable def zqe (Φ:Fn):Prop:=∀m:Int,0<=m->m<=6->Φ [.int m]=Za ([.int m],(.int (yesW m),Zc))
noncomputable def zvv (Ψ:Str->Fn):GS:=(gRet (gOp2 #v[0,0,0] (gArg (gOp2 #v[0,0,1] #v[1] #v[1,15])) #v[1]))
theorem zsx (Ψ:Str->Fn):zqe (zad [Zc] 1 (zvv Ψ)):=λm a h =>
 za3 (en:=[#v[m,0]]) rfl (z17 (op2_0 (arg_0 (op2_0 (x:=.inl (.int 1)) rfl (arg_0 (op2_0 (x:=.inl (.int 1)) rfl rfl rfl rfl (oI_t (cP1 a h)))) rfl rfl (oI_t (cP2 a h)))) rfl rfl rfl rfl)) rfl
noncomputable def z0k (Φ:Fn):Prop:=∀a b:Int,Φ [.int a,.int b]=Za ([.int a,.int b],(.int (Builtin.bitXor a b),Zc))
noncomputable def zz9 (Φ:Fn):Prop:=∀a b:Int,Φ [.int a,.int b]=Za ([.int a,.int b],(.int (Builtin.bitAnd a b),Zc))
noncomputable def ybl (Ψ:Str->Fn):GS:=(gRet (gOp2 #v[7,16] (zaa 0) (zaa 1)))
noncomputable def z78 (Ψ:Str->Fn):GS:=(gRet (gOp2 #v[2,9] (zaa 0) (zaa 1)))
theorem z36 (Ψ:Str->Fn):z0k (zad [Zc,Zc] 2 (ybl Ψ)):=λa b=>rfl
theorem zyj (Ψ:Str->Fn):zz9 (zad [Zc,Zc] 2 (z78 Ψ)):=λa b=>rfl
theorem cap2 (i:Nat):zav [Zb,Zb] i=Zb:=rfl
noncomputable def dif (a b:Int):Int:=if !decide (a=b) then 1 else 0
theorem z4o {a b:Int}(c:Bit a)(h:Bit b):a+b-2*(a*b)=dif a b:=by
 rcases c with rfl|rfl<;>rcases h with rfl|rfl<;>decide
theorem zg9:∀{xs ys:List Int},Bits xs->Bits ys->xs.length=ys.length->Builtin.bitXor (wordOf xs) (wordOf ys)=wordOf (List.zipWith dif xs ys)
 |[],[],_,_,_=>zym 0
 |[],_::_,_,_,h=>by cases h
 |_::_,[],_,_,h=>by cases h
 | x::xs,y::ys,h1,h2,hl=>by
  rw[zal,zal,z14 (zef h1.tail) (zef h2.tail) h1.head h2.head,zg9 h1.tail h2.tail (by simpa using hl),z4o h1.head h2.head]
  rfl
theorem zpw {f:Int->Int->Int} (g:∀a b,Bit a->Bit b->Bit (f a b)):∀{c y:List Int},Bits c->Bits y->Bits (List.zipWith f c y)
 |[],_,_,_=>λx h=>by simp at h
 |_::_,[],_,_=>λx h=>by simp at h
 | a::c,b::y,e,d=>λx h=>by
  rcases Ap.mp (show x∈f a b::List.zipWith f c y from h) with rfl|h
  ·exact g a b e.head d.head
  ·exact zpw g e.tail d.tail x h
theorem z8r {a b:Int}(c:Bit a)(h:Bit b):Bit (a*b):=by rcases c with rfl|rfl<;>rcases h with rfl|rfl<;>first|exact .inl #v[0,9]|exact .inr #v[0,9]
theorem zu7:∀{b:List Int},Bits b->List.zipWith dif b (List.replicate b.length 1)=b.map λa=>1-a
 |[],_=>rfl
 | x::b,h=>by
  show dif x 1::List.zipWith dif b (List.replicate b.length 1)=_;rw[zu7 h.tail];rcases h.head with rfl|rfl<;>rfl
noncomputable def clr:List Int->List Int
 |[]=>[]
 |x::a=>if x=1 then 0::a else x::clr a
theorem zps:∀{b:List Int},Bits b->Bits (clr b)
 |[],h=>h
 | x::b,h=>by
  unfold clr;split
  ·exact λy a=>(Ap.mp a).elim (λe=>.inl e) (h.tail y)
  ·exact λy a=>(Ap.mp a).elim (λe=>by rw[e];exact h.head) (zps h.tail y)
theorem zs7:∀{a:List Int},Bits a->0<=a.sum
 |[],_=>by decide
 | x::a,h=>by
  have:=zs7 h.tail;rw[Cv];rcases h.head with e|e<;>omega
theorem z27:∀{a:List Int},Bits a->a.sum<=a.length
 |[],_=>by decide
 | x::a,h=>by
  have:=z27 h.tail;rw[Cv,Ay];rcases h.head with e|e<;>omega
theorem zla:∀{a:List Int},Bits a->(wordOf a=0↔a.sum=0)
 |[],_=>⟨λ_=>rfl,λ_=>rfl⟩
 | x::a,h=>by
  have i:=zla h.tail;have b:=zef h.tail;have n:=zs7 h.tail;rw[zal,Cv];rcases h.head with e|e
  ·subst e
   constructor
   ·intro z;rw[i.mp #v[]];rfl
   ·intro z;rw[i.mpr #v[]];rfl
  ·subst e
   constructor<;>intro z<;>omega
theorem zut:∀{a:List Int},Bits a->wordOf a≠0->(clr a).sum=a.sum-1
 |[],_,h=>absurd rfl h
 | x::a,h,b=>by
  unfold clr;split
  ·rename_i e;subst e;rw[Cv,Cv];omega
  ·rename_i e
   have c:x=0:=h.head.resolve_right e;subst c;have:wordOf a≠0:=λz=>b (by rw[zal,z];rfl);rw[Cv,Cv,zut h.tail this];omega
theorem zqg:∀{a:List Int},Bits a->wordOf a≠0->Builtin.bitAnd (wordOf a) (wordOf a-1)=wordOf (clr a)
 |[],_,h=>absurd rfl h
 | x::a,h,c=>by
  have n:=zef h.tail;unfold clr;split
  ·rename_i e
   subst e;have b:wordOf (1::a)-1=2*wordOf a+0:=by rw[zal];omega
   rw[b,zal,ze1 n n (.inr rfl) (.inl rfl),bitAnd_self]
   rfl
  ·rename_i e
   have f:x=0:=h.head.resolve_right e;subst f;have d:wordOf a≠0:=λz=>c (by rw[zal,z];rfl);have b:wordOf (0::a)-1=2*(wordOf a-1)+1:=by rw[zal];omega
   rw[b,zal,ze1 n #v[] (.inl rfl) (.inr rfl),zqg h.tail d]
   rfl
noncomputable def zzk (Ψ:Str->Fn):GS:=(gSeq #v[7,21] (gSeq (zdv (zaj #v[1,22]) (gSeq #v[4,14] #v[2,21]) ze7) (zcn [] 1)))
noncomputable def zp9 (Φ:Fn):Prop:=∀x:List Int,Bits x->x.length<=1000->Φ [.int (wordOf x)]=Za ([.int (wordOf x)],(.int x.sum,Zc))
theorem zhh:∀(n:Nat) (xs:List Int) (h:Int),Bits xs->xs.sum<n ->
  zdv (zaj #v[1,22]) (gSeq #v[4,14] #v[2,21]) n #v[0,18]=Za ([#v[0,0],#v[(h+xs.sum),0]],.nx)
 |0,xs,h,a,c=>by have:=zs7 a;omega
 | n+1,xs,h,a,c=>by
  have t:zaj #v[1,22] #v[0,18]=Za (#v[0,18],!decide (wordOf xs=0)):=rfl;unfold zdv;by_cases z:wordOf xs=0
  ·rw [Ah z] at t
   rw[t,(zla a).mp z,z,Int.add_zero]
   rfl
  ·rw [Ao z] at t
   have b:gSeq #v[4,14] #v[2,21] #v[0,18]=Za ([#v[(Builtin.bitAnd (wordOf xs) (wordOf xs-1)),0],#v[(h+1),0]],.nx):=rfl;rw[zqg a z] at b;rw[t];simp only [Gd,b];have:=zut a z;rw[zhh n (clr xs) (h+1) (zps a) #v[],this];have e:h+1+(xs.sum-1)=h+xs.sum:=by omega
   rw[e]
theorem zth (Ψ:Str->Fn):zp9 (zad [Zc] 2 (zzk Ψ)):=λx h a=>by
 have w:=zhh ze7 x 0 h (by have:=z27 h;show x.sum<(4096:Nat);omega);rw[Hb] at w;exact za3 (en:=[#v[0,0],#v[x.sum,0]]) rfl ((seq_nx (e1:=[#v[(wordOf x),0],#v[0,0]]) rfl).trans ((seq_nx w).trans rfl)) rfl
theorem yby {it:GL}{te:GE}{en e0:En}{ws a:List W} (k:it en=Za (e0,ws)) (s:ws.length<=1000) (n:a.length=ws.length)
  (q:∀(i:Nat) b w r,ws[i]?=Za w->a[i]?=Za r->∃u f,te [b,#v[w,6]]=Za ([b,u],(r,f))) :
  za7 [Zb,Zb] (.nm 1) it gYes te en=Za (e0,(.lst a,Zd)):=by
 have t:(1000:Nat)<=sizeLine:=by decide
 obtain⟨m,out,l,o⟩:=zc1 (cap:=[Zb,Zb]) (T:=.nm 1) (tc:=gYes) (te:=te) (λi c e=>(∃b j,c=[b,j])/\e=a.take i) k rfl #v[] ⟨⟨_,_,rfl⟩,rfl⟩
  (by
   rintro i w c e d ⟨⟨b,j,rfl⟩,rfl⟩;have p:i<a.length:=by rw[n];exact (Af.mp d).1
   have g:a[i]?=Za a[i]:=Ae p;obtain⟨u,f,h⟩:=q i b w a[i] d g;refine⟨[b,#v[w,6]],rfl,.inl ⟨_,_,(a[i],f),rfl,h,⟨_,_,rfl⟩,?_⟩⟩;rw[Ce,g]
   rfl)
 obtain⟨_,rfl⟩:=o;rw[l,zld cap2,Gc #v[]]
theorem z7c {as:GAs}{en e1:En}{xs:List (W ⊕ Nat)}{j:Int}(h:as en=Za (e1,xs))(a:zas e1 xs=Za [.int j])(b:zdk j=Zd):zbt as en=Za (e1,rngW 0 j.toNat):=by
 unfold zbt;rw[h];show (match zas e1 xs with|some [.int j]=>if zdk j then Za (e1,rngW 0 j.toNat) else Zb|_=>Zb)=_;rw[a];show (if zdk j then Za (e1,rngW 0 j.toNat) else Zb)=_;rw[if_pos b]
theorem band (a b:Nat):Builtin.bitAnd (a:Int) (b:Int)=((a &&& b:Nat):Int):=by rw[bitAnd_pp (Ew a) (Ew b)];rfl
theorem zo0 (z:List Int):oSum [.lst (z.map W.int)]=#v[z.sum,0]:=by
 show (zdt (z.map W.int)).bind _=_;rw[zft]
 rfl
noncomputable def tab (n:Nat) (f:Nat->Int):List Int:=(List.range n).map f
theorem zam (n:Nat)(f:Nat->Int):(tab n f).length=n:=by unfold tab;rw[Ad,Bi]
theorem zcp {n:Nat}{f:Nat->Int}{i:Nat}(h:i<n):(tab n f)[i]?=Za (f i):=by unfold tab;rw[Aj,Er h];rfl
theorem tab_ext {n:Nat}{f g:Nat->Int}(h:∀i,i<n->f i=g i):tab n f=tab n g:=by
 unfold tab;refine List.map_congr_left λi a=>h i (Bk.mp a)
theorem ziq (n:Nat)(f g:Nat->Int)(h:Int->Int->Int):List.zipWith h (tab n f) (tab n g)=tab n λi=>h (f i) (g i):=by
 apply Ds;intro i;by_cases a:i<n
 ·rw[List.getElem?_zipWith,zcp a,zcp a,zcp a]
 ·rw[Ci (by rw[Fv,zam,zam];omega),Ci (by rw[zam];omega)]
theorem za2 {n:Nat}{f:Nat->Int}(h:∀i,i<n->Bit (f i)):Bits (tab n f):=λx b=>by
 obtain⟨i,a,rfl⟩:=Dr.mp b;exact h i (Bk.mp a)
theorem zjx (a b:Nat)(f:Nat->Int):tab (a+b) f=tab a f++tab b λi=>f (a+i):=by
 unfold tab;rw[List.range_add,Bo,Cr]
 rfl
theorem zdz (n:Nat):tab n (λ_=>0)=List.replicate n 0:=by unfold tab;rw[List.map_const',Bi]
theorem zcr (n:Nat):wordOf (List.replicate n 0)=0:=by
 induction n with
 |zero=>rfl
 |succ n i=>rw[Ct,zal,i];rfl
theorem zs2 {n s:Nat}{f:Nat->Int}(g:s<=n)(h:∀i,n-s<=i->f i=0):wordOf (tab n f)*2^s=wordOf (tab n λi=>if i<s then 0 else f (i-s)):=by
 obtain⟨k,rfl⟩ : ∃k,n=k+s:=⟨n-s,by omega⟩;have d:tab (k+s) f=tab k f++List.replicate s 0:=by
  rw[zjx,<-zdz];refine congrArg _ (tab_ext λi _=>h (k+i) #v[])
 have e:tab (k+s) (λi=>if i<s then 0 else f (i-s))=List.replicate s 0++tab k f:=by
  rw[Nat.add_comm,zjx,<-zdz];have a:tab s (λi=>if i<s then 0 else f (i-s))=tab s λ_=>0:=tab_ext λi c=>if_pos c;have b:(tab k λi=>if s+i<s then 0 else f (s+i-s))=tab k f:=tab_ext λi _=>by rw[if_neg #v[]];congr 1;omega
  rw[a,b]
 rw[d,e,za1,za1,zcr,Ed,Int.mul_zero,Int.add_zero,Hb,Int.mul_comm]
noncomputable def zeo (s:Nat) (i:Nat):Int:=if i/s%2=0 then 1 else 0
noncomputable def zjh (s:Nat) (f:Nat->Int) (i:Nat):Int:=if i/s%2=1 then (f i+f (i-s))%2 else f i
theorem zkg (s i:Nat):Bit (zeo s i):=by unfold zeo;split<;>first|exact .inr rfl|exact .inl rfl
theorem z54 {a b:Int}(c:Bit a)(h:Bit b):dif a b=(a+b)%2:=by rcases c with rfl|rfl<;>rcases h with rfl|rfl<;>decide
theorem dif_zero {a:Int}(h:Bit a):dif a 0=a:=by rcases h with rfl|rfl<;>decide
theorem z1g {s:Nat}{f:Nat->Int}(h:∀i,Bit (f i))(i:Nat):Bit (zjh s f i):=by
 unfold zjh;split
 ·have:=Fz (f i+f (i-s)) (show (2:Int)≠0 by decide);have:=Ex (f i+f (i-s)) (show (0:Int)<2 by decide);unfold Bit;omega
 ·exact h i
theorem zxw {n s c:Nat}{f:Nat->Int} (h:∀i,Bit (f i)) (s0:0 < s) (b:n=s * (2 * c)) (q:0 < c):Builtin.bitXor (wordOf (tab n f)) (Builtin.bitAnd (wordOf (tab n f)) (wordOf (tab n (zeo s))) * 2 ^ s)=wordOf (tab n (zjh s f)):=by
  have g:s<=n:=by rw[b];exact Nat.le_mul_of_pos_right s #v[]
  have top:∀i,n - s<=i->i < n->i / s % 2=1:=fun i l p=>by
    have e:i / s=2 * c - 1:=by
      have m:s * (2 * c - 1)<=i:=by rw[Nat.mul_sub,Nat.mul_one,<-b];exact l
      have o:i < s * (2 * c - 1)+s:=by
        have : s * (2 * c - 1) + s = n := by rw [b, Nat.mul_sub, Nat.mul_one]; have : s ≤ s * (2 * c) := by rw [<- b]; exact g
                                             omega
        omega
      exact Nat.div_eq_of_lt_le (by rw[Nat.mul_comm];exact m) (by rw[Nat.add_mul,Nat.one_mul,Nat.mul_comm];exact o)
    rw[e];omega
  have k:tab n (fun i=>f i * zeo s i)=tab n (fun i=>if i < n then f i * zeo s i else 0):=tab_ext fun i a=>(if_pos a).symm;rw [ze3 (za2 fun i _=>h i) (za2 fun i _=>zkg s i),ziq,k,zs2 g (fun i a=>by
    split
    · rename_i z
      have:zeo s i=0:=by unfold zeo;rw[if_neg (by rw[top i a z];decide)]
      rw[this,Int.mul_zero]
    · rfl),zg9 (za2 λi _=>h i) (za2 λi a=>?_) (by rw[zam,zam]),ziq]
  · refine congrArg wordOf (tab_ext fun i a => ?_)
    by_cases d:i<s
    · rw [if_pos d, dif_zero (h i)]
      unfold zjh;rw[if_neg (by rw[Nat.div_eq_of_lt d];decide)]
    · have e:i / s=(i - s) / s+1:=by
        have:=Nat.add_div_right (i - s) s0;rw[show i - s+s=i by omega] at this;exact this
      rw[if_neg d,if_pos #v[]];unfold zjh zeo;by_cases j:i / s % 2=1
      · rw[if_pos j,if_pos #v[],Int.mul_one,z54 (h i) (h (i - s))]
      · rw[if_neg j,if_neg #v[],Int.mul_zero,dif_zero (h i)]
  · split
    · exact .inl rfl
    · split
      · exact z8r (h _) (zkg s _)
      · exact .inl rfl
noncomputable def six6 (m j:Int):Prop:=(0<=j/\j<m/\m<=6)
theorem yc9 {m j:Int}(h:six6 m j):(m=1/\j=0)\/(m=2/\(j=0\/j=1))\/(m=3/\(j=0\/j=1\/j=2))\/(m=4/\(j=0\/j=1\/j=2\/j=3))\/(m=5/\(j=0\/j=1\/j=2\/j=3\/j=4))\/(m=6/\(j=0\/j=1\/j=2\/j=3\/j=4\/j=5)):=by
 obtain⟨c,b,a⟩:=h;omega
theorem z76 {m j:Int}(h:six6 m j):yesW m/(1*2^(1*2^j.toNat:Int).toNat+1)=wordOf (tab (2^m.toNat) (zeo (2^j.toNat))):=by
 rcases yc9 h with⟨rfl,rfl⟩|⟨rfl,rfl|rfl⟩|⟨rfl,rfl|rfl|rfl⟩|⟨rfl,rfl|rfl|rfl|rfl⟩|⟨rfl,rfl|rfl|rfl|rfl|rfl⟩|⟨rfl,rfl|rfl|rfl|rfl|rfl|rfl⟩<;>decide +kernel
noncomputable def znx (Ψ:Str->Fn):GS:=(gRet (gOp2 #v[0,0,3] (gArg (gCall [Zc] (Ψ "all_yes") #v[1,19])) (gArg (gOp2 oAdd (gArg (gOp2 #v[0,0,1] #v[1] (gArg (gOp2 #v[0,0,1] #v[1] (zaa 1))))) #v[1]))))
noncomputable def zup (Ψ:Str->Fn):GS:=(gSeq (gSet [] 3 (gCall [Zc,Zc] (Ψ "times") (gCns #v[1,4] (gCns (gArg (gCall [Zc,Zc] (Ψ "letter_no") (gCns #v[0,4] #v[8,14]))) gA0)))) (gRet (gCall [Zc,Zc] (Ψ "plus") (gCns #v[1,4] (gCns (gArg (gOp2 #v[0,0,1] (zaa 3) (gArg (gOp2 #v[0,0,1] #v[1] (zaa 2))))) gA0)))))
noncomputable def NoOk (Φ:Fn):Prop:=∀m j:Int,six6 m j->Φ [.int m,.int j]=Za ([.int m,.int j],(.int (wordOf (tab (2^m.toNat) (zeo (2^j.toNat)))),Zc))
theorem yc3 {Ψ:Str->Fn}(e:zqe (Ψ "all_yes")):NoOk (zad [Zc,Zc] 2 (znx Ψ)):=λm j h=>by
 have b:=h;obtain⟨a,g,f⟩:=b;have d:cDiv (yesW m) (1*2^(1*2^j.toNat:Int).toNat+1)=Zd:=by
  have c:j=0\/j=1\/j=2\/j=3\/j=4\/j=5:=by omega
  rcases c with rfl|rfl|rfl|rfl|rfl|rfl<;>exact zqf #v[0,9] #v[0,9]
 exact za3 (en:=[#v[m,0],#v[j,0]]) rfl (z17 (op2_0 (arg_0 (znd (ws:=[.int m]) rfl rfl (e m #v[] f) rfl)) (arg_0 (op2_0 (arg_0 (op2_0 (x:=.inl (.int 1)) rfl (arg_0 (op2_0 (x:=.inl (.int 1)) rfl rfl rfl rfl (oI_t (cP1 a #v[])))) rfl rfl (oI_t (cP2 a #v[])))) rfl rfl rfl rfl)) rfl rfl ((oI_t d).trans (by rw[z76 h])))) rfl
noncomputable def z3s (Φ:Fn):Prop:=∀(m j:Int) (f:Nat->Int),six6 m j->(∀i,Bit (f i))->Φ #v[9,19]=Za (#v[9,19],(.int (wordOf (tab (2^m.toNat) (zjh (2^j.toNat) f))),Zc))
theorem z74 {Ψ:Str->Fn}(p:NoOk (Ψ "letter_no"))(l:zz9 (Ψ "times"))(hX:z0k (Ψ "plus")):z3s (zad [Zc,Zc,Zc] 4 (zup Ψ)):=λm j f h k=>by
 have n:=h;obtain⟨g,y,s⟩:=n;have sz:=yam g (show j<=6 by omega);have d:Bits (tab (2^m.toNat) f):=za2 λi _=>k i;have b:Bits (tab (2^m.toNat) (zeo (2^j.toNat))):=za2 λi _=>zkg _ i;have t:=l (wordOf (tab (2^m.toNat) f)) (wordOf (tab (2^m.toNat) (zeo (2^j.toNat))));generalize a:Builtin.bitAnd (wordOf (tab (2^m.toNat) f)) (wordOf (tab (2^m.toNat) (zeo (2^j.toNat))))=lo at t;have u:0<=lo/\lo<2^64:=by
  rw[<-a,ze3 d b];have q:=zpw (f:=(· * ·)) (λ_ _=>z8r) d b;have w:=zel q;refine⟨w.1,Int.lt_of_lt_of_le w.2 ?_⟩;rw[Fv,zam,zam,Ha];rcases yck (show 0<=m by omega) s with rfl|rfl|rfl|rfl|rfl|rfl|rfl<;>decide
 have o:(1*2^j.toNat:Int).toNat=2^j.toNat:=by rw[Int.one_mul];exact Int.toNat_pow_of_nonneg #v[0,9] _
 have key:Builtin.bitXor (wordOf (tab (2^m.toNat) f)) (lo*2^(1*2^j.toNat:Int).toNat)=wordOf (tab (2^m.toNat) (zjh (2^j.toNat) f)):=by
  rw[o,<-a];refine zxw (c:=2^(m.toNat-j.toNat-1)) k (Nat.pow_pos #v[0,9]) ?_ (Nat.pow_pos #v[0,9]);have e:m.toNat=j.toNat+(1+(m.toNat-j.toNat-1)):=by omega
  rw[<-Nat.pow_succ',<-Nat.pow_add];congr 1;omega
 have x:=hX (wordOf (tab (2^m.toNat) f)) (lo*2^(1*2^j.toNat:Int).toNat);rw[key] at x;refine za3 (en:=[#v[m,0],#v[(wordOf (tab (2^m.toNat) f)),0],#v[j,0],#v[lo,0]]) rfl ?_ rfl;refine (seq_nx (set_0 (znd (ws:=[.int (wordOf (tab (2^m.toNat) f)),.int (wordOf (tab (2^m.toNat) (zeo (2^j.toNat))))]) (zst (x:=.inl (.int (wordOf (tab (2^m.toNat) f)))) rfl (zst (arg_0 (znd (ws:=[.int m,.int j]) rfl rfl (p m j h) rfl)) rfl)) rfl t rfl) rfl)).trans ?_;exact z17 (znd (ws:=[.int (wordOf (tab (2^m.toNat) f)),.int (lo*2^(1*2^j.toNat:Int).toNat)]) (zst (x:=.inl (.int (wordOf (tab (2^m.toNat) f)))) rfl (zst (arg_0 (r:=(.int (lo*2^(1*2^j.toNat:Int).toNat),Zc)) (op2_0 (x:=.inl (.int lo)) rfl (arg_0 (op2_0 (x:=.inl (.int 1)) rfl rfl rfl rfl (oI_t (cP1 g #v[])))) rfl rfl (oI_t (zkw #v[] #v[] #v[])))) rfl)) rfl x rfl)
theorem zi1 (n:Nat)(f:Nat->Int):tab (n+1) f=tab n f++[f n]:=by unfold tab;rw[Gr,Bo];rfl
theorem zqw {n:Nat}{f:Nat->Int}{i:Nat}(h:i<n):((tab n f).map W.int)[i]?=Za (.int (f i)):=by rw[Aj,zcp h];rfl
noncomputable def itF:Nat->(Nat->Int)->Nat->Int
 |0,f=>f
 |k+1,f=>zjh (2^k) (itF k f)
theorem z3d {f:Nat->Int}(h:∀i,Bit (f i)):∀k i,Bit (itF k f i)
 |0,i=>h i
 |k+1,i=>z1g (z3d h k) i
noncomputable def rowF (m:Int) (f:Nat->Int) (k:Nat):Int:=wordOf (tab (2^m.toNat) (itF k f))
noncomputable def z4c (Ψ:Str->Fn):GS:=(gSeq (gSet [] 2 (zaq #v[0,19])) (gSeq (gFor [] (.nm 3) (zbt #v[4,20]) (zc2 #v[9,18])) (gRet (gOpN oTuple #v[3,20]))))
noncomputable def zus (Φ:Fn):Prop:=∀(m:Int) (f:Nat->Int),0<=m->m<=6->(∀i,Bit (f i))->Φ [.int m,.int (rowF m f 0)]=Za ([.int m,.int (rowF m f 0)],(.tup ((tab (m.toNat+1) (rowF m f)).map W.int),Zc))
theorem z0p {Ψ:Str->Fn}(hS:z3s (Ψ "stepped")):zus (zad [Zc,Zc] 4 (z4c Ψ)):=λm f t p k=>by
 have u:(1000:Nat)<=sizeLine:=by decide
 have d:(zbt #v[4,20]) #v[8,9]=Za (#v[8,9],rngW 0 m.toNat):=by
  show (if zdk m then Za ((#v[8,9]:En),rngW 0 m.toNat) else Zb)=_;rw[if_pos];unfold zdk;rw[Ah #v[],Ah #v[]]
  rfl
 obtain⟨q,h,n⟩:=zaz (mp:=[]) (T:=(.nm 3)) (it:=(zbt #v[4,20])) (body:=(zc2 #v[9,18]))
  (λi e=>∃b,e=[#v[m,0],#v[(rowF m f 0),0],#v[((tab (i+1) (rowF m f)).map W.int),2],b]) d ⟨Zb,rfl⟩
  (by
   rintro i w e j ⟨b,rfl⟩;obtain⟨s,rfl⟩:=zen j;have c:=hS m (0+i) (itF i f) ⟨by omega,by omega,p⟩ (z3d k i);have l:(0+(i:Int)).toNat=i:=by omega
   rw[l] at c;have g:(tab (i+1) (rowF m f)).length=i+1:=zam _ _;have o:(gCall [Zc,Zc,Zc] (Ψ "stepped") #v[8,11]) #v[0,11]=Za (#v[0,11],(.int (rowF m f (i+1)),Zc)) :=
    znd (ws:=[.int m,.int (rowF m f i),.int (0+(i:Nat))]) (zst (x:=.inl (.int m)) rfl (zst (arg_0 (r:=(.int (rowF m f i),Zc)) (op2_0 (x:=.inr 2) rfl rfl rfl rfl (zif rfl (by rw[Hb];exact zbz (zqw #v[]))))) rfl)) rfl c rfl
   refine⟨#v[0,11],[#v[m,0],#v[(rowF m f 0),0],#v[((tab (i+1+1) (rowF m f)).map W.int),2],#v[(0+(i:Nat)),0]],rfl,.inl ?_,_,rfl⟩;have a:=z3v (i:=2) rfl o rfl (by rw[Ad,g];omega);rw[zi1 (i+1),Bo];exact zx8 a)
 obtain⟨b,rfl⟩:=n;rw[zf7] at h;refine za3 (en:=[#v[m,0],#v[(rowF m f 0),0],#v[((tab (m.toNat+1) (rowF m f)).map W.int),2],b]) rfl ?_ rfl;exact (seq_nx (e1:=#v[8,9]) rfl).trans ((seq_nx h).trans rfl)
noncomputable def zo1 (p:Nat):List Nat:=(List.range (p+1)).filter λo=>o &&& p==o
noncomputable def zjf (f:Nat->Int) (p:Nat):Int:=((zo1 p).map f).sum%2
noncomputable def evS (L:List Nat) (f:Nat->Int) (S:Nat):Int:=((L.filter λi=>S.testBit i).map f).sum
theorem ev_xor (f:Nat->Int) (A B:Nat):∀L:List Nat,evS L f (A ^^^ B)%2=(evS L f A+evS L f B)%2
 |[]=>rfl
 | i::L=>by
  have a:=ev_xor f A B L;unfold evS at a ⊢;rw[Dy,Dy,Dy,Eg];cases A.testBit i<;>cases B.testBit i<;>simp only [Fo,Bool.xor_true,Bool.not_true,Gd,Fq,Gm,Ax,Cv,Dq]<;>omega
noncomputable def itS:Nat->Nat->Nat
 |0,i=>2^i
 |k+1,i=>if i/2^k%2=1 then itS k i ^^^ itS k (i-2^k) else itS k i
theorem z4g:∀i:Fin 64,(List.range 64).filter (λj=>(2^i.val).testBit j)=[i.val]:=by decide +kernel
theorem z5c {f:Nat->Int} (h:∀i,Bit (f i)):∀k i,i<64->itF k f i=evS (List.range 64) f (itS k i)%2
 | 0,i,d=>by
  unfold evS itS itF;rw[z4g ⟨i,d⟩];show f i=(f i+0)%2;rcases h i with e|e<;>rw[e]<;>rfl
 | k+1,i,d=>by
  have a:=z5c h k i d;have b:=z5c h k (i-2^k) (He (Nat.sub_le _ _) d);unfold itF itS zjh;by_cases c:i/2^k%2=1
  ·rw [if_pos c,if_pos c,a,b,ev_xor]
   omega
  ·rw[if_neg c,if_neg c,a]
theorem z7e:∀m:Fin 7,∀p:Fin (2^m.val),(List.range 64).filter (λj=>(itS m.val p.val).testBit j)=zo1 p.val:=by decide +kernel
theorem z7t {f:Nat->Int}(h:∀i,Bit (f i)){m p:Nat}(b:m<=6)(a:p<2^m):itF m f p=zjf f p:=by
 have lt:2^m<=2^6:=Dd #v[0,9] b;rw[z5c h m p #v[]];unfold evS zjf;rw[z7e ⟨m,by omega⟩ ⟨p,a⟩]
theorem zdx (n:Nat)(f:Nat->Int):tab (n+1) f=tab n f++[f n]:=by unfold tab;rw[Gr,Bo];rfl
theorem zkq:∀(p:Nat) (b:List Int),Bits b->Builtin.bitAnd (wordOf b/2^p) 1=b.getD p 0
 | p,[],_=>by
  show Builtin.bitAnd ((0:Int)/2^p) 1=0;rw[Int.zero_ediv,zqk]
 | 0,x::b,h=>by
  have a:=ze1 (zef h.tail) (Int.le_refl 0) h.head (show Bit 1 from .inr rfl);rw[bitAnd_zero] at a;show Builtin.bitAnd (wordOf (x::b)/1) 1=x;rw[Int.ediv_one,zal];have e:(2*0+1:Int)=1:=rfl;rw[e] at a;rw[a];omega
 | p+1,x::b,h=>by
  have i:=zkq p b h.tail;have e:wordOf (x::b)/2^(p+1)=wordOf b/2^p:=by
   rw[zal,Int.pow_succ,Int.mul_comm ((2:Int)^p) 2,<-Int.ediv_ediv_of_nonneg #v[0,9]];congr 1;rcases h.head with q|q<;>rw[q]<;>omega
  rw[e,i]
  rfl
theorem z2d {n:Nat}{f:Nat->Int}(h:∀i,n<=i->f i=0)(p:Nat):(tab n f).getD p 0=f p:=by
 rw[Cq];by_cases c:p<n
 ·rw[zcp c];rfl
 ·rw[Ci (by rw[zam];omega),h p #v[]];rfl
noncomputable def dueL (f:Nat->Int) (n:Nat):List Nat:=(List.range n).filter λp=>decide (f p=1)
noncomputable def zac (M:List Nat):List W:=M.map λp:Nat=>W.int p
theorem zat (M:List Nat):(zac M).length=M.length:=Ad ..
theorem zl8 {M:List Nat}{i:Nat}{w:W}(h:(zac M)[i]?=Za w):∃p,M[i]?=Za p/\w=.int (p:Nat):=by
 unfold zac at h;rw[Aj] at h;obtain⟨p,b,a⟩:=Du.mp h;exact⟨p,b,a.symm⟩
theorem z39 {f:Nat->Int} (h:∀i,Bit (f i)):∀n,((dueL f n).length:Int)=(tab n f).sum
 |0=>rfl
 | n+1=>by
  have a:=z39 h n;unfold dueL at a ⊢;rw[Gr,Cf,Bb,zdx,List.sum_append,<-a];rcases h n with e|e
  ·rw[Bf (by rw[e];decide),e];rfl
  ·rw[Be (by rw[e];decide),e];rfl
theorem zqi (f g h:Nat->Int):∀n,wordOf (tab n f)+wordOf (tab n g)-wordOf (tab n h)=wordOf (tab n λi=>f i+g i-h i)
 |0=>rfl
 | n+1=>by
  have a:=zqi f g h n;rw[zdx,zdx,zdx,zdx,za1,za1,za1,za1,<-a,zam,zam,zam,zam];show _+2^n*(2*0+f n)+(_+2^n*(2*0+g n))-(_+2^n*(2*0+h n))=_+2^n*(2*0+(f n+g n-h n));rw[show (2*0+f n)=f n by omega,show (2*0+g n)=g n by omega,show (2*0+h n)=h n by omega,show (2*0+(f n+g n-h n))=f n+g n-h n by omega,Int.mul_sub,Int.mul_add];omega
theorem zyt {n p:Nat}(h:p<n):(1*2^p:Int)=wordOf (tab n λi=>if i=p then 1 else 0):=by
 obtain⟨k,rfl⟩ : ∃k,n=p+(1+k):=⟨n-p-1,by omega⟩;have c:(tab p λi=>if i=p then (1:Int) else 0)=List.replicate p 0:=by
  rw[<-zdz];exact tab_ext λi b=>if_neg #v[]
 have a:(tab k λi=>if p+(1+i)=p then (1:Int) else 0)=List.replicate k 0:=by
  rw[<-zdz];exact tab_ext λi b=>if_neg #v[]
 have e:(tab 1 λi=>if p+i=p then (1:Int) else 0)=[1]:=by
  show [if p+0=p then (1:Int) else 0]=[1];rw[if_pos #v[]]
 rw[zjx,zjx,c,a,e,za1,zcr,Ed];show _=0+2^p*(2*wordOf (List.replicate k 0)+1);rw[zcr];omega
theorem ya3 (x y:Int):Builtin.bitOr x y=x+y-Builtin.bitAnd x y:=by
 have h:=zjp x y;have e:Builtin.bitXor x y=Builtin.bitOr x y-Builtin.bitAnd x y:=rfl;omega
theorem zur {n p:Nat}{f:Nat->Int}(h:∀i,Bit (f i))(a:p<n):Builtin.bitOr (wordOf (tab n f)) (1*2^p)=wordOf (tab n λi=>if i=p then 1 else f i):=by
 rw[zyt a,ya3,ze3 (za2 λi _=>h i) (za2 λi _=>by split<;>first|exact .inr rfl|exact .inl rfl),ziq,zqi];refine congrArg wordOf (tab_ext λi _=>?_);by_cases c:i=p
 ·rw[if_pos c,if_pos c];omega
 ·rw[if_neg c,if_neg c];omega
theorem z29 {mp:List Nat}{o:O2}{i:Nat}{g:GA}{en e1:En}{x:W ⊕ Nat}{w u:W}{r:W×Bool}(a:en[i]?=Za (#v[w,6]))(b:g en=Za (e1,x))(h:resA e1 x=Za u)(d:o w u=Za r)(c:(mp.contains i || !decide (i<e1.length))=Zc):gAug mp o i g en=Za (e1.set i (Za r),.nx):=by
 unfold gAug;rw[a];show (g en).bind _=_;rw[b];show (resA e1 x).bind _=_;rw[h];show (o w u).bind _=_;rw[d];show (if (mp.contains i || !decide (i<e1.length))=Zd then Zb else Za (e1.set i (Za r),Fl.nx))=_;rw[c]
 rfl
noncomputable def z95 (Ψ:Str->Fn):GS:=(gRet (gOp2 #v[2,9] (gArg (gOp2 (oI (λ_ j=>decide (0<=j)) λi j=>.int (i / 2 ^ j.toNat)) (zaa 0) (zaa 1))) #v[1]))
noncomputable def z2q (Φ:Fn):Prop:=∀(n p:Nat) (f:Nat->Int),(∀i,Bit (f i))->(∀i,n<=i->f i=0)->Φ #v[4,22]=Za (#v[4,22],(.int (f p),Zc))
theorem z3y (Ψ:Str->Fn):z2q (zad [Zc,Zc] 2 (z95 Ψ)):=λn p f h b=>by
 have s:=zkq p _ (za2 (n:=n) λi _=>h i);rw[z2d b] at s;have a:gArg (gOp2 (oI (λ_ j=>decide (0<=j)) λi j=>.int (i / 2 ^ j.toNat)) (zaa 0) (zaa 1)) #v[4,17]=Za (#v[4,17],.inl (.int (wordOf (tab n f)/2^p))):=arg_0 (r:=(.int (wordOf (tab n f)/2^p),Zc)) (op2_0 (x:=.inl (.int (wordOf (tab n f)))) (y:=.inl (.int (p:Nat))) rfl rfl rfl rfl (oI_t (Ah (Ew p))));refine za3 (en:=#v[4,17]) rfl (z17 (op2_0 a (show gArg (gC (.int 1)) _=Za (_,.inl (.int 1)) from rfl) rfl rfl ?_)) rfl;show Za (W.int (Builtin.bitAnd (wordOf (tab n f)/2^p) 1),Zc)=_;rw[s]
noncomputable def zm0 (Ψ:Str->Fn):GS:=(gSeq #v[7,21] (gSeq (gFor [] (.nm 2) (zap (gVar 0)) #v[6,10]) (zcn [] 1)))
noncomputable def zfb (Φ:Fn):Prop:=∀(n:Nat) (M:List Nat),n<=64->(∀p∈M,p<n)->Φ [.tup (zac M)]=Za ([.tup (zac M)],(.int (wordOf (tab n λi=>if i∈M then 1 else 0)),Zc))
theorem zsj (Ψ:Str->Fn):zfb (zad [Zc] 3 (zm0 Ψ)):=λn M A hM=>by
 have z:(wordOf (tab n λi=>if i∈M.take 0 then 1 else 0))=0:=by
  have:(tab n λi=>if i∈M.take 0 then (1:Int) else 0)=List.replicate n 0:=by
   rw[<-zdz];exact tab_ext λi _=>if_neg (by rw[Dz];exact Cb)
  rw[this,zcr]
 obtain⟨s,d,h⟩:=zaz (mp:=[]) (T:=(.nm 2)) (it:=(zap (gVar 0))) (body:=#v[6,10])
  (λj e=>∃b,e=[#v[(zac M),3],#v[(wordOf (tab n λi=>if i∈M.take j then 1 else 0)),0],b]) (en:=#v[0,20]) (e0:=#v[0,20]) (ws:=zac M) rfl ⟨Zb,by rw[z]⟩
  (by
   rintro j w e l ⟨b,rfl⟩;obtain⟨p,h,rfl⟩:=zl8 l;have g:p<n:=hM p (Bh h);have o:=zur (n:=n) (p:=p) (f:=λi=>if i∈M.take j then 1 else 0) (λi=>by show Bit (if _ then _ else _);split<;>first|exact .inr rfl|exact .inl rfl) g;have k:(tab n λi=>if i=p then (1:Int) else if i∈M.take j then 1 else 0)=tab n λi=>if i∈M.take (j+1) then 1 else 0:=tab_ext λi _=>by
    have m:i∈M.take (j+1)↔(i∈M.take j\/i=p):=by
     rw[Ce,h,Cc];show _\/i∈[p]↔_;rw[Az]
    by_cases c:i=p
    ·rw[if_pos c,if_pos (m.mpr (.inr c))]
    ·rw[if_neg c];by_cases a:i∈M.take j
     ·rw[if_pos a,if_pos (m.mpr (.inl a))]
     ·rw[if_neg a,if_neg (λq=>(m.mp q).elim a c)]
   rw[k] at o;have t:(1*2^((p:Nat):Int).toNat:Int)=1*2^p:=rfl;refine⟨[#v[(zac M),3],#v[(wordOf (tab n λi=>if i∈M.take j then 1 else 0)),0],#v[(p:Nat),0]],[#v[(zac M),3],#v[(wordOf (tab n λi=>if i∈M.take (j+1) then 1 else 0)),0],#v[(p:Nat),0]],rfl,.inl (z29 (w:=.int (wordOf (tab n λi=>if i∈M.take j then 1 else 0))) (u:=.int (1*2^p)) rfl (arg_0 (r:=(.int (1*2^p),Zc)) (op2_0 (x:=.inl (.int 1)) (y:=.inl (.int (p:Nat))) rfl rfl rfl rfl (oI_t (zkw #v[] #v[] #v[0,9])))) rfl ?_ rfl),_,rfl⟩;show Za (W.int (Builtin.bitOr (wordOf (tab n λi=>if i∈M.take j then 1 else 0)) (1*2^p)),Zc)=_;rw[o])
 obtain⟨b,rfl⟩:=h;rw[zat,Bs] at d;exact za3 rfl ((seq_nx (e1:=#v[0,20]) rfl).trans ((seq_nx d).trans rfl)) rfl
theorem zfq:∀a:List W,zbq (a.map Sum.inl)=Za a
 |[]=>rfl
 |w::a=>by show (zbq (a.map Sum.inl)).bind _=_;rw[zfq a];rfl
theorem zge:∀{x:List (W ⊕ Nat)}{a:List W},zbq x=Za a->x=a.map Sum.inl
 |[],_,e=>by obtain rfl:=sI e;rfl
 | .inl w::x,_,e=>by
  obtain⟨a,h,e⟩:=bS (show (zbq x).bind _=_ from e);obtain rfl:=sI e;rw[zge h];rfl
 |.inr _::_,_,e=>by exact noSome e
theorem zk6 {xs:List (W ⊕ Nat)} (m:List Bool) (a:(m.all λb=>!b)=Zd) (h:xs.map isR=m):∃c:List W,xs=c.map Sum.inl:=by
 induction xs generalizing m with
 |nil=>exact⟨[],rfl⟩
 | cons x xs d =>
  cases m with
  |nil=>cases h
  | cons b m =>
   rw[Ax] at h;injection h with h1 h2;rw[Cg,Ab] at a;obtain⟨c,e⟩:=d m a.2 h2;cases x with
   |inl w=>exact⟨w::c,by rw[e];rfl⟩
   |inr i=>rw[<-h1] at a;cases a.1
theorem zgu:∀{m:List Bool} (c:(m.all λb=>!b)=Zd) (a:List W),a.length=m.length->(a.map λ_=>Zc)=m
 |[],_,[],_=>rfl
 |[],_,_::_,h=>by cases h
 |_::_,_,[],h=>by cases h
 | b::m,c,w::a,h=>by
  rw[Cg,Ab] at c;rw[Ax,zgu c.2 a (by simpa using h)];cases b with
  |false=>rfl
  |true=>cases c.1
theorem zc7 (m:List Bool) (Φ:Fn) (as:GAs) (en:En) (g:(m.all λb=>!b)=Zd):gCall m Φ as en=(as en).bind λp=>(zbq p.2).bind λw=>if w.length=m.length then (Φ w).bind λq=>if q.1.length=m.length then Za (p.1,q.2) else Zb else Zb:=by
 cases ha:as en with
 |none=>unfold gCall;rw[ha];rfl
 | some p =>
  obtain⟨c,x⟩:=p;show _=(zbq x).bind _;cases hf:zbq x with
  | none =>
   unfold gCall;rw[ha];show (if (decide (x.map isR=m)&&_&&_)=Zd then _ else Zb)=Zb;rw[Ao (λz=>by obtain⟨w,e⟩:=zk6 m g z;rw[e,zfq] at hf;cases hf)]
   rfl
  | some w =>
   have i:=zge hf;subst i;show _=if w.length=m.length then _ else Zb;by_cases d:w.length=m.length
   ·rw [if_pos d]
    have f:=zgu g w d;cases hq:Φ w with
    | none =>
     unfold gCall;rw[ha];show (if (decide ((w.map Sum.inl).map isR=m)&&zaw c (w.map Sum.inl)&&zb0 (za6 (w.map Sum.inl)))=Zd then _ else _)=_;have e:(w.map Sum.inl).map isR=m:=by rw[<-f,Cr];rfl
     rw[Ah e,zey,zgp];show (zas c (w.map Sum.inl)).bind _=_;rw[zb7];show (Φ w).bind _=_;rw[hq]
     rfl
    | some q =>
     obtain⟨a,r⟩:=q;show _=if a.length=m.length then Za (c,r) else Zb;by_cases h:a.length=m.length
     ·rw [if_pos h]
      exact zk9 ha f hq #v[]
     ·rw [if_neg h]
      unfold gCall;rw[ha];show (if (decide ((w.map Sum.inl).map isR=m)&&zaw c (w.map Sum.inl)&&zb0 (za6 (w.map Sum.inl)))=Zd then _ else _)=_;have e:(w.map Sum.inl).map isR=m:=by rw[<-f,Cr];rfl
      rw[Ah e,zey,zgp];show (zas c (w.map Sum.inl)).bind _=_;rw[zb7];show (Φ w).bind _=_;rw[hq];show (if a.length=m.length then _ else Zb)=Zb;rw[if_neg h]
   ·rw [if_neg d]
    unfold gCall;rw[ha];show (if (decide ((w.map Sum.inl).map isR=m)&&_&&_)=Zd then _ else Zb)=Zb;rw[Ao (λz=>d (by rw[<-z,Ad,Ad]))]
    rfl
theorem zd4 (m:List Bool) (Φ:Fn) (as:GAs) (en:En) (A:(m.all λb=>!b)=Zd):gCall (Zd::m) Φ as en=(as en).bind λp=>match p.2 with
  | .inr i::x=>(zbq x).bind λa=>(match p.1[i]? with
   | some (Za (s,Zd))=>if a.length=m.length then (Φ (s::a)).bind λq=>(match q.1 with
    |o::u=>if u.length=m.length then Za (p.1.set i (#v[o,5]),q.2) else Zb
    |[]=>Zb) else Zb
   |_=>Zb)
  |_=>Zb:=by
 cases j:as en with
 |none=>unfold gCall;rw[j];rfl
 | some p =>
  obtain ⟨d,x⟩:=p;have base:gCall (Zd::m) Φ as en=if decide (x.map isR=Zd::m)&&zaw d x&&zb0 (za6 x) then (zas d x).bind λa=>(Φ a).bind λq=>if q.1.length=(Zd::m).length then Za (zau (za6 x) d (za8 (Zd::m) q.1),q.2) else Zb else Zb:=by
   unfold gCall;rw[j];rfl
  have c:x.map isR≠Zd::m->gCall (Zd::m) Φ as en=Zb:=λz=>by rw[base,Ao z];rfl
  have f:zaw d x=Zc->gCall (Zd::m) Φ as en=Zb:=λz=>by rw[base,z,Hh];rfl
  simp only [Dp]
  match x,j,base,c,f with
  |[],j,_,c,_=>rw[c (by simp)]
  |.inl w::x,j,_,c,_=>rw[c (by simp [isR])]
  | .inr i::x,j,base,c,f =>
   simp only;cases hf:zbq x with
   | none=>rw [c (λz=>by
     rw[Ax] at z;injection z with _ z;obtain⟨a,e⟩:=zk6 m A z;rw[e,zfq] at hf;cases hf)];rfl
   | some a =>
    have D:=zge hf;subst D;simp only [Dp];have C:(∀s,d[i]?≠Za (Za (s,Zd)))->zaw d (.inr i::a.map Sum.inl)=Zc:=λz=>by
     unfold zaw;rw [Cg];have:(match d[i]? with | some (Za (_,Zd))=>Zd | _=>Zc)=Zc:=by
      split
      ·rename_i q;exact absurd q (z _)
      ·rfl
     simp only [this,Ev]
    split
    ·rename_i s h
     by_cases t:a.length=m.length
     ·rw [if_pos t]
      have B:=zgu A a t;cases l:Φ (s::a) with
      | none =>
       rw[base];split
       ·have y:zas d (.inr i::a.map Sum.inl)=Za (s::a):=by
         show (resA d (.inr i)).bind _=_;have:resA d (.inr i)=Za s:=by unfold resA;simp only [h]
         rw[this];show (zas d (a.map Sum.inl)).bind _=_;rw[zb7]
         rfl
        rw[y];show (Φ (s::a)).bind _=_;rw[l]
        rfl
       ·rfl
      | some q =>
       obtain ⟨g,r⟩:=q;simp only [Dp];have n:g.length≠(Zd::m).length->gCall (Zd::m) Φ as en=Zb:=λz=>by
        rw[base];split
        ·have y:zas d (.inr i::a.map Sum.inl)=Za (s::a):=by
          show (resA d (.inr i)).bind _=_;have:resA d (.inr i)=Za s:=by unfold resA;simp only [h]
          rw[this];show (zas d (a.map Sum.inl)).bind _=_;rw[zb7]
          rfl
         rw[y];show (Φ (s::a)).bind _=_;rw[l];show (if g.length=(Zd::m).length then _ else Zb)=Zb;rw[if_neg z]
        ·rfl
       match g,l,n with
       |[],l,n=>rw[n (by simp)]
       | o::u,l,n =>
        simp only;by_cases k:u.length=m.length
        ·rw [if_pos k]
         exact zq2 j (by rw[B]) h l #v[]
        ·rw[if_neg k,n (by simpa using k)]
     ·rw [if_neg t,c (λz=>t (by
       have:=congrArg List.length z;simpa using this))]
    ·rename_i h
     exact f (C λs z=>h s z)
theorem oI_e {c:Int->Int->Bool}{g:Int->Int->W}{i j:Int}:oI c g (.int i) (.int j)=if c i j then #v[g i j,6] else Zb:=rfl
theorem ycj {i j:Int}:yes2 i j=Zd:=rfl
theorem z18 {ws:List W}:seqW (.tup ws)=Za ws:=rfl
theorem z1z {ws:List W}:seqW (.lst ws)=Za ws:=rfl
theorem z0g {ws:List W}:seqL (.lst ws)=Za ws:=rfl
theorem ydp {a:W}{i:Int}:oIx a (.int i)=(seqW a).bind λb=>(atI b i).bind λw=>#v[w,6]:=by cases a<;>rfl
theorem yav {en:En}{w:W}:resA en (.inl w)=Za w:=rfl
theorem ybq {en:En}{i:Nat}:resA en (.inr i)=match en[i]? with|some (Za (w,_))=>Za w|_=>Zb:=by
 unfold resA;rfl
theorem ydh {i j:Int}:oEq (.int i) (.int j)=Za #v[8,18]:=rfl
theorem yde {i j:Int}:oNe (.int i) (.int j)=Za (.bl (!decide (i=j)),false):=rfl
theorem zzq {w:W}{xs:List (W ⊕ Nat)}:zbq (.inl w::xs)=(zbq xs).bind λa=>Za (w::a):=rfl
theorem z1p:zbq []=Za []:=rfl
theorem z31 {en:En}{x:W ⊕ Nat}{xs:List (W ⊕ Nat)}:zas en (x::xs)=(resA en x).bind λw=>(zas en xs).bind λa=>Za (w::a):=rfl
theorem z50 {en:En}:zas en []=Za []:=rfl
theorem z44 {b:Bool}{m:List Bool}{w:W}{ws:List W}:za8 (b::m) (w::ws)=Za (w,b)::za8 m ws:=rfl
theorem z5q {ws:List W}:za8 [] ws=[]:=by unfold za8;simp
theorem z90 {en:En}:zcw [] [] en=Za []:=rfl
theorem yan {m:List Bool}{w u:W}{ws:List W}{en:En}:zcw (Zd::m) (u::ws) (#v[w,5]::en)=(zcw m ws en).bind λr=>Za (w::r):=rfl
theorem ybz {m:List Bool}{w:W}{ws:List W}{x:Option (W×Bool)}{en:En}:zcw (Zc::m) (w::ws) (x::en)=(zcw m ws en).bind λr=>Za (w::r):=rfl
theorem ycn {x:W}{xs:List W}:atI (x::xs) 0=Za x:=by
 have:=zbz (xs:=x::xs) (i:=0) rfl;exact this
theorem ydt {x y:W}{xs:List W}:atI (x::y::xs) 1=Za y:=by
 have:=zbz (xs:=x::y::xs) (i:=1) rfl;exact this
theorem ycx {x y z:W}{xs:List W}:atI (x::y::z::xs) 2=Za z:=by
 have:=zbz (xs:=x::y::z::xs) (i:=2) rfl;exact this
theorem z1n {n:Nat}:((no_index (OfNat.ofNat n):Nat):Int)=(OfNat.ofNat n:Int):=rfl
theorem z11 {xs ys:List W}:oAdd (.lst xs) (.lst ys)=if xs.length+ys.length<=sizeLine then #v[(xs++ys),2] else Zb:=by
 by_cases h:xs.length+ys.length<=sizeLine
 ·rw[if_pos h];exact znl h
 ·rw [if_neg h];show oOr oCat (oOr zz1 (oOr z7y z2f)) (.lst xs) (.lst ys)=Zb;have e:oCat (.lst xs) (.lst ys)=Zb:=by
   show (if xs.length+ys.length<=sizeLine then _ else Zb)=Zb;rw[if_neg h]
  unfold oOr;rw[e]
  rfl
theorem zpa:oIsi .int .non=Za #v[1,8]:=rfl
theorem zsz {b:Bool}:oIsi .int (.bl b)=Za #v[6,11]:=rfl
theorem zo4 {n:Int}:oIsi .int (.int n)=Za #v[6,11]:=rfl
theorem znu {x:Str}:oIsi .int (.str x)=Za #v[1,8]:=rfl
theorem zoj {xs:List W}:oIsi .int (.tup xs)=Za #v[1,8]:=rfl
theorem zot {xs:List W}:oIsi .int (.lst xs)=Za #v[1,8]:=rfl
theorem zov:oIsi .int .dic=Za #v[1,8]:=rfl
theorem zmb:oIsi .bool .non=Za #v[1,8]:=rfl
theorem zou {b:Bool}:oIsi .bool (.bl b)=Za #v[6,11]:=rfl
theorem zmv {n:Int}:oIsi .bool (.int n)=Za #v[1,8]:=rfl
theorem zng {x:Str}:oIsi .bool (.str x)=Za #v[1,8]:=rfl
theorem zlv {xs:List W}:oIsi .bool (.tup xs)=Za #v[1,8]:=rfl
theorem zls {xs:List W}:oIsi .bool (.lst xs)=Za #v[1,8]:=rfl
theorem zkz:oIsi .bool .dic=Za #v[1,8]:=rfl
theorem zon:oIsi .str .non=Za #v[1,8]:=rfl
theorem zs4 {b:Bool}:oIsi .str (.bl b)=Za #v[1,8]:=rfl
theorem zo6 {n:Int}:oIsi .str (.int n)=Za #v[1,8]:=rfl
theorem zoo {x:Str}:oIsi .str (.str x)=Za #v[6,11]:=rfl
theorem zn6 {xs:List W}:oIsi .str (.tup xs)=Za #v[1,8]:=rfl
theorem zn8 {xs:List W}:oIsi .str (.lst xs)=Za #v[1,8]:=rfl
theorem znv:oIsi .str .dic=Za #v[1,8]:=rfl
theorem zi8:oIsi .tuple .non=Za #v[1,8]:=rfl
theorem zlz {b:Bool}:oIsi .tuple (.bl b)=Za #v[1,8]:=rfl
theorem zi6 {n:Int}:oIsi .tuple (.int n)=Za #v[1,8]:=rfl
theorem zj9 {x:Str}:oIsi .tuple (.str x)=Za #v[1,8]:=rfl
theorem zj2 {xs:List W}:oIsi .tuple (.tup xs)=Za #v[6,11]:=rfl
theorem zjk {xs:List W}:oIsi .tuple (.lst xs)=Za #v[1,8]:=rfl
theorem zjo:oIsi .tuple .dic=Za #v[1,8]:=rfl
theorem zmp:oIsi .list .non=Za #v[1,8]:=rfl
theorem zn1 {b:Bool}:oIsi .list (.bl b)=Za #v[1,8]:=rfl
theorem zk5 {n:Int}:oIsi .list (.int n)=Za #v[1,8]:=rfl
theorem zm2 {x:Str}:oIsi .list (.str x)=Za #v[1,8]:=rfl
theorem zmx {xs:List W}:oIsi .list (.tup xs)=Za #v[1,8]:=rfl
theorem zlk {xs:List W}:oIsi .list (.lst xs)=Za #v[6,11]:=rfl
theorem zmh:oIsi .list .dic=Za #v[1,8]:=rfl
theorem ydy {i j:Bool}:oEq (.bl i) (.bl j)=Za #v[8,18]:=rfl
theorem ycr {i j:Bool}:oNe (.bl i) (.bl j)=Za (.bl (!decide (i=j)),false):=rfl
theorem ydn {i j:Str}:oEq (.str i) (.str j)=Za #v[8,18]:=rfl
theorem ydk {i j:Str}:oNe (.str i) (.str j)=Za (.bl (!decide (i=j)),false):=rfl
theorem ydj {i j:Bool}:oIs (.bl i) (.bl j)=Za #v[8,18]:=rfl
theorem ybx {f:List Bool->Bool}{bs:List Bool}:oBl f [.lst (bs.map W.bl)]=Za (.bl (f bs),Zc):=by
 show (zo8 (bs.map W.bl)).bind _=_;rw[zl4];rfl
theorem ycb {cap:Cap}{it:GL}{te:GE}{en e0:En}{ws b:List W}{xs:En} (m:it en=Za (e0,ws)) (y:ws.length<=1000) (q:b.length=ws.length) (t:zb0 cap=Zd) (n:(capKeep cap).contains 1=Zc) (o:zej cap e0=Zb::Zb::xs) (x:∀a d,zau cap e0 (a::d::xs)=e0)
  (s:∀(i:Nat) a w r,ws[i]?=Za w->b[i]?=Za r->∃u f,te (a::#v[w,6]::xs)=Za (a::u::xs,(r,f))) :
  za7 cap (.nm 1) it gYes te en=Za (e0,(.lst b,Zd)):=by
 have z:(1000:Nat)<=sizeLine:=by decide
 obtain⟨p,out,j,e⟩:=zc1 (cap:=cap) (T:=.nm 1) (tc:=gYes) (te:=te) (λi c k=>(∃a d,c=a::d::xs)/\k=b.take i) m t #v[] ⟨⟨_,_,o⟩,rfl⟩
  (λi w c k g e=>by
   obtain⟨⟨a,d,rfl⟩,rfl⟩:=e;have lt:i<ws.length:=(Af.mp g).1;have l:b[i]?=Za b[i]:=Ae #v[];obtain⟨u,f,h⟩:=s i a w _ g l;refine⟨a::#v[w,6]::xs,?_,.inl ⟨_,_,_,rfl,h,⟨_,_,rfl⟩,?_⟩⟩
   ·show (if (capKeep cap).contains 1 || !decide (1<(a::d::xs).length) then Zb else _)=_;rw[n,Ah (by rw[Ay,Ay];omega)]
    rfl
   ·show b.take i ++ [b[i]]=b.take (i+1);rw[Ce,l];rfl)
 obtain⟨⟨a,d,rfl⟩,rfl⟩:=e;rw[x,<-q,Bs] at j;exact j
theorem zay {T:List Fd}{bn:List Str}{d:Nat}{x:Str}{t:Fd}{g:GS}(h:T.find? (·.nm==x)=Za t)(a:zai T bn (sem T bn (d+2)) (d+2) t=Za g):sem T bn (d+3) x=zad t.m t.N.length g:=by
 show (match T.find? (·.nm==x) with|some t=>fnAt T bn (sem T bn (d+2)) (d+2) t|none=>λ_=>Zb)=_;rw[h];show fnAt T bn (sem T bn (d+2)) (d+2) t=_;unfold fnAt;rw[a]
noncomputable def evA:=And.intro @oI_e ( And.intro @ycj ( And.intro @zww ( And.intro @z11 ( And.intro @z18 ( And.intro @z1z ( And.intro @z0g ( And.intro @ydp ( And.intro @yav ( And.intro @ybq ( And.intro @ydh ( And.intro @yde ( And.intro @ydy ( And.intro @ycr ( And.intro @ydn ( And.intro @ydk ( And.intro @ydj ( And.intro @ybx ( And.intro @zzq ( And.intro @z1p ( And.intro @z31 ( And.intro @z50 ( And.intro @z44 ( And.intro @z5q ( And.intro @z90 ( And.intro @yan ( And.intro @ybz ( And.intro (λΦ as en=>zc7 [Zc] Φ as en rfl) ( And.intro (λΦ as en=>zc7 [Zc,Zc] Φ as en rfl) ( And.intro (λΦ as en=>zc7 [Zc,Zc,Zc] Φ as en rfl) ( And.intro (λΦ as en=>zc7 [Zc,Zc,Zc,Zc] Φ as en rfl) ( And.intro (λΦ as en=>zd4 [] Φ as en rfl) ( And.intro (λΦ as en=>zd4 [Zc] Φ as en rfl) ( And.intro (λΦ as en=>zd4 [Zc,Zc] Φ as en rfl) ( And.intro (λΦ as en=>zd4 [Zc,Zc,Zc] Φ as en rfl) ( And.intro @ycn ( And.intro @ydt ( And.intro @ycx ( And.intro @Hd ( And.intro @zpa ( And.intro @zsz ( And.intro @zo4 ( And.intro @znu ( And.intro @zoj ( And.intro @zot ( And.intro @zov ( And.intro @zmb ( And.intro @zou ( And.intro @zmv ( And.intro @zng ( And.intro @zlv ( And.intro @zls ( And.intro @zkz ( And.intro @zon ( And.intro @zs4 ( And.intro @zo6 ( And.intro @zoo ( And.intro @zn6 ( And.intro @zn8 ( And.intro @znv ( And.intro @zi8 ( And.intro @zlz ( And.intro @zi6 ( And.intro @zj9 ( And.intro @zj2 ( And.intro @zjk ( And.intro @zjo ( And.intro @zmp ( And.intro @zn1 ( And.intro @zk5 ( And.intro @zm2 ( And.intro @zmx ( And.intro @zlk ( And.intro @zmh ( And.intro @z1n ( And.intro @Option.bind_some.{0,0} ( And.intro @Option.bind_none.{0,0} ( And.intro @List.length_cons.{0} ( And.intro @List.length_nil.{0} ( And.intro @List.getElem?_cons_zero.{0} ( And.intro @List.getElem?_cons_succ.{0} ( And.intro @List.set_cons_zero.{0} ( And.intro @List.set_cons_succ.{0} ( And.intro @List.nil_append.{0} ( And.intro @List.cons_append.{0} ( And.intro @List.contains_nil.{0} ( And.intro @Bool.false_or ( And.intro @Bool.or_false ( And.intro @Bool.not_true ( And.intro @Gd ( And.intro @Co ( And.intro @Nat.lt_add_one ( And.intro @Nat.zero_lt_succ ( And.intro @decide_true ( And.intro @decide_false ( And.intro @Br ( And.intro @List.elem_nil.{0} ( And.intro @List.elem_cons.{0} ( And.intro @Dq ( And.intro @Bool.true_eq_false ( And.intro @Bool.or_self ( And.intro @Bool.and_self ( And.intro @Bool.true_and ( And.intro @Ev ( And.intro @Bool.and_true ( And.intro @Hh ( And.intro @Bool.true_or ( And.intro @Bool.or_true ( And.intro @Dj ( And.intro @gVar.eq_1 ( And.intro @zaa.eq_1 ( And.intro @gC.eq_1 ( And.intro @gArg.eq_1 ( And.intro @gA0.eq_1 ( And.intro @gCns.eq_1 ( And.intro @gOp1.eq_1 ( And.intro @gOp2.eq_1 ( And.intro @gOpN.eq_1 ( And.intro @zaj.eq_1 ( And.intro @gAnd.eq_1 ( And.intro @gOr.eq_1 ( And.intro @gNot.eq_1 ( And.intro @zg7.eq_1 ( And.intro @gOrT.eq_1 ( And.intro @zpc.eq_1 ( And.intro @gIf.eq_1 ( And.intro @zbr.eq_1 ( And.intro @zaq.eq_1 ( And.intro @z9c.eq_1 ( And.intro @zco.eq_1 ( And.intro @zg6.eq_1 ( And.intro @gSl.eq_1 ( And.intro @zap.eq_1 ( And.intro @zbt.eq_1 ( And.intro @ztk.eq_1 ( And.intro @gRev.eq_1 ( And.intro @zb6.eq_1 ( And.intro @gBrk.eq_1 ( And.intro @gCnt.eq_1 ( And.intro @gSeq.eq_1 ( And.intro @gRet.eq_1 ( And.intro @ycp.eq_1 ( And.intro @gIfS.eq_1 ( And.intro @zc2.eq_1 ( And.intro @gSet.eq_1 ( And.intro @gAsg.eq_1 ( And.intro @gPar.eq_1 ( And.intro @za9.eq_1 ( And.intro @gApp.eq_1 ( And.intro @gExt.eq_1 ( And.intro @gAug.eq_1 ( And.intro @gYes.eq_1 ( And.intro @zcn.eq_1 ( And.intro @gZip.eq_1 ( And.intro @zr3.eq_1 ( And.intro @zad.eq_1 ( And.intro @yc0.eq_1 (@yd0.eq_1)))))))))))))))))))))))))))))))))))))))))))))))))))))))))))))))))))))))))))))))))))))))))))))))))))))))))))))))))))))))))))))))))))))))))))))))))))))))))))))
end L2
local macro_rules | `(tactic| simp! [$xs,*])=>`(tactic| simp only [L2.evA,L2.tgSet,L2.keyW,L2.oNeg,L2.oLen,L2.setAll,List.replicate,List.contains,eq_self,Nat.reduceAdd,Nat.reduceSub,Nat.reduceLT,Nat.reduceLeDiff,reduceIte,reduceCtorEq,Nat.reduceEqDiff,Nat.reduceBEq,↓reduceIte,Int.reduceEq,Int.reduceLE,Int.reduceLT,Int.reduceAdd,Int.reduceSub,Int.reduceMul,Int.reduceNeg,$xs,*])
namespace L2
open PySem PySem.Spec PyProof.Rows
noncomputable def zt3 (Ψ:Str->Fn):GE:=za7 [Zb,Zb,Za 3] (.nm 1) (zap (gVar 2)) gYes #v[9,21]
noncomputable def zws (Ψ:Str->Fn):GS:=(gSet [] 2 (gOp2 oAdd (zaa 2) (gArg (zt3 Ψ))))
noncomputable def zu3 (Ψ:Str->Fn):GS:=gFor [] (.nm 3) (zbt #v[4,20]) (zws Ψ)
noncomputable def zwm (Ψ:Str->Fn):GE:=za7 [Zb,Zb,Za 1] (.nm 1) (zap (gVar 2)) (zaj (gOp2 (oI yes2 λi j=>.bl (decide (i<=j))) #v[3,9] (zaa 2))) (gVar 1)
noncomputable def zp4 (Ψ:Str->Fn):GS:=(gSeq (gSet [] 2 (zaq #v[7,20])) (gSeq (zu3 Ψ) (gRet (zv5 (zbr (gCns #v[8,8] #v[1,19])) (gArg (zwm Ψ))))))
noncomputable def zfk (Ψ:Str->Fn):GE:=za7 [Zb,Zb,Za 2] (.nm 1) (zap (gVar 1)) gYes (gOp2 oEq (gArg (gOp2 #v[0,0,2] (gArg (gOp2 #v[0,0,3] (zaa 2) (gArg (gOp2 #v[0,0,1] #v[1] (zaa 1))))) #v[2])) #v[1])
noncomputable def zfo (Ψ:Str->Fn):GE:=za7 [Zb,Zb,Za 3] (.nm 1) (zap (gVar 1)) (zaj (gOpN (oBl λbs=>bs.all id) (gCns (gArg (zfk Ψ)) gA0))) (gVar 1)
noncomputable def zfl (Ψ:Str->Fn):GS:=(gSeq (gSet [] 4 (zfo Ψ)) (zc2 (gApp 2 (gOp2 #v[0,0,2] #v[9,17] #v[2]))))
noncomputable def zfs (Ψ:Str->Fn):GS:=gFor [] (.nm 3) (zbt (gCns #v[1,15] gA0)) (zfl Ψ)
noncomputable def zlj (Ψ:Str->Fn):GS:=(gSeq (gSet [] 2 (zaq gA0)) (gSeq (zfs Ψ) (zcn [] 2)))
noncomputable def zkj (Ψ:Str->Fn):GE:=za7 [Zb,Zb,Zb] (.tp [1,2]) (gZip (gVar 3) (gCall [Zd,Zc] (Ψ "_law_bits") (gCns (zaa 0) #v[9,10]))) (zaj (gOp2 oEq (zaa 2) #v[1])) (gVar 1)
noncomputable def zvx (Ψ:Str->Fn):GS:=(gSeq (gSet [0] 3 (gCall [Zc,Zc] (Ψ "_law_terms") #v[4,19])) (gRet (gOpN oTuple (gCns (gArg (zkj Ψ)) gA0))))
noncomputable def tmW (t:List Nat):W:=.tup (t.map λl=>.int (l:Nat))
noncomputable def zxs:Nat->Nat->Nat->Nat->List (List Nat)
 |_,_,_,0=>[[]]
 |0,_,_,_+1=>[]
 |f+1,l,m,k+1=>(if l<m then (zxs f (l+1) m k).map (l :: ·)++zxs f (l+1) m (k+1) else [])
noncomputable def zab (m most:Nat):List (List Nat):=(List.range (most+1)).flatMap λk=>zxs (m+1) 0 m k
noncomputable def zdy (Φ:Fn):Prop:=∀m most:Nat,m<=6->most<=6->Φ [.int m,.int most]=Za ([.int m,.int most],(.lst ((zab m most).map tmW),Zd))
noncomputable def tmP (Ψ:Str->Fn) (m k:Nat):Prop:=zad [Zc,Zc] 4 (zp4 Ψ) [.int (m:Int),.int (k:Int)]=Za ([.int (m:Int),.int (k:Int)],(.lst ((zab m k).map tmW),Zd))
theorem tm0 (Ψ:Str->Fn):tmP Ψ 0 0/\tmP Ψ 0 1/\tmP Ψ 0 2/\tmP Ψ 0 3/\tmP Ψ 0 4/\tmP Ψ 0 5/\tmP Ψ 0 6:=by
 unfold tmP;refine⟨?_,?_,?_,?_,?_,?_,?_⟩<;>kernel_rfl
theorem tm1 (Ψ:Str->Fn):tmP Ψ 1 0/\tmP Ψ 1 1/\tmP Ψ 1 2/\tmP Ψ 1 3/\tmP Ψ 1 4/\tmP Ψ 1 5/\tmP Ψ 1 6:=by
 unfold tmP;refine⟨?_,?_,?_,?_,?_,?_,?_⟩<;>kernel_rfl
theorem tm2 (Ψ:Str->Fn):tmP Ψ 2 0/\tmP Ψ 2 1/\tmP Ψ 2 2/\tmP Ψ 2 3/\tmP Ψ 2 4/\tmP Ψ 2 5/\tmP Ψ 2 6:=by
 unfold tmP;refine⟨?_,?_,?_,?_,?_,?_,?_⟩<;>kernel_rfl
theorem tm3 (Ψ:Str->Fn):tmP Ψ 3 0/\tmP Ψ 3 1/\tmP Ψ 3 2/\tmP Ψ 3 3/\tmP Ψ 3 4/\tmP Ψ 3 5/\tmP Ψ 3 6:=by
 unfold tmP;refine⟨?_,?_,?_,?_,?_,?_,?_⟩<;>kernel_rfl
theorem tm4 (Ψ:Str->Fn):tmP Ψ 4 0/\tmP Ψ 4 1/\tmP Ψ 4 2/\tmP Ψ 4 3/\tmP Ψ 4 4/\tmP Ψ 4 5/\tmP Ψ 4 6:=by
 unfold tmP;refine⟨?_,?_,?_,?_,?_,?_,?_⟩<;>kernel_rfl
theorem tm5 (Ψ:Str->Fn):tmP Ψ 5 0/\tmP Ψ 5 1/\tmP Ψ 5 2/\tmP Ψ 5 3/\tmP Ψ 5 4/\tmP Ψ 5 5/\tmP Ψ 5 6:=by
 unfold tmP;refine⟨?_,?_,?_,?_,?_,?_,?_⟩<;>kernel_rfl
theorem tm6 (Ψ:Str->Fn):tmP Ψ 6 0/\tmP Ψ 6 1/\tmP Ψ 6 2/\tmP Ψ 6 3/\tmP Ψ 6 4/\tmP Ψ 6 5/\tmP Ψ 6 6:=by
 unfold tmP;refine⟨?_,?_,?_,?_,?_,?_,?_⟩<;>kernel_rfl
theorem zzx (Ψ:Str->Fn):zdy (zad [Zc,Zc] 4 (zp4 Ψ)):=λm k a b=>by
 match m,k,a,b with
 |0,0,_,_=>exact (tm0 Ψ).1
 |0,1,_,_=>exact (tm0 Ψ).2.1
 |0,2,_,_=>exact (tm0 Ψ).2.2.1
 |0,3,_,_=>exact (tm0 Ψ).2.2.2.1
 |0,4,_,_=>exact (tm0 Ψ).2.2.2.2.1
 |0,5,_,_=>exact (tm0 Ψ).2.2.2.2.2.1
 |0,6,_,_=>exact (tm0 Ψ).2.2.2.2.2.2
 |1,0,_,_=>exact (tm1 Ψ).1
 |1,1,_,_=>exact (tm1 Ψ).2.1
 |1,2,_,_=>exact (tm1 Ψ).2.2.1
 |1,3,_,_=>exact (tm1 Ψ).2.2.2.1
 |1,4,_,_=>exact (tm1 Ψ).2.2.2.2.1
 |1,5,_,_=>exact (tm1 Ψ).2.2.2.2.2.1
 |1,6,_,_=>exact (tm1 Ψ).2.2.2.2.2.2
 |2,0,_,_=>exact (tm2 Ψ).1
 |2,1,_,_=>exact (tm2 Ψ).2.1
 |2,2,_,_=>exact (tm2 Ψ).2.2.1
 |2,3,_,_=>exact (tm2 Ψ).2.2.2.1
 |2,4,_,_=>exact (tm2 Ψ).2.2.2.2.1
 |2,5,_,_=>exact (tm2 Ψ).2.2.2.2.2.1
 |2,6,_,_=>exact (tm2 Ψ).2.2.2.2.2.2
 |3,0,_,_=>exact (tm3 Ψ).1
 |3,1,_,_=>exact (tm3 Ψ).2.1
 |3,2,_,_=>exact (tm3 Ψ).2.2.1
 |3,3,_,_=>exact (tm3 Ψ).2.2.2.1
 |3,4,_,_=>exact (tm3 Ψ).2.2.2.2.1
 |3,5,_,_=>exact (tm3 Ψ).2.2.2.2.2.1
 |3,6,_,_=>exact (tm3 Ψ).2.2.2.2.2.2
 |4,0,_,_=>exact (tm4 Ψ).1
 |4,1,_,_=>exact (tm4 Ψ).2.1
 |4,2,_,_=>exact (tm4 Ψ).2.2.1
 |4,3,_,_=>exact (tm4 Ψ).2.2.2.1
 |4,4,_,_=>exact (tm4 Ψ).2.2.2.2.1
 |4,5,_,_=>exact (tm4 Ψ).2.2.2.2.2.1
 |4,6,_,_=>exact (tm4 Ψ).2.2.2.2.2.2
 |5,0,_,_=>exact (tm5 Ψ).1
 |5,1,_,_=>exact (tm5 Ψ).2.1
 |5,2,_,_=>exact (tm5 Ψ).2.2.1
 |5,3,_,_=>exact (tm5 Ψ).2.2.2.1
 |5,4,_,_=>exact (tm5 Ψ).2.2.2.2.1
 |5,5,_,_=>exact (tm5 Ψ).2.2.2.2.2.1
 |5,6,_,_=>exact (tm5 Ψ).2.2.2.2.2.2
 |6,0,_,_=>exact (tm6 Ψ).1
 |6,1,_,_=>exact (tm6 Ψ).2.1
 |6,2,_,_=>exact (tm6 Ψ).2.2.1
 |6,3,_,_=>exact (tm6 Ψ).2.2.2.1
 |6,4,_,_=>exact (tm6 Ψ).2.2.2.2.1
 |6,5,_,_=>exact (tm6 Ψ).2.2.2.2.2.1
 |6,6,_,_=>exact (tm6 Ψ).2.2.2.2.2.2
 |m+7,_,h,_=>omega
 |_,k+7,_,h=>omega
theorem zkk {α:Type}{cap:Cap}{it:GL}{tc:GT}{te:GE}{en e0:En}{ts:List α}{xs:En} (f:α->W) (p:α->Bool) (g:α->W) (o:it en=Za (e0,ts.map f)) (D:ts.length<=1000) (B:zb0 cap=Zd) (r:(capKeep cap).contains 1=Zc) (x:zej cap e0=Zb::Zb::xs) (C:∀d e,zau cap e0 (d::e::xs)=e0)
  (z:∀d a,a∈ts->∃u,tc (d::#v[f a,6]::xs)=Za (d::u::xs,p a)/\(p a=Zd->∃l b,te (d::u::xs)=Za (d::l::xs,(g a,b)))) :
  za7 cap (.nm 1) it tc te en=Za (e0,(.lst ((ts.filter p).map g),Zd)):=by
 have E:(1000:Nat)<=sizeLine:=by decide
 obtain ⟨y,out,m,k⟩:=zc1 (cap:=cap) (T:=.nm 1) (tc:=tc) (te:=te) (λi c n=>(∃d e,c=d::e::xs)/\n=((ts.take i).filter p).map g) o B (by rw [Ad];omega) ⟨⟨_,_,x⟩,rfl⟩
  (λi w c n h k=>by
   obtain⟨⟨d,e,rfl⟩,rfl⟩:=k;rw[Aj] at h;cases ha:ts[i]? with
   |none=>rw[ha] at h;exact noSome h
   | some a =>
    rw[ha] at h;obtain rfl:=sI h;obtain⟨u,j,A⟩:=z d a (Bh ha);have t:ts.take (i+1)=ts.take i++[a]:=by rw[Ce,ha];rfl
    refine⟨d::#v[f a,6]::xs,?_,?_⟩
    ·show (if (capKeep cap).contains 1 || !decide (1<(d::e::xs).length) then Zb else _)=_
     rw[r,Ah (by rw[Ay,Ay];omega)]
     rfl
    ·cases q:p a with
     | true =>
      obtain⟨l,b,s⟩:=A q;rw[q] at j;refine .inl ⟨_,_,_,j,s,⟨_,_,rfl⟩,?_⟩;rw[t,Cf,Bo,Be q];rfl
     | false =>
      rw[q] at j;refine .inr ⟨_,j,⟨_,_,rfl⟩,?_⟩;rw[t,Cf,Bf (by rw[q];decide),Fc,By])
 obtain⟨⟨d,e,rfl⟩,rfl⟩:=k;rw[C,Ad,Bs] at m;exact m
theorem zin {a:GA}{en e1:En}{n:Nat}(h:a en=Za (e1,.inl (.int (n:Nat))))(c:n<=1000000):zbt (gCns a gA0) en=Za (e1,rngW 0 n):=by
 have r:zdk (n:Int)=Zd:=by
  unfold zdk;rw[Ah #v[],Ah #v[]];rfl
 have b:gCns a gA0 en=Za (e1,[.inl (.int (n:Nat))]):=by unfold gCns;rw[h];rfl
 have:=z7c b rfl r;rw[Dj] at this;exact this
theorem pow1 {l:Nat}(h:l<=100):cPow 1 (l:Int)=Zd:=by
 unfold cPow;rw[Ah #v[],Ah #v[]];rfl
theorem za0 (l:Nat):(1:Int)*2^l=((2^l:Nat):Int):=by rw[Int.one_mul];norm_cast
theorem z07 (l:Nat):(((2^l:Nat):Int)).natAbs.log2=l:=by
 rw[Int.natAbs_natCast];exact Nat.log2_two_pow
theorem divP {p:Int}{l:Nat}(h:l<=100):cDiv p ((2^l:Nat):Int)=Zd:=by
 unfold cDiv;have:0<2^l:=Nat.pow_pos #v[0,9];rw[Ah #v[],Ah (by rw[z07];omega)];rfl
theorem rngN {n:Nat}(h:n<=1000000):zdk (n:Int)=Zd:=by
 unfold zdk;rw[Ah #v[],Ah #v[]];rfl
noncomputable def hasT (t:List Nat) (p:Nat):Bool:=t.all λl=>decide (p/2^l%2=1)
noncomputable def valF (ts:List (List Nat)) (p:Nat):Int:=(((ts.filter λt=>hasT t p).length%2:Nat):Int)
theorem c1v {Ψ:Str->Fn}{v0:Option (W×Bool)}{t:List Nat}{p:Nat} (f:∀l∈t,l<64) (j:t.length<=64):zfk Ψ #v[8,19]=Za (#v[8,19],(.lst ((t.map λl=>decide (p/2^l%2=1)).map W.bl),Zd)):=by
 unfold zfk;refine ycb (xs:=[#v[(p:Nat),0]]) (e0:=[v0,#v[tmW t,6],#v[(p:Nat),0]]) (ws:=t.map λl=>.int (l:Nat)) (by unfold tmW;simp! []) (by rw[Ad];omega) (by rw[Ad,Ad,Ad]) rfl rfl rfl (λ_ _=>rfl) λi v0 w r a b=>?_;rw[Aj] at a;rw[Aj,Aj] at b;cases ha:t[i]? with
 |none=>rw[ha] at a;exact noSome a
 | some l =>
  rw [ha] at a b;obtain rfl:=sI a;obtain rfl:=sI b;have g:=f l (Bh ha);have d:=pow1 (l:=l) (by omega);have c:=divP (p:=(p:Int)) (l:=l) (by omega);have e:((p:Int)/((2^l:Nat):Int)%2=1)=(p/2^l%2=1):=by
   rw[<-Int.natCast_ediv];apply propext;constructor<;>intro h<;>omega
  refine⟨#v[(l:Nat),0],Zc,?_⟩;simp! [d,za0,c,e]
theorem zdl {m:Nat}(h:m<=6):2^m<=64:=Dd #v[0,9] h
theorem i3v {m:Nat}{b c d e:Option (W×Bool)}(h:m<=6):zbt (gCns #v[1,15] gA0) [#v[(m:Nat),0],b,c,d,e]=Za ([#v[(m:Nat),0],b,c,d,e],rngW 0 (2^m)):=by
 have p:=zdl h;have a:=pow1 (l:=m) #v[];refine zin ?_ #v[];simp! [a,za0]
theorem z8h {xs ys:List W}{i:Nat}{w:W}(h:(zipW xs ys)[i]?=Za w):∃x y,xs[i]?=Za x/\ys[i]?=Za y/\w=.tup [x,y]:=by
 have l:=(Af.mp h).1;rw[zev] at l;have b:xs[i]?=Za xs[i]:=Ae #v[];have a:ys[i]?=Za ys[i]:=Ae #v[];rw[zjy b a] at h;obtain rfl:=sI h;exact⟨_,_,b,a,rfl⟩
noncomputable def z3m (Φ:Fn):Prop:=∀(k:Nat) (a:W) (m most:Nat),HS k a->k+100<big->m<=6->most<=6->∃(s:W) (t:List (List Nat)),Φ [a,.int (m:Nat),.int (most:Nat)]=Za ([s,.int (m:Nat),.int (most:Nat)],(.tup (t.map tmW),Zc))/\HS (k+66) s/\t.Sublist (zab m most)
theorem zu4:∀m most:Fin 7,(zab m.val most.val).length<=64/\∀t∈zab m.val most.val,t.length<=6/\∀l∈t,l<m.val:=by decide +kernel
theorem zl2 {m most:Nat}(a:m<=6)(h:most<=6):(zab m most).length<=64/\∀t∈zab m most,t.length<=6/\∀l∈t,l<m:=zu4 ⟨m,by omega⟩ ⟨most,by omega⟩
theorem z69 {Ψ:Str->Fn} (hT:zdy (Ψ "_law_terms")) (u:z3n (Ψ "_law_bits")):z3m (zad [Zd,Zc,Zc] 4 (zvx Ψ)):=λk st m most I A l s=>by
 have O:(1000:Nat)<=sizeLine:=by decide
 obtain⟨N,_⟩:=zl2 l s;have E:=hT m most l s;nofun;obtain⟨st',f,z,G,M,K⟩:=u k st ((zab m most).length:Nat) I A #v[] #v[];ac_rfl;have L:f.length=(zab m most).length:=by omega
 have H:∃a:List (List Nat),zkj Ψ #v[8,13]=Za (#v[5,13],(.lst (a.map tmW),Zd))/\a.Sublist (zab m most):=by
  unfold zkj;obtain ⟨D,out,C,g⟩:=zc1 (cap:=[Zb,Zb,Zb]) (T:=.tp [1,2]) (tc:=zaj (gOp2 oEq (zaa 2) (gArg (gC (.int 1))))) (te:=gVar 1) (it:=gZip (gVar 3) (gCall [Zd,Zc] (Ψ "_law_bits") (gCns (zaa 0) #v[9,10]))) (en:=#v[8,13]) (e0:=#v[5,13]) (ws:=zipW ((zab m most).map tmW) (f.map W.int)) (λi c q=>(∃v0 j e,c=[v0,j,e])/\∃a:List (List Nat),q=a.map tmW/\a.Sublist ((zab m most).take i))
   (by simp! [Ad,z]) rfl (by rw [zev,Ad,Ad];omega) ⟨⟨_,_,_,rfl⟩,[],rfl,List.nil_sublist _⟩ λi w c q B g=>by
    nofun;obtain⟨⟨v0,j,e,rfl⟩,a,rfl,h⟩:=g;obtain⟨x,y,b,d,rfl⟩:=z8h B;ac_rfl;rw[Aj] at b d;cases ha:(zab m most)[i]? with
    |none=>rw[ha] at b;exact noSome b
    | some t =>
     cases hb:f[i]? with
     |none=>rw[hb] at d;exact noSome d
     | some n =>
      rw[ha] at b;rw[hb] at d;obtain rfl:=sI b;obtain rfl:=sI d;have o:(zab m most).take (i+1)=(zab m most).take i++[t]:=by rw[Ce,ha];rfl
      refine⟨#v[0,22],rfl,?_⟩;have p:zaj (gOp2 oEq (zaa 2) #v[1]) #v[0,22]=Za (#v[0,22],decide (n=1)):=by simp! []
      by_cases r:n=1
      ·refine .inl ⟨#v[3,16], #v[3,16],(tmW t,Zc), ?_,rfl,⟨_,_,_,rfl⟩,a ++ [t], ?_, ?_⟩
       ·rw[p,Ah r]
       ·rw[Bo];rfl
       ·rw[o];exact h.append (.refl _)
      ·refine .inr ⟨#v[3,16], ?_,⟨_,_,_,rfl⟩,a,rfl, ?_⟩
       ·rw[p,Ao r]
       ·rw[o];exact h.trans (List.sublist_append_left _ _)
  nofun;obtain⟨⟨v0,j,e,rfl⟩,a,rfl,h⟩:=g;ac_rfl;exact⟨a,C,h.trans (Ej _ _)⟩
 obtain⟨a,J,sub⟩:=H;refine⟨st',a,?_,G,sub⟩;have F:oTuple [.lst (a.map tmW)]=#v[(a.map tmW),3]:=rfl;unfold zvx;simp! [E,J,F]
theorem zku {α:Type}(f:α->PyData):∀l:List α,PyData.shownAll (l.map f)=l.map λx=>(f x).shown
 |[]=>rfl
 |x::l=>by rw[Ax,PyData.shownAll,zku f l];rfl
theorem zik {α:Type}{c:Nat} (f:α->PyData):∀l:List α,(∀x∈l,(f x).depth<=c)->PyData.depthAll (l.map f)<=c
 |[],_=>Ch _
 | x::l,h=>by
  rw[Ax,PyData.depthAll];have:=h x (Av ..);have:=zik f l λy a=>h y (An _ a);omega
theorem zh6 {α:Type}(f:α->PyData):∀l:List α,(∀x∈l,(f x).canLay0=Zd)->PyData.canLayAll0 (l.map f)=Zd
 |[],_=>rfl
 |x::l,h=>by rw[Ax,PyData.canLayAll0,h x (Av ..),zh6 f l λy a=>h y (An _ a)];rfl
theorem zva {α:Type}(f:α->W)(g:α->PyData)(h:∀x,dW (f x)=Za (g x)):∀l:List α,dWs (l.map f)=Za (l.map g)
 |[]=>rfl
 |x::l=>by rw[Ax,dWs,h x,zva f g h l];rfl
theorem mul2 {b:Int}:oMult (.int 2) (.int b)=#v[(2*b),0]:=by
 have c:cMul 2 b=Zd:=by unfold cMul;rw[Cd];exact .inl #v[0,9]
 show oOr #v[5,20] _ (.int 2) (.int b)=_;have e:oI cMul (λi j=>.int (i*j)) (.int 2) (.int b)=#v[(2*b),0]:=by rw[oI_e,if_pos c]
 unfold oOr;rw[e]
noncomputable def rowW (m:Nat) (f:Nat->Int):List W:=(tab (2^m) f).map W.int
noncomputable def zfg (Ψ:Str->Fn):GE:=za7 [Zb,Zb] (.nm 1) (zap (gVar 1)) gYes (gCall [Zc] (Ψ "word_at") #v[0,19])
noncomputable def zid (Ψ:Str->Fn):GS:=(gSeq (gSet [] 2 (gCall [Zc] (Ψ "word_at") (gCns (gArg (zfg Ψ)) gA0))) (gRet (gOp2 oIx (gArg (gCall [Zc,Zc] (Ψ "steps") (gCns #v[0,4] #v[8,14]))) (zaa 0))))
noncomputable def zux (Ψ:Str->Fn):GE:=ztz [Zb,Zb,Zb,Za 0] (.nm 1) (zap (gVar 1)) gYes (.nm 2) (ztk (gCns (gArg (gOp2 oAdd (gArg (zzr (zaa 1) (gOp1 oNeg #v[1]))) #v[1])) #v[2,20])) gYes #v[9,21]
noncomputable def zk7 (Ψ:Str->Fn):GS:=(gRet (zux Ψ))
noncomputable def zx3 (Ψ:Str->Fn):GS:=(gSeq (gSet [] 3 (gCall [Zc,Zc] (Ψ "longer_terms") (gCns #v[1,4] (gCns #v[3,4] gA0)))) (zs1 [] 4 (gVar 3)))
noncomputable def zt4 (Ψ:Str->Fn):GS:=gFor [] (.nm 5) (zbt #v[3,20]) (zx3 Ψ)
noncomputable def zff (Ψ:Str->Fn):GS:=(gSeq (gAsg [] (.tp [1,2]) (gVar 0)) (gSeq (gSet [] 3 (zaq #v[7,20])) (gSeq (gSet [] 4 (zaq #v[7,20])) (gSeq (zt4 Ψ) (gRet (gOpN oTuple (gCns (zaa 4) gA0)))))))
theorem zdm {a b:GS}{en e1:En}{r:Option (En×Fl)}(c:a en=Za (e1,.nx))(h:b e1=r):gSeq a b en=r:=(seq_nx c).trans h
noncomputable def bitF (p i:Nat):Int:=((p/2^i%2:Nat):Int)
noncomputable def letL (p:Nat):List Nat:=dueL (bitF p) 6
noncomputable def zao (t:List Nat):Nat:=(t.map λl=>2^l).sum
theorem zd3:∀p:Fin 64,zao (letL p.val)=p.val:=by decide +kernel
theorem z62:∀q p:Fin 64,hasT (letL q.val) p.val=(q.val &&& p.val==q.val):=by decide +kernel
theorem zii:∀m:Fin 7,((List.range (2^m.val)).map letL).isPerm (zab m.val m.val)=Zd:=by decide +kernel
noncomputable def duT (m:Nat) (f:Nat->Int):List (List Nat):=(zab m m).filter λt=>decide (zjf f (zao t)=1)
noncomputable def plL (m:Nat) (f:Nat->Int):List Nat:=(List.range (2^m)).filter λq=>decide (zjf f q=1)
theorem yc6 {m:Nat}(f:Nat->Int)(a:m<=6):((plL m f).map letL).Perm (duT m f):=by
 have b:=zdl a;have p:=(List.isPerm_iff.mp (zii ⟨m,by omega⟩)).filter λt=>decide (zjf f (zao t)=1);rw[List.filter_map] at p;have e:(List.range (2^m)).filter ((λt=>decide (zjf f (zao t)=1)) ∘ letL)=plL m f:=Cu λq h=>by
  show decide (zjf f (zao (letL q))=1)=_;have:=Bk.mp h;rw[zd3 ⟨q,by omega⟩]
 rw[e] at p;exact p
theorem zl7 {m:Nat}{t:List Nat}(b:m<=6)(h:t∈zab m m):∃q,q<2^m/\t=letL q:=by
 have:=(List.isPerm_iff.mp (zii ⟨m,by omega⟩)).mem_iff.mpr h;obtain⟨q,a,rfl⟩:=Dr.mp this;exact⟨q,Bk.mp a,rfl⟩
theorem z7i {m:Nat}{t:List Nat}(a:m<=6)(h:t∈zab m m):zao t<2^m:=by
 have p:=zdl a;obtain⟨q,b,rfl⟩:=zl7 a h;rw[zd3 ⟨q,by omega⟩];exact b
noncomputable def zuz (Φ:Fn):Prop:=∀(n:Nat) (M:List Nat),n<=64->(∀p∈M,p<n)->Φ [.lst (zac M)]=Za ([.lst (zac M)],(.int (wordOf (tab n λi=>if i∈M then 1 else 0)),Zc))
theorem zok (Ψ:Str->Fn):zuz (zad [Zc] 3 (zm0 Ψ)):=λn M A hM=>by
 have z:(wordOf (tab n λi=>if i∈M.take 0 then 1 else 0))=0:=by
  have:(tab n λi=>if i∈M.take 0 then (1:Int) else 0)=List.replicate n 0:=by
   rw[<-zdz];exact tab_ext λi _=>if_neg (by rw[Dz];exact Cb)
  rw[this,zcr]
 obtain⟨s,d,h⟩:=zaz (mp:=[]) (T:=(.nm 2)) (it:=(zap (gVar 0))) (body:=#v[6,10])
  (λj e=>∃b,e=[#v[(zac M),1],#v[(wordOf (tab n λi=>if i∈M.take j then 1 else 0)),0],b]) (en:=#v[1,20]) (e0:=#v[1,20]) (ws:=zac M) rfl ⟨Zb,by rw[z]⟩
  (by
   rintro j w e l ⟨b,rfl⟩;obtain⟨p,h,rfl⟩:=zl8 l;have g:p<n:=hM p (Bh h);have o:=zur (n:=n) (p:=p) (f:=λi=>if i∈M.take j then 1 else 0) (λi=>by show Bit (if _ then _ else _);split<;>first|exact .inr rfl|exact .inl rfl) g;have k:(tab n λi=>if i=p then (1:Int) else if i∈M.take j then 1 else 0)=tab n λi=>if i∈M.take (j+1) then 1 else 0:=tab_ext λi _=>by
    have m:i∈M.take (j+1)↔(i∈M.take j\/i=p):=by
     rw[Ce,h,Cc];show _\/i∈[p]↔_;rw[Az]
    by_cases c:i=p
    ·rw[if_pos c,if_pos (m.mpr (.inr c))]
    ·rw[if_neg c];by_cases a:i∈M.take j
     ·rw[if_pos a,if_pos (m.mpr (.inl a))]
     ·rw[if_neg a,if_neg (λq=>(m.mp q).elim a c)]
   rw[k] at o;have t:(1*2^((p:Nat):Int).toNat:Int)=1*2^p:=rfl;refine⟨[#v[(zac M),1],#v[(wordOf (tab n λi=>if i∈M.take j then 1 else 0)),0],#v[(p:Nat),0]],[#v[(zac M),1],#v[(wordOf (tab n λi=>if i∈M.take (j+1) then 1 else 0)),0],#v[(p:Nat),0]],rfl,.inl (z29 (w:=.int (wordOf (tab n λi=>if i∈M.take j then 1 else 0))) (u:=.int (1*2^p)) rfl (arg_0 (r:=(.int (1*2^p),Zc)) (op2_0 (x:=.inl (.int 1)) (y:=.inl (.int (p:Nat))) rfl rfl rfl rfl (oI_t (zkw #v[] #v[] #v[0,9])))) rfl ?_ rfl),_,rfl⟩;show Za (W.int (Builtin.bitOr (wordOf (tab n λi=>if i∈M.take j then 1 else 0)) (1*2^p)),Zc)=_;rw[o])
 obtain⟨b,rfl⟩:=h;rw[zat,Bs] at d;exact za3 rfl ((seq_nx (e1:=#v[1,20]) rfl).trans ((seq_nx d).trans rfl)) rfl
noncomputable def indF (M:List Nat) (i:Nat):Int:=if i∈M then 1 else 0
theorem ztu (M:List Nat)(i:Nat):Bit (indF M i):=by unfold indF;split<;>first|exact .inr rfl|exact .inl rfl
theorem zt6 {M:List Nat}{x:Nat} (d:x ∉ M):∀{S:List Nat},S.Nodup->(S.map (indF (x::M))).sum=(S.map (indF M)).sum+(if x∈S then 1 else 0)
 |[],_=>rfl
 | q::S,h=>by
  have i:=zt6 d (Bq.mp h).2;rw[Ax,Cv,Ax,Cv,i];by_cases e:q=x
  ·subst e
   have n:q ∉ S:=(Bq.mp h).1;have a:indF (q::M) q=1:=by unfold indF;rw[if_pos Av]
   have b:indF M q=0:=by unfold indF;rw[if_neg d]
   rw[a,b,if_neg n,if_pos Av];omega
  ·have a:indF (x::M) q=indF M q:=by
    unfold indF;by_cases c:q∈M
    ·rw[if_pos c,if_pos (An _ c)]
    ·rw[if_neg c,if_neg λz=>(Ap.mp z).elim e c]
   rw[a];by_cases c:x∈S
   ·rw[if_pos c,if_pos (An _ c)];omega
   ·rw[if_neg c,if_neg λz=>(Ap.mp z).elim (λz=>e z.symm) c];omega
theorem zq7 {S:List Nat} (hS:S.Nodup):∀{b:List (List Nat)},(b.map zao).Nodup->(S.map (indF (b.map zao))).sum=((b.filter λt=>decide (zao t∈S)).length:Nat)
 | [],_=>by
  have:∀L:List Nat,(L.map (indF [])).sum=0:=λL=>by
   induction L with
   |nil=>rfl
   |cons a l i=>rw[Ax,Cv,i];rfl
  exact this S
 | t::b,h=>by
  rw[Ax] at h;have d:=Bq.mp h;rw[Ax,zt6 d.1 hS,zq7 hS d.2,Dy];by_cases c:zao t∈S
  ·rw[if_pos c,if_pos (Ah c),Ay];omega
  ·rw[if_neg c,if_neg (by rw[Ao c];exact At)];omega
theorem zr5 (p:Nat):(zo1 p).Nodup:=List.nodup_range.filter _
theorem z1h {m p:Nat}{t:List Nat}(a:m<=6)(b:t∈zab m m)(d:p<64):hasT t p=decide (zao t∈zo1 p):=by
 have f:=zdl a;obtain⟨q,e,rfl⟩:=zl7 a b;rw[z62 ⟨q,by omega⟩ ⟨p,d⟩,zd3 ⟨q,by omega⟩];show (q &&& p==q)=decide (q∈zo1 p);unfold zo1;by_cases c:q &&& p=q
 ·have:q ≤ p:=by have:=Nat.and_le_right (n:=q) (m:=p);omega
  have h:q∈(List.range (p+1)).filter λo=>o &&& p==o:=Bl.mpr ⟨Bk.mpr #v[],beq_iff_eq.mpr c⟩;rw[beq_iff_eq.mpr c,Ah h]
 ·have h : ¬ q∈(List.range (p+1)).filter λo=>o &&& p==o:=λz=>c (beq_iff_eq.mp (Bl.mp z).2);rw[Fu.mpr c,Ao h]
theorem zzo {m:Nat}{t u:List Nat}(h:m<=6)(a:t∈zab m m)(b:u∈zab m m)(e:zao t=zao u):t=u:=by
 have p:=zdl h;obtain⟨q,c,rfl⟩:=zl7 h a;obtain⟨r,d,rfl⟩:=zl7 h b;rw[zd3 ⟨q,by omega⟩,zd3 ⟨r,by omega⟩] at e;have e:q=r:=e;rw[e]
noncomputable def zkn (m:Nat) (ts:List (List Nat)):Prop:=ts.Nodup/\∀t∈ts,t∈zab m m
theorem zh7 {m:Nat} (c:m<=6):∀{b:List (List Nat)},zkn m b->(b.map zao).Nodup
 |[],_=>Hg
 | t::b,h=>by
  have n:=Bq.mp h.1;rw[Ax];refine Bq.mpr ⟨λz=>?_,zh7 c ⟨n.2,λu a=>h.2 u (An _ a)⟩⟩;obtain⟨u,a,e⟩:=Dr.mp z;have:=zzo c (h.2 u (An _ a)) (h.2 t Av) e;subst this;exact n.1 a
theorem zzi {m p:Nat}{ts:List (List Nat)}(a:m<=6)(h:zkn m ts)(c:p<64):zjf (indF (ts.map zao)) p=valF ts p:=by
 unfold zjf valF;rw[zq7 (zr5 p) (zh7 a h)];have e:(ts.filter λt=>decide (zao t∈zo1 p))=ts.filter λt=>hasT t p:=Cu λt b=>(z1h a (h.2 t b) c).symm;rw[e];omega
theorem zz4:∀q:Fin 64,wordOf (tab 6 λi=>if i∈letL q.val then 1 else 0)=(q.val:Int):=by decide +kernel
theorem zv4:∀q:Fin 64,∀l∈letL q.val,l<6:=by decide +kernel
theorem z7x {Φ:Fn}(b:zfb Φ){m:Nat}{t:List Nat}(h:m<=6)(a:t∈zab m m):Φ [tmW t]=Za ([tmW t],(.int (zao t:Nat),Zc)):=by
 have p:=zdl h;obtain⟨q,c,rfl⟩:=zl7 h a;have e:=b 6 (letL q) #v[0,9] (zv4 ⟨q,by omega⟩);rw[zz4 ⟨q,by omega⟩] at e;rw[zd3 ⟨q,by omega⟩];exact e
noncomputable def zf1 (Φ:Fn):Prop:=∀(m:Nat) (t:List (List Nat)),m<=6->t.length<=64->zkn m t->Φ [.int (m:Nat),.tup (t.map tmW)]=Za ([.int (m:Nat),.tup (t.map tmW)],(.int (wordOf (tab (2^m) (valF t))),Zc))
theorem zrz {Ψ:Str->Fn} (g:zfb (Ψ "word_at")) (l:zuz (Ψ "word_at")) (hS:zus (Ψ "steps")):zf1 (zad [Zc,Zc] 3 (zid Ψ)):=λm ts a y h=>by
 have o:=zdl a;have n:zfg Ψ #v[5,18]=Za (#v[5,18],(.lst (zac (ts.map zao)),Zd)):=by
  unfold zfg;refine yby (ws:=ts.map tmW) (by simp! []) (by rw[Ad];omega) (by rw[zat,Ad,Ad]) λi x w r b d=>?_;rw[Aj] at b;cases ha:ts[i]? with
  |none=>rw[ha] at b;exact noSome b
  | some t =>
   rw [ha] at b;obtain rfl:=sI b;have q:r=.int (zao t:Nat):=by
    unfold zac at d;rw[Aj,Aj,ha] at d;exact (sI d).symm
   subst q;have e:=z7x g a (h.2 t (Bh ha));exact⟨#v[tmW t,6],Zc,by simp! [e]⟩
 have k:=l (2^m) (ts.map zao) o λp c=>by
  obtain⟨t,f,rfl⟩:=Dr.mp c;exact z7i a (h.2 t f)
 have s:=hS (m:Int) (indF (ts.map zao)) (by omega) (by omega) (ztu _);have u:rowF (m:Int) (indF (ts.map zao)) 0=wordOf (tab (2^m) λi=>if i∈ts.map zao then 1 else 0):=rfl;rw [u] at s;have j:atI ((tab (m+1) (rowF (m:Int) (indF (ts.map zao)))).map W.int) (m:Int)=Za (.int (wordOf (tab (2^m) (valF ts)))):=by
  have e:rowF (m:Int) (indF (ts.map zao)) m=wordOf (tab (2^m) (valF ts)):=by
   unfold rowF;rw[Dj,tab_ext λp c=>(z7t (ztu _) a c).trans (zzi a h #v[])]
  rw[<-e];exact zbz (zqw (Fs m))
 unfold zid;refine za3 (en:=[#v[(m:Nat),0],#v[(ts.map tmW),3],#v[(wordOf (tab (2^m) λi=>if i∈ts.map zao then 1 else 0)),0]]) rfl (zdm (e1:=[#v[(m:Nat),0],#v[(ts.map tmW),3],#v[(wordOf (tab (2^m) λi=>if i∈ts.map zao then 1 else 0)),0]]) ?_ ?_) rfl
 ·simp! [n,k]
 ·simp! [s,j]
noncomputable def kdW (m t:Nat):W:=.tup [.int (m:Nat),.int (t:Nat)]
noncomputable def tsP (Ψ:Str->Fn) (m t:Nat):Prop:=zad [Zc] 6 (zff λ_=>zad [Zc,Zc] 2 (zk7 Ψ)) [kdW m t]=Za ([kdW m t],(.tup ((zab m t).map tmW),Zc))
theorem z9u (Ψ:Str->Fn):∀m t:Nat,1<=m->m<=6->t<=m->tsP Ψ m t
 |1,0,_,_,_=>by unfold tsP;kernel_rfl
 |1,1,_,_,_=>by unfold tsP;kernel_rfl
 |2,0,_,_,_=>by unfold tsP;kernel_rfl
 |2,1,_,_,_=>by unfold tsP;kernel_rfl
 |2,2,_,_,_=>by unfold tsP;kernel_rfl
 |3,0,_,_,_=>by unfold tsP;kernel_rfl
 |3,1,_,_,_=>by unfold tsP;kernel_rfl
 |3,2,_,_,_=>by unfold tsP;kernel_rfl
 |3,3,_,_,_=>by unfold tsP;kernel_rfl
 |4,0,_,_,_=>by unfold tsP;kernel_rfl
 |4,1,_,_,_=>by unfold tsP;kernel_rfl
 |4,2,_,_,_=>by unfold tsP;kernel_rfl
 |4,3,_,_,_=>by unfold tsP;kernel_rfl
 |4,4,_,_,_=>by unfold tsP;kernel_rfl
 |5,0,_,_,_=>by unfold tsP;kernel_rfl
 |5,1,_,_,_=>by unfold tsP;kernel_rfl
 |5,2,_,_,_=>by unfold tsP;kernel_rfl
 |5,3,_,_,_=>by unfold tsP;kernel_rfl
 |5,4,_,_,_=>by unfold tsP;kernel_rfl
 |5,5,_,_,_=>by unfold tsP;kernel_rfl
 |6,0,_,_,_=>by unfold tsP;kernel_rfl
 |6,1,_,_,_=>by unfold tsP;kernel_rfl
 |6,2,_,_,_=>by unfold tsP;kernel_rfl
 |6,3,_,_,_=>by unfold tsP;kernel_rfl
 |6,4,_,_,_=>by unfold tsP;kernel_rfl
 |6,5,_,_,_=>by unfold tsP;kernel_rfl
 |6,6,_,_,_=>by unfold tsP;kernel_rfl
 |0,_,h,_,_=>by omega
 |m+7,_,_,h,_=>by omega
 |1,t+2,_,_,h=>by omega
 |2,t+3,_,_,h=>by omega
 |3,t+4,_,_,h=>by omega
 |4,t+5,_,_,h=>by omega
 |5,t+6,_,_,h=>by omega
 |6,t+7,_,_,h=>by omega
noncomputable def zvi (Φ:Fn):Prop:=∀m t:Nat,1<=m->m<=6->t<=m->Φ [kdW m t]=Za ([kdW m t],(.tup ((zab m t).map tmW),Zc))
theorem zyi {Ψ Ψ':Str->Fn}(h:Ψ "longer_terms" = zad [Zc,Zc] 2 (zk7 Ψ')):zvi (zad [Zc] 6 (zff Ψ)):=λm t b c a=>by
 have e:zff Ψ=zff (λ_=>Ψ "longer_terms"):=rfl;rw[e,h];exact z9u Ψ' m t b c a
theorem z0t (m:Nat)(ts:List (List Nat)):Bits (tab (2^m) (valF ts)):=za2 λi _=>by unfold valF Bit;omega
theorem z1v (s:List Nat)(ts:List (List Nat))(p:Nat):valF (s::ts) p=(valF ts p+if hasT s p then 1 else 0)%2:=by
 unfold valF;rw[Dy];by_cases c:hasT s p=Zd
 ·rw[if_pos c,if_pos c,Ay];omega
 ·rw[if_neg c,if_neg c];omega
section
variable {en:En}{P Q:W->Prop}
end
set_option maxHeartbeats 2000000
section
variable {κ:Type} [DecidableEq κ] {f:κ->DKey}
end
noncomputable def tp (w:Nat):Nat:=w.log2
theorem za4 {a b:GS}{en e1:En}{r:Option (En×Fl)}(c:a en=Za (e1,.nx))(h:b e1=r):gSeq a b en=r:=(seq_nx c).trans h
noncomputable def bitN (w i:Nat):Int:=if w.testBit i then 1 else 0
theorem zf3 (w i:Nat):Bit (bitN w i):=by unfold bitN;split<;>first|exact .inr rfl|exact .inl rfl
theorem zwd (w i:Nat):decide (bitN w i=1)=w.testBit i:=by unfold bitN;cases w.testBit i<;>rfl
theorem zq9 (n:Nat)(f:Nat->Int):tab (n+1) f=f 0::tab n λi=>f (i+1):=by
 unfold tab;rw[List.range_succ_eq_map,Ax,Cr]
 rfl
theorem zbe:∀(n w:Nat),w<2^n->wordOf (tab n (bitN w))=(w:Int)
 | 0,w,h=>by
  have:w=0:=by have:2^0=1:=rfl;omega
  subst this;rfl
 | n+1,w,h=>by
  have p:2^(n+1)=2*2^n:=by rw[Nat.pow_succ];omega
  rw[zq9,zal,tab_ext (f:=λi=>bitN w (i+1)) (g:=bitN (w/2)) λi _=>by unfold bitN;rw[Nat.testBit_succ],zbe n (w/2) #v[]];unfold bitN;rw[Nat.testBit_zero];by_cases c:w%2=1
  ·rw[if_pos (Ah c)];omega
  ·rw[if_neg (by rw[Ao c];exact At)];omega
theorem zjj:∀a:List Int,Bits a->∃w,w<2^a.length/\a=tab a.length (bitN w)
 |[],_=>⟨0,by decide,rfl⟩
 | x::a,h=>by
  obtain⟨w,c,e⟩:=zjj a h.tail;have p:2^(x::a).length=2*2^a.length:=by rw[Ay,Nat.pow_succ];omega
  have go:∀b:Nat,b<2->tab (a.length+1) (bitN (2*w+b))=bitN (2*w+b) 0::a:=λb d=>by
   rw[zq9,tab_ext (f:=λi=>bitN (2*w+b) (i+1)) (g:=bitN w) λi _=>by unfold bitN;rw[Nat.testBit_succ,show (2*w+b)/2=w by omega],<-e]
  rcases h.head with rfl|rfl
  ·refine ⟨2*w+0,by omega, ?_⟩
   rw[Ay,go 0 #v[]];unfold bitN;rw[Nat.testBit_zero,if_neg (by rw[Ao #v[]];exact At)]
  ·refine ⟨2*w+1,by omega, ?_⟩
   rw[Ay,go 1 #v[]];unfold bitN;rw[Nat.testBit_zero,if_pos (Ah #v[])]
theorem zzl (a b i:Nat):dif (bitN a i) (bitN b i)=bitN (a ^^^ b) i:=by
 unfold bitN dif;rw[Eg];cases a.testBit i<;>cases b.testBit i<;>rfl
theorem z51 (a b:Nat):Builtin.bitXor (a:Int) (b:Int)=((a ^^^ b:Nat):Int):=by
 have c:a<2^(a+b):=He (Dx a b) Nat.lt_two_pow_self;have h:b<2^(a+b):=He (Nat.le_add_left b a) Nat.lt_two_pow_self;have x:=zg9 (xs:=tab (a+b) (bitN a)) (ys:=tab (a+b) (bitN b)) (za2 λi _=>zf3 a i) (za2 λi _=>zf3 b i) (by rw[zam,zam]);rw[zbe _ a c,zbe _ b h,ziq,tab_ext λi _=>zzl a b i,zbe _ _ (Nat.xor_lt_two_pow c h)] at x;exact x
theorem z6z {w n i:Nat}(h:w<2^n)(a:n<=i):bitN w i=0:=by
 unfold bitN;rw[Nat.testBit_lt_two_pow (Bd h (Dd #v[0,9] a)),if_neg At]
noncomputable def z7g (Φ:Fn):Prop:=∀w p:Nat,Φ [.int (w:Nat),.int (p:Nat)]=Za ([.int (w:Nat),.int (p:Nat)],(.int (bitN w p),Zc))
theorem z8n {Φ:Fn}(h:z2q Φ):z7g Φ:=λw p=>by
 have a:w<2^w:=Nat.lt_two_pow_self;have:=h w p (bitN w) (zf3 w) λi b=>z6z a b
 rwa [zbe w w a] at this
noncomputable def XorN (Φ:Fn):Prop:=∀a b:Nat,Φ [.int (a:Nat),.int (b:Nat)]=Za ([.int (a:Nat),.int (b:Nat)],(.int ((a ^^^ b:Nat):Int),Zc))
theorem z6p {Φ:Fn}(h:z0k Φ):XorN Φ:=λa b=>by rw[<-z51];exact h a b
end L2
namespace My
open PySem PySem.Spec PyProof.Rows L2
noncomputable def top (i:Nat):Stmt:=PySem.Challenge.pw_yesnowords_k48_words_mended.main.body.getD i (.Pass ⟨0,0,0,0⟩)
noncomputable def zeq:Fd:=⟨"all_yes",["many"],["many"],[Zc],top 5⟩
noncomputable def zqq:Fd:=⟨"says",["word","place"],["word","place"],[Zc,Zc],top 6⟩
noncomputable def zf5:Fd:=⟨"weight",["word"],["word","heavy"],[Zc],top 7⟩
noncomputable def ze6:Fd:=⟨"word_at",["some"],["some","word","place"],[Zc],top 8⟩
noncomputable def zpq:Fd:=⟨"plus",["one","other"],["one","other"],[Zc,Zc],top 9⟩
noncomputable def zjs:Fd:=⟨"times",["one","other"],["one","other"],[Zc,Zc],top 10⟩
noncomputable def zgb:Fd:=⟨"unlike",["one","other"],["one","other"],[Zc,Zc],top 11⟩
noncomputable def zdd:Fd:=⟨"letter_no",["many","letter"],["many","letter"],[Zc,Zc],top 13⟩
noncomputable def zew:Fd:=⟨"stepped",["many","word","letter"],["many","word","letter","lower"],[Zc,Zc,Zc],top 14⟩
noncomputable def zju:Fd:=⟨"steps",["many","word"],["many","word","rows","letter"],[Zc,Zc],top 15⟩
noncomputable def zfa:Fd:=⟨"word_of",["many","poly"],["many","poly","marks"],[Zc,Zc],top 17⟩
noncomputable def zbi:Fd:=⟨"longer_terms",["many","some"],["many","some"],[Zc,Zc],top 19⟩
noncomputable def zje:Fd:=⟨"terms",["kind"],["kind","many","most","row","told","size"],[Zc],top 20⟩
noncomputable def zi4:Fd:=⟨"least",["kind"],["kind","many","most"],[Zc],top 22⟩
noncomputable def zfd:Fd:=⟨"is_near",["kind","one","other"],["kind","one","other"],[Zc,Zc,Zc],top 23⟩
noncomputable def ziu:Fd:=⟨"votes",["many","heard","term"],["many","heard","term","sums","letter","letters"],[Zc,Zc,Zc],top 25⟩
noncomputable def zbw:Fd:=⟨"voted_terms",["kind"],["kind"],[Zc],top 26⟩
noncomputable def zbo:Fd:=⟨"chosen_above",["rows","size"],["rows","size"],[Zc,Zc],top 27⟩
noncomputable def zea:Fd:=⟨"vote_row",["many","heard","rows","term"],["many","heard","rows","term","left","cast"],[Zc,Zc,Zc,Zc],top 28⟩
noncomputable def zbc:Fd:=⟨"word_by_votes",["many","rows"],["many","rows"],[Zc,Zc],top 29⟩
noncomputable def zrh:Fd:=⟨"mend",["kind","heard"],["kind","heard","many","rows","term","row","word"],[Zc,Zc],top 30⟩
noncomputable def zdh:Fd:=⟨"_law_hand",["_law_script"],["_law_script","_law_state","_law_weighs","_law_cell","_law_k","_law_one"],[Zc],top 32⟩
noncomputable def zc5:Fd:=⟨"_law_take",["_law_state","_law_count"],["_law_state","_law_count","_law_digit","_law_mixed"],[Zd,Zc],top 33⟩
noncomputable def zdb:Fd:=⟨"_law_bits",["_law_state","_law_count"],["_law_state","_law_count","_law_way","_law_found","_law_k","_law_one"],[Zd,Zc],top 34⟩
noncomputable def zdg:Fd:=⟨"_law_word",["_law_bits_here"],["_law_bits_here","_law_found","_law_bit"],[Zc],top 35⟩
noncomputable def zce:Fd:=⟨"_law_terms",["_law_many","_law_most"],["_law_many","_law_most","_law_found","_law_letter"],[Zc,Zc],top 36⟩
noncomputable def zbx:Fd:=⟨"_law_values",["_law_many","_law_poly_here"],["_law_many","_law_poly_here","_law_found","_law_place","_law_says_yes"],[Zc,Zc],top 37⟩
noncomputable def zc6:Fd:=⟨"_law_poly",["_law_state","_law_many","_law_most"],["_law_state","_law_many","_law_most","_law_some"],[Zd,Zc,Zc],top 38⟩
noncomputable def zdf:Fd:=⟨"_law_same",["_law_found","_law_due"],["_law_found","_law_due"],[Zc,Zc],top 39⟩
noncomputable def zda:Fd:=⟨"_law_kind",["_law_state"],["_law_state","_law_many"],[Zd],top 40⟩
noncomputable def zch:Fd:=⟨"_law_along",["_law_letters"],["_law_letters","_law_found","_law_letter"],[Zc],top 41⟩
noncomputable def zci:Fd:=⟨"_law_votes",["_law_many","_law_bits_here","_law_term"],["_law_many","_law_bits_here","_law_term","_law_along_here","_law_others"],[Zc,Zc,Zc],top 42⟩
noncomputable def zb5:Fd:=⟨"_law_mended",["_law_many","_law_most","_law_bits_here"],["_law_many","_law_most","_law_bits_here","_law_left","_law_poly_here","_law_rows","_law_size","_law_chosen","_law_term","_law_told","_law_yes"],[Zc,Zc,Zc],top 43⟩
noncomputable def zbv:Fd:=⟨"_law_faulty",["_law_state","_law_bits_here","_law_count"],["_law_state","_law_bits_here","_law_count","_law_found","_law_places_left","_law_turn","_law_place"],[Zd,Zc,Zc],top 44⟩
noncomputable def zos:Fd:=⟨"law",["_law_script"],["_law_script","_law_state","_law_k","_law_many","_law_most","_law_count","_law_poly_here","_law_bits_here","_law_heard","_law_due","_law_again"],[Zc],top 45⟩
noncomputable def T:List Fd:=[zeq,zqq,zf5,ze6,zpq,zjs,zgb,zdd,zew,zju,zfa,zbi,zje,zi4,zfd,ziu,zbw,zbo,zea,zbc,zrh,zdh,zc5,zdb,zdg,zce,zbx,zc6,zdf,zda,zch,zci,zb5,zbv,zos]
noncomputable def bn:List Str:=["abs","all","b rows","bool","c cast","enumerate","int","isinstance","len","list","max","min","range","reversed","sorted","str","sum","tuple","zip"]
theorem sFq {d:Nat}{x:Str}{t:Fd}{g:(Str->Fn)->GS}(h:T.find? (·.nm==x)=Za t)(b:∀Ψ d,zai T bn Ψ (d+2) t=Za (g Ψ)):sem T bn (d+3) x=zad t.m t.N.length (g (sem T bn (d+2))):=zay h (b _ d)
theorem zw7 (d:Nat):sem T bn (d+3) "all_yes"=zad [Zc] 1 (zvv (sem T bn (d+2))):=sFq (t:=zeq) (by kernel_rfl) λ_ _=>by kernel_rfl
theorem z9e (d:Nat):sem T bn (d+3) "says"=zad [Zc,Zc] 2 (z95 (sem T bn (d+2))):=sFq (t:=zqq) (by kernel_rfl) λ_ _=>by kernel_rfl
theorem zyz (d:Nat):sem T bn (d+3) "weight"=zad [Zc] 2 (zzk (sem T bn (d+2))):=sFq (t:=zf5) (by kernel_rfl) λ_ _=>by kernel_rfl
theorem zk8 (d:Nat):sem T bn (d+3) "word_at"=zad [Zc] 3 (zm0 (sem T bn (d+2))):=sFq (t:=ze6) (by kernel_rfl) λ_ _=>by kernel_rfl
theorem z8u (d:Nat):sem T bn (d+3) "plus"=zad [Zc,Zc] 2 (ybl (sem T bn (d+2))):=sFq (t:=zpq) (by kernel_rfl) λ_ _=>by kernel_rfl
theorem z4t (d:Nat):sem T bn (d+3) "times"=zad [Zc,Zc] 2 (z78 (sem T bn (d+2))):=sFq (t:=zjs) (by kernel_rfl) λ_ _=>by kernel_rfl
noncomputable def zga (Ψ:Str->Fn):GS:=(gRet (gCall [Zc] (Ψ "weight") (gCns (gArg (gCall [Zc,Zc] (Ψ "plus") (gCns #v[0,4] #v[0,19]))) gA0)))
theorem z2c (d:Nat):sem T bn (d+3) "unlike"=zad [Zc,Zc] 2 (zga (sem T bn (d+2))):=sFq (t:=zgb) (by kernel_rfl) λ_ _=>by kernel_rfl
theorem znn (d:Nat):sem T bn (d+3) "letter_no"=zad [Zc,Zc] 2 (znx (sem T bn (d+2))):=sFq (t:=zdd) (by kernel_rfl) λ_ _=>by kernel_rfl
theorem zwq (d:Nat):sem T bn (d+3) "stepped"=zad [Zc,Zc,Zc] 4 (zup (sem T bn (d+2))):=sFq (t:=zew) (by kernel_rfl) λ_ _=>by kernel_rfl
theorem z5l (d:Nat):sem T bn (d+3) "steps"=zad [Zc,Zc] 4 (z4c (sem T bn (d+2))):=sFq (t:=zju) (by kernel_rfl) λ_ _=>by kernel_rfl
theorem ztd (d:Nat):sem T bn (d+3) "word_of"=zad [Zc,Zc] 3 (zid (sem T bn (d+2))):=sFq (t:=zfa) (by kernel_rfl) λ_ _=>by kernel_rfl
noncomputable def zec (Ψ:Str->Fn):GS:=(gRet (zux Ψ))
theorem zhq (d:Nat):sem T bn (d+3) "longer_terms"=zad [Zc,Zc] 2 (zec (sem T bn (d+2))):=sFq (t:=zbi) (by kernel_rfl) λ_ _=>by kernel_rfl
theorem z7m (d:Nat):sem T bn (d+3) "terms"=zad [Zc] 6 (zff (sem T bn (d+2))):=sFq (t:=zje) (by kernel_rfl) λ_ _=>by kernel_rfl
noncomputable def zj1 (Ψ:Str->Fn):GS:=(gSeq (gAsg [] (.tp [1,2]) (gVar 0)) (gRet (gOp2 #v[0,0,1] #v[1] (gArg (gOp2 #v[0,0,0] (zaa 1) (zaa 2))))))
theorem z6g (d:Nat):sem T bn (d+3) "least"=zad [Zc] 3 (zj1 (sem T bn (d+2))):=sFq (t:=zi4) (by kernel_rfl) λ_ _=>by kernel_rfl
noncomputable def zep (Ψ:Str->Fn):GS:=(gRet (gOp2 (oI yes2 λi j=>.bl (decide (i<j))) (gArg (gOp2 oMult #v[2] (gArg (gCall [Zc,Zc] (Ψ "unlike") #v[4,19])))) (gArg (gCall [Zc] (Ψ "least") #v[1,19]))))
theorem e_is_near (d:Nat):sem T bn (d+3) "is_near"=zad [Zc,Zc,Zc] 3 (zep (sem T bn (d+2))):=sFq (t:=zfd) (by kernel_rfl) λ_ _=>by kernel_rfl
noncomputable def zj4 (Ψ:Str->Fn):GS:=(gSet [] 3 (gCall [Zc,Zc] (Ψ "plus") (gCns #v[3,4] (gCns (gArg (gOp2 (oI (λ_ j=>decide (0<=j)) λi j=>.int (i / 2 ^ j.toNat)) (zaa 3) (gArg (gOp2 #v[0,0,1] #v[1] (zaa 4))))) gA0))))
noncomputable def ziy (Ψ:Str->Fn):GS:=gFor [] (.nm 4) (zap (gVar 2)) (zj4 Ψ)
noncomputable def zjg (Ψ:Str->Fn):GE:=za7 [Zb,Zb,Za 5,Za 3] (.nm 1) (zbt (gCns #v[1,15] gA0)) (zaj (gOp2 oEq (gArg (gCall [Zc,Zc] (Ψ "times") #v[4,19])) #v[0])) (gCall [Zc,Zc] (Ψ "says") (gCns #v[3,4] #v[0,19]))
noncomputable def zix (Ψ:Str->Fn):GS:=(gSeq (gSet [] 3 (gVar 1)) (gSeq (ziy Ψ) (gSeq (gSet [] 5 (gCall [Zc] (Ψ "word_at") #v[8,14])) (gRet (gOpN oTuple (gCns (gArg (zjg Ψ)) gA0))))))
theorem z6o (d:Nat):sem T bn (d+3) "votes"=zad [Zc,Zc,Zc] 6 (zix (sem T bn (d+2))):=sFq (t:=ziu) (by kernel_rfl) λ_ _=>by kernel_rfl
noncomputable def zb2 (Ψ:Str->Fn):GS:=(gRet (zg3 seqW zee (gOp1 oNeg #v[8,8]) #v[9,9]))
theorem e_voted_terms (d:Nat):sem T bn (d+3) "voted_terms"=zad [Zc] 1 (zb2 (sem T bn (d+2))):=sFq (t:=zbw) (by kernel_rfl) λ_ _=>by kernel_rfl
noncomputable def zca (Ψ:Str->Fn):GE:=za7 [Zb,Zb,Zb,Zb,Za 1] (.tp [1,2,3]) (zap (gVar 0)) (zg7 (zaj (gOp2 #v[6,9] (zaa 3) (zaa 2))) (zaj (gOp2 #v[6,9] #v[3,9] (zaa 4)))) (gVar 1)
noncomputable def zbj (Ψ:Str->Fn):GS:=(gRet (gOpN oTuple (gCns (gArg (zca Ψ)) gA0)))
theorem zhv (d:Nat):sem T bn (d+3) "chosen_above"=zad [Zc,Zc] 2 (zbj (sem T bn (d+2))):=sFq (t:=zbo) (by kernel_rfl) λ_ _=>by kernel_rfl
noncomputable def zd6 (Ψ:Str->Fn):GS:=(gSeq (gSet [] 4 (gCall [Zc,Zc] (Ψ "plus") (gCns #v[1,4] (gCns (gArg (gCall [Zc,Zc] (Ψ "word_of") (gCns #v[0,4] (gCns (gArg (gBor 2 (gCall [Zc,Zc] (Ψ "chosen_above") #v[8,22]))) gA0)))) gA0)))) (gSeq (gSet [] 5 (gCall [Zc,Zc,Zc] (Ψ "votes") (gCns #v[0,4] (gCns #v[4,4] (gCns #v[3,4] gA0))))) (gRet (zbr (gCns #v[3,4] (gCns (gArg (zit 5 (gC (.int 0)))) (gCns (gArg (zit 5 (gC (.int 1)))) gA0)))))))
theorem e_vote_row (d:Nat):sem T bn (d+3) "vote_row"=zad [Zc,Zc,Zc,Zc] 6 (zd6 (sem T bn (d+2))):=sFq (t:=zea) (by kernel_rfl) λ_ _=>by kernel_rfl
noncomputable def zba (Ψ:Str->Fn):GS:=(gRet (gCall [Zc,Zc] (Ψ "word_of") (gCns #v[0,4] (gCns (gArg (gBor 1 (gCall [Zc,Zc] (Ψ "chosen_above") #v[9,22]))) gA0))))
theorem e_word_by_votes (d:Nat):sem T bn (d+3) "word_by_votes"=zad [Zc,Zc] 2 (zba (sem T bn (d+2))):=sFq (t:=zbc) (by kernel_rfl) λ_ _=>by kernel_rfl
noncomputable def zjm (Ψ:Str->Fn):GS:=(gSeq (gSet [] 5 (gBor 3 (gCall [Zc,Zc,Zc,Zc] (Ψ "vote_row") #v[8,10]))) (gSeq (gIfS (zaj (gOp2 oEq (gArg (gOp2 oIx (zaa 5) #v[1])) (gArg (gOp2 oIx (zaa 5) #v[2])))) zll zb6) (zc2 (gApp 3 (gVar 5)))))
noncomputable def znq (Ψ:Str->Fn):GS:=gFor [] (.nm 4) (zap (gCall [Zc] (Ψ "voted_terms") #v[1,19])) (zjm Ψ)
noncomputable def zqh (Ψ:Str->Fn):GS:=(gSeq (gSet [] 2 (gOp2 oIx (zaa 0) #v[0])) (gSeq (gSet [] 3 (zaq gA0)) (gSeq (znq Ψ) (gSeq (gSet [] 6 (gBor 3 (gCall [Zc,Zc] (Ψ "word_by_votes") #v[1,16]))) (gSeq (gIfS (zpc (zaj (gCall [Zc,Zc,Zc] (Ψ "is_near") (gCns #v[0,4] (gCns #v[6,4] #v[0,19]))))) zll zb6) (gRet (zbr (gCns #v[6,4] (gCns (gArg (gOpN oTuple #v[2,20])) gA0)))))))))
theorem e_mend (d:Nat):sem T bn (d+3) "mend"=zad [Zc,Zc] 7 (zqh (sem T bn (d+2))):=sFq (t:=zrh) (by kernel_rfl) λ_ _=>by kernel_rfl
theorem zpi (d:Nat):sem T bn (d+3) "_law_hand"=zad [Zc] 6 (z8s (sem T bn (d+2))):=sFq (t:=zdh) (by kernel_rfl) λ_ _=>by kernel_rfl
theorem zpk (d:Nat):sem T bn (d+3) "_law_take"=zad [Zd,Zc] 4 (zvd (sem T bn (d+2))):=sFq (t:=zc5) (by kernel_rfl) λ_ _=>by kernel_rfl
theorem zod (d:Nat):sem T bn (d+3) "_law_bits"=zad [Zd,Zc] 6 (ya8 (sem T bn (d+2))):=sFq (t:=zdb) (by kernel_rfl) λ_ _=>by kernel_rfl
theorem znt (d:Nat):sem T bn (d+3) "_law_word"=zad [Zc] 3 (yb6 (sem T bn (d+2))):=sFq (t:=zdg) (by kernel_rfl) λ_ _=>by kernel_rfl
theorem zkv (d:Nat):sem T bn (d+3) "_law_terms"=zad [Zc,Zc] 4 (zp4 (sem T bn (d+2))):=sFq (t:=zce) (by kernel_rfl) λ_ _=>by kernel_rfl
theorem zi9 (d:Nat):sem T bn (d+3) "_law_values"=zad [Zc,Zc] 5 (zlj (sem T bn (d+2))):=sFq (t:=zbx) (by kernel_rfl) λ_ _=>by kernel_rfl
theorem e__law_poly (d:Nat):sem T bn (d+3) "_law_poly"=zad [Zd,Zc,Zc] 4 (zvx (sem T bn (d+2))):=sFq (t:=zc6) (by kernel_rfl) λ_ _=>by kernel_rfl
noncomputable def zdn (Ψ:Str->Fn):GE:=za7 [Zb,Zb,Zb] (.tp [1,2]) (gZip (gVar 0) (gVar 1)) gYes (gCall [Zc,Zc] (Ψ "_law_same") #v[4,19])
noncomputable def zan (Ψ:Str->Fn):GS:=(gSeq (gIfS (zaj (gOp1 (oIsi .tuple) (zaa 1))) (gSeq (gIfS (gOrT (zpc (zaj (gOp1 (oIsi .tuple) (zaa 0)))) (zaj (gOp2 oNe #v[8,8] #v[3,9]))) #v[5,22] zb6) (gRet (gOpN (oBl λbs=>bs.all id) (gCns (gArg (zdn Ψ)) gA0)))) zb6) (gSeq (gIfS (zaj (gOp2 oIs (zaa 1) (gArg (gC .non)))) (gRet (gOp2 oIs (zaa 0) (gArg (gC .non)))) zb6) (gSeq (gIfS (zaj (gOp1 (oIsi .str) (zaa 1))) (gRet (gAnd (gOp1 (oIsi .str) (zaa 0)) #v[1,21])) zb6) (gSeq (gIfS (gOrT (zaj (gOp1 (oIsi .bool) (zaa 1))) (zaj (gOp1 (oIsi .bool) (zaa 0)))) (gRet (gAnd (gOp1 (oIsi .bool) (zaa 0)) (gAnd (gOp1 (oIsi .bool) (zaa 1)) #v[1,21]))) zb6) (gRet (gAnd (gOp1 (oIsi .int) (zaa 0)) #v[1,21]))))))
theorem zb9 (d:Nat):sem T bn (d+3) "_law_same"=zad [Zc,Zc] 2 (zan (sem T bn (d+2))):=sFq (t:=zdf) (by kernel_rfl) λ_ _=>by kernel_rfl
noncomputable def zc8 (Ψ:Str->Fn):GS:=(gSeq (gSet [0] 1 (gOp2 oAdd #v[1] (gArg (gCall [Zd,Zc] (Ψ "_law_take") (gCns (zaa 0) (gCns #v[6] gA0)))))) (gRet (zbr (gCns #v[1,4] (gCns (gArg (gCall [Zd,Zc] (Ψ "_law_take") (gCns (zaa 0) (gCns (gArg (gOp2 oAdd (zaa 1) #v[1])) gA0)))) gA0)))))
theorem znp (d:Nat):sem T bn (d+3) "_law_kind"=zad [Zd] 2 (zc8 (sem T bn (d+2))):=sFq (t:=zda) (by kernel_rfl) λ_ _=>by kernel_rfl
noncomputable def zc9 (Ψ:Str->Fn):GE:=za7 [Zb,Zb,Za 2] (.nm 1) (zap (gVar 1)) gYes (gOp2 oAdd (zaa 1) (gArg (gOp2 #v[0,0,1] #v[1] (zaa 2))))
noncomputable def zcz (Ψ:Str->Fn):GS:=(gSet [] 1 (gOp2 oAdd (zaa 1) (gArg (zc9 Ψ))))
noncomputable def zcy (Ψ:Str->Fn):GS:=gFor [] (.nm 2) (zap (gVar 0)) (zcz Ψ)
noncomputable def zcc (Ψ:Str->Fn):GS:=(gSeq (gSet [] 1 (zaq (gCns #v[0] gA0))) (gSeq (zcy Ψ) (zcn [] 1)))
theorem zms (d:Nat):sem T bn (d+3) "_law_along"=zad [Zc] 3 (zcc (sem T bn (d+2))):=sFq (t:=zch) (by kernel_rfl) λ_ _=>by kernel_rfl
noncomputable def zc4 (Ψ:Str->Fn):GE:=za7 [Zb,Zb,Za 2] (.nm 1) (zbt #v[4,20]) (zaj (gOp2 (oIn Zd) (zaa 1) (zaa 2))) (gVar 1)
noncomputable def zb3 (Ψ:Str->Fn):GE:=za7 #v[5,21] (.nm 1) (zap (gVar 2)) gYes (gOp2 oIx (zaa 2) (gArg (gOp2 oAdd (zaa 3) (zaa 1))))
noncomputable def zdc (Ψ:Str->Fn):GE:=za7 #v[5,21] (.nm 1) (zap (gVar 4)) gYes (gOp2 #v[0,0,2] #v[0,21] #v[2])
noncomputable def zcd (Ψ:Str->Fn):GS:=(gSeq (gSet [] 3 (gCall [Zc] (Ψ "_law_along") #v[8,14])) (gSeq (gSet [] 4 (gCall [Zc] (Ψ "_law_along") (gCns (gArg (zc4 Ψ)) gA0))) (gRet (zdc Ψ))))
theorem zm5 (d:Nat):sem T bn (d+3) "_law_votes"=zad [Zc,Zc,Zc] 5 (zcd (sem T bn (d+2))):=sFq (t:=zci) (by kernel_rfl) λ_ _=>by kernel_rfl
noncomputable def zbl (Ψ:Str->Fn):GE:=za7 [Zb,Zb,Za 6] (.nm 1) (zap (gCall [Zc,Zc] (Ψ "_law_terms") (gCns #v[0,4] #v[0,19]))) (zaj (gOp2 oEq #v[3,9] (zaa 2))) (gVar 1)
noncomputable def zbk (Ψ:Str->Fn):GS:=(gSeq (gSet [] 9 (gCall [Zc,Zc,Zc] (Ψ "_law_votes") (gCns #v[0,4] (gCns #v[3,4] #v[7,22])))) (gSeq (gSet [] 10 (gOpN oSum (gCns (zaa 9) gA0))) (gSeq (gIfS (zaj (gOp2 oEq (gArg (gOp2 oMult #v[2] (zaa 10))) #v[8,17])) (gRet (zbr (gCns (gArg (gC (.str "NoMost"))) #v[7,22]))) zb6) (gSeq (zc2 (gApp 5 (zbr (gCns #v[8,4] (gCns (gArg (gOp2 #v[0,0,0] #v[8,17] (zaa 10))) (gCns #v[10,4] gA0)))))) (gIfS (zaj (gOp2 #v[6,9] (gArg (gOp2 oMult #v[2] (zaa 10))) #v[8,17])) (zc2 (gApp 7 (gVar 8))) zb6)))))
noncomputable def zck (Ψ:Str->Fn):GS:=gFor [] (.nm 8) (zap (zbl Ψ)) (zbk Ψ)
noncomputable def zcq (Ψ:Str->Fn):GE:=za7 [Zb,Zb,Zb] (.tp [1,2]) (gZip (gVar 3) (gCall [Zc,Zc] (Ψ "_law_values") (gCns #v[0,4] (gCns #v[7,4] gA0)))) gYes (gOpN oInt (gCns (gArg (gOp2 oNe (zaa 1) (zaa 2))) gA0))
noncomputable def zbn (Ψ:Str->Fn):GS:=(gSeq (gSet [] 7 (zaq gA0)) (gSeq (zck Ψ) (gSeq (gSet [] 4 (gOp2 oAdd (zaa 4) (zaa 7))) (gSet [] 3 (zcq Ψ)))))
noncomputable def zcl (Ψ:Str->Fn):GS:=gFor [] (.nm 6) (zyh (gCns (zaa 1) #v[2,22])) (zbn Ψ)
noncomputable def zb1 (Ψ:Str->Fn):GS:=(gSeq (gPar3 [] 3 4 5 (gOpN oList #v[3,20]) (zaq gA0) (zaq gA0)) (gSeq (zcl Ψ) (gSeq (gIfS (zaj (gOp2 (oI yes2 λi j=>.bl (decide (j<=i))) (gArg (gOp2 oMult #v[2] (gArg (gOpN oSum #v[2,20])))) (gArg (gOp2 #v[0,0,1] #v[1] (gArg (gOp2 #v[0,0,0] (zaa 0) (zaa 1))))))) (gRet (zbr (gCns (gArg (gC (.str "TooFar"))) (gCns (gArg (gC .non)) gA0)))) zb6) (gRet (zbr (gCns (gArg (gCall [Zc,Zc] (Ψ "_law_values") (gCns #v[0,4] (gCns #v[4,4] gA0)))) (gCns (gArg (gOpN oTuple (gCns (zaa 5) gA0))) gA0)))))))
theorem e__law_mended (d:Nat):sem T bn (d+3) "_law_mended"=zad [Zc,Zc,Zc] 11 (zb1 (sem T bn (d+2))):=sFq (t:=zb5) (by kernel_rfl) λ_ _=>by kernel_rfl
noncomputable def zbm (Ψ:Str->Fn):GS:=(gSeq (gSet [0] 6 (zsw 4 (gCall [Zd,Zc] (Ψ "_law_take") (gCns (zaa 0) (gCns #v[9,17] gA0))))) (za9 3 (gVar 6) (gOp2 #v[0,0,0] #v[1] (gArg (gOp2 oIx (zaa 3) (zaa 6))))))
noncomputable def zcm (Ψ:Str->Fn):GS:=gFor [0] (.nm 5) (zbt (gCns (gArg #v[9,20]) gA0)) (zbm Ψ)
noncomputable def zb4 (Ψ:Str->Fn):GS:=(gSeq (gSet [0] 3 (gOpN oList #v[6,22])) (gSeq (gSet [0] 4 (zgw (gCns #v[3,9] gA0))) (gSeq (zcm Ψ) (zcn [0] 3))))
theorem zi7 (d:Nat):sem T bn (d+3) "_law_faulty"=zad [Zd,Zc,Zc] 7 (zb4 (sem T bn (d+2))):=sFq (t:=zbv) (by kernel_rfl) λ_ _=>by kernel_rfl
noncomputable def zum (Ψ:Str->Fn):GS:=(gIfS (zpc (zaj (gCall [Zc,Zc] (Ψ "_law_same") (gCns (gArg (gCall [Zc,Zc] (Ψ "mend") (gCns (gArg (zbr (gCns #v[3,4] (gCns #v[4,4] gA0)))) (gCns (gArg (gCall [Zc] (Ψ "_law_word") #v[7,22])) gA0)))) (gCns (gArg (zbr (gCns (gArg (gCall [Zc] (Ψ "_law_word") (gCns #v[7,4] gA0))) (gCns (gArg (gOp2 oIx (zaa 9) #v[1])) gA0)))) gA0))))) #v[5,22] zb6)
noncomputable def zya (Ψ:Str->Fn):GS:=gFor [] (.nm 10) (zbt (gCns #v[2] gA0)) (zum Ψ)
noncomputable def zqz (Ψ:Str->Fn):GS:=(gSeq (gSet [] 7 (gCall [Zc,Zc] (Ψ "_law_values") (gCns #v[3,4] (gCns #v[6,4] gA0)))) (gSeq (gSet [] 8 (gCall [Zd,Zc,Zc] (Ψ "_law_faulty") (gCns (zaa 1) (gCns #v[7,4] (gCns (gArg (gOp2 oIx (gArg (zaq (gCns #v[5,4] (gCns #v[5,4] (gCns (gArg (gCall [Zd,Zc] (Ψ "_law_take") (gCns (zaa 1) (gCns (gArg (gOp2 oAdd (zaa 5) #v[1])) gA0)))) gA0))))) (gArg (gCall [Zd,Zc] (Ψ "_law_take") (gCns (zaa 1) (gCns #v[3] gA0)))))) gA0))))) (gSeq (gSet [] 9 (gCall [Zc,Zc,Zc] (Ψ "_law_mended") (gCns #v[3,4] (gCns #v[4,4] #v[7,22])))) (gSeq (gIfS (zaj (gOp2 oNe (gArg (gOp2 oIx (zaa 9) #v[0])) (zaa 7))) #v[5,22] zb6) (zya Ψ)))))
noncomputable def zvn (Ψ:Str->Fn):GS:=gFor [] (.nm 6) (zap (zbr #v[1,9])) (zqz Ψ)
noncomputable def zpn (Ψ:Str->Fn):GS:=(gSeq (gAsg [] (.tp [3,4]) (gCall [Zd] (Ψ "_law_kind") #v[6,22])) (gSeq (gSet [] 5 (gOp2 #v[0,0,3] (gArg (gOp2 #v[0,0,0] (gArg (gOp2 #v[0,0,1] #v[1] (gArg (gOp2 #v[0,0,0] (zaa 3) (zaa 4))))) #v[1])) #v[2])) (zvn Ψ)))
noncomputable def zvf (Ψ:Str->Fn):GS:=gFor [] (.nm 2) (zbt (gCns #v[3,15] gA0)) (zpn Ψ)
noncomputable def z47 (Ψ:Str->Fn):GS:=(gSeq (gSet [] 1 (gCall [Zc] (Ψ "_law_hand") #v[1,19])) (gSeq (zvf Ψ) (gRet (gC (.bl Zd)))))
theorem yds (d:Nat):sem T bn (d+3) "law"=zad [Zc] 11 (z47 (sem T bn (d+2))):=sFq (t:=zos) (by kernel_rfl) λ_ _=>by kernel_rfl
noncomputable def DT:List Nat->(Nat->Bool)->Nat->Bool
 |[],f=>f
 |l::T,f=>DT T λp=>f p ^^ f (p+2^l)
theorem zv8:∀(T:List Nat) (f g:Nat->Bool) (p:Nat),DT T (λp=>f p ^^ g p) p=(DT T f p ^^ DT T g p)
 |[],_,_,_=>rfl
 | l::T,f,g,p=>by
  show DT T (λp=>(f p ^^ g p) ^^ (f (p+2^l) ^^ g (p+2^l))) p=(DT T (λp=>f p ^^ f (p+2^l)) p ^^ DT T (λp=>g p ^^ g (p+2^l)) p);rw[<-zv8 T];congr 1
  funext q
  cases f q<;>cases g q<;>cases f (q+2^l)<;>cases g (q+2^l)<;>rfl
theorem zn2:∀(T:List Nat) (p:Nat),DT T (λ_=>Zc) p=Zc
 |[],_=>rfl
 |l::T,p=>zn2 T p
theorem zwl {q l:Nat}(h:q.testBit l=Zc):q+2^l=q ^^^ 2^l:=by
 have d:q%2^l<2^l:=Nat.mod_lt _ (Nat.two_pow_pos l);have k:q/2^l%2=0:=by
  have:=Nat.toNat_testBit q l;rw[h] at this;exact this.symm
 have g:q/2^l=2*(q/2^l/2):=by omega
 have e:q=2^(l+1)*(q/2^l/2)+q%2^l:=by
  have:=Nat.div_add_mod q (2^l);rw[Nat.pow_succ,Nat.mul_assoc,<-g];exact this.symm
 generalize q/2^l/2=a at e;generalize q%2^l=b at e d;have f:b<2^(l+1):=Nat.lt_trans d (Nat.pow_lt_pow_right #v[0,9] #v[]);have j:2^l+b<2^(l+1):=by rw[Nat.pow_succ];omega
 have s:q+2^l=2^(l+1)*a+(2^l*1+b):=by omega
 rw[s,Gz #v[],Gz d,Nat.mul_one];rw[e,Gz f] at h ⊢;refine Nat.eq_of_testBit_eq λi=>?_;rw[Nat.testBit_or,Nat.testBit_or] at *
 rw[Eg,Nat.testBit_or,Gv];by_cases c:l=i
 ·subst c;rw[Bool.or_eq_false_iff] at h;rw[h.1,h.2,Ah rfl];rfl
 ·rw[Ao c];cases (2^(l+1)*a).testBit i<;>cases b.testBit i<;>rfl
theorem tb_add {q l j:Nat}(h:q.testBit l=Zc)(a:j≠l):(q+2^l).testBit j=q.testBit j:=by
 rw[zwl h,Eg,Gv,Ao λe=>a e.symm];cases q.testBit j<;>rfl
theorem z34 {q l:Nat}(h:q.testBit l=Zc):(q+2^l).testBit l=Zd:=by
 rw[zwl h,Eg,Gv,Ah rfl,h];rfl
theorem zf6:∀(T:List Nat) (f g:Nat->Bool) (p:Nat),T.Nodup->(∀l∈T,p.testBit l=Zc)->(∀q,(∀j,j ∉ T->q.testBit j=p.testBit j)->f q=g q)->DT T f p=DT T g p
 |[],f,g,p,_,_,h=>h p λ_ _=>rfl
 | l::T,f,g,p,n,c,h=>by
  rw[Bq] at n;refine zf6 T _ _ p n.2 (λj a=>c j (An _ a)) λq b=>?_;have d:q.testBit l=Zc:=(b l n.1).trans (c l Av);rw[h q λj a=>b j λz=>a (An _ z),h (q+2^l) λj a=>?_];have e:j≠l:=λz=>a (z ▸ Av);rw[tb_add d e];exact b j λz=>a (An _ z)
noncomputable def mono (U:List Nat) (p:Nat):Bool:=U.all λl=>p.testBit l
theorem zex {U:List Nat}{p:Nat}:mono U p=Zd↔∀l∈U,p.testBit l=Zd:=Aw
theorem ztb:∀(T U:List Nat) (p:Nat),T.Nodup->U.Nodup->(∀l∈T,p.testBit l=Zc)->U.length<=T.length->DT T (mono U) p=decide (∀l∈T,l∈U)
 | [],U,p,_,_,_,i=>by
  obtain rfl:=List.length_eq_zero_iff.mp (Nat.le_zero.mp i);exact (Ah λ_ h=>nomatch h).symm
 | l::T,U,p,n,m,o,i=>by
  rw[Bq] at n;have f : ∀j∈T,p.testBit j=Zc:=λj a=>o j (An _ a);have k:=o l Av;by_cases c:l∈U
  ·have e:DT (l::T) (mono U) p=DT T (mono (U.erase l)) p:=by
    refine zf6 T _ _ p n.2 f λq g=>?_;have b:q.testBit l=Zc:=(g l n.1).trans k;have r:mono U q=Zc:=by
     cases z:mono U q with
     |false=>rfl
     |true=>rw[zex.mp z l c] at b;cases b
    rw[r,Bool.false_xor];refine Eh.mpr ?_;rw[zex,zex];constructor
    ·intro h j a
     have d:j≠l:=λz=>by rw[z] at a;exact (List.Nodup.not_mem_erase m) a
     rw[<-tb_add b d];exact h j (List.mem_of_mem_erase a)
    ·intro h j a
     by_cases d:j=l
     ·rw[d];exact z34 b
     ·rw [tb_add b d]
      exact h j ((List.mem_erase_of_ne d).mpr a)
   rw[e,ztb T (U.erase l) p n.2 (m.erase l) f (by rw[List.length_erase_of_mem c];rw[Ay] at i;omega)];refine Es.mpr ⟨λh j a=>?_,λh j a=>?_⟩
   ·rcases Ap.mp a with rfl | a
    ·exact c
    ·exact List.mem_of_mem_erase (h j a)
   ·have d:j≠l:=λz=>n.1 (z ▸ a)
    exact (List.mem_erase_of_ne d).mpr (h j (An _ a))
  ·have e:DT (l::T) (mono U) p=DT T (λ_=>Zc) p:=by
    refine zf6 T _ _ p n.2 f λq g=>?_;have b:q.testBit l=Zc:=(g l n.1).trans k;have:mono U q=mono U (q+2^l):=by
     refine Eh.mpr ?_;rw[zex,zex];exact⟨λh j a=>by rw[tb_add b λz=>c (z ▸ a)];exact h j a,λh j a=>by rw[<-tb_add b λz=>c (z ▸ a)];exact h j a⟩
    rw[this,Bool.xor_self]
   rw[e,zn2];exact (Ao λh=>c (h l Av)).symm
noncomputable def par (ts:List (List Nat)) (p:Nat):Bool:=ts.foldr (λt b=>mono t p ^^ b) Zc
theorem z3t (T:List Nat) (p:Nat):∀a:List (List Nat),DT T (par a) p=a.foldr (λt b=>DT T (mono t) p ^^ b) Zc
 |[]=>zn2 T p
 | t::a=>by
  show DT T (λq=>mono t q ^^ par a q) p=(DT T (mono t) p ^^ _);rw[zv8,z3t T p a]
noncomputable def al (T:List Nat):List Nat:=T.foldl (λL l=>L++L.map (· + 2^l)) [0]
noncomputable def odS (L:List Nat) (f:Nat->Bool) (p:Nat):Bool:=decide ((L.filter λq=>f (p+q)).length%2=1)
theorem z4y (L M:List Nat)(f:Nat->Bool)(p:Nat):odS (L++M) f p=(odS L f p ^^ odS M f p):=by
 unfold odS;rw[Cf,Bb];rcases Nat.mod_two_eq_zero_or_one (L.filter λq=>f (p+q)).length with a|a<;>rcases Nat.mod_two_eq_zero_or_one (M.filter λq=>f (p+q)).length with b|b<;>rw[Nat.add_mod,a,b]<;>rfl
theorem z4u (L:List Nat)(f:Nat->Bool)(p x:Nat):odS (L.map (· + x)) f p=odS L f (p+x):=by
 unfold odS;have e:(L.filter ((λq=>f (p+q)) ∘ λy=>y+x))=L.filter λq=>f (p+x+q):=Cu λq _=>by
  show f (p+(q+x))=f (p+x+q);congr 1;omega
 rw[List.filter_map,Ad,e]
theorem z2y:∀(T L:List Nat) (f:Nat->Bool) (p:Nat),odS (T.foldl (λL l=>L++L.map (· + 2^l)) L) f p=DT T (odS L f) p
 |[],_,_,_=>rfl
 | l::T,L,f,p=>by
  show odS (T.foldl _ (L++L.map (· + 2^l))) f p=DT T (λq=>odS L f q ^^ odS L f (q+2^l)) p;rw[z2y T];congr 1
  funext q
  rw[z4y,z4u]
theorem z52 (f:Nat->Bool):odS [0] f=f:=by
 funext p
 unfold odS;cases h:f p with
 |true=>rw[Be (by simpa using h)];rfl
 |false=>rw[Bf (by simpa using h)];rfl
theorem ybp (T:List Nat)(f:Nat->Bool)(p:Nat):DT T f p=odS (al T) f p:=by
 unfold al;rw[z2y,z52]
noncomputable def oth (m:Nat) (T:List Nat):List Nat:=(List.range (2^m)).filter λp=>p &&& zao T==0
noncomputable def rstL (m:Nat) (T:List Nat):List Nat:=(List.range m).filter λl=>!T.contains l
noncomputable def coT (m:Nat) (T:List Nat):List Nat:=(oth m T).flatMap λp=>(al T).map (p + ·)
noncomputable def ndS:List Nat->Nat->Bool
 |[],_=>Zd
 |x::l,a=>!(a.testBit x)&&ndS l (a ||| 1 <<< x)
theorem z3o:∀(l:List Nat) (a:Nat),ndS l a=Zd->l.Nodup/\∀x∈l,a.testBit x=Zc
 |[],_,_=>⟨Hg,λ_ h=>nomatch h⟩
 | x::l,a,h=>by
  have h:(!(a.testBit x)&&ndS l (a ||| 1 <<< x))=Zd:=h;rw [Ab,Em] at h;obtain ⟨d,c⟩:=h;obtain ⟨n,m⟩:=z3o l _ c;have k:∀y∈l,a.testBit y=Zc/\y≠x:=λy b=>by
   have:=m y b;rw[Nat.testBit_or,Bool.or_eq_false_iff,Nat.one_shiftLeft,Gv] at this;exact⟨this.1,λe=>of_decide_eq_false this.2 e.symm⟩
  refine⟨Bq.mpr ⟨λz=>(k x z).2 rfl,n⟩,λy b=>?_⟩;rcases Ap.mp b with rfl|b
  ·exact d
  ·exact (k y b).1
noncomputable def chT1 (m:Nat) (T:List Nat):Bool:=decide (oth m T=al (rstL m T))&&(ndS (coT m T) 0&&((coT m T).all (λx=>decide (x<2^m))&&((List.range (2^m)).all (λx=>(coT m T).contains x)&&(decide ((oth m T).length=2^(m-T.length))&&((oth m T).all (λp=>T.all λl=>!p.testBit l)&&(decide T.Nodup&&T.all λl=>decide (l<m)))))))
noncomputable def chT2 (m:Nat) (T:List Nat):Bool:=(zab m m).all λt=>!(decide (t.length<=T.length)&&T.all t.contains)||decide (t=T)
theorem z5v:((List.range 7).all λm=>(zab m m).all λT=>chT1 m T&&chT2 m T)=Zd:=by decide +kernel
structure ChT (m:Nat) (T:List Nat):Prop where
 ot:oth m T=al (rstL m T)
 pm:(coT m T).Perm (List.range (2^m))
 ln:(oth m T).length=2^(m-T.length)
 off:∀p∈oth m T,∀l∈T,p.testBit l=Zc
 nd:T.Nodup
 lt:∀l∈T,l<m
 one:∀t∈zab m m,t.length<=T.length->(∀l∈T,l∈t)->t=T
theorem ch_t {m:Nat}{T:List Nat}(u:m<=6)(hT:T∈zab m m):ChT m T:=by
 have h:=Aw.mp (Aw.mp z5v m (Bk.mpr #v[])) T hT;rw[Ab] at h;obtain⟨b,f⟩:=h;have b:(decide (oth m T=al (rstL m T))&&(ndS (coT m T) 0&&((coT m T).all (λx=>decide (x<2^m))&&((List.range (2^m)).all (λx=>(coT m T).contains x)&&(decide ((oth m T).length=2^(m-T.length))&&((oth m T).all (λp=>T.all λl=>!p.testBit l)&&(decide T.Nodup&&T.all λl=>decide (l<m))))))))=Zd:=b;rw[Ab,Ab,Ab,Ab,Ab,Ab,Ab] at b;obtain⟨j,r,o,q,i,k,e,g⟩:=b;refine⟨Ai j,?_,Ai i,λp s l a=>?_,Ai e,λl a=>Ai (Aw.mp g l a),λt d a n=>?_⟩
 ·exact (Ea (z3o _ _ r).1 List.nodup_range).mpr λx=>⟨λc=>Bk.mpr (Ai (Aw.mp o x c)),λc=>Cn.mp (Aw.mp q x c)⟩
 ·have:=Aw.mp (Aw.mp k p s) l a
  rwa [Em] at this
 ·have:=Aw.mp f t d;rw[Cd,Em] at this;rcases this with z|z
  ·rw[Ah a,Bool.true_and,Aw.mpr λl a=>Cn.mpr (n l a)] at z;cases z
  ·exact Ai z
noncomputable def cntR (n:Nat) (f:Nat->Bool):Nat:=((List.range n).filter f).length
theorem z24 (T:List Nat) (F:Nat->Bool):∀O:List Nat,(O.filter (DT T F)).length<=((O.flatMap λp=>(al T).map (p + ·)).filter F).length
 |[]=>Ag _
 | p::O=>by
  rw[List.flatMap_cons,Cf,Bb,List.filter_map,Ad];have i:=z24 T F O;cases h:DT T F p with
  |false=>rw[Bf (by rw[h];decide)];omega
  | true =>
   rw[Be h,Ay];rw[ybp] at h;have h:((al T).filter λq=>F (p+q)).length%2=1:=Ai h;have e:(al T).filter (F ∘ λq=>p+q)=(al T).filter λq=>F (p+q):=rfl;rw[e];omega
theorem yad {m:Nat}{T:List Nat}(h:ChT m T)(F:Nat->Bool):((oth m T).filter (DT T F)).length<=cntR (2^m) F:=by
 refine Bj (z24 T F (oth m T)) ?_;have:=(h.pm.filter F).length_eq;unfold cntR;rw[<-this];exact Ag _
theorem ycv {m p:Nat}{T:List Nat}{ts:List (List Nat)} (h:ChT m T) (j:p∈oth m T) (n:ts.Nodup) (a:∀t∈ts,t∈zab m m/\t.Nodup/\t.length<=T.length):DT T (par ts) p=decide (T∈ts):=by
 rw[z3t]
 induction ts with
 |nil=>exact (Ao Cb).symm
 | cons t ts i =>
  rw[Bq] at n;obtain⟨f,e,b⟩:=a t Av;rw[List.foldr_cons,i n.2 λu d=>a u (An _ d),ztb T t p h.nd e (h.off p j) b];by_cases c:t=T
  ·subst c
   rw[Ah λl g=>g,Ao n.1,Ah Av];rfl
  ·rw [Ao λz=>c (h.one t f b z),Bool.false_xor]
   refine Es.mpr ⟨An _,λz=>?_⟩;rcases Ap.mp z with z|z
   ·exact absurd z.symm c
   ·exact z
theorem zqd {α:Type} (p:α->Bool):∀l:List α,l.length=(l.filter p).length+(l.filter λx=>!p x).length
 |[]=>rfl
 | x::l=>by
  have i:=zqd p l;cases h:p x with
  |true=>rw[Be h,Bf (by rw[h];decide),Ay,Ay];omega
  |false=>rw[Bf (by rw[h];decide),Be (by rw[h];rfl),Ay,Ay];omega
noncomputable def ysN (m:Nat) (T:List Nat) (f:Nat->Bool):Nat:=((oth m T).filter (DT T f)).length
theorem ydm {m p:Nat}{T:List Nat}{f g:Nat->Bool}(h:ChT m T)(a:p∈oth m T)(e:∀q,q<2^m->f q=g q):DT T f p=DT T g p:=by
 have l:p<2^m:=Bk.mp (Bl.mp a).1;refine zf6 T f g p h.nd (h.off p a) λq b=>e q ?_;refine Nat.lt_pow_two_of_testBit q λi c=>?_;rw[b i λz=>absurd (h.lt i z) #v[]];exact Nat.testBit_lt_two_pow (Bd l (Dd #v[0,9] c))
theorem z3q {m:Nat}{T:List Nat}{f g:Nat->Bool}(h:ChT m T)(e:∀q,q<2^m->f q=g q):ysN m T f=ysN m T g:=by
 unfold ysN;rw[Cu λp a=>ydm h a e]
theorem reed {m r:Nat}{T:List Nat}{ts:List (List Nat)}{F f:Nat->Bool}(h:ChT m T)(g:T.length<=r)(n:ts.Nodup)(a:∀t∈ts,t∈zab m m/\t.Nodup/\t.length<=T.length)(hF:2*cntR (2^m) F<2^(m-r))(e:∀q,q<2^m->f q=(F q ^^ par ts q)):if T∈ts then 2^(m-T.length)<2*ysN m T f else 2*ysN m T f<2^(m-T.length):=by
 have b:=yad h F;have i:2^(m-r)<=2^(m-T.length):=Dd #v[0,9] #v[];have l:=h.ln;rw[z3q h e];unfold ysN;rw[Cu (q:=λp=>DT T F p ^^ decide (T∈ts)) λp d=>by rw[zv8,ycv h d n a]];by_cases c:T∈ts
 ·rw[if_pos c,Ah c,Cu (q:=λp => !DT T F p) λp _=>Bool.xor_true _];have s:=zqd (DT T F) (oth m T);omega
 ·rw[if_neg c,Ao c,Cu (q:=DT T F) λp _=>Fo _];omega
noncomputable def SN (T:List Nat) (N:Nat):Nat:=T.foldl (λN l=>N ^^^ N/2^2^l) N
theorem z2s:∀(T:List Nat) (N p:Nat),(SN T N).testBit p=DT T N.testBit p
 |[],_,_=>rfl
 | l::T,N,p=>by
  show (SN T (N ^^^ N/2^2^l)).testBit p=DT T (λq=>N.testBit q ^^ N.testBit (q+2^l)) p;rw[z2s T];congr 1
  funext q
  rw[Eg,Nat.testBit_div_two_pow]
theorem zki (t:List Nat):tmW t=.tup (zac t):=rfl
theorem ztj:∀m:Fin 7,∀t∈zab m.val m.val,wordOf (tab 6 λi=>if i∈t then 1 else 0)=(zao t:Int):=by decide +kernel
theorem zvp:∀m:Fin 7,∀t∈zab m.val m.val,(∀l∈t,l<m.val)/\t.Nodup/\t.length<=m.val:=by decide +kernel
theorem zkf (n:Nat):rngW 0 n=(List.range n).map λj=>W.int (j:Nat):=by
 unfold rngW;refine List.map_congr_left λj _=>?_;rw[Hb]
noncomputable def ztp (Φ:Fn):Prop:=∀(m N:Nat) (T:List Nat),m<=6->T∈zab m m->Φ [.int (m:Nat),.int (N:Nat),tmW T]=Za ([.int (m:Nat),.int (N:Nat),tmW T],(.tup (((oth m T).map (bitN (SN T N))).map W.int),Zc))
theorem zyy {Ψ:Str->Fn}(hX:XorN (Ψ "plus"))(F:zz9 (Ψ "times"))(hW:zfb (Ψ "word_at"))(hS:z7g (Ψ "says")):ztp (zad [Zc,Zc,Zc] 6 (zix Ψ)):=λm N T o hT=>by
 obtain⟨lt,M,L⟩:=zvp ⟨m,by omega⟩ T hT;have lt:∀l∈T,l<m:=lt;have J:=zdl o;have A:=pow1 (l:=m) #v[];have f:∃v4,ziy Ψ #v[3,10]=Za ([#v[(m:Nat),0],#v[(N:Nat),0],#v[tmW T,6],#v[(SN T N:Nat),0],v4,Zb],.nx):=by
  unfold ziy;obtain⟨t,h,v4,rfl⟩:=zaz (mp:=[]) (T:=.nm 4) (body:=zj4 Ψ) (it:=zap (gVar 2)) (ws:=zac T) (en:=#v[3,10]) (e0:=#v[3,10]) (λi e=>∃v4,e=[#v[(m:Nat),0],#v[(N:Nat),0],#v[tmW T,6],#v[(SN (T.take i) N:Nat),0],v4,Zb]) rfl ⟨_,rfl⟩ λi w e g B=>by
   obtain⟨v4,rfl⟩:=B;unfold zac at g;rw[Aj] at g;obtain⟨l,d,rfl⟩:=Du.mp g;have K:=lt l (Bh d);have G:T.take (i+1)=T.take i++[l]:=by rw[Ce,d];rfl
   have y:=pow1 (l:=l) #v[];have I:SN (T.take (i+1)) N=SN (T.take i) N ^^^ SN (T.take i) N/2^2^l:=by
    rw[G];unfold SN;rw[Hk];rfl
   generalize SN (T.take i) N=S at *
   have x:=hX S (S/2^2^l);have k:(S:Int)/2^((2^l:Nat):Int).toNat=((S/2^2^l:Nat):Int):=by
    rw[Dj];norm_cast
   have j:decide ((0:Int)<=((2^l:Nat):Int))=Zd:=Ah (Ew _);refine⟨#v[0,17],[#v[(m:Nat),0],#v[(N:Nat),0],#v[tmW T,6],#v[(SN (T.take (i+1)) N:Nat),0],#v[(l:Nat),0],Zb],rfl,.inl ?_,_,rfl⟩;rw[I];unfold zj4;refine zed (e1:=#v[0,17]) (r:=(.int ((S ^^^ S/2^2^l:Nat):Int),Zc)) ?_ rfl;generalize q:((2^l:Nat):Int)=z at k j;have H:(1:Int)*2^l=z:=by rw[za0,q]
   simp! [y,H,j,k,x]
  rw[zat,Bs] at h;exact⟨_,h⟩
 obtain⟨v4,f⟩:=f;have b:=hW 6 T #v[0,9] λl d=>by have:=lt l d;omega
 rw[ztj ⟨m,by omega⟩ T hT] at b;have b:Ψ "word_at" [tmW T]=Za ([tmW T],(.int (zao T:Nat),Zc)):=b;have C:zjg Ψ #v[4,8]=Za (#v[4,8],(.lst (((oth m T).map (bitN (SN T N))).map W.int),Zd)):=by
  unfold zjg oth;rw[Cr];refine zkk (xs:=[#v[(zao T:Nat),0],#v[(SN T N:Nat),0]]) (λp:Nat=>W.int (p:Nat)) (λp=>p &&& zao T==0) (W.int ∘ bitN (SN T N)) (e0:=#v[4,8]) (ts:=List.range (2^m)) (by rw[<-zkf];exact zin (n:=2^m) (by simp! [A,za0]) #v[]) (by rw[Bi];omega) rfl rfl rfl (λ_ _=>rfl) λu p _=>?_;have a:=F (p:Nat) (zao T:Nat);rw[band] at a;have s:=hS (SN T N) p;have D:decide (((p &&& zao T:Nat):Int)=0)=(p &&& zao T==0):=by
   by_cases c:p &&& zao T=0
   ·rw[c];rfl
   ·rw[Ao #v[]];exact (Fu.mpr c).symm
  refine⟨#v[(p:Nat),0],by simp! [a,D],λ_=>⟨#v[(p:Nat),0],Zc,?_⟩⟩;show _=Za ([u,#v[(p:Nat),0],#v[(zao T:Nat),0],#v[(SN T N:Nat),0]],(W.int (bitN (SN T N) p),Zc));simp! [s]
 have E:oTuple [.lst (((oth m T).map (bitN (SN T N))).map W.int)]=#v[(((oth m T).map (bitN (SN T N))).map W.int),3]:=rfl;unfold zix;refine za3 (en:=#v[4,8]) rfl (zdm (e1:=#v[3,10]) ?_ (zdm f (zdm (e1:=#v[4,8]) ?_ ?_))) rfl
 ·simp! []
 ·simp! [b]
 ·simp! [C,E]
noncomputable abbrev VR:=List Nat×Nat×Nat
noncomputable def rowW (x:VR):W:=.tup [tmW x.1,.int (x.2.1:Nat),.int (x.2.2:Nat)]
noncomputable def chA (R:List VR) (s:Int):List (List Nat):=(R.filter λx=>decide (x.2.1<x.2.2)&&decide (s<(x.1.length:Int))).map (·.1)
theorem zty {α:Type}{cap:Cap}{T:Tg}{it:GL}{tc:GT}{te:GE}{en e0:En}{ts:List α} (P:En->Prop) (f g:α->W) (p:α->Bool) (q:it en=Za (e0,ts.map f)) (C:ts.length<=100000) (y:zb0 cap=Zd) (x:P (zej cap e0)) (z:∀c,P c->zau cap e0 c=e0) (v:∀c a,P c->a∈ts->∃e j,tgSet (capKeep cap) T (f a) c=Za e/\tc e=Za (j,p a)/\P j/\(p a=Zd->∃l b,te j=Za (l,(g a,b))/\P l)):za7 cap T it tc te en=Za (e0,(.lst ((ts.filter p).map g),Zd)):=by
 have D:(100000:Nat)<=sizeLine:=by decide
 obtain ⟨u,out,n,h⟩:=zc1 (cap:=cap) (T:=T) (tc:=tc) (te:=te) (λi c o=>P c/\o=((ts.take i).filter p).map g) q y (by rw [Ad];omega) ⟨x,rfl⟩
  (λi w c o d h=>by
   obtain⟨h,rfl⟩:=h;rw[Aj] at d;cases ha:ts[i]? with
   |none=>rw[ha] at d;exact noSome d
   | some a =>
    rw[ha] at d;obtain rfl:=sI d;obtain⟨e,j,m,k,s,B⟩:=v c a h (Bh ha);have t:ts.take (i+1)=ts.take i++[a]:=by rw[Ce,ha];rfl
    cases pa:p a with
    | true =>
     obtain⟨l,b,r,A⟩:=B pa;rw[pa] at k;exact⟨e,m,.inl ⟨_,_,_,k,r,A,by rw[t,Cf,Bo,Be pa];rfl⟩⟩
    | false =>
     rw[pa] at k;exact⟨e,m,.inr ⟨_,k,s,by rw[t,Cf,Bf (by rw[pa];decide),Fc,By]⟩⟩)
 obtain⟨h,rfl⟩:=h;rw[z _ h,Ad,Bs] at n;exact n
noncomputable def zqr (Φ:Fn):Prop:=∀(R:List VR) (s:Int),R.length<=100->Φ [.lst (R.map rowW),.int s]=Za ([.lst (R.map rowW),.int s],(.tup ((chA R s).map tmW),Zc))
theorem z43 (Ψ:Str->Fn):zqr (zad [Zc,Zc] 2 (zbj Ψ)):=λR s j=>by
 have g:zca Ψ #v[0,15]=Za (#v[0,15],(.lst ((chA R s).map tmW),Zd)):=by
  unfold zca chA;rw [Cr];refine zty (λc=>∃u b f a,c=[u,b,f,a,Za (.int s,Zc)]) (e0:=#v[0,15]) rowW (tmW ∘ λx=>x.1) (λx=>decide (x.2.1<x.2.2)&&decide (s<(x.1.length:Int))) rfl (by omega) rfl ⟨_,_,_,_,rfl⟩ (λc ⟨_,_,_,_,e⟩=>by rw [e];rfl) λc x h _=>?_;obtain ⟨u,b,f,a,rfl⟩:=h;have k:oLen [tmW x.1]=Za (.int (x.1.length:Nat),Zc):=by
   show Za (W.int ((x.1.map λl:Nat=>W.int (l:Nat)).length:Nat),Zc)=_;rw[Ad]
  have d:decide ((x.2.1:Int)<(x.2.2:Int))=decide (x.2.1<x.2.2):=Es.mpr #v[];have i:(zac x.1).length=x.1.length:=zat x.1;refine⟨[u,#v[tmW x.1,6],#v[(x.2.1:Nat),0],#v[(x.2.2:Nat),0],#v[s,0]],[u,#v[tmW x.1,6],#v[(x.2.1:Nat),0],#v[(x.2.2:Nat),0],#v[s,0]],rfl,?_,⟨_,_,_,_,rfl⟩,λ_=>⟨[u,#v[tmW x.1,6],#v[(x.2.1:Nat),0],#v[(x.2.2:Nat),0],#v[s,0]],Zc,rfl,_,_,_,_,rfl⟩⟩;rw[zki];cases z:decide (x.2.1<x.2.2) with
  | true =>
   have d:=d.trans z;simp! [d,i,Bool.true_and]
  | false =>
   have d:=d.trans z;simp! [d,Ev]
 have o:oTuple [.lst ((chA R s).map tmW)]=#v[((chA R s).map tmW),3]:=rfl;unfold zbj;simp! [g,o]
theorem zzf (t:List Nat)(p:Nat):hasT t p=mono t p:=by
 unfold hasT mono;refine congrArg (λf=>t.all f) (funext λl=>?_);rw[Nat.testBit_eq_decide_div_mod_eq]
theorem zhd (p:Nat):∀a:List (List Nat),valF a p=if par a p then 1 else 0
 |[]=>rfl
 | t::a=>by
  rw[z1v,zhd p a,zzf];show _=if (mono t p ^^ par a p) then 1 else 0;cases mono t p<;>cases par a p<;>rfl
theorem zrm (m:Nat)(ts:List (List Nat)):∃w:Nat,wordOf (tab (2^m) (valF ts))=(w:Int)/\w<2^2^m/\tab (2^m) (valF ts)=tab (2^m) (bitN w)/\∀p,p<2^m->w.testBit p=par ts p:=by
 obtain⟨w,h,e⟩:=zjj _ (z0t m ts);rw[zam] at h e;refine⟨w,by rw[e,zbe _ _ h],h,e,λp b=>?_⟩;have a:(tab (2^m) (valF ts))[p]?=(tab (2^m) (bitN w))[p]?:=by rw[e]
 rw[zcp b,zcp b] at a;have a:=sI a;rw[<-zwd,<-a,zhd];cases par ts p<;>rfl
theorem cnt1 (w:Nat):∀L:List Nat,(L.map (bitN w)).count 1=(L.filter λp=>w.testBit p).length
 |[]=>rfl
 | p::L=>by
  rw[Ax,List.count_cons,cnt1 w L];unfold bitN;cases h:w.testBit p with
  |true=>rw[Be h];rfl
  |false=>rw[Bf (by rw[h];decide)];rfl
theorem cnt0 (w:Nat):∀L:List Nat,(L.map (bitN w)).count 0=L.length-(L.filter λp=>w.testBit p).length
 |[]=>rfl
 | p::L=>by
  have le:=Bt (λp=>w.testBit p) L;rw[Ax,List.count_cons,cnt0 w L];unfold bitN;cases h:w.testBit p with
  | true =>
   rw[Be (p:=λp=>w.testBit p) h,Ay,Ay];show _+0=_;omega
  | false =>
   rw[Bf (p:=λp=>w.testBit p) (by rw[h];decide),Ay];show _+1=_;omega
theorem ybe (m N:Nat)(T:List Nat):((oth m T).filter λp=>(SN T N).testBit p).length=ysN m T N.testBit:=by
 unfold ysN;rw[Cu λp _=>z2s T N p]
theorem z25 {i:Nat}{g:GE}{en:En}{w:W}(h:en[i]?=Za (#v[w,6])):gBor i g en=g en:=by unfold gBor;rw[h];cases w<;>rfl
theorem yb5 {i:Nat}{g:GE}{en e1:En}{ws:List W}{u:W}(h:en[i]?=Za (#v[ws,2]))(b:g (en.set i (#v[ws,1]))=Za (e1,(u,Zc)))(c:e1.length=en.length)(a:zh3 u=Zd):gBor i g en=Za ((List.zipWith borX en e1).set i (#v[ws,2]),(u,Zc)):=by
 unfold gBor;rw[h];show (g _).bind _=_;rw[b];exact if_pos ⟨c,a,rfl⟩
theorem z3c {v0 v1 v2 v3 v4:Option (W×Bool)}(n:List Int)(k:Int):zit 5 (gC (.int k)) [v0,v1,v2,v3,v4,#v[(n.map W.int),3]]=Za ([v0,v1,v2,v3,v4,#v[(n.map W.int),3]],(.int (n.count k:Nat),Zc)):=by
 unfold zit;simp only [List.getElem?_cons_succ,List.getElem?_cons_zero,gC,Dp,zft]
noncomputable def zrl (Φ:Fn):Prop:=∀(m N:Nat) (R:List VR) (T:List Nat) (w:Nat),m<=6->T∈zab m m->R.length<=64->zkn m (chA R T.length)->wordOf (tab (2^m) (valF (chA R T.length)))=(w:Int)->Φ #v[5,19]=Za (#v[5,19],(rowW (T,(oth m T).length-ysN m T (N ^^^ w).testBit,ysN m T (N ^^^ w).testBit),Zc))
theorem z3z {Ψ:Str->Fn}(hX:XorN (Ψ "plus"))(hW:zf1 (Ψ "word_of"))(e:zqr (Ψ "chosen_above"))(i:ztp (Ψ "votes")):zrl (zad [Zc,Zc,Zc,Zc] 6 (zd6 Ψ)):=λm N R T w h hT f g k=>by
 have c:=e R (T.length:Nat) #v[];have j:(chA R (T.length:Nat)).length<=64:=by
  unfold chA;rw[Ad];exact Bj (Bt ..) f
 have d:=hW m (chA R T.length) h j g;rw[k] at d;have x:=hX N w;have v:=i m (N ^^^ w) T h hT;have b:gBor 2 (gCall [Zc,Zc] (Ψ "chosen_above") #v[8,22]) #v[6,17]=Za (#v[6,17],(.tup ((chA R T.length).map tmW),Zc)):=by
  have l:(zac T).length=T.length:=zat T;rw[z25 (w:=.lst (R.map rowW)) rfl,zki];simp! [l,c]
 unfold zd6;generalize gBor 2 (gCall [Zc,Zc] (Ψ "chosen_above") #v[8,22])=G at b ⊢;have a:=z3c (v0:=#v[(m:Nat),0]) (v1:=#v[(N:Nat),0]) (v2:=#v[(R.map rowW),1]) (v3:=#v[tmW T,6]) (v4:=#v[((N ^^^ w:Nat):Int),0]) ((oth m T).map (bitN (SN T (N ^^^ w)))) 0;have n:=z3c (v0:=#v[(m:Nat),0]) (v1:=#v[(N:Nat),0]) (v2:=#v[(R.map rowW),1]) (v3:=#v[tmW T,6]) (v4:=#v[((N ^^^ w:Nat):Int),0]) ((oth m T).map (bitN (SN T (N ^^^ w)))) 1;rw[cnt0,ybe] at a;rw[cnt1,ybe] at n;generalize zit 5 (gC (.int 0))=C at a ⊢;generalize zit 5 (gC (.int 1))=o at n ⊢;refine za3 (en:=[#v[(m:Nat),0],#v[(N:Nat),0],#v[(R.map rowW),1],#v[tmW T,6],#v[((N ^^^ w:Nat):Int),0],#v[(((oth m T).map (bitN (SN T (N ^^^ w)))).map W.int),3]]) rfl (zdm (e1:=[#v[(m:Nat),0],#v[(N:Nat),0],#v[(R.map rowW),1],#v[tmW T,6],#v[((N ^^^ w:Nat):Int),0],Zb]) ?_ (zdm (e1:=[#v[(m:Nat),0],#v[(N:Nat),0],#v[(R.map rowW),1],#v[tmW T,6],#v[((N ^^^ w:Nat):Int),0],#v[(((oth m T).map (bitN (SN T (N ^^^ w)))).map W.int),3]]) ?_ ?_)) rfl
 ·simp! [b,d,x]
 ·simp! [v]
 ·simp! [a,n]
  rfl
noncomputable def votL (m r:Nat):List (List Nat):=(List.range (r+1)).reverse.flatMap λs=>(zab m r).filter λt=>decide (t.length=s)
noncomputable def zua (Φ:Fn):Prop:=∀m r:Nat,1<=m->m<=6->r<=m->Φ [kdW m r]=Za ([kdW m r],(.lst ((votL m r).map tmW),Zd))
noncomputable def teV:GE:=gOp1 oNeg #v[8,8]
noncomputable def vsO (m r:Nat):Option (List W):=(mapO (lamΦ teV) ((zab m r).map tmW)).bind λk=>zee k ((zab m r).map tmW)
theorem vs_0:((List.range 7).map λr=>vsO 0 r)=(List.range 7).map λr=>Za ((votL 0 r).map tmW):=by kernel_rfl
theorem vs_1:((List.range 7).map λr=>vsO 1 r)=(List.range 7).map λr=>Za ((votL 1 r).map tmW):=by kernel_rfl
theorem vs_2:((List.range 7).map λr=>vsO 2 r)=(List.range 7).map λr=>Za ((votL 2 r).map tmW):=by kernel_rfl
theorem vs_3:((List.range 7).map λr=>vsO 3 r)=(List.range 7).map λr=>Za ((votL 3 r).map tmW):=by kernel_rfl
theorem vs_4:((List.range 7).map λr=>vsO 4 r)=(List.range 7).map λr=>Za ((votL 4 r).map tmW):=by kernel_rfl
theorem vs_5:((List.range 7).map λr=>vsO 5 r)=(List.range 7).map λr=>Za ((votL 5 r).map tmW):=by kernel_rfl
theorem vs_6:((List.range 7).map λr=>vsO 6 r)=(List.range 7).map λr=>Za ((votL 6 r).map tmW):=by kernel_rfl
theorem ydw {m r:Nat}(b:m<=6)(c:r<=m):vsO m r=Za ((votL m r).map tmW):=by
 have a:=Bk.mpr (show r<7 by omega)
 match m,b with
 |0,_=>exact Ek.mp vs_0 r a
 |1,_=>exact Ek.mp vs_1 r a
 |2,_=>exact Ek.mp vs_2 r a
 |3,_=>exact Ek.mp vs_3 r a
 |4,_=>exact Ek.mp vs_4 r a
 |5,_=>exact Ek.mp vs_5 r a
 |6,_=>exact Ek.mp vs_6 r a
 |m+7,h=>omega
theorem zyn {Ψ:Str->Fn}(hT:zvi (Ψ "terms")):zua (zad [Zc] 1 (zb2 Ψ)):=λm r d h b=>by
 have e:=hT m r d h b;have v:=ydw h b;obtain⟨k,f,c⟩:=bS v;have s:zg3 seqW zee teV #v[9,9] [#v[kdW m r,6]]=Za ([#v[kdW m r,6]],(.lst ((votL m r).map tmW),Zd)):=by
  have a:#v[9,9] [#v[kdW m r,6]]=Za ([#v[kdW m r,6]],.inl (.tup ((zab m r).map tmW))):=by simp! [e]
  unfold zg3;rw[a];show (mapO (lamΦ teV) ((zab m r).map tmW)).bind _=_;rw[f];show (zee k ((zab m r).map tmW)).bind _=_;rw[c]
  rfl
 unfold zb2;show zad [Zc] 1 (gRet (zg3 seqW zee teV #v[9,9])) [kdW m r]=_;generalize zg3 seqW zee teV #v[9,9]=G at s ⊢;simp! [s]
theorem zet {L M:List (List Nat)} (h:L.Perm M) (p:Nat):par L p=par M p:=by
 induction h with
 |nil=>rfl
 |cons x _ i=>show (mono x p ^^ par _ p)=(mono x p ^^ par _ p);rw[i]
 | swap x y l =>
  show (mono y p ^^ (mono x p ^^ par l p))=(mono x p ^^ (mono y p ^^ par l p));cases mono x p<;>cases mono y p<;>cases par l p<;>rfl
 |trans _ _ a b=>exact a.trans b
theorem zmq (q:List Nat->Bool) (p:Nat):∀a:List (List Nat),par a p=(par (a.filter q) p ^^ par (a.filter λt=>!q t) p)
 |[]=>rfl
 | t::a=>by
  show (mono t p ^^ par a p)=_;rw[zmq q p a];cases h:q t with
  | true =>
   rw[Be h,Bf (by rw[h];decide)];show _=((mono t p ^^ par (a.filter q) p) ^^ _);rw[Bool.xor_assoc]
  | false =>
   rw[Bf (by rw[h];decide),Be (by rw[h];rfl)];show _=(_ ^^ (mono t p ^^ par (a.filter λt=>!q t) p));cases mono t p<;>cases par (a.filter q) p<;>cases par (a.filter λt=>!q t) p<;>rfl
noncomputable def vlB (m r:Nat):Bool:=decide (votL m r).Nodup&&((votL m r).all (λt=>(zab m r).contains t&&(zab m m).contains t&&decide (t.length<=r))&&((zab m r).all (λt=>(votL m r).contains t)&&(decide ((votL m r).length<=64)&&decide ((votL m r).Pairwise λa b=>b.length<=a.length))))
theorem z4i:∀m r:Fin 7,r.val<=m.val->vlB m.val r.val=Zd:=by decide +kernel
structure Vl (m r:Nat):Prop where
 nd:(votL m r).Nodup
 mem:∀t∈votL m r,t∈zab m r/\t∈zab m m/\t.length<=r
 all:∀t∈zab m r,t∈votL m r
 ln:(votL m r).length<=64
 dsc:(votL m r).Pairwise λa b=>b.length<=a.length
theorem zfr {m r:Nat}(k:m<=6)(j:r<=m):Vl m r:=by
 have h:=z4i ⟨m,by omega⟩ ⟨r,by omega⟩ j;have h:(decide (votL m r).Nodup&&((votL m r).all (λt=>(zab m r).contains t&&(zab m m).contains t&&decide (t.length<=r))&&((zab m r).all (λt=>(votL m r).contains t)&&(decide ((votL m r).length<=64)&&decide ((votL m r).Pairwise λa b=>b.length<=a.length)))))=Zd:=h;rw[Ab,Ab,Ab,Ab] at h;obtain⟨e,d,i,f,g⟩:=h;refine⟨Ai e,λt c=>?_,λt c=>Cn.mp (Aw.mp i t c),Ai f,Ai g⟩;have:=Aw.mp d t c;rw[Ab,Ab] at this;exact⟨Cn.mp this.1.1,Cn.mp this.1.2,Ai this.2⟩
structure Hrd (m r:Nat) (ts:List (List Nat)) (N:Nat):Prop where
 m1:1<=m
 m6:m<=6
 rm:r<=m
 nd:ts.Nodup
 tm:∀t∈ts,t∈zab m r
 few:2*cntR (2^m) (λp=>N.testBit p ^^ par ts p)<2^(m-r)
noncomputable def hiT (ts:List (List Nat)) (s:Nat):List (List Nat):=ts.filter λt=>decide (s<t.length)
noncomputable def lfF (ts:List (List Nat)) (N s p:Nat):Bool:=N.testBit p ^^ par (hiT ts s) p
noncomputable def ysT (m:Nat) (ts:List (List Nat)) (N:Nat) (T:List Nat):Nat:=ysN m T (lfF ts N T.length)
noncomputable def rowD (m:Nat) (ts:List (List Nat)) (N:Nat) (T:List Nat):VR:=(T,2^(m-T.length)-ysT m ts N T,ysT m ts N T)
theorem z99 {m:Nat}{T:List Nat}{f:Nat->Bool}(h:ChT m T):ysN m T f<=2^(m-T.length):=by
 unfold ysN;rw[<-h.ln];exact Bt ..
theorem zuu {m r N:Nat}{ts:List (List Nat)}{T:List Nat}(H:Hrd m r ts N)(hT:T∈zab m m)(i:T.length<=r):if T∈ts then 2^(m-T.length)<2*ysT m ts N T else 2*ysT m ts N T<2^(m-T.length):=by
 have V:=zfr H.m6 H.rm;have h:=reed (m:=m) (r:=r) (T:=T) (ts:=ts.filter λt=>!decide (T.length<t.length)) (F:=λp=>N.testBit p ^^ par ts p) (f:=lfF ts N T.length) (ch_t H.m6 hT) i (H.nd.filter _) (λt b=>by
  obtain⟨g,d⟩:=Bl.mp b;have a:=(V.mem t (V.all t (H.tm t g))).2.1;refine⟨a,(zvp ⟨m,by have:=H.m6;omega⟩ t a).2.1,?_⟩;rw[Em,decide_eq_false_iff_not] at d;omega) H.few λq _=>by
   unfold lfF hiT;rw[zmq (λt=>decide (T.length<t.length)) q ts];cases N.testBit q<;>cases par (ts.filter λt=>decide (T.length<t.length)) q<;>cases par (ts.filter λt=>!decide (T.length<t.length)) q<;>rfl
 have e:(T∈ts.filter λt=>!decide (T.length<t.length))↔T∈ts:=by
  rw[Bl];exact⟨λz=>z.1,λz=>⟨z,by rw[Ao (Bx _)];rfl⟩⟩
 by_cases c:T∈ts
 ·rw[if_pos (e.mpr c)] at h;rw[if_pos c];exact h
 ·rw[if_neg λz=>c (e.mp z)] at h;rw[if_neg c];exact h
theorem zwu {m r N:Nat}{ts:List (List Nat)}{T:List Nat}(H:Hrd m r ts N)(hT:T∈votL m r):decide ((rowD m ts N T).2.1<(rowD m ts N T).2.2)=decide (T∈ts)/\(rowD m ts N T).2.1≠(rowD m ts N T).2.2:=by
 have V:=zfr H.m6 H.rm;obtain⟨_,t,a⟩:=V.mem T hT;have h:=zuu H t a;have l:=z99 (f:=lfF ts N T.length) (ch_t H.m6 t);have l:ysT m ts N T<=2^(m-T.length):=l;show decide (2^(m-T.length)-ysT m ts N T<ysT m ts N T)=_/\2^(m-T.length)-ysT m ts N T≠ysT m ts N T;by_cases c:T∈ts
 ·rw[if_pos c] at h;exact⟨by rw[Ah c];exact Ah #v[],by omega⟩
 ·rw[if_neg c] at h;exact⟨by rw[Ao c];exact Ao #v[],by omega⟩
theorem ch_D {m r N:Nat}{ts:List (List Nat)} (H:Hrd m r ts N) (s:Int):∀L:List (List Nat),(∀T∈L,T∈votL m r)->chA (L.map (rowD m ts N)) s=L.filter λT=>decide (T∈ts)&&decide (s<(T.length:Int))
 |[],_=>rfl
 | T::L,h=>by
  have i:=ch_D H s L λU a=>h U (An _ a);have y:=(zwu H (h T Av)).1;unfold chA at i ⊢;rw[Ax];cases c:(decide (T∈ts)&&decide (s<(T.length:Int))) with
  | true =>
   rw[Be (p:=λU=>decide (U∈ts)&&decide (s<(U.length:Int))) c,Be (p:=λx:VR=>decide (x.2.1<x.2.2)&&decide (s<(x.1.length:Int))) (by rw[y];exact c),Ax,i]
   rfl
  | false =>
   rw[Bf (p:=λU=>decide (U∈ts)&&decide (s<(U.length:Int))) (by rw[c];decide),Bf (p:=λx:VR=>decide (x.2.1<x.2.2)&&decide (s<(x.1.length:Int))) (by rw[y];rw[show (rowD m ts N T).1=T from rfl,c];decide),i]
theorem z8a {m r N i:Nat}{ts:List (List Nat)}{T:List Nat}(H:Hrd m r ts N)(hT:(votL m r)[i]?=Za T):(chA (((votL m r).take i).map (rowD m ts N)) T.length).Perm (hiT ts T.length):=by
 have V:=zfr H.m6 H.rm;rw[ch_D H T.length _ λU d=>List.mem_of_mem_take d];refine (Ea ((V.nd.sublist (Ej ..)).filter _) (H.nd.filter _)).mpr λU=>?_;have l:=(Af.mp hT).1;rw[Bl,Bl,Ab,Br,Br,Br];constructor
 ·rintro ⟨_,h,a⟩;exact⟨h,by omega⟩
 ·rintro ⟨h,a⟩;refine ⟨?_,h,by omega⟩;obtain ⟨j,b,e⟩:=De.mp (V.all U (H.tm U h));have f:j<i:=by
   refine Decidable.not_not.mp λz=>?_;rcases Nat.lt_or_ge i j with c|c
   ·have:=Ef.mp V.dsc i j l b c;rw[e,(Af.mp hT).2] at this;omega
   ·have:i=j:=by omega
    subst this;rw[(Af.mp hT).2] at e;subst e;omega
  exact De.mpr ⟨j,by rw[Cj];omega,by rw[List.getElem_take];exact e⟩
theorem yca {m r N:Nat}{ts:List (List Nat)}(H:Hrd m r ts N):(chA ((votL m r).map (rowD m ts N)) (-1)).Perm ts:=by
 have V:=zfr H.m6 H.rm;rw[ch_D H (-1) _ λU a=>a];refine (Ea (V.nd.filter _) H.nd).mpr λU=>?_;rw[Bl,Ab,Br,Br];exact⟨λh=>h.2.1,λh=>⟨V.all U (H.tm U h),h,by omega⟩⟩
theorem z1b {L M:List (List Nat)}(h:L.Perm M)(m:Nat):tab (2^m) (valF L)=tab (2^m) (valF M):=tab_ext λp _=>by rw[zhd,zhd,zet h]
theorem zme:∀t:List Nat,zic (t.map λl:Nat=>W.int (l:Nat))=Zd
 |[]=>rfl
 |_::t=>zme t
theorem z03 (x:VR):zh3 (rowW x)=Zd:=by
 show (zic (x.1.map λl:Nat=>W.int (l:Nat))&&Zd)=Zd;rw[zme];rfl
theorem z4w {m r N i:Nat}{ts:List (List Nat)}{T:List Nat}{Φ:Fn}(f:zrl Φ)(H:Hrd m r ts N)(hT:(votL m r)[i]?=Za T):Φ #v[5,15]=Za (#v[5,15],(rowW (rowD m ts N T),Zc)):=by
 have V:=zfr H.m6 H.rm;obtain⟨_,a,_⟩:=V.mem T (Bh hT);have C:=ch_t H.m6 a;have p:=z8a H hT;obtain⟨w,b,g,_,d⟩:=zrm m (chA (((votL m r).take i).map (rowD m ts N)) T.length);have v:=f m N (((votL m r).take i).map (rowD m ts N)) T w H.m6 a (by rw[Ad,Cj];have:=V.ln;omega) ⟨p.nodup_iff.mpr (H.nd.filter _),λt h=>by
  have:=(Bl.mp (p.mem_iff.mp h)).1;exact (V.mem t (V.all t (H.tm t this))).2.1⟩ b
 have e:ysN m T (N ^^^ w).testBit=ysT m ts N T:=by
  unfold ysT;refine z3q C λq c=>?_;rw[Eg,d q c,zet p]
  rfl
 rw[e,C.ln] at v;exact v
noncomputable def z9v (Φ:Fn):Prop:=∀m r w h:Nat,1<=m->m<=6->r<=m->w<2^2^m->h<2^2^m->Φ [kdW m r,.int (w:Nat),.int (h:Nat)]=Za ([kdW m r,.int (w:Nat),.int (h:Nat)],(.bl (decide (2*cntR (2^m) (w ^^^ h).testBit<2^(m-r))),Zc))
noncomputable def zt0 (Φ:Fn):Prop:=∀m t:Nat,m<=6->t<=m->Φ [kdW m t]=Za ([kdW m t],(.int ((2^(m-t):Nat):Int),Zc))
theorem z1r (Ψ:Str->Fn):zt0 (zad [Zc] 3 (zj1 Ψ)):=λm t a h=>by
 have e:((m:Nat):Int)-(t:Nat)=((m-t:Nat):Int):=by omega
 have p:=pow1 (l:=m-t) #v[];unfold zj1 kdW;refine za3 (en:=#v[6,18]) rfl (za4 (e1:=#v[6,18]) ?_ ?_) rfl
 ·simp! []
 ·simp! [e,p,za0]
theorem zrd (w:Nat):∀n,(tab n (bitN w)).sum=(cntR n w.testBit:Int)
 |0=>rfl
 | n+1=>by
  rw[zi1,List.sum_append,zrd w n];unfold cntR;rw[Gr,Cf,Bb];unfold bitN;cases h:w.testBit n with
  |true=>rw[Be h];show _+(1+0)=_;rw[Fc,Gi];omega
  |false=>rw[Bf (by rw[h];decide)];show _+(0+0)=_;rw[Fc,Fy];omega
noncomputable def UnlN (Φ:Fn):Prop:=∀m w h:Nat,m<=6->w<2^2^m->h<2^2^m->Φ [.int (w:Nat),.int (h:Nat)]=Za ([.int (w:Nat),.int (h:Nat)],(.int (cntR (2^m) (w ^^^ h).testBit:Nat),Zc))
theorem ydv {Ψ:Str->Fn}(hW:zp9 (Ψ "weight"))(hX:XorN (Ψ "plus")):UnlN (zad [Zc,Zc] 2 (zga Ψ)):=λm w h a c b=>by
 have p:=zdl a;have x:=hX w h;have q:=hW (tab (2^m) (bitN (w ^^^ h))) (za2 λi _=>zf3 _ i) (by rw[zam];omega);rw[zbe _ _ (Nat.xor_lt_two_pow c b),zrd] at q;unfold zga;simp! [x,q]
theorem yaq {Ψ:Str->Fn}(d:UnlN (Ψ "unlike"))(c:zt0 (Ψ "least")):z9v (zad [Zc,Zc,Zc] 3 (zep Ψ)):=λm r w h i a e g b=>by
 have u:=d m w h a g b;have l:=c m r a e;have f:decide ((2:Int)*(cntR (2^m) (w ^^^ h).testBit:Nat)<((2^(m-r):Nat):Int))=decide (2*cntR (2^m) (w ^^^ h).testBit<2^(m-r)):=Es.mpr #v[];unfold zep;simp! [u,l,mul2,f]
noncomputable def zs9 (Φ:Fn):Prop:=∀(m:Nat) (R:List VR) (w:Nat),m<=6->R.length<=64->zkn m (chA R (-1))->wordOf (tab (2^m) (valF (chA R (-1))))=(w:Int)->Φ [.int (m:Nat),.lst (R.map rowW)]=Za ([.int (m:Nat),.lst (R.map rowW)],(.int (w:Nat),Zc))
theorem z0c {Ψ:Str->Fn}(hW:zf1 (Ψ "word_of"))(d:zqr (Ψ "chosen_above")):zs9 (zad [Zc,Zc] 2 (zba Ψ)):=λm R w h e f g=>by
 have c:=d R (-1) #v[];have l:(chA R (-1)).length<=64:=by
  unfold chA;rw[Ad];exact Bj (Bt ..) e
 have a:=hW m (chA R (-1)) h l f;rw[g] at a;have b:gBor 1 (gCall [Zc,Zc] (Ψ "chosen_above") #v[9,22]) [#v[(m:Nat),0],#v[(R.map rowW),1]]=Za ([#v[(m:Nat),0],#v[(R.map rowW),1]],(.tup ((chA R (-1)).map tmW),Zc)):=by
  rw[z25 (w:=.lst (R.map rowW)) rfl];simp! [c]
 unfold zba;generalize gBor 1 (gCall [Zc,Zc] (Ψ "chosen_above") #v[9,22])=G at b ⊢;simp! [b,a]
theorem z5t {Ψ:Str->Fn}(d:zrl (Ψ "vote_row")){m r N i:Nat}{ts:List (List Nat)}{T:List Nat}{v5:Option (W×Bool)}(f:v5=Zb\/∃w,v5=#v[w,6])(H:Hrd m r ts N)(hT:(votL m r)[i]?=Za T):zjm Ψ [#v[kdW m r,6],#v[(N:Nat),0],#v[(m:Nat),0],#v[((((votL m r).take i).map (rowD m ts N)).map rowW),2],#v[tmW T,6],v5,Zb]=Za ([#v[kdW m r,6],#v[(N:Nat),0],#v[(m:Nat),0],#v[((((votL m r).take (i+1)).map (rowD m ts N)).map rowW),2],#v[tmW T,6],#v[rowW (rowD m ts N T),6],Zb],.nx):=by
 have V:=zfr H.m6 H.rm;have a:=z4w d H hT;have ne:=(zwu H (Bh hT)).2;have t:(votL m r).take (i+1)=(votL m r).take i++[T]:=by rw[Ce,hT];rfl
 have l:((votL m r).take i).length<=64:=by rw[Cj];have:=V.ln;omega
 rw[t,Bo,Bo];generalize h:(((votL m r).take i).map (rowD m ts N)).map rowW=R at a ⊢;have k:R.length<=64:=by rw[<-h,Ad,Ad];exact l
 have b:gBor 3 (gCall [Zc,Zc,Zc,Zc] (Ψ "vote_row") #v[8,10]) #v[1,12]=Za (#v[1,12],(rowW (rowD m ts N T),Zc)):=by
  refine (yb5 (i:=3) (g:=gCall [Zc,Zc,Zc,Zc] (Ψ "vote_row") #v[8,10]) (en:=#v[1,12]) (ws:=R) (e1:=[#v[kdW m r,6],#v[(N:Nat),0],#v[(m:Nat),0],#v[R,1],#v[tmW T,6],v5,Zb]) (u:=rowW (rowD m ts N T)) rfl ?_ rfl (z03 _)).trans ?_
  ·show gCall _ _ _ [Za (kdW m r,Zc),Za (.int (N:Nat),Zc),Za (.int (m:Nat),Zc),Za (.lst R,Zc),Za (tmW T,Zc),v5,Zb]=_;simp! [a]
  ·rcases f with rfl|⟨w,rfl⟩<;>rfl
 have x:atI [tmW (rowD m ts N T).1,W.int ((rowD m ts N T).2.1:Nat),W.int ((rowD m ts N T).2.2:Nat)] 1=Za (.int ((rowD m ts N T).2.1:Nat)):=rfl;have e:atI [tmW (rowD m ts N T).1,W.int ((rowD m ts N T).2.1:Nat),W.int ((rowD m ts N T).2.2:Nat)] 2=Za (.int ((rowD m ts N T).2.2:Nat)):=rfl;have j:decide (((rowD m ts N T).2.1:Int)=((rowD m ts N T).2.2:Int))=Zc:=Ao #v[];have lt:(R.length<16777216)=True:=eq_true #v[];unfold zjm;generalize gBor 3 (gCall [Zc,Zc,Zc,Zc] (Ψ "vote_row") #v[8,10])=G at b ⊢;generalize c:rowD m ts N T=z at *
 refine za4 (e1:=[#v[kdW m r,6],#v[(N:Nat),0],#v[(m:Nat),0],#v[R,2],#v[tmW T,6],#v[rowW z,6],Zb]) (zed b rfl) ?_;rw[Ax,List.map_nil,Ax,List.map_nil,c];unfold rowW;simp! [x,e,j,lt]
noncomputable def z3p (Φ:Fn):Prop:=∀(m r N w:Nat) (t:List (List Nat)),Hrd m r t N->N<2^2^m->wordOf (tab (2^m) (valF t))=(w:Int)->Φ [kdW m r,.int (N:Nat)]=Za ([kdW m r,.int (N:Nat)],(.tup [.int (w:Nat),.tup (((votL m r).map (rowD m t N)).map rowW)],Zc))
theorem z79 {Ψ:Str->Fn}(hT:zua (Ψ "voted_terms"))(A:zrl (Ψ "vote_row"))(x:zs9 (Ψ "word_by_votes"))(K:z9v (Ψ "is_near")):z3p (zad [Zc,Zc] 7 (zqh Ψ)):=λm r N w a H f o=>by
 have V:=zfr H.m6 H.rm;have y:=hT m r H.m1 H.m6 H.rm;have P:=zdl H.m6;have l:∃v4 v5,znq Ψ #v[1,10]=Za ([#v[kdW m r,6],#v[(N:Nat),0],#v[(m:Nat),0],#v[(((votL m r).map (rowD m a N)).map rowW),2],v4,v5,Zb],.nx)/\(v4=Zb\/∃w,v4=#v[w,6])/\(v5=Zb\/∃w,v5=#v[w,6]):=by
  unfold znq;obtain⟨z,h,v4,v5,rfl,d,c⟩:=zaz (mp:=[]) (T:=.nm 4) (body:=zjm Ψ) (it:=zap (gCall [Zc] (Ψ "voted_terms") #v[1,19])) (ws:=(votL m r).map tmW) (en:=#v[1,10]) (e0:=#v[1,10]) (λi e=>∃v4 v5,e=[#v[kdW m r,6],#v[(N:Nat),0],#v[(m:Nat),0],#v[((((votL m r).take i).map (rowD m a N)).map rowW),2],v4,v5,Zb]/\(v4=Zb\/∃w,v4=#v[w,6])/\(v5=Zb\/∃w,v5=#v[w,6])) (by simp! [y]) ⟨_,_,rfl,.inl rfl,.inl rfl⟩ λi w e q k=>by
   obtain⟨v4,v5,rfl,d,c⟩:=k;rw[Aj] at q;obtain⟨T,hT,rfl⟩:=Du.mp q;exact⟨_,_,rfl,.inl (z5t A c H hT),_,_,rfl,.inr ⟨_,rfl⟩,.inr ⟨_,rfl⟩⟩
  rw[Ad,Bs] at h;exact⟨_,_,h,d,c⟩
 obtain⟨v4,v5,l,d,c⟩:=l;have j:=yca H;have M:wordOf (tab (2^m) (valF (chA ((votL m r).map (rowD m a N)) (-1))))=(w:Int):=by rw[z1b j,o]
 have F:=x m ((votL m r).map (rowD m a N)) w H.m6 (by rw[Ad];exact V.ln) ⟨j.nodup_iff.mpr H.nd,λt C=>(V.mem t (V.all t (H.tm t (j.mem_iff.mp C)))).2.1⟩ M;obtain⟨B,s,J,_,L⟩:=zrm m a;rw[o] at s;obtain rfl:w=B:=Int.ofNat.inj s;have n:=K m r w N H.m1 H.m6 H.rm J f;have D:cntR (2^m) (w ^^^ N).testBit=cntR (2^m) λp=>N.testBit p ^^ par a p:=by
  unfold cntR;rw[Cu λp k=>?_];rw[Eg,L p (Bk.mp k),Bool.xor_comm]
 rw[D,Ah H.few] at n;have I:atI [W.int (m:Nat),W.int (r:Nat)] 0=Za (.int (m:Nat)):=rfl;generalize O:((votL m r).map (rowD m a N)).map rowW=R at *
 have b:gBor 3 (gCall [Zc,Zc] (Ψ "word_by_votes") #v[1,16]) #v[2,13]=Za (#v[2,13],(.int (w:Nat),Zc)):=by
  refine (yb5 (i:=3) (g:=gCall [Zc,Zc] (Ψ "word_by_votes") #v[1,16]) (en:=#v[2,13]) (ws:=R) (e1:=[#v[kdW m r,6],#v[(N:Nat),0],#v[(m:Nat),0],#v[R,1],v4,v5,Zb]) (u:=.int (w:Nat)) rfl ?_ rfl rfl).trans ?_
  ·show gCall _ _ _ [Za (kdW m r,Zc),Za (.int (N:Nat),Zc),Za (.int (m:Nat),Zc),Za (.lst R,Zc),v4,v5,Zb]=_;simp! [F]
  ·rcases d with rfl|⟨w,rfl⟩<;>rcases c with rfl|⟨w,rfl⟩<;>rfl
 have E:oTuple [.lst R]=#v[R,3]:=rfl;unfold zqh;generalize gBor 3 (gCall [Zc,Zc] (Ψ "word_by_votes") #v[1,16])=G at b ⊢;refine za3 (en:=#v[0,12]) rfl (za4 (e1:=[#v[kdW m r,6],#v[(N:Nat),0],#v[(m:Nat),0],Zb,Zb,Zb,Zb]) ?_ (za4 (e1:=#v[1,10]) ?_ (za4 l (za4 (e1:=#v[0,12]) (zed b rfl) (za4 (e1:=#v[0,12]) ?_ ?_))))) rfl
 ·unfold kdW;simp! [I]
 ·simp! []
 ·simp! [n]
 ·simp! [E]
theorem ztw {α:Type}{cap:Cap}{T:Tg}{it:GL}{te:GE}{en e0:En}{ts:List α} (P:En->Prop) (f g:α->W) (m:it en=Za (e0,ts.map f)) (v:ts.length<=100000) (u:zb0 cap=Zd) (r:P (zej cap e0)) (q:∀c a,P c->a∈ts->∃e j b,tgSet (capKeep cap) T (f a) c=Za e/\te e=Za (j,(g a,b))/\P j):∃c,P c/\za7 cap T it gYes te en=Za (zau cap e0 c,(.lst (ts.map g),Zd)):=by
 have x:(100000:Nat)<=sizeLine:=by decide
 obtain ⟨p,out,k,h⟩:=zc1 (cap:=cap) (T:=T) (tc:=gYes) (te:=te) (λi c l=>P c/\l=(ts.take i).map g) m u (by rw [Ad];omega) ⟨r,rfl⟩
  (λi w c l d h=>by
   obtain⟨h,rfl⟩:=h;rw[Aj] at d;cases ha:ts[i]? with
   |none=>rw[ha] at d;exact noSome d
   | some a =>
    rw[ha] at d;obtain rfl:=sI d;obtain⟨e,j,b,o,s,n⟩:=q c a h (Bh ha);have t:ts.take (i+1)=ts.take i++[a]:=by rw[Ce,ha];rfl
    exact⟨e,o,.inl ⟨_,_,_,rfl,s,n,by rw[t,Bo];rfl⟩⟩)
 obtain⟨h,rfl⟩:=h;rw[Ad,Bs] at k;exact⟨_,h,k⟩
theorem zfz {α:Type}{cap:Cap}{T:Tg}{it:GL}{te:GE}{en e0:En}{ts:List α} (P:En->Prop) (f g:α->W) (m:it en=Za (e0,ts.map f)) (x:ts.length<=100000) (u:zb0 cap=Zd) (r:P (zej cap e0)) (v:∀c,P c->zau cap e0 c=e0) (q:∀c a,P c->a∈ts->∃e j b,tgSet (capKeep cap) T (f a) c=Za e/\te e=Za (j,(g a,b))/\P j):za7 cap T it gYes te en=Za (e0,(.lst (ts.map g),Zd)):=by
 have y:(100000:Nat)<=sizeLine:=by decide
 obtain ⟨p,out,k,h⟩:=zc1 (cap:=cap) (T:=T) (tc:=gYes) (te:=te) (λi c l=>P c/\l=(ts.take i).map g) m u (by rw [Ad];omega) ⟨r,rfl⟩
  (λi w c l d h=>by
   obtain⟨h,rfl⟩:=h;rw[Aj] at d;cases ha:ts[i]? with
   |none=>rw[ha] at d;exact noSome d
   | some a =>
    rw[ha] at d;obtain rfl:=sI d;obtain⟨e,j,b,o,s,n⟩:=q c a h (Bh ha);have t:ts.take (i+1)=ts.take i++[a]:=by rw[Ce,ha];rfl
    exact⟨e,o,.inl ⟨_,_,_,rfl,s,n,by rw[t,Bo];rfl⟩⟩)
 obtain⟨h,rfl⟩:=h;rw[v _ h,Ad,Bs] at k;exact k
noncomputable def bI (f:Nat->Bool) (p:Nat):Int:=if f p then 1 else 0
noncomputable def zxc (Φ:Fn):Prop:=∀(T:List Nat) (x:W),(x=.tup (zac T)\/x=.lst (zac T))->T.length<=6->(∀l∈T,l<6)->Φ [x]=Za ([x],(.lst (zac (al T)),Zd))
theorem z40 (T:List Nat)(l:Nat):al (T++[l])=al T++(al T).map (· + 2^l):=by
 unfold al;rw[Hk];rfl
theorem z23:∀T:List Nat,(al T).length=2^T.length:=λT=>by
 have g:∀(T L:List Nat),(T.foldl (λL l=>L++L.map (· + 2^l)) L).length=L.length*2^T.length:=λT=>by
  induction T with
  |nil=>intro L;rw[Fy,Nat.pow_zero,Nat.mul_one];rfl
  | cons l T i =>
   intro L;rw[List.foldl_cons,i,Bb,Ad,Ay,Nat.pow_succ,<-Nat.two_mul,Nat.mul_comm 2,Nat.mul_assoc,Nat.mul_comm 2]
 unfold al;rw[g,Gi,Nat.one_mul]
theorem zza {Ψ:Str->Fn}{L:List Nat}{l:Nat}{b:Bool}{v0:Option (W×Bool)}(i:l<6)(g:L.length<=64):zc9 Ψ [v0,Za (.lst (zac L),b),#v[(l:Nat),0]]=Za ([v0,#v[(zac L),1],#v[(l:Nat),0]],(.lst (zac (L.map (· + 2^l))),Zd)):=by
 have d:=pow1 (l:=l) #v[];unfold zc9 zac;rw[Cr];refine zfz (λc=>∃u a,c=[u,a,#v[(l:Nat),0]]) (e0:=[v0,#v[(L.map λp:Nat=>W.int p),1],#v[(l:Nat),0]]) (ts:=L) (λq:Nat=>W.int (q:Nat)) ((λp:Nat=>W.int p) ∘ λx=>x+2^l) (by cases b<;>rfl) #v[] rfl ⟨_,_,rfl⟩ (λc ⟨_,_,e⟩=>by rw[e];rfl) λc q h _=>?_;obtain⟨u,a,rfl⟩:=h;have f:(q:Int)+((2^l:Nat):Int)=((q+2^l:Nat):Int):=by omega
 refine⟨[u,#v[(q:Nat),0],#v[(l:Nat),0]],[u,#v[(q:Nat),0],#v[(l:Nat),0]],Zc,rfl,?_,_,_,rfl⟩;show _=Za ([u,#v[(q:Nat),0],#v[(l:Nat),0]],(W.int ((q+2^l:Nat):Int),Zc));simp! [d,za0,f]
theorem z0l (Ψ:Str->Fn):zxc (zad [Zc] 3 (zcc Ψ)):=λT x m hT o=>by
 have k:sizeLine=16777216:=Hd;have d:∃a,zcy Ψ #v[5,17]=Za ([#v[x,6],#v[(zac (al T)),2],a],.nx):=by
  unfold zcy;obtain⟨n,h,a,rfl⟩:=zaz (mp:=[]) (T:=.nm 2) (body:=zcz Ψ) (it:=zap (gVar 0)) (ws:=zac T) (en:=#v[5,17]) (e0:=#v[5,17]) (λi e=>∃a,e=[#v[x,6],#v[(zac (al (T.take i))),2],a]) (by rcases m with rfl|rfl<;>rfl) ⟨_,rfl⟩ λi w e g q=>by
   obtain⟨a,rfl⟩:=q;unfold zac at g;rw[Aj] at g;obtain⟨l,j,rfl⟩:=Du.mp g;have t:T.take (i+1)=T.take i++[l]:=by rw[Ce,j];rfl
   have f:(al (T.take i)).length<=64:=by
    rw[z23,Cj];show _<=2^6;exact Dd #v[0,9] #v[]
   have c:=zza (Ψ:=Ψ) (b:=Zd) (v0:=#v[x,6]) (o l (Bh j)) f;have p:oAdd (.lst (zac (al (T.take i)))) (.lst (zac ((al (T.take i)).map (· + 2^l))))=#v[(zac (al (T.take (i+1)))),2]:=by
    rw[t,z40,show zac (al (T.take i)++(al (T.take i)).map (· + 2^l))=zac (al (T.take i))++zac ((al (T.take i)).map (· + 2^l)) from Bo];exact znl (by rw[zat,zat,Ad];omega)
   refine⟨_,[#v[x,6],#v[(zac (al (T.take (i+1)))),2],#v[(l:Nat),0]],rfl,.inl ?_,_,rfl⟩;unfold zcz;generalize zac (al (T.take (i+1)))=A at *
   simp! [c,p]
  rw[zat,Bs] at h;exact⟨_,h⟩
 obtain⟨a,d⟩:=d;unfold zcc;refine za3 (en:=[#v[x,6],Zb,a]) rfl (za4 (e1:=#v[5,17]) ?_ (za4 d ?_)) rfl
 ·simp! []
 ·simp! []
theorem zyp (n:Bool) (l:Nat) (T:List Nat):oIn n (.int (l:Nat)) (tmW T)=Za (.bl (if n then !T.contains l else T.contains l),Zc):=by
 have a:∀T:List Nat,(T.map λl:Nat=>W.int (l:Nat)).all zgr=Zd:=λT=>by
  induction T with
  |nil=>rfl
  |cons x T i=>rw[Ax,Cg,i];rfl
 have b:∀T:List Nat,((T.map λl:Nat=>W.int (l:Nat)).any λy=>eqF y (.int (l:Nat)))=T.contains l:=λT=>by
  induction T with
  |nil=>rfl
  | cons x T i =>
   rw[Ax,Ff,i,List.contains_cons];congr 1;show decide ((x:Int)=(l:Int))=(l==x);by_cases c:l=x
   ·subst c;rw[Ah rfl,beq_self_eq_true]
   ·rw[Ao #v[]];exact (Fu.mpr c).symm
 show (if zgr (.int (l:Nat))&&(T.map λl:Nat=>W.int (l:Nat)).all zgr then _ else Zb)=_;rw[a T,b T];rfl
theorem zor {n w:Nat}{f:Nat->Int}(h:w<n):atI ((tab n f).map W.int) (w:Int)=Za (.int (f w)):=zbz (by rw[Aj,zcp h];rfl)
noncomputable def VotL (Φ:Fn):Prop:=∀(m:Nat) (f:Nat->Bool) (T:List Nat),m<=6->T∈zab m m->Φ #v[2,19]=Za (#v[2,19],(.lst (((oth m T).map (bI (DT T f))).map W.int),Zd))
theorem z5j (L:List Nat) (f:Nat->Bool) (p:Nat):(L.map λq=>bI f (p+q)).sum%2=if odS L f p then 1 else 0:=by
 have g:∀L:List Nat,(L.map λq=>bI f (p+q)).sum=((L.filter λq=>f (p+q)).length:Int):=λL=>by
  induction L with
  |nil=>rfl
  | cons q L i =>
   rw[Ax,Cv,i];unfold bI;cases h:f (p+q) with
   |true=>rw[Be (p:=λq=>f (p+q)) h,Ay,if_pos rfl];omega
   |false=>rw[Bf (p:=λq=>f (p+q)) (by rw[h];decide),if_neg #v[0,9]];omega
 rw[g];unfold odS;by_cases c:(L.filter λq=>f (p+q)).length%2=1
 ·rw[if_pos (Ah c)];omega
 ·rw[if_neg (by rw[Ao c];decide)];omega
theorem z6r {Ψ:Str->Fn}(x:zxc (Ψ "_law_along")):VotL (zad [Zc,Zc,Zc] 5 (zcd Ψ)):=λm f T j hT=>by
 have C:=ch_t j hT;obtain⟨lt,O,k⟩:=zvp ⟨m,by omega⟩ T hT;have lt:∀l∈T,l<m:=lt;have k:T.length<=m:=k;have r:=zdl j;have F:=x T (tmW T) (.inl rfl) #v[] λl g=>by have:=lt l g;omega
 have D:∀l∈rstL m T,l<m:=λl g=>Bk.mp (Bl.mp g).1;have J:(rstL m T).length<=6:=by
  refine Bj (Bt ..) ?_;rw[Bi];exact j
 have w:=x (rstL m T) (.lst (zac (rstL m T))) (.inr rfl) J λl g=>by have:=D l g;omega
 rw[<-C.ot] at w;generalize A:W.lst ((tab (2^m) (bI f)).map W.int)=Z;have L:zc4 Ψ #v[9,13]=Za (#v[9,13],(.lst (zac (rstL m T)),Zd)):=by
  unfold zc4 rstL zac;refine zkk (xs:=[#v[tmW T,6]]) (λl:Nat=>W.int (l:Nat)) (λl=>!T.contains l) (λl:Nat=>W.int (l:Nat)) (e0:=[#v[(m:Nat),0],#v[Z,6],#v[tmW T,6],#v[((al T).map λp:Nat=>W.int p),2],Zb]) (ts:=List.range m) (by rw[<-zkf];exact zin (a:=zaa 0) (n:=m) (by simp! []) #v[]) (by rw[Bi];omega) rfl rfl rfl (λ_ _=>rfl) λu l _=>?_;have i:=zyp Zd l T;generalize tmW T=t at *
  exact⟨#v[(l:Nat),0],by simp! [i],λ_=>⟨#v[(l:Nat),0],Zc,by simp! []⟩⟩
 have o:∃b,zdc Ψ #v[4,11]=Za (#v[9,15],(.lst (((oth m T).map (bI (DT T f))).map W.int),Zd)):=by
  unfold zdc;rw[Cr];have N:(oth m T).length<=64:=by rw[C.ln];exact Bj (Dd #v[0,9] #v[]) r
  have M:(al T).length<=64:=by rw[z23];exact Bj (Dd #v[0,9] k) r
  obtain⟨c,⟨u,d,b,rfl⟩,h⟩:=ztw (cap:=#v[5,21]) (T:=.nm 1) (it:=zap (gVar 4)) (te:=gOp2 #v[0,0,2] #v[0,21] #v[2]) (λc=>∃u d b,c=[u,d,Za (.lst (zac (al T)),b),#v[Z,6]]) (en:=#v[4,11]) (e0:=[#v[(m:Nat),0],#v[Z,6],#v[tmW T,6],#v[(zac (al T)),2],#v[(zac (oth m T)),1]]) (ts:=oth m T) (λp:Nat=>W.int p) (W.int ∘ bI (DT T f)) rfl #v[] rfl ⟨_,_,_,rfl⟩ λc s h K=>by
   obtain⟨u,d,b,rfl⟩:=h;have H:zb3 Ψ [u,#v[(s:Nat),0],Za (.lst (zac (al T)),b),#v[Z,6]]=Za ([u,#v[(s:Nat),0],#v[(zac (al T)),1],#v[Z,6]],(.lst (((al T).map λq=>bI f (s+q)).map W.int),Zd)):=by
    unfold zb3;rw[Cr];refine zfz (λc=>∃u d,c=[u,d,#v[Z,6],#v[(s:Nat),0]]) (e0:=[u,#v[(s:Nat),0],#v[(zac (al T)),1],#v[Z,6]]) (ts:=al T) (λp:Nat=>W.int p) (W.int ∘ λq=>bI f (s+q)) (by cases b<;>rfl) #v[] rfl ⟨_,_,rfl⟩ (λc ⟨_,_,e⟩=>by rw[e];rfl) λc q h E=>?_;obtain⟨u,d,rfl⟩:=h;have G:s+q<2^m:=Bk.mp (C.pm.mem_iff.mp (List.mem_flatMap.mpr ⟨s,K,Dr.mpr ⟨q,E,rfl⟩⟩));have z:(s:Int)+(q:Int)=((s+q:Nat):Int):=by omega
    have B:oIx Z (.int ((s+q:Nat):Int))=#v[(bI f (s+q)),0]:=by
     rw[<-A];exact zif rfl (zor G)
    refine⟨[u,#v[(q:Nat),0],#v[Z,6],#v[(s:Nat),0]],[u,#v[(q:Nat),0],#v[Z,6],#v[(s:Nat),0]],Zc,rfl,?_,_,_,rfl⟩;show _=Za ([u,#v[(q:Nat),0],#v[Z,6],#v[(s:Nat),0]],(W.int (bI f (s+q)),Zc));simp! [z,B]
   have I:=zo0 ((al T).map λq=>bI f (s+q));have y:=z5j (al T) f s;rw[<-ybp] at y;refine⟨[u,#v[(s:Nat),0],Za (.lst (zac (al T)),b),#v[Z,6]],[u,#v[(s:Nat),0],#v[(zac (al T)),1],#v[Z,6]],Zc,rfl,?_,_,_,_,rfl⟩;show _=Za ([u,#v[(s:Nat),0],#v[(zac (al T)),1],#v[Z,6]],(W.int (bI (DT T f) s),Zc));unfold bI;rw[<-y];simp! [H,I]
  exact⟨b,h⟩
 obtain⟨b,o⟩:=o;unfold zcd;refine za3 (en:=#v[9,15]) rfl (za4 (e1:=#v[9,13]) ?_ (za4 (e1:=#v[4,11]) ?_ ?_)) rfl
 ·simp! [F]
 ·simp! [L,w]
 ·simp! [o]
noncomputable def zfm (Φ:Fn):Prop:=∀(m:Nat) (a:List (List Nat)) (x:W),(x=.tup (a.map tmW)\/x=.lst (a.map tmW))->m<=6->a.length<=64->(∀t∈a,t∈zab m m)->Φ [.int (m:Nat),x]=Za ([.int (m:Nat),x],(.lst ((tab (2^m) (bI (par a))).map W.int),Zd))
theorem z3h (ts:List (List Nat))(p:Nat):valF ts p=bI (par ts) p:=zhd p ts
theorem zz3 (Ψ:Str->Fn):zfm (zad [Zc,Zc] 5 (zlj Ψ)):=λm ts x u n C f=>by
 have D:=zdl n;have B:∀t∈ts,∀l∈t,l<64:=λt h l j=>by
  have:=(zvp ⟨m,by omega⟩ t (f t h)).1 l j;have:l<m:=this;omega
 have j:∀t∈ts,t.length<=64:=λt h=>by
  have:t.length<=m:=(zvp ⟨m,by omega⟩ t (f t h)).2.2;omega
 have q:tab (2^m) (bI (par ts))=tab (2^m) (valF ts):=tab_ext λp _=>(z3h ts p).symm;rw[q];have g:∃a v4,zfs Ψ [#v[(m:Nat),0],#v[x,6],#v[[],2],Zb,Zb]=Za ([#v[(m:Nat),0],#v[x,6],#v[((tab (2^m) (valF ts)).map W.int),2],a,v4],.nx):=by
  unfold zfs;obtain⟨s,h,a,v4,rfl⟩:=zaz (mp:=[]) (T:=.nm 3) (body:=zfl Ψ) (λi e=>∃a v4,e=[#v[(m:Nat),0],#v[x,6],#v[((tab i (valF ts)).map W.int),2],a,v4]) (i3v (m:=m) (b:=#v[x,6]) (c:=#v[[],2]) (d:=Zb) (e:=Zb) n) ⟨_,_,rfl⟩ λi w e r y=>by
   obtain⟨a,v4,rfl⟩:=y;obtain⟨E,rfl⟩:=zen r;rw[Hb];have z:zfo Ψ #v[3,11]=Za (#v[3,11],(.lst ((ts.filter λt=>hasT t i).map tmW),Zd)):=by
    unfold zfo;refine zkk (xs:=[#v[(i:Nat),0]]) tmW (λt=>hasT t i) tmW (e0:=#v[3,11]) (by rcases u with rfl|rfl<;>rfl) #v[] rfl rfl rfl (λ_ _=>rfl) λk t f=>?_;have A:=c1v (Ψ:=Ψ) (v0:=k) (t:=t) (p:=i) (B t f) (j t f);have al:(t.map λl=>decide (i/2^l%2=1)).all id=hasT t i:=by unfold hasT;rw[List.all_map];rfl
    refine⟨#v[tmW t,6],?_,λ_=>⟨#v[tmW t,6],Zc,?_⟩⟩
    ·simp! [A,al]
    ·simp! []
   have lt:(tab i (valF ts)).length<16777216:=by rw[zam];omega
   have o:(((ts.filter λt=>hasT t i).length:Nat):Int)%2=valF ts i:=by unfold valF;omega
   refine⟨_,[#v[(m:Nat),0],#v[x,6],#v[((tab (i+1) (valF ts)).map W.int),2],#v[(i:Nat),0],#v[((ts.filter λt=>hasT t i).map tmW),2]],rfl,.inl ?_,_,_,rfl⟩;rw[zi1 i,Bo];unfold zfl;simp! [z,Ad,o,lt,Ax,List.map_nil]
  rw[zf7] at h;exact⟨a,v4,h⟩
 obtain⟨a,v4,g⟩:=g;unfold zlj;simp! [g]
noncomputable def tfS (m r s:Nat):List (List Nat):=(zab m r).filter λt=>decide (t.length=s)
noncomputable def VP (m r j:Nat):List (List Nat):=(List.range j).flatMap λi=>tfS m r (r-i)
theorem zjl (m r j:Nat):VP m r (j+1)=VP m r j++tfS m r (r-j):=by
 unfold VP;rw[Gr,List.flatMap_append,List.flatMap_cons,List.flatMap_nil,By]
noncomputable def vpB (m r:Nat):Bool:=decide (VP m r (r+1)=votL m r)&&(List.range (r+1)).all λj=>(VP m r j).all (λt=>decide (r-j<t.length)&&(zab m r).contains t)&&((zab m r).all (λt=>!decide (r-j<t.length)||(VP m r j).contains t)&&(decide (VP m r j).Nodup&&decide ((VP m r j).length<=64)))
theorem z8d:∀m r:Fin 7,r.val<=m.val->vpB m.val r.val=Zd:=by decide +kernel
structure Vp (m r j:Nat):Prop where
 mem:∀t,t∈VP m r j↔t∈zab m r/\r-j<t.length
 nd:(VP m r j).Nodup
 ln:(VP m r j).length<=64
theorem zoc {m r:Nat}(i:m<=6)(g:r<=m):VP m r (r+1)=votL m r/\∀j,j<=r->Vp m r j:=by
 have h:=z8d ⟨m,by omega⟩ ⟨r,by omega⟩ g;have h:(decide (VP m r (r+1)=votL m r)&&(List.range (r+1)).all λj=>(VP m r j).all (λt=>decide (r-j<t.length)&&(zab m r).contains t)&&((zab m r).all (λt=>!decide (r-j<t.length)||(VP m r j).contains t)&&(decide (VP m r j).Nodup&&decide ((VP m r j).length<=64))))=Zd:=h;rw[Ab] at h;refine⟨Ai h.1,λj k=>?_⟩;have b:=Aw.mp h.2 j (Bk.mpr #v[]);rw[Ab,Ab,Ab] at b;obtain⟨f,d,e,c⟩:=b;refine⟨λt=>⟨λa=>?_,λa=>?_⟩,Ai e,Ai c⟩
 ·have:=Aw.mp f t a;rw[Ab] at this;exact⟨Cn.mp this.2,Ai this.1⟩
 ·have:=Aw.mp d t a.1;rw[Ah a.2] at this;exact Cn.mp this
noncomputable def chsn (ts L:List (List Nat)):List (List Nat):=L.filter λt=>decide (t∈ts)
noncomputable def lfG (m r:Nat) (ts:List (List Nat)) (N j p:Nat):Bool:=N.testBit p ^^ par (chsn ts (VP m r j)) p
theorem z60 (L M:List (List Nat))(p:Nat):par (L++M) p=(par L p ^^ par M p):=by
 induction L with
 |nil=>show par M p=(Zc ^^ par M p);rw[Bool.false_xor]
 |cons t L i=>show (mono t p ^^ par (L++M) p)=((mono t p ^^ par L p) ^^ par M p);rw[i,Bool.xor_assoc]
theorem ycd {m r N j:Nat}{ts:List (List Nat)}(H:Hrd m r ts N)(a:j<=r)(p:Nat):lfG m r ts N j p=lfF ts N (r-j) p:=by
 have v:=(zoc H.m6 H.rm).2 j a;have q:(chsn ts (VP m r j)).Perm (hiT ts (r-j)):=(Ea (v.nd.filter _) (H.nd.filter _)).mpr λt=>by
  rw[Bl,Bl,v.mem,Br,Br];exact⟨λh=>⟨h.2,h.1.2⟩,λh=>⟨⟨H.tm t h.1,h.2⟩,h.1⟩⟩
 unfold lfG lfF;rw[zet q]
theorem zq1 {m r N:Nat}{ts:List (List Nat)}(H:Hrd m r ts N):(chsn ts (votL m r)).Perm ts:=by
 have V:=zfr H.m6 H.rm;refine (Ea (V.nd.filter _) H.nd).mpr λt=>?_;rw[Bl,Br];exact⟨λh=>h.2,λh=>⟨V.all t (H.tm t h),h⟩⟩
theorem z4q {m r N:Nat}{ts:List (List Nat)}(H:Hrd m r ts N)(p:Nat):lfG m r ts N (r+1) p=(N.testBit p ^^ par ts p):=by
 unfold lfG;rw[(zoc H.m6 H.rm).1,zet (zq1 H)]
theorem z8e {as:GAs}{en e1:En}{xs:List (W ⊕ Nat)}{i j c:Int}{n:Nat}(h:as en=Za (e1,xs))(a:zas e1 xs=Za #v[6,19])(b:rg3 i j c=Zd)(h4:rn3 i j c=n):zyh as en=Za (e1,zfy i c n):=by
 unfold zyh;rw[h];show (match zas e1 xs with|some #v[6,19]=>if rg3 i j c then Za (e1,zfy i c (rn3 i j c)) else Zb|_=>Zb)=_;rw[a];show (if rg3 i j c then Za (e1,zfy i c (rn3 i j c)) else Zb)=_;rw[b,h4];rfl
theorem down:∀m:Fin 14,rg3 ((m.val:Int)-1) (-1) (-1)=Zd/\rn3 ((m.val:Int)-1) (-1) (-1)=m.val:=by decide +kernel
theorem zxz (g:Nat->Bool):∀L:List Nat,(L.map (bI g)).sum=((L.filter g).length:Int)
 |[]=>rfl
 | p::L=>by
  rw[Ax,Cv,zxz g L];unfold bI;cases h:g p with
  |true=>rw[Be h,Ay,if_pos rfl];omega
  |false=>rw[Bf (by rw[h];decide),if_neg #v[0,9]];omega
noncomputable def bLW (m:Nat) (f:Nat->Bool):W:=.lst ((tab (2^m) (bI f)).map W.int)
theorem yd4 {Ψ:Str->Fn}(p:VotL (Ψ "_law_votes")){m:Nat}{g:Nat->Bool}{T:List Nat}{R:List VR}{CH:List (List Nat)}{b3:Bool}{v1 v2 v4 v6 v9 v10:Option (W×Bool)}(h:m<=6)(hT:T∈zab m m)(x:R.length<=64)(t:CH.length<=64)(r:2*ysN m T g≠2^(m-T.length)):∃q w,zbk Ψ [#v[(m:Nat),0],v1,v2,Za (bLW m g,b3),v4,#v[(R.map rowW),2],v6,#v[(CH.map tmW),2],#v[tmW T,6],v9,v10]=Za ([#v[(m:Nat),0],v1,v2,#v[bLW m g,6],v4,#v[((R++[(T,2^(m-T.length)-ysN m T g,ysN m T g)]).map rowW),2],v6,#v[((CH++(if 2^(m-T.length)<2*ysN m T g then [T] else [])).map tmW),2],#v[tmW T,6],q,w],.nx):=by
 have C:=ch_t h hT;have e:Ψ "_law_votes" [.int (m:Nat),bLW m g,tmW T]=Za ([.int (m:Nat),bLW m g,tmW T],(.lst (((oth m T).map (bI (DT T g))).map W.int),Zd)):=p m g T h hT;have s:=zo0 ((oth m T).map (bI (DT T g)));rw[zxz] at s;have s:oSum [.lst (((oth m T).map (bI (DT T g))).map W.int)]=#v[(ysN m T g:Nat),0]:=s;have o:=C.ln;have l:(((oth m T).map (bI (DT T g))).map W.int).length=2^(m-T.length):=by rw[Ad,Ad,o]
 have le:=z99 (f:=g) C;have n:decide ((2:Int)*(ysN m T g:Nat)=((2^(m-T.length):Nat):Int))=Zc:=Ao #v[];have k:((2^(m-T.length):Nat):Int)-(ysN m T g:Nat)=((2^(m-T.length)-ysN m T g:Nat):Int):=by omega
 have d:decide (((2^(m-T.length):Nat):Int)<(2:Int)*(ysN m T g:Nat))=decide (2^(m-T.length)<2*ysN m T g):=Es.mpr #v[];have i:(R.length<16777216)=True:=eq_true #v[];have j:(CH.length<16777216)=True:=eq_true #v[];generalize hX:((oth m T).map (bI (DT T g))).map W.int=X at *
 generalize A:ysN m T g=y at *
 generalize u:2^(m-T.length)=z at *
 refine⟨#v[X,2],#v[(y:Nat),0],?_⟩;have a:=mul2 (b:=(y:Int));unfold zbk;refine za4 (e1:=[#v[(m:Nat),0],v1,v2,#v[bLW m g,6],v4,#v[(R.map rowW),2],v6,#v[(CH.map tmW),2],#v[tmW T,6],#v[X,2],v10]) ?_ (za4 (e1:=#v[6,13]) ?_ (za4 (e1:=#v[6,13]) ?_ (za4 (e1:=[#v[(m:Nat),0],v1,v2,#v[bLW m g,6],v4,#v[((R++[(T,z-y,y)]).map rowW),2],v6,#v[(CH.map tmW),2],#v[tmW T,6],#v[X,2],#v[(y:Nat),0]]) ?_ ?_)))
 ·cases b3<;>simp! [e]
 ·simp! [s]
 ·simp! [a,l,n]
 ·rw[Bo];simp! [l,k,Ad,i]
  rfl
 ·by_cases c:z<2*y
  ·rw[if_pos c,Bo,Bo];have d:=d.trans (Ah c);simp! [a,l,d,Ad,j]
   rfl
  ·rw[if_neg c,By];have d:=d.trans (Ao c);simp! [a,l,d]
theorem yd7 {Ψ:Str->Fn}(hT:zdy (Ψ "_law_terms")){m r s:Nat}{v2 v3 v4 v5 v7 v8 v9 v10:Option (W×Bool)}(h:m<=6)(a:r<=m):zbl Ψ #v[4,12]=Za (#v[4,12],(.lst ((tfS m r s).map tmW),Zd)):=by
 have e:=hT m r h #v[];have lt:∀m r:Fin 7,(zab m.val r.val).length<=64:=by decide +kernel
 have lt:(zab m r).length<=64:=lt ⟨m,by omega⟩ ⟨r,by omega⟩;unfold zbl tfS;refine zkk (xs:=[#v[(s:Nat),0]]) tmW (λt=>decide (t.length=s)) tmW (e0:=#v[4,12]) (by simp! [e]) #v[] rfl rfl rfl (λ_ _=>rfl) λu t _=>?_;have l:(zac t).length=t.length:=zat t;have d:decide ((t.length:Int)=(s:Int))=decide (t.length=s):=Es.mpr #v[];rw[zki];exact⟨#v[(zac t),3],by simp! [l,d],λ_=>⟨#v[(zac t),3],Zc,by simp! []⟩⟩
theorem ydl {Ψ:Str->Fn}(n:zfm (Ψ "_law_values")){m:Nat}{g:Nat->Bool}{CH:List (List Nat)}{b3 b7:Bool}{v1 v2 v4 v5 v6 v8 v9 v10:Option (W×Bool)}(h:m<=6)(f:CH.length<=64)(o:∀t∈CH,t∈zab m m):zcq Ψ #v[7,15]=Za (#v[9,11],(bLW m λp=>g p ^^ par CH p,Zd)):=by
 have w:=zdl h;have r:=n m CH (.lst (CH.map tmW)) (.inr rfl) h f o;unfold zcq;have z:zipW ((tab (2^m) (bI g)).map W.int) ((tab (2^m) (bI (par CH))).map W.int)=(List.range (2^m)).map λp=>W.tup [.int (bI g p),.int (bI (par CH) p)]:=by
  unfold tab
  induction List.range (2^m) with
  |nil=>rfl
  |cons a l s=>exact congrArg (W.tup [.int (bI g a),.int (bI (par CH) a)] :: ·) s
 have i:bLW m (λp=>g p ^^ par CH p)=.lst ((List.range (2^m)).map (W.int ∘ bI λp=>g p ^^ par CH p)):=by
  unfold bLW tab;rw[Cr]
 rw[i];refine zfz (λc=>∃u d b,c=[u,d,b]) (e0:=#v[9,11]) (λp=>W.tup [.int (bI g p),.int (bI (par CH) p)]) (W.int ∘ bI λp=>g p ^^ par CH p) ?_ (by rw[Bi];omega) rfl ⟨_,_,_,rfl⟩ (λc ⟨_,_,_,e⟩=>by rw[e];rfl) λc p k _=>?_
 ·rw[<- z];unfold gZip;have j:gVar 3 #v[7,15]=Za (#v[2,16],(bLW m g,Zc)):=by cases b3<;>rfl
  have q:gCall [Zc,Zc] (Ψ "_law_values") (gCns #v[0,4] (gCns #v[7,4] gA0)) #v[2,16]=Za (#v[9,11],(.lst ((tab (2^m) (bI (par CH))).map W.int),Zd)):=by
   generalize bLW m g=B;cases b7<;>simp! [r]
  rw[j,Dp];dsimp only;rw[q]
  rfl
 ·obtain⟨u,d,b,rfl⟩:=k;refine⟨[u,#v[(bI g p),0],#v[(bI (par CH) p),0]],[u,#v[(bI g p),0],#v[(bI (par CH) p),0]],Zc,rfl,?_,_,_,_,rfl⟩;show _=Za ([u,#v[(bI g p),0],#v[(bI (par CH) p),0]],(W.int (if (g p ^^ par CH p)=Zd then 1 else 0),Zc));unfold bI;generalize g p=x;generalize par CH p=y;cases x<;>cases y<;>rfl
theorem yc5 {Ψ:Str->Fn}(B:VotL (Ψ "_law_votes"))(hT:zdy (Ψ "_law_terms")){m r N j:Nat}{ts:List (List Nat)}{b3:Bool}{v2 v4 v8 v9 v10:Option (W×Bool)}(H:Hrd m r ts N)(q:j<=r):∃f k d a,zck Ψ [#v[(m:Nat),0],#v[(r:Nat),0],v2,some (bLW m (lfG m r ts N j),b3),v4,#v[(((VP m r j).map (rowD m ts N)).map rowW),2],#v[((r - j:Nat):Int),0],#v[[],2],v8,v9,v10]=Za ([#v[(m:Nat),0],#v[(r:Nat),0],v2,Za (bLW m (lfG m r ts N j),f),v4,#v[(((VP m r (j+1)).map (rowD m ts N)).map rowW),2],#v[((r-j:Nat):Int),0],#v[((chsn ts (tfS m r (r-j))).map tmW),2],k,d,a],.nx):=by
 have V:=zfr H.m6 H.rm;have P:=(zoc H.m6 H.rm).2 j q;have E:lfG m r ts N j=lfF ts N (r-j):=funext (ycd H q);have lt:∀m r:Fin 7,(zab m.val r.val).length<=64:=by decide +kernel
 have lt:(zab m r).length<=64:=lt ⟨m,by have:=H.m6;omega⟩ ⟨r,by have:=H.m6;have:=H.rm;omega⟩;have K:(tfS m r (r-j)).length<=64:=Bj (Bt ..) lt;have tot:(VP m r j).length+(tfS m r (r-j)).length<=64:=by
  have e:=zjl m r j;have:(VP m r (j+1)).length<=64:=by
   rcases Nat.lt_or_ge j r with c|c
   ·exact ((zoc H.m6 H.rm).2 (j+1) #v[]).ln
   ·have:j=r:=by omega
    subst this;rw[(zoc H.m6 H.rm).1];exact V.ln
  rw[e,Bb] at this;exact this
 unfold zck;have G:=yd7 (Ψ:=Ψ) hT (m:=m) (r:=r) (s:=r-j) (v2:=v2) (v3:=Za (bLW m (lfG m r ts N j),b3)) (v4:=v4) (v5:=#v[(((VP m r j).map (rowD m ts N)).map rowW),2]) (v7:=#v[[],2]) (v8:=v8) (v9:=v9) (v10:=v10) H.m6 H.rm;obtain⟨z,h,f,k,d,a,rfl⟩:=zaz (mp:=[]) (T:=.nm 8) (body:=zbk Ψ) (it:=zap (zbl Ψ)) (ws:=(tfS m r (r-j)).map tmW) (en:=[#v[(m:Nat),0],#v[(r:Nat),0],v2,some (bLW m (lfG m r ts N j),b3),v4,#v[(((VP m r j).map (rowD m ts N)).map rowW),2],#v[((r - j:Nat):Int),0],#v[[],2],v8,v9,v10]) (e0:=[#v[(m:Nat),0],#v[(r:Nat),0],v2,some (bLW m (lfG m r ts N j),b3),v4,#v[(((VP m r j).map (rowD m ts N)).map rowW),2],#v[((r - j:Nat):Int),0],#v[[],2],v8,v9,v10]) (λi e=>∃f k d a,e=[#v[(m:Nat),0],#v[(r:Nat),0],v2,Za (bLW m (lfG m r ts N j),f),v4,#v[(((VP m r j++(tfS m r (r-j)).take i).map (rowD m ts N)).map rowW),2],#v[((r-j:Nat):Int),0],#v[((chsn ts ((tfS m r (r-j)).take i)).map tmW),2],k,d,a]) (by unfold zap;rw[G];rfl) ⟨_,_,_,_,by rw[Dz,By];rfl⟩ λi w e o C=>by
  obtain⟨f,k,d,a,rfl⟩:=C;rw[Aj] at o;obtain⟨T,b,rfl⟩:=Du.mp o;have l:=Bh b;unfold tfS at l;rw[Bl,Br] at l;obtain⟨I,n,u⟩:=V.mem T (V.all T l.1);have J:=(Af.mp b).1;have rd:=zuu H n u;have y:ysN m T (lfG m r ts N j)=ysT m ts N T:=by
   unfold ysT;rw[E,l.2]
  obtain⟨A,x,F⟩:=yd4 B (m:=m) (g:=lfG m r ts N j) (T:=T) (R:=(VP m r j++(tfS m r (r-j)).take i).map (rowD m ts N)) (CH:=chsn ts ((tfS m r (r-j)).take i)) (b3:=f) (v1:=#v[(r:Nat),0]) (v2:=v2) (v4:=v4) (v6:=#v[((r-j:Nat):Int),0]) (v9:=d) (v10:=a) H.m6 n (by rw[Ad,Bb,Cj];omega) (by
   refine Bj (Bt ..) ?_;rw[Cj];omega) (by
   rw[y];by_cases c:T∈ts
   ·rw[if_pos c] at rd;omega
   ·rw[if_neg c] at rd;omega)
  have D:(tfS m r (r-j)).take (i+1)=(tfS m r (r-j)).take i++[T]:=by rw[Ce,b];rfl
  refine⟨_,_,rfl,.inl F,Zc,#v[tmW T,6],A,x,?_⟩;rw[y,D,<-Bc,show (VP m r j++(tfS m r (r-j)).take i++[T]).map (rowD m ts N)=(VP m r j++(tfS m r (r-j)).take i).map (rowD m ts N)++[(T,2^(m-T.length)-ysT m ts N T,ysT m ts N T)] from Bo,show chsn ts ((tfS m r (r-j)).take i++[T])=chsn ts ((tfS m r (r-j)).take i)++(if 2^(m-T.length)<2*ysT m ts N T then [T] else []) from by
   unfold chsn;rw[Cf];congr 1;by_cases c:T∈ts
   ·rw[if_pos c] at rd;rw[if_pos rd,Be (p:=λt=>decide (t∈ts)) (Ah c)];rfl
   ·rw[if_neg c] at rd;rw[if_neg #v[],Bf (p:=λt=>decide (t∈ts)) (by show ¬ decide (T∈ts)=Zd;rw[Ao c];decide)];rfl]
 rw[Ad,Bs,<-zjl] at h;exact⟨_,_,_,_,h⟩
theorem yd3 {Ψ:Str->Fn}(n:VotL (Ψ "_law_votes"))(hT:zdy (Ψ "_law_terms"))(hX:zfm (Ψ "_law_values")){m r N j:Nat}{ts:List (List Nat)}{b3 b4:Bool}{v2 v7 v8 v9 v10:Option (W×Bool)}(H:Hrd m r ts N)(d:j<=r):∃k a b w,zbn Ψ [#v[(m:Nat),0],#v[(r:Nat),0],v2,Za (bLW m (lfG m r ts N j),b3),Za (.lst ((chsn ts (VP m r j)).map tmW),b4),#v[(((VP m r j).map (rowD m ts N)).map rowW),2],#v[((r-j:Nat):Int),0],v7,v8,v9,v10]=Za ([#v[(m:Nat),0],#v[(r:Nat),0],v2,#v[bLW m (lfG m r ts N (j+1)),5],#v[((chsn ts (VP m r (j+1))).map tmW),2],#v[(((VP m r (j+1)).map (rowD m ts N)).map rowW),2],#v[((r-j:Nat):Int),0],k,a,b,w],.nx):=by
 have l:sizeLine=16777216:=Hd;have V:=zfr H.m6 H.rm;have P:=(zoc H.m6 H.rm).2 j d;have lt:∀m r:Fin 7,(zab m.val r.val).length<=64:=by decide +kernel
 have lt:(zab m r).length<=64:=lt ⟨m,by have:=H.m6;omega⟩ ⟨r,by have:=H.m6;have:=H.rm;omega⟩;have s:(chsn ts (tfS m r (r-j))).length<=64:=Bj (Bt ..) (Bj (Bt ..) lt);have z:(chsn ts (VP m r j)).length<=64:=Bj (Bt ..) P.ln;have o:∀t∈chsn ts (tfS m r (r-j)),t∈zab m m:=λt h=>by
  have:=(Bl.mp (Bl.mp h).1).1;exact (V.mem t (V.all t this)).2.1
 obtain⟨f,a,b,w,u⟩:=yc5 n hT (b3:=b3) (v2:=v2) (v4:=Za (.lst ((chsn ts (VP m r j)).map tmW),b4)) (v8:=v8) (v9:=v9) (v10:=v10) H d;have c:=ydl hX (m:=m) (g:=lfG m r ts N j) (CH:=chsn ts (tfS m r (r-j))) (b3:=f) (b7:=Zd) (v1:=#v[(r:Nat),0]) (v2:=v2) (v4:=#v[((chsn ts (VP m r (j+1))).map tmW),2]) (v5:=#v[(((VP m r (j+1)).map (rowD m ts N)).map rowW),2]) (v6:=#v[((r-j:Nat):Int),0]) (v8:=a) (v9:=b) (v10:=w) H.m6 s o;have i:oAdd (.lst ((chsn ts (VP m r j)).map tmW)) (.lst ((chsn ts (tfS m r (r-j))).map tmW))=#v[((chsn ts (VP m r (j+1))).map tmW),2]:=by
  have e:chsn ts (VP m r (j+1))=chsn ts (VP m r j)++chsn ts (tfS m r (r-j)):=by
   rw[zjl];exact Cf ..
  rw[e,Bo];exact znl (by rw[Ad,Ad];omega)
 have q:(λp=>lfG m r ts N j p ^^ par (chsn ts (tfS m r (r-j))) p)=lfG m r ts N (j+1):=by
  funext p
  unfold lfG;rw[zjl,show chsn ts (VP m r j++tfS m r (r-j))=chsn ts (VP m r j)++chsn ts (tfS m r (r-j)) from Cf ..,z60,Bool.xor_assoc]
 rw[q] at c;refine⟨#v[((chsn ts (tfS m r (r-j))).map tmW),1],a,b,w,?_⟩;unfold zbn;refine za4 (e1:=[#v[(m:Nat),0],#v[(r:Nat),0],v2,Za (bLW m (lfG m r ts N j),b3),Za (.lst ((chsn ts (VP m r j)).map tmW),b4),#v[(((VP m r j).map (rowD m ts N)).map rowW),2],#v[((r-j:Nat):Int),0],#v[[],2],v8,v9,v10]) ?_ (za4 u (za4 (e1:=[#v[(m:Nat),0],#v[(r:Nat),0],v2,Za (bLW m (lfG m r ts N j),f),#v[((chsn ts (VP m r (j+1))).map tmW),2],#v[(((VP m r (j+1)).map (rowD m ts N)).map rowW),2],#v[((r-j:Nat):Int),0],#v[((chsn ts (tfS m r (r-j))).map tmW),2],a,b,w]) ?_ (zed c rfl)))
 ·simp! []
 ·generalize D:(chsn ts (VP m r j)).map tmW=A at *
  generalize y:(chsn ts (tfS m r (r-j))).map tmW=B at *
  generalize x:(chsn ts (VP m r (j+1))).map tmW=C at *
  cases b4<;>simp! [i]
noncomputable def zri (Φ:Fn):Prop:=∀(m r N:Nat) (t:List (List Nat)),Hrd m r t N->Φ #v[4,21]=Za (#v[4,21],(.tup [bLW m (par t),.tup (((votL m r).map (rowD m t N)).map rowW)],Zc))
theorem zu0 {Ψ:Str->Fn}(Y:VotL (Ψ "_law_votes"))(hT:zdy (Ψ "_law_terms"))(hX:zfm (Ψ "_law_values")):zri (zad [Zc,Zc,Zc] 11 (zb1 Ψ)):=λm r N ts H=>by
 have K:sizeLine=16777216:=Hd;have p6:=zdl H.m6;have h6:=H.m6;have hr:=H.rm;have V:=zfr H.m6 H.rm;have E:=(zoc H.m6 H.rm).1;obtain⟨y,A⟩:=down ⟨r+1,by omega⟩;have y:rg3 (((r+1:Nat):Int)-1) (-1) (-1)=Zd:=y;have A:rn3 (((r+1:Nat):Int)-1) (-1) (-1)=r+1:=A;have Q:(((r+1:Nat):Int)-1)=(r:Int):=by omega
 rw[Q] at y A;have L:lfG m r ts N 0=N.testBit:=by
  funext p
  show (N.testBit p ^^ par [] p)=_;exact Fo _
 have o:∃k f d g a,zcl Ψ #v[9,8]=Za ([#v[(m:Nat),0],#v[(r:Nat),0],#v[bLW m N.testBit,6],#v[bLW m (lfG m r ts N (r+1)),5],#v[((chsn ts (VP m r (r+1))).map tmW),2],#v[(((VP m r (r+1)).map (rowD m ts N)).map rowW),2],k,f,d,g,a],.nx):=by
  unfold zcl;obtain⟨R,h,x,q,k,f,d,g,a,F,rfl⟩:=zaz (mp:=[]) (T:=.nm 6) (body:=zbn Ψ) (λi e=>∃x q k f d g a,(0<i->x=Zd/\q=Zd)/\e=[#v[(m:Nat),0],#v[(r:Nat),0],#v[bLW m N.testBit,6],Za (bLW m (lfG m r ts N i),x),Za (.lst ((chsn ts (VP m r i)).map tmW),q),#v[(((VP m r i).map (rowD m ts N)).map rowW),2],k,f,d,g,a]) (z8e (i:=(r:Int)) (j:=-1) (c:=-1) (n:=r+1) (as:=gCns (zaa 1) #v[2,22]) (en:=#v[9,8]) rfl rfl y A) ⟨_,_,_,_,_,_,_,λh=>absurd h (Bx 0),by rw[L];rfl⟩ λi w e D Z=>by
   obtain⟨x,q,k,f,d,g,a,_,rfl⟩:=Z;unfold zfy at D;rw[Aj] at D;obtain⟨i',C,rfl⟩:=Du.mp D;have J:=(Af.mp C).1;rw[Bi] at J;rw[Er J] at C;obtain rfl:=sI C;have ee:(r:Int)+(i:Nat)*(-1)=((r-i:Nat):Int):=by omega
   rw[ee];obtain⟨w7,w8,w9,P,hb⟩:=yd3 Y hT hX (b3:=x) (b4:=q) (v2:=#v[bLW m N.testBit,6]) (v7:=f) (v8:=d) (v9:=g) (v10:=a) (j:=i) H #v[];exact⟨_,_,rfl,.inl hb,_,_,_,_,_,_,_,λ_=>⟨rfl,rfl⟩,rfl⟩
  have X:(zfy (r:Int) (-1) (r+1)).length=r+1:=by unfold zfy;rw[Ad,Bi]
  rw[X] at h F;obtain⟨rfl,rfl⟩:=F (Nat.succ_pos _);exact⟨_,_,_,_,_,h⟩
 obtain⟨k,f,d,g,a,o⟩:=o;have ge:lfG m r ts N (r+1)=λp=>N.testBit p ^^ par ts p:=funext (z4q H);rw[E,ge] at o;have O:(chsn ts (votL m r)).length<=64:=Bj (Bt ..) V.ln;have ct:∀t∈chsn ts (votL m r),t∈zab m m:=λt h=>(V.mem t (Bl.mp h).1).2.1;have u:=hX m (chsn ts (votL m r)) (.lst ((chsn ts (votL m r)).map tmW)) (.inr rfl) H.m6 O ct;have I:bLW m (par (chsn ts (votL m r)))=bLW m (par ts):=by
  unfold bLW;rw[tab_ext λp _=>(show bI (par (chsn ts (votL m r))) p=bI (par ts) p from by unfold bI;rw[zet (zq1 H) p])]
 have u:Ψ "_law_values" #v[7,19]=Za (#v[7,19],(bLW m (par (chsn ts (votL m r))),Zd)):=u;rw[I] at u;have s:=zo0 (tab (2^m) (bI λp=>N.testBit p ^^ par ts p));have s2:(tab (2^m) (bI λp=>N.testBit p ^^ par ts p)).sum=(cntR (2^m) (λp=>N.testBit p ^^ par ts p):Int):=by
  unfold tab;rw[zxz];rfl
 rw[s2] at s;have s:oSum [bLW m λp=>N.testBit p ^^ par ts p]=#v[(cntR (2^m) (λp=>N.testBit p ^^ par ts p):Nat),0]:=s;have S:=pow1 (l:=m-r) #v[];have fw:=H.few;have G:(m:Int)-(r:Int)=((m-r:Nat):Int):=by omega
 have dd:decide (((2^(m-r):Nat):Int)<=(2:Int)*(cntR (2^m) (λp=>N.testBit p ^^ par ts p):Nat))=Zc:=Ao #v[];have W:=mul2 (b:=((cntR (2^m) (λp=>N.testBit p ^^ par ts p):Nat):Int));have U:gOpN oList #v[3,20] #v[5,10]=Za (#v[5,10],(bLW m N.testBit,Zd)):=rfl;generalize cntR (2^m) (λp=>N.testBit p ^^ par ts p)=F at *
 generalize M:2^(m-r)=z at *
 unfold zb1;refine za3 (en:=[#v[(m:Nat),0],#v[(r:Nat),0],#v[bLW m N.testBit,6],#v[bLW m (λp=>N.testBit p ^^ par ts p),5],#v[((chsn ts (votL m r)).map tmW),1],#v[(((votL m r).map (rowD m ts N)).map rowW),2],k,f,d,g,a]) rfl (za4 (e1:=#v[9,8]) ?_ (za4 o (za4 (e1:=[#v[(m:Nat),0],#v[(r:Nat),0],#v[bLW m N.testBit,6],#v[bLW m (λp=>N.testBit p ^^ par ts p),5],#v[((chsn ts (votL m r)).map tmW),2],#v[(((votL m r).map (rowD m ts N)).map rowW),2],k,f,d,g,a]) ?_ ?_))) rfl
 ·unfold gPar3;show (gOpN oList #v[3,20] #v[5,10]).bind _=_;rw[U];rfl
 ·clear o u I;generalize bLW m (λp=>N.testBit p ^^ par ts p)=B at *
  generalize bLW m N.testBit=B0 at *
  simp! [s,W,G,S,za0,M,dd]
 ·have ot:oTuple [.lst (((votL m r).map (rowD m ts N)).map rowW)]=Za (.tup (((votL m r).map (rowD m ts N)).map rowW),Zc):=rfl;clear o s;generalize bLW m (par ts)=B at *
  generalize bLW m N.testBit=B0 at *
  simp! [u,ot]
theorem zyc:∀{L:List Nat}{a x:Nat},L[a]?=Za x->L.Perm (x::L.eraseIdx a)
 |[],_,_,h=>by cases h
 |y::L,0,x,h=>by obtain rfl:=sI h;exact List.Perm.refl _
 |y::L,a+1,x,h=>((zyc (L:=L) (a:=a) h).cons y).trans (List.Perm.swap ..)
theorem zp0:∀(R:List Nat) (q:Nat),(zac R).eraseIdx q=zac (R.eraseIdx q)
 |[],_=>rfl
 |_::_,0=>rfl
 |y::R,q+1=>congrArg (W.int y :: ·) (zp0 R q)
theorem lr_n {n:Nat}(h:n<=1000000):lrOk (n:Int)=Zd:=by
 unfold lrOk;rw[rngN h,Ah #v[]];rfl
theorem z6x {as:GAs}{en e1:En}{n:Nat}(h:as en=Za (e1,[.inl (.int (n:Nat))]))(a:n<=1000000):zgw as en=Za (e1,(.lst (rngW 0 n),Zd)):=by
 have:=z2h h rfl (lr_n a);rw[Dj] at this;exact this
noncomputable def zkr (g:Nat->Bool) (x p:Nat):Bool:=g p ^^ decide (p=x)
theorem zzn {n x:Nat}(g:Nat->Bool):((tab n (bI g)).map W.int).set x (.int (1-bI g x))=(tab n (bI (zkr g x))).map W.int:=by
 unfold tab;rw[Cr,Cr];refine Ds λp=>?_;rw[List.getElem?_set];by_cases c:x=p
 ·subst c;rw[if_pos rfl,Ad,Bi];by_cases d:x<n
  ·rw[if_pos d,Aj,Er d];show Za (W.int (1-bI g x))=Za (W.int (bI (zkr g x) x));unfold bI zkr;rw[Ah rfl];cases g x<;>rfl
  ·rw[if_neg d,Aj,Ci (by rw[Bi];omega)];rfl
 ·rw[if_neg c,Aj,Aj];by_cases d:p<n
  ·rw[Er d];show Za (W.int (bI g p))=Za (W.int (bI (zkr g x) p));unfold bI zkr;rw[Ao (λe=>c e.symm),Fo]
  ·rw[Ci (by rw[Bi];omega)];rfl
noncomputable def zqt (Φ:Fn):Prop:=∀(k:Nat) (a:W) (m c:Nat) (f:Nat->Bool),HS k a->k+100<big->m<=6->c<=64->∃(s:W) (g:Nat->Bool),Φ [a,bLW m f,.int (c:Nat)]=Za ([s,bLW m f,.int (c:Nat)],(bLW m g,Zd))/\HS (k+64) s/\cntR (2^m) (λp=>g p ^^ f p)<=c
theorem ya7 {Ψ:Str->Fn}(hT:zgm (Ψ "_law_take")){k m:Nat}{st:W}{g:Nat->Bool}{R:List Nat}{v1 v2 v5 v6:Option (W×Bool)}(E:HS k st)(r:k<big)(I:0<R.length)(H:R.length<=64)(o:∀x∈R,x<2^m):∃s x d,zbm Ψ #v[4,15]=Za ([#v[s,5],v1,v2,#v[bLW m (zkr g x),5],#v[(zac d),2],v5,#v[(x:Nat),0]],.nx)/\HS (k+1) s/\R.Perm (x::d):=by
 have J:(1000:Nat)<sizeLine:=by decide
 obtain⟨st2,q,C,e,D,u⟩:=hT k st ((R.length:Nat):Int) E r #v[] #v[];obtain⟨q,rfl⟩:=Eu D;have b:q<R.length:=Int.ofNat_lt.mp u;have h:R[q]?=Za R[q]:=Ae b;have y:(zac R)[q]?=Za (.int (R[q]:Nat)):=by unfold zac;rw[Aj,h];rfl
 have l:(zac R).length=R.length:=zat R;have c:R[q]<2^m:=o _ (List.getElem_mem b);have t:gCall [Zd,Zc] (Ψ "_law_take") (gCns (zaa 0) (gCns #v[9,17] gA0)) #v[4,15]=Za ([#v[st2,5],v1,v2,#v[bLW m g,5],#v[(zac R),2],v5,v6],(.int (q:Nat),Zc)):=by
  generalize bLW m g=B;simp! [l,C]
 have p:=ydz (i:=4) (en:=#v[4,15]) rfl t rfl y (by rw[l];omega);rw[zp0] at p;generalize R[q]=x at *
 refine⟨st2,x,R.eraseIdx q,?_,e,zyc h⟩;unfold zbm;refine zdm (e1:=#v[8,16]) (zed p rfl) ?_;have F:((tab (2^m) (bI g)).map W.int).length=2^m:=by rw[Ad,zam]
 have G:oIx (bLW m g) (.int (x:Nat))=#v[(bI g x),0]:=zif rfl (zor c);have A:ixN ((tab (2^m) (bI g)).map W.int).length (x:Int)=Za x:=by
  rw[F];unfold ixN;rw[if_pos (show (0:Int)<=(x:Nat) by omega),if_pos (show (x:Int)<((2^m:Nat):Int) by omega)]
  rfl
 have si:=zn9 (i:=3) (k:=gVar 6) (g:=gOp2 #v[0,0,0] #v[1] (gArg (gOp2 oIx (zaa 3) (zaa 6)))) (en:=#v[8,16]) (w:=.int (1-bI g x)) (ws:=(tab (2^m) (bI g)).map W.int) (n:=(x:Int)) (j:=x) (f:=Zc) (f2:=Zc) (by
  have z:seqW (bLW m g)=Za ((tab (2^m) (bI g)).map W.int):=rfl;have a:=zor (f:=bI g) c;generalize (tab (2^m) (bI g)).map W.int=X at *
  generalize bLW m g=B at *
  simp! [z,a]) rfl rfl A
 rw[zzn] at si;exact si
theorem zxg {Ψ:Str->Fn}(hT:zgm (Ψ "_law_take")):zqt (zad [Zd,Zc,Zc] 7 (zb4 Ψ)):=λk st m c f O S G V=>by
 have U:=zdl G;have C:((tab (2^m) (bI f)).map W.int).length=2^m:=by rw[Ad,zam]
 have ln:oLen [bLW m f]=#v[((2^m:Nat):Int),0]:=by
  show Za (W.int (((tab (2^m) (bI f)).map W.int).length:Nat),Zc)=_;rw[C]
 have F:seqW (bLW m f)=Za ((tab (2^m) (bI f)).map W.int):=rfl;have r:∃n:Nat,oMin [.int (c:Nat),.int ((2^m:Nat):Int)]=#v[(n:Nat),0]/\n<=c/\n<=2^m:=by
  show ∃n:Nat,Za (W.int (if ((2^m:Nat):Int)<(c:Nat) then ((2^m:Nat):Int) else (c:Nat)),Zc)=_/\_;by_cases h:((2^m:Nat):Int)<(c:Nat)
  ·rw[if_pos h];exact⟨_,rfl,by omega,by omega⟩
  ·rw[if_neg h];exact⟨_,rfl,by omega,by omega⟩
 obtain⟨n,r,Y,n2⟩:=r;have I:zgw (gCns #v[3,9] gA0) #v[5,12]=Za (#v[5,12],(.lst (zac (List.range (2^m))),Zd)):=by
  rw[show zac (List.range (2^m))=rngW 0 (2^m) from (zkf (2^m)).symm];refine z6x (n:=2^m) ?_ #v[];generalize (tab (2^m) (bI f)).map W.int=X at *
  generalize bLW m f=B at *
  simp! [F,C]
 have t:∃st' g R D v5 v6,zcm Ψ #v[5,8]=Za (#v[1,17],.nx)/\HS (k+n) st'/\(D++R).Perm (List.range (2^m))/\D.length=n/\∀p,g p=(f p ^^ decide (p∈D)):=by
  unfold zcm;obtain⟨K,h,st',g,R,D,v5,v6,rfl,d,b,o,j⟩:=zaz (mp:=[0]) (T:=.nm 5) (body:=zbm Ψ) (λi e=>∃st' g R,∃D:List Nat,∃v5 v6,e=#v[1,17]/\HS (k+i) st'/\(D++R).Perm (List.range (2^m))/\D.length=i/\∀p,g p=(f p ^^ decide (p∈D))) (zin (a:=gArg #v[9,20]) (en:=#v[5,8]) (e1:=#v[5,8]) (n:=n) (by
   generalize (tab (2^m) (bI f)).map W.int=X at *
   generalize bLW m f=B at *
   simp! [F,C,r]) #v[]) ⟨st,f,List.range (2^m),[],_,_,rfl,O,.refl _,rfl,λp=>by rw[Ao (λh=>nomatch h),Fo]⟩ λi w e J u=>by
   obtain⟨st',g,R,D,v5,v6,rfl,d,b,o,j⟩:=u;obtain⟨li,rfl⟩:=zen J;have Q:=b.length_eq;rw[Bb,Bi] at Q;obtain⟨s,x,R2,P,H,l⟩:=ya7 (Ψ:=Ψ) hT (m:=m) (g:=g) (v1:=#v[bLW m f,6]) (v2:=#v[(c:Nat),0]) (v5:=#v[(0+(i:Int)),0]) (v6:=v6) d #v[] #v[] #v[] λx L=>Bk.mp (b.mem_iff.mp (Ba _ L));have y:(D++[x]++R2).Perm (List.range (2^m)):=by
    rw[Bc];exact ((l.append_left D).symm).trans b
   refine⟨[#v[st',5],#v[bLW m f,6],#v[(c:Nat),0],#v[bLW m g,5],#v[(zac R),2],#v[(0+(i:Int)),0],v6],_,?_,.inl P,?_⟩
   ·rfl
   refine⟨s,zkr g x,R2,D++[x],#v[(0+(i:Int)),0],#v[(x:Nat),0],rfl,H.mono #v[],y,?_,λp=>?_⟩
   ·rw[Bb,o,Gi]
   have nx:x ∉ D:=λh=>by
    have A:=(b.trans (.refl _)).nodup_iff.mpr List.nodup_range;exact (List.nodup_append.mp A).2.2 x h x (l.mem_iff.mpr Av) rfl
   have e:(decide (p∈D) ^^ decide (p=x))=decide (p∈D++[x]):=by
    by_cases E:p=x
    ·subst E;rw[Ao nx,Ah (show p∈D++[p] from Ba _ (Az.mpr rfl)),Ah (show p=p from rfl)];rfl
    ·rw[Ao E,Fo];refine Es.mpr ⟨λh=>Gn _ h,λh=>?_⟩;rcases Cc.mp h with h|h
     ·exact h
     ·exact absurd (Az.mp h) E
   unfold zkr;rw[j p,Bool.xor_assoc,e]
  rw[zf7] at d o;exact⟨_,_,_,_,_,_,h,d,b,o,j⟩
 obtain⟨st',g,R,D,v5,v6,t,d,b,o,j⟩:=t;refine⟨st',g,?_,d.mono #v[],?_⟩
 ·have M:oList [bLW m f]=Za (bLW m f,Zd):=rfl;unfold zb4;refine za3 (en:=[#v[st',5],#v[bLW m f,6],#v[(c:Nat),0],Zb,#v[(zac R),2],v5,v6]) rfl (zdm (e1:=#v[5,12]) ?_ (zdm (e1:=#v[5,8]) (zed I rfl) (zdm t ?_))) rfl
  ·generalize bLW m f=B at *
   simp! [M]
  ·generalize bLW m f=B at *
   generalize bLW m g=Z at *
   simp! []
 ·have q:=(b.filter λp=>g p ^^ f p).length_eq;unfold cntR;rw [<-q,Cf,Bb];have z:R.filter (λp=>g p ^^ f p)=[]:=List.filter_eq_nil_iff.mpr λp u=>by
   have A:=b.nodup_iff.mpr List.nodup_range;have N:p ∉ D:=λh=>(List.nodup_append.mp A).2.2 p h p u rfl;rw[j p,Ao N,Fo,Bool.xor_self]
   decide
  rw[z];have:=Bt (λp=>g p ^^ f p) D;show _+0<=_;omega
theorem yab (Ψ:Str->Fn)(a:Int):zad [Zc,Zc] 2 (zan Ψ) #v[3,21]=Za (#v[3,21],#v[6,11]):=by
 have h:zad [Zc,Zc] 2 (zan Ψ) #v[3,21]=Za (#v[3,21],(.bl (decide (a=a)),Zc)):=rfl;rw[h,Ah rfl]
theorem zrn {Ψ:Str->Fn}{xs:List W}(h:∀x∈xs,Ψ "_law_same" [x,x]=Za ([x,x],#v[6,11]))(n:xs.length<=1000):zad [Zc,Zc] 2 (zan Ψ) [.tup xs,.tup xs]=Za ([.tup xs,.tup xs],#v[6,11]):=by
 have j:zdn Ψ [#v[xs,3],#v[xs,3]]=Za ([#v[xs,3],#v[xs,3]],(.lst ((xs.map λ_=>Zd).map W.bl),Zd)):=by
  unfold zdn;rw[Cr];have z:∀xs:List W,zipW xs xs=xs.map λx=>W.tup [x,x]:=λxs=>by
   induction xs with
   |nil=>rfl
   |cons x l m=>exact congrArg (W.tup [x,x] :: ·) m
  refine zfz (λc=>∃u a d,c=[u,a,d]) (e0:=[#v[xs,3],#v[xs,3]]) (ts:=xs) (λx=>W.tup [x,x]) (W.bl ∘ λ_=>Zd) (by rw[<-z];rfl) #v[] rfl ⟨_,_,_,rfl⟩ (λc ⟨_,_,_,e⟩=>by rw[e];rfl) λc x g f=>?_;obtain⟨u,a,d,rfl⟩:=g;have e:=h x f;refine⟨[u,#v[x,6],#v[x,6]],[u,#v[x,6],#v[x,6]],Zc,rfl,?_,_,_,_,rfl⟩;show _=Za ([u,#v[x,6],#v[x,6]],(W.bl Zd,Zc));simp! [e]
 have al:(xs.map λ_=>Zd).all id=Zd:=by
  rw[Aw];intro b i;obtain⟨_,_,rfl⟩:=Dr.mp i
  rfl
 have k:decide ((xs.length:Int)=(xs.length:Int))=Zd:=Ah rfl;unfold zan;simp! [j,al,k]
noncomputable def z8j (Φ:Fn):Prop:=∀(k:Nat) (a:W),HS k a->k+2<big->∃(s:W) (m r:Nat),Φ [a]=Za ([s],(kdW m r,Zc))/\HS (k+2) s/\1<=m/\m<=6/\r<=m
theorem ybd {Ψ:Str->Fn}(hT:zgm (Ψ "_law_take")):z8j (zad [Zd] 2 (zc8 Ψ)):=λk f h n=>by
 obtain⟨s,q,d,i,l,m⟩:=hT k f 6 h #v[] #v[0,9] #v[0,9];obtain⟨q,rfl⟩:=Eu l;obtain⟨a,r,b,g,c,o⟩:=hT (k+1) s ((q+2:Nat):Int) i #v[] #v[] #v[];obtain⟨r,rfl⟩:=Eu c;refine⟨a,q+1,r,?_,g,by omega,by omega,by omega⟩;have e:(1:Int)+(q:Int)=((q+1:Nat):Int):=by omega
 have j:((q+1:Nat):Int)+1=((q+2:Nat):Int):=by omega
 unfold zc8 kdW;simp! [d,e,j,b]
theorem ne_l (as:List Int):oNe (.lst (as.map W.int)) (.lst (as.map W.int))=Za #v[1,8]:=by
 have b:∀a:List Int,dW (.lst (a.map W.int))=Za (.list (a.map .int)):=λa=>by rw[dW,zva W.int .int (λ_=>by rw[dW]) a];rfl
 have l:∀a:List Int,(PyData.list (a.map .int)).canLay0=Zd:=λa=>by rw[PyData.canLay0];exact zh6 _ _ λn h=>by rw[PyData.canLay0]
 have d:(PyData.list (as.map .int)).depth<=100:=by
  rw[PyData.depth];have:=zik (c:=0) PyData.int as λn h=>by rw[PyData.depth];exact Ag _
  omega
 have e:eqD (.lst (as.map W.int)) (.lst (as.map W.int))=Za Zd:=by
  unfold eqD;rw[b];show (if (PyData.list (as.map .int)).canLay0&&(PyData.list (as.map .int)).canLay0&&decide ((PyData.list (as.map .int)).depth<=100) then Za (PyData.eqv (.list (as.map .int)) (.list (as.map .int))) else Zb)=_;rw[l,Ah d,SeqAt.eqv_refl _ (l as)];rfl
 show (eqD _ _).bind _=_;rw[e];rfl
theorem z3i (m:Nat)(g:Nat->Bool):∃w:Nat,wordOf (tab (2^m) (bI g))=(w:Int)/\w<2^2^m/\bLW m g=bLW m w.testBit/\∀p,p<2^m->w.testBit p=g p:=by
 have d:Bits (tab (2^m) (bI g)):=λx c=>by
  unfold tab at c;obtain⟨p,_,rfl⟩:=Dr.mp c;unfold bI;cases g p
  ·exact .inl rfl
  ·exact .inr rfl
 obtain⟨w,h,e⟩:=zjj _ d;rw[zam] at h e;refine⟨w,by rw[e,zbe _ _ h],h,?_,λp b=>?_⟩
 ·unfold bLW;rw[e];rfl
 ·have a:(tab (2^m) (bI g))[p]? = (tab (2^m) (bitN w))[p]? := by rw[e]
  rw[zcp b,zcp b] at a;have a:=sI a;unfold bI at a;rw[<-zwd,<-a];cases g p<;>rfl
theorem zsh {n:Nat}{f g:Nat->Bool}(h:∀p,p<n->f p=g p):cntR n f=cntR n g:=by
 unfold cntR;rw[Cu λp a=>h p (Bk.mp a)]
structure Fns (Ψ:Str->Fn):Prop where
 hK:zgm (Ψ "_law_take")
 hQ:z8j (Ψ "_law_kind")
 hP:z3m (Ψ "_law_poly")
 hT:zdy (Ψ "_law_terms")
 hX:zfm (Ψ "_law_values")
 hF:zqt (Ψ "_law_faulty")
 hM:zri (Ψ "_law_mended")
 hW:z3r (Ψ "_law_word")
 hE:z3p (Ψ "mend")
 hS:∀(w:Nat) (R:List VR),R.length<=100->(∀x∈R,x.1.length<=100)->Ψ "_law_same" [.tup #v[4,10],.tup #v[4,10]]=Za ([.tup #v[4,10],.tup #v[4,10]],#v[6,11])
theorem z91 {Ψ:Str->Fn}(F:Fns Ψ){m r N:Nat}{ts:List (List Nat)}{v0 v1 v2 v5 v6 v10:Option (W×Bool)}(H:Hrd m r ts N)(j:N<2^2^m):∃b,zya Ψ [v0,v1,v2,#v[(m:Nat),0],#v[(r:Nat),0],v5,v6,#v[bLW m (par ts),6],#v[bLW m N.testBit,6],#v[[bLW m (par ts),.tup (((votL m r).map (rowD m ts N)).map rowW)],3],v10]=Za ([v0,v1,v2,#v[(m:Nat),0],#v[(r:Nat),0],v5,v6,#v[bLW m (par ts),6],#v[bLW m N.testBit,6],#v[[bLW m (par ts),.tup (((votL m r).map (rowD m ts N)).map rowW)],3],b],.nx):=by
 have V:=zfr H.m6 H.rm;obtain⟨w,f,_,_,_⟩:=z3i m (par ts);have c:wordOf (tab (2^m) (valF ts))=(w:Int):=by
  rw[<-f,tab_ext λp _=>z3h ts p]
 have d:=F.hE m r N w ts H j c;have q:Ψ "_law_word" [bLW m (par ts)]=Za ([bLW m (par ts)],(.int (w:Nat),Zc)):=by rw[<-f];exact F.hW (tab (2^m) (bI (par ts)))
 have t:Ψ "_law_word" [bLW m N.testBit]=Za ([bLW m N.testBit],(.int (N:Nat),Zc)):=by
  have e:wordOf (tab (2^m) (bI N.testBit))=(N:Int):=zbe _ _ j;rw[<-e];exact F.hW (tab (2^m) (bI N.testBit))
 have s:=F.hS w ((votL m r).map (rowD m ts N)) (by rw[Ad];have:=V.ln;omega) λx g=>by
  obtain⟨T,hT,rfl⟩:=Dr.mp g;have:=(V.mem T hT).2.2;have:=H.m6;have:=H.rm;show T.length<=100;omega
 generalize u:((votL m r).map (rowD m ts N)).map rowW=R at *
 unfold zya;obtain⟨l,h,b,rfl⟩:=zaz (mp:=[]) (T:=.nm 10) (body:=zum Ψ) (λ_ e=>∃b,e=[v0,v1,v2,#v[(m:Nat),0],#v[(r:Nat),0],v5,v6,#v[bLW m (par ts),6],#v[bLW m N.testBit,6],#v[[bLW m (par ts),.tup R],3],b]) (zin (a:=gArg (gC (.int 2))) (en:=#v[9,12]) (e1:=#v[9,12]) (n:=2) rfl #v[]) ⟨_,rfl⟩ λi x e g o=>by
  obtain⟨b,rfl⟩:=o;refine⟨#v[6,12],#v[6,12],rfl,.inl ?_,_,rfl⟩;have k:kdW m r=.tup [.int (m:Nat),.int (r:Nat)]:=rfl;rw[k] at d;generalize bLW m (par ts)=y at *
  generalize bLW m N.testBit=B at *
  unfold zum;simp! [q,t,d,s]
 exact⟨_,h⟩
noncomputable abbrev OW:=Option (W×Bool)
theorem yaa {Ψ:Str->Fn}(F:Fns Ψ){k m r:Nat}{st x:W}{ts:List (List Nat)}{v0 v2 v7 v8 v9 v10:Option (W×Bool)}(hs:HS k st)(hk:k+200<big)(n:1<=m)(b:m<=6)(A:r<=m)(M:x=.tup (ts.map tmW)\/x=.lst (ts.map tmW))(Y:ts.Nodup)(Z:ts.length<=64)(D:∀t∈ts,t∈zab m r):∃q:W×OW×OW×OW×OW×OW,zqz Ψ [v0,#v[st,5],v2,#v[(m:Nat),0],#v[(r:Nat),0],#v[(((2^(m-r)-1)/2:Nat):Int),0],#v[x,6],v7,v8,v9,v10]=Za ([v0,#v[q.1,5],v2,#v[(m:Nat),0],#v[(r:Nat),0],#v[(((2 ^ (m - r) - 1) / 2:Nat):Int),0],q.2.1,q.2.2.1,q.2.2.2.1,q.2.2.2.2.1,q.2.2.2.2.2],.nx)/\HS (k+66) q.1:=by
 have p6:=zdl (show m-r<=6 by omega);have U:=zdl b;have p0:0<2^(m-r):=Nat.pow_pos #v[0,9];have V:=zfr b A;have f:=F.hX m ts x M b Z λt h=>(V.mem t (V.all t (D t h))).2.1;have f:Ψ "_law_values" [.int (m:Nat),x]=Za ([.int (m:Nat),x],(bLW m (par ts),Zd)):=f;generalize hc:(2^(m-r)-1)/2=c at *
 obtain⟨o,q1,d,X,K,a1⟩:=F.hK k st ((c+1:Nat):Int) hs #v[] #v[] #v[];obtain⟨q1,rfl⟩:=Eu K;obtain⟨s,a,T,E,J,b1⟩:=F.hK (k+1) o 3 X #v[] #v[0,9] #v[0,9];obtain⟨a,rfl⟩:=Eu J;have P:(c:Int)+1=((c+1:Nat):Int):=by omega
 have u:∃y:Nat,oIx (.lst [.int (c:Nat),.int (c:Nat),.int (q1:Nat)]) (.int (a:Nat))=#v[(y:Nat),0]/\y<=c:=by
  have:a=0\/a=1\/a=2:=by omega
  rcases this with rfl|rfl|rfl
  ·exact⟨c,rfl,by omega⟩
  ·exact⟨c,rfl,by omega⟩
  ·exact⟨q1,rfl,by omega⟩
 obtain⟨y,u,hy⟩:=u;obtain⟨st3,g,e,I,cn⟩:=F.hF (k+2) s m y (par ts) E #v[] b #v[];obtain⟨N,_,hN,O,G⟩:=z3i m g;have H:Hrd m r ts N:=by
  refine⟨n,b,A,Y,D,?_⟩;rw[zsh (g:=λp=>g p ^^ par ts p) λp Q=>by rw[G p Q]];omega
 rw[O] at e;have i:=F.hM m r N ts H;have ne:oNe (bLW m (par ts)) (bLW m (par ts))=Za #v[1,8]:=ne_l _;obtain⟨j,l⟩:=z91 F (v0:=v0) (v1:=#v[st3,5]) (v2:=v2) (v5:=#v[(c:Nat),0]) (v6:=#v[x,6]) (v10:=v10) H hN;generalize hR:((votL m r).map (rowD m ts N)).map rowW=R at *
 refine⟨(st3,#v[x,6],#v[bLW m (par ts),6],#v[bLW m N.testBit,6],#v[[bLW m (par ts),.tup R],3],j),?_,I.mono #v[]⟩;unfold zqz;refine zdm (e1:=[v0,#v[st,5],v2,#v[(m:Nat),0],#v[(r:Nat),0],#v[(c:Nat),0],#v[x,6],#v[bLW m (par ts),5],v8,v9,v10]) ?_ (zdm (e1:=[v0,#v[st3,5],v2,#v[(m:Nat),0],#v[(r:Nat),0],#v[(c:Nat),0],#v[x,6],#v[bLW m (par ts),6],#v[bLW m N.testBit,5],v9,v10]) ?_ (zdm (e1:=#v[2,11]) ?_ (zdm (e1:=#v[2,11]) ?_ l)))
 ·clear l i ne e;generalize bLW m (par ts)=B at *
  simp! [f]
 ·clear l i ne;generalize bLW m (par ts)=B at *
  generalize bLW m N.testBit=C at *
  have z:atI #v[6,21] (a:Int)=Za (.int (y:Nat)):=by
   have:((atI #v[6,21] (a:Int)).bind λw=>#v[w,6])=#v[(y:Nat),0]:=u;obtain⟨w,n,S⟩:=bS this;have L:w=.int (y:Nat):=congrArg Prod.fst (sI S);rw[n,L]
  simp! [P,d,T,z,e]
 ·clear l ne e;generalize bLW m (par ts)=B at *
  generalize bLW m N.testBit=C at *
  simp! [i]
 ·clear l i e f;generalize bLW m (par ts)=B at *
  generalize bLW m N.testBit=C at *
  simp! [ne]
theorem yd2:∀m r:Fin 7,(zab m.val r.val).Nodup:=by decide +kernel
theorem z85 {Ψ:Str->Fn}(F:Fns Ψ){k:Nat}{st:W}{v0 v2 v3 v4 v5 v6 v7 v8 v9 v10:Option (W×Bool)}(U:HS k st)(Y:k+1000<big):∃q:W×OW×OW×OW×OW×OW×OW×OW×OW,zpn Ψ [v0,#v[st,5],v2,v3,v4,v5,v6,v7,v8,v9,v10]=Za ([v0,#v[q.1,5],v2,q.2.1,q.2.2.1,q.2.2.2.1,q.2.2.2.2.1,q.2.2.2.2.2.1,q.2.2.2.2.2.2.1,q.2.2.2.2.2.2.2.1,q.2.2.2.2.2.2.2.2],.nx)/\HS (k+300) q.1:=by
 obtain⟨st1,m,r,c,R,I,a,V⟩:=F.hQ k st U #v[];obtain⟨s,y,P,A,d⟩:=F.hP (k+2) st1 m r R #v[] a #v[];have M:=F.hT m r a #v[];have x:=(zl2 a (show r<=6 by omega)).1;have o:(zab m r).Nodup:=yd2 ⟨m,by omega⟩ ⟨r,by omega⟩;have X:=zdl (show m-r<=6 by omega);have Z:0<2^(m-r):=Nat.pow_pos #v[0,9];have J:=pow1 (l:=m-r) #v[];have B:(m:Int)-(r:Int)=((m-r:Nat):Int):=by omega
 have z:(((2^(m-r):Nat):Int)-1)/2=(((2^(m-r)-1)/2:Nat):Int):=by omega
 have D:cDiv (((2^(m-r):Nat):Int)-1) 2=Zd:=by unfold cDiv;rfl
 have j:∃q:W×OW×OW×OW×OW×OW,zvn Ψ [v0,#v[st1,5],v2,#v[(m:Nat),0],#v[(r:Nat),0],#v[(((2^(m-r)-1)/2:Nat):Int),0],v6,v7,v8,v9,v10]=Za ([v0,#v[q.1,5],v2,#v[(m:Nat),0],#v[(r:Nat),0],#v[(((2 ^ (m - r) - 1) / 2:Nat):Int),0],q.2.1,q.2.2.1,q.2.2.2.1,q.2.2.2.2.1,q.2.2.2.2.2],.nx)/\HS (k+298) q.1:=by
  unfold zvn;generalize K:#v[W.int (((2^(m-r)-1)/2:Nat):Int),6]=C;obtain⟨H,h,q,rfl,g⟩:=zaz (mp:=[]) (T:=.nm 6) (body:=zqz Ψ) (it:=zap (zbr #v[1,9])) (ws:=[.tup (y.map tmW),.lst [],.lst ((zab m r).map tmW)]) (λi e=>∃q:W×OW×OW×OW×OW×OW,e=[v0,#v[q.1,5],v2,#v[(m:Nat),0],#v[(r:Nat),0],C,q.2.1,q.2.2.1,q.2.2.2.1,q.2.2.2.2.1,q.2.2.2.2.2]/\HS (k+68+70*i) q.1) (en:=[v0,#v[st1,5],v2,#v[(m:Nat),0],#v[(r:Nat),0],C,v6,v7,v8,v9,v10]) (e0:=[v0,#v[s,5],v2,#v[(m:Nat),0],#v[(r:Nat),0],C,v6,v7,v8,v9,v10]) (by
   simp! [P,M]) ⟨(s,v6,v7,v8,v9,v10),rfl,A.mono #v[]⟩ λi w e b N=>by
   obtain⟨q,rfl,g⟩:=N;have n:=(Af.mp b).1;have n:i<3:=n;have f:∃u:List (List Nat),(w=.tup (u.map tmW)\/w=.lst (u.map tmW))/\u.Nodup/\u.length<=64/\∀t∈u,t∈zab m r:=by
    have:i=0\/i=1\/i=2:=by omega
    rcases this with rfl|rfl|rfl
    ·exact⟨y,.inl (sI b).symm,o.sublist d,Bj d.length_le x,λt h=>d.subset h⟩
    ·exact⟨[],.inr (sI b).symm,Hg,Ch _,λ_ h=>(Cb h).elim⟩
    ·exact⟨zab m r,.inr (sI b).symm,o,x,λt h=>h⟩
   obtain⟨u,f,L,Q,S⟩:=f;obtain⟨O,p,E⟩:=yaa F (k:=k+68+70*i) (v0:=v0) (v2:=v2) (v7:=q.2.2.1) (v8:=q.2.2.2.1) (v9:=q.2.2.2.2.1) (v10:=q.2.2.2.2.2) g #v[] I a V f L Q S;rw[K] at p;exact⟨[v0,#v[q.1,5],v2,#v[(m:Nat),0],#v[(r:Nat),0],C,#v[w,6],q.2.2.1,q.2.2.2.1,q.2.2.2.2.1,q.2.2.2.2.2],_,rfl,.inl p,O,rfl,E.mono #v[]⟩
  exact⟨q,h,g.mono (show k+68+70*3<=_ by omega)⟩
 obtain⟨q,j,g⟩:=j;refine⟨(q.1,#v[(m:Nat),0],#v[(r:Nat),0],#v[(((2^(m-r)-1)/2:Nat):Int),0],q.2),?_,g.mono #v[]⟩;have G:kdW m r=.tup [.int (m:Nat),.int (r:Nat)]:=rfl;rw[G] at c;unfold zpn;refine zdm (e1:=[v0,#v[st1,5],v2,#v[(m:Nat),0],#v[(r:Nat),0],v5,v6,v7,v8,v9,v10]) ?_ (zdm (e1:=[v0,#v[st1,5],v2,#v[(m:Nat),0],#v[(r:Nat),0],#v[(((2^(m-r)-1)/2:Nat):Int),0],v6,v7,v8,v9,v10]) ?_ j)
 ·simp! [c]
 ·simp! [B,J,za0,D,z]
theorem z8f {Ψ:Str->Fn}(F:Fns Ψ){st:W}{ns:List Int}(x:ns.length<=63)(m:HS 0 st):∃b,zvf Ψ #v[3,12]=Za (Za #v[7,7]::b,.nx):=by
 have u:(20000:Nat)<big:=by decide
 have o:∃n:Nat,oMin [.int 8,.int (ns.length:Nat)]=#v[(n:Nat),0]/\n<=8:=by
  by_cases c:(ns.length:Int)<8
  ·exact⟨ns.length,by show Za (W.int (if (ns.length:Int)<8 then _ else _),Zc)=_;rw[if_pos c],by omega⟩
  ·exact⟨8,by show Za (W.int (if (ns.length:Int)<8 then _ else _),Zc)=_;rw[if_neg c];rfl,by omega⟩
 obtain⟨n,o,r⟩:=o;have d:∃j:Nat,oMax [.int 3,.int (n:Nat)]=#v[(j:Nat),0]/\j<=8:=by
  by_cases c:(n:Int) > 3
  ·exact⟨n,by show #v[W.int (if (n:Int) > 3 then _ else _),6]=_;rw[if_pos c],r⟩
  ·exact⟨3,by show #v[W.int (if (n:Int) > 3 then _ else _),6]=_;rw[if_neg c];rfl,by omega⟩
 obtain⟨j,d,z⟩:=d;have s:seqW (.frl (ns.map W.int))=Za (ns.map W.int):=rfl;unfold zvf;obtain⟨b,h,q,rfl,_⟩:=zaz (mp:=[]) (T:=.nm 2) (body:=zpn Ψ) (λi e=>∃q:W×OW×OW×OW×OW×OW×OW×OW×OW×OW,e=[Za #v[7,7],#v[q.1,5],q.2.1,q.2.2.1,q.2.2.2.1,q.2.2.2.2.1,q.2.2.2.2.2.1,q.2.2.2.2.2.2.1,q.2.2.2.2.2.2.2.1,q.2.2.2.2.2.2.2.2.1,q.2.2.2.2.2.2.2.2.2]/\HS (300*i) q.1) (zin (a:=#v[3,15]) (en:=#v[3,12]) (e1:=#v[3,12]) (n:=j) (by simp! [s,Ad,o,d]) #v[]) ⟨(st,Zb,Zb,Zb,Zb,Zb,Zb,Zb,Zb,Zb),rfl,m⟩ λi w e t p=>by
  obtain⟨q,rfl,g⟩:=p;obtain⟨y,rfl⟩:=zen t;obtain⟨f,l,k⟩:=z85 (Ψ:=Ψ) F (v0:=Za #v[7,7]) (v2:=#v[(0+(i:Int)),0]) (v3:=q.2.2.1) (v4:=q.2.2.2.1) (v5:=q.2.2.2.2.1) (v6:=q.2.2.2.2.2.1) (v7:=q.2.2.2.2.2.2.1) (v8:=q.2.2.2.2.2.2.2.1) (v9:=q.2.2.2.2.2.2.2.2.1) (v10:=q.2.2.2.2.2.2.2.2.2) g #v[];exact⟨_,_,rfl,.inl l,(f.1,#v[(0+(i:Int)),0],f.2),rfl,k.mono #v[]⟩
 exact⟨_,h⟩
theorem sm0 (d:Nat)(a:Int):sem T bn (d+3) "_law_same" #v[3,21]=Za (#v[3,21],#v[6,11]):=by
 rw[zb9];exact yab _ a
theorem sm1 (d:Nat)(t:List Nat)(h:t.length<=100):sem T bn (d+4) "_law_same" [tmW t,tmW t]=Za ([tmW t,tmW t],#v[6,11]):=by
 have e:=zb9 (d+1);have e:sem T bn (d+4) "_law_same" = zad [Zc,Zc] 2 (zan (sem T bn (d+3))):=e;rw[e];refine zrn (xs:=zac t) (λx a=>?_) (by rw[zat];omega);obtain⟨l,_,rfl⟩:=Dr.mp a;exact sm0 d _
theorem sm2 (d:Nat)(x:VR)(h:x.1.length<=100):sem T bn (d+5) "_law_same" [rowW x,rowW x]=Za ([rowW x,rowW x],#v[6,11]):=by
 have e:sem T bn (d+5) "_law_same" = zad [Zc,Zc] 2 (zan (sem T bn (d+4))):=zb9 (d+2);rw[e];refine zrn (λy a=>?_) (show 3<=1000 by decide);rcases Ap.mp a with rfl|a
 ·exact sm1 d _ h
 ·rcases Ap.mp a with rfl|a
  ·exact sm0 (d+1) _
  ·rw[Az.mp a];exact sm0 (d+1) _
theorem sm4 (d:Nat)(w:Nat)(R:List VR)(h:R.length<=100)(c:∀x∈R,x.1.length<=100):sem T bn (d+7) "_law_same" [.tup #v[4,10],.tup #v[4,10]]=Za ([.tup #v[4,10],.tup #v[4,10]],#v[6,11]):=by
 have e:sem T bn (d+7) "_law_same" = zad [Zc,Zc] 2 (zan (sem T bn (d+6))):=zb9 (d+4);have f:sem T bn (d+6) "_law_same" = zad [Zc,Zc] 2 (zan (sem T bn (d+5))):=zb9 (d+3);rw[e];refine zrn (λy a=>?_) (show 2<=1000 by decide);rcases Ap.mp a with rfl|a
 ·exact sm0 (d+3) _
 ·rw[Az.mp a,f];refine zrn (λz g=>?_) (by rw[Ad];omega);obtain⟨x,b,rfl⟩:=Dr.mp g;exact sm2 d x (c x b)
theorem zyl (ns:List Int)(l:ns.length<=63):sem T bn 40 "law" [.frl (ns.map W.int)]=Za ([.frl (ns.map W.int)],#v[6,11]):=by
 rw[yds];generalize a:sem T bn 39=Ψ;have p:z3e (Ψ "_law_hand"):=by rw[<-a,zpi];exact z7q (sem T bn 0)
 have hK:∀d,zgm (sem T bn (d+3) "_law_take"):=λd=>by rw[zpk];exact z7j (sem T bn 0)
 have c:∀d,zdy (sem T bn (d+3) "_law_terms"):=λd=>by rw[zkv];exact zzx (sem T bn 0)
 have hX:∀d,zfm (sem T bn (d+3) "_law_values"):=λd=>by rw[zi9];exact zz3 (sem T bn 0)
 have j:∀d,z7g (sem T bn (d+3) "says"):=λd=>by rw[z9e];exact z8n (z3y (sem T bn 0))
 have g:∀d,zfb (sem T bn (d+3) "word_at"):=λd=>by rw[zk8];exact zsj (sem T bn 0)
 have b:∀d,z0k (sem T bn (d+3) "plus"):=λd=>by rw[z8u];exact z36 (sem T bn 0)
 have f:∀d,zz9 (sem T bn (d+3) "times"):=λd=>by rw[z4t];exact zyj (sem T bn 0)
 have e:∀d,zf1 (sem T bn (d+10) "word_of"):=λd=>by
  rw[ztd];exact zrz (g _) (by rw[zk8];exact zok (sem T bn 0)) (by rw[z5l];exact z0p (by rw[zwq];exact z74 (by rw[znn];exact yc3 (by rw[zw7];exact zsx (sem T bn 0))) (f _) (b _)))
 have i:∀d,zqr (sem T bn (d+3) "chosen_above"):=λd=>by rw[zhv];exact z43 (sem T bn 0)
 have F:Fns Ψ:=by
  refine⟨?_,?_,?_,?_,?_,?_,?_,?_,?_,?_⟩
  ·rw[<-a];exact hK 36
  ·rw[<-a,znp];exact ybd (hK 35)
  ·rw[<- a,e__law_poly];exact z69 (c 35) (by rw[zod];exact z46 (hK 34))
  ·rw[<-a];exact c 36
  ·rw[<-a];exact hX 36
  ·rw[<-a,zi7];exact zxg (hK 35)
  ·rw[<- a,e__law_mended];exact zu0 (by rw[zm5];exact z6r (by rw[zms];exact z0l (sem T bn 0))) (c 35) (hX 35)
  ·rw[<-a,znt];exact z59 (sem T bn 0)
  ·rw[<- a,e_mend];refine z79 ?_ ?_ ?_ ?_
   ·rw[e_voted_terms];exact zyn (by rw[z7m];exact zyi (Ψ':=sem T bn 0) (by rw[zhq];rfl))
   ·rw[e_vote_row];exact z3z (z6p (b _)) (e 27) (i 34) (by rw[z6o];exact zyy (z6p (b _)) (f _) (g _) (j _))
   ·rw[e_word_by_votes];exact z0c (e 27) (i 34)
   ·rw[e_is_near];exact yaq (by rw[z2c];exact ydv (by rw[zyz];exact zth (sem T bn 0)) (z6p (b _))) (by rw[z6g];exact z1r (sem T bn 0))
  ·intro w R h n;rw[<-a];exact sm4 32 w R h n
 clear hK c hX j g b f e i;obtain⟨s,o,m⟩:=p ns l;obtain⟨k,q⟩:=z8f F l m;unfold z47;refine za3 (en:=Za #v[7,7]::k) rfl (zdm (e1:=[Za #v[7,7],#v[s,5],Zb,Zb,Zb,Zb,Zb,Zb,Zb,Zb,Zb]) ?_ (zdm q ?_)) rfl
 ·simp! [o]
 ·simp! []
noncomputable abbrev nA (K:Zg) (n:Str) (f:Zh):Prop:=PySem.W.nsIn K mainGlobals n=Za (Za (.ref f))
noncomputable abbrev nL (K:Zg) (f:Zh) (o:Ze) (b:Option Zh) (n:Str) (st:Stmt) (kV d pm:Ze) (e:Option Zh) (c a:Ze) (s:Array (Option Ze)):Prop:=K.lookup f=Za ⟨o,b,.func (PySem.W.fnOf n n (zfn st) (zdr st) (zar st) .none kV d pm e c a),s⟩
noncomputable abbrev nC (K:Zg) (c:Ze) (n:Str):Prop:=PySem.W.codeIn K c n=Zd
noncomputable abbrev nK (K:Zg) (f:Zh):Prop:=PySem.W.keepIn K (.ref f)=Zd
noncomputable def nD (K:Zg) (t:Fd):Prop:=∃(f:Zh) (o:Ze) (a:Option Zh) (kV d p:Ze) (e:Option Zh) (c b:Ze) (s:Array (Option Ze)),nA K t.nm f/\nL K f o a t.nm t.st kV d p e c b s/\nC K c t.nm/\nK K f
theorem nD_i {K:Zg}{n:Str}{t:Fd}{f:Zh}{o:Ze}{g:Option Zh}{kV d pm:Ze}{i:Option Zh}{b h:Ze}{s:Array (Option Ze)}(e:t.nm=n)(a:nA K n f)(l:nL K f o g n t.st kV d pm i b h s)(c:nC K b n)(k:nK K f):nD K t:=by
 subst e;exact⟨_,_,_,_,_,_,_,_,_,_,a,l,c,k⟩
noncomputable def bO (t:Fd):Prop:=FnScope t.N t.ps (zar t.st)/\t.m.length=t.ps.length/\∀(kV doc p:Ze) (a:Option Zh) (cdv c:Ze) (u:List Ze),u.length=t.ps.length->bindArgs (PySem.W.fnOf t.nm t.nm (zfn t.st) (zdr t.st) (zar t.st) .none kV doc p a cdv c) ⟨u,[]⟩=pure (t.ps.zip u)
theorem yct {K:Zg}{h:Heap}{m:Str->Option Ze}(X:K.In h)(G:h.Ns mainGlobals m){t:Fd}(b:bO t)(e:t.nm∈lams->zzj K t.nm=Zd)(d:nD K t):FdOk K m t:=by
 obtain⟨f,o,n,kV,i,p,q,g,j,s,a,l,c,k⟩:=d;have F:=z3l (st:=t.st) l c k;exact⟨b.1,b.2.1,⟨_,_,F,F.binds b.2.2,PySem.W.mg_of X G a⟩,e⟩
theorem nd_T:(T.map (·.nm)).Nodup:=by decide +kernel
theorem all_c {α:Type}{P:α->Prop}{a:α}{l:List α}(h:P a)(r:∀x∈l,P x):∀x∈a::l,P x:=List.forall_mem_cons.mpr ⟨h,r⟩
theorem all_n {α:Type}{P:α->Prop}:∀x∈([]:List α),P x:=λ_ h=>nomatch h
@[elab_as_elim] theorem lenS {α:Type}{P:List α->Prop}{n:Nat} (u:List α) (b:u.length=n+1) (h:∀a l,l.length=n->P (a::l)):P u:=by
 cases u with
 |nil=>cases b
 |cons a l=>exact h a l (Nat.succ.inj b)
@[elab_as_elim] theorem len0 {α:Type}{P:List α->Prop} (u:List α) (b:u.length=0) (h:P []):P u:=by
 cases u with
 |nil=>exact h
 |cons a l=>cases b
@[elab_as_elim] theorem len1 {α:Type}{P:List α->Prop} (u:List α) (b:u.length=1) (h:∀a,P [a]):P u:=lenS u b λa l e=>len0 l e (h a)
@[elab_as_elim] theorem len2 {α:Type}{P:List α->Prop} (u:List α) (c:u.length=2) (h:∀a b,P [a,b]):P u:=lenS u c λa l e=>lenS l e λb l e=>len0 l e (h a b)
@[elab_as_elim] theorem len3 {α:Type}{P:List α->Prop} (u:List α) (d:u.length=3) (h:∀a b c,P [a,b,c]):P u:=lenS u d λa l e=>len2 l e (h a)
@[elab_as_elim] theorem len4 {α:Type}{P:List α->Prop} (u:List α) (f:u.length=4) (h:∀a b c d,P [a,b,c,d]):P u:=lenS u f λa l e=>len3 l e (h a)
theorem zrx:bO zeq:=#v[5,7]
theorem z7a:bO zqq:=#v[1,7]
theorem zv9:bO zf5:=#v[5,7]
theorem zsn:bO ze6:=#v[5,7]
theorem z32:bO zpq:=#v[1,7]
theorem z0a:bO zjs:=#v[1,7]
theorem zx2:bO zgb:=#v[1,7]
theorem zmy:bO zdd:=#v[1,7]
theorem zse:bO zew:=#v[0,8]
theorem z1o:bO zju:=#v[1,7]
theorem zsk:bO zfa:=#v[1,7]
theorem zgy:bO zbi:=#v[1,7]
theorem z09:bO zje:=#v[5,7]
theorem zzb:bO zi4:=#v[5,7]
theorem zr4:bO zfd:=#v[0,8]
theorem zzv:bO ziu:=#v[0,8]
theorem zhp:bO zbw:=#v[5,7]
theorem zgt:bO zbo:=#v[1,7]
theorem zox:bO zea:=⟨#v[0,0,5],rfl,λ_ _ _ _ _ _ u h=>len4 u h λ_ _ _ _=>rfl⟩
theorem zfx:bO zbc:=#v[1,7]
theorem z66:bO zrh:=#v[1,7]
theorem zl0:bO zdh:=#v[5,7]
theorem znh:bO zc5:=#v[1,7]
theorem zli:bO zdb:=#v[1,7]
theorem zm8:bO zdg:=#v[5,7]
theorem zke:bO zce:=#v[1,7]
theorem zh2:bO zbx:=#v[1,7]
theorem zl3:bO zc6:=#v[0,8]
theorem zmi:bO zdf:=#v[1,7]
theorem zl1:bO zda:=#v[5,7]
theorem zj8:bO zch:=#v[5,7]
theorem zjz:bO zci:=#v[0,8]
theorem zhl:bO zb5:=#v[0,8]
theorem zhk:bO zbv:=#v[0,8]
theorem z8l:bO zos:=#v[5,7]
theorem all_mk {l:PySem.W.OpenLaw}{w:World}{K:Zg}{h:Heap}{m:Str->Option Ze}{i:Zh} (X:K.In h) (G:h.Ns mainGlobals m) (d:m "law" = Za (.ref i)) (D:∀t∈T,nD K t) (M:∀x∈(["voted_terms","_law_terms","law"]:List Str),zzj K x=Zd) (Z:∀x∈bn,PySem.W.nsIn K mainGlobals x=Za Zb) :
  ∃g:FuncData,(∀(s:Zf) (v:Ze),BindsTo s g ⟨[v],[]⟩ [("_law_script",v)])/\∀base:Heap,K.In base->base.Ns mainGlobals m->FnOk l.prog w K m base CX0 40 i g ["_law_script"] (spF K [Zc] (sem T bn 40 "law")):=by
 have B:∀t∈T,bO t:=all_c zrx (all_c z7a (all_c zv9 (all_c zsn (all_c z32 (all_c z0a (all_c zx2 (all_c zmy (all_c zse (all_c z1o (all_c zsk (all_c zgy (all_c z09 (all_c zzb (all_c zr4 (all_c zzv (all_c zhp (all_c zgt (all_c zox (all_c zfx (all_c z66 (all_c zl0 (all_c znh (all_c zli (all_c zm8 (all_c zke (all_c zh2 (all_c zl3 (all_c zmi (all_c zl1 (all_c zj8 (all_c zjz (all_c zhl (all_c zhk (all_c z8l (all_n)))))))))))))))))))))))))))))))))));have q:∀t∈T,t.nm∈lams->t.nm∈(["voted_terms","_law_terms","law"]:List Str):=by decide +kernel
 obtain⟨f,H,I,kV,E,A,z,u,C,y,a,o,c,k⟩:=D zos (by simp [T]);have F:=z3l (st:=zos.st) o c k;have e:=d.symm.trans (PySem.W.mg_of X G a);cases e;exact⟨_,λs v=>.of_eq rfl,λbase r n=>ztc nd_T (λt b=>yct X G (B t b) (λp=>M _ (q t b p)) (D t b)) (λx j=>PySem.W.mg_none_of X G (Z x j)) r n 40 zos (by simp [T]) _ _ F (PySem.W.mg_of X G a)⟩
theorem walk {l:PySem.W.OpenLaw}{q:Program}{b:List Str}{X:(Str->Option Ze)->Heap->Prop}{Y:World->Heap->Prop}{d:DefRec}{K:Params->Zg} (A:l.most=Za 63) (g:d.params.defaults=[])
  (C:∀(w:World) (h:Heap),Y w h->(K w.params).In h)
  (r:∀w:World,PySem.W.noTabs (K w.params)=Zd) (B:∀w:World,zvu (K w.params)=Zd) (hrec:∀(w:World),∀x∈lams,∀c P,PySem.W.tabIn (K w.params) x=Za (c,P)->∃d,(recsOf q).find? (λe=>e.name==x)=Za d)
  (F:∀(w:World) (m:Str->Option Ze) (j:Zh) (h:Heap),(K w.params).In h->h.Ns mainGlobals m->m d.name=Za (.ref j) ->
   ∃i:FuncData,(∀(s:Zf) (u:Ze),BindsTo s i ⟨[u],[]⟩ [("_law_script",u)])/\∀base:Heap,(K w.params).In base->base.Ns mainGlobals m->FnOk l.prog w (K w.params) m base CX0 40 j i ["_law_script"] (spF (K w.params) [Zc] (sem T bn 40 "law"))) :
  PySem.W.WalkO q b X Y l.row.toRowW d [] (λf t=>PySem.call f t) :=
 L2.walk_ofT (n:=63) (k:=40) (x := "_law_script") (CX:=λ_=>CX0) (sp:=λw=>spF (K w.params) [Zc] (sem T bn 40 "law")) A #v[0,9] g ⟨rfl,by decide,by decide,rfl⟩ C r B hrec F (λ_ _ _ a o y p hS=>zsp p.sub p.tb hS (ws':=[.frl (o.map W.int)]) (zyl o y) rfl) λ_ _ _ _ _ z=>z
end My
open PySem PySem.W PyProof.Rows
set_option maxRecDepth 100000 in
set_option maxHeartbeats 0 in
theorem PySem.Challenge.cw_yesnowords_k48_words_mended_holds : PySem.Challenge.rw_yesnowords_k48_words_mended.Holds := by
 w_on;o_law;k_head;(case hw=>w_witness2)
 k_fill
 refine My.walk (l:=PySem.Challenge.rw_yesnowords_k48_words_mended) rfl rfl (fun w h Y=>by first | exact PySem.W.kIn_of Y | exact PySem.W.km_in_of Y) ?nt ?nd ?hrec ?F
 case nt=>exact fun w=>by kernel_rfl
 case nd=>exact fun w=>by kernel_rfl
 case hrec =>
  intro w x hx c P e;simp only [L2.lams,Ap,Cb,Gk] at hx;rcases hx with rfl | rfl | rfl | rfl | rfl
  ·exact Eo.mp (by kernel_rfl)
  ·exact nomatch (Eq.trans (by kernel_rfl) e:(none:Option (Addr × Addr))=some (c,P))
  ·exact nomatch (Eq.trans (by kernel_rfl) e:(none:Option (Addr × Addr))=some (c,P))
  ·exact Eo.mp (by kernel_rfl)
  ·exact Eo.mp (by kernel_rfl)
 case F =>
  intro w mg fa h KX G hmg;refine My.all_mk KX G hmg ?xD ?xM ?xZ
  case xM=>exact My.all_c (by kernel_rfl) (My.all_c (by kernel_rfl) (My.all_c (by kernel_rfl) (My.all_n)))
  case xZ =>
   refine' My.all_c ?_ (My.all_c ?_ (My.all_c ?_ (My.all_c ?_ (My.all_c ?_ (My.all_c ?_ (My.all_c ?_ (My.all_c ?_ (My.all_c ?_ (My.all_c ?_ (My.all_c ?_ (My.all_c ?_ (My.all_c ?_ (My.all_c ?_ (My.all_c ?_ (My.all_c ?_ (My.all_c ?_ (My.all_c ?_ (My.all_c ?_ (My.all_n)))))))))))))))))))
   any_goals k_is
  case xD =>
   refine' My.all_c (My.nD_i (n := "all_yes") rfl ?_ ?_ ?_ ?_) (My.all_c (My.nD_i (n := "says") rfl ?_ ?_ ?_ ?_) (My.all_c (My.nD_i (n := "weight") rfl ?_ ?_ ?_ ?_) (My.all_c (My.nD_i (n := "word_at") rfl ?_ ?_ ?_ ?_) (My.all_c (My.nD_i (n := "plus") rfl ?_ ?_ ?_ ?_) (My.all_c (My.nD_i (n := "times") rfl ?_ ?_ ?_ ?_) (My.all_c (My.nD_i (n := "unlike") rfl ?_ ?_ ?_ ?_) (My.all_c (My.nD_i (n := "letter_no") rfl ?_ ?_ ?_ ?_) (My.all_c (My.nD_i (n := "stepped") rfl ?_ ?_ ?_ ?_) (My.all_c (My.nD_i (n := "steps") rfl ?_ ?_ ?_ ?_) (My.all_c (My.nD_i (n := "word_of") rfl ?_ ?_ ?_ ?_) (My.all_c (My.nD_i (n := "longer_terms") rfl ?_ ?_ ?_ ?_) (My.all_c (My.nD_i (n := "terms") rfl ?_ ?_ ?_ ?_) (My.all_c (My.nD_i (n := "least") rfl ?_ ?_ ?_ ?_) (My.all_c (My.nD_i (n := "is_near") rfl ?_ ?_ ?_ ?_) (My.all_c (My.nD_i (n := "votes") rfl ?_ ?_ ?_ ?_) (My.all_c (My.nD_i (n := "voted_terms") rfl ?_ ?_ ?_ ?_) (My.all_c (My.nD_i (n := "chosen_above") rfl ?_ ?_ ?_ ?_) (My.all_c (My.nD_i (n := "vote_row") rfl ?_ ?_ ?_ ?_) (My.all_c (My.nD_i (n := "word_by_votes") rfl ?_ ?_ ?_ ?_) (My.all_c (My.nD_i (n := "mend") rfl ?_ ?_ ?_ ?_) (My.all_c (My.nD_i (n := "_law_hand") rfl ?_ ?_ ?_ ?_) (My.all_c (My.nD_i (n := "_law_take") rfl ?_ ?_ ?_ ?_) (My.all_c (My.nD_i (n := "_law_bits") rfl ?_ ?_ ?_ ?_) (My.all_c (My.nD_i (n := "_law_word") rfl ?_ ?_ ?_ ?_) (My.all_c (My.nD_i (n := "_law_terms") rfl ?_ ?_ ?_ ?_) (My.all_c (My.nD_i (n := "_law_values") rfl ?_ ?_ ?_ ?_) (My.all_c (My.nD_i (n := "_law_poly") rfl ?_ ?_ ?_ ?_) (My.all_c (My.nD_i (n := "_law_same") rfl ?_ ?_ ?_ ?_) (My.all_c (My.nD_i (n := "_law_kind") rfl ?_ ?_ ?_ ?_) (My.all_c (My.nD_i (n := "_law_along") rfl ?_ ?_ ?_ ?_) (My.all_c (My.nD_i (n := "_law_votes") rfl ?_ ?_ ?_ ?_) (My.all_c (My.nD_i (n := "_law_mended") rfl ?_ ?_ ?_ ?_) (My.all_c (My.nD_i (n := "_law_faulty") rfl ?_ ?_ ?_ ?_) (My.all_c (My.nD_i (n := "law") rfl ?_ ?_ ?_ ?_) (My.all_n)))))))))))))))))))))))))))))))))))
   any_goals (first | (delta My.nA;k_is) | (delta My.nL;k_is) | (delta My.nC;k_is) | (delta My.nK;k_is) | k_is)