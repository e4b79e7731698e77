import PyProof.Rows.All
import Wide.All
import OpenK.AllK
import Wide.FinOn
import Lean
import PyProof.EqAt
import PyProof.EqKinds
import PyProof.TupleCall
import PyProof.Rows.SortRuns
import PyProof.DictUpdate
import PyProof.AttrMissHeap
import PyProof.IsiH_list
import KE.KDictOf
import PyProof.DictCompW
import PyProof.Rows.SetFrom
import KE.KDictList
import KE.KTryDeep
import PySem.Challenge.RW_yesnowords_k19_digits_and_words
set_option Elab.async false
set_option linter.all false
set_option maxHeartbeats 2000000
local macro_rules|`(abbrev $i $s $v:declVal)=>`(noncomputable def $i $s $v:declVal)
local macro_rules|`(tactic|ext $x)=>do match x with |`(rintroPat|$i:ident)=>`(tactic|obtain $(Lean.mkIdent `rfl):ident:=$(Lean.mkIdent `sI) $i)|_=>Lean.Macro.throwUnsupported
local macro_rules|`(tactic|exists $x)=>`(tactic|exact $(Lean.mkIdent `noSome) $x)
set_option compiler.extract_closed false
set_option bootstrap.genMatcherCode false
section
open Lean
@[reducible]def nY:=Syntax
def nM:=mkAtom
def nK (k:Name)(xs:List nY):nY:=.node .none (`Lean.Parser.Term++k) xs.toArray
def nC (xs:List nY):nY:=mkNullNode ((xs.intersperse (nM ",")).toArray)
def nB (k a b:String)(x:List nY):nY:=.node .none (.mkSimple k) #[nM a,nC x,nM b]
def nP:nY:=nK `hygienicLParen [nM "(",.node .none `hygieneInfo #[mkIdent .anonymous]]
def nT (w:String):nY:=if w.front.isDigit then Syntax.mkNumLit w else if w.front=='.' then nK `dotIdent [nM ".",mkIdent (w.drop 1).toString.toName] else if w=="_" then nK `hole [nM "_"] else mkIdent w.toName
def nA:List nY->nY
 |[f]=>f
 |f::r=>nK `app [f,mkNullNode r.toArray]
 |[]=>.missing
def nG:Nat->List Char->String->List nY->List nY->List nY×List Char
 |0,cs,_,_,r=>(r,cs)
 |n+1,cs,w,a,r=>
  let b:=if w=="" then a else nT w::a
  let e:=(if b.isEmpty then r else nA b.reverse::r).reverse
  match cs with
  |[]=>(e,cs)
  |c::cs=>
   let sub:=λ(k:_->nY) b=>
    let(x,ds):=nG n cs "" [] []
    match ds with
    |'.'::es=>let f:=es.takeWhile Char.isAlphanum;nG n (es.drop f.length) "" (nK `proj [k x,nM ".",mkIdent (String.ofList f).toName]::b) r
    |_=>nG n ds "" (k x::b) r
   let fin:=λds (f:nY->nY)=>let(x,ds):=nG n ds "" [] [];(r.reverse++match x with|y::z=>f y::z|_=>[],ds)
   if c==')'||c==']'||c=='⟩' then (e,cs)
   else if c==',' then nG n cs "" [] (nA b.reverse::r)
   else if c==' ' then nG n cs "" b r
   else if c=='(' then sub (λxs=>match xs with|[x]=>nK `paren [nP,x,nM ")"]|[.missing,x,y]=>nK `typeAscription [nP,x,nM ":",mkNullNode #[y],nM ")"]|x::y=>nK `tuple [nP,mkNullNode #[x,nM ",",nC y],nM ")"]|_=>.missing) b
   else if c=='⟨' then sub (λx=>nK `anonymousCtor [nM "⟨",nC x,nM "⟩"]) b
   else if c=='[' then if w=="#v" then sub (λx=>.node .none `Vector.«term#v[_,]» #[nM "#v[",nC x,nM "]"]) a else if w=="#" then sub (nB "term#[_,]" "#[" "]") a else sub (nB "term[_]" "[" "]") b
   else if c=='"' then let s:=cs.takeWhile (·!='"');nG n (cs.drop (s.length+1)) "" (Syntax.mkStrLit (String.ofList s)::b) r
   else if c=='λ' then let s:=cs.takeWhile (·!='=');fin (cs.drop (s.length+2)) λx=>nA (nK `fun [nM "λ",nK `basicFun [mkNullNode (((String.ofList s).splitOn " ").map nT).toArray,mkNullNode,nM "=>",x]]::b).reverse
   else if "+-*^/%<=&:".contains c then
    let s:=c::cs.takeWhile ("=&:/\\".contains ·)
    if s==[':'] then nG n cs "" [] (nA b.reverse::.missing::r) else fin (cs.drop (s.length-1)) λx=>.node .none (.mkSimple s!"term_{String.ofList s}_") #[nA b.reverse,nM (String.ofList s),x]
   else nG n cs (w.push c) a r
def nD (t:String)(i j:Nat):Option nY:=((t.splitOn "|")[10*(j-7)+i]?).map λs=>nA (nG 999 s.toList "" [] []).1
end
open Lean in
local macro_rules | `(#v[$a,$b])=>(do nD "(gSeq (gSet [0] 5 (zac [true,false] (Ψ \"_law_take\") (gCns (zaa 0) (gCns (gArg (gOp2 oIx (gArg (zap (gCns #v[2] (gCns #v[5] (gCns #v[5] gA0))))) (zaa 2))) gA0)))) (zc8 (gApp 3 (gOp2 oIx (gArg (zap (gCns #v[5,4] (gCns (gArg (gOpN oInt (gCns (gArg (gOp2 oEq (zaa 5) #v[0])) gA0))) (gCns (gArg (gOpN oInt (gCns (gArg (gOp2 (oI yes2 λi j=>.bl (decide (j<i))) (zaa 5) #v[0])) gA0))) gA0))))) (zaa 2)))))|⟨#v[0,0,5],rfl,λ_ _ _ _ _ _ us hl=>len2 us hl λ_ _=>rfl⟩|(model X.prog X.w)|[#v[[.int (m:Nat),.int (most:Nat)],3],#v[(wordOf (tab (2 ^ m) f)),0],#v[(m:Nat),0],#v[(most:Nat),0],#v[((duT m f).map tmW),3]]|[some (k,false),some (.int x,false),some (.non,false),some (.non,false),none]|(.ListComp elt [⟨tg,iter,ifs,0⟩,⟨tg2,iter2,ifs2,0⟩] scope pos)|((h3.update a (Obj.mapSeq λ_=>(#[]:Array Value))).push (seqObj \"tuple\" vs.toArray 0))|⟨#v[0,0,5],rfl,λ_ _ _ _ _ _ us hl=>len1 us hl λ_=>rfl⟩|(.ListComp elt (⟨tg,iter,ifs,0⟩ :: gs) scope pos)|(.frl (ns.map W.int),false)||(gArg (gOp2 (oI cPow λi j=>.int (i ^ j.toNat)) (gArg (gC (.int 10))) (gArg (gC (.int 60)))))||(.bl false,false)|(gCns (gArg (zac [true,false] (Ψ \"_law_bits\") (gCns (zaa 1) (gCns (gArg (gOpN oLen (gCns (zaa 4) gA0))) gA0)))) (gCns (gArg (gOp2 oMult (gArg (zap (gCns #v[0] gA0))) (gArg (gOpN oLen (gCns (zaa 4) gA0))))) (gCns (gArg (gOp2 oMult (gArg (zap (gCns #v[1] gA0))) (gArg (gOpN oLen (gCns (zaa 4) gA0))))) gA0)))||[#v[(m:Nat),0],#v[(wordOf (tab (2 ^ m) f)),0],#v[(wordOf (tab (2 ^ m) (coefF f))),0]]|(gArg (gOpN oLen (gCns (zaa 0) gA0)))|(.frl ((n0::nr).map W.int),false)|[.int (m:Nat),.int (most:Nat)]||(seqObj \"list\" #[] 0)|[#v[st,5],#v[n,0],#v[way,0],#v[(xs.map W.int),2],#v[(0+(i:Nat)),0],v5]|[#v[m,0],#v[(rowF m f 0),0],#v[((tab 1 (rowF m f)).map W.int),2],none]|(.ListComp elt gens scope pos)||[some (.int (m:Nat),false),some (.lst (xs.map W.int),false),some (.lst [],true),none,none,none]|[some #v[9,7],#v[[.int 0,.int 0,.int 0],2],none,none,none,none]|(oI yes2 λi j=>.bl (decide (j<i)))|(gAug [] (oI yes2 λi j=>.int (Builtin.bitOr i j)) 1 (gArg (gOp2 #v[0,0,1] #v[1] (zaa 2))))|(gOp2 oEq (gArg (zac [false,false] (Ψ \"says\") (gCns #v[2,4] (gCns #v[1,4] gA0)))) #v[1])|[#v[m,0],#v[(rowF m f 0),0],#v[((tab (i+1) (rowF m f)).map W.int),2],#v[(0+(i:Nat)),0]]|[#v[(m:Nat),0],#v[(ts.map tmW),1],#v[((tab i (valF ts)).map W.int),2],#v[(i:Nat),0],v4]|[v0,v1,v2,#v[kdW m t,6],some (.lst ((zab m t).map tmW),o),#v[(ds.map W.int),1],v6,v7]|[#v[k,6],#v[x,0],some (.non,false),some (.non,false),none]|(.bl true,false)|(gArg (gOp2 oIx (zaa 0) #v[0]))|(s.heap.objs.size+1)|(gCns #v[0,4] (gCns (gArg (gOp2 oIx (zaa 2) (zaa 3))) (gCns #v[3,4] gA0)))|[#v[kdW m t,6],#v[x,0],v2,v3,#v[(P.map tmW),3]]|[some #v[8,8],#v[[.int 0,.int 0,.int 0],2],#v[1,0],none,none,none]|[v0,v1,#v[(wordOf (tab (2 ^ m) (coefF f))),0]]|[v0,#v[st,5],v2,#v[kdW m t,6],#v[((zab m t).map tmW),2],v5,v6,v7]||(gArg (gOp2 oAdd (gArg (gOp2 oMult (gArg (gOp2 oIx (zaa 1) (gArg (gC (.int 1))))) (gArg (gC (.int 48271))))) (zaa 5)))|(Obj.mapSeq λ_=>(#[]:Array Value))|[v0,#v[(i:Nat),0],#v[(wordOf (tab n f)),0]]|[some #v[9,7],#v[[.int a0,.int 0,.int 0],2],v2,v3,none,none]|(oI yes2 λi j=>.int (Builtin.bitAnd i j))|(seqObj \"list\" vs.toArray 0)|[#v[kdW m t,6],#v[(ds.map W.int),3],none]|[some #v[8,8],some (.lst [.int a0,.int 0,.int 0],true),some (.int wt,false),some (.int n,false),none,none]|||(s.heap.push #v[1,9])|[some #v[9,7],#v[st,5],none,none,none,none,none,none]||(gArg (gOpN oAbs (gCns (zaa 3) gA0)))|(gSeq (zbe 1 (gC (.int 0)) (gOp2 oAdd (gArg (gOp2 oIx (zaa 1) (gArg (gC (.int 0))))) (gArg (gOp2 oMult (gArg (gOp2 (oI (λ_ j=>decide (0<j)) λi j=>.int (i%j)) #v[7,12] #v[1,8])) (zaa 2))))) (gSet [] 2 (gOp2 oMult (zaa 2) #v[1,8])))|(oI (λ_ j=>decide (0<j)) λi j=>.int (i%j))|(gArg (gOpN oMax (gCns #v[3] (gCns (gArg (gOpN oMin (gCns #v[8] (gCns #v[7,8] gA0)))) gA0))))|[#v[kdW m t,6],v1,#v[(P.map tmW),3]]|[#v[st1,5],#v[n,0],#v[way,0],#v[[],2],none,none]|(gCns #v[2,4] gA0)|(gCns #v[0,4] gA0)|[v0,v1,v2,#v[tmW (letL q),6],#v[[.int 0],2],v5]||(oI cPow λi j=>.int (i^j.toNat))|[#v[#v[9,8],3],#v[(wordOf (tab (2^m) f)),0],#v[(m:Nat),0],#v[(most:Nat),0],none]|[#v[st',5],#v[n,0],#v[way,0],#v[(xs.map W.int),2],#v[(0+(i:Nat)),0],#v[one,0]]|[v0,v1,v2,#v[kdW m t,6],#v[((zab m t).map tmW),1],#v[(ds.map W.int),1],v6,v7]|[#v[kdW m t,6],#v[(xs.map W.int),1],#v[((duT m λi=>xs.getD i 0).map tmW),3]]|(gArg (gOp2 oIx (zaa 0) #v[2]))|(oI yes2 λi j=>.int (Builtin.bitXor i j))|[some #v[8,8],some (.lst [.int 0,.int 0,.int 0],true),none,none,none,none]|(gOpN oLen (gCns (zaa 1) gA0))|[some (st2,true),some (.int n,false),some (.int 3,false),none,none,none]|[some (st1,true),some (.int n,false),some (.int 3,false),none,none,none]|[#v[(wordOf (tab n f)),0],#v[(p:Nat),0]]|[#v[kdW m t,6],#v[(ds.map W.int),3],#v[((chz (zab m t) ds).map tmW),3]]|(gCns #v[1,4] gA0)|(gArg (gC (.int 2305843009213693951)))|(gCns (gArg (zac [false] (Ψ \"_law_word\") (gCns #v[6,4] gA0))) gA0)|[v0,#v[st1,5],v2,#v[kdW m t,6],#v[((zab m t).map tmW),2],v5,v6,v7]|(gArg (gOp2 #v[0,0,1] #v[1] (zaa 0)))|(oI yes2 λi j=>.int (i+j))|[.int i,.int j]||(seqObj \"list\" #[] e1)|(gCns (gArg (gOp1 zfd (zaa 0))) gA0)|[some (.int (m:Nat),false),some (.tup (ts.map tmW),false),none]|[#v[(xs.map W.int),1],#v[0,0],none]|(.bl (decide (i=j)),false)|[#v[#v[9,8],3],#v[(wordOf (tab (2^m) f)),0],none,none,none]|(gApp 2 (zac [false,false,false] (Ψ \"stepped\") #v[8,10]))|[v0,#v[(xs.map W.int),1],v2,v3,some (.lst (zan L),o),v5]|[none,none,none]|[#v[(ts.map tmW),3]]|(gOp2 oEq (zaa 2) #v[1])|(gArg (gOp2 oIx (zaa 3) #v[0]))|(gArg (gOp2 oIx (zaa 0) #v[1]))|(gOp2 oAdd (gArg (gOp2 oMult #v[2] (zaa 1))) (zaa 2))|[v0,v1,v2,v3,some (.lst (zan L),o),#v[(l:Nat),0]]|[v0,some (tmW t,false),some (.int (p:Nat),false)]|[.int m,.int (wordOf (tab (2^m.toNat) f)),.int j]|[v0,#v[(xs.map W.int),1],v2,v3,#v[(zan L),1],v5]|[#v[(zan M),3],#v[0,0],none]|[#v[(zan M),1],#v[0,0],none]|(gCns (gArg (gOpN za3 (gCns (zaa 5) gA0))) gA0)|(gCns (zaa 0) (gCns (gArg (gC (.int 2))) gA0))|(gCns (gArg (zco gA0)) gA0)||[#v[(wordOf (tab n f)),0]]|[#v[#v[9,8],3],#v[(wordOf (tab (2^m) f)),0]]|(gOp2 oEq (zaa 0) (zaa 1))|[.int a,.int b]|[.int (m:Nat),.int (wordOf (tab (2^m) f))]|[v0,v1,v2,v3,#v[(zan L),1],#v[(l:Nat),0]]|[#v[ws,3],#v[ws,3]]|(oI yes2 λi j=>.int (Builtin.bitOr i j))|(gOp2 oAdd (zaa 1) (gArg (zco #v[3,13])))|[v0,v1,some (.tup (ts.map tmW),false)]|[.int a0,.int b,.int 0]|[.int (wordOf (tab n f)),.int (p:Nat)]|(gRet (gC (.bl false)))|(gCns (zaa 0) gA0)|(.bl (decide (x=.non)))" (<-a.raw.isNatLit?) (<-b.raw.isNatLit?):Option _).elim Macro.throwUnsupported pure
local macro_rules|`(tactic|symm)=>`(tactic|first|lia|omega|omega +splitDisjunctions)
set_option maxRecDepth 100000
open Option renaming some → Za, none → Zb
open Bool renaming false → Zc, true → Zd
open PySem renaming Value → Ze, Shared → Zf, Addr → Zh, Expr → Zi
open PySem.W renaming Frag → Zg
open PySem renaming wpAny_bind → Aa, wpAny_pure → Ak, mem_of_lookup → Br, wpAny_mono → Bw, wpAny_field → Cq, wpAny_loadPart' → Cv, wpAny_callSpecial?_slot → Cy, wpAny_holding → Dc, wpAny_seqItems → De, wpAny_rule → Df, wpAny_pyIter_list → Dp, wpAny_newObj_type → Dq, wpAny_Call_Name_kw → Dx, wpAny_loadPart_at → Ef, wpAny_is_plain → El, wpAny_call_entry → Em, wpAny_setField_rec → Es, wpAny_truthy_bool → Fe, wpAny_standAt → Fs, codeAny_builtin → Fy, wpAny_pyIter_tuple → Fz, wpAny_letGo → Ga, call_meets → Gp, wpAny_passesOwn → Gx, wpAny_execs_nil → Gy, wpAny_isSubtype_exc → Gz, codeAny_mono → Hb, wpAny_tryCatch → Hg, wpAny_pyIter_enum → Hi, wpAny_attempt → Hj
open List renaming length_map → Ab, getElem?_eq_getElem → Ad, mem_cons_of_mem → Ag, getElem?_eq_some_iff → Ah, getElem?_map → Ai, mem_cons → Am, size_toArray → An, mem_cons_self → At, map_cons → Av, mem_singleton → Ax, mem_append_right → Ay, append_assoc → Bc, all_eq_true → Bd, mem_of_getElem? → Be, append_nil → Bf, length_append → Bh, getD_eq_getElem?_getD → Bi, lookup_cons → Bj, length_cons → Bm, getElem?_set_self → Bn, mem_range → Bo, getElem?_eq_none → Bp, length_set → Bq, getElem?_set_ne → Bt, take_append_drop → Bu, nodup_cons → By, mem_append → Bz, not_mem_nil → Ca, all_cons → Cb, pairwise_append → Cd, drop_eq_getElem_cons → Ce, replicate_succ → Ch, mem_filter → Ck, map_append → Cm, take_length → Co, mem_map → Cp, pairwise_cons → Cr, sum_cons → Cw, take_of_length_le → Cz, length_range → Da, ext_getElem? → Db, getElem?_append_left → Dd, take_zero → Dj, take_succ → Dk, take_succ_cons → Do, length_take → Dr, mem_filterMap → Ds, filter_append → Dt, length_replicate → Dw, mem_iff_getElem → Ec, flatten_cons → Ed, drop_zero → Eh, map_map → Ei, of_mem_zip → Eo, nodup_iff_pairwise_ne → Eu, getElem?_mapIdx → Ev, getElem?_append_right → Ew, forIn_nil → Ex, filter_cons → Fc, length_reverse → Ff, take_sublist → Fw, length_drop → Gb, any_cons → Gc, range_succ → Gh, forIn_cons → Gi, map_congr_left → Gm, filterMap_cons → Gn, drop_sublist → Ha
open PySem.Heap renaming get?_push_of_some → Ac, lt_size → Ao, get?_push_size → Aq, size_push → Ct, get?_update_other → Dg, get?_update_self → Go
open Bool renaming and_eq_true → Ae, false_ne_true → As, not_eq_true → Bk, or_eq_true → Cg, not_eq_false' → Cs, false_eq_true → Dh, eq_iff_iff → Er, false_and → Ey, not_eq_true' → Fx, and_false → Gv
open Nat renaming le_refl → Af, lt_of_lt_of_le → Az, ne_of_lt → Bb, lt_irrefl → Bv, zero_le → Cc, le_trans → Ci, zero_add → Cn, pow_le_pow_right → Ea, lt_succ_of_lt → Eb, le_add_right → Eg, lt_succ_self → Fb, le_of_succ_le → Fv, add_sub_cancel' → Gk, lt_of_le_of_lt → Gr
open PyProof.Rows renaming wpS_bind → Ap, wpS_pure → Au, wpS_forRange → Cf, callWith_type1 → Cu, wpS_mono → Dv, slot_tuple_getitem → Ee, callWith_kw → He, wpS_get → Hk
open LawfulBEq renaming eq_of_beq → Bl
open Array renaming toList_append → Bs, length_toList → Bx, toList_push → Dn, getElem?_eq_none → Ek, toList_reverse → Ge, perm_iff_toList_perm → Gw
open PySem.W renaming kia_one → Cj, mg_of → Di, hideAll_none → Dz, cellsFrom_some → Fu, hideAll_get → Gj, of_hideAll → Gq
open PySem.F renaming plainAttrs_list → Dl, plain_max_loop → Ep, slot_tuple_iterator_next → Fj, slot_list_index → Fq, args_tuple_add_2 → Hd
open Int renaming toNat_natCast → Dm, emod_lt_of_pos → Ej, emod_nonneg → Fp, natCast_nonneg → Gs, lt_of_lt_of_le → Gu
open PySem.Heap.SameBut renaming update → Du
open Option renaming bind_some → Ez, isSome_iff_exists → Fh, map_some → Gf
open PySem.Calls renaming Name_function_global → Hh
def Aj:=@decide_eq_true
def Ar:=@of_decide_eq_true
def Aw:=@decide_eq_false
def Dy:=@decide_eq_true_eq
def Et:=@beq_iff_eq
def Fm:=@if_true
def Ft:=@or_false
def Gd:=@if_false
namespace PySem.W.Fast
def tw2579651627980701704:=0
def tw2220803717454668824:=0
def tw1593884043374450055:=0
def tw2299223514720279103:=0
def tw2833348224317136556:=0
def tw10525677180857093065:=0
def tw10741944370221450957:=0
def tw9530614300256900700:=0
def tw9315764331625841781:=0
def tw13115984727505981343:=0
def tw15760010330925393409:=0
def tw7630725391869193270:=0
def tw14733348746782544300:=0
def tw12953640436947999071:=0
def tw9670442450818146035:=0
def tw8806258031510388593:=0
def tw15086191709865730799:=0
def tw7410488404834615249:=0
def tw6058600127370271375:=0
def tw788208615297720080:=0
def tw10945469619054491242:=0
def tw5101689739190103470:=0
def tw7721553057854678371:=0
def tw339772479815632750:=0
def tw12082835424782163865:=0
def tw6049611114532452764:=0
def tw14393132543372487169:=0
def tw7426568686636060767:=0
def tw9664121300921170116:=0
def tw641964379626147395:=0
def tw14607409787921290923:=0
def tw10892191109877122421:=0
def tw3258742333411009563:=0
def tw6155172916301282316:=0
def tw14015833250960703117:=0
def tw15276538830395427566:=0
def tw14172277546686046059:=0
def tw5700412669770879222:=0
def tw9130212320731938154:=0
def tw2597169185675539576:=0
def tw337615901577660008:=0
def tw4457470253234108464:=0
def tw15481872849101653700:=0
def tw15070496272666904806:=0
def tw5780789640481272283:=0
def tw15521231278437584851:=0
def tw4898922901734395810:=0
def tw18313510721362753493:=0
def tw448821312240627571:=0
def tw13034982859576178066:=0
def tw9964692349449174677:=0
def tw2576047292768123864:=0
def tw11308091776521687621:=0
def tw17805741611073593488:=0
def tw3097310916569630233:=0
def tw4441501017413337581:=0
def tw12418377011708909247:=0
def tw16921939024410764663:=0
def tw17952332614502559117:=0
def tw18351838286622827049:=0
def tw4703963010762974156:=0
def tw7945132685123980234:=0
def tw15251105814603840840:=0
def tw2045568811785939574:=0
def tw12173846592526597864:=0
def tw13678265849230152805:=0
def tw13728387903631715909:=0
def tw1889673505599406224:=0
def tw18289697381172716632:=0
def tw7078147198022407427:=0
def tw7710331627426032235:=0
def tw12917551610334947986:=0
def tw16705866720297842615:=0
def tw13586542239430113100:=0
def tw5426614372353744654:=0
def tw10078611730247405861:=0
def tw528204575245112386:=0
def tw17066298284632564979:=0
def tw17686274421144019748:=0
def tw4962905543513551994:=0
def tw9060383710134389674:=0
def tw5364956952197061308:=0
def tw15269423163585286781:=0
def tw6480194590408419896:=0
def tw6645500218849434983:=0
def tw5192217760370571368:=0
def tw7260345194448698746:=0
def tw12719930555894143035:=0
def tw5456401657145613515:=0
def tw9493573904601510938:=0
def tw5360770108655200136:=0
def tw16252131406941574676:=0
def tw13728031518510967664:=0
def tw1604506014007639707:=0
def tw7068712920920351419:=0
def tw17907811603818962625:=0
def tw9886044009851895559:=0
def tw13472686005535651311:=0
def tw6164570424405629778:=0
def tw3207660911991944596:=0
def tw10190040317142338631:=0
def tw11540818131284916674:=0
def tw17638504063449480119:=0
def tw11852803447178055809:=0
def tw11371866274505652846:=0
def tw9366496212817237380:=0
def tw11368099880160980613:=0
def tw8766236906166491168:=0
def tw9101446934234865791:=0
def tw1115497818486482009:=0
def tw8701477638115355925:=0
def tw9757955500081795116:=0
def tw13010085158391286888:=0
def tw12472821260548347621:=0
def tw12433176144444668206:=0
def tw4194427998568552293:=0
def tw9608614310105774143:=0
def tw12679431881207579376:=0
def tw1560350087775975739:=0
def tw5214995390597537691:=0
def tw6917316667579078072:=0
def tw15897247423216412232:=0
def tw9404207111081125388:=0
def tw5868262403910411924:=0
def tw10611003672183076355:=0
def tw16234601730650476052:=0
def tw10039688706776529846:=0
def tw3308643445173777530:=0
def tw1397159140244221683:=0
def tw6009353492569744749:=0
def tw3135427165913228627:=0
def tw7667271625274284052:=0
def tw15756870042862009389:=0
def tw6664525712423588465:=0
def tw705005769467498197:=0
def tw13959110148086169757:=0
def tw2611054973804520436:=0
def tw7306687148648883471:=0
def tw1223462404158042898:=0
def tw8304967068254033389:=0
def tw9122309480864857756:=0
def tw13816049862571147085:=0
def tw17483467706185152970:=0
def tw10117898895170692637:=0
def tw5787049693762535980:=0
def tw6074958627147403284:=0
def tw13006709196563830726:=0
def tw15150574577602565069:=0
def tw15033810534399891137:=0
def tw4321164167416867160:=0
def tw13739085207679282453:=0
def tw15068094086657735752:=0
def tw14011016618285422632:=0
def tw13866604614034550194:=0
def tw10887517857303694102:=0
def tw6248223635437573258:=0
def tw14149869286398136982:=0
def tw18212145715297734867:=0
def tw1710702086436908896:=0
def tw18399887211064370529:=0
def tw5945005477496829848:=0
def tw295010805636667061:=0
def tw7927617760261569255:=0
def tw13147209356521381203:=0
def tw10071834938930704588:=0
def tw17213382634168336978:=0
def tw18305427045137196223:=0
def tw1774633878461844056:=0
def tw14821898934384629324:=0
def tw12181125776920146878:=0
def tw15981628241990669949:=0
def tw7465888976839718982:=0
def tw8947615010524635245:=0
def tw12312166347873388648:=0
def tw17602895122472034189:=0
def tw4184522511622751704:=0
def tw895790170466696318:=0
def tw2035277735248600182:=0
def tw5849165323501113504:=0
def tw9469176443622173537:=0
def tw13243341584653253875:=0
def tw17971414944415355653:=0
def tw2683248455522619937:=0
def tw16220827394139055556:=0
def tw9299569399504758477:=0
def tw845360363613528488:=0
def tw8625736215367129389:=0
def tw3583639270994188124:=0
def tw1794950899960107950:=0
def tw5306702814752428084:=0
def tw18288515221830876105:=0
def tw13368133000281147380:=0
def tw12694506119654679110:=0
def tw2979204633345881868:=0
def tw5177841170513207391:=0
def tw7210841689807562479:=0
def tw9520335475384691464:=0
def tw13269205644872039579:=0
def tw16119945607472210779:=0
def tw2196063809299752662:=0
def tw7932167013419392903:=0
def tw16604989137024310495:=0
def tw11891908218489079771:=0
def tw5840715883393510491:=0
def tw16000637572811067779:=0
def tw13767851843885068547:=0
def tw13845807536457156522:=0
def tw14047122714905068941:=0
def tw11985978824826306127:=0
def tw5175014632242115394:=0
def tw5380821318972895986:=0
def tw9148995676342485032:=0
def tw9620369056211005662:=0
def tw16551807667327030145:=0
def tw15654315158372209639:=0
def tw8508337059597199270:=0
def tw16868527666922457750:=0
def tw10802837644575233665:=0
def tw1920053991057271576:=0
def tw12355304433272509723:=0
def tw7636072537840709997:=0
def tw9922599559988501805:=0
def tw3596951029685316128:=0
def tw9423842268720707715:=0
def tw15299070524407516643:=0
def tw18009582273193613920:=0
def tw16707412727193021965:=0
def tw1058780749580036781:=0
def tw8017137589526133001:=0
def tw9537589100698467659:=0
def tw3475298171619056148:=0
def tw17994457791289414288:=0
def tw8244438645989519937:=0
def tw13127689972074402470:=0
def tw3251423942902942912:=0
def tw16444871776318274635:=0
def tw497088400117698439:=0
def tw4930908332757656789:=0
def tw11954676775029888033:=0
def tw5146717088686931483:=0
def tw10936856562688544206:=0
def tw10444787184105719356:=0
def tw12555587902556204112:=0
def tw6892778735979530633:=0
def tw7760137969991834715:=0
def tw9609660719137688726:=0
def tw6641139567167401862:=0
def tw8769965867525167027:=0
def tw7890496504434577597:=0
def tw12294174971084777322:=0
def tw13473717481846994047:=0
def tw6699561071981793033:=0
def tw15516845912212962564:=0
def tw11245728838204044310:=0
def tw14420253358523440907:=0
def tw17668424431252846706:=0
def tw17009049631703861558:=0
def tw11900399203542069796:=0
def tw9395430225140923265:=0
def tw4928054249128888983:=0
def tw2563956853515650181:=0
def tw16741304883122763119:=0
def tw11347957205144133974:=0
def tw13304362930306129378:=0
def tw5617064769056931381:=0
def tw12053162384467822004:=0
def tw7210492783532382293:=0
def tw4800004986020882970:=0
def tw7198646858354226710:=0
def tw1041715038514214273:=0
def tw3781132250872687127:=0
def tw2894402037081653348:=0
def tw17935563837930951510:=0
def tw10877011814915302985:=0
def tw719406825719227995:=0
def tw16219990296187064514:=0
def tw6188622020229678977:=0
def tw12557396111151437455:=0
def tw5343700179802018666:=0
def tw7643810737008322519:=0
def tw15735930175123584050:=0
def tw15944897594958941470:=0
end PySem.W.Fast
theorem bS {α β}{o:Option α}{f:α->Option β}{b}(h:o.bind f=Za b):∃a,o=Za a/\f a=Za b:=Option.bind_eq_some_iff.mp h
theorem sI {α}{a b:α}(h:Za a=Za b):a=b:=Option.some.inj h
namespace L2
open PySem PySem.Spec PyProof.Rows
theorem aG {P:Prop}(h:∀G:Prop,(P->G)->G):P:=h P id
end L2
set_option hygiene false
local macro_rules | `(tactic| nofun) => `(tactic| refine L2.aG fun _ qG=>?_)
local macro_rules | `(tactic| ac_rfl) => `(tactic| (refine qG ?_;clear qG))
local macro_rules | `(#v[$x]) => `((gArg (gC (.int $x))))
local macro_rules | `(#v[$x,0]) => `(some (.int $x,false))
local macro_rules | `(#v[$x,1]) => `(some (.lst $x,false))
local macro_rules | `(#v[$x,2]) => `(some (.lst $x,true))
local macro_rules | `(#v[$x,3]) => `(some (.tup $x,false))
local macro_rules | `(#v[$x,4]) => `((gArg (gVar $x)))
local macro_rules | `(#v[$x,5]) => `(some ($x,true))
local macro_rules | `(#v[$x,6]) => `(some ($x,false))
local macro_rules | `(#v[0,0,0]) => `((oI yes2 fun i j=>.int (i - j)))
local macro_rules | `(#v[0,0,1]) => `((oI cPow fun i j=>.int (i * 2 ^ j.toNat)))
local macro_rules | `(#v[0,0,2]) => `((oI (fun _ j=>decide (0 < j)) fun i j=>.int (i % j)))
local macro_rules | `(#v[0,0,3]) => `((oI cDiv fun i j=>.int (i / j)))
local macro_rules | `(#v[]) => `((by symm))
local macro_rules | `(#v[0,0,5]) => `(⟨by kernel_rfl,by kernel_rfl,by kernel_rfl,by decide +kernel,rfl,by decide +kernel,by decide +kernel⟩)
local macro_rules | `(#v[0,9]) => `((by decide))
local macro_rules | `(#v[0,0,7]) => `((by decide +kernel))
local macro_rules
| `(#v[0,8])=>`((names.map λ(n,k)=>if (k == NameKind.free && env.scope.kind == .function && env.kindOf n == some .cell) then (n,NameKind.cell) else (n,k)))
| `(#v[2,8])=>`([some #v[9,7],some (.lst [.int a0,.int b,.int 0],true),v2,some (.int n,false),some (.int (i:Nat),false),some (.int (n % 2305843009213693951+7919 * (i:Nat)+3),false)])
| `(#v[5,8])=>`((scope.names.all λp=>!(p.2 == NameKind.local) || decide (scope.names.lookup p.1=some .local)))
| `(#v[5,9])=>`((gOp2 (oI yes2 fun i j=>.bl (decide (j<=i))) (gArg (gOp2 oIx (zaa 0) (gArg (gC (.int 0))))) (gArg (gOp2 (oI cPow fun i j=>.int (i ^ j.toNat)) (gArg (gC (.int 10))) (gArg (gC (.int 18)))))))
| `(#v[3,11])=>`((scope.names.any λ(n,k)=>n == x && (k == .local || k == .cell)))
| `(#v[2,12])=>`((oI (λ_ j=>decide (0<=j)) λi j=>.int (i / 2 ^ j.toNat)))
| `(#v[3,12])=>`([#v[(m:Nat),0],#v[(ts.map tmW),3],#v[(wordOf (tab (2 ^ m) λi=>if i∈ts.map za1 then 1 else 0)),0]])
| `(#v[6,12])=>`((scope.names.lookup y.1=some .cell/\((cellsFrom #v[7,10] scope.names []).lookup y.1).isSome=true))
| `(#v[6,13])=>`([#v[st',5],#v[n,0],#v[way,0],#v[((xs++[x]).map W.int),2],#v[(0+(i:Nat)),0],#v[one,0]])
| `(#v[7,15])=>`([.int (a0+(if n<0 then -n else n)%(10:Int)^60*wt),.int 0,.int 0])
| `(#v[1,18])=>`((.bl (!decide (i=j)),false))
set_option hygiene true
namespace L2
open PySem PySem.Spec PyProof.Rows
noncomputable abbrev Key:=Sum Int Str
abbrev z9o:Key->Ze->Bool
 |.inl k,v=>Ze.isInt k v
 |.inr x,v=>Ze.isStrOf x v
abbrev keyH (w:World):Key->Int
 |.inl k=>hashInt k
 |.inr x=>hashStr w x
theorem keyIs_shape:∀{k:Key}{v:Ze},z9o k v=Zd->(∃i t,k=Sum.inl i/\v=Ze.int i t)\/(∃x t,k=Sum.inr x/\v=Ze.str x t)
 | .inl i,v,h=>by
  obtain⟨t,e⟩:=Ze.isInt_shape (k:=i) (v:=v) h;exact .inl ⟨i,t,rfl,e⟩
 | .inr x,v,h=>by
  obtain⟨t,e⟩:=Ze.isStrOf_shape (x:=x) (v:=v) h;exact .inr ⟨x,t,rfl,e⟩
theorem ybw (a b:Int):decide ((Sum.inl a:Key)=Sum.inl b)=(a==b):=by
 by_cases e:a=b
 ·subst e;simp
 ·have h : ¬ (Sum.inl a:Key)=Sum.inl b:=λq=>e (Sum.inl.inj q);rw[Aw h];exact (beq_eq_false_iff_ne.mpr e).symm
theorem ya3 (a b:Str):decide ((Sum.inr a:Key)=Sum.inr b)=decide (a=b):=by
 by_cases e:a=b
 ·subst e;simp
 ·have h : ¬ (Sum.inr a:Key)=Sum.inr b:=λq=>e (Sum.inr.inj q);rw[Aw h,Aw e]
theorem z8t (a:Int)(b:Str):decide ((Sum.inl a:Key)=Sum.inr b)=Zc:=Aw (λq=>nomatch q)
theorem z9q (a:Str)(b:Int):decide ((Sum.inr a:Key)=Sum.inl b)=Zc:=Aw (λq=>nomatch q)
abbrev zxu (prog:Program) (w:World):PySem.KeyKind prog w Key where
 is:=z9o
 hash:=keyH w
 inj:=λv a b g d=>by
  rcases keyIs_shape g with⟨i,t,rfl,rfl⟩|⟨x,t,rfl,rfl⟩
  ·rcases keyIs_shape d with⟨j,u,rfl,e⟩|⟨y,u,rfl,e⟩
   ·injection e with e1 _;rw[e1]
   ·exact nomatch e
  ·rcases keyIs_shape d with⟨j,u,rfl,e⟩|⟨y,u,rfl,e⟩
   ·exact nomatch e
   ·injection e with e1 _;rw[e1]
 byValue:=λk v h=>by
  rcases keyIs_shape h with⟨i,t,rfl,rfl⟩|⟨x,t,rfl,rfl⟩<;>rfl
 pyHash:=λc h=>by
  rcases keyIs_shape c with⟨i,t,rfl,rfl⟩|⟨x,t,rfl,rfl⟩
  ·exact wpAny_pyHash_int h
  ·exact wpAny_pyHash_str h
 eqBool:=λf c h=>by
  rcases keyIs_shape f with⟨i,t,rfl,rfl⟩|⟨x,t,rfl,rfl⟩
  ·rcases keyIs_shape c with⟨j,u,rfl,rfl⟩|⟨y,u,rfl,rfl⟩
   ·rw[ybw] at h;exact wpAny_eqBool_int h
   ·rw[z8t] at h;exact SeqAt.EqAt.int_str i t y u _ _ _ _ h
  ·rcases keyIs_shape c with⟨j,u,rfl,rfl⟩|⟨y,u,rfl,rfl⟩
   ·rw[z9q] at h;exact SeqAt.EqAt.str_int x t j u _ _ _ _ h
   ·rw[ya3] at h;exact wpAny_eqBool_str h
 «strs»:=λk x t v h=>by
  rcases keyIs_shape h with⟨i,u,rfl,e⟩|⟨y,u,rfl,e⟩
  ·exact nomatch e
  ·injection e with e1 _;subst e1;cases v<;>rfl
inductive V where
 |non|bl (b:Bool)|int (i:Int)|str (x:Str)|byt (b:Array UInt8)|flt (b:UInt64)|ref (a:Zh)|ty (n:String)
 deriving DecidableEq
abbrev RelV:V->Ze->Prop
 |.non,u=>u=Ze.none
 |.bl b,u=>u=Ze.bool b
 |.int i,u=>∃t,u=Ze.int i t
 |.str x,u=>∃t,u=Ze.str x t
 |.byt b,u=>∃t,u=Ze.bytes b t
 |.flt b,u=>∃t,u=Ze.float b t
 |.ref a,u=>u=Ze.ref a
 |.ty n,u=>u=Ze.type n
noncomputable abbrev Vals:List V->List Ze->Prop:=Paired RelV
theorem Vals.length {xs:List V}{us:List Ze}(r:Vals xs us):xs.length=us.length:=Paired.length r
theorem Vals.get:∀{a:List V}{b:List Ze}{i:Nat}{x:V},Vals a b->a[i]?=Za x->∃u,b[i]?=Za u/\RelV x u
 |_,_,_,_,.nil,e=>by simp at e
 |_,_,0,_,.cons r _,e=>by simp at e;subst e;exact⟨_,rfl,r⟩
 | _,_,i+1,x,.cons _ t,e=>by
  obtain⟨u,c,h⟩:=Vals.get (i:=i) (x:=x) t (by simpa using e);exact⟨u,by simpa using c,h⟩
theorem Vals.set {x:V}{u:Ze}(r:RelV x u):∀{a:List V}{b:List Ze} (i:Nat),Vals a b->Vals (a.set i x) (b.set i u)
 |_,_,_,.nil=>.nil
 |_,_,0,.cons _ t=>.cons r t
 |_,_,i+1,.cons q t=>.cons q (Vals.set r i t)
theorem Vals.append:∀{x y:List V}{u w:List Ze},Vals x u->Vals y w->Vals (x++y) (u++w)
 |_,_,_,_,.nil,s=>s
 |_,_,_,_,.cons r t,s=>.cons r (Vals.append t s)
theorem Vals.take:∀{x:List V}{u:List Ze} (n:Nat),Vals x u->Vals (x.take n) (u.take n)
 |_,_,0,_=>.nil
 |_,_,_+1,.nil=>.nil
 |_,_,n+1,.cons r t=>.cons r (Vals.take n t)
theorem Vals.drop:∀{x:List V}{u:List Ze} (n:Nat),Vals x u->Vals (x.drop n) (u.drop n)
 |_,_,0,r=>r
 |_,_,_+1,.nil=>.nil
 |_,_,n+1,.cons _ t=>Vals.drop n t
abbrev RelO:Option V->Option Ze->Prop
 |some v,Za u=>RelV v u
 |none,Zb=>True
 |_,_=>False
abbrev KV {κ:Type}:List (κ×V)->List (κ×Ze)->Prop:=Paired λ(p:κ×V) (q:κ×Ze)=>p.1=q.1/\RelV p.2 q.2
abbrev kV:Key->V
 |.inl i=>.int i
 |.inr x=>.str x
inductive HO where
 /-- a list -/
 |lst (xs:List V)
 /-- a tuple (never changes) -/
 |tup (xs:List V)
 /-- a dict whose keys are ints and texts;one whose keys are tuples of ints and texts (the empty one is both) -/
 |dK (kvs:List (Key×V))|dT (kvs:List (List Key×V))
 /-- a set of ints: its members,its size -/
 |set (S:Int->Bool) (n:Nat)
 /-- an instance of the class at C,its dict at dx,its attributes -/
 |ins (C dx:Zh) (fs:List (Str×V))
 /-- the dict of the instance at x -/
 |own (x:Zh)
 /-- the dict of an exception -/
 |xd (fs:List (Str×V))
 /-- a bound method,f of x -/
 |met (f x:Zh)
 /-- a range object lo,lo+1,.. below hi -/
 |rng (lo hi:Int)
 /-- a thing that is known to the object (the script;a dict while a loop walks it): read,never written while it is so -/
 |frz (o:Obj) (u:HO)
 /-- a code object's table -/
 |tbl (ps:Array Ze)
 /-- any other thing,by what is Zd of its one object (a def of one's own: SetO a S n:=HO.ext λh=>..) -/
 |ext (φ:Heap->Prop)
noncomputable abbrev Hp:=Zh->Option HO
abbrev upd (H:Hp) (a:Zh) (o:HO):Hp:=λb=>if b=a then Za o else H b
theorem upd_same {H:Hp}{a:Zh}{o:HO}:upd H a o a=Za o:=by unfold upd;rw[if_pos rfl]
theorem upd_ne {H:Hp}{a b:Zh}{o:HO}(h:b≠a):upd H a o b=H b:=by unfold upd;rw[if_neg h]
theorem z69 {H:Hp}{a:Zh}{o u:HO}:upd (upd H a o) a u=upd H a u:=by
 funext b;unfold upd;split<;>rfl
theorem zae {H:Hp}{a b:Zh}{o:HO}(h:H a=Za o)(h':H b=Zb):a≠b:=by
 intro e;subst e;rw[h] at h';cases h'
abbrev zkh (h:Heap) (a:Zh) (i:Array Ze):Prop:=∃o,h.get? a=Za o/\(o.cls=.type "tuple"/\∃n,o.data=.seq i n)/\o.dict=Zb
theorem zkh.t {h:Heap}{a:Zh}{i:Array Ze}(x:zkh h a i):IsTup h a i:=let ⟨o,e,r,_⟩:=x;⟨o,e,r⟩
theorem zkh.new (h:Heap)(i:Array Ze):zkh (h.push { cls:=.type "tuple",data:=.seq i }) h.objs.size i:=⟨_,Aq _ rfl,⟨rfl,_,rfl⟩,rfl⟩
section
variable (P:Program) (w:World)
abbrev zbr (H:Hp) (h:Heap) (a:Zh):HO->Prop
 |.lst b=>b.length<=sizeLine/\∃(i:List Ze) (n:Nat),Vals b i/\h.get? a=Za { cls:=.type "list",data:=.seq i.toArray n }
 |.tup b=>b.length<=sizeLine/\∃i:List Ze,Vals b i/\zkh h a i.toArray
 |.dK kvs=>kvs.length<=sizeLine/\(a==sysModules)=Zc/\∃g,KV kvs g/\h.DictOf (zxu P w) a g
 | .dT kvs=>kvs.length<=sizeLine/\(a==sysModules)=Zc/\∃b:List (List Key×Zh×Ze),
  Paired (λ(p:List Key×V) (q:List Key×Zh×Ze)=>p.1=q.1/\H q.2.1=Za (.tup (p.1.map kV))/\RelV p.2 q.2.2) kvs b /\
  ∃o e m,h.get? a=Za o/\o.ExactDict/\o.data=.dict e m/\e.toList=b.map (entryOfKey (tupleKind (zxu P w)))/\(b.map (·.1)).Nodup
 |.set S n=>h.SetOf (intKind P w) a S n
 | .ins C d fs=>H d=Za (.own a)/\fs.length<=1000/\d≠a/\h.get? a=Za (PySem.W.instObj C d) /\
  ∃mA,h.Ns1 d mA/\(∀f,RelO (fs.lookup f) (mA f))/\PySem.Within mA (fs.map (·.1))
 |.own _=>∃o,h.get? a=Za o
 |.xd fs=>∃mA,h.Ns1 a mA/\∀f,RelO (fs.lookup f) (mA f)
 |.rng l r=>∃t u v,h.get? a=Za { cls:=.type "range",data:=.fields #[.int l t,.int r u,.int 1 v] }
 |.frz o u=>h.get? a=Za o/\zbr H h a u
 |.tbl k=>h.get? a=Za { cls:=.none,data:=.fields k }
 |.met f x=>h.get? a=Za (PySem.W.methodObj (.ref f) (.ref x))
 |.ext φ=>φ h/\(∃o,h.get? a=Za o)/\∀j c:Heap,φ j->(∀o,j.get? a=Za o->c.get? a=Za o)->φ c
abbrev HOk (H:Hp) (h:Heap):Prop:=∀a o,H a=Za o->zbr P w H h a o
end
section
variable {P:Program}{w:World}{H H' : Hp}{h h' : Heap}{a:Zh}{o:HO}
theorem zbr.lt (x:zbr P w H h a o):a<h.objs.size:=by
 cases o with
 |lst b=>obtain⟨_,_,_,_,e⟩:=x;exact Ao e
 |tup b=>obtain⟨_,_,_,p⟩:=x;exact p.t.lt
 |dK kvs=>obtain⟨_,_,_,_,o,_,_,e,_⟩:=x;exact Ao e
 |dT kvs=>obtain⟨_,_,_,_,o,_,_,e,_⟩:=x;exact Ao e
 |set S n=>obtain⟨o,_,_,_,e,_⟩:=x;exact Ao e
 |ins C i fs=>obtain⟨_,_,_,e,_⟩:=x;exact Ao e
 |own y=>obtain⟨_,e⟩:=x;exact Ao e
 |xd fs=>obtain⟨_,⟨_,_,_,e,_⟩,_⟩:=x;exact Ao e
 |rng l g=>obtain⟨_,_,_,e⟩:=x;exact Ao e
 |frz d u=>obtain⟨e,_⟩:=x;exact Ao e
 |tbl c=>exact Ao (show h.get? a=Za _ from x)
 |met f y=>exact Ao (show h.get? a=Za _ from x)
 |ext φ=>obtain⟨_,⟨_,e⟩,_⟩:=x;exact Ao e
theorem Paired.mapP {α β:Type}{F G:α->β->Prop}:∀{c:List α}{l:List β},Paired F c l->(∀a b,F a b->G a b)->Paired G c l
 |_,_,.nil,_=>.nil
 |_,_,.cons r t,f=>.cons (f _ _ r) (Paired.mapP t f)
theorem zbr.stay (x:zbr P w H h a o) (k:∀b u,(b=a\/H b=Za (.own a))->h.get? b=Za u->h'.get? b=Za u)
  (G:∀b,H b=Za (.own a)->H' b=Za (.own a)) (F:∀b m,H b=Za (.tup m)->H' b=Za (.tup m)):zbr P w H' h' a o:=by
 induction o with
 |lst m=>obtain⟨z,l,n,r,e⟩:=x;exact⟨z,l,n,r,k _ _ (.inl rfl) e⟩
 |tup m=>obtain⟨z,l,r,g,e,c⟩:=x;exact⟨z,l,r,g,k _ _ (.inl rfl) e,c⟩
 |dK kvs=>obtain⟨z,y,E,r,g,i,j,e,c⟩:=x;exact⟨z,y,E,r,g,i,j,k _ _ (.inl rfl) e,c⟩
 | dT kvs =>
  obtain⟨z,y,m,r,g,i,j,e,c⟩:=x;exact⟨z,y,m,Paired.mapP r λp q z=>⟨z.1,F _ _ z.2.1,z.2.2⟩,g,i,j,k _ _ (.inl rfl) e,c⟩
 |set S n=>obtain⟨g,i,j,t,e,c⟩:=x;exact⟨g,i,j,t,k _ _ (.inl rfl) e,c⟩
 | ins C J fs =>
  obtain⟨d,z,ne,e,mA,⟨s,i,j,D,c⟩,r⟩:=x;exact⟨G _ d,z,ne,k _ _ (.inl rfl) e,mA,⟨s,i,j,k _ _ (.inr d) D,c⟩,r⟩
 |own y=>obtain⟨g,e⟩:=x;exact⟨g,k _ _ (.inl rfl) e⟩
 |xd fs=>obtain⟨mA,⟨s,i,j,e,c⟩,r⟩:=x;exact⟨mA,⟨s,i,j,k _ _ (.inl rfl) e,c⟩,r⟩
 |rng L K=>obtain⟨t,u,v,e⟩:=x;exact⟨t,u,v,k _ _ (.inl rfl) e⟩
 |frz g u I=>obtain⟨e,q⟩:=x;exact⟨k _ _ (.inl rfl) e,I q⟩
 | tbl B =>
  have e:h.get? a=Za { cls:=.none,data:=.fields B }:=x;show h'.get? a=Za { cls:=.none,data:=.fields B };exact k a _ (.inl rfl) e
 | met f y =>
  have e:h.get? a=Za (PySem.W.methodObj (.ref f) (.ref y)):=x;show h'.get? a=Za (PySem.W.methodObj (.ref f) (.ref y));exact k a _ (.inl rfl) e
 |ext φ=>obtain⟨p,⟨o,e⟩,A⟩:=x;exact⟨A _ _ p λo q=>k _ _ (.inl rfl) q,⟨o,k _ _ (.inl rfl) e⟩,A⟩
theorem HOk.lt (x:HOk P w H h)(e:H a=Za o):a<h.objs.size:=(x a o e).lt
theorem HOk.fresh (x:HOk P w H h)(e:h.objs.size<=a):H a=Zb:=by
 cases q:H a with
 |none=>rfl
 |some u=>exact absurd (Az (x.lt q) e) (Bv _)
theorem HOk.kept (x:HOk P w H h)(k:∀b u,h.get? b=Za u->h'.get? b=Za u):HOk P w H h':=λa o e =>
 (x a o e).stay (λb u _ q=>k b u q) (λ_ q=>q) λ_ _ q=>q
theorem HOk.laid (x:HOk P w H h)(k:∀b u,h.get? b=Za u->h'.get? b=Za u)(g:h.objs.size<=a)(new:zbr P w (upd H a o) h' a o):HOk P w (upd H a o) h':=λb u e=>by
 have f:=x.fresh g;by_cases d:b=a
 ·subst d;rw[upd_same] at e;ext e;exact new
 ·rw[upd_ne d] at e;exact (x b u e).stay (λc v _ q=>k c v q) (λc q=>by rw[upd_ne (zae q f)];exact q) λc i q=>by rw[upd_ne (zae q f)];exact q
end
abbrev Rd (H:Hp) (a:Zh) (u:HO):Prop:=H a=Za u\/∃o,H a=Za (.frz o u)
theorem Rd.ok {P:Program}{w:World}{H:Hp}{h:Heap}{a:Zh}{u:HO}(r:Rd H a u)(x:HOk P w H h):zbr P w H h a u:=by
 rcases r with r|⟨o,r⟩
 ·exact x a u r
 ·obtain⟨_,q⟩:=x a _ r;exact q
abbrev Mut:Option HO->Prop
 |some (.lst _)=>True
 |some (.dK _)=>True
 |some (.dT _)=>True
 |some (.set _ _)=>True
 |some (.ins _ _ _)=>True
 |some (.ext _)=>True
 |_=>False
section
variable {P:Program}{w:World}{H:Hp}{h h' : Heap}{x e:Zh}{o' : HO}
theorem HOk.write (ok:HOk P w H h) (m:Mut (H x)) (l:e=x\/H e=Za (.own x)) (k:∀b u,b≠e->h.get? b=Za u->h'.get? b=Za u) (j:∃u,h'.get? e=Za u)
  (new:zbr P w (upd H x o') h' x o'):HOk P w (upd H x o') h':=λb u q=>by
 have n:∀c y,H c=Za (.own y)->c≠x:=λc y r z=>by subst z;rw[r] at m;exact m
 have d:∀c i,H c=Za (.tup i)->c≠x:=λc i r z=>by subst z;rw[r] at m;exact m
 by_cases f:b=x
 ·subst f;rw[upd_same] at q;ext q;exact new
 ·rw[upd_ne f] at q;by_cases a:b=e
  ·have o:H b=Za (.own x):=by
    rcases l with z|z
    ·exact absurd (a.trans z) f
    ·rw[a];exact z
   rw[q] at o;ext o;obtain⟨v,p⟩:=j;exact⟨v,by rw[a];exact p⟩
  ·refine (ok b u q).stay (λc v g r=>k c v ?_ r) (λc r=>by rw[upd_ne (n c b r)];exact r) λc i r=>by rw[upd_ne (d c i r)];exact r
   rcases g with rfl|g
   ·exact a
   ·rintro rfl;rcases l with z|z
    ·exact n c b g z
    ·rw[g] at z;cases z;exact f rfl
end
structure Un (fs ex:List Zh) (H H':Hp) (h h':Heap):Prop where
 keep:∀b o,h.get? b=Za o->H b=Zb->b ∉ fs->b ∉ ex->h'.get? b=Za o
 slot:∀b o,h.get? b=Za o->H b=Zb->b∈fs->b ∉ ex->∃sl,h'.get? b=Za { o with slots:=sl }
 free:∀b o,h.get? b=Za o->H b=Zb->b ∉ ex->H' b=Zb
 there:∀b o,h.get? b=Za o->b ∉ ex->∃o',h'.get? b=Za o'
 tups:∀b xs,H b=Za (.tup xs)->H' b=Za (.tup xs)
 frzs:∀b o u,H b=Za (.frz o u)->H' b=Za (.frz o u)
 tbls:∀b ps,H b=Za (.tbl ps)->∃more,H' b=Za (.tbl (ps++more))
section
variable {fs fs' ex ex' : List Zh}{H H1 H2:Hp}{h h1 h2 h' : Heap}{a x e:Zh}{o:HO}
theorem Un.any (u:Un fs ex H H1 h h1){b:Zh}{o:Obj}(q:h.get? b=Za o)(n:H b=Zb)(c:b ∉ ex):∃s,h1.get? b=Za { o with slots:=s }:=by
 by_cases a:b∈fs
 ·exact u.slot b o q n a c
 ·exact⟨o.slots,u.keep b o q n a c⟩
theorem Un.kept (k:∀b u,h.get? b=Za u->h'.get? b=Za u):Un fs ex H H h h' :=
 ⟨λb o q _ _ _=>k b o q,λb o q _ _ _=>⟨o.slots,k b o q⟩,λ_ _ _ n _=>n,λb o q _=>⟨o,k b o q⟩,λ_ _ q=>q,λ_ _ _ q=>q,λ_ p q=>⟨#[],by rw[q];simp⟩⟩
theorem Un.refl:Un fs ex H H h h:=Un.kept λ_ _ q=>q
theorem Un.laid (k:∀b u,h.get? b=Za u->h'.get? b=Za u)(d:h.objs.size<=a)(c:H a=Zb):Un fs ex H (upd H a o) h h' where
 keep:=λb u q _ _ _=>k b u q
 slot:=λb u q _ _ _=>⟨u.slots,k b u q⟩
 free:=λb u q n _=>by rw[upd_ne (Bb (Az (Ao q) d))];exact n
 there:=λb u q _=>⟨u,k b u q⟩
 tups:=λb x q=>by rw[upd_ne (zae q c)];exact q
 frzs:=λb u x q=>by rw[upd_ne (zae q c)];exact q
 tbls:=λb p q=>⟨#[],by rw[upd_ne (zae q c),q];simp⟩
theorem Un.write (m:Mut (H x))(j:e=x\/H e=Za (.own x))(k:∀b u,b≠e->h.get? b=Za u->h'.get? b=Za u)(c:∃u,h'.get? e=Za u):Un fs ex H (upd H x o) h h':=by
 have g:∀b,H b=Zb->b≠x:=λb n z=>by subst z;rw[n] at m;exact m
 have f:∀b,H b=Zb->b≠e:=λb n z=>by
  subst z;rcases j with r|r
  ·exact g b n r
  ·rw[n] at r;cases r
 have d:∀b u,H b=Za u->¬ Mut (Za u)->b≠x:=λb u q nm z=>by subst z;rw[q] at m;exact nm m
 refine⟨λb u q n _ _=>k b u (f b n) q,λb u q n _ _=>⟨u.slots,k b u (f b n) q⟩,λb u q n _=>by rw[upd_ne (g b n)];exact n,λb u q _=>?_,
  λb i q=>by rw[upd_ne (d b _ q λz=>z)];exact q,λb u i q=>by rw[upd_ne (d b _ q λz=>z)];exact q,λb p q=>⟨#[],by rw[upd_ne (d b _ q λz=>z),q];simp⟩⟩
 by_cases a:b=e
 ·subst a;exact c
 ·exact⟨u,k b u a q⟩
end
abbrev trk (h:Heap) (H:Hp):List Zh:=(List.range h.objs.size).filter λa=>(H a).isSome
abbrev hidT (h:Heap) (H:Hp):Heap:=PySem.W.hideAll h (trk h H)
theorem zx8 (h:Heap)(H:Hp):(hidT h H).objs.size=h.objs.size:=PySem.W.hideAll_size _ _
theorem zyy {h:Heap}{H:Hp}{b:Zh}{o:Obj}(e:h.get? b=Za o)(n:H b=Zb):(hidT h H).get? b=Za o :=
 Gj _ e λa=>by
  have q:(H b).isSome=Zd:=(Ck.mp a).2;rw[n] at q;simp at q
theorem z5h {h:Heap}{H:Hp}{b:Zh}{o:Obj} (e:(hidT h H).get? b=Za o):h.get? b=Za o/\H b=Zb:=by
 have a:h.get? b=Za o:=Gq (trk h H) e;refine⟨a,?_⟩;cases q:H b with
 |none=>rfl
 | some x =>
  have c:b∈trk h H:=Ck.mpr ⟨Bo.mpr (Ao a),by simp [q]⟩;have z:(hidT h H).get? b=Zb:=Dz (trk h H) c;rw[z] at e;cases e
abbrev z6w (g h:Heap) (L:Zh):List (Zh×Obj):=(List.range h.objs.size).filterMap λa=>if a=L\/(g.get? a).isSome=Zd then Zb else (h.get? a).map λo=>(a,o)
abbrev rest (g h:Heap) (L d:Zh):List (Zh×Obj):=(z6w g h L).filter λp=>decide (p.1≠d)
structure Mod (K:Zg) (mg:Str->Option Ze) (base:Heap):Prop where
 kin:K.In base
 glob:base.Ns mainGlobals mg
 blt:∃mb,base.Ns builtinsNs mb/\∀x:Str,x≠"__name__" -> mb x=bootBuiltins x
 nolimit:base.NoLimit
 bmn:∃(b:Zh) (ob:Obj),mg "__builtins__" = Za (.ref b)/\b≠builtinsNs/\base.get? b=Za ob/\ob.cls=.type "module"/\ob.dict=Za builtinsNs/\ob.data=.plain
structure Cx where
 prog:Program
 w:World
 K:Zg
 mg:Str->Option Ze
 base:Heap
 A:Around
 N:List Str
 s₀:Zf
 H₀:Hp
 env:Env
 outer:List Env
 stack:List Env
 ex:List Zh
 fn:Str->Bool
 calm:Bool
 pn:List (Zh×Obj)
 xe:Ze->Zf->Prop
abbrev frs (l:List Env):List Zh:=l.filterMap (·.frame)
noncomputable abbrev Cx.fs (X:Cx):List Zh:=frs X.outer
abbrev Vis (s:Scope) (x:Str):Prop:=s.names.lookup x=Za .local\/s.names.lookup x=Za .cell\/s.names.lookup x=Za .free
abbrev Loc (s:Scope) (x:Str):Prop:=s.names.lookup x=Za .local\/s.names.lookup x=Za .cell
abbrev Look (env:Env) (h:Heap) (m:Str->Option Ze) (x:Str) (u:Ze):Prop :=
 (env.kindOf x=Za .local/\m x=Za u)\/((env.kindOf x=Za .cell\/env.kindOf x=Za .free)/\∃c,env.cells.lookup x=Za c/\h.IsCell c (Za u))
structure Cx.Ok (X:Cx):Prop where
 mod:Mod X.K X.mg X.base
 kind:X.env.scope.kind=.function
 glob:X.env.globals=mainGlobals
 blt:X.env.builtins=builtinsNs
 above:X.s₀.heap.objs.size<=X.env.locals
 inj:∀x y c,X.env.cells.lookup x=Za c->X.env.cells.lookup y=Za c->x=y
 has:∀x,(X.env.kindOf x=Za .cell\/X.env.kindOf x=Za .free)->∃c,X.env.cells.lookup x=Za c
 cab:∀x c,X.fn x=Zd->X.env.cells.lookup x=Za c->X.s₀.heap.objs.size<=c
 hd:X.calm=Zd->X.A.handled=Zb
 frames:X.A.frames=Za X.stack
 stk:X.stack=X.outer\/(X.stack=X.env::X.outer/\X.env.frame=Za X.env.locals)
 exf:∀b∈X.ex,b≠X.env.locals/\∀x c,X.env.cells.lookup x=Za c->c≠b
 bs:∀b o,X.base.get? b=Za o->X.s₀.heap.get? b=Za o/\X.H₀ b=Zb
 bsz:X.base.objs.size<=X.s₀.heap.objs.size
 noex:∀b o,X.base.get? b=Za o->b ∉ X.ex
 exfs:∀b∈X.ex,b ∉ X.fs
 funs:X.s₀.heap.FunFrames X.base X.outer
 frf:∀b∈X.fs,X.H₀ b=Zb
structure Inv (X:Cx) (pins:List (Zh×Obj)) (σ:List (Option V)) (H:Hp) (s:Zf):Prop where
 ok:X.Ok
 os:s.os=X.s₀.os
 bare:AllBare s.gens
 base:Un X.fs X.ex X.H₀ H X.s₀.heap s.heap
 loc:∃m,s.heap.Ns X.env.locals m/\∀(i:Nat) (x:Str) (v:V),X.N[i]?=Za x->σ[i]?=Za (Za v)->Vis X.env.scope x->∃u,RelV v u/\Look X.env s.heap m x u
 cell:∀x c,X.env.cells.lookup x=Za c->∃v,s.heap.IsCell c v
 free:H X.env.locals=Zb
 freeC:∀x c,X.env.cells.lookup x=Za c->H c=Zb
 pin:∀p∈X.pn++pins,s.heap.get? p.1=Za p.2/\H p.1=Zb/\p.1≠X.env.locals/\p.1 ∉ X.fs/\∀v,p.2.data≠.cell v
 hok:HOk X.prog X.w H s.heap
 len:σ.length=X.N.length
section
variable {X:Cx}{pins:List (Zh × Obj)}{σ:List (Option V)}{H H' : Hp}{s:Zf}{h' : Heap}
theorem Cx.Ok.nofr (ok:X.Ok){b:Zh}{o:Obj}(e:X.base.get? b=Za o):b ∉ X.fs:=λh=>by
 have:=(ok.funs.mem h).1;rw[e] at this;cases this
theorem Inv.bs (I:Inv X pins σ H s):∀b o,X.base.get? b=Za o->s.heap.get? b=Za o/\H b=Zb:=λb o e =>
 ⟨I.base.keep b o (I.ok.bs b o e).1 (I.ok.bs b o e).2 (I.ok.nofr e) (I.ok.noex b o e),I.base.free b o (I.ok.bs b o e).1 (I.ok.bs b o e).2 (I.ok.noex b o e)⟩
theorem Inv.bk (I:Inv X pins σ H s):∀b o,X.base.get? b=Za o->s.heap.get? b=Za o:=λb o e=>(I.bs b o e).1
theorem Inv.mod (I:Inv X pins σ H s):Mod X.K X.mg X.base:=I.ok.mod
theorem Inv.kIn (I:Inv X pins σ H s):X.K.In s.heap:=I.ok.mod.kin.keeps I.bk
theorem Inv.lt (I:Inv X pins σ H s):X.env.locals<s.heap.objs.size:=let ⟨_,h,_⟩:=I.loc;h.lt
theorem Inv.sz (I:Inv X pins σ H s):X.s₀.heap.objs.size<=s.heap.objs.size:=Ci I.ok.above (Nat.le_of_lt I.lt)
theorem Inv.nofs (I:Inv X pins σ H s){a:Zh}(h:s.heap.objs.size<=a):a ∉ X.fs:=λb=>by
 obtain⟨_,o,c,_⟩:=I.ok.funs.mem b;exact absurd (Az (Ao c) (Ci I.sz h)) (Bv _)
theorem Inv.cne (I:Inv X pins σ H s):∀x c,X.env.cells.lookup x=Za c->c≠X.env.locals:=λx c e z=>by
 obtain⟨v,o,d,b⟩:=I.cell x c e;obtain⟨m,⟨i,f,g,h,a,_⟩,_⟩:=I.loc;rw[z,h] at d;ext d;rw[a] at b;cases b
theorem Inv.funs (I:Inv X pins σ H s):s.heap.FunFrames X.base X.outer:=by
 have all:∀(l:List Env),(∀b∈frs l,b∈X.fs)->X.s₀.heap.FunFrames X.base l->s.heap.FunFrames X.base l:=by
  intro l
  induction l with
  |nil=>intro _ _;trivial
  | cons env r n =>
   intro d g;nofun;obtain⟨j,⟨L,o,a,k,m,f⟩,i⟩:=g;ac_rfl;have c:L∈X.fs:=d L (by unfold frs;rw[Gn,a];exact At);obtain⟨p,e⟩:=I.base.slot L o m (I.ok.frf L c) c λz=>I.ok.exfs L z c;exact⟨j,⟨L,_,a,k,e,f⟩,n (λb h=>d b (by unfold frs;rw[Gn,a];exact Ag _ h)) i⟩
 exact all X.outer (λ_ h=>h) I.ok.funs
theorem Inv.stack (I:Inv X pins σ H s):s.heap.FunFrames X.base X.stack:=by
 rcases I.ok.stk with e|⟨e,a⟩
 ·rw[e];exact I.funs
 ·rw[e];obtain⟨m,h,_⟩:=I.loc;refine .cons (by rw[I.ok.kind];decide) a h ?_ I.funs;exact Heap.get?_none_of_le (Ci I.ok.bsz I.ok.above)
theorem Inv.stkSub (I:Inv X pins σ H s):∀b∈frs X.stack,b∈X.env.locals::X.fs:=λb h=>by
 rcases I.ok.stk with e|⟨e,a⟩
 ·rw[e] at h;exact Ag _ h
 ·rw[e] at h;unfold frs at h;rw[Gn,a] at h;exact h
theorem Inv.stkFree (I:Inv X pins σ H s):∀b∈frs X.stack,H b=Zb:=λb h=>by
 rcases Am.mp (I.stkSub b h) with e|h
 ·rw[e];exact I.free
 ·obtain⟨_,o,a,_⟩:=I.ok.funs.mem h;exact I.base.free b o a (I.ok.frf b h) λz=>I.ok.exfs b z h
theorem Inv.step {g':Array GenState}{t':Nat}{d':Drawn}{ch:List Zh} (I:Inv X pins σ H s)
  (f:∀b∈ch,(b∈X.ex\/X.s₀.heap.objs.size<=b)/\b≠X.env.locals/\(∀x c,X.env.cells.lookup x=Za c->c≠b)/\∀p∈X.pn++pins,p.1≠b)
  (keep:∀b o,b≠X.env.locals->b ∉ X.fs->b ∉ ch->s.heap.get? b=Za o->H b=Zb->h'.get? b=Za o)
  (slot:∀b o,b≠X.env.locals->b∈X.fs->b ∉ ch->s.heap.get? b=Za o->H b=Zb->∃F,h'.get? b=Za { o with slots:=F }) (free:∀b o,b ∉ ch->s.heap.get? b=Za o->H b=Zb->H' b=Zb)
  (there:∀b o,b ∉ ch->s.heap.get? b=Za o->∃D,h'.get? b=Za D)
  (tups:∀b w,H b=Za (.tup w)->H' b=Za (.tup w)) (frzs:∀b o u,H b=Za (.frz o u)->H' b=Za (.frz o u)) (tbls:∀b E,H b=Za (.tbl E)->∃more,H' b=Za (.tbl (E++more)))
  (ns:∀m,s.heap.Ns X.env.locals m->h'.Ns X.env.locals m) (J:HOk X.prog X.w H' h') (Q:AllBare g') :
  Inv X pins σ H' { s with heap:=h',gens:=g',drawn:=d',toks:=t' }:=by
 have C:∀b o,X.s₀.heap.get? b=Za o->b≠X.env.locals:=λb o e=>Bb (Az (Ao e) I.ok.above);have j:∀b o,X.s₀.heap.get? b=Za o->b ∉ X.ex->b ∉ ch:=λb o e h y=>by
  rcases (f b y).1 with z|z
  ·exact h z
  ·exact absurd (Az (Ao e) z) (Bv _)
 have g:∀x c,X.env.cells.lookup x=Za c->∀v,s.heap.IsCell c v->h'.IsCell c v:=λx c e v ⟨o,A,K⟩=>by
  have a:c ∉ ch:=λz=>(f c z).2.2.1 x c e rfl;by_cases M:c∈X.fs
  ·obtain⟨F,q⟩:=slot c o (I.cne x c e) M a A (I.freeC x c e);exact⟨_,q,K⟩
  ·exact⟨o,keep c o (I.cne x c e) M a A (I.freeC x c e),K⟩
 refine⟨I.ok,I.os,Q,⟨λb o e n y h=>?_,λb o e n y h=>?_,λb o e n h=>?_,λb o e h=>?_,λb w e=>tups b w (I.base.tups b w e),λb o w e=>frzs b o w (I.base.frzs b o w e),λb E e=>?_⟩,?_,λx c e=>?_,?_,λx c e=>?_,λp N=>?_,J,I.len⟩
 ·exact keep b o (C b o e) y (j b o e h) (I.base.keep b o e n y h) (I.base.free b o e n h)
 ·obtain⟨F,t⟩:=I.base.slot b o e n y h;obtain⟨G,B⟩:=slot b _ (C b o e) y (j b o e h) t (I.base.free b o e n h);exact⟨G,B⟩
 ·obtain⟨D, t⟩:=I.base.there b o e h;exact free b D (j b o e h) t (I.base.free b o e n h)
 ·obtain⟨D, t⟩:=I.base.there b o e h;exact there b D (j b o e h) t
 ·obtain⟨T,t⟩:=I.base.tbls b E e;obtain⟨S,B⟩:=tbls b _ t;exact⟨T++S,by rw[B,Array.append_assoc]⟩
 ·obtain⟨m,R,O⟩:=I.loc;refine⟨m,ns m R,λi x v t B P=>?_⟩;obtain⟨u,r,l⟩:=O i x v t B P;refine⟨u,r,?_⟩;rcases l with l|⟨k,c,e,z⟩
  ·exact .inl l
  ·exact .inr ⟨k,c,e,g x c e _ z⟩
 ·obtain⟨v,z⟩:=I.cell x c e;exact⟨v,g x c e v z⟩
 ·obtain⟨m,⟨o,_,_,A,_⟩,_⟩:=I.loc;exact free _ o (λz=>(f _ z).2.1 rfl) A I.free
 ·obtain⟨v,o,A,K⟩:=I.cell x c e;exact free c o (λz=>(f c z).2.2.1 x c e rfl) A (I.freeC x c e)
 ·obtain⟨e,n,ne,L,d⟩:=I.pin p N;have a:p.1 ∉ ch:=λz=>(f p.1 z).2.2.2 p N rfl;exact⟨keep p.1 p.2 ne L a e n,free p.1 p.2 a e n,ne,L,d⟩
theorem Inv.un {t':Nat}(I:Inv X pins σ H s)(u:Un X.fs [] H H' s.heap h')(f:HOk X.prog X.w H' h'):Inv X pins σ H' { s with heap:=h',toks:=t' }:=by
 obtain⟨m,⟨o,p,t,g,r⟩,_⟩:=id I.loc;obtain⟨l,j⟩:=u.any g I.free (by simp);exact I.step (g':=s.gens) (d':=s.drawn) (ch:=[]) (λ_ z=>nomatch z) (λb o _ a _ e n=>u.keep b o e n a (by simp)) (λb o _ a _ e n=>u.slot b o e n a (by simp)) (λb o _ e n=>u.free b o e n (by simp)) (λb o _ e=>u.there b o e (by simp)) u.tups u.frzs u.tbls (λq k=>by
  obtain⟨v,d,c,h,i⟩:=k;rw[g] at h;ext h;exact⟨_,d,c,j,i⟩) f I.bare
theorem Inv.call {g':Array GenState}{t':Nat}{d':Drawn}{ch:List Zh} (I:Inv X pins σ H s) (u:Un (frs X.stack) ch H H' s.heap h') (g:HOk X.prog X.w H' h') (t:AllBare g')
  (a:∀b∈ch,(b∈X.ex\/X.s₀.heap.objs.size<=b)/\b≠X.env.locals/\(∀x c,X.env.cells.lookup x=Za c->c≠b)/\∀p∈X.pn++pins,p.1≠b) :
  Inv X pins σ H' { s with heap:=h',gens:=g',drawn:=d',toks:=t' }:=by
 obtain⟨m,⟨o,y,B,k,r⟩,_⟩:=id I.loc;obtain⟨w,j⟩:=u.any k I.free λz=>(a _ z).2.1 rfl;exact I.step (ch:=ch) a (λb o j q h e n=>u.keep b o e n (λz=>(Am.mp (I.stkSub b z)).elim j q) h) (λb o _ _ h e n=>u.any e n h) (λb o h e n=>u.free b o e n h) (λb o h e=>u.there b o e h) u.tups u.frzs u.tbls (λA v=>by
  obtain⟨C,f,i,d,l⟩:=v;rw[k] at d;ext d;exact⟨_,f,i,j,l⟩) g t
theorem Inv.turned {t':Nat}{it:Zh} (I:Inv X pins σ H s) (k:∀b o,b≠it->s.heap.get? b=Za o->h'.get? b=Za o) (w:H it=Zb) (d:it≠X.env.locals)
  (A:it∈X.ex\/X.s₀.heap.objs.size<=it) (g:∀x c,X.env.cells.lookup x=Za c->c≠it) (j:∀p∈X.pn++pins,p.1≠it):Inv X pins σ H { s with heap:=h',toks:=t' }:=by
 have a:∀b u,H b=Za u->b≠it:=λb u e z=>by rw[z,w] at e;cases e
 refine I.step (g':=s.gens) (d':=s.drawn) (ch:=[it]) (λb f=>?_) (λb o _ _ h e _=>k b o (λz=>h (by simp [z])) e) (λb o _ _ h e _=>⟨o.slots,k b o (λz=>h (by simp [z])) e⟩) (λ_ _ _ _ n=>n)
  (λb o h e=>⟨o,k b o (λz=>h (by simp [z])) e⟩) (λ_ _ e=>e) (λ_ _ _ e=>e) (λb B e=>⟨#[],by rw[e];simp⟩) (λm l=>?_) (λb u e=>?_) I.bare
 ·have e:b=it:=by simpa using f
  subst e;exact⟨A,d,g,j⟩
 ·obtain⟨o,i,t,y,r⟩:=l;exact⟨o,i,t,k _ o (Ne.symm d) y,r⟩
 ·refine (I.hok b u e).stay (λc v h q=>k c v ?_ q) (λ_ q=>q) λ_ _ q=>q;rcases h with z|z
  ·rw[z];exact a b u e
  ·exact a c _ z
theorem Inv.tok (I:Inv X pins σ H s)(t:Nat):Inv X pins σ H { s with toks:=t }:=I.un (h':=s.heap) (t':=t) Un.refl I.hok
theorem Inv.kept {t':Nat}(I:Inv X pins σ H s)(k:∀b u,s.heap.get? b=Za u->h'.get? b=Za u):Inv X pins σ H { s with heap:=h',toks:=t' }:=I.un (Un.kept k) (I.hok.kept k)
theorem Inv.laid {a:Zh}{o:HO}{t':Nat} (I:Inv X pins σ H s) (k:∀b u,s.heap.get? b=Za u->h'.get? b=Za u) (h:s.heap.objs.size<=a) (new:zbr X.prog X.w (upd H a o) h' a o) :
 Inv X pins σ (upd H a o) { s with heap:=h',toks:=t' }:=I.un (Un.laid k h (I.hok.fresh h)) (I.hok.laid k h new)
theorem Inv.write {x e:Zh}{o:HO}{t':Nat} (I:Inv X pins σ H s) (m:Mut (H x)) (a:e=x\/H e=Za (.own x)) (k:∀b u,b≠e->s.heap.get? b=Za u->h'.get? b=Za u) (h:∃u,h'.get? e=Za u)
 (new:zbr X.prog X.w (upd H x o) h' x o):Inv X pins σ (upd H x o) { s with heap:=h',toks:=t' }:=I.un (Un.write m a k h) (I.hok.write m a k h new)
theorem Inv.pins_of {pins':List (Zh×Obj)}(I:Inv X pins σ H s)(h:∀p∈pins',s.heap.get? p.1=Za p.2/\H p.1=Zb/\p.1≠X.env.locals/\p.1 ∉ X.fs/\∀v,p.2.data≠.cell v):Inv X pins' σ H s :=
 ⟨I.ok,I.os,I.bare,I.base,I.loc,I.cell,I.free,I.freeC,λp a=>(Bz.mp a).elim (λz=>I.pin p (List.mem_append_left _ z)) (h p),I.hok,I.len⟩
theorem zjv {N:List Str}(h:N.Nodup){i j:Nat}{x:Str}(a:N[i]?=Za x)(b:N[j]?=Za x):i=j:=by
 obtain⟨f,e⟩:=Ah.mp a;obtain⟨d,c⟩:=Ah.mp b;exact (List.getElem_inj h).mp (e.trans c.symm)
theorem zmz {M:Model}{A:Around}{E:Ze->Zf->Prop}{i:Nat}{x:Str}{v:V}{u:Ze}{Q:Unit->Zf->Prop} (I:Inv X pins σ H s) (hN:X.N.Nodup) (S:X.N[i]?=Za x) (w:Loc X.env.scope x) (r:RelV v u)
  (h:∀s',Inv X pins (σ.set i (Za v)) H s'->(∃a,Heap.SameBut a s.heap s'.heap/\(a=X.env.locals\/X.env.cells.lookup x=Za a))->Q () s') (hf:X.fn x=Zd\/X.env.scope.names.lookup x=Za .local:=by first|exact .inl rfl|exact .inr rfl|assumption):wpAny M A (storeName X.env x u) Q E s:=by
 obtain⟨m,hn,hl⟩:=id I.loc;have L:(X.env.scope.kind == .class || (X.env.scope.kind == .module && X.env.locals != X.env.globals))=Zc:=by rw[I.ok.kind];rfl
 have F:i<σ.length:=by rw[I.len];exact (Ah.mp S).1
 have cne:=I.cne;have t:∀{a:Zh}{h' : Heap},(∃o,s.heap.get? a=Za o/\H a=Zb)->Heap.SameBut a s.heap h'->HOk X.prog X.w H h':=λ{a h'} ha f b ob e=>by
  obtain⟨_,_,B⟩:=ha;refine (I.hok b ob e).stay (λc T l q=>(f.2 c ?_).trans q) (λ_ q=>q) λ_ _ q=>q;rintro rfl;rcases l with rfl|l
  ·rw[B] at e;cases e
  ·rw[B] at l;cases l
 rcases w with D|D
 ·refine wpAny_storeName_local D hn (λh' hn' f => ?_) L;obtain⟨oL,_,_,hoL,_⟩:=id hn;refine h _ ⟨I.ok,I.os,I.bare,⟨λb o e n G w=>?_,λb o e n G w=>?_,I.base.free,λb o e w=>?_,I.base.tups,I.base.frzs,I.base.tbls⟩,⟨_,hn',λj y v' g C Z=>?_⟩,λy c e=>?_,I.free,I.freeC,λp hp=>?_,t ⟨oL,hoL,I.free⟩ f,by simpa using I.len⟩ ⟨_,f,.inl rfl⟩
  ·exact (f.2 b (Bb (Az (Ao e) I.ok.above))).trans (I.base.keep b o e n G w)
  ·obtain⟨W,g⟩:=I.base.slot b o e n G w;exact⟨W,(f.2 b (Bb (Az (Ao e) I.ok.above))).trans g⟩
  ·obtain⟨o', g⟩:=I.base.there b o e w;exact⟨o',(f.2 b (Bb (Az (Ao e) I.ok.above))).trans g⟩
  ·by_cases K : j = i
   ·subst K;rw[S] at g;ext g;rw[Bn F] at C;cases C;exact⟨u,r,.inl ⟨D,by simp⟩⟩
   ·rw[Bt (Ne.symm K)] at C;obtain⟨u',Y,q⟩:=hl j y v' g C Z;refine⟨u',Y,?_⟩;rcases q with⟨k,e⟩|⟨k,c,e,z⟩
    ·refine .inl ⟨k, ?_⟩;have:y≠x:=λe=>K (zjv hN g (e ▸ S));simp [this,e]
    ·exact .inr ⟨k,c,e,z.sameBut f (cne y c e)⟩
  ·obtain⟨T, z⟩:=I.cell y c e;exact⟨T,z.sameBut f (cne y c e)⟩
  ·obtain⟨e,n,ne,nf,d⟩:=I.pin p hp;exact⟨(f.2 p.1 ne).trans e,n,ne,nf,d⟩
 ·have J:X.fn x=Zd:=by
   rcases hf with z|z
   ·exact z
   ·rw[z] at D;cases D
  obtain⟨c,l⟩:=I.ok.has x (.inl D);obtain⟨T,z⟩:=I.cell x c l;refine wpAny_storeName_cell I.ok.kind D l z (λh' N f=>?_);obtain⟨oc,P,O⟩:=id z;refine h { s with heap:=h' } ⟨I.ok,I.os,I.bare,⟨λb o e n G w=>?_,λb o e n G w=>?_,I.base.free,λb o e w=>?_,I.base.tups,I.base.frzs,I.base.tbls⟩,⟨m,hn.sameBut f (Ne.symm (cne x c l)),λj y v' g C Z=>?_⟩,λy U e=>?_,I.free,I.freeC,λp hp=>?_,t ⟨oc,P,I.freeC x c l⟩ f,by simpa using I.len⟩ ⟨c,f,.inr l⟩
  ·exact (f.2 b (Bb (Az (Ao e) (I.ok.cab x c J l)))).trans (I.base.keep b o e n G w)
  ·obtain⟨W,g⟩:=I.base.slot b o e n G w;exact⟨W,(f.2 b (Bb (Az (Ao e) (I.ok.cab x c J l)))).trans g⟩
  ·obtain⟨o', g⟩:=I.base.there b o e w;exact⟨o',(f.2 b (Bb (Az (Ao e) (I.ok.cab x c J l)))).trans g⟩
  ·by_cases K : j = i
   ·subst K;rw[S] at g;ext g;rw[Bn F] at C;cases C;exact⟨u,r,.inr ⟨.inl D,c,l,N⟩⟩
   ·rw[Bt (Ne.symm K)] at C;obtain⟨u',Y,q⟩:=hl j y v' g C Z;refine⟨u',Y,?_⟩;rcases q with q|⟨k,U,e,z'⟩
    ·exact .inl q
    ·refine .inr ⟨k,U, e,z'.sameBut f ?_⟩;rintro rfl;exact K (zjv hN g (I.ok.inj _ _ _ e l ▸ S))
  ·by_cases R : U = c
   ·subst R;exact⟨_,N⟩
   ·obtain⟨w2,z2⟩:=I.cell y U e;exact⟨w2,z2.sameBut f R⟩
  ·obtain⟨e,n,ne,nf,d⟩:=I.pin p hp;refine⟨(f.2 p.1 ?_).trans e,n,ne,nf,d⟩;intro q;rw[q,P] at e;have q' : oc=p.2:=sI e;exact d T (by rw[<-q'];exact O)
theorem ze6 {M:Model}{A:Around}{E:Ze->Zf->Prop}{i:Nat}{x:Str}{v:V}{u:Ze}{Q:Unit->Zf->Prop} (I:Inv X pins σ H s) (b:X.N.Nodup) (e:X.N[i]?=Za x) (d:Loc X.env.scope x) (r:RelV v u)
  (h:∀a,Inv X pins (σ.set i (Za v)) H a->Q () a) (c:X.fn x=Zd\/X.env.scope.names.lookup x=Za .local:=by first|exact .inl rfl|exact .inr rfl|assumption):wpAny M A (storeName X.env x u) Q E s :=
 zmz I b e d r (λa f _=>h a f) c
theorem Inv.call' {s':Zf}{ch:List Zh} (I:Inv X pins σ H s) (f:s'.os=s.os) (u:Un (frs X.stack) ch H H' s.heap s'.heap) (a:HOk X.prog X.w H' s'.heap) (i:AllBare s'.gens)
  (h:∀b∈ch,(b∈X.ex\/X.s₀.heap.objs.size<=b)/\b≠X.env.locals/\(∀x c,X.env.cells.lookup x=Za c->c≠b)/\∀p∈X.pn++pins,p.1≠b):Inv X pins σ H' s':=by
 obtain⟨h',g,d,t,o⟩:=s';have e:o=s.os:=f;subst e;exact I.call (g':=g) (t':=t) (d':=d) u a i h
end
noncomputable abbrev XK:=Ze->Option Zh->Hp->Prop
noncomputable abbrev St:=List (Option V)
noncomputable abbrev VK:=V->Hp->Prop
noncomputable abbrev TE:=St->Hp->VK->Prop
noncomputable abbrev TT:=St->Hp->(Bool->Hp->Prop)->Prop
noncomputable abbrev TA:=St->Hp->(List V->Hp->Prop)->Prop
structure Ends where
 nx:St->Hp->Prop
 rt:VK
 bk:St->Hp->Prop:=λ_ _=>False
 ct:St->Hp->Prop:=λ_ _=>False
noncomputable abbrev TS:=Ends->St->Hp->Prop
abbrev EP (X:Cx) (pins:List (Zh×Obj)) (σ:St) (Q:VK) (u:Ze) (s':Zf):Prop:=∃v H,Inv X pins σ H s'/\RelV v u/\Q v H
abbrev TP (X:Cx) (pins:List (Zh×Obj)) (σ:St) (Q:Bool->Hp->Prop) (b:Bool) (s':Zf):Prop:=∃H,Inv X pins σ H s'/\Q b H
abbrev AP (X:Cx) (pins:List (Zh×Obj)) (σ:St) (Q:List V->Hp->Prop) (us:List Ze) (s':Zf):Prop:=∃v H,Inv X pins σ H s'/\Vals v us/\Q v H
abbrev SP (X:Cx) (pins:List (Zh×Obj)) (D:Ends) (f:Flow) (s':Zf):Prop :=
 match f with
 |.next=>∃a H,Inv X pins a H s'/\D.nx a H
 |.brk=>∃a H,Inv X pins a H s'/\D.bk a H
 |.cont=>∃a H,Inv X pins a H s'/\D.ct a H
 |.ret u=>∃v a H,Inv X pins a H s'/\RelV v u/\D.rt v H
abbrev PE (X:Cx) (e:Zi) (t:TE):Prop :=
 ∀(pins:List (Zh×Obj)) (s:Zf) (σ:St) (H:Hp) (Q:VK),Inv X pins σ H s->t σ H Q->wpAny #v[2,7] X.A (eval e X.env) (EP X pins σ Q) X.xe s
abbrev PT (X:Cx) (e:Zi) (t:TT):Prop :=
 ∀(pins:List (Zh×Obj)) (s:Zf) (σ:St) (H:Hp) (Q:Bool->Hp->Prop),Inv X pins σ H s->t σ H Q->wpAny #v[2,7] X.A (isTrue e X.env (eval e X.env)) (TP X pins σ Q) X.xe s
abbrev PW (X:Cx) (e:Zi) (t:TT):Prop :=
 ∀(w:Sem Ze) (pins:List (Zh×Obj)) (s:Zf) (σ:St) (H:Hp) (Q:Bool->Hp->Prop),Inv X pins σ H s->t σ H Q->wpAny #v[2,7] X.A (isTrue e X.env w) (TP X pins σ Q) X.xe s
theorem PW.pt {X:Cx}{e:Zi}{t:TT}(h:PW X e t):PT X e t:=h _
abbrev PA (X:Cx) (es:List Zi) (t:TA):Prop :=
 ∀(pos:Pos) (pins:List (Zh×Obj)) (s:Zf) (σ:St) (H:Hp) (Q:List V->Hp->Prop),Inv X pins σ H s->t σ H Q->wpAny #v[2,7] X.A (spliced (backTo pos (starEach es X.env))) (AP X pins σ Q) X.xe s
abbrev PS (X:Cx) (st:Stmt) (t:TS):Prop :=
 ∀(pins:List (Zh×Obj)) (s:Zf) (σ:St) (H:Hp) (D:Ends),Inv X pins σ H s->t D σ H->wpAny #v[2,7] X.A (exec st X.env) (SP X pins D) X.xe s
abbrev PSs (X:Cx) (st:List Stmt) (t:TS):Prop :=
 ∀(pins:List (Zh×Obj)) (s:Zf) (σ:St) (H:Hp) (D:Ends),Inv X pins σ H s->t D σ H->wpAny #v[2,7] X.A (execs st X.env) (SP X pins D) X.xe s
theorem thn {α:Type}{t:Sem α}{Q Q':α->Zf->Prop}{M:Model}{A:Around}{E:Ze->Zf->Prop}{s:Zf}(h:wpAny M A t Q E s)(b:∀a s,Q a s->Q' a s):wpAny M A t Q' E s:=Bw h b λ_ _ x=>x
section
variable {X:Cx}
theorem bin {a b:Zi}{j t:TE} (m:PE X a j) (k:PE X b t) {pins:List (Zh×Obj)}{s:Zf}{σ:St}{H:Hp}{R:V->V->Hp->Prop} (I:Inv X pins σ H s) (h:j σ H λx i=>t σ i λy c=>R x y c)
  {α:Type}{Q:α->Zf->Prop}{f:Ze->Ze->Sem α}
  (p:∀v u g x y c,Inv X pins σ c g->RelV x v->RelV y u->R x y c->wpAny #v[2,7] X.A (f v u) Q X.xe g) :
  wpAny #v[2,7] X.A (eval a X.env) (λv d=>wpAny #v[2,7] X.A (eval b X.env) (λu e=>wpAny #v[2,7] X.A (f v u) Q X.xe e) X.xe d) X.xe s:=by
 refine thn (m pins s σ H _ I h) λv l ⟨x,i,o,w,q⟩=>?_;refine thn (k pins l σ i _ o q) λu g ⟨y,c,n,r,z⟩=>?_;exact p v u g x y c n w r z
abbrev tVar (i:Nat):TE:=λσ H Q=>∃v,σ[i]?=Za (Za v)/\Q v H
abbrev tC (v:V):TE:=λ_ H Q=>Q v H
theorem zej {i:Nat}{x:Str}{pos:Pos}(j:X.N[i]?=Za x)(n:Vis X.env.scope x)(d:(x==("__debug__" : Str))=Zc:=by decide)(f:(x==("__classdict__" : Str))=Zc:=by decide):PE X (.Name x pos) (tVar i):=by
 intro pins s σ H Q I h;nofun;obtain⟨v,e,h⟩:=h;obtain⟨m,p,k⟩:=I.loc;obtain⟨u,r,l⟩:=k i x v j e n;ac_rfl;have fin:EP X pins σ Q u s:=⟨v,H,I,r,h⟩;rcases l with⟨b,o⟩|⟨b,c,g,a⟩
 ·exact wpAny_Name (wpAny_loadName_local I.ok.kind b p o fin) d
 ·rcases b with b|b
  ·exact wpAny_Name (wpAny_loadName_cell I.ok.kind b g a fin) d
  ·exact wpAny_Name (wpAny_loadName_free I.ok.kind b g a fin f) d
theorem z2n {i j pos}:PE X (.Constant (.int i) j pos) (tC (.int i)):=λ_ _ _ H _ I h=>wpAny_Constant_int ⟨.int i,H,I.tok _,⟨_,rfl⟩,h⟩
theorem z7r {b j pos}:PE X (.Constant (.bool b) j pos) (tC (.bl b)):=λ_ _ _ H _ I h=>Constant_bool ⟨.bl b,H,I,rfl,h⟩
theorem zup {j pos}:PE X (.Constant .none j pos) (tC .non):=λ_ _ _ H _ I h=>Constant_none ⟨.non,H,I,rfl,h⟩
theorem zfy {x j pos}:PE X (.Constant (.str x) j pos) (tC (.str x)):=λ_ _ _ H _ I h=>Calls.Constant_str ⟨.str x,H,I.tok _,⟨_,rfl⟩,h⟩
abbrev Gl (X:Cx) (x:Str):Prop:=X.env.kindOf x=Za .globalImplicit
theorem zg8 {E:Ze->Zf->Prop}{pins:List (Zh×Obj)}{s:Zf}{σ:St}{H:Hp}{x:Str}{u:Ze}{pos:Pos}{Q:Ze->Zf->Prop} (I:Inv X pins σ H s) (b:Gl X x) (c:X.mg x=Za u) (h:Q u s)
  (a:(x==("__debug__" : Str))=Zc:=by decide):wpAny #v[2,7] X.A (eval (.Name x pos) X.env) Q E s :=
 Hh I.ok.kind b (Calls.loadGlobal_global (by rw[I.ok.glob];exact I.mod.glob.keeps I.bk) c h) a
theorem zdb {E:Ze->Zf->Prop}{pins:List (Zh×Obj)}{s:Zf}{σ:St}{H:Hp}{x:Str}{u:Ze}{pos:Pos}{Q:Ze->Zf->Prop} (I:Inv X pins σ H s) (d:Gl X x) (e:X.mg x=Zb) (c:bootBuiltins x=Za u) (h:Q u s)
  (f:x≠"__name__" := by decide) (a:(x==("__debug__" : Str))=Zc:=by decide):wpAny #v[2,7] X.A (eval (.Name x pos) X.env) Q E s:=by
 obtain⟨m,g,b⟩:=I.mod.blt;exact Hh I.ok.kind d (Calls.loadGlobal_builtin (by rw[I.ok.glob];exact I.mod.glob.keeps I.bk) e (by rw[I.ok.blt];exact g.keeps I.bk) ((b x f).trans c) h) a
theorem zyh {x:Str}{v:V}{u:Ze}{pos:Pos}(c:Gl X x)(d:X.mg x=Zb)(b:bootBuiltins x=Za u)(r:RelV v u)(e:x≠"__name__" := by decide)(a:(x==("__debug__" : Str))=Zc:=by decide):PE X (.Name x pos) (tC v) :=
 λ_ _ _ H _ I h=>zdb I c d b ⟨v,H,I,r,h⟩ e a
abbrev t2I (c t:TE) (k:Int->Int->Hp->Prop):St->Hp->Prop:=λσ H=>c σ H λx a=>t σ a λy b=>∃i j,x=.int i/\y=.int j/\k i j b
variable {a b:Zi}{ta tb:TE}{pos:Pos}
abbrev PC (X:Cx) (op:CmpOp) (a b:Zi) (t:TE):Prop :=
 ∀(pins:List (Zh×Obj)) (s:Zf) (σ:St) (H:Hp) (Q:VK),Inv X pins σ H s->t σ H Q ->
  wpAny #v[2,7] X.A (eval a X.env) (λv d=>wpAny #v[2,7] X.A (eval b X.env) (λu c=>wpAny #v[2,7] X.A (compareOp op v u) (EP X pins σ Q) X.xe c) X.xe d) X.xe s
theorem z0q (b:Zi){op:CmpOp}(h:op≠.In)(a:op≠.NotIn):behindInMarks op b=Zc:=by
 have e:(op==CmpOp.In)=Zc:=by cases op<;>first|rfl|exact absurd rfl h
 have c:(op==CmpOp.NotIn)=Zc:=by cases op<;>first|rfl|exact absurd rfl a
 cases b<;>simp [behindInMarks,e,c]
abbrev tCmp (p:Int->Int->Bool) (ta tb:TE):TE:=λσ H Q=>t2I ta tb (λi j a=>Q (.bl (p i j)) a) σ H
noncomputable abbrev tNeI:TE->TE->TE:=tCmp λi j=>!decide (i=j)
theorem z9r {op:CmpOp}{p:Int->Int->Bool} (g:PE X a ta) (d:PE X b tb)
  (rule:∀(i j:Int) (t u:Tok) (Q:Ze->Zf->Prop) (s:Zf),Q (.bool (p i j)) s->wpAny #v[2,7] X.A (compareOp op (.int i t) (.int j u)) Q X.xe s):PC X op a b (tCmp p ta tb):=by
 intro pins s σ H Q I h;refine bin g d I h λv u f x y k c r l q=>?_;obtain⟨i,j,rfl,rfl,q⟩:=q;obtain⟨t,rfl⟩:=r;obtain⟨e,rfl⟩:=l;exact rule i j t e _ f ⟨.bl _,k,c,rfl,q⟩
theorem ya2 (d:PE X a ta)(c:PE X b tb):PC X .NotEq a b (tNeI ta tb):=z9r d c λ_ _ _ _ _ _ h=>ne_int (by rw[bne,Bool.beq_eq_decide_eq];exact h)
abbrev tIsN (ta:TE):TE:=λσ H Q=>ta σ H λx a=>Q #v[6,19] a
theorem RelV.none_iff {x:V}{v:Ze}(r:RelV x v):(v==Ze.none)=decide (x=.non):=by
 cases x with
 |non=>cases r;rfl
 |bl _=>cases r;rfl
 |int _=>obtain⟨t,rfl⟩:=r;rfl
 |str _=>obtain⟨t,rfl⟩:=r;rfl
 |byt _=>obtain⟨t,rfl⟩:=r;rfl
 |flt _=>obtain⟨t,rfl⟩:=r;rfl
 |ref _=>cases r;rfl
 |ty _=>cases r;rfl
theorem ybz {j pos'}(d:PE X a ta):PC X .Is a (.Constant .none j pos') (tIsN ta):=by
 intro pins s σ H Q I h;refine thn (d pins s σ H _ I h) λv e ⟨x,b,c,r,q⟩=>?_;exact Constant_none (is_none_gen ⟨.bl _,b,c,by rw[r.none_iff];rfl,q⟩)
abbrev tB (t:TE):TT:=λσ H Q=>t σ H λx a=>∃c,x=.bl c/\Q c a
theorem z3m {op:CmpOp}{t:TE}(h:PC X op a b t)(e:behindInMarks op b=Zc:=by first|exact z0q _ #v[0,9] #v[0,9]|rfl):PT X (.Compare a [op] [b] pos) (tB t):=by
 intro pins s σ H Q I k;refine wpAny_isTrue_Compare1 (thn (h pins s σ H _ I k) λv m e=>thn e λu n i=>thn i λc l ⟨x,f,g,r,j⟩=>?_) e;obtain⟨d,rfl,q⟩:=j;cases r;exact Fe ⟨f,g,q⟩
theorem z3n {e:Zi}{t:TE}(h:PE X e t)(f:∀w,isTrue e X.env w=(do let v <- w;standAt e.pos;holding [v] (truthy v)):=by intro _;rfl):PT X e (tB t):=by
 intro pins s σ H Q I g;refine isTrue_plain (thn (h pins s σ H _ I g) λv i ⟨x,a,b,r,c⟩=>?_) (f _);obtain⟨d,rfl,q⟩:=c;cases r;exact Fe ⟨a,b,q⟩
variable {tA tB' : TT}{rest:List Zi}
abbrev tAnd (t u:TT):TT:=λσ H Q=>t σ H λc a=>if c=Zd then u σ a Q else Q Zc a
abbrev tOr (t u:TT):TT:=λσ H Q=>t σ H λc a=>if c=Zd then Q Zd a else u σ a Q
abbrev tNot (t:TT):TT:=λσ H Q=>t σ H λc a=>Q (!c) a
theorem z4k (b:PT X a tA):PW X (.BoolOp .And [a] pos) tA:=by
 intro w pins s σ H Q I h;refine isTrue_and (thn (b pins s σ H Q I h) λc d e=>?_);cases c with
 |true=>exact isTrue_and_nil e
 |false=>exact e
theorem z3p (b:PT X a tA):PW X (.BoolOp .Or [a] pos) tA:=by
 intro w pins s σ H Q I h;refine isTrue_or (thn (b pins s σ H Q I h) λc d e=>?_);cases c with
 |false=>exact isTrue_or_nil e
 |true=>exact e
theorem z8x (i:PT X a tA)(f:PW X (.BoolOp .And (b::rest) pos) tB'):PW X (.BoolOp .And (a::b::rest) pos) (tAnd tA tB'):=by
 intro w pins s σ H Q I h;refine isTrue_and (thn (i pins s σ H _ I h) λc g ⟨d,e,q⟩=>?_);cases c with
 |true=>exact f w pins g σ d Q e q
 |false=>exact⟨d,e,q⟩
theorem z9w (i:PT X a tA)(f:PW X (.BoolOp .Or (b::rest) pos) tB'):PW X (.BoolOp .Or (a::b::rest) pos) (tOr tA tB'):=by
 intro w pins s σ H Q I h;refine isTrue_or (thn (i pins s σ H _ I h) λc g ⟨d,e,q⟩=>?_);cases c with
 |true=>exact⟨d,e,q⟩
 |false=>exact f w pins g σ d Q e q
theorem z3o (d:PT X a tA):PT X (.UnaryOp .Not a pos) (tNot tA):=by
 intro pins s σ H Q I h;exact isTrue_not (d pins s σ H (λc b=>Q (!c) b) I h)
abbrev z8a (ta tb:TE):TE:=λσ H Q=>ta σ H λx a=>∃c,x=.bl c/\if c=Zd then tb σ a Q else Q (.bl Zc) a
theorem z91 {op}{t:TE}(h:PE X a t):PE X (.BoolOp op [a] pos) t:=λpins s σ H Q I b=>BoolOp_one (h pins s σ H Q I b)
theorem ybe (i:PE X a ta)(f:PE X (.BoolOp .And (b::rest) pos) tb):PE X (.BoolOp .And (a::b::rest) pos) (z8a ta tb):=by
 intro pins s σ H Q I h;refine BoolOp_and (thn (i pins s σ H _ I h) λv g ⟨x,d,e,r,q⟩=>?_);obtain⟨c,rfl,q⟩:=q;cases r;refine Fe ?_;cases c with
 |true=>exact f pins g σ d Q e q
 |false=>exact⟨.bl Zc,d,e,rfl,q⟩
abbrev tIf (t:TT) (ta tb:TE):TE:=λσ H Q=>t σ H λc a=>if c=Zd then ta σ a Q else tb σ a Q
theorem zps {c:Zi}(k:PT X c tA)(j:PE X a ta)(i:PE X b tb):PE X (.IfExp c a b pos) (tIf tA ta tb):=by
 intro pins s σ H Q I h;refine wpAny_IfExp (thn (k pins s σ H _ I h) λd g ⟨e,f,q⟩=>?_);cases d with
 |true=>exact j pins g σ e Q f q
 |false=>exact i pins g σ e Q f q
end
abbrev SqL (K:Zg) (H:Hp) (a:Zh) (xs:List V):Prop :=
 Rd H a (.lst xs) \/
  ∃(o:Obj) (i:Array Ze) (n:Nat),K.lookup a=Za o/\o.cls=.type "list"/\o.dict=Zb/\o.data=.seq i n/\i.size<=sizeLine/\Vals xs i.toList
abbrev SqT (K:Zg) (H:Hp) (a:Zh) (xs:List V):Prop :=
 Rd H a (.tup xs) \/
  ∃(o:Obj) (i:Array Ze) (n:Nat),K.lookup a=Za o/\o.cls=.type "tuple"/\o.data=.seq i n/\i.size<=sizeLine/\Vals xs i.toList
abbrev absV:Ze->Option V
 |.none=>Za .non
 |.bool b=>Za (.bl b)
 |.int i _=>Za (.int i)
 |.str x _=>Za (.str x)
 |.bytes b _=>Za (.byt b)
 |.float b _=>Za (.flt b)
 |.ref a=>Za (.ref a)
 |.type n=>Za (.ty n)
 |_=>Zb
theorem RelV.abs {x:V}{u:Ze}(r:RelV x u):absV u=Za x:=by
 cases x with
 |non=>cases r;rfl
 |bl _=>cases r;rfl
 |int _=>obtain⟨t,rfl⟩:=r;rfl
 |str _=>obtain⟨t,rfl⟩:=r;rfl
 |byt _=>obtain⟨t,rfl⟩:=r;rfl
 |flt _=>obtain⟨t,rfl⟩:=r;rfl
 |ref _=>cases r;rfl
 |ty _=>cases r;rfl
theorem RelV.inj {x y:V}{u:Ze}(r:RelV x u)(q:RelV y u):x=y:=sI (r.abs.symm.trans q.abs)
theorem Vals.inj:∀{x y:List V}{u:List Ze},Vals x u->Vals y u->x=y
 |_,_,_,.nil,.nil=>rfl
 |_,_,_,.cons r t,.cons a b=>by rw[r.inj a,Vals.inj t b]
section
variable {X:Cx}{pins:List (Zh × Obj)}{σ:St}{H:Hp}{s:Zf}{a:Zh}{xs ys:List V}
theorem SqL.of {K:Zg}(h:H a=Za (.lst xs)):SqL K H a xs:=.inl (.inl h)
theorem SqT.of {K:Zg}(h:H a=Za (.tup xs)):SqT K H a xs:=.inl (.inl h)
theorem Inv.list (I:Inv X pins σ H s)(h:SqL X.K H a xs):∃i:List Ze,Vals xs i/\PlainL s.heap a i.toArray/\xs.length<=sizeLine:=by
 rcases h with h|⟨o,i,n,c,f,b,d,g,r⟩
 ·obtain⟨z,i,n,r,e⟩:=h.ok I.hok;exact⟨i,r,⟨_,n,e,rfl,rfl,rfl⟩,z⟩
 ·refine⟨i.toList,r,⟨o,n,I.kIn a o c,f,b,by simpa using d⟩, ?_⟩;have e:=r.length;simp only [Bx] at e;symm
theorem Inv.tuple (I:Inv X pins σ H s)(h:SqT X.K H a xs):∃i:List Ze,Vals xs i/\IsTup s.heap a i.toArray/\xs.length<=sizeLine:=by
 rcases h with h|⟨o,i,n,b,d,c,f,r⟩
 ·obtain⟨z,i,r,p⟩:=h.ok I.hok;exact⟨i,r,p.t,z⟩
 ·refine⟨i.toList,r,⟨o,I.kIn a o b,d,n,by simpa using c⟩, ?_⟩;have e:=r.length;simp only [Bx] at e;symm
theorem Inv.list_inj (I:Inv X pins σ H s)(h:SqL X.K H a xs)(h':SqL X.K H a ys):xs=ys:=by
 obtain⟨i,r,⟨o,n,e,_,_,d⟩,_⟩:=I.list h;obtain⟨its',f,⟨j,g,b,_,_,c⟩,_⟩:=I.list h';rw[e] at b;ext b;rw[d] at c;injection c with d1 _;have:i=its':=by simpa using congrArg Array.toList d1
 subst this;exact r.inj f
theorem Inv.tuple_inj (I:Inv X pins σ H s)(h:SqT X.K H a xs)(h':SqT X.K H a ys):xs=ys:=by
 obtain⟨i,r,⟨o,e,_,n,d⟩,_⟩:=I.tuple h;obtain⟨its',f,⟨j,b,_,g,c⟩,_⟩:=I.tuple h';rw[e] at b;ext b;rw[d] at c;injection c with d1 _;have:i=its':=by simpa using congrArg Array.toList d1
 subst this;exact r.inj f
end
noncomputable abbrev Cx.wish (X:Cx) (E:Ze->Zf->Prop):Cx:={ X with xe:=E }
noncomputable abbrev Cx.nox (X:Cx):Cx:=X.wish λ_ _=>False
theorem Cx.Ok.wish {X:Cx}(ok:X.Ok)(E:Ze->Zf->Prop):(X.wish E).Ok :=
 ⟨ok.mod,ok.kind,ok.glob,ok.blt,ok.above,ok.inj,ok.has,ok.cab,ok.hd,ok.frames,ok.stk,ok.exf,ok.bs,ok.bsz,ok.noex,ok.exfs,ok.funs,ok.frf⟩
theorem Cx.Ok.unwish {X:Cx}{E:Ze->Zf->Prop}(ok:(X.wish E).Ok):X.Ok :=
 ⟨ok.mod,ok.kind,ok.glob,ok.blt,ok.above,ok.inj,ok.has,ok.cab,ok.hd,ok.frames,ok.stk,ok.exf,ok.bs,ok.bsz,ok.noex,ok.exfs,ok.funs,ok.frf⟩
section
variable {X:Cx}{pins:List (Zh × Obj)}{σ:St}{H:Hp}{s:Zf}{E:Ze->Zf->Prop}
theorem Inv.wish (I:Inv X pins σ H s)(E:Ze->Zf->Prop):Inv (X.wish E) pins σ H s:=⟨I.ok.wish E,I.os,I.bare,I.base,I.loc,I.cell,I.free,I.freeC,I.pin,I.hok,I.len⟩
theorem Inv.unwish (I:Inv (X.wish E) pins σ H s):Inv X pins σ H s:=⟨I.ok.unwish,I.os,I.bare,I.base,I.loc,I.cell,I.free,I.freeC,I.pin,I.hok,I.len⟩
theorem SP.unwish {D:Ends}{f:Flow}{s':Zf}(h:SP (X.wish E) pins D f s'):SP X pins D f s':=by
 cases f with
 |next=>obtain⟨a,H,I,q⟩:=h;exact⟨a,H,I.unwish,q⟩
 |brk=>obtain⟨a,H,I,q⟩:=h;exact⟨a,H,I.unwish,q⟩
 |cont=>obtain⟨a,H,I,q⟩:=h;exact⟨a,H,I.unwish,q⟩
 |ret u=>obtain⟨v,a,H,I,r,q⟩:=h;exact⟨v,a,H,I.unwish,r,q⟩
theorem PE.nox {e:Zi}{t:TE}(h:PE X.nox e t):PE X e t:=λpins s σ H Q I c =>
 Bw (h pins s σ H Q (I.wish _) c) (λ_ _ ⟨v,a,b,r,q⟩=>⟨v,a,b.unwish,r,q⟩) λ_ _ z=>False.elim z
theorem PT.nox {e:Zi}{t:TT}(h:PT X.nox e t):PT X e t:=λpins s σ H Q I c =>
 Bw (h pins s σ H Q (I.wish _) c) (λ_ _ ⟨a,b,q⟩=>⟨a,b.unwish,q⟩) λ_ _ z=>False.elim z
theorem PSs.nox {st:List Stmt}{t:TS}(h:PSs X.nox st t):PSs X st t:=λpins s σ H D I a =>
 Bw (h pins s σ H D (I.wish _) a) (λ_ _ q=>q.unwish) λ_ _ z=>False.elim z
end
section
variable {X:Cx}{st:Stmt}{rest:List Stmt}{t u:TS}{e:Zi}{te:TE}{pos:Pos}
abbrev z0k:TS:=λD σ H=>D.nx σ H
abbrev tSeq (t u:TS):TS:=λD σ H=>t { D with nx:=u D } σ H
theorem zo8:PSs X [] z0k:=λ_ _ σ H _ I h=>Gy ⟨σ,H,I,h⟩
theorem zcc (d:PS X st t) (c:PSs X rest u):PSs X (st::rest) (tSeq t u):=by
 intro pins s σ H D I h;refine wpAny_execs_cons (thn (d pins s σ H { D with nx:=u D } I h) λf e q=>?_);cases f with
 | next =>
  obtain⟨a,b,g,q⟩:=q;exact c pins e a b D g q
 |ret v=>exact q
 |brk=>exact q
 |cont=>exact q
theorem pss_one (a:PS X st t):PSs X [st] t:=by
 intro pins s σ H D I h;refine wpAny_execs_cons (thn (a pins s σ H D I h) λf b q=>?_);cases f with
 |next=>exact Gy q
 |ret v=>exact q
 |brk=>exact q
 |cont=>exact q
theorem z5c:PS X (.Pass pos) z0k:=λ_ _ σ H _ I h=>wpAny_Pass ⟨σ,H,I,h⟩
theorem Inv.quiet {pins:List (Zh×Obj)}{σ:St}{H:Hp}{s:Zf}(I:Inv X pins σ H s):interactive X.env=Zc:=by simp [interactive,I.ok.kind]
abbrev z42 (te:TE):TS:=λD σ H=>te σ H λ_ a=>D.nx σ a
theorem zx3 (d:PE X e te)(c:swapsWith e Zb pos.line X.env=pure Zc:=by rfl):PS X (.Expr e pos) (z42 te):=by
 intro pins s σ H D I h;exact wpAny_Expr_any (thn (d pins s σ H _ I h) λv f ⟨x,a,b,r,q⟩=>⟨σ,a,b,q⟩) I.quiet c
abbrev tRet (te:TE):TS:=λD σ H=>te σ H D.rt
theorem zkr (c:PE X e te):PS X (.Return (Za e) pos) (tRet te):=by
 intro pins s σ H D I h;exact wpAny_Return_some (thn (c pins s σ H _ I h) λv d ⟨x,a,b,r,q⟩=>⟨x,σ,a,b,r,q⟩)
abbrev tIfS (c:TT) (t u:TS):TS:=λD σ H=>c σ H λb a=>if b=Zd then t D σ a else u D σ a
theorem z63 {c:Zi}{a b:List Stmt}{tc:TT}(k:PT X c tc)(j:PSs X a t)(i:PSs X b u):PS X (.If c a b pos) (tIfS tc t u):=by
 intro pins s σ H D I h;refine wpAny_If (thn (k pins s σ H _ I h) λd g ⟨e,f,q⟩=>?_);cases d with
 |true=>exact j pins g σ e D f q
 |false=>exact i pins g σ e D f q
end
noncomputable abbrev TG:=V->St->Hp->(St->Hp->Prop)->Prop
noncomputable abbrev TGs:=List V->St->Hp->(St->Hp->Prop)->Prop
abbrev PG (X:Cx) (a:Zi) (t:TG):Prop :=
 ∀(pins:List (Zh×Obj)) (s:Zf) (σ:St) (H:Hp) (v:V) (u:Ze) (Q:St->Hp->Prop),Inv X pins σ H s->RelV v u->t v σ H Q ->
  wpAny #v[2,7] X.A (assign a X.env u) (λ_ d=>∃b c,Inv X pins b c d/\Q b c) X.xe s
abbrev PGs (X:Cx) (ts:List Zi) (t:TGs):Prop :=
 ∀(pins:List (Zh×Obj)) (s:Zf) (σ:St) (H:Hp) (c:List V) (u:List Ze) (Q:St->Hp->Prop),Inv X pins σ H s->Vals c u->t c σ H Q ->
  wpAny #v[2,7] X.A (assignInOrder ((assignEach ts X.env).map (·.2)) u) (λ_ d=>∃a b,Inv X pins a b d/\Q a b) X.xe s
noncomputable abbrev TSet:=V->V->V->Hp->(Hp->Prop)->Prop
abbrev PSet (X:Cx) (t:TSet):Prop :=
 ∀(pins:List (Zh×Obj)) (s:Zf) (σ:St) (H:Hp) (o i v:V) (b c u:Ze) (Q:Hp->Prop),Inv X pins σ H s->RelV o b->RelV i c->RelV v u->t o i v H Q ->
  wpAny #v[2,7] X.A (setItem b c u) (λ_ d=>∃a,Inv X pins σ a d/\Q a) X.xe s
noncomputable abbrev TIp:=V->V->Hp->VK->Prop
abbrev PIp (X:Cx) (op:Operator) (t:TIp):Prop :=
 ∀(pins:List (Zh×Obj)) (s:Zf) (σ:St) (H:Hp) (x y:V) (v u:Ze) (Q:VK),Inv X pins σ H s->RelV x v->RelV y u->t x y H Q ->
  wpAny #v[2,7] X.A (inplaceOp op v u) (EP X pins σ Q) X.xe s
section
variable {X:Cx}{pos:Pos}
abbrev zfn (i:Nat):TG:=λv σ H Q=>Q (σ.set i (Za v)) H
theorem zj5 {i:Nat}{x:Str}(a:X.N.Nodup)(d:X.N[i]?=Za x)(c:Loc X.env.scope x)(b:X.fn x=Zd\/X.env.scope.names.lookup x=Za .local:=by first|exact .inl rfl|exact .inr rfl|assumption):PG X (.Name x pos) (zfn i):=by
 intro pins s σ H v u Q I r h;exact wpAny_assign_Name (ze6 I a d c r (λf e=>⟨_,H,e,h⟩) b)
abbrev gNil:TGs:=λv σ H Q=>v=[]/\Q σ H
abbrev zsf (t:TG) (u:TGs):TGs:=λc σ H Q=>∃v r,c=v::r/\t v σ H λa b=>u r a b Q
theorem zuu:PGs X [] gNil:=by
 intro pins s σ H v u Q I r h;obtain⟨e,h⟩:=h;subst e;cases r;exact assignInOrder_nil ⟨σ,H,I,h⟩
theorem zjr {e:Zi}{es:List Zi}{t:TG}{u:TGs} (j:PG X e t) (f:PGs X es u)
  (i:(assignEach (e::es) X.env).map (·.2)=assign e X.env::(assignEach es X.env).map (·.2):=by rfl):PGs X (e::es) (zsf t u):=by
 intro pins s σ H k l Q I r h;obtain⟨v,m,c,h⟩:=h;subst c;cases r with
 | cons r a =>
  rw[i];refine assignInOrder_cons (thn (j pins s σ H _ _ _ I r h) λ_ g ⟨σ1,b,d,q⟩=>?_);exact f pins g σ1 b _ _ Q d a q
abbrev gTup (K:Zg) (n:Nat) (t:TGs):TG:=λv σ H Q=>∃a x,v=.ref a/\SqT K H a x/\x.length=n/\t x σ H Q
theorem z2t {es:List Zi}{k:Nat}{t:TGs}{n:Nat} (z:X.calm=Zd) (h:PGs X es t)
  (w:(assignEach es X.env).length=n:=by rfl) (d:(assignEach es X.env).findIdx? (·.1)=Zb:=by rfl):PG X (.Tuple es k pos) (gTup X.K n t):=by
 intro pins s σ H v u Q I r c;nofun;obtain⟨a,x,g,l,j,c⟩:=c;ac_rfl;subst g;cases r;nofun;obtain⟨m,f,p,A⟩:=I.tuple l;ac_rfl;refine assign_Tuple_tuple (I.ok.hd z) p (by simp [w,<-j,f.length]) d λy q=>?_;have i:Inv X pins σ H { s with heap:=y }:=I.kept (t':=s.toks) λb o e=>q b o (Bb (Ao e)) e;exact h pins _ σ H x _ Q i (by simpa using f) c
abbrev gSub (e a:TE) (t:TSet):TG:=λv σ H Q=>e σ H λo b=>a σ b λi d=>t o i v d λc=>Q σ c
theorem z97 {o i:Zi}{d c:TE}{t:TSet} (E:PE X o d) (C:PE X i c) (j:PSet X t)
  (g:∀v,assign (.Subscript o i pos) X.env v=(do
   let a <- holding [v] (eval o X.env)
   let b <- holding [v,a] (eval i X.env)
   standAt pos
   holding [v,a,b] (setItem a b v)
   release [v,a,b] []):=by intro _;rfl):PG X (.Subscript o i pos) (gSub d c t):=by
 intro pins s σ H v u Q I r h;rw[g];refine Aa (Dc (thn (E pins s σ H _ I h) λa f ⟨x,e,n,A,w⟩=>?_));refine Aa (Dc (thn (C pins f σ e _ n w) λb B ⟨y,z,l,k,D⟩=>?_));refine Aa (Fs (Aa (Dc (thn (j pins B σ z x y v a b u _ l A k r D) λ_ F ⟨m,p,q⟩=>?_))));exact wpAny_release ⟨σ,m,p,q⟩
abbrev tAsg (te:TE) (g:TG):TS:=λD σ H=>te σ H λx a=>g x σ a D.nx
theorem zvc {t e:Zi}{te:TE}{g:TG} (k:PE X e te) (i:PG X t g) (j:swapsWithSole [t] e pos.line X.env=pure Zc:=by rfl) (c:swappedStores [t] e X.env=pure Zb:=by rfl)
  (l:(assignEach [t] X.env).map (·.2)=[assign t X.env]:=by rfl):PS X (.Assign [t] e pos) (tAsg te g):=by
 intro pins s σ H D I h;refine wpAny_Assign_stores (thn (k pins s σ H _ I h) λv f ⟨x,a,b,r,d⟩=>?_) j c;rw[l];exact thn (i pins f σ a x v _ b r d) λ_ m q=>q
theorem zm2 {i:Nat}{x:Str}{e:Zi}{te:TE}{pos':Pos} (b:X.N.Nodup) (k:X.N[i]?=Za x) (g:Loc X.env.scope x) (l:PE X e te) (j:swapsWith e (Za (.Name x pos')) pos.line X.env=pure Zc:=by rfl) (f:X.fn x=Zd\/X.env.scope.names.lookup x=Za .local:=by first | exact .inl rfl | exact .inr rfl | assumption) :
  PS X (.Assign [.Name x pos'] e pos) (tAsg te (zfn i)):=by
 intro pins s σ H D I h;refine wpAny_Assign_Name (thn (l pins s σ H _ I h) λv m ⟨y,a,d,r,q⟩=>?_) j;exact ze6 d b k g r (λn c=>⟨_,a,c,q⟩) f
abbrev tAug (i:Nat) (te:TE) (t:TIp):TS:=λD σ H=>∃x,σ[i]?=Za (Za x)/\te σ H λy a=>t x y a λz b=>D.nx (σ.set i (Za z)) b
theorem zxw {i:Nat}{x:Str}{e:Zi}{te:TE}{op:Operator}{t:TIp}{pos':Pos} (M:X.N.Nodup) (j:X.N[i]?=Za x) (g:Loc X.env.scope x) (P:PE X e te) (R:PIp X op t) (F:X.fn x=Zd\/X.env.scope.names.lookup x=Za .local:=by first | exact .inl rfl | exact .inr rfl | assumption) :
  PS X (.AugAssign (.Name x pos') op e pos) (tAug i te t):=by
 intro pins s σ H D I h;obtain⟨v,N,h⟩:=h;obtain⟨m,L,o⟩:=I.loc;have vis:Vis X.env.scope x:=by rcases g with k|k;exact .inl k;exact .inr (.inl k)
 obtain⟨u,r,l⟩:=o i x v j N vis;refine wpAny_AugAssign_Name ?_;have go:wpAny #v[2,7] X.A (eval e X.env) (λw f=>wpAny #v[2,7] X.A (inplaceOp op u w) (λr d=>wpAny #v[2,7] X.A (storeName X.env x r) (λ_=>SP X pins D .next) X.xe d) X.xe f) X.xe s:=by
  refine thn (P pins s σ H _ I h) λw p ⟨y,n,C,O,G⟩=>?_;refine thn (R pins p σ n v y u w _ C r O G) λz U ⟨T,K,B,q,Q⟩=>?_;exact ze6 B M j g q (λS E=>⟨_,K,E,Q⟩) F
 rcases l with⟨a,J⟩|⟨a,c,A,b⟩
 ·exact wpAny_loadName_local I.ok.kind a L J go
 ·rcases a with a|a
  ·exact wpAny_loadName_cell I.ok.kind a A b go
  ·rcases g with k|k
   ·have:X.env.scope.names.lookup x=Za .free:=a;rw[k] at this;cases this
   ·have:X.env.scope.names.lookup x=Za .free:=a;rw[k] at this;cases this
end
section
variable {X:Cx}{pos:Pos}
end
structure It where
 go:Nat->Hp->Prop
 yld:Nat->Hp->V->Hp->Prop
 stop:Nat->Hp->Prop
abbrev FpOk (X:Cx) (pins:List (Zh×Obj)) (H:Hp) (b:Zh):Prop :=
 H b=Zb/\b≠X.env.locals/\b ∉ X.fs/\(b∈X.ex\/X.s₀.heap.objs.size<=b)/\(∀x c,X.env.cells.lookup x=Za c->c≠b)/\∀p∈X.pn++pins,p.1≠b
theorem Inv.fpOk {X:Cx}{pins:List (Zh×Obj)}{σ:St}{H H':Hp}{s:Zf}{b:Zh}(I:Inv X pins σ H s)(h:s.heap.objs.size<=b)(d:H' b=Zb):FpOk X pins H' b:=by
 refine⟨d,Nat.ne_of_gt (Az I.lt h),I.nofs h,.inr (Ci I.sz h),λx c e z=>?_,λp a z=>?_⟩
 ·obtain⟨v,q⟩:=I.cell x c e;exact absurd (Az q.lt (by rw[z];exact h)) (Bv _)
 ·exact absurd (Az (Ao (I.pin p a).1) (by rw[z];exact h)) (Bv _)
structure Turn (P:Program) (w:World) (K:Zg) (tg:Zi) (J:It) (fp:List Zh) (it:Zh) (tn:Nat->Heap->Prop):Prop where
 mem:it∈fp
 obj:∀i h,tn i h->∀b∈fp,∃o,h.get? b=Za o/\∀v,o.data≠.cell v
 keep:∀i h h',tn i h->(∀b∈fp,∀o,h.get? b=Za o->h'.get? b=Za o)->tn i h'
 item:∀(X:Cx),X.prog=P->X.w=w->X.K=K->X.calm=Zd->∀(i:Nat) (pins:List (Zh×Obj)) (s:Zf) (σ:St) (H:Hp) (E:Ze->Zf->Prop),Inv X pins σ H s->(∀b∈fp,FpOk X pins H b)->tn i s.heap->J.go i H ->
  wpAny (model P w) X.A (pyNext (.ref it)) (λr s1=>∃u,r=Za u /\
   wpAny (model P w) X.A (letOwnedTupleGo tg (.ref it) u) (λ_ s2=>∃x H',Inv X pins σ H' s2/\RelV x u/\J.yld i H x H'/\tn (i+1) s2.heap/\∀b∈fp,H' b=Zb) E s1) E s
 done:∀(X:Cx),X.prog=P->X.w=w->X.K=K->X.calm=Zd->∀(i:Nat) (pins:List (Zh×Obj)) (s:Zf) (σ:St) (H:Hp) (E:Ze->Zf->Prop),Inv X pins σ H s->(∀b∈fp,FpOk X pins H b)->tn i s.heap->J.stop i H ->
  wpAny (model P w) X.A (pyNext (.ref it)) (λr s1=>r=Zb/\Inv X pins σ H s1) E s
 self:∀(A:Around) (i:Nat) (s:Zf) (Q:Ze->Zf->Prop) (E:Ze->Zf->Prop),tn i s.heap->Q (.ref it) s->wpAny (model P w) A (pyIter (.ref it)) Q E s
noncomputable abbrev TI:=St->Hp->(It->Hp->Prop)->Prop
abbrev PIE (X:Cx) (pins:List (Zh×Obj)) (σ:St) (c:Zi) (R:It->Hp->Prop) (i:Ze) (s:Zf):Prop :=
 ∃(a:Zh) (fp:List Zh) (t:Nat->Heap->Prop) (J:It) (H:Hp),i=.ref a/\Inv X pins σ H s/\Turn X.prog X.w X.K c J fp a t/\t 0 s.heap/\(∀b∈fp,FpOk X pins H b)/\R J H
abbrev PI (X:Cx) (t iter:Zi) (w:TI):Prop :=
 ∀(pins:List (Zh×Obj)) (s:Zf) (σ:St) (H:Hp) (R:It->Hp->Prop),Inv X pins σ H s->w σ H R ->
  wpAny #v[2,7] X.A (eval iter X.env) (λv a=>wpAny #v[2,7] X.A (pyIter v) (PIE X pins σ t R) X.xe a) X.xe s
theorem z0f {M:Model}{A:Around}{E:Ze->Zf->Prop}{s:Zf}{t:Zi}{it:Zh}{u:Ze}{o:Obj}{n:String}{vs:Array Ze}{Q:Unit->Zf->Prop} (e:s.heap.get? it=Za o) (d:o.cls=.type n) (b:o.data=.fields vs)
    (c:["enumerate","zip","dict_itemiterator","dict_reverseitemiterator","odict_iterator","itertools.zip_longest","itertools.pairwise"].contains n=Zc) (a:Q () s):wpAny M A (letOwnedTupleGo t (.ref it) u) Q E s:=by
  unfold letOwnedTupleGo;cases t<;>first
    |exact Ak a
    | (cases u<;>first
        |exact Ak a
        | (refine Aa (wpAny_load e ?_)
           rw[d,b];show wpAny M A (if (["enumerate","zip","dict_itemiterator","dict_reverseitemiterator","odict_iterator","itertools.zip_longest","itertools.pairwise"].contains n&&vs[0]? == Za (rawInt _))=Zd then _ else _) Q E s;rw[if_neg (by intro h;rw[c,Ey] at h;cases h)];exact Ak a))
abbrev Itl (K:Zg) (a:Zh):It :=
 ⟨λi H=>∃b x,SqL K H a b/\b[i]?=Za x,λi H x c=>c=H/\∀b,SqL K H a b->b[i]?=Za x,λi H=>∃b,SqL K H a b/\b.length<=i⟩
abbrev Itt (K:Zg) (a:Zh):It :=
 ⟨λi H=>∃b x,SqT K H a b/\b[i]?=Za x,λi H x c=>c=H/\∀b,SqT K H a b->b[i]?=Za x,λi H=>∃b,SqT K H a b/\b.length<=i⟩
abbrev Itr (lo:Int) (n:Nat):It:=⟨λi _=>i<n,λi H x a=>a=H/\x=.int (lo+i),λi _=>n<=i⟩
theorem zvv {P:Program}{w:World}{K:Zg}{Q:Zi}(a it:Zh):Turn P w K Q (Itl K a) [it] it (λi h=>h.IsListIter it a i) where
 mem:=by simp
 obj:=λi h f b g=>by
  have e:b=it:=by simpa using g
  subst e;nofun;obtain⟨o,e,c,d⟩:=f;ac_rfl;exact⟨o,e,λv z=>by rw[d] at z;cases z⟩
 keep:=λi h n f k=>f.at λo e=>k it (by simp) o e
 item:=by
  intro X C F B L i pins s σ H E I m f y;subst C F B;nofun;obtain⟨S,x,l,t⟩:=y;obtain⟨J,A,p,T⟩:=I.list l;obtain⟨u,V,U⟩:=A.get t;obtain⟨G,q,M,f3,r,D⟩:=m it (by simp);ac_rfl;refine wpAny_pyNext_list_item f p.isList (x:=u) (by simpa using V) λn j N=>?_;have R:Inv X pins σ H { s with heap:=n }:=I.turned (t':=s.toks) (λb o g e=>(N.2 b g).trans e) G q f3 r D;nofun;obtain⟨o,e,c,d⟩:=id j;ac_rfl;exact⟨u,rfl,z0f (s:={ s with heap:=n }) e c d #v[0,9] ⟨x,H,R,U,⟨rfl,λZ O=>by rw[I.list_inj O l];exact t⟩,j,λb g=>(m b g).1⟩⟩
 done:=by
  intro X C F B L i pins s σ H E I m f y;subst C F B;nofun;obtain⟨S,l,t⟩:=y;obtain⟨J,A,p,T⟩:=I.list l;obtain⟨G,q,M,f3,r,D⟩:=m it (by simp);ac_rfl;have Y:=A.length;exact wpAny_pyNext_list_end (I.ok.hd L) f p.isList (by simp;symm) λn W=>⟨rfl,I.turned (t':=s.toks) (λb o g e=>W b o g e) G q f3 r D⟩
 self:=λ_ _ _ _ _ f h=>wpAny_pyIter_listiter f h
theorem zsv {P:Program}{w:World}{K:Zg}{Q:Zi}(a it:Zh):Turn P w K Q (Itt K a) [it] it (λi h=>h.IsTupleIter it a i) where
 mem:=by simp
 obj:=λi h f b g=>by
  have e:b=it:=by simpa using g
  subst e;nofun;obtain⟨o,e,c,d⟩:=f;ac_rfl;exact⟨o,e,λv z=>by rw[d] at z;cases z⟩
 keep:=λi h q f k=>f.at λo e=>k it (by simp) o e
 item:=by
  intro X D G C L i pins s σ H E I n f A;subst D G C;nofun;obtain⟨S,x,m,y⟩:=A;obtain⟨j,B,p,T⟩:=I.tuple m;obtain⟨u,V,U⟩:=B.get y;obtain⟨J,r,M,f3,t,F⟩:=n it (by simp);ac_rfl;refine wpAny_pyNext_tuple_item f (show s.heap.IsTuple a j.toArray from p) (x:=u) (by simpa using V) λq l N=>?_;have R:Inv X pins σ H { s with heap:=q }:=I.turned (t':=s.toks) (λb o g e=>(N.2 b g).trans e) J r f3 t F;nofun;obtain⟨o,e,c,d⟩:=id l;ac_rfl;exact⟨u,rfl,z0f (s:={ s with heap:=q }) e c d #v[0,9] ⟨x,H,R,U,⟨rfl,λZ O=>by rw[I.tuple_inj O m];exact y⟩,l,λb g=>(n b g).1⟩⟩
 done:=by
  intro X D G C L i pins s σ H E I n f A;subst D G C;nofun;obtain⟨S,m,y⟩:=A;obtain⟨j,B,p,T⟩:=I.tuple m;obtain⟨J,r,M,f3,t,F⟩:=n it (by simp);ac_rfl;have Y:=B.length;exact wpAny_pyNext_tuple_end (I.ok.hd L) f (show s.heap.IsTuple a j.toArray from p) (by simp;symm) λq W=>⟨rfl,I.turned (t':=s.toks) (λb o g e=>W b o g e) J r f3 t F⟩
 self:=λ_ _ _ _ _ f h=>wpAny_pyIter_tupleiter f h
theorem zr2 {P:Program}{w:World}{K:Zg}{D:Zi}(it:Zh)(lo:Int)(n:Nat):Turn P w K D (Itr lo n) [it] it (λi h=>IsRangeIter h it (lo+(i:Nat)*1) ((n:Int)-(i:Nat)) 1) where
 mem:=by simp
 obj:=λi h a b c=>by
  have e:b=it:=by simpa using c
  subst e;exact⟨_,a,λv z=>by
   have B:Data.fields _=Data.cell v:=z;cases B⟩
 keep:=λi h g a k=>k it (by simp) _ a
 item:=by
  intro X r x q l i pins s σ H E I f a p;subst r x q;nofun;obtain⟨y,j,C,f3,m,u⟩:=f it (by simp);ac_rfl;have W:=Walks.range (prog:=X.prog) (w:=X.w) (I.ok.hd l) it lo 1 n;refine W.item i s _ _ p a λv g A J d G=>?_;obtain⟨t,rfl⟩:=J;have F:Inv X pins σ H { s with heap:=g,toks:=A }:=I.turned (λb o c e=>G b o (by simpa using c) e) y j f3 m u;refine⟨_,rfl,z0f (s:={ s with heap:=g,toks:=A }) (n := "range_iterator") d rfl rfl #v[0,9] ⟨.int (lo+i),H,F,⟨t,?_⟩,⟨rfl,rfl⟩,d,λb c=>(f b c).1⟩⟩;rw[Int.mul_one]
 done:=by
  intro X r x q l i pins s σ H E I f a p;subst r x q;nofun;obtain⟨y,j,C,f3,m,u⟩:=f it (by simp);ac_rfl;exact wpAny_pyNext_range_end (I.ok.hd l) a (by have:n<=i:=p;symm) λg L=>⟨rfl,I.turned (t':=s.toks) (λb o c e=>L b o c e) y j f3 m u⟩
 self:=λ_ _ _ _ _ a h=>wpAny_pyIter_rangeiter a h
section
variable {X:Cx}{tg:Zi}
theorem zpx {pins:List (Zh×Obj)}{σ:St}{H:Hp}{s:Zf}{R:It->Hp->Prop}{E:Ze->Zf->Prop}{lo h:Int}{t u v:Tok}{tk:Nat} (I:Inv X pins σ H s) (j:-(2^62)<=lo) (g:lo<2^62) (i:-(2^62)<=h) (h4:h<2^62)
  (q:R (Itr lo (h-lo).toNat) H):wpAny #v[2,7] X.A (pyIter (.ref s.heap.objs.size)) (PIE X pins σ tg R) E { s with heap:=s.heap.push { cls:=.type "range",data:=.fields #[.int lo t,.int h u,.int 1 v] },toks:=tk }:=by
 refine wpAny_pyIter_range (IsRange.new ..) (small_one j g i h4) ?_;have a:Inv X pins σ H { s with heap:=s.heap.push { cls:=.type "range",data:=.fields #[.int lo t,.int h u,.int 1 v] },toks:=tk }:=I.kept λb o e=>Ac _ e;refine⟨(s.heap.push { cls:=.type "range",data:=.fields #[.int lo t,.int h u,.int 1 v] }).objs.size,[(s.heap.push { cls:=.type "range",data:=.fields #[.int lo t,.int h u,.int 1 v] }).objs.size],_,_,H,rfl,
  a.kept (t':=tk) λb o e=>Ac _ e,zr2 _ lo (h-lo).toNat,?_,λb f=>?_,q⟩
 ·have d:lo+((0:Nat):Int)*1=lo:=by simp
  have c:(((h-lo).toNat:Nat):Int)-((0:Nat):Int)=Builtin.Range.rangeSize lo h 1:=by rw[rangeSize_one];split<;>symm
  show IsRangeIter _ _ (lo+((0:Nat):Int)*1) ((((h-lo).toNat:Nat):Int)-((0:Nat):Int)) 1;rw[d,c];exact Aq _ rfl
 ·have e:b=(s.heap.push { cls:=.type "range", data:=.fields #[.int lo t,.int h u,.int 1 v] }).objs.size:=by simpa using f
  subst e;exact a.fpOk (Af _) (a.hok.fresh (Af _))
abbrev z74 (t:TA):TI:=λσ H R=>t σ H λv a=>∃j:Int,v=[.int j]/\-(2^62)<=j/\j<2^62/\R (Itr 0 j.toNat) a
abbrev z8u (t:TA):TI:=λσ H R=>t σ H λb a=>∃i j:Int,b=#v[6,15]/\(-(2^62)<=i/\i<2^62/\-(2^62)<=j/\j<2^62)/\R (Itr i (j-i).toNat) a
theorem zul {a:Zi}{c:TA}{p pos:Pos} (k:Gl X "range") (l:X.mg "range" = Zb) (m:PA X [a] c) (f:starEach [a] X.env=[(Zc,eval a X.env)]:=by rfl):PI X tg (.Call (.Name "range" p) [a] [] pos) (z74 c):=by
 intro pins s σ H R I h;refine Call_ (zdb I k l boot_range (Cu (thn (m pos pins s σ H _ I h) λw x ⟨u,o,g,i,b⟩=>?_) f rfl));nofun;obtain⟨j,e,b,n,q⟩:=b;ac_rfl;subst e;cases i with
 | cons r d =>
  cases d;obtain⟨t,rfl⟩:=r;exact call_range_1 (zpx g #v[] #v[] b n (by simpa using q))
theorem zug {a b:Zi}{g:TA}{p pos:Pos} (v:Gl X "range") (w:X.mg "range" = Zb) (m:PA X [a,b] g) (n:starEach [a,b] X.env=[(Zc,eval a X.env),(Zc,eval b X.env)]:=by rfl) (c:starEach [b] X.env=[(Zc,eval b X.env)]:=by rfl) :
  PI X tg (.Call (.Name "range" p) [a,b] [] pos) (z8u g):=by
 intro pins s σ H R I h;refine Call_ (zdb I v w boot_range (Cu (thn (m pos pins s σ H _ I h) λD A ⟨C,z,u,x,f⟩=>?_) (by rw[n,c]) (by rw[c];rfl)));nofun;obtain⟨i,j,e,⟨f,y,k,o⟩,q⟩:=f;ac_rfl;subst e;cases x with
 | cons r d =>
  cases d with
  | cons l d =>
   cases d;obtain⟨t,rfl⟩:=r;obtain⟨B,rfl⟩:=l;exact call_range_2 (zpx u f y k o q)
abbrev tFor (w:TI) (g:TG) (t:TS):TS:=λD σ H=>w σ H λJ e=>∃W:Nat->Nat->St->Hp->Prop,(∃m,W 0 m σ e)/\∀i m σ H,W i m σ H ->
 (J.stop i H/\D.nx σ H)\/(J.go i H/\∃N:St->Hp->Prop,(∀a b,N a b->∃d,d<m/\W (i+1) d a b)/\∀x b,J.yld i H x b->g x σ b λc f=>t { D with nx:=N,ct:=N,bk:=D.nx } c f)
abbrev zk0 (fp:List Zh) (h:Heap):List (Zh×Obj):=fp.filterMap λb=>(h.get? b).map λo=>(b,o)
theorem zdz {fp:List Zh}{h:Heap}{b:Zh}{o:Obj}(a:b∈fp)(e:h.get? b=Za o):(b,o)∈zk0 fp h:=Ds.mpr ⟨b,a,by rw[e];rfl⟩
theorem zuq {fp:List Zh}{h:Heap}{p:Zh×Obj} (d:p∈zk0 fp h):p.1∈fp/\h.get? p.1=Za p.2:=by
 obtain⟨b,a,e⟩:=Ds.mp d;cases q:h.get? b with
 |none=>rw[q] at e;cases e
 | some o =>
  rw[q] at e;have c:(b,o)=p:=sI e;subst c;exact⟨a,q⟩
theorem Inv.pinned {pins:List (Zh×Obj)}{σ:St}{H:Hp}{s:Zf}{fp:List Zh}(I:Inv X pins σ H s)(f:∀b∈fp,FpOk X pins H b)(k:∀b∈fp,∃o,s.heap.get? b=Za o/\∀v,o.data≠.cell v):Inv X (pins++zk0 fp s.heap) σ H s :=
 I.pins_of λp c=>(Bz.mp c).elim (λz=>I.pin p (Ay _ z)) λz=>by
  nofun;obtain⟨h,e⟩:=zuq z;obtain⟨g,i,j,_⟩:=f p.1 h;obtain⟨o,a,d⟩:=k p.1 h;ac_rfl;rw[e] at a;ext a;exact⟨e,g,i,j,d⟩
theorem Inv.unpinned {pins a:List (Zh×Obj)}{σ:St}{H:Hp}{s:Zf}(I:Inv X (pins++a) σ H s):Inv X pins σ H s:=I.pins_of λp h=>I.pin p (Ay _ (List.mem_append_left _ h))
theorem z8f {iter:Zi}{body:List Stmt}{wi:TI}{g:TG}{V:TS}{pos:Pos} (A:PassesOwn #v[2,7] X.A X.env X.xe) (U:X.calm=Zd) (hi:PI X tg iter wi) (hg:PG X tg g) (c:PSs X body V)
  (hs:∀x,foldedSetIterable iter X.env x=pure x:=by intro _;rfl):PS X (.For tg iter body [] pos) (tFor wi g V):=by
 intro pins s σ H D I h;refine wpAny_For (thn (hi pins s σ H _ I h) λv s1 h1=>thn h1 λitv s2 h2=>?_) hs;nofun;obtain⟨it,fp,Q,J,H2,e,I2,T,G,R,W,⟨m0,w0⟩,turn⟩:=h2;ac_rfl;subst e;have l:∀{t:Hp},(∀b∈fp,t b=Zb)->∀b∈fp,FpOk X pins t b:=λhn b c=>⟨hn b c,(R b c).2⟩;refine codeAny_forLoop_any (λn s'=>∃i q t,Inv X pins q t s'/\Q i s'.heap/\(∀b∈fp,t b=Zb)/\W i n q t) ?_ m0 ⟨0,σ,H2,I2,G,λb c=>(R b c).1,w0⟩;rintro n Y ⟨i,k,E,Z,B,C,w3⟩;rcases turn i n k E w3 with⟨stop,qn⟩|⟨go,N,hN,step⟩
 ·refine Gx A (thn (T.done X rfl rfl rfl U i pins Y k E X.xe Z (l C) B stop) λr s4 ⟨L,I4⟩ => ?_);subst L;exact Gy ⟨k,E,I4,qn⟩
 ·refine Gx A (thn (T.item X rfl rfl rfl U i pins Y k E X.xe Z (l C) B go) λr s4 ⟨u,L,h4⟩ => ?_);subst L;refine Gx A (thn h4 λ_ P ⟨x,S,I5,r5,y5,y,M⟩=>?_);have O:=I5.pinned (l M) (T.obj _ _ y);refine Gx A (thn (hg _ P k S x u _ O r5 (step x S y5)) λ_ s6 ⟨F,H6,I6,q6⟩=>?_);refine Gx A (thn (c _ s6 F H6 _ I6 q6) λf K w=>?_);have again:∀{a:St}{j:Hp},Inv X (pins++zk0 fp P.heap) a j K->N a j->∃m,m<n/\∃i q t,Inv X pins q t K/\Q i K.heap/\(∀b∈fp,t b=Zb)/\W i m q t:=λ{a j} p z=>by
   obtain⟨m',hm,w7⟩:=hN a j z;refine⟨m',hm,i+1,a,j,p.unpinned,T.keep _ _ _ y λb c o e=>(p.pin (b,o) (Ay _ (Ay _ (zdz c e)))).1,λb c=>?_,w7⟩;obtain⟨o,e,d⟩:=T.obj _ _ y b c;exact (p.pin (b,o) (Ay _ (Ay _ (zdz c e)))).2.1
  cases f with
  |next=>obtain⟨a,j,p,z⟩:=w;exact again p z
  |cont=>obtain⟨a,j,p,z⟩:=w;exact again p z
  |brk=>obtain⟨a,j,p,w⟩:=w;exact⟨a,j,p.unpinned,w⟩
  |ret v=>obtain⟨x7,a,j,p,r7,w⟩:=w;exact⟨x7,a,j,p.unpinned,r7,w⟩
end
noncomputable abbrev R2:=V->V->Hp->VK->Prop
abbrev OpR (X:Cx) (f:Ze->Ze->Sem Ze) (r:R2):Prop :=
 ∀(pins:List (Zh×Obj)) (s:Zf) (σ:St) (H:Hp) (x y:V) (v u:Ze) (Q:VK),Inv X pins σ H s->RelV x v->RelV y u->r x y H Q ->
  wpAny #v[2,7] X.A (f v u) (EP X pins σ Q) X.xe s
abbrev UnR (X:Cx) (f:Ze->Sem Ze) (r:V->Hp->VK->Prop):Prop :=
 ∀(pins:List (Zh×Obj)) (s:Zf) (σ:St) (H:Hp) (x:V) (v:Ze) (Q:VK),Inv X pins σ H s->RelV x v->r x H Q ->
  wpAny #v[2,7] X.A (f v) (EP X pins σ Q) X.xe s
abbrev zeb (X:Cx) (f:Ze) (r:List V->Hp->VK->Prop):Prop :=
 ∀(pins:List (Zh×Obj)) (s:Zf) (σ:St) (H:Hp) (x:List V) (u:List Ze) (Q:VK),Inv X pins σ H s->Vals x u->r x H Q ->
  wpAny #v[2,7] X.A (call f u) (EP X pins σ Q) X.xe s
abbrev tOp (r:R2) (c t:TE):TE:=λσ H Q=>c σ H λx a=>t σ a λy b=>r x y b Q
abbrev tUn (r:V->Hp->VK->Prop) (t:TE):TE:=λσ H Q=>t σ H λx a=>r x a Q
abbrev rI (C:Int->Int->Prop) (g:Int->Int->V):R2:=λx y H Q=>∃i j,x=.int i/\y=.int j/\C i j/\Q (g i j) H
abbrev rI0 (g:Int->Int->V):R2:=λx y H Q=>∃i j,x=.int i/\y=.int j/\Q (g i j) H
abbrev rU (g:Int->V):V->Hp->VK->Prop:=λx H Q=>∃i,x=.int i/\Q (g i) H
section
variable {X:Cx}{a b c:Zi}{ta tb tc:TE}{pos:Pos}
theorem binT (p:PE X a ta) (k:PE X b tb) {pins:List (Zh×Obj)}{s:Zf}{σ:St}{H:Hp}{R:V->V->Hp->Prop} (I:Inv X pins σ H s)
  (h:ta σ H λx i=>tb σ i λy c=>R x y c) {Q:Ze->Zf->Prop}{f:Ze->Ze->Sem Ze}
  (m:∀v u g x y c,Inv X pins σ c g->RelV x v->RelV y u->R x y c->wpAny #v[2,7] X.A (f v u) Q X.xe g) :
  wpAny #v[2,7] X.A (eval a X.env) (λv e=>wpAny #v[2,7] X.A (eval b X.env) (λu d=>wpAny #v[2,7] X.A (f v u) Q X.xe d) X.xe e) X.xe s:=by
 refine thn (p pins s σ H _ I h) λv n ⟨x,i,l,o,q⟩=>?_;refine thn (k pins n σ i _ l q) λu g ⟨y,c,j,r,t⟩=>?_;exact m v u g x y c j o r t
theorem z9v {op:Operator}{r:R2}(j:OpR X (binaryOp op) r)(g:PE X a ta)(e:PE X b tb):PE X (.BinOp a op b pos) (tOp r ta tb):=by
 intro pins s σ H Q I h;exact wpAny_BinOp (binT g e I h λv u f x y i c d k q=>j pins f σ i x y v u Q c d k q)
theorem ych {op:UnaryOp}{r:V->Hp->VK->Prop}(g:UnR X (unaryOp op) r)(f:PE X a ta):PE X (.UnaryOp op a pos) (tUn r ta):=by
 intro pins s σ H Q I h;exact UnaryOp_ (thn (f pins s σ H _ I h) λv d ⟨x,b,c,e,q⟩=>g pins d σ b x v Q c e q)
theorem opI {f:Ze->Ze->Sem Ze}{C:Int->Int->Prop}{g:Int->Int->Int}
  (rule:∀(i j:Int) (t u:Tok) (s:Zf) (Q:Ze->Zf->Prop) (E:Ze->Zf->Prop),C i j->Q (.int (g i j) s.toks) { s with toks:=s.toks+1 }->wpAny #v[2,7] X.A (f (.int i t) (.int j u)) Q E s) :
  OpR X f (rI C λi j=>.int (g i j)):=by
 intro pins s σ H x y v u Q I c r h;obtain⟨i,j,rfl,rfl,b,q⟩:=h;obtain⟨t,rfl⟩:=c;obtain⟨a,rfl⟩:=r;exact rule i j t a s _ _ b ⟨.int (g i j),H,I.tok _,⟨_,rfl⟩,q⟩
theorem opI0 {f:Ze->Ze->Sem Ze}{g:Int->Int->Int}
  (rule:∀(i j:Int) (t u:Tok) (s:Zf) (Q:Ze->Zf->Prop) (E:Ze->Zf->Prop),Q (.int (g i j) s.toks) { s with toks:=s.toks+1 }->wpAny #v[2,7] X.A (f (.int i t) (.int j u)) Q E s) :
  OpR X f (rI0 λi j=>.int (g i j)):=by
 intro pins s σ H x y v u Q I b r h;obtain⟨i,j,rfl,rfl,q⟩:=h;obtain⟨t,rfl⟩:=b;obtain⟨a,rfl⟩:=r;exact rule i j t a s _ _ ⟨.int (g i j),H,I.tok _,⟨_,rfl⟩,q⟩
theorem opB0 {f:Ze->Ze->Sem Ze}{g:Int->Int->Bool}
  (rule:∀(i j:Int) (t u:Tok) (s:Zf) (Q:Ze->Zf->Prop) (E:Ze->Zf->Prop),Q (.bool (g i j)) s->wpAny #v[2,7] X.A (f (.int i t) (.int j u)) Q E s) :
  OpR X f (rI0 λi j=>.bl (g i j)):=by
 intro pins s σ H x y v u Q I b r h;obtain⟨i,j,rfl,rfl,q⟩:=h;obtain⟨t,rfl⟩:=b;obtain⟨a,rfl⟩:=r;exact rule i j t a s _ _ ⟨.bl (g i j),H,I,rfl,q⟩
abbrev CPow (i j:Int):Prop:=0<=j/\j<=1000000/\i.natAbs<2^64
abbrev CMul (i j:Int):Prop:=(-(2^64)<i/\i<2^64)\/(-(2^64)<j/\j<2^64)
theorem CMul.ok {i j:Int}(h:CMul i j):IntMulOk i j:=by
 rcases h with⟨b,a⟩|⟨b,a⟩
 ·exact .of_left (intBits_le_64 b a)
 ·exact .of_right (intBits_le_64 b a)
theorem zsp (k:Nat):(0:Int)<=2^k:=by
 rw[two_pow_cast];exact Gs _
theorem z99:OpR X (binaryOp .Add) (rI0 λi j=>.int (i+j)):=opI0 λ_ _ _ _ _ _ _ q=>add_int q
theorem yac:OpR X (binaryOp .Sub) (rI0 λi j=>.int (i-j)):=opI0 λ_ _ _ _ _ _ _ q=>sub_int q
theorem ya5:OpR X (binaryOp .Mult) (rI CMul λi j=>.int (i*j)):=opI λ_ _ _ _ _ _ _ h q=>mul_int q h.ok
theorem yb1:OpR X (binaryOp .Mod) (rI (λ_ j=>0<j) λi j=>.int (i%j)):=opI λi j _ _ _ _ _ h q=>by
 have a:(0:Int)<j:=h;exact mod_int' #v[] (by rw[Int.fmod_eq_emod_of_nonneg i #v[]];exact q)
theorem yah:OpR X (binaryOp .Pow) (rI CPow λi j=>.int (i^j.toNat)):=opI λ_ _ _ _ _ _ _ h q=>pow_int_small h.1 h.2.1 h.2.2 q
theorem z96:OpR X (binaryOp .LShift) (rI CPow λi j=>.int (i*2^j.toNat)):=opI λ_ _ _ _ _ _ _ h q=>lshift_int_small h.1 h.2.1 h.2.2 q
theorem yao:OpR X (binaryOp .RShift) (rI (λ_ j=>0<=j) λi j=>.int (i/2^j.toNat)):=opI λi j _ _ _ _ _ h q =>
 rshift_int h (by rw[Int.fdiv_eq_ediv_of_nonneg i (zsp _)];exact q)
theorem ybk:OpR X (binaryOp .BitAnd) (rI0 λi j=>.int (Builtin.bitAnd i j)):=opI0 λ_ _ _ _ _ _ _ q=>and_int q
theorem yck:OpR X (binaryOp .BitOr) (rI0 λi j=>.int (Builtin.bitOr i j)):=opI0 λ_ _ _ _ _ _ _ q=>or_int q
theorem ycb:OpR X (binaryOp .BitXor) (rI0 λi j=>.int (Builtin.bitXor i j)):=opI0 λ_ _ _ _ _ _ _ q=>xor_int q
theorem zyd:OpR X (inplaceOp .Add) (rI0 λi j=>.int (i+j)):=opI0 λ_ _ _ _ _ _ _ q=>iadd_int q
theorem z4t:OpR X (inplaceOp .Sub) (rI0 λi j=>.int (i-j)):=opI0 λ_ _ _ _ _ _ _ q=>isub_int q
theorem z7e:OpR X (inplaceOp .Mult) (rI CMul λi j=>.int (i*j)):=opI λ_ _ _ _ _ _ _ h q=>imul_int q h.ok
theorem z4l:OpR X (inplaceOp .BitAnd) (rI0 λi j=>.int (Builtin.bitAnd i j)):=opI0 λ_ _ _ _ _ _ _ q=>iand_int q
theorem z8j:OpR X (inplaceOp .BitOr) (rI0 λi j=>.int (Builtin.bitOr i j)):=opI0 λ_ _ _ _ _ _ _ q=>ior_int q
theorem z4u:OpR X (inplaceOp .BitXor) (rI0 λi j=>.int (Builtin.bitXor i j)):=opI0 λ_ _ _ _ _ _ _ q=>ixor_int q
theorem unI {f:Ze->Sem Ze}{g:Int->Int}
  (rule:∀(i:Int) (t:Tok) (s:Zf) (Q:Ze->Zf->Prop) (E:Ze->Zf->Prop),Q (.int (g i) s.toks) { s with toks:=s.toks+1 }->wpAny #v[2,7] X.A (f (.int i t)) Q E s) :
  UnR X f (rU λi=>.int (g i)):=by
 intro pins s σ H x v Q I r h;obtain⟨i,rfl,q⟩:=h;obtain⟨t,rfl⟩:=r;exact rule i t s _ _ ⟨.int (g i),H,I.tok _,⟨_,rfl⟩,q⟩
theorem yav:UnR X (unaryOp .USub) (rU λi=>.int (-i)):=unI λ_ _ _ _ _ q=>neg_int q
end
abbrev scal:V->V->Bool
 |.non,.non=>Zd|.non,.int _=>Zd|.int _,.non=>Zd|.non,.bl _=>Zd|.bl _,.non=>Zd|.non,.str _=>Zd|.str _,.non=>Zd
 |.int _,.int _=>Zd|.bl _,.bl _=>Zd|.str _,.str _=>Zd|.byt _,.byt _=>Zd
 |.int _,.str _=>Zd|.str _,.int _=>Zd|.bl _,.str _=>Zd|.str _,.bl _=>Zd
 |_,_=>Zc
abbrev rEq:R2:=λx y H Q=>scal x y=Zd/\Q (.bl (decide (x=y))) H
abbrev rNe:R2:=λx y H Q=>scal x y=Zd/\Q (.bl (!decide (x=y))) H
theorem zu1 {i j:Int}:decide (V.int i=V.int j)=(i==j):=by
 rw[Er];simp
theorem z24 {i j:Bool}:decide (V.bl i=V.bl j)=(i==j):=by
 rw[Er];simp
theorem zu0 {i j:Str}:decide (V.str i=V.str j)=(i==j):=by
 rw[Er];simp
theorem zxn {i j:Array UInt8}:decide (V.byt i=V.byt j)=(i.toList==j.toList):=by
 rw[Er];cases i;cases j;simp
section
variable {X:Cx}{a b c:Zi}{ta tb tc:TE}{pos:Pos}
theorem zai {pins:List (Zh×Obj)}{σ:St}{H:Hp}{s:Zf}{Q:VK}{k a:Bool}(I:Inv X pins σ H s)(q:Q (.bl k) H)(e:k=a):EP X pins σ Q (.bool a) s:=by
 subst e;exact⟨.bl k,H,I,rfl,q⟩
theorem ycm:OpR X (compareOp .Eq) rEq:=by
 intro pins s σ H x y v u Q I c r h;obtain⟨b,q⟩:=h;cases x with
 | non =>
  cases c;cases y with
  |non=>cases r;exact PySem.EqNone.eq_none_none (zai I q (by simp))
  |bl j=>cases r;exact PySem.EqNone.eq_none_bool (zai I q (by simp))
  |int j=>obtain⟨a,rfl⟩:=r;exact PySem.EqNone.eq_none_int (zai I q (by simp))
  |str j=>obtain⟨a,rfl⟩:=r;exact PySem.EqNone.eq_none_str (zai I q (by simp))
  |_=>exact absurd (show Zc=Zd from b) As
 | bl i =>
  cases c;cases y with
  |non=>cases r;exact PySem.EqNone.eq_bool_none (zai I q (by simp))
  |bl j=>cases r;exact eq_bool (zai I q z24)
  |str j=>obtain⟨a,rfl⟩:=r;exact PySem.EqMixed.eq_bool_str (zai I q (by simp))
  |_=>exact absurd (show Zc=Zd from b) As
 | int i =>
  obtain⟨t,rfl⟩:=c;cases y with
  |non=>cases r;exact PySem.EqNone.eq_int_none (zai I q (by simp))
  |int j=>obtain⟨a,rfl⟩:=r;exact eq_int (zai I q zu1)
  |str j=>obtain⟨a,rfl⟩:=r;exact PySem.EqMixed.eq_int_str (zai I q (by simp))
  |_=>exact absurd (show Zc=Zd from b) As
 | str i =>
  obtain⟨t,rfl⟩:=c;cases y with
  |non=>cases r;exact PySem.EqNone.eq_str_none (zai I q (by simp))
  |bl j=>cases r;exact PySem.EqMixed.eq_str_bool (zai I q (by simp))
  |int j=>obtain⟨a,rfl⟩:=r;exact PySem.EqMixed.eq_str_int (zai I q (by simp))
  |str j=>obtain⟨a,rfl⟩:=r;exact eq_str (zai I q zu0)
  |_=>exact absurd (show Zc=Zd from b) As
 | byt i =>
  obtain⟨t,rfl⟩:=c;cases y with
  |byt j=>obtain⟨a,rfl⟩:=r;exact PySem.W.eq_bytes (zai I q zxn)
  |_=>exact absurd (show Zc=Zd from b) As
 |_=>cases y<;>exact absurd (show Zc=Zd from b) As
theorem ydt:OpR X (compareOp .NotEq) rNe:=by
 intro pins s σ H x y v u Q I c r h;obtain⟨b,q⟩:=h;cases x with
 | non =>
  cases c;cases y with
  |non=>cases r;exact PySem.EqNone.ne_none_none (zai I q (by simp))
  |bl j=>cases r;exact PySem.EqNone.ne_none_bool (zai I q (by simp))
  |int j=>obtain⟨a,rfl⟩:=r;exact PySem.EqNone.ne_none_int (zai I q (by simp))
  |str j=>obtain⟨a,rfl⟩:=r;exact PySem.EqNone.ne_none_str (zai I q (by simp))
  |_=>exact absurd (show Zc=Zd from b) As
 | bl i =>
  cases c;cases y with
  |non=>cases r;exact PySem.EqNone.ne_bool_none (zai I q (by simp))
  |bl j=>cases r;exact ne_bool (zai I q (congrArg not z24))
  |str j=>obtain⟨a,rfl⟩:=r;exact PySem.EqMixed.ne_bool_str (zai I q (by simp))
  |_=>exact absurd (show Zc=Zd from b) As
 | int i =>
  obtain⟨t,rfl⟩:=c;cases y with
  |non=>cases r;exact PySem.EqNone.ne_int_none (zai I q (by simp))
  |int j=>obtain⟨a,rfl⟩:=r;exact ne_int (zai I q (congrArg not zu1))
  |str j=>obtain⟨a,rfl⟩:=r;exact PySem.EqMixed.ne_int_str (zai I q (by simp))
  |_=>exact absurd (show Zc=Zd from b) As
 | str i =>
  obtain⟨t,rfl⟩:=c;cases y with
  |non=>cases r;exact PySem.EqNone.ne_str_none (zai I q (by simp))
  |bl j=>cases r;exact PySem.EqMixed.ne_str_bool (zai I q (by simp))
  |int j=>obtain⟨a,rfl⟩:=r;exact PySem.EqMixed.ne_str_int (zai I q (by simp))
  |str j=>obtain⟨a,rfl⟩:=r;exact ne_str (zai I q (congrArg not zu0))
  |_=>exact absurd (show Zc=Zd from b) As
 | byt i =>
  obtain⟨t,rfl⟩:=c;cases y with
  |byt j=>obtain⟨a,rfl⟩:=r;exact PySem.W.ne_bytes (zai I q (congrArg not zxn))
  |_=>exact absurd (show Zc=Zd from b) As
 |_=>cases y<;>exact absurd (show Zc=Zd from b) As
theorem ycv:OpR X (compareOp .Lt) (rI0 λi j=>.bl (decide (i<j))):=opB0 λ_ _ _ _ _ _ _ q=>lt_int q
theorem ydb:OpR X (compareOp .LtE) (rI0 λi j=>.bl (decide (i<=j))):=opB0 λ_ _ _ _ _ _ _ q=>le_int q
theorem yco:OpR X (compareOp .Gt) (rI0 λi j=>.bl (decide (j<i))):=opB0 λ_ _ _ _ _ _ _ q=>gt_int q
theorem ycj:OpR X (compareOp .GtE) (rI0 λi j=>.bl (decide (j<=i))):=opB0 λ_ _ _ _ _ _ _ q=>ge_int q
theorem ycf:OpR X (compareOp .Is) (λx y H Q=>y=.non/\Q #v[6,19] H):=by
 intro pins s σ H x y v u Q I r a h;obtain⟨rfl,q⟩:=h;cases a;refine is_none_gen (zai I q ?_);cases x<;>first
  |(cases r;rfl)
  |(obtain⟨t,rfl⟩:=r;rfl)
theorem OpR.or {f:Ze->Ze->Sem Ze}{r b:R2}(h:OpR X f r)(h':OpR X f b):OpR X f (λx y H Q=>r x y H Q\/b x y H Q):=by
 intro pins s σ H x y v u Q I a c q;rcases q with q|q
 ·exact h pins s σ H x y v u Q I a c q
 ·exact h' pins s σ H x y v u Q I a c q
theorem zvd {op:CmpOp}{r:R2}(k:OpR X (compareOp op) r)(g:PE X a ta)(e:PE X b tb)(j:behindInMarks op b=Zc):PE X (.Compare a [op] [b] pos) (tOp r ta tb):=by
 intro pins s σ H Q I h;exact wpAny_Compare1 (binT g e I h λv u f x y i c d l q=>k pins f σ i x y v u Q c d l q) j
abbrev z90 (t:TE):TT:=λσ H Q=>t σ H λx a=>∃k,x=.bl k/\Q k a
theorem zvk {op:CmpOp}{r:R2}(E:OpR X (compareOp op) r)(i:PE X a ta)(f:PE X b tb)(t:behindInMarks op b=Zc):PT X (.Compare a [op] [b] pos) (z90 (tOp r ta tb)):=by
 intro pins s σ H Q I h;refine wpAny_isTrue_Compare1 (thn (i pins s σ H _ I h) λv g ⟨x,d,n,A,p⟩=>thn (f pins g σ d _ n p) λu C ⟨y,w,m,j,D⟩ =>
  thn (E pins C σ w x y v u _ m A j D) λc F ⟨z,l,o,B,k,e,q⟩=>?_) t
 subst e;cases B;exact Fe ⟨l,o,q⟩
theorem zpn:(sizeLine:Nat)<2^63:=by rw[sizeLine_eq];decide
theorem vals1 {x:V}{us:List Ze}(r:Vals [x] us):∃u,us=[u]/\RelV x u:=by
 cases r with
 |cons a b=>cases b;exact⟨_,rfl,a⟩
theorem z75 {x y:V}{us:List Ze} (r:Vals [x,y] us):∃u w,us=[u,w]/\RelV x u/\RelV y w:=by
 cases r with
 | cons c b =>
  cases b with
  |cons d a=>cases a;exact⟨_,_,rfl,c,d⟩
theorem zzv:zeb X (.builtin "abs") (λx H Q=>∃i,x=[.int i]/\Q (.int (if i<0 then -i else i)) H):=by
 intro pins s σ H x b Q I r h;obtain⟨i,rfl,q⟩:=h;obtain⟨u,rfl,t,rfl⟩:=vals1 r;exact call_abs_int λu a=>⟨.int (if i<0 then -i else i),H,I.tok _,⟨_,rfl⟩,q⟩
theorem zu9 (b:X.calm=Zd):zeb X (.builtin "max") (λx H Q=>∃i j,x=#v[6,15]/\Q (.int (if j > i then j else i)) H):=by
 intro pins s σ H x e Q I r h;nofun;obtain⟨i,j,rfl,q⟩:=h;obtain⟨u,w,rfl,⟨t,rfl⟩,⟨c,rfl⟩⟩:=z75 r;ac_rfl;refine max_two_ints (I.ok.hd b) λf d k=>⟨_,H,I.kept k,?_,q⟩;by_cases a:j > i
 ·rw[if_pos a,if_pos a];exact⟨_,rfl⟩
 ·rw[if_neg a,if_neg a];exact⟨_,rfl⟩
theorem ztu (b:X.calm=Zd):zeb X (.builtin "min") (λx H Q=>∃i j,x=#v[6,15]/\Q (.int (if j<i then j else i)) H):=by
 intro pins s σ H x e Q I r h;obtain⟨i,j,rfl,q⟩:=h;obtain⟨u,w,rfl,⟨t,rfl⟩,⟨c,rfl⟩⟩:=z75 r;refine min_two_ints (I.ok.hd b) λf d k=>⟨_,H,I.kept k,?_,q⟩;by_cases a:j<i
 ·rw[if_pos a,if_pos a];exact⟨_,rfl⟩
 ·rw[if_neg a,if_neg a];exact⟨_,rfl⟩
theorem zv4:zeb X (.type "int") (λx H Q=>(∃i,x=[.int i]/\Q (.int i) H)\/∃k,x=[.bl k]/\Q (.int (if k then 1 else 0)) H):=by
 intro pins s σ H x b Q I r h;rcases h with⟨i,rfl,q⟩|⟨k,rfl,q⟩
 ·obtain⟨u,rfl,t,rfl⟩:=vals1 r;exact call_int_int ⟨.int i,H,I,⟨_,rfl⟩,q⟩
 ·obtain⟨u,rfl,a⟩:=vals1 r;cases a;exact call_int_bool ⟨.int (if k then 1 else 0),H,I.tok _,⟨_,rfl⟩,q⟩
end
structure ObjM (h:Heap) (x dx C:Zh) (mA:Str->Option Ze):Prop where
 obj:h.get? x=Za (PySem.W.instObj C dx)
 ns:h.Ns1 dx mA
 ne:dx≠x
theorem zwo {h:Heap}{f:Zh}{mA:Str->Option Ze}(n:h.Ns1 f mA):∃d,h.get? f=Za d/\∀name,PySem.W.lookIn name d=Za (mA name):=by
 nofun;obtain⟨o,c,p,l,g,j,_,k⟩:=n;ac_rfl;refine⟨o,l,λname=>?_⟩;have e:=k name;unfold nsFind findBy at e;rw[<-Array.find?_toList] at e;unfold PySem.W.lookIn;rw[g];dsimp only;split
 ·rename_i y q;rw[q] at e;exact congrArg Za e
 ·rename_i q;rw [q] at e;have a:c.toList.any (·.refKey)=Zc:=by
   rw[List.any_eq_false];intro y i;obtain⟨z,t,b⟩:=j y (Array.mem_toList_iff.mp i);simp [DictEntry.refKey,b]
  have m : ¬ c.toList.any (·.refKey)=Zd:=by rw[a];exact As
  rw[if_neg m];exact congrArg Za e
theorem ObjM.look {h:Heap}{x d C:Zh}{mA:Str->Option Ze}(I:ObjM h x d C mA):∃o,PySem.W.InstAt h x (PySem.W.instObj C d) C (Za o)/\∀name,PySem.W.lookIn name o=Za (mA name) :=
 let ⟨o,b,a⟩:=zwo I.ns
 ⟨o,⟨I.obj,rfl,rfl,b⟩,a⟩
section
variable {prog:Program}{w:World}{A:Around}{E:Ze->Zf->Prop}{s:Zf}{K:Zg}{x dx C f:Zh}{mA:Str->Option Ze}{name:Str}{v:Ze}
end
section
variable {P:Program}{w:World}{H H' : Hp}{h h' : Heap}{a C dx:Zh}{fs fs' : List (Str × V)}
theorem z5k (b:HOk P w H h)(e:H a=Za (.ins C dx fs)):∃mA,ObjM h a dx C mA/\(∀f,RelO (fs.lookup f) (mA f))/\PySem.Within mA (fs.map (·.1))/\fs.length<=1000/\H dx=Za (.own a):=by
 nofun;obtain⟨d,z,ne,o,mA,n,r,q⟩:=(show zbr P w H h a (.ins C dx fs) from b a _ e);ac_rfl;exact⟨mA,⟨o,n,ne⟩,r,q,z,d⟩
end
structure Cls (K:Zg) (C:Zh):Prop where
 pg:PySem.W.plainGet K C Str.empty=Zd
 hd:PySem.W.hasDictIn K C=Zd
 po:PySem.W.plainOver K C=Zd
 sa:PySem.W.findIn K (.ref C) "__setattr__" = Za (Za (.builtin "object.__setattr__"))
theorem Cls.get {K:Zg}{C:Zh}(c:Cls K C)(f:Str):PySem.W.plainGet K C f=Zd:=c.pg
section
variable {X:Cx}{pins:List (Zh × Obj)}{σ:St}{H:Hp}{s:Zf}{a C dx:Zh}{fs:List (Str × V)}{f:Str}{v:V}{A:Around}{E:Ze->Zf->Prop}
end
section
variable {X:Cx}{o e value:Zi}{f:Str}{pos pos' tpos:Pos}{ta tv:TE}
end
section
variable {X:Cx}{pins:List (Zh × Obj)}{σ:St}{H:Hp}{s:Zf}{A:Around}{E:Ze->Zf->Prop}{Q:Ze->Zf->Prop}{c:Ze}{b:Bool}
inductive TyOf (K:Zg) (H:Hp):V->Ze->Prop where
 |non:TyOf K H .non (.type "NoneType")
 |bl (x:Bool):TyOf K H (.bl x) (.type "bool")
 |int (i:Int):TyOf K H (.int i) (.type "int")
 |str (x:Str):TyOf K H (.str x) (.type "str")
 |flt (x:UInt64):TyOf K H (.flt x) (.type "float")
 |lst {a:Zh}{xs:List V} (e:H a=Za (.lst xs)):TyOf K H (.ref a) (.type "list")
 |frz {a:Zh}{o:Obj}{xs:List V} (e:H a=Za (.frz o (.lst xs))):TyOf K H (.ref a) (.type "list")
 |tup {a:Zh}{xs:List V} (e:H a=Za (.tup xs)):TyOf K H (.ref a) (.type "tuple")
 |dK {a:Zh}{kvs:List (Key×V)} (e:H a=Za (.dK kvs)):TyOf K H (.ref a) (.type "dict")
 |dT {a:Zh}{kvs:List (List Key×V)} (e:H a=Za (.dT kvs)):TyOf K H (.ref a) (.type "dict")
 | ins {a C dx:Zh}{fs:List (Str×V)} (e:H a=Za (.ins C dx fs)) (cl:Cls K C) (ha:PySem.W.findIn K (.ref C) "__class__" = Za (Za (.builtin "object.__class__")))
  (hn:PySem.W.specialIn K (.builtin "object.__class__") "__get__" = Za (Za (.builtin "getset_descriptor.__get__"))) (htk:PySem.W.takesIn K (.builtin "object.__class__")=Za Zd)
  (hm:PySem.W.mroIn K C (.type "object")=Za Zd):TyOf K H (.ref a) (.ref C)
theorem zxp {x:V}{u t:Ze} (I:Inv X pins σ H s) (r:RelV x u) (K:TyOf X.K H x t) (e:PySem.W.kitOne X.K t c=Za b) (h:∀B,Q (.bool b) { s with toks:=B }) :
  wpAny #v[2,7] A (call (.builtin "isinstance") [u,c]) Q E s:=by
 cases K with
 |non=>cases (show u=Ze.none from r);exact Cj PySem.W.kitx_none I.kIn True.intro e (λz=>nomatch z) h
 |bl y=>cases (show u=Ze.bool y from r);exact Cj PySem.W.kitx_bool I.kIn True.intro e (λz=>nomatch z) h
 |int i=>obtain⟨t,q⟩:=(show ∃t,u=Ze.int i t from r);cases q;exact Cj PySem.W.kitx_int I.kIn True.intro e (λz=>nomatch z) h
 |str y=>obtain⟨t,q⟩:=(show ∃t,u=Ze.str y t from r);cases q;exact Cj PySem.W.kitx_str I.kIn True.intro e (λz=>nomatch z) h
 |flt y=>obtain⟨t,q⟩:=(show ∃t,u=Ze.float y t from r);cases q;exact Cj PySem.W.kitx_float I.kIn True.intro e (λz=>nomatch z) h
 | @lst a g d =>
  cases (show u=Ze.ref a from r);obtain⟨_,_,n,_,f⟩:=(show zbr X.prog X.w H s.heap a (.lst g) from I.hok a _ d);exact Cj PySem.W.kitx_list I.kIn ⟨_,f,rfl⟩ e (λz=>nomatch z) h
 | @frz a L g d =>
  cases (show u=Ze.ref a from r);obtain⟨_,_,_,n,_,f⟩:=(show zbr X.prog X.w H s.heap a (.frz L (.lst g)) from I.hok a _ d);exact Cj PySem.W.kitx_list I.kIn ⟨_,f,rfl⟩ e (λz=>nomatch z) h
 | @tup a g d =>
  cases (show u=Ze.ref a from r);obtain⟨_,_,_,p⟩:=(show zbr X.prog X.w H s.heap a (.tup g) from I.hok a _ d);obtain⟨o,f,j,_⟩:=p;exact Cj PySem.W.kitx_tuple I.kIn ⟨o,f,j.1⟩ e (λz=>nomatch z) h
 | @dK a kvs d =>
  cases (show u=Ze.ref a from r);obtain⟨_,_,M,_,p⟩:=(show zbr X.prog X.w H s.heap a (.dK kvs) from I.hok a _ d);obtain⟨o,m,D,f,j,_⟩:=p;exact Cj PySem.W.kitx_dict I.kIn ⟨o,f,j.1⟩ e (λz=>nomatch z) h
 | @dT a kvs d =>
  cases (show u=Ze.ref a from r);obtain⟨_,_,g,_,o,m,D,f,j,_⟩:=(show zbr X.prog X.w H s.heap a (.dT kvs) from I.hok a _ d);exact Cj PySem.W.kitx_dict I.kIn ⟨o,f,j.1⟩ e (λz=>nomatch z) h
 | @ins a C P fs d l w G k F =>
  cases (show u=Ze.ref a from r);obtain⟨mA,O,_⟩:=z5k I.hok d;obtain⟨N,J,_⟩:=O.look;exact Cj (PySem.W.kitx_own (l.get _) l.hd w G k F) I.kIn J e (λz=>nomatch z) h
end
structure Room (k:Nat) (A:Around):Prop where
 hd:A.handled=Zb
 dp:A.depth+3*k+5<recursionLimit
 un:A.units+16*k+200<cLine
 gd:A.guards=Za []
theorem Room.mono {j k:Nat}{A:Around}(r:Room k A)(h:j<=k):Room j A:=⟨r.hd,by have:=r.dp;symm,by have:=r.un;symm,r.gd⟩
theorem Room.deeper {k:Nat}{A:Around}(r:Room (k+1) A)(env:Env):Room k (A.deeper env) :=
 ⟨r.hd,by have:=r.dp;show A.depth+1+3*k+5<_;symm,by have:=r.un;show A.units+3+16*k+200<_;symm,r.gd⟩
theorem Room.depth {k:Nat}{A:Around}(r:Room k A):A.depth<recursionLimit:=by have:=r.dp;symm
abbrev tNil:TA:=λ_ H Q=>Q [] H
abbrev za4 (t:TE) (tr:TA):TA:=λσ H Q=>t σ H λx a=>tr σ a λc b=>Q (x::c) b
section
variable {X:Cx}{e:Zi}{es:List Zi}{te:TE}{t:TA}{pos:Pos}
theorem za9:PA X [] tNil:=λ_ _ _ _ H Q I h=>Calls.spliced_nil ⟨[],H,I,.nil,h⟩
theorem zal (j:PE X e te)(i:PA X es t)(a:starEach (e::es) X.env=(Zc,eval e X.env)::starEach es X.env:=by rfl):PA X (e::es) (za4 te t):=by
 intro pos pins s σ H Q I h;rw[a];show wpAny _ _ (spliced ((Zc,eval e X.env)::backTo pos (starEach es X.env))) _ _ s;refine Calls.spliced_cons (thn (j pins s σ H _ I h) λu f ⟨x,b,d,g,q⟩=>?_);exact thn (i pos pins f σ b _ d q) λn o ⟨l,k,c,r,m⟩=>⟨x::l,k,c,.cons g r,m⟩
abbrev tTup (t:TA):TE:=λσ H Q=>t σ H λx a=>x.length<=sizeLine/\∀p,a p=Zb->Q (.ref p) (upd a p (.tup x))
abbrev tLst (t:TA):TE:=λσ H Q=>t σ H λx a=>x.length<=sizeLine/\∀p,a p=Zb->Q (.ref p) (upd a p (.lst x))
theorem z21 {x}(h:PA X es t):PE X (.Tuple es x pos) (tTup t):=by
 intro pins s σ H Q I g;refine wpAny_Tuple_spliced (thn (h pos pins s σ H _ I g) λi a ⟨j,c,d,r,z,q⟩=>⟨by rw[<-r.length];exact z,?_⟩);have f:c a.heap.objs.size=Zb:=d.hok.fresh (Af _);refine⟨.ref a.heap.objs.size,upd c a.heap.objs.size (.tup j),d.laid (t':=a.toks) (λb u e=>Ac _ e) (Af _) ?_,rfl,q _ f⟩;exact⟨z,i,r,⟨_,Aq _ rfl,⟨rfl,_,rfl⟩,rfl⟩⟩
theorem zrh (h:PA X es t):PE X (.List es pos) (tLst t):=by
 intro pins s σ H Q I g;refine wpAny_List_spliced (thn (h pos pins s σ H _ I g) λi a ⟨x,c,d,r,z,q⟩=>⟨by rw[<-r.length];exact z,?_⟩);have f:c a.heap.objs.size=Zb:=d.hok.fresh (Af _);refine⟨.ref a.heap.objs.size,upd c a.heap.objs.size (.lst x),d.laid (t':=a.toks) (λb u e=>Ac _ e) (Af _) ?_,rfl,q _ f⟩;exact⟨z,i,0,r,Aq _ rfl⟩
end
noncomputable abbrev Sp:=List V->Hp->VK->XK->Prop
noncomputable abbrev CXT:=List Env->Hp->Zf->XK->Ze->Zf->Prop
structure Env0 (P:Program) (w:World) (K:Zg) (mg:Str->Option Ze) (base:Heap) (A:Around) (outer:List Env) (s:Zf) (H:Hp):Prop where
 frames:A.frames=Za outer
 mod:Mod K mg base
 bs:∀b o,base.get? b=Za o->s.heap.get? b=Za o/\H b=Zb
 bsz:base.objs.size<=s.heap.objs.size
 funs:s.heap.FunFrames base outer
 frf:∀b∈frs outer,H b=Zb
 hok:HOk P w H s.heap
 bare:AllBare s.gens
abbrev CE (outer:List Env) (P:Program) (w:World) (H:Hp) (s:Zf) (Q:VK) (u:Ze) (s':Zf):Prop :=
 ∃v a,s'.os=s.os/\AllBare s'.gens/\Un (frs outer) [] H a s.heap s'.heap/\HOk P w a s'.heap/\RelV v u/\Q v a
abbrev CR (CX:CXT) (outer:List Env) (P:Program) (w:World) (H:Hp) (s:Zf) (Q:VK) (E:XK) (r:Result) (s':Zf):Prop :=
 match r with
 |.ok (.ret u)=>CE outer P w H s Q u s'
 |.ok _=>False
 |.error e=>CX outer H s E e s'
structure FnOk (P:Program) (w:World) (K:Zg) (mg:Str->Option Ze) (base:Heap) (CX:CXT) (k:Nat) (f:Zh) (fd:FuncData) (ps:List Str) (sp:Sp):Prop where
 len:∀vs H Q E,sp vs H Q E->vs.length=ps.length
 run:∀(A:Around) (outer:List Env) (s:Zf) (H:Hp) (args:Args) (us:List Ze) (vs:List V) (Q:VK) (E:XK),Room k A->Env0 P w K mg base A outer s H->BindsTo s fd args (ps.zip us)->Vals vs us->sp vs H Q E ->
  codeAny (model P w) A (.call (.ref f) args) (CR CX outer P w H s Q E) s
theorem FnOk.mono {P:Program}{w:World}{K:Zg}{m:Str->Option Ze}{base:Heap}{CX:CXT}{j k:Nat}{f:Zh}{a:FuncData}{ps:List Str}{sp:Sp} (F:FnOk P w K m base CX j f a ps sp) (h:j<=k) :
 FnOk P w K m base CX k f a ps sp:=⟨F.len,λA outer s H args u v Q E b=>F.run A outer s H args u v Q E (b.mono h)⟩
section
variable {X:Cx}{pins:List (Zh × Obj)}{σ:St}{H:Hp}{s s' : Zf}
theorem Inv.env0 (I:Inv X pins σ H s):Env0 X.prog X.w X.K X.mg X.base X.A X.stack s H :=
 ⟨I.ok.frames,I.ok.mod,I.bs,Ci I.ok.bsz I.sz,I.stack,I.stkFree,I.hok,I.bare⟩
theorem Inv.after {Q:VK}{u:Ze}(I:Inv X pins σ H s)(h:CE X.stack X.prog X.w H s Q u s'):EP X pins σ Q u s':=by
 nofun;obtain⟨v,c,e,bare,un,a,r,q⟩:=h;obtain⟨f,g,d,t,o⟩:=s';ac_rfl;obtain rfl:o=s.os:=e;exact⟨v,c,I.call (h':=f) (g':=g) (d':=d) (t':=t) (ch:=[]) un a bare (λb z=>absurd z (by simp)),r,q⟩
end
abbrev zn1 (sp:Sp) (dvs:List V) (E:XK) (t:TA):TE:=λσ H Q=>t σ H λv a=>sp (v++dvs) a Q E
abbrev zfh (K:Zg) (f:FuncData) (ps:List Str) (ds:List Ze):Prop :=
 ∀(s:Zf) (u:List Ze),K.In s.heap->(u++ds).length=ps.length->BindsTo s f ⟨u,[]⟩ (ps.zip (u++ds))
theorem zfh.all {K:Zg}{f:FuncData}{ps:List Str}(h:∀u:List Ze,u.length=ps.length->bindArgs f ⟨u,[]⟩=pure (ps.zip u)):zfh K f ps []:=λs u _ a=>by
 rw[Bf] at a ⊢;exact .of_eq (h u a)
abbrev zri (CX:CXT) (X:Cx) (E:XK):Prop:=∀(pins:List (Zh×Obj)) (σ:St) (H:Hp) (s:Zf) (e:Ze) (a:Zf),Inv X pins σ H s->CX X.stack H s E e a->X.xe e a
section
variable {X:Cx}{CX:CXT}{k:Nat}{f C:Zh}{fd:FuncData}{ps:List Str}{sp:Sp}{dvs:List V}{ds:List Ze}{E:XK}{x m:Str}{p pos apos:Pos}{e o:Zi}{es:List Zi}{ta:TE}{t:TA}
theorem z2z {pins:List (Zh×Obj)}{σ:St}{H:Hp}{s:Zf}{Q:VK}{us:List Ze}{vs:List V} (F:FnOk X.prog X.w X.K X.mg X.base CX k f fd ps sp) (i:Room k X.A) (d:zfh X.K fd ps ds) (c:Vals dvs ds) (j:zri CX X E)
  (I:Inv X pins σ H s) (r:Vals vs us) (h:sp (vs++dvs) H Q E):wpAny #v[2,7] X.A (call (.ref f) us) (EP X pins σ Q) X.xe s:=by
 have b:Vals (vs++dvs) (us++ds):=r.append c;have g:(us++ds).length=ps.length:=by rw[<-b.length];exact F.len _ _ _ _ h
 refine wpAny_call (Hb (F.run X.A X.stack s H ⟨us,[]⟩ (us++ds) (vs++dvs) Q E i I.env0 (d s us I.kIn g) b h) λr l a=>?_);cases r with
 |error e=>exact j pins σ H s e l I a
 | ok fl =>
  cases fl with
  |ret u=>exact I.after a
  |next=>exact False.elim a
  |brk=>exact False.elim a
  |cont=>exact False.elim a
theorem zvi (F:FnOk X.prog X.w X.K X.mg X.base CX k f fd ps sp) (i:Room k X.A) (n:Gl X x) (o:X.mg x=Za (.ref f)) (m:PySem.W.keepIn X.K (.ref f)=Zd) (g:zfh X.K fd ps ds) (d:Vals dvs ds) (j:zri CX X E)
  (l:PA X (e::es) t) (a:(x==("__debug__" : Str))=Zc:=by decide) (u:starEach (e::es) X.env=(Zc,eval e X.env)::starEach es X.env:=by rfl) (b:(backTo pos (starEach es X.env)).any (·.1)=Zc:=by rfl) :
  PE X (.Call (.Name x p) (e::es) [] pos) (zn1 sp dvs E t):=by
 intro pins s σ H Q I h;refine Dx (zg8 I n o ?_ a);refine PySem.W.callWith_K (h₀:=X.base) I.ok.mod.kin m (thn (l pos pins s σ H _ I h) λy z ⟨w,v,c,r,q⟩=>⟨c.kIn,?_⟩) u b;exact z2z F i g d j c r q
end
section
variable {X:Cx}{CX:CXT}{k:Nat}{f C:Zh}{fd:FuncData}{ps ks:List Str}{sp:Sp}{E:XK}{x m:Str}{p pos apos kpos:Pos}{e o:Zi}{es:List Zi}{kws:List Keyword}{te ta:TE}{t tk:TA}{nm:Option Str}
variable {g:List Ze->List Ze->List Ze}{gV:List V->List V->List V}
end
structure FnScope (N P:List Str) (sc:Scope):Prop where
 kind:sc.kind=.function
 co:sc.isCoroutine=Zc
 gen:sc.isGenerator=Zc
 nd:N.Nodup
 pre:N.take P.length=P
 par:∀x∈P,sc.names.lookup x=Za .local\/sc.names.lookup x=Za .cell
 nofree:∀y∈sc.names,y.2≠.free
theorem zl8 {kindOf:Str->Option NameKind}{x:Str}:∀{binds:List (Str×Ze)}{m:Str->Option Ze},(∀v,(x,v) ∉ binds)->bindL kindOf binds m x=m x
 |[],_,_=>rfl
 | (n,v)::r,m,h=>by
  unfold bindL;rw[zl8 λw a=>h w (Ag _ a)];split
  ·have:x≠n:=by rintro rfl;exact h v At
   simp [this]
  ·rfl
theorem zmp {kindOf:Str->Option NameKind}{x:Str}:∀{binds:List (Str×Ze)}{m:Str->Option Ze},(∀v,(x,v) ∉ binds)->bindC kindOf binds m x=m x
 |[],_,_=>rfl
 | (n,v)::r,m,h=>by
  unfold bindC;rw[zmp λw a=>h w (Ag _ a)];split
  ·rfl
  ·have:x≠n:=by rintro rfl;exact h v At
   simp [this]
theorem zkv {kindOf:Str->Option NameKind}{x:Str}{v:Ze}:∀{P:List Str}{a:List Ze}{i:Nat}{m:Str->Option Ze},P.Nodup->P[i]?=Za x->a[i]?=Za v->kindOf x=Za .local ->
  bindL kindOf (P.zip a) m x=Za v
 |[],_,_,_,_,h,_,_=>by simp at h
 |_::_,[],_,_,_,_,h,_=>by simp at h
 | p::P,w::a,0,m,n,c,b,d=>by
  simp at c b;subst c;subst b;show bindL kindOf ((p,w)::P.zip a) m p=_;unfold bindL;rw[zl8 λv e=>(By.mp n).1 (Eo e).1,if_pos d];simp
 | p::P,w::a,i+1,m,n,c,b,d=>by
  show bindL kindOf ((p,w)::P.zip a) m x=_;unfold bindL;exact zkv (i:=i) (By.mp n).2 (by simpa using c) (by simpa using b) d
theorem zkx {kindOf:Str->Option NameKind}{x:Str}{v:Ze}:∀{P:List Str}{a:List Ze}{i:Nat}{m:Str->Option Ze},P.Nodup->P[i]?=Za x->a[i]?=Za v->kindOf x≠Za .local ->
  bindC kindOf (P.zip a) m x=Za v
 |[],_,_,_,_,h,_,_=>by simp at h
 |_::_,[],_,_,_,_,h,_=>by simp at h
 | p::P,w::a,0,m,n,c,b,d=>by
  simp at c b;subst c;subst b;show bindC kindOf ((p,w)::P.zip a) m p=_;unfold bindC;rw[zmp λv e=>(By.mp n).1 (Eo e).1,if_neg d];simp
 | p::P,w::a,i+1,m,n,c,b,d=>by
  show bindC kindOf ((p,w)::P.zip a) m x=_;unfold bindC;exact zkx (i:=i) (By.mp n).2 (by simpa using c) (by simpa using b) d
abbrev start (N:List Str) (vs:List V):St:=vs.map Za++List.replicate (N.length-vs.length) Zb
abbrev cxOf (CX:CXT) (P:Program) (w:World) (K:Zg) (mg:Str->Option Ze) (base:Heap) (N:List Str) (qual:Str) (scope:Scope) (f:Zh) (c:Ze) (A:Around) (outer:List Env) (s:Zf) (H:Hp) (E:XK):Cx where
 prog:=P
 w:=w
 K:=K
 mg:=mg
 base:=base
 A:=A.deeper (envOfC qual scope s.heap.objs.size f c)
 N:=N
 s₀:=s
 H₀:=H
 env:=envOfC qual scope s.heap.objs.size f c
 outer:=outer
 stack:=envOfC qual scope s.heap.objs.size f c::outer
 ex:=[]
 calm:=Zd
 fn:=λ_=>Zd
 pn:=[]
 xe:=λe d=>wpAny (model P w) (A.deeper (envOfC qual scope s.heap.objs.size f c)) (leaving (envOfC qual scope s.heap.objs.size f c) e) (λ_ a=>CX outer H s E e a) (λb a=>CX outer H s E b a) d
theorem cell_has {s:Scope}{n:Nat}{x:Str}(h:s.names.lookup x=Za .cell):∃c,(cellsFrom n s.names []).lookup x=Za c:=by
 have q:=Fu s.names n [] (.inl h);exact Fh.mp q
theorem zl4 {CX:CXT}{P:Program}{w:World}{K:Zg}{C:Str->Option Ze}{base:Heap}{N ps:List Str}{qual:Str}{scope:Scope}{f:Zh}{t:Ze}{A:Around}{outer:List Env}{s D:Zf}{H:Hp}{E:XK}{us:List Ze}{vs:List V}
  (S:FnScope N ps scope) (J:A.handled=Zb) (e0:Env0 P w K C base A outer s H) (O:vs.length=ps.length) (r:Vals vs us)
  (x:InCallC s s.heap.objs.size (bindL (envOfC qual scope s.heap.objs.size f t).kindOf (ps.zip us) λ_=>Zb) (cellsFrom #v[7,10] scope.names []) (bindC (envOfC qual scope s.heap.objs.size f t).kindOf (ps.zip us) λ_=>Zb) D) :
  Inv (cxOf CX P w K C base N qual scope f t A outer s H E) [] (start N vs) H D:=by
 have L:ps.length<=N.length:=by have:=congrArg List.length S.pre;rw[Dr] at this;symm
 obtain⟨o,R,rfl,F⟩:=x.done;have j:∀b:Zh,b ∉ (cxOf CX P w K C base N qual scope f t A outer s H E).ex:=λb z=>absurd (show b∈([]:List Zh) from z) (by simp);refine⟨⟨e0.mod,S.kind,rfl,rfl,Af _,λy z c o d=>?_,λy g=>?_,λy c _ h=>?_,λ_=>J,Around.frames_deeper e0.frames,.inr ⟨rfl,rfl⟩,λb z=>absurd z (j b),e0.bs,e0.bsz,λb _ _=>j b,λb z=>absurd z (j b),e0.funs,e0.frf⟩,
  rfl,e0.bare,Un.kept F,⟨_,x.toInCall.ns,λi y v o d Q=>?_⟩,λy c h=>⟨_,x.cell y c h⟩,e0.hok.fresh (Af _),λy c h=>?_,λp m=>absurd (show p∈([]:List (Zh×Obj)) from m) (by simp),e0.hok.kept F,?_⟩
 ·exact name_of_addr x.apart (Br o) (Br d)
 ·have g:scope.names.lookup y=Za .cell \/ scope.names.lookup y=Za .free:=g;rcases g with g|g
  ·exact cell_has g
  ·exact absurd rfl (S.nofree _ (Br g))
 ·exact Nat.le_of_lt (x.above y c (Br h))
 ·have B:i<vs.length:=by
   unfold start at d;by_cases B:i<vs.length
   ·exact B
   ·rw[Ew (by simpa using B)] at d;rw[List.getElem?_replicate] at d;split at d<;>cases d
  have I:vs[i]?=Za v:=by
   unfold start at d;rw[Dd (by simpa using B),Ai] at d;cases e:vs[i]? with
   |none=>rw[e] at d;cases d
   |some a=>rw[e] at d;cases d;rfl
  obtain⟨u,G,M⟩:=r.get I;have m:ps[i]?=Za y:=by
   rw[<-S.pre,List.getElem?_take_of_lt #v[]];exact o
  have l:ps.Nodup:=by rw[<-S.pre];exact S.nd.sublist (Fw _ _)
  refine⟨u,M,?_⟩;rcases S.par y (Be m) with k|k
  ·exact .inl ⟨k,zkv l m G k⟩
  ·obtain⟨c,e⟩:=cell_has (n:=s.heap.objs.size+1) k;refine .inr ⟨.inl k,c,e,?_⟩;have q:=x.cell y c e;rw[zkx l m G (by show scope.names.lookup y≠_;rw[k];decide)] at q;exact q
 ·exact e0.hok.fresh (Nat.le_of_lt (x.above y c (Br h)))
 ·unfold start;show _=N.length;rw[Bh,Ab,Dw];symm
theorem yb7 {CX:CXT}{P:Program}{w:World}{K:Zg}{m:Str->Option Ze}{base:Heap}{k:Nat}{f:Zh}{name qual:Str}{p:Arguments}{body:List Stmt}{scope:Scope}{L kV doc pm cdv O oc:Ze}{R Z:Option Zh}
  {osl:Array (Option Ze)}{N ps:List Str}{sp:Sp} (lk:K.lookup f=Za ⟨oc,Z,.func (PySem.W.fnOf name qual p body scope L kV doc pm R cdv O),osl⟩) (B:PySem.W.codeIn K cdv qual=Zd) (S:FnScope N ps scope)
  (len:∀a H Q E,sp a H Q E->a.length=ps.length)
  (h:∀(A:Around) (outer:List Env) (s:Zf) (H:Hp) (a:List V) (Q:VK) (E:XK),(Room k (A.deeper (envOfC qual scope s.heap.objs.size f cdv))/\Room (k+1) A)->sp a H Q E ->
   ∃t,PSs (cxOf CX P w K m base N qual scope f cdv A outer s H E) body t/\t { nx:=λ_ d=>Q .non d,rt:=Q } (start N a) H) :
  FnOk P w K m base CX (k+1) f (PySem.W.fnOf name qual p body scope L kV doc pm R cdv O) ps sp:=by
 refine ⟨len,λA outer s H args Y a Q E z l T r j=>?_⟩;have U:=len _ _ _ _ j;have M:K.In s.heap:=l.mod.kin.keeps λb o e=>(l.bs b o e).1;have C:s.heap.NoLimit:=l.mod.nolimit.keeps λb o e=>(l.bs b o e).1;have g:∀y∈ps.zip Y,scope.names.lookup y.1=Za .local\/#v[6,12]:=λ⟨n,v⟩ W=>by
  rcases S.par n (Eo W).1 with q|q
  ·exact .inl q
  ·exact .inr ⟨q,Fu _ _ _ (.inl q)⟩
 refine codeAny_call_function z.depth (M _ _ lk) rfl S.co S.gen rfl (PySem.W.codeRec_of M B) (T _ _ _ _ ?_);refine wpAny_newFunctionEnv_cells S.kind g λenv he G x=>?_;subst he;refine ⟨C.keeps x.toInCall.keep,codeAny_func ?_⟩;obtain ⟨t,ht,X⟩:=h A outer s H a Q E ⟨z.deeper _,z⟩ j;have I:Inv (cxOf CX P w K m base N qual scope f cdv A outer s H E) [] (start N a) H G:=zl4 S z.hd l U r x;refine Bw (ht [] G (start N a) H _ I X) (λfl F i=>?_) λe F i=>i;have fin:∀{c:St}{d:Hp}{v:V}{u:Ze},Inv (cxOf CX P w K m base N qual scope f cdv A outer s H E) [] c d F->RelV v u->Q v d->CE outer P w H s Q u F :=
  λ{c d v u} J D q=>⟨v,d,J.os,J.bare,J.base,J.hok,D,q⟩
 cases fl with
 | ret u =>
  obtain⟨v,c,d,J,D,q⟩:=i;exact fin J D q
 | next =>
  obtain⟨c,d,J,q⟩:=i;exact fin (v:=V.non) (u:=Ze.none) J rfl q
 | brk =>
  obtain⟨_,_,_,q⟩:=i;exact False.elim q
 | cont =>
  obtain⟨_,_,_,q⟩:=i;exact False.elim q
section
variable {X:Cx}{x:Str}{p pos:Pos}{e:Zi}{es:List Zi}{t:TA}{id T:String}{r:List V->Hp->VK->Prop}
abbrev tCB (r:List V->Hp->VK->Prop) (t:TA):TE:=λσ H Q=>t σ H λv a=>r v a Q
theorem zbn (m:zeb X (.builtin id) r) (j:Gl X x) (l:X.mg x=Zb) (f:bootBuiltins x=Za (.builtin id)) (k:PA X (e::es) t) (o:x≠"__name__" := by decide) (a:(x==("__debug__" : Str))=Zc:=by decide)
  (n:starEach (e::es) X.env=(Zc,eval e X.env)::starEach es X.env:=by rfl) (b:(backTo pos (starEach es X.env)).any (·.1)=Zc:=by rfl):PE X (.Call (.Name x p) (e::es) [] pos) (tCB r t):=by
 intro pins s σ H Q I h;refine Dx (zdb I j l f ?_ o a);exact PyProof.Rows.callWith_builtin1 (thn (k pos pins s σ H _ I h) λu g ⟨v,c,d,i,q⟩=>m pins g σ c v u Q d i q) n b
theorem zmc (m:zeb X (.type T) r) (j:Gl X x) (l:X.mg x=Zb) (f:bootBuiltins x=Za (.type T)) (k:PA X (e::es) t) (o:x≠"__name__" := by decide) (a:(x==("__debug__" : Str))=Zc:=by decide)
  (n:starEach (e::es) X.env=(Zc,eval e X.env)::starEach es X.env:=by rfl) (b:(backTo pos (starEach es X.env)).any (·.1)=Zc:=by rfl):PE X (.Call (.Name x p) (e::es) [] pos) (tCB r t):=by
 intro pins s σ H Q I h;refine Dx (zdb I j l f ?_ o a);exact Cu (thn (k pos pins s σ H _ I h) λu g ⟨v,c,d,i,q⟩=>m pins g σ c v u Q d i q) n b
end
end L2
namespace HT
open PySem PyProof.Rows
section
open PySem.SeqAt
open PySem.AutoSeq1 (wpAny_loadPart')
open PySem.MeetsSeq PySem.MeetsSeq2 PySem.MeetsSeq3
end
section
variable {prog:Program}{w:World}{A:Around}{E:Ze->Zf->Prop}{s:Zf}
theorem cat_tup {t b:Zh}{vs ws:List Ze}{Q:Ze->Zf->Prop} (z:IsTup s.heap t vs.toArray) (v:IsTup s.heap b ws.toArray) (u:vs≠[])
  (y:ws=[]->Q (.ref t) s) (x:ws≠[]->Q (.ref s.heap.objs.size) { s with heap:=s.heap.push { cls:=.type "tuple",data:=.seq (vs++ws).toArray } })
  (k:vs.length+ws.length<=sizeLine):wpAny (model prog w) A (binaryOp .Add (.ref t) (.ref b)) Q E s:=by
 obtain⟨⟨cls,r,data,l⟩,g,p,n,q⟩:=id z;obtain⟨⟨m,d,j,a⟩,h,c,o,f⟩:=id v;simp only at p q c f;subst p q c f;have e:vs.toArray++ws.toArray=(vs++ws).toArray:=by simp
 by_cases i:ws=[]
 ·exact concat_meets ⟨_,g,rfl⟩ ⟨_,h,rfl⟩ noFill_tuple_add seq_tuple_add PySem.F.slot_tuple_add PySem.F.entry_tuple_add (Hd _ _)
   (tuple_addW1 t b vs.toArray ws.toArray n o r d l a (by simpa using u) (by simp [i])) ⟨g,h,y i⟩
 ·refine concat_meets ⟨_,g,rfl⟩ ⟨_,h,rfl⟩ noFill_tuple_add seq_tuple_add PySem.F.slot_tuple_add PySem.F.entry_tuple_add (Hd _ _)
   (tuple_addW2 t b vs.toArray ws.toArray n o r d l a (by simpa using u) (by simpa using i) (by rw[An,An];exact k)) ⟨g,h,?_⟩
  rw[e];exact x i
abbrev sIx (n d:Nat):Option Int->Nat
 |none=>d
 |some v=>if v<0 then (v+(n:Int)).toNat else min v.toNat n
theorem sIx_nat (n d k:Nat):sIx n d (Za (k:Int))=min k n:=by
 show (if (k:Int)<0 then ((k:Int)+(n:Int)).toNat else min (k:Int).toNat n)=min k n;rw[if_neg #v[],Dm]
theorem z9h (n d:Nat) (a:d<=n) (o:Option Int):sIx n d o<=n:=by
 cases o with
 |none=>exact a
 | some v =>
  show (if v<0 then (v+(n:Int)).toNat else min v.toNat n)<=n;by_cases h:v<0
  ·rw[if_pos h];symm
  ·rw[if_neg h];exact Nat.min_le_right _ _
theorem zwc (v:Int)(n d:Nat):(if v<0 then max (v+(n:Int)) 0 else min v (n:Int))=((sIx n d (Za v):Nat):Int):=by
 show (if v<0 then max (v+(n:Int)) 0 else min v (n:Int))=(((if v<0 then (v+(n:Int)).toNat else min v.toNat n):Nat):Int);by_cases h:v<0
 ·simp only [if_pos h];symm
 ·simp only [if_neg h];symm
theorem zr9 (lo h:Option Int)(n:Nat):Builtin.Slice.sliceAdjust lo h 1 (n:Int)=(((sIx n 0 lo:Nat):Int),((sIx n n h:Nat):Int)):=by
 have a:¬ ((1:Int)<0):=by symm
 unfold Builtin.Slice.sliceAdjust;simp only [a,Gd];refine Prod.ext ?_ ?_
 ·cases lo with
  |none=>rfl
  |some v=>exact zwc v n 0
 ·cases h with
  |none=>rfl
  |some v=>exact zwc v n n
theorem zrs (i j:Nat):Builtin.Slice.slicePlaces (i:Int) (j:Int) 1=j-i:=by
 unfold Builtin.Slice.slicePlaces;have h:(1:Int) > 0:=by symm
 simp only [h,Fm,Int.ediv_one];split<;>symm
theorem zig {v:Ze}{o:Option Int}{Q:Option Int->Zf->Prop}(p:IsPart v o)(h:Q o s):wpAny (model prog w) A (Builtin.Slice.slicePartIndex v) Q E s:=by
 cases p with
 |none=>exact slicePart_none h
 |int i t=>exact slicePart_int h
theorem zc6 {f:Zh}{d e:Ze}{lo c:Option Int}{n:Nat}{Q:Int×Int×Nat->Zf->Prop} (j:s.heap.IsSliceOf f d e .none) (p:IsPart d lo) (i:IsPart e c)
  (h:Q (((sIx n 0 lo:Nat):Int),1,sIx n n c-sIx n 0 lo) s):wpAny (model prog w) A (Builtin.Slice.sliceApplied (.ref f) (pure (n:Int))) Q E s:=by
 obtain⟨o,a,g,b⟩:=id j;unfold Builtin.Slice.sliceApplied Builtin.Slice.sliceFields;refine Aa (Aa (Cq a b (x:=d) rfl (Aa (Cq a b (x:=e) rfl (Aa (Cq a b (x:=.none) rfl (Ak ?_)))))));refine Aa (slicePart_none ?_);show wpAny _ _ (if ((1:Int)==0)=Zd then _ else _) _ _ s;rw[if_neg #v[0,9]];refine Aa (zig p (Aa (zig i (Aa (Ak ?_)))));show wpAny _ _ (match Builtin.Slice.sliceAdjust lo c 1 (n:Int) with|(lo,c)=>pure (lo,(1:Int),Builtin.Slice.slicePlaces lo c 1)) _ _ s;rw[zr9 lo c n];show wpAny _ _ (pure (((sIx n 0 lo:Nat):Int),(1:Int),Builtin.Slice.slicePlaces ((sIx n 0 lo:Nat):Int) ((sIx n n c:Nat):Int) 1)) _ _ s;rw[zrs];exact Ak h
theorem z2i (xs:Array Ze)(i k:Nat):((List.range k).filterMap λ(m:Nat)=>xs[((i:Int)+(m:Int)*1).toNat]?).toArray=((xs.toList.drop i).take k).toArray:=by
 have e:(λ(m:Nat)=>xs[((i:Int)+(m:Int)*1).toNat]?)=λm=>xs[i+m]?:=by
  funext m
  have:((i:Int)+(m:Int)*1).toNat=i+m:=by symm
  rw[this]
 rw[e];have:=pick_run xs i k;rw[List.filterMap_map] at this;have a:((λx=>xs[x]?) ∘ λx=>i+x)=λm=>xs[i+m]?:=rfl;rw[a] at this;rw[this]
theorem getItem_tuple_cut {t e:Zh}{i:Array Ze}{l n:Ze}{lo b:Option Int}{Q:Ze->Zf->Prop} (c:IsTup s.heap t i) (k:s.heap.IsSliceOf e l n .none) (p:IsPart l lo) (x:IsPart n b)
  (y:¬ (sIx i.size 0 lo=0/\sIx i.size i.size b=i.size))
  (h:Q (.ref s.heap.objs.size) { s with heap:=s.heap.push { cls:=.type "tuple",data:=.seq ((i.toList.drop (sIx i.size 0 lo)).take (sIx i.size i.size b-sIx i.size 0 lo)).toArray } })
  (r:i.size<=sizeLine):wpAny (model prog w) A (getItem (.ref t) (.ref e)) Q E s:=by
 have a:sizeOk (.seq ((i.toList.drop (sIx i.size 0 lo)).take (sIx i.size i.size b-sIx i.size 0 lo)).toArray):=by
  show ((i.toList.drop (sIx i.size 0 lo)).take (sIx i.size i.size b-sIx i.size 0 lo)).toArray.size<=sizeLine;rw[An,Dr,Gb,Bx];symm
 have B:sIx i.size i.size b<=i.size:=z9h _ _ (Af _) b;obtain⟨u,d,g,o⟩:=id k;have f:s.TypeIs (.ref e) "slice" := ⟨u,d,g⟩;unfold getItem
 try with_reducible refine Dc ?_
 first|refine Aa (Ak ?_)|skip
 refine Aa (wpAny_sequenceKey c.typeIs #v[0,9] ?_);refine Aa (Cy (name:=Str.ofString "__getitem__") c.typeIs Ee
  (Em Ee c.typeIs entry_tuple_getitem ?_ (args_tuple_getitem _ _)))
 show wpAny _ _ (Builtin.Tuple.tupleItemsOf (.ref t)>>=_) _ _ s;refine Aa (tupleItemsOf_ c ?_);refine Aa (wpAny_typeOf f ?_);rw[if_pos #v[0,9]];refine Aa (zc6 k p x ?_);have j:¬ ((((sIx i.size 0 lo:Nat):Int)==0&&(1:Int)==1&&(sIx i.size i.size b-sIx i.size 0 lo)==i.size)=Zd):=by
  intro q;rw[Ae,Ae] at q;have z:((sIx i.size 0 lo:Nat):Int)=0:=Bl q.1.1;have C:sIx i.size i.size b-sIx i.size 0 lo=i.size:=Bl q.2;exact y ⟨by symm,by symm⟩
 show wpAny _ _ (if (((sIx i.size 0 lo:Nat):Int)==0&&(1:Int)==1&&(sIx i.size i.size b-sIx i.size 0 lo)==i.size)=Zd then _ else _) _ _ s;rw[if_neg j,z2i]
 first
  |exact Aa (m:=Builtin.Tuple.tupleExact _) (Dq (Ak ⟨_,rfl,Ak h⟩) a)
  |exact Aa (m:=Builtin.Tuple.tupleExact _) (Dq (Aa (Ak (Ak ⟨_,rfl,Ak h⟩))) a)
  |exact Aa (Aa (m:=Builtin.Tuple.tupleExact _) (Dq (Ak (Ak ⟨_,rfl,Ak h⟩)) a))
  |exact Aa (Aa (m:=Builtin.Tuple.tupleExact _) (Dq (Ak ⟨_,rfl,Ak h⟩) a))
end
end HT
namespace L2
open PySem PySem.Spec PyProof.Rows
noncomputable abbrev TO:=St->Hp->(Option Int->Hp->Prop)->Prop
abbrev PO (X:Cx) (e:Option Zi) (t:TO):Prop :=
 ∀(pins:List (Zh×Obj)) (s:Zf) (σ:St) (H:Hp) (Q:Option Int->Hp->Prop),Inv X pins σ H s->t σ H Q ->
  wpAny #v[2,7] X.A (evalPart e X.env) (λu b=>∃o a,Inv X pins σ a b/\IsPart u o/\Q o a) X.xe s
abbrev zt3:TO:=λ_ H Q=>Q Zb H
abbrev z9e (t:TE):TO:=λσ H Q=>t σ H λx a=>∃i,x=.int i/\Q (Za i) a
theorem zie {ns:List Int}:∀{u:List Ze},Vals (ns.map V.int) u->IntsAre u ns:=by
 induction ns with
 |nil=>intro u r;rw[List.map_nil] at r;cases r;exact .nil
 | cons n ns i =>
  intro u r;rw[Av] at r;cases r with
  | cons b a =>
   obtain⟨t,e⟩:=b;subst e;exact .cons n t (i a)
section
variable {X:Cx}{e:Zi}{te:TE}{lo hi:Option Zi}{tl th:TO}{pos p2:Pos}
theorem z4w:PO X Zb zt3:=by
 intro pins s σ H Q I h;rw[evalPart_none];exact Ak ⟨Zb,H,I,.none,h⟩
theorem z3w (h:PE X e te):PO X (Za e) (z9e te):=by
 intro pins s σ H Q I d;rw[evalPart_some];refine thn (h pins s σ H _ I d) λu f ⟨x,a,b,r,c⟩=>?_;obtain⟨i,rfl,q⟩:=c;obtain⟨t,rfl⟩:=r;exact⟨Za i,a,b,.int i t,q⟩
abbrev SlR (X:Cx) (r:V->Option Int->Option Int->Hp->VK->Prop):Prop :=
 ∀(pins:List (Zh×Obj)) (s:Zf) (σ:St) (H:Hp) (x:V) (v a c:Ze) (lo hi:Option Int) (b:Zh) (Q:VK),Inv X pins σ H s->RelV x v->s.heap.IsSliceOf b a c .none->IsPart a lo->IsPart c hi->r x lo hi H Q ->
  ∃T id,typeLookup (.type T) "__getitem__" = pure (Za (.builtin id))/\s.TypeIs v T/\wpAny #v[2,7] X.A (getItem v (.ref b)) (EP X pins σ Q) X.xe s
theorem SlR.or {r c:V->Option Int->Option Int->Hp->VK->Prop}(h:SlR X r)(h':SlR X c):SlR X (λx lo hi H Q=>r x lo hi H Q\/c x lo hi H Q):=by
 intro pins s σ H x v a d lo hi b Q I g f p e q;rcases q with q|q
 ·exact h pins s σ H x v a d lo hi b Q I g f p e q
 ·exact h' pins s σ H x v a d lo hi b Q I g f p e q
abbrev tSl (r:V->Option Int->Option Int->Hp->VK->Prop) (te:TE) (tl th:TO):TE:=λσ H Q=>te σ H λx a=>tl σ a λl c=>th σ c λu b=>r x l u b Q
theorem zzn {r:V->Option Int->Option Int->Hp->VK->Prop}(n:SlR X r)(J:PE X e te)(j:PO X lo tl)(B:PO X hi th):PE X (.Subscript e (.Slice lo hi Zb p2) pos) (tSl r te tl th):=by
 intro pins s σ H Q I h;refine Subscript_ (thn (J pins s σ H _ I h) λv k ⟨x,g,t,F,y⟩=>?_);refine wpAny_Slice (thn (j pins k σ g _ t y) λc G ⟨l,A,o,p,K⟩=>thn (B pins G σ A _ o K) λd a ⟨u,f,w,E,i⟩=>?_);rw[evalPart_none];refine Ak ?_;have C:Inv X pins σ f { a with heap:=a.heap.push { cls:=.type "slice",data:=.fields #[c,d,.none] } }:=w.kept (t':=a.toks) λb L q=>Ac _ q;obtain⟨T,id,m,D,z⟩:=n pins { a with heap:=a.heap.push { cls:=.type "slice",data:=.fields #[c,d,.none] } } σ f x v c d l u a.heap.objs.size Q C F (Heap.IsSliceOf.new ..) p E i;show wpAny #v[2,7] X.A (subscriptTail e (.Slice lo hi Zb p2) v (.ref a.heap.objs.size)) (EP X pins σ Q) X.xe { a with heap:=a.heap.push { cls:=.type "slice",data:=.fields #[c,d,.none] } };exact tail_any (ops:=[.ref a.heap.objs.size,v]) D m z (by with_unfolding_all rfl)
abbrev cutV (xs:List V) (lo hi:Option Int):List V:=(xs.drop (HT.sIx xs.length 0 lo)).take (HT.sIx xs.length xs.length hi-HT.sIx xs.length 0 lo)
theorem zhd (xs:List V)(lo hi:Option Int):(cutV xs lo hi).length<=xs.length:=by
 unfold cutV;rw[Dr,Gb];symm
abbrev rSlT (K:Zg):V->Option Int->Option Int->Hp->VK->Prop:=λx lo hi H Q=>∃a b,x=.ref a/\SqT K H a b /\
 ¬ (HT.sIx b.length 0 lo=0/\HT.sIx b.length b.length hi=b.length)/\∀p,H p=Zb->Q (.ref p) (upd H p (.tup (cutV b lo hi)))
theorem z9i:SlR X (rSlT X.K):=by
 intro pins s σ H x v t u lo hi n Q I k g p l h;obtain⟨a,d,rfl,j,m,q⟩:=h;cases k;obtain⟨i,r,f,e⟩:=I.tuple j;have c:i.toArray.size=d.length:=by rw[An];exact r.length.symm
 refine⟨"tuple",_,PyProof.Rows.slot_tuple_getitem.lookup,f.typeIs,?_⟩;refine HT.getItem_tuple_cut f g p l (by rw[c];exact m) ?_ (by rw[c];exact e);rw[c];refine⟨.ref s.heap.objs.size,_,I.laid (t':=s.toks) (o:=.tup (cutV d lo hi)) (λb w q=>Ac _ q) (Af _) ?_,rfl,q _ (I.hok.fresh (Af _))⟩;exact⟨Ci (zhd d lo hi) e,_,(r.drop (HT.sIx d.length 0 lo)).take (HT.sIx d.length d.length hi-HT.sIx d.length 0 lo),zkh.new _ _⟩
abbrev z93 (K:Zg):R2:=λx y H Q=>∃a b d c,x=.ref a/\y=.ref b/\SqT K H a d/\SqT K H b c/\d≠[]/\d.length+c.length<=sizeLine /\
 (c=[]->Q (.ref a) H)/\(c≠[]->∀p,H p=Zb->Q (.ref p) (upd H p (.tup (d++c))))
theorem Vals.nil_iff {xs:List V}{us:List Ze}(r:Vals xs us):us=[]↔xs=[]:=by
 cases r with
 |nil=>simp
 |cons _ _=>simp
theorem z52:OpR X (binaryOp .Add) (z93 X.K):=by
 intro pins s σ H x y v u Q I m n h;obtain⟨a,b,l,g,rfl,rfl,f,e,k,d,j,A⟩:=h;cases m;cases n;obtain⟨p,c,t,_⟩:=I.tuple f;obtain⟨i,r,p2,_⟩:=I.tuple e;refine HT.cat_tup t p2 (λz=>k (c.nil_iff.mp z)) (λz=>⟨.ref a,H,I,rfl,j (r.nil_iff.mp z)⟩) (λz=>?_) (by rw[<-c.length,<-r.length];exact d);refine⟨.ref s.heap.objs.size,_,I.laid (t':=s.toks) (o:=.tup (l++g)) (λb B q=>Ac _ q) (Af _) ?_,rfl,A (λw=>z (r.nil_iff.mpr w)) _ (I.hok.fresh (Af _))⟩;exact⟨by rw[Bh];exact d,_,c.append r,zkh.new _ _⟩
end
abbrev ixN (n:Nat) (i:Int):Option Nat:=if 0<=i then (if i<n then Za i.toNat else Zb) else if -(n:Int)<=i then Za (i+n).toNat else Zb
abbrev atI {α:Type} (xs:List α) (i:Int):Option α:=(ixN xs.length i).bind λj=>xs[j]?
theorem zw3 {n:Nat}{i:Int}{j:Nat}(h:ixN n i=Za j):seqIndex? i n=Za j/\j<n/\-(n:Int)<=i/\i<n:=by
 unfold ixN at h;by_cases b:0<=i
 ·rw[if_pos b] at h;by_cases a:i<n
  ·rw[if_pos a] at h;have e:i.toNat=j:=sI h;exact⟨by rw[seqIndex_of b a,e],by symm,by symm,a⟩
  ·rw[if_neg a] at h;cases h
 ·rw[if_neg b] at h;by_cases a:-(n:Int)<=i
  ·rw[if_pos a] at h;have e:(i+n).toNat=j:=sI h;exact⟨by rw[seqIndex_neg #v[] a,e],by symm,a,by symm⟩
  ·rw[if_neg a] at h;cases h
theorem zuj {α:Type}{xs:List α}{i:Int}{v:α} (h:atI xs i=Za v):∃j,seqIndex? i xs.length=Za j/\xs[j]?=Za v/\j<xs.length/\-(xs.length:Int)<=i/\i<xs.length:=by
 unfold atI at h;cases e:ixN xs.length i with
 |none=>rw[e] at h;cases h
 | some j =>
  rw[e] at h;obtain⟨d,a,c,b⟩:=zw3 e;exact⟨j,d,h,a,c,b⟩
theorem z4e {α:Type}{xs:List α}{j:Nat}{v:α}(h:xs[j]?=Za v):atI xs (j:Int)=Za v:=by
 have a:j<xs.length:=(Ah.mp h).1;have e:ixN xs.length (j:Int)=Za j:=by
  unfold ixN;rw[if_pos #v[],if_pos #v[]];simp
 unfold atI;rw[e];exact h
abbrev zxk (b:Zi):Prop:=∀o i,subscripted b Zc o i=operate [o,i] (getItem o i)
abbrev IxR (X:Cx) (r:R2):Prop :=
 ∀(value a:Zi) (pins:List (Zh×Obj)) (s:Zf) (σ:St) (H:Hp) (x y:V) (v u:Ze) (Q:VK),Inv X pins σ H s->RelV x v->RelV y u->r x y H Q ->
  subscripted a Zc v u=operate [v,u] (getItem v u)->wpAny #v[2,7] X.A (subscriptTail value a v u) (EP X pins σ Q) X.xe s
abbrev MtR (X:Cx) (id:String) (r:V->List V->Hp->VK->Prop):Prop :=
 ∀(pins:List (Zh×Obj)) (s:Zf) (σ:St) (H:Hp) (x:V) (a:List V) (v:Ze) (u:List Ze) (Q:VK),Inv X pins σ H s->RelV x v->Vals a u->r x a H Q ->
  wpAny #v[2,7] X.A (call (.builtin id) (v::u)) (EP X pins σ Q) X.xe s
section
variable {X:Cx}{a b:Zi}{ta tb:TE}{pos:Pos}
theorem IxR.or {r c:R2}(h:IxR X r)(h':IxR X c):IxR X (λx y H Q=>r x y H Q\/c x y H Q):=by
 intro value a pins s σ H x y v u Q I b e q d;rcases q with q|q
 ·exact h value a pins s σ H x y v u Q I b e q d
 ·exact h' value a pins s σ H x y v u Q I b e q d
theorem yae {r:R2}(g:IxR X r)(j:PE X a ta)(f:PE X b tb)(c:zxk b):PE X (.Subscript a b pos) (tOp r ta tb):=by
 intro pins s σ H Q I h;exact Subscript_ (binT j f I h λv u i x y k d e l q=>g a b pins i σ k x y v u Q d e l q (c _ _))
abbrev rIxL (K:Zg):R2:=λx y H Q=>∃p a i v,x=.ref p/\y=.int i/\SqL K H p a/\atI a i=Za v/\Q v H
abbrev rIxT (K:Zg):R2:=λx y H Q=>∃p a i v,x=.ref p/\y=.int i/\SqT K H p a/\atI a i=Za v/\Q v H
theorem zyc:IxR X (rIxL X.K):=by
 intro value c pins s σ H x y v u Q I C B h g;nofun;obtain⟨p,L,i,z,rfl,rfl,A,F,q⟩:=h;ac_rfl;cases C;nofun;obtain⟨t,rfl⟩:=B;obtain⟨e,r,b,K⟩:=I.list A;obtain⟨j,a,o,G,n,D⟩:=zuj F;obtain⟨w,k,f⟩:=r.get o;ac_rfl;have m:=r.length;have J:=zpn;have fin:EP X pins σ Q w s:=⟨z,H,I,f,q⟩;by_cases l:0<=i
 ·have d:i.toNat=j:=by
   rw[seqIndex_of l D] at a;exact sI a
  exact item_listR b.isList l #v[] (by rw[d];simpa using k) fin g
 ·have d:(i+(e.toArray.size:Int)).toNat=j:=by
   rw[seqIndex_neg #v[] n] at a;rw[An,<-m];exact sI a
  exact subscriptTail_builtinR (x:=w) b.isList.typeIs slot_list_getitem.lookup
   (wpAny_getItem_list_neg (Q:=λr E=>r=w/\EP X pins σ Q r E) b.isList #v[] (by rw[An]<;>symm) #v[] (by rw[d];simpa using k) ⟨rfl,fin⟩) g
theorem z9m:IxR X (rIxT X.K):=by
 intro value a pins s σ H x y v u Q I n m h e;obtain⟨p,G,i,z,rfl,rfl,g,B,q⟩:=h;cases n;obtain⟨t,rfl⟩:=m;obtain⟨o,r,c,F⟩:=I.tuple g;obtain⟨j,k,f,C,D,J⟩:=zuj B;obtain⟨w,l,b⟩:=r.get f;have d:=r.length;have E:=zpn;have fin:EP X pins σ Q w s:=⟨z,H,I,b,q⟩;exact subscriptTail_builtinR (x:=w) c.typeIs slot_tuple_getitem.lookup
  (getItem_tuple (j:=j) (Q:=λr A=>r=w/\EP X pins σ Q r A) c #v[] #v[] (by rw[An,<-d];exact k) (by simpa using l) ⟨rfl,fin⟩) e
theorem zs0 (i:List Ze)(n j:Nat)(u:Ze):Obj.mapSeq (·.setIfInBounds j u) { cls:=.type "list",data:=.seq i.toArray n }={ cls:=.type "list",data:=.seq (i.set j u).toArray n }:=by
 simp [Obj.mapSeq]
theorem Inv.lst {pins:List (Zh×Obj)}{σ:St}{H:Hp}{s:Zf}{p:Zh}{xs:List V} (I:Inv X pins σ H s) (h:H p=Za (.lst xs)) :
  ∃(i:List Ze) (n:Nat),Vals xs i/\s.heap.get? p=Za { cls:=.type "list",data:=.seq i.toArray n }/\xs.length<=sizeLine:=by
 nofun;obtain⟨z,i,n,r,e⟩:=I.hok p _ h;ac_rfl;exact⟨i,n,r,e,z⟩
theorem Inv.lstUpd {pins:List (Zh×Obj)}{σ:St}{H:Hp}{s:Zf}{p:Zh}{xs ys:List V}{i its':List Ze}{n a:Nat}{f:Obj->Obj} (I:Inv X pins σ H s) (h:H p=Za (.lst xs))
  (j:s.heap.get? p=Za { cls:=.type "list",data:=.seq i.toArray n }) (c:f { cls:=.type "list",data:=.seq i.toArray n }={ cls:=.type "list",data:=.seq its'.toArray a }) (r:Vals ys its') (g:ys.length<=sizeLine) (t:Nat) :
  Inv X pins σ (upd H p (.lst ys)) { s with heap:=s.heap.update p f,toks:=t }:=by
 have e:(s.heap.update p f).get? p=Za { cls:=.type "list",data:=.seq its'.toArray a }:=by
  rw[Go f j (by rw[c]<;>rfl),c]
 refine I.write (x:=p) (e:=p) (by rw[h];trivial) (.inl rfl) (λb u d q=>(Dg _ _ (Ne.symm d)).trans q) ⟨_,e⟩ ?_;exact⟨g,its',a,r,e⟩
abbrev z8l:V->V->V->Hp->(Hp->Prop)->Prop:=λo i v H Q=>∃p x k j,o=.ref p/\i=.int k/\H p=Za (.lst x)/\ixN x.length k=Za j/\Q (upd H p (.lst (x.set j v)))
theorem zz5:PSet X z8l:=by
 intro pins s σ H o i v E G u Q I y x A h;nofun;obtain⟨p,B,k,j,rfl,rfl,m,C,q⟩:=h;ac_rfl;cases y;nofun;obtain⟨t,rfl⟩:=x;obtain⟨a,n,r,e,z⟩:=I.lst m;obtain⟨b,D,f,g⟩:=zw3 C;ac_rfl;have c:=r.length;have F:=zpn;have l:Inv X pins σ (upd H p (.lst (B.set j v))) { s with heap:=s.heap.update p (Obj.mapSeq (·.setIfInBounds j u)) } :=
  I.lstUpd m e (zs0 a n j u) (r.set A j) (by rw[Bq];exact z) s.toks
 by_cases w:0<=k
 ·have d:k.toNat=j:=by
   rw[seqIndex_of w g] at b;exact sI b
  exact PySem.W.ki_setAt e w #v[] (by rw[An,<-c];exact g) (by rw[d];exact⟨_,l,q⟩)
 ·have d:(k+(a.toArray.size:Int)).toNat=j:=by
   rw[seqIndex_neg #v[] f] at b;rw[An,<-c];exact sI b
  exact PySem.W.ki_setBack e #v[] (by rw[An,<-c];exact f) #v[] (by rw[d];exact⟨_,l,q⟩)
theorem zkt (lo a:Option Int) (n:Nat):(sliceBounds lo a Zb n).1=((HT.sIx n 0 lo:Nat):Int)/\(sliceBounds lo a Zb n).2.1=((HT.sIx n n a:Nat):Int)/\(sliceBounds lo a Zb n).2.2=1:=by
 refine⟨?_,?_,rfl⟩
 ·cases lo with
  |none=>simp [sliceBounds,HT.sIx]
  | some i =>
   simp only [sliceBounds,HT.sIx,Option.getD_none,show (1:Int) > 0 by decide,Fm];by_cases h:i<0
   ·simp only [h,Fm]<;>symm
   ·simp only [h,Gd]<;>symm
 ·cases a with
  |none=>simp [sliceBounds,HT.sIx]
  | some i =>
   simp only [sliceBounds,HT.sIx,Option.getD_none,show (1:Int) > 0 by decide,Fm];by_cases h:i<0
   ·simp only [h,Fm]<;>symm
   ·simp only [h,Gd]<;>symm
theorem zjg (i:List Ze)(lo h:Option Int):slicePick i.toArray lo h Zb=((i.drop (HT.sIx i.length 0 lo)).take (HT.sIx i.length i.length h-HT.sIx i.length 0 lo)).toArray:=by
 obtain⟨c,a,b⟩:=zkt lo h i.toArray.size;unfold slicePick;rw[c,a,b];simp only [sliceRange_one,pick_run,An]<;>rfl
abbrev rSlL (K:Zg):V->Option Int->Option Int->Hp->VK->Prop:=λx l h H Q=>∃a b,x=.ref a/\SqL K H a b/\∀p,H p=Zb->Q (.ref p) (upd H p (.lst (cutV b l h)))
theorem z50:SlR X (rSlL X.K):=by
 intro pins s σ H x v t w l e u Q I n k p g h;obtain⟨a,c,rfl,j,q⟩:=h;cases n;obtain⟨i,r,f,m⟩:=I.list j;have d:=r.length;refine⟨"list",_,slot_list_getitem.lookup,f.isList.typeIs,?_⟩;refine wpAny_getItem_list_slice f.isList k p g .none (by simp) ?_ (by rw[An]<;>symm);rw[zjg,<-d];refine⟨.ref s.heap.objs.size,_,I.laid (t':=s.toks) (o:=.lst (cutV c l e)) (λb y q=>Ac _ q) (Af _) ?_,rfl,q _ (I.hok.fresh (Af _))⟩;exact⟨Ci (zhd c l e) m,_,0,(r.drop (HT.sIx c.length 0 l)).take (HT.sIx c.length c.length e-HT.sIx c.length 0 l),Aq _ rfl⟩
abbrev zht:V->Bool
 |.non=>Zd
 |.bl _=>Zd
 |.int _=>Zd
 |.str _=>Zd
 |_=>Zc
abbrev eqV:V->V->Bool
 |.non,.non=>Zd
 |.bl a,.bl b=>a==b
 |.bl a,.int b=>(if a then 1 else 0)==b
 |.int a,.bl b=>a==(if b then 1 else 0)
 |.int a,.int b=>a==b
 |.str a,.str b=>a==b
 |_,_=>Zc
theorem ybt {A:Around}{s:Zf}{y x:V}{u v:Ze} (d:RelV y u) (r:RelV x v) (e:zht y=Zd) (f:zht x=Zd):SeqAt.EqAt A s u v (eqV y x):=by
 cases y with
 | non =>
  cases d;cases x with
  |non=>cases r;exact SeqAt.EqAt.same _
  |bl b=>cases r;exact SeqAt.EqAt.none_bool b
  |int b=>obtain⟨t,rfl⟩:=r;exact SeqAt.EqAt.none_int b t
  |str b=>obtain⟨t,rfl⟩:=r;exact SeqAt.EqAt.none_str b t
  |_=>exact absurd (show Zc=Zd from f) As
 | bl a =>
  cases d;cases x with
  |non=>cases r;exact SeqAt.EqAt.bool_none a
  |bl b=>cases r;exact SeqAt.EqAt.bool_bool a b
  |int b=>obtain⟨t,rfl⟩:=r;exact SeqAt.EqAt.bool_int a b t
  |str b=>obtain⟨t,rfl⟩:=r;exact SeqAt.EqAt.bool_str a b t
  |_=>exact absurd (show Zc=Zd from f) As
 | int a =>
  obtain⟨c,rfl⟩:=d;cases x with
  |non=>cases r;exact SeqAt.EqAt.int_none a c
  |bl b=>cases r;exact SeqAt.EqAt.int_bool a c b
  |int b=>obtain⟨t,rfl⟩:=r;exact SeqAt.EqAt.int_int a c b t
  |str b=>obtain⟨t,rfl⟩:=r;exact SeqAt.EqAt.int_str a c b t
  |_=>exact absurd (show Zc=Zd from f) As
 | str a =>
  obtain⟨c,rfl⟩:=d;cases x with
  |non=>cases r;exact SeqAt.EqAt.str_none a c
  |bl b=>cases r;exact SeqAt.EqAt.str_bool a c b
  |int b=>obtain⟨t,rfl⟩:=r;exact SeqAt.EqAt.str_int a c b t
  |str b=>obtain⟨t,rfl⟩:=r;exact SeqAt.EqAt.str_str a c b t
  |_=>exact absurd (show Zc=Zd from f) As
 |_=>exact absurd (show Zc=Zd from e) As
abbrev eqU (x:V) (u:Ze):Bool:=match u with
 |.none=>eqV .non x
 |.bool b=>eqV (.bl b) x
 |.int i _=>eqV (.int i) x
 |.str z _=>eqV (.str z) x
 |_=>Zc
theorem z2x {x y:V}{u:Ze}(r:RelV y u)(f:zht y=Zd):eqU x u=eqV y x:=by
 cases y with
 |non=>cases r;rfl
 |bl b=>cases r;rfl
 |int i=>obtain⟨t,rfl⟩:=r;rfl
 |str z=>obtain⟨t,rfl⟩:=r;rfl
 |_=>exact absurd (show Zc=Zd from f) As
theorem zgz {x:V}:∀{a:List V}{b:List Ze},Vals a b->a.all zht=Zd->b.any (eqU x)=a.any λy=>eqV y x
 |_,_,.nil,_=>rfl
 | y::a,u::b,.cons r t,f=>by
  rw[Cb,Ae] at f;rw[Gc,Gc,z2x r f.1,zgz t f.2]
theorem zew {A:Around}{s:Zf}{x:V}{v:Ze} (c:RelV x v) (d:zht x=Zd):∀{b:List V}{a:List Ze},Vals b a->b.all zht=Zd->∀u∈a,SeqAt.EqAt A s u v (eqU x u)
 |_,_,.nil,_=>λu h=>by cases h
 | y::b,u::a,.cons r t,f=>λe h=>by
  rw[Cb,Ae] at f;rcases Am.mp h with rfl|h
  ·rw[z2x r f.1];exact ybt r c f.1 d
  ·exact zew c d t f.2 e h
abbrev inV (x:V) (xs:List V):Bool:=xs.any λy=>eqV y x
abbrev rIn (K:Zg) (n:Bool):R2:=λx y H Q=>∃p a,y=.ref p/\(SqL K H p a\/SqT K H p a)/\zht x=Zd/\a.all zht=Zd/\Q (.bl (if n then !inV x a else inV x a)) H
theorem zms:OpR X (compareOp .In) (rIn X.K Zc):=by
 intro pins s σ H x y v u Q I d g h;obtain⟨p,j,rfl,a,f,fs,q⟩:=h;cases g;rcases a with a|a
 ·obtain⟨i,r,b,e⟩:=I.list a;refine SeqAt.in_listAt (eqU x) b.isList (λw c=>zew d f r fs w (by simpa using c)) ⟨.bl _,H,I,rfl,?_⟩;rw[show i.toArray.any (eqU x)=i.any (eqU x) by simp,zgz r fs];exact q
 ·obtain⟨i,r,b,e⟩:=I.tuple a;refine SeqAt.in_tupleAt (eqU x) b (λw c=>zew d f r fs w (by simpa using c)) ⟨.bl _,H,I,rfl,?_⟩;rw[show i.toArray.any (eqU x)=i.any (eqU x) by simp,zgz r fs];exact q
theorem zfz:OpR X (compareOp .NotIn) (rIn X.K Zd):=by
 intro pins s σ H x y v u Q I d g h;obtain⟨p,j,rfl,a,f,fs,q⟩:=h;cases g;rcases a with a|a
 ·obtain⟨i,r,b,e⟩:=I.list a;refine SeqAt.notIn_listAt (eqU x) b.isList (λw c=>zew d f r fs w (by simpa using c)) ⟨.bl _,H,I,rfl,?_⟩;rw[show i.toArray.any (eqU x)=i.any (eqU x) by simp,zgz r fs];exact q
 ·obtain⟨i,r,b,e⟩:=I.tuple a;refine SeqAt.notIn_tupleAt (eqU x) b (λw c=>zew d f r fs w (by simpa using c)) ⟨.bl _,H,I,rfl,?_⟩;rw[show i.toArray.any (eqU x)=i.any (eqU x) by simp,zgz r fs];exact q
theorem zlv:zeb X (.builtin "len") (λx H Q=>∃p y,x=[.ref p]/\(SqL X.K H p y\/SqT X.K H p y)/\Q (.int y.length) H):=by
 intro pins s σ H x g Q I r h;obtain⟨p,y,rfl,b,q⟩:=h;obtain⟨u,rfl,f⟩:=vals1 r;cases f;have j:=zpn;rcases b with b|b
 ·obtain⟨i,c, d,e⟩:=I.list b;have a:=c.length;exact Calls.call_len_list d.isList (by simp only [An]<;>symm) ⟨.int y.length,H,I.tok _,⟨s.toks+1,by rw[An,a]⟩,q⟩
 ·obtain⟨i,c, d,e⟩:=I.tuple b;have a:=c.length;exact len_tuple d (by simp only [An]<;>symm) ⟨.int y.length,H,I.tok _,⟨s.toks+1,by rw[An,a]⟩,q⟩
theorem zjj:zeb X (.type "tuple") (λx H Q=>∃p y,x=[.ref p]/\((SqL X.K H p y/\∀l,H l=Zb->Q (.ref l) (upd H l (.tup y)))\/(SqT X.K H p y/\Q (.ref p) H))):=by
 intro pins s σ H x v Q I r h;obtain⟨p,y,rfl,h⟩:=h;obtain⟨u,rfl,t⟩:=vals1 r;cases t;rcases h with⟨d,q⟩|⟨d,q⟩
 ·obtain ⟨i,c, f,j⟩:=I.list d;have k:=c.length;refine call_tuple_list f.isList (λa m=>?_) (by simp only [An]<;>symm);have g:Inv X pins σ H { s with heap:=a }:=I.kept (t':=s.toks) m;have n:Inv X pins σ (upd H a.objs.size (.tup y)) { s with heap:=a.push { cls:=.type "tuple",data:=.seq i.toArray } } :=
   g.laid (t':=s.toks) (λb o e=>Ac _ e) (Af _) (show zbr X.prog X.w _ _ _ (.tup y) from ⟨j,i,c,zkh.new _ _⟩)
  exact⟨.ref a.objs.size,_,n,rfl,q _ (g.hok.fresh (Af _))⟩
 ·obtain⟨i,c, f,j⟩:=I.tuple d;exact call_tuple_same f ⟨.ref p,H,I,rfl,q⟩
abbrev tyV (K:Zg) (T:String) (x:V) (H:Hp):Prop:=match x with
 |.str _=>T = "str"
 |.int _=>T = "int"
 | .ref p=>(T = "list"/\∃a,SqL K H p a)\/(T = "tuple"/\∃o,K.lookup p=Za o/\o.cls=.type "tuple"/\o.dict=Zb) \/
  (T = "dict"/\((∃kvs,H p=Za (.dK kvs))\/∃kvs,H p=Za (.dT kvs)))\/(T = "set"/\∃S n,H p=Za (.set S n))
 |_=>False
theorem z2m {pins:List (Zh×Obj)}{σ:St}{H:Hp}{s:Zf}{T:String}{x:V}{v:Ze} (I:Inv X pins σ H s) (r:RelV x v) (d:tyV X.K T x H) :
  s.TypeIs v T/\∀a,v=.ref a->∃k,s.heap.get? a=Za k/\k.dict=Zb:=by
 cases x with
 | str z =>
  obtain⟨t,rfl⟩:=r;cases (show T = "str" from d);exact⟨typeIs_str s z t,λ_ e=>nomatch e⟩
 | int i =>
  obtain⟨t,rfl⟩:=r;cases (show T = "int" from d);exact⟨typeIs_int s i t,λ_ e=>nomatch e⟩
 | ref p =>
  cases r;rcases d with⟨rfl,u,l⟩|⟨rfl,o,h,q,f⟩|⟨rfl,h⟩|⟨rfl,S,n,h⟩
  ·obtain ⟨m,_,j,_⟩:=I.list l
   refine⟨j.isList.typeIs,λa e=>?_⟩;cases e;obtain⟨o,n,e,c,f,_⟩:=j;exact⟨o,e,f⟩
  ·refine ⟨⟨o,I.kIn p o h,q⟩,λa e => ?_⟩
   cases e;exact⟨o,I.kIn _ o h,f⟩
  ·have z:∃o,s.heap.get? p=Za o/\o.ExactDict:=by
    rcases h with⟨kvs,h⟩|⟨kvs,h⟩
    ·obtain ⟨_,_,_,_,o,_,_,e,b,_⟩:=I.hok p _ h
     exact⟨o,e,b⟩
    ·obtain ⟨_,_,_,_,o,_,_,e,b,_⟩:=I.hok p _ h
     exact⟨o,e,b⟩
   obtain⟨o,e,b⟩:=z;refine⟨⟨o,e,b.1⟩,λa g=>?_⟩;cases g;exact⟨o,e,b.2.1⟩
  ·obtain ⟨o,_,_,_,e,b,_⟩:=I.hok p _ h
   refine⟨⟨o,e,b.1⟩,λa g=>?_⟩;cases g;exact⟨o,e,b.2.1⟩
 |_=>exact False.elim d
abbrev tBM0 (K:Zg) (T:String) (r:V->List V->Hp->VK->Prop) (t:TE):TE:=λσ H Q=>t σ H λx a=>tyV K T x a/\r x [] a Q
abbrev tBM (K:Zg) (T:String) (r:V->List V->Hp->VK->Prop) (d:TE) (t:TA):TE:=λσ H Q=>d σ H λx a=>tyV K T x a/\t σ a λc b=>r x c b Q
variable {o e:Zi}{es:List Zi}{to:TE}{t:TA}{name:Str}{apos cpos:Pos}{T id:String}{r:V->List V->Hp->VK->Prop}
theorem yaf (p:PlainAttrs T) (slot:Slot T name id) (c:typeOf (.builtin id)=pure (.type "method_descriptor")) (j:MtR X id r) (k:PE X o to)
  (a:attributeBase o name X.env (eval o X.env)=eval o X.env:=by rfl) (b:(apos.endLine==cpos.line)=Zd:=by rfl):PE X (.Call (.Attribute o name apos) [] [] cpos) (tBM0 X.K T r to):=by
 intro pins s σ H Q I h;refine wpAny_Call_method0_late a b (thn (k pins s σ H _ I h) λv i ⟨x,f,d,e,t,q⟩=>?_);obtain⟨l,g⟩:=z2m d e t;exact⟨T,id,p,slot,c,l,g,Calls.callWith_builtin rfl (PySem.evalArgs_none (j pins i σ f x [] v [] Q d e .nil q))⟩
theorem zs2 (p:PlainAttrs T) (slot:Slot T name id) (f:typeOf (.builtin id)=pure (.type "method_descriptor")) (C:MtR X id r) (J:PE X o to) (m:PA X (e::es) t)
  (c:attributeBase o name X.env (eval o X.env)=eval o X.env:=by rfl)
  (d:((backTo cpos (starEach (e::es) X.env)).all (λx=>!x.1)&&(backToKw cpos (keywordEach [] X.env)).all (λx=>x.1.isSome)
   && decide ((e::es).length+([]:List Keyword).length+(if ([]:List Keyword).isEmpty then 0 else 1)<30))=Zd:=by rfl)
  (b:(apos.endLine==cpos.line)=Zd:=by rfl) (n:starEach (e::es) X.env=(Zc,eval e X.env)::starEach es X.env:=by rfl) (a:(backTo cpos (starEach es X.env)).any (·.1)=Zc:=by rfl) :
  PE X (.Call (.Attribute o name apos) (e::es) [] cpos) (tBM X.K T r to t):=by
 intro pins s σ H Q I h;refine wpAny_Call_method_late c d b rfl (thn (J pins s σ H _ I h) λv l ⟨x,k,i,j,E,B⟩=>?_);obtain⟨z,u⟩:=z2m i j E;refine⟨T,id,p,slot,f,z,u,?_⟩;have g:=m cpos pins l σ k _ i B;rw[n] at g ⊢;refine Calls.callWith_builtin (by show (Zc||(backTo cpos (starEach es X.env)).any (·.1))=Zc;rw[a]<;>rfl) (Calls.evalArgs_plain ?_);exact thn g λy F ⟨w,D,A,q,G⟩=>C pins F σ D x w v y Q A j q G
end
abbrev MtM (X:Cx) (id:String) (r:V->List V->Hp->VK->Prop):Prop :=
 ∀(pins:List (Zh×Obj)) (s:Zf) (σ:St) (H:Hp) (x:V) (a:List V) (v:Ze) (u:List Ze) (Q:VK),Inv X pins σ H s->RelV x v->Vals a u->r x a H Q ->
  wpAny #v[2,7] X.A (call (.builtin id) (v::u)) (EP X pins σ Q) X.xe s
theorem Vals.one:∀{x:V}{a:List Ze},Vals [x] a->∃u,a=[u]/\RelV x u
 |_,_,.cons r .nil=>⟨_,rfl,r⟩
theorem Vals.rep {xs:List V}{us:List Ze} (h:Vals xs us):∀k:Nat,Vals (List.replicate k xs).flatten (List.replicate k us).flatten
 |0=>.nil
 | k+1=>by
  rw[Ch,Ch,Ed,Ed];exact Vals.append h (Vals.rep h k)
theorem zm6 (i:List Ze):∀(k:Nat) (a:List Ze),
  List.foldl (λc x=>c++x) a.toArray (List.replicate k i.toArray)=(a++(List.replicate k i).flatten).toArray
 |0,a=>by simp
 | k+1,a=>by
  have e:a.toArray++i.toArray=(a++i).toArray:=by simp
  have b:(a++i)++(List.replicate k i).flatten=a++(List.replicate (k+1) i).flatten:=by
   rw[Ch,Ed,Bc]
  rw[<-b,<-zm6 i k (a++i),<-e,Ch,List.foldl_cons]
section
variable {X:Cx}{pins:List (Zh × Obj)}{σ:St}{H:Hp}{s:Zf}{l b:Zh}{xs ys zs:List V}
theorem Inv.lset {i its':List Ze}{n:Nat}{f:Array Ze->Array Ze}{t':Nat} (I:Inv X pins σ H s) (h:H l=Za (.lst xs))
  (e:s.heap.get? l=Za { cls:=.type "list",data:=.seq i.toArray n }) (b:f i.toArray=its'.toArray) (d:Vals ys its') (g:ys.length<=sizeLine) :
  Inv X pins σ (upd H l (.lst ys)) { s with heap:=s.heap.update l (Obj.mapSeq f),toks:=t' }:=by
 have q:=PySem.IsL.update e f;rw[b] at q;refine I.write (x:=l) (e:=l) (by rw[h];exact trivial) (.inl rfl) (λj u a c=>(Dg s.heap (Obj.mapSeq f) (Ne.symm a)).trans c) ⟨_,q⟩ ?_;exact⟨g,its',_,d,q⟩
theorem Inv.lnew {i:List Ze}{t':Nat} (I:Inv X pins σ H s) (a:Vals ys i) (h:ys.length<=sizeLine) :
  Inv X pins σ (upd H s.heap.objs.size (.lst ys)) { s with heap:=s.heap.push { cls:=.type "list",data:=.seq i.toArray },toks:=t' } :=
 I.laid (λ_ _ q=>Ac _ q) (Af _) ⟨h,i,0,a,Aq _ rfl⟩
theorem Inv.fresh (I:Inv X pins σ H s):H s.heap.objs.size=Zb:=I.hok.fresh (Af _)
theorem Inv.lstM (I:Inv X pins σ H s)(h:H l=Za (.lst xs)):xs.length<=sizeLine/\∃(i:List Ze) (n:Nat),Vals xs i/\xs.length=i.length/\s.heap.get? l=Za { cls:=.type "list",data:=.seq i.toArray n }:=by
 nofun;obtain⟨z,i,n,r,e⟩:=I.hok l _ h;ac_rfl;exact⟨z,i,n,r,r.length,e⟩
theorem zi2 {n:Nat}(h:n<=sizeLine):Builtin.List.listTooLong n=Zc:=by
 unfold Builtin.List.listTooLong;exact Aw #v[]
end
section
variable {X:Cx}
abbrev znf:V->List V->Hp->VK->Prop:=λx v H Q=>∃l a y,x=.ref l/\v=[y]/\H l=Za (.lst a)/\a.length<sizeLine/\Q .non (upd H l (.lst (a++[y])))
theorem zgp:MtM X "list.append" znf:=by
 intro pins s σ H x g v j Q I d c h;obtain⟨l,k,y,rfl,rfl,a,m,q⟩:=h;cases d;obtain⟨u,rfl,b⟩:=c.one;obtain⟨z,i,n,r,f,e⟩:=I.lstM a;refine Gp F.slot_list_append ⟨_,e,rfl⟩ F.entry_list_append (F.args_list_append_2 _ _) (PySem.list_append l i.toArray n u (by rw[An];symm)) ⟨e,?_⟩;refine⟨.non,_,I.lset (its':=i++[u]) a e (by simp) (r.append (.cons b .nil)) ?_,rfl,q⟩;rw[Bh,List.length_singleton];symm
abbrev z6f:V->List V->Hp->VK->Prop:=λx v H Q=>∃l b a z,x=.ref l/\v=[.ref b]/\H l=Za (.lst a)/\H b=Za (.lst z)/\a.length+z.length<=sizeLine/\Q .non (upd H l (.lst (a++z)))
theorem z82:MtM X "list.extend" z6f:=by
 intro pins s σ H x B v C Q I t p h;nofun;obtain⟨l,b,E,D,rfl,rfl,f,m,G,q⟩:=h;ac_rfl;cases t;obtain⟨u,rfl,w⟩:=p.one;cases w;nofun;obtain⟨z,a,n,r,y,e⟩:=I.lstM f;obtain⟨A,i,o,k,j,g⟩:=I.lstM m;ac_rfl;have d:a.toArray.size+i.toArray.size<=sizeLine:=by rw[An,An];symm
 have c:¬ (!a.toArray.isEmpty&&Builtin.List.listTooLong (a.toArray.size+i.toArray.size))=Zd:=by
  rw[zi2 d,Gv];exact As
 refine Gp F.slot_list_extend ⟨_,e,rfl⟩ F.entry_list_extend (F.args_list_extend_2 _ _)
  (AutoSeq1.list_extend_list_list_0 l a.toArray n b i.toArray o c (by rw[An];symm) #v[]) ⟨e,g,?_⟩
 refine⟨.non,_,I.lset (its':=a++i) f e (by simp) (r.append k) ?_,rfl,q⟩;rw[Bh];symm
abbrev rCat:R2:=λx y H Q=>∃l b a z,x=.ref l/\y=.ref b/\H l=Za (.lst a)/\H b=Za (.lst z)/\a.length+z.length<=sizeLine/\∀p,H p=Zb->Q (.ref p) (upd H p (.lst (a++z)))
theorem z3b:OpR X (binaryOp .Add) rCat:=by
 intro pins s σ H x y v u Q I d o h;nofun;obtain⟨l,b,C,t,rfl,rfl,f,j,B,q⟩:=h;ac_rfl;cases d;cases o;nofun;obtain⟨z,a,n,r,w,e⟩:=I.lstM f;obtain⟨p,i,A,g,k,c⟩:=I.lstM j;ac_rfl;refine PySem.P.add_list e c ?_ (by rw[An,An];symm);have m:a.toArray++i.toArray=(a++i).toArray:=by simp
 rw[m];exact⟨.ref _,_,I.lnew (t':=s.toks) (r.append g) (by rw[Bh];symm),rfl,q _ I.fresh⟩
abbrev rRep:R2:=λx y H Q=>∃l k a,x=.ref l/\y=.int k/\H l=Za (.lst a)/\-(2^63)<=k/\k<2^63/\a.length*k.toNat<=sizeLine /\
 ∀p,H p=Zb->Q (.ref p) (upd H p (.lst (List.replicate k.toNat a).flatten))
theorem z5a {α:Type}(xs:List α)(k:Nat):(List.replicate k xs).flatten.length=k*xs.length:=by
 induction k with
 |zero=>simp
 |succ k i=>rw[Ch,Ed,Bh,i,Nat.succ_mul,Nat.add_comm]
theorem z8c:OpR X (binaryOp .Mult) rRep:=by
 intro pins s σ H x y v u Q I D C h;nofun;obtain⟨l,k,L,rfl,rfl,E,B,A,p,q⟩:=h;ac_rfl;cases D;nofun;obtain⟨t,rfl⟩:=C;obtain⟨z,i,n,r,w,e⟩:=I.lstM E;ac_rfl;have g:i.toArray.size*k.toNat<=sizeLine:=by rw[An,<-w];exact p
 have f:¬ i.toArray.size*k.toNat > (2^63-1)/8:=by
  have:(sizeLine:Nat)<=(2^63-1)/8:=by decide
  symm
 have d:¬ (!Builtin.List.listFitsIndex k)=Zd:=by
  rw[fitsIndex_both B A];exact As
 have b:¬ Builtin.List.listTooLong (i.toArray.size*k.toNat)=Zd:=by
  rw[zi2 g];exact As
 have c:List.foldl (λo j=>o++j) #[] (List.replicate (if i.toArray.isEmpty=Zd then 0 else k.toNat) i.toArray)=(List.replicate k.toNat i).flatten.toArray:=by
  have G:∀m:Nat,List.foldl (λo j=>o++j) #[] (List.replicate m i.toArray)=(List.replicate m i).flatten.toArray:=λm=>by
   have:=zm6 i m [];rw[List.nil_append] at this;exact this
  rw[G];cases i with
  |nil=>simp
  |cons a K=>rw[if_neg (by simp)]
 refine wpAny_binaryOp_repeat_ref (T := "list") (U := "int") #v[0,9] ⟨_,e,rfl⟩ (λJ=>typeIs_int J k t) noFill_list_mul F.fills_int_mul F.slot_int_rmul repeat_list F.slot_int_index.lookup
  (Gp F.slot_int_rmul (typeIs_int s k t) F.entry_int_rmul (F.args_int_rmul_2 _ _) (int___rmul___int_list k t l i.toArray n)
   ⟨e,rfl,⟨_,e,rfl⟩,Gp F.slot_list_mul ⟨_,e,rfl⟩ F.entry_list_mul (F.args_list_mul_2 _ _) (AutoListH.list___mul___list_int_3 l i.toArray n k t d f b) ⟨e,?_⟩⟩)
 rw[c];exact⟨.ref _,_,I.lnew (t':=s.toks) (r.rep k.toNat) (by rw[z5a,Nat.mul_comm];exact p),rfl,q _ I.fresh⟩
end
section
variable {prog:Program}{w:World}{A:Around}{E:Ze->Zf->Prop}{s:Zf}
end
section
variable {X:Cx}
end
end L2
namespace Att
open PySem PySem.W PySem.Calls PyProof.Rows
theorem zgr {P:Params}{h:Heap}:∀(c:List Int) (v:List Ze),WellAll P h v (c.map WData.int)->IntsAre v c:=by
 intro c
 induction c with
 | nil =>
  intro v w;rw[List.map_nil] at w;cases w;exact .nil
 | cons n c i =>
  intro v w;rw[Av] at w;cases w with
  | cons a b =>
   cases a;exact .cons _ _ (i _ b)
theorem zwf {l:OpenLaw}{n:Nat} (z:l.most=Za n) {P:Params}{h:Heap}{args:List WData}{c:List Ze}
  (e:l.row.toRowW.claim.pre args=Zd) (m:WellAll P h c args) :
  ∃a o b,c=[Ze.ref a]/\args=[WData.list (b.map WData.int)]/\h.get? a=Za { cls:=.type "list",data:=.seq o.toArray }/\IntsAre o b/\b.length<=n:=by
 have k:WShape.hasAll [] args [.list .int]=Zd:=(pre_splitW e).1;have p:l.pre.holds [] { args:=args }=Zd:=(pre_splitW e).2;obtain ⟨d,r,rfl,u,t⟩:=hasAllW_cons k;obtain rfl:=hasAllW_nil t;obtain ⟨B,rfl,s⟩:=hasW_list u;obtain ⟨b,rfl⟩:=items_int s;have g:b.length<=n:=by
  unfold OpenLaw.pre at p;have i:(WTm.not (.lt (.lit (.int (n:Int))) (.len (.arg 0)))).holds [] { args:=[.list (b.map .int)] }=Zd:=by
   have i:=(holds_andW p).1;rw[z] at i;exact i
  have j:=condW_of i (w_not (w_lt w_lit (w_len_list (w_arg rfl))));rw[Ab] at j;refine Nat.le_of_not_lt λq=>?_;have y:(n:Int)<((b.length:Nat):Int):=by symm
  first
   |(rw[Aj y] at j;exact absurd j #v[0,9])
   |(simp at j;symm)
 cases m with
 | cons w x =>
  cases x;cases w with
  |list A f=>exact⟨_,_,b,rfl,rfl,A,zgr b _ f,g⟩
theorem zxq (l:OpenLaw)(args:List WData):l.row.toRowW.claim.post args (.bool Zd) args=Zd :=
 postW_of (r:=l.row.toRowW) (X:=(Zd==Zd))
  (show WShape.has [] (.bool Zd) .bool=Zd by first|rfl|decide|simp [WShape.has,WShape.arms,WShape.armsAll])
  (show (WTm.eq .res (.lit (.bool Zd))).value [] { args:=args,res:=Za (.bool Zd),after:=args }=Za (.bool (Zd==Zd)) from w_eq_bool (w_res rfl) w_lit) rfl
theorem attach_call {l:OpenLaw}{n:Nat}{q:Program}{b:List Str}{X:(Str->Option Ze)->Heap->Prop}{D:World->Heap->Prop}{d:DefRec}
  (O:l.most=Za n) (A:d.params.defaults=[])
  (call:∀(w:World) (s₀ s:Zf) (m y:Str->Option Ze) (c:Zh) (o:Obj) (z k doc:Ze) (a:Zh) (v:List Ze) (j:List Int),
   Ground q b [] X w s₀ m y s.heap->D w s.heap ->
   s.heap.get? c=Za o->o.data=.func (docDef d.name d.params d.body d.scope z k doc)->s.heap.CodeRec k d.name->m d.name=Za (.ref c) ->
   s.heap.get? a=Za { cls:=.type "list",data:=.seq v.toArray }->IntsAre v j->j.length<=n->s.gens=#[] ->
   codeAny (model l.prog w) callerA (.call (.ref c) ⟨[.ref a],[]⟩) (λr p=>r=.ok (.ret (.bool Zd))/\OldK s.heap p.heap/\p.os=s.os/\AllBare p.gens) s) :
  WalkO q b X D l.row.toRowW d [] (λf v=>PySem.call f v):=by
 intro w s₀ s m y G Y c o z k doc I kV R L t C u M args B S e E Q x P;obtain rfl:I=.none:=Dflts.none C A;obtain rfl:kV=.none:=Dflts.noKw C;obtain⟨a,v,j,rfl,rfl,g,h,i⟩:=zwf O e x;refine enter_call (Hb (call w s₀ s m y c o z k doc a v j G Y R (fd_plain L) t u g h i M) λr p J=>?_);obtain⟨rfl,K,F,H⟩:=J;exact⟨.inl ⟨.bool Zd,.bool Zd,[],rfl,λ_=>rfl,.bool Zd,zxq l _,λ_=>⟨List.Pairwise.nil,λ_ N=>(nomatch N)⟩⟩,K,F,H⟩
section
variable {prog:Program}{w:World}{A:Around}{E:Ze->Zf->Prop}{s:Zf}{K:Frag}
end
end Att
namespace L2
open PySem PySem.Spec PyProof.Rows
theorem zna:∀{v:List Ze}{a:List Int},IntsAre v a->Vals (a.map V.int) v
 |_,_,.nil=>.nil
 |_,_,.cons n t h=>.cons ⟨t,rfl⟩ (zna h)
abbrev zft (s:Stmt):Arguments:=match s with
 |.FunctionDef _ a _ _ _ _ _ _ _ _=>a
 |_=>{ posonlyargs:=[],args:=[],vararg:=Zb,kwonlyargs:=[],kw_defaults:=[],kwarg:=Zb,defaults:=[] }
abbrev zbh (s:Stmt):List Stmt:=match s with
 |.FunctionDef _ _ b _ _ _ _ _ _ _=>b
 |_=>[]
abbrev zad (s:Stmt):Scope:=match s with
 |.FunctionDef _ _ _ _ _ _ a _ _ _=>a
 |_=>{ kind:=.function,names:=[],isGenerator:=Zc,isCoroutine:=Zc }
noncomputable abbrev CX0:CXT:=λ_ _ _ _ _ _=>False
noncomputable abbrev E0:XK:=λ_ _ _=>False
theorem z36 {X:Cx}:zri CX0 X E0:=λ_ _ _ _ _ _ _ h=>h.elim
structure Fun (K:Zg) (x qual:Str) (st:Stmt) (f:Zh) (fd:FuncData):Prop where
 ex:∃(oc:Ze) (od:Option Zh) (kV doc pm:Ze) (an:Option Zh) (cdv ct:Ze) (osl:Array (Option Ze)),
  fd=PySem.W.fnOf x qual (zft st) (zbh st) (zad st) .none kV doc pm an cdv ct/\K.lookup f=Za ⟨oc,od,.func fd,osl⟩/\PySem.W.codeIn K cdv qual=Zd
 kp:PySem.W.keepIn K (.ref f)=Zd
section
variable {P:Program}{w:World}{K:Zg}{mg:Str->Option Ze}{base:Heap}
theorem Fun.binds {x qual:Str}{st:Stmt}{f:Zh}{b:FuncData}{ps:List Str} (F:Fun K x qual st f b)
  (h:∀(kV doc p:Ze) (a:Option Zh) (cdv c:Ze) (u:List Ze),u.length=ps.length->bindArgs (PySem.W.fnOf x qual (zft st) (zbh st) (zad st) .none kV doc p a cdv c) ⟨u,[]⟩=pure (ps.zip u)):zfh K b ps []:=by
 obtain⟨o,e,kV,doc,p,a,cdv,c,osl,rfl,l,d⟩:=F.ex;exact .all (h kV doc p a cdv c)
theorem z2j {x qual:Str}{st:Stmt}{f:Zh}{o:Ze}{d b:Option Zh}{osl:Array (Option Ze)}{kV doc pm cdv a:Ze} (l:K.lookup f=Za ⟨o,d,.func (PySem.W.fnOf x qual (zft st) (zbh st) (zad st) .none kV doc pm b cdv a),osl⟩)
 (c:PySem.W.codeIn K cdv qual=Zd) (k:PySem.W.keepIn K (.ref f)=Zd):Fun K x qual st f (PySem.W.fnOf x qual (zft st) (zbh st) (zad st) .none kV doc pm b cdv a):=⟨⟨o,d,kV,doc,pm,b,cdv,a,osl,rfl,l,c⟩,k⟩
end
section
variable {X:Cx}
end
theorem iteF {A B:Prop}(h:B):if Zc=Zd then A else B:=by
 rw[if_neg As];exact h
theorem iteT {A B:Prop}(h:A):if Zd=Zd then A else B:=by
 rw[if_pos rfl];exact h
abbrev Same (H H':Hp):Prop:=∀b o,H b=Za o->H' b=Za o
theorem Same.refl (H:Hp):Same H H:=λ_ _ h=>h
theorem Same.trans {H d e:Hp}(a:Same H d)(b:Same d e):Same H e:=λc o h=>b c o (a c o h)
theorem Same.free {H H':Hp} (e:Same H H') {l:Zh} (h:H' l=Option.none):H l=Option.none:=by
 cases q:H l with
 |none=>rfl
 | some o =>
  rw[e l o q] at h;cases h
theorem Same.seq {K:Zg}{H H':Hp}{a:Zh}{xs:List V}(e:Same H H')(h:SqL K H a xs):SqL K H' a xs:=by
 rcases h with (h|⟨o,h⟩)|h
 ·exact .inl (.inl (e _ _ h))
 ·exact .inl (.inr ⟨o,e _ _ h⟩)
 ·exact .inr h
abbrev capSt (cap:List (Option Nat)) (σ:St):St:=cap.map λo=>match o with
 |some i=>(σ[i]?).getD Zb
 |none=>Zb
abbrev zhn (cap:List (Option Nat)) (Nc N:List Str) (scope:Scope):Bool :=
 decide (cap.length=Nc.length)&&(cap.zip Nc).all λp=>match p.1 with
  |some i=>decide (N[i]?=Za p.2)&&decide (scope.names.lookup p.2=Za NameKind.free)
  |none=>Zd
theorem zua {cap Nc N scope}(h:zhn cap Nc N scope=Zd):cap.length=Nc.length:=by
 unfold zhn at h;rw[Ae] at h;exact Ar h.1
theorem zum {cap:List (Option Nat)}{Nc N:List Str}{scope:Scope}(h:zhn cap Nc N scope=Zd){j i:Nat}{x:Str}(c:cap[j]?=Za (Za i))(a:Nc[j]?=Za x):N[i]?=Za x/\scope.names.lookup x=Za .free:=by
 unfold zhn at h;rw[Ae] at h;have b:(Za i,x)∈cap.zip Nc:=by
  refine Be (i:=j) ?_;rw[List.getElem?_zip_eq_some];exact⟨c,a⟩
 have q:=Bd.mp h.2 _ b;simp only [Ae,Dy] at q;exact q
abbrev zgj (scope:Scope) (out:Scope):Bool:=scope.names.all λp=>!(p.2==NameKind.free)||decide (out.names.lookup p.1=Za .cell)||decide (out.names.lookup p.1=Za .free)
theorem zfq {env:Env}:∀(names:List (Str × NameKind)) (f:List (Str × Zh)),(∀x,(x,NameKind.free)∈names->∃c,env.cells.lookup x=Za c)->(∀x c,f.lookup x=Za c->env.cells.lookup x=Za c) ->
    ∃g,(forIn names f fun (p:Str × NameKind) q=>if p.2 == NameKind.free then do let c <- cellOf env p.1;pure (ForInStep.yield ((p.1,c)::q)) else pure (ForInStep.yield q):Sem (List (Str × Zh)))=pure g /\
      (∀x c,g.lookup x=Za c->env.cells.lookup x=Za c)/\(∀x,(x,NameKind.free)∈names\/(∃c,f.lookup x=Za c)->∃c,g.lookup x=Za c)
  | [],f,_,l=>⟨f,by rw [Ex],l,fun x h=>by
      rcases h with h|h
      · cases h
      · exact h⟩
  | (n,k)::r,f,o,l=>by
    rw[Gi];by_cases s:(k == NameKind.free)=Zd
    · have w : k = .free := by simpa using s
      subst w;obtain ⟨c,t⟩:=o n At;have m : ∀x d,((n,c)::f).lookup x=Za d->env.cells.lookup x=Za d:=fun x d h=>by
        rw[Bj] at h;cases e:x == n with
        | true => rw [e] at h; obtain rfl := sI h; have : x = n := by simpa using e
                  rw[this];exact t
        |false=>rw[e] at h;exact l x d h
      obtain⟨g,e,a,b⟩:=zfq r ((n,c)::f) (λx h=>o x (Ag _ h)) m;refine⟨g,?_,a,λx h=>b x ?_⟩
      · rw [<- e]
        have i:cellOf env n=pure c:=by unfold cellOf;rw[t]
        simp only [beq_self_eq_true,Fm,i]
        rfl
      · have gen:∀y d,f.lookup y=Za d->∃u,((n,c)::f).lookup y=Za u:=fun y d v=>by
          rw[Bj];cases e:y == n with
          |true=>exact⟨_,rfl⟩
          |false=>exact⟨d,v⟩
        rcases h with h|⟨d,h⟩
        · rcases Am.mp h with h | h
          · injection h with h _
            subst h;exact .inr ⟨c,by rw[Bj];simp⟩
          · exact .inl h
        · exact .inr (gen x d h)
    · have j : (k == NameKind.free) = Zc := by simpa using s
      obtain⟨g,e,a,b⟩:=zfq r f (λx h=>o x (Ag _ h)) l;refine⟨g,?_,a,λx h=>b x ?_⟩
      · rw [<- e]
        simp only [j,Dh,Gd]
        rfl
      · rcases h with h | h
        · rcases Am.mp h with h | h
          · injection h with _ h
            subst h;simp at j
          · exact .inl h
        · exact .inr h
theorem zdh {env:Env}{scope:Scope} (h:∀x,(x,NameKind.free)∈scope.names->∃c,env.cells.lookup x=Za c) :
  ∃d,closureFor scope env=pure d/\(∀x c,d.lookup x=Za c->env.cells.lookup x=Za c)/\(∀x,(x,NameKind.free)∈scope.names->∃c,d.lookup x=Za c):=by
 nofun;obtain⟨d,e,a,b⟩:=zfq (env:=env) scope.names [] h (λx c f=>by simp at f);ac_rfl;refine⟨d,?_,a,λx f=>b x (.inl f)⟩;rw[closureFor];have g:=e;simp only [bind_assoc,pure_bind] at g ⊢;exact congrArg (λm=>m>>=λr=>pure r) e |>.trans (by rw[pure_bind])
abbrev zbf (X:Cx) (Nc:List Str) (scope:Scope) (c:List (Str×Zh)) (C:Zh) (s:Zf) (H:Hp) (fp:List Zh):Cx where
 prog:=X.prog
 w:=X.w
 K:=X.K
 mg:=X.mg
 base:=X.base
 A:=X.A
 N:=Nc
 s₀:=s
 H₀:=H
 env:=compEnvC scope c C X.env
 outer:=X.stack
 stack:=X.stack
 ex:=fp
 fn:=λx=>decide (scope.names.lookup x=Za NameKind.cell)
 calm:=X.calm
 pn:=[]
 xe:=λ_ _=>False
abbrev z3l:TT:=λσ H Q=>Q Zd H
abbrev PTs (X:Cx) (ifs:List Zi) (t:TT):Prop :=
 ∀(pins:List (Zh×Obj)) (s:Zf) (σ:St) (H:Hp) (Q:Bool->Hp->Prop),Inv X pins σ H s->t σ H Q ->
  wpAny #v[2,7] X.A (forIn ifs Zd λc r=>if r=Zd then do let ok <- isTrue c X.env (eval c X.env);pure (ForInStep.yield ok) else pure (ForInStep.yield r)) (TP X pins σ Q) X.xe s
theorem z4y {X:Cx}:PTs X [] z3l:=λpins s σ H Q I h=>by
 rw[Ex];exact Ak ⟨H,I,h⟩
theorem z4a {X:Cx}{c:Zi}{t:TT}(h:PT X c t):PTs X [c] t:=λpins s σ H Q I q=>by
 rw[Gi];simp only [Fm];refine Aa (Aa (thn (h pins s σ H Q I q) λb d a=>?_));refine Ak ?_;dsimp only;rw[Ex];exact Ak a
section
variable {X:Cx}
theorem zba {env:Env}:∀{names:List (Str×NameKind)}{x:Str},names.lookup x=Za .free ->
  #v[0,8].lookup x=Za .cell \/
  #v[0,8].lookup x=Za .free
 |[],_,h=>by simp at h
 | (n,k)::r,x,h=>by
  have i:=@zba env r x;rw[Av];rw[Bj] at h;cases hx:x==n with
  | true =>
   rw[hx] at h;ext h;dsimp only;split
   ·rw[Bj,hx];exact .inl rfl
   ·rw[Bj,hx];exact .inr rfl
  | false =>
   rw[hx] at h;dsimp only;split
   ·rw[Bj,hx];exact i h
   ·rw[Bj,hx];exact i h
theorem zbj {env:Env}:∀{names:List (Str×NameKind)}{x:Str}{k:NameKind},(k=.cell\/k=.free) ->
  #v[0,8].lookup x=Za k->names.lookup x=Za .free\/names.lookup x=Za .cell
 |[],_,_,_,h=>by simp at h
 | (n,c)::r,x,k,a,h=>by
  rw[Av] at h;rw[Bj];cases hx:x==n with
  | true =>
   dsimp only at h;split at h
   ·rename_i b
    rw[Bj,hx] at h;simp only [Ae,Et] at b;rw[b.1.1];exact .inl rfl
   ·rw [Bj,hx] at h
    ext h;rcases a with rfl|rfl
    ·exact .inr rfl
    ·exact .inl rfl
  | false =>
   dsimp only at h;split at h
   ·rw[Bj,hx] at h;exact zbj a h
   ·rw[Bj,hx] at h;exact zbj a h
theorem zdv {scope out:Scope}(h:zgj scope out=Zd){x:Str}(a:(x,NameKind.free)∈scope.names):out.names.lookup x=Za .cell\/out.names.lookup x=Za .free:=by
 have q:=Bd.mp h _ a;simpa using q
theorem capSt_get {cap:List (Option Nat)}{σ:St}{j:Nat}{v:V} (h:(capSt cap σ)[j]?=Za (Za v)):∃i,cap[j]?=Za (Za i)/\σ[i]?=Za (Za v):=by
 unfold capSt at h;rw[Ai] at h;cases e:cap[j]? with
 |none=>rw[e] at h;cases h
 | some o =>
  rw[e] at h;cases o with
  |none=>cases h
  | some i =>
   refine⟨i,rfl,?_⟩;have a:(σ[i]?).getD Zb=Za v:=sI h;cases e2:σ[i]? with
   |none=>rw[e2] at a;cases a
   |some z=>rw[e2] at a;exact congrArg Za a
theorem zbg {env:Env}:∀{names:List (Str×NameKind)}{x:Str}{k:NameKind},k≠.free->names.lookup x=Za k ->
  #v[0,8].lookup x=Za k
 |[],_,_,_,h=>by simp at h
 | (n,a)::r,x,k,b,h=>by
  have i:=@zbg env r x k b;rw[Av];rw[Bj] at h;cases hx:x==n with
  | true =>
   rw[hx] at h;ext h;have:(a==NameKind.free)=Zc:=by cases a<;>first|rfl|exact absurd rfl b
   dsimp only;rw[this,Ey,Ey,if_neg As,Bj,hx]
  | false =>
   rw[hx] at h;dsimp only;split
   ·rw[Bj,hx];exact i h
   ·rw[Bj,hx];exact i h
abbrev zf0 (scope:Scope):Bool:=scope.names.all λp=>!(p.2==NameKind.cell)||decide (scope.names.lookup p.1=Za .cell)
theorem zsj {scope:Scope}(h:zf0 scope=Zd){x:Str}(a:(x,NameKind.cell)∈scope.names):scope.names.lookup x=Za .cell:=by
 have q:=Bd.mp h _ a;simpa using q
theorem zci:∀(names:List (Str×NameKind)) (n:Nat) (a:List (Str×Zh)),cellsFrom n names a=cellsFrom n names []++a
 |[],_,_=>rfl
 | (x,k)::r,n,a=>by
  unfold cellsFrom;split
  ·rw[zci r (n+1) ((x,n)::a),zci r (n+1) [(x,n)],Bc];rfl
  ·exact zci r n a
theorem zg0:∀(names:List (Str×NameKind)) (n:Nat) {x:Str}{c:Zh},(x,c)∈cellsFrom n names []->(x,NameKind.cell)∈names
 |[],_,_,_,h=>by cases h
 | (y,k)::r,n,x,c,h=>by
  unfold cellsFrom at h;split at h
  ·rename_i a
   rw[zci] at h;rcases Bz.mp h with h|h
   ·exact Ag _ (zg0 r _ h)
   ·have e:=Ax.mp h
    cases e;have:k=NameKind.cell:=by simpa using a
    rw[this];exact At
  ·exact Ag _ (zg0 r _ h)
theorem cells_of {names:List (Str×NameKind)}{n:Nat}{a:List (Str×Zh)}{x:Str}{c:Zh}(h:(cellsFrom n names a).lookup x=Za c):(cellsFrom n names []).lookup x=Za c\/((cellsFrom n names []).lookup x=Zb/\a.lookup x=Za c):=by
 rw[zci,List.lookup_append] at h;cases e:(cellsFrom n names []).lookup x with
 |some d=>rw[e] at h;exact .inl h
 |none=>rw[e] at h;exact .inr ⟨rfl,h⟩
theorem zh3 {scope:Scope} (h:zf0 scope=Zd) {n:Nat}{a:List (Str×Zh)}{x:Str}{c:Zh} (f:scope.names.lookup x=Za .free) (b:a.lookup x=Za c):(cellsFrom n scope.names a).lookup x=Za c:=by
 rw[zci,List.lookup_append];cases e:(cellsFrom n scope.names []).lookup x with
 |none=>exact b
 | some d =>
  have:=zsj h (zg0 _ _ (Br e));rw[f] at this;cases this
theorem zz2 {pins:List (Zh×Obj)}{σ:St}{P:Hp}{s:Zf}{Nc:List Str}{scope:Scope}{N:List (Str×Zh)}{cap:List (Option Nat)}{fp:List Zh}{h4:Heap}{tk:Nat}
  (I:Inv X pins σ P s) (hk:scope.kind=.function) (t:zhn cap Nc X.N scope=Zd) (M:zgj scope X.env.scope=Zd) (F:zf0 scope=Zd)
  (E:∀x c,N.lookup x=Za c->X.env.cells.lookup x=Za c) (V:∀x,(x,NameKind.free)∈scope.names->∃c,N.lookup x=Za c)
  (R:∀b∈fp,FpOk X pins P b) (Y:∀b∈fp,b<s.heap.objs.size)
  (U:h4.Ns s.heap.objs.size (λ_=>Zb)) (f:∀b o,s.heap.get? b=Za o->h4.get? b=Za o) (L:CellsOk h4 (s.heap.objs.size+1) (cellsFrom (s.heap.objs.size+1) scope.names [])) :
  Inv (zbf X Nc scope (cellsFrom (s.heap.objs.size+1) scope.names N) s.heap.objs.size s P fp) [] (capSt cap σ) P { s with heap:=h4,toks:=tk }:=by
 have D:∀b∈fp,b ∉ frs X.stack:=λb w z=>by
  obtain⟨_,g1,g2,_⟩:=R b w;rcases Am.mp (I.stkSub b z) with e|e
  ·exact g1 e
  ·exact g2 e
 have own:∀x c,(cellsFrom (s.heap.objs.size+1) scope.names []).lookup x=Za c->h4.IsCell c Zb/\s.heap.objs.size+1<=c:=λx c h=>L.empty x c (Br h);have J:∀x c,N.lookup x=Za c->c<s.heap.objs.size:=λx c h=>by
  obtain⟨v,q⟩:=I.cell x c (E x c h);exact q.lt
 refine⟨⟨I.mod,hk,I.ok.glob,I.ok.blt,Af _,λx y c H O=>?_,λx C=>?_,λx c h h'=>?_,I.ok.hd,I.ok.frames,.inl rfl,λb w=>⟨Bb (Y b w),λx c h=>?_⟩,
  λb o e=>I.bs b o e,Ci I.ok.bsz I.sz,λb o e w=>?_,D,I.stack,I.stkFree⟩,rfl,I.bare,Un.kept f,⟨_,U,λj x v H O h3=>?_⟩,λx c h=>?_,I.hok.fresh (Af _),λx c h=>?_,λp hp=>absurd (show p∈([]:List (Zh×Obj)) from hp) (by simp),I.hok.kept f,?_⟩
 ·rcases cells_of H with K|⟨_,K⟩
  ·rcases cells_of O with A|⟨_,A⟩
   ·exact name_of_addr L.apart (Br K) (Br A)
   ·have a:=(own x c K).2;have b:=J y c A;exact absurd (Az b (Fv a)) (Bv _)
  ·rcases cells_of O with A|⟨_,A⟩
   ·have a:=(own y c A).2;have b:=J x c K;exact absurd (Az b (Fv a)) (Bv _)
   ·exact I.ok.inj x y c (E x c K) (E y c A)
 ·have g:scope.names.lookup x=Za .free\/scope.names.lookup x=Za .cell:=by
   rcases C with C|C
   ·exact zbj (env:=X.env) (.inl rfl) C
   ·exact zbj (env:=X.env) (.inr rfl) C
  rcases g with g|g
  ·obtain⟨c,e⟩:=V x (Br g);exact⟨c,zh3 F g e⟩
  ·exact Fh.mp (Fu scope.names _ N (.inl g))
 ·have C:scope.names.lookup x=Za .cell:=Ar h;rcases cells_of h' with z|⟨z,_⟩
  ·exact Fv (own x c z).2
  ·obtain⟨d,e⟩:=cell_has (n:=s.heap.objs.size+1) C;rw[z] at e;cases e
 ·rcases cells_of h with z|⟨_,z⟩
  ·have a:=(own x c z).2;have:=Y b w;exact Ne.symm (Bb (Az this (Fv a)))
  ·exact (R b w).2.2.2.2.1 x c (E x c z)
 ·rcases (R b w).2.2.2.1 with z|z
  ·exact I.ok.noex b o e z
  ·have H:b<X.base.objs.size:=Ao e;exact absurd (Az H (Ci I.ok.bsz z)) (Bv _)
 ·obtain ⟨i,e1,Z⟩:=capSt_get O;have T:Nc[j]?=Za x:=H;obtain ⟨n1,G⟩:=zum t e1 T;have vis:Vis X.env.scope x:=by
   rcases zdv M (Br G) with z|z
   ·exact .inr (.inl z)
   ·exact .inr (.inr z)
  obtain⟨m,hn,hl⟩:=I.loc;obtain⟨u,r,l⟩:=hl i x v n1 Z vis;refine⟨u,r,?_⟩;rcases l with⟨S,_⟩|⟨_,c,e,z⟩
  ·have k:X.env.scope.names.lookup x=Za .local:=S;rcases zdv M (Br G) with z|z
   ·rw[z] at k;cases k
   ·rw[z] at k;cases k
  ·obtain⟨c', W⟩:=V x (Br G);have:=E x c' W;rw[e] at this;ext this;refine .inr ⟨zba (env:=X.env) G,c,zh3 F G W,?_⟩;obtain⟨o,B,Q⟩:=z;exact⟨o,f _ _ B,Q⟩
 ·rcases cells_of h with z|⟨_,z⟩
  ·exact⟨Zb,(own x c z).1⟩
  ·obtain⟨v,o,B, Q⟩:=I.cell x c (E x c z);exact⟨v,o,f _ _ B,Q⟩
 ·rcases cells_of h with z|⟨_,z⟩
  ·exact I.hok.fresh (Fv (own x c z).2)
  ·exact I.freeC x c (E x c z)
 ·show (capSt cap σ).length=Nc.length;rw[<-zua t];unfold capSt;rw[Ab]
theorem zj6 {M:Model}{A:Around}{E:Ze->Zf->Prop}{s:Zf}{scope:Scope}{g:Zh}{a:List (Str×Zh)}{qual:Str}{outer:Env}{Q:Env->Zf->Prop}
  (f:∀h,h.Ns s.heap.objs.size (λ_=>Zb)->(∀b o,s.heap.get? b=Za o->h.get? b=Za o)->CellsOk h #v[7,10] (cellsFrom #v[7,10] scope.names []) ->
   Q (newEnv scope s.heap.objs.size g (cellsFrom #v[7,10] scope.names a) qual Zb .none (Za outer) builtinsNs) { s with heap:=h }) :
  wpAny M A (newFunctionEnv scope g a [] qual Zb .none (Za outer)) Q E s:=by
 simp only [newFunctionEnv,Option.isSome_some,Fm];refine Aa (wpAny_alloc ?_);refine Aa (wpAny_layCells _ (λname kind c=>by cases hkc:kind==NameKind.cell<;>simp [hkc]) _ _ _ _ ?_);have ok:=cellsFrom_ok scope.names (s.heap.push { cls:=.type "dict",data:=.dict #[] }) #v[7,10] [] ⟨λ_ _ d=>(nomatch d),List.Pairwise.nil⟩ (by rw[Ct];exact Af _);rw[Ct] at ok;rw[show ({ s with heap:=s.heap.push { cls:=.type "dict",data:=.dict #[] } }:Zf).heap.objs.size=s.heap.objs.size+1 from Ct ..];refine Aa ?_;rw[Ex];exact Ak (Ak (f _ ((Heap.Ns.new s.heap (.type "dict")).keeps (pushCells_keeps _ _)) (λb o e=>pushCells_keeps _ _ b o (Ac _ e)) ok))
end
noncomputable abbrev TM:=St->Hp->(St->Hp->Prop)->Prop
abbrev PM (X:Cx) (em:Sem Unit) (t:TM):Prop :=
 ∀(pins:List (Zh×Obj)) (s:Zf) (σ:St) (H:Hp) (N:St->Hp->Prop),Inv X pins σ H s->t σ H N ->
  wpAny #v[2,7] X.A em (λ_ c=>∃a b,Inv X pins a b c/\N a b) X.xe s
abbrev zk1 (e:Zi) (d:Nat) (tg iter:Zi) (ifs:List Zi) (em:Sem Unit) (it acc:Ze) (env:Env):Sem Fin:=do
 standAt iter.pos
 match <- pyNext it with
 |none=>pure (.done .next)
 | some v =>
  letOwnedTupleGo tg it v
  assign tg env v
  let mut ok:=Zd
  for c in ifs do
   if ok then ok <- isTrue c env (eval c env)
  if ok then em
  again (.compLoop e d it acc env)
abbrev zmo (J:It) (g:TG) (tc:TT) (t:TM) (σ:St) (H:Hp) (Q:St->Hp->Prop):Prop:=∃W:Nat->Nat->St->Hp->Prop,(∃m,W 0 m σ H) /\
 ∀i m c f,W i m c f->(J.stop i f/\Q c f)\/(J.go i f/\∃N:St->Hp->Prop,(∀d e,N d e->∃j,j<m/\W (i+1) j d e)/\∀x e,J.yld i f x e->g x c e λa k =>
  tc a k λb h=>if b=Zd then t a h N else N a h)
abbrev zvx (w:TI) (cap:List (Option Nat)) (g:TG) (tc:TT) (t:Zh->TM):TE:=λσ H Q=>w σ H λJ b=>∀a,b a=Zb->zmo J g tc (t a) (capSt cap σ) (upd b a (.lst [])) λ_ c=>Q (.ref a) c
section
variable {X:Cx}
theorem zl7 {elt:Zi}{gens:List Comprehension}{scope:Scope}{pos:Pos}{d:Nat}{G iter:Zi}{ifs:List Zi}{em:Sem Unit}{l:Ze}{g:TG}{tc:TT}{tm:TM}{pins:List (Zh×Obj)}{σ:St}{H:Hp}{s:Zf}{it:Zh}{fp:List Zh}{D:Nat->Heap->Prop}{J:It}{Y:St->Hp->Prop}{R:Result->Zf->Prop}
  (M:∀v s,¬ X.xe v s) (U:X.calm=Zd) (ht:compTurn #v[4,9] d (.ref it) l X.env=zk1 #v[4,9] d G iter ifs em (.ref it) l X.env)
  (hg:PG X G g) (hs:PTs X ifs tc) (K:PM X em tm) (I:Inv X pins σ H s) (T:Turn X.prog X.w X.K G J fp it D) (st:D 0 s.heap) (f:∀b∈fp,FpOk X pins H b)
  (hW:zmo J g tc tm σ H Y)
  (hR:∀a c y,Inv X pins a c y->Y a c->R (.ok .next) y):codeAny #v[2,7] X.A (.compLoop #v[4,9] d (.ref it) l X.env) R s:=by
 have k:∀{c:Hp},(∀b∈fp,c b=Zb)->∀b∈fp,FpOk X pins c b:=λhn b p=>⟨hn b p,(f b p).2⟩;nofun;obtain⟨W,⟨m0,w0⟩,turn⟩:=hW;ac_rfl;refine codeAny_loop rfl (λn y=>∃i a c,Inv X pins a c y/\D i y.heap/\(∀b∈fp,c b=Zb)/\W i n a c) ?_ m0 ⟨0,σ,H,I,st,λb p=>(f b p).1,w0⟩;rintro n L ⟨i,j,C,V,A,B,w3⟩;show wpAny _ X.A ((compTurn #v[4,9] d (.ref it) l X.env).onRaise (λx=>do noteFrame x X.env;theTreesLotGoes x)) _ _ L;refine wpAny_noted ?_;rw[ht];unfold zk1;refine Aa (Fs (Aa ?_));rcases turn i n j C w3 with⟨stop,qn⟩|⟨go,N,hN,step⟩
 ·refine Bw (T.done X rfl rfl rfl U i pins L j C (λ_ _=>False) V (k B) A stop) (λr s4 ⟨Q,I4⟩ => ?_) λ_ _ z=>z.elim;subst Q;exact Ak (hR j C s4 I4 qn)
 ·refine Bw (T.item X rfl rfl rfl U i pins L j C (λ_ _=>False) V (k B) A go) (λr s4 ⟨u,Q,h4⟩ => ?_) λ_ _ z=>z.elim;subst Q;refine Aa (Bw h4 (λ_ S ⟨x,Z,I5,r5,y5,q,O⟩=>?_) λ_ _ z=>z.elim);have F:=I5.pinned (k O) (T.obj _ _ q);refine Aa (Bw (hg _ S j Z x u _ F r5 (step x Z y5)) (λ_ s6 ⟨w,H6,I6,q6⟩=>?_) λv s z=>(M v s z).elim);refine Aa (Bw (hs _ s6 w H6 _ I6 q6) (λok s7 ⟨H7,I7,q7⟩=>?_) λv s z=>(M v s z).elim);have again:∀{E:Zf}{h:St}{t:Hp},Inv X (pins++zk0 fp S.heap) h t E->N h t->∃m,m<n/\∃i a c,Inv X pins a c E/\D i E.heap/\(∀b∈fp,c b=Zb)/\W i m a c:=λ{E h t} P nx=>by
   obtain⟨m',K,wx⟩:=hN h t nx;refine⟨m',K,i+1,h,t,P.unpinned,T.keep _ _ _ q λb p o e=>(P.pin (b,o) (Ay _ (Ay _ (zdz p e)))).1,λb p=>?_,wx⟩;obtain⟨o,e,d⟩:=T.obj _ _ q b p;exact (P.pin (b,o) (Ay _ (Ay _ (zdz p e)))).2.1
  cases ok with
  |false=>exact Ak ⟨rfl,again I7 q7⟩
  |true=>exact Aa (Bw (K _ s7 w H7 N I7 q7) (λ_ s8 ⟨σ8,H8,I8,n8⟩=>Ak ⟨rfl,again I8 n8⟩) λv s z=>(M v s z).elim)
abbrev zrt (a:Zh) (te:TE):TM:=λσ H N=>te σ H λy c=>∃b,c a=Za (.lst b)/\b.length<sizeLine/\N σ (upd c a (.lst (b++[y])))
abbrev z02 (elt:Zi) (a:Ze) (env:Env):Sem Unit:=do let _ <- call (.builtin "list.append") [a,<-eval elt env]
theorem z3k {elt:Zi}{te:TE}{a:Zh}(o:PE X elt te):PM X (z02 elt (.ref a) X.env) (zrt a te):=by
 intro pins s σ H N I h;unfold z02;refine Aa (thn (o pins s σ H _ I h) λn c ⟨y,b,d,r,l,i,m,q⟩=>?_);refine Aa (thn (zgp _ c σ b (.ref a) [y] _ [n] (λ_ k=>N σ k) d rfl (.cons r .nil) ⟨_,l,y,rfl,rfl,i,m,q⟩) λ_ j ⟨_,g,e,_,f⟩=>?_);exact Ak ⟨σ,g,e,f⟩
abbrev tTwo (w:TI) (g:TG) (tc:TT) (t:TM):TM:=λσ H N=>w σ H λJ a=>zmo J g tc t σ a N
abbrev ztl (e iter:Zi) (a:Ze) (env:Env):Sem Unit:=do
 let x <- eval iter env
 standAt iter.pos
 let x <- foldedSetIterable iter env x
 let _ <- runOwn (.compStart e 1 (<- holding [x] (pyIter x)) a env) env
theorem zzq {elt tg iter tg2 iter2:Zi}{ifs ifs2:List Zi}{scope:Scope}{pos:Pos}{it a:Ze}{env:Env} :
  compTurn #v[5,7] 0 it a env=zk1 #v[5,7] 0 tg iter ifs (ztl #v[5,7] iter2 a env) it a env:=by
 unfold zk1 ztl;simp only [bind_assoc,pure_bind]
 rfl
theorem zxt {A:Around}{R:Result->Zf->Prop}{s:Zf}{elt tg iter tg2 iter2:Zi}{ifs ifs2:List Zi}{scope:Scope}{pos:Pos}{it a:Ze}{env:Env}{prog:Program}{w:World}
  (h0:codeAny (model prog w) A (.compLoop #v[5,7] 1 it a env) R s)
  (h:wpAny (model prog w) A (pyIter it) (λi b=>codeAny (model prog w) A (.compLoop #v[5,7] 1 i a env) R b)
   (notedBy (model prog w) A env λx b=>R (.error x) b) s) :
  codeAny (model prog w) A (.compStart #v[5,7] 1 it a env) R s:=by
 refine codeAny_of_tree ?_;show wpAny _ _ ((compStart #v[5,7] 1 it a env).onRaise (λx=>do noteFrame x env;standAt theWindowsPlace)) _ _ s;refine wpAny_notedAt ?_;unfold compStart;show wpAny _ _ (ask>>=_) _ _ s;refine Aa (wpAny_askSetting (wpAny_ite ?_));split
 ·first
   |exact Aa (Ak (Ak (And.intro rfl h0)))
   |exact Ak (And.intro rfl h0)
 ·first
   |exact Aa (Df (Aa (Fs (Aa (Bw h (λi b c=>Ak (And.intro rfl c)) λ_ _ x=>x)))))
   |(refine Aa (Df ?_);show wpAny _ _ (standAt iter2.pos>>=_) _ _ s;exact Aa (Fs (Aa (Bw h (λi b c=>Ak (And.intro rfl c)) λ_ _ x=>x))))
theorem z94 {elt tg iter tg2 iter2:Zi}{ifs ifs2:List Zi}{scope:Scope}{pos:Pos}{w:TI}{g:TG}{tc:TT}{te:TE}{b:Zh} (A:∀v s,¬ X.xe v s) (p:X.calm=Zd) (z:PI X tg2 iter2 w) (B:PG X tg2 g) (C:PTs X ifs2 tc) (E:PE X elt te) (j:∀x,foldedSetIterable iter2 X.env x=pure x) :
  PM X (ztl #v[5,7] iter2 (.ref b) X.env) (tTwo w g tc (zrt b te)):=by
 intro pins s σ H N I h;unfold ztl;refine Aa (thn (z pins s σ H _ I h) λv G q=>Aa (Fs (Aa (wpAny_of_eq (j v) (Aa (Dc (thn q λm D l=>?_)))))));nofun;obtain⟨y,fp,F,J,K,e,u,T,d,k,o⟩:=l;ac_rfl;subst e;refine Aa (wpAny_runOwn ?_);have loop:codeAny #v[2,7] X.A (.compLoop #v[5,7] 1 (.ref y) (.ref b) X.env) (λr c=>match r with|.ok f=>(λ_ c=>wpAny #v[2,7] X.A (pure ()) (λ_ c=>∃a i,Inv X pins a i c/\N a i) X.xe c) f c|.error e=>cameBackBy #v[2,7] X.A X.env X.xe e c) D :=
  zl7 (em:=z02 elt (.ref b) X.env) A p rfl B C (z3k E) u T d k o λa i c t n=>Ak ⟨a,i,t,n⟩
 exact zxt loop (T.self _ 0 _ _ _ d loop)
end
theorem HOk.but {P:Program}{w:World}{H:Hp}{h h':Heap}{a:Zh}(x:HOk P w H h)(f:H a=Zb)(g:Heap.SameBut a h h'):HOk P w H h':=λb o e=>by
 refine (x b o e).stay (λc i d q=>(g.2 c ?_).trans q) (λ_ q=>q) λ_ _ q=>q;rintro rfl;rcases d with rfl|d
 ·rw[f] at e;cases e
 ·rw[f] at d;cases d
section
variable {X:Cx}
theorem zh5 {elt tg iter:Zi}{ifs:List Zi}{gs:List Comprehension}{scope:Scope}{pos:Pos}{f:List (Str×Zh)}{Nc:List Str}{cap:List (Option Nat)}{g:TG}{tc:TT}{em:Ze->Env->Sem Unit}{tm:Zh->TM}{pins:List (Zh×Obj)}{σ:St}{H:Hp}{s:Zf}{it:Zh}{fp:List Zh}{R:Nat->Heap->Prop}{J:It}{Q:VK}{RR:Ze->Zh->Result->Zf->Prop}{E:Ze->Zf->Prop}
  (hc:X.calm=Zd) (hk:scope.kind=.function) (L:zhn cap Nc X.N scope=Zd) (V:zgj scope X.env.scope=Zd) (W:zf0 scope=Zd)
  (t:∀it a env,compTurn #v[8,7] 0 it a env=zk1 #v[8,7] 0 tg iter ifs (em a env) it a env)
  (hg:∀f C y w fp,PG (zbf X Nc scope f C y w fp) tg g) (ht:∀f C y w fp,PTs (zbf X Nc scope f C y w fp) ifs tc) (hm:∀f C y w fp a,PM (zbf X Nc scope f C y w fp) (em (.ref a) (zbf X Nc scope f C y w fp).env) (tm a))
  (c1:∀x c,f.lookup x=Za c->X.env.cells.lookup x=Za c) (c2:∀x,(x,NameKind.free)∈scope.names->∃c,f.lookup x=Za c)
  (I2:Inv X pins σ H s) (T:Turn X.prog X.w X.K tg J fp it R) (r:R 0 s.heap) (f2:∀b∈fp,FpOk X pins H b)
  (hW:∀a,H a=Zb->zmo J g tc (tm a) (capSt cap σ) (upd H a (.lst [])) λ_ Hc=>Q (.ref a) Hc)
  (hR:∀a C G P,(∃m,G.heap.Ns C m)->(∀N,Heap.SameBut C G.heap N->Inv X pins σ P { G with heap:=N })->FpOk X pins P C->Q (.ref a) P->RR (.ref a) C (.ok .next) G) :
  wpAny #v[2,7] X.A (newList []) (λa A=>wpAny #v[2,7] X.A (newFunctionEnv scope X.env.globals f [] X.env.qual Zb .none (Za X.env)) (λl K =>
   codeAny #v[2,7] X.A (.compStart #v[8,7] 0 (.ref it) a { l with scope:=relabel scope X.env }) (RR a l.locals) K) E A) E s:=by
 refine Dq (zj6 λi d k q=>?_);dsimp only at d k q ⊢;have B:H s.heap.objs.size=Zb:=I2.hok.fresh (Af _);have M:Inv X pins σ (upd H s.heap.objs.size (.lst [])) { s with heap:=s.heap.push { cls:=.type "list",dict:=Zb,data:=.seq ([]:List Ze).toArray },toks:=s.toks } :=
  I2.laid (t':=s.toks) (λb u e=>Ac _ e) (Af _) ⟨by simp,[],0,.nil,Aq _ rfl⟩
 have hW':=hW s.heap.objs.size B;generalize hH:s.heap.push { cls:=.type "list",dict:=Zb,data:=.seq ([]:List Ze).toArray }=hp at d k q M ⊢;have f3:∀b∈fp,FpOk X pins (upd H s.heap.objs.size (.lst [])) b:=λb h=>by
  obtain⟨o,ho,_⟩:=T.obj _ _ r b h;exact⟨by rw[upd_ne (Bb (Ao ho))];exact (f2 b h).1,(f2 b h).2⟩
 have up:∀b o,s.heap.get? b=Za o->hp.get? b=Za o:=λb o e=>hH ▸ Ac _ e;have O:=zz2 (Nc:=Nc) (cap:=cap) (fp:=fp) (h4:=i) (tk:=s.toks) M hk L V W c1 c2 f3 (λb h=>by
  obtain⟨o,ho,_⟩:=T.obj _ _ r b h;exact Ao (up b o ho)) d k q
 have D:R 0 i:=T.keep _ _ _ r λb _ o e=>k b o (up b o e);have loop:codeAny #v[2,7] X.A (.compLoop #v[8,7] 0 (.ref it) (.ref s.heap.objs.size) (compEnvC scope (cellsFrom (hp.objs.size+1) scope.names f) hp.objs.size X.env)) (RR (.ref s.heap.objs.size) hp.objs.size) { s with heap:=i,toks:=s.toks }:=by
  refine zl7 (X:=zbf X Nc scope (cellsFrom (hp.objs.size+1) scope.names f) hp.objs.size { s with heap:=hp,toks:=s.toks } (upd H s.heap.objs.size (.lst [])) fp) (λ_ _ z=>z) hc (t _ _ _) (hg _ _ _ _ _) (ht _ _ _ _ _) (hm _ _ _ _ _ _) O T D
   (λb h=>⟨(f3 b h).1,(O.ok.exf b h).1,O.ok.exfs b h,.inl h,(O.ok.exf b h).2,λp Z=>absurd (show p∈([]:List (Zh×Obj)) from Z) (by simp)⟩) hW' λσ5 S s6 I qn=>?_
  obtain⟨m6,hm6,_⟩:=I.loc;have fC:S hp.objs.size=Zb:=I.free;refine hR _ _ _ S ⟨m6,hm6⟩ (λN j=>?_) (M.fpOk (Af _) fC) qn;refine M.call' (s':={ s6 with heap:=N }) (ch:=fp) I.os ?_ (I.hok.but fC j) I.bare λb h=>⟨(f3 b h).2.2.2.1,(f3 b h).2.1,(f3 b h).2.2.2.2.1,(f3 b h).2.2.2.2.2⟩;have U:Un (frs X.stack) fp (upd H s.heap.objs.size (.lst [])) S hp s6.heap:=I.base;have Y:∀b o,hp.get? b=Za o->b≠hp.objs.size:=λb o e=>Bb (Ao e);exact⟨λb o e n h F=>(j.2 b (Y b o e)).trans (U.keep b o e n h F),λb o e n h F=>let ⟨sl,z⟩:=U.slot b o e n h F;⟨sl,(j.2 b (Y b o e)).trans z⟩,U.free,λb o e F=>let ⟨o',z⟩:=U.there b o e F;⟨o',(j.2 b (Y b o e)).trans z⟩,U.tups,U.frzs,U.tbls⟩
 exact codeAny_compStart_list loop (T.self _ 0 _ _ _ D loop)
theorem z4p {elt tg iter:Zi}{ifs:List Zi}{gs:List Comprehension}{scope:Scope}{pos:Pos}{Nc:List Str}{cap:List (Option Nat)}{A:TI}{g:TG}{tc:TT}{em:Ze->Env->Sem Unit}{y:Zh->TM} (S:PI X tg iter A)
  (U:∀f C j i fp,PG (zbf X Nc scope f C j i fp) tg g) (V:∀f C j i fp,PTs (zbf X Nc scope f C j i fp) ifs tc) (w:∀f C j i fp a,PM (zbf X Nc scope f C j i fp) (em (.ref a) (zbf X Nc scope f C j i fp).env) (y a))
  (d:∀r a env,compTurn #v[8,7] 0 r a env=zk1 #v[8,7] 0 tg iter ifs (em a env) r a env)
  (N:X.calm=Zd:=by rfl) (z:scope.kind=.function:=by rfl) (k:zhn cap Nc X.N scope=Zd:=by rfl) (l:zgj scope X.env.scope=Zd:=by rfl) (n:zf0 scope=Zd:=by rfl)
  (t:#v[5,8]=Zd:=by rfl)
  (F:∀x,foldedSetIterable iter X.env x=pure x:=by intro _;rfl):PE X #v[8,7] (zvx A cap g tc y):=by
 intro pins s σ H Q I h;rw[eval_ListComp];nofun;obtain⟨f,c,E,D⟩:=zdh (env:=X.env) (scope:=scope) λx u=>I.ok.has x (zdv l u);ac_rfl;have b:∀x∈scope.names,x.2=.local->scope.names.lookup x.1=Za .local:=λx u e=>by
  have q:=Bd.mp t _ u;simpa [e] using q
 refine wpAny_comprehension_free (use:=Zb) rfl F c z b (thn (S pins s σ H _ I h) λv s1 O=>thn O λL s2 K=>?_);nofun;obtain⟨r,fp,Y,J,H2,e,P,T,o,G,M⟩:=K;ac_rfl;subst e;refine zh5 (RR:=λa C=>compPost #v[2,7] X.A X.xe Zb (EP X pins σ Q) a C) N z k l n d U V w E D P T o G M ?_;intro a C s' R ⟨m,w⟩ B Z q;exact⟨m,w,λW p=>⟨.ref a,R,B W p,rfl,q⟩⟩
theorem z4r {y:Str}{u:Pos}{f:Pos}{i:Nat}{elt tg iter:Zi}{ifs:List Zi}{gs:List Comprehension}{scope:Scope}{pos:Pos}{Nc:List Str}{cap:List (Option Nat)}{Z:TI}{g:TG}{tc:TT}{em:Ze->Env->Sem Unit}{V:Zh->TM} (hN:X.N.Nodup) (S:X.N[i]?=Za y) (hy:Loc X.env.scope y) (hi:PI X tg iter Z)
  (hg:∀p C t r fp,PG (zbf X Nc scope p C t r fp) tg g) (ht:∀p C t r fp,PTs (zbf X Nc scope p C t r fp) ifs tc) (P:∀p C t r fp c,PM (zbf X Nc scope p C t r fp) (em (.ref c) (zbf X Nc scope p C t r fp).env) (V c))
  (n:∀N c env,compTurn #v[8,7] 0 N c env=zk1 #v[8,7] 0 tg iter ifs (em c env) N c env)
  (U:swapsWith #v[8,7] (Za (.Name y u)) f.line X.env=pure Zd:=by rfl)
  (hc:X.calm=Zd:=by rfl) (W:scope.kind=.function:=by rfl) (A:zhn cap Nc X.N scope=Zd:=by rfl) (B:zgj scope X.env.scope=Zd:=by rfl) (E:zf0 scope=Zd:=by rfl)
  (O:#v[5,8]=Zd:=by rfl)
  (hs:∀x,foldedSetIterable iter X.env x=pure x:=by intro _;rfl) (hf:X.fn y=Zd\/X.env.scope.names.lookup y=Za .local:=by first|exact .inl rfl|exact .inr rfl|assumption) :
  PS X (.Assign [.Name y u] #v[8,7] f) (tAsg (zvx Z cap g tc V) (zfn i)):=by
 intro pins s σ H D I h;nofun;obtain⟨p,j,c1,c2⟩:=zdh (env:=X.env) (scope:=scope) λx R=>I.ok.has x (zdv B R);ac_rfl;have d:∀x∈scope.names,x.2=.local->scope.names.lookup x.1=Za .local:=λx R e=>by
  have q:=Bd.mp O _ R;simpa [e] using q
 rw[exec_Assign_Name_used _ _ _ _ U];refine Aa (Fs (Aa ?_));show wpAny _ X.A (do let _ <- comprehension #v[8,7] scope X.env _ (newList []) Zc (eval iter X.env) (Za (assign (.Name y u) X.env))) _ _ s;refine Aa (Bw (wpAny_comprehension_free (use:=Za (assign (.Name y u) X.env)) (Q:=λ_ l=>SP X pins D .next l) rfl hs j W d
  (thn (hi pins s σ H _ I h) λv s1 h1=>thn h1 λitv s2 h2=>?_)) (λ_ l hq=>Ak (Ak hq)) λ_ _ e=>e)
 nofun;obtain⟨N,fp,tn,J,H2,e,I2,T,L,f2,hW⟩:=h2;ac_rfl;subst e;refine zh5 (Q:=λx H1=>D.nx (σ.set i (Za x)) H1) (RR:=λc C=>compPost #v[2,7] X.A X.xe (Za (assign (.Name y u) X.env)) (λ_ l=>SP X pins D .next l) c C) hc W A B E n hg ht P c1 c2 I2 T L f2 hW ?_;intro c C l Y ⟨m,P⟩ hI k q;show wpAny _ X.A (assign (.Name y u) X.env (.ref c)) _ _ _;have I':Inv X pins σ Y l:=hI l.heap (.refl ..);refine wpAny_assign_Name (zmz I' hN S hy (v:=.ref c) rfl (λG F ⟨a,M,K⟩=>?_) hf);have ne:C≠a:=by
  rcases K with rfl|K
  ·exact k.2.1
  ·exact λz=>k.2.2.2.2.1 y a K z.symm
 refine⟨m,P.sameBut M ne,λh' w=>⟨_,Y,?_,q⟩⟩;exact F.turned (t':=G.toks) (λb o hb e=>(w.2 b hb).trans e) k.1 k.2.1 k.2.2.2.1 k.2.2.2.2.1 k.2.2.2.2.2
end
section
variable {X:Cx}{pins:List (Zh × Obj)}{σ:St}{H:Hp}{s:Zf}
theorem Inv.turnLay {h':Heap}{t':Nat}{ch:List Zh}{T:Zh}{o:HO} (I:Inv X pins σ H s) (k:∀b o,b ∉ ch->s.heap.get? b=Za o->h'.get? b=Za o) (y:∀b∈ch,∃w,h'.get? b=Za w) (h:∀b∈ch,FpOk X pins H b) (i:s.heap.objs.size<=T)
  (new:zbr X.prog X.w (upd H T o) h' T o):Inv X pins σ (upd H T o) { s with heap:=h',toks:=t' }:=by
 have g:H T=Zb:=I.hok.fresh i;have ne:∀b u,s.heap.get? b=Za u->b≠T:=λb u e=>Bb (Az (Ao e) i);have f:∀b u,H b=Za u->b ∉ ch:=λb u e a=>by rw[(h b a).1] at e;cases e
 refine I.step (g':=s.gens) (d':=s.drawn) (ch:=ch) (λb a=>⟨(h b a).2.2.2.1,(h b a).2.1,(h b a).2.2.2.2.1,(h b a).2.2.2.2.2⟩) (λb o _ _ d e _=>k b o d e) (λb o _ _ d e _=>⟨o.slots,k b o d e⟩) (λb u _ e n=>by rw[upd_ne (ne b u e)];exact n)
  (λb u d e=>⟨u,k b u d e⟩) (λb x e=>by rw[upd_ne (zae e g)];exact e) (λb u x e=>by rw[upd_ne (zae e g)];exact e) (λb A e=>⟨#[],by rw[upd_ne (zae e g),e];simp⟩) (λm p=>?_) (λb u e=>?_) I.bare
 ·obtain⟨o,j,t,l,r⟩:=p;exact⟨o,j,t,k _ o (λz=>(h _ z).2.1 rfl) l,r⟩
 ·by_cases a:b=T
  ·subst a;rw[upd_same] at e;ext e;exact new
  ·rw[upd_ne a] at e;refine (I.hok b u e).stay (λc v d q=>k c v ?_ q) (λc q=>by rw[upd_ne (zae q g)];exact q) λc x q=>by rw[upd_ne (zae q g)];exact q
   rcases d with z|z
   ·rw[z];exact f b u e
   ·exact f c _ z
theorem Inv.turnL {h':Heap}{t':Nat}{ch:List Zh}(I:Inv X pins σ H s)(k:∀b o,b ∉ ch->s.heap.get? b=Za o->h'.get? b=Za o)(h:∀b∈ch,FpOk X pins H b):Inv X pins σ H { s with heap:=h',toks:=t' }:=by
 have f:∀b u,H b=Za u->b ∉ ch:=λb u e d=>by rw[(h b d).1] at e;cases e
 refine I.step (g':=s.gens) (d':=s.drawn) (ch:=ch) (λb d=>⟨(h b d).2.2.2.1,(h b d).2.1,(h b d).2.2.2.2.1,(h b d).2.2.2.2.2⟩) (λb o _ _ a e _=>k b o a e) (λb o _ _ a e _=>⟨o.slots,k b o a e⟩) (λb u _ e n=>n)
  (λb u a e=>⟨u,k b u a e⟩) (λb x e=>e) (λb u x e=>e) (λb p e=>⟨#[],by rw[e];simp⟩) (λm l=>?_) (λb u e=>?_) I.bare
 ·obtain⟨o,i,j,g,r⟩:=l;exact⟨o,i,j,k _ o (λz=>(h _ z).2.1 rfl) g,r⟩
 ·refine (I.hok b u e).stay (λc v a q=>k c v ?_ q) (λc q=>q) λc x q=>q;rcases a with z|z
  ·rw[z];exact f b u e
  ·exact f c _ z
end
abbrev Ite (K:Zg) (a:Zh):It :=
 ⟨λi H=>∃b x,SqL K H a b/\b[i]?=Za x,λi H x c=>∃p v,x=.ref p/\H p=Zb/\c=upd H p (.tup [.int i,v])/\∀b,SqL K H a b->b[i]?=Za v,λi H=>∃b,SqL K H a b/\b.length<=i⟩
theorem zvy {P:Program}{w:World}{K:Zg}{es:List Zi}{x1}{px:Pos}(a e it:Zh)(A:e≠it):Turn P w K (.Tuple es x1 px) (Ite K a) [e,it] e (λi h=>(∃g,IsEnum h e it i g)/\h.IsListIter it a i) where
 mem:=by simp
 obj:=λi h m b f=>by
  nofun;obtain⟨⟨g,n⟩,o,hi,c,d⟩:=m;ac_rfl;rcases Am.mp f with rfl|f
  ·exact⟨_,n,λv z=>by cases z⟩
  ·have:b=it:=by simpa using f
   subst this;exact⟨o,hi,λv z=>by rw[d] at z;cases z⟩
 keep:=λi h U m k=>⟨let ⟨g,n⟩:=m.1;⟨g,k e (by simp) _ n⟩,m.2.at λo z=>k it (by simp) o z⟩
 item:=by
  intro X O Q N S i pins s σ H E I G m L;subst O Q N;nofun;obtain⟨xs,x,F,J⟩:=L;obtain⟨R,M,p,hz⟩:=I.list F;obtain⟨u,hu,ru⟩:=M.get J;obtain⟨⟨g,n⟩,r⟩:=m;ac_rfl;refine wpAny_pyNext_enum_item n r p.isList (x:=u) (by simpa using hu) A λU Y C W Z hk=>⟨_,rfl,?_⟩;refine wpAny_letOwnedTupleGo_enum Y λD t l=>?_;have kk:∀b o,b ∉ [e,it]->s.heap.get? b=Za o->D.get? b=Za o:=λb o f q=>by
   have T:b≠e:=λz=>f (by simp [z]);have h2:b≠it:=λz=>f (by simp [z]);exact (l.2 b T).trans (hk b o T h2 q)
  have B:s.heap.objs.size≠e:=λz=>absurd (Ao n) (by rw[z];exact Bv _);have j:D.IsListIter it a (i+1):=C.at λo y=>(l.2 it A.symm).trans y;refine⟨.ref s.heap.objs.size,upd H s.heap.objs.size (.tup [.int i,x]),I.turnLay kk (λb f=>?_) G (Af _) ⟨by show 2<=sizeLine;decide,[.int i s.toks,u],.cons ⟨_,rfl⟩ (.cons ru .nil),?_⟩,rfl,⟨_,x,rfl,I.hok.fresh (Af _),rfl,λys hy=>by rw[I.list_inj hy F];exact J⟩,⟨⟨_,by simpa using t⟩,j⟩,λb f=>?_⟩
  ·rcases Am.mp f with rfl|f
   ·exact⟨_,t⟩
   ·have:b=it:=by simpa using f
    subst this;obtain⟨o,z,_⟩:=j;exact⟨o,z⟩
  ·exact⟨_,(l.2 _ B).trans W,⟨rfl,_,rfl⟩,rfl⟩
  ·have:b≠s.heap.objs.size:=by
    rcases Am.mp f with rfl|f
    ·exact B.symm
    ·have V:b=it:=by simpa using f
     subst V;obtain⟨o,z,_⟩:=r;exact Bb (Ao z)
   rw[upd_ne this];exact (G b f).1
 done:=by
  intro X O Q N S i pins s σ H E I G m L;subst O Q N;nofun;obtain⟨xs,F,J⟩:=L;obtain⟨R,M,p,hz⟩:=I.list F;obtain⟨⟨g,n⟩,r⟩:=m;obtain⟨f0,f1,f2,f3,f4,f5⟩:=G it (by simp);ac_rfl;have hl:=M.length;exact wpAny_pyNext_enum_end (I.ok.hd S) n r p.isList (Ek (by simp;symm)) λU eb=>⟨rfl,I.turned (t':=s.toks) (λb o f e=>eb b o f e) f0 f1 f3 f4 f5⟩
 self:=λ_ _ _ _ _ m h=>let ⟨_,n⟩:=m.1;Hi n h
section
variable {X:Cx}
end
abbrev Itv (K:Zg) (a:Zh) (n:Nat):It :=
 ⟨λi H=>i<n/\∃b,SqL K H a b/\b.length=n,λi H x c=>c=H/\∀b,SqL K H a b->b[n-1-i]?=Za x,λi H=>i=n⟩
theorem zzf {P:Program}{w:World}{K:Zg}{S:Zi}(a it:Zh)(n:Nat):Turn P w K S (Itv K a n) [it] it (λi h=>h.IsRevIter it a ((n:Int)-1-(i:Int))) where
 mem:=by simp
 obj:=λi h g b j=>by
  have e:b=it:=by simpa using j
  subst e;nofun;obtain⟨o,e,c,d⟩:=g;ac_rfl;exact⟨o,e,λv z=>by rw[d] at z;cases z⟩
 keep:=λi h q g k=>g.at λo e=>k it (by simp) o e
 item:=by
  intro X C F A L i pins s σ H E I m g y;subst C F A;nofun;obtain⟨hi,V,J,hn⟩:=y;ac_rfl;have l:n-1-i<V.length:=by symm
  nofun;obtain⟨Z,U,p,hz⟩:=I.list J;obtain⟨u,Y,W⟩:=U.get (Ad l);obtain⟨G,r,O,f3,t,D⟩:=m it (by simp);ac_rfl;have e:(n:Int)-1-(i:Int)=((n-1-i:Nat):Int):=by symm
  have f:=g;rw[e] at f;refine wpAny_pyNext_rev_item f p.isList (x:=u) (by simpa using Y) λq f Q=>?_;have T:Inv X pins σ H { s with heap:=q }:=I.turned (t':=s.toks) (λb o j e=>(Q.2 b j).trans e) G r f3 t D;nofun;obtain⟨o,M,c,d⟩:=id f;ac_rfl;have N:((n-1-i:Nat):Int)-1=(n:Int)-1-((i+1:Nat):Int):=by symm
  rw[N] at f;exact⟨u,rfl,z0f (s:={ s with heap:=q }) M c d #v[0,9] ⟨_,H,T,W,⟨rfl,λys R=>by rw[I.list_inj R J];exact Ad l⟩,f,λb j=>(m b j).1⟩⟩
 done:=by
  intro X C F A L i pins s σ H E I m g y;subst C F A;have B:i=n:=y;subst B;nofun;obtain⟨G,r,O,f3,t,D⟩:=m it (by simp);ac_rfl;have e:(i:Int)-1-(i:Int)=-1:=by symm
  rw[e] at g;exact wpAny_pyNext_rev_end (I.ok.hd L) g λq eb=>⟨rfl,I.turned (t':=s.toks) (λb o j e=>eb b o j e) G r f3 t D⟩
 self:=λ_ _ _ _ _ g h=>wpAny_pyIter_revIter g h
section
variable {X:Cx}{tg:Zi}
abbrev iRev (K:Zg) (t:TA):TI:=λσ H R=>t σ H λv b=>∃a x,v=[.ref a]/\SqL K b a x/\R (Itv K a x.length) b
theorem z85 {l:Zi}{t:TA}{p pos:Pos} (z:Gl X "reversed") (A:X.mg "reversed" = Zb) (m:PA X [l] t) (u:starEach [l] X.env=[(Zc,eval l X.env)]:=by rfl) :
  PI X tg (.Call (.Name "reversed" p) [l] [] pos) (iRev X.K t):=by
 intro pins s σ H R I h;refine Call_ (zdb I z A boot_reversed (Cu (thn (m pos pins s σ H _ I h) λE c ⟨D,g,f,C,y⟩=>?_) u rfl));nofun;obtain⟨a,x,e,v,q⟩:=y;ac_rfl;subst e;cases C with
 | cons r w =>
  cases w;cases r;nofun;obtain⟨i,B,j,F⟩:=f.list v;ac_rfl;refine call_reversed_list j.isList ?_;have d:(c.heap.push (revObj a ((i.toArray.size:Int)-1))).IsRevIter c.heap.objs.size a ((i.toArray.size:Int)-1):=⟨_,Aq _ rfl,rfl,rfl⟩;refine wpAny_pyIter_revIter d ?_;refine⟨c.heap.objs.size,[c.heap.objs.size],_,_,g,rfl,f.kept (t':=c.toks) λb o e=>Ac _ e,zzf a _ x.length,?_,λb k=>?_,q⟩
  ·have e:((i.toArray.size:Int)-1)=(x.length:Int)-1-((0:Nat):Int):=by have:=B.length;simp;symm
   rw[e] at d;have n:((i.toArray.size:Int)-1)=(x.length:Int)-1-((0:Nat):Int):=e;dsimp only;rw[<-n];exact⟨_,Aq _ rfl,rfl,rfl⟩
  ·have e:b=c.heap.objs.size:=by simpa using k
   subst e;exact f.fpOk (Af _) (f.hok.fresh (Af _))
end
section
variable {κ:Type} [DecidableEq κ]
end
section
variable {P:Program}{w:World}{H:Hp}{h:Heap}{a:Zh}
end
section
variable {X:Cx}{pins:List (Zh × Obj)}{σ:St}{H:Hp}{s:Zf}{a:Zh}{y v:V}{u r:Ze}{o:Option V}{A:Around}{E:Ze->Zf->Prop}
end
section
variable {X:Cx}{pins:List (Zh × Obj)}{σ:St}{H:Hp}{s:Zf}{a:Zh}{kvs:List (Key × V)}{k:Key}{u:Ze}{A:Around}{E:Ze->Zf->Prop}
end
section
variable {X:Cx}{o i e value:Zi}{pos pos' tpos:Pos}{td ty tv:TE}
end
section
variable {X:Cx}{pos:Pos}
end
section
variable {X:Cx}{pins:List (Zh × Obj)}{σ:St}{H:Hp}{s:Zf}{a:Zh}{y d:V}{u r:Ze}{o:Option V}{A:Around}{E:Ze->Zf->Prop}
end
section
variable {X:Cx}{o e f:Zi}{apos cpos:Pos}{td ty tx:TE}
end
section
variable {X:Cx}{pins:List (Zh × Obj)}{σ:St}{H:Hp}{s:Zf}{a:Zh}{kvs:List (Key × V)}{A:Around}{E:Ze->Zf->Prop}
end
section
variable {X:Cx}{pins:List (Zh × Obj)}{σ:St}{H:Hp}{s:Zf}{a:Zh}{y:V}{u:Ze}{A:Around}{E:Ze->Zf->Prop}
end
section
variable {X:Cx}
theorem z92 {bs:List Bool}{a:List Ze}{i:Nat}{v:Ze}(r:Vals (bs.map V.bl) a)(h:a[i]?=Za v):∃b,bs[i]?=Za b/\v=.bool b:=by
 have d:=r.length;rw[Ab] at d;have e:i<bs.length:=by rw[d];exact (Ah.mp h).1
 obtain⟨u,c,f⟩:=r.get (i:=i) (x:=.bl bs[i]) (by rw[Ai,Ad e];rfl);rw[h] at c;ext c;exact⟨bs[i],Ad e,f⟩
theorem zje {bs:List Bool}{i:Nat}(h:i<bs.length):bs.getD i Zc=bs[i]:=by rw[Bi,Ad h];rfl
theorem zwk (bs:List Bool):((List.range bs.length).any λi=>bs.getD i Zc)=bs.any id:=by
 rw[Er,List.any_eq_true,List.any_eq_true];constructor
 ·rintro ⟨i,a,h⟩;rw[Bo] at a;refine⟨bs[i],List.getElem_mem a,?_⟩;rw[zje a] at h;exact h
 ·rintro ⟨b,c,h⟩;obtain⟨i,a,e⟩:=Ec.mp c;refine⟨i,Bo.mpr a,?_⟩;rw[zje a,e];exact h
theorem zya (bs:List Bool):((List.range bs.length).all λi=>bs.getD i Zc)=bs.all id:=by
 rw[Er,Bd,Bd];constructor
 ·intro h b c;obtain⟨i,a,e⟩:=Ec.mp c;have:=h i (Bo.mpr a);rw[zje a,e] at this;exact this
 ·intro h i a;rw[Bo] at a;rw[zje a];exact h _ (List.getElem_mem a)
theorem zp5 {P:Program}{w:World}{A:Around}{bs:List Bool}{a:List Ze}(r:Vals (bs.map V.bl) a):TruthOf P w A (λi v=>a.toArray[i]?=Za v) (λi=>bs.getD i Zc):=λi v s Q E c f=>by
 obtain⟨b,d,e⟩:=z92 r (by simpa using c);subst e;have:bs.getD i Zc=b:=by rw[Bi,d];rfl
 have h:Q (bs.getD i Zc) s:=f;rw[this] at h;exact Fe h
theorem zzw (l:X.calm=Zd):zeb X (.builtin "any") (λx H Q=>∃(a:Zh) (bs:List Bool),x=[.ref a]/\SqL X.K H a (bs.map V.bl)/\Q (.bl (bs.any id)) H):=by
 intro pins s σ H x n Q I r h;obtain⟨a,bs,rfl,g,q⟩:=h;obtain⟨u,rfl,m⟩:=vals1 r;cases m;obtain⟨i,d,p,v⟩:=I.list g;have f:=d.length;rw[Ab] at f;have j:a<s.heap.objs.size:=by obtain⟨o,e,_⟩:=p.isList;exact Ao e
 refine call_any_walk (Dp p.isList ?_);refine⟨s.heap.objs.size,_,[s.heap.objs.size],i.toArray.size,_,_,_,rfl,Walks.list (A:=X.A.in1) (show X.A.in1.handled=Zb from I.ok.hd l) _ a (Bb j) i.toArray,⟨⟨_,Aq _ rfl,rfl,rfl⟩,p.isList.push _⟩,zp5 d,λw t k=>?_⟩;have e:i.toArray.size=bs.length:=by simp;symm
 rw[e,zwk];refine⟨.bl _,H,I.kept λb o c=>?_,rfl,q⟩;exact k b o (by intro z;rw[Ax] at z;subst z;exact absurd (Ao c) (Bv _)) (Ac _ c)
theorem z00 (l:X.calm=Zd):zeb X (.builtin "all") (λx H Q=>∃(a:Zh) (bs:List Bool),x=[.ref a]/\SqL X.K H a (bs.map V.bl)/\Q (.bl (bs.all id)) H):=by
 intro pins s σ H x n Q I r h;obtain⟨a,bs,rfl,g,q⟩:=h;obtain⟨u,rfl,m⟩:=vals1 r;cases m;obtain⟨i,d,p,v⟩:=I.list g;have f:=d.length;rw[Ab] at f;have j:a<s.heap.objs.size:=by obtain⟨o,e,_⟩:=p.isList;exact Ao e
 refine call_all_walk (Dp p.isList ?_);refine⟨s.heap.objs.size,_,[s.heap.objs.size],i.toArray.size,_,_,_,rfl,Walks.list (A:=X.A.in1) (show X.A.in1.handled=Zb from I.ok.hd l) _ a (Bb j) i.toArray,⟨⟨_,Aq _ rfl,rfl,rfl⟩,p.isList.push _⟩,zp5 d,λw t k=>?_⟩;have e:i.toArray.size=bs.length:=by simp;symm
 rw[e,zya];refine⟨.bl _,H,I.kept λb o c=>?_,rfl,q⟩;exact k b o (by intro z;rw[Ax] at z;subst z;exact absurd (Ao c) (Bv _)) (Ac _ c)
theorem z15:zeb X (.builtin "isinstance") (λa H Q=>∃x t c b,a=[x,.ty c]/\TyOf X.K H x t/\PySem.W.kitOne X.K t (.type c)=Za b/\Q (.bl b) H):=by
 intro pins s σ H a k Q I r h;nofun;obtain⟨x,t,c,b,rfl,f,e,q⟩:=h;ac_rfl;cases r with
 | cons i d =>
  obtain⟨u,rfl,g⟩:=vals1 d;cases (show u=Ze.type c from g);exact zxp I i f e λj=>⟨.bl b,H,I.tok _,rfl,q⟩
theorem yb3:OpR X (compareOp .Is) (λx y H Q=>∃b,y=.bl b/\Q (.bl (decide (x=.bl b))) H):=by
 intro pins s σ H x y v u Q I r a h;obtain⟨b,rfl,q⟩:=h;cases a;cases x with
 |bl c=>cases r;exact El rfl (zai I q (by cases b<;>cases c<;>rfl))
 |non=>cases r;exact El rfl (zai I q (by cases b<;>rfl))
 |ref _=>cases r;exact El rfl (zai I q (by cases b<;>rfl))
 |ty _=>cases r;exact El rfl (zai I q (by cases b<;>rfl))
 |int _=>obtain⟨t,e⟩:=r;subst e;exact El rfl (zai I q (by cases b<;>rfl))
 |str _=>obtain⟨t,e⟩:=r;subst e;exact El rfl (zai I q (by cases b<;>rfl))
 |byt _=>obtain⟨t,e⟩:=r;subst e;exact El rfl (zai I q (by cases b<;>rfl))
 |flt _=>obtain⟨t,e⟩:=r;subst e;exact El rfl (zai I q (by cases b<;>rfl))
end
abbrev ybn (i j:Int):Prop:=Builtin.Int.intBits i<=2^20/\Builtin.Int.intBits j<=2^20
theorem z7s {X:Cx}:OpR X (binaryOp .Mult) (rI ybn λi j=>.int (i*j)):=opI λ_ _ _ _ _ _ _ h q=>mul_int q (IntMulOk.of_bits h.1 h.2)
structure Cal (P:Program) (w:World) (K:Zg) (mg:Str->Option Ze) (base:Heap) (n:Nat) (x:Str) (ps:List Str) (sp:Sp):Prop where
 ex:∃f fd,FnOk P w K mg base CX0 n f fd ps sp/\zfh K fd ps []/\PySem.W.keepIn K (.ref f)=Zd/\mg x=Za (.ref f)
theorem yab {X:Cx}{n k:Nat}{x:Str}{ps:List Str}{sp:Sp}{e:Zi}{es:List Zi}{t:TA}{p pos:Pos} (C:Cal X.prog X.w X.K X.mg X.base n x ps sp) (d:Room k X.A) (g:Gl X x) (i:PA X (e::es) t) (l:n<=k:=by decide)
  (h:(x==("__debug__" : Str))=Zc:=by decide) (j:starEach (e::es) X.env=(Zc,eval e X.env)::starEach es X.env:=by rfl) (a:(backTo pos (starEach es X.env)).any (·.1)=Zc:=by rfl) :
  PE X (.Call (.Name x p) (e::es) [] pos) (zn1 sp [] E0 t):=by
 nofun;obtain⟨f,o,F,b,c,m⟩:=C.ex;ac_rfl;exact zvi F (d.mono l) g m c b .nil z36 i h j a
theorem Same.new {p:Zh}{H:Hp}(h:H p=Zb)(o:HO):Same H (L2.upd H p o):=λb u e=>by rw[upd_ne (zae e h)];exact e
theorem SqL.of' {K:Zg}{H:Hp}{a:Zh}{xs:List V}(h:H a=Za (.lst xs)):SqL K H a xs:=.inl (.inl h)
abbrev MM:Int:=2305843009213693951
abbrev big:Nat:=1099511627776
abbrev Bits (xs:List Int):Prop:=∀x∈xs,x=0\/x=1
abbrev wordOf (xs:List Int):Int:=xs.foldr (λb a=>2*a+b) 0
theorem yaw:bootBuiltins "len" = Za (.builtin "len"):=by decide +kernel
theorem z89:bootBuiltins "abs" = Za (.builtin "abs"):=by decide +kernel
theorem z77:bootBuiltins "any" = Za (.builtin "any"):=by decide +kernel
theorem yar:bootBuiltins "all" = Za (.builtin "all"):=by decide +kernel
theorem z81:bootBuiltins "sum" = Za (.builtin "sum"):=by decide +kernel
theorem zcr:bootBuiltins "isinstance" = Za (.builtin "isinstance"):=by decide +kernel
theorem z20:bootBuiltins "int" = Za (.type "int"):=by decide +kernel
theorem z3r:bootBuiltins "bool" = Za (.type "bool"):=by decide +kernel
theorem z9y:bootBuiltins "str" = Za (.type "str"):=by decide +kernel
theorem zpo:bootBuiltins "tuple" = Za (.type "tuple"):=by decide +kernel
theorem z57:bootBuiltins "list" = Za (.type "list"):=by decide +kernel
theorem z1j {w:Int}{i:Nat}(h0:0<w)(h:w<=2^(200*i)):0<w*10^60/\w*10^60<=2^(200*(i+1)):=by
 have e:(2:Int)^(200*(i+1))=2^(200*i)*2^200:=by rw[Nat.mul_add,Int.pow_add]
 rw[e];refine⟨Int.mul_pos h0 #v[0,9],?_⟩;have b:w*10^60<=2^(200*i)*10^60:=Int.mul_le_mul_of_nonneg_right h #v[0,9];have a:(2:Int)^(200*i)*10^60<=2^(200*i)*2^200:=Int.mul_le_mul_of_nonneg_left #v[0,9] #v[];symm
theorem zjy {w:Int}{i:Nat}(h0:0<=w)(h:w<=2^(200*i))(c:i<=63):Builtin.Int.intBits w<=2^20:=by
 have b:(2:Int)^(200*i)<2^(200*i+1):=by rw[Int.pow_succ];have:(0:Int)<2^(200*i):=Int.pow_pos #v[0,9];symm
 have a:w.natAbs<2^(200*i+1):=by
  have:((w.natAbs:Nat):Int)<((2^(200*i+1):Nat):Int):=by
   rw[Int.natCast_pow];have e:((w.natAbs:Nat):Int)=w:=by symm
   rw[e];exact Int.lt_of_le_of_lt h b
  exact Int.ofNat_lt.mp this
 have:=PyProof.Rows.intBits_le a;symm
theorem zb5:∀{xs:List Int},Bits xs->0<=wordOf xs/\wordOf xs<2^xs.length
 |[],_=>by decide
 | x::r,h=>by
  have hx:=h x At;have ih:=zb5 (xs:=r) λy hy=>h y (Ag _ hy);show 0<=2*wordOf r+x/\2*wordOf r+x<2^(r.length+1);rw[Int.pow_succ];symm
abbrev zaj:Zi->Bool
 |.Starred ..=>Zc
 |_=>Zd
theorem zag {e:Zi}{es:List Zi}{env:Env}(h:zaj e=Zd):starEach (e::es) env=(Zc,eval e env)::starEach es env:=by
 cases e<;>first|rfl|(cases h)
theorem pac {X:Cx}{e:Zi}{es:List Zi}{te:TE}{t:TA}(b:PE X e te)(a:PA X es t)(h:zaj e=Zd:=by rfl):PA X (e::es) (za4 te t):=zal b a (zag h)
end L2
namespace L2
theorem noSome {α:Type}{a:α}{P:Prop}(h:Zb=Za a):P:=by cases h
open PySem PySem.Spec PyProof.Rows
noncomputable abbrev DKey:=Key ⊕ List Key
inductive W where
 |non|bl (b:Bool)|int (i:Int)|str (x:Str)|tup (xs:List W)|lst (xs:List W)|frl (xs:List W)|dic|dct (ks:List DKey) (vs:List W)|dcz (ks:List DKey) (vs:List W)
 deriving BEq,Inhabited
mutual
inductive Rep (K:Zg) (F:Hp):W->V->Prop where
 |non:Rep K F .non .non
 |bl (b:Bool):Rep K F (.bl b) (.bl b)
 |int (i:Int):Rep K F (.int i) (.int i)
 |str (x:Str):Rep K F (.str x) (.str x)
 |tup {ws:List W}{a:Zh}{vs:List V} (h:F a=Za (.tup vs)) (r:Reps K F ws vs):Rep K F (.tup ws) (.ref a)
 |lst {ws:List W}{a:Zh}{vs:List V} (h:F a=Za (.lst vs)) (r:Reps K F ws vs):Rep K F (.lst ws) (.ref a)
 |frl {ws:List W}{a:Zh}{vs:List V} (h:SqL K F a vs) (r:Reps K F ws vs):Rep K F (.frl ws) (.ref a)
 |dic {a:Zh}{kvs:List (Key×V)} (h:F a=Za (.dK kvs)):Rep K F .dic (.ref a)
 |dct {a:Zh}{ks:List Key}{ws:List W}{vs:List V} (h:F a=Za (.dK (ks.zip vs))) (hl:ks.length=vs.length) (r:Reps K F ws vs):Rep K F (.dct (ks.map .inl) ws) (.ref a)
 |dctT {a:Zh}{ks:List (List Key)}{ws:List W}{vs:List V} (h:F a=Za (.dT (ks.zip vs))) (hl:ks.length=vs.length) (r:Reps K F ws vs):Rep K F (.dct (ks.map .inr) ws) (.ref a)
 |dcz {a:Zh}{o:Obj}{ks:List Key}{ws:List W}{vs:List V} (h:F a=Za (.frz o (.dK (ks.zip vs)))) (hl:ks.length=vs.length) (r:Reps K F ws vs):Rep K F (.dcz (ks.map .inl) ws) (.ref a)
 |dczT {a:Zh}{o:Obj}{ks:List (List Key)}{ws:List W}{vs:List V} (h:F a=Za (.frz o (.dT (ks.zip vs)))) (hl:ks.length=vs.length) (r:Reps K F ws vs):Rep K F (.dcz (ks.map .inr) ws) (.ref a)
inductive Reps (K:Zg) (F:Hp):List W->List V->Prop where
 |nil:Reps K F [] []
 |cons {w:W}{v:V}{ws:List W}{vs:List V} (h:Rep K F w v) (r:Reps K F ws vs):Reps K F (w::ws) (v::vs)
end
theorem zeo {α:Type}{l:List α}{i j:Nat}{x y:α}(a:i<l.length)(h:(l.set i x)[j]?=Za y):(j=i/\y=x)\/(j≠i/\l[j]?=Za y):=by
 by_cases e:j=i
 ·subst e;rw[Bn a] at h;exact .inl ⟨rfl,(sI h).symm⟩
 ·rw[Bt (Ne.symm e)] at h;exact .inr ⟨e,h⟩
theorem zy6 {α:Type}{l:List α}{i:Nat}{x:α}(h:l[i]?=Za x):l.set i x=l:=by
 apply Db;intro j;by_cases e:j=i
 ·subst e;rw[Bn (Ah.mp h).1,h]
 ·rw[Bt (Ne.symm e)]
section
variable {K:Zg}{F F' H H' : Hp}
mutual
theorem Rep.mono (s:Same F F'):∀{w:W}{v:V},Rep K F w v->Rep K F' w v
 |_,_,.non=>.non
 |_,_,.bl b=>.bl b
 |_,_,.int i=>.int i
 |_,_,.str x=>.str x
 |_,_,.tup h r=>.tup (s _ _ h) (Reps.mono s r)
 |_,_,.lst h r=>.lst (s _ _ h) (Reps.mono s r)
 |_,_,.frl h r=>.frl (s.seq h) (Reps.mono s r)
 |_,_,.dic h=>.dic (s _ _ h)
 |_,_,.dct h a r=>.dct (s _ _ h) a (Reps.mono s r)
 |_,_,.dctT h a r=>.dctT (s _ _ h) a (Reps.mono s r)
 |_,_,.dcz h a r=>.dcz (s _ _ h) a (Reps.mono s r)
 |_,_,.dczT h a r=>.dczT (s _ _ h) a (Reps.mono s r)
theorem Reps.mono (s:Same F F'):∀{w:List W}{v:List V},Reps K F w v->Reps K F' w v
 |_,_,.nil=>.nil
 |_,_,.cons h r=>.cons (Rep.mono s h) (Reps.mono s r)
end
theorem Reps.length:∀{w:List W}{v:List V},Reps K F w v->w.length=v.length
 |_,_,.nil=>rfl
 |_,_,.cons _ r=>congrArg (· + 1) (Reps.length r)
theorem Reps.get:∀{a:List W}{b:List V}{i:Nat}{w:W},Reps K F a b->a[i]?=Za w->∃v,b[i]?=Za v/\Rep K F w v
 |_,_,_,_,.nil,e=>by simp at e
 |_,_,0,_,.cons h _,e=>by simp at e;subst e;exact⟨_,rfl,h⟩
 | _,_,i+1,w,.cons _ r,e=>by
  obtain⟨v,d,c⟩:=Reps.get (i:=i) (w:=w) r (by simpa using e);exact⟨v,by simpa using d,c⟩
theorem Reps.getV:∀{a:List W}{b:List V}{i:Nat}{v:V},Reps K F a b->b[i]?=Za v->∃w,a[i]?=Za w/\Rep K F w v
 |_,_,_,_,.nil,e=>by simp at e
 |_,_,0,_,.cons h _,e=>by simp at e;subst e;exact⟨_,rfl,h⟩
 | _,_,i+1,v,.cons _ r,e=>by
  obtain⟨w,d,c⟩:=Reps.getV (i:=i) (v:=v) r (by simpa using e);exact⟨w,by simpa using d,c⟩
theorem Reps.append:∀{x y:List W}{u w:List V},Reps K F x u->Reps K F y w->Reps K F (x++y) (u++w)
 |_,_,_,_,.nil,s=>s
 |_,_,_,_,.cons h r,s=>.cons h (Reps.append r s)
theorem Reps.take:∀{x:List W}{u:List V} (n:Nat),Reps K F x u->Reps K F (x.take n) (u.take n)
 |_,_,0,_=>.nil
 |_,_,_+1,.nil=>.nil
 |_,_,n+1,.cons h r=>.cons h (Reps.take n r)
theorem Reps.drop:∀{x:List W}{u:List V} (n:Nat),Reps K F x u->Reps K F (x.drop n) (u.drop n)
 |_,_,0,r=>r
 |_,_,_+1,.nil=>.nil
 |_,_,n+1,.cons _ r=>Reps.drop n r
theorem Reps.set {w:W}{v:V}(h:Rep K F w v):∀{x:List W}{u:List V} (i:Nat),Reps K F x u->Reps K F (x.set i w) (u.set i v)
 |_,_,_,.nil=>.nil
 |_,_,0,.cons _ r=>.cons h r
 |_,_,i+1,.cons q r=>.cons q (Reps.set h i r)
theorem Reps.rep {xs:List W}{us:List V}(r:Reps K F xs us):∀k:Nat,Reps K F (List.replicate k xs).flatten (List.replicate k us).flatten
 |0=>.nil
 |k+1=>by rw[Ch,Ch,Ed,Ed];exact r.append (r.rep k)
abbrev isIt:W->V->Prop
 |.int i,v=>v=.int i
 |.bl b,v=>v=.bl b
 |_,_=>True
theorem Rep.isIt {w:W}{v:V}(h:Rep K F w v):isIt w v:=by cases h<;>first|rfl|trivial
theorem Reps.uncons {w:W}{ws:List W}{vs:List V}(h:Reps K F (w::ws) vs):∃v u,vs=v::u/\Rep K F w v/\Reps K F ws u:=by
 cases h with
 |cons h r=>exact⟨_,_,rfl,h,r⟩
theorem Reps.ints:∀{a:List Int}{b:List V},Reps K F (a.map W.int) b->b=a.map V.int:=by
 intro a
 induction a with
 |nil=>intro b h;cases h;rfl
 | cons n a i =>
  intro b h;obtain⟨v,u,e,d,c⟩:=Reps.uncons h;rw[e,i c,show v=.int n from d.isIt];rfl
theorem Reps.ofInts:∀(a:List Int),Reps K F (a.map W.int) (a.map V.int)
 |[]=>.nil
 |n::a=>.cons (.int n) (Reps.ofInts a)
theorem Reps.bls:∀{bs:List Bool}{a:List V},Reps K F (bs.map W.bl) a->a=bs.map V.bl:=by
 intro b
 induction b with
 |nil=>intro a h;cases h;rfl
 | cons n b i =>
  intro a h;obtain⟨v,u,e,d,c⟩:=Reps.uncons h;rw[e,i c,show v=.bl n from d.isIt];rfl
noncomputable abbrev En:=List (Option (W×Bool))
noncomputable abbrev Prt:=Zh->HO->Prop
inductive OwnR (K:Zg) (F:Hp):W->HO->Prop where
 |lst {ws:List W}{vs:List V} (r:Reps K F ws vs):OwnR K F (.lst ws) (.lst vs)
 |dct {ks:List Key}{ws:List W}{vs:List V} (hl:ks.length=vs.length) (r:Reps K F ws vs):OwnR K F (.dct (ks.map .inl) ws) (.dK (ks.zip vs))
 |dctT {ks:List (List Key)}{ws:List W}{vs:List V} (hl:ks.length=vs.length) (r:Reps K F ws vs):OwnR K F (.dct (ks.map .inr) ws) (.dT (ks.zip vs))
theorem OwnR.mono {w:W}{o:HO}(s:Same F F')(h:OwnR K F w o):OwnR K F' w o:=by
 cases h with
 |lst r=>exact .lst (r.mono s)
 |dct a r=>exact .dct a (r.mono s)
 |dctT a r=>exact .dctT a (r.mono s)
theorem OwnR.rep {w:W}{o:HO}{a:Zh}(h:OwnR K F w o)(e:F a=Za o):Rep K F w (.ref a):=by
 cases h with
 |lst r=>exact .lst e r
 |dct b r=>exact .dct e b r
 |dctT b r=>exact .dctT e b r
theorem OwnR.list {ws:List W}{o:HO}(h:OwnR K F (.lst ws) o):∃v,o=.lst v/\Reps K F ws v:=by
 cases h with
 |lst r=>exact⟨_,rfl,r⟩
abbrev lams:List Str:=["_law_terms","_law_in_order","_law_poly_of","voted_terms","law"]
abbrev lamQ (x:Str):Str:=x++".<locals>."++"<lambda>"
abbrev zdc (c:Zh) (q:Str) (h:Heap):Prop:=∃o v t,h.get? c=Za o/\o.data=.fields v/\v[1]?=Za (.str q t)
abbrev z4s (K:Zg):Prop:=∀x∈lams,∀a∈lams,∀c b P,PySem.W.tabIn K x=Za (c,P)->PySem.W.tabIn K a=Za (b,P)->x=a
abbrev NoT (p:Prt):Prop:=∀b x,¬ p b (.tup x)
abbrev zrz (K:Zg) (F:Hp) (d:Prt) (H:Hp):Prop:=(z4s K/\NoT d)/\∀x∈lams,∀c P,PySem.W.tabIn K x=Za (c,P)->∃p:Array Ze,H P=Za (.tbl p)/\F P=Zb/\(∀o,¬ d P o)/\TriplesOk p.toList /\
 ∀pos b,codeAmong pos p.toList=Za b->∃a,b=.ref a/\F a=Za (.ext (zdc a (lamQ x)))
theorem zrz.go {F h H H':Hp}{f a:Prt}(T:zrz K F f H)(h4:∀b d,a b (.tup d)->f b (.tup d))(i:∀b p,H b=Za (.tbl p)->F b=Zb->H' b=Za (.tbl p)/\h b=Zb)(r:Same F h)(m:∀b p,H b=Za (.tbl p)->(∀o,¬ f b o)->∀o,¬ a b o):zrz K h a H':=⟨⟨T.1.1,λb d z=>T.1.2 b d (h4 b d z)⟩,λx u c P e=>by
 nofun;obtain⟨p,g,j,v,l,k⟩:=T.2 x u c P e;ac_rfl;refine⟨p,(i P p g j).1,(i P p g j).2,m P p g v,l,λpos s q=>?_⟩;obtain⟨w,n,t⟩:=k pos s q;exact⟨w,n,r _ _ t⟩⟩
structure Rel (K:Zg) (F:Hp) (pr:Prt) (en:En) (σ:St) (H:Hp):Prop where
 len:en.length=σ.length
 sub:Same F H
 val:∀(i:Nat) (w:W),en[i]?=Za (#v[w,6])->∃v,σ[i]?=Za (Za v)/\Rep K F w v
 own:∀(i:Nat) (w:W),en[i]?=Za (#v[w,5])->∃(a:Zh) (o:HO) (w':W),w=w'/\σ[i]?=Za (Za (V.ref a))/\H a=Za o/\F a=Zb/\OwnR K F w' o
 inj:∀(i j:Nat) (a:Zh) (w w':W),en[i]?=Za (#v[w,5])->en[j]?=Za (#v[w',5])->σ[i]?=Za (Za (V.ref a))->σ[j]?=Za (Za (V.ref a))->i=j
 prt:∀b o,pr b o->H b=Za o/\F b=Zb/\∀(i:Nat) (w:W),en[i]?=Za (#v[w,5])->σ[i]?≠Za (Za (V.ref b))
 tb:zrz K F pr H
abbrev Res (K:Zg) (F H:Hp) (p:Prt) (en:En) (σ:St):W×Bool->V->Prop
 |(w,Zc),v=>Rep K F w v
 |(w,Zd),v=>∃(a:Zh) (o:HO) (c:W),w=c/\v=V.ref a/\H a=Za o/\F a=Zb/\OwnR K F c o/\(∀(i:Nat) (c:W),en[i]?=Za (#v[c,5])->σ[i]?≠Za (Za (V.ref a)))/\∀b o,p b o->b≠a
abbrev RepB (K:Zg) (F H:Hp) (w:W) (v:V):Prop:=Rep K F w v\/∃(a:Zh) (o:HO) (b:W),w=b/\v=V.ref a/\H a=Za o/\OwnR K F b o
inductive Out (K:Zg) (F H:Hp):W×Bool->V->Hp->Prop where
 |val {w:W}{v:V} (r:Rep K F w v):Out K F H (w,Zc) v H
 |lst {p:Zh}{ws:List W}{vs:List V} (n:H p=Zb) (r:Reps K F ws vs):Out K F H (.lst ws,Zd) (.ref p) (upd H p (.lst vs))
 |tup {p:Zh}{ws:List W}{vs:List V} (n:H p=Zb) (r:Reps K F ws vs):Out K F H (.tup ws,Zc) (.ref p) (upd H p (.tup vs))
theorem Same.upd_both {F H:Hp}(s:Same F H)(p:Zh)(o:HO):Same (upd F p o) (upd H p o):=λb u e=>by
 by_cases h:b=p
 ·subst h;rw[upd_same] at e ⊢;exact e
 ·rw[upd_ne h] at e ⊢;exact s _ _ e
variable {pr:Prt}{en:En}{σ:St}
theorem Rel.lay (R:Rel K F pr en σ H){p:Zh}(j:H p=Zb)(o:HO):Rel K F pr en σ (upd H p o):=by
 have ne:∀a u,H a=Za u->a≠p:=λa u e=>zae e j;refine⟨R.len,R.sub.trans (Same.new j o),R.val,λi w e=>?_,R.inj,λq k l=>?_,R.tb.go (λ_ _ z=>z) (λb n e f=>⟨by rw[upd_ne (ne b _ e)];exact e,f⟩) (.refl F) λb n e h=>h⟩
 ·refine aG λG qG => ?_;obtain⟨a,v,r,d,g,c,s,m⟩:=R.own i w e;ac_rfl;exact⟨a,v,r,d,g,by rw[upd_ne (ne a _ c)];exact c,s,m⟩
 ·obtain⟨d,g,c⟩:=R.prt q k l;exact⟨by rw[upd_ne (ne _ _ d)];exact d,g,c⟩
theorem Rel.layF (R:Rel K F pr en σ H){p:Zh}(j:H p=Zb)(o:HO):Rel K (upd F p o) pr en σ (upd H p o):=by
 have ne:∀a u,H a=Za u->a≠p:=λa u e=>zae e j;have fp:F p=Zb:=R.sub.free j;have s:Same F (upd F p o):=Same.new fp o;refine⟨R.len,R.sub.upd_both p o,λi w e=>?_,λi w e=>?_,R.inj,λq k l=>?_,R.tb.go (λ_ _ z=>z) (λb r e f=>⟨by rw[upd_ne (ne b _ e)];exact e,by rw[upd_ne (ne b _ e)];exact f⟩) s λb r e h=>h⟩
 ·obtain⟨v,c,d⟩:=R.val i w e;exact⟨v,c,d.mono s⟩
 ·refine aG λG qG => ?_;obtain⟨a,n,t,c,d,g,x,m⟩:=R.own i w e;ac_rfl;exact⟨a,n,t,c,d,by rw[upd_ne (ne a _ g)];exact g,by rw[upd_ne (ne a _ g)];exact x,m.mono s⟩
 ·obtain⟨c,d,g⟩:=R.prt q k l;exact⟨by rw[upd_ne (ne _ _ c)];exact c,by rw[upd_ne (ne _ _ c)];exact d,g⟩
theorem Out.close {r:W×Bool}{v:V} (R:Rel K F pr en σ H) (o:Out K F H r v H'):∃c,Same F c/\Rel K c pr en σ H'/\Res K c H' pr en σ r v:=by
 cases o with
 |val r=>exact⟨F,.refl F,R,r⟩
 | @lst p w b n r =>
  refine⟨F,.refl F,R.lay n _,p,_,_,rfl,rfl,upd_same,R.sub.free n,.lst r,λi j e z=>?_,λq d g z=>?_⟩
  ·obtain ⟨a,b,w,m,f,h,l,k⟩:=R.own i j e
   rw[f] at z;cases z;rw[n] at h;exists h
  ·have:=(R.prt q d g).1
   rw[z,n] at this;exists this
 |@tup p w b n r=>exact⟨upd F p (.tup b),Same.new (R.sub.free n) _,R.layF n _,.tup upd_same (r.mono (Same.new (R.sub.free n) _))⟩
theorem Out.mono {r:W×Bool}{v:V}(s:Same F F')(o:Out K F H r v H'):Out K F' H r v H':=by
 cases o with
 |val r=>exact .val (r.mono s)
 |lst n r=>exact .lst n (r.mono s)
 |tup n r=>exact .tup n (r.mono s)
theorem Res.freeze {r:W×Bool}{v:V} (R:Rel K F pr en σ H) (h:Res K F H pr en σ r v):∃l,Same F l/\Rel K l pr en σ H/\Rep K l r.1 v:=by
 obtain⟨w,b⟩:=r;cases b with
 |false=>exact⟨F,.refl F,R,h⟩
 | true =>
  nofun;obtain⟨a,j,J,rfl,rfl,A,E,o,B,I⟩:=h;ac_rfl;have s:Same F (upd F a j):=Same.new E _;have D:∀p,j≠.tbl p:=λp z=>by cases o<;>cases z
  refine⟨upd F a j,s,⟨R.len,λb u e=>?_,λi w e=>?_,λi w e=>?_,R.inj,λq t x=>?_,R.tb.go (λ_ _ z=>z) (λb p e f=>⟨e,by rw[upd_ne (λz=>by subst z;rw[A] at e;exact D p (sI e))];exact f⟩) s λb p e h=>h⟩,(o.mono s).rep upd_same⟩
  ·by_cases n:b=a
   ·subst n;rw[upd_same] at e;ext e;exact A
   ·rw[upd_ne n] at e;exact R.sub _ _ e
  ·obtain ⟨v,d,c⟩:=R.val i w e
   exact⟨v,d,c.mono s⟩
  ·refine aG λL qG => ?_
   obtain⟨y,k,m,d,c,g,G,C⟩:=R.own i w e;ac_rfl;have ne:y≠a:=λz=>by subst z;exact B i w e c
   exact⟨y,k,m,d,c,g,by rw[upd_ne ne];exact G,C.mono s⟩
  ·obtain ⟨d,c,g⟩:=R.prt q t x
   exact⟨d,by rw[upd_ne (I q t x)];exact c,g⟩
theorem Rel.freeze (R:Rel K F pr en σ H) {i:Nat}{w:W}{v:V}{fl:Bool} (e:en[i]?=Za (Za (w,fl))) (n:σ[i]?=Za (Za v)):∃C,Same F C/\Rel K C pr (en.set i (Za (w,Zc))) σ H/\Rep K C w v:=by
 have hi:i<en.length:=(Ah.mp e).1;cases fl with
 | false =>
  obtain⟨I,J,r⟩:=R.val i w e;rw[n] at J;cases J;refine⟨F,.refl F,?_,r⟩;rw[zy6 e];exact R
 | true =>
  nofun;obtain⟨a,t,ws,X,r,G,M,B⟩:=R.own i w e;ac_rfl;subst X;rw[n] at r;cases r;have s:Same F (upd F a t):=Same.new M _;have P:∀p,t≠.tbl p:=λp z=>by cases B<;>cases z
  have g:∀j c b,(en.set i (Za (w,Zc)))[j]?=Za (Za (c,b))->(j=i/\c=w/\b=Zc)\/(j≠i/\en[j]?=Za (Za (c,b))):=λj c b h=>by
   rcases zeo hi h with⟨z,q⟩|z
   ·cases q;exact .inl ⟨z,rfl,rfl⟩
   ·exact .inr z
  refine⟨upd F a t,s,⟨by rw[Bq];exact R.len,λb u d=>?_,λj c d=>?_,λj c d=>?_,λj k b T Y e1 L=>?_,λq Q S=>?_,R.tb.go (λ_ _ z=>z) (λb p e f=>⟨e,by rw[upd_ne (λz=>by subst z;rw[G] at e;exact P p (sI e))];exact f⟩) s λb p e h=>h⟩,(B.mono s).rep upd_same⟩
  ·by_cases E:b=a
   ·subst E;rw[upd_same] at d;ext d;exact G
   ·rw[upd_ne E] at d;exact R.sub _ _ d
  ·rcases g j c Zc d with ⟨rfl,rfl,_⟩ | ⟨_,z⟩
   ·exact⟨_,n,(B.mono s).rep upd_same⟩
   ·obtain ⟨I, m,l⟩:=R.val j c z
    exact⟨I,m,l.mono s⟩
  ·rcases g j c Zd d with ⟨_,_,z⟩ | ⟨ne,z⟩
   ·cases z
   ·refine aG λGg qG => ?_
    obtain⟨y,A,D,m,l,o,U,N⟩:=R.own j c z;ac_rfl;have x:y≠a:=λq=>by subst q;exact ne (R.inj j i y _ _ z e l n)
    exact⟨y,A,D,m,l,o,by rw[upd_ne x];exact U,N.mono s⟩
  ·rcases g j T Zd e1 with ⟨_,_,z⟩ | ⟨_,Z⟩
   ·cases z
   ·rcases g k Y Zd L with ⟨_,_,z⟩ | ⟨_,O⟩
    ·cases z
    ·exact R.inj j k b _ _ Z O
  ·obtain ⟨m,l,o⟩:=R.prt q Q S
   have ne:q≠a:=λz=>by
    have:=o i _ e;rw[n,z] at this;exact this rfl
   refine⟨m,by rw[upd_ne ne];exact l,λj c d=>?_⟩;rcases g j c Zd d with⟨_,_,z⟩|⟨_,z⟩
   ·cases z
   ·exact o j c z
theorem Rel.repB (R:Rel K F pr en σ H) {i:Nat}{w:W}{fl:Bool}{v:V} (e:en[i]?=Za (Za (w,fl))) (c:σ[i]?=Za (Za v)):RepB K F H w v:=by
 cases fl with
 | false =>
  obtain⟨j,b,h⟩:=R.val i w e;rw[c] at b;cases b;exact .inl h
 | true =>
  nofun;obtain⟨a,o,g,b,h,f,k,d⟩:=R.own i w e;ac_rfl;rw[c] at h;cases h;exact .inr ⟨a,o,g,b,rfl,f,d⟩
theorem Rel.has (R:Rel K F pr en σ H){i:Nat}{w:W}{fl:Bool}(e:en[i]?=Za (Za (w,fl))):∃v,σ[i]?=Za (Za v):=by
 cases fl with
 |false=>obtain⟨v,h,_⟩:=R.val i w e;exact⟨v,h⟩
 |true=>obtain⟨a,_,_,_,h,_⟩:=R.own i w e;exact⟨_,h⟩
theorem Rel.store (R:Rel K F pr en σ H){i:Nat}{r:W×Bool}{v:V}(h:Res K F H pr en σ r v)(L:i<en.length):Rel K F pr (en.set i (Za r)) (σ.set i (Za v)) H:=by
 have C:i<σ.length:=by rw[<-R.len];exact L
 have g:∀j x,(en.set i (Za r))[j]?=Za (Za x)->(j=i/\x=r)\/(j≠i/\en[j]?=Za (Za x)):=λj x h=>by
  rcases zeo L h with⟨z,q⟩|z
  ·ext q;exact .inl ⟨z,rfl⟩
  ·exact .inr z
 have m:(σ.set i (Za v))[i]?=Za (Za v):=Bn C;have s:∀j,j≠i->(σ.set i (Za v))[j]?=σ[j]?:=λj b=>Bt (Ne.symm b);refine⟨by rw[Bq,Bq];exact R.len,R.sub,λj w e=>?_,λj w e=>?_,λj k a Q S P E=>?_,λq G I=>?_,R.tb⟩
 ·rcases g j _ e with⟨rfl,z⟩|⟨b,z⟩
  ·subst z;exact⟨v,m,h⟩
  ·rw[s j b];exact R.val j w z
 ·rcases g j _ e with⟨rfl,z⟩|⟨b,z⟩
  ·subst z;obtain⟨a,t,o,u,f,n,p,A,_⟩:=h;exact⟨a,t,o,u,by rw[m,f],n,p,A⟩
  ·rw[s j b];exact R.own j w z
 ·intro c d;rcases g j _ P with⟨rfl,y⟩|⟨b,y⟩
  ·rcases g k _ E with⟨rfl,l⟩|⟨D,l⟩
   ·rfl
   ·subst y;obtain⟨J,t,o,u,f,n,p,A,B,_⟩:=h;rw[m,f] at c;cases c;rw[s k D] at d;exact absurd d (B k _ l)
  ·rcases g k _ E with⟨rfl,l⟩|⟨D,l⟩
   ·subst l;obtain⟨J,t,o,u,f,n,p,A,B,_⟩:=h;rw[m,f] at d;cases d;rw[s j b] at c;exact absurd c (B j _ y)
   ·rw[s j b] at c;rw[s k D] at d;exact R.inj j k a _ _ y l c d
 ·obtain⟨c,d,M⟩:=R.prt q G I;refine⟨c,d,λj w e=>?_⟩;rcases g j _ e with⟨rfl,z⟩|⟨b,z⟩
  ·subst z;obtain⟨J,t,o,u,f,n,p,A,B,N⟩:=h;rw[m,f];intro O;cases O;exact N q G I rfl
  ·rw[s j b];exact M j w z
theorem Rel.changeO (R:Rel K F pr en σ H){i:Nat}{w c:W}{a:Zh}{y:HO}(e:en[i]?=Za (#v[w,5]))(s:σ[i]?=Za (Za (.ref a)))(r:OwnR K F c y):Rel K F pr (en.set i (#v[c,5])) σ (upd H a y):=by
 have Y:i<en.length:=(Ah.mp e).1;nofun;obtain⟨a0,J,Z,h1,I,O,G,L⟩:=R.own i w e;ac_rfl;rw[s] at I;cases I;have Q:∀p,J≠.tbl p:=λp z=>by cases L<;>cases z
 have nx:∀φ,J≠.ext φ:=λp z=>by cases L<;>cases z
 have g:∀j x,(en.set i (#v[c,5]))[j]?=Za (Za x)->(j=i/\x=(c,Zd))\/(j≠i/\en[j]?=Za (Za x)):=λj x h=>by
  rcases zeo Y h with⟨z,q⟩|z
  ·ext q;exact .inl ⟨z,rfl⟩
  ·exact .inr z
 refine⟨by rw[Bq];exact R.len,λb u t=>?_,λj m o=>?_,λj m o=>?_,λj k b w1 w2 V M n d=>?_,λq S T=>?_,R.tb.go (λ_ _ z=>z) (λb p e f=>⟨by rw[upd_ne (λz=>by subst z;rw[O] at e;exact Q p (sI e))];exact e,f⟩) (.refl F) λb p e h=>h⟩
 ·have:b≠a:=λz=>by subst z;rw[G] at t;cases t
  rw[upd_ne this];exact R.sub _ _ t
 ·rcases g j _ o with⟨_,z⟩|⟨_,z⟩
  ·cases z
  ·exact R.val j m z
 ·rcases g j _ o with⟨rfl,z⟩|⟨X,z⟩
  ·cases z;exact⟨a,y,c,rfl,s,upd_same,G,r⟩
  ·refine aG λGg qG => ?_;obtain⟨B,E,D,n,d,l,U,P⟩:=R.own j m z;ac_rfl;have ne:B≠a:=λN=>by subst N;exact X (R.inj j i B _ _ z e d s)
   exact⟨B,E,D,n,d,by rw[upd_ne ne];exact l,U,P⟩
 ·have C:∃c,en[j]?=Za (Za (c,Zd)):=by
   rcases g j _ V with⟨rfl,_⟩|⟨_,z⟩
   ·exact⟨_,e⟩
   ·exact⟨_,z⟩
  have A:∃c,en[k]?=Za (#v[c,5]):=by
   rcases g k _ M with⟨rfl,_⟩|⟨_,z⟩
   ·exact⟨_,e⟩
   ·exact⟨_,z⟩
  obtain⟨_,C⟩:=C;obtain⟨_,A⟩:=A;exact R.inj j k b _ _ C A n d
 ·obtain ⟨n,d,l⟩:=R.prt q S T;have ne:q≠a:=λz=>by
   have:=l i _ e;rw[s,z] at this;exact this rfl
  refine⟨by rw[upd_ne ne];exact n,d,λj m o=>?_⟩;rcases g j _ o with⟨rfl,_⟩|⟨_,z⟩
  ·exact l j _ e
  ·exact l j m z
theorem Rel.change (R:Rel K F pr en σ H){i:Nat}{w:W}{a:Zh}{ws':List W}{b:List V}(e:en[i]?=Za (#v[w,5]))(h:σ[i]?=Za (Za (.ref a)))(r:Reps K F ws' b):Rel K F pr (en.set i (#v[ws',2])) σ (upd H a (.lst b)):=R.changeO e h (.lst r)
theorem Rel.ownL (R:Rel K F pr en σ H){i:Nat}{ws:List W}(e:en[i]?=Za (#v[ws,2])):∃(a:Zh) (b:List V) (w:List W),W.lst ws=.lst w/\σ[i]?=Za (Za (V.ref a))/\H a=Za (.lst b)/\F a=Zb/\Reps K F w b:=by
 nofun;obtain⟨a,o,j,c,h,f,g,d⟩:=R.own i _ e;ac_rfl;subst c;obtain⟨b,rfl,r⟩:=d.list;exact⟨a,b,ws,rfl,h,f,g,r⟩
end
end L2
namespace L2
open PySem PySem.Spec PyProof.Rows
noncomputable abbrev GE:=En->Option (En×(W×Bool))
noncomputable abbrev GA:=En->Option (En×(W ⊕ Nat))
noncomputable abbrev GT:=En->Option (En×Bool)
noncomputable abbrev GAs:=En->Option (En×List (W ⊕ Nat))
noncomputable abbrev GL:=En->Option (En×List W)
abbrev ArgR (K:Zg) (F:Hp) (σ:St):W ⊕ Nat->V->Prop
 |.inl w,v=>Rep K F w v
 |.inr i,v=>σ[i]?=Za (Za v)
inductive ArgRs (K:Zg) (F:Hp) (σ:St):List (W ⊕ Nat)->List V->Prop where
 |nil:ArgRs K F σ [] []
 |cons {x:W ⊕ Nat}{v:V}{xs:List (W ⊕ Nat)}{vs:List V} (h:ArgR K F σ x v) (r:ArgRs K F σ xs vs):ArgRs K F σ (x::xs) (v::vs)
abbrev resA (en:En):W ⊕ Nat->Option W
 |.inl w=>Za w
 | .inr i=>match en[i]? with
  |some (Za (w,_))=>Za w
  |_=>Zb
section
variable {K:Zg}{F F' H:Hp}{pr:Prt}{en:En}{σ:St}
theorem ArgR.mono (s:Same F F'){x:W ⊕ Nat}{v:V}(h:ArgR K F σ x v):ArgR K F' σ x v:=by
 cases x with
 |inl w=>exact Rep.mono s h
 |inr i=>exact h
theorem ArgR.repB (R:Rel K F pr en σ H) {x:W ⊕ Nat}{v:V}{w:W} (h:ArgR K F σ x v) (e:resA en x=Za w):RepB K F H w v:=by
 cases x with
 |inl u=>ext e;exact .inl h
 | inr i =>
  unfold resA at e;cases q:en[i]? with
  |none=>simp only [q] at e;exists e
  | some o =>
   cases o with
   |none=>simp only [q] at e;exists e
   | some p =>
    obtain⟨u,fl⟩:=p;simp only [q] at e;ext e;exact R.repB q h
end
abbrev tE (K:Zg) (g:GE):TE:=λσ H Q=>∃F pr en e r,Rel K F pr en σ H/\g en=Za (e,r)/\∀b a v,Same F b->Rel K b pr e σ a->Res K b a pr e σ r v->Q v a
abbrev tA (K:Zg) (g:GA):TE:=λσ H Q=>∃F pr en e x,Rel K F pr en σ H/\g en=Za (e,x)/\∀a b v,Same F a->Rel K a pr e σ b->ArgR K a σ x v->Q v b
abbrev tT (K:Zg) (g:GT):TT:=λσ H Q=>∃F pr en e b,Rel K F pr en σ H/\g en=Za (e,b)/\∀c a,Same F c->Rel K c pr e σ a->Q b a
abbrev tAs (K:Zg) (g:GAs):TA:=λσ H Q=>∃F pr en e x,Rel K F pr en σ H/\g en=Za (e,x)/\∀a b v,Same F a->Rel K a pr e σ b->ArgRs K a σ x v->Q v b
theorem PE.wk {X:Cx}{e:Zi}{t t':TE}(h:PE X e t)(i:∀σ H Q,t' σ H Q->t σ H Q):PE X e t':=λpins s σ H Q I q=>h pins s σ H Q I (i σ H Q q)
theorem PT.wk {X:Cx}{e:Zi}{t t':TT}(h:PT X e t)(i:∀σ H Q,t' σ H Q->t σ H Q):PT X e t':=λpins s σ H Q I q=>h pins s σ H Q I (i σ H Q q)
theorem PW.wk {X:Cx}{e:Zi}{t t':TT}(h:PW X e t)(i:∀σ H Q,t' σ H Q->t σ H Q):PW X e t':=λw pins s σ H Q I q=>h w pins s σ H Q I (i σ H Q q)
theorem PA.wk {X:Cx}{es:List Zi}{t t':TA}(h:PA X es t)(i:∀σ H Q,t' σ H Q->t σ H Q):PA X es t':=λpos pins s σ H Q I q=>h pos pins s σ H Q I (i σ H Q q)
theorem PS.wk {X:Cx}{st:Stmt}{t t':TS}(h:PS X st t)(i:∀D σ H,t' D σ H->t D σ H):PS X st t':=λpins s σ H D I q=>h pins s σ H D I (i D σ H q)
theorem PSs.wk {X:Cx}{st:List Stmt}{t t':TS}(h:PSs X st t)(i:∀D σ H,t' D σ H->t D σ H):PSs X st t':=λpins s σ H D I q=>h pins s σ H D I (i D σ H q)
theorem PI.wk {X:Cx}{a e:Zi}{t t':TI}(h:PI X a e t)(i:∀σ H R,t' σ H R->t σ H R):PI X a e t':=λpins s σ H R I q=>h pins s σ H R I (i σ H R q)
abbrev gVar (i:Nat):GE:=λen=>match en[i]? with
 |some (Za (w,_))=>Za (en.set i (#v[w,6]),(w,Zc))
 |_=>Zb
abbrev zaa (i:Nat):GA:=λen=>match en[i]? with
 |some (#v[w,5])=>Za (en,.inr i)
 |some (#v[w,6])=>Za (en,.inl w)
 |_=>Zb
abbrev gC (w:W):GE:=λen=>Za (en,(w,Zc))
abbrev gArg (g:GE):GA:=λen=>(g en).bind λp=>Za (p.1,.inl p.2.1)
abbrev gA0:GAs:=λen=>Za (en,[])
abbrev gCns (a:GA) (as:GAs):GAs:=λen=>(a en).bind λp=>(as p.1).bind λq=>Za (q.1,p.2::q.2)
abbrev gOp1 (o:W->Option (W×Bool)) (a:GA):GE:=λen=>(a en).bind λp=>(resA p.1 p.2).bind λw=>(o w).bind λr=>Za (p.1,r)
abbrev gOp2 (o:W->W->Option (W×Bool)) (a b:GA):GE:=λen=>(a en).bind λp=>(b p.1).bind λq=>(resA q.1 p.2).bind λw=>(resA q.1 q.2).bind λu=>(o w u).bind λr=>Za (q.1,r)
abbrev zbc (en:En):List (W ⊕ Nat)->Option (List W)
 |[]=>Za []
 |x::b=>(resA en x).bind λw=>(zbc en b).bind λa=>Za (w::a)
abbrev gOpN (o:List W->Option (W×Bool)) (as:GAs):GE:=λen=>(as en).bind λp=>(zbc p.1 p.2).bind λw=>(o w).bind λr=>Za (p.1,r)
abbrev zak (g:GE):GT:=λen=>match g en with
 |some (e,(.bl b,_))=>Za (e,b)
 |_=>Zb
abbrev gAnd (a b:GE):GE:=λen=>match a en with
 |some (e,(.bl Zd,_))=>b e
 |some (e,(.bl Zc,_))=>Za (e,#v[3,8])
 |_=>Zb
abbrev gOr (a b:GE):GE:=λen=>match a en with
 |some (e,(.bl Zd,_))=>Za (e,#v[5,10])
 |some (e,(.bl Zc,_))=>b e
 |_=>Zb
abbrev gNot (a:GE):GE:=λen=>match a en with
 |some (e,(.bl b,_))=>Za (e,(.bl (!b),Zc))
 |_=>Zb
abbrev zhk (a b:GT):GT:=λen=>match a en with
 |#v[e,5]=>b e
 |#v[e,6]=>#v[e,6]
 |none=>Zb
abbrev gOrT (a b:GT):GT:=λen=>match a en with
 |#v[e,5]=>#v[e,5]
 |#v[e,6]=>b e
 |none=>Zb
abbrev zl2 (a:GT):GT:=λen=>match a en with
 |some (e,b)=>Za (e,!b)
 |none=>Zb
abbrev gIf (c:GT) (a b:GE):GE:=λen=>match c en with
 |#v[e,5]=>a e
 |#v[e,6]=>b e
 |none=>Zb
section
variable {K:Zg}{σ:St}{H:Hp}
theorem zzl {i:Nat}{Q:VK} (h:tE K (gVar i) σ H Q):tVar i σ H Q:=by
 obtain⟨F,pr,en,d,r,R,h,q⟩:=h;unfold gVar at h;cases e:en[i]? with
 |none=>simp only [e] at h;exists h
 | some o =>
  cases o with
  |none=>simp only [e] at h;exists h
  | some p =>
   obtain⟨w,fl⟩:=p;simp only [e] at h;cases h;obtain⟨v,a⟩:=R.has e;obtain⟨c,s,b,z⟩:=R.freeze e a;exact⟨v,a,q c H v s b z⟩
theorem zxb {i:Nat}{Q:VK} (h:tA K (zaa i) σ H Q):tVar i σ H Q:=by
 obtain⟨F,pr,en,b,r,R,h,q⟩:=h;unfold zaa at h;cases e:en[i]? with
 |none=>simp only [e] at h;exists h
 | some o =>
  cases o with
  |none=>simp only [e] at h;exists h
  | some p =>
   obtain⟨w,fl⟩:=p;cases fl with
   | true =>
    simp only [e] at h;cases h;obtain⟨v,a⟩:=R.has e;exact⟨v,a,q F H v (.refl F) R a⟩
   | false =>
    simp only [e] at h;cases h;obtain⟨v,a,z⟩:=R.val i w e;exact⟨v,a,q F H v (.refl F) R z⟩
theorem zdp {w:W}{v:V}{Q:VK}(a:∀F,Rep K F w v)(h:tE K (gC w) σ H Q):tC v σ H Q:=by
 obtain⟨F,pr,en,e,r,R,h,q⟩:=h;cases h;exact q F H v (.refl F) R (a F)
theorem zf9 {g:GE}{Q:VK}(h:tA K (gArg g) σ H Q):tE K g σ H Q:=by
 obtain⟨F,pr,en,d,x,R,h,q⟩:=h;obtain⟨⟨e,r⟩,i,h⟩:=bS h;cases h;refine⟨F,pr,en,e,r,R,i,λj a v s c z=>?_⟩;obtain⟨b,f,R2,y⟩:=z.freeze c;exact q b a v (s.trans f) R2 y
theorem zpz {Q:List V->Hp->Prop}(h:tAs K gA0 σ H Q):tNil σ H Q:=by
 obtain⟨F,pr,en,e,x,R,h,q⟩:=h;cases h;exact q F H [] (.refl F) R .nil
theorem zql {a:GA}{as:GAs}{Q:List V->Hp->Prop}(h:tAs K (gCns a as) σ H Q):tA K a σ H λx c=>tAs K as σ c λn b=>Q (x::n) b:=by
 nofun;obtain⟨F,pr,en,t,x,R,h,q⟩:=h;obtain⟨⟨e,y⟩,j,h⟩:=bS h;obtain⟨⟨d,l⟩,g,h⟩:=bS h;ac_rfl;cases h;exact⟨F,pr,en,e,y,R,j,λm c v f r o=>⟨m,pr,e,d,l,r,g,λk b i s R2 p=>q k b (v::i) (f.trans s) R2 (.cons (o.mono s) p)⟩⟩
abbrev OpS (K:Zg) (r:R2) (o:W->W->Option (W×Bool)):Prop:=∀F H b w d e c Q,Same F H->RepB K F H b d->RepB K F H w e->o b w=Za c->(∀v a,Out K F H c v a->Q v a)->r d e H Q
theorem zdr {r:R2}{o:W->W->Option (W×Bool)}{a b:GA}{Q:VK}(N:OpS K r o)(h:tE K (gOp2 o a b) σ H Q):tOp r (tA K a) (tA K b) σ H Q:=by
 nofun;obtain⟨F,pr,en,M,E,R,h,q⟩:=h;obtain⟨⟨e,G⟩,m,h⟩:=bS h;obtain⟨⟨f,x⟩,k,h⟩:=bS h;obtain⟨w,d,h⟩:=bS h;obtain⟨u,c,h⟩:=bS h;obtain⟨P,l,h⟩:=bS h;ac_rfl;cases h;refine⟨F,pr,en,e,G,R,m,λC O i g L I=>⟨C,pr,e,f,x,L,k,λA D j s R2 J=>?_⟩⟩;refine N A D w u i j E Q R2.sub ((I.mono s).repB R2 d) (J.repB R2 c) l λv t z=>?_;nofun;obtain⟨n,p,B,y⟩:=z.close R2;ac_rfl;exact q n t v (g.trans (s.trans p)) B y
abbrev OpS1 (K:Zg) (r:V->Hp->VK->Prop) (o:W->Option (W×Bool)):Prop:=∀F H w v a Q,Same F H->RepB K F H w v->o w=Za a->(∀u b,Out K F H a u b->Q u b)->r v H Q
theorem z1p {r:V->Hp->VK->Prop}{o:W->Option (W×Bool)}{a:GA}{Q:VK}(A:OpS1 K r o)(h:tE K (gOp1 o a) σ H Q):tUn r (tA K a) σ H Q:=by
 nofun;obtain⟨F,pr,en,u,n,R,h,q⟩:=h;obtain⟨⟨p,x⟩,g,h⟩:=bS h;obtain⟨w,b,h⟩:=bS h;obtain⟨B,f,h⟩:=bS h;ac_rfl;cases h;refine⟨F,pr,en,p,x,R,g,λm d e s c t=>?_⟩;refine A m d w e n Q c.sub (t.repB c b) f λv k z=>?_;nofun;obtain⟨i,j,l,y⟩:=z.close c;ac_rfl;exact q i k v (s.trans j) l y
inductive RepBs (K:Zg) (F H:Hp):List W->List V->Prop where
 |nil:RepBs K F H [] []
 |cons {w:W}{v:V}{ws:List W}{vs:List V} (h:RepB K F H w v) (r:RepBs K F H ws vs):RepBs K F H (w::ws) (v::vs)
theorem ArgRs.repBs {F:Hp}{pr:Prt}{en:En} (R:Rel K F pr en σ H):∀{x:List (W ⊕ Nat)}{v:List V}{b:List W},ArgRs K F σ x v->zbc en x=Za b->RepBs K F H b v
 |_,_,_,.nil,e=>by ext e;exact .nil
 | _,_,_,.cons h r,e=>by
  obtain⟨w,c,e⟩:=bS e;obtain⟨b,a,e⟩:=bS e;ext e;exact .cons (h.repB R c) (ArgRs.repBs R r a)
abbrev OpSN (K:Zg) (r:List V->Hp->VK->Prop) (o:List W->Option (W×Bool)):Prop:=∀F H w v a Q,Same F H->RepBs K F H w v->o w=Za a->(∀u b,Out K F H a u b->Q u b)->r v H Q
theorem zzb {r:List V->Hp->VK->Prop}{o:List W->Option (W×Bool)}{as:GAs}{Q:VK}(u:OpSN K r o)(h:tE K (gOpN o as) σ H Q):tCB r (tAs K as) σ H Q:=by
 nofun;obtain⟨F,pr,en,t,m,R,h,q⟩:=h;obtain⟨⟨n,x⟩,f,h⟩:=bS h;obtain⟨w,a,h⟩:=bS h;obtain⟨A,e,h⟩:=bS h;ac_rfl;cases h;refine⟨F,pr,en,n,x,R,f,λl c d s b p=>?_⟩;refine u l c w d m Q b.sub (p.repBs b a) e λv j z=>?_;nofun;obtain⟨g,i,k,y⟩:=z.close b;ac_rfl;exact q g j v (s.trans i) k y
theorem Res.isBl {F H:Hp}{pr:Prt}{en:En}{σ:St}{b fl:Bool}{v:V}(h:Res K F H pr en σ (.bl b,fl) v):v=.bl b:=by
 cases fl with
 |false=>cases (show Rep K F (.bl b) v from h);rfl
 |true=>obtain⟨_,_,_,e,_,_,_,q,_⟩:=h;subst e;cases q
theorem zgl {g:GE}{t:TE}{Q:Bool->Hp->Prop} (f:∀σ H Q,tE K g σ H Q->t σ H Q) (h:tT K (zak g) σ H Q):z90 t σ H Q:=by
 obtain⟨F,pr,en,j,b,R,h,q⟩:=h;unfold zak at h;refine f σ H _ ?_;cases e:g en with
 |none=>simp only [e] at h;exists h
 | some p =>
  obtain⟨k,w,fl⟩:=p;cases w with
  |bl c=>simp only [e] at h;cases h;exact⟨F,pr,en,_,_,R,e,λi a v s d z=>⟨b,z.isBl,q i a s d⟩⟩
  |_=>simp only [e] at h;exists h
theorem zy3 {a b:GE}{Q:VK} (h:tE K (gAnd a b) σ H Q):z8a (tE K a) (tE K b) σ H Q:=by
 nofun;obtain⟨F,pr,en,d,r,R,h,q⟩:=h;ac_rfl;unfold gAnd at h;cases e:a en with
 |none=>simp only [e] at h;exists h
 | some p =>
  obtain⟨k,w,fl⟩:=p;cases w with
  | bl c =>
   refine⟨F,pr,en,_,_,R,e,λg j v s f z=>⟨c,z.isBl,?_⟩⟩;cases c with
   | true =>
    simp only [e] at h;exact iteT ⟨g,pr,k,d,r,f,h,λm l v n R2 i=>q m l v (s.trans n) R2 i⟩
   | false =>
    simp only [e] at h;cases h;exact iteF (q g j _ s f (.bl Zc))
  |_=>simp only [e] at h;exists h
theorem zv9 {a b:GT}{Q:Bool->Hp->Prop} (h:tT K (zhk a b) σ H Q):tAnd (tT K a) (tT K b) σ H Q:=by
 nofun;obtain⟨F,pr,en,d,r,R,h,q⟩:=h;ac_rfl;unfold zhk at h;cases e:a en with
 |none=>simp only [e] at h;exists h
 | some p =>
  obtain⟨j,c⟩:=p;refine⟨F,pr,en,_,_,R,e,λg i s f=>?_⟩;cases c with
  |true=>simp only [e] at h;exact iteT ⟨g,pr,j,d,r,f,h,λl k m R2=>q l k (s.trans m) R2⟩
  |false=>simp only [e] at h;cases h;exact iteF (q g i s f)
theorem z0z {a b:GT}{Q:Bool->Hp->Prop} (h:tT K (gOrT a b) σ H Q):tOr (tT K a) (tT K b) σ H Q:=by
 nofun;obtain⟨F,pr,en,d,r,R,h,q⟩:=h;ac_rfl;unfold gOrT at h;cases e:a en with
 |none=>simp only [e] at h;exists h
 | some p =>
  obtain⟨j,c⟩:=p;refine⟨F,pr,en,_,_,R,e,λg i s f=>?_⟩;cases c with
  |false=>simp only [e] at h;exact iteF ⟨g,pr,j,d,r,f,h,λl k m R2=>q l k (s.trans m) R2⟩
  |true=>simp only [e] at h;cases h;exact iteT (q g i s f)
theorem zve {a:GT}{Q:Bool->Hp->Prop} (h:tT K (zl2 a) σ H Q):tNot (tT K a) σ H Q:=by
 obtain⟨F,pr,en,f,r,R,h,q⟩:=h;unfold zl2 at h;cases e:a en with
 |none=>simp only [e] at h;exists h
 | some p =>
  obtain⟨i,c⟩:=p;simp only [e] at h;cases h;exact⟨F,pr,en,_,_,R,e,λg b s d=>q g b s d⟩
theorem z6l {c:GT}{a b:GE}{Q:VK} (h:tE K (gIf c a b) σ H Q):tIf (tT K c) (tE K a) (tE K b) σ H Q:=by
 nofun;obtain⟨F,pr,en,f,r,R,h,q⟩:=h;ac_rfl;unfold gIf at h;cases e:c en with
 |none=>simp only [e] at h;exists h
 | some p =>
  obtain⟨j,d⟩:=p;refine⟨F,pr,en,_,_,R,e,λm n l k=>?_⟩;cases d with
  |true=>simp only [e] at h;exact iteT ⟨m,pr,j,f,r,k,h,λi g v s R2 z=>q i g v (l.trans s) R2 z⟩
  |false=>simp only [e] at h;exact iteF ⟨m,pr,j,f,r,k,h,λi g v s R2 z=>q i g v (l.trans s) R2 z⟩
end
abbrev zbo:List (W ⊕ Nat)->Option (List W)
 |[]=>Za []
 |.inl w::x=>(zbo x).bind λa=>Za (w::a)
 |.inr _::_=>Zb
theorem ArgRs.reps {K:Zg}{F:Hp}{σ:St}:∀{x:List (W ⊕ Nat)}{v:List V}{b:List W},ArgRs K F σ x v->zbo x=Za b->Reps K F b v
 |_,_,_,.nil,e=>by ext e;exact .nil
 | .inl w::x,_,_,.cons h r,e=>by
  obtain⟨b,a,e⟩:=bS (show (zbo x).bind _=_ from e);ext e;exact .cons h (ArgRs.reps r a)
 |.inr i::x,_,_,.cons h r,e=>by exists e
abbrev zco (as:GAs):GE:=λen=>(as en).bind λp=>(zbo p.2).bind λw=>if w.length<=sizeLine then Za (p.1,(.tup w,Zc)) else Zb
abbrev zap (as:GAs):GE:=λen=>(as en).bind λp=>(zbo p.2).bind λw=>if w.length<=sizeLine then Za (p.1,(.lst w,Zd)) else Zb
section
variable {K:Zg}{σ:St}{H:Hp}
theorem zzr {as:GAs}{Q:VK}(h:tE K (zco as) σ H Q):tTup (tAs K as) σ H Q:=by
 obtain⟨F,pr,en,k,r,R,h,q⟩:=h;obtain⟨⟨g,x⟩,c,h⟩:=bS h;obtain⟨w,b,h⟩:=bS h;split at h
 ·rename_i f;cases h;refine⟨F,pr,en,g,x,R,c,λn m v s j i=>?_⟩;have a:=i.reps b;refine⟨by rw[<-a.length];exact f,λp d=>?_⟩;obtain⟨e,l,R2,z⟩:=(Out.tup (K:=K) d a).close j;exact q e _ _ (s.trans l) R2 z
 ·exists h
theorem zyv {as:GAs}{Q:VK}(h:tE K (zap as) σ H Q):tLst (tAs K as) σ H Q:=by
 nofun;obtain⟨F,pr,en,k,r,R,h,q⟩:=h;obtain⟨⟨g,x⟩,c,h⟩:=bS h;obtain⟨w,b,h⟩:=bS h;ac_rfl;split at h
 ·rename_i f;cases h;refine⟨F,pr,en,g,x,R,c,λn m v s j i=>?_⟩;have a:=i.reps b;refine⟨by rw[<-a.length];exact f,λp d=>?_⟩;nofun;obtain⟨e,l,R2,z⟩:=(Out.lst (K:=K) d a).close j;ac_rfl;exact q e _ _ (s.trans l) R2 z
 ·exists h
abbrev z8v (o e:W->W->Option (W×Bool)) (a b c:GA):GE:=λen=>(a en).bind λp=>(b p.1).bind λq=>(resA q.1 p.2).bind λw=>(resA q.1 q.2).bind λu=>match o w u with
 |some #v[5,10]=>(c q.1).bind λt=>(resA t.1 q.2).bind λd=>(resA t.1 t.2).bind λz=>(e d z).bind λr=>Za (t.1,r)
 |some #v[3,8]=>Za (q.1,#v[3,8])
 |_=>Zb
end
section
variable {K:Zg}{F H:Hp}{v:V}
theorem RepB.int {i:Int}(h:RepB K F H (.int i) v):v=.int i:=by
 rcases h with h|⟨_,_,_,e,_,_,q⟩
 ·cases h;rfl
 ·subst e;cases q
theorem RepB.bl {b:Bool}(h:RepB K F H (.bl b) v):v=.bl b:=by
 rcases h with h|⟨_,_,_,e,_,_,q⟩
 ·cases h;rfl
 ·subst e;cases q
theorem RepB.str {x:Str}(h:RepB K F H (.str x) v):v=.str x:=by
 rcases h with h|⟨_,_,_,e,_,_,q⟩
 ·cases h;rfl
 ·subst e;cases q
theorem RepB.non (h:RepB K F H .non v):v=.non:=by
 rcases h with h|⟨_,_,_,e,_,_,q⟩
 ·cases h;rfl
 ·subst e;cases q
theorem RepB.lst {ws:List W}(s:Same F H)(h:RepB K F H (.lst ws) v):∃a b,v=.ref a/\H a=Za (.lst b)/\Reps K F ws b:=by
 rcases h with h|⟨a,o,w,e,c,h,r⟩
 ·cases h with
  |lst h r=>exact⟨_,_,rfl,s _ _ h,r⟩
 ·subst e;obtain⟨b,rfl,d⟩:=r.list;exact⟨a,b,c,h,d⟩
theorem RepB.tup {ws:List W}(s:Same F H)(h:RepB K F H (.tup ws) v):∃a b,v=.ref a/\H a=Za (.tup b)/\F a=Za (.tup b)/\Reps K F ws b:=by
 rcases h with h|⟨_,_,_,e,_,_,q⟩
 ·cases h with
  |tup h r=>exact⟨_,_,rfl,s _ _ h,h,r⟩
 ·subst e;cases q
theorem RepB.frl {ws:List W}(s:Same F H)(h:RepB K F H (.frl ws) v):∃a b,v=.ref a/\SqL K H a b/\Reps K F ws b:=by
 rcases h with h|⟨_,_,_,e,_,_,q⟩
 ·cases h with
  |frl h r=>exact⟨_,_,rfl,s.seq h,r⟩
 ·subst e;cases q
abbrev seqL:W->Option (List W)
 |.lst w=>Za w
 |.frl w=>Za w
 |_=>Zb
abbrev seqW:W->Option (List W)
 |.lst w=>Za w
 |.frl w=>Za w
 |.tup w=>Za w
 |_=>Zb
theorem RepB.seqL {w:W}{ws:List W}(s:Same F H)(h:RepB K F H w v)(e:L2.seqL w=Za ws):∃a b,v=.ref a/\SqL K H a b/\Reps K F ws b:=by
 cases w with
 |lst x=>ext e;obtain⟨a,b,e,h,r⟩:=h.lst s;exact⟨a,b,e,SqL.of' h,r⟩
 |frl x=>ext e;exact h.frl s
 |_=>exists e
theorem RepB.seqW {w:W}{ws:List W}(s:Same F H)(h:RepB K F H w v)(e:L2.seqW w=Za ws):∃a b,v=.ref a/\(SqL K H a b\/SqT K H a b)/\Reps K F ws b:=by
 cases w with
 |lst x=>ext e;obtain⟨a,b,e,h,r⟩:=h.lst s;exact⟨a,b,e,.inl (SqL.of' h),r⟩
 |frl x=>ext e;obtain⟨a,b,e,h,r⟩:=h.frl s;exact⟨a,b,e,.inl h,r⟩
 |tup x=>ext e;obtain⟨a,b,e,h,_,r⟩:=h.tup s;exact⟨a,b,e,.inr (.inl (.inl h)),r⟩
 |_=>exists e
end
noncomputable abbrev O2:=W->W->Option (W×Bool)
abbrev oI (c:Int->Int->Bool) (g:Int->Int->W):O2
 |.int i,.int j=>if c i j then #v[g i j,6] else Zb
 |_,_=>Zb
section
variable {K:Zg}
theorem zki {c:Int->Int->Bool}{C:Int->Int->Prop}{g:Int->Int->W}{g':Int->Int->V} (d:∀i j,c i j=Zd->C i j) (h:∀F i j,Rep K F (g i j) (g' i j)):OpS K (rI C g') (oI c g):=λF H b w v k f Q s a r e q=>by
 cases b with
 | int i =>
  cases w with
  | int j =>
   unfold oI at e;simp only at e;split at e
   ·rename_i z
    ext e;exact⟨i,j,a.int,r.int,d i j z,q _ _ (.val (h F i j))⟩
   ·exists e
  |_=>exists e
 |_=>exists e
theorem zb0 {g:Int->Int->W}{g':Int->Int->V} (h:∀F i j,Rep K F (g i j) (g' i j)):OpS K (rI0 g') (oI (λ_ _=>Zd) g):=λF H b w v d c Q s a r e q=>by
 cases b with
 | int i =>
  cases w with
  |int j=>ext e;exact⟨i,j,a.int,r.int,q _ _ (.val (h F i j))⟩
  |_=>exists e
 |_=>exists e
theorem OpS.or {r d:R2}{o i:O2}(h:OpS K r o)(h':OpS K d i):OpS K (λx y H Q=>r x y H Q\/d x y H Q) (λa b=>match o a b with|some p=>Za p|none=>i a b):=λF H c w v j k Q s g f e q=>by
 cases z:o c w with
 |some p=>simp only [z] at e;ext e;exact .inl (h F H c w v j _ Q s g f z q)
 |none=>simp only [z] at e;exact .inr (h' F H c w v j _ Q s g f e q)
end
abbrev oOr (o c:O2):O2:=λa b=>match o a b with|some p=>Za p|none=>c a b
abbrev oCat:O2
 |.lst x,.lst y=>if x.length+y.length<=sizeLine then #v[(x++y),2] else Zb
 |_,_=>Zb
abbrev z0d:O2
 |.tup (x::a),.tup y=>if (x::a).length+y.length<=sizeLine then #v[(x::a++y),3] else Zb
 |_,_=>Zb
abbrev z6t:O2
 |.tup [],.tup y=>#v[y,3]
 |_,_=>Zb
abbrev ycp:O2
 |.str x,.str y=>if x.length+y.length<=sizeLine then Za (.str (x++y),Zc) else Zb
 |_,_=>Zb
abbrev oRep:O2
 |.lst x,.int k=>if -(2^63)<=k/\k<2^63/\x.length*k.toNat<=sizeLine then #v[(List.replicate k.toNat x).flatten,2] else Zb
 |_,_=>Zb
section
variable {K:Zg}
theorem z7q:OpS K rCat oCat:=λF H l w n o m Q s k r e q=>by
 cases l with
 | lst x =>
  cases w with
  | lst y =>
   unfold oCat at e;simp only at e;split at e
   ·rename_i z
    ext e;nofun;obtain⟨a,v,g,j,c⟩:=k.lst s;obtain⟨b,u,f,i,d⟩:=r.lst s;ac_rfl;exact⟨a,b,v,u,g,f,j,i,by rw[<-c.length,<-d.length];exact z,λp h=>q _ _ (.lst h (c.append d))⟩
   ·exists e
  |_=>exists e
 |_=>exists e
theorem z6g:OpS K rRep oRep:=λF H g w j l i Q s f r e q=>by
 cases g with
 | lst x =>
  cases w with
  | int k =>
   unfold oRep at e;simp only at e;split at e
   ·rename_i z
    ext e;obtain⟨a,v,c,d,b⟩:=f.lst s;exact⟨a,k,v,c,r.int,d,z.1,z.2.1,by rw[<-b.length];exact z.2.2,λp h=>q _ _ (.lst h (b.rep _))⟩
   ·exists e
  |_=>exists e
 |_=>exists e
theorem zyz:OpS K (z93 K) z0d:=λF H j w y A C Q s o r e q=>by
 cases j with
 | tup f =>
  cases f with
  |nil=>cases w<;>exists e
  | cons x f =>
   cases w with
   | tup B =>
    unfold z0d at e;simp only at e;split at e
    ·rename_i z
     ext e;nofun;obtain⟨a,v,m,k,i,c⟩:=o.tup s;obtain⟨b,u,g,h,t,d⟩:=r.tup s;ac_rfl;refine⟨a,b,v,u,m,g,.inl (.inl k),.inl (.inl h),?_,by rw[<-c.length,<-d.length];exact z,λn=>?_,λ_ p l=>q _ _ (.tup l (c.append d))⟩
     ·intro e;subst e;cases c
     ·subst n
      cases d;rw[Bf] at q;exact q _ _ (.val (.tup i c))
    ·exists e
   |_=>exists e
 |_=>exists e
mutual
inductive DV (H:Hp):V->PyData->Prop where
 |non:DV H .non .none
 |bl (b:Bool):DV H (.bl b) (.bool b)
 |int (i:Int):DV H (.int i) (.int i)
 |str (x:Str):DV H (.str x) (.str x)
 |tup {a:Zh}{vs:List V}{ds:List PyData} (h:H a=Za (.tup vs)) (r:DVs H vs ds):DV H (.ref a) (.tuple ds)
 |lst {a:Zh}{vs:List V}{ds:List PyData} (h:H a=Za (.lst vs)) (r:DVs H vs ds):DV H (.ref a) (.list ds)
inductive DVs (H:Hp):List V->List PyData->Prop where
 |nil:DVs H [] []
 |cons {v:V}{d:PyData}{vs:List V}{ds:List PyData} (h:DV H v d) (r:DVs H vs ds):DVs H (v::vs) (d::ds)
end
section
variable {X:Cx}{pins:List (Zh × Obj)}{σ:St}{H:Hp}{s:Zf}
mutual
theorem DV.reads (I:Inv X pins σ H s):∀{v:V}{d:PyData}{u:Ze},DV H v d->RelV v u->∃a,Reads s.heap u d a
 |_,_,_,.non,r=>by cases (show _=Ze.none from r);exact⟨_,.none⟩
 |_,_,_,.bl b,r=>by cases (show _=Ze.bool b from r);exact⟨_,.bool b⟩
 |_,_,_,.int i,r=>by obtain⟨t,e⟩:=(show ∃t,_=Ze.int i t from r);subst e;exact⟨_,.int i t⟩
 |_,_,_,.str x,r=>by obtain⟨t,e⟩:=(show ∃t,_=Ze.str x t from r);subst e;exact⟨_,.str x t⟩
 | _,_,_,.tup h q,r=>by
  cases r;obtain⟨g,k,⟨o,e,c,n,f⟩,_⟩:=I.tuple (.inl (.inl h));obtain⟨a,j⟩:=DVs.reads I q k;exact⟨a,.tuple e c f (by simpa using j)⟩
 | _,_,_,.lst h q,r=>by
  cases r;obtain⟨g,k,⟨o,n,e,c,_,f⟩,_⟩:=I.list (SqL.of' h);obtain⟨a,j⟩:=DVs.reads I q k;exact⟨_,.list e c f (by simpa using j)⟩
theorem DVs.reads (I:Inv X pins σ H s):∀{v:List V}{d:List PyData}{u:List Ze},DVs H v d->Vals v u->∃c,ReadsAll s.heap u d c
 |_,_,_,.nil,r=>by cases r;exact⟨_,.nil⟩
 | _,_,_,.cons h q,r=>by
  cases r with
  | cons f e =>
   obtain⟨c,a⟩:=DV.reads I h f;obtain⟨bs,b⟩:=DVs.reads I q e;exact⟨_,.cons a b⟩
end
end
mutual
noncomputable def dW:W->Option PyData
 |.non=>Za .none
 |.bl b=>Za (.bool b)
 |.int i=>Za (.int i)
 |.str x=>Za (.str x)
 |.tup w=>(dWs w).bind λd=>Za (.tuple d)
 |.lst w=>(dWs w).bind λd=>Za (.list d)
 |_=>Zb
noncomputable def dWs:List W->Option (List PyData)
 |[]=>Za []
 |w::a=>(dW w).bind λd=>(dWs a).bind λb=>Za (d::b)
end
section
variable {K:Zg}{F H:Hp}
mutual
theorem z23 (s:Same F H):∀{w:W}{v:V}{d:PyData},Rep K F w v->dW w=Za d->DV H v d
 |_,_,_,.non,e=>by ext e;exact .non
 |_,_,_,.bl b,e=>by ext e;exact .bl b
 |_,_,_,.int i,e=>by ext e;exact .int i
 |_,_,_,.str x,e=>by ext e;exact .str x
 | _,_,_,.tup h r,e=>by
  rw[dW] at e;obtain⟨f,a,c⟩:=bS e;ext c;exact .tup (s _ _ h) (zhe s r a)
 | _,_,_,.lst h r,e=>by
  rw[dW] at e;obtain⟨f,a,c⟩:=bS e;ext c;exact .lst (s _ _ h) (zhe s r a)
 |_,_,_,.frl _ _,e=>by exists e
 |_,_,_,.dic _,e=>by exists e
 |_,_,_,.dct _ _ _,e=>by exists e
 |_,_,_,.dctT _ _ _,e=>by exists e
 |_,_,_,.dcz _ _ _,e=>by exists e
 |_,_,_,.dczT _ _ _,e=>by exists e
theorem zhe (s:Same F H):∀{w:List W}{v:List V}{a:List PyData},Reps K F w v->dWs w=Za a->DVs H v a
 |_,_,_,.nil,e=>by cases e;exact .nil
 | _,_,_,.cons h r,e=>by
  rw[dWs] at e;obtain⟨d,c,e⟩:=bS e;obtain⟨a,b,f⟩:=bS e;cases f;exact .cons (z23 s h c) (zhe s r b)
end
theorem znv {w:W}{v:V}{d:PyData} (s:Same F H) (r:RepB K F H w v) (b:dW w=Za d):DV H v d:=by
 rcases r with r|⟨a,o,u,z,rfl,h,q⟩
 ·exact z23 s r b
 ·subst z
  cases q with
  |dct f q=>exists b
  |dctT f q=>exists b
  | lst q =>
   rw[dW] at b;obtain⟨g,e,c⟩:=bS b;ext c;exact .lst h (zhe s q e)
end
abbrev rEqD (g:Bool->Bool):R2:=λx y H Q=>∃d a,DV H x d/\DV H y a/\d.canLay0=Zd/\a.canLay0=Zd/\d.depth<=100/\Q (.bl (g (PyData.eqv d a))) H
theorem ya7 {X:Cx}{k:Nat}(g:Room k X.A):OpR X (compareOp .Eq) (rEqD id):=by
 intro pins s σ H x y v u Q I c r h;nofun;obtain⟨d,l,a,f,j,e,m,q⟩:=h;obtain⟨n,i⟩:=a.reads I c;obtain⟨bs,b⟩:=f.reads I r;ac_rfl;exact SeqAt.compareEq_reads i b j e (by have:=g.un;symm) ⟨.bl _,H,I,rfl,q⟩
theorem yax {X:Cx}{k:Nat}(i:Room k X.A):OpR X (compareOp .NotEq) (rEqD not):=by
 intro pins s σ H x y v u Q I e r h;nofun;obtain⟨d,a,b,g,m,f,n,q⟩:=h;obtain⟨j,l⟩:=b.reads I e;obtain⟨bs,c⟩:=g.reads I r;ac_rfl;exact SeqAt.neOverData X.prog X.w X.A X.xe s v u d a j bs _ l c m f (by have:=i.un;symm) ⟨.bl _,H,I,rfl,q⟩
abbrev eqD (a b:W):Option Bool:=(dW a).bind λd=>(dW b).bind λc=>if d.canLay0&&c.canLay0&&decide (d.depth<=100) then Za (PyData.eqv d c) else Zb
theorem z3h {K:Zg}{F H:Hp}{b w:W}{v1 v2:V}{k:Bool}(s:Same F H)(f:RepB K F H b v1)(r:RepB K F H w v2)(e:eqD b w=Za k):∃d a,DV H v1 d/\DV H v2 a/\d.canLay0=Zd/\a.canLay0=Zd/\d.depth<=100/\k=PyData.eqv d a:=by
 nofun;obtain⟨d,c,e⟩:=bS e;obtain⟨a,h,e⟩:=bS e;ac_rfl;split at e
 ·rename_i z;rw[Ae,Ae] at z;ext e;exact⟨d,a,znv s f c,znv s r h,z.1.1,z.1.2,Ar z.2,rfl⟩
 ·exists e
abbrev z31:W->W->Option Bool
 |.non,.non=>Za Zd|.non,.int _=>Za Zc|.int _,.non=>Za Zc|.non,.bl _=>Za Zc|.bl _,.non=>Za Zc|.non,.str _=>Za Zc|.str _,.non=>Za Zc
 |.int i,.int j=>Za (decide (i=j))|.bl i,.bl j=>Za (decide (i=j))|.str i,.str j=>Za (decide (i=j))
 |.int _,.str _=>Za Zc|.str _,.int _=>Za Zc|.bl _,.str _=>Za Zc|.str _,.bl _=>Za Zc
 |_,_=>Zb
abbrev oEq:O2:=λa b=>match z31 a b with
 |some k=>Za (.bl k,Zc)
 |none=>(eqD a b).bind λk=>Za (.bl k,Zc)
abbrev oNe:O2:=λa b=>match z31 a b with
 |some k=>Za (.bl (!k),Zc)
 |none=>(eqD a b).bind λk=>Za (.bl (!k),Zc)
theorem zp0 {F H:Hp}{b w:W}{v1 v2:V}{k:Bool} (a:RepB K F H b v1) (r:RepB K F H w v2) (e:z31 b w=Za k):scal v1 v2=Zd/\decide (v1=v2)=k:=by
 cases b with
 | non =>
  have:=a.non;subst this;cases w with
  |non=>have:=r.non;subst this;ext e;exact⟨rfl,by decide⟩
  |int j=>have:=r.int;subst this;ext e;exact⟨rfl,by simp⟩
  |bl j=>have:=r.bl;subst this;ext e;exact⟨rfl,by simp⟩
  |str j=>have:=r.str;subst this;ext e;exact⟨rfl,by simp⟩
  |_=>exists e
 | int i =>
  have:=a.int;subst this;cases w with
  |non=>have:=r.non;subst this;ext e;exact⟨rfl,by simp⟩
  |int j=>have:=r.int;subst this;ext e;exact⟨rfl,by simp⟩
  |str j=>have:=r.str;subst this;ext e;exact⟨rfl,by simp⟩
  |_=>exists e
 | bl i =>
  have:=a.bl;subst this;cases w with
  |non=>have:=r.non;subst this;ext e;exact⟨rfl,by simp⟩
  |bl j=>have:=r.bl;subst this;ext e;exact⟨rfl,by simp⟩
  |str j=>have:=r.str;subst this;ext e;exact⟨rfl,by simp⟩
  |_=>exists e
 | str i =>
  have:=a.str;subst this;cases w with
  |non=>have:=r.non;subst this;ext e;exact⟨rfl,by simp⟩
  |int j=>have:=r.int;subst this;ext e;exact⟨rfl,by simp⟩
  |bl j=>have:=r.bl;subst this;ext e;exact⟨rfl,by simp⟩
  |str j=>have:=r.str;subst this;ext e;exact⟨rfl,by simp⟩
  |_=>exists e
 |_=>cases w<;>exists e
theorem yag:OpS K (λx y H Q=>rEq x y H Q\/rEqD id x y H Q) oEq:=λF H l w v n m Q s c r e q=>by
 unfold oEq at e;split at e
 ·rename_i k b;ext e;obtain⟨a,h⟩:=zp0 c r b;refine .inl ⟨a,?_⟩;rw[h];exact q _ _ (.val (.bl k))
 ·obtain⟨k,b,e⟩:=bS e;ext e;nofun;obtain⟨d,g,f,i,a,h,j,rfl⟩:=z3h s c r b;ac_rfl;exact .inr ⟨d,g,f,i,a,h,j,q _ _ (.val (.bl _))⟩
theorem z72:OpS K (λx y H Q=>rNe x y H Q\/rEqD not x y H Q) oNe:=λF H l w v n m Q s c r e q=>by
 unfold oNe at e;split at e
 ·rename_i k b;ext e;obtain⟨a,h⟩:=zp0 c r b;refine .inl ⟨a,?_⟩;rw[h];exact q _ _ (.val (.bl _))
 ·obtain⟨k,b,e⟩:=bS e;ext e;nofun;obtain⟨d,g,f,i,a,h,j,rfl⟩:=z3h s c r b;ac_rfl;exact .inr ⟨d,g,f,i,a,h,j,q _ _ (.val (.bl _))⟩
abbrev isW:W->W->Option Bool
 |.non,.non=>Za Zd
 |_,.non=>Za Zc
 |.bl a,.bl b=>Za (decide (a=b))
 |_,.bl _=>Za Zc
 |_,_=>Zb
abbrev rIs:R2:=λx y H Q=>(y=.non/\Q #v[6,19] H)\/(∃b,y=.bl b/\Q (.bl (decide (x=.bl b))) H)
abbrev oIs:O2:=λa b=>(isW a b).bind λk=>Za (.bl k,Zc)
theorem RepB.noBl {F H:Hp}{w:W}{v:V}(r:RepB K F H w v)(h:∀b,w≠.bl b)(b:Bool):v≠.bl b:=λe=>by
 subst e;rcases r with r|⟨_,_,_,_,e,_⟩
 ·cases r;exact h b rfl
 ·cases e
theorem RepB.noNon {F H:Hp}{w:W}{v:V}(r:RepB K F H w v)(h:w≠.non):v≠.non:=λe=>by
 subst e;rcases r with r|⟨_,_,_,_,e,_⟩
 ·cases r;exact h rfl
 ·cases e
theorem ybu {F H:Hp}{w c:W}{v1 v2:V}{k:Bool} (r:RepB K F H w v1) (d:RepB K F H c v2) (e:isW w c=Za k):(v2=.non/\decide (v1=.non)=k)\/(∃b,v2=.bl b/\decide (v1=.bl b)=k):=by
 cases c with
 | non =>
  refine .inl ⟨d.non,?_⟩;cases w with
  |non=>ext e;rw[r.non];rfl
  |_=>ext e;exact Aw (r.noNon (by simp))
 | bl b =>
  refine .inr ⟨b,d.bl,?_⟩;cases w with
  |bl a=>ext e;rw[r.bl];simp
  |_=>ext e;exact Aw (r.noBl (by simp) b)
 |_=>cases w<;>exists e
theorem z9a:OpS K rIs oIs:=λF H f w v i g Q s c r e q=>by
 obtain⟨k,d,e⟩:=bS e;ext e;rcases ybu c r d with⟨a,h⟩|⟨b,a,h⟩
 ·exact .inl ⟨a,by rw[h];exact q _ _ (.val (.bl k))⟩
 ·exact .inr ⟨b,a,by rw[h];exact q _ _ (.val (.bl k))⟩
abbrev zle:W->Bool
 |.non=>Zd
 |.bl _=>Zd
 |.int _=>Zd
 |.str _=>Zd
 |_=>Zc
abbrev eqF:W->W->Bool
 |.non,.non=>Zd
 |.bl a,.bl b=>a==b
 |.bl a,.int b=>(if a then 1 else 0)==b
 |.int a,.bl b=>a==(if b then 1 else 0)
 |.int a,.int b=>a==b
 |.str a,.str b=>a==b
 |_,_=>Zc
theorem Rep.flat {F:Hp}{w:W}{v:V}(h:Rep K F w v)(f:zle w=Zd):zht v=Zd:=by
 cases h<;>first|rfl|(cases f)
theorem Reps.flat {F:Hp}:∀{w:List W}{v:List V},Reps K F w v->w.all zle=Zd->v.all zht=Zd
 |_,_,.nil,_=>rfl
 | _,_,.cons h r,f=>by
  rw[Cb,Ae] at f ⊢;exact⟨h.flat f.1,r.flat f.2⟩
theorem yai {F a:Hp}{w u:W}{v z:V}(c:Rep K F w v)(h:Rep K a u z)(f:zle w=Zd)(b:zle u=Zd):eqV v z=eqF w u:=by
 cases c<;>first|(cases f;done)|(cases h<;>first|rfl|(cases b))
theorem z3a {F c:Hp}{u:W}{z:V} (a:Rep K c u z) (b:zle u=Zd):∀{w:List W}{v:List V},Reps K F w v->w.all zle=Zd->inV z v=w.any λy=>eqF y u
 |_,_,.nil,_=>rfl
 | _,_,.cons h r,f=>by
  rw[Cb,Ae] at f;have i:=z3a a b r f.2;unfold inV at i ⊢;rw[Gc,Gc,i,yai h a f.1 b]
abbrev oIn (n:Bool):O2:=λa b=>(seqW b).bind λw=>if zle a&&w.all zle then Za (.bl (if n then !(w.any λy=>eqF y a) else w.any λy=>eqF y a),Zc) else Zb
theorem ztg (n:Bool):OpS K (rIn K n) (oIn n):=λF H w j i m k Q s f d e q=>by
 obtain⟨l,g,e⟩:=bS e;split at e
 ·rename_i z;rw [Ae] at z;ext e;obtain ⟨a,v,c,h,p⟩:=d.seqW s g;have b:Rep K F w i:=by
   rcases f with r|⟨_,_,_,e,_,_,y⟩
   ·exact r
   ·subst e;cases y<;>cases z.1
  refine⟨a,v,c,h,b.flat z.1,p.flat z.2,?_⟩;rw[z3a b z.1 p z.2];exact q _ _ (.val (.bl _))
 ·exists e
abbrev oIx:O2
 |a,.int i=>(seqW a).bind λb=>(atI b i).bind λw=>#v[w,6]
 |_,_=>Zb
theorem z1q {F:Hp}{ws:List W}{vs:List V}{i:Int}{w:W}(r:Reps K F ws vs)(h:atI ws i=Za w):∃v,atI vs i=Za v/\Rep K F w v:=by
 unfold atI at h ⊢;rw[<-r.length];obtain⟨j,d,a⟩:=bS h;obtain⟨v,b,c⟩:=r.get a;exact⟨v,by rw[d];exact b,c⟩
abbrev rIxB (K:Zg):R2:=λx y H Q=>rIxL K x y H Q\/rIxT K x y H Q
theorem z8g:OpS K (rIxB K) oIx:=λF H g j o t r Q s l c e q=>by
 cases j with
 | int i =>
  obtain⟨n,m,e⟩:=bS (show (seqW g).bind _=_ from e);obtain⟨w,k,e⟩:=bS e;ext e;obtain⟨a,f,b,h,p⟩:=l.seqW s m;obtain⟨v,d,r⟩:=z1q p k;rcases h with h|h
  ·exact .inl ⟨a,f,i,v,b,c.int,h,d,q _ _ (.val r)⟩
  ·exact .inr ⟨a,f,i,v,b,c.int,h,d,q _ _ (.val r)⟩
 |_=>cases g<;>exists e
abbrev oNeg:W->Option (W×Bool)
 |.int i=>#v[(-i),0]
 |_=>Zb
theorem z66:OpS1 K (rU λi=>.int (-i)) oNeg:=λF H w v a Q s r e q=>by
 cases w with
 |int i=>ext e;exact⟨i,r.int,q _ _ (.val (.int _))⟩
 |_=>exists e
end
theorem zh2:∀(n:List Int) (k:Nat),k<=n.length->preSum (λi=>n.getD i 0) k=(n.take k).sum
 |n,0,_=>rfl
 | n,k+1,h=>by
  have b:=zh2 n k #v[];show preSum (λi=>n.getD i 0) k+n.getD k 0=_;rw[b,Dk,List.sum_append];have a:k<n.length:=by symm
  rw[Ad a,Bi,Ad a];simp
section
variable {X:Cx}
theorem zju {ns:List Int}{a:List Ze}{i:Nat}{v:Ze}(r:Vals (ns.map V.int) a)(h:a[i]?=Za v):∃t,v=.int (ns.getD i 0) t:=by
 have c:=r.length;rw[Ab] at c;have d:i<ns.length:=by rw[c];exact (Ah.mp h).1
 obtain⟨u,b,f⟩:=r.get (i:=i) (x:=.int ns[i]) (by rw[Ai,Ad d];rfl);rw[h] at b;ext b;obtain⟨t,e⟩:=f;exact⟨t,by rw[e,Bi,Ad d];rfl⟩
theorem zwl (t:X.calm=Zd):zeb X (.builtin "sum") (λx H Q=>∃(a:Zh) (n:List Int),x=[.ref a]/\SqL X.K H a (n.map V.int)/\Q (.int n.sum) H):=by
 intro pins s σ H x E Q I r h;nofun;obtain⟨a,n,rfl,l,q⟩:=h;obtain⟨u,rfl,y⟩:=vals1 r;ac_rfl;cases y;nofun;obtain⟨c,j,p,F⟩:=I.list l;ac_rfl;have k:=j.length;rw[Ab] at k;have g:a<s.heap.objs.size:=by obtain⟨o,e,_⟩:=p.isList;exact Ao e
 refine call_sum_walkG (Dp p.isList ?_);refine⟨s.heap.objs.size,_,[s.heap.objs.size],c.toArray.size,_,_,λi=>n.getD i 0,rfl,Walks.list (A:=X.A.in1) (show X.A.in1.handled=Zb from I.ok.hd t) _ a (Bb g) c.toArray,⟨⟨_,Aq _ rfl,rfl,rfl⟩,p.isList.push _⟩,?_,λi v B=>zju j (by simpa using B),λG D C m=>?_⟩
 ·intro b d;have w:∀o:Obj,(s.heap.push o).objs.size=s.heap.objs.size+1:=λo=>Ct ..;have f:b=s.heap.objs.size\/b=a:=by simpa using d
  show b<(s.heap.push _).objs.size;rw[w];rcases f with rfl|rfl
  ·exact Fb _
  ·exact Eb g
 ·have e:c.toArray.size=n.length:=by simp;symm
  rw[e,zh2 n n.length (Af _),Co];refine⟨.int _,H,I.kept λb o d=>?_,⟨_,rfl⟩,q⟩;exact m b o (by intro z;rw[Ax] at z;subst z;exact absurd (Ao d) (Bv _)) (Ac _ d)
abbrev mx1 (n:Int) (r:List Int):Int:=r.foldl (λb x=>if x > b then x else b) n
theorem zwz (n:Int) (r:List Int):∀k,k<=r.length->(n::r).getD (argBest (λi j=>decide ((n::r).getD i 0 > (n::r).getD j 0)) k) 0=mx1 n (r.take k)
 |0,_=>rfl
 | k+1,h=>by
  have a:=zwz n r k #v[];have b:k<r.length:=by symm
  have g:(n::r).getD (k+1) 0=r[k]:=by rw[List.getD_cons_succ,Bi,Ad b];rfl
  have t:mx1 n (r.take (k+1))=if r[k] > mx1 n (r.take k) then r[k] else mx1 n (r.take k):=by
   unfold mx1;rw[Dk,Ad b,List.foldl_append];rfl
  rw[t];show (n::r).getD (if decide ((n::r).getD (k+1) 0 > (n::r).getD (argBest (λi j=>decide ((n::r).getD i 0 > (n::r).getD j 0)) k) 0)=Zd then k+1 else argBest _ k) 0=_;rw[a,g];by_cases c:r[k] > mx1 n (r.take k)
  ·rw[Aj c,if_pos rfl,if_pos c,g]
  ·rw[Aw c,if_neg As,if_neg c,a]
theorem zxg (l:X.calm=Zd):zeb X (.builtin "max") (λx H Q=>(∃i j,x=#v[6,15]/\Q (.int (if j > i then j else i)) H)\/∃(a:Zh) (n:Int) (r:List Int),x=[.ref a]/\SqL X.K H a ((n::r).map V.int)/\Q (.int (mx1 n r)) H):=by
 intro pins s σ H x C Q I r h;rcases h with h|h
 ·exact zu9 l pins s σ H x C Q I r h
 obtain⟨a,n,f,rfl,y,q⟩:=h;obtain⟨u,rfl,D⟩:=vals1 r;cases D;obtain⟨c,m,p,G⟩:=I.list y;have g:=m.length;rw[Ab] at g;have k:a<s.heap.objs.size:=by obtain⟨o,e,_⟩:=p.isList;exact Ao e
 have w:∀(i:Nat) (v:Ze),c.toArray[i]?=Za v->∃t,v=Ze.int ((n::f).getD i 0) t:=λi v e=>zju m (by simpa using e);refine call_max_walk (Dp p.isList ?_);refine⟨s.heap.objs.size,_,[s.heap.objs.size],c.toArray.size,_,_,_,rfl,Walks.list (A:=X.A.in1) (show X.A.in1.handled=Zb from I.ok.hd l) _ a (Bb k) c.toArray,⟨⟨_,Aq _ rfl,rfl,rfl⟩,p.isList.push _⟩,λb d=>?_,by rw[An,<-g];exact Nat.succ_pos _,CmpOf.ints_gt _ w,λv J F E B=>?_⟩
 ·rw[Ct];simp only [Am,Ca,Ft] at d;rcases d with rfl|rfl
  ·exact Fb _
  ·exact Eb k
 ·obtain⟨t,rfl⟩:=w _ _ E;have e:c.toArray.size-1=f.length:=by rw[An,<-g];rfl
  refine⟨.int _,H,I.kept λb o d=>B b o (λz=>by rw[Ax] at z;subst z;exact absurd (Ao d) (Bv _)) (Ac _ d),⟨_,rfl⟩,?_⟩;rw[e,zwz n f f.length (Af _),Co];exact q
abbrev mn1 (n:Int) (r:List Int):Int:=r.foldl (λb x=>if x<b then x else b) n
theorem zw6 (n:Int) (r:List Int):∀k,k<=r.length->(n::r).getD (argBest (λi j=>decide ((n::r).getD i 0<(n::r).getD j 0)) k) 0=mn1 n (r.take k)
 |0,_=>rfl
 | k+1,h=>by
  have a:=zw6 n r k #v[];have b:k<r.length:=by symm
  have g:(n::r).getD (k+1) 0=r[k]:=by rw[List.getD_cons_succ,Bi,Ad b];rfl
  have t:mn1 n (r.take (k+1))=if r[k]<mn1 n (r.take k) then r[k] else mn1 n (r.take k):=by
   unfold mn1;rw[Dk,Ad b,List.foldl_append];rfl
  rw[t];show (n::r).getD (if decide ((n::r).getD (k+1) 0<(n::r).getD (argBest (λi j=>decide ((n::r).getD i 0<(n::r).getD j 0)) k) 0)=Zd then k+1 else argBest _ k) 0=_;rw[a,g];by_cases c:r[k]<mn1 n (r.take k)
  ·rw[Aj c,if_pos rfl,if_pos c,g]
  ·rw[Aw c,if_neg As,if_neg c,a]
theorem zvq (l:X.calm=Zd):zeb X (.builtin "min") (λx H Q=>(∃i j,x=#v[6,15]/\Q (.int (if j<i then j else i)) H)\/∃(a:Zh) (n:Int) (r:List Int),x=[.ref a]/\SqL X.K H a ((n::r).map V.int)/\Q (.int (mn1 n r)) H):=by
 intro pins s σ H x C Q I r h;rcases h with h|h
 ·exact ztu l pins s σ H x C Q I r h
 obtain⟨a,n,f,rfl,y,q⟩:=h;obtain⟨u,rfl,D⟩:=vals1 r;cases D;obtain⟨c,m,p,G⟩:=I.list y;have g:=m.length;rw[Ab] at g;have k:a<s.heap.objs.size:=by obtain⟨o,e,_⟩:=p.isList;exact Ao e
 have w:∀(i:Nat) (v:Ze),c.toArray[i]?=Za v->∃t,v=Ze.int ((n::f).getD i 0) t:=λi v e=>zju m (by simpa using e);refine call_min_walk (Dp p.isList ?_);refine⟨s.heap.objs.size,_,[s.heap.objs.size],c.toArray.size,_,_,_,rfl,Walks.list (A:=X.A.in1) (show X.A.in1.handled=Zb from I.ok.hd l) _ a (Bb k) c.toArray,⟨⟨_,Aq _ rfl,rfl,rfl⟩,p.isList.push _⟩,λb d=>?_,by rw[An,<-g];exact Nat.succ_pos _,CmpOf.ints_lt _ w,λv J F E B=>?_⟩
 ·rw[Ct];simp only [Am,Ca,Ft] at d;rcases d with rfl|rfl
  ·exact Fb _
  ·exact Eb k
 ·obtain⟨t,rfl⟩:=w _ _ E;have e:c.toArray.size-1=f.length:=by rw[An,<-g];rfl
  refine⟨.int _,H,I.kept λb o d=>B b o (λz=>by rw[Ax] at z;subst z;exact absurd (Ao d) (Bv _)) (Ac _ d),⟨_,rfl⟩,?_⟩;rw[e,zw6 n f f.length (Af _),Co];exact q
theorem z5t:OpR X (binaryOp .Add) (λx y H Q=>∃a b c,x=.ref a/\y=.ref b/\SqT X.K H a []/\SqT X.K H b c/\Q (.ref b) H):=by
 intro pins s σ H x y v u Q I D C h;nofun;obtain⟨a,b,c,rfl,rfl,o,m,q⟩:=h;ac_rfl;cases D;cases C;nofun;obtain⟨i,E,F,_⟩:=I.tuple o;obtain⟨e,J,w,_⟩:=I.tuple m;obtain⟨⟨M,z,L,p⟩,g,f,r,d⟩:=id F;obtain⟨⟨G,n,K,B⟩,j,k,t,l⟩:=id w;ac_rfl;simp only at f d k l;subst f d k l;have A:i=[]:=by cases E;rfl
 subst A;exact concat_meets (T := "tuple") ⟨_,g,rfl⟩ ⟨_,j,rfl⟩ noFill_tuple_add seq_tuple_add PySem.F.slot_tuple_add PySem.F.entry_tuple_add (Hd _ _)
  (tuple_addW0 a b _ _ r t z n p B rfl) ⟨g,j,⟨.ref b,H,I.tok _,rfl,q⟩⟩
theorem zzi:OpR X (binaryOp .FloorDiv) (rI (λ_ j=>0<j/\j.natAbs.log2<9000) λi j=>.int (i/j)):=opI λi j _ _ _ _ _ h q=>by
 have a:(0:Int)<j:=h.1;exact floordiv_int #v[] (by rw[Int.fdiv_eq_ediv_of_nonneg i #v[]];exact q) (.inl (PyProof.noPylong_of_log2 h.2))
end
section
variable {K:Zg}
abbrev ycx (K:Zg):R2:=λx y H Q=>∃a b c,x=.ref a/\y=.ref b/\SqT K H a []/\SqT K H b c/\Q (.ref b) H
theorem zzp:OpS K (ycx K) z6t:=λF H d w v l o Q s j r e q=>by
 cases d with
 | tup x =>
  cases x with
  |cons _ _=>cases w<;>exists e
  | nil =>
   cases w with
   | tup y =>
    ext e;nofun;obtain⟨a,m,i,g,n,k⟩:=j.tup s;obtain⟨b,u,c,h,f,p⟩:=r.tup s;ac_rfl;cases k;subst c;exact⟨a,b,u,i,rfl,.inl (.inl g),.inl (.inl h),q _ _ (.val (.tup f p))⟩
   |_=>exists e
 |_=>exists e
noncomputable abbrev ON:=List W->Option (W×Bool)
abbrev oLen:ON
 |[w]=>(seqW w).bind λa=>#v[a.length,0]
 |_=>Zb
theorem z6k:OpSN K (λx H Q=>∃p y,x=[.ref p]/\(SqL K H p y\/SqT K H p y)/\Q (.int y.length) H) oLen:=λF H w v f Q s r e q=>by
 cases r with
 |nil=>exists e
 | cons h r =>
  cases r with
  |cons _ _=>exists e
  | nil =>
   obtain⟨w,d,e⟩:=bS (show (seqW _).bind _=_ from e);ext e;obtain⟨a,v,b,c,p⟩:=h.seqW s d;subst b;exact⟨a,v,rfl,c,by rw[<-p.length];exact q _ _ (.val (.int _))⟩
abbrev oAbs:ON
 |[.int i]=>#v[(if i<0 then -i else i),0]
 |_=>Zb
theorem RepBs.one {F H:Hp}{w:W}{vs:List V}(r:RepBs K F H [w] vs):∃v,vs=[v]/\RepB K F H w v:=by
 cases r with
 |cons h r=>cases r;exact⟨_,rfl,h⟩
theorem RepBs.two {F H:Hp}{w u:W}{vs:List V}(r:RepBs K F H [w,u] vs):∃v z,vs=[v,z]/\RepB K F H w v/\RepB K F H u z:=by
 cases r with
 |cons h r=>obtain⟨z,e,a⟩:=r.one;subst e;exact⟨_,z,rfl,h,a⟩
theorem z35:OpSN K (λx H Q=>∃i,x=[.int i]/\Q (.int (if i<0 then -i else i)) H) oAbs:=λF H w b c Q s r e q=>by
 match w,e with
 | [.int i],e =>
  ext e;obtain⟨v,a,h⟩:=r.one;subst a;exact⟨i,by rw[h.int],q _ _ (.val (.int _))⟩
abbrev oInt:ON
 |[.int i]=>#v[i,0]
 |[.bl k]=>#v[(if k then 1 else 0),0]
 |_=>Zb
theorem z5n:OpSN K (λx H Q=>(∃i,x=[.int i]/\Q (.int i) H)\/∃k,x=[.bl k]/\Q (.int (if k then 1 else 0)) H) oInt:=λF H w b c Q s r e q=>by
 match w,e with
 | [.int i],e =>
  ext e;obtain⟨v,a,h⟩:=r.one;subst a;exact .inl ⟨i,by rw[h.int],q _ _ (.val (.int _))⟩
 | [.bl k],e =>
  ext e;obtain⟨v,a,h⟩:=r.one;subst a;exact .inr ⟨k,by rw[h.bl],q _ _ (.val (.int _))⟩
abbrev za3:ON
 |[.tup a]=>#v[a,3]
 |[w]=>(seqL w).bind λa=>#v[a,3]
 |_=>Zb
theorem zwt:OpSN K (λx H Q=>∃p y,x=[.ref p]/\((SqL K H p y/\∀l,H l=Zb->Q (.ref l) (upd H l (.tup y)))\/(SqT K H p y/\Q (.ref p) H))) za3:=λF H w i j Q s r e q=>by
 match w,e with
 | [.tup w],e =>
  ext e;nofun;obtain⟨v,c,h⟩:=r.one;obtain⟨a,u,b,d,f,p⟩:=h.tup s;ac_rfl;subst c b;exact⟨a,u,rfl,.inr ⟨.inl (.inl d),q _ _ (.val (.tup f p))⟩⟩
 | [.lst w],e =>
  ext e;nofun;obtain⟨v,c,h⟩:=r.one;obtain⟨a,u,b,d,p⟩:=h.lst s;ac_rfl;subst c b;exact⟨a,u,rfl,.inl ⟨SqL.of' d,λl g=>q _ _ (.tup g p)⟩⟩
 | [.frl w],e =>
  ext e;nofun;obtain⟨v,c,h⟩:=r.one;obtain⟨a,u,b,d,p⟩:=h.frl s;ac_rfl;subst c b;exact⟨a,u,rfl,.inl ⟨d,λl g=>q _ _ (.tup g p)⟩⟩
 |[.non],e=>exists e
 |[.bl _],e=>exists e
 |[.int _],e=>exists e
 |[.str _],e=>exists e
 |[.dic],e=>exists e
 |[.dct _ _],e=>exists e
 |[.dcz _ _],e=>exists e
abbrev zn4:List W->Option (List Bool)
 |[]=>Za []
 |.bl b::w=>(zn4 w).bind λbs=>Za (b::bs)
 |_=>Zb
abbrev zch:List W->Option (List Int)
 |[]=>Za []
 |.int b::w=>(zch w).bind λbs=>Za (b::bs)
 |_=>Zb
theorem zrl:∀{w:List W}{bs:List Bool},zn4 w=Za bs->w=bs.map W.bl
 |[],_,e=>by ext e;rfl
 | .bl b::w,_,e=>by
  obtain⟨bs,h,e⟩:=bS (show (zn4 w).bind _=_ from e);ext e;rw[zrl h];rfl
 |.non::_,_,e=>by exists e
 |.int _::_,_,e=>by exists e
 |.str _::_,_,e=>by exists e
 |.tup _::_,_,e=>by exists e
 |.lst _::_,_,e=>by exists e
 |.frl _::_,_,e=>by exists e
theorem zcl:∀{w:List W}{bs:List Int},zch w=Za bs->w=bs.map W.int
 |[],_,e=>by ext e;rfl
 | .int b::w,_,e=>by
  obtain⟨bs,h,e⟩:=bS (show (zch w).bind _=_ from e);ext e;rw[zcl h];rfl
 |.non::_,_,e=>by exists e
 |.bl _::_,_,e=>by exists e
 |.str _::_,_,e=>by exists e
 |.tup _::_,_,e=>by exists e
 |.lst _::_,_,e=>by exists e
 |.frl _::_,_,e=>by exists e
theorem zd0:∀(a:List Int),zch (a.map W.int)=Za a
 |[]=>rfl
 |n::a=>by show (zch (a.map W.int)).bind _=_;rw[zd0 a];rfl
theorem zlc:∀(a:List Bool),zn4 (a.map W.bl)=Za a
 |[]=>rfl
 |n::a=>by show (zn4 (a.map W.bl)).bind _=_;rw[zlc a];rfl
abbrev oBl (f:List Bool->Bool):ON
 |[w]=>(seqL w).bind λa=>(zn4 a).bind λbs=>Za (.bl (f bs),Zc)
 |_=>Zb
theorem z29 {f:List Bool->Bool}:OpSN K (λx H Q=>∃(a:Zh) (bs:List Bool),x=[.ref a]/\SqL K H a (bs.map V.bl)/\Q (.bl (f bs)) H) (oBl f):=λF H c k l Q s r e q=>by
 match c,e with
 | [w],e =>
  nofun;obtain⟨c,j,e⟩:=bS (show (seqL _).bind _=_ from e);obtain⟨bs,i,e⟩:=bS e;ac_rfl;ext e;nofun;obtain⟨v,g,h⟩:=r.one;obtain⟨a,u,d,b,p⟩:=h.seqL s j;ac_rfl;subst g d;rw[zrl i] at p;rw[p.bls] at b;exact⟨a,bs,rfl,b,q _ _ (.val (.bl _))⟩
abbrev oSum:ON
 |[w]=>(seqL w).bind λa=>(zch a).bind λn=>#v[n.sum,0]
 |_=>Zb
theorem z7y:OpSN K (λx H Q=>∃(a:Zh) (n:List Int),x=[.ref a]/\SqL K H a (n.map V.int)/\Q (.int n.sum) H) oSum:=λF H c j k Q s r e q=>by
 match c,e with
 | [w],e =>
  nofun;obtain⟨c,i,e⟩:=bS (show (seqL _).bind _=_ from e);obtain⟨bs,g,e⟩:=bS e;ac_rfl;ext e;nofun;obtain⟨v,f,h⟩:=r.one;obtain⟨a,u,d,b,p⟩:=h.seqL s i;ac_rfl;subst f d;rw[zcl g] at p;rw[p.ints] at b;exact⟨a,bs,rfl,b,q _ _ (.val (.int _))⟩
abbrev mnW (w:W):Option (W×Bool):=(seqL w).bind λa=>(zch a).bind λb=>match b with
 |n::r=>#v[(mn1 n r),0]
 |[]=>Zb
abbrev oMin:ON
 |#v[6,15]=>#v[(if j<i then j else i),0]
 |[w]=>mnW w
 |_=>Zb
abbrev mxW (w:W):Option (W×Bool):=(seqL w).bind λa=>(zch a).bind λb=>match b with
 |n::r=>#v[(mx1 n r),0]
 |[]=>Zb
abbrev mx2:W->W->Option (W×Bool)
 |.int i,.int j=>#v[(if j > i then j else i),0]
 |_,_=>Zb
abbrev oMax:ON
 |[w]=>mxW w
 |[a,b]=>mx2 a b
 |_=>Zb
theorem z40:OpSN K (λx H Q=>(∃i j,x=#v[6,15]/\Q (.int (if j<i then j else i)) H)\/∃(a:Zh) (n:Int) (r:List Int),x=[.ref a]/\SqL K H a ((n::r).map V.int)/\Q (.int (mn1 n r)) H) oMin:=λF H l u o Q s r e q=>by
 unfold oMin at e;split at e
 ·ext e
  obtain⟨v,z,b,t,k⟩:=r.two;subst b;exact .inl ⟨_,_,by rw[t.int,k.int],q _ _ (.val (.int _))⟩
 ·rename_i w
  nofun;obtain⟨l,m,e⟩:=bS (show (seqL w).bind _=Za o from e);obtain⟨c,g,e⟩:=bS e;obtain⟨v,b,h⟩:=r.one;obtain⟨a,y,f,d,p⟩:=h.seqL s m;ac_rfl;subst b f;rw[zcl g] at p;rw[p.ints] at d;cases c with
  |nil=>exists e
  | cons n c =>
   ext e;exact .inr ⟨a,n,c,rfl,d,q _ _ (.val (.int _))⟩
 ·exists e
theorem z5p:OpSN K (λk H Q=>(∃i j,k=#v[6,15]/\Q (.int (if j > i then j else i)) H)\/∃(a:Zh) (n:Int) (r:List Int),k=[.ref a]/\SqL K H a ((n::r).map V.int)/\Q (.int (mx1 n r)) H) oMax:=λF H f A g Q s r e q=>by
 match f,e with
 | [x,y],e =>
  have e:mx2 x y=Za g:=e;unfold mx2 at e;split at e
  ·ext e
   nofun;obtain⟨v,z,b,u,o⟩:=r.two;ac_rfl;subst b;exact .inl ⟨_,_,by rw[u.int,o.int],q _ _ (.val (.int _))⟩
  ·exists e
 | [w],e =>
  nofun;obtain⟨f,t,e⟩:=bS (show (seqL w).bind _=Za g from e);obtain⟨c,m,e⟩:=bS e;obtain⟨v,b,h⟩:=r.one;obtain⟨a,B,l,d,p⟩:=h.seqL s t;ac_rfl;subst b l;rw[zcl m] at p;rw[p.ints] at d;cases c with
  |nil=>exists e
  | cons n c =>
   ext e;exact .inr ⟨a,n,c,rfl,d,q _ _ (.val (.int _))⟩
abbrev tyW:W->Option String
 |.non=>Za "NoneType"
 |.bl _=>Za "bool"
 |.int _=>Za "int"
 |.str _=>Za "str"
 |.tup _=>Za "tuple"
 |.lst _=>Za "list"
 |.frl _=>Zb
 |.dic=>Zb
 |.dct _ _=>Zb
 |.dcz _ _=>Zb
inductive Kd where
 |int|bool|str|tuple|list
 deriving DecidableEq
abbrev Kd.nm:Kd->String
 |.int => "int" | .bool => "bool" | .str => "str" | .tuple => "tuple" | .list => "list"
abbrev isiW (k:Kd):W->Option Bool
 |.non=>Za Zc
 |.bl _=>Za (k==.bool||k==.int)
 |.int _=>Za (k==.int)
 |.str _=>Za (k==.str)
 |.tup _=>Za (k==.tuple)
 |.lst _=>Za (k==.list)
 |.frl _=>Zb
 |.dic=>Za Zc
 |.dct _ _=>Za Zc
 |.dcz _ _=>Zb
abbrev oIsi (k:Kd) (w:W):Option (W×Bool):=(isiW k w).bind λb=>Za (.bl b,Zc)
theorem z43 {F H:Hp}{w:W}{v:V}{k:Kd}{b:Bool} (s:Same F H) (r:RepB K F H w v) (e:isiW k w=Za b):∃t,TyOf K H v t/\PySem.W.kitOne K t (.type k.nm)=Za b:=by
 cases w with
 |non=>rw[r.non];ext e;exact⟨_,.non,by cases k<;>(with_unfolding_all rfl)⟩
 |bl x=>rw[r.bl];ext e;exact⟨_,.bl x,by cases k<;>(with_unfolding_all rfl)⟩
 |int x=>rw[r.int];ext e;exact⟨_,.int x,by cases k<;>(with_unfolding_all rfl)⟩
 |str x=>rw[r.str];ext e;exact⟨_,.str x,by cases k<;>(with_unfolding_all rfl)⟩
 |tup x=>obtain⟨a,g,c,h,_⟩:=r.tup s;subst c;ext e;exact⟨_,.tup h,by cases k<;>(with_unfolding_all rfl)⟩
 |lst x=>obtain⟨a,g,c,h,_⟩:=r.lst s;subst c;ext e;exact⟨_,.lst h,by cases k<;>(with_unfolding_all rfl)⟩
 |frl x=>exists e
 | dic =>
  rcases r with r|⟨_,_,_,z,_,_,q⟩
  ·cases r with
   |dic h=>ext e;exact⟨_,.dK (s _ _ h),by cases k<;>(with_unfolding_all rfl)⟩
  ·subst z;cases q
 | dct f d =>
  ext e;rcases r with r|⟨_,_,_,z,c,h,q⟩
  ·cases r with
   |dct h _ _=>exact⟨_,.dK (s _ _ h),by cases k<;>(with_unfolding_all rfl)⟩
   |dctT h _ _=>exact⟨_,.dT (s _ _ h),by cases k<;>(with_unfolding_all rfl)⟩
  ·subst z c
   cases q with
   |dct _ _=>exact⟨_,.dK h,by cases k<;>(with_unfolding_all rfl)⟩
   |dctT _ _=>exact⟨_,.dT h,by cases k<;>(with_unfolding_all rfl)⟩
 |dcz f d=>exists e
abbrev rIsi (K:Zg):List V->Hp->VK->Prop:=λa H Q=>∃x t c b,a=[x,.ty c]/\TyOf K H x t/\PySem.W.kitOne K t (.type c)=Za b/\Q (.bl b) H
theorem z0s {k:Kd}{a:GA}{σ:St}{H:Hp}{Q:VK}(h:tE K (gOp1 (oIsi k) a) σ H Q):tCB (rIsi K) (za4 (tA K a) (za4 (tC (.ty k.nm)) tNil)) σ H Q:=by
 nofun;obtain⟨F,pr,en,p,u,R,h,q⟩:=h;obtain⟨⟨m,x⟩,j,h⟩:=bS h;obtain⟨w,d,h⟩:=bS h;obtain⟨r,c,h⟩:=bS h;obtain⟨b,g,c⟩:=bS c;ac_rfl;ext c;cases h;refine⟨F,pr,en,m,x,R,j,λl f v s e n=>?_⟩;obtain⟨t,o,i⟩:=z43 e.sub (n.repB e d) g;exact⟨v,t,_,b,rfl,o,i,q l f _ s e (.bl b)⟩
noncomputable abbrev GO:=En->Option (En×Option Int)
abbrev zcf:GO:=λen=>Za (en,Zb)
abbrev zg9 (g:GE):GO:=λen=>match g en with
 |some (e,(.int i,_))=>Za (e,Za i)
 |_=>Zb
abbrev tO (K:Zg) (g:GO):TO:=λσ H Q=>∃F pr en e o,Rel K F pr en σ H/\g en=Za (e,o)/\∀b a,Same F b->Rel K b pr e σ a->Q o a
theorem Res.isInt {F H:Hp}{pr:Prt}{en:En}{σ:St}{i:Int}{fl:Bool}{v:V}(h:Res K F H pr en σ (.int i,fl) v):v=.int i:=by
 cases fl with
 |false=>cases (show Rep K F (.int i) v from h);rfl
 |true=>obtain⟨_,_,_,e,_,_,_,q,_⟩:=h;subst e;cases q
theorem zo9 {σ:St}{H:Hp}{Q:Option Int->Hp->Prop}(h:tO K zcf σ H Q):zt3 σ H Q:=by
 obtain⟨F,pr,en,e,o,R,h,q⟩:=h;cases h;exact q F H (.refl F) R
theorem zxv {g:GE}{σ:St}{H:Hp}{Q:Option Int->Hp->Prop} (h:tO K (zg9 g) σ H Q):z9e (tE K g) σ H Q:=by
 nofun;obtain⟨F,pr,en,f,o,R,h,q⟩:=h;ac_rfl;unfold zg9 at h;cases e:g en with
 |none=>simp only [e] at h;exists h
 | some p =>
  obtain⟨i,w,fl⟩:=p;cases w with
  |int c=>simp only [e] at h;cases h;exact⟨F,pr,en,_,_,R,e,λd a v s b z=>⟨c,z.isInt,q d a s b⟩⟩
  |_=>simp only [e] at h;exists h
open HT in
theorem zr4 {prog:Program}{w:World}{A:Around}{E:Ze->Zf->Prop}{s:Zf}{t b:Zh}{i:Array Ze}{c d:Ze}{lo f:Option Int}{Q:Ze->Zf->Prop} (a:IsTup s.heap t i) (e:s.heap.IsSliceOf b c d .none) (p:IsPart c lo) (l:IsPart d f)
  (h0:sIx i.size 0 lo=0) (m:sIx i.size i.size f=i.size) (h:Q (.ref t) s):wpAny (model prog w) A (getItem (.ref t) (.ref b)) Q E s:=by
 obtain⟨o,j,k,_⟩:=id e;have g:s.TypeIs (.ref b) "slice" := ⟨o,j,k⟩;unfold getItem
 try with_reducible refine Dc ?_
 first|refine Aa (Ak ?_)|skip
 refine Aa (wpAny_sequenceKey a.typeIs #v[0,9] ?_);refine Aa (Cy (name:=Str.ofString "__getitem__") a.typeIs Ee (Em Ee a.typeIs entry_tuple_getitem ?_ (args_tuple_getitem _ _)));show wpAny _ _ (Builtin.Tuple.tupleItemsOf (.ref t)>>=_) _ _ s;refine Aa (tupleItemsOf_ a ?_);refine Aa (wpAny_typeOf g ?_);rw[if_pos #v[0,9]];refine Aa (zc6 e p l ?_);rw[h0,m];show wpAny _ _ (if ((((0:Nat):Int)==0&&(1:Int)==1&&(i.size-0)==i.size)=Zd) then _ else _) _ _ s;rw[if_pos (by simp)];unfold Builtin.Tuple.tupleIsExact;refine Aa (Aa (wpAny_typeOf a.typeIs (Ak ?_)));rw[if_pos #v[0,9]];refine Aa (Df (Ak ⟨_,rfl,?_⟩));exact Ak h
abbrev rSlW (K:Zg):V->Option Int->Option Int->Hp->VK->Prop:=λx l h H Q=>∃a b,x=.ref a/\SqT K H a b/\HT.sIx b.length 0 l=0/\HT.sIx b.length b.length h=b.length/\Q x H
theorem z7g {X:Cx}:SlR X (rSlW X.K):=by
 intro pins s σ H x v n t w u m Q I j d p l h;nofun;obtain⟨a,g,rfl,f,k,e,q⟩:=h;ac_rfl;cases j;nofun;obtain⟨i,r,c,o⟩:=I.tuple f;ac_rfl;have b:i.toArray.size=g.length:=by rw[An];exact r.length.symm
 exact⟨"tuple",_,PyProof.Rows.slot_tuple_getitem.lookup,c.typeIs,zr4 c d p l (by rw[b];exact k) (by rw[b];exact e) ⟨.ref a,H,I,rfl,q⟩⟩
abbrev cutW (xs:List W) (lo h:Option Int):List W:=(xs.drop (HT.sIx xs.length 0 lo)).take (HT.sIx xs.length xs.length h-HT.sIx xs.length 0 lo)
abbrev oSl (w:W) (lo h:Option Int):Option (W×Bool):=match w with
 |.lst a=>#v[(cutW a lo h),2]
 |.frl a=>#v[(cutW a lo h),2]
 |.tup a=>#v[(cutW a lo h),3]
 |_=>Zb
abbrev rSlB (K:Zg):V->Option Int->Option Int->Hp->VK->Prop:=λx l h H Q=>(rSlL K x l h H Q\/rSlT K x l h H Q)\/rSlW K x l h H Q
theorem z88 {F H:Hp}{w:W}{v:V}{lo f:Option Int}{j:W×Bool}{Q:VK} (s:Same F H) (r:RepB K F H w v) (e:oSl w lo f=Za j) (q:∀u i,Out K F H j u i->Q u i):rSlB K v lo f H Q:=by
 have cut:∀{c:List W}{b:List V},Reps K F c b->Reps K F (cutW c lo f) (cutV b lo f):=λ{c b} p=>by
  unfold cutW cutV;rw[<-p.length];exact (p.drop _).take _
 cases w with
 |lst c=>ext e;obtain⟨a,b,d,h,p⟩:=r.lst s;exact .inl (.inl ⟨a,b,d,SqL.of' h,λl g=>q _ _ (.lst g (cut p))⟩)
 |frl c=>ext e;obtain⟨a,b,d,h,p⟩:=r.frl s;exact .inl (.inl ⟨a,b,d,h,λl g=>q _ _ (.lst g (cut p))⟩)
 | tup c =>
  ext e;obtain⟨a,b,d,h,m,p⟩:=r.tup s;by_cases y:HT.sIx b.length 0 lo=0/\HT.sIx b.length b.length f=b.length
  ·refine .inr ⟨a,b,d,.inl (.inl h),y.1,y.2, ?_⟩
   have k:cutW c lo f=c:=by
    unfold cutW;rw[p.length,y.1,y.2,Eh,Nat.sub_zero,<-p.length,Co]
   rw[k] at q;subst d;exact q _ _ (.val (.tup m p))
  ·exact .inl (.inr ⟨a,b,d,.inl (.inl h),y,λl g=>q _ _ (.tup g (cut p))⟩)
 |_=>exists e
abbrev gSl (a:GA) (lo b:GO):GE:=λen=>(a en).bind λp=>(lo p.1).bind λl=>(b l.1).bind λh=>(resA h.1 p.2).bind λw=>(oSl w l.2 h.2).bind λr=>Za (h.1,r)
theorem z38 {a:GA}{lo g:GO}{σ:St}{H:Hp}{Q:VK}(h:tE K (gSl a lo g) σ H Q):tSl (rSlB K) (tA K a) (tO K lo) (tO K g) σ H Q:=by
 nofun;obtain⟨F,pr,en,E,P,R,h,q⟩:=h;obtain⟨⟨d,B⟩,t,h⟩:=bS h;obtain⟨⟨e,l⟩,o,h⟩:=bS h;obtain⟨⟨k,u⟩,j,h⟩:=bS h;obtain⟨L,b,h⟩:=bS h;obtain⟨I,r,h⟩:=bS h;ac_rfl;cases h;refine⟨F,pr,en,d,B,R,t,λA G J i D C=>⟨A,pr,d,e,l,D,o,λx O f R2=>⟨x,pr,e,k,u,R2,j,λN M s c=>?_⟩⟩⟩;refine z88 c.sub ((C.mono (f.trans s)).repB c b) r λv w z=>?_;nofun;obtain⟨m,n,p,y⟩:=z.close c;ac_rfl;exact q m w v (i.trans (f.trans (s.trans n))) p y
end
structure ItOk (K:Zg) (F:Hp) (J:It) (ws:List W):Prop where
 go:∀i H,Same F H->i<ws.length->J.go i H
 stop:∀H,Same F H->J.stop ws.length H
 yld:∀i H x H',Same F H->i<ws.length->J.yld i H x H'->∃w,ws[i]?=Za w/\Out K F H (w,Zc) x H'
abbrev tI (K:Zg) (g:GL):TI:=λσ H R=>∃F pr en e w,Rel K F pr en σ H/\g en=Za (e,w)/\∀a b J,Same F a->Rel K a pr e σ b->ItOk K a J w->R J b
section
variable {K:Zg}{F H:Hp}
theorem zcd {F b:Hp}{a:Zh}{vs:List V}(s:Same F b)(h:SqT K F a vs):SqT K b a vs:=by
 rcases h with (h|⟨o,h⟩)|h
 ·exact .inl (.inl (s _ _ h))
 ·exact .inl (.inr ⟨o,s _ _ h⟩)
 ·exact .inr h
theorem zqp {a:Zh}{vs:List V}{ws:List W}(h:SqL K F a vs)(r:Reps K F ws vs):ItOk K F (Itl K a) ws where
 go:=λi H s b=>⟨vs,vs[i]'(by rw[<-r.length];exact b),s.seq h,by rw[Ad]⟩
 stop:=λH s=>⟨vs,s.seq h,by rw[r.length];exact Af _⟩
 yld:=λi H x c s b y=>by
  obtain⟨e,y⟩:=y;subst e;obtain⟨w,e,q⟩:=r.getV (y vs (s.seq h));exact⟨w,e,.val q⟩
theorem ybh {a:Zh}{vs:List V}{ws:List W}(h:SqT K F a vs)(r:Reps K F ws vs):ItOk K F (Itt K a) ws where
 go:=λi H s b=>⟨vs,vs[i]'(by rw[<-r.length];exact b),zcd s h,by rw[Ad]⟩
 stop:=λH s=>⟨vs,zcd s h,by rw[r.length];exact Af _⟩
 yld:=λi H x c s b y=>by
  obtain⟨e,y⟩:=y;subst e;obtain⟨w,e,q⟩:=r.getV (y vs (zcd s h));exact⟨w,e,.val q⟩
abbrev rngW (lo:Int) (n:Nat):List W:=(List.range n).map λk=>W.int (lo+(k:Nat))
theorem zqv (lo:Int)(n:Nat):ItOk K F (Itr lo n) (rngW lo n) where
 go:=λi H s h=>by unfold rngW at h;rw[Ab,Da] at h;exact h
 stop:=λH s=>by unfold rngW;rw[Ab,Da];exact Af n
 yld:=λi H x a s h y=>by
  obtain⟨e,y⟩:=y;subst e y;unfold rngW at h ⊢;rw[Ab,Da] at h;exact⟨_,by rw[Ai,List.getElem?_range h];rfl,.val (.int _)⟩
abbrev zhh (ws:List W) (k:Nat):List W:=match ws with
 |[]=>[]
 |w::ws=>.tup [.int k,w]::zhh ws (k+1)
theorem zcj:∀(w:List W) (k:Nat),(zhh w k).length=w.length
 |[],_=>rfl
 |_::w,k=>congrArg (· + 1) (zcj w (k+1))
theorem zem:∀{ws:List W}{k i:Nat}{w:W},ws[i]?=Za w->(zhh ws k)[i]?=Za (.tup [.int (k+i:Nat),w])
 |[],_,_,_,e=>by simp at e
 |w::ws,k,0,_,e=>by simp at e;subst e;rfl
 | w::ws,k,i+1,u,e=>by
  have:=zem (ws:=ws) (k:=k+1) (i:=i) (w:=u) (by simpa using e);show (zhh ws (k+1))[i]?=_;rw[this];have:k+1+i=k+(i+1):=by symm
  rw[this]
theorem z3z {a:Zh}{vs:List V}{ws:List W}(h:SqL K F a vs)(r:Reps K F ws vs):ItOk K F (Ite K a) (zhh ws 0) where
 go:=λi H s b=>by rw[zcj] at b;exact⟨vs,vs[i]'(by rw[<-r.length];exact b),s.seq h,by rw[Ad]⟩
 stop:=λH s=>⟨vs,s.seq h,by rw[zcj,r.length];exact Af _⟩
 yld:=λi H x f s b y=>by
  nofun;obtain⟨p,v,e,d,c,y⟩:=y;ac_rfl;subst e c;obtain⟨w,e,q⟩:=r.getV (y vs (s.seq h));refine⟨_,zem e,?_⟩;rw[Cn];exact .tup d (.cons (.int _) (.cons q .nil))
theorem yap {a:Zh}{vs:List V}{ws:List W}(h:SqL K F a vs)(r:Reps K F ws vs):ItOk K F (Itv K a vs.length) ws.reverse where
 go:=λi H s b=>by rw[Ff,r.length] at b;exact⟨b,vs,s.seq h,rfl⟩
 stop:=λH s=>by rw[Ff,r.length];rfl
 yld:=λi H x c s b y=>by
  obtain⟨e,y⟩:=y;subst e;obtain⟨w,e,q⟩:=r.getV (y vs (s.seq h));refine⟨w,?_,.val q⟩;rw[Ff] at b;rw[List.getElem?_reverse b,r.length];exact e
end
section
variable {X:Cx}{tg:Zi}
abbrev iSeq (K:Zg) (t:TE):TI:=λσ H R=>t σ H λx b=>∃a,x=.ref a/\((∃c,SqL K b a c)/\R (Itl K a) b\/(∃c,SqT K b a c)/\R (Itt K a) b)
theorem z28 {l:Zi}{t:TE}(k:PE X l t):PI X tg l (iSeq X.K t):=λpins s σ H R I h =>
 thn (k pins s σ H _ I h) λv d ⟨x,f,c,r,a,e,m⟩=>by
  subst e;cases r;have fp:∀b∈[d.heap.objs.size],FpOk X pins f b:=λb j=>by
   rw[Ax] at j;subst j;exact c.fpOk (Af _) (c.hok.fresh (Af _))
  rcases m with⟨⟨n,g⟩,q⟩|⟨⟨n,g⟩,q⟩
  ·obtain⟨i,_,p,_⟩:=c.list g;exact Dp p.isList ⟨_,_,_,_,f,rfl,c.kept (t':=d.toks) λb o e=>Ac _ e,zvv a _,⟨_,Aq _ rfl,rfl,rfl⟩,fp,q⟩
  ·obtain⟨i,_,p,_⟩:=c.tuple g;exact Fz (show d.heap.IsTuple a i.toArray from p) ⟨_,_,_,_,f,rfl,c.kept (t':=d.toks) λb o e=>Ac _ e,zsv a _,⟨_,Aq _ rfl,rfl,rfl⟩,fp,q⟩
end
abbrev zam (g:GE):GL:=λen=>(g en).bind λp=>(seqW p.2.1).bind λw=>Za (p.1,w)
abbrev zc9 (i:Int):Bool:=decide (-(2^62)<=i)&&decide (i<2^62)
abbrev zbw (as:GAs):GL:=λen=>(as en).bind λp=>match zbc p.1 p.2 with
 |some [.int j]=>if zc9 j then Za (p.1,rngW 0 j.toNat) else Zb
 |_=>Zb
abbrev zx5 (as:GAs):GL:=λen=>(as en).bind λp=>match zbc p.1 p.2 with
 |some #v[6,15]=>if zc9 i&&zc9 j then Za (p.1,rngW i (j-i).toNat) else Zb
 |_=>Zb
abbrev gRev (g:GE):GL:=λen=>(g en).bind λp=>(seqL p.2.1).bind λw=>Za (p.1,w.reverse)
theorem zdm {i:Int}(h:zc9 i=Zd):-(2^62)<=i/\i<2^62:=by
 unfold zc9 at h;rw[Ae] at h;exact⟨Ar h.1,Ar h.2⟩
section
variable {K:Zg}{σ:St}{H:Hp}
theorem zke {g:GE}{R:It->Hp->Prop} (h:tI K (zam g) σ H R):iSeq K (tE K g) σ H R:=by
 nofun;obtain⟨F,pr,en,j,m,Re,h,q⟩:=h;obtain⟨⟨f,e⟩,k,h⟩:=bS h;obtain⟨u,a,h⟩:=bS h;ac_rfl;cases h;refine⟨F,pr,en,f,e,Re,k,λl b v s i z=>?_⟩;nofun;obtain⟨c,d,R2,y⟩:=z.freeze i;obtain⟨w,fl⟩:=e;ac_rfl;cases w with
 | lst x=>ext a;cases y with
  |lst y r=>exact⟨_,rfl,.inl ⟨⟨_,SqL.of' (R2.sub _ _ y)⟩,q c b _ (s.trans d) R2 (zqp (SqL.of' y) r)⟩⟩
 | frl x=>ext a;cases y with
  |frl y r=>exact⟨_,rfl,.inl ⟨⟨_,R2.sub.seq y⟩,q c b _ (s.trans d) R2 (zqp y r)⟩⟩
 | tup x=>ext a;cases y with
  |tup y r=>exact⟨_,rfl,.inr ⟨⟨_,.inl (.inl (R2.sub _ _ y))⟩,q c b _ (s.trans d) R2 (ybh (.inl (.inl y)) r)⟩⟩
 |_=>cases a
theorem zu8 {as:GAs}{R:It->Hp->Prop} (h:tI K (zbw as) σ H R):z74 (tAs K as) σ H R:=by
 nofun;obtain⟨F,pr,en,i,w,Re,h,q⟩:=h;obtain⟨⟨a,x⟩,k,h⟩:=bS h;ac_rfl;refine⟨F,pr,en,a,x,Re,k,λc d l s b f=>?_⟩;cases e:zbc a x with
 |none=>simp only [e] at h;exists h
 | some u =>
  have r:=f.repBs b e
  match u,e,r with
  | [.int j],e,r =>
   simp only [e] at h;split at h
   ·rename_i z
    cases h;obtain⟨v,a,g⟩:=r.one;subst a;exact⟨j,by rw[g.int],(zdm z).1,(zdm z).2,q c d _ s b (zqv 0 j.toNat)⟩
   ·exists h
  |[],e,_=>simp only [e] at h;exists h
  |.non::_,e,_=>simp only [e] at h;exists h
  |.bl _::_,e,_=>simp only [e] at h;exists h
  |.str _::_,e,_=>simp only [e] at h;exists h
  |.tup _::_,e,_=>simp only [e] at h;exists h
  |.lst _::_,e,_=>simp only [e] at h;exists h
  |.frl _::_,e,_=>simp only [e] at h;exists h
  |.dic::_,e,_=>simp only [e] at h;exists h
  |.dct _ _::_,e,_=>simp only [e] at h;exists h
  |.dcz _ _::_,e,_=>simp only [e] at h;exists h
  |.int _::_::_,e,_=>simp only [e] at h;exists h
theorem zvh {as:GAs}{R:It->Hp->Prop} (h:tI K (zx5 as) σ H R):z8u (tAs K as) σ H R:=by
 nofun;obtain⟨F,pr,en,n,w,Re,h,q⟩:=h;obtain⟨⟨a,x⟩,g,h⟩:=bS h;ac_rfl;refine⟨F,pr,en,a,x,Re,g,λk d p s c l=>?_⟩;cases e:zbc a x with
 |none=>simp only [e] at h;exists h
 | some u =>
  have r:=l.repBs c e;simp only [e] at h;split at h
  ·rename_i i j f
   ext f;split at h
   ·rename_i z
    rw[Ae] at z;cases h;nofun;obtain⟨v,o,a,m,b⟩:=r.two;ac_rfl;subst a;exact⟨i,j,by rw[m.int,b.int],⟨(zdm z.1).1,(zdm z.1).2,(zdm z.2).1,(zdm z.2).2⟩,q k d _ s c (zqv i (j-i).toNat)⟩
   ·exists h
  ·exists h
theorem znz {F:Hp}{w:W}{ws:List W}{v:V} (y:Rep K F w v) (h:seqL w=Za ws):∃a b,v=.ref a/\SqL K F a b/\Reps K F ws b:=by
 cases w with
 | lst x=>ext h;cases y with
  |lst y r=>exact⟨_,_,rfl,SqL.of' y,r⟩
 | frl x=>ext h;cases y with
  |frl y r=>exact⟨_,_,rfl,y,r⟩
 |_=>cases h
theorem z1c {g:GE}{R:It->Hp->Prop}(h:tI K (gRev g) σ H R):iRev K (za4 (tE K g) tNil) σ H R:=by
 nofun;obtain⟨F,pr,en,n,w,Re,h,q⟩:=h;obtain⟨⟨l,k⟩,i,h⟩:=bS h;obtain⟨u,d,h⟩:=bS h;ac_rfl;cases h;refine⟨F,pr,en,l,k,Re,i,λp c v s m z=>?_⟩;nofun;obtain⟨j,o,R2,y⟩:=z.freeze m;obtain⟨a,f,e,b,r⟩:=znz y d;ac_rfl;subst e;exact⟨a,f,rfl,R2.sub.seq b,q j c _ (s.trans o) R2 (yap b r)⟩
end
inductive Tg where
 |nm (i:Nat)
 |tp (is:List Nat)
 |nt (i:Nat) (js:List Nat)
abbrev setAll (mp:List Nat):List Nat->List W->En->Option En
 |[],[],en=>Za en
 |i::b,w::a,en=>if mp.contains i || !decide (i<en.length) then Zb else setAll mp b a (en.set i (#v[w,6]))
 |_,_,_=>Zb
abbrev tgSet (mp:List Nat):Tg->W->En->Option En
 |.nm i,w,en=>if mp.contains i || !decide (i<en.length) then Zb else Za (en.set i (#v[w,6]))
 |.tp b,.tup a,en=>setAll mp b a en
 |.tp b,.lst a,en=>setAll mp b a en
 |.nt i j,.tup [w,.tup a],en=>if mp.contains i || !decide (i<en.length) then Zb else setAll mp j a (en.set i (#v[w,6]))
 |_,_,_=>Zb
abbrev zhx:List Nat->TGs
 |[]=>gNil
 |i::a=>zsf (zfn i) (zhx a)
abbrev zvn (K:Zg) (n:Nat) (t:TGs):TG:=λv σ H Q=>∃a x,v=.ref a/\(SqT K H a x\/SqL K H a x)/\x.length=n/\t x σ H Q
theorem zwx {X:Cx}{es:List Zi}{k:Nat}{t:TGs}{n:Nat}{pos:Pos}(j:X.calm=Zd)(h:PGs X es t)(l:(assignEach es X.env).length=n)(d:(assignEach es X.env).findIdx? (·.1)=Zb):PG X (.Tuple es k pos) (zvn X.K n t):=by
 intro pins s σ H v u Q I r f;nofun;obtain⟨a,x,q,c,g,f⟩:=f;ac_rfl;rcases c with c|c
 ·exact z2t j h l d pins s σ H v u Q I r ⟨a,x,q,c,g,f⟩
 ·subst q;cases r;nofun;obtain⟨i,p,⟨o,m,A,C,_,w⟩,E⟩:=I.list c;ac_rfl;rw[assign_Tuple];refine Aa (Fs ?_);unfold unpack;have y:(assignEach es X.env).length=i.toArray.size:=by rw[An,l,<-g,p.length]
  rw[y,d];refine Aa (Dc (PySem.W.kun_itemsOf (I.ok.hd j) ⟨o,A,C,m,w⟩ λD B=>?_));have z:Inv X pins σ H { s with heap:=D }:=I.kept (t':=s.toks) λb o e=>B b o (Bb (Ao e)) e;exact h pins _ σ H x _ Q z (by simpa using p) f
abbrev TGof (K:Zg):Tg->TG
 |.nm i=>zfn i
 |.tp a=>zvn K a.length (zhx a)
 |.nt i j=>zvn K 2 (zsf (zfn i) (zsf (zvn K j.length (zhx j)) gNil))
abbrev Keep (mp:List Nat) (σ a:St):Prop:=∀i∈mp,a[i]?=σ[i]?
theorem Keep.refl (mp:List Nat)(σ:St):Keep mp σ σ:=λ_ _=>rfl
theorem Keep.trans {mp:List Nat}{σ σ1 c:St}(a:Keep mp σ σ1)(b:Keep mp σ1 c):Keep mp σ c:=λi h=>(b i h).trans (a i h)
theorem Keep.set {mp:List Nat}{σ:St}{i:Nat}(h:mp.contains i=Zc)(v:Option V):Keep mp σ (σ.set i v):=λj a=>by
 have:i≠j:=λe=>by subst e;rw[List.contains_iff_mem.mpr a] at h;cases h
 exact Bt this
section
variable {K:Zg}{F H:Hp}{pr:Prt}
theorem zd5 {mp:List Nat}{Q:St->Hp->Prop}:∀{c:List Nat}{d:List W}{b:List V}{en e:En}{σ:St},Rel K F pr en σ H->Reps K F d b->setAll mp c d en=Za e->(∀a,Rel K F pr e a H->Keep mp σ a->Q a H)->zhx c b σ H Q
 |[],[],_,en,e,σ,R,.nil,h,q=>by ext h;exact⟨rfl,q σ R (.refl _ _)⟩
 | i::c,w::d,_,en,e,σ,R,.cons (v:=v) (vs:=b) h0 r,h,q=>by
  unfold setAll at h;split at h
  ·exists h
  ·rename_i z
   rw[Cg,not_or,Bk,Bk,Cs] at z;refine⟨v,b,rfl,?_⟩;exact zd5 (R.store (r:=(w,Zc)) (i:=i) h0 (Ar z.2)) r h λa f k=>q a f ((Keep.set z.1 _).trans k)
 |[],_::_,_,_,_,_,_,_,h,_=>by exists h
 |_::_,[],_,_,_,_,_,_,h,_=>by exists h
theorem zu4 {mp:List Nat}:∀(b:List Nat) (a:List W) (en e:En),setAll mp b a en=Za e->b.length=a.length:=by
 intro b
 induction b with
 | nil=>intro a en e h;cases a with
  |nil=>rfl
  |cons _ _=>exists h
 | cons i b c=>intro a en e h;cases a with
  |nil=>exists h
  | cons w a =>
   unfold setAll at h;split at h
   ·exists h
   ·exact congrArg (· + 1) (c _ _ _ h)
theorem zx7 {mp i:List Nat}{ws:List W}{v:V}{en en':En}{σ:St}{Q:St->Hp->Prop}(R:Rel K F pr en σ H)(h0:Rep K F (.tup ws) v)(h:setAll mp i ws en=Za en')(q:∀a,Rel K F pr en' a H->Keep mp σ a->Q a H):zvn K i.length (zhx i) v σ H Q:=by
 cases h0 with
 |tup b r=>exact⟨_,_,rfl,.inl (.inl (.inl (R.sub _ _ b))),by rw[zu4 i ws en en' h,r.length],zd5 R r h q⟩
theorem znk {mp:List Nat}{T:Tg}{w:W}{v:V}{en en':En}{σ:St}{Q:St->Hp->Prop} (R:Rel K F pr en σ H) (h0:Rep K F w v) (h:tgSet mp T w en=Za en') (q:∀a,Rel K F pr en' a H->Keep mp σ a->Q a H):TGof K T v σ H Q:=by
 cases T with
 | nm i =>
  unfold tgSet at h;simp only at h;split at h
  ·exists h
  ·rename_i z
   rw[Cg,not_or,Bk,Bk,Cs] at z;ext h;exact q _ (R.store (r:=(w,Zc)) h0 (Ar z.2)) (Keep.set z.1 _)
 | tp f =>
  cases w with
  |tup c=>exact zx7 R h0 h q
  | lst c =>
   cases h0 with
   | lst b r =>
    exact⟨_,_,rfl,.inr (SqL.of' (R.sub _ _ b)),by rw[zu4 f c en en' h,r.length],zd5 R r h q⟩
  |_=>exists h
 | nt i p =>
  unfold tgSet at h;split at h
  ·rename_i e;cases e
  ·rename_i e;cases e
  ·rename_i e;cases e
  ·rename_i n l u o m
   cases m;cases h0 with
   | tup b r =>
    cases r with
    | cons j r =>
     cases r with
     | cons d r =>
      cases r;split at h
      ·exists h
      ·rename_i z
       rw[Cg,not_or,Bk,Bk,Cs] at z;exact⟨_,_,rfl,.inl (.inl (.inl (R.sub _ _ b))),rfl,_,_,rfl,_,_,rfl,zx7 (R.store (r:=(u,Zc)) (i:=i) j (Ar z.2)) d h λa g k=>⟨rfl,q a g ((Keep.set z.1 _).trans k)⟩⟩
  ·exists h
end
inductive Fl where
 |nx|ret (r:W×Bool)|brk|cnt
noncomputable abbrev GS:=En->Option (En×Fl)
abbrev zrv (K:Zg) (mp:List Nat) (F:Hp) (pr:Prt) (σ:St) (D:Ends) (en':En):Fl->Prop
 |.nx=>∀b a H,Same F b->Rel K b pr en' a H->Keep mp σ a->D.nx a H
 |.brk=>∀b a H,Same F b->Rel K b pr en' a H->Keep mp σ a->D.bk a H
 |.cnt=>∀b a H,Same F b->Rel K b pr en' a H->Keep mp σ a->D.ct a H
 |.ret r=>∀b a H v,Same F b->Rel K b pr en' a H->Keep mp σ a->Res K b H pr en' a r v->D.rt v H
abbrev tS (K:Zg) (mp:List Nat) (g:GS):TS:=λD σ H=>∃F pr en e fl,Rel K F pr en σ H/\g en=Za (e,fl)/\zrv K mp F pr σ D e fl
theorem zrv.step {K:Zg}{mp:List Nat}{F e:Hp}{pr:Prt}{σ σ1:St}{D:Ends}{en':En}{fl:Fl}(s:Same F e)(k:Keep mp σ σ1)(h:zrv K mp F pr σ D en' fl):zrv K mp e pr σ1 D en' fl:=by
 cases fl with
 |nx=>exact λb a H d R c=>h b a H (s.trans d) R (k.trans c)
 |brk=>exact λb a H d R c=>h b a H (s.trans d) R (k.trans c)
 |cnt=>exact λb a H d R c=>h b a H (s.trans d) R (k.trans c)
 |ret r=>exact λb a H v d R c z=>h b a H v (s.trans d) R (k.trans c) z
abbrev zbx:GS:=λen=>Za (en,.nx)
abbrev gBrk:GS:=λen=>Za (en,.brk)
abbrev gCnt:GS:=λen=>Za (en,.cnt)
abbrev gSeq (a b:GS):GS:=λen=>match a en with
 |some (e,.nx)=>b e
 |some (e,f)=>Za (e,f)
 |none=>Zb
abbrev gRet (g:GE):GS:=λen=>(g en).bind λp=>Za (p.1,.ret p.2)
abbrev ydh:GS:=λen=>Za (en,.ret (.non,Zc))
abbrev gIfS (c:GT) (a b:GS):GS:=λen=>match c en with
 |#v[e,5]=>a e
 |#v[e,6]=>b e
 |none=>Zb
abbrev zc8 (g:GE):GS:=λen=>(g en).bind λp=>Za (p.1,.nx)
abbrev gSet (mp:List Nat) (i:Nat) (g:GE):GS:=λen=>(g en).bind λp=>if mp.contains i || !decide (i<p.1.length) then Zb else Za (p.1.set i (Za p.2),.nx)
abbrev gAsg (mp:List Nat) (T:Tg) (g:GE):GS:=λen=>(g en).bind λp=>(tgSet mp T p.2.1 p.1).bind λe=>Za (e,.nx)
section
variable {K:Zg}{mp:List Nat}{D:Ends}{σ:St}{H:Hp}
theorem zg4 (h:tS K mp zbx D σ H):z0k D σ H:=by
 obtain⟨F,pr,en,e,fl,R,h,q⟩:=h;cases h;exact q F σ H (.refl F) R (.refl _ _)
theorem zy1 {a b:GS} (h:tS K mp (gSeq a b) D σ H):tSeq (tS K mp a) (tS K mp b) D σ H:=by
 nofun;obtain⟨F,pr,en,c,fl,R,h,q⟩:=h;ac_rfl;unfold gSeq at h;cases e:a en with
 |none=>simp only [e] at h;exists h
 | some p =>
  obtain⟨d,f⟩:=p;refine⟨F,pr,en,d,f,R,e,?_⟩;cases f with
  | nx =>
   simp only [e] at h;exact λi σ1 j s g k=>⟨i,pr,d,c,fl,g,h,q.step s k⟩
  |brk=>simp only [e] at h;cases h;exact q
  |cnt=>simp only [e] at h;cases h;exact q
  |ret r=>simp only [e] at h;cases h;exact q
theorem zpp {g:GE}(h:tS K mp (gRet g) D σ H):tRet (tE K g) D σ H:=by
 nofun;obtain⟨F,pr,en,d,fl,R,h,q⟩:=h;obtain⟨⟨e,r⟩,f,h⟩:=bS h;ac_rfl;cases h;exact⟨F,pr,en,e,r,R,f,λc a v s b z=>q c σ a v s b (.refl _ _) z⟩
theorem z11 {c:GT}{a b:GS} (h:tS K mp (gIfS c a b) D σ H):tIfS (tT K c) (tS K mp a) (tS K mp b) D σ H:=by
 nofun;obtain⟨F,pr,en,f,fl,R,h,q⟩:=h;ac_rfl;unfold gIfS at h;cases e:c en with
 |none=>simp only [e] at h;exists h
 | some p =>
  obtain⟨g,d⟩:=p;refine⟨F,pr,en,g,d,R,e,λj k s i=>?_⟩;cases d with
  |true=>simp only [e] at h;exact iteT ⟨j,pr,g,f,fl,i,h,q.step s (.refl _ _)⟩
  |false=>simp only [e] at h;exact iteF ⟨j,pr,g,f,fl,i,h,q.step s (.refl _ _)⟩
theorem zw2 {g:GE}(h:tS K mp (zc8 g) D σ H):z42 (tE K g) D σ H:=by
 nofun;obtain⟨F,pr,en,d,fl,R,h,q⟩:=h;obtain⟨⟨e,r⟩,f,h⟩:=bS h;ac_rfl;cases h;exact⟨F,pr,en,e,r,R,f,λc a v s b z=>q c σ a s b (.refl _ _)⟩
theorem zjq {i:Nat}{g:GE}(h:tS K mp (gSet mp i g) D σ H):tAsg (tE K g) (zfn i) D σ H:=by
 nofun;obtain⟨F,pr,en,d,fl,R,h,q⟩:=h;obtain⟨⟨e,r⟩,f,h⟩:=bS h;ac_rfl;split at h
 ·exists h
 ·rename_i z;rw[Cg,not_or,Bk,Bk,Cs] at z;cases h;exact⟨F,pr,en,e,r,R,f,λc a v s b y=>q c _ a s (b.store y (Ar z.2)) (Keep.set z.1 _)⟩
theorem z1x {T:Tg}{g:GE}(h:tS K mp (gAsg mp T g) D σ H):tAsg (tE K g) (TGof K T) D σ H:=by
 nofun;obtain⟨F,pr,en,j,fl,R,h,q⟩:=h;obtain⟨⟨e,r⟩,m,h⟩:=bS h;obtain⟨n,c,h⟩:=bS h;ac_rfl;cases h;refine⟨F,pr,en,e,r,R,m,λo b v s i y=>?_⟩;nofun;obtain⟨d,l,R2,z⟩:=y.freeze i;ac_rfl;exact znk R2 z c λa f k=>q d a b (s.trans l) f k
abbrev gPar (mp:List Nat) (i j:Nat) (a b:GE):GS:=λen=>(a en).bind λp=>(b p.1).bind λq=>if mp.contains i||mp.contains j || !decide (i<q.1.length) || !decide (j<q.1.length) then Zb else Za ((q.1.set i (#v[p.2.1,6])).set j (Za q.2),.nx)
abbrev zbe (i:Nat) (k:GE) (g:GE):GS:=λen=>(g en).bind λp=>match p.1[i]? with
 | some (Za _)=>(k p.1).bind λq=>match q.2,q.1[i]? with
  |(.int n,_),Za (#v[w,2])=>(ixN w.length n).bind λj=>Za (q.1.set i (#v[(w.set j p.2.1),2]),.nx)
  |_,_=>Zb
 |_=>Zb
theorem zsd {i:Nat}{k g:GE}(h:tS K mp (zbe i k g) D σ H):tAsg (tE K g) (gSub (tVar i) (tE K k) z8l) D σ H:=by
 obtain⟨F,pr,en,O,fl,R,h,q⟩:=h;obtain⟨⟨m,N⟩,y,h⟩:=bS h;refine⟨F,pr,en,m,N,R,y,λZ S U u M E=>?_⟩;obtain⟨C,P,R2,I⟩:=E.freeze M;split at h
 ·rename_i J d;obtain⟨⟨r,v⟩,w,h⟩:=bS h;obtain⟨X,f0⟩:=J;obtain⟨A,b⟩:=R2.has d;refine⟨A,b,C,pr,m,r,v,R2,w,λB W V s l z=>?_⟩;split at h
  ·rename_i n t T e c;simp only at e;subst e;obtain⟨j,L,h⟩:=bS h;cases h;obtain⟨a,x,Q,G,o,p,Y,f⟩:=l.ownL c;cases G;rw[b] at o;cases o;refine⟨a,x,n,j,rfl,z.isInt,p,by rw[<-f.length];exact L,?_⟩;exact q B σ _ (u.trans (P.trans s)) (l.change c b (f.set (I.mono s) j)) (.refl _ _)
  ·exists h
 ·exists h
abbrev gApp (i:Nat) (g:GE):GE:=λen=>match en[i]? with
 | some (Za (.lst _,Zd))=>(g en).bind λp=>match p.1[i]? with
  |some (#v[w,2])=>if w.length<sizeLine then Za (p.1.set i (#v[(w++[p.2.1]),2]),(.non,Zc)) else Zb
  |_=>Zb
 |_=>Zb
theorem z1z {i:Nat}{g:GE}{Q:VK}(h:tE K (gApp i g) σ H Q):tBM K "list" znf (tVar i) (za4 (tE K g) tNil) σ H Q:=by
 nofun;obtain⟨F,pr,en,A,r,R,h,q⟩:=h;ac_rfl;unfold gApp at h;split at h
 ·rename_i M c;nofun;obtain⟨a,k,w,N,d,f,L,I⟩:=R.ownL c;obtain⟨⟨t,z⟩,l,h⟩:=bS h;ac_rfl;refine⟨.ref a,d,.inl ⟨rfl,k,SqL.of' f⟩,F,pr,en,t,z,R,l,λO E j s u y=>?_⟩;nofun;obtain⟨m,B,R2,x⟩:=y.freeze u;ac_rfl;split at h
  ·rename_i G b;split at h
   ·rename_i o;cases h;nofun;obtain⟨J,v,D,C,e,n,P,p⟩:=R2.ownL b;ac_rfl;cases C;rw[d] at e;cases e;refine⟨a,v,j,rfl,rfl,n,by rw[<-p.length];exact o,?_⟩;exact q m _ _ (s.trans B) (R2.change b d (p.append (.cons x .nil))) .non
   ·exists h
  ·exists h
 ·exists h
abbrev gExt (i:Nat) (g:GE):GE:=λen=>match en[i]? with
 | some (Za (.lst _,Zd))=>(g en).bind λp=>match p.2.1,p.1[i]? with
  |.lst u,Za (#v[w,2])=>if w.length+u.length<=sizeLine then Za (p.1.set i (#v[(w++u),2]),(.non,Zc)) else Zb
  |_,_=>Zb
 |_=>Zb
abbrev gAug (mp:List Nat) (o:O2) (i:Nat) (g:GA):GS:=λen=>match en[i]? with
 |some (#v[w,6])=>(g en).bind λp=>(resA p.1 p.2).bind λu=>(o w u).bind λr=>if mp.contains i || !decide (i<p.1.length) then Zb else Za (p.1.set i (Za r),.nx)
 |_=>Zb
theorem zqi {i:Nat}{o:O2}{r:R2}{g:GA}(J:OpS K r o)(h:tS K mp (gAug mp o i g) D σ H):tAug i (tA K g) r D σ H:=by
 nofun;obtain⟨F,pr,en,I,fl,R,h,q⟩:=h;ac_rfl;unfold gAug at h;split at h
 ·rename_i w n;nofun;obtain⟨v,G,b⟩:=R.val i w n;obtain⟨⟨B,A⟩,j,h⟩:=bS h;obtain⟨u,E,h⟩:=bS h;obtain⟨x,f,h⟩:=bS h;ac_rfl;split at h
  ·exists h
  ·rename_i z;rw[Cg,not_or,Bk,Bk,Cs] at z;cases h;refine⟨v,G,F,pr,en,B,A,R,j,λt c d s a C=>?_⟩;refine J t c w u v d x _ a.sub (.inl (b.mono s)) (C.repB a E) f λL p e=>?_;nofun;obtain⟨k,l,m,y⟩:=e.close a;ac_rfl;exact q k _ p (s.trans l) (m.store y (Ar z.2)) (Keep.set z.1 _)
 ·exists h
theorem zo2 {M:Model}{A:Around}{E:Ze->Zf->Prop}{s:Zf}{a b:Ze}{T id:String}{Q:Ze->Zf->Prop} (i:s.TypeIs a T) (j:s.TypeIs b T)
  (e:typeLookup (.type T) (dunderI "add")=pure (Za (.builtin id))) (g:isSeqSlotId id=Zd) (h:fillsNumberSlot (.type T) "add" = pure Zc)
  (k:wpAny M A (call (.builtin id) [a,b]) Q E s):wpAny M A (inplaceOp .Add a b) Q E s:=by
 unfold inplaceOp;refine Dc ?_;have d:fillsInplaceSlot (.type T) "add" (Operator.Add==.Add)=pure Zc:=by
  unfold fillsInplaceSlot;show (typeLookup (.type T) (dunderI "add")>>=λf=>pure (f.isSome && !isSeqSlot f))=pure Zc;rw[e,pure_bind];show pure (Zd && !isSeqSlotId id)=pure Zc;rw[g];rfl
 have c:seqSlot? (.type T) (dunderI "add")=pure (Za (.builtin id)):=by
  unfold seqSlot?;rw[e,pure_bind];show (if (!isSeqSlotId id)=Zd then _ else _)=_;rw[g];rfl
 refine Aa (wpAny_typeOf i (Aa (wpAny_of_eq d ?_)));show wpAny M A (if Zc=Zd then _ else _) Q E s;rw[if_neg As];refine Aa (wpAny_binaryOp1_none (nm := "add") i j h ?_);refine Aa (wpAny_of_eq c ?_);exact Aa (Df k)
abbrev z7l:R2:=λx y H Q=>∃l b a z,x=.ref l/\y=.ref b/\H l=Za (.lst a)/\H b=Za (.lst z)/\a.length+z.length<=sizeLine/\Q (.ref l) (upd H l (.lst (a++z)))
theorem z64 {X:Cx}:PIp X .Add z7l:=by
 intro pins s σ H x y v u Q I p t h;obtain⟨l,b,D,B,rfl,rfl,g,m,C,q⟩:=h;cases p;cases t;obtain⟨z,a,n,r,w,e⟩:=I.lstM g;obtain⟨A,i,o,k,j,f⟩:=I.lstM m;have d:a.toArray.size+i.toArray.size<=sizeLine:=by rw[An,An];symm
 have c:¬ (!a.toArray.isEmpty&&Builtin.List.listTooLong (a.toArray.size+i.toArray.size))=Zd:=by
  rw[zi2 d,Gv];exact As
 refine zo2 (T := "list") (id := "list.__iadd__") ⟨_,e,rfl⟩ ⟨_,f,rfl⟩ F.slot_list_iadd.lookup #v[0,0,7] noFill_list_add ?_;refine Gp F.slot_list_iadd ⟨_,e,rfl⟩ F.entry_list_iadd (F.args_list_iadd_2 _ _)
  (AutoSeq1.list___iadd___list_list_0 l a.toArray n b i.toArray o c (by rw[An];symm) #v[]) ⟨e,f,?_⟩
 refine⟨.ref l,_,I.lset (its':=a++i) g e (by simp) (r.append k) ?_,rfl,q⟩;rw[Bh];symm
abbrev z5m (mp:List Nat) (i:Nat) (g:GE):GS:=λen=>match en[i]? with
 | some (Za (.lst _,Zd))=>(g en).bind λp=>match p.2.1,p.1[i]? with
  |.lst u,Za (#v[w,2])=>if w.length+u.length<=sizeLine/\mp.contains i=Zc then Za (p.1.set i (#v[(w++u),2]),.nx) else Zb
  |_,_=>Zb
 |_=>Zb
theorem zta {i:Nat}{g:GE} (h:tS K mp (z5m mp i g) D σ H):tAug i (tE K g) z7l D σ H:=by
 nofun;obtain⟨F,pr,en,B,fl,R,h,q⟩:=h;ac_rfl;unfold z5m at h;split at h
 ·rename_i U f
  nofun;obtain⟨a,P,w,W,d,L,T,O⟩:=R.ownL f;obtain⟨⟨z,m,l⟩,n,h⟩:=bS h;ac_rfl;refine⟨.ref a,d,F,pr,en,z,(m,l),R,n,λX J N s A y=>?_⟩;nofun;obtain⟨o,C,R2,x⟩:=y.freeze A;ac_rfl;split at h
  ·rename_i Q M b c
   simp only at b x;subst b;split at h
   ·rename_i u
    cases h;nofun;obtain⟨S,v,G,E,j,t,Y,p⟩:=R2.ownL c;ac_rfl;cases E;rw[d] at j;cases j;cases x with
    | lst k r =>
     refine ⟨a,_,v,_,rfl,rfl,t,R2.sub _ _ k,by rw [<-p.length,<-r.length];exact u.1,?_⟩;have e:σ.set i (Za (V.ref a))=σ:=by
      obtain⟨I,e⟩:=Ah.mp d;rw[<-e];exact List.set_getElem_self I
     show D.nx (σ.set i (Za (V.ref a))) _;rw[e];exact q o σ _ (s.trans C) (R2.change c d (p.append r)) (.refl _ _)
   ·exists h
  ·exists h
 ·exists h
abbrev zlk (mp:List Nat) (T:Tg) (body:GS):List W->En->Option (En×Fl)
 |[],en=>Za (en,.nx)
 | w::a,en=>(tgSet mp T w en).bind λb=>match body b with
  |some (e,.nx)=>zlk mp T body a e
  |some (e,.cnt)=>zlk mp T body a e
  |some (e,.brk)=>Za (e,.nx)
  |some (e,.ret r)=>Za (e,.ret r)
  |none=>Zb
abbrev gFor (mp:List Nat) (T:Tg) (it:GL) (body:GS):GS:=λen=>(it en).bind λp=>zlk mp T body p.2 p.1
theorem z08 {T:Tg}{it:GL}{body:GS} (h:tS K mp (gFor mp T it body) D σ H):tFor (tI K it) (TGof K T) (tS K mp body) D σ H:=by
 nofun;obtain⟨F,pr,en,B,fl,R,h,q⟩:=h;obtain⟨⟨X,b⟩,h1,h⟩:=bS h;ac_rfl;refine⟨F,pr,en,X,b,R,h1,λL H1 J P R1 ok=>?_⟩;refine⟨λi m f n=>m=b.length-i/\i<=b.length/\∃O N,Same L O/\Rel K O pr N f n/\Keep mp σ f/\zlk mp T body (b.drop i) N=Za (B,fl),⟨_,rfl,Cc _,L,X,.refl _,R1,.refl _ _,by simpa using h⟩,?_⟩;rintro i m f n ⟨rfl,hi,O,N,o,A,u,a⟩;by_cases d:i<b.length
 ·refine .inr ⟨ok.go i n (o.trans A.sub) d, ?_⟩
  have hd:b.drop i=b[i]::b.drop (i+1):=(Ce d);rw[hd] at a;obtain⟨U,Z,a⟩:=bS (show (tgSet mp T b[i] N).bind _=_ from a);refine⟨λg M=>∃E C,Same L E/\Rel K E pr C g M/\Keep mp σ g/\zlk mp T body (b.drop (i+1)) C=Za (B,fl),?_,?_⟩
  ·rintro g M ⟨E,C,s2,R2,k2,Q⟩
   exact⟨b.length-(i+1),by symm,rfl,d,E,C,s2,R2,k2,Q⟩
  ·intro x M y
   obtain⟨w,V,out⟩:=ok.yld i n x M (o.trans A.sub) d y;rw[Ad d] at V;ext V;nofun;obtain⟨Y,s3,R3,z⟩:=(out.mono o).close A;ac_rfl;refine znk (w:=b[i]) R3 z Z λσ3 R4 G=>?_;cases eb:body U with
   |none=>simp only [eb] at a;exists a
   | some p =>
    obtain⟨S,W⟩:=p;refine⟨Y,pr,U,S,W,R4,eb,?_⟩;have I:Same L Y:=o.trans s3;cases W with
    | nx =>
     simp only [eb] at a;exact λl c t s j k=>⟨l,S,I.trans s,j,(u.trans G).trans k,a⟩
    | cnt =>
     simp only [eb] at a;exact λl c t s j k=>⟨l,S,I.trans s,j,(u.trans G).trans k,a⟩
    | brk =>
     simp only [eb] at a;cases a;exact λl c t s j k=>q l c t (P.trans (I.trans s)) j ((u.trans G).trans k)
    | ret r =>
     simp only [eb] at a;cases a;exact λl c t v s j k z=>q l c t v (P.trans (I.trans s)) j ((u.trans G).trans k) z
 ·have e:i=b.length:=by symm
  subst e;rw[List.drop_length] at a;cases a;exact .inl ⟨ok.stop n (o.trans A.sub),q O f n (P.trans o) A u⟩
end
section
variable {X:Cx}
end
section
variable {K:Zg}{σ:St}{H:Hp}
end
section
variable {prog:Program}{w:World}{A:Around}{E:Ze->Zf->Prop}{s:Zf}{it d:Zh}{o:Obj}{es:Array DictEntry}{i ep:Nat}
end
section
variable {X:Cx}{tg:Zi}
end
section
variable {K:Zg}{F F' H:Hp}{pr:Prt}{en:En}{σ:St}
end
theorem Rel.drop {K:Zg}{F H:Hp}{pr:Prt}{en:En}{σ:St}(R:Rel K F pr en σ H){i:Nat}{w:W}(e:en[i]?=Za (#v[w,5])):∃v,σ[i]?=Za (Za v)/\Rel K F pr (en.set i Zb) σ H/\Res K F H pr (en.set i Zb) σ (w,Zd) v:=by
 have p:i<en.length:=(Ah.mp e).1;nofun;obtain⟨a,l,r,t,c,n,s,d⟩:=R.own i w e;ac_rfl;have g:∀(j:Nat) (x:W×Bool),(en.set i Zb)[j]?=Za (Za x)->j≠i/\en[j]?=Za (Za x):=λj x h=>by
  rcases zeo p h with⟨_,q⟩|z
  ·cases q
  ·exact z
 refine⟨_,c,⟨by rw[Bq];exact R.len,R.sub,λj u q=>R.val j u (g j _ q).2,λj u q=>R.own j u (g j _ q).2,λj k b u f q m=>R.inj j k b u f (g j _ q).2 (g k _ m).2,λb o q=>⟨(R.prt b o q).1,(R.prt b o q).2.1,λj u z=>(R.prt b o q).2.2 j u (g j _ z).2⟩,R.tb⟩,a,l,r,t,rfl,n,s,d,λj u q z=>?_,λb o q z=>?_⟩
 ·exact (g j _ q).1 (R.inj j i a _ _ (g j _ q).2 e z c)
 ·subst z;exact (R.prt b o q).2.2 i w e c
section
variable {prog:Program}{w:World}{A:Around}{E:Ze->Zf->Prop}{s:Zf}{d:Zh}{o:Obj}{es:Array DictEntry}{ep:Nat}
end
noncomputable abbrev Cap:=List (Option Nat)
abbrev zf3 (cap:Cap) (en:En):En:=cap.map λo=>match o with
 |some i=>(en[i]?).getD Zb
 |none=>Zb
abbrev zav (cap:Cap) (i:Nat):Option Nat:=cap.findIdx? (· == Za i)
abbrev zce (cap:Cap):Bool:=(List.range cap.length).all λj=>match cap[j]? with
 |some (Za i)=>zav cap i==Za j
 |_=>Zd
abbrev capKeep (cap:Cap):List Nat:=(List.range cap.length).filter λj=>match cap[j]? with
 |some (Za _)=>Zd
 |_=>Zc
abbrev zar (cap:Cap) (en c:En):En:=en.mapIdx λi x=>match zav cap i with
 |some j=>(c[j]?).getD Zb
 |none=>x
theorem zbi {cap:Cap}{i j:Nat}(h:zav cap i=Za j):cap[j]?=Za (Za i):=by
 unfold zav at h;obtain⟨a,b,_⟩:=List.findIdx?_eq_some_iff_getElem.mp h;rw[Ad a];have:cap[j]=Za i:=by simpa using b
 rw[this]
theorem zcx {cap:Cap}{i:Nat}(h:zav cap i=Zb)(j:Nat):cap[j]?≠Za (Za i):=λe=>by
 unfold zav at h;have:=List.findIdx?_eq_none_iff.mp h (Za i) (Be e);simp at this
theorem zf7 {cap:Cap}(h:zce cap=Zd){i j:Nat}(e:cap[j]?=Za (Za i)):zav cap i=Za j:=by
 unfold zce at h;have a:j<cap.length:=(Ah.mp e).1;have:=Bd.mp h j (Bo.mpr a);simp only [e] at this;simpa using this
theorem zn8 {cap:Cap}{i j:Nat}(e:cap[j]?=Za (Za i)):j∈capKeep cap:=by
 unfold capKeep;exact Ck.mpr ⟨Bo.mpr (Ah.mp e).1,by simp only [e]⟩
theorem zdf {cap:Cap}{en:En}{j:Nat}{x:W×Bool} (h:(zf3 cap en)[j]?=Za (Za x)):∃i,cap[j]?=Za (Za i)/\en[i]?=Za (Za x):=by
 unfold zf3 at h;rw[Ai] at h;cases e:cap[j]? with
 |none=>rw[e] at h;exists h
 | some o =>
  rw[e] at h;cases o with
  |none=>cases h
  | some i =>
   refine⟨i,rfl,?_⟩;have a:(en[i]?).getD Zb=Za x:=sI h;cases e2:en[i]? with
   |none=>rw[e2] at a;exists a
   |some z=>rw[e2] at a;exact congrArg Za a
theorem zqa {cap:Cap}{σ:St}{i j:Nat}(h:cap[j]?=Za (Za i)):(capSt cap σ)[j]?=Za ((σ[i]?).getD Zb):=by
 unfold capSt;rw[Ai,h]
 rfl
theorem zfp {cap:Cap}{σ:St}{i j:Nat}{v:V}(h:cap[j]?=Za (Za i))(a:σ[i]?=Za (Za v)):(capSt cap σ)[j]?=Za (Za v):=by
 rw[zqa h,a];rfl
theorem backEn_get {cap:Cap}{en a:En}{i:Nat}{x:W×Bool} (h:(zar cap en a)[i]?=Za (Za x)):(∃j,zav cap i=Za j/\a[j]?=Za (Za x))\/(zav cap i=Zb/\en[i]?=Za (Za x)):=by
 unfold zar at h;rw[Ev] at h;cases e:en[i]? with
 |none=>rw[e] at h;exists h
 | some o =>
  rw[e] at h;cases c:zav cap i with
  |none=>simp only [c,Gf] at h;exact .inr ⟨rfl,h⟩
  | some j =>
   simp only [c,Gf] at h;have b:(a[j]?).getD Zb=Za x:=sI h;refine .inl ⟨j,rfl,?_⟩;cases e2:a[j]? with
   |none=>rw[e2] at b;exists b
   |some z=>rw[e2] at b;exact congrArg Za b
abbrev zby (pr:Prt) (cap:Cap) (en:En) (σ:St) (H:Hp):Prt:=λb o=>pr b o\/∃(j:Nat) (w:W),en[j]?=Za (#v[w,5])/\zav cap j=Zb/\σ[j]?=Za (Za (V.ref b))/\H b=Za o
abbrev zhr (p:Prt) (a:Zh) (vs:List V):Prt:=λb o=>p b o\/(b=a/\o=.lst vs)
section
variable {K:Zg}{F H:Hp}{pr pb:Prt}{en:En}{σ:St}
theorem Rel.ownT (R:Rel K F pr en σ H){j:Nat}{w:W}{b:Zh}{ps:Array Ze}(e:en[j]?=Za (#v[w,5]))(s:σ[j]?=Za (Za (V.ref b))):H b≠Za (.tbl ps):=λz=>by
 obtain⟨a,o,f,_,h,c,_,d⟩:=R.own j w e;rw[s] at h;cases h;rw[z] at c;ext c;cases d
theorem zh0 {cap:Cap}{b:Zh}{ps:Array Ze}(R:Rel K F pr en σ H)(e:H b=Za (.tbl ps))(h:∀o,¬ pr b o):∀o,¬ zby pr cap en σ H b o:=λo z=>by
 rcases z with z|⟨j,w,q,_,a,_⟩
 ·exact h o z
 ·exact R.ownT q a e
theorem zih {cap:Cap}{b:Zh}{xs:List V}(R:Rel K F pr en σ H)(z:zby pr cap en σ H b (.tup xs)):pr b (.tup xs):=by
 rcases z with z|⟨j,w,e,_,f,q⟩
 ·exact z
 ·obtain⟨a,o,g, _,h,c,_,d⟩:=R.own j w e;rw[f] at h;cases h;rw[q] at c;ext c;cases d
theorem Rel.accUpd {c:Zh}{vs us:List V}(R:Rel K F (zhr pb c vs) en σ H)(k:∀b o,pb b o->b≠c):Rel K F (zhr pb c us) en σ (upd H c (.lst us)):=by
 obtain⟨g,j,d⟩:=R.prt c (.lst vs) (.inr ⟨rfl,rfl⟩);have n:∀b p,H b=Za (.tbl p)->b≠c:=λb p e z=>by subst z;rw[g] at e;cases e
 have nx:∀b φ,H b=Za (.ext φ)->b≠c:=λb φ e z=>by subst z;rw[g] at e;cases e
 refine⟨R.len,λb o e=>?_,R.val,λi w e=>?_,R.inj,λb o q=>?_,R.tb.go (λb B z=>z.elim .inl λz=>nomatch z.2) (λb p e f=>⟨by rw[upd_ne (n b p e)];exact e,f⟩) (.refl F) λb p e u o z=>z.elim (λz=>u o (.inl z)) λz=>n b p e z.1⟩
 ·have:b≠c:=λz=>by subst z;rw[j] at e;exists e
  rw[upd_ne this];exact R.sub _ _ e
 ·refine aG λG qG => ?_;obtain⟨a,v,m,x,h,l,r,A⟩:=R.own i w e;ac_rfl;have:a≠c:=λz=>by subst z;exact d i w e h
  exact⟨a,v,m,x,h,by rw[upd_ne this];exact l,r,A⟩
 ·rcases q with q|⟨rfl,rfl⟩
  ·obtain⟨s,y,t⟩:=R.prt b o (.inl q);exact⟨by rw[upd_ne (k b o q)];exact s,y,t⟩
  ·exact⟨upd_same,j,d⟩
theorem zw8 {cap:Cap}{a:Zh}(R:Rel K F pr en σ H)(h:H a=Zb):∀b o,zby pr cap en σ H b o->b≠a:=λb o q=>by
 rcases q with q|⟨j,w,_,_,_,q⟩
 ·exact zae (R.prt b o q).1 h
 ·exact zae q h
theorem Rel.block {cap:Cap}{m:Zh}(R:Rel K F pr en σ H)(p:H m=Zb)(N:zce cap=Zd):Rel K F (zhr (zby pr cap en σ H) m []) (zf3 cap en) (capSt cap σ) (upd H m (.lst [])):=by
 have S:F m=Zb:=R.sub.free p;have R2:=R.lay p (.lst []);refine⟨by unfold zf3 capSt;rw[Ab,Ab],R2.sub,λj w e=>?_,λj w e=>?_,λj l a w w' C u B E=>?_,λb o q=>?_,R.tb.go (λb xs z=>z.elim (zih R) λz=>nomatch z.2) (λb ps e f=>⟨by rw[upd_ne (zae e p)];exact e,f⟩) (.refl F) λb ps e X o z=>z.elim (zh0 R e X o) λz=>zae e p z.1⟩
 ·refine aG λG qG => ?_;obtain⟨i,c,e⟩:=zdf e;obtain⟨v,r,h⟩:=R.val i w e;ac_rfl;exact⟨v,zfp c r,h⟩
 ·refine aG λG qG => ?_;obtain⟨i,c,e⟩:=zdf e;obtain⟨a,A,y,r,h,g,n,D⟩:=R2.own i w e;ac_rfl;exact⟨a,A,y,r,zfp c h,g,n,D⟩
 ·refine aG λG qG => ?_;obtain⟨i,P,C⟩:=zdf C;obtain⟨k,I,u⟩:=zdf u;obtain⟨i',t,B⟩:=capSt_get B;obtain⟨k',s,E⟩:=capSt_get E;ac_rfl;rw[P] at t;cases t;rw[I] at s;cases s;have:=R.inj i k a _ _ C u B E;subst this;have x:=zf7 N P;rw[zf7 N I] at x;exact (sI x).symm
 ·have d:∀(j:Nat) (w:W),(zf3 cap en)[j]?=Za (Za (w,Zd))->∃(i:Nat) (a:Zh),cap[j]?=Za (Za i)/\en[i]?=Za (Za (w,Zd))/\σ[i]?=Za (Za (V.ref a))/\(capSt cap σ)[j]?=Za (Za (V.ref a))/\∃o,H a=Za o:=λj w e=>by
   nofun;obtain⟨i,c,e⟩:=zdf e;obtain⟨a,A,y,r,h,g,n,D⟩:=R.own i w e;ac_rfl;exact⟨i,a,c,e,h,zfp c h,_,g⟩
  rcases q with (q|⟨M,Y,J,Q,L,O⟩)|⟨rfl,rfl⟩
  ·obtain⟨T,Z,U⟩:=R2.prt b o q;refine⟨T,Z,λj w e=>?_⟩;nofun;obtain⟨i,a,_,e,h,g,_⟩:=d j w e;ac_rfl;rw[g];intro z;cases z;exact U i w e h
  ·refine aG λG qG => ?_;obtain⟨a,A,y,r,h,g,n,D⟩:=R.own M Y J;ac_rfl;rw[L] at h;cases h;refine⟨by rw[upd_ne (zae O p)];exact O,n,λj w e=>?_⟩;nofun;obtain⟨i,a,c,e,h,g,_⟩:=d j w e;ac_rfl;rw[g];intro z;cases z;have:=R.inj i M _ _ _ e J h L;subst this;exact zcx Q j c
  ·refine⟨upd_same,S,λj w e => ?_⟩;nofun;obtain⟨i,a,c,e,h,g,o,n⟩:=d j w e;ac_rfl;rw[g];intro z;cases z;rw[p] at n;exists n
theorem Rel.unblock {cap:Cap}{r:Zh}{t H':Hp}{J:En}{n:St}{vs:List V}{ws:List W} (R:Rel K F pr en σ H) (T:H r=Zb) (s:Same F t) (u:Rel K t (zhr (zby pr cap en σ H) r vs) J n H') (kp:Keep (capKeep cap) (capSt cap σ) n) (rs:Reps K t ws vs) :
  Rel K t pr (zar cap en J) σ H'/\Res K t H' pr (zar cap en J) σ (.lst ws,Zd) (.ref r):=by
 have slot:∀(i j:Nat) (v:V),zav cap i=Za j->n[j]?=Za (Za v)->σ[i]?=Za (Za v):=λi j v c e=>by
  have U:=zbi c;rw[kp j (zn8 U),zqa U] at e;have M:(σ[i]?).getD Zb=Za v:=sI e;cases q:σ[i]? with
  |none=>rw[q] at M;exists M
  |some z=>rw[q] at M;exact congrArg Za M
 obtain⟨a1,a2,Z⟩:=u.prt r (.lst vs) (.inr ⟨rfl,rfl⟩);have un:∀(i:Nat) (w:W),zav cap i=Zb->en[i]?=Za (#v[w,5])->∃(a:Zh) (vs:HO) (ws:W),w=ws/\σ[i]?=Za (Za (V.ref a))/\H a=Za vs/\H' a=Za vs/\t a=Zb/\OwnR K F ws vs/\∀(j:Nat) (E:W),J[j]?=Za (#v[E,5])->n[j]?≠Za (Za (V.ref a)):=λi w c e=>by
  nofun;obtain⟨a,vs,ws,p,h,d,D,C⟩:=R.own i w e;obtain⟨O,Q,P⟩:=u.prt a vs (.inl (.inr ⟨i,w,e,c,h,d⟩));ac_rfl;exact⟨a,vs,ws,p,h,d,O,Q,C,P⟩
 have g:∀(i j:Nat) (w:W),zav cap i=Za j->J[j]?=Za (#v[w,5])->∃(a:Zh) (vs:HO) (ws:W),w=ws/\σ[i]?=Za (Za (V.ref a))/\n[j]?=Za (Za (V.ref a))/\H' a=Za vs/\t a=Zb/\OwnR K t ws vs:=λi j w c e=>by
  nofun;obtain⟨a,vs,ws,p,h,d,D,C⟩:=u.own j w e;ac_rfl;exact⟨a,vs,ws,p,slot i j _ c h,h,d,D,C⟩
 refine⟨⟨by unfold zar;rw[List.length_mapIdx];exact R.len,u.sub,λi w e=>?_,λi w e=>?_,λi k a w E y m S N=>?_,λb o q=>?_,u.tb.go (λb xs z=>.inl (.inl z)) (λb Y e f=>⟨e,f⟩) (.refl t) λb Y e X o z=>X o (.inl (.inl z))⟩,r,_,_,rfl,rfl,a1,a2,.lst rs,λi w e=>?_,λb o q=>zae (R.prt b o q).1 T⟩
 ·rcases backEn_get e with⟨j,c,e⟩|⟨c,e⟩
  ·obtain⟨v,p,h⟩:=u.val j w e;exact⟨v,slot i j v c p,h⟩
  ·obtain⟨v,p,h⟩:=R.val i w e;exact⟨v,p,h.mono s⟩
 ·rcases backEn_get e with⟨j,c,e⟩|⟨c,e⟩
  ·refine aG λG qG => ?_;obtain⟨a,vs,ws,p,h,_,d,D,C⟩:=g i j w c e;ac_rfl;exact⟨a,vs,ws,p,h,d,D,C⟩
  ·refine aG λG qG => ?_;obtain⟨a,vs,ws,p,h,_,d,D,C,_⟩:=un i w c e;ac_rfl;exact⟨a,vs,ws,p,h,d,D,C.mono s⟩
 ·rcases backEn_get y with⟨j,c,y⟩|⟨c,y⟩
  ·refine aG λG qG => ?_;obtain⟨L,_,_,_,h,d,_⟩:=g i j w c y;ac_rfl;rw[S] at h;cases h;rcases backEn_get m with⟨l,B,m⟩|⟨B,m⟩
   ·refine aG λG qG => ?_;obtain⟨L,_,_,_,A,I,_⟩:=g k l E B m;ac_rfl;rw[N] at A;cases A;have:=u.inj j l a _ _ y m d I;subst this;have x:=zbi c;rw[zbi B] at x;cases x;rfl
   ·refine aG λG qG => ?_;obtain⟨L,_,_,_,A,_,_,_,_,I⟩:=un k E B m;ac_rfl;rw[N] at A;cases A;exact absurd d (I j w y)
  ·refine aG λG qG => ?_;obtain⟨L,_,_,_,h,_,_,_,_,d⟩:=un i w c y;ac_rfl;rw[S] at h;cases h;rcases backEn_get m with⟨l,B,m⟩|⟨B,m⟩
   ·refine aG λG qG => ?_;obtain⟨L,_,_,_,A,I,_⟩:=g k l E B m;ac_rfl;rw[N] at A;cases A;exact absurd I (d l E m)
   ·exact R.inj i k a _ _ y m S N
 ·obtain⟨O,Q,P⟩:=u.prt b o (.inl (.inl q));refine⟨O,Q,λi w e=>?_⟩;rcases backEn_get e with⟨j,c,e⟩|⟨c,e⟩
  ·refine aG λG qG => ?_;obtain⟨a,_,_,_,h,d,_⟩:=g i j w c e;ac_rfl;rw[h];intro z;cases z;exact P j w e d
  ·exact (R.prt b o q).2.2 i w e
 ·rcases backEn_get e with⟨j,c,e⟩|⟨c,e⟩
  ·refine aG λG qG => ?_;obtain⟨a,_,_,_,h,d,_⟩:=g i j w c e;ac_rfl;rw[h];intro z;cases z;exact Z j w e d
  ·refine aG λG qG => ?_;obtain⟨a,_,_,_,h,d,_⟩:=un i w c e;ac_rfl;rw[h];intro z;cases z;rw[T] at d;exists d
end
abbrev zhc (mp:List Nat) (T:Tg) (tc:GT) (te:GE):List W->En->Option (En×List W)
 |[],c=>Za (c,[])
 | w::b,c=>(tgSet mp T w c).bind λd=>match tc d with
  |#v[a,5]=>(te a).bind λp=>(zhc mp T tc te b p.1).bind λq=>Za (q.1,p.2.1::q.2)
  |#v[a,6]=>zhc mp T tc te b a
  |none=>Zb
abbrev za6 (cap:Cap) (T:Tg) (it:GL) (tc:GT) (te:GE):GE:=λen=>(it en).bind λp=>if zce cap&&decide (p.2.length<=sizeLine) then (zhc (capKeep cap) T tc te p.2 (zf3 cap p.1)).bind λq=>Za (zar cap p.1 q.1,(.lst q.2,Zd)) else Zb
abbrev gYes:GT:=λen=>#v[en,5]
abbrev zeg (mp:List Nat) (T:Tg) (tc:GT) (em:GL):List W->En->Option (En×List W)
 |[],c=>Za (c,[])
 | w::b,c=>(tgSet mp T w c).bind λd=>match tc d with
  |#v[a,5]=>(em a).bind λp=>(zeg mp T tc em b p.1).bind λq=>Za (q.1,p.2++q.2)
  |#v[a,6]=>zeg mp T tc em b a
  |none=>Zb
abbrev gOne (te:GE):GL:=λen=>(te en).bind λp=>Za (p.1,[p.2.1])
abbrev gTwo (mp:List Nat) (T:Tg) (it:GL) (tc:GT) (em:GL):GL:=λen=>(it en).bind λp=>zeg mp T tc em p.2 p.1
abbrev zwm (cap:Cap) (T:Tg) (it:GL) (tc:GT) (em:GL):GE:=λen=>(it en).bind λp=>if zce cap then (zeg (capKeep cap) T tc em p.2 (zf3 cap p.1)).bind λq=>if q.2.length<=sizeLine then Za (zar cap p.1 q.1,(.lst q.2,Zd)) else Zb else Zb
abbrev zt7 (cap:Cap) (T:Tg) (it:GL) (tc:GT) (a:Tg) (i:GL) (t:GT) (te:GE):GE:=zwm cap T it tc (gTwo (capKeep cap) a i t (gOne te))
theorem zg5 {mp:List Nat}{T:Tg}{tc:GT}{te:GE}:∀{a:List W}{d c:En}{out:List W},zhc mp T tc te a d=Za (c,out)->zeg mp T tc (gOne te) a d=Za (c,out)/\out.length<=a.length
 |[],_,_,_,h=>by cases h;exact⟨rfl,Af _⟩
 | w::a,d,c,out,h=>by
  obtain ⟨g,l,h⟩:=bS (show (tgSet mp T w d).bind _=_ from h);have e:zeg mp T tc (gOne te) (w::a) d=match tc g with
   |#v[f,5]=>(gOne te f).bind λp=>(zeg mp T tc (gOne te) a p.1).bind λq=>Za (q.1,p.2++q.2)
   |#v[f,6]=>zeg mp T tc (gOne te) a f
   |none=>Zb:=by rw[zeg,l];rfl
  rw[e];cases et:tc g with
  |none=>simp only [et] at h;exists h
  | some p =>
   obtain⟨f,b⟩:=p;cases b with
   |false=>simp only [et] at h;exact⟨(zg5 h).1,Nat.le_succ_of_le (zg5 h).2⟩
   | true =>
    simp only [et] at h;obtain⟨⟨j,r⟩,k,h⟩:=bS h;obtain⟨⟨m,rest⟩,i,h⟩:=bS h;cases h;refine⟨?_,Nat.succ_le_succ (zg5 i).2⟩;show (gOne te f).bind _=_;rw[gOne,k];show (zeg mp T tc (gOne te) a j).bind _=_;rw[(zg5 i).1]
    rfl
abbrev MOk (K:Zg) (mp:List Nat) (p:Prt) (b:Zh) (em:GL) (t:TM):Prop:=∀(F:Hp) (f:En) (σ:St) (H:Hp) (v:List V) (c:En) (out:List W) (N:St->Hp->Prop),Rel K F (zhr p b v) f σ H->em f=Za (c,out)->v.length+out.length<=sizeLine ->
 (∀d a e u,Same F d->Rel K d (zhr p b (v++u)) c a e->Keep mp σ a->Reps K d out u->N a e)->t σ H N
section
variable {K:Zg}{mp:List Nat}{pb:Prt}{acc:Zh}
theorem yb2 {te:GE}(d:∀b o,pb b o->b≠acc):MOk K mp pb acc (gOne te) (zrt acc (tE K te)):=by
 intro F f σ H c e out N R h l q;nofun;obtain⟨⟨i,r⟩,n,h⟩:=bS h;ac_rfl;cases h;refine⟨F,_,f,i,r,R,n,λu t v j k y=>?_⟩;nofun;obtain⟨g,s,a,p⟩:=y.freeze k;obtain⟨m,_,_⟩:=a.prt acc (.lst c) (.inr ⟨rfl,rfl⟩);ac_rfl;exact⟨c,m,l,q g σ _ [v] (j.trans s) (a.accUpd d) (.refl _ _) (.cons p .nil)⟩
theorem zue {em:GL}{S:TM}{T:Tg}{tc:GT}{B:Hp}{v:List V}{t g:En}{d:St}{U:Hp}{J:It}{ws out:List W}{X:St->Hp->Prop} (M:MOk K mp pb acc em S) (R:Rel K B (zhr pb acc v) t d U) (ok:ItOk K B J ws) (h:zeg mp T tc em ws t=Za (g,out)) (hz:v.length+out.length<=sizeLine)
  (q:∀F A H' u,Same B F->Rel K F (zhr pb acc (v++u)) g A H'->Keep mp d A->Reps K F out u->X A H'):zmo J (TGof K T) (tT K tc) S d U X:=by
 refine ⟨λi m f H=>m=ws.length-i/\i<=ws.length/\∃F l j u rest,Same B F/\Rel K F (zhr pb acc (v++u)) l f H/\Keep mp d f/\Reps K F j u/\zeg mp T tc em (ws.drop i) l=Za (g,rest)/\j++rest=out,
  ⟨_,rfl,Cc _,B,t,[],[],out,.refl _,by rw[Bf];exact R,.refl _ _,.nil,h,rfl⟩,?_⟩
 rintro i m f H ⟨rfl,hi,F,l,j,u,rest,k,D,L,rd,a,C⟩;by_cases c:i<ws.length
 ·refine .inr ⟨ok.go i H (k.trans D.sub) c, ?_⟩
  have hd:ws.drop i=ws[i]::ws.drop (i+1):=(Ce c);rw[hd] at a;obtain⟨c1,h3,a⟩:=bS (show (tgSet mp T ws[i] l).bind _=_ from a);refine⟨λn E=>∃F l j u rest,Same B F/\Rel K F (zhr pb acc (v++u)) l n E/\Keep mp d n/\Reps K F j u/\zeg mp T tc em (ws.drop (i+1)) l=Za (g,rest)/\j++rest=out,λn E z=>⟨ws.length-(i+1),by symm,rfl,c,z⟩,?_⟩;intro x E y;obtain⟨w,Z,o⟩:=ok.yld i H x E (k.trans D.sub) c y;rw[Ad c] at Z;ext Z;nofun;obtain⟨F3,O,R3,z3⟩:=(o.mono k).close D;ac_rfl;refine znk (w:=ws[i]) R3 z3 h3 λP R4 k4=>?_;cases et:tc c1 with
  |none=>simp only [et] at a;exists a
  | some p =>
   obtain⟨I,b⟩:=p;refine⟨F3,_,c1,I,b,R4,et,λY H5 G Q=>?_⟩;cases b with
   | false =>
    simp only [et] at a;exact iteF ⟨Y,I,j,u,rest,k.trans (O.trans G),Q,L.trans k4,rd.mono (O.trans G),a,C⟩
   | true =>
    simp only [et] at a;nofun;obtain⟨⟨c3,o1⟩,h5,a⟩:=bS a;obtain⟨⟨c4,r⟩,h6,a⟩:=bS a;ac_rfl;cases a;refine iteT (M Y I P H5 (v++u) c3 o1 _ Q h5 ?_ λF6 σ6 H6 N s6 R6 k6 r6=>?_)
    ·dsimp only at C
     rw[<-C,Bh,Bh,rd.length] at hz;rw[Bh];symm
    ·have s:Same F F6:=O.trans (G.trans s6)
     exact⟨F6,c3,j++o1,u++N,r,k.trans s,by rw[<-Bc];exact R6,L.trans (k4.trans k6),(rd.mono s).append r6,h6,by rw[Bc];exact C⟩
 ·have e:i=ws.length:=by symm
  subst e;rw[List.drop_length] at a;cases a;rw[Bf] at C;subst C;exact .inl ⟨ok.stop H (k.trans D.sub),q F f H u k D L rd⟩
theorem ycw {em:GL}{t:TM}{T:Tg}{it:GL}{tc:GT}(M:MOk K mp pb acc em t):MOk K mp pb acc (gTwo mp T it tc em) (tTwo (tI K it) (TGof K T) (tT K tc) t):=by
 intro F b σ H v c out N R h f q;nofun;obtain⟨⟨g,w⟩,d,h⟩:=bS h;ac_rfl;exact⟨F,_,b,g,w,R,d,λm l J s i ok=>zue M i ok h f λj a e u k=>q j a e u (s.trans k)⟩
end
theorem zid {K:Zg}{cap:Cap}{T:Tg}{it:GL}{tc:GT}{em:GL}{t:Zh->TM}{σ:St}{H:Hp}{Q:VK}(M:∀(p:Prt) (c:Zh),(∀b o,p b o->b≠c)->MOk K (capKeep cap) p c em (t c))(h:tE K (zwm cap T it tc em) σ H Q):zvx (tI K it) cap (TGof K T) (tT K tc) t σ H Q:=by
 nofun;obtain⟨F,pr,en,A,r,R,h,q⟩:=h;obtain⟨⟨x,w⟩,i,h⟩:=bS h;ac_rfl;refine⟨F,pr,en,x,w,R,i,λD B J e d ok c a=>?_⟩;split at h
 ·rename_i y;nofun;obtain⟨⟨f,out⟩,g,h⟩:=bS h;ac_rfl;split at h
  ·rename_i v;cases h;refine zue (M _ c (zw8 (cap:=cap) d a)) (d.block a y) ok g (by rw[List.length_nil,Cn];exact v) λz j l C s m k rd=>?_;obtain⟨u,n⟩:=d.unblock a s m k rd;exact q z l _ (e.trans s) u n
  ·exists h
 ·exists h
theorem ztj {K:Zg}{cap:Cap}{T:Tg}{it:GL}{tc:GT}{te:GE}{σ:St}{H:Hp}{Q:VK}(h:tE K (za6 cap T it tc te) σ H Q):zvx (tI K it) cap (TGof K T) (tT K tc) (λa=>zrt a (tE K te)) σ H Q:=by
 refine zid (λp a b=>yb2 b) ?_;obtain⟨F,pr,en,e,r,R,h,q⟩:=h;refine⟨F,pr,en,e,r,R,?_,q⟩;nofun;obtain⟨⟨j,w⟩,i,h⟩:=bS h;ac_rfl;split at h
 ·rename_i z;rw[Ae] at z;nofun;obtain⟨⟨f,out⟩,g,h⟩:=bS h;ac_rfl;obtain⟨c,d⟩:=zg5 g;rw[zwm,i];show (if zce cap=Zd then (zeg (capKeep cap) T tc (gOne te) w (zf3 cap j)).bind _ else Zb)=_;rw[if_pos z.1,c];show (if out.length<=sizeLine then _ else Zb)=_;rw[if_pos (Ci d (Ar z.2))];exact h
 ·exists h
abbrev ydf:GE:=λen=>Za (en,(.dic,Zc))
abbrev keyW:W->Bool
 |.int _=>Zd
 |.str _=>Zd
 |_=>Zc
abbrev ycs (k v:GE):GE:=λen=>(k en).bind λp=>if keyW p.2.1 then (v p.1).bind λq=>Za (q.1,(.dic,Zc)) else Zb
abbrev Src (h:Heap) (it l:Zh) (k:Nat) (xs:Array Ze):Prop:=(h.IsListIter it l k/\h.IsList l xs)\/(h.IsTupleIter it l k/\h.IsTuple l xs)
theorem Src.at {h h':Heap}{it l:Zh}{k:Nat}{xs:Array Ze}(c:Src h it l k xs)(a:∀o,h.get? it=Za o->h'.get? it=Za o)(b:∀o,h.get? l=Za o->h'.get? l=Za o):Src h' it l k xs:=by
 rcases c with⟨p,q⟩|⟨p,q⟩
 ·exact .inl ⟨p.at a,q.at b⟩
 ·obtain⟨o,e,r⟩:=q;exact .inr ⟨p.at a,o,b o e,r⟩
theorem Src.src {h:Heap}{it l:Zh}{k:Nat}{xs:Array Ze}(c:Src h it l k xs):∃o,h.get? l=Za o:=by
 rcases c with⟨_,⟨o,e,_⟩⟩|⟨_,⟨o,e,_⟩⟩<;>exact⟨o,e⟩
section
variable {prog:Program}{w:World}{A:Around}{E:Ze->Zf->Prop}{s:Zf}
theorem zgb {it l:Zh}{k:Nat}{xs:Array Ze}{x:Ze}{Q:Ze->Zf->Prop} (c:Src s.heap it l k xs) (m:xs[k]?=Za x) (ne:l≠it)
  (q:∀h,Src h it l (k+1) xs->Heap.SameBut it s.heap h->Q x { s with heap:=h }):wpAny (model prog w) A (Builtin.SmallTypes.nextOf (.ref it)) Q E s:=by
 rcases c with⟨f,i⟩|⟨f,i⟩
 ·exact wpAny_nextOf_list_item f i m λh a b=>q h (.inl ⟨a,i.at λo e=>(b.2 l ne).trans e⟩) b
 ·refine aG λG qG => ?_;obtain⟨v,g,p,d⟩:=id f;obtain⟨t,j,r,u,n⟩:=id i;ac_rfl;unfold Builtin.SmallTypes.nextOf;refine Aa (Cy (name:=Str.ofString "__next__") f.typeIs Fj (Em Fj f.typeIs F.entry_tuple_iterator_next ?_ (F.args_tuple_iterator_next_1 _)));refine (show wpAny _ _ (field (.ref it) 0>>=_) _ _ s from Aa (Cq g d (x:=.ref l) rfl ?_));refine (show wpAny _ _ (if (Ze.ref l==Ze.none)=Zd then _ else _) _ _ s from ?_);rw[if_neg (by intro z;cases z)];refine (show wpAny _ _ (field (.ref it) 1>>=_) _ _ s from Aa (Cq g d (x:=.int k 0) rfl ?_));refine (show wpAny _ _ (seqItems? (.ref l)>>=_) _ _ s from Aa (De j n ?_));simp only [Dm,m];refine Aa (wpAny_setField g d (by simp) (Ak ⟨x,rfl,Ak ?_⟩));refine q _ (.inr ⟨⟨_,Go _ g (Obj.isFreed_of_fields (Obj.data_mapFields d _)),(Obj.cls_mapFields ..).trans p,by rw[Obj.data_mapFields d];simp [rawInt]⟩,t,?_,r,u,n⟩) (Du ..);exact ((Du ..).2 l ne).trans j
theorem ziy {it l:Zh}{k:Nat}{xs:Array Ze}{Q:Ze->Zf->Prop} (j:A.handled=Zb) (c:Src s.heap it l k xs) (i:xs[k]?=Zb)
  (q:∀h e,Heap.ExtBut it s.heap h->(∃o,h.get? e=Za o/\o.cls=.type "StopIteration")->E (.ref e) { s with heap:=h }):wpAny (model prog w) A (Builtin.SmallTypes.nextOf (.ref it)) Q E s:=by
 rcases c with⟨b,g⟩|⟨b,g⟩
 ·exact wpAny_nextOf_list_end j b g i q
 ·obtain⟨y,f,r,d⟩:=id b;obtain⟨u,n,t,v,p⟩:=id g;unfold Builtin.SmallTypes.nextOf;refine Aa (Cy (name:=Str.ofString "__next__") b.typeIs Fj (Em Fj b.typeIs F.entry_tuple_iterator_next ?_ (F.args_tuple_iterator_next_1 _)));refine (show wpAny _ _ (field (.ref it) 0>>=_) _ _ s from Aa (Cq f d (x:=.ref l) rfl ?_));refine (show wpAny _ _ (if (Ze.ref l==Ze.none)=Zd then _ else _) _ _ s from ?_);rw[if_neg (by intro z;cases z)];refine (show wpAny _ _ (field (.ref it) 1>>=_) _ _ s from Aa (Cq f d (x:=.int k 0) rfl ?_));refine (show wpAny _ _ (seqItems? (.ref l)>>=_) _ _ s from Aa (De n p ?_));simp only [Dm,i];refine Aa (Df (Aa (wpAny_setField f d (by simp) (show wpAny _ _ (newExc (.type "StopIteration") []>>=_) _ _ _ from Aa ?_))));simp only [newExc,newTuple];refine Aa (Dq (Aa (m:=firstArgMember _ _) (wpAny_of_eq (a:=Ze.none) (by first|rfl|(simp only [firstArgMember];rfl)) (Dq ?_ (by size_fits)))) (by size_fits));simp only [raiseNew];refine Aa (wpAny_handled ?_);rw[show A.in1.handled=Zb from j];exact Aa (Ak (wpAny_throw (q _ _ (((Du ..).extBut.push _).push _) ⟨_,Aq _ rfl,rfl⟩)))
theorem z32 {z TI TO i d I J:Zh}{k1 k2:Nat}{xs ys:Array Ze}{x y a b:Ze}{Q:Ze->Zf->Prop} (D:ZipApart z TI TO i d I J) (B:IsZip s.heap z TI TO .none) (gi:IsPair s.heap TI (.ref i) (.ref d)) (go:IsPair s.heap TO a b)
  (c1:Src s.heap i I k1 xs) (c2:Src s.heap d J k2 ys) (ex:xs[k1]?=Za x) (ey:ys[k2]?=Za y)
  (q:∀j,IsZip j z TI TO (rawInt s.heap.objs.size)->IsPair j TO x y->Src j i I (k1+1) xs->Src j d J (k2+1) ys->IsPair j s.heap.objs.size x y ->
   (∀c o,c≠z->c≠TO->c≠i->c≠d->s.heap.get? c=Za o->j.get? c=Za o)->Q (.ref s.heap.objs.size) { s with heap:=j }) :
  wpAny (model prog w) A (Builtin.«zip.__next__» ⟨[.ref z],[]⟩) (λfin s'=>∃v,fin=.done (.ret v)/\Q v s') E s:=by
 refine (show wpAny _ _ (field (.ref z) 2>>=_) _ _ _ from Aa (Cq B rfl (x:=.bool Zc) rfl ?_));refine (show wpAny _ _ (field (.ref z) 3>>=_) _ _ _ from Aa (Cq B rfl (x:=.ref TI) rfl (Aa (De gi rfl ?_))));refine (show wpAny _ _ (Builtin.SmallTypes.ownedTupleIsFree (.ref z)>>=_) _ _ _ from Aa ?_);unfold Builtin.SmallTypes.ownedTupleIsFree;refine Aa (Cq B rfl (x:=.none) rfl (Ak ?_));simp only [Fm];refine Aa (Df (Aa (Cq B rfl (x:=.ref TO) rfl (Aa (Es B (by simp) λV z1 S=>?_)))));have N:IsZip V z TI TO .ellipsis:=z1;refine Aa ?_;simp only [List.zipIdx_cons,List.zipIdx_nil,Gi,Ex];have k : ∀c o,c≠z->s.heap.get? c=Za o->V.get? c=Za o:=λc o n e=>S.extBut _ _ n e;refine Aa (Aa (wpAny_onRaise (show wpAny _ _ (Builtin.SmallTypes.nextOf (.ref i)>>=_) _ _ _ from Aa (zgb (c1.at (λo=>k _ o D.i1z) λo=>k _ o D.l1z) ex D.l1i1 λg2 d2 O=>Ak ?_))));have h : ∀c o,c≠z->c≠i->s.heap.get? c=Za o->g2.get? c=Za o:=λc o n m e=>O.extBut _ _ m (k c o n e);refine Aa (De (h _ _ D.TOz D.TOi1 go) rfl (Aa (wpAny_updateSeq_pair (h _ _ D.TOz D.TOi1 go) λP t3 F=>Aa (Ga (Ak ?_)))));have M:IsPair P TO x b:=t3;have f : ∀c o,c≠z->c≠i->c≠TO->s.heap.get? c=Za o->P.get? c=Za o:=λc o n m r e=>F.extBut _ _ r (h c o n m e);refine Aa (Aa (wpAny_onRaise (show wpAny _ _ (Builtin.SmallTypes.nextOf (.ref d)>>=_) _ _ _ from Aa (zgb (c2.at (λo=>f _ o D.i2z D.i12.symm D.TOi2.symm) λo=>f _ o D.l2z D.l2i1 D.l2TO) ey D.l2i2 λg4 d4 l=>Ak ?_))));have X:IsPair g4 TO x b:=l.extBut _ _ D.TOi2 M;refine Aa (De X rfl (Aa (wpAny_updateSeq_pair X λg t5 u=>Aa (Ga (Ak (Ak ?_))))));have G:IsPair g TO x y:=t5;refine Aa (De G rfl (Aa (wpAny_newTuple ?_)));have U:g.objs.size=s.heap.objs.size:=by rw[u.1,l.1,F.1,O.1,S.1]
 have W:IsZip g z TI TO .ellipsis:=u.extBut _ _ D.TOz.symm (l.extBut _ _ D.i2z.symm (F.extBut _ _ D.TOz.symm (O.extBut _ _ D.i1z.symm N)));have k5:∀c o,c≠z->c≠TO->c≠i->c≠d->s.heap.get? c=Za o->g.get? c=Za o:=λc o n r m p e=>u.extBut _ _ r (l.extBut _ _ p (f c o n m r e));have L:Src g i I (k1+1) xs:=d2.at (λo e=>u.extBut _ _ D.TOi1.symm (l.extBut _ _ D.i12 (F.extBut _ _ D.TOi1.symm e))) λo e=>u.extBut _ _ D.l1TO (l.extBut _ _ D.l1i2 (F.extBut _ _ D.l1TO e));have K:Src g d J (k2+1) ys:=d4.at (λo e=>u.extBut _ _ D.TOi2.symm e) λo e=>u.extBut _ _ D.l2TO e;refine (show wpAny _ _ (Builtin.SmallTypes.ownedTupleHandOut (.ref z) (.ref g.objs.size)>>=_) _ _ _ from Aa ?_);unfold Builtin.SmallTypes.ownedTupleHandOut;have z6:IsZip (g.push { cls:=.type "tuple",data:=.seq #[x,y] }) z TI TO .ellipsis:=Ac _ W;refine Aa (Es z6 (by simp) λg7 z7 Z=>Es (show IsZip g7 z TI TO (rawInt g.objs.size) from z7) (by simp) λH z8 T=>Ak ⟨_,rfl,?_⟩);have t:∀c o,c≠z->g.get? c=Za o->H.get? c=Za o:=λc o n e=>T.extBut _ _ n (Z.extBut _ _ n (Ac _ e));have Y:g.objs.size≠z:=Nat.ne_of_gt (Ao W);have R:IsPair H g.objs.size x y:=T.extBut _ _ Y (Z.extBut _ _ Y (Aq _ rfl));have C:IsZip H z TI TO (rawInt g.objs.size):=z8;rw[U] at R C;show Q (.ref g.objs.size) _;rw[U];exact q H C (t _ _ D.TOz G) (L.at (λo=>t _ o D.i1z) λo=>t _ o D.l1z) (K.at (λo=>t _ o D.i2z) λo=>t _ o D.l2z) R λc o n r m p e=>t c o n (k5 c o n r m p e)
theorem z8p {z TI TO i l B O:Zh}{k1 k2:Nat}{xs ys:Array Ze}{a b:Ze}{Q:Fin->Zf->Prop} (N:A.handled=Zb) (D:ZipApart z TI TO i l B O) (h:IsZip s.heap z TI TO .none) (X:IsPair s.heap TI (.ref i) (.ref l)) (go:IsPair s.heap TO a b)
  (Y:Src s.heap i B k1 xs) (R:Src s.heap l O k2 ys) (Z:xs[k1]?=Zb\/ys[k2]?=Zb)
  (q:∀I e,(∀c o,c≠z->c≠TO->c≠i->c≠l->s.heap.get? c=Za o->I.get? c=Za o)->(∃o,I.get? e=Za o/\o.cls=.type "StopIteration")->E (.ref e) { s with heap:=I }) :
  wpAny (model prog w) A (Builtin.«zip.__next__» ⟨[.ref z],[]⟩) Q E s:=by
 refine (show wpAny _ _ (field (.ref z) 2>>=_) _ _ _ from Aa (Cq h rfl (x:=.bool Zc) rfl ?_));refine (show wpAny _ _ (field (.ref z) 3>>=_) _ _ _ from Aa (Cq h rfl (x:=.ref TI) rfl (Aa (De X rfl ?_))));refine (show wpAny _ _ (Builtin.SmallTypes.ownedTupleIsFree (.ref z)>>=_) _ _ _ from Aa ?_);unfold Builtin.SmallTypes.ownedTupleIsFree;refine Aa (Cq h rfl (x:=.none) rfl (Ak ?_));simp only [Fm];refine Aa (Df (Aa (Cq h rfl (x:=.ref TO) rfl (Aa (Es h (by simp) λF W U=>?_)))));have t:IsZip F z TI TO .ellipsis:=W;refine Aa ?_;simp only [List.zipIdx_cons,List.zipIdx_nil,Gi,Ex];have k : ∀c o,c≠z->s.heap.get? c=Za o->F.get? c=Za o:=λc o n e=>U.extBut _ _ n e;refine Aa (Aa (wpAny_onRaise (show wpAny _ _ (Builtin.SmallTypes.nextOf (.ref i)>>=_) _ _ _ from Aa ?_)));have M:Src F i B k1 xs:=Y.at (λo=>k _ o D.i1z) λo=>k _ o D.l1z;cases hx:xs[k1]? with
 | none =>
  refine ziy N M hx λG e v H=>?_;obtain⟨C,g,j⟩:=H;have K:IsZip G z TI TO .ellipsis:=v _ _ D.i1z.symm t;have ne:e≠z:=λr=>by subst r;rw[K] at g;ext g;simp at j
  exact Es K (by simp) λy _ u=>q y e (λc o n _ m _ x=>u.extBut _ _ n (v _ _ m (k c o n x))) ⟨C,u.extBut _ _ ne g,j⟩
 | some x =>
  have S:ys[k2]?=Zb:=Z.resolve_left (by rw[hx];simp);refine zgb M hx D.l1i1 λG d2 v=>Ak ?_;have f : ∀c o,c≠z->c≠i->s.heap.get? c=Za o->G.get? c=Za o:=λc o n m e=>v.extBut _ _ m (k c o n e);refine Aa (De (f _ _ D.TOz D.TOi1 go) rfl (Aa (wpAny_updateSeq_pair (f _ _ D.TOz D.TOi1 go) λy t3 u=>Aa (Ga (Ak ?_)))));have d : ∀c o,c≠z->c≠i->c≠TO->s.heap.get? c=Za o->y.get? c=Za o:=λc o n m r e=>u.extBut _ _ r (f c o n m e);refine Aa (Aa (wpAny_onRaise (show wpAny _ _ (Builtin.SmallTypes.nextOf (.ref l)>>=_) _ _ _ from Aa (ziy N (R.at (λo=>d _ o D.i2z D.i12.symm D.TOi2.symm) λo=>d _ o D.l2z D.l2i1 D.l2TO) S λT e J H=>?_))));obtain⟨C,g,j⟩:=H;have L:IsZip T z TI TO .ellipsis:=J _ _ D.i2z.symm (u.extBut _ _ D.TOz.symm (v.extBut _ _ D.i1z.symm t));have ne:e≠z:=λr=>by subst r;rw[L] at g;ext g;simp at j
  exact Es L (by simp) λV _ P=>q V e (λc o n r m p x=>P.extBut _ _ n (J _ _ p (d c o n m r x))) ⟨C,P.extBut _ _ ne g,j⟩
theorem z70 {z TI TO d i l e:Zh}{k1 k2:Nat}{xs ys:Array Ze}{x y a b:Ze}{Q:Option Ze->Zf->Prop} (D:ZipApart z TI TO d i l e) (g:IsZip s.heap z TI TO .none) (B:IsPair s.heap TI (.ref d) (.ref i)) (go:IsPair s.heap TO a b)
  (C:Src s.heap d l k1 xs) (k:Src s.heap i e k2 ys) (p:xs[k1]?=Za x) (f:ys[k2]?=Za y)
  (q:∀h,IsZip h z TI TO (rawInt s.heap.objs.size)->IsPair h TO x y->Src h d l (k1+1) xs->Src h i e (k2+1) ys->IsPair h s.heap.objs.size x y ->
   (∀c o,c≠z->c≠TO->c≠d->c≠i->s.heap.get? c=Za o->h.get? c=Za o)->Q (Za (.ref s.heap.objs.size)) { s with heap:=h }):wpAny (model prog w) A (pyNext (.ref z)) Q E s:=by
 have t:s.TypeIs (.ref z) "zip" := ⟨_,g,rfl⟩;unfold pyNext;exact Aa (Hj (Cy (name:=Str.ofString "__next__") t F.slot_zip_next (Em F.slot_zip_next t F.entry_zip_next (z32 D g B go C k p f λh u v r n m j=>Ak (q h u v r n m j)) (F.args_zip_next_1 _))))
theorem yak {z TI TO d i l j:Zh}{k1 k2:Nat}{xs ys:Array Ze}{a b:Ze}{Q:Option Ze->Zf->Prop} (p:A.handled=Zb) (D:ZipApart z TI TO d i l j) (f:IsZip s.heap z TI TO .none) (r:IsPair s.heap TI (.ref d) (.ref i)) (go:IsPair s.heap TO a b)
  (v:Src s.heap d l k1 xs) (n:Src s.heap i j k2 ys) (x:xs[k1]?=Zb\/ys[k2]?=Zb)
  (q:∀h,(∀c o,c≠z->c≠TO->c≠d->c≠i->s.heap.get? c=Za o->h.get? c=Za o)->Q Zb { s with heap:=h }):wpAny (model prog w) A (pyNext (.ref z)) Q E s:=by
 have t:s.TypeIs (.ref z) "zip" := ⟨_,f,rfl⟩;unfold pyNext;refine Aa (Hj (Cy (name:=Str.ofString "__next__") t F.slot_zip_next (Em F.slot_zip_next t F.entry_zip_next (z8p p D f r go v n x λh e k u=>?_) (F.args_zip_next_1 _))));obtain⟨o,g,m⟩:=u;exact Aa (wpAny_isInstance (T := "StopIteration") (b:=Zd) ⟨o,g,m⟩ isSubtype_stop (Ak (q _ k)))
end
abbrev SrcO (h:Heap) (b:Bool) (l:Zh) (xs:Array Ze):Prop:=match b with
 |true=>h.IsList l xs
 |false=>h.IsTuple l xs
abbrev itO (b:Bool) (l:Zh):Obj:={ cls:=.type (if b then "list_iterator" else "tuple_iterator"),data:=.fields #[.ref l,.int 0 0] }
theorem SrcO.push {h:Heap}{b:Bool}{l:Zh}{xs:Array Ze} (c:SrcO h b l xs) (o:Obj):SrcO (h.push o) b l xs:=by
 cases b with
 |true=>exact Heap.IsList.push c o
 | false =>
  obtain⟨q,e,r⟩:=c;exact⟨q,Ac _ e,r⟩
section
variable {prog:Program}{w:World}{A:Around}{E:Ze->Zf->Prop}{s:Zf}
theorem zkm {b:Bool}{l:Zh}{xs:Array Ze}{Q:Ze->Zf->Prop}(c:SrcO s.heap b l xs)(q:Q (.ref s.heap.objs.size) { s with heap:=s.heap.push (itO b l) }):wpAny (model prog w) A (pyIter (.ref l)) Q E s:=by
 cases b with
 |true=>exact Dp c q
 |false=>exact Fz c q
end
noncomputable abbrev zA (h:Heap) (b:Bool) (l:Zh):Heap:=h.push (itO b l)
noncomputable abbrev zB (h:Heap) (b c:Bool) (l m:Zh):Heap:=(zA h b l).push (itO c m)
noncomputable abbrev zC (h:Heap) (b c:Bool) (l m:Zh):Heap:=(zB h b c l m).push { cls:=.type "tuple",data:=.seq #[.ref h.objs.size,.ref (zA h b l).objs.size] }
noncomputable abbrev zD (h:Heap) (b c:Bool) (l m:Zh):Heap:=(zC h b c l m).push { cls:=.type "tuple",data:=.seq #[.none,.none] }
noncomputable abbrev zE (h:Heap) (b c:Bool) (l m:Zh):Heap:=(zD h b c l m).push { cls:=.type "zip",data:=.fields #[.none,.bool Zc,.bool Zc,.ref (zB h b c l m).objs.size,.ref (zC h b c l m).objs.size] }
theorem zuf (b c:Bool)(l m:Zh)(xs ys:Array Ze):Meets (Builtin.«zip.__new__» ⟨[.type "zip",.ref l,.ref m],[]⟩) (λ_ R s=>SrcO s.heap b l xs/\SrcO s.heap c m ys/\R (.ok (.ret (.ref (zD s.heap b c l m).objs.size))) { s with heap:=zE s.heap b c l m }) :=
 .of_wp λprog w A R s h=>by
  obtain⟨e,g,d,t,o⟩:=s;obtain⟨f,x,h⟩:=h;have a:=sub_zip;have y:SrcO (Zf.heap ⟨e,g,d,t,o⟩) b l xs:=f;have i:SrcO (Zf.heap ⟨e.push (itO b l),g,d,t,o⟩) c m ys:=SrcO.push x _
  wp_walk using zkm y,zkm i
  exact⟨_,rfl,h⟩
section
variable {prog:Program}{w:World}{A:Around}{E:Ze->Zf->Prop}{s:Zf}
theorem z18 {b c:Bool}{l m:Zh}{xs ys:Array Ze}{Q:Ze->Zf->Prop} (q:SrcO s.heap b l xs) (p:SrcO s.heap c m ys)
  (h:∀a,IsZip a (s.heap.objs.size+4) (s.heap.objs.size+2) (s.heap.objs.size+3) .none->IsPair a (s.heap.objs.size+2) (.ref s.heap.objs.size) (.ref #v[7,10])->IsPair a (s.heap.objs.size+3) .none .none ->
   a.get? s.heap.objs.size=Za (itO b l)->a.get? #v[7,10]=Za (itO c m)->(∀c o,s.heap.get? c=Za o->a.get? c=Za o)->Q (.ref (s.heap.objs.size+4)) { s with heap:=a }) :
  wpAny (model prog w) A (call (.type "zip") [.ref l,.ref m]) Q E s:=by
 refine callType_new F.called_zip #v[0,9] (F.typeCall_zip_2 _ _) (F.newCall_zip_2 _ _) (λobj=>F.args_object_init_3 obj _ _) F.entry_zip_new (zuf b c l m xs ys) ⟨q,p,?_⟩;have n:(zA s.heap b l).objs.size=s.heap.objs.size+1:=Ct ..;have e:(zB s.heap b c l m).objs.size=s.heap.objs.size+2:=by rw[Ct,n]
 have d:(zC s.heap b c l m).objs.size=s.heap.objs.size+3:=by rw[Ct,e]
 have j:(zD s.heap b c l m).objs.size=s.heap.objs.size+4:=by rw[Ct,d]
 have u:∀r o,s.heap.get? r=Za o->(zE s.heap b c l m).get? r=Za o:=λr o x=>Ac _ (Ac _ (Ac _ (Ac _ (Ac _ x))));have f:(zE s.heap b c l m).get? (zD s.heap b c l m).objs.size=Za _:=Aq _ rfl;have i:(zE s.heap b c l m).get? (zC s.heap b c l m).objs.size=Za _:=Ac _ (Aq _ rfl);have k:(zE s.heap b c l m).get? (zB s.heap b c l m).objs.size=Za _:=Ac _ (Ac _ (Aq _ rfl));have g:(zE s.heap b c l m).get? (zA s.heap b l).objs.size=Za (itO c m):=Ac _ (Ac _ (Ac _ (Aq _ rfl)));have t:(zE s.heap b c l m).get? s.heap.objs.size=Za (itO b l):=Ac _ (Ac _ (Ac _ (Ac _ (Aq _ rfl))));show _/\_;rw[e,d,j] at f;rw[n,e] at k;rw[d] at i;rw[n] at g;rw[j];exact⟨⟨_,f,rfl⟩,h _ f k i t g u⟩
end
abbrev SqK (K:Zg) (k:Bool) (H:Hp) (a:Zh) (xs:List V):Prop:=match k with
 |true=>SqL K H a xs
 |false=>SqT K H a xs
abbrev ItI (h:Heap) (k:Bool) (it l:Zh) (i:Nat):Prop:=match k with
 |true=>h.IsListIter it l i
 |false=>h.IsTupleIter it l i
theorem SqK.mono {K:Zg}{k:Bool}{F H:Hp}{a:Zh}{xs:List V}(s:Same F H)(h:SqK K k F a xs):SqK K k H a xs:=by
 cases k with
 |true=>exact s.seq h
 |false=>exact zcd s h
theorem Inv.sqK {X:Cx}{pins:List (Zh×Obj)}{σ:St}{H:Hp}{s:Zf}{k:Bool}{a:Zh}{xs:List V}(I:Inv X pins σ H s)(h:SqK X.K k H a xs):∃i:List Ze,Vals xs i/\SrcO s.heap k a i.toArray:=by
 cases k with
 |true=>obtain⟨i,r,p,_⟩:=I.list h;exact⟨i,r,p.isList⟩
 |false=>obtain⟨i,r,p,_⟩:=I.tuple h;exact⟨i,r,p⟩
theorem Inv.sqK_inj {X:Cx}{pins:List (Zh×Obj)}{σ:St}{H:Hp}{s:Zf}{k:Bool}{a:Zh}{xs ys:List V}(I:Inv X pins σ H s)(h:SqK X.K k H a xs)(h':SqK X.K k H a ys):xs=ys:=by
 cases k with
 |true=>exact I.list_inj h h'
 |false=>exact I.tuple_inj h h'
theorem ItI.src {h:Heap}{k:Bool}{it l:Zh}{i:Nat}{xs:Array Ze}(a:ItI h k it l i)(b:SrcO h k l xs):Src h it l i xs:=by
 cases k with
 |true=>exact .inl ⟨a,b⟩
 |false=>exact .inr ⟨a,b⟩
theorem Src.itI {h:Heap}{k:Bool}{it l:Zh}{i:Nat}{xs:Array Ze} (c:Src h it l i xs) (b:SrcO h k l xs):ItI h k it l i:=by
 cases k with
 | true =>
  rcases c with⟨c,_⟩|⟨_,⟨o,e,q,_⟩⟩
  ·exact c
  ·obtain ⟨f, a, d, _⟩:=b
   rw[e] at a;ext a;rw[q] at d;simp at d
 | false =>
  rcases c with⟨_,⟨o,e,q,_⟩⟩|⟨c,_⟩
  ·obtain ⟨f, a, d, _⟩:=b
   rw[e] at a;ext a;rw[q] at d;simp at d
  ·exact c
theorem ItI.at {h h':Heap}{k:Bool}{it l:Zh}{i:Nat}(a:ItI h k it l i)(q:∀o,h.get? it=Za o->h'.get? it=Za o):ItI h' k it l i:=by
 cases k with
 |true=>exact Heap.IsListIter.at a q
 |false=>exact Heap.IsTupleIter.at a q
theorem ItI.obj {h:Heap}{k:Bool}{it l:Zh}{i:Nat}(a:ItI h k it l i):∃o,h.get? it=Za o/\∀v,o.data≠.cell v:=by
 cases k with
 |true=>obtain⟨o,e,_,d⟩:=a;exact⟨o,e,λv z=>by rw[d] at z;cases z⟩
 |false=>obtain⟨o,e,_,d⟩:=a;exact⟨o,e,λv z=>by rw[d] at z;cases z⟩
abbrev Itz (K:Zg) (k e:Bool) (a b:Zh):It :=
 ⟨λi H=>∃d c x y,SqK K k H a d/\SqK K e H b c/\d[i]?=Za x/\c[i]?=Za y,
  λi H x f=>∃p v u,x=.ref p/\H p=Zb/\f=upd H p (.tup [v,u])/\(∀d,SqK K k H a d->d[i]?=Za v)/\(∀c,SqK K e H b c->c[i]?=Za u),
  λi H=>∃d c,SqK K k H a d/\SqK K e H b c/\(d.length<=i\/c.length<=i)⟩
abbrev zSt (k e:Bool) (z TI TO d c a b:Zh) (i:Nat) (h:Heap):Prop:=IsZip h z TI TO .none/\IsPair h TI (.ref d) (.ref c)/\(∃u v,IsPair h TO u v)/\ItI h k d a i/\ItI h e c b i
theorem z0o {P:Program}{w:World}{K:Zg}{es:List Zi}{x1}{px:Pos}(G Q:Bool)(z TI TO B n a b:Zh)(D:ZipApart z TI TO B n a b):Turn P w K (.Tuple es x1 px) (Itz K G Q a b) [z,TI,TO,B,n] z (zSt G Q z TI TO B n a b) where
 mem:=by simp
 obj:=λi h m c M=>by
  nofun;obtain⟨l,p,⟨u,v,go⟩,A,t⟩:=m;ac_rfl;simp only [Am,Ax,Ca,Ft] at M;rcases M with rfl|rfl|rfl|rfl|rfl
  ·exact⟨_,l,λv q=>by cases q⟩
  ·exact⟨_,p,λv q=>by cases q⟩
  ·exact⟨_,go,λv q=>by cases q⟩
  ·exact A.obj
  ·exact t.obj
 keep:=λi h Y m k=>by
  nofun;obtain⟨l,p,⟨u,v,go⟩,A,t⟩:=m;ac_rfl;exact⟨k z (by simp) _ l,k TI (by simp) _ p,⟨u,v,k TO (by simp) _ go⟩,A.at λo e=>k B (by simp) o e,t.at λo e=>k n (by simp) o e⟩
 item:=by
  intro X hP hw hK M i pins s σ H E I U m hg;subst hP hw hK;nofun;obtain⟨xs,ys,x,y,V,W,e1,e2⟩:=hg;obtain⟨l,p,⟨u0,v0,go⟩,A,t⟩:=m;obtain⟨S,r1,f⟩:=I.sqK V;obtain⟨its',Z,g⟩:=I.sqK W;obtain⟨u,hu,ru⟩:=r1.get e1;obtain⟨v,hv,rv⟩:=Z.get e2;ac_rfl;refine z70 D l p go (A.src f) (t.src g) (x:=u) (y:=v) (by simpa using hu) (by simpa using hv) λY g1 g2 g3 g4 g5 C=>⟨_,rfl,?_⟩;refine wpAny_letOwnedTupleGo_zip g1 λj k1 F=>?_;have lt:∀c o,s.heap.get? c=Za o->c≠s.heap.objs.size:=λc o e=>Bb (Ao e);have kk:∀c o,c ∉ [z,TI,TO,B,n]->s.heap.get? c=Za o->j.get? c=Za o:=λc o d e=>by
   simp only [Am,Ax,Ca,Ft,not_or] at d;exact (F.2 c d.1).trans (C c o d.1 d.2.2.1 d.2.2.2.1 d.2.2.2.2 e)
  obtain⟨o1,eo1⟩:=(A.src f).src;obtain⟨o2,eo2⟩:=(t.src g).src;have N:SrcO Y G a S.toArray:=by
   cases G with
   |true=>exact f.at λo e=>C a o D.l1z D.l1TO D.l1i1 D.l1i2 e
   |false=>obtain⟨o,e,r⟩:=f;exact⟨o,C a o D.l1z D.l1TO D.l1i1 D.l1i2 e,r⟩
  have T:SrcO Y Q b its'.toArray:=by
   cases Q with
   |true=>exact g.at λo e=>C b o D.l2z D.l2TO D.l2i1 D.l2i2 e
   |false=>obtain⟨o,e,r⟩:=g;exact⟨o,C b o D.l2z D.l2TO D.l2i1 D.l2i2 e,r⟩
  have R:ItI j G B a (i+1):=(g3.itI N).at λo e=>(F.2 B D.i1z).trans e;have L:ItI j Q n b (i+1):=(g4.itI T).at λo e=>(F.2 n D.i2z).trans e;have J:IsPair j TI (.ref B) (.ref n):=(F.2 TI D.TIz).trans (C TI _ D.TIz D.TITO D.TIi1 D.TIi2 p);have O:IsPair j TO u v:=(F.2 TO D.TOz).trans g2;have Tz:s.heap.objs.size≠z:=(lt z _ l).symm;refine⟨.ref s.heap.objs.size,upd H s.heap.objs.size (.tup [x,y]),I.turnLay kk (λc d=>?_) U (Af _) ⟨by show 2<=sizeLine;decide,[u,v],.cons ru (.cons rv .nil),?_⟩,rfl,⟨_,x,y,rfl,I.hok.fresh (Af _),rfl,λzs hz=>by rw[I.sqK_inj hz V];exact e1,λzs hz=>by rw[I.sqK_inj hz W];exact e2⟩,⟨k1,J,⟨u,v,O⟩,R,L⟩,λc d=>?_⟩
  ·simp only [Am,Ax,Ca,Ft] at d;rcases d with rfl|rfl|rfl|rfl|rfl
   ·exact⟨_,k1⟩
   ·exact⟨_,J⟩
   ·exact⟨_,O⟩
   ·obtain⟨o,e,_⟩:=R.obj;exact⟨o,e⟩
   ·obtain⟨o,e,_⟩:=L.obj;exact⟨o,e⟩
  ·exact⟨_,(F.2 _ Tz).trans g5,⟨rfl,_,rfl⟩,rfl⟩
  ·have ne:c≠s.heap.objs.size:=by
    simp only [Am,Ax,Ca,Ft] at d;rcases d with rfl|rfl|rfl|rfl|rfl
    ·exact lt _ _ l
    ·exact lt _ _ p
    ·exact lt _ _ go
    ·obtain⟨o,e,_⟩:=A.obj;exact lt _ _ e
    ·obtain⟨o,e,_⟩:=t.obj;exact lt _ _ e
   rw[upd_ne ne];exact (U c d).1
 done:=by
  intro X hP hw hK M i pins s σ H E I U m hg;subst hP hw hK;nofun;obtain⟨xs,ys,V,W,he⟩:=hg;obtain⟨l,p,⟨u0,v0,go⟩,A,t⟩:=m;obtain⟨S,r1,f⟩:=I.sqK V;obtain⟨its',Z,g⟩:=I.sqK W;ac_rfl;have l1:=r1.length;have l2:=Z.length;refine yak (I.ok.hd M) D l p go (A.src f) (t.src g) ?_ λY k=>⟨rfl,I.turnL (t':=s.toks) (ch:=[z,TI,TO,B,n]) (λc o d e=>?_) U⟩
  ·rcases he with he|he
   ·exact .inl (Ek (by simp;symm))
   ·exact .inr (Ek (by simp;symm))
  ·simp only [Am,Ax,Ca,Ft,not_or] at d;exact k c o d.1 d.2.2.1 d.2.2.2.1 d.2.2.2.2 e
 self:=λ_ _ _ _ _ m h=>wpAny_pyIter_zip m.1 h
theorem z0p:bootBuiltins "zip" = Za (.type "zip"):=by decide +kernel
section
variable {X:Cx}
abbrev iZip (K:Zg) (t:TA):TI:=λσ H R=>t σ H λv c=>∃a b k d x y,v=[.ref a,.ref b]/\SqK K k c a x/\SqK K d c b y/\R (Itz K k d a b) c
theorem ybf {es:List Zi}{T}{px:Pos}{l m:Zi}{y:TA}{p pos:Pos} (Q:Gl X "zip") (S:X.mg "zip" = Zb) (J:PA X [l,m] y) (L:starEach [l,m] X.env=[(Zc,eval l X.env),(Zc,eval m X.env)]) (i:starEach [m] X.env=[(Zc,eval m X.env)]) :
  PI X (.Tuple es T px) (.Call (.Name "zip" p) [l,m] [] pos) (iZip X.K y):=by
 intro pins s σ H R I h;refine Call_ (zdb I Q S z0p (Cu (thn (J pos pins s σ H _ I h) λus d ⟨vs,E,j,Y,O⟩=>?_) (by rw[L,i]) (by rw[i];rfl)));nofun;obtain⟨a,b,n,v,xs,ys,e,q2,F,q⟩:=O;ac_rfl;subst e;cases Y with
 | cons r x =>
  cases x with
  | cons G x =>
   cases x;cases r;cases G;refine aG λ_ qG=>?_;obtain ⟨V,rv1,f⟩:=j.sqK q2;obtain ⟨its',U,g⟩:=j.sqK F;refine qG ?_;clear qG;refine z18 f g λC B W K M N u=>wpAny_pyIter_zip B ?_;have w:a<d.heap.objs.size:=by
    cases n with
    |true=>obtain⟨o,e,_⟩:=f;exact Ao e
    |false=>obtain⟨o,e,_⟩:=f;exact Ao e
   have t:b<d.heap.objs.size:=by
    cases v with
    |true=>obtain⟨o,e,_⟩:=g;exact Ao e
    |false=>obtain⟨o,e,_⟩:=g;exact Ao e
   have D:ZipApart (d.heap.objs.size+4) (d.heap.objs.size+2) (d.heap.objs.size+3) d.heap.objs.size (d.heap.objs.size+1) a b:=by
    have u:∀{c:Zh} (k:Nat),c<d.heap.objs.size->c≠d.heap.objs.size+k:=λk h=>Bb (Az h (Eg _ k));refine⟨?_,?_,?_,?_,?_,?_,?_,?_,?_,?_,u 4 w,u 3 w,u 0 w,u 1 w,u 4 t,u 3 t,u 0 t,u 1 t⟩<;>(intro z;have z':(_:Nat)=_:=z;symm)
   have Z:ItI C n d.heap.objs.size a 0:=by cases n<;>exact⟨_,M,rfl,rfl⟩
   have P:ItI C v (d.heap.objs.size+1) b 0:=by cases v<;>exact⟨_,N,rfl,rfl⟩
   refine ⟨_,_,_,_,E,rfl,j.kept (t':=d.toks) u,z0o n v _ _ _ _ _ a b D,⟨B,W,⟨_,_,K⟩,Z,P⟩,λc A=>?_,q⟩;have le:d.heap.objs.size<=c:=by
    simp only [Am,Ax,Ca,Ft] at A;rcases A with rfl|rfl|rfl|rfl|rfl
    ·exact Eg _ _
    ·exact Eg _ _
    ·exact Eg _ _
    ·exact Af _
    ·exact Eg _ _
   exact j.fpOk le (j.hok.fresh le)
end
abbrev zipW:List W->List W->List W
 |x::a,y::b=>.tup [x,y]::zipW a b
 |_,_=>[]
theorem zeu:∀(x y:List W),(zipW x y).length=min x.length y.length
 |[],_=>by simp [zipW]
 |_::_,[]=>by simp [zipW]
 |_::x,_::y=>by simp only [zipW,Bm,zeu x y];symm
theorem zf4:∀{xs ys:List W}{i:Nat}{x y:W},xs[i]?=Za x->ys[i]?=Za y->(zipW xs ys)[i]?=Za (.tup [x,y])
 |[],_,_,_,_,e,_=>by simp at e
 |_::_,[],_,_,_,_,e=>by simp at e
 |_::xs,_::ys,0,_,_,e,e'=>by simp at e e';subst e e';rfl
 | _::xs,_::ys,i+1,x,y,e,e'=>by
  show (zipW xs ys)[i]?=_;exact zf4 (by simpa using e) (by simpa using e')
abbrev gZip (g g':GE):GL:=λen=>(g en).bind λp=>(g' p.1).bind λq=>(seqW p.2.1).bind λw=>(seqW q.2.1).bind λu=>Za (q.1,zipW w u)
section
variable {K:Zg}{F H:Hp}{σ:St}
theorem zd6 {w:W}{ws:List W}{v:V} (y:Rep K F w v) (h:seqW w=Za ws):∃a k b,v=.ref a/\SqK K k F a b/\Reps K F ws b:=by
 cases w with
 | lst x=>ext h;cases y with
  |lst y r=>exact⟨_,Zd,_,rfl,SqL.of' y,r⟩
 | frl x=>ext h;cases y with
  |frl y r=>exact⟨_,Zd,_,rfl,y,r⟩
 | tup x=>ext h;cases y with
  |tup y r=>exact⟨_,Zc,_,rfl,.inl (.inl y),r⟩
 |_=>exists h
theorem z83 {a b:Zh}{k d:Bool}{vs us:List V}{ws z:List W}(h:SqK K k F a vs)(h':SqK K d F b us)(r:Reps K F ws vs)(c:Reps K F z us):ItOk K F (Itz K k d a b) (zipW ws z) where
 go:=λi H s e=>by
  rw[zeu] at e;have l:i<vs.length:=by rw[<-r.length];symm
  have o:i<us.length:=by rw[<-c.length];symm
  exact⟨vs,us,vs[i],us[i],h.mono s,h'.mono s,Ad l,Ad o⟩
 stop:=λH s=>⟨vs,us,h.mono s,h'.mono s,by rw[zeu,r.length,c.length];symm⟩
 yld:=λi H x C s e y=>by
  nofun;obtain⟨p,v,u,t,j,f,n,g⟩:=y;ac_rfl;subst t f;nofun;obtain⟨B,m,q⟩:=r.getV (n vs (h.mono s));obtain⟨D,w,A⟩:=c.getV (g us (h'.mono s));ac_rfl;exact⟨_,zf4 m w,.tup j (.cons q (.cons A .nil))⟩
theorem zzj {g g':GE}{R:It->Hp->Prop}(h:tI K (gZip g g') σ H R):iZip K (za4 (tE K g) (za4 (tE K g') tNil)) σ H R:=by
 nofun;obtain⟨F,pr,en,M,S,Re,h,q⟩:=h;obtain⟨⟨k,L⟩,A,h⟩:=bS h;obtain⟨⟨l,u⟩,w,h⟩:=bS h;obtain⟨U,r,h⟩:=bS h;obtain⟨W,d,h⟩:=bS h;ac_rfl;cases h;refine⟨F,pr,en,k,L,Re,A,λX Q v o J z=>?_⟩;nofun;obtain⟨C,N,R2,y⟩:=z.freeze J;ac_rfl;refine⟨C,pr,k,l,u,R2,w,λV B T i D n=>?_⟩;nofun;obtain⟨t,s,c,O⟩:=n.freeze D;obtain⟨a,m,x,p,f,G⟩:=zd6 (y.mono (i.trans s)) r;obtain⟨b,E,e,P,j,I⟩:=zd6 O d;ac_rfl;subst p P;exact⟨a,b,m,E,x,e,rfl,f.mono c.sub,j.mono c.sub,q t B _ (o.trans (N.trans (i.trans s))) c (z83 f j G I)⟩
end
open AutoSeq1 (wpAny_loadPart')
section
variable {prog:Program}{w:World}{A:Around}{E:Ze->Zf->Prop}{s:Zf}
theorem zx6 {it l:Zh}{xs:Array Ze}(ne:l≠it)(p:A.handled=Zb):Draws prog w A.in1 it [it,l] xs.size (λi x=>xs[i]?=Za x) (λk h=>h.IsTupleIter it l k/\h.IsTuple l xs) where
 live:=λi h a=>let ⟨⟨o,e,_⟩,_⟩:=a;⟨o,e⟩
 frame:=λi h m a k=>⟨a.1.at λo e=>k it (by simp) o e,let ⟨o,e,r⟩:=a.2;⟨o,k l (by simp) o e,r⟩⟩
 item:=λi s Q E j a q=>zgb (k:=i) (xs:=xs) (x:=xs[i]) (.inr a) (Array.getElem?_eq_getElem j) ne λm c f=>by
  rcases c with⟨⟨o,e,y,_⟩,b⟩|c
  ·obtain ⟨C, D, u, _⟩:=a.1;have:=a.2;exact absurd b (λb=>by
   obtain⟨z,d,g,_⟩:=b;obtain⟨B,n,t,_⟩:=a.2;rw[(f.2 l ne).trans n] at d;ext d;rw[t] at g;exact absurd (Ze.type.inj g) #v[0,9])
  ·exact q xs[i] m s.toks (Array.getElem?_eq_getElem j) c f
 done:=λs Q E a q=>ziy (k:=xs.size) (xs:=xs) (show A.in1.handled=Zb from p) (.inr a) (Ek (Af _)) q
theorem zn2 (l:Zh) (i:Array Ze) (n:Nat) (dct:Option Zh) (f:Array (Option Ze)) :
  Meets (Builtin.«enumerate.__new__» ⟨[.type "enumerate",.ref l],[]⟩) (λ_ R s=>s.heap.get? l=Za { cls:=.type "tuple",dict:=dct,data:=.seq i n,slots:=f } /\
   R (.ok (.ret (.ref (s.heap.push { cls:=.type "tuple_iterator",data:=.fields #[.ref l,.int 0 0] }).objs.size)))
    { s with heap:=(s.heap.push { cls:=.type "tuple_iterator",data:=.fields #[.ref l,.int 0 0] }).push { cls:=.type "enumerate",data:=.fields #[.none,.bool Zc,.ref s.heap.objs.size,rawInt 0,.none,.none] } }) :=
 .of_wp λprog w A R s h=>by
  obtain⟨j,g,d,t,o⟩:=s;obtain⟨a,h⟩:=h;have b:=sub_enumerate;have e:Heap.IsTuple (Zf.heap ⟨j,g,d,t,o⟩) l i:=⟨_,a,rfl,n,rfl⟩
  wp_walk using Cv a
  refine wpAny_stack_any λk=>Ak ?_;split
  ·rename_i c _ _ _ _ _;cases (c==Ze.type "enumerate")<;>(wp_walk using Cv a,Fz e)<;>exact⟨_,rfl,h⟩
  ·wp_walk using Cv a,Fz e
   exact⟨_,rfl,h⟩
theorem zr0 {l:Zh}{i:Array Ze}{Q:Ze->Zf->Prop} (m:s.heap.IsTuple l i)
  (h:∀a,IsEnum a #v[7,10] s.heap.objs.size 0 .none->a.IsTupleIter s.heap.objs.size l 0->(∀b o,s.heap.get? b=Za o->a.get? b=Za o)->Q (.ref #v[7,10]) { s with heap:=a }) :
  wpAny (model prog w) A (call (.type "enumerate") [.ref l]) Q E s:=by
 nofun;obtain⟨⟨c,dct,g,j⟩,k,p,n,f⟩:=m;ac_rfl;cases (show c=.type "tuple" from p);cases (show g=.seq i n from f);refine callType_new F.called_enumerate #v[0,9] (F.typeCall_enumerate_1 _) (F.newCall_enumerate_1 _) (λobj=>F.args_object_init_2 obj _) F.entry_enumerate_new (zn2 l i n dct j) ⟨k,?_⟩;have e:(s.heap.push { cls:=.type "tuple_iterator",data:=.fields #[.ref l,.int 0 0] }).objs.size=s.heap.objs.size+1:=Ct ..;show _/\_;rw[e];have d:=Aq (s.heap.push { cls:=.type "tuple_iterator",data:=.fields #[.ref l,.int 0 0] }) (o:={ cls:=.type "enumerate",data:=.fields #[.none,.bool Zc,.ref s.heap.objs.size,rawInt 0,.none,.none] }) rfl;rw[e] at d;exact⟨⟨_,d,rfl⟩,h _ d ⟨_,Ac _ (Aq _ rfl),rfl,rfl⟩ λb o x=>Ac _ (Ac _ x)⟩
end
abbrev IteT (K:Zg) (a:Zh):It :=
 ⟨λi H=>∃b x,SqT K H a b/\b[i]?=Za x,λi H x c=>∃p v,x=.ref p/\H p=Zb/\c=upd H p (.tup [.int i,v])/\∀b,SqT K H a b->b[i]?=Za v,λi H=>∃b,SqT K H a b/\b.length<=i⟩
theorem zs1 {P:Program}{w:World}{K:Zg}{es:List Zi}{x1}{px:Pos}(a e it:Zh)(B:e≠it)(R:e≠a)(hai:a≠it):Turn P w K (.Tuple es x1 px) (IteT K a) [e,it] e (λi h=>(∃g,IsEnum h e it i g)/\h.IsTupleIter it a i) where
 mem:=by simp
 obj:=λi h r b f=>by
  nofun;obtain⟨⟨g,m⟩,o,hi,c,d⟩:=r;ac_rfl;rcases Am.mp f with rfl|f
  ·exact⟨_,m,λv z=>by cases z⟩
  ·have:b=it:=by simpa using f
   subst this;exact⟨o,hi,λv z=>by rw[d] at z;cases z⟩
 keep:=λi h h' r k=>⟨let ⟨g,m⟩:=r.1;⟨g,k e (by simp) _ m⟩,r.2.at λo z=>k it (by simp) o z⟩
 item:=by
  intro X hP hw hK V i pins s σ H E I L r Y;subst hP hw hK;nofun;obtain⟨xs,x,J,W⟩:=Y;obtain⟨l,Z,p,hz⟩:=I.tuple J;obtain⟨u,hu,ru⟩:=Z.get W;obtain⟨⟨g,m⟩,t⟩:=r;ac_rfl;have N:s.heap.IsTuple a l.toArray:=p;have lt:i<l.toArray.size:=by
   rw[An];exact (Ah.mp hu).1
  refine wpAny_pyNext_enum_itemD (zx6 hai (I.ok.hd V)) m ⟨t,N⟩ lt B (by simp [B,R]) λy h' tk Q ho S U hsz hk=>⟨_,rfl,?_⟩;have eu:y=u:=by
   have:l[i]?=Za y:=by simpa using Q
   rw[hu] at this;exact (sI this).symm
  subst eu;refine wpAny_letOwnedTupleGo_enum ho λG A n=>?_;have kk:∀b o,b ∉ [e,it]->s.heap.get? b=Za o->G.get? b=Za o:=λb o f q=>by
   have h1:b≠e:=λz=>f (by simp [z]);have h2:b≠it:=λz=>f (by simp [z]);exact (n.2 b h1).trans (hk b o h1 h2 q)
  have C:s.heap.objs.size≠e:=λz=>absurd (Ao m) (by rw[z];exact Bv _);have j:G.IsTupleIter it a (i+1):=S.1.at λo y=>(n.2 it B.symm).trans y;refine⟨.ref s.heap.objs.size,upd H s.heap.objs.size (.tup [.int i,x]),I.turnLay kk (λb f=>?_) L (Af _) ⟨by show 2<=sizeLine;decide,[.int i tk,y],.cons ⟨_,rfl⟩ (.cons ru .nil),?_⟩,rfl,⟨_,x,rfl,I.hok.fresh (Af _),rfl,λys Q=>by rw[I.tuple_inj Q J];exact W⟩,⟨⟨_,by simpa using A⟩,j⟩,λb f=>?_⟩
  ·rcases Am.mp f with rfl|f
   ·exact⟨_,A⟩
   ·have:b=it:=by simpa using f
    subst this;obtain⟨o,z,_⟩:=j;exact⟨o,z⟩
  ·exact⟨_,(n.2 _ C).trans U,⟨rfl,_,rfl⟩,rfl⟩
  ·have:b≠s.heap.objs.size:=by
    rcases Am.mp f with rfl|f
    ·exact C.symm
    ·have e2:b=it:=by simpa using f
     subst e2;obtain⟨o,z,_⟩:=t;exact Bb (Ao z)
   rw[upd_ne this];exact (L b f).1
 done:=by
  intro X hP hw hK V i pins s σ H E I L r Y;subst hP hw hK;nofun;obtain⟨xs,J,W⟩:=Y;obtain⟨l,Z,p,hz⟩:=I.tuple J;obtain⟨⟨g,m⟩,t⟩:=r;obtain⟨f0,f1,f2,f3,f4,f5⟩:=L it (by simp);ac_rfl;have hl:=Z.length;have N:s.heap.IsTuple a l.toArray:=p;have D:s.TypeIs (.ref e) "enumerate" := ⟨_,m,rfl⟩;unfold pyNext;refine Aa (Hj (Cy (name:=Str.ofString "__next__") D F.slot_enumerate_next (Em F.slot_enumerate_next D F.entry_enumerate_next ?_ (F.args_enumerate_next_1 _))));show wpAny _ _ (field (.ref e) 2>>=_) _ _ _;refine Aa (Cq m rfl (x:=.ref it) rfl ?_);refine Aa (ziy (show _=Zb from I.ok.hd V) (.inr ⟨t,N⟩) (Ek (by simp;symm)) λh' x eb O=>?_);obtain⟨o,ho,M⟩:=O;refine Aa (wpAny_isInstance (T := "StopIteration") (b:=Zd) ⟨o,ho,M⟩ isSubtype_stop ?_);exact Ak ⟨rfl,I.turned (t':=s.toks) (λb o f e=>eb b o f e) f0 f1 f3 f4 f5⟩
 self:=λ_ _ _ _ _ r h=>let ⟨_,m⟩:=r.1;Hi m h
section
variable {X:Cx}
abbrev z2o (K:Zg) (t:TA):TI:=λσ H R=>t σ H λv b=>∃a x,v=[.ref a]/\(SqL K b a x/\R (Ite K a) b\/SqT K b a x/\R (IteT K a) b)
theorem z1u {es:List Zi}{J}{L:Pos}{l:Zi}{u:TA}{p pos:Pos} (D:Gl X "enumerate") (E:X.mg "enumerate" = Zb) (y:PA X [l] u) (z:starEach [l] X.env=[(Zc,eval l X.env)]:=by rfl) :
  PI X (.Tuple es J L) (.Call (.Name "enumerate" p) [l] [] pos) (z2o X.K u):=by
 intro pins s σ H R I h;refine Call_ (zdb I D E boot_enumerate (Cu (thn (y pos pins s σ H _ I h) λO c ⟨N,j,f,K,C⟩=>?_) z rfl));obtain⟨a,P,e,q⟩:=C;subst e;cases K with
 | cons r B =>
  cases B;cases r;have fp:∀b∈[c.heap.objs.size+1,c.heap.objs.size],FpOk X pins j b:=λb k=>by
   have e:c.heap.objs.size<=b:=by
    rcases Am.mp k with rfl|k
    ·exact Nat.le_succ _
    ·have x:b=c.heap.objs.size:=by simpa using k
     rw[x];exact Af _
   exact f.fpOk e (f.hok.fresh e)
  rcases q with⟨n,q⟩|⟨n,q⟩
  ·obtain ⟨i,F,m, G⟩:=f.list n
   refine call_enumerate_list m.isList λM g d A t=>Hi g ?_;exact⟨c.heap.objs.size+1,[c.heap.objs.size+1,c.heap.objs.size],_,_,j,rfl,f.kept (t':=c.toks) t,zvy a _ _ (Nat.succ_ne_self _),⟨⟨_,by simpa using g⟩,d⟩,fp,q⟩
  ·obtain ⟨i,F,m, G⟩:=f.tuple n
   have v:c.heap.IsTuple a i.toArray:=m;have w:a<c.heap.objs.size:=let ⟨o,e,_⟩:=v;Ao e;refine zr0 v λM g d t=>Hi g ?_;exact⟨c.heap.objs.size+1,[c.heap.objs.size+1,c.heap.objs.size],_,_,j,rfl,f.kept (t':=c.toks) t,zs1 a _ _ (Nat.succ_ne_self _) (Nat.ne_of_gt (Eb w)) (Bb w),⟨⟨_,by simpa using g⟩,d⟩,fp,q⟩
end
section
variable {K:Zg}{F H:Hp}{σ:St}
theorem zzh {a:Zh}{vs:List V}{ws:List W}(h:SqT K F a vs)(r:Reps K F ws vs):ItOk K F (IteT K a) (zhh ws 0) where
 go:=λi H s b=>by rw[zcj] at b;exact⟨vs,vs[i]'(by rw[<-r.length];exact b),zcd s h,by rw[Ad]⟩
 stop:=λH s=>⟨vs,zcd s h,by rw[zcj,r.length];exact Af _⟩
 yld:=λi H x f s b y=>by
  nofun;obtain⟨p,v,e,d,c,y⟩:=y;ac_rfl;subst e c;obtain⟨w,e,q⟩:=r.getV (y vs (zcd s h));refine⟨_,zem e,?_⟩;rw[Cn];exact .tup d (.cons (.int _) (.cons q .nil))
abbrev zr8 (g:GE):GL:=λen=>(g en).bind λp=>(seqW p.2.1).bind λw=>Za (p.1,zhh w 0)
theorem zu5 {g:GE}{R:It->Hp->Prop}(h:tI K (zr8 g) σ H R):z2o K (za4 (tE K g) tNil) σ H R:=by
 nofun;obtain⟨F,pr,en,p,w,Re,h,q⟩:=h;obtain⟨⟨n,m⟩,l,h⟩:=bS h;obtain⟨u,j,h⟩:=bS h;ac_rfl;cases h;refine⟨F,pr,en,n,m,Re,l,λt c v s o z=>?_⟩;nofun;obtain⟨f,i,R2,y⟩:=z.freeze o;obtain⟨a,k,d,e,b,r⟩:=zd6 y j;ac_rfl;subst e;cases k with
 |true=>exact⟨a,d,rfl,.inl ⟨R2.sub.seq b,q f c _ (s.trans i) R2 (z3z b r)⟩⟩
 |false=>exact⟨a,d,rfl,.inr ⟨zcd R2.sub b,q f c _ (s.trans i) R2 (zzh b r)⟩⟩
end
end L2
namespace L2
open PySem PySem.Spec PyProof.Rows
section
variable {X:Cx}{pins:List (Zh × Obj)}{σ:St}{H:Hp}{s:Zf}
end
section
variable {K:Zg}{F H:Hp}
end
noncomputable abbrev Fn:=List W->Option (List W×(W×Bool))
abbrev zau (m:List Bool) (ws:List W):En:=List.zipWith (λw b=>Za (w,b)) ws m
abbrev spF (K:Zg) (m:List Bool) (Φ:Fn):Sp:=λb H Q _=>∃F pr d w r,d.length=m.length/\w.length=m.length/\Rel K F pr (zau m d) (b.map Za) H/\Φ d=Za (w,r) /\
 ∀c a v,Same F c->Rel K c pr (zau m w) (b.map Za) a->Res K c a pr (zau m w) (b.map Za) r v->Q v a
theorem zey {m:List Bool}{ws:List W}{k:Nat}{w:W}{b:Bool}:(zau m ws)[k]?=Za (Za (w,b))↔ws[k]?=Za w/\m[k]?=Za b:=by
 unfold zau;rw[List.getElem?_zipWith];cases ws[k]?<;>cases m[k]?<;>simp
theorem zen {m:List Bool}{ws:List W}(h:ws.length=m.length):(zau m ws).length=m.length:=by
 unfold zau;rw[List.length_zipWith,h,Nat.min_self]
theorem zhb {K:Zg}{m:List Bool}{Φ:Fn}{vs:List V}{H:Hp}{Q:VK}{E:XK}(h:spF K m Φ vs H Q E):vs.length=m.length:=by
 obtain⟨F,pr,b,w,r,a,_,R,_⟩:=h;have:=R.len;rw[zen a,Ab] at this;exact this.symm
abbrev isR:W ⊕ Nat->Bool
 |.inr _=>Zd
 |.inl _=>Zc
abbrev za7 (xs:List (W ⊕ Nat)):Cap:=xs.map λx=>match x with
 |.inr i=>Za i
 |.inl _=>Zb
abbrev zay (en:En) (xs:List (W ⊕ Nat)):Bool:=xs.all λx=>match x with
 | .inr i=>match en[i]? with
  |some (#v[_,5])=>Zd
  |_=>Zc
 |.inl _=>Zd
abbrev zac (m:List Bool) (Φ:Fn) (as:GAs):GE:=λen=>(as en).bind λp=>if decide (p.2.map isR=m)&&zay p.1 p.2&&zce (za7 p.2) then (zbc p.1 p.2).bind λw=>(Φ w).bind λq=>if q.1.length=m.length then Za (zar (za7 p.2) p.1 (zau m q.1),q.2) else Zb else Zb
theorem ArgRs.get {K:Zg}{F:Hp}{σ:St}:∀{b:List (W ⊕ Nat)}{a:List V}{k:Nat}{x:W ⊕ Nat},ArgRs K F σ b a->b[k]?=Za x->∃v,a[k]?=Za v/\ArgR K F σ x v
 |_,_,_,_,.nil,e=>by simp at e
 |_,_,0,_,.cons h _,e=>by simp at e;subst e;exact⟨_,rfl,h⟩
 | _,_,k+1,x,.cons _ r,e=>by
  obtain⟨v,d,c⟩:=ArgRs.get (k:=k) (x:=x) r (by simpa using e);exact⟨v,by simpa using d,c⟩
theorem ArgRs.length {K:Zg}{F:Hp}{σ:St}:∀{x:List (W ⊕ Nat)}{v:List V},ArgRs K F σ x v->x.length=v.length
 |_,_,.nil=>rfl
 |_,_,.cons _ r=>congrArg (· + 1) (ArgRs.length r)
theorem zla {en:En}:∀{b:List (W ⊕ Nat)}{a:List W},zbc en b=Za a->a.length=b.length
 |[],_,e=>by ext e;rfl
 | x::b,_,e=>by
  obtain⟨w,_,e⟩:=bS e;obtain⟨a,h,e⟩:=bS e;ext e;exact congrArg (· + 1) (zla h)
theorem zmq {en:En}:∀{a:List (W ⊕ Nat)}{b:List W}{k:Nat}{w:W},zbc en a=Za b->b[k]?=Za w->∃x,a[k]?=Za x/\resA en x=Za w
 |[],_,_,_,e,h=>by ext e;simp at h
 | x::a,_,k,w,e,h=>by
  obtain⟨u,c,e⟩:=bS e;obtain⟨i,d,e⟩:=bS e;ext e;cases k with
  |zero=>simp at h;subst h;exact⟨x,rfl,c⟩
  |succ k=>obtain⟨y,f,g⟩:=zmq (k:=k) d (by simpa using h);exact⟨y,by simpa using f,g⟩
theorem zel {xs:List (W ⊕ Nat)}{k i:Nat}:(za7 xs)[k]?=Za (Za i)↔xs[k]?=Za (.inr i):=by
 unfold za7;rw[Ai];cases e:xs[k]? with
 |none=>simp
 |some x=>cases x<;>simp
section
variable {K:Zg}{F H:Hp}{pr:Prt}{en:En}{σ:St}
theorem Rel.back {cap:Cap}{B H':Hp}{L:En}{y:St} (R:Rel K F pr en σ H) (s:Same F B) (J:Rel K B (zby pr cap en σ H) L y H') (slot:∀(i j:Nat) (v:V),zav cap i=Za j->y[j]?=Za (Za v)->σ[i]?=Za (Za v)) :
  Rel K B pr (zar cap en L) σ H'/\∀r v,Res K B H' (zby pr cap en σ H) L y r v->Res K B H' pr (zar cap en L) σ r v:=by
 have un:∀(i:Nat) (w:W),zav cap i=Zb->en[i]?=Za (Za (w,Zd))->∃(a:Zh) (m:HO) (n:W),w=n/\σ[i]?=Za (Za (V.ref a))/\H a=Za m/\H' a=Za m/\B a=Zb/\OwnR K F n m/\∀(j:Nat) (A:W),L[j]?=Za (Za (A,Zd))->y[j]?≠Za (Za (V.ref a)):=λi w c e=>by
  obtain⟨a,m,n,u,h,g,I,D⟩:=R.own i w e;obtain⟨Q,T,S⟩:=J.prt a m (.inr ⟨i,w,e,c,h,g⟩);exact⟨a,m,n,u,h,g,Q,T,D,S⟩
 have d:∀(i j:Nat) (w:W),zav cap i=Za j->L[j]?=Za (Za (w,Zd))->∃(a:Zh) (m:HO) (n:W),w=n/\σ[i]?=Za (Za (V.ref a))/\y[j]?=Za (Za (V.ref a))/\H' a=Za m/\B a=Zb/\OwnR K B n m:=λi j w c e=>by
  obtain⟨a,m,n,u,h,g,I,D⟩:=J.own j w e;exact⟨a,m,n,u,slot i j _ c h,h,g,I,D⟩
 refine⟨⟨by unfold zar;rw[List.length_mapIdx];exact R.len,J.sub,λi w e=>?_,λi w e=>?_,λi k a w A C t P N=>?_,λb o q=>?_,J.tb.go (λb xs z=>.inl z) (λb ps e f=>⟨e,f⟩) (.refl B) λb ps e hh o z=>hh o (.inl z)⟩,λr v z=>?_⟩
 ·rcases backEn_get e with ⟨j,c,e⟩ | ⟨c,e⟩
  ·obtain ⟨v,u,h⟩:=J.val j w e
   exact⟨v,slot i j v c u,h⟩
  ·obtain ⟨v,u,h⟩:=R.val i w e
   exact⟨v,u,h.mono s⟩
 ·rcases backEn_get e with ⟨j,c,e⟩ | ⟨c,e⟩
  ·obtain ⟨a,m,n,u,h,_,g,I,D⟩:=d i j w c e
   exact⟨a,m,n,u,h,g,I,D⟩
  ·obtain ⟨a,m,n,u,h,_,g,I,D,_⟩:=un i w c e
   exact⟨a,m,n,u,h,g,I,D.mono s⟩
 ·rcases backEn_get C with ⟨j,c,C⟩ | ⟨c,C⟩
  ·obtain ⟨M, _,_,_,h,g,_⟩:=d i j w c C
   rw[P] at h;cases h;rcases backEn_get t with⟨l,G,t⟩|⟨G,t⟩
   ·obtain ⟨M, _,_,_,E,O,_⟩:=d k l A G t
    rw[N] at E;cases E;have:=J.inj j l a _ _ C t g O;subst this;have x:=zbi c;rw[zbi G] at x;cases x;rfl
   ·obtain ⟨M, _,_,_,E,_,_,_,_,O⟩:=un k A G t
    rw[N] at E;cases E;exact absurd g (O j w C)
  ·obtain ⟨M, _,_,_,h,_,_,_,_,g⟩:=un i w c C
   rw[P] at h;cases h;rcases backEn_get t with⟨l,G,t⟩|⟨G,t⟩
   ·obtain ⟨M, _,_,_,E,O,_⟩:=d k l A G t
    rw[N] at E;cases E;exact absurd O (g l A t)
   ·exact R.inj i k a _ _ C t P N
 ·obtain ⟨Q,T,S⟩:=J.prt b o (.inl q)
  refine⟨Q,T,λi w e=>?_⟩;rcases backEn_get e with⟨j,c,e⟩|⟨c,e⟩
  ·obtain ⟨a,_,_,_,h,g,_⟩:=d i j w c e
   rw[h];intro z;cases z;exact S j w e g
  ·exact (R.prt b o q).2.2 i w e
 ·obtain ⟨w,fl⟩:=r
  cases fl with
  |false=>exact z
  | true =>
   obtain⟨a,m,n,P,N,Y,q4,q5,Z,X⟩:=z;refine⟨a,m,n,P,N,Y,q4,q5,λi A e=>?_,λb o p=>X b o (.inl p)⟩;rcases backEn_get e with⟨j,c,e⟩|⟨c,e⟩
   ·obtain ⟨M, _,_,_,h,g,_⟩:=d i j A c e
    rw[h];intro z;cases z;exact Z j A e g
   ·obtain ⟨M, U, ws', u,h,g,I,D⟩:=R.own i A e
    rw[h];intro z;cases z;exact X a U (.inr ⟨i,A,e,c,h,g⟩) rfl
theorem zov {m:List Bool}{Φ:Fn}{xs:List (W ⊕ Nat)}{e1 en':En}{F H:Hp}{vs:List V}{r:W×Bool}{Q:VK}{E:XK} (R:Rel K F pr e1 σ H) (P:ArgRs K F σ xs vs)
  (h:(if decide (xs.map isR=m)&&zay e1 xs&&zce (za7 xs) then (zbc e1 xs).bind λt=>(Φ t).bind λq=>if q.1.length=m.length then Za (zar (za7 xs) e1 (zau m q.1),q.2) else Zb else Zb)=Za (en',r))
  (q:∀S N v,Same F S->Rel K S pr en' σ N->Res K S N pr en' σ r v->Q v N):spF K m Φ vs H Q E:=by
 split at h
 ·rename_i z
  rw[Ae,Ae] at z;obtain⟨⟨z1,z2⟩,nd⟩:=z;have hm:xs.map isR=m:=Ar z1;nofun;obtain⟨t,X,h⟩:=bS h;obtain⟨⟨T,r'⟩,h3,h⟩:=bS h;ac_rfl;split at h
  ·rename_i hl
   cases h;have lx:t.length=xs.length:=zla X;have lm:xs.length=m.length:=by rw[<-hm,Ab]
   have lv:=P.length;have A : ∀(k:Nat) (w:W) (b:Bool),(zau m t)[k]?=Za (Za (w,b))->∃x v,xs[k]?=Za x/\isR x=b/\resA e1 x=Za w/\vs[k]?=Za v/\ArgR K F σ x v:=λk w b e=>by
    nofun;obtain⟨s,d⟩:=zey.mp e;obtain⟨x,g,n⟩:=zmq X s;obtain⟨v,C,g6⟩:=P.get g;ac_rfl;rw[<-hm,Ai,g] at d;exact⟨x,v,g,sI d,n,C,g6⟩
   have B:∀(k:Nat) (w:W),(zau m t)[k]?=Za (Za (w,Zd))->∃i v,xs[k]?=Za (.inr i)/\e1[i]?=Za (Za (w,Zd))/\vs[k]?=Za v/\σ[i]?=Za (Za v):=λk w e=>by
    nofun;obtain⟨x,v,s,d,g,n,C⟩:=A k w Zd e;ac_rfl;cases x with
    |inl _=>cases d
    | inr i =>
     refine⟨i,v,s,?_,n,C⟩;have o:=Bd.mp z2 _ (Be s);simp only at o;split at o
     ·rename_i w0 Z
      unfold resA at g;simp only [Z] at g;ext g;exact Z
     ·cases o
   have RC:Rel K F (zby pr (za7 xs) e1 σ H) (zau m t) (vs.map Za) H:=by
    refine⟨by rw[zen #v[],Ab];symm,R.sub,λk w e=>?_,λk w e=>?_,λk l a w M s d g n=>?_,λb o p=>?_,R.tb.go (λb xs z=>zih R z) (λb ps e f=>⟨e,f⟩) (.refl F) λb ps e hh o z=>zh0 R e hh o z⟩
    ·refine aG λL qG => ?_
     obtain⟨x,v,s,d,g,n,C⟩:=A k w Zc e;ac_rfl;cases x with
     |inr _=>cases d
     |inl u=>ext g;exact⟨v,by rw[Ai,n];rfl,C⟩
    ·refine aG λL qG => ?_
     obtain⟨i,v,s,d,g,n⟩:=B k w e;obtain⟨a,Y,wz,J,G,I,U,p5⟩:=R.own i w d;ac_rfl;rw[n] at G;cases G;exact⟨a,Y,wz,J,by rw[Ai,g];rfl,I,U,p5⟩
    ·refine aG λL qG => ?_
     obtain⟨i,v,k1,k2,k3,k4⟩:=B k w s;obtain⟨i',v',l1,l2,l3,l4⟩:=B l M d;ac_rfl;rw[Ai,k3] at g;cases g;rw[Ai,l3] at n;cases n;have:=R.inj i i' a _ _ k2 l2 k4 l4;subst this;have y:=zf7 nd (zel.mpr k1);rw[zf7 nd (zel.mpr l1)] at y;exact (sI y).symm
    ·rcases p with p | ⟨j,w,J,G,I,U⟩
     ·obtain ⟨b1,b2,b3⟩:=R.prt b o p
      refine⟨b1,b2,λk w e=>?_⟩;nofun;obtain⟨i,v,s,d,g,n⟩:=B k w e;ac_rfl;rw[Ai,g];intro y;cases y;exact b3 i w d n
     ·refine aG λL qG => ?_
      obtain⟨a,Y,wz,p1',D,p3',O,p5'⟩:=R.own j w J;ac_rfl;rw[I] at D;cases D;refine⟨U,O,λk M e=>?_⟩;nofun;obtain⟨i,v,s,d,g,n⟩:=B k M e;ac_rfl;rw[Ai,g];intro y;cases y;have:=R.inj i j _ _ _ d J n I;subst this;exact zcx G k (zel.mpr s)
   refine ⟨F,zby pr (za7 xs) e1 σ H,t,T,_,by symm,hl,RC,h3,λF2 H2 v s2 R2 y2=>?_⟩;obtain ⟨Ro,rz⟩:=R.back s2 R2 λi j v c e=>by
    have c':=zel.mp (zbi c);obtain⟨v',s,d⟩:=P.get c';rw[Ai,s] at e;cases e;exact d
   exact q F2 H2 v s2 Ro (rz _ _ y2)
  ·cases h
 ·cases h
theorem zgw {m:List Bool}{Φ:Fn}{as:GAs}{Q:VK}(h:tE K (zac m Φ as) σ H Q):zn1 (spF K m Φ) [] E0 (tAs K as) σ H Q:=by
 nofun;obtain⟨F,pr,en,i,r,R,h,q⟩:=h;obtain⟨⟨e,x⟩,k,h⟩:=bS h;ac_rfl;refine⟨F,pr,en,e,x,R,k,λl a f s d b=>?_⟩;show spF K m Φ (f++[]) a Q E0;rw[Bf];exact zov d b h λg c v j=>q g c v (s.trans j)
end
abbrev outsW:List Bool->List W->En->Option (List W)
 |[],[],_=>Za []
 |true::m,_::a,#v[w,5]::en=>(outsW m a en).bind λr=>Za (w::r)
 |false::m,w::a,_::en=>(outsW m a en).bind λr=>Za (w::r)
 |_,_,_=>Zb
abbrev mpOf (m:List Bool):List Nat:=(List.range m.length).filter λk=>m[k]? == Za Zd
abbrev zaf (m:List Bool) (n:Nat) (g:GS):Fn:=λa=>if a.length=m.length then match g (zau m a++List.replicate (n-m.length) Zb) with
 |some (en,.ret r)=>(outsW m a en).bind λw=>Za (w,r)
 |some (en,.nx)=>(outsW m a en).bind λw=>Za (w,(.non,Zc))
 |_=>Zb else Zb
theorem zi3:∀{m:List Bool}{c:List W}{en:En}{b:List W},outsW m c en=Za b->b.length=m.length/\∀(k:Nat) (w:W),b[k]?=Za w->(m[k]?=Za Zd->en[k]?=Za (Za (w,Zd)))/\(m[k]?=Za Zc->c[k]?=Za w)
 |[],[],_,_,e=>by ext e;exact⟨rfl,λk w h=>by simp at h⟩
 | true::m,_::c,Za (u,Zd)::en,_,e=>by
  obtain⟨r,h,e⟩:=bS (show (outsW m c en).bind _=_ from e);ext e;obtain⟨f,d⟩:=zi3 h;refine⟨congrArg (· + 1) f,λk w a=>?_⟩;cases k with
  |zero=>simp at a;subst a;exact⟨λ_=>rfl,λz=>by simp at z⟩
  | succ k =>
   have:=d k w (by simpa using a);exact⟨λz=>by simpa using this.1 (by simpa using z),λz=>by simpa using this.2 (by simpa using z)⟩
 | false::m,u::c,_::en,_,e=>by
  obtain⟨r,h,e⟩:=bS (show (outsW m c en).bind _=_ from e);ext e;obtain⟨f,d⟩:=zi3 h;refine⟨congrArg (· + 1) f,λk w a=>?_⟩;cases k with
  |zero=>simp at a;subst a;exact⟨λz=>by simp at z,λ_=>rfl⟩
  | succ k =>
   have:=d k w (by simpa using a);exact⟨λz=>by simpa using this.1 (by simpa using z),λz=>by simpa using this.2 (by simpa using z)⟩
 |[],_::_,_,_,e=>by exists e
 |true::_,[],_,_,e=>by exists e
 |false::_,[],_,_,e=>by exists e
 |true::_,_::_,[],_,e=>by exists e
 |false::_,_::_,[],_,e=>by exists e
 |true::_,_::_,Zb::_,_,e=>by exists e
 |true::_,_::_,#v[_,6]::_,_,e=>by exists e
theorem zgq {K:Zg}{m:List Bool}{N:List Str}{g:GS}{vs:List V}{H:Hp}{Q:VK}{E:XK} (h:spF K m (zaf m N.length g) vs H Q E):tS K (mpOf m) g { nx:=λ_ t=>Q .non t,rt:=Q } (start N vs) H:=by
 have hv:=zhb h;refine aG λ_ qG=>?_;obtain ⟨F,pr,G,O,r,h1,h2,R,n,q⟩:=h;refine qG ?_;clear qG;unfold zaf at n;rw [if_pos h1] at n;have la:=zen h1;have f:∀(i:Nat) (x:W×Bool),(zau m G++List.replicate (N.length-m.length) Zb)[i]?=Za (Za x)->(zau m G)[i]?=Za (Za x):=λi x e=>by
  by_cases hi:i<(zau m G).length
  ·rw[Dd hi] at e;exact e
  ·rw [Ew (by symm),List.getElem?_replicate] at e
   split at e<;>cases e
 have st:∀(i:Nat) (v:V),(vs.map Za)[i]?=Za (Za v)->(start N vs)[i]?=Za (Za v):=λi v e=>by
  unfold start;rw[Dd (by have:=(Ah.mp e).1;exact this)];exact e
 have B : ∀(i:Nat) (v:V),i<m.length->(start N vs)[i]?=Za (Za v)->(vs.map Za)[i]?=Za (Za v):=λi v hi e=>by
  unfold start at e;rw[Dd (by rw[Ab];symm)] at e;exact e
 have R0:Rel K F pr (zau m G++List.replicate (N.length-m.length) Zb) (start N vs) H:=by
  refine⟨?_,R.sub,λi w e=>?_,λi w e=>?_,λi j a w w' U T M P=>?_,λb o p=>?_,R.tb⟩
  ·unfold start
   rw[Bh,Bh,Dw,Dw,Ab,la,hv]
  ·obtain ⟨v,s,d⟩:=R.val i w (f i _ e)
   exact⟨v,st i v s,d⟩
  ·refine aG λGg qG => ?_
   obtain⟨a,L,A,s,d,I⟩:=R.own i w (f i _ e);ac_rfl;exact⟨a,L,A,s,st i _ d,I⟩
  ·have X:i<m.length:=by have:=(Ah.mp (f i _ U)).1;symm
   have l2:j<m.length:=by have:=(Ah.mp (f j _ T)).1;symm
   exact R.inj i j a w w' (f i _ U) (f j _ T) (B i _ X M) (B j _ l2 P)
  ·obtain ⟨Y,b2,b3⟩:=R.prt b o p
   refine⟨Y,b2,λi w e z=>?_⟩;have X:i<m.length:=by have:=(Ah.mp (f i _ e)).1;symm
   exact b3 i w (f i _ e) (B i _ X z)
 have back:∀(en:En) (A:List W) (u:Hp) (c:St) (t:Hp),outsW m G en=Za A->Same F u->Rel K u pr en c t->Keep (mpOf m) (start N vs) c ->
   Rel K u pr (zau m A) (vs.map Za) t/\∀r v,Res K u t pr en c r v->Res K u t pr (zau m A) (vs.map Za) r v:=λen A u c t S D C J=>by
  obtain ⟨o1,o2⟩:=zi3 S;have own:∀(k:Nat) (w:W),(zau m A)[k]?=Za (Za (w,Zd))->en[k]?=Za (Za (w,Zd))/\∀v,c[k]?=Za (Za v)↔(vs.map Za)[k]?=Za (Za v):=λk w e=>by
   obtain⟨s,d⟩:=zey.mp e;have lk:k<m.length:=(Ah.mp d).1;have hk:k∈mpOf m:=Ck.mpr ⟨Bo.mpr lk,by rw[d];simp⟩;refine⟨(o2 k w s).1 d,λv=>?_⟩;rw[J k hk];exact⟨B k v lk,st k v⟩
  refine⟨⟨by rw[zen o1,Ab,hv],C.sub,λk w e=>?_,λk w e=>?_,λk l a w w' U T M P=>?_,λb o p=>?_,C.tb⟩,λr v z=>?_⟩
  ·refine aG λGg qG => ?_
   obtain⟨s,d⟩:=zey.mp e;obtain⟨v,I,g4⟩:=R.val k w (zey.mpr ⟨(o2 k w s).2 d,d⟩);ac_rfl;exact⟨v,I,g4.mono D⟩
  ·refine aG λGg qG => ?_
   obtain⟨s,d⟩:=own k w e;obtain⟨a,L,A,p1,p2,p3⟩:=C.own k w s;ac_rfl;exact⟨a,L,A,p1,(d _).mp p2,p3⟩
  ·obtain ⟨s,d⟩:=own k w U
   obtain⟨I,g4⟩:=own l w' T;exact C.inj k l a _ _ s I ((d _).mpr M) ((g4 _).mpr P)
  ·obtain ⟨Y,b2,b3⟩:=C.prt b o p
   refine⟨Y,b2,λk w e z=>?_⟩;obtain⟨s,d⟩:=own k w e;exact b3 k w s ((d _).mpr z)
  ·obtain ⟨w0,fl⟩:=r
   cases fl with
   |false=>exact z
   | true =>
    nofun;obtain⟨a,L,Z,M,P,q3,q4,q5,q6,q7⟩:=z;ac_rfl;refine⟨a,L,Z,M,P,q3,q4,q5,λk w e y=>?_,q7⟩;obtain⟨s,d⟩:=own k w e;exact q6 k w s ((d _).mpr y)
 cases eg:g (zau m G++List.replicate (N.length-m.length) Zb) with
 |none=>simp only [eg] at n;exists n
 | some p =>
  obtain⟨en,fl⟩:=p;refine⟨F,pr,_,en,fl,R0,eg,?_⟩;cases fl with
  |brk=>simp only [eg] at n;exists n
  |cnt=>simp only [eg] at n;exists n
  | nx =>
   simp only [eg] at n;obtain⟨A,S,n⟩:=bS n;cases n;intro u c t D C J;obtain⟨Rb,_⟩:=back en O u c t S D C J;exact q u t .non D Rb .non
  | ret r' =>
   simp only [eg] at n;obtain⟨A,S,n⟩:=bS n;cases n;intro u c t v D C J z;obtain⟨Rb,rb⟩:=back en O u c t S D C J;exact q u t v D Rb (rb _ _ z)
end L2
set_option maxHeartbeats 4000000
namespace L2
open PySem PyProof.Rows
namespace Tim
abbrev gal:Bool->Keyed->Array Keyed->Nat->Nat->Nat->StateT SortSt Sem (Option Nat):=sortPriv% PySem.Builtin.gallop
abbrev mLo:Array Keyed->Array Keyed->StateT SortSt Sem (Array Keyed):=sortPriv% PySem.Builtin.mergeLo
abbrev mHi:Array Keyed->Array Keyed->StateT SortSt Sem (Array Keyed):=sortPriv% PySem.Builtin.mergeHi
theorem aG {P:Prop}(h:∀G:Prop,(P->G)->G):P:=h P id
structure Ord (lt:Keyed->Keyed->Bool) (bf le:Keyed->Keyed->Prop):Prop where
 tr:∀{x y z},le x y->le y z->le x z
 tot:∀x y,le x y\/le y x
 f1:∀{x y},bf x y->(lt y x=Zc↔le x y)
 f2:∀{x y},lt x y=Zd->le x y
 irr:∀x,lt x x=Zc
 ltr:∀{x y z},lt x y=Zd->lt y z=Zd->lt x z=Zd
 nt:∀{x z} (y),lt x z=Zd->lt x y=Zd\/lt y z=Zd
section
variable {lt:Keyed->Keyed->Bool}{bf le:Keyed->Keyed->Prop} (O:Ord lt bf le)
include O
theorem Ord.rf (x:Keyed):le x x:=(O.tot x x).elim id id
theorem Ord.f3 {x y:Keyed}(h:bf x y)(q:lt y x=Zd):¬ le x y:=λz=>by rw[(O.f1 h).mpr z] at q;cases q
end
noncomputable abbrev d0:Keyed:=(Ze.none,Ze.none)
abbrev G (xs:Array Keyed) (i:Nat):Keyed:=(xs[i]?).getD d0
theorem z3e {xs:Array Keyed}{i:Nat}(h:i<xs.size):xs[i]?=Za (G xs i):=by unfold G;rw[getElem?_pos xs i h];rfl
theorem z4v {xs a₀:Array Keyed}(p:xs.Perm a₀){i:Nat}(h:i<xs.size):G xs i∈a₀.toList:=by
 refine (Gw.mp p).mem_iff.mp ?_;unfold G;rw[getElem?_pos xs i h];simp
theorem zgy {xs ys:Array Keyed}{i j:Nat}(h:xs[i]?=ys[j]?):G xs i=G ys j:=by unfold G;rw[h]
abbrev Asks (prog:Program) (w:World) (A:Around) (E:Ze->Zf->Prop) (s:Zf) (κ:SortKind) (a₀:Array Keyed) (lt:Keyed->Keyed->Bool):Prop :=
 ∀(x y:Keyed) (a:SortSt) (Q:Option Bool->SortSt->Prop),x∈a₀.toList->y∈a₀.toList->kindOf a=κ->Q (Za (lt x y)) a->wpS (model prog w) A E s (lt' x y) Q a
section
variable {prog:Program}{w:World}{A:Around}{E:Ze->Zf->Prop}{s:Zf}{κ:SortKind}{a₀:Array Keyed}{lt:Keyed->Keyed->Bool}{st:SortSt}
theorem za2 {arr:Array Keyed}{i:Nat}{Q:Keyed->SortSt->Prop}(a:i<arr.size)(h:Q (G arr i) st):wpS (model prog w) A E s (elem' arr i) Q st:=by
 rw[elem'_eq,z3e a];exact Au h
theorem zh4 {i j:Nat}{Q:Option Bool->SortSt->Prop} (C:Asks prog w A E s κ a₀ lt) (a:kindOf st=κ) (p:(arrOf st).Perm a₀) (b:i<a₀.size) (c:j<a₀.size) (h:Q (Za (lt (G (arrOf st) i) (G (arrOf st) j))) st) :
  wpS (model prog w) A E s (ltAt' i j) Q st:=by
 have e:=p.size_eq;rw[ltAt'_eq];refine Ap (Hk ?_);exact Ap (za2 #v[] (Ap (za2 #v[] (C _ _ _ _ (z4v p #v[]) (z4v p #v[]) a h))))
theorem zru {left:Bool}{key:Keyed}{arr:Array Keyed}{base n hint:Nat}{B:Nat->Bool}{Q:Option Nat->SortSt->Prop} (C:Asks prog w A E s κ a₀ lt) (O:kindOf st=κ) (J:key∈a₀.toList)
  (V:base+n<=arr.size) (P:∀i,i<n->G arr (base+i)∈a₀.toList) (T:∀i,i<n->B i=if left then lt (G arr (base+i)) key else !lt key (G arr (base+i)))
  (mono:∀i j,i<=j->j<n->B j=Zd->B i=Zd) (U:hint<n)
  (h:∀k,k<=n->(∀i,i<k->B i=Zd)->(∀i,k<=i->i<n->B i=Zc)->Q (Za k) st):wpS (model prog w) A E s (gal left key arr base n hint) Q st:=by
 have t : ∀i j,i<=j->j<n->B i=Zc->B j=Zc:=λi j H F N=>by
  cases q:B j with
  |false=>rfl
  |true=>rw[mono i j H F q] at N;cases N
 let D:Nat->StateT SortSt Sem (Option Bool):=λi=>do
  let x <- elem' arr (base+i)
  if left=Zd then lt' x key else do
   let r <- lt' key x
   pure (r.map (!·))
 have K:∀(i:Nat) (R:Option Bool->SortSt->Prop),i<n->R (Za (B i)) st->wpS (model prog w) A E s (D i) R st:=λi R a S=>by
  refine Ap (za2 #v[] ?_);have e:=T i a;cases left with
  | true =>
   rw[if_pos rfl] at e;rw[if_pos rfl];exact C _ _ _ _ (P i a) J O (by rw[<-e];exact S)
  | false =>
   rw[if_neg #v[0,9]] at e;rw[if_neg #v[0,9]];exact Ap (C _ _ _ _ J (P i a) O (Au (by show R (Za (!lt key (G arr (base+i)))) st;rw[<-e];exact S)))
 show wpS (model prog w) A E s (do let o <- D hint;_) Q st;refine Ap (K _ _ U ?_);cases q:B hint with
 | true =>
  refine Ap (Dv (Cf (I:=λx c f=>f=st/\∃l o,c=(Zb,l,o)/\l<o/\x<o/\hint+l<n/\B (hint+l)=Zd)
   (Q:=λc f=>f=st/\∃l o,c=(Zb,l,o)/\l<o/\hint+l<n/\B (hint+l)=Zd/\(n-hint<=o\/hint+o<n/\B (hint+o)=Zc)) ?step ?fin ⟨rfl,0,1,rfl,by symm,by symm,by symm,q⟩) ?post)
  case fin =>
   rintro c f ⟨rfl,l,o,rfl,z,u,y,m⟩;exact⟨rfl,l,o,rfl,z,y,m,.inl #v[]⟩
  case step =>
   rintro x c f _ M ⟨rfl,l,o,rfl,z,u,y,m⟩;dsimp only;by_cases g:o ≥ n-hint
   ·rw [if_pos g]
    exact Au ⟨rfl,l,o,rfl,z,y,m,.inl g⟩
   ·rw [if_neg g]
    refine Ap (K _ _ #v[] ?_);cases q2:B (hint+o) with
    | true =>
     dsimp only;rw[if_neg #v[0,9]];exact Au ⟨rfl,o,2*o+1,rfl,by symm,by symm,by symm,q2⟩
    | false =>
     dsimp only;rw[if_pos #v[0,9]];exact Au ⟨rfl,l,o,rfl,z,y,m,.inr ⟨by symm,q2⟩⟩
  case post =>
   rintro c f ⟨rfl,l,o,rfl,z,y,m,p⟩;dsimp only;refine Ap (Dv (Cf (I:=λx c d=>d=f/\∃b a,c=(Zb,b,a)/\b<=a/\a<=n/\a-b<=n-x/\(∀i,i<b->B i=Zd)/\∀i,a<=i->i<n->B i=Zc)
    (Q:=λc d=>d=f/\∃b a,c=(Zb,b,a)/\b=a/\a<=n/\(∀i,i<b->B i=Zd)/\∀i,a<=i->i<n->B i=Zc) ?s3 ?f3 ⟨rfl,hint+l+1,hint+min o (n-hint),rfl,by symm,by symm,by symm,λi a=>mono i _ #v[] y m,λi H F=>p.elim (λp=>by symm) λp=>t _ i #v[] F p.2⟩) ?p3)
   case f3 =>
    rintro c d ⟨rfl,b,a,rfl,z,u,y,m,p⟩;exact⟨rfl,b,a,rfl,by symm,u,m,p⟩
   case s3 =>
    rintro x c d _ M ⟨rfl,b,a,rfl,z,u,y,m,p⟩;dsimp only;by_cases g:b ≥ a
    ·rw [if_pos g]
     exact Au ⟨rfl,b,a,rfl,by symm,u,m,p⟩
    ·rw [if_neg g]
     refine Ap (K _ _ #v[] ?_);cases q:B (b+(a-b)/2) with
     | true =>
      dsimp only;rw[if_pos rfl];refine Au ⟨rfl,b+(a-b)/2+1,a,rfl,by symm,u,by symm,λi L=>?_,p⟩;exact mono i _ #v[] #v[] q
     | false =>
      dsimp only;rw[if_neg #v[0,9]];refine Au ⟨rfl,b,b+(a-b)/2,rfl,by symm,by symm,by symm,m,λi H F=>?_⟩;exact t _ i H F q
   case p3 =>
    rintro c d ⟨rfl,b,a,rfl,rfl,u,m,p⟩;exact Au (h b u m p)
 | false =>
  refine Ap (Dv (Cf (I:=λx c f=>f=st/\∃l o,c=(Zb,l,o)/\l<o/\x<o/\l<=hint/\B (hint-l)=Zc)
   (Q:=λc f=>f=st/\∃l o,c=(Zb,l,o)/\l<o/\l<=hint/\B (hint-l)=Zc/\(hint+1<=o\/o<=hint/\B (hint-o)=Zd)) ?step ?fin ⟨rfl,0,1,rfl,by symm,by symm,by symm,q⟩) ?post)
  case fin =>
   rintro c f ⟨rfl,l,o,rfl,z,u,y,m⟩;exact⟨rfl,l,o,rfl,z,y,m,.inl #v[]⟩
  case step =>
   rintro x c f _ M ⟨rfl,l,o,rfl,z,u,y,m⟩;dsimp only;by_cases g:o ≥ hint+1
   ·rw [if_pos g]
    exact Au ⟨rfl,l,o,rfl,z,y,m,.inl g⟩
   ·rw [if_neg g]
    refine Ap (K _ _ #v[] ?_);cases q2:B (hint-o) with
    | true =>
     dsimp only;rw[if_pos rfl];exact Au ⟨rfl,l,o,rfl,z,y,m,.inr ⟨by symm,q2⟩⟩
    | false =>
     dsimp only;rw[if_neg #v[0,9]];exact Au ⟨rfl,o,2*o+1,rfl,by symm,by symm,by symm,q2⟩
  case post =>
   rintro c f ⟨rfl,l,o,rfl,z,y,m,p⟩;dsimp only;refine Ap (Dv (Cf (I:=λx c d=>d=f/\∃b a,c=(Zb,b,a)/\b<=a/\a<=n/\a-b<=n-x/\(∀i,i<b->B i=Zd)/\∀i,a<=i->i<n->B i=Zc)
    (Q:=λc d=>d=f/\∃b a,c=(Zb,b,a)/\b=a/\a<=n/\(∀i,i<b->B i=Zd)/\∀i,a<=i->i<n->B i=Zc) ?s4 ?f4 ⟨rfl,hint+1-min o (hint+1),hint-l,rfl,by symm,by symm,by symm,λi a=>p.elim (λp=>by symm) λp=>mono i _ #v[] #v[] p.2,λi H F=>t _ i H F m⟩) ?p4)
   case f4 =>
    rintro c d ⟨rfl,b,a,rfl,z,u,y,m,p⟩;exact⟨rfl,b,a,rfl,by symm,u,m,p⟩
   case s4 =>
    rintro x c d _ M ⟨rfl,b,a,rfl,z,u,y,m,p⟩;dsimp only;by_cases g:b ≥ a
    ·rw [if_pos g]
     exact Au ⟨rfl,b,a,rfl,by symm,u,m,p⟩
    ·rw [if_neg g]
     refine Ap (K _ _ #v[] ?_);cases q:B (b+(a-b)/2) with
     | true =>
      dsimp only;rw[if_pos rfl];refine Au ⟨rfl,b+(a-b)/2+1,a,rfl,by symm,u,by symm,λi L=>?_,p⟩;exact mono i _ #v[] #v[] q
     | false =>
      dsimp only;rw[if_neg #v[0,9]];refine Au ⟨rfl,b,b+(a-b)/2,rfl,by symm,by symm,by symm,m,λi H F=>?_⟩;exact t _ i H F q
   case p4 =>
    rintro c d ⟨rfl,b,a,rfl,rfl,u,m,p⟩;exact Au (h b u m p)
end
end Tim
namespace Tim
abbrev Srt (le:Keyed->Keyed->Prop) (xs:Array Keyed) (lo h:Nat):Prop:=∀i j,lo<=i->i<j->j<h->le (G xs i) (G xs j)
abbrev Cut (bf:Keyed->Keyed->Prop) (xs:Array Keyed) (c:Nat):Prop:=∀i j,i<c->c<=j->j<xs.size->bf (G xs i) (G xs j)
structure Re (xs ys:Array Keyed) (lo hi:Nat):Prop where
 perm:ys.Perm xs
 out:∀i,i<lo\/hi<=i->G ys i=G xs i
 inn:∀i,lo<=i->i<hi->∃j,lo<=j/\j<hi/\G ys i=G xs j
theorem Re.refl (xs:Array Keyed)(lo a:Nat):Re xs xs lo a:=⟨.refl _,λ_ _=>rfl,λi b h=>⟨i,b,h,rfl⟩⟩
theorem Re.trans {xs ys z:Array Keyed}{lo c:Nat}(a:Re xs ys lo c)(b:Re ys z lo c):Re xs z lo c :=
 ⟨b.perm.trans a.perm,λi h=>(b.out i h).trans (a.out i h),λi o l=>by
  obtain⟨j,g,m,e⟩:=b.inn i o l;obtain⟨k,d,n,f⟩:=a.inn j g m;exact⟨k,d,n,e.trans f⟩⟩
theorem Re.mono {xs ys:Array Keyed}{lo d l b:Nat}(a:Re xs ys lo d)(o:l<=lo)(m:d<=b):Re xs ys l b :=
 ⟨a.perm,λi h=>a.out i #v[],λi g f=>by
  by_cases c:lo<=i/\i<d
  ·obtain⟨j,k,n,e⟩:=a.inn i c.1 c.2;exact⟨j,by symm,by symm,e⟩
  ·exact⟨i,g,f,a.out i #v[]⟩⟩
theorem Re.size {xs ys:Array Keyed}{lo h:Nat}(a:Re xs ys lo h):ys.size=xs.size:=a.perm.size_eq
theorem Cut.re {bf:Keyed->Keyed->Prop}{xs ys:Array Keyed}{lo f c:Nat}(h:Cut bf xs c)(a:Re xs ys lo f)(x:f<=xs.size)(y:c<=lo\/f<=c):Cut bf ys c:=λi j p n u=>by
 have e:=a.size;have r:∃d,d<c/\G ys i=G xs d:=by
  by_cases k:lo<=i/\i<f
  ·obtain⟨d, q,t,e⟩:=a.inn i k.1 k.2;exact⟨d,by symm,e⟩
  ·exact⟨i,p,a.out i #v[]⟩
 have w:∃b,c<=b/\b<xs.size/\G ys j=G xs b:=by
  by_cases k:lo<=j/\j<f
  ·obtain⟨b, q,t,e⟩:=a.inn j k.1 k.2;exact⟨b,by symm,by symm,e⟩
  ·exact⟨j,n,by symm,a.out j #v[]⟩
 obtain⟨d,s,g⟩:=r;obtain⟨b,l,o,m⟩:=w;rw[g,m];exact h d b s l o
theorem Srt.re {le:Keyed->Keyed->Prop}{xs ys:Array Keyed}{lo c a b:Nat}(h:Srt le xs a b)(r:Re xs ys lo c)(g:b<=lo\/c<=a):Srt le ys a b:=λi j f d e=>by
 rw[r.out i #v[],r.out j #v[]];exact h i j f d e
abbrev mir (xs:Array Keyed) (i j:Nat):Array Keyed:=mirror xs i j ((j-i)/2)
theorem zhj {xs:Array Keyed}{i j:Nat}(a:j<=xs.size)(k:Nat):G (mir xs i j) k=if i<=k/\k<j then G xs (i+j-1-k) else G xs k:=by
 have e:=getElem?_mirror_all (i:=i) a k;unfold mir;by_cases h:i<=k/\k<j
 ·rw[if_pos h] at e ⊢;exact zgy e
 ·rw[if_neg h] at e ⊢;exact zgy e
theorem Re.mir {xs:Array Keyed}{i j:Nat}(a:j<=xs.size):Re xs (mir xs i j) i j :=
 ⟨mirror_perm _ _ _ _,λk h=>by rw[zhj a,if_neg #v[]],λk c b=>⟨i+j-1-k,by symm,by symm,by rw[zhj a,if_pos ⟨c,b⟩]⟩⟩
theorem z2f {xs:Array Keyed}{src d:Nat}(c:src<xs.size)(b:d<=src)(k:Nat):G (bubble xs src d) k=if k=src-d then G xs src else if src-d<k/\k<=src then G xs (k-1) else G xs k:=by
 have e:=getElem?_bubble c d b k;by_cases a:k=src-d
 ·rw[if_pos a] at e ⊢;exact zgy e
 ·rw[if_neg a] at e ⊢;by_cases h:src-d<k/\k<=src
  ·rw[if_pos h] at e ⊢;exact zgy e
  ·rw[if_neg h] at e ⊢;exact zgy e
theorem Re.bub {xs:Array Keyed}{src d:Nat}(b:src<xs.size)(a:d<=src):Re xs (bubble xs src d) (src-d) (src+1) :=
 ⟨bubble_perm _ _ _,λk h=>by rw[z2f b a,if_neg #v[],if_neg #v[]],λk f e=>by
  rw[z2f b a];by_cases c:k=src-d
  ·exact⟨src,by symm,by symm,by rw[if_pos c]⟩
  ·exact⟨k-1,by symm,by symm,by rw[if_neg c,if_pos ⟨by symm,by symm⟩]⟩⟩
structure SI (κ:SortKind) (a₀:Array Keyed) (pd:Array (Nat×Nat×Nat)) (st:SortSt):Prop where
 kind:kindOf st=κ
 failed:failedOf st=Zb
 perm:(arrOf st).Perm a₀
 pend:pendingOf st=pd
theorem SI.size {κ a₀ p st}(h:SI κ a₀ p st):(arrOf st).size=a₀.size:=h.perm.size_eq
theorem SI.set {κ a₀ a st}(h:SI κ a₀ a st){ys:Array Keyed}(p:ys.Perm (arrOf st)):SI κ a₀ a (setArr st ys):=⟨h.kind,h.failed,p.trans h.perm,h.pend⟩
section
variable {prog:Program}{w:World}{A:Around}{E:Ze->Zf->Prop}{s:Zf}{κ:SortKind}{a₀:Array Keyed}{lt:Keyed->Keyed->Bool}{bf le:Keyed->Keyed->Prop}{st:SortSt}{pd:Array (Nat × Nat × Nat)}
theorem zzx {i j:Nat}{Q:Unit->SortSt->Prop}(h:Q () (setArr st (mir (arrOf st) i j))):wpS (model prog w) A E s (reverseSlice' i j) Q st:=by
 rw[reverseSlice'_eq];exact wpS_modify h
theorem z9p {i j:Nat}{Q:Unit->SortSt->Prop}(h:Q () (setArr st (bubble (arrOf st) i (i-j)))):wpS (model prog w) A E s (moveDown' i j) Q st:=by
 rw[moveDown'_eq];exact wpS_modify h
theorem grp (O:Ord lt bf le) {xs ys:Array Keyed}{lo n c:Nat} (s:lo<=c) (r:c<lo+n) (e:∀k,G ys k=if c<=k/\k<lo+n then G xs (c+(lo+n)-1-k) else G xs k)
  (l:∀i j,lo<=i->i<j->j<c->le (G xs j) (G xs i)) (g:∀i j,lo<=i->i<c->c<=j->j<lo+n->lt (G xs j) (G xs i)=Zd)
  (m:∀i j,c<=i->i<j->j<lo+n->le (G xs i) (G xs j)) (o:∀i j,c<=i->i<lo+n->c<=j->j<lo+n->lt (G xs i) (G xs j)=Zc) :
  (∀i j,lo<=i->i<j->j<lo+n->le (G ys j) (G ys i))/\∀y,lt y (G xs (lo+n-1))=Zd->∀i,lo<=i->i<lo+n->lt y (G ys i)=Zd:=by
 constructor
 ·intro i j d f p;rw[e i,e j];by_cases a:j<c
  ·rw[if_neg #v[],if_neg #v[]];exact l i j d f a
  ·rw[if_pos ⟨by symm,p⟩];by_cases b:i<c
   ·rw[if_neg #v[]];exact O.f2 (g i _ d b #v[] #v[])
   ·rw[if_pos ⟨by symm,by symm⟩];exact m _ _ #v[] #v[] #v[]
 ·intro y h i d f;rw[e i];by_cases b:c<=i/\i<lo+n
  ·rw[if_pos b];exact (O.nt _ h).resolve_right (λq=>by rw[o _ _ #v[] #v[] #v[] #v[]] at q;cases q)
  ·rw[if_neg b];exact O.ltr h (g i _ d #v[] #v[] #v[])
structure DI (lt:Keyed->Keyed->Bool) (le:Keyed->Keyed->Prop) (lo n neq:Nat) (xs:Array Keyed):Prop where
 nq:neq+1<=n
 d1:∀i j,lo<=i->i<j->j<lo+n-(neq+1)->le (G xs j) (G xs i)
 d2:∀i j,lo<=i->i<lo+n-(neq+1)->lo+n-(neq+1)<=j->j<lo+n->lt (G xs j) (G xs i)=Zd
 d3:∀i j,lo+n-(neq+1)<=i->i<j->j<lo+n->le (G xs i) (G xs j)
 d4:∀i j,lo+n-(neq+1)<=i->i<lo+n->lo+n-(neq+1)<=j->j<lo+n->lt (G xs i) (G xs j)=Zc
theorem DI.turn (O:Ord lt bf le) {lo n neq:Nat}{xs:Array Keyed} (d:DI lt le lo n neq xs) (h:lo+n<=xs.size) :
  (∀i j,lo<=i->i<j->j<lo+n->le (G (mir xs (lo+n-(neq+1)) (lo+n)) j) (G (mir xs (lo+n-(neq+1)) (lo+n)) i))/\∀y,lt y (G xs (lo+n-1))=Zd->∀i,lo<=i->i<lo+n->lt y (G (mir xs (lo+n-(neq+1)) (lo+n)) i)=Zd :=
 grp O (by have:=d.nq;symm) (by have:=d.nq;symm) (λk=>zhj h k) d.d1 d.d2 d.d3 d.d4
theorem DI.turn0 (O:Ord lt bf le) {lo n:Nat}{xs:Array Keyed} (d:DI lt le lo n 0 xs) :
  (∀i j,lo<=i->i<j->j<lo+n->le (G xs j) (G xs i))/\∀y,lt y (G xs (lo+n-1))=Zd->∀i,lo<=i->i<lo+n->lt y (G xs i)=Zd :=
 grp (c:=lo+n-1) O (by have:=d.nq;symm) (by have:=d.nq;symm) (λk=>by
  split
  ·congr 1;symm
  ·rfl) d.d1 d.d2 d.d3 d.d4
theorem DI.next (O:Ord lt bf le){lo n:Nat}{xs:Array Keyed}(h:∀i j,lo<=i->i<j->j<lo+n->le (G xs j) (G xs i))(f:∀i,lo<=i->i<lo+n->lt (G xs (lo+n)) (G xs i)=Zd):DI lt le lo (n+1) 0 xs :=
 ⟨by symm,λi j a b c=>h i j a b #v[],λi j a b c d=>by
  have e:j=lo+n:=by symm
  rw[e];exact f i a #v[],λi j a b c=>by symm,λi j a b c d=>by
  have e:j=i:=by symm
  rw[e];exact O.irr _⟩
theorem DI.like (O:Ord lt bf le) {lo n neq:Nat}{xs:Array Keyed} (d:DI lt le lo n neq xs) (o:∀i,lo<=i->i<lo+n->bf (G xs i) (G xs (lo+n))) (p:lt (G xs (lo+n)) (G xs (lo+n-1))=Zc) (l:lt (G xs (lo+n-1)) (G xs (lo+n))=Zc):DI lt le lo (n+1) (neq+1) xs:=by
 have s:=d.nq;have m:lo+(n+1)-(neq+1+1)=lo+n-(neq+1):=by symm
 have t:∀i,lo+n-(neq+1)<=i->i<lo+n->lt (G xs (lo+n)) (G xs i)=Zc:=λi a b=>by
  cases q:lt (G xs (lo+n)) (G xs i) with
  |false=>rfl
  | true =>
   rcases O.nt (G xs (lo+n-1)) q with z|z
   ·rw[p] at z;cases z
   ·rw[d.d4 _ _ #v[] #v[] a b] at z;cases z
 have r:∀i,lo+n-(neq+1)<=i->i<lo+n->lt (G xs i) (G xs (lo+n))=Zc:=λi a b=>by
  cases q:lt (G xs i) (G xs (lo+n)) with
  |false=>rfl
  | true =>
   rcases O.nt (G xs (lo+n-1)) q with z|z
   ·rw[d.d4 _ _ a b #v[] #v[]] at z;cases z
   ·rw[l] at z;cases z
 refine⟨by symm,?_,?_,?_,?_⟩<;>rw[m]
 ·exact d.d1
 ·intro i j a b c e
  by_cases k:j<lo+n
  ·exact d.d2 i j a b c k
  ·have f:j=lo+n:=by symm
   rw[f];exact (O.nt (G xs (lo+n)) (d.d2 i (lo+n-1) a b #v[] #v[])).resolve_left (λz=>by rw[l] at z;cases z)
 ·intro i j a b c
  by_cases k:j<lo+n
  ·exact d.d3 i j a b k
  ·have f:j=lo+n:=by symm
   rw[f];exact (O.f1 (o i #v[] #v[])).mp (t i a #v[])
 ·intro i j a b c e
  by_cases k:j<lo+n
  ·by_cases h:i<lo+n
   ·exact d.d4 i j a h c k
   ·have g:i=lo+n:=by symm
    rw[g];exact t j c k
  ·have f:j=lo+n:=by symm
   rw[f];by_cases h:i<lo+n
   ·exact r i a h
   ·have g:i=lo+n:=by symm
    rw[g];exact O.irr _
theorem yce {α:Type}{c:Prop} [Decidable c] {x y:StateT SortSt Sem α}{Q:α->SortSt->Prop}{T:SortSt->Prop}(h:∀a,T a->wpS (model prog w) A E s y Q a)(h0:¬ c->T st)(b:c->(∀a,T a->wpS (model prog w) A E s y Q a)->wpS (model prog w) A E s x Q st):wpS (model prog w) A E s (if c then x else y) Q st:=by
 by_cases k:c
 ·rw[if_pos k];exact b k h
 ·rw[if_neg k];exact h st (h0 k)
theorem z3v (C:Asks prog w A E s κ a₀ lt) (O:Ord lt bf le) {lo a:Nat}{Q:Option Nat->SortSt->Prop} (I:SI κ a₀ pd st) (hsz:lo+a<=a₀.size) (u:1<=a) (Z:∀c,lo<=c->Cut bf (arrOf st) c)
  (h:∀m t,SI κ a₀ pd t->1<=m->m<=a->Re (arrOf st) (arrOf t) lo (lo+m)->Srt le (arrOf t) lo (lo+m)->Q (Za m) t):wpS (model prog w) A E s (countRun' lo a) Q st:=by
 have sz:=I.size;rw [countRun'_eq];refine Ap (Dv (Cf (I:=λx c d=>d=st/\c=(Zb,x)/\1<=x/\x<=a/\Srt le (arrOf st) lo (lo+x))
  (Q:=λc d=>d=st/\∃k,c=(Zb,k)/\1<=k/\k<=a/\Srt le (arrOf st) lo (lo+k)/\(k=a\/lt (G (arrOf st) (lo+k)) (G (arrOf st) (lo+k-1))=Zd)) ?as1 ?af1 ⟨rfl,rfl,Af _,u,(λi j K L g3=>by symm)⟩) ?ap1)
 case af1 =>
  rintro c d ⟨r,rfl,U,W,g⟩;rw[show max 1 a=a by symm] at *
  exact⟨r,a,rfl,by symm,Af _,g,.inl rfl⟩
 case as1 =>
  rintro x c d N b2 ⟨r,rfl,U,W,g⟩;subst r;dsimp only;refine Ap (zh4 C I.kind I.perm #v[] #v[] ?_);cases q:lt (G (arrOf d) (lo+x)) (G (arrOf d) (lo+x-1)) with
  | true =>
   dsimp only;rw[if_pos rfl];exact Au ⟨rfl,x,rfl,U,W,g,.inr q⟩
  | false =>
   dsimp only;rw[if_neg #v[0,9]];refine Au ⟨rfl,rfl,by symm,by symm,λi j u Y h3=>?_⟩;by_cases hj:j<lo+x
   ·exact g i j u Y hj
   ·have ej:j=lo+x:=by symm
    subst ej;have b:le (G (arrOf d) (lo+x-1)) (G (arrOf d) (lo+x)):=(O.f1 (Z (lo+x) #v[] (lo+x-1) (lo+x) #v[] (Af _) (by rw[I.size];symm))).mp q;by_cases hi:i=lo+x-1
    ·rw[hi];exact b
    ·exact O.tr (g i (lo+x-1) u #v[] #v[]) b
 case ap1 =>
  rintro c d ⟨r,n,rfl,U,W,g,a3⟩;subst r;dsimp only;by_cases en:n=a
  ·rw [if_pos (by simpa using en)]
   exact Au (h n d I U W (.refl _ _ _) g)
  ·rw [if_neg (by simpa using en)]
   have q3:=a3.resolve_left en;refine yce (T:=λp=>SI κ a₀ pd p/\Re (arrOf d) (arrOf p) lo (lo+(n+1))/\DI lt le lo (n+1) 0 (arrOf p)) (λp ⟨I3,R3,D3⟩=>?main) (λn1=>?no) (λn1 H=>?yes)
   case yes =>
    refine Ap (zh4 C I.kind I.perm #v[] #v[] ?_);cases q:lt (G (arrOf d) lo) (G (arrOf d) (lo+n-1)) with
    | true =>
     dsimp only;rw[if_pos rfl];exact Au (h n d I U W (.refl _ _ _) g)
    | false =>
     dsimp only;rw [if_neg (by decide)];refine Ap (zzx ?_);have lk:∀i,lo<=i->i<lo+n->lt (G (arrOf d) (lo+n)) (G (arrOf d) i)=Zd:=λi K L=>by
      have z1:lt (G (arrOf d) i) (G (arrOf d) (lo+n-1))=Zc:=by
       cases z:lt (G (arrOf d) i) (G (arrOf d) (lo+n-1)) with
       |false=>rfl
       | true =>
        rcases O.nt (G (arrOf d) lo) z with y|y
        ·by_cases ei:i=lo
         ·rw[ei,O.irr] at y;cases y
         ·have:=O.f3 (Z i K lo i (by symm) (Af _) (by symm)) y
          exact absurd (g lo i (Af _) #v[] L) this
        ·rw[q] at y;cases y
      exact (O.nt _ q3).resolve_right (λy=>by rw[z1] at y;cases y)
     obtain ⟨p,e3,I3,R3,D3⟩ : ∃p,p=(setArr d (mir (arrOf d) lo (lo+n)))/\SI κ a₀ pd p/\Re (arrOf d) (arrOf p) lo (lo+(n+1))/\DI lt le lo (n+1) 0 (arrOf p):=⟨_,rfl,I.set (Re.mir (by symm)).perm,(Re.mir (by symm)).mono (Af _) (by symm),DI.next O (λi j K L g3=>by
           show le (G (mir (arrOf d) lo (lo+n)) j) (G (mir (arrOf d) lo (lo+n)) i);rw[zhj #v[],zhj #v[],if_pos ⟨by symm,by symm⟩,if_pos ⟨by symm,by symm⟩];exact g _ _ #v[] #v[] #v[]) (λi K L=>by
           show lt (G (mir (arrOf d) lo (lo+n)) (lo+n)) (G (mir (arrOf d) lo (lo+n)) i)=Zd;rw[zhj #v[],zhj #v[],if_neg #v[],if_pos ⟨by symm,by symm⟩];exact lk _ #v[] #v[])⟩
     rw[<-e3];exact H p ⟨I3,R3,D3⟩
   case no =>
    have en1:n=1:=by symm
    subst en1;exact ⟨I,.refl _ _ _,DI.next O (λi j K L g3=>by symm) (λi K L=>by
     have ei:i=lo:=by symm
     rw[ei];exact q3)⟩
   case main =>
    refine Ap (wpS_lift (Df ⟨rfl,?_⟩));refine Ap (Dv (Cf (I:=λx c f=>∃neq,c=(Zb,x,neq)/\n+1<=x/\x<=a/\SI κ a₀ pd f/\Re (arrOf d) (arrOf f) lo (lo+x)/\DI lt le lo x neq (arrOf f))
     (Q:=λc f=>∃m neq,c=(Zb,m,neq)/\n+1<=m/\m<=a/\SI κ a₀ pd f/\Re (arrOf d) (arrOf f) lo (lo+m)/\DI lt le lo m neq (arrOf f)) ?dsd1 ?dfd1 ⟨0,rfl,Af _,by symm,I3,R3,D3⟩) ?dpd1)
    case dfd1 =>
     rintro c f ⟨neq,rfl,P,N,b2,b3,b4⟩;have e:max (n+1) a=a:=by symm
     rw[e] at P N b3 b4 ⊢;exact⟨a,neq,rfl,P,N,b2,b3,b4⟩
    case dsd1 =>
     rintro x c f K L ⟨neq,rfl,P,N,o,R,D⟩;dsimp only;have z4:=o.size;have V:∀c,lo+x<=c->Cut bf (arrOf f) c:=λc F=>(Z c #v[]).re R #v[] (.inr F);refine Ap (zh4 C o.kind o.perm #v[] #v[] ?_);cases q5:lt (G (arrOf f) (lo+x)) (G (arrOf f) (lo+x-1)) with
     | true =>
      dsimp only;rw[if_pos rfl];by_cases nq:neq > 0
      ·rw [if_pos nq]
       refine Ap (zzx (Au ⟨0,rfl,by symm,by symm,o.set (Re.mir #v[]).perm,(R.trans ((Re.mir #v[]).mono (by have:=D.nq;symm) (Af _))).mono (Af _) #v[],?_⟩));obtain⟨M,t2⟩:=D.turn O #v[];refine DI.next O M λi k1 S=>?_;have:=t2 _ q5 i k1 S;show lt (G (mir (arrOf f) (lo+x-(neq+1)) (lo+x)) (lo+x)) _=Zd;rw[zhj #v[],if_neg #v[]];exact this
      ·rw [if_neg nq]
       have e0:neq=0:=by symm
       subst e0;obtain⟨M,t2⟩:=D.turn0 O;exact Au ⟨0,rfl,by symm,by symm,o,R.mono (Af _) #v[],DI.next O M λi k1 S=>t2 _ q5 i k1 S⟩
     | false =>
      dsimp only;rw[if_neg #v[0,9]];refine Ap (zh4 C o.kind o.perm #v[] #v[] ?_);cases q6:lt (G (arrOf f) (lo+x-1)) (G (arrOf f) (lo+x)) with
      | true =>
       dsimp only;rw[if_pos rfl];exact Au ⟨x,neq,rfl,P,N,o,R,D⟩
      | false =>
       dsimp only;rw[if_neg #v[0,9]];exact Au ⟨neq+1,rfl,by symm,by symm,o,R.mono (Af _) #v[],D.like O (λi k1 S=>V (lo+x) (Af _) i (lo+x) S (Af _) #v[]) q5 q6⟩
    case dpd1 =>
     rintro c f ⟨n,neq,rfl,P,n2,o,R,D⟩;dsimp only;have z4:=o.size;refine yce (T:=λl=>SI κ a₀ pd l/\Re (arrOf d) (arrOf l) lo (lo+n)/\∀i j,lo<=i->i<j->j<lo+n->le (G (arrOf l) j) (G (arrOf l) i)) (λl ⟨I6,R6,M⟩=>?tl) (λnq=>?tn) (λnq H=>?ty)
     case ty =>
      refine Ap (zzx ?_);have I6:SI κ a₀ pd (setArr f (mir (arrOf f) (lo+n-(neq+1)) (lo+n))):=o.set (Re.mir #v[]).perm;have R6:Re (arrOf d) (mir (arrOf f) (lo+n-(neq+1)) (lo+n)) lo (lo+n):=R.trans ((Re.mir #v[]).mono (by have:=D.nq;symm) (Af _));have M:=(D.turn O #v[]).1;exact H _ ⟨I6,R6,M⟩
     case tn =>
      have e0:neq=0:=by symm
      subst e0;exact⟨o,R,(D.turn0 O).1⟩
     case tl =>
      have z6:=I6.size;refine Ap (zzx ?_);have J:SI κ a₀ pd (setArr l (mir (arrOf l) lo (lo+n))):=I6.set (Re.mir (by symm)).perm;have X:Re (arrOf d) (mir (arrOf l) lo (lo+n)) lo (lo+n):=R6.trans (Re.mir (by symm));have z5:Srt le (mir (arrOf l) lo (lo+n)) lo (lo+n):=λi j u Y h3=>by
       rw[zhj #v[],zhj #v[],if_pos ⟨by symm,by symm⟩,if_pos ⟨by symm,by symm⟩];exact M _ _ #v[] #v[] #v[]
      have ea:mir (arrOf l) lo (lo+n)=arrOf (setArr l (mir (arrOf l) lo (lo+n))):=rfl
      revert J X z5
      rw [ea];generalize (setArr l (mir (arrOf l) lo (lo+n)))=B;intro J X z5;have hz5:=J.size;have hc5:∀c,lo+n<=c->Cut bf (arrOf B) c:=λc F=>(Z c (by symm)).re X (by symm) (.inr F);refine Ap (Dv (Cf (I:=λx c d=>d=B/\c=(Zb,x)/\n<=x/\x<=a/\Srt le (arrOf B) lo (lo+x))
       (Q:=λc d=>d=B/\∃k,c=(Zb,k)/\n<=k/\k<=a/\Srt le (arrOf B) lo (lo+k)/\(k=a\/lt (G (arrOf B) (lo+k)) (G (arrOf B) (lo+k-1))=Zd)) ?asd11 ?afd11 ⟨rfl,rfl,Af _,n2,z5⟩) ?apd11)
      case afd11 =>
       rintro c d ⟨r,rfl,y0,y1,g⟩;rw[show max n a=a by symm] at *
       exact⟨r,a,rfl,by symm,Af _,g,.inl rfl⟩
      case asd11 =>
       rintro x c d N b2 ⟨r,rfl,y0,y1,g⟩;subst r;dsimp only;refine Ap (zh4 C J.kind J.perm #v[] #v[] ?_);cases q:lt (G (arrOf d) (lo+x)) (G (arrOf d) (lo+x-1)) with
       | true =>
        dsimp only;rw[if_pos rfl];exact Au ⟨rfl,x,rfl,y0,y1,g,.inr q⟩
       | false =>
        dsimp only;rw[if_neg #v[0,9]];refine Au ⟨rfl,rfl,by symm,by symm,λi j u Y h3=>?_⟩;by_cases hj:j<lo+x
        ·exact g i j u Y hj
        ·have ej:j=lo+x:=by symm
         subst ej;have b:le (G (arrOf d) (lo+x-1)) (G (arrOf d) (lo+x)):=(O.f1 (hc5 (lo+x) #v[] (lo+x-1) (lo+x) #v[] (Af _) (by rw[J.size];symm))).mp q;by_cases hi:i=lo+x-1
         ·rw[hi];exact b
         ·exact O.tr (g i (lo+x-1) u #v[] #v[]) b
      case apd11 =>
       rintro c s7 ⟨e7,m,rfl,y0,y1,y2,y3⟩;subst e7;exact Au (h m s7 J #v[] y1 (X.mono (Af _) #v[]) y2)
end
end Tim
namespace Tim
section
variable {prog:Program}{w:World}{A:Around}{E:Ze->Zf->Prop}{s:Zf}{κ:SortKind}{a₀:Array Keyed}{lt:Keyed->Keyed->Bool}{bf le:Keyed->Keyed->Prop}{st:SortSt}{pd:Array (Nat × Nat × Nat)}
theorem ycn (C:Asks prog w A E s κ a₀ lt) (O:Ord lt bf le) {lo n ok:Nat}{Q:Bool->SortSt->Prop} (I:SI κ a₀ pd st) (U:lo+n<=a₀.size) (B:ok<=n) (H:1<=ok) (P:Srt le (arrOf st) lo (lo+ok)) (D:∀c,lo+ok<=c->Cut bf (arrOf st) c)
  (h:∀f,SI κ a₀ pd f->Re (arrOf st) (arrOf f) lo (lo+n)->Srt le (arrOf f) lo (lo+n)->Q Zd f):wpS (model prog w) A E s (binarySort' lo n ok) Q st:=by
 have sz:=I.size;rw[binarySort'_eq];have Y:max ok 1=ok:=by symm
 rw [Y];refine Ap (Dv (Cf (I:=λk c a=>c=(Zb,())/\ok<=k/\k<=n/\SI κ a₀ pd a/\Re (arrOf st) (arrOf a) lo (lo+k)/\Srt le (arrOf a) lo (lo+k))
  (Q:=λc a=>c=(Zb,())/\SI κ a₀ pd a/\Re (arrOf st) (arrOf a) lo (lo+n)/\Srt le (arrOf a) lo (lo+n)) ?step ?fin ⟨rfl,Af _,B,I,.refl _ _ _,P⟩) ?post)
 case post =>
  rintro c a ⟨rfl,m,R2,S⟩;exact Au (h a m R2 S)
 case fin =>
  rintro c a ⟨D,M,T,m,R2,S⟩;have e:max ok n=n:=by symm
  rw[e] at R2 S;exact⟨D,m,R2,S⟩
 case step =>
  rintro k c a g1 g2 ⟨rfl,M,T,m,R2,S⟩;have z2:=m.size;have W:Cut bf (arrOf a) (lo+k):=(D (lo+k) (by symm)).re R2 (by symm) (.inr (Af _));refine Ap (Dv (Cf (I:=λx c d=>d=a/\∃l r,c=(Zb,l,r)/\l<=r/\r<=k/\r-l<=k-x/\(∀i,i<l->le (G (arrOf a) (lo+i)) (G (arrOf a) (lo+k)))/\∀i,r<=i->i<k->le (G (arrOf a) (lo+k)) (G (arrOf a) (lo+i)))
   (Q:=λc d=>d=a/\∃l,c=(Zb,l,l)/\l<=k/\(∀i,i<l->le (G (arrOf a) (lo+i)) (G (arrOf a) (lo+k)))/\∀i,l<=i->i<k->le (G (arrOf a) (lo+k)) (G (arrOf a) (lo+i))) ?istep ?ifin ⟨rfl,0,k,rfl,by symm,by symm,by symm,λi hi=>by symm,λi y z=>by symm⟩) ?ipost)
  case ifin =>
   rintro c d ⟨t,l,r,rfl,Z,u,V,p,o⟩;have e:r=l:=by symm
   subst e;exact⟨t,r,rfl,u,p,o⟩
  case istep =>
   rintro x c d _ hx ⟨t,l,r,rfl,Z,u,V,p,o⟩;subst t;dsimp only;by_cases g:l ≥ r
   ·rw [if_pos g]
    have e:r=l:=by symm
    subst e;exact Au ⟨rfl,r,rfl,u,p,o⟩
   ·rw [if_neg g]
    refine Ap (zh4 C m.kind m.perm #v[] #v[] ?_);have b:=W (lo+(l+r)/2) (lo+k) #v[] (Af _) #v[];cases q:lt (G (arrOf d) (lo+k)) (G (arrOf d) (lo+(l+r)/2)) with
    | true =>
     dsimp only;rw[if_pos rfl];refine Au ⟨rfl,l,(l+r)/2,rfl,by symm,by symm,by symm,p,λi y z=>?_⟩;by_cases e:i=(l+r)/2
     ·rw[e];exact O.f2 q
     ·exact O.tr (O.f2 q) (S _ _ #v[] #v[] #v[])
    | false =>
     dsimp only;rw[if_neg #v[0,9]];refine Au ⟨rfl,(l+r)/2+1,r,rfl,by symm,by symm,by symm,λi y=>?_,o⟩;by_cases e:i=(l+r)/2
     ·rw[e];exact (O.f1 b).mp q
     ·exact O.tr (S _ _ #v[] #v[] #v[]) ((O.f1 b).mp q)
  case ipost =>
   rintro c d ⟨t,l,rfl,u,p,o⟩;subst t;refine Ap (z9p (Au ⟨rfl,by symm,by symm,m.set (bubble_perm _ _ _),?_,?_⟩))
   ·refine (R2.mono (Af _) #v[]).trans ((Re.bub #v[] #v[]).mono #v[] #v[])
   ·intro i j H h2 h3
    show le (G (bubble (arrOf d) (lo+k) (lo+k-(lo+l))) i) (G (bubble (arrOf d) (lo+k) (lo+k-(lo+l))) j);have X:lo+k-(lo+k-(lo+l))=lo+l:=by symm
    rw [z2f (by symm) (by symm),z2f (by symm) (by symm),X];have p4:∀i,lo<=i->i<lo+l->le (G (arrOf d) i) (G (arrOf d) (lo+k)):=λi y z=>by
     have:=p (i-lo) #v[];rw[show lo+(i-lo)=i by symm] at this;exact this
    have N:∀i,lo+l<=i->i<lo+k->le (G (arrOf d) (lo+k)) (G (arrOf d) i):=λi y z=>by
     have:=o (i-lo) #v[] #v[];rw[show lo+(i-lo)=i by symm] at this;exact this
    by_cases K:i=lo+l
    ·rw [if_pos K,if_neg (by symm),if_pos ⟨by symm,by symm⟩]
     exact N _ #v[] #v[]
    ·rw [if_neg K]
     by_cases L:j=lo+l
     ·rw [if_neg (by symm),if_pos L]
      exact p4 _ H #v[]
     ·rw [if_neg L]
      by_cases J:lo+l<i/\i<=lo+k
      ·rw [if_pos J,if_pos ⟨by symm,by symm⟩]
       exact S _ _ #v[] #v[] #v[]
      ·rw [if_neg J]
       by_cases F:lo+l<j/\j<=lo+k
       ·rw [if_pos F]
        by_cases R:i=j-1
        ·rw[R];exact O.rf _
        ·exact S _ _ #v[] #v[] #v[]
       ·rw [if_neg F]
        exact S _ _ #v[] #v[] #v[]
end
end Tim
namespace Tim
theorem G_list {a:Array Keyed}{i:Nat}(h:i<a.size):a.toList[i]?=Za (G a i):=by rw[Array.getElem?_toList];exact z3e h
theorem take_G {a:Array Keyed}{i:Nat}(h:i<a.size):a.toList.take (i+1)=a.toList.take i++[G a i]:=by rw[List.take_add_one,G_list h];rfl
theorem zuz {a:Array Keyed}{i:Nat}(h:i<a.size):a.toList.drop i=G a i::a.toList.drop (i+1):=by
 have b:i<a.toList.length:=by simpa using h
 rw[Ce b];have e:=G_list h;rw[Ad b] at e;rw[sI e]
theorem mem_drop {a:Array Keyed}{n:Nat}{x:Keyed}(h:x∈a.toList.drop n):∃i,n<=i/\i<a.size/\x=G a i:=by
 obtain⟨i,d,e⟩:=Ec.mp h;have c:n+i<a.toList.length:=by rw[Gb] at d;symm
 have b:n+i<a.size:=by simpa using c
 refine⟨n+i,by symm,b,?_⟩;rw[List.getElem_drop] at e;have g:=G_list b;rw[Ad c] at g;rw[<-e];exact sI g
theorem mem_take {a:Array Keyed}{n:Nat}{x:Keyed}(h:x∈a.toList.take n):∃i,i<n/\i<a.size/\x=G a i:=by
 obtain⟨i,d,e⟩:=Ec.mp h;rw[Dr] at d;have c:i<a.toList.length:=by symm
 have b:i<a.size:=by simpa using c
 refine⟨i,by symm,b,?_⟩;rw[List.getElem_take] at e;have g:=G_list b;rw[Ad c] at g;rw[<-e];exact sI g
theorem srt_list {le:Keyed->Keyed->Prop}{a:Array Keyed}(h:Srt le a 0 a.size):a.toList.Pairwise le:=by
 rw[List.pairwise_iff_getElem];intro i j k g c;have d:i<a.size:=by simpa using k
 have b:j<a.size:=by simpa using g
 have e:=G_list d;have f:=G_list b;rw[Ad k] at e;rw[Ad g] at f;rw[sI e,sI f];exact h i j (Cc _) c b
theorem zc5 (a:Array Keyed)(i j:Nat):(a.extract i j).toList=(a.toList.drop i).take (j-i):=by rw[Array.toList_extract]
theorem zj4 (a:Array Keyed)(i:Nat):(a.extract i a.size).toList=a.toList.drop i:=by
 rw[zc5,Cz];rw[Gb];simp
structure Fin (le:Keyed->Keyed->Prop) (a b:Array Keyed) (r:List Keyed):Prop where
 p:r.Perm (a.toList++b.toList)
 s:r.Pairwise le
structure MI (le:Keyed->Keyed->Prop) (a b:Array Keyed) (o:List Keyed) (ia ib:Nat):Prop where
 p:o.Perm (a.toList.take ia++b.toList.take ib)
 s:o.Pairwise le
 oa:∀x∈o,∀i,ia<=i->i<a.size->le x (G a i)
 ob:∀x∈o,∀j,ib<=j->j<b.size->le x (G b j)
structure MH (le:Keyed->Keyed->Prop) (a b:Array Keyed) (o:List Keyed) (na nb:Nat):Prop where
 p:o.Perm (a.toList.drop na++b.toList.drop nb)
 s:o.Pairwise le
 oa:∀x∈o,∀i,i<na->le (G a i) x
 ob:∀x∈o,∀j,j<nb->le (G b j) x
section
variable {lt:Keyed->Keyed->Bool}{bf le:Keyed->Keyed->Prop} (O:Ord lt bf le) {a b:Array Keyed}{o:List Keyed}{ia ib na nb:Nat} (Sa:Srt le a 0 a.size) (Sb:Srt le b 0 b.size)
theorem z14 {x:Keyed}{o p q:List Keyed}(h:o.Perm (p++q)):(o++[x]).Perm ((p++[x])++q):=by
 refine (h.append_right [x]).trans ?_;rw[Bc,Bc];exact List.perm_append_comm.append_left p
theorem MI.pushA (Sa:Srt le a 0 a.size)(m:MI le a b o ia ib)(e:ia<a.size)(g:∀j,ib<=j->j<b.size->le (G a ia) (G b j)):MI le a b (o++[G a ia]) (ia+1) ib:=by
 refine⟨by rw[take_G e];exact z14 m.p,?_,λx c i d h=>?_,λx c j d h=>?_⟩
 ·rw[Cd];refine⟨m.s,List.pairwise_singleton _ _,λx c y f=>?_⟩;rw[Ax.mp f];exact m.oa x c ia (Af _) e
 ·rcases Bz.mp c with z|z
  ·exact m.oa x z i #v[] h
  ·rw[Ax.mp z];exact Sa _ _ (Cc _) #v[] h
 ·rcases Bz.mp c with z|z
  ·exact m.ob x z j d h
  ·rw[Ax.mp z];exact g j d h
theorem MI.pushB (Sb:Srt le b 0 b.size)(m:MI le a b o ia ib)(e:ib<b.size)(g:∀i,ia<=i->i<a.size->le (G b ib) (G a i)):MI le a b (o++[G b ib]) ia (ib+1):=by
 refine⟨?_,?_,λx c i d h=>?_,λx c j d h=>?_⟩
 ·rw[take_G e];have:=m.p.append_right [G b ib];rw[Bc] at this;exact this
 ·rw[Cd];refine⟨m.s,List.pairwise_singleton _ _,λx c y f=>?_⟩;rw[Ax.mp f];exact m.ob x c ib (Af _) e
 ·rcases Bz.mp c with z|z
  ·exact m.oa x z i d h
  ·rw[Ax.mp z];exact g i d h
 ·rcases Bz.mp c with z|z
  ·exact m.ob x z j #v[] h
  ·rw[Ax.mp z];exact Sb _ _ (Cc _) #v[] h
theorem zp7 {a:Array Keyed}{i k:Nat}(h:i+k<a.size):(a.toList.drop i).take (k+1)=(a.toList.drop i).take k++[G a (i+k)]:=by
 rw[List.take_add_one,List.getElem?_drop,G_list h];rfl
theorem MI.appA (Sa:Srt le a 0 a.size) (m:MI le a b o ia ib):∀k,ia+k<=a.size->(∀i,ia<=i->i<ia+k->∀j,ib<=j->j<b.size->le (G a i) (G b j))->MI le a b (o++(a.toList.drop ia).take k) (ia+k) ib
 |0,_,_=>by rw[Dj,Bf];exact m
 | k+1,d,h=>by
  have:=(m.appA Sa k #v[] λi g c=>h i g #v[]).pushA Sa #v[] (h (ia+k) #v[] #v[]);rw[zp7 #v[],<-Bc];exact this
theorem MI.appB (Sb:Srt le b 0 b.size) (m:MI le a b o ia ib):∀k,ib+k<=b.size->(∀j,ib<=j->j<ib+k->∀i,ia<=i->i<a.size->le (G b j) (G a i))->MI le a b (o++(b.toList.drop ib).take k) ia (ib+k)
 |0,_,_=>by rw[Dj,Bf];exact m
 | k+1,d,h=>by
  have:=(m.appB Sb k #v[] λi g c=>h i g #v[]).pushB Sb #v[] (h (ib+k) #v[] #v[]);rw[zp7 #v[],<-Bc];exact this
theorem zqb (b:Array Keyed):b.toList.take b.size=b.toList:=Cz (by simp)
theorem MI.finB (Sa:Srt le a 0 a.size)(m:MI le a b o ia b.size):Fin le a b (o++a.toList.drop ia):=by
 refine⟨?_,?_⟩
 ·have h:=m.p;rw[zqb] at h;refine (h.append_right _).trans ?_;rw[Bc];refine (List.perm_append_comm.append_left _).trans ?_;rw[<-Bc,Bu]
 ·rw[Cd];refine⟨m.s,(srt_list Sa).sublist (Ha _ _),λx e y c=>?_⟩;obtain⟨i,f,d,rfl⟩:=mem_drop c;exact m.oa x e i f d
theorem MI.finA (Sb:Srt le b 0 b.size)(m:MI le a b o a.size ib):Fin le a b (o++b.toList.drop ib):=by
 refine⟨?_,?_⟩
 ·have h:=m.p;rw[zqb] at h;refine (h.append_right _).trans ?_;rw[Bc,Bu]
 ·rw[Cd];refine⟨m.s,(srt_list Sb).sublist (Ha _ _),λx e y c=>?_⟩;obtain⟨i,f,d,rfl⟩:=mem_drop c;exact m.ob x e i f d
theorem MI.finL (Sa:Srt le a 0 a.size)(Sb:Srt le b 0 b.size)(m:MI le a b o ia ib)(e:ia+1=a.size)(H:∀j,j<b.size->le (G b j) (G a (a.size-1))):Fin le a b (o++b.toList.drop ib++a.toList.drop ia):=by
 refine⟨?_,?_⟩
 ·refine ((m.p.append_right _).append_right _).trans ?_;rw[Bc,Bc,<-Bc (b.toList.take ib),Bu];refine (List.perm_append_comm.append_left _).trans ?_;rw[<-Bc,Bu]
 ·rw[Cd,Cd];refine⟨⟨m.s,(srt_list Sb).sublist (Ha _ _),λx d y h=>?_⟩,(srt_list Sa).sublist (Ha _ _),λx d y h=>?_⟩
  ·obtain⟨i,f,c,rfl⟩:=mem_drop h;exact m.ob x d i f c
  ·obtain⟨i,f,c,rfl⟩:=mem_drop h;rcases Bz.mp d with z|z
   ·exact m.oa x z i f c
   ·obtain⟨j,k,g,rfl⟩:=mem_drop z;have:i=a.size-1:=by symm
    rw[this];exact H j g
theorem MH.pushA (Sa:Srt le a 0 a.size)(m:MH le a b o (na+1) nb)(h:na<a.size)(e:∀j,j<nb->le (G b j) (G a na)):MH le a b (G a na::o) na nb:=by
 refine⟨?_,Cr.mpr ⟨λx c=>m.oa x c na #v[],m.s⟩,λx c i d=>?_,λx c j d=>?_⟩
 ·rw[zuz h];exact m.p.cons _
 ·rcases Am.mp c with z|z
  ·rw[z];exact Sa _ _ (Cc _) d h
  ·exact m.oa x z i #v[]
 ·rcases Am.mp c with z|z
  ·rw[z];exact e j d
  ·exact m.ob x z j d
theorem MH.pushB (Sb:Srt le b 0 b.size)(m:MH le a b o na (nb+1))(h:nb<b.size)(e:∀i,i<na->le (G a i) (G b nb)):MH le a b (G b nb::o) na nb:=by
 refine⟨?_,Cr.mpr ⟨λx c=>m.ob x c nb #v[],m.s⟩,λx c i d=>?_,λx c j d=>?_⟩
 ·rw[zuz h];exact (m.p.cons _).trans List.perm_middle.symm
 ·rcases Am.mp c with z|z
  ·rw[z];exact e i d
  ·exact m.oa x z i d
 ·rcases Am.mp c with z|z
  ·rw[z];exact Sb _ _ (Cc _) d h
  ·exact m.ob x z j #v[]
theorem zqk {a:Array Keyed}{i k:Nat}(h:i<a.size):(a.toList.drop i).take (k+1)=G a i::(a.toList.drop (i+1)).take k:=by
 rw[zuz h,Do]
theorem MH.appA (Sa:Srt le a 0 a.size):∀(k at_:Nat),MH le a b o (at_+k) nb->at_+k<=a.size->(∀i,at_<=i->i<at_+k->∀j,j<nb->le (G b j) (G a i))->MH le a b ((a.toList.drop at_).take k++o) at_ nb
 |0,at_,m,_,_=>by rw[Dj];exact m
 | k+1,at_,m,d,h=>by
  have:=(MH.appA Sa k (at_+1) (by rw[show at_+1+k=at_+(k+1) by symm];exact m) #v[] λi g c=>h i #v[] #v[]).pushA Sa #v[] (h at_ (Af _) #v[]);rw[zqk #v[]];exact this
theorem MH.appB (Sb:Srt le b 0 b.size):∀(k at_:Nat),MH le a b o na (at_+k)->at_+k<=b.size->(∀j,at_<=j->j<at_+k->∀i,i<na->le (G a i) (G b j))->MH le a b ((b.toList.drop at_).take k++o) na at_
 |0,at_,m,_,_=>by rw[Dj];exact m
 | k+1,at_,m,d,h=>by
  have:=(MH.appB Sb k (at_+1) (by rw[show at_+1+k=at_+(k+1) by symm];exact m) #v[] λi g c=>h i #v[] #v[]).pushB Sb #v[] (h at_ (Af _) #v[]);rw[zqk #v[]];exact this
theorem MH.finA (Sb:Srt le b 0 b.size)(m:MH le a b o 0 nb):Fin le a b (b.toList.take nb++o):=by
 refine⟨?_,?_⟩
 ·refine (m.p.append_left _).trans ?_;rw[Eh];refine List.perm_append_comm_assoc _ _ _ |>.trans ?_;rw[Bu]
 ·rw[Cd];refine⟨(srt_list Sb).sublist (Fw _ _),m.s,λx c y h=>?_⟩;obtain⟨i,d,e,rfl⟩:=mem_take c;exact m.ob y h i d
theorem MH.finB (Sa:Srt le a 0 a.size)(m:MH le a b o na 0):Fin le a b (a.toList.take na++o):=by
 refine⟨?_,?_⟩
 ·refine (m.p.append_left _).trans ?_;rw[Eh,<-Bc,Bu]
 ·rw[Cd];refine⟨(srt_list Sa).sublist (Fw _ _),m.s,λx c y h=>?_⟩;obtain⟨i,d,e,rfl⟩:=mem_take c;exact m.oa y h i d
theorem MH.finF (Sa:Srt le a 0 a.size)(Sb:Srt le b 0 b.size)(m:MH le a b o na 1)(H:∀i,i<a.size->le (G b 0) (G a i)):Fin le a b (b.toList.take 1++a.toList.take na++o):=by
 refine⟨?_,?_⟩
 ·refine (m.p.append_left _).trans ?_;rw[Bc,<-Bc (a.toList.take na),Bu];refine List.perm_append_comm_assoc _ _ _ |>.trans ?_;rw[Bu]
 ·rw[Cd,Cd];refine⟨⟨(srt_list Sb).sublist (Fw _ _),(srt_list Sa).sublist (Fw _ _),λx d y h=>?_⟩,m.s,λx d y h=>?_⟩
  ·obtain⟨i,c,e,rfl⟩:=mem_take d;obtain⟨j,f,g,rfl⟩:=mem_take h;have:i=0:=by symm
   rw[this];exact H j g
  ·rcases Bz.mp d with z|z
   ·obtain⟨i,c,e,rfl⟩:=mem_take z;exact m.ob y h i c
   ·obtain⟨i,c,e,rfl⟩:=mem_take z;exact m.oa y h i c
end
end Tim
namespace Tim
abbrev setG:Nat->StateT SortSt Sem Unit:=sortPriv% PySem.Builtin.setMinGallop
section
variable {prog:Program}{w:World}{A:Around}{E:Ze->Zf->Prop}{s:Zf}{κ:SortKind}{a₀:Array Keyed}{lt:Keyed->Keyed->Bool}{bf le:Keyed->Keyed->Prop}{st:SortSt}{pd:Array (Nat × Nat × Nat)}
structure SG (κ:SortKind) (a₀:Array Keyed) (pd:Array (Nat×Nat×Nat)) (xs:Array Keyed) (st:SortSt):Prop where
 i:SI κ a₀ pd st
 e:arrOf st=xs
theorem zqj {xs:Array Keyed}{g:Nat}{Q:Unit->SortSt->Prop}(S:SG κ a₀ pd xs st)(h:∀a,SG κ a₀ pd xs a->Q () a):wpS (model prog w) A E s (setG g) Q st :=
 wpS_modify (h _ ⟨⟨S.i.kind,S.i.failed,S.i.perm,S.i.pend⟩,S.e⟩)
theorem q_lt {x y:Keyed}{Q:Option Bool->SortSt->Prop}(C:Asks prog w A E s κ a₀ lt){xs:Array Keyed}(S:SG κ a₀ pd xs st)(b:x∈a₀.toList)(a:y∈a₀.toList)(h:Q (Za (lt x y)) st):wpS (model prog w) A E s (lt' x y) Q st:=C _ _ _ _ b a S.i.kind h
theorem zm4 {out a b:Array Keyed}{ia ib:Nat}:(out++a.extract ia a.size++b.extract ib b.size).toList=out.toList++a.toList.drop ia++b.toList.drop ib:=by
 rw[Bs,Bs,zj4,zj4]
theorem zqf {le:Keyed->Keyed->Prop}{out a b:Array Keyed}{ia ib:Nat}(e:ib=b.size)(h:Fin le a b (out.toList++a.toList.drop ia)):Fin le a b (out++a.extract ia a.size++b.extract ib b.size).toList:=by
 subst e;rw[zm4,List.drop_of_length_le (l:=b.toList) (by simp),Bf];exact h
theorem z9c {le:Keyed->Keyed->Prop}{out a b:Array Keyed}{ia ib:Nat}(e:ia=a.size)(h:Fin le a b (out.toList++b.toList.drop ib)):Fin le a b (out++a.extract ia a.size++b.extract ib b.size).toList:=by
 subst e;rw[zm4,List.drop_of_length_le (l:=a.toList) (by simp),Bf];exact h
theorem zq8 {le:Keyed->Keyed->Prop}{out a b:Array Keyed}{ia ib:Nat}(h:Fin le a b (out.toList++b.toList.drop ib++a.toList.drop ia)):Fin le a b (out++b.extract ib b.size++a.extract ia a.size).toList:=by
 rw[Bs,Bs,zj4,zj4];exact h
theorem q_if {α:Type}{c:Prop} [Decidable c] {x y:StateT SortSt Sem α}{Q:α->SortSt->Prop}(b:c->wpS (model prog w) A E s x Q st)(a:¬ c->wpS (model prog w) A E s y Q st):wpS (model prog w) A E s (if c then x else y) Q st:=by
 by_cases h:c
 ·rw[if_pos h];exact b h
 ·rw[if_neg h];exact a h
theorem zxl {α:Type}{x:StateT SortSt Sem α}{Q:α->SortSt->Prop}(h:∀a,(∀r t,Q r t->a r t)->wpS (model prog w) A E s x a st):wpS (model prog w) A E s x Q st:=h Q λ_ _ z=>z
theorem q_eq {α β:Type}{c:β->Prop} [∀m,Decidable (c m)] {x:β->StateT SortSt Sem α}{Q:α->SortSt->Prop}{g:β->β}{f:β->StateT SortSt Sem α}(e:∀m,x m=f (g m))(h:∀u,wpS (model prog w) A E s (f u) Q st):∀m,wpS (model prog w) A E s (if c m then x m else f m) Q st:=λm=>by
 rw[e];exact q_if (λ_=>h _) λ_=>h _
theorem z1b {α β γ:Type}{c:Prop} [Decidable c] {x:β->γ->StateT SortSt Sem α}{Q:α->SortSt->Prop}{v:β}{u:γ}{f:β->γ->StateT SortSt Sem α} (P:β->γ->Prop) (h0:¬ c->P v u) (d:c->(∀v u,P v u->wpS (model prog w) A E s (f v u) Q st)->wpS (model prog w) A E s (x v u) Q st)
  (h:∀v u,P v u->wpS (model prog w) A E s (f v u) Q st):∀b,v=b->∀a,u=a->wpS (model prog w) A E s (if c then x b a else f b a) Q st:=by
 rintro _ rfl _ rfl;exact q_if (λk=>d k h) λk=>h _ _ (h0 k)
theorem MI.finA' {le:Keyed->Keyed->Prop}{a b:Array Keyed}{o:List Keyed}{ia ib:Nat}(S:Srt le b 0 b.size)(m:MI le a b o ia ib)(e:ia=a.size):Fin le a b (o++b.toList.drop ib):=by subst e;exact m.finA S
theorem MI.finB' {le:Keyed->Keyed->Prop}{a b:Array Keyed}{o:List Keyed}{ia ib:Nat}(S:Srt le a 0 a.size)(m:MI le a b o ia ib)(e:ib=b.size):Fin le a b (o++a.toList.drop ia):=by subst e;exact m.finB S
structure MP (lt:Keyed->Keyed->Bool) (bf le:Keyed->Keyed->Prop) (a₀ a b:Array Keyed):Prop where
 sa:Srt le a 0 a.size
 sb:Srt le b 0 b.size
 ma:∀i,i<a.size->G a i∈a₀.toList
 mb:∀i,i<b.size->G b i∈a₀.toList
 bf:∀i j,i<a.size->j<b.size->bf (G a i) (G b j)
 a1:1<=a.size
 b1:1<=b.size
 h0:∀i,i<a.size->le (G b 0) (G a i)
 ha:∀j,j<b.size->le (G b j) (G a (a.size-1))
inductive Fi {γ:Type} (F:Array Keyed->Prop):Option (Array Keyed)×γ->Prop
 |mk (r:Array Keyed) (g:γ):F r->Fi F (Za r,g)
structure LX (le:Keyed->Keyed->Prop) (a b:Array Keyed) (x:Nat) (out:Array Keyed) (ia ib:Nat):Prop where
 m:MI le a b out.toList ia ib
 l:ia+1<a.size
 r:ib<b.size
 s:x<=ia+ib
inductive L5 (P:Array Keyed->Nat->Nat->Prop):Option (Array Keyed)×Array Keyed×Nat×Nat×Nat->Prop
 |mk (out:Array Keyed) (ia ib mg:Nat):P out ia ib->L5 P (Zb,out,ia,ib,mg)
inductive L6 (P:Array Keyed->Nat->Nat->Prop):Option (Array Keyed)×Array Keyed×Nat×Nat×Nat×Nat->Prop
 |mk (out:Array Keyed) (ia ib ac bc:Nat):P out ia ib->L6 P (Zb,out,ia,ib,ac,bc)
inductive L7 (P:Array Keyed->Nat->Nat->Prop):Option (Array Keyed)×Array Keyed×Nat×Nat×Nat×Nat×Nat->Prop
 |mk (out:Array Keyed) (ia ib mg ac bc:Nat):P out ia ib->L7 P (Zb,out,ia,ib,mg,ac,bc)
theorem yc4 (C:Asks prog w A E s κ a₀ lt) (O:Ord lt bf le) {a b xs:Array Keyed}{Q:Array Keyed->SortSt->Prop} (S:SG κ a₀ pd xs st) (P:MP lt bf le a₀ a b)
  (h:∀r st',SG κ a₀ pd xs st'->Fin le a b r.toList->Q r st'):wpS (model prog w) A E s (mLo a b) Q st:=by
 have leA:∀i j,i<=j->j<a.size->le (G a i) (G a j):=λi j h1 h2=>by
  by_cases e:i=j
  ·rw[e];exact O.rf _
  ·exact P.sa i j (Cc _) #v[] h2
 have Y:∀i j,i<=j->j<b.size->le (G b i) (G b j):=λi j h1 h2=>by
  by_cases e:i=j
  ·rw[e];exact O.rf _
  ·exact P.sb i j (Cc _) #v[] h2
 have pa:=P.a1;have pb:=P.b1;show wpS (model prog w) A E s (liftM (rule _)>>=_) Q st;refine Ap (wpS_lift (Df ⟨rfl,?_⟩));refine Ap (za2 pb ?_);have m0:MI le a b (#[G b 0]:Array Keyed).toList 0 1:=by
  have:=MI.pushB (o:=[]) (ia:=0) (ib:=0) P.sb ⟨by simp,.nil,λx hx=>by simp at hx,λx hx=>by simp at hx⟩ #v[] (λi _ h2=>P.h0 i h2);simpa using this
 dsimp only;by_cases M:1=b.size
 ·rw [if_pos (by simpa using M)]
  refine Au (h _ _ S (zqf M (m0.finB' P.sa M)))
 rw[if_neg (by simpa using M)];by_cases N:0+1=a.size
 ·rw [if_pos (by simpa using N)]
  exact Au (h _ _ S (zq8 (m0.finL P.sa P.sb N P.ha)))
 rw [if_neg (by simpa using N)];refine Ap (Hk ?_);refine Ap (Dv (Cf (I:=λx c X=>SG κ a₀ pd xs X/\L5 (LX le a b x) c)
  (Q:=λc X=>SG κ a₀ pd xs X/\Fi (λr=>Fin le a b r.toList) c) ?os ?of ⟨S,.mk _ 0 1 _ ⟨m0,by symm,by symm,by symm⟩⟩) ?op)
 case of =>
  rintro c X ⟨_,out,p,d,U,b2,b3,b4,b5⟩;exfalso;symm
 case op =>
  rintro c X hC;refine aG λG t=>?_;obtain⟨b1,r,g,b2⟩:=hC;refine t ?_;clear t;clear G;exact Au (h _ _ b1 b2)
 case os =>
  rintro x c X _ hx hC;refine aG λG t=>?_;obtain ⟨S2,out,p,d,U,Z2⟩:=hC;refine t ?_;clear t;clear G;dsimp only;refine Ap (Dv (Cf (I:=λy c s3=>s3=X/\L6 (LX le a b x) c)
   (Q:=λc s3=>s3=X/\(Fi (λr=>Fin le a b r.toList) c\/L6 (LX le a b x) c)) ?is1 ?if1 ⟨rfl,.mk out p d 0 0 Z2⟩) ?ip1)
  case if1 =>
   rintro c s3 ⟨J,z⟩;exact⟨J,.inr z⟩
  case is1 =>
   rintro y c s3 _ hy hC;refine aG λG t=>?_;obtain⟨J,out,p,d,ac,bc,m3,c3,W,c5⟩:=hC;refine t ?_;clear t;clear G;subst J;dsimp only;refine Ap (za2 W (Ap (za2 #v[] (Ap (q_lt C S2 (P.mb _ W) (P.ma _ #v[]) ?_)))));have bb:=P.bf p d #v[] W;cases q:lt (G b d) (G a p) with
   | true =>
    dsimp only;rw [if_pos rfl];refine Ap (za2 W ?_);have F:MI le a b (out.push (G b d)).toList p (d+1):=by
     rw[Dn];exact m3.pushB P.sb W λi D L=>O.tr (O.f2 q) (leA _ _ D L)
    by_cases e:d+1=b.size
    ·rw [if_pos (by simpa using e)]
     refine Au ⟨rfl,.inl (.mk _ _ (zqf e ?_))⟩;rw[e] at F;exact F.finB P.sa
    ·rw [if_neg (by simpa using e)]
     split
     ·exact Au ⟨rfl,.inr (.mk _ _ _ _ _ ⟨F,c3,by symm,by symm⟩)⟩
     ·exact Au ⟨rfl,.mk _ _ _ _ _ ⟨F,c3,by symm,by symm⟩⟩
   | false =>
    dsimp only;rw [if_neg (by decide)];refine Ap (za2 (by symm) ?_);have F:MI le a b (out.push (G a p)).toList (p+1) d:=by
     rw[Dn];exact m3.pushA P.sa #v[] λj D L=>O.tr ((O.f1 bb).mp q) (Y _ _ D L)
    by_cases e:p+1+1=a.size
    ·rw [if_pos (by simpa using e)]
     exact Au ⟨rfl,.inl (.mk _ _ (zq8 (F.finL P.sa P.sb e P.ha)))⟩
    ·rw [if_neg (by simpa using e)]
     split
     ·exact Au ⟨rfl,.inr (.mk _ _ _ _ _ ⟨F,by symm,W,by symm⟩)⟩
     ·exact Au ⟨rfl,.mk _ _ _ _ _ ⟨F,by symm,W,by symm⟩⟩
  case ip1 =>
   rintro c s3 ⟨J,z⟩;subst J;refine aG λG t=>?_;rcases z with⟨r,g,f⟩|⟨out,p,d,ac,bc,m3,c3,W,c5⟩
   ·refine t ?_
    clear t;clear G;exact Au ⟨S2,.mk _ _ f⟩
   ·refine t ?_
    clear t;clear G;dsimp only;refine Ap (wpS_lift (Df ⟨rfl,?_⟩));refine Ap (Dv (Cf (I:=λy c s4=>SG κ a₀ pd xs s4/\L7 (LX le a b (x+y)) c)
     (Q:=λc s4=>SG κ a₀ pd xs s4/\(Fi (λr=>Fin le a b r.toList) c\/L7 (LX le a b (x+1)) c)) ?gs ?gf ⟨S2,.mk out p d _ ac bc ⟨m3,c3,W,by symm⟩⟩) ?gp)
    case gf =>
     rintro c s4 ⟨S4,out,p,d,U,ac,bc,F,d3,V,d5⟩;exact⟨S4,.inr (.mk _ _ _ _ _ _ ⟨F,d3,V,by symm⟩)⟩
    case gp =>
     rintro c s4 ⟨S4,z⟩;refine aG λG t=>?_;rcases z with⟨r,g,f⟩|⟨out,p,d,U,ac,bc,Z4⟩
     ·refine t ?_
      clear t;clear G;exact Au ⟨S4,.mk _ _ f⟩
     ·refine t ?_
      clear t;clear G;dsimp only;exact Ap (zqj S4 λs5 R=>Au ⟨R,.mk _ _ _ _ Z4⟩)
    case gs =>
     rintro y c s4 _ hy hC;refine aG λG t=>?_;obtain⟨S4,out,p,d,U,ac,bc,F,d3,V,d5⟩:=hC;refine t ?_;clear t;clear G;simp (config:={ maxSteps:=10000000,failIfUnchanged:=Zc }) only [];refine zxl λQ' Z=>?_;generalize U=U
     revert U
     refine q_eq (g:=λU=>U-1) (λ_=>rfl) λU=>?_;dsimp (config:={ failIfUnchanged:=Zc }) only;refine Ap (zqj S4 λs5 R=>Ap (za2 V (Ap (zru (left:=Zc) (key:=G b d) (arr:=a) (base:=p) (n:=a.size-p) (hint:=0) (B:=λi=>!lt (G b d) (G a (p+i))) C R.i.kind (P.mb _ V) #v[] (λi hi=>P.ma _ #v[]) (λi hi=>rfl) (λi j h1 h2 h3=>?mono1) #v[] λk k1 k2 k3=>?_))))
     case mono1 =>
      have h3':lt (G b d) (G a (p+j))=Zc:=by simpa using h3
      have l1:=(O.f1 (P.bf (p+j) d #v[] V)).mp h3';have l2:=(O.f1 (P.bf (p+i) d #v[] V)).mpr (O.tr (leA _ _ #v[] #v[]) l1);show (!lt (G b d) (G a (p+i)))=Zd;rw[l2];rfl
     have w1:∀i,p<=i->i<p+k->le (G a i) (G b d):=λi D L=>by
      have:=k2 (i-p) #v[];rw[Gk D] at this;exact (O.f1 (P.bf i d #v[] V)).mp (by simpa using this)
     have w2:∀i,p+k<=i->i<a.size->le (G b d) (G a i):=λi D L=>by
      have:=k3 (i-p) #v[] #v[];rw[Gk (Ci (Eg _ _) D)] at this;exact O.f2 (by simpa using this)
     have m5:MI le a b (out++a.extract p (p+k)).toList (p+k) d:=by
      rw[Bs,zc5,Nat.add_sub_cancel_left];exact F.appA P.sa k #v[] λi D L j g3 g4=>O.tr (w1 i D L) (Y _ _ g3 g4)
     dsimp (config:={ failIfUnchanged:=Zc }) only;generalize eou:out=out'
     revert out'
     generalize ena:p=na'
     revert na'
     refine z1b (λm u=>MI le a b u.toList m d/\(∀i,m<=i->i<a.size->le (G b d) (G a i))/\m+1<a.size/\x+y<=m+d) (λhk0=>?_) (λhc H=>?_) λm u ⟨n5,u1,b6,p6⟩=>?_
     ·have k0:k=0:=by symm
      subst k0;exact⟨F,w2,d3,d5⟩
     ·refine q_if (λM => ?_) λM => ?_
      ·have M:p+k+1=a.size:=by simpa using M
       exact Au (Z _ _ ⟨R,.inl (.mk _ _ (zq8 (m5.finL P.sa P.sb M P.ha)))⟩)
      have M:¬ p+k+1=a.size:=by simpa using M
      refine q_if (λN=>?_) λN=>?_
      ·have N:p+k=a.size:=by simpa using N
       exact Au (Z _ _ ⟨R,.inl (.mk _ _ (z9c N (m5.finA' P.sb N)))⟩)
      have N:¬ p+k=a.size:=by simpa using N
      exact H _ _ ⟨m5,w2,by symm,by symm⟩
     clear m5 F w2 w1 k3 k2 k1;dsimp (config:={ failIfUnchanged:=Zc }) only;refine Ap (za2 V ?_);have m6:MI le a b (u.push (G b d)).toList m (d+1):=by
      rw[Dn];exact n5.pushB P.sb V u1
     refine q_if (λJ=>?_) λJ=>?_
     ·have J:d+1=b.size:=by simpa using J
      exact Au (Z _ _ ⟨R,.inl (.mk _ _ (zqf J (m6.finB' P.sa J)))⟩)
     have J:¬ d+1=b.size:=by simpa using J
     refine Ap (za2 #v[] (Ap (zru (left:=Zd) (key:=G a m) (arr:=b) (base:=d+1) (n:=b.size-(d+1)) (hint:=0) (B:=λj=>lt (G b (d+1+j)) (G a m)) C R.i.kind (P.ma _ #v[]) #v[] (λj hj=>P.mb _ #v[]) (λj hj=>rfl) (λi j h1 h2 h3=>?mono2) #v[] λl l1 l2 l3=>?_)))
     case mono2 =>
      have n1:=O.f3 (P.bf m (d+1+j) #v[] #v[]) h3;cases q:lt (G b (d+1+i)) (G a m) with
      |true=>rfl
      |false=>exact absurd (O.tr ((O.f1 (P.bf m (d+1+i) #v[] #v[])).mp q) (Y _ _ #v[] #v[])) n1
     have v1:∀j,d+1<=j->j<d+1+l->le (G b j) (G a m):=λj D L=>by
      have:=l2 (j-(d+1)) #v[];rw[Gk D] at this;exact O.f2 this
     have v2:∀j,d+1+l<=j->j<b.size->le (G a m) (G b j):=λj D L=>by
      have:=l3 (j-(d+1)) #v[] #v[];rw[Gk (Ci (Eg _ _) D)] at this;exact (O.f1 (P.bf m j #v[] L)).mp this
     have m7:MI le a b (u.push (G b d)++b.extract (d+1) (d+1+l)).toList m (d+1+l):=by
      rw[Bs,zc5,Nat.add_sub_cancel_left];exact m6.appB P.sb l #v[] λj D L i g3 g4=>O.tr (v1 j D L) (leA _ _ g3 g4)
     dsimp (config:={ failIfUnchanged:=Zc }) only;generalize hnb:d+1=ib1 at m7 m6 v2 J ⊢;generalize hout:u.push (G b d)=T at m7 m6 ⊢;generalize eou:T=out'
     revert out'
     generalize ena:ib1=na'
     revert na'
     refine z1b (λK T=>MI le a b T.toList m K/\(∀j,K<=j->j<b.size->le (G a m) (G b j))/\K<b.size/\x+y+1<=m+K) (λhl0=>?_) (λhc H=>?_) λK out3 ⟨n7,u2,b7,p7⟩=>?_
     ·have k0:l=0:=by symm
      subst k0;exact⟨m6,v2,by symm,by symm⟩
     ·refine q_if (λe4 => ?_) λe4 => ?_
      ·have e4:ib1+l=b.size:=by simpa using e4
       exact Au (Z _ _ ⟨R,.inl (.mk _ _ (zqf e4 (m7.finB' P.sa e4)))⟩)
      have e4:¬ ib1+l=b.size:=by simpa using e4
      exact H _ _ ⟨m7,v2,by symm,by symm⟩
     dsimp (config:={ failIfUnchanged:=Zc }) only;refine Ap (za2 (by symm) ?_);have m8:MI le a b (out3.push (G a m)).toList (m+1) K:=by
      rw[Dn];exact n7.pushA P.sa #v[] u2
     refine q_if (λe5=>?_) λe5=>?_
     ·have e5:m+1+1=a.size:=by simpa using e5
      exact Au (Z _ _ ⟨R,.inl (.mk _ _ (zq8 (m8.finL P.sa P.sb e5 P.ha)))⟩)
     have e5:¬ m+1+1=a.size:=by simpa using e5
     refine q_if (λ_=>?_) λ_=>?_
     ·exact Au (Z _ _ ⟨R,.inr (.mk _ _ _ _ _ _ ⟨m8,by symm,b7,by symm⟩)⟩)
     ·exact Au (Z _ _ ⟨R,.mk _ _ _ _ _ _ ⟨m8,by symm,b7,by symm⟩⟩)
end
end Tim
namespace Tim
section
variable {prog:Program}{w:World}{A:Around}{E:Ze->Zf->Prop}{s:Zf}{κ:SortKind}{a₀:Array Keyed}{lt:Keyed->Keyed->Bool}{bf le:Keyed->Keyed->Prop}{st:SortSt}{pd:Array (Nat × Nat × Nat)}
variable {a b out:Array Keyed}{o:List Keyed}{na nb at_:Nat}
theorem MH.pushA' (S:Srt le a 0 a.size)(m:MH le a b out.toList.reverse na nb)(d:1<=na)(h:na<=a.size)(c:∀j,j<nb->le (G b j) (G a (na-1))):MH le a b (out.push (G a (na-1))).toList.reverse (na-1) nb:=by
 obtain⟨n,rfl⟩ : ∃n,na=n+1:=⟨na-1,by symm⟩;rw[Dn,List.reverse_append];exact m.pushA S #v[] c
theorem MH.pushB' (S:Srt le b 0 b.size)(m:MH le a b out.toList.reverse na nb)(d:1<=nb)(h:nb<=b.size)(c:∀i,i<na->le (G a i) (G b (nb-1))):MH le a b (out.push (G b (nb-1))).toList.reverse na (nb-1):=by
 obtain⟨n,rfl⟩ : ∃n,nb=n+1:=⟨nb-1,by symm⟩;rw[Dn,List.reverse_append];exact m.pushB S #v[] c
theorem zxf (x:Array Keyed)(i j:Nat):(out++(x.extract i j).reverse).toList.reverse=(x.toList.drop i).take (j-i)++out.toList.reverse:=by
 rw[Bs,List.reverse_append,Ge,List.reverse_reverse,zc5]
theorem MH.appA' (S:Srt le a 0 a.size)(m:MH le a b out.toList.reverse na nb)(d:at_<=na)(h:na<=a.size)(c:∀i,at_<=i->i<na->∀j,j<nb->le (G b j) (G a i)):MH le a b (out++(a.extract at_ na).reverse).toList.reverse at_ nb:=by
 rw[zxf];obtain⟨k,rfl⟩ : ∃k,na=at_+k:=⟨na-at_,by symm⟩;rw[show at_+k-at_=k by symm];exact MH.appA S k at_ m h c
theorem MH.appB' (S:Srt le b 0 b.size)(m:MH le a b out.toList.reverse na nb)(d:at_<=nb)(h:nb<=b.size)(c:∀j,at_<=j->j<nb->∀i,i<na->le (G a i) (G b j)):MH le a b (out++(b.extract at_ nb).reverse).toList.reverse na at_:=by
 rw[zxf];obtain⟨k,rfl⟩ : ∃k,nb=at_+k:=⟨nb-at_,by symm⟩;rw[show at_+k-at_=k by symm];exact MH.appB S k at_ m h c
theorem zdw (x:Array Keyed)(n:Nat):(x.extract 0 n).toList=x.toList.take n:=by rw[zc5,Eh,Nat.sub_zero]
theorem MH.done0 (S:Srt le b 0 b.size)(m:MH le a b out.toList.reverse na nb)(e:na=0):Fin le a b (a.extract 0 na++b.extract 0 nb++out.reverse).toList:=by
 subst e;rw[Bs,Bs,zdw,zdw,Dj,List.nil_append,Ge];exact m.finA S
theorem MH.done1 (S:Srt le a 0 a.size)(m:MH le a b out.toList.reverse na nb)(e:nb=0):Fin le a b (a.extract 0 na++b.extract 0 nb++out.reverse).toList:=by
 subst e;rw[Bs,Bs,zdw,zdw,Dj,Bf,Ge];exact m.finB S
theorem MH.first (S:Srt le a 0 a.size)(c:Srt le b 0 b.size)(m:MH le a b out.toList.reverse na nb)(e:nb=1)(H:∀i,i<a.size->le (G b 0) (G a i)):Fin le a b (b.extract 0 nb++a.extract 0 na++out.reverse).toList:=by
 subst e;rw[Bs,Bs,zdw,zdw,Ge];exact m.finF S c H
structure HX (le:Keyed->Keyed->Prop) (a b:Array Keyed) (x:Nat) (out:Array Keyed) (na nb:Nat):Prop where
 m:MH le a b out.toList.reverse na nb
 l:1<=na
 r:2<=nb
 s:na<=a.size
 t:nb<=b.size
 u:x+na+nb<=a.size+b.size
inductive H5 (P:Array Keyed->Nat->Nat->Prop):Option (Array Keyed)×Nat×Nat×Array Keyed×Nat->Prop
 |mk (out:Array Keyed) (na nb mg:Nat):P out na nb->H5 P (Zb,na,nb,out,mg)
inductive H6 (P:Array Keyed->Nat->Nat->Prop):Option (Array Keyed)×Nat×Nat×Array Keyed×Nat×Nat->Prop
 |mk (out:Array Keyed) (na nb ac bc:Nat):P out na nb->H6 P (Zb,na,nb,out,ac,bc)
inductive H7 (P:Array Keyed->Nat->Nat->Prop):Option (Array Keyed)×Nat×Nat×Array Keyed×Nat×Nat×Nat->Prop
 |mk (out:Array Keyed) (na nb mg ac bc:Nat):P out na nb->H7 P (Zb,na,nb,out,mg,ac,bc)
theorem ydp (C:Asks prog w A E s κ a₀ lt) (O:Ord lt bf le) {a b xs:Array Keyed}{Q:Array Keyed->SortSt->Prop} (S:SG κ a₀ pd xs st) (P:MP lt bf le a₀ a b)
  (h:∀r st',SG κ a₀ pd xs st'->Fin le a b r.toList->Q r st'):wpS (model prog w) A E s (mHi a b) Q st:=by
 have U:∀i j,i<=j->j<a.size->le (G a i) (G a j):=λi j h1 h2=>by
  by_cases e:i=j
  ·rw[e];exact O.rf _
  ·exact P.sa i j (Cc _) #v[] h2
 have N:∀i j,i<=j->j<b.size->le (G b i) (G b j):=λi j h1 h2=>by
  by_cases e:i=j
  ·rw[e];exact O.rf _
  ·exact P.sb i j (Cc _) #v[] h2
 have pa:=P.a1;have pb:=P.b1;show wpS (model prog w) A E s (liftM (rule _)>>=_) Q st;refine Ap (wpS_lift (Df ⟨rfl,?_⟩));refine Ap (za2 (show a.size-1<a.size by symm) ?_);have m0:MH le a b (#[G a (a.size-1)]:Array Keyed).toList.reverse (a.size-1) b.size:=by
  have:=MH.pushA' (out:=#[]) (na:=a.size) (nb:=b.size) (a:=a) (b:=b) P.sa ⟨by simp,.nil,λx hx=>by simp at hx,λx hx=>by simp at hx⟩ pa (Af _) P.ha;simpa using this
 dsimp only;by_cases K:a.size-1=0
 ·rw [if_pos (by simpa using K)]
  exact Au (h _ _ S (m0.done0 P.sb K))
 rw[if_neg (by simpa using K)];by_cases e2:b.size=1
 ·rw [if_pos (by simpa using e2)]
  exact Au (h _ _ S (m0.first P.sa P.sb e2 P.h0))
 rw [if_neg (by simpa using e2)];refine Ap (Hk ?_);refine Ap (Dv (Cf (I:=λx c M=>SG κ a₀ pd xs M/\H5 (HX le a b x) c)
  (Q:=λc M=>SG κ a₀ pd xs M/\Fi (λr=>Fin le a b r.toList) c) ?os ?of ⟨S,.mk _ (a.size-1) b.size _ ⟨m0,by symm,by symm,by symm,by symm,by symm⟩⟩) ?op)
 case of =>
  rintro c M ⟨_,out,na,nb,J,b2,b3,b4,b5,b6,b7⟩;exfalso;symm
 case op =>
  rintro c M T;refine aG λG m=>?_;obtain⟨b1,r,g,b2⟩:=T;refine m ?_;clear m;clear G;exact Au (h _ _ b1 b2)
 case os =>
  rintro x c M _ hx T;refine aG λG m=>?_;obtain ⟨S2,out,na,nb,J,Z2⟩:=T;refine m ?_;clear m;clear G;dsimp only;refine Ap (Dv (Cf (I:=λy c s3=>s3=M/\H6 (HX le a b x) c)
   (Q:=λc s3=>s3=M/\(Fi (λr=>Fin le a b r.toList) c\/H6 (HX le a b x) c)) ?is1 ?if1 ⟨rfl,.mk out na nb 0 0 Z2⟩) ?ip1)
  case if1 =>
   rintro c s3 ⟨t,z⟩;exact⟨t,.inr z⟩
  case is1 =>
   rintro y c s3 _ hy T;refine aG λG m=>?_;obtain⟨t,out,na,nb,ac,bc,m3,c3,c4,c5,c6,c7⟩:=T;refine m ?_;clear m;clear G;subst t;dsimp only;refine Ap (za2 #v[] (Ap (za2 #v[] (Ap (q_lt C S2 (P.mb _ #v[]) (P.ma _ #v[]) ?_)))));have bb:=P.bf (na-1) (nb-1) #v[] #v[];cases q:lt (G b (nb-1)) (G a (na-1)) with
   | true =>
    dsimp only;rw[if_pos rfl];refine Ap (za2 #v[] ?_);have o:=m3.pushA' P.sa c3 c5 λj g=>O.tr (N j (nb-1) #v[] #v[]) (O.f2 q);by_cases e:na-1=0
    ·rw [if_pos (by simpa using e)]
     exact Au ⟨rfl,.inl (.mk _ _ (o.done0 P.sb e))⟩
    ·rw [if_neg (by simpa using e)]
     split
     ·exact Au ⟨rfl,.inr (.mk _ _ _ _ _ ⟨o,by symm,by symm,by symm,by symm,by symm⟩)⟩
     ·exact Au ⟨rfl,.mk _ _ _ _ _ ⟨o,by symm,by symm,by symm,by symm,by symm⟩⟩
   | false =>
    dsimp only;rw[if_neg #v[0,9]];refine Ap (za2 #v[] ?_);have o:=m3.pushB' P.sb #v[] c6 λi g=>O.tr (U i (na-1) #v[] #v[]) ((O.f1 bb).mp q);by_cases e:nb-1=1
    ·rw [if_pos (by simpa using e)]
     exact Au ⟨rfl,.inl (.mk _ _ (o.first P.sa P.sb e P.h0))⟩
    ·rw [if_neg (by simpa using e)]
     split
     ·exact Au ⟨rfl,.inr (.mk _ _ _ _ _ ⟨o,by symm,by symm,by symm,by symm,by symm⟩)⟩
     ·exact Au ⟨rfl,.mk _ _ _ _ _ ⟨o,by symm,by symm,by symm,by symm,by symm⟩⟩
  case ip1 =>
   rintro c s3 ⟨t,z⟩;subst t;refine aG λG m=>?_;rcases z with⟨r,g,f⟩|⟨out,na,nb,ac,bc,m3,c3,c4,c5,c6,c7⟩
   ·refine m ?_
    clear m;clear G;exact Au ⟨S2,.mk _ _ f⟩
   ·refine m ?_
    clear m;clear G;dsimp only;refine Ap (wpS_lift (Df ⟨rfl,?_⟩));refine Ap (Dv (Cf (I:=λy c Z=>SG κ a₀ pd xs Z/\H7 (HX le a b (x+y)) c)
     (Q:=λc Z=>SG κ a₀ pd xs Z/\(Fi (λr=>Fin le a b r.toList) c\/H7 (HX le a b (x+1)) c)) ?gs ?gf ⟨S2,.mk out na nb _ ac bc ⟨m3,c3,c4,c5,c6,by symm⟩⟩) ?gp)
    case gf =>
     rintro c Z ⟨Y,out,na,nb,J,ac,bc,o,d3,d4,d5,d6,d7⟩;exact⟨Y,.inr (.mk _ _ _ _ _ _ ⟨o,d3,d4,d5,d6,by symm⟩)⟩
    case gp =>
     rintro c Z ⟨Y,z⟩;refine aG λG m=>?_;rcases z with⟨r,g,f⟩|⟨out,na,nb,J,ac,bc,Z4⟩
     ·refine m ?_
      clear m;clear G;exact Au ⟨Y,.mk _ _ f⟩
     ·refine m ?_
      clear m;clear G;dsimp only;exact Ap (zqj Y λs5 D=>Au ⟨D,.mk _ _ _ _ Z4⟩)
    case gs =>
     rintro y c Z _ hy T;refine aG λG m=>?_;obtain⟨Y,out,na,nb,J,ac,bc,o,d3,d4,d5,d6,d7⟩:=T;refine m ?_;clear m;clear G;simp (config:={ maxSteps:=10000000,failIfUnchanged:=Zc }) only [];refine zxl λQ' R=>?_;generalize J=J
     revert J
     refine q_eq (g:=λJ=>J-1) (λ_=>rfl) λJ=>?_;dsimp (config:={ failIfUnchanged:=Zc }) only;refine Ap (zqj Y λs5 D=>Ap (za2 (show nb-1<b.size by symm) (Ap (zru (left:=Zc) (key:=G b (nb-1)) (arr:=a) (base:=0) (n:=na) (hint:=na-1) (B:=λi=>!lt (G b (nb-1)) (G a (0+i))) C D.i.kind (P.mb _ #v[]) #v[] (λi hi=>P.ma _ #v[]) (λi hi=>rfl) (λi j h1 h2 h3=>?mono1) #v[] λk k1 k2 k3=>?_))))
     case mono1 =>
      have h3':lt (G b (nb-1)) (G a (0+j))=Zc:=by simpa using h3
      have l1:=(O.f1 (P.bf (0+j) (nb-1) #v[] #v[])).mp h3';have l2:=(O.f1 (P.bf (0+i) (nb-1) #v[] #v[])).mpr (O.tr (U _ _ #v[] #v[]) l1);show (!lt (G b (nb-1)) (G a (0+i)))=Zd;rw[l2];rfl
     have w1:∀i,i<k->le (G a i) (G b (nb-1)):=λi L=>by
      have:=k2 i L;rw[Cn] at this;exact (O.f1 (P.bf i (nb-1) #v[] #v[])).mp (by simpa using this)
     have w2:∀i,k<=i->i<na->le (G b (nb-1)) (G a i):=λi L g2=>by
      have:=k3 i #v[] #v[];rw[Cn] at this;exact O.f2 (by simpa using this)
     have m5:=o.appA' P.sa k1 d5 λi L g2 j g3=>O.tr (N j (nb-1) #v[] #v[]) (w2 i L g2);dsimp (config:={ failIfUnchanged:=Zc }) only;generalize hac:na-k=ac1 at m5 ⊢;generalize eou:out=out'
     revert out'
     generalize ena:na=na'
     revert na'
     refine z1b (λd u=>MH le a b u.toList.reverse d nb/\(∀i,i<d->le (G a i) (G b (nb-1)))/\(1<=d/\d<=a.size)/\x+y+d+nb<=a.size+b.size) (λhk0=>?_) (λhc H=>?_) λd u ⟨n5,u1,b8,p6⟩=>?_
     ·have k0:k=na:=by symm
      exact⟨o,k0 ▸ w1,by symm,by symm⟩
     ·refine q_if (λK => ?_) λK => ?_
      ·have K:k=0:=by simpa using K
       exact Au (R _ _ ⟨D,.inl (.mk _ _ (m5.done0 P.sb K))⟩)
      have K:¬ k=0:=by simpa using K
      exact H _ _ ⟨m5,w1,by symm,by symm⟩
     clear m5 o w2 w1 k3 k2 k1 hac;dsimp (config:={ failIfUnchanged:=Zc }) only;refine Ap (za2 #v[] ?_);have m6:=n5.pushB' P.sb #v[] d6 u1;refine q_if (λt=>?_) λt=>?_
     ·have t:nb-1=1:=by simpa using t
      exact Au (R _ _ ⟨D,.inl (.mk _ _ (m6.first P.sa P.sb t P.h0))⟩)
     have t:¬ nb-1=1:=by simpa using t
     refine Ap (za2 (show d-1<a.size by symm) (Ap (zru (left:=Zd) (key:=G a (d-1)) (arr:=b) (base:=0) (n:=nb-1) (hint:=nb-1-1) (B:=λj=>lt (G b (0+j)) (G a (d-1))) C D.i.kind (P.ma _ #v[]) #v[] (λj hj=>P.mb _ #v[]) (λj hj=>rfl) (λi j h1 h2 h3=>?mono2) #v[] λl l1 l2 l3=>?_)))
     case mono2 =>
      have n1:=O.f3 (P.bf (d-1) (0+j) #v[] #v[]) h3;cases q:lt (G b (0+i)) (G a (d-1)) with
      |true=>rfl
      |false=>exact absurd (O.tr ((O.f1 (P.bf (d-1) (0+i) #v[] #v[])).mp q) (N _ _ #v[] #v[])) n1
     have v1:∀j,j<l->le (G b j) (G a (d-1)):=λj L=>by
      have:=l2 j L;rw[Cn] at this;exact O.f2 this
     have v2:∀j,l<=j->j<nb-1->le (G a (d-1)) (G b j):=λj L g2=>by
      have:=l3 j #v[] #v[];rw[Cn] at this;exact (O.f1 (P.bf (d-1) j #v[] #v[])).mp this
     have m7:=m6.appB' P.sb l1 #v[] λj L g2 i g3=>O.tr (U i (d-1) #v[] #v[]) (v2 j L g2);dsimp (config:={ failIfUnchanged:=Zc }) only;generalize hbc:nb-1-l=bc1 at m7 ⊢;generalize hnb:nb-1=nb1 at hbc m7 m6 ⊢;generalize hout:u.push (G b nb1)=F at m7 m6 ⊢;generalize eou:F=out'
     revert out'
     generalize ena:nb1=na'
     revert na'
     refine z1b (λp F=>MH le a b F.toList.reverse d p/\(∀j,j<p->le (G b j) (G a (d-1)))/\(2<=p/\p<=b.size)/\x+y+1+d+p<=a.size+b.size) (λhl0=>?_) (λhc H=>?_) λp out3 ⟨n7,u2,b7,p7⟩=>?_
     ·have k0:l=nb1:=by symm
      exact⟨m6,k0 ▸ v1,by symm,by symm⟩
     ·refine q_if (λX => ?_) λX => ?_
      ·have X:l=1:=by simpa using X
       exact Au (R _ _ ⟨D,.inl (.mk _ _ (m7.first P.sa P.sb X P.h0))⟩)
      have X:¬ l=1:=by simpa using X
      refine q_if (λV=>?_) λV=>?_
      ·have V:l=0:=by simpa using V
       exact Au (R _ _ ⟨D,.inl (.mk _ _ (m7.done1 P.sa V))⟩)
      have V:¬ l=0:=by simpa using V
      exact H _ _ ⟨m7,v1,by symm,by symm⟩
     dsimp (config:={ failIfUnchanged:=Zc }) only;refine Ap (za2 #v[] ?_);have m8:=n7.pushA' P.sa b8.1 b8.2 u2;refine q_if (λW=>?_) λW=>?_
     ·have W:d-1=0:=by simpa using W
      exact Au (R _ _ ⟨D,.inl (.mk _ _ (m8.done0 P.sb W))⟩)
     have W:¬ d-1=0:=by simpa using W
     refine q_if (λ_=>?_) λ_=>?_
     ·exact Au (R _ _ ⟨D,.inr (.mk _ _ _ _ _ _ ⟨m8,by symm,by symm,by symm,by symm,by symm⟩)⟩)
     ·exact Au (R _ _ ⟨D,.mk _ _ _ _ _ _ ⟨m8,by symm,by symm,by symm,by symm,by symm⟩⟩)
end
end Tim
namespace Tim
abbrev wr (xs:Array Keyed) (s0:Nat) (l:List Keyed) (m:Nat):Array Keyed:=(l.zipIdx m).foldl (λa (x:Keyed×Nat)=>match x with|(p,j)=>a.setIfInBounds (s0+j) p) xs
theorem zs6 (xs:Array Keyed)(s0:Nat)(p:Keyed)(l:List Keyed)(m:Nat):wr xs s0 (p::l) m=wr (xs.setIfInBounds (s0+m) p) s0 l (m+1):=by unfold wr;rw[List.zipIdx_cons,List.foldl_cons]
theorem ztc (s0:Nat):∀(l:List Keyed) (m:Nat) (x:Array Keyed),(wr x s0 l m).size=x.size
 |[],m,x=>rfl
 |p::l,m,x=>by rw[zs6,ztc s0 l,Array.size_setIfInBounds]
theorem yc2 {xs:Array Keyed}{i k:Nat}{p:Keyed}(h:i<xs.size):G (xs.setIfInBounds i p) k=if i=k then p else G xs k:=by
 unfold G;rw[Array.getElem?_setIfInBounds];split
 ·rename_i e;subst e
  first|rfl|(rw[if_pos h];rfl)
 ·rfl
theorem G_wr (s0:Nat):∀(l:List Keyed) (m:Nat) (x:Array Keyed),s0+m+l.length<=x.size->∀i,G (wr x s0 l m) i=if s0+m<=i/\i<s0+m+l.length then (l[i-(s0+m)]?).getD d0 else G x i
 |[],m,x,h,i=>by rw[if_neg (by simp)];rfl
 | p::l,m,x,h,i=>by
  rw[Bm] at h;rw[zs6,G_wr s0 l (m+1) _ (by rw[Array.size_setIfInBounds];symm),yc2 #v[]];rw[Bm];by_cases c:i=s0+m
  ·subst c
   rw[if_neg #v[],if_pos rfl,if_pos ⟨by symm,by symm⟩,Nat.sub_self]
   rfl
  ·by_cases a:s0+m ≤ i /\ i<s0+m+(l.length+1)
   ·rw[if_pos ⟨by symm,by symm⟩,if_pos a,show i-(s0+m)=i-(s0+(m+1))+1 by symm,List.getElem?_cons_succ]
   ·rw[if_neg #v[],if_neg #v[],if_neg a]
theorem zqn {xs:Array Keyed}{i:Nat}(h:i<xs.size):G xs i=xs[i]:=by unfold G;rw[getElem?_pos xs i h];rfl
theorem zq0 {xs:Array Keyed}{i j k:Nat}(b:j<=xs.size)(a:i+k<j):G (xs.extract i j) k=G xs (i+k):=by
 have h:k<(xs.extract i j).size:=by rw[Array.size_extract];symm
 rw[zqn h,Array.getElem_extract,zqn #v[]]
theorem zdl {xs:Array Keyed}{i j:Nat}(h:j<=xs.size):(xs.extract i j).size=j-i:=by rw[Array.size_extract];symm
theorem ydg {xs:Array Keyed}{s0 m e:Nat}{r:List Keyed}(C:s0<=m)(B:m<=e)(h:e<=xs.size)(p:r.Perm ((xs.extract s0 m).toList++(xs.extract m e).toList)):Re xs (wr xs s0 r 0) s0 e/\r.length=e-s0:=by
 have g:r.length=e-s0:=by
  rw[p.length_eq,Bh,Bx,Bx,zdl #v[],zdl h];symm
 have c:=G_wr s0 r 0 xs #v[];refine⟨⟨?_,λi b=>?_,λi D E=>?_⟩,g⟩
 ·have u:(wr xs s0 r 0).toList=xs.toList.take s0++r++xs.toList.drop e:=by
   apply Db;intro i;have sz:(wr xs s0 r 0).size=xs.size:=ztc _ _ _ _;by_cases b:i<xs.size
   ·have w:(wr xs s0 r 0).toList[i]? = Za (G (wr xs s0 r 0) i):=G_list #v[];rw[w,c i];by_cases y:i<s0
    ·rw[if_neg #v[],Bc,Dd (by simp;symm),List.getElem?_take_of_lt y,G_list b]
    ·by_cases A:i<e
     ·rw[if_pos ⟨by symm,by symm⟩,Bc,Ew (by simp;symm),Dd (by simp;symm)];have:(List.take s0 xs.toList).length=s0:=by simp;symm
      rw[this,Nat.add_zero,Ad #v[]]
      rfl
     ·rw[if_neg #v[],Ew (by simp;symm),List.getElem?_drop];have:(List.take s0 xs.toList++r).length=e:=by simp;symm
      rw[this,show e+(i-e)=i by symm,G_list b]
   ·rw[Bp (by simp;symm),Bp (by simp;symm)]
  have f:xs.toList=xs.toList.take s0++((xs.extract s0 m).toList++(xs.extract m e).toList)++xs.toList.drop e:=by
   rw[zc5,zc5];have x:(xs.toList.drop s0).take (m-s0)++(xs.toList.drop m).take (e-m)=(xs.toList.drop s0).take (e-s0):=by
    rw[show e-s0=(m-s0)+(e-m) by symm,List.take_add,List.drop_drop,show s0+(m-s0)=m by symm]
   rw[x,Bc];have t:(xs.toList.drop s0).take (e-s0)++xs.toList.drop e=xs.toList.drop s0:=by
    have:=Bu (e-s0) (xs.toList.drop s0);rw[List.drop_drop,show s0+(e-s0)=e by symm] at this;exact this
   rw[t,Bu]
  refine Gw.mpr ?_;rw[u];have q:=(p.append_left (xs.toList.take s0)).append_right (xs.toList.drop e);rw[<-f] at q;exact q
 ·rw[c i,if_neg #v[]]
 ·rw[c i,if_pos ⟨by symm,by symm⟩,Ad #v[]];have o:=p.mem_iff.mp (List.getElem_mem (l:=r) (n:=i-(s0+0)) #v[]);show ∃j,s0<=j/\j<e/\r[i-(s0+0)]=G xs j;rcases Bz.mp o with z|z
  ·obtain⟨k,s,a,d⟩:=mem_drop (n:=0) (by rw[Eh];exact z);rw[zdl #v[]] at a;exact⟨s0+k,by symm,by symm,by rw[d,zq0 #v[] #v[]]⟩
  ·obtain⟨k,s,a,d⟩:=mem_drop (n:=0) (by rw[Eh];exact z);rw[zdl h] at a;exact⟨m+k,by symm,by symm,by rw[d,zq0 h #v[]]⟩
section
variable (bf le:Keyed->Keyed->Prop)
abbrev Chain (xs:Array Keyed):Nat->List (Nat×Nat×Nat)->Nat->Prop
 |c,[],h=>c=h
 |c,(s,n,_)::r,h=>s=c/\1<=n/\Srt le xs c (c+n)/\Cut bf xs c/\Chain xs (c+n) r h
end
section
variable {bf le:Keyed->Keyed->Prop}{xs ys:Array Keyed}
theorem Chain.len:∀{l:List (Nat×Nat×Nat)}{c a:Nat},Chain bf le xs c l a->c+l.length<=a
 |[],c,a,h=>by cases h;simp
 | (s,n,_)::r,c,a,h=>by
  have:=Chain.len h.2.2.2.2;have:=h.2.1;rw[Bm];symm
theorem Chain.app:∀{l a:List (Nat×Nat×Nat)}{c b:Nat},Chain bf le xs c (l++a) b↔∃m,Chain bf le xs c l m/\Chain bf le xs m a b
 |[],a,c,b=>⟨λh=>⟨c,rfl,h⟩,λ⟨m,e,h⟩=>by cases e;exact h⟩
 | (s,n,_)::r,a,c,b=>⟨λ⟨f,i,k,j,o⟩=>by
  obtain⟨m,d,g⟩:=Chain.app.mp o;exact⟨m,⟨f,i,k,j,d⟩,g⟩,λ⟨m,⟨f,i,k,j,d⟩,g⟩=>⟨f,i,k,j,Chain.app.mpr ⟨m,d,g⟩⟩⟩
theorem Chain.re:∀{l:List (Nat×Nat×Nat)}{c d b a:Nat},Chain bf le xs c l d->Re xs ys b a->a<=xs.size->(d<=b\/a<=c)->Chain bf le ys c l d
 |[],c,d,b,a,h,_,_,_=>h
 | (s,n,q)::r,c,d,b,a,⟨g,i,k,j,e⟩,R,f,m=>by
  have:=Chain.len e;exact⟨g,i,k.re R #v[],j.re R f #v[],Chain.re e R f #v[]⟩
end
section
variable {prog:Program}{w:World}{A:Around}{E:Ze->Zf->Prop}{s:Zf}{κ:SortKind}{a₀:Array Keyed}{lt:Keyed->Keyed->Bool}{bf le:Keyed->Keyed->Prop}{st:SortSt}{pd:Array (Nat × Nat × Nat)}
theorem ycu {a:SortSt}{Q:PUnit->SortSt->Prop}(h:Q ⟨⟩ a):wpS (model prog w) A E s (set a:StateT SortSt Sem PUnit) Q st:=by
 unfold wpS;rw[StateT.run_set];exact Ak ⟨rfl,h⟩
theorem z9x {a:SortSt}{P:SortSt->Prop}{Q:PUnit->SortSt->Prop}(c:P a)(h:∀b,P b->Q ⟨⟩ b):wpS (model prog w) A E s (set a:StateT SortSt Sem PUnit) Q st:=ycu (h _ c)
theorem ycd {l:List (Nat×Nat×Nat)}{i:Nat}(h:i+1<l.length):l=l.take i++l[i]::l[i+1]::l.drop (i+2):=by
 have e:=Ce (l:=l) (i:=i) #v[];have a:=Ce (l:=l) (i:=i+1) #v[];have:=Bu i l;rw[e,a] at this;exact this.symm
theorem zmm (C:Asks prog w A E s κ a₀ lt) (O:Ord lt bf le) {i lo:Nat}{Q:Bool->SortSt->Prop} (I:SI κ a₀ pd st) (u:i+1<pd.size) (ch:Chain bf le (arrOf st) 0 pd.toList lo) (hlo:lo<=a₀.size)
  (h:∀f p,SI κ a₀ p f->p.size+1=pd.size->Chain bf le (arrOf f) 0 p.toList lo->Re (arrOf st) (arrOf f) 0 lo->Q Zd f):wpS (model prog w) A E s (mergeAt' i) Q st:=by
 have sz:=I.size;have N:i+1<pd.toList.length:=by simpa using u
 have es:=ycd N;obtain⟨⟨a,b,Y⟩,ea⟩ : ∃t,pd.toList[i]=t:=⟨_,rfl⟩;obtain⟨⟨sb,y,pw'⟩,eb⟩ : ∃t,pd.toList[i+1]=t:=⟨_,rfl⟩;rw[ea,eb] at es;have ch0:=ch;rw[es] at ch;obtain⟨m,V,⟨e1,a2,a3,a4,⟨e2,b2,b3,b4,c2⟩⟩⟩:=Chain.app.mp ch;subst e1;subst e2;have l2:=Chain.len c2;have l1:=Chain.len V;have np:∃p:Array (Nat×Nat×Nat),p=(pd.setIfInBounds i (a,b+y,Y)).eraseIdxIfInBounds (i+1)/\p.size+1=pd.size/\p.toList=pd.toList.take i++(a,b+y,Y)::pd.toList.drop (i+2):=by
  refine (λ(q:((pd.setIfInBounds i (a,b+y,Y)).eraseIdxIfInBounds (i+1)).toList=_)=>⟨_,rfl,by
   have M:=congrArg List.length q;rw[Bx,Bh,Bm,Dr,Gb,Bx] at M;symm,q⟩) ?_
  ·rw [Array.toList_eraseIdxIfInBounds,Array.toList_setIfInBounds];have:(pd.toList.set i (a,b+y,Y))=pd.toList.take i++(a,b+y,Y)::(a+b,y,pw')::pd.toList.drop (i+2):=by
    rw[List.set_eq_take_append_cons_drop,if_pos #v[],Ce N,eb]
   rw[this];have l3:(pd.toList.take i).length=i:=by rw[Dr];symm
   rw[List.eraseIdx_append_of_length_le #v[],l3,show i+1-i=1 by symm]
   rfl
 obtain⟨p,epd,zpd,lpd⟩:=np;have fin:∀f,kindOf f=κ->failedOf f=Zb->pendingOf f=p->Re (arrOf st) (arrOf f) a (a+b+y)->Srt le (arrOf f) a (a+b+y)->Q Zd f:=λf k1 k2 k3 R S=>by
  refine h f p ⟨k1,k2,R.perm.trans I.perm,k3⟩ zpd ?_ (R.mono #v[] #v[]);rw[lpd];refine Chain.app.mpr ⟨a,V.re R #v[] (.inl (Af _)),rfl,by symm,?_,a4.re R #v[] (.inl (Af _)),?_⟩
  ·rw[<-Nat.add_assoc];exact S
  ·rw[<-Nat.add_assoc];exact c2.re R #v[] (.inr (Af _))
 have L:∀i j,a<=i->i<=j->j<a+b->le (G (arrOf st) i) (G (arrOf st) j):=λi j o x g=>by
  by_cases e:i=j
  ·rw[e];exact O.rf _
  ·exact a3 i j o #v[] g
 have K:∀i j,a+b<=i->i<=j->j<a+b+y->le (G (arrOf st) i) (G (arrOf st) j):=λi j o x g=>by
  by_cases e:i=j
  ·rw[e];exact O.rf _
  ·exact b3 i j o #v[] g
 have D:∀i j,i<a+b->a+b<=j->j<a+b+y->bf (G (arrOf st) i) (G (arrOf st) j):=λi j o x g=>b4 i j o x #v[];have mem:∀i,i<a₀.size->G (arrOf st) i∈a₀.toList:=λi u=>z4v I.perm #v[];show wpS (model prog w) A E s (get>>=_) Q st;refine Ap (Hk ?_);have g1:(pendingOf st)[i]?=Za (a,b,Y):=by
  rw[I.pend,<-Array.getElem?_toList,Ad #v[],ea]
 have U:(pendingOf st)[i+1]?=Za (a+b,y,pw'):=by
  rw[I.pend,<-Array.getElem?_toList,Ad N,eb]
 dsimp only;rw[g1,U];refine Ap (z9x (P:=SG κ a₀ p (arrOf st)) ⟨⟨I.kind,I.failed,I.perm,by have q:=I.pend;subst epd;subst q;rfl⟩,rfl⟩ λst1 H=>?_);refine Ap (za2 (show a+b<(arrOf st).size by symm) (Ap (zru (left:=Zc) (key:=G (arrOf st) (a+b)) (arr:=arrOf st) (base:=a) (n:=b) (hint:=0) (B:=λi=>!lt (G (arrOf st) (a+b)) (G (arrOf st) (a+i))) C H.i.kind (mem _ #v[]) #v[] (λi u=>mem _ #v[]) (λi u=>rfl) (λi j o x g=>?mono1) #v[] λk k1 k2 k3=>?_)))
 case mono1 =>
  have h3':lt (G (arrOf st) (a+b)) (G (arrOf st) (a+j))=Zc:=by simpa using g
  have z1:=(O.f1 (D (a+j) (a+b) #v[] #v[] #v[])).mp h3';have Z:=(O.f1 (D (a+i) (a+b) #v[] #v[] #v[])).mpr (O.tr (L _ _ #v[] #v[] #v[]) z1);show (!lt (G (arrOf st) (a+b)) (G (arrOf st) (a+i)))=Zd;rw[Z];rfl
 have w1:∀i,a<=i->i<a+k->le (G (arrOf st) i) (G (arrOf st) (a+b)):=λi g1 U=>by
  have:=k2 (i-a) #v[];rw[show a+(i-a)=i by symm] at this;exact (O.f1 (D i (a+b) #v[] #v[] #v[])).mp (by simpa using this)
 have w2:∀i,a+k<=i->i<a+b->le (G (arrOf st) (a+b)) (G (arrOf st) i):=λi g1 U=>by
  have:=k3 (i-a) #v[] #v[];rw[show a+(i-a)=i by symm] at this;exact O.f2 (by simpa using this)
 refine q_if (λq1=>?_) λq1=>?_
 ·have q1:b-k=0:=by simpa using q1
  refine Au (fin _ H.i.kind H.i.failed H.i.pend (by rw[H.e];exact .refl _ _ _) ?_);rw[H.e];intro i j o x g;by_cases V:j<a+b
  ·exact a3 i j o x V
  ·by_cases c2:i<a+b
   ·exact O.tr (w1 i o #v[]) (K _ _ (Af _) #v[] g)
   ·exact b3 i j #v[] x g
 have q1:¬ b-k=0:=by simpa using q1
 have e3:a+k+(b-k)-1=a+b-1:=by symm
 refine Ap (za2 (show a+k+(b-k)-1<(arrOf st).size by symm) (Ap (zru (left:=Zd) (key:=G (arrOf st) (a+k+(b-k)-1)) (arr:=arrOf st) (base:=a+b) (n:=y) (hint:=y-1) (B:=λi=>lt (G (arrOf st) (a+b+i)) (G (arrOf st) (a+k+(b-k)-1))) C H.i.kind (mem _ #v[]) #v[] (λi u=>mem _ #v[]) (λi u=>rfl) (λi j o x g=>?mono2) #v[] λl l1 l2 l3=>?_)))
 case mono2 =>
  have n1:=O.f3 (D (a+k+(b-k)-1) (a+b+j) #v[] #v[] #v[]) g;cases q:lt (G (arrOf st) (a+b+i)) (G (arrOf st) (a+k+(b-k)-1)) with
  |true=>rfl
  |false=>exact absurd (O.tr ((O.f1 (D _ (a+b+i) #v[] #v[] #v[])).mp q) (K _ _ #v[] #v[] #v[])) n1
 rw[e3] at l2 l3;have v1:∀j,a+b<=j->j<a+b+l->le (G (arrOf st) j) (G (arrOf st) (a+b-1)):=λj g1 U=>by
  have:=l2 (j-(a+b)) #v[];rw[show a+b+(j-(a+b))=j by symm] at this;exact O.f2 this
 have v2:∀j,a+b+l<=j->j<a+b+y->le (G (arrOf st) (a+b-1)) (G (arrOf st) j):=λj g1 U=>by
  have:=l3 (j-(a+b)) #v[] #v[];rw[show a+b+(j-(a+b))=j by symm] at this;exact (O.f1 (D _ j #v[] #v[] U)).mp this
 refine q_if (λM=>?_) λM=>?_
 ·have M:l=0:=by simpa using M
  refine Au (fin _ H.i.kind H.i.failed H.i.pend (by rw[H.e];exact .refl _ _ _) ?_);rw[H.e];intro i j o x g;by_cases V:j<a+b
  ·exact a3 i j o x V
  ·by_cases c2:i<a+b
   ·exact O.tr (L i (a+b-1) o #v[] #v[]) (v2 j #v[] g)
   ·exact b3 i j #v[] x g
 have M:¬ l=0:=by simpa using M
 have W:((arrOf st).extract (a+k) (a+b)).size=b-k:=by rw[zdl #v[]];symm
 have sy:((arrOf st).extract (a+b) (a+b+l)).size=l:=by rw[zdl #v[]];symm
 have T:∀i,i<b-k->G ((arrOf st).extract (a+k) (a+b)) i=G (arrOf st) (a+k+i):=λi u=>zq0 #v[] #v[];have X:∀i,i<l->G ((arrOf st).extract (a+b) (a+b+l)) i=G (arrOf st) (a+b+i):=λi u=>zq0 #v[] #v[];have P:MP lt bf le a₀ ((arrOf st).extract (a+k) (a+b)) ((arrOf st).extract (a+b) (a+b+l)):=by
  refine⟨?_,?_,?_,?_,?_,?_,?_,?_,?_⟩
  ·intro i j o x g;rw[W] at g;rw[T i #v[],T j g];exact a3 _ _ #v[] #v[] #v[]
  ·intro i j o x g;rw[sy] at g;rw[X i #v[],X j g];exact b3 _ _ #v[] #v[] #v[]
  ·intro i u;rw[W] at u;rw[T i u];exact mem _ #v[]
  ·intro i u;rw[sy] at u;rw[X i u];exact mem _ #v[]
  ·intro i j u hj;rw[W] at u;rw[sy] at hj;rw[T i u,X j hj];exact D _ _ #v[] #v[] #v[]
  ·rw[W];symm
  ·rw[sy];symm
  ·intro i u;rw[W] at u;rw[T i u,X 0 #v[]];exact w2 _ #v[] #v[]
  ·intro j hj;rw[sy] at hj;rw[X j hj,W,T _ #v[],show a+k+(b-k-1)=a+b-1 by symm];exact v1 _ #v[] #v[]
 have close:∀(r:Array Keyed) (d:SortSt),SG κ a₀ p (arrOf st) d->Fin le ((arrOf st).extract (a+k) (a+b)) ((arrOf st).extract (a+b) (a+b+l)) r.toList ->
   Q Zd (setArr d (wr (arrOf d) (a+k) r.toList 0)):=λr d J F=>by
  obtain⟨R,hl⟩:=ydg (xs:=arrOf st) (s0:=a+k) (m:=a+b) (e:=a+b+l) #v[] #v[] #v[] F.p;have hg:=G_wr (a+k) r.toList 0 (arrOf st) #v[];refine fin _ J.i.kind J.i.failed J.i.pend ?_ ?_
  ·show Re (arrOf st) (wr (arrOf d) (a+k) r.toList 0) a (a+b+y);rw[J.e];exact R.mono #v[] #v[]
  ·show Srt le (wr (arrOf d) (a+k) r.toList 0) a (a+b+y);rw[J.e];have inm:∀i,a+k<=i->i<a+b+l->(∃j,a+k<=j/\j<a+b+l/\G (wr (arrOf st) (a+k) r.toList 0) i=G (arrOf st) j):=λi o x=>R.inn i o x;intro i j o x g;by_cases ci:i<a+k
   ·rw[R.out i (.inl ci)];by_cases cj:j<a+k
    ·rw[R.out j (.inl cj)];exact a3 i j o x #v[]
    ·have below:∀z,a+k<=z->z<a+b+y->le (G (arrOf st) i) (G (arrOf st) z):=λz z1 Z=>by
      by_cases c:z<a+b
      ·exact L i z o #v[] c
      ·exact O.tr (w1 i o ci) (K _ _ (Af _) #v[] Z)
     by_cases cj2:j<a+b+l
     ·obtain⟨z,z1,Z,z3⟩:=inm j #v[] cj2;rw[z3];exact below z z1 #v[]
     ·rw[R.out j (.inr #v[])];exact below j #v[] g
   ·by_cases ci2:i<a+b+l
    ·by_cases cj2:j<a+b+l
     ·rw[hg i,hg j,if_pos ⟨by symm,by symm⟩,if_pos ⟨by symm,by symm⟩,Ad #v[],Ad #v[]];exact (List.pairwise_iff_getElem.mp F.s) _ _ _ _ #v[]
     ·rw[R.out j (.inr #v[])];obtain⟨z,z1,Z,z3⟩:=inm i #v[] ci2;rw[z3];by_cases c:z<a+b
      ·exact O.tr (L z (a+b-1) #v[] #v[] #v[]) (v2 j #v[] g)
      ·exact K z j #v[] #v[] g
    ·rw[R.out i (.inr #v[]),R.out j (.inr #v[])];exact b3 i j #v[] x g
 have en:∀(r:Array Keyed) (d:SortSt),SG κ a₀ p (arrOf st) d->Fin le ((arrOf st).extract (a+k) (a+b)) ((arrOf st).extract (a+b) (a+b+l)) r.toList ->
   Q ((failedOf (setArr d (wr (arrOf d) (a+k) r.toList 0))).isNone) (setArr d (wr (arrOf d) (a+k) r.toList 0)):=λr d J F=>by
  have e:failedOf (setArr d (wr (arrOf d) (a+k) r.toList 0))=Zb:=J.i.failed;rw[e];exact close r d J F
 refine q_if (λ_=>?_) λ_=>?_
 ·exact Ap (yc4 C O H P λr d J F=>Ap (wpS_modify (Ap (Hk (Au (en r d J F))))))
 ·exact Ap (ydp C O H P λr d J F=>Ap (wpS_modify (Ap (Hk (Au (en r d J F))))))
end
end Tim
namespace Tim
section
variable {prog:Program}{w:World}{A:Around}{E:Ze->Zf->Prop}{s:Zf}{κ:SortKind}{a₀:Array Keyed}{lt:Keyed->Keyed->Bool}{bf le:Keyed->Keyed->Prop}{st:SortSt}{pd:Array (Nat × Nat × Nat)}
structure SP (κ:SortKind) (bf le:Keyed->Keyed->Prop) (a₀:Array Keyed) (lo:Nat) (st:SortSt):Prop where
 kind:kindOf st=κ
 failed:failedOf st=Zb
 perm:(arrOf st).Perm a₀
 ch:Chain bf le (arrOf st) 0 (pendingOf st).toList lo
 cut:∀c,lo<=c->Cut bf (arrOf st) c
theorem SP.si {lo:Nat}(h:SP κ bf le a₀ lo st):SI κ a₀ (pendingOf st) st:=⟨h.kind,h.failed,h.perm,rfl⟩
theorem zk3:∀{l:List (Nat×Nat×Nat)}{i c d p:Nat}{e:Array Keyed},Chain bf le e c l d->Chain bf le e c (l.modify i λx=>match x with|(a,b,_)=>(a,b,p)) d
 |[],i,c,d,p,e,h=>by cases i<;>exact h
 |(s,n,q)::r,0,c,d,p,e,h=>h
 |(s,n,q)::r,i+1,c,d,p,e,⟨f,g,j,m,k⟩=>⟨f,g,j,m,zk3 k⟩
theorem zxa {f:SortSt->SortSt}{P:SortSt->Prop}{Q:PUnit->SortSt->Prop}(b:P (f st))(h:∀a,P a->Q ⟨⟩ a):wpS (model prog w) A E s (modify f:StateT SortSt Sem PUnit) Q st:=wpS_modify (h _ b)
theorem q_sort (C:Asks prog w A E s κ a₀ lt) (O:Ord lt bf le) {Q:Unit->SortSt->Prop} (I:SI κ a₀ #[] st) (ea:arrOf st=a₀) (hb:∀c,Cut bf a₀ c)
  (h:∀F,failedOf F=Zb->(arrOf F).Perm a₀->Srt le (arrOf F) 0 a₀.size->Q () F):wpS (model prog w) A E s sortRuns' Q st:=by
 rw [sortRuns'_eq];refine Ap (Hk ?_);have sz:=I.size;rw [sz];dsimp only;have P0:SP κ bf le a₀ 0 st:=⟨I.kind,I.failed,I.perm,by rw [I.pend];rfl,λc _=>by rw [ea];exact hb c⟩;refine Ap (Dv (Cf (I:=λx c G=>∃a,c=(Zb,a)/\x<=a/\a<=a₀.size/\SP κ bf le a₀ a G)
  (Q:=λc G=>c=(Zb,a₀.size)/\SP κ bf le a₀ a₀.size G) ?os ?of ⟨0,rfl,by symm,by symm,P0⟩) ?op)
 case of =>
  rintro c G ⟨a,rfl,h1,h2,P⟩;have e:a=a₀.size:=by symm
  subst e;exact⟨rfl,P⟩
 case os =>
  rintro x c G _ hx ⟨a,rfl,h1,h2,P⟩;refine q_if (λg=>?_) λg=>?_
  ·have e:a=a₀.size:=by symm
   subst e;exact Au ⟨rfl,P⟩
  have g:a<a₀.size:=by symm
  refine Ap (z3v C O P.si (show a+(a₀.size-a)<=a₀.size by symm) #v[] P.cut λn f M n1 n2 N S3=>?_);have z3:=M.size;have z2:=P.si.size;have c3:∀c,a+n<=c->Cut bf (arrOf f) c:=λc o=>(P.cut c #v[]).re N #v[] (.inr o);dsimp only;refine q_if (λZ=>?_) λZ=>?_;refine Ap (wpS_lift (Df ⟨rfl,?_⟩));refine Ap (ycn C O M (show a+min (a₀.size-a) (minRun' a₀.size a₀.size 0)<=a₀.size by symm) #v[] n1 S3 c3 λk p J S=>?_);refine q_if (λz=>by simp at z) λ_=>?_;have X:1<=min (a₀.size-a) (minRun' a₀.size a₀.size 0):=by symm
  have W:a+min (a₀.size-a) (minRun' a₀.size a₀.size 0)<=a₀.size:=by symm
  have R:Re (arrOf G) (arrOf k) a (a+min (a₀.size-a) (minRun' a₀.size a₀.size 0)):=(N.mono (Af _) #v[]).trans J;generalize min (a₀.size-a) (minRun' a₀.size a₀.size 0)=m at p J S X W R ⊢;clear M N S3 z3 c3 J Z
  rotate_left
  have X:=n1;have W:a+n<=a₀.size:=by symm
  have R:=N;have p:=M;have S:=S3;clear M N S3 z3 c3 Z;generalize n=m at p S X W R ⊢;generalize f=k at p S R ⊢
  rotate_left
  all_goals
   have z4:=p.size;have c4:∀c,a+m<=c->Cut bf (arrOf k) c:=λc o=>(P.cut c (by symm)).re R (by symm) (.inr o);have k4:Cut bf (arrOf k) a:=(P.cut a (Af _)).re R (by symm) (.inl (Af _));have D:Chain bf le (arrOf k) 0 (pendingOf k).toList a:=by
    rw[p.pend];exact P.ch.re R #v[] (.inl (Af _))
   have K4:kindOf k=κ/\failedOf k=Zb/\(arrOf k).Perm a₀:=⟨p.kind,p.failed,p.perm⟩;clear p R;refine Ap (Hk ?_);have push:∀d,kindOf d=κ->failedOf d=Zb->(arrOf d).Perm a₀->Chain bf le (arrOf d) 0 (pendingOf d).toList a->Srt le (arrOf d) a (a+m)->Cut bf (arrOf d) a->(∀c,a+m<=c->Cut bf (arrOf d) c) ->
     SP κ bf le a₀ (a+m) (setPending d ((pendingOf d).push (a,m,0))):=λd a1 a2 a3 a4 a5 a6 a7=>by
    refine⟨a1,a2,a3,?_,a7⟩;show Chain bf le (arrOf d) 0 ((pendingOf d).push (a,m,0)).toList (a+m);rw[Dn];exact Chain.app.mpr ⟨a,a4,rfl,X,a5,a6,rfl⟩
   cases q:(pendingOf k).back? with
   | none =>
    exact Ap (zxa (P:=SP κ bf le a₀ (a+m)) (push k K4.1 K4.2.1 K4.2.2 D S k4 c4) λu P6=>Au ⟨a+m,rfl,by symm,W,P6⟩)
   | some t =>
    obtain ⟨s1,n1',p1⟩:=t;dsimp only;refine Ap (Dv (Cf (I:=λy c d=>c=(Zb,())/\(kindOf d=κ/\failedOf d=Zb/\(arrOf d).Perm a₀)/\Chain bf le (arrOf d) 0 (pendingOf d).toList a/\Srt le (arrOf d) a (a+m)/\Cut bf (arrOf d) a/\∀c,a+m<=c->Cut bf (arrOf d) c)
     (Q:=λc d=>c=(Zb,())/\(kindOf d=κ/\failedOf d=Zb/\(arrOf d).Perm a₀)/\Chain bf le (arrOf d) 0 (pendingOf d).toList a/\Srt le (arrOf d) a (a+m)/\Cut bf (arrOf d) a/\∀c,a+m<=c->Cut bf (arrOf d) c) ?ms ?mf ⟨rfl,K4,D,S,k4,c4⟩) ?mp)
    case mf =>
     intro c d z;exact z
    case mp =>
     rintro c d ⟨rfl,K,B,V,L,U⟩;dsimp only;refine Ap (zxa (P:=λu=>(kindOf u=κ/\failedOf u=Zb/\(arrOf u).Perm a₀)/\Chain bf le (arrOf u) 0 (pendingOf u).toList a/\Srt le (arrOf u) a (a+m)/\Cut bf (arrOf u) a/\∀c,a+m<=c->Cut bf (arrOf u) c) ⟨K,?_,V,L,U⟩ λu z6=>?_)
     ·show Chain bf le (arrOf d) 0 ((pendingOf d).modify _ _).toList a
      rw[Array.toList_modify];exact zk3 B
     ·refine aG λGg qG => ?_
      obtain⟨K6,H,S6,k6,c6⟩:=z6;ac_rfl;exact Ap (zxa (P:=SP κ bf le a₀ (a+m)) (push u K6.1 K6.2.1 K6.2.2 H S6 k6 c6) λs7 P7=>Au ⟨a+m,rfl,by symm,W,P7⟩)
    case ms =>
     rintro y c d _ hy ⟨rfl,K,B,V,L,U⟩;refine Ap (Hk ?_)
     try dsimp only
     by_cases g4:(pendingOf d).size > 1
     ·rw [if_pos g4]
      obtain⟨⟨t1,t2,t3⟩,et⟩ : ∃t,(pendingOf d)[(pendingOf d).size-2]?=Za t:=⟨_,getElem?_pos _ _ #v[]⟩;rw[et];dsimp only;refine q_if (λ_=>Au ⟨rfl,K,B,V,L,U⟩) λ_=>?_;refine Ap (zmm C O (i:=(pendingOf d).size-2) (lo:=a) ⟨K.1,K.2.1,K.2.2,rfl⟩ #v[] B h2 λu pd6 Y z6 H R6=>?_);have zz:=K.2.2.size_eq;refine q_if (λz=>by simp at z) λ_=>?_;refine Au ⟨rfl,⟨Y.kind,Y.failed,Y.perm⟩,by rw[Y.pend];exact H,V.re R6 (.inr (Af _)),L.re R6 #v[] (.inr (Af _)),λc o=>(U c o).re R6 #v[] (.inr #v[])⟩
     ·rw [if_neg g4]
      exact Au ⟨rfl,K,B,V,L,U⟩
 case op =>
  rintro c G ⟨rfl,P⟩;have l0:=Chain.len P.ch;rw [Bx] at l0;have one:∀f,SP κ bf le a₀ a₀.size f->(pendingOf f).size<=1->Srt le (arrOf f) 0 a₀.size:=λf r h1=>by
   have o:=r.ch;have T:(pendingOf f).toList.length<=1:=by simpa using h1
   revert o T
   generalize (pendingOf f).toList=l;intro o T
   match l,o,T with
   | [],o,_ =>
    have:0=a₀.size:=o;intro i j g1 Z g3;symm
   | [(s0,n,q)],⟨b1,b2,b3,b4,b5⟩,_ =>
    have:0+n=a₀.size:=b5;rw[<-this];exact b3
   |_::_::_,_,T=>simp at T
  refine Ap (Dv (Cf (I:=λy c f=>c=(Zb,())/\SP κ bf le a₀ a₀.size f/\((pendingOf f).size<=1\/(pendingOf f).size+y<=a₀.size)) (Q:=λc f=>c=(Zb,())/\SP κ bf le a₀ a₀.size f/\(pendingOf f).size<=1) ?fs ?ff ⟨rfl,P,.inr #v[]⟩) ?fp)
  case ff =>
   rintro c f ⟨o,r,z⟩;exact⟨o,r,by symm⟩
  case fp =>
   rintro c f ⟨rfl,r,z⟩;exact Au (h f r.failed r.perm (one f r z))
  case fs =>
   rintro y c f _ hy ⟨rfl,r,z⟩;refine Ap (Hk ?_);refine q_if (λg=>Au ⟨rfl,r,g⟩) λg=>?_;have zz:=r.perm.size_eq;have go:∀i,i+1<(pendingOf f).size->wpS (model prog w) A E s (mergeAt' i) (λb k=>b=Zd/\SP κ bf le a₀ a₀.size k/\((pendingOf k).size<=1\/(pendingOf k).size+(y+1)<=a₀.size)) f:=λi hi =>
    zmm C O (lo:=a₀.size) r.si hi r.ch (Af _) λk pd4 p z4 D J=>⟨rfl,⟨p.kind,p.failed,p.perm,by rw[p.pend];exact D,λc o=>(r.cut c o).re J #v[] (.inr o)⟩,by rw[p.pend];symm⟩
   refine Ap (Dv (go _ (by
    have g' : ¬ (pendingOf f).size<=1:=g;generalize (if (pendingOf f).size-2 > 0 then Option.map (λx=>x.snd.fst) (pendingOf f)[(pendingOf f).size-2-1]? else Zb)=bf9
    try dsimp only
    split<;>symm)) λb k z4=>?_)
   obtain⟨rfl,P4,z5⟩:=z4;refine q_if (λz=>by simp at z) λ_=>?_;exact Au ⟨rfl,P4,z5⟩
end
end Tim
end L2
namespace L2
open PySem PySem.Spec PyProof.Rows
open PySem.AutoSeq1 (wpAny_loadPart')
open PySem.SeqAt
abbrev lexI:List Int->List Int->Bool
 |[],[]=>Zc
 |[],_::_=>Zd
 |_::_,[]=>Zc
 |a::c,b::bs=>if a=b then lexI c bs else decide (a<b)
theorem zdo:∀x,lexI x x=Zc
 |[]=>rfl
 |a::b=>by unfold lexI;rw[if_pos rfl];exact zdo b
theorem zfe:∀{x y z:List Int},lexI x y=Zd->lexI y z=Zd->lexI x z=Zd
 |[],[],_,h,_=>by cases h
 |[],_::_,[],_,h=>by cases h
 |[],_::_,_::_,_,_=>rfl
 |_::_,[],_,h,_=>by cases h
 |_::_,_::_,[],_,h=>by cases h
 | a::j,b::bs,c::i,e,d=>by
  unfold lexI at e d ⊢;by_cases g:a=b
  ·subst g
   rw[if_pos rfl] at e;by_cases f:a=c
   ·rw[if_pos f] at d ⊢;exact zfe e d
   ·rw[if_neg f] at d ⊢;exact d
  ·rw [if_neg g] at e
   have l:=Ar e;by_cases f:b=c
   ·subst f;rw[if_neg g];exact e
   ·rw [if_neg f] at d
    have k:=Ar d;rw[if_neg #v[]];exact Aj #v[]
theorem zi8:∀{x y:List Int},lexI x y=Zc->lexI y x=Zc->x=y
 |[],[],_,_=>rfl
 |[],_::_,h,_=>by cases h
 |_::_,[],_,h=>by cases h
 | a::f,b::bs,d,c=>by
  unfold lexI at d c;by_cases e:a=b
  ·subst e
   rw[if_pos rfl] at d c;rw[zi8 d c]
  ·rw [if_neg e] at d
   rw[if_neg (λz=>e z.symm)] at c;have:=of_decide_eq_false d;have:=of_decide_eq_false c;symm
theorem zrn (l b:Zh) (e i:Array Ze) (n P:Nat) (dd E:Option Zh) (L D:Array (Option Ze)) (ns z:List Int) (I:IntsAre e.toList ns) (G:IntsAre i.toList z) :
  Meets (Builtin.«tuple.__lt__» ⟨[.ref l,.ref b],[]⟩)
   (λA R s=>s.heap.get? l=Za { cls:=.type "tuple",dict:=dd,data:=.seq e n,slots:=L }/\s.heap.get? b=Za { cls:=.type "tuple",dict:=E,data:=.seq i P,slots:=D } /\
    R (.ok (.ret (.bool (lexI ns z)))) s) :=
 .of_wp λprog w A R s h=>by
  obtain⟨J,g,d,H,K⟩:=s;obtain⟨O,N,h⟩:=h;have S:=AutoSeq1.sub_tuple_tuple;have Q:e.size=ns.length:=by have:=I.length;simpa using this
  have M:i.size=z.length:=by have:=G.length;simpa using this
  wp_walk using Cv O,Cv N,wpAny_forIn_list _ (λrest b F=>b.1=Zb/\F=⟨J,g,d,H,K⟩/\∃C B f m,rest=List.zip C B/\IntsAre C f/\IntsAre B m/\ns.length+m.length=f.length+z.length /\
   R (.ok (.ret (.bool (lexI f m)))) ⟨J,g,d,H,K⟩) _
  case turn =>
   rintro ⟨y,x⟩ rest b F ⟨p,rfl,C,B,f,m,r,v,k,j,o⟩;cases v with
   |nil=>simp at r
   | cons a t v =>
    cases k with
    |nil=>simp at r
    | cons c u k =>
     rw[List.zip_cons_cons] at r;injection r with hyx hrest;cases hyx;unfold lexI at o;refine Aa (wpAny_eqBool_int ?_);by_cases q:a=c
     ·rw [if_pos q] at o
      have:(a==c)=Zd:=by simpa using q
      rw[this]
      wp_walk
      exact⟨rfl,rfl,_,_,_,_,hrest,v,k,by simp at j;symm,o⟩
     ·rw [if_neg q] at o
      have:(a==c)=Zc:=by simpa using q
      rw[this];simp only [Bool.not_false,Fm];refine Aa (Df ?_);refine Aa (show wpAny _ _ (compareOp .Lt _ _) _ _ _ from PyProof.Rows.lt_int ?_)
      wp_walk
      exact⟨_,rfl,by simpa using o⟩
  case fin =>
   rintro ⟨T,U⟩ F ⟨p,rfl,C,B,f,m,r,v,k,j,o⟩;simp only at p;subst p
   wp_walk
   refine ⟨_,rfl,?_⟩;have:lexI f m=decide (e.size<i.size):=by
    rw[Q,M];cases v with
    | nil =>
     cases k with
     |nil=>unfold lexI;apply Eq.symm;apply Aw;simp at j;symm
     |cons c u k=>unfold lexI;apply Eq.symm;apply Aj;simp at j;symm
    | cons a t v =>
     cases k with
     |nil=>unfold lexI;apply Eq.symm;apply Aw;simp at j;symm
     |cons c u k=>simp at r
   rw[this] at o;simpa [Builtin.Tuple.tupleCompareSizes] using o
  case h =>
   exact⟨rfl,rfl,e.toList,i.toList,ns,z,rfl,I,G,by symm,by simpa using h⟩
theorem zou {xs ys z:List Int} (h:lexI xs z=Zd):lexI xs ys=Zd\/lexI ys z=Zd:=by
 cases q:lexI xs ys with
 |true=>exact .inl rfl
 | false =>
  cases q2:lexI ys xs with
  |true=>exact .inr (zfe q2 h)
  |false=>rw[zi8 q q2] at h;exact .inr h
theorem z41 (kf:Ze->List Int):Tim.Ord (λx y:Keyed=>lexI (kf x.1) (kf y.1)) (λ_ _=>True) (λx y=>lexI (kf y.1) (kf x.1)=Zc) where
 tr:=λ{x y z} c b=>by
  cases q:lexI (kf z.1) (kf x.1) with
  |false=>rfl
  | true =>
   rcases zou (ys:=kf y.1) q with a|a
   ·rw[b] at a;cases a
   ·rw[c] at a;cases a
 tot:=λx y=>by
  cases q:lexI (kf y.1) (kf x.1) with
  |false=>exact .inl rfl
  | true =>
   right
   cases q2:lexI (kf x.1) (kf y.1) with
   |false=>rfl
   | true =>
    have:=zfe q q2;rw[zdo] at this;cases this
 f1:=λ_=>Iff.rfl
 f2:=λ{x y} h=>by
  cases q2:lexI (kf y.1) (kf x.1) with
  |false=>rfl
  | true =>
   have:=zfe h q2;rw[zdo] at this;cases this
 irr:=λx=>zdo _
 ltr:=λc b=>zfe c b
 nt:=λy h=>zou h
section
variable {prog:Program}{w:World}{A:Around}{E:Ze->Zf->Prop}{s:Zf}{a₀:Array Keyed}
theorem zvl {κ:SortKind}{lt:Keyed->Keyed->Bool}(h:∀(x y:Keyed) (E:Ze->Zf->Prop) (Q:Bool->Zf->Prop),x∈a₀.toList->y∈a₀.toList->Q (lt x y) s->wpAny (model prog w) A (keyLt' κ x.1 y.1) Q E s):Tim.Asks prog w A E s κ a₀ lt:=λx y e Q c a d b=>by
 rw[lt'_eq];refine Ap (Hk ?_);rw[d];refine Ap (wpS_lift (Hj (h x y _ _ c a ⟨rfl,?_⟩)));exact Au b
theorem zyu {kf:Ze->List Int}(h:∀x∈a₀.toList,∃n t,x.1=.int n t/\kf x.1=[n]):Tim.Asks prog w A E s oneType' a₀ (λx y=>lexI (kf x.1) (kf y.1)):=zvl λx y E Q g c d=>by
 nofun;obtain⟨n,t,b,a⟩:=h x g;obtain⟨m,u,i,f⟩:=h y c;ac_rfl;rw[keyLt'_oneType,b,i];refine oneLt_int ?_;have e:lexI (kf x.1) (kf y.1)=decide (n<m):=by
  rw[a,f];unfold lexI;by_cases q:n=m
  ·rw[if_pos q];subst q;simp [lexI]
  ·rw[if_neg q]
 rw[<-e];exact d
theorem eqv_ints:∀n m:List Int,PyData.eqvAll (n.map .int) (m.map .int)=decide (n=m)
 |[],[]=>by simp [PyData.eqvAll]
 |[],_::_=>by simp [PyData.eqvAll]
 |_::_,[]=>by simp [PyData.eqvAll]
 | a::n,b::m=>by
  rw[Av,Av,PyData.eqvAll,eqv_ints n m,PyData.eqv];by_cases h:a=b
  ·simp [h]
  ·simp [h]
theorem zer {h:Heap}:∀{i:List Ze}{a:List Int},IntsAre i a->ReadsAll h i (a.map .int) []
 |_,_,.nil=>.nil
 |_,_,.cons n t r=>.cons (.int n t) (zer r)
theorem zmy {h:Heap}{b:Zh}{i:List Ze}{ns:List Int}(q:IsTup h b i.toArray)(r:IntsAre i ns):Reads h (.ref b) (.tuple (ns.map .int)) []:=by
 obtain⟨o,g,c,n,a⟩:=id q;exact .tuple g c a (by simpa using zer r)
theorem zq1 (ns:List Int):PyData.canLay0 (.tuple (ns.map .int))=Zd:=by
 rw[PyData.canLay0];exact canLayAll_ints ns
theorem depth_ints (ns:List Int):PyData.depth (.tuple (ns.map .int))<=1:=by
 rw[PyData.depth,depthAll_ints]
 decide
theorem z09 {b a:Zh}{i its':List Ze}{ns n:List Int}{Q:Bool->Zf->Prop} (f:A.units+1<cLine) (c:IsTup s.heap b i.toArray) (q:IntsAre i ns) (d:IsTup s.heap a its'.toArray) (p:IntsAre its' n) (h:Q (decide (ns=n)) s) :
  wpAny (model prog w) A (eqBool (.ref b) (.ref a)) Q E s:=by
 refine PySem.SeqAt.eqBoolOverData prog w A E s _ _ _ _ [] [] Q (zmy c q) (zmy d p) (zq1 ns) (zq1 n) ?_ ?_
 ·have:=depth_ints ns;symm
 ·have e:PyData.eqv (.tuple (ns.map .int)) (.tuple (n.map .int))=decide (ns=n):=by rw[PyData.eqv];exact eqv_ints ns n
  rw[e];exact h
theorem zyp {b j:Zh}{i its':List Ze}{ns a:List Int}{Q:Ze->Zf->Prop} (z:A.units<cLine) (B:IsTup s.heap b i.toArray) (r:IntsAre i ns) (u:IsTup s.heap j its'.toArray) (y:IntsAre its' a) (h:Q (.bool (lexI ns a)) s) :
  wpAny (model prog w) A (compareOp .Lt (.ref b) (.ref j)) Q E s:=by
 nofun;obtain⟨⟨cls,v,data,q⟩,p,m,n,o⟩:=id B;obtain⟨⟨l,k,f,g⟩,d,c,t,e⟩:=id u;ac_rfl;simp only at m o c e;subst m o c e;exact richCompare_meets_room (op:=.Lt) ⟨_,p,rfl⟩ ⟨_,d,rfl⟩ F.slot_tuple_lt F.entry_tuple_lt (F.args_tuple_lt_2 _ _) (zrn b j i.toArray its'.toArray n t v k q g ns a (by simpa using r) (by simpa using y))
  ⟨p,d,show Ze.bool (lexI ns a)≠Ze.notImplemented/\Q (.bool (lexI ns a)) s from ⟨(λx=>nomatch x),h⟩⟩ z
structure KeyT (h:Heap) (v:Ze) (k:List Int):Prop where
 ex:∃(a b:Zh) (i:Int) (t:Tok) (ns:List Int) (its:List Ze) (c:Ze),v=.ref a/\k=i::ns/\IsTup h a [.int i t,c].toArray/\c=.ref b/\IsTup h b its.toArray/\IntsAre its ns
theorem z1s {kf:Ze->List Int}(U:A.units+2<cLine)(h:∀x∈a₀.toList,KeyT s.heap x.1 (kf x.1)):Tim.Asks prog w A E s (tuples' Zd) a₀ (λx y=>lexI (kf x.1) (kf y.1)):=zvl λx y E Q H C d=>by
 nofun;obtain⟨a,b,i,t,B,L,c,K,m,G,rfl,l,q⟩:=(h x H).ex;obtain⟨S,P,e,O,j,its',W,D,u,M,rfl,p,k⟩:=(h y C).ex;ac_rfl;rw[m,u] at d;rw[K,D];nofun;obtain⟨o,F,V,n,r⟩:=id G;obtain⟨T,I,R,N,J⟩:=id M;ac_rfl;refine PySem.W.kat_lt F r I J ?_;refine PySem.W.kat_cons (wpAny_eqBool_int ?_);unfold lexI at d;by_cases z:i=e
 ·have g:(i==e)=Zd:=by simpa using z
  rw[g];rw[if_pos z] at d;refine PySem.W.kat_yes (PySem.W.kat_cons (z09 #v[] l q p k ?_));by_cases f:B=j
  ·rw[Aj f];refine PySem.W.kat_yes (PySem.W.kat_nil ?_);subst f;rw[zdo] at d;exact d
  ·rw[Aw f];refine PySem.W.kat_no ?_;exact PySem.W.kat_one _ _ (zyp #v[] l q p k d)
 ·have g:(i==e)=Zc:=by simpa using z
  rw[g];rw[if_neg z] at d;refine PySem.W.kat_no ?_;exact oneLt_int d
end
end L2
namespace L2
open PySem PySem.Spec PyProof.Rows
section
variable {prog:Program}{w:World}{A:Around}{E:Ze->Zf->Prop}{s:Zf}{a kS:Zh}{e e1:Nat}{keys:Array Ze}{vs:List Ze}{P:PySem.Fin->Zf->Prop}
theorem zyn {st:SortSt} (q:s.heap.get? kS=Za (seqObj "list" keys e)) (m:s.heap.get? a=Za #v[8,15]) (d:kS≠a) (r:keys.size<=sizeLine) (i:(arrOf st).size<=sizeLine) (j:failedOf st=Zb)
  (h:∀f c,f.get? a=Za (seqObj "list" ((arrOf st).map (·.2)) c)->(∀b o,b≠a->b≠kS->s.heap.get? b=Za o->f.get? b=Za o)->P (.done (.ret .none)) { s with heap:=f }):wpAny (model prog w) A (ksk_tail a Zc e1 (.ref kS) st) P E s:=by
 have g:=Du s.heap kS #v[5,11];have n:(s.heap.update kS #v[5,11]).get? a=Za #v[8,15]:=(g.2 a d.symm).trans m;have l:=Du (s.heap.update kS #v[5,11]) a (Obj.mapSeq λ_=>(arrOf st).map (·.2));unfold ksk_tail
 try dsimp only
 refine Aa (listUpdate_at q rfl ?_ r (Cc _));refine Aa (Ga ?_);refine Aa (seqEpoch_at n rfl ?_);refine Aa (listUpdate_at n rfl ?_ (Cc _) (by simp only [Dh,Gd,Array.size_map];symm));rw[j];simp only [bne_self_eq_false,Dh,Gd];refine Ak (h _ _ (get?_update_seq n λ_=>(arrOf st).map (·.2)) λb o k p t=>?_);exact (l.2 b k).trans ((g.2 b p).trans t)
theorem z6n {κ:SortKind}{kf:Ze->List Int}{bf le:Keyed->Keyed->Prop} (O:Tim.Ord (λx y:Keyed=>lexI (kf x.1) (kf y.1)) bf le) (u:∀c,Tim.Cut bf (keys.zip vs.toArray) c) (F:s.heap.get? kS=Za (seqObj "list" keys e)) (D:s.heap.get? a=Za #v[8,15]) (p:kS≠a) (z:keys.size=vs.length) (G:vs.length<=sizeLine)
  (L:2<=vs.length->∀t:SortKind->Zf->Prop,t κ s->wpAny (model prog w) A (keyKind' keys) t E s)
  (C:Tim.Asks prog w A E s κ (keys.zip vs.toArray) (λx y=>lexI (kf x.1) (kf y.1)))
  (h:∀(r:List Keyed) l c,r.Perm (keys.toList.zip vs)->r.Pairwise le->l.get? a=Za (seqObj "list" (r.map (·.2)).toArray c)->(∀b o,b≠a->b≠kS->s.heap.get? b=Za o->l.get? b=Za o)->P (.done (.ret .none)) { s with heap:=l }) :
  wpAny (model prog w) A (ksk_end a Zc vs.toArray e1 (.ref kS) keys) P E s:=by
 have m:(keys.zip vs.toArray).size=vs.length:=by rw[Array.size_zip,z,An,Nat.min_self]
 have fin:∀f:SortSt,(arrOf f).Perm (keys.zip vs.toArray)->failedOf f=Zb->Tim.Srt le (arrOf f) 0 (keys.zip vs.toArray).size->wpAny (model prog w) A (ksk_tail a Zc e1 (.ref kS) f) P E s:=λf k q n=>by
  refine zyn F D p #v[] (by rw[k.size_eq,m];exact G) q λl c B I=>?_;refine h (arrOf f).toList l c ?_ (Tim.srt_list (by rw[k.size_eq];exact n)) (by rw[B,<-Array.toList_map,Array.toArray_toList]) I;rw[<-ksk_zip];exact Gw.mp k
 unfold ksk_end
 try dsimp only
 simp only [Dh,Gd];by_cases g:vs.toArray.size<2
 ·rw[if_pos g,if_pos g];refine Aa (Ak ?_);rw[StateT.run_pure];refine Aa (Ak ?_)
  try dsimp only
  refine fin (SortSt.mk' general' (keys.zip vs.toArray) #[] 7 Zb) (Array.Perm.refl _) rfl λi j _ M N=>?_;rw[An] at g;symm
 ·rw [if_neg g,if_neg g];rw [An] at g;refine Aa (L (by symm) _ ?_);refine Aa (Bw (Tim.q_sort (bf:=bf) (st:=SortSt.mk' κ (keys.zip vs.toArray) #[] 7 Zb) (Q:=λ_ d=>(arrOf d).Perm (keys.zip vs.toArray)/\failedOf d=Zb/\Tim.Srt le (arrOf d) 0 (keys.zip vs.toArray).size)
   C O ⟨rfl,rfl,Array.Perm.refl _,rfl⟩ rfl u λd J K H=>⟨K,J,H⟩) ?_ λ_ _ e=>e)
  rintro ⟨⟨⟩,d⟩ R ⟨rfl,k,q,n⟩
  try dsimp only
  exact fin d k q n
end
noncomputable abbrev KP:=List Int×W
abbrev insK (x:KP):List KP->List KP
 |[]=>[x]
 |y::a=>if lexI x.1 y.1 then x::y::a else y::insK x a
abbrev zlh:List KP->List KP
 |[]=>[]
 |x::a=>insK x (zlh a)
theorem zha (x:KP):∀l,(insK x l).Perm (x::l)
 |[]=>.refl _
 | y::a=>by
  unfold insK;split
  ·exact .refl _
  ·exact ((zha x a).cons y).trans (.swap x y a)
theorem zfi:∀l:List KP,(zlh l).Perm l
 |[]=>.refl _
 |x::a=>(zha x _).trans ((zfi a).cons x)
noncomputable abbrev leK (x y:KP):Prop:=lexI y.1 x.1=Zc
theorem z9n {x y z:KP} (b:leK x y) (h:leK y z):leK x z:=by
 unfold leK at *
 cases q:lexI z.1 x.1 with
 |false=>rfl
 | true =>
  rcases zou (ys:=y.1) q with a|a
  ·rw[h] at a;cases a
  ·rw[b] at a;cases a
theorem zmg {x y:KP} (h:lexI x.1 y.1=Zd):leK x y:=by
 unfold leK;cases q:lexI y.1 x.1 with
 |false=>rfl
 | true =>
  have:=zfe h q;rw[zdo] at this;cases this
theorem zgc {x:KP}:∀{l:List KP},l.Pairwise leK->(insK x l).Pairwise leK
 |[],_=>List.pairwise_singleton _ _
 | y::c,h=>by
  have b:=Cr.mp h;unfold insK;split
  ·rename_i q
   refine Cr.mpr ⟨λz a=>?_,h⟩;rcases Am.mp a with rfl|a
   ·exact zmg q
   ·exact z9n (zmg q) (b.1 z a)
  ·rename_i q
   refine Cr.mpr ⟨λz a=>?_,zgc b.2⟩;rcases Am.mp ((zha x c).mem_iff.mp a) with rfl|a
   ·unfold leK;simpa using q
   ·exact b.1 z a
theorem zde:∀l:List KP,(zlh l).Pairwise leK
 |[]=>.nil
 |x::a=>zgc (zde a)
theorem zfc:∀{l a:List KP},l.Perm a->l.Pairwise leK->a.Pairwise leK->(∀x∈l,∀y∈l,x.1=y.1->x=y)->l=a
 |[],a,p,_,_,_=>p.nil_eq
 |x::k,[],p,_,_,_=>by simpa using p.length_eq
 | x::k,y::o,p,r,n,i=>by
  have f:=Cr.mp r;have j:=Cr.mp n;have g:y∈x::k:=p.mem_iff.mpr At;have s:x∈y::o:=p.mem_iff.mp At;have b:x=y:=by
   rcases Am.mp g with e|h
   ·exact e.symm
   ·rcases Am.mp s with e | d
    ·exact e
    ·exact i x At y g (zi8 (show lexI x.1 y.1=Zc from j.1 x d) (show lexI y.1 x.1=Zc from f.1 y h))
  subst b;have m:=(List.perm_cons x).mp p;rw[zfc m f.2 j.2 λu c v q=>i u (Ag _ c) v (Ag _ q)]
inductive All2 {α β:Type} (R:α->β->Prop):List α->List β->Prop where
 |nil:All2 R [] []
 |cons {a b as bs} (h:R a b) (t:All2 R as bs):All2 R (a::as) (b::bs)
theorem All2.perm {α β:Type}{R:α->β->Prop}{bs b:List β} (p:bs.Perm b):∀{c:List α},All2 R c bs->∃a,c.Perm a/\All2 R a b:=by
 induction p with
 |nil=>exact λh=>⟨_,.refl _,h⟩
 | cons x p m =>
  intro c h;cases h with
  | cons h t =>
   obtain⟨a,q,g⟩:=m t;exact⟨_,q.cons _,.cons h g⟩
 | swap x y l =>
  intro c h;cases h with
  | cons f t =>
   cases t with
   |cons e t=>exact⟨_,.swap _ _ _,.cons e (.cons f t)⟩
 | trans n o i j =>
  intro c h;obtain⟨k,q,f⟩:=i h;obtain⟨d,g,e⟩:=j f;exact⟨d,q.trans g,e⟩
theorem All2.pair {α β:Type}{R:α->β->Prop}{P:α->α->Prop}{Q:β->β->Prop} (e:∀a b f c,R a b->R f c->Q b c->P a f):∀{d:List α}{bs:List β},All2 R d bs->bs.Pairwise Q->d.Pairwise P
 |_,_,.nil,_=>.nil
 | _,_,.cons h t,k=>by
  have j:=Cr.mp k;refine Cr.mpr ⟨λf i=>?_,All2.pair e t j.2⟩;have:∀{d:List α}{bs:List β},All2 R d bs->f∈d->∃c,c∈bs/\R f c:=by
   intro d bs h
   induction h with
   |nil=>intro z;cases z
   | cons h t n =>
    intro z;rcases Am.mp z with rfl|z
    ·exact⟨_,At,h⟩
    ·obtain ⟨c, q,m⟩:=n z
     exact⟨c,Ag _ q,m⟩
  obtain⟨c,g,l⟩:=this t i;exact e _ _ _ _ h l (j.1 c g)
abbrev zo4:List W->Option (List Int)
 |[]=>Za []
 |.int i::w=>(zo4 w).bind λa=>Za (i::a)
 |_=>Zb
abbrev kI:W->Option (List Int)
 |.int i=>Za [i]
 |_=>Zb
abbrev kT:W->Option (List Int)
 |.tup [.int i,.tup x]=>(zo4 x).bind λa=>Za (i::a)
 |_=>Zb
abbrev mapO {α β:Type} (f:α->Option β):List α->Option (List β)
 |[]=>Za []
 |a::c=>(f a).bind λb=>(mapO f c).bind λbs=>Za (b::bs)
abbrev zcb:List (List Int)->Bool
 |[]=>Zd
 |x::a=>a.all (λy=>decide (x≠y))&&zcb a
theorem zgt:∀{l:List (List Int)},zcb l=Zd->l.Nodup
 |[],_=>List.nodup_nil
 | x::a,h=>by
  unfold zcb at h;rw[Ae] at h;refine By.mpr ⟨λz=>?_,zgt h.2⟩;have:=Bd.mp h.1 x z;simp at this
abbrev zlt (a ws:List W):Option (List W):=((mapO kI a).orElse λ_=>mapO kT a).bind λk=>if zcb k&&decide (k.length=ws.length) then Za ((zlh (k.zip ws)).map (·.2)) else Zb
abbrev Cx.inn (X:Cx):Cx:={ X with A:=X.A.in1.in1 }
section
variable {X:Cx}{pins:List (Zh × Obj)}{σ:St}{H:Hp}{s:Zf}
theorem Cx.Ok.inn (o:X.Ok):X.inn.Ok:=⟨o.mod,o.kind,o.glob,o.blt,o.above,o.inj,o.has,o.cab,o.hd,o.frames,o.stk,o.exf,o.bs,o.bsz,o.noex,o.exfs,o.funs,o.frf⟩
theorem Cx.Ok.out (o:X.inn.Ok):X.Ok:=⟨o.mod,o.kind,o.glob,o.blt,o.above,o.inj,o.has,o.cab,o.hd,o.frames,o.stk,o.exf,o.bs,o.bsz,o.noex,o.exfs,o.funs,o.frf⟩
theorem Inv.inn (I:Inv X pins σ H s):Inv X.inn pins σ H s:=⟨I.ok.inn,I.os,I.bare,I.base,I.loc,I.cell,I.free,I.freeC,I.pin,I.hok,I.len⟩
theorem Inv.out (I:Inv X.inn pins σ H s):Inv X pins σ H s:=⟨I.ok.out,I.os,I.bare,I.base,I.loc,I.cell,I.free,I.freeC,I.pin,I.hok,I.len⟩
theorem Inv.adopt {h':Heap}{t':Nat}{ch:List Zh}{T:Zh}{o:HO} (I:Inv X pins σ H s) (k:∀b o,b ∉ ch->s.heap.get? b=Za o->h'.get? b=Za o) (h:∀b∈ch,FpOk X pins H b) (i:T∈ch)
  (new:zbr X.prog X.w (upd H T o) h' T o):Inv X pins σ (upd H T o) { s with heap:=h',toks:=t' }:=by
 have f:H T=Zb:=(h T i).1;have g:∀b u,H b=Za u->b ∉ ch:=λb u e a=>by rw[(h b a).1] at e;exists e
 refine I.step (g':=s.gens) (d':=s.drawn) (ch:=ch) (λb a=>⟨(h b a).2.2.2.1,(h b a).2.1,(h b a).2.2.2.2.1,(h b a).2.2.2.2.2⟩) (λb o _ _ d e _=>k b o d e) (λb o _ _ d e _=>⟨o.slots,k b o d e⟩) (λb u d e n=>by rw[upd_ne (λz=>d (by rw[z];exact i))];exact n)
  (λb u d e=>⟨u,k b u d e⟩) (λb x e=>by rw[upd_ne (zae e f)];exact e) (λb u x e=>by rw[upd_ne (zae e f)];exact e) (λb w e=>⟨#[],by rw[upd_ne (zae e f),e];simp⟩) (λm p=>?_) (λb u e=>?_) I.bare
 ·obtain⟨o,l,t,j,r⟩:=p;exact⟨o,l,t,k _ o (λz=>(h _ z).2.1 rfl) j,r⟩
 ·by_cases a:b=T
  ·subst a;rw[upd_same] at e;ext e;exact new
  ·rw[upd_ne a] at e;refine (I.hok b u e).stay (λc v d q=>k c v ?_ q) (λc q=>by rw[upd_ne (zae q f)];exact q) λc x q=>by rw[upd_ne (zae q f)];exact q
   rcases d with z|z
   ·rw[z];exact g b u e
   ·exact g c _ z
structure KCall (X:Cx) (f:Ze) (Φ:W->Option W) (Al:List (Zh×Obj)->Hp->Prop):Prop where
 mono:∀{pins pins':List (Zh×Obj)}{F F':Hp},Al pins F->(∀p∈pins,p∈pins')->Same F F'->Al pins' F'
 run:∀(pins:List (Zh×Obj)) (s:Zf) (σ:St) (H F:Hp) (pr:Prt) (en:En) (w k:W) (v:V) (u:Ze),Al pins F->Inv X pins σ H s->Rel X.K F pr en σ H->Rep X.K F w v->RelV v u->Φ w=Za k ->
  wpAny #v[2,7] X.A (call f [u]) (λu' s'=>∃v' F' H',Inv X pins σ H' s'/\Same F F'/\Rel X.K F' pr en σ H'/\RelV v' u'/\Rep X.K F' k v') (λ_ _=>False) s
structure Apart (X:Cx) (pins:List (Zh×Obj)) (b:Zh):Prop where
 l:b≠X.env.locals
 f:b ∉ X.fs
 x:b∈X.ex\/X.s₀.heap.objs.size<=b
 c:∀x c,X.env.cells.lookup x=Za c->c≠b
 p:∀p∈X.pn++pins,p.1≠b
theorem Apart.fp {b:Zh}(a:Apart X pins b)(h:H b=Zb):FpOk X pins H b:=⟨h,a.l,a.f,a.x,a.c,a.p⟩
theorem FpOk.apart {b:Zh}(h:FpOk X pins H b):Apart X pins b:=⟨h.2.1,h.2.2.1,h.2.2.2.1,h.2.2.2.2.1,h.2.2.2.2.2⟩
theorem zf6 {α β:Type}{f:α->Option β}:∀{d:List α}{bs:List β}{i:Nat}{a:α},mapO f d=Za bs->d[i]?=Za a->∃b,f a=Za b/\bs[i]?=Za b
 |[],_,_,_,_,h=>by simp at h
 | x::m,bs,i,a,e,h=>by
  obtain⟨b,l,e⟩:=bS e;obtain⟨g,j,e⟩:=bS e;ext e;cases i with
  |zero=>simp at h;subst h;exact⟨b,l,rfl⟩
  | succ i =>
   obtain⟨c,q,k⟩:=zf6 (i:=i) j (by simpa using h);exact⟨c,q,by simpa using k⟩
theorem zf5 {α β:Type}{f:α->Option β}:∀{a:List α}{bs:List β},mapO f a=Za bs->bs.length=a.length
 |[],_,e=>by ext e;rfl
 | x::d,bs,e=>by
  obtain⟨b,g,e⟩:=bS e;obtain⟨c,h,e⟩:=bS e;ext e;exact congrArg (· + 1) (zf5 h)
theorem z1e {f:Ze}{Φ:W->Option W}{Al:List (Zh×Obj)->Hp->Prop} (Z:KCall X f Φ Al) {F:Hp}{pr:Prt}{en:En}{a kS:Zh}{e1:Nat}{vs:List Ze}{A:List V}{ws t:List W}{P:PySem.Fin->Zf->Prop}{E:Ze->Zf->Prop}
  (I:Inv X ((kS,seqObj "list" #[] 0)::(a,seqObj "list" #[] e1)::pins) σ H s) (al:Al pins F) (R:Rel X.K F pr en σ H) (rv:Vals A vs) (B:Reps X.K F ws A) (Y:mapO Φ ws=Za t) (hz:vs.length<=sizeLine)
  (l:Apart X ((a,seqObj "list" #[] e1)::pins) kS)
  (fin:∀g d c keys e kvs,Inv X ((kS,seqObj "list" keys e)::(a,seqObj "list" #[] e1)::pins) σ d g->Same F c->Rel X.K c pr en σ d->Vals kvs keys.toList->Reps X.K c t kvs->wpAny #v[2,7] X.A (ksk_end a Zc vs.toArray e1 (.ref kS) keys) P E g) :
  wpAny #v[2,7] X.A (ksk_rest a f Zc vs.toArray e1 (.ref kS)) P E s:=by
 have lw:ws.length=vs.length:=by rw[B.length,rv.length]
 have lk:t.length=vs.length:=by rw[zf5 Y,lw]
 unfold ksk_rest;refine Aa (Df ?_);rw[List.forIn_toArray];refine Aa (ksk_fold (λi g=>∃d c keys e kvs,Inv X ((kS,seqObj "list" keys e)::(a,seqObj "list" #[] e1)::pins) σ d g/\Same F c/\Rel X.K c pr en σ d/\Vals kvs keys.toList/\Reps X.K c (t.take i) kvs) vs 0 s
  ⟨H,F,#[],0,[],I,.refl F,R,.nil,.nil⟩ ?step ?done)
 case step =>
  rintro j x g hx ⟨d,c,keys,e,kvs,D,q,O,C,r⟩;simp only [Cn] at r ⊢;have hj:j<vs.length:=(Ah.mp hx).1;obtain⟨w,hw⟩ : ∃w,ws[j]?=Za w:=⟨_,Ad #v[]⟩;nofun;obtain⟨k,K,S⟩:=zf6 Y hw;obtain⟨v,hv,T⟩:=B.get hw;obtain⟨u,hu,ru⟩:=rv.get hv;ac_rfl;rw[hx] at hu;ext hu;have zk:keys.size<=vs.length:=by
   have a1:kvs.length=keys.size:=C.length.trans Bx;have a2:min j t.length=kvs.length:=by rw[<-Dr];exact r.length
   symm
  refine Aa (Hj (Bw (Z.run _ g σ d c pr en w k v x (Z.mono al (λp h=>Ag _ (Ag _ h)) q) D O (T.mono q) ru K) (λm n he=>?_) λ_ _ hF=>hF.elim));nofun;obtain⟨v',F2,Q,N,y,R2,L,U⟩:=he;obtain⟨G,g2,_,_,_⟩:=N.pin (kS,seqObj "list" keys e) (Ay _ At);ac_rfl
  try dsimp only
  refine Aa (listUpdate_at G rfl ?_ #v[] (Ci (Nat.le_of_eq (Array.size_push ..)) #v[]));have sb:=Du n.heap kS (Obj.mapSeq (·.push m));obtain⟨J,M⟩ : ∃J,(n.heap.update kS (Obj.mapSeq (·.push m))).get? kS=Za (seqObj "list" (keys.push m) J):=⟨_,get?_update_seq G (·.push m)⟩;have I3:Inv X ((a,seqObj "list" #[] e1)::pins) σ Q n:=N.pins_of λp h=>N.pin p (Ay _ (Ag _ h));have I4:Inv X ((a,seqObj "list" #[] e1)::pins) σ Q { n with heap:=n.heap.update kS (Obj.mapSeq (·.push m)) }:=I3.turned (t':=n.toks) (it:=kS) (λb o hb eb=>(sb.2 b hb).trans eb) g2 l.l l.x l.c l.p;refine Ak ⟨rfl,Q,F2,keys.push m,J,kvs++[v'],?_,q.trans y,R2,?_,?_⟩
  ·refine I4.pins_of λp h => ?_;rcases Am.mp h with rfl|h
   ·exact⟨M,g2,l.l,l.f,λv z=>by cases z⟩
   ·exact I4.pin p (Ay _ h)
  ·rw[Dn];exact Vals.append C (.cons L .nil)
  ·rw[List.take_add_one,S];exact (r.mono y).append (.cons U .nil)
 case done =>
  rintro g ⟨d,c,keys,e,kvs,D,q,O,C,r⟩;rw[Cn,Cz #v[]] at r;obtain⟨G,_⟩:=D.pin (kS,seqObj "list" keys e) (Ay _ At)
  try dsimp only
  refine Aa (listItems_at G rfl ?_);exact fin g d c keys e kvs D q O C r
end
abbrev intV:V->Option Int
 |.int j=>Za j
 |_=>Zb
abbrev kfV (H:Hp):Ze->List Int
 |.int n _=>[n]
 | .ref a=>match H a with
  | some (.tup [.int i,.ref b])=>(match H b with
   |some (.tup v)=>i::v.filterMap intV
   |_=>[])
  |_=>[]
 |_=>[]
theorem zgk:∀a:List Int,(a.map V.int).filterMap intV=a
 |[]=>rfl
 |i::a=>by rw[Av,Gn];show i::_=_;rw[zgk a]
theorem zh6 {K:Zg}{F:Hp}:∀{a:List W}{b:List Int}{v:List V},zo4 a=Za b->Reps K F a v->v=b.map V.int
 |[],_,_,e,r=>by ext e;cases r;rfl
 | w::a,b,v,e,r=>by
  cases w with
  | int i =>
   obtain⟨c,h,e⟩:=bS (show (zo4 a).bind _=_ from e);ext e;cases r with
   | cons d r =>
    cases d;rw[zh6 h r];rfl
  |_=>exists e
theorem zvf {b:List Int}{a:List Ze} (h:Vals (b.map V.int) a):IntsAre a b:=by
 induction b generalizing a with
 |nil=>cases h;exact .nil
 | cons i b d =>
  cases h with
  | cons e t =>
   obtain⟨c,rfl⟩:=e;exact .cons i c (d t)
section
variable {X:Cx}{pins:List (Zh × Obj)}{σ:St}{H F:Hp}{s:Zf}
theorem zwu {k:W}{a:List Int}{v:V}{u:Ze} (e:kI k=Za a) (r:Rep X.K F k v) (b:RelV v u):(∃n t,u=.int n t/\kfV H u=[n])/\kfV H u=a:=by
 cases k with
 | int i =>
  ext e;cases r;obtain⟨t,rfl⟩:=b;exact⟨⟨i,t,rfl,rfl⟩,rfl⟩
 |_=>exists e
theorem zxc (I:Inv X pins σ H s) (sm:Same F H) {k:W}{g:List Int}{v:V}{u:Ze} (e:kT k=Za g) (r:Rep X.K F k v) (x:RelV v u):KeyT s.heap u g/\kfV H u=g:=by
 unfold kT at e;split at e
 ·rename_i i N
  obtain⟨z,E,e⟩:=bS e;ext e;cases r with
  | @tup J a l h c =>
   cases c with
   | @cons _ K _ D p c =>
    cases p;cases c with
    | @cons _ L _ B o c =>
     cases c;cases o with
     | @tup _ b M j y =>
      have m:=zh6 E y;subst m;cases (show u=Ze.ref a from x);nofun;obtain⟨A,f,C,_⟩:=I.tuple (.inl (.inl (sm _ _ h)));obtain⟨d,n,w,_⟩:=I.tuple (.inl (.inl (sm _ _ j)));ac_rfl;cases f with
      | cons q f =>
       cases f with
       | cons G f =>
        cases f;obtain⟨t,rfl⟩:=q;cases (show _=Ze.ref b from G);refine⟨⟨a,b,i,t,z,d,.ref b,rfl,rfl,C,rfl,w,zvf n⟩,?_⟩;show (match H a with|some (.tup [.int i,.ref b])=>_|_=>_)=_;rw[sm _ _ h];show (match H b with|some (.tup l)=>i::l.filterMap intV|_=>[])=_;rw[sm _ _ j];show i::_=_;rw[zgk]
 ·exists e
theorem z16 {keys:Array Ze}{vs:List Ze}{m:List W}{kvs:List V}{D:List (List Int)}{A:Around}{E:Ze->Zf->Prop} (I:Inv X pins σ H s) (sm:Same F H) (B:A.units+2<cLine) (Y:Vals kvs keys.toList) (Z:Reps X.K F m kvs) (d:((mapO kI m).orElse λ_=>mapO kT m)=Za D) (hl:keys.size=vs.length) :
  ∃κ:SortKind,(2<=vs.length->∀O:SortKind->Zf->Prop,O κ s->wpAny #v[2,7] A (keyKind' keys) O E s)/\Tim.Asks X.prog X.w A E s κ (keys.zip vs.toArray) (λx y=>lexI (kfV H x.1) (kfV H y.1))/\keys.toList.map (kfV H)=D:=by
 have lk:m.length=keys.size:=by rw[Z.length,Y.length,Bx]
 have mem:∀x∈(keys.zip vs.toArray).toList,∃i,keys.toList[i]?=Za x.1:=λx G=>by
  rw[ksk_zip] at G;obtain⟨a,b⟩:=x;have:=(Eo G).1;obtain⟨i,p,e⟩:=Ec.mp this;exact⟨i,by rw[Ad p,e]⟩
 have back:∀(f:W->Option (List Int)),mapO f m=Za D->(∀(k:W) (l:List Int) (v:V) (u:Ze),f k=Za l->Rep X.K F k v->RelV v u->kfV H u=l)->keys.toList.map (kfV H)=D:=λf R hk=>by
  apply Db;intro i;rw[Ai];by_cases p:i<keys.size
  ·obtain ⟨k,N⟩ : ∃ k,m[i]? = Za k:=⟨_,Ad (by symm)⟩
   nofun;obtain⟨l,g,S⟩:=zf6 R N;obtain⟨v,ev,r⟩:=Z.get N;obtain⟨u,P,j⟩:=Y.get ev;ac_rfl;rw[P,S];exact congrArg Za (hk k l v u g r j)
  ·rw[Bp (by simpa using p),Bp (by rw[zf5 R];symm)];rfl
 have L : ∀(f:W->Option (List Int)),mapO f m=Za D->∀(i:Nat) (u:Ze),keys.toList[i]?=Za u->∃k l v,f k=Za l/\Rep X.K F k v/\RelV v u:=λf R i u B=>by
  have p:i<keys.size:=by have:=(Ah.mp B).1;simpa using this
  obtain⟨k,N⟩ : ∃k,m[i]?=Za k:=⟨_,Ad #v[]⟩;nofun;obtain⟨l,g,S⟩:=zf6 R N;obtain⟨v,ev,r⟩:=Z.get N;obtain⟨u',P,j⟩:=Y.get ev;ac_rfl;rw[B] at P;ext P;exact⟨k,l,v,g,r,j⟩
 cases q:mapO kI m with
 | some kl' =>
  rw [q] at d;cases (show Za kl'=Za D from d);have all:∀(i:Nat) (u:Ze),keys.toList[i]?=Za u->∃n t,u=.int n t/\kfV H u=[n]:=λi u B=>by
   nofun;obtain⟨k,l,v,g,r,j⟩:=L kI q i u B;ac_rfl;exact (zwu (H:=H) g r j).1
  refine⟨oneType',λh2 O U=>?_,zyu λx G=>?_,back kI q λk l v u g r j=>(zwu (H:=H) g r j).2⟩
  ·have ia:=intsAre_map keys.toList λv w=>by
    nofun;obtain⟨i,p,e⟩:=Ec.mp w;obtain⟨n,t,h,_⟩:=all i v (by rw[Ad p,e]);ac_rfl;exact⟨n,t,h⟩
   rw[ksk_kind ia #v[]];exact Ak U
  ·obtain ⟨i,p⟩:=mem x G
   exact all i x.1 p
 | none =>
  rw [q] at d;have d:mapO kT m=Za D:=d;have all:∀(i:Nat) (u:Ze),keys.toList[i]?=Za u->KeyT s.heap u (kfV H u):=λi u B=>by
   nofun;obtain⟨k,l,v,g,r,j⟩:=L kT d i u B;obtain⟨C,J⟩:=zxc I sm g r j;ac_rfl;rw[J];exact C
  refine⟨tuples' Zd,λh2 O U=>?_,z1s B λx G=>?_,back kT d λk l v u g r j=>(zxc I sm g r j).2⟩
  ·have kt:∃fs:List Ze,PySem.W.KatTups s.heap keys.toList fs/\fs.length=keys.size/\∀v∈fs,∃n t,v=.int n t:=by
    have gen:∀l:List Ze,(∀(i:Nat) (u:Ze),l[i]?=Za u->KeyT s.heap u (kfV H u))->∃fs:List Ze,PySem.W.KatTups s.heap l fs/\fs.length=l.length/\∀v∈fs,∃n t,v=.int n t:=by
     intro l
     induction l with
     |nil=>exact λ_=>⟨[],trivial,rfl,λv w=>by simp at w⟩
     | cons u l ih =>
      intro h;nofun;obtain⟨fs,C,J,K⟩:=ih λi v w=>h (i+1) v (by simpa using w);obtain⟨a,b,i,t,ns,its,c,g,S,q1,rfl,q2,q3⟩:=(h 0 u rfl).ex;obtain⟨o,k1,k2,n,k3⟩:=id q1;ac_rfl;subst g;exact⟨.int i t::fs,PySem.W.KatTups.cons k1 k2 k3 rfl C,by simpa using J,λv w=>(Am.mp w).elim (λz=>⟨i,t,z⟩) (K v)⟩
    nofun;obtain⟨fs,C,J,K⟩:=gen keys.toList all;ac_rfl;exact⟨fs,C,by simpa using J,K⟩
   refine aG λ_ qG=>?_;obtain ⟨fs,C,J,K⟩:=kt;refine qG ?_;clear qG;have:=PySem.W.kat_kind (M:=model X.prog X.w) (A:=A) (E:=E) (s:=s) (T:=.type "int") (Q:=O) C (by symm) (λv w=>by
    obtain⟨n,t,rfl⟩:=K v w;exact .now) rfl U
   rw[Array.toArray_toList] at this;exact this
  ·obtain ⟨i,p⟩:=mem x G
   exact all i x.1 p
end
section
variable {X:Cx}{pins:List (Zh × Obj)}{σ:St}{H F:Hp}{s:Zf}{pr:Prt}{en:En}
theorem zws {α:Type} [DecidableEq α] {β:Type}:∀{d:List α}{f:List β},d.Nodup->∀x∈d.zip f,∀y∈d.zip f,x.1=y.1->x=y
 |[],_,_,x,h,_,_,_=>by simp at h
 |_::_,[],_,x,h,_,_,_=>by simp at h
 | k::d,w::f,g,x,h,y,c,e=>by
  have n:=By.mp g;rw[List.zip_cons_cons] at h c;rcases Am.mp h with rfl|h
  ·rcases Am.mp c with rfl | c
   ·rfl
   ·have:=(Eo (a:=y.1) (b:=y.2) c).1
    exact absurd (by rw[<-e] at this;exact this) n.1
  ·rcases Am.mp c with rfl | c
   ·have:=(Eo (a:=x.1) (b:=x.2) h).1
    exact absurd (by rw[e] at this;exact this) n.1
   ·exact zws n.2 x h y c e
theorem zqg {K:Zg}{F:Hp}{kf:Ze->List Int}:∀{ku:List Ze}{ws:List W}{vvs:List V}{vs:List Ze},Vals vvs vs->Reps K F ws vvs->All2 (λ(z:KP) (x:Keyed)=>kf x.1=z.1/\∃v,RelV v x.2/\Rep K F z.2 v) ((ku.map kf).zip ws) (ku.zip vs)
 |[],_,_,_,_,_=>by simp;exact .nil
 |k::ku,_,_,_,.nil,.nil=>by simp;exact .nil
 |k::ku,_,_,_,.cons r rv,.cons h hr=>.cons ⟨rfl,_,r,h⟩ (zqg rv hr)
theorem zpr {K:Zg}{F:Hp}{kf:Ze->List Int}:∀{d:List KP}{r:List Keyed},All2 (λ(z:KP) (x:Keyed)=>kf x.1=z.1/\∃v,RelV v x.2/\Rep K F z.2 v) d r->∃c,Vals c (r.map (·.2))/\Reps K F (d.map (·.2)) c
 |_,_,.nil=>⟨[],.nil,.nil⟩
 | _,_,.cons ⟨_,v,e,h⟩ t=>by
  obtain⟨c,a,b⟩:=zpr t;exact⟨v::c,.cons e a,.cons h b⟩
abbrev zv2 (ks ws out:List W):Prop:=∀{X:Cx}{pins:List (Zh×Obj)}{σ:St}{H F:Hp}{s:Zf}{keys:Array Ze}{vs:List Ze}{kvs vvs:List V}{A:Around}{E:Ze->Zf->Prop},Inv X pins σ H s->Same F H->A.units+2<cLine->Vals kvs keys.toList->Reps X.K F ks kvs->Vals vvs vs->Reps X.K F ws vvs->keys.size=vs.length ->
 ∃(κ:SortKind) (kf:Ze->List Int) (bf le:Keyed->Keyed->Prop),(2<=vs.length->∀Q':SortKind->Zf->Prop,Q' κ s->wpAny #v[2,7] A (keyKind' keys) Q' E s)/\Tim.Asks X.prog X.w A E s κ (keys.zip vs.toArray) (λx y=>lexI (kf x.1) (kf y.1))/\Tim.Ord (λx y:Keyed=>lexI (kf x.1) (kf y.1)) bf le/\(∀c,Tim.Cut bf (keys.zip vs.toArray) c) /\
  ∀r:List Keyed,r.Perm (keys.toList.zip vs)->r.Pairwise le->∃ov,Vals ov (r.map (·.2))/\Reps X.K F out ov/\ov.length<=vs.length
theorem zp2 {k ws out:List W}(h:zlt k ws=Za out):zv2 k ws out:=by
 intro X pins σ H F s keys v kvs T A E I sm S u L g b d;unfold zlt at h;obtain⟨U,c,h⟩:=bS h;split at h
 ·rename_i i;rw[Ae] at i;nofun;obtain⟨κ,V,C,e⟩:=z16 (A:=A) (E:=E) (vs:=v) I sm S u L c d;ac_rfl;refine⟨κ,kfV H,λ_ _=>True,_,V,C,z41 _,λ_ _ _ _ _ _=>trivial,λr J R=>?_⟩;obtain⟨f,p,a⟩:=All2.perm J.symm (zqg (K:=X.K) (F:=F) (kf:=kfV H) (ku:=keys.toList) g b);rw[e] at p;have M:f.Pairwise leK:=All2.pair (P:=leK) (Q:=λx y:Keyed=>lexI (kfV H y.1) (kfV H x.1)=Zc) (λz x l Z D n q=>by show lexI l.1 z.1=Zc;rw[<-D.1,<-n.1];exact q) a R;have w:f=zlh (U.zip ws):=zfc (p.symm.trans (zfi _).symm) M (zde _) λx N y m=>zws (zgt i.1) x (p.symm.mem_iff.mp N) y (p.symm.mem_iff.mp m);obtain⟨B,O,o⟩:=zpr a;have j:out=f.map (·.2):=by rw[w];exact (sI h).symm
  rw[<-j] at o;refine⟨B,O,o,?_⟩;have G:=o.length;have Y:=g.length;have l2:=b.length;have t:=p.length_eq;rw[List.length_zip] at t;rw[j,Ab] at G;symm
 ·exists h
theorem zlp {prog:Program}{w:World}{A:Around}{E:Ze->Zf->Prop}{s:Zf}{l:Zh}{vs:List Ze}{Q:List Ze->Zf->Prop}{T:String}{o:Obj}{n:Nat} (e:T = "list"\/T = "tuple") (g:s.heap.get? l=Za o) (f:o.cls=.type T) (b:o.data=.seq vs.toArray n)
  (h:Q vs { s with heap:=#v[4,12].update s.heap.objs.size (Obj.mapSeq (·++vs.toArray)) }) (c:vs.length<=sizeLine) :
  wpAny (model prog w) A (collect (.ref l)) Q E s:=by
 unfold collect;refine Aa (wpAny_runValue (Fy entry_proto_collect' ?_));show wpAny _ _ (do again (.builtin "list.__iadd__" ⟨[<-newList [],.ref l],[]⟩)) _ _ s;refine Aa (wpAny_newList (Ak ⟨Code.quiet_builtin _ #v[0,0,7],Fy entry_list_iadd' ?_⟩));show wpAny _ _ (Builtin.List.listExtendWith (.ref s.heap.objs.size) (.ref l) (.ref s.heap.objs.size)) _ _ { s with heap:=s.heap.push #v[1,9] };unfold Builtin.List.listExtendWith;have a : #v[4,12].get? l=Za o:=Ac _ g;refine Aa (wpAny_typeOf (T:=T) ⟨o,a,f⟩ ?_);have d:(Ze.type T==Ze.type "list" || Value.type T==Ze.type "tuple")=Zd:=by rcases e with rfl|rfl<;>rfl
 rw [if_pos (by rw [Bool.or_assoc,d,Bool.or_true])];refine Aa (listItems_at a b ?_);refine Aa (listItems_at (xs:=#[]) (n:=0) (Aq _ rfl) rfl ?_);rw [if_neg (by simp)];refine Aa (listUpdate_at (xs:=#[]) (n:=0) (Aq _ rfl) rfl ?_ (Cc _) (by show (#[]++vs.toArray).size<=sizeLine+1;simp only [Array.size_append,An,List.length_nil];symm));refine Ak ?_;show wpAny (model prog w) A (do
   let o <- load s.heap.objs.size
   match o.data with
   |.seq x _=>pure x.toList
   |_=>unsupported "internal:collect") Q E { s with heap:=#v[4,12].update s.heap.objs.size (Obj.mapSeq (·++vs.toArray)) }
 refine Aa (wpAny_load (get?_update_seq (Aq _ rfl) _) ?_);show wpAny _ _ (pure ((#[]:Array Ze)++vs.toArray).toList) Q E _;rw[show ((#[]:Array Ze)++vs.toArray).toList=vs by simp];exact Ak h
theorem zhw {q l:Zh}{Φ:W->Option W}{Al:List (Zh×Obj)->Hp->Prop}{f:List V}{ws ks out:List W}{Q:VK}{E:Ze->Zf->Prop} (KC:KCall X.inn (.ref q) Φ Al) (I:Inv X pins σ H s) (al:Al pins F) (R:Rel X.K F pr en σ H) (hl:SqL X.K H l f\/SqT X.K H l f) (D:Reps X.K F ws f)
  (hk:mapO Φ ws=Za ks) (hs:zv2 ks ws out) (hu:X.A.units+4<cLine) (h:∀M t v,Same F M->Rel X.K M pr en σ t->Res X.K M t pr en σ (.lst out,Zd) v->Q v t) :
  wpAny #v[2,7] X.A (call (.builtin "sorted") [.ref l] [(Str.ofString "key",.ref q)]) (EP X pins σ Q) E s:=by
 nofun;obtain⟨vs,G,T,o,n,hT,U,J,Y,hz⟩ : ∃vs,Vals f vs/\∃T o n,(T = "list"\/T = "tuple")/\s.heap.get? l=Za o/\o.cls=.type T/\o.data=.seq vs.toArray n/\f.length<=sizeLine:=by
  rcases hl with hq|hq
  ·obtain⟨vs,G,⟨o,n,U,J,_,Y⟩,hz⟩:=I.list hq;exact⟨vs,G,_,o,n,.inl rfl,U,J,Y,hz⟩
  ·obtain⟨vs,G,⟨o,U,J,n,Y⟩,hz⟩:=I.tuple hq;exact⟨vs,G,_,o,n,.inr rfl,U,J,Y,hz⟩
 ac_rfl;have lv:f.length=vs.length:=G.length;have g:vs.length<=sizeLine:=by symm
 have lw:ws.length=vs.length:=by rw[D.length,lv]
 have lk:ks.length=vs.length:=by rw[zf5 hk,lw]
 refine call_function_entry_kw kind_sorted plain_sorted entry_sorted (ksk_s1 _ _) ?_;unfold Builtin.«sorted»;refine Aa (m:=checkCount "sorted" 1 1 _) (Ak ?_);refine Aa (zlp hT U J Y ?_ g);refine Aa (wpAny_newList ?_ g);have w:(#v[4,12].update s.heap.objs.size (Obj.mapSeq (·++vs.toArray))).objs.size=s.heap.objs.size+1:=by
  rw[Heap.size_update,size_push']
 have d:((#v[4,12].update s.heap.objs.size (Obj.mapSeq (·++vs.toArray))).push #v[9,11]).get? #v[7,10]=Za #v[9,11]:=by
  rw[<-w];exact Aq _ rfl
 have keep:∀b o,s.heap.get? b=Za o->((#v[4,12].update s.heap.objs.size (Obj.mapSeq (·++vs.toArray))).push #v[9,11]).get? b=Za o:=λb o q=>by
  have j:b<s.heap.objs.size:=Ao q;rw[Heap.get?_push_ne _ _ _ (by rw[w];exact Bb (Eb j)),Heap.get?_update_ne _ _ _ _ (Bb j),Heap.get?_push_ne _ _ _ (Bb j)];exact q
 have y:((#v[4,12].update s.heap.objs.size (Obj.mapSeq (·++vs.toArray))).push #v[9,11]).objs.size=s.heap.objs.size+2:=by rw[size_push',w]
 show wpAny _ _ _ _ _ { s with heap:=(#v[4,12].update s.heap.objs.size (Obj.mapSeq (·++vs.toArray))).push #v[9,11] };rw[w];generalize (#v[4,12].update s.heap.objs.size (Obj.mapSeq (·++vs.toArray))).push #v[9,11]=h3 at d keep y ⊢;obtain⟨a,ea⟩ : ∃a,a=s.heap.objs.size+1:=⟨_,rfl⟩;rw[<-ea] at d ⊢;refine Aa (Dc (wpAny_call_entry_kw slot_list_sort ⟨_,d,rfl⟩ entry_list_sort ?body (ksk_l1 _ _)))
 case body =>
  show wpAny #v[2,7] X.A.in1.in1 (Builtin.«list.sort» ⟨[.ref a],[(Str.ofString "key",.ref q)]⟩) _ _ _;rw[ksk_t1];have ha:a<h3.objs.size:=by symm
  have s1:=Du h3 a #v[5,11];obtain⟨e1,S⟩ : ∃e1,(h3.update a #v[5,11]).get? a=Za #v[8,15]:=⟨_,get?_update_seq d λ_=>#[]⟩;unfold ksk_tree;refine Aa (listItems_at d rfl ?_);refine Aa (listUpdate_at d rfl ?_ (by rw[An];symm) (Cc _));refine Aa (seqEpoch_at S rfl ?_);refine Aa (wpAny_newTuple ?_ g);refine Aa (wpAny_newList ?_ (Cc _));refine Dc ?_;have hz4:#v[6,7].objs.size=s.heap.objs.size+3:=by rw[size_push',Heap.size_update,y]
  show wpAny _ _ (ksk_rest a (.ref q) Zc vs.toArray e1 (.ref #v[6,7].objs.size)) _ _ { s with heap:=#v[6,7].push #v[1,9] };obtain⟨kS,ek⟩ : ∃kS,kS=#v[6,7].objs.size:=⟨_,rfl⟩;rw[<-ek] at hz4 ⊢;have N:∀b o,s.heap.get? b=Za o->(#v[6,7].push #v[1,9]).get? b=Za o:=λb o Z=>by
   refine Ac _ (Ac _ ?_);have j:b<s.heap.objs.size:=Ao Z;exact (s1.2 b (Bb (by rw[ea];exact Eb j))).trans (keep b o Z)
  have ga:(#v[6,7].push #v[1,9]).get? a=Za #v[8,15]:=Ac _ (Ac _ S);have gk:(#v[6,7].push #v[1,9]).get? kS=Za #v[1,9]:=by rw[ek];exact Aq _ rfl
  generalize #v[6,7].push #v[1,9]=h6 at N ga gk ⊢;have na:H a=Zb:=I.hok.fresh #v[];have nk:H kS=Zb:=I.hok.fresh #v[];have pa:Apart X pins a:=(I.fpOk (H':=H) #v[] na).apart;have u:Apart X pins kS:=(I.fpOk (H':=H) #v[] nk).apart;have L:kS≠a:=by symm
  have k:Apart X ((a,seqObj "list" #[] e1)::pins) kS:=⟨u.l,u.f,u.x,u.c,λp x=>by
   rcases Bz.mp x with z|z
   ·exact u.p p (List.mem_append_left _ z)
   ·rcases Am.mp z with rfl|z
    ·exact L.symm
    ·exact u.p p (Ay _ z)⟩
  have I6:Inv X pins σ H { s with heap:=h6 }:=I.kept (t':=s.toks) N;have I7:Inv X ((kS,seqObj "list" #[] 0)::(a,seqObj "list" #[] e1)::pins) σ H { s with heap:=h6 }:=I6.pins_of λp x=>by
   rcases Am.mp x with rfl|x
   ·exact⟨gk,nk,u.l,u.f,λv z=>by cases z⟩
   ·rcases Am.mp x with rfl|x
    ·exact⟨ga,na,pa.l,pa.f,λv z=>by cases z⟩
    ·exact I6.pin p (Ay _ x)
  refine z1e (X:=X.inn) (pins:=pins) KC I7.inn al R G D hk g ⟨k.l,k.f,k.x,k.c,k.p⟩ λs' t M keys e kvs I8 s8 R8 rk rp=>?_;have i:=I8.out;nofun;obtain⟨g1,g2,_⟩:=i.pin (kS,seqObj "list" keys e) (Ay _ At);obtain⟨g3,g4,_⟩:=i.pin (a,seqObj "list" #[] e1) (Ay _ (Ag _ At));ac_rfl;have P:keys.size=vs.length:=by
   have a1:kvs.length=keys.size:=rk.length.trans Bx;have a2:ks.length=kvs.length:=rp.length;symm
  nofun;obtain⟨κ,kf,bf,le,kd,C,O,B,fn⟩:=hs (A:=X.A.in1.in1) (E:=E) (vs:=vs) i R8.sub (by show X.A.units+1+1+2<cLine;symm) rk rp G (D.mono s8) P;ac_rfl;refine z6n (kf:=kf) O B g1 g3 L P g kd C λr h' c pm pw ga' kp'=>⟨_,rfl,?_⟩;obtain⟨ov,o1,o2,lo⟩:=fn r pm pw;have lo:ov.length<=sizeLine:=by symm
  have I9:Inv X pins σ t s':=i.pins_of λp x=>i.pin p (Ay _ (Ag _ (Ag _ x)));have I10:Inv X pins σ (upd t a (.lst ov)) { s' with heap:=h' }:=I9.adopt (t':=s'.toks) (ch:=[a,kS]) (λb o B Z=>kp' b o (λz=>B (by simp [z])) (λz=>B (by simp [z])) Z) (λb B=>by
   rcases Am.mp B with rfl|B
   ·exact pa.fp g4
   ·rw[Ax.mp B];exact u.fp g2) At ⟨lo,r.map (·.2),c,o1,ga'⟩
  refine Ak ⟨_,rfl,.ref a,_,I10,rfl,?_⟩;nofun;obtain⟨F9,s9,R9,y9⟩:=(Out.lst (K:=X.K) (F:=M) (H:=t) (p:=a) g4 o2).close R8;ac_rfl;exact h F9 _ _ (s8.trans s9) R9 y9
end
open Classical in
section
variable {K:Zg}{F H:Hp}
end
end L2
namespace L2
open PySem PySem.Spec PyProof.Rows
section
variable {prog:Program}{w:World}{A:Around}{E:Ze->Zf->Prop}{s:Zf}{a:Zh}{vs:List Ze}{P:PySem.Fin->Zf->Prop}
end
section
variable {X:Cx}
end
structure Sx where
 N:List Str
 kd:List (Str×NameKind)
 bn:List Str
 fs:List (Str×(List Bool×Fn))
 mp:List Nat
 top:Bool
 nm:Str := ""
 dp:Nat:=0
abbrev Sx.rd (S:Sx) (x:Str):Option Nat:=if x==("__debug__" : Str)||x==("__classdict__" : Str) then Zb else match S.kd.lookup x with
 |some .local=>S.N.findIdx? (· == x)
 |some .cell=>S.N.findIdx? (· == x)
 |some .free=>S.N.findIdx? (· == x)
 |_=>Zb
abbrev Sx.wr (S:Sx) (x:Str):Option Nat:=match S.kd.lookup x with
 |some .local=>S.N.findIdx? (· == x)
 |some .cell=>S.N.findIdx? (· == x)
 |_=>Zb
abbrev Sx.bl (S:Sx) (x:Str):Bool:=S.kd.lookup x==Za .globalImplicit&&S.bn.contains x
structure CxOk (X:Cx) (S:Sx) (d:Nat):Prop where
 N:X.N=S.N
 nd:S.N.Nodup
 loc:∀x,S.kd.lookup x=Za .local->X.env.scope.names.lookup x=Za .local
 cel:∀x,S.kd.lookup x=Za .cell->X.env.scope.names.lookup x=Za .cell/\X.fn x=Zd
 vis:∀x,S.kd.lookup x=Za .cell\/S.kd.lookup x=Za .free->X.env.scope.names.lookup x=Za .cell\/X.env.scope.names.lookup x=Za .free
 gl:∀x,S.kd.lookup x=Za .globalImplicit->Gl X x
 calm:X.calm=Zd
 xe:X.xe=λ_ _=>False
 bn:∀x∈S.bn,X.mg x=Zb
 fs:∀x m Φ,S.fs.lookup x=Za (m,Φ)->∃ps,ps.length=m.length/\Cal X.prog X.w X.K X.mg X.base d x ps (spF X.K m Φ)
 room:Room d X.A
 sl:X.A.units+16*d+205<cLine
 bk:X.env.blockKind=.function
 lam:S.nm∈lams->∃c P,PySem.W.tabIn X.K S.nm=Za (c,P)/\PySem.W.codeHdIn X.K c P=Zd/\X.env.code=.ref c/\X.env.qual=S.nm++".<locals>."
 dpo:S.dp<=d
 sg:("g SIGNS" : Str)∈S.bn->∃t,X.mg "SIGNS" = Za (.str "abcdef" t)
theorem zgd {N:List Str}{x:Str}{i:Nat}(h:N.findIdx? (· == x)=Za i):N[i]?=Za x:=by
 obtain⟨a,b,_⟩:=List.findIdx?_eq_some_iff_getElem.mp h;rw[Ad a];have:N[i]=x:=by simpa using b
 rw[this]
section
variable {X:Cx}{S:Sx}{d:Nat}
theorem zox (C:CxOk X S d){x:Str}{i:Nat}{pos:Pos}(h:S.rd x=Za i):PE X (.Name x pos) (tVar i):=by
 unfold Sx.rd at h;split at h
 ·exists h
 ·rename_i z;rw[Cg,not_or,Bk,Bk] at z;split at h
  ·rename_i e;exact zej (by rw[C.N];exact zgd h) (.inl (C.loc x e)) z.1 z.2
  ·rename_i e;exact zej (by rw[C.N];exact zgd h) (.inr (C.vis x (.inl e))) z.1 z.2
  ·rename_i e;exact zej (by rw[C.N];exact zgd h) (.inr (C.vis x (.inr e))) z.1 z.2
  ·exists h
theorem ztb (C:CxOk X S d){x:Str}{i:Nat}(h:S.wr x=Za i):X.N[i]?=Za x/\Loc X.env.scope x/\(X.fn x=Zd\/X.env.scope.names.lookup x=Za .local):=by
 unfold Sx.wr at h;split at h
 ·rename_i e;exact⟨by rw[C.N];exact zgd h,.inl (C.loc x e),.inr (C.loc x e)⟩
 ·rename_i e;exact⟨by rw[C.N];exact zgd h,.inr (C.cel x e).1,.inl (C.cel x e).2⟩
 ·exists h
theorem zho (C:CxOk X S d){x:Str}(h:S.bl x=Zd):Gl X x/\X.mg x=Zb:=by
 unfold Sx.bl at h;rw[Ae] at h;exact⟨C.gl x (by simpa using h.1),C.bn x (by simpa using h.2)⟩
theorem ndN (C:CxOk X S d):X.N.Nodup:=by rw[C.N];exact C.nd
end
abbrev zmb:Zi->Bool
 |.Set ..=>Zc
 |_=>Zd
abbrev zdq:Zi->Bool
 |.Slice ..=>Zc
 |_=>Zd
abbrev zgh:Zi->Bool
 |.ListComp ..=>Zc
 |.SetComp ..=>Zc
 |.DictComp ..=>Zc
 |_=>Zd
abbrev zq9:Zi->Bool
 |.UnaryOp .Not _ _=>Zc
 |.BoolOp ..=>Zc
 |.IfExp ..=>Zc
 |.Compare ..=>Zc
 |_=>Zd
theorem zte {e:Zi}{env:Env}(h:zmb e=Zd):∀x,foldedSetIterable e env x=pure x:=by
 intro x;cases e<;>first|rfl|(cases h)
theorem zga {op:CmpOp}{e:Zi}(h:zmb e=Zd):behindInMarks op e=Zc:=by
 cases e<;>first|rfl|(cases h)
theorem zh9 {e:Zi}(h:zdq e=Zd):zxk e:=λo i=>by
 cases e<;>first|rfl|(cases h)
theorem zp6 {e:Zi}{t:Option Zi}{l:Nat}{env:Env}(h:zgh e=Zd):swapsWith e t l env=pure Zc:=by
 cases e<;>first|rfl|(cases h)
theorem zsm {e:Zi}{env:Env}(h:zq9 e=Zd):∀w,isTrue e env w=(do let v <- w;standAt e.pos;holding [v] (truthy v)):=by
 intro w;cases e with
 |UnaryOp o _ _=>cases o<;>first|rfl|(cases h)
 |_=>first|rfl|(cases h)
theorem zji {es:List Zi}{env:Env}{pos:Pos} (h:es.all zaj=Zd):(backTo pos (starEach es env)).any (·.1)=Zc:=by
 induction es with
 |nil=>rfl
 | cons e es i =>
  rw[Cb,Ae] at h;rw[zag h.1];show (Zc||(backTo pos (starEach es env)).any (·.1))=Zc;rw[i h.2]
  rfl
abbrev cPow (i j:Int):Bool:=decide (0<=j)&&decide (j<=1000000)&&decide (i.natAbs<2^64)
abbrev cMul (i j:Int):Bool:=(decide (-(2^64)<i)&&decide (i<2^64))||(decide (-(2^64)<j)&&decide (j<2^64))
abbrev zr5 (i j:Int):Bool:=decide (Builtin.Int.intBits i<=2^20)&&decide (Builtin.Int.intBits j<=2^20)
abbrev cDiv (i j:Int):Bool:=decide (0<j)&&decide (j.natAbs.log2<9000)
abbrev yes2 (_ _:Int):Bool:=Zd
abbrev oAdd:O2:=oOr #v[5,15] (oOr oCat (oOr z0d z6t))
abbrev oMult:O2:=oOr (oI cMul λi j=>.int (i*j)) (oOr (oI zr5 λi j=>.int (i*j)) oRep)
abbrev binO:Operator->Option O2
 |.Add=>Za oAdd
 |.Sub=>Za #v[0,0,0]
 |.Mult=>Za oMult
 |.FloorDiv=>Za #v[0,0,3]
 |.Mod=>Za #v[0,0,2]
 |.Pow=>Za #v[7,13]
 |.LShift=>Za #v[0,0,1]
 |.RShift=>Za #v[2,12]
 |.BitAnd=>Za #v[8,11]
 |.BitOr=>Za #v[9,18]
 |.BitXor=>Za #v[3,14]
 |_=>Zb
theorem zxm {i j:Int}(h:cPow i j=Zd):CPow i j:=by
 unfold cPow at h;rw[Ae,Ae] at h;exact⟨Ar h.1.1,Ar h.1.2,Ar h.2⟩
theorem zxs {i j:Int}(h:cMul i j=Zd):CMul i j:=by
 unfold cMul at h;rw[Cg,Ae,Ae] at h;rcases h with h|h
 ·exact .inl ⟨Ar h.1,Ar h.2⟩
 ·exact .inr ⟨Ar h.1,Ar h.2⟩
theorem z0t {i j:Int}(h:zr5 i j=Zd):ybn i j:=by
 unfold zr5 at h;rw[Ae] at h;exact⟨Ar h.1,Ar h.2⟩
theorem z6m {i j:Int}(h:cDiv i j=Zd):0<j/\j.natAbs.log2<9000:=by
 unfold cDiv at h;rw[Ae] at h;exact⟨Ar h.1,Ar h.2⟩
section
variable {X:Cx}
theorem z6u {op:Operator}{o:O2}(h:binO op=Za o):∃r,OpR X (binaryOp op) r/\OpS X.K r o:=by
 cases op with
 |Add=>ext h;exact⟨_,z99.or (z3b.or (z52.or z5t)),(zb0 λ_ _ _=>.int _).or (z7q.or (zyz.or zzp))⟩
 |Sub=>ext h;exact⟨_,yac,zb0 λ_ _ _=>.int _⟩
 |Mult=>ext h;exact⟨_,ya5.or (z7s.or z8c),(zki (λ_ _=>zxs) λ_ _ _=>.int _).or ((zki (λ_ _=>z0t) λ_ _ _=>.int _).or z6g)⟩
 |FloorDiv=>ext h;exact⟨_,zzi,zki (λ_ _=>z6m) λ_ _ _=>.int _⟩
 |Mod=>ext h;exact⟨_,yb1,zki (λ_ _=>Ar) λ_ _ _=>.int _⟩
 |Pow=>ext h;exact⟨_,yah,zki (λ_ _=>zxm) λ_ _ _=>.int _⟩
 |LShift=>ext h;exact⟨_,z96,zki (λ_ _=>zxm) λ_ _ _=>.int _⟩
 |RShift=>ext h;exact⟨_,yao,zki (λ_ _=>Ar) λ_ _ _=>.int _⟩
 |BitAnd=>ext h;exact⟨_,ybk,zb0 λ_ _ _=>.int _⟩
 |BitOr=>ext h;exact⟨_,yck,zb0 λ_ _ _=>.int _⟩
 |BitXor=>ext h;exact⟨_,ycb,zb0 λ_ _ _=>.int _⟩
 |_=>exists h
abbrev augO:Operator->Option O2
 |.Add=>Za #v[5,15]
 |.Sub=>Za #v[0,0,0]
 |.Mult=>Za (oI cMul λi j=>.int (i*j))
 |.BitAnd=>Za #v[8,11]
 |.BitOr=>Za #v[9,18]
 |.BitXor=>Za #v[3,14]
 |_=>Zb
theorem z5x {op:Operator}{o:O2}(h:augO op=Za o):∃r,PIp X op r/\OpS X.K r o:=by
 cases op with
 |Add=>ext h;exact⟨_,zyd,zb0 λ_ _ _=>.int _⟩
 |Sub=>ext h;exact⟨_,z4t,zb0 λ_ _ _=>.int _⟩
 |Mult=>ext h;exact⟨_,z7e,zki (λ_ _=>zxs) λ_ _ _=>.int _⟩
 |BitAnd=>ext h;exact⟨_,z4l,zb0 λ_ _ _=>.int _⟩
 |BitOr=>ext h;exact⟨_,z8j,zb0 λ_ _ _=>.int _⟩
 |BitXor=>ext h;exact⟨_,z4u,zb0 λ_ _ _=>.int _⟩
 |_=>exists h
abbrev cmpO:CmpOp->Option O2
 |.Eq=>Za oEq
 |.NotEq=>Za oNe
 |.Lt=>Za (oI yes2 λi j=>.bl (decide (i<j)))
 |.LtE=>Za (oI yes2 λi j=>.bl (decide (i<=j)))
 |.Gt=>Za #v[8,9]
 |.GtE=>Za (oI yes2 λi j=>.bl (decide (j<=i)))
 |.Is=>Za oIs
 |.In=>Za (oIn Zc)
 |.NotIn=>Za (oIn Zd)
 |_=>Zb
theorem z4b {k:Nat}(a:Room k X.A){op:CmpOp}{o:O2}(h:cmpO op=Za o):∃r,OpR X (compareOp op) r/\OpS X.K r o:=by
 cases op with
 |Eq=>ext h;exact⟨_,.or ycm (ya7 a),yag⟩
 |NotEq=>ext h;exact⟨_,.or ydt (yax a),z72⟩
 |Lt=>ext h;exact⟨_,ycv,zb0 λ_ _ _=>.bl _⟩
 |LtE=>ext h;exact⟨_,ydb,zb0 λ_ _ _=>.bl _⟩
 |Gt=>ext h;exact⟨_,yco,zb0 λ_ _ _=>.bl _⟩
 |GtE=>ext h;exact⟨_,ycj,zb0 λ_ _ _=>.bl _⟩
 |Is=>ext h;exact⟨_,ycf.or yb3,z9a⟩
 |In=>ext h;exact⟨_,zms,ztg Zc⟩
 |NotIn=>ext h;exact⟨_,zfz,ztg Zd⟩
 |_=>exists h
end
abbrev zbb (f:Sx->Zi->Option GE) (S:Sx) (e:Zi):Option GA:=match e with
 |.Name x _=>(S.rd x).bind λi=>Za (zaa i)
 |_=>(f S e).bind λg=>Za (gArg g)
abbrev asL (f:Zi->Option GA):List Zi->Option GAs
 |[]=>Za gA0
 |e::b=>if zaj e then (f e).bind λa=>(asL f b).bind λc=>Za (gCns a c) else Zb
abbrev asM (f:Sx->Zi->Option GE) (S:Sx):List Zi->List Bool->Option GAs
 |[],[]=>Za gA0
 |e::c,b::m=>if zaj e then (if b then zbb f S e else (f S e).bind λg=>Za (gArg g)).bind λa=>(asM f S c m).bind λd=>Za (gCns a d) else Zb
 |_,_=>Zb
abbrev zbp (f:Sx->Zi->Option GE):Prop:=∀X S d,CxOk X S d->∀e g,f S e=Za g->PE X e (tE X.K g)
abbrev zi0 (f:Sx->Zi->Option GT):Prop:=∀X S d,CxOk X S d->∀e g,f S e=Za g->PT X e (tT X.K g)
section
variable {X:Cx}{S:Sx}{d:Nat}{f:Sx->Zi->Option GE}
theorem zah (H:zbp f)(C:CxOk X S d){e:Zi}{a:GA}(h:zbb f S e=Za a):PE X e (tA X.K a):=by
 unfold zbb at h;split at h
 ·obtain⟨i,b,h⟩:=bS h;ext h;exact (zox C b).wk λ_ _ _=>zxb
 ·obtain⟨g,c,h⟩:=bS h;ext h;exact (H X S d C _ _ c).wk λ_ _ _=>zf9
theorem zif {f:Zi->Option GA} (H:∀e a,f e=Za a->PE X e (tA X.K a)):∀{b:List Zi}{c:GAs},asL f b=Za c->PA X b (tAs X.K c)/\b.all zaj=Zd
 |[],_,h=>by ext h;exact⟨za9.wk λ_ _ _=>zpz,rfl⟩
 | e::b,_,h=>by
  unfold asL at h;split at h
  ·rename_i z
   obtain⟨a,d,h⟩:=bS h;obtain⟨c,has,h⟩:=bS h;ext h;obtain⟨p,q⟩:=zif H has;exact⟨(pac (H e a d) p z).wk λ_ _ _=>zql,by rw[Cb,z,q];rfl⟩
  ·exists h
theorem ztr (H:zbp f) (C:CxOk X S d):∀{c:List Zi}{m:List Bool}{j:GAs},asM f S c m=Za j->PA X c (tAs X.K j)/\c.all zaj=Zd
 |[],[],_,h=>by ext h;exact⟨za9.wk λ_ _ _=>zpz,rfl⟩
 | e::c,b::m,_,h=>by
  unfold asM at h;split at h
  ·rename_i z
   obtain ⟨a,i,h⟩:=bS h;obtain ⟨j,has,h⟩:=bS h;ext h;obtain ⟨p,q⟩:=ztr H C has;have k:PE X e (tA X.K a):=by
    cases b with
    |true=>exact zah H C (by simpa using i)
    | false =>
     obtain⟨g,l,i⟩:=bS (show (f S e).bind _=Za a from by simpa using i);ext i;exact (H X S d C _ _ l).wk λ_ _ _=>zf9
   exact⟨(pac k p z).wk λ_ _ _=>zql,by rw[Cb,z,q];rfl⟩
  ·exists h
 |[],_::_,_,h=>by exists h
 |_::_,[],_,h=>by exists h
end
abbrev cmpE (f:Sx->Zi->Option GE) (S:Sx) (a:Zi) (ops:List CmpOp) (c:List Zi):Option GE:=match ops,c with
 |[d],[b]=>if zmb b then (zbb f S a).bind λx=>(zbb f S b).bind λy=>(cmpO d).bind λo=>Za (gOp2 o x y) else Zb
 |_,_=>Zb
abbrev z7a (f:Zi->Option GE) (op:BoolOp):Zi->List Zi->Option GE
 |v,[]=>f v
 |v,u::c=>match op with|.And=>(f v).bind λa=>(z7a f op u c).bind λb=>Za (gAnd a b)|.Or=>Zb
abbrev z47 (f:Zi->Option GT) (op:BoolOp):Zi->List Zi->Option GT
 |v,[]=>f v
 |v,u::c=>(f v).bind λa=>(z47 f op u c).bind λb=>Za (match op with|.And=>zhk a b|.Or=>gOrT a b)
section
variable {X:Cx}{S:Sx}{d:Nat}{f:Sx->Zi->Option GE}
theorem z5v (H:zbp f)(C:CxOk X S d){a:Zi}{ops:List CmpOp}{c:List Zi}{g:GE}{pos:Pos}(h:cmpE f S a ops c=Za g):PE X (.Compare a ops c pos) (tE X.K g)/\PT X (.Compare a ops c pos) (tT X.K (zak g)):=by
 unfold cmpE at h;split at h
 ·rename_i m b;split at h
  ·rename_i z;nofun;obtain⟨x,j,h⟩:=bS h;obtain⟨y,e,h⟩:=bS h;obtain⟨o,l,h⟩:=bS h;ac_rfl;ext h;obtain⟨r,k,i⟩:=z4b (X:=X) C.room l;exact⟨(zvd k (zah H C j) (zah H C e) (zga z)).wk λ_ _ _=>zdr i,(zvk k (zah H C j) (zah H C e) (zga z)).wk λ_ _ _=>zgl λ_ _ _=>zdr i⟩
  ·exists h
 ·exists h
theorem zq7 {f:Zi->Option GE} (H:∀e g,f e=Za g->PE X e (tE X.K g)) {op:BoolOp}{pos:Pos}:∀{v:Zi}{c:List Zi}{g:GE},z7a f op v c=Za g->PE X (.BoolOp op (v::c) pos) (tE X.K g)
 |v,[],g,h=>z91 (H v g h)
 | v,u::j,g,h=>by
  cases op with
  | And =>
   obtain⟨a,i,h⟩:=bS h;obtain⟨b,d,h⟩:=bS h;ext h;exact (ybe (H v a i) (zq7 H d)).wk λ_ _ _=>zy3
  |Or=>exists h
theorem zj7 {i:Zi->Option GT} (H:∀e g,i e=Za g->PT X e (tT X.K g)) {op:BoolOp}{pos:Pos}:∀{v:Zi}{d:List Zi}{g:GT},z47 i op v d=Za g->PW X (.BoolOp op (v::d) pos) (tT X.K g)
 | v,[],g,h=>by
  cases op with
  |And=>exact z4k (H v g h)
  |Or=>exact z3p (H v g h)
 | v,u::j,g,h=>by
  obtain⟨a,f,h⟩:=bS h;obtain⟨b,c,h⟩:=bS h;ext h;cases op with
  |And=>exact (z8x (H v a f) (zj7 H c)).wk λ_ _ _=>zv9
  |Or=>exact (z9w (H v a f) (zj7 H c)).wk λ_ _ _=>z0z
end
theorem yaa:bootBuiltins "min" = Za (.builtin "min"):=by decide +kernel
theorem z3f:bootBuiltins "max" = Za (.builtin "max"):=by decide +kernel
abbrev bltO (x:Str):Option ON :=
 if x==("len" : Str) then Za oLen else if x==("abs" : Str) then Za oAbs else if x==("int" : Str) then Za oInt else if x==("tuple" : Str) then Za za3 else if x==("all" : Str) then Za (oBl λbs=>bs.all id) else if x==("any" : Str) then Za (oBl λbs=>bs.any id)
 else if x==("sum" : Str) then Za oSum else if x==("min" : Str) then Za oMin else if x==("max" : Str) then Za oMax else Zb
section
variable {X:Cx}{S:Sx}{d:Nat}
set_option maxHeartbeats 4000000 in
theorem z3q (C:CxOk X S d){x:Str}{o:ON}{e:Zi}{es:List Zi}{t:TA}{p pos:Pos}(f:S.bl x=Zd)(h:bltO x=Za o)(a:PA X (e::es) t)(c:(e::es).all zaj=Zd):∃r,PE X (.Call (.Name x p) (e::es) [] pos) (tCB r t)/\OpSN X.K r o:=by
 obtain⟨g,m⟩:=zho C f;rw[Cb,Ae] at c;have s:=zag (env:=X.env) (es:=es) c.1;have b:=zji (env:=X.env) (pos:=pos) c.2;unfold bltO at h;split at h
 ·rename_i z;ext h;have e:=Bl z;subst e;exact⟨_,zbn zlv g m yaw a #v[0,9] #v[0,9] s b,z6k⟩
 split at h
 ·rename_i z;ext h;have e:=Bl z;subst e;exact⟨_,zbn zzv g m z89 a #v[0,9] #v[0,9] s b,z35⟩
 split at h
 ·rename_i z;ext h;have e:=Bl z;subst e;exact⟨_,zmc zv4 g m z20 a #v[0,9] #v[0,9] s b,z5n⟩
 split at h
 ·rename_i z;ext h;have e:=Bl z;subst e;exact⟨_,zmc zjj g m zpo a #v[0,9] #v[0,9] s b,zwt⟩
 split at h
 ·rename_i z;ext h;have e:=Bl z;subst e;exact⟨_,zbn (z00 C.calm) g m yar a #v[0,9] #v[0,9] s b,z29⟩
 split at h
 ·rename_i z;ext h;have e:=Bl z;subst e;exact⟨_,zbn (zzw C.calm) g m z77 a #v[0,9] #v[0,9] s b,z29⟩
 split at h
 ·rename_i z;ext h;have e:=Bl z;subst e;exact⟨_,zbn (zwl C.calm) g m z81 a #v[0,9] #v[0,9] s b,z7y⟩
 split at h
 ·rename_i z;ext h;have e:=Bl z;subst e;exact⟨_,zbn (zvq C.calm) g m yaa a #v[0,9] #v[0,9] s b,z40⟩
 split at h
 ·rename_i z;ext h;have e:=Bl z;subst e;exact⟨_,zbn (zxg C.calm) g m z3f a #v[0,9] #v[0,9] s b,z5p⟩
 exists h
abbrev z8s (x:Str):Option ON:=bltO x
theorem zzm (C:CxOk X S d){x:Str}{o:ON}{e:Zi}{es:List Zi}{t:TA}{p pos:Pos}(b:S.bl x=Zd)(h:z8s x=Za o)(c:PA X (e::es) t)(a:(e::es).all zaj=Zd):∃r,PE X (.Call (.Name x p) (e::es) [] pos) (tCB r t)/\OpSN X.K r o:=by
 exact z3q C b h c a
end
abbrev kdOf (x:Str):Option Kd:=if x==("int" : Str) then Za .int else if x==("bool" : Str) then Za .bool else if x==("str" : Str) then Za .str else if x==("tuple" : Str) then Za .tuple else if x==("list" : Str) then Za .list else Zb
theorem z48 {x:Str}{k:Kd}(h:kdOf x=Za k):bootBuiltins x=Za (.type k.nm)/\x≠("__name__" : Str)/\(x==("__debug__" : Str))=Zc:=by
 unfold kdOf at h;split at h
 ·rename_i z;ext h;have e:=Bl z;subst e;exact⟨z20,by decide,by decide⟩
 split at h
 ·rename_i z;ext h;have e:=Bl z;subst e;exact⟨z3r,by decide,by decide⟩
 split at h
 ·rename_i z;ext h;have e:=Bl z;subst e;exact⟨z9y,by decide,by decide⟩
 split at h
 ·rename_i z;ext h;have e:=Bl z;subst e;exact⟨zpo,by decide,by decide⟩
 split at h
 ·rename_i z;ext h;have e:=Bl z;subst e;exact⟨z57,by decide,by decide⟩
 exists h
abbrev zfd:W->Option (W×Bool)
 |.int i=>#v[(Builtin.Int.intBits i),0]
 |_=>Zb
theorem zvb {X:Cx}:MtR X "int.bit_length" (λx a H Q=>∃i,x=.int i/\a=[]/\Q (.int (Builtin.Int.intBits i)) H):=by
 intro pins s σ H x a v u Q I b r h;obtain⟨i,rfl,rfl,q⟩:=h;obtain⟨t,rfl⟩:=b;cases r;exact call_int_bit_length ⟨.int _,H,I.tok _,⟨_,rfl⟩,q⟩
theorem zo0 {K:Zg}{a:GA}{σ:St}{H:Hp}{Q:VK} (h:tE K (gOp1 zfd a) σ H Q):tBM0 K "int" (λx v H Q=>∃i,x=.int i/\v=[]/\Q (.int (Builtin.Int.intBits i)) H) (tA K a) σ H Q:=by
 nofun;obtain⟨F,pr,en,m,o,R,h,q⟩:=h;obtain⟨⟨k,j⟩,f,h⟩:=bS h;obtain⟨w,b,h⟩:=bS h;obtain⟨r,c,h⟩:=bS h;ac_rfl;cases h;refine⟨F,pr,en,k,j,R,f,λg e n s d l=>?_⟩;cases w with
 | int i =>
  ext c;have:=(l.repB d b).int;subst this;exact⟨rfl,i,rfl,rfl,q g e _ s d (.int _)⟩
 |_=>cases c
abbrev rCnt:V->List V->Hp->VK->Prop:=λx v H Q=>∃(l:Zh) (n:List Int) (k:Int),x=.ref l/\v=[.int k]/\H l=Za (.lst (n.map V.int))/\Q (.int (n.count k:Nat)) H
theorem z73 {X:Cx}:MtR X "list.count" rCnt:=by
 intro pins s σ H x g v j Q I d c h;obtain⟨l,m,k,rfl,rfl,b,q⟩:=h;cases d;obtain⟨u,rfl,a⟩:=c.one;obtain⟨t,rfl⟩:=a;obtain⟨z,i,n,r,f,e⟩:=I.lstM b;exact count_list_ints ⟨_,e,rfl,n,rfl⟩ (zie r) ⟨.int _,H,I.tok _,⟨_,rfl⟩,q⟩
abbrev rIdx:V->List V->Hp->VK->Prop:=λx v H Q=>∃(l:Zh) (n:List Int) (k:Int),x=.ref l/\v=[.int k]/\H l=Za (.lst (n.map V.int))/\k∈n/\Q (.int (n.idxOf k:Nat)) H
theorem z8b {X:Cx}:MtR X "list.index" rIdx:=by
 intro pins s σ H x E v F Q I B A h;obtain⟨l,a,k,rfl,rfl,D,w,q⟩:=h;cases B;obtain⟨u,rfl,C⟩:=A.one;obtain⟨t,rfl⟩:=C;obtain⟨z,i,n,r,o,e⟩:=I.lstM D;have b:=zie r;have m:=b.length;have g:a.idxOf k<a.length:=List.idxOf_lt_length_iff.mpr w;have f:sizeLine=16777216:=sizeLine_eq;rw[Ab] at z o;refine Gp Fq ⟨_,e,rfl⟩ PySem.F.entry_list_index (PySem.F.args_list_index_2 _ _)
  (PySem.SeqAt.list_indexAt l i.toArray n Zb #[] (.int k t) (isInt k) (a.idxOf k) (by rw[An];symm) #v[] ?_ ?_) ⟨e,λy p=>(eq_isInt k t b y (by simpa using p)).at _ _,⟨.int _,H,I.tok _,⟨_,rfl⟩,q⟩⟩
 ·show isInt k i[a.idxOf k]=Zd;rw[isInt_at k b _ #v[] g];simpa using List.getElem_idxOf g
 ·intro j c d;show isInt k i[j]=Zc;rw[isInt_at k b j (by simpa using c) #v[]];exact ne_of_lt_idxOf d _
abbrev cCnt:List Int->Int->Option Int:=λn k=>Za (n.count k:Nat)
abbrev cIdx:List Int->Int->Option Int:=λn k=>if k∈n then Za (n.idxOf k:Nat) else Zb
abbrev cntF (n:Str):Option (List Int->Int->Option Int):=if n==("count" : Str) then Za cCnt else if n==("index" : Str) then Za cIdx else Zb
abbrev zww (c:List Int->Int->Option Int) (i:Nat) (g:GE):GE:=λen=>match en[i]? with
 | some (Za (.lst _,_))=>(g en).bind λp=>match p.2.1,p.1[i]? with
  |.int k,Za (Za (.lst w,_))=>(zch w).bind λn=>(c n k).bind λz=>Za (p.1,(.int z,Zc))
  |_,_=>Zb
 |_=>Zb
theorem zl0 {K:Zg}{σ:St}{H:Hp}{c:List Int->Int->Option Int}{r:V->List V->Hp->VK->Prop}(A:∀(l:Zh) (n:List Int) (k z:Int) (H:Hp) (Q:VK),H l=Za (.lst (n.map V.int))->c n k=Za z->Q (.int z) H->r (.ref l) [.int k] H Q){i:Nat}{g:GE}{Q:VK}(h:tE K (zww c i g) σ H Q):tBM K "list" r (tVar i) (za4 (tE K g) tNil) σ H Q:=by
 nofun;obtain⟨F,pr,en,M,T,R,h,q⟩:=h;ac_rfl;unfold zww at h;split at h
 ·rename_i W X d;nofun;obtain⟨U,b⟩:=R.has d;obtain⟨a,w,rfl,u,_⟩:=(R.repB d b).lst R.sub;obtain⟨⟨L,y,x⟩,B,h⟩:=bS h;ac_rfl;refine⟨.ref a,b,.inl ⟨rfl,w,SqL.of' u⟩,F,pr,en,L,(y,x),R,B,λD o O s f C=>?_⟩;split at h
  ·rename_i k N P e j;simp only at e;subst e;nofun;obtain⟨n,E,h⟩:=bS h;obtain⟨z,G,h⟩:=bS h;obtain⟨S,I,v,m,p⟩:=(f.repB j b).lst f.sub;ac_rfl;cases v;cases h;have t:=C.isInt;subst t;rw[zcl E] at p;have J:=p.ints;subst J;exact A _ _ _ _ _ _ m G (q D o _ s f (.int _))
  ·exists h
 ·exists h
abbrev ycc (o:Option (List Int->Int->Option Int)) (i:Nat) (g:GE) (y:Option GE):Option GE:=match o with
 |some c=>Za (zww c i g)
 |none=>y
theorem zsu {o:Option (List Int->Int->Option Int)}{i:Nat}{g a:GE}{y:Option GE}(h:ycc o i g y=Za a):(∃c,o=Za c/\zww c i g=a)\/y=Za a:=by
 cases o with
 |none=>exact .inr h
 |some c=>exact .inl ⟨c,rfl,sI h⟩
abbrev zx9:Zi->Bool
 |.Call _ _ _ _=>Zd
 |_=>Zc
theorem z7d {o:Zi}{a:Str}{env:Env}{w:Sem Ze}(h:zx9 o=Zc):attributeBase o a env w=w:=by
 cases o<;>first|rfl|(cases h)
abbrev z5l (f:Sx->Zi->Option GE) (S:Sx) (o:Zi) (name:Str) (apos:Pos) (args:List Zi) (cpos:Pos):Option GE :=
 if !(apos.endLine==cpos.line)||zx9 o then Zb else match args with
 |[]=>if name==("bit_length" : Str) then (zbb f S o).bind λa=>Za (gOp1 zfd a) else Zb
 | [e]=>if !zaj e then Zb else match o with
  |.Name x _=>(S.rd x).bind λi=>(f S e).bind λg=>ycc (cntF name) i g <| if name==("append" : Str) then Za (gApp i g) else Zb
  |_=>Zb
 |_=>Zb
theorem zoa {e:Zi}{env:Env}{cpos:Pos}(h:zaj e=Zd):((backTo cpos (starEach [e] env)).all (λx=>!x.1)&&(backToKw cpos (keywordEach [] env)).all (λx=>x.1.isSome)&&decide (([e]:List Zi).length+([]:List Keyword).length+(if ([]:List Keyword).isEmpty then 0 else 1)<30))=Zd:=by
 rw[zag h];rfl
theorem z5d {X:Cx}{o e:Zi}{name:Str}{apos cpos:Pos}{i:Nat}{g:GE}{c:List Int->Int->Option Int}(m:PE X o (tVar i))(p:PA X [e] (za4 (tE X.K g) tNil))(j:attributeBase o name X.env (eval o X.env)=eval o X.env)(y:zaj e=Zd)(z:(apos.endLine==cpos.line)=Zd)(a:cntF name=Za c):PE X (.Call (.Attribute o name apos) [e] [] cpos) (tE X.K (zww c i g)):=by
 unfold cntF at a;split at a
 ·rename_i q;ext a;have b:=Bl q;subst b;exact (zs2 Dl PySem.F.slot_list_count PySem.F.type_list_count z73 m p j (zoa y) z (zag y) rfl).wk λ_ _ _=>zl0 λl n k z H Q f h d=>by
   ext h;exact⟨l,n,k,rfl,rfl,f,d⟩
 ·split at a
  ·rename_i q;ext a;have b:=Bl q;subst b;exact (zs2 Dl Fq PySem.F.type_list_index z8b m p j (zoa y) z (zag y) rfl).wk λ_ _ _=>zl0 λl n k z H Q f h d=>by
    unfold cIdx at h;split at h
    ·rename_i r;ext h;exact⟨l,n,k,rfl,rfl,f,r,d⟩
    ·exists h
  ·exists a
section
variable {X:Cx}{S:Sx}{d:Nat}{f:Sx->Zi->Option GE}
theorem z0w (H:zbp f)(C:CxOk X S d){o:Zi}{name:Str}{apos cpos:Pos}{args:List Zi}{g:GE}(h:z5l f S o name apos args cpos=Za g):PE X (.Call (.Attribute o name apos) args [] cpos) (tE X.K g):=by
 unfold z5l at h;split at h
 ·exists h
 ·rename_i z;rw[Cg,not_or,Bk,Bk,Cs] at z;have b:=z7d (a:=name) (env:=X.env) (w:=eval o X.env) z.2;split at h
  ·split at h
   ·rename_i y;have e:=Bl y;subst e;obtain⟨a,m,h⟩:=bS h;ext h;exact (yaf PySem.F.plainAttrs_int PySem.F.slot_int_bit_length PySem.F.type_int_bit_length zvb (zah H C m) b z.1).wk λ_ _ _=>zo0
   ·exists h
  ·rename_i e;split at h
   ·exists h
   ·rename_i y;rw[Bk,Cs] at y;split at h
    ·rename_i x s;obtain⟨i,j,h⟩:=bS h;obtain⟨n,l,h⟩:=bS h;have p:PA X [e] (za4 (tE X.K n) tNil):=pac (H X S d C _ _ l) za9 y;rcases zsu h with⟨c,r,rfl⟩|h
     ·exact z5d (zox C j) p b y z.1 r
     split at h
     ·rename_i q;ext h;have k:=Bl q;subst k;exact (zs2 Dl PySem.F.slot_list_append PySem.F.type_list_append zgp (zox C j) p b (zoa y) z.1 (zag y) rfl).wk λ_ _ _=>z1z
     ·exists h
    ·exists h
  ·exists h
end
abbrev z6j (f:Sx->Zi->Option GE) (S:Sx) (x:Str) (args:List Zi):Option GE:=if x==("__debug__" : Str) then Zb else match args with
 |[]=>Zb
 | e::b=>match S.fs.lookup x with
  |some (m,Φ)=>if S.kd.lookup x==Za .globalImplicit then (asM f S (e::b) m).bind λc=>Za (zac m Φ c) else Zb
  | none=>if x==("isinstance" : Str)&&S.bl x then (match e,b with
    |e,[.Name t _]=>if zaj e&&S.bl t then (kdOf t).bind λk=>(zbb f S e).bind λa=>Za (gOp1 (oIsi k) a) else Zb
    |_,_=>Zb)
   else if S.bl x then (z8s x).bind λo=>(asL (zbb f S) (e::b)).bind λc=>Za (gOpN o c) else Zb
theorem z0b {X:Cx}{S:Sx}{d:Nat}{f:Sx->Zi->Option GE}(H:zbp f)(C:CxOk X S d){x:Str}{args:List Zi}{g:GE}{p pos:Pos}(h:z6j f S x args=Za g):PE X (.Call (.Name x p) args [] pos) (tE X.K g):=by
 unfold z6j at h;split at h
 ·exists h
 ·rename_i b;rw[Bk] at b;split at h
  ·exists h
  ·rename_i e P;split at h
   ·rename_i m Φ q;split at h
    ·rename_i u;obtain⟨N,has,h⟩:=bS h;ext h;obtain⟨Q,O,l⟩:=C.fs x m Φ q;obtain⟨c,s⟩:=ztr H C has;rw[Cb,Ae] at s;exact (yab l C.room (C.gl x (by simpa using u)) c (Af _) b (zag s.1) (zji s.2)).wk λ_ _ _=>zgw
    ·exists h
   ·split at h
    ·rename_i j;rw[Ae] at j;have L:=Bl j.1;subst L;obtain⟨J,A⟩:=zho C j.2;split at h
     ·rename_i t pt;split at h
      ·rename_i z;rw[Ae] at z;obtain⟨k,F,h⟩:=bS h;obtain⟨a,i,h⟩:=bS h;ext h;obtain⟨K,E,M⟩:=z48 F;obtain⟨G,w⟩:=zho C z.2;have n:PE X (.Name t pt) (tC (.ty k.nm)):=zyh G w K rfl E M;have c:PA X [e,.Name t pt] (za4 (tA X.K a) (za4 (tC (.ty k.nm)) tNil)):=pac (zah H C i) (pac n za9 rfl) z.1;exact (zbn z15 J A zcr c #v[0,9] b (zag z.1) rfl).wk λ_ _ _=>z0s
      ·exists h
     ·exists h
    ·split at h
     ·rename_i y;obtain⟨o,B,h⟩:=bS h;obtain⟨N,has,h⟩:=bS h;ext h;obtain⟨c,s⟩:=zif (λe a i=>zah H C i) has;obtain⟨r,I,D⟩:=zzm (pos:=pos) (p:=p) C y B c s;exact I.wk λ_ _ _=>zzb D
     ·exists h
abbrev dOn (S:Sx) (x:Str):Bool:=S.bn.contains (("d " : Str)++x)
abbrev zo3 (f:Sx->Zi->Option GE) (S:Sx) (t e:Zi):Option GL:=if !zmb e then Zb else match e with
 | .Call (.Name x _) args [] _ =>
  if x==("range" : Str)&&S.bl x then (match args with
   |[a]=>if zaj a then (asL (zbb f S) [a]).bind λc=>Za (zbw c) else Zb
   |[a,b]=>if zaj a&&zaj b then (asL (zbb f S) [a,b]).bind λc=>Za (zx5 c) else Zb
   |_=>Zb)
  else if x==("enumerate" : Str)&&S.bl x then (match args,t with
   |[a],.Tuple _ _ _=>if zaj a then (f S a).bind λg=>Za (zr8 g) else Zb
   |_,_=>Zb)
  else if x==("reversed" : Str)&&S.bl x then (match args with
   |[a]=>if zaj a then (f S a).bind λg=>Za (gRev g) else Zb
   |_=>Zb)
  else if x==("zip" : Str)&&S.bl x then (match args,t with
   |[a,b],.Tuple _ _ _=>if zaj a&&zaj b then (f S a).bind λg=>(f S b).bind λd=>Za (gZip g d) else Zb
   |_,_=>Zb)
  else (f S e).bind λg=>Za (zam g)
 |_=>(f S e).bind λg=>Za (zam g)
theorem ze3 {X:Cx}{S:Sx}{d:Nat}{f:Sx->Zi->Option GE}(H:zbp f)(C:CxOk X S d){t e:Zi}{g:GL}(h:zo3 f S t e=Za g):PI X t e (tI X.K g)/\∀x,foldedSetIterable e X.env x=pure x:=by
 unfold zo3 at h;split at h
 ·exists h
 ·rename_i o;rw[Bk,Cs] at o;refine⟨?_,zte o⟩;split at h
  ·rename_i x A args w;split at h
   ·rename_i z;rw[Ae] at z;have j:=Bl z.1;subst j;obtain⟨i,m⟩:=zho C z.2;split at h
    ·rename_i a;split at h
     ·rename_i y;obtain⟨v,has,h⟩:=bS h;ext h;obtain⟨p,_⟩:=zif (λe a l=>zah H C l) has;exact (zul i m p (zag y)).wk λ_ _ _=>zu8
     ·exists h
    ·rename_i a b;split at h
     ·rename_i y;rw[Ae] at y;obtain⟨v,has,h⟩:=bS h;ext h;obtain⟨p,_⟩:=zif (λe a l=>zah H C l) has;exact (zug i m p (by rw[zag y.1,zag y.2];rfl) (zag y.2)).wk λ_ _ _=>zvh
     ·exists h
    ·exists h
   ·split at h
    ·rename_i z;rw[Ae] at z;have j:=Bl z.1;subst j;obtain⟨i,m⟩:=zho C z.2;split at h
     ·rename_i a q s u;split at h
      ·rename_i y;obtain⟨k,c,h⟩:=bS h;ext h;exact (z1u i m (pac (H X S d C _ _ c) za9 y) (zag y)).wk λ_ _ _=>zu5
      ·exists h
     ·exists h
    ·split at h
     ·rename_i z;rw[Ae] at z;have j:=Bl z.1;subst j;obtain⟨i,m⟩:=zho C z.2;split at h
      ·rename_i a;split at h
       ·rename_i y;obtain⟨k,c,h⟩:=bS h;ext h;exact (z85 i m (pac (H X S d C _ _ c) za9 y) (zag y)).wk λ_ _ _=>z1c
       ·exists h
      ·exists h
     ·split at h
      ·rename_i z;rw[Ae] at z;have j:=Bl z.1;subst j;obtain⟨i,m⟩:=zho C z.2;split at h
       ·rename_i a b q s u;split at h
        ·rename_i y;rw[Ae] at y;nofun;obtain⟨k,c,h⟩:=bS h;obtain⟨r,n,h⟩:=bS h;ac_rfl;ext h;exact (ybf i m (pac (H X S d C _ _ c) (pac (H X S d C _ _ n) za9 y.2) y.1) (by rw[zag y.1,zag y.2];rfl) (zag y.2)).wk λ_ _ _=>zzj
        ·exists h
       ·exists h
      ·obtain⟨k,c,h⟩:=bS h;ext h;exact (z28 (H X S d C _ _ c)).wk λ_ _ _=>zke
  ·obtain⟨k,c,h⟩:=bS h;ext h;exact (z28 (H X S d C _ _ c)).wk λ_ _ _=>zke
abbrev zgm (S:Sx):List Zi->Option (List Nat)
 |[]=>Za []
 |.Name x _::e=>(S.wr x).bind λi=>(zgm S e).bind λa=>Za (i::a)
 |_=>Zb
abbrev tgE (S:Sx):Zi->Option Tg
 |.Name x _=>(S.wr x).bind λi=>Za (.nm i)
 |.Tuple e _ _=>(zgm S e).bind λa=>Za (.tp a)
 |_=>Zb
section
variable {X:Cx}{S:Sx}{d:Nat}
theorem zhy (C:CxOk X S d):∀(f:List Zi) {g:List Nat},zgm S f=Za g->PGs X f (zhx g)/\(assignEach f X.env).length=g.length/\(assignEach f X.env).findIdx? (·.1)=Zb:=by
 intro f
 induction f with
 |nil=>intro g h;ext h;exact⟨zuu,rfl,rfl⟩
 | cons e f n =>
  intro g h;obtain ⟨x,p,rfl⟩ : ∃x p,e=.Name x p:=by
   cases e with
   |Name x p=>exact⟨x,p,rfl⟩
   |_=>exists h
  nofun;obtain⟨i,m,h⟩:=bS (show (S.wr x).bind _=_ from h);obtain⟨g,j,h⟩:=bS h;ac_rfl;ext h;nofun;obtain⟨a,b,c⟩:=n j;obtain⟨l,k,w⟩:=ztb C m;ac_rfl;refine⟨zjr (zj5 (ndN C) l k w) a rfl,congrArg (· + 1) b,?_⟩;show List.findIdx? (·.1) ((Zc,assign (.Name x p) X.env)::assignEach f X.env)=Zb;rw[List.findIdx?_cons,c]
  rfl
theorem zqm (C:CxOk X S d){e:Zi}{T:Tg}(h:tgE S e=Za T):PG X e (TGof X.K T):=by
 unfold tgE at h;split at h
 ·obtain⟨i,k,h⟩:=bS h;ext h;obtain⟨j,g,w⟩:=ztb C k;exact zj5 (ndN C) j g w
 ·obtain⟨l,f,h⟩:=bS h;ext h;obtain⟨a,b,c⟩:=zhy C _ f;exact zwx C.calm a b c
 ·exists h
end
abbrev z4n (te:GE):Fn:=zaf [Zc] 1 (gRet te)
abbrev lamΦ (te:GE) (w:W):Option W:=(z4n te [w]).bind λp=>if p.1.length=1 then Za p.2.1 else Zb
abbrev zv3 (te:GE) (a:GA):GE:=λen=>(a en).bind λp=>(resA p.1 p.2).bind λw=>(seqL w).bind λb=>(mapO (lamΦ te) b).bind λk=>(zlt k b).bind λout=>Za (p.1,(.lst out,Zd))
theorem zmn {scope:Scope}{env:Env} (h:(scope.names.all λp=>!(p.2==NameKind.free))=Zd):closureFor scope env=pure []:=by
 unfold closureFor;have go:∀(names:List (Str×NameKind)) (a:List (Str×Zh)),(names.all λp=>!(p.2==NameKind.free))=Zd->(forIn names a λ(p:Str×NameKind) a=>(if p.2==NameKind.free then do let c <- cellOf env p.1;pure (ForInStep.yield ((p.1,c)::a)) else pure (ForInStep.yield a):Sem (ForInStep (List (Str×Zh)))))=pure a:=by
  intro names
  induction names with
  |nil=>intro a _;rw[Ex]
  | cons p r i =>
   intro a h;rw[Cb,Ae] at h;rw[Gi];have e:(p.2==NameKind.free)=Zc:=by simpa using h.1
   simp only [e,Dh,Gd,pure_bind];exact i a h.2
 have:=go scope.names [] h;simpa using this
theorem z5w {P:Program}{w:World}{K:Zg}{m:Str->Option Ze}{base:Heap}{k:Nat}{f c':Zh}{qual:Str}{p:Arguments}{body:Zi}{scope:Scope}{pm ctv:Ze}{N ps:List Str}{A:Around}{outer:List Env}{s:Zf}{H:Hp}{us:List Ze}{vs:List V}{Q:VK}{E:XK}
  (O:s.heap.get? f=Za (PySem.W.kla_obj "<lambda>" qual p body scope [] pm c' ctv)) (d:s.heap.CodeRec (.ref c') qual) (S:FnScope N ps scope) (g:Room (k+1) A) (e0:Env0 P w K m base A outer s H)
  (j:bindArgs (PySem.W.kla_fn "<lambda>" qual p body scope [] pm (.ref c') ctv) ⟨us,[]⟩=pure (ps.zip us)) (r:Vals vs us) (z:vs.length=ps.length)
  (h:Room k (A.deeper (envOfC qual scope s.heap.objs.size f (.ref c')))->∃t,PE (cxOf CX0 P w K m base N qual scope f (.ref c') A outer s H E).nox body t/\t (start N vs) H Q) :
  codeAny (model P w) A (.call (.ref f) ⟨us,[]⟩) (CR CX0 outer P w H s Q E) s:=by
 have l:s.heap.NoLimit:=e0.mod.nolimit.keeps λb o e=>(e0.bs b o e).1;have a:∀y∈ps.zip us,scope.names.lookup y.1=Za .local\/#v[6,12]:=λ⟨n,v⟩ B=>by
  rcases S.par n (Eo B).1 with q|q
  ·exact .inl q
  ·exact .inr ⟨q,Fu _ _ _ (.inl q)⟩
 refine PySem.W.kla_callFunE g.depth O rfl S.co S.gen rfl d ?_;rw[j];refine Ak (wpAny_newFunctionEnv_cells S.kind a λenv M i x=>?_);subst M;refine⟨l.keeps x.toInCall.keep,PySem.W.kla_codeExpr ?_⟩;obtain⟨t,G,C⟩:=h (g.deeper _);have I:Inv (cxOf CX0 P w K m base N qual scope f (.ref c') A outer s H E) [] (start N vs) H i:=zl4 S g.hd e0 z r x;refine Bw (G.nox [] i (start N vs) H Q I C) (λu L c=>?_) λe L c=>c;obtain⟨v,D,J,F,q⟩:=c;exact⟨v,D,J.os,J.bare,J.base,J.hok,F,q⟩
abbrev zg6 (p:Arguments):Option Str:=match p.posonlyargs,p.args,p.vararg,p.kwonlyargs,p.kwarg,p.defaults,p.kw_defaults with
 |[],[a],Zb,[],Zb,[],[]=>Za a.arg
 |_,_,_,_,_,_,_=>Zb
theorem z0g {b:Arguments}{p:Str}(h:zg6 b=Za p){qual:Str}{body:Zi}{scope:Scope}{pm ctv:Ze}{c':Zh}{u:Ze}:bindArgs (PySem.W.kla_fn "<lambda>" qual b body scope [] pm (.ref c') ctv) ⟨[u],[]⟩=pure ([p].zip [u]):=by
 nofun;obtain⟨n,r,v,o,s,l,m⟩:=b;ac_rfl;unfold zg6 at h;split at h
 ·rename_i a j k q i g c f;simp only at j k q i g c f;subst j k q i g c f;ext h;have e:([(a.arg,u)]:List (Str×Ze)).lookup a.arg=Za u:=by simp [List.lookup]
  have d:seqItems? (Ze.none)=(pure Zb:Sem _):=rfl;unfold bindArgs;simp [e,d]
 ·exists h
abbrev zo6 (scope:Scope) (p:Str):Bool:=decide (scope.kind=.function) && !scope.isCoroutine && !scope.isGenerator&&decide (scope.names.lookup p=Za .local)&&(scope.names.all λq=>!(q.2==NameKind.free))
theorem zy0 {scope:Scope}{p:Str}(h:zo6 scope p=Zd):FnScope [p] [p] scope:=by
 unfold zo6 at h;simp only [Ae,Fx,Dy] at h;obtain⟨⟨⟨⟨g,b⟩,e⟩,f⟩,c⟩:=h;refine⟨g,b,e,by simp,rfl,λx d=>.inl (by rw[Ax.mp d];exact f),λy a z=>?_⟩;have:=Bd.mp c y a;rw[z] at this;cases this
abbrev lamS (S:Sx) (scope:Scope) (p:Str):Sx:={ N:=[p],kd:=scope.names,bn:=S.bn,fs:=[],mp:=[],top:=Zd }
section
variable {X:Cx}{S:Sx}{d:Nat}
theorem zzy {fE:Sx->Zi->Option GE} (HE:zbp fE) {f c':Zh}{qual:Str}{a:Arguments}{body:Zi}{scope:Scope}{pm ctv:Ze}{p:Str}{te:GE} (B:zg6 a=Za p) (Z:zo6 scope p=Zd) (ht:fE (lamS S scope p) body=Za te) (q:∀x∈S.bn,X.mg x=Zb) (z:("g SIGNS" : Str)∈S.bn->∃t,X.mg "SIGNS" = Za (.str "abcdef" t)) (M:Room 1 X.A) :
  KCall X (.ref f) (lamΦ te) (λpins F=>(f,PySem.W.kla_obj "<lambda>" qual a body scope [] pm c' ctv)∈pins/\F c'=Za (.ext (zdc c' qual))) where
 mono:=λh B sm=>⟨B _ h.1,sm _ _ h.2⟩
 run:=λpins s σ H F pr en w k v u O I R rp ru A=>by
  have P:=zy0 Z;nofun;obtain⟨⟨c,r⟩,e1,l⟩:=bS A;ac_rfl;split at l
  ·rename_i n
   ext l;have cr:s.heap.CodeRec (.ref c') qual:=by
    nofun;obtain⟨φ,_,_⟩:=(show zbr X.prog X.w H s.heap c' (.ext (zdc c' qual)) from I.hok c' _ (R.sub _ _ O.2));obtain⟨oc,vs,t,g1,g2,U⟩:=φ;ac_rfl;exact⟨c',oc,vs,t,rfl,g1,g2,U⟩
   have ho:=(I.pin _ (Ay _ O.1)).1;have bk:zar (za7 [(Sum.inl w:W ⊕ Nat)]) en (zau [Zc] c)=en:=by
    unfold zar;apply Db;intro i;rw[Ev];cases en[i]? with
    |none=>rfl
    |some x=>rfl
   have V:spF X.K [Zc] (z4n te) [v] H (λd g=>∃b,Same F b/\Rel X.K b pr en σ g/\Rep X.K b r.1 d) E0:=by
    refine zov (xs:=[.inl w]) (en':=en) (r:=r) R (.cons rp .nil) ?_ λb g d T R' y=>?_
    ·show (if (Zd&&Zd&&_)=Zd then _ else Zb)=_
     rw[if_pos (by rfl)];show ((z4n te) [w]).bind _=_;rw[e1];show (if c.length=1 then Za (zar (za7 [(Sum.inl w:W ⊕ Nat)]) en (zau [Zc] c),r) else Zb)=_;rw[if_pos n,bk]
    ·refine aG λGg qG => ?_
     obtain⟨D,o,L,J⟩:=y.freeze R';ac_rfl;exact⟨D,T.trans o,L,J⟩
   refine wpAny_call (Hb (z5w (N:=[p]) (ps:=[p]) (E:=E0) (Q:=λd g=>∃b,Same F b/\Rel X.K b pr en σ g/\Rep X.K b r.1 d) ho cr P M I.env0 ?bind (.cons ru .nil) rfl λK=>?body) λres T j=>?_)
   case bind =>
    exact z0g B
   case body =>
    have rd:=zgq (N:=[p]) V;have C:CxOk (cxOf CX0 X.prog X.w X.K X.mg X.base [p] qual scope f (.ref c') X.A X.stack s H E0).nox (lamS S scope p) 0:={
     N:=rfl
     nd:=by show [p].Nodup;simp
     loc:=λx e=>e
     cel:=λx e=>⟨e,rfl⟩
     vis:=λx e=>e
     gl:=λx e=>e
     calm:=rfl
     xe:=rfl
     bn:=q
     fs:=λx m Φ e=>by exists e
     room:=K
     sl:=by have:=M.un;show X.A.units+3+16*0+205<cLine;symm
     bk:=by
      show (if scope.kind.isAnnotationScope then ScopeKind.function else scope.kind)=.function;rw[P.kind];rfl
     lam:=λh=>absurd (show ("" : Str)∈lams from h) #v[0,0,7]
     dpo:=Cc _
     sg:=z }
    exact⟨_,HE _ _ _ C _ _ ht,zpp rd⟩
   cases res with
   |error e=>exact j.elim
   | ok fl =>
    cases fl with
    | ret u' =>
     nofun;obtain⟨d,g,I',G,b,Y,R1,y1⟩:=I.after j;ac_rfl;exact⟨d,b,g,I',Y,R1,G,y1⟩
    |next=>exact False.elim j
    |brk=>exact False.elim j
    |cont=>exact False.elim j
  ·exists l
variable {pins:List (Zh × Obj)}{σ:St}{H F:Hp}{s:Zf}{pr:Prt}{en:En}
theorem zzs (C:CxOk X S d) (hn:S.nm∈lams) {g:Arguments}{body:Zi}{scope:Scope}{pos:Pos}{p:Str} (hp:zg6 g=Za p) (hs:zo6 scope p=Zd) (I:Inv X pins σ H s) (R:Rel X.K F pr en σ H) {Q:Ze->Zf->Prop}{E:Ze->Zf->Prop}
  (h:∀f j pm G s' J F',Inv X pins σ J s'->Same F F'->Rel X.K F' pr en σ J->s'.heap.get? f=Za (PySem.W.kla_obj "<lambda>" (lamQ S.nm) g body scope [] pm j G)->J f=Zb->Apart X pins f->F' j=Za (.ext (zdc j (lamQ S.nm)))->Q (.ref f) s') :
  wpAny #v[2,7] X.A (eval (.Lambda g body scope pos) X.env) Q E s:=by
 refine aG λ_ qG=>?_;obtain ⟨c,P,ht,hc,ecd,eq⟩:=C.lam hn;obtain ⟨ps,t1,t2,t3,t4,t5⟩:=R.tb.2 S.nm hn c P ht;refine qG ?_;clear qG;have hcl:closureFor scope X.env=pure []:=zmn (by unfold zo6 at hs;simp only [Ae] at hs;exact hs.2);have hg:=I.mod.glob.keeps I.bk;have CH:PySem.W.CodeHd s.heap c P:=PySem.W.codeHd_of_K I.kIn hc;have hP:s.heap.get? P=Za (PySem.W.tabObj ps):=I.hok P _ t1;have hgP:mainGlobals≠P:=λz=>by
  nofun;obtain⟨o,es,ep,L,N,_⟩:=hg;ac_rfl;rw[z,hP] at L;ext L;cases N
 refine aG λ_ qG=>?_;obtain ⟨bm,ob,b1,b2,b3,b4,b5,b6⟩:=I.mod.bmn;refine qG ?_;clear qG;have T:=I.bk _ _ b3;have hbG:bm≠mainGlobals:=λz=>by
  nofun;obtain⟨o,es,ep,L,N,_⟩:=hg;ac_rfl;rw[z,L] at T;ext T;rw[N] at b6;cases b6
 have hbP:bm≠P:=λz=>by
  rw[z,hP] at T;ext T;cases b4
 have hbm:s.heap.BuiltinsAt X.mg P:=⟨bm,ob,b1,b2,hbG,hbP,T,b4,b5,b6⟩;have hdef:defaultsOf g X.env=([],[]):=by
  nofun;obtain⟨po,ar,va,ko,kd,ka,df⟩:=g;ac_rfl;unfold zg6 at hp;split at hp
  ·rename_i a q1 q2 q3 q4 q5 q6 q7
   simp only at q1 q2 q3 q4 q5 q6 q7;subst q1 q2 q3 q4 q5 q6 q7
   rfl
  ·cases hp
 have eq':X.env.qual++"<lambda>" = lamQ S.nm:=by rw[eq];rfl
 refine PySem.W.kla_eval hdef ?_;rw[eq'];cases hf:codeAmong pos ps.toList with
 | some Y =>
  obtain⟨j,rfl,hc'⟩:=t5 pos Y hf;refine PySem.W.kla_makeFunctionHit hcl I.ok.glob hg ecd CH hP t4 hf hbm λG h' tk k hz=>?_;have k2:∀b o,s.heap.get? b=Za o->(h'.push (PySem.W.kla_obj "<lambda>" (lamQ S.nm) g body scope [] ((X.mg "__name__").getD .none) j G)).get? b=Za o:=λb o e=>Ac _ (k b o e);exact h h'.objs.size j _ G _ H F (I.kept k2) (.refl F) R (Aq _ rfl) (I.hok.fresh hz) (I.fpOk (H':=H) hz (I.hok.fresh hz)).apart hc'
 | none =>
  refine PySem.W.kla_makeFunction hcl I.ok.glob hg ecd CH hP t4 hf hgP hbm λj G h' tk hx hge hlt hrec htb=>?_;have U:H j=Zb:=I.hok.fresh hge;have nP:j≠P:=λz=>by rw[z,t1] at U;cases U
  obtain⟨O,W⟩ : ∃O,O=ps++#[rawInt pos.line,rawInt pos.col,.ref j]:=⟨_,rfl⟩;rw[<-W] at htb;have B:s.heap.objs.size<=h'.objs.size:=Nat.le_of_lt (Gr hge hlt);have V:∀b,H b=Zb->b≠P:=λb e z=>by rw[z,t1] at e;cases e
  let fo:=PySem.W.kla_obj "<lambda>" (lamQ S.nm) g body scope [] ((X.mg "__name__").getD .none) j G
  have k2:∀b o,b≠P->s.heap.get? b=Za o->(h'.push fo).get? b=Za o:=λb o D e=>Ac _ (hx b o D e)
  let J:Hp:=upd (upd H P (.tbl O)) j (.ext (zdc j (lamQ S.nm)))
  have M:∀b,b≠P->b≠j->J b=H b:=λb h1 h2=>by show upd (upd H P _) j _ b=_;rw[upd_ne h2,upd_ne h1]
  have hHP:J P=Za (.tbl O):=by show upd (upd H P _) j _ P=_;rw[upd_ne nP.symm,upd_same]
  have hHc:J j=Za (.ext (zdc j (lamQ S.nm))):=upd_same;have nc:∀b o,s.heap.get? b=Za o->b≠j:=λb o e z=>by subst z;exact absurd (Ao e) (Nat.not_lt_of_le hge)
  have Z:∀b u,H b=Za u->b≠j:=λb u e z=>by rw[z,U] at e;cases e
  have K:∀b u,H b=Za u->(∀q,u≠.tbl q)->b≠P:=λb u e hu z=>by rw[z,t1] at e;ext e;exact hu _ rfl
  have I':Inv X pins σ J { s with heap:=h'.push fo,toks:=tk }:=by
   refine I.step (g':=s.gens) (d':=s.drawn) (ch:=[]) (λb D=>by cases D) (λb o _ _ _ e n=>k2 b o (V b n) e) (λb o _ _ _ e n=>⟨o.slots,k2 b o (V b n) e⟩) (λb u _ e n=>by rw [M b (V b n) (nc b u e)];exact n)
    (λb u _ e=>?_) (λb xs e=>by rw[M b (K b _ e λ_ z=>by cases z) (Z b _ e)];exact e) (λb u xs e=>by rw[M b (K b _ e λ_ z=>by cases z) (Z b _ e)];exact e) (λb qs e=>?_) (λm hm=>?_) (λb u e=>?_) I.bare
   ·by_cases D:b=P
    ·subst D;exact⟨_,Ac _ htb⟩
    ·exact⟨u,k2 b u D e⟩
   ·by_cases D:b=P
    ·subst D
     rw[t1] at e;cases e;exact⟨#[rawInt pos.line,rawInt pos.col,.ref j],by rw[hHP,W]⟩
    ·exact⟨#[],by rw[M b D (Z b _ e),e];simp⟩
   ·refine aG λGg qG => ?_
    obtain⟨o,es,ep,ho,r⟩:=hm;ac_rfl;exact⟨o,es,ep,k2 _ o (V _ I.free) ho,r⟩
   ·by_cases D:b=j
    ·subst D
     rw[hHc] at e;ext e;nofun;obtain⟨c2,oc,vs,t,e2,hoc,hd,hv⟩:=hrec;ac_rfl;cases e2;refine⟨⟨oc,vs,t,Ac _ hoc,hd,hv⟩,⟨oc,Ac _ hoc⟩,λh1 h2 ⟨oc,vs,t,L,N,g3⟩ kk=>⟨oc,vs,t,kk oc L,N,g3⟩⟩
    ·by_cases hb2:b=P
     ·subst hb2
      rw[hHP] at e;ext e;exact Ac _ htb
     ·rw [M b hb2 D] at e
      refine (I.hok b u e).stay (λc v hc q=>k2 c v ?_ q) (λc q=>by rw[M c (K c _ q λ_ z=>by cases z) (Z c _ q)];exact q) λc xs q=>by rw[M c (K c _ q λ_ z=>by cases z) (Z c _ q)];exact q
      rcases hc with z|z
      ·rw[z];exact hb2
      ·exact K c _ z λ_ y=>by cases y
  have fc:F j=Zb:=R.sub.free U;have sF:Same F (upd F j (.ext (zdc j (lamQ S.nm)))):=Same.new fc _;have R':Rel X.K (upd F j (.ext (zdc j (lamQ S.nm)))) pr en σ J:=by
   refine⟨R.len,λb u e=>?_,λi w e=>?_,λi w e=>?_,R.inj,λb o q=>?_,R.tb.1,λx hx' c0 P0 e0=>?_⟩
   ·by_cases D:b=j
    ·subst D;rw[upd_same] at e;rw[hHc];exact e
    ·rw [upd_ne D] at e
     have e':=R.sub _ _ e;rw[M b (λz=>by rw[z,t2] at e;cases e) D];exact e'
   ·obtain ⟨v,L,N⟩:=R.val i w e
    exact⟨v,L,N.mono sF⟩
   ·refine aG λGg qG => ?_
    obtain⟨a,o,w',L,N,g3,g4,g5⟩:=R.own i w e;ac_rfl;have na:a≠j:=Z a _ g3;exact⟨a,o,w',L,N,by rw[M a (K a _ g3 λ_ z=>by cases g5<;>cases z) na];exact g3,by rw[upd_ne na];exact g4,g5.mono sF⟩
   ·obtain ⟨L,N,g3⟩:=R.prt b o q
    have nb:b≠j:=Z b _ L;exact⟨by rw[M b (λz=>by subst z;exact t3 o q) nb];exact L,by rw[upd_ne nb];exact N,g3⟩
   ·refine aG λGg qG => ?_
    obtain⟨qs,u1,u2,u3,u4,u5⟩:=R.tb.2 x hx' c0 P0 e0;ac_rfl;by_cases hp0:P0=P
    ·subst hp0
     have ex:x=S.nm:=R.tb.1.1 x hx' S.nm hn c0 c P0 e0 ht;subst ex;rw[t1] at u1;cases u1;refine⟨O,hHP,by rw[upd_ne nP.symm];exact t2,t3,?_,λA Y e2=>?_⟩
     ·rw [W]
      have:=TriplesOk_snoc pos.line pos.col (.ref j) ps.toList t4;simpa using this
     ·rw [W] at e2
      have e3:codeAmong A (ps.toList++[rawInt pos.line,rawInt pos.col,.ref j])=Za Y:=by simpa using e2
      have gen:∀l:List Ze,TriplesOk l->codeAmong A (l++[rawInt pos.line,rawInt pos.col,.ref j])=Za Y->codeAmong A l=Za Y\/Y=.ref j:=λl hl=>by
       fun_induction TriplesOk l with
       | case1 =>
        intro z;show _\/_
        right
        simp only [List.nil_append,rawInt,codeAmong] at z;split at z
        ·exact (sI z).symm
        ·cases z
       | case2 a b c d e rest ih =>
        intro z;simp only [List.cons_append,codeAmong] at z ⊢;split at z
        ·rename_i q;rw[if_pos q];exact .inl z
        ·rename_i q;rw[if_neg q];exact ih hl z
       |case3=>exact hl.elim
      rcases gen ps.toList t4 e3 with z|z
      ·obtain ⟨c2,q1,q2⟩:=u5 A Y z
       exact⟨c2,q1,sF _ _ q2⟩
      ·exact⟨j,z,upd_same⟩
    ·have np0:P0≠j:=Z P0 _ u1
     refine⟨qs,by rw[M P0 hp0 np0];exact u1,by rw[upd_ne np0];exact u2,u3,u4,λA Y e2=>?_⟩;obtain⟨c2,q1,q2⟩:=u5 A Y e2;exact⟨c2,q1,sF _ _ q2⟩
  have nf:J h'.objs.size=Zb:=by
   rw[M _ (λz=>?_) (Nat.ne_of_gt hlt)]
   ·exact I.hok.fresh B
   ·have:=I.hok.fresh B
    rw[z,t1] at this;cases this
  exact h h'.objs.size j _ G _ J _ I' sF R' (Aq _ rfl) nf (I.fpOk (H':=H) B (I.hok.fresh B)).apart upd_same
theorem zy8 (h:Room 2 X.A):Room 1 X.inn.A:=⟨h.hd,by have:=h.dp;show X.A.depth+3*1+5<_;symm,by have:=h.un;show X.A.units+1+1+16*1+200<_;symm,h.gd⟩
abbrev z86 (sq:W->Option (List W)) (S2:List W->List W->Option (List W)) (te:GE) (a:GA):GE:=λen=>(a en).bind λp=>(resA p.1 p.2).bind λw=>(sq w).bind λb=>(mapO (lamΦ te) b).bind λk=>(S2 k b).bind λout=>Za (p.1,(.lst out,Zd))
theorem z9j:∀{w:W}{a:List W},seqL w=Za a->seqW w=Za a:=λ{w a} h=>by
 cases w<;>first|exact h|exists h
theorem z2a {sq:W->Option (List W)}{S2:List W->List W->Option (List W)} (hq:∀{w j},sq w=Za j->seqW w=Za j) (hS:∀{L j out},S2 L j=Za out->zv2 L j out) {fE:Sx->Zi->Option GE} (HE:zbp fE) (C:CxOk X S d) {e:Zi}{a:GA} (ha:zbb fE S e=Za a) (Y:zaj e=Zd) {b:Arguments}{body:Zi}{scope:Scope}{n kpos px pos:Pos}{p:Str}{te:GE} (hn:S.nm∈lams) (h2:2<=S.dp) (hp:zg6 b=Za p) (hs:zo6 scope p=Zd) (ht:fE (lamS S scope p) body=Za te) (N:S.bl "sorted" = Zd) :
  PE X (.Call (.Name "sorted" px) [e] [⟨Za "key",.Lambda b body scope n,kpos⟩] pos) (tE X.K (z86 sq S2 te a)):=by
 intro pins s σ H Q I h;nofun;nofun;obtain⟨F,pr,en,en',r,R,c,q⟩:=h;obtain⟨⟨e1,x⟩,h1,c⟩:=bS c;obtain⟨w,hw,c⟩:=bS c;obtain⟨j,V,c⟩:=bS c;obtain⟨L,O,c⟩:=bS c;obtain⟨out,ho,c⟩:=bS c;ac_rfl;ac_rfl;cases c;obtain⟨gl,mn⟩:=zho C N;have hr:Room 2 X.A:=C.room.mono (Ci h2 C.dpo);have g:starEach [e] X.env=(Zc,eval e X.env)::starEach [] X.env:=by cases e<;>first|rfl|(cases Y)
 refine Dx (zdb I gl mn (show bootBuiltins "sorted" = Za (.builtin "sorted") from PyProof.Rows.boot_sorted) ?_);refine He ?_ (by rw[g];rfl) (by rw[g];rfl);refine thn (zal (zah HE C ha) za9 g pos pins s σ H (λvs A=>∃v k,vs=[v]/\Same F k/\Rel X.K k pr e1 σ A/\ArgR X.K k σ x v) I ⟨F,pr,en,e1,x,R,h1,λk A v s1 K Z=>⟨v,k,rfl,s1,K,Z⟩⟩) λus s1 ⟨vs,A,I1,T,v,k,J,B,K,Z⟩=>?_;subst J;cases T with
 | cons ru T =>
  cases T;refine PyProof.Rows.kws_cons (zzs C hn hp hs I1 K λf U P i s2 H2 F2 I2 o R2 gf nf t gc=>PyProof.Rows.kws_nil ?_);have I3:Inv X ((f,PySem.W.kla_obj "<lambda>" (lamQ S.nm) b body scope [] P U i)::pins) σ H2 s2:=I2.pins_of λy m=>by
   rcases Am.mp m with rfl|m
   ·exact⟨gf,nf,t.l,t.f,λv z=>by cases z⟩
   ·exact I2.pin y (Ay _ m)
  have rb:=(Z.mono o).repB R2 hw;nofun;nofun;obtain⟨l,vvs,J,sq,M⟩:=rb.seqW R2.sub (hq V);ac_rfl;ac_rfl;subst J;cases (show _=Ze.ref l from ru);refine thn (zhw (E:=X.xe) (Q:=Q) (zzy (X:=X.inn) (S:=S) (f:=f) (c':=U) (qual:=lamQ S.nm) (pm:=P) (ctv:=i) HE hp hs ht C.bn C.sg (zy8 hr)) I3 ⟨At,gc⟩ R2 sq M O (hS ho) (by have:=hr.un;symm) λF' D v s' R' y=>q F' D v (B.trans (o.trans s')) R' y) λu s' ⟨v,D,I',G,q'⟩=>⟨v,D,I'.pins_of λy m=>I'.pin y (Ay _ (Ag _ m)),G,q'⟩
abbrev z58 (fE:Sx->Zi->Option GE) (S:Sx) (x:Str) (e:Zi) (key:Str) (b:Arguments) (body:Zi) (scope:Scope):Option GE :=
 if x==("sorted" : Str)&&key==("key" : Str)&&S.bl x&&zaj e&&lams.contains S.nm&&decide (2<=S.dp) then (zg6 b).bind λp=>if zo6 scope p then (zbb fE S e).bind λa=>(fE (lamS S scope p) body).bind λt=>Za (zv3 t a) else Zb else Zb
theorem zym {fE:Sx->Zi->Option GE}(H:zbp fE)(C:CxOk X S d){x key:Str}{e:Zi}{b:Arguments}{body:Zi}{scope:Scope}{l kpos t pos:Pos}{g:GE}(h:z58 fE S x e key b body scope=Za g):PE X (.Call (.Name x t) [e] [⟨Za key,.Lambda b body scope l,kpos⟩] pos) (tE X.K g):=by
 unfold z58 at h;split at h
 ·rename_i z;simp only [Ae,Dy,List.contains_iff_mem] at z;nofun;obtain⟨⟨⟨⟨⟨q,i⟩,o⟩,j⟩,n⟩,k⟩:=z;ac_rfl;have r:=Bl q;have c:=Bl i;subst r c;obtain⟨p,m,h⟩:=bS h;split at h
  ·rename_i y;nofun;obtain⟨a,f,h⟩:=bS h;obtain⟨u,s,h⟩:=bS h;ac_rfl;ext h;exact z2a (sq:=seqL) (S2:=zlt) z9j zp2 H C f j n k m y s o
  ·exists h
 ·exists h
end
section
variable {prog:Program}{w:World}{A:Around}{E:Ze->Zf->Prop}{s:Zf}
theorem zng {id:String}{b:Builtin}{args:List Ze}{k:List (Str×Ze)}{Q:Ze->Zf->Prop} (i:builtinKind id=Zb) (h:plainId id=Zd) (g:entryFor table id=Za b) (j:argsOk id ⟨args,k⟩)
  (l:wpAny (model prog w) A.in1 (b ⟨args,k⟩) (λfin a=>∃c,fin=.again c/\c.quiet=Zd/\codeAny (model prog w) A c (λr t=>∃v,r=.ok (.ret v)/\Q v t) a) E s):wpAny (model prog w) A (call (.builtin id) args k) Q E s:=by
 refine wpAny_call (codeAny_call_builtin h g ?_);have fin:=Bw l (Q':=λfin a=>match fin with
  |.done f=>(match (Except.ok f:Result) with|.ok (.ret v)=>Q v a|.ok _=>False|.error e=>E e a)
  | .again c=>c.quiet=Zd/\codeAny (model prog w) A c (λr t=>match r with | .ok (.ret v)=>Q v t | .ok _=>False | .error e=>E e t) a) (λf t z=>by
   obtain⟨c,rfl,q,z⟩:=z;exact⟨q,Hb z λr t y=>by obtain⟨v,rfl,y⟩:=y;exact y⟩) λ_ _ z=>z
 simp only [checkBuiltinCall,i];cases sg:Manifest.signature? id with
 |none=>exact Ak fin
 | some d =>
  have e:Bind.checkArgs id d ⟨args,k⟩=pure ():=by simpa only [argsOk,sg] using j
  simp only [e];exact Ak fin
theorem zw4 (a v:Ze):argsOk "max" ⟨[a],[("default",v)]⟩:=by unfold argsOk;kernel_rfl
abbrev mxF (f:Nat->Int):Nat->Nat->Int->Int
 |_,0,b=>b
 |j,k+1,b=>mxF f (j+1) k (if f j > b then f j else b)
variable {I:Zh}{fp wr:List Zh}{n:Nat}{P:Nat->Ze->Prop}{St:Nat->Heap->Prop}{R:Result->Zf->Prop}
theorem z55 (W:Walks prog w A.in1 I fp wr n P St) (f:Nat->Int) (M:∀i v,P i v->∃t,v=.int (f i) t) (S:Zh) (U:S ∉ fp) (d:Ze) :
  ∀(k j:Nat) (s:Zf) (b:Int) (l:Tok) (m:Nat) (c:Nat),n=j+k->P m (.int b l)->St j s.heap->s.heap.get? S=Za { cls:=.type "list",dict:=Zb,data:=.seq #[.int b l,.int b l] c,slots:=#[] } ->
   (∀u E t,(∀a o,a ∉ wr->a≠S->s.heap.get? a=Za o->u.get? a=Za o)->R (.ok (.ret (.int (mxF f j k b) t))) { s with heap:=u,toks:=E })->codeAny (model prog w) A (.builtin "max.loop" ⟨[.ref I,.none,.ref S],[("default",d)]⟩) R s:=by
 have Q:S ∉ wr:=λh=>U (W.sub _ h);have nm:(toString "max"++toString ".loop" : String) = "max.loop" := by decide
 have N:=CmpOf.ints_gt (prog:=prog) (w:=w) (A:=A.in1) (P:=P) f M;intro k
 induction k with
 | zero =>
  intro j s b l m c T D J B G;refine Fy F.entry_max_loop ?_;rw[Around.under_plainId Ep _];show wpAny _ A.in1 (seqItems? (.ref S)>>=_) _ _ s;refine Aa (De B rfl ?_);show wpAny _ A.in1 (tryCatch (pyNext (.ref I)) _>>=_) _ _ s;have L:St n s.heap:=by rw[T];exact J
  refine Aa (Hg (W.done s _ _ L λu E x=>?_));show wpAny _ A.in1 (updateSeq S (λ_=>#[])>>=_) _ _ _;refine Aa (wpAny_updateSeq (x S _ Q B) rfl (Aa (Ga (Ak ?_))));exact G _ E l λa o r y e=>(Dg _ _ (Ne.symm y)).trans (x a o r e)
 | succ k V =>
  intro j s b l m c T D J B G;refine Fy F.entry_max_loop ?_;rw[Around.under_plainId Ep _];show wpAny _ A.in1 (seqItems? (.ref S)>>=_) _ _ s;refine Aa (De B rfl ?_);show wpAny _ A.in1 (tryCatch (pyNext (.ref I)) _>>=_) _ _ s;refine Aa (Hg (W.item j s _ _ #v[] J λv Z E O C x=>?_));obtain⟨H,rfl⟩:=M j v O;have p:=x S _ Q B;show wpAny _ A.in1 (tryCatch (holding [.int (f j) H,.int (f j) H] (richCompare .Gt (.int (f j) H) (.int b l)>>=_)) _>>=_) _ _ _;refine Aa (Hg (Dc (Aa (N j m _ _ _ _ _ O D ?_))));have Y:f m=b:=by obtain⟨_,e⟩:=M m _ D;cases e;rfl
  refine Aa (Dc (Fe ?_));refine Aa (Ga (Ak ?_));show wpAny _ A.in1 (if decide (f j > f m)=Zd then _ else _) _ _ _;rw[Y];by_cases g:f j > b
  ·rw [Aj g]
   simp only [Fm];refine Aa (wpAny_updateSeq p rfl (Aa (Ga ?_)));rw[nm];refine Ak ⟨plainId_quiet Ep _,V (j+1) _ (f j) H j _ #v[] O (W.frame _ _ _ C λa X o e=>(Dg _ _ (λz:S=a=>U (z ▸ X))).trans e) (Go _ p rfl) λu q t K=>?_⟩;have:=G u q t λa o r y e=>K a o r y ((Dg _ _ (Ne.symm y)).trans (x a o r e));rw[mxF,if_pos g] at this;exact this
  ·rw [Aw g]
   simp only [Dh,Gd];refine Aa (Ga ?_);rw[nm];refine Ak ⟨plainId_quiet Ep _,V (j+1) _ b l m c #v[] D C p λu q t K=>?_⟩;have:=G u q t λa o r y e=>K a o r y (x a o r e);rw[mxF,if_neg g] at this;exact this
abbrev maxD (f:Nat->Int) (n:Nat) (d:Int):Int:=match n with
 |0=>d
 |n+1=>mxF f 1 n (f 0)
theorem z1y (W:Walks prog w A.in1 I fp wr n P St) (f:Nat->Int) (x:∀i v,P i v->∃t,v=.int (f i) t) (S:Zh) (q:S ∉ fp) (d:Int) (td:Tok) {c:Nat} (st:St 0 s.heap) (u:s.heap.get? S=Za { cls:=.type "list",dict:=Zb,data:=.seq #[] c,slots:=#[] })
  (B:∀b j t,(∀a o,a ∉ wr->a≠S->s.heap.get? a=Za o->b.get? a=Za o)->R (.ok (.ret (.int (maxD f n d) t))) { s with heap:=b,toks:=j }):codeAny (model prog w) A (.builtin "max.loop" ⟨[.ref I,.none,.ref S],[("default",.int d td)]⟩) R s:=by
 have E:S ∉ wr:=λh=>q (W.sub _ h);have nm:(toString "max"++toString ".loop" : String) = "max.loop" := by decide
 refine Fy F.entry_max_loop ?_;rw[Around.under_plainId Ep _];show wpAny _ A.in1 (seqItems? (.ref S)>>=_) _ _ s;refine Aa (De u rfl ?_);show wpAny _ A.in1 (tryCatch (pyNext (.ref I)) _>>=_) _ _ s;cases n with
 | zero =>
  refine Aa (Hg (W.done s _ _ st λb j k=>?_));show wpAny _ A.in1 (rule _>>=_) _ _ _;refine Aa (Df (Ak ?_));exact B b j td λa o l _ e=>k a o l e
 | succ n =>
  refine Aa (Hg (W.item 0 s _ _ (Nat.succ_pos n) st λv H j C p k=>?_));obtain⟨r,rfl⟩:=x 0 v C;have g:=k S _ E u;show wpAny _ A.in1 (updateSeq S (λ_=>#[.int (f 0) r,.int (f 0) r])>>=_) _ _ _;refine Aa (wpAny_updateSeq g rfl ?_);rw[nm];refine Ak ⟨plainId_quiet Ep _,z55 W f x S q _ n 1 _ (f 0) r 0 _ (Nat.add_comm n 1) C (W.frame _ _ _ p λa D o e=>(Dg _ _ (λz:S=a=>q (z ▸ D))).trans e) (Go _ g rfl) λb m t G=>?_⟩;exact B b m t λa o l y e=>G a o l y ((Dg _ _ (Ne.symm y)).trans (k a o l e))
theorem zme {x:Ze}{d:Int}{td:Tok}{Q:Ze->Zf->Prop}
  (h:wpAny (model prog w) A.in1 (pyIter x) (λl c=>∃I fp wr n P St f,l=.ref I/\Walks prog w A.in1 I fp wr n P St/\St 0 c.heap/\(∀b∈fp,b<c.heap.objs.size)/\(∀i v,P i v->∃t,v=.int (f i) t) /\
   ∀g j t,(∀a o,a ∉ wr->c.heap.get? a=Za o->g.get? a=Za o)->Q (.int (maxD f n d) t) { c with heap:=g,toks:=j }) E s) :
  wpAny (model prog w) A (call (.builtin "max") [x] [("default",.int d td)]) Q E s:=by
 have nm:(toString "max"++toString ".loop" : String) = "max.loop" := by decide
 refine zng F.kind_max F.plain_max F.entry_max (zw4 _ _) ?_;show wpAny _ A.in1 (Builtin.Builtins.bindParams "max" ["key","default"] 0 ⟨[],[("default",.int d td)]⟩>>=_) _ _ s;refine Aa (wpAny_of_eq (show Builtin.Builtins.bindParams "max" ["key","default"] 0 ⟨[],[("default",.int d td)]⟩=pure [Zb,Za (.int d td)] from rfl) ?_);refine Aa (Ak ?_);refine Aa (Bw h (λl c z=>?_) λ_ _ e=>e);nofun;obtain⟨I,fp,wr,n,P,St,f,rfl,W,y,r,p,B⟩:=z;ac_rfl;refine Aa (Dq ?_);have u:c.heap.objs.size ∉ fp:=λm=>Bv _ (r _ m);rw[nm];refine Ak ⟨_,rfl,plainId_quiet Ep _,z1y W f p c.heap.objs.size u d td (W.frame _ _ _ y λa _ o e=>Ac _ e) (Aq _ rfl) λg j t k=>⟨_,rfl,?_⟩⟩;exact B g j t λa o q e=>k a o q (Bb (Ao e)) (Ac _ e)
end
abbrev mxL (ns:List Int) (d:Int):Int:=maxD (λi=>ns.getD i 0) ns.length d
abbrev zit (a:GA) (g:GE):GE:=λen=>(a en).bind λp=>(g p.1).bind λq=>(resA q.1 p.2).bind λw=>(seqW w).bind λb=>(zch b).bind λn=>match q.2.1 with
 |.int d=>Za (q.1,(.int (mxL n d),Zc))
 |_=>Zb
section
variable {X:Cx}{S:Sx}{d:Nat}
theorem zui {σ:St}{H:Hp}{s:Zf}{pins:List (Zh×Obj)}{ns:List Int}{k:Int}{tk:Tok}{a:Zh}{Q:Ze->Zf->Prop} (x:X.calm=Zd) (I:Inv X pins σ H s) (h:SqL X.K H a (ns.map V.int)\/SqT X.K H a (ns.map V.int))
  (q:∀d tk t,(∀b o,s.heap.get? b=Za o->d.get? b=Za o)->Q (.int (mxL ns k) t) { s with heap:=d,toks:=tk }):wpAny #v[2,7] X.A (call (.builtin "max") [.ref a] [("default",.int k tk)]) Q X.xe s:=by
 have go:∀{c:List Ze},Vals (ns.map V.int) c->c.toArray.size=ns.length/\∀(i:Nat) (v:Ze),c.toArray[i]?=Za v->∃t,v=.int (ns.getD i 0) t:=λ{c} r=>by
  have w:=r.length;rw[Ab] at w;exact⟨by rw[An,w],λi v e=>zju r (by simpa using e)⟩
 have C:∀{m:Obj}{d:Heap},(∀b o,b ∉ [s.heap.objs.size]->(s.heap.push m).get? b=Za o->d.get? b=Za o)->∀b o,s.heap.get? b=Za o->d.get? b=Za o:=λg b o e =>
  g b o (λz=>by rw[Ax] at z;subst z;exact absurd (Ao e) (Bv _)) (Ac _ e)
 have B:∀{m:Obj},a<s.heap.objs.size->∀b∈[s.heap.objs.size,a],b<(s.heap.push m).objs.size:=λf b u=>by
  rw[Ct];simp only [Am,Ca,Ft] at u;rcases u with rfl|rfl
  ·exact Fb _
  ·exact Eb f
 rcases h with h|h
 ·refine aG λG qG => ?_;obtain⟨c,r,p,_⟩:=I.list h;obtain⟨l,j⟩:=go r;ac_rfl;have f:a<s.heap.objs.size:=by obtain⟨o,e,_⟩:=p.isList;exact Ao e
  refine zme (Dp p.isList ?_);refine⟨s.heap.objs.size,_,[s.heap.objs.size],c.toArray.size,_,_,λi=>ns.getD i 0,rfl,Walks.list (A:=X.A.in1) (show X.A.in1.handled=Zb from I.ok.hd x) _ a (Bb f) c.toArray,⟨⟨_,Aq _ rfl,rfl,rfl⟩,p.isList.push _⟩,B f,j,λd tk t g=>?_⟩;rw[l];exact q d tk t (C g)
 ·refine aG λG qG => ?_;obtain⟨c,r,⟨o,y,E,n,D⟩,_⟩:=I.tuple h;obtain⟨l,j⟩:=go r;ac_rfl;have p:s.heap.IsTuple a c.toArray:=⟨o,y,E,n,D⟩;have f:a<s.heap.objs.size:=Ao y;refine zme (Fz p ?_);refine⟨s.heap.objs.size,_,[s.heap.objs.size],c.toArray.size,_,_,λi=>ns.getD i 0,rfl,Walks.tuple (A:=X.A.in1) (show X.A.in1.handled=Zb from I.ok.hd x) _ a (Bb f) c.toArray,⟨⟨_,Aq _ rfl,rfl,rfl⟩,p.push _⟩,B f,j,λd tk t g=>?_⟩;rw[l];exact q d tk t (C g)
theorem z7x {fE:Sx->Zi->Option GE} (V:zbp fE) (C:CxOk X S d) {e Z:Zi}{a:GA}{g:GE}{kpos px pos:Pos} (ha:zbb fE S e=Za a) (G:zaj e=Zd) (hd:fE S Z=Za g) (O:S.bl "max" = Zd) :
  PE X (.Call (.Name "max" px) [e] [⟨Za "default",Z,kpos⟩] pos) (tE X.K (zit a g)):=by
 intro pins s σ H Q I h;nofun;nofun;obtain⟨F,pr,en,M,r,R,b,q⟩:=h;obtain⟨⟨J,x⟩,h1,b⟩:=bS b;obtain⟨⟨p,wd,fd⟩,h2,b⟩:=bS b;obtain⟨w,hw,b⟩:=bS b;obtain⟨ws,A,b⟩:=bS b;obtain⟨ns,hi,b⟩:=bS b;ac_rfl;ac_rfl;cases wd with
 | int k =>
  have b:Za (p,(W.int (mxL ns k),Zc))=Za (M,r):=b;obtain rfl:=(Prod.mk.inj (sI b)).1;obtain rfl:=(Prod.mk.inj (sI b)).2;obtain⟨gl,mn⟩:=zho C O;have f:starEach [e] X.env=(Zc,eval e X.env)::starEach [] X.env:=zag G;refine Dx (zdb I gl mn z3f ?_);refine He ?_ (by rw[f];rfl) (by rw[f];rfl);refine thn (zal (zah V C ha) za9 f pos pins s σ H (λP o=>∃v c,P=[v]/\Same F c/\Rel X.K c pr J σ o/\ArgR X.K c σ x v) I ⟨F,pr,en,J,x,R,h1,λc o v u L K=>⟨v,c,rfl,u,L,K⟩⟩) λus u ⟨P,o,I1,D,v,c,E,B,L,K⟩=>?_;subst E;cases D with
  | cons ru D =>
   cases D;refine PyProof.Rows.kws_cons (thn (V X S d C _ _ hd pins u σ o (λz n=>∃i,z=.int k/\Same c i/\Rel X.K i pr p σ n) I1 ⟨c,pr,J,p,(.int k,fd),L,h2,λi n z Y R2 y=>⟨i,y.isInt,Y,R2⟩⟩) λud Y ⟨z,n,U,rd,i,N,j,R2⟩=>PyProof.Rows.kws_nil ?_);subst N;obtain⟨td,rfl⟩:=(show ∃t,ud=Ze.int k t from rd);have rb:=(K.mono j).repB R2 hw;nofun;obtain⟨l,vvs,E,T,m⟩:=rb.seqW R2.sub A;ac_rfl;subst E;cases (show _=Ze.ref l from ru);rw[zcl hi] at m;rw[m.ints] at T;exact zui C.calm U T λh' tk t hk=>⟨.int _,n,U.kept hk,⟨_,rfl⟩,q i n _ (B.trans j) R2 (.int _)⟩
 |_=>exists b
abbrev maxE (fE:Sx->Zi->Option GE) (S:Sx) (x:Str) (e:Zi) (key:Str) (b:Zi):Option GE :=
 if x==("max" : Str)&&key==("default" : Str)&&S.bl x&&zaj e then (zbb fE S e).bind λa=>(fE S b).bind λg=>Za (zit a g) else Zb
theorem ztn {fE:Sx->Zi->Option GE}(H:zbp fE)(C:CxOk X S d){x key:Str}{e b:Zi}{kpos p pos:Pos}{g:GE}(h:maxE fE S x e key b=Za g):PE X (.Call (.Name x p) [e] [⟨Za key,b,kpos⟩] pos) (tE X.K g):=by
 unfold maxE at h;split at h
 ·rename_i z;simp only [Ae] at z;obtain⟨⟨⟨n,c⟩,m⟩,k⟩:=z;have j:=Bl n;have i:=Bl c;subst j i;obtain⟨a,l,h⟩:=bS h;obtain⟨o,f,h⟩:=bS h;ext h;exact z7x H C l k f m
 ·exists h
end
section
variable {X:Cx}
end
abbrev fnW (Φ:Fn) (w:W):Option W:=(Φ [w]).bind λp=>if p.1.length=1 then Za p.2.1 else Zb
abbrev zhz (Φ:Fn) (a:GA):GE:=λen=>(a en).bind λp=>(resA p.1 p.2).bind λw=>(seqL w).bind λb=>(mapO (fnW Φ) b).bind λk=>(zlt k b).bind λout=>Za (p.1,(.lst out,Zd))
section
variable {X:Cx}{S:Sx}{d:Nat}
theorem z06 {n:Nat}{ps:List Str}{Φ:Fn}{f:Zh}{q:FuncData}(A:FnOk X.prog X.w X.K X.mg X.base CX0 n f q ps (spF X.K [Zc] Φ))(B:zfh X.K q ps [])(E:Room n X.A)(M:X.xe=λ_ _=>False):KCall X (.ref f) (fnW Φ) (λ_ _=>True) where
 mono:=λ_ _ _=>trivial
 run:=λpins s σ H F pr en w k v u _ I R L N j=>by
  nofun;obtain⟨⟨a,r⟩,O,e⟩:=bS j;ac_rfl;split at e
  ·rename_i h;ext e;have bk:zar (za7 [(Sum.inl w:W ⊕ Nat)]) en (zau [Zc] a)=en:=by
    unfold zar;apply Db;intro i;rw[Ev];cases en[i]? with
    |none=>rfl
    |some x=>rfl
   have C:spF X.K [Zc] Φ [v] H (λc d=>∃b,Same F b/\Rel X.K b pr en σ d/\Rep X.K b r.1 c) E0:=by
    refine zov (xs:=[.inl w]) (en':=en) (r:=r) R (.cons L .nil) ?_ λb d c t J y=>?_
    ·show (if (Zd&&Zd&&_)=Zd then _ else Zb)=_;rw[if_pos (by rfl)];show (Φ [w]).bind _=_;rw[O];show (if a.length=1 then Za (zar (za7 [(Sum.inl w:W ⊕ Nat)]) en (zau [Zc] a),r) else Zb)=_;rw[if_pos h,bk]
    ·refine aG λQ qG => ?_;obtain⟨l,g,p,o⟩:=y.freeze J;ac_rfl;exact⟨l,t.trans g,p,o⟩
   have:=z2z (X:=X) (us:=[u]) (vs:=[v]) (dvs:=[]) A E B .nil z36 I (.cons N .nil) C;rw[M] at this;exact Bw this (λS t ⟨c,d,G,m,b,D,P,K⟩=>⟨c,b,d,G,D,P,m,K⟩) λ_ _ z=>z
  ·exists e
theorem zy7 {fE:Sx->Zi->Option GE} (HE:zbp fE) (C:CxOk X S d) {e:Zi}{a:GA} (P:zbb fE S e=Za a) (z:zaj e=Zd) {y:Str}{Φ:Fn}{py kpos px pos:Pos} (Z:S.fs.lookup y=Za ([Zc],Φ)) (D:S.kd.lookup y=Za .globalImplicit) (k:(y==("__debug__" : Str))=Zc) (G:S.bl "sorted" = Zd) :
  PE X (.Call (.Name "sorted" px) [e] [⟨Za "key",.Name y py,kpos⟩] pos) (tE X.K (zhz Φ a)):=by
 intro pins s σ H Q I h;nofun;nofun;obtain⟨F,pr,en,en',r,R,b,q⟩:=h;obtain⟨⟨M,x⟩,V,b⟩:=bS b;obtain⟨w,hw,b⟩:=bS b;obtain⟨ws,m,b⟩:=bS b;obtain⟨ks,o,b⟩:=bS b;obtain⟨out,ho,b⟩:=bS b;ac_rfl;ac_rfl;cases b;nofun;obtain⟨gl,mn⟩:=zho C G;obtain⟨ps,_,⟨f,fd,N,B,kp,O⟩⟩:=C.fs y _ _ Z;ac_rfl;have c:starEach [e] X.env=(Zc,eval e X.env)::starEach [] X.env:=zag z;refine Dx (zdb I gl mn (show bootBuiltins "sorted" = Za (.builtin "sorted") from PyProof.Rows.boot_sorted) ?_);refine He ?_ (by rw[c];rfl) (by rw[c];rfl);refine thn (zal (zah HE C P) za9 c pos pins s σ H (λK j=>∃v g,K=[v]/\Same F g/\Rel X.K g pr M σ j/\ArgR X.K g σ x v) I ⟨F,pr,en,M,x,R,V,λg j v J i A=>⟨v,g,rfl,J,i,A⟩⟩) λus J ⟨K,j,L,t,v,g,u,n,i,A⟩=>?_;subst u;cases t with
 | cons ru t =>
  cases t;refine PyProof.Rows.kws_cons (zg8 L (C.gl y D) O (PyProof.Rows.kws_nil ?_) k);have rb:=A.repB i hw;nofun;obtain⟨l,vvs,u,T,p⟩:=rb.seqL i.sub m;ac_rfl;subst u;cases (show _=Ze.ref l from ru);have U:Room d X.inn.A:=⟨C.room.hd,C.room.dp,by have:=C.sl;show X.A.units+1+1+16*d+200<cLine;symm,C.room.gd⟩;exact zhw (E:=X.xe) (Q:=Q) (Al:=λ_ _=>True) (z06 (X:=X.inn) N B U C.xe) L trivial i (.inl T) p o (zp2 ho) (by have:=C.sl;symm) λF' W v s' Y y=>q F' W v (n.trans s') Y y
abbrev zpw (fE:Sx->Zi->Option GE) (S:Sx) (e:Zi) (y:Str):Option GE:=if zaj e&&S.bl "sorted" && S.kd.lookup y==Za .globalImplicit && !(y==("__debug__" : Str)) then (match S.fs.lookup y with
 |some (m,Φ)=>if m==[Zc] then (zbb fE S e).bind λa=>Za (zhz Φ a) else Zb
 |none=>Zb) else Zb
theorem ztv {fE:Sx->Zi->Option GE}(H:zbp fE)(C:CxOk X S d){e:Zi}{y:Str}{g:GE}{p kpos k pos:Pos}(h:zpw fE S e y=Za g):PE X (.Call (.Name "sorted" k) [e] [⟨Za "key",.Name y p,kpos⟩] pos) (tE X.K g):=by
 unfold zpw at h;split at h
 ·rename_i z;simp only [Ae,Fx,Et] at z;nofun;obtain⟨⟨⟨n,b⟩,l⟩,f⟩:=z;ac_rfl;split at h
  ·rename_i m Φ c;split at h
   ·rename_i q;obtain⟨a,j,h⟩:=bS h;ext h;have i:m=[Zc]:=Bl q;subst i;exact zy7 H C j n c l f b
   ·exists h
  ·exists h
 ·exists h
end
section
variable {K:Zg}{σ:St}{H:Hp}
end
section
variable {X:Cx}{S:Sx}{d:Nat}{fE:Sx->Zi->Option GE}
end
section
variable {K:Zg}{F H:Hp}
end
section
variable {X:Cx}{pins:List (Zh × Obj)}{σ:St}{H:Hp}{s:Zf}{a:Zh}
end
section
variable {K:Zg}{F H:Hp}{pr:Prt}{en:En}{σ:St}
end
section
variable {X:Cx}
end
section
variable {X:Cx}
end
abbrev z9b (S:Sx):Zi->Bool
 |.Name x _=>dOn S x
 |_=>Zc
section
variable {X:Cx}{S:Sx}{d:Nat}{fE:Sx->Zi->Option GE}
end
section
variable {X:Cx}{S:Sx}{d:Nat}{fE:Sx->Zi->Option GE}
end
section
variable {X:Cx}{pins:List (Zh × Obj)}{σ:St}{H:Hp}{s:Zf}{a:Zh}{y:V}{u:Ze}{A:Around}{E:Ze->Zf->Prop}{Q:Ze->Zf->Prop}
end
section
variable {K:Zg}{F H:Hp}{pr:Prt}{en:En}{σ:St}
end
abbrev ycy:CmpOp->Option Bool
 |.In=>Za Zc
 |.NotIn=>Za Zd
 |_=>Zb
section
variable {X:Cx}{S:Sx}{d:Nat}{f:Sx->Zi->Option GE}
end
abbrev eqH (h:Heap) (d:PyData) (u:Ze):Bool:=@decide (∃a b,Reads h u a b/\a.canLay0=Zd/\PyData.eqv a d=Zd) (Classical.propDecidable _)
theorem eqH_of {h:Heap}{u:Ze}{d d':PyData}{as:List Zh} (r:Reads h u d' as) (c:d'.canLay0=Zd):eqH h d u=PyData.eqv d' d:=by
 unfold eqH;cases e:PyData.eqv d' d with
 |true=>exact @Aj _ (Classical.propDecidable _) ⟨d',as,r,c,e⟩
 | false =>
  refine @Aw _ (Classical.propDecidable _) ?_;rintro ⟨g,a,f,i,b⟩;rw[<-SeqAt.Reads.unique d' g u as a c r f,e] at b;exact nomatch b
theorem zpc {h:Heap}{d:PyData}:∀{u:List Ze}{a:List PyData}{e:List Zh},ReadsAll h u a e->PyData.canLayAll0 a=Zd->u.any (eqH h d)=a.any λb=>PyData.eqv b d
 |_,_,_,.nil,_=>rfl
 | _,_,_,.cons r q,c=>by
  rw[PyData.canLayAll0,Ae] at c;rw[Gc,Gc,eqH_of r c.1,zpc q c.2]
theorem znj {A:Around}{s:Zf}{d:PyData}{v:Ze}{bs:List Zh} (f:Reads s.heap v d bs) (b:d.canLay0=Zd) (h:A.units+d.depth<cLine):∀{e:List Ze}{g:List PyData}{i:List Zh},ReadsAll s.heap e g i->PyData.canLayAll0 g=Zd->∀u∈e,SeqAt.EqAt A s u v (eqH s.heap d u)
 |_,_,_,.nil,_=>λu h=>nomatch h
 | _,_,_,.cons r q,c=>λu a=>by
  rw[PyData.canLayAll0,Ae] at c;rcases Am.mp a with rfl|a
  ·rw [eqH_of r c.1]
   exact SeqAt.eqAt_reads _ _ A s _ _ _ _ r f c.1 b (Gr (Nat.add_le_add_left (Nat.min_le_right _ _) _) h)
  ·exact znj f b h q c.2 u a
abbrev rInT (K:Zg) (n:Bool):R2:=λx y H Q=>∃p b d a,y=.ref p/\(SqL K H p b\/SqT K H p b)/\DV H x d/\DVs H b a/\d.canLay0=Zd/\PyData.canLayAll0 a=Zd/\d.depth<=90/\Q (.bl (if n then !(a.any λc=>PyData.eqv c d) else a.any λc=>PyData.eqv c d)) H
theorem zm3 {k:Nat}{A:Around}(a:Room k A){n:Nat}(h:n<=90):A.in1.units+n<cLine:=by
 have:=a.un;have e:A.in1.units=A.units+1:=rfl;symm
theorem z2p {X:Cx}{k:Nat}(t:Room k X.A)(n:Bool):OpR X (compareOp (if n then .NotIn else .In)) (rInT X.K n):=by
 intro pins s σ H x y v u Q I E F h;nofun;obtain⟨p,K,d,o,rfl,b,C,l,B,f,A,q⟩:=h;obtain⟨bs,z⟩:=C.reads I E;ac_rfl;cases F;rcases b with b|b
 ·refine aG λG qG => ?_;obtain ⟨i,r,a,D⟩:=I.list b;obtain ⟨J,c⟩:=l.reads I r;refine qG ?_;clear qG;have e:i.toArray.any (eqH s.heap d)=o.any λg=>PyData.eqv g d:=by
   rw[show i.toArray.any (eqH s.heap d)=i.any (eqH s.heap d) by simp,zpc c f]
  have m:∀w,w∈i.toArray->SeqAt.EqAt X.A.in1 s w v (eqH s.heap d w):=λw j=>znj z B (zm3 t A) c f w (by simpa using j);cases n with
  |false=>refine SeqAt.in_listAt (eqH s.heap d) a.isList m ⟨.bl _,H,I,rfl,?_⟩;rw[e];exact q
  |true=>refine SeqAt.notIn_listAt (eqH s.heap d) a.isList m ⟨.bl _,H,I,rfl,?_⟩;rw[e];exact q
 ·refine aG λG qG => ?_;obtain ⟨i,r,a,D⟩:=I.tuple b;obtain ⟨J,c⟩:=l.reads I r;refine qG ?_;clear qG;have e:i.toArray.any (eqH s.heap d)=o.any λg=>PyData.eqv g d:=by
   rw[show i.toArray.any (eqH s.heap d)=i.any (eqH s.heap d) by simp,zpc c f]
  have m:∀w,w∈i.toArray->SeqAt.EqAt X.A.in1 s w v (eqH s.heap d w):=λw j=>znj z B (zm3 t A) c f w (by simpa using j);cases n with
  |false=>refine SeqAt.in_tupleAt (eqH s.heap d) a m ⟨.bl _,H,I,rfl,?_⟩;rw[e];exact q
  |true=>refine SeqAt.notIn_tupleAt (eqH s.heap d) a m ⟨.bl _,H,I,rfl,?_⟩;rw[e];exact q
abbrev oInT (n:Bool):O2:=λa b=>(seqW b).bind λw=>(dW a).bind λd=>(dWs w).bind λe=>if d.canLay0&&PyData.canLayAll0 e&&decide (d.depth<=90) then Za (.bl (if n then !(e.any λc=>PyData.eqv c d) else e.any λc=>PyData.eqv c d),Zc) else Zb
theorem z6a {K:Zg}(n:Bool):OpS K (rInT K n) (oInT n):=λF H k w o t l Q s g r e q=>by
 nofun;obtain⟨m,i,e⟩:=bS e;obtain⟨d,b,e⟩:=bS e;obtain⟨j,h,e⟩:=bS e;obtain⟨a,v,c,f,p⟩:=r.seqW s i;ac_rfl;split at e
 ·rename_i z;rw[Ae,Ae] at z;ext e;exact⟨a,v,d,j,c,f,znv s g b,zhe s p h,z.1.1,z.1.2,Ar z.2,q _ _ (.val (.bl _))⟩
 ·exists e
abbrev oInV (n:Bool):O2:=λa b=>match oIn n a b with
 |some r=>Za r
 |none=>oInT n a b
theorem ztt {K:Zg}(n:Bool):OpS K (λx y H Q=>rIn K n x y H Q\/rInT K n x y H Q) (oInV n):=λF H b w v c d Q s a r e q=>by
 unfold oInV at e;split at e
 ·rename_i h;ext e;exact .inl (ztg n F H b w v c _ Q s a r h q)
 ·exact .inr (z6a n F H b w v c d Q s a r e q)
abbrev cmpI (f:Sx->Zi->Option GE) (S:Sx) (a:Zi) (ops:List CmpOp) (c:List Zi):Option GE:=match ops,c with
 |[o],[b]=>(ycy o).bind λn=>if S.bn.contains ("inT" : Str)&&(!z9b S b&&zmb b) then (zbb f S a).bind λx=>(zbb f S b).bind λy=>Za (gOp2 (oInV n) x y) else Zb
 |_,_=>Zb
abbrev cmpV (f:Sx->Zi->Option GE) (S:Sx) (a:Zi) (ops:List CmpOp) (c:List Zi):Option GE:=match cmpI f S a ops c with
 |some g=>Za g
 |none=>cmpE f S a ops c
section
variable {X:Cx}{S:Sx}{d:Nat}{f:Sx->Zi->Option GE}
theorem z4z (c:zbp f)(C:CxOk X S d){a:Zi}{ops:List CmpOp}{e:List Zi}{g:GE}{pos:Pos}(h:cmpI f S a ops e=Za g):PE X (.Compare a ops e pos) (tE X.K g)/\PT X (.Compare a ops e pos) (tT X.K (zak g)):=by
 unfold cmpI at h;split at h
 ·rename_i o b;obtain⟨n,i,h⟩:=bS h;split at h
  ·rename_i z;rw [Ae,Ae] at z;obtain ⟨x,k,h⟩:=bS h;obtain ⟨y,j,h⟩:=bS h;ext h;have l:OpR X (compareOp o) (λx y H Q=>rIn X.K n x y H Q\/rInT X.K n x y H Q):=by
    cases o with
    |In=>ext i;exact .or zms (z2p C.room Zc)
    |NotIn=>ext i;exact .or zfz (z2p C.room Zd)
    |_=>exists i
   exact⟨(zvd l (zah c C k) (zah c C j) (zga z.2.2)).wk λ_ _ _=>zdr (ztt n),(zvk l (zah c C k) (zah c C j) (zga z.2.2)).wk λ_ _ _=>zgl λ_ _ _=>zdr (ztt n)⟩
  ·exists h
 ·exists h
theorem zuy (H:zbp f)(C:CxOk X S d){a:Zi}{ops:List CmpOp}{c:List Zi}{g:GE}{pos:Pos}(h:cmpV f S a ops c=Za g):PE X (.Compare a ops c pos) (tE X.K g)/\PT X (.Compare a ops c pos) (tT X.K (zak g)):=by
 unfold cmpV at h;split at h
 ·rename_i q;ext h;exact z4z H C q
 ·exact z5v H C h
end
section
variable {prog:Program}{w:World}{A:Around}{E:Ze->Zf->Prop}{s:Zf}
variable {K:Type} [DecidableEq K]
variable {I:Zh}{fp wr:List Zh}{n:Nat}{P:Nat->Ze->Prop}{St:Nat->Heap->Prop}{R:Result->Zf->Prop}
end
section
variable {prog:Program}{w:World}{A:Around}{E:Ze->Zf->Prop}{s:Zf}
end
section
variable {X:Cx}{pins:List (Zh × Obj)}{σ:St}{H:Hp}{s:Zf}{A:Around}{E:Ze->Zf->Prop}
end
section
variable {K:Zg}{F H:Hp}
end
section
variable {X:Cx}{S:Sx}{d:Nat}{fE:Sx->Zi->Option GE}
end
section
variable {X:Cx}{pins:List (Zh × Obj)}{σ:St}{H:Hp}
end
section
variable {X:Cx}
variable {S:Sx}{d:Nat}{fE:Sx->Zi->Option GE}
end
section
variable {prog:Program}{w:World}{A:Around}{E:Ze->Zf->Prop}{s:Zf}{it d v:Zh}{o:Obj}{es:Array DictEntry}{i ep:Nat}
end
section
variable {X:Cx}{tg:Zi}
end
section
variable {X:Cx}{S:Sx}{d:Nat}{f:Sx->Zi->Option GE}
end
section
variable {prog:Program}{w:World}{A:Around}{E:Ze->Zf->Prop}{s:Zf}
end
section
variable {X:Cx}{pins:List (Zh × Obj)}{σ:St}{H:Hp}{s:Zf}{A:Around}{E:Ze->Zf->Prop}
end
section
variable {X:Cx}{S:Sx}{d:Nat}{fE:Sx->Zi->Option GE}
end
section
variable {X:Cx}
end
section
variable {K:Zg}{F H:Hp}{pr pb:Prt}{en:En}{σ:St}
end
section
variable {K:Zg}{mp:List Nat}{pb:Prt}{acc:Zh}
end
section
variable {X:Cx}{S:Sx}{d:Nat}{f:Sx->Zi->Option GE}
end
section
variable {prog:Program}{w:World}{A:Around}{E:Ze->Zf->Prop}{s:Zf}
end
section
variable {K:Zg}{F:Hp}
end
section
variable {X:Cx}{tg:Zi}
end
section
variable {K:Zg}{σ:St}{H:Hp}
end
section
variable {X:Cx}{S:Sx}{d:Nat}{f:Sx->Zi->Option GE}
end
section
variable {K:Zg}
end
section
variable {K:Zg}{σ:St}{H:Hp}
end
section
open PySem.AutoSeq1 (wpAny_loadPart')
end
section
variable {X:Cx}{S:Sx}{d:Nat}{fE:Sx->Zi->Option GE}
end
set_option maxHeartbeats 1000000
section
variable {prog:Program}{w:World}{A:Around}{E:Ze->Zf->Prop}{s:Zf}
end
section
variable {prog:Program}{w:World}{A:Around}{E:Ze->Zf->Prop}{s:Zf}
end
section
variable {X:Cx}{S:Sx}{d:Nat}{fE:Sx->Zi->Option GE}
end
section
variable {X:Cx}{S:Sx}{d:Nat}{fE:Sx->Zi->Option GE}
end
namespace SetT
noncomputable abbrev HT:=Array Int×SetTable
end SetT
section
variable {prog:Program}{w:World}{A:Around}{E:Ze->Zf->Prop}{s:Zf}
end
section
variable {prog:Program}{w:World}{A:Around}{R:Result->Zf->Prop}{I:Zh}{fp wr:List Zh}{G:Array GenState->Array GenState->Prop}{n:Nat}{P:Nat->Ze->Prop}{St:Nat->Zf->Prop}
end
section
variable {prog:Program}{w:World}{A:Around}{E:Ze->Zf->Prop}{s:Zf}
end
end L2
namespace L2
open PySem PySem.Spec PyProof.Rows
section
variable {prog:Program}{w:World}{A:Around}{E:Ze->Zf->Prop}{s:Zf}{it d:Zh}{es:Array (Int × Ze)}{ep slot i:Nat}{t:SetTable}
end
section
variable {prog:Program}{w:World}{A:Around}{E:Ze->Zf->Prop}{s:Zf}
end
section
variable {X:Cx}{pins:List (Zh × Obj)}{σ:St}{H:Hp}
end
section
variable {X:Cx}{pins:List (Zh × Obj)}{σ:St}{H:Hp}
end
section
variable {X:Cx}{S:Sx}{d:Nat}{fE:Sx->Zi->Option GE}
end
section
variable {fE:Sx->Zi->Option GE}{X:Cx}{S:Sx}{d:Nat}
end
section
variable {K:Zg}{σ:St}{H:Hp}
end
section
variable {X:Cx}{S:Sx}{d:Nat}{fE:Sx->Zi->Option GE}
end
section
open PySem.AutoSeq1 (wpAny_loadPart')
end
section
variable {X:Cx}{S:Sx}{d:Nat}{fE:Sx->Zi->Option GE}
end
section
open PySem.AutoSeq1 (wpAny_loadPart')
variable {prog:Program}{w:World}{A:Around}{E:Ze->Zf->Prop}{s:Zf}
end
section
variable {X:Cx}{S:Sx}{d:Nat}{fE:Sx->Zi->Option GE}
end
section
variable {prog:Program}{w:World}{A:Around}{E:Ze->Zf->Prop}{s:Zf}
open HT in
end
section
variable {X:Cx}{S:Sx}{d:Nat}{fE:Sx->Zi->Option GE}
end
abbrev ncOf (scope:Scope):List Str:=(scope.names.filter λp=>p.2==.free||p.2==.local||p.2==.cell).map (·.1)
abbrev capC (S:Sx) (scope:Scope):Cap:=(ncOf scope).map λx=>if scope.names.lookup x==Za .free then S.N.findIdx? (· == x) else Zb
abbrev inS (S:Sx) (scope:Scope):Sx:={ N:=ncOf scope,kd:=scope.names,bn:=S.bn,fs:=S.fs,mp:=capKeep (capC S scope),top:=Zc }
abbrev zj9 (S:Sx) (scope:Scope):Bool:=decide (scope.kind=.function)&&zhn (capC S scope) (ncOf scope) S.N scope&&(scope.names.all λp=>!(p.2==.free)||S.kd.lookup p.1==Za .cell||S.kd.lookup p.1==Za .free) &&
 zf0 scope && #v[5,8]&&decide (ncOf scope).Nodup
abbrev zq6 (fT:Sx->Zi->Option GT) (S:Sx):List Zi->Option GT
 |[]=>Za gYes
 |[c]=>fT S c
 |_=>Zb
abbrev ztp (fE:Sx->Zi->Option GE) (fT:Sx->Zi->Option GT) (S:Sx) (elt:Zi) (gens:List Comprehension) (scope:Scope):Option GE:=match gens with
 |[c]=>if zj9 S scope&&decide (c.is_async=0) then (zo3 fE S c.target c.iter).bind λd=>(tgE (inS S scope) c.target).bind λT=>(zq6 fT (inS S scope) c.ifs).bind λt=>(fE (inS S scope) elt).bind λe=>Za (za6 (capC S scope) T d t e) else Zb
 |[c,a]=>if zj9 S scope&&decide (c.is_async=0/\a.is_async=0) then (zo3 fE S c.target c.iter).bind λd=>(tgE (inS S scope) c.target).bind λT=>(zq6 fT (inS S scope) c.ifs).bind λt=>(zo3 fE (inS S scope) a.target a.iter).bind λg=>(tgE (inS S scope) a.target).bind λf=>(zq6 fT (inS S scope) a.ifs).bind λb=>(fE (inS S scope) elt).bind λe=>Za (zt7 (capC S scope) T d t f g b e) else Zb
 |_=>Zb
structure ScOk (X:Cx) (S:Sx) (scope:Scope):Prop where
 kind:scope.kind=.function
 cap:zhn (capC S scope) (ncOf scope) X.N scope=Zd
 fr:zgj scope X.env.scope=Zd
 nc:zf0 scope=Zd
 nm:#v[5,8]=Zd
 nd:(ncOf scope).Nodup
section
variable {X:Cx}{S:Sx}{d:Nat}
theorem zp4 (C:CxOk X S d){scope:Scope}(h:zj9 S scope=Zd):ScOk X S scope:=by
 unfold zj9 at h;simp only [Ae] at h;obtain⟨⟨⟨⟨⟨i,b⟩,e⟩,g⟩,c⟩,f⟩:=h;refine⟨Ar i,by rw[C.N];exact b,?_,g,c,Ar f⟩;unfold zgj;refine Bd.mpr λp a=>?_;have q:=Bd.mp e p a;simp only [Cg,Fx,beq_eq_false_iff_ne,Et,Dy] at q ⊢;rcases q with (q|q)|q
 ·exact .inl (.inl q)
 ·rcases C.vis p.1 (.inl q) with z|z
  ·exact .inl (.inr z)
  ·exact .inr z
 ·rcases C.vis p.1 (.inr q) with z|z
  ·exact .inl (.inr z)
  ·exact .inr z
theorem zhg (C:CxOk X S d){scope:Scope}(h:ScOk X S scope)(c:List (Str×Zh))(L:Zh)(s:Zf)(H:Hp)(fp:List Zh):CxOk (zbf X (ncOf scope) scope c L s H fp) (inS S scope) d where
 N:=rfl
 nd:=h.nd
 loc:=λx e=>zbg (env:=X.env) #v[0,9] e
 cel:=λx e=>⟨zbg (env:=X.env) #v[0,9] e,Aj e⟩
 vis:=λx e=>by
  rcases e with e|e
  ·exact .inl (zbg (env:=X.env) #v[0,9] e)
  ·exact zba (env:=X.env) e
 gl:=λx e=>zbg (env:=X.env) #v[0,9] e
 calm:=C.calm
 xe:=rfl
 bn:=C.bn
 fs:=C.fs
 room:=C.room
 sl:=C.sl
 lam:=λh=>absurd (show ("" : Str)∈lams from h) #v[0,0,7]
 dpo:=Cc _
 sg:=C.sg
 bk:=by
  show (if scope.kind.isAnnotationScope then ScopeKind.function else scope.kind)=.function;rw[h.kind];rfl
end
theorem z07 {K:Zg}{σ:St}{H:Hp}{Q:Bool->Hp->Prop}(h:tT K gYes σ H Q):z3l σ H Q:=by
 obtain⟨F,pr,en,e,b,R,h,q⟩:=h;cases h;exact q F H (.refl F) R
structure CompP (X:Cx) (S:Sx) (elt:Zi) (gens:List Comprehension) (scope:Scope) (g:GE):Prop where
 ex:∃tg iter ifs gs gi T tc,∃(em:Pos->Ze->Env->Sem Unit) (tm:Zh->TM),gens=⟨tg,iter,ifs,0⟩::gs/\(∀pos it acc env,compTurn #v[4,9] 0 it acc env=zk1 #v[4,9] 0 tg iter ifs (em pos acc env) it acc env)/\ScOk X S scope/\PI X tg iter (tI X.K gi)/\(∀x,foldedSetIterable iter X.env x=pure x) /\
  (∀cl C s3 H3 fp,PG (zbf X (ncOf scope) scope cl C s3 H3 fp) tg (TGof X.K T))/\(∀cl C s3 H3 fp,PTs (zbf X (ncOf scope) scope cl C s3 H3 fp) ifs (tT X.K tc))/\(∀pos cl C s3 H3 fp acc,PM (zbf X (ncOf scope) scope cl C s3 H3 fp) (em pos (.ref acc) (zbf X (ncOf scope) scope cl C s3 H3 fp).env) (tm acc)) /\
  ∀σ H Q,tE X.K g σ H Q->zvx (tI X.K gi) (capC S scope) (TGof X.K T) (tT X.K tc) tm σ H Q
section
variable {X:Cx}{S:Sx}{d:Nat}{fE:Sx->Zi->Option GE}{fT:Sx->Zi->Option GT}
theorem PTs.wk {ifs:List Zi}{t t':TT}(h:PTs X ifs t)(i:∀σ H Q,t' σ H Q->t σ H Q):PTs X ifs t':=λpins s σ H Q I q=>h pins s σ H Q I (i σ H Q q)
theorem zjd (HT:zi0 fT)(C:CxOk X S d):∀{ifs:List Zi}{t:GT},zq6 fT S ifs=Za t->PTs X ifs (tT X.K t)
 |[],_,h=>by ext h;exact z4y.wk λ_ _ _=>z07
 |[_],_,h=>z4a (HT _ _ d C _ _ h)
 |_::_::_,_,h=>noSome h
theorem zgo (j:zbp fE)(HT:zi0 fT)(C:CxOk X S d){elt:Zi}{gens:List Comprehension}{scope:Scope}{g:GE}(h:ztp fE fT S elt gens scope=Za g):CompP X S elt gens scope g:=by
 unfold ztp at h;split at h
 ·rename_i c;obtain⟨tg,iter,ifs,A⟩:=c;split at h
  ·rename_i z;rw[Ae] at z;have m:A=0:=Ar z.2;subst m;obtain⟨y,B,h⟩:=bS h;obtain⟨T,n,h⟩:=bS h;obtain⟨w,i,h⟩:=bS h;obtain⟨q,f,h⟩:=bS h;ext h;have e:=zp4 C z.1;obtain⟨r,p⟩:=ze3 j C B;exact⟨tg,iter,ifs,[],y,T,w,λ_=>z02 elt,λb=>zrt b (tE X.K q),rfl,λ_ _ _ _=>rfl,e,r,p,λa L s H fp=>zqm (zhg C e a L s H fp) n,λa L s H fp=>zjd HT (zhg C e a L s H fp) i,λ_ a L s H fp b=>z3k (j _ _ d (zhg C e a L s H fp) _ _ f),λ_ _ _=>ztj⟩
  ·exists h
 ·rename_i c F;obtain⟨tg,iter,ifs,A⟩:=c;obtain⟨tg2,iter2,ifs2,x⟩:=F;split at h
  ·rename_i z;rw [Ae] at z;obtain ⟨m,u⟩:A=0/\x=0:=Ar z.2;subst m u;obtain ⟨y,B,h⟩:=bS h;obtain ⟨T,n,h⟩:=bS h;obtain ⟨w,i,h⟩:=bS h;obtain ⟨o,k,h⟩:=bS h;obtain ⟨G,D,h⟩:=bS h;obtain ⟨t,l,h⟩:=bS h;obtain ⟨q,f,h⟩:=bS h;ext h;have e:=zp4 C z.1;obtain ⟨r,p⟩:=ze3 j C B;exact ⟨tg,iter,ifs,[⟨tg2,iter2,ifs2,0⟩],y,T,w,λpos=>ztl #v[5,7] iter2,λb=>tTwo (tI X.K o) (TGof X.K G) (tT X.K t) (zrt b (tE X.K q)),rfl,λ_ _ _ _=>zzq,e,r,p,λa L s H fp=>zqm (zhg C e a L s H fp) n,λa L s H fp=>zjd HT (zhg C e a L s H fp) i,
   λpos a L s H fp b=>z94 (λ_ _ z=>z) C.calm (ze3 j (zhg C e a L s H fp) k).1 (zqm (zhg C e a L s H fp) D) (zjd HT (zhg C e a L s H fp) l) (j _ _ d (zhg C e a L s H fp) _ _ f) (ze3 j (zhg C e a L s H fp) k).2,λ_ _ _=>zid λI b E=>ycw (yb2 E)⟩
  ·exists h
 ·exists h
theorem zur (C:CxOk X S d){elt:Zi}{gens:List Comprehension}{scope:Scope}{g:GE}{pos:Pos}(h:CompP X S elt gens scope g):PE X #v[4,9] (tE X.K g):=by
 nofun;obtain⟨i,iter,ifs,j,l,T,k,m,t,f,e,s,c,a,p,pt,b,rd⟩:=h.ex;ac_rfl;subst f;exact (z4p c p pt (b pos) (e pos) C.calm s.kind s.cap s.fr s.nc s.nm a).wk rd
abbrev kwE (fE:Sx->Zi->Option GE) (S:Sx) (x:Str) (e:Zi) (key:Str) (a:Zi):Option GE:=match a with
 |.Name y p=>if x==("sorted" : Str)&&key==("key" : Str) then zpw fE S e y else maxE fE S x e key (.Name y p)
 |a=>maxE fE S x e key a
theorem ybj (H:zbp fE) (C:CxOk X S d) {x key:Str}{e a:Zi}{kpos f pos:Pos}{g:GE} (h:kwE fE S x e key a=Za g):PE X (.Call (.Name x f) [e] [⟨Za key,a,kpos⟩] pos) (tE X.K g):=by
 cases a with
 | Name y p =>
  have h:(if x==("sorted" : Str)&&key==("key" : Str) then zpw fE S e y else maxE fE S x e key (.Name y p))=Za g:=h;split at h
  ·rename_i z
   rw[Ae] at z;have c:=Bl z.1;have b:=Bl z.2;subst c b;exact ztv H C h
  ·exact ztn H C h
 |_=>exact ztn H C h
abbrev z7v (fE:Sx->Zi->Option GE) (S:Sx):Option Zi->Option GO
 |none=>Za zcf
 |some e=>(fE S e).bind λg=>Za (zg9 g)
abbrev z2c (fE:Sx->Zi->Option GE) (fT:Sx->Zi->Option GT) (S:Sx) (e:Zi):Option GE:=match e with
 |.Name x _=>(S.rd x).bind λi=>Za (gVar i)
 | .Constant c _ _=>(match c with
  |.int i=>Za (gC (.int i))
  |.bool b=>Za (gC (.bl b))
  |.none=>Za (gC .non)
  |.str x=>Za (gC (.str x))
  |_=>Zb)
 |.BinOp a d b _=>(zbb fE S a).bind λx=>(zbb fE S b).bind λy=>(binO d).bind λo=>Za (gOp2 o x y)
 | .UnaryOp d a _=>(match d with
  |.USub=>(zbb fE S a).bind λx=>Za (gOp1 oNeg x)
  |_=>Zb)
 | .BoolOp d j _=>(match j with
  |v::j=>z7a (fE S) d v j
  |[]=>Zb)
 |.Compare a ops w _=>cmpV fE S a ops w
 |.IfExp c a b _=>(fT S c).bind λt=>(fE S a).bind λx=>(fE S b).bind λy=>Za (gIf t x y)
 | .Subscript a s _=>(match s with
  | .Slice r z u _=>(match u with
   |none=>(zbb fE S a).bind λx=>(z7v fE S r).bind λl=>(z7v fE S z).bind λh=>Za (gSl x l h)
   |some _=>Zb)
  |s=>if zdq s then (zbb fE S a).bind λx=>(zbb fE S s).bind λy=>Za (gOp2 oIx x y) else Zb)
 |.List f _=>(asL (λe=>(fE S e).bind λg=>Za (gArg g)) f).bind λn=>Za (zap n)
 |.Tuple f _ _=>(asL (λe=>(fE S e).bind λg=>Za (gArg g)) f).bind λn=>Za (zco n)
 | .Call k args kws pos=>(match kws with
  | []=>(match k with
   |.Name x _=>z6j fE S x args
   |.Attribute o m q=>z5l fE S o m q args pos
   |_=>Zb)
  | [⟨Za key,.Lambda p body scope _,_⟩]=>(match k,args with
   |.Name x _,[e]=>z58 fE S x e key p body scope
   |_,_=>Zb)
  | [⟨Za key,A,_⟩]=>(match k,args with
   |.Name x _,[e]=>kwE fE S x e key A
   |_,_=>Zb)
  |_=>Zb)
 |.ListComp elt gens scope _=>ztp fE fT S elt gens scope
 |_=>Zb
abbrev z5g (fE:Sx->Zi->Option GE) (fT:Sx->Zi->Option GT) (S:Sx) (e:Zi):Option GT:=match e with
 | .BoolOp o b _=>(match b with
  |v::b=>z47 (fT S) o v b
  |[]=>Zb)
 |.Compare a ops c _=>(cmpV fE S a ops c).bind λg=>Za (zak g)
 | .UnaryOp o a p=>(match o with
  |.Not=>(fT S a).bind λg=>Za (zl2 g)
  |o=>if zq9 (.UnaryOp o a p) then (fE S (.UnaryOp o a p)).bind λg=>Za (zak g) else Zb)
 |e=>if zq9 e then (fE S e).bind λg=>Za (zak g) else Zb
theorem zqy (a:zbp fE) (C:CxOk X S d) {o:Option Zi}{g:GO} (h:z7v fE S o=Za g):PO X o (tO X.K g):=by
 cases o with
 |none=>ext h;exact λpins s σ H Q I q=>z4w pins s σ H Q I (zo9 q)
 | some e =>
  obtain⟨c,b,h⟩:=bS h;ext h;exact λpins s σ H Q I q=>z3w (a X S d C _ _ b) pins s σ H Q I (zxv q)
theorem z1i (H:zbp fE) (HT:zi0 fT):zbp (z2c fE fT):=λX S d C e g h=>by
 have A:∀e a,((fE S e).bind λg=>Za (gArg g))=Za a->PE X e (tA X.K a):=λe a h=>by
  obtain⟨R,K,h⟩:=bS h;ext h;exact (H X S d C _ _ K).wk λ_ _ _=>zf9
 cases e with
 | Name x p =>
  obtain⟨i,B,h⟩:=bS (show (S.rd x).bind _=_ from h);ext h;exact (zox C B).wk λ_ _ _=>zzl
 | Constant c k p =>
  cases c with
  |int i=>ext h;exact z2n.wk λ_ _ _=>zdp λ_=>.int i
  |bool b=>ext h;exact z7r.wk λ_ _ _=>zdp λ_=>.bl b
  |none=>ext h;exact zup.wk λ_ _ _=>zdp λ_=>.non
  |str x=>ext h;exact zfy.wk λ_ _ _=>zdp λ_=>.str x
  |_=>exists h
 | BinOp a q b p =>
  obtain⟨x,f,h⟩:=bS (show (zbb fE S a).bind _=_ from h);obtain⟨y,j,h⟩:=bS h;obtain⟨o,P,h⟩:=bS h;ext h;obtain⟨r,J,E⟩:=z6u (X:=X) P;exact (z9v J (zah H C f) (zah H C j)).wk λ_ _ _=>zdr E
 | UnaryOp q a p =>
  cases q with
  | USub =>
   obtain⟨x,f,h⟩:=bS (show (zbb fE S a).bind _=_ from h);ext h;exact (ych yav (zah H C f)).wk λ_ _ _=>z1p z66
  |_=>exists h
 | BoolOp q w p =>
  cases w with
  |nil=>exists h
  |cons v w=>exact zq7 (λe g=>H X S d C e g) h
 |Compare a ops T p=>exact (zuy H C h).1
 | IfExp c a b p =>
  obtain⟨t,N,h⟩:=bS (show (fT S c).bind _=_ from h);obtain⟨x,f,h⟩:=bS h;obtain⟨y,j,h⟩:=bS h;ext h;exact (zps (HT X S d C _ _ N) (H X S d C _ _ f) (H X S d C _ _ j)).wk λ_ _ _=>z6l
 | Subscript a s p =>
  have F:∀s,(if zdq s then (zbb fE S a).bind λx=>(zbb fE S s).bind λy=>Za (gOp2 oIx x y) else Zb)=Za g->PE X (.Subscript a s p) (tE X.K g):=λs h=>by
   split at h
   ·rename_i z
    obtain⟨x,f,h⟩:=bS h;obtain⟨y,j,h⟩:=bS h;ext h;exact (yae (zyc.or z9m) (zah H C f) (zah H C j) (zh9 z)).wk λ_ _ _=>zdr z8g
   ·exists h
  cases s with
  | Slice U B G I =>
   cases G with
   |some _=>exists h
   | none =>
    obtain⟨x,f,h⟩:=bS (show (zbb fE S a).bind _=_ from h);obtain⟨l,D,h⟩:=bS h;obtain⟨u,L,h⟩:=bS h;ext h;exact (zzn ((z50.or z9i).or z7g) (zah H C f) (zqy H C D) (zqy H C L)).wk λ_ _ _=>z38
  |_=>exact F _ h
 | List n p =>
  obtain⟨O,has,h⟩:=bS (show (asL _ n).bind _=_ from h);ext h;exact (zrh (zif A has).1).wk λ_ _ _=>zyv
 | Tuple n k p =>
  obtain⟨O,has,h⟩:=bS (show (asL _ n).bind _=_ from h);ext h;exact (z21 (zif A has).1).wk λ_ _ _=>zzr
 | Call M args kws p =>
  simp only [z2c] at h;split at h
  ·cases M with
   |Name x I=>exact z0b H C h
   |Attribute o m Q=>exact z0w H C h
   |_=>exists h
  ·split at h
   ·exact zym H C h
   ·exists h
  ·split at h
   ·exact ybj H C h
   ·exists h
  ·exists h
 |ListComp elt gens scope p=>exact zur C (zgo H HT C h)
 |_=>exists h
theorem zy9 (H:zbp fE) (HT:zi0 fT):zi0 (z5g fE fT):=λX S d C e g h=>by
 have b:∀e,(if zq9 e then (fE S e).bind λg=>Za (zak g) else Zb)=Za g->PT X e (tT X.K g):=λe h=>by
  split at h
  ·rename_i z
   obtain⟨x,c,h⟩:=bS h;ext h;exact (z3n (H X S d C _ _ c) (zsm z)).wk λ_ _ _=>zgl λ_ _ _ q=>q
  ·exists h
 cases e with
 | BoolOp o f p =>
  cases f with
  |nil=>exists h
  |cons v f=>exact (zj7 (λe g=>HT X S d C e g) h).pt
 | Compare a ops i p =>
  obtain⟨x,c,h⟩:=bS (show (cmpV fE S a ops i).bind _=_ from h);ext h;exact (zuy H C c).2
 | UnaryOp o a p =>
  cases o with
  | Not =>
   obtain⟨x,c,h⟩:=bS (show (fT S a).bind _=_ from h);ext h;exact (z3o (HT X S d C _ _ c)).wk λ_ _ _=>zve
  |_=>exact b _ h
 |_=>exact b _ h
end
abbrev z6c:GE:=λ_=>Zb
abbrev zu7:GT:=λ_=>Zb
mutual
noncomputable def compE:Nat->Sx->Zi->Option GE
 |0,_,_=>Za z6c
 |n+1,S,e=>Za ((z2c (compE n) (compT n) S e).getD z6c)
noncomputable def compT:Nat->Sx->Zi->Option GT
 |0,_,_=>Za zu7
 |n+1,S,e=>Za ((z5g (compE n) (compT n) S e).getD zu7)
end
theorem zx2 {X:Cx}{e:Zi}:PE X e (tE X.K z6c):=λ_ _ _ _ _ _ q=>by obtain⟨_,_,_,_,_,_,h,_⟩:=q;exists h
theorem zpv {X:Cx}{e:Zi}:PT X e (tT X.K zu7):=λ_ _ _ _ _ _ q=>by obtain⟨_,_,_,_,_,_,h,_⟩:=q;exists h
theorem zcm:∀n,zbp (compE n)/\zi0 (compT n)
 |0=>⟨λ_ _ _ _ _ _ h=>by rw[compE] at h;ext h;exact zx2,λ_ _ _ _ _ _ h=>by rw[compT] at h;ext h;exact zpv⟩
 | n+1=>by
  obtain⟨a,b⟩:=zcm n;refine⟨λX S d C e g h=>?_,λX S d C e g h=>?_⟩
  ·rw [compE] at h
   cases q:z2c (compE n) (compT n) S e with
   |none=>rw[q] at h;ext h;exact zx2
   |some c=>rw[q] at h;ext h;exact z1i a b X S d C e _ q
  ·rw [compT] at h
   cases q:z5g (compE n) (compT n) S e with
   |none=>rw[q] at h;ext h;exact zpv
   |some c=>rw[q] at h;ext h;exact zy9 a b X S d C e _ q
section
variable {X:Cx}{pos:Pos}
end
section
variable {K:Zg}{mp:List Nat}{D:Ends}{σ:St}{H:Hp}
end
section
variable {X:Cx}{S:Sx}{d:Nat}{fE:Sx->Zi->Option GE}
end
section
variable {X:Cx}{S:Sx}{d:Nat}{fE:Sx->Zi->Option GE}
theorem ya1 {o k e:Zi}{p:Pos}{env:Env}:swappedStores [.Subscript o k p] e env=pure Zb:=by
 cases e<;>rfl
theorem z1n {o k e:Zi}{p:Pos}{l:Nat}{env:Env}:swapsWithSole [.Subscript o k p] e l env=pure Zc:=by
 cases e<;>rfl
theorem zr3 {o k:Zi}{p:Pos}{env:Env} (h:zdq k=Zd):∀v,assign (.Subscript o k p) env v=(do
  let a <- holding [v] (eval o env)
  let i <- holding [v,a] (eval k env)
  standAt p
  holding [v,a,i] (setItem a i v)
  release [v,a,i] []):=by
 intro v;cases k<;>first|rfl|(cases h)
end
abbrev zdi (mp:List Nat) (i:Nat):GS:=λen=>match en[i]? with
 |some (#v[w,5])=>if mp.contains i then Zb else Za (en.set i Zb,.ret (w,Zd))
 |some (#v[w,6])=>Za (en,.ret (w,Zc))
 |_=>Zb
theorem ztq {K:Zg}{mp:List Nat}{D:Ends}{σ:St}{H:Hp}{i:Nat}(h:tS K mp (zdi mp i) D σ H):tRet (tVar i) D σ H:=by
 obtain⟨F,pr,en,c,fl,R,h,q⟩:=h;unfold zdi at h;split at h
 ·rename_i w e;split at h
  ·exists h
  ·cases h;obtain⟨v,a,b,z⟩:=R.drop e;exact⟨v,a,q F σ H v (.refl F) b (.refl _ _) z⟩
 ·rename_i w e;cases h;obtain⟨v,a,z⟩:=R.val i w e;exact⟨v,a,q F σ H v (.refl F) R (.refl _ _) z⟩
 ·exists h
abbrev ztd (f:Sx->Stmt->Option GS):Prop:=∀X S d,CxOk X S d->∀s g,f S s=Za g->PS X s (tS X.K S.mp g)
abbrev blk (f:Sx->Stmt->Option GS) (S:Sx):List Stmt->Option GS
 |[]=>Za zbx
 | c::s=>match s with
  |[]=>f S c
  |_::_=>(f S c).bind λa=>(blk f S s).bind λb=>Za (gSeq a b)
abbrev zjz (S:Sx) (x:Str) (p:Pos) (scope:Scope) (pos:Pos):Bool:=S.kd.lookup x==Za .local&&p.line==pos.line && !#v[3,11]
abbrev zo5 (S:Sx) (x:Str):Bool:=S.top&&S.kd.lookup x==Za .cell
abbrev z6v:Zi->Bool
 |.Tuple ..=>Zd
 |_=>Zc
abbrev asgE (fE:Sx->Zi->Option GE) (fT:Sx->Zi->Option GT) (S:Sx) (t e:Zi):Option GS:=match t with
 | .Name x p=>(S.wr x).bind λi=>(match e with
  |.ListComp elt gens scope pos=>(ztp fE fT S elt gens scope).bind λg=>if zjz S x p scope pos||zo5 S x then Za (gSet S.mp i g) else Zb
  |e=>if zgh e then (fE S e).bind λg=>Za (gSet S.mp i g) else Zb)
 |.Tuple b _ _=>(if z6v e then Zb else (zgm S b).bind λa=>(fE S e).bind λg=>Za (gAsg S.mp (.tp a) g))
 | .Subscript o k _=>(match o with
  |.Name x _=>if zdq k then (S.rd x).bind λi=>(fE S k).bind λc=>(fE S e).bind λg=>Za (zbe i c g) else Zb
  |_=>Zb)
 |_=>Zb
abbrev zsr (mp:List Nat) (i:Nat) (g:GE):GS:=λen=>match en[i]? with
 |some (#v[_,2])=>z5m mp i g en
 |_=>gAug mp #v[5,15] i (gArg g) en
theorem zt9 {K:Zg}{mp:List Nat}{D:Ends}{σ:St}{H:Hp}{i:Nat}{r:R2}{g:GE}(a:OpS K r #v[5,15])(h:tS K mp (zsr mp i g) D σ H):tAug i (tE K g) z7l D σ H\/tAug i (tA K (gArg g)) r D σ H:=by
 obtain⟨F,pr,en,e,fl,R,h,q⟩:=h;unfold zsr at h;split at h
 ·exact .inl (zta ⟨F,pr,en,e,fl,R,h,q⟩)
 ·exact .inr (zqi a ⟨F,pr,en,e,fl,R,h,q⟩)
abbrev zra:Zi->Bool
 |.Constant ..=>Zc
 |_=>Zd
abbrev z4j (fS:Sx->Stmt->Option GS) (fE:Sx->Zi->Option GE) (fT:Sx->Zi->Option GT) (S:Sx) (st:Stmt):Option GS:=match st with
 | .Return o _=>(match o with
  |none=>Zb
  | some e=>(match e with
   |.Name x _=>(S.rd x).bind λi=>Za (zdi S.mp i)
   |e=>(fE S e).bind λg=>Za (gRet g)))
 |.If c a b _=>(fT S c).bind λt=>(blk fS S a).bind λx=>(blk fS S b).bind λy=>Za (gIfS t x y)
 | .For d j body f _=>(match f with
  |[]=>(zo3 fE S d j).bind λl=>(tgE S d).bind λT=>(blk fS S body).bind λg=>Za (gFor S.mp T l g)
  |_=>Zb)
 |.Pass _=>Za zbx
 |.Expr e _=>if zgh e then (fE S e).bind λg=>Za (zc8 g) else Zb
 | .Assign k e _=>(match k with
  |[d]=>asgE fE fT S d e
  |_=>Zb)
 | .AugAssign d h e _=>(match d with
  |.Name x _=>if h==.Add&&zra e then (S.wr x).bind λi=>(fE S e).bind λg=>Za (zsr S.mp i g) else (S.wr x).bind λi=>(augO h).bind λo=>(zbb fE S e).bind λa=>Za (gAug S.mp o i a)
  |_=>Zb)
 |_=>Zb
section
variable {X:Cx}{S:Sx}{d:Nat}{fS:Sx->Stmt->Option GS}{fE:Sx->Zi->Option GE}{fT:Sx->Zi->Option GT}
theorem zkf (HS:ztd fS) (C:CxOk X S d):∀{s:List Stmt}{g:GS},blk fS S s=Za g->PSs X s (tS X.K S.mp g)
 |[],_,h=>by ext h;exact zo8.wk λ_ _ _=>zg4
 |[c],_,h=>pss_one (HS X S d C _ _ h)
 | c::i::s,_,h=>by
  obtain⟨a,f,h⟩:=bS (show (fS S c).bind _=_ from h);obtain⟨b,e,h⟩:=bS h;ext h;exact (zcc (HS X S d C _ _ f) (zkf HS C e)).wk λ_ _ _=>zy1
theorem ydm (C:CxOk X S d){x:Str}{p pos:Pos}{elt:Zi}{gens:List Comprehension}{scope:Scope}{l:Nat}(h:zjz S x p scope pos=Zd):swapsWith #v[4,9] (Za (.Name x p)) l X.env=pure Zd:=by
 unfold zjz at h;rw[Ae,Ae] at h;have a:X.env.kindOf x=Za .local:=C.loc x (by simpa using h.1.1);show (pure (X.env.blockKind==.function&&X.env.kindOf x==Za .local&&p.line==pos.line && !#v[3,11]):Sem Bool)=pure Zd;rw[C.bk,a,h.1.2,h.2]
 rfl
theorem swNo (C:CxOk X S d){x:Str}{p pos:Pos}{elt:Zi}{gens:List Comprehension}{scope:Scope}{l:Nat}(h:zo5 S x=Zd):swapsWith #v[4,9] (Za (.Name x p)) l X.env=pure Zc:=by
 unfold zo5 at h;rw[Ae] at h;have a:X.env.kindOf x=Za .cell:=(C.cel x (by simpa using h.2)).1;show (pure (X.env.blockKind==.function&&X.env.kindOf x==Za .local&&p.line==pos.line && !#v[3,11]):Sem Bool)=pure Zc;rw[a];have:(Za NameKind.cell==Za NameKind.local)=Zc:=rfl;rw[this,Gv,Ey,Ey]
theorem z1t {e:Zi}{es:List Zi}{k:Nat}{p:Pos}{env:Env}(h:z6v e=Zc):swappedStores [.Tuple es k p] e env=pure Zb:=by
 cases e with
 |Tuple _ _ _=>cases h
 |_=>rfl
theorem zpy {es:List Zi}{k:Nat}{p:Pos}{e:Zi}{l:Nat}{env:Env}:swapsWithSole [.Tuple es k p] e l env=pure Zc:=by
 cases e<;>rfl
theorem z4o (l:zbp fE) (HT:zi0 fT) (C:CxOk X S d) {t e:Zi}{g:GS}{pos:Pos} (h:asgE fE fT S t e=Za g):PS X (.Assign [t] e pos) (tS X.K S.mp g):=by
 cases t with
 | Name x J =>
  refine aG λ_ qG=>?_;obtain ⟨i,y,h⟩:=bS (show (S.wr x).bind _=_ from h);obtain ⟨w,r,n⟩:=ztb C y;refine qG ?_;clear qG;have f:(if zgh e then (fE S e).bind λg=>Za (gSet S.mp i g) else Zb)=Za g->PS X (.Assign [.Name x J] e pos) (tS X.K S.mp g):=λh=>by
   split at h
   ·rename_i z
    obtain⟨m,j,h⟩:=bS h;ext h;exact (zm2 (ndN C) w r (l X S d C _ _ j) (zp6 z) n).wk λ_ _ _=>zjq
   ·exists h
  cases e with
  | ListComp elt gens scope E =>
   obtain⟨m,j,h⟩:=bS (show (ztp fE fT S elt gens scope).bind _=_ from h);have G:=zgo l HT C j;split at h
   ·rename_i z
    ext h;rw[Cg] at z;rcases z with z|z
    ·refine aG λV qG => ?_
     obtain ⟨t,iter,ifs,W,Z,T,Y,em,U,R,K,s,P,N,M,pt,O,rd⟩:=G.ex;refine qG ?_;clear qG;subst R;exact (z4r (ndN C) w r P M pt (O E) (K E) (ydm C z) C.calm s.kind s.cap s.fr s.nc s.nm N n).wk λD σ H q=>by
      have Q:=zjq q;exact rd _ _ _ Q
    ·exact (zm2 (ndN C) w r (zur C G) (swNo C z) n).wk λ_ _ _=>zjq
   ·exists h
  |_=>exact f h
 | Tuple B L p =>
  have gen:(if z6v e then Zb else (zgm S B).bind λI=>(fE S e).bind λg=>Za (gAsg S.mp (.tp I) g))=Za g->PS X (.Assign [.Tuple B L p] e pos) (tS X.K S.mp g):=λh=>by
   split at h
   ·exists h
   ·rename_i z
    nofun;obtain⟨I,u,h⟩:=bS h;obtain⟨m,j,h⟩:=bS h;ac_rfl;ext h;obtain⟨a,b,c⟩:=zhy C _ u;exact (zvc (l X S d C _ _ j) (zwx C.calm a b c) zpy (z1t (by simpa using z)) rfl).wk λ_ _ _=>z1x
  exact gen h
 | Subscript o k p =>
  cases o with
  | Name x J =>
   have A:(if zdq k then (S.rd x).bind λi=>(fE S k).bind λF=>(fE S e).bind λg=>Za (zbe i F g) else Zb)=Za g:=h;split at A
   ·rename_i z
    nofun;obtain⟨i,y,h⟩:=bS A;obtain⟨F,v,h⟩:=bS h;obtain⟨m,j,h⟩:=bS h;ac_rfl;ext h;exact (zvc (l X S d C _ _ j) (z97 (zox C y) (l X S d C _ _ v) zz5 (zr3 z)) z1n ya1 rfl).wk λ_ _ _=>zsd
   ·exists A
  |_=>exists h
 |_=>exists h
theorem zz8 (HS:ztd fS) (j:zbp fE) (HT:zi0 fT):ztd (z4j fS fE fT):=λX S d C Q g h=>by
 have N:PassesOwn #v[2,7] X.A X.env X.xe:=by rw[C.xe];exact PassesOwn.never
 cases Q with
 | Return o p =>
  cases o with
  |none=>cases h
  | some e =>
   have gen:((fE S e).bind λg=>Za (gRet g))=Za g->PS X (.Return (Za e) p) (tS X.K S.mp g):=λh=>by
    obtain⟨F,k,h⟩:=bS h;ext h;exact (zkr (j X S d C _ _ k)).wk λ_ _ _=>zpp
   cases e with
   | Name x px =>
    obtain⟨i,l,h⟩:=bS (show (S.rd x).bind _=_ from h);ext h;exact (zkr (zox C l)).wk λ_ _ _=>ztq
   |_=>exact gen h
 | If c a b p =>
  obtain⟨t,Z,h⟩:=bS (show (fT S c).bind _=_ from h);obtain⟨x,Y,h⟩:=bS h;obtain⟨y,O,h⟩:=bS h;ext h;exact (z63 (HT X S d C _ _ Z) (zkf HS C Y) (zkf HS C O)).wk λ_ _ _=>z11
 | For m V body E p =>
  cases E with
  |cons _ _=>exists h
  | nil =>
   obtain⟨gi,A,h⟩:=bS (show (zo3 fE S m V).bind _=_ from h);obtain⟨T,M,h⟩:=bS h;obtain⟨gb,J,h⟩:=bS h;ext h;obtain⟨W,K⟩:=ze3 j C A;exact (z8f N C.calm W (zqm C M) (zkf HS C J) K).wk λ_ _ _=>z08
 |Pass p=>ext h;exact z5c.wk λ_ _ _=>zg4
 | Expr e p =>
  have f:(if zgh e then (fE S e).bind λg=>Za (zc8 g) else Zb)=Za g:=h;split at f
  ·rename_i z
   obtain⟨F,k,h⟩:=bS f;ext h;exact (zx3 (j X S d C _ _ k) (zp6 z)).wk λ_ _ _=>zw2
  ·exists f
 | Assign R e p =>
  match R,h with
  |[m],h=>exact z4o j HT C h
  |[],h=>exists h
  |_::_::_,h=>exists h
 | AugAssign m B e p =>
  cases m with
  | Name x px =>
   have f:(if (B==.Add&&zra e)=Zd then (S.wr x).bind λi=>(fE S e).bind λg=>Za (zsr S.mp i g) else (S.wr x).bind λi=>(augO B).bind λo=>(zbb fE S e).bind λa=>Za (gAug S.mp o i a))=Za g:=h;split at f
   ·rename_i z
    rw[Ae] at z;have eo:B=.Add:=by simpa using z.1
    subst eo;obtain⟨i,l,h⟩:=bS f;obtain⟨F,k,h⟩:=bS h;ext h;obtain⟨w,u,n⟩:=ztb C l;have G:=j X S d C _ _ k;intro pins s σ H D I q;rcases zt9 (zb0 λ_ _ _=>.int _) q with q|q
    ·exact zxw (ndN C) w u G z64 n pins s σ H D I q
    ·exact zxw (ndN C) w u (G.wk λ_ _ _=>zf9) zyd n pins s σ H D I q
   ·obtain ⟨i,l,h⟩:=bS f
    obtain⟨o,ho,h⟩:=bS h;obtain⟨a,L,h⟩:=bS h;ext h;obtain⟨w,u,n⟩:=ztb C l;obtain⟨r,U,P⟩:=z5x (X:=X) ho;exact (zxw (ndN C) w u (zah j C L) U n).wk λ_ _ _=>zqi P
  |_=>exists h
 |_=>exists h
end
abbrev zyj:GS:=λ_=>Zb
abbrev zrr:Nat->Sx->Stmt->Option GS
 |0,_,_=>Za zyj
 |n+1,S,s=>Za ((z4j (zrr n) (compE n) (compT n) S s).getD zyj)
theorem zqr {X:Cx}{st:Stmt}{mp:List Nat}:PS X st (tS X.K mp zyj):=λ_ _ _ _ _ _ q=>by obtain⟨_,_,_,_,_,_,h,_⟩:=q;exists h
theorem zfa:∀n,ztd (zrr n)
 |0=>λ_ _ _ _ _ _ h=>by ext h;exact zqr
 | n+1=>λX S d C s g h=>by
  rw[zrr] at h;cases q:z4j (zrr n) (compE n) (compT n) S s with
  |none=>rw[q] at h;ext h;exact zqr
  |some a=>rw[q] at h;ext h;exact zz8 (zfa n) (zcm n).1 (zcm n).2 X S d C s _ q
structure Fd where
 nm:Str
 ps:List Str
 N:List Str
 m:List Bool
 st:Stmt
abbrev deep:Nat:=60
abbrev sxOf (T:List Fd) (bn:List Str) (Ψ:Str->Fn) (d:Nat) (t:Fd):Sx:={ N:=t.N,kd:=(zad t.st).names,bn:=bn,fs:=T.map λu=>(u.nm,(u.m,Ψ u.nm)),mp:=mpOf t.m,top:=Zd,nm:=t.nm,dp:=d }
abbrev zao (T:List Fd) (bn:List Str) (Ψ:Str->Fn) (d:Nat) (t:Fd):Option GS:=blk (zrr deep) (sxOf T bn Ψ d t) (zbh t.st)
abbrev fnAt (T:List Fd) (bn:List Str) (Ψ:Str->Fn) (d:Nat) (t:Fd):Fn:=match zao T bn Ψ d t with
 |some g=>zaf t.m t.N.length g
 |none=>λ_=>Zb
abbrev zys (K:Zg) (x:Str):Bool:=match PySem.W.tabIn K x with
 |some (c,P)=>PySem.W.codeHdIn K c P
 |none=>Zc
theorem Fun.okC {P:Program}{w:World}{K:Zg}{m:Str->Option Ze}{base:Heap}{x qual:Str}{st:Stmt}{f:Zh}{b:FuncData}{N ps:List Str}{k:Nat}{sp:Sp} (F:Fun K x qual st f b) (S:FnScope N ps (zad st)) (len:∀v H Q E,sp v H Q E->v.length=ps.length)
  (a:∀(A:Around) (outer:List Env) (s:Zf) (H:Hp) (v:List V) (Q:VK) (E:XK),(Room k (A.deeper (envOfC qual (zad st) s.heap.objs.size f b.code))/\Room (k+1) A)->sp v H Q E ->
   ∃t,PSs (cxOf CX0 P w K m base N qual (zad st) f b.code A outer s H E).nox (zbh st) t/\t { nx:=λ_ g=>Q .non g,rt:=Q } (start N v) H):FnOk P w K m base CX0 (k+1) f b ps sp:=by
 nofun;obtain⟨n,o,kV,doc,p,j,cdv,i,osl,rfl,l,c⟩:=F.ex;ac_rfl;refine yb7 l c S len λA outer s H v Q E e d=>?_;obtain⟨t,h,q⟩:=a A outer s H v Q E e d;exact⟨t,h.nox,q⟩
structure FdOk (K:Zg) (mg:Str->Option Ze) (t:Fd):Prop where
 sc:FnScope t.N t.ps (zad t.st)
 m:t.m.length=t.ps.length
 ex:∃f fd,Fun K t.nm t.nm t.st f fd/\zfh K fd t.ps []/\mg t.nm=Za (.ref f)
 lam:t.nm∈lams->zys K t.nm=Zd
theorem zr7 {T:List Fd}{Ψ:Str->Fn}{x:Str}{m:List Bool}{Φ:Fn} (h:(T.map λu=>(u.nm,(u.m,Ψ u.nm))).lookup x=Za (m,Φ)):∃t∈T,t.nm=x/\t.m=m/\Φ=Ψ x:=by
 induction T with
 |nil=>exists h
 | cons t T i =>
  rw[Av,Bj] at h;cases q:x==t.nm with
  | true =>
   rw[q] at h;cases h;have:=Bl q;subst this;exact⟨t,At,rfl,rfl,rfl⟩
  | false =>
   rw[q] at h;obtain⟨u,b,a⟩:=i h;exact⟨u,Ag _ b,a⟩
theorem zo1 {T:List Fd} (n:(T.map (·.nm)).Nodup) {t:Fd} (h:t∈T):T.find? (·.nm==t.nm)=Za t:=by
 induction T with
 |nil=>cases h
 | cons u T i =>
  rw[Av,By] at n;rw[List.find?_cons];rcases Am.mp h with rfl|h
  ·simp
  ·have:(u.nm==t.nm)=Zc:=by
    cases q:u.nm==t.nm with
    |false=>rfl
    |true=>exact absurd (Cp.mpr ⟨t,h,(Bl q).symm⟩) n.1
   rw[this];exact i n.2 h
theorem zr6 {K:Zg}{F H:Hp}{a:Zh}{ns:List Int}{Φ:Fn}{ws':List W}(d:Same F H)(t:zrz K F (λ_ _=>False) H)(h:SqL K F a (ns.map V.int))(e:Φ [.frl (ns.map W.int)]=Za (ws',#v[5,10]))(c:ws'.length=1){E:XK}:spF K [Zc] Φ [.ref a] H (λv _=>v=.bl Zd) E:=by
 refine⟨F,λ_ _=>False,_,ws',_,rfl,c,⟨rfl,d,λi w q=>?_,λi w q=>?_,λi j a w g q=>?_,λb o q=>q.elim,t⟩,e,λk f v _ _ z=>?_⟩
 ·cases i with
  |zero=>cases q;exact⟨_,rfl,.frl h (Reps.ofInts ns)⟩
  |succ i=>cases i<;>exists q
 ·cases i with
  |zero=>cases q
  |succ i=>cases i<;>exists q
 ·cases i with
  |zero=>cases q
  |succ i=>cases i<;>exists q
 ·exact z.isBl
abbrev tabsOf (K:Zg):List Zh:=lams.filterMap λx=>(PySem.W.tabIn K x).map (·.2)
theorem zjm {K:Zg}{b:Zh}:b∈tabsOf K↔∃x∈lams,∃c,PySem.W.tabIn K x=Za (c,b):=by
 unfold tabsOf;rw[Ds];constructor
 ·rintro ⟨x,h,e⟩;cases q:PySem.W.tabIn K x with
  |none=>rw[q] at e;exists e
  |some p=>rw[q] at e;ext e;exact⟨x,h,p.1,q⟩
 ·rintro ⟨x,h,c,e⟩;exact⟨x,h,by rw[e];rfl⟩
abbrev z9l (K:Zg) (h:Heap):Prop:=∀x∈lams,∀c P,PySem.W.tabIn K x=Za (c,P)->PySem.W.CodeHd h c P/\h.get? P=Za (PySem.W.tabObj #[])
structure Start (K:Zg) (F H:Hp):Prop where
 sub:Same F H
 tb:zrz K F (λ_ _=>False) H
theorem zyf {P:Program}{w:World}{K:Zg}{G Z:Str->Option Ze}{CX:CXT}{k:Nat}{fa a:Zh}{fd:FuncData}{x:Str}{sp:Sp}{f:Zf}{vs:List Ze}{ns:List Int}
  (KX:K.In f.heap) (nt:PySem.W.noTabs K=Zd) (nd:z4s K) (hT:z9l K f.heap) (W:f.heap.Ns mainGlobals G) (hb:f.heap.Ns builtinsNs Z) (hbb:∀x:Str,x≠"__name__" -> Z x=bootBuiltins x) (Q:f.heap.NoLimit) (hbm:∃(b:Zh) (B:Obj),G "__builtins__" = Za (.ref b)/\b≠builtinsNs/\f.heap.get? b=Za B/\B.cls=.type "module"/\B.dict=Za builtinsNs/\B.data=.plain) (hg:f.gens=#[])
  (E:f.heap.get? a=Za { cls:=.type "list",data:=.seq vs.toArray }) (hi:IntsAre vs ns) (hl:ns.length<=sizeLine) (hr:Room k callerA)
  (Fk:∀base:Heap,K.In base->base.Ns mainGlobals G->FnOk P w K G base CX k fa fd [x] sp) (D:∀(s:Zf) (u:Ze),BindsTo s fd ⟨[u],[]⟩ [(x,u)])
  (Y:∀F H:Hp,Start K F H->SqL K F a (ns.map V.int)->sp [.ref a] H (λv _=>v=.bl Zd) λ_ _ _=>False)
  (hCX:∀H e j,CX [] H f (λ_ _ _=>False) e j->False) :
  codeAny (model P w) callerA (.call (.ref fa) ⟨[.ref a],[]⟩) (λr j=>r=.ok (.ret (.bool Zd))/\OldK f.heap j.heap/\j.os=f.os/\AllBare j.gens) f:=by
 have rv:=zna hi;have M:=hi.length;have t:∀b∈tabsOf K,f.heap.get? b=Za (PySem.W.tabObj #[]):=λb h=>by
  nofun;obtain⟨x,R,c,e⟩:=zjm.mp h;ac_rfl;exact (hT x R c b e).2
 have na:a ∉ tabsOf K:=λh=>by
  have:=t a h;rw[E] at this;cases this
 have C:∀F H:Hp,(∀b,H b=Zb\/(b∈tabsOf K/\H b=Za (.tbl #[])/\F b=Zb)\/(b=a/\K.lookup a=Zb/\F b=H b/\∃o xs,H b=Za (.frz o (.lst xs))))->(∀b,H b=Zb->F b=Zb)->(∀b∈tabsOf K,H b=Za (.tbl #[]))->SqL K F a (ns.map V.int)->HOk P w H f.heap ->
   codeAny (model P w) callerA (.call (.ref fa) ⟨[.ref a],[]⟩) (λr j=>r=.ok (.ret (.bool Zd))/\OldK f.heap j.heap/\j.os=f.os/\AllBare j.gens) f:=by
  intro F H J hF hB hS S;have g:∀{b:Zh}{o:Obj},f.heap.get? b=Za o->H b=Zb->(hidT f.heap H).get? b=Za o:=λe n=>zyy e n;have noA:∀{b:Zh}{o:Obj}{L:Array DictEntry}{U:Nat},f.heap.get? b=Za o->o.data=.dict L U->H b=Zb:=λ{b o L U} e d=>by
   rcases J b with z|⟨z,_⟩|⟨z,_⟩
   ·exact z
   ·rw[t b z] at e;ext e;cases d
   ·subst z
    rw[E] at e;ext e;have d':Data.seq vs.toArray _=Data.dict L U:=d;cases d'
  have p:∀{b:Zh}{m:Str->Option Ze},f.heap.Ns b m->(hidT f.heap H).Ns b m:=λ{b m} ⟨o,L,U,e,d,r⟩=>⟨o,L,U,g e (noA e d),d,r⟩;have O:K.In (hidT f.heap H):=λb o e=>g (KX b o e) (by
   rcases J b with z|⟨z,_⟩|⟨z,n,_⟩
   ·exact z
   ·have I:=KX b o e
    rw[t b z] at I;ext I;have:=Bd.mp nt (b,_) (PySem.W.mem_of_lookupK e);exact absurd (show Zc=Zd from this) As
   ·subst z
    rw[n] at e;cases e)
  have hM:Mod K G (hidT f.heap H):=⟨O,p W,⟨Z,p hb,hbb⟩,let ⟨mc,h1,h2⟩:=Q;⟨mc,p h1,h2⟩,by
   nofun;obtain⟨b,B,b1,b2,N,b4,b5,b6⟩:=hbm;ac_rfl;refine⟨b,B,b1,b2,g N ?_,b4,b5,b6⟩;rcases J b with z|⟨z,_⟩|⟨z,_⟩
   ·exact z
   ·rw[t b z] at N;ext N;cases b4
   ·subst z;rw[E] at N;ext N;exact absurd b4 (by simp)⟩
  have e0:Env0 P w K G (hidT f.heap H) callerA [] f H:=⟨rfl,hM,λb o e=>z5h e,Nat.le_of_eq (zx8 _ _),trivial,λb hb=>absurd (show b∈([]:List Zh) from hb) (by simp),S,.of_eq hg⟩;have st:Start K F H:=⟨λb o e=>by
   rcases J b with z|⟨_,_,z⟩|⟨_,_,z,_⟩
   ·rw[hF b z] at e;cases e
   ·rw[z] at e;cases e
   ·rw[<-z];exact e,⟨⟨nd,λ_ _ z=>z⟩,λx R c X e=>by
   have hm:X∈tabsOf K:=zjm.mpr ⟨x,R,c,e⟩;refine⟨#[],hB X hm,?_,λ_ z=>z,trivial,λpos cv q=>by cases q⟩;rcases J X with z|⟨_,_,z⟩|⟨z,_⟩
   ·exact hF X z
   ·exact z
   ·subst z;exact absurd hm na⟩⟩
  refine Hb ((Fk _ O (p W)).run callerA [] f H ⟨[.ref a],[]⟩ [.ref a] [.ref a] _ _ hr e0 (D f (.ref a)) (.cons rfl .nil) (Y F H st hS)) λr j h=>?_;cases r with
  |error e=>exact (hCX H e j h).elim
  | ok fl =>
   cases fl with
   |next=>exact False.elim h
   |brk=>exact False.elim h
   |cont=>exact False.elim h
   | ret u =>
    nofun;obtain⟨v,H',os,bare,un,A,r',q⟩:=h;ac_rfl;have q':v=.bl Zd:=q;subst q';obtain rfl:u=Ze.bool Zd:=r';refine⟨rfl,⟨λb o e=>?_,λb o e=>un.there b o e (by simp)⟩,os,bare⟩;rcases J b with z|⟨z,z1,_⟩|⟨_,_,_,B,xs,z⟩
    ·exact .inl (un.keep b o e z (by intro y;exact absurd (show b∈([]:List Zh) from y) (by simp)) (by simp))
    ·refine aG λGg qG => ?_
     obtain⟨x,R,c,ex⟩:=zjm.mp z;obtain⟨t1,t2⟩:=hT x R c b ex;ac_rfl;rw[e] at t2;ext t2;obtain⟨more,I⟩:=un.tbls b #[] z1;exact .inr (.inl ⟨(t1.tab e).isCodeTable,rfl,#[],more,rfl,A b _ I⟩)
    ·have z2:=un.frzs b B _ z
     obtain⟨e1,_⟩:=S b _ z;obtain⟨I,_⟩:=A b _ z2;rw[e] at e1;ext e1;exact .inl I
 have T:∀b,b∈tabsOf K->∀H,zbr P w H f.heap b (.tbl #[]):=λb h H=>t b h;cases hk:K.lookup a with
 | some o =>
  have e:=KX a o hk;rw[E] at e;ext e;refine C (λ_=>Zb) (λb=>if b∈tabsOf K then Za (.tbl #[]) else Zb) (λb=>?_) (λ_ _=>rfl) (λb h=>if_pos h) (.inr ⟨_,vs.toArray,_,hk,rfl,rfl,rfl,by rw[An,M];exact hl,by simpa using rv⟩) (λb u z=>?_)
  ·by_cases h:b∈tabsOf K
   ·exact .inr (.inl ⟨h,if_pos h,rfl⟩)
   ·exact .inl (if_neg h)
  ·by_cases h:b∈tabsOf K
   ·have l:=(if_pos h).symm.trans z
    ext l;exact T b h _
   ·have l:=(if_neg h).symm.trans z
    cases l
 | none =>
  refine C (λb=>if b=a then Za (.frz { cls:=.type "list",data:=.seq vs.toArray } (.lst (ns.map V.int))) else Zb) (λb=>if b=a then Za (.frz { cls:=.type "list",data:=.seq vs.toArray } (.lst (ns.map V.int))) else if b∈tabsOf K then Za (.tbl #[]) else Zb) (λb=>?_) (λb z=>?_) (λb h=>?_) (.inl (.inr ⟨{ cls:=.type "list",data:=.seq vs.toArray },if_pos rfl⟩)) (λb u z=>?_)
  ·by_cases i:b=a
   ·exact .inr (.inr ⟨i,hk,by simp only [if_pos i],_,_,if_pos i⟩)
   ·by_cases h:b∈tabsOf K
    ·exact .inr (.inl ⟨h,by simp only [if_neg i,if_pos h],if_neg i⟩)
    ·exact .inl (by simp only [if_neg i,if_neg h])
  ·by_cases i:b=a
   ·simp only [if_pos i] at z;cases z
   ·exact if_neg i
  ·have i:b≠a:=λz=>by subst z;exact na h
   simp only [if_neg i,if_pos h]
  ·by_cases i:b=a
   ·have l:Za (HO.frz { cls:=.type "list", data:=.seq vs.toArray } (.lst (ns.map V.int)))=Za u:=by simpa only [if_pos i] using z
    ext l;subst i;exact⟨E,by rw[Ab];exact hl,vs,_,rv,E⟩
   ·by_cases h:b∈tabsOf K
    ·have l:Za (HO.tbl #[])=Za u:=by simpa only [if_neg i,if_pos h] using z
     ext l;exact T b h _
    ·have l:(Zb:Option HO)=Za u:=by simpa only [if_neg i,if_neg h] using z
     cases l
abbrev zwb (K:Zg):Bool:=lams.all λx=>lams.all λa=>match PySem.W.tabIn K x,PySem.W.tabIn K a with
 |some p,Za b=>x==a || !(p.2==b.2)
 |_,_=>Zd
theorem zyl {K:Zg}(h:zwb K=Zd):z4s K:=λx f d a c g P e b=>by
 have:=Bd.mp (Bd.mp h x f) d a;rw[e,b] at this;simpa using this
theorem walk_ofT {l:PySem.W.OpenLaw}{n k:Nat}{q:Program}{i:List Str}{X:(Str->Option Ze)->Heap->Prop}{J:World->Heap->Prop}{d:DefRec}{K:Params->Zg}{CX:World->CXT}{sp:World->Sp}{x:Str}
  (hn:l.most=Za n) (C:n<=sizeLine) (E:d.params.defaults=[]) (U:Room k callerA)
  (hY:∀(w:World) (h:Heap),J w h->(K w.params).In h)
  (R:∀w:World,PySem.W.noTabs (K w.params)=Zd) (nd:∀w:World,zwb (K w.params)=Zd) (hrec:∀(w:World),∀x∈lams,∀c P,PySem.W.tabIn (K w.params) x=Za (c,P)->∃d,(recsOf q).find? (λe=>e.name==x)=Za d)
  (F:∀(w:World) (m:Str->Option Ze) (r:Zh) (h:Heap),(K w.params).In h->h.Ns mainGlobals m->m d.name=Za (.ref r) ->
   ∃D:FuncData,(∀(s:Zf) (u:Ze),BindsTo s D ⟨[u],[]⟩ [(x,u)]) /\
    ∀base:Heap,(K w.params).In base->base.Ns mainGlobals m->FnOk l.prog w (K w.params) m base (CX w) k r D [x] (sp w))
  (B:∀(w:World) (F H:Hp) (a:Zh) (t:List Int),t.length<=n->Start (K w.params) F H->SqL (K w.params) F a (t.map V.int)->sp w [.ref a] H (λv _=>v=.bl Zd) λ_ _ _=>False)
  (A:∀(w:World) (H:Hp) (s:Zf) (e:Ze) (I:Zf),CX w [] H s (λ_ _ _=>False) e I->False) :
  PySem.W.WalkO q i X J l.row.toRowW d [] (λf L=>PySem.call f L):=by
 refine Att.attach_call hn E λw s₀ j m mb r o pm cd doc a L t G Y ho M T y p g b Z=>?_;have z:=hY w _ Y;obtain⟨D,N,hF⟩:=F w m r _ z G.T.g y;refine zyf z (R w) (zyl (nd w)) (λx W c Q e=>?_) G.T.g G.T.b G.T.builtins G.T.nolimit G.T.bmain Z p g (Ci b C) U hF N (λF H S O=>B w F H a t b S O) λH e I=>A w H j e I;obtain⟨d,M⟩:=hrec w x W c Q e;exact PySem.W.tab_of G.T z M e
theorem zw9 (i j:Int):oAdd (.int i) (.int j)=#v[(i+j),0]:=rfl
theorem zwi {i j:Int}(h:cMul i j=Zd):oMult (.int i) (.int j)=#v[(i*j),0]:=by
 show (match (if cMul i j then #v[W.int (i*j),6] else Zb) with|some p=>Za p|none=>_)=_;rw[if_pos h]
theorem oMult_l {i j:Int}(a:-(2^64)<i)(h:i<2^64):oMult (.int i) (.int j)=#v[(i*j),0]:=zwi (by
 unfold cMul;rw[Cg,Ae];exact .inl ⟨Aj a,Aj h⟩)
theorem znx {i j:Int}(a:-(2^64)<j)(h:j<2^64):oMult (.int i) (.int j)=#v[(i*j),0]:=zwi (by
 unfold cMul;rw[Cg,Ae,Ae];exact .inr ⟨Aj a,Aj h⟩)
theorem zx1 {i j:Int}(b:Builtin.Int.intBits i<=2^20)(a:Builtin.Int.intBits j<=2^20):oMult (.int i) (.int j)=#v[(i*j),0]:=by
 have h:zr5 i j=Zd:=by
  unfold zr5;rw[Ae];exact⟨Aj b,Aj a⟩
 show (match (if cMul i j then #v[W.int (i*j),6] else Zb) with|some p=>Za p|none=>(match (if zr5 i j then #v[W.int (i*j),6] else Zb) with|some p=>Za p|none=>_))=_;rw[if_pos h];split<;>simp_all
theorem zlu {xs:List W}{k:Int}(h:-(2^63)<=k/\k<2^63/\xs.length*k.toNat<=sizeLine):oMult (.lst xs) (.int k)=#v[(List.replicate k.toNat xs).flatten,2]:=by
 show (if -(2^63)<=k/\k<2^63/\xs.length*k.toNat<=sizeLine then Za (W.lst (List.replicate k.toNat xs).flatten,Zd) else Zb)=_;rw[if_pos h]
theorem zth {xs ys:List W}(h:xs.length+ys.length<=sizeLine):oAdd (.lst xs) (.lst ys)=#v[(xs++ys),2]:=by
 show (match (if xs.length+ys.length<=sizeLine then #v[W.lst (xs++ys),5] else Zb) with|some p=>Za p|none=>_)=_;rw[if_pos h]
theorem ybo {i j:Int}(h0:0<j)(h:j<2^200):cDiv i j=Zd:=by
 unfold cDiv;rw[Ae];refine⟨Aj h0,Aj ?_⟩;have a:j.natAbs≠0:=by symm
 have b:j.natAbs<2^200:=by
  have:((j.natAbs:Nat):Int)<((2^200:Nat):Int):=by
   rw[Int.natCast_pow];have e:((j.natAbs:Nat):Int)=j:=by symm
   rw[e];exact h
  exact Int.ofNat_lt.mp this
 exact Az ((Nat.log2_lt a).mpr b) #v[0,9]
theorem zrj {i j:Int}(h0:0<j)(h:j<18446744073709551617):cDiv i j=Zd:=ybo h0 (Gu h #v[0,9])
theorem zml {i j:Int}(h0:0<=j)(a:j<=1000000)(h:i.natAbs<2^64):cPow i j=Zd:=by
 unfold cPow;rw[Ae,Ae];exact⟨⟨Aj h0,Aj a⟩,Aj h⟩
theorem zpt {mp:List Nat}{T:Tg}{body:GS} (P:Nat->En->Prop):∀(c:List W) (k:Nat) (en:En),P k en->(∀i w e,c[i]?=Za w->P (k+i) e->∃d a,tgSet mp T w e=Za d/\(body d=Za (a,.nx)\/body d=Za (a,.cnt))/\P (k+i+1) a) ->
  ∃b,zlk mp T body c en=Za (b,.nx)/\P (k+c.length) b
 |[],k,en,f,_=>⟨en,rfl,f⟩
 | w::c,k,en,f,g=>by
  refine aG λ_ qG=>?_;obtain ⟨d,a,p,h,n⟩:=g 0 w en rfl f;refine qG ?_;clear qG;obtain ⟨b,o,l⟩:=zpt P c (k+1) a n λi u e m j=>by
   have:=g (i+1) u e (by simpa using m) (by rw[show k+(i+1)=k+1+i by symm];exact j);rw[show k+(i+1)+1=k+1+i+1 by symm] at this;exact this
  refine⟨b,?_,by rw[show k+(w::c).length=k+1+c.length by rw[Bm];symm];exact l⟩;show (tgSet mp T w en).bind _=_;rw[p];show (match body d with|some (a,.nx)=>zlk mp T body c a|some (a,.cnt)=>zlk mp T body c a|some (a,.brk)=>Za (a,.nx)|some (a,.ret r)=>Za (a,.ret r)|none=>Zb)=_;rcases h with h|h<;>(rw[h];exact o)
theorem zbs {mp:List Nat}{T:Tg}{it:GL}{body:GS} (P:Nat->En->Prop) {en e0:En}{ws:List W} (j:it en=Za (e0,ws)) (h0:P 0 e0) (g:∀i w e,ws[i]?=Za w->P i e->∃c b,tgSet mp T w e=Za c/\(body c=Za (b,.nx)\/body c=Za (b,.cnt))/\P (i+1) b) :
  ∃a,gFor mp T it body en=Za (a,.nx)/\P ws.length a:=by
 obtain⟨a,k,d⟩:=zpt P ws 0 e0 h0 λi w e f h=>by
  rw[Cn] at h ⊢;exact g i w e f h
 refine⟨a,?_,by rw[Cn] at d;exact d⟩;unfold gFor;rw[j];exact k
theorem zkk {mp:List Nat}{T:Tg}{tc:GT}{te:GE} (P:Nat->En->List W->Prop):∀(e:List W) (k:Nat) (l:En) (j:List W),P k l j ->
  (∀i w c j,e[i]?=Za w->P (k+i) c j->∃m,tgSet mp T w c=Za m/\((∃b f r,tc m=#v[b,5]/\te b=Za (f,r)/\P (k+i+1) f (j++[r.1]))\/∃b,tc m=#v[b,6]/\P (k+i+1) b j)) ->
  ∃a rest,zhc mp T tc te e l=Za (a,rest)/\P (k+e.length) a (j++rest)
 |[],k,l,j,t,_=>⟨l,[],rfl,by rw[Bf];exact t⟩
 | w::e,k,l,j,t,y=>by
  obtain ⟨m,z,C⟩:=y 0 w l j rfl t;have next:∀f g,P (k+1) f g->∃a rest,zhc mp T tc te e f=Za (a,rest)/\P (k+1+e.length) a (g++rest):=λf g h=>zkk P e (k+1) f g h λi u c d E D=>by
   have:=y (i+1) u c d (by simpa using E) (by rw[show k+(i+1)=k+1+i by symm];exact D);rw[show k+(i+1)+1=k+1+i+1 by symm] at this;exact this
  have A:k+(w::e).length=k+1+e.length:=by rw[Bm];symm
  rcases C with⟨b,f,r,o,B,s⟩|⟨b,o,s⟩
  ·obtain ⟨a, rest,x,n⟩:=next f _ s
   refine⟨a,r.1::rest,?_,by rw[A];rw[Bc] at n;exact n⟩;show (tgSet mp T w l).bind _=_;rw[z];show (match tc m with|#v[b,5]=>(te b).bind λp=>(zhc mp T tc te e p.1).bind λq=>Za (q.1,p.2.1::q.2)|#v[b,6]=>zhc mp T tc te e b|none=>Zb)=_;rw[o];show (te b).bind _=_;rw[B];show (zhc mp T tc te e f).bind _=_;rw[x]
   rfl
  ·obtain ⟨a, rest,x,n⟩:=next b _ s
   refine⟨a,rest,?_,by rw[A];exact n⟩;show (tgSet mp T w l).bind _=_;rw[z];show (match tc m with|#v[b,5]=>(te b).bind λp=>(zhc mp T tc te e p.1).bind λq=>Za (q.1,p.2.1::q.2)|#v[b,6]=>zhc mp T tc te e b|none=>Zb)=_;rw[o];exact x
theorem zdy {cap:Cap}{T:Tg}{it:GL}{tc:GT}{te:GE} (P:Nat->En->List W->Prop) {en e0:En}{ws:List W} (n:it en=Za (e0,ws)) (l:zce cap=Zd) (m:ws.length<=sizeLine) (h0:P 0 (zf3 cap e0) [])
  (j:∀i w c d,ws[i]?=Za w->P i c d->∃e,tgSet (capKeep cap) T w c=Za e/\((∃b f r,tc e=#v[b,5]/\te b=Za (f,r)/\P (i+1) f (d++[r.1]))\/∃b,tc e=#v[b,6]/\P (i+1) b d)) :
  ∃a out,za6 cap T it tc te en=Za (zar cap e0 a,(.lst out,Zd))/\P ws.length a out:=by
 obtain⟨a,rest,k,h⟩:=zkk P ws 0 (zf3 cap e0) [] h0 λi w c d o g=>by
  rw[Cn] at g ⊢;exact j i w c d o g
 refine⟨a,rest,?_,by rw[Cn] at h;exact h⟩;unfold za6;rw[n];show (if zce cap&&decide (ws.length<=sizeLine) then _ else Zb)=_;rw[if_pos (by rw[l,Aj m];rfl),k]
 rfl
theorem ze2 {lo:Int}{n i:Nat}{w:W} (h:(rngW lo n)[i]?=Za w):i<n/\w=.int (lo+i):=by
 unfold rngW at h;rw[Ai] at h;cases q:(List.range n)[i]? with
 |none=>rw[q] at h;exists h
 | some k =>
  rw[q] at h;obtain⟨a,e⟩:=Ah.mp q;rw[Da] at a;rw[List.getElem_range] at e;subst e;exact⟨a,(sI h).symm⟩
theorem zeq (lo:Int)(n:Nat):(rngW lo n).length=n:=by unfold rngW;rw[Ab,Da]
theorem zbm {xs:List W}{i:Nat}{x:W}(h:xs[i]?=Za x):atI xs (i:Int)=Za x:=z4e h
theorem zti {en:En}:outsW [] [] en=Za []:=rfl
theorem zva {m:List Bool}{ws:List W}{en:En}{x w:W}:outsW (Zd::m) (x::ws) (#v[w,5]::en)=(outsW m ws en).bind λr=>Za (w::r):=rfl
theorem zs7 {m:List Bool}{ws:List W}{en:En}{w:W}{o:Option (W×Bool)}:outsW (Zc::m) (w::ws) (o::en)=(outsW m ws en).bind λr=>Za (w::r):=rfl
abbrev HS (k:Nat) (w:W):Prop:=∃a b c:Int,w=.lst [.int a,.int b,.int c]/\0<=a/\0<=b/\b<MM/\0<=c/\c<=k
theorem HS.mono {k d:Nat}{w:W}(h:HS k w)(m:k<=d):HS d w:=by
 obtain⟨a,b,c,e,j,f,g,i,l⟩:=h;exact⟨a,b,c,e,j,f,g,i,by symm⟩
abbrev zqd (Φ:Fn):Prop:=∀(k:Nat) (a:W) (n:Int),HS k a->k<big->0<n->n<1073741824->∃s r,Φ [a,.int n]=Za ([s,.int n],(.int r,Zc))/\HS (k+1) s/\0<=r/\r<n
abbrev zun (Ψ:Str->Fn):GS:=(gSeq (gIfS (zak (gOp2 #v[8,9] #v[6,10] #v[0])) (gSeq (gSet [0] 2 (gOp2 #v[0,0,2] #v[6,10] (zaa 1))) (gSeq (zbe 0 (gC (.int 0)) (gOp2 #v[0,0,3] #v[6,10] (zaa 1))) (zdi [0] 2))) zbx) (gSeq (zbe 0 (gC (.int 2)) (gOp2 oAdd #v[2,14] #v[1])) (gSeq (gSet [0] 3 (gOp2 #v[0,0,2] (gArg (gOp2 oMult (gArg (gOp2 oAdd (gArg (gOp2 oAdd #v[0,17] (gArg (gOp2 oMult (gArg (gOp2 oMult #v[65537] #v[2,14])) #v[2,14])))) #v[11])) #v[48271])) #v[2305843009213693921])) (gSeq (gSet [0] 3 (gOp2 #v[0,0,2] (gArg (gOp2 oMult (zaa 3) (gArg (gOp2 oAdd (gArg (gOp2 #v[0,0,2] (zaa 3) #v[1000003])) (gArg (gOp2 oMult #v[99991] #v[2,14])))))) #v[2305843009213693907])) (gRet (gOp2 #v[0,0,2] (gArg (gOp2 oAdd (gArg (gOp2 #v[0,0,3] (zaa 3) #v[97])) (gArg (gOp2 #v[0,0,3] (zaa 3) #v[1000033])))) (zaa 1)))))))
theorem z3x (Ψ:Str->Fn):zqd (zaf [Zd,Zc] 4 (zun Ψ)):=by
 rintro k y n ⟨a,b,c,rfl,g,f,h,o,x⟩ r d z;have w:(k:Int)<1099511627776:=by have:k<1099511627776:=r;symm
 by_cases j:0<a
 ·refine⟨.lst [.int (a/n),.int b,.int c],a%n, ?_,⟨_,_,_,rfl,Int.ediv_nonneg g #v[],f,h,o,by symm⟩,Fp _ #v[],Ej _ d⟩;have t:cDiv a n=Zd:=zrj d #v[];simp [zaf,zun,zau,gSeq,gIfS,zak,gOp2,gArg,zaa,gC,resA,oI,yes2,oIx,seqW,atI,ixN,gSet,zbe,zdi,zti,zva,zs7,j,d,t]
 ·have u:oMult (.int 65537) (.int (c+1))=Za (.int (65537*(c+1)),Zc):=oMult_l #v[0,9] #v[0,9];have l:oMult (.int (65537*(c+1))) (.int (c+1))=#v[(65537*(c+1)*(c+1)),0]:=znx #v[] #v[];have e:oMult (.int (b+65537*(c+1)*(c+1)+11)) (.int 48271)=#v[((b+65537*(c+1)*(c+1)+11)*48271),0]:=znx #v[0,9] #v[0,9];generalize B:(b+65537*(c+1)*(c+1)+11)*48271=x0 at e;have q:oMult (.int 99991) (.int (c+1))=#v[(99991*(c+1)),0]:=oMult_l #v[0,9] #v[0,9];have C:0<=x0%2305843009213693921:=Fp _ #v[0,9];have A:x0%2305843009213693921<2305843009213693921:=Ej _ #v[0,9];have p:oMult (.int (x0%2305843009213693921)) (.int (x0%2305843009213693921%1000003+99991*(c+1)))=#v[(x0%2305843009213693921*(x0%2305843009213693921%1000003+99991*(c+1))),0]:=oMult_l #v[] #v[];have s:∀i,cDiv i 97=Zd:=λi=>zrj #v[0,9] #v[0,9];have m:∀i,cDiv i 1000033=Zd:=λi=>zrj #v[0,9] #v[0,9];refine⟨.lst [.int a,.int b,.int (c+1)],(x0%2305843009213693921*(x0%2305843009213693921%1000003+99991*(c+1))%2305843009213693907/97+x0%2305843009213693921*(x0%2305843009213693921%1000003+99991*(c+1))%2305843009213693907/1000033)%n,?_,⟨_,_,_,rfl,g,f,h,by symm,by symm⟩,Fp _ #v[],Ej _ d⟩
  ·simp [zaf,zun,zau,gSeq,gIfS,zak,gOp2,gArg,zaa,gC,resA,oI,yes2,oIx,seqW,atI,ixN,gSet,zbe,gRet,zbx,zti,zva,zs7,j,d,zw9,u,l,e,q,p,s,m]
theorem seq_nx {a b:GS}{en e1:En}(h:a en=Za (e1,.nx)):gSeq a b en=b e1:=by unfold gSeq;rw[h]
theorem z9f {a b:GS}{en e1:En}{r:W×Bool}(h:a en=Za (e1,.ret r)):gSeq a b en=Za (e1,.ret r):=by unfold gSeq;rw[h]
theorem zq4 {mp:List Nat}{i:Nat}{g:GE}{en e1:En}{r:W×Bool}(h:g en=Za (e1,r))(a:(mp.contains i || !decide (i<e1.length))=Zc):gSet mp i g en=Za (e1.set i (Za r),.nx):=by
 unfold gSet;rw[h];show (if (mp.contains i || !decide (i<e1.length))=Zd then _ else _)=_;rw[a]
 rfl
theorem ybb {c:GT}{a b:GS}{en e1:En}(h:c en=#v[e1,5]):gIfS c a b en=a e1:=by unfold gIfS;rw[h]
theorem ya6 {c:GT}{a b:GS}{en e1:En}(h:c en=#v[e1,6]):gIfS c a b en=b e1:=by unfold gIfS;rw[h]
theorem zw1 {g:GE}{en e1:En}{b f:Bool}(h:g en=Za (e1,(.bl b,f))):zak g en=Za (e1,b):=by unfold zak;rw[h]
theorem zv0 {g:GE}{en e1:En}{r:W×Bool}(h:g en=Za (e1,r)):gRet g en=Za (e1,.ret r):=by unfold gRet;rw[h];rfl
theorem zub {g:GE}{en e1:En}{r:W×Bool}(h:g en=Za (e1,r)):zc8 g en=Za (e1,.nx):=by unfold zc8;rw[h];rfl
theorem zb2 {g:GE}{en e1:En}{r:W×Bool}(h:g en=Za (e1,r)):gArg g en=Za (e1,.inl r.1):=by unfold gArg;rw[h];rfl
theorem zw0 {a:GA}{as:GAs}{en e1 e:En}{x:W ⊕ Nat}{xs:List (W ⊕ Nat)}(h:a en=Za (e1,x))(b:as e1=Za (e,xs)):gCns a as en=Za (e,x::xs):=by
 unfold gCns;rw[h];show (as e1).bind _=_;rw[b]
 rfl
theorem zbt {o:O2}{a b:GA}{en e1 e:En}{x y:W ⊕ Nat}{w u:W}{r:W×Bool}(f:a en=Za (e1,x))(h:b e1=Za (e,y))(d:resA e x=Za w)(h4:resA e y=Za u)(c:o w u=Za r):gOp2 o a b en=Za (e,r):=by
 unfold gOp2;rw[f];show (b e1).bind _=_;rw[h];show (resA e x).bind _=_;rw[d];show (resA e y).bind _=_;rw[h4];show (o w u).bind _=_;rw[c]
 rfl
theorem z25 {o:ON}{as:GAs}{en e1:En}{xs:List (W ⊕ Nat)}{ws:List W}{r:W×Bool}(b:as en=Za (e1,xs))(h:zbc e1 xs=Za ws)(a:o ws=Za r):gOpN o as en=Za (e1,r):=by
 unfold gOpN;rw[b];show (zbc e1 xs).bind _=_;rw[h];show (o ws).bind _=_;rw[a]
 rfl
theorem za8 {m:List Bool}{n:Nat}{g:GS}{ws ws':List W}{en:En}{r:W×Bool}(a:ws.length=m.length)(h:g (zau m ws++List.replicate (n-m.length) Zb)=Za (en,.ret r))(b:outsW m ws en=Za ws'):zaf m n g ws=Za (ws',r):=by
 unfold zaf;rw[if_pos a,h];show (outsW m ws en).bind _=_;rw[b]
 rfl
theorem zck:∀(a:List W) (i:Nat),zav (za7 (a.map Sum.inl)) i=Zb
 |[],i=>rfl
 | w::a,i=>by
  have:=zck a i;unfold zav za7 at this ⊢;rw[Av,Av,List.findIdx?_cons,this]
  rfl
theorem zg1 (ws:List W):zce (za7 (ws.map Sum.inl))=Zd:=by
 unfold zce;refine Bd.mpr λj _=>?_;have:∀i,(za7 (ws.map Sum.inl))[j]?≠Za (Za i):=λi=>zcx (zck ws i) j;cases q:(za7 (ws.map Sum.inl))[j]? with
 |none=>rfl
 | some o =>
  cases o with
  |none=>rfl
  |some i=>exact absurd q (this i)
theorem zm8 {cap:Cap}{en c:En}(h:∀i,zav cap i=Zb):zar cap en c=en:=by
 unfold zar;apply Db;intro i;rw[Ev];cases en[i]? with
 |none=>rfl
 |some x=>simp only [Gf,h i]
theorem zb1 (en:En):∀a:List W,zbc en (a.map Sum.inl)=Za a
 |[]=>rfl
 |w::a=>by show (Za w).bind _=_;show (zbc en (a.map Sum.inl)).bind _=_;rw[zb1 en a];rfl
theorem ze7 (en:En)(ws:List W):zay en (ws.map Sum.inl)=Zd:=by
 unfold zay;refine Bd.mpr λx h=>?_;obtain⟨w,_,rfl⟩:=Cp.mp h
 rfl
theorem zkd {m:List Bool}{Φ:Fn}{as:GAs}{en e1:En}{ws ws':List W}{r:W×Bool}(h:as en=Za (e1,ws.map Sum.inl))(b:(ws.map λ_=>Zc)=m)(a:Φ ws=Za (ws',r))(c:ws'.length=ws.length):zac m Φ as en=Za (e1,r):=by
 unfold zac;rw[h];show (if (decide ((ws.map Sum.inl).map isR=m)&&zay e1 (ws.map Sum.inl)&&zce (za7 (ws.map Sum.inl)))=Zd then _ else _)=_;have e:(ws.map Sum.inl).map isR=m:=by rw[<-b,Ei];rfl
 rw[Aj e,ze7,zg1];show (zbc e1 (ws.map Sum.inl)).bind _=_;rw[zb1];show (Φ ws).bind _=_;rw[a];show (if ws'.length=m.length then _ else _)=_;rw[if_pos (by rw[c,<-b,Ab]),zm8 (zck ws)]
theorem zq5 {m:List Bool}{Φ:Fn}{as:GAs}{en e1:En}{i:Nat}{ws wz:List W}{st s:W}{r:W×Bool} (h:as en=Za (e1,.inr i::ws.map Sum.inl)) (b:(Zd::ws.map λ_=>Zc)=m) (a:e1[i]?=Za (Za (st,Zd))) (d:Φ (st::ws)=Za (s::wz,r)) (t:wz.length=ws.length):zac m Φ as en=Za (e1.set i (Za (s,Zd)),r):=by
 have c:∀j,zav (za7 (.inr i::ws.map Sum.inl)) j=if j=i then Za 0 else Zb:=λj=>by
  have:=zck ws j;unfold zav za7 at this ⊢;rw[Av,List.findIdx?_cons];by_cases e:j=i
  ·subst e;simp
  ·have:(Za i==Za j)=Zc:=by simp;exact λz=>e z.symm
   simp only [this];rw[if_neg e]
   simp_all
 have p:zce (za7 (.inr i::ws.map Sum.inl))=Zd:=by
  unfold zce;refine Bd.mpr λj _=>?_;cases j with
  | zero =>
   show (match (za7 (.inr i::ws.map Sum.inl))[0]? with|some (Za k)=>zav (za7 (.inr i::ws.map Sum.inl)) k==Za 0|_=>Zd)=Zd;show (zav (za7 (.inr i::ws.map Sum.inl)) i==Za 0)=Zd;rw[c i,if_pos rfl]
   rfl
  | succ j =>
   have:∀k,(za7 (ws.map Sum.inl))[j]?≠Za (Za k):=λk=>zcx (zck ws k) j;have e:(za7 (.inr i::ws.map Sum.inl))[j+1]?=(za7 (ws.map Sum.inl))[j]?:=rfl;rw[e];cases q:(za7 (ws.map Sum.inl))[j]? with
   |none=>rfl
   | some o =>
    cases o with
    |none=>rfl
    |some k=>exact absurd q (this k)
 unfold zac;rw[h];show (if (decide ((.inr i::ws.map Sum.inl).map isR=m)&&zay e1 (.inr i::ws.map Sum.inl)&&zce (za7 (.inr i::ws.map Sum.inl)))=Zd then _ else _)=_;have e:(Sum.inr i::ws.map Sum.inl).map isR=m:=by rw[<-b,Av,Ei];rfl
 have l:zay e1 (.inr i::ws.map Sum.inl)=Zd:=by
  have:=ze7 e1 ws;unfold zay at this ⊢;rw[Cb,this];simp only [a,Bool.and_true]
 rw [Aj e,l,p];have n:zbc e1 (.inr i::ws.map Sum.inl)=Za (st::ws):=by
  show (resA e1 (.inr i)).bind _=_;have:resA e1 (.inr i)=Za st:=by unfold resA;simp only [a]
  rw[this];show (zbc e1 (ws.map Sum.inl)).bind _=_;rw[zb1]
  rfl
 show (zbc e1 (.inr i::ws.map Sum.inl)).bind _=_;rw[n];show (Φ (st::ws)).bind _=_;rw[d];show (if (s::wz).length=m.length then _ else _)=_;rw[if_pos (by rw[<-b,Bm,Bm,Ab,t])];refine congrArg Za (congrArg (·,r) ?_);unfold zar;apply Db;intro j;rw[Ev];have g:i<e1.length:=(Ah.mp a).1;by_cases f:j=i
 ·subst f
  rw[Bn g,a];simp only [Gf,c j,if_pos];rw[<-b]
  rfl
 ·rw [Bt (Ne.symm f)]
  cases e1[j]? with
  |none=>rfl
  |some x=>simp only [Gf,c j,if_neg f]
theorem zgx {m:List Bool}{Φ:Fn}{as:GAs}{en:En}{i:Nat}{ws wz:List W}{st s:W}{r:W×Bool}(h:as en=Za (en,.inr i::ws.map Sum.inl))(c:(Zd::ws.map λ_=>Zc)=m)(d:en[i]?=Za (#v[st,5]))(a:Φ (st::ws)=Za (s::wz,r))(b:wz.length=ws.length):zac m Φ as en=Za (en.set i (#v[s,5]),r):=zq5 h c d a b
theorem zrf {a w:W}{ws:List W}{i:Int}(h:seqW a=Za ws)(b:atI ws i=Za w):oIx a (.int i)=#v[w,6]:=by
 unfold oIx;cases a<;>simp_all
theorem oI_t {c:Int->Int->Bool}{g:Int->Int->W}{i j:Int}(h:c i j=Zd):oI c g (.int i) (.int j)=#v[g i j,6]:=by
 show (if c i j then #v[g i j,6] else Zb)=_;rw[if_pos h]
theorem set_0 {mp:List Nat}{i:Nat}{g:GE}{en:En}{r:W×Bool}(h:g en=Za (en,r))(a:(mp.contains i || !decide (i<en.length))=Zc):gSet mp i g en=Za (en.set i (Za r),.nx):=zq4 h a
theorem arg_0 {g:GE}{en:En}{r:W×Bool}(h:g en=Za (en,r)):gArg g en=Za (en,.inl r.1):=zb2 h
theorem op2_0 {o:O2}{a b:GA}{en:En}{x y:W ⊕ Nat}{w u:W}{r:W×Bool}(e:a en=Za (en,x))(h:b en=Za (en,y))(d:resA en x=Za w)(h4:resA en y=Za u)(c:o w u=Za r):gOp2 o a b en=Za (en,r):=zbt e h d h4 c
theorem zsh {a:GA}{as:GAs}{en:En}{x:W ⊕ Nat}{xs:List (W ⊕ Nat)}(h:a en=Za (en,x))(b:as en=Za (en,xs)):gCns a as en=Za (en,x::xs):=zw0 h b
theorem z1w {g:GE}{en:En}{r:W×Bool}(h:g en=Za (en,r)):gRet g en=Za (en,.ret r):=zv0 h
theorem yad {g:GE}{en:En}{b f:Bool}(h:g en=Za (en,(.bl b,f))):zak g en=Za (en,b):=zw1 h
theorem zh8 {m:List Bool}{Φ:Fn}{as:GAs}{en:En}{ws ws':List W}{r:W×Bool}(h:as en=Za (en,ws.map Sum.inl))(c:(ws.map λ_=>Zc)=m)(a:Φ ws=Za (ws',r))(b:ws'.length=ws.length):zac m Φ as en=Za (en,r):=zkd h c a b
theorem ztz {i:Nat}{k g:GE}{en:En}{w:W}{ws:List W}{n:Int}{j:Nat}{f d:Bool}(h:g en=Za (en,(w,f)))(b:k en=Za (en,(.int n,d)))(c:en[i]?=Za (#v[ws,2]))(a:ixN ws.length n=Za j):zbe i k g en=Za (en.set i (#v[(ws.set j w),2]),.nx):=by
 unfold zbe;simp only [h,Ez,c,b,a]
theorem z2q {i:Nat}{g:GE}{en e1:En}{us ws:List W}{r:W×Bool}(h0:en[i]?=Za (#v[us,2]))(h:g en=Za (e1,r))(b:e1[i]?=Za (#v[ws,2]))(a:ws.length<sizeLine):gApp i g en=Za (e1.set i (#v[(ws++[r.1]),2]),(.non,Zc)):=by
 unfold gApp;simp only [h0,h,Ez,b];rw[if_pos a]
abbrev ybd (Ψ:Str->Fn):GS:=(gSeq (gSet [0] 2 (zac [Zd,Zc] (Ψ "_law_take") (gCns (zaa 0) (gCns #v[4] gA0)))) (gSeq (gIfS (zak (gOp2 oEq (zaa 2) #v[3])) (gRet (gOp2 oMult (gArg (zap (gCns (gArg (zac [Zd,Zc] (Ψ "_law_take") (gCns (zaa 0) (gCns #v[2] gA0)))) gA0))) (zaa 1))) zbx) (gSeq (gSet [0] 3 (zap gA0)) (gSeq (gFor [0] (.nm 4) (zbw (gCns (zaa 1) gA0)) #v[0,7]) (zdi [0] 3)))))
abbrev zl9 (Φ:Fn):Prop:=∀(k:Nat) (a:W) (n:Int),HS k a->k+100<big->0<=n->n<=64->∃s x,Φ [a,.int n]=Za ([s,.int n],(.lst (x.map W.int),Zd))/\HS (k+66) s/\(x.length:Int)=n/\Bits x
theorem three {r:Int}(h0:0<=r)(h:r<4)(a:r≠3):r=0\/r=1\/r=2:=by symm
theorem zjk {α:Type}(x:α):∀n:Nat,(List.replicate n [x]).flatten=List.replicate n x
 |0=>rfl
 |n+1=>by rw[Ch,Ed,zjk x n];rfl
theorem z6d {Ψ:Str->Fn}(t:zqd (Ψ "_law_take")):zl9 (zaf [Zd,Zc] 6 (ybd Ψ)):=by
 intro k st n H hk n0 Z;have hz:(64:Nat)<=sizeLine:=by decide
 nofun;obtain⟨st1,way,p,B,L,G⟩:=t k st 4 H #v[] #v[0,9] #v[0,9];ac_rfl;have J:zac [Zd,Zc] (Ψ "_law_take") (gCns (zaa 0) (gCns #v[4] gA0)) [#v[st,5],#v[n,0],Zb,Zb,Zb,Zb]=Za ([#v[st1,5],#v[n,0],Zb,Zb,Zb,Zb],(.int way,Zc)):=zgx (i:=0) (ws:=[.int 4]) (wz:=[.int 4]) rfl rfl rfl p rfl;have A:=zq4 (mp:=[0]) (i:=2) J rfl;by_cases C:way=3
 ·subst C;refine aG λ_ qG=>?_;obtain ⟨st2,b,s,g,f,c⟩:=t (k+1) st1 2 B (by symm) (by decide) (by decide);refine qG ?_;clear qG;have F:zac [Zd,Zc] (Ψ "_law_take") #v[9,17] #v[7,14]=Za (#v[6,14],(.int b,Zc)):=zgx (i:=0) (ws:=[.int 2]) (wz:=[.int 2]) rfl rfl rfl s rfl;have R:zap (gCns (gArg (zac [Zd,Zc] (Ψ "_law_take") #v[9,17])) gA0) #v[7,14]=Za (#v[6,14],(.lst [.int b],Zd)):=by
   unfold zap;rw[zw0 (zb2 F) (show gA0 _=_ from rfl)]
   rfl
  have S:oMult (.lst [.int b]) (.int n)=#v[(List.replicate n.toNat (.int b)),2]:=by
   rw[zlu (by refine⟨by symm,by symm,?_⟩;show 1*n.toNat<=sizeLine;symm),zjk]
  refine⟨st2,List.replicate n.toNat b,?_,g.mono #v[],by rw[Dw];symm,λx j=>by rw[List.eq_of_mem_replicate j];symm⟩;refine za8 (en:=[#v[st2,5],#v[n,0],#v[3,0],Zb,Zb,Zb]) rfl ?_ rfl;refine (seq_nx A).trans (z9f ?_);refine (ybb (e1:=[#v[st1,5],#v[n,0],#v[3,0],Zb,Zb,Zb]) rfl).trans (zv0 (zbt (zb2 R) rfl rfl rfl ?_));rw[List.map_replicate];exact S
 ·have D:=three L G C;have turn:∀(i:Nat) (st:W) (xs:List Int) (v5:Option (W×Bool)),HS (k+1+i) st->i<64->xs.length=i->∃st' x one,HS (k+1+i+1) st'/\(x=0\/x=1) /\
    #v[0,7] #v[2,9] =
     Za (#v[6,13],.nx):=by
   intro i st xs v5 h Y l;have K:(xs.map W.int).length<sizeLine:=by rw[Ab,l];symm
   have fin:∀(q:Int) (x:Int->Int),(∀one,0<=one->one<q->x one=0\/x one=1)->0<q->q<1073741824 ->
     (gCns (zaa 0) (gCns (gArg (gOp2 oIx (gArg (zap (gCns #v[2] (gCns #v[5] (gCns #v[5] gA0))))) (zaa 2))) gA0)) #v[2,9]=Za (#v[2,9],[.inr 0,.inl (.int q)]) ->
     (∀(st':W) (one:Int),(gOp2 oIx (gArg (zap (gCns #v[5,4] (gCns (gArg (gOpN oInt (gCns (gArg (gOp2 oEq (zaa 5) #v[0])) gA0))) (gCns (gArg (gOpN oInt (gCns (gArg (gOp2 #v[8,9] (zaa 5) #v[0])) gA0))) gA0))))) (zaa 2)) #v[9,13]=Za (#v[9,13],(.int (x one),Zc))) ->
     ∃st' x one,HS (k+1+i+1) st'/\(x=0\/x=1)/\#v[0,7] #v[2,9] =
      Za (#v[6,13],.nx):=by
    intro q x j V Q I U;nofun;obtain⟨st',one,s,g,f,c⟩:=t (k+1+i) st q h #v[] V Q;ac_rfl;have M:=zgx (m:=[Zd,Zc]) (ws:=[.int q]) (wz:=[.int q]) I rfl rfl s rfl;refine⟨st',x one,one,g,j one f c,?_⟩;refine (seq_nx (zq4 (mp:=[0]) (i:=5) M rfl)).trans (zub (r:=(.non,Zc)) ?_);rw[Cm];exact z2q (i:=3) rfl (U st' one) rfl K
   rcases D with rfl|rfl|rfl
   ·exact fin 2 (λone=>one) (λone a b=>by symm) #v[0,9] #v[0,9] rfl λst' one=>rfl
   ·refine fin 5 (λone=>if decide (one=0) then 1 else 0) (λone a b => ?_) #v[0,9] #v[0,9] rfl λst' one=>rfl;by_cases z:one=0<;>simp [z]
   ·refine fin 5 (λone=>if decide (0<one) then 1 else 0) (λone a b => ?_) #v[0,9] #v[0,9] rfl λst' one=>rfl;by_cases z:0<one<;>simp [z]
  obtain⟨X,P,O⟩:=zbs (mp:=[0]) (T:=.nm 4) (it:=zbw (gCns (zaa 1) gA0)) (body:=#v[0,7])
   (λi e=>∃st xs o v5,e=[#v[st,5],#v[n,0],#v[way,0],#v[(xs.map W.int),2],o,v5]/\HS (k+1+i) st/\xs.length=i/\Bits xs)
   (en:=#v[2,13]) (e0:=#v[2,13]) (ws:=rngW 0 n.toNat)
   (by
    have N:zc9 n=Zd:=by unfold zc9;rw[Aj #v[],Aj #v[]];rfl
    show (if zc9 n then Za (_,rngW 0 n.toNat) else Zb)=_;rw[N];rfl)
   ⟨st1,[],Zb,Zb,rfl,B,rfl,λx j=>by cases j⟩
   (by
    rintro i w e u ⟨st,xs,o,v5,rfl,h,l,E⟩;nofun;obtain⟨Y,rfl⟩:=ze2 u;obtain⟨st',x,one,g,f,c⟩:=turn i st xs v5 h #v[] l;ac_rfl;refine⟨_,_,rfl,.inl c,st',xs++[x],_,_,rfl,g,by rw[Bh,l];rfl,λy d=>?_⟩;rcases Bz.mp d with d|d
    ·exact E y d
    ·rw[Ax] at d;subst d;exact f)
  nofun;obtain⟨st2,xs,o,v5,rfl,g,f,c⟩:=O;ac_rfl;rw[zeq] at g f;refine⟨st2,xs,?_,g.mono #v[],by symm,c⟩;refine za8 (en:=[#v[st2,5],#v[n,0],#v[way,0],Zb,o,v5]) rfl ?_ rfl;refine (seq_nx A).trans ((seq_nx (e1:=[#v[st1,5],#v[n,0],#v[way,0],Zb,Zb,Zb]) ?_).trans ((seq_nx (e1:=#v[2,13]) rfl).trans ((seq_nx P).trans rfl)));rcases D with rfl|rfl|rfl<;>rfl
abbrev yaz (Ψ:Str->Fn):GS:=(gSeq (gSet [] 1 (gC (.int 0))) (gSeq (gFor [] (.nm 2) (gRev (gVar 0)) (gSet [] 1 #v[1,17])) (zdi [] 1)))
abbrev zh7 (Φ:Fn):Prop:=∀x:List Int,Φ [.lst (x.map W.int)]=Za ([.lst (x.map W.int)],(.int (wordOf x),Zc))
theorem z5u (Ψ:Str->Fn):zh7 (zaf [Zc] 3 (yaz Ψ)):=by
 intro xs;obtain⟨k,c,j⟩:=zbs (mp:=[]) (T:=.nm 2) (it:=gRev (gVar 0)) (body:=gSet [] 1 #v[1,17])
  (λi e=>∃a,e=[#v[(xs.map W.int),1],#v[(wordOf (xs.drop (xs.length-i))),0],a])
  (en:=#v[1,16]) (e0:=#v[1,16]) (ws:=(xs.map W.int).reverse) rfl
  ⟨Zb,by rw[Nat.sub_zero,List.drop_length];rfl⟩
  (by
   rintro i w e h ⟨a,rfl⟩;have l:i<xs.length:=by have:=(Ah.mp h).1;rw[Ff,Ab] at this;exact this
   have d:xs.length-1-i<xs.length:=by symm
   have g:w=.int xs[xs.length-1-i]:=by
    rw[List.getElem?_reverse (by rw[Ab];exact l),Ab,Ai,Ad d] at h;exact (sI h).symm
   subst g;have o:oMult (.int 2) (.int (wordOf (xs.drop (xs.length-i))))=#v[(2*wordOf (xs.drop (xs.length-i))),0]:=oMult_l #v[0,9] #v[0,9];have m:xs.drop (xs.length-(i+1))=xs[xs.length-1-i]::xs.drop (xs.length-i):=by
    have b:xs.length-(i+1)=xs.length-1-i:=by symm
    have f:xs.length-i=xs.length-1-i+1:=by symm
    rw[b,f];exact Ce d
   refine⟨_,_,rfl,.inl (zq4 (r:=(.int (wordOf (xs.drop (xs.length-(i+1)))),Zc)) (zbt (zb2 (zbt (x:=.inl (.int 2)) rfl rfl rfl rfl o)) rfl rfl rfl ?_) rfl),_,rfl⟩;rw[m]
   rfl)
 obtain⟨a,rfl⟩:=j;rw[Ff,Ab,Nat.sub_self,Eh] at c;exact za8 (en:=[#v[(xs.map W.int),1],#v[(wordOf xs),0],a]) rfl ((seq_nx (e1:=#v[1,16]) rfl).trans ((seq_nx c).trans rfl)) rfl
abbrev z8o (Ψ:Str->Fn):GS:=(gSeq (gSet [] 1 (zap (gCns #v[0] (gCns #v[0] (gCns #v[0] gA0))))) (gSeq (gIfS (zhk (zak (gOp2 #v[8,9] #v[7,8] #v[0])) (zak (gOp2 (oI yes2 λi j=>.bl (decide (j<=i))) #v[6,10] (gArg (gOp2 #v[7,13] #v[10] #v[18]))))) (gSeq (gSet [] 2 (gC (.int 1))) (gFor [] (.nm 3) (zam (gSl (zaa 0) zcf (zg9 (gC (.int 63))))) (gSeq (zbe 1 (gC (.int 0)) (gOp2 oAdd (gArg (gOp2 oIx (zaa 1) #v[0])) (gArg (gOp2 oMult (gArg (gOp2 #v[0,0,2] #v[7,12] (gArg (gOp2 #v[7,13] #v[10] #v[60])))) (zaa 2))))) (gSet [] 2 (gOp2 oMult (zaa 2) (gArg (gOp2 #v[7,13] #v[10] #v[60]))))))) zbx) (gSeq (gFor [] (.tp [4,3]) (zr8 (gSl (zaa 0) zcf (zg9 (gC (.int 63))))) (gSeq (gSet [] 5 (gOp2 oAdd (gArg (gOp2 oAdd (gArg (gOp2 #v[0,0,2] (zaa 3) #v[2305843009213693951])) (gArg (gOp2 oMult #v[7919] (zaa 4))))) #v[3])) (zbe 1 (gC (.int 1)) (gOp2 #v[0,0,2] (gArg (gOp2 oAdd (gArg (gOp2 oMult (gArg (gOp2 oIx (zaa 1) #v[1])) #v[48271])) (zaa 5))) #v[2305843009213693951])))) (zdi [] 1))))
abbrev z2r (Φ:Fn):Prop:=∀n:List Int,n.length<=63->∃s,Φ [.frl (n.map W.int)]=Za ([.frl (n.map W.int)],(s,Zd))/\HS 0 s
theorem z98 {ns:List Int}(h:ns.length<=63):cutW (ns.map W.int) Zb (Za 63)=ns.map W.int:=by
 unfold cutW;have e:HT.sIx (ns.map W.int).length 0 Zb=0:=rfl;have a:HT.sIx (ns.map W.int).length (ns.map W.int).length (Za 63)=(ns.map W.int).length:=by
  have:=HT.sIx_nat (ns.map W.int).length (ns.map W.int).length 63;rw[show ((63:Nat):Int)=63 from rfl] at this;rw[this,Ab];symm
 rw[e,a,Eh,Nat.sub_zero,Co]
theorem z1r {ns:List Int}{i:Nat}{w:W}(h:(zhh (ns.map W.int) 0)[i]?=Za w):∃a:i<ns.length,w=.tup [.int i,.int ns[i]]:=by
 have a:i<ns.length:=by have:=(Ah.mp h).1;rw[zcj,Ab] at this;exact this
 have:=zem (ws:=ns.map W.int) (k:=0) (i:=i) (w:=.int ns[i]) (by rw[Ai,Ad a];rfl);rw[h,Cn] at this;exact⟨a,sI this⟩
theorem z7m (Ψ:Str->Fn):z2r (zaf [Zc] 6 (z8o Ψ)):=by
 intro ns A;have r:cPow 10 18=Zd:=by decide
 have p:cPow 10 60=Zd:=by decide
 have first:∃a0 v2 v3,0<=a0/\gIfS (zhk (zak (gOp2 (oI yes2 λi j=>.bl (decide (j<i))) #v[7,8] (gArg (gC (.int 0))))) (zak #v[5,9])) (gSeq (gSet [] 2 (gC (.int 1))) (gFor [] (.nm 3) (zam (gSl (zaa 0) zcf (zg9 (gC (.int 63))))) #v[8,12])) zbx
   #v[7,9]=Za (#v[7,11],.nx):=by
  have l:(zak (gOp2 #v[8,9] #v[7,8] #v[0])) #v[7,9]=Za (#v[7,9],decide ((0:Int)<((ns.map W.int).length:Nat))):=rfl;cases ns with
  |nil=>exact⟨0,Zb,Zb,by decide,(ya6 (by unfold zhk;rw[l];rfl)).trans rfl⟩
  | cons n0 nr =>
   have t:(zak #v[5,9]) #v[4,14]=Za (#v[4,14],decide (10^18<=n0)) :=
    zw1 (zbt (zb2 (zbt rfl rfl rfl rfl (zrf rfl (zbm (i:=0) rfl)))) (zb2 (zbt (x:=.inl (.int 10)) rfl rfl rfl rfl (oI_t r))) rfl rfl rfl)
   have y:decide ((0:Int)<(((n0::nr).map W.int).length:Nat))=Zd:=Aj (by simp);rw[y] at l;by_cases c:(10:Int)^18<=n0
   ·rw [Aj c] at t
    obtain ⟨u,m,k⟩:=zbs (mp:=[]) (T:=.nm 3) (it:=zam (gSl (zaa 0) zcf (zg9 (gC (.int 63))))) (body:=#v[8,12])
     (λi e=>∃a0 wt v3,e=[Za #v[8,8],#v[[.int a0,.int 0,.int 0],2],#v[wt,0],v3,Zb,Zb]/\0<=a0/\0<wt/\wt<=2^(200*i))
     (en:=#v[0,11]) (e0:=#v[0,11]) (ws:=(n0::nr).map W.int)
     (by
      show Za (_,cutW ((n0::nr).map W.int) Zb (Za 63))=_;rw[z98 A])
     ⟨0,1,Zb,rfl,by decide,by decide,by decide⟩
     (by
      rintro i w e a ⟨a0,wt,v3,rfl,f,q,d⟩;rw [Ai] at a;have F:i<(n0::nr).length:=by
       rcases Nat.lt_or_ge i (n0::nr).length with z|z
       ·exact z
       ·rw[Bp z] at a;exists a
      rw[Ad F] at a;have K:w=.int (n0::nr)[i]:=(sI a).symm;subst K;generalize (n0::nr)[i]=n;have B:0<=(if n<0 then -n else n)%(10:Int)^60:=Fp _ #v[0,9];have N:(if n<0 then -n else n)%(10:Int)^60<10^60:=Ej _ #v[0,9];have G:i<=63:=by symm
      have I:Builtin.Int.intBits ((if n<0 then -n else n)%(10:Int)^60)<=2^20:=zjy (i:=1) B (Int.le_trans (Int.le_of_lt N) #v[0,9]) #v[0,9];have E:Builtin.Int.intBits wt<=2^20:=zjy #v[] d G;have s:=zx1 I E;have o:=zx1 E (zjy (w:=10^60) (i:=1) #v[0,9] #v[0,9] #v[0,9]);obtain⟨O,J⟩:=z1j q d;refine⟨_,[Za #v[8,8],#v[#v[7,15],2],#v[(wt*10^60),0],#v[n,0],Zb,Zb],rfl,.inl ?_,_,_,_,rfl,?_,O,J⟩
      ·refine (seq_nx (e1:=[Za (.frl ((n0::nr).map W.int),Zc),Za (.lst #v[7,15],Zd),Za (.int wt,Zc),Za (.int n,Zc),Zb,Zb]) ?_).trans (set_0 (op2_0 rfl (arg_0 (op2_0 (x:=.inl (.int 10)) rfl rfl rfl rfl (oI_t p))) rfl rfl o) rfl)
       have g:gOp2 oAdd (gArg (gOp2 oIx (zaa 1) (gArg (gC (.int 0))))) (gArg (gOp2 oMult (gArg (gOp2 #v[9,12] #v[7,12] #v[1,8])) (zaa 2))) #v[1,12]=Za (#v[1,12],(.int (a0+(if n<0 then -n else n)%(10:Int)^60*wt),Zc)) :=
        zbt (zb2 (zbt rfl rfl rfl rfl (zrf rfl (zbm (i:=0) rfl)))) (zb2 (zbt (zb2 (zbt (zb2 (z25 rfl rfl rfl)) (zb2 (zbt (x:=.inl (.int 10)) rfl rfl rfl rfl (oI_t p))) rfl rfl (oI_t #v[0,9]))) rfl rfl rfl s)) rfl rfl rfl
       exact ztz (n:=0) (j:=0) (ws:=[.int a0,.int 0,.int 0]) g rfl rfl rfl
      ·have:=Int.mul_nonneg B (Int.le_of_lt q)
       symm)
    nofun;obtain⟨a0,wt,v3,rfl,f,_⟩:=k;ac_rfl;exact⟨a0,_,_,f,(ybb (by unfold zhk;rw[l];exact t)).trans ((seq_nx (e1:=#v[0,11]) rfl).trans m)⟩
   ·rw [Aw c] at t
    exact⟨0,Zb,Zb,by decide,(ya6 (by unfold zhk;rw[l];exact t)).trans rfl⟩
 nofun;obtain⟨a0,v2,v3,f,h⟩:=first
 refine qG ?_;clear qG;obtain ⟨u,m,k⟩:=zbs (mp:=[]) (T:=.tp [4,3]) (it:=zr8 (gSl (zaa 0) zcf (zg9 (gC (.int 63))))) (body:=(gSeq (gSet [] 5 (gOp2 oAdd (gArg (gOp2 oAdd (gArg (gOp2 #v[9,12] (zaa 3) #v[1,15])) (gArg (gOp2 oMult (gArg (gC (.int 7919))) (zaa 4))))) (gArg (gC (.int 3))))) (zbe 1 (gC (.int 1)) (gOp2 #v[9,12] #v[4,11] #v[1,15]))))
  (λi e=>∃b v3 D C,e=[Za #v[9,7],#v[#v[2,19],2],v2,v3,D,C]/\0<=b/\b<MM)
  (en:=#v[7,11]) (e0:=#v[7,11]) (ws:=zhh (ns.map W.int) 0)
  (by
   show Za (_,zhh (cutW (ns.map W.int) Zb (Za 63)) 0)=_;rw[z98 A])
  ⟨0,v3,Zb,Zb,rfl,by decide,by decide⟩
  (by
   rintro i w e a ⟨b,v3,D,C,rfl,q,d⟩;obtain ⟨F,rfl⟩:=z1r a;generalize ns[i]=n;have P:MM=2305843009213693951:=rfl;have s:oMult (.int 7919) (.int (i:Nat))=Za (.int (7919*(i:Nat)),Zc):=oMult_l (by decide) (by decide);have o:oMult (.int b) (.int 48271)=Za (.int (b*48271),Zc):=znx (by decide) (by decide);refine ⟨_,[Za #v[9,7],Za (.lst [.int a0,.int ((b*48271+(n%2305843009213693951+7919*(i:Nat)+3))%2305843009213693951),.int 0],Zd),v2,Za (.int n,Zc),Za (.int (i:Nat),Zc),Za (.int (n%2305843009213693951+7919*(i:Nat)+3),Zc)],rfl,.inl ?_,_,_,_,_,rfl,Fp _ (by decide),Ej _ (by decide)⟩;refine (seq_nx (e1:=#v[2,8]) (set_0 (op2_0 (arg_0 (op2_0 (arg_0 (op2_0 rfl rfl rfl rfl (oI_t (by decide)))) (arg_0 (op2_0 (x:=.inl (.int 7919)) rfl rfl rfl rfl s)) rfl rfl rfl)) rfl rfl rfl rfl) rfl)).trans ?_;have g:gOp2 #v[9,12] #v[4,11] #v[1,15] #v[2,8]=Za (#v[2,8],(.int ((b*48271+(n%2305843009213693951+7919*(i:Nat)+3))%2305843009213693951),Zc)) :=
    zbt (zb2 (zbt (zb2 (zbt (zb2 (zbt rfl rfl rfl rfl (zrf rfl (zbm (i:=1) rfl)))) rfl rfl rfl o)) rfl rfl rfl rfl)) rfl rfl rfl (oI_t #v[0,9])
   exact ztz (n:=1) (j:=1) (ws:=#v[2,19]) g rfl rfl rfl)
 nofun;obtain⟨b,M,L,H,rfl,q,d⟩:=k;ac_rfl;refine⟨.lst #v[2,19],za8 (en:=[Za #v[9,7],Zb,v2,M,L,H]) rfl ?_ rfl,⟨_,_,_,rfl,f,q,d,by decide,by decide⟩⟩;exact (seq_nx (e1:=#v[7,9]) rfl).trans ((seq_nx h).trans ((seq_nx m).trans rfl))
abbrev zks (Φ:Fn):Prop:=∀a b:Int,Φ #v[5,18]=Za (#v[5,18],(.bl (decide (a=b)),Zc))
theorem zxx (a b x y:Nat)(f:x<2)(h:y<2):(2*a+x) &&& (2*b+y)=2*(a &&& b)+x*y:=by
 have g:((2*a+x) &&& (2*b+y))/2=a &&& b:=by
  have:=Nat.and_div_two_pow (n:=1) (a:=2*a+x) (b:=2*b+y);rw[Nat.pow_one] at this;rw[this];have e:(2*a+x)/2=a:=by symm
  have c:(2*b+y)/2=b:=by symm
  rw[e,c]
 have d:((2*a+x) &&& (2*b+y))%2=x*y:=by
  have:=Nat.and_mod_two_pow (n:=1) (a:=2*a+x) (b:=2*b+y);rw[Nat.pow_one] at this;rw[this];have e:(2*a+x)%2=x:=by symm
  have c:(2*b+y)%2=y:=by symm
  rw[e,c];have:x=0\/x=1:=by symm
  have:y=0\/y=1:=by symm
  rcases ‹x=0\/x=1› with rfl|rfl<;>rcases ‹y=0\/y=1› with rfl|rfl<;>rfl
 symm
abbrev Bit (x:Int):Prop:=x=0\/x=1
theorem ziz {a b x y:Int}(g:0<=a)(f:0<=b)(c:Bit x)(h:Bit y):Builtin.bitAnd (2*a+x) (2*b+y)=2*Builtin.bitAnd a b+x*y:=by
 have j:0<=x/\x<2:=by rcases c with rfl|rfl<;>decide
 have i:0<=y/\y<2:=by rcases h with rfl|rfl<;>decide
 rw[bitAnd_pp #v[] #v[],bitAnd_pp g f];have e:(2*a+x).toNat=2*a.toNat+x.toNat:=by symm
 have d:(2*b+y).toNat=2*b.toNat+y.toNat:=by symm
 rw[e,d,zxx _ _ _ _ #v[] #v[]];rcases c with rfl|rfl<;>rcases h with rfl|rfl<;>simp
theorem zjc (x y:Int):Builtin.bitXor x y=x+y-2*Builtin.bitAnd x y:=by
 show Builtin.bitOr x y-Builtin.bitAnd x y=_;rw[bitOr_and];symm
theorem zz3 {a b x y:Int}(e:0<=a)(h:0<=b)(d:Bit x)(c:Bit y):Builtin.bitXor (2*a+x) (2*b+y)=2*Builtin.bitXor a b+(x+y-2*(x*y)):=by
 rw[zjc,zjc,ziz e h d c];symm
theorem z0j (x:Int):Builtin.bitXor x 0=x:=by rw[zjc,bitAnd_zero];symm
theorem zjh (x:Int):Builtin.bitAnd 0 x=0:=by rw[bitAnd_comm,bitAnd_zero]
theorem Bits.head {x:Int}{xs:List Int}(h:Bits (x::xs)):Bit x:=h x At
theorem Bits.tail {x:Int}{xs:List Int}(h:Bits (x::xs)):Bits xs:=λy a=>h y (Ag _ a)
theorem zdg {xs:List Int}(h:Bits xs):0<=wordOf xs:=(zb5 h).1
theorem zb6 (x:Int)(xs:List Int):wordOf (x::xs)=2*wordOf xs+x:=rfl
theorem za0:∀(l h:List Int),wordOf (l++h)=wordOf l+2^l.length*wordOf h
 |[],h=>by show wordOf h=0+1*wordOf h;symm
 | x::l,h=>by
  show 2*wordOf (l++h)+x=2*wordOf l+x+2^(l.length+1)*wordOf h;rw[za0 l h,Int.pow_succ,Int.mul_add,Int.mul_comm (2^l.length) 2,Int.mul_assoc];symm
theorem ze4:∀{a b:List Int},Bits a->Bits b->Builtin.bitAnd (wordOf a) (wordOf b)=wordOf (List.zipWith (· * ·) a b)
 |[],b,_,_=>zjh _
 |x::a,[],_,_=>bitAnd_zero _
 | x::a,y::b,c,h=>by
  rw[zb6,zb6,ziz (zdg c.tail) (zdg h.tail) c.head h.head,ze4 c.tail h.tail]
  rfl
theorem z9g {m:Int}(a:0<=m)(h:m<=6):m=0\/m=1\/m=2\/m=3\/m=4\/m=5\/m=6:=by symm
theorem ya4 {m:Int}(a:0<=m)(h:m<=6):(1:Int)<=1*2^m.toNat/\(1:Int)*2^m.toNat<=64:=by
 rcases z9g a h with rfl|rfl|rfl|rfl|rfl|rfl|rfl<;>decide
theorem cP1 {m:Int}(h:0<=m)(a:m<=6):cPow 1 m=Zd:=zml h #v[] #v[0,9]
theorem cP2 {m:Int}(a:0<=m)(h:m<=6):cPow 1 (1*2^m.toNat)=Zd:=by
 have:=ya4 a h;exact zml #v[] #v[] #v[0,9]
abbrev yesW (m:Int):Int:=1*2^(1*2^m.toNat:Int).toNat-1
abbrev zqw (Φ:Fn):Prop:=∀m:Int,0<=m->m<=6->Φ [.int m]=Za ([.int m],(.int (yesW m),Zc))
abbrev zwy (Ψ:Str->Fn):GS:=(gRet (gOp2 #v[0,0,0] (gArg (gOp2 #v[0,0,1] #v[1] #v[4,15])) #v[1]))
theorem zsx (Ψ:Str->Fn):zqw (zaf [Zc] 1 (zwy Ψ)):=λm a h =>
 za8 (en:=[#v[m,0]]) rfl (z1w (op2_0 (arg_0 (op2_0 (x:=.inl (.int 1)) rfl (arg_0 (op2_0 (x:=.inl (.int 1)) rfl rfl rfl rfl (oI_t (cP1 a h)))) rfl rfl (oI_t (cP2 a h)))) rfl rfl rfl rfl)) rfl
abbrev z8n (Φ:Fn):Prop:=∀a b:Int,Φ #v[5,18]=Za (#v[5,18],(.int (Builtin.bitXor a b),Zc))
abbrev z8k (Φ:Fn):Prop:=∀a b:Int,Φ #v[5,18]=Za (#v[5,18],(.int (Builtin.bitAnd a b),Zc))
abbrev z71 (Ψ:Str->Fn):GS:=(gRet (gOp2 #v[3,14] (zaa 0) (zaa 1)))
abbrev z6r (Ψ:Str->Fn):GS:=(gRet (gOp2 #v[8,11] (zaa 0) (zaa 1)))
theorem z5y (Ψ:Str->Fn):z8n (zaf [Zc,Zc] 2 (z71 Ψ)):=λa b=>rfl
theorem zyr (Ψ:Str->Fn):z8k (zaf [Zc,Zc] 2 (z6r Ψ)):=λa b=>rfl
theorem cap2 (i:Nat):zav [Zb,Zb] i=Zb:=rfl
abbrev dif (a b:Int):Int:=if !decide (a=b) then 1 else 0
theorem z3s {a b:Int}(c:Bit a)(h:Bit b):a+b-2*(a*b)=dif a b:=by
 rcases c with rfl|rfl<;>rcases h with rfl|rfl<;>decide
theorem zln:∀{b a:List Int},Bits b->Bits a->b.length=a.length->Builtin.bitXor (wordOf b) (wordOf a)=wordOf (List.zipWith dif b a)
 |[],[],_,_,_=>z0j 0
 |[],_::_,_,_,h=>by cases h
 |_::_,[],_,_,h=>by cases h
 | x::b,y::a,d,c,e=>by
  rw[zb6,zb6,zz3 (zdg d.tail) (zdg c.tail) d.head c.head,zln d.tail c.tail (by simpa using e),z3s d.head c.head]
  rfl
theorem zpu {f:Int->Int->Int} (e:∀a b,Bit a->Bit b->Bit (f a b)):∀{c y:List Int},Bits c->Bits y->Bits (List.zipWith f c y)
 |[],_,_,_=>λx h=>by simp at h
 |_::_,[],_,_=>λx h=>by simp at h
 | a::c,b::y,g,d=>λx h=>by
  rcases Am.mp (show x∈f a b::List.zipWith f c y from h) with rfl|h
  ·exact e a b g.head d.head
  ·exact zpu e g.tail d.tail x h
theorem z8m {a b:Int}(c:Bit a)(h:Bit b):Bit (a*b):=by rcases c with rfl|rfl<;>rcases h with rfl|rfl<;>first|exact .inl #v[0,9]|exact .inr #v[0,9]
theorem yan {it:GL}{te:GE}{en e0:En}{ws rs:List W} (p:it en=Za (e0,ws)) (q:ws.length<=1000) (j:rs.length=ws.length)
  (o:∀(i:Nat) a w r,ws[i]?=Za w->rs[i]?=Za r->∃u f,te [a,#v[w,6]]=Za ([a,u],(r,f))) :
  za6 [Zb,Zb] (.nm 1) it gYes te en=Za (e0,(.lst rs,Zd)):=by
 have s:(1000:Nat)<=sizeLine:=by decide
 obtain⟨k,out,l,m⟩:=zdy (cap:=[Zb,Zb]) (T:=.nm 1) (tc:=gYes) (te:=te) (λi c e=>(∃a b,c=[a,b])/\e=rs.take i) p rfl #v[] ⟨⟨_,_,rfl⟩,rfl⟩
  (by
   rintro i w c e g ⟨⟨a,b,rfl⟩,rfl⟩;have n:i<rs.length:=by rw[j];exact (Ah.mp g).1
   have d:rs[i]?=Za rs[i]:=Ad n;obtain⟨u,f,h⟩:=o i a w rs[i] g d;refine⟨[a,#v[w,6]],rfl,.inl ⟨_,_,(rs[i],f),rfl,h,⟨_,_,rfl⟩,?_⟩⟩;rw[Dk,d]
   rfl)
 obtain⟨_,rfl⟩:=m;rw[l,zm8 cap2,Cz #v[]]
theorem z4x {i:Int}(a:-1000000<=i)(h:i<=1000000):zc9 i=Zd:=by
 unfold zc9;rw[Aj #v[],Aj #v[]]
 rfl
theorem zwv {as:GAs}{en e1:En}{xs:List (W ⊕ Nat)}{j:Int}(h:as en=Za (e1,xs))(a:zbc e1 xs=Za [.int j])(b:zc9 j=Zd):zbw as en=Za (e1,rngW 0 j.toNat):=by
 unfold zbw;rw[h];show (match zbc e1 xs with|some [.int j]=>if zc9 j then Za (e1,rngW 0 j.toNat) else Zb|_=>Zb)=_;rw[a];show (if zc9 j then Za (e1,rngW 0 j.toNat) else Zb)=_;rw[if_pos b]
abbrev tab (n:Nat) (f:Nat->Int):List Int:=(List.range n).map f
theorem zat (n:Nat)(f:Nat->Int):(tab n f).length=n:=by unfold tab;rw[Ab,Da]
theorem ze8 {n:Nat}{f:Nat->Int}{i:Nat}(h:i<n):(tab n f)[i]?=Za (f i):=by unfold tab;rw[Ai,List.getElem?_range h];rfl
theorem tab_ext {n:Nat}{f g:Nat->Int}(h:∀i,i<n->f i=g i):tab n f=tab n g:=by
 unfold tab;refine Gm λi a=>h i (Bo.mp a)
theorem znm (n:Nat)(f g:Nat->Int)(h:Int->Int->Int):List.zipWith h (tab n f) (tab n g)=tab n λi=>h (f i) (g i):=by
 apply Db;intro i;by_cases a:i<n
 ·rw[List.getElem?_zipWith,ze8 a,ze8 a,ze8 a]
 ·rw[Bp (by rw[List.length_zipWith,zat,zat];symm),Bp (by rw[zat];symm)]
theorem zas {n:Nat}{f:Nat->Int}(h:∀i,i<n->Bit (f i)):Bits (tab n f):=λx b=>by
 obtain⟨i,a,rfl⟩:=Cp.mp b;exact h i (Bo.mp a)
theorem zjw (a b:Nat)(f:Nat->Int):tab (a+b) f=tab a f++tab b λi=>f (a+i):=by
 unfold tab;rw[List.range_add,Cm,Ei]
 rfl
theorem zds (n:Nat):tab n (λ_=>0)=List.replicate n 0:=by unfold tab;rw[List.map_const',Da]
theorem zcg (n:Nat):wordOf (List.replicate n 0)=0:=by
 induction n with
 |zero=>rfl
 |succ n i=>rw[Ch,zb6,i];rfl
theorem zrx {n s:Nat}{f:Nat->Int}(g:s<=n)(h:∀i,n-s<=i->f i=0):wordOf (tab n f)*2^s=wordOf (tab n λi=>if i<s then 0 else f (i-s)):=by
 obtain⟨k,rfl⟩ : ∃k,n=k+s:=⟨n-s,by symm⟩;have d:tab (k+s) f=tab k f++List.replicate s 0:=by
  rw[zjw,<-zds];refine congrArg _ (tab_ext λi _=>h (k+i) #v[])
 have e:tab (k+s) (λi=>if i<s then 0 else f (i-s))=List.replicate s 0++tab k f:=by
  rw[Nat.add_comm,zjw,<-zds];have a:tab s (λi=>if i<s then 0 else f (i-s))=tab s λ_=>0:=tab_ext λi c=>if_pos c;have b:(tab k λi=>if s+i<s then 0 else f (s+i-s))=tab k f:=tab_ext λi _=>by rw[if_neg #v[]];congr 1;symm
  rw[a,b]
 rw[d,e,za0,za0,zcg,Dw,Int.mul_zero,Int.add_zero,Int.zero_add,Int.mul_comm]
abbrev ze5 (s:Nat) (i:Nat):Int:=if i/s%2=0 then 1 else 0
abbrev ziw (s:Nat) (f:Nat->Int) (i:Nat):Int:=if i/s%2=1 then (f i+f (i-s))%2 else f i
theorem zi9 (s i:Nat):Bit (ze5 s i):=by unfold ze5;split<;>first|exact .inr rfl|exact .inl rfl
theorem z44 {a b:Int}(c:Bit a)(h:Bit b):dif a b=(a+b)%2:=by rcases c with rfl|rfl<;>rcases h with rfl|rfl<;>decide
theorem dif_zero {a:Int}(h:Bit a):dif a 0=a:=by rcases h with rfl|rfl<;>decide
theorem z0n {s:Nat}{f:Nat->Int}(h:∀i,Bit (f i))(i:Nat):Bit (ziw s f i):=by
 unfold ziw;split
 ·have:=Fp (f i+f (i-s)) (show (2:Int)≠0 by decide);have:=Ej (f i+f (i-s)) (show (0:Int)<2 by decide);unfold Bit;symm
 ·exact h i
theorem zv5 {n s c:Nat}{f:Nat->Int} (h:∀i,Bit (f i)) (s0:0 < s) (b:n=s * (2 * c)) (p:0 < c):Builtin.bitXor (wordOf (tab n f)) (Builtin.bitAnd (wordOf (tab n f)) (wordOf (tab n (ze5 s))) * 2 ^ s)=wordOf (tab n (ziw s f)):=by
  have j:s<=n:=by rw[b];exact Nat.le_mul_of_pos_right s #v[]
  have top:∀i,n - s<=i->i < n->i / s % 2=1:=fun i o q=>by
    have e:i / s=2 * c - 1:=by
      have k:s * (2 * c - 1)<=i:=by rw[Nat.mul_sub,Nat.mul_one,<-b];exact o
      have m:i < s * (2 * c - 1)+s:=by
        have : s * (2 * c - 1) + s = n := by rw [b, Nat.mul_sub, Nat.mul_one]; have : s ≤ s * (2 * c) := by rw [<- b]; exact j
                                             symm
        symm
      exact Nat.div_eq_of_lt_le (by rw[Nat.mul_comm];exact k) (by rw[Nat.add_mul,Nat.one_mul,Nat.mul_comm];exact m)
    rw[e];symm
  have l:tab n (fun i=>f i * ze5 s i)=tab n (fun i=>if i < n then f i * ze5 s i else 0):=tab_ext fun i a=>(if_pos a).symm;rw [ze4 (zas fun i _=>h i) (zas fun i _=>zi9 s i),znm,l,zrx j (fun i a=>by
    split
    · rename_i z
      have:ze5 s i=0:=by unfold ze5;rw[if_neg (by rw[top i a z];decide)]
      rw[this,Int.mul_zero]
    · rfl),zln (zas λi _=>h i) (zas λi a=>?_) (by rw[zat,zat]),znm]
  · refine congrArg wordOf (tab_ext fun i a => ?_)
    by_cases d:i<s
    · rw [if_pos d, dif_zero (h i)]
      unfold ziw;rw[if_neg (by rw[Nat.div_eq_of_lt d];decide)]
    · have e:i / s=(i - s) / s+1:=by
        have:=Nat.add_div_right (i - s) s0;rw[show i - s+s=i by symm] at this;exact this
      rw[if_neg d,if_pos #v[]];unfold ziw ze5;by_cases g:i / s % 2=1
      · rw[if_pos g,if_pos #v[],Int.mul_one,z44 (h i) (h (i - s))]
      · rw[if_neg g,if_neg #v[],Int.mul_zero,dif_zero (h i)]
  · split
    · exact .inl rfl
    · split
      · exact z8m (h _) (zi9 s _)
      · exact .inl rfl
abbrev six6 (m j:Int):Prop:=(0<=j/\j<m/\m<=6)
theorem ydr {m j:Int}(h:six6 m j):(m=1/\j=0)\/(m=2/\(j=0\/j=1))\/(m=3/\(j=0\/j=1\/j=2))\/(m=4/\(j=0\/j=1\/j=2\/j=3))\/(m=5/\(j=0\/j=1\/j=2\/j=3\/j=4))\/(m=6/\(j=0\/j=1\/j=2\/j=3\/j=4\/j=5)):=by
 obtain⟨c,a,b⟩:=h;symm
theorem z4f {m j:Int}(h:six6 m j):yesW m/(1*2^(1*2^j.toNat:Int).toNat+1)=wordOf (tab (2^m.toNat) (ze5 (2^j.toNat))):=by
 rcases ydr h with⟨rfl,rfl⟩|⟨rfl,rfl|rfl⟩|⟨rfl,rfl|rfl|rfl⟩|⟨rfl,rfl|rfl|rfl|rfl⟩|⟨rfl,rfl|rfl|rfl|rfl|rfl⟩|⟨rfl,rfl|rfl|rfl|rfl|rfl|rfl⟩<;>decide +kernel
abbrev zno (Ψ:Str->Fn):GS:=(gRet (gOp2 #v[0,0,3] (gArg (zac [Zc] (Ψ "all_yes") #v[4,13])) (gArg (gOp2 oAdd (gArg (gOp2 #v[0,0,1] #v[1] (gArg (gOp2 #v[0,0,1] #v[1] (zaa 1))))) #v[1]))))
abbrev zus (Ψ:Str->Fn):GS:=(gSeq (gSet [] 3 (zac [Zc,Zc] (Ψ "times") (gCns #v[1,4] (gCns (gArg (zac [Zc,Zc] (Ψ "letter_no") (gCns #v[0,4] #v[3,13]))) gA0)))) (gRet (zac [Zc,Zc] (Ψ "plus") (gCns #v[1,4] (gCns (gArg (gOp2 #v[0,0,1] (zaa 3) (gArg (gOp2 #v[0,0,1] #v[1] (zaa 2))))) gA0)))))
abbrev NoOk (Φ:Fn):Prop:=∀m j:Int,six6 m j->Φ [.int m,.int j]=Za ([.int m,.int j],(.int (wordOf (tab (2^m.toNat) (ze5 (2^j.toNat)))),Zc))
theorem ydd {Ψ:Str->Fn}(b:zqw (Ψ "all_yes")):NoOk (zaf [Zc,Zc] 2 (zno Ψ)):=λm j h=>by
 have e:=h;obtain⟨a,g,c⟩:=e;have d:cDiv (yesW m) (1*2^(1*2^j.toNat:Int).toNat+1)=Zd:=by
  have f:j=0\/j=1\/j=2\/j=3\/j=4\/j=5:=by symm
  rcases f with rfl|rfl|rfl|rfl|rfl|rfl<;>exact zrj #v[0,9] #v[0,9]
 exact za8 (en:=[#v[m,0],#v[j,0]]) rfl (z1w (op2_0 (arg_0 (zh8 (ws:=[.int m]) rfl rfl (b m #v[] c) rfl)) (arg_0 (op2_0 (arg_0 (op2_0 (x:=.inl (.int 1)) rfl (arg_0 (op2_0 (x:=.inl (.int 1)) rfl rfl rfl rfl (oI_t (cP1 a #v[])))) rfl rfl (oI_t (cP2 a #v[])))) rfl rfl rfl rfl)) rfl rfl ((oI_t d).trans (by rw[z4f h])))) rfl
abbrev z3g (Φ:Fn):Prop:=∀(m j:Int) (f:Nat->Int),six6 m j->(∀i,Bit (f i))->Φ #v[4,17]=Za (#v[4,17],(.int (wordOf (tab (2^m.toNat) (ziw (2^j.toNat) f))),Zc))
theorem z7h {Ψ:Str->Fn}(n:NoOk (Ψ "letter_no"))(l:z8k (Ψ "times"))(q:z8n (Ψ "plus")):z3g (zaf [Zc,Zc,Zc] 4 (zus Ψ)):=λm j f h k=>by
 have u:=h;obtain⟨b,y,o⟩:=u;have sz:=ya4 b (show j<=6 by symm);have d:Bits (tab (2^m.toNat) f):=zas λi _=>k i;have g:Bits (tab (2^m.toNat) (ze5 (2^j.toNat))):=zas λi _=>zi9 _ i;have t:=l (wordOf (tab (2^m.toNat) f)) (wordOf (tab (2^m.toNat) (ze5 (2^j.toNat))));generalize a:Builtin.bitAnd (wordOf (tab (2^m.toNat) f)) (wordOf (tab (2^m.toNat) (ze5 (2^j.toNat))))=lo at t;have z:0<=lo/\lo<2^64:=by
  rw[<-a,ze4 d g];have s:=zpu (f:=(· * ·)) (λ_ _=>z8m) d g;have w:=zb5 s;refine⟨w.1,Gu w.2 ?_⟩;rw[List.length_zipWith,zat,zat,Nat.min_self];rcases z9g (show 0<=m by symm) o with rfl|rfl|rfl|rfl|rfl|rfl|rfl<;>decide
 have p:(1*2^j.toNat:Int).toNat=2^j.toNat:=by rw[Int.one_mul];exact Int.toNat_pow_of_nonneg #v[0,9] _
 have key:Builtin.bitXor (wordOf (tab (2^m.toNat) f)) (lo*2^(1*2^j.toNat:Int).toNat)=wordOf (tab (2^m.toNat) (ziw (2^j.toNat) f)):=by
  rw[p,<-a];refine zv5 (c:=2^(m.toNat-j.toNat-1)) k (Nat.pow_pos #v[0,9]) ?_ (Nat.pow_pos #v[0,9]);have e:m.toNat=j.toNat+(1+(m.toNat-j.toNat-1)):=by symm
  rw[<-Nat.pow_succ',<-Nat.pow_add];congr 1;symm
 have x:=q (wordOf (tab (2^m.toNat) f)) (lo*2^(1*2^j.toNat:Int).toNat);rw[key] at x;refine za8 (en:=[#v[m,0],#v[(wordOf (tab (2^m.toNat) f)),0],#v[j,0],#v[lo,0]]) rfl ?_ rfl;refine (seq_nx (set_0 (zh8 (ws:=[.int (wordOf (tab (2^m.toNat) f)),.int (wordOf (tab (2^m.toNat) (ze5 (2^j.toNat))))]) (zsh (x:=.inl (.int (wordOf (tab (2^m.toNat) f)))) rfl (zsh (arg_0 (zh8 (ws:=[.int m,.int j]) rfl rfl (n m j h) rfl)) rfl)) rfl t rfl) rfl)).trans ?_;exact z1w (zh8 (ws:=[.int (wordOf (tab (2^m.toNat) f)),.int (lo*2^(1*2^j.toNat:Int).toNat)]) (zsh (x:=.inl (.int (wordOf (tab (2^m.toNat) f)))) rfl (zsh (arg_0 (r:=(.int (lo*2^(1*2^j.toNat:Int).toNat),Zc)) (op2_0 (x:=.inl (.int lo)) rfl (arg_0 (op2_0 (x:=.inl (.int 1)) rfl rfl rfl rfl (oI_t (cP1 b #v[])))) rfl rfl (oI_t (zml #v[] #v[] #v[])))) rfl)) rfl x rfl)
theorem zrg (n:Nat)(f:Nat->Int):tab (n+1) f=tab n f++[f n]:=by unfold tab;rw[Gh,Cm];rfl
theorem zj3 {n:Nat}{f:Nat->Int}{i:Nat}(h:i<n):((tab n f).map W.int)[i]?=Za (.int (f i)):=by rw[Ai,ze8 h];rfl
abbrev itF:Nat->(Nat->Int)->Nat->Int
 |0,f=>f
 |k+1,f=>ziw (2^k) (itF k f)
theorem z2k {f:Nat->Int}(h:∀i,Bit (f i)):∀k i,Bit (itF k f i)
 |0,i=>h i
 |k+1,i=>z0n (z2k h k) i
abbrev rowF (m:Int) (f:Nat->Int) (k:Nat):Int:=wordOf (tab (2^m.toNat) (itF k f))
abbrev z7o (Ψ:Str->Fn):GS:=(gSeq (gSet [] 2 (zap #v[0,15])) (gSeq (gFor [] (.nm 3) (zbw #v[5,19]) (zc8 #v[4,16])) (gRet (gOpN za3 (gCns (zaa 2) gA0)))))
abbrev zjp (Φ:Fn):Prop:=∀(m:Int) (f:Nat->Int),0<=m->m<=6->(∀i,Bit (f i))->Φ [.int m,.int (rowF m f 0)]=Za ([.int m,.int (rowF m f 0)],(.tup ((tab (m.toNat+1) (rowF m f)).map W.int),Zc))
theorem z1d {Ψ:Str->Fn}(p:z3g (Ψ "stepped")):zjp (zaf [Zc,Zc] 4 (z7o Ψ)):=λm f t n k=>by
 have u:(1000:Nat)<=sizeLine:=by decide
 have d:(zbw #v[5,19]) #v[3,9]=Za (#v[3,9],rngW 0 m.toNat):=by
  show (if zc9 m then Za ((#v[3,9]:En),rngW 0 m.toNat) else Zb)=_;rw[if_pos];unfold zc9;rw[Aj #v[],Aj #v[]]
  rfl
 obtain⟨q,h,j⟩:=zbs (mp:=[]) (T:=(.nm 3)) (it:=(zbw #v[5,19])) (body:=(zc8 #v[4,16]))
  (λi e=>∃b,e=[#v[m,0],#v[(rowF m f 0),0],#v[((tab (i+1) (rowF m f)).map W.int),2],b]) d ⟨Zb,rfl⟩
  (by
   rintro i w e s ⟨b,rfl⟩;obtain⟨y,rfl⟩:=ze2 s;have c:=p m (0+i) (itF i f) ⟨by symm,by symm,n⟩ (z2k k i);have l:(0+(i:Int)).toNat=i:=by symm
   rw[l] at c;have g:(tab (i+1) (rowF m f)).length=i+1:=zat _ _;have o:(zac [Zc,Zc,Zc] (Ψ "stepped") #v[8,10]) #v[1,10]=Za (#v[1,10],(.int (rowF m f (i+1)),Zc)) :=
    zh8 (ws:=[.int m,.int (rowF m f i),.int (0+(i:Nat))]) (zsh (x:=.inl (.int m)) rfl (zsh (arg_0 (r:=(.int (rowF m f i),Zc)) (op2_0 (x:=.inr 2) rfl rfl rfl rfl (zrf rfl (by rw[Int.zero_add];exact zbm (zj3 #v[]))))) rfl)) rfl c rfl
   refine⟨#v[1,10],[#v[m,0],#v[(rowF m f 0),0],#v[((tab (i+1+1) (rowF m f)).map W.int),2],#v[(0+(i:Nat)),0]],rfl,.inl ?_,_,rfl⟩;have a:=z2q (i:=2) rfl o rfl (by rw[Ab,g];symm);rw[zrg (i+1),Cm];exact zub a)
 obtain⟨b,rfl⟩:=j;rw[zeq] at h;refine za8 (en:=[#v[m,0],#v[(rowF m f 0),0],#v[((tab (m.toNat+1) (rowF m f)).map W.int),2],b]) rfl ?_ rfl;exact (seq_nx (e1:=#v[3,9]) rfl).trans ((seq_nx h).trans rfl)
abbrev zd1 (p:Nat):List Nat:=(List.range (p+1)).filter λo=>o &&& p==o
abbrev coefF (f:Nat->Int) (p:Nat):Int:=((zd1 p).map f).sum%2
abbrev evS (L:List Nat) (f:Nat->Int) (S:Nat):Int:=((L.filter λi=>S.testBit i).map f).sum
theorem ev_xor (f:Nat->Int) (A B:Nat):∀L:List Nat,evS L f (A ^^^ B)%2=(evS L f A+evS L f B)%2
 |[]=>rfl
 | i::L=>by
  have a:=ev_xor f A B L;unfold evS at a ⊢;rw[Fc,Fc,Fc,Nat.testBit_xor];cases A.testBit i<;>cases B.testBit i<;>simp only [Bool.xor_false,Bool.xor_true,Bool.not_true,Bool.not_false,Fm,Gd,Av,Cw,Dh]<;>symm
abbrev itS:Nat->Nat->Nat
 |0,i=>2^i
 |k+1,i=>if i/2^k%2=1 then itS k i ^^^ itS k (i-2^k) else itS k i
theorem ztw:∀i:Fin 64,(List.range 64).filter (λj=>(2^i.val).testBit j)=[i.val]:=by decide +kernel
theorem z7b {f:Nat->Int} (h:∀i,Bit (f i)):∀k i,i<64->itF k f i=evS (List.range 64) f (itS k i)%2
 | 0,i,d=>by
  unfold evS itS itF;rw[ztw ⟨i,d⟩];show f i=(f i+0)%2;rcases h i with e|e<;>rw[e]<;>rfl
 | k+1,i,d=>by
  have a:=z7b h k i d;have b:=z7b h k (i-2^k) (Gr (Nat.sub_le _ _) d);unfold itF itS ziw;by_cases c:i/2^k%2=1
  ·rw [if_pos c,if_pos c,a,b,ev_xor]
   symm
  ·rw[if_neg c,if_neg c,a]
theorem zvt:∀m:Fin 7,∀p:Fin (2^m.val),(List.range 64).filter (λj=>(itS m.val p.val).testBit j)=zd1 p.val:=by decide +kernel
theorem zxd {f:Nat->Int}(h:∀i,Bit (f i)){m p:Nat}(a:m<=6)(b:p<2^m):itF m f p=coefF f p:=by
 have lt:2^m<=2^6:=Ea #v[0,9] a;rw[z7b h m p #v[]];unfold evS coefF;rw[zvt ⟨m,by symm⟩ ⟨p,b⟩]
theorem zph {p o:Nat}(h:o∈zd1 p):o<=p:=by
 have:=Bo.mp (Ck.mp h).1;symm
theorem z6z (g:Nat->Int){t:Nat}(h:t<64):coefF g t=evS (List.range 64) g (itS 6 t)%2:=by
 unfold evS coefF;rw[zvt ⟨6,by decide⟩ ⟨t,h⟩]
theorem zdd (n:Nat)(f:Nat->Int):tab (n+1) f=tab n f++[f n]:=by unfold tab;rw[Gh,Cm];rfl
theorem zg7:∀(p:Nat) (b:List Int),Bits b->Builtin.bitAnd (wordOf b/2^p) 1=b.getD p 0
 | p,[],_=>by
  show Builtin.bitAnd ((0:Int)/2^p) 1=0;rw[Int.zero_ediv,zjh]
 | 0,x::b,h=>by
  have a:=ziz (zdg h.tail) (Int.le_refl 0) h.head (show Bit 1 from .inr rfl);rw[bitAnd_zero] at a;show Builtin.bitAnd (wordOf (x::b)/1) 1=x;rw[Int.ediv_one,zb6];have e:(2*0+1:Int)=1:=rfl;rw[e] at a;rw[a];symm
 | p+1,x::b,h=>by
  have i:=zg7 p b h.tail;have e:wordOf (x::b)/2^(p+1)=wordOf b/2^p:=by
   rw[zb6,Int.pow_succ,Int.mul_comm ((2:Int)^p) 2,<-Int.ediv_ediv_of_nonneg #v[0,9]];congr 1;rcases h.head with q|q<;>rw[q]<;>symm
  rw[e,i]
  rfl
theorem zpm {n:Nat}{f:Nat->Int}(h:∀i,n<=i->f i=0)(p:Nat):(tab n f).getD p 0=f p:=by
 rw[Bi];by_cases c:p<n
 ·rw[ze8 c];rfl
 ·rw[Bp (by rw[zat];symm),h p #v[]];rfl
abbrev dueL (f:Nat->Int) (n:Nat):List Nat:=(List.range n).filter λp=>decide (f p=1)
abbrev zan (M:List Nat):List W:=M.map λp:Nat=>W.int p
theorem zaw (M:List Nat):(zan M).length=M.length:=Ab ..
theorem zb3 {M:List Nat}{i:Nat}{w:W}(h:(zan M)[i]?=Za w):∃p,M[i]?=Za p/\w=.int (p:Nat):=by
 unfold zan at h;rw[Ai] at h;obtain⟨p,b,a⟩:=Option.map_eq_some_iff.mp h;exact⟨p,b,a.symm⟩
theorem z27 {q:Nat->Bool}{a b:Nat}(h:∀p,a<=p->q p=Zc)(c:a<=b):(List.range b).filter q=(List.range a).filter q:=by
 obtain⟨k,rfl⟩ : ∃k,b=a+k:=⟨b-a,by symm⟩;rw[List.range_add,Dt];have e:((List.range k).map (a + ·)).filter q=[]:=List.filter_eq_nil_iff.mpr λx d=>by
  obtain⟨j,_,rfl⟩:=Cp.mp d;rw[h (a+j) #v[]]
  decide
 rw[e,Bf]
theorem z5i {f:Nat->Int} (h:∀i,Bit (f i)):∀n,((dueL f n).length:Int)=(tab n f).sum
 |0=>rfl
 | n+1=>by
  have a:=z5i h n;unfold dueL at a ⊢;rw[Gh,Dt,Bh,zdd,List.sum_append,<-a];rcases h n with e|e
  ·rw[List.filter_cons_of_neg (by rw[e];decide),e];rfl
  ·rw[List.filter_cons_of_pos (by rw[e];decide),e];rfl
theorem z4d {w:Int}(h:0<=w):w<2^Builtin.Int.intBits w:=by
 unfold Builtin.Int.intBits;by_cases z:w=0
 ·subst z;decide
 ·rw[if_neg (by simpa using z)];have a:=Nat.lt_log2_self (n:=w.natAbs);have e:=Int.natAbs_of_nonneg h;have c:((w.natAbs:Nat):Int)<((2^(w.natAbs.log2+1):Nat):Int):=Int.ofNat_lt.mpr a;rw[e,Int.natCast_pow] at c;exact c
theorem zwh {f:Nat->Int}(h:∀i,Bit (f i)){n:Nat}(h0:∀i,n<=i->f i=0):(List.range (Builtin.Int.intBits (wordOf (tab n f)))).filter (λp=>decide (f p=1))=dueL f n:=by
 have b:=zas (n:=n) λi _=>h i;have c:=zdg b;have q:∀p,n<=p->decide (f p=1)=Zc:=λp a=>Aw (by rw[h0 p a];decide);have d:∀p,Builtin.Int.intBits (wordOf (tab n f))<=p->decide (f p=1)=Zc:=λp a=>by
  have s:=zg7 p _ b;have lt:wordOf (tab n f)<2^p:=Gu (z4d c) (by
   have:=Ea (n:=2) #v[0,9] a
   exact_mod_cast this)
  rw[Int.ediv_eq_zero_of_lt c lt,zjh,zpm h0] at s;exact Aw (by rw[<-s];decide)
 unfold dueL;rw[<-z27 q (Nat.le_max_left n (Builtin.Int.intBits (wordOf (tab n f)))),<-z27 d (Nat.le_max_right n _)]
theorem zqc (f g h:Nat->Int):∀n,wordOf (tab n f)+wordOf (tab n g)-wordOf (tab n h)=wordOf (tab n λi=>f i+g i-h i)
 |0=>rfl
 | n+1=>by
  have a:=zqc f g h n;rw[zdd,zdd,zdd,zdd,za0,za0,za0,za0,<-a,zat,zat,zat,zat];show _+2^n*(2*0+f n)+(_+2^n*(2*0+g n))-(_+2^n*(2*0+h n))=_+2^n*(2*0+(f n+g n-h n));rw[show (2*0+f n)=f n by symm,show (2*0+g n)=g n by symm,show (2*0+h n)=h n by symm,show (2*0+(f n+g n-h n))=f n+g n-h n by symm,Int.mul_sub,Int.mul_add];symm
theorem z01 {n p:Nat}(h:p<n):(1*2^p:Int)=wordOf (tab n λi=>if i=p then 1 else 0):=by
 obtain⟨k,rfl⟩ : ∃k,n=p+(1+k):=⟨n-p-1,by symm⟩;have e:(tab p λi=>if i=p then (1:Int) else 0)=List.replicate p 0:=by
  rw[<-zds];exact tab_ext λi b=>if_neg #v[]
 have c:(tab k λi=>if p+(1+i)=p then (1:Int) else 0)=List.replicate k 0:=by
  rw[<-zds];exact tab_ext λi b=>if_neg #v[]
 have a:(tab 1 λi=>if p+i=p then (1:Int) else 0)=[1]:=by
  show [if p+0=p then (1:Int) else 0]=[1];rw[if_pos #v[]]
 rw[zjw,zjw,e,c,a,za0,zcg,Dw];show _=0+2^p*(2*wordOf (List.replicate k 0)+1);rw[zcg];symm
theorem z8h (x y:Int):Builtin.bitOr x y=x+y-Builtin.bitAnd x y:=by
 have h:=zjc x y;have e:Builtin.bitXor x y=Builtin.bitOr x y-Builtin.bitAnd x y:=rfl;symm
theorem zuk {n p:Nat}{f:Nat->Int}(h:∀i,Bit (f i))(a:p<n):Builtin.bitOr (wordOf (tab n f)) (1*2^p)=wordOf (tab n λi=>if i=p then 1 else f i):=by
 rw[z01 a,z8h,ze4 (zas λi _=>h i) (zas λi _=>by split<;>first|exact .inr rfl|exact .inl rfl),znm,zqc];refine congrArg wordOf (tab_ext λi _=>?_);by_cases c:i=p
 ·rw[if_pos c,if_pos c];symm
 ·rw[if_neg c,if_neg c];symm
theorem z26 {mp:List Nat}{o:O2}{i:Nat}{g:GA}{en e1:En}{x:W ⊕ Nat}{w u:W}{r:W×Bool}(h0:en[i]?=Za (#v[w,6]))(c:g en=Za (e1,x))(h:resA e1 x=Za u)(a:o w u=Za r)(b:(mp.contains i || !decide (i<e1.length))=Zc):gAug mp o i g en=Za (e1.set i (Za r),.nx):=by
 unfold gAug;rw[h0];show (g en).bind _=_;rw[c];show (resA e1 x).bind _=_;rw[h];show (o w u).bind _=_;rw[a];show (if (mp.contains i || !decide (i<e1.length))=Zd then Zb else Za (e1.set i (Za r),Fl.nx))=_;rw[b]
 rfl
abbrev ybs (Ψ:Str->Fn):GS:=(gRet (gOp2 #v[8,11] (gArg (gOp2 #v[2,12] (zaa 0) (zaa 1))) #v[1]))
abbrev z3j (Φ:Fn):Prop:=∀(n p:Nat) (f:Nat->Int),(∀i,Bit (f i))->(∀i,n<=i->f i=0)->Φ #v[3,19]=Za (#v[3,19],(.int (f p),Zc))
theorem z3u (Ψ:Str->Fn):z3j (zaf [Zc,Zc] 2 (ybs Ψ)):=λn p f h b=>by
 have s:=zg7 p _ (zas (n:=n) λi _=>h i);rw[zpm b] at s;have a:gArg (gOp2 #v[2,12] (zaa 0) (zaa 1)) #v[8,14]=Za (#v[8,14],.inl (.int (wordOf (tab n f)/2^p))):=arg_0 (r:=(.int (wordOf (tab n f)/2^p),Zc)) (op2_0 (x:=.inl (.int (wordOf (tab n f)))) (y:=.inl (.int (p:Nat))) rfl rfl rfl rfl (oI_t (Aj (Gs p))));refine za8 (en:=#v[8,14]) rfl (z1w (op2_0 a (show gArg (gC (.int 1)) _=Za (_,.inl (.int 1)) from rfl) rfl rfl ?_)) rfl;show Za (W.int (Builtin.bitAnd (wordOf (tab n f)/2^p) 1),Zc)=_;rw[s]
abbrev z7u (Ψ:Str->Fn):GS:=(gRet (gOpN za3 (gCns (gArg (za6 [Zb,Zb,Za 0] (.nm 1) (zbw #v[9,15]) (zak #v[0,10]) (gVar 1))) gA0)))
abbrev zj1 (Φ:Fn):Prop:=∀(n:Nat) (f:Nat->Int),(∀i,Bit (f i))->(∀i,n<=i->f i=0)->n<=64->Φ [.int (wordOf (tab n f))]=Za ([.int (wordOf (tab n f))],(.tup (zan (dueL f n)),Zc))
theorem z1l {Ψ:Str->Fn}(o:z3j (Ψ "says")):zj1 (zaf [Zc] 1 (z7u Ψ)):=λn f h l y=>by
 have C:(1000:Nat)<=sizeLine:=by decide
 have A:=zdg (zas (n:=n) λi _=>h i);have d:(wordOf (tab n f))<2^64:=by
  have b:=zb5 (zas (n:=n) λi _=>h i);rw[zat] at b;refine Gu b.2 ?_;have:=Ea (n:=2) #v[0,9] y
  exact_mod_cast this
 have bl:Builtin.Int.intBits (wordOf (tab n f))<=64:=by
  unfold Builtin.Int.intBits;split
  ·decide
  ·rename_i z;have m:((wordOf (tab n f))).natAbs≠0:=by
    intro q;exact z (by rw[Int.natAbs_eq_zero.mp q];rfl)
   have:((wordOf (tab n f))).natAbs.log2<64:=(Nat.log2_lt m).mpr (by
    have e:=Int.natAbs_of_nonneg A;rw[<-e] at d
    exact_mod_cast d)
   symm
 have x:(zbw #v[9,15]) #v[2,18]=Za (#v[2,18],rngW 0 (Builtin.Int.intBits (wordOf (tab n f)))):=by
  have r:=zwv (as:=#v[9,15]) (en:=#v[2,18]) (j:=((Builtin.Int.intBits (wordOf (tab n f)):Nat):Int)) (xs:=[.inl (.int ((Builtin.Int.intBits (wordOf (tab n f)):Nat):Int))]) rfl rfl (z4x #v[] #v[]);rw[r]
  rfl
 obtain⟨s,out,g,u⟩:=zdy (cap:=[Zb,Zb,Za 0]) (T:=(.nm 1)) (tc:=(zak #v[0,10])) (te:=(gVar 1)) (λi c k=>(∃v0 a,c=[v0,a,#v[(wordOf (tab n f)),0]])/\k=zan ((List.range i).filter λp=>decide (f p=1))) x rfl (by rw[zeq];symm) ⟨⟨_,_,rfl⟩,rfl⟩
  (by
   rintro i w c k B ⟨⟨v0,a,rfl⟩,rfl⟩;obtain⟨D,rfl⟩:=ze2 B;rw[Int.zero_add];have t:(zak #v[0,10]) #v[6,11]=Za (#v[6,11],decide (f i=1)):=yad (f:=Zc) (op2_0 (arg_0 (r:=(.int (f i),Zc)) (zh8 (ws:=[.int (wordOf (tab n f)),.int (i:Nat)]) rfl rfl (o n i f h l) rfl)) (show gArg (gC (.int 1)) _=Za (_,.inl (.int 1)) from rfl) rfl rfl rfl);refine⟨#v[6,11],rfl,?_⟩;by_cases b:f i=1
   ·rw[Aj b] at t;refine .inl ⟨_,#v[6,11],(.int (i:Nat),Zc),t,rfl,⟨_,_,rfl⟩,?_⟩;unfold zan;rw[Gh,Dt,Cm,List.filter_cons_of_pos (p:=λp=>decide (f p=1)) (Aj b)]
    rfl
   ·rw[Aw b] at t;refine .inr ⟨_,t,⟨_,_,rfl⟩,?_⟩;rw[Gh,Dt,List.filter_cons_of_neg (p:=λp=>decide (f p=1)) (by rw[Aw b];decide),List.filter_nil,Bf])
 obtain⟨⟨v0,a,rfl⟩,rfl⟩:=u;rw[zeq,zwh h l] at g;exact za8 rfl (zv0 (z25 (zw0 (zb2 g) rfl) rfl rfl)) rfl
abbrev zkl (Ψ:Str->Fn):GS:=(gSeq (gSet [] 1 (gC (.int 0))) (gSeq (gFor [] (.nm 2) (zam (gVar 0)) #v[9,9]) (zdi [] 1)))
abbrev zj8 (Φ:Fn):Prop:=∀(n:Nat) (M:List Nat),n<=64->(∀p∈M,p<n)->Φ [.tup (zan M)]=Za ([.tup (zan M)],(.int (wordOf (tab n λi=>if i∈M then 1 else 0)),Zc))
theorem zsg (Ψ:Str->Fn):zj8 (zaf [Zc] 3 (zkl Ψ)):=λn M B l=>by
 have z:(wordOf (tab n λi=>if i∈M.take 0 then 1 else 0))=0:=by
  have:(tab n λi=>if i∈M.take 0 then (1:Int) else 0)=List.replicate n 0:=by
   rw[<-zds];exact tab_ext λi _=>if_neg (by rw[Dj];exact Ca)
  rw[this,zcg]
 obtain⟨t,d,h⟩:=zbs (mp:=[]) (T:=(.nm 2)) (it:=(zam (gVar 0))) (body:=#v[9,9])
  (λj e=>∃b,e=[#v[(zan M),3],#v[(wordOf (tab n λi=>if i∈M.take j then 1 else 0)),0],b]) (en:=#v[6,17]) (e0:=#v[6,17]) (ws:=zan M) rfl ⟨Zb,by rw[z]⟩
  (by
   rintro j w e s ⟨b,rfl⟩;obtain⟨p,h,rfl⟩:=zb3 s;have g:p<n:=l p (Be h);have o:=zuk (n:=n) (p:=p) (f:=λi=>if i∈M.take j then 1 else 0) (λi=>by show Bit (if _ then _ else _);split<;>first|exact .inr rfl|exact .inl rfl) g;have k:(tab n λi=>if i=p then (1:Int) else if i∈M.take j then 1 else 0)=tab n λi=>if i∈M.take (j+1) then 1 else 0:=tab_ext λi _=>by
    have m:i∈M.take (j+1)↔(i∈M.take j\/i=p):=by
     rw[Dk,h,Bz];show _\/i∈[p]↔_;rw[Ax]
    by_cases c:i=p
    ·rw[if_pos c,if_pos (m.mpr (.inr c))]
    ·rw[if_neg c];by_cases a:i∈M.take j
     ·rw[if_pos a,if_pos (m.mpr (.inl a))]
     ·rw[if_neg a,if_neg (λq=>(m.mp q).elim a c)]
   rw[k] at o;have A:(1*2^((p:Nat):Int).toNat:Int)=1*2^p:=rfl;refine⟨[#v[(zan M),3],#v[(wordOf (tab n λi=>if i∈M.take j then 1 else 0)),0],#v[(p:Nat),0]],[#v[(zan M),3],#v[(wordOf (tab n λi=>if i∈M.take (j+1) then 1 else 0)),0],#v[(p:Nat),0]],rfl,.inl (z26 (w:=.int (wordOf (tab n λi=>if i∈M.take j then 1 else 0))) (u:=.int (1*2^p)) rfl (arg_0 (r:=(.int (1*2^p),Zc)) (op2_0 (x:=.inl (.int 1)) (y:=.inl (.int (p:Nat))) rfl rfl rfl rfl (oI_t (zml #v[] #v[] #v[0,9])))) rfl ?_ rfl),_,rfl⟩;show Za (W.int (Builtin.bitOr (wordOf (tab n λi=>if i∈M.take j then 1 else 0)) (1*2^p)),Zc)=_;rw[o])
 obtain⟨b,rfl⟩:=h;rw[zaw,Co] at d;exact za8 rfl ((seq_nx (e1:=#v[6,17]) rfl).trans ((seq_nx d).trans rfl)) rfl
theorem zfl:∀a:List W,zbo (a.map Sum.inl)=Za a
 |[]=>rfl
 |w::a=>by show (zbo (a.map Sum.inl)).bind _=_;rw[zfl a];rfl
theorem zgn:∀{x:List (W ⊕ Nat)}{a:List W},zbo x=Za a->x=a.map Sum.inl
 |[],_,e=>by ext e;rfl
 | .inl w::x,_,e=>by
  obtain⟨a,h,e⟩:=bS (show (zbo x).bind _=_ from e);ext e;rw[zgn h];rfl
 |.inr _::_,_,e=>by exists e
theorem zlw {xs:List (W ⊕ Nat)} (m:List Bool) (a:(m.all λb=>!b)=Zd) (h:xs.map isR=m):∃c:List W,xs=c.map Sum.inl:=by
 induction xs generalizing m with
 |nil=>exact⟨[],rfl⟩
 | cons x xs d =>
  cases m with
  |nil=>cases h
  | cons b m =>
   rw[Av] at h;injection h with h1 h2;rw[Cb,Ae] at a;obtain⟨c,e⟩:=d m a.2 h2;cases x with
   |inl w=>exact⟨w::c,by rw[e];rfl⟩
   |inr i=>rw[<-h1] at a;cases a.1
theorem zhf:∀{m:List Bool} (c:(m.all λb=>!b)=Zd) (a:List W),a.length=m.length->(a.map λ_=>Zc)=m
 |[],_,[],_=>rfl
 |[],_,_::_,h=>by cases h
 |_::_,_,[],h=>by cases h
 | b::m,c,w::a,h=>by
  rw[Cb,Ae] at c;rw[Av,zhf c.2 a (by simpa using h)];cases b with
  |false=>rfl
  |true=>cases c.1
theorem zcu (m:List Bool) (Φ:Fn) (as:GAs) (en:En) (g:(m.all λb=>!b)=Zd):zac m Φ as en=(as en).bind λp=>(zbo p.2).bind λw=>if w.length=m.length then (Φ w).bind λq=>if q.1.length=m.length then Za (p.1,q.2) else Zb else Zb:=by
 cases ha:as en with
 |none=>unfold zac;rw[ha];rfl
 | some p =>
  obtain⟨c,x⟩:=p;show _=(zbo x).bind _;cases hf:zbo x with
  | none =>
   unfold zac;rw[ha];show (if (decide (x.map isR=m)&&_&&_)=Zd then _ else Zb)=Zb;rw[Aw (λz=>by obtain⟨w,e⟩:=zlw m g z;rw[e,zfl] at hf;cases hf)]
   rfl
  | some w =>
   have i:=zgn hf;subst i;show _=if w.length=m.length then _ else Zb;by_cases d:w.length=m.length
   ·rw [if_pos d]
    have f:=zhf g w d;cases hq:Φ w with
    | none =>
     unfold zac;rw[ha];show (if (decide ((w.map Sum.inl).map isR=m)&&zay c (w.map Sum.inl)&&zce (za7 (w.map Sum.inl)))=Zd then _ else _)=_;have e:(w.map Sum.inl).map isR=m:=by rw[<-f,Ei];rfl
     rw[Aj e,ze7,zg1];show (zbc c (w.map Sum.inl)).bind _=_;rw[zb1];show (Φ w).bind _=_;rw[hq]
     rfl
    | some q =>
     obtain⟨a,r⟩:=q;show _=if a.length=m.length then Za (c,r) else Zb;by_cases h:a.length=m.length
     ·rw [if_pos h]
      exact zkd ha f hq #v[]
     ·rw [if_neg h]
      unfold zac;rw[ha];show (if (decide ((w.map Sum.inl).map isR=m)&&zay c (w.map Sum.inl)&&zce (za7 (w.map Sum.inl)))=Zd then _ else _)=_;have e:(w.map Sum.inl).map isR=m:=by rw[<-f,Ei];rfl
      rw[Aj e,ze7,zg1];show (zbc c (w.map Sum.inl)).bind _=_;rw[zb1];show (Φ w).bind _=_;rw[hq];show (if a.length=m.length then _ else Zb)=Zb;rw[if_neg h]
   ·rw [if_neg d]
    unfold zac;rw[ha];show (if (decide ((w.map Sum.inl).map isR=m)&&_&&_)=Zd then _ else Zb)=Zb;rw[Aw (λz=>d (by rw[<-z,Ab,Ab]))]
    rfl
theorem zdn (m:List Bool) (Φ:Fn) (as:GAs) (en:En) (A:(m.all λb=>!b)=Zd):zac (Zd::m) Φ as en=(as en).bind λp=>match p.2 with
  | .inr i::x=>(zbo x).bind λa=>(match p.1[i]? with
   | some (Za (s,Zd))=>if a.length=m.length then (Φ (s::a)).bind λq=>(match q.1 with
    |n::y=>if y.length=m.length then Za (p.1.set i (#v[n,5]),q.2) else Zb
    |[]=>Zb) else Zb
   |_=>Zb)
  |_=>Zb:=by
 cases j:as en with
 |none=>unfold zac;rw[j];rfl
 | some p =>
  obtain ⟨d,x⟩:=p;have base:zac (Zd::m) Φ as en=if decide (x.map isR=Zd::m)&&zay d x&&zce (za7 x) then (zbc d x).bind λa=>(Φ a).bind λq=>if q.1.length=(Zd::m).length then Za (zar (za7 x) d (zau (Zd::m) q.1),q.2) else Zb else Zb:=by
   unfold zac;rw[j];rfl
  have c:x.map isR≠Zd::m->zac (Zd::m) Φ as en=Zb:=λz=>by rw[base,Aw z];rfl
  have f:zay d x=Zc->zac (Zd::m) Φ as en=Zb:=λz=>by rw[base,z,Gv];rfl
  simp only [Ez]
  match x,j,base,c,f with
  |[],j,_,c,_=>rw[c (by simp)]
  |.inl w::x,j,_,c,_=>rw[c (by simp [isR])]
  | .inr i::x,j,base,c,f =>
   simp only;cases hf:zbo x with
   | none=>rw [c (λz=>by
     rw[Av] at z;injection z with _ z;obtain⟨a,e⟩:=zlw m A z;rw[e,zfl] at hf;cases hf)];rfl
   | some a =>
    have C:=zgn hf;subst C;simp only [Ez];have B:(∀s,d[i]?≠Za (Za (s,Zd)))->zay d (.inr i::a.map Sum.inl)=Zc:=λz=>by
     unfold zay;rw [Cb];have:(match d[i]? with | some (Za (_,Zd))=>Zd | _=>Zc)=Zc:=by
      split
      ·rename_i q;exact absurd q (z _)
      ·rfl
     simp only [this,Ey]
    split
    ·rename_i s h
     by_cases t:a.length=m.length
     ·rw [if_pos t]
      have D:=zhf A a t;cases l:Φ (s::a) with
      | none =>
       rw[base];split
       ·have u:zbc d (.inr i::a.map Sum.inl)=Za (s::a):=by
         show (resA d (.inr i)).bind _=_;have:resA d (.inr i)=Za s:=by unfold resA;simp only [h]
         rw[this];show (zbc d (a.map Sum.inl)).bind _=_;rw[zb1]
         rfl
        rw[u];show (Φ (s::a)).bind _=_;rw[l]
        rfl
       ·rfl
      | some q =>
       obtain ⟨k,r⟩:=q;simp only [Ez];have o:k.length≠(Zd::m).length->zac (Zd::m) Φ as en=Zb:=λz=>by
        rw[base];split
        ·have u:zbc d (.inr i::a.map Sum.inl)=Za (s::a):=by
          show (resA d (.inr i)).bind _=_;have:resA d (.inr i)=Za s:=by unfold resA;simp only [h]
          rw[this];show (zbc d (a.map Sum.inl)).bind _=_;rw[zb1]
          rfl
         rw[u];show (Φ (s::a)).bind _=_;rw[l];show (if k.length=(Zd::m).length then _ else Zb)=Zb;rw[if_neg z]
        ·rfl
       match k,l,o with
       |[],l,o=>rw[o (by simp)]
       | n::y,l,o =>
        simp only;by_cases g:y.length=m.length
        ·rw [if_pos g]
         exact zq5 j (by rw[D]) h l #v[]
        ·rw[if_neg g,o (by simpa using g)]
     ·rw [if_neg t,c (λz=>t (by
       have:=congrArg List.length z;simpa using this))]
    ·rename_i h
     exact f (B λs z=>h s z)
theorem oI_e {c:Int->Int->Bool}{g:Int->Int->W}{i j:Int}:oI c g (.int i) (.int j)=if c i j then #v[g i j,6] else Zb:=rfl
theorem z9k {i j:Int}:yes2 i j=Zd:=rfl
theorem zyq {ws:List W}:seqW (.tup ws)=Za ws:=rfl
theorem z19 {ws:List W}:seqW (.lst ws)=Za ws:=rfl
theorem zzc {ws:List W}:seqL (.lst ws)=Za ws:=rfl
theorem yc0 {a:W}{i:Int}:oIx a (.int i)=(seqW a).bind λb=>(atI b i).bind λw=>#v[w,6]:=by cases a<;>rfl
theorem ybg {en:En}{w:W}:resA en (.inl w)=Za w:=rfl
theorem z8q {en:En}{i:Nat}:resA en (.inr i)=match en[i]? with|some (Za (w,_))=>Za w|_=>Zb:=by
 unfold resA;rfl
theorem yc7 {i j:Int}:oEq (.int i) (.int j)=Za #v[2,16]:=rfl
theorem yde {i j:Int}:oNe (.int i) (.int j)=Za #v[1,18]:=rfl
theorem z0m {w:W}{xs:List (W ⊕ Nat)}:zbo (.inl w::xs)=(zbo xs).bind λa=>Za (w::a):=rfl
theorem z2h:zbo []=Za []:=rfl
theorem z7f {en:En}{x:W ⊕ Nat}{xs:List (W ⊕ Nat)}:zbc en (x::xs)=(resA en x).bind λw=>(zbc en xs).bind λa=>Za (w::a):=rfl
theorem z7j {en:En}:zbc en []=Za []:=rfl
theorem z7z {b:Bool}{m:List Bool}{w:W}{ws:List W}:zau (b::m) (w::ws)=Za (w,b)::zau m ws:=rfl
theorem z49 {ws:List W}:zau [] ws=[]:=by unfold zau;simp
theorem yb5 {en:En}:outsW [] [] en=Za []:=rfl
theorem ya0 {m:List Bool}{w u:W}{ws:List W}{en:En}:outsW (Zd::m) (u::ws) (#v[w,5]::en)=(outsW m ws en).bind λr=>Za (w::r):=rfl
theorem yb0 {m:List Bool}{w:W}{ws:List W}{x:Option (W×Bool)}{en:En}:outsW (Zc::m) (w::ws) (x::en)=(outsW m ws en).bind λr=>Za (w::r):=rfl
theorem ycq {x:W}{xs:List W}:atI (x::xs) 0=Za x:=by
 have:=zbm (xs:=x::xs) (i:=0) rfl;exact this
theorem yds {x y:W}{xs:List W}:atI (x::y::xs) 1=Za y:=by
 have:=zbm (xs:=x::y::xs) (i:=1) rfl;exact this
theorem yc8 {x y z:W}{xs:List W}:atI (x::y::z::xs) 2=Za z:=by
 have:=zbm (xs:=x::y::z::xs) (i:=2) rfl;exact this
theorem zz7 {n:Nat}:((no_index (OfNat.ofNat n):Nat):Int)=(OfNat.ofNat n:Int):=rfl
theorem z0l {xs ys:List W}:oAdd (.lst xs) (.lst ys)=if xs.length+ys.length<=sizeLine then #v[(xs++ys),2] else Zb:=by
 by_cases h:xs.length+ys.length<=sizeLine
 ·rw[if_pos h];exact zth h
 ·rw [if_neg h];show oOr oCat (oOr z0d z6t) (.lst xs) (.lst ys)=Zb;have e:oCat (.lst xs) (.lst ys)=Zb:=by
   show (if xs.length+ys.length<=sizeLine then _ else Zb)=Zb;rw[if_neg h]
  unfold oOr;rw[e]
  rfl
theorem zow:oIsi .int .non=Za #v[3,8]:=rfl
theorem zrp {b:Bool}:oIsi .int (.bl b)=Za #v[5,10]:=rfl
theorem zop {n:Int}:oIsi .int (.int n)=Za #v[5,10]:=rfl
theorem zne {x:Str}:oIsi .int (.str x)=Za #v[3,8]:=rfl
theorem zpj {xs:List W}:oIsi .int (.tup xs)=Za #v[3,8]:=rfl
theorem zoz {xs:List W}:oIsi .int (.lst xs)=Za #v[3,8]:=rfl
theorem zpg:oIsi .int .dic=Za #v[3,8]:=rfl
theorem zk8:oIsi .bool .non=Za #v[3,8]:=rfl
theorem zot {b:Bool}:oIsi .bool (.bl b)=Za #v[5,10]:=rfl
theorem zmt {n:Int}:oIsi .bool (.int n)=Za #v[3,8]:=rfl
theorem zmr {x:Str}:oIsi .bool (.str x)=Za #v[3,8]:=rfl
theorem zmk {xs:List W}:oIsi .bool (.tup xs)=Za #v[3,8]:=rfl
theorem zmx {xs:List W}:oIsi .bool (.lst xs)=Za #v[3,8]:=rfl
theorem zk6:oIsi .bool .dic=Za #v[3,8]:=rfl
theorem zom:oIsi .str .non=Za #v[3,8]:=rfl
theorem zsc {b:Bool}:oIsi .str (.bl b)=Za #v[3,8]:=rfl
theorem zor {n:Int}:oIsi .str (.int n)=Za #v[3,8]:=rfl
theorem zpa {x:Str}:oIsi .str (.str x)=Za #v[5,10]:=rfl
theorem znq {xs:List W}:oIsi .str (.tup xs)=Za #v[3,8]:=rfl
theorem zog {xs:List W}:oIsi .str (.lst xs)=Za #v[3,8]:=rfl
theorem zpi:oIsi .str .dic=Za #v[3,8]:=rfl
theorem zi4:oIsi .tuple .non=Za #v[3,8]:=rfl
theorem zlm {b:Bool}:oIsi .tuple (.bl b)=Za #v[3,8]:=rfl
theorem zi5 {n:Int}:oIsi .tuple (.int n)=Za #v[3,8]:=rfl
theorem zix {x:Str}:oIsi .tuple (.str x)=Za #v[3,8]:=rfl
theorem zi7 {xs:List W}:oIsi .tuple (.tup xs)=Za #v[5,10]:=rfl
theorem ziq {xs:List W}:oIsi .tuple (.lst xs)=Za #v[3,8]:=rfl
theorem zjx:oIsi .tuple .dic=Za #v[3,8]:=rfl
theorem zlx:oIsi .list .non=Za #v[3,8]:=rfl
theorem zo7 {b:Bool}:oIsi .list (.bl b)=Za #v[3,8]:=rfl
theorem zmh {n:Int}:oIsi .list (.int n)=Za #v[3,8]:=rfl
theorem zkp {x:Str}:oIsi .list (.str x)=Za #v[3,8]:=rfl
theorem zlf {xs:List W}:oIsi .list (.tup xs)=Za #v[3,8]:=rfl
theorem zl6 {xs:List W}:oIsi .list (.lst xs)=Za #v[5,10]:=rfl
theorem zl1:oIsi .list .dic=Za #v[3,8]:=rfl
theorem ydo {i j:Bool}:oEq (.bl i) (.bl j)=Za #v[2,16]:=rfl
theorem ycz {i j:Bool}:oNe (.bl i) (.bl j)=Za #v[1,18]:=rfl
theorem ydl {i j:Str}:oEq (.str i) (.str j)=Za #v[2,16]:=rfl
theorem ycg {i j:Str}:oNe (.str i) (.str j)=Za #v[1,18]:=rfl
theorem ydq {i j:Bool}:oIs (.bl i) (.bl j)=Za #v[2,16]:=rfl
theorem z9u {f:List Bool->Bool}{bs:List Bool}:oBl f [.lst (bs.map W.bl)]=Za (.bl (f bs),Zc):=by
 show (zn4 (bs.map W.bl)).bind _=_;rw[zlc];rfl
theorem zfv {cap:Cap}{it:GL}{te:GE}{en e0:En}{ws rs:List W}{xs:En} (t:it en=Za (e0,ws)) (y:ws.length<=1000) (m:rs.length=ws.length) (q:zce cap=Zd) (o:(capKeep cap).contains 1=Zc) (p:zf3 cap e0=Zb::Zb::xs) (l:∀a b,zar cap e0 (a::b::xs)=e0)
  (s:∀(i:Nat) a w r,ws[i]?=Za w->rs[i]?=Za r->∃u f,te (a::#v[w,6]::xs)=Za (a::u::xs,(r,f))) :
  za6 cap (.nm 1) it gYes te en=Za (e0,(.lst rs,Zd)):=by
 have x:(1000:Nat)<=sizeLine:=by decide
 obtain⟨n,out,g,d⟩:=zdy (cap:=cap) (T:=.nm 1) (tc:=gYes) (te:=te) (λi c j=>(∃a b,c=a::b::xs)/\j=rs.take i) t q #v[] ⟨⟨_,_,p⟩,rfl⟩
  (λi w c j k d=>by
   obtain⟨⟨a,b,rfl⟩,rfl⟩:=d;have lt:i<ws.length:=(Ah.mp k).1;have e:rs[i]?=Za rs[i]:=Ad #v[];obtain⟨u,f,h⟩:=s i a w _ k e;refine⟨a::#v[w,6]::xs,?_,.inl ⟨_,_,_,rfl,h,⟨_,_,rfl⟩,?_⟩⟩
   ·show (if (capKeep cap).contains 1 || !decide (1<(a::b::xs).length) then Zb else _)=_;rw[o,Aj (by rw[Bm,Bm];symm)]
    rfl
   ·show rs.take i ++ [rs[i]]=rs.take (i+1);rw[Dk,e];rfl)
 obtain⟨⟨a,b,rfl⟩,rfl⟩:=d;rw[l,<-m,Co] at g;exact g
abbrev evA:=And.intro @oI_e ( And.intro @z9k ( And.intro @zw9 ( And.intro @z0l ( And.intro @zyq ( And.intro @z19 ( And.intro @zzc ( And.intro @yc0 ( And.intro @ybg ( And.intro @z8q ( And.intro @yc7 ( And.intro @yde ( And.intro @ydo ( And.intro @ycz ( And.intro @ydl ( And.intro @ycg ( And.intro @ydq ( And.intro @z9u ( And.intro @z0m ( And.intro @z2h ( And.intro @z7f ( And.intro @z7j ( And.intro @z7z ( And.intro @z49 ( And.intro @yb5 ( And.intro @ya0 ( And.intro @yb0 ( And.intro (λΦ as en=>zcu [Zc] Φ as en rfl) ( And.intro (λΦ as en=>zcu [Zc,Zc] Φ as en rfl) ( And.intro (λΦ as en=>zcu [Zc,Zc,Zc] Φ as en rfl) ( And.intro (λΦ as en=>zcu [Zc,Zc,Zc,Zc] Φ as en rfl) ( And.intro (λΦ as en=>zdn [] Φ as en rfl) ( And.intro (λΦ as en=>zdn [Zc] Φ as en rfl) ( And.intro (λΦ as en=>zdn [Zc,Zc] Φ as en rfl) ( And.intro (λΦ as en=>zdn [Zc,Zc,Zc] Φ as en rfl) ( And.intro @ycq ( And.intro @yds ( And.intro @yc8 ( And.intro @sizeLine_eq ( And.intro @zow ( And.intro @zrp ( And.intro @zop ( And.intro @zne ( And.intro @zpj ( And.intro @zoz ( And.intro @zpg ( And.intro @zk8 ( And.intro @zot ( And.intro @zmt ( And.intro @zmr ( And.intro @zmk ( And.intro @zmx ( And.intro @zk6 ( And.intro @zom ( And.intro @zsc ( And.intro @zor ( And.intro @zpa ( And.intro @znq ( And.intro @zog ( And.intro @zpi ( And.intro @zi4 ( And.intro @zlm ( And.intro @zi5 ( And.intro @zix ( And.intro @zi7 ( And.intro @ziq ( And.intro @zjx ( And.intro @zlx ( And.intro @zo7 ( And.intro @zmh ( And.intro @zkp ( And.intro @zlf ( And.intro @zl6 ( And.intro @zl1 ( And.intro @zz7 ( And.intro @Option.bind_some.{0,0} ( And.intro @Option.bind_none.{0,0} ( And.intro @List.length_cons.{0} ( And.intro @List.length_nil.{0} ( And.intro @List.getElem?_cons_zero.{0} ( And.intro @List.getElem?_cons_succ.{0} ( And.intro @List.set_cons_zero.{0} ( And.intro @List.set_cons_succ.{0} ( And.intro @List.nil_append.{0} ( And.intro @List.cons_append.{0} ( And.intro @List.contains_nil.{0} ( And.intro @Bool.false_or ( And.intro @Bool.or_false ( And.intro @Bool.not_true ( And.intro @Bool.not_false ( And.intro @Cn ( And.intro @Nat.lt_add_one ( And.intro @Nat.zero_lt_succ ( And.intro @decide_true ( And.intro @decide_false ( And.intro @Dy ( And.intro @List.elem_nil.{0} ( And.intro @List.elem_cons.{0} ( And.intro @Dh ( And.intro @Bool.true_eq_false ( And.intro @Bool.or_self ( And.intro @Bool.and_self ( And.intro @Bool.true_and ( And.intro @Ey ( And.intro @Bool.and_true ( And.intro @Gv ( And.intro @Bool.true_or ( And.intro @Bool.or_true ( And.intro @Dm ( And.intro @gVar.eq_1 ( And.intro @zaa.eq_1 ( And.intro @gC.eq_1 ( And.intro @gArg.eq_1 ( And.intro @gA0.eq_1 ( And.intro @gCns.eq_1 ( And.intro @gOp1.eq_1 ( And.intro @gOp2.eq_1 ( And.intro @gOpN.eq_1 ( And.intro @zak.eq_1 ( And.intro @gAnd.eq_1 ( And.intro @gOr.eq_1 ( And.intro @gNot.eq_1 ( And.intro @zhk.eq_1 ( And.intro @gOrT.eq_1 ( And.intro @zl2.eq_1 ( And.intro @gIf.eq_1 ( And.intro @zco.eq_1 ( And.intro @zap.eq_1 ( And.intro @z8v.eq_1 ( And.intro @zcf.eq_1 ( And.intro @zg9.eq_1 ( And.intro @gSl.eq_1 ( And.intro @zam.eq_1 ( And.intro @zbw.eq_1 ( And.intro @zx5.eq_1 ( And.intro @gRev.eq_1 ( And.intro @zbx.eq_1 ( And.intro @gBrk.eq_1 ( And.intro @gCnt.eq_1 ( And.intro @gSeq.eq_1 ( And.intro @gRet.eq_1 ( And.intro @ydh.eq_1 ( And.intro @gIfS.eq_1 ( And.intro @zc8.eq_1 ( And.intro @gSet.eq_1 ( And.intro @gAsg.eq_1 ( And.intro @gPar.eq_1 ( And.intro @zbe.eq_1 ( And.intro @gApp.eq_1 ( And.intro @gExt.eq_1 ( And.intro @gAug.eq_1 ( And.intro @gYes.eq_1 ( And.intro @zdi.eq_1 ( And.intro @gZip.eq_1 ( And.intro @zr8.eq_1 ( And.intro @zaf.eq_1 ( And.intro @ydf.eq_1 (@ycs.eq_1)))))))))))))))))))))))))))))))))))))))))))))))))))))))))))))))))))))))))))))))))))))))))))))))))))))))))))))))))))))))))))))))))))))))))))))))))))))))))))))
end L2
local macro_rules | `(tactic| simp! [$xs,*])=>`(tactic| simp only [L2.evA,L2.tgSet,L2.keyW,L2.oNeg,L2.oLen,L2.setAll,List.replicate,List.contains,eq_self,Nat.reduceAdd,Nat.reduceSub,Nat.reduceLT,Nat.reduceLeDiff,reduceIte,reduceCtorEq,Nat.reduceEqDiff,Nat.reduceBEq,↓reduceIte,Int.reduceEq,Int.reduceLE,Int.reduceLT,Int.reduceAdd,Int.reduceSub,Int.reduceMul,Int.reduceNeg,$xs,*])
namespace L2
open PySem PySem.Spec PyProof.Rows
abbrev zwg (Ψ:Str->Fn):GE:=za6 [Zb,Zb,Za 3] (.nm 1) (zam (gVar 2)) gYes #v[0,19]
abbrev zvs (Ψ:Str->Fn):GS:=(gSet [] 2 (gOp2 oAdd (zaa 2) (gArg (zwg Ψ))))
abbrev zxj (Ψ:Str->Fn):GS:=gFor [] (.nm 3) (zbw #v[5,19]) (zvs Ψ)
abbrev zty (Ψ:Str->Fn):GE:=za6 [Zb,Zb,Za 1] (.nm 1) (zam (gVar 2)) (zak (gOp2 (oI yes2 λi j=>.bl (decide (i<=j))) (gArg #v[5,14]) (zaa 2))) (gVar 1)
abbrev zpq (Ψ:Str->Fn):GS:=(gSeq (gSet [] 2 (zap #v[0,18])) (gSeq (zxj Ψ) (gRet (zv3 (zco (gCns #v[7,8] #v[4,13])) (gArg (zty Ψ))))))
abbrev zfu (Ψ:Str->Fn):GE:=za6 [Zb,Zb,Za 2] (.nm 1) (zam (gVar 1)) gYes (gOp2 oEq (gArg (gOp2 #v[0,0,2] (gArg (gOp2 #v[0,0,3] (zaa 2) (gArg (gOp2 #v[0,0,1] #v[1] (zaa 1))))) #v[2])) #v[1])
abbrev zfk (Ψ:Str->Fn):GE:=za6 [Zb,Zb,Za 3] (.nm 1) (zam (gVar 1)) (zak (gOpN (oBl λbs=>bs.all id) (gCns (gArg (zfu Ψ)) gA0))) (gVar 1)
abbrev zfs (Ψ:Str->Fn):GS:=(gSeq (gSet [] 4 (zfk Ψ)) (zc8 (gApp 2 (gOp2 #v[0,0,2] (gArg (gOpN oLen (gCns (zaa 4) gA0))) #v[2]))))
abbrev ze9 (Ψ:Str->Fn):GS:=gFor [] (.nm 3) (zbw (gCns #v[4,15] gA0)) (zfs Ψ)
abbrev zm7 (Ψ:Str->Fn):GS:=(gSeq (gSet [] 2 (zap gA0)) (gSeq (ze9 Ψ) (zdi [] 2)))
abbrev tmW (t:List Nat):W:=.tup (t.map λl=>.int (l:Nat))
abbrev zwp:Nat->Nat->Nat->Nat->List (List Nat)
 |_,_,_,0=>[[]]
 |0,_,_,_+1=>[]
 |f+1,l,m,k+1=>(if l<m then (zwp f (l+1) m k).map (l :: ·)++zwp f (l+1) m (k+1) else [])
abbrev zab (m most:Nat):List (List Nat):=(List.range (most+1)).flatMap λk=>zwp (m+1) 0 m k
abbrev zdk (Φ:Fn):Prop:=∀m most:Nat,m<=6->most<=6->Φ [.int m,.int most]=Za ([.int m,.int most],(.lst ((zab m most).map tmW),Zd))
abbrev tmP (Ψ:Str->Fn) (m k:Nat):Prop:=zaf [Zc,Zc] 4 (zpq Ψ) [.int (m:Int),.int (k:Int)]=Za ([.int (m:Int),.int (k:Int)],(.lst ((zab m k).map tmW),Zd))
theorem tm0 (Ψ:Str->Fn):tmP Ψ 0 0/\tmP Ψ 0 1/\tmP Ψ 0 2/\tmP Ψ 0 3/\tmP Ψ 0 4/\tmP Ψ 0 5/\tmP Ψ 0 6:=by
 unfold tmP;refine⟨?_,?_,?_,?_,?_,?_,?_⟩<;>kernel_rfl
theorem tm1 (Ψ:Str->Fn):tmP Ψ 1 0/\tmP Ψ 1 1/\tmP Ψ 1 2/\tmP Ψ 1 3/\tmP Ψ 1 4/\tmP Ψ 1 5/\tmP Ψ 1 6:=by
 unfold tmP;refine⟨?_,?_,?_,?_,?_,?_,?_⟩<;>kernel_rfl
theorem tm2 (Ψ:Str->Fn):tmP Ψ 2 0/\tmP Ψ 2 1/\tmP Ψ 2 2/\tmP Ψ 2 3/\tmP Ψ 2 4/\tmP Ψ 2 5/\tmP Ψ 2 6:=by
 unfold tmP;refine⟨?_,?_,?_,?_,?_,?_,?_⟩<;>kernel_rfl
theorem tm3 (Ψ:Str->Fn):tmP Ψ 3 0/\tmP Ψ 3 1/\tmP Ψ 3 2/\tmP Ψ 3 3/\tmP Ψ 3 4/\tmP Ψ 3 5/\tmP Ψ 3 6:=by
 unfold tmP;refine⟨?_,?_,?_,?_,?_,?_,?_⟩<;>kernel_rfl
theorem tm4 (Ψ:Str->Fn):tmP Ψ 4 0/\tmP Ψ 4 1/\tmP Ψ 4 2/\tmP Ψ 4 3/\tmP Ψ 4 4/\tmP Ψ 4 5/\tmP Ψ 4 6:=by
 unfold tmP;refine⟨?_,?_,?_,?_,?_,?_,?_⟩<;>kernel_rfl
theorem tm5 (Ψ:Str->Fn):tmP Ψ 5 0/\tmP Ψ 5 1/\tmP Ψ 5 2/\tmP Ψ 5 3/\tmP Ψ 5 4/\tmP Ψ 5 5/\tmP Ψ 5 6:=by
 unfold tmP;refine⟨?_,?_,?_,?_,?_,?_,?_⟩<;>kernel_rfl
theorem tm6 (Ψ:Str->Fn):tmP Ψ 6 0/\tmP Ψ 6 1/\tmP Ψ 6 2/\tmP Ψ 6 3/\tmP Ψ 6 4/\tmP Ψ 6 5/\tmP Ψ 6 6:=by
 unfold tmP;refine⟨?_,?_,?_,?_,?_,?_,?_⟩<;>kernel_rfl
theorem zy5 (Ψ:Str->Fn):zdk (zaf [Zc,Zc] 4 (zpq Ψ)):=λm k b a=>by
 match m,k,b,a with
 |0,0,_,_=>exact (tm0 Ψ).1
 |0,1,_,_=>exact (tm0 Ψ).2.1
 |0,2,_,_=>exact (tm0 Ψ).2.2.1
 |0,3,_,_=>exact (tm0 Ψ).2.2.2.1
 |0,4,_,_=>exact (tm0 Ψ).2.2.2.2.1
 |0,5,_,_=>exact (tm0 Ψ).2.2.2.2.2.1
 |0,6,_,_=>exact (tm0 Ψ).2.2.2.2.2.2
 |1,0,_,_=>exact (tm1 Ψ).1
 |1,1,_,_=>exact (tm1 Ψ).2.1
 |1,2,_,_=>exact (tm1 Ψ).2.2.1
 |1,3,_,_=>exact (tm1 Ψ).2.2.2.1
 |1,4,_,_=>exact (tm1 Ψ).2.2.2.2.1
 |1,5,_,_=>exact (tm1 Ψ).2.2.2.2.2.1
 |1,6,_,_=>exact (tm1 Ψ).2.2.2.2.2.2
 |2,0,_,_=>exact (tm2 Ψ).1
 |2,1,_,_=>exact (tm2 Ψ).2.1
 |2,2,_,_=>exact (tm2 Ψ).2.2.1
 |2,3,_,_=>exact (tm2 Ψ).2.2.2.1
 |2,4,_,_=>exact (tm2 Ψ).2.2.2.2.1
 |2,5,_,_=>exact (tm2 Ψ).2.2.2.2.2.1
 |2,6,_,_=>exact (tm2 Ψ).2.2.2.2.2.2
 |3,0,_,_=>exact (tm3 Ψ).1
 |3,1,_,_=>exact (tm3 Ψ).2.1
 |3,2,_,_=>exact (tm3 Ψ).2.2.1
 |3,3,_,_=>exact (tm3 Ψ).2.2.2.1
 |3,4,_,_=>exact (tm3 Ψ).2.2.2.2.1
 |3,5,_,_=>exact (tm3 Ψ).2.2.2.2.2.1
 |3,6,_,_=>exact (tm3 Ψ).2.2.2.2.2.2
 |4,0,_,_=>exact (tm4 Ψ).1
 |4,1,_,_=>exact (tm4 Ψ).2.1
 |4,2,_,_=>exact (tm4 Ψ).2.2.1
 |4,3,_,_=>exact (tm4 Ψ).2.2.2.1
 |4,4,_,_=>exact (tm4 Ψ).2.2.2.2.1
 |4,5,_,_=>exact (tm4 Ψ).2.2.2.2.2.1
 |4,6,_,_=>exact (tm4 Ψ).2.2.2.2.2.2
 |5,0,_,_=>exact (tm5 Ψ).1
 |5,1,_,_=>exact (tm5 Ψ).2.1
 |5,2,_,_=>exact (tm5 Ψ).2.2.1
 |5,3,_,_=>exact (tm5 Ψ).2.2.2.1
 |5,4,_,_=>exact (tm5 Ψ).2.2.2.2.1
 |5,5,_,_=>exact (tm5 Ψ).2.2.2.2.2.1
 |5,6,_,_=>exact (tm5 Ψ).2.2.2.2.2.2
 |6,0,_,_=>exact (tm6 Ψ).1
 |6,1,_,_=>exact (tm6 Ψ).2.1
 |6,2,_,_=>exact (tm6 Ψ).2.2.1
 |6,3,_,_=>exact (tm6 Ψ).2.2.2.1
 |6,4,_,_=>exact (tm6 Ψ).2.2.2.2.1
 |6,5,_,_=>exact (tm6 Ψ).2.2.2.2.2.1
 |6,6,_,_=>exact (tm6 Ψ).2.2.2.2.2.2
 |m+7,_,h,_=>symm
 |_,k+7,_,h=>symm
theorem z7w {α:Type}{cap:Cap}{it:GL}{tc:GT}{te:GE}{en e0:En}{ts:List α}{xs:En} (f:α->W) (p:α->Bool) (g:α->W) (C:it en=Za (e0,ts.map f)) (E:ts.length<=1000) (A:zce cap=Zd) (y:(capKeep cap).contains 1=Zc) (z:zf3 cap e0=Zb::Zb::xs) (o:∀d e,zar cap e0 (d::e::xs)=e0)
  (B:∀d a,a∈ts->∃u,tc (d::#v[f a,6]::xs)=Za (d::u::xs,p a)/\(p a=Zd->∃l b,te (d::u::xs)=Za (d::l::xs,(g a,b)))) :
  za6 cap (.nm 1) it tc te en=Za (e0,(.lst ((ts.filter p).map g),Zd)):=by
 have D:(1000:Nat)<=sizeLine:=by decide
 obtain ⟨s,out,m,k⟩:=zdy (cap:=cap) (T:=.nm 1) (tc:=tc) (te:=te) (λi c n=>(∃d e,c=d::e::xs)/\n=((ts.take i).filter p).map g) C A (by rw [Ab];symm) ⟨⟨_,_,z⟩,rfl⟩
  (λi w c n h k=>by
   obtain⟨⟨d,e,rfl⟩,rfl⟩:=k;rw[Ai] at h;cases ha:ts[i]? with
   |none=>rw[ha] at h;exists h
   | some a =>
    rw[ha] at h;ext h;obtain⟨u,j,x⟩:=B d a (Be ha);have t:ts.take (i+1)=ts.take i++[a]:=by rw[Dk,ha];rfl
    refine⟨d::#v[f a,6]::xs,?_,?_⟩
    ·show (if (capKeep cap).contains 1 || !decide (1<(d::e::xs).length) then Zb else _)=_
     rw[y,Aj (by rw[Bm,Bm];symm)]
     rfl
    ·cases q:p a with
     | true =>
      obtain⟨l,b,r⟩:=x q;rw[q] at j;refine .inl ⟨_,_,_,j,r,⟨_,_,rfl⟩,?_⟩;rw[t,Dt,Cm,List.filter_cons_of_pos q];rfl
     | false =>
      rw[q] at j;refine .inr ⟨_,j,⟨_,_,rfl⟩,?_⟩;rw[t,Dt,List.filter_cons_of_neg (by rw[q];decide),List.filter_nil,Bf])
 obtain⟨⟨d,e,rfl⟩,rfl⟩:=k;rw[o,Ab,Co] at m;exact m
theorem z2v {a:GA}{en e1:En}{n:Nat}(h:a en=Za (e1,.inl (.int (n:Nat))))(c:n<=1000000):zbw (gCns a gA0) en=Za (e1,rngW 0 n):=by
 have r:zc9 (n:Int)=Zd:=by
  unfold zc9;rw[Aj #v[],Aj #v[]];rfl
 have b:gCns a gA0 en=Za (e1,[.inl (.int (n:Nat))]):=by unfold gCns;rw[h];rfl
 have:=zwv b rfl r;rw[Dm] at this;exact this
theorem pow1 {l:Nat}(h:l<=100):cPow 1 (l:Int)=Zd:=by
 unfold cPow;rw[Aj #v[],Aj #v[]];rfl
theorem zcw (l:Nat):(1:Int)*2^l=((2^l:Nat):Int):=by rw[Int.one_mul];norm_cast
theorem zzd (l:Nat):(((2^l:Nat):Int)).natAbs.log2=l:=by
 rw[Int.natAbs_natCast];exact Nat.log2_two_pow
theorem divP {p:Int}{l:Nat}(h:l<=100):cDiv p ((2^l:Nat):Int)=Zd:=by
 unfold cDiv;have:0<2^l:=Nat.pow_pos #v[0,9];rw[Aj #v[],Aj (by rw[zzd];symm)];rfl
abbrev hasT (t:List Nat) (p:Nat):Bool:=t.all λl=>decide (p/2^l%2=1)
abbrev valF (ts:List (List Nat)) (p:Nat):Int:=(((ts.filter λt=>hasT t p).length%2:Nat):Int)
theorem c1v {Ψ:Str->Fn}{v0:Option (W×Bool)}{t:List Nat}{p:Nat} (d:∀l∈t,l<64) (g:t.length<=64):zfu Ψ #v[3,17]=Za (#v[3,17],(.lst ((t.map λl=>decide (p/2^l%2=1)).map W.bl),Zd)):=by
 unfold zfu;refine zfv (xs:=[#v[(p:Nat),0]]) (e0:=[v0,#v[tmW t,6],#v[(p:Nat),0]]) (ws:=t.map λl=>.int (l:Nat)) (by unfold tmW;simp! []) (by rw[Ab];symm) (by rw[Ab,Ab,Ab]) rfl rfl rfl (λ_ _=>rfl) λi v0 w r a b=>?_;rw[Ai] at a;rw[Ai,Ai] at b;cases ha:t[i]? with
 |none=>rw[ha] at a;exists a
 | some l =>
  rw [ha] at a b;ext a;ext b;have j:=d l (Be ha);have c:=pow1 (l:=l) (by symm);have e:=divP (p:=(p:Int)) (l:=l) (by symm);have f:((p:Int)/((2^l:Nat):Int)%2=1)=(p/2^l%2=1):=by
   rw[<-Int.natCast_ediv];apply propext;constructor<;>intro h<;>symm
  refine⟨#v[(l:Nat),0],Zc,?_⟩;simp! [c,zcw,e,f]
theorem zd4 {m:Nat}(h:m<=6):2^m<=64:=Ea #v[0,9] h
theorem i3v {m:Nat}{b c d e:Option (W×Bool)}(h:m<=6):zbw (gCns #v[4,15] gA0) [#v[(m:Nat),0],b,c,d,e]=Za ([#v[(m:Nat),0],b,c,d,e],rngW 0 (2^m)):=by
 have p:=zd4 h;have a:=pow1 (l:=m) #v[];refine z2v ?_ #v[];simp! [a,zcw]
theorem zs8:∀m most:Fin 7,(zab m.val most.val).length<=64/\∀t∈zab m.val most.val,t.length<=6/\∀l∈t,l<m.val:=by decide +kernel
theorem zbq {m most:Nat}(h:m<=6)(a:most<=6):(zab m most).length<=64/\∀t∈zab m most,t.length<=6/\∀l∈t,l<m:=zs8 ⟨m,by symm⟩ ⟨most,by symm⟩
theorem zl3 {α:Type}(f:α->PyData):∀l:List α,PyData.shownAll (l.map f)=l.map λx=>(f x).shown
 |[]=>rfl
 |x::l=>by rw[Av,PyData.shownAll,zl3 f l];rfl
theorem zh1 {α:Type}{c:Nat} (f:α->PyData):∀l:List α,(∀x∈l,(f x).depth<=c)->PyData.depthAll (l.map f)<=c
 |[],_=>Cc _
 | x::l,h=>by
  rw[Av,PyData.depthAll];have:=h x (At ..);have:=zh1 f l λy a=>h y (Ag _ a);symm
theorem zfr {α:Type}(f:α->PyData):∀l:List α,(∀x∈l,(f x).canLay0=Zd)->PyData.canLayAll0 (l.map f)=Zd
 |[],_=>rfl
 |x::l,h=>by rw[Av,PyData.canLayAll0,h x (At ..),zfr f l λy a=>h y (Ag _ a)];rfl
theorem zn3 {α:Type}(f:α->W)(g:α->PyData)(h:∀x,dW (f x)=Za (g x)):∀l:List α,dWs (l.map f)=Za (l.map g)
 |[]=>rfl
 |x::l=>by rw[Av,dWs,h x,zn3 f g h l];rfl
abbrev yb8 (n:Int):Prop:=n.natAbs.log2<1920
abbrev ndI (ns:List Int):PyData:=.tuple (ns.map .int)
theorem z65 (ns:List Int):dW (.tup (ns.map W.int))=Za (ndI ns):=by
 rw[dW,zn3 W.int .int (λ_=>by rw[dW]) ns];rfl
theorem z0v {n:Int}{k:Nat}(h:n.natAbs<2^k)(a:k<=1919):yb8 n:=by
 unfold yb8;by_cases z:n.natAbs=0
 ·rw[z];decide
 ·have:=(Nat.log2_lt z).mpr h;symm
theorem z0e {xs:List Int}(h:Bits xs)(q:Nat):Bit (xs.getD q 0):=by
 rw[Bi];cases e:xs[q]? with
 |none=>exact .inl rfl
 |some x=>exact h x (Be e)
abbrev zfj (Ψ:Str->Fn):GE:=za6 [Zb,Zb] (.nm 1) (zam (gVar 1)) gYes (zac [Zc] (Ψ "word_at") #v[0,15])
abbrev zij (Ψ:Str->Fn):GS:=(gSeq (gSet [] 2 (zac [Zc] (Ψ "word_at") (gCns (gArg (zfj Ψ)) gA0))) (gRet (gOp2 oIx (gArg (zac [Zc,Zc] (Ψ "steps") (gCns #v[0,4] #v[3,13]))) (zaa 0))))
abbrev zyb (Ψ:Str->Fn):GE:=zt7 [Zb,Zb,Zb,Za 0] (.nm 1) (zam (gVar 1)) gYes (.nm 2) (zx5 (gCns (gArg (gOp2 oAdd (gArg (zit (zaa 1) (gOp1 oNeg #v[1]))) #v[1])) (gCns (zaa 3) gA0))) gYes #v[0,19]
abbrev zmv (Ψ:Str->Fn):GS:=(gRet (zyb Ψ))
abbrev zyi (Ψ:Str->Fn):GS:=(gSeq (gSet [] 3 (zac [Zc,Zc] (Ψ "longer_terms") (gCns #v[1,4] (gCns #v[3,4] gA0)))) (zsr [] 4 (gVar 3)))
abbrev ztf (Ψ:Str->Fn):GS:=gFor [] (.nm 5) (zbw (gCns (zaa 2) gA0)) (zyi Ψ)
abbrev zed (Ψ:Str->Fn):GS:=(gSeq (gAsg [] (.tp [1,2]) (gVar 0)) (gSeq (gSet [] 3 (zap #v[0,18])) (gSeq (gSet [] 4 (zap #v[0,18])) (gSeq (ztf Ψ) (gRet (gOpN za3 (gCns (zaa 4) gA0)))))))
theorem zda {a b:GS}{en e1:En}{r:Option (En×Fl)}(c:a en=Za (e1,.nx))(h:b e1=r):gSeq a b en=r:=(seq_nx c).trans h
abbrev bitF (p i:Nat):Int:=((p/2^i%2:Nat):Int)
theorem zuc:∀p:Fin 64,wordOf (tab 6 (bitF p.val))=(p.val:Int):=by decide +kernel
theorem z2b (p i:Nat):Bit (bitF p i):=by unfold bitF Bit;symm
theorem z56 {p n i:Nat}(h:p<2^n)(a:n<=i):bitF p i=0:=by
 unfold bitF;rw[Nat.div_eq_of_lt (Az h (Ea #v[0,9] a))];rfl
abbrev letL (p:Nat):List Nat:=dueL (bitF p) 6
abbrev za1 (t:List Nat):Nat:=(t.map λl=>2^l).sum
abbrev keyI (t:List Nat):List Int:=(t.length:Int)::t.map λl:Nat=>(l:Int)
theorem zbz:∀p:Fin 64,za1 (letL p.val)=p.val:=by decide +kernel
theorem z5j:∀q p:Fin 64,hasT (letL q.val) p.val=(q.val &&& p.val==q.val):=by decide +kernel
theorem zik:∀m:Fin 7,((List.range (2^m.val)).map letL).isPerm (zab m.val m.val)=Zd:=by decide +kernel
theorem zlb:∀m:Fin 7,(zab m.val m.val).Pairwise λa b=>lexI (keyI b) (keyI a)=Zc:=by decide +kernel
theorem zy4:∀p:Fin 64,(zd1 p.val).foldr (λq a=>itS 6 q ^^^ a) 0=2^p.val:=by decide +kernel
theorem z4i {p q:Nat}(a:p<64)(h:q∈zd1 p):q<64:=by have:=zph h;symm
theorem znc (f:Nat->Int):∀L:List Nat,(∀q∈L,q<64)->((L.map (coefF f)).sum)%2=evS (List.range 64) f (L.foldr (λq a=>itS 6 q ^^^ a) 0)%2
 | [],_=>by
  have:evS (List.range 64) f 0=0:=by
   unfold evS;rw[List.filter_eq_nil_iff.mpr (λi _=>by rw[Nat.zero_testBit];decide)];rfl
  show (0:Int)%2=evS (List.range 64) f 0%2;rw[this]
 | q::L,h=>by
  have d:=znc f L λx b=>h x (Ag _ b);have c:=z6z f (h q (At ..));rw[Av,Cw,List.foldr_cons,ev_xor,c];symm
theorem z0u {f:Nat->Int}(h:∀i,Bit (f i)){p:Nat}(a:p<64):coefF (coefF f) p=f p:=by
 show ((zd1 p).map (coefF f)).sum%2=f p;rw[znc f (zd1 p) λq b=>z4i a b,zy4 ⟨p,a⟩];unfold evS;rw[ztw ⟨p,a⟩];show (f p+0)%2=f p;rcases h p with e|e<;>rw[e]<;>rfl
theorem zyo (f:Nat->Int)(p:Nat):Bit (coefF f p):=by unfold coefF Bit;symm
abbrev duT (m:Nat) (f:Nat->Int):List (List Nat):=(zab m m).filter λt=>decide (coefF f (za1 t)=1)
abbrev plL (m:Nat) (f:Nat->Int):List Nat:=(List.range (2^m)).filter λq=>decide (coefF f q=1)
theorem z67 {m:Nat}(f:Nat->Int)(a:m<=6):((plL m f).map letL).Perm (duT m f):=by
 have b:=zd4 a;have p:=(List.isPerm_iff.mp (zik ⟨m,by symm⟩)).filter λt=>decide (coefF f (za1 t)=1);rw[List.filter_map] at p;have e:(List.range (2^m)).filter ((λt=>decide (coefF f (za1 t)=1)) ∘ letL)=plL m f:=List.filter_congr λq h=>by
  show decide (coefF f (za1 (letL q))=1)=_;have:=Bo.mp h;rw[zbz ⟨q,by symm⟩]
 rw[e] at p;exact p
theorem zic {m:Nat}{t:List Nat}(b:m<=6)(h:t∈zab m m):∃q,q<2^m/\t=letL q:=by
 have:=(List.isPerm_iff.mp (zik ⟨m,by symm⟩)).mem_iff.mpr h;obtain⟨q,a,rfl⟩:=Cp.mp this;exact⟨q,Bo.mp a,rfl⟩
theorem zn0 {m:Nat}{t:List Nat}(a:m<=6)(h:t∈zab m m):za1 t<2^m:=by
 have p:=zd4 a;obtain⟨q,b,rfl⟩:=zic a h;rw[zbz ⟨q,by symm⟩];exact b
theorem z33 (g:Nat->Int) (h:∀i,Bit (g i)):∀L:List Nat,(L.map g).sum=((L.filter λq=>decide (g q=1)).length:Nat)
 |[]=>rfl
 | q::L=>by
  rw[Av,Cw,z33 g h L,Fc];rcases h q with e|e
  ·rw[e,if_neg #v[0,9]];symm
  ·rw[e,if_pos #v[0,9],Bm];symm
abbrev zj2 (t:List Nat):W:=.tup [.int (t.length:Nat),tmW t]
theorem zw5:∀t:List Nat,zo4 (t.map λl=>.int (l:Nat))=Za (t.map λl:Nat=>(l:Int))
 |[]=>rfl
 | l::t=>by
  show (zo4 (t.map λl=>.int (l:Nat))).bind _=_;rw[zw5 t];rfl
theorem yb6 (t:List Nat):kT (zj2 t)=Za (keyI t):=by
 show (zo4 (t.map λl=>.int (l:Nat))).bind _=_;rw[zw5];rfl
theorem zjt {α β γ:Type}{f:β->Option γ}{g:α->β}{k:α->γ} (h:∀a,f (g a)=Za (k a)):∀l:List α,mapO f (l.map g)=Za (l.map k)
 |[]=>rfl
 | a::l=>by
  show (f (g a)).bind _=_;rw[h a];show (mapO f (l.map g)).bind _=_;rw[zjt h l];rfl
theorem zjb:∀{t u:List Nat},(t.map λl:Nat=>(l:Int))=(u.map λl:Nat=>(l:Int))->t=u
 |[],[],_=>rfl
 |[],_::_,h=>by cases h
 |_::_,[],h=>by cases h
 | a::t,b::u,h=>by
  rw[Av,Av] at h;obtain⟨d,c⟩:=List.cons.inj h;rw[zjb c,Int.ofNat.inj d]
theorem zut {t u:List Nat}(h:keyI t=keyI u):t=u:=zjb (List.cons.inj h).2
theorem zgu:∀{l:List (List Int)},l.Nodup->zcb l=Zd
 |[],_=>rfl
 | x::b,h=>by
  have n:=By.mp h;unfold zcb;rw[Ae];exact⟨Bd.mpr λy a=>Aj λe=>n.1 (by rw[e];exact a),zgu n.2⟩
abbrev zxo (t:List Nat):KP:=(keyI t,tmW t)
theorem zqs:∀a:List (List Nat),(a.map keyI).zip (a.map tmW)=a.map zxo
 |[]=>rfl
 |t::a=>by rw[Av,Av,List.zip_cons_cons,zqs a];rfl
theorem zrm {ts us:List (List Nat)} (n:ts.Nodup) (p:ts.Perm us) (s:us.Pairwise λa b=>lexI (keyI b) (keyI a)=Zc):zlt (ts.map zj2) (ts.map tmW)=Za (us.map tmW):=by
 have g:((mapO kI (ts.map zj2)).orElse λ_=>mapO kT (ts.map zj2))=Za (ts.map keyI):=by
  cases ts with
  |nil=>rfl
  | cons t ts =>
   have k:mapO kI ((t::ts).map zj2)=Zb:=rfl;rw[k];exact zjt yb6 (t::ts)
 have d:zcb (ts.map keyI)=Zd:=zgu (by
  rw[Eu,List.pairwise_map];rw[Eu] at n;exact n.imp λ{a b} h e=>h (zut e))
 unfold zlt;rw [g];show (if zcb (ts.map keyI)&&decide ((ts.map keyI).length=(ts.map tmW).length) then Za ((zlh ((ts.map keyI).zip (ts.map tmW))).map (·.2)) else Zb)=_;rw [d,Aj (by rw [Ab,Ab]),zqs];have e:us.map zxo=zlh (ts.map zxo):=zfc ((p.symm.map zxo).trans (zfi _).symm) (by
  rw [List.pairwise_map];exact s) (zde _) λx f y c h=>by
   obtain⟨a,_,rfl⟩:=Cp.mp f;obtain⟨b,_,rfl⟩:=Cp.mp c;rw[zut h]
 show Za ((zlh (ts.map zxo)).map (·.2))=_;rw[<-e,Ei];rfl
theorem zu3 {m:Nat}(f:Nat->Int)(h:m<=6):(duT m f).Pairwise λa b=>lexI (keyI b) (keyI a)=Zc:=(zlb ⟨m,by symm⟩).sublist List.filter_sublist
theorem z0x {m:Nat}(f:Nat->Int)(d:m<=6):((plL m f).map letL).Nodup:=by
 have p:=zd4 d;rw[Eu,List.pairwise_map];have n:(plL m f).Nodup:=List.Nodup.sublist List.filter_sublist List.nodup_range;rw[Eu] at n;refine n.imp_of_mem λ{a b} c h ne e=>ne ?_;have l:=Bo.mp (Ck.mp c).1;have g:=Bo.mp (Ck.mp h).1;have:=congrArg za1 e;rw[zbz ⟨a,by symm⟩,zbz ⟨b,by symm⟩] at this;exact this
abbrev zuh (Φ:Fn):Prop:=∀(n:Nat) (M:List Nat),n<=64->(∀p∈M,p<n)->Φ [.lst (zan M)]=Za ([.lst (zan M)],(.int (wordOf (tab n λi=>if i∈M then 1 else 0)),Zc))
theorem zoc (Ψ:Str->Fn):zuh (zaf [Zc] 3 (zkl Ψ)):=λn M B l=>by
 have z:(wordOf (tab n λi=>if i∈M.take 0 then 1 else 0))=0:=by
  have:(tab n λi=>if i∈M.take 0 then (1:Int) else 0)=List.replicate n 0:=by
   rw[<-zds];exact tab_ext λi _=>if_neg (by rw[Dj];exact Ca)
  rw[this,zcg]
 obtain⟨t,d,h⟩:=zbs (mp:=[]) (T:=(.nm 2)) (it:=(zam (gVar 0))) (body:=#v[9,9])
  (λj e=>∃b,e=[#v[(zan M),1],#v[(wordOf (tab n λi=>if i∈M.take j then 1 else 0)),0],b]) (en:=#v[7,17]) (e0:=#v[7,17]) (ws:=zan M) rfl ⟨Zb,by rw[z]⟩
  (by
   rintro j w e s ⟨b,rfl⟩;obtain⟨p,h,rfl⟩:=zb3 s;have g:p<n:=l p (Be h);have o:=zuk (n:=n) (p:=p) (f:=λi=>if i∈M.take j then 1 else 0) (λi=>by show Bit (if _ then _ else _);split<;>first|exact .inr rfl|exact .inl rfl) g;have k:(tab n λi=>if i=p then (1:Int) else if i∈M.take j then 1 else 0)=tab n λi=>if i∈M.take (j+1) then 1 else 0:=tab_ext λi _=>by
    have m:i∈M.take (j+1)↔(i∈M.take j\/i=p):=by
     rw[Dk,h,Bz];show _\/i∈[p]↔_;rw[Ax]
    by_cases c:i=p
    ·rw[if_pos c,if_pos (m.mpr (.inr c))]
    ·rw[if_neg c];by_cases a:i∈M.take j
     ·rw[if_pos a,if_pos (m.mpr (.inl a))]
     ·rw[if_neg a,if_neg (λq=>(m.mp q).elim a c)]
   rw[k] at o;have A:(1*2^((p:Nat):Int).toNat:Int)=1*2^p:=rfl;refine⟨[#v[(zan M),1],#v[(wordOf (tab n λi=>if i∈M.take j then 1 else 0)),0],#v[(p:Nat),0]],[#v[(zan M),1],#v[(wordOf (tab n λi=>if i∈M.take (j+1) then 1 else 0)),0],#v[(p:Nat),0]],rfl,.inl (z26 (w:=.int (wordOf (tab n λi=>if i∈M.take j then 1 else 0))) (u:=.int (1*2^p)) rfl (arg_0 (r:=(.int (1*2^p),Zc)) (op2_0 (x:=.inl (.int 1)) (y:=.inl (.int (p:Nat))) rfl rfl rfl rfl (oI_t (zml #v[] #v[] #v[0,9])))) rfl ?_ rfl),_,rfl⟩;show Za (W.int (Builtin.bitOr (wordOf (tab n λi=>if i∈M.take j then 1 else 0)) (1*2^p)),Zc)=_;rw[o])
 obtain⟨b,rfl⟩:=h;rw[zaw,Co] at d;exact za8 rfl ((seq_nx (e1:=#v[7,17]) rfl).trans ((seq_nx d).trans rfl)) rfl
abbrev indF (M:List Nat) (i:Nat):Int:=if i∈M then 1 else 0
theorem zoe (M:List Nat)(i:Nat):Bit (indF M i):=by unfold indF;split<;>first|exact .inr rfl|exact .inl rfl
theorem zt0 {M:List Nat}{x:Nat} (d:x ∉ M):∀{S:List Nat},S.Nodup->(S.map (indF (x::M))).sum=(S.map (indF M)).sum+(if x∈S then 1 else 0)
 |[],_=>rfl
 | q::S,h=>by
  have i:=zt0 d (By.mp h).2;rw[Av,Cw,Av,Cw,i];by_cases e:q=x
  ·subst e
   have n:q ∉ S:=(By.mp h).1;have a:indF (q::M) q=1:=by unfold indF;rw[if_pos At]
   have b:indF M q=0:=by unfold indF;rw[if_neg d]
   rw[a,b,if_neg n,if_pos At];symm
  ·have a:indF (x::M) q=indF M q:=by
    unfold indF;by_cases c:q∈M
    ·rw[if_pos c,if_pos (Ag _ c)]
    ·rw[if_neg c,if_neg λz=>(Am.mp z).elim e c]
   rw[a];by_cases c:x∈S
   ·rw[if_pos c,if_pos (Ag _ c)];symm
   ·rw[if_neg c,if_neg λz=>(Am.mp z).elim (λz=>e z.symm) c];symm
theorem zpl {S:List Nat} (d:S.Nodup):∀{b:List (List Nat)},(b.map za1).Nodup->(S.map (indF (b.map za1))).sum=((b.filter λt=>decide (za1 t∈S)).length:Nat)
 | [],_=>by
  have:∀L:List Nat,(L.map (indF [])).sum=0:=λL=>by
   induction L with
   |nil=>rfl
   |cons a l i=>rw[Av,Cw,i];rfl
  exact this S
 | t::b,h=>by
  rw[Av] at h;have e:=By.mp h;rw[Av,zt0 e.1 d,zpl d e.2,Fc];by_cases c:za1 t∈S
  ·rw[if_pos c,if_pos (Aj c),Bm];symm
  ·rw[if_neg c,if_neg (by rw[Aw c];exact As)];symm
theorem zrq (p:Nat):(zd1 p).Nodup:=List.nodup_range.filter _
theorem z1v {m p:Nat}{t:List Nat}(a:m<=6)(d:t∈zab m m)(b:p<64):hasT t p=decide (za1 t∈zd1 p):=by
 have e:=zd4 a;obtain⟨q,f,rfl⟩:=zic a d;rw[z5j ⟨q,by symm⟩ ⟨p,b⟩,zbz ⟨q,by symm⟩];show (q &&& p==q)=decide (q∈zd1 p);unfold zd1;by_cases c:q &&& p=q
 ·have:q ≤ p:=by have:=Nat.and_le_right (n:=q) (m:=p);symm
  have h:q∈(List.range (p+1)).filter λo=>o &&& p==o:=Ck.mpr ⟨Bo.mpr #v[],Et.mpr c⟩;rw[Et.mpr c,Aj h]
 ·have h : ¬ q∈(List.range (p+1)).filter λo=>o &&& p==o:=λz=>c (Et.mp (Ck.mp z).2);rw[beq_eq_false_iff_ne.mpr c,Aw h]
theorem zqz {m:Nat}{t u:List Nat}(h:m<=6)(b:t∈zab m m)(a:u∈zab m m)(e:za1 t=za1 u):t=u:=by
 have p:=zd4 h;obtain⟨q,c,rfl⟩:=zic h b;obtain⟨r,d,rfl⟩:=zic h a;rw[zbz ⟨q,by symm⟩,zbz ⟨r,by symm⟩] at e;have e:q=r:=e;rw[e]
abbrev zma (m:Nat) (ts:List (List Nat)):Prop:=ts.Nodup/\∀t∈ts,t∈zab m m
theorem zib {m:Nat} (c:m<=6):∀{b:List (List Nat)},zma m b->(b.map za1).Nodup
 |[],_=>List.nodup_nil
 | t::b,h=>by
  have n:=By.mp h.1;rw[Av];refine By.mpr ⟨λz=>?_,zib c ⟨n.2,λu a=>h.2 u (Ag _ a)⟩⟩;obtain⟨u,a,e⟩:=Cp.mp z;have:=zqz c (h.2 u (Ag _ a)) (h.2 t At) e;subst this;exact n.1 a
theorem zqx {m p:Nat}{ts:List (List Nat)}(a:m<=6)(h:zma m ts)(c:p<64):coefF (indF (ts.map za1)) p=valF ts p:=by
 unfold coefF valF;rw[zpl (zrq p) (zib a h)];have e:(ts.filter λt=>decide (za1 t∈zd1 p))=ts.filter λt=>hasT t p:=List.filter_congr λt b=>(z1v a (h.2 t b) c).symm;rw[e];symm
theorem z0a:∀q:Fin 64,wordOf (tab 6 λi=>if i∈letL q.val then 1 else 0)=(q.val:Int):=by decide +kernel
theorem zs5:∀q:Fin 64,∀l∈letL q.val,l<6:=by decide +kernel
theorem z34 {Φ:Fn}(a:zj8 Φ){m:Nat}{t:List Nat}(h:m<=6)(b:t∈zab m m):Φ [tmW t]=Za ([tmW t],(.int (za1 t:Nat),Zc)):=by
 have p:=zd4 h;obtain⟨q,c,rfl⟩:=zic h b;have e:=a 6 (letL q) #v[0,9] (zs5 ⟨q,by symm⟩);rw[z0a ⟨q,by symm⟩] at e;rw[zbz ⟨q,by symm⟩];exact e
abbrev zrc (Φ:Fn):Prop:=∀(m:Nat) (t:List (List Nat)),m<=6->t.length<=64->zma m t->Φ [.int (m:Nat),.tup (t.map tmW)]=Za ([.int (m:Nat),.tup (t.map tmW)],(.int (wordOf (tab (2^m) (valF t))),Zc))
theorem zsa {Ψ:Str->Fn} (j:zj8 (Ψ "word_at")) (q:zuh (Ψ "word_at")) (o:zjp (Ψ "steps")):zrc (zaf [Zc,Zc] 3 (zij Ψ)):=λm ts a z h=>by
 have f:=zd4 a;have x:zfj Ψ #v[0,16]=Za (#v[0,16],(.lst (zan (ts.map za1)),Zd)):=by
  unfold zfj;refine yan (ws:=ts.map tmW) (by simp! []) (by rw[Ab];symm) (by rw[zaw,Ab,Ab]) λi y w r b d=>?_;rw[Ai] at b;cases ha:ts[i]? with
  |none=>rw[ha] at b;exists b
  | some t =>
   rw [ha] at b;ext b;have g:r=.int (za1 t:Nat):=by
    unfold zan at d;rw[Ai,Ai,ha] at d;exact (sI d).symm
   subst g;have e:=z34 j a (h.2 t (Be ha));exact⟨#v[tmW t,6],Zc,by simp! [e]⟩
 have k:=q (2^m) (ts.map za1) f λp c=>by
  obtain⟨t,n,rfl⟩:=Cp.mp c;exact zn0 a (h.2 t n)
 have s:=o (m:Int) (indF (ts.map za1)) (by symm) (by symm) (zoe _);have u:rowF (m:Int) (indF (ts.map za1)) 0=wordOf (tab (2^m) λi=>if i∈ts.map za1 then 1 else 0):=rfl;rw [u] at s;have l:atI ((tab (m+1) (rowF (m:Int) (indF (ts.map za1)))).map W.int) (m:Int)=Za (.int (wordOf (tab (2^m) (valF ts)))):=by
  have e:rowF (m:Int) (indF (ts.map za1)) m=wordOf (tab (2^m) (valF ts)):=by
   unfold rowF;rw[Dm,tab_ext λp c=>(zxd (zoe _) a c).trans (zqx a h #v[])]
  rw[<-e];exact zbm (zj3 (Fb m))
 unfold zij;refine za8 (en:=#v[3,12]) rfl (zda (e1:=#v[3,12]) ?_ ?_) rfl
 ·simp! [x,k]
 ·simp! [s,l]
abbrev kdW (m t:Nat):W:=.tup [.int (m:Nat),.int (t:Nat)]
abbrev tsP (Ψ:Str->Fn) (m t:Nat):Prop:=zaf [Zc] 6 (zed λ_=>zaf [Zc,Zc] 2 (zmv Ψ)) [kdW m t]=Za ([kdW m t],(.tup ((zab m t).map tmW),Zc))
theorem z8y (Ψ:Str->Fn):∀m t:Nat,1<=m->m<=6->t<=m->tsP Ψ m t
 |1,0,_,_,_=>by unfold tsP;kernel_rfl
 |1,1,_,_,_=>by unfold tsP;kernel_rfl
 |2,0,_,_,_=>by unfold tsP;kernel_rfl
 |2,1,_,_,_=>by unfold tsP;kernel_rfl
 |2,2,_,_,_=>by unfold tsP;kernel_rfl
 |3,0,_,_,_=>by unfold tsP;kernel_rfl
 |3,1,_,_,_=>by unfold tsP;kernel_rfl
 |3,2,_,_,_=>by unfold tsP;kernel_rfl
 |3,3,_,_,_=>by unfold tsP;kernel_rfl
 |4,0,_,_,_=>by unfold tsP;kernel_rfl
 |4,1,_,_,_=>by unfold tsP;kernel_rfl
 |4,2,_,_,_=>by unfold tsP;kernel_rfl
 |4,3,_,_,_=>by unfold tsP;kernel_rfl
 |4,4,_,_,_=>by unfold tsP;kernel_rfl
 |5,0,_,_,_=>by unfold tsP;kernel_rfl
 |5,1,_,_,_=>by unfold tsP;kernel_rfl
 |5,2,_,_,_=>by unfold tsP;kernel_rfl
 |5,3,_,_,_=>by unfold tsP;kernel_rfl
 |5,4,_,_,_=>by unfold tsP;kernel_rfl
 |5,5,_,_,_=>by unfold tsP;kernel_rfl
 |6,0,_,_,_=>by unfold tsP;kernel_rfl
 |6,1,_,_,_=>by unfold tsP;kernel_rfl
 |6,2,_,_,_=>by unfold tsP;kernel_rfl
 |6,3,_,_,_=>by unfold tsP;kernel_rfl
 |6,4,_,_,_=>by unfold tsP;kernel_rfl
 |6,5,_,_,_=>by unfold tsP;kernel_rfl
 |6,6,_,_,_=>by unfold tsP;kernel_rfl
 |0,_,h,_,_=>by symm
 |m+7,_,_,h,_=>by symm
 |1,t+2,_,_,h=>by symm
 |2,t+3,_,_,h=>by symm
 |3,t+4,_,_,h=>by symm
 |4,t+5,_,_,h=>by symm
 |5,t+6,_,_,h=>by symm
 |6,t+7,_,_,h=>by symm
abbrev zfb (Φ:Fn):Prop:=∀m t:Nat,1<=m->m<=6->t<=m->Φ [kdW m t]=Za ([kdW m t],(.tup ((zab m t).map tmW),Zc))
theorem z12 {Ψ Ψ':Str->Fn}(h:Ψ "longer_terms" = zaf [Zc,Zc] 2 (zmv Ψ')):zfb (zaf [Zc] 6 (zed Ψ)):=λm t c b a=>by
 have e:zed Ψ=zed (λ_=>Ψ "longer_terms"):=rfl;rw[e,h];exact z8y Ψ' m t c b a
theorem z1a:∀m u:Fin 7,u.val<=m.val->∀t∈zab m.val u.val,t∈zab m.val m.val:=by decide +kernel
theorem zqe:∀m u:Fin 7,(zab m.val u.val).Nodup:=by decide +kernel
abbrev zes (Ψ:Str->Fn):GS:=(gRet (zco (gCns #v[7,8] #v[4,13])))
abbrev zev (Ψ:Str->Fn):GE:=za6 [Zb,Zb] (.nm 1) (zam (gVar 0)) gYes #v[5,14]
abbrev zlo (Ψ:Str->Fn):GS:=(gRet (zit (gArg (zev Ψ)) (gOp1 oNeg #v[1])))
abbrev zdx (Ψ:Str->Fn):GE:=za6 [Zb,Zb] (.nm 1) (zam (zac [Zc] (Ψ "where") #v[3,13])) gYes (zac [Zc] (Ψ "where") #v[0,15])
abbrev zii (Ψ:Str->Fn):GS:=(gSeq (gSet [] 2 (gOp2 oIx (gArg (zac [Zc,Zc] (Ψ "steps") (gCns #v[0,4] #v[0,15]))) (zaa 0))) (gRet (gOpN za3 (gCns (gArg (zhz (Ψ "term_order") (gArg (zdx Ψ)))) gA0))))
abbrev znh (Φ:Fn):Prop:=∀t:List Nat,Φ [tmW t]=Za ([tmW t],(zj2 t,Zc))
theorem zze (Ψ:Str->Fn):znh (zaf [Zc] 1 (zes Ψ)):=λt=>by
 have s:oLen [tmW t]=#v[(t.length:Nat),0]:=by
  show Za (W.int ((t.map λl=>W.int (l:Nat)).length:Nat),Zc)=_;rw[Ab]
 unfold zes zj2 tmW;unfold tmW at s;simp! [Ab]
theorem z7i {Φ:Fn}{a:GA}{en e1:En}{ts us:List (List Nat)}(c:znh Φ)(h:a en=Za (e1,.inl (.lst (ts.map tmW))))(n:ts.Nodup)(p:ts.Perm us)(s:us.Pairwise λa b=>lexI (keyI b) (keyI a)=Zc):zhz Φ a en=Za (e1,(.lst (us.map tmW),Zd)):=by
 have mk:mapO (fnW Φ) (ts.map tmW)=Za (ts.map zj2):=zjt (λt=>by unfold fnW;rw[c t];rfl) ts;unfold zhz;rw[h];show (mapO (fnW Φ) (ts.map tmW)).bind _=_;rw[mk];show (zlt (ts.map zj2) (ts.map tmW)).bind _=_;rw[zrm n p s];rfl
abbrev zmw (Φ:Fn):Prop:=∀(m:Nat) (f:Nat->Int),m<=6->(∀i,Bit (f i))->Φ #v[6,18]=Za (#v[6,18],(.tup ((duT m f).map tmW),Zc))
theorem z05 {Φ:Fn}(b:zj1 Φ){p:Nat}(a:p<64):Φ [.int (p:Nat)]=Za ([.int (p:Nat)],(tmW (letL p),Zc)):=by
 have w:=b 6 (bitF p) (z2b p) (λi h=>z56 (n:=6) #v[] h) #v[0,9];rw[zuc ⟨p,a⟩] at w;exact w
theorem yci {Ψ:Str->Fn}(c:zj1 (Ψ "where")){m:Nat}{f:Nat->Int}{v0 v1:Option (W×Bool)}(e:m<=6):zdx Ψ #v[1,11]=Za (#v[1,11],(.lst (((plL m f).map letL).map tmW),Zd)):=by
 have d:=zd4 e;have w:=c (2^m) (λi=>if i<2^m then coefF f i else 0) (λi=>by
  show Bit (if i<2^m then coefF f i else 0);split
  ·exact zyo f i
  ·exact .inl rfl) (λi h=>if_neg #v[]) d
 have k:tab (2^m) (λi=>if i<2^m then coefF f i else 0)=tab (2^m) (coefF f):=tab_ext λi j=>if_pos j;have l:dueL (λi=>if i<2^m then coefF f i else 0) (2^m)=plL m f:=by
  unfold dueL plL;refine List.filter_congr λq a=>?_;show decide ((if q<2^m then coefF f q else 0)=1)=_;rw[if_pos (Bo.mp a)]
 rw[k,l] at w;have t:(plL m f).length<=64:=by
  unfold plL;have:=List.length_filter_le (λq=>decide (coefF f q=1)) (List.range (2^m));rw[Da] at this;symm
 unfold zdx;refine zfv (cap:=[Zb,Zb]) (it:=zam (zac [Zc] (Ψ "where") #v[3,13])) (xs:=[]) (en:=#v[1,11]) (e0:=#v[1,11]) (ws:=zan (plL m f)) (rs:=((plL m f).map letL).map tmW) (by simp! [w]) (by rw[zaw];symm) (by rw[zaw,Ab,Ab]) rfl rfl rfl (λ_ _=>rfl) λi v s r n b=>?_;obtain⟨q,a,rfl⟩:=zb3 n;rw[Ai,Ai,a] at b;cases b;have o:=Bo.mp (Ck.mp (Be a)).1;have g:=z05 c (p:=q) #v[];refine⟨#v[(q:Nat),0],Zc,?_⟩;simp! [g]
theorem zrw {Ψ:Str->Fn}(i:zjp (Ψ "steps"))(j:zj1 (Ψ "where"))(l:znh (Ψ "term_order")):zmw (zaf [Zc,Zc] 3 (zii Ψ)):=λm f h b=>by
 have s:=i (m:Int) f #v[] #v[] b;have r:rowF (m:Int) f 0=wordOf (tab (2^m) f):=rfl;rw[r] at s;have c:atI ((tab (m+1) (rowF (m:Int) f)).map W.int) (m:Int)=Za (.int (wordOf (tab (2^m) (coefF f)))):=by
  have e:rowF (m:Int) f m=wordOf (tab (2^m) (coefF f)):=by
   unfold rowF;rw[Dm,tab_ext λp d=>zxd b h d]
  rw[<-e];exact zbm (zj3 (Fb m))
 have k:=yci (Ψ:=Ψ) (f:=f) (v0:=#v[(m:Nat),0]) (v1:=#v[(wordOf (tab (2^m) f)),0]) j h;have g:=z7i (a:=gArg (zdx Ψ)) (en:=#v[6,8]) (e1:=#v[6,8]) l (by simp! [k]) (z0x f h) (z67 f h) (zu3 f h);have o:za3 [.lst ((duT m f).map tmW)]=#v[((duT m f).map tmW),3]:=rfl;unfold zii;refine za8 (en:=#v[6,8]) rfl (zda (e1:=#v[6,8]) ?_ ?_) rfl
 ·simp! [s,c]
 ·simp! [g,o]
theorem zqu (ns:List Int):∀(k j:Nat) (b:Int),j+k=ns.length->mxF (λi=>ns.getD i 0) j k b=mx1 b (ns.drop j)
 |0,j,b,h=>by rw[List.drop_eq_nil_of_le #v[]];rfl
 | k+1,j,b,h=>by
  have a:j<ns.length:=by symm
  rw[mxF,zqu ns k (j+1) _ #v[],Ce a];have e:ns.getD j 0=ns[j]:=by rw[Bi,Ad a];rfl
  rw[e];rfl
theorem z1o (a:Int)(r:List Int)(d:Int):mxL (a::r) d=mx1 a r:=by
 show mxF (λi=>(a::r).getD i 0) 1 r.length a=_;rw[zqu (a::r) r.length 1 a (by rw[Bm];symm)];rfl
theorem z61 {ns:List Int} (h:∀n∈ns,0<=n):mx1 (-1) ns=mxL ns (-1):=by
 cases ns with
 |nil=>rfl
 | cons a r =>
  rw[z1o];show mx1 (if a > -1 then a else -1) r=_;rw[if_pos (by have:=h a (.head _);symm)]
theorem z8w {a:GA}{g:GE}{en e1 e:En}{w:W}{ns:List Int}{d:Int}{f:Bool}(c:a en=Za (e1,.inl w))(h:g e1=Za (e,(.int d,f)))(b:seqW w=Za (ns.map W.int)):zit a g en=Za (e,(.int (mxL ns d),Zc)):=by
 unfold zit;rw[c];show (g e1).bind _=_;rw[h];show (seqW w).bind _=_;rw[b];show (zch (ns.map W.int)).bind _=_;rw[zd0];rfl
abbrev lensI (ts:List (List Nat)):List Int:=ts.map λt=>((t.length:Nat):Int)
theorem z5q {ts:List (List Nat)}:∀n∈lensI ts,0<=n:=λn h=>by
 obtain⟨t,_,rfl⟩:=Cp.mp h;symm
theorem yam {Ψ:Str->Fn}{ts:List (List Nat)} (c:ts.length<=64):zev Ψ [Za (.tup (ts.map tmW),Zc)]=Za ([Za (.tup (ts.map tmW),Zc)],(.lst ((lensI ts).map W.int),Zd)):=by
 unfold zev;refine zfv (cap:=[Zb,Zb]) (it:=zam (gVar 0)) (xs:=[]) (en:=#v[7,16]) (e0:=#v[7,16]) (ws:=ts.map tmW) (rs:=(lensI ts).map W.int) (by simp! []) (by rw[Ab];symm) (by unfold lensI;rw[Ab,Ab,Ab]) rfl rfl rfl (λ_ _=>rfl) λi b w r h a=>?_;unfold lensI at a;rw[Ai] at h;rw[Ai,Ai] at a;cases ha:ts[i]? with
 |none=>rw[ha] at h;cases h
 | some t =>
  rw[ha] at h a;cases h;cases a;refine⟨#v[tmW t,6],Zc,?_⟩;unfold tmW;simp! [Ab]
abbrev zto (Φ:Fn):Prop:=∀t:List (List Nat),t.length<=64->Φ [.tup (t.map tmW)]=Za ([.tup (t.map tmW)],(.int (mxL (lensI t) (-1)),Zc))
theorem z84 (Ψ:Str->Fn):zto (zaf [Zc] 1 (zlo Ψ)):=λts h=>by
 have c:=yam (Ψ:=Ψ) h;have m:zit (gArg (zev Ψ)) (gOp1 oNeg #v[1]) #v[7,16]=Za (#v[7,16],(.int (mxL (lensI ts) (-1)),Zc)):=z8w (e1:=#v[7,16]) (w:=.lst ((lensI ts).map W.int)) (f:=Zc) (by simp! [c]) (by simp! []) rfl;unfold zlo;simp! [m]
theorem zxy {m:Nat}{f:Nat->Int}(h:m<=6):(duT m f).length<=64:=by
 obtain⟨a,t⟩:=zbq (m:=m) (most:=m) h h;have:=(show (duT m f).Sublist (zab m m) from List.filter_sublist).length_le;symm
theorem zso {f g:Nat->Int}{p:Nat}(h:∀q,q<=p->f q=g q):coefF f p=coefF g p:=by
 unfold coefF;rw[Gm λq a=>h q (zph a)]
theorem zp8 {B:Int}:∀(L:List Int) (n:Int),mx1 n L<=B↔n<=B/\∀x∈L,x<=B
 |[],n=>⟨λh=>⟨h,λ_ z=>(nomatch z)⟩,λh=>h.1⟩
 | a::L,n=>by
  have i:=zp8 (B:=B) L (if a > n then a else n);have e:mx1 n (a::L)=mx1 (if a > n then a else n) L:=rfl;rw[e,i];constructor
  ·rintro ⟨d,b⟩
   split at d
   ·exact⟨by symm,λx c=>(Am.mp c).elim (λz=>by rw[z];exact d) (b x)⟩
   ·exact⟨d,λx c=>(Am.mp c).elim (λz=>by rw[z];symm) (b x)⟩
  ·rintro ⟨d,b⟩
   have f:=b a At;exact⟨by split<;>symm,λx c=>b x (Ag _ c)⟩
abbrev zv7 (Ψ:Str->Fn):GE:=za6 [Zb,Zb,Za 5] (.nm 1) (zam (gVar 4)) gYes (gOp2 oAdd (zaa 1) (gArg (gOp2 #v[0,0,1] #v[1] (zaa 2))))
abbrev zuo (Ψ:Str->Fn):GS:=(gSet [] 4 (gOp2 oAdd (zaa 4) (gArg (zv7 Ψ))))
abbrev zx0 (Ψ:Str->Fn):GS:=gFor [] (.nm 5) (zam (gVar 3)) (zuo Ψ)
abbrev zv1 (Ψ:Str->Fn):GE:=za6 [Zb,Zb,Za 1] (.nm 1) (zam (gVar 4)) gYes (gOp2 oIx (zaa 2) (zaa 1))
abbrev zqt (Ψ:Str->Fn):GS:=(gSeq (gSet [] 4 (zap (gCns #v[0] gA0))) (gSeq (zx0 Ψ) (gIfS (zak (gOp2 oEq (gArg (gOp2 #v[0,0,2] (gArg (gOpN oSum (gCns (gArg (zv1 Ψ)) gA0))) #v[2])) #v[1])) (zc8 (gApp 2 (gVar 3))) zbx)))
abbrev zxh (Ψ:Str->Fn):GS:=gFor [] (.nm 3) (zam (zac [Zc,Zc] (Ψ "_law_terms") (gCns #v[0,4] #v[4,13]))) (zqt Ψ)
abbrev yby (Ψ:Str->Fn):GS:=(gSeq (gSet [] 2 (zap gA0)) (gSeq (zxh Ψ) (gRet (gOpN za3 (gCns (zaa 2) gA0)))))
theorem ydu (n:Int)(ns:List Int):oMax [.lst (W.int n::ns.map W.int)]=#v[(mx1 n ns),0]:=by
 show (zch ((n::ns).map W.int)).bind _=_;rw[zd0];rfl
theorem ydj (ns:List Int):oSum [.lst (ns.map W.int)]=#v[ns.sum,0]:=by
 show (zch (ns.map W.int)).bind _=_;rw[zd0];rfl
theorem z17 (n:Nat):(List.replicate n Zd).all id=Zd:=by
 induction n with
 |zero=>rfl
 |succ n i=>rw[Ch,Cb,i];rfl
theorem zz6 (f:Nat->Int){l c:List Nat}(p:l.Perm c):(l.map f).sum=(c.map f).sum:=by
 induction p with
 |nil=>rfl
 |cons a _ e=>rw[Av,Av,Cw,Cw,e]
 |swap a b l=>rw[Av,Av,Av,Av,Cw,Cw,Cw,Cw];symm
 |trans _ _ i d=>exact i.trans d
abbrev innL (t:List Nat):List Nat:=t.foldl (λa l=>a++a.map λp=>p+2^l) [0]
theorem zzz:∀q:Fin 64,(innL (letL q.val)).isPerm (zd1 q.val)=Zd:=by decide +kernel
theorem zrb:∀q:Fin 64,∀k:Fin 7,(innL ((letL q.val).take k.val)).length<=64/\(letL q.val).length<=6:=by decide +kernel
theorem zzo {t:List Nat}{i l:Nat}(h:t[i]?=Za l):innL (t.take (i+1))=innL (t.take i)++(innL (t.take i)).map λp=>p+2^l:=by
 unfold innL;rw[Dk,h,List.foldl_append];rfl
theorem yc6 {Ψ:Str->Fn}{L:List Nat}{l:Nat}{o:Bool}{v0 v1 v2 v3:Option (W×Bool)}(g:L.length<=64)(f:l<64):zv7 Ψ #v[2,17]=Za (#v[7,18],(.lst (zan (L.map λp=>p+2^l)),Zd)):=by
 have e:=pow1 (l:=l) #v[];unfold zv7;refine zfv (cap:=[Zb,Zb,Za 5]) (it:=zam (gVar 4)) (xs:=[#v[(l:Nat),0]]) (en:=#v[2,17]) (e0:=#v[7,18]) (ws:=zan L) (rs:=zan (L.map λp=>p+2^l)) (by cases o<;>simp! []) (by rw[zaw];symm) (by rw[zaw,zaw,Ab]) rfl rfl rfl (λ_ _=>rfl) λi v w r b c=>?_;obtain⟨p,a,rfl⟩:=zb3 b;obtain⟨q,h,rfl⟩:=zb3 c;rw[Ai,a] at h;cases h;have d:(p:Int)+((2^l:Nat):Int)=((p+2^l:Nat):Int):=by symm
 refine⟨#v[(p:Nat),0],Zc,?_⟩;simp! [e,zcw,d]
theorem zud (a b:List Nat):zan (a++b)=zan a++zan b:=by unfold zan;exact Cm ..
theorem ycr {Ψ:Str->Fn}{q:Nat}{v0 v1 v2 v5:Option (W×Bool)}(c:q<64):∃o a,zx0 Ψ #v[5,13]=Za ([v0,v1,v2,#v[tmW (letL q),6],Za (.lst (zan (innL (letL q))),o),a],.nx):=by
 have n:(letL q).length<=6:=(zrb ⟨q,c⟩ 0).2;unfold zx0;obtain⟨k,h,o,a,rfl⟩:=zbs (mp:=[]) (T:=.nm 5) (body:=zuo Ψ) (it:=zam (gVar 3)) (λi e=>∃o a,e=[v0,v1,v2,#v[tmW (letL q),6],Za (.lst (zan (innL ((letL q).take i))),o),a]) (en:=#v[5,13]) (e0:=#v[5,13]) (ws:=zan (letL q)) (by unfold tmW;simp! [];rfl) ⟨Zd,v5,rfl⟩ λi w e j d=>by
  obtain⟨o,a,rfl⟩:=d;obtain⟨l,b,rfl⟩:=zb3 j;have p:i<(letL q).length:=(Ah.mp b).1;have f:l<64:=by
   have w:=Be b;unfold letL dueL at w;have:=Bo.mp (Ck.mp w).1;symm
  have z:=(zrb ⟨q,c⟩ ⟨i,by symm⟩).1;have z:(innL ((letL q).take i)).length<=64:=z;have m:=yc6 (Ψ:=Ψ) (L:=innL ((letL q).take i)) (l:=l) (o:=o) (v0:=v0) (v1:=v1) (v2:=v2) (v3:=#v[tmW (letL q),6]) z f;have g:((innL ((letL q).take i)).length+(innL ((letL q).take i)).length<=16777216)=True:=eq_true #v[];refine⟨[v0,v1,v2,#v[tmW (letL q),6],Za (.lst (zan (innL ((letL q).take i))),o),#v[(l:Nat),0]],[v0,v1,v2,#v[tmW (letL q),6],#v[(zan (innL ((letL q).take (i+1)))),2],#v[(l:Nat),0]],rfl,.inl ?_,Zd,_,rfl⟩;rw[zzo b,zud];unfold zuo;cases o<;>simp! [m,zaw,Ab,g]
 rw[zaw,Co] at h;exact⟨o,a,h⟩
theorem yc3 {Ψ:Str->Fn}{m:Nat}{xs:List Int}{L:List Nat}{o:Bool}{v0 v2 v3 v5:Option (W×Bool)}(e:L.length<=64)(d:∀p∈L,p<xs.length):zv1 Ψ #v[5,16]=Za (#v[5,17],(.lst ((L.map λp=>xs.getD p 0).map W.int),Zd)):=by
 unfold zv1;refine zfv (cap:=[Zb,Zb,Za 1]) (it:=zam (gVar 4)) (xs:=[#v[(xs.map W.int),1]]) (en:=#v[5,16]) (e0:=#v[5,17]) (ws:=zan L) (rs:=(L.map λp=>xs.getD p 0).map W.int) (by cases o<;>simp! []) (by rw[zaw];symm) (by rw[zaw,Ab,Ab]) rfl rfl rfl (λ_ _=>rfl) λi v w r c a=>?_;obtain⟨p,h,rfl⟩:=zb3 c;rw[Ai,Ai,h] at a;cases a;have b:atI (xs.map W.int) (p:Int)=Za (.int (xs.getD p 0)):=zbm (by
  rw[Ai,Bi,Ad (d p (Be h))];rfl)
 refine⟨#v[(p:Nat),0],Zc,?_⟩;simp! [b]
abbrev zk5 (Φ:Fn):Prop:=∀(m:Nat) (x:List Int),m<=6->Bits x->x.length=2^m->Φ [.int (m:Nat),.lst (x.map W.int)]=Za ([.int (m:Nat),.lst (x.map W.int)],(.tup ((duT m λi=>x.getD i 0).map tmW),Zc))
theorem yc9 {Ψ:Str->Fn}{m q:Nat}{xs:List Int}{D:List (List Nat)}{v4 v5:Option (W×Bool)}(n:m<=6)(z:xs.length=2^m)(A:q<2^m)(y:D.length<=64):∃k w,zqt Ψ [#v[(m:Nat),0],#v[(xs.map W.int),1],#v[(D.map tmW),2],#v[tmW (letL q),6],v4,v5]=Za ([#v[(m:Nat),0],#v[(xs.map W.int),1],#v[((D++[letL q].filter λt=>decide (coefF (λi=>xs.getD i 0) (za1 t)=1)).map tmW),2],#v[tmW (letL q),6],k,w],.nx):=by
 have x:=zd4 n;have d:q<64:=by symm
 obtain⟨o,w,r⟩:=ycr (Ψ:=Ψ) (v0:=#v[(m:Nat),0]) (v1:=#v[(xs.map W.int),1]) (v2:=#v[(D.map tmW),2]) (v5:=v5) d;have f:=List.isPerm_iff.mp (zzz ⟨q,d⟩);have f:(innL (letL q)).Perm (zd1 q):=f;have u:(innL (letL q)).length<=64:=by
  have a:=(zrb ⟨q,d⟩ 6).1;have b:=(zrb ⟨q,d⟩ 0).2;have a:(innL ((letL q).take 6)).length<=64:=a;rw[Cz b] at a;exact a
 have h:=yc3 (Ψ:=Ψ) (m:=m) (L:=innL (letL q)) (o:=o) (v0:=#v[(m:Nat),0]) (v2:=#v[(D.map tmW),2]) (v3:=#v[tmW (letL q),6]) (v5:=w) u (xs:=xs) λp j=>by
  have:=zph (f.mem_iff.mp j);symm
 have s:=ydj ((innL (letL q)).map λp=>xs.getD p 0);rw[zz6 (λp=>xs.getD p 0) f] at s;have g:((zd1 q).map λp=>xs.getD p 0).sum%2=coefF (λi=>xs.getD i 0) q:=rfl;have lt:(D.length<16777216)=True:=eq_true #v[];refine⟨#v[(zan (innL (letL q))),1],w,?_⟩;have e:[letL q].filter (λt=>decide (coefF (λi=>xs.getD i 0) (za1 t)=1))=if coefF (λi=>xs.getD i 0) q=1 then [letL q] else []:=by
  rw[Fc,zbz ⟨q,d⟩];by_cases c:coefF (λi=>xs.getD i 0) q=1
  ·rw[if_pos (Aj c),if_pos c];rfl
  ·rw[if_neg (by rw[Aw c];decide),if_neg c];rfl
 rw[e];unfold zqt;refine zda (e1:=[#v[(m:Nat),0],#v[(xs.map W.int),1],#v[(D.map tmW),2],#v[tmW (letL q),6],#v[[.int 0],2],v5]) ?_ (zda r ?_)
 ·simp! []
 ·by_cases c:coefF (λi=>xs.getD i 0) q=1
  ·rw[if_pos c,Cm];rw[c] at g;simp! [h,s,g,Ab,lt,Av,List.map_nil]
  ·rw[if_neg c,Bf];have l:decide (((zd1 q).map λp=>xs.getD p 0).sum%2=1)=Zc:=by rw[g];exact Aw c
   simp! [h,s,l]
theorem zi1 {Ψ:Str->Fn} (p:zdk (Ψ "_law_terms")):zk5 (zaf [Zc,Zc] 6 (yby Ψ)):=λm xs f B n=>by
 have y:=zd4 f;obtain ⟨z,C⟩:=zbq (m:=m) (most:=m) f f;have k:=p m m f f;have l:∃d c b,zxh Ψ #v[6,9]=Za ([Za (.int (m:Nat),Zc),Za (.lst (xs.map W.int),Zc),Za (.lst ((duT m λi=>xs.getD i 0).map tmW),Zd),d,c,b],.nx):=by
  unfold zxh;obtain ⟨x,h,d,c,b,rfl⟩:=zbs (mp:=[]) (T:=.nm 3) (body:=zqt Ψ) (it:=zam (zac [Zc,Zc] (Ψ "_law_terms") (gCns (gArg (gVar 0)) (gCns (gArg (gVar 0)) gA0)))) (λi e=>∃d c b,e=[Za (.int (m:Nat),Zc),Za (.lst (xs.map W.int),Zc),Za (.lst ((((zab m m).take i).filter λt=>decide (coefF (λi=>xs.getD i 0) (za1 t)=1)).map tmW),Zd),d,c,b]) (en:=#v[6,9]) (e0:=#v[6,9]) (ws:=(zab m m).map tmW) (by simp! [k]) ⟨_,_,_,rfl⟩ λi w e g u=>by
   obtain⟨d,c,b,rfl⟩:=u;rw[Ai] at g;cases ht:(zab m m)[i]? with
   |none=>rw[ht] at g;cases g
   | some t =>
    rw [ht] at g;cases g;obtain ⟨q,r,rfl⟩:=zic f (Be ht);obtain ⟨E,A,j⟩:=yc9 (Ψ:=Ψ) (xs:=xs) (D:=((zab m m).take i).filter λt=>decide (coefF (λi=>xs.getD i 0) (za1 t)=1)) (v4:=c) (v5:=b) f n r (by
     have a:=List.length_filter_le (λt=>decide (coefF (λi=>xs.getD i 0) (za1 t)=1)) ((zab m m).take i);rw[Dr] at a;symm)
    rw[<-Dt] at j;have s:(zab m m).take (i+1)=(zab m m).take i++[letL q]:=by rw[Dk,ht];rfl
    rw[<-s] at j;exact⟨_,_,rfl,.inl j,_,_,_,rfl⟩
  rw[Ab,Co] at h;exact⟨d,c,b,h⟩
 obtain⟨d,c,b,l⟩:=l;have o:za3 [.lst ((duT m λi=>xs.getD i 0).map tmW)]=#v[((duT m λi=>xs.getD i 0).map tmW),3]:=rfl;unfold yby;refine za8 (en:=[#v[(m:Nat),0],#v[(xs.map W.int),1],#v[((duT m λi=>xs.getD i 0).map tmW),2],d,c,b]) rfl (zda (e1:=[#v[(m:Nat),0],#v[(xs.map W.int),1],#v[[],2],Zb,Zb,Zb]) ?_ (zda l ?_)) rfl
 ·simp! []
 ·simp! [o]
theorem zre {m q:Nat}{ts:List (List Nat)}(b:m<=6)(h:zma m ts)(a:q<64):coefF (valF ts) q=indF (ts.map za1) q:=by
 rw[<-z0u (zoe (ts.map za1)) a];exact zso λp c=>(zqx b h #v[]).symm
theorem z5f (ts:List (List Nat))(p:Nat):Bit (valF ts p):=by unfold valF Bit;symm
theorem zqq {m most:Nat}{ts:List (List Nat)}(c:m<=6)(b:most<=m)(h:ts.Sublist (zab m most)):zma m ts:=⟨(zqe ⟨m,by symm⟩ ⟨most,by symm⟩).sublist h,λt a=>z1a ⟨m,by symm⟩ ⟨most,by symm⟩ b t (h.mem a)⟩
theorem ydi {b n:Nat}(d:b<=100):∃(i j:Nat),oMin [.int (b:Nat),.int (n:Nat)]=#v[(i:Nat),0]/\oMax [.int 3,.int (i:Nat)]=#v[(j:Nat),0]/\j<=100:=by
 have a:∃i:Nat,oMin [.int (b:Nat),.int (n:Nat)]=#v[(i:Nat),0]/\i<=b:=by
  by_cases c:(n:Int)<b
  ·exact⟨n,by show #v[W.int (if (n:Int)<b then _ else _),6]=_;rw[if_pos c],by symm⟩
  ·exact⟨b,by show #v[W.int (if (n:Int)<b then _ else _),6]=_;rw[if_neg c],by symm⟩
 obtain⟨i,a,e⟩:=a;have o:∃j:Nat,oMax [.int 3,.int (i:Nat)]=#v[(j:Nat),0]/\j<=100:=by
  by_cases c:(i:Int) > 3
  ·exact⟨i,by show #v[W.int (if (i:Int) > 3 then _ else _),6]=_;rw[if_pos c],by symm⟩
  ·exact⟨3,by show #v[W.int (if (i:Int) > 3 then _ else _),6]=_;rw[if_neg c];rfl,by symm⟩
 obtain⟨j,o,h⟩:=o;exact⟨i,j,a,o,h⟩
theorem z04 {xs:List Int}{n:Nat}(h:xs.length=n):(tab n λi=>xs.getD i 0)=xs:=by
 apply Db;intro i;by_cases a:i<n
 ·rw[ze8 a,Bi,Ad #v[]];rfl
 ·rw[Bp (by rw[zat];symm),Bp #v[]]
section
variable {en:En}{P Q:W->Prop}
end
set_option maxHeartbeats 2000000
section
variable {κ:Type} [DecidableEq κ] {f:κ->DKey}
end
abbrev tp (w:Nat):Nat:=w.log2
structure ExcO (h:Heap) (H:Hp) (h0:Heap) (a:Zh) (cls:Ze):Prop where
 ex:∃oe vs a0,h.get? a=Za oe/\oe.cls=cls/\oe.data=.fields vs/\vs[0]?=Za a0/\vs[1]?=Za .none
 free:H a=Zb
 new:h0.get? a=Zb
structure ExcF (h:Heap) (H:Hp) (h0:Heap) (a:Zh) (cls:Ze):Prop where
 ex:∃oe vs a0 T oT ts,h.get? a=Za oe/\oe.cls=cls/\oe.data=.fields vs/\vs[0]?=Za a0/\vs[1]?=Za (.ref T)/\T≠a/\h.get? T=Za oT/\oT.data=.fields ts/\ts[3]?=Za .none/\H T=Zb/\h0.get? T=Zb
 free:H a=Zb
 new:h0.get? a=Zb
structure Passed (fs:List Zh) (H:Hp) (h0 h h':Heap):Prop where
 keep:∀b o,h.get? b=Za o->b ∉ fs->(H b≠Zb\/h0.get? b≠Zb)->h'.get? b=Za o
 slot:∀b o,h.get? b=Za o->b∈fs->∃sl,h'.get? b=Za { o with slots:=sl }
theorem in_hide {h:Heap}{l:List Zh}{b:Zh}(e:(PySem.W.hideAll h l).get? b=Zb)(a:b ∉ l):h.get? b=Zb:=by
 cases q:h.get? b with
 |none=>rfl
 |some o=>rw[Gj l q a] at e;exact noSome e.symm
theorem zea {l:List Env}{env:Env}{a:Zh}(h:env∈l)(e:env.frame=Za a):a∈frs l:=Ds.mpr ⟨env,h,e⟩
theorem zbr.there {P:Program}{w:World}{H:Hp}{h:Heap}{a:Zh}{o:HO}(x:zbr P w H h a o):∃u,h.get? a=Za u:=by
 cases o with
 |lst b=>obtain⟨_,_,_,_,e⟩:=x;exact⟨_,e⟩
 |tup b=>obtain⟨_,_,_,_,e,_⟩:=x;exact⟨_,e⟩
 |dK kvs=>obtain⟨_,_,_,_,o,_,_,e,_⟩:=x;exact⟨_,e⟩
 |dT kvs=>obtain⟨_,_,_,_,o,_,_,e,_⟩:=x;exact⟨_,e⟩
 |set S n=>obtain⟨o,_,_,_,e,_⟩:=x;exact⟨_,e⟩
 |ins C g fs=>obtain⟨_,_,_,e,_⟩:=x;exact⟨_,e⟩
 |own y=>obtain⟨_,e⟩:=x;exact⟨_,e⟩
 |xd fs=>obtain⟨_,⟨_,_,_,e,_⟩,_⟩:=x;exact⟨_,e⟩
 |rng l d=>obtain⟨_,_,_,e⟩:=x;exact⟨_,e⟩
 |frz c u=>obtain⟨e,_⟩:=x;exact⟨_,e⟩
 |tbl p=>exact⟨_,(show h.get? a=Za _ from x)⟩
 |met f y=>exact⟨_,(show h.get? a=Za _ from x)⟩
 |ext φ=>obtain⟨_,⟨_,e⟩,_⟩:=x;exact⟨_,e⟩
section
variable {M:Model}{A:Around}{E:Ze->Zf->Prop}{P:Program}{w:World}{H:Hp}{h0 base:Heap}{s:Zf}{env:Env}{outer:List Env}{L a:Zh}{cls:Ze}{Q:Unit->Zf->Prop}
theorem z3d {l:List Env}{c:List Zh}{h':Heap}{A:Ze} (j:HOk P w H s.heap) (i:∀b o,h0.get? b=Za o->∃k,s.heap.get? b=Za k) (D:s.heap.FunFrames base l) (r:H a=Zb) (B:h0.get? a=Zb) (sub:∀b∈c,b=a\/b∈frs l\/(H b=Zb/\h0.get? b=Zb/\∃o v,s.heap.get? b=Za o/\o.data=.fields v)) (Y:∀b∈frs l,b∈c) (x:Heap.LeftW (PySem.W.hideAll s.heap c) l a cls A s.heap h'):Passed (frs l) H h0 s.heap h'/\ExcF h' H h0 a cls:=by
 obtain ⟨O,K,U,X⟩:=x;obtain ⟨G,v,T,oT,F,W,⟨I,V⟩,J,R,S,ne,n,f,Q⟩:=U;have E:T ∉ frs l:=λz=>by
  obtain⟨_,o,h,d⟩:=K.mem z;rw[n] at h;ext h;exact d _ f
 have m:H T=Zb/\h0.get? T=Zb:=by
  by_cases p:T∈c
  ·rcases sub T p with z | z | z
   ·exact absurd z ne
   ·exact absurd z E
   ·exact⟨z.1,z.2.1⟩
  ·have e:=in_hide S p
   refine⟨?_,?_⟩
   ·cases q:H T with
    |none=>rfl
    | some u =>
     obtain⟨o,h⟩:=(j T u q).there;rw[e] at h;exists h
   ·cases q:h0.get? T with
    |none=>rfl
    | some o =>
     obtain⟨k,h⟩:=i T o q;rw[e] at h;exists h
 refine⟨⟨λb o g L y=>?_,λb o g M=>?_⟩,⟨⟨G,v,A,T,oT,F,W,I,J,V,R,ne,n,f,Q,m.1,m.2⟩,r,B⟩⟩
 ·refine O b o (Gj c g λz => ?_)
  rcases sub b z with q|q|⟨N,C,_⟩
  ·subst q
   rcases y with t|t
   ·exact t r
   ·exact t B
  ·exact L q
  ·rcases y with t | t
   ·exact t N
   ·exact t C
 ·obtain ⟨_,k, h,d⟩:=D.mem M
  rw[g] at h;ext h;exact X b o g d
theorem z30 (g:HOk P w H s.heap) (f:∀b o,h0.get? b=Za o->∃u,s.heap.get? b=Za u) (j:A.frames=Za (env::outer)) (k:s.heap.FunFrames base (env::outer)) (t:env.frame=Za L) (x:ExcO s.heap H h0 a cls)
  (h:∀c,Passed (frs (env::outer)) H h0 s.heap c->ExcF c H h0 a cls->Q () { s with heap:=c }):wpAny M A (leaving env (.ref a)) Q E s:=by
 obtain⟨⟨F,D,G,i,m,r,B,v⟩,l,n⟩:=x;subst m;refine wpAny_leaving_firstW (base:=PySem.W.hideAll s.heap (a::frs (env::outer))) j (PySem.W.funFrames_hide k λen i b C=>Ag _ (zea i C)) t i (λb o e=>Gq _ e) (Dz _ At) r v B λc y=>?_;obtain⟨p,q⟩:=z3d g f k l n (λb d=>(Am.mp d).elim .inl λz=>.inr (.inl z)) (λb d=>Ag _ d) y;exact h c p q
theorem z3t (i:HOk P w H s.heap) (g:∀b o,h0.get? b=Za o->∃G,s.heap.get? b=Za G) (j:A.frames=Za (env::outer)) (l:s.heap.FunFrames base (env::outer)) (C:env.frame=Za L) (x:ExcF s.heap H h0 a cls)
  (h:∀d,Passed (frs (env::outer)) H h0 s.heap d->ExcF d H h0 a cls->Q () { s with heap:=d }):wpAny M A (leaving env (.ref a)) Q E s:=by
 obtain⟨⟨y,v,R,T,oT,t,k,u,B,K,I,ne,m,c,F,N,D⟩,r,n⟩:=x;subst u;refine wpAny_leaving_nextW (base:=PySem.W.hideAll s.heap (a::T::frs (env::outer))) j (PySem.W.funFrames_hide l λen k b O=>Ag _ (Ag _ (zea k O))) C ⟨y,v,T,oT,t,k,⟨rfl,K⟩,B,I,Dz _ (Ag _ At),ne,m,c,F⟩ (λb o e=>Gq _ e) (Dz _ At) λd J=>?_;obtain⟨p,q⟩:=z3d i g l r n (λb f=>(Am.mp f).elim .inl λz=>(Am.mp z).elim (λz=>by subst z;exact .inr (.inr ⟨N,D,_,_,m,c⟩)) λz=>.inr (.inl z)) (λb f=>Ag _ (Ag _ f)) J;exact h d p q
end
theorem ExcF.mono {h h0 d:Heap}{H:Hp}{a:Zh}{cls:Ze}(x:ExcF h H h0 a cls)(k:∀b,h0.get? b=Zb->d.get? b=Zb):ExcF h H d a cls:=by
 obtain⟨⟨o,v,j,T,oT,t,r,g,i,p,m,ne,e,c,z,q,l⟩,f,n⟩:=x;exact⟨⟨o,v,j,T,oT,t,r,g,i,p,m,ne,e,c,z,q,k _ l⟩,f,k _ n⟩
theorem zrk {h h' base:Heap}:∀{l:List Env},(∀b∈frs l,∀o,h.get? b=Za o->∃s,h'.get? b=Za { o with slots:=s })->h.FunFrames base l->h'.FunFrames base l
 |[],_,_=>trivial
 | env::l,k,⟨n,⟨L,o,a,c,m,g⟩,i⟩=>by
  obtain ⟨s,e⟩:=k L (zea At a) o m;exact ⟨n,⟨L,_,a,c,e,g⟩,zrk (λb d=>k b (by
   obtain⟨en,f,j⟩:=Ds.mp d;exact zea (Ag _ f) j)) i⟩
abbrev CXR (P:Program) (w:World):CXT:=λouter H s E e b=>∃(c:Hp) (a:Zh) (cls:Ze),e=.ref a/\b.os=s.os/\AllBare b.gens/\Un (frs outer) [] H c s.heap b.heap/\HOk P w c b.heap/\ExcF b.heap c s.heap a cls/\E cls Zb c
structure XOk (X:Cx) (E:XK):Prop where
 pass:zri (CXR X.prog X.w) X E
 made:∀(pins:List (Zh×Obj)) (σ:St) (H:Hp) (s:Zf) (a:Zh) (cls:Ze),Inv X pins σ H s->ExcO s.heap H X.s₀.heap a cls->E cls Zb H->X.xe (.ref a) s
theorem zil {P:Program}{w:World}{fs:List Zh}{H:Hp}{h0 h h':Heap}(p:Passed fs H h0 h h')(a:HOk P w H h)(e:∀b∈fs,H b=Zb):HOk P w H h':=λb u q =>
 (a b u q).stay (λc v d r=>by
  have t:H c≠Zb:=by
   rcases d with rfl|d
   ·rw[q];exact λz=>nomatch z
   ·rw[d];exact λz=>nomatch z
  exact p.keep c v r (λz=>t (e c z)) (.inl t)) (λ_ r=>r) λ_ _ r=>r
section
variable {P:Program}{w:World}{K:Zg}{mg:Str->Option Ze}{base:Heap}{N:List Str}{qual:Str}{scope:Scope}{f:Zh}{cd:Ze}{A:Around}{outer:List Env}{s:Zf}{H:Hp}{E:XK}
theorem zm5 {pins:List (Zh×Obj)}{σ:St}{t H':Hp}{m s':Zf}{h':Heap}{a:Zh}{cls:Ze} (I:Inv (cxOf (CXR P w) P w K mg base N qual scope f cd A outer s H E) pins σ t m) (S:s'.os=m.os) (bare:AllBare s'.gens) (un:Un (frs (envOfC qual scope s.heap.objs.size f cd::outer)) [] t H' m.heap s'.heap) (D:HOk P w H' s'.heap)
  (p:Passed (frs (envOfC qual scope s.heap.objs.size f cd::outer)) H' s.heap s'.heap h') (x:ExcF h' H' s.heap a cls) (q:E cls Zb H'):CXR P w outer H s E (.ref a) { s' with heap:=h' }:=by
 have d:∀b∈frs outer,b∈frs (envOfC qual scope s.heap.objs.size f cd::outer):=λb h=>by
  obtain⟨en,l,r⟩:=Ds.mp h;exact zea (Ag _ l) r
 have g:∀b o,s.heap.get? b=Za o->b ∉ frs outer->b ∉ frs (envOfC qual scope s.heap.objs.size f cd::outer):=λb o e k z=>by
  obtain⟨en,l,r⟩:=Ds.mp z;rcases Am.mp l with rfl|l
  ·have:s.heap.objs.size=b:=sI r;have lt:=Ao e;rw[this] at lt;exact absurd lt (Bv _)
  ·exact k (zea l r)
 have M:∀b∈frs (envOfC qual scope s.heap.objs.size f cd::outer),H' b=Zb:=λb h=>by
  obtain⟨_,o,Q,_⟩:=I.stack.mem h;exact un.free b o Q (I.stkFree b h) (by simp)
 have c:Un (frs outer) [] H t s.heap m.heap:=I.base;have C:∀b o,s.heap.get? b=Za o->∃U,h'.get? b=Za U:=λb o e=>by
  obtain⟨G,i⟩:=c.there b o e (by simp);obtain⟨B,j⟩:=un.there b G i (by simp);by_cases h:b∈frs (envOfC qual scope s.heap.objs.size f cd::outer)
  ·obtain⟨L,v⟩:=p.slot b B j h;exact⟨_,v⟩
  ·exact⟨B,p.keep b B j h (.inr (by rw[e];exact λz=>nomatch z))⟩
 refine⟨H',a,cls,rfl,S.trans I.os,bare,⟨λb o e n k _=>?_,λb o e n F _=>?_,λb o e n _=>?_,λb o e _=>C b o e,λb J e=>un.tups b J (c.tups b J e),λb o u e=>un.frzs b o u (c.frzs b o u e),λb R e=>?_⟩,zil p D M,x,q⟩
 ·exact p.keep b o (un.keep b o (c.keep b o e n k (by simp)) (c.free b o e n (by simp)) (g b o e k) (by simp)) (g b o e k) (.inr (by rw[e];exact λz=>nomatch z))
 ·obtain⟨L,i⟩:=c.slot b o e n F (by simp);obtain⟨O,j⟩:=un.slot b _ i (c.free b o e n (by simp)) (d b F) (by simp);obtain⟨y,v⟩:=p.slot b _ j (d b F);exact⟨y,v⟩
 ·obtain⟨G,i⟩:=c.there b o e (by simp);exact un.free b G i (c.free b o e n (by simp)) (by simp)
 ·obtain⟨V,i⟩:=c.tbls b R e;obtain⟨T,j⟩:=un.tbls b _ i;exact⟨V++T,by rw[j,Array.append_assoc]⟩
theorem z68 (l:(envOfC qual scope s.heap.objs.size f cd).frame=Za s.heap.objs.size:=by rfl):XOk (cxOf (CXR P w) P w K mg base N qual scope f cd A outer s H E) E where
 pass:=λpins σ d i e y I h=>by
  obtain⟨u,a,cls,rfl,v,bare,un,c,r,q⟩:=h;have un:Un (frs (envOfC qual scope s.heap.objs.size f cd::outer)) [] d u i.heap y.heap:=un;have g:Un (frs outer) [] H d s.heap i.heap:=I.base;refine z3t (h0:=s.heap) (base:=base) (outer:=outer) c (λb o e=>?_) I.ok.frames (zrk (λb k o B=>un.slot b o B (I.stkFree b k) k (by simp)) I.stack) l (r.mono λb n=>?_) λt p x=>zm5 I v bare un c p x q
  ·obtain⟨m,j⟩:=g.there b o e (by simp);exact un.there b m j (by simp)
  ·cases z:s.heap.get? b with
   |none=>rfl
   |some o=>obtain⟨m,j⟩:=g.there b o z (by simp);rw[n] at j;exists j
 made:=λpins σ d i a cls I x q=>by
  have g:Un (frs outer) [] H d s.heap i.heap:=I.base;exact z30 (h0:=s.heap) (base:=base) (outer:=outer) I.hok (λb o e=>g.there b o e (by simp)) I.ok.frames I.stack l x λt p x=>zm5 I rfl I.bare .refl I.hok p x q
end
abbrev vmB:List Ze:=[.type "ValueError",.type "Exception",.type "BaseException",.type "object"]
abbrev vNew:String := "ValueError.__new__"
structure XCls (K:Zg) (mg:Str->Option Ze) (x:Str) (C:Zh):Prop where
 bound:mg x=Za (.ref C)
 q:PySem.W.excIn K C vmB vNew=Zd
theorem z6x {K:Zg}{N:Zh}(z:PySem.W.nsOkIn K N=Zd){h h':Heap}(a:K.In h)(b:K.In h'):h'.nsMap N=h.nsMap N:=by
 unfold PySem.W.nsOkIn at z;cases e:K.lookup N with
 |none=>rw[e] at z;exact absurd z As
 |some o=>funext n;unfold Heap.nsMap;rw[a _ _ e,b _ _ e]
theorem XCls.obj {K:Zg}{A:Str->Option Ze}{x:Str}{C:Zh} (c:XCls K A x C) {h:Heap} (p:K.In h) :
  ∃l N nm q bs hdct s sub b col V T Q D R H m,m "__init__" = Zb/\∀a:Heap,K.In a->a.get? C=Za (excClassObj nm q C N bs l hdct s sub b col V T Q D R H vNew)/\a.Ns N m/\OwnTail a vmB l:=by
 obtain⟨_,z⟩:=c;unfold PySem.W.excIn at z;cases e:K.lookup C with
 |none=>rw[e] at z;exact absurd z As
 | some o =>
  rw[e] at z;split at z
  ·rename_i M U d P
   ext P;split at z
   ·rename_i Y v i r t j X f u O
    simp only [Ae,Et,Fx] at z;obtain⟨⟨⟨⟨⟨F,J⟩,g⟩,L⟩,w⟩,S⟩:=z;subst F J;have y:d=#[i,r,t,j,Za (.builtin vNew),f]:=Array.toList_inj.mp O;have G:=PySem.W.nsMap_none_of_in p w S;obtain⟨nm,bs,W,n,B,I,s,sub,b,col,E⟩:=U;dsimp only at u g w;subst u g y;exact⟨v,n,nm,B,bs,I,s,sub,b,col,M,i,r,t,j,f,h.nsMap n,G,λa k=>⟨k _ _ e,z6x w p k ▸ Heap.Ns.of_isNs (PySem.W.isNs_of_in k w),PySem.W.tail_of_in k L⟩⟩
   ·exact absurd z As
  ·exact absurd z As
theorem z0i {h h':Heap}{H:Hp}{h0:Heap}{a:Zh}{cls:Ze}{us:List Ze} (m:h.MadeExcOf h' a cls us) (f:H a=Zb) (c:∀b o,h0.get? b=Za o->∃d,h.get? b=Za d):ExcO h' H h0 a cls:=by
 obtain⟨t,g,_,_⟩:=m.there;refine⟨⟨_,_,_,g,rfl,rfl,rfl,rfl⟩,f,?_⟩;cases q:h0.get? a with
 |none=>rfl
 | some o =>
  obtain⟨d,e⟩:=c a o q;rw[m.new] at e;exists e
section
variable {X:Cx}{E:XK}{x:Str}{C:Zh}{np cpos pos:Pos}{e:Zi}{ta:TA}
theorem ztk (Y:XOk X E) (k:X.ex=[]) (W:X.calm=Zd) (Z:Gl X x) (c:XCls X.K X.mg x C) (Q:PA X [e] ta) (f:(x==("__debug__" : Str))=Zc) (p:starEach [e] X.env=[(Zc,eval e X.env)]) :
  PS X (.Raise (Za (.Call (.Name x np) [e] [] cpos)) Zb pos) (λ_ σ H=>ta σ H λv O=>v.length<=sizeLine/\E (.ref C) Zb O):=by
 intro pins s σ H D I h;obtain ⟨G,N,nm,q,bs,hdct,z,sub,K,col,A,L,F,w,J,y,t,i,B⟩:=c.obj I.kIn;obtain ⟨hC,hN,U⟩:=B _ I.kIn;refine wpAny_Raise_call_subU (C:=C) (nm:=nm) (q:=q) (N:=N) (bs:=bs) (bm:=G) (hdct:=hdct) (sn:=z) (sub:=sub) (ab:=K) (col:=col) (dd:=A) (k0:=L) (k1:=F) (k2:=w) (k3:=J) (k5:=y) (mN:=t) PySem.F.excBase_ValueError (by decide) PySem.F.excBase_ValueError (U.hasType (by decide)) (I.ok.hd W) (by rw [p];rfl) i ?_;refine zg8 I Z c.bound ⟨rfl,?_⟩ f;have n:=Q cpos pins s σ H _ I h;rw [p] at n ⊢;refine Calls.evalArgs_plain (thn n λV M ⟨v,j,d,S,P,q2⟩=>?_);obtain ⟨l,g,T⟩:=B _ d.kIn;refine ⟨rfl,by show V.length<=_;rw [<-S.length];exact P,l,g,T,λh' a m=>?_⟩;have R:j a=Zb:=by
  cases q:j a with
  |none=>rfl
  | some u =>
   obtain⟨o,r⟩:=(d.hok a u q).there;rw[m.new] at r;exists r
 refine Y.made pins σ j { M with heap:=h' } a (.ref C) (d.kept (t':=M.toks) m.keeps) ?_ q2;exact z0i m R λb o e=>d.base.there b o e (by rw[k];simp)
end
noncomputable abbrev Msg:=List (Nat ⊕ Str)
abbrev zsi (S:Sx):List Zi->Option Msg
 |[]=>Za []
 |.Constant (.str x) _ _::e=>(zsi S e).bind λp=>Za (.inr x::p)
 |.FormattedValue (.Name x _) c Zb _::e=>if c == -1 then (S.rd x).bind λi=>(zsi S e).bind λp=>Za (.inl i::p) else Zb
 |_=>Zb
abbrev zt1 (en:En):Msg->Nat->Bool
 |[],n=>decide (n<=sizeLine)
 |.inr x::p,n=>decide (n+x.length<=sizeLine)&&zt1 en p (n+x.length)
 | .inl i::p,n=>(match en[i]? with
  |some (#v[k,0])=>decide (k.natAbs.log2<1920)
  |_=>Zc)&&(decide (n+1921<=sizeLine)&&zt1 en p (n+1921))
abbrev tMsg (K:Zg) (ps:Msg):TE:=λσ H Q=>∃F pr en,Rel K F pr en σ H/\zt1 en ps 0=Zd/\∀x:Str,Q (.str x) H
theorem zyg {X:Cx}{S:Sx}{d:Nat} (C:CxOk X S d) {pins:List (Zh×Obj)}{σ:St}{H:Hp}{F:Hp}{pr:Prt}{en:En} (R:Rel X.K F pr en σ H) {Q:Str->Zf->Prop}:∀(m:List Zi) (y:Msg) (n:Nat) (a:Str) (s:Zf),zsi S m=Za y->zt1 en y n=Zd->a.length<=n->Inv X pins σ H s->(∀out z,out.length<=sizeLine->Inv X pins σ H z->Q out z) ->
  Joins #v[2,7] X.A X.xe (evalEach m X.env) a Q s:=by
 intro m
 induction m with
 | nil =>
  intro y n a s h o l I q;ext h;exact q a s (Ci l (Ar o)) I
 | cons e m G =>
  intro y n a s h o l I q;show wpAny _ _ (eval e X.env) _ _ s;unfold zsi at h;split at h
  ·rename_i w;cases w
  ·rename_i x j p A w
   cases w;obtain⟨f,B,h⟩:=bS h;ext h;obtain⟨b,g⟩:=Bool.and_eq_true_iff.mp o;refine Calls.Constant_str ⟨x,_,rfl,?_,G f _ _ _ B g (by rw[strLen_append];symm) (I.tok _) q⟩;rw[strLen_append];have:=Ar b;symm
  ·rename_i x V c p A w
   cases w;split at h
   ·rename_i M
    obtain⟨i,U,h⟩:=bS h;obtain⟨f,B,h⟩:=bS h;ext h;obtain⟨b,g⟩:=Bool.and_eq_true_iff.mp o;obtain⟨g,L⟩:=Bool.and_eq_true_iff.mp g;obtain rfl:=Bl M;have g:=Ar g;split at b
    ·rename_i k K
     have b:=Ar b;obtain⟨v,T,O⟩:=R.val i _ K;cases O;refine wpAny_FormattedValue_plain (thn (zox C U pins s σ H (λD E=>D=.int k/\E=H) I ⟨_,T,rfl,rfl⟩) λu z ⟨D,E,N,r,P,J⟩=>?_);subst P J;obtain⟨t,rfl⟩:=r;have lt:=int_text_length_le (k:=1920) #v[0,9] b;refine wpAny_formatField_int b ⟨_,_,rfl,?_,G f _ _ _ B L ?_ (N.tok _) q⟩
     ·rw[strLen_append,PySem.ofString_length];symm
     ·rw[strLen_append,PySem.ofString_length];symm
    ·cases b
   ·exists h
  ·exists h
theorem ya8 {X:Cx}{S:Sx}{d:Nat}(C:CxOk X S d){v1 v2:Zi}{vs:List Zi}{ps:Msg}{pos:Pos}(h:zsi S (v1::v2::vs)=Za ps):PE X (.JoinedStr (v1::v2::vs) pos) (tMsg X.K ps):=by
 intro pins s σ H Q I ⟨F,pr,en,R,o,q⟩;refine wpAny_JoinedStr (zyg C R _ ps 0 _ s h o (Nat.le_of_eq rfl) I λout b l a=>⟨l,.str out,H,a.tok _,⟨_,rfl⟩,q out⟩)
inductive FlX where
 |fl (f:Fl)|xc (c:Str)
noncomputable abbrev GX:=En->Option (En×FlX)
abbrev endX (K:Zg) (m:Str->Option Ze) (E:XK) (mp:List Nat) (F:Hp) (pr:Prt) (σ:St) (D:Ends) (en':En):FlX->Prop
 |.fl f=>zrv K mp F pr σ D en' f
 |.xc c=>∃C,m c=Za (.ref C)/\∀b a H,Same F b->Rel K b pr en' a H->Keep mp σ a->E (.ref C) Zb H
abbrev tX (K:Zg) (m:Str->Option Ze) (E:XK) (mp:List Nat) (g:GX):TS:=λD σ H=>∃F pr en e fl,Rel K F pr en σ H/\g en=Za (e,fl)/\endX K m E mp F pr σ D e fl
theorem endX.step {K:Zg}{m:Str->Option Ze}{E:XK}{mp:List Nat}{F b:Hp}{pr:Prt}{σ σ1:St}{D:Ends}{en':En}{fl:FlX} (s:Same F b) (k:Keep mp σ σ1) (h:endX K m E mp F pr σ D en' fl):endX K m E mp b pr σ1 D en' fl:=by
 cases fl with
 |fl f=>exact zrv.step s k h
 | xc c =>
  obtain⟨C,j,d⟩:=h;exact⟨C,j,λe a H i R g=>d e a H (s.trans i) R (k.trans g)⟩
abbrev gPl (g:GS):GX:=λen=>(g en).bind λp=>Za (p.1,.fl p.2)
abbrev gRs (g:GE) (c:Str):GX:=λen=>(g en).bind λp=>Za (p.1,.xc c)
abbrev gRm (ps:Msg) (c:Str):GX:=λen=>if zt1 en ps 0 then Za (en,.xc c) else Zb
abbrev gIfX (c:GT) (a b:GX):GX:=λen=>match c en with
 |#v[e,5]=>a e
 |#v[e,6]=>b e
 |none=>Zb
abbrev gSqX (a b:GX):GX:=λen=>match a en with
 |some (e,.fl .nx)=>b e
 |some (e,f)=>Za (e,f)
 |none=>Zb
section
variable {K:Zg}{mg:Str->Option Ze}{E:XK}{mp:List Nat}{D:Ends}{σ:St}{H:Hp}
theorem zt5 {g:GS}(h:tX K mg E mp (gPl g) D σ H):tS K mp g D σ H:=by
 obtain⟨F,pr,en,a,fl,R,h,q⟩:=h;obtain⟨⟨e,f⟩,b,h⟩:=bS h;cases h;exact⟨F,pr,en,e,f,R,b,q⟩
theorem z6i {g:GE}{c:Str}{C:Zh}(k:mg c=Za (.ref C))(h:tX K mg E mp (gRs g c) D σ H):tE K g σ H λ_ a=>E (.ref C) Zb a:=by
 obtain⟨F,pr,en,j,fl,R,h,q⟩:=h;obtain⟨⟨b,r⟩,l,h⟩:=bS h;cases h;obtain⟨m,e,q⟩:=q;rw[k] at e;cases e;exact⟨F,pr,en,b,r,R,l,λi d v s f _=>q i σ d s f (.refl _ _)⟩
theorem z6e {ps:Msg}{c:Str}{C:Zh}(d:mg c=Za (.ref C))(h:tX K mg E mp (gRm ps c) D σ H):tMsg K ps σ H λ_ a=>E (.ref C) Zb a:=by
 obtain⟨F,pr,en,b,fl,R,h,q⟩:=h;unfold gRm at h;split at h
 ·rename_i o;cases h;obtain⟨f,e,q⟩:=q;rw[d] at e;cases e;exact⟨F,pr,en,R,o,λ_=>q F σ H (.refl F) R (.refl _ _)⟩
 ·exists h
theorem z2d {c:GT}{a b:GX} (h:tX K mg E mp (gIfX c a b) D σ H):tIfS (tT K c) (tX K mg E mp a) (tX K mg E mp b) D σ H:=by
 nofun;obtain⟨F,pr,en,f,fl,R,h,q⟩:=h;ac_rfl;unfold gIfX at h;cases e:c en with
 |none=>simp only [e] at h;exists h
 | some p =>
  obtain⟨g,d⟩:=p;refine⟨F,pr,en,g,d,R,e,λj k s i=>?_⟩;cases d with
  |true=>simp only [e] at h;exact iteT ⟨j,pr,g,f,fl,i,h,q.step s (.refl _ _)⟩
  |false=>simp only [e] at h;exact iteF ⟨j,pr,g,f,fl,i,h,q.step s (.refl _ _)⟩
theorem z0c {a b:GX} (h:tX K mg E mp (gSqX a b) D σ H):tSeq (tX K mg E mp a) (tX K mg E mp b) D σ H:=by
 nofun;obtain⟨F,pr,en,d,fl,R,h,q⟩:=h;ac_rfl;unfold gSqX at h;cases e:a en with
 |none=>simp only [e] at h;exists h
 | some p =>
  obtain⟨g,i⟩:=p;refine⟨F,pr,en,g,i,R,e,?_⟩;cases i with
  | fl f =>
   cases f with
   | nx =>
    simp only [e] at h;exact λl σ1 m s j k=>⟨l,pr,g,d,fl,j,h,q.step s k⟩
   |brk=>simp only [e] at h;cases h;exact q
   |cnt=>simp only [e] at h;cases h;exact q
   |ret r=>simp only [e] at h;cases h;exact q
  |xc c=>simp only [e] at h;cases h;exact q
end
abbrev blkX (f:Sx->Stmt->Option GX) (S:Sx):List Stmt->Option GX
 |[]=>Za (gPl zbx)
 | c::s=>match s with
  |[]=>f S c
  |_::_=>(f S c).bind λa=>(blkX f S s).bind λb=>Za (gSqX a b)
abbrev rsE (fE:Sx->Zi->Option GE) (S:Sx) (e:Zi) (c:Str):Option GX:=match e with
 |.JoinedStr (a::b::v) _=>(zsi S (a::b::v)).bind λp=>Za (gRm p c)
 |e=>if zaj e then (fE S e).bind λg=>Za (gRs g c) else Zb
abbrev rsS (fE:Sx->Zi->Option GE) (S:Sx) (c:List Str) (st:Stmt):Option GX:=match st with
 |.Raise (Za (.Call (.Name x _) [e] [] _)) Zb _=>if c.contains x&&S.kd.lookup x==Za .globalImplicit && !(x==("__debug__" : Str)) then rsE fE S e x else Zb
 |_=>Zb
abbrev zv6 (fS:Sx->Stmt->Option GS) (fE:Sx->Zi->Option GE) (fT:Sx->Zi->Option GT) (d:List Str):Nat->Sx->Stmt->Option GX
 |0,S,s=>(fS S s).bind λg=>Za (gPl g)
 | n+1,S,s=>match s with
  |.If c a b _=>(fT S c).bind λt=>(blkX (zv6 fS fE fT d n) S a).bind λx=>(blkX (zv6 fS fE fT d n) S b).bind λy=>Za (gIfX t x y)
  |.Raise ..=>rsS fE S d s
  |s=>(fS S s).bind λg=>Za (gPl g)
theorem PS.nox {X:Cx}{st:Stmt}{t:TS}(h:PS X.nox st t):PS X st t:=λpins s σ H D I a =>
 Bw (h pins s σ H D (I.wish _) a) (λ_ _ q=>q.unwish) λ_ _ z=>False.elim z
section
variable {X:Cx}{S:Sx}{d:Nat}{E:XK}{cs:List Str}{fS:Sx->Stmt->Option GS}{fE:Sx->Zi->Option GE}{fT:Sx->Zi->Option GT}
theorem zj0 {f:Sx->Stmt->Option GX} (HS:∀c g,f S c=Za g->PS X c (tX X.K X.mg E S.mp g)):∀{s:List Stmt}{g:GX},blkX f S s=Za g->PSs X s (tX X.K X.mg E S.mp g)
 |[],_,h=>by ext h;exact zo8.wk λ_ _ _ h=>zg4 (zt5 h)
 |[c],_,h=>pss_one (HS _ _ h)
 | c::i::s,_,h=>by
  obtain⟨a,e,h⟩:=bS (show (f S c).bind _=_ from h);obtain⟨b,d,h⟩:=bS h;ext h;exact (zcc (HS _ _ e) (zj0 HS d)).wk λ_ _ _=>z0c
theorem yb4 (B:zbp fE)(C:CxOk X.nox S d)(A:XOk X E)(j:X.ex=[])(p:X.calm=Zd){x:Str}{a:Zh}(G:Gl X x)(b:XCls X.K X.mg x a)(f:(x==("__debug__" : Str))=Zc){l cpos pos:Pos}{e:Zi}{g:GX}(h:rsE fE S e x=Za g):PS X (.Raise (Za (.Call (.Name x l) [e] [] cpos)) Zb pos) (tX X.K X.mg E S.mp g):=by
 have one:∀{t:TE},PE X e t->zaj e=Zd->(∀D σ H,tX X.K X.mg E S.mp g D σ H->t σ H λ_ m=>E (.ref a) Zb m)->(∀σ H Q c,(∀v H,Q v H->c v H)->t σ H Q->t σ H c)->PS X (.Raise (Za (.Call (.Name x l) [e] [] cpos)) Zb pos) (tX X.K X.mg E S.mp g):=λ{t} L n rd mono pins s σ H D I q=>by
  refine ztk A j p G b (zal L za9 (zag n)) f (zag n) pins s σ H D I ?_;exact mono σ H _ _ (λv m z=>⟨show 1<=sizeLine by decide,z⟩) (rd D σ H q)
 unfold rsE at h;split at h
 ·obtain⟨N,i,h⟩:=bS h;ext h;exact one (PE.nox (ya8 C i)) rfl (λD σ H=>z6e b.bound) λσ H Q c w ⟨F,pr,en,R,o,q⟩=>⟨F,pr,en,R,o,λx=>w _ _ (q x)⟩
 ·split at h
  ·rename_i n;obtain⟨M,i,h⟩:=bS h;ext h;exact one (PE.nox (B X.nox S d C _ _ i)) n (λD σ H=>z6i b.bound) λσ H Q c w ⟨F,pr,en,k,r,R,o,q⟩=>⟨F,pr,en,k,r,R,o,λJ u v K y z=>w _ _ (q J u v K y z)⟩
  ·exists h
theorem z1f (HS:ztd fS) (H:zbp fE) (HT:zi0 fT) (C:CxOk X.nox S d) (r:XOk X E) (c:X.ex=[]) (q:X.calm=Zd) (f:∀x∈cs,∃a,XCls X.K X.mg x a):∀(n:Nat) (s:Stmt) (g:GX),zv6 fS fE fT cs n S s=Za g->PS X s (tX X.K X.mg E S.mp g):=by
 have l:∀{s:Stmt}{g:GX},((fS S s).bind λg=>Za (gPl g))=Za g->PS X s (tX X.K X.mg E S.mp g):=λ{s g} h=>by
  obtain⟨B,b,h⟩:=bS h;ext h;exact (PS.nox (HS X.nox S d C _ _ b)).wk λ_ _ _=>zt5
 intro n
 induction n with
 |zero=>exact λs g h=>l h
 | succ n i =>
  intro s g h;unfold zv6 at h;split at h
  ·obtain ⟨t,b,h⟩:=bS h
   obtain⟨x,o,h⟩:=bS h;obtain⟨y,j,h⟩:=bS h;ext h;exact (z63 (PT.nox (HT X.nox S d C _ _ b)) (zj0 i o) (zj0 i j)).wk λ_ _ _=>z2d
  ·unfold rsS at h
   split at h
   ·rename_i x w e D A p
    cases p;split at h
    ·rename_i z
     simp only [Ae,Fx,Et] at z;obtain⟨⟨v,m⟩,u⟩:=z;obtain⟨a,k⟩:=f x (List.contains_iff_mem.mp v);exact yb4 H C r c q (C.gl x m) k (by simpa using u) h
    ·exists h
   ·exists h
  ·exact l h
end
noncomputable abbrev FnX:=List W->Option ((List W×(W×Bool)) ⊕ (Str×List W))
abbrev zc7 (m:List Bool) (n:Nat) (g:GX):FnX:=λa=>if a.length=m.length then match g (zau m a++List.replicate (n-m.length) Zb) with
 |some (en,.fl (.ret r))=>(outsW m a en).bind λw=>Za (.inl (w,r))
 |some (en,.fl .nx)=>(outsW m a en).bind λw=>Za (.inl (w,(.non,Zc)))
 |some (en,.xc c)=>(outsW m a en).bind λw=>Za (.inr (c,w))
 |_=>Zb else Zb
abbrev FnX.back (Φ:FnX):Fn:=λw=>match Φ w with
 |some (.inl p)=>Za p
 |_=>Zb
abbrev FnX.exc (Φ:FnX) (c:Str):Fn:=λw=>match Φ w with
 |some (.inr p)=>if p.1=c then Za (p.2,(.non,Zc)) else Zb
 |_=>Zb
abbrev spX (K:Zg) (a:Str->Option Ze) (m:List Bool) (Φ:FnX):Sp:=λv H Q E=>spF K m Φ.back v H Q E\/∃c C,a c=Za (.ref C)/\spF K m (Φ.exc c) v H (λ_ b=>E (.ref C) Zb b) E
theorem z6p {K:Zg}{a:Str->Option Ze}{m:List Bool}{Φ:FnX}{vs:List V}{H:Hp}{Q:VK}{E:XK}(h:spX K a m Φ vs H Q E):vs.length=m.length:=by
 rcases h with h|⟨_,_,_,h⟩
 ·exact zhb h
 ·exact zhb h
abbrev gBk (g:GX):GS:=λen=>match g en with
 |some (e,.fl f)=>Za (e,f)
 |_=>Zb
abbrev gEx (g:GX) (c:Str):GS:=λen=>match g en with
 |some (e,.xc a)=>if a=c then Za (e,.nx) else Zb
 |_=>Zb
theorem back_sem (m:List Bool) (n:Nat) (g:GX):(zc7 m n g).back=zaf m n (gBk g):=by
 funext ws
 unfold FnX.back zc7 zaf gBk;by_cases h:ws.length=m.length
 ·rw [if_pos h,if_pos h]
  cases g (zau m ws++List.replicate (n-m.length) Zb) with
  |none=>rfl
  | some p =>
   obtain⟨en,f⟩:=p;cases f with
   | fl f =>
    cases f with
    |nx=>dsimp only;cases outsW m ws en<;>rfl
    |ret r=>dsimp only;cases outsW m ws en<;>rfl
    |brk=>rfl
    |cnt=>rfl
   |xc c=>dsimp only;cases outsW m ws en<;>rfl
 ·rw[if_neg h,if_neg h]
theorem exc_sem (m:List Bool) (n:Nat) (g:GX) (c:Str):(zc7 m n g).exc c=zaf m n (gEx g c):=by
 funext ws
 unfold FnX.exc zc7 zaf gEx;by_cases h:ws.length=m.length
 ·rw [if_pos h,if_pos h]
  cases g (zau m ws++List.replicate (n-m.length) Zb) with
  |none=>rfl
  | some p =>
   obtain⟨en,f⟩:=p;cases f with
   | fl f =>
    cases f with
    |nx=>dsimp only;cases outsW m ws en<;>rfl
    |ret r=>dsimp only;cases outsW m ws en<;>rfl
    |brk=>rfl
    |cnt=>rfl
   | xc b =>
    dsimp only;by_cases a:b=c
    ·rw [if_pos a];dsimp only;cases outsW m ws en with
     |none=>rfl
     |some w=>exact if_pos a
    ·rw [if_neg a];dsimp only;cases outsW m ws en with
     |none=>rfl
     |some w=>exact if_neg a
 ·rw[if_neg h,if_neg h]
theorem z1m {K:Zg}{j:Str->Option Ze}{m:List Bool}{N:List Str}{g:GX}{vs:List V}{H:Hp}{Q:VK}{E:XK}(h:spX K j m (zc7 m N.length g) vs H Q E):tX K j E (mpOf m) g { nx:=λ_ k=>Q .non k,rt:=Q } (start N vs) H:=by
 rcases h with h|⟨c,C,n,h⟩
 ·rw[back_sem] at h;obtain⟨F,pr,en,a,fl,R,e,q⟩:=zgq h;unfold gBk at e;split at e
  ·rename_i i f b;cases e;exact⟨F,pr,en,a,.fl fl,R,b,q⟩
  ·exists e
 ·rw[exc_sem] at h;obtain⟨F,pr,en,a,fl,R,e,q⟩:=zgq h;unfold gEx at e;split at e
  ·rename_i i l b;split at e
   ·rename_i d;subst d;cases e;exact⟨F,pr,en,a,.xc l,R,b,C,n,q⟩
   ·exists e
  ·exists e
theorem Fun.okX {CX:CXT}{P:Program}{w:World}{K:Zg}{m:Str->Option Ze}{base:Heap}{x qual:Str}{st:Stmt}{f:Zh}{a:FuncData}{N ps:List Str}{k:Nat}{sp:Sp} (F:Fun K x qual st f a) (S:FnScope N ps (zad st)) (len:∀v H Q E,sp v H Q E->v.length=ps.length)
  (h:∀(A:Around) (outer:List Env) (s:Zf) (H:Hp) (v:List V) (Q:VK) (E:XK),(Room k (A.deeper (envOfC qual (zad st) s.heap.objs.size f a.code))/\Room (k+1) A)->sp v H Q E ->
   ∃t,PSs (cxOf CX P w K m base N qual (zad st) f a.code A outer s H E) (zbh st) t/\t { nx:=λ_ e=>Q .non e,rt:=Q } (start N v) H):FnOk P w K m base CX (k+1) f a ps sp:=by
 nofun;obtain⟨j,o,kV,doc,p,i,cdv,g,osl,rfl,l,b⟩:=F.ex;ac_rfl;exact yb7 l b S len λA outer s H v Q E d c=>h A outer s H v Q E d c
section
variable {P:Program}{w:World}{K:Zg}{mg:Str->Option Ze}{base:Heap}{T:List Fd}{bn:List Str}
abbrev zf2 (P:Program) (w:World) (K:Zg) (mg:Str->Option Ze) (base:Heap) (T:List Fd) (d:Nat) (Ψ:Str->Fn):Prop:=∀u∈T,∀f a,Fun K u.nm u.nm u.st f a->mg u.nm=Za (.ref f)->FnOk P w K mg base CX0 d f a u.ps (spF K u.m (Ψ u.nm))
theorem zpe {CX:CXT}{Ψ:Str->Fn} (ok:∀t∈T,FdOk K mg t) (z:∀x∈bn,mg x=Zb) (p:K.In base) (nb:base.Ns mainGlobals mg) (b:("g SIGNS" : Str)∈bn->∃t,mg "SIGNS" = Za (.str "abcdef" t))
 {d:Nat} (a:zf2 P w K mg base T d Ψ) {t:Fd} (o:FdOk K mg t) {f:Zh}{g:FuncData} (F:Fun K t.nm t.nm t.st f g) (M:mg t.nm=Za (.ref f)) {A:Around}{outer:List Env}{s:Zf}{H:Hp}{E:XK} (l:Room d (A.deeper (envOfC t.nm (zad t.st) s.heap.objs.size f g.code))/\Room (d+1) A) :
 CxOk (cxOf CX P w K mg base t.N t.nm (zad t.st) f g.code A outer s H E).nox (sxOf T bn Ψ d t) d:={
  N:=rfl
  nd:=o.sc.nd
  loc:=λx e=>e
  cel:=λx e=>⟨e,rfl⟩
  vis:=λx e=>e
  gl:=λx e=>e
  calm:=rfl
  xe:=rfl
  bn:=z
  fs:=λx m Φ e=>by
   nofun;obtain⟨u,i,r,y,B⟩:=zr7 e;ac_rfl;subst r y B;nofun;obtain⟨k,n,v,G,j⟩:=(ok u i).ex;ac_rfl;exact⟨u.ps,(ok u i).m.symm,⟨k,n,a u i k n v j,G,v.kp,j⟩⟩
  room:=l.1
  sl:=by have:=l.2.un;show A.units+3+16*d+205<cLine;symm
  dpo:=Af _
  sg:=b
  lam:=λh=>by
   have q:=o.lam h;unfold zys at q;split at q
   ·rename_i c C e;refine⟨c,C,e,q,?_,rfl⟩;nofun;obtain⟨R,J,kV,doc,L,Q,cdv,O,osl,r,I,D⟩:=F.ex;ac_rfl;exact PySem.W.law_code p nb e M (p _ _ I) rfl
   ·cases q
  bk:=by
   show (if (zad t.st).kind.isAnnotationScope then ScopeKind.function else (zad t.st).kind)=.function;rw[o.sc.kind];rfl }
abbrev zny (T:List Fd) (bn c:List Str) (Ψ:Str->Fn) (d:Nat) (t:Fd):Option GX:=blkX (zv6 (zrr deep) (compE deep) (compT deep) c 4) (sxOf T bn Ψ d t) (zbh t.st)
theorem zzg {j:List Str}{Ψ:Str->Fn} (ok:∀t∈T,FdOk K mg t) (m:∀x∈bn,mg x=Zb) (n:K.In base) (nb:base.Ns mainGlobals mg) (c:("g SIGNS" : Str)∈bn->∃t,mg "SIGNS" = Za (.str "abcdef" t)) (i:∀x∈j,∃a,XCls K mg x a)
  {d:Nat} (b:zf2 P w K mg base T d Ψ) {t:Fd} (o:FdOk K mg t) {f:Zh}{l:FuncData} (F:Fun K t.nm t.nm t.st f l) (M:mg t.nm=Za (.ref f)) {g:GX} (e:zny T bn j Ψ d t=Za g) :
  FnOk P w K mg base (CXR P w) (d+1) f l t.ps (spX K mg t.m (zc7 t.m t.N.length g)) :=
 F.okX (CX:=CXR P w) (k:=d) o.sc (λv H Q E h=>(z6p h).trans o.m) λA outer s H v Q E p h =>
  ⟨_,zj0 (z1f (zfa deep) (zcm deep).1 (zcm deep).2 (zpe ok m n nb c b o F M p) z68 rfl rfl i 4) e,z1m h⟩
noncomputable abbrev Ovr:=(Str->Fn)->Nat->Str->Option Fn
abbrev sem2 (T:List Fd) (bn:List Str) (O:Ovr):Nat->Str->Fn
 |0,_=>λ_=>Zb
 |1,_=>λ_=>Zb
 | d+2,x=>match O (sem2 T bn O d) d x with
  |some Φ=>Φ
  | none=>match T.find? (·.nm==x) with
   |some t=>fnAt T bn (sem2 T bn O (d+1)) (d+1) t
   |none=>λ_=>Zb
theorem zok {f:Zh}{a:FuncData}{k:Nat}{ps:List Str}{m:List Bool}:FnOk P w K mg base CX0 k f a ps (spF K m λ_=>Zb) :=
 ⟨λv H Q E h=>(by obtain⟨_,_,_,_,_,_,_,_,h,_⟩:=h;cases h),λA outer s H args u v Q E d e b c h=>(by obtain⟨_,_,_,_,_,_,_,_,h,_⟩:=h;cases h)⟩
theorem yct {Ψ:Str->Fn} (ok:∀t∈T,FdOk K mg t) (i:∀x∈bn,mg x=Zb) (j:K.In base) (nb:base.Ns mainGlobals mg) (b:("g SIGNS" : Str)∈bn->∃t,mg "SIGNS" = Za (.str "abcdef" t))
  {d:Nat} (a:zf2 P w K mg base T d Ψ) {t:Fd} (o:FdOk K mg t) {f:Zh}{c:FuncData} (F:Fun K t.nm t.nm t.st f c) (M:mg t.nm=Za (.ref f)):FnOk P w K mg base CX0 (d+1) f c t.ps (spF K t.m (fnAt T bn Ψ d t)):=by
 unfold fnAt;cases e:zao T bn Ψ d t with
 |none=>exact zok
 | some g =>
  refine F.okC (k:=d) o.sc (λv H Q E h=>(zhb h).trans o.m) (λA outer s H v Q E l h=>?_);exact⟨_,zkf (zfa deep) (zpe ok i j nb b a o F M l) e,zgq h⟩
theorem zqo {O:Ovr} (n:(T.map (·.nm)).Nodup) (ok:∀t∈T,FdOk K mg t) (g:∀x∈bn,mg x=Zb) (k:K.In base) (nb:base.Ns mainGlobals mg) (h:("g SIGNS" : Str)∈bn->∃t,mg "SIGNS" = Za (.str "abcdef" t))
  (c:∀(d:Nat) (Ψ:Str->Fn),zf2 P w K mg base T d Ψ->∀t∈T,∀Φ,O Ψ d t.nm=Za Φ->∀f a,Fun K t.nm t.nm t.st f a->mg t.nm=Za (.ref f)->FnOk P w K mg base CX0 (d+2) f a t.ps (spF K t.m Φ)) :
  ∀d:Nat,zf2 P w K mg base T d (sem2 T bn O d)/\zf2 P w K mg base T (d+1) (sem2 T bn O (d+1))
 |0=>⟨λu _ f a _ _=>zok,λu _ f a _ _=>zok⟩
 | d+1=>by
  obtain ⟨j,i⟩:=zqo n ok g k nb h c d;refine ⟨i,λt b f a F M=>?_⟩;show FnOk P w K mg base CX0 (d+2) f a t.ps (spF K t.m (match O (sem2 T bn O d) d t.nm with
   |some Φ=>Φ
   | none=>match T.find? (·.nm==t.nm) with
    |some t=>fnAt T bn (sem2 T bn O (d+1)) (d+1) t
    |none=>λ_=>Zb))
  cases e:O (sem2 T bn O d) d t.nm with
  |some Φ=>exact c d _ j t b Φ e f a F M
  | none =>
   rw[zo1 n b];exact yct ok g k nb h i (ok t b) F M
end
section
variable {M:Model}{A:Around}{E:Ze->Zf->Prop}
variable {nm q nm' q' : Str}{C N C' N' : Zh}{bs bm bs' bm' : List Ze}{hdct hdct' : Bool}{sn sn' : List Str}{sub sub' : List Ze}{ab ab' : Bool}{col col' : Option Bool}{dd dd' : Option Zh}{k0 k1 k2 k3 k5 k0' k1' k2' k3' k5' : Option Ze}{newId newId' : String}
theorem ztx {h:Heap}{g:Array GenState}{d:Drawn}{t:Nat}{k:OsState}{e:Zh}{o:Obj}{Q:Bool->Zf->Prop}
  (m:h.get? C=Za (excClassObj nm q C N bs bm hdct sn sub ab col dd k0 k1 k2 k3 k5 newId)) (c:h.get? C'=Za (excClassObj nm' q' C' N' bs' bm' hdct' sn' sub' ab' col' dd' k0' k1' k2' k3' k5' newId')) (p:h.get? e=Za o) (i:o.cls=.ref C) (a:bm'.contains (.type "BaseException")=Zd) {b:Bool} (n:(Ze.ref C::bm).contains (.ref C')=b)
  (l:Q b ⟨h,g,d,t,k⟩):wpAny M A (excMatches (.ref e) (.ref C')) Q E ⟨h,g,d,t,k⟩:=by
 have j:(Ze.ref C'::bm').contains (.type "BaseException")=Zd:=by rw[List.contains_cons,a,Bool.or_true]
 have f:=tc_notTuple;unfold excMatches
 repeat (first|(with_reducible refine Ef p ?_;rw[i])|with_reducible refine Ef c ?_|(with_reducible refine Gz c ?_;rw[j])|(with_reducible refine Gz m ?_;rw[n])|wp_step)
 cases b<;>(wp_walk;exact l)
end
abbrev subIn (K:Zg) (C a:Zh):Bool:=match K.lookup C with
 |some ⟨_,_,.cls c,_⟩=>c.mro.contains (.ref a)
 |_=>Zc
theorem z5b {fs:List Zh}{H c:Hp}{h0 h h':Heap}(u:Un fs [] H c h0 h)(p:Passed fs c h0 h h'):Un fs [] H c h0 h' where
 keep b o e n nb x:=p.keep b o (u.keep b o e n nb x) nb (.inr (by rw[e];exact λz=>nomatch z))
 slot b o e n mb x:=by
  obtain⟨i,a⟩:=u.slot b o e n mb x;obtain⟨s,d⟩:=p.slot b _ a mb;exact⟨s,d⟩
 free:=u.free
 there b o e x:=by
  obtain⟨f,a⟩:=u.there b o e x;by_cases g:b∈fs
  ·obtain⟨i,d⟩:=p.slot b f a g;exact⟨_,d⟩
  ·exact⟨f,p.keep b f a g (.inr (by rw[e];exact λz=>nomatch z))⟩
 tups:=u.tups
 frzs:=u.frzs
 tbls:=u.tbls
theorem zzt {l:List Env}{c h0 h h':Heap}{H:Hp}{a T:Zh}(g:h.FunFrames c l)(st:(PySem.W.hideAll h (a::T::frs l)).StaysIn h')(u:h.UpToSlots h')(i:H a=Zb)(na:h0.get? a=Zb)(fT:H T=Zb)(n:h0.get? T=Zb):Passed (frs l) H h0 h h' where
 keep b o e nb t:=st b o (Gj _ e λz=>by
  rcases Am.mp z with rfl|z
  ·rcases t with t|t
   ·exact t i
   ·exact t na
  ·rcases Am.mp z with rfl|z
   ·rcases t with t|t
    ·exact t fT
    ·exact t n
   ·exact nb z)
 slot b o e mb:=by
  obtain⟨_,j,f,d⟩:=g.mem mb;rw[e] at f;ext f;exact u b o e d
abbrev zc3 (a C:Zh):HO:=.ext λh=>∃o,h.get? a=Za o/\o.cls=.ref C
theorem z5r {P:Program}{w:World}{H:Hp}{h:Heap}{a C:Zh}(x:HOk P w H h)(j:H a=Zb)(e:∃o,h.get? a=Za o/\o.cls=.ref C):HOk P w (upd H a (zc3 a C)) h:=λb u q=>by
 by_cases i:b=a
 ·subst i;rw[upd_same] at q;ext q;obtain⟨o,d,f⟩:=e;exact⟨⟨o,d,f⟩,⟨o,d⟩,λn l ⟨o,d,f⟩ k=>⟨o,k o d,f⟩⟩
 ·rw [upd_ne i] at q;have ne:∀c v,H c=Za v->upd H a (zc3 a C) c=Za v:=λc v g=>by
   rw[upd_ne λz=>by subst z;rw[j] at g;exists g];exact g
  exact (x b u q).stay (λ_ _ _ r=>r) (λc=>ne c _) λc m=>ne c _
theorem yb9 {fs:List Zh}{H d:Hp}{h0 h:Heap}{a C:Zh}(u:Un fs [] H d h0 h)(na:h0.get? a=Zb)(g:d a=Zb):Un fs [] H (upd d a (zc3 a C)) h0 h:=by
 have ne:∀c v,d c=Za v->upd d a (zc3 a C) c=Za v:=λc v f=>by
  rw[upd_ne λz=>by subst z;rw[g] at f;exists f];exact f
 exact { keep:=u.keep,slot:=u.slot,there:=u.there,free:=λb o e n x=>by rw[upd_ne λz=>by subst z;rw[na] at e;exists e];exact u.free b o e n x,tups:=λb k e=>ne _ _ (u.tups b k e),frzs:=λb o j e=>ne _ _ (u.frzs b o j e),tbls:=λb p e=>by obtain⟨m,i⟩:=u.tbls b p e;exact⟨m,ne _ _ i⟩}
section
variable {X:Cx}{pins:List (Zh × Obj)}{σ:St}{H:Hp}{s:Zf}
theorem zs9 {M:Model}{A:Around}{E:Ze->Zf->Prop}{i:Nat}{n:Str}{pos:Pos}{Q:Unit->Zf->Prop} (I:Inv X pins σ H s) (V:X.N.Nodup) (Y:X.N[i]?=Za n) (R:X.env.kindOf n=Za .local)
  (h:∀C,Inv X pins (σ.set i Zb) H C->Q () C):wpAny M A (do bindName X.env n .none;unbindBehindTheSuite X.env n pos) Q E s:=by
 obtain⟨m,F,w⟩:=id I.loc;have l:(X.env.scope.kind == .class || (X.env.scope.kind == .module && X.env.locals != X.env.globals))=Zc:=by rw[I.ok.kind];rfl
 have cne:=I.cne;obtain⟨oL,_,_,T,_⟩:=id F;refine wpAny_nameGoes_keeps R F l λZ v B a=>?_;have x:HOk X.prog X.w H Z:=λb W e=>by
  refine (I.hok b W e).stay (λc D t q=>(a.2 c ?_).trans q) (λ_ q=>q) λ_ _ q=>q;rintro rfl;rcases t with rfl|t
  ·rw[I.free] at e;cases e
  ·rw[I.free] at t;cases t
 refine h _ ⟨I.ok,I.os,I.bare,⟨λb o e n u r=>?_,λb o e n u r=>?_,I.base.free,λb o e r=>?_,I.base.tups,I.base.frzs,I.base.tbls⟩,⟨_,B,λj y P g f L=>?_⟩,λy c e=>?_,I.free,I.freeC,λp S=>?_,x,by simpa using I.len⟩
 ·exact (a.2 b (Bb (Az (Ao e) I.ok.above))).trans (I.base.keep b o e n u r)
 ·obtain⟨J,g⟩:=I.base.slot b o e n u r;exact⟨J,(a.2 b (Bb (Az (Ao e) I.ok.above))).trans g⟩
 ·obtain⟨U, g⟩:=I.base.there b o e r;exact⟨U,(a.2 b (Bb (Az (Ao e) I.ok.above))).trans g⟩
 ·have G:j≠i:=fun z=>by
   subst z;by_cases w:j<σ.length
   ·rw[Bn w] at f;cases f
   ·rw[Bp (by rw[Bq];symm)] at f;cases f
  rw[Bt (Ne.symm G)] at f;obtain⟨O,K,q⟩:=w j y P g f L;refine⟨O,K,?_⟩;rcases q with⟨k,e⟩|⟨k,c,e,z⟩
  ·refine .inl ⟨k, ?_⟩;have:y≠n:=λe=>G (zjv V g (e ▸ Y));simp [this,e]
  ·exact .inr ⟨k,c,e,z.sameBut a (cne y c e)⟩
 ·obtain⟨D, z⟩:=I.cell y c e;exact⟨D,z.sameBut a (cne y c e)⟩
 ·obtain⟨e,n,ne,N,d⟩:=I.pin p S;exact⟨(a.2 p.1 ne).trans e,n,ne,N,d⟩
end
noncomputable abbrev Cx.hdl (X:Cx) (a:Zh):Cx:={ X with A:=X.A.mark (Za (.ref a)),calm:=Zc,xe:=λ_ _=>False }
theorem Cx.Ok.hdl {X:Cx}(ok:X.Ok)(a:Zh):(X.hdl a).Ok :=
 ⟨ok.mod,ok.kind,ok.glob,ok.blt,ok.above,ok.inj,ok.has,ok.cab,(λz=>nomatch z),ok.frames,ok.stk,ok.exf,ok.bs,ok.bsz,ok.noex,ok.exfs,ok.funs,ok.frf⟩
section
variable {X:Cx}{pins:List (Zh × Obj)}{σ:St}{H:Hp}{s:Zf}{EK:XK}
theorem Inv.hdl (I:Inv X pins σ H s)(a:Zh):Inv (X.hdl a) pins σ H s:=⟨I.ok.hdl a,I.os,I.bare,I.base,I.loc,I.cell,I.free,I.freeC,I.pin,I.hok,I.len⟩
theorem Inv.unhdl {a:Zh}(o:X.Ok)(I:Inv (X.hdl a) pins σ H s):Inv X pins σ H s:=⟨o,I.os,I.bare,I.base,I.loc,I.cell,I.free,I.freeC,I.pin,I.hok,I.len⟩
theorem z9t {e:Ze}{s':Zf}{x n:Str}{P:Zh}{i:Nat}{np hp:Pos}{b₀:Stmt}{suite:List Stmt}{rest:List ExceptHandler}{Q:Flow->Zf->Prop}{E:Ze->Zf->Prop} (I:Inv X pins σ H s) (h:X.stack=X.env::X.outer) (U:X.env.frame=Za X.env.locals)
  (gl:Gl X x) (c2:XCls X.K X.mg x P) (L:(x==("__debug__" : Str))=Zc) (hN:X.N.Nodup) (hi:X.N[i]?=Za n) (hn:Loc X.env.scope n) (hf:X.fn n=Zd\/X.env.scope.names.lookup n=Za .local)
  (hE:∀cls d,EK cls Zb d->∃C y,cls=.ref C/\XCls X.K X.mg y C/\subIn X.K C P=Zd)
  (cx:CXR X.prog X.w X.stack H s EK e s')
  (k:∀a C d s6,EK (.ref C) Zb d->d a=Zb->Inv X pins (σ.set i (Za (.ref a))) (upd d a (zc3 a C)) s6->e=.ref a ->
   wpAny #v[2,7] (X.A.mark (Za (.ref a))) (execs (b₀::suite) X.env) (λf s4=>wpAny #v[2,7] X.A (do bindName X.env n .none;unbindBehindTheSuite X.env n hp) (λ_ s5=>Q f s5) E s4) (λ_ _=>False) s6) :
  wpAny #v[2,7] X.A (noteFrame e X.env) (λ_ s2=>wpAny #v[2,7] X.A (setFlight e Zb) (λ_ s3=>wpAny #v[2,7] X.A (handleBy e X.env (.ExceptHandler (Za (.Name x np)) (Za n) (b₀::suite) hp::rest)) Q E s3) E s2) E s':=by
 obtain ⟨d,a,cls,rfl,os,bare,un,F,⟨⟨oe,vs,a0,T,oT,ts,S,hc,hd,z0,z1,ne,hT,M,z3,t1,t2⟩,J,nw⟩,q⟩:=cx;obtain ⟨C,y,rfl,cC,r⟩:=hE cls d q;have I1:Inv X pins σ d s':=I.call' (ch:=[]) os un F bare (λb z=>absurd z (by simp));have fz:s'.heap.FunFrames X.base X.stack:=I1.stack;have R:s'.heap.FunFrames (PySem.W.hideAll s'.heap (a::T::frs X.stack)) X.stack:=PySem.W.funFrames_hide fz λen S b eb=>Ag _ (Ag _ (zea S eb));have m : ∀u,(PySem.W.hideAll s'.heap (a::T::frs X.stack)).StaysIn u->s'.heap.UpToSlots u->(∃o,u.get? a=Za o/\o.cls=.ref C)->∀t',Inv X pins σ (upd d a (zc3 a C)) { s' with heap:=u,toks:=t' }:=λu st up ea t'=>by
  have p:=zzt fz st up J nw t1 t2;refine I.call' (ch:=[]) os ?_ ?_ bare (λb z=>absurd z (by simp))
  ·exact yb9 (z5b un p) nw J
  ·exact z5r (zil p F λb hb=>I1.stkFree b hb) J ea
 have G:Heap.FlyingW (PySem.W.hideAll s'.heap (a::T::frs X.stack)) X.stack a (.ref C) a0 s'.heap :=
  ⟨λb o e=>Gq _ e,Dz _ At,R,oe,vs,T,oT,ts,S,⟨hc,z0⟩,hd,z1,Dz _ (Ag _ At),ne,hT,M,z3⟩
 have A:X.A.frames=Za (X.env::X.outer):=I.ok.frames.trans (congrArg Za h);rw [h] at G;refine wpAny_looks_onW A U G λh4 j Z=>?_;refine wpAny_landsW j λh5 c B=>?_;have w:=Z.trans B;rw [<-h] at c;have g:=m h5 c.1 w c.there s'.toks;obtain ⟨bm,N,nm,qn,bs,hdct,sn,sub,ab,col,dd,k0,k1,k2,k3,k5,mN,hni,al⟩:=cC.obj g.kIn;obtain ⟨bm',N',nm',qn',bs',hdct',sn',sub',ab',col',dd',k0',k1',k2',k3',k5',mN',hni',O⟩:=c2.obj g.kIn;obtain ⟨hC,_,TL⟩:=al _ g.kIn;obtain ⟨K,_,W⟩:=O _ g.kIn;have t:(Ze.ref C::bm).contains (.ref P)=Zd:=by
  unfold subIn at r;cases eL:X.K.lookup C with
  |none=>rw[eL] at r;cases r
  | some o =>
   have eo:=g.kIn _ _ eL;have:o=_:=sI (eo.symm.trans hC);rw[eL,this] at r;exact r
 obtain⟨oe5,V,Y⟩:=c.there;refine wpAny_handleBy_cons (codeAny_handlers_test (Hh g.ok.kind gl (Calls.loadGlobal_global (by rw[g.ok.glob];exact g.mod.glob.keeps g.bk) c2.bound ?_) L)) (by intro z;cases z);refine ztx hC K V Y (W.hasType #v[0,9]) t (codeAny_handlers_suite_as ?_);refine lands_againW c λh6 l D=>?_;have I6:=m h6 l.1 (w.trans D) l.there s'.toks;refine ze6 I6 hN hi hn (v:=.ref a) rfl (λs7 I7=>?_) hf;exact Bw (k a C d s7 q J I7 rfl) (λ_ _ z=>z) λ_ _ z=>z.elim
end
abbrev tTry (sp:Sp) (t:TA) (K:Zg) (m:Str->Option Ze) (f:Zh) (i j:Nat) (ts:TS):TS:=λD σ H=>t σ H λg e=>sp g e (λv c=>D.nx (σ.set i (Za v)) c)
 λcls _ d=>∃C y,cls=.ref C/\XCls K m y C/\subIn K C f=Zd/\∀a,d a=Zb->ts { nx:=λb c=>D.nx (b.set j Zb) c,rt:=D.rt } (σ.set j (Za (.ref a))) (upd d a (zc3 a C))
section
variable {X:Cx}{k:Nat}{fa:Zh}{fd:FuncData}{ps:List Str}{sp:Sp}{f x y n:Str}{fp p cp ap hp pos np:Pos}{e:Zi}{es:List Zi}{ta:TA}{ts:TS}{i j:Nat}{C2:Zh}{b₀:Stmt}{suite:List Stmt}{rest:List ExceptHandler}
theorem ps_try (F:FnOk X.prog X.w X.K X.mg X.base (CXR X.prog X.w) k fa fd ps sp) (hr:Room k X.A) (hg:Gl X f) (hm:X.mg f=Za (.ref fa)) (hk:PySem.W.keepIn X.K (.ref fa)=Zd) (W:zfh X.K fd ps [])
  (ha:PA X.nox (e::es) ta) (P:(f==("__debug__" : Str))=Zc) (he:starEach (e::es) X.env=(Zc,eval e X.env)::starEach es X.env) (M:(backTo cp (starEach es X.env)).any (·.1)=Zc)
  (w:X.N.Nodup) (hi:X.N[i]?=Za y) (hy:Loc X.env.scope y) (K:X.fn y=Zd\/X.env.scope.names.lookup y=Za .local)
  (G:X.stack=X.env::X.outer) (Q:X.env.frame=Za X.env.locals) (gl:Gl X x) (Z:XCls X.K X.mg x C2) (B:(x==("__debug__" : Str))=Zc)
  (O:X.N[j]?=Za n) (U:X.env.scope.names.lookup n=Za .local) (l:X.env.kindOf n=Za .local) (hs:∀a,PSs (X.hdl a) (b₀::suite) ts) :
  PS X (.Try [.Assign [.Name y p] (.Call (.Name f fp) (e::es) [] cp) ap] (.ExceptHandler (Za (.Name x np)) (Za n) (b₀::suite) hp::rest) [] [] pos) (tTry sp ta X.K X.mg C2 i j ts):=by
 intro pins s σ H D I h;refine wpAny_Try_except (wpAny_execs_cons (wpAny_Assign_Name ?_ rfl));refine Dx (zg8 I hg hm ?_ P);refine PySem.W.callWith_K (h₀:=X.base) I.ok.mod.kin hk (Bw (ha cp pins s σ H _ (I.wish _) h) (λo m ⟨vs,A,d,r,q⟩=>⟨d.unwish.kIn,?_⟩) λ_ _ z=>z.elim) he M;have d:Inv X pins σ A m:=d.unwish;have Y:(o++[]).length=ps.length:=by rw[Bf,<-r.length];exact F.len _ _ _ _ q
 have T:=W m o d.kIn Y;rw[Bf] at T;refine wpAny_call (Hb (F.run X.A X.stack m A ⟨o,[]⟩ o vs _ _ hr d.env0 T r q) λr s' b=>?_);cases r with
 | error ex =>
  have b:CXR X.prog X.w X.stack A m (λcls _ t=>∃C y,cls=.ref C/\XCls X.K X.mg y C/\subIn X.K C C2=Zd/\∀a,t a=Zb->ts { nx:=λc g=>D.nx (c.set j Zb) g,rt:=D.rt } (σ.set j (Za (.ref a))) (upd t a (zc3 a C))) ex s':=b;refine z9t d G Q gl Z B w O (.inl U) (.inr U) (λcls t ⟨C,V,J,S,R,_⟩=>⟨C,V,J,S,R⟩) b λa C t s6 ⟨C',V,J,S,R,h4⟩ fr I6 ea=>?_;cases J;refine Bw (hs a pins s6 _ _ _ (I6.hdl a) (h4 a fr)) (λfl s7 z=>?_) λ_ _ z=>z;cases fl with
  | next =>
   obtain⟨c,g,L,z⟩:=z;exact zs9 (L.unhdl I.ok) w O l λs8 E=>⟨_,_,E,z⟩
  | ret u =>
   obtain⟨v,c,g,L,N,z⟩:=z;exact zs9 (L.unhdl I.ok) w O l λs8 E=>⟨v,_,g,E,N,z⟩
  |brk=>obtain⟨_,_,_,z⟩:=z;exact z.elim
  |cont=>obtain⟨_,_,_,z⟩:=z;exact z.elim
 | ok fl =>
  cases fl with
  | ret u =>
   obtain⟨v,g,I2,N,z⟩:=d.after b;refine ze6 I2 w hi hy N (λs2 I3=>?_) K;exact Gy (Gy ⟨_,g,I3,z⟩)
  |next=>exact False.elim b
  |brk=>exact False.elim b
  |cont=>exact False.elim b
end
theorem Rel.unk {K:Zg}{F H:Hp}{pr:Prt}{en:En}{σ:St}(R:Rel K F pr en σ H)(i:Nat)(x:Option V):Rel K F pr (en.set i Zb) (σ.set i x) H:=by
 have g:∀(k:Nat) (w:W) (b:Bool),(en.set i Zb)[k]?=Za (Za (w,b))->k≠i/\en[k]?=Za (Za (w,b)):=λk w b e=>by
  by_cases d:k=i
  ·subst d;by_cases u:k<en.length
   ·rw[Bn u] at e;cases e
   ·rw[Bp (by rw[Bq];symm)] at e;cases e
  ·rw[Bt (Ne.symm d)] at e;exact⟨d,e⟩
 have f:∀k,k≠i->(σ.set i x)[k]?=σ[k]?:=λk d=>Bt (Ne.symm d);refine⟨by rw[Bq,Bq];exact R.len,R.sub,λk w e=>?_,λk w e=>?_,λk l a w p t s n r=>?_,λb o q=>?_,R.tb⟩
 ·obtain⟨c,h⟩:=g k w _ e;rw[f k c];exact R.val k w h
 ·obtain⟨c,h⟩:=g k w _ e;rw[f k c];exact R.own k w h
 ·obtain⟨c,h⟩:=g k w _ t;obtain⟨j,m⟩:=g l p _ s;rw[f k c] at n;rw[f l j] at r;exact R.inj k l a w p h m n r
 ·obtain⟨c,h,j⟩:=R.prt b o q;refine⟨c,h,λk w e=>?_⟩;obtain⟨m,v⟩:=g k w _ e;rw[f k m];exact j k w v
theorem Rel.more {K:Zg}{F H H':Hp}{pr:Prt}{en:En}{σ:St}(R:Rel K F pr en σ H)(s:Same H H'):Rel K F pr en σ H':=by
 refine⟨R.len,R.sub.trans s,R.val,λi w e=>?_,R.inj,λb o q=>?_,R.tb.go (λ_ _ z=>z) (λb p e f=>⟨s _ _ e,f⟩) (.refl F) λb p e h=>h⟩
 ·obtain⟨a,o,j, g,c,d,k⟩:=R.own i w e;exact⟨a,o,j,g,c,s _ _ d,k⟩
 ·obtain⟨g,c,d⟩:=R.prt b o q;exact⟨s _ _ g,c,d⟩
theorem tAs_mono {K:Zg}{as:GAs}{σ:St}{H:Hp}{Q Q':List V->Hp->Prop}(w:∀v b,Q v b->Q' v b)(h:tAs K as σ H Q):tAs K as σ H Q':=by
 obtain⟨F,pr,en,e,x,R,h,q⟩:=h;exact⟨F,pr,en,e,x,R,h,λd b v s c a=>w _ _ (q d b v s c a)⟩
abbrev zwq (mp:List Nat) (m:List Bool) (Φ:FnX) (as:GAs) (i jb jn:Nat) (a:List Str):GS:=λe =>
 if mp.contains i||mp.contains jb||mp.contains jn||decide (i=jb)||decide (jn=i)||decide (jn=jb) || !decide (i<e.length) || !decide (jb<e.length) || !decide (jn<e.length) then Zb else
 match zac m Φ.back as ((e.set i (Za (.non,Zc))).set jb (Za (.non,Zc))) with
 |some p=>if p.2.2 then Zb else Za (p.1.set i (#v[p.2.1,6]),.ret (p.2.1,Zc))
 | none=>(a.find? λc=>(zac m (Φ.exc c) as ((e.set i (Za (.non,Zc))).set jb (Za (.non,Zc)))).isSome).bind λc =>
  (zac m (Φ.exc c) as ((e.set i (Za (.non,Zc))).set jb (Za (.non,Zc)))).bind λp=>Za ((p.1.set jn Zb).set jb Zb,.ret (.str c,Zc))
abbrev z7t (sp:Sp) (spR:Sp) (t:TA) (K:Zg) (m:Str->Option Ze) (C:Zh) (i jb jn:Nat):TS :=
 tSeq (tAsg (tTup (za4 (tC .non) (za4 (tC .non) tNil))) (gTup K 2 (zsf (zfn i) (zsf (zfn jb) gNil))))
  (tSeq (tTry sp t K m C i jn (tAsg (tVar jn) (zfn jb))) (tRet (tIf (tB (tIsN (tVar jb))) (tVar i) (zn1 spR [] E0 (za4 (tVar jb) tNil)))))
theorem zx4 {K:Zg}{j:Str->Option Ze}{mp:List Nat}{m:List Bool}{Φ:FnX}{as:GAs}{i jb jn:Nat}{cs:List Str}{J:Zh}{spR:Sp}{D:Ends}{σ:St}{H:Hp}
  (hR:∀c∈cs,∃C,j c=Za (.ref C)/\XCls K j c C/\subIn K C J=Zd/\∀a H (Q:VK),H a=Za (zc3 a C)->(∀d,Same H d->Q (.str c) d)->spR [.ref a] H Q E0)
  (h:tS K mp (zwq mp m Φ as i jb jn cs) D σ H):z7t (spX K j m Φ) spR (tAs K as) K j J i jb jn D σ H:=by
 obtain⟨F,pr,en,en',fl,R,h,q⟩:=h;unfold zwq at h;split at h
 ·exists h
 ·rename_i z
  simp only [Cg,not_or,Bk,Cs,Dy,decide_eq_false_iff_not] at z;obtain ⟨⟨⟨⟨⟨⟨⟨⟨Z,Y⟩,z3⟩,z4⟩,z5⟩,P⟩,L⟩,E⟩,z9⟩:=z;refine ⟨by decide,λp hp=>⟨p,_,rfl,SqT.of upd_same,rfl,.non,_,rfl,.non,_,rfl,rfl,?_⟩⟩;have t:Rel K F pr ((en.set i (Za (.non,Zc))).set jb (Za (.non,Zc))) ((σ.set i (Za .non)).set jb (Za .non)) (upd H p (.tup [.non,.non])) :=
   ((R.lay hp _).store (r:=(.non,Zc)) (i:=i) (v:=.non) .non L).store (r:=(.non,Zc)) (i:=jb) (v:=.non) .non (by rw[Bq];exact E)
  have U:Keep mp σ ((σ.set i (Za .non)).set jb (Za .non)):=(Keep.set Z _).trans (Keep.set Y _);have l:σ.length=en.length:=R.len.symm;generalize n:(σ.set i (Za V.non)).set jb (Za .non)=σ1 at t U ⊢;have x:σ1.length=σ.length:=by rw[<-n,Bq,Bq]
  have e1:σ1[jb]?=Za (Za .non):=by rw[<-n,Bn (by rw[Bq,l];exact E)]
  generalize G:(en.set i (#v[W.non,6])).set jb (#v[W.non,6])=en1 at t h;have le:en1.length=en.length:=by rw[<-G,Bq,Bq]
  cases e:zac m Φ.back as en1 with
  | some N =>
   obtain⟨f,r⟩:=N;rw[e] at h;dsimp only at h;split at h
   ·exists h
   ·rename_i hr
    obtain ⟨w,b⟩:=r;have hb:b=Zc:=by cases b with
     |true=>exact absurd rfl hr
     |false=>rfl
    subst hb;cases h;have c:=zgw (K:=K) (σ:=σ1) (H:=upd H p (.tup [.non,.non])) (Q:=λv B=>(tRet (tIf (tB (tIsN (tVar jb))) (tVar i) (zn1 spR [] E0 (za4 (tVar jb) tNil)))) D (σ1.set i (Za v)) B) ⟨F,pr,en1,f,(w,Zc),t,e,λk d v s g y=>?_⟩
    ·refine tAs_mono (λT d (o:spF K m Φ.back (T ++ []) d _ E0) => ?_) c
     rw[Bf] at o;exact .inl o
    ·have u:(σ1.set i (Za v))[jb]? = Za (Za .non):=by rw [Bt z4];exact e1
     have e3:(σ1.set i (Za v))[i]?=Za (Za v):=Bn (by rw[x,l];exact L);refine⟨.non,u,Zd,rfl,?_⟩;refine iteT ⟨v,e3,q k _ d v s (g.store (r:=(w,Zc)) (i:=i) y ?_) (U.trans (Keep.set Z _)) y⟩;rw[g.len,x,l];exact L
  | none =>
   rw[e] at h;dsimp only at h;obtain⟨c,hc,h⟩:=bS h;obtain⟨⟨f,r⟩,h2,h⟩:=bS h;cases h;obtain⟨C,M,cC,sb,O⟩:=hR c (List.mem_of_find?_eq_some hc);have cr:=zgw (K:=K) (σ:=σ1) (H:=upd H p (.tup [.non,.non])) (Q:=λ_ d=>∃C y,Ze.ref C=.ref C/\XCls K j y C/\subIn K C J=Zd/\j c=Za (.ref C)/\∀a,d a=Zb->(tAsg (tVar jn) (zfn jb)) { nx:=λI B=>(tRet (tIf (tB (tIsN (tVar jb))) (tVar i) (zn1 spR [] E0 (za4 (tVar jb) tNil)))) D (I.set jn Zb) B,rt:=D.rt } (σ1.set jn (Za (.ref a))) (upd d a (zc3 a C))) ⟨F,pr,en1,f,r,t,h2,λk d v s g y=>?_⟩
   ·refine tAs_mono (λT d (o:spF K m (Φ.exc c) (T ++ []) d _ E0) => ?_) cr
    rw[Bf] at o;refine .inr ⟨c,C,M,?_⟩;obtain⟨F1,A,ws,S,r1,q1,q2,q3,q4,q5⟩:=o;refine⟨F1,A,ws,S,r1,q1,q2,q3,q4,λk d v s g y=>?_⟩;obtain⟨C',y',_,a2,a3,X,a5⟩:=q5 k d v s g y;rw[M] at X;cases X;exact⟨C,y',rfl,a2,a3,a5⟩
   ·refine ⟨C,c,rfl,cC,sb,M,λa fr => ?_⟩
    have hn:jn<σ1.length:=by rw[x,l];exact z9
    have lj:jb<σ1.length:=by rw[x,l];exact E
    have u:((((σ1.set jn (Za (V.ref a))).set jb (Za (.ref a))).set jn Zb))[jb]?=Za (Za (.ref a)):=by
     rw[Bt P,Bn (by rw[Bq];exact lj)]
    refine ⟨.ref a,Bn hn,?_⟩;have go:(tRet (tIf (tB (tIsN (tVar jb))) (tVar i) (zn1 spR [] E0 (za4 (tVar jb) tNil)))) D ((((σ1.set jn (Za (V.ref a))).set jb (Za (.ref a))).set jn Zb)) (upd d a (zc3 a C)):=by
     refine ⟨.ref a,u,Zc,rfl,?_⟩;refine iteF ⟨.ref a,u,O a _ _ upd_same λH3 s3=>?_⟩;have RR:=(((g.lay fr (zc3 a C)).unk jn Zb).unk jb (Za (.ref a)));have es:((σ1.set jn (Za (V.ref a))).set jb (Za (.ref a))).set jn Zb=(σ1.set jn Zb).set jb (Za (.ref a)):=by
      rw[List.set_comm _ _ P,List.set_set,List.set_comm _ _ (Ne.symm P)]
     rw[<-es] at RR;exact q k _ H3 (.str c) s (RR.more s3) (U.trans ((Keep.set z3 _).trans ((Keep.set Y _).trans (Keep.set z3 _)))) (.str c)
    exact go
theorem ybx {x y:Str}{e d pt p:Pos}{k k2 j a:Nat}{b c:Pos}{env:Env}:swappedStores [.Tuple [.Name x e,.Name y d] k pt] (.Tuple [.Constant .none j b,.Constant .none a c] k2 p) env=pure Zb:=by
 have f:([Zi.Constant .none j b,.Constant .none a c].all (foldedForSure 8))=Zd:=rfl;unfold swappedStores;dsimp only;simp only [f,Fm];split
 ·rfl
 ·split
  ·rfl
  ·split
   ·rfl
   ·rfl
section
variable {X:Cx}{k:Nat}{fa ga:Zh}{fd gd:FuncData}{ps pg:List Str}{sp spR:Sp}{f g x y b n:Str}{fp p cp ap hp pos np:Pos}{e:Zi}{es:List Zi}{ta:TA}{i jb jn:Nat}{C2:Zh}
 {py pb pt pt2 p1 p2 ap0 pb' pn ap2 tp pb2 p3 cp2 py2 gp pb3 cp3 ip rp:Pos}{kt k2 j1 j2 j3:Nat}
theorem z0y (L:X.calm=Zd) (F:FnOk X.prog X.w X.K X.mg X.base (CXR X.prog X.w) k fa fd ps sp) (A:Room k X.A) (N:Gl X f) (O:X.mg f=Za (.ref fa)) (K:PySem.W.keepIn X.K (.ref fa)=Zd) (E:zfh X.K fd ps [])
  (I:PA X.nox (e::es) ta) (u:(f==("__debug__" : Str))=Zc) (T:starEach (e::es) X.env=(Zc,eval e X.env)::starEach es X.env) (s:(backTo cp (starEach es X.env)).any (·.1)=Zc)
  (G:FnOk X.prog X.w X.K X.mg X.base CX0 k ga gd pg spR) (Q:Gl X g) (M:X.mg g=Za (.ref ga)) (J:PySem.W.keepIn X.K (.ref ga)=Zd) (R:zfh X.K gd pg []) (r:(g==("__debug__" : Str))=Zc)
  (l:X.N.Nodup) (v:X.N[i]?=Za y) (j:X.env.scope.names.lookup y=Za .local) (c:X.N[jb]?=Za b) (h:X.env.scope.names.lookup b=Za .local)
  (o:X.stack=X.env::X.outer) (w:X.env.frame=Za X.env.locals) (P:Gl X x) (H:XCls X.K X.mg x C2) (m:(x==("__debug__" : Str))=Zc)
  (C:X.N[jn]?=Za n) (B:X.env.scope.names.lookup n=Za .local) (t:X.env.kindOf n=Za .local)
  (d:∀z,z=y\/z=b\/z=n->(z==("__debug__" : Str))=Zc/\(z==("__classdict__" : Str))=Zc) :
  PSs X [.Assign [.Tuple [.Name y py,.Name b pb] kt pt] (.Tuple [.Constant .none j1 p1,.Constant .none j2 p2] k2 pt2) ap0,
   .Try [.Assign [.Name y p] (.Call (.Name f fp) (e::es) [] cp) ap] [.ExceptHandler (Za (.Name x np)) (Za n) [.Assign [.Name b pb'] (.Name n pn) ap2] hp] [] [] tp,
   .Return (Za (.IfExp (.Compare (.Name b pb2) [.Is] [.Constant .none j3 p3] cp2) (.Name y py2) (.Call (.Name g gp) [.Name b pb3] [] cp3) ip)) rp] (z7t sp spR ta X.K X.mg C2 i jb jn):=by
 have S:PE X (.Name y py2) (tVar i):=zej v (.inl j) (d y (.inl rfl)).1 (d y (.inl rfl)).2;have D:∀{q:Pos},PE X (.Name b q) (tVar jb):=zej c (.inl h) (d b (.inr (.inl rfl))).1 (d b (.inr (.inl rfl))).2;refine zcc (zvc (z21 (zal zup (zal zup za9))) (z2t L (zjr (zj5 l v (.inl j) (.inr j)) (zjr (zj5 l c (.inl h) (.inr h)) zuu))) zpy ybx) (zcc ?_ (pss_one ?_))
 ·refine ps_try F A N O K E I u T s l v (.inl j) (.inr j) o w P H m C B t λa=>pss_one ?_;exact zm2 (X:=X.hdl a) l c (.inl h) (zej (X:=X.hdl a) C (.inl B) (d n (.inr (.inr rfl))).1 (d n (.inr (.inr rfl))).2) rfl (.inr h)
 ·exact zkr (zps (z3m (ybz D)) S (zvi G A Q M J R .nil z36 (zal D za9) r))
end
end L2
namespace PySem
open Sem (wp)
section
variable {prog:Program}{w:World}{A:Around}{E:Ze->Zf->Prop}{h:Heap}{g:Array GenState}{d:Drawn}{t:Nat}{os:OsState}{a:Zh}{o:Obj}{K:Zg}
 {nm q:Str}{C N:Zh}{bs bm:List Ze}{hdct:Bool}{sn:List Str}{sub:List Ze}{ab:Bool}{col:Option Bool}{dd:Option Zh}{k0 k1 k2 k3 k5:Option Ze}{newId:String}
theorem zss {R:Result->Zf->Prop} (i:h.get? C=Za (excClassObj nm q C N bs bm hdct sn sub ab col dd k0 k1 k2 k3 k5 newId)) (j:bm.contains (.type "object")=Zd)
  (e:h.get? a=Za o) (f:o.cls=.ref C) (k:R (.ok (.ret (.ref C))) ⟨h,g,d,t,os⟩) :
  codeAny (model prog w) A (.call (.builtin "getset_descriptor.__get__") ⟨[.builtin "object.__class__",.ref a,.ref C],[]⟩) R ⟨h,g,d,t,os⟩:=by
 have b:(⟨h,g,d,t,os⟩:Zf).TypeIs (.builtin "object.__class__") "getset_descriptor" := F.typeOf_object_class;have c:(Ze.ref C::bm).contains (.type (".".intercalate ("object.__class__".cutAt '.').dropLast))=Zd:=by
  rw[F.owner_object_class,List.contains_cons,j];rfl
 refine codeAny_call_builtin F.slot_gs_get.plain F.entry_gs_get (F.slot_gs_get.check _ _ _ _ _ _ _ _ b (F.args_gs_get _ _ _) ?_)
 repeat (any_goals (first|assumption|(with_reducible refine Ef e ?_;rw[f])|(with_reducible refine Gz i ?_;rw[c])|wp_step))
 refine⟨Code.quiet_builtin _ #v[0,0,7],Fy F.entry_object_class ?_⟩
 repeat (any_goals (first|assumption|(with_reducible refine Ef e ?_;rw[f])|wp_step))
theorem zly {tk:Tok}{Q:Fin->Zf->Prop} (X:K.In h) (i:PySem.W.findIn K (.ref C) "__class__" = Za (Za (.builtin "object.__class__"))) (f:h.get? C=Za (excClassObj nm q C N bs bm hdct sn sub ab col dd k0 k1 k2 k3 k5 newId)) (j:bm.contains (.type "object")=Zd)
  (b:h.get? a=Za o) (c:o.cls=.ref C) (m:Q (.done (.ret (.ref C))) ⟨h,g,d,t,os⟩) :
  wpAny (model prog w) A (Builtin.«object.__getattribute__» ⟨[.ref a,.str "__class__" tk],[]⟩) Q E ⟨h,g,d,t,os⟩:=by
 have e:(⟨h,g,d,t,os⟩:Zf).TypeIs (.builtin "object.__class__") "getset_descriptor" := F.typeOf_object_class;have k:=F.typeOf_object_class;have l:=F.slot_gs_get.lookup;have n:=F.slot_gs_set.lookup
 repeat (any_goals (first|assumption|(with_reducible refine Ef b ?_;rw[c])|(with_reducible refine (PySem.W.looks_findIn (M:=model prog w) X i).at ?_)|wp_step))
 refine zss f j b c ?_
 repeat (any_goals (first|assumption|wp_step))
theorem zvr {M:Model}{n:Ze}{Q:Unit->Zf->Prop} (i:h.get? C=Za (excClassObj nm q C N bs bm hdct sn sub ab col dd k0 k1 k2 k3 k5 newId)) (e:bm.contains (.type "BaseException")=Zd)
  (j:h.get? a=Za o) (l:o.cls=.ref C) (f:Q () ⟨h,g,d,t,os⟩):wpAny M A (checkBuiltinCall "BaseException.__getattribute__" ⟨[.ref a,n],[]⟩) Q E ⟨h,g,d,t,os⟩:=by
 have k:builtinKind "BaseException.__getattribute__" = Za .slot:=by decide +kernel
 have b:splitId "BaseException.__getattribute__" = Za ("BaseException","__getattribute__"):=by decide +kernel
 have c:(Ze.ref C::bm).contains (.type "BaseException")=Zd:=by rw[List.contains_cons,e];rfl
 have m:=F.args_bexc_ga (.ref a) n;simp only [checkBuiltinCall,k,b];refine Aa ?_
 ·unfold isInstance
  repeat (first|(with_reducible refine Ef j ?_;rw[l])|(with_reducible refine Gz i ?_;rw[c])|wp_step)
  exact f
theorem znr {tk:Tok}{R:Result->Zf->Prop} (X:K.In h) (j:PySem.W.findIn K (.ref C) "__class__" = Za (Za (.builtin "object.__class__"))) (b:h.get? C=Za (excClassObj nm q C N bs bm hdct sn sub ab col dd k0 k1 k2 k3 k5 newId)) (k:bm.contains (.type "object")=Zd) (f:bm.contains (.type "BaseException")=Zd)
  (c:h.get? a=Za o) (e:o.cls=.ref C) (i:R (.ok (.ret (.ref C))) ⟨h,g,d,t,os⟩) :
  codeAny (model prog w) A (.call (.builtin "BaseException.__getattribute__") ⟨[.ref a,.str "__class__" tk],[]⟩) R ⟨h,g,d,t,os⟩ :=
 codeAny_call_builtin #v[0,0,7] F.entry_bexc_ga (zvr b f c e (zly X j b k c e i))
theorem zyk {tk:Tok}{Q:Ze->Zf->Prop} (X:K.In h) (l:PySem.W.findIn K (.ref C) "__class__" = Za (Za (.builtin "object.__class__"))) (m:PySem.W.findIn K (.ref C) "__getattribute__" = Za (Za (.builtin "BaseException.__getattribute__"))) (i:PySem.W.findIn K (.ref C) "__getattr__" = Za Zb)
  (j:h.get? C=Za (excClassObj nm q C N bs bm hdct sn sub ab col dd k0 k1 k2 k3 k5 newId)) (n:bm.contains (.type "object")=Zd) (f:bm.contains (.type "BaseException")=Zd)
  (c:h.get? a=Za o) (e:o.cls=.ref C) (p:Q (.ref C) ⟨h,g,d,t,os⟩):wpAny (model prog w) A (getAttrBy (.ref a) (.str "__class__" tk) Zc) Q E ⟨h,g,d,t,os⟩:=by
 have f3:=F.excAttr_ValueError.ga.bind (.ref a);have b:(Ze.builtin "BaseException.__getattribute__" == Ze.builtin "object.__getattribute__")=Zc:=by decide +kernel
 have k:(onTheHeap (Ze.ref C)&&Ze.builtin "BaseException.__getattribute__" == Ze.builtin "object.__getattribute__")=Zc:=by rw[b];rfl
 repeat (any_goals (first|assumption|(with_reducible refine Ef c ?_;rw[e])|(with_reducible refine (PySem.W.looks_findIn (M:=model prog w) X m).at ?_)|(with_reducible refine (PySem.W.looks_findIn (M:=model prog w) X i).at ?_)|wp_step))
 refine znr X l j n f c e ?_
 repeat (any_goals (first|assumption|wp_step))
theorem zoy {Q:Option Ze->Zf->Prop} (X:K.In h) (e:PySem.W.findIn K (.ref C) "__class__" = Za (Za (.builtin "object.__class__"))) (k:PySem.W.findIn K (.ref C) "__getattribute__" = Za (Za (.builtin "BaseException.__getattribute__"))) (f:PySem.W.findIn K (.ref C) "__getattr__" = Za Zb)
  (c:h.get? C=Za (excClassObj nm q C N bs bm hdct sn sub ab col dd k0 k1 k2 k3 k5 newId)) (l:bm.contains (.type "object")=Zd) (b:bm.contains (.type "BaseException")=Zd)
  (i:h.get? a=Za o) (j:o.cls=.ref C) (m:Q (Za (.ref C)) ⟨h,g,d,t+1,os⟩):wpAny (model prog w) A (getAttr? (.ref a) "__class__") Q E ⟨h,g,d,t,os⟩:=by
 unfold getAttr? getAttrBy?
 repeat (any_goals (first|assumption|with_reducible apply zyk X e k f c l b i j|wp_step))
end
end PySem
namespace L2
open PySem PySem.Spec PyProof.Rows
abbrev excQ (K:Zg) (C:Zh):Bool:=PySem.W.findIn K (.ref C) "__class__" == Za (Za (.builtin "object.__class__"))&&PySem.W.findIn K (.ref C) "__getattribute__" == Za (Za (.builtin "BaseException.__getattribute__"))&&PySem.W.findIn K (.ref C) "__getattr__" == Za Zb
theorem z2g {K:Zg}{p:Str->Option Ze}{y:Str}{C a:Zh}(l:XCls K p y C)(q:excQ K C=Zd):PySem.W.KitX K (.ref a) (.ref C) (λh=>∃o,h.get? a=Za o/\o.cls=.ref C) where
 ty:=λ_ _ _ ⟨_,i,f⟩=>f ▸ (PySem.W.Looks.ld i).andThen .now
 it:=λ_ h X _=>by
  obtain⟨_,_,_,_,_,_,_,_,_,_,_,_,_,_,_,_,_,_,b⟩:=l.obj X;have c:=(b _ X).1;intro A Q E w k q;unfold isType loadHead;exact Aa (wpAny_loadPart (k _ _ c) (Ak q))
 ne:=λh tp x m n r X j=>by
  obtain⟨_,_,_,_,_,_,_,_,_,_,_,_,_,_,_,_,_,_,b⟩:=l.obj X;have c:=(b _ X).1;refine Bool.eq_false_iff.mpr λq=>?_;have e:C=tp:=Ze.ref.inj (Et.mp q);subst e;have z:=congrArg Obj.cls (sI (c.symm.trans j));exact absurd (Ze.type.inj z) #v[0,9]
 ca:=λ{_ _ _ _ _ s} X ⟨o,i,f⟩ k=>by
  obtain⟨h,g,d,t,u⟩:=s;obtain⟨_,_,_,_,_,_,_,_,_,_,_,_,_,_,_,_,_,_,b⟩:=l.obj X;obtain⟨c,_,T⟩:=b _ X;unfold excQ at q;simp only [Ae,Et] at q;exact zoy X q.1.1 q.1.2 q.2 c (T.hasType #v[0,9]) (T.hasType #v[0,9]) i f k
theorem zz4 {X:Cx}{pins:List (Zh×Obj)}{σ:St}{H:Hp}{s:Zf}{A:Around}{E:Ze->Zf->Prop}{Q:Ze->Zf->Prop}{c:Ze}{b:Bool}{y:Str}{C a:Zh} (I:Inv X pins σ H s) (d:XCls X.K X.mg y C) (q:excQ X.K C=Zd) (e:H a=Za (zc3 a C)) (k:PySem.W.kitOne X.K (.ref C) c=Za b) (h:∀t,Q (.bool b) { s with toks:=t }) :
  wpAny #v[2,7] A (call (.builtin "isinstance") [.ref a,c]) Q E s :=
 Cj (z2g d q) I.kIn (show zbr X.prog X.w H s.heap a (zc3 a C) from I.hok a _ e).1 k (λz=>nomatch z) h
abbrev rXi (K:Zg) (m:Str->Option Ze):List V->Hp->VK->Prop:=λx H Q=>∃a C y c b,x=[.ref a,c]/\H a=Za (zc3 a C)/\XCls K m y C/\excQ K C=Zd/\(∃u,RelV c u/\PySem.W.kitOne K (.ref C) u=Za b/\((∃D,c=.ref D)\/∃T,c=.ty T))/\Q (.bl b) H
theorem zv8 {X:Cx}:zeb X (.builtin "isinstance") (rXi X.K X.mg):=by
 intro pins s σ H x p Q I r h;nofun;obtain⟨a,C,y,c,b,rfl,e,l,q,⟨u,f,k,m⟩,j⟩:=h;ac_rfl;cases r with
 | cons o i =>
  obtain ⟨d,rfl,g⟩:=vals1 i;cases (show _=Ze.ref a from o);have n:d=u:=by
   rcases m with⟨D,rfl⟩|⟨T,rfl⟩
   ·exact (show d=Ze.ref D from g).trans (show u=Ze.ref D from f).symm
   ·exact (show d=Ze.type T from g).trans (show u=Ze.type T from f).symm
  subst n;exact zz4 I l q e k λt=>⟨.bl b,H,I.tok _,rfl,j⟩
theorem z6b {X:Cx}{x:Str}{D:Zh}{pos:Pos}(g:Gl X x)(c:X.mg x=Za (.ref D))(a:(x==("__debug__" : Str))=Zc):PE X (.Name x pos) (tC (.ref D)):=λpins s σ H Q I h =>
 zg8 I g c ⟨.ref D,H,I,rfl,h⟩ a
section
variable {P:Program}{w:World}{K:Zg}{mg:Str->Option Ze}{base:Heap}{T:List Fd}{bn:List Str}
theorem zf2.mono {d:Nat}{Ψ:Str->Fn}(h:zf2 P w K mg base T d Ψ):zf2 P w K mg base T (d+1) Ψ:=λu b f a F M=>(h u b f a F M).mono (Nat.le_succ d)
theorem zvo {cs:List Str}{Ψ:Str->Fn} (ok:∀t∈T,FdOk K mg t) (hb:∀x∈bn,mg x=Zb) (kb:K.In base) (nb:base.Ns mainGlobals mg) (U:("g SIGNS" : Str)∈bn->∃t,mg "SIGNS" = Za (.str "abcdef" t))
  {d:Nat} (hΨ:zf2 P w K mg base T d Ψ) {t:Fd} (o:FdOk K mg t) {f:Zh}{I:FuncData} (F:Fun K t.nm t.nm t.st f I) (M:mg t.nm=Za (.ref f))
  {y b n q j l:Str}{fp p cp ap hp pos np py pb pt W p1 p2 O Z pn Y tp L p3 B R gp J S ip rp:Pos}{kt k2 j1 j2 j3:Nat}{e:Zi}{es:List Zi}
  (g:zbh t.st=[.Assign [.Tuple [.Name y py,.Name b pb] kt pt] (.Tuple [.Constant .none j1 p1,.Constant .none j2 p2] k2 W) O,
   .Try [.Assign [.Name y p] (.Call (.Name q fp) (e::es) [] cp) ap] [.ExceptHandler (Za (.Name j np)) (Za n) [.Assign [.Name b Z] (.Name n pn) Y] hp] [] [] tp,
   .Return (Za (.IfExp (.Compare (.Name b L) [.Is] [.Constant .none j3 p3] B) (.Name y R) (.Call (.Name l gp) [.Name b J] [] S) ip)) rp])
  {N:Zh}{r:FuncData}{ps:List Str}{m:List Bool}{Φ:FnX} (FA:FnOk P w K mg base (CXR P w) (d+1) N r ps (spX K mg m Φ)) (FAm:mg q=Za (.ref N)) (FAk:PySem.W.keepIn K (.ref N)=Zd) (v:zfh K r ps [])
  {ga:Zh}{u:FuncData}{pg:List Str}{spR:Sp} (G:FnOk P w K mg base CX0 (d+1) ga u pg spR) (gm:mg l=Za (.ref ga)) (gk:PySem.W.keepIn K (.ref ga)=Zd) (gb:zfh K u pg [])
  {V:Zh} (c2:XCls K mg j V) {i jb jn:Nat} (hi:t.N[i]?=Za y) (hib:t.N[jb]?=Za b) (hj:t.N[jn]?=Za n)
  (ly:(zad t.st).names.lookup y=Za .local) (lb:(zad t.st).names.lookup b=Za .local) (ln:(zad t.st).names.lookup n=Za .local)
  (lf:(zad t.st).names.lookup q=Za .globalImplicit) (lx:(zad t.st).names.lookup j=Za .globalImplicit) (lg:(zad t.st).names.lookup l=Za .globalImplicit)
  (df:(q==("__debug__" : Str))=Zc) (dx:(j==("__debug__" : Str))=Zc) (dg:(l==("__debug__" : Str))=Zc) (nd:∀z,z=y\/z=b\/z=n->(z==("__debug__" : Str))=Zc/\(z==("__classdict__" : Str))=Zc)
  {as:GAs} (has:asM (compE deep) (sxOf T bn Ψ (d+1) t) (e::es) m=Za as)
  (hR:∀c∈cs,∃C,mg c=Za (.ref C)/\XCls K mg c C/\subIn K C V=Zd/\∀a H (Q:VK),H a=Za (zc3 a C)->(∀H',Same H H'->Q (.str c) H')->spR [.ref a] H Q E0) :
  FnOk P w K mg base CX0 (d+2) f I t.ps (spF K t.m (zaf t.m t.N.length (zwq (mpOf t.m) m Φ as i jb jn cs))):=by
 refine F.okX (CX:=CX0) (k:=d+1) o.sc (λvs H Q E h=>(zhb h).trans o.m) λA outer s H vs Q E hr h=>?_;have C:=zpe (CX:=CX0) (outer:=outer) (H:=H) (E:=E) ok hb kb nb U hΨ.mono o F M hr;obtain⟨pa,D⟩:=ztr (zcm deep).1 C has;rw[Cb,Ae] at D;rw[g];refine⟨z7t (spX K mg m Φ) spR (tAs K as) K mg V i jb jn,?_,zx4 hR (zgq h)⟩;exact z0y (X:=cxOf CX0 P w K mg base t.N t.nm (zad t.st) f I.code A outer s H E) rfl FA hr.1 (C.gl q lf) FAm FAk v pa df (zag D.1) (zji D.2) G (C.gl l lg) gm gk gb dg
  o.sc.nd hi (C.loc y ly) hib (C.loc b lb) rfl rfl (C.gl j lx) c2 dx hj (C.loc n ln) (C.loc n ln) nd
end
theorem zis:∀{bs:List Bool}{u:List Ze},Vals (bs.map V.bl) u->u=bs.map Ze.bool
 |[],_,.nil=>rfl
 | b::bs,_,.cons (b:=y) r h=>by
  cases (show y=Ze.bool b from r);rw[zis h];rfl
theorem z2y (k:Bool){bs:List Bool}{A:Around}{s:Zf}:∀y,y∈bs.map Ze.bool->PySem.SeqAt.EqAt A s y (.bool k) (isBoolOf k y):=λy h=>by
 obtain⟨b,_,rfl⟩:=Cp.mp h;exact PySem.SeqAt.EqAt.bool_bool b k
theorem zu6 (k:Bool):∀bs:List Bool,(bs.map Ze.bool).countP (isBoolOf k)=bs.count k
 |[]=>rfl
 | b::bs=>by
  rw[Av,List.countP_cons,List.count_cons,zu6 k bs]
  rfl
abbrev z9d:V->List V->Hp->VK->Prop:=λx v H Q=>∃(l:Zh) (bs:List Bool) (k:Bool),x=.ref l/\v=[.bl k]/\H l=Za (.lst (bs.map V.bl))/\Q (.int (bs.count k:Nat)) H
abbrev z76:V->List V->Hp->VK->Prop:=λx v H Q=>∃(l:Zh) (bs:List Bool) (k:Bool) (j:Nat),x=.ref l/\v=[.bl k]/\H l=Za (.lst (bs.map V.bl))/\bs[j]?=Za k/\(∀m,m<j->bs[m]?=Za (!k))/\Q (.int (j:Nat)) H
theorem z6s {X:Cx}:MtR X "list.count" z9d:=by
 intro pins s σ H x j v m Q I f d h;obtain⟨l,bs,k,rfl,rfl,b,q⟩:=h;cases f;obtain⟨u,rfl,a⟩:=d.one;cases (show u=Ze.bool k from a);obtain⟨z,i,n,r,g,e⟩:=I.lstM b;obtain rfl:=zis r;refine Gp PySem.F.slot_list_count ⟨_,e,rfl⟩ PySem.F.entry_list_count (PySem.F.args_list_count_2 _ _)
  (PySem.SeqAt.list_countAt l (bs.map Ze.bool).toArray n Zb #[] (.bool k) (isBoolOf k)) ⟨e,λy c=>z2y k y (by simpa using c),?_⟩
 rw[show (bs.map Ze.bool).toArray.toList=bs.map Ze.bool from rfl,zu6 k];exact⟨.int _,H,I.tok _,⟨_,rfl⟩,q⟩
theorem z39 {X:Cx}:MtR X "list.index" z76:=by
 intro pins s σ H x D v E Q I p o h;obtain⟨l,bs,k,j,rfl,rfl,w,c,i,q⟩:=h;cases p;obtain⟨u,rfl,t⟩:=o.one;cases (show u=Ze.bool k from t);obtain⟨z,A,n,r,B,e⟩:=I.lstM w;obtain rfl:=zis r;have f:j<bs.length:=(Ah.mp c).1;have C:bs.length<=sizeLine:=by simpa using z
 have F:sizeLine<2^63-1:=by decide
 refine Gp Fq ⟨_,e,rfl⟩ PySem.F.entry_list_index (PySem.F.args_list_index_2 _ _)
  (PySem.SeqAt.list_indexAt l (bs.map Ze.bool).toArray n Zb #[] (.bool k) (isBoolOf k) j (by simpa using f) #v[] ?_ λm a b=>?_) ⟨e,λy g=>z2y k y (by simpa using g),?_⟩
 ·have:bs[j]=k:=(Ah.mp c).2;simp [isBoolOf,this]
 ·have d:=i m b;have:bs[m]'(by simpa using a)=!k:=(Ah.mp d).2;simp [isBoolOf,this]
 ·exact⟨.int _,H,I.tok _,⟨_,rfl⟩,q⟩
abbrev tIs (C:Zh) (b:Bool):TE:=λσ H Q=>(∃a,σ[0]?=Za (Za (.ref a))/\H a=Za (zc3 a C))/\Q (.bl b) H
abbrev Und (K:Zg) (m:Str->Option Ze) (C:Zh) (D:Str) (b:Bool):Prop:=(∃a,m D=Za (.ref a)/\PySem.W.kitOne K (.ref C) (.ref a)=Za b)
abbrev tRef (K:Zg) (C:Zh) (b a e c f d g:Bool):TS :=
 tSeq (tAsg (tLst (za4 (tIs C b) (za4 (tIs C a) (za4 (tIs C e) tNil)))) (zfn 1))
 (tSeq (tAsg (tOp rCat (tVar 1) (tLst (za4 (tIs C c) (za4 (tIs C f) tNil)))) (zfn 1))
 (tSeq (z42 (tBM K "list" znf (tVar 1) (za4 (tIs C d) tNil)))
 (tSeq (tIfS (tOr (tB (tNeI (tBM K "list" z9d (tVar 1) (za4 (tC (.bl Zd)) tNil)) (tC (.int 1)))) (tNot (tB (tIs C g)))) (tRet (tC (.str "other"))) z0k)
 (tRet (tOp (rIxL K) (tLst (za4 (tC (.str "NoFit")) (za4 (tC (.str "NoLine")) (za4 (tC (.str "NoMost")) (za4 (tC (.str "NotIn")) (za4 (tC (.str "NoText")) (za4 (tC (.str "TooFar")) tNil))))))) (tBM K "list" z76 (tVar 1) (za4 (tC (.bl Zd)) tNil)))))))
section
variable {X:Cx}{C:Zh}{y cn mn:Str}{b1 b2 b3 b4 b5 b6 bv:Bool}
theorem zsk {p r t pos:Pos}{D:Str}{b:Bool} (i:XCls X.K X.mg y C) (q:excQ X.K C=Zd) (s:X.N[0]?=Za cn) (l:X.env.scope.names.lookup cn=Za .local) (n:(cn==("__debug__" : Str))=Zc/\(cn==("__classdict__" : Str))=Zc)
  (j:Gl X "isinstance") (m:X.mg "isinstance" = Zb) (g:Gl X D) (u:Und X.K X.mg C D b) (k:(D==("__debug__" : Str))=Zc):PE X (.Call (.Name "isinstance" p) [.Name cn r,.Name D t] [] pos) (tIs C b):=by
 obtain⟨c,d,e⟩:=u;refine (zbn zv8 j m zcr (zal (zej s (.inl l) n.1 n.2) (zal (z6b g d k) za9))).wk λσ H Q h=>?_;obtain⟨⟨a,v,f⟩,o⟩:=h;exact⟨.ref a,v,a,C,y,.ref c,b,rfl,f,i,q,⟨.ref c,rfl,e,.inl ⟨c,rfl⟩⟩,o⟩
theorem yaq {p i o pos:Pos} (d:XCls X.K X.mg y C) (q:excQ X.K C=Zd) (j:X.N[0]?=Za cn) (l:X.env.scope.names.lookup cn=Za .local) (n:(cn==("__debug__" : Str))=Zc/\(cn==("__classdict__" : Str))=Zc)
  (e:Gl X "isinstance") (c:X.mg "isinstance" = Zb) (g:Gl X "ValueError") (m:X.mg "ValueError" = Zb) (k:PySem.W.kitOne X.K (.ref C) (.type "ValueError")=Za bv):PE X (.Call (.Name "isinstance" p) [.Name cn i,.Name "ValueError" o] [] pos) (tIs C bv):=by
 refine (zbn zv8 e c zcr (zal (zej j (.inl l) n.1 n.2) (zal (zyh (v:=.ty "ValueError") g m #v[0,0,7] rfl) za9))).wk λσ H Q h=>?_;obtain⟨⟨a,r,b⟩,f⟩:=h;exact⟨.ref a,r,a,C,y,.ty "ValueError",bv,rfl,b,d,q,⟨.type "ValueError",rfl,k,.inr ⟨_,rfl⟩⟩,f⟩
theorem zod {q1 q2 q3 q4 q5 q6 q7 q8 q9 H D q12 s Q t W S q18 w V R q22 B T U L Z z r1 r2 r3 r4 r5 r6 r7 r8 r9 r a r12 r13 e J f O K I x u Y r23 k r25 G r27 E r29 r30 o d A b F P:Pos}{j1 j2 j3 j4 j5 j6 j7 j8 j9 N:Nat} (c:XCls X.K X.mg y C) (q:excQ X.K C=Zd) (hN:X.N.Nodup) (h:X.N[0]?=Za cn) (M:X.N[1]?=Za mn) (l:X.env.scope.names.lookup cn=Za .local) (i:X.env.scope.names.lookup mn=Za .local)
  (n:(cn==("__debug__" : Str))=Zc/\(cn==("__classdict__" : Str))=Zc) (nm:(mn==("__debug__" : Str))=Zc/\(mn==("__classdict__" : Str))=Zc) (g:Gl X "isinstance") (m:X.mg "isinstance" = Zb)
  (g1:Gl X "NoFit") (g2:Gl X "NoLine") (g3:Gl X "NoMost") (g4:Gl X "NotIn") (g5:Gl X "NoText") (g6:Gl X "TooFar") (gv:Gl X "ValueError") (mv:X.mg "ValueError" = Zb)
  (u1:Und X.K X.mg C "NoFit" b1) (u2:Und X.K X.mg C "NoLine" b2) (u3:Und X.K X.mg C "NoMost" b3) (u4:Und X.K X.mg C "NotIn" b4) (u5:Und X.K X.mg C "NoText" b5) (u6:Und X.K X.mg C "TooFar" b6) (uv:PySem.W.kitOne X.K (.ref C) (.type "ValueError")=Za bv)
  (l1:(r.endLine==a.line)=Zd) (l2:(e.endLine==f.line)=Zd) (l3:(d.endLine==b.line)=Zd) :
  PSs X [.Assign [.Name mn r1] (.List [.Call (.Name "isinstance" q1) [.Name cn q2,.Name "NoFit" q3] [] q4,.Call (.Name "isinstance" q5) [.Name cn q6,.Name "NoLine" q7] [] q8,.Call (.Name "isinstance" q9) [.Name cn H,.Name "NoMost" D] [] q12] r2) r3,
   .Assign [.Name mn r4] (.BinOp (.Name mn r5) .Add (.List [.Call (.Name "isinstance" s) [.Name cn Q,.Name "NotIn" t] [] W,.Call (.Name "isinstance" S) [.Name cn q18,.Name "NoText" w] [] V] r6) r7) r8,
   .Expr (.Call (.Attribute (.Name mn r9) "append" r) [.Call (.Name "isinstance" R) [.Name cn q22,.Name "TooFar" B] [] T] [] a) r12,
   .If (.BoolOp .Or [.Compare (.Call (.Attribute (.Name mn r13) "count" e) [.Constant (.bool Zd) j1 J] [] f) [.NotEq] [.Constant (.int 1) j2 O] K,.UnaryOp .Not (.Call (.Name "isinstance" U) [.Name cn L,.Name "ValueError" Z] [] z) I] x) [.Return (Za (.Constant (.str "other") j3 u)) Y] [] r23,
   .Return (Za (.Subscript (.List [.Constant (.str "NoFit") j4 k,.Constant (.str "NoLine") j5 r25,.Constant (.str "NoMost") j6 G,.Constant (.str "NotIn") j7 r27,.Constant (.str "NoText") j8 E,.Constant (.str "TooFar") j9 r29] r30) (.Call (.Attribute (.Name mn o) "index" d) [.Constant (.bool Zd) N A] [] b) F)) P] (tRef X.K C b1 b2 b3 b4 b5 b6 bv):=by
 have j:∀{p:Pos},PE X (.Name mn p) (tVar 1):=zej M (.inl i) nm.1 nm.2;refine zcc (zm2 hN M (.inl i) (zrh (zal (zsk c q h l n g m g1 u1 #v[0,9]) (zal (zsk c q h l n g m g2 u2 #v[0,9]) (zal (zsk c q h l n g m g3 u3 #v[0,9]) za9)))) rfl (.inr i)) ?_;refine zcc (zm2 hN M (.inl i) (z9v z3b j (zrh (zal (zsk c q h l n g m g4 u4 #v[0,9]) (zal (zsk c q h l n g m g5 u5 #v[0,9]) za9)))) rfl (.inr i)) ?_;refine zcc (zx3 (zs2 Dl PySem.F.slot_list_append PySem.F.type_list_append zgp j (zal (zsk c q h l n g m g6 u6 #v[0,9]) za9) rfl rfl l1)) ?_;refine zcc (z63 (PW.pt (z9w (z3m (ya2 (zs2 Dl PySem.F.slot_list_count PySem.F.type_list_count z6s j (zal z7r za9) rfl rfl l2) z2n)) (z3p (z3o (z3n (yaq c q h l n g m gv mv uv)))))) (pss_one (zkr zfy)) zo8) ?_;exact pss_one (zkr (yae zyc (zrh (zal zfy (zal zfy (zal zfy (zal zfy (zal zfy (zal zfy za9))))))) (zs2 Dl Fq PySem.F.type_list_index z39 j (zal z7r za9) rfl rfl l3) (zh9 rfl)))
end
theorem ybq {c:Bool}{p q:Prop}(e:c=Zc)(h:q):if c=Zd then p else q:=by subst e;exact h
theorem zz0 {K:Zg}{C a:Zh}{c g e d f k w:Bool}{H:Hp}{Q:VK}{j:Nat}{nm:Str} (i:H a=Za (zc3 a C)) (I:w=Zd) (B:[c,g,e,d,f,k].count Zd=1) (G:[c,g,e,d,f,k][j]?=Za Zd) (E:∀m,m<j->[c,g,e,d,f,k][m]?=Za Zc)
  (b:(["NoFit","NoLine","NoMost","NotIn","NoText","TooFar"]:List Str)[j]?=Za nm) (h:∀o,Same H o->Q (.str nm) o):tRef K C c g e d f k w { nx:=λ_ o=>Q .non o,rt:=Q } [Za (.ref a),Zb] H:=by
 have lt:∀p,H p=Zb->a≠p:=λp t z=>by subst z;rw[t] at i;cases i
 refine⟨⟨a,rfl,i⟩,⟨a,rfl,i⟩,⟨a,rfl,i⟩,show 3<=sizeLine by decide,λp t=>?_⟩;have s:Same H (upd H p (.lst [.bl c,.bl g,.bl e])):=Same.new t _;refine⟨.ref p,rfl,⟨a,rfl,s _ _ i⟩,⟨a,rfl,s _ _ i⟩,show 2<=sizeLine by decide,λy u=>?_⟩;have v:=Same.new u (.lst [.bl d,.bl f]);refine⟨p,y,[.bl c,.bl g,.bl e],[.bl d,.bl f],rfl,rfl,v _ _ upd_same,upd_same,show 5<=sizeLine by decide,λl n=>?_⟩;have D:=Same.new n (.lst ([.bl c,.bl g,.bl e]++[.bl d,.bl f]));have F:=(s.trans v).trans D;refine⟨.ref l,rfl,.inl ⟨rfl,_,SqL.of upd_same⟩,⟨a,rfl,F _ _ i⟩,l,[.bl c,.bl g,.bl e,.bl d,.bl f],.bl k,rfl,rfl,upd_same,show 5<sizeLine by decide,?_⟩;have x:Same H (upd (upd (upd (upd H p (.lst [.bl c,.bl g,.bl e])) y (.lst [.bl d,.bl f])) l (.lst [.bl c,.bl g,.bl e,.bl d,.bl f])) l (.lst ([.bl c,.bl g,.bl e,.bl d,.bl f]++[.bl k]))):=by
  rw[z69];exact (s.trans v).trans (Same.new n _)
 refine⟨.ref l,rfl,.inl ⟨rfl,_,SqL.of upd_same⟩,l,[c,g,e,d,f,k],Zd,rfl,rfl,upd_same,?_⟩;refine⟨_,_,rfl,rfl,_,rfl,?_⟩;refine ybq (by rw[B];decide) ⟨⟨a,rfl,x _ _ i⟩,w,rfl,?_⟩;refine ybq (by rw[I];decide) ?_;refine⟨show 6<=sizeLine by decide,λA r=>?_⟩;have q:=Same.new r (.lst [.str "NoFit",.str "NoLine",.str "NoMost",.str "NotIn",.str "NoText",.str "TooFar"]);refine⟨.ref l,rfl,.inl ⟨rfl,_,SqL.of (q _ _ upd_same)⟩,l,[c,g,e,d,f,k],Zd,j,rfl,rfl,q _ _ upd_same,G,E,?_⟩;refine⟨A,_,(j:Int),.str nm,rfl,rfl,SqL.of upd_same,?_,h _ (x.trans q)⟩
 match j,b with
 |0,b=>ext b;rfl
 |1,b=>ext b;rfl
 |2,b=>ext b;rfl
 |3,b=>ext b;rfl
 |4,b=>ext b;rfl
 |5,b=>ext b;rfl
 |_+6,b=>exists b
abbrev zzu (K:Zg) (a:Str->Option Ze) (C:Zh) (nm:Str):Prop:=∃(y:Str) (b c f d g e:Bool) (j:Nat),XCls K a y C/\excQ K C=Zd/\(Und K a C "NoFit" b/\Und K a C "NoLine" c/\Und K a C "NoMost" f/\Und K a C "NotIn" d/\Und K a C "NoText" g/\Und K a C "TooFar" e)/\PySem.W.kitOne K (.ref C) (.type "ValueError")=Za Zd /\
 [b,c,f,d,g,e].count Zd=1/\[b,c,f,d,g,e][j]?=Za Zd/\(∀m,m<j->[b,c,f,d,g,e][m]?=Za Zc)/\(["NoFit","NoLine","NoMost","NotIn","NoText","TooFar"]:List Str)[j]?=Za nm
abbrev z8e (K:Zg) (m:Str->Option Ze):Sp:=λv H Q _=>∃a C nm,v=[.ref a]/\H a=Za (zc3 a C)/\zzu K m C nm/\∀b,Same H b->Q (.str nm) b
theorem znb {P:Program}{w:World}{K:Zg}{m:Str->Option Ze}{base:Heap}{d:Nat}{t:Fd} (o:FdOk K m t) {f:Zh}{O:FuncData} (F:Fun K t.nm t.nm t.st f O) {cn mn:Str} (u:t.N=[cn,mn]) (tp:t.ps=[cn])
  {q1 q2 q3 q4 q5 q6 q7 q8 q9 V R q12 B q14 D q16 q17 q18 I q20 q21 q22 N q24 q25 q26 q27 L r1 r2 r3 r4 r5 r6 r7 r8 r9 r c r12 r13 p Y q r17 Z W J G r22 r23 v r25 U r27 S r29 r30 z i M g T r36:Pos}{j1 j2 j3 j4 j5 j6 j7 j8 j9 j10:Nat} (b:zbh t.st=[.Assign [.Name mn r1] (.List [.Call (.Name "isinstance" q1) [.Name cn q2,.Name "NoFit" q3] [] q4,.Call (.Name "isinstance" q5) [.Name cn q6,.Name "NoLine" q7] [] q8,.Call (.Name "isinstance" q9) [.Name cn V,.Name "NoMost" R] [] q12] r2) r3,
   .Assign [.Name mn r4] (.BinOp (.Name mn r5) .Add (.List [.Call (.Name "isinstance" B) [.Name cn q14,.Name "NotIn" D] [] q16,.Call (.Name "isinstance" q17) [.Name cn q18,.Name "NoText" I] [] q20] r6) r7) r8,
   .Expr (.Call (.Attribute (.Name mn r9) "append" r) [.Call (.Name "isinstance" q21) [.Name cn q22,.Name "TooFar" N] [] q24] [] c) r12,
   .If (.BoolOp .Or [.Compare (.Call (.Attribute (.Name mn r13) "count" p) [.Constant (.bool Zd) j1 Y] [] q) [.NotEq] [.Constant (.int 1) j2 r17] Z,.UnaryOp .Not (.Call (.Name "isinstance" q25) [.Name cn q26,.Name "ValueError" q27] [] L) W] J) [.Return (Za (.Constant (.str "other") j3 G)) r22] [] r23,
   .Return (Za (.Subscript (.List [.Constant (.str "NoFit") j4 v,.Constant (.str "NoLine") j5 r25,.Constant (.str "NoMost") j6 U,.Constant (.str "NotIn") j7 r27,.Constant (.str "NoText") j8 S,.Constant (.str "TooFar") j9 r29] r30) (.Call (.Attribute (.Name mn z) "index" i) [.Constant (.bool Zd) j10 M] [] g) T)) r36])
  (lc:(zad t.st).names.lookup cn=Za .local) (lm:(zad t.st).names.lookup mn=Za .local) (nc:(cn==("__debug__" : Str))=Zc/\(cn==("__classdict__" : Str))=Zc) (nm:(mn==("__debug__" : Str))=Zc/\(mn==("__classdict__" : Str))=Zc)
  (mi:m "isinstance" = Zb) (mv:m "ValueError" = Zb) (l:∀x∈(["isinstance","NoFit","NoLine","NoMost","NotIn","NoText","TooFar","ValueError"]:List Str),(zad t.st).names.lookup x=Za .globalImplicit)
  (l1:(r.endLine==c.line)=Zd) (l2:(p.endLine==q.line)=Zd) (l3:(i.endLine==g.line)=Zd):FnOk P w K m base CX0 (d+1) f O t.ps (z8e K m):=by
 refine F.okX (CX:=CX0) (k:=d) o.sc (λvs H Q E ⟨a,C,n,e,_⟩=>by rw[e,tp];rfl) λA outer s H vs Q E hr ⟨a,C,n,e,hH,⟨y,b1,b2,b3,b4,b5,b6,j,cC,xq,⟨u1,u2,u3,u4,u5,u6⟩,uv,hc,hj,hn,hs⟩,h⟩=>?_;subst e;rw[b];have nd:=o.sc.nd;rw[u] at nd;refine⟨tRef K C b1 b2 b3 b4 b5 b6 Zd,?_,?_⟩
 ·exact zod (X:=cxOf CX0 P w K m base t.N t.nm (zad t.st) f O.code A outer s H E) cC xq o.sc.nd (by show t.N[0]?=_;rw[u];rfl) (by show t.N[1]?=_;rw[u];rfl) lc lm nc nm (l _ (by simp)) mi (l _ (by simp)) (l _ (by simp)) (l _ (by simp)) (l _ (by simp)) (l _ (by simp)) (l _ (by simp)) (l _ (by simp)) mv u1 u2 u3 u4 u5 u6 uv l1 l2 l3
 ·have es:start t.N [.ref a]=[Za (.ref a),Zb]:=by rw[u];rfl
  rw[es];exact zz0 hH rfl hc hj hn hs h
abbrev zb7 (t:Str) (Φ:(Str->Fn)->Nat->Fn):Ovr:=λΨ d x=>if x==t then Za (Φ Ψ d) else Zb
theorem zaq {T:List Fd}{bn:List Str}{a:Str}{Φ:(Str->Fn)->Nat->Fn}{d:Nat}{x:Str}{t:Fd}{g:GS} (c:(x==a)=Zc) (h:T.find? (·.nm==x)=Za t) (b:zao T bn (sem2 T bn (zb7 a Φ) (d+2)) (d+2) t=Za g):sem2 T bn (zb7 a Φ) (d+3) x=zaf t.m t.N.length g:=by
 show (match zb7 a Φ (sem2 T bn (zb7 a Φ) (d+1)) (d+1) x with
  |some Φ=>Φ
  | none=>match T.find? (λu:Fd=>u.nm==x) with
   |some t=>fnAt T bn (sem2 T bn (zb7 a Φ) (d+2)) (d+2) t
   |none=>λ_=>Zb)=_
 have e:zb7 a Φ (sem2 T bn (zb7 a Φ) (d+1)) (d+1) x=Zb:=by unfold zb7;rw[c];rfl
 rw[e,h];show fnAt T bn (sem2 T bn (zb7 a Φ) (d+2)) (d+2) t=_;unfold fnAt;rw[b]
theorem yat {T:List Fd}{bn:List Str}{a:Str}{Φ:(Str->Fn)->Nat->Fn}{d:Nat}:sem2 T bn (zb7 a Φ) (d+2) a=Φ (sem2 T bn (zb7 a Φ) d) d:=by
 show (match zb7 a Φ (sem2 T bn (zb7 a Φ) d) d a with
  |some Φ=>Φ
  | none=>match T.find? (λu:Fd=>u.nm==a) with
   |some t=>fnAt T bn (sem2 T bn (zb7 a Φ) (d+1)) (d+1) t
   |none=>λ_=>Zb)=_
 have e:zb7 a Φ (sem2 T bn (zb7 a Φ) d) d a=Za (Φ (sem2 T bn (zb7 a Φ) d) d):=by unfold zb7;rw[beq_self_eq_true];rfl
 rw[e]
theorem z4h {P:Program}{w:World}{K:Zg}{m:Str->Option Ze}{base:Heap}{T:List Fd}{bn:List Str}{U:List Str} (nd:(T.map (·.nm)).Nodup) (ok:∀t∈T,FdOk K m t) (hb:∀x∈bn,m x=Zb) (kb:K.In base) (nb:base.Ns mainGlobals m) (l:("g SIGNS" : Str)∈bn->∃t,m "SIGNS" = Za (.str "abcdef" t))
  {tt td tr:Fd} (mt:tt∈T) (X:td∈T) (mr:tr∈T)
  {y b n r:Str}{fp p cp ap hp pos np py pb pt I p1 p2 D L pn J tp B p3 u E gp A G ip rp:Pos}{kt k2 j1 j2 j3:Nat}{e:Zi}{es:List Zi}
  (g:zbh tt.st=[.Assign [.Tuple [.Name y py,.Name b pb] kt pt] (.Tuple [.Constant .none j1 p1,.Constant .none j2 p2] k2 I) D,
   .Try [.Assign [.Name y p] (.Call (.Name td.nm fp) (e::es) [] cp) ap] [.ExceptHandler (Za (.Name r np)) (Za n) [.Assign [.Name b L] (.Name n pn) J] hp] [] [] tp,
   .Return (Za (.IfExp (.Compare (.Name b B) [.Is] [.Constant .none j3 p3] u) (.Name y E) (.Call (.Name tr.nm gp) [.Name b A] [] G) ip)) rp])
  {W:Zh} (c2:XCls K m r W) {i jb jn:Nat} (hi:tt.N[i]?=Za y) (O:tt.N[jb]?=Za b) (hj:tt.N[jn]?=Za n)
  (ly:(zad tt.st).names.lookup y=Za .local) (lb:(zad tt.st).names.lookup b=Za .local) (ln:(zad tt.st).names.lookup n=Za .local)
  (lf:(zad tt.st).names.lookup td.nm=Za .globalImplicit) (lx:(zad tt.st).names.lookup r=Za .globalImplicit) (lg:(zad tt.st).names.lookup tr.nm=Za .globalImplicit)
  (df:(td.nm==("__debug__" : Str))=Zc) (dx:(r==("__debug__" : Str))=Zc) (dg:(tr.nm==("__debug__" : Str))=Zc) (nn:∀z,z=y\/z=b\/z=n->(z==("__debug__" : Str))=Zc/\(z==("__classdict__" : Str))=Zc)
  {gx:(Str->Fn)->GX} (eX:∀Ψ d,zny T bn U Ψ d td=Za (gx Ψ)) {as:(Str->Fn)->GAs} (eA:∀Ψ d,asM (compE deep) (sxOf T bn Ψ (d+1) tt) (e::es) td.m=Za (as Ψ))
  (v:∀(k:Nat) f j,Fun K tr.nm tr.nm tr.st f j->FnOk P w K m base CX0 (k+1) f j tr.ps (z8e K m))
  (h:∀c∈U,∃C,m c=Za (.ref C)/\XCls K m c C/\subIn K C W=Zd/\zzu K m C c) :
  ∀(d:Nat) (Ψ:Str->Fn),zf2 P w K m base T d Ψ->∀t∈T,∀Φ,zb7 tt.nm (λΨ _=>zaf tt.m tt.N.length (zwq (mpOf tt.m) td.m (zc7 td.m td.N.length (gx Ψ)) (as Ψ) i jb jn U)) Ψ d t.nm=Za Φ->∀f j,Fun K t.nm t.nm t.st f j->m t.nm=Za (.ref f)->FnOk P w K m base CX0 (d+2) f j t.ps (spF K t.m Φ):=by
 intro d Ψ o t ht Φ s f j F M;unfold zb7 at s;split at s
 ·rename_i N;ext s;have N:=Bl N;have Y:=zo1 nd ht;rw [N,zo1 nd mt] at Y;ext Y;obtain ⟨fa,fda,Fa,Ba,Z⟩:=(ok td X).ex;obtain ⟨ga,S,Fg,Bg,Mg⟩:=(ok tr mr).ex;exact zvo (pos:=pos) ok hb kb nb l o (ok _ mt) F M g (zzg ok hb kb nb l (λx hx=>let ⟨C,V,R,_⟩:=h x hx;⟨C,R⟩) o (ok td X) Fa Z (eX Ψ d)) Z Fa.kp Ba
   (v d ga S Fg) Mg Fg.kp Bg c2 hi O hj ly lb ln lf lx lg df dx dg nn (eA Ψ d) λc hc=>by
    obtain⟨C,V,R,h3,h4⟩:=h c hc;exact⟨C,V,R,h3,λa H Q e q=>⟨a,C,c,rfl,e,h4,q⟩⟩
 ·exists s
end L2
namespace My
open PySem PySem.Spec PyProof.Rows L2
abbrev top (i:Nat):Stmt:=PySem.Challenge.pw_yesnowords_k19_digits_and_words.main.body.getD i (.Pass ⟨0,0,0,0⟩)
abbrev zeh:Fd:=⟨"all_yes",["many"],["many"],[Zc],top 9⟩
abbrev zq3:Fd:=⟨"says",["word","place"],["word","place"],[Zc,Zc],top 10⟩
abbrev zjo:Fd:=⟨"where",["word"],["word"],[Zc],top 11⟩
abbrev ze1:Fd:=⟨"word_at",["some"],["some","word","place"],[Zc],top 12⟩
abbrev zp9:Fd:=⟨"plus",["one","other"],["one","other"],[Zc,Zc],top 13⟩
abbrev zi6:Fd:=⟨"times",["one","other"],["one","other"],[Zc,Zc],top 14⟩
abbrev zcy:Fd:=⟨"letter_no",["many","letter"],["many","letter"],[Zc,Zc],top 16⟩
abbrev zek:Fd:=⟨"stepped",["many","word","letter"],["many","word","letter","lower"],[Zc,Zc,Zc],top 17⟩
abbrev zja:Fd:=⟨"steps",["many","word"],["many","word","rows","letter"],[Zc,Zc],top 18⟩
abbrev zca:Fd:=⟨"term_order",["term"],["term"],[Zc],top 20⟩
abbrev zf8:Fd:=⟨"degree",["poly"],["poly"],[Zc],top 21⟩
abbrev zez:Fd:=⟨"word_of",["many","poly"],["many","poly","marks"],[Zc,Zc],top 22⟩
abbrev zec:Fd:=⟨"poly_of",["many","word"],["many","word","marks"],[Zc,Zc],top 23⟩
abbrev zbl:Fd:=⟨"longer_terms",["many","some"],["many","some"],[Zc,Zc],top 25⟩
abbrev ziu:Fd:=⟨"terms",["kind"],["kind","many","most","row","told","size"],[Zc],top 26⟩
abbrev zcs:Fd:=⟨"word_with",["kind","digits"],["kind","digits","chosen"],[Zc,Zc],top 27⟩
abbrev zb4:Fd:=⟨"digits_of",["kind","word"],["kind","word","many","most","poly"],[Zc,Zc],top 28⟩
abbrev zcz:Fd:=⟨"_law_hand",["_law_script"],["_law_script","_law_state","_law_weighs","_law_cell","_law_k","_law_one"],[Zc],top 30⟩
abbrev zcv:Fd:=⟨"_law_take",["_law_state","_law_count"],["_law_state","_law_count","_law_digit","_law_mixed"],[Zd,Zc],top 31⟩
abbrev zct:Fd:=⟨"_law_bits",["_law_state","_law_count"],["_law_state","_law_count","_law_way","_law_found","_law_k","_law_one"],[Zd,Zc],top 32⟩
abbrev zcq:Fd:=⟨"_law_word",["_law_bits_here"],["_law_bits_here","_law_found","_law_bit"],[Zc],top 33⟩
abbrev zb8:Fd:=⟨"_law_terms",["_law_many","_law_most"],["_law_many","_law_most","_law_found","_law_letter"],[Zc,Zc],top 34⟩
abbrev zbv:Fd:=⟨"_law_values",["_law_many","_law_poly"],["_law_many","_law_poly","_law_found","_law_place","_law_says_yes"],[Zc,Zc],top 35⟩
abbrev za5:Fd:=⟨"_law_poly_terms",["_law_many","_law_bits_here"],["_law_many","_law_bits_here","_law_found","_law_term","_law_inner","_law_letter"],[Zc,Zc],top 36⟩
abbrev zc2:Fd:=⟨"_law_same",["_law_found","_law_due_here"],["_law_found","_law_due_here"],[Zc,Zc],top 37⟩
abbrev zbk:Fd:=⟨"_law_refusal",["_law_caught"],["_law_caught","_law_marks"],[Zc],top 38⟩
abbrev zc4:Fd:=⟨"_law_kind",["_law_state"],["_law_state","_law_many"],[Zd],top 39⟩
abbrev zc0:Fd:=⟨"_law_told",["_law_kind_here","_law_word_here"],["_law_kind_here","_law_word_here","_law_found","_law_caught","error"],[Zc,Zc],top 40⟩
abbrev zdu:Fd:=⟨"_law_due",["_law_kind_here","_law_bits_here"],["_law_kind_here","_law_bits_here","_law_poly"],[Zc,Zc],top 41⟩
abbrev zns:Fd:=⟨"law",["_law_script"],["_law_script","_law_state","_law_k","_law_kind_here","_law_some","_law_digits","_law_bits_here","_law_word_here"],[Zc],top 42⟩
abbrev T:List Fd:=[zeh,zq3,zjo,ze1,zp9,zi6,zcy,zek,zja,zca,zf8,zez,zec,zbl,ziu,zcs,zb4,zcz,zcv,zct,zcq,zb8,zbv,za5,zc2,zbk,zc4,zc0,zdu,zns]
abbrev bn:List Str:=["abs","all","bool","enumerate","inT","int","isinstance","len","max","min","range","reversed","sorted","str","sum","tuple","zip"]
theorem zvp (Ψ:Str->Fn)(d:Nat):zao T bn Ψ (d+2) zeh=Za (zwy Ψ):=by kernel_rfl
theorem zvj:T.find? (·.nm==("all_yes" : Str))=Za zeh:=by kernel_rfl
theorem yba (Ψ:Str->Fn)(d:Nat):zao T bn Ψ (d+2) zq3=Za (ybs Ψ):=by kernel_rfl
theorem z8i:T.find? (·.nm==("says" : Str))=Za zq3:=by kernel_rfl
theorem z54 (Ψ:Str->Fn)(d:Nat):zao T bn Ψ (d+2) zjo=Za (z7u Ψ):=by kernel_rfl
theorem z5e:T.find? (·.nm==("where" : Str))=Za zjo:=by kernel_rfl
theorem zuv (Ψ:Str->Fn)(d:Nat):zao T bn Ψ (d+2) ze1=Za (zkl Ψ):=by kernel_rfl
theorem zye:T.find? (·.nm==("word_at" : Str))=Za ze1:=by kernel_rfl
theorem yas (Ψ:Str->Fn)(d:Nat):zao T bn Ψ (d+2) zp9=Za (z71 Ψ):=by kernel_rfl
theorem z9s:T.find? (·.nm==("plus" : Str))=Za zp9:=by kernel_rfl
theorem z5o (Ψ:Str->Fn)(d:Nat):zao T bn Ψ (d+2) zi6=Za (z6r Ψ):=by kernel_rfl
theorem z6o:T.find? (·.nm==("times" : Str))=Za zi6:=by kernel_rfl
theorem znt (Ψ:Str->Fn)(d:Nat):zao T bn Ψ (d+2) zcy=Za (zno Ψ):=by kernel_rfl
theorem zol:T.find? (·.nm==("letter_no" : Str))=Za zcy:=by kernel_rfl
theorem zwj (Ψ:Str->Fn)(d:Nat):zao T bn Ψ (d+2) zek=Za (zus Ψ):=by kernel_rfl
theorem zwa:T.find? (·.nm==("stepped" : Str))=Za zek:=by kernel_rfl
theorem z59 (Ψ:Str->Fn)(d:Nat):zao T bn Ψ (d+2) zja=Za (z7o Ψ):=by kernel_rfl
theorem z7p:T.find? (·.nm==("steps" : Str))=Za zja:=by kernel_rfl
theorem zkw (Ψ:Str->Fn)(d:Nat):zao T bn Ψ (d+2) zca=Za (zes Ψ):=by kernel_rfl
theorem zmu:T.find? (·.nm==("term_order" : Str))=Za zca:=by kernel_rfl
theorem zz9 (Ψ:Str->Fn)(d:Nat):zao T bn Ψ (d+2) zf8=Za (zlo Ψ):=by kernel_rfl
theorem zzk:T.find? (·.nm==("degree" : Str))=Za zf8:=by kernel_rfl
theorem zxi (Ψ:Str->Fn)(d:Nat):zao T bn Ψ (d+2) zez=Za (zij Ψ):=by kernel_rfl
theorem zt4:T.find? (·.nm==("word_of" : Str))=Za zez:=by kernel_rfl
theorem zu2 (Ψ:Str->Fn)(d:Nat):zao T bn Ψ (d+2) zec=Za (zii Ψ):=by kernel_rfl
theorem zwn:T.find? (·.nm==("poly_of" : Str))=Za zec:=by kernel_rfl
abbrev zd2 (Ψ:Str->Fn):GS:=(gRet (zyb Ψ))
theorem zhm (Ψ:Str->Fn)(d:Nat):zao T bn Ψ (d+2) zbl=Za (zd2 Ψ):=by kernel_rfl
theorem zhl:T.find? (·.nm==("longer_terms" : Str))=Za zbl:=by kernel_rfl
theorem z60 (Ψ:Str->Fn)(d:Nat):zao T bn Ψ (d+2) ziu=Za (zed Ψ):=by kernel_rfl
theorem z4q:T.find? (·.nm==("terms" : Str))=Za ziu:=by kernel_rfl
abbrev zfw (Ψ:Str->Fn):GE:=za6 #v[6,16] (.tp [1,2]) (gZip (zac [Zc] (Ψ "terms") #v[4,13]) (gVar 1)) (zak #v[8,16]) (gVar 1)
abbrev zcp (Ψ:Str->Fn):GS:=(gSeq (gSet [] 2 (gOpN za3 (gCns (gArg (zfw Ψ)) gA0))) (gRet (zac [Zc,Zc] (Ψ "word_of") (gCns #v[6,10] #v[3,13]))))
theorem zn7 (Ψ:Str->Fn)(d:Nat):zao T bn Ψ (d+2) zcs=Za (zcp Ψ):=by kernel_rfl
theorem zni:T.find? (·.nm==("word_with" : Str))=Za zcs:=by kernel_rfl
abbrev zb9 (Ψ:Str->Fn):GE:=za6 [Zb,Zb,Za 4] (.nm 1) (zam (zac [Zc] (Ψ "terms") #v[4,13])) gYes (gIf (zak (gOp2 (oInV Zc) (zaa 1) (zaa 2))) (gC (.int 1)) (gC (.int 0)))
theorem zpk (Ψ:Str->Fn)(d:Nat):zao T bn Ψ (d+2) zcz=Za (z8o Ψ):=by kernel_rfl
theorem znd:T.find? (·.nm==("_law_hand" : Str))=Za zcz:=by kernel_rfl
theorem zoh (Ψ:Str->Fn)(d:Nat):zao T bn Ψ (d+2) zcv=Za (zun Ψ):=by kernel_rfl
theorem znn:T.find? (·.nm==("_law_take" : Str))=Za zcv:=by kernel_rfl
theorem zof (Ψ:Str->Fn)(d:Nat):zao T bn Ψ (d+2) zct=Za (ybd Ψ):=by kernel_rfl
theorem zoq:T.find? (·.nm==("_law_bits" : Str))=Za zct:=by kernel_rfl
theorem zoj (Ψ:Str->Fn)(d:Nat):zao T bn Ψ (d+2) zcq=Za (yaz Ψ):=by kernel_rfl
theorem zn6:T.find? (·.nm==("_law_word" : Str))=Za zcq:=by kernel_rfl
theorem zm0 (Ψ:Str->Fn)(d:Nat):zao T bn Ψ (d+2) zb8=Za (zpq Ψ):=by kernel_rfl
theorem zky:T.find? (·.nm==("_law_terms" : Str))=Za zb8:=by kernel_rfl
theorem zka (Ψ:Str->Fn)(d:Nat):zao T bn Ψ (d+2) zbv=Za (zm7 Ψ):=by kernel_rfl
theorem zir:T.find? (·.nm==("_law_values" : Str))=Za zbv:=by kernel_rfl
theorem zfg (Ψ:Str->Fn)(d:Nat):zao T bn Ψ (d+2) za5=Za (yby Ψ):=by kernel_rfl
theorem zff:T.find? (·.nm==("_law_poly_terms" : Str))=Za za5:=by kernel_rfl
abbrev zdj (Ψ:Str->Fn):GE:=za6 #v[6,16] (.tp [1,2]) (gZip (gVar 0) (gVar 1)) gYes (zac [Zc,Zc] (Ψ "_law_same") (gCns #v[1,4] #v[3,13]))
abbrev zbd (Ψ:Str->Fn):GS:=(gSeq (gIfS (zak (gOp1 (oIsi .tuple) (zaa 1))) (gSeq (gIfS (gOrT (zl2 (zak (gOp1 (oIsi .tuple) (zaa 0)))) (zak (gOp2 oNe #v[7,8] (gArg #v[5,14])))) #v[4,19] zbx) (gRet (gOpN (oBl λbs=>bs.all id) (gCns (gArg (zdj Ψ)) gA0)))) zbx) (gSeq (gIfS (zak (gOp2 oIs (zaa 1) (gArg (gC .non)))) (gRet (gOp2 oIs (zaa 0) (gArg (gC .non)))) zbx) (gSeq (gIfS (zak (gOp1 (oIsi .str) (zaa 1))) (gRet (gAnd (gOp1 (oIsi .str) (zaa 0)) #v[4,18])) zbx) (gSeq (gIfS (gOrT (zak (gOp1 (oIsi .bool) (zaa 1))) (zak (gOp1 (oIsi .bool) (zaa 0)))) (gRet (gAnd (gOp1 (oIsi .bool) (zaa 0)) (gAnd (gOp1 (oIsi .bool) (zaa 1)) #v[4,18]))) zbx) (gRet (gAnd (gOp1 (oIsi .int) (zaa 0)) #v[4,18]))))))
theorem znp (Ψ:Str->Fn)(d:Nat):zao T bn Ψ (d+2) zc2=Za (zbd Ψ):=by kernel_rfl
theorem zn5:T.find? (·.nm==("_law_same" : Str))=Za zc2:=by kernel_rfl
abbrev zc1 (Ψ:Str->Fn):GS:=(gSeq (gSet [0] 1 (gOp2 oAdd #v[1] (gArg (zac [Zd,Zc] (Ψ "_law_take") (gCns (zaa 0) (gCns #v[6] gA0)))))) (gRet (zco (gCns #v[1,4] (gCns (gArg (zac [Zd,Zc] (Ψ "_law_take") (gCns (zaa 0) (gCns (gArg (gOp2 oAdd (zaa 1) #v[1])) gA0)))) gA0)))))
theorem zoo (Ψ:Str->Fn)(d:Nat):zao T bn Ψ (d+2) zc4=Za (zc1 Ψ):=by kernel_rfl
theorem zoi:T.find? (·.nm==("_law_kind" : Str))=Za zc4:=by kernel_rfl
abbrev zd3 (Ψ:Str->Fn):GE:=za6 [Zb,Zb] (.nm 1) (zam (gVar 2)) gYes #v[5,14]
abbrev zd9 (Ψ:Str->Fn):GE:=za6 [Zb,Zb,Za 2] (.nm 1) (zam (zac [Zc,Zc] (Ψ "_law_terms") (gCns #v[6,10] (gCns #v[0,17] gA0)))) gYes (gOpN oInt (gCns (gArg (gOp2 (oInV Zc) (zaa 1) (zaa 2))) gA0))
abbrev zdt (Ψ:Str->Fn):GS:=(gSeq (gSet [] 2 (zac [Zc,Zc] (Ψ "_law_poly_terms") (gCns #v[6,10] #v[0,15]))) (gSeq (gIfS (zak (gOp2 #v[8,9] (gArg (gOpN oMax (gCns (gArg (gOp2 oAdd (gArg (zap (gCns #v[0] gA0))) (gArg (zd3 Ψ)))) gA0))) #v[0,17])) (gRet (gC (.str "NotIn"))) zbx) (gRet (gOpN za3 (gCns (gArg (zd9 Ψ)) gA0)))))
theorem zsz (Ψ:Str->Fn)(d:Nat):zao T bn Ψ (d+2) zdu=Za (zdt Ψ):=by kernel_rfl
theorem zs4:T.find? (·.nm==("_law_due" : Str))=Za zdu:=by kernel_rfl
abbrev z2s (Ψ:Str->Fn):GE:=za6 #v[6,16] (.tp [1,2]) (gZip (gVar 4) (gVar 5)) (zak #v[8,16]) (gVar 1)
abbrev zp1 (Ψ:Str->Fn):GS:=(gSeq (gSet [] 6 (zac [Zc,Zc] (Ψ "_law_values") (gCns #v[9,16] (gCns (gArg (z2s Ψ)) gA0)))) (gSeq (gSet [] 7 (zac [Zc,Zc] (Ψ "word_with") (gCns #v[3,4] #v[8,17]))) (gIfS (gOrT (zl2 (zak (zac [Zc,Zc] (Ψ "_law_same") (gCns #v[7,4] #v[2,15])))) (zl2 (zak (zac [Zc,Zc] (Ψ "_law_same") (gCns (gArg (zac [Zc,Zc] (Ψ "_law_told") (gCns #v[3,4] (gCns #v[7,4] gA0)))) #v[8,17]))))) #v[4,19] zbx)))
abbrev zvz (Ψ:Str->Fn):GS:=gFor [] (.nm 5) (zam (zco #v[4,8])) (zp1 Ψ)
abbrev zrd (Ψ:Str->Fn):GS:=(gSeq (gSet [] 3 (zac [Zd] (Ψ "_law_kind") (gCns (zaa 1) gA0))) (gSeq (gSet [] 4 (zac [Zc,Zc] (Ψ "_law_terms") (gCns #v[9,16] (gCns (gArg (gOp2 oIx (zaa 3) #v[1])) gA0)))) (gSeq (zvz Ψ) (gSeq (gSet [] 6 (zac [Zd,Zc] (Ψ "_law_bits") (gCns (zaa 1) (gCns (gArg (gOp2 #v[0,0,1] #v[1] #v[9,16])) gA0)))) (gIfS (zl2 (zak (zac [Zc,Zc] (Ψ "_law_same") (gCns (gArg (zac [Zc,Zc] (Ψ "_law_told") (gCns #v[3,4] #v[2,15]))) (gCns (gArg (zac [Zc,Zc] (Ψ "_law_due") (gCns #v[3,4] (gCns #v[6,4] gA0)))) gA0))))) #v[4,19] zbx)))))
abbrev ztm (Ψ:Str->Fn):GS:=gFor [] (.nm 2) (zbw (gCns #v[0,13] gA0)) (zrd Ψ)
abbrev z7n (Ψ:Str->Fn):GS:=(gSeq (gSet [] 1 (zac [Zc] (Ψ "_law_hand") #v[4,13])) (gSeq (ztm Ψ) (gRet (gC (.bl Zd)))))
theorem ydn (Ψ:Str->Fn)(d:Nat):zao T bn Ψ (d+2) zns=Za (z7n Ψ):=by kernel_rfl
theorem ydc:T.find? (·.nm==("law" : Str))=Za zns:=by kernel_rfl
abbrev CS:List Str:=["NotIn"]
abbrev zaz (Ψ:Str->Fn):GX:=gSqX (gPl (gAsg [] (.tp [2,3]) (gVar 0))) (gSqX (gPl (gSet [] 4 (zac [Zc,Zc] (Ψ "poly_of") (gCns #v[2,4] #v[0,15])))) (gSqX (gIfX (zak (gOp2 #v[8,9] (gArg (zac [Zc] (Ψ "degree") (gCns #v[4,4] gA0))) (zaa 3))) (gRm [.inr "the word ",.inl 1,.inr " is not of the kind of ",.inl 2,.inr " letters, ",.inl 3,.inr " at most at once"] "NotIn") (gPl zbx)) (gPl (gRet (gOpN za3 (gCns (gArg (zb9 Ψ)) gA0))))))
theorem zli (Ψ:Str->Fn)(d:Nat):zny T bn CS Ψ d zb4=Za (zaz Ψ):=by kernel_rfl
abbrev zax (Ψ:Str->Fn):GAs:=gCns #v[0,4] #v[0,15]
abbrev FX (Ψ:Str->Fn):FnX:=zc7 [Zc,Zc] 5 (zaz Ψ)
abbrev FT (Ψ:Str->Fn):Fn:=zaf [Zc,Zc] 5 (zwq [] [Zc,Zc] (FX Ψ) (zax Ψ) 2 3 4 CS)
noncomputable abbrev sm:Nat->Str->Fn:=sem2 T bn (zb7 "_law_told" λΨ _=>FT Ψ)
theorem znu (d:Nat):sm (d+2) "_law_told" = FT (sm d):=yat
theorem zvg (d:Nat):sm (d+3) "all_yes" = zaf [Zc] 1 (zwy (sm (d+2))):=zaq #v[0,0,7] zvj (zvp _ d)
theorem yay (d:Nat):sm (d+3) "says" = zaf [Zc,Zc] 2 (ybs (sm (d+2))):=zaq #v[0,0,7] z8i (yba _ d)
theorem z37 (d:Nat):sm (d+3) "where" = zaf [Zc] 1 (z7u (sm (d+2))):=zaq #v[0,0,7] z5e (z54 _ d)
theorem zkb (d:Nat):sm (d+3) "word_at" = zaf [Zc] 3 (zkl (sm (d+2))):=zaq #v[0,0,7] zye (zuv _ d)
theorem ybv (d:Nat):sm (d+3) "plus" = zaf [Zc,Zc] 2 (z71 (sm (d+2))):=zaq #v[0,0,7] z9s (yas _ d)
theorem z5s (d:Nat):sm (d+3) "times" = zaf [Zc,Zc] 2 (z6r (sm (d+2))):=zaq #v[0,0,7] z6o (z5o _ d)
theorem zob (d:Nat):sm (d+3) "letter_no" = zaf [Zc,Zc] 2 (zno (sm (d+2))):=zaq #v[0,0,7] zol (znt _ d)
theorem zwe (d:Nat):sm (d+3) "stepped" = zaf [Zc,Zc,Zc] 4 (zus (sm (d+2))):=zaq #v[0,0,7] zwa (zwj _ d)
theorem z6y (d:Nat):sm (d+3) "steps" = zaf [Zc,Zc] 4 (z7o (sm (d+2))):=zaq #v[0,0,7] z7p (z59 _ d)
theorem zkz (d:Nat):sm (d+3) "term_order" = zaf [Zc] 1 (zes (sm (d+2))):=zaq #v[0,0,7] zmu (zkw _ d)
theorem z1k (d:Nat):sm (d+3) "degree" = zaf [Zc] 1 (zlo (sm (d+2))):=zaq #v[0,0,7] zzk (zz9 _ d)
theorem zux (d:Nat):sm (d+3) "word_of" = zaf [Zc,Zc] 3 (zij (sm (d+2))):=zaq #v[0,0,7] zt4 (zxi _ d)
theorem zwr (d:Nat):sm (d+3) "poly_of" = zaf [Zc,Zc] 3 (zii (sm (d+2))):=zaq #v[0,0,7] zwn (zu2 _ d)
theorem zhp (d:Nat):sm (d+3) "longer_terms" = zaf [Zc,Zc] 2 (zd2 (sm (d+2))):=zaq #v[0,0,7] zhl (zhm _ d)
theorem z6q (d:Nat):sm (d+3) "terms" = zaf [Zc] 6 (zed (sm (d+2))):=zaq #v[0,0,7] z4q (z60 _ d)
theorem zos (d:Nat):sm (d+3) "word_with" = zaf [Zc,Zc] 3 (zcp (sm (d+2))):=zaq #v[0,0,7] zni (zn7 _ d)
theorem zon (d:Nat):sm (d+3) "_law_hand" = zaf [Zc] 6 (z8o (sm (d+2))):=zaq #v[0,0,7] znd (zpk _ d)
theorem zpf (d:Nat):sm (d+3) "_law_take" = zaf [Zd,Zc] 4 (zun (sm (d+2))):=zaq #v[0,0,7] znn (zoh _ d)
theorem zn9 (d:Nat):sm (d+3) "_law_bits" = zaf [Zd,Zc] 6 (ybd (sm (d+2))):=zaq #v[0,0,7] zoq (zof _ d)
theorem zpb (d:Nat):sm (d+3) "_law_word" = zaf [Zc] 3 (yaz (sm (d+2))):=zaq #v[0,0,7] zn6 (zoj _ d)
theorem zm1 (d:Nat):sm (d+3) "_law_terms" = zaf [Zc,Zc] 4 (zpq (sm (d+2))):=zaq #v[0,0,7] zky (zm0 _ d)
theorem zjn (d:Nat):sm (d+3) "_law_values" = zaf [Zc,Zc] 5 (zm7 (sm (d+2))):=zaq #v[0,0,7] zir (zka _ d)
theorem zfo (d:Nat):sm (d+3) "_law_poly_terms" = zaf [Zc,Zc] 6 (yby (sm (d+2))):=zaq #v[0,0,7] zff (zfg _ d)
theorem zd7 (d:Nat):sm (d+3) "_law_same" = zaf [Zc,Zc] 2 (zbd (sm (d+2))):=zaq #v[0,0,7] zn5 (znp _ d)
theorem znw (d:Nat):sm (d+3) "_law_kind" = zaf [Zd] 2 (zc1 (sm (d+2))):=zaq #v[0,0,7] zoi (zoo _ d)
theorem zsq (d:Nat):sm (d+3) "_law_due" = zaf [Zc,Zc] 3 (zdt (sm (d+2))):=zaq #v[0,0,7] zs4 (zsz _ d)
theorem yc5 (d:Nat):sm (d+3) "law" = zaf [Zc] 8 (z7n (sm (d+2))):=zaq #v[0,0,7] ydc (ydn _ d)
theorem z62 (Ψ:Str->Fn)(d:Nat):∀{p a:Pos},asM (compE deep) (sxOf T bn Ψ (d+1) zc0) [.Name "_law_kind_here" p,.Name "_law_word_here" a] zb4.m=Za (zax Ψ):=by intro p a;kernel_rfl
theorem nd_T:(T.map (·.nm)).Nodup:=by decide +kernel
theorem z9z {P:Program}{w:World}{K:Zg}{m:Str->Option Ze}{base:Heap} (ok:∀t∈T,FdOk K m t) (g:∀x∈bn,m x=Zb) (l:K.In base) (nb:base.Ns mainGlobals m) {e:Zh} (n:XCls K m "YesNoError" e) (j:m "isinstance" = Zb) (o:m "ValueError" = Zb)
  (a:∀c∈CS,∃C,m c=Za (.ref C)/\XCls K m c C/\L2.subIn K C e=Zd/\zzu K m C c) :
  ∀(d:Nat) (Ψ:Str->Fn),zf2 P w K m base T d Ψ->∀t∈T,∀Φ,zb7 "_law_told" (λΨ _=>FT Ψ) Ψ d t.nm=Za Φ->∀f b,Fun K t.nm t.nm t.st f b->m t.nm=Za (.ref f)->FnOk P w K m base CX0 (d+2) f b t.ps (spF K t.m Φ) :=
 z4h (pos:=⟨0,0,0,0⟩) (tt:=zc0) (td:=zb4) (tr:=zbk) (gx:=zaz) (as:=zax) nd_T ok g l nb (λh=>absurd h #v[0,0,7]) (by simp [T]) (by simp [T]) (by simp [T]) rfl n (i:=2) (jb:=3) (jn:=4) rfl rfl rfl (by kernel_rfl) (by kernel_rfl) (by kernel_rfl) (by kernel_rfl) (by kernel_rfl) (by kernel_rfl) #v[0,9] #v[0,9] #v[0,9] (λz h=>by rcases h with rfl|rfl|rfl<;>decide)
  zli (λΨ d=>z62 Ψ d) (λk f b F=>znb (ok zbk (by simp [T])) F (cn := "_law_caught") (mn := "_law_marks") rfl rfl rfl (by kernel_rfl) (by kernel_rfl) #v[0,9] #v[0,9] j o #v[0,0,7] #v[0,9] #v[0,9] #v[0,9]) a
theorem zlz {a b:GX}{en e1:En}{r:Option (En×FlX)}(c:a en=Za (e1,.fl .nx))(h:b e1=r):gSqX a b en=r:=by
 unfold gSqX;rw[c];exact h
theorem z95 {a b:GX}{en e1:En}{c:Str}(h:a en=Za (e1,.xc c)):gSqX a b en=Za (e1,.xc c):=by
 unfold gSqX;rw[h]
theorem plx {g:GS}{en e1:En}{f:Fl}(h:g en=Za (e1,f)):gPl g en=Za (e1,.fl f):=by
 unfold gPl;rw[h];rfl
theorem ifx {c:GT}{a b:GX}{en e1:En}{d:Bool}{r:Option (En×FlX)}(e:c en=Za (e1,d))(h:(if d then a e1 else b e1)=r):gIfX c a b en=r:=by
 unfold gIfX;rw[e];cases d<;>exact h
theorem ybr {m:List Bool}{n:Nat}{g:GX}{ws ws':List W}{en:En}{c:Str}(a:ws.length=m.length)(h:g (zau m ws++List.replicate (n-m.length) Zb)=Za (en,.xc c))(b:outsW m ws en=Za ws'):zc7 m n g ws=Za (.inr (c,ws')):=by
 unfold zc7;rw[if_pos a,h];show (outsW m ws en).bind _=_;rw[b];rfl
theorem z3y {m:List Bool}{n:Nat}{g:GX}{ws ws':List W}{en:En}{r:W×Bool}(a:ws.length=m.length)(h:g (zau m ws++List.replicate (n-m.length) Zb)=Za (en,.fl (.ret r)))(b:outsW m ws en=Za ws'):zc7 m n g ws=Za (.inl (ws',r)):=by
 unfold zc7;rw[if_pos a,h];show (outsW m ws en).bind _=_;rw[b];rfl
theorem zxz {Ψ:Str->Fn} (k:zto (Ψ "degree")) (g:zmw (Ψ "poly_of")) {m most:Nat}{f:Nat->Int} (c:m<=6) (n:∀i,Bit (f i)) (l:(wordOf (tab (2^m) f)).natAbs.log2<1920) (a:(m:Int).natAbs.log2<1920) (b:(most:Int).natAbs.log2<1920) (h:(most:Int)<mxL (lensI (duT m f)) (-1)) :
  FX Ψ [.tup #v[9,8],.int (wordOf (tab (2^m) f))]=Za (.inr ("NotIn",[.tup #v[9,8],.int (wordOf (tab (2^m) f))])):=by
 have e:=g m f c n;have j:=k (duT m f) (zxy c);have go:zaz Ψ #v[3,16]=Za (#v[3,7],.xc "NotIn"):=by
  unfold zaz;refine zlz (e1:=#v[8,13]) (plx (by simp! [])) ?_;refine zlz (e1:=#v[3,7]) (plx (by simp! [e])) ?_;refine z95 (ifx (d:=Zd) (e1:=#v[3,7]) (by simp! [j,Aj h]) ?_);refine (if_pos rfl).trans ((if_pos ?_).trans rfl);have p:decide ((wordOf (tab (2^m) f)).natAbs.log2<1920)=Zd:=Aj l;have w:decide ((m:Int).natAbs.log2<1920)=Zd:=Aj a;have o:decide ((most:Int).natAbs.log2<1920)=Zd:=Aj b;show (decide (_<=sizeLine)&&(decide _&&(decide (_<=sizeLine)&&(decide (_<=sizeLine)&&(decide _&&(decide (_<=sizeLine)&&(decide (_<=sizeLine)&&(decide _&&(decide (_<=sizeLine)&&(decide (_<=sizeLine)&&decide (_<=sizeLine)))))))))))=Zd;rw[p,w,o]
  decide
 exact ybr rfl go rfl
theorem zst {Ψ:Str->Fn} (g:zto (Ψ "degree")) (b:zmw (Ψ "poly_of")) {m most:Nat}{f:Nat->Int} (a:m<=6) (j:∀i,Bit (f i)) (h:¬ (most:Int)<mxL (lensI (duT m f)) (-1)) {en':En}{r:W×Bool}
  (k:gRet (gOpN za3 (gCns (gArg (zb9 Ψ)) gA0)) #v[3,7]=Za (#v[3,18]++en',.ret r)) :
  FX Ψ [.tup #v[9,8],.int (wordOf (tab (2^m) f))]=Za (.inl ([.tup #v[9,8],.int (wordOf (tab (2^m) f))],r)):=by
 have e:=b m f a j;have c:=g (duT m f) (zxy a);have go:zaz Ψ #v[3,16]=Za (#v[3,18]++en',.fl (.ret r)):=by
  unfold zaz;refine zlz (e1:=#v[8,13]) (plx (by simp! [])) ?_;refine zlz (e1:=#v[3,7]) (plx (by simp! [e])) ?_;refine zlz (e1:=#v[3,7]) (ifx (d:=Zc) (e1:=#v[3,7]) (by simp! [c,Aw h]) ((if_neg #v[0,9]).trans (plx rfl))) ?_;exact plx k
 exact z3y rfl go rfl
theorem z78 {Φ:FnX}{ws:List W}{p:List W×(W×Bool)}(h:Φ ws=Za (.inl p)):Φ.back ws=Za p:=by unfold FnX.back;rw[h]
theorem ybi {Φ:FnX}{ws:List W}{p:Str×List W}(h:Φ ws=Za (.inr p)):Φ.back ws=Zb:=by unfold FnX.back;rw[h]
theorem yc1 {Φ:FnX}{ws ws':List W}{c:Str}(h:Φ ws=Za (.inr (c,ws'))):Φ.exc c ws=Za (ws',(.non,Zc)):=by unfold FnX.exc;rw[h];exact if_pos rfl
theorem zsy {Ψ:Str->Fn}{k r:W}{x:Int} (h:FX Ψ [k,.int x]=Za (.inl ([k,.int x],(r,Zc)))):FT Ψ [k,.int x]=Za ([k,.int x],(r,Zc)):=by
 have e:=z78 h;have c:zac [Zc,Zc] (FX Ψ).back (zax Ψ) #v[4,7]=Za (#v[4,7],(r,Zc)):=by
  unfold zax;simp! [e]
 refine za8 (en:=[Za (k,Zc),Za (.int x,Zc),Za (r,Zc),Za (.non,Zc),Zb]) rfl ?_ rfl;show (match zac [Zc,Zc] (FX Ψ).back (zax Ψ) #v[4,7] with
  |some p=>if p.2.2 then Zb else Za (p.1.set 2 (#v[p.2.1,6]),Fl.ret (p.2.1,Zc))
  | none=>(CS.find? λc=>(zac [Zc,Zc] ((FX Ψ).exc c) (zax Ψ) #v[4,7]).isSome).bind λc =>
   (zac [Zc,Zc] ((FX Ψ).exc c) (zax Ψ) #v[4,10]).bind λp=>Za ((p.1.set 4 Zb).set 3 Zb,Fl.ret (.str c,Zc)))=_
 rw[c]
 rfl
theorem z10 {Ψ:Str->Fn}{k:W}{x:Int} (h:FX Ψ [k,.int x]=Za (.inr ("NotIn",[k,.int x]))):FT Ψ [k,.int x]=Za ([k,.int x],(.str "NotIn",Zc)):=by
 have e:=ybi h;have b:=yc1 h;have c:zac [Zc,Zc] (FX Ψ).back (zax Ψ) #v[4,7]=Zb:=by
  unfold zax;simp! [e]
 have a:zac [Zc,Zc] ((FX Ψ).exc "NotIn") (zax Ψ) #v[4,7]=Za (#v[4,7],(.non,Zc)):=by
  unfold zax;simp! [b]
 refine za8 (en:=[Za (k,Zc),Za (.int x,Zc),Za (.non,Zc),Zb,Zb]) rfl ?_ rfl;show (match zac [Zc,Zc] (FX Ψ).back (zax Ψ) #v[4,7] with
  |some p=>if p.2.2 then Zb else Za (p.1.set 2 (#v[p.2.1,6]),Fl.ret (p.2.1,Zc))
  | none=>(CS.find? λc=>(zac [Zc,Zc] ((FX Ψ).exc c) (zax Ψ) #v[4,7]).isSome).bind λc =>
   (zac [Zc,Zc] ((FX Ψ).exc c) (zax Ψ) #v[4,10]).bind λp=>Za ((p.1.set 4 Zb).set 3 Zb,Fl.ret (.str c,Zc)))=_
 rw [c];have f:(CS.find? λc=>(zac [Zc,Zc] ((FX Ψ).exc c) (zax Ψ) #v[4,7]).isSome)=Za "NotIn" := by
  show (match (zac [Zc,Zc] ((FX Ψ).exc "NotIn") (zax Ψ) #v[4,10]).isSome with|true=>Za ("NotIn" : Str)|false=>_)=_;rw[a];rfl
 dsimp only;rw[f];show (zac [Zc,Zc] ((FX Ψ).exc "NotIn") (zax Ψ) #v[4,10]).bind _=_;rw[a];rfl
theorem zvm {Ψ:Str->Fn}{ws:List W}(A:ws.length<=64)(h:∀w∈ws,Ψ "_law_same" [w,w]=Za ([w,w],#v[5,10])):zaf [Zc,Zc] 2 (zbd Ψ) [.tup ws,.tup ws]=Za ([.tup ws,.tup ws],#v[5,10]):=by
 have t:(1000:Nat)<=sizeLine:=by decide
 have l:(zipW ws ws).length=ws.length:=by rw[zeu,Nat.min_self]
 have p:zdj Ψ #v[8,18]=Za (#v[8,18],(.lst ((List.replicate ws.length Zd).map W.bl),Zd)):=by
  unfold zdj;obtain⟨m,out,a,⟨s,r,y,rfl⟩,rfl⟩:=zdy (cap:=#v[6,16]) (T:=.tp [1,2]) (it:=gZip (gVar 0) (gVar 1)) (tc:=gYes) (te:=zac [Zc,Zc] (Ψ "_law_same") (gCns #v[1,4] #v[3,13])) (λi c d=>(∃u b j,c=[u,b,j])/\d=(List.replicate i Zd).map W.bl) (en:=#v[8,18]) (e0:=#v[8,18]) (ws:=zipW ws ws) rfl rfl (by rw[l];symm) ⟨⟨_,_,_,rfl⟩,rfl⟩ λi w c d k o=>by
   obtain⟨⟨u,b,j,rfl⟩,rfl⟩:=o;have f:i<ws.length:=by have:=(Ah.mp k).1;symm
   have g:ws[i]?=Za ws[i]:=Ad f;have z:=zf4 g g;rw[k] at z;ext z;have e:=h ws[i] (List.getElem_mem f);generalize ws[i]=x at e;refine⟨[u,#v[x,6],#v[x,6]],rfl,.inl ⟨[u,#v[x,6],#v[x,6]],[u,#v[x,6],#v[x,6]],#v[5,10],rfl,?_,⟨_,_,_,rfl⟩,?_⟩⟩
   ·simp! [e]
   ·rw[List.replicate_succ',Cm];rfl
  rw[l] at a;exact a
 have n:=z17 ws.length;have q:oIsi .tuple (.tup ws)=Za #v[5,10]:=rfl;unfold zbd;simp! [q,p,n]
theorem z87 (Ψ:Str->Fn):zks (zaf [Zc,Zc] 2 (zbd Ψ)):=λa b=>rfl
abbrev cI (t:List Nat):List Int:=t.map λl:Nat=>(l:Int)
theorem ydk (t:List Nat):tmW t=.tup ((cI t).map W.int):=by unfold tmW cI;rw[Ei];rfl
theorem yau (t:List Nat):dW (tmW t)=Za (ndI (cI t)):=by rw[ydk,z65]
theorem zw7 (t:List Nat):(ndI (cI t)).canLay0=Zd/\(ndI (cI t)).depth<=1:=by
 constructor
 ·unfold ndI;rw[PyData.canLay0];exact zfr _ _ λx _=>by rw[PyData.canLay0]
 ·unfold ndI;rw[PyData.depth];have:=zh1 (c:=0) PyData.int (cI t) λx _=>by rw[PyData.depth];exact Af _
  symm
theorem ya9 {t u:List Nat}(h:cI t=cI u):t=u:=zjb h
theorem z3c (t u:List Nat):PyData.eqv (ndI (cI t)) (ndI (cI u))=decide (t=u):=by
 unfold ndI;rw[PyData.eqv,PySem.W.ked_eqvAll];exact decide_eq_decide.mpr ⟨ya9,λh=>h ▸ rfl⟩
theorem z0r (t:List Nat)(ts:List (List Nat)):oInV Zc (tmW t) (.tup (ts.map tmW))=Za (.bl (decide (t∈ts)),Zc):=by
 have c:oIn Zc (tmW t) (.tup (ts.map tmW))=Zb:=rfl;have e:dWs (ts.map tmW)=Za (ts.map λu=>ndI (cI u)):=zn3 tmW (λu=>ndI (cI u)) yau ts;have a:PyData.canLayAll0 (ts.map λu=>ndI (cI u))=Zd:=zfr _ _ λu _=>(zw7 u).1;have f:((ts.map λu=>ndI (cI u)).any λd=>PyData.eqv d (ndI (cI t)))=decide (t∈ts):=by
  rw[List.any_map,Er,List.any_eq_true,decide_eq_true_iff];constructor
  ·rintro ⟨u,b,h⟩;have h:PyData.eqv (ndI (cI u)) (ndI (cI t))=Zd:=h;rw[z3c] at h;exact (Ar h) ▸ b
  ·intro h;refine⟨t,h,?_⟩;show PyData.eqv (ndI (cI t)) (ndI (cI t))=Zd;rw[z3c];exact Aj rfl
 have g:=(zw7 t).2;unfold oInV;rw[c];show (dW (tmW t)).bind _=_;rw[yau];show (dWs (ts.map tmW)).bind _=_;rw[e];show (if (ndI (cI t)).canLay0&&PyData.canLayAll0 (ts.map λu=>ndI (cI u))&&decide ((ndI (cI t)).depth<=90) then Za (W.bl ((ts.map λu=>ndI (cI u)).any λd=>PyData.eqv d (ndI (cI t))),Zc) else Zb)=_;rw[(zw7 t).1,a,Aj (show (ndI (cI t)).depth<=90 by symm),f];rfl
theorem yda {Ψ:Str->Fn} (g:zfb (Ψ "terms")) {m t:Nat}{P:List (List Nat)}{x:Int}{v2 v3:Option (W×Bool)} (k:1<=m) (f:m<=6) (d:t<=m) (j:(zab m t).length<=64) :
  zb9 Ψ #v[9,10]=Za (#v[9,10],(.lst ((zab m t).map λu=>.int (if u∈P then 1 else 0)),Zd)):=by
 have e:=g m t k f d;generalize zab m t=b at e j;unfold zb9;refine zfv (cap:=[Zb,Zb,Za 4]) (it:=zam (zac [Zc] (Ψ "terms") #v[4,13])) (xs:=[#v[(P.map tmW),3]]) (en:=#v[9,10]) (e0:=#v[9,10]) (ws:=b.map tmW) (rs:=b.map λu=>.int (if u∈P then 1 else 0)) (by simp! [e]) (by rw[Ab];symm) (by rw[Ab,Ab]) rfl rfl rfl (λ_ _=>rfl) λi l w r h c=>?_;rw[Ai] at h;rw[Ai] at c;cases ha:b[i]? with
 |none=>rw[ha] at h;cases h
 | some u =>
  rw[ha] at h c;cases h;cases c;refine⟨#v[tmW u,6],Zc,?_⟩;by_cases a:u∈P
  ·simp! [z0r u P,Aj a,if_pos a]
  ·simp! [z0r u P,Aw a,if_neg a]
abbrev dgW (m t:Nat) (f:Nat->Int):W:=.tup ((zab m t).map λu=>.int (if u∈duT m f then 1 else 0))
theorem zt6 {k:Nat}(h:k<=6):((k:Nat):Int).natAbs.log2<1920:=by
 rw[Int.natAbs_natCast];exact Gr (Nat.log2_le_self k) #v[]
theorem z4m {Ψ:Str->Fn} (d:zto (Ψ "degree")) (b:zmw (Ψ "poly_of")) (k:zfb (Ψ "terms")) {m t:Nat}{f:Nat->Int} (n:1<=m) (a:m<=6) (j:t<=m) (e:∀i,Bit (f i)) (l:(zab m t).length<=64) (g:(wordOf (tab (2^m) f)).natAbs.log2<1920) :
  FT Ψ [kdW m t,.int (wordOf (tab (2^m) f))]=Za ([kdW m t,.int (wordOf (tab (2^m) f))],(if (t:Int)<mxL (lensI (duT m f)) (-1) then .str "NotIn" else dgW m t f,Zc)):=by
 by_cases h:(t:Int)<mxL (lensI (duT m f)) (-1)
 ·rw[if_pos h];exact z10 (zxz d b a e g (zt6 a) (zt6 #v[]) h)
 ·rw[if_neg h];refine zsy (zst d b a e h (en':=[#v[(m:Nat),0],#v[(t:Nat),0],#v[((duT m f).map tmW),3]]) ?_);have c:=yda (P:=duT m f) (x:=wordOf (tab (2^m) f)) (v2:=#v[(m:Nat),0]) (v3:=#v[(t:Nat),0]) k n a j l;unfold kdW at c;simp! [c]
  rfl
abbrev chz:List (List Nat)->List Int->List (List Nat)
 |u::t,d::a=>if d=1 then u::chz t a else chz t a
 |_,_=>[]
theorem zd8:∀(t:List (List Nat)) (a:List Int),(chz t a).Sublist t
 |[],_=>List.Sublist.refl _
 |u::t,[]=>List.nil_sublist _
 | u::t,d::a=>by
  unfold chz;split
  ·exact (zd8 t a).cons_cons u
  ·exact (zd8 t a).cons u
theorem zt2:∀{t:List (List Nat)}{a:List Int},t.Nodup->t.length=a.length->Bits a->(t.map λu=>if u∈chz t a then (1:Int) else 0)=a
 |[],[],_,_,_=>rfl
 |[],_::_,_,h,_=>by cases h
 |_::_,[],_,h,_=>by cases h
 | u::t,d::a,m,g,b=>by
  have n:=By.mp m;have i:=zt2 n.2 (Nat.succ.inj g) (λx l=>b x (Ag _ l));have k:u ∉ chz t a:=λh=>n.1 ((zd8 t a).mem h);have f:=b d At;rw[Av];unfold chz;by_cases c:d=1
  ·rw [if_pos c,if_pos At,c]
   congr 1;refine Eq.trans (Gm λv j=>?_) i;have ne:v≠u:=λe=>n.1 (e ▸ j);by_cases q:v∈chz t a
   ·rw[if_pos q,if_pos (Ag _ q)]
   ·rw[if_neg q,if_neg λz=>(Am.mp z).elim ne q]
  ·rw [if_neg c,if_neg k,i]
   congr 1;rcases f with e|e
   ·exact e.symm
   ·exact absurd e c
theorem zq2:∀{ts:List (List Nat)}{ds:List Int}{i:Nat}{u:List Nat}{d:Int},ts[i]?=Za u->ds[i]?=Za d->chz (ts.take (i+1)) (ds.take (i+1))=chz (ts.take i) (ds.take i)++if d=1 then [u] else []
 |[],_,_,_,_,h,_=>nomatch h
 |_::_,[],_,_,_,_,h=>nomatch h
 | v::ts,e::ds,0,u,d,h1,h2=>by
  cases h1;cases h2;rw[Do,Do,Dj,Dj];unfold chz;split<;>rfl
 | v::ts,e::ds,i+1,u,d,h1,h2=>by
  have ih:=zq2 (ts:=ts) (ds:=ds) (i:=i) (u:=u) (d:=d) h1 h2;rw[Do,Do,Do,Do];unfold chz;rw[ih];split<;>rfl
theorem z2w {it:GL}{en e0:En}{ts:List (List Nat)}{ds:List Int}(q:it en=Za (e0,zipW (ts.map tmW) (ds.map W.int)))(n:∀c,zar #v[6,16] e0 c=e0)(h:ts.length=ds.length)(B:ts.length<=64):za6 #v[6,16] (.tp [1,2]) it (zak #v[8,16]) (gVar 1) en=Za (e0,(.lst ((chz ts ds).map tmW),Zd)):=by
 have t:(1000:Nat)<=sizeLine:=by decide
 have l:(zipW (ts.map tmW) (ds.map W.int)).length=ts.length:=by rw[zeu,Ab,Ab,<-h,Nat.min_self]
 obtain⟨m,out,b,⟨s,r,A,rfl⟩,rfl⟩:=zdy (cap:=#v[6,16]) (T:=.tp [1,2]) (it:=it) (tc:=zak #v[8,16]) (te:=gVar 1) (λi c f=>(∃u e j,c=[u,e,j])/\f=(chz (ts.take i) (ds.take i)).map tmW) q rfl (by rw[l];symm) ⟨⟨_,_,_,rfl⟩,rfl⟩ λi w c f k o=>by
  obtain⟨⟨u,e,j,rfl⟩,rfl⟩:=o;have p:i<ts.length:=by have:=(Ah.mp k).1;symm
  have a:ts[i]?=Za ts[i]:=Ad p;have g:ds[i]?=Za (ds[i]'#v[]):=Ad #v[];generalize ts[i]=x at a;generalize ds[i]'#v[]=d at g;have z:=zf4 (xs:=ts.map tmW) (ys:=ds.map W.int) (i:=i) (x:=tmW x) (y:=.int d) (by rw[Ai,a];rfl) (by rw[Ai,g];rfl);rw[k] at z;ext z;rw[zq2 a g];refine⟨[u,#v[tmW x,6],#v[d,0]],rfl,?_⟩;by_cases c:d=1
  ·refine .inl ⟨[u,Za (tmW x,Zc),Za (.int d,Zc)], [u,Za (tmW x,Zc),Za (.int d,Zc)],(tmW x,Zc), ?_,rfl,⟨_,_,_,rfl⟩, ?_⟩
   ·simp! [c]
   ·rw[if_pos c,Cm];rfl
  ·refine .inr ⟨[u,Za (tmW x,Zc),Za (.int d,Zc)], ?_,⟨_,_,_,rfl⟩, ?_⟩
   ·simp! [Aw c]
   ·rw[if_neg c,Bf]
 rw[l,Cz (Af _),Cz (Nat.le_of_eq h.symm),n] at b;exact b
theorem zts {m t:Nat}{P:List (List Nat)}(c:m<=6)(i:t<=m)(h:P.Sublist (zab m t))(u:List Nat):u∈duT m (valF P)↔u∈P:=by
 have p:=zd4 c;have g:=zqq c i h;unfold duT;rw[Ck,Dy];constructor
 ·rintro ⟨a,b⟩;have l:=zn0 c a;rw[zre c g #v[]] at b;unfold indF at b;split at b
  ·rename_i z;obtain⟨v,f,e⟩:=Cp.mp z;exact zqz c (g.2 v f) a e ▸ f
  ·cases b
 ·intro d;have a:=g.2 u d;have l:=zn0 c a;refine⟨a,?_⟩;rw[zre c g #v[]];unfold indF;rw[if_pos (Cp.mpr ⟨u,d,rfl⟩)]
theorem z8d:∀m t:Fin 7,∀u∈zab m.val t.val,u.length<=t.val:=by decide +kernel
theorem z2u {ts:List (List Nat)}:mxL (lensI ts) (-1)=mx1 (-1) (lensI ts):=(z61 z5q).symm
theorem z51 {m t:Nat}{P:List (List Nat)}(d:m<=6)(c:t<=m)(h:P.Sublist (zab m t)):¬ (t:Int)<mxL (lensI (duT m (valF P))) (-1):=by
 rw[z2u];have:=(zp8 (B:=(t:Int)) (lensI (duT m (valF P))) (-1)).mpr ⟨by symm,λx b=>by
  obtain⟨u,a,rfl⟩:=Cp.mp b;have:=z8d ⟨m,by symm⟩ ⟨t,by symm⟩ u (h.mem ((zts d c h u).mp a));have:u.length<=t:=this;symm⟩
 symm
theorem z8z {m t:Nat}{ds:List Int}(a:m<=6)(h:t<=m)(c:(zab m t).length=ds.length)(b:Bits ds):dgW m t (valF (chz (zab m t) ds))=.tup (ds.map W.int):=by
 have n:=zqe ⟨m,by symm⟩ ⟨t,by symm⟩;have n:(zab m t).Nodup:=n;have e:=congrArg (List.map W.int) (zt2 n c b);rw[Ei] at e;unfold dgW;rw[<-e];congr 1;refine Gm λu _=>?_;show W.int (if u∈duT m (valF (chz (zab m t) ds)) then 1 else 0)=W.int (if u∈chz (zab m t) ds then 1 else 0);congr 1;by_cases q:u∈chz (zab m t) ds
 ·rw[if_pos q,if_pos ((zts a h (zd8 _ _) u).mpr q)]
 ·rw[if_neg q,if_neg λz=>q ((zts a h (zd8 _ _) u).mp z)]
abbrev zim (Φ:Fn):Prop:=∀(m t:Nat) (d:List Int),1<=m->m<=6->t<=m->(zab m t).length=d.length->Φ [kdW m t,.tup (d.map W.int)]=Za ([kdW m t,.tup (d.map W.int)],(.int (wordOf (tab (2^m) (valF (chz (zab m t) d)))),Zc))
theorem z45 {Ψ:Str->Fn}(j:zfb (Ψ "terms"))(d:zrc (Ψ "word_of")):zim (zaf [Zc,Zc] 3 (zcp Ψ)):=λm t ds k h a f=>by
 obtain⟨b,l⟩:=zbq (m:=m) (most:=t) h #v[];have g:=j m t k h a;have sub:=zd8 (zab m t) ds;have e:=d m (chz (zab m t) ds) h (by have:=sub.length_le;symm) (zqq h a sub);have i:gZip (zac [Zc] (Ψ "terms") #v[4,13]) (gVar 1) #v[0,12]=Za (#v[0,12],zipW ((zab m t).map tmW) (ds.map W.int)):=by
  simp! [g]
 have c:=z2w i (λ_=>rfl) f b;have c:zfw Ψ #v[0,12]=Za (#v[0,12],(.lst ((chz (zab m t) ds).map tmW),Zd)):=c;have o:za3 [.lst ((chz (zab m t) ds).map tmW)]=#v[((chz (zab m t) ds).map tmW),3]:=rfl;unfold zcp;refine za8 (en:=#v[9,14]) rfl (zda (e1:=#v[9,14]) ?_ ?_) rfl
 ·simp! [c,o]
 ·unfold kdW;simp! [e]
abbrev zfm (Φ:Fn):Prop:=∀(m:Nat) (a:List (List Nat)),m<=6->a.length<=64->(∀t∈a,∀l∈t,l<64)->(∀t∈a,t.length<=64)->Φ [.int (m:Nat),.lst (a.map tmW)]=Za ([.int (m:Nat),.lst (a.map tmW)],(.lst ((tab (2^m) (valF a)).map W.int),Zd))
theorem z2e (Ψ:Str->Fn):zfm (zaf [Zc,Zc] 5 (zm7 Ψ)):=λm ts j B x n=>by
 have A:=zd4 j;have f:∃a v4,ze9 Ψ [#v[(m:Nat),0],#v[(ts.map tmW),1],#v[[],2],Zb,Zb]=Za ([#v[(m:Nat),0],#v[(ts.map tmW),1],#v[((tab (2^m) (valF ts)).map W.int),2],a,v4],.nx):=by
  unfold ze9;obtain⟨s,h,a,v4,rfl⟩:=zbs (mp:=[]) (T:=.nm 3) (body:=zfs Ψ) (λi e=>∃a v4,e=[#v[(m:Nat),0],#v[(ts.map tmW),1],#v[((tab i (valF ts)).map W.int),2],a,v4]) (i3v (m:=m) (b:=#v[(ts.map tmW),1]) (c:=#v[[],2]) (d:=Zb) (e:=Zb) j) ⟨_,_,rfl⟩ λi w e z r=>by
   obtain⟨a,v4,rfl⟩:=r;obtain⟨C,rfl⟩:=ze2 z;rw[Int.zero_add];have o:zfk Ψ #v[2,10]=Za (#v[2,10],(.lst ((ts.filter λt=>hasT t i).map tmW),Zd)):=by
    unfold zfk;refine z7w (xs:=[#v[(i:Nat),0]]) tmW (λt=>hasT t i) tmW (e0:=#v[2,10]) rfl #v[] rfl rfl rfl (λ_ _=>rfl) λg t k=>?_;have y:=c1v (Ψ:=Ψ) (v0:=g) (t:=t) (p:=i) (x t k) (n t k);have q:(t.map λl=>decide (i/2^l%2=1)).all id=hasT t i:=by unfold hasT;rw[List.all_map];rfl
    refine⟨#v[tmW t,6],?_,λ_=>⟨#v[tmW t,6],Zc,?_⟩⟩
    ·simp! [y,q]
    ·simp! []
   have lt:(tab i (valF ts)).length<16777216:=by rw[zat];symm
   have u:(((ts.filter λt=>hasT t i).length:Nat):Int)%2=valF ts i:=by unfold valF;symm
   refine⟨_,[#v[(m:Nat),0],#v[(ts.map tmW),1],#v[((tab (i+1) (valF ts)).map W.int),2],#v[(i:Nat),0],#v[((ts.filter λt=>hasT t i).map tmW),2]],rfl,.inl ?_,_,_,rfl⟩;rw[zrg i,Cm];unfold zfs;simp! [o,Ab,u,lt,Av,List.map_nil]
  rw[zeq] at h;exact⟨a,v4,h⟩
 obtain⟨a,v4,f⟩:=f;have e:zm7 Ψ=zm7 Ψ:=rfl;rw[e];unfold zm7;simp! [f]
theorem z22 (b:Bool):oInt [.bl b]=#v[(if b then 1 else 0),0]:=by cases b<;>rfl
abbrev z1g (Φ:Fn):Prop:=∀(m t:Nat) (x:List Int),1<=m->m<=6->t<=m->Bits x->x.length=2^m->Φ [kdW m t,.lst (x.map W.int)]=Za ([kdW m t,.lst (x.map W.int)],(if (t:Int)<mxL (lensI (duT m λi=>x.getD i 0)) (-1) then .str "NotIn" else dgW m t λi=>x.getD i 0,Zc))
theorem ybc {Ψ:Str->Fn}{ts:List (List Nat)}{v0 v1:Option (W×Bool)} (b:ts.length<=64):zd3 Ψ #v[1,19]=Za (#v[1,19],(.lst ((lensI ts).map W.int),Zd)):=by
 unfold zd3;refine zfv (cap:=[Zb,Zb]) (it:=zam (gVar 2)) (xs:=[]) (en:=[v0,v1,#v[(ts.map tmW),3]]) (e0:=[v0,v1,#v[(ts.map tmW),3]]) (ws:=ts.map tmW) (rs:=(lensI ts).map W.int) (by simp! []) (by rw[Ab];symm) (by unfold lensI;rw[Ab,Ab,Ab]) rfl rfl rfl (λ_ _=>rfl) λi v0 w r h a=>?_;unfold lensI at a;rw[Ai] at h;rw[Ai,Ai] at a;cases ha:ts[i]? with
 |none=>rw[ha] at h;exists h
 | some t =>
  rw[ha] at h a;ext h;ext a;refine⟨#v[tmW t,6],Zc,?_⟩;unfold tmW;simp! [Ab]
theorem yca {Ψ:Str->Fn} (f:zdk (Ψ "_law_terms")) {m t:Nat}{P:List (List Nat)}{v1:Option (W×Bool)} (d:m<=6) (k:t<=m) (g:(zab m t).length<=64) :
  zd9 Ψ #v[1,13]=Za (#v[1,13],(.lst ((zab m t).map λu=>.int (if u∈P then 1 else 0)),Zd)):=by
 have e:=f m t d #v[];generalize zab m t=b at e g;unfold zd9;refine zfv (cap:=[Zb,Zb,Za 2]) (xs:=[#v[(P.map tmW),3]]) (en:=#v[1,13]) (e0:=#v[1,13]) (ws:=b.map tmW) (rs:=b.map λu=>.int (if u∈P then 1 else 0)) (by unfold kdW;simp! [e]) (by rw[Ab];symm) (by rw[Ab,Ab]) rfl rfl rfl (λ_ _=>rfl) λi j w r h c=>?_;rw[Ai] at h;rw[Ai] at c;cases ha:b[i]? with
 |none=>rw[ha] at h;exists h
 | some u =>
  rw[ha] at h c;ext h;ext c;refine⟨#v[tmW u,6],Zc,?_⟩;by_cases a:u∈P
  ·simp! [z0r u P,Aj a,if_pos a,z22]
  ·simp! [z0r u P,Aw a,if_neg a,z22]
theorem z6h {t:Nat}{ns:List Int}:(t:Int)<mx1 0 ns↔(t:Int)<mx1 (-1) ns:=by
 have a:=zp8 (B:=(t:Int)) ns 0;have b:=zp8 (B:=(t:Int)) ns (-1);constructor
 ·intro h;refine Int.not_le.mp λz=>?_;exact Int.not_le.mpr h (a.mpr ⟨by symm,(b.mp z).2⟩)
 ·intro h;refine Int.not_le.mp λz=>?_;exact Int.not_le.mpr h (b.mpr ⟨by symm,(a.mp z).2⟩)
theorem z80 {Ψ:Str->Fn}(p:zk5 (Ψ "_law_poly_terms"))(n:zdk (Ψ "_law_terms")):z1g (zaf [Zc,Zc] 3 (zdt Ψ)):=λm t xs w h s k l=>by
 have g:=p m xs h k l;obtain⟨j,x⟩:=zbq (m:=m) (most:=t) h #v[];have r:(duT m λi=>xs.getD i 0).length<=64:=zxy h;have a:=ybc (Ψ:=Ψ) (v0:=#v[kdW m t,6]) (v1:=#v[(xs.map W.int),1]) r;have f:=yca (P:=duT m λi=>xs.getD i 0) (v1:=#v[(xs.map W.int),1]) n h s j;have d:=ydu 0 (lensI (duT m λi=>xs.getD i 0));have q:=z6h (t:=t) (ns:=lensI (duT m λi=>xs.getD i 0));rw[<-z2u] at q;have e:oAdd (.lst [W.int 0]) (.lst ((lensI (duT m λi=>xs.getD i 0)).map W.int))=#v[(W.int 0::(lensI (duT m λi=>xs.getD i 0)).map W.int),2]:=by
  rw[zth (by unfold lensI;rw[Ab,Ab,sizeLine_eq,List.length_singleton];symm)];rfl
 unfold zdt;refine za8 (en:=#v[1,14]) rfl (zda (e1:=#v[1,14]) ?_ ?_) rfl
 ·unfold kdW;simp! [g]
 ·by_cases c:(t:Int)<mxL (lensI (duT m λi=>xs.getD i 0)) (-1)
  ·rw[if_pos c];have b:=Aj (q.mpr c);unfold kdW at a ⊢;simp! [a,e,d,b]
  ·rw[if_neg c];have b:=Aw (λz=>c (q.mp z));have o:za3 [.lst ((zab m t).map λu=>W.int (if u∈duT m λi=>xs.getD i 0 then 1 else 0))]=#v[dgW m t λi=>xs.getD i 0,6]:=rfl;unfold kdW at a f ⊢;simp! [a,e,d,b,f,o]
theorem z7c {Ψ:Str->Fn}(a:zks (Ψ "_law_same"))(ds:List Int)(h:ds.length<=64):zaf [Zc,Zc] 2 (zbd Ψ) [.tup (ds.map W.int),.tup (ds.map W.int)]=Za ([.tup (ds.map W.int),.tup (ds.map W.int)],#v[5,10]):=by
 refine zvm (by rw[Ab];exact h) λw b=>?_;obtain⟨l,_,rfl⟩:=Cp.mp b;have e:=a l l;rw[Aj rfl] at e;exact e
theorem z4g (Ψ:Str->Fn):zaf [Zc,Zc] 2 (zbd Ψ) [.str "NotIn",.str "NotIn"]=Za ([.str "NotIn",.str "NotIn"],#v[5,10]):=by kernel_rfl
abbrev zqh (Φ:Fn):Prop:=∀(k:Nat) (a:W),HS k a->k+10<big->∃s m t,Φ [a]=Za ([s],(kdW m t,Zc))/\HS (k+2) s/\1<=m/\m<=6/\t<=m
theorem z7k {Ψ:Str->Fn}(c:zqd (Ψ "_law_take")):zqh (zaf [Zd] 2 (zc1 Ψ)):=λk i g o=>by
 obtain⟨a,w,d,j,q,u⟩:=c k i 6 g #v[] #v[0,9] #v[0,9];obtain⟨r,rfl⟩:=Int.eq_ofNat_of_zero_le q;have e:(1:Int)+(r:Int)=((1+r:Nat):Int):=by symm
 have b:1+r<=6:=by symm
 have h:1<=1+r:=by symm
 generalize 1+r=m at e b h;obtain⟨s,n,f,l,p,x⟩:=c (k+1) a ((m:Int)+1) j #v[] #v[] #v[];obtain⟨t,rfl⟩:=Int.eq_ofNat_of_zero_le p;refine⟨s,m,t,?_,l,h,b,by symm⟩;unfold zc1 kdW;refine za8 (en:=[#v[s,5],#v[(m:Nat),0]]) rfl (zda (e1:=[#v[a,5],#v[(m:Nat),0]]) ?_ ?_) rfl
 ·simp! [d,e]
 ·simp! [f]
abbrev zia (Φ:Fn):Prop:=∀(m t:Nat) (f:Nat->Int),1<=m->m<=6->t<=m->(∀i,Bit (f i))->Φ [kdW m t,.int (wordOf (tab (2^m) f))]=Za ([kdW m t,.int (wordOf (tab (2^m) f))],(if (t:Int)<mxL (lensI (duT m f)) (-1) then .str "NotIn" else dgW m t f,Zc))
theorem z53 {xs:List Int}(h:Bits xs)(a:xs.length<=64):(wordOf xs).natAbs.log2<1920:=by
 have b:=zb5 h;have n:=zdg h;refine z0v (k:=64) ?_ #v[0,9];have q:2^xs.length<=2^64:=Ea #v[0,9] a;have:(2:Int)^xs.length<=2^64:=by exact_mod_cast q
 symm
theorem z46 {Ψ:Str->Fn}(d:zto (Ψ "degree"))(b:zmw (Ψ "poly_of"))(g:zfb (Ψ "terms")):zia (FT Ψ):=λm t f j h e a=>by
 have p:=zd4 h;obtain⟨c,k⟩:=zbq (m:=m) (most:=t) h #v[];exact z4m d b g j h e a c (z53 (zas λi _=>a i) (by rw[zat];exact p))
abbrev zmj (Φ:Fn):Prop:=∀d:List Int,d.length<=64->Φ [.tup (d.map W.int),.tup (d.map W.int)]=Za ([.tup (d.map W.int),.tup (d.map W.int)],#v[5,10])
abbrev zwd (Φ:Fn):Prop:=Φ [.str "NotIn",.str "NotIn"]=Za ([.str "NotIn",.str "NotIn"],#v[5,10])
theorem z8r (c:Int){n:Nat}(h:n<=64):oMult (.lst [.int c]) (.int (n:Nat))=#v[((tab n λ_=>c).map W.int),2]:=by
 have l:sizeLine=16777216:=sizeLine_eq;have t:tab n (λ_=>c)=List.replicate n c:=by unfold tab;rw[List.map_const',Da]
 rw[zlu (xs:=[.int c]) (k:=(n:Int)) (by refine⟨by symm,by symm,?_⟩;show 1*(n:Int).toNat<=sizeLine;symm),zjk,Dm,t,List.map_replicate]
theorem yal {Ψ:Str->Fn} (u:zfm (Ψ "_law_values")) (B:zim (Ψ "word_with")) (q:zks (Ψ "_law_same")) (s:zmj (Ψ "_law_same")) (H:zh7 (Ψ "_law_word")) (w:zia (Ψ "_law_told")) {m t:Nat}{ds:List Int}{o:Bool}{v0 v1 v2 v6 v7:Option (W×Bool)} (j:1<=m) (a:m<=6) (h:t<=m) (r:Bits ds) (b:(zab m t).length=ds.length) :
  ∃F D,zp1 Ψ #v[3,10]=Za ([v0,v1,v2,#v[kdW m t,6],#v[((zab m t).map tmW),1],#v[(ds.map W.int),1],F,D],.nx):=by
 obtain⟨n,k⟩:=zbq (m:=m) (most:=t) a #v[];have sub:=zd8 (zab m t) ds;have A:=z8z a h b r;have E:=z51 a h sub;have p:=B m t ds j a h b;have C:gZip (gVar 4) (gVar 5) #v[3,10]=Za (#v[0,14],zipW ((zab m t).map tmW) (ds.map W.int)):=by
  cases o<;>rfl
 have c:=z2w C (λ_=>rfl) b n;have c:z2s Ψ #v[3,10]=Za (#v[0,14],(.lst ((chz (zab m t) ds).map tmW),Zd)):=c;have G:(chz (zab m t) ds).length<=64:=by have:=sub.length_le;symm
 have e:=u m (chz (zab m t) ds) a G (λt h l b=>by have:=(k t (sub.mem h)).2 l b;symm) (λt h=>by have:=(k t (sub.mem h)).1;symm);have f:=w m t (valF (chz (zab m t) ds)) j a h (z5f _);rw[if_neg E,A] at f;generalize chz (zab m t) ds=P at *
 have z:=H (tab (2^m) (valF P));have g:=q (wordOf (tab (2^m) (valF P))) (wordOf (tab (2^m) (valF P)));rw[Aj rfl] at g;have x:=s ds #v[];have d:za3 [.lst (ds.map W.int)]=#v[(ds.map W.int),3]:=rfl;generalize zab m t=i at *
 generalize tab (2^m) (valF P)=y at *
 refine⟨#v[(y.map W.int),1],#v[(wordOf y),0],?_⟩;unfold zp1;refine zda (e1:=[v0,v1,v2,#v[kdW m t,6],#v[(i.map tmW),1],#v[(ds.map W.int),1],#v[(y.map W.int),2],v7]) ?_ (zda (e1:=[v0,v1,v2,#v[kdW m t,6],#v[(i.map tmW),1],#v[(ds.map W.int),1],#v[(y.map W.int),2],#v[(wordOf y),0]]) ?_ ?_)
 ·unfold kdW at c ⊢;simp! [c,e]
 ·simp! [d,p]
 ·simp! [z,g,d,f,x]
theorem yaj {Ψ:Str->Fn} (z:zl9 (Ψ "_law_bits")) (u:zfm (Ψ "_law_values")) (A:zim (Ψ "word_with")) (n:zks (Ψ "_law_same")) (q:zmj (Ψ "_law_same")) (O:zh7 (Ψ "_law_word")) (y:zia (Ψ "_law_told")) {m t k:Nat}{st:W}{v0 v2 v5 v6 v7:Option (W×Bool)} (r:HS k st) (Q:k+200<big) (D:1<=m) (j:m<=6) (K:t<=m) :
  ∃s o c b a,zvz Ψ #v[2,11]=Za ([v0,#v[s,5],v2,#v[kdW m t,6],Za (.lst ((zab m t).map tmW),o),c,b,a],.nx)/\HS (k+66) s:=by
 obtain⟨g,R⟩:=zbq (m:=m) (most:=t) j #v[];obtain⟨st1,x,I,G,l,C⟩:=z k st ((zab m t).length:Nat) r #v[] (Gs _) #v[];have l:(zab m t).length=x.length:=by symm
 have M:=z8r 0 g;have H:=z8r 1 g;have F:zam (zco #v[4,8]) #v[2,11]=Za (#v[3,15],[W.lst (x.map W.int),.lst ((tab (zab m t).length λ_=>0).map W.int),.lst ((tab (zab m t).length λ_=>1).map W.int)]):=by
  simp! [Ab,I,M,H]
 unfold zvz;obtain⟨L,h,o,c,b,a,rfl⟩:=zbs (mp:=[]) (T:=.nm 5) (body:=zp1 Ψ) (λi e=>∃o c b a,e=[v0,#v[st1,5],v2,#v[kdW m t,6],Za (.lst ((zab m t).map tmW),o),c,b,a]) (en:=#v[2,11]) (e0:=#v[3,15]) (ws:=[.lst (x.map W.int),.lst ((tab (zab m t).length λ_=>0).map W.int),.lst ((tab (zab m t).length λ_=>1).map W.int)]) F ⟨_,_,_,_,rfl⟩ λi w e f E=>by
  obtain⟨o,c,b,a,rfl⟩:=E;have N:∃d:List Int,w=.lst (d.map W.int)/\Bits d/\(zab m t).length=d.length:=by
   have:=Be f;simp only [Am,Ca,Ft] at this;rcases this with rfl|rfl|rfl
   ·exact⟨_,rfl,C,l⟩
   ·exact⟨_,rfl,zas λ_ _=>.inl rfl,(zat _ _).symm⟩
   ·exact⟨_,rfl,zas λ_ _=>.inr rfl,(zat _ _).symm⟩
  obtain⟨d,rfl,B,J⟩:=N;obtain⟨P,S,p⟩:=yal (Ψ:=Ψ) (v0:=v0) (v1:=#v[st1,5]) (v2:=v2) (v6:=b) (v7:=a) (o:=o) u A n q O y D j K B J;exact⟨_,_,rfl,.inl p,_,_,_,_,rfl⟩
 exact⟨st1,o,c,b,a,h,G⟩
theorem ybm {Ψ:Str->Fn} (X:zqh (Ψ "_law_kind")) (U:zdk (Ψ "_law_terms")) (P:z1g (Ψ "_law_due")) (Y:zwd (Ψ "_law_same")) (C:zl9 (Ψ "_law_bits")) (O:zfm (Ψ "_law_values")) (Q:zim (Ψ "word_with")) (J:zks (Ψ "_law_same")) (z:zmj (Ψ "_law_same")) (G:zh7 (Ψ "_law_word")) (A:zia (Ψ "_law_told")) {k:Nat}{st:W}{v0 v2 v3 v4 v5 v6 v7:Option (W×Bool)} (L:HS k st) (hk:k+900<big) :
  ∃s T S w F c,zrd Ψ [v0,#v[st,5],v2,v3,v4,v5,v6,v7]=Za ([v0,#v[s,5],v2,T,S,w,F,c],.nx)/\HS (k+134) s:=by
 obtain⟨b,m,t,e,R,j,h,p⟩:=X k st L #v[];have p6:=zd4 h;have p1:=pow1 (l:=m) #v[];have I:=U m t h #v[];obtain⟨f,o,w,F,c,V,Z⟩:=yaj (Ψ:=Ψ) (v0:=v0) (v2:=v2) (v5:=v5) (v6:=v6) (v7:=v7) C O Q J z G A R #v[] j h p;obtain⟨a,x,M,K,n,E⟩:=C (k+68) f ((2^m:Nat):Int) (Z.mono #v[]) #v[] (Gs _) #v[];have n:x.length=2^m:=by symm
 have B:=P m t x j h p E n;have g:=A m t (λi=>x.getD i 0) j h p λi=>z0e E i;rw[z04 n] at g;have N:=G x;have q:∃r:W,(if (t:Int)<mxL (lensI (duT m λi=>x.getD i 0)) (-1) then W.str "NotIn" else dgW m t λi=>x.getD i 0)=r/\Ψ "_law_same" [r,r]=Za ([r,r],#v[5,10]):=by
  refine⟨_,rfl,?_⟩;split
  ·exact Y
  ·have d:dgW m t (λi=>x.getD i 0)=.tup (((zab m t).map λu=>if u∈duT m (λi=>x.getD i 0) then (1:Int) else 0).map W.int):=by
    unfold dgW;rw[Ei];rfl
   obtain⟨H,ta⟩:=zbq (m:=m) (most:=t) h #v[];rw[d];exact z _ (by rw[Ab];exact H)
 obtain⟨r,y,q⟩:=q;rw[y] at B g;clear y;refine⟨a,#v[kdW m t,6],Za (.lst ((zab m t).map tmW),o),w,#v[(x.map W.int),1],c,?_,K.mono #v[]⟩;generalize zab m t=D at *
 unfold zrd;refine zda (e1:=[v0,#v[b,5],v2,#v[kdW m t,6],v4,v5,v6,v7]) ?_ (zda (e1:=[v0,#v[b,5],v2,#v[kdW m t,6],#v[(D.map tmW),2],v5,v6,v7]) ?_ (zda V (zda (e1:=[v0,#v[a,5],v2,#v[kdW m t,6],Za (.lst (D.map tmW),o),w,#v[(x.map W.int),2],c]) ?_ ?_)))
 ·simp! [e]
 ·unfold kdW;simp! [I]
 ·unfold kdW;simp! [p1,zcw,M]
 ·simp! [N,g,B,q]
theorem z79 {Ψ:Str->Fn} (I:zqh (Ψ "_law_kind")) (H:zdk (Ψ "_law_terms")) (C:z1g (Ψ "_law_due")) (J:zwd (Ψ "_law_same")) (D:zl9 (Ψ "_law_bits")) (A:zfm (Ψ "_law_values")) (E:zim (Ψ "word_with")) (t:zks (Ψ "_law_same")) (x:zmj (Ψ "_law_same")) (L:zh7 (Ψ "_law_word")) (B:zia (Ψ "_law_told")) {st:W}{ns:List Int} (z:HS 0 st) :
  ∃c,ztm Ψ #v[5,12]=Za (Za #v[9,7]::c,.nx):=by
 have O:(20000:Nat)<big:=by decide
 obtain⟨n,j,q,F,Q⟩:=ydi (b:=8) (n:=ns.length) #v[0,9];have q:oMin [.int 8,.int (ns.length:Nat)]=#v[(n:Nat),0]:=q;have r:seqW (.frl (ns.map W.int))=Za (ns.map W.int):=rfl;unfold ztm;obtain⟨c,h,s,o,k,f,d,m,l,rfl,_⟩:=zbs (mp:=[]) (T:=.nm 2) (body:=zrd Ψ) (λi e=>∃s o k f d m l,e=[Za #v[9,7],#v[s,5],o,k,f,d,m,l]/\HS (134*i) s) (z2v (a:=#v[0,13]) (en:=#v[5,12]) (e1:=#v[5,12]) (n:=j) (by simp! [r,Ab,q,F]) #v[]) ⟨_,_,_,_,_,_,_,rfl,z⟩ λi w e p G=>by
  obtain⟨s,o,k,f,d,m,l,rfl,g⟩:=G;obtain⟨R,rfl⟩:=ze2 p;obtain⟨y,S,U,M,N,P,u,K⟩:=ybm (Ψ:=Ψ) (v0:=Za #v[9,7]) (v2:=#v[(0+(i:Int)),0]) (v3:=k) (v4:=f) (v5:=d) (v6:=m) (v7:=l) I H C J D A E t x L B g #v[];exact⟨_,_,rfl,.inl u,_,_,_,_,_,_,_,rfl,K.mono #v[]⟩
 exact⟨_,h⟩
theorem z1h (ns:List Int)(m:ns.length<=63):sm 40 "law" [.frl (ns.map W.int)]=Za ([.frl (ns.map W.int)],#v[5,10]):=by
 rw[yc5];generalize a:sm 39=Ψ;have c:∀d,zqd (sm (d+3) "_law_take"):=λd=>by rw[zpf];exact z3x (sm 0)
 have b:∀d,zdk (sm (d+3) "_law_terms"):=λd=>by rw[zm1];exact zy5 (sm 0)
 have z:z2r (Ψ "_law_hand"):=by rw[<-a,zon];exact z7m (sm 0)
 have x:zqh (Ψ "_law_kind"):=by rw[<-a,znw];exact z7k (c _)
 have w:zdk (Ψ "_law_terms"):=by rw[<-a];exact b _
 have t:zl9 (Ψ "_law_bits"):=by rw[<-a,zn9];exact z6d (c _)
 have o:zfm (Ψ "_law_values"):=by rw[<-a,zjn];exact z2e _
 have B:zh7 (Ψ "_law_word"):=by rw[<-a,zpb];exact z5u (sm 0)
 have f:∀d,zks (sm (d+3) "_law_same"):=λd=>by rw[zd7];exact z87 _
 have j:zks (Ψ "_law_same"):=by rw[<-a];exact f _
 have k:zmj (Ψ "_law_same"):=by rw[<-a,zd7];exact λp h=>z7c (f _) p h
 have y:zwd (Ψ "_law_same"):=by rw[<-a,zd7];exact z4g _
 have q:z1g (Ψ "_law_due"):=by
  rw[<-a,zsq];exact z80 (by rw[zfo];exact zi1 (b _)) (b _)
 have g:∀d,zjp (sm (d+12) "steps"):=λd=>by
  rw[z6y];exact z1d (by rw[zwe];exact z7h (by rw[zob];exact ydd (by rw[zvg];exact zsx (sm 0))) (by rw[z5s];exact zyr (sm 0)) (by rw[ybv];exact z5y (sm 0)))
 have e:∀d,zfb (sm (d+6) "terms"):=λd=>by
  rw[z6q];exact z12 (Ψ':=sm 0) (by rw[zhp];rfl)
 have u:zim (Ψ "word_with"):=by
  rw[<-a,zos];refine z45 (e 32) ?_;rw[zux];exact zsa (by rw[zkb];exact zsg (sm 0)) (by rw[zkb];exact zoc (sm 0)) (g 25)
 have n:zia (Ψ "_law_told"):=by
  rw[<-a,znu];refine z46 (by rw[z1k];exact z84 (sm 0)) ?_ (e 31);rw[zwr];exact zrw (g 24) (by rw[z37];exact z1l (by rw[yay];exact z3u (sm 0))) (by rw[zkz];exact zze (sm 0))
 obtain⟨s,A,l⟩:=z ns m;obtain⟨i,r⟩:=z79 (ns:=ns) x w q y t o u j k B n l;unfold z7n;refine za8 (en:=Za #v[9,7]::i) rfl (zda (e1:=[Za #v[9,7],#v[s,5],Zb,Zb,Zb,Zb,Zb,Zb]) ?_ (zda r ?_)) rfl
 ·simp! [A]
 ·simp! []
noncomputable abbrev nA (K:Zg) (n:Str) (f:Zh):Prop:=PySem.W.nsIn K mainGlobals n=Za (Za (.ref f))
noncomputable abbrev nL (K:Zg) (f:Zh) (o:Ze) (e:Option Zh) (n:Str) (st:Stmt) (kV d pm:Ze) (a:Option Zh) (b c:Ze) (s:Array (Option Ze)):Prop:=K.lookup f=Za ⟨o,e,.func (PySem.W.fnOf n n (zft st) (zbh st) (zad st) .none kV d pm a b c),s⟩
noncomputable abbrev nC (K:Zg) (c:Ze) (n:Str):Prop:=PySem.W.codeIn K c n=Zd
noncomputable abbrev nK (K:Zg) (f:Zh):Prop:=PySem.W.keepIn K (.ref f)=Zd
abbrev nD (K:Zg) (t:Fd):Prop:=∃(f:Zh) (o:Ze) (e:Option Zh) (kV d p:Ze) (b:Option Zh) (c a:Ze) (s:Array (Option Ze)),nA K t.nm f/\nL K f o e t.nm t.st kV d p b c a s/\nC K c t.nm/\nK K f
theorem nD_i {K:Zg}{n:Str}{t:Fd}{f:Zh}{o:Ze}{i:Option Zh}{kV g pm:Ze}{h:Option Zh}{b d:Ze}{s:Array (Option Ze)}(e:t.nm=n)(a:nA K n f)(l:nL K f o i n t.st kV g pm h b d s)(c:nC K b n)(k:nK K f):nD K t:=by
 subst e;exact⟨_,_,_,_,_,_,_,_,_,_,a,l,c,k⟩
abbrev bO (t:Fd):Prop:=FnScope t.N t.ps (zad t.st)/\t.m.length=t.ps.length/\∀(kV doc p:Ze) (a:Option Zh) (cdv c:Ze) (u:List Ze),u.length=t.ps.length->bindArgs (PySem.W.fnOf t.nm t.nm (zft t.st) (zbh t.st) (zad t.st) .none kV doc p a cdv c) ⟨u,[]⟩=pure (t.ps.zip u)
theorem ycl {K:Zg}{h:Heap}{m:Str->Option Ze}(X:K.In h)(G:h.Ns mainGlobals m){t:Fd}(b:bO t)(e:t.nm∈lams->zys K t.nm=Zd)(d:nD K t):FdOk K m t:=by
 obtain⟨f,o,q,kV,i,p,j,n,g,s,a,l,c,k⟩:=d;have F:=z2j (st:=t.st) l c k;exact⟨b.1,b.2.1,⟨_,_,F,F.binds b.2.2,Di X G a⟩,e⟩
theorem all_c {α:Type}{P:α->Prop}{a:α}{l:List α}(h:P a)(r:∀x∈l,P x):∀x∈a::l,P x:=List.forall_mem_cons.mpr ⟨h,r⟩
theorem all_n {α:Type}{P:α->Prop}:∀x∈([]:List α),P x:=λ_ h=>nomatch h
@[elab_as_elim] theorem lenS {α:Type}{P:List α->Prop}{n:Nat} (us:List α) (b:us.length=n+1) (h:∀a l,l.length=n->P (a::l)):P us:=by
 cases us with
 |nil=>cases b
 |cons a l=>exact h a l (Nat.succ.inj b)
@[elab_as_elim] theorem len0 {α:Type}{P:List α->Prop} (us:List α) (b:us.length=0) (h:P []):P us:=by
 cases us with
 |nil=>exact h
 |cons a l=>cases b
@[elab_as_elim] theorem len1 {α:Type}{P:List α->Prop} (us:List α) (b:us.length=1) (h:∀a,P [a]):P us:=lenS us b λa l e=>len0 l e (h a)
@[elab_as_elim] theorem len2 {α:Type}{P:List α->Prop} (us:List α) (c:us.length=2) (h:∀a b,P [a,b]):P us:=lenS us c λa l e=>lenS l e λb l e=>len0 l e (h a b)
@[elab_as_elim] theorem len3 {α:Type}{P:List α->Prop} (us:List α) (d:us.length=3) (h:∀a b c,P [a,b,c]):P us:=lenS us d λa l e=>len2 l e (h a)
theorem zsl:bO zeh:=#v[7,7]
theorem z4c:bO zq3:=#v[1,7]
theorem zza:bO zjo:=#v[7,7]
theorem zsn:bO ze1:=#v[7,7]
theorem z5z:bO zp9:=#v[1,7]
theorem zyw:bO zi6:=#v[1,7]
theorem zku:bO zcy:=#v[1,7]
theorem zro:bO zek:=⟨#v[0,0,5],rfl,λ_ _ _ _ _ _ u h=>len3 u h λ_ _ _=>rfl⟩
theorem zyx:bO zja:=#v[1,7]
theorem zjf:bO zca:=#v[7,7]
theorem zxe:bO zf8:=#v[7,7]
theorem zry:bO zez:=#v[1,7]
theorem zsw:bO zec:=#v[1,7]
theorem zg3:bO zbl:=#v[1,7]
theorem z03:bO ziu:=#v[7,7]
theorem zlj:bO zcs:=#v[1,7]
theorem zkc:bO zb4:=#v[1,7]
theorem zlr:bO zcz:=#v[7,7]
theorem zll:bO zcv:=#v[1,7]
theorem zk7:bO zct:=#v[1,7]
theorem zlg:bO zcq:=#v[7,7]
theorem ziv:bO zb8:=#v[1,7]
theorem zhq:bO zbv:=#v[1,7]
theorem zep:bO za5:=#v[1,7]
theorem zkn:bO zc2:=#v[1,7]
theorem zge:bO zbk:=#v[7,7]
theorem zkj:bO zc4:=#v[7,7]
theorem zk9:bO zc0:=#v[1,7]
theorem znl:bO zdu:=#v[1,7]
theorem ybp:bO zns:=#v[7,7]
abbrev ClsF (K:Zg):Prop:=∃(a f d e C b c:Zh),nA K "YesNoError" a/\nA K "NoFit" f/\nA K "NoLine" d/\nA K "NoMost" e/\nA K "NotIn" C/\nA K "NoText" b/\nA K "TooFar" c/\PySem.W.excIn K a vmB vNew=Zd/\PySem.W.excIn K C vmB vNew=Zd/\excQ K C=Zd/\L2.subIn K C a=Zd/\PySem.W.kitOne K (.ref C) (.ref f)=Za Zc/\PySem.W.kitOne K (.ref C) (.ref d)=Za Zc/\PySem.W.kitOne K (.ref C) (.ref e)=Za Zc/\PySem.W.kitOne K (.ref C) (.ref C)=Za Zd/\PySem.W.kitOne K (.ref C) (.ref b)=Za Zc/\PySem.W.kitOne K (.ref C) (.ref c)=Za Zc/\PySem.W.kitOne K (.ref C) (.type "ValueError")=Za Zd
theorem cls_i {K:Zg}{d j n m C k l:Zh}(t:nA K "YesNoError" d)(v:nA K "NoFit" j)(x:nA K "NoLine" n)(u:nA K "NoMost" m)(q:nA K "NotIn" C)(p:nA K "NoText" k)(o:nA K "TooFar" l)(w:PySem.W.excIn K d vmB vNew=Zd)(r:PySem.W.excIn K C vmB vNew=Zd)(s:excQ K C=Zd)(c:L2.subIn K C d=Zd)(a:PySem.W.kitOne K (.ref C) (.ref j)=Za Zc)(f:PySem.W.kitOne K (.ref C) (.ref n)=Za Zc)(e:PySem.W.kitOne K (.ref C) (.ref m)=Za Zc)(g:PySem.W.kitOne K (.ref C) (.ref C)=Za Zd)(h:PySem.W.kitOne K (.ref C) (.ref k)=Za Zc)(b:PySem.W.kitOne K (.ref C) (.ref l)=Za Zc)(i:PySem.W.kitOne K (.ref C) (.type "ValueError")=Za Zd):ClsF K:=⟨_,_,_,_,_,_,_,t,v,x,u,q,p,o,w,r,s,c,a,f,e,g,h,b,i⟩
theorem ybl {K:Zg}{h:Heap}{a:Str->Option Ze}(X:K.In h)(G:h.Ns mainGlobals a)(F:ClsF K):∃g,XCls K a "YesNoError" g/\∀c∈CS,∃C,a c=Za (.ref C)/\XCls K a c C/\L2.subIn K C g=Zd/\zzu K a C c:=by
 obtain⟨q,D,I,g,A,E,H,u,y,B,x,n,r,p,z,o,t,e,b,i,f,j,k,d,l⟩:=F;refine⟨q,⟨Di X G u,z⟩,λc s=>?_⟩;obtain rfl:=Ax.mp s;have M:=Di X G n;exact⟨A,M,⟨M,o⟩,e,"NotIn",Zc,Zc,Zc,Zd,Zc,Zc,3,⟨M,o⟩,t,⟨⟨_,Di X G y,b⟩,⟨_,Di X G B,i⟩,⟨_,Di X G x,f⟩,⟨_,Di X G n,j⟩,⟨_,Di X G r,k⟩,⟨_,Di X G p,d⟩⟩,l,by decide,by decide,λm w=>by rcases m with _|_|_|m<;>first|rfl|(exact absurd w #v[]),by decide⟩
theorem all_mk {l:PySem.W.OpenLaw}{w:World}{K:Zg}{h:Heap}{m:Str->Option Ze}{i:Zh} (X:K.In h) (G:h.Ns mainGlobals m) (d:m "law" = Za (.ref i)) (D:∀t∈T,nD K t) (M:∀x∈(["_law_terms","law"]:List Str),zys K x=Zd) (Z:∀x∈bn,PySem.W.nsIn K mainGlobals x=Za Zb) (p:PySem.W.nsIn K mainGlobals "ValueError" = Za Zb) (z:ClsF K) :
  ∃o:FuncData,(∀(s:Zf) (v:Ze),BindsTo s o ⟨[v],[]⟩ [("_law_script",v)])/\∀base:Heap,K.In base->base.Ns mainGlobals m->FnOk l.prog w K m base CX0 40 i o ["_law_script"] (spF K [Zc] (sm 40 "law")):=by
 have B:∀t∈T,bO t:=all_c zsl (all_c z4c (all_c zza (all_c zsn (all_c z5z (all_c zyw (all_c zku (all_c zro (all_c zyx (all_c zjf (all_c zxe (all_c zry (all_c zsw (all_c zg3 (all_c z03 (all_c zlj (all_c zkc (all_c zlr (all_c zll (all_c zk7 (all_c zlg (all_c ziv (all_c zhq (all_c zep (all_c zkn (all_c zge (all_c zkj (all_c zk9 (all_c znl (all_c ybp (all_n))))))))))))))))))))))))))))));have q:∀t∈T,t.nm∈lams->t.nm∈(["_law_terms","law"]:List Str):=by decide +kernel
 obtain⟨f,P,H,kV,N,J,Q,O,L,E,a,C,c,k⟩:=D zns (by simp [T]);have F:=z2j (st:=zns.st) C c k;have e:=d.symm.trans (Di X G a);cases e;have ok:∀t∈T,FdOk K m t:=λt g=>ycl X G (B t g) (λr=>M _ (q t g r)) (D t g);have b:∀x∈bn,m x=Zb:=λx A=>PySem.W.mg_none_of X G (Z x A);obtain⟨I,u,y⟩:=ybl X G z;exact⟨_,λs v=>.of_eq rfl,λbase j n=>(zqo nd_T ok b j n (λh=>absurd h #v[0,0,7]) (z9z ok b j n u (b _ #v[0,0,7]) (PySem.W.mg_none_of X G p) y) 40).1 zns (by simp [T]) _ _ F (Di X G a)⟩
theorem walk {l:PySem.W.OpenLaw}{q:Program}{b:List Str}{X:(Str->Option Ze)->Heap->Prop}{Y:World->Heap->Prop}{d:DefRec}{K:Params->Zg} (B:l.most=Za 63) (g:d.params.defaults=[])
  (D:∀(w:World) (h:Heap),Y w h->(K w.params).In h)
  (y:∀w:World,PySem.W.noTabs (K w.params)=Zd) (C:∀w:World,zwb (K w.params)=Zd) (hrec:∀(w:World),∀x∈lams,∀c P,PySem.W.tabIn (K w.params) x=Za (c,P)->∃d,(recsOf q).find? (λe=>e.name==x)=Za d)
  (F:∀(w:World) (m:Str->Option Ze) (i:Zh) (h:Heap),(K w.params).In h->h.Ns mainGlobals m->m d.name=Za (.ref i) ->
   ∃p:FuncData,(∀(s:Zf) (u:Ze),BindsTo s p ⟨[u],[]⟩ [("_law_script",u)])/\∀base:Heap,(K w.params).In base->base.Ns mainGlobals m->FnOk l.prog w (K w.params) m base CX0 40 i p ["_law_script"] (spF (K w.params) [Zc] (sm 40 "law"))) :
  PySem.W.WalkO q b X Y l.row.toRowW d [] (λf A=>PySem.call f A) :=
 L2.walk_ofT (n:=63) (k:=40) (x := "_law_script") (CX:=λ_=>CX0) (sp:=λw=>spF (K w.params) [Zc] (sm 40 "law")) B #v[0,9] g ⟨rfl,by decide,by decide,rfl⟩ D y C hrec F (λ_ _ _ a j r o t=>zr6 o.sub o.tb t (ws':=[.frl (j.map W.int)]) (z1h j r) rfl) λ_ _ _ _ _ z=>z
end My
open PySem PySem.W PyProof.Rows
set_option maxRecDepth 100000 in
set_option maxHeartbeats 0 in
theorem PySem.Challenge.cw_yesnowords_k19_digits_and_words_holds : PySem.Challenge.rw_yesnowords_k19_digits_and_words.Holds := by
 w_on;o_law;k_head;(case hw=>w_witness2)
 k_fill
 refine My.walk (l:=PySem.Challenge.rw_yesnowords_k19_digits_and_words) rfl rfl (fun w h Y=>by first | exact PySem.W.kIn_of Y | exact PySem.W.km_in_of Y) ?nt ?nd ?hrec ?F
 case nt=>exact fun w=>by kernel_rfl
 case nd=>exact fun w=>by kernel_rfl
 case hrec =>
  intro w x hx c P e;simp only [L2.lams,Am,Ca,Ft] at hx;rcases hx with rfl | rfl | rfl | rfl | rfl
  ·exact Fh.mp (by kernel_rfl)
  ·exact nomatch (Eq.trans (by kernel_rfl) e:(none:Option (Addr × Addr))=some (c,P))
  ·exact nomatch (Eq.trans (by kernel_rfl) e:(none:Option (Addr × Addr))=some (c,P))
  ·exact nomatch (Eq.trans (by kernel_rfl) e:(none:Option (Addr × Addr))=some (c,P))
  ·exact Fh.mp (by kernel_rfl)
 case F =>
  intro w mg fa h KX G hmg;refine My.all_mk KX G hmg ?xD ?xM ?xZ ?xV ?xC
  case xV=>k_is
  case xC =>
   refine' My.cls_i ?_ ?_ ?_ ?_ ?_ ?_ ?_ ?_ ?_ ?_ ?_ ?_ ?_ ?_ ?_ ?_ ?_ ?_
   any_goals (first | (delta My.nA;k_is) | k_is | kernel_rfl)
  case xM=>exact My.all_c (by kernel_rfl) (My.all_c (by kernel_rfl) (My.all_n))
  case xZ =>
   refine' My.all_c ?_ (My.all_c ?_ (My.all_c ?_ (My.all_c ?_ (My.all_c ?_ (My.all_c ?_ (My.all_c ?_ (My.all_c ?_ (My.all_c ?_ (My.all_c ?_ (My.all_c ?_ (My.all_c ?_ (My.all_c ?_ (My.all_c ?_ (My.all_c ?_ (My.all_c ?_ (My.all_c ?_ (My.all_n)))))))))))))))))
   any_goals k_is
  case xD =>
   refine' My.all_c (My.nD_i (n := "all_yes") rfl ?_ ?_ ?_ ?_) (My.all_c (My.nD_i (n := "says") rfl ?_ ?_ ?_ ?_) (My.all_c (My.nD_i (n := "where") rfl ?_ ?_ ?_ ?_) (My.all_c (My.nD_i (n := "word_at") rfl ?_ ?_ ?_ ?_) (My.all_c (My.nD_i (n := "plus") rfl ?_ ?_ ?_ ?_) (My.all_c (My.nD_i (n := "times") rfl ?_ ?_ ?_ ?_) (My.all_c (My.nD_i (n := "letter_no") rfl ?_ ?_ ?_ ?_) (My.all_c (My.nD_i (n := "stepped") rfl ?_ ?_ ?_ ?_) (My.all_c (My.nD_i (n := "steps") rfl ?_ ?_ ?_ ?_) (My.all_c (My.nD_i (n := "term_order") rfl ?_ ?_ ?_ ?_) (My.all_c (My.nD_i (n := "degree") rfl ?_ ?_ ?_ ?_) (My.all_c (My.nD_i (n := "word_of") rfl ?_ ?_ ?_ ?_) (My.all_c (My.nD_i (n := "poly_of") rfl ?_ ?_ ?_ ?_) (My.all_c (My.nD_i (n := "longer_terms") rfl ?_ ?_ ?_ ?_) (My.all_c (My.nD_i (n := "terms") rfl ?_ ?_ ?_ ?_) (My.all_c (My.nD_i (n := "word_with") rfl ?_ ?_ ?_ ?_) (My.all_c (My.nD_i (n := "digits_of") rfl ?_ ?_ ?_ ?_) (My.all_c (My.nD_i (n := "_law_hand") rfl ?_ ?_ ?_ ?_) (My.all_c (My.nD_i (n := "_law_take") rfl ?_ ?_ ?_ ?_) (My.all_c (My.nD_i (n := "_law_bits") rfl ?_ ?_ ?_ ?_) (My.all_c (My.nD_i (n := "_law_word") rfl ?_ ?_ ?_ ?_) (My.all_c (My.nD_i (n := "_law_terms") rfl ?_ ?_ ?_ ?_) (My.all_c (My.nD_i (n := "_law_values") rfl ?_ ?_ ?_ ?_) (My.all_c (My.nD_i (n := "_law_poly_terms") rfl ?_ ?_ ?_ ?_) (My.all_c (My.nD_i (n := "_law_same") rfl ?_ ?_ ?_ ?_) (My.all_c (My.nD_i (n := "_law_refusal") rfl ?_ ?_ ?_ ?_) (My.all_c (My.nD_i (n := "_law_kind") rfl ?_ ?_ ?_ ?_) (My.all_c (My.nD_i (n := "_law_told") rfl ?_ ?_ ?_ ?_) (My.all_c (My.nD_i (n := "_law_due") rfl ?_ ?_ ?_ ?_) (My.all_c (My.nD_i (n := "law") rfl ?_ ?_ ?_ ?_) (My.all_n))))))))))))))))))))))))))))))
   any_goals (first | (delta My.nA;k_is) | (delta My.nL;k_is) | (delta My.nC;k_is) | (delta My.nK;k_is) | k_is)